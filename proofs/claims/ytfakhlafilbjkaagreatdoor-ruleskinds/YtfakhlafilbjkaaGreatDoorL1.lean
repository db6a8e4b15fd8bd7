/- L1 -/
import Derived.Test.YtfakhlafilbjkaaGreatDoorL0
set_option maxRecDepth 100000
set_option maxHeartbeats 1000000
namespace Go.Proofs.YtfakhlafilbjkaaGreatDoor
open Go.Proofs.Tryz
section
open Go.RowKit
open Sh
abbrev By:=L8
structure Hd where
 (s p:BitVec 64) (a b c:By)
structure Hd.Ok(h:Hd):Prop where
 a:h.a.length=32
 b:h.b.length=32
 c:h.c.length=32
def Hd.cs(h:Hd):List Value:=U64 h.s::U64 h.p::(h.a.map U8++(h.b.map U8++h.c.map U8))
def Hd.by(h:Hd):By:=le8 h.s 8++(le8 h.p 8++(h.a++(h.b++h.c)))
theorem Hd.len{h:Hd}(k:h.Ok):h.cs.length=98:=by simp[Hd.cs,k.a,k.b,k.c]
theorem er{pre mid post:List Value}{o:Nat}(ho:pre.length=o): ∀j v,mid[j]? =some v->(pre++(mid++post))[o+j]? =some v:=λj v hv=>by
 have hj:=(List.getElem?_eq_some_iff.1 hv).1;rw[List.getElem?_append_right om,show o+j-pre.length=j from by omega,List.getElem?_append_left hj]
 exact hv
theorem eP{pre mid:List Value}{o:Nat}(ho:pre.length=o): ∀j v,mid[j]? =some v->(pre++mid)[o+j]? =some v:=λj v hv=>by
 rw[List.getElem?_append_right om,show o+j-pre.length=j from by omega]
 exact hv
theorem bh{cs ds es:List Value}{o p:Nat}(h1: ∀j v,ds[j]? =some v->cs[o+j]? =some v)(h2: ∀j v,es[j]? =some v->ds[p+j]? =some v): ∀j v,es[j]? =some v->cs[(o+p)+j]? =some v:=λj v hv=>by
 have:=h1 _ v (h2 j v hv);rw[<-Nat.add_assoc]at this;exact this
theorem Hd.at_a{h:Hd}: ∀j v,(h.a.map U8)[j]? =some v->h.cs[2+j]? =some v:=er (pre:=[U64 h.s,U64 h.p]) O
theorem Hd.at_b{h:Hd}(k:h.Ok): ∀j v,(h.b.map U8)[j]? =some v->h.cs[34+j]? =some v:=bh (o:=2) (p:=32) (eP (pre:=[U64 h.s,U64 h.p]) O) (er (by rw[List.length_map,k.a]))
theorem Hd.at_c{h:Hd}(k:h.Ok): ∀j v,(h.c.map U8)[j]? =some v->h.cs[66+j]? =some v:=bh (o:=2) (p:=64) (eP (pre:=[U64 h.s,U64 h.p]) O) (bh (o:=32) (p:=32) (eP (by rw[List.length_map,k.a])) (eP (by rw[List.length_map,k.b])))
def RwsAt(s:Nat)(w:World)(a:Option Addr)(l:List By):Prop:= ∀i r,l[i]? =some r->∃ad,a=some ad/\∀j v,(r.map U8)[j]? =some v->w.cell? ((ad.add (i*s)).add j)=some v
theorem RwsAt.grow{s:Nat}{w w':World}{a:Option Addr}{l:List By}(h:RwsAt s w a l)(hg:Grow w w'):RwsAt s w' a l:=λi r hr=>by
 obtain ⟨ad,e,h1⟩:=h i r hr;exact ⟨ad,e,λj v hv=>(hg.cell (block_lt_of_cell (h1 j v hv))).trans (h1 j v hv)⟩
theorem RwsAt.mm{s:Nat}{M:Nat->Prop}{w w':World}{a:Option Addr}{l:List By}(h:RwsAt s w a l)(hm:MM M w w')(ha:l≠[]->∀k,Of a k->¬M k):RwsAt s w' a l:=λi r hr=>by
 obtain ⟨ad,e,h1⟩:=h i r hr;refine ⟨ad,e,λj v hv=> ?_⟩;have hc:=h1 j v hv;have hl:=block_lt_of_cell hc;have e2:((ad.add (i*s)).add j).block=ad.block:=(gq _ _).trans (gq _ _);rw[World.cell?_of_block (w:=w) (hm.keep _ hl (by rw[e2];exact ha (λh0=>by subst h0;simp at hr) _ ⟨ad,e,rfl⟩))]
 exact hc
theorem RwsAt.lt{s:Nat}{w:World}{a:Option Addr}{l:List By}(h:RwsAt s w a l)(hs:0<s)(hl: ∀r∈l,r.length=s)(h0:l≠[]): ∀k,Of a k->k<w.heap.size:=λk ⟨ad,e,hk⟩=>by
 obtain ⟨x,r,rfl⟩: ∃x r,l=x::r:=by
  cases l with
  |nil=>exact absurd O h0
  |cons x r=>exact ⟨x,r,rfl⟩
 obtain ⟨ad',e',h1⟩:=h 0 x O;have hx:=hl x (List.mem_cons_self ..);have:=block_lt_of_cell (h1 0 _ (by rw[List.getElem?_map,List.getElem?_eq_getElem om];rfl))
 rw[e]at e'
 cases e'
 rw[(gq _ _).trans (gq _ _)]at this;omega
structure Co where
 (ks:List By) (ka:Option Addr) (kc:Nat) (sum:By)
structure Co.Ok(c:Co):Prop where
 ks: ∀r∈c.ks,r.length=48
 sum:c.sum.length=48
 n:c.ks.length<=c.kc
def Co.cs(c:Co):List Value:=.slice c.ka c.ks.length c.kc::c.sum.map U8
structure Ag where
 (bs:List Bool) (ba:Option Addr) (bc:Nat) (sig:By)
structure Ag.Ok(a:Ag):Prop where
 sig:a.sig.length=96
def Ag.cs(a:Ag):List Value:=.slice a.ba a.bs.length a.bc::a.sig.map U8
structure Up where
 (at_:Hd) (nx:Co) (br:By) (fi:Hd) (fy:By) (sy:Ag) (sl:BitVec 64)
structure Up.Ok(u:Up):Prop where
 at_:u.at_.Ok
 nx:u.nx.Ok
 br:u.br.length=160
 fi:u.fi.Ok
 fy:u.fy.length=192
 sy:u.sy.Ok
def Up.cs(u:Up):List Value:=u.at_.cs++(u.nx.cs++(u.br.map U8++(u.fi.cs++(u.fy.map U8++(u.sy.cs++[U64 u.sl])))))
structure Bo where
 (hd:Hd) (nw:Co) (br:By)
structure Bo.Ok(b:Bo):Prop where
 hd:b.hd.Ok
 nw:b.nw.Ok
 br:b.br.length=160
def Bo.cs(b:Bo):List Value:=b.hd.cs++(b.nw.cs++b.br.map U8)
theorem Co.len{c:Co}(k:c.Ok):c.cs.length=49:=by simp[Co.cs,k.sum]
theorem Ag.len{a:Ag}(k:a.Ok):a.cs.length=97:=by simp[Ag.cs,k.sig]
def Z48:By:=List.replicate 48 0#8
def Is(ks:List By)(n:Nat):By:=((List.range n).map λi=>ks.getD i Z48).flatten
def Co.by(c:Co)(n:Nat):By:=Is c.ks n++c.sum
def Ag.by(a:Ag):By:=pb a.bs a.bs.length++a.sig
def Up.by(u:Up):By:=u.at_.by++(u.nx.by u.sy.bs.length++(u.br++(u.fi.by++(u.fy++(u.sy.by++le8 u.sl 8)))))
def Up.fin(u:Up):By:=u.at_.by++(u.fi.by++(u.fy++(u.sy.by++le8 u.sl 8)))
def Bo.by(b:Bo):By:=b.hd.by++(b.nw.by b.nw.ks.length++b.br)
theorem Up.l1{u:Up}: ∀j v,u.at_.cs[j]? =some v->u.cs[0+j]? =some v:=er (pre:=[]) O
theorem Up.l2{u:Up}(k:u.Ok): ∀j v,u.nx.cs[j]? =some v->u.cs[98+j]? =some v:=er (Hd.len k.at_)
theorem Up.r2{u:Up}(k:u.Ok): ∀j v,(u.br.map U8++(u.fi.cs++(u.fy.map U8++(u.sy.cs++[U64 u.sl]))))[j]? =some v->u.cs[147+j]? =some v:=bh (o:=98) (p:=49) (eP (Hd.len k.at_)) (eP (Co.len k.nx))
theorem Up.l3{u:Up}(k:u.Ok): ∀j v,(u.br.map U8)[j]? =some v->u.cs[147+j]? =some v:=bh (o:=147) (p:=0) (Up.r2 k) (er (pre:=[]) O)
theorem Up.r3{u:Up}(k:u.Ok): ∀j v,(u.fi.cs++(u.fy.map U8++(u.sy.cs++[U64 u.sl])))[j]? =some v->u.cs[307+j]? =some v:=bh (o:=147) (p:=160) (Up.r2 k) (eP (by rw[List.length_map,k.br]))
theorem Up.l4{u:Up}(k:u.Ok): ∀j v,u.fi.cs[j]? =some v->u.cs[307+j]? =some v:=bh (o:=307) (p:=0) (Up.r3 k) (er (pre:=[]) O)
theorem Up.r4{u:Up}(k:u.Ok): ∀j v,(u.fy.map U8++(u.sy.cs++[U64 u.sl]))[j]? =some v->u.cs[405+j]? =some v:=bh (o:=307) (p:=98) (Up.r3 k) (eP (Hd.len k.fi))
theorem Up.l5{u:Up}(k:u.Ok): ∀j v,(u.fy.map U8)[j]? =some v->u.cs[405+j]? =some v:=bh (o:=405) (p:=0) (Up.r4 k) (er (pre:=[]) O)
theorem Up.r5{u:Up}(k:u.Ok): ∀j v,(u.sy.cs++[U64 u.sl])[j]? =some v->u.cs[597+j]? =some v:=bh (o:=405) (p:=192) (Up.r4 k) (eP (by rw[List.length_map,k.fy]))
theorem Up.l6{u:Up}(k:u.Ok): ∀j v,u.sy.cs[j]? =some v->u.cs[597+j]? =some v:=bh (o:=597) (p:=0) (Up.r5 k) (er (pre:=[]) O)
theorem Up.l7{u:Up}(k:u.Ok): ∀j v,[U64 u.sl][j]? =some v->u.cs[694+j]? =some v:=bh (o:=597) (p:=97) (Up.r5 k) (eP (Ag.len k.sy))
theorem Up.len{u:Up}(k:u.Ok):u.cs.length=695:=by simp[Up.cs,Hd.len k.at_,Co.len k.nx,k.br,Hd.len k.fi,k.fy,Ag.len k.sy]
theorem Bo.l1{b:Bo}: ∀j v,b.hd.cs[j]? =some v->b.cs[0+j]? =some v:=er (pre:=[]) O
theorem Bo.l2{b:Bo}(k:b.Ok): ∀j v,b.nw.cs[j]? =some v->b.cs[98+j]? =some v:=er (Hd.len k.hd)
theorem Bo.l3{b:Bo}(k:b.Ok): ∀j v,(b.br.map U8)[j]? =some v->b.cs[147+j]? =some v:=bh (o:=98) (p:=49) (eP (Hd.len k.hd)) (eP (Co.len k.nw))
theorem Bo.len{b:Bo}(k:b.Ok):b.cs.length=307:=by simp[Bo.cs,Hd.len k.hd,Co.len k.nw,k.br]
theorem Co.a_sum{c:Co}: ∀j v,(c.sum.map U8)[j]? =some v->c.cs[1+j]? =some v:=eP (pre:=[.slice c.ka c.ks.length c.kc]) O
theorem Ag.a_sig{a:Ag}: ∀j v,(a.sig.map U8)[j]? =some v->a.cs[1+j]? =some v:=eP (pre:=[.slice a.ba a.bs.length a.bc]) O
def nR(n:BitVec 64):Rt:=dZ (le8 n 8)
theorem mM(n:BitVec 64):(nR n).length=32:=eJ (by rw[d6];decide)
def Hd.fs(h:Hd):List Rt:=[nR h.s,nR h.p,h.a,h.b,h.c]
theorem cJ{x:Rt}{l:List Rt}(hx:x.length=32)(h:AllR l):AllR (x::l):=λr hr=>by
 rcases List.mem_cons.1 hr with rfl|hr
 ·exact hx
 ·exact h r hr
theorem jI:AllR []:=λ_ h=>by simp at h
theorem Hd.fs_all{h:Hd}(k:h.Ok):AllR h.fs:=cJ (mM _) (cJ (mM _) (cJ k.a (cJ k.b (cJ k.c jI))))
def Hd.rt(h:Hd):Rt:=Tor h.fs
theorem Hd.rt_len{h:Hd}(k:h.Ok):h.rt.length=32:=cv (Hd.fs_all k)
def krs(ks:List By)(n:Nat):List Rt:=(List.range n).map λi=>BR8 (ks.getD i Z48)
theorem eY(ks:List By)(n:Nat):AllR (krs ks n):=λr hr=>by
 obtain ⟨i,_,rfl⟩:=List.mem_map.1 hr;exact dy _
theorem i7(ks:List By)(n:Nat):(krs ks n).length=n:=by simp[krs]
def Co.rt(c:Co)(n:Nat):Rt:=Tor [Tor (krs c.ks n),BR8 c.sum]
theorem Co.fs_all(c:Co)(n:Nat):AllR [Tor (krs c.ks n),BR8 c.sum]:=cJ (cv (eY _ _)) (cJ (dy _) jI)
theorem Co.rt_len(c:Co)(n:Nat):(c.rt n).length=32:=cv (Co.fs_all c n)
def Ag.rt(a:Ag):Rt:=Tor [BR8 (pb a.bs a.bs.length),BR8 a.sig]
theorem Ag.fs_all(a:Ag):AllR [BR8 (pb a.bs a.bs.length),BR8 a.sig]:=cJ (dy _) (cJ (dy _) jI)
theorem Ag.rt_len(a:Ag):a.rt.length=32:=cv (Ag.fs_all a)
def dh(bs:By)(n:Nat):List Rt:=(List.range n).map λi=>(bs.drop (32*i)).take 32
theorem fN(bs:By)(n:Nat):(dh bs n).length=n:=by simp[dh]
theorem ed{bs:By}{n:Nat}(h:bs.length=32*n):AllR (dh bs n):=λr hr=>by
 obtain ⟨i,hi,rfl⟩:=List.mem_map.1 hr;have:=List.mem_range.1 hi;rw[List.length_take,List.length_drop];omega
def Up.fs(u:Up):List Rt:=[u.at_.rt,u.nx.rt u.sy.bs.length,Tor (dh u.br 5),u.fi.rt,Tor (dh u.fy 6),u.sy.rt,nR u.sl]
def Bo.fs(b:Bo):List Rt:=[b.hd.rt,b.nw.rt b.nw.ks.length,Tor (dh b.br 5)]
theorem Up.fs_all{u:Up}(k:u.Ok):AllR u.fs:=cJ (Hd.rt_len k.at_) (cJ (Co.rt_len _ _) (cJ (cv (ed k.br)) (cJ (Hd.rt_len k.fi) (cJ (cv (ed k.fy)) (cJ (Ag.rt_len _) (cJ (mM _) jI))))))
theorem Bo.fs_all{b:Bo}(k:b.Ok):AllR b.fs:=cJ (Hd.rt_len k.hd) (cJ (Co.rt_len _ _) (cJ (cv (ed k.br)) jI))
theorem ss{w:World}{a:Option Addr}{bs:By}{n:Nat}(hl:bs.length=32*n)(h:BytesAt w a bs):RtsAt w a (dh bs n):=λi r hr=>by
 have hi:i<n:=by have:=(List.getElem?_eq_some_iff.1 hr).1;rwa [fN]at this
 have hr2:r=(bs.drop (32*i)).take 32:=by
  rw[dh,List.getElem?_map,List.getElem?_range hi]at hr;exact (Option.some.inj hr).symm
 subst hr2;obtain ⟨ad,rfl,_⟩:=h 0 _ (by rw[List.getElem?_map,List.getElem?_eq_getElem om];rfl)
 refine ⟨ad,rfl,λj v hv=> ?_⟩;rw[List.map_take,List.map_drop,List.getElem?_take]at hv;split at hv
 ·rw[List.getElem?_drop]at hv
  obtain ⟨ad2,e2,h2⟩:=h _ v hv
  cases e2
  rw[sM,show i*32+j=32*i+j from by omega]
  exact h2
 ·cases hv
end
section
open Go.RowKit
open Sh
theorem mq{l:List Rt}{i:Nat}(h:i<l.length):l.getD i []∈l:=by
 rw[List.getD_eq_getElem?_getD,List.getElem?_eq_getElem h];exact List.getElem_mem h
theorem mQ(bm:Nat)(k:By)(hk:k.length=48)(w:World)(hw:Gt w)(ho:iN w bm):CLS 121 [.agg [pnt bm].toArray,.agg (k.map U8).toArray].toArray w (λe w'=>e=.returned (.agg ((BR8 k).map U8).toArray)/\Grow w w'):=by
 refine Hf func121 O hw<|λhGF=>Xp<|Bx 2 hGF O<|λb2=>Bx 3 hGF O<|λb3=>Al 4 hGF zv28<|λb4=>aa<|Xd []<|aq 2 O O isAgg47 sizeOf47 O O O<|ef (n:=48) O underlying33 sizeOf5 aC O O<|Cc O ent152 (λw' hw' hG=>by rw[<-hk];exact yl bm k (by rw[hk];decide) _ k.length (Nat.le_refl _) w' hG (ho.of_same ((ae hw').block _ ho.lt)) (BytesAt.range (av (n:=3) O w' hw')))<|ai 4 hGF O O O sizeOf28 (by rw[List.length_map];exact dy _) (by rw[List.length_map];exact cH) (bp _) O<|aa<|ao<|Rr<|?_
 exact aF 4 O O O isAgg28 sizeOf28 (by rw[List.length_map];exact dy _) (λw' hw'=>⟨rfl,ae hw'⟩)
theorem qt(bm:Nat)(h:Hd)(hk:h.Ok)(w:World)(hw:Gt w)(ho:iN w bm):CLS 34 [.agg [pnt bm].toArray,.agg h.cs.toArray].toArray w (λe w'=>e=.returned (.agg ((h.rt).map U8).toArray)/\Grow w w'):=by
 refine Hf func34 O hw<|λhGF=>am (E:=EE [2999998])<|Bx 2 hGF O<|λb2=>Bx 3 hGF O<|λb3=>Al 4 hGF zv28<|λb4=>aa<|Xd [2999998]<|aq 2 O O isAgg47 sizeOf47 O O O<|Fa 0 O underlying30 O sizeOf22<|aQ (v:=U64 h.s) O isAgg22 (λw' hw'=>(av (n:=3) O w' hw') 0 _ O) O O<|Cc O ent75 (λw' hw' hG=>mR h.s w' hG)<|?_;rw[show dZ (le8 h.s 8)=nR h.s from O];refine Fa 1 O underlying30 O sizeOf22<|aQ (v:=U64 h.p) O isAgg22 (λw' hw'=>(av (n:=3) O w' hw') 1 _ O) O O<|Cc O ent75 (λw' hw' hG=>mR h.p w' hG)<|?_;rw[show dZ (le8 h.p 8)=nR h.p from O];refine Fa 2 O underlying30 O sizeOf28<|ay (cs:=h.a.map U8) O isAgg28 sizeOf28 (by rw[List.length_map];exact hk.a) (λw' hw' j v hv=>by have:=(av (n:=3) O w' hw') _ v (Hd.at_a j v hv);rwa [Nat.zero_add]at this) O O<|Fa 34 O underlying30 O sizeOf28<|ay (cs:=h.b.map U8) O isAgg28 sizeOf28 (by rw[List.length_map];exact hk.b) (λw' hw' j v hv=>by have:=(av (n:=3) O w' hw') _ v (Hd.at_b hk j v hv);rwa [Nat.zero_add]at this) O O<|Fa 66 O underlying30 O sizeOf28<|ay (cs:=h.c.map U8) O isAgg28 sizeOf28 (by rw[List.length_map];exact hk.c) (λw' hw' j v hv=>by have:=(av (n:=3) O w' hw') _ v (Hd.at_c hk j v hv);rwa [Nat.zero_add]at this) O O<|j1 (uf:=U8) (s:=32) 18 (λi=>(h.fs).getD i []) (List.replicate 32 0#8) hGF O O O (λi hi=>(Hd.fs_all hk) _ (mq hi)) aC aC underlying86 sizeOf27 O zv27 O O<|?_
 intro b18;rw[show RW 32 (λi=>(h.fs).getD i []) 5=(h.fs).flatten from iY (h.fs) (Hd.fs_all hk)];refine Cc O ent76 (λw' hw' hG=>qs bm (h.fs) (Hd.fs_all hk) (by show 5<=1000000;decide) _ 5 (Nat.le_refl 5) w' hG (ho.of_same ((ae hw').block _ ho.lt)) (ip (n:=18) (Hd.fs_all hk) O (List.take_of_length_le (by rw[List.length_map,cR _ (Hd.fs_all hk)];exact Nat.le_refl _)) w' hw'))<|ai 4 hGF O O O sizeOf28 (by rw[List.length_map];exact Hd.rt_len hk) (by rw[List.length_map];exact cH) (bp _) O<|aa<|ao<|Rr<|?_
 exact aF 4 O O O isAgg28 sizeOf28 (by rw[List.length_map];exact Hd.rt_len hk) (λw' hw'=>⟨rfl,ae hw'⟩)
end
section
open Go.RowKit
open Sh
theorem ent120:aJ prog 120:=λ_ _=>kr
theorem ent84:aJ prog 84:=λ_ _=>kr
theorem ent46:aJ prog 46:=λ_ _=>kr
theorem zvK(w:World):(zeroValue 33).run prog w=.ok (.agg (Z48.map U8).toArray) w:=(zeroValue33 w).trans aE
structure KI(w0 w:World)(bm b3 b6:Nat)(a:Option Addr)(cap n:Nat)(f:Nat->By):Prop where
 ap:ApR w0 w a cap n f
 o3:OwnB w b3 [pnt bm] 47
 o6:OwnB w b6 (Z0.map U8) 27
 nb: ∀k,Of a k->¬k=b3/\¬k=b6
theorem KI.next{w0 w w1 w2:World}{bm b3 b6:Nat}{a a1:Option Addr}{cap cap1 n:Nat}{f:Nat->By}(h:KI w0 w bm b3 b6 a cap n f)(hf:(f n).length=32)(hg:Grow w w1)(g2:Gt w2)(hm:MM (Of a) w1 w2)(hs:SlW 27 32 w2 a1 cap1 (n+1) ((RW 32 f n).map U8++(f n).map U8))(ho: ∀k,Of a1 k->Of a k\/w1.heap.size<=k):KI w0 w2 bm b3 b6 a1 cap1 (n+1) f where
 ap:=h.ap.next hf hg g2 hm hs ho
 o3:=hm.own (h.o3.grow hg) (λhk=>(h.nb _ hk).1 O)
 o6:=hm.own (h.o6.grow hg) (λhk=>(h.nb _ hk).2 O)
 nb:=λk hk=>by
  rcases ho k hk with h1|h1
  ·exact h.nb k h1
  ·have h2:=(h.o3.grow hg).lt
   have h3:=(h.o6.grow hg).lt;exact ⟨om,om⟩
theorem sB(ks:List By)(n:Nat):RW 32 (λi=>BR8 (ks.getD i Z48)) n=(krs ks n).flatten:=by
 rw[<-iY _ (eY ks n),i7];refine Bl λi hi=> ?_;have e:(krs ks n)[i]? =some (BR8 (ks.getD i Z48)):=by rw[krs,List.getElem?_map,List.getElem?_range hi];rfl
 show BR8 (ks.getD i Z48)=((krs ks n)[i]?).getD [];rw[e];rfl
theorem FA{w:World}{e:TypeId}{s:Nat}{a:Option Addr}{cap n:Nat}{xs:List Value}(h:SlW e s w a cap n xs):n<=cap:=by
 rcases h with ⟨_,_,h,_⟩|⟨_,_,_,_,_,h,_⟩<;>omega
theorem xP(bm:Nat)(ks:List By)(h48: ∀r∈ks,r.length=48)(ka:Option Addr)(kc n:Nat)(hn:n<=1000)(w:World)(hw:Gt w)(ho:iN w bm)(hks0:RwsAt 48 w ka ks):CLS 120 [.agg [pnt bm].toArray,.slice ka ks.length kc,I (n:Int)].toArray w (λe w'=>e=.returned (.agg ((Tor (krs ks n)).map U8).toArray)/\Grow w w'):=by
 refine Hf func120 O hw<|λhGF=>Xp<|Bx 3 hGF O<|λb3=>Al 6 hGF zv27<|λb6=>aa<|?_;refine iJ gt_low (λw3 hC g3=> ?_);have hK:KI w w3 bm b3 b6 none 0 0 (λi=>BR8 (ks.getD i Z48)):=⟨⟨g3,ae hC,.inl ⟨rfl,rfl,rfl,rfl⟩,λ_ h=>by cases h⟩,(hC.own 3 _ _ _ O).1,(hC.own 6 _ _ _ O).1,λk ⟨ad,e,_⟩=>by cases e⟩
 have h6w:w.heap.size<=b6:=(hC.own 6 _ _ _ O).2.elim id False.elim;clear hC;have hGF:=gt_low.plain g3;refine Xp<|Asg O<|aa<|ah<|Xp<|Asg O<|aa<|ar<|j6 gt_low (ι:={x:Nat×World×Option Addr×Nat // x.1<=n/\KI w x.2.1 bm b3 b6 x.2.2.1 x.2.2.2 x.1 (λi=>BR8 (ks.getD i Z48))}) (λx=>[(1,.slice ka ks.length kc),(2,I (n:Int)),(3,pnt b3),(6,pnt b6),(7,.slice x.1.2.2.1 x.1.1 x.1.2.2.2),(8,I (x.1.1:Int))]) (λx=>x.1.2.1) (λx=>n-x.1.1) ⟨(0,w3,none,0),Nat.zero_le _,hK⟩ (λx=>x.2.2.ap.g) O trv<|?_;clear hK hGF;rintro ⟨⟨k,wk,ak,cak⟩,hkn,hK⟩;dsimp only at hkn hK⊢;have hGF:=gt_low.plain hK.ap.g;have hks:=hks0.grow hK.ap.m;refine ah<|Xp<|Mv O<|Mv O<|?_;rcases Nat.lt_or_ge k n with hlt|hge
 ·refine Bnb true O O (λ_=>aI _ _ _) (by simp;omega)<|aa<|aP O<|aw<|ah<|ar<|Xp<|Al 9 hGF zvK<|λb9=>aa<|ah<|Xp<|Mv O<|Mv O<|bB O (λ_=>aO underlying31 _ _ _ _) O O<|?_
  rcases Nat.lt_or_ge k ks.length with hik|hik
  ·obtain ⟨y,hiy⟩: ∃y,ks[k]? =some y:=⟨_,List.getElem?_eq_getElem hik⟩
   have hy:y.length=48:=h48 y (List.mem_of_getElem? hiy);obtain ⟨ad,hka,hyc⟩:=hks k y hiy;have hgD:ks.getD k Z48=y:=by rw[List.getD_eq_getElem?_getD,hiy];rfl
   refine Bnb true O O (λ_=>aI _ _ _) (by simp;omega)<|aa<|aP O<|Xq<|Mv O<|Mv O<|d7 (ad:=ad) k 48 (by rw[<-hka];rfl) O underlying31 sizeOf33 O hik O O<|bx (cs:=y.map U8) O isAgg33 sizeOf33 (by rw[List.length_map];exact hy) (λw' h j v hv=>((ae h).cell (block_lt_of_cell (hyc j v hv))).trans (hyc j v hv)) O O<|ai 9 hGF O O O sizeOf33 (by rw[List.length_map];exact hy) (by rw[List.length_map];rfl) (bp _) O<|aa<|Xq<|Mv O<|ay (cs:=[pnt bm]) O isAgg47 sizeOf47 O (λw' h=>(hK.o3.grow (ae h)).range) O O<|aq 9 O O isAgg33 sizeOf33 (by rw[List.length_map];exact hy) O O<|Cc O ent121 (λw' hw' hG=>mQ bm y hy w' hG (ho.of_same ((hK.ap.m.trans (ae hw')).block _ ho.lt)))<|iD 27 ((BR8 y).map U8) hGF O (by rw[List.length_map];exact dy y) aC aC underlying86 sizeOf27 zv27 O O<|?_
   intro b27;refine kK (ys:=(BR8 y).map U8) gt_low (λw' h=>hGF.g _ _ _ h) O O underlying86 underlying86 tiR (by simp[Value.cells]) (λw' h=>hK.ap.s.grow (ae h)) (hK.ap.low hw) (by rw[List.length_map];exact dy y) (av (n:=27) O) (bp _) (λw' h hof=>absurd (hK.ap.s.lt _ hof) (Nat.not_lt.2 ((h.own 27 _ _ _ O).2.elim id False.elim))) om om O O (λw1 w2 a1 cap1 hC g2 hm hs ho=> ?_)
   have hK2:KI w w2 bm b3 b6 a1 cap1 (k+1) (λi=>BR8 (ks.getD i Z48)):=hK.next (dy _) (ae hC) g2 hm (by rw[hgD];exact hs) ho
   have hGF:BOk Gt (pl w2):=gt_low.plain g2;refine Asg O<|aa<|Xq<|Mv O<|Bnr (v:=I (((k+1:Nat):Int))) O O (λ_=>(az _ _ _ aG).trans aE)<|Asg O<|aa<|?_
   repeat (refine bg ?_)
   exact aV<|⟨rfl,⟨(k+1,w2,a1,cap1),hlt,hK2⟩,by show n-(k+1)<n-k;omega,rfl,trv⟩
  ·have hy:Z48.length=48:=rfl
   have hgD:ks.getD k Z48=Z48:=by rw[List.getD_eq_getElem?_getD,List.getElem?_eq_none hik];rfl
   refine Bnb false O O (λ_=>aI _ _ _) (by rw[decide_eq_false_iff_not];omega)<|aa<|aH O<|aw<|Xq<|Mv O<|ay (cs:=[pnt bm]) O isAgg47 sizeOf47 O (λw' h=>(hK.o3.grow (ae h)).range) O O<|aq 9 O O isAgg33 sizeOf33 (by rw[List.length_map];exact hy) O O<|Cc O ent121 (λw' hw' hG=>mQ bm Z48 hy w' hG (ho.of_same ((hK.ap.m.trans (ae hw')).block _ ho.lt)))<|iD 27 ((BR8 Z48).map U8) hGF O (by rw[List.length_map];exact dy Z48) aC aC underlying86 sizeOf27 zv27 O O<|?_
   intro b27;refine kK (ys:=(BR8 Z48).map U8) gt_low (λw' h=>hGF.g _ _ _ h) O O underlying86 underlying86 tiR (by simp[Value.cells]) (λw' h=>hK.ap.s.grow (ae h)) (hK.ap.low hw) (by rw[List.length_map];exact dy Z48) (av (n:=27) O) (bp _) (λw' h hof=>absurd (hK.ap.s.lt _ hof) (Nat.not_lt.2 ((h.own 27 _ _ _ O).2.elim id False.elim))) om om O O (λw1 w2 a1 cap1 hC g2 hm hs ho=> ?_)
   have hK2:KI w w2 bm b3 b6 a1 cap1 (k+1) (λi=>BR8 (ks.getD i Z48)):=hK.next (dy _) (ae hC) g2 hm (by rw[hgD];exact hs) ho
   have hGF:BOk Gt (pl w2):=gt_low.plain g2;refine Asg O<|aa<|Xq<|Mv O<|Bnr (v:=I (((k+1:Nat):Int))) O O (λ_=>(az _ _ _ aG).trans aE)<|Asg O<|aa<|?_
   repeat (refine bg ?_)
   exact aV<|⟨rfl,⟨(k+1,w2,a1,cap1),hlt,hK2⟩,by show n-(k+1)<n-k;omega,rfl,trv⟩
 ·obtain rfl:n=k:=om
  have hSl:SlW 27 32 wk ak cak (krs ks n).length ((krs ks n).flatten.map U8):=by have h:=hK.ap.s;unfold SlR at h;rw[sB]at h;rw[i7];exact h
  have hRt:=hSl.rts (eY ks n);have hKc:n<=cak:=by have:=FA hSl;rwa [i7]at this
  refine Bnb false O O (λ_=>aI _ _ _) (by rw[decide_eq_false_iff_not];omega)<|aa<|aH O<|bj<|Xd []<|ay (cs:=[pnt bm]) O isAgg47 sizeOf47 O (λw' h=>(hK.o3.grow (ae h)).range) O O<|Mv O<|Mv O<|Cc O ent113 (λw' _ hG=>il (n:Int) w' hG)<|?_
  rw[Int.toNat_natCast];refine Cc O ent65 (λw' hw' hG=>dE bm _ (by have:=(mS n).1;omega) (krs ks n) (eY ks n) n (i7 ks n) om ak cak hKc w' hG (ho.of_same ((hK.ap.m.trans (ae hw')).block _ ho.lt)) (hRt.grow (ae hw'))) ?_
  rw[show tre P2 Z0 (dep n) (krs ks n)=Tor (krs ks n)from by rw[Tor,i7]]
  refine fD (vs:=(Tor (krs ks n)).map U8) gt_low (λw' h=>hGF.g _ _ _ h) (λw' h=>hK.o6.grow (ae h)) (Nat.le_trans (gt_low.size w hw) h6w) O O sizeOf27 (by rw[List.length_map];exact cv (eY _ _)) (bp _) (by rw[List.length_map,cv (eY _ _)];decide) O (λw5a w5 hC5 g5 hm5 ho6=> ?_)
  rw[dg _ _ (by rw[List.length_map,cv (eY _ _)];rfl)]at ho6
  have hW:=hm5.grow0 (hK.ap.m.trans (ae hC5)) (λk hk=>hk▸h6w);have hGF:=gt_low.plain g5;clear hC5 hm5;refine aa<|ao<|Rr<|?_;exact dU O O isAgg27 sizeOf27 (by rw[List.length_map];exact cv (eY _ _)) (λw' h=>(ho6.grow (ae h)).range) (λw' hw'=>⟨rfl,hW.trans (ae hw')⟩)
end
section
open Go.RowKit
open Sh
theorem Co.all{c:Co}: ∀j v,c.cs[j]? =some v->c.cs[0+j]? =some v:=λj v hv=>by rw[Nat.zero_add];exact hv
theorem Co.a0{c:Co}: ∀j v,[Value.slice c.ka c.ks.length c.kc][j]? =some v->c.cs[0+j]? =some v:=er (pre:=[]) O
theorem Ag.a0{a:Ag}: ∀j v,[Value.slice a.ba a.bs.length a.bc][j]? =some v->a.cs[0+j]? =some v:=er (pre:=[]) O
theorem Up.ab{u:Up}(k:u.Ok): ∀j v,[Value.slice u.sy.ba u.sy.bs.length u.sy.bc][j]? =some v->u.cs[597+j]? =some v:=bh (o:=597) (p:=0) (Up.l6 k) Ag.a0
theorem Bo.ak{b:Bo}(k:b.Ok): ∀j v,[Value.slice b.nw.ka b.nw.ks.length b.nw.kc][j]? =some v->b.cs[98+j]? =some v:=bh (o:=98) (p:=0) (Bo.l2 k) Co.a0
theorem yp(bm:Nat)(c:Co)(hk:c.Ok)(n:Nat)(hn:n<=1000)(w:World)(hw:Gt w)(ho:iN w bm)(hks:RwsAt 48 w c.ka c.ks):CLS 84 [.agg [pnt bm].toArray,.agg c.cs.toArray,I (n:Int)].toArray w (λe w'=>e=.returned (.agg ((c.rt n).map U8).toArray)/\Grow w w'):=by
 refine Hf func84 O hw<|λhGF=>am (E:=EE [2999998])<|Bx 3 hGF O<|λb3=>Bx 4 hGF O<|λb4=>Al 6 hGF zv28<|λb6=>aa<|Xd [2999998]<|aq 3 O O isAgg47 sizeOf47 O O O<|aq 3 O O isAgg47 sizeOf47 O O O<|Fa 0 O underlying35 O sizeOf31<|aQ (v:=.slice c.ka c.ks.length c.kc) O isAgg31 (λw' hw'=>by have:=(av (n:=4) O w' hw') _ _ (Co.a0 0 _ O);exact this) O O<|Mv O<|Cc O ent120 (λw' hw' hG=>xP bm c.ks hk.ks c.ka c.kc n hn w' hG (ho.of_same ((ae hw').block _ ho.lt)) (hks.grow (ae hw')))<|aq 3 O O isAgg47 sizeOf47 O O O<|Fa 1 O underlying35 O sizeOf33<|ay (cs:=c.sum.map U8) O isAgg33 sizeOf33 (by rw[List.length_map];exact hk.sum) (λw' hw' j v hv=>by have:=(av (n:=4) O w' hw') _ v (Co.a_sum j v hv);rwa [Nat.zero_add]at this) O O<|Cc O ent121 (λw' hw' hG=>mQ bm c.sum hk.sum w' hG (ho.of_same ((ae hw').block _ ho.lt)))<|j1 (uf:=U8) (s:=32) 17 (λi=>([Tor (krs c.ks n),BR8 c.sum]).getD i []) (List.replicate 32 0#8) hGF O O O (λi hi=>(Co.fs_all c n) _ (mq hi)) aC aC underlying86 sizeOf27 O zv27 O O<|?_
 intro b17;rw[show RW 32 (λi=>([Tor (krs c.ks n),BR8 c.sum]).getD i []) 2=([Tor (krs c.ks n),BR8 c.sum]).flatten from iY ([Tor (krs c.ks n),BR8 c.sum]) (Co.fs_all c n)];refine Cc O ent76 (λw' hw' hG=>qs bm ([Tor (krs c.ks n),BR8 c.sum]) (Co.fs_all c n) (by show 2<=1000000;decide) _ 2 (Nat.le_refl 2) w' hG (ho.of_same ((ae hw').block _ ho.lt)) (ip (n:=17) (Co.fs_all c n) O (List.take_of_length_le (by rw[List.length_map,cR _ (Co.fs_all c n)];exact Nat.le_refl _)) w' hw'))<|ai 6 hGF O O O sizeOf28 (by rw[List.length_map];exact cv (Co.fs_all c n)) (by rw[List.length_map];exact cH) (bp _) O<|aa<|ao<|Rr<|?_
 exact aF 6 O O O isAgg28 sizeOf28 (by rw[List.length_map];exact cv (Co.fs_all c n)) (λw' hw'=>⟨rfl,ae hw'⟩)
theorem qq(bm:Nat)(c:Co)(hk:c.Ok)(hn:c.ks.length<=1000)(w:World)(hw:Gt w)(ho:iN w bm)(hks:RwsAt 48 w c.ka c.ks):CLS 46 [.agg [pnt bm].toArray,.agg c.cs.toArray].toArray w (λe w'=>e=.returned (.agg ((c.rt c.ks.length).map U8).toArray)/\Grow w w'):=by
 refine Hf func46 O hw<|λhGF=>Xp<|Bx 2 hGF O<|λb2=>Bx 3 hGF O<|λb3=>Al 4 hGF zv28<|λb4=>aa<|Xp<|aq 2 O O isAgg47 sizeOf47 O O O<|ay (cs:=c.cs) O isAgg35 sizeOf35 (Co.len hk) (λw' hw' j v hv=>by have:=(av (n:=3) O w' hw') _ v (Co.all j v hv);rwa [Nat.zero_add]at this) O O<|Fa 0 O underlying35 O sizeOf31<|aQ (v:=.slice c.ka c.ks.length c.kc) O isAgg31 (λw' hw'=>by have:=(av (n:=3) O w' hw') _ _ (Co.a0 0 _ O);exact this) O O<|bB O (λ_=>aO underlying31 _ _ _ _) O O<|Cc O ent84 (λw' hw' hG=>yp bm c hk c.ks.length hn w' hG (ho.of_same ((ae hw').block _ ho.lt)) (hks.grow (ae hw')))<|ai 4 hGF O O O sizeOf28 (by rw[List.length_map];exact Co.rt_len _ _) (by rw[List.length_map];exact cH) (bp _) O<|aa<|ao<|Rr<|?_
 exact aF 4 O O O isAgg28 sizeOf28 (by rw[List.length_map];exact Co.rt_len _ _) (λw' hw'=>⟨rfl,ae hw'⟩)
end
section
open Go.RowKit
def BL:Array Value->Sem Value:=λargs=>do
 let (x,y,b)<-Extern.MathBitsCarry.three "Sub64" args
 pure (Extern.MathBitsCarry.pair ((x+Extern.MathBitsCarry.m64-y-b) % Extern.MathBitsCarry.m64) (if x<y+b then 1 else 0))
theorem dJ(x y c:BitVec 64)(hc:c.toNat<=1)(w:World):(callFunc 133 [U64 x,U64 y,U64 c].toArray).run prog w=.ok (.value (.tuple #[U64 (ADC x y c).1,U64 (ADC x y c).2])) w:=by
 show (callFunc 133 #[U64 x,U64 y,U64 c]).run prog w=_;rw[run_callFunc_extern func133 kr kr kr (e:=add64Entry) kr];simp only[U64];rw[run_add64 _ _ _ om om om om];have h1:=x.isLt;have h2:=y.isLt;have e1:((x.toNat:Int)+(y.toNat:Int)+(c.toNat:Int)) % 18446744073709551616=((ADC x y c).1.toNat:Int):=by simp only[ADC,BitVec.toNat_ofNat];omega
 have e2:((x.toNat:Int)+(y.toNat:Int)+(c.toNat:Int)) / 18446744073709551616=((ADC x y c).2.toNat:Int):=by simp only[ADC,BitVec.toNat_ofNat];omega
 rw[e1,e2];rfl
theorem E3(x y c:BitVec 64)(hc:c.toNat<=1)(w:World):(callFunc 134 [U64 x,U64 y,U64 c].toArray).run prog w=.ok (.value (.tuple #[U64 (SBB x y c).1,U64 (SBB x y c).2])) w:=by
 show (callFunc 134 #[U64 x,U64 y,U64 c]).run prog w=_;rw[run_callFunc_extern func134 kr kr kr (e:=BL) kr];have key: ∀b:Nat,b<=1->(BL #[.int .u64 (x.toNat:Int),.int .u64 (y.toNat:Int),.int .u64 (b:Int)]).run prog w=
  .ok (.tuple #[.int .u64 (((x.toNat+18446744073709551616-y.toNat-b) % 18446744073709551616:Nat):Int),.int .u64 ((if x.toNat<y.toNat+b then 1 else 0:Nat):Int)]) w:=λb hb=>by
  have:b=0\/b=1:=om;rcases this with rfl|rfl<;>rfl
 simp only[U64];rw[key _ hc];simp only[Result.andThen,SBB,BitVec.toNat_ofNat];congr 5;split<;>rfl
theorem ent210:aJ prog 210:=λ_ _=>kr
theorem ent175:aJ prog 175:=λ_ _=>kr
theorem ent319:aJ prog 319:=λ_ _=>kr
theorem ent340:aJ prog 340:=λ_ _=>kr
theorem zv119(w:World):(zeroValue 119).run prog w=.ok (bd (List.replicate 6 (0#64))) w:=(zeroValue119 w).trans aE
theorem zv120(w:World):(zeroValue 120).run prog w=.ok (bd (List.replicate 6 (0#64))) w:=(zeroValue120 w).trans aE
theorem zv342(w:World):(zeroValue 342).run prog w=.ok (bd (List.replicate 12 (0#64))) w:=(zeroValue342 w).trans aE
theorem zv32(w:World):(zeroValue 32).run prog w=.ok (.agg ((List.replicate 48 (0#8)).map U8).toArray) w:=(zeroValue32 w).trans aE
theorem pI(a b:L6)(ha:a.length=6)(hb:b.length=6):PUR 282 [bd (a),bd (b)] (.tuple #[bd ((AS a b 6).1),U64 (AS a b 6).2]):=by
 intro w hw;refine Hf func282 O hw<|λhGF=>Xp<|Bx 2 hGF O<|λb2=>Bx 3 hGF O<|λb3=>Al 4 hGF zv119<|λb4=>Asg O<|aa<|Xp<|Al 6 hGF zv119<|λb6=>aa<|Xp<|Asg O<|aa<|ah<|Xp<|Mv O<|aa<|ar<|bS (ι:={i:Nat // i<=6}) (λx=>[(2,pnt b2),(3,pnt b3),(4,pnt b4),(6,pnt b6),(7,U64 (AS a b x.1).2),(9,I (x.1:Int))]) (λx=>[(2,b2,a.map U64,119),(3,b3,b.map U64,119),(4,b4,(List.replicate 6 0#64).map U64,119),(6,b6,(AS a b x.1).1.map U64,119)]) (λx=>6-x.1) ⟨0,om⟩ hGF trv trv<|?_;rintro ⟨i,hi⟩;dsimp only;refine Xp<|Bnr O O (λ_=>aI _ _ _)<|aa<|ah<|?_;refine co O (λhc=> ?_) (λhc=> ?_)
 ·simp only[decide_eq_true_eq]at hc
  refine aw<|ah<|ar<|Xp<|Mv O<|Asg O<|aa<|Xe []<|Mv O<|Mv O<|Ia (i) O O underlying119 sizeOf22<|Lmq 2 U64 0 O O isAgg22 (by rw[ha];omega)<|Mv O<|Ia (i) O O underlying119 sizeOf22<|Lmq 3 U64 0 O O isAgg22 (by rw[hb];omega)<|Mv O<|bI O O (λw=>dJ _ _ _ (uP a b i) w) O O<|Mv O<|Exq O O<|Exq O O<|Ia (i) O O underlying119 sizeOf22<|bK 6 U64 hGF O O O sizeOf22 O (by rw[bN];omega) O<|Asg O<|aa<|Xq<|Bnr O O (λ_=>az _ _ _ aG)<|Mv O<|aa<|?_
  repeat (refine bg ?_)
  exact aV<|⟨rfl,⟨i+1,om⟩,_,by show 6-(i+1)<6-i;omega,rfl,trv,trv⟩
 ·obtain rfl:i=6:=by simp at hc;omega
  refine bj<|Xp<|Lw 6 O O bR (bN _ _ _)<|Mv O<|Sw 4 hGF O O O bR (bN _ _ _)<|Asg O<|aa<|ao<|Rr<|?_;exact ce 4 O O O O isAgg119 sizeOf119 (by rw[List.length_map,bN]) (λw hw=>⟨rfl,ae hw⟩)
theorem jX(a b:L6)(ha:a.length=6)(hb:b.length=6):PUR 281 [bd (a),bd (b)] (.tuple #[bd ((SS a b 6).1),U64 (SS a b 6).2]):=by
 intro w hw;refine Hf func281 O hw<|λhGF=>Xp<|Bx 2 hGF O<|λb2=>Bx 3 hGF O<|λb3=>Al 4 hGF zv119<|λb4=>Asg O<|aa<|Xp<|Al 6 hGF zv119<|λb6=>aa<|Xp<|Asg O<|aa<|ah<|Xp<|Mv O<|aa<|ar<|bS (ι:={i:Nat // i<=6}) (λx=>[(2,pnt b2),(3,pnt b3),(4,pnt b4),(6,pnt b6),(7,U64 (SS a b x.1).2),(9,I (x.1:Int))]) (λx=>[(2,b2,a.map U64,119),(3,b3,b.map U64,119),(4,b4,(List.replicate 6 0#64).map U64,119),(6,b6,(SS a b x.1).1.map U64,119)]) (λx=>6-x.1) ⟨0,om⟩ hGF trv trv<|?_;rintro ⟨i,hi⟩;dsimp only;refine Xp<|Bnr O O (λ_=>aI _ _ _)<|aa<|ah<|?_;refine co O (λhc=> ?_) (λhc=> ?_)
 ·simp only[decide_eq_true_eq]at hc
  refine aw<|ah<|ar<|Xp<|Mv O<|Asg O<|aa<|Xe []<|Mv O<|Mv O<|Ia (i) O O underlying119 sizeOf22<|Lmq 2 U64 0 O O isAgg22 (by rw[ha];omega)<|Mv O<|Ia (i) O O underlying119 sizeOf22<|Lmq 3 U64 0 O O isAgg22 (by rw[hb];omega)<|Mv O<|bI O O (λw=>E3 _ _ _ (pM a b i) w) O O<|Mv O<|Exq O O<|Exq O O<|Ia (i) O O underlying119 sizeOf22<|bK 6 U64 hGF O O O sizeOf22 O (by rw[bq];omega) O<|Asg O<|aa<|Xq<|Bnr O O (λ_=>az _ _ _ aG)<|Mv O<|aa<|?_
  repeat (refine bg ?_)
  exact aV<|⟨rfl,⟨i+1,om⟩,_,by show 6-(i+1)<6-i;omega,rfl,trv,trv⟩
 ·obtain rfl:i=6:=by simp at hc;omega
  refine bj<|Xp<|Lw 6 O O bR (bq _ _ _)<|Mv O<|Sw 4 hGF O O O bR (bq _ _ _)<|Asg O<|aa<|ao<|Rr<|?_;exact ce 4 O O O O isAgg119 sizeOf119 (by rw[List.length_map,bq]) (λw hw=>⟨rfl,ae hw⟩)
theorem jp(a b:L6)(ha:a.length=6)(hb:b.length=6):PUR 99 [bd (a),bd (b)] (.tuple #[bd ((AS a b 6).1),U64 (AS a b 6).2]):=by
 intro w hw;refine Hf func99 O hw<|λhGF=>Xp<|Bx 2 hGF O<|λb2=>Bx 3 hGF O<|λb3=>Al 4 hGF zv120<|λb4=>Asg O<|aa<|Xp<|Al 6 hGF zv120<|λb6=>aa<|Xp<|Asg O<|aa<|ah<|Xp<|Asg O<|aa<|ar<|bS (ι:={i:Nat // i<=6}) (λx=>[(2,pnt b2),(3,pnt b3),(4,pnt b4),(6,pnt b6),(7,U64 (AS a b x.1).2),(8,I (x.1:Int))]) (λx=>[(2,b2,a.map U64,120),(3,b3,b.map U64,120),(4,b4,(List.replicate 6 0#64).map U64,120),(6,b6,(AS a b x.1).1.map U64,120)]) (λx=>6-x.1) ⟨0,om⟩ hGF trv trv<|?_;rintro ⟨i,hi⟩;dsimp only;refine ah<|Xp<|Mv O<|Bnr O O (λ_=>aI _ _ _)<|aa<|?_;refine co O (λhc=> ?_) (λhc=> ?_)
 ·simp only[decide_eq_true_eq]at hc
  refine aw<|ah<|ar<|Xe []<|Mv O<|Mv O<|Ia (i) O O underlying120 sizeOf22<|Lmq 2 U64 0 O O isAgg22 (by rw[ha];omega)<|Mv O<|Ia (i) O O underlying120 sizeOf22<|Lmq 3 U64 0 O O isAgg22 (by rw[hb];omega)<|Mv O<|bI O O (λw=>dJ _ _ _ (uP a b i) w) O O<|Mv O<|Exq O O<|Exq O O<|Ia (i) O O underlying120 sizeOf22<|bK 6 U64 hGF O O O sizeOf22 O (by rw[bN];omega) O<|Asg O<|aa<|Xq<|Mv O<|Bnr O O (λ_=>az _ _ _ aG)<|Asg O<|aa<|?_
  repeat (refine bg ?_)
  exact aV<|⟨rfl,⟨i+1,om⟩,_,by show 6-(i+1)<6-i;omega,rfl,trv,trv⟩
 ·obtain rfl:i=6:=by simp at hc;omega
  refine bj<|Xp<|Lw 6 O O bY (bN _ _ _)<|Mv O<|Sw 4 hGF O O O bY (bN _ _ _)<|Asg O<|aa<|ao<|Rr<|?_;exact ce 4 O O O O isAgg120 sizeOf120 (by rw[List.length_map,bN]) (λw hw=>⟨rfl,ae hw⟩)
theorem ee(a b:L6)(ha:a.length=6)(hb:b.length=6):PUR 100 [bd (a),bd (b)] (.tuple #[bd ((SS a b 6).1),U64 (SS a b 6).2]):=by
 intro w hw;refine Hf func100 O hw<|λhGF=>Xp<|Bx 2 hGF O<|λb2=>Bx 3 hGF O<|λb3=>Al 4 hGF zv120<|λb4=>Asg O<|aa<|Xp<|Al 6 hGF zv120<|λb6=>aa<|Xp<|Asg O<|aa<|ah<|Xp<|Asg O<|aa<|ar<|bS (ι:={i:Nat // i<=6}) (λx=>[(2,pnt b2),(3,pnt b3),(4,pnt b4),(6,pnt b6),(7,U64 (SS a b x.1).2),(8,I (x.1:Int))]) (λx=>[(2,b2,a.map U64,120),(3,b3,b.map U64,120),(4,b4,(List.replicate 6 0#64).map U64,120),(6,b6,(SS a b x.1).1.map U64,120)]) (λx=>6-x.1) ⟨0,om⟩ hGF trv trv<|?_;rintro ⟨i,hi⟩;dsimp only;refine ah<|Xp<|Mv O<|Bnr O O (λ_=>aI _ _ _)<|aa<|?_;refine co O (λhc=> ?_) (λhc=> ?_)
 ·simp only[decide_eq_true_eq]at hc
  refine aw<|ah<|ar<|Xe []<|Mv O<|Mv O<|Ia (i) O O underlying120 sizeOf22<|Lmq 2 U64 0 O O isAgg22 (by rw[ha];omega)<|Mv O<|Ia (i) O O underlying120 sizeOf22<|Lmq 3 U64 0 O O isAgg22 (by rw[hb];omega)<|Mv O<|bI O O (λw=>E3 _ _ _ (pM a b i) w) O O<|Mv O<|Exq O O<|Exq O O<|Ia (i) O O underlying120 sizeOf22<|bK 6 U64 hGF O O O sizeOf22 O (by rw[bq];omega) O<|Asg O<|aa<|Xq<|Mv O<|Bnr O O (λ_=>az _ _ _ aG)<|Asg O<|aa<|?_
  repeat (refine bg ?_)
  exact aV<|⟨rfl,⟨i+1,om⟩,_,by show 6-(i+1)<6-i;omega,rfl,trv,trv⟩
 ·obtain rfl:i=6:=by simp at hc;omega
  refine bj<|Xp<|Lw 6 O O bY (bq _ _ _)<|Mv O<|Sw 4 hGF O O O bY (bq _ _ _)<|Asg O<|aa<|ao<|Rr<|?_;exact ce 4 O O O O isAgg120 sizeOf120 (by rw[List.length_map,bq]) (λw hw=>⟨rfl,ae hw⟩)
theorem kA(a b:L6)(ha:a.length=6)(hb:b.length=6):PUR 211 [bd (a),bd (b)] (.bool (LT a b 6)):=by
 intro w hw;refine Hf func211 O hw<|λhGF=>Xp<|Bx 2 hGF O<|λb2=>Bx 3 hGF O<|λb3=>Asg O<|aa<|jO<|ah<|lV<|ah<|Xp<|Asg O<|aa<|ar<|bS (ι:={i:Nat // i<=6/\LT a b 6=LT a b i}) (λx=>[(2,pnt b2),(3,pnt b3),(4,.bool false),(5,I ((x.1:Int)-1))]) (λx=>[(2,b2,a.map U64,119),(3,b3,b.map U64,119)]) (λx=>x.1) ⟨6,om,rfl⟩ hGF trv trv<|?_;rintro ⟨i,hi,hlt⟩;dsimp only;refine ah<|Xp<|Mv O<|Bnr O O (λ_=>cW _ _ _)<|aa<|?_;refine co O (λhc=> ?_) (λhc=> ?_)
 ·simp only[decide_eq_true_eq]at hc
  obtain ⟨k,rfl⟩: ∃k,i=k+1:=⟨i-1,om⟩;refine aw<|ah<|ar<|ar<|Xd []<|Mv O<|Ia (k) O O underlying119 sizeOf22<|Lmq 2 U64 0 O O isAgg22 (by rw[ha];omega)<|Mv O<|Ia (k) O O underlying119 sizeOf22<|Lmq 3 U64 0 O O isAgg22 (by rw[hb];omega)<|Bnr O O (λ_=>eU _ _ _)<|Asg O<|aa<|?_
  refine co O (λhc=> ?_) (λhc=> ?_)
  ·simp only[decide_eq_true_eq]at hc
   have hfin:LT a b 6=true:=by rw[hlt,LT,if_pos hc]
   refine Xp<|Asg O<|aa<|ao<|?_
   repeat (first|refine cQ ?_|refine cP ?_|refine fT ?_)
   exact au O O (λw hw=>⟨by rw[hfin];rfl,ae hw⟩)
  ·simp only[decide_eq_false_iff_not]at hc
   have hc1:=hc;refine Xd []<|Mv O<|Ia (k) O O underlying119 sizeOf22<|Lmq 2 U64 0 O O isAgg22 (by rw[ha];omega)<|Mv O<|Ia (k) O O underlying119 sizeOf22<|Lmq 3 U64 0 O O isAgg22 (by rw[hb];omega)<|Bnr O O (λ_=>eV _ _ _)<|Asg O<|aa<|?_
   refine co O (λhc=> ?_) (λhc=> ?_)
   ·simp only[decide_eq_true_eq]at hc
    have hfin:LT a b 6=false:=by rw[hlt,LT,if_neg hc1,if_pos hc]
    refine bj<|Xp<|Asg O<|aa<|ao<|?_
    repeat (first|refine cQ ?_|refine cP ?_|refine fT ?_)
    exact au O O (λw hw=>⟨by rw[hfin];rfl,ae hw⟩)
   ·simp only[decide_eq_false_iff_not]at hc
    refine aw<|Xq<|Mv O<|Bnr (v:=I ((k:Int)-1)) O O (λ_=>(bu _ _ _ aG).trans (by rw[show (((k+1:Nat):Int)-1)-1=(k:Int)-1 by omega]))<|Asg O<|aa<|?_
    repeat (refine bg ?_)
    exact aV<|⟨rfl,⟨k,om,by rw[hlt,LT,if_neg hc1,if_neg hc]⟩,_,by show k<k+1;omega,rfl,trv,trv⟩
 ·simp only[decide_eq_false_iff_not]at hc
  obtain rfl:i=0:=om;have hfin:LT a b 6=false:=hlt;refine bj<|Xp<|Asg O<|aa<|ao<|?_
  repeat (first|refine cQ ?_|refine cP ?_|refine fT ?_)
  exact au O O (λw hw=>⟨by rw[hfin];rfl,ae hw⟩)
theorem bV(x y:BitVec 64):PUR 173 [U64 x,U64 y] (.tuple #[U64 (MH x y),U64 (MLo x y)]):=by
 intro w hw;refine Hf func173 O hw<|λhGF=>Xp<|Asg O<|Asg O<|aa<|Xp<|Mv O<|Bnr O O (λ_=>el _ _ _)<|Asg O<|aa<|Xp<|Mv O<|Bnr O O (λ_=>cB _ _ _)<|Asg O<|aa<|Xp<|Mv O<|Bnr O O (λ_=>el _ _ _)<|Asg O<|aa<|Xp<|Mv O<|Bnr O O (λ_=>cB _ _ _)<|Asg O<|aa<|Xp<|Mv O<|Mv O<|Bnr O O (λ_=>cr _ _ _)<|Asg O<|aa<|Xp<|Mv O<|Mv O<|Bnr O O (λ_=>cr _ _ _)<|Mv O<|Bnr O O (λ_=>cB _ _ _)<|Bnr O O (λ_=>aM _ _ _)<|Asg O<|aa<|?_;refine Xp<|Mv O<|Bnr O O (λ_=>el _ _ _)<|Asg O<|aa<|Xp<|Mv O<|Bnr O O (λ_=>cB _ _ _)<|Asg O<|aa<|Xp<|Mv O<|Mv O<|Mv O<|Bnr O O (λ_=>cr _ _ _)<|Bnr O O (λ_=>aM _ _ _)<|Asg O<|aa<|Xp<|Mv O<|Mv O<|Bnr O O (λ_=>cr _ _ _)<|Mv O<|Bnr O O (λ_=>aM _ _ _)<|Mv O<|Bnr O O (λ_=>cB _ _ _)<|Bnr O O (λ_=>aM _ _ _)<|Asg O<|aa<|Xp<|Mv O<|Mv O<|Bnr O O (λ_=>cr _ _ _)<|Asg O<|aa<|ao<|Rr<|?_;exact iT O O O (λw hw=>⟨by rw[<-Jm,<-H4];rfl,ae hw⟩)
theorem fO(x y c d:BitVec 64):PUR 288 [U64 x,U64 y,U64 c,U64 d] (.tuple #[U64 (MA x y c d).1,U64 (MA x y c d).2]):=by
 intro w hw;refine Hf func288 O hw<|λhGF=>Xp<|Asg O<|Asg O<|aa<|Xp<|Mv O<|Mv O<|Ca O (bV _ _)<|Mv O<|Exq O O<|Exq O O<|Asg O<|Asg O<|aa<|Xp<|Mv O<|Mv O<|bI O O (λw=>dJ _ _ _ aC w) O O<|Mv O<|Exq O O<|Exq O O<|Asg O<|Asg O<|aa<|Xp<|Mv O<|Mv O<|Bnr O O (λ_=>aM _ _ _)<|Asg O<|aa<|Xp<|Mv O<|Mv O<|bI O O (λw=>dJ _ _ _ aC w) O O<|Mv O<|Exq O O<|Exq O O<|Asg O<|Asg O<|?_;refine aa<|Xp<|Mv O<|Mv O<|Mv O<|Bnr O O (λ_=>aM _ _ _)<|Asg O<|Asg O<|aa<|ao<|Rr<|?_;exact iT O O O (λw hw=>⟨rfl,ae hw⟩)
end
section
open Go.RowKit
theorem eqg(op:BinOp)(x y:Operand)(xs ys:Array Value)(w:World):(eqGuard op 119 x y (.agg xs) (.agg ys)).run prog w=.ok () w:=run_eqGuard_agg w op 119 x y xs ys kr
theorem KS(op:BinOp)(x y:Operand)(xs ys:Array Value)(w:World):(eqGuard op 120 x y (.agg xs) (.agg ys)).run prog w=.ok () w:=run_eqGuard_agg w op 120 x y xs ys kr
theorem eq23(xs ys:L6)(h:xs.length=6)(h':ys.length=6)(w:World):(binOp .eql 119 (bd xs) (bd ys)).run prog w=.ok (.bool (decide (xs=ys))) w:=oy underlying119 underlying22 sizeOf22 isAgg22 xs ys h h' w
theorem eq27(xs ys:L6)(h:xs.length=6)(h':ys.length=6)(w:World):(binOp .eql 120 (bd xs) (bd ys)).run prog w=.ok (.bool (decide (xs=ys))) w:=oy underlying120 underlying22 sizeOf22 isAgg22 xs ys h h' w
theorem dd{n:Nat}{b1:Nat}{c1:List Value}{t1:TypeId}: ∀i j b c t c' t',lkB [(n,b1,c1,t1)] i=some (b,c,t)->lkB [(n,b1,c1,t1)] j=some (b,c',t')->i=j:=by
 intro i j b c t c' t' h1 h2;rcases bv h1 with ⟨e1,x1⟩|⟨_,h1⟩
 ·rcases bv h2 with ⟨e2,x2⟩|⟨_,h2⟩
  ·exact e1.trans e2.symm
  ·cases h2
 ·cases h1
theorem cV{J:(Nat->Prop)->World->Prop}(hr:Rides J){Y:Nat->Prop}{w:World}(h:J Y w):J (λ_=>False) w:=hr.less _ _ _ (λ_ h=>h.elim) h
theorem oU(a:L6)(top:BitVec 64)(m:L6)(ha:a.length=6)(hm:m.length=6):PUR 289 [bd (a),U64 top,bd (m)] (bd (RED a top m)):=by
 intro w hw;refine Hf func289 O hw ?_;intro hGF;by_cases h1:top=0
 ·by_cases h2:(SS a m 6).2=1
  ·refine Xp<|Bx 3 hGF O<|λb3=>Bx 5 hGF O<|λb5=>Al 6 hGF zv119<|λb6=>aa<|Xp<|Lw 3 O O bR ha<|Lw 5 O O bR hm<|Ca O (jX a m ha hm)<|Mv O<|Exq O O<|Exq O O<|Al 7 hGF zv119<|λb7=>Sw 7 hGF O O O bR (bq _ _ _)<|Asg O<|aa<|ah<|Xp<|Mv O<|Bnr (v:=.bool true) O O (λw=>(bC _ _ _).trans (congrArg (λb=>Result.ok (Value.bool b) w) (beq_iff_eq.2 h1)))<|Mv O<|Mv O<|Bnr (v:=.bool true) O O (λw=>(bC _ _ _).trans (congrArg (λb=>Result.ok (Value.bool b) w) (beq_iff_eq.2 h2)))<|Pk O O O<|aa<|aP O<|Xp<|Lw 3 O O bR ha<|Sw 6 hGF O O O bR ha<|aa<|ao<|Rr<|?_
   exact aF 6 O O O isAgg119 sizeOf119 (by rw[List.length_map,ha]) (λw hw=>⟨by rw[RED,if_pos (⟨h1,h2⟩)],ae hw⟩)
  ·refine Xp<|Bx 3 hGF O<|λb3=>Bx 5 hGF O<|λb5=>Al 6 hGF zv119<|λb6=>aa<|Xp<|Lw 3 O O bR ha<|Lw 5 O O bR hm<|Ca O (jX a m ha hm)<|Mv O<|Exq O O<|Exq O O<|Al 7 hGF zv119<|λb7=>Sw 7 hGF O O O bR (bq _ _ _)<|Asg O<|aa<|ah<|Xp<|Mv O<|Bnr (v:=.bool true) O O (λw=>(bC _ _ _).trans (congrArg (λb=>Result.ok (Value.bool b) w) (beq_iff_eq.2 h1)))<|Mv O<|Mv O<|Bnr (v:=.bool false) O O (λw=>(bC _ _ _).trans (congrArg (λb=>Result.ok (Value.bool b) w) (beq_eq_false_iff_ne.2 h2)))<|Pk O O O<|aa<|aH O<|aw<|Xp<|Lw 7 O O bR (bq _ _ _)<|Sw 6 hGF O O O bR (bq _ _ _)<|aa<|ao<|Rr<|?_
   exact aF 6 O O O isAgg119 sizeOf119 (by rw[List.length_map,bq]) (λw hw=>⟨by rw[RED,if_neg (λh=>h2 h.2)],ae hw⟩)
 ·refine Xp<|Bx 3 hGF O<|λb3=>Bx 5 hGF O<|λb5=>Al 6 hGF zv119<|λb6=>aa<|Xp<|Lw 3 O O bR ha<|Lw 5 O O bR hm<|Ca O (jX a m ha hm)<|Mv O<|Exq O O<|Exq O O<|Al 7 hGF zv119<|λb7=>Sw 7 hGF O O O bR (bq _ _ _)<|Asg O<|aa<|ah<|Xp<|Mv O<|Bnr (v:=.bool false) O O (λw=>(bC _ _ _).trans (congrArg (λb=>Result.ok (Value.bool b) w) (beq_eq_false_iff_ne.2 h1)))<|Mv O<|Sk<|Sk<|Pk O O O<|aa<|aH O<|aw<|Xp<|Lw 7 O O bR (bq _ _ _)<|Sw 6 hGF O O O bR (bq _ _ _)<|aa<|ao<|Rr<|?_
  exact aF 6 O O O isAgg119 sizeOf119 (by rw[List.length_map,bq]) (λw hw=>⟨by rw[RED,if_neg (λh=>h1 h.1)],ae hw⟩)
def sO(bb b:Nat)(a:L6)(n:Nat):Cls:=λW=>W.cell? ⟨bb,0,none⟩=some (.slice (spt b) n n)/\W.rangeAt b 0 (a.map U64)
def DG(a:L6)(n:Nat):List (List Value):=(List.range (64*n)).map λj=>[I ((64*n-1-j:Nat):Int),U64 (dig a (64*n-1-j))]
theorem fu(a:L6)(n:Nat):(DG a n).length=64*n:=by simp[DG]
theorem Hh(a:L6)(n q s:Nat)(hq:q<n)(hs:s<64):(DG a n)[64*(n-(q+1))+(64-(s+1))]? =some [I ((64*q+s:Nat):Int),U64 (dig a (64*q+s))]:=by
 have h:64*(n-(q+1))+(64-(s+1))<64*n:=om;rw[DG,List.getElem?_map,List.getElem?_range h];simp only[Option.map_some];rw[show 64*n-1-(64*(n-(q+1))+(64-(s+1)))=64*q+s by omega]
theorem LK(a:L6)(n k:Nat)(x:List Value)(h:(DG a n)[k]? =some x):k<64*n/\x=[I ((64*n-1-k:Nat):Int),U64 (dig a (64*n-1-k))]:=by
 have hk:k<64*n:=by
  rcases Nat.lt_or_ge k (64*n)with h'|h'
  ·exact h'
  ·rw[List.getElem?_eq_none (by rw[fu];exact h')]at h;cases h
 rw[DG,List.getElem?_map,List.getElem?_range hk]at h;exact ⟨hk,(Option.some.inj h).symm⟩
theorem rf(sv:Value)(hs:sv.cells= #[sv])(w:World)(hw:Gt w):CLS 319 [sv].toArray w (λe w'=> ∃b1,e=.returned (.func (.func 340) #[] #[pnt b1])/\Grow w w'/\w.heap.size<=b1/\OwnB w' b1 [sv] 58):=by
 refine Hf func319 O hw<|λhGF=>Xp<|gA 1 hGF O O O<|λb1=>Asg O<|aa<|Xp<|dL O O O O<|Asg O<|aa<|ao<|Rr<|?_;exact au O O (λw hw=>⟨b1,rfl,ae hw,(hw.own 1 b1 _ _ O).2.elim id False.elim,(by have:=(hw.own 1 b1 _ _ O).1;rw[hs]at this;exact this)⟩)
theorem ug(bb b:Nat)(a:L6)(n:Nat)(hn:n<=100)(ha:a.length=n):jo prog Gt 340 [pnt bb] (DG a n) (sO bb b a n):=by
 intro l J Jx hJ hJx hRd hGx hY w hj;have okJ: ∀k,BOk Gt (Bi w (λY=>J Y k)):=λk=>⟨λ_ _ _ h=>(hRd _ _ _ h.rid).1,hJ k⟩;have okX: ∀k,BOk Gt (Bi w (λY=>Jx Y k)):=λk=>⟨λ_ _ _ h=>hGx _ _ _ h.rid,hJx k⟩;have c1: ∀k L w',Hp (Bi w (λY=>J Y k)) L w'->sO bb b a n w':=λk L w' h=>(hRd _ _ _ h.rid).2;refine ez (G:=Gt) func340 O O (Hp (Bi w (λY=>J Y 0)) []) (cG (Bi w _) hj (hJ 0)) (aT (okJ 0))<|jO<|ah<|lV<|Xp<|aQ O isAgg58 (λw h=>(c1 _ _ w h).1) O O<|bB O (λ_=>aO underlying58 _ _ _ _) O O<|Bnr O O (λ_=>bu _ _ _ aG)<|Asg O<|aa<|ar<|jH (ι:={i:Nat // i<=n}) (λx=>[(0,.func (.yield l) #[] #[]),(1,pnt bb),(3,I ((x.1:Int)-1))]) (λx=>Bi w (λY=>J Y (64*(n-x.1)))) (λx=>[]) (λx=>x.1) ⟨n,Nat.le_refl _⟩ (λ_=>okJ _) (by rw[Nat.sub_self]) trv trivial<|?_
 rintro ⟨i,hi⟩;dsimp only;refine ah<|Xp<|Mv O<|Bnr O O (λ_=>cW _ _ _)<|aa<|?_;refine co O (λhc=> ?_) (λhc=> ?_)
 ·simp only[decide_eq_true_eq]at hc
  obtain ⟨q,rfl⟩: ∃q,i=q+1:=⟨i-1,om⟩;clear hc;rw[show ((q+1:Nat):Int)-1=(q:Int) by omega]
  refine aw<|ah<|ar<|Xp<|Asg O<|aa<|ar<|jH (ι:={r:Nat // r<=64}) (λx=>[(0,.func (.yield l) #[] #[]),(1,pnt bb),(3,I (q:Int)),(4,I ((x.1:Int)-1))]) (λx=>Bi w (λY=>J Y (64*(n-(q+1))+(64-x.1)))) (λx=>[]) (λx=>x.1) ⟨64,Nat.le_refl _⟩ (λ_=>okJ _) O trv trivial<|?_;rintro ⟨r,hr⟩;dsimp only;refine ah<|Xp<|Mv O<|Bnr O O (λ_=>cW _ _ _)<|aa<|?_;refine co O (λhc=> ?_) (λhc=> ?_)
  ·simp only[decide_eq_true_eq]at hc
   obtain ⟨s,rfl⟩: ∃s,r=s+1:=⟨r-1,om⟩;clear hc;rw[show ((s+1:Nat):Int)-1=(s:Int) by omega]
   refine aw<|ah<|ar<|Xp<|Mv O<|Mv O<|Bnr (v:=I ((64*q:Nat):Int)) O O (λ_=>(bQ _ _ _ aG).trans (by rw[show (64:Int)*(q:Int)=((64*q:Nat):Int) by omega]))<|Mv O<|Bnr (v:=I ((64*q+s:Nat):Int)) O O (λ_=>(az _ _ _ aG).trans (by rw[show ((64*q:Nat):Int)+(s:Int)=((64*q+s:Nat):Int) by omega]))<|aQ O isAgg58 (λw h=>(c1 _ _ w h).1) O O<|Mv O<|jB q O O underlying58 sizeOf22 om om O O<|aQ O isAgg22 (λw h=>(c1 _ _ w h).2 q _ (gm U64 a 0 q om)) O O<|Mv O<|Bnr O O (λ_=>cF _ _ _ om)<|Bnr (v:=U64 (dig a (64*q+s))) O O (λ_=>(el _ _ _).trans (by rw[<-GZ a q s om];rfl))<|?_
   refine eM (hY.b (k:=64*(n-(q+1))+(64-(s+1))) (Hh a n q s om om) w) (okJ _) (okX _) O O O O O ?_ ?_
   ·refine bT O (λ_=>bM _) O O<|aa<|aH O<|aw<|Xq<|Mv O<|Bnr O O (λ_=>bu _ _ _ aG)<|Asg O<|aa<|?_
    rw[show 64*(n-(q+1))+(64-(s+1))+1=64*(n-(q+1))+(64-s) by omega]
    repeat (refine bg ?_)
    exact aV<|⟨rfl,⟨s,om⟩,_,by show s<s+1;omega,rfl,trv,trivial⟩
   ·refine bT O (λ_=>bM _) O O<|aa<|aP O<|bj<|?_
    repeat (first|refine iA ?_|refine gW ?_|refine gY O ?_)
    exact AJ<|dR O (λw hw=>⟨⟨_,rfl⟩,.inr ⟨_,cV (hJx _) hw.rid⟩⟩)
  ·simp only[decide_eq_false_iff_not]at hc
   obtain rfl:r=0:=om;clear hc;rw[show 64*(n-(q+1))+(64-0)=64*(n-q) by omega]
   refine bj<|Xq<|Mv O<|Bnr O O (λ_=>bu _ _ _ aG)<|Asg O<|aa<|?_
   repeat (refine bg ?_)
   exact aV<|⟨rfl,⟨q,om⟩,_,by show q<q+1;omega,rfl,trv,trivial⟩
 ·simp only[decide_eq_false_iff_not]at hc
  obtain rfl:i=0:=om;refine bj ?_
  repeat (first|refine iA ?_|refine gW ?_|refine gY O ?_)
  refine AJ ?_;refine dR O (λw hw=>⟨⟨_,rfl⟩,.inl ?_⟩);have:=cV (hJ _) hw.rid;rw[fu];exact this
end
section
open Go.RowKit
theorem y9(t m:L6)(ht:t.length=12)(hm:m.length=6):PUR 286 [bd (t),bd (m)] (bd (MOD t m)):=by
 intro w hw;have hGF:BOk Gt (pl w):=gt_low.plain hw;refine eR (G:=Gt) func286 O O (Hp (pl w) []) (cG (pl w) trivial aL) (aT hGF)<|am (E:=EE [319])<|Bx 2 hGF O<|λb2=>Bx 3 hGF O<|λb3=>Al 4 hGF zv119<|λb4=>aa<|am (E:=EE [319])<|Al 5 hGF zv119<|λb5=>aa<|ah<|am (E:=EE [319])<|Lw 3 O O bR hm<|Lw 5 O O bR List.length_replicate<|db O O (λw=>eqg _ _ _ _ _ w) (λw=>eq23 m (List.replicate 6 0) hm O w) O O<|aa<|?_;refine co O (λhc=> ?_) (λhc=> ?_)
 ·simp only[decide_eq_true_eq]at hc
  refine am (E:=EE [319])<|Lw 5 O O bR List.length_replicate<|ai 4 hGF O O O sizeOf119 aB (by rw[List.length_map,List.length_replicate]) (aZ _) O<|aa<|ao<|Rr<|?_
  exact rL (.inl O) (aF 4 O O O isAgg119 sizeOf119 (by rw[List.length_map,List.length_replicate]) (λw hw=>⟨by rw[MOD,if_pos hc];rfl,ae hw⟩))
 ·simp only[decide_eq_false_iff_not]at hc
  refine aw<|ah<|am (E:=EE [319])<|cg (l:=0) (h':=12) O underlying342 sizeOf22 O O om om O O<|?_;refine cw O O ent319 O O (λw' hw'=>(rf _ O w' (hGF.g _ _ _ hw')).mono λe w'' h=> ?_);obtain ⟨c1,rfl,hg,h1,ho⟩:=h;refine ⟨_,_,rfl,aT hGF,hw'.news aL hg [(33,c1,[.slice (spt b2) 12 12],58)] ?_ dd, ?_⟩
  ·intro n' b' c' t' hl
   rcases bv hl with ⟨_,e⟩|⟨_,hl⟩
   ·cases e;exact ⟨h1,ho⟩
   ·cases hl
  clear hw' hg h1 ho;refine aa<|ar<|?_;refine jL (λ_=>pl w) (λ_ _=>pl w) (λ_=>hGF) (λ_ _=>hGF) (λ_=>rfl) (λ_ _=>rfl) O O ent340 (ug c1 b2 t 12 aC ht) (λx hx=>by obtain ⟨k,hk,rfl⟩:=List.mem_map.1 hx;rfl) O (λk=>[(2,b2,t.map U64,342),(3,b3,m.map U64,119),(4,b4,(List.replicate 6 0#64).map U64,119),(5,b5,(MDs t m k).map U64,119),(33,c1,[.slice (spt b2) 12 12],58)]) (λ_ _ _=>False) trv (λk _ w' h=>⟨dz (n:=33) O O w' h,av (n:=2) O w' h⟩) ?_ ?_ (λ_ _ _ _ _ h=>h.elim)
  ·intro k x hx R hR
   obtain ⟨hk,rfl⟩:=LK t 12 k x hx;rw[show 64*12-1-k=767-k from O];refine cj (E:=EE [319])<|Asg O<|aa<|?_;refine ⟨rfl,_,rfl, ?_⟩;exact ar<|am (E:=EE [319])<|Lw 5 O O bR (ii _ _ _)<|Lw 5 O O bR (ii _ _ _)<|Ca O (pI _ _ (ii t m _) (ii t m _))<|Mv O<|Exq O O<|Exq O O<|iy 8 (hR (pl w) O hGF).2.1 zv119 O O<|λb8=>ai 8 (hR (pl w) O hGF).2.1 O O O sizeOf119 (by rw[List.length_map,bN]) (by rw[List.length_map,List.length_replicate]) (aZ _) O<|Asg O<|aa<|am (E:=EE [319])<|Ia (0) O O underlying119 sizeOf22<|Lmq 8 U64 0 O O isAgg22 (by rw[bN];omega)<|Mv O<|Bnr O O (λ_=>iF _ _ _)<|Ia (0) O O underlying119 sizeOf22<|bK 8 U64 (hR (pl w) O hGF).2.1 O O O sizeOf22 O (by rw[bN];omega) O<|aa<|cj (E:=EE [319])<|aq 8 O O isAgg119 sizeOf119 (by rw[List.length_map,List.length_set,bN]) O O<|Mv O<|Lw 3 O O bR hm<|Ca O (oU _ _ _ (ux _ _) hm)<|ai 5 (hR (pl w) O hGF).2.1 O O O sizeOf119 (by rw[List.length_map];exact jz _ _ _ (ux _ _)) (by rw[List.length_map,ii]) (aZ _) O<|aa<|⟨_,rfl,trv⟩
  ·intro D hD
   rw[fu];refine am (E:=EE [319])<|Lw 5 O O bR (ii _ _ _)<|Sw 4 hD O O O bR (ii _ _ _)<|aa<|ao<|Rr<|?_;exact ig (.inl O) aL (aF 4 O O O isAgg119 sizeOf119 (by rw[List.length_map,ii]) (λw hw=>⟨by rw[MOD,if_neg hc],ae hw⟩))
end
section
open Go.RowKit
theorem uH(a:Option Addr)(cap:Nat)(bs:L8)(w:World)(hw:Gt w)(hby:BytesAt w a bs):
 CLS 210 [.slice a bs.length cap].toArray w (λe w'=>e=.returned (if 48<bs.length then .tuple #[bd (List.replicate 6 0#64),.bool false]else .tuple #[bd (FRs bs bs.length),.bool true])/\Grow w w'):=by
 refine Hf func210 O hw ?_;intro hGF;by_cases hA:48<bs.length
 ·refine Xp<|Al 2 hGF zv119<|λb2=>Asg O<|aa<|Xp<|Al 4 hGF zv119<|λb4=>aa<|ah<|Xp<|Mv O<|bB O (λ_=>aO underlying123 _ _ _ _) O O<|Bnr (v:=.bool true) O O (λ_=>(df _ _ _).trans (by rw[decide_eq_true (by omega:((bs.length:Int)>48))]))<|aa<|aP O<|Xp<|Lw 4 O O bR List.length_replicate<|Sw 2 hGF O O O bR List.length_replicate<|Asg O<|aa<|ao<|Rr<|?_
  exact ce 2 O O O O isAgg119 sizeOf119 (by rw[List.length_map,List.length_replicate]) (λw hw=>⟨by rw[if_pos hA];rfl,ae hw⟩)
 ·refine Xp<|Al 2 hGF zv119<|λb2=>Asg O<|aa<|Xp<|Al 4 hGF zv119<|λb4=>aa<|ah<|Xp<|Mv O<|bB O (λ_=>aO underlying123 _ _ _ _) O O<|Bnr (v:=.bool false) O O (λ_=>(df _ _ _).trans (by rw[decide_eq_false (by omega: ¬((bs.length:Int)>48))]))<|aa<|aH O<|aw<|ah<|Xp<|Mv O<|bB O (λ_=>aO underlying123 _ _ _ _) O O<|Mv O<|aa<|ar<|bS (ι:={i:Nat // i<=bs.length}) (λx=>[(0,.slice a bs.length cap),(2,pnt b2),(4,pnt b4),(12,.slice a bs.length cap),(13,I (bs.length:Int)),(14,I (x.1:Int))]) (λx=>[(2,b2,(List.replicate 6 0#64).map U64,119),(4,b4,(FRs bs x.1).map U64,119)]) (λx=>bs.length-x.1) ⟨0,om⟩ hGF trv trv<|?_
  rintro ⟨i,hi⟩;dsimp only;refine Xp<|Bnr O O (λ_=>aI _ _ _)<|aa<|ah<|?_;refine co O (λhc=> ?_) (λhc=> ?_)
  ·simp only[decide_eq_true_eq]at hc
   refine aw<|ah<|ar<|Xp<|Mv O<|?_;obtain ⟨ad,rfl,_⟩:=hby i _ (gm U8 bs 0 i om);refine gT i O O underlying123 sizeOf5 O om O O<|aQ O isAgg5 (λw' h=>by obtain ⟨ad',e,hc⟩:=(hby.grow (ae h)) i _ (gm U8 bs 0 i om);cases e;exact hc) O O<|Asg O<|Asg O<|aa<|Xp<|Mv O<|bB O (λ_=>aO underlying123 _ _ _ _) O O<|Bnr (v:=I ((bs.length:Int)-1)) O O (λ_=>bu _ _ _ aG)<|Mv O<|Bnr (v:=I ((bs.length-1-i:Nat):Int)) O O (λ_=>(bu _ _ _ aG).trans (by rw[show ((bs.length:Int)-1-(i:Int))=((bs.length-1-i:Nat):Int) by omega]))<|Asg O<|aa<|Xe []<|Mv O<|Bnr (v:=I (((bs.length-1-i) / 8:Nat):Int)) O O (λ_=>gr _ _ _ aC (show inI (((bs.length-1-i) / 8:Nat):Int) by unfold inI;omega))<|Ia (((bs.length-1-i) / 8)) O O underlying119 sizeOf22<|Lmq 4 U64 0 O O isAgg22 (by rw[cy];omega)<|Mv O<|bH O O (λ_=>nn underlying5 underlying22 _) O O<|Mv O<|Bnr (v:=I (((bs.length-1-i) % 8:Nat):Int)) O O (λ_=>eZ _ _ _ aC)<|db (v:=I ((8*((bs.length-1-i) % 8):Nat):Int)) O O (λ_=>rfl) (λ_=>(bQ _ _ _ aG).trans (by rw[show (8:Int)*(((bs.length-1-i) % 8:Nat):Int)=((8*((bs.length-1-i) % 8):Nat):Int) by omega])) O O<|db (v:=U64 ((bs.getD i 0).setWidth 64<<<(8*((bs.length-1-i) % 8)))) O O (λ_=>rfl) (λ_=>kO _ _ _ om) O O<|Bnr O O (λ_=>iF _ _ _)<|Ia (((bs.length-1-i) / 8)) O O underlying119 sizeOf22<|bK 4 U64 hGF O O O sizeOf22 O (by rw[cy];omega) O<|aa<|Xq<|Bnr O O (λ_=>az _ _ _ aG)<|Mv O<|aa<|?_
   repeat (refine bg ?_)
   exact aV<|⟨rfl,⟨i+1,om⟩,_,by show bs.length-(i+1)<bs.length-i;omega,rfl,trv,trv⟩
  ·obtain rfl:i=bs.length:=by simp at hc;omega
   refine bj<|Xp<|Lw 4 O O bR (cy _ _)<|Sw 2 hGF O O O bR (cy _ _)<|Asg O<|aa<|ao<|Rr<|?_;exact ce 2 O O O O isAgg119 sizeOf119 (by rw[List.length_map,cy]) (λw hw=>⟨by rw[if_neg hA];rfl,ae hw⟩)
theorem tD(a:Option Addr)(cap:Nat)(bs:L8)(w:World)(hw:Gt w)(hby:BytesAt w a bs):
 CLS 175 [.slice a bs.length cap].toArray w (λe w'=>e=.returned (if 48<bs.length then .tuple #[bd (List.replicate 6 0#64),.bool false]else .tuple #[bd (FRs bs bs.length),.bool true])/\Grow w w'):=by
 refine Hf func175 O hw ?_;intro hGF;by_cases hA:48<bs.length
 ·refine Xp<|Al 2 hGF zv120<|λb2=>Asg O<|aa<|ah<|Xp<|Mv O<|bB O (λ_=>aO underlying123 _ _ _ _) O O<|Bnr (v:=.bool true) O O (λ_=>(df _ _ _).trans (by rw[decide_eq_true (by omega:((bs.length:Int)>48))]))<|aa<|aP O<|Xp<|dk zv120 underlying120 sizeOf22 O O<|Sw 2 hGF O O O bY List.length_replicate<|Asg O<|aa<|ao<|Rr<|?_
  exact ce 2 O O O O isAgg120 sizeOf120 (by rw[List.length_map,List.length_replicate]) (λw hw=>⟨by rw[if_pos hA];rfl,ae hw⟩)
 ·refine Xp<|Al 2 hGF zv120<|λb2=>Asg O<|aa<|ah<|Xp<|Mv O<|bB O (λ_=>aO underlying123 _ _ _ _) O O<|Bnr (v:=.bool false) O O (λ_=>(df _ _ _).trans (by rw[decide_eq_false (by omega: ¬((bs.length:Int)>48))]))<|aa<|aH O<|aw<|Xp<|Al 4 hGF zv120<|λb4=>aa<|ah<|Xp<|Asg O<|aa<|ar<|bS (ι:={i:Nat // i<=bs.length}) (λx=>[(0,.slice a bs.length cap),(2,pnt b2),(4,pnt b4),(5,I (x.1:Int))]) (λx=>[(2,b2,(List.replicate 6 0#64).map U64,120),(4,b4,(FRs bs x.1).map U64,120)]) (λx=>bs.length-x.1) ⟨0,om⟩ hGF trv trv<|?_
  rintro ⟨i,hi⟩;dsimp only;refine ah<|Xp<|Mv O<|Mv O<|bB O (λ_=>aO underlying123 _ _ _ _) O O<|Bnr O O (λ_=>aI _ _ _)<|aa<|?_;refine co O (λhc=> ?_) (λhc=> ?_)
  ·simp only[decide_eq_true_eq]at hc
   refine aw<|ah<|ar<|Xp<|Mv O<|bB O (λ_=>aO underlying123 _ _ _ _) O O<|Bnr (v:=I ((bs.length:Int)-1)) O O (λ_=>bu _ _ _ aG)<|Mv O<|Bnr (v:=I ((bs.length-1-i:Nat):Int)) O O (λ_=>(bu _ _ _ aG).trans (by rw[show ((bs.length:Int)-1-(i:Int))=((bs.length-1-i:Nat):Int) by omega]))<|Asg O<|aa<|Xe []<|Mv O<|Bnr (v:=I (((bs.length-1-i) / 8:Nat):Int)) O O (λ_=>gr _ _ _ aC (show inI (((bs.length-1-i) / 8:Nat):Int) by unfold inI;omega))<|Ia (((bs.length-1-i) / 8)) O O underlying120 sizeOf22<|Lmq 4 U64 0 O O isAgg22 (by rw[cy];omega)<|Mv O<|Mv O<|?_
   obtain ⟨ad,rfl,_⟩:=hby i _ (gm U8 bs 0 i om);refine gT i O O underlying123 sizeOf5 O om O O<|aQ O isAgg5 (λw' h=>by obtain ⟨ad',e,hc⟩:=(hby.grow (ae h)) i _ (gm U8 bs 0 i om);cases e;exact hc) O O<|bH O O (λ_=>nn underlying5 underlying22 _) O O<|Mv O<|Bnr (v:=I (((bs.length-1-i) % 8:Nat):Int)) O O (λ_=>eZ _ _ _ aC)<|db (v:=I ((8*((bs.length-1-i) % 8):Nat):Int)) O O (λ_=>rfl) (λ_=>(bQ _ _ _ aG).trans (by rw[show (8:Int)*(((bs.length-1-i) % 8:Nat):Int)=((8*((bs.length-1-i) % 8):Nat):Int) by omega])) O O<|db (v:=U64 ((bs.getD i 0).setWidth 64<<<(8*((bs.length-1-i) % 8)))) O O (λ_=>rfl) (λ_=>kO _ _ _ om) O O<|Bnr O O (λ_=>iF _ _ _)<|Ia (((bs.length-1-i) / 8)) O O underlying120 sizeOf22<|bK 4 U64 hGF O O O sizeOf22 O (by rw[cy];omega) O<|aa<|Xq<|Mv O<|Bnr O O (λ_=>az _ _ _ aG)<|Asg O<|aa<|?_
   repeat (refine bg ?_)
   exact aV<|⟨rfl,⟨i+1,om⟩,_,by show bs.length-(i+1)<bs.length-i;omega,rfl,trv,trv⟩
  ·obtain rfl:i=bs.length:=by simp at hc;omega
   refine bj<|Xp<|Lw 4 O O bY (cy _ _)<|Sw 2 hGF O O O bY (cy _ _)<|Asg O<|aa<|ao<|Rr<|?_;exact ce 2 O O O O isAgg120 sizeOf120 (by rw[List.length_map,cy]) (λw hw=>⟨by rw[if_neg hA];rfl,ae hw⟩)
theorem qY(a:L6)(ha:a.length=6):PUR 291 [bd (a)] (.agg ((BYs a 48).map U8).toArray):=by
 intro w hw;refine Hf func291 O hw<|λhGF=>Xp<|Bx 1 hGF O<|λb1=>Al 2 hGF zv32<|λb2=>aa<|Xp<|Al 3 hGF zv32<|λb3=>aa<|ah<|Xp<|Mv O<|aa<|ar<|bS (ι:={i:Nat // i<=48}) (λx=>[(1,pnt b1),(2,pnt b2),(3,pnt b3),(6,I (x.1:Int))]) (λx=>[(1,b1,a.map U64,119),(2,b2,(List.replicate 48 0#8).map U8,32),(3,b3,(BYs a x.1).map U8,32)]) (λx=>48-x.1) ⟨0,om⟩ hGF trv trv<|?_;rintro ⟨i,hi⟩;dsimp only;refine Xp<|Bnr O O (λ_=>aI _ _ _)<|aa<|ah<|?_;refine co O (λhc=> ?_) (λhc=> ?_)
 ·simp only[decide_eq_true_eq]at hc
  refine aw<|ah<|ar<|Xp<|Mv O<|Asg O<|aa<|Xp<|Mv O<|Bnr (v:=I ((47-i:Nat):Int)) O O (λ_=>(bu _ _ _ aG).trans (by rw[show ((47:Int)-(i:Int))=((47-i:Nat):Int) by omega]))<|Asg O<|aa<|Xq<|Mv O<|Mv O<|Bnr (v:=I (((47-i) / 8:Nat):Int)) O O (λ_=>gr _ _ _ aC (show inI (((47-i) / 8:Nat):Int) by unfold inI;omega))<|Ia (((47-i) / 8)) O O underlying119 sizeOf22<|Lmq 1 U64 0 O O isAgg22 (by rw[ha];omega)<|Mv O<|Bnr (v:=I (((47-i) % 8:Nat):Int)) O O (λ_=>eZ _ _ _ aC)<|db (v:=I ((8*((47-i) % 8):Nat):Int)) O O (λ_=>rfl) (λ_=>(bQ _ _ _ aG).trans (by rw[show (8:Int)*(((47-i) % 8:Nat):Int)=((8*((47-i) % 8):Nat):Int) by omega])) O O<|db (v:=U64 (a.getD ((47-i) / 8) 0>>>(8*((47-i) % 8)))) O O (λ_=>rfl) (λ_=>cF _ _ _ om) O O<|bH O O (λ_=>bZ underlying22 underlying5 _) O O<|Ia (i) O O underlying32 sizeOf5<|bK 3 U8 hGF O O O sizeOf5 O (by rw[bX];omega) O<|aa<|Xq<|Bnr O O (λ_=>az _ _ _ aG)<|Mv O<|aa<|?_
  repeat (refine bg ?_)
  exact aV<|⟨rfl,⟨i+1,om⟩,_,by show 48-(i+1)<48-i;omega,rfl,trv,trv⟩
 ·obtain rfl:i=48:=by simp at hc;omega
  refine bj<|Xp<|Lw 3 O O xl (bX _ _)<|Sx 2 hGF O O O xl (bX _ _) (bp _)<|aa<|ao<|Rr<|?_;exact aF 2 O O O isAgg32 sizeOf32 (by rw[List.length_map,bX]) (λw hw=>⟨rfl,ae hw⟩)
theorem fj(a:L6)(ha:a.length=6):PUR 104 [bd (a)] (.agg ((BYs a 48).map U8).toArray):=by
 intro w hw;refine Hf func104 O hw<|λhGF=>Xp<|Bx 1 hGF O<|λb1=>Al 2 hGF zv32<|λb2=>aa<|Xp<|Al 3 hGF zv32<|λb3=>aa<|ah<|Xp<|Asg O<|aa<|ar<|bS (ι:={i:Nat // i<=48}) (λx=>[(1,pnt b1),(2,pnt b2),(3,pnt b3),(4,I (x.1:Int))]) (λx=>[(1,b1,a.map U64,120),(2,b2,(List.replicate 48 0#8).map U8,32),(3,b3,(BYs a x.1).map U8,32)]) (λx=>48-x.1) ⟨0,om⟩ hGF trv trv<|?_;rintro ⟨i,hi⟩;dsimp only;refine ah<|Xp<|Mv O<|Bnr O O (λ_=>aI _ _ _)<|aa<|?_;refine co O (λhc=> ?_) (λhc=> ?_)
 ·simp only[decide_eq_true_eq]at hc
  refine aw<|ah<|ar<|Xp<|Mv O<|Bnr (v:=I ((47-i:Nat):Int)) O O (λ_=>(bu _ _ _ aG).trans (by rw[show ((47:Int)-(i:Int))=((47-i:Nat):Int) by omega]))<|Asg O<|aa<|Xq<|Mv O<|Mv O<|Bnr (v:=I (((47-i) / 8:Nat):Int)) O O (λ_=>gr _ _ _ aC (show inI (((47-i) / 8:Nat):Int) by unfold inI;omega))<|Ia (((47-i) / 8)) O O underlying120 sizeOf22<|Lmq 1 U64 0 O O isAgg22 (by rw[ha];omega)<|Mv O<|Bnr (v:=I (((47-i) % 8:Nat):Int)) O O (λ_=>eZ _ _ _ aC)<|db (v:=I ((8*((47-i) % 8):Nat):Int)) O O (λ_=>rfl) (λ_=>(bQ _ _ _ aG).trans (by rw[show (8:Int)*(((47-i) % 8:Nat):Int)=((8*((47-i) % 8):Nat):Int) by omega])) O O<|db (v:=U64 (a.getD ((47-i) / 8) 0>>>(8*((47-i) % 8)))) O O (λ_=>rfl) (λ_=>cF _ _ _ om) O O<|bH O O (λ_=>bZ underlying22 underlying5 _) O O<|Ia (i) O O underlying32 sizeOf5<|bK 3 U8 hGF O O O sizeOf5 O (by rw[bX];omega) O<|aa<|Xq<|Mv O<|Bnr O O (λ_=>az _ _ _ aG)<|Asg O<|aa<|?_
  repeat (refine bg ?_)
  exact aV<|⟨rfl,⟨i+1,om⟩,_,by show 48-(i+1)<48-i;omega,rfl,trv,trv⟩
 ·obtain rfl:i=48:=by simp at hc;omega
  refine bj<|Xp<|Lw 3 O O xl (bX _ _)<|Sx 2 hGF O O O xl (bX _ _) (bp _)<|aa<|ao<|Rr<|?_;exact aF 2 O O O isAgg32 sizeOf32 (by rw[List.length_map,bX]) (λw hw=>⟨rfl,ae hw⟩)
end
section
open Go.RowKit
theorem dP(x y c s:BitVec 64)(hc:c.toNat<=1)(h:(ADC x y c).1=s)(w:World):(callFunc 133 [U64 x,U64 y,U64 c].toArray).run prog w=.ok (.value (.tuple #[U64 s,U64 (ADC x y c).2])) w:=by
 subst h;exact dJ x y c hc w
theorem gD:PL.length=6:=rfl
theorem i1  :PUR 174 [] (bd (PL)):=by
 intro w hw;refine Hf func174 O hw<|λhGF=>Xp<|Al 0 hGF zv120<|λb0=>aa<|Xp<|dG (n:=6) (vs:=(PL).map U64) O O underlying120 sizeOf22 zeroValue120 O O O O<|Sw 0 hGF O O O bY gD<|aa<|ao<|Rr<|?_;exact aF 0 O O O isAgg120 sizeOf120 O (λw hw=>⟨rfl,ae hw⟩)
theorem xN  :PUR 234 [] (bd (ONE)):=by
 intro w hw;refine Hf func234 O hw<|λhGF=>Xp<|Al 0 hGF zv120<|λb0=>aa<|Xp<|dG (n:=6) (vs:=(ONE).map U64) O O underlying120 sizeOf22 zeroValue120 O O O O<|Sw 0 hGF O O O bY rl<|aa<|ao<|Rr<|?_;exact aF 0 O O O isAgg120 sizeOf120 O (λw hw=>⟨rfl,ae hw⟩)
theorem xV  :PUR 205 [] (bd (TWO)):=by
 intro w hw;refine Hf func205 O hw<|λhGF=>Xp<|Al 0 hGF zv120<|λb0=>aa<|Xp<|dG (n:=6) (vs:=(TWO).map U64) O O underlying120 sizeOf22 zeroValue120 O O O O<|Sw 0 hGF O O O bY rd<|aa<|ao<|Rr<|?_;exact aF 0 O O O isAgg120 sizeOf120 O (λw hw=>⟨rfl,ae hw⟩)
theorem ll(a b:L6)(ha:a.length=6)(hb:b.length=6):PUR 138 [bd (a),bd (b)] (bd (RM a b)):=by
 intro w hw;refine Hf func138 O hw ?_;intro hGF;by_cases h0:(SS (RT a b 6) PL 6).2=0
 ·refine Xp<|Bx 2 hGF O<|λb2=>Bx 3 hGF O<|λb3=>Al 4 hGF zv120<|λb4=>aa<|Xp<|Asg O<|Asg O<|Asg O<|Asg O<|Asg O<|Asg O<|aa<|ah<|Xp<|Asg O<|aa<|ar<|bS (ι:={i:Nat // i<=6}) (λx=>[(2,pnt b2),(3,pnt b3),(4,pnt b4),(5,U64 ((RT a b x.1).getD 0 0)),(6,U64 ((RT a b x.1).getD 1 0)),(7,U64 ((RT a b x.1).getD 2 0)),(8,U64 ((RT a b x.1).getD 3 0)),(9,U64 ((RT a b x.1).getD 4 0)),(10,U64 ((RT a b x.1).getD 5 0)),(11,I (x.1:Int))]) (λx=>[(2,b2,a.map U64,120),(3,b3,b.map U64,120),(4,b4,(List.replicate 6 0#64).map U64,120)]) (λx=>6-x.1) ⟨0,om⟩ hGF trv trv<|?_
  rintro ⟨i,hi⟩;dsimp only;refine ah<|Xp<|Mv O<|Bnr O O (λ_=>aI _ _ _)<|aa<|?_;refine co O (λhc=> ?_) (λhc=> ?_)
  ·simp only[decide_eq_true_eq]at hc
   refine aw<|ah<|ar<|Xp<|Asg O<|Asg O<|Asg O<|Asg O<|aa<|Xp<|Mv O<|Ia (i) O O underlying120 sizeOf22<|Lmq 3 U64 0 O O isAgg22 (by rw[hb];omega)<|Asg O<|aa<|Xp<|Ia (0) O O underlying120 sizeOf22<|Lmq 2 U64 0 O O isAgg22 (by rw[ha];omega)<|Mv O<|Ca O (bV _ _)<|Mv O<|Exq O O<|Exq O O<|Asg O<|Asg O<|aa<|Xp<|Mv O<|Mv O<|bI O O (λw=>dP _ _ 0 _ aC (k1z (b.getD i 0) a (RT a b i)) w) O O<|Mv O<|Exq O O<|Exq O O<|Asg O<|Asg O<|aa<|Xp<|Mv O<|Mv O<|Bnr (v:=U64 (KC (b.getD i 0) a (RT a b i) 1)) O O (λw=>(aM _ _ _).trans (congrArg (λz=>Result.ok (U64 z) w) (k2z (b.getD i 0) a (RT a b i))))<|?_
   refine Asg O<|aa<|Xp<|Ia (1) O O underlying120 sizeOf22<|Lmq 2 U64 0 O O isAgg22 (by rw[ha];omega)<|Mv O<|Ca O (bV _ _)<|Mv O<|Exq O O<|Exq O O<|Asg O<|Asg O<|aa<|Xp<|Mv O<|Mv O<|bI O O (λw=>dJ _ _ 0 aC w) O O<|Mv O<|Exq O O<|Exq O O<|Asg O<|Asg O<|aa<|Xp<|Mv O<|Mv O<|Bnr O O (λ_=>aM _ _ _)<|Asg O<|aa<|Xp<|Mv O<|Mv O<|bI O O (λw=>dP _ _ 0 _ aC (k1s (b.getD i 0) a (RT a b i) 1) w) O O<|Mv O<|Exq O O<|Exq O O<|Asg O<|Asg O<|aa<|Xp<|?_
   refine Mv O<|Mv O<|Bnr (v:=U64 (KC (b.getD i 0) a (RT a b i) 2)) O O (λw=>(aM _ _ _).trans (congrArg (λz=>Result.ok (U64 z) w) (k2s (b.getD i 0) a (RT a b i) 1)))<|Asg O<|aa<|Xp<|Ia (2) O O underlying120 sizeOf22<|Lmq 2 U64 0 O O isAgg22 (by rw[ha];omega)<|Mv O<|Ca O (bV _ _)<|Mv O<|Exq O O<|Exq O O<|Asg O<|Asg O<|aa<|Xp<|Mv O<|Mv O<|bI O O (λw=>dJ _ _ 0 aC w) O O<|Mv O<|Exq O O<|Exq O O<|Asg O<|Asg O<|aa<|Xp<|Mv O<|Mv O<|Bnr O O (λ_=>aM _ _ _)<|Asg O<|aa<|Xp<|Mv O<|Mv O<|bI O O (λw=>dP _ _ 0 _ aC (k1s (b.getD i 0) a (RT a b i) 2) w) O O<|Mv O<|Exq O O<|Exq O O<|Asg O<|?_
   refine Asg O<|aa<|Xp<|Mv O<|Mv O<|Bnr (v:=U64 (KC (b.getD i 0) a (RT a b i) 3)) O O (λw=>(aM _ _ _).trans (congrArg (λz=>Result.ok (U64 z) w) (k2s (b.getD i 0) a (RT a b i) 2)))<|Asg O<|aa<|Xp<|Ia (3) O O underlying120 sizeOf22<|Lmq 2 U64 0 O O isAgg22 (by rw[ha];omega)<|Mv O<|Ca O (bV _ _)<|Mv O<|Exq O O<|Exq O O<|Asg O<|Asg O<|aa<|Xp<|Mv O<|Mv O<|bI O O (λw=>dJ _ _ 0 aC w) O O<|Mv O<|Exq O O<|Exq O O<|Asg O<|Asg O<|aa<|Xp<|Mv O<|Mv O<|Bnr O O (λ_=>aM _ _ _)<|Asg O<|aa<|Xp<|Mv O<|Mv O<|bI O O (λw=>dP _ _ 0 _ aC (k1s (b.getD i 0) a (RT a b i) 3) w) O O<|Mv O<|?_
   refine Exq O O<|Exq O O<|Asg O<|Asg O<|aa<|Xp<|Mv O<|Mv O<|Bnr (v:=U64 (KC (b.getD i 0) a (RT a b i) 4)) O O (λw=>(aM _ _ _).trans (congrArg (λz=>Result.ok (U64 z) w) (k2s (b.getD i 0) a (RT a b i) 3)))<|Asg O<|aa<|Xp<|Ia (4) O O underlying120 sizeOf22<|Lmq 2 U64 0 O O isAgg22 (by rw[ha];omega)<|Mv O<|Ca O (bV _ _)<|Mv O<|Exq O O<|Exq O O<|Asg O<|Asg O<|aa<|Xp<|Mv O<|Mv O<|bI O O (λw=>dJ _ _ 0 aC w) O O<|Mv O<|Exq O O<|Exq O O<|Asg O<|Asg O<|aa<|Xp<|Mv O<|Mv O<|Bnr O O (λ_=>aM _ _ _)<|Asg O<|aa<|Xp<|Mv O<|?_
   refine Mv O<|bI O O (λw=>dP _ _ 0 _ aC (k1s (b.getD i 0) a (RT a b i) 4) w) O O<|Mv O<|Exq O O<|Exq O O<|Asg O<|Asg O<|aa<|Xp<|Mv O<|Mv O<|Bnr (v:=U64 (KC (b.getD i 0) a (RT a b i) 5)) O O (λw=>(aM _ _ _).trans (congrArg (λz=>Result.ok (U64 z) w) (k2s (b.getD i 0) a (RT a b i) 4)))<|Asg O<|aa<|Xp<|Ia (5) O O underlying120 sizeOf22<|Lmq 2 U64 0 O O isAgg22 (by rw[ha];omega)<|Mv O<|Ca O (bV _ _)<|Mv O<|Exq O O<|Exq O O<|Asg O<|Asg O<|aa<|Xp<|Mv O<|Mv O<|bI O O (λw=>dJ _ _ 0 aC w) O O<|Mv O<|Exq O O<|Exq O O<|Asg O<|Asg O<|aa<|Xp<|Mv O<|Mv O<|Bnr O O (λ_=>aM _ _ _)<|Asg O<|?_
   refine aa<|Xp<|Mv O<|Mv O<|bI O O (λw=>dP _ _ 0 _ aC (k1s (b.getD i 0) a (RT a b i) 5) w) O O<|Mv O<|Exq O O<|Exq O O<|Asg O<|Asg O<|aa<|Xp<|Mv O<|Mv O<|Bnr (v:=U64 (KC (b.getD i 0) a (RT a b i) 6)) O O (λw=>(aM _ _ _).trans (congrArg (λz=>Result.ok (U64 z) w) (k2s (b.getD i 0) a (RT a b i) 5)))<|Asg O<|aa<|Xp<|Mv O<|Asg O<|aa<|Xp<|Mv O<|Bnr (v:=U64 (KT (b.getD i 0) a (RT a b i) 0*INV)) O O (λw=>cr _ _ INV)<|Asg O<|aa<|Xp<|Mv O<|Ca O (bV _ (PL.getD 0 0))<|Mv O<|Exq O O<|Exq O O<|Asg O<|Asg O<|aa<|Xp<|Mv O<|Mv O<|bI O O (λw=>dJ _ _ 0 aC w) O O<|Mv O<|?_;refine Exq O O<|Exq O O<|Asg O<|aa<|Xp<|Mv O<|Mv O<|Bnr (v:=U64 (KD (KT (b.getD i 0) a (RT a b i) 0*INV) PL (T1 (b.getD i 0) a (RT a b i)) 0)) O O (λw=>(aM _ _ _).trans (congrArg (λz=>Result.ok (U64 z) w) (d2z (b.getD i 0) (KT (b.getD i 0) a (RT a b i) 0*INV) a (RT a b i))))<|Asg O<|aa<|Xp<|Mv O<|Ca O (bV _ (PL.getD 1 0))<|Mv O<|Exq O O<|Exq O O<|Asg O<|Asg O<|aa<|Xp<|Mv O<|Mv O<|bI O O (λw=>dJ _ _ 0 aC w) O O<|Mv O<|Exq O O<|Exq O O<|Asg O<|Asg O<|aa<|Xp<|Mv O<|Mv O<|Bnr O O (λ_=>aM _ _ _)<|Asg O<|aa<|Xp<|Mv O<|Mv O<|bI O O (λw=>dP _ _ 0 _ aC (d1s (b.getD i 0) (KT (b.getD i 0) a (RT a b i) 0*INV) a (RT a b i) 0 aC) w) O O<|Mv O<|?_;refine Exq O O<|Exq O O<|Asg O<|Asg O<|aa<|Xp<|Mv O<|Mv O<|Bnr (v:=U64 (KD (KT (b.getD i 0) a (RT a b i) 0*INV) PL (T1 (b.getD i 0) a (RT a b i)) 1)) O O (λw=>(aM _ _ _).trans (congrArg (λz=>Result.ok (U64 z) w) (d2s (b.getD i 0) (KT (b.getD i 0) a (RT a b i) 0*INV) a (RT a b i) 0 aC)))<|Asg O<|aa<|Xp<|Mv O<|Ca O (bV _ (PL.getD 2 0))<|Mv O<|Exq O O<|Exq O O<|Asg O<|Asg O<|aa<|Xp<|Mv O<|Mv O<|bI O O (λw=>dJ _ _ 0 aC w) O O<|Mv O<|Exq O O<|Exq O O<|Asg O<|Asg O<|aa<|Xp<|Mv O<|Mv O<|Bnr O O (λ_=>aM _ _ _)<|Asg O<|aa<|Xp<|Mv O<|Mv O<|bI O O (λw=>dP _ _ 0 _ aC (d1s (b.getD i 0) (KT (b.getD i 0) a (RT a b i) 0*INV) a (RT a b i) 1 aC) w) O O<|?_;refine Mv O<|Exq O O<|Exq O O<|Asg O<|Asg O<|aa<|Xp<|Mv O<|Mv O<|Bnr (v:=U64 (KD (KT (b.getD i 0) a (RT a b i) 0*INV) PL (T1 (b.getD i 0) a (RT a b i)) 2)) O O (λw=>(aM _ _ _).trans (congrArg (λz=>Result.ok (U64 z) w) (d2s (b.getD i 0) (KT (b.getD i 0) a (RT a b i) 0*INV) a (RT a b i) 1 aC)))<|Asg O<|aa<|Xp<|Mv O<|Ca O (bV _ (PL.getD 3 0))<|Mv O<|Exq O O<|Exq O O<|Asg O<|Asg O<|aa<|Xp<|Mv O<|Mv O<|bI O O (λw=>dJ _ _ 0 aC w) O O<|Mv O<|Exq O O<|Exq O O<|Asg O<|Asg O<|aa<|Xp<|Mv O<|Mv O<|Bnr O O (λ_=>aM _ _ _)<|Asg O<|aa<|Xp<|Mv O<|Mv O<|?_;refine bI O O (λw=>dP _ _ 0 _ aC (d1s (b.getD i 0) (KT (b.getD i 0) a (RT a b i) 0*INV) a (RT a b i) 2 aC) w) O O<|Mv O<|Exq O O<|Exq O O<|Asg O<|Asg O<|aa<|Xp<|Mv O<|Mv O<|Bnr (v:=U64 (KD (KT (b.getD i 0) a (RT a b i) 0*INV) PL (T1 (b.getD i 0) a (RT a b i)) 3)) O O (λw=>(aM _ _ _).trans (congrArg (λz=>Result.ok (U64 z) w) (d2s (b.getD i 0) (KT (b.getD i 0) a (RT a b i) 0*INV) a (RT a b i) 2 aC)))<|Asg O<|aa<|Xp<|Mv O<|Ca O (bV _ (PL.getD 4 0))<|Mv O<|Exq O O<|Exq O O<|Asg O<|Asg O<|aa<|Xp<|Mv O<|Mv O<|bI O O (λw=>dJ _ _ 0 aC w) O O<|Mv O<|Exq O O<|Exq O O<|Asg O<|Asg O<|aa<|Xp<|Mv O<|Mv O<|Bnr O O (λ_=>aM _ _ _)<|Asg O<|aa<|Xp<|Mv O<|?_;refine Mv O<|bI O O (λw=>dP _ _ 0 _ aC (d1s (b.getD i 0) (KT (b.getD i 0) a (RT a b i) 0*INV) a (RT a b i) 3 aC) w) O O<|Mv O<|Exq O O<|Exq O O<|Asg O<|Asg O<|aa<|Xp<|Mv O<|Mv O<|Bnr (v:=U64 (KD (KT (b.getD i 0) a (RT a b i) 0*INV) PL (T1 (b.getD i 0) a (RT a b i)) 4)) O O (λw=>(aM _ _ _).trans (congrArg (λz=>Result.ok (U64 z) w) (d2s (b.getD i 0) (KT (b.getD i 0) a (RT a b i) 0*INV) a (RT a b i) 3 aC)))<|Asg O<|aa<|Xp<|Mv O<|Ca O (bV _ (PL.getD 5 0))<|Mv O<|Exq O O<|Exq O O<|Asg O<|Asg O<|aa<|Xp<|Mv O<|Mv O<|bI O O (λw=>dJ _ _ 0 aC w) O O<|Mv O<|Exq O O<|Exq O O<|Asg O<|Asg O<|aa<|Xp<|Mv O<|Mv O<|Bnr O O (λ_=>aM _ _ _)<|Asg O<|aa<|Xp<|?_;refine Mv O<|Mv O<|bI O O (λw=>dP _ _ 0 _ aC (d1s (b.getD i 0) (KT (b.getD i 0) a (RT a b i) 0*INV) a (RT a b i) 4 aC) w) O O<|Mv O<|Exq O O<|Exq O O<|Asg O<|Asg O<|aa<|Xp<|Mv O<|Mv O<|Bnr (v:=U64 (KD (KT (b.getD i 0) a (RT a b i) 0*INV) PL (T1 (b.getD i 0) a (RT a b i)) 5)) O O (λw=>(aM _ _ _).trans (congrArg (λz=>Result.ok (U64 z) w) (d2s (b.getD i 0) (KT (b.getD i 0) a (RT a b i) 0*INV) a (RT a b i) 4 aC)))<|Asg O<|aa<|Xq<|Mv O<|Mv O<|Bnr O O (λ_=>aM _ _ _)<|Asg O<|aa<|Xq<|Mv O<|Bnr O O (λ_=>az _ _ _ aG)<|Asg O<|aa<|?_
   repeat (refine bg ?_)
   exact aV<|⟨rfl,⟨i+1,om⟩,_,by show 6-(i+1)<6-i;omega,rfl,⟨rfl,rfl,rfl,congrArg (λz=>some (U64 z)) (pX a b i 0 aC).symm,congrArg (λz=>some (U64 z)) (pX a b i 1 aC).symm,congrArg (λz=>some (U64 z)) (pX a b i 2 aC).symm,congrArg (λz=>some (U64 z)) (pX a b i 3 aC).symm,congrArg (λz=>some (U64 z)) (pX a b i 4 aC).symm,congrArg (λz=>some (U64 z)) (BG a b i).symm,rfl,trivial⟩,trv⟩
  ·obtain rfl:i=6:=by simp at hc;omega
   refine bj<|Xp<|Mv O<|Mv O<|Mv O<|Mv O<|Mv O<|Mv O<|dG (n:=6) (vs:=(RT a b 6).map U64) (congrArg some (vM (RT a b 6) (fE _ _ _))) O underlying120 sizeOf22 zeroValue120 (by rw[List.length_map,fE];rfl) (aZ _) O O<|Al 19 hGF zv120<|λb19=>Sw 19 hGF O O O bY (fE _ _ _)<|aa<|ah<|Xa [0,1,2,3,4,5] ⟨6,20,120,(List.replicate 6 0#64).map U64⟩ [7,8] (bA O zv120 O)<|Lw 19 O O bY (fE _ _ _)<|Ca O (i1)<|Ca O (ee _ _ (fE _ _ _) O)<|Mv O<|Exq O O<|Exq O O<|aa<|?_
   refine ⟨_,_,rfl,hGF,by intro x hx;simp only[List.mem_cons,List.not_mem_nil,or_false]at hx;subst hx;rfl,by intro x hx;simp only[List.mem_cons,List.not_mem_nil,or_false]at hx;subst hx;rfl,λadr=> ?_⟩
   refine Sw 20 hGF O O O bY (bq _ _ _)<|Asg O<|aa<|Xp<|Mv O<|Bnr (v:=.bool true) O O (λw=>(bC _ _ _).trans (congrArg (λb=>Result.ok (Value.bool b) w) (beq_iff_eq.2 h0)))<|aa<|aP O<|Xq<|Lw 20 O O bY (bq _ _ _)<|ai 19 hGF O O O sizeOf120 (by rw[List.length_map,bq _ _ _]) (by rw[List.length_map,fE _ _ _]) (aZ _) O<|aa<|Xp<|Lw 19 O O bY (bq _ _ _)<|Sw 4 hGF O O O bY (bq _ _ _)<|aa<|ao<|Rr<|?_
   exact aF 4 O O O isAgg120 sizeOf120 (by rw[List.length_map,bq]) (λw hw=>⟨by rw[RM,if_pos h0],ae hw⟩)
 ·refine Xp<|Bx 2 hGF O<|λb2=>Bx 3 hGF O<|λb3=>Al 4 hGF zv120<|λb4=>aa<|Xp<|Asg O<|Asg O<|Asg O<|Asg O<|Asg O<|Asg O<|aa<|ah<|Xp<|Asg O<|aa<|ar<|bS (ι:={i:Nat // i<=6}) (λx=>[(2,pnt b2),(3,pnt b3),(4,pnt b4),(5,U64 ((RT a b x.1).getD 0 0)),(6,U64 ((RT a b x.1).getD 1 0)),(7,U64 ((RT a b x.1).getD 2 0)),(8,U64 ((RT a b x.1).getD 3 0)),(9,U64 ((RT a b x.1).getD 4 0)),(10,U64 ((RT a b x.1).getD 5 0)),(11,I (x.1:Int))]) (λx=>[(2,b2,a.map U64,120),(3,b3,b.map U64,120),(4,b4,(List.replicate 6 0#64).map U64,120)]) (λx=>6-x.1) ⟨0,om⟩ hGF trv trv<|?_
  rintro ⟨i,hi⟩;dsimp only;refine ah<|Xp<|Mv O<|Bnr O O (λ_=>aI _ _ _)<|aa<|?_;refine co O (λhc=> ?_) (λhc=> ?_)
  ·simp only[decide_eq_true_eq]at hc
   refine aw<|ah<|ar<|Xp<|Asg O<|Asg O<|Asg O<|Asg O<|aa<|Xp<|Mv O<|Ia (i) O O underlying120 sizeOf22<|Lmq 3 U64 0 O O isAgg22 (by rw[hb];omega)<|Asg O<|aa<|Xp<|Ia (0) O O underlying120 sizeOf22<|Lmq 2 U64 0 O O isAgg22 (by rw[ha];omega)<|Mv O<|Ca O (bV _ _)<|Mv O<|Exq O O<|Exq O O<|Asg O<|Asg O<|aa<|Xp<|Mv O<|Mv O<|bI O O (λw=>dP _ _ 0 _ aC (k1z (b.getD i 0) a (RT a b i)) w) O O<|Mv O<|Exq O O<|Exq O O<|Asg O<|Asg O<|aa<|Xp<|Mv O<|Mv O<|Bnr (v:=U64 (KC (b.getD i 0) a (RT a b i) 1)) O O (λw=>(aM _ _ _).trans (congrArg (λz=>Result.ok (U64 z) w) (k2z (b.getD i 0) a (RT a b i))))<|?_
   refine Asg O<|aa<|Xp<|Ia (1) O O underlying120 sizeOf22<|Lmq 2 U64 0 O O isAgg22 (by rw[ha];omega)<|Mv O<|Ca O (bV _ _)<|Mv O<|Exq O O<|Exq O O<|Asg O<|Asg O<|aa<|Xp<|Mv O<|Mv O<|bI O O (λw=>dJ _ _ 0 aC w) O O<|Mv O<|Exq O O<|Exq O O<|Asg O<|Asg O<|aa<|Xp<|Mv O<|Mv O<|Bnr O O (λ_=>aM _ _ _)<|Asg O<|aa<|Xp<|Mv O<|Mv O<|bI O O (λw=>dP _ _ 0 _ aC (k1s (b.getD i 0) a (RT a b i) 1) w) O O<|Mv O<|Exq O O<|Exq O O<|Asg O<|Asg O<|aa<|Xp<|?_
   refine Mv O<|Mv O<|Bnr (v:=U64 (KC (b.getD i 0) a (RT a b i) 2)) O O (λw=>(aM _ _ _).trans (congrArg (λz=>Result.ok (U64 z) w) (k2s (b.getD i 0) a (RT a b i) 1)))<|Asg O<|aa<|Xp<|Ia (2) O O underlying120 sizeOf22<|Lmq 2 U64 0 O O isAgg22 (by rw[ha];omega)<|Mv O<|Ca O (bV _ _)<|Mv O<|Exq O O<|Exq O O<|Asg O<|Asg O<|aa<|Xp<|Mv O<|Mv O<|bI O O (λw=>dJ _ _ 0 aC w) O O<|Mv O<|Exq O O<|Exq O O<|Asg O<|Asg O<|aa<|Xp<|Mv O<|Mv O<|Bnr O O (λ_=>aM _ _ _)<|Asg O<|aa<|Xp<|Mv O<|Mv O<|bI O O (λw=>dP _ _ 0 _ aC (k1s (b.getD i 0) a (RT a b i) 2) w) O O<|Mv O<|Exq O O<|Exq O O<|Asg O<|?_
   refine Asg O<|aa<|Xp<|Mv O<|Mv O<|Bnr (v:=U64 (KC (b.getD i 0) a (RT a b i) 3)) O O (λw=>(aM _ _ _).trans (congrArg (λz=>Result.ok (U64 z) w) (k2s (b.getD i 0) a (RT a b i) 2)))<|Asg O<|aa<|Xp<|Ia (3) O O underlying120 sizeOf22<|Lmq 2 U64 0 O O isAgg22 (by rw[ha];omega)<|Mv O<|Ca O (bV _ _)<|Mv O<|Exq O O<|Exq O O<|Asg O<|Asg O<|aa<|Xp<|Mv O<|Mv O<|bI O O (λw=>dJ _ _ 0 aC w) O O<|Mv O<|Exq O O<|Exq O O<|Asg O<|Asg O<|aa<|Xp<|Mv O<|Mv O<|Bnr O O (λ_=>aM _ _ _)<|Asg O<|aa<|Xp<|Mv O<|Mv O<|bI O O (λw=>dP _ _ 0 _ aC (k1s (b.getD i 0) a (RT a b i) 3) w) O O<|Mv O<|?_
   refine Exq O O<|Exq O O<|Asg O<|Asg O<|aa<|Xp<|Mv O<|Mv O<|Bnr (v:=U64 (KC (b.getD i 0) a (RT a b i) 4)) O O (λw=>(aM _ _ _).trans (congrArg (λz=>Result.ok (U64 z) w) (k2s (b.getD i 0) a (RT a b i) 3)))<|Asg O<|aa<|Xp<|Ia (4) O O underlying120 sizeOf22<|Lmq 2 U64 0 O O isAgg22 (by rw[ha];omega)<|Mv O<|Ca O (bV _ _)<|Mv O<|Exq O O<|Exq O O<|Asg O<|Asg O<|aa<|Xp<|Mv O<|Mv O<|bI O O (λw=>dJ _ _ 0 aC w) O O<|Mv O<|Exq O O<|Exq O O<|Asg O<|Asg O<|aa<|Xp<|Mv O<|Mv O<|Bnr O O (λ_=>aM _ _ _)<|Asg O<|aa<|Xp<|Mv O<|?_
   refine Mv O<|bI O O (λw=>dP _ _ 0 _ aC (k1s (b.getD i 0) a (RT a b i) 4) w) O O<|Mv O<|Exq O O<|Exq O O<|Asg O<|Asg O<|aa<|Xp<|Mv O<|Mv O<|Bnr (v:=U64 (KC (b.getD i 0) a (RT a b i) 5)) O O (λw=>(aM _ _ _).trans (congrArg (λz=>Result.ok (U64 z) w) (k2s (b.getD i 0) a (RT a b i) 4)))<|Asg O<|aa<|Xp<|Ia (5) O O underlying120 sizeOf22<|Lmq 2 U64 0 O O isAgg22 (by rw[ha];omega)<|Mv O<|Ca O (bV _ _)<|Mv O<|Exq O O<|Exq O O<|Asg O<|Asg O<|aa<|Xp<|Mv O<|Mv O<|bI O O (λw=>dJ _ _ 0 aC w) O O<|Mv O<|Exq O O<|Exq O O<|Asg O<|Asg O<|aa<|Xp<|Mv O<|Mv O<|Bnr O O (λ_=>aM _ _ _)<|Asg O<|?_
   refine aa<|Xp<|Mv O<|Mv O<|bI O O (λw=>dP _ _ 0 _ aC (k1s (b.getD i 0) a (RT a b i) 5) w) O O<|Mv O<|Exq O O<|Exq O O<|Asg O<|Asg O<|aa<|Xp<|Mv O<|Mv O<|Bnr (v:=U64 (KC (b.getD i 0) a (RT a b i) 6)) O O (λw=>(aM _ _ _).trans (congrArg (λz=>Result.ok (U64 z) w) (k2s (b.getD i 0) a (RT a b i) 5)))<|Asg O<|aa<|Xp<|Mv O<|Asg O<|aa<|Xp<|Mv O<|Bnr (v:=U64 (KT (b.getD i 0) a (RT a b i) 0*INV)) O O (λw=>cr _ _ INV)<|Asg O<|aa<|Xp<|Mv O<|Ca O (bV _ (PL.getD 0 0))<|Mv O<|Exq O O<|Exq O O<|Asg O<|Asg O<|aa<|Xp<|Mv O<|Mv O<|bI O O (λw=>dJ _ _ 0 aC w) O O<|Mv O<|?_;refine Exq O O<|Exq O O<|Asg O<|aa<|Xp<|Mv O<|Mv O<|Bnr (v:=U64 (KD (KT (b.getD i 0) a (RT a b i) 0*INV) PL (T1 (b.getD i 0) a (RT a b i)) 0)) O O (λw=>(aM _ _ _).trans (congrArg (λz=>Result.ok (U64 z) w) (d2z (b.getD i 0) (KT (b.getD i 0) a (RT a b i) 0*INV) a (RT a b i))))<|Asg O<|aa<|Xp<|Mv O<|Ca O (bV _ (PL.getD 1 0))<|Mv O<|Exq O O<|Exq O O<|Asg O<|Asg O<|aa<|Xp<|Mv O<|Mv O<|bI O O (λw=>dJ _ _ 0 aC w) O O<|Mv O<|Exq O O<|Exq O O<|Asg O<|Asg O<|aa<|Xp<|Mv O<|Mv O<|Bnr O O (λ_=>aM _ _ _)<|Asg O<|aa<|Xp<|Mv O<|Mv O<|bI O O (λw=>dP _ _ 0 _ aC (d1s (b.getD i 0) (KT (b.getD i 0) a (RT a b i) 0*INV) a (RT a b i) 0 aC) w) O O<|Mv O<|?_;refine Exq O O<|Exq O O<|Asg O<|Asg O<|aa<|Xp<|Mv O<|Mv O<|Bnr (v:=U64 (KD (KT (b.getD i 0) a (RT a b i) 0*INV) PL (T1 (b.getD i 0) a (RT a b i)) 1)) O O (λw=>(aM _ _ _).trans (congrArg (λz=>Result.ok (U64 z) w) (d2s (b.getD i 0) (KT (b.getD i 0) a (RT a b i) 0*INV) a (RT a b i) 0 aC)))<|Asg O<|aa<|Xp<|Mv O<|Ca O (bV _ (PL.getD 2 0))<|Mv O<|Exq O O<|Exq O O<|Asg O<|Asg O<|aa<|Xp<|Mv O<|Mv O<|bI O O (λw=>dJ _ _ 0 aC w) O O<|Mv O<|Exq O O<|Exq O O<|Asg O<|Asg O<|aa<|Xp<|Mv O<|Mv O<|Bnr O O (λ_=>aM _ _ _)<|Asg O<|aa<|Xp<|Mv O<|Mv O<|bI O O (λw=>dP _ _ 0 _ aC (d1s (b.getD i 0) (KT (b.getD i 0) a (RT a b i) 0*INV) a (RT a b i) 1 aC) w) O O<|?_;refine Mv O<|Exq O O<|Exq O O<|Asg O<|Asg O<|aa<|Xp<|Mv O<|Mv O<|Bnr (v:=U64 (KD (KT (b.getD i 0) a (RT a b i) 0*INV) PL (T1 (b.getD i 0) a (RT a b i)) 2)) O O (λw=>(aM _ _ _).trans (congrArg (λz=>Result.ok (U64 z) w) (d2s (b.getD i 0) (KT (b.getD i 0) a (RT a b i) 0*INV) a (RT a b i) 1 aC)))<|Asg O<|aa<|Xp<|Mv O<|Ca O (bV _ (PL.getD 3 0))<|Mv O<|Exq O O<|Exq O O<|Asg O<|Asg O<|aa<|Xp<|Mv O<|Mv O<|bI O O (λw=>dJ _ _ 0 aC w) O O<|Mv O<|Exq O O<|Exq O O<|Asg O<|Asg O<|aa<|Xp<|Mv O<|Mv O<|Bnr O O (λ_=>aM _ _ _)<|Asg O<|aa<|Xp<|Mv O<|Mv O<|?_;refine bI O O (λw=>dP _ _ 0 _ aC (d1s (b.getD i 0) (KT (b.getD i 0) a (RT a b i) 0*INV) a (RT a b i) 2 aC) w) O O<|Mv O<|Exq O O<|Exq O O<|Asg O<|Asg O<|aa<|Xp<|Mv O<|Mv O<|Bnr (v:=U64 (KD (KT (b.getD i 0) a (RT a b i) 0*INV) PL (T1 (b.getD i 0) a (RT a b i)) 3)) O O (λw=>(aM _ _ _).trans (congrArg (λz=>Result.ok (U64 z) w) (d2s (b.getD i 0) (KT (b.getD i 0) a (RT a b i) 0*INV) a (RT a b i) 2 aC)))<|Asg O<|aa<|Xp<|Mv O<|Ca O (bV _ (PL.getD 4 0))<|Mv O<|Exq O O<|Exq O O<|Asg O<|Asg O<|aa<|Xp<|Mv O<|Mv O<|bI O O (λw=>dJ _ _ 0 aC w) O O<|Mv O<|Exq O O<|Exq O O<|Asg O<|Asg O<|aa<|Xp<|Mv O<|Mv O<|Bnr O O (λ_=>aM _ _ _)<|Asg O<|aa<|Xp<|Mv O<|?_;refine Mv O<|bI O O (λw=>dP _ _ 0 _ aC (d1s (b.getD i 0) (KT (b.getD i 0) a (RT a b i) 0*INV) a (RT a b i) 3 aC) w) O O<|Mv O<|Exq O O<|Exq O O<|Asg O<|Asg O<|aa<|Xp<|Mv O<|Mv O<|Bnr (v:=U64 (KD (KT (b.getD i 0) a (RT a b i) 0*INV) PL (T1 (b.getD i 0) a (RT a b i)) 4)) O O (λw=>(aM _ _ _).trans (congrArg (λz=>Result.ok (U64 z) w) (d2s (b.getD i 0) (KT (b.getD i 0) a (RT a b i) 0*INV) a (RT a b i) 3 aC)))<|Asg O<|aa<|Xp<|Mv O<|Ca O (bV _ (PL.getD 5 0))<|Mv O<|Exq O O<|Exq O O<|Asg O<|Asg O<|aa<|Xp<|Mv O<|Mv O<|bI O O (λw=>dJ _ _ 0 aC w) O O<|Mv O<|Exq O O<|Exq O O<|Asg O<|Asg O<|aa<|Xp<|Mv O<|Mv O<|Bnr O O (λ_=>aM _ _ _)<|Asg O<|aa<|Xp<|?_;refine Mv O<|Mv O<|bI O O (λw=>dP _ _ 0 _ aC (d1s (b.getD i 0) (KT (b.getD i 0) a (RT a b i) 0*INV) a (RT a b i) 4 aC) w) O O<|Mv O<|Exq O O<|Exq O O<|Asg O<|Asg O<|aa<|Xp<|Mv O<|Mv O<|Bnr (v:=U64 (KD (KT (b.getD i 0) a (RT a b i) 0*INV) PL (T1 (b.getD i 0) a (RT a b i)) 5)) O O (λw=>(aM _ _ _).trans (congrArg (λz=>Result.ok (U64 z) w) (d2s (b.getD i 0) (KT (b.getD i 0) a (RT a b i) 0*INV) a (RT a b i) 4 aC)))<|Asg O<|aa<|Xq<|Mv O<|Mv O<|Bnr O O (λ_=>aM _ _ _)<|Asg O<|aa<|Xq<|Mv O<|Bnr O O (λ_=>az _ _ _ aG)<|Asg O<|aa<|?_
   repeat (refine bg ?_)
   exact aV<|⟨rfl,⟨i+1,om⟩,_,by show 6-(i+1)<6-i;omega,rfl,⟨rfl,rfl,rfl,congrArg (λz=>some (U64 z)) (pX a b i 0 aC).symm,congrArg (λz=>some (U64 z)) (pX a b i 1 aC).symm,congrArg (λz=>some (U64 z)) (pX a b i 2 aC).symm,congrArg (λz=>some (U64 z)) (pX a b i 3 aC).symm,congrArg (λz=>some (U64 z)) (pX a b i 4 aC).symm,congrArg (λz=>some (U64 z)) (BG a b i).symm,rfl,trivial⟩,trv⟩
  ·obtain rfl:i=6:=by simp at hc;omega
   refine bj<|Xp<|Mv O<|Mv O<|Mv O<|Mv O<|Mv O<|Mv O<|dG (n:=6) (vs:=(RT a b 6).map U64) (congrArg some (vM (RT a b 6) (fE _ _ _))) O underlying120 sizeOf22 zeroValue120 (by rw[List.length_map,fE];rfl) (aZ _) O O<|Al 19 hGF zv120<|λb19=>Sw 19 hGF O O O bY (fE _ _ _)<|aa<|ah<|Xa [0,1,2,3,4,5] ⟨6,20,120,(List.replicate 6 0#64).map U64⟩ [7,8] (bA O zv120 O)<|Lw 19 O O bY (fE _ _ _)<|Ca O (i1)<|Ca O (ee _ _ (fE _ _ _) O)<|Mv O<|Exq O O<|Exq O O<|aa<|?_
   refine ⟨_,_,rfl,hGF,by intro x hx;simp only[List.mem_cons,List.not_mem_nil,or_false]at hx;subst hx;rfl,by intro x hx;simp only[List.mem_cons,List.not_mem_nil,or_false]at hx;subst hx;rfl,λadr=> ?_⟩
   refine Sw 20 hGF O O O bY (bq _ _ _)<|Asg O<|aa<|Xp<|Mv O<|Bnr (v:=.bool false) O O (λw=>(bC _ _ _).trans (congrArg (λb=>Result.ok (Value.bool b) w) (beq_eq_false_iff_ne.2 h0)))<|aa<|aH O<|aw<|Xp<|Lw 19 O O bY (fE _ _ _)<|Sw 4 hGF O O O bY (fE _ _ _)<|aa<|ao<|Rr<|?_;exact aF 4 O O O isAgg120 sizeOf120 (by rw[List.length_map,fE]) (λw hw=>⟨by rw[RM,if_neg h0],ae hw⟩)
end
section
open Go.RowKit
theorem ent139:aJ prog 139:=λ_ _=>kr
theorem ent171:aJ prog 171:=λ_ _=>kr
theorem zv126(w:World):(zeroValue 126).run prog w=.ok (bd (List.replicate 6 (0#64))) w:=(zeroValue126 w).trans aE
def gQ(a b:L6):L6:=if 1873798617647539866#64<=(AS a b 6).1.getD 5 0/\(SS (AS a b 6).1 PL 6).2=0 then (SS (AS a b 6).1 PL 6).1 else (AS a b 6).1
def kX(a b:L6):L6:=if (SS a b 6).2=1 then (AS (SS a b 6).1 PL 6).1 else (SS a b 6).1
def pL(a:L6):L6:=if a=List.replicate 6 0 then a else (SS PL a 6).1
theorem iL(a b:L6):(gQ a b).length=6:=by
 unfold gQ;split
 ·exact bq _ _ _
 ·exact bN _ _ _
theorem jw(a b:L6):(kX a b).length=6:=by
 unfold kX;split
 ·exact bN _ _ _
 ·exact bq _ _ _
theorem mi(a:L6)(h:a.length=6):(pL a).length=6:=by
 unfold pL;split
 ·exact h
 ·exact bq _ _ _
theorem oF(a:L6)(ha:a.length=6):PUR 178 [bd (a)] (bd (RM a TWO)):=by
 intro w hw;refine Hf func178 O hw<|λhGF=>Xp<|Bx 1 hGF O<|λb1=>Al 2 hGF zv126<|λb2=>aa<|Xd []<|Lw 1 O O bY ha<|Ca O (xV)<|Ca O (ll _ _ ha rd)<|dp O (cx _ _) underlying126 O sizeOf120 zv126 O O<|Sw 2 hGF O O O eo (cx _ _)<|aa<|ao<|Rr<|?_;exact aF 2 O O O isAgg126 sizeOf126 (by rw[List.length_map,cx]) (λw hw=>⟨rfl,ae hw⟩)
theorem jA(a:L6)(ha:a.length=6):PUR 105 [bd (a)] (bd (RM a N1)):=by
 intro w hw;refine Hf func105 O hw<|λhGF=>Xp<|Bx 1 hGF O<|λb1=>Al 2 hGF zv120<|λb2=>aa<|Xp<|Fa 0 O underlying126 O sizeOf120<|Lw 1 O O bY ha<|go 1 O underlying120 sizeOf22 zv120 O O<|Ca O (ll _ _ ha H3)<|Sw 2 hGF O O O bY (cx _ _)<|aa<|ao<|Rr<|?_;exact aF 2 O O O isAgg120 sizeOf120 (by rw[List.length_map,cx]) (λw hw=>⟨rfl,ae hw⟩)
theorem d9(a b:L6)(ha:a.length=6)(hb:b.length=6):PUR 169 [bd (a),bd (b)] (bd (RM a b)):=by
 intro w hw;refine Hf func169 O hw<|λhGF=>Xp<|Bx 2 hGF O<|λb2=>Bx 3 hGF O<|λb3=>Al 4 hGF zv126<|λb4=>aa<|Xp<|Fa 0 O underlying126 O sizeOf120<|Lw 2 O O bY ha<|Fa 0 O underlying126 O sizeOf120<|Lw 3 O O bY hb<|Ca O (ll _ _ ha hb)<|dp O (cx _ _) underlying126 O sizeOf120 zv126 O O<|Sw 4 hGF O O O eo (cx _ _)<|aa<|ao<|Rr<|?_;exact aF 4 O O O isAgg126 sizeOf126 (by rw[List.length_map,cx]) (λw hw=>⟨rfl,ae hw⟩)
theorem tf(n:BitVec 64):PUR 142 [U64 n] (bd (RM (n::List.replicate 5 0) TWO)):=by
 intro w hw;refine Hf func142 O hw<|λhGF=>Xp<|Al 2 hGF zv126<|λb2=>aa<|Xp<|Mv O<|go n O underlying120 sizeOf22 zv120 O O<|Ca O (oF (n::List.replicate 5 0) O)<|Sw 2 hGF O O O eo (cx _ _)<|aa<|ao<|Rr<|?_;exact aF 2 O O O isAgg126 sizeOf126 (by rw[List.length_map,cx]) (λw hw=>⟨rfl,ae hw⟩)
theorem cT(a:L6)(ha:a.length=6):PUR 139 [bd (a)] (.bool (decide (a=List.replicate 6 0))):=by
 intro w hw;refine Hf func139 O hw<|λhGF=>Xp<|Bx 1 hGF O<|λb1=>Asg O<|aa<|Xp<|Fa 0 O underlying126 O sizeOf120<|Lw 1 O O bY ha<|dk zv120 underlying120 sizeOf22 O O<|db (v:=.bool (decide (a=List.replicate 6 0#64))) O O (λ_=>KS _ _ _ _ _ _) (λw=>eq27 a (List.replicate 6 0#64) ha O w) O O<|Asg O<|aa<|ao<|Rr<|?_;exact au O O (λw hw=>⟨rfl,ae hw⟩)
theorem uW(a b:L6)(ha:a.length=6)(hb:b.length=6):PUR 177 [bd (a),bd (b)] (.bool (decide ((SS a b 6).2=1))):=by
 intro w hw;refine Hf func177 O hw<|λhGF=>Xp<|Bx 2 hGF O<|λb2=>Bx 3 hGF O<|λb3=>Asg O<|aa<|Xp<|Lw 2 O O bY ha<|Lw 3 O O bY hb<|Ca O (ee _ _ ha hb)<|Mv O<|Exq O O<|Exq O O<|Al 5 hGF zv120<|λb5=>Sw 5 hGF O O O bY (bq _ _ _)<|Asg O<|aa<|Xp<|Mv O<|Bnr (v:=.bool (decide ((SS a b 6).2=1))) O O (λw=>(bC _ _ _).trans O)<|Asg O<|aa<|ao<|Rr<|?_;exact au O O (λw hw=>⟨rfl,ae hw⟩)
theorem eN(a b:L6)(ha:a.length=6)(hb:b.length=6):PUR 171 [bd (a),bd (b)] (bd (kX a b)):=by
 intro w hw;refine Hf func171 O hw ?_;intro hGF;by_cases h0:(SS a b 6).2=1
 ·refine Xp<|Bx 2 hGF O<|λb2=>Bx 3 hGF O<|λb3=>Al 4 hGF zv126<|λb4=>aa<|Xp<|Fa 0 O underlying126 O sizeOf120<|Lw 2 O O bY ha<|Fa 0 O underlying126 O sizeOf120<|Lw 3 O O bY hb<|Ca O (ee _ _ ha hb)<|Mv O<|Exq O O<|Exq O O<|Al 5 hGF zv120<|λb5=>Sw 5 hGF O O O bY (bq _ _ _)<|Asg O<|aa<|ah<|Xp<|Mv O<|Bnr (v:=.bool true) O O (λw=>(bC _ _ _).trans (congrArg (λb=>Result.ok (Value.bool b) w) (beq_iff_eq.2 h0)))<|aa<|aP O<|Xe []<|Lw 5 O O bY (bq _ _ _)<|Ca O (i1)<|Ca O (jp _ _ (bq _ _ _) gD)<|Mv O<|Exq O O<|Exq O O<|ai 5 hGF O O O sizeOf120 (by rw[List.length_map,bN _ _ _]) (by rw[List.length_map,bq _ _ _]) (aZ _) O<|aa<|Xp<|Lw 5 O O bY (bN _ _ _)<|dp O (bN _ _ _) underlying126 O sizeOf120 zv126 O O<|Sw 4 hGF O O O eo (bN _ _ _)<|aa<|ao<|Rr<|?_
  exact aF 4 O O O isAgg126 sizeOf126 (by rw[List.length_map];exact bN _ _ _) (λw hw=>⟨by rw[kX,if_pos h0],ae hw⟩)
 ·refine Xp<|Bx 2 hGF O<|λb2=>Bx 3 hGF O<|λb3=>Al 4 hGF zv126<|λb4=>aa<|Xp<|Fa 0 O underlying126 O sizeOf120<|Lw 2 O O bY ha<|Fa 0 O underlying126 O sizeOf120<|Lw 3 O O bY hb<|Ca O (ee _ _ ha hb)<|Mv O<|Exq O O<|Exq O O<|Al 5 hGF zv120<|λb5=>Sw 5 hGF O O O bY (bq _ _ _)<|Asg O<|aa<|ah<|Xp<|Mv O<|Bnr (v:=.bool false) O O (λw=>(bC _ _ _).trans (congrArg (λb=>Result.ok (Value.bool b) w) (beq_eq_false_iff_ne.2 h0)))<|aa<|aH O<|aw<|Xp<|Lw 5 O O bY (bq _ _ _)<|dp O (bq _ _ _) underlying126 O sizeOf120 zv126 O O<|Sw 4 hGF O O O eo (bq _ _ _)<|aa<|ao<|Rr<|?_
  exact aF 4 O O O isAgg126 sizeOf126 (by rw[List.length_map];exact bq _ _ _) (λw hw=>⟨by rw[kX,if_neg h0],ae hw⟩)
theorem ye(a:L6)(ha:a.length=6):PUR 170 [bd (a)] (bd (pL a)):=by
 intro w hw;refine Hf func170 O hw ?_;intro hGF;by_cases h0:a=List.replicate 6 0
 ·refine Xp<|Bx 1 hGF O<|λb1=>Al 2 hGF zv126<|λb2=>aa<|ah<|Xp<|Lw 1 O O eo ha<|jQ (v:=.bool true) O O ent139 (decide_eq_true h0▸cT a ha) O O<|aa<|aP O<|Xp<|Lw 1 O O eo ha<|Sw 2 hGF O O O eo ha<|aa<|ao<|Rr<|?_
  exact aF 2 O O O isAgg126 sizeOf126 (by rw[List.length_map];exact ha) (λw hw=>⟨by rw[pL,if_pos h0],ae hw⟩)
 ·refine Xp<|Bx 1 hGF O<|λb1=>Al 2 hGF zv126<|λb2=>aa<|ah<|Xp<|Lw 1 O O eo ha<|jQ (v:=.bool false) O O ent139 (decide_eq_false h0▸cT a ha) O O<|aa<|aH O<|aw<|Xa [0,1,2,3,4,5,6] ⟨7,3,120,(List.replicate 6 0#64).map U64⟩ [8,9] (bA O zv120 O)<|Ca O (i1)<|Fa 0 O underlying126 O sizeOf120<|Lw 1 O O bY ha<|Ca O (ee _ _ gD ha)<|Mv O<|Exq O O<|Exq O O<|aa<|?_
  refine ⟨_,_,rfl,hGF,by intro x hx;simp only[List.mem_cons,List.not_mem_nil,or_false]at hx;subst hx;rfl,by intro x hx;simp only[List.mem_cons,List.not_mem_nil,or_false]at hx;subst hx;rfl,λadr=> ?_⟩
  refine Sw 3 hGF O O O bY (bq _ _ _)<|Asg O<|aa<|Xp<|Lw 3 O O bY (bq _ _ _)<|dp O (bq _ _ _) underlying126 O sizeOf120 zv126 O O<|Sw 2 hGF O O O eo (bq _ _ _)<|aa<|ao<|Rr<|?_;exact aF 2 O O O isAgg126 sizeOf126 (by rw[List.length_map];exact bq _ _ _) (λw hw=>⟨by rw[pL,if_neg h0],ae hw⟩)
theorem fw(a b:L6)(ha:a.length=6)(hb:b.length=6):PUR 172 [bd (a),bd (b)] (bd (gQ a b)):=by
 intro w hw;refine Hf func172 O hw ?_;intro hGF;by_cases h1:1873798617647539866#64<=(AS a b 6).1.getD 5 0
 ·by_cases h0:(SS (AS a b 6).1 PL 6).2=0
  ·refine Xp<|Bx 2 hGF O<|λb2=>Bx 3 hGF O<|λb3=>Al 4 hGF zv126<|λb4=>aa<|Xp<|Fa 0 O underlying126 O sizeOf120<|Lw 2 O O bY ha<|Fa 0 O underlying126 O sizeOf120<|Lw 3 O O bY hb<|Ca O (jp _ _ ha hb)<|Mv O<|Exq O O<|Exq O O<|Al 5 hGF zv120<|λb5=>Sw 5 hGF O O O bY (bN _ _ _)<|Asg O<|aa<|ah<|Xp<|Ia (5) O O underlying120 sizeOf22<|Lmq 5 U64 0 O O isAgg22 (by rw[bN _ _ _];omega)<|Bnr (v:=.bool true) O O (λw=>(bO _ _ 1873798617647539866#64).trans (congrArg (λb=>Result.ok (Value.bool b) w) (decide_eq_true h1)))<|aa<|aP O<|Xa [0,1,2,3,4,5] ⟨6,7,120,(List.replicate 6 0#64).map U64⟩ [7,8] (bA O zv120 O)<|Lw 5 O O bY (bN _ _ _)<|Ca O (i1)<|Ca O (ee _ _ (bN _ _ _) gD)<|Mv O<|Exq O O<|Exq O O<|aa<|?_
   refine ⟨_,_,rfl,hGF,by intro x hx;simp only[List.mem_cons,List.not_mem_nil,or_false]at hx;subst hx;rfl,by intro x hx;simp only[List.mem_cons,List.not_mem_nil,or_false]at hx;subst hx;rfl,λadr=> ?_⟩
   refine Sw 7 hGF O O O bY (bq _ _ _)<|Asg O<|aa<|Xp<|Mv O<|Bnr (v:=.bool true) O O (λw=>(bC _ _ _).trans (congrArg (λb=>Result.ok (Value.bool b) w) (beq_iff_eq.2 h0)))<|aa<|aP O<|Xq<|Lw 7 O O bY (bq _ _ _)<|ai 5 hGF O O O sizeOf120 (by rw[List.length_map,bq _ _ _]) (by rw[List.length_map,bN _ _ _]) (aZ _) O<|aa<|Xp<|Lw 5 O O bY (bq _ _ _)<|dp O (bq _ _ _) underlying126 O sizeOf120 zv126 O O<|Sw 4 hGF O O O eo (bq _ _ _)<|aa<|ao<|Rr<|?_
   exact aF 4 O O O isAgg126 sizeOf126 (by rw[List.length_map];exact bq _ _ _) (λw hw=>⟨by rw[gQ,if_pos ⟨h1,h0⟩],ae hw⟩)
  ·refine Xp<|Bx 2 hGF O<|λb2=>Bx 3 hGF O<|λb3=>Al 4 hGF zv126<|λb4=>aa<|Xp<|Fa 0 O underlying126 O sizeOf120<|Lw 2 O O bY ha<|Fa 0 O underlying126 O sizeOf120<|Lw 3 O O bY hb<|Ca O (jp _ _ ha hb)<|Mv O<|Exq O O<|Exq O O<|Al 5 hGF zv120<|λb5=>Sw 5 hGF O O O bY (bN _ _ _)<|Asg O<|aa<|ah<|Xp<|Ia (5) O O underlying120 sizeOf22<|Lmq 5 U64 0 O O isAgg22 (by rw[bN _ _ _];omega)<|Bnr (v:=.bool true) O O (λw=>(bO _ _ 1873798617647539866#64).trans (congrArg (λb=>Result.ok (Value.bool b) w) (decide_eq_true h1)))<|aa<|aP O<|Xa [0,1,2,3,4,5] ⟨6,7,120,(List.replicate 6 0#64).map U64⟩ [7,8] (bA O zv120 O)<|Lw 5 O O bY (bN _ _ _)<|Ca O (i1)<|Ca O (ee _ _ (bN _ _ _) gD)<|Mv O<|Exq O O<|Exq O O<|aa<|?_
   refine ⟨_,_,rfl,hGF,by intro x hx;simp only[List.mem_cons,List.not_mem_nil,or_false]at hx;subst hx;rfl,by intro x hx;simp only[List.mem_cons,List.not_mem_nil,or_false]at hx;subst hx;rfl,λadr=> ?_⟩
   refine Sw 7 hGF O O O bY (bq _ _ _)<|Asg O<|aa<|Xp<|Mv O<|Bnr (v:=.bool false) O O (λw=>(bC _ _ _).trans (congrArg (λb=>Result.ok (Value.bool b) w) (beq_eq_false_iff_ne.2 h0)))<|aa<|aH O<|aw<|Xp<|Lw 5 O O bY (bN _ _ _)<|dp O (bN _ _ _) underlying126 O sizeOf120 zv126 O O<|Sw 4 hGF O O O eo (bN _ _ _)<|aa<|ao<|Rr<|?_;exact aF 4 O O O isAgg126 sizeOf126 (by rw[List.length_map];exact bN _ _ _) (λw hw=>⟨by rw[gQ,if_neg (λh=>h0 h.2)],ae hw⟩)
 ·refine Xp<|Bx 2 hGF O<|λb2=>Bx 3 hGF O<|λb3=>Al 4 hGF zv126<|λb4=>aa<|Xp<|Fa 0 O underlying126 O sizeOf120<|Lw 2 O O bY ha<|Fa 0 O underlying126 O sizeOf120<|Lw 3 O O bY hb<|Ca O (jp _ _ ha hb)<|Mv O<|Exq O O<|Exq O O<|Al 5 hGF zv120<|λb5=>Sw 5 hGF O O O bY (bN _ _ _)<|Asg O<|aa<|ah<|Xp<|Ia (5) O O underlying120 sizeOf22<|Lmq 5 U64 0 O O isAgg22 (by rw[bN _ _ _];omega)<|Bnr (v:=.bool false) O O (λw=>(bO _ _ 1873798617647539866#64).trans (congrArg (λb=>Result.ok (Value.bool b) w) (decide_eq_false h1)))<|aa<|aH O<|aw<|Xp<|Lw 5 O O bY (bN _ _ _)<|dp O (bN _ _ _) underlying126 O sizeOf120 zv126 O O<|Sw 4 hGF O O O eo (bN _ _ _)<|aa<|ao<|Rr<|?_
  exact aF 4 O O O isAgg126 sizeOf126 (by rw[List.length_map];exact bN _ _ _) (λw hw=>⟨by rw[gQ,if_neg (λh=>h1 h.1)],ae hw⟩)
end
section
open Go.RowKit
theorem ent204:aJ prog 204:=λ_ _=>kr
def fQ(bs:L8)(i:Nat):BitVec 8:=(bs.getD (i / 8) 0>>>(7-i % 8)) &&& 1#8
def RP(a:L6)(bs:L8):Nat->L6
 |0=>ONE
 |i+1=>if fQ bs i=1#8 then RM (RM (RP a bs i) (RP a bs i)) a else RM (RP a bs i) (RP a bs i)
theorem f9(a:L6)(bs:L8): ∀i,(RP a bs i).length=6
 |0=>rfl
 |i+1=>by
  unfold RP;split
  ·exact cx _ _
  ·exact cx _ _
theorem HB(a:L6)(bs:L8)(i:Nat)(h:fQ bs i=1#8):RP a bs (i+1)=RM (RM (RP a bs i) (RP a bs i)) a:=by rw[RP,if_pos h]
theorem Ie(a:L6)(bs:L8)(i:Nat)(h: ¬fQ bs i=1#8):RP a bs (i+1)=RM (RP a bs i) (RP a bs i):=by rw[RP,if_neg h]
theorem u9(a:L6)(ha:a.length=6)(e:Option Addr)(cap:Nat)(bs:L8)(hlen:bs.length<=4096)(w:World)(hw:Gt w)(hby:BytesAt w e bs):
 CLS 204 [bd (a),.slice e bs.length cap].toArray w (λr w'=>r=.returned (bd (RP a bs (8*bs.length)))/\Grow w w'):=by
 refine Hf func204 O hw<|λhGF=>Xp<|Bx 2 hGF O<|λb2=>Al 4 hGF zv126<|λb4=>aa<|Xp<|Ca O (xN)<|dp O (rl) underlying126 O sizeOf120 zv126 O O<|Al 5 hGF zv126<|λb5=>Sw 5 hGF O O O eo rl<|aa<|ah<|Xp<|Asg O<|aa<|ar<|bS (ι:={i:Nat // i<=8*bs.length}) (λx=>[(1,.slice e bs.length cap),(2,pnt b2),(4,pnt b4),(5,pnt b5),(6,I (x.1:Int))]) (λx=>[(2,b2,a.map U64,126),(4,b4,(List.replicate 6 0#64).map U64,126),(5,b5,(RP a bs x.1).map U64,126)]) (λx=>8*bs.length-x.1) ⟨0,om⟩ hGF trv trv<|?_;rintro ⟨i,hi⟩;dsimp only;refine ah<|Xp<|Mv O<|Mv O<|bB O (λ_=>aO underlying123 _ _ _ _) O O<|Bnr (v:=I ((8*bs.length:Nat):Int)) O O (λ_=>(bQ _ _ _ aG).trans (by rw[show (8:Int)*(bs.length:Int)=((8*bs.length:Nat):Int) by omega]))<|Bnr O O (λ_=>aI _ _ _)<|aa<|?_
 refine co O (λhc=> ?_) (λhc=> ?_)
 ·simp only[decide_eq_true_eq]at hc
  refine aw<|ah<|ar<|Xp<|Lw 5 O O eo (f9 _ _ _)<|Lw 5 O O eo (f9 _ _ _)<|Ca O (d9 _ _ (f9 _ _ _) (f9 _ _ _))<|ai 5 hGF O O O sizeOf126 (by rw[List.length_map,cx _ _]) (by rw[List.length_map,f9]) (aZ _) O<|aa<|Xp<|Mv O<|Mv O<|Bnr (v:=I ((i / 8:Nat):Int)) O O (λ_=>gr _ _ _ aC (show inI ((i / 8:Nat):Int) by unfold inI;omega))<|?_
  obtain ⟨ad,rfl,_⟩:=hby (i / 8) _ (gm U8 bs 0 (i / 8) om);refine gT (i / 8) O O underlying123 sizeOf5 O om O O<|aQ O isAgg5 (λw' h=>by obtain ⟨ad',e,hc⟩:=(hby.grow (ae h)) (i / 8) _ (gm U8 bs 0 (i / 8) om);cases e;exact hc) O O<|Mv O<|Bnr (v:=I ((i % 8:Nat):Int)) O O (λ_=>eZ _ _ _ aC)<|Bnr (v:=I ((7-i % 8:Nat):Int)) O O (λ_=>(bu _ _ _ aG).trans (by rw[show ((7:Int)-((i % 8:Nat):Int))=((7-i % 8:Nat):Int) by omega]))<|Bnr (v:=U8 (bs.getD (i / 8) 0>>>(7-i % 8))) O O (λ_=>im _ _ _ om)<|Bnr (v:=U8 (fQ bs i)) O O (λ_=>eu _ _ 1#8)<|Bnr (v:=.bool (decide (fQ bs i=1#8))) O O (λ_=>(dB _ _ 1#8).trans O)<|aa<|?_
  refine co O (λhc=> ?_) (λhc=> ?_)
  ·simp only[decide_eq_true_eq]at hc
   have hq:=hc;refine Xq<|Lw 5 O O eo (cx _ _)<|Lw 2 O O eo ha<|Ca O (d9 _ _ (cx _ _) ha)<|ai 5 hGF O O O sizeOf126 (by rw[List.length_map,cx _ _]) (by rw[List.length_map,cx _ _]) (aZ _) O<|aa<|Xq<|Mv O<|Bnr O O (λ_=>az _ _ _ aG)<|Asg O<|aa<|?_
   repeat (refine bg ?_)
   exact aV<|⟨rfl,⟨i+1,om⟩,_,by show 8*bs.length-(i+1)<8*bs.length-i;omega,rfl,trv,⟨rfl,rfl,by first|(rw[HB a bs i hq];rfl)|(rw[Ie a bs i hq];rfl),trivial⟩⟩
  ·simp only[decide_eq_false_iff_not]at hc
   have hq:=hc;refine aw<|Xq<|Mv O<|Bnr O O (λ_=>az _ _ _ aG)<|Asg O<|aa<|?_
   repeat (refine bg ?_)
   exact aV<|⟨rfl,⟨i+1,om⟩,_,by show 8*bs.length-(i+1)<8*bs.length-i;omega,rfl,trv,⟨rfl,rfl,by first|(rw[HB a bs i hq];rfl)|(rw[Ie a bs i hq];rfl),trivial⟩⟩
 ·obtain rfl:i=8*bs.length:=by simp at hc;omega
  refine bj<|Xp<|Lw 5 O O eo (f9 _ _ _)<|Sw 4 hGF O O O eo (f9 _ _ _)<|aa<|ao<|Rr<|?_;exact aF 4 O O O isAgg126 sizeOf126 (by rw[List.length_map,f9]) (λw hw=>⟨rfl,ae hw⟩)
end
section
open Go.RowKit
theorem ent176:aJ prog 176:=λ_ _=>kr
theorem Bu(n i:Nat)(hn:n<=64):decide (0#64<BitVec.ofNat 64 (n-i))=decide (i<n):=by
 refine decide_eq_decide.2 ?_;rw[BitVec.lt_def];simp only[BitVec.toNat_ofNat];omega
theorem BO(n i:Nat)(_hn:n<=64)(hi:i<n):BitVec.ofNat 64 (n-i)-1#64=BitVec.ofNat 64 (n-(i+1)):=by
 apply BitVec.eq_of_toNat_eq;simp only[BitVec.toNat_sub,BitVec.toNat_ofNat];omega
def HLs(l:L6):Nat->L6
 |0=>l
 |k+1=>if k<5 then ((HLs l k).set k ((HLs l k).getD k 0>>>1)).set k (((HLs l k).set k ((HLs l k).getD k 0>>>1)).getD k 0|||((HLs l k).set k ((HLs l k).getD k 0>>>1)).getD (k+1) 0<<<63)else (HLs l k).set k ((HLs l k).getD k 0>>>1)
theorem v3(l:L6)(k:Nat)(h:k<5):HLs l (k+1)=((HLs l k).set k ((HLs l k).getD k 0>>>1)).set k (((HLs l k).set k ((HLs l k).getD k 0>>>1)).getD k 0|||((HLs l k).set k ((HLs l k).getD k 0>>>1)).getD (k+1) 0<<<63):=by rw[HLs,if_pos h]
theorem wC(l:L6)(k:Nat)(h: ¬k<5):HLs l (k+1)=(HLs l k).set k ((HLs l k).getD k 0>>>1):=by rw[HLs,if_neg h]
theorem e5(l:L6): ∀k,(HLs l k).length=l.length
 |0=>rfl
 |k+1=>by
  unfold HLs;split
  ·rw[List.length_set,List.length_set,e5 l k]
  ·rw[List.length_set,e5 l k]
def HN(l:L6):Nat->L6
 |0=>l
 |i+1=>HLs (HN l i) 6
theorem fv(l:L6): ∀i,(HN l i).length=l.length
 |0=>rfl
 |i+1=>by rw[HN,e5,fv l i]
theorem uZ(w:World)(hw:Gt w):CLS 176 [I (-2),U64 0#64].toArray w (λe w'=> ∃b,e=.returned (.slice (spt b) 48 48)/\Grow w w'/\w.heap.size<=b/\OwnB w' b ((BYs (HN (SS PL (2#64::List.replicate 5 0) 6).1 0) 48).map U8) 32):=by
 refine Hf func176 O hw<|λhGF=>Xp<|Asg O<|aa<|Xp<|Ca O (i1)<|Al 5 hGF zv120<|λb5=>Sw 5 hGF O O O bY gD<|aa<|ah<|Xp<|Mv O<|Bnr (v:=.bool true) O O (λw=>aI _ (-2) 0)<|aa<|aP O<|Xq<|Lw 5 O O bY gD<|Mv O<|bT (v:=I 2) O (λ_=>tk (-2) aG) O O<|bH (v:=U64 2#64) O O (λ_=>(dq underlying2 underlying22 2).trans O) O O<|go 2#64 O underlying120 sizeOf22 zv120 O O<|Ca O (ee PL (2#64::List.replicate 5 0) gD O)<|Mv O<|Exq O O<|Exq O O<|ai 5 hGF O O O sizeOf120 (by rw[List.length_map,bq _ _ _]) (by rw[List.length_map,gD]) (aZ _) O<|aa<|ah<|ar<|bS (ι:={i:Nat // i<=0}) (λx=>[(4,.slice none 0 0),(5,pnt b5),(1,U64 (BitVec.ofNat 64 (0-x.1)))]) (λx=>[(5,b5,(HN (SS PL (2#64::List.replicate 5 0) 6).1 x.1).map U64,120)]) (λx=>0-x.1) ⟨0,om⟩ hGF trv trv<|?_
 rintro ⟨i,hi⟩;dsimp only;refine ah<|Xp<|Mv O<|Bnr (v:=.bool (decide (i<0))) O O (λw=>(eV _ _ 0#64).trans (congrArg (λb=>Result.ok (Value.bool b) w) (Bu 0 i aC)))<|aa<|?_;refine co O (λhc=> ?_) (λhc=> ?_)
 ·simp only[decide_eq_true_eq]at hc
  refine aw<|ah<|ar<|Xp<|Asg O<|aa<|ar<|bS (ι:={i:Nat // i<=6}) (λx=>[(4,.slice none 0 0),(5,pnt b5),(1,U64 (BitVec.ofNat 64 (0-i))),(6,I (x.1:Int))]) (λx=>[(5,b5,(HLs (HN (SS PL (2#64::List.replicate 5 0) 6).1 i) x.1).map U64,120)]) (λx=>6-x.1) ⟨0,om⟩ hGF trv trv<|?_;rintro ⟨k,hk⟩;dsimp only;refine ah<|Xp<|Mv O<|Bnr O O (λ_=>aI _ _ _)<|aa<|?_;refine co O (λhc=> ?_) (λhc=> ?_)
  ·simp only[decide_eq_true_eq]at hc
   refine aw<|ah<|ar<|Xp<|Mv O<|Mv O<|Ia (k) O O underlying120 sizeOf22<|Lmq 5 U64 0 O O isAgg22 (by rw[e5,fv,bq];omega)<|Bnr O O (λ_=>cB _ _ 1#64)<|Ia (k) O O underlying120 sizeOf22<|bK 5 U64 hGF O O O sizeOf22 O (by rw[e5,fv,bq];omega) O<|aa<|Xp<|Mv O<|Bnr O O (λ_=>aI _ _ _)<|aa<|?_
   refine co O (λhc=> ?_) (λhc=> ?_)
   ·simp only[decide_eq_true_eq]at hc
    have hq:k<5:=om;refine Xe []<|Mv O<|Ia (k) O O underlying120 sizeOf22<|Lmq 5 U64 0 O O isAgg22 (by rw[List.length_set,e5,fv,bq];omega)<|Mv O<|Bnr O O (λ_=>az _ _ _ aG)<|Ia ((k+1)) O O underlying120 sizeOf22<|Lmq 5 U64 0 O O isAgg22 (by rw[List.length_set,e5,fv,bq];omega)<|Bnr O O (λ_=>np _ _ 63#64)<|Bnr O O (λ_=>iF _ _ _)<|Ia (k) O O underlying120 sizeOf22<|bK 5 U64 hGF O O O sizeOf22 O (by rw[List.length_set,e5,fv,bq];omega) O<|aa<|Xq<|Mv O<|Bnr O O (λ_=>az _ _ _ aG)<|Asg O<|aa<|?_
    repeat (refine bg ?_)
    exact aV<|⟨rfl,⟨k+1,om⟩,_,by show 6-(k+1)<6-k;omega,rfl,trv,⟨by first|(rw[v3 _ k hq];rfl)|(rw[wC _ k hq];rfl),trivial⟩⟩
   ·simp only[decide_eq_false_iff_not]at hc
    have hq: ¬k<5:=om;refine aw<|Xq<|Mv O<|Bnr O O (λ_=>az _ _ _ aG)<|Asg O<|aa<|?_
    repeat (refine bg ?_)
    exact aV<|⟨rfl,⟨k+1,om⟩,_,by show 6-(k+1)<6-k;omega,rfl,trv,⟨by first|(rw[v3 _ k hq];rfl)|(rw[wC _ k hq];rfl),trivial⟩⟩
  ·obtain rfl:k=6:=by simp at hc;omega
   refine bj<|Xq<|Mv O<|Bnr (v:=U64 (BitVec.ofNat 64 (0-(i+1)))) O O (λw=>(i4 _ _ 1#64).trans (congrArg (λz=>Result.ok (U64 z) w) (BO 0 i aC om)))<|Asg O<|aa<|?_
   repeat (refine bg ?_)
   exact aV<|⟨rfl,⟨i+1,om⟩,_,by show 0-(i+1)<0-i;omega,rfl,trv,trv⟩
 ·obtain rfl:i=0:=by simp at hc;omega
  refine bj<|Xp<|aq 5 O O isAgg120 sizeOf120 (by rw[List.length_map,fv,bq]) O O<|Ca O (fj _ (by rw[fv,bq]))<|Al 7 hGF zv32<|λb7=>Sx 7 hGF O O O xl (bX _ _) (bp _)<|aa<|Xp<|cg (l:=0) (h':=48) O underlying32 sizeOf5 O O om om O O<|Asg O<|aa<|ao<|Rr<|?_
  exact au O O (λw hw=>⟨b7,rfl,ae hw,(hw.own 7 b7 _ _ O).2.elim id False.elim,(hw.own 7 b7 _ _ O).1⟩)
theorem uJ(w:World)(hw:Gt w):CLS 176 [I (-1),U64 1#64].toArray w (λe w'=> ∃b,e=.returned (.slice (spt b) 48 48)/\Grow w w'/\w.heap.size<=b/\OwnB w' b ((BYs (HN (SS PL (1#64::List.replicate 5 0) 6).1 1) 48).map U8) 32):=by
 refine Hf func176 O hw<|λhGF=>Xp<|Asg O<|aa<|Xp<|Ca O (i1)<|Al 5 hGF zv120<|λb5=>Sw 5 hGF O O O bY gD<|aa<|ah<|Xp<|Mv O<|Bnr (v:=.bool true) O O (λw=>aI _ (-1) 0)<|aa<|aP O<|Xq<|Lw 5 O O bY gD<|Mv O<|bT (v:=I 1) O (λ_=>tk (-1) aG) O O<|bH (v:=U64 1#64) O O (λ_=>(dq underlying2 underlying22 1).trans O) O O<|go 1#64 O underlying120 sizeOf22 zv120 O O<|Ca O (ee PL (1#64::List.replicate 5 0) gD O)<|Mv O<|Exq O O<|Exq O O<|ai 5 hGF O O O sizeOf120 (by rw[List.length_map,bq _ _ _]) (by rw[List.length_map,gD]) (aZ _) O<|aa<|ah<|ar<|bS (ι:={i:Nat // i<=1}) (λx=>[(4,.slice none 0 0),(5,pnt b5),(1,U64 (BitVec.ofNat 64 (1-x.1)))]) (λx=>[(5,b5,(HN (SS PL (1#64::List.replicate 5 0) 6).1 x.1).map U64,120)]) (λx=>1-x.1) ⟨0,om⟩ hGF trv trv<|?_
 rintro ⟨i,hi⟩;dsimp only;refine ah<|Xp<|Mv O<|Bnr (v:=.bool (decide (i<1))) O O (λw=>(eV _ _ 0#64).trans (congrArg (λb=>Result.ok (Value.bool b) w) (Bu 1 i aC)))<|aa<|?_;refine co O (λhc=> ?_) (λhc=> ?_)
 ·simp only[decide_eq_true_eq]at hc
  refine aw<|ah<|ar<|Xp<|Asg O<|aa<|ar<|bS (ι:={i:Nat // i<=6}) (λx=>[(4,.slice none 0 0),(5,pnt b5),(1,U64 (BitVec.ofNat 64 (1-i))),(6,I (x.1:Int))]) (λx=>[(5,b5,(HLs (HN (SS PL (1#64::List.replicate 5 0) 6).1 i) x.1).map U64,120)]) (λx=>6-x.1) ⟨0,om⟩ hGF trv trv<|?_;rintro ⟨k,hk⟩;dsimp only;refine ah<|Xp<|Mv O<|Bnr O O (λ_=>aI _ _ _)<|aa<|?_;refine co O (λhc=> ?_) (λhc=> ?_)
  ·simp only[decide_eq_true_eq]at hc
   refine aw<|ah<|ar<|Xp<|Mv O<|Mv O<|Ia (k) O O underlying120 sizeOf22<|Lmq 5 U64 0 O O isAgg22 (by rw[e5,fv,bq];omega)<|Bnr O O (λ_=>cB _ _ 1#64)<|Ia (k) O O underlying120 sizeOf22<|bK 5 U64 hGF O O O sizeOf22 O (by rw[e5,fv,bq];omega) O<|aa<|Xp<|Mv O<|Bnr O O (λ_=>aI _ _ _)<|aa<|?_
   refine co O (λhc=> ?_) (λhc=> ?_)
   ·simp only[decide_eq_true_eq]at hc
    have hq:k<5:=om;refine Xe []<|Mv O<|Ia (k) O O underlying120 sizeOf22<|Lmq 5 U64 0 O O isAgg22 (by rw[List.length_set,e5,fv,bq];omega)<|Mv O<|Bnr O O (λ_=>az _ _ _ aG)<|Ia ((k+1)) O O underlying120 sizeOf22<|Lmq 5 U64 0 O O isAgg22 (by rw[List.length_set,e5,fv,bq];omega)<|Bnr O O (λ_=>np _ _ 63#64)<|Bnr O O (λ_=>iF _ _ _)<|Ia (k) O O underlying120 sizeOf22<|bK 5 U64 hGF O O O sizeOf22 O (by rw[List.length_set,e5,fv,bq];omega) O<|aa<|Xq<|Mv O<|Bnr O O (λ_=>az _ _ _ aG)<|Asg O<|aa<|?_
    repeat (refine bg ?_)
    exact aV<|⟨rfl,⟨k+1,om⟩,_,by show 6-(k+1)<6-k;omega,rfl,trv,⟨by first|(rw[v3 _ k hq];rfl)|(rw[wC _ k hq];rfl),trivial⟩⟩
   ·simp only[decide_eq_false_iff_not]at hc
    have hq: ¬k<5:=om;refine aw<|Xq<|Mv O<|Bnr O O (λ_=>az _ _ _ aG)<|Asg O<|aa<|?_
    repeat (refine bg ?_)
    exact aV<|⟨rfl,⟨k+1,om⟩,_,by show 6-(k+1)<6-k;omega,rfl,trv,⟨by first|(rw[v3 _ k hq];rfl)|(rw[wC _ k hq];rfl),trivial⟩⟩
  ·obtain rfl:k=6:=by simp at hc;omega
   refine bj<|Xq<|Mv O<|Bnr (v:=U64 (BitVec.ofNat 64 (1-(i+1)))) O O (λw=>(i4 _ _ 1#64).trans (congrArg (λz=>Result.ok (U64 z) w) (BO 1 i aC om)))<|Asg O<|aa<|?_
   repeat (refine bg ?_)
   exact aV<|⟨rfl,⟨i+1,om⟩,_,by show 1-(i+1)<1-i;omega,rfl,trv,trv⟩
 ·obtain rfl:i=1:=by simp at hc;omega
  refine bj<|Xp<|aq 5 O O isAgg120 sizeOf120 (by rw[List.length_map,fv,bq]) O O<|Ca O (fj _ (by rw[fv,bq]))<|Al 7 hGF zv32<|λb7=>Sx 7 hGF O O O xl (bX _ _) (bp _)<|aa<|Xp<|cg (l:=0) (h':=48) O underlying32 sizeOf5 O O om om O O<|Asg O<|aa<|ao<|Rr<|?_
  exact au O O (λw hw=>⟨b7,rfl,ae hw,(hw.own 7 b7 _ _ O).2.elim id False.elim,(hw.own 7 b7 _ _ O).1⟩)
end
section
open Go.RowKit
def EX2:L8:=BYs (HN (SS PL (2#64::List.replicate 5 0) 6).1 0) 48
def EX1:L8:=BYs (HN (SS PL (1#64::List.replicate 5 0) 6).1 1) 48
theorem Ce:EX2.length=48:=bX _ _
theorem CG:EX1.length=48:=bX _ _
theorem HR(a:L6)(ha:a.length=6)(b:Nat)(t:TypeId)(bs:L8)(h48:bs.length=48)(w:World)(hw:Gt w)(ho:OwnB w b (bs.map U8) t):
 CLS 204 [bd (a),.slice (spt b) 48 48].toArray w (λr w'=>r=.returned (bd (RP a bs 384))/\Grow w w'):=by
 have h:=u9 a ha (spt b) 48 bs om w hw (BytesAt.range ho.range);rw[h48]at h;exact h
theorem BZ(b:Nat)(t:TypeId)(bs:L8)(h48:bs.length=48)(w:World)(hw:Gt w)(ho:OwnB w b (bs.map U8) t):
 CLS 175 [.slice (spt b) 48 48].toArray w (λr w'=>r=.returned (.tuple #[bd (FRs bs 48),.bool true])/\Grow w w'):=by
 have h:=tD (spt b) 48 bs w hw (BytesAt.range ho.range);rw[h48,if_neg aC]at h;exact h
theorem xX(a:L6)(ha:a.length=6):PUR 168 [bd (a)] (bd (RP a EX2 384)):=by
 intro w hw;refine Hf func168 O hw<|λhGF=>am (E:=EE [176,2000176])<|Bx 1 hGF O<|λb1=>Al 2 hGF zv126<|λb2=>aa<|Xd [176,2000176]<|Lw 1 O O eo ha<|?_;refine fk O O ent176 O O (λw' hw'=>(uZ w' (hGF.g _ _ _ hw')).mono λe w'' h=> ?_);obtain ⟨bm,rfl,hg,hb,hob⟩:=h;refine ⟨_,_,rfl,aT hGF,hw'.news aL hg [(4,bm,EX2.map U8,32)] ?_ dd,ej aL O, ?_⟩
 ·intro n' b' c' t' hl
  rcases bv hl with ⟨_,e⟩|⟨_,hl⟩
  ·cases e;exact ⟨hb,hob⟩
  ·cases hl
 clear hw' hg hb hob;refine Cc O ent204 (λw' hw' hG=>HR a ha bm _ EX2 Ce w' hG (hw'.own 4 _ _ _ O).1)<|Sw 2 hGF O O O eo (f9 _ _ _)<|aa<|ao<|Rr<|?_;exact aF 2 O O O isAgg126 sizeOf126 (by rw[List.length_map,f9]) (λw hw=>⟨rfl,ae hw⟩)
theorem nk(a:L6)(ha:a.length=6):PUR 140 [bd (a)] (.bool (decide ((SS (FRs EX1 48) (RM a N1) 6).2=1))):=by
 intro w hw;refine Hf func140 O hw<|λhGF=>am (E:=EE [176,2000176])<|Bx 1 hGF O<|λb1=>Asg O<|aa<|am (E:=EE [176,2000176])<|?_;refine fk O O ent176 O O (λw' hw'=>(uJ w' (hGF.g _ _ _ hw')).mono λe w'' h=> ?_);obtain ⟨bm,rfl,hg,hb,hob⟩:=h;refine ⟨_,_,rfl,aT hGF,hw'.news aL hg [(6,bm,EX1.map U8,32)] ?_ dd,ej aL O, ?_⟩
 ·intro n' b' c' t' hl
  rcases bv hl with ⟨_,e⟩|⟨_,hl⟩
  ·cases e;exact ⟨hb,hob⟩
  ·cases hl
 clear hw' hg hb hob;refine Cc O ent175 (λw' hw' hG=>BZ bm _ EX1 CG w' hG (hw'.own 6 _ _ _ O).1)<|Mv O<|Exq O O<|Exq O O<|Al 3 hGF zv120<|λb3=>Sw 3 hGF O O O bY (cy _ _)<|Asg O<|aa<|Xd [176,2000176]<|Lw 3 O O bY (cy _ _)<|Lw 1 O O eo ha<|Ca O (jA a ha)<|Ca O (uW _ _ (cy _ _) (cx _ _))<|Asg O<|aa<|ao<|Rr<|?_;exact au O O (λw hw=>⟨rfl,ae hw⟩)
end
section
open Go.RowKit
theorem ent135:aJ prog 135:=λ_ _=>kr
theorem ent137:aJ prog 137:=λ_ _=>kr
theorem ent106:aJ prog 106:=λ_ _=>kr
theorem ent102:aJ prog 102:=λ_ _=>kr
theorem ent71:aJ prog 71:=λ_ _=>kr
abbrev LW:=L6
theorem pcA{a:LW}{n:Nat}: ∀j v,((a.take n).map U64)[j]? =some v->(a.map U64)[0+j]? =some v:=λj v hv=>by
 rw[Nat.zero_add];rw[List.getElem?_map,List.getElem?_take]at hv;split at hv
 ·rwa [List.getElem?_map]
 ·cases hv
theorem pcB{a:LW}{o:Nat}: ∀j v,((a.drop o).map U64)[j]? =some v->(a.map U64)[o+j]? =some v:=λj v hv=>by
 rw[List.getElem?_map,List.getElem?_drop]at hv
 rwa [List.getElem?_map]
theorem pcM{a:LW}{o n:Nat}: ∀j v,(((a.drop o).take n).map U64)[j]? =some v->(a.map U64)[o+j]? =some v:=λj v hv=>pcB j v (by have:=pcA j v hv;rwa [Nat.zero_add]at this)
theorem de(w:World):(zeroValue 128).run prog w=.ok (bd (((List.replicate 6 (0#64))++(List.replicate 6 (0#64))))) w:=(zeroValue128 w).trans aE
theorem i8:Two prog 128 ⟨ "A",126,0,false, "", "",0⟩ ⟨ "B",126,6,false, "", "",48⟩ 6 6 (List.replicate 6 (0#64)) (List.replicate 6 (0#64)):=⟨underlying128,rfl,rfl,sizeOf126,sizeOf126,de,rfl,rfl⟩
theorem mF(w:World):(zeroValue 130).run prog w=.ok (bd (((List.replicate 12 (0#64))++((List.replicate 12 (0#64))++(List.replicate 12 (0#64)))))) w:=(zeroValue130 w).trans aE
theorem iu:Three prog 130 ⟨ "X",128,0,false, "", "",0⟩ ⟨ "Y",128,12,false, "", "",96⟩ ⟨ "Z",128,24,false, "", "",192⟩ 12 (List.replicate 12 (0#64)) (List.replicate 12 (0#64)) (List.replicate 12 (0#64)):=⟨underlying130,rfl,rfl,rfl,sizeOf128,sizeOf128,sizeOf128,mF,rfl,rfl,rfl⟩
attribute [local simp] cx iL jw mi f9
def EZ(a:LW):Bool:=decide (a.take 6=(List.replicate 6 (0#64))) && decide (a.drop 6=(List.replicate 6 (0#64)))
def EAD(a b:LW):LW:=gQ (a.take 6) (b.take 6)++gQ (a.drop 6) (b.drop 6)
def ESB(a b:LW):LW:=kX (a.take 6) (b.take 6)++kX (a.drop 6) (b.drop 6)
def ENG(a:LW):LW:=pL (a.take 6)++pL (a.drop 6)
def EMU(a b:LW):LW:=if a.drop 6=(List.replicate 6 (0#64))/\b.drop 6=(List.replicate 6 (0#64))then RM (a.take 6) (b.take 6)++(List.replicate 6 (0#64))else
 kX (RM (a.take 6) (b.take 6)) (RM (a.drop 6) (b.drop 6))++kX (kX (RM (gQ (a.take 6) (a.drop 6)) (gQ (b.take 6) (b.drop 6))) (RM (a.take 6) (b.take 6))) (RM (a.drop 6) (b.drop 6))
def ENM(a:LW):LW:=gQ (RM (a.take 6) (a.take 6)) (RM (a.drop 6) (a.drop 6))
def EIV(a:LW):LW:=RM (a.take 6) (RP (ENM a) EX2 384)++RM (pL (a.drop 6)) (RP (ENM a) EX2 384)
def RLG(a:LW):Bool:=decide ((SS (FRs EX1 48) (RM a N1) 6).2=1)
def ELG(a:LW):Bool:=if a.drop 6=(List.replicate 6 (0#64))then RLG (a.take 6)else RLG (a.drop 6)
def E1_:LW:=RM (1#64::List.replicate 5 0) TWO++(List.replicate 6 (0#64))
theorem fo(a b:LW):(EAD a b).length=12:=by simp[EAD]
theorem ew(a b:LW):(ESB a b).length=12:=by simp[ESB]
theorem nJ(a:LW)(h:a.length=12):(ENG a).length=12:=by simp[ENG,h]
theorem cI(a b:LW):(EMU a b).length=12:=by unfold EMU;split<;>simp
theorem nX(a:LW):(ENM a).length=6:=iL _ _
theorem nG(a:LW):(EIV a).length=12:=by simp[EIV]
theorem q7:E1_.length=12:=by simp[E1_]
attribute [local simp] fo ew nJ cI nX nG q7
theorem lg(a:LW)(ha:a.length=12):PUR 135 [bd (a)] (.bool (EZ a)):=by
 intro w hw;refine Hf func135 O hw<|λhGF=>Xp<|Bx 1 hGF O<|λb1=>Asg O<|aa<|Xp<|Fa 0 O underlying128 O sizeOf126<|ay (cs:=((a.take 6)).map U64) O isAgg126 sizeOf126 (by simp[ha]) (λw' hw' j v hv=>by have:=(av (n:=1) O w' hw') _ v (pcA j v hv);rwa [Nat.zero_add]at this) O O<|?_
 rcases Bool.eq_false_or_eq_true (decide (a.take 6=(List.replicate 6 (0#64))))with h1|h1
 ·refine Cbl true O ent139 (cT ((a.take 6)) (by simp[ha])) (h1)<|Mv O<|Fa 6 O underlying128 O sizeOf126<|ay (cs:=((a.drop 6)).map U64) O isAgg126 sizeOf126 (by simp[ha]) (λw' hw' j v hv=>by have:=(av (n:=1) O w' hw') _ v (pcB j v hv);rwa [Nat.zero_add]at this) O O<|?_
  rcases Bool.eq_false_or_eq_true (decide (a.drop 6=(List.replicate 6 (0#64))))with h2|h2
  ·refine Cbl true O ent139 (cT ((a.drop 6)) (by simp[ha])) (h2)<|Pk O O O<|Asg O<|aa<|ao<|Rr<|?_
   exact au O O (λw' hw'=>⟨by unfold EZ;rw[h1,h2];rfl,ae hw'⟩)
  ·refine Cbl false O ent139 (cT ((a.drop 6)) (by simp[ha])) (h2)<|Pk O O O<|Asg O<|aa<|ao<|Rr<|?_
   exact au O O (λw' hw'=>⟨by unfold EZ;rw[h1,h2];rfl,ae hw'⟩)
 ·refine Cbl false O ent139 (cT ((a.take 6)) (by simp[ha])) (h1)<|Mv O<|Sk<|Sk<|Sk<|Pk O O O<|Asg O<|aa<|ao<|Rr<|?_
  exact au O O (λw' hw'=>⟨by unfold EZ;rw[h1];rfl,ae hw'⟩)
theorem jZ(a b:LW)(ha:a.length=12)(hb:b.length=12):PUR 143 [bd (a),bd (b)] (bd (EAD a b)):=by
 intro w hw;refine Hf func143 O hw<|λhGF=>Xp<|Bx 2 hGF O<|λb2=>Bx 3 hGF O<|λb3=>Al 4 hGF de<|λb4=>aa<|Xd []<|Fa 0 O underlying128 O sizeOf126<|ay (cs:=((a.take 6)).map U64) O isAgg126 sizeOf126 (by simp[ha]) (λw' hw' j v hv=>by have:=(av (n:=2) O w' hw') _ v (pcA j v hv);rwa [Nat.zero_add]at this) O O<|Fa 0 O underlying128 O sizeOf126<|ay (cs:=((b.take 6)).map U64) O isAgg126 sizeOf126 (by simp[hb]) (λw' hw' j v hv=>by have:=(av (n:=3) O w' hw') _ v (pcA j v hv);rwa [Nat.zero_add]at this) O O<|Ca O (fw ((a.take 6)) ((b.take 6)) (by simp[ha]) (by simp[hb]))<|Fa 6 O underlying128 O sizeOf126<|ay (cs:=((a.drop 6)).map U64) O isAgg126 sizeOf126 (by simp[ha]) (λw' hw' j v hv=>by have:=(av (n:=2) O w' hw') _ v (pcB j v hv);rwa [Nat.zero_add]at this) O O<|Fa 6 O underlying128 O sizeOf126<|ay (cs:=((b.drop 6)).map U64) O isAgg126 sizeOf126 (by simp[hb]) (λw' hw' j v hv=>by have:=(av (n:=3) O w' hw') _ v (pcB j v hv);rwa [Nat.zero_add]at this) O O<|Ca O (fw ((a.drop 6)) ((b.drop 6)) (by simp[ha]) (by simp[hb]))<|m4 i8 O O (by simp[]) (by simp[]) O O<|ai 4 hGF O O O sizeOf128 (by simp[]) aB (aZ _) O<|aa<|ao<|Rr<|?_
 exact aF 4 O O O isAgg128 sizeOf128 (by simp[]) (λw' hw'=>⟨rfl,ae hw'⟩)
theorem iI(a b:LW)(ha:a.length=12)(hb:b.length=12):PUR 144 [bd (a),bd (b)] (bd (ESB a b)):=by
 intro w hw;refine Hf func144 O hw<|λhGF=>Xp<|Bx 2 hGF O<|λb2=>Bx 3 hGF O<|λb3=>Al 4 hGF de<|λb4=>aa<|Xd []<|Fa 0 O underlying128 O sizeOf126<|ay (cs:=((a.take 6)).map U64) O isAgg126 sizeOf126 (by simp[ha]) (λw' hw' j v hv=>by have:=(av (n:=2) O w' hw') _ v (pcA j v hv);rwa [Nat.zero_add]at this) O O<|Fa 0 O underlying128 O sizeOf126<|ay (cs:=((b.take 6)).map U64) O isAgg126 sizeOf126 (by simp[hb]) (λw' hw' j v hv=>by have:=(av (n:=3) O w' hw') _ v (pcA j v hv);rwa [Nat.zero_add]at this) O O<|Ca O (eN ((a.take 6)) ((b.take 6)) (by simp[ha]) (by simp[hb]))<|Fa 6 O underlying128 O sizeOf126<|ay (cs:=((a.drop 6)).map U64) O isAgg126 sizeOf126 (by simp[ha]) (λw' hw' j v hv=>by have:=(av (n:=2) O w' hw') _ v (pcB j v hv);rwa [Nat.zero_add]at this) O O<|Fa 6 O underlying128 O sizeOf126<|ay (cs:=((b.drop 6)).map U64) O isAgg126 sizeOf126 (by simp[hb]) (λw' hw' j v hv=>by have:=(av (n:=3) O w' hw') _ v (pcB j v hv);rwa [Nat.zero_add]at this) O O<|Ca O (eN ((a.drop 6)) ((b.drop 6)) (by simp[ha]) (by simp[hb]))<|m4 i8 O O (by simp[]) (by simp[]) O O<|ai 4 hGF O O O sizeOf128 (by simp[]) aB (aZ _) O<|aa<|ao<|Rr<|?_
 exact aF 4 O O O isAgg128 sizeOf128 (by simp[]) (λw' hw'=>⟨rfl,ae hw'⟩)
theorem dn(a b:LW)(ha:a.length=12)(hb:b.length=12):PUR 137 [bd (a),bd (b)] (bd (EMU a b)):=by
 intro w hw;refine Hf func137 O hw<|λhGF=>Xp<|Bx 2 hGF O<|λb2=>Bx 3 hGF O<|λb3=>Al 4 hGF de<|λb4=>aa<|Xp<|Fa 0 O underlying128 O sizeOf126<|ay (cs:=((a.take 6)).map U64) O isAgg126 sizeOf126 (by simp[ha]) (λw' hw' j v hv=>by have:=(av (n:=2) O w' hw') _ v (pcA j v hv);rwa [Nat.zero_add]at this) O O<|Fa 0 O underlying128 O sizeOf126<|ay (cs:=((b.take 6)).map U64) O isAgg126 sizeOf126 (by simp[hb]) (λw' hw' j v hv=>by have:=(av (n:=3) O w' hw') _ v (pcA j v hv);rwa [Nat.zero_add]at this) O O<|Ca O (d9 ((a.take 6)) ((b.take 6)) (by simp[ha]) (by simp[hb]))<|Al 5 hGF zv126<|λb5=>ai 5 hGF O O O sizeOf126 (by simp[]) aB (aZ _) O<|aa<|ah<|Xp<|Fa 6 O underlying128 O sizeOf126<|ay (cs:=((a.drop 6)).map U64) O isAgg126 sizeOf126 (by simp[ha]) (λw' hw' j v hv=>by have:=(av (n:=2) O w' hw') _ v (pcB j v hv);rwa [Nat.zero_add]at this) O O<|?_
 rcases Bool.eq_false_or_eq_true (decide (a.drop 6=(List.replicate 6 (0#64))))with h1|h1
 ·refine Cbl true O ent139 (cT ((a.drop 6)) (by simp[ha])) (h1)<|Mv O<|Fa 6 O underlying128 O sizeOf126<|ay (cs:=((b.drop 6)).map U64) O isAgg126 sizeOf126 (by simp[hb]) (λw' hw' j v hv=>by have:=(av (n:=3) O w' hw') _ v (pcB j v hv);rwa [Nat.zero_add]at this) O O<|?_
  rcases Bool.eq_false_or_eq_true (decide (b.drop 6=(List.replicate 6 (0#64))))with h2|h2
  ·refine Cbl true O ent139 (cT ((b.drop 6)) (by simp[hb])) (h2)<|Pk O O O<|aa<|aP O<|Xp<|aq 5 O O isAgg126 sizeOf126 (by simp[]) O O<|vl i8 O (by simp[]) O O<|ai 4 hGF O O O sizeOf128 (by simp[]) aB (aZ _) O<|aa<|ao<|Rr<|?_
   exact aF 4 O O O isAgg128 sizeOf128 (by simp[]) (λw' hw'=>⟨by unfold EMU;rw[if_pos ⟨of_decide_eq_true h1,of_decide_eq_true h2⟩],ae hw'⟩)
  ·refine Cbl false O ent139 (cT ((b.drop 6)) (by simp[hb])) (h2)<|Pk O O O<|aa<|aH O<|aw<|Xp<|Fa 6 O underlying128 O sizeOf126<|ay (cs:=((a.drop 6)).map U64) O isAgg126 sizeOf126 (by simp[ha]) (λw' hw' j v hv=>by have:=(av (n:=2) O w' hw') _ v (pcB j v hv);rwa [Nat.zero_add]at this) O O<|Fa 6 O underlying128 O sizeOf126<|ay (cs:=((b.drop 6)).map U64) O isAgg126 sizeOf126 (by simp[hb]) (λw' hw' j v hv=>by have:=(av (n:=3) O w' hw') _ v (pcB j v hv);rwa [Nat.zero_add]at this) O O<|Ca O (d9 ((a.drop 6)) ((b.drop 6)) (by simp[ha]) (by simp[hb]))<|Al 6 hGF zv126<|λb6=>ai 6 hGF O O O sizeOf126 (by simp[]) aB (aZ _) O<|aa<|Xd []<|aq 5 O O isAgg126 sizeOf126 (by simp[]) O O<|aq 6 O O isAgg126 sizeOf126 (by simp[]) O O<|Ca O (eN ((RM (a.take 6) (b.take 6))) ((RM (a.drop 6) (b.drop 6))) (by simp[]) (by simp[]))<|Fa 0 O underlying128 O sizeOf126<|ay (cs:=((a.take 6)).map U64) O isAgg126 sizeOf126 (by simp[ha]) (λw' hw' j v hv=>by have:=(av (n:=2) O w' hw') _ v (pcA j v hv);rwa [Nat.zero_add]at this) O O<|Fa 6 O underlying128 O sizeOf126<|ay (cs:=((a.drop 6)).map U64) O isAgg126 sizeOf126 (by simp[ha]) (λw' hw' j v hv=>by have:=(av (n:=2) O w' hw') _ v (pcB j v hv);rwa [Nat.zero_add]at this) O O<|Ca O (fw ((a.take 6)) ((a.drop 6)) (by simp[ha]) (by simp[ha]))<|Fa 0 O underlying128 O sizeOf126<|ay (cs:=((b.take 6)).map U64) O isAgg126 sizeOf126 (by simp[hb]) (λw' hw' j v hv=>by have:=(av (n:=3) O w' hw') _ v (pcA j v hv);rwa [Nat.zero_add]at this) O O<|Fa 6 O underlying128 O sizeOf126<|ay (cs:=((b.drop 6)).map U64) O isAgg126 sizeOf126 (by simp[hb]) (λw' hw' j v hv=>by have:=(av (n:=3) O w' hw') _ v (pcB j v hv);rwa [Nat.zero_add]at this) O O<|Ca O (fw ((b.take 6)) ((b.drop 6)) (by simp[hb]) (by simp[hb]))<|Ca O (d9 ((gQ (a.take 6) (a.drop 6))) ((gQ (b.take 6) (b.drop 6))) (by simp[]) (by simp[]))<|aq 5 O O isAgg126 sizeOf126 (by simp[]) O O<|Ca O (eN ((RM (gQ (a.take 6) (a.drop 6)) (gQ (b.take 6) (b.drop 6)))) ((RM (a.take 6) (b.take 6))) (by simp[]) (by simp[]))<|aq 6 O O isAgg126 sizeOf126 (by simp[]) O O<|jQ O O ent171 (eN ((kX (RM (gQ (a.take 6) (a.drop 6)) (gQ (b.take 6) (b.drop 6))) (RM (a.take 6) (b.take 6)))) ((RM (a.drop 6) (b.drop 6))) (by simp[]) (by simp[])) O O<|m4 i8 O O (by simp[]) (by simp[]) O O<|ai 4 hGF O O O sizeOf128 (by simp[]) aB (aZ _) O<|aa<|ao<|Rr<|?_
   exact aF 4 O O O isAgg128 sizeOf128 (by simp[]) (λw' hw'=>⟨by unfold EMU;rw[if_neg (λh=>of_decide_eq_false h2 h.2)],ae hw'⟩)
 ·refine Cbl false O ent139 (cT ((a.drop 6)) (by simp[ha])) (h1)<|Mv O<|Sk<|Sk<|Sk<|Pk O O O<|aa<|aH O<|aw<|Xp<|Fa 6 O underlying128 O sizeOf126<|ay (cs:=((a.drop 6)).map U64) O isAgg126 sizeOf126 (by simp[ha]) (λw' hw' j v hv=>by have:=(av (n:=2) O w' hw') _ v (pcB j v hv);rwa [Nat.zero_add]at this) O O<|Fa 6 O underlying128 O sizeOf126<|ay (cs:=((b.drop 6)).map U64) O isAgg126 sizeOf126 (by simp[hb]) (λw' hw' j v hv=>by have:=(av (n:=3) O w' hw') _ v (pcB j v hv);rwa [Nat.zero_add]at this) O O<|Ca O (d9 ((a.drop 6)) ((b.drop 6)) (by simp[ha]) (by simp[hb]))<|Al 6 hGF zv126<|λb6=>ai 6 hGF O O O sizeOf126 (by simp[]) aB (aZ _) O<|aa<|Xd []<|aq 5 O O isAgg126 sizeOf126 (by simp[]) O O<|aq 6 O O isAgg126 sizeOf126 (by simp[]) O O<|Ca O (eN ((RM (a.take 6) (b.take 6))) ((RM (a.drop 6) (b.drop 6))) (by simp[]) (by simp[]))<|Fa 0 O underlying128 O sizeOf126<|ay (cs:=((a.take 6)).map U64) O isAgg126 sizeOf126 (by simp[ha]) (λw' hw' j v hv=>by have:=(av (n:=2) O w' hw') _ v (pcA j v hv);rwa [Nat.zero_add]at this) O O<|Fa 6 O underlying128 O sizeOf126<|ay (cs:=((a.drop 6)).map U64) O isAgg126 sizeOf126 (by simp[ha]) (λw' hw' j v hv=>by have:=(av (n:=2) O w' hw') _ v (pcB j v hv);rwa [Nat.zero_add]at this) O O<|Ca O (fw ((a.take 6)) ((a.drop 6)) (by simp[ha]) (by simp[ha]))<|Fa 0 O underlying128 O sizeOf126<|ay (cs:=((b.take 6)).map U64) O isAgg126 sizeOf126 (by simp[hb]) (λw' hw' j v hv=>by have:=(av (n:=3) O w' hw') _ v (pcA j v hv);rwa [Nat.zero_add]at this) O O<|Fa 6 O underlying128 O sizeOf126<|ay (cs:=((b.drop 6)).map U64) O isAgg126 sizeOf126 (by simp[hb]) (λw' hw' j v hv=>by have:=(av (n:=3) O w' hw') _ v (pcB j v hv);rwa [Nat.zero_add]at this) O O<|Ca O (fw ((b.take 6)) ((b.drop 6)) (by simp[hb]) (by simp[hb]))<|Ca O (d9 ((gQ (a.take 6) (a.drop 6))) ((gQ (b.take 6) (b.drop 6))) (by simp[]) (by simp[]))<|aq 5 O O isAgg126 sizeOf126 (by simp[]) O O<|Ca O (eN ((RM (gQ (a.take 6) (a.drop 6)) (gQ (b.take 6) (b.drop 6)))) ((RM (a.take 6) (b.take 6))) (by simp[]) (by simp[]))<|aq 6 O O isAgg126 sizeOf126 (by simp[]) O O<|jQ O O ent171 (eN ((kX (RM (gQ (a.take 6) (a.drop 6)) (gQ (b.take 6) (b.drop 6))) (RM (a.take 6) (b.take 6)))) ((RM (a.drop 6) (b.drop 6))) (by simp[]) (by simp[])) O O<|m4 i8 O O (by simp[]) (by simp[]) O O<|ai 4 hGF O O O sizeOf128 (by simp[]) aB (aZ _) O<|aa<|?_
  refine ao<|Rr<|?_;exact aF 4 O O O isAgg128 sizeOf128 (by simp[]) (λw' hw'=>⟨by unfold EMU;rw[if_neg (λh=>of_decide_eq_false h1 h.1)],ae hw'⟩)
theorem Dk(a:LW)(ha:a.length=12):PUR 167 [bd (a)] (bd (ENM a)):=by
 intro w hw;refine Hf func167 O hw<|λhGF=>Xp<|Bx 1 hGF O<|λb1=>Al 2 hGF zv126<|λb2=>aa<|Xd []<|Fa 0 O underlying128 O sizeOf126<|ay (cs:=((a.take 6)).map U64) O isAgg126 sizeOf126 (by simp[ha]) (λw' hw' j v hv=>by have:=(av (n:=1) O w' hw') _ v (pcA j v hv);rwa [Nat.zero_add]at this) O O<|Fa 0 O underlying128 O sizeOf126<|ay (cs:=((a.take 6)).map U64) O isAgg126 sizeOf126 (by simp[ha]) (λw' hw' j v hv=>by have:=(av (n:=1) O w' hw') _ v (pcA j v hv);rwa [Nat.zero_add]at this) O O<|Ca O (d9 ((a.take 6)) ((a.take 6)) (by simp[ha]) (by simp[ha]))<|Fa 6 O underlying128 O sizeOf126<|ay (cs:=((a.drop 6)).map U64) O isAgg126 sizeOf126 (by simp[ha]) (λw' hw' j v hv=>by have:=(av (n:=1) O w' hw') _ v (pcB j v hv);rwa [Nat.zero_add]at this) O O<|Fa 6 O underlying128 O sizeOf126<|ay (cs:=((a.drop 6)).map U64) O isAgg126 sizeOf126 (by simp[ha]) (λw' hw' j v hv=>by have:=(av (n:=1) O w' hw') _ v (pcB j v hv);rwa [Nat.zero_add]at this) O O<|Ca O (d9 ((a.drop 6)) ((a.drop 6)) (by simp[ha]) (by simp[ha]))<|Ca O (fw ((RM (a.take 6) (a.take 6))) ((RM (a.drop 6) (a.drop 6))) (by simp[]) (by simp[]))<|ai 2 hGF O O O sizeOf126 (by simp[]) aB (aZ _) O<|aa<|ao<|Rr<|?_
 exact aF 2 O O O isAgg126 sizeOf126 (by simp[]) (λw' hw'=>⟨rfl,ae hw'⟩)
theorem H6(a:LW)(ha:a.length=12):PUR 136 [bd (a)] (bd (EIV a)):=by
 intro w hw;refine Hf func136 O hw<|λhGF=>Xp<|Bx 1 hGF O<|λb1=>Al 2 hGF de<|λb2=>aa<|Xp<|aq 1 O O isAgg128 sizeOf128 (by simp[ha]) O O<|Ca O (Dk (a) (by simp[ha]))<|Ca O (xX ((ENM a)) aB)<|Al 3 hGF zv126<|λb3=>Sa 3 hGF O O O eo<|aa<|Xd []<|Fa 0 O underlying128 O sizeOf126<|ay (cs:=((a.take 6)).map U64) O isAgg126 sizeOf126 (by simp[ha]) (λw' hw' j v hv=>by have:=(av (n:=1) O w' hw') _ v (pcA j v hv);rwa [Nat.zero_add]at this) O O<|La 3 O O eo<|Ca O (d9 ((a.take 6)) ((RP (ENM a) EX2 384)) (by simp[ha]) aB)<|Fa 6 O underlying128 O sizeOf126<|ay (cs:=((a.drop 6)).map U64) O isAgg126 sizeOf126 (by simp[ha]) (λw' hw' j v hv=>by have:=(av (n:=1) O w' hw') _ v (pcB j v hv);rwa [Nat.zero_add]at this) O O<|Ca O (ye ((a.drop 6)) (by simp[ha]))<|La 3 O O eo<|Ca O (d9 ((pL (a.drop 6))) ((RP (ENM a) EX2 384)) (by simp[ha]) aB)<|m4 i8 O O (by simp[]) (by simp[]) O O<|ai 2 hGF O O O sizeOf128 (by simp[]) aB (aZ _) O<|aa<|ao<|Rr<|?_
 exact aF 2 O O O isAgg128 sizeOf128 (by simp[]) (λw' hw'=>⟨rfl,ae hw'⟩)
theorem sC(a:LW)(ha:a.length=12):PUR 106 [bd (a)] (.bool (ELG a)):=by
 intro w hw;refine Hf func106 O hw<|λhGF=>Xp<|Bx 1 hGF O<|λb1=>Asg O<|aa<|ah<|Xp<|Fa 6 O underlying128 O sizeOf126<|ay (cs:=((a.drop 6)).map U64) O isAgg126 sizeOf126 (by simp[ha]) (λw' hw' j v hv=>by have:=(av (n:=1) O w' hw') _ v (pcB j v hv);rwa [Nat.zero_add]at this) O O<|?_
 rcases Bool.eq_false_or_eq_true (decide (a.drop 6=(List.replicate 6 (0#64))))with h1|h1
 ·refine Cbl true O ent139 (cT ((a.drop 6)) (by simp[ha])) (h1)<|aa<|aP O<|Xp<|Fa 0 O underlying128 O sizeOf126<|ay (cs:=((a.take 6)).map U64) O isAgg126 sizeOf126 (by simp[ha]) (λw' hw' j v hv=>by have:=(av (n:=1) O w' hw') _ v (pcA j v hv);rwa [Nat.zero_add]at this) O O<|Ca O (nk ((a.take 6)) (by simp[ha]))<|Asg O<|aa<|ao<|Rr<|?_
  exact au O O (λw' hw'=>⟨by unfold ELG;rw[if_pos (of_decide_eq_true h1)];rfl,ae hw'⟩)
 ·refine Cbl false O ent139 (cT ((a.drop 6)) (by simp[ha])) (h1)<|aa<|aH O<|aw<|Xp<|Fa 6 O underlying128 O sizeOf126<|ay (cs:=((a.drop 6)).map U64) O isAgg126 sizeOf126 (by simp[ha]) (λw' hw' j v hv=>by have:=(av (n:=1) O w' hw') _ v (pcB j v hv);rwa [Nat.zero_add]at this) O O<|Ca O (nk ((a.drop 6)) (by simp[ha]))<|Asg O<|aa<|ao<|Rr<|?_
  exact au O O (λw' hw'=>⟨by unfold ELG;rw[if_neg (of_decide_eq_false h1)];rfl,ae hw'⟩)
theorem BS  :PUR 108 [] (bd (E1_)):=by
 intro w hw;refine Hf func108 O hw<|λhGF=>Xp<|Al 0 hGF de<|λb0=>aa<|Xp<|Ca O (tf (1#64))<|vl i8 O aB O O<|Sa 0 hGF O O O Ew<|aa<|ao<|Rr<|?_;exact aF 0 O O O isAgg128 sizeOf128 aB (λw' hw'=>⟨rfl,ae hw'⟩)
theorem GT(a b:LW)(ha:a.length=6)(hb:b.length=6):PUR 141 [bd (a),bd (b)] (bd (RM a TWO++RM b TWO)):=by
 intro w hw;refine Hf func141 O hw<|λhGF=>Xp<|Bx 2 hGF O<|λb2=>Bx 3 hGF O<|λb3=>Al 4 hGF de<|λb4=>aa<|Xd []<|aq 2 O O isAgg120 sizeOf120 (by simp[ha]) O O<|Ca O (oF (a) (by simp[ha]))<|aq 3 O O isAgg120 sizeOf120 (by simp[hb]) O O<|Ca O (oF (b) (by simp[hb]))<|m4 i8 O O aB aB O O<|ai 4 hGF O O O sizeOf128 (by simp[]) aB (aZ _) O<|aa<|ao<|Rr<|?_
 exact aF 4 O O O isAgg128 sizeOf128 (by simp[]) (λw' hw'=>⟨rfl,ae hw'⟩)
end
end Go.Proofs.YtfakhlafilbjkaaGreatDoor
