/- L1 -/
import Derived.Test.YtfakhlafilbjkaaGreatDoorL0
set_option maxRecDepth 100000
set_option maxHeartbeats 1000000
namespace Go.Proofs.YtfakhlafilbjkaaGreatDoor
open Go.Proofs.Tryz
section
open Go.RowKit
open Sh
abbrev By:=L8
structure Hd where
 (s p:BitVec 64) (a b c:By)
structure Hd.Ok(h:Hd):Prop where
 a:h.a.length=32
 b:h.b.length=32
 c:h.c.length=32
def Hd.cs(h:Hd):List Value:=U64 h.s::U64 h.p::(h.a.map U8++(h.b.map U8++h.c.map U8))
def Hd.by(h:Hd):By:=le8 h.s 8++(le8 h.p 8++(h.a++(h.b++h.c)))
theorem Hd.len{h:Hd}(k:h.Ok):h.cs.length=98:=by simp[Hd.cs,k.a,k.b,k.c]
theorem eI{pre mid post:List Value}{o:Nat}(ho:pre.length=o): ∀j v,mid[j]? =some v->(pre++(mid++post))[o+j]? =some v:=λj v hv=>by
 have hj:=(List.getElem?_eq_some_iff.1 hv).1;rw[List.getElem?_append_right om,show o+j-pre.length=j from by omega,List.getElem?_append_left hj]
 exact hv
theorem eZ{pre mid:List Value}{o:Nat}(ho:pre.length=o): ∀j v,mid[j]? =some v->(pre++mid)[o+j]? =some v:=λj v hv=>by
 rw[List.getElem?_append_right om,show o+j-pre.length=j from by omega]
 exact hv
theorem bu{cs ds es:List Value}{o p:Nat}(h1: ∀j v,ds[j]? =some v->cs[o+j]? =some v)(h2: ∀j v,es[j]? =some v->ds[p+j]? =some v): ∀j v,es[j]? =some v->cs[(o+p)+j]? =some v:=λj v hv=>by
 have:=h1 _ v (h2 j v hv);rw[<-Nat.add_assoc]at this;exact this
theorem Hd.at_a{h:Hd}: ∀j v,(h.a.map U8)[j]? =some v->h.cs[2+j]? =some v:=eI (pre:=[U64 h.s,U64 h.p]) O
theorem Hd.at_b{h:Hd}(k:h.Ok): ∀j v,(h.b.map U8)[j]? =some v->h.cs[34+j]? =some v:=bu (o:=2) (p:=32) (eZ (pre:=[U64 h.s,U64 h.p]) O) (eI (by rw[List.length_map,k.a]))
theorem Hd.at_c{h:Hd}(k:h.Ok): ∀j v,(h.c.map U8)[j]? =some v->h.cs[66+j]? =some v:=bu (o:=2) (p:=64) (eZ (pre:=[U64 h.s,U64 h.p]) O) (bu (o:=32) (p:=32) (eZ (by rw[List.length_map,k.a])) (eZ (by rw[List.length_map,k.b])))
def RwsAt(s:Nat)(w:World)(a:Option Addr)(l:List By):Prop:= ∀i r,l[i]? =some r->∃ad,a=some ad/\∀j v,(r.map U8)[j]? =some v->w.cell? ((ad.add (i*s)).add j)=some v
theorem RwsAt.grow{s:Nat}{w w':World}{a:Option Addr}{l:List By}(h:RwsAt s w a l)(hg:Grow w w'):RwsAt s w' a l:=λi r hr=>by
 obtain ⟨ad,e,h1⟩:=h i r hr;exact ⟨ad,e,λj v hv=>(hg.cell (block_lt_of_cell (h1 j v hv))).trans (h1 j v hv)⟩
theorem RwsAt.mm{s:Nat}{M:Nat->Prop}{w w':World}{a:Option Addr}{l:List By}(h:RwsAt s w a l)(hm:MM M w w')(ha:l≠[]->∀k,Of a k->¬M k):RwsAt s w' a l:=λi r hr=>by
 obtain ⟨ad,e,h1⟩:=h i r hr;refine ⟨ad,e,λj v hv=> ?_⟩;have hc:=h1 j v hv;have hl:=block_lt_of_cell hc;have e2:((ad.add (i*s)).add j).block=ad.block:=(gM _ _).trans (gM _ _);rw[World.cell?_of_block (w:=w) (hm.keep _ hl (by rw[e2];exact ha (λh0=>by subst h0;simp at hr) _ ⟨ad,e,rfl⟩))]
 exact hc
theorem RwsAt.lt{s:Nat}{w:World}{a:Option Addr}{l:List By}(h:RwsAt s w a l)(hs:0<s)(hl: ∀r∈l,r.length=s)(h0:l≠[]): ∀k,Of a k->k<w.heap.size:=λk ⟨ad,e,hk⟩=>by
 obtain ⟨x,r,rfl⟩: ∃x r,l=x::r:=by
  cases l with
  |nil=>exact absurd O h0
  |cons x r=>exact ⟨x,r,rfl⟩
 obtain ⟨ad',e',h1⟩:=h 0 x O;have hx:=hl x (List.mem_cons_self ..);have:=block_lt_of_cell (h1 0 _ (by rw[List.getElem?_map,List.getElem?_eq_getElem om];rfl))
 rw[e]at e'
 cases e'
 rw[(gM _ _).trans (gM _ _)]at this;omega
structure Co where
 (ks:List By) (ka:Option Addr) (kc:Nat) (sum:By)
structure Co.Ok(c:Co):Prop where
 ks: ∀r∈c.ks,r.length=48
 sum:c.sum.length=48
 n:c.ks.length<=c.kc
def Co.cs(c:Co):List Value:=.slice c.ka c.ks.length c.kc::c.sum.map U8
structure Ag where
 (bs:List Bool) (ba:Option Addr) (bc:Nat) (sig:By)
structure Ag.Ok(a:Ag):Prop where
 sig:a.sig.length=96
def Ag.cs(a:Ag):List Value:=.slice a.ba a.bs.length a.bc::a.sig.map U8
structure Up where
 (at_:Hd) (nx:Co) (br:By) (fi:Hd) (fy:By) (sy:Ag) (sl:BitVec 64)
structure Up.Ok(u:Up):Prop where
 at_:u.at_.Ok
 nx:u.nx.Ok
 br:u.br.length=160
 fi:u.fi.Ok
 fy:u.fy.length=192
 sy:u.sy.Ok
def Up.cs(u:Up):List Value:=u.at_.cs++(u.nx.cs++(u.br.map U8++(u.fi.cs++(u.fy.map U8++(u.sy.cs++[U64 u.sl])))))
structure Bo where
 (hd:Hd) (nw:Co) (br:By)
structure Bo.Ok(b:Bo):Prop where
 hd:b.hd.Ok
 nw:b.nw.Ok
 br:b.br.length=160
def Bo.cs(b:Bo):List Value:=b.hd.cs++(b.nw.cs++b.br.map U8)
theorem Co.len{c:Co}(k:c.Ok):c.cs.length=49:=by simp[Co.cs,k.sum]
theorem Ag.len{a:Ag}(k:a.Ok):a.cs.length=97:=by simp[Ag.cs,k.sig]
def Z48:By:=List.replicate 48 0#8
def KO(ks:List By)(n:Nat):By:=((List.range n).map λi=>ks.getD i Z48).flatten
def Co.by(c:Co)(n:Nat):By:=KO c.ks n++c.sum
def Ag.by(a:Ag):By:=pb a.bs a.bs.length++a.sig
def Up.by(u:Up):By:=u.at_.by++(u.nx.by u.sy.bs.length++(u.br++(u.fi.by++(u.fy++(u.sy.by++le8 u.sl 8)))))
def Up.fin(u:Up):By:=u.at_.by++(u.fi.by++(u.fy++(u.sy.by++le8 u.sl 8)))
def Bo.by(b:Bo):By:=b.hd.by++(b.nw.by b.nw.ks.length++b.br)
theorem Up.l1{u:Up}: ∀j v,u.at_.cs[j]? =some v->u.cs[0+j]? =some v:=eI (pre:=[]) O
theorem Up.l2{u:Up}(k:u.Ok): ∀j v,u.nx.cs[j]? =some v->u.cs[98+j]? =some v:=eI (Hd.len k.at_)
theorem Up.r2{u:Up}(k:u.Ok): ∀j v,(u.br.map U8++(u.fi.cs++(u.fy.map U8++(u.sy.cs++[U64 u.sl]))))[j]? =some v->u.cs[147+j]? =some v:=bu (o:=98) (p:=49) (eZ (Hd.len k.at_)) (eZ (Co.len k.nx))
theorem Up.l3{u:Up}(k:u.Ok): ∀j v,(u.br.map U8)[j]? =some v->u.cs[147+j]? =some v:=bu (o:=147) (p:=0) (Up.r2 k) (eI (pre:=[]) O)
theorem Up.r3{u:Up}(k:u.Ok): ∀j v,(u.fi.cs++(u.fy.map U8++(u.sy.cs++[U64 u.sl])))[j]? =some v->u.cs[307+j]? =some v:=bu (o:=147) (p:=160) (Up.r2 k) (eZ (by rw[List.length_map,k.br]))
theorem Up.l4{u:Up}(k:u.Ok): ∀j v,u.fi.cs[j]? =some v->u.cs[307+j]? =some v:=bu (o:=307) (p:=0) (Up.r3 k) (eI (pre:=[]) O)
theorem Up.r4{u:Up}(k:u.Ok): ∀j v,(u.fy.map U8++(u.sy.cs++[U64 u.sl]))[j]? =some v->u.cs[405+j]? =some v:=bu (o:=307) (p:=98) (Up.r3 k) (eZ (Hd.len k.fi))
theorem Up.l5{u:Up}(k:u.Ok): ∀j v,(u.fy.map U8)[j]? =some v->u.cs[405+j]? =some v:=bu (o:=405) (p:=0) (Up.r4 k) (eI (pre:=[]) O)
theorem Up.r5{u:Up}(k:u.Ok): ∀j v,(u.sy.cs++[U64 u.sl])[j]? =some v->u.cs[597+j]? =some v:=bu (o:=405) (p:=192) (Up.r4 k) (eZ (by rw[List.length_map,k.fy]))
theorem Up.l6{u:Up}(k:u.Ok): ∀j v,u.sy.cs[j]? =some v->u.cs[597+j]? =some v:=bu (o:=597) (p:=0) (Up.r5 k) (eI (pre:=[]) O)
theorem Up.l7{u:Up}(k:u.Ok): ∀j v,[U64 u.sl][j]? =some v->u.cs[694+j]? =some v:=bu (o:=597) (p:=97) (Up.r5 k) (eZ (Ag.len k.sy))
theorem Up.len{u:Up}(k:u.Ok):u.cs.length=695:=by simp[Up.cs,Hd.len k.at_,Co.len k.nx,k.br,Hd.len k.fi,k.fy,Ag.len k.sy]
theorem Bo.l1{b:Bo}: ∀j v,b.hd.cs[j]? =some v->b.cs[0+j]? =some v:=eI (pre:=[]) O
theorem Bo.l2{b:Bo}(k:b.Ok): ∀j v,b.nw.cs[j]? =some v->b.cs[98+j]? =some v:=eI (Hd.len k.hd)
theorem Bo.l3{b:Bo}(k:b.Ok): ∀j v,(b.br.map U8)[j]? =some v->b.cs[147+j]? =some v:=bu (o:=98) (p:=49) (eZ (Hd.len k.hd)) (eZ (Co.len k.nw))
theorem Bo.len{b:Bo}(k:b.Ok):b.cs.length=307:=by simp[Bo.cs,Hd.len k.hd,Co.len k.nw,k.br]
theorem Co.a_sum{c:Co}: ∀j v,(c.sum.map U8)[j]? =some v->c.cs[1+j]? =some v:=eZ (pre:=[.slice c.ka c.ks.length c.kc]) O
theorem Ag.a_sig{a:Ag}: ∀j v,(a.sig.map U8)[j]? =some v->a.cs[1+j]? =some v:=eZ (pre:=[.slice a.ba a.bs.length a.bc]) O
def nR(n:BitVec 64):Rt:=ei (le8 n 8)
theorem mY(n:BitVec 64):(nR n).length=32:=eU (by rw[ej];decide)
def Hd.fs(h:Hd):List Rt:=[nR h.s,nR h.p,h.a,h.b,h.c]
theorem cV{x:Rt}{l:List Rt}(hx:x.length=32)(h:AllR l):AllR (x::l):=λr hr=>by
 rcases List.mem_cons.1 hr with rfl|hr
 ·exact hx
 ·exact h r hr
theorem jY:AllR []:=λ_ h=>by simp at h
theorem Hd.fs_all{h:Hd}(k:h.Ok):AllR h.fs:=cV (mY _) (cV (mY _) (cV k.a (cV k.b (cV k.c jY))))
def Hd.rt(h:Hd):Rt:=Tor h.fs
theorem Hd.rt_len{h:Hd}(k:h.Ok):h.rt.length=32:=cF (Hd.fs_all k)
def krs(ks:List By)(n:Nat):List Rt:=(List.range n).map λi=>BR8 (ks.getD i Z48)
theorem fo(ks:List By)(n:Nat):AllR (krs ks n):=λr hr=>by
 obtain ⟨i,_,rfl⟩:=List.mem_map.1 hr;exact dF _
theorem ji(ks:List By)(n:Nat):(krs ks n).length=n:=by simp[krs]
def Co.rt(c:Co)(n:Nat):Rt:=Tor [Tor (krs c.ks n),BR8 c.sum]
theorem Co.fs_all(c:Co)(n:Nat):AllR [Tor (krs c.ks n),BR8 c.sum]:=cV (cF (fo _ _)) (cV (dF _) jY)
theorem Co.rt_len(c:Co)(n:Nat):(c.rt n).length=32:=cF (Co.fs_all c n)
def Ag.rt(a:Ag):Rt:=Tor [BR8 (pb a.bs a.bs.length),BR8 a.sig]
theorem Ag.fs_all(a:Ag):AllR [BR8 (pb a.bs a.bs.length),BR8 a.sig]:=cV (dF _) (cV (dF _) jY)
theorem Ag.rt_len(a:Ag):a.rt.length=32:=cF (Ag.fs_all a)
def cT(bs:By)(n:Nat):List Rt:=(List.range n).map λi=>(bs.drop (32*i)).take 32
theorem dO(bs:By)(n:Nat):(cT bs n).length=n:=by simp[cT]
theorem dh{bs:By}{n:Nat}(h:bs.length=32*n):AllR (cT bs n):=λr hr=>by
 obtain ⟨i,hi,rfl⟩:=List.mem_map.1 hr;have:=List.mem_range.1 hi;rw[List.length_take,List.length_drop];omega
def Up.fs(u:Up):List Rt:=[u.at_.rt,u.nx.rt u.sy.bs.length,Tor (cT u.br 5),u.fi.rt,Tor (cT u.fy 6),u.sy.rt,nR u.sl]
def Bo.fs(b:Bo):List Rt:=[b.hd.rt,b.nw.rt b.nw.ks.length,Tor (cT b.br 5)]
theorem Up.fs_all{u:Up}(k:u.Ok):AllR u.fs:=cV (Hd.rt_len k.at_) (cV (Co.rt_len _ _) (cV (cF (dh k.br)) (cV (Hd.rt_len k.fi) (cV (cF (dh k.fy)) (cV (Ag.rt_len _) (cV (mY _) jY))))))
theorem Bo.fs_all{b:Bo}(k:b.Ok):AllR b.fs:=cV (Hd.rt_len k.hd) (cV (Co.rt_len _ _) (cV (cF (dh k.br)) jY))
theorem oN{w:World}{a:Option Addr}{bs:By}{n:Nat}(hl:bs.length=32*n)(h:BytesAt w a bs):RtsAt w a (cT bs n):=λi r hr=>by
 have hi:i<n:=by have:=(List.getElem?_eq_some_iff.1 hr).1;rwa [dO]at this
 have hr2:r=(bs.drop (32*i)).take 32:=by
  rw[cT,List.getElem?_map,List.getElem?_range hi]at hr;exact (Option.some.inj hr).symm
 subst hr2;obtain ⟨ad,rfl,_⟩:=h 0 _ (by rw[List.getElem?_map,List.getElem?_eq_getElem om];rfl)
 refine ⟨ad,rfl,λj v hv=> ?_⟩;rw[List.map_take,List.map_drop,List.getElem?_take]at hv;split at hv
 ·rw[List.getElem?_drop]at hv
  obtain ⟨ad2,e2,h2⟩:=h _ v hv
  cases e2
  rw[tb,show i*32+j=32*i+j from by omega]
  exact h2
 ·cases hv
end
section
open Go.RowKit
open Sh
theorem kZ{l:List Rt}{i:Nat}(h:i<l.length):l.getD i []∈l:=by
 rw[List.getD_eq_getElem?_getD,List.getElem?_eq_getElem h];exact List.getElem_mem h
theorem nj(bm:Nat)(k:By)(hk:k.length=48)(w:World)(hw:Gt w)(ho:gZ w bm):CLS 121 [.agg [pnt bm].toArray,.agg (k.map U8).toArray].toArray w (λe w'=>e=.returned (.agg ((BR8 k).map U8).toArray)/\Grow w w'):=by
 refine Hf func121 O hw<|λhGF=>Xp<|Bx 2 hGF O<|λb2=>Bx 3 hGF O<|λb3=>Al 4 hGF zv28<|λb4=>aa<|Xd []<|aq 2 O O isAgg47 sizeOf47 O O O<|d9 (n:=48) O underlying33 sizeOf5 aC O O<|Cc O ent152 (λw' hw' hG=>by rw[<-hk];exact yi bm k (by rw[hk];decide) _ k.length (Nat.le_refl _) w' hG (ho.of_same ((ae hw').block _ ho.lt)) (BytesAt.range (av (n:=3) O w' hw')))<|ai 4 hGF O O O sizeOf28 (by rw[List.length_map];exact dF _) (by rw[List.length_map];exact cL) (bg _) O<|aa<|ao<|Rr<|?_
 exact aF 4 O O O isAgg28 sizeOf28 (by rw[List.length_map];exact dF _) (λw' hw'=>⟨rfl,ae hw'⟩)
theorem mZ(bm:Nat)(h:Hd)(hk:h.Ok)(w:World)(hw:Gt w)(ho:gZ w bm):CLS 34 [.agg [pnt bm].toArray,.agg h.cs.toArray].toArray w (λe w'=>e=.returned (.agg ((h.rt).map U8).toArray)/\Grow w w'):=by
 refine Hf func34 O hw<|λhGF=>am (E:=EE [2999998])<|Bx 2 hGF O<|λb2=>Bx 3 hGF O<|λb3=>Al 4 hGF zv28<|λb4=>aa<|Xd [2999998]<|aq 2 O O isAgg47 sizeOf47 O O O<|Fa 0 O underlying30 O sizeOf22<|aT (v:=U64 h.s) O isAgg22 (λw' hw'=>(av (n:=3) O w' hw') 0 _ O) O O<|Cc O ent75 (λw' hw' hG=>ni h.s w' hG)<|?_;rw[show ei (le8 h.s 8)=nR h.s from O];refine Fa 1 O underlying30 O sizeOf22<|aT (v:=U64 h.p) O isAgg22 (λw' hw'=>(av (n:=3) O w' hw') 1 _ O) O O<|Cc O ent75 (λw' hw' hG=>ni h.p w' hG)<|?_;rw[show ei (le8 h.p 8)=nR h.p from O];refine Fa 2 O underlying30 O sizeOf28<|az (cs:=h.a.map U8) O isAgg28 sizeOf28 (by rw[List.length_map];exact hk.a) (λw' hw' j v hv=>by have:=(av (n:=3) O w' hw') _ v (Hd.at_a j v hv);rwa [Nat.zero_add]at this) O O<|Fa 34 O underlying30 O sizeOf28<|az (cs:=h.b.map U8) O isAgg28 sizeOf28 (by rw[List.length_map];exact hk.b) (λw' hw' j v hv=>by have:=(av (n:=3) O w' hw') _ v (Hd.at_b hk j v hv);rwa [Nat.zero_add]at this) O O<|Fa 66 O underlying30 O sizeOf28<|az (cs:=h.c.map U8) O isAgg28 sizeOf28 (by rw[List.length_map];exact hk.c) (λw' hw' j v hv=>by have:=(av (n:=3) O w' hw') _ v (Hd.at_c hk j v hv);rwa [Nat.zero_add]at this) O O<|ku (uf:=U8) (s:=32) 18 (λi=>(h.fs).getD i []) (List.replicate 32 0#8) hGF O O O (λi hi=>(Hd.fs_all hk) _ (kZ hi)) aC aC underlying86 sizeOf27 O zv27 O O<|?_
 intro b18;rw[show RW 32 (λi=>(h.fs).getD i []) 5=(h.fs).flatten from iG (h.fs) (Hd.fs_all hk)];refine Cc O ent76 (λw' hw' hG=>qV bm (h.fs) (Hd.fs_all hk) (by show 5<=1000000;decide) _ 5 (Nat.le_refl 5) w' hG (ho.of_same ((ae hw').block _ ho.lt)) (gq (n:=18) (Hd.fs_all hk) O (List.take_of_length_le (by rw[List.length_map,cR _ (Hd.fs_all hk)];exact Nat.le_refl _)) w' hw'))<|ai 4 hGF O O O sizeOf28 (by rw[List.length_map];exact Hd.rt_len hk) (by rw[List.length_map];exact cL) (bg _) O<|aa<|ao<|Rr<|?_
 exact aF 4 O O O isAgg28 sizeOf28 (by rw[List.length_map];exact Hd.rt_len hk) (λw' hw'=>⟨rfl,ae hw'⟩)
end
section
open Go.RowKit
open Sh
theorem ent120:aL prog 120:=λ_ _=>kr
theorem ent84:aL prog 84:=λ_ _=>kr
theorem ent46:aL prog 46:=λ_ _=>kr
theorem zvK(w:World):(zeroValue 33).run prog w=.ok (.agg (Z48.map U8).toArray) w:=(zeroValue33 w).trans aE
structure KI(w0 w:World)(bm b3 b6:Nat)(a:Option Addr)(cap n:Nat)(f:Nat->By):Prop where
 ap:ApR w0 w a cap n f
 o3:OwnB w b3 [pnt bm] 47
 o6:OwnB w b6 (Z0.map U8) 27
 nb: ∀k,Of a k->¬k=b3/\¬k=b6
theorem KI.next{w0 w w1 w2:World}{bm b3 b6:Nat}{a a1:Option Addr}{cap cap1 n:Nat}{f:Nat->By}(h:KI w0 w bm b3 b6 a cap n f)(hf:(f n).length=32)(hg:Grow w w1)(g2:Gt w2)(hm:MM (Of a) w1 w2)(hs:SlW 27 32 w2 a1 cap1 (n+1) ((RW 32 f n).map U8++(f n).map U8))(ho: ∀k,Of a1 k->Of a k\/w1.heap.size<=k):KI w0 w2 bm b3 b6 a1 cap1 (n+1) f where
 ap:=h.ap.next hf hg g2 hm hs ho
 o3:=hm.own (h.o3.grow hg) (λhk=>(h.nb _ hk).1 O)
 o6:=hm.own (h.o6.grow hg) (λhk=>(h.nb _ hk).2 O)
 nb:=λk hk=>by
  rcases ho k hk with h1|h1
  ·exact h.nb k h1
  ·have h2:=(h.o3.grow hg).lt
   have h3:=(h.o6.grow hg).lt;exact ⟨om,om⟩
theorem tO(ks:List By)(n:Nat):RW 32 (λi=>BR8 (ks.getD i Z48)) n=(krs ks n).flatten:=by
 rw[<-iG _ (fo ks n),ji];refine A4 λi hi=> ?_;have e:(krs ks n)[i]? =some (BR8 (ks.getD i Z48)):=by rw[krs,List.getElem?_map,List.getElem?_range hi];rfl
 show BR8 (ks.getD i Z48)=((krs ks n)[i]?).getD [];rw[e];rfl
theorem HI{w:World}{e:TypeId}{s:Nat}{a:Option Addr}{cap n:Nat}{xs:List Value}(h:SlW e s w a cap n xs):n<=cap:=by
 rcases h with ⟨_,_,h,_⟩|⟨_,_,_,_,_,h,_⟩<;>omega
theorem ya(bm:Nat)(ks:List By)(h48: ∀r∈ks,r.length=48)(ka:Option Addr)(kc n:Nat)(hn:n<=1000)(w:World)(hw:Gt w)(ho:gZ w bm)(hks0:RwsAt 48 w ka ks):CLS 120 [.agg [pnt bm].toArray,.slice ka ks.length kc,I (n:Int)].toArray w (λe w'=>e=.returned (.agg ((Tor (krs ks n)).map U8).toArray)/\Grow w w'):=by
 refine Hf func120 O hw<|λhGF=>Xp<|Bx 3 hGF O<|λb3=>Al 6 hGF zv27<|λb6=>aa<|?_;refine eR gt_low (λw3 hC g3=> ?_);have hK:KI w w3 bm b3 b6 none 0 0 (λi=>BR8 (ks.getD i Z48)):=⟨⟨g3,ae hC,.inl ⟨rfl,rfl,rfl,rfl⟩,λ_ h=>by cases h⟩,(hC.own 3 _ _ _ O).1,(hC.own 6 _ _ _ O).1,λk ⟨ad,e,_⟩=>by cases e⟩
 have h6w:w.heap.size<=b6:=(hC.own 6 _ _ _ O).2.elim id False.elim;clear hC;have hGF:=gt_low.plain g3;refine Xp<|Asg O<|aa<|ah<|Xp<|Asg O<|aa<|au<|j8 gt_low (ι:={x:Nat×World×Option Addr×Nat // x.1<=n/\KI w x.2.1 bm b3 b6 x.2.2.1 x.2.2.2 x.1 (λi=>BR8 (ks.getD i Z48))}) (λx=>[(1,.slice ka ks.length kc),(2,I (n:Int)),(3,pnt b3),(6,pnt b6),(7,.slice x.1.2.2.1 x.1.1 x.1.2.2.2),(8,I (x.1.1:Int))]) (λx=>x.1.2.1) (λx=>n-x.1.1) ⟨(0,w3,none,0),Nat.zero_le _,hK⟩ (λx=>x.2.2.ap.g) O trv<|?_;clear hK hGF;rintro ⟨⟨k,wk,ak,cak⟩,hkn,hK⟩;dsimp only at hkn hK⊢;have hGF:=gt_low.plain hK.ap.g;have hks:=hks0.grow hK.ap.m;refine ah<|Xp<|Mv O<|Mv O<|?_;rcases Nat.lt_or_ge k n with hlt|hge
 ·refine Bnb true O O (λ_=>aI _ _ _) (by simp;omega)<|aa<|aQ O<|aw<|ah<|au<|Xp<|Al 9 hGF zvK<|λb9=>aa<|ah<|Xp<|Mv O<|Mv O<|bB O (λ_=>aO underlying31 _ _ _ _) O O<|?_
  rcases Nat.lt_or_ge k ks.length with hik|hik
  ·obtain ⟨y,hiy⟩: ∃y,ks[k]? =some y:=⟨_,List.getElem?_eq_getElem hik⟩
   have hy:y.length=48:=h48 y (List.mem_of_getElem? hiy);obtain ⟨ad,hka,hyc⟩:=hks k y hiy;have hgD:ks.getD k Z48=y:=by rw[List.getD_eq_getElem?_getD,hiy];rfl
   refine Bnb true O O (λ_=>aI _ _ _) (by simp;omega)<|aa<|aQ O<|Xq<|Mv O<|Mv O<|dJ (ad:=ad) k 48 (by rw[<-hka];rfl) O underlying31 sizeOf33 O hik O O<|aP (cs:=y.map U8) O isAgg33 sizeOf33 (by rw[List.length_map];exact hy) (λw' h j v hv=>((ae h).cell (block_lt_of_cell (hyc j v hv))).trans (hyc j v hv)) O O<|ai 9 hGF O O O sizeOf33 (by rw[List.length_map];exact hy) (by rw[List.length_map];rfl) (bg _) O<|aa<|Xq<|Mv O<|az (cs:=[pnt bm]) O isAgg47 sizeOf47 O (λw' h=>(hK.o3.grow (ae h)).range) O O<|aq 9 O O isAgg33 sizeOf33 (by rw[List.length_map];exact hy) O O<|Cc O ent121 (λw' hw' hG=>nj bm y hy w' hG (ho.of_same ((hK.ap.m.trans (ae hw')).block _ ho.lt)))<|ig 27 ((BR8 y).map U8) hGF O (by rw[List.length_map];exact dF y) aC aC underlying86 sizeOf27 zv27 O O<|?_
   intro b27;refine j2 (ys:=(BR8 y).map U8) gt_low (λw' h=>hGF.g _ _ _ h) O O underlying86 underlying86 tiR (by simp[Value.cells]) (λw' h=>hK.ap.s.grow (ae h)) (hK.ap.low hw) (by rw[List.length_map];exact dF y) (av (n:=27) O) (bg _) (λw' h hof=>absurd (hK.ap.s.lt _ hof) (Nat.not_lt.2 ((h.own 27 _ _ _ O).2.elim id False.elim))) om om O O (λw1 w2 a1 cap1 hC g2 hm hs ho=> ?_)
   have hK2:KI w w2 bm b3 b6 a1 cap1 (k+1) (λi=>BR8 (ks.getD i Z48)):=hK.next (dF _) (ae hC) g2 hm (by rw[hgD];exact hs) ho
   have hGF:BOk Gt (pl w2):=gt_low.plain g2;refine Asg O<|aa<|Xq<|Mv O<|Bnr (v:=I (((k+1:Nat):Int))) O O (λ_=>(ay _ _ _ aG).trans aE)<|Asg O<|aa<|?_
   repeat (refine bh ?_)
   exact aY<|⟨rfl,⟨(k+1,w2,a1,cap1),hlt,hK2⟩,by show n-(k+1)<n-k;omega,rfl,trv⟩
  ·have hy:Z48.length=48:=rfl
   have hgD:ks.getD k Z48=Z48:=by rw[List.getD_eq_getElem?_getD,List.getElem?_eq_none hik];rfl
   refine Bnb false O O (λ_=>aI _ _ _) (by rw[decide_eq_false_iff_not];omega)<|aa<|aH O<|aw<|Xq<|Mv O<|az (cs:=[pnt bm]) O isAgg47 sizeOf47 O (λw' h=>(hK.o3.grow (ae h)).range) O O<|aq 9 O O isAgg33 sizeOf33 (by rw[List.length_map];exact hy) O O<|Cc O ent121 (λw' hw' hG=>nj bm Z48 hy w' hG (ho.of_same ((hK.ap.m.trans (ae hw')).block _ ho.lt)))<|ig 27 ((BR8 Z48).map U8) hGF O (by rw[List.length_map];exact dF Z48) aC aC underlying86 sizeOf27 zv27 O O<|?_
   intro b27;refine j2 (ys:=(BR8 Z48).map U8) gt_low (λw' h=>hGF.g _ _ _ h) O O underlying86 underlying86 tiR (by simp[Value.cells]) (λw' h=>hK.ap.s.grow (ae h)) (hK.ap.low hw) (by rw[List.length_map];exact dF Z48) (av (n:=27) O) (bg _) (λw' h hof=>absurd (hK.ap.s.lt _ hof) (Nat.not_lt.2 ((h.own 27 _ _ _ O).2.elim id False.elim))) om om O O (λw1 w2 a1 cap1 hC g2 hm hs ho=> ?_)
   have hK2:KI w w2 bm b3 b6 a1 cap1 (k+1) (λi=>BR8 (ks.getD i Z48)):=hK.next (dF _) (ae hC) g2 hm (by rw[hgD];exact hs) ho
   have hGF:BOk Gt (pl w2):=gt_low.plain g2;refine Asg O<|aa<|Xq<|Mv O<|Bnr (v:=I (((k+1:Nat):Int))) O O (λ_=>(ay _ _ _ aG).trans aE)<|Asg O<|aa<|?_
   repeat (refine bh ?_)
   exact aY<|⟨rfl,⟨(k+1,w2,a1,cap1),hlt,hK2⟩,by show n-(k+1)<n-k;omega,rfl,trv⟩
 ·obtain rfl:n=k:=om
  have hSl:SlW 27 32 wk ak cak (krs ks n).length ((krs ks n).flatten.map U8):=by have h:=hK.ap.s;unfold SlR at h;rw[tO]at h;rw[ji];exact h
  have hRt:=hSl.rts (fo ks n);have hKc:n<=cak:=by have:=HI hSl;rwa [ji]at this
  refine Bnb false O O (λ_=>aI _ _ _) (by rw[decide_eq_false_iff_not];omega)<|aa<|aH O<|bv<|Xd []<|az (cs:=[pnt bm]) O isAgg47 sizeOf47 O (λw' h=>(hK.o3.grow (ae h)).range) O O<|Mv O<|Mv O<|Cc O ent113 (λw' _ hG=>iK (n:Int) w' hG)<|?_
  rw[Int.toNat_natCast];refine Cc O ent65 (λw' hw' hG=>dM bm _ (by have:=(nk n).1;omega) (krs ks n) (fo ks n) n (ji ks n) om ak cak hKc w' hG (ho.of_same ((hK.ap.m.trans (ae hw')).block _ ho.lt)) (hRt.grow (ae hw'))) ?_
  rw[show tre P2 Z0 (dep n) (krs ks n)=Tor (krs ks n)from by rw[Tor,ji]]
  refine fL (vs:=(Tor (krs ks n)).map U8) gt_low (λw' h=>hGF.g _ _ _ h) (λw' h=>hK.o6.grow (ae h)) (Nat.le_trans (gt_low.size w hw) h6w) O O sizeOf27 (by rw[List.length_map];exact cF (fo _ _)) (bg _) (by rw[List.length_map,cF (fo _ _)];decide) O (λw5a w5 hC5 g5 hm5 ho6=> ?_)
  rw[dp _ _ (by rw[List.length_map,cF (fo _ _)];rfl)]at ho6
  have hW:=hm5.grow0 (hK.ap.m.trans (ae hC5)) (λk hk=>hk▸h6w);have hGF:=gt_low.plain g5;clear hC5 hm5;refine aa<|ao<|Rr<|?_;exact d8 O O isAgg27 sizeOf27 (by rw[List.length_map];exact cF (fo _ _)) (λw' h=>(ho6.grow (ae h)).range) (λw' hw'=>⟨rfl,hW.trans (ae hw')⟩)
end
section
open Go.RowKit
open Sh
theorem Co.all{c:Co}: ∀j v,c.cs[j]? =some v->c.cs[0+j]? =some v:=λj v hv=>by rw[Nat.zero_add];exact hv
theorem Co.a0{c:Co}: ∀j v,[Value.slice c.ka c.ks.length c.kc][j]? =some v->c.cs[0+j]? =some v:=eI (pre:=[]) O
theorem Ag.a0{a:Ag}: ∀j v,[Value.slice a.ba a.bs.length a.bc][j]? =some v->a.cs[0+j]? =some v:=eI (pre:=[]) O
theorem Up.ab{u:Up}(k:u.Ok): ∀j v,[Value.slice u.sy.ba u.sy.bs.length u.sy.bc][j]? =some v->u.cs[597+j]? =some v:=bu (o:=597) (p:=0) (Up.l6 k) Ag.a0
theorem Bo.ak{b:Bo}(k:b.Ok): ∀j v,[Value.slice b.nw.ka b.nw.ks.length b.nw.kc][j]? =some v->b.cs[98+j]? =some v:=bu (o:=98) (p:=0) (Bo.l2 k) Co.a0
theorem xZ(bm:Nat)(c:Co)(hk:c.Ok)(n:Nat)(hn:n<=1000)(w:World)(hw:Gt w)(ho:gZ w bm)(hks:RwsAt 48 w c.ka c.ks):CLS 84 [.agg [pnt bm].toArray,.agg c.cs.toArray,I (n:Int)].toArray w (λe w'=>e=.returned (.agg ((c.rt n).map U8).toArray)/\Grow w w'):=by
 refine Hf func84 O hw<|λhGF=>am (E:=EE [2999998])<|Bx 3 hGF O<|λb3=>Bx 4 hGF O<|λb4=>Al 6 hGF zv28<|λb6=>aa<|Xd [2999998]<|aq 3 O O isAgg47 sizeOf47 O O O<|aq 3 O O isAgg47 sizeOf47 O O O<|Fa 0 O underlying35 O sizeOf31<|aT (v:=.slice c.ka c.ks.length c.kc) O isAgg31 (λw' hw'=>by have:=(av (n:=4) O w' hw') _ _ (Co.a0 0 _ O);exact this) O O<|Mv O<|Cc O ent120 (λw' hw' hG=>ya bm c.ks hk.ks c.ka c.kc n hn w' hG (ho.of_same ((ae hw').block _ ho.lt)) (hks.grow (ae hw')))<|aq 3 O O isAgg47 sizeOf47 O O O<|Fa 1 O underlying35 O sizeOf33<|az (cs:=c.sum.map U8) O isAgg33 sizeOf33 (by rw[List.length_map];exact hk.sum) (λw' hw' j v hv=>by have:=(av (n:=4) O w' hw') _ v (Co.a_sum j v hv);rwa [Nat.zero_add]at this) O O<|Cc O ent121 (λw' hw' hG=>nj bm c.sum hk.sum w' hG (ho.of_same ((ae hw').block _ ho.lt)))<|ku (uf:=U8) (s:=32) 17 (λi=>([Tor (krs c.ks n),BR8 c.sum]).getD i []) (List.replicate 32 0#8) hGF O O O (λi hi=>(Co.fs_all c n) _ (kZ hi)) aC aC underlying86 sizeOf27 O zv27 O O<|?_
 intro b17;rw[show RW 32 (λi=>([Tor (krs c.ks n),BR8 c.sum]).getD i []) 2=([Tor (krs c.ks n),BR8 c.sum]).flatten from iG ([Tor (krs c.ks n),BR8 c.sum]) (Co.fs_all c n)];refine Cc O ent76 (λw' hw' hG=>qV bm ([Tor (krs c.ks n),BR8 c.sum]) (Co.fs_all c n) (by show 2<=1000000;decide) _ 2 (Nat.le_refl 2) w' hG (ho.of_same ((ae hw').block _ ho.lt)) (gq (n:=17) (Co.fs_all c n) O (List.take_of_length_le (by rw[List.length_map,cR _ (Co.fs_all c n)];exact Nat.le_refl _)) w' hw'))<|ai 6 hGF O O O sizeOf28 (by rw[List.length_map];exact cF (Co.fs_all c n)) (by rw[List.length_map];exact cL) (bg _) O<|aa<|ao<|Rr<|?_
 exact aF 6 O O O isAgg28 sizeOf28 (by rw[List.length_map];exact cF (Co.fs_all c n)) (λw' hw'=>⟨rfl,ae hw'⟩)
theorem nd(bm:Nat)(c:Co)(hk:c.Ok)(hn:c.ks.length<=1000)(w:World)(hw:Gt w)(ho:gZ w bm)(hks:RwsAt 48 w c.ka c.ks):CLS 46 [.agg [pnt bm].toArray,.agg c.cs.toArray].toArray w (λe w'=>e=.returned (.agg ((c.rt c.ks.length).map U8).toArray)/\Grow w w'):=by
 refine Hf func46 O hw<|λhGF=>Xp<|Bx 2 hGF O<|λb2=>Bx 3 hGF O<|λb3=>Al 4 hGF zv28<|λb4=>aa<|Xp<|aq 2 O O isAgg47 sizeOf47 O O O<|az (cs:=c.cs) O isAgg35 sizeOf35 (Co.len hk) (λw' hw' j v hv=>by have:=(av (n:=3) O w' hw') _ v (Co.all j v hv);rwa [Nat.zero_add]at this) O O<|Fa 0 O underlying35 O sizeOf31<|aT (v:=.slice c.ka c.ks.length c.kc) O isAgg31 (λw' hw'=>by have:=(av (n:=3) O w' hw') _ _ (Co.a0 0 _ O);exact this) O O<|bB O (λ_=>aO underlying31 _ _ _ _) O O<|Cc O ent84 (λw' hw' hG=>xZ bm c hk c.ks.length hn w' hG (ho.of_same ((ae hw').block _ ho.lt)) (hks.grow (ae hw')))<|ai 4 hGF O O O sizeOf28 (by rw[List.length_map];exact Co.rt_len _ _) (by rw[List.length_map];exact cL) (bg _) O<|aa<|ao<|Rr<|?_
 exact aF 4 O O O isAgg28 sizeOf28 (by rw[List.length_map];exact Co.rt_len _ _) (λw' hw'=>⟨rfl,ae hw'⟩)
end
section
open Go.RowKit
def Ce:Array Value->Sem Value:=λargs=>do
 let (x,y,b)<-Extern.MathBitsCarry.three "Sub64" args
 pure (Extern.MathBitsCarry.pair ((x+Extern.MathBitsCarry.m64-y-b) % Extern.MathBitsCarry.m64) (if x<y+b then 1 else 0))
theorem dR(x y c:BitVec 64)(hc:c.toNat<=1)(w:World):(callFunc 133 [U64 x,U64 y,U64 c].toArray).run prog w=.ok (.value (.tuple #[U64 (ADC x y c).1,U64 (ADC x y c).2])) w:=by
 show (callFunc 133 #[U64 x,U64 y,U64 c]).run prog w=_;rw[run_callFunc_extern func133 kr kr kr (e:=add64Entry) kr];simp only[U64];rw[run_add64 _ _ _ om om om om];have h1:=x.isLt;have h2:=y.isLt;have e1:((x.toNat:Int)+(y.toNat:Int)+(c.toNat:Int)) % 18446744073709551616=((ADC x y c).1.toNat:Int):=by simp only[ADC,BitVec.toNat_ofNat];omega
 have e2:((x.toNat:Int)+(y.toNat:Int)+(c.toNat:Int)) / 18446744073709551616=((ADC x y c).2.toNat:Int):=by simp only[ADC,BitVec.toNat_ofNat];omega
 rw[e1,e2];rfl
theorem Fb(x y c:BitVec 64)(hc:c.toNat<=1)(w:World):(callFunc 134 [U64 x,U64 y,U64 c].toArray).run prog w=.ok (.value (.tuple #[U64 (SBB x y c).1,U64 (SBB x y c).2])) w:=by
 show (callFunc 134 #[U64 x,U64 y,U64 c]).run prog w=_;rw[run_callFunc_extern func134 kr kr kr (e:=Ce) kr];have key: ∀b:Nat,b<=1->(Ce #[.int .u64 (x.toNat:Int),.int .u64 (y.toNat:Int),.int .u64 (b:Int)]).run prog w=
  .ok (.tuple #[.int .u64 (((x.toNat+18446744073709551616-y.toNat-b) % 18446744073709551616:Nat):Int),.int .u64 ((if x.toNat<y.toNat+b then 1 else 0:Nat):Int)]) w:=λb hb=>by
  have:b=0\/b=1:=om;rcases this with rfl|rfl<;>rfl
 simp only[U64];rw[key _ hc];simp only[Result.andThen,SBB,BitVec.toNat_ofNat];congr 5;split<;>rfl
theorem ent210:aL prog 210:=λ_ _=>kr
theorem ent175:aL prog 175:=λ_ _=>kr
theorem ent319:aL prog 319:=λ_ _=>kr
theorem ent340:aL prog 340:=λ_ _=>kr
theorem zv119(w:World):(zeroValue 119).run prog w=.ok (bj (List.replicate 6 (0#64))) w:=(zeroValue119 w).trans aE
theorem zv120(w:World):(zeroValue 120).run prog w=.ok (bj (List.replicate 6 (0#64))) w:=(zeroValue120 w).trans aE
theorem zv342(w:World):(zeroValue 342).run prog w=.ok (bj (List.replicate 12 (0#64))) w:=(zeroValue342 w).trans aE
theorem zv32(w:World):(zeroValue 32).run prog w=.ok (.agg ((List.replicate 48 (0#8)).map U8).toArray) w:=(zeroValue32 w).trans aE
theorem pI(a b:L6)(ha:a.length=6)(hb:b.length=6):PUR 282 [bj (a),bj (b)] (.tuple #[bj ((AS a b 6).1),U64 (AS a b 6).2]):=by
 intro w hw;refine Hf func282 O hw<|λhGF=>Xp<|Bx 2 hGF O<|λb2=>Bx 3 hGF O<|λb3=>Al 4 hGF zv119<|λb4=>Asg O<|aa<|Xp<|Al 6 hGF zv119<|λb6=>aa<|Xp<|Asg O<|aa<|ah<|Xp<|Mv O<|aa<|au<|bW (ι:={i:Nat // i<=6}) (λx=>[(2,pnt b2),(3,pnt b3),(4,pnt b4),(6,pnt b6),(7,U64 (AS a b x.1).2),(9,I (x.1:Int))]) (λx=>[(2,b2,a.map U64,119),(3,b3,b.map U64,119),(4,b4,(List.replicate 6 0#64).map U64,119),(6,b6,(AS a b x.1).1.map U64,119)]) (λx=>6-x.1) ⟨0,om⟩ hGF trv trv<|?_;rintro ⟨i,hi⟩;dsimp only;refine Xp<|Bnr O O (λ_=>aI _ _ _)<|aa<|ah<|?_;refine cx O (λhc=> ?_) (λhc=> ?_)
 ·simp only[decide_eq_true_eq]at hc
  refine aw<|ah<|au<|Xp<|Mv O<|Asg O<|aa<|Xe []<|Mv O<|Mv O<|Ia (i) O O underlying119 sizeOf22<|Lmq 2 U64 0 O O isAgg22 (by rw[ha];omega)<|Mv O<|Ia (i) O O underlying119 sizeOf22<|Lmq 3 U64 0 O O isAgg22 (by rw[hb];omega)<|Mv O<|bL O O (λw=>dR _ _ _ (vk a b i) w) O O<|Mv O<|Exq O O<|Exq O O<|Ia (i) O O underlying119 sizeOf22<|bO 6 U64 hGF O O O sizeOf22 O (by rw[bR];omega) O<|Asg O<|aa<|Xq<|Bnr O O (λ_=>ay _ _ _ aG)<|Mv O<|aa<|?_
  repeat (refine bh ?_)
  exact aY<|⟨rfl,⟨i+1,om⟩,_,by show 6-(i+1)<6-i;omega,rfl,trv,trv⟩
 ·obtain rfl:i=6:=by simp at hc;omega
  refine bv<|Xp<|Lw 6 O O bU (bR _ _ _)<|Mv O<|Sw 4 hGF O O O bU (bR _ _ _)<|Asg O<|aa<|ao<|Rr<|?_;exact co 4 O O O O isAgg119 sizeOf119 (by rw[List.length_map,bR]) (λw hw=>⟨rfl,ae hw⟩)
theorem kv(a b:L6)(ha:a.length=6)(hb:b.length=6):PUR 281 [bj (a),bj (b)] (.tuple #[bj ((SS a b 6).1),U64 (SS a b 6).2]):=by
 intro w hw;refine Hf func281 O hw<|λhGF=>Xp<|Bx 2 hGF O<|λb2=>Bx 3 hGF O<|λb3=>Al 4 hGF zv119<|λb4=>Asg O<|aa<|Xp<|Al 6 hGF zv119<|λb6=>aa<|Xp<|Asg O<|aa<|ah<|Xp<|Mv O<|aa<|au<|bW (ι:={i:Nat // i<=6}) (λx=>[(2,pnt b2),(3,pnt b3),(4,pnt b4),(6,pnt b6),(7,U64 (SS a b x.1).2),(9,I (x.1:Int))]) (λx=>[(2,b2,a.map U64,119),(3,b3,b.map U64,119),(4,b4,(List.replicate 6 0#64).map U64,119),(6,b6,(SS a b x.1).1.map U64,119)]) (λx=>6-x.1) ⟨0,om⟩ hGF trv trv<|?_;rintro ⟨i,hi⟩;dsimp only;refine Xp<|Bnr O O (λ_=>aI _ _ _)<|aa<|ah<|?_;refine cx O (λhc=> ?_) (λhc=> ?_)
 ·simp only[decide_eq_true_eq]at hc
  refine aw<|ah<|au<|Xp<|Mv O<|Asg O<|aa<|Xe []<|Mv O<|Mv O<|Ia (i) O O underlying119 sizeOf22<|Lmq 2 U64 0 O O isAgg22 (by rw[ha];omega)<|Mv O<|Ia (i) O O underlying119 sizeOf22<|Lmq 3 U64 0 O O isAgg22 (by rw[hb];omega)<|Mv O<|bL O O (λw=>Fb _ _ _ (qo a b i) w) O O<|Mv O<|Exq O O<|Exq O O<|Ia (i) O O underlying119 sizeOf22<|bO 6 U64 hGF O O O sizeOf22 O (by rw[bz];omega) O<|Asg O<|aa<|Xq<|Bnr O O (λ_=>ay _ _ _ aG)<|Mv O<|aa<|?_
  repeat (refine bh ?_)
  exact aY<|⟨rfl,⟨i+1,om⟩,_,by show 6-(i+1)<6-i;omega,rfl,trv,trv⟩
 ·obtain rfl:i=6:=by simp at hc;omega
  refine bv<|Xp<|Lw 6 O O bU (bz _ _ _)<|Mv O<|Sw 4 hGF O O O bU (bz _ _ _)<|Asg O<|aa<|ao<|Rr<|?_;exact co 4 O O O O isAgg119 sizeOf119 (by rw[List.length_map,bz]) (λw hw=>⟨rfl,ae hw⟩)
theorem jM(a b:L6)(ha:a.length=6)(hb:b.length=6):PUR 99 [bj (a),bj (b)] (.tuple #[bj ((AS a b 6).1),U64 (AS a b 6).2]):=by
 intro w hw;refine Hf func99 O hw<|λhGF=>Xp<|Bx 2 hGF O<|λb2=>Bx 3 hGF O<|λb3=>Al 4 hGF zv120<|λb4=>Asg O<|aa<|Xp<|Al 6 hGF zv120<|λb6=>aa<|Xp<|Asg O<|aa<|ah<|Xp<|Asg O<|aa<|au<|bW (ι:={i:Nat // i<=6}) (λx=>[(2,pnt b2),(3,pnt b3),(4,pnt b4),(6,pnt b6),(7,U64 (AS a b x.1).2),(8,I (x.1:Int))]) (λx=>[(2,b2,a.map U64,120),(3,b3,b.map U64,120),(4,b4,(List.replicate 6 0#64).map U64,120),(6,b6,(AS a b x.1).1.map U64,120)]) (λx=>6-x.1) ⟨0,om⟩ hGF trv trv<|?_;rintro ⟨i,hi⟩;dsimp only;refine ah<|Xp<|Mv O<|Bnr O O (λ_=>aI _ _ _)<|aa<|?_;refine cx O (λhc=> ?_) (λhc=> ?_)
 ·simp only[decide_eq_true_eq]at hc
  refine aw<|ah<|au<|Xe []<|Mv O<|Mv O<|Ia (i) O O underlying120 sizeOf22<|Lmq 2 U64 0 O O isAgg22 (by rw[ha];omega)<|Mv O<|Ia (i) O O underlying120 sizeOf22<|Lmq 3 U64 0 O O isAgg22 (by rw[hb];omega)<|Mv O<|bL O O (λw=>dR _ _ _ (vk a b i) w) O O<|Mv O<|Exq O O<|Exq O O<|Ia (i) O O underlying120 sizeOf22<|bO 6 U64 hGF O O O sizeOf22 O (by rw[bR];omega) O<|Asg O<|aa<|Xq<|Mv O<|Bnr O O (λ_=>ay _ _ _ aG)<|Asg O<|aa<|?_
  repeat (refine bh ?_)
  exact aY<|⟨rfl,⟨i+1,om⟩,_,by show 6-(i+1)<6-i;omega,rfl,trv,trv⟩
 ·obtain rfl:i=6:=by simp at hc;omega
  refine bv<|Xp<|Lw 6 O O cg (bR _ _ _)<|Mv O<|Sw 4 hGF O O O cg (bR _ _ _)<|Asg O<|aa<|ao<|Rr<|?_;exact co 4 O O O O isAgg120 sizeOf120 (by rw[List.length_map,bR]) (λw hw=>⟨rfl,ae hw⟩)
theorem el(a b:L6)(ha:a.length=6)(hb:b.length=6):PUR 100 [bj (a),bj (b)] (.tuple #[bj ((SS a b 6).1),U64 (SS a b 6).2]):=by
 intro w hw;refine Hf func100 O hw<|λhGF=>Xp<|Bx 2 hGF O<|λb2=>Bx 3 hGF O<|λb3=>Al 4 hGF zv120<|λb4=>Asg O<|aa<|Xp<|Al 6 hGF zv120<|λb6=>aa<|Xp<|Asg O<|aa<|ah<|Xp<|Asg O<|aa<|au<|bW (ι:={i:Nat // i<=6}) (λx=>[(2,pnt b2),(3,pnt b3),(4,pnt b4),(6,pnt b6),(7,U64 (SS a b x.1).2),(8,I (x.1:Int))]) (λx=>[(2,b2,a.map U64,120),(3,b3,b.map U64,120),(4,b4,(List.replicate 6 0#64).map U64,120),(6,b6,(SS a b x.1).1.map U64,120)]) (λx=>6-x.1) ⟨0,om⟩ hGF trv trv<|?_;rintro ⟨i,hi⟩;dsimp only;refine ah<|Xp<|Mv O<|Bnr O O (λ_=>aI _ _ _)<|aa<|?_;refine cx O (λhc=> ?_) (λhc=> ?_)
 ·simp only[decide_eq_true_eq]at hc
  refine aw<|ah<|au<|Xe []<|Mv O<|Mv O<|Ia (i) O O underlying120 sizeOf22<|Lmq 2 U64 0 O O isAgg22 (by rw[ha];omega)<|Mv O<|Ia (i) O O underlying120 sizeOf22<|Lmq 3 U64 0 O O isAgg22 (by rw[hb];omega)<|Mv O<|bL O O (λw=>Fb _ _ _ (qo a b i) w) O O<|Mv O<|Exq O O<|Exq O O<|Ia (i) O O underlying120 sizeOf22<|bO 6 U64 hGF O O O sizeOf22 O (by rw[bz];omega) O<|Asg O<|aa<|Xq<|Mv O<|Bnr O O (λ_=>ay _ _ _ aG)<|Asg O<|aa<|?_
  repeat (refine bh ?_)
  exact aY<|⟨rfl,⟨i+1,om⟩,_,by show 6-(i+1)<6-i;omega,rfl,trv,trv⟩
 ·obtain rfl:i=6:=by simp at hc;omega
  refine bv<|Xp<|Lw 6 O O cg (bz _ _ _)<|Mv O<|Sw 4 hGF O O O cg (bz _ _ _)<|Asg O<|aa<|ao<|Rr<|?_;exact co 4 O O O O isAgg120 sizeOf120 (by rw[List.length_map,bz]) (λw hw=>⟨rfl,ae hw⟩)
theorem kS(a b:L6)(ha:a.length=6)(hb:b.length=6):PUR 211 [bj (a),bj (b)] (.bool (LT a b 6)):=by
 intro w hw;refine Hf func211 O hw<|λhGF=>Xp<|Bx 2 hGF O<|λb2=>Bx 3 hGF O<|λb3=>Asg O<|aa<|jO<|ah<|mg<|ah<|Xp<|Asg O<|aa<|au<|bW (ι:={i:Nat // i<=6/\LT a b 6=LT a b i}) (λx=>[(2,pnt b2),(3,pnt b3),(4,.bool false),(5,I ((x.1:Int)-1))]) (λx=>[(2,b2,a.map U64,119),(3,b3,b.map U64,119)]) (λx=>x.1) ⟨6,om,rfl⟩ hGF trv trv<|?_;rintro ⟨i,hi,hlt⟩;dsimp only;refine ah<|Xp<|Mv O<|Bnr O O (λ_=>cQ _ _ _)<|aa<|?_;refine cx O (λhc=> ?_) (λhc=> ?_)
 ·simp only[decide_eq_true_eq]at hc
  obtain ⟨k,rfl⟩: ∃k,i=k+1:=⟨i-1,om⟩;refine aw<|ah<|au<|au<|Xd []<|Mv O<|Ia (k) O O underlying119 sizeOf22<|Lmq 2 U64 0 O O isAgg22 (by rw[ha];omega)<|Mv O<|Ia (k) O O underlying119 sizeOf22<|Lmq 3 U64 0 O O isAgg22 (by rw[hb];omega)<|Bnr O O (λ_=>e6 _ _ _)<|Asg O<|aa<|?_
  refine cx O (λhc=> ?_) (λhc=> ?_)
  ·simp only[decide_eq_true_eq]at hc
   have hfin:LT a b 6=true:=by rw[hlt,LT,if_pos hc]
   refine Xp<|Asg O<|aa<|ao<|?_
   repeat (first|refine da ?_|refine db ?_|refine gr ?_)
   exact ar O O (λw hw=>⟨by rw[hfin];rfl,ae hw⟩)
  ·simp only[decide_eq_false_iff_not]at hc
   have hc1:=hc;refine Xd []<|Mv O<|Ia (k) O O underlying119 sizeOf22<|Lmq 2 U64 0 O O isAgg22 (by rw[ha];omega)<|Mv O<|Ia (k) O O underlying119 sizeOf22<|Lmq 3 U64 0 O O isAgg22 (by rw[hb];omega)<|Bnr O O (λ_=>eX _ _ _)<|Asg O<|aa<|?_
   refine cx O (λhc=> ?_) (λhc=> ?_)
   ·simp only[decide_eq_true_eq]at hc
    have hfin:LT a b 6=false:=by rw[hlt,LT,if_neg hc1,if_pos hc]
    refine bv<|Xp<|Asg O<|aa<|ao<|?_
    repeat (first|refine da ?_|refine db ?_|refine gr ?_)
    exact ar O O (λw hw=>⟨by rw[hfin];rfl,ae hw⟩)
   ·simp only[decide_eq_false_iff_not]at hc
    refine aw<|Xq<|Mv O<|Bnr (v:=I ((k:Int)-1)) O O (λ_=>(bC _ _ _ aG).trans (by rw[show (((k+1:Nat):Int)-1)-1=(k:Int)-1 by omega]))<|Asg O<|aa<|?_
    repeat (refine bh ?_)
    exact aY<|⟨rfl,⟨k,om,by rw[hlt,LT,if_neg hc1,if_neg hc]⟩,_,by show k<k+1;omega,rfl,trv,trv⟩
 ·simp only[decide_eq_false_iff_not]at hc
  obtain rfl:i=0:=om;have hfin:LT a b 6=false:=hlt;refine bv<|Xp<|Asg O<|aa<|ao<|?_
  repeat (first|refine da ?_|refine db ?_|refine gr ?_)
  exact ar O O (λw hw=>⟨by rw[hfin];rfl,ae hw⟩)
theorem bY(x y:BitVec 64):PUR 173 [U64 x,U64 y] (.tuple #[U64 (MH x y),U64 (MLo x y)]):=by
 intro w hw;refine Hf func173 O hw<|λhGF=>Xp<|Asg O<|Asg O<|aa<|Xp<|Mv O<|Bnr O O (λ_=>ee _ _ _)<|Asg O<|aa<|Xp<|Mv O<|Bnr O O (λ_=>cI _ _ _)<|Asg O<|aa<|Xp<|Mv O<|Bnr O O (λ_=>ee _ _ _)<|Asg O<|aa<|Xp<|Mv O<|Bnr O O (λ_=>cI _ _ _)<|Asg O<|aa<|Xp<|Mv O<|Mv O<|Bnr O O (λ_=>cy _ _ _)<|Asg O<|aa<|Xp<|Mv O<|Mv O<|Bnr O O (λ_=>cy _ _ _)<|Mv O<|Bnr O O (λ_=>cI _ _ _)<|Bnr O O (λ_=>aM _ _ _)<|Asg O<|aa<|?_;refine Xp<|Mv O<|Bnr O O (λ_=>ee _ _ _)<|Asg O<|aa<|Xp<|Mv O<|Bnr O O (λ_=>cI _ _ _)<|Asg O<|aa<|Xp<|Mv O<|Mv O<|Mv O<|Bnr O O (λ_=>cy _ _ _)<|Bnr O O (λ_=>aM _ _ _)<|Asg O<|aa<|Xp<|Mv O<|Mv O<|Bnr O O (λ_=>cy _ _ _)<|Mv O<|Bnr O O (λ_=>aM _ _ _)<|Mv O<|Bnr O O (λ_=>cI _ _ _)<|Bnr O O (λ_=>aM _ _ _)<|Asg O<|aa<|Xp<|Mv O<|Mv O<|Bnr O O (λ_=>cy _ _ _)<|Asg O<|aa<|ao<|Rr<|?_;exact jk O O O (λw hw=>⟨by rw[<-M2,<-G0];rfl,ae hw⟩)
theorem fW(x y c d:BitVec 64):PUR 288 [U64 x,U64 y,U64 c,U64 d] (.tuple #[U64 (MA x y c d).1,U64 (MA x y c d).2]):=by
 intro w hw;refine Hf func288 O hw<|λhGF=>Xp<|Asg O<|Asg O<|aa<|Xp<|Mv O<|Mv O<|Ca O (bY _ _)<|Mv O<|Exq O O<|Exq O O<|Asg O<|Asg O<|aa<|Xp<|Mv O<|Mv O<|bL O O (λw=>dR _ _ _ aC w) O O<|Mv O<|Exq O O<|Exq O O<|Asg O<|Asg O<|aa<|Xp<|Mv O<|Mv O<|Bnr O O (λ_=>aM _ _ _)<|Asg O<|aa<|Xp<|Mv O<|Mv O<|bL O O (λw=>dR _ _ _ aC w) O O<|Mv O<|Exq O O<|Exq O O<|Asg O<|Asg O<|?_;refine aa<|Xp<|Mv O<|Mv O<|Mv O<|Bnr O O (λ_=>aM _ _ _)<|Asg O<|Asg O<|aa<|ao<|Rr<|?_;exact jk O O O (λw hw=>⟨rfl,ae hw⟩)
end
section
open Go.RowKit
theorem eqg(op:BinOp)(x y:Operand)(xs ys:Array Value)(w:World):(eqGuard op 119 x y (.agg xs) (.agg ys)).run prog w=.ok () w:=run_eqGuard_agg w op 119 x y xs ys kr
theorem Ms(op:BinOp)(x y:Operand)(xs ys:Array Value)(w:World):(eqGuard op 120 x y (.agg xs) (.agg ys)).run prog w=.ok () w:=run_eqGuard_agg w op 120 x y xs ys kr
theorem eq23(xs ys:L6)(h:xs.length=6)(h':ys.length=6)(w:World):(binOp .eql 119 (bj xs) (bj ys)).run prog w=.ok (.bool (decide (xs=ys))) w:=p6 underlying119 underlying22 sizeOf22 isAgg22 xs ys h h' w
theorem eq27(xs ys:L6)(h:xs.length=6)(h':ys.length=6)(w:World):(binOp .eql 120 (bj xs) (bj ys)).run prog w=.ok (.bool (decide (xs=ys))) w:=p6 underlying120 underlying22 sizeOf22 isAgg22 xs ys h h' w
theorem cE{n:Nat}{b1:Nat}{c1:List Value}{t1:TypeId}: ∀i j b c t c' t',lkB [(n,b1,c1,t1)] i=some (b,c,t)->lkB [(n,b1,c1,t1)] j=some (b,c',t')->i=j:=by
 intro i j b c t c' t' h1 h2;rcases bx h1 with ⟨e1,x1⟩|⟨_,h1⟩
 ·rcases bx h2 with ⟨e2,x2⟩|⟨_,h2⟩
  ·exact e1.trans e2.symm
  ·cases h2
 ·cases h1
theorem di{J:(Nat->Prop)->World->Prop}(hr:Rides J){Y:Nat->Prop}{w:World}(h:J Y w):J (λ_=>False) w:=hr.less _ _ _ (λ_ h=>h.elim) h
theorem pA(a:L6)(top:BitVec 64)(m:L6)(ha:a.length=6)(hm:m.length=6):PUR 289 [bj (a),U64 top,bj (m)] (bj (RED a top m)):=by
 intro w hw;refine Hf func289 O hw ?_;intro hGF;by_cases h1:top=0
 ·by_cases h2:(SS a m 6).2=1
  ·refine Xp<|Bx 3 hGF O<|λb3=>Bx 5 hGF O<|λb5=>Al 6 hGF zv119<|λb6=>aa<|Xp<|Lw 3 O O bU ha<|Lw 5 O O bU hm<|Ca O (kv a m ha hm)<|Mv O<|Exq O O<|Exq O O<|Al 7 hGF zv119<|λb7=>Sw 7 hGF O O O bU (bz _ _ _)<|Asg O<|aa<|ah<|Xp<|Mv O<|Bnr (v:=.bool true) O O (λw=>(bA _ _ _).trans (congrArg (λb=>Result.ok (Value.bool b) w) (beq_iff_eq.2 h1)))<|Mv O<|Mv O<|Bnr (v:=.bool true) O O (λw=>(bA _ _ _).trans (congrArg (λb=>Result.ok (Value.bool b) w) (beq_iff_eq.2 h2)))<|Pk O O O<|aa<|aQ O<|Xp<|Lw 3 O O bU ha<|Sw 6 hGF O O O bU ha<|aa<|ao<|Rr<|?_
   exact aF 6 O O O isAgg119 sizeOf119 (by rw[List.length_map,ha]) (λw hw=>⟨by rw[RED,if_pos (⟨h1,h2⟩)],ae hw⟩)
  ·refine Xp<|Bx 3 hGF O<|λb3=>Bx 5 hGF O<|λb5=>Al 6 hGF zv119<|λb6=>aa<|Xp<|Lw 3 O O bU ha<|Lw 5 O O bU hm<|Ca O (kv a m ha hm)<|Mv O<|Exq O O<|Exq O O<|Al 7 hGF zv119<|λb7=>Sw 7 hGF O O O bU (bz _ _ _)<|Asg O<|aa<|ah<|Xp<|Mv O<|Bnr (v:=.bool true) O O (λw=>(bA _ _ _).trans (congrArg (λb=>Result.ok (Value.bool b) w) (beq_iff_eq.2 h1)))<|Mv O<|Mv O<|Bnr (v:=.bool false) O O (λw=>(bA _ _ _).trans (congrArg (λb=>Result.ok (Value.bool b) w) (beq_eq_false_iff_ne.2 h2)))<|Pk O O O<|aa<|aH O<|aw<|Xp<|Lw 7 O O bU (bz _ _ _)<|Sw 6 hGF O O O bU (bz _ _ _)<|aa<|ao<|Rr<|?_
   exact aF 6 O O O isAgg119 sizeOf119 (by rw[List.length_map,bz]) (λw hw=>⟨by rw[RED,if_neg (λh=>h2 h.2)],ae hw⟩)
 ·refine Xp<|Bx 3 hGF O<|λb3=>Bx 5 hGF O<|λb5=>Al 6 hGF zv119<|λb6=>aa<|Xp<|Lw 3 O O bU ha<|Lw 5 O O bU hm<|Ca O (kv a m ha hm)<|Mv O<|Exq O O<|Exq O O<|Al 7 hGF zv119<|λb7=>Sw 7 hGF O O O bU (bz _ _ _)<|Asg O<|aa<|ah<|Xp<|Mv O<|Bnr (v:=.bool false) O O (λw=>(bA _ _ _).trans (congrArg (λb=>Result.ok (Value.bool b) w) (beq_eq_false_iff_ne.2 h1)))<|Mv O<|Sk<|Sk<|Pk O O O<|aa<|aH O<|aw<|Xp<|Lw 7 O O bU (bz _ _ _)<|Sw 6 hGF O O O bU (bz _ _ _)<|aa<|ao<|Rr<|?_
  exact aF 6 O O O isAgg119 sizeOf119 (by rw[List.length_map,bz]) (λw hw=>⟨by rw[RED,if_neg (λh=>h1 h.1)],ae hw⟩)
def tT(bb b:Nat)(a:L6)(n:Nat):Cls:=λW=>W.cell? ⟨bb,0,none⟩=some (.slice (spt b) n n)/\W.rangeAt b 0 (a.map U64)
def DG(a:L6)(n:Nat):List (List Value):=(List.range (64*n)).map λj=>[I ((64*n-1-j:Nat):Int),U64 (dig a (64*n-1-j))]
theorem fG(a:L6)(n:Nat):(DG a n).length=64*n:=by simp[DG]
theorem Ip(a:L6)(n q s:Nat)(hq:q<n)(hs:s<64):(DG a n)[64*(n-(q+1))+(64-(s+1))]? =some [I ((64*q+s:Nat):Int),U64 (dig a (64*q+s))]:=by
 have h:64*(n-(q+1))+(64-(s+1))<64*n:=om;rw[DG,List.getElem?_map,List.getElem?_range h];simp only[Option.map_some];rw[show 64*n-1-(64*(n-(q+1))+(64-(s+1)))=64*q+s by omega]
theorem Ko(a:L6)(n k:Nat)(x:List Value)(h:(DG a n)[k]? =some x):k<64*n/\x=[I ((64*n-1-k:Nat):Int),U64 (dig a (64*n-1-k))]:=by
 have hk:k<64*n:=by
  rcases Nat.lt_or_ge k (64*n)with h'|h'
  ·exact h'
  ·rw[List.getElem?_eq_none (by rw[fG];exact h')]at h;cases h
 rw[DG,List.getElem?_map,List.getElem?_range hk]at h;exact ⟨hk,(Option.some.inj h).symm⟩
theorem sg(sv:Value)(hs:sv.cells= #[sv])(w:World)(hw:Gt w):CLS 319 [sv].toArray w (λe w'=> ∃b1,e=.returned (.func (.func 340) #[] #[pnt b1])/\Grow w w'/\w.heap.size<=b1/\OwnB w' b1 [sv] 58):=by
 refine Hf func319 O hw<|λhGF=>Xp<|gH 1 hGF O O O<|λb1=>Asg O<|aa<|Xp<|dV O O O O<|Asg O<|aa<|ao<|Rr<|?_;exact ar O O (λw hw=>⟨b1,rfl,ae hw,(hw.own 1 b1 _ _ O).2.elim id False.elim,(by have:=(hw.own 1 b1 _ _ O).1;rw[hs]at this;exact this)⟩)
theorem uV(bb b:Nat)(a:L6)(n:Nat)(hn:n<=100)(ha:a.length=n):jH prog Gt 340 [pnt bb] (DG a n) (tT bb b a n):=by
 intro l J Jx hJ hJx hRd hGx hY w hj;have okJ: ∀k,BOk Gt (Bi w (λY=>J Y k)):=λk=>⟨λ_ _ _ h=>(hRd _ _ _ h.rid).1,hJ k⟩;have okX: ∀k,BOk Gt (Bi w (λY=>Jx Y k)):=λk=>⟨λ_ _ _ h=>hGx _ _ _ h.rid,hJx k⟩;have c1: ∀k L w',Hp (Bi w (λY=>J Y k)) L w'->tT bb b a n w':=λk L w' h=>(hRd _ _ _ h.rid).2;refine eM (G:=Gt) func340 O O (Hp (Bi w (λY=>J Y 0)) []) (cO (Bi w _) hj (hJ 0)) (aU (okJ 0))<|jO<|ah<|mg<|Xp<|aT O isAgg58 (λw h=>(c1 _ _ w h).1) O O<|bB O (λ_=>aO underlying58 _ _ _ _) O O<|Bnr O O (λ_=>bC _ _ _ aG)<|Asg O<|aa<|au<|j0 (ι:={i:Nat // i<=n}) (λx=>[(0,.func (.yield l) #[] #[]),(1,pnt bb),(3,I ((x.1:Int)-1))]) (λx=>Bi w (λY=>J Y (64*(n-x.1)))) (λx=>[]) (λx=>x.1) ⟨n,Nat.le_refl _⟩ (λ_=>okJ _) (by rw[Nat.sub_self]) trv trivial<|?_
 rintro ⟨i,hi⟩;dsimp only;refine ah<|Xp<|Mv O<|Bnr O O (λ_=>cQ _ _ _)<|aa<|?_;refine cx O (λhc=> ?_) (λhc=> ?_)
 ·simp only[decide_eq_true_eq]at hc
  obtain ⟨q,rfl⟩: ∃q,i=q+1:=⟨i-1,om⟩;clear hc;rw[show ((q+1:Nat):Int)-1=(q:Int) by omega]
  refine aw<|ah<|au<|Xp<|Asg O<|aa<|au<|j0 (ι:={r:Nat // r<=64}) (λx=>[(0,.func (.yield l) #[] #[]),(1,pnt bb),(3,I (q:Int)),(4,I ((x.1:Int)-1))]) (λx=>Bi w (λY=>J Y (64*(n-(q+1))+(64-x.1)))) (λx=>[]) (λx=>x.1) ⟨64,Nat.le_refl _⟩ (λ_=>okJ _) O trv trivial<|?_;rintro ⟨r,hr⟩;dsimp only;refine ah<|Xp<|Mv O<|Bnr O O (λ_=>cQ _ _ _)<|aa<|?_;refine cx O (λhc=> ?_) (λhc=> ?_)
  ·simp only[decide_eq_true_eq]at hc
   obtain ⟨s,rfl⟩: ∃s,r=s+1:=⟨r-1,om⟩;clear hc;rw[show ((s+1:Nat):Int)-1=(s:Int) by omega]
   refine aw<|ah<|au<|Xp<|Mv O<|Mv O<|Bnr (v:=I ((64*q:Nat):Int)) O O (λ_=>(bT _ _ _ aG).trans (by rw[show (64:Int)*(q:Int)=((64*q:Nat):Int) by omega]))<|Mv O<|Bnr (v:=I ((64*q+s:Nat):Int)) O O (λ_=>(ay _ _ _ aG).trans (by rw[show ((64*q:Nat):Int)+(s:Int)=((64*q+s:Nat):Int) by omega]))<|aT O isAgg58 (λw h=>(c1 _ _ w h).1) O O<|Mv O<|j4 q O O underlying58 sizeOf22 om om O O<|aT O isAgg22 (λw h=>(c1 _ _ w h).2 q _ (gm U64 a 0 q om)) O O<|Mv O<|Bnr O O (λ_=>cB _ _ _ om)<|Bnr (v:=U64 (dig a (64*q+s))) O O (λ_=>(ee _ _ _).trans (by rw[<-G2 a q s om];rfl))<|?_
   refine e5 (hY.b (k:=64*(n-(q+1))+(64-(s+1))) (Ip a n q s om om) w) (okJ _) (okX _) O O O O O ?_ ?_
   ·refine bV O (λ_=>bP _) O O<|aa<|aH O<|aw<|Xq<|Mv O<|Bnr O O (λ_=>bC _ _ _ aG)<|Asg O<|aa<|?_
    rw[show 64*(n-(q+1))+(64-(s+1))+1=64*(n-(q+1))+(64-s) by omega]
    repeat (refine bh ?_)
    exact aY<|⟨rfl,⟨s,om⟩,_,by show s<s+1;omega,rfl,trv,trivial⟩
   ·refine bV O (λ_=>bP _) O O<|aa<|aQ O<|bv<|?_
    repeat (first|refine iT ?_|refine iq ?_|refine ip O ?_)
    exact zz<|ec O (λw hw=>⟨⟨_,rfl⟩,.inr ⟨_,di (hJx _) hw.rid⟩⟩)
  ·simp only[decide_eq_false_iff_not]at hc
   obtain rfl:r=0:=om;clear hc;rw[show 64*(n-(q+1))+(64-0)=64*(n-q) by omega]
   refine bv<|Xq<|Mv O<|Bnr O O (λ_=>bC _ _ _ aG)<|Asg O<|aa<|?_
   repeat (refine bh ?_)
   exact aY<|⟨rfl,⟨q,om⟩,_,by show q<q+1;omega,rfl,trv,trivial⟩
 ·simp only[decide_eq_false_iff_not]at hc
  obtain rfl:i=0:=om;refine bv ?_
  repeat (first|refine iT ?_|refine iq ?_|refine ip O ?_)
  refine zz ?_;refine ec O (λw hw=>⟨⟨_,rfl⟩,.inl ?_⟩);have:=di (hJ _) hw.rid;rw[fG];exact this
end
section
open Go.RowKit
theorem Aj(t m:L6)(ht:t.length=12)(hm:m.length=6):PUR 286 [bj (t),bj (m)] (bj (MOD t m)):=by
 intro w hw;have hGF:BOk Gt (pl w):=gt_low.plain hw;refine fc (G:=Gt) func286 O O (Hp (pl w) []) (cO (pl w) trivial aJ) (aU hGF)<|am (E:=EE [319])<|Bx 2 hGF O<|λb2=>Bx 3 hGF O<|λb3=>Al 4 hGF zv119<|λb4=>aa<|am (E:=EE [319])<|Al 5 hGF zv119<|λb5=>aa<|ah<|am (E:=EE [319])<|Lw 3 O O bU hm<|Lw 5 O O bU List.length_replicate<|dv O O (λw=>eqg _ _ _ _ _ w) (λw=>eq23 m (List.replicate 6 0) hm O w) O O<|aa<|?_;refine cx O (λhc=> ?_) (λhc=> ?_)
 ·simp only[decide_eq_true_eq]at hc
  refine am (E:=EE [319])<|Lw 5 O O bU List.length_replicate<|ai 4 hGF O O O sizeOf119 aB (by rw[List.length_map,List.length_replicate]) (be _) O<|aa<|ao<|Rr<|?_
  exact se (.inl O) (aF 4 O O O isAgg119 sizeOf119 (by rw[List.length_map,List.length_replicate]) (λw hw=>⟨by rw[MOD,if_pos hc];rfl,ae hw⟩))
 ·simp only[decide_eq_false_iff_not]at hc
  refine aw<|ah<|am (E:=EE [319])<|ct (l:=0) (h':=12) O underlying342 sizeOf22 O O om om O O<|?_;refine cn O O ent319 O O (λw' hw'=>(sg _ O w' (hGF.g _ _ _ hw')).mono λe w'' h=> ?_);obtain ⟨c1,rfl,hg,h1,ho⟩:=h;refine ⟨_,_,rfl,aU hGF,hw'.news aJ hg [(33,c1,[.slice (spt b2) 12 12],58)] ?_ cE, ?_⟩
  ·intro n' b' c' t' hl
   rcases bx hl with ⟨_,e⟩|⟨_,hl⟩
   ·cases e;exact ⟨h1,ho⟩
   ·cases hl
  clear hw' hg h1 ho;refine aa<|au<|?_;refine j1 (λ_=>pl w) (λ_ _=>pl w) (λ_=>hGF) (λ_ _=>hGF) (λ_=>rfl) (λ_ _=>rfl) O O ent340 (uV c1 b2 t 12 aC ht) (λx hx=>by obtain ⟨k,hk,rfl⟩:=List.mem_map.1 hx;rfl) O (λk=>[(2,b2,t.map U64,342),(3,b3,m.map U64,119),(4,b4,(List.replicate 6 0#64).map U64,119),(5,b5,(MDs t m k).map U64,119),(33,c1,[.slice (spt b2) 12 12],58)]) (λ_ _ _=>False) trv (λk _ w' h=>⟨dC (n:=33) O O w' h,av (n:=2) O w' h⟩) ?_ ?_ (λ_ _ _ _ _ h=>h.elim)
  ·intro k x hx R hR
   obtain ⟨hk,rfl⟩:=Ko t 12 k x hx;rw[show 64*12-1-k=767-k from O];refine cv (E:=EE [319])<|Asg O<|aa<|?_;refine ⟨rfl,_,rfl, ?_⟩;exact au<|am (E:=EE [319])<|Lw 5 O O bU (iE _ _ _)<|Lw 5 O O bU (iE _ _ _)<|Ca O (pI _ _ (iE t m _) (iE t m _))<|Mv O<|Exq O O<|Exq O O<|iM 8 (hR (pl w) O hGF).2.1 zv119 O O<|λb8=>ai 8 (hR (pl w) O hGF).2.1 O O O sizeOf119 (by rw[List.length_map,bR]) (by rw[List.length_map,List.length_replicate]) (be _) O<|Asg O<|aa<|am (E:=EE [319])<|Ia (0) O O underlying119 sizeOf22<|Lmq 8 U64 0 O O isAgg22 (by rw[bR];omega)<|Mv O<|Bnr O O (λ_=>iW _ _ _)<|Ia (0) O O underlying119 sizeOf22<|bO 8 U64 (hR (pl w) O hGF).2.1 O O O sizeOf22 O (by rw[bR];omega) O<|aa<|cv (E:=EE [319])<|aq 8 O O isAgg119 sizeOf119 (by rw[List.length_map,List.length_set,bR]) O O<|Mv O<|Lw 3 O O bU hm<|Ca O (pA _ _ _ (ve _ _) hm)<|ai 5 (hR (pl w) O hGF).2.1 O O O sizeOf119 (by rw[List.length_map];exact jU _ _ _ (ve _ _)) (by rw[List.length_map,iE]) (be _) O<|aa<|⟨_,rfl,trv⟩
  ·intro D hD
   rw[fG];refine am (E:=EE [319])<|Lw 5 O O bU (iE _ _ _)<|Sw 4 hD O O O bU (iE _ _ _)<|aa<|ao<|Rr<|?_;exact iD (.inl O) aJ (aF 4 O O O isAgg119 sizeOf119 (by rw[List.length_map,iE]) (λw hw=>⟨by rw[MOD,if_neg hc],ae hw⟩))
end
section
open Go.RowKit
theorem vI(a:Option Addr)(cap:Nat)(bs:L8)(w:World)(hw:Gt w)(hby:BytesAt w a bs):
 CLS 210 [.slice a bs.length cap].toArray w (λe w'=>e=.returned (if 48<bs.length then .tuple #[bj (List.replicate 6 0#64),.bool false]else .tuple #[bj (FRs bs bs.length),.bool true])/\Grow w w'):=by
 refine Hf func210 O hw ?_;intro hGF;by_cases hA:48<bs.length
 ·refine Xp<|Al 2 hGF zv119<|λb2=>Asg O<|aa<|Xp<|Al 4 hGF zv119<|λb4=>aa<|ah<|Xp<|Mv O<|bB O (λ_=>aO underlying123 _ _ _ _) O O<|Bnr (v:=.bool true) O O (λ_=>(dE _ _ _).trans (by rw[decide_eq_true (by omega:((bs.length:Int)>48))]))<|aa<|aQ O<|Xp<|Lw 4 O O bU List.length_replicate<|Sw 2 hGF O O O bU List.length_replicate<|Asg O<|aa<|ao<|Rr<|?_
  exact co 2 O O O O isAgg119 sizeOf119 (by rw[List.length_map,List.length_replicate]) (λw hw=>⟨by rw[if_pos hA];rfl,ae hw⟩)
 ·refine Xp<|Al 2 hGF zv119<|λb2=>Asg O<|aa<|Xp<|Al 4 hGF zv119<|λb4=>aa<|ah<|Xp<|Mv O<|bB O (λ_=>aO underlying123 _ _ _ _) O O<|Bnr (v:=.bool false) O O (λ_=>(dE _ _ _).trans (by rw[decide_eq_false (by omega: ¬((bs.length:Int)>48))]))<|aa<|aH O<|aw<|ah<|Xp<|Mv O<|bB O (λ_=>aO underlying123 _ _ _ _) O O<|Mv O<|aa<|au<|bW (ι:={i:Nat // i<=bs.length}) (λx=>[(0,.slice a bs.length cap),(2,pnt b2),(4,pnt b4),(12,.slice a bs.length cap),(13,I (bs.length:Int)),(14,I (x.1:Int))]) (λx=>[(2,b2,(List.replicate 6 0#64).map U64,119),(4,b4,(FRs bs x.1).map U64,119)]) (λx=>bs.length-x.1) ⟨0,om⟩ hGF trv trv<|?_
  rintro ⟨i,hi⟩;dsimp only;refine Xp<|Bnr O O (λ_=>aI _ _ _)<|aa<|ah<|?_;refine cx O (λhc=> ?_) (λhc=> ?_)
  ·simp only[decide_eq_true_eq]at hc
   refine aw<|ah<|au<|Xp<|Mv O<|?_;obtain ⟨ad,rfl,_⟩:=hby i _ (gm U8 bs 0 i om);refine io i O O underlying123 sizeOf5 O om O O<|aT O isAgg5 (λw' h=>by obtain ⟨ad',e,hc⟩:=(hby.grow (ae h)) i _ (gm U8 bs 0 i om);cases e;exact hc) O O<|Asg O<|Asg O<|aa<|Xp<|Mv O<|bB O (λ_=>aO underlying123 _ _ _ _) O O<|Bnr (v:=I ((bs.length:Int)-1)) O O (λ_=>bC _ _ _ aG)<|Mv O<|Bnr (v:=I ((bs.length-1-i:Nat):Int)) O O (λ_=>(bC _ _ _ aG).trans (by rw[show ((bs.length:Int)-1-(i:Int))=((bs.length-1-i:Nat):Int) by omega]))<|Asg O<|aa<|Xe []<|Mv O<|Bnr (v:=I (((bs.length-1-i) / 8:Nat):Int)) O O (λ_=>gP _ _ _ aC (show inI (((bs.length-1-i) / 8:Nat):Int) by unfold inI;omega))<|Ia (((bs.length-1-i) / 8)) O O underlying119 sizeOf22<|Lmq 4 U64 0 O O isAgg22 (by rw[cH];omega)<|Mv O<|bI O O (λ_=>nU underlying5 underlying22 _) O O<|Mv O<|Bnr (v:=I (((bs.length-1-i) % 8:Nat):Int)) O O (λ_=>eu _ _ _ aC)<|dv (v:=I ((8*((bs.length-1-i) % 8):Nat):Int)) O O (λ_=>rfl) (λ_=>(bT _ _ _ aG).trans (by rw[show (8:Int)*(((bs.length-1-i) % 8:Nat):Int)=((8*((bs.length-1-i) % 8):Nat):Int) by omega])) O O<|dv (v:=U64 ((bs.getD i 0).setWidth 64<<<(8*((bs.length-1-i) % 8)))) O O (λ_=>rfl) (λ_=>lm _ _ _ om) O O<|Bnr O O (λ_=>iW _ _ _)<|Ia (((bs.length-1-i) / 8)) O O underlying119 sizeOf22<|bO 4 U64 hGF O O O sizeOf22 O (by rw[cH];omega) O<|aa<|Xq<|Bnr O O (λ_=>ay _ _ _ aG)<|Mv O<|aa<|?_
   repeat (refine bh ?_)
   exact aY<|⟨rfl,⟨i+1,om⟩,_,by show bs.length-(i+1)<bs.length-i;omega,rfl,trv,trv⟩
  ·obtain rfl:i=bs.length:=by simp at hc;omega
   refine bv<|Xp<|Lw 4 O O bU (cH _ _)<|Sw 2 hGF O O O bU (cH _ _)<|Asg O<|aa<|ao<|Rr<|?_;exact co 2 O O O O isAgg119 sizeOf119 (by rw[List.length_map,cH]) (λw hw=>⟨by rw[if_neg hA];rfl,ae hw⟩)
theorem tI(a:Option Addr)(cap:Nat)(bs:L8)(w:World)(hw:Gt w)(hby:BytesAt w a bs):
 CLS 175 [.slice a bs.length cap].toArray w (λe w'=>e=.returned (if 48<bs.length then .tuple #[bj (List.replicate 6 0#64),.bool false]else .tuple #[bj (FRs bs bs.length),.bool true])/\Grow w w'):=by
 refine Hf func175 O hw ?_;intro hGF;by_cases hA:48<bs.length
 ·refine Xp<|Al 2 hGF zv120<|λb2=>Asg O<|aa<|ah<|Xp<|Mv O<|bB O (λ_=>aO underlying123 _ _ _ _) O O<|Bnr (v:=.bool true) O O (λ_=>(dE _ _ _).trans (by rw[decide_eq_true (by omega:((bs.length:Int)>48))]))<|aa<|aQ O<|Xp<|ew zv120 underlying120 sizeOf22 O O<|Sw 2 hGF O O O cg List.length_replicate<|Asg O<|aa<|ao<|Rr<|?_
  exact co 2 O O O O isAgg120 sizeOf120 (by rw[List.length_map,List.length_replicate]) (λw hw=>⟨by rw[if_pos hA];rfl,ae hw⟩)
 ·refine Xp<|Al 2 hGF zv120<|λb2=>Asg O<|aa<|ah<|Xp<|Mv O<|bB O (λ_=>aO underlying123 _ _ _ _) O O<|Bnr (v:=.bool false) O O (λ_=>(dE _ _ _).trans (by rw[decide_eq_false (by omega: ¬((bs.length:Int)>48))]))<|aa<|aH O<|aw<|Xp<|Al 4 hGF zv120<|λb4=>aa<|ah<|Xp<|Asg O<|aa<|au<|bW (ι:={i:Nat // i<=bs.length}) (λx=>[(0,.slice a bs.length cap),(2,pnt b2),(4,pnt b4),(5,I (x.1:Int))]) (λx=>[(2,b2,(List.replicate 6 0#64).map U64,120),(4,b4,(FRs bs x.1).map U64,120)]) (λx=>bs.length-x.1) ⟨0,om⟩ hGF trv trv<|?_
  rintro ⟨i,hi⟩;dsimp only;refine ah<|Xp<|Mv O<|Mv O<|bB O (λ_=>aO underlying123 _ _ _ _) O O<|Bnr O O (λ_=>aI _ _ _)<|aa<|?_;refine cx O (λhc=> ?_) (λhc=> ?_)
  ·simp only[decide_eq_true_eq]at hc
   refine aw<|ah<|au<|Xp<|Mv O<|bB O (λ_=>aO underlying123 _ _ _ _) O O<|Bnr (v:=I ((bs.length:Int)-1)) O O (λ_=>bC _ _ _ aG)<|Mv O<|Bnr (v:=I ((bs.length-1-i:Nat):Int)) O O (λ_=>(bC _ _ _ aG).trans (by rw[show ((bs.length:Int)-1-(i:Int))=((bs.length-1-i:Nat):Int) by omega]))<|Asg O<|aa<|Xe []<|Mv O<|Bnr (v:=I (((bs.length-1-i) / 8:Nat):Int)) O O (λ_=>gP _ _ _ aC (show inI (((bs.length-1-i) / 8:Nat):Int) by unfold inI;omega))<|Ia (((bs.length-1-i) / 8)) O O underlying120 sizeOf22<|Lmq 4 U64 0 O O isAgg22 (by rw[cH];omega)<|Mv O<|Mv O<|?_
   obtain ⟨ad,rfl,_⟩:=hby i _ (gm U8 bs 0 i om);refine io i O O underlying123 sizeOf5 O om O O<|aT O isAgg5 (λw' h=>by obtain ⟨ad',e,hc⟩:=(hby.grow (ae h)) i _ (gm U8 bs 0 i om);cases e;exact hc) O O<|bI O O (λ_=>nU underlying5 underlying22 _) O O<|Mv O<|Bnr (v:=I (((bs.length-1-i) % 8:Nat):Int)) O O (λ_=>eu _ _ _ aC)<|dv (v:=I ((8*((bs.length-1-i) % 8):Nat):Int)) O O (λ_=>rfl) (λ_=>(bT _ _ _ aG).trans (by rw[show (8:Int)*(((bs.length-1-i) % 8:Nat):Int)=((8*((bs.length-1-i) % 8):Nat):Int) by omega])) O O<|dv (v:=U64 ((bs.getD i 0).setWidth 64<<<(8*((bs.length-1-i) % 8)))) O O (λ_=>rfl) (λ_=>lm _ _ _ om) O O<|Bnr O O (λ_=>iW _ _ _)<|Ia (((bs.length-1-i) / 8)) O O underlying120 sizeOf22<|bO 4 U64 hGF O O O sizeOf22 O (by rw[cH];omega) O<|aa<|Xq<|Mv O<|Bnr O O (λ_=>ay _ _ _ aG)<|Asg O<|aa<|?_
   repeat (refine bh ?_)
   exact aY<|⟨rfl,⟨i+1,om⟩,_,by show bs.length-(i+1)<bs.length-i;omega,rfl,trv,trv⟩
  ·obtain rfl:i=bs.length:=by simp at hc;omega
   refine bv<|Xp<|Lw 4 O O cg (cH _ _)<|Sw 2 hGF O O O cg (cH _ _)<|Asg O<|aa<|ao<|Rr<|?_;exact co 2 O O O O isAgg120 sizeOf120 (by rw[List.length_map,cH]) (λw hw=>⟨by rw[if_neg hA];rfl,ae hw⟩)
theorem sG(a:L6)(ha:a.length=6):PUR 291 [bj (a)] (.agg ((BYs a 48).map U8).toArray):=by
 intro w hw;refine Hf func291 O hw<|λhGF=>Xp<|Bx 1 hGF O<|λb1=>Al 2 hGF zv32<|λb2=>aa<|Xp<|Al 3 hGF zv32<|λb3=>aa<|ah<|Xp<|Mv O<|aa<|au<|bW (ι:={i:Nat // i<=48}) (λx=>[(1,pnt b1),(2,pnt b2),(3,pnt b3),(6,I (x.1:Int))]) (λx=>[(1,b1,a.map U64,119),(2,b2,(List.replicate 48 0#8).map U8,32),(3,b3,(BYs a x.1).map U8,32)]) (λx=>48-x.1) ⟨0,om⟩ hGF trv trv<|?_;rintro ⟨i,hi⟩;dsimp only;refine Xp<|Bnr O O (λ_=>aI _ _ _)<|aa<|ah<|?_;refine cx O (λhc=> ?_) (λhc=> ?_)
 ·simp only[decide_eq_true_eq]at hc
  refine aw<|ah<|au<|Xp<|Mv O<|Asg O<|aa<|Xp<|Mv O<|Bnr (v:=I ((47-i:Nat):Int)) O O (λ_=>(bC _ _ _ aG).trans (by rw[show ((47:Int)-(i:Int))=((47-i:Nat):Int) by omega]))<|Asg O<|aa<|Xq<|Mv O<|Mv O<|Bnr (v:=I (((47-i) / 8:Nat):Int)) O O (λ_=>gP _ _ _ aC (show inI (((47-i) / 8:Nat):Int) by unfold inI;omega))<|Ia (((47-i) / 8)) O O underlying119 sizeOf22<|Lmq 1 U64 0 O O isAgg22 (by rw[ha];omega)<|Mv O<|Bnr (v:=I (((47-i) % 8:Nat):Int)) O O (λ_=>eu _ _ _ aC)<|dv (v:=I ((8*((47-i) % 8):Nat):Int)) O O (λ_=>rfl) (λ_=>(bT _ _ _ aG).trans (by rw[show (8:Int)*(((47-i) % 8:Nat):Int)=((8*((47-i) % 8):Nat):Int) by omega])) O O<|dv (v:=U64 (a.getD ((47-i) / 8) 0>>>(8*((47-i) % 8)))) O O (λ_=>rfl) (λ_=>cB _ _ _ om) O O<|bI O O (λ_=>ci underlying22 underlying5 _) O O<|Ia (i) O O underlying32 sizeOf5<|bO 3 U8 hGF O O O sizeOf5 O (by rw[ce];omega) O<|aa<|Xq<|Bnr O O (λ_=>ay _ _ _ aG)<|Mv O<|aa<|?_
  repeat (refine bh ?_)
  exact aY<|⟨rfl,⟨i+1,om⟩,_,by show 48-(i+1)<48-i;omega,rfl,trv,trv⟩
 ·obtain rfl:i=48:=by simp at hc;omega
  refine bv<|Xp<|Lw 3 O O yI (ce _ _)<|Sx 2 hGF O O O yI (ce _ _) (bg _)<|aa<|ao<|Rr<|?_;exact aF 2 O O O isAgg32 sizeOf32 (by rw[List.length_map,ce]) (λw hw=>⟨rfl,ae hw⟩)
theorem fB(a:L6)(ha:a.length=6):PUR 104 [bj (a)] (.agg ((BYs a 48).map U8).toArray):=by
 intro w hw;refine Hf func104 O hw<|λhGF=>Xp<|Bx 1 hGF O<|λb1=>Al 2 hGF zv32<|λb2=>aa<|Xp<|Al 3 hGF zv32<|λb3=>aa<|ah<|Xp<|Asg O<|aa<|au<|bW (ι:={i:Nat // i<=48}) (λx=>[(1,pnt b1),(2,pnt b2),(3,pnt b3),(4,I (x.1:Int))]) (λx=>[(1,b1,a.map U64,120),(2,b2,(List.replicate 48 0#8).map U8,32),(3,b3,(BYs a x.1).map U8,32)]) (λx=>48-x.1) ⟨0,om⟩ hGF trv trv<|?_;rintro ⟨i,hi⟩;dsimp only;refine ah<|Xp<|Mv O<|Bnr O O (λ_=>aI _ _ _)<|aa<|?_;refine cx O (λhc=> ?_) (λhc=> ?_)
 ·simp only[decide_eq_true_eq]at hc
  refine aw<|ah<|au<|Xp<|Mv O<|Bnr (v:=I ((47-i:Nat):Int)) O O (λ_=>(bC _ _ _ aG).trans (by rw[show ((47:Int)-(i:Int))=((47-i:Nat):Int) by omega]))<|Asg O<|aa<|Xq<|Mv O<|Mv O<|Bnr (v:=I (((47-i) / 8:Nat):Int)) O O (λ_=>gP _ _ _ aC (show inI (((47-i) / 8:Nat):Int) by unfold inI;omega))<|Ia (((47-i) / 8)) O O underlying120 sizeOf22<|Lmq 1 U64 0 O O isAgg22 (by rw[ha];omega)<|Mv O<|Bnr (v:=I (((47-i) % 8:Nat):Int)) O O (λ_=>eu _ _ _ aC)<|dv (v:=I ((8*((47-i) % 8):Nat):Int)) O O (λ_=>rfl) (λ_=>(bT _ _ _ aG).trans (by rw[show (8:Int)*(((47-i) % 8:Nat):Int)=((8*((47-i) % 8):Nat):Int) by omega])) O O<|dv (v:=U64 (a.getD ((47-i) / 8) 0>>>(8*((47-i) % 8)))) O O (λ_=>rfl) (λ_=>cB _ _ _ om) O O<|bI O O (λ_=>ci underlying22 underlying5 _) O O<|Ia (i) O O underlying32 sizeOf5<|bO 3 U8 hGF O O O sizeOf5 O (by rw[ce];omega) O<|aa<|Xq<|Mv O<|Bnr O O (λ_=>ay _ _ _ aG)<|Asg O<|aa<|?_
  repeat (refine bh ?_)
  exact aY<|⟨rfl,⟨i+1,om⟩,_,by show 48-(i+1)<48-i;omega,rfl,trv,trv⟩
 ·obtain rfl:i=48:=by simp at hc;omega
  refine bv<|Xp<|Lw 3 O O yI (ce _ _)<|Sx 2 hGF O O O yI (ce _ _) (bg _)<|aa<|ao<|Rr<|?_;exact aF 2 O O O isAgg32 sizeOf32 (by rw[List.length_map,ce]) (λw hw=>⟨rfl,ae hw⟩)
end
section
open Go.RowKit
theorem dY(x y c s:BitVec 64)(hc:c.toNat<=1)(h:(ADC x y c).1=s)(w:World):(callFunc 133 [U64 x,U64 y,U64 c].toArray).run prog w=.ok (.value (.tuple #[U64 s,U64 (ADC x y c).2])) w:=by
 subst h;exact dR x y c hc w
theorem gO:PL.length=6:=rfl
theorem jo  :PUR 174 [] (bj (PL)):=by
 intro w hw;refine Hf func174 O hw<|λhGF=>Xp<|Al 0 hGF zv120<|λb0=>aa<|Xp<|dN (n:=6) (vs:=(PL).map U64) O O underlying120 sizeOf22 zeroValue120 O O O O<|Sw 0 hGF O O O cg gO<|aa<|ao<|Rr<|?_;exact aF 0 O O O isAgg120 sizeOf120 O (λw hw=>⟨rfl,ae hw⟩)
theorem yE  :PUR 234 [] (bj (ONE)):=by
 intro w hw;refine Hf func234 O hw<|λhGF=>Xp<|Al 0 hGF zv120<|λb0=>aa<|Xp<|dN (n:=6) (vs:=(ONE).map U64) O O underlying120 sizeOf22 zeroValue120 O O O O<|Sw 0 hGF O O O cg sR<|aa<|ao<|Rr<|?_;exact aF 0 O O O isAgg120 sizeOf120 O (λw hw=>⟨rfl,ae hw⟩)
theorem yc  :PUR 205 [] (bj (TWO)):=by
 intro w hw;refine Hf func205 O hw<|λhGF=>Xp<|Al 0 hGF zv120<|λb0=>aa<|Xp<|dN (n:=6) (vs:=(TWO).map U64) O O underlying120 sizeOf22 zeroValue120 O O O O<|Sw 0 hGF O O O cg sI<|aa<|ao<|Rr<|?_;exact aF 0 O O O isAgg120 sizeOf120 O (λw hw=>⟨rfl,ae hw⟩)
theorem lG(a b:L6)(ha:a.length=6)(hb:b.length=6):PUR 138 [bj (a),bj (b)] (bj (RM a b)):=by
 intro w hw;refine Hf func138 O hw ?_;intro hGF;by_cases h0:(SS (RT a b 6) PL 6).2=0
 ·refine Xp<|Bx 2 hGF O<|λb2=>Bx 3 hGF O<|λb3=>Al 4 hGF zv120<|λb4=>aa<|Xp<|Asg O<|Asg O<|Asg O<|Asg O<|Asg O<|Asg O<|aa<|ah<|Xp<|Asg O<|aa<|au<|bW (ι:={i:Nat // i<=6}) (λx=>[(2,pnt b2),(3,pnt b3),(4,pnt b4),(5,U64 ((RT a b x.1).getD 0 0)),(6,U64 ((RT a b x.1).getD 1 0)),(7,U64 ((RT a b x.1).getD 2 0)),(8,U64 ((RT a b x.1).getD 3 0)),(9,U64 ((RT a b x.1).getD 4 0)),(10,U64 ((RT a b x.1).getD 5 0)),(11,I (x.1:Int))]) (λx=>[(2,b2,a.map U64,120),(3,b3,b.map U64,120),(4,b4,(List.replicate 6 0#64).map U64,120)]) (λx=>6-x.1) ⟨0,om⟩ hGF trv trv<|?_
  rintro ⟨i,hi⟩;dsimp only;refine ah<|Xp<|Mv O<|Bnr O O (λ_=>aI _ _ _)<|aa<|?_;refine cx O (λhc=> ?_) (λhc=> ?_)
  ·simp only[decide_eq_true_eq]at hc
   refine aw<|ah<|au<|Xp<|Asg O<|Asg O<|Asg O<|Asg O<|aa<|Xp<|Mv O<|Ia (i) O O underlying120 sizeOf22<|Lmq 3 U64 0 O O isAgg22 (by rw[hb];omega)<|Asg O<|aa<|Xp<|Ia (0) O O underlying120 sizeOf22<|Lmq 2 U64 0 O O isAgg22 (by rw[ha];omega)<|Mv O<|Ca O (bY _ _)<|Mv O<|Exq O O<|Exq O O<|Asg O<|Asg O<|aa<|Xp<|Mv O<|Mv O<|bL O O (λw=>dY _ _ 0 _ aC (k1z (b.getD i 0) a (RT a b i)) w) O O<|Mv O<|Exq O O<|Exq O O<|Asg O<|Asg O<|aa<|Xp<|Mv O<|Mv O<|Bnr (v:=U64 (KC (b.getD i 0) a (RT a b i) 1)) O O (λw=>(aM _ _ _).trans (congrArg (λz=>Result.ok (U64 z) w) (k2z (b.getD i 0) a (RT a b i))))<|?_
   refine Asg O<|aa<|Xp<|Ia (1) O O underlying120 sizeOf22<|Lmq 2 U64 0 O O isAgg22 (by rw[ha];omega)<|Mv O<|Ca O (bY _ _)<|Mv O<|Exq O O<|Exq O O<|Asg O<|Asg O<|aa<|Xp<|Mv O<|Mv O<|bL O O (λw=>dR _ _ 0 aC w) O O<|Mv O<|Exq O O<|Exq O O<|Asg O<|Asg O<|aa<|Xp<|Mv O<|Mv O<|Bnr O O (λ_=>aM _ _ _)<|Asg O<|aa<|Xp<|Mv O<|Mv O<|bL O O (λw=>dY _ _ 0 _ aC (k1s (b.getD i 0) a (RT a b i) 1) w) O O<|Mv O<|Exq O O<|Exq O O<|Asg O<|Asg O<|aa<|Xp<|?_
   refine Mv O<|Mv O<|Bnr (v:=U64 (KC (b.getD i 0) a (RT a b i) 2)) O O (λw=>(aM _ _ _).trans (congrArg (λz=>Result.ok (U64 z) w) (k2s (b.getD i 0) a (RT a b i) 1)))<|Asg O<|aa<|Xp<|Ia (2) O O underlying120 sizeOf22<|Lmq 2 U64 0 O O isAgg22 (by rw[ha];omega)<|Mv O<|Ca O (bY _ _)<|Mv O<|Exq O O<|Exq O O<|Asg O<|Asg O<|aa<|Xp<|Mv O<|Mv O<|bL O O (λw=>dR _ _ 0 aC w) O O<|Mv O<|Exq O O<|Exq O O<|Asg O<|Asg O<|aa<|Xp<|Mv O<|Mv O<|Bnr O O (λ_=>aM _ _ _)<|Asg O<|aa<|Xp<|Mv O<|Mv O<|bL O O (λw=>dY _ _ 0 _ aC (k1s (b.getD i 0) a (RT a b i) 2) w) O O<|Mv O<|Exq O O<|Exq O O<|Asg O<|?_
   refine Asg O<|aa<|Xp<|Mv O<|Mv O<|Bnr (v:=U64 (KC (b.getD i 0) a (RT a b i) 3)) O O (λw=>(aM _ _ _).trans (congrArg (λz=>Result.ok (U64 z) w) (k2s (b.getD i 0) a (RT a b i) 2)))<|Asg O<|aa<|Xp<|Ia (3) O O underlying120 sizeOf22<|Lmq 2 U64 0 O O isAgg22 (by rw[ha];omega)<|Mv O<|Ca O (bY _ _)<|Mv O<|Exq O O<|Exq O O<|Asg O<|Asg O<|aa<|Xp<|Mv O<|Mv O<|bL O O (λw=>dR _ _ 0 aC w) O O<|Mv O<|Exq O O<|Exq O O<|Asg O<|Asg O<|aa<|Xp<|Mv O<|Mv O<|Bnr O O (λ_=>aM _ _ _)<|Asg O<|aa<|Xp<|Mv O<|Mv O<|bL O O (λw=>dY _ _ 0 _ aC (k1s (b.getD i 0) a (RT a b i) 3) w) O O<|Mv O<|?_
   refine Exq O O<|Exq O O<|Asg O<|Asg O<|aa<|Xp<|Mv O<|Mv O<|Bnr (v:=U64 (KC (b.getD i 0) a (RT a b i) 4)) O O (λw=>(aM _ _ _).trans (congrArg (λz=>Result.ok (U64 z) w) (k2s (b.getD i 0) a (RT a b i) 3)))<|Asg O<|aa<|Xp<|Ia (4) O O underlying120 sizeOf22<|Lmq 2 U64 0 O O isAgg22 (by rw[ha];omega)<|Mv O<|Ca O (bY _ _)<|Mv O<|Exq O O<|Exq O O<|Asg O<|Asg O<|aa<|Xp<|Mv O<|Mv O<|bL O O (λw=>dR _ _ 0 aC w) O O<|Mv O<|Exq O O<|Exq O O<|Asg O<|Asg O<|aa<|Xp<|Mv O<|Mv O<|Bnr O O (λ_=>aM _ _ _)<|Asg O<|aa<|Xp<|Mv O<|?_
   refine Mv O<|bL O O (λw=>dY _ _ 0 _ aC (k1s (b.getD i 0) a (RT a b i) 4) w) O O<|Mv O<|Exq O O<|Exq O O<|Asg O<|Asg O<|aa<|Xp<|Mv O<|Mv O<|Bnr (v:=U64 (KC (b.getD i 0) a (RT a b i) 5)) O O (λw=>(aM _ _ _).trans (congrArg (λz=>Result.ok (U64 z) w) (k2s (b.getD i 0) a (RT a b i) 4)))<|Asg O<|aa<|Xp<|Ia (5) O O underlying120 sizeOf22<|Lmq 2 U64 0 O O isAgg22 (by rw[ha];omega)<|Mv O<|Ca O (bY _ _)<|Mv O<|Exq O O<|Exq O O<|Asg O<|Asg O<|aa<|Xp<|Mv O<|Mv O<|bL O O (λw=>dR _ _ 0 aC w) O O<|Mv O<|Exq O O<|Exq O O<|Asg O<|Asg O<|aa<|Xp<|Mv O<|Mv O<|Bnr O O (λ_=>aM _ _ _)<|Asg O<|?_
   refine aa<|Xp<|Mv O<|Mv O<|bL O O (λw=>dY _ _ 0 _ aC (k1s (b.getD i 0) a (RT a b i) 5) w) O O<|Mv O<|Exq O O<|Exq O O<|Asg O<|Asg O<|aa<|Xp<|Mv O<|Mv O<|Bnr (v:=U64 (KC (b.getD i 0) a (RT a b i) 6)) O O (λw=>(aM _ _ _).trans (congrArg (λz=>Result.ok (U64 z) w) (k2s (b.getD i 0) a (RT a b i) 5)))<|Asg O<|aa<|Xp<|Mv O<|Asg O<|aa<|Xp<|Mv O<|Bnr (v:=U64 (KT (b.getD i 0) a (RT a b i) 0*INV)) O O (λw=>cy _ _ INV)<|Asg O<|aa<|Xp<|Mv O<|Ca O (bY _ (PL.getD 0 0))<|Mv O<|Exq O O<|Exq O O<|Asg O<|Asg O<|aa<|Xp<|Mv O<|Mv O<|bL O O (λw=>dR _ _ 0 aC w) O O<|Mv O<|?_;refine Exq O O<|Exq O O<|Asg O<|aa<|Xp<|Mv O<|Mv O<|Bnr (v:=U64 (KD (KT (b.getD i 0) a (RT a b i) 0*INV) PL (T1 (b.getD i 0) a (RT a b i)) 0)) O O (λw=>(aM _ _ _).trans (congrArg (λz=>Result.ok (U64 z) w) (d2z (b.getD i 0) (KT (b.getD i 0) a (RT a b i) 0*INV) a (RT a b i))))<|Asg O<|aa<|Xp<|Mv O<|Ca O (bY _ (PL.getD 1 0))<|Mv O<|Exq O O<|Exq O O<|Asg O<|Asg O<|aa<|Xp<|Mv O<|Mv O<|bL O O (λw=>dR _ _ 0 aC w) O O<|Mv O<|Exq O O<|Exq O O<|Asg O<|Asg O<|aa<|Xp<|Mv O<|Mv O<|Bnr O O (λ_=>aM _ _ _)<|Asg O<|aa<|Xp<|Mv O<|Mv O<|bL O O (λw=>dY _ _ 0 _ aC (d1s (b.getD i 0) (KT (b.getD i 0) a (RT a b i) 0*INV) a (RT a b i) 0 aC) w) O O<|Mv O<|?_;refine Exq O O<|Exq O O<|Asg O<|Asg O<|aa<|Xp<|Mv O<|Mv O<|Bnr (v:=U64 (KD (KT (b.getD i 0) a (RT a b i) 0*INV) PL (T1 (b.getD i 0) a (RT a b i)) 1)) O O (λw=>(aM _ _ _).trans (congrArg (λz=>Result.ok (U64 z) w) (d2s (b.getD i 0) (KT (b.getD i 0) a (RT a b i) 0*INV) a (RT a b i) 0 aC)))<|Asg O<|aa<|Xp<|Mv O<|Ca O (bY _ (PL.getD 2 0))<|Mv O<|Exq O O<|Exq O O<|Asg O<|Asg O<|aa<|Xp<|Mv O<|Mv O<|bL O O (λw=>dR _ _ 0 aC w) O O<|Mv O<|Exq O O<|Exq O O<|Asg O<|Asg O<|aa<|Xp<|Mv O<|Mv O<|Bnr O O (λ_=>aM _ _ _)<|Asg O<|aa<|Xp<|Mv O<|Mv O<|bL O O (λw=>dY _ _ 0 _ aC (d1s (b.getD i 0) (KT (b.getD i 0) a (RT a b i) 0*INV) a (RT a b i) 1 aC) w) O O<|?_;refine Mv O<|Exq O O<|Exq O O<|Asg O<|Asg O<|aa<|Xp<|Mv O<|Mv O<|Bnr (v:=U64 (KD (KT (b.getD i 0) a (RT a b i) 0*INV) PL (T1 (b.getD i 0) a (RT a b i)) 2)) O O (λw=>(aM _ _ _).trans (congrArg (λz=>Result.ok (U64 z) w) (d2s (b.getD i 0) (KT (b.getD i 0) a (RT a b i) 0*INV) a (RT a b i) 1 aC)))<|Asg O<|aa<|Xp<|Mv O<|Ca O (bY _ (PL.getD 3 0))<|Mv O<|Exq O O<|Exq O O<|Asg O<|Asg O<|aa<|Xp<|Mv O<|Mv O<|bL O O (λw=>dR _ _ 0 aC w) O O<|Mv O<|Exq O O<|Exq O O<|Asg O<|Asg O<|aa<|Xp<|Mv O<|Mv O<|Bnr O O (λ_=>aM _ _ _)<|Asg O<|aa<|Xp<|Mv O<|Mv O<|?_;refine bL O O (λw=>dY _ _ 0 _ aC (d1s (b.getD i 0) (KT (b.getD i 0) a (RT a b i) 0*INV) a (RT a b i) 2 aC) w) O O<|Mv O<|Exq O O<|Exq O O<|Asg O<|Asg O<|aa<|Xp<|Mv O<|Mv O<|Bnr (v:=U64 (KD (KT (b.getD i 0) a (RT a b i) 0*INV) PL (T1 (b.getD i 0) a (RT a b i)) 3)) O O (λw=>(aM _ _ _).trans (congrArg (λz=>Result.ok (U64 z) w) (d2s (b.getD i 0) (KT (b.getD i 0) a (RT a b i) 0*INV) a (RT a b i) 2 aC)))<|Asg O<|aa<|Xp<|Mv O<|Ca O (bY _ (PL.getD 4 0))<|Mv O<|Exq O O<|Exq O O<|Asg O<|Asg O<|aa<|Xp<|Mv O<|Mv O<|bL O O (λw=>dR _ _ 0 aC w) O O<|Mv O<|Exq O O<|Exq O O<|Asg O<|Asg O<|aa<|Xp<|Mv O<|Mv O<|Bnr O O (λ_=>aM _ _ _)<|Asg O<|aa<|Xp<|Mv O<|?_;refine Mv O<|bL O O (λw=>dY _ _ 0 _ aC (d1s (b.getD i 0) (KT (b.getD i 0) a (RT a b i) 0*INV) a (RT a b i) 3 aC) w) O O<|Mv O<|Exq O O<|Exq O O<|Asg O<|Asg O<|aa<|Xp<|Mv O<|Mv O<|Bnr (v:=U64 (KD (KT (b.getD i 0) a (RT a b i) 0*INV) PL (T1 (b.getD i 0) a (RT a b i)) 4)) O O (λw=>(aM _ _ _).trans (congrArg (λz=>Result.ok (U64 z) w) (d2s (b.getD i 0) (KT (b.getD i 0) a (RT a b i) 0*INV) a (RT a b i) 3 aC)))<|Asg O<|aa<|Xp<|Mv O<|Ca O (bY _ (PL.getD 5 0))<|Mv O<|Exq O O<|Exq O O<|Asg O<|Asg O<|aa<|Xp<|Mv O<|Mv O<|bL O O (λw=>dR _ _ 0 aC w) O O<|Mv O<|Exq O O<|Exq O O<|Asg O<|Asg O<|aa<|Xp<|Mv O<|Mv O<|Bnr O O (λ_=>aM _ _ _)<|Asg O<|aa<|Xp<|?_;refine Mv O<|Mv O<|bL O O (λw=>dY _ _ 0 _ aC (d1s (b.getD i 0) (KT (b.getD i 0) a (RT a b i) 0*INV) a (RT a b i) 4 aC) w) O O<|Mv O<|Exq O O<|Exq O O<|Asg O<|Asg O<|aa<|Xp<|Mv O<|Mv O<|Bnr (v:=U64 (KD (KT (b.getD i 0) a (RT a b i) 0*INV) PL (T1 (b.getD i 0) a (RT a b i)) 5)) O O (λw=>(aM _ _ _).trans (congrArg (λz=>Result.ok (U64 z) w) (d2s (b.getD i 0) (KT (b.getD i 0) a (RT a b i) 0*INV) a (RT a b i) 4 aC)))<|Asg O<|aa<|Xq<|Mv O<|Mv O<|Bnr O O (λ_=>aM _ _ _)<|Asg O<|aa<|Xq<|Mv O<|Bnr O O (λ_=>ay _ _ _ aG)<|Asg O<|aa<|?_
   repeat (refine bh ?_)
   exact aY<|⟨rfl,⟨i+1,om⟩,_,by show 6-(i+1)<6-i;omega,rfl,⟨rfl,rfl,rfl,congrArg (λz=>some (U64 z)) (qy a b i 0 aC).symm,congrArg (λz=>some (U64 z)) (qy a b i 1 aC).symm,congrArg (λz=>some (U64 z)) (qy a b i 2 aC).symm,congrArg (λz=>some (U64 z)) (qy a b i 3 aC).symm,congrArg (λz=>some (U64 z)) (qy a b i 4 aC).symm,congrArg (λz=>some (U64 z)) (BB a b i).symm,rfl,trivial⟩,trv⟩
  ·obtain rfl:i=6:=by simp at hc;omega
   refine bv<|Xp<|Mv O<|Mv O<|Mv O<|Mv O<|Mv O<|Mv O<|dN (n:=6) (vs:=(RT a b 6).map U64) (congrArg some (xq (RT a b 6) (fR _ _ _))) O underlying120 sizeOf22 zeroValue120 (by rw[List.length_map,fR];rfl) (be _) O O<|Al 19 hGF zv120<|λb19=>Sw 19 hGF O O O cg (fR _ _ _)<|aa<|ah<|Xa [0,1,2,3,4,5] ⟨6,20,120,(List.replicate 6 0#64).map U64⟩ [7,8] (bH O zv120 O)<|Lw 19 O O cg (fR _ _ _)<|Ca O (jo)<|Ca O (el _ _ (fR _ _ _) O)<|Mv O<|Exq O O<|Exq O O<|aa<|?_
   refine ⟨_,_,rfl,hGF,by intro x hx;simp only[List.mem_cons,List.not_mem_nil,or_false]at hx;subst hx;rfl,by intro x hx;simp only[List.mem_cons,List.not_mem_nil,or_false]at hx;subst hx;rfl,λadr=> ?_⟩
   refine Sw 20 hGF O O O cg (bz _ _ _)<|Asg O<|aa<|Xp<|Mv O<|Bnr (v:=.bool true) O O (λw=>(bA _ _ _).trans (congrArg (λb=>Result.ok (Value.bool b) w) (beq_iff_eq.2 h0)))<|aa<|aQ O<|Xq<|Lw 20 O O cg (bz _ _ _)<|ai 19 hGF O O O sizeOf120 (by rw[List.length_map,bz _ _ _]) (by rw[List.length_map,fR _ _ _]) (be _) O<|aa<|Xp<|Lw 19 O O cg (bz _ _ _)<|Sw 4 hGF O O O cg (bz _ _ _)<|aa<|ao<|Rr<|?_
   exact aF 4 O O O isAgg120 sizeOf120 (by rw[List.length_map,bz]) (λw hw=>⟨by rw[RM,if_pos h0],ae hw⟩)
 ·refine Xp<|Bx 2 hGF O<|λb2=>Bx 3 hGF O<|λb3=>Al 4 hGF zv120<|λb4=>aa<|Xp<|Asg O<|Asg O<|Asg O<|Asg O<|Asg O<|Asg O<|aa<|ah<|Xp<|Asg O<|aa<|au<|bW (ι:={i:Nat // i<=6}) (λx=>[(2,pnt b2),(3,pnt b3),(4,pnt b4),(5,U64 ((RT a b x.1).getD 0 0)),(6,U64 ((RT a b x.1).getD 1 0)),(7,U64 ((RT a b x.1).getD 2 0)),(8,U64 ((RT a b x.1).getD 3 0)),(9,U64 ((RT a b x.1).getD 4 0)),(10,U64 ((RT a b x.1).getD 5 0)),(11,I (x.1:Int))]) (λx=>[(2,b2,a.map U64,120),(3,b3,b.map U64,120),(4,b4,(List.replicate 6 0#64).map U64,120)]) (λx=>6-x.1) ⟨0,om⟩ hGF trv trv<|?_
  rintro ⟨i,hi⟩;dsimp only;refine ah<|Xp<|Mv O<|Bnr O O (λ_=>aI _ _ _)<|aa<|?_;refine cx O (λhc=> ?_) (λhc=> ?_)
  ·simp only[decide_eq_true_eq]at hc
   refine aw<|ah<|au<|Xp<|Asg O<|Asg O<|Asg O<|Asg O<|aa<|Xp<|Mv O<|Ia (i) O O underlying120 sizeOf22<|Lmq 3 U64 0 O O isAgg22 (by rw[hb];omega)<|Asg O<|aa<|Xp<|Ia (0) O O underlying120 sizeOf22<|Lmq 2 U64 0 O O isAgg22 (by rw[ha];omega)<|Mv O<|Ca O (bY _ _)<|Mv O<|Exq O O<|Exq O O<|Asg O<|Asg O<|aa<|Xp<|Mv O<|Mv O<|bL O O (λw=>dY _ _ 0 _ aC (k1z (b.getD i 0) a (RT a b i)) w) O O<|Mv O<|Exq O O<|Exq O O<|Asg O<|Asg O<|aa<|Xp<|Mv O<|Mv O<|Bnr (v:=U64 (KC (b.getD i 0) a (RT a b i) 1)) O O (λw=>(aM _ _ _).trans (congrArg (λz=>Result.ok (U64 z) w) (k2z (b.getD i 0) a (RT a b i))))<|?_
   refine Asg O<|aa<|Xp<|Ia (1) O O underlying120 sizeOf22<|Lmq 2 U64 0 O O isAgg22 (by rw[ha];omega)<|Mv O<|Ca O (bY _ _)<|Mv O<|Exq O O<|Exq O O<|Asg O<|Asg O<|aa<|Xp<|Mv O<|Mv O<|bL O O (λw=>dR _ _ 0 aC w) O O<|Mv O<|Exq O O<|Exq O O<|Asg O<|Asg O<|aa<|Xp<|Mv O<|Mv O<|Bnr O O (λ_=>aM _ _ _)<|Asg O<|aa<|Xp<|Mv O<|Mv O<|bL O O (λw=>dY _ _ 0 _ aC (k1s (b.getD i 0) a (RT a b i) 1) w) O O<|Mv O<|Exq O O<|Exq O O<|Asg O<|Asg O<|aa<|Xp<|?_
   refine Mv O<|Mv O<|Bnr (v:=U64 (KC (b.getD i 0) a (RT a b i) 2)) O O (λw=>(aM _ _ _).trans (congrArg (λz=>Result.ok (U64 z) w) (k2s (b.getD i 0) a (RT a b i) 1)))<|Asg O<|aa<|Xp<|Ia (2) O O underlying120 sizeOf22<|Lmq 2 U64 0 O O isAgg22 (by rw[ha];omega)<|Mv O<|Ca O (bY _ _)<|Mv O<|Exq O O<|Exq O O<|Asg O<|Asg O<|aa<|Xp<|Mv O<|Mv O<|bL O O (λw=>dR _ _ 0 aC w) O O<|Mv O<|Exq O O<|Exq O O<|Asg O<|Asg O<|aa<|Xp<|Mv O<|Mv O<|Bnr O O (λ_=>aM _ _ _)<|Asg O<|aa<|Xp<|Mv O<|Mv O<|bL O O (λw=>dY _ _ 0 _ aC (k1s (b.getD i 0) a (RT a b i) 2) w) O O<|Mv O<|Exq O O<|Exq O O<|Asg O<|?_
   refine Asg O<|aa<|Xp<|Mv O<|Mv O<|Bnr (v:=U64 (KC (b.getD i 0) a (RT a b i) 3)) O O (λw=>(aM _ _ _).trans (congrArg (λz=>Result.ok (U64 z) w) (k2s (b.getD i 0) a (RT a b i) 2)))<|Asg O<|aa<|Xp<|Ia (3) O O underlying120 sizeOf22<|Lmq 2 U64 0 O O isAgg22 (by rw[ha];omega)<|Mv O<|Ca O (bY _ _)<|Mv O<|Exq O O<|Exq O O<|Asg O<|Asg O<|aa<|Xp<|Mv O<|Mv O<|bL O O (λw=>dR _ _ 0 aC w) O O<|Mv O<|Exq O O<|Exq O O<|Asg O<|Asg O<|aa<|Xp<|Mv O<|Mv O<|Bnr O O (λ_=>aM _ _ _)<|Asg O<|aa<|Xp<|Mv O<|Mv O<|bL O O (λw=>dY _ _ 0 _ aC (k1s (b.getD i 0) a (RT a b i) 3) w) O O<|Mv O<|?_
   refine Exq O O<|Exq O O<|Asg O<|Asg O<|aa<|Xp<|Mv O<|Mv O<|Bnr (v:=U64 (KC (b.getD i 0) a (RT a b i) 4)) O O (λw=>(aM _ _ _).trans (congrArg (λz=>Result.ok (U64 z) w) (k2s (b.getD i 0) a (RT a b i) 3)))<|Asg O<|aa<|Xp<|Ia (4) O O underlying120 sizeOf22<|Lmq 2 U64 0 O O isAgg22 (by rw[ha];omega)<|Mv O<|Ca O (bY _ _)<|Mv O<|Exq O O<|Exq O O<|Asg O<|Asg O<|aa<|Xp<|Mv O<|Mv O<|bL O O (λw=>dR _ _ 0 aC w) O O<|Mv O<|Exq O O<|Exq O O<|Asg O<|Asg O<|aa<|Xp<|Mv O<|Mv O<|Bnr O O (λ_=>aM _ _ _)<|Asg O<|aa<|Xp<|Mv O<|?_
   refine Mv O<|bL O O (λw=>dY _ _ 0 _ aC (k1s (b.getD i 0) a (RT a b i) 4) w) O O<|Mv O<|Exq O O<|Exq O O<|Asg O<|Asg O<|aa<|Xp<|Mv O<|Mv O<|Bnr (v:=U64 (KC (b.getD i 0) a (RT a b i) 5)) O O (λw=>(aM _ _ _).trans (congrArg (λz=>Result.ok (U64 z) w) (k2s (b.getD i 0) a (RT a b i) 4)))<|Asg O<|aa<|Xp<|Ia (5) O O underlying120 sizeOf22<|Lmq 2 U64 0 O O isAgg22 (by rw[ha];omega)<|Mv O<|Ca O (bY _ _)<|Mv O<|Exq O O<|Exq O O<|Asg O<|Asg O<|aa<|Xp<|Mv O<|Mv O<|bL O O (λw=>dR _ _ 0 aC w) O O<|Mv O<|Exq O O<|Exq O O<|Asg O<|Asg O<|aa<|Xp<|Mv O<|Mv O<|Bnr O O (λ_=>aM _ _ _)<|Asg O<|?_
   refine aa<|Xp<|Mv O<|Mv O<|bL O O (λw=>dY _ _ 0 _ aC (k1s (b.getD i 0) a (RT a b i) 5) w) O O<|Mv O<|Exq O O<|Exq O O<|Asg O<|Asg O<|aa<|Xp<|Mv O<|Mv O<|Bnr (v:=U64 (KC (b.getD i 0) a (RT a b i) 6)) O O (λw=>(aM _ _ _).trans (congrArg (λz=>Result.ok (U64 z) w) (k2s (b.getD i 0) a (RT a b i) 5)))<|Asg O<|aa<|Xp<|Mv O<|Asg O<|aa<|Xp<|Mv O<|Bnr (v:=U64 (KT (b.getD i 0) a (RT a b i) 0*INV)) O O (λw=>cy _ _ INV)<|Asg O<|aa<|Xp<|Mv O<|Ca O (bY _ (PL.getD 0 0))<|Mv O<|Exq O O<|Exq O O<|Asg O<|Asg O<|aa<|Xp<|Mv O<|Mv O<|bL O O (λw=>dR _ _ 0 aC w) O O<|Mv O<|?_;refine Exq O O<|Exq O O<|Asg O<|aa<|Xp<|Mv O<|Mv O<|Bnr (v:=U64 (KD (KT (b.getD i 0) a (RT a b i) 0*INV) PL (T1 (b.getD i 0) a (RT a b i)) 0)) O O (λw=>(aM _ _ _).trans (congrArg (λz=>Result.ok (U64 z) w) (d2z (b.getD i 0) (KT (b.getD i 0) a (RT a b i) 0*INV) a (RT a b i))))<|Asg O<|aa<|Xp<|Mv O<|Ca O (bY _ (PL.getD 1 0))<|Mv O<|Exq O O<|Exq O O<|Asg O<|Asg O<|aa<|Xp<|Mv O<|Mv O<|bL O O (λw=>dR _ _ 0 aC w) O O<|Mv O<|Exq O O<|Exq O O<|Asg O<|Asg O<|aa<|Xp<|Mv O<|Mv O<|Bnr O O (λ_=>aM _ _ _)<|Asg O<|aa<|Xp<|Mv O<|Mv O<|bL O O (λw=>dY _ _ 0 _ aC (d1s (b.getD i 0) (KT (b.getD i 0) a (RT a b i) 0*INV) a (RT a b i) 0 aC) w) O O<|Mv O<|?_;refine Exq O O<|Exq O O<|Asg O<|Asg O<|aa<|Xp<|Mv O<|Mv O<|Bnr (v:=U64 (KD (KT (b.getD i 0) a (RT a b i) 0*INV) PL (T1 (b.getD i 0) a (RT a b i)) 1)) O O (λw=>(aM _ _ _).trans (congrArg (λz=>Result.ok (U64 z) w) (d2s (b.getD i 0) (KT (b.getD i 0) a (RT a b i) 0*INV) a (RT a b i) 0 aC)))<|Asg O<|aa<|Xp<|Mv O<|Ca O (bY _ (PL.getD 2 0))<|Mv O<|Exq O O<|Exq O O<|Asg O<|Asg O<|aa<|Xp<|Mv O<|Mv O<|bL O O (λw=>dR _ _ 0 aC w) O O<|Mv O<|Exq O O<|Exq O O<|Asg O<|Asg O<|aa<|Xp<|Mv O<|Mv O<|Bnr O O (λ_=>aM _ _ _)<|Asg O<|aa<|Xp<|Mv O<|Mv O<|bL O O (λw=>dY _ _ 0 _ aC (d1s (b.getD i 0) (KT (b.getD i 0) a (RT a b i) 0*INV) a (RT a b i) 1 aC) w) O O<|?_;refine Mv O<|Exq O O<|Exq O O<|Asg O<|Asg O<|aa<|Xp<|Mv O<|Mv O<|Bnr (v:=U64 (KD (KT (b.getD i 0) a (RT a b i) 0*INV) PL (T1 (b.getD i 0) a (RT a b i)) 2)) O O (λw=>(aM _ _ _).trans (congrArg (λz=>Result.ok (U64 z) w) (d2s (b.getD i 0) (KT (b.getD i 0) a (RT a b i) 0*INV) a (RT a b i) 1 aC)))<|Asg O<|aa<|Xp<|Mv O<|Ca O (bY _ (PL.getD 3 0))<|Mv O<|Exq O O<|Exq O O<|Asg O<|Asg O<|aa<|Xp<|Mv O<|Mv O<|bL O O (λw=>dR _ _ 0 aC w) O O<|Mv O<|Exq O O<|Exq O O<|Asg O<|Asg O<|aa<|Xp<|Mv O<|Mv O<|Bnr O O (λ_=>aM _ _ _)<|Asg O<|aa<|Xp<|Mv O<|Mv O<|?_;refine bL O O (λw=>dY _ _ 0 _ aC (d1s (b.getD i 0) (KT (b.getD i 0) a (RT a b i) 0*INV) a (RT a b i) 2 aC) w) O O<|Mv O<|Exq O O<|Exq O O<|Asg O<|Asg O<|aa<|Xp<|Mv O<|Mv O<|Bnr (v:=U64 (KD (KT (b.getD i 0) a (RT a b i) 0*INV) PL (T1 (b.getD i 0) a (RT a b i)) 3)) O O (λw=>(aM _ _ _).trans (congrArg (λz=>Result.ok (U64 z) w) (d2s (b.getD i 0) (KT (b.getD i 0) a (RT a b i) 0*INV) a (RT a b i) 2 aC)))<|Asg O<|aa<|Xp<|Mv O<|Ca O (bY _ (PL.getD 4 0))<|Mv O<|Exq O O<|Exq O O<|Asg O<|Asg O<|aa<|Xp<|Mv O<|Mv O<|bL O O (λw=>dR _ _ 0 aC w) O O<|Mv O<|Exq O O<|Exq O O<|Asg O<|Asg O<|aa<|Xp<|Mv O<|Mv O<|Bnr O O (λ_=>aM _ _ _)<|Asg O<|aa<|Xp<|Mv O<|?_;refine Mv O<|bL O O (λw=>dY _ _ 0 _ aC (d1s (b.getD i 0) (KT (b.getD i 0) a (RT a b i) 0*INV) a (RT a b i) 3 aC) w) O O<|Mv O<|Exq O O<|Exq O O<|Asg O<|Asg O<|aa<|Xp<|Mv O<|Mv O<|Bnr (v:=U64 (KD (KT (b.getD i 0) a (RT a b i) 0*INV) PL (T1 (b.getD i 0) a (RT a b i)) 4)) O O (λw=>(aM _ _ _).trans (congrArg (λz=>Result.ok (U64 z) w) (d2s (b.getD i 0) (KT (b.getD i 0) a (RT a b i) 0*INV) a (RT a b i) 3 aC)))<|Asg O<|aa<|Xp<|Mv O<|Ca O (bY _ (PL.getD 5 0))<|Mv O<|Exq O O<|Exq O O<|Asg O<|Asg O<|aa<|Xp<|Mv O<|Mv O<|bL O O (λw=>dR _ _ 0 aC w) O O<|Mv O<|Exq O O<|Exq O O<|Asg O<|Asg O<|aa<|Xp<|Mv O<|Mv O<|Bnr O O (λ_=>aM _ _ _)<|Asg O<|aa<|Xp<|?_;refine Mv O<|Mv O<|bL O O (λw=>dY _ _ 0 _ aC (d1s (b.getD i 0) (KT (b.getD i 0) a (RT a b i) 0*INV) a (RT a b i) 4 aC) w) O O<|Mv O<|Exq O O<|Exq O O<|Asg O<|Asg O<|aa<|Xp<|Mv O<|Mv O<|Bnr (v:=U64 (KD (KT (b.getD i 0) a (RT a b i) 0*INV) PL (T1 (b.getD i 0) a (RT a b i)) 5)) O O (λw=>(aM _ _ _).trans (congrArg (λz=>Result.ok (U64 z) w) (d2s (b.getD i 0) (KT (b.getD i 0) a (RT a b i) 0*INV) a (RT a b i) 4 aC)))<|Asg O<|aa<|Xq<|Mv O<|Mv O<|Bnr O O (λ_=>aM _ _ _)<|Asg O<|aa<|Xq<|Mv O<|Bnr O O (λ_=>ay _ _ _ aG)<|Asg O<|aa<|?_
   repeat (refine bh ?_)
   exact aY<|⟨rfl,⟨i+1,om⟩,_,by show 6-(i+1)<6-i;omega,rfl,⟨rfl,rfl,rfl,congrArg (λz=>some (U64 z)) (qy a b i 0 aC).symm,congrArg (λz=>some (U64 z)) (qy a b i 1 aC).symm,congrArg (λz=>some (U64 z)) (qy a b i 2 aC).symm,congrArg (λz=>some (U64 z)) (qy a b i 3 aC).symm,congrArg (λz=>some (U64 z)) (qy a b i 4 aC).symm,congrArg (λz=>some (U64 z)) (BB a b i).symm,rfl,trivial⟩,trv⟩
  ·obtain rfl:i=6:=by simp at hc;omega
   refine bv<|Xp<|Mv O<|Mv O<|Mv O<|Mv O<|Mv O<|Mv O<|dN (n:=6) (vs:=(RT a b 6).map U64) (congrArg some (xq (RT a b 6) (fR _ _ _))) O underlying120 sizeOf22 zeroValue120 (by rw[List.length_map,fR];rfl) (be _) O O<|Al 19 hGF zv120<|λb19=>Sw 19 hGF O O O cg (fR _ _ _)<|aa<|ah<|Xa [0,1,2,3,4,5] ⟨6,20,120,(List.replicate 6 0#64).map U64⟩ [7,8] (bH O zv120 O)<|Lw 19 O O cg (fR _ _ _)<|Ca O (jo)<|Ca O (el _ _ (fR _ _ _) O)<|Mv O<|Exq O O<|Exq O O<|aa<|?_
   refine ⟨_,_,rfl,hGF,by intro x hx;simp only[List.mem_cons,List.not_mem_nil,or_false]at hx;subst hx;rfl,by intro x hx;simp only[List.mem_cons,List.not_mem_nil,or_false]at hx;subst hx;rfl,λadr=> ?_⟩
   refine Sw 20 hGF O O O cg (bz _ _ _)<|Asg O<|aa<|Xp<|Mv O<|Bnr (v:=.bool false) O O (λw=>(bA _ _ _).trans (congrArg (λb=>Result.ok (Value.bool b) w) (beq_eq_false_iff_ne.2 h0)))<|aa<|aH O<|aw<|Xp<|Lw 19 O O cg (fR _ _ _)<|Sw 4 hGF O O O cg (fR _ _ _)<|aa<|ao<|Rr<|?_;exact aF 4 O O O isAgg120 sizeOf120 (by rw[List.length_map,fR]) (λw hw=>⟨by rw[RM,if_neg h0],ae hw⟩)
end
section
open Go.RowKit
theorem ent139:aL prog 139:=λ_ _=>kr
theorem ent171:aL prog 171:=λ_ _=>kr
theorem zv126(w:World):(zeroValue 126).run prog w=.ok (bj (List.replicate 6 (0#64))) w:=(zeroValue126 w).trans aE
def ib(a b:L6):L6:=if 1873798617647539866#64<=(AS a b 6).1.getD 5 0/\(SS (AS a b 6).1 PL 6).2=0 then (SS (AS a b 6).1 PL 6).1 else (AS a b 6).1
def lC(a b:L6):L6:=if (SS a b 6).2=1 then (AS (SS a b 6).1 PL 6).1 else (SS a b 6).1
def qG(a:L6):L6:=if a=List.replicate 6 0 then a else (SS PL a 6).1
theorem iU(a b:L6):(ib a b).length=6:=by
 unfold ib;split
 ·exact bz _ _ _
 ·exact bR _ _ _
theorem jE(a b:L6):(lC a b).length=6:=by
 unfold lC;split
 ·exact bR _ _ _
 ·exact bz _ _ _
theorem mq(a:L6)(h:a.length=6):(qG a).length=6:=by
 unfold qG;split
 ·exact h
 ·exact bz _ _ _
theorem ql(a:L6)(ha:a.length=6):PUR 178 [bj (a)] (bj (RM a TWO)):=by
 intro w hw;refine Hf func178 O hw<|λhGF=>Xp<|Bx 1 hGF O<|λb1=>Al 2 hGF zv126<|λb2=>aa<|Xd []<|Lw 1 O O cg ha<|Ca O (yc)<|Ca O (lG _ _ ha sI)<|du O (cG _ _) underlying126 O sizeOf120 zv126 O O<|Sw 2 hGF O O O eF (cG _ _)<|aa<|ao<|Rr<|?_;exact aF 2 O O O isAgg126 sizeOf126 (by rw[List.length_map,cG]) (λw hw=>⟨rfl,ae hw⟩)
theorem j3(a:L6)(ha:a.length=6):PUR 105 [bj (a)] (bj (RM a N1)):=by
 intro w hw;refine Hf func105 O hw<|λhGF=>Xp<|Bx 1 hGF O<|λb1=>Al 2 hGF zv120<|λb2=>aa<|Xp<|Fa 0 O underlying126 O sizeOf120<|Lw 1 O O cg ha<|gS 1 O underlying120 sizeOf22 zv120 O O<|Ca O (lG _ _ ha Hj)<|Sw 2 hGF O O O cg (cG _ _)<|aa<|ao<|Rr<|?_;exact aF 2 O O O isAgg120 sizeOf120 (by rw[List.length_map,cG]) (λw hw=>⟨rfl,ae hw⟩)
theorem ez(a b:L6)(ha:a.length=6)(hb:b.length=6):PUR 169 [bj (a),bj (b)] (bj (RM a b)):=by
 intro w hw;refine Hf func169 O hw<|λhGF=>Xp<|Bx 2 hGF O<|λb2=>Bx 3 hGF O<|λb3=>Al 4 hGF zv126<|λb4=>aa<|Xp<|Fa 0 O underlying126 O sizeOf120<|Lw 2 O O cg ha<|Fa 0 O underlying126 O sizeOf120<|Lw 3 O O cg hb<|Ca O (lG _ _ ha hb)<|du O (cG _ _) underlying126 O sizeOf120 zv126 O O<|Sw 4 hGF O O O eF (cG _ _)<|aa<|ao<|Rr<|?_;exact aF 4 O O O isAgg126 sizeOf126 (by rw[List.length_map,cG]) (λw hw=>⟨rfl,ae hw⟩)
theorem tC(n:BitVec 64):PUR 142 [U64 n] (bj (RM (n::List.replicate 5 0) TWO)):=by
 intro w hw;refine Hf func142 O hw<|λhGF=>Xp<|Al 2 hGF zv126<|λb2=>aa<|Xp<|Mv O<|gS n O underlying120 sizeOf22 zv120 O O<|Ca O (ql (n::List.replicate 5 0) O)<|Sw 2 hGF O O O eF (cG _ _)<|aa<|ao<|Rr<|?_;exact aF 2 O O O isAgg126 sizeOf126 (by rw[List.length_map,cG]) (λw hw=>⟨rfl,ae hw⟩)
theorem dd(a:L6)(ha:a.length=6):PUR 139 [bj (a)] (.bool (decide (a=List.replicate 6 0))):=by
 intro w hw;refine Hf func139 O hw<|λhGF=>Xp<|Bx 1 hGF O<|λb1=>Asg O<|aa<|Xp<|Fa 0 O underlying126 O sizeOf120<|Lw 1 O O cg ha<|ew zv120 underlying120 sizeOf22 O O<|dv (v:=.bool (decide (a=List.replicate 6 0#64))) O O (λ_=>Ms _ _ _ _ _ _) (λw=>eq27 a (List.replicate 6 0#64) ha O w) O O<|Asg O<|aa<|ao<|Rr<|?_;exact ar O O (λw hw=>⟨rfl,ae hw⟩)
theorem uK(a b:L6)(ha:a.length=6)(hb:b.length=6):PUR 177 [bj (a),bj (b)] (.bool (decide ((SS a b 6).2=1))):=by
 intro w hw;refine Hf func177 O hw<|λhGF=>Xp<|Bx 2 hGF O<|λb2=>Bx 3 hGF O<|λb3=>Asg O<|aa<|Xp<|Lw 2 O O cg ha<|Lw 3 O O cg hb<|Ca O (el _ _ ha hb)<|Mv O<|Exq O O<|Exq O O<|Al 5 hGF zv120<|λb5=>Sw 5 hGF O O O cg (bz _ _ _)<|Asg O<|aa<|Xp<|Mv O<|Bnr (v:=.bool (decide ((SS a b 6).2=1))) O O (λw=>(bA _ _ _).trans O)<|Asg O<|aa<|ao<|Rr<|?_;exact ar O O (λw hw=>⟨rfl,ae hw⟩)
theorem fj(a b:L6)(ha:a.length=6)(hb:b.length=6):PUR 171 [bj (a),bj (b)] (bj (lC a b)):=by
 intro w hw;refine Hf func171 O hw ?_;intro hGF;by_cases h0:(SS a b 6).2=1
 ·refine Xp<|Bx 2 hGF O<|λb2=>Bx 3 hGF O<|λb3=>Al 4 hGF zv126<|λb4=>aa<|Xp<|Fa 0 O underlying126 O sizeOf120<|Lw 2 O O cg ha<|Fa 0 O underlying126 O sizeOf120<|Lw 3 O O cg hb<|Ca O (el _ _ ha hb)<|Mv O<|Exq O O<|Exq O O<|Al 5 hGF zv120<|λb5=>Sw 5 hGF O O O cg (bz _ _ _)<|Asg O<|aa<|ah<|Xp<|Mv O<|Bnr (v:=.bool true) O O (λw=>(bA _ _ _).trans (congrArg (λb=>Result.ok (Value.bool b) w) (beq_iff_eq.2 h0)))<|aa<|aQ O<|Xe []<|Lw 5 O O cg (bz _ _ _)<|Ca O (jo)<|Ca O (jM _ _ (bz _ _ _) gO)<|Mv O<|Exq O O<|Exq O O<|ai 5 hGF O O O sizeOf120 (by rw[List.length_map,bR _ _ _]) (by rw[List.length_map,bz _ _ _]) (be _) O<|aa<|Xp<|Lw 5 O O cg (bR _ _ _)<|du O (bR _ _ _) underlying126 O sizeOf120 zv126 O O<|Sw 4 hGF O O O eF (bR _ _ _)<|aa<|ao<|Rr<|?_
  exact aF 4 O O O isAgg126 sizeOf126 (by rw[List.length_map];exact bR _ _ _) (λw hw=>⟨by rw[lC,if_pos h0],ae hw⟩)
 ·refine Xp<|Bx 2 hGF O<|λb2=>Bx 3 hGF O<|λb3=>Al 4 hGF zv126<|λb4=>aa<|Xp<|Fa 0 O underlying126 O sizeOf120<|Lw 2 O O cg ha<|Fa 0 O underlying126 O sizeOf120<|Lw 3 O O cg hb<|Ca O (el _ _ ha hb)<|Mv O<|Exq O O<|Exq O O<|Al 5 hGF zv120<|λb5=>Sw 5 hGF O O O cg (bz _ _ _)<|Asg O<|aa<|ah<|Xp<|Mv O<|Bnr (v:=.bool false) O O (λw=>(bA _ _ _).trans (congrArg (λb=>Result.ok (Value.bool b) w) (beq_eq_false_iff_ne.2 h0)))<|aa<|aH O<|aw<|Xp<|Lw 5 O O cg (bz _ _ _)<|du O (bz _ _ _) underlying126 O sizeOf120 zv126 O O<|Sw 4 hGF O O O eF (bz _ _ _)<|aa<|ao<|Rr<|?_
  exact aF 4 O O O isAgg126 sizeOf126 (by rw[List.length_map];exact bz _ _ _) (λw hw=>⟨by rw[lC,if_neg h0],ae hw⟩)
theorem yz(a:L6)(ha:a.length=6):PUR 170 [bj (a)] (bj (qG a)):=by
 intro w hw;refine Hf func170 O hw ?_;intro hGF;by_cases h0:a=List.replicate 6 0
 ·refine Xp<|Bx 1 hGF O<|λb1=>Al 2 hGF zv126<|λb2=>aa<|ah<|Xp<|Lw 1 O O eF ha<|jP (v:=.bool true) O O ent139 (decide_eq_true h0▸dd a ha) O O<|aa<|aQ O<|Xp<|Lw 1 O O eF ha<|Sw 2 hGF O O O eF ha<|aa<|ao<|Rr<|?_
  exact aF 2 O O O isAgg126 sizeOf126 (by rw[List.length_map];exact ha) (λw hw=>⟨by rw[qG,if_pos h0],ae hw⟩)
 ·refine Xp<|Bx 1 hGF O<|λb1=>Al 2 hGF zv126<|λb2=>aa<|ah<|Xp<|Lw 1 O O eF ha<|jP (v:=.bool false) O O ent139 (decide_eq_false h0▸dd a ha) O O<|aa<|aH O<|aw<|Xa [0,1,2,3,4,5,6] ⟨7,3,120,(List.replicate 6 0#64).map U64⟩ [8,9] (bH O zv120 O)<|Ca O (jo)<|Fa 0 O underlying126 O sizeOf120<|Lw 1 O O cg ha<|Ca O (el _ _ gO ha)<|Mv O<|Exq O O<|Exq O O<|aa<|?_
  refine ⟨_,_,rfl,hGF,by intro x hx;simp only[List.mem_cons,List.not_mem_nil,or_false]at hx;subst hx;rfl,by intro x hx;simp only[List.mem_cons,List.not_mem_nil,or_false]at hx;subst hx;rfl,λadr=> ?_⟩
  refine Sw 3 hGF O O O cg (bz _ _ _)<|Asg O<|aa<|Xp<|Lw 3 O O cg (bz _ _ _)<|du O (bz _ _ _) underlying126 O sizeOf120 zv126 O O<|Sw 2 hGF O O O eF (bz _ _ _)<|aa<|ao<|Rr<|?_;exact aF 2 O O O isAgg126 sizeOf126 (by rw[List.length_map];exact bz _ _ _) (λw hw=>⟨by rw[qG,if_neg h0],ae hw⟩)
theorem fM(a b:L6)(ha:a.length=6)(hb:b.length=6):PUR 172 [bj (a),bj (b)] (bj (ib a b)):=by
 intro w hw;refine Hf func172 O hw ?_;intro hGF;by_cases h1:1873798617647539866#64<=(AS a b 6).1.getD 5 0
 ·by_cases h0:(SS (AS a b 6).1 PL 6).2=0
  ·refine Xp<|Bx 2 hGF O<|λb2=>Bx 3 hGF O<|λb3=>Al 4 hGF zv126<|λb4=>aa<|Xp<|Fa 0 O underlying126 O sizeOf120<|Lw 2 O O cg ha<|Fa 0 O underlying126 O sizeOf120<|Lw 3 O O cg hb<|Ca O (jM _ _ ha hb)<|Mv O<|Exq O O<|Exq O O<|Al 5 hGF zv120<|λb5=>Sw 5 hGF O O O cg (bR _ _ _)<|Asg O<|aa<|ah<|Xp<|Ia (5) O O underlying120 sizeOf22<|Lmq 5 U64 0 O O isAgg22 (by rw[bR _ _ _];omega)<|Bnr (v:=.bool true) O O (λw=>(bS _ _ 1873798617647539866#64).trans (congrArg (λb=>Result.ok (Value.bool b) w) (decide_eq_true h1)))<|aa<|aQ O<|Xa [0,1,2,3,4,5] ⟨6,7,120,(List.replicate 6 0#64).map U64⟩ [7,8] (bH O zv120 O)<|Lw 5 O O cg (bR _ _ _)<|Ca O (jo)<|Ca O (el _ _ (bR _ _ _) gO)<|Mv O<|Exq O O<|Exq O O<|aa<|?_
   refine ⟨_,_,rfl,hGF,by intro x hx;simp only[List.mem_cons,List.not_mem_nil,or_false]at hx;subst hx;rfl,by intro x hx;simp only[List.mem_cons,List.not_mem_nil,or_false]at hx;subst hx;rfl,λadr=> ?_⟩
   refine Sw 7 hGF O O O cg (bz _ _ _)<|Asg O<|aa<|Xp<|Mv O<|Bnr (v:=.bool true) O O (λw=>(bA _ _ _).trans (congrArg (λb=>Result.ok (Value.bool b) w) (beq_iff_eq.2 h0)))<|aa<|aQ O<|Xq<|Lw 7 O O cg (bz _ _ _)<|ai 5 hGF O O O sizeOf120 (by rw[List.length_map,bz _ _ _]) (by rw[List.length_map,bR _ _ _]) (be _) O<|aa<|Xp<|Lw 5 O O cg (bz _ _ _)<|du O (bz _ _ _) underlying126 O sizeOf120 zv126 O O<|Sw 4 hGF O O O eF (bz _ _ _)<|aa<|ao<|Rr<|?_
   exact aF 4 O O O isAgg126 sizeOf126 (by rw[List.length_map];exact bz _ _ _) (λw hw=>⟨by rw[ib,if_pos ⟨h1,h0⟩],ae hw⟩)
  ·refine Xp<|Bx 2 hGF O<|λb2=>Bx 3 hGF O<|λb3=>Al 4 hGF zv126<|λb4=>aa<|Xp<|Fa 0 O underlying126 O sizeOf120<|Lw 2 O O cg ha<|Fa 0 O underlying126 O sizeOf120<|Lw 3 O O cg hb<|Ca O (jM _ _ ha hb)<|Mv O<|Exq O O<|Exq O O<|Al 5 hGF zv120<|λb5=>Sw 5 hGF O O O cg (bR _ _ _)<|Asg O<|aa<|ah<|Xp<|Ia (5) O O underlying120 sizeOf22<|Lmq 5 U64 0 O O isAgg22 (by rw[bR _ _ _];omega)<|Bnr (v:=.bool true) O O (λw=>(bS _ _ 1873798617647539866#64).trans (congrArg (λb=>Result.ok (Value.bool b) w) (decide_eq_true h1)))<|aa<|aQ O<|Xa [0,1,2,3,4,5] ⟨6,7,120,(List.replicate 6 0#64).map U64⟩ [7,8] (bH O zv120 O)<|Lw 5 O O cg (bR _ _ _)<|Ca O (jo)<|Ca O (el _ _ (bR _ _ _) gO)<|Mv O<|Exq O O<|Exq O O<|aa<|?_
   refine ⟨_,_,rfl,hGF,by intro x hx;simp only[List.mem_cons,List.not_mem_nil,or_false]at hx;subst hx;rfl,by intro x hx;simp only[List.mem_cons,List.not_mem_nil,or_false]at hx;subst hx;rfl,λadr=> ?_⟩
   refine Sw 7 hGF O O O cg (bz _ _ _)<|Asg O<|aa<|Xp<|Mv O<|Bnr (v:=.bool false) O O (λw=>(bA _ _ _).trans (congrArg (λb=>Result.ok (Value.bool b) w) (beq_eq_false_iff_ne.2 h0)))<|aa<|aH O<|aw<|Xp<|Lw 5 O O cg (bR _ _ _)<|du O (bR _ _ _) underlying126 O sizeOf120 zv126 O O<|Sw 4 hGF O O O eF (bR _ _ _)<|aa<|ao<|Rr<|?_;exact aF 4 O O O isAgg126 sizeOf126 (by rw[List.length_map];exact bR _ _ _) (λw hw=>⟨by rw[ib,if_neg (λh=>h0 h.2)],ae hw⟩)
 ·refine Xp<|Bx 2 hGF O<|λb2=>Bx 3 hGF O<|λb3=>Al 4 hGF zv126<|λb4=>aa<|Xp<|Fa 0 O underlying126 O sizeOf120<|Lw 2 O O cg ha<|Fa 0 O underlying126 O sizeOf120<|Lw 3 O O cg hb<|Ca O (jM _ _ ha hb)<|Mv O<|Exq O O<|Exq O O<|Al 5 hGF zv120<|λb5=>Sw 5 hGF O O O cg (bR _ _ _)<|Asg O<|aa<|ah<|Xp<|Ia (5) O O underlying120 sizeOf22<|Lmq 5 U64 0 O O isAgg22 (by rw[bR _ _ _];omega)<|Bnr (v:=.bool false) O O (λw=>(bS _ _ 1873798617647539866#64).trans (congrArg (λb=>Result.ok (Value.bool b) w) (decide_eq_false h1)))<|aa<|aH O<|aw<|Xp<|Lw 5 O O cg (bR _ _ _)<|du O (bR _ _ _) underlying126 O sizeOf120 zv126 O O<|Sw 4 hGF O O O eF (bR _ _ _)<|aa<|ao<|Rr<|?_
  exact aF 4 O O O isAgg126 sizeOf126 (by rw[List.length_map];exact bR _ _ _) (λw hw=>⟨by rw[ib,if_neg (λh=>h1 h.1)],ae hw⟩)
end
section
open Go.RowKit
theorem ent204:aL prog 204:=λ_ _=>kr
def f8(bs:L8)(i:Nat):BitVec 8:=(bs.getD (i / 8) 0>>>(7-i % 8)) &&& 1#8
def RP(a:L6)(bs:L8):Nat->L6
 |0=>ONE
 |i+1=>if f8 bs i=1#8 then RM (RM (RP a bs i) (RP a bs i)) a else RM (RP a bs i) (RP a bs i)
theorem gu(a:L6)(bs:L8): ∀i,(RP a bs i).length=6
 |0=>rfl
 |i+1=>by
  unfold RP;split
  ·exact cG _ _
  ·exact cG _ _
theorem HF(a:L6)(bs:L8)(i:Nat)(h:f8 bs i=1#8):RP a bs (i+1)=RM (RM (RP a bs i) (RP a bs i)) a:=by rw[RP,if_pos h]
theorem Hr(a:L6)(bs:L8)(i:Nat)(h: ¬f8 bs i=1#8):RP a bs (i+1)=RM (RP a bs i) (RP a bs i):=by rw[RP,if_neg h]
theorem vj(a:L6)(ha:a.length=6)(e:Option Addr)(cap:Nat)(bs:L8)(hlen:bs.length<=4096)(w:World)(hw:Gt w)(hby:BytesAt w e bs):
 CLS 204 [bj (a),.slice e bs.length cap].toArray w (λr w'=>r=.returned (bj (RP a bs (8*bs.length)))/\Grow w w'):=by
 refine Hf func204 O hw<|λhGF=>Xp<|Bx 2 hGF O<|λb2=>Al 4 hGF zv126<|λb4=>aa<|Xp<|Ca O (yE)<|du O (sR) underlying126 O sizeOf120 zv126 O O<|Al 5 hGF zv126<|λb5=>Sw 5 hGF O O O eF sR<|aa<|ah<|Xp<|Asg O<|aa<|au<|bW (ι:={i:Nat // i<=8*bs.length}) (λx=>[(1,.slice e bs.length cap),(2,pnt b2),(4,pnt b4),(5,pnt b5),(6,I (x.1:Int))]) (λx=>[(2,b2,a.map U64,126),(4,b4,(List.replicate 6 0#64).map U64,126),(5,b5,(RP a bs x.1).map U64,126)]) (λx=>8*bs.length-x.1) ⟨0,om⟩ hGF trv trv<|?_;rintro ⟨i,hi⟩;dsimp only;refine ah<|Xp<|Mv O<|Mv O<|bB O (λ_=>aO underlying123 _ _ _ _) O O<|Bnr (v:=I ((8*bs.length:Nat):Int)) O O (λ_=>(bT _ _ _ aG).trans (by rw[show (8:Int)*(bs.length:Int)=((8*bs.length:Nat):Int) by omega]))<|Bnr O O (λ_=>aI _ _ _)<|aa<|?_
 refine cx O (λhc=> ?_) (λhc=> ?_)
 ·simp only[decide_eq_true_eq]at hc
  refine aw<|ah<|au<|Xp<|Lw 5 O O eF (gu _ _ _)<|Lw 5 O O eF (gu _ _ _)<|Ca O (ez _ _ (gu _ _ _) (gu _ _ _))<|ai 5 hGF O O O sizeOf126 (by rw[List.length_map,cG _ _]) (by rw[List.length_map,gu]) (be _) O<|aa<|Xp<|Mv O<|Mv O<|Bnr (v:=I ((i / 8:Nat):Int)) O O (λ_=>gP _ _ _ aC (show inI ((i / 8:Nat):Int) by unfold inI;omega))<|?_
  obtain ⟨ad,rfl,_⟩:=hby (i / 8) _ (gm U8 bs 0 (i / 8) om);refine io (i / 8) O O underlying123 sizeOf5 O om O O<|aT O isAgg5 (λw' h=>by obtain ⟨ad',e,hc⟩:=(hby.grow (ae h)) (i / 8) _ (gm U8 bs 0 (i / 8) om);cases e;exact hc) O O<|Mv O<|Bnr (v:=I ((i % 8:Nat):Int)) O O (λ_=>eu _ _ _ aC)<|Bnr (v:=I ((7-i % 8:Nat):Int)) O O (λ_=>(bC _ _ _ aG).trans (by rw[show ((7:Int)-((i % 8:Nat):Int))=((7-i % 8:Nat):Int) by omega]))<|Bnr (v:=U8 (bs.getD (i / 8) 0>>>(7-i % 8))) O O (λ_=>iJ _ _ _ om)<|Bnr (v:=U8 (f8 bs i)) O O (λ_=>eH _ _ 1#8)<|Bnr (v:=.bool (decide (f8 bs i=1#8))) O O (λ_=>(dH _ _ 1#8).trans O)<|aa<|?_
  refine cx O (λhc=> ?_) (λhc=> ?_)
  ·simp only[decide_eq_true_eq]at hc
   have hq:=hc;refine Xq<|Lw 5 O O eF (cG _ _)<|Lw 2 O O eF ha<|Ca O (ez _ _ (cG _ _) ha)<|ai 5 hGF O O O sizeOf126 (by rw[List.length_map,cG _ _]) (by rw[List.length_map,cG _ _]) (be _) O<|aa<|Xq<|Mv O<|Bnr O O (λ_=>ay _ _ _ aG)<|Asg O<|aa<|?_
   repeat (refine bh ?_)
   exact aY<|⟨rfl,⟨i+1,om⟩,_,by show 8*bs.length-(i+1)<8*bs.length-i;omega,rfl,trv,⟨rfl,rfl,by first|(rw[HF a bs i hq];rfl)|(rw[Hr a bs i hq];rfl),trivial⟩⟩
  ·simp only[decide_eq_false_iff_not]at hc
   have hq:=hc;refine aw<|Xq<|Mv O<|Bnr O O (λ_=>ay _ _ _ aG)<|Asg O<|aa<|?_
   repeat (refine bh ?_)
   exact aY<|⟨rfl,⟨i+1,om⟩,_,by show 8*bs.length-(i+1)<8*bs.length-i;omega,rfl,trv,⟨rfl,rfl,by first|(rw[HF a bs i hq];rfl)|(rw[Hr a bs i hq];rfl),trivial⟩⟩
 ·obtain rfl:i=8*bs.length:=by simp at hc;omega
  refine bv<|Xp<|Lw 5 O O eF (gu _ _ _)<|Sw 4 hGF O O O eF (gu _ _ _)<|aa<|ao<|Rr<|?_;exact aF 4 O O O isAgg126 sizeOf126 (by rw[List.length_map,gu]) (λw hw=>⟨rfl,ae hw⟩)
end
section
open Go.RowKit
theorem ent176:aL prog 176:=λ_ _=>kr
theorem BA(n i:Nat)(hn:n<=64):decide (0#64<BitVec.ofNat 64 (n-i))=decide (i<n):=by
 refine decide_eq_decide.2 ?_;rw[BitVec.lt_def];simp only[BitVec.toNat_ofNat];omega
theorem zi(n i:Nat)(_hn:n<=64)(hi:i<n):BitVec.ofNat 64 (n-i)-1#64=BitVec.ofNat 64 (n-(i+1)):=by
 apply BitVec.eq_of_toNat_eq;simp only[BitVec.toNat_sub,BitVec.toNat_ofNat];omega
def HLs(l:L6):Nat->L6
 |0=>l
 |k+1=>if k<5 then ((HLs l k).set k ((HLs l k).getD k 0>>>1)).set k (((HLs l k).set k ((HLs l k).getD k 0>>>1)).getD k 0|||((HLs l k).set k ((HLs l k).getD k 0>>>1)).getD (k+1) 0<<<63)else (HLs l k).set k ((HLs l k).getD k 0>>>1)
theorem xa(l:L6)(k:Nat)(h:k<5):HLs l (k+1)=((HLs l k).set k ((HLs l k).getD k 0>>>1)).set k (((HLs l k).set k ((HLs l k).getD k 0>>>1)).getD k 0|||((HLs l k).set k ((HLs l k).getD k 0>>>1)).getD (k+1) 0<<<63):=by rw[HLs,if_pos h]
theorem xD(l:L6)(k:Nat)(h: ¬k<5):HLs l (k+1)=(HLs l k).set k ((HLs l k).getD k 0>>>1):=by rw[HLs,if_neg h]
theorem fq(l:L6): ∀k,(HLs l k).length=l.length
 |0=>rfl
 |k+1=>by
  unfold HLs;split
  ·rw[List.length_set,List.length_set,fq l k]
  ·rw[List.length_set,fq l k]
def HN(l:L6):Nat->L6
 |0=>l
 |i+1=>HLs (HN l i) 6
theorem fQ(l:L6): ∀i,(HN l i).length=l.length
 |0=>rfl
 |i+1=>by rw[HN,fq,fQ l i]
theorem uO(w:World)(hw:Gt w):CLS 176 [I (-2),U64 0#64].toArray w (λe w'=> ∃b,e=.returned (.slice (spt b) 48 48)/\Grow w w'/\w.heap.size<=b/\OwnB w' b ((BYs (HN (SS PL (2#64::List.replicate 5 0) 6).1 0) 48).map U8) 32):=by
 refine Hf func176 O hw<|λhGF=>Xp<|Asg O<|aa<|Xp<|Ca O (jo)<|Al 5 hGF zv120<|λb5=>Sw 5 hGF O O O cg gO<|aa<|ah<|Xp<|Mv O<|Bnr (v:=.bool true) O O (λw=>aI _ (-2) 0)<|aa<|aQ O<|Xq<|Lw 5 O O cg gO<|Mv O<|bV (v:=I 2) O (λ_=>s6 (-2) aG) O O<|bI (v:=U64 2#64) O O (λ_=>(dg underlying2 underlying22 2).trans O) O O<|gS 2#64 O underlying120 sizeOf22 zv120 O O<|Ca O (el PL (2#64::List.replicate 5 0) gO O)<|Mv O<|Exq O O<|Exq O O<|ai 5 hGF O O O sizeOf120 (by rw[List.length_map,bz _ _ _]) (by rw[List.length_map,gO]) (be _) O<|aa<|ah<|au<|bW (ι:={i:Nat // i<=0}) (λx=>[(4,.slice none 0 0),(5,pnt b5),(1,U64 (BitVec.ofNat 64 (0-x.1)))]) (λx=>[(5,b5,(HN (SS PL (2#64::List.replicate 5 0) 6).1 x.1).map U64,120)]) (λx=>0-x.1) ⟨0,om⟩ hGF trv trv<|?_
 rintro ⟨i,hi⟩;dsimp only;refine ah<|Xp<|Mv O<|Bnr (v:=.bool (decide (i<0))) O O (λw=>(eX _ _ 0#64).trans (congrArg (λb=>Result.ok (Value.bool b) w) (BA 0 i aC)))<|aa<|?_;refine cx O (λhc=> ?_) (λhc=> ?_)
 ·simp only[decide_eq_true_eq]at hc
  refine aw<|ah<|au<|Xp<|Asg O<|aa<|au<|bW (ι:={i:Nat // i<=6}) (λx=>[(4,.slice none 0 0),(5,pnt b5),(1,U64 (BitVec.ofNat 64 (0-i))),(6,I (x.1:Int))]) (λx=>[(5,b5,(HLs (HN (SS PL (2#64::List.replicate 5 0) 6).1 i) x.1).map U64,120)]) (λx=>6-x.1) ⟨0,om⟩ hGF trv trv<|?_;rintro ⟨k,hk⟩;dsimp only;refine ah<|Xp<|Mv O<|Bnr O O (λ_=>aI _ _ _)<|aa<|?_;refine cx O (λhc=> ?_) (λhc=> ?_)
  ·simp only[decide_eq_true_eq]at hc
   refine aw<|ah<|au<|Xp<|Mv O<|Mv O<|Ia (k) O O underlying120 sizeOf22<|Lmq 5 U64 0 O O isAgg22 (by rw[fq,fQ,bz];omega)<|Bnr O O (λ_=>cI _ _ 1#64)<|Ia (k) O O underlying120 sizeOf22<|bO 5 U64 hGF O O O sizeOf22 O (by rw[fq,fQ,bz];omega) O<|aa<|Xp<|Mv O<|Bnr O O (λ_=>aI _ _ _)<|aa<|?_
   refine cx O (λhc=> ?_) (λhc=> ?_)
   ·simp only[decide_eq_true_eq]at hc
    have hq:k<5:=om;refine Xe []<|Mv O<|Ia (k) O O underlying120 sizeOf22<|Lmq 5 U64 0 O O isAgg22 (by rw[List.length_set,fq,fQ,bz];omega)<|Mv O<|Bnr O O (λ_=>ay _ _ _ aG)<|Ia ((k+1)) O O underlying120 sizeOf22<|Lmq 5 U64 0 O O isAgg22 (by rw[List.length_set,fq,fQ,bz];omega)<|Bnr O O (λ_=>nP _ _ 63#64)<|Bnr O O (λ_=>iW _ _ _)<|Ia (k) O O underlying120 sizeOf22<|bO 5 U64 hGF O O O sizeOf22 O (by rw[List.length_set,fq,fQ,bz];omega) O<|aa<|Xq<|Mv O<|Bnr O O (λ_=>ay _ _ _ aG)<|Asg O<|aa<|?_
    repeat (refine bh ?_)
    exact aY<|⟨rfl,⟨k+1,om⟩,_,by show 6-(k+1)<6-k;omega,rfl,trv,⟨by first|(rw[xa _ k hq];rfl)|(rw[xD _ k hq];rfl),trivial⟩⟩
   ·simp only[decide_eq_false_iff_not]at hc
    have hq: ¬k<5:=om;refine aw<|Xq<|Mv O<|Bnr O O (λ_=>ay _ _ _ aG)<|Asg O<|aa<|?_
    repeat (refine bh ?_)
    exact aY<|⟨rfl,⟨k+1,om⟩,_,by show 6-(k+1)<6-k;omega,rfl,trv,⟨by first|(rw[xa _ k hq];rfl)|(rw[xD _ k hq];rfl),trivial⟩⟩
  ·obtain rfl:k=6:=by simp at hc;omega
   refine bv<|Xq<|Mv O<|Bnr (v:=U64 (BitVec.ofNat 64 (0-(i+1)))) O O (λw=>(je _ _ 1#64).trans (congrArg (λz=>Result.ok (U64 z) w) (zi 0 i aC om)))<|Asg O<|aa<|?_
   repeat (refine bh ?_)
   exact aY<|⟨rfl,⟨i+1,om⟩,_,by show 0-(i+1)<0-i;omega,rfl,trv,trv⟩
 ·obtain rfl:i=0:=by simp at hc;omega
  refine bv<|Xp<|aq 5 O O isAgg120 sizeOf120 (by rw[List.length_map,fQ,bz]) O O<|Ca O (fB _ (by rw[fQ,bz]))<|Al 7 hGF zv32<|λb7=>Sx 7 hGF O O O yI (ce _ _) (bg _)<|aa<|Xp<|ct (l:=0) (h':=48) O underlying32 sizeOf5 O O om om O O<|Asg O<|aa<|ao<|Rr<|?_
  exact ar O O (λw hw=>⟨b7,rfl,ae hw,(hw.own 7 b7 _ _ O).2.elim id False.elim,(hw.own 7 b7 _ _ O).1⟩)
theorem u2(w:World)(hw:Gt w):CLS 176 [I (-1),U64 1#64].toArray w (λe w'=> ∃b,e=.returned (.slice (spt b) 48 48)/\Grow w w'/\w.heap.size<=b/\OwnB w' b ((BYs (HN (SS PL (1#64::List.replicate 5 0) 6).1 1) 48).map U8) 32):=by
 refine Hf func176 O hw<|λhGF=>Xp<|Asg O<|aa<|Xp<|Ca O (jo)<|Al 5 hGF zv120<|λb5=>Sw 5 hGF O O O cg gO<|aa<|ah<|Xp<|Mv O<|Bnr (v:=.bool true) O O (λw=>aI _ (-1) 0)<|aa<|aQ O<|Xq<|Lw 5 O O cg gO<|Mv O<|bV (v:=I 1) O (λ_=>s6 (-1) aG) O O<|bI (v:=U64 1#64) O O (λ_=>(dg underlying2 underlying22 1).trans O) O O<|gS 1#64 O underlying120 sizeOf22 zv120 O O<|Ca O (el PL (1#64::List.replicate 5 0) gO O)<|Mv O<|Exq O O<|Exq O O<|ai 5 hGF O O O sizeOf120 (by rw[List.length_map,bz _ _ _]) (by rw[List.length_map,gO]) (be _) O<|aa<|ah<|au<|bW (ι:={i:Nat // i<=1}) (λx=>[(4,.slice none 0 0),(5,pnt b5),(1,U64 (BitVec.ofNat 64 (1-x.1)))]) (λx=>[(5,b5,(HN (SS PL (1#64::List.replicate 5 0) 6).1 x.1).map U64,120)]) (λx=>1-x.1) ⟨0,om⟩ hGF trv trv<|?_
 rintro ⟨i,hi⟩;dsimp only;refine ah<|Xp<|Mv O<|Bnr (v:=.bool (decide (i<1))) O O (λw=>(eX _ _ 0#64).trans (congrArg (λb=>Result.ok (Value.bool b) w) (BA 1 i aC)))<|aa<|?_;refine cx O (λhc=> ?_) (λhc=> ?_)
 ·simp only[decide_eq_true_eq]at hc
  refine aw<|ah<|au<|Xp<|Asg O<|aa<|au<|bW (ι:={i:Nat // i<=6}) (λx=>[(4,.slice none 0 0),(5,pnt b5),(1,U64 (BitVec.ofNat 64 (1-i))),(6,I (x.1:Int))]) (λx=>[(5,b5,(HLs (HN (SS PL (1#64::List.replicate 5 0) 6).1 i) x.1).map U64,120)]) (λx=>6-x.1) ⟨0,om⟩ hGF trv trv<|?_;rintro ⟨k,hk⟩;dsimp only;refine ah<|Xp<|Mv O<|Bnr O O (λ_=>aI _ _ _)<|aa<|?_;refine cx O (λhc=> ?_) (λhc=> ?_)
  ·simp only[decide_eq_true_eq]at hc
   refine aw<|ah<|au<|Xp<|Mv O<|Mv O<|Ia (k) O O underlying120 sizeOf22<|Lmq 5 U64 0 O O isAgg22 (by rw[fq,fQ,bz];omega)<|Bnr O O (λ_=>cI _ _ 1#64)<|Ia (k) O O underlying120 sizeOf22<|bO 5 U64 hGF O O O sizeOf22 O (by rw[fq,fQ,bz];omega) O<|aa<|Xp<|Mv O<|Bnr O O (λ_=>aI _ _ _)<|aa<|?_
   refine cx O (λhc=> ?_) (λhc=> ?_)
   ·simp only[decide_eq_true_eq]at hc
    have hq:k<5:=om;refine Xe []<|Mv O<|Ia (k) O O underlying120 sizeOf22<|Lmq 5 U64 0 O O isAgg22 (by rw[List.length_set,fq,fQ,bz];omega)<|Mv O<|Bnr O O (λ_=>ay _ _ _ aG)<|Ia ((k+1)) O O underlying120 sizeOf22<|Lmq 5 U64 0 O O isAgg22 (by rw[List.length_set,fq,fQ,bz];omega)<|Bnr O O (λ_=>nP _ _ 63#64)<|Bnr O O (λ_=>iW _ _ _)<|Ia (k) O O underlying120 sizeOf22<|bO 5 U64 hGF O O O sizeOf22 O (by rw[List.length_set,fq,fQ,bz];omega) O<|aa<|Xq<|Mv O<|Bnr O O (λ_=>ay _ _ _ aG)<|Asg O<|aa<|?_
    repeat (refine bh ?_)
    exact aY<|⟨rfl,⟨k+1,om⟩,_,by show 6-(k+1)<6-k;omega,rfl,trv,⟨by first|(rw[xa _ k hq];rfl)|(rw[xD _ k hq];rfl),trivial⟩⟩
   ·simp only[decide_eq_false_iff_not]at hc
    have hq: ¬k<5:=om;refine aw<|Xq<|Mv O<|Bnr O O (λ_=>ay _ _ _ aG)<|Asg O<|aa<|?_
    repeat (refine bh ?_)
    exact aY<|⟨rfl,⟨k+1,om⟩,_,by show 6-(k+1)<6-k;omega,rfl,trv,⟨by first|(rw[xa _ k hq];rfl)|(rw[xD _ k hq];rfl),trivial⟩⟩
  ·obtain rfl:k=6:=by simp at hc;omega
   refine bv<|Xq<|Mv O<|Bnr (v:=U64 (BitVec.ofNat 64 (1-(i+1)))) O O (λw=>(je _ _ 1#64).trans (congrArg (λz=>Result.ok (U64 z) w) (zi 1 i aC om)))<|Asg O<|aa<|?_
   repeat (refine bh ?_)
   exact aY<|⟨rfl,⟨i+1,om⟩,_,by show 1-(i+1)<1-i;omega,rfl,trv,trv⟩
 ·obtain rfl:i=1:=by simp at hc;omega
  refine bv<|Xp<|aq 5 O O isAgg120 sizeOf120 (by rw[List.length_map,fQ,bz]) O O<|Ca O (fB _ (by rw[fQ,bz]))<|Al 7 hGF zv32<|λb7=>Sx 7 hGF O O O yI (ce _ _) (bg _)<|aa<|Xp<|ct (l:=0) (h':=48) O underlying32 sizeOf5 O O om om O O<|Asg O<|aa<|ao<|Rr<|?_
  exact ar O O (λw hw=>⟨b7,rfl,ae hw,(hw.own 7 b7 _ _ O).2.elim id False.elim,(hw.own 7 b7 _ _ O).1⟩)
end
section
open Go.RowKit
def EX2:L8:=BYs (HN (SS PL (2#64::List.replicate 5 0) 6).1 0) 48
def EX1:L8:=BYs (HN (SS PL (1#64::List.replicate 5 0) 6).1 1) 48
theorem EF:EX2.length=48:=ce _ _
theorem DB:EX1.length=48:=ce _ _
theorem Ik(a:L6)(ha:a.length=6)(b:Nat)(t:TypeId)(bs:L8)(h48:bs.length=48)(w:World)(hw:Gt w)(ho:OwnB w b (bs.map U8) t):
 CLS 204 [bj (a),.slice (spt b) 48 48].toArray w (λr w'=>r=.returned (bj (RP a bs 384))/\Grow w w'):=by
 have h:=vj a ha (spt b) 48 bs om w hw (BytesAt.range ho.range);rw[h48]at h;exact h
theorem CK(b:Nat)(t:TypeId)(bs:L8)(h48:bs.length=48)(w:World)(hw:Gt w)(ho:OwnB w b (bs.map U8) t):
 CLS 175 [.slice (spt b) 48 48].toArray w (λr w'=>r=.returned (.tuple #[bj (FRs bs 48),.bool true])/\Grow w w'):=by
 have h:=tI (spt b) 48 bs w hw (BytesAt.range ho.range);rw[h48,if_neg aC]at h;exact h
theorem xX(a:L6)(ha:a.length=6):PUR 168 [bj (a)] (bj (RP a EX2 384)):=by
 intro w hw;refine Hf func168 O hw<|λhGF=>am (E:=EE [176,2000176])<|Bx 1 hGF O<|λb1=>Al 2 hGF zv126<|λb2=>aa<|Xd [176,2000176]<|Lw 1 O O eF ha<|?_;refine er O O ent176 O O (λw' hw'=>(uO w' (hGF.g _ _ _ hw')).mono λe w'' h=> ?_);obtain ⟨bm,rfl,hg,hb,hob⟩:=h;refine ⟨_,_,rfl,aU hGF,hw'.news aJ hg [(4,bm,EX2.map U8,32)] ?_ cE,dU aJ O, ?_⟩
 ·intro n' b' c' t' hl
  rcases bx hl with ⟨_,e⟩|⟨_,hl⟩
  ·cases e;exact ⟨hb,hob⟩
  ·cases hl
 clear hw' hg hb hob;refine Cc O ent204 (λw' hw' hG=>Ik a ha bm _ EX2 EF w' hG (hw'.own 4 _ _ _ O).1)<|Sw 2 hGF O O O eF (gu _ _ _)<|aa<|ao<|Rr<|?_;exact aF 2 O O O isAgg126 sizeOf126 (by rw[List.length_map,gu]) (λw hw=>⟨rfl,ae hw⟩)
theorem nW(a:L6)(ha:a.length=6):PUR 140 [bj (a)] (.bool (decide ((SS (FRs EX1 48) (RM a N1) 6).2=1))):=by
 intro w hw;refine Hf func140 O hw<|λhGF=>am (E:=EE [176,2000176])<|Bx 1 hGF O<|λb1=>Asg O<|aa<|am (E:=EE [176,2000176])<|?_;refine er O O ent176 O O (λw' hw'=>(u2 w' (hGF.g _ _ _ hw')).mono λe w'' h=> ?_);obtain ⟨bm,rfl,hg,hb,hob⟩:=h;refine ⟨_,_,rfl,aU hGF,hw'.news aJ hg [(6,bm,EX1.map U8,32)] ?_ cE,dU aJ O, ?_⟩
 ·intro n' b' c' t' hl
  rcases bx hl with ⟨_,e⟩|⟨_,hl⟩
  ·cases e;exact ⟨hb,hob⟩
  ·cases hl
 clear hw' hg hb hob;refine Cc O ent175 (λw' hw' hG=>CK bm _ EX1 DB w' hG (hw'.own 6 _ _ _ O).1)<|Mv O<|Exq O O<|Exq O O<|Al 3 hGF zv120<|λb3=>Sw 3 hGF O O O cg (cH _ _)<|Asg O<|aa<|Xd [176,2000176]<|Lw 3 O O cg (cH _ _)<|Lw 1 O O eF ha<|Ca O (j3 a ha)<|Ca O (uK _ _ (cH _ _) (cG _ _))<|Asg O<|aa<|ao<|Rr<|?_;exact ar O O (λw hw=>⟨rfl,ae hw⟩)
end
section
open Go.RowKit
theorem ent135:aL prog 135:=λ_ _=>kr
theorem ent137:aL prog 137:=λ_ _=>kr
theorem ent106:aL prog 106:=λ_ _=>kr
theorem ent102:aL prog 102:=λ_ _=>kr
theorem ent71:aL prog 71:=λ_ _=>kr
abbrev LW:=L6
theorem pcA{a:LW}{n:Nat}: ∀j v,((a.take n).map U64)[j]? =some v->(a.map U64)[0+j]? =some v:=λj v hv=>by
 rw[Nat.zero_add];rw[List.getElem?_map,List.getElem?_take]at hv;split at hv
 ·rwa [List.getElem?_map]
 ·cases hv
theorem pcB{a:LW}{o:Nat}: ∀j v,((a.drop o).map U64)[j]? =some v->(a.map U64)[o+j]? =some v:=λj v hv=>by
 rw[List.getElem?_map,List.getElem?_drop]at hv
 rwa [List.getElem?_map]
theorem pcM{a:LW}{o n:Nat}: ∀j v,(((a.drop o).take n).map U64)[j]? =some v->(a.map U64)[o+j]? =some v:=λj v hv=>pcB j v (by have:=pcA j v hv;rwa [Nat.zero_add]at this)
theorem dn(w:World):(zeroValue 128).run prog w=.ok (bj (((List.replicate 6 (0#64))++(List.replicate 6 (0#64))))) w:=(zeroValue128 w).trans aE
theorem jb:Two prog 128 ⟨ "A",126,0,false, "", "",0⟩ ⟨ "B",126,6,false, "", "",48⟩ 6 6 (List.replicate 6 (0#64)) (List.replicate 6 (0#64)):=⟨underlying128,rfl,rfl,sizeOf126,sizeOf126,dn,rfl,rfl⟩
theorem nc(w:World):(zeroValue 130).run prog w=.ok (bj (((List.replicate 12 (0#64))++((List.replicate 12 (0#64))++(List.replicate 12 (0#64)))))) w:=(zeroValue130 w).trans aE
theorem iR:Three prog 130 ⟨ "X",128,0,false, "", "",0⟩ ⟨ "Y",128,12,false, "", "",96⟩ ⟨ "Z",128,24,false, "", "",192⟩ 12 (List.replicate 12 (0#64)) (List.replicate 12 (0#64)) (List.replicate 12 (0#64)):=⟨underlying130,rfl,rfl,rfl,sizeOf128,sizeOf128,sizeOf128,nc,rfl,rfl,rfl⟩
attribute [local simp] cG iU jE mq gu
def EZ(a:LW):Bool:=decide (a.take 6=(List.replicate 6 (0#64))) && decide (a.drop 6=(List.replicate 6 (0#64)))
def EAD(a b:LW):LW:=ib (a.take 6) (b.take 6)++ib (a.drop 6) (b.drop 6)
def ESB(a b:LW):LW:=lC (a.take 6) (b.take 6)++lC (a.drop 6) (b.drop 6)
def ENG(a:LW):LW:=qG (a.take 6)++qG (a.drop 6)
def EMU(a b:LW):LW:=if a.drop 6=(List.replicate 6 (0#64))/\b.drop 6=(List.replicate 6 (0#64))then RM (a.take 6) (b.take 6)++(List.replicate 6 (0#64))else
 lC (RM (a.take 6) (b.take 6)) (RM (a.drop 6) (b.drop 6))++lC (lC (RM (ib (a.take 6) (a.drop 6)) (ib (b.take 6) (b.drop 6))) (RM (a.take 6) (b.take 6))) (RM (a.drop 6) (b.drop 6))
def ENM(a:LW):LW:=ib (RM (a.take 6) (a.take 6)) (RM (a.drop 6) (a.drop 6))
def EIV(a:LW):LW:=RM (a.take 6) (RP (ENM a) EX2 384)++RM (qG (a.drop 6)) (RP (ENM a) EX2 384)
def RLG(a:LW):Bool:=decide ((SS (FRs EX1 48) (RM a N1) 6).2=1)
def ELG(a:LW):Bool:=if a.drop 6=(List.replicate 6 (0#64))then RLG (a.take 6)else RLG (a.drop 6)
def E1_:LW:=RM (1#64::List.replicate 5 0) TWO++(List.replicate 6 (0#64))
theorem fE(a b:LW):(EAD a b).length=12:=by simp[EAD]
theorem eJ(a b:LW):(ESB a b).length=12:=by simp[ESB]
theorem oM(a:LW)(h:a.length=12):(ENG a).length=12:=by simp[ENG,h]
theorem cP(a b:LW):(EMU a b).length=12:=by unfold EMU;split<;>simp
theorem oF(a:LW):(ENM a).length=6:=iU _ _
theorem n5(a:LW):(EIV a).length=12:=by simp[EIV]
theorem rL:E1_.length=12:=by simp[E1_]
attribute [local simp] fE eJ oM cP oF n5 rL
theorem lK(a:LW)(ha:a.length=12):PUR 135 [bj (a)] (.bool (EZ a)):=by
 intro w hw;refine Hf func135 O hw<|λhGF=>Xp<|Bx 1 hGF O<|λb1=>Asg O<|aa<|Xp<|Fa 0 O underlying128 O sizeOf126<|az (cs:=((a.take 6)).map U64) O isAgg126 sizeOf126 (by simp[ha]) (λw' hw' j v hv=>by have:=(av (n:=1) O w' hw') _ v (pcA j v hv);rwa [Nat.zero_add]at this) O O<|?_
 rcases Bool.eq_false_or_eq_true (decide (a.take 6=(List.replicate 6 (0#64))))with h1|h1
 ·refine Cbl true O ent139 (dd ((a.take 6)) (by simp[ha])) (h1)<|Mv O<|Fa 6 O underlying128 O sizeOf126<|az (cs:=((a.drop 6)).map U64) O isAgg126 sizeOf126 (by simp[ha]) (λw' hw' j v hv=>by have:=(av (n:=1) O w' hw') _ v (pcB j v hv);rwa [Nat.zero_add]at this) O O<|?_
  rcases Bool.eq_false_or_eq_true (decide (a.drop 6=(List.replicate 6 (0#64))))with h2|h2
  ·refine Cbl true O ent139 (dd ((a.drop 6)) (by simp[ha])) (h2)<|Pk O O O<|Asg O<|aa<|ao<|Rr<|?_
   exact ar O O (λw' hw'=>⟨by unfold EZ;rw[h1,h2];rfl,ae hw'⟩)
  ·refine Cbl false O ent139 (dd ((a.drop 6)) (by simp[ha])) (h2)<|Pk O O O<|Asg O<|aa<|ao<|Rr<|?_
   exact ar O O (λw' hw'=>⟨by unfold EZ;rw[h1,h2];rfl,ae hw'⟩)
 ·refine Cbl false O ent139 (dd ((a.take 6)) (by simp[ha])) (h1)<|Mv O<|Sk<|Sk<|Sk<|Pk O O O<|Asg O<|aa<|ao<|Rr<|?_
  exact ar O O (λw' hw'=>⟨by unfold EZ;rw[h1];rfl,ae hw'⟩)
theorem kF(a b:LW)(ha:a.length=12)(hb:b.length=12):PUR 143 [bj (a),bj (b)] (bj (EAD a b)):=by
 intro w hw;refine Hf func143 O hw<|λhGF=>Xp<|Bx 2 hGF O<|λb2=>Bx 3 hGF O<|λb3=>Al 4 hGF dn<|λb4=>aa<|Xd []<|Fa 0 O underlying128 O sizeOf126<|az (cs:=((a.take 6)).map U64) O isAgg126 sizeOf126 (by simp[ha]) (λw' hw' j v hv=>by have:=(av (n:=2) O w' hw') _ v (pcA j v hv);rwa [Nat.zero_add]at this) O O<|Fa 0 O underlying128 O sizeOf126<|az (cs:=((b.take 6)).map U64) O isAgg126 sizeOf126 (by simp[hb]) (λw' hw' j v hv=>by have:=(av (n:=3) O w' hw') _ v (pcA j v hv);rwa [Nat.zero_add]at this) O O<|Ca O (fM ((a.take 6)) ((b.take 6)) (by simp[ha]) (by simp[hb]))<|Fa 6 O underlying128 O sizeOf126<|az (cs:=((a.drop 6)).map U64) O isAgg126 sizeOf126 (by simp[ha]) (λw' hw' j v hv=>by have:=(av (n:=2) O w' hw') _ v (pcB j v hv);rwa [Nat.zero_add]at this) O O<|Fa 6 O underlying128 O sizeOf126<|az (cs:=((b.drop 6)).map U64) O isAgg126 sizeOf126 (by simp[hb]) (λw' hw' j v hv=>by have:=(av (n:=3) O w' hw') _ v (pcB j v hv);rwa [Nat.zero_add]at this) O O<|Ca O (fM ((a.drop 6)) ((b.drop 6)) (by simp[ha]) (by simp[hb]))<|mT jb O O (by simp[]) (by simp[]) O O<|ai 4 hGF O O O sizeOf128 (by simp[]) aB (be _) O<|aa<|ao<|Rr<|?_
 exact aF 4 O O O isAgg128 sizeOf128 (by simp[]) (λw' hw'=>⟨rfl,ae hw'⟩)
theorem i3(a b:LW)(ha:a.length=12)(hb:b.length=12):PUR 144 [bj (a),bj (b)] (bj (ESB a b)):=by
 intro w hw;refine Hf func144 O hw<|λhGF=>Xp<|Bx 2 hGF O<|λb2=>Bx 3 hGF O<|λb3=>Al 4 hGF dn<|λb4=>aa<|Xd []<|Fa 0 O underlying128 O sizeOf126<|az (cs:=((a.take 6)).map U64) O isAgg126 sizeOf126 (by simp[ha]) (λw' hw' j v hv=>by have:=(av (n:=2) O w' hw') _ v (pcA j v hv);rwa [Nat.zero_add]at this) O O<|Fa 0 O underlying128 O sizeOf126<|az (cs:=((b.take 6)).map U64) O isAgg126 sizeOf126 (by simp[hb]) (λw' hw' j v hv=>by have:=(av (n:=3) O w' hw') _ v (pcA j v hv);rwa [Nat.zero_add]at this) O O<|Ca O (fj ((a.take 6)) ((b.take 6)) (by simp[ha]) (by simp[hb]))<|Fa 6 O underlying128 O sizeOf126<|az (cs:=((a.drop 6)).map U64) O isAgg126 sizeOf126 (by simp[ha]) (λw' hw' j v hv=>by have:=(av (n:=2) O w' hw') _ v (pcB j v hv);rwa [Nat.zero_add]at this) O O<|Fa 6 O underlying128 O sizeOf126<|az (cs:=((b.drop 6)).map U64) O isAgg126 sizeOf126 (by simp[hb]) (λw' hw' j v hv=>by have:=(av (n:=3) O w' hw') _ v (pcB j v hv);rwa [Nat.zero_add]at this) O O<|Ca O (fj ((a.drop 6)) ((b.drop 6)) (by simp[ha]) (by simp[hb]))<|mT jb O O (by simp[]) (by simp[]) O O<|ai 4 hGF O O O sizeOf128 (by simp[]) aB (be _) O<|aa<|ao<|Rr<|?_
 exact aF 4 O O O isAgg128 sizeOf128 (by simp[]) (λw' hw'=>⟨rfl,ae hw'⟩)
theorem dr(a b:LW)(ha:a.length=12)(hb:b.length=12):PUR 137 [bj (a),bj (b)] (bj (EMU a b)):=by
 intro w hw;refine Hf func137 O hw<|λhGF=>Xp<|Bx 2 hGF O<|λb2=>Bx 3 hGF O<|λb3=>Al 4 hGF dn<|λb4=>aa<|Xp<|Fa 0 O underlying128 O sizeOf126<|az (cs:=((a.take 6)).map U64) O isAgg126 sizeOf126 (by simp[ha]) (λw' hw' j v hv=>by have:=(av (n:=2) O w' hw') _ v (pcA j v hv);rwa [Nat.zero_add]at this) O O<|Fa 0 O underlying128 O sizeOf126<|az (cs:=((b.take 6)).map U64) O isAgg126 sizeOf126 (by simp[hb]) (λw' hw' j v hv=>by have:=(av (n:=3) O w' hw') _ v (pcA j v hv);rwa [Nat.zero_add]at this) O O<|Ca O (ez ((a.take 6)) ((b.take 6)) (by simp[ha]) (by simp[hb]))<|Al 5 hGF zv126<|λb5=>ai 5 hGF O O O sizeOf126 (by simp[]) aB (be _) O<|aa<|ah<|Xp<|Fa 6 O underlying128 O sizeOf126<|az (cs:=((a.drop 6)).map U64) O isAgg126 sizeOf126 (by simp[ha]) (λw' hw' j v hv=>by have:=(av (n:=2) O w' hw') _ v (pcB j v hv);rwa [Nat.zero_add]at this) O O<|?_
 rcases Bool.eq_false_or_eq_true (decide (a.drop 6=(List.replicate 6 (0#64))))with h1|h1
 ·refine Cbl true O ent139 (dd ((a.drop 6)) (by simp[ha])) (h1)<|Mv O<|Fa 6 O underlying128 O sizeOf126<|az (cs:=((b.drop 6)).map U64) O isAgg126 sizeOf126 (by simp[hb]) (λw' hw' j v hv=>by have:=(av (n:=3) O w' hw') _ v (pcB j v hv);rwa [Nat.zero_add]at this) O O<|?_
  rcases Bool.eq_false_or_eq_true (decide (b.drop 6=(List.replicate 6 (0#64))))with h2|h2
  ·refine Cbl true O ent139 (dd ((b.drop 6)) (by simp[hb])) (h2)<|Pk O O O<|aa<|aQ O<|Xp<|aq 5 O O isAgg126 sizeOf126 (by simp[]) O O<|wm jb O (by simp[]) O O<|ai 4 hGF O O O sizeOf128 (by simp[]) aB (be _) O<|aa<|ao<|Rr<|?_
   exact aF 4 O O O isAgg128 sizeOf128 (by simp[]) (λw' hw'=>⟨by unfold EMU;rw[if_pos ⟨of_decide_eq_true h1,of_decide_eq_true h2⟩],ae hw'⟩)
  ·refine Cbl false O ent139 (dd ((b.drop 6)) (by simp[hb])) (h2)<|Pk O O O<|aa<|aH O<|aw<|Xp<|Fa 6 O underlying128 O sizeOf126<|az (cs:=((a.drop 6)).map U64) O isAgg126 sizeOf126 (by simp[ha]) (λw' hw' j v hv=>by have:=(av (n:=2) O w' hw') _ v (pcB j v hv);rwa [Nat.zero_add]at this) O O<|Fa 6 O underlying128 O sizeOf126<|az (cs:=((b.drop 6)).map U64) O isAgg126 sizeOf126 (by simp[hb]) (λw' hw' j v hv=>by have:=(av (n:=3) O w' hw') _ v (pcB j v hv);rwa [Nat.zero_add]at this) O O<|Ca O (ez ((a.drop 6)) ((b.drop 6)) (by simp[ha]) (by simp[hb]))<|Al 6 hGF zv126<|λb6=>ai 6 hGF O O O sizeOf126 (by simp[]) aB (be _) O<|aa<|Xd []<|aq 5 O O isAgg126 sizeOf126 (by simp[]) O O<|aq 6 O O isAgg126 sizeOf126 (by simp[]) O O<|Ca O (fj ((RM (a.take 6) (b.take 6))) ((RM (a.drop 6) (b.drop 6))) (by simp[]) (by simp[]))<|Fa 0 O underlying128 O sizeOf126<|az (cs:=((a.take 6)).map U64) O isAgg126 sizeOf126 (by simp[ha]) (λw' hw' j v hv=>by have:=(av (n:=2) O w' hw') _ v (pcA j v hv);rwa [Nat.zero_add]at this) O O<|Fa 6 O underlying128 O sizeOf126<|az (cs:=((a.drop 6)).map U64) O isAgg126 sizeOf126 (by simp[ha]) (λw' hw' j v hv=>by have:=(av (n:=2) O w' hw') _ v (pcB j v hv);rwa [Nat.zero_add]at this) O O<|Ca O (fM ((a.take 6)) ((a.drop 6)) (by simp[ha]) (by simp[ha]))<|Fa 0 O underlying128 O sizeOf126<|az (cs:=((b.take 6)).map U64) O isAgg126 sizeOf126 (by simp[hb]) (λw' hw' j v hv=>by have:=(av (n:=3) O w' hw') _ v (pcA j v hv);rwa [Nat.zero_add]at this) O O<|Fa 6 O underlying128 O sizeOf126<|az (cs:=((b.drop 6)).map U64) O isAgg126 sizeOf126 (by simp[hb]) (λw' hw' j v hv=>by have:=(av (n:=3) O w' hw') _ v (pcB j v hv);rwa [Nat.zero_add]at this) O O<|Ca O (fM ((b.take 6)) ((b.drop 6)) (by simp[hb]) (by simp[hb]))<|Ca O (ez ((ib (a.take 6) (a.drop 6))) ((ib (b.take 6) (b.drop 6))) (by simp[]) (by simp[]))<|aq 5 O O isAgg126 sizeOf126 (by simp[]) O O<|Ca O (fj ((RM (ib (a.take 6) (a.drop 6)) (ib (b.take 6) (b.drop 6)))) ((RM (a.take 6) (b.take 6))) (by simp[]) (by simp[]))<|aq 6 O O isAgg126 sizeOf126 (by simp[]) O O<|jP O O ent171 (fj ((lC (RM (ib (a.take 6) (a.drop 6)) (ib (b.take 6) (b.drop 6))) (RM (a.take 6) (b.take 6)))) ((RM (a.drop 6) (b.drop 6))) (by simp[]) (by simp[])) O O<|mT jb O O (by simp[]) (by simp[]) O O<|ai 4 hGF O O O sizeOf128 (by simp[]) aB (be _) O<|aa<|ao<|Rr<|?_
   exact aF 4 O O O isAgg128 sizeOf128 (by simp[]) (λw' hw'=>⟨by unfold EMU;rw[if_neg (λh=>of_decide_eq_false h2 h.2)],ae hw'⟩)
 ·refine Cbl false O ent139 (dd ((a.drop 6)) (by simp[ha])) (h1)<|Mv O<|Sk<|Sk<|Sk<|Pk O O O<|aa<|aH O<|aw<|Xp<|Fa 6 O underlying128 O sizeOf126<|az (cs:=((a.drop 6)).map U64) O isAgg126 sizeOf126 (by simp[ha]) (λw' hw' j v hv=>by have:=(av (n:=2) O w' hw') _ v (pcB j v hv);rwa [Nat.zero_add]at this) O O<|Fa 6 O underlying128 O sizeOf126<|az (cs:=((b.drop 6)).map U64) O isAgg126 sizeOf126 (by simp[hb]) (λw' hw' j v hv=>by have:=(av (n:=3) O w' hw') _ v (pcB j v hv);rwa [Nat.zero_add]at this) O O<|Ca O (ez ((a.drop 6)) ((b.drop 6)) (by simp[ha]) (by simp[hb]))<|Al 6 hGF zv126<|λb6=>ai 6 hGF O O O sizeOf126 (by simp[]) aB (be _) O<|aa<|Xd []<|aq 5 O O isAgg126 sizeOf126 (by simp[]) O O<|aq 6 O O isAgg126 sizeOf126 (by simp[]) O O<|Ca O (fj ((RM (a.take 6) (b.take 6))) ((RM (a.drop 6) (b.drop 6))) (by simp[]) (by simp[]))<|Fa 0 O underlying128 O sizeOf126<|az (cs:=((a.take 6)).map U64) O isAgg126 sizeOf126 (by simp[ha]) (λw' hw' j v hv=>by have:=(av (n:=2) O w' hw') _ v (pcA j v hv);rwa [Nat.zero_add]at this) O O<|Fa 6 O underlying128 O sizeOf126<|az (cs:=((a.drop 6)).map U64) O isAgg126 sizeOf126 (by simp[ha]) (λw' hw' j v hv=>by have:=(av (n:=2) O w' hw') _ v (pcB j v hv);rwa [Nat.zero_add]at this) O O<|Ca O (fM ((a.take 6)) ((a.drop 6)) (by simp[ha]) (by simp[ha]))<|Fa 0 O underlying128 O sizeOf126<|az (cs:=((b.take 6)).map U64) O isAgg126 sizeOf126 (by simp[hb]) (λw' hw' j v hv=>by have:=(av (n:=3) O w' hw') _ v (pcA j v hv);rwa [Nat.zero_add]at this) O O<|Fa 6 O underlying128 O sizeOf126<|az (cs:=((b.drop 6)).map U64) O isAgg126 sizeOf126 (by simp[hb]) (λw' hw' j v hv=>by have:=(av (n:=3) O w' hw') _ v (pcB j v hv);rwa [Nat.zero_add]at this) O O<|Ca O (fM ((b.take 6)) ((b.drop 6)) (by simp[hb]) (by simp[hb]))<|Ca O (ez ((ib (a.take 6) (a.drop 6))) ((ib (b.take 6) (b.drop 6))) (by simp[]) (by simp[]))<|aq 5 O O isAgg126 sizeOf126 (by simp[]) O O<|Ca O (fj ((RM (ib (a.take 6) (a.drop 6)) (ib (b.take 6) (b.drop 6)))) ((RM (a.take 6) (b.take 6))) (by simp[]) (by simp[]))<|aq 6 O O isAgg126 sizeOf126 (by simp[]) O O<|jP O O ent171 (fj ((lC (RM (ib (a.take 6) (a.drop 6)) (ib (b.take 6) (b.drop 6))) (RM (a.take 6) (b.take 6)))) ((RM (a.drop 6) (b.drop 6))) (by simp[]) (by simp[])) O O<|mT jb O O (by simp[]) (by simp[]) O O<|ai 4 hGF O O O sizeOf128 (by simp[]) aB (be _) O<|aa<|?_
  refine ao<|Rr<|?_;exact aF 4 O O O isAgg128 sizeOf128 (by simp[]) (λw' hw'=>⟨by unfold EMU;rw[if_neg (λh=>of_decide_eq_false h1 h.1)],ae hw'⟩)
theorem DI(a:LW)(ha:a.length=12):PUR 167 [bj (a)] (bj (ENM a)):=by
 intro w hw;refine Hf func167 O hw<|λhGF=>Xp<|Bx 1 hGF O<|λb1=>Al 2 hGF zv126<|λb2=>aa<|Xd []<|Fa 0 O underlying128 O sizeOf126<|az (cs:=((a.take 6)).map U64) O isAgg126 sizeOf126 (by simp[ha]) (λw' hw' j v hv=>by have:=(av (n:=1) O w' hw') _ v (pcA j v hv);rwa [Nat.zero_add]at this) O O<|Fa 0 O underlying128 O sizeOf126<|az (cs:=((a.take 6)).map U64) O isAgg126 sizeOf126 (by simp[ha]) (λw' hw' j v hv=>by have:=(av (n:=1) O w' hw') _ v (pcA j v hv);rwa [Nat.zero_add]at this) O O<|Ca O (ez ((a.take 6)) ((a.take 6)) (by simp[ha]) (by simp[ha]))<|Fa 6 O underlying128 O sizeOf126<|az (cs:=((a.drop 6)).map U64) O isAgg126 sizeOf126 (by simp[ha]) (λw' hw' j v hv=>by have:=(av (n:=1) O w' hw') _ v (pcB j v hv);rwa [Nat.zero_add]at this) O O<|Fa 6 O underlying128 O sizeOf126<|az (cs:=((a.drop 6)).map U64) O isAgg126 sizeOf126 (by simp[ha]) (λw' hw' j v hv=>by have:=(av (n:=1) O w' hw') _ v (pcB j v hv);rwa [Nat.zero_add]at this) O O<|Ca O (ez ((a.drop 6)) ((a.drop 6)) (by simp[ha]) (by simp[ha]))<|Ca O (fM ((RM (a.take 6) (a.take 6))) ((RM (a.drop 6) (a.drop 6))) (by simp[]) (by simp[]))<|ai 2 hGF O O O sizeOf126 (by simp[]) aB (be _) O<|aa<|ao<|Rr<|?_
 exact aF 2 O O O isAgg126 sizeOf126 (by simp[]) (λw' hw'=>⟨rfl,ae hw'⟩)
theorem Gv(a:LW)(ha:a.length=12):PUR 136 [bj (a)] (bj (EIV a)):=by
 intro w hw;refine Hf func136 O hw<|λhGF=>Xp<|Bx 1 hGF O<|λb1=>Al 2 hGF dn<|λb2=>aa<|Xp<|aq 1 O O isAgg128 sizeOf128 (by simp[ha]) O O<|Ca O (DI (a) (by simp[ha]))<|Ca O (xX ((ENM a)) aB)<|Al 3 hGF zv126<|λb3=>Sa 3 hGF O O O eF<|aa<|Xd []<|Fa 0 O underlying128 O sizeOf126<|az (cs:=((a.take 6)).map U64) O isAgg126 sizeOf126 (by simp[ha]) (λw' hw' j v hv=>by have:=(av (n:=1) O w' hw') _ v (pcA j v hv);rwa [Nat.zero_add]at this) O O<|La 3 O O eF<|Ca O (ez ((a.take 6)) ((RP (ENM a) EX2 384)) (by simp[ha]) aB)<|Fa 6 O underlying128 O sizeOf126<|az (cs:=((a.drop 6)).map U64) O isAgg126 sizeOf126 (by simp[ha]) (λw' hw' j v hv=>by have:=(av (n:=1) O w' hw') _ v (pcB j v hv);rwa [Nat.zero_add]at this) O O<|Ca O (yz ((a.drop 6)) (by simp[ha]))<|La 3 O O eF<|Ca O (ez ((qG (a.drop 6))) ((RP (ENM a) EX2 384)) (by simp[ha]) aB)<|mT jb O O (by simp[]) (by simp[]) O O<|ai 2 hGF O O O sizeOf128 (by simp[]) aB (be _) O<|aa<|ao<|Rr<|?_
 exact aF 2 O O O isAgg128 sizeOf128 (by simp[]) (λw' hw'=>⟨rfl,ae hw'⟩)
theorem tY(a:LW)(ha:a.length=12):PUR 106 [bj (a)] (.bool (ELG a)):=by
 intro w hw;refine Hf func106 O hw<|λhGF=>Xp<|Bx 1 hGF O<|λb1=>Asg O<|aa<|ah<|Xp<|Fa 6 O underlying128 O sizeOf126<|az (cs:=((a.drop 6)).map U64) O isAgg126 sizeOf126 (by simp[ha]) (λw' hw' j v hv=>by have:=(av (n:=1) O w' hw') _ v (pcB j v hv);rwa [Nat.zero_add]at this) O O<|?_
 rcases Bool.eq_false_or_eq_true (decide (a.drop 6=(List.replicate 6 (0#64))))with h1|h1
 ·refine Cbl true O ent139 (dd ((a.drop 6)) (by simp[ha])) (h1)<|aa<|aQ O<|Xp<|Fa 0 O underlying128 O sizeOf126<|az (cs:=((a.take 6)).map U64) O isAgg126 sizeOf126 (by simp[ha]) (λw' hw' j v hv=>by have:=(av (n:=1) O w' hw') _ v (pcA j v hv);rwa [Nat.zero_add]at this) O O<|Ca O (nW ((a.take 6)) (by simp[ha]))<|Asg O<|aa<|ao<|Rr<|?_
  exact ar O O (λw' hw'=>⟨by unfold ELG;rw[if_pos (of_decide_eq_true h1)];rfl,ae hw'⟩)
 ·refine Cbl false O ent139 (dd ((a.drop 6)) (by simp[ha])) (h1)<|aa<|aH O<|aw<|Xp<|Fa 6 O underlying128 O sizeOf126<|az (cs:=((a.drop 6)).map U64) O isAgg126 sizeOf126 (by simp[ha]) (λw' hw' j v hv=>by have:=(av (n:=1) O w' hw') _ v (pcB j v hv);rwa [Nat.zero_add]at this) O O<|Ca O (nW ((a.drop 6)) (by simp[ha]))<|Asg O<|aa<|ao<|Rr<|?_
  exact ar O O (λw' hw'=>⟨by unfold ELG;rw[if_neg (of_decide_eq_false h1)];rfl,ae hw'⟩)
theorem Ba  :PUR 108 [] (bj (E1_)):=by
 intro w hw;refine Hf func108 O hw<|λhGF=>Xp<|Al 0 hGF dn<|λb0=>aa<|Xp<|Ca O (tC (1#64))<|wm jb O aB O O<|Sa 0 hGF O O O EW<|aa<|ao<|Rr<|?_;exact aF 0 O O O isAgg128 sizeOf128 aB (λw' hw'=>⟨rfl,ae hw'⟩)
theorem II(a b:LW)(ha:a.length=6)(hb:b.length=6):PUR 141 [bj (a),bj (b)] (bj (RM a TWO++RM b TWO)):=by
 intro w hw;refine Hf func141 O hw<|λhGF=>Xp<|Bx 2 hGF O<|λb2=>Bx 3 hGF O<|λb3=>Al 4 hGF dn<|λb4=>aa<|Xd []<|aq 2 O O isAgg120 sizeOf120 (by simp[ha]) O O<|Ca O (ql (a) (by simp[ha]))<|aq 3 O O isAgg120 sizeOf120 (by simp[hb]) O O<|Ca O (ql (b) (by simp[hb]))<|mT jb O O aB aB O O<|ai 4 hGF O O O sizeOf128 (by simp[]) aB (be _) O<|aa<|ao<|Rr<|?_
 exact aF 4 O O O isAgg128 sizeOf128 (by simp[]) (λw' hw'=>⟨rfl,ae hw'⟩)
end
end Go.Proofs.YtfakhlafilbjkaaGreatDoor
