/- X2 -/
import Derived.Test.YtjookodjbjabbaaGreatDoorX1
import Derived.Laws.IdiomCopy
import Derived.Deep.AppendSrc
import Derived.Laws.StructEq
import Derived.Laws.BytesString
import Derived.Laws.Strings
import Derived.OpenShut
import Derived.Scope
import Derived.Laws.Externs
set_option maxRecDepth 100000
set_option maxHeartbeats 1000000
namespace Go.Proofs.YtjookodjbjabbaaGreatDoor
variable {P:Program} {G:Cls} {ro:Option Nat} {ops:Array Oper} {N:Nat} {ds:List Deferred} {fs:List Nat} {Z:Fr->Cls->Prop} {F:Fr} {C:Cls} {rest:List Oper} {d:Nat} {ty:TypeId} {pos:String} {af:Array Edge} {gd:Option (Nat×Bool)} {B:Bs} {L:Hl}
section
open Go.RowKit
section
variable {K:KK}
theorem gy{c:Code}{ι:Type}(Fm:ι->Fr)(Bm:ι->Bs)(Lm:ι->Hl)(m:ι->Nat)(i0:ι)(hG: ∀i,BOk G (Bm i))(hB:Bm i0=B)(hF:sW F (Fm i0))(hL:jP L (Lm i0))
 (hr: ∀i,X P G ro N ds c (Fm i) (Hp (Bm i) (Lm i)) (rp (λds' F' C'=>ds'=ds/\∃j L',m j<m i/\C'=Hp (Bm j) L'/\sW F' (Fm j)/\jP L' (Lm j)) K)):X P G ro N ds (.loop c) F (Hp B L) K:=by
 subst hB;exact EN Fm (λi=>Hp (Bm i) (Lm i)) m i0 (λ_=>ay (hG i0)) (mf hF) (cP (hG i0).r hL) λi=>(hr i).mono λe ds' F' C' hk=>by
  cases e with
  |normal=>
   obtain ⟨rfl,j,L',hj,rfl,h1,h2⟩:=hk;exact ⟨rfl,j,hj,λ_=>ay (hG j),mf h1,cP (hG j).r h2⟩
  |_=>exact hk
end
def BytesAt(w:World)(a:Option Addr)(rs:L8):Prop:= ∀j v,(rs.map U8)[j]? =some v->∃ad,a=some ad/\w.cell? (ad.add j)=some v
theorem BH(w:World)(a:Option Addr):BytesAt w a []:=λj v h=>by simp at h
theorem KJ(a:Addr)(k j:Nat)(hk:k≠0):(a.add k).add j=a.add (k+j):=by
 unfold Addr.add;rw[if_neg hk,if_neg (show¬k+j=0 by omega)]
 by_cases hj:j=0
 ·subst hj;simp
 ·rw[if_neg hj];simp;omega
theorem BytesAt.drop{w:World}{a:Option Addr}{rs:L8}(h:BytesAt w a rs){cap l:Nat}(hc:rs.length<=cap)(hl:l≠0):BytesAt w (if cap=l then a else a.map (·.add (l*1))) (rs.drop l):=λj v hv=>by
 rw[List.map_drop,List.getElem?_drop]at hv;obtain ⟨ad,rfl,hc'⟩:=h (l+j) v hv;have hlt:l+j<rs.length:=by
  rcases Nat.lt_or_ge (l+j) rs.length with h'|h'
  ·exact h'
  ·rw[List.getElem?_eq_none (by simpa using h')]at hv;cases hv
 rw[if_neg om];exact ⟨ad.add (l*1),rfl,by rw[Nat.mul_one,KJ ad l j hl];exact hc'⟩
theorem BytesAt.take{w:World}{a:Option Addr}{rs:L8}(h:BytesAt w a rs)(n:Nat):BytesAt w a (rs.take n):=λj v hv=>by
 rw[List.map_take,List.getElem?_take]at hv;split at hv
 ·exact h j v hv
 ·cases hv
theorem BytesAt.of_same{w w':World}{a:Option Addr}{rs:L8}(h:BytesAt w a rs)(hs: ∀ad v,w.cell? ad=some v->a=some ad\/(∃b,a=some b/\b.block=ad.block)->w'.cell? ad=some v):BytesAt w' a rs:=λj v hv=>by
 obtain ⟨ad,rfl,hc⟩:=h j v hv;refine ⟨ad,rfl,hs _ v hc (.inr ⟨ad,rfl, ?_⟩)⟩;unfold Addr.add;split<;>rfl
theorem BytesAt.grow{w w':World}{a:Option Addr}{rs:L8}(h:BytesAt w a rs)(hg:Grow w w'):BytesAt w' a rs:=
 h.of_same λ_ _ hc _=>(hg.cell (block_lt_of_cell hc)).trans hc
theorem BytesAt.range{w:World}{b o:Nat}{rs:L8}(h:w.rangeAt b o (rs.map U8)):BytesAt w (some ⟨b,o,none⟩) rs:=λj v hv=>⟨_,rfl,by rw[Addr.add_mid];exact h j v hv⟩
theorem gK(n:Nat){dT sT e et:TypeId}{x y:Operand}{b o dl dc:Nat}{sa:Option Addr}{sl sc:Nat}{c:List Value}{cs:L8}(hG:BOk G B)(hx:evF F x=some (.slice (some ⟨b,o,none⟩) dl dc))(hy:evF F y=some (.slice sa sl sc))
 (hl:lkB L n=some (b,c,et)) (hu:P.underlying dT=some (.slice e)) (hs:(P.info? e).map (·.size)=some 1) (hn:cs.length=Nat.min sl dl) (hsrc: ∀w,Hp B L w->BytesAt w sa cs)
 (ho:o+cs.length<=c.length) (hw:aT ops F ⟨some d,.call {callee:=.builtin .copy,args:= #[x,y],argTypes:= #[dT,sT]},ty,pos,af,gd⟩=some true) (hd:Nat.blt d N=true)
 (h:Lx P G ro ops N ds (EE fs) Z rest ((d,I cs.length)::F) (Hp B ((n,b,lay o (cs.map U8) c,et)::L))):
 Lx P G ro ops N ds (EE fs) Z (⟨some d,.call {callee:=.builtin .copy,args:= #[x,y],argTypes:= #[dT,sT]},ty,pos,af,gd⟩::rest) F (Hp B L):=by
 cases sa with
 |some ad=>
  have:=A0 (P:=P) (ro:=ro) (ops:=ops) (N:=N) (ds:=ds) (fs:=fs) (Z:=Z) (rest:=rest) (d:=d) (ty:=ty) (pos:=pos) (af:=af) (gd:=gd) (cs:=cs.map U8) n hG hx hy hl hu hs (by simpa using hn)
   (λw hw j v hv=>by obtain ⟨ad',e,hc⟩:=hsrc w hw j v hv;cases e;exact hc) (bY cs) (by simpa using ho) hw hd (by simpa using h)
  exact this
 |none=>
  refine eN O hw hd (λ_ h=>by cases h) λa w ha hC=> ?_
  have h0:cs=[]:=by
   cases cs with
   |nil=>rfl
   |cons x r=>
    obtain ⟨_,e,_⟩:=hsrc w hC 0 (U8 x) sm
    cases e
  subst h0;have hr:=run_copy_none (P:=P) w dT sT ty e (some ⟨b,o,none⟩) none dl dc sl sc hu hs (by simpa using hn.symm)
  refine ⟨I 0,w,_,.inl ?_,ay hG, ?_,h⟩
  ·simp only[execOp,resolve,invoke,builtin,Sem.run_bind,Sem.run_pure,Result.andThen_ok,List.map_toArray,List.map_cons,List.map_nil,ha.ev hx,ha.ev hy,hr]
   rfl
  ·refine hC.less hG.r λm y hy=> ?_
   rcases aI hy with ⟨rfl,rfl⟩|⟨_,hy⟩
   ·exact hl
   ·exact hy
theorem bP{t e:TypeId}{n:Nat}{x:Operand}{lo hi:Option Operand}{b l h':Nat}(hx:evF F x=some (pnt b))(hu:P.underlying t=some (.array n e))(hs: ∀w,(sizeOf e).run P w=.ok 1 w)
 (hl:(lo.map (evF F)).getD (some (I 0))=some (I l)) (hh:(hi.map (evF F)).getD (some (I n))=some (I h')) (hb:l<=h'/\h'<=n) (hne:l≠n)
 (hw:aT ops F ⟨some d,.slice t x lo hi none,ty,pos,af,gd⟩=some true) (hd:Nat.blt d N=true)
 (h:Lx P G ro ops N ds (EE fs) Z rest ((d,.slice (some ⟨b,l,none⟩) (h'-l) (n-l))::F) C):Lx P G ro ops N ds (EE fs) Z (⟨some d,.slice t x lo hi none,ty,pos,af,gd⟩::rest) F C:=
 ES hx hu hs hl hh hb hne hw hd (by rw[show 0+l*1=l from by omega];exact h)
theorem dX{t e:TypeId}{len sz:Nat}{l:List Value}(hz: ∀w,(zeroValue t).run P w=.ok (.agg l.toArray) w)(hu:P.underlying t=some (.array len e))(hs: ∀w,(sizeOf e).run P w=.ok sz w)
 (hw:aT ops F ⟨some d,.build t #[],ty,pos,af,gd⟩=some true) (hd:Nat.blt d N=true)
 (h:Lx P G ro ops N ds (EE fs) Z rest ((d,.agg l.toArray)::F) C):Lx P G ro ops N ds (EE fs) Z (⟨some d,.build t #[],ty,pos,af,gd⟩::rest) F C:=
 cq (v:=.agg l.toArray) O hw hd (λ_ h=>by cases h) (λa w _ _=>by
  simp[execOp,Instr.build,hz,run_underlying hu,hs,Value.cells,Instr.fill]) h
theorem tf(rs:L8)(n:Nat)(h:rs.length<=n):lay 0 (rs.map U8) ((List.replicate n (0#8)).map U8)=(rs++List.replicate (n-rs.length) (0#8)).map U8:=by
 rw[jc 0 _ _ (by simpa using h)]
 simp[List.map_append]
theorem f9{t e:TypeId}{sz:Nat}{x:Operand}{lo hi:Option Operand}{a0:Option Addr}{len cap l h':Nat}(hx:evF F x=some (.slice a0 len cap))(hu:P.underlying t=some (.slice e))(hs: ∀w,(sizeOf e).run P w=.ok sz w)
 (hl:(lo.map (evF F)).getD (some (I 0))=some (I l)) (hh:(hi.map (evF F)).getD (some (I len))=some (I h')) (hb:l<=h'/\h'<=cap)
 (hw:aT ops F ⟨some d,.slice t x lo hi none,ty,pos,af,gd⟩=some true) (hd:Nat.blt d N=true)
 (h:Lx P G ro ops N ds (EE fs) Z rest ((d,.slice (if cap=l then a0 else a0.map (·.add (l*sz))) (h'-l) (cap-l))::F) C):Lx P G ro ops N ds (EE fs) Z (⟨some d,.slice t x lo hi none,ty,pos,af,gd⟩::rest) F C:=
 cq (v:=.slice (if cap=l then a0 else a0.map (·.add (l*sz))) (h'-l) (cap-l)) O hw hd (λ_ h=>by cases h) (λa w ha _=>by
  simp only[execOp,ha.ev hx]
  cases lo with
  |none=>
   simp at hl;have hl0:l=0:=om;subst hl0
   cases hi with
   |none=>
    simp at hh;have:h'=len:=om;subst this;simp[Instr.sliceAt,Instr.slice,run_underlying hu,Instr.sliceBounds,hs]
   |some y=>
    have hy:=ha.ev (x:=y) (v:=I h') (by simpa using hh)
    have hb2:h'<=cap:=hb.2;simp[Instr.sliceAt,Instr.slice,run_underlying hu,Instr.sliceBounds,Instr.sliceBound,asIntOf,hy,hs,hb2]
  |some z=>
   have hz:=ha.ev (x:=z) (v:=I l) (by simpa using hl)
   have hb1:l<=h':=hb.1
   cases hi with
   |none=>
    simp at hh;have:h'=len:=om;subst this;simp[Instr.sliceAt,Instr.slice,run_underlying hu,Instr.sliceBounds,Instr.sliceBound,asIntOf,hz,hs,hb1]
   |some y=>
    have hy:=ha.ev (x:=y) (v:=I h') (by simpa using hh)
    have hb2:h'<=cap:=hb.2;simp[Instr.sliceAt,Instr.slice,run_underlying hu,Instr.sliceBounds,Instr.sliceBound,asIntOf,hy,hz,hs,hb1,hb2]) h
theorem dy{f:Nat}{al:List Operand}{at':Array TypeId}{vs:List Value}{dst:Option Nat}(hf:fs.any (Nat.beq f)=true)(ha:evL F al=some vs)(he:ai P f)
 (hw:aT ops F ⟨dst,.call {callee:=.value (.func f),args:=al.toArray,argTypes:=at'},ty,pos,af,gd⟩=some true) (hd:jx N dst=true)
 (hp: ∀w,C w->Calls P f vs.toArray w (λe w'=> ∃v C',e=.returned v/\dJ G C'/\C' w'/\Lx P G ro ops N ds (EE fs) Z rest (putF dst v F) C'))
 (hgr:fs.any (Nat.beq (f+2000000))=false:=by rfl):
 Lx P G ro ops N ds (EE fs) Z (⟨dst,.call {callee:=.value (.func f),args:=al.toArray,argTypes:=at'},ty,pos,af,gd⟩::rest) F C:=by
 unfold Lx;rw[show EE fs ⟨dst,.call {callee:=.value (.func f),args:=al.toArray,argTypes:=at'},ty,pos,af,gd⟩=true from hf];intro a w hA hC;refine ⟨hA.want hw,λf _=>dP ro f, ?_⟩;rw[show (FW ro).round=ro from O,Oper.semAt_eq _ _ _ (λ_ h=>by cases h)]
 have e:(execOp a.eval ⟨dst,.call {callee:=.value (.func f),args:=al.toArray,argTypes:=at'},ty,pos,af,gd⟩).run P w=.ok (.enter f vs.toArray) w:=by
  have e:=hA.evL ha;simp only[execOp,resolve,invoke,Sem.run_bind,Sem.run_pure,Result.andThen_ok,List.map_toArray,e,Act.eval,Deferred.ofValue];simp[he _ w]
 rw[e];refine ⟨λh=>(by cases h),CallsIn.mono (fS (hp w hC)) λe w' ⟨v,C',he',hS,hw',hk⟩=> ?_⟩
 subst he';exact ⟨_,C',hA.putF hd v,hS,hw',λh=>(by rw[show EE fs (ig ⟨dst,.call {callee:=.value (.func f),args:=al.toArray,argTypes:=at'},ty,pos,af,gd⟩)=false from hgr]at h;cases h),hk⟩
theorem bK{f:Nat}{al:List Operand}{at':Array TypeId}{vs:List Value}{dst:Option Nat}(hf:fs.any (Nat.beq f)=true)(ha:evL F al=some vs)(he:ai P f)
 (hw:aT ops F ⟨dst,.call {callee:=.value (.func f),args:=al.toArray,argTypes:=at'},ty,pos,af,gd⟩=some true) (hd:jx N dst=true)
 (hp: ∀w,C w->Calls P f vs.toArray w (λe w'=> ∃v C',e=.returned v/\dJ G C'/\C' w'/\(∀w,C' w->C w)/\Lx P G ro ops N ds (EE fs) Z rest (putF dst v F) C')):
 Lx P G ro ops N ds (EE fs) Z (⟨dst,.call {callee:=.value (.func f),args:=al.toArray,argTypes:=at'},ty,pos,af,gd⟩::rest) F C:=by
 unfold Lx;rw[show EE fs ⟨dst,.call {callee:=.value (.func f),args:=al.toArray,argTypes:=at'},ty,pos,af,gd⟩=true from hf];intro a w hA hC;refine ⟨hA.want hw,λf _=>dP ro f, ?_⟩;rw[show (FW ro).round=ro from O,Oper.semAt_eq _ _ _ (λ_ h=>by cases h)]
 have e:(execOp a.eval ⟨dst,.call {callee:=.value (.func f),args:=al.toArray,argTypes:=at'},ty,pos,af,gd⟩).run P w=.ok (.enter f vs.toArray) w:=by
  have e:=hA.evL ha;simp only[execOp,resolve,invoke,Sem.run_bind,Sem.run_pure,Result.andThen_ok,List.map_toArray,e,Act.eval,Deferred.ofValue];simp[he _ w]
 rw[e];refine ⟨λh=>(by cases h),CallsIn.mono (fS (hp w hC)) λe w' ⟨v,C',he',hS,hw',hgr,hk⟩=> ?_⟩
 subst he';exact ⟨_,C',hA.putF hd v,hS,hw',λ_=>hgr,hk⟩
theorem o1: ∀(A L:Hl) (n:Nat),lkB (A++L) n=match lkB A n with|some x=>some x|none=>lkB L n
 |[],_,_=>rfl
 |(m,x)::r,L,n=>by
  show (bif Nat.beq m n then some x else lkB (r++L) n)=match (bif Nat.beq m n then some x else lkB r n)with|some x=>some x|none=>lkB L n
  cases Nat.beq m n with
  |true=>rfl
  |false=>exact o1 r L n
theorem Hq.news{B:Bs}{L:Hl}{Y:Nat->Prop}{w w':World}(h:Hq B L Y w)(hr:Rides B.J)(hg:Grow w w')(A:Hl)(hA: ∀n b c t,lkB A n=some (b,c,t)->w.heap.size<=b/\OwnB w' b c t)
 (hi: ∀n m b c t c' t',lkB A n=some (b,c,t)->lkB A m=some (b,c',t')->n=m):Hq B (A++L) Y w':=by
 have h':=h.grow hr hg;have key: ∀n x,lkB (A++L) n=some x->lkB A n=some x\/lkB L n=some x:=λn x hx=>by
  rw[o1]at hx
  cases hA':lkB A n with
  |none=>rw[hA']at hx;exact .inr hx
  |some y=>rw[hA']at hx;exact .inl hx
 refine ⟨h'.os,h'.tape,h'.output,h'.size,h'.keep,λn b c t hl=> ?_,λn m b c t c' t' h1 h2=> ?_,λb hb ⟨n,c,t,hl⟩=> ?_,h'.high,h'.lt, ?_⟩
 ·rcases key n _ hl with hl|hl
  ·exact ⟨(hA n b c t hl).2,.inl (Nat.le_trans h.size (hA n b c t hl).1)⟩
  ·exact h'.own n b c t hl
 ·rcases key n _ h1 with h1|h1<;>rcases key m _ h2 with h2|h2
  ·exact hi n m b c t c' t' h1 h2
  ·have:=(hA n b c t h1).1;have:=h.ownlt ⟨m,c',t',h2⟩;omega
  ·have:=(hA m b c' t' h2).1;have:=h.ownlt ⟨n,c,t,h1⟩;omega
  ·exact h.inj n m b c t c' t' h1 h2
 ·rcases key n _ hl with hl|hl
  ·have:=(hA n b c t hl).1;have:=h.lt b hb;omega
  ·exact h.apart b hb ⟨n,c,t,hl⟩
 ·refine hr.less _ _ _ (λb hb=> ?_) (hr.new _ w w' (Yof A) h.rid hg (λb ⟨n,c,t,hl⟩=>⟨(hA n b c t hl).1,(hA n b c t hl).2.lt⟩))
  rcases hb with ⟨n,c,t,hl⟩|hb
  ·rcases key n _ hl with hl|hl
   ·exact .inl ⟨n,c,t,hl⟩
   ·exact .inr (.inl ⟨n,c,t,hl⟩)
  ·exact .inr (.inr hb)
end
section
open Go.RowKit
def TI(P:Program)(e:TypeId)(z:Value)(size bytes:Nat):Prop:= ∃i,P.info? e=some i/\i.zero=some z/\i.size=size/\i.bytes=bytes
theorem rJ{P:Program}{e:TypeId}{z:Value}{size bytes:Nat}(h:(P.info? e).map (λi=>(i.zero,i.size,i.bytes))=some (some z,size,bytes)):TI P e z size bytes:=by
 cases hq:P.info? e with
 |none=>simp[hq]at h
 |some i=>simp[hq]at h;exact ⟨i,hq▸rfl,h.1,h.2.1,h.2.2⟩
def OwnSl(L:Hl)(n:Nat)(e:TypeId)(a0:Option Addr)(cap:Nat)(xs:L8):Prop:=
 (a0=none/\xs=[]/\cap=0)\/∃b c,a0=some ⟨b,0,none⟩/\lkB L n=some (b,c,e)/\c.length=cap/\xs.length<=cap/\c.take xs.length=xs.map U8
theorem iB(L:Hl)(n:Nat)(e:TypeId):OwnSl L n e none 0 []:=.inl ⟨rfl,rfl,rfl⟩
theorem Hu(xs ys:L8)(c:List Value)(h:xs.length+ys.length<=c.length)(hc:c.take xs.length=xs.map U8):(lay xs.length (ys.map U8) c).take (xs.length+ys.length)=(xs++ys).map U8:=by
 rw[jc _ _ _ (by simpa using h),List.map_append,List.take_append_of_le_length (by simp;omega),List.take_of_length_le (by simp;omega),hc]
theorem r3{w:World}{tx e':TypeId}(hk:P.underlying tx=some (.slice e')){sa:Option Addr}{sc:Nat}{ys:L8}(h:BytesAt w sa ys):Src P 1 tx (.slice sa ys.length sc) ys.length (ys.map U8) w:=by
 cases sa with
 |some ad=>exact Src.ofSlice w hk ad ys.length sc (ys.map U8) sm (λj u hu=>by obtain ⟨ad',e,hc⟩:=h j u hu;cases e;exact hc) (λu hu=>by
  obtain ⟨x,_,rfl⟩:=List.mem_map.1 hu;rfl)
 |none=>
  have:ys=[]:=by
   cases ys with
   |nil=>rfl
   |cons x r=>obtain ⟨_,e,_⟩:=h 0 (U8 x) sm;cases e
  subst this;exact Src.ofNil w hk sc
theorem cn(n:Nat){t tx e e':TypeId}{x y:Operand}{a0 sa:Option Addr}{cap sc:Nat}{xs ys:L8}(hB:BOk G B)(hx:evF F x=some (.slice a0 xs.length cap))(hy:evF F y=some (.slice sa ys.length sc))
 (hu:P.underlying t=some (.slice e)) (hux:P.underlying tx=some (.slice e')) (hi:TI P e (.int .u8 0) 1 1) (hown:OwnSl L n e a0 cap xs) (hsrc: ∀w,Hp B L w->BytesAt w sa ys) (hlen:xs.length+ys.length<=70368744177664)
 (hw:aT ops F ⟨some d,.call {callee:=.builtin .append,args:= #[x,y],argTypes:= #[t,tx]},ty,pos,af,gd⟩=some true) (hd:Nat.blt d N=true)
 (h0:xs++ys=[]->Lx P G ro ops N ds (EE fs) Z rest ((d,.slice none 0 0)::F) (Hp B L))
 (h: ∀b c cap1,c.length=cap1->(xs++ys).length<=cap1->c.take (xs++ys).length=(xs++ys).map U8->Lx P G ro ops N ds (EE fs) Z rest ((d,.slice (spt b) (xs++ys).length cap1)::F) (Hp B ((n,b,c,e)::L)))
 (hgr:fs.any (Nat.beq 2999997)=false:=by rfl):
 Lx P G ro ops N ds (EE fs) Z (⟨some d,.call {callee:=.builtin .append,args:= #[x,y],argTypes:= #[t,tx]},ty,pos,af,gd⟩::rest) F (Hp B L):=by
 obtain ⟨i,hi,hz,hsz,hby⟩:=hi;refine eN (hgr:=hgr) O hw hd (λ_ h=>by cases h) λa w ha hC=> ?_
 have hs:Src P i.size tx (.slice sa ys.length sc) ys.length (ys.map U8) w:=by rw[hsz];exact r3 hux (hsrc w hC)
 have run: ∀{v:Value} {w':World},(Builtin.append_ #[t,tx] ty #[.slice a0 xs.length cap,.slice sa ys.length sc]).run P w=.ok v w'->
  (execOp a.eval ⟨some d,.call {callee:=.builtin .append,args:= #[x,y],argTypes:= #[t,tx]},ty,pos,af,gd⟩).run P w=.ok (.value v) w':=λ{v w'} hr=>by
  simp only[execOp,resolve,invoke,builtin,Sem.run_bind,Sem.run_pure,Result.andThen_ok,List.map_toArray,List.map_cons,List.map_nil,ha.ev hx,ha.ev hy,hr]
 have len1:(xs++ys).length=xs.length+ys.length:=sm;rcases Nat.lt_or_ge cap (xs.length+ys.length)with hg|hroom
 ·have hold:(Builtin.firstCells i.size xs.length (.slice a0 xs.length cap)).run P w.drew=.ok (xs.map U8).toArray w.drew:=by
   rcases hown with ⟨rfl,rfl,rfl⟩|⟨b,c,rfl,hl,hc,hle,ht⟩
   ·exact run_firstCells_none _ _ _ _ _
   ·refine run_firstCells_some _ _ _ _ _ _ _ (by simp[hsz]) (λj v hv=> ?_)
    rw[Addr.add_mid,Nat.zero_add];have hcj:c[j]? =some v:=by
     have:(c.take xs.length)[j]? =some v:=by rw[ht];exact hv
     rw[List.getElem?_take]at this;split at this
     ·exact this
     ·cases this
    exact cM hl hcj w hC
  have hr:=run_append_grow_src (P:=P) w t tx ty e i (.int .u8 0) hu hi hz a0 xs.length cap (xs.map U8) hold (.slice sa ys.length sc) ys.length (ys.map U8) hs hg om (by rw[hby];exact growslice_fits hg om)
  have hge:=grownCap_ge w (xs.length+ys.length) cap e;obtain ⟨cc,hcc⟩: ∃cc,(xs++ys).map U8++(Builtin.zeroCells (Value.int .u8 0).cells (grownCap w (xs.length+ys.length) cap e-(xs.length+ys.length))).toList=cc:=⟨_,rfl⟩;have hcl:cc.length=grownCap w (xs.length+ys.length) cap e:=by
   rw[<-hcc];simp only[List.length_append,List.length_map,Array.length_toList,size_zeroCells];show _+_*1=_;omega
  have hct:cc.take (xs++ys).length=(xs++ys).map U8:=by rw[<-hcc,List.take_append_of_le_length sm,List.take_of_length_le sm]
  have harr:(xs.map U8++ys.map U8).toArray++Builtin.zeroCells (Value.int .u8 0).cells (grownCap w (xs.length+ys.length) cap e-(xs.length+ys.length))=cc.toArray:=by
   rw[<-hcc];apply Array.ext';simp
  rw[harr]at hr;have hk:=h w.heap.size cc _ hcl (by rw[len1];exact hge) hct
  rw[len1]at hk;exact ⟨_,_,_,.inl (run hr),ay hB,(hC.grow hB.r ((Below.refl _ w).drew)).alloc hB.r n cc e,hk⟩
 ·rcases hown with ⟨rfl,rfl,rfl⟩|⟨b,c,rfl,hl,hc,hle,ht⟩
  ·have hy0:ys=[]:=by
    cases ys with
    |nil=>rfl
    |cons y r=>simp at hroom
   subst hy0;have hr:(Builtin.append_ #[t,tx] ty #[.slice none 0 0,.slice sa 0 sc]).run P w=.ok (.slice none 0 0) w:=by
    have hl0:=hs.len w;have hc0:=hs.cells;simp at hl0 hc0;simp[Builtin.append_,run_underlying hu,run_underlying hux,sizeOf,typeInfo,hi,hl0,hc0]
   exact ⟨_,_,_,.inl (run hr),ay hB,hC,h0 O⟩
  ·have hb:=(hC.own n b c e hl).1
   have hr:=run_append_room_src (P:=P) w t tx ty e i hu hi b 0 xs.length cap (.slice sa ys.length sc) ys.length (ys.map U8) hs hroom
    (λj hj=>by rw[cM hl (List.getElem?_eq_getElem (by simp at hj;rw[hsz];omega)) w hC];rfl) (λj hj=>hb.frozen (by simp at hj;rw[hsz];omega))
   rw[hsz,show 0+xs.length*1=xs.length from by omega]at hr
   refine ⟨_,_,_,.inl (run hr),ay hB,Hq.lays hB.r (ys.map U8) hC hl xs.length, ?_⟩;have hk:=h b (lay xs.length (ys.map U8) c) cap (by rw[jz];exact hc) (by rw[len1];exact hroom) (by rw[len1];exact Hu xs ys c om ht)
   rw[len1]at hk;exact hk
theorem yQ(n:Nat){s t e:TypeId}{x:Operand}{st:ByteArray}{xs:L8}(hf:fs.any (Nat.beq (1000000+t))=true)(hB:BOk G B)(hx:evF F x=some (.string st))(hus:P.underlying s=some .string)(hu:P.underlying t=some (.slice e))(hue:P.underlying e=some (.int .u8))
 (hst:st.data.toList=xs.map (λx=>UInt8.ofBitVec x))
 (hw:aT ops F ⟨some d,.convert s t x,ty,pos,af,gd⟩=some true) (hd:Nat.blt d N=true)
 (h: ∀b c cap,c.length=cap->xs.length<=cap->c.take xs.length=xs.map U8->Lx P G ro ops N ds (EE fs) Z rest ((d,.slice (spt b) xs.length cap)::F) (Hp B ((n,b,c,e)::L)))
 (hgr:fs.any (Nat.beq 2999996)=false:=by rfl):Lx P G ro ops N ds (EE fs) Z (⟨some d,.convert s t x,ty,pos,af,gd⟩::rest) F (Hp B L):=by
 refine eN (hgr:=hgr) hf hw hd (λ_ h=>by cases h) λa w ha hC=> ?_
 have hge:=grownCap_ge w st.size 0 e;have hsz:st.size=xs.length:=by
  have:st.data.toList.length=xs.length:=by rw[hst,List.length_map]
  rw[<-this,Array.length_toList];rfl
 obtain ⟨cc,hcc⟩: ∃cc,xs.map U8++List.replicate (grownCap w st.size 0 e-st.size) (Value.int .u8 0)=cc:=⟨_,rfl⟩;have hcl:cc.length=grownCap w st.size 0 e:=by
  rw[<-hcc];simp;omega
 have hct:cc.take xs.length=xs.map U8:=by rw[<-hcc,List.take_append_of_le_length sm,List.take_of_length_le sm]
 have harr:(st.data.map λb=>Value.int .u8 b.toNat)++Array.replicate (grownCap w st.size 0 e-st.size) (Value.int .u8 0)=cc.toArray:=by
  rw[<-hcc];apply Array.ext';simp only[Array.toList_append,Array.toList_map,hst,List.map_map,Array.toList_replicate];rfl
 have hk:=h w.heap.size cc _ hcl om hct;have hw1:Hp B ((n,w.heap.size,cc,e)::L) (w.drew.alloc (.cells cc.toArray e)):=(hC.grow hB.r ((Below.refl _ w).drew)).alloc hB.r n cc e;have hh:(w.drew.alloc (.cells cc.toArray e)).heap[w.heap.size]? =some (.cells cc.toArray e):=heap_alloc_new w.drew _;have ht:TurnAt w.heap.size (w.drew.alloc (.cells cc.toArray e)) ((w.drew.alloc (.cells cc.toArray e)).freeze ⟨w.heap.size,cc.length,none⟩ 1):=⟨rfl,rfl,rfl,by simp[World.freeze],λk hk=>by simp[World.freeze,Array.getElem?_modify,Ne.symm hk]⟩
 have ho:OwnB ((w.drew.alloc (.cells cc.toArray e)).freeze ⟨w.heap.size,cc.length,none⟩ 1) w.heap.size cc e:=⟨(cc.length,cc.length+1),by
  rw[World.freeze,if_neg dc];show (Array.modify (w.drew.alloc (.cells cc.toArray e)).heap w.heap.size _)[w.heap.size]? =_;rw[Array.getElem?_modify,if_pos O,hh];simp,.inr (Nat.le_refl _)⟩
 have hw2:=hw1.turn hB.r (n:=n) (b:=w.heap.size) (c:=cc) (t:=e) (by simp[lkB]) cc ht ho
 refine ⟨.slice (spt w.heap.size) xs.length (grownCap w st.size 0 e),_,_,.inl ?_,ay hB,hw2.less hB.r ?_,hk⟩
 ·simp only[execOp,ha.ev hx,convert,Sem.run_bind,run_underlying hus,run_underlying hu,run_underlying hue,Result.andThen_ok]
  have hsh:(w.drew.alloc (.cells cc.toArray e)).shape? w.heap.size=some (e,cc.length):=by simp only[World.shape?,hh];simp
  have e1:(Question.appendCap st.size 0 e).cut (w.tape w.drawn (.appendCap st.size 0 e))=grownCap w st.size 0 e:=rfl;rw[<-hsz];simp[Conv.stringToBytes,Question.forced,newRow,e1,harr,markStringish,hsh]
 ·intro m y hy
  rcases aI hy with ⟨rfl,rfl⟩|⟨hne,hy⟩
  ·simp[lkB]
  ·have hb:Nat.beq n m=false:=by
    cases hb:Nat.beq n m with
    |false=>rfl
    |true=>exact absurd (Nat.eq_of_beq_eq_true hb).symm hne
   simp[lkB,hb,hy]
theorem dV(n:Nat)(xs:L8){t e:TypeId}{len:Nat}{ps:List (Nat×Operand)}(hB:BOk G B)(hx:evL F (ps.map (·.2))=some (xs.map U8))(hi:ps.map (·.1)=List.range len)(hn:xs.length=len)(hl:len<=16777216)(h0:len≠0)(hu:P.underlying t=some (.slice e))
 (hs: ∀w,(sizeOf e).run P w=.ok 1 w) (hz: ∀w,(zeroValue e).run P w=.ok (.int .u8 0) w) (hw:aT ops F ⟨some d,.buildSlice t len ps.toArray,ty,pos,af,gd⟩=some true) (hd:Nat.blt d N=true)
 (h: ∀b,Lx P G ro ops N ds (EE fs) Z rest ((d,.slice (spt b) xs.length xs.length)::F) (Hp B ((n,b,xs.map U8,e)::L)))
 (hgr:fs.any (Nat.beq 2999998)=false:=by rfl):Lx P G ro ops N ds (EE fs) Z (⟨some d,.buildSlice t len ps.toArray,ty,pos,af,gd⟩::rest) F (Hp B L):=by
 refine eN (hgr:=hgr) O hw hd (λ_ h=>by cases h) λa w ha hC=> ?_
 refine ⟨.slice (spt w.heap.size) xs.length xs.length,w.alloc (.cells (xs.map U8).toArray e),_,.inl ?_,ay hB,hC.alloc hB.r n (xs.map U8) e,h w.heap.size⟩;have e1:(ps.toArray.map λ(i,x)=>(i,a.eval x))=((List.range len).zip (xs.map U8)).toArray:=by
  rw[<-hi,<-ha.evL hx,List.map_toArray,List.map_map,List.zip_map'];rfl
 have hz1:(Value.int .u8 0).cells= #[Value.int .u8 0]:=rfl;have hf:=kE (xs.map U8) 0 ((Array.range (len*1)).map ((Value.int .u8 0).cells[· % (Value.int .u8 0).cells.size]!)).toList (by simp[hn]) (bY xs)
 rw[jF _ _ (by simp[hn]),<-List.range_eq_range',List.length_map,hn]at hf
 simp only[Array.toArray_toList]at hf;have hlt: ¬(len*1>2^24):=om;show ((do pure (.value (<-Instr.buildSlice t len (ps.toArray.map λ(i,x)=>(i,a.eval x)))):Sem Next)).run P w=_
 rw[e1];have hb:(Instr.buildSlice t len ((List.range len).zip (xs.map U8)).toArray).run P w=.ok (.slice (spt w.heap.size) len len) (w.alloc (.cells (xs.map U8).toArray e)):=by
  have h00: ¬(len*1=0):=om;simp only[Instr.buildSlice,Sem.run_bind,run_underlying hu,Result.andThen_ok,hs,if_neg hlt,if_neg h00,hz,Sem.run_pure,hf];simp[newRow]
 rw[hn];simp only[Sem.run_bind,hb,Result.andThen_ok];rfl
theorem lV(n:Nat){t e:TypeId}{x:Operand}{b len cap:Nat}{c:List Value}(hf:fs.any (Nat.beq (1000000+t))=true)(hB:BOk G B)(hx:evF F x=some (.slice (spt b) len cap))(hl:lkB L n=some (b,c,e))(hu:P.underlying t=some (.slice e))(hue:P.underlying e=some (.int .u8))
 (hw:aT ops F ⟨some d,.convert t t x,ty,pos,af,gd⟩=some true) (hd:Nat.blt d N=true)
 (h:Lx P G ro ops N ds (EE fs) Z rest ((d,.slice (spt b) len cap)::F) (Hp B L))
 (hgr:fs.any (Nat.beq 2999996)=false:=by rfl):Lx P G ro ops N ds (EE fs) Z (⟨some d,.convert t t x,ty,pos,af,gd⟩::rest) F (Hp B L):=by
 refine eN (hgr:=hgr) hf hw hd (λ_ h=>by cases h) λa w ha hC=> ?_
 obtain ⟨fz,h1,h2⟩:=(hC.own n b c e hl).1;have ht:TurnAt b w (w.freeze ⟨b,c.length,none⟩ 1):=⟨rfl,rfl,rfl,by simp[World.freeze],λk hk=>by simp[World.freeze,Array.getElem?_modify,Ne.symm hk]⟩
 have ho:OwnB (w.freeze ⟨b,c.length,none⟩ 1) b c e:=⟨if fz.1==fz.2 then (c.length,c.length+1)else (min fz.1 c.length,max fz.2 (c.length+1)),by
  rw[World.freeze,if_neg dc];show (Array.modify w.heap b _)[b]? =_;rw[Array.getElem?_modify,if_pos O,h1];simp,by
  right;rcases h2 with rfl|h2
  ·simp
  ·split
   ·exact Nat.le_refl _
   ·show c.length<=min fz.1 c.length
    omega⟩
 have hw2:=hC.turn hB.r hl c ht ho;refine ⟨_,_,_,.inl ?_,ay hB,hw2.less hB.r ?_,h⟩
 ·have hsh:w.shape? b=some (e,c.length):=by simp only[World.shape?,h1];simp
  simp only[execOp,ha.ev hx,convert,Sem.run_bind,run_underlying hu,run_underlying hue,Result.andThen_ok];simp[markStringish,hsh]
 ·intro m y hy
  by_cases hm:m=n
  ·subst hm
   rw[hl]at hy
   cases hy
   simp[lkB]
  ·have hb:Nat.beq n m=false:=by
    cases hb:Nat.beq n m with
    |false=>rfl
    |true=>exact absurd (Nat.eq_of_beq_eq_true hb).symm hm
   simp[lkB,hb,hy]
end
section
open Go.RowKit
structure Mod(b:Nat)(w w':World):Prop where
 os:w'.os=w.os
 tape:w'.tape=w.tape
 output:w'.output=w.output
 size:w.heap.size<=w'.heap.size
 other: ∀k,k<w.heap.size->k≠b->w'.heap[k]? =w.heap[k]?
theorem Hq.mod{B:Bs}{L:Hl}{Y:Nat->Prop}{w w':World}(h:Hq B L Y w)(hr:Rides B.J){n b:Nat}{c:List Value}{t:TypeId}(hl:lkB L n=some (b,c,t))(hm:Mod b w w'){c':List Value}(ho:OwnB w' b c' t):Hq B ((n,b,c',t)::L) Y w':=by
 have hlt:=(h.own n b c t hl).1.lt;obtain ⟨fz,h1,h2⟩:=ho;have hp:(w.putObj b (.cells c'.toArray t fz)).heap[b]? =some (.cells c'.toArray t fz):=World.putObj_heap_same hlt;have ht:=h.turn hr hl c' (gT w b (.cells c'.toArray t fz)) ⟨fz,hp,h2⟩;refine ht.grow hr ⟨hm.os,hm.tape,hm.output,by simpa using hm.size,λk hk=> ?_⟩
 by_cases e:k=b
 ·subst e;exact h1.trans hp.symm
 ·rw[World.putObj_heap_other e]
  exact hm.other k (by simpa using hk) e
theorem H9{w:World}{n b:Nat}{c:List Value}{t:TypeId}(h:OwnB w b c t):Hp (plM w (λk=>k=b)) [(n,b,c,t)] w:=
 ⟨rfl,rfl,rfl,Nat.le_refl _,λ_ _ _=>rfl,λm b' c' t' hl=>(by
  rcases aI hl with ⟨_,e⟩|⟨_,hl⟩
  ·cases e;exact ⟨h,.inr O⟩
  ·cases hl),
  λm k b' c1 t1 c2 t2 h1 h2=>(by
   rcases aI h1 with ⟨e1,_⟩|⟨_,h1⟩
   ·rcases aI h2 with ⟨e2,_⟩|⟨_,h2⟩
    ·exact e1.trans e2.symm
    ·cases h2
   ·cases h1),λ_ h=>h.elim,λ_ h=>h.elim,λ_ h=>h.elim,trivial⟩
theorem yX{w w':World}{b:Nat}{L:Hl}{Y:Nat->Prop}(h:Hq (plM w (λk=>k=b)) L Y w'):Mod b w w':=⟨h.os,h.tape,h.output,h.size,λk hk hne=>h.keep k hk hne⟩
theorem Cx{w w':World}{b:Nat}{a:Option Addr}{xs:L8}(h:BytesAt w a xs)(hm:Mod b w w')(ha: ∀ad,a=some ad->ad.block≠b):BytesAt w' a xs:=
 h.of_same λad v hc ho=>by
  have hne:ad.block≠b:=by
   rcases ho with rfl|⟨x,rfl,e⟩
   ·exact ha ad O
   ·exact e▸ha x O
  rw[World.cell?_of_block (w:=w) (hm.other ad.block (block_lt_of_cell hc) hne)];exact hc
theorem rD(ad:Addr)(k:Nat):(ad.add k).block=ad.block:=by unfold Addr.add;split<;>rfl
theorem J7{t e:TypeId}{n:Nat}{x z:Operand}{b o:Nat}{u:BitVec 64}(hx:evF F x=some (.pointer (some ⟨b,o,none⟩)))(hu:P.underlying t=some (.array n e))(hs: ∀w,(sizeOf e).run P w=.ok 1 w)
 (hz:evF F z=some (U64 u)) (hb:u.toNat<n) (hw:aT ops F ⟨some d,.slice t x (some z) none none,ty,pos,af,gd⟩=some true) (hd:Nat.blt d N=true)
 (h:Lx P G ro ops N ds (EE fs) Z rest ((d,.slice (some ⟨b,o+u.toNat,none⟩) (n-u.toNat) (n-u.toNat))::F) C):Lx P G ro ops N ds (EE fs) Z (⟨some d,.slice t x (some z) none none,ty,pos,af,gd⟩::rest) F C:=
 cq (v:=.slice (some ⟨b,o+u.toNat,none⟩) (n-u.toNat) (n-u.toNat)) O hw hd (λ_ h=>by cases h) (λa w ha _=>by
  have hz:=ha.ev hz;have h1:u.toNat<=n:=om;have h2: ¬n=u.toNat:=om;simp only[execOp,ha.ev hx];simp[Instr.sliceAt,run_underlying hu,Instr.sureAddr,Instr.sliceBounds,Instr.sliceBound,asIntOf,U64,hz,hs,h1,h2,Addr.add_mid]) h
theorem IJ{t e:TypeId}{n:Nat}{x z:Operand}{b o:Nat}{u:BitVec 64}(hx:evF F x=some (.pointer (some ⟨b,o,none⟩)))(hu:P.underlying t=some (.array n e))(hs: ∀w,(sizeOf e).run P w=.ok 1 w)
 (hz:evF F z=some (U64 u)) (hb:u.toNat<n) (hw:aT ops F ⟨some d,.slice t x none (some z) none,ty,pos,af,gd⟩=some true) (hd:Nat.blt d N=true)
 (h:Lx P G ro ops N ds (EE fs) Z rest ((d,.slice (some ⟨b,o,none⟩) u.toNat n)::F) C):Lx P G ro ops N ds (EE fs) Z (⟨some d,.slice t x none (some z) none,ty,pos,af,gd⟩::rest) F C:=
 cq (v:=.slice (some ⟨b,o,none⟩) u.toNat n) O hw hd (λ_ h=>by cases h) (λa w ha _=>by
  have hz:=ha.ev hz;have h1:u.toNat<=n:=om;simp only[execOp,ha.ev hx];simp[Instr.sliceAt,run_underlying hu,Instr.sureAddr,Instr.sliceBounds,Instr.sliceBound,asIntOf,U64,hz,hs,h1,Addr.add_mid]) h
theorem GY(k:Nat){t:TypeId}{fields:Array Field}{f:Nat}{fd:Field}{sz:Nat}{x:Operand}{b o:Nat}(hx:evF F x=some (.pointer (some ⟨b,o,none⟩)))(hu:P.underlying t=some (.struct fields))(hf:fields[f]? =some fd)
 (hs: ∀w,(sizeOf fd.type).run P w=.ok sz w) (hz:sz≠0) (hk:o+fd.offset=k) (hw:aT ops F ⟨some d,.fieldAddr t x f,ty,pos,af,gd⟩=some true) (hd:Nat.blt d N=true)
 (h:Lx P G ro ops N ds (EE fs) Z rest ((d,.pointer (some ⟨b,k,none⟩))::F) C):Lx P G ro ops N ds (EE fs) Z (⟨some d,.fieldAddr t x f,ty,pos,af,gd⟩::rest) F C:=
 WZ hx hu hf hs hz hw hd (by rw[hk];exact h)
theorem EG(n:Nat){t et:TypeId}{x:Operand}{b o m:Nat}{c cs:List Value}(hx:evF F x=some (.pointer (some ⟨b,o,none⟩)))(hl:lkB L n=some (b,c,et))(hag: ∀w,(isAgg t).run P w=.ok true w)(hs: ∀w,(sizeOf t).run P w=.ok m w)(hm:cs.length=m)
 (hc: ∀j v,cs[j]? =some v->c[o+j]? =some v) (hw:aT ops F ⟨some d,.load t x,ty,pos,af,gd⟩=some true) (hd:Nat.blt d N=true)
 (h:Lx P G ro ops N ds (EE fs) Z rest ((d,.agg cs.toArray)::F) (Hp B L)):Lx P G ro ops N ds (EE fs) Z (⟨some d,.load t x,ty,pos,af,gd⟩::rest) F (Hp B L):=
 de hx hag hs hm (pT (n:=n) hl hc) hw hd h
section
variable {K:KK}
theorem du{Z:List Deferred->Fr->Cls->Prop}{C:Cls}{i:Nat}(h:K (.exit i) ds F C):rp Z K (.exit i) ds F C:=h
theorem ck{id:Nat}{C:Cls}(h:K .normal ds F C):tD id K (.exit id) ds F C:=by
 show (bif Nat.beq id id then K .normal else K (.exit id)) ds F C
 rw[Nat.beq_refl];exact h
end
end
section
open Go.RowKit
theorem BytesAt.cut{w:World}{a:Option Addr}{rs:L8}(h:BytesAt w a rs){cap:Nat}(l k:Nat)(hc:rs.length<=cap):BytesAt w (if cap=l then a else a.map (·.add (l*1))) ((rs.drop l).take k):=by
 rcases Nat.eq_zero_or_pos l with rfl|hl
 ·have e:(if cap=0 then a else a.map (·.add (0*1)))=a:=by
   cases a with
   |none=>simp
   |some ad=>simp[Addr.add]
  rw[e];exact h.take k
 ·exact (h.drop hc om).take k
theorem BytesAt.lt{w:World}{a:Option Addr}{rs:L8}(h:BytesAt w a rs)(hn:rs≠[]): ∀ad,a=some ad->ad.block<w.heap.size:=by
 intro ad e;subst e
 cases rs with
 |nil=>exact (hn O).elim
 |cons x r=>
  obtain ⟨ad',e,hc⟩:=h 0 (U8 x) O
  cases e
  rcases Nat.lt_or_ge ad.block w.heap.size with h'|h'
  ·exact h'
  ·have:w.heap[(ad.add 0).block]? =none:=Array.getElem?_eq_none (by rw[rD];exact h')
   simp[World.cell?,this]at hc
theorem gA(k:Nat){t e:TypeId}{len cap:Nat}{x ix:Operand}{ad:Addr}{i:Int}(hx:evF F x=some (.slice (some ad) len cap))(hi:evF F ix=some (I i))(hu:P.underlying t=some (.slice e))
 (hs: ∀w,(sizeOf e).run P w=.ok 1 w) (hk:i=(k:Int)) (hb:k<len) (hw:aT ops F ⟨some d,.indexAddr t x ix,ty,pos,af,gd⟩=some true) (hd:Nat.blt d N=true)
 (h:Lx P G ro ops N ds (EE fs) Z rest ((d,.pointer (some (ad.add k)))::F) C):Lx P G ro ops N ds (EE fs) Z (⟨some d,.indexAddr t x ix,ty,pos,af,gd⟩::rest) F C:=
 cq (v:=.pointer (some (ad.add k))) O hw hd (λ_ h=>by cases h) (λa w ha _=>by
  subst hk;have h1: ¬len<=k:=om;simp only[execOp,ha.ev hx,ha.ev hi];simp[Instr.indexAt,asIntOf,run_underlying hu,hs,h1]) h
end
section
open Go.RowKit
theorem el{t:TypeId}{l:List Value}{fields:Array Field}(hz: ∀w,(zeroValue t).run P w=.ok (.agg l.toArray) w)(hu:P.underlying t=some (.struct fields))(hm: ∀w,∃a,(Array.mapM (λf=>Prod.mk f.offset<$>sizeOf f.type) fields:Sem _).run P w=.ok a w)
 (hw:aT ops F ⟨some d,.build t #[],ty,pos,af,gd⟩=some true) (hd:Nat.blt d N=true)
 (h:Lx P G ro ops N ds (EE fs) Z rest ((d,.agg l.toArray)::F) C):Lx P G ro ops N ds (EE fs) Z (⟨some d,.build t #[],ty,pos,af,gd⟩::rest) F C:=
 cq (v:=.agg l.toArray) O hw hd (λ_ h=>by cases h) (λa w _ _=>by
  obtain ⟨q,hq⟩:=hm w;simp[execOp,Instr.build,hz,run_underlying hu,Value.cells,hq,Instr.fill]) h
theorem FX(n1 n2:Nat){fn:Func}{R:Ending->World->Prop}{t1 t2:Nat}{T1 T2 et1 et2:TypeId}{b1 b2 m1 m2:Nat}{c1 c2:List Value}(hr:fn.results= #[.cell t1 T1,.cell t2 T2])
 (hv1:lk F t1=some (pnt b1)) (hv2:lk F t2=some (pnt b2)) (hl1:lkB L n1=some (b1,c1,et1)) (hl2:lkB L n2=some (b2,c2,et2))
 (hag1: ∀w,(isAgg T1).run P w=.ok true w) (hs1: ∀w,(sizeOf T1).run P w=.ok m1 w) (hm1:c1.length=m1) (hag2: ∀w,(isAgg T2).run P w=.ok true w) (hs2: ∀w,(sizeOf T2).run P w=.ok m2 w) (hm2:c2.length=m2)
 (h: ∀w,Hp B L w->R (.returned (.tuple #[.agg c1.toArray,.agg c2.toArray])) w):lW P fn R .ret [] F (Hp B L):=
 ⟨rfl,λa w ha hC=>⟨.tuple #[.agg c1.toArray,.agg c2.toArray],by
  have e1:=run_loadCells_list (P:=P) w ⟨b1,0,none⟩ c1 (λj v hv=>by rw[Addr.add_mid];exact aG (n:=n1) hl1 w hC j v hv)
  have e2:=run_loadCells_list (P:=P) w ⟨b2,0,none⟩ c2 (λj v hv=>by rw[Addr.add_mid];exact aG (n:=n2) hl2 w hC j v hv)
  rw[hm1]at e1;rw[hm2]at e2;simp[results,hr,ha.get t1 _ hv1,ha.get t2 _ hv2,asAddr,loadVar,hag1,hs1,hag2,hs2,e1,e2],h w hC⟩⟩
end
section
open Go.RowKit
def strB(xs:L8):ByteArray:=(xs.map λb=>(b.toNat:Int)).foldl (λr n=>r.push (UInt8.ofNat n.toNat)) ByteArray.empty
theorem uW{src dst e:TypeId}(hs:P.underlying src=some (.slice e))(he:P.underlying e=some (.int .u8))(hd:P.underlying dst=some .string){w:World}{a:Option Addr}{xs:L8}(h:BytesAt w a xs)(len cap:Nat)(hl:xs.length=len):
 (convert src dst (.slice a len cap)).run P w=.ok (.string (strB xs)) w:=by
 subst hl;rw[run_convert_bytes_string w src dst e a _ cap hs he hd]
 cases a with
 |none=>
  have h0:xs=[]:=by
   cases xs with
   |nil=>rfl
   |cons x r=>obtain ⟨ad,e,_⟩:=h 0 (U8 x) O;cases e
  subst h0;simp only[Conv.bytesToString,Sem.run_pure];rfl
 |some ad=>
  have hc:=run_loadCells_list (P:=P) w ad (xs.map U8) (λj v hv=>by obtain ⟨ad',e,hc⟩:=h j v hv;cases e;exact hc)
  rw[List.length_map]at hc;exact run_bytesToString w ad _ cap (xs.map λb=>(b.toNat:Int)) (by rw[hc,List.map_map];rfl)
theorem w9(t:TypeId)(s:ByteArray)(w:World):(binOp .eql t (.string s) (.string s)).run P w=.ok (.bool true) w:=by
 rw[binOp_string_eql];simp
end
section
open Go.RowKit
def Sr:List Oper->Nat->Option Oper
 |[],_=>none
 |x::_,0=>some x
 |_::r,n+1=>Sr r n
def fT:List Nat->List Oper->List Oper
 |[],_=>[]
 |k::σ,l=>match Sr l k with
  |some o=>o::fT σ l
  |none=>fT σ l
theorem Bu: ∀(l:List Oper) (k:Nat),Sr l k=l[k]?
 |[],_=>rfl
 |_::_,0=>rfl
 |_::r,k+1=>Bu r k
theorem iK(l:List Oper): ∀σ:List Nat,σ.filterMap (l.toArray[·]?)=fT σ l
 |[]=>rfl
 |k::σ=>by
  have ih:=iK l σ;simp only[List.getElem?_toArray]at ih;simp only[List.filterMap_cons,fT,Bu,List.getElem?_toArray]
  cases l[k]? with
  |none=>exact ih
  |some o=>simp only[ih]
section
variable {K:KK}
theorem Bo{id:Nat}{l:List Oper}{E:Oper->Bool}(σ:List Nat)(hm:P.follows .mixedOrders=true)(hlen:σ.length=l.length)(hsel:Region.noSelect l.toArray=true)(hdef:db l.toArray=true)
 (hok:eQ .any l.toArray E σ (Array.replicate l.toArray.size false)=true) (h:Lx P G ro l.toArray N ds E (K .normal ds) (fT σ l) F C):X P G ro N ds (.region id l.toArray true) F C K:=
 Gm σ hm hlen hsel hdef hok (by rw[iK];exact h)
theorem Fy{id:Nat}{l:List Oper}{E:Oper->Bool}{y:Code}(σ:List Nat)(hm:P.follows .mixedOrders=true)(hlen:σ.length=l.length)(hsel:Region.noSelect l.toArray=true)(hdef:db l.toArray=true)
 (hok:eQ .any l.toArray E σ (Array.replicate l.toArray.size false)=true) (h:Lx P G ro l.toArray N ds E (λF' C'=>X P G ro N ds y F' C' K) (fT σ l) F C):X P G ro N ds (.seq (.region id l.toArray true) y) F C K:=
 ae (Bo σ hm hlen hsel hdef hok h)
end
theorem bO{B:Bs}{L:Hl}{Y:Nat->Prop}{n:Nat}{x:Nat×List Value×TypeId}(hr:Rides B.J)(hn:lkB L n=none): ∀w,Hq B ([(n,x)]++L) Y w->Hq B L Y w:=λ_ h=>h.less hr λm y hy=>by
 show (bif Nat.beq n m then some x else lkB L m)=some y
 cases hb:Nat.beq n m with
 |false=>exact hy
 |true=>
  have:=Nat.eq_of_beq_eq_true hb;subst this;rw[hn]at hy
  cases hy
theorem xx(n:Nat){t tx e e':TypeId}{x y:Operand}{a0 sa:Option Addr}{cap sc:Nat}{xs ys:L8}(hB:BOk G B)(hx:evF F x=some (.slice a0 xs.length cap))(hy:evF F y=some (.slice sa ys.length sc))
 (hu:P.underlying t=some (.slice e)) (hux:P.underlying tx=some (.slice e')) (hi:TI P e (.int .u8 0) 1 1) (hold: ∀w,Hp B L w->BytesAt w a0 xs) (hsrc: ∀w,Hp B L w->BytesAt w sa ys) (hlen:xs.length+ys.length<=70368744177664) (hg:cap<xs.length+ys.length)
 (hw:aT ops F ⟨some d,.call {callee:=.builtin .append,args:= #[x,y],argTypes:= #[t,tx]},ty,pos,af,gd⟩=some true) (hd:Nat.blt d N=true)
 (h: ∀b c cap1,c.length=cap1->(xs++ys).length<=cap1->c.take (xs++ys).length=(xs++ys).map U8->Lx P G ro ops N ds (EE fs) Z rest ((d,.slice (spt b) (xs++ys).length cap1)::F) (Hp B ((n,b,c,e)::L)))
 (hgr:fs.any (Nat.beq 2999997)=false:=by rfl):
 Lx P G ro ops N ds (EE fs) Z (⟨some d,.call {callee:=.builtin .append,args:= #[x,y],argTypes:= #[t,tx]},ty,pos,af,gd⟩::rest) F (Hp B L):=by
 obtain ⟨i,hi,hz,hsz,hby⟩:=hi;refine eN (hgr:=hgr) O hw hd (λ_ h=>by cases h) λa w ha hC=> ?_
 have hs:Src P i.size tx (.slice sa ys.length sc) ys.length (ys.map U8) w:=by rw[hsz];exact r3 hux (hsrc w hC)
 have run: ∀{v:Value} {w':World},(Builtin.append_ #[t,tx] ty #[.slice a0 xs.length cap,.slice sa ys.length sc]).run P w=.ok v w'->
  (execOp a.eval ⟨some d,.call {callee:=.builtin .append,args:= #[x,y],argTypes:= #[t,tx]},ty,pos,af,gd⟩).run P w=.ok (.value v) w':=λ{v w'} hr=>by
  simp only[execOp,resolve,invoke,builtin,Sem.run_bind,Sem.run_pure,Result.andThen_ok,List.map_toArray,List.map_cons,List.map_nil,ha.ev hx,ha.ev hy,hr]
 have len1:(xs++ys).length=xs.length+ys.length:=sm;have hold:(Builtin.firstCells i.size xs.length (.slice a0 xs.length cap)).run P w.drew=.ok (xs.map U8).toArray w.drew:=by
  have hb:=hold w hC
  cases a0 with
  |none=>
   have:xs=[]:=by
    cases xs with
    |nil=>rfl
    |cons x r=>obtain ⟨_,e,_⟩:=hb 0 (U8 x) sm;cases e
   subst this;exact run_firstCells_none _ _ _ _ _
  |some ad=>
   refine run_firstCells_some _ _ _ _ _ _ _ (by simp[hsz]) (λj v hv=> ?_)
   obtain ⟨ad',e,hc⟩:=hb j v hv
   cases e
   exact hc
 have hr:=run_append_grow_src (P:=P) w t tx ty e i (.int .u8 0) hu hi hz a0 xs.length cap (xs.map U8) hold (.slice sa ys.length sc) ys.length (ys.map U8) hs hg om (by rw[hby];exact growslice_fits hg om)
 have hge:=grownCap_ge w (xs.length+ys.length) cap e;obtain ⟨cc,hcc⟩: ∃cc,(xs++ys).map U8++(Builtin.zeroCells (Value.int .u8 0).cells (grownCap w (xs.length+ys.length) cap e-(xs.length+ys.length))).toList=cc:=⟨_,rfl⟩;have hcl:cc.length=grownCap w (xs.length+ys.length) cap e:=by
  rw[<-hcc];simp only[List.length_append,List.length_map,Array.length_toList,size_zeroCells];show _+_*1=_;omega
 have hct:cc.take (xs++ys).length=(xs++ys).map U8:=by rw[<-hcc,List.take_append_of_le_length sm,List.take_of_length_le sm]
 have harr:(xs.map U8++ys.map U8).toArray++Builtin.zeroCells (Value.int .u8 0).cells (grownCap w (xs.length+ys.length) cap e-(xs.length+ys.length))=cc.toArray:=by
  rw[<-hcc];apply Array.ext';simp
 rw[harr]at hr;have hk:=h w.heap.size cc _ hcl (by rw[len1];exact hge) hct
 rw[len1]at hk;exact ⟨_,_,_,.inl (run hr),ay hB,(hC.grow hB.r ((Below.refl _ w).drew)).alloc hB.r n cc e,hk⟩
end
section
open Go.RowKit
def Kng(K:KK):KK
 | .goto _=>λ_ _ _=>False
 |e=>K e
section
variable {K:KK}
theorem FH(h:K .normal ds F C):Kng K .normal ds F C:=h
theorem eY(h:K .ret ds F C):Kng K .ret ds F C:=h
theorem dK{id i:Nat}(hi:Nat.beq i id=false)(h:K (.exit i) ds F C):tD id K (.exit i) ds F C:=by
 simp only[tD,hi,cond_false];exact h
theorem mh{l:Nat}(h:K .normal ds F C):X P G ro N ds (.label l) F C K:=λhS _ _ ha hw=>wpIn_label ⟨ds,F,C,hS,ha,hw,h⟩
theorem lj{c:Code}(h:X P G none N ds c F C (Kng K)):X P G none N ds (.scope c) F C K:=λhS a w ha hw=>by
 refine wpIn_wide.2 (wp_scope_straight (wpIn_wide.1 (wpIn_mono (h hS a w ha hw) λe a' w' hq=> ?_)))
 cases e with
 |goto l=>obtain ⟨_,_,_,_,_,_,h⟩:=hq;exact h.elim
 |_=>exact hq
end
theorem bX{f:Nat}{al:List Operand}{at':Array TypeId}{vs:List Value}{v:Value}(hf:fs.any (Nat.beq f)=false)(ha:evL F al=some vs)(hr: ∀w,(callFunc f vs.toArray).run P w=.ok (.value v) w)
 (hw:aT ops F ⟨some d,.call {callee:=.value (.func f),args:=al.toArray,argTypes:=at'},ty,pos,af,gd⟩=some true) (hd:Nat.blt d N=true)
 (h:Lx P G ro ops N ds (EE fs) Z rest ((d,v)::F) C):Lx P G ro ops N ds (EE fs) Z (⟨some d,.call {callee:=.value (.func f),args:=al.toArray,argTypes:=at'},ty,pos,af,gd⟩::rest) F C:=
 cq (v:=v) (by simpa [EE]using hf) hw hd (λ_ h=>by cases h) (λa w hA _=>by
  have e:=hA.evL ha;simp only[execOp,resolve,invoke,Sem.run_bind,Sem.run_pure,Result.andThen_ok,List.map_toArray,e,Act.eval,Deferred.ofValue];simp[hr w]) h
theorem aZ(n:Nat){fn:Func}{R:Ending->World->Prop}{t1 t2:Nat}{T et:TypeId}{b m:Nat}{c:List Value}{v:Value}(hr:fn.results= #[.cell t1 T,.tmp t2])
 (hv1:lk F t1=some (pnt b)) (hv2:lk F t2=some v) (hl:lkB L n=some (b,c,et))
 (hag: ∀w,(isAgg T).run P w=.ok true w) (hs: ∀w,(sizeOf T).run P w=.ok m w) (hm:c.length=m)
 (h: ∀w,Hp B L w->R (.returned (.tuple #[.agg c.toArray,v])) w):lW P fn R .ret [] F (Hp B L):=
 ⟨rfl,λa w ha hC=>⟨.tuple #[.agg c.toArray,v],by
  have e1:=run_loadCells_list (P:=P) w ⟨b,0,none⟩ c (λj v hv=>by rw[Addr.add_mid];exact aG (n:=n) hl w hC j v hv)
  rw[hm]at e1;simp[results,hr,ha.get t1 _ hv1,ha.get t2 _ hv2,asAddr,loadVar,hag,hs,e1],h w hC⟩⟩
theorem cg{fn:Func}{R:Ending->World->Prop}{t1 t2:Nat}{v1 v2:Value}(hr:fn.results= #[.tmp t1,.tmp t2])(hv1:lk F t1=some v1)(hv2:lk F t2=some v2)
 (h: ∀w,C w->R (.returned (.tuple #[v1,v2])) w):lW P fn R .ret [] F C:=
 ⟨rfl,λa w ha hC=>⟨.tuple #[v1,v2],by simp[results,hr,ha.get t1 _ hv1,ha.get t2 _ hv2],h w hC⟩⟩
theorem Rz{α:Type} [DecidableEq α](xs ys:List α)(hl:xs.length=ys.length):(List.range' 0 xs.length).all (λi=>xs[i]? ==ys[i]?)=decide (xs=ys):=by
 by_cases h:xs=ys
 ·subst h;simp
 ·rw[decide_eq_false h]
  cases hb:(List.range' 0 xs.length).all (λi=>xs[i]? ==ys[i]?)with
  |false=>rfl
  |true=>
   exfalso;apply h;apply List.ext_getElem? ;intro i;rcases Nat.lt_or_ge i xs.length with hi|hi
   ·have:=List.all_eq_true.1 hb i (by simp[List.mem_range'_1];exact hi)
    simpa using this
   ·rw[List.getElem?_eq_none hi,List.getElem?_eq_none om]
theorem Qr{t e:TypeId}{n:Nat}(hu:P.underlying t=some (.array n e))(he:P.underlying e=some (.int .u64))(hs: ∀w,(sizeOf e).run P w=.ok 1 w)(hag: ∀w,(isAgg e).run P w=.ok false w)(xs ys:L6)(hl:xs.length=n)(hl':ys.length=n)(d:Nat)(w:World):
 (Op.equalIn (d+2) t (aJ xs) (aJ ys)).run P w=.ok (decide (xs=ys)) w:=by
 simp only[Op.equalIn,Sem.run_bind,run_underlying hu,Result.andThen_ok,hs];rw[Std.Legacy.Range.forIn_eq_forIn_range'];have key: ∀is:List Nat,(∀i∈is,i<xs.length)->∀{β:Type} (f:Nat->β->Sem (ForInStep β)) (b b1:β),(∀i,i<xs.length->(f i b).run P w=.ok (if xs[i]? ==ys[i]? then .yield b else .done b1) w)->(forIn is b f).run P w=.ok (if is.all (λi=>xs[i]? ==ys[i]?)then b else b1) w:=by
  intro is
  induction is with
  |nil=>intro _ β f b b1 _;simp
  |cons i r ih=>
   intro hi β f b b1 hf;rw[List.forIn_cons,Sem.run_bind,hf i (hi i sm),Result.andThen_ok,List.all_cons]
   cases hb:(xs[i]? ==ys[i]?)with
   |true=>simpa using ih (λj hj=>hi j (by simp[hj])) f b b1 hf
   |false=>simp
 rw[key _ (by intro i hi;simp at hi;omega) _ _ ⟨some false,()⟩ ?_]
 ·have hr:(List.range' 0 n 1)=List.range' 0 xs.length:=by rw[hl]
  have:=Rz xs ys om;simp only[Std.Legacy.Range.size,Nat.sub_zero,Nat.add_sub_cancel,Nat.div_one]at*;rw[hr,this]
  cases decide (xs=ys)<;>simp
 ·intro i hi
  have hi':i<ys.length:=om;have hg:(xs.map U64).toArray[i*1]? =some (U64 xs[i]):=by simp[hi]
  have hg':(ys.map U64).toArray[i*1]? =some (U64 ys[i]):=by simp[hi']
  have hp:(part e (xs.map U64).toArray (i*1)).run P w=.ok (U64 xs[i]) w:=by
   simp only[part,Sem.run_bind,hag,Result.andThen_ok,Bool.false_eq_true,if_false,hg,Sem.run_pure]
  have hp':(part e (ys.map U64).toArray (i*1)).run P w=.ok (U64 ys[i]) w:=by
   simp only[part,Sem.run_bind,hag,Result.andThen_ok,Bool.false_eq_true,if_false,hg',Sem.run_pure]
  have hb:(xs[i]? ==ys[i]?)=(((xs[i].toNat:Int))==((ys[i].toNat:Int))):=by
   rw[List.getElem?_eq_getElem hi,List.getElem?_eq_getElem hi'];by_cases h:xs[i]=ys[i]
   ·simp[h]
   ·have h2: ¬((xs[i].toNat:Int))=((ys[i].toNat:Int)):=λe=>h (BitVec.eq_of_toNat_eq om)
    rw[beq_eq_false_iff_ne.2 h2];simpa using h
  rw[hb];simp only[Sem.run_bind,hp,hp',Result.andThen_ok];simp only[run_underlying he,U64,Result.andThen_ok]
  cases ((xs[i].toNat:Int))==((ys[i].toNat:Int))<;>simp
theorem qZ{t e:TypeId}{n:Nat}(hu:P.underlying t=some (.array n e))(he:P.underlying e=some (.int .u64))(hs: ∀w,(sizeOf e).run P w=.ok 1 w)(hag: ∀w,(isAgg e).run P w=.ok false w)(xs ys:L6)(hl:xs.length=n)(hl':ys.length=n)(w:World):
 (binOp .eql t (aJ xs) (aJ ys)).run P w=.ok (.bool (decide (xs=ys))) w:=by
 rw[run_eql_struct,Qr hu he hs hag xs ys hl hl' 9998 w];rfl
end
section
open Go.RowKit
def CellsAt(w:World)(a:Option Addr)(cs:List Value):Prop:= ∀j v,cs[j]? =some v->∃ad,a=some ad/\w.cell? (ad.add j)=some v
theorem CellsAt.range{w:World}{b o:Nat}{cs:List Value}(h:w.rangeAt b o cs):CellsAt w (some ⟨b,o,none⟩) cs:=λj v hv=>⟨_,rfl,by rw[Addr.add_mid];exact h j v hv⟩
def OwnV(L:Hl)(n:Nat)(e:TypeId)(a0:Option Addr)(cap:Nat)(xs:List Value):Prop:=
 (a0=none/\xs=[]/\cap=0)\/∃b c,a0=some ⟨b,0,none⟩/\lkB L n=some (b,c,e)/\c.length=cap/\xs.length<=cap/\c.take xs.length=xs
theorem Dh(L:Hl)(n:Nat)(e:TypeId):OwnV L n e none 0 []:=.inl ⟨rfl,rfl,rfl⟩
theorem sf(xs ys c:List Value)(h:xs.length+ys.length<=c.length)(hc:c.take xs.length=xs):(lay xs.length ys c).take (xs.length+ys.length)=xs++ys:=by
 have h1:(c.take xs.length).length=xs.length:=by rw[hc]
 rw[jc _ _ _ h,List.take_append_of_le_length (by simp;omega),List.take_of_length_le (by simp;omega),hc]
theorem wV(n:Nat){t tx e e':TypeId}{x y:Operand}{a0:Option Addr}{cap sb so sc by_:Nat}{xs ys:List Value}{z:Value}(hB:BOk G B)(hx:evF F x=some (.slice a0 xs.length cap))(hy:evF F y=some (.slice (some ⟨sb,so,none⟩) ys.length sc))
 (hu:P.underlying t=some (.slice e)) (hux:P.underlying tx=some (.slice e')) (hi:TI P e z 1 by_) (hz1:z.cells.size=1) (hown:OwnV L n e a0 cap xs) (hsrc: ∀w,Hp B L w->w.rangeAt sb so ys) (hone:ys.all (·.oneCell')=true) (hne:ys≠[]) (hlen:(xs.length+ys.length)*by_<=140737488355328) (h63:xs.length+ys.length<=4611686018427387904)
 (hw:aT ops F ⟨some d,.call {callee:=.builtin .append,args:= #[x,y],argTypes:= #[t,tx]},ty,pos,af,gd⟩=some true) (hd:Nat.blt d N=true)
 (h: ∀b c cap1,c.length=cap1->(xs++ys).length<=cap1->c.take (xs++ys).length=xs++ys->Lx P G ro ops N ds (EE fs) Z rest ((d,.slice (spt b) (xs++ys).length cap1)::F) (Hp B ((n,b,c,e)::L)))
 (hgr:fs.any (Nat.beq 2999997)=false:=by rfl):
 Lx P G ro ops N ds (EE fs) Z (⟨some d,.call {callee:=.builtin .append,args:= #[x,y],argTypes:= #[t,tx]},ty,pos,af,gd⟩::rest) F (Hp B L):=by
 obtain ⟨i,hi,hz,hsz,hby⟩:=hi;refine eN (hgr:=hgr) O hw hd (λ_ h=>by cases h) λa w ha hC=> ?_
 have hs:Src P i.size tx (.slice (some ⟨sb,so,none⟩) ys.length sc) ys.length ys w:=by
  rw[hsz];exact Src.ofSlice w hux ⟨sb,so,none⟩ ys.length sc ys sm (λj u hu=>by rw[Addr.add_mid];exact hsrc w hC j u hu) (λu hu=>List.all_eq_true.1 hone u hu)
 have run: ∀{v:Value} {w':World},(Builtin.append_ #[t,tx] ty #[.slice a0 xs.length cap,.slice (some ⟨sb,so,none⟩) ys.length sc]).run P w=.ok v w'->
  (execOp a.eval ⟨some d,.call {callee:=.builtin .append,args:= #[x,y],argTypes:= #[t,tx]},ty,pos,af,gd⟩).run P w=.ok (.value v) w':=λ{v w'} hr=>by
  simp only[execOp,resolve,invoke,builtin,Sem.run_bind,Sem.run_pure,Result.andThen_ok,List.map_toArray,List.map_cons,List.map_nil,ha.ev hx,ha.ev hy,hr]
 have len1:(xs++ys).length=xs.length+ys.length:=sm;rcases Nat.lt_or_ge cap (xs.length+ys.length)with hg|hroom
 ·have hold:(Builtin.firstCells i.size xs.length (.slice a0 xs.length cap)).run P w.drew=.ok xs.toArray w.drew:=by
   rcases hown with ⟨rfl,rfl,rfl⟩|⟨b,c,rfl,hl,hc,hle,ht⟩
   ·exact run_firstCells_none _ _ _ _ _
   ·refine run_firstCells_some _ _ _ _ _ _ _ (by simp[hsz]) (λj v hv=> ?_)
    rw[Addr.add_mid,Nat.zero_add];have hcj:c[j]? =some v:=by
     have:(c.take xs.length)[j]? =some v:=by rw[ht];exact hv
     rw[List.getElem?_take]at this;split at this
     ·exact this
     ·cases this
    exact cM hl hcj w hC
  have hr:=run_append_grow_src (P:=P) w t tx ty e i z hu hi hz a0 xs.length cap xs hold (.slice (some ⟨sb,so,none⟩) ys.length sc) ys.length ys hs hg om (by rw[hby];exact growslice_fits hg hlen)
  have hge:=grownCap_ge w (xs.length+ys.length) cap e;obtain ⟨cc,hcc⟩: ∃cc,xs++ys++(Builtin.zeroCells z.cells (grownCap w (xs.length+ys.length) cap e-(xs.length+ys.length))).toList=cc:=⟨_,rfl⟩;have hcl:cc.length=grownCap w (xs.length+ys.length) cap e:=by
   rw[<-hcc];simp only[List.length_append,Array.length_toList,size_zeroCells,hz1];omega
  have hct:cc.take (xs++ys).length=xs++ys:=by rw[<-hcc,List.take_append_of_le_length sm,List.take_of_length_le sm]
  have harr:(xs++ys).toArray++Builtin.zeroCells z.cells (grownCap w (xs.length+ys.length) cap e-(xs.length+ys.length))=cc.toArray:=by
   rw[<-hcc];apply Array.ext';simp
  rw[harr]at hr;have hk:=h w.heap.size cc _ hcl (by rw[len1];exact hge) hct
  rw[len1]at hk;exact ⟨_,_,_,.inl (run hr),ay hB,(hC.grow hB.r ((Below.refl _ w).drew)).alloc hB.r n cc e,hk⟩
 ·rcases hown with ⟨rfl,rfl,rfl⟩|⟨b,c,rfl,hl,hc,hle,ht⟩
  ·exfalso
   cases ys with
   |nil=>exact hne O
   |cons y r=>simp at hroom
  ·have hb:=(hC.own n b c e hl).1
   have hr:=run_append_room_src (P:=P) w t tx ty e i hu hi b 0 xs.length cap (.slice (some ⟨sb,so,none⟩) ys.length sc) ys.length ys hs hroom
    (λj hj=>by rw[cM hl (List.getElem?_eq_getElem (by rw[hsz];omega)) w hC];rfl) (λj hj=>hb.frozen (by rw[hsz];omega))
   rw[hsz,show 0+xs.length*1=xs.length from by omega]at hr
   refine ⟨_,_,_,.inl (run hr),ay hB,Hq.lays hB.r ys hC hl xs.length, ?_⟩;have hk:=h b (lay xs.length ys c) cap (by rw[jz];exact hc) (by rw[len1];exact hroom) (by rw[len1];exact sf xs ys c om ht)
   rw[len1]at hk;exact hk
theorem sF(n:Nat)(xs:List Value){t e:TypeId}{len:Nat}{z:Value}{ps:List (Nat×Operand)}(hB:BOk G B)(hx:evL F (ps.map (·.2))=some xs)(hi:ps.map (·.1)=List.range len)(hn:xs.length=len)(hl:len<=16777216)(h0:len≠0)(hu:P.underlying t=some (.slice e))
 (hs: ∀w,(sizeOf e).run P w=.ok 1 w) (hz: ∀w,(zeroValue e).run P w=.ok z w) (hone:xs.all (·.oneCell')=true) (hw:aT ops F ⟨some d,.buildSlice t len ps.toArray,ty,pos,af,gd⟩=some true) (hd:Nat.blt d N=true)
 (h: ∀b,Lx P G ro ops N ds (EE fs) Z rest ((d,.slice (spt b) xs.length xs.length)::F) (Hp B ((n,b,xs,e)::L)))
 (hgr:fs.any (Nat.beq 2999998)=false:=by rfl):Lx P G ro ops N ds (EE fs) Z (⟨some d,.buildSlice t len ps.toArray,ty,pos,af,gd⟩::rest) F (Hp B L):=by
 refine eN (hgr:=hgr) O hw hd (λ_ h=>by cases h) λa w ha hC=> ?_
 refine ⟨.slice (spt w.heap.size) xs.length xs.length,w.alloc (.cells xs.toArray e),_,.inl ?_,ay hB,hC.alloc hB.r n xs e,h w.heap.size⟩;have e1:(ps.toArray.map λ(i,x)=>(i,a.eval x))=((List.range len).zip xs).toArray:=by
  rw[<-hi,<-ha.evL hx,List.map_toArray,List.map_map,List.zip_map'];rfl
 have hf:=kE xs 0 ((Array.range (len*1)).map (z.cells[· % z.cells.size]!)).toList (by simp[hn]) hone
 rw[jF _ _ (by simp[hn]),<-List.range_eq_range',hn]at hf
 simp only[Array.toArray_toList]at hf;have hlt: ¬(len*1>2^24):=om;show ((do pure (.value (<-Instr.buildSlice t len (ps.toArray.map λ(i,x)=>(i,a.eval x)))):Sem Next)).run P w=_
 rw[e1];have hb:(Instr.buildSlice t len ((List.range len).zip xs).toArray).run P w=.ok (.slice (spt w.heap.size) len len) (w.alloc (.cells xs.toArray e)):=by
  have h00: ¬(len*1=0):=om;simp only[Instr.buildSlice,Sem.run_bind,run_underlying hu,Result.andThen_ok,hs,if_neg hlt,if_neg h00,hz,Sem.run_pure,hf];simp[newRow]
 rw[hn];simp only[Sem.run_bind,hb,Result.andThen_ok];rfl
end
section
open Go.RowKit
section
variable {md:Region.Mode} {E:Oper->Bool} {Q:Exit->Act->World->Prop}
def fL(σ:List Nat)(listed:Array Bool):Array Bool:=σ.foldl (λl k=>l.setIfInBounds k true) listed
def nW(md:Region.Mode)(ops:Array Oper)(E:Oper->Bool):List Nat->Array Bool->Bool
 |[],_=>true
 |k::σ,listed=>
  match ops[k]? with
  |none=>false
  |some o=>
   (Region.ready md ops listed).contains k &&
   (bif E o then decide (Region.ready md ops listed=[k])
    else Region.free md ops listed k && (!eT o||(List.range ops.size).all λj=>listed.getD j true|| !((ops[j]?).any E)||(ops[j]?).any (λoj=>E (ig oj))||qF md ops j k)) &&
   nW md ops E σ (listed.setIfInBounds k true)
theorem mN{Z:Fr->Cls->Prop}{m:Nat}(hsel:Region.noSelect ops=true)(hdef:db ops=true):
 ∀(σ:List Nat) (listed:Array Bool) (F:Fr) (C:Cls) (a:Act),Closed md ops listed->nW md ops E σ listed=true->Has N ds F a->dJ G C->
  (∀F' C' a',Closed md ops (fL σ listed)->Has N ds F' a'->dJ G C'->Z F' C'->kf P G ro md ops Q E m (fL σ listed) a' C')->
  Lx P G ro ops N ds E Z (σ.filterMap (ops[·]?)) F C->kf P G ro md ops Q E (σ.length+m) listed a C
 |[],listed,F,C,a,hc,_,ha,hS,hb,h=>by rw[List.length_nil,Nat.zero_add];exact hb F C a hc ha hS h
 |k::σ,listed,F,C,a,hc,hok,ha,hS,hb,h=>by
  unfold nW at hok
  cases ho:ops[k]? with
  |none=>simp[ho]at hok
  |some o=>
   simp only[ho,Bool.and_eq_true]at hok;obtain ⟨⟨hr,hcase⟩,hok'⟩:=hok;have hr':k∈Region.ready md ops listed:=by simpa using hr
   have hl:(k::σ).filterMap (ops[·]?)=o::σ.filterMap (ops[·]?):=by simp[ho]
   rw[hl]at h;rw[List.length_cons,Nat.add_right_comm];unfold Lx at h
   cases hE:E o with
   |true=>
    rw[hE]at h hcase;have hone:Region.ready md ops listed=[k]:=by simpa using hcase
    refine ⟨λh0=>(by rw[h0]at hone;cases hone),λi hi oi hoi=> ?_⟩
    rw[hone]at hi;have:i=k:=by simpa using hi
    subst this
    cases ho.symm.trans hoi
    rw[hE];intro w hw;obtain ⟨hwant,hwp⟩:=h a w ha hw;refine ⟨hwant,Oper.wpIn_mono (λa' w' hk=> ?_) hwp⟩;obtain ⟨F',C',ha',hS',hw',hgr,hk⟩:=hk;exact ⟨C',hS',hw',hgr,mN hsel hdef σ _ F' C' a' (hc.set hr') hok' ha' hS' hb hk⟩
   |false=>
    rw[hE]at h hcase;simp only[cond_false,Bool.and_eq_true,Bool.or_eq_true,Bool.not_eq_true']at hcase;obtain ⟨v,⟨hd,hy⟩,hk⟩:=h;refine qI ho hE (Region.noSelect_spec hsel) (jO hdef) (σ.length+m) listed a C hc (Region.free_spec ho hcase.1) (λhrd j oj hoj hEj hun=> ?_) hr' (hy a ha)
     (mN hsel hdef σ _ _ C _ (hc.set hr') hok' (ha.putF hd v) hS hb hk)
    rcases hcase.2 with h0|h0
    ·rw[hrd]at h0;cases h0
    ·have:=List.all_eq_true.1 h0 j (List.mem_range.2 (Array.getElem?_eq_some_iff.1 hoj).1)
     simp[hun,hoj,hEj]at this;rcases this with h1|h1
     ·exact .inl h1
     ·exact .inr (kY h1)
structure AL where
 (k d:Nat) (t:TypeId) (c:List Value)
def LS(S:List AL)(adr:Nat->Nat)(L:Hl):Hl:=S.map (λx=>(x.d,adr x.d,x.c,x.t))++L
def FS(S:List AL)(adr:Nat->Nat)(F:Fr):Fr:=S.map (λx=>(x.d,.pointer (some ⟨adr x.d,0,none⟩)))++F
theorem Dm{n m:Nat}(h:n≠m):Nat.beq n m=false:=by
 cases hb:Nat.beq n m with
 |false=>rfl
 |true=>exact absurd (Nat.eq_of_beq_eq_true hb) h
theorem nh{adr:Nat->Nat}{L:Hl}: ∀{S:List AL} (_:(S.map (·.d)).Nodup) {x:AL} (_:x∈S),lkB (LS S adr L) x.d=some (adr x.d,x.c,x.t)
 |y::S,hn,x,hx=>by
  rw[List.map_cons,List.nodup_cons]at hn;show (bif Nat.beq y.d x.d then some (adr y.d,y.c,y.t)else lkB (LS S adr L) x.d)=_
  rcases List.mem_cons.1 hx with rfl|hx
  ·rw[Nat.beq_refl];rfl
  ·rw[Dm (λe=>hn.1 (by rw[e];exact List.mem_map.2 ⟨x,hx,rfl⟩))]
   exact nh hn.2 hx
theorem jR{adr:Nat->Nat}{L:Hl}{n:Nat}: ∀{S:List AL} (_: ∀x∈S,x.d≠n),lkB (LS S adr L) n=lkB L n
 |[],_=>rfl
 |y::S,h=>by
  show (bif Nat.beq y.d n then some (adr y.d,y.c,y.t)else lkB (LS S adr L) n)=_
  rw[Dm (h y (.head _))];exact jR (λx hx=>h x (.tail _ hx))
theorem M6{adr:Nat->Nat}{F:Fr}{n:Nat}{v:Value}: ∀{S:List AL},lk (FS S adr F) n=some v->(∃x∈S,x.d=n/\v=.pointer (some ⟨adr x.d,0,none⟩))\/lk F n=some v
 |[],h=>.inr h
 |y::S,h=>by
  have h:(bif Nat.beq y.d n then some (.pointer (some ⟨adr y.d,0,none⟩))else lk (FS S adr F) n)=some v:=h
  cases hb:Nat.beq y.d n with
  |true=>rw[hb]at h;exact .inl ⟨y,.head _,Nat.eq_of_beq_eq_true hb,(Option.some.inj h).symm⟩
  |false=>
   rw[hb]at h;rcases M6 h with ⟨x,hx,h1⟩|h1
   ·exact .inl ⟨x,.tail _ hx,h1⟩
   ·exact .inr h1
theorem Jy{B:Bs}{L L':Hl}(hr:Rides B.J)(h: ∀n,lkB L n=lkB L' n):Hp B L=Hp B L':=by
 funext w;exact propext ⟨λhw=>hw.less hr λn x hx=>by rw[h];exact hx,λhw=>hw.less hr λn x hx=>by rw[<-h];exact hx⟩
theorem Has.free{F:Fr}{a:Act}(h:Has N ds F a){d:Nat}(hd:lk F d=none)(v:Value):Has N ds F (a.put (some d) v):=
 ⟨by simp[Act.put,h.size],by simp[Act.put,h.defers],λt u hu=>by
  have hne:d≠t:=λe=>by subst e;rw[hd]at hu;cases hu
  simp only[Act.put,Array.getElem?_setIfInBounds_ne hne];exact h.get t u hu⟩
def mW:List Nat->List (Nat×List Nat)
 |[]=>[]
 |k::r=>(k,r)::(mW r).map λp=>(p.1,k::p.2)
theorem p8(x:Nat)(R2:List Nat): ∀R1:List Nat,(x,R1++R2)∈mW (R1++x::R2)
 |[]=>.head _
 |_::R1=>.tail _ (List.mem_map.2 ⟨_,p8 x R2 R1,rfl⟩)
def nE(md:Region.Mode)(ops:Array Oper)(listed2:Array Bool):Nat->List Nat->Array Bool->Bool
 |_,[],listed=>decide (listed=listed2)
 |0,_::_,_=>false
 |f+1,R,listed=>decide (Region.ready md ops listed=R) && (mW R).all λp=>nE md ops listed2 f p.2 (listed.setIfInBounds p.1 true)
def k3(P:Program)(ro:Option Nat)(ops:Array Oper)(E:Oper->Bool)(N:Nat)(x:AL):Prop:=
 ∃o,ops[x.k]? =some o/\o.dst=some x.d/\o.guard=none/\E o=true/\x.d<N/\
  ∀(a:Act) (w:World),(o.semAt ro a.eval).run P w=.ok (.value (pnt w.heap.size)) (w.alloc (.cells x.c.toArray x.t))
theorem vQ{B:Bs}{L:Hl}{As:List AL}{F1:Fr}{listed2:Array Bool}{m:Nat}(hB:BOk G B)(hdist:(As.map (·.d)).Nodup)(hF: ∀x∈As,lk F1 x.d=none)(hL: ∀x∈As,lkB L x.d=none)(hop: ∀x∈As,k3 P ro ops E N x)
 (hend: ∀adr a,Has N ds (FS As adr F1) a->kf P G ro md ops Q E m listed2 a (Hp B (LS As adr L))):
 ∀(n:Nat) (R S:List AL) (adr:Nat->Nat) (listed:Array Bool) (a:Act),R.length=n->nE md ops listed2 R.length (R.map (·.k)) listed=true->(∀x,x∈As↔x∈R\/x∈S)->((R++S).map (·.d)).Nodup->
  Has N ds F1 a->(∀x∈S,a.tmps[x.d]? =some (.pointer (some ⟨adr x.d,0,none⟩)))->kf P G ro md ops Q E (R.length+m) listed a (Hp B (LS S adr L))
 |0,R,S,adr,listed,a,hn,hok,hmem,hnd,ha,hs=>by
  obtain rfl:=List.length_eq_zero_iff.1 hn;have hl:listed=listed2:=by simpa [nE]using hok
  subst hl;have hmem': ∀x,x∈As↔x∈S:=λx=>by rw[hmem];simp
  have hSn:(S.map (·.d)).Nodup:=hnd;have e:Hp B (LS S adr L)=Hp B (LS As adr L):=Jy hB.r λn=>by
   by_cases hx: ∃x∈S,x.d=n
   ·obtain ⟨x,hx,rfl⟩:=hx
    rw[nh hSn hx,nh hdist ((hmem' x).2 hx)]
   ·have h1: ∀x∈S,x.d≠n:=λx h e=>hx ⟨x,h,e⟩
    rw[jR h1,jR (λx h=>h1 x ((hmem' x).1 h))]
  rw[e,List.length_nil,Nat.zero_add];refine hend adr a ⟨ha.size,ha.defers,λt v hv=> ?_⟩;rcases M6 hv with ⟨x,hx,rfl,rfl⟩|hv
  ·exact hs x ((hmem' x).1 hx)
  ·exact ha.get t v hv
 |n+1,R,S,adr,listed,a,hn,hok,hmem,hnd,ha,hs=>by
  rw[hn]at hok⊢;rw[Nat.add_right_comm]
  cases hR:R with
  |nil=>rw[hR]at hn;cases hn
  |cons r0 Rt=>
   have hok':(decide (Region.ready md ops listed=R.map (·.k)) && (mW (R.map (·.k))).all λp=>nE md ops listed2 n p.2 (listed.setIfInBounds p.1 true))=true:=by
    rw[hR]at hok⊢;exact hok
   simp only[Bool.and_eq_true,decide_eq_true_eq]at hok';obtain ⟨hrdy,hall⟩:=hok';refine ⟨λh0=>(by rw[h0,hR]at hrdy;cases hrdy),λi hi oi hoi=> ?_⟩
   rw[hrdy]at hi;obtain ⟨x,hx,rfl⟩:=List.mem_map.1 hi;obtain ⟨R1,R2,rfl⟩:=List.append_of_mem hx;have hxA:x∈As:=(hmem x).2 (.inl hx);obtain ⟨o,h1,h2,h3,h4,h5,h6⟩:=hop x hxA
   cases h1.symm.trans hoi
   rw[h4];intro w hw;refine ⟨by unfold Region.wanted;rw[h3],λf _=>dP ro f, ?_⟩
   rw[show (FW ro).round=ro from O,h6 a w];have hxS: ∀y∈S,y.d≠x.d:=λy hy e=>by
    have hp:((x::(R1++R2)++S).map (·.d)).Nodup:=by
     refine (List.Perm.nodup_iff ?_).1 hnd;exact (List.Perm.append_right S List.perm_middle).map _
    rw[List.cons_append,List.map_cons,List.nodup_cons]at hp;exact hp.1 (by rw[<-e];exact List.mem_map.2 ⟨y,List.mem_append.2 (.inr hy),rfl⟩)
   obtain ⟨adr',hadr⟩: ∃adr':Nat->Nat,adr'=λe=>if e=x.d then w.heap.size else adr e:=⟨_,rfl⟩
   have ax:adr' x.d=w.heap.size:=by rw[hadr];simp
   have aS: ∀y∈S,adr' y.d=adr y.d:=λy hy=>by rw[hadr];simp[hxS y hy]
   have eL:LS S adr' L=LS S adr L:=by
    unfold LS;congr 1;exact List.map_congr_left λy hy=>by rw[aS y hy]
   have eC:LS (x::S) adr' L=(x.d,w.heap.size,x.c,x.t)::LS S adr L:=by
    rw[<-eL,<-ax];rfl
   have hfr:lkB (LS S adr L) x.d=none:=by rw[jR hxS];exact hL x hxA
   refine ⟨Hp B (LS (x::S) adr' L),ay hB,by rw[eC];exact hw.alloc hB.r x.d x.c x.t,λ_ w2 h2=> ?_, ?_⟩
   ·rw[eC]at h2
    exact bO hB.r hfr w2 h2
   ·rw[h2]
    have hlen:(R1++R2).length=n:=by
     have:=hn;simp only[List.length_append,List.length_cons]at this⊢;omega
    have hg:=List.all_eq_true.1 hall _ (by rw[List.map_append,List.map_cons];exact p8 x.k (R2.map (·.k)) (R1.map (·.k)))
    rw[<-hlen];refine vQ hB hdist hF hL hop hend n (R1++R2) (x::S) adr' _ _ hlen (by rw[hlen,List.map_append];exact hg) (λy=> ?_) ?_ (ha.free (hF x hxA) _) (λy hy=> ?_)
    ·rw[hmem]
     simp only[List.mem_append,List.mem_cons];constructor
     ·rintro ((h|h|h)|h)
      ·exact .inl (.inl h)
      ·exact .inr (.inl h)
      ·exact .inl (.inr h)
      ·exact .inr (.inr h)
     ·rintro ((h|h)|h|h)
      ·exact .inl (.inl h)
      ·exact .inl (.inr (.inr h))
      ·exact .inl (.inr (.inl h))
      ·exact .inr h
    ·refine (List.Perm.nodup_iff ?_).1 hnd
     refine List.Perm.map _ ?_;exact (List.Perm.append_right S List.perm_middle).trans List.perm_middle.symm
    ·rcases List.mem_cons.1 hy with rfl|hy
     ·rw[ax]
      simp[Act.put,ha.size,h5]
     ·rw[aS y hy]
      simp only[Act.put,Array.getElem?_setIfInBounds_ne (Ne.symm (hxS y hy))];exact hs y hy
def mz(md:Region.Mode)(ops:Array Oper)(listed:Array Bool):Bool:=
 (List.range ops.size).all λj=> !listed.getD j false||match ops[j]? with
  |some oj=>oj.after.all λe=> !Region.binds md e||listed.getD e.on false
  |none=>true
theorem sX{listed:Array Bool}(h:mz md ops listed=true):Closed md ops listed:=λj i hw hl=>by
 obtain ⟨oj,hoj,e,he,hb,rfl⟩:=qb hw;have:=List.all_eq_true.1 h j (List.mem_range.2 (Array.getElem?_eq_some_iff.1 hoj).1);rw[hoj]at this;simp only[hl,Bool.not_true,Bool.false_or]at this;have:=Array.all_eq_true'.1 this e he;rw[hb]at this;simpa using this
theorem bD{k d:Nat}{t ty:TypeId}{pos:String}{af:Array Edge}{c:List Value}{fs:List Nat}(ho:ops[k]? =some ⟨some d,.alloc t,ty,pos,af,none⟩)(hz: ∀w,(zeroValue t).run P w=.ok (.agg c.toArray) w)(hd:Nat.blt d N=true):k3 P ro ops (EE fs) N ⟨k,d,t,c⟩:=
 ⟨_,ho,rfl,rfl,rfl,by simpa using hd,λa w=>by
  rw[Oper.semAt_eq _ _ _ (λ_ h=>by cases h)]
  simp only[execOp,Instr.alloc,Sem.run_bind,hz,Result.andThen_ok];rfl⟩
end
section
variable {K:KK}
theorem A9{id:Nat}{l:List Oper}{E:Oper->Bool}(σ1:List Nat)(As:List AL)(σ2:List Nat)(hm:P.follows .mixedOrders=true)(hlen:σ1.length+(As.length+σ2.length)=l.length)(hsel:Region.noSelect l.toArray=true)(hdef:db l.toArray=true)
 (hok1:nW .any l.toArray E σ1 (Array.replicate l.toArray.size false)=true)
 (hg:nE .any l.toArray (fL (As.map (·.k)) (fL σ1 (Array.replicate l.toArray.size false))) As.length (As.map (·.k)) (fL σ1 (Array.replicate l.toArray.size false))=true)
 (hcl:mz .any l.toArray (fL (As.map (·.k)) (fL σ1 (Array.replicate l.toArray.size false)))=true)
 (hok2:eQ .any l.toArray E σ2 (fL (As.map (·.k)) (fL σ1 (Array.replicate l.toArray.size false)))=true)
 (hdist:(As.map (·.d)).Nodup) (hop: ∀x∈As,k3 P ro l.toArray E N x)
 (h:Lx P G ro l.toArray N ds E (λF1 C1=> ∃B L,C1=Hp B L/\BOk G B/\(∀x∈As,lk F1 x.d=none)/\(∀x∈As,lkB L x.d=none)/\∀adr,Lx P G ro l.toArray N ds E (K .normal ds) (fT σ2 l) (FS As adr F1) (Hp B (LS As adr L))) (fT σ1 l) F C):
 X P G ro N ds (.region id l.toArray true) F C K:=λhS a w ha hw=>by
 refine wpIn_region_any hm ?_;have hc:Closed .any l.toArray (Array.replicate l.toArray.size false):=λj i _ hj=>by
  rcases Nat.lt_or_ge j l.toArray.size with h'|h'
  ·simp at h';simp[h']at hj
  ·simp at h';simp[h']at hj
 have key:kf P G ro .any l.toArray (λe a' w'=> ∃ds' F' C',dJ G C'/\Has N ds' F' a'/\C' w'/\K e ds' F' C') E (σ1.length+(As.length+σ2.length)) (Array.replicate l.toArray.size false) a C:=by
  refine mN hsel hdef σ1 _ F C a hc hok1 ha hS (λF1 C1 a1 _ ha1 _ hZ=> ?_) (by rw[iK];exact h)
  obtain ⟨B,L,rfl,hB,hF,hL,hZ⟩:=hZ;refine vQ hB hdist hF hL hop (λadr a2 ha2=> ?_) As.length As [] (λ_=>0) _ a1 O hg (λx=>sm) (by simpa using hdist) ha1 (λ_ h=>by cases h)
  have:=jN (P:=P) (G:=G) (ro:=ro) (md:=.any) (N:=N) (ds:=ds) (E:=E) (Q:=λe a' w'=> ∃ds' F' C',dJ G C'/\Has N ds' F' a'/\C' w'/\K e ds' F' C') (Z:=K .normal ds) (λF' C' hS' hk a' w' ha' hw'=>⟨ds,F',C',hS',ha',hw',hk⟩) hsel hdef σ2 _ _ _ a2 (sX hcl) hok2 ha2 (ay hB) (by rw[iK];exact hZ adr)
  exact this
 rw[hlen]at key;exact dM _ _ _ C _ hS (hS.1 w _ hw ((Below.refl _ w).drew)) key
theorem fG{id:Nat}{l:List Oper}{E:Oper->Bool}{y:Code}(σ1:List Nat)(As:List AL)(σ2:List Nat)(hm:P.follows .mixedOrders=true)(hlen:σ1.length+(As.length+σ2.length)=l.length)(hsel:Region.noSelect l.toArray=true)(hdef:db l.toArray=true)
 (hok1:nW .any l.toArray E σ1 (Array.replicate l.toArray.size false)=true)
 (hg:nE .any l.toArray (fL (As.map (·.k)) (fL σ1 (Array.replicate l.toArray.size false))) As.length (As.map (·.k)) (fL σ1 (Array.replicate l.toArray.size false))=true)
 (hcl:mz .any l.toArray (fL (As.map (·.k)) (fL σ1 (Array.replicate l.toArray.size false)))=true)
 (hok2:eQ .any l.toArray E σ2 (fL (As.map (·.k)) (fL σ1 (Array.replicate l.toArray.size false)))=true)
 (hdist:(As.map (·.d)).Nodup) (hop: ∀x∈As,k3 P ro l.toArray E N x)
 (h:Lx P G ro l.toArray N ds E (λF1 C1=> ∃B L,C1=Hp B L/\BOk G B/\(∀x∈As,lk F1 x.d=none)/\(∀x∈As,lkB L x.d=none)/\∀adr,Lx P G ro l.toArray N ds E (λF' C'=>X P G ro N ds y F' C' K) (fT σ2 l) (FS As adr F1) (Hp B (LS As adr L))) (fT σ1 l) F C):
 X P G ro N ds (.seq (.region id l.toArray true) y) F C K:=ae (A9 σ1 As σ2 hm hlen hsel hdef hok1 hg hcl hok2 hdist hop h)
end
end
section
open Go.RowKit
section
variable {md:Region.Mode} {E:Oper->Bool} {Q:Exit->Act->World->Prop} {KK':Cls->Prop} {mk rk:Oper->Bool}
def si(P:Program)(G:Cls)(ro:Option Nat)(md:Region.Mode)(ops:Array Oper)(Q:Exit->Act->World->Prop)(E:Oper->Bool)(KK':Cls->Prop)(mk:Oper->Bool):Nat->Array Bool->Act->Cls->Prop
 |0,listed,a,C=>Region.ready md ops listed=[]/\∀w,C w->Q .normal a w
 |f+1,listed,a,C=>(Region.ready md ops listed=[]->∀w,C w->Q .normal a w)/\
  ∀i∈Region.ready md ops listed,∀o,ops[i]? =some o->
   bif E o then∀w,C w->Region.wanted o (yielded ops a.tmps)=true/\
    o.wpIn (FW ro) 0 P a w (λa' w'=> ∃C',dJ G C'/\C' w'/\(mk o=true->∀X,KK' X->(∀w,C w->X w)->∀w,C' w->X w)/\si P G ro md ops Q E KK' mk f (listed.setIfInBounds i true) a' C') (λ_ _ _=>False)
   else∃v X,(∀w,C w->X w)/\YieldsW P ro ops (ii G o X) o v a/\si P G ro md ops Q E KK' mk f (listed.setIfInBounds i true) (a.put o.dst v) C
theorem Dj{o:Oper}{C X:Cls}{w:World}(hS:dJ G C)(hX: ∀w,C w->X w)(h:C w):ii G o X w:=by
 unfold ii;split
 ·exact ⟨hX w h,hS.2 w h⟩
 ·exact hS.2 w h
theorem fb: ∀(f:Nat) (listed:Array Bool) (a:Act) (C:Cls) (w:World),dJ G C->C w->si P G ro md ops Q E KK' mk f listed a C->wpAnyIn (FW ro) 0 P md ops Q f listed a w
 |0,_,_,_,w,_,hw,h=>⟨h.1,h.2 w hw⟩
 |f+1,listed,a,C,w,hS,hw,h=>by
  refine ⟨λh0=>h.1 h0 w hw,λi hi=> ?_⟩;obtain ⟨_,o,ho,_⟩:=mem_ready.1 hi;have h1:=h.2 i hi o ho;unfold wpOpIn;simp only[ho]
  cases hE:E o with
  |true=>
   rw[hE]at h1;obtain ⟨hwant,hwp⟩:=h1 w hw;rw[if_pos hwant];refine Oper.wpIn_exits (Oper.wpIn_mono (λa' w' hk=> ?_) hwp);obtain ⟨C',hS',hw',_,hk⟩:=hk;exact fb f _ _ C' w' hS' hw' hk
  |false=>
   rw[hE]at h1;obtain ⟨v,X,hX,hy,hk⟩:=h1;rcases hy with ⟨hwant,hy⟩|⟨hwant,rfl⟩
   ·rw[if_pos hwant]
    exact hy.wpIn (Dj hS hX hw) λw' hg=>fb f _ _ C w' hS (hS.1 _ _ hw hg) hk
   ·rw[if_neg (by simp[hwant])]
    exact ⟨λf _=>dP ro f,fb f _ _ C w hS hw hk⟩
theorem vC{i:Nat}{oi:Oper}{v:Value}(hi:ops[i]? =some oi)(hEi:E oi=false)(hrr:rk oi=true->eT oi=true)(hsel: ∀(j:Nat) (o:Oper) cs b,ops[j]? =some o->o.op≠ .select cs b)
 (hdef: ∀(j:Nat) (o:Oper) c,ops[j]? =some o->o.op≠ .defer c):
 ∀(f:Nat) (listed:Array Bool) (a:Act) (C X:Cls),Closed md ops listed->
  (∀j oj,ops[j]? =some oj->j≠i->listed.getD j true=false->(∀e∈oj.after,Region.binds md e=true->e.on≠i)->oi.apart ops oj=true)->
  (eT oi=true->∀j oj,ops[j]? =some oj->E oj=true->listed.getD j true=false->(rk oi=true/\mk oj=true)\/Reach md ops j i)->(rk oi=true->KK' X)->(∀w,C w->X w)->
  i∈Region.ready md ops listed->YieldsW P ro ops (ii G oi X) oi v a->
  si P G ro md ops Q E KK' mk f (listed.setIfInBounds i true) (a.put oi.dst v) C->si P G ro md ops Q E KK' mk (f+1) listed a C:=by
 intro f
 induction f with
 |zero=>
  intro listed a C X _ _ _ _ hX hr hy H;refine ⟨λh=>(by rw[h]at hr;cases hr),λj hj o ho=> ?_⟩
  by_cases hji:j=i
  ·subst hji
   cases hi.symm.trans ho
   rw[hEi];exact ⟨v,X,hX,hy,H⟩
  ·have:=ready_mono hj hji
   rw[H.1]at this
   cases this
 |succ f ih=>
  intro listed a C X hc hfree hblk hKX hX hr hy H;refine ⟨λh=>(by rw[h]at hr;cases hr),λj hj oj hoj=> ?_⟩
  by_cases hji:j=i
  ·subst hji
   cases hi.symm.trans hoj
   rw[hEi];exact ⟨v,X,hX,hy,H⟩
  have h1:=H.2 j (ready_mono hj hji) oj hoj;obtain ⟨hjun,_,hoj',hall⟩:=mem_ready.1 hj
  cases hoj.symm.trans hoj'
  have hiun:=lp (mem_ready.1 hr).1;have hnot: ∀e∈oj.after,Region.binds md e=true->e.on≠i:=λe he hb heq=>by
   have h1:=hall e he hb;rw[heq,hiun]at h1;cases h1
  have hap:=hfree j oj hoj hji hjun hnot;have hfree': ∀k ok,ops[k]? =some ok->k≠i->(listed.setIfInBounds j true).getD k true=false->
   (∀e∈ok.after,Region.binds md e=true->e.on≠i)->oi.apart ops ok=true:=λk ok hk hki hun hno=>by
   refine hfree k ok hk hki ?_ hno;by_cases hjk:j=k
   ·subst hjk;exact hjun
   ·rw[getD_set_ne true hjk]at hun;exact hun
  have hblk':eT oi=true->∀k ok,ops[k]? =some ok->E ok=true->(listed.setIfInBounds j true).getD k true=false->(rk oi=true/\mk ok=true)\/Reach md ops k i:=λhrd k ok hk hEk hun=>by
   refine hblk hrd k ok hk hEk ?_;by_cases hjk:j=k
   ·subst hjk;exact hjun
   ·rw[getD_set_ne true hjk]at hun;exact hun
  cases hE:E oj with
  |true=>
   rw[hE]at h1;have hnr:eT oi=false\/(rk oi=true/\mk oj=true):=by
    cases hrd:eT oi with
    |false=>exact .inl O
    |true=>
     rcases hblk hrd j oj hoj hE hjun with h0|h0
     ·exact .inr h0
     ·exact absurd hj (sy hc hiun h0).2
   intro w hw;obtain ⟨hwant,hwp⟩:=h1 w hw;obtain ⟨p1,p2,p3⟩:=Oper.apart_spec hap;refine ⟨by rw[wanted_put oj a oi.dst v p1]at hwant;exact hwant, ?_⟩
   refine Oper.wpIn_mono (λa' w' hk=> ?_) (vb hap (λcs b=>hsel i oi cs b hi) (λcs b=>hsel j oj cs b hoj) (λc=>hdef i oi c hi) (λc=>hdef j oj c hoj) hwp);obtain ⟨hsame,C',hS',hw',hgr,hk⟩:=hk;rcases hnr with hnr|⟨hr1,hr2⟩
   ·refine ⟨C',hS',hw',hgr,ih (listed.setIfInBounds j true) a' C' (λw=>C' w\/X w) (hc.set hj) hfree' hblk' (λh=> ?_) (λ_ h=>.inl h) (ready_mono hr (Ne.symm hji)) (hsame.yields ?_) ?_⟩
    ·exact absurd (hrr h) (by rw[hnr];decide)
    ·refine hy.mono λw0 h0=> ?_
     unfold ii at h0⊢;rw[hnr]at h0⊢;exact h0
    ·rw[Array.setIfInBounds_comm _ _ hji];exact hk
   ·refine ⟨C',hS',hw',hgr,ih (listed.setIfInBounds j true) a' C' X (hc.set hj) hfree' hblk' hKX (hgr hr2 X (hKX hr1) hX) (ready_mono hr (Ne.symm hji)) (hsame.yields hy) ?_⟩
    rw[Array.setIfInBounds_comm _ _ hji];exact hk
  |false=>
   rw[hE]at h1;obtain ⟨u,Xj,hXj,hyu,hk⟩:=h1;obtain ⟨p1,p2,p3⟩:=Oper.apart_spec hap;have hsi:=λcs b=>hsel i oi cs b hi;have hsj:=λcs b=>hsel j oj cs b hoj;have hdi:=λc=>hdef i oi c hi;have hdj:=λc=>hdef j oj c hoj;have s1:SameAt ro ops oj (a.put oi.dst v) a:=⟨(iC hsj hdj a oi.dst v p1).symm,(wanted_put oj a oi.dst v p1).symm⟩;have s2:SameAt ro ops oi a (a.put oj.dst u):=⟨iC hsi hdi a oj.dst u p3,wanted_put oi a oj.dst u p3⟩;refine ⟨u,Xj,hXj,s1.yields hyu,ih (listed.setIfInBounds j true) _ C X (hc.set hj) hfree' hblk' hKX hX (ready_mono hr (Ne.symm hji)) (s2.yields hy) ?_⟩;rw[Array.setIfInBounds_comm _ _ hji,<-Act.put_comm a v u p2];exact hk
def LxK(P:Program)(G:Cls)(ro:Option Nat)(ops:Array Oper)(N:Nat)(ds:List Deferred)(E:Oper->Bool)(KK':Cls->Prop)(mk rk:Oper->Bool)(Z:Fr->Cls->Prop):List Oper->Fr->Cls->Prop
 |[],F,C=>Z F C
 |o::rest,F,C=>
  bif E o then L9 P G ro ops N ds o F C (λF' C'=>(mk o=true->∀X,KK' X->(∀w,C w->X w)->∀w,C' w->X w)/\LxK P G ro ops N ds E KK' mk rk Z rest F' C')
  else∃X v,(∀w,C w->X w)/\(rk o=true->KK' X)/\Mb P G ro ops N ds o F X v/\LxK P G ro ops N ds E KK' mk rk Z rest (putF o.dst v F) C
theorem fI{Z:Fr->Cls->Prop}{F:Fr}{C:Cls}(h:Z F C):LxK P G ro ops N ds E KK' mk rk Z [] F C:=h
theorem kh{Z:Fr->Cls->Prop}{o:Oper}{rest:List Oper}{F:Fr}{C X:Cls}(hE:E o=false)(hX: ∀w,C w->X w)(hk:rk o=true->KK' X)(h:Lx P G ro ops N ds E (λF' _=>LxK P G ro ops N ds E KK' mk rk Z rest F' C) [o] F X):LxK P G ro ops N ds E KK' mk rk Z (o::rest) F C:=by
 unfold LxK;unfold Lx at h;rw[hE]at h⊢;obtain ⟨v,hq,hr⟩:=h;exact ⟨X,v,hX,hk,hq,hr⟩
theorem dE{Z:Fr->Cls->Prop}{o:Oper}{rest:List Oper}{F:Fr}{C:Cls}(hE:E o=false)(hk:rk o=false)(h:Lx P G ro ops N ds E (λF' _=>LxK P G ro ops N ds E KK' mk rk Z rest F' C) [o] F C):LxK P G ro ops N ds E KK' mk rk Z (o::rest) F C:=
 kh hE (λ_ h=>h) (λh=>by rw[hk]at h;cases h) h
theorem fE{Z:Fr->Cls->Prop}{o:Oper}{rest:List Oper}{F:Fr}{C:Cls}(hE:E o=true)(h:Lx P G ro ops N ds E (λF' C'=>(mk o=true->∀X,KK' X->(∀w,C w->X w)->∀w,C' w->X w)/\LxK P G ro ops N ds E KK' mk rk Z rest F' C') [o] F C):LxK P G ro ops N ds E KK' mk rk Z (o::rest) F C:=by
 unfold LxK;unfold Lx at h;rw[hE]at h⊢;intro a w ha hw;obtain ⟨h1,h2⟩:=h a w ha hw;exact ⟨h1,Oper.wpIn_mono (λa' w' ⟨F',C',x1,x2,x3,_,x4⟩=>⟨F',C',x1,x2,x3,x4⟩) h2⟩
def jB(md:Region.Mode)(ops:Array Oper)(E mk rk:Oper->Bool):List Nat->Array Bool->Bool
 |[],listed=>(Region.ready md ops listed).isEmpty
 |k::σ,listed=>
  match ops[k]? with
  |none=>false
  |some o=>
   (Region.ready md ops listed).contains k &&
   (bif E o then decide (Region.ready md ops listed=[k])
    else Region.free md ops listed k && (!eT o||(List.range ops.size).all λj=>listed.getD j true|| !((ops[j]?).any E)||(rk o && (ops[j]?).any mk)||qF md ops j k) && (!rk o||eT o)) &&
   jB md ops E mk rk σ (listed.setIfInBounds k true)
theorem kS{Z:Fr->Cls->Prop}(hZ: ∀F C,dJ G C->Z F C->rQ N ds Q .normal F C)(hsel:Region.noSelect ops=true)(hdef:db ops=true):
 ∀(σ:List Nat) (listed:Array Bool) (F:Fr) (C:Cls) (a:Act),Closed md ops listed->jB md ops E mk rk σ listed=true->Has N ds F a->dJ G C->
  LxK P G ro ops N ds E KK' mk rk Z (σ.filterMap (ops[·]?)) F C->si P G ro md ops Q E KK' mk σ.length listed a C
 |[],listed,F,C,a,_,hok,ha,hS,h=>⟨by simpa [jB]using hok,λw hw=>hZ F C hS h a w ha hw⟩
 |k::σ,listed,F,C,a,hc,hok,ha,hS,h=>by
  unfold jB at hok
  cases ho:ops[k]? with
  |none=>simp[ho]at hok
  |some o=>
   simp only[ho,Bool.and_eq_true]at hok;obtain ⟨⟨hr,hcase⟩,hok'⟩:=hok;have hr':k∈Region.ready md ops listed:=by simpa using hr
   have hl:(k::σ).filterMap (ops[·]?)=o::σ.filterMap (ops[·]?):=by simp[ho]
   rw[hl]at h;unfold LxK at h
   cases hE:E o with
   |true=>
    rw[hE]at h hcase;have hone:Region.ready md ops listed=[k]:=by simpa using hcase
    refine ⟨λh0=>(by rw[h0]at hone;cases hone),λi hi oi hoi=> ?_⟩
    rw[hone]at hi;have:i=k:=by simpa using hi
    subst this
    cases ho.symm.trans hoi
    rw[hE];intro w hw;obtain ⟨hwant,hwp⟩:=h a w ha hw;refine ⟨hwant,Oper.wpIn_mono (λa' w' hk=> ?_) hwp⟩;obtain ⟨F',C',ha',hS',hw',hgr,hk⟩:=hk;exact ⟨C',hS',hw',hgr,kS hZ hsel hdef σ _ F' C' a' (hc.set hr') hok' ha' hS' hk⟩
   |false=>
    rw[hE]at h hcase;simp only[cond_false,Bool.and_eq_true,Bool.or_eq_true,Bool.not_eq_true']at hcase;obtain ⟨⟨hfr,hrd0⟩,hrk⟩:=hcase;obtain ⟨X,v,hX,hKX,⟨hd,hy⟩,hk⟩:=h;refine vC (rk:=rk) ho hE (λh0=>by rcases hrk with h1|h1;rw[h0]at h1;cases h1;exact h1) (Region.noSelect_spec hsel) (jO hdef) σ.length listed a C X hc (Region.free_spec ho hfr) (λhrd j oj hoj hEj hun=> ?_) hKX hX hr' (hy a ha)
     (kS hZ hsel hdef σ _ _ C _ (hc.set hr') hok' (ha.putF hd v) hS hk)
    rcases hrd0 with h0|h0
    ·rw[hrd]at h0;cases h0
    ·have:=List.all_eq_true.1 h0 j (List.mem_range.2 (Array.getElem?_eq_some_iff.1 hoj).1)
     simp[hun,hoj,hEj]at this;rcases this with h1|h1
     ·exact .inl h1
     ·exact .inr (kY h1)
end
section
variable {K:KK}
theorem ou{id:Nat}{l:List Oper}{E:Oper->Bool}(KK':Cls->Prop)(mk rk:Oper->Bool)(σ:List Nat)(hm:P.follows .mixedOrders=true)(hlen:σ.length=l.length)(hsel:Region.noSelect l.toArray=true)(hdef:db l.toArray=true)
 (hok:jB .any l.toArray E mk rk σ (Array.replicate l.toArray.size false)=true) (h:LxK P G ro l.toArray N ds E KK' mk rk (K .normal ds) (fT σ l) F C):X P G ro N ds (.region id l.toArray true) F C K:=λhS a w ha hw=>by
 refine wpIn_region_any hm ?_;have hc:Closed .any l.toArray (Array.replicate l.toArray.size false):=λj i _ hj=>by
  rcases Nat.lt_or_ge j l.toArray.size with h'|h'
  ·simp at h';simp[h']at hj
  ·simp at h';simp[h']at hj
 have key:=kS (P:=P) (G:=G) (ro:=ro) (md:=.any) (N:=N) (ds:=ds) (E:=E) (Q:=λe a' w'=> ∃ds' F' C',dJ G C'/\Has N ds' F' a'/\C' w'/\K e ds' F' C') (Z:=K .normal ds) (λF' C' hS' hk a' w' ha' hw'=>⟨ds,F',C',hS',ha',hw',hk⟩) hsel hdef σ _ F C a hc hok ha hS (by rw[iK];exact h)
 rw[hlen]at key;exact fb _ _ _ C _ hS (hS.1 w _ hw ((Below.refl _ w).drew)) key
theorem gg{id:Nat}{l:List Oper}{E:Oper->Bool}{y:Code}(KK':Cls->Prop)(mk rk:Oper->Bool)(σ:List Nat)(hm:P.follows .mixedOrders=true)(hlen:σ.length=l.length)(hsel:Region.noSelect l.toArray=true)(hdef:db l.toArray=true)
 (hok:jB .any l.toArray E mk rk σ (Array.replicate l.toArray.size false)=true) (h:LxK P G ro l.toArray N ds E KK' mk rk (λF' C'=>X P G ro N ds y F' C' K) (fT σ l) F C):X P G ro N ds (.seq (.region id l.toArray true) y) F C K:=
 ae (ou KK' mk rk σ hm hlen hsel hdef hok h)
end
def rkB(rs:List Nat)(o:Oper):Bool:=match o.dst with
 |some d=>rs.any (Nat.beq d)
 |none=>false
def mkB(ms:List Nat)(o:Oper):Bool:=match o.op with
 | .store _ (.tmp t) _=>ms.any (Nat.beq t)
 |_=>false
end
end Go.Proofs.YtjookodjbjabbaaGreatDoor
