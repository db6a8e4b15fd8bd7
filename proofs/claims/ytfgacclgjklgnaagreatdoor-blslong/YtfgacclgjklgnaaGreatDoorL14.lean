/- L14 -/
import Derived.Test.YtfgacclgjklgnaaGreatDoorL13
import Derived.Test.YtfgacclgjklgnaaGreatDoorM2
import Derived.Test.YtfgacclgjklgnaaGreatDoorL3
import Derived.Test.YtfgacclgjklgnaaGreatDoorL9
import Derived.Test.YtfgacclgjklgnaaGreatDoorL12
import Derived.Test.YtfgacclgjklgnaaGreatDoorL5
import Derived.Test.YtfgacclgjklgnaaGreatDoorX3
import Derived.Test.YtfgacclgjklgnaaGreatDoorXW
import Derived.Test.YtfgacclgjklgnaaGreatDoorX2
set_option maxRecDepth 100000
set_option maxHeartbeats 1000000
namespace Go.Proofs.YtfgacclgjklgnaaGreatDoor
open Go.Proofs.Tryz
section
open Go.RowKit
attribute [local simp] aT a9 aR aM aC bd aJ aI aA PLl cq cn N1l ck cp cm a5 bc aP aX a8 List.length_append nX cZ
namespace Xm
attribute [local simp] Sh.gj jX n9 jg fI iG Sh.bI kH
attribute [local simp] N2r_len
theorem gL{w w':World}{b:Nat}{cs:List Value}(h:w.rangeAt b 0 cs)(hg:Grow w w'):w'.rangeAt b 0 cs:=fun j v hv=>(hg.cell (block_lt_of_cell (h j v hv))).trans (h j v hv)
def PFC:Prop:= ∀(a1:Option Addr) (cap1:Nat) (msg:L8) (a2:Option Addr) (cap2:Nat) (dst:L8) (z:Int) (w:World),msg.length≤100000→msg.length≤cap1→dst.length≤100000→dst.length≤cap2→Gt w→BytesAt w a1 msg→BytesAt w a2 dst→CLS 193 [.slice a1 msg.length cap1,.slice a2 dst.length cap2,I z].toArray w (fun e w'=> ∃v,e=.returned v∧Grow w w'∧RFt msg dst z w w' v)
end Xm
end
section
section
variable {γ δ:Type} (G:Ab γ) (H:Ab δ)
theorem Ab.h_ze{f:γ→δ}(hf: ∀a b,f (G.ad a b)=H.ad (f a) (f b)):f G.ze=H.ze:=H.can (a:=f G.ze) (by rw[←hf,G.zl,H.zr])
theorem Ab.h_ng{f:γ→δ}(hf: ∀a b,f (G.ad a b)=H.ad (f a) (f b))(a:γ):f (G.ng a)=H.ng (f a):=H.ng_of (by rw[←hf,G.nr,G.h_ze H hf])
theorem Ab.h_nm{f:γ→δ}(hf: ∀a b,f (G.ad a b)=H.ad (f a) (f b))(a:γ): ∀n,f (G.nm a n)=H.nm (f a) n
 |0=>G.h_ze H hf
 |n+1=>by rw[Ab.nm,hf,Ab.h_nm hf a n,Ab.nm]
end
section
variable {α:Type} [DecidableEq α] {C:Ec α}
theorem Ec.On.is{a:C.On}(h:a≠C.ab.ze): ∃hx:C.on (C.xy a.1),a=⟨some (C.xy a.1),hx⟩:=by
 obtain ⟨P,hP⟩:=a
 cases P with
 |none=>exact absurd rfl h
 |some p=>exact ⟨hP,rfl⟩
theorem Ec.listed{n:Nat}(S:Nat→C.On)(si: ∀i j,i<j→j<n→S i≠S j)(s0: ∀i,i<n→S i≠C.ab.ze): ∃L:List (α×α),L.length=n∧L.Pairwise (·≠ ·)∧∀q,q∈L→∃i,i<n∧∃hq:C.on q,S i=⟨some q,hq⟩:=by
 refine ⟨(List.range n).map fun i=>C.xy (S i).1,sm, ?_,fun q hq=> ?_⟩
 ·rw[List.pairwise_map]
  refine List.Pairwise.imp_of_mem (fun {i j} hi hj hij=> ?_) List.pairwise_lt_range
  intro e
  have hj':=List.mem_range.1 hj
  obtain ⟨_,e1⟩:=Ec.On.is (s0 i om)
  obtain ⟨_,e2⟩:=Ec.On.is (s0 j hj')
  refine si i j hij hj' ?_
  rw[e1,e2]
  exact Subtype.ext (congrArg some e)
 ·obtain ⟨i,hi,rfl⟩:=List.mem_map.1 hq
  have hi':=List.mem_range.1 hi
  obtain ⟨h1,h2⟩:=Ec.On.is (s0 i hi')
  exact ⟨i,hi',h1,h2⟩
theorem Ec.all_same{f g:C.On→C.On}(hf: ∀a b,f (C.ab.ad a b)=C.ab.ad (f a) (f b))(hg: ∀a b,g (C.ab.ad a b)=C.ab.ad (g a) (g b))
 {J:α→α→α×α×α} {m:Nat} (hJ:C.DJ m J) (hV: ∀x y (h:C.on (x,y)),C.V (J x y) (g ⟨some (x,y),h⟩).1)
 {px py:α→α→α} {d:Nat} (hx:C.DW d px) (hy:C.DW d py) (hp: ∀x y (h:C.on (x,y)),(f ⟨some (x,y),h⟩).1=some (px x y,py x y))
 {n:Nat} {T:Nat→C.On} (ti: ∀i j,i<j→j<n→T i≠T j) (t0: ∀i,i<n→T i≠C.ab.ze) (t2: ∀i,i<n→C.ab.ng (T i)≠T i) (ts: ∀i,i<n→f (T i)=g (T i)) (hn:2*(4*m+d+1)≤n)
 {x0 y0:α} (h0:C.on (x0,y0)) (n1:(J x0 y0).2.2≠C.R.zero) (n2:(J x0 (C.R.neg y0)).2.2≠C.R.zero) (a:C.On):f a=g a:=by
 let Fx:α→α→α:=fun x y=>C.R.mul (J x y).2.2 (C.sub (J x y).1 (C.R.mul (px x y) (C.R.mul (J x y).2.2 (J x y).2.2)))
 let Fy:α→α→α:=fun x y=>C.R.mul (J x y).2.2 (C.sub (J x y).2.1 (C.R.mul (py x y) (C.R.mul (C.R.mul (J x y).2.2 (J x y).2.2) (J x y).2.2)))
 have ZZ:=hJ.Z.mul hJ.Z
 have dx:C.DW (4*m+d) Fx:=(hJ.Z.mul ((hJ.X.up (e:=2*m+d) om).sub ((hx.mul ZZ).up om))).up om
 have dy:C.DW (4*m+d) Fy:=(hJ.Z.mul ((hJ.Y.up (e:=3*m+d) om).sub ((hy.mul (ZZ.mul hJ.Z)).up om))).up om
 have key: ∀x y (h:C.on (x,y)),f ⟨some (x,y),h⟩=g ⟨some (x,y),h⟩→Fx x y=C.R.zero∧Fy x y=C.R.zero:=fun x y h e=>by
  rcases hV x y h with hz|hj
  ·constructor
   ·show C.R.mul (J x y).2.2 _=_
    rw[hz,C.R.zero_mul]
   ·show C.R.mul (J x y).2.2 _=_
    rw[hz,C.R.zero_mul]
  ·rw[←e,hp x y h]at hj
   have k1:(J x y).1=C.R.mul (px x y) (C.R.mul (J x y).2.2 (J x y).2.2):=hj.2.1
   have k2:(J x y).2.1=C.R.mul (py x y) (C.R.mul (C.R.mul (J x y).2.2 (J x y).2.2) (J x y).2.2):=hj.2.2
   constructor
   ·show C.R.mul _ (C.sub (J x y).1 _)=_
    rw[←k1,C.sub_self,C.R.mul_zero]
   ·show C.R.mul _ (C.sub (J x y).2.1 _)=_
    rw[←k2,C.sub_self,C.R.mul_zero]
 obtain ⟨L,lL,dL,mL⟩:=Ec.listed T ti t0
 have oL: ∀q,q∈L→C.on q:=fun q hq=>(mL q hq).elim fun _ h=>h.2.elim fun hq _=>hq
 have yL: ∀q,q∈L→q.2≠C.R.zero:=fun q hq e=>by
  obtain ⟨i,hi,hon,hT⟩:=mL q hq
  refine t2 i hi ?_
  rw[hT]
  refine Subtype.ext (congrArg some (Prod.ext rfl ?_))
  show C.R.neg q.2=q.2
  rw[e,C.R.neg_zero]
 have zL: ∀q,q∈L→(Fx q.1 q.2=C.R.zero∧Fy q.1 q.2=C.R.zero)∧(Fx q.1 (C.R.neg q.2)=C.R.zero∧Fy q.1 (C.R.neg q.2)=C.R.zero):=fun q hq=>by
  obtain ⟨i,hi,hon,hT⟩:=mL q hq
  have e:=ts i hi
  have e':f (C.ab.ng (T i))=g (C.ab.ng (T i)):=by rw[C.ab.h_ng C.ab hf,C.ab.h_ng C.ab hg,e]
  rw[hT]at e e'
  exact ⟨key q.1 q.2 hon e,key q.1 (C.R.neg q.2) (C.ng_on hon) e'⟩
 have zx: ∀x y,C.on (x,y)→Fx x y=C.R.zero:=fun x y h=>dx.all om dL oL yL (fun q hq=>⟨(zL q hq).1.1,(zL q hq).2.1⟩) h
 have zy: ∀x y,C.on (x,y)→Fy x y=C.R.zero:=fun x y h=>dy.all om dL oL yL (fun q hq=>⟨(zL q hq).1.2,(zL q hq).2.2⟩) h
 have gen: ∀x y (h:C.on (x,y)),(J x y).2.2≠C.R.zero→f ⟨some (x,y),h⟩=g ⟨some (x,y),h⟩:=fun x y h hz=>by
  refine Subtype.ext ?_
  rw[hp x y h]
  exact (J9 C ((hV x y h).resolve_left hz) hz (C.sub0 ((C.fd.two (zx x y h)).resolve_left hz)) (C.sub0 ((C.fd.two (zy x y h)).resolve_left hz))).symm
 by_cases hex: ∃i,i<n∧C.ab.ad a (T i)=C.ab.ze
 ·obtain ⟨i,hi,e⟩:=hex
  rw[C.ab.comm]at e
  rw[C.ab.ng_of e,C.ab.h_ng C.ab hf,C.ab.h_ng C.ab hg,ts i hi]
 have s0: ∀i,i<n→C.ab.ad a (T i)≠C.ab.ze:=fun i hi e=>hex ⟨i,hi,e⟩
 have si: ∀i j,i<j→j<n→C.ab.ad a (T i)≠C.ab.ad a (T j):=fun i j hij hj e=>ti i j hij hj (C.ab.can e)
 obtain ⟨L',lL',dL',mL'⟩:=Ec.listed (fun i=>C.ab.ad a (T i)) si s0
 by_cases hez: ∃q,q∈L'∧(J q.1 q.2).2.2≠C.R.zero
 ·obtain ⟨q,hq,hz⟩:=hez
  obtain ⟨i,hi,hon,hT⟩:=mL' q hq
  have e:=gen q.1 q.2 hon hz
  have hT:C.ab.ad a (T i)=⟨some (q.1,q.2),hon⟩:=hT
  rw[←hT,hf,hg,ts i hi,C.ab.comm,C.ab.comm (g a)]at e
  exact C.ab.can e
 ·exfalso
  obtain ⟨N,lN,hN⟩:=hJ.Z.norm
  have hz:=C.rootsL (2*m+1) N L' lN om dL' (fun q hq=>(mL' q hq).elim fun _ h=>h.2.elim fun hq _=>hq) (fun q hq=>by
   obtain ⟨i,hi,hon,hT⟩:=mL' q hq
   rw[hN q.1 q.2 hon]
   have e:(J q.1 q.2).2.2=C.R.zero:=Classical.byContradiction fun h=>hez ⟨q,hq,h⟩
   rw[e,C.R.zero_mul]) x0
  rw[hN x0 y0 h0]at hz
  exact (C.fd.two hz).elim n1 n2
end
end
section
/-! ### Sums of so many times two things -/
section
variable {γ:Type} (G:Ab γ)
def Ab.li(a d:γ)(k l:Int):γ:=G.ad (G.zm a k) (G.zm d l)
theorem Ab.li_ad(a d:γ)(k l k' l':Int):G.ad (G.li a d k l) (G.li a d k' l')=G.li a d (k+k') (l+l'):=by
 unfold Ab.li
 rw[G.four,G.zm_add,G.zm_add]
theorem Ab.li_ng(a d:γ)(k l:Int):G.ng (G.li a d k l)=G.li a d (-k) (-l):=by
 unfold Ab.li
 rw[G.ng_ad,G.zm_ng,G.zm_ng]
theorem Ab.li_nm(a d:γ)(k l:Int)(n:Nat):G.nm (G.li a d k l) n=G.li a d (k*n) (l*n):=by
 unfold Ab.li
 rw[G.nm_ad,G.zm_mulN,G.zm_mulN]
theorem Ab.zm_1(a:γ):G.zm a 1=a:=(G.zm_nat a 1).trans (G.zl a)
theorem Ab.zm_0(a:γ):G.zm a 0=G.ze:=G.zm_nat a 0
theorem Ab.li_a(a d:γ):a=G.li a d 1 0:=by unfold Ab.li;rw[G.zm_1,G.zm_0,G.zr]
def Ab.gW(om:γ→γ)(u e:Nat)(a:γ):γ:=G.ad (G.nm (G.ad (G.nm (G.nm (G.ad a (G.ad (om a) (om a))) u) u) (G.ng (G.ad (G.ad a a) (om a)))) e) a
theorem Ab.gW_ad{om:γ→γ}(ho: ∀a b,om (G.ad a b)=G.ad (om a) (om b))(u e:Nat)(a b:γ):G.gW om u e (G.ad a b)=G.ad (G.gW om u e a) (G.gW om u e b):=by
 unfold Ab.gW
 simp only[ho,G.nm_ad,G.nm_ng,G.ng_ad]
 have:Std.Associative G.ad:=⟨G.assoc⟩
 have:Std.Commutative G.ad:=⟨G.comm⟩
 ac_rfl
theorem Ab.li_al(a d:γ)(k l:Int):G.ad a (G.li a d k l)=G.li a d (1+k) (0+l):=by
 have h:=G.li_ad a d 1 0 k l
 rw[←G.li_a]at h
 exact h
theorem Ab.li_ar(a d:γ)(k l:Int):G.ad (G.li a d k l) a=G.li a d (k+1) (l+0):=by
 have h:=G.li_ad a d k l 1 0
 rw[←G.li_a]at h
 exact h
theorem Ab.li_aa(a d:γ):G.ad a a=G.li a d (1+1) (0+0):=by
 have h:=G.li_ad a d 1 0 1 0
 rw[←G.li_a]at h
 exact h
theorem Ab.gW_li{om:γ→γ}{u e:Nat}{a d:γ}{L M:Int}(h:om a=G.li a d L M):G.gW om u e a=G.li a d ((((1+(L+L))*u*u)+ -(1+1+L))*e+1) ((((0+(M+M))*u*u)+ -(0+0+M))*e+0):=by
 unfold Ab.gW
 rw[h,G.li_ad,G.li_al,G.li_nm,G.li_nm,G.li_aa a d,G.li_ad,G.li_ng,G.li_ad,G.li_nm,G.li_ar]
end
/-! ### The same in numbers -/
section
variable {α:Type} (C:Ec α)
def Ec.jf1(c x y:α):α×α×α:=C.jA (x,y,C.R.one) (C.jD (C.jW c (x,y,C.R.one)))
def Ec.jf2(c:α)(lu:List Bool)(x y:α):α×α×α:=C.jx (C.jf1 c x y) lu (C.jf1 c x y)
def Ec.jf3(c:α)(lu:List Bool)(x y:α):α×α×α:=C.jx (C.jf2 c lu x y) lu (C.jf2 c lu x y)
def Ec.jf4(c:α)(lu:List Bool)(x y:α):α×α×α:=C.jA (C.jf3 c lu x y) (C.jN (C.jA (C.jD (x,y,C.R.one)) (C.jW c (x,y,C.R.one))))
def Ec.jf5(c:α)(lu le:List Bool)(x y:α):α×α×α:=C.jA (C.jx (C.jf4 c lu x y) le (C.jf4 c lu x y)) (x,y,C.R.one)
def mW2(lu:List Bool):Nat:=nB (3*(1+4*1)) lu (3*(1+4*1))
def mW4(lu:List Bool):Nat:=3*(nB (mW2 lu) lu (mW2 lu)+3*(4*1+1))
def mW5(lu le:List Bool):Nat:=3*(nB (mW4 lu) le (mW4 lu)+1)
theorem Ec.jf1_D(c:α):C.DJ (3*(1+4*1)) (fun x y=>C.jf1 c x y):=(Ec.DJ.p C).ad ((Ec.DJ.p C).w c).d
theorem Ec.jf2_D(c:α)(lu:List Bool):C.DJ (mW2 lu) (fun x y=>C.jf2 c lu x y):=Ec.DJ.x (C.jf1_D c) lu _ _ (C.jf1_D c)
theorem Ec.jf3_D(c:α)(lu:List Bool):C.DJ (nB (mW2 lu) lu (mW2 lu)) (fun x y=>C.jf3 c lu x y):=Ec.DJ.x (C.jf2_D c lu) lu _ _ (C.jf2_D c lu)
theorem Ec.jf4_D(c:α)(lu:List Bool):C.DJ (mW4 lu) (fun x y=>C.jf4 c lu x y):=(C.jf3_D c lu).ad ((Ec.DJ.p C).d.ad ((Ec.DJ.p C).w c)).n
theorem Ec.jf5_D(c:α)(lu le:List Bool):C.DJ (mW5 lu le) (fun x y=>C.jf5 c lu le x y):=(Ec.DJ.x (C.jf4_D c lu) le _ _ (C.jf4_D c lu)).ad (Ec.DJ.p C)
end
section
variable {α β:Type} {C:Ec α} {D:Ec β} (T:Hw C D)
theorem Hw.jD_f(A:α×α×α):D.jD (T.fj A)=T.fj (C.jD A):=T.jd_f _ _ _
theorem Hw.jA_f(A B:α×α×α):D.jA (T.fj A) (T.fj B)=T.fj (C.jA A B):=T.ja_f _ _ _ _ _ _
theorem Hw.jN_f(A:α×α×α):D.jN (T.fj A)=T.fj (C.jN A):=by
 unfold Ec.jN Hw.fj
 rw[T.fn]
theorem Hw.jW_f(c:α)(A:α×α×α):D.jW (T.f c) (T.fj A)=T.fj (C.jW c A):=by
 unfold Ec.jW Hw.fj
 rw[T.fm]
theorem Hw.jx_f(B:α×α×α): ∀(l:List Bool) (A:α×α×α),D.jx (T.fj B) l (T.fj A)=T.fj (C.jx B l A)
 |[],_=>rfl
 |false::r,A=>by
  show D.jx (T.fj B) r (D.jD (T.fj A))=T.fj (C.jx B r (C.jD A))
  rw[T.jD_f];exact Hw.jx_f B r _
 |true::r,A=>by
  show D.jx (T.fj B) r (D.jA (D.jD (T.fj A)) (T.fj B))=T.fj (C.jx B r (C.jA (C.jD A) B))
  rw[T.jD_f,T.jA_f];exact Hw.jx_f B r _
theorem Hw.jf5_f(c:α)(lu le:List Bool)(x y:α):D.jf5 (T.f c) lu le (T.f x) (T.f y)=T.fj (C.jf5 c lu le x y):=by
 have e0:(T.f x,T.f y,D.R.one)=T.fj (x,y,C.R.one):=by rw[←T.f1];rfl
 unfold Ec.jf5 Ec.jf4 Ec.jf3 Ec.jf2 Ec.jf1
 rw[e0]
 simp only[T.jW_f,T.jD_f,T.jA_f,T.jx_f,T.jN_f]
theorem Hw.jf5_ne(c:α)(lu le:List Bool)(x y:α)(h:(C.jf5 c lu le x y).2.2≠C.R.zero):(D.jf5 (T.f c) lu le (T.f x) (T.f y)).2.2≠D.R.zero:=fun e=>h (T.fi _ (by rw[T.jf5_f]at e;exact e))
def Hw.o(a:{P:Pt α // C.onP P}):{P:Pt β // D.onP P}:=⟨T.p a.1,T.p_on a.2⟩
end
section
variable {α β:Type} [DecidableEq α] [DecidableEq β] {C:Ec α} {D:Ec β}
theorem Hw.o_ad(T:Hw C D)(a b:C.On):T.o (C.ab.ad a b)=D.ab.ad (T.o a) (T.o b):=Subtype.ext (T.p_ad a.2 b.2)
theorem Ec.gW_is(T:Tw C)(u e:Nat){P:Pt α}(hP:C.onP P):(C.ab.gW T.o u e ⟨P,hP⟩).1=C.ad (C.times (C.ad (C.times (C.times (C.ad P (C.ad (T.p P) (T.p P))) u) u) (C.ne (C.ad (C.ad P P) (T.p P)))) e) P:=by
 unfold Ab.gW
 show C.ad (C.ab.nm _ e).1 _=_
 rw[C.ab_nm]
 show C.ad (C.times (C.ad (C.ab.nm _ u).1 _) e) _=_
 rw[C.ab_nm,C.ab_nm]
 rfl
theorem Ec.jf5_V{T:Tw C}{c:α}(hT: ∀q,T.m q=(C.R.mul c q.1,q.2)){lu le:List Bool}{u e:Nat}(hu:bQ lu 1=u)(he:bQ le 1=e){x y:α}(h:C.on (x,y)):C.V (C.jf5 c lu le x y) (C.ab.gW T.o u e ⟨some (x,y),h⟩).1:=by
 rw[C.gW_is T u e (P:=some (x,y)) h]
 have hP:C.onP (some (x,y)):=h
 have v0:C.V (x,y,C.R.one) (some (x,y)):=.inr (C.jr_here x y)
 have hW:=T.p_on hP
 have vW:=v0.w hT
 have hD:=C.ad_on hW hW
 have v1:C.V (C.jf1 c x y) (C.ad (some (x,y)) (C.ad (T.p (some (x,y))) (T.p (some (x,y))))):=v0.a hP hD (vW.d hW)
 have h1:=C.ad_on hP hD
 have v2:=Ec.V.x h1 v1 lu _ 1 v1
 rw[hu]at v2
 have h2:=C.times_on h1 u
 have v3:=Ec.V.x h2 v2 lu _ 1 v2
 rw[hu]at v3
 have h3:=C.times_on h2 u
 have hE:=C.ad_on (C.ad_on hP hP) hW
 have v4:=v3.a h3 (C.ne_on hE) (((v0.d hP).a (C.ad_on hP hP) hW vW).n)
 have h4:=C.ad_on h3 (C.ne_on hE)
 have v5:=Ec.V.x h4 v4 le _ 1 v4
 rw[he]at v5
 exact v5.a (C.times_on h4 e) hP v0
end
end
section
/-! ### Points of the order r -/
section
variable {α β γ:Type} [DecidableEq α] [DecidableEq β] [DecidableEq γ] {C:Ec α} {B:Ec β} {D:Ec γ} (H:Hw C D) (K:Hw B D)
def Tij(g:C.On)(q:B.On)(r i:Nat):D.On:=D.ab.ad (H.o (C.ab.nm g (i % r))) (K.o (B.ab.nm q (i / r+1)))
theorem sG(g:C.On)(q:B.On)(r i:Nat):(Tij H K g q r i).1=D.ad (H.p (C.times g.1 (i % r))) (K.p (B.times q.1 (i / r+1))):=by
 show D.ad (H.p (C.ab.nm g (i % r)).1) (K.p (B.ab.nm q (i / r+1)).1)=_
 rw[C.ab_nm,B.ab_nm]
structure TD(g:C.On)(q:B.On)(r:Nat):Prop where
 sep: ∀S S',C.onP S→B.onP S'→H.p S=K.p S'→S'=none
 hr: ∀d,0<d→d<r→∃e,(d*e) % r=1
 gr:C.times g.1 r=none
 qr:B.times q.1 r=none
 gn:g.1≠none
 qn:q.1≠none
 r0:0<r
 r2:r % 2=1
variable {H K} {r:Nat} {g:C.On} {q:B.On} (t:TD H K g q r)
theorem O8(t:TD H K g q r){i j:Nat}(hij:i<j)(hj:j<r*(r-1)):Tij H K g q r i≠Tij H K g q r j:=fun e=>by
 have e:=congrArg Subtype.val e
 rw[sG,sG]at e
 have k:=y1 H K t.sep (C.times_on g.2 _) (C.times_on g.2 _) (B.times_on q.2 _) (B.times_on q.2 _) e
 have hd: ∀i,i<r*(r-1)→i / r<r-1:=fun i hi=>Nat.div_lt_of_lt_mul hi
 have d1:=hd i om
 have d2:=hd j hj
 have k1:=C.times_inj g.2 t.hr t.gr t.gn (Nat.mod_lt i t.r0) (Nat.mod_lt j t.r0) k.1
 have k2:=B.times_inj q.2 t.hr t.qr t.qn (Nat.add_lt_of_lt_sub d1) (Nat.add_lt_of_lt_sub d2) k.2
 have a1:=Nat.div_add_mod i r
 have a2:=Nat.div_add_mod j r
 rw[k1,Nat.add_right_cancel k2]at a1
 omega
theorem VA(t:TD H K g q r){i:Nat}(hi:i<r*(r-1)):Tij H K g q r i≠D.ab.ze:=fun e=>by
 have e:=congrArg Subtype.val e
 rw[sG]at e
 have d1:i / r<r-1:=Nat.div_lt_of_lt_mul hi
 have hS:=C.times_on g.2 (i % r)
 have hV:=B.times_on q.2 (i / r+1)
 have e1:=D.opp_of (H.p_on hS) (K.p_on hV) e
 rw[←H.p_ne]at e1
 exact B.cyc_no q.2 t.hr t.qr t.qn (d:=i / r+1) (Nat.succ_pos _) (Nat.add_lt_of_lt_sub d1) (t.sep _ _ (C.ne_on hS) hV e1.symm)
theorem QS(t:TD H K g q r){i:Nat}(hi:i<r*(r-1)):D.ab.ng (Tij H K g q r i)≠Tij H K g q r i:=fun e=>by
 have e:D.ne (Tij H K g q r i).1=(Tij H K g q r i).1:=congrArg Subtype.val e
 rw[sG]at e
 have d1:i / r<r-1:=Nat.div_lt_of_lt_mul hi
 have hS:=C.times_on g.2 (i % r)
 have hV:=B.times_on q.2 (i / r+1)
 rw[D.ne_ad (H.p_on hS) (K.p_on hV),←H.p_ne,←K.p_ne]at e
 have k:=(y1 H K t.sep (C.ne_on hS) hS (B.ne_on hV) hV e).2
 have z:B.times q.1 (i / r+1+(i / r+1))=none:=by
  rw[B.times_add q.2]
  conv=>lhs;lhs;rw[←k]
  exact B.ne_ad_self _
 have hr2:=t.r2
 have hk1:i / r+1<r:=Nat.add_lt_of_lt_sub d1
 have hk0:0<i / r+1:=Nat.succ_pos _
 clear k e d1
 generalize i / r+1=k at*
 rcases Nat.lt_trichotomy (k+k) r with h|h|h
 ·exact B.cyc_no q.2 t.hr t.qr t.qn (d:=k+k) om h z
 ·omega
 ·have e2:B.times q.1 (r+(k+k-r))=none:=by rw[show r+(k+k-r)=k+k by omega];exact z
  rw[B.times_add q.2,t.qr]at e2
  exact B.cyc_no q.2 t.hr t.qr t.qn (d:=k+k-r) om om e2
theorem SY{f f':D.On→D.On}(hf: ∀a b,f (D.ab.ad a b)=D.ab.ad (f a) (f b))(hf': ∀a b,f' (D.ab.ad a b)=D.ab.ad (f' a) (f' b))(h1:f (H.o g)=f' (H.o g))(h2:f (K.o q)=f' (K.o q))(i:Nat):f (Tij H K g q r i)=f' (Tij H K g q r i):=by
 unfold Tij
 rw[C.ab.h_nm D.ab H.o_ad,B.ab.h_nm D.ab K.o_ad,hf,hf',D.ab.h_nm D.ab hf,D.ab.h_nm D.ab hf,D.ab.h_nm D.ab hf',D.ab.h_nm D.ab hf',h1,h2]
end
/-! ### A third root of 1 over p^12 -/
def C3:W12:=em (re2 (zp TRN))
theorem C3_4:K12.mul (K12.mul C3 C3) (K12.mul C3 C3)=C3:=by decide+kernel
theorem C3_6:K12.mul (K12.mul C3 C3) (K12.mul (K12.mul C3 C3) (K12.mul C3 C3))=K12.one:=by decide+kernel
theorem C3_3:K12.mul C3 (K12.mul C3 C3)=K12.one:=by decide+kernel
theorem Ra:K12.mul C3 C3=em TR2:=by decide+kernel
def OM3:Tw E12 where
 f:=fun a=>a
 w:=K12.mul C3 C3
 fa:=fun _ _=>rfl
 fm:=fun _ _=>rfl
 fn:=fun _=>rfl
 f0:=rfl
 fi:=fun _ h=>h
 wn:=by decide+kernel
 wb:=by decide+kernel
theorem ww(q:W12×W12):OM3.m q=(K12.mul C3 q.1,q.2):=by
 refine Prod.ext ?_ ?_
 ·show K12.mul (K12.mul (K12.mul C3 C3) (K12.mul C3 C3)) q.1=K12.mul C3 q.1
  rw[C3_4]
 ·show K12.mul (K12.mul (K12.mul C3 C3) (K12.mul (K12.mul C3 C3) (K12.mul C3 C3))) q.2=q.2
  rw[C3_6,K12.one_mul]
theorem VD(S:Pt Zp):OM3.p (HB.p S)=HB.p (TW1.p S):=by
 cases S with
 |none=>rfl
 |some q=>
  refine congrArg some ?_
  rw[ww,tH]
  refine Prod.ext ?_ rfl
  show K12.mul C3 (K12.mul (K12.mul WW WW) (em (re2 q.1)))=K12.mul (K12.mul WW WW) (em (re2 (zp TRN*q.1)))
  rw[zw,←dP]
  exact K12.mul_left_comm _ _ _
theorem S6(S:Pt W2):OM3.p (OM3.p (HE.p S))=HE.p (E2w.ne (TW2.p (TW2.p S))):=by
 cases S with
 |none=>rfl
 |some s=>
  have e:E2w.ne (TW2.p (TW2.p (some s)))=some (ml2 TR2 s.1,s.2):=by
   show some (E2w.ng (TW2.m (TW2.m s)))=_
   rw[KX]
   exact congrArg some (Prod.ext rfl (R2.neg_neg s.2))
  rw[e]
  refine congrArg some ?_
  rw[vU,vU,ww,ww]
  refine Prod.ext ?_ rfl
  show K12.mul C3 (K12.mul C3 (em s.1))=em (ml2 TR2 s.1)
  rw[←K12.mul_assoc,Ra,dP]
theorem OM_3(P:Pt W12):OM3.p (OM3.p (OM3.p P))=P:=by
 cases P with
 |none=>rfl
 |some q=>
  refine congrArg some ?_
  rw[ww,ww,ww]
  refine Prod.ext ?_ rfl
  show K12.mul C3 (K12.mul C3 (K12.mul C3 q.1))=q.1
  rw[←K12.mul_assoc,←K12.mul_assoc,K12.mul_assoc C3,C3_3,K12.one_mul]
/-! ### The second curve, turned -/
def TN2:E2w.ab.Tn where
 f:=TW2.o
 fa:=TW2.o_ad
 f4:=fun a=>by
  have h:E2w.ab.ad (E2w.ab.ad a (E2w.ab.ng (TW2.o (TW2.o a)))) (TW2.o (TW2.o (TW2.o (TW2.o a))))=E2w.ab.ze:=Subtype.ext (uW a.2)
  rw[E2w.ab.ng_of h,E2w.ab.ng_ad,E2w.ab.ng_ng,E2w.ab.comm]
theorem Lz(s:E2w.On):OM3.o (HE.o s)=HE.o (E2w.ab.ad (TW2.o (TW2.o s)) (E2w.ab.ng s)):=by
 have two: ∀s:E2w.On,OM3.o (OM3.o (HE.o s))=HE.o (E2w.ab.ng (TW2.o (TW2.o s))):=fun s=>Subtype.ext (S6 s.1)
 have three: ∀a:E12.On,OM3.o (OM3.o (OM3.o a))=a:=fun a=>Subtype.ext (OM_3 a.1)
 have h4:TW2.o (TW2.o (TW2.o (TW2.o s)))=E2w.ab.ad (TW2.o (TW2.o s)) (E2w.ab.ng s):=TN2.f4 s
 have fn: ∀s,TW2.o (E2w.ab.ng s)=E2w.ab.ng (TW2.o s):=TN2.fn
 rw[←three (OM3.o (HE.o s)),two s,two,fn,fn,E2w.ab.ng_ng,h4]
def g1o:E1.On:=⟨some G1p,gH⟩
def g2o:E2w.On:=⟨some G2p,iS⟩
theorem UC{u:Nat}(h:E1.ne (E1.times (E1.times (some G1p) u) u)=TW1.p (some G1p)):OM3.o (HB.o g1o)=E12.ab.li (HB.o g1o) (HB.o g1o) (-((u*u:Nat):Int)) 0:=by
 have e1:OM3.o (HB.o g1o)=HB.o (TW1.o g1o):=Subtype.ext (VD (some G1p))
 have e2:TW1.o g1o=E1.ab.ng (E1.ab.nm g1o (u*u)):=by
  refine Subtype.ext ?_
  show TW1.p (some G1p)=E1.ne (E1.ab.nm g1o (u*u)).1
  rw[←h,E1.ab_nm,E1.times_mul g1o.2];rfl
 rw[e1,e2,E1.ab.h_ng E12.ab HB.o_ad,E1.ab.h_nm E12.ab HB.o_ad,Ab.li,E12.ab.zm_ng,E12.ab.zm_nat,E12.ab.zm_0,E12.ab.zr]
theorem K2{u:Nat}(h:E2w.ne (E2w.times (some G2p) u)=TW2.p (some G2p)):TW2.o g2o=E2w.ab.ng (E2w.ab.nm g2o u):=by
 refine Subtype.ext ?_
 show TW2.p (some G2p)=E2w.ne (E2w.ab.nm g2o u).1
 rw[←h,E2w.ab_nm];rfl
theorem UM{u:Nat}(h:E2w.ne (E2w.times (some G2p) u)=TW2.p (some G2p)):OM3.o (HE.o g2o)=E12.ab.li (HE.o g2o) (HE.o g2o) ((u*u:Nat)+ -1) 0:=by
 have e:=K2 h
 have fn: ∀s,TW2.o (E2w.ab.ng s)=E2w.ab.ng (TW2.o s):=TN2.fn
 have fm: ∀s n,TW2.o (E2w.ab.nm s n)=E2w.ab.nm (TW2.o s) n:=TN2.fm
 rw[Lz,e,fn,fm,e,E2w.ab.nm_ng,E2w.ab.ng_ng,←E2w.ab.nm_mul,HE.o_ad,E2w.ab.h_nm E12.ab HE.o_ad,E2w.ab.h_ng E12.ab HE.o_ad,Ab.li,E12.ab.zm_add,E12.ab.zm_nat,E12.ab.zm_ng,E12.ab.zm_1,E12.ab.zm_0,E12.ab.zr]
end
section
theorem Ab.h_zm{γ δ:Type}(G:Ab γ)(H:Ab δ){f:γ→δ}(hf: ∀a b,f (G.ad a b)=H.ad (f a) (f b))(a:γ)(n:Int):f (G.zm a n)=H.zm (f a) n:=by
 rw[Ab.zm,hf,G.h_ng H hf,G.h_nm H hf,G.h_nm H hf];rfl
theorem o_px:E12.DW (2*PP) (fun x _=>K12.mul (K12.mul (em PW) (em PW)) (bK x)):=by
 have k:=(((Ec.DW.x E12).pw PP).sm (K12.mul (em PW) (em PW))).up (e:=2*PP) (Nat.mul_le_mul_right PP dc)
 have e:(fun x y=>E12.R.mul (K12.mul (em PW) (em PW)) (E12.R.pw x PP):W12→W12→W12)=fun x _=>K12.mul (K12.mul (em PW) (em PW)) (bK x):=funext fun x=>funext fun _=>congrArg (K12.mul (K12.mul (em PW) (em PW))) (eQ x)
 rw[e]at k
 exact k
theorem o_py:E12.DW (2*PP) (fun _ y=>K12.mul (K12.mul (em PW) (K12.mul (em PW) (em PW))) (bK y)):=by
 have k:=((Ec.DW.y E12).pw PP).sm (K12.mul (em PW) (K12.mul (em PW) (em PW)))
 have e:(fun x y=>E12.R.mul (K12.mul (em PW) (K12.mul (em PW) (em PW))) (E12.R.pw y PP):W12→W12→W12)=fun _ y=>K12.mul (K12.mul (em PW) (K12.mul (em PW) (em PW))) (bK y):=funext fun _=>funext fun y=>congrArg (K12.mul (K12.mul (em PW) (K12.mul (em PW) (em PW)))) (eQ y)
 rw[e]at k
 exact k
theorem w7{γ:Type}(G:Ab γ){a:γ}{r:Nat}(h:G.nm a r=G.ze){m n k:Int}(e:m=n+k*r)(l:Int)(hl:l=0):G.li a a m l=G.zm a n:=by
 rw[Ab.li,hl,G.zm_0,G.zr,G.zm_mod h k e]
theorem IH{u e r:Nat}{lu le:List Bool}(hu:bQ lu 1=u)(he:bQ le 1=e)(t:TD HE HB g2o g1o r)(t1:E1.ne (E1.times (E1.times (some G1p) u) u)=TW1.p (some G1p))(t2:E2w.ne (E2w.times (some G2p) u)=TW2.p (some G2p)){k1 k2:Int}
 (N1:(((1+(-((u*u:Nat):Int)+ -((u*u:Nat):Int)))*u*u)+ -(1+1+ -((u*u:Nat):Int)))*e+1=1+k1*r)
 (N2:(((1+(((u*u:Nat):Int)+ -1+(((u*u:Nat):Int)+ -1)))*u*u)+ -(1+1+(((u*u:Nat):Int)+ -1)))*e+1= -(u:Int)+k2*r)
 (hn:2*(4*mW5 lu le+2*PP+1)≤r*(r-1)) (n1:(E2w.jf5 (re2 (zp TRN)) lu le AX AY).2.2≠ze2) (n2:(E2w.jf5 (re2 (zp TRN)) lu le AX (ng2 AY)).2.2≠ze2) (a:E12.On):TW12.o a=E12.ab.gW OM3.o u e a:=by
 have z0:(((0+((0:Int)+0))*u*u)+ -(0+0+0))*e+0=0:=sm
 have r1:E12.ab.nm (HB.o g1o) r=E12.ab.ze:=by
  rw[←E1.ab.h_nm E12.ab HB.o_ad,show E1.ab.nm g1o r=E1.ab.ze from Subtype.ext (by rw[E1.ab_nm];exact t.qr)];rfl
 have r2:E12.ab.nm (HE.o g2o) r=E12.ab.ze:=by
  rw[←E2w.ab.h_nm E12.ab HE.o_ad,show E2w.ab.nm g2o r=E2w.ab.ze from Subtype.ext (by rw[E2w.ab_nm];exact t.gr)];rfl
 have s1:TW12.o (HB.o g1o)=E12.ab.gW OM3.o u e (HB.o g1o):=by
  rw[E12.ab.gW_li (UC t1),w7 E12.ab r1 N1 _ z0,E12.ab.zm_1]
  exact Subtype.ext (wY (some G1p))
 have s2:TW12.o (HE.o g2o)=E12.ab.gW OM3.o u e (HE.o g2o):=by
  rw[E12.ab.gW_li (UM t2),w7 E12.ab r2 N2 _ z0,E12.ab.zm_ng,E12.ab.zm_nat,←E2w.ab.h_nm E12.ab HE.o_ad,←E2w.ab.h_ng E12.ab HE.o_ad,←K2 t2]
  exact Subtype.ext (qK (some G2p))
 have m1:=HE.jf5_ne (re2 (zp TRN)) lu le AX AY n1
 have m2:=HE.jf5_ne (re2 (zp TRN)) lu le AX (ng2 AY) n2
 have en:HE.f (ng2 AY)=E12.R.neg (em AY):=tb AY
 rw[en]at m2
 exact Ec.all_same TW12.o_ad (E12.ab.gW_ad OM3.o_ad u e) (E12.jf5_D C3 lu le) (fun x y h=>Ec.jf5_V ww hu he h) o_px o_py (fun _ _ _=>rfl) (T:=Tij HE HB g2o g1o r) (fun _ _=>O8 t) (fun _=>VA t) (fun _=>QS t) (fun i _=>SY TW12.o_ad (E12.ab.gW_ad OM3.o_ad u e) s2 s1 i) hn Df m1 m2 a
def rho(u e:Nat):Q4:=((((1+(-1+ -1))*u*u)+ -(1+1+ -1))*e+1,-1,(((0+(1+1))*u*u)+ -(0+0+1))*e+0,0)
theorem IJ{u e:Nat}(h: ∀a:E12.On,TW12.o a=E12.ab.gW OM3.o u e a)(s:E2w.On):TN2.act (rho u e) s=E2w.ab.ze:=by
 have o1:OM3.o (HE.o s)=E12.ab.li (HE.o s) (HE.o (TW2.o (TW2.o s))) (-1) 1:=by
  rw[Lz,HE.o_ad,E2w.ab.h_ng E12.ab HE.o_ad,Ab.li,E12.ab.zm_ng,E12.ab.zm_1,E12.ab.zm_1,E12.ab.comm]
 have o2:HE.o (TW2.o s)=E12.ab.gW OM3.o u e (HE.o s):=by
  rw[←h]
  exact (Subtype.ext (qK s.1)).symm
 rw[E12.ab.gW_li o1]at o2
 have key:HE.o (TN2.act (rho u e) s)=E12.ab.ze:=by
  unfold Ab.Tn.act rho
  dsimp only
  generalize (((1+(-1+ -1))*(u:Int)*u)+ -(1+1+ -1))*e+1=N at*
  generalize (((0+(1+1))*(u:Int)*u)+ -(0+0+1))*e+0=M at*
  rw[HE.o_ad,HE.o_ad,HE.o_ad,E2w.ab.h_zm E12.ab HE.o_ad,E2w.ab.h_zm E12.ab HE.o_ad,E2w.ab.h_zm E12.ab HE.o_ad,E2w.ab.h_zm E12.ab HE.o_ad,E12.ab.zm_0,E12.ab.zr,E12.ab.zm_ng,E12.ab.zm_1]
  show E12.ab.ad (E12.ab.ad _ (E12.ab.ng (HE.o (TW2.o s)))) (E12.ab.zm (HE.o (TW2.o (TW2.o s))) M)=_
  rw[o2,Ab.li,E12.ab.assoc,E12.ab.comm (E12.ab.ng _),←E12.ab.assoc,E12.ab.nr]
 exact Subtype.ext (HE.p_none (congrArg Subtype.val key))
/-! ### The numbers -/
def EU:Nat:=(UG+1) / 3
def lU:List Bool:=(dN 64 UG []).tail
def lE:List Bool:=(dN 63 EU []).tail
theorem lU_n:bQ lU 1=UG:=by decide+kernel
theorem lE_n:bQ lE 1=EU:=by decide+kernel
theorem Ri:2*(4*mW5 lU lE+2*PP+1)≤ORD*(ORD-1):=by decide+kernel
theorem UE_1:(((1+(-((UG*UG:Nat):Int)+ -((UG*UG:Nat):Int)))*UG*UG)+ -(1+1+ -((UG*UG:Nat):Int)))*EU+1=1+(-2*(EU:Int))*ORD:=by decide+kernel
theorem UE_2:(((1+(((UG*UG:Nat):Int)+ -1+(((UG*UG:Nat):Int)+ -1)))*UG*UG)+ -(1+1+(((UG*UG:Nat):Int)+ -1)))*EU+1= -(UG:Int)+(2*(EU:Int))*ORD:=by decide+kernel
theorem A_j1:(E2w.jf5 (re2 (zp TRN)) lU lE AX AY).2.2≠ze2:=by decide+kernel
theorem A_j2:(E2w.jf5 (re2 (zp TRN)) lU lE AX (ng2 AY)).2.2≠ze2:=by decide+kernel
theorem g_td:TD HE HB g2o g1o ORD where
 sep:=Kc
 hr:=fun _ h0 h1=>pH mC h0 h1
 gr:=iM
 qr:=jz
 gn:=LA
 qn:=EL
 r0:=by decide+kernel
 r2:=by decide+kernel
theorem De(s:E2w.On):TN2.act (rho UG EU) s=E2w.ab.ze:=IJ (IH lU_n lE_n g_td (by rw[JB]) (by rw[KY]) UE_1 UE_2 Ri A_j1 A_j2) s
end
section
def HEF:Nat:=0xbc69f08f2ee75b3584c6a0ea91b352888e2a8e9145ad7689986ff031508ffe1329c2f178731db956d82bf015d1212b02ec0ec69d7477c1ae954cbc06689f6a359894c0adebbf6b4e8020005aaa95551
def gCR:Q4:=(3175829495326079093223974707421713920929943713226963548300320552577044122385062918806753210708010195697222845942564328869099989319341598650296202088398645760395354361788887860685712333010521923740843833774331222,-2749521005381415097445601975610628764608838291071271597781440591441299419767669058301640939377508500417419161008431142969189977575372134321247729372495869,-6351658990652158186447949414843427841901494212740239422985378386944926357135145186773538712190292049236902325813389887900305724281946913697173908505664764391934386717058131074714202240959035786517553541389331117,24014457331330004357332821391498562889222829239326244857160378356394428128870661260283833621775616097469146203160572)
theorem LK:((((HEF*ORD:Nat):Int),0,0,0):Q4)=Q4.add (0,0,0,0) (gCR.mul (rho UG EU)):=by decide+kernel
theorem Dy(s:E2w.On):TN2.act (0,0,0,0) s=E2w.ab.ze:=TN2.act_nm 0 s
theorem HC{P:Pt W2}(hP:E2w.onP P):E2w.times (E2w.times P HEF) ORD=none:=by
 have h:=TN2.act_same De LK ⟨P,hP⟩
 rw[Dy,TN2.act_nm]at h
 have k:=congrArg Subtype.val h
 rw[E2w.ab_nm,E2w.times_mul hP]at k
 exact k
end
section
theorem nH{a x y:W2}(ha:a≠ze2)(h:ml2 a x=ml2 a y):x=y:=by
 have e:=cK ha
 generalize iv2 a=s at*
 exact zl R2 [a,s,x,y] 0x8 0x44575695382592 0x9 0x445756853856759567 (lca (lca (lcm h) (lcm e)) (lcm e))
theorem MS{n s:Zp}(h:s*s= -n)(hn:n≠0): ¬IsQ n:=by
 rcases mf (a:=n) (b:= -n) (c:=n) (by grind) hn with k|k
 ·exact absurd (oF h) k.2
 ·exact k.1
theorem Kh{u X:W2}(h:tu2 u≠ze2)(e:ml2 (ml2 OA X) (tu2 u)=ml2 (ng2 OB) (ad2 (tu2 u) on2)):x1O u=X:=by
 have k:=(Jp h).trans e.symm
 have sw: ∀a x t:W2,ml2 (ml2 a x) t=ml2 (ml2 a t) x:=fun a x t=>zx R2 [a,x,t] 0x55678 0x55687
 rw[sw,sw OA X]at k
 exact nH (fun q=>(fg q).elim yD h) k
theorem PH{u X R x r:W2}(h:tu2 u≠ze2)(e:ml2 (ml2 OA X) (tu2 u)=ml2 (ng2 OB) (ad2 (tu2 u) on2))(hr:ml2 R R=gO X)(hl:LG2 R=false)(s:SwR u x r):x=X∧r=R:=by
 have k:=Kh h e
 have hx:x=X:=s.at1.elim (fun q=>q.trans k) (fun q=>absurd ((iJ _).1 ⟨R,hr⟩) (k▸q.1))
 exact ⟨hx,km hr hl (hx▸s.sq) s.lg⟩
theorem LM{u X X' R x r:W2}{q:Zp}(h:tu2 u≠ze2)(e:ml2 (ml2 OA X) (tu2 u)=ml2 (ng2 OB) (ad2 (tu2 u) on2))(hn:q*q= -(nm2 (gO X)))(h0:nm2 (gO X)≠0)(hx':ml2 (zu2 u) X=X')(hr:ml2 R R=gO X')(hl:LG2 R=false)(s:SwR u x r):x=X'∧r=R:=by
 have k:=Kh h e
 have hx:x=X':=s.at1.elim (fun j=>absurd (k5 (j.trans k▸s.sq)) (MS hn h0)) (fun j=>by rw[j.2,k];exact hx')
 exact ⟨hx,km hr hl (hx▸s.sq) s.lg⟩
theorem Ju{x X:W2}(h:R2.pev iXD x≠ze2)(e:ml2 (R2.pev iXD x) X=R2.pev iXN x):XIs x=X:=by
 refine nH h (Eq.trans ?_ e.symm)
 have k:=cK h
 unfold XIs
 generalize R2.pev iXD x=d at*
 generalize R2.pev iXN x=n at*
 generalize iv2 d=s at*
 exact zk R2 [d,n,s] 0x56578 0x7 0x7 0x2 0x568 k
theorem K1{x y Y:W2}(h:R2.pev iYD x≠ze2)(e:ml2 (R2.pev iYD x) Y=ml2 y (R2.pev iYN x)):YIs x y=Y:=by
 refine nH h (Eq.trans ?_ e.symm)
 have k:=cK h
 unfold YIs
 generalize R2.pev iYD x=d at*
 generalize ml2 y (R2.pev iYN x)=n at*
 generalize iv2 d=s at*
 exact zk R2 [d,n,s] 0x56578 0x7 0x7 0x2 0x568 k
def okL(L:W6)(X:W2):Bool:= !decide (L.2.2=ze2) && decide (ml2 (ml2 L.2.2 L.2.2) X=L.1)
theorem DD{P Q:Pt W2}{J K:W6}{X:W2}{m:Nat}(hP:E2w.onP P)(hQ:E2w.onP Q)(hJ:E2w.jr J P)(hK:E2w.jr K Q){l:List Bool}(hm:kC l 0=m)(hL:okL (E2w.jm (E2w.jaF J K) l (ze2,ze2,ze2)) X=true): ∃y,E2w.times (E2w.ad P Q) m=some (X,y):=by
 subst hm
 have h:=Ec.jr_m (C:=E2w) (E2w.ad_on hP hQ) (E2w.jr_a hP hQ hJ hK) l (ze2,ze2,ze2) 0 rfl
 generalize E2w.jm (E2w.jaF J K) l (ze2,ze2,ze2)=L at*
 simp only[okL,Bool.and_eq_true,Bool.not_eq_true',decide_eq_true_eq,decide_eq_false_iff_not]at hL
 obtain ⟨hz,hX⟩:=hL
 cases e:E2w.times (E2w.ad P Q) (kC l 0)with
 |none=>rw[e]at h;exact absurd h hz
 |some q=>
  rw[e]at h
  have k:L.1=ml2 q.1 (ml2 L.2.2 L.2.2):=h.2.1
  refine ⟨q.2,congrArg some (Prod.ext (nH (a:=ml2 L.2.2 L.2.2) (fun j=>(fg j).elim hz hz) ?_) rfl)⟩
  rw[hX,k];exact R2.mul_comm _ _
theorem EA:kC (dN 636 HEF []) 0=HEF:=by decide+kernel
end
section
open J2
open Go.RowKit
attribute [local simp] aT a9 aR aM aC bd aJ aI aA PLl cq cn N1l ck cp cm a5 bc aP aX a8 bf cZ gg Xm.N2r_len
def HBs:L8:=[11#8,198#8,159#8,8#8,242#8,238#8,117#8,179#8,88#8,76#8,106#8,14#8,169#8,27#8,53#8,40#8,136#8,226#8,168#8,233#8,20#8,90#8,215#8,104#8,153#8,134#8,255#8,3#8,21#8,8#8,255#8,225#8,50#8,156#8,47#8,23#8,135#8,49#8,219#8,149#8,109#8,130#8,191#8,1#8,93#8,18#8,18#8,176#8,46#8,192#8,236#8,105#8,215#8,71#8,124#8,26#8,233#8,84#8,203#8,192#8,102#8,137#8,246#8,163#8,89#8,137#8,76#8,10#8,222#8,187#8,246#8,180#8,232#8,2#8,0#8,5#8,170#8,169#8,85#8,81#8]
theorem OwnV.skip{L:Hl}{n:Nat}{e:TypeId}{a0:Option Addr}{cap:Nat}{xs:List Value}(h:OwnV L n e a0 cap xs)(m:Nat){x:Nat×List Value×TypeId}(hm:Nat.beq m n=false):OwnV ((m,x)::L) n e a0 cap xs:=by
 rcases h with h|⟨b,c,h1,h2,h3⟩
 ·exact .inl h
 ·exact .inr ⟨b,c,h1,by show (bif Nat.beq m n then some x else lkB L n)=_;rw[hm];exact h2,h3⟩
theorem RC:BN HBs HBs.length=HEF:=by decide+kernel
end
section
open J2
open Go.RowKit
attribute [local simp] aT a9 aR aM aC bd aJ aI aA PLl cq cn N1l ck cp cm a5 bc aP aX a8 bf cZ gg Xm.N2r_len
def U2n(msg dst:L8)(i:Nat):W2:=Xm.N2 (Xm.E msg dst 256) i
abbrev U2c(msg dst:L8):List Value:=(RW 12 (Xm.N2r (Xm.E msg dst 256)) 2).map U64
def SwA(u:W2)(A:W2×W2):Prop:= ∃x r,SwR u x r∧(XIs x,YIs x (sgS r u))=A
theorem Ep(u:W2): ∃A,SwA u A:=by
 obtain ⟨x,r,h⟩:=PK u
 exact ⟨_,x,r,h,rfl⟩
theorem E9{u:W2}{A:W2×W2}(h:SwA u A):E2w.on A:=by
 obtain ⟨x,r,s,rfl⟩:=h
 exact wO s.on
structure Sw2(msg dst:L8)(A B:W2×W2):Prop where
 s0:SwA (U2n msg dst 0) A
 s1:SwA (U2n msg dst 1) B
theorem AU{msg dst:L8}{w0 w:World}{v:Value}(h:Xm.RFt msg dst 2 w0 w v)(hb: ¬Xm.FBad msg dst 2): ∃b cap,v=.tuple #[.slice (spt b) 2 cap,I 0]∧w0.heap.size≤b∧w.rangeAt b 0 (U2c msg dst):=by
 obtain ⟨a,cap,hv,ha⟩:=h.ok hb
 obtain ⟨b,rfl,hs,hr⟩:=ha.resolve_left dc
 exact ⟨b,cap,hv,hs,hr⟩
theorem E3{msg dst:L8}{w:World}{b:Nat}(h:w.rangeAt b 0 (U2c msg dst)):b<w.heap.size:=by
 have hl:0<(U2c msg dst).length:=by simp[U2c]
 exact block_lt_of_cell (h 0 _ (List.getElem?_eq_getElem hl))
end
section
open J2
open Go.RowKit
attribute [local simp] aT a9 aR aM aC bd aJ aI aA PLl cq cn N1l ck cp cm a5 bc aP aX a8 bf cZ gg i9
theorem ent94:ai prog 94:=fun _ _=>kr
structure PHs:Prop where
 bad: ∀msg dst,Xm.FBad msg dst 2→∃p:GP,p.P=none∧∀(a1:Option Addr) (cap1:Nat) (a2:Option Addr) (cap2:Nat) (w:World),msg.length≤65600→msg.length≤cap1→dst.length≤1000→dst.length≤cap2→Gt w→BytesAt w a1 msg→BytesAt w a2 dst→CLS 94 [.slice a1 msg.length cap1,.slice a2 dst.length cap2].toArray w (fun e w'=>e=.returned (.tuple #[PtV p,I 130])∧Grow w w')
 ok: ∀msg dst A B,¬Xm.FBad msg dst 2→Sw2 msg dst A B→∃p:GP,p.P=E2w.times (E2w.ad (some A) (some B)) HEF∧∀(a1:Option Addr) (cap1:Nat) (a2:Option Addr) (cap2:Nat) (w:World),msg.length≤65600→msg.length≤cap1→dst.length≤1000→dst.length≤cap2→Gt w→BytesAt w a1 msg→BytesAt w a2 dst→CLS 94 [.slice a1 msg.length cap1,.slice a2 dst.length cap2].toArray w (fun e w'=>e=.returned (.tuple #[PtV p,I 0])∧Grow w w')
def SUs:L8:=[66#8,76#8,83#8,95#8,83#8,73#8,71#8,95#8,66#8,76#8,83#8,49#8,50#8,51#8,56#8,49#8,71#8,50#8,95#8,88#8,77#8,68#8,58#8,83#8,72#8,65#8,45#8,50#8,53#8,54#8,95#8,83#8,83#8,87#8,85#8,95#8,82#8,79#8,95#8,80#8,79#8,80#8,95#8]
def SUb:ByteArray:=⟨(SUs.map fun x=>UInt8.ofBitVec x).toArray⟩
theorem BF(msg dst:L8): ∃A B,Sw2 msg dst A B:=by
 obtain ⟨A,h⟩:=Ep (U2n msg dst 0)
 obtain ⟨B,h'⟩:=Ep (U2n msg dst 1)
 exact ⟨A,B,h,h'⟩
theorem Ue{P Q:Pt W2}(hP:E2w.onP P)(h:Q=E2w.times P HEF):E2w.times Q ORD=none:=by rw[h];exact HC hP
theorem Gk{msg dst:L8}{A B:W2×W2}(h:Sw2 msg dst A B):E2w.onP (E2w.ad (some A) (some B)):=E2w.ad_on (fw (E9 h.s0)) (fw (E9 h.s1))
end
section
open Go.RowKit
theorem ent260:ai prog 260:=fun _ _=>kr
theorem ent259:ai prog 259:=fun _ _=>kr
theorem ent261:ai prog 261:=fun _ _=>kr
namespace Xm
attribute [local simp] Sh.gj jX n9 jg fI iG Sh.bI kH
theorem zvH(w:World):(zeroValue 315).run prog w=.ok (.agg (Sh.hc (List.replicate 8 0#32) (List.replicate 64 0#8) 0).toArray) w:=(zeroValue315 w).trans rr
theorem Nz(T bs:L8)(bh:Nat)(st:L3)(rs:L8)(n:BitVec 64)(hi:Sh.HInv T st rs n)(a:Option Addr)(len cap:Nat)(hlen:bs.length=len)(hcap:len≤cap)(hT:T.length+len<9223372036854775808)(w:World)(hw:Gt w)(ho:OwnB w bh (Sh.hc st rs n) 315)(hbh:8≤bh)(hby:BytesAt w a bs)(hne:bs≠[]→∀ad,a=some ad→ad.block≠bh):
 CLS 282 [pnt bh,.slice a len cap].toArray w (fun e w'=>e=.returned (.tuple #[])∧Mod bh w w'∧∃st' rs' n',Sh.HInv (T++bs) st' rs' n'∧OwnB w' bh (Sh.hc st' rs' n') 315):=by
 subst hlen;exact Sh.ui T bs bh st rs n hi (by rw[List.length_append];exact hT) a cap hcap w hw ho hbh hby hne
structure Pc where
 (a:Option Addr) (len cap:Nat) (bs:L8)
def Pc.v(p:Pc):Value:=.slice p.a p.len p.cap
structure PcAt(w:World)(p:Pc):Prop where
 hl:p.bs.length=p.len
 hc:p.len≤p.cap
 hb:BytesAt w p.a p.bs
structure PsAt(w:World)(a:Option Addr)(ps:List Pc):Prop where
 cells:CellsAt w a (ps.map Pc.v)
 all: ∀p,p∈ps→PcAt w p
def cat(ps:List Pc)(k:Nat):L8:=((ps.take k).map Pc.bs).flatten
theorem FH{ps:List Pc}{k:Nat}{p:Pc}(h:ps[k]? =some p):cat ps (k+1)=cat ps k++p.bs:=by
 rw[cat,List.take_add_one,h,List.map_append,List.flatten_append]
 simp[cat]
theorem Cu(ps:List Pc): ∀(m k:Nat),(cat ps k).length≤(cat ps (k+m)).length
 |0,_=>Nat.le_refl _
 |m+1,k=>by
  refine Nat.le_trans (Cu ps m k) ?_
  cases h:ps[k+m]? with
  |some p=>rw[←Nat.add_assoc,FH h,List.length_append];omega
  |none=>
   have:ps.length≤k+m:=List.getElem?_eq_none_iff.1 h
   rw[cat,cat,List.take_of_length_le this,List.take_of_length_le om]
   exact Nat.le_refl _
theorem HV(ps:List Pc){k:Nat}(h:k≤ps.length):(cat ps k).length≤(cat ps ps.length).length:=by
 have:=Cu ps (ps.length-k) k
 rwa [Nat.add_sub_cancel' h]at this
structure LsV(ps:List Pc) where
 (k:Nat) (st:L3) (rs:L8) (n:BitVec 64)
 hk:k≤ps.length
 hi:Sh.HInv (cat ps k) st rs n
theorem Ur(a:Option Addr)(cap:Nat)(ps:List Pc)(hlen:ps.length≤1000)(hl:(cat ps ps.length).length≤1000000)(w:World)(hw:Gt w)(hr:PsAt w a ps):CLS 260 [.slice a ps.length cap].toArray w (fun e w'=>e=.returned (.agg ((Sh.SHA (cat ps ps.length)).map U8).toArray)∧Grow w w'):=by
 refine Hf func260 rfl hw<|fun hGF=>ae (E:=EE [282])<|Al 2 hGF zv112<|fun b2=>aa<|ae (E:=EE [282])<|Al 3 hGF zvH<|fun b3=>aa<|ah<|ae (E:=EE [282])<|Mv rfl<|bv rfl (fun _=>aL underlying312 _ _ _ _) rfl rfl<|Mv rfl<|aa<|aj<|cH (ι:=LsV ps) (fun z=>[(6,.slice a ps.length cap),(7,I (ps.length:Int)),(8,I (z.k:Int)),(2,pnt b2),(3,pnt b3)]) (fun z=>[(2,b2,(List.replicate 32 0#8).map U8,112),(3,b3,Sh.hc z.st z.rs z.n,315)]) (fun z=>ps.length-z.k) ⟨0,_,_,_,Nat.zero_le _,Sh.HInv.zero⟩ hGF trv trv<|?_
 rintro ⟨k,st,rs,n,hk,hi⟩
 dsimp only
 refine ae (E:=EE [282])<|Bnr rfl rfl (fun _=>aD _ _ _)<|aa<|ah<|?_
 refine bV rfl (fun hc=> ?_) (fun hc=> ?_)
 ·have hlt:k<ps.length:=by simp at hc;omega
  clear hc
  obtain ⟨p,hp⟩: ∃p,ps[k]? =some p:=⟨_,List.getElem?_eq_getElem hlt⟩
  obtain ⟨ad,rfl,hcell⟩:=hr.cells k p.v (by rw[List.getElem?_map,hp];rfl)
  have hpa:=hr.all p (List.mem_of_getElem? hp)
  have hsz:(cat ps k).length+p.len<9223372036854775808:=by
   have h1:=HV ps (k:=k+1) hlt
   rw[FH hp,List.length_append,hpa.hl]at h1
   omega
  refine ap<|ah<|aj<|ae (E:=EE [282])<|fB k rfl rfl underlying312 sizeOf22 rfl hlt rfl rfl<|bt rfl isAgg22 (fun w' h=>((ac h).cell (block_lt_of_cell hcell)).trans hcell) rfl rfl<|Asg rfl<|aa<|bz (E:=EE [282])<|Mv rfl<|?_
  refine cU rfl rfl ent282 rfl rfl (fun w' hC=>(Nz (cat ps k) (p.bs) b3 st rs n hi _ _ _ (hpa.hl) hpa.hc hsz w' (hGF.g _ _ _ hC) (hC.own 3 _ _ _ rfl).1 (Nat.le_trans (gt_low.size w hw) ((hC.own 3 _ _ _ rfl).2.elim id False.elim)) (hpa.hb.grow (ac hC)) (fun h ad e=>Nat.ne_of_lt (Nat.lt_of_lt_of_le (hpa.hb.lt h ad e) ((hC.own 3 _ _ _ rfl).2.elim id False.elim)))).mono fun e w'' h=> ?_)
  obtain ⟨rfl,hm,st1,rs1,n1,hi1,ho⟩:=h
  refine ⟨_,_,rfl,aq hGF,hC.mod hGF.r (n:=3) rfl hm ho, ?_⟩
  clear hC hm ho
  refine aa<|bz (E:=EE [282])<|Bnr (v:=I ((k+1:Nat):Int)) rfl rfl (fun _=>(az _ _ _ oi).trans rr)<|Mv rfl<|aa<|?_
  repeat (refine a7 ?_)
  exact aV<|⟨rfl,⟨k+1,st1,rs1,n1,hlt,(FH hp).symm▸hi1⟩,_,by show ps.length-(k+1)<ps.length-k;omega,rfl,trv,trv⟩
 ·have hke:k=ps.length:=by simp at hc;omega
  clear hc
  refine ba<|ae (E:=EE [282])<|Cc rfl ent283 (fun w' hC hG=>Sh.wa (cat ps k) b3 st rs n hi w' hG (hC.own 3 _ _ _ rfl).1)<|aw 2 hGF rfl rfl rfl sizeOf112 sm sm (bH _) rfl<|aa<|am<|Rr<|?_
  exact ay 2 rfl rfl rfl isAgg112 sizeOf112 sm (fun w hw=>⟨by rw[←hke],ac hw⟩)
theorem V9(b:Nat)(a1:Option Addr)(l1 c1:Nat)(x1:L8)(a2:Option Addr)(l2 c2:Nat)(x2:L8)(a3:Option Addr)(l3 c3:Nat)(x3:L8)(w:World)(hw:Gt w)(hr:w.rangeAt b 0 [.slice a1 l1 c1,.slice a2 l2 c2,.slice a3 l3 c3])(e1:x1.length=l1)(h1:l1≤c1)(b1:BytesAt w a1 x1)(e2:x2.length=l2)(h2:l2≤c2)(b2:BytesAt w a2 x2)(e3:x3.length=l3)(h3:l3≤c3)(b3:BytesAt w a3 x3)(hl:l1+l2+l3≤1000000):CLS 260 [.slice (spt b) 3 3].toArray w (fun e w'=>e=.returned (.agg ((Sh.SHA ((x1++x2)++x3)).map U8).toArray)∧Grow w w'):=by
 have e:cat [⟨a1,l1,c1,x1⟩,⟨a2,l2,c2,x2⟩,⟨a3,l3,c3,x3⟩] 3=(x1++x2)++x3:=by simp[cat]
 have h:=Ur (spt b) 3 [⟨a1,l1,c1,x1⟩,⟨a2,l2,c2,x2⟩,⟨a3,l3,c3,x3⟩] sm (by show (cat [⟨a1,l1,c1,x1⟩,⟨a2,l2,c2,x2⟩,⟨a3,l3,c3,x3⟩] 3).length≤_;rw[e];simp only[List.length_append];omega) w hw ⟨CellsAt.range hr,fun p hp=>by
  simp only[List.mem_cons,List.not_mem_nil,or_false]at hp
  rcases hp with rfl|rfl|rfl
  ·exact ⟨e1,h1,b1⟩
  ·exact ⟨e2,h2,b2⟩
  ·exact ⟨e3,h3,b3⟩⟩
 rw[←e]
 exact h
theorem Rn(b:Nat)(a1:Option Addr)(l1 c1:Nat)(x1:L8)(a2:Option Addr)(l2 c2:Nat)(x2:L8)(a3:Option Addr)(l3 c3:Nat)(x3:L8)(a4:Option Addr)(l4 c4:Nat)(x4:L8)(w:World)(hw:Gt w)(hr:w.rangeAt b 0 [.slice a1 l1 c1,.slice a2 l2 c2,.slice a3 l3 c3,.slice a4 l4 c4])(e1:x1.length=l1)(h1:l1≤c1)(b1:BytesAt w a1 x1)(e2:x2.length=l2)(h2:l2≤c2)(b2:BytesAt w a2 x2)(e3:x3.length=l3)(h3:l3≤c3)(b3:BytesAt w a3 x3)(e4:x4.length=l4)(h4:l4≤c4)(b4:BytesAt w a4 x4)(hl:l1+l2+l3+l4≤1000000):CLS 260 [.slice (spt b) 4 4].toArray w (fun e w'=>e=.returned (.agg ((Sh.SHA (((x1++x2)++x3)++x4)).map U8).toArray)∧Grow w w'):=by
 have e:cat [⟨a1,l1,c1,x1⟩,⟨a2,l2,c2,x2⟩,⟨a3,l3,c3,x3⟩,⟨a4,l4,c4,x4⟩] 4=((x1++x2)++x3)++x4:=by simp[cat]
 have h:=Ur (spt b) 4 [⟨a1,l1,c1,x1⟩,⟨a2,l2,c2,x2⟩,⟨a3,l3,c3,x3⟩,⟨a4,l4,c4,x4⟩] sm (by show (cat [⟨a1,l1,c1,x1⟩,⟨a2,l2,c2,x2⟩,⟨a3,l3,c3,x3⟩,⟨a4,l4,c4,x4⟩] 4).length≤_;rw[e];simp only[List.length_append];omega) w hw ⟨CellsAt.range hr,fun p hp=>by
  simp only[List.mem_cons,List.not_mem_nil,or_false]at hp
  rcases hp with rfl|rfl|rfl|rfl
  ·exact ⟨e1,h1,b1⟩
  ·exact ⟨e2,h2,b2⟩
  ·exact ⟨e3,h3,b3⟩
  ·exact ⟨e4,h4,b4⟩⟩
 rw[←e]
 exact h
theorem VU(a:Option Addr)(m:Nat):(if m=0 then a else a.map (·.add (0*1)))=a:=by
 cases a with
 |none=>simp
 |some ad=>simp[Addr.add]
def TgV(dst:L8)(w:World)(v:Value):Prop:= ∃a cap,v=.slice a (D dst).length cap∧BytesAt w a (D dst)∧(D dst).length≤cap
theorem ptag(a:Option Addr)(cap:Nat)(dst:L8)(hc:dst.length≤cap)(hl:dst.length≤100000)(w:World)(hw:Gt w)(hb:BytesAt w a dst):CLS 259 [.slice a dst.length cap].toArray w (fun e w'=> ∃v,e=.returned v∧Grow w w'∧TgV dst w' v):=by
 refine Hf func259 rfl hw<|fun hGF=>Xp<|Asg rfl<|aa<|Xp<|Mv rfl<|Mv rfl<|bv rfl (fun _=>aL underlying22 _ _ _ _) rfl rfl<|Mv rfl<|bv rfl (fun _=>aL underlying22 _ _ _ _) rfl rfl<|dH (l:=0) (h':=dst.length) (m:=dst.length) rfl underlying22 sizeOf5 rfl rfl rfl ⟨Nat.zero_le _,Nat.le_refl _,hc⟩ rfl rfl<|?_
 rw[VU,Nat.sub_zero]
 refine Mv rfl<|bv rfl (fun _=>aL underlying22 _ _ _ _) rfl rfl<|cJ rfl rfl (fun _=>kp underlying3 underlying5 _) rfl rfl<|ik 12 [BitVec.ofInt 8 (dst.length:Int)] hGF rfl rfl rfl dc dc underlying22 sizeOf5 zeroValue5 rfl rfl<|?_
 intro b12
 refine vd (xs:=dst) (ys:=[BitVec.ofInt 8 (dst.length:Int)]) 13 hGF rfl rfl underlying22 underlying22 ti5 (fun w' h=>hb.grow (ac h)) (fun w' h=>BytesAt.range (aO (n:=12) rfl w' h)) (by simp;omega) sm rfl rfl (fun b13 c13 cap13 e13 l13 t13=> ?_)
 subst e13
 refine Asg rfl<|aa<|am<|Rr<|?_
 exact aH rfl rfl (fun w hw=>⟨_,rfl,ac hw,_,_,rfl,KM (hw.own 13 b13 _ _ rfl).1.range t13,l13⟩)
theorem u1(l:L8)(i j:Nat)(v:BitVec 8):(l.set i v).getD j 0=if i=j∧j<l.length then v else l.getD j 0:=by
 simp only[List.getD_eq_getElem?_getD,List.getElem?_set]
 by_cases h:i=j
 ·subst h
  by_cases h2:i<l.length
  ·simp[h2]
  ·simp[h2]
 ·simp[h]
theorem Gg(b l:L8): ∀(j i:Nat),j≤i→(R b l j).getD i 0=b.getD i 0
 |0,_,_=>rfl
 |j+1,i,h=>by rw[R,u1,if_neg om,Gg b l j i om]
theorem Pj(b l:L8)(j:Nat):(R b l j).set j ((R b l j).getD j 0^^^l.getD j 0)=R b l (j+1):=by rw[R,Gg b l j j (Nat.le_refl _)]
theorem tr(l:L8)(j:Nat):l.set j (l.getD j 0)=l:=by
 refine List.ext_getElem? fun i=> ?_
 rw[List.getElem?_set]
 by_cases h:j=i
 ·subst h
  by_cases h2:j<l.length
  ·simp[h2]
  ·simp[h2]
 ·simp[h]
theorem Ck(b:L8): ∀j,R b (List.replicate 32 0#8) j=b
 |0=>rfl
 |j+1=>by
  rw[R,Ck b j,show (List.replicate 32 0#8).getD j 0=0#8 by rw[List.getD_eq_getElem?_getD,List.getElem?_replicate];split<;>rfl,BitVec.xor_zero,tr]
theorem Vv(b d:L8)(k:Nat):R b (Xk b d k) 32=X16 b (Xk b d k) k:=by
 unfold X16
 split
 ·next h=>subst h;exact Ck b 32
 ·rfl
theorem H9(b d:L8)(k:Nat):Sh.SHA ((R b (Xk b d k) 32++[BitVec.ofInt 8 ((k+1:Nat):Int)])++d)=Xk b d (k+1):=by rw[Vv,Xk];rfl
attribute [local simp] jg
theorem Bq(x l:L8)(hx:x.length=32)(hl:l.length=32):PUR 284 [.agg (x.map U8).toArray,.agg (l.map U8).toArray] (.agg ((R x l 32).map U8).toArray):=by
 intro w hw
 refine Hf func284 rfl hw<|fun hGF=>Xp<|Bx 2 hGF rfl<|fun b2=>Bx 3 hGF rfl<|fun b3=>Al 4 hGF zv112<|fun b4=>aa<|ah<|Xp<|Mv rfl<|aa<|aj<|cH (ι:={j:Nat // j≤32}) (fun y=>[(2,pnt b2),(3,pnt b3),(4,pnt b4),(6,I (y.1:Int))]) (fun y=>[(2,b2,(R x l y.1).map U8,112),(3,b3,l.map U8,112),(4,b4,(List.replicate 32 0#8).map U8,112)]) (fun y=>32-y.1) ⟨0,om⟩ hGF trv trv<|?_
 rintro ⟨j,hj⟩
 dsimp only
 refine Xp<|Bnr rfl rfl (fun _=>aD _ _ _)<|aa<|ah<|?_
 refine bV rfl (fun hc=> ?_) (fun hc=> ?_)
 ·simp only[decide_eq_true_eq]at hc
  refine ap<|ah<|aj<|Xp<|Mv rfl<|Asg rfl<|aa<|Xe []<|Mv rfl<|Ia (j) rfl rfl underlying112 sizeOf5<|Lm 2 U8 0 rfl rfl isAgg5 (by first|omega|(simp;omega))<|Mv rfl<|Ia (j) rfl rfl underlying112 sizeOf5<|Lm 3 U8 0 rfl rfl isAgg5 (by first|omega|(simp;omega))<|Bnr rfl rfl (fun _=>vP _ _ _)<|Ia (j) rfl rfl underlying112 sizeOf5<|bu 2 U8 hGF rfl rfl rfl sizeOf5 rfl (by first|omega|(simp;omega)) rfl<|aa<|Xq<|Bnr rfl rfl (fun _=>az _ _ _ oi)<|Mv rfl<|aa<|?_
  repeat (refine a7 ?_)
  exact aV<|⟨rfl,⟨j+1,om⟩,_,by show 32-(j+1)<32-j;omega,rfl,trv,⟨by rw[←Pj];rfl,rfl,rfl,trivial⟩⟩
 ·obtain rfl:j=32:=by simp at hc;omega
  refine ba<|Xp<|bT 2 rfl rfl isAgg112 sizeOf112 (by simp[hx]) rfl rfl<|aw 4 hGF rfl rfl rfl sizeOf112 (by simp[hx]) sm (bH _) rfl<|aa<|am<|Rr<|?_
  exact ay 4 rfl rfl rfl isAgg112 sizeOf112 (by simp[hx]) (fun w hw=>⟨rfl,ac hw⟩)
end Xm
end
section
open Go.RowKit
namespace Xm
attribute [local simp] Sh.gj jX n9 jg fI iG Sh.bI kH
attribute [local simp] yK jg
theorem zvS(w:World):(zeroValue 22).run prog w=.ok (.slice none 0 0) w:=zeroValue22 w
theorem Ud(n:Nat)(hn:n≤8160)(t:TypeId)(w:World):(binOp .quo t (I ((n:Int)+32-1)) (I 32)).run prog w=.ok (I ((((n+31) / 32):Nat):Int)) w:=by
 have e:((n:Int)+32-1).tdiv 32=((((n+31) / 32):Nat):Int):=by
  rw[Int.tdiv_eq_ediv_of_nonneg om]
  omega
 rw[←e]
 exact mQ t _ _ dc (by rw[e];unfold inI;omega)
structure LtV(b d:L8)(m:Nat) where
 (k bb:Nat) (c:List Value) (cap:Nat)
 hk:k≤m
 hcap:c.length=cap
 hle:(O b d k).length≤cap
 ht:c.take (O b d k).length=(O b d k).map U8
def SrV(b d:L8)(n:Nat)(w:World)(v:Value):Prop:= ∃a,v=.slice a n n∧BytesAt w a ((O b d ((n+31) / 32)).take n)
theorem Bg(b d:L8)(hb:b.length=32)(a:Option Addr)(cap0:Nat)(n:Nat)(hn:n≤8160)(hd:d.length≤1000)(hc0:d.length≤cap0)(w:World)(hw:Gt w)(hby:BytesAt w a d):CLS 261 [.agg (b.map U8).toArray,.slice a d.length cap0,I (n:Int)].toArray w (fun e w'=> ∃v,e=.returned v∧Grow w w'∧SrV b d n w' v):=by
 refine Hf func261 rfl hw<|fun hGF=>Xp<|Bx 3 hGF rfl<|fun b3=>Asg rfl<|aa<|Xp<|Mv rfl<|Bnr rfl rfl (fun _=>az _ _ _ oi)<|Bnr rfl rfl (fun _=>bi _ _ _ oi)<|d8 (v:=I ((((n+31) / 32):Nat):Int)) rfl rfl (fun _=>rfl) (fun w=>Ud n hn _ w) rfl rfl<|Asg rfl<|aa<|Xp<|Mv rfl<|d8 (v:=I ((((n+31) / 32)*32:Nat):Int)) rfl rfl (fun _=>rfl) (fun _=>(bM _ _ _ oi).trans rr) rfl rfl<|u4 (l:=0) (m:=((n+31) / 32)*32) (c:=(List.replicate (((n+31) / 32)*32) 0#8).map U8) 18 hGF rfl rfl (Nat.zero_le _) underlying22 ti5 ⟨om,om,om⟩ (by rw[Nat.mul_one];exact Q0 _) rfl rfl<|fun b18=>Asg rfl<|aa<|Xp<|Al 9 hGF zv112<|fun b9=>aa<|ah<|Xp<|Mv rfl<|Mv rfl<|aa<|aj<|cH (ι:=LtV b d ((n+31) / 32)) (fun z=>[(1,.slice a d.length cap0),(2,I (n:Int)),(3,pnt b3),(8,.slice (spt z.bb) (O b d z.k).length z.cap),(9,pnt b9),(19,I (((n+31) / 32):Nat)),(20,I (z.k:Int))]) (fun z=>[(3,b3,b.map U8,112),(9,b9,(Xk b d z.k).map U8,112),(18,z.bb,z.c,5)]) (fun z=>((n+31) / 32)-z.k) ⟨0,b18,_,((n+31) / 32)*32,Nat.zero_le _,sm,Nat.zero_le _,rfl⟩ hGF ⟨rfl,rfl,rfl,rfl,rfl,rfl,rfl,trivial⟩ ⟨rfl,rfl,rfl,trivial⟩<|?_
 rintro ⟨k,bb,c,cap,hk,hcap,hle,ht⟩
 dsimp only
 have hx:(Xk b d k).length=32:=fI _ _ _
 refine Xp<|Bnr rfl rfl (fun _=>aD _ _ _)<|aa<|ah<|?_
 refine bV rfl (fun hc=> ?_) (fun hc=> ?_)
 ·have hlt:k<((n+31) / 32):=by simp at hc;omega
  clear hc
  refine ap<|ah<|aj<|Xp<|Mv rfl<|Asg rfl<|aa<|Xp<|bT 3 rfl rfl isAgg112 sizeOf112 (by simp[hb]) rfl rfl<|La 9 rfl rfl u2<|Ca rfl (Bq b (Xk b d k) hb (fI _ _ _))<|Al 11 hGF zv112<|fun b11=>aw 11 hGF rfl rfl rfl sizeOf112 (by simp[hb]) sm (bH _) rfl<|aa<|Xp<|cf (l:=0) (h':=32) rfl underlying112 sizeOf5 rfl rfl om om rfl rfl<|Mv rfl<|Bnr (v:=I ((k+1:Nat):Int)) rfl rfl (fun _=>(az _ _ _ oi).trans rr)<|cJ rfl rfl (fun _=>kp underlying3 underlying5 _) rfl rfl<|ik 30 [BitVec.ofInt 8 ((k+1:Nat):Int)] hGF rfl rfl rfl dc dc underlying22 sizeOf5 zeroValue5 rfl rfl<|fun b30=>Mv rfl<|xm 32 [.slice (spt b11) 32 32,.slice (spt b30) 1 1,.slice a d.length cap0] hGF rfl rfl rfl dc dc underlying312 sizeOf22 zvS rfl rfl rfl<|fun b32=>Cc rfl ent260 (fun w' hC hG=>V9 b32 (spt b11) 32 32 (R b (Xk b d k) 32) (spt b30) 1 1 [BitVec.ofInt 8 ((k+1:Nat):Int)] a d.length cap0 d w' hG (aO (n:=32) rfl w' hC) (by rw[jg,hb]) (Nat.le_refl _) (BytesAt.range (aO (n:=11) rfl w' hC)) rfl (Nat.le_refl _) (BytesAt.range (aO (n:=30) rfl w' hC)) rfl hc0 (hby.grow (ac hC)) om)<|?_
  rw[show Sh.SHA (((R b (Xk b d k) 32)++[BitVec.ofInt 8 ((k+1:Nat):Int)])++d)=Xk b d (k+1)from H9 b d k]
  refine aw 9 hGF rfl rfl rfl sizeOf112 sm sm (bH _) rfl<|aa<|Xq<|Mv rfl<|cf (l:=0) (h':=32) rfl underlying112 sizeOf5 rfl rfl om om rfl rfl<|?_
  refine qH (xs:=O b d k) (ys:=Xk b d (k+1)) 18 hGF rfl (by rw[fI];rfl) underlying22 underlying22 ti5 (.inr ⟨bb,c,rfl,rfl,hcap,hle,ht⟩) (fun w' h=>BytesAt.range (aO (n:=9) rfl w' h)) (by rw[iG,fI];omega) rfl rfl (fun h0=> ?_) (fun b36 c36 cap36 e36 l36 t36=> ?_)
  ·exact (Qb (fI _ _ _) h0).elim
  subst e36
  refine Asg rfl<|aa<|Xq<|Bnr (v:=I ((k+1:Nat):Int)) rfl rfl (fun _=>(az _ _ _ oi).trans rr)<|Mv rfl<|aa<|?_
  repeat (first|refine a7 ?_|refine bU ?_)
  exact aV<|⟨rfl,⟨k+1,b36,c36,c36.length,om,rfl,l36,t36⟩,_,by show ((n+31) / 32)-(k+1)<((n+31) / 32)-k;omega,rfl,trv,trv⟩
 ·have hke:k=((n+31) / 32):=by simp at hc;omega
  clear hc
  refine ba<|Xp<|Mv rfl<|Mv rfl<|Mv rfl<|dH (l:=0) (h':=n) (m:=n) rfl underlying22 sizeOf5 rfl rfl rfl ⟨Nat.zero_le _,Nat.le_refl _,by rw[iG]at hle;omega⟩ rfl rfl<|?_
  rw[VU,Nat.sub_zero]
  refine Asg rfl<|aa<|am<|Rr<|?_
  subst hke
  have e:(List.take n (O b d ((n+31) / 32))).length=n:=by rw[List.length_take,iG];omega
  exact aH rfl rfl (fun w hw=>⟨_,rfl,ac hw,_,rfl,KM (hw.own 18 bb _ _ rfl).1.range (by rw[e];exact Ci ht (by rw[iG];omega))⟩)
theorem px_0(a1:Option Addr)(cap1:Nat)(msg:L8)(a2:Option Addr)(cap2:Nat)(dst:L8)(z:Int)(h:z<0)(w:World)(hw:Gt w):CLS 227 [.slice a1 msg.length cap1,.slice a2 dst.length cap2,I z].toArray w (fun e w'=>e=.returned (.tuple #[.slice none 0 0,I 130])∧Grow w w'):=by
 refine Hf func227 rfl hw<|fun hGF=>Xp<|Asg rfl<|Asg rfl<|aa<|ah<|Xp<|Mv rfl<|Bnb true rfl rfl (fun _=>aD _ _ _) (decide_eq_true om)<|Mv rfl<|Sk<|Sk<|Pk rfl rfl rfl<|Mv rfl<|Sk<|Sk<|Sk<|Pk rfl rfl rfl<|Mv rfl<|Sk<|Sk<|Sk<|Pk rfl rfl rfl<|aa<|aU rfl<|Xp<|Asg rfl<|Asg rfl<|aa<|am<|Rr<|?_
 exact cP rfl rfl rfl (fun w hw=>⟨rfl,ac hw⟩)
theorem px_1(a1:Option Addr)(cap1:Nat)(msg:L8)(a2:Option Addr)(cap2:Nat)(dst:L8)(z:Int)(h:8160<z)(w:World)(hw:Gt w):CLS 227 [.slice a1 msg.length cap1,.slice a2 dst.length cap2,I z].toArray w (fun e w'=>e=.returned (.tuple #[.slice none 0 0,I 130])∧Grow w w'):=by
 refine Hf func227 rfl hw<|fun hGF=>Xp<|Asg rfl<|Asg rfl<|aa<|ah<|Xp<|Mv rfl<|Bnb false rfl rfl (fun _=>aD _ _ _) (decide_eq_false om)<|Mv rfl<|Mv rfl<|Bnb true rfl rfl (fun _=>cb _ _ _) (decide_eq_true om)<|Pk rfl rfl rfl<|Mv rfl<|Sk<|Sk<|Sk<|Pk rfl rfl rfl<|Mv rfl<|Sk<|Sk<|Sk<|Pk rfl rfl rfl<|aa<|aU rfl<|Xp<|Asg rfl<|Asg rfl<|aa<|am<|Rr<|?_
 exact cP rfl rfl rfl (fun w hw=>⟨rfl,ac hw⟩)
theorem px_2(a1:Option Addr)(cap1:Nat)(msg:L8)(a2:Option Addr)(cap2:Nat)(dst:L8)(z:Int)(h0: ¬z<0)(h1: ¬8160<z)(h:255<dst.length)(w:World)(hw:Gt w):CLS 227 [.slice a1 msg.length cap1,.slice a2 dst.length cap2,I z].toArray w (fun e w'=>e=.returned (.tuple #[.slice none 0 0,I 130])∧Grow w w'):=by
 refine Hf func227 rfl hw<|fun hGF=>Xp<|Asg rfl<|Asg rfl<|aa<|ah<|Xp<|Mv rfl<|Bnb false rfl rfl (fun _=>aD _ _ _) (decide_eq_false om)<|Mv rfl<|Mv rfl<|Bnb false rfl rfl (fun _=>cb _ _ _) (decide_eq_false om)<|Pk rfl rfl rfl<|Mv rfl<|Mv rfl<|bv rfl (fun _=>aL underlying22 _ _ _ _) rfl rfl<|Bnb true rfl rfl (fun _=>cb _ _ _) (decide_eq_true om)<|Pk rfl rfl rfl<|Mv rfl<|Sk<|Sk<|Sk<|Pk rfl rfl rfl<|aa<|aU rfl<|Xp<|Asg rfl<|Asg rfl<|aa<|am<|Rr<|?_
 exact cP rfl rfl rfl (fun w hw=>⟨rfl,ac hw⟩)
theorem px_3(a1:Option Addr)(cap1:Nat)(msg:L8)(a2:Option Addr)(cap2:Nat)(dst:L8)(z:Int)(h0: ¬z<0)(h1: ¬8160<z)(h2: ¬255<dst.length)(h:65536<msg.length)(w:World)(hw:Gt w):CLS 227 [.slice a1 msg.length cap1,.slice a2 dst.length cap2,I z].toArray w (fun e w'=>e=.returned (.tuple #[.slice none 0 0,I 130])∧Grow w w'):=by
 refine Hf func227 rfl hw<|fun hGF=>Xp<|Asg rfl<|Asg rfl<|aa<|ah<|Xp<|Mv rfl<|Bnb false rfl rfl (fun _=>aD _ _ _) (decide_eq_false om)<|Mv rfl<|Mv rfl<|Bnb false rfl rfl (fun _=>cb _ _ _) (decide_eq_false om)<|Pk rfl rfl rfl<|Mv rfl<|Mv rfl<|bv rfl (fun _=>aL underlying22 _ _ _ _) rfl rfl<|Bnb false rfl rfl (fun _=>cb _ _ _) (decide_eq_false om)<|Pk rfl rfl rfl<|Mv rfl<|Mv rfl<|bv rfl (fun _=>aL underlying22 _ _ _ _) rfl rfl<|Bnb true rfl rfl (fun _=>cb _ _ _) (decide_eq_true om)<|Pk rfl rfl rfl<|aa<|aU rfl<|Xp<|Asg rfl<|Asg rfl<|aa<|am<|Rr<|?_
 exact cP rfl rfl rfl (fun w hw=>⟨rfl,ac hw⟩)
theorem Vl(a1:Option Addr)(cap1:Nat)(msg:L8)(a2:Option Addr)(cap2:Nat)(dst:L8)(n:Nat)(hc1:msg.length≤cap1)(hc2:dst.length≤cap2)(hn:n≤8160)(hd:dst.length≤255)(hm:msg.length≤65536)(w:World)(hw:Gt w)(hb1:BytesAt w a1 msg)(hb2:BytesAt w a2 dst):CLS 227 [.slice a1 msg.length cap1,.slice a2 dst.length cap2,I (n:Int)].toArray w (fun e w'=> ∃v,e=.returned v∧Grow w w'∧∃a cap,v=.tuple #[.slice a (E msg dst n).length cap,I 0]∧BytesAt w' a (E msg dst n)∧(E msg dst n).length≤cap):=by
 have hGF:BOk Gt (pl w):=gt_low.plain hw
 have hgw:Grow w w:=Grow.refl w
 refine Hd func227 rfl hGF<|ae (E:=EE [259,261])<|Asg rfl<|Asg rfl<|aa<|ah<|ae (E:=EE [259,261])<|Mv rfl<|Bnb false rfl rfl (fun _=>aD _ _ _) (decide_eq_false om)<|Mv rfl<|Mv rfl<|Bnb false rfl rfl (fun _=>cb _ _ _) (decide_eq_false om)<|Pk rfl rfl rfl<|Mv rfl<|Mv rfl<|bv rfl (fun _=>aL underlying22 _ _ _ _) rfl rfl<|Bnb false rfl rfl (fun _=>cb _ _ _) (decide_eq_false om)<|Pk rfl rfl rfl<|Mv rfl<|Mv rfl<|bv rfl (fun _=>aL underlying22 _ _ _ _) rfl rfl<|Bnb false rfl rfl (fun _=>cb _ _ _) (decide_eq_false om)<|Pk rfl rfl rfl<|aa<|av rfl<|ap<|ae (E:=EE [259,261])<|Mv rfl<|?_
 refine lJ rfl rfl ent259 rfl rfl gt_low (aq hGF) (fun w' hC hG=>ptag a2 cap2 dst hc2 om w' hG (hb2.grow (hgw.trans (ac hC)))) (fun w0 w1 v h0 hg hG1 hq=> ?_)
 replace hgw:=hgw.trans ((ac h0).trans hg)
 clear h0 hg hGF
 have hGF:BOk Gt (pl w1):=gt_low.plain hG1
 obtain ⟨ta,tc,rfl,hta,htc⟩:=hq
 refine Asg rfl<|aa<|ae (E:=EE [259,261])<|rW 28 hGF rfl rfl underlying22 ti5.choose_spec.1 ti5.choose_spec.2.1 (hmk 64 dc) (hmc 64 ti5.choose_spec mc64) rfl rfl<|fun b28=>Mv rfl<|Mv rfl<|Bnr rfl rfl (fun _=>Fg _ _)<|cJ rfl rfl (fun _=>kp underlying3 underlying5 _) rfl rfl<|Mv rfl<|cJ rfl rfl (fun _=>kp underlying3 underlying5 _) rfl rfl<|ik 35 [BitVec.ofInt 8 ((n / 256:Nat):Int),BitVec.ofInt 8 (n:Int),0#8] hGF rfl rfl rfl dc dc underlying22 sizeOf5 zeroValue5 rfl rfl<|fun b35=>Mv rfl<|xm 37 [.slice (spt b28) 64 64,.slice a1 msg.length cap1,.slice (spt b35) 3 3,.slice ta (D dst).length tc] hGF rfl rfl rfl dc dc underlying312 sizeOf22 zvS rfl rfl rfl<|fun b37=>Cc rfl ent260 (fun w' hC hG=>Rn b37 (spt b28) 64 64 (List.replicate 64 0#8) a1 msg.length cap1 msg (spt b35) 3 3 [BitVec.ofInt 8 ((n / 256:Nat):Int),BitVec.ofInt 8 (n:Int),0#8] ta (D dst).length tc (D dst) w' hG (aO (n:=37) rfl w' hC) rfl (Nat.le_refl _) (BytesAt.range (aO (n:=28) rfl w' hC)) rfl hc1 (hb1.grow (hgw.trans (ac hC))) rfl (Nat.le_refl _) (BytesAt.range (aO (n:=35) rfl w' hC)) rfl htc (hta.grow (ac hC)) (by rw[kH];omega))<|?_
 rw[show Sh.SHA ((((List.replicate 64 0#8)++msg)++[BitVec.ofInt 8 ((n / 256:Nat):Int),BitVec.ofInt 8 (n:Int),0#8])++D dst)=B0 msg dst n from rfl]
 refine Al 9 hGF zv112<|fun b9=>aw 9 hGF rfl rfl rfl sizeOf112 sm sm (bH _) rfl<|aa<|ae (E:=EE [259,261])<|La 9 rfl rfl u2<|Mv rfl<|Mv rfl<|?_
 refine lJ rfl rfl ent261 rfl rfl gt_low (aq hGF) (fun w' hC hG=>Bg (B0 msg dst n) (D dst) (jX _ _ _) ta tc n hn (by rw[kH];omega) htc w' hG (hta.grow (ac hC))) (fun w0 w1 v h0 hg hG1 hq=> ?_)
 replace hgw:=hgw.trans ((ac h0).trans hg)
 clear h0 hg hGF
 have hGF:BOk Gt (pl w1):=gt_low.plain hG1
 obtain ⟨sa,rfl,hsa⟩:=hq
 refine Asg rfl<|Asg rfl<|aa<|am<|Rr<|?_
 exact cP rfl rfl rfl (fun w hw=>⟨_,rfl,hgw.trans (ac hw),sa,n,by rw[qN];rfl,hsa.grow (ac hw),by rw[qN];exact Nat.le_refl _⟩)
theorem pxc:PXC:=by
 intro a1 cap1 msg a2 cap2 dst z w _ hc1 _ hc2 hw hb1 hb2
 have err:Bad msg dst z→∀{e:Ending} {w':World},e=.returned (.tuple #[.slice none 0 0,I 130])∧Grow w w'→∃v,e=.returned v∧Grow w w'∧RT msg dst z w' v:=fun hb _ _ h=>⟨_,h.1,h.2,fun _=>rfl,fun hn=>absurd hb hn⟩
 by_cases h0:z<0
 ·exact (px_0 a1 cap1 msg a2 cap2 dst z h0 w hw).mono fun _ _ h=>err (.inl h0) h
 by_cases h1:8160<z
 ·exact (px_1 a1 cap1 msg a2 cap2 dst z h1 w hw).mono fun _ _ h=>err (.inr (.inl h1)) h
 by_cases h2:255<dst.length
 ·exact (px_2 a1 cap1 msg a2 cap2 dst z h0 h1 h2 w hw).mono fun _ _ h=>err (.inr (.inr (.inl h2))) h
 by_cases h3:65536<msg.length
 ·exact (px_3 a1 cap1 msg a2 cap2 dst z h0 h1 h2 h3 w hw).mono fun _ _ h=>err (.inr (.inr (.inr h3))) h
 obtain ⟨n,rfl⟩: ∃n:Nat,z=(n:Int):=⟨z.toNat,om⟩
 refine (Vl a1 cap1 msg a2 cap2 dst n hc1 hc2 om om om w hw hb1 hb2).mono fun e w' ⟨v,he,hg,hc⟩=>⟨_,he,hg,fun hb=>absurd hb ?_,fun _=>hc⟩
 rintro (h|h|h|h)<;>omega
end Xm
end
section
open Go.RowKit
attribute [local simp] aT a9 aR aM aC bd aJ aI aA PLl cq cn N1l ck cp cm a5 bc aP aX a8 List.length_append nX cZ
theorem ent228:ai prog 228:=fun _ _=>kr
namespace Xm
attribute [local simp] Sh.gj jX n9 jg fI iG Sh.bI kH
attribute [local simp] N2r_len
theorem tiQ:TI prog 92 (aQ (List.replicate 12 (0#64))) 12 96:=yO kr
theorem Ts(e:Option Addr)(len cap:Nat)(bs:L8)(hb:bs.length=len)(hlen:len≤1000)(hc:len≤cap)(w:World)(hw:Gt w)(hby:BytesAt w e bs):CLS 262 [.slice e len cap].toArray w (fun r w'=>r=.returned (EV (ZB bs))∧Grow w w'):=by
 subst hb
 exact tX e cap bs om hc w hw hby
theorem cut3{w:World}{a:Option Addr}{rs:L8}(h:BytesAt w a rs)(l k m:Nat)(hm:m≠l):BytesAt w (if m=l then a else a.map (·.add (l*1))) ((rs.drop l).take k):=by
 have h2:=h.cut (cap:=rs.length+l+1) l k om
 rw[if_neg om]at h2
 rw[if_neg hm]
 exact h2
theorem yM(a:Option Addr)(len cap:Nat)(bs:L8)(hlen:bs.length=len)(hc:len≤cap)(i:Nat)(hi:64*i+64≤len)(hl:len≤100000)(w:World)(hw:Gt w)(hb:BytesAt w a bs):CLS 228 [.slice a len cap,I (i:Int)].toArray w (fun e w'=>e=.returned (EV (ZB ((bs.drop (64*i)).take 64)))∧Grow w w'):=by
 refine Hf func228 rfl hw<|fun hGF=>Xp<|Al 4 hGF zf52<|fun b4=>aa<|Xp<|Mv rfl<|Bnr (v:=I ((64*i:Nat):Int)) rfl rfl (fun _=>(bM _ _ _ oi).trans (by rw[show (64:Int)*(i:Int)=((64*i:Nat):Int) by omega]))<|Mv rfl<|Bnr (v:=I ((i+1:Nat):Int)) rfl rfl (fun _=>(az _ _ _ oi).trans rr)<|Bnr (v:=I ((64*i+64:Nat):Int)) rfl rfl (fun _=>(bM _ _ _ oi).trans (by rw[show (64:Int)*((i+1:Nat):Int)=((64*i+64:Nat):Int) by omega]))<|Asg rfl<|Asg rfl<|aa<|Xp<|Mv rfl<|Mv rfl<|Mv rfl<|Mv rfl<|dH (l:=64*i) (h':=64*i+64) (m:=64*i+64) rfl underlying22 sizeOf5 rfl rfl rfl ⟨om,Nat.le_refl _,om⟩ rfl rfl<|Cc rfl ent262 (fun w' hC hG=>Ts _ _ _ ((bs.drop (64*i)).take 64) (by rw[List.length_take,List.length_drop,hlen];omega) om (Nat.le_refl _) w' hG (BytesAt.grow (cut3 hb (64*i) 64 _ om) (ac hC)))<|Sa 4 hGF rfl rfl rfl bg<|aa<|am<|Rr<|?_
 exact ay 4 rfl rfl rfl isAgg52 sizeOf52 sm (fun w hw=>⟨rfl,ac hw⟩)
theorem pf_0(a1:Option Addr)(cap1:Nat)(msg:L8)(a2:Option Addr)(cap2:Nat)(dst:L8) (z:Int)(h:z<0)(w:World)(hw:Gt w):CLS 193 [.slice a1 msg.length cap1,.slice a2 dst.length cap2,I z].toArray w (fun e w'=>e=.returned (.tuple #[.slice none 0 0,I 130])∧Grow w w'):=by
 refine Hf func193 rfl hw<|fun hGF=>ae (E:=EE [227])<|Asg rfl<|Asg rfl<|aa<|ah<|ae (E:=EE [227])<|Mv rfl<|Bnb true rfl rfl (fun _=>aD _ _ _) (decide_eq_true om)<|Mv rfl<|Sk<|Sk<|Pk rfl rfl rfl<|aa<|aU rfl<|ae (E:=EE [227])<|Asg rfl<|Asg rfl<|aa<|am<|Rr<|?_
 exact cP rfl rfl rfl (fun w hw=>⟨rfl,ac hw⟩)
theorem pf_1(a1:Option Addr)(cap1:Nat)(msg:L8)(a2:Option Addr)(cap2:Nat)(dst:L8) (z:Int)(h:32<z)(w:World)(hw:Gt w):CLS 193 [.slice a1 msg.length cap1,.slice a2 dst.length cap2,I z].toArray w (fun e w'=>e=.returned (.tuple #[.slice none 0 0,I 130])∧Grow w w'):=by
 refine Hf func193 rfl hw<|fun hGF=>ae (E:=EE [227])<|Asg rfl<|Asg rfl<|aa<|ah<|ae (E:=EE [227])<|Mv rfl<|Bnb false rfl rfl (fun _=>aD _ _ _) (decide_eq_false om)<|Mv rfl<|Mv rfl<|Bnb true rfl rfl (fun _=>cb _ _ _) (decide_eq_true om)<|Pk rfl rfl rfl<|aa<|aU rfl<|ae (E:=EE [227])<|Asg rfl<|Asg rfl<|aa<|am<|Rr<|?_
 exact cP rfl rfl rfl (fun w hw=>⟨rfl,ac hw⟩)
theorem pf_2(a1:Option Addr)(cap1:Nat)(msg:L8)(a2:Option Addr)(cap2:Nat)(dst:L8)(hc1:msg.length≤cap1)(hc2:dst.length≤cap2)(hl1:msg.length≤100000)(hl2:dst.length≤100000)(z:Int)(h0: ¬z<0)(h1: ¬32<z)(hl:255<dst.length∨65536<msg.length)(w:World)(hw:Gt w)(hb1:BytesAt w a1 msg)(hb2:BytesAt w a2 dst):CLS 193 [.slice a1 msg.length cap1,.slice a2 dst.length cap2,I z].toArray w (fun e w'=>e=.returned (.tuple #[.slice none 0 0,I 130])∧Grow w w'):=by
 have hGF:BOk Gt (pl w):=gt_low.plain hw
 have hgw:Grow w w:=Grow.refl w
 refine Hd func193 rfl hGF<|ae (E:=EE [227])<|Asg rfl<|Asg rfl<|aa<|ah<|ae (E:=EE [227])<|Mv rfl<|Bnb false rfl rfl (fun _=>aD _ _ _) (decide_eq_false om)<|Mv rfl<|Mv rfl<|Bnb false rfl rfl (fun _=>cb _ _ _) (decide_eq_false om)<|Pk rfl rfl rfl<|aa<|av rfl<|ap<|ae (E:=EE [227])<|Mv rfl<|Mv rfl<|Mv rfl<|Bnr rfl rfl (fun _=>bM _ _ _ oi)<|?_
 refine lJ rfl rfl ent227 rfl rfl gt_low (aq hGF) (fun w' hC hG=>pxc a1 cap1 msg a2 cap2 dst (128*z) w' om hc1 om hc2 hG (hb1.grow (hgw.trans (ac hC))) (hb2.grow (hgw.trans (ac hC)))) (fun w0 w1 v h0 hg hG1 hq=> ?_)
 replace hgw:=hgw.trans ((ac h0).trans hg)
 clear h0 hg hGF
 have hGF:BOk Gt (pl w1):=gt_low.plain hG1
 obtain rfl:=hq.bad (hl.elim (fun h=>.inr (.inr (.inl h))) fun h=>.inr (.inr (.inr h)))
 refine Mv rfl<|Ext rfl rfl<|Ext rfl rfl<|Asg rfl<|Asg rfl<|aa<|ah<|ae (E:=EE [227])<|Mv rfl<|Bnb true rfl rfl (fun _=>aZ _ _ _) (rfl)<|aa<|aU rfl<|ae (E:=EE [227])<|Mv rfl<|Asg rfl<|Asg rfl<|aa<|am<|Rr<|?_
 exact cP rfl rfl rfl (fun w hw=>⟨rfl,hgw.trans (ac hw)⟩)
theorem HY(f:Nat→L6)(z:L6)(n k:Nat)(hk:k<n)(hf:(f k).length=12):lay (0+12*k) ((f k).map U64) ((RW 12 (fun i=>if i<k then f i else z) n).map U64)=(RW 12 (fun i=>if i<k+1 then f i else z) n).map U64:=by
 rw[EQ _ n k (f k) hk hf _ om]
 congr 1
 refine jU fun i _=> ?_
 by_cases h:i=k
 ·rw[if_pos h,if_pos om,h]
 ·rw[if_neg h]
  by_cases h2:i<k
  ·rw[if_pos h2,if_pos om]
  ·rw[if_neg h2,if_neg om]
theorem P8(bs:L8)(k:Nat):fe (ZB ((bs.drop (64*(2*k))).take 64))++fe (ZB ((bs.drop (64*(2*k+1))).take 64))=N2r bs k:=by
 rw[N2r,N2,show 64*(2*k)=128*k by omega,show 64*(2*k+1)=128*k+64 by omega]
theorem Q8(a1:Option Addr)(cap1:Nat)(msg:L8)(a2:Option Addr)(cap2:Nat)(dst:L8)(n:Nat)(hc1:msg.length≤cap1)(hc2:dst.length≤cap2)(hl1:msg.length≤100000)(hl2:dst.length≤100000)(hn:n≤32)(hd:dst.length≤255)(hm:msg.length≤65536)(w:World)(hw:Gt w)(hb1:BytesAt w a1 msg)(hb2:BytesAt w a2 dst):CLS 193 [.slice a1 msg.length cap1,.slice a2 dst.length cap2,I (n:Int)].toArray w (fun e w'=> ∃a cap,e=.returned (.tuple #[.slice a n cap,I 0])∧Grow w w'∧At2 w w' a n (N2r (E msg dst (128*n)))):=by
 have hGF:BOk Gt (pl w):=gt_low.plain hw
 have hgw:Grow w w:=Grow.refl w
 refine Hd func193 rfl hGF<|ae (E:=EE [227])<|Asg rfl<|Asg rfl<|aa<|ah<|ae (E:=EE [227])<|Mv rfl<|Bnb false rfl rfl (fun _=>aD _ _ _) (decide_eq_false om)<|Mv rfl<|Mv rfl<|Bnb false rfl rfl (fun _=>cb _ _ _) (decide_eq_false om)<|Pk rfl rfl rfl<|aa<|av rfl<|ap<|ae (E:=EE [227])<|Mv rfl<|Mv rfl<|Mv rfl<|Bnr rfl rfl (fun _=>bM _ _ _ oi)<|?_
 refine lJ rfl rfl ent227 rfl rfl gt_low (aq hGF) (fun w' hC hG=>pxc a1 cap1 msg a2 cap2 dst (128*(n:Int)) w' om hc1 om hc2 hG (hb1.grow (hgw.trans (ac hC))) (hb2.grow (hgw.trans (ac hC)))) (fun w0 w1 v h0 hg hG1 hq=> ?_)
 replace hgw:=hgw.trans ((ac h0).trans hg)
 clear h0 hg hGF
 have hGF:BOk Gt (pl w1):=gt_low.plain hG1
 obtain ⟨xa,xc,rfl,hx,hle⟩:=hq.ok (by rintro (h|h|h|h)<;>omega)
 rw[show ((128:Int)*(n:Int)).toNat=128*n by omega]at*
 refine Mv rfl<|Ext rfl rfl<|Ext rfl rfl<|Asg rfl<|Asg rfl<|aa<|ah<|ae (E:=EE [227])<|Mv rfl<|Bnb false rfl rfl (fun _=>aZ _ _ _) (rfl)<|aa<|av rfl<|ap<|ae (E:=EE [227])<|Mv rfl<|u4 (l:=n) (m:=n) (c:=(RW 12 (fun _=>List.replicate 12 0#64) n).map U64) 30 hGF rfl rfl (Nat.le_refl _) underlying246 tiQ ⟨om,om,om⟩ (Se _ sm _) rfl rfl<|fun b30=>Asg rfl<|aa<|ah<|ae (E:=EE [227])<|Mv rfl<|bv rfl (fun _=>aL underlying246 _ _ _ _) rfl rfl<|Mv rfl<|aa<|aj<|cH (ι:={k:Nat // k≤n}) (fun z=>[(8,.slice xa (E msg dst (128*n)).length xc),(10,.slice (spt b30) n n),(32,I (n:Int)),(33,I (z.1:Int))]) (fun z=>[(30,b30,(RW 12 (fun i=>if i<z.1 then N2r (E msg dst (128*n)) i else List.replicate 12 0#64) n).map U64,92)]) (fun z=>n-z.1) ⟨0,om⟩ hGF trv ⟨by rw[jU (s:=12) (g:=fun _=>List.replicate 12 0#64) (fun i _=>if_neg (Nat.not_lt_zero i))];rfl,trivial⟩<|?_
 rintro ⟨k,hk⟩
 dsimp only
 refine ae (E:=EE [227])<|Bnr rfl rfl (fun _=>aD _ _ _)<|aa<|ah<|?_
 refine bV rfl (fun hc=> ?_) (fun hc=> ?_)
 ·have hlt:k<n:=by simp at hc;omega
  clear hc
  refine ap<|ah<|aj<|ae (E:=EE [227])<|Mv rfl<|Asg rfl<|aa<|bz (E:=EE [227])<|Mv rfl<|Mv rfl<|Mv rfl<|Mv rfl<|Bnr (v:=I ((2*k:Nat):Int)) rfl rfl (fun _=>(bM _ _ _ oi).trans (by rw[show (2:Int)*(k:Int)=((2*k:Nat):Int) by omega]))<|Cc rfl ent228 (fun w' hC hG=>yM xa _ xc (E msg dst (128*n)) rfl hle (2*k) (by rw[qN];omega) (by rw[qN];omega) w' hG (hx.grow (ac hC)))<|Mv rfl<|Mv rfl<|Bnr (v:=I ((2*k:Nat):Int)) rfl rfl (fun _=>(bM _ _ _ oi).trans (by rw[show (2:Int)*(k:Int)=((2*k:Nat):Int) by omega]))<|Bnr (v:=I ((2*k+1:Nat):Int)) rfl rfl (fun _=>(az _ _ _ oi).trans rr)<|Cc rfl ent228 (fun w' hC hG=>yM xa _ xc (E msg dst (128*n)) rfl hle (2*k+1) (by rw[qN];omega) (by rw[qN];omega) w' hG (hx.grow (ac hC)))<|cx eY rfl rfl sm sm rfl rfl<|?_
  rw[P8]
  refine iX (s:=12) k rfl rfl underlying246 sizeOf92 om om rfl rfl<|gp 30 hGF rfl rfl rfl sizeOf92 (by rw[List.length_map,N2r_len]) (bq _) (by rw[List.length_map,List.length_map,N2r_len,cZ];omega) rfl<|?_
  rw[HY (N2r (E msg dst (128*n))) _ n k hlt (N2r_len _ _)]
  refine aa<|bz (E:=EE [227])<|Bnr (v:=I ((k+1:Nat):Int)) rfl rfl (fun _=>(az _ _ _ oi).trans rr)<|Mv rfl<|aa<|?_
  repeat (first|refine a7 ?_|refine bU ?_)
  exact aV<|⟨rfl,⟨k+1,om⟩,_,by show n-(k+1)<n-k;omega,rfl,trv,trv⟩
 ·have hke:k=n:=by simp at hc;omega
  clear hc
  subst hke
  refine ba<|ae (E:=EE [227])<|Mv rfl<|Asg rfl<|Asg rfl<|aa<|am<|?_
  repeat (first|refine bk ?_|refine bj ?_|refine eM ?_)
  exact cP rfl rfl rfl (fun w hw=>⟨_,_,rfl,hgw.trans (ac hw),.inr ⟨b30,rfl,(hw.own 30 b30 _ _ rfl).2.elim (fun h=>Nat.le_trans hgw.size h) False.elim,by rw[←jU (s:=12) (fun i hi=>if_pos hi)];exact (hw.own 30 b30 _ _ rfl).1.range⟩⟩)
theorem pfc:PFC:=by
 intro a1 cap1 msg a2 cap2 dst z w hl1 hc1 hl2 hc2 hw hb1 hb2
 have err:FBad msg dst z→∀{e:Ending} {w':World},e=.returned (.tuple #[.slice none 0 0,I 130])∧Grow w w'→∃v,e=.returned v∧Grow w w'∧RFt msg dst z w w' v:=fun hb _ _ h=>⟨_,h.1,h.2,fun _=>rfl,fun hn=>absurd hb hn⟩
 by_cases h0:z<0
 ·exact (pf_0 a1 cap1 msg a2 cap2 dst z h0 w hw).mono fun _ _ h=>err (.inl h0) h
 by_cases h1:32<z
 ·exact (pf_1 a1 cap1 msg a2 cap2 dst z h1 w hw).mono fun _ _ h=>err (.inr (.inl h1)) h
 by_cases h2:255<dst.length∨65536<msg.length
 ·exact (pf_2 a1 cap1 msg a2 cap2 dst hc1 hc2 hl1 hl2 z h0 h1 h2 w hw hb1 hb2).mono fun _ _ h=>err (.inr (.inr h2)) h
 obtain ⟨n,rfl⟩: ∃n:Nat,z=(n:Int):=⟨z.toNat,om⟩
 refine (Q8 a1 cap1 msg a2 cap2 dst n hc1 hc2 hl1 hl2 om om om w hw hb1 hb2).mono fun e w' ⟨a,cap,he,hg,hc⟩=>⟨_,he,hg,fun hb=>absurd hb ?_,fun _=>⟨a,cap,rfl,hc⟩⟩
 rintro (h|h|h|h)<;>omega
end Xm
end
end Go.Proofs.YtfgacclgjklgnaaGreatDoor
