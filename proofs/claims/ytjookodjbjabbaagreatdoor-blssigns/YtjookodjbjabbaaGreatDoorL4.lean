/- L4 -/
import Derived.Test.YtjookodjbjabbaaGreatDoorL3
set_option maxRecDepth 100000
set_option maxHeartbeats 1000000
namespace Go.Proofs.YtjookodjbjabbaaGreatDoor
open Go.Proofs.Tryz
abbrev WK:=(Zp×Zp)×(W2×W2)×W6
def LNR(L:W2×W2×W2)(p:Zp×Zp):W6:=(L.1,ng2 (sc2 L.2.1 p.1),sc2 L.2.2 p.2)
def lel(t:W6):W12:=((t.1,t.2.1,ze2),(ze2,t.2.2,ze2))
def wDb(w:WK):WK:=(w.1,w.2.1,E2w.wdJ w.2.2)
def rDb(w:WK):W6:=LNR (E2w.wdL w.2.2) w.1
def wJn(w:WK):WK:=if w.2.2.2.2=ze2 then (w.1,w.2.1,(w.2.1.1,w.2.1.2,on2))else (w.1,w.2.1,E2w.wjJ w.2.2 w.2.1)
def rJn(w:WK):W6:=if w.2.2.2.2=ze2 then (on2,ze2,ze2)else LNR (E2w.wjL w.2.2 w.2.1) w.1
def iR(g:WK->W6):List WK->W12->W12
 |[],f=>f
 |w::l,f=>iR g l (K12.mul (lel (g w)) f)
def rdF(d:Bool)(S:List WK×W12):List WK×W12:=
 bif d then ((S.1.map wDb).map wJn,iR rJn (S.1.map wDb) (iR rDb S.1 (K12.mul S.2 S.2)))else (S.1.map wDb,iR rDb S.1 (K12.mul S.2 S.2))
def rdK(l:List Bool)(S:List WK×W12):List WK×W12:=l.foldl (λS d=>rdF d S) S
theorem Ar(l:List Bool)(d:Bool)(S:List WK×W12):rdK (l++[d]) S=rdF d (rdK l S):=by rw[rdK,List.foldl_append];rfl
/-! ### Products -/
def XF:List W12->W12
 |[]=>K12.one
 |x::l=>K12.mul x (XF l)
def Up6(a b:W12):Prop:= ∃c:W6,c≠K6.zero/\a=K12.mul (r6 c) b
theorem ne6{a b:W6}(ha:a≠K6.zero)(hb:b≠K6.zero):K6.mul a b≠K6.zero:=λe=>(fd6.two e).elim ha hb
theorem Up6.mul{a b c d:W12}(h:Up6 a b)(k:Up6 c d):Up6 (K12.mul a c) (K12.mul b d):=by
 obtain ⟨x,hx,rfl⟩:=h;obtain ⟨y,hy,rfl⟩:=k;exact ⟨K6.mul x y,ne6 hx hy,by rw[K12.mul_four,Qb]⟩
theorem Up6.fn{e:Nat}(h6:e % (PP^6-1)=0){a b:W12}(h:Up6 a b):FN e a=FN e b:=by
 obtain ⟨x,hx,rfl⟩:=h;rw[RI,Vs h6 hx,K12.one_mul]
/-! ### One round -/
theorem hrO{d:Nat}(h0:0<d)(h1:d<ORD): ∃e,(d*e) % ORD=1:=Sd QY h0 h1
structure WOk(w:WK)(m:Nat):Prop where
 on:E2w.on w.2.1
 qr:E2w.times (some w.2.1) ORD=none
 jr:E2w.jr w.2.2 (E2w.times (some w.2.1) m)
/-! ### All rounds -/
def MV(l:List Bool)(w:WK):W12×Pt W2:=MLW w.1 (some w.2.1) l (K12.one,some w.2.1)
theorem np(d:Bool): ∀(l:List Bool) (n:Nat),jF (l++[d]) n=2*jF l n+d.toNat
 |[],n=>by cases d<;>rfl
 |e::l,n=>by rw[List.cons_append,oW,oW];exact np d l _
structure RdOk(l:List Bool)(S:List WK×W12):Prop where
 w: ∀w∈S.1,WOk w (jF l 1)/\(MV l w).2=E2w.times (some w.2.1) (jF l 1)
 f:Up6 S.2 (XF (S.1.map λw=>(MV l w).1))
theorem vu: ∀(l:List Bool) (n:Nat),jF l n<(n+1)*2^l.length
 |[],n=>by show n<(n+1)*1;omega
 |d::l,n=>by
  rw[oW,List.length_cons,Nat.pow_succ];refine Nat.lt_of_lt_of_le (vu l _) ?_;rw[Nat.mul_comm (2^l.length) 2,<-Nat.mul_assoc];exact Nat.mul_le_mul_right _ (by cases d<;>simp[Bool.toNat]<;>omega)
theorem rV: ∀(l:List Bool) (n:Nat),0<n->0<jF l n
 |[],n,h=>h
 |d::l,n,h=>by rw[oW];exact rV l _ om
theorem RdOk.all{S:List WK×W12}(h:RdOk [] S): ∀(n:Nat) (l:List Bool),l.length=n->n<=63->RdOk l (rdK l S)
 |0,l,hl,_=>by obtain rfl:=List.length_eq_zero_iff.1 hl;exact h
 |n+1,l,hl,hn=>by
  obtain ⟨r,d,rfl⟩: ∃r d,l=r++[d]:=⟨l.dropLast,l.getLast (λe=>by rw[e]at hl;cases hl),(List.dropLast_concat_getLast _).symm⟩
  have hr:r.length=n:=by rw[List.length_append]at hl;simpa using hl
  rw[Ar];refine (RdOk.all h n r hr om).step d (rV r 1 Nat.one_pos) ?_;have h1:=vu r 1;have h2:2^r.length<=2^62:=Nat.pow_le_pow_right om om;have h3:4*2^62+1<ORD:=by decide+kernel
  omega
def wkB(p:Zp×Zp)(q:W2×W2):WK:=(p,q,(q.1,q.2,on2))
section
open Go.RowKit
attribute [local simp] a6 bj aH aB aP aZ aQ aI aM be bz a5 bv J1.bB J2.bB
theorem ent163:ak prog 163:=λ_ _=>kr
theorem ent228:ak prog 228:=λ_ _=>kr
theorem ent229:ak prog 229:=λ_ _=>kr
theorem ent195:ak prog 195:=λ_ _=>kr
theorem ent198:ak prog 198:=λ_ _=>kr
theorem ent199:ak prog 199:=λ_ _=>kr
theorem ent200:ak prog 200:=λ_ _=>kr
theorem ent230:ak prog 230:=λ_ _=>kr
theorem ent222:ak prog 222:=λ_ _=>kr
namespace Q6
def TO201:Tb prog Gt:=J2.TO68.add (Ad (g:=K6.one) ent203 Oo)
def TO202:Tb prog Gt:=TO201.add (ry (g:=λx y=>decide (x=y)) ent202 o9)
def TO203:Tb prog Gt:=TO202.add (cz (g:=K6.add) ent225 n7)
def TO204:Tb prog Gt:=TO203.add (cz (g:=sb6) ent227 pH)
def TO205:Tb prog Gt:=TO204.add (cN (g:=K6.neg) ent232 G3)
def TO206:Tb prog Gt:=TO205.add (cz (g:=K6.mul) ent224 mQ)
def TO207:Tb prog Gt:=TO206.add (cN (g:=λx=>K6.mul x x) ent258 nf)
theorem oq{f:Nat}{g:W6->W2->W6}(en:ak prog f)(h: ∀a b,PUR f [EV6 a,EV2 b] (EV6 (g a b))):Snd prog Gt f (c2 q6.ag q2.ag q6.rd g):=gu q6.ag q2.ag q6.rd en (λa b=>bU (l2 (V6 _).symm O) (V6 _).symm (h a b))
def TO208:Tb prog Gt:=TO207.add (oq (g:=sc6) ent231 BS)
def TO209:Tb prog Gt:=TO208.add (cN (g:=v6) ent226 k6v)
def TO210:Tb prog Gt:=TO209.add (cN (g:=oth) ent274 pP)
def TO211:Tb prog Gt:=TO210.add (cN (g:=iv6) ent259 GZ)
def TO212:Tb prog Gt:=TO211.add (Hb (g:=K12.one) ent165 s9)
def TO213:Tb prog Gt:=TO212.add (jw (g:=λx y=>decide (x=y)) ent164 qI)
def TO215:Tb prog Gt:=TO213.add (ej (g:=da) ent201 Ap)
def TO216:Tb prog Gt:=TO215.add (me (g:=K12.mul) ent218 DL)
def TO217:Tb prog Gt:=TO216.add (ej (g:=λx=>K12.mul x x) ent197 nL)
def TO218:Tb prog Gt:=TO217.add (ej (g:=re) ent220 Ov)
def XY3(x:W6):W2×W2×Bool:=if x.2.2=ze2 then (ze2,ze2,false)else (ml2 x.1 (ml2 (iv2 x.2.2) (iv2 x.2.2)),ml2 x.2.1 (ml2 (ml2 (iv2 x.2.2) (iv2 x.2.2)) (iv2 x.2.2)),true)
theorem xy3(x:W6):PUR 80 [EV6 x] (.tuple #[EV2 (XY3 x).1,EV2 (XY3 x).2.1,.bool (XY3 x).2.2]):=by
 by_cases h:x.2.2=ze2
 ·rw[show XY3 x=(ze2,ze2,false)from if_pos h];exact J2.Aw x h
 ·rw[show XY3 x=_ from if_neg h];exact J2.AJ x h
theorem s6{f:Nat}{g:W6->W2×W2×Bool}(en:ak prog f)(h: ∀a,PUR f [EV6 a] (.tuple #[EV2 (g a).1,EV2 (g a).2.1,.bool (g a).2.2])):Snd prog Gt f (c1 q6.ag q2.rdBB g):=gt q6.ag q2.rdBB en (λa=>bU (l1 (V6 _).symm) O (h a))
def TO219:Tb prog Gt:=TO218.add (s6 (g:=XY3) ent80 xy3)
def TG2(x y:W2):W2×W2:=(ad2 (ad2 (ml2 x x) (ml2 x x)) (ml2 x x),ad2 y y)
theorem mtan(x y:W2):PUR 228 [EV2 x,EV2 y] (.tuple #[EV2 (TG2 x y).1,EV2 (TG2 x y).2]):=pE TO219 func228 [.inl [x.1,x.2],.inl [y.1,y.2]] (.inr [.inl [((TG2 x y).1).1,((TG2 x y).1).2],.inl [((TG2 x y).2).1,((TG2 x y).2).2]]) (let t0:=ml2 x x;let t1:=ad2 (t0.1,t0.2) (t0.1,t0.2);let t2:=ad2 (t1.1,t1.2) (t0.1,t0.2);let t3:=ad2 y y;(.inr [.inl [t2.1,t2.2],.inl [t3.1,t3.2]],[])) [] kr aE O
theorem nF{f:Nat}{g:W2->W2->W2×W2}(en:ak prog f)(h: ∀a b,PUR f [EV2 a,EV2 b] (.tuple #[EV2 (g a b).1,EV2 (g a b).2])):Snd prog Gt f (c2 q2.ag q2.ag q2.rd2 g):=gu q2.ag q2.ag q2.rd2 en h
def TO220:Tb prog Gt:=TO219.add (nF (g:=TG2) ent228 mtan)
def LR5(p q:Zp)(a b c:W2):W6:=(a,ng2 (sc2 b p),sc2 c q)
theorem KE(p q:Zp)(a b c:W2):PUR 229 [EV p,EV q,EV2 a,EV2 b,EV2 c] (EV6 (LR5 p q a b c)):=(bU O (V6 _) (pE TO220 func229 [.inl [p],.inl [q],.inl [a.1,a.2],.inl [b.1,b.2],.inl [c.1,c.2]] (.inl (.inl [(LR5 p q a b c).1.1,(LR5 p q a b c).1.2,(LR5 p q a b c).2.1.1,(LR5 p q a b c).2.1.2,(LR5 p q a b c).2.2.1,(LR5 p q a b c).2.2.2])) (let t0:=sc2 b p;let t1:=ng2 (t0.1,t0.2);let t2:=sc2 c q;(.inl (.inl [a.1,a.2,t1.1,t1.2,t2.1,t2.2]),[])) [] kr aE O))
theorem gy{f:Nat}{g:Zp->Zp->W2->W2->W2->W6}(en:ak prog f)(h: ∀a b c d e,PUR f [EV a,EV b,EV2 c,EV2 d,EV2 e] (EV6 (g a b c d e))):Snd prog Gt f (c5 q1.ag q1.ag q2.ag q2.ag q2.ag q6.rd g):=Yy q1.ag q1.ag q2.ag q2.ag q2.ag q6.rd en (λa b c d e=>bU O (V6 _).symm (h a b c d e))
def TO221:Tb prog Gt:=TO220.add (gy (g:=LR5) ent229 KE)
def SHT(a:W6)(b c:W2):W6:=(ad2 (ml2 a.1 b) (xi2 (ml2 a.2.2 c)),E2w.sub (E2w.sub (ml2 (ad2 a.1 a.2.1) (ad2 b c)) (ml2 a.1 b)) (ml2 a.2.1 c),ad2 (ml2 a.2.1 c) (ml2 a.2.2 b))
theorem Tr(a:W6)(b c:W2):PUR 230 [EV6 a,EV2 b,EV2 c] (EV6 (SHT a b c)):=(bU (l3 (V6 _) O O) (V6 _) (pE TO221 func230 [.inl [a.1.1,a.1.2,a.2.1.1,a.2.1.2,a.2.2.1,a.2.2.2],.inl [b.1,b.2],.inl [c.1,c.2]] (.inl (.inl [(SHT a b c).1.1,(SHT a b c).1.2,(SHT a b c).2.1.1,(SHT a b c).2.1.2,(SHT a b c).2.2.1,(SHT a b c).2.2.2])) (let t0:=ml2 (a.1.1,a.1.2) b;let t1:=ml2 (a.2.1.1,a.2.1.2) c;let t2:=ad2 (a.1.1,a.1.2) (a.2.1.1,a.2.1.2);let t3:=ad2 b c;let t4:=ml2 (t2.1,t2.2) (t3.1,t3.2);let t5:=E2w.sub (t4.1,t4.2) (t0.1,t0.2);let t6:=E2w.sub (t5.1,t5.2) (t1.1,t1.2);let t7:=ml2 (a.2.2.1,a.2.2.2) c;let t8:=xi2 (t7.1,t7.2);let t9:=ad2 (t0.1,t0.2) (t8.1,t8.2);let t10:=ml2 (a.2.2.1,a.2.2.2) b;let t11:=ad2 (t1.1,t1.2) (t10.1,t10.2);(.inl (.inl [t9.1,t9.2,t6.1,t6.2,t11.1,t11.2]),[])) [] kr aE O))
theorem kC{f:Nat}{g:W6->W2->W2->W6}(en:ak prog f)(h: ∀a b c,PUR f [EV6 a,EV2 b,EV2 c] (EV6 (g a b c))):Snd prog Gt f (c3 q6.ag q2.ag q2.ag q6.rd g):=XO q6.ag q2.ag q2.ag q6.rd en (λa b c=>bU (l3 (V6 _).symm O O) (V6 _).symm (h a b c))
def TO222:Tb prog Gt:=TO221.add (kC (g:=SHT) ent230 Tr)
end Q6
end
section
open Go.RowKit
attribute [local simp] a6 bj aH aB aP aZ aQ aI aM be bz a5 bv J1.bB J2.bB
namespace Q6
theorem FQ(a:W6)(b c:W2):SHT a b c=K6.mul a (b,c,ze2):=Prod.ext (zq R2 [a.1,a.2.1,a.2.2,b,c,XI] (ta (tm j0 j3) (txi 5 (tm j2 j4) O)) (ta (tm j0 j3) (tm j5 (ta (tm j1 tz0) (tm j2 j4))))) (Prod.ext (zq R2 [a.1,a.2.1,a.2.2,b,c,XI] (ta (ta (tm (ta j0 j1) (ta j3 j4)) (tn (tm j0 j3))) (tn (tm j1 j4))) (ta (ta (tm j0 j4) (tm j1 j3)) (tm j5 (tm j2 tz0)))) (zq R2 [a.1,a.2.1,a.2.2,b,c,XI] (ta (tm j1 j4) (tm j2 j3)) (ta (ta (tm j0 tz0) (tm j1 j4)) (tm j2 j3))))
def TMS(t:W6)(f:W12):W12:=(K6.add (SHT f.1 t.1 t.2.1) (v6 (v6 (sc6 f.2 t.2.2))),sb6 (sb6 (SHT (K6.add f.1 f.2) t.1 (ad2 t.2.1 t.2.2)) (SHT f.1 t.1 t.2.1)) (v6 (sc6 f.2 t.2.2)))
theorem NE(t:W6):lel t=((t.1,t.2.1,ze2),K6.mul (t.2.2,ze2,ze2) VV):=Prod.ext O (by rw[A3];exact Prod.ext (show ze2=xi2 ze2 by rw[Gm];exact (R2.zero_mul _).symm) O)
theorem R9(t:W6):(t.1,ad2 t.2.1 t.2.2,ze2)=K6.add (t.1,t.2.1,ze2) (K6.mul (t.2.2,ze2,ze2) VV):=by
 rw[<-show ((lel t).2:W6)=K6.mul (t.2.2,ze2,ze2) VV from congrArg Prod.snd (NE t)];exact Prod.ext (R2.add_zero _).symm (Prod.ext O (R2.add_zero _).symm)
theorem Tz(t:W6)(f:W12):TMS t f=K12.mul (lel t) f:=by
 rw[TMS,NE,FQ,FQ,zG,zG,R9,<-Qa,<-A3,<-A3];exact Prod.ext (zq K6 [f.1,f.2,(t.1,t.2.1,ze2),(t.2.2,ze2,ze2),VV] (ta (tm j0 j2) (tm (tm (tm j1 j3) j4) j4)) (ta (tm j2 j0) (tm j4 (tm (tm j3 j4) j1)))) (zq K6 [f.1,f.2,(t.1,t.2.1,ze2),(t.2.2,ze2,ze2),VV] (ta (ta (tm (ta j0 j1) (ta j2 (tm j3 j4))) (tn (tm j0 j2))) (tn (tm (tm j1 j3) j4))) (ta (tm j2 j1) (tm (tm j3 j4) j0)))
theorem BH(t:W6)(f:W12):PUR 199 [EV6 t,cB f] (cB (TMS t f)):=(bU (l2 (V6 _) (V12 _)) (V12 _) (pE TO222 func199 [.inl [t.1.1,t.1.2,t.2.1.1,t.2.1.2,t.2.2.1,t.2.2.2],.inl [f.1.1.1,f.1.1.2,f.1.2.1.1,f.1.2.1.2,f.1.2.2.1,f.1.2.2.2,f.2.1.1,f.2.1.2,f.2.2.1.1,f.2.2.1.2,f.2.2.2.1,f.2.2.2.2]] (.inl (.inl [(TMS t f).1.1.1,(TMS t f).1.1.2,(TMS t f).1.2.1.1,(TMS t f).1.2.1.2,(TMS t f).1.2.2.1,(TMS t f).1.2.2.2,(TMS t f).2.1.1,(TMS t f).2.1.2,(TMS t f).2.2.1.1,(TMS t f).2.2.1.2,(TMS t f).2.2.2.1,(TMS t f).2.2.2.2])) (let t0:=SHT ((f.1.1.1,f.1.1.2),(f.1.2.1.1,f.1.2.1.2),(f.1.2.2.1,f.1.2.2.2)) (t.1.1,t.1.2) (t.2.1.1,t.2.1.2);let t1:=sc6 ((f.2.1.1,f.2.1.2),(f.2.2.1.1,f.2.2.1.2),(f.2.2.2.1,f.2.2.2.2)) (t.2.2.1,t.2.2.2);let t2:=v6 ((t1.1.1,t1.1.2),(t1.2.1.1,t1.2.1.2),(t1.2.2.1,t1.2.2.2));let t3:=K6.add ((f.1.1.1,f.1.1.2),(f.1.2.1.1,f.1.2.1.2),(f.1.2.2.1,f.1.2.2.2)) ((f.2.1.1,f.2.1.2),(f.2.2.1.1,f.2.2.1.2),(f.2.2.2.1,f.2.2.2.2));let t4:=ad2 (t.2.1.1,t.2.1.2) (t.2.2.1,t.2.2.2);let t5:=SHT ((t3.1.1,t3.1.2),(t3.2.1.1,t3.2.1.2),(t3.2.2.1,t3.2.2.2)) (t.1.1,t.1.2) (t4.1,t4.2);let t6:=v6 ((t2.1.1,t2.1.2),(t2.2.1.1,t2.2.1.2),(t2.2.2.1,t2.2.2.2));let t7:=K6.add ((t0.1.1,t0.1.2),(t0.2.1.1,t0.2.1.2),(t0.2.2.1,t0.2.2.2)) ((t6.1.1,t6.1.2),(t6.2.1.1,t6.2.1.2),(t6.2.2.1,t6.2.2.2));let t8:=sb6 ((t5.1.1,t5.1.2),(t5.2.1.1,t5.2.1.2),(t5.2.2.1,t5.2.2.2)) ((t0.1.1,t0.1.2),(t0.2.1.1,t0.2.1.2),(t0.2.2.1,t0.2.2.2));let t9:=sb6 ((t8.1.1,t8.1.2),(t8.2.1.1,t8.2.1.2),(t8.2.2.1,t8.2.2.2)) ((t2.1.1,t2.1.2),(t2.2.1.1,t2.2.1.2),(t2.2.2.1,t2.2.2.2));(.inl (.inl [t7.1.1,t7.1.2,t7.2.1.1,t7.2.1.2,t7.2.2.1,t7.2.2.2,t9.1.1,t9.1.2,t9.2.1.1,t9.2.1.2,t9.2.2.1,t9.2.2.2]),[])) [] kr aE O))
theorem iU{f:Nat}{g:W6->W12->W12}(en:ak prog f)(h: ∀a b,PUR f [EV6 a,cB b] (cB (g a b))):Snd prog Gt f (c2 q6.ag q12.ag q12.rd g):=gu q6.ag q12.ag q12.rd en (λa b=>bU (l2 (V6 _).symm (V12 _).symm) (V12 _).symm (h a b))
def TO223:Tb prog Gt:=TO222.add (iU (g:=TMS) ent199 BH)
theorem xl(t:W6)(f:W12):PUR 199 [EV6 t,cB f] (cB (K12.mul (lel t) f)):=by rw[<-Tz];exact BH t f
def TO224:Tb prog Gt:=TO223.add (iU (g:=λt f=>K12.mul (lel t) f) ent199 xl)
def kv(w:WK):List Zp:=[w.1.1,w.1.2,w.2.1.1.1,w.2.1.1.2,w.2.1.2.1,w.2.1.2.2,w.2.2.1.1,w.2.2.1.2,w.2.2.2.1.1,w.2.2.2.1.2,w.2.2.2.2.1,w.2.2.2.2.2]
theorem pM{f:FuncId}{fn:Func}{c:Code}(T:Tb prog Gt)(hf:prog.funcs[f]? =some fn)(a:List S0)(l l':List Zp)(t:TypeId)(u:S0)(vc:S1×CB)(p:Pa)(h:xM T fn c a l t p=some vc)(hc:Ok vc.2)(e:vc.1=.inr [u,.inl l']){b:Nat}{pre post:List Value}{w:World}(hw:Gt w)(hb:8<=b)(ho:OwnB w b (pre++(clv l++post)) t)
 (hbd:fn.body=some c:=by rfl) (hn:Nat.ble (a.length+1) fn.ntmps=true:=by rfl) (hN:Nat.ble fn.ntmps 1000000=true:=by rfl) (ha:a.all npS=true:=by rfl):
 CLS f (.pointer (some ⟨b,pre.length,none⟩)::a.map (dn rid)).toArray w (λe w'=>e=.returned (dn rid u)/\Mod b w w'/\OwnB w' b (pre++(clv l'++post)) t):=
 JY T cT hf hbd (cs:=vc.2) (by rw[<-e];exact h) hc hn hN ha ((gt_low.from (M:=λk=>k=b) hw (λm hm=>by subst hm;exact hb)).ok (B:=plM w (λk=>k=b)) ao) ho
theorem T9{P:Program}{f:FuncId}{xs ys:List Value}{w:World}{b:Nat}{v v':Value}{c c':List Value}{t:TypeId}(h:Calls P f xs.toArray w (λe w'=>e=.returned v/\Mod b w w'/\OwnB w' b c t))(ha:ys=xs)(hv:v'=v)(hc:c'=c):Calls P f ys.toArray w (λe w'=>e=.returned v'/\Mod b w w'/\OwnB w' b c' t):=by subst ha;subst hv;subst hc;exact h
theorem mdbl(w:WK){b:Nat}{pre post:List Value}{W:World}(hw:Gt W)(hb:8<=b)(ho:OwnB W b (pre++(clv (kv w)++post)) 240):
 CLS 198 [.pointer (some ⟨b,pre.length,none⟩)].toArray W (λe W'=>e=.returned (EV6 (rDb w))/\Mod b W W'/\OwnB W' b (pre++(clv (kv (wDb w))++post)) 240):=
 T9 (pM TO224 func198 [] ([w.1.1,w.1.2,w.2.1.1.1,w.2.1.1.2,w.2.1.2.1,w.2.1.2.2,w.2.2.1.1,w.2.2.1.2,w.2.2.2.1.1,w.2.2.2.1.2,w.2.2.2.2.1,w.2.2.2.2.2]) (kv (wDb w)) 240 (.inl [(rDb w).1.1,(rDb w).1.2,(rDb w).2.1.1,(rDb w).2.1.2,(rDb w).2.2.1,(rDb w).2.2.2]) (let t0:=(TG2 (w.2.2.1.1,w.2.2.1.2) (w.2.2.2.1.1,w.2.2.2.1.2)).1;let t1:=(TG2 (w.2.2.1.1,w.2.2.1.2) (w.2.2.2.1.1,w.2.2.2.1.2)).2;let t2:=ml2 (w.2.2.2.2.1,w.2.2.2.2.2) (t1.1,t1.2);let t3:=ml2 (t1.1,t1.2) (w.2.2.2.1.1,w.2.2.2.1.2);let t4:=ml2 (w.2.2.2.2.1,w.2.2.2.2.2) (w.2.2.2.2.1,w.2.2.2.2.2);let t5:=ml2 (t0.1,t0.2) (w.2.2.1.1,w.2.2.1.2);let t6:=E2w.sub (t5.1,t5.2) (t3.1,t3.2);let t7:=ml2 (t0.1,t0.2) (t4.1,t4.2);let t8:=ml2 (t2.1,t2.2) (t4.1,t4.2);let t9:=LR5 w.1.1 w.1.2 (t6.1,t6.2) (t7.1,t7.2) (t8.1,t8.2);let t10:=ad2 (t3.1,t3.2) (t3.1,t3.2);let t11:=ml2 (t10.1,t10.2) (w.2.2.1.1,w.2.2.1.2);let t12:=ml2 (t0.1,t0.2) (t0.1,t0.2);let t13:=E2w.sub (t12.1,t12.2) (t11.1,t11.2);let t14:=E2w.sub (t13.1,t13.2) (t11.1,t11.2);let t15:=E2w.sub (t11.1,t11.2) (t14.1,t14.2);let t16:=ml2 (t0.1,t0.2) (t15.1,t15.2);let t17:=ml2 (t10.1,t10.2) (t3.1,t3.2);let t18:=E2w.sub (t16.1,t16.2) (t17.1,t17.2);(.inr [.inl [t9.1.1,t9.1.2,t9.2.1.1,t9.2.1.2,t9.2.2.1,t9.2.2.2],.inl [w.1.1,w.1.2,w.2.1.1.1,w.2.1.1.2,w.2.1.2.1,w.2.1.2.2,t14.1,t14.2,t18.1,t18.2,t2.1,t2.2]],[])) [] kr aE O hw hb ho) O (V6 _) O
theorem mjn(w:WK){b:Nat}{pre post:List Value}{W:World}(h: ¬w.2.2.2.2=ze2)(hw:Gt W)(hb:8<=b)(ho:OwnB W b (pre++(clv (kv w)++post)) 240):
 CLS 200 [.pointer (some ⟨b,pre.length,none⟩)].toArray W (λe W'=>e=.returned (EV6 (rJn w))/\Mod b W W'/\OwnB W' b (pre++(clv (kv (wJn w))++post)) 240):=by
 rw[show rJn w=LNR (E2w.wjL w.2.2 w.2.1) w.1 from if_neg h,show wJn w=(w.1,w.2.1,E2w.wjJ w.2.2 w.2.1)from if_neg h];exact T9 (pM TO224 func200 [] ([w.1.1,w.1.2,w.2.1.1.1,w.2.1.1.2,w.2.1.2.1,w.2.1.2.2,w.2.2.1.1,w.2.2.1.2,w.2.2.2.1.1,w.2.2.2.1.2,w.2.2.2.2.1,w.2.2.2.2.2]) (kv ((w.1,w.2.1,E2w.wjJ w.2.2 w.2.1))) 240 (.inl [(LNR (E2w.wjL w.2.2 w.2.1) w.1).1.1,(LNR (E2w.wjL w.2.2 w.2.1) w.1).1.2,(LNR (E2w.wjL w.2.2 w.2.1) w.1).2.1.1,(LNR (E2w.wjL w.2.2 w.2.1) w.1).2.1.2,(LNR (E2w.wjL w.2.2 w.2.1) w.1).2.2.1,(LNR (E2w.wjL w.2.2 w.2.1) w.1).2.2.2]) (let t0:=ml2 (w.2.2.2.2.1,w.2.2.2.2.2) (w.2.2.2.2.1,w.2.2.2.2.2);let t1:=ml2 (w.2.1.2.1,w.2.1.2.2) (t0.1,t0.2);let t2:=ml2 (t1.1,t1.2) (w.2.2.2.2.1,w.2.2.2.2.2);let t3:=E2w.sub (t2.1,t2.2) (w.2.2.2.1.1,w.2.2.2.1.2);let t4:=ml2 (w.2.1.1.1,w.2.1.1.2) (t0.1,t0.2);let t5:=E2w.sub (t4.1,t4.2) (w.2.2.1.1,w.2.2.1.2);let t6:=ml2 (w.2.2.2.2.1,w.2.2.2.2.2) (t5.1,t5.2);let t7:=ml2 (t3.1,t3.2) (w.2.1.1.1,w.2.1.1.2);let t8:=ml2 (t6.1,t6.2) (w.2.1.2.1,w.2.1.2.2);let t9:=E2w.sub (t7.1,t7.2) (t8.1,t8.2);let t10:=LR5 w.1.1 w.1.2 (t9.1,t9.2) (t3.1,t3.2) (t6.1,t6.2);let t11:=ml2 (t5.1,t5.2) (t5.1,t5.2);let t12:=ml2 (t11.1,t11.2) (t5.1,t5.2);let t13:=ml2 (t11.1,t11.2) (w.2.2.1.1,w.2.2.1.2);let t14:=ml2 (t3.1,t3.2) (t3.1,t3.2);let t15:=E2w.sub (t14.1,t14.2) (t12.1,t12.2);let t16:=E2w.sub (t15.1,t15.2) (t13.1,t13.2);let t17:=E2w.sub (t16.1,t16.2) (t13.1,t13.2);let t18:=E2w.sub (t13.1,t13.2) (t17.1,t17.2);let t19:=ml2 (t3.1,t3.2) (t18.1,t18.2);let t20:=ml2 (t12.1,t12.2) (w.2.2.2.1.1,w.2.2.2.1.2);let t21:=E2w.sub (t19.1,t19.2) (t20.1,t20.2);(.inr [.inl [t10.1.1,t10.1.2,t10.2.1.1,t10.2.1.2,t10.2.2.1,t10.2.2.2],.inl [w.1.1,w.1.2,w.2.1.1.1,w.2.1.1.2,w.2.1.2.1,w.2.1.2.2,t17.1,t17.2,t21.1,t21.2,t6.1,t6.2]],[(decide ((w.2.2.2.2.1,w.2.2.2.2.2)=ze2),false)])) [some false] kr (ap (decide_eq_false h) aE) O hw hb ho) O (V6 _) O
end Q6
end
section
open Go.RowKit
attribute [local simp] a6 bj aH aB aP aZ aQ aI aM be bz a5 bv
theorem PO:PUR 223 [U64 15132376222941642752#64] (I 64):=by
 intro w hw;refine Hf func223 O hw<|λhGF=>Xp<|Asg O<|aa<|ah<|Xp<|Mv O<|Bnb true O O (λ_=>fQ _ _ _) dc<|aa<|aT O<|Xp<|Mv O<|Bnr (v:=U64 3523280896#64) O O (λ_=>(cE _ _ 32#64).trans rr)<|Asg O<|aa<|Xq<|Asg O<|aa<|ah<|Xp<|Mv O<|Bnb true O O (λ_=>fQ _ _ _) dc<|aa<|aT O<|Xp<|Mv O<|Bnr (v:=U64 53761#64) O O (λ_=>(cE _ _ 16#64).trans rr)<|Asg O<|aa<|Xq<|Mv O<|Bnr (v:=I 48) O O (λ_=>(au _ _ _ (by unfold inI;decide)).trans rr)<|Asg O<|aa<|ah<|Xp<|Mv O<|Bnb true O O (λ_=>fQ _ _ _) dc<|aa<|aT O<|?_
 refine Xp<|Mv O<|Bnr (v:=U64 210#64) O O (λ_=>(cE _ _ 8#64).trans rr)<|Asg O<|aa<|Xq<|Mv O<|Bnr (v:=I 56) O O (λ_=>(au _ _ _ (by unfold inI;decide)).trans rr)<|Asg O<|aa<|Xp<|Mv O<|Mv O<|bX O O (λ_=>eK underlying24 underlying5 _) O O<|uO (n:=8#8) O O underlying9 dc kr O O<|bX O O (λ_=>CX underlying5 underlying3 _) O O<|Bnr (v:=I 64) O O (λ_=>(au _ _ _ (by unfold inI;decide)).trans rr)<|Asg O<|aa<|am<|Rr<|?_
 exact aF O O (λw hw=>⟨rfl,ac hw⟩)
theorem ES:PUR 196 [] (.func (.func 222) #[] #[]):=by
 intro w hw;refine Hf func196 O hw<|λhGF=>Xp<|Asg O<|aa<|Xp<|Asg O<|aa<|am<|Rr<|?_;exact aF O O (λw hw=>⟨rfl,ac hw⟩)
def DGb(k:Nat):Bool:=15132376222941642752#64>>>(62-k) &&& 1#64==1#64
def D63:List Bool:=(List.range 63).map DGb
theorem tJ:D63.length=63:=by rw[D63,List.length_map,List.length_range]
theorem tt{k:Nat}(h:k<63):D63[k]? =some (DGb k):=by rw[D63,List.getElem?_map,List.getElem?_range h];rfl
def DGs:List (List Value):=D63.map λd=>[.bool d]
theorem o7:DGs.length=63:=by rw[DGs,List.length_map,tJ]
theorem Bw{k:Nat}(h:k<63):DGs[k]? =some [.bool (DGb k)]:=by rw[DGs,List.getElem?_map,tt h];rfl
theorem H7{k:Nat}{v:List Value}(h:DGs[k]? =some v):k<63/\v=[.bool (DGb k)]:=by
 have hk:k<63:=by
  rcases Nat.lt_or_ge k 63 with hk|hk
  ·exact hk
  ·rw[List.getElem?_eq_none (by rw[o7];exact hk)]at h;cases h
 exact ⟨hk,(Option.some.inj ((Bw hk).symm.trans h)).symm⟩
theorem vQ:fF prog Gt 222 [] DGs (λ_=>True):=by
 intro l J Jx hJ hJx hRd hGx hY w hj;have okJ: ∀k,BOk Gt (Bi w (λY=>J Y k)):=λk=>⟨λ_ _ _ h=>(hRd _ _ _ h.rid).1,hJ k⟩;have okX: ∀k,BOk Gt (Bi w (λY=>Jx Y k)):=λk=>⟨λ_ _ _ h=>hGx _ _ _ h.rid,hJx k⟩;refine cv (G:=Gt) func222 O O (Hp (Bi w (λY=>J Y 0)) []) (cj (Bi w _) hj (hJ 0)) (az (okJ 0))<|Xp<|Ca O (PO)<|Bnr (v:=I 62) O O (λ_=>(aW _ _ _ (by unfold inI;decide)).trans rr)<|Asg O<|aa<|ai<|gz (ι:={k:Nat // k<=63}) (λx=>[(0,.func (.yield l) #[] #[]),(2,I (62-(x.1:Int)))]) (λx=>Bi w (λY=>J Y x.1)) (λx=>[]) (λx=>63-x.1) ⟨0,Nat.zero_le _⟩ (λ_=>okJ _) O trv trivial<|?_
 rintro ⟨k,hk⟩;dsimp only;refine ah<|Xp<|Mv O<|Bnr (v:=.bool (decide (k<63))) O O (λ_=>(db _ _ _).trans (by rw[show decide ((62-(k:Int))>=0)=decide (k<63)from decide_eq_decide.2 om]))<|aa<|?_
 refine bD O (λhc=> ?_) (λhc=> ?_)
 ·have hk2:k<63:=by simpa using hc
  refine aq<|ah<|ai<|Xp<|Mv O<|Mv O<|Bnr (v:=U64 (15132376222941642752#64>>>(62-k))) O O (λ_=>(cX _ _ _ om).trans (by rw[show (62-(k:Int)).toNat=62-k by omega]))<|Bnr (v:=U64 (15132376222941642752#64>>>(62-k) &&& 1#64)) O O (λ_=>ec _ _ 1#64)<|Bnr (v:=.bool (DGb k)) O O (λ_=>bu _ _ 1#64)<|?_
  refine du (hY.b (k:=k) (Bw hk2) w) (okJ _) (okX _) O O O O O ?_ ?_
  ·refine bp O (λ_=>a8 _) O O<|aa<|aD O<|aq<|Xq<|Mv O<|Bnr (v:=I (62-((k+1:Nat):Int))) O O (λ_=>(aW _ _ _ oi).trans (by rw[show 62-(k:Int)-1=62-((k+1:Nat):Int) by omega]))<|Asg O<|aa<|?_
   repeat (refine aO ?_)
   exact aC<|⟨rfl,⟨k+1,om⟩,_,by show 63-(k+1)<63-k;omega,rfl,trv,trivial⟩
  ·refine bp O (λ_=>a8 _) O O<|aa<|aT O<|am<|Rr<|?_
   repeat (first|refine dv ?_|refine cm ?_|refine dJ O ?_|refine bJ ?_|refine bK ?_)
   exact dp O (λw hw=>⟨⟨_,rfl⟩,.inr ⟨_,cb (hJx _) hw.rid⟩⟩)
 ·obtain rfl:k=63:=by simp at hc;omega
  refine aV ?_
  repeat (first|refine dv ?_|refine cm ?_|refine dJ O ?_|refine bJ ?_|refine bK ?_)
  refine cO O (λw hw=>⟨⟨_,rfl⟩,.inl ?_⟩);have:=cb (hJ _) hw.rid;rw[o7];exact this
end
section
open Go.RowKit
attribute [local simp] a6 bj aH aB aP aZ aQ aI aM be bz a5 bv J1.bB J2.bB
def pwD(x:W12)(k:Nat):W12:=K12.pw x (jF (D63.take k) 1)
theorem qx{k:Nat}(h:k<63):D63.take (k+1)=D63.take k++[DGb k]:=by rw[List.take_add_one,tt h];rfl
theorem M9(x:W12){k:Nat}(h:k<63)(hd:DGb k=true):K12.mul (K12.mul (pwD x k) (pwD x k)) x=pwD x (k+1):=by
 rw[pwD,pwD,qx h,np,hd,<-K12.pw_add,<-Nat.two_mul];rfl
theorem Od(x:W12){k:Nat}(h:k<63)(hd:DGb k=false):K12.mul (pwD x k) (pwD x k)=pwD x (k+1):=by
 rw[pwD,pwD,qx h,np,hd,<-K12.pw_add,<-Nat.two_mul];rfl
theorem T4:D63=L63:=by decide+kernel
theorem Qz(x:W12):pwD x 63=K12.pw x UG:=by rw[pwD,List.take_of_length_le (by rw[tJ];exact Nat.le_refl _),T4,WU]
namespace Q6
end Q6
end
section
open Go.RowKit
attribute [local simp] a6 bj aH aB aP aZ aQ aI aM be bz a5 bv J1.bB J2.bB
namespace Q6
def PRv(a:J1.GP×J2.GP):L6:=J1.GL a.1++J2.GL a.2
theorem gc(a:J1.GP×J2.GP):(PRv a).length=54:=by simp[PRv]
attribute [local simp] gc
theorem zv169(w:World):(zeroValue 169).run prog w=.ok (aL (List.replicate 54 (0#64))) w:=(zeroValue169 w).trans rr
def WSf(f:Nat->J1.GP×J2.GP):Nat->List WK
 |0=>[]
 |i+1=>if (f i).1.P=none then WSf f i else if (f i).2.P=none then WSf f i else WSf f i++[wkB (J1.PX (f i).1.P,J1.PY (f i).1.P) (J2.PX (f i).2.P,J2.PY (f i).2.P)]
theorem FX{f:Nat->J1.GP×J2.GP}{i:Nat}(h:(f i).1.P=none):WSf f (i+1)=WSf f i:=if_pos h
theorem E4{f:Nat->J1.GP×J2.GP}{i:Nat}(h: ¬(f i).1.P=none)(k:(f i).2.P=none):WSf f (i+1)=WSf f i:=(if_neg h).trans (if_pos k)
theorem Ff{f:Nat->J1.GP×J2.GP}{i:Nat}(h: ¬(f i).1.P=none)(k: ¬(f i).2.P=none):WSf f (i+1)=WSf f i++[wkB (J1.PX (f i).1.P,J1.PY (f i).1.P) (J2.PX (f i).2.P,J2.PY (f i).2.P)]:=(if_neg h).trans (if_neg k)
theorem uN(f:Nat->J1.GP×J2.GP): ∀i,(WSf f i).length<=i
 |0=>Nat.le_refl _
 |i+1=>by
  have h:=uN f i;rw[WSf];split
  ·omega
  ·split
   ·omega
   ·rw[List.length_append];simp;omega
def wcl(l:List WK):List Value:=clv (l.flatMap kv)
theorem p8(w:WK):(kv w).length=12:=rfl
theorem oP(l m:List WK):wcl (l++m)=wcl l++wcl m:=by rw[wcl,List.flatMap_append,i1];rfl
theorem pO(w:WK)(l:List WK):wcl (w::l)=clv (kv w)++wcl l:=by rw[wcl,List.flatMap_cons,i1];rfl
theorem A4(w:WK):wcl [w]=clv (kv w):=by rw[pO];exact List.append_nil _
theorem tC: ∀l:List WK,(wcl l).length=72*l.length
 |[]=>rfl
 |w::l=>by rw[pO,List.length_append,tC l,cQ,p8,List.length_cons];omega
theorem OwnW.of{L L':Hl}{n:Nat}{e:TypeId}{s:Nat}{a0:Option Addr}{cap nx:Nat}{xs:List Value}(h:OwnW L n e s a0 cap nx xs)(he:lkB L' n=lkB L n):OwnW L' n e s a0 cap nx xs:=by
 rcases h with h|⟨b,c,h1,h2,h3⟩
 ·exact .inl h
 ·exact .inr ⟨b,c,h1,he.trans h2,h3⟩
theorem QW(a b:Zp)(c d e f g:W2)(w:World):(Instr.build 240 (([0,1,2,3,4,5,6]).zip [EV a,EV b,EV2 c,EV2 d,EV2 e,EV2 f,EV2 g]).toArray).run prog w=.ok (.agg (clv [a,b,c.1,c.2,d.1,d.2,e.1,e.2,f.1,f.2,g.1,g.2]).toArray) w:=by
 obtain ⟨fields,hf,hm,_⟩:=TB.hfs 240 [(0,1),(1,1),(2,2),(4,2),(6,2),(8,2),(10,2)] kr;exact gE (TB.hsz 240 12 kr).2.2 hf hm _ (ql (ps:=[(0,[a]),(1,[b]),(2,[c.1,c.2]),(3,[d.1,d.2]),(4,[e.1,e.2]),(5,[f.1,f.2]),(6,[g.1,g.2])]) (c:=List.replicate 12 0) rr) w
theorem tiW:TI prog 240 (.agg (clv (List.replicate 12 0)).toArray) 72 576:=sP (by rw[clv,rc];kernel_rfl)
theorem G0{own L:Hl}(ho:own=[]\/∃x,own=[(50,x)])(h:lkB L 50=lkB own 50):kc L own:=by
 rcases ho with rfl|⟨x,rfl⟩
 ·exact trivial
 ·exact ⟨h,trivial⟩
structure BgV(f:Nat->J1.GP×J2.GP)(n:Nat) where
 (k:Nat) (a0:Option Addr) (cap:Nat) (own:Hl)
 hk:k<=n
 hs:OwnW own 50 240 72 a0 cap (WSf f k).length (wcl (WSf f k))
 ho:own=[]\/∃x,own=[(50,x)]
 hz:WSf f k=[]->a0=none
theorem Kc{w:World}(h:Gt w):8<=w.heap.size:=block_lt_of_cell (h.g7 0 _ rr)
theorem KM(n:Nat)(f:Nat->J1.GP×J2.GP)(b cap:Nat)(hn:n<=1000)(w:World)(hw:Gt w)(h:w.rangeAt b 0 ((RW 54 (λi=>PRv (f i)) n).map U64)):
 CLS 195 [.slice (spt b) n cap].toArray w (λe w'=>(∃bW cW capW,e=.returned (.slice (spt bW) (WSf f n).length capW)/\Grow w w'/\w.heap.size<=bW/\OwnB w' bW cW 240/\cW.take (wcl (WSf f n)).length=wcl (WSf f n)/\WSf f n≠[])\/(WSf f n=[]/\e=.returned (.slice none 0 0)/\Grow w w')):=by
 have hGF:BOk Gt (pl w):=gt_low.plain hw;have fin: ∀{L:Hl} {a0:Option Addr} {cap:Nat} {w':World},OwnW L 50 240 72 a0 cap (WSf f n).length (wcl (WSf f n))->(WSf f n=[]->a0=none)->Hp (pl w) L w'->(∃bW cW capW,Ending.returned (.slice a0 (WSf f n).length cap)=.returned (.slice (spt bW) (WSf f n).length capW)/\Grow w w'/\w.heap.size<=bW/\OwnB w' bW cW 240/\cW.take (wcl (WSf f n)).length=wcl (WSf f n)/\WSf f n≠[])\/(WSf f n=[]/\Ending.returned (.slice a0 (WSf f n).length cap)=.returned (.slice none 0 0)/\Grow w w'):=λ{L a0 cap w'} h hz hp=>by
  rcases h with ⟨rfl,_,h3,rfl⟩|⟨b,c,rfl,hl,hc,hle,hx,ht⟩
  ·exact .inr ⟨List.length_eq_zero_iff.1 h3,by rw[h3],ac hp⟩
  ·exact .inl ⟨b,c,cap,rfl,ac hp,(hp.own _ _ _ _ hl).2.elim id False.elim,(hp.own _ _ _ _ hl).1,ht,λe=>by cases hz e⟩
 refine Hd func195 O hGF<|Xp<|Asg O<|aa<|le<|Xp<|Asg O<|aa<|ah<|mC<|ah<|Xp<|Mv O<|bf O (λ_=>aG underlying170 _ _ _ _) O O<|Mv O<|aa<|ai<|bH (ι:=BgV f n) (λx=>[(11,.slice (spt b) n cap),(12,I (n:Int)),(13,I (x.k:Int)),(3,.slice x.a0 (WSf f x.k).length x.cap)]) (λx=>x.own) (λx=>n-x.k) ⟨0,none,0,[],om,vJ _ _ _ _,.inl O,λ_=>rfl⟩ hGF trv trivial<|?_;rintro ⟨i,a0,cap0,own,hi,hs,ho,hz⟩;dsimp only at hs ho hz⊢;have hwl:=uN f i;by_cases hP:(f i).1.P=none
 ·refine Xp<|Bnr O O (λ_=>aw _ _ _)<|aa<|ah<|?_
  refine bD O (λhc=> ?_) (λhc=> ?_)
  ·have hi2:i<n:=by simp at hc;omega
   refine aq<|ah<|ai<|Xp<|iQ (s:=54) i O O underlying170 sizeOf169 om om O O<|cZ (cs:=(PRv (f i)).map U64) O isAgg169 sizeOf169 sm (λw' h'=>gB (eU h (λh=>h) w' h') om (gc _)) O O<|Al 5 hGF zv169<|λb5=>Sa 5 hGF O O O Gz<|aa<|Xp<|Fa 0 O underlying169 O sizeOf54<|ay 5 ((J1.GL (f i).1).map U64) O O isAgg54 sizeOf54 sm el O O<|Ca O (J1.EJ _ hP)<|Mv O<|Ext O O<|Ext O O<|Ext O O<|Al 6 hGF zv52<|λb6=>Al 7 hGF zv52<|λb7=>Sa 6 hGF O O O bN<|Sa 7 hGF O O O bN<|Asg O<|aa<|ah<|Xp<|Mv O<|bp O (λ_=>a8 _) O O<|aa<|aT O<|aV<|Xq<|Bnr O O (λ_=>au _ _ _ oi)<|Mv O<|aa<|?_
   repeat (first|refine aO ?_|refine cm ?_)
   exact aC<|⟨rfl,⟨i+1,a0,cap0,own,om,by rw[FX hP];exact hs,ho,by rw[FX hP];exact hz⟩,_,by show n-(i+1)<n-i;omega,rfl,⟨rfl,rfl,rfl,by dsimp only;rw[FX hP];rfl,trivial⟩,G0 ho O⟩
  ·obtain rfl:i=n:=by simp at hc;omega
   refine aV<|Xp<|Mv O<|Asg O<|aa<|am<|?_
   repeat (first|refine bJ ?_|refine bK ?_|refine eZ ?_)
   exact aF O O (λw' hw'=>fin hs hz hw')
 ·by_cases hQ:(f i).2.P=none
  ·refine Xp<|Bnr O O (λ_=>aw _ _ _)<|aa<|ah<|?_
   refine bD O (λhc=> ?_) (λhc=> ?_)
   ·have hi2:i<n:=by simp at hc;omega
    refine aq<|ah<|ai<|Xp<|iQ (s:=54) i O O underlying170 sizeOf169 om om O O<|cZ (cs:=(PRv (f i)).map U64) O isAgg169 sizeOf169 sm (λw' h'=>gB (eU h (λh=>h) w' h') om (gc _)) O O<|Al 5 hGF zv169<|λb5=>Sa 5 hGF O O O Gz<|aa<|Xp<|Fa 0 O underlying169 O sizeOf54<|ay 5 ((J1.GL (f i).1).map U64) O O isAgg54 sizeOf54 sm el O O<|Ca O (J1.vB _ hP)<|Mv O<|Ext O O<|Ext O O<|Ext O O<|Al 6 hGF zv52<|λb6=>Al 7 hGF zv52<|λb7=>Sa 6 hGF O O O bN<|Sa 7 hGF O O O bN<|Asg O<|aa<|ah<|Xp<|Mv O<|bp O (λ_=>a8 _) O O<|aa<|aD O<|aq<|Xp<|Fa 18 O underlying169 O sizeOf80<|ay 5 ((J2.GL (f i).2).map U64) O O isAgg80 sizeOf80 sm (jf sm) O O<|Ca O (J2.EJ _ hQ)<|Mv O<|Ext O O<|Ext O O<|Ext O O<|Al 9 hGF zv78<|λb9=>Al 10 hGF zv78<|?_;intro b10;refine Sa 9 hGF O O O aX<|Sa 10 hGF O O O aX<|Asg O<|aa<|ah<|Xp<|Mv O<|bp O (λ_=>a8 _) O O<|aa<|aT O<|aV<|Xq<|Bnr O O (λ_=>au _ _ _ oi)<|Mv O<|aa<|?_
    repeat (first|refine aO ?_|refine cm ?_)
    exact aC<|⟨rfl,⟨i+1,a0,cap0,own,om,by rw[E4 hP hQ];exact hs,ho,by rw[E4 hP hQ];exact hz⟩,_,by show n-(i+1)<n-i;omega,rfl,⟨rfl,rfl,rfl,by dsimp only;rw[E4 hP hQ];rfl,trivial⟩,G0 ho O⟩
   ·obtain rfl:i=n:=by simp at hc;omega
    refine aV<|Xp<|Mv O<|Asg O<|aa<|am<|?_
    repeat (first|refine bJ ?_|refine bK ?_|refine eZ ?_)
    exact aF O O (λw' hw'=>fin hs hz hw')
  ·refine Xp<|Bnr O O (λ_=>aw _ _ _)<|aa<|ah<|?_
   refine bD O (λhc=> ?_) (λhc=> ?_)
   ·have hi2:i<n:=by simp at hc;omega
    refine aq<|ah<|ai<|Xp<|iQ (s:=54) i O O underlying170 sizeOf169 om om O O<|cZ (cs:=(PRv (f i)).map U64) O isAgg169 sizeOf169 sm (λw' h'=>gB (eU h (λh=>h) w' h') om (gc _)) O O<|Al 5 hGF zv169<|λb5=>Sa 5 hGF O O O Gz<|aa<|Xp<|Fa 0 O underlying169 O sizeOf54<|ay 5 ((J1.GL (f i).1).map U64) O O isAgg54 sizeOf54 sm el O O<|Ca O (J1.vB _ hP)<|Mv O<|Ext O O<|Ext O O<|Ext O O<|Al 6 hGF zv52<|λb6=>Al 7 hGF zv52<|λb7=>Sa 6 hGF O O O bN<|Sa 7 hGF O O O bN<|Asg O<|aa<|ah<|Xp<|Mv O<|bp O (λ_=>a8 _) O O<|aa<|aD O<|aq<|Xp<|Fa 18 O underlying169 O sizeOf80<|ay 5 ((J2.GL (f i).2).map U64) O O isAgg80 sizeOf80 sm (jf sm) O O<|Ca O (J2.vB _ hQ)<|Mv O<|Ext O O<|Ext O O<|Ext O O<|Al 9 hGF zv78<|λb9=>Al 10 hGF zv78<|?_;intro b10;refine Sa 9 hGF O O O aX<|Sa 10 hGF O O O aX<|Asg O<|aa<|ah<|Xp<|Mv O<|bp O (λ_=>a8 _) O O<|aa<|aD O<|aq<|Xe []<|Mv O<|La 6 O O bN<|La 7 O O bN<|La 9 O O aX<|La 10 O O aX<|La 9 O O aX<|La 10 O O aX<|Ca O (sn)<|ek (ps:=[(0,.tmp 36),(1,.tmp 37),(2,.tmp 38),(3,.tmp 39),(4,.tmp 40),(5,.tmp 41),(6,.tmp 42)]) (vs:=[EV (J1.PX (f i).1.P),EV (J1.PY (f i).1.P),EV2 (J2.PX (f i).2.P),EV2 (J2.PY (f i).2.P),EV2 (J2.PX (f i).2.P),EV2 (J2.PY (f i).2.P),EV2 on2]) O (v:=.agg (clv (kv (wkB (J1.PX (f i).1.P,J1.PY (f i).1.P) (J2.PX (f i).2.P,J2.PY (f i).2.P)))).toArray) (λw=>QW _ _ _ _ _ _ _ w) O O<|wa 44 (clv (kv (wkB (J1.PX (f i).1.P,J1.PY (f i).1.P) (J2.PX (f i).2.P,J2.PY (f i).2.P)))) hGF O (by rw[cQ,p8]) dc dc underlying232 sizeOf240 (TB.hsz 240 12 kr).2.2 O O<|?_
    intro b44;refine qf (s:=72) (nx:=(WSf f i).length) (ny:=1) (xs:=wcl (WSf f i)) (ys:=clv (kv (wkB (J1.PX (f i).1.P,J1.PY (f i).1.P) (J2.PX (f i).2.P,J2.PY (f i).2.P)))) 50 hGF O O underlying232 underlying232 tiW O (OwnW.of hs O) (by rw[cQ,p8]) (λw' h=>aJ (n:=44) O w' h) (z5 _) dc om om O O (λbA cA capA eA lA tA=> ?_)
    refine Asg O<|aa<|Xq<|Bnr O O (λ_=>au _ _ _ oi)<|Mv O<|aa<|?_
    repeat (first|refine aO ?_|refine cm ?_)
    refine aC ?_;have eW:=Ff hP hQ;have eL:(WSf f (i+1)).length=(WSf f i).length+1:=by rw[eW,List.length_append];rfl
    have eC:wcl (WSf f (i+1))=wcl (WSf f i)++clv (kv (wkB (J1.PX (f i).1.P,J1.PY (f i).1.P) (J2.PX (f i).2.P,J2.PY (f i).2.P))):=by rw[eW,oP,A4]
    exact ⟨rfl,⟨i+1,some ⟨bA,0,none⟩,capA,[(50,bA,cA,240)],om,.inr ⟨bA,cA,rfl,rfl,eA,om,by rw[tC,Nat.mul_comm],by rw[eC];exact tA⟩,.inr ⟨_,rfl⟩,λe=>by rw[e]at eL;cases eL⟩,_,by show n-(i+1)<n-i;omega,rfl,⟨rfl,rfl,rfl,by dsimp only;rw[eL];rfl,trivial⟩,trv⟩
   ·obtain rfl:i=n:=by simp at hc;omega
    refine aV<|Xp<|Mv O<|Asg O<|aa<|am<|?_
    repeat (first|refine bJ ?_|refine bK ?_|refine eZ ?_)
    exact aF O O (λw' hw'=>fin hs hz hw')
end Q6
end
section
open Go.RowKit
attribute [local simp] a6 bj aH aB aP aZ aQ aI aM be bz a5 bv J1.bB J2.bB
namespace Q6
abbrev rM(x:W12):List Value:=(((fe ((x).1.1).1++fe ((x).1.1).2)++((fe ((x).1.2.1).1++fe ((x).1.2.1).2)++(fe ((x).1.2.2).1++fe ((x).1.2.2).2)))++((fe ((x).2.1).1++fe ((x).2.1).2)++((fe ((x).2.2.1).1++fe ((x).2.2.1).2)++(fe ((x).2.2.2).1++fe ((x).2.2.2).2)))).map U64
theorem mW(x:W12):(rM x).length=72:=sm
def mkC(fs:List Nat)(o:Oper):Bool:=match o.op with
 | .call {callee:=.value (.func f), .. }=>fs.any (Nat.beq f)
 |_=>false
def SK(W:List WK)(k:Nat):List WK×W12:=rdK (D63.take k) (W,K12.one)
theorem Yz(W:List WK){k:Nat}(h:k<63):SK W (k+1)=rdF (DGb k) (SK W k):=by rw[SK,qx h,Ar];rfl
theorem D7(W:List WK){k:Nat}(h:k<63)(hd:DGb k=false):SK W (k+1)=((SK W k).1.map wDb,iR rDb (SK W k).1 (K12.mul (SK W k).2 (SK W k).2)):=by rw[Yz W h,hd];rfl
theorem Iu(W:List WK){k:Nat}(h:k<63)(hd:DGb k=true):SK W (k+1)=(((SK W k).1.map wDb).map wJn,iR rJn ((SK W k).1.map wDb) (iR rDb (SK W k).1 (K12.mul (SK W k).2 (SK W k).2))):=by rw[Yz W h,hd];rfl
theorem lT(W:List WK): ∀k,k<=63->(SK W k).1.length=W.length
 |0,_=>rfl
 |k+1,h=>by
  have ih:=lT W k om
  cases d:DGb k with
  |false=>rw[D7 W om d,List.length_map];exact ih
  |true=>rw[Iu W om d,List.length_map,List.length_map];exact ih
theorem nv(g:WK->W6): ∀(l:List WK) (w:WK) (f:W12),iR g (l++[w]) f=K12.mul (lel (g w)) (iR g l f)
 |[],_,_=>rfl
 |v::l,w,f=>nv g l w (K12.mul (lel (g v)) f)
theorem xo{l:List WK}{j:Nat}{w:WK}(h:l[j]? =some w):l.take (j+1)=l.take j++[w]:=by rw[List.take_add_one,h];rfl
theorem OG{l:List WK}{j:Nat}{w:WK}(h:l[j]? =some w):l.drop j=w::l.drop (j+1):=by
 have hj:=(List.getElem?_eq_some_iff.1 h).1;rw[List.drop_eq_getElem_cons hj];exact congrArg (·::_) (List.getElem?_eq_some_iff.1 h).2
def upW(g:WK->WK)(l:List WK)(j:Nat):List WK:=(l.take j).map g++l.drop j
theorem Xw{g:WK->WK}{l:List WK}{j:Nat}{w:WK}(h:l[j]? =some w)(post:List Value):wcl (upW g l j)++post=wcl ((l.take j).map g)++(clv (kv w)++(wcl (l.drop (j+1))++post)):=by
 rw[upW,OG h,oP,pO];simp only[List.append_assoc]
theorem Vg{g:WK->WK}{l:List WK}{j:Nat}{w:WK}(h:l[j]? =some w)(post:List Value):wcl (upW g l (j+1))++post=wcl ((l.take j).map g)++(clv (kv (g w))++(wcl (l.drop (j+1))++post)):=by
 rw[upW,xo h,List.map_append,oP,oP,show [w].map g=[g w]from O,A4];simp only[List.append_assoc]
theorem Wh{g:WK->WK}{l:List WK}{j:Nat}{w:WK}(h:l[j]? =some w):(wcl ((l.take j).map g)).length=0+72*j:=by
 have hj:=(List.getElem?_eq_some_iff.1 h).1;rw[tC,List.length_map,List.length_take,Nat.min_eq_left om,Nat.zero_add]
theorem UL(g:WK->WK)(l:List WK):upW g l 0=l:=rfl
theorem ME(g:WK->WK){l:List WK}{j:Nat}(h:l.length=j):upW g l j=l.map g:=by
 rw[upW,List.take_of_length_le om,List.drop_eq_nil_of_le om,List.append_nil]
theorem Yi{f:FuncId}{g:WK->WK}{u:WK->W6}{l:List WK}{j:Nat}{w:WK}(h:l[j]? =some w){b:Nat}{post:List Value}{W:World}(ho:OwnB W b (wcl (upW g l j)++post) 240)
 (hc: ∀{pre post:List Value},OwnB W b (pre++(clv (kv w)++post)) 240->CLS f [.pointer (some ⟨b,pre.length,none⟩)].toArray W (λe W'=>e=.returned (EV6 (u w))/\Mod b W W'/\OwnB W' b (pre++(clv (kv (g w))++post)) 240)):
 CLS f [.pointer (some ⟨b,0+72*j,none⟩)].toArray W (λe W'=>e=.returned (EV6 (u w))/\Mod b W W'/\OwnB W' b (wcl (upW g l (j+1))++post) 240):=by
 rw[Xw h]at ho;have k:=hc ho;rw[Wh h]at k;rw[Vg h];exact k
theorem TC{l:List WK}{j:Nat}{w:WK}(h:l[j]? =some w){b:Nat}{post:List Value}{W:World}(hw:Gt W)(hb:8<=b)(ho:OwnB W b (wcl (upW wDb l j)++post) 240):CLS 198 [.pointer (some ⟨b,0+72*j,none⟩)].toArray W (λe W'=>e=.returned (EV6 (rDb w))/\Mod b W W'/\OwnB W' b (wcl (upW wDb l (j+1))++post) 240):=Yi h ho (λ{_ _} k=>mdbl w hw hb k)
theorem UP{l:List WK}{j:Nat}{w:WK}(h:l[j]? =some w){b:Nat}{post:List Value}{W:World}(hz: ¬w.2.2.2.2=ze2)(hw:Gt W)(hb:8<=b)(ho:OwnB W b (wcl (upW wJn l j)++post) 240):CLS 200 [.pointer (some ⟨b,0+72*j,none⟩)].toArray W (λe W'=>e=.returned (EV6 (rJn w))/\Mod b W W'/\OwnB W' b (wcl (upW wJn l (j+1))++post) 240):=Yi h ho (λ{_ _} k=>mjn w hz hw hb k)
theorem TE(W:List WK)(n b cap:Nat)(cs:List Value)(hWl:W.length<=1000)(hZ: ∀k,k<63->DGb k=true->∀w∈(SK W k).1.map wDb,¬w.2.2.2.2=ze2)(hB: ∀w',Gt w'->w'.rangeAt b 0 cs->CLS 195 [.slice (spt b) n cap].toArray w' (λr w''=> ∃bW post capW,r=.returned (.slice (spt bW) W.length capW)/\Grow w' w''/\w'.heap.size<=bW/\OwnB w'' bW (wcl W++post) 240))(w:World)(hw:Gt w)(h:w.rangeAt b 0 cs):
 CLS 163 [.slice (spt b) n cap].toArray w (λr w'=>r=.returned (cB (da (SK W 63).2))/\Grow w w'):=by
 have hGF:BOk Gt (pl w):=gt_low.plain hw;refine cw (G:=Gt) func163 O O (Hp (pl w) []) (cj (pl w) trivial ao) (az hGF)<|ae (E:=EE [195,198,200])<|Al 2 hGF zv211<|λb2=>aa<|le<|ae (E:=EE [195,198,200])<|Mv O<|?_;refine dw O O ent195 O O (λw' hw'=>(hB w' (hGF.g _ _ _ hw') (eU h (λh=>h) w' hw')).mono λe' w'' h'=> ?_);obtain ⟨bW,post,capW,rfl,hg,hbD,hoD⟩:=h';have hb3:8<=bW:=Nat.le_trans (Kc (hGF.g _ _ _ hw')) hbD;refine ⟨_,_,rfl,az hGF,hw'.news ao hg [(50,bW,wcl W++post,240)] ?_ bR, ?_⟩
 ·intro n' b' c' t' hl
  rcases aK hl with ⟨_,e⟩|⟨_,hl⟩
  ·cases e;exact ⟨hbD,hoD⟩
  ·cases hl
 clear hw' hg hbD hoD;refine hO 3 hGF zeroValue232 O O<|λb3=>dP 3 hGF O O O sizeOf232 O (by first|decide|simp) O<|aa<|ae (E:=EE [195,198,200])<|Ca O (s9)<|Al 4 hGF zv211<|λb4=>Sa 4 hGF O O O gR<|aa<|ah<|mC<|ah<|ae (E:=EE [195,198,200])<|Ca O (ES)<|aa<|ai<|?_
 refine fb (λ_=>pl w) (λ_ _=>pl w) (λ_=>hGF) (λ_ _=>hGF) (λ_=>rfl) (λ_ _=>rfl) O O ent222 vQ (λx hx=>by obtain ⟨k,hk,rfl⟩:=List.mem_map.1 hx;rfl) O (λk=>[(2,b2,(((fe 0++fe 0)++((fe 0++fe 0)++(fe 0++fe 0)))++((fe 0++fe 0)++((fe 0++fe 0)++(fe 0++fe 0)))).map U64,211),(3,b3,[.slice (spt bW) W.length capW],232),(4,b4,rM ((SK W k).2),211),(50,bW,wcl ((SK W k).1)++post,240)]) (λ_ _ _=>False) trv (λ_ _ _ _=>trivial) ?_ ?_ (λ_ _ _ _ _ h=>h.elim)
 ·intro k v hx R hR
  obtain ⟨hk,rfl⟩:=H7 hx;refine bG (E:=EE [195,198,200])<|Asg O<|aa<|?_;refine ⟨rfl,_,rfl, ?_⟩;refine ai<|ae (E:=EE [195,198,200])<|La 4 O O gR<|Ca O (nL _)<|aA 4 (hR (pl w) O hGF).2.1 O O O sizeOf211 sm sm (bc _) O<|aa<|ah<|ae (E:=EE [195,198,200])<|cR 3 O O O isAgg232 O O<|bf O (λ_=>aG underlying232 _ _ _ _) O O<|Mv O<|aa<|ai<|?_;obtain ⟨F0,hF0⟩: ∃F0,F0=K12.mul (SK W k).2 (SK W k).2:=⟨_,rfl⟩;refine bH (ι:={j:Nat // j<=W.length}) (λy=>[(2,pnt b2),(3,pnt b3),(4,pnt b4),(5,.bool (DGb k)),(16,I ((W.length:Nat):Int)),(17,I (y.1:Int))]) (λy=>[(2,b2,(((fe 0++fe 0)++((fe 0++fe 0)++(fe 0++fe 0)))++((fe 0++fe 0)++((fe 0++fe 0)++(fe 0++fe 0)))).map U64,211),(3,b3,[.slice (spt bW) W.length capW],232),(4,b4,rM (iR rDb ((SK W k).1.take y.1) F0),211),(50,bW,wcl (upW wDb (SK W k).1 y.1)++post,240)]) (λy=>W.length-y.1) ⟨0,Nat.zero_le _⟩ (hR (pl w) O hGF).2.1 trv ⟨rfl,rfl,by rw[hF0];rfl,rfl,trivial⟩ ?_
  rintro ⟨j,hj⟩;dsimp only;refine ae (E:=EE [195,198,200])<|Bnr O O (λ_=>aw _ _ _)<|aa<|ah<|?_;refine bD O (λhc=> ?_) (λhc=> ?_)
  ·have hj2:j<W.length:=by simp at hc;omega
   obtain ⟨wj,hwj⟩: ∃wj,(SK W k).1[j]? =some wj:=⟨_,List.getElem?_eq_getElem (by rw[lT W k om];exact hj2)⟩
   refine aq<|ah<|ai<|ae (E:=EE [195,198,200])<|Mv O<|Asg O<|aa<|oZ (E:=EE [195,198,200]) (λX=>X=Hp (R.b (pl w)) [(4,b4,rM (iR rDb ((SK W k).1.take j) F0),211)]) (mkC [198]) (rkB [24]) [0,1,2,4,3,5,6] cT O kr kr kr<|dC O O<|cR 3 O O O isAgg232 O O<|aa<|dC O O<|Mv O<|aa<|dC O O<|iQ (s:=72) j O O underlying232 sizeOf240 om om O O<|aa<|kp (X:=Hp (R.b (pl w)) [(4,b4,rM (iR rDb ((SK W k).1.take j) F0),211)]) O (cL (hR (pl w) O hGF).2.1.r trv) (λ_=>rfl)<|bV 4 O O isAgg211 sizeOf211 (mW _) O O<|aa<|fD O<|?_;refine dw O O ent198 O O (λw' hw'=>(TC hwj ((hR (pl w) O hGF).2.1.g _ _ _ hw') hb3 (hw'.own 50 _ _ _ O).1).mono λe' w'' h'=> ?_);obtain ⟨rfl,hm,ho⟩:=h';refine ⟨_,_,rfl,az (hR (pl w) O hGF).2.1,hw'.mod (hR (pl w) O hGF).2.1.r (n:=50) O hm ho, ?_⟩;clear hw' hm ho;refine aa ?_;refine ⟨λ_ X hX _=>by subst hX;exact cL (hR (pl w) O hGF).2.1.r trv, ?_⟩
   refine dC O O<|Ca O (xl (rDb wj) (iR rDb ((SK W k).1.take j) F0))<|aa<|fD O<|aA 4 (hR (pl w) O hGF).2.1 O O O sizeOf211 sm (mW _) (bc _) O<|aa<|?_;refine ⟨λh=>Bool.noConfusion h, ?_⟩;refine fJ<|bG (E:=EE [195,198,200])<|Bnr O O (λ_=>au _ _ _ oi)<|Mv O<|aa<|?_
   repeat (refine aO ?_)
   refine aC ?_;have eF:K12.mul (lel (rDb wj)) (iR rDb ((SK W k).1.take j) F0)=iR rDb ((SK W k).1.take (j+1)) F0:=by rw[xo hwj,nv]
   exact ⟨rfl,⟨j+1,om⟩,_,by show W.length-(j+1)<W.length-j;omega,rfl,trv,⟨rfl,rfl,by rw[<-eF];rfl,rfl,trivial⟩⟩
  ·obtain rfl:j=W.length:=by simp at hc;omega
   refine aV ?_;rw[ME wDb (by rw[lT W k om]),List.take_of_length_le (Nat.le_of_eq (by rw[lT W k om])),hF0]
   clear hF0;refine ah<|ae (E:=EE [195,198,200])<|Mv O<|bp O (λ_=>a8 _) O O<|aa<|?_;refine bD O (λhc=> ?_) (λhc=> ?_)
   ·have hd:DGb k=false:=by simpa using hc
    refine aV ?_
    repeat (first|refine aO ?_|refine cm ?_)
    exact ⟨_,rfl,⟨rfl,rfl,by first|(rw[D7 W hk hd];rfl)|(rw[Iu W hk hd];rfl),by first|(rw[D7 W hk hd];rfl)|(rw[Iu W hk hd];rfl),trivial⟩⟩
   ·have hd:DGb k=true:=by simpa using hc
    refine aq<|ae (E:=EE [195,198,200])<|cR 3 O O O isAgg232 O O<|bf O (λ_=>aG underlying232 _ _ _ _) O O<|Mv O<|aa<|ai<|?_;obtain ⟨F0,hF0⟩: ∃F0,F0=iR rDb (SK W k).1 (K12.mul (SK W k).2 (SK W k).2):=⟨_,rfl⟩;refine bH (ι:={j:Nat // j<=W.length}) (λy=>[(2,pnt b2),(3,pnt b3),(4,pnt b4),(5,.bool (DGb k)),(30,I ((W.length:Nat):Int)),(31,I (y.1:Int))]) (λy=>[(2,b2,(((fe 0++fe 0)++((fe 0++fe 0)++(fe 0++fe 0)))++((fe 0++fe 0)++((fe 0++fe 0)++(fe 0++fe 0)))).map U64,211),(3,b3,[.slice (spt bW) W.length capW],232),(4,b4,rM (iR rJn (((SK W k).1.map wDb).take y.1) F0),211),(50,bW,wcl (upW wJn ((SK W k).1.map wDb) y.1)++post,240)]) (λy=>W.length-y.1) ⟨0,Nat.zero_le _⟩ (hR (pl w) O hGF).2.1 trv ⟨rfl,rfl,by rw[hF0];rfl,by rw[UL];rfl,trivial⟩ ?_
    rintro ⟨j,hj⟩;dsimp only;refine ae (E:=EE [195,198,200])<|Bnr O O (λ_=>aw _ _ _)<|aa<|ah<|?_;refine bD O (λhc=> ?_) (λhc=> ?_)
    ·have hj2:j<W.length:=by simp at hc;omega
     obtain ⟨wj,hwj⟩: ∃wj,((SK W k).1.map wDb)[j]? =some wj:=⟨_,List.getElem?_eq_getElem (by rw[List.length_map,lT W k om];exact hj2)⟩
     refine aq<|ah<|ai<|ae (E:=EE [195,198,200])<|Mv O<|Asg O<|aa<|oZ (E:=EE [195,198,200]) (λX=>X=Hp (R.b (pl w)) [(4,b4,rM (iR rJn (((SK W k).1.map wDb).take j) F0),211)]) (mkC [200]) (rkB [38]) [0,1,2,4,3,5,6] cT O kr kr kr<|dC O O<|cR 3 O O O isAgg232 O O<|aa<|dC O O<|Mv O<|aa<|dC O O<|iQ (s:=72) j O O underlying232 sizeOf240 om om O O<|aa<|kp (X:=Hp (R.b (pl w)) [(4,b4,rM (iR rJn (((SK W k).1.map wDb).take j) F0),211)]) O (cL (hR (pl w) O hGF).2.1.r trv) (λ_=>rfl)<|bV 4 O O isAgg211 sizeOf211 (mW _) O O<|aa<|fD O<|?_;refine dw O O ent200 O O (λw' hw'=>(UP hwj (hZ k hk hd _ (List.mem_of_getElem? hwj)) ((hR (pl w) O hGF).2.1.g _ _ _ hw') hb3 (hw'.own 50 _ _ _ O).1).mono λe' w'' h'=> ?_);obtain ⟨rfl,hm,ho⟩:=h';refine ⟨_,_,rfl,az (hR (pl w) O hGF).2.1,hw'.mod (hR (pl w) O hGF).2.1.r (n:=50) O hm ho, ?_⟩;clear hw' hm ho;refine aa ?_;refine ⟨λ_ X hX _=>by subst hX;exact cL (hR (pl w) O hGF).2.1.r trv, ?_⟩
     refine dC O O<|Ca O (xl (rJn wj) (iR rJn (((SK W k).1.map wDb).take j) F0))<|aa<|fD O<|aA 4 (hR (pl w) O hGF).2.1 O O O sizeOf211 sm (mW _) (bc _) O<|aa<|?_;refine ⟨λh=>Bool.noConfusion h, ?_⟩;refine fJ<|bG (E:=EE [195,198,200])<|Bnr O O (λ_=>au _ _ _ oi)<|Mv O<|aa<|?_
     repeat (refine aO ?_)
     refine aC ?_;have eF:K12.mul (lel (rJn wj)) (iR rJn (((SK W k).1.map wDb).take j) F0)=iR rJn (((SK W k).1.map wDb).take (j+1)) F0:=by rw[xo hwj,nv]
     exact ⟨rfl,⟨j+1,om⟩,_,by show W.length-(j+1)<W.length-j;omega,rfl,trv,⟨rfl,rfl,by rw[<-eF];rfl,rfl,trivial⟩⟩
    ·obtain rfl:j=W.length:=by simp at hc;omega
     refine aV ?_;rw[ME wJn (by rw[List.length_map,lT W k om]),List.take_of_length_le (Nat.le_of_eq (by rw[List.length_map,lT W k om])),hF0]
     clear hF0
     repeat (first|refine aO ?_|refine cm ?_)
     exact ⟨_,rfl,⟨rfl,rfl,by first|(rw[D7 W hk hd];rfl)|(rw[Iu W hk hd];rfl),by first|(rw[D7 W hk hd];rfl)|(rw[Iu W hk hd];rfl),trivial⟩⟩
 ·intro D hD
  rw[o7];refine ae (E:=EE [195,198,200])<|La 4 O O gR<|Ca O (Ap _)<|Sa 2 hD O O O gR<|aa<|am<|?_
  repeat (first|refine bJ ?_|refine bK ?_|refine eZ ?_)
  exact dR (.inl O) ao (av 2 O O O isAgg211 sizeOf211 sm (λw hw=>⟨rfl,ac hw⟩))
end Q6
end
section
open Go.RowKit
attribute [local simp] a6 bj aH aB aP aZ aQ aI aM be bz a5 bv J1.bB J2.bB Q6.gc
namespace Q6
def LPv(f:Nat->J1.GP×J2.GP)(n:Nat):W12:=da (SK (WSf f n) 63).2
theorem tX:Two prog 169 ⟨ "P",54,0,false, "", "",0⟩ ⟨ "Q",80,18,false, "", "",144⟩ 18 36 (List.replicate 18 (0#64)) (List.replicate 36 (0#64)):=⟨underlying169,rfl,rfl,sizeOf54,sizeOf80,λw=>(zeroValue169 w).trans rr,sm,sm⟩
end Q6
end
section
open Go.RowKit
theorem ent272:ak prog 272:=λ_ _=>kr
namespace Q6
attribute [local simp] a6 bj aH aB aP aZ aQ aI aM be bz a5 bv
attribute [local simp] pz cJ
theorem zv283(w:World):(zeroValue 283).run prog w=.ok (aL (FM (FF λ_=>ze2) 6)) w:=by
 rw[wD];exact (zeroValue283 w).trans rr
abbrev TV6(f:Nat->W2):Value:=aL (FM (FF f) 6)
theorem OV(f z:Nat->L6): ∀i,i<6->zE f [0,1,2,3,4,5] z i=f i:=λi hi=>oU _ _ _ _ (.inl (by
 match i,hi with
 |0,_=>decide
 |1,_=>decide
 |2,_=>decide
 |3,_=>decide
 |4,_=>decide
 |5,_=>decide))
theorem LF(x:W12):PUR 273 [cB x] (TV6 (p12 x)):=by
 intro w hw;refine Hf func273 O hw<|λhGF=>Xp<|Bx 1 hGF O<|λb1=>Al 2 hGF zv283<|λb2=>aa<|Xp<|Fa 0 O underlying211 O sizeOf209<|Fa 0 O underlying209 O sizeOf78<|ay 1 _ O O isAgg78 sizeOf78 sm (Fe el) O O<|Fa 36 O underlying211 O sizeOf209<|Fa 36 O underlying209 O sizeOf78<|ay 1 _ O O isAgg78 sizeOf78 sm (yv (m:=36) (o:=0) sm O el) O O<|Fa 0 O underlying211 O sizeOf209<|Fa 12 O underlying209 O sizeOf78<|ay 1 _ O O isAgg78 sizeOf78 sm (Fe (kt sm)) O O<|Fa 36 O underlying211 O sizeOf209<|Fa 48 O underlying209 O sizeOf78<|ay 1 _ O O isAgg78 sizeOf78 sm (yv (m:=36) (o:=12) sm O (kt (m:=12) sm)) O O<|Fa 0 O underlying211 O sizeOf209<|Fa 24 O underlying209 O sizeOf78<|ay 1 _ O O isAgg78 sizeOf78 sm (Fe (fX (m:=12) (n:=12) sm sm O)) O O<|Fa 36 O underlying211 O sizeOf209<|Fa 60 O underlying209 O sizeOf78<|ay 1 _ O O isAgg78 sizeOf78 sm (yv (m:=36) (o:=24) sm O (fX (m:=12) (n:=12) sm sm O)) O O<|qO (s:=12) (FF (p12 x)) (FF (p12 x)) [0,1,2,3,4,5] O O O (λi _=>a5 _) underlying283 sizeOf78 zv283 (OV _ _) O O<|Sa 2 hGF O O O L9<|aa<|am<|Rr<|?_;exact av 2 O O O isAgg283 sizeOf283 sm (λw hw=>⟨rfl,ac hw⟩)
theorem Wg(f:Nat->W2):PUR 257 [TV6 f] (cB (tq f)):=by
 intro w hw;refine Hf func257 O hw<|λhGF=>Xp<|Bx 1 hGF O<|λb1=>Al 2 hGF zv211<|λb2=>aa<|Xp<|fC (0) (12*(0)) O O underlying283 sizeOf78 om om om O O<|ay 1 ((fe (f 0).1++fe (f 0).2).map U64) O O isAgg78 sizeOf78 sm (gG _ (f 0) 6 (0) _ om O (rfl)) O O<|fC (2) (12*(2)) O O underlying283 sizeOf78 om om om O O<|ay 1 ((fe (f 2).1++fe (f 2).2).map U64) O O isAgg78 sizeOf78 sm (gG _ (f 2) 6 (2) _ om O (rfl)) O O<|fC (4) (12*(4)) O O underlying283 sizeOf78 om om om O O<|ay 1 ((fe (f 4).1++fe (f 4).2).map U64) O O isAgg78 sizeOf78 sm (gG _ (f 4) 6 (4) _ om O (rfl)) O O<|ee kH O O O sm sm sm O O<|fC (1) (12*(1)) O O underlying283 sizeOf78 om om om O O<|ay 1 ((fe (f 1).1++fe (f 1).2).map U64) O O isAgg78 sizeOf78 sm (gG _ (f 1) 6 (1) _ om O (rfl)) O O<|fC (3) (12*(3)) O O underlying283 sizeOf78 om om om O O<|ay 1 ((fe (f 3).1++fe (f 3).2).map U64) O O isAgg78 sizeOf78 sm (gG _ (f 3) 6 (3) _ om O (rfl)) O O<|fC (5) (12*(5)) O O underlying283 sizeOf78 om om om O O<|ay 1 ((fe (f 5).1++fe (f 5).2).map U64) O O isAgg78 sizeOf78 sm (gG _ (f 5) 6 (5) _ om O (rfl)) O O<|ee kH O O O sm sm sm O O<|co un O O sm sm O O<|Sa 2 hGF O O O gR<|aa<|am<|Rr<|?_;exact av 2 O O O isAgg211 sizeOf211 sm (λw hw=>⟨rfl,ac hw⟩)
theorem rC(x:W12)(w:World)(hw:Gt w):CLS 256 [cB x].toArray w (λe w'=> ∃b1,e=.returned (.func (.func 272) #[] #[pnt b1])/\Grow w w'/\w.heap.size<=b1/\OwnB w' b1 ((((fe (x.1.1).1++fe (x.1.1).2)++((fe (x.1.2.1).1++fe (x.1.2.1).2)++(fe (x.1.2.2).1++fe (x.1.2.2).2)))++((fe (x.2.1).1++fe (x.2.1).2)++((fe (x.2.2.1).1++fe (x.2.2.1).2)++(fe (x.2.2.2).1++fe (x.2.2.2).2)))).map U64) 211):=by
 refine Hf func256 O hw<|λhGF=>Xp<|Bx 1 hGF O<|λb1=>Asg O<|aa<|Xp<|gj O O O O<|Asg O<|aa<|am<|Rr<|?_;exact aF O O (λw hw=>⟨b1,rfl,ac hw,(hw.own 1 b1 _ _ O).2.elim id False.elim,(hw.own 1 b1 _ _ O).1⟩)
def Dh(x:W12):List (List Value):=(List.range 6).map λ(k:Nat)=>[I (k:Int),EV2 (p12 x k)]
theorem pC(x:W12):(Dh x).length=6:=by rw[Dh,List.length_map,List.length_range]
theorem vj(x:W12)(k:Nat)(h:k<6):(Dh x)[k]? =some [I (k:Int),EV2 (p12 x k)]:=by
 rw[Dh,List.getElem?_map,List.getElem?_range h];rfl
theorem Je(x:W12)(k:Nat)(v:List Value)(h:(Dh x)[k]? =some v):k<6/\v=[I (k:Int),EV2 (p12 x k)]:=by
 have hk:k<6:=by
  rcases Nat.lt_or_ge k 6 with hk|hk
  ·exact hk
  ·rw[List.getElem?_eq_none (by rw[pC];exact hk)]at h;cases h
 exact ⟨hk,(Option.some.inj ((vj x k hk).symm.trans h)).symm⟩
def MT(bb:Nat)(x:W12):Cls:=λw=>w.rangeAt bb 0 ((((fe (x.1.1).1++fe (x.1.1).2)++((fe (x.1.2.1).1++fe (x.1.2.1).2)++(fe (x.1.2.2).1++fe (x.1.2.2).2)))++((fe (x.2.1).1++fe (x.2.1).2)++((fe (x.2.2.1).1++fe (x.2.2.1).2)++(fe (x.2.2.2).1++fe (x.2.2.2).2)))).map U64)
theorem PJ(bb:Nat)(x:W12):fF prog Gt 272 [pnt bb] (Dh x) (MT bb x):=by
 intro l J Jx hJ hJx hRd hGx hY w hj;have okJ: ∀k,BOk Gt (Bi w (λY=>J Y k)):=λk=>⟨λ_ _ _ h=>(hRd _ _ _ h.rid).1,hJ k⟩;have okX: ∀k,BOk Gt (Bi w (λY=>Jx Y k)):=λk=>⟨λ_ _ _ h=>hGx _ _ _ h.rid,hJx k⟩;have c1: ∀k L w',Hp (Bi w (λY=>J Y k)) L w'->MT bb x w':=λk L w' h=>(hRd _ _ _ h.rid).2;refine cv (G:=Gt) func272 O O (Hp (Bi w (λY=>J Y 0)) []) (cj (Bi w _) hj (hJ 0)) (az (okJ 0))<|Xp<|cZ O isAgg211 sizeOf211 sm (λw h=>c1 _ _ w h) O O<|Ca O (LF _)<|Mv O<|aa<|ai<|gz (ι:={i:Nat // i<=6}) (λy=>[(0,.func (.yield l) #[] #[]),(1,pnt bb),(6,TV6 (p12 x)),(7,I (y.1:Int))]) (λy=>Bi w (λY=>J Y y.1)) (λy=>[]) (λy=>6-y.1) ⟨0,Nat.zero_le _⟩ (λ_=>okJ _) O trv trivial<|?_;rintro ⟨i,hi⟩;dsimp only;refine Xp<|Bnr O O (λ_=>aw _ _ _)<|aa<|ah<|?_;refine bD O (λhc=> ?_) (λhc=> ?_)
 ·have hi2:i<6:=by simp at hc;omega
  refine aq<|ah<|ai<|Xp<|Mv O<|Am (FF (p12 x)) (i) O O underlying283 sizeOf78 isAgg78 om om (a5 _) O O<|Al 4 (okJ _) zv78<|λb4=>Asg O<|Sa 4 (okJ _) O O O aX<|aa<|Xp<|Mv O<|Mv O<|La 4 O O aX<|?_;refine du (hY.b (k:=i) (vj x i om) w) (okJ _) (okX _) O O O O O ?_ ?_
  ·refine bp O (λ_=>a8 _) O O<|aa<|aD O<|aq<|Xq<|Bnr O O (λ_=>au _ _ _ oi)<|Mv O<|aa<|?_
   repeat (refine aO ?_)
   exact aC<|⟨rfl,⟨i+1,om⟩,_,by show 6-(i+1)<6-i;omega,rfl,trv,trivial⟩
  ·refine bp O (λ_=>a8 _) O O<|aa<|aT O<|am<|Rr<|?_
   repeat (first|refine dv ?_|refine cm ?_|refine dJ O ?_|refine bJ ?_|refine bK ?_)
   exact dp O (λw hw=>⟨⟨_,rfl⟩,.inr ⟨_,cb (hJx _) hw.rid⟩⟩)
 ·obtain rfl:i=6:=by simp at hc;omega
  refine aV ?_
  repeat (first|refine dv ?_|refine cm ?_|refine dJ O ?_|refine bJ ?_|refine bK ?_)
  refine cO O (λw hw=>⟨⟨_,rfl⟩,.inl ?_⟩);have:=cb (hJ _) hw.rid;rw[pC];exact this
end Q6
end
def SXB:L8:=[25#8,4#8,211#8,191#8,2#8,187#8,6#8,103#8,194#8,49#8,190#8,180#8,32#8,44#8,13#8,31#8,15#8,214#8,3#8,253#8,60#8,189#8,95#8,79#8,123#8,36#8,67#8,215#8,132#8,186#8,185#8,196#8,246#8,126#8,165#8,61#8,99#8,231#8,129#8,61#8,141#8,7#8,117#8,237#8,146#8,35#8,95#8,184#8]
def SRn:Nat:=3850754370037169011952147076051364057158807420970682438676050522613628423219637725072182697113062777891589506424760
theorem Jp:SXB.length=48:=rfl
theorem Ni:BN SXB 48=SRn:=by decide+kernel
theorem Qm:SRn<PP:=by decide+kernel
theorem O5:FV SXB=zp SRn:=by rw[FV,if_pos ⟨Jp,by rw[Ni];exact Qm⟩,Ni]
def SR:Zp:=zp SRn
theorem H5:CNn+SRn=PP:=by decide+kernel
theorem SR_a: -(zp CNn)=SR:=tL (by rw[SR,<-f8,H5,mt])
theorem SR_b: -SR=zp CNn:=tL (by rw[SR,<-f8,Nat.add_comm,H5,mt])
theorem Wq:((SR,-SR):W2)=GA:=by rw[Du,SR_a,SR_b]
theorem YV(n:Int):(n.tmod 12+12).tmod 12=(((n % 12).toNat:Nat):Int):=by
 have h:n.tmod 12=n % 12\/n.tmod 12=n % 12-12:=by
  rw[Int.tmod_eq_emod];split
  ·left;omega
  ·right;rfl
 have e:(n.tmod 12+12).tmod 12=(n.tmod 12+12) % 12:=by rw[Int.tmod_eq_emod_of_nonneg om]
 rw[e];omega
theorem E2(n:Int):inI (n.tmod 12+12):=by
 have h:n.tmod 12=n % 12\/n.tmod 12=n % 12-12:=by
  rw[Int.tmod_eq_emod];split
  ·left;omega
  ·right;rfl
 unfold inI;omega
section
open Go.RowKit
namespace Q6
attribute [local simp] a6 bj aH aB aP aZ aQ aI aM be bz a5 bv
attribute [local simp] pz cJ
theorem wY(e:Option Addr)(cap:Nat)(w:World)(hw:Gt w)(hby:BytesAt w e SXB):
 CLS 74 [.slice e SXB.length cap].toArray w (λr w'=>r=.returned (.tuple #[EV SR,.bool (FO SXB)])/\Grow w w'):=by
 have h:=ed e cap SXB w hw hby;rw[O5]at h;exact h
theorem T6{m:Nat}(h:m % 2=1)(y:W2)(k:Nat):frq y m k=ml2 (cj2 y) (pw2 (GV m) k):=by rw[frq,cjn,if_pos h]
theorem WE{m:Nat}(h: ¬m % 2=1)(y:W2)(k:Nat):frq y m k=ml2 y (pw2 (GV m) k):=by rw[frq,cjn,if_neg h]
theorem GV_s(i:Nat):GV (i+1)=ml2 (cj2 (GV i)) ((SR,-SR):W2):=by rw[Wq];rfl
theorem GS(n:Nat)(hn:n<=1000):PUR 255 [I (n:Int)] (EV2 (GV n)):=by
 intro w hw;refine Hf func255 O hw<|λhGF=>ae (E:=EE [1000022])<|Al 2 hGF zv78<|λb2=>aa<|ae (E:=EE [1000022])<|dU 8 SXB hGF O O O dc dc underlying22 sizeOf5 zeroValue5 O O<|λb8=>lR 8 O hGF O O underlying22 underlying5 O O<|Cc O ent74 (λw' hC hG=>wY _ _ w' hG (BytesAt.range (hC.own 8 b8 _ _ O).1.range))<|Mv O<|Ext O O<|Ext O O<|Al 3 hGF zv52<|λb3=>Sa 3 hGF O O O bN<|Asg O<|aa<|fH (E:=EE [1000022,2999999]) [0,1,2,3] [⟨4,5,78,(fe 0++fe 0).map U64⟩] [5] cT O kr kr kr kr kr kr dc (by intro x hx;simp only[List.mem_cons,List.not_mem_nil,or_false]at hx;subst hx;exact bE O zv78 O)<|La 3 O O bN<|La 3 O O bN<|Ca O (dZ _)<|co fS O O sm sm O O<|aa<|?_
 refine ⟨_,_,rfl,hGF,by intro x hx;simp only[List.mem_cons,List.not_mem_nil,or_false]at hx;subst hx;rfl,by intro x hx;simp only[List.mem_cons,List.not_mem_nil,or_false]at hx;subst hx;rfl,λadr=> ?_⟩
 refine Sa 5 hGF O O O aX<|aa<|ae (E:=EE [1000022])<|Ca O (sn)<|Al 6 hGF zv78<|λb6=>Sa 6 hGF O O O aX<|aa<|ah<|ae (E:=EE [1000022])<|Mv O<|Mv O<|aa<|ai<|bH (ι:={i:Nat // i<=n}) (λy=>[(0,I (n:Int)),(2,pnt b2),(3,pnt b3),(5,.pointer (some ⟨(adr 5),0,none⟩)),(6,pnt b6),(18,I (n:Int)),(19,I (y.1:Int))]) (λy=>[(2,b2,(fe 0++fe 0).map U64,78),(3,b3,(fe SR).map U64,52),(5,adr 5,(fe SR++fe (-SR)).map U64,78),(6,b6,(fe (GV y.1).1++fe (GV y.1).2).map U64,78)]) (λy=>n-y.1) ⟨0,Nat.zero_le _⟩ hGF trv trv<|?_;rintro ⟨i,hi⟩;dsimp only;refine ae (E:=EE [1000022])<|Bnr O O (λ_=>aw _ _ _)<|aa<|ah<|?_;refine bD O (λhc=> ?_) (λhc=> ?_)
 ·simp only[decide_eq_true_eq]at hc
  refine aq<|ah<|ai<|Xe [1000022]<|La 6 O O aX<|Ca O (nh _)<|La 5 O O aX<|Ca O (dH (cj2 (GV i)) ((SR,-SR):W2))<|Sa 6 hGF O O O aX<|aa<|bG (E:=EE [1000022])<|Bnr O O (λ_=>au _ _ _ oi)<|Mv O<|aa<|?_
  repeat (refine aO ?_)
  exact aC<|⟨rfl,⟨i+1,om⟩,_,by show n-(i+1)<n-i;omega,rfl,trv,⟨rfl,rfl,rfl,by rw[GV_s i];rfl,trivial⟩⟩
 ·obtain rfl:n=i:=by simp at hc;omega
  refine aV<|ae (E:=EE [1000022])<|La 6 O O aX<|Sa 2 hGF O O O aX<|aa<|am<|Rr<|?_;exact av 2 O O O isAgg78 sizeOf78 sm (λw hw=>⟨rfl,ac hw⟩)
theorem Ba(x:W12)(n:Int):PUR 217 [cB x,I n] (cB (qc x (n % 12).toNat)):=by
 intro w hw;have hGF:BOk Gt (pl w):=gt_low.plain hw;obtain ⟨m,hm⟩: ∃m:Nat,(n % 12).toNat=m:=⟨_,rfl⟩;have hm6:m<12:=om;rw[hm,z9];refine cw (G:=Gt) func217 O O (Hp (pl w) []) (cj (pl w) trivial ao) (az hGF)<|ae (E:=EE [256])<|Bx 2 hGF O<|λb2=>iF 3 hGF O O O<|λb3=>Al 4 hGF zv211<|λb4=>aa<|ae (E:=EE [256])<|cR 3 O O O isAgg3 O O<|Bnr (v:=I (n.tmod 12)) O O (λ_=>cS _ _ _ dc)<|Bnr (v:=I (n.tmod 12+12)) O O (λ_=>au _ _ _ (E2 n))<|Bnr (v:=I (m:Int)) O O (λ_=>(cS _ _ _ dc).trans (by rw[YV,hm]))<|dP 3 hGF O O O sizeOf3 O (by show 0<1;decide) O<|aa<|ae (E:=EE [256])<|cR 3 O O O isAgg3 O O<|Ca O (GS m om)<|Ca O (sn)<|Al 5 hGF zv78<|λb5=>Al 6 hGF zv78<|λb6=>Sa 5 hGF O O O aX<|Sa 6 hGF O O O aX<|aa<|ae (E:=EE [256])<|Al 7 hGF zv283<|λb7=>aa<|ah<|ae (E:=EE [256])<|La 2 O O gR<|?_
 refine dw O O ent256 O O (λw' hw'=>(rC x w' (hGF.g _ _ _ hw')).mono λe' w'' h=> ?_);obtain ⟨c1,rfl,hg,h1,ho⟩:=h;refine ⟨_,_,rfl,az hGF,hw'.news ao hg [(33,c1,(((fe (x.1.1).1++fe (x.1.1).2)++((fe (x.1.2.1).1++fe (x.1.2.1).2)++(fe (x.1.2.2).1++fe (x.1.2.2).2)))++((fe (x.2.1).1++fe (x.2.1).2)++((fe (x.2.2.1).1++fe (x.2.2.1).2)++(fe (x.2.2.2).1++fe (x.2.2.2).2)))).map U64,211)] ?_ bR, ?_⟩
 ·intro n' b' c' t' hl
  rcases aK hl with ⟨_,e⟩|⟨_,hl⟩
  ·cases e;exact ⟨h1,ho⟩
  ·cases hl
 clear hw' hg h1 ho;refine aa<|ai<|?_;refine fb (λ_=>pl w) (λ_ _=>pl w) (λ_=>hGF) (λ_ _=>hGF) (λ_=>rfl) (λ_ _=>rfl) O O ent272 (PJ c1 x) (λv hv=>by obtain ⟨k,hk,rfl⟩:=List.mem_map.1 hv;rfl) O (λk=>[(2,b2,(((fe (x.1.1).1++fe (x.1.1).2)++((fe (x.1.2.1).1++fe (x.1.2.1).2)++(fe (x.1.2.2).1++fe (x.1.2.2).2)))++((fe (x.2.1).1++fe (x.2.1).2)++((fe (x.2.2.1).1++fe (x.2.2.1).2)++(fe (x.2.2.2).1++fe (x.2.2.2).2)))).map U64,211),(3,b3,[I (m:Int)],3),(4,b4,(((fe 0++fe 0)++((fe 0++fe 0)++(fe 0++fe 0)))++((fe 0++fe 0)++((fe 0++fe 0)++(fe 0++fe 0)))).map U64,211),(5,b5,(fe (GV m).1++fe (GV m).2).map U64,78),(6,b6,(fe (pw2 (GV m) k).1++fe (pw2 (GV m) k).2).map U64,78),(7,b7,(FM (FF (λj=>if j<k then frq (p12 x j) m j else ze2)) 6).map U64,283),(33,c1,(((fe (x.1.1).1++fe (x.1.1).2)++((fe (x.1.2.1).1++fe (x.1.2.1).2)++(fe (x.1.2.2).1++fe (x.1.2.2).2)))++((fe (x.2.1).1++fe (x.2.1).2)++((fe (x.2.2.1).1++fe (x.2.2.1).2)++(fe (x.2.2.2).1++fe (x.2.2.2).2)))).map U64,211)]) (λ_ _ _=>False) ⟨rfl,rfl,rfl,rfl,rfl,congrArg (λl=>some (b7,l,_)) (congrArg (List.map U64) (w8 λj _=>(if_neg (Nat.not_lt_zero j)).symm)),rfl,trivial⟩ (λk _ w' h=>aJ (n:=33) O w' h) ?_ ?_ (λ_ _ _ _ _ h=>h.elim)
 ·intro k v hx R hR
  obtain ⟨hk,rfl⟩:=Je x k v hx;refine ae (E:=EE [256])<|Asg O<|aa<|bG (E:=EE [256])<|dN 9 (hR (pl w) O hGF).1 zv78 O O<|λb9=>aA 9 (hR (pl w) O hGF).1 O O O sizeOf78 sm sm (bc _) O<|aa<|?_;refine ⟨rfl,_,rfl, ?_⟩;refine ai<|ah<|ae (E:=EE [256])<|cR 3 O O O isAgg3 O O<|Bnr (v:=I ((m % 2:Nat):Int)) O O (λ_=>cS _ _ _ dc)<|Bnr O O (λ_=>dO _ _ _)<|aa<|?_;refine bD O (λhc=> ?_) (λhc=> ?_)
  ·have hp:m % 2=1:=by simp at hc;omega
   refine bG (E:=EE [256])<|La 9 O O aX<|Ca O (nh _)<|aA 9 (hR (pl w) O hGF).2.1 O O O sizeOf78 sm sm (bc _) O<|aa<|ae (E:=EE [256])<|Mv O<|La 9 O O aX<|La 6 O O aX<|Ca O (dH _ _)<|fC (k) (12*(k)) O O underlying283 sizeOf78 om om om O O<|lp 7 ((FM (FF (λj=>if j<k+1 then frq (p12 x j) m j else ze2)) 6).map U64) (hR (pl w) O hGF).2.1 O O O sizeOf78 sm (bc _) (by simp;omega) (tZ _ _ (ml2 (cj2 (p12 x k)) (pw2 (GV m) k)) 6 (k) _ om O (λj _=>by rw[<-T6 hp];exact xD (λj=>frq (p12 x j) m j) (λ_=>ze2) k j)) O<|aa<|bG (E:=EE [256])<|La 6 O O aX<|La 5 O O aX<|Ca O (dH _ _)<|aA 6 (hR (pl w) O hGF).2.1 O O O sizeOf78 sm sm (bc _) O<|aa<|?_
   repeat (refine aO ?_)
   exact ⟨_,rfl,trv⟩
  ·have hp: ¬m % 2=1:=by simp at hc;omega
   refine aq<|ae (E:=EE [256])<|Mv O<|La 9 O O aX<|La 6 O O aX<|Ca O (dH _ _)<|fC (k) (12*(k)) O O underlying283 sizeOf78 om om om O O<|lp 7 ((FM (FF (λj=>if j<k+1 then frq (p12 x j) m j else ze2)) 6).map U64) (hR (pl w) O hGF).2.1 O O O sizeOf78 sm (bc _) (by simp;omega) (tZ _ _ (ml2 (p12 x k) (pw2 (GV m) k)) 6 (k) _ om O (λj _=>by rw[<-WE hp];exact xD (λj=>frq (p12 x j) m j) (λ_=>ze2) k j)) O<|aa<|bG (E:=EE [256])<|La 6 O O aX<|La 5 O O aX<|Ca O (dH _ _)<|aA 6 (hR (pl w) O hGF).2.1 O O O sizeOf78 sm sm (bc _) O<|aa<|?_
   repeat (refine aO ?_)
   exact ⟨_,rfl,trv⟩
 ·intro D hD
  rw[pC];refine ae (E:=EE [256])<|La 7 O O L9<|Ca O (Wg _)<|Sa 4 hD O O O gR<|aa<|am<|Rr<|?_;exact dR (.inl O) ao (av 4 O O O isAgg211 sizeOf211 sm (λw hw=>⟨e12 O O,ac hw⟩))
end Q6
end
section
open Go.RowKit
attribute [local simp] a6 bj aH aB aP aZ aQ aI aM be bz a5 bv J1.bB J2.bB Q6.gc
theorem ent219:ak prog 219:=λ_ _=>kr
theorem ent216:ak prog 216:=λ_ _=>kr
theorem ent194:ak prog 194:=λ_ _=>kr
theorem ent193:ak prog 193:=λ_ _=>kr
theorem ent111:ak prog 111:=λ_ _=>kr
namespace Q6
def pwu(u:Nat)(x:W12):W12:=K12.pw x u
theorem YS(x:W12):PUR 219 [cB x] (cB (pwu UG x)):=by
 intro w hw;have hGF:BOk Gt (pl w):=gt_low.plain hw;refine cw (G:=Gt) func219 O O (Hp (pl w) []) (cj (pl w) trivial ao) (az hGF)<|Xp<|Bx 1 hGF O<|λb1=>Al 2 hGF zv211<|λb2=>aa<|Xp<|La 1 O O gR<|Al 3 hGF zv211<|λb3=>Sa 3 hGF O O O gR<|aa<|ah<|Xp<|Ca O (ES)<|aa<|ai<|?_;refine fb (λ_=>pl w) (λ_ _=>pl w) (λ_=>hGF) (λ_ _=>hGF) (λ_=>rfl) (λ_ _=>rfl) O O ent222 vQ (λx hx=>by obtain ⟨k,hk,rfl⟩:=List.mem_map.1 hx;rfl) O (λk=>[(1,b1,rM x,211),(2,b2,(((fe 0++fe 0)++((fe 0++fe 0)++(fe 0++fe 0)))++((fe 0++fe 0)++((fe 0++fe 0)++(fe 0++fe 0)))).map U64,211),(3,b3,rM (pwD x k),211)]) (λ_ _ _=>False) ⟨rfl,rfl,by rw[show pwD x 0=x from K12.pw_one x];rfl,trivial⟩ (λ_ _ _ _=>trivial) ?_ ?_ (λ_ _ _ _ _ h=>h.elim)
 ·intro k v hx R hR
  obtain ⟨hk,rfl⟩:=H7 hx;refine Xq<|Asg O<|aa<|?_;refine ⟨rfl,_,rfl, ?_⟩;refine ai<|Xp<|La 3 O O gR<|Ca O (nL _)<|aA 3 (hR (pl w) O hGF).2.1 O O O sizeOf211 sm sm (bc _) O<|aa<|Xp<|Mv O<|aa<|?_;refine bD O (λhc=> ?_) (λhc=> ?_)
  ·have hd:DGb k=true:=by simpa using hc
   refine Xq<|La 3 O O gR<|La 1 O O gR<|Ca O (DL _ _)<|aA 3 (hR (pl w) O hGF).2.1 O O O sizeOf211 sm sm (bc _) O<|aa<|?_
   repeat (first|refine aO ?_|refine cm ?_)
   exact ⟨_,rfl,⟨rfl,rfl,by first|(rw[<-M9 x hk hd];rfl)|(rw[<-Od x hk hd];rfl),trivial⟩⟩
  ·have hd:DGb k=false:=by simpa using hc
   refine aq ?_
   repeat (first|refine aO ?_|refine cm ?_)
   exact ⟨_,rfl,⟨rfl,rfl,by first|(rw[<-M9 x hk hd];rfl)|(rw[<-Od x hk hd];rfl),trivial⟩⟩
 ·intro D hD
  rw[o7];refine Xp<|La 3 O O gR<|Sa 2 hD O O O gR<|aa<|am<|Rr<|?_;exact dR (.inl O) ao (av 2 O O O isAgg211 sizeOf211 sm (λw hw=>⟨by rw[pwu,<-Qz],ac hw⟩))
abbrev HF(f:W12->W12):Prop:= ∀x,PUR 219 [cB x] (cB (f x))
def agI(m:Nat):Ag Unit where
 of:=λv=>match v with
  | .inr (.inr (.inl (.int .i64 (.ofNat n))))=>bif Nat.beq n m then some ()else none
  |_=>none
 dn:=λ_=>I (m:Int)
 ok:=λv x r h=>by
  split at h
  ·rename_i n
   obtain ⟨h1,h⟩:=fu h;show Value.int .i64 (Int.ofNat n)=I (m:Int);rw[Nat.eq_of_beq_eq_true h1];rfl
  ·cases h
theorem Td(x:W12):PUR 217 [cB x,I 1] (cB (d8 x)):=Ba x 1
theorem OP(x:W12):PUR 217 [cB x,I 2] (cB (d8 (d8 x))):=Ba x 2
theorem wfr{f:Nat}{g:W12->W12}(m:Nat)(en:ak prog f)(h: ∀a,PUR f [cB a,I (m:Int)] (cB (g a))):Snd prog Gt f (c2 q12.ag (agI m) q12.rd (λa _=>g a)):=gu q12.ag (agI m) q12.rd en (λa _=>bU (l2 (V12 _).symm O) (V12 _).symm (h a))
def XT{f:W12->W12}(hf:HF f):Tb prog Gt:=TO224.add (ej (g:=f) ent219 hf)
def Ul{f:W12->W12}(hf:HF f):Tb prog Gt:=(XT hf).add (wfr (g:=d8) 1 ent217 Td)
def N3{f:W12->W12}(hf:HF f):Tb prog Gt:=(Ul hf).add (wfr (g:=λx=>d8 (d8 x)) 2 ent217 OP)
theorem PG{α β:Type}(p:α×β):(p.1,p.2)=p:=by cases p;rfl
def pva(f:W12->W12)(x:W12):W12:=K12.mul (f x) x
def pez(x:W12):W12:=fi2 (fi1 x)
def ph1(f:W12->W12)(x:W12):W12:=K12.mul (d8 x) (da (f x))
def ph2(f:W12->W12)(x:W12):W12:=K12.mul (K12.mul (f (f x)) (d8 (d8 x))) (da x)
def phd(f:W12->W12)(x:W12):W12:=K12.mul (K12.mul (ph2 f (ph1 f (pva f (pva f x)))) (K12.mul x x)) x
theorem Rx{p6:Nat}(h6: ∀x,da x=K12.pw x p6)(x:W12)(u:Nat):da (K12.pw x u)=K12.pw (da x) u:=by rw[h6,h6,<-K12.pw_mul,<-K12.pw_mul,Nat.mul_comm]
theorem Nq(x:W12)(u:Nat):da (K12.pw x u)=K12.pw (da x) u:=Rx (λx=>(D0 x).symm) x u
theorem E6(u:Nat)(x:W12):fi3 u x=da (pva (pwu u) x):=by rw[fi3,tnd,<-xg,pva,pwu]
theorem QG(u:Nat)(x:W12):pva (pwu u) (da x)=da (pva (pwu u) x):=by rw[pva,pva,pwu,pwu,<-Nq,<-xg]
theorem Vz(u:Nat)(x:W12):pva (pwu u) (pva (pwu u) x)=fi3 u (fi3 u x):=by rw[E6,E6,QG,zV]
theorem Py(u:Nat)(x:W12):ph1 (pwu u) x=fi4 u x:=by rw[ph1,fi4,tnd,pwu];exact K12.mul_comm _ _
theorem Qc(u:Nat)(x:W12):ph2 (pwu u) x=fi5 u x:=by rw[ph2,fi5,tnd,tnd,<-Nq,zV,pwu,pwu]
theorem Qf(u:Nat)(x:W12):phd (pwu u) x=fi6 u x:=by
 rw[phd,Vz,Py,Qc];show K12.mul (K12.mul _ (K12.mul _ _)) _=K12.mul (K12.mul (K12.mul _ _) _) _;rw[<-K12.mul_assoc]
theorem Ps(u:Nat)(x:W12):xI u x=phd (pwu u) (pez x):=by rw[xI,Qf,pez]
def iG(f:W12->W12)(x:W12):W12:=
 let t0:=f x
 let t1:=K12.mul (((t0.1.1.1,t0.1.1.2),(t0.1.2.1.1,t0.1.2.1.2),(t0.1.2.2.1,t0.1.2.2.2)),((t0.2.1.1,t0.2.1.2),(t0.2.2.1.1,t0.2.2.1.2),(t0.2.2.2.1,t0.2.2.2.2))) x
 t1
theorem FY(f:W12->W12)(x:W12):iG f x=pva f x:=by
 unfold iG;simp only[PG];rfl
theorem UN{f:W12->W12}(hf:HF f)(x:W12):PUR 216 [cB x] (cB (iG f x)):=(bU (l1 (V12 _)) (V12 _) (pE (N3 hf) func216 [.inl [x.1.1.1,x.1.1.2,x.1.2.1.1,x.1.2.1.2,x.1.2.2.1,x.1.2.2.2,x.2.1.1,x.2.1.2,x.2.2.1.1,x.2.2.1.2,x.2.2.2.1,x.2.2.2.2]] (.inl (.inl [(iG f x).1.1.1,(iG f x).1.1.2,(iG f x).1.2.1.1,(iG f x).1.2.1.2,(iG f x).1.2.2.1,(iG f x).1.2.2.2,(iG f x).2.1.1,(iG f x).2.1.2,(iG f x).2.2.1.1,(iG f x).2.2.1.2,(iG f x).2.2.2.1,(iG f x).2.2.2.2])) (let t0:=f x;let t1:=K12.mul (((t0.1.1.1,t0.1.1.2),(t0.1.2.1.1,t0.1.2.1.2),(t0.1.2.2.1,t0.1.2.2.2)),((t0.2.1.1,t0.2.1.2),(t0.2.2.1.1,t0.2.2.1.2),(t0.2.2.2.1,t0.2.2.2.2))) x;(.inl (.inl [t1.1.1.1,t1.1.1.2,t1.1.2.1.1,t1.1.2.1.2,t1.1.2.2.1,t1.1.2.2.2,t1.2.1.1,t1.2.1.2,t1.2.2.1.1,t1.2.2.1.2,t1.2.2.2.1,t1.2.2.2.2]),[])) [] kr aE kr))
theorem ppva{f:W12->W12}(hf:HF f)(x:W12):PUR 216 [cB x] (cB (pva f x)):=by rw[<-FY];exact UN hf x
def MX{f:W12->W12}(hf:HF f):Tb prog Gt:=(N3 hf).add (ej (g:=pva f) ent216 (ppva hf))
def iI(x:W12):W12:=
 let t0:=da x
 let t1:=re x
 let t2:=K12.mul (((t0.1.1.1,t0.1.1.2),(t0.1.2.1.1,t0.1.2.1.2),(t0.1.2.2.1,t0.1.2.2.2)),((t0.2.1.1,t0.2.1.2),(t0.2.2.1.1,t0.2.2.1.2),(t0.2.2.2.1,t0.2.2.2.2))) (((t1.1.1.1,t1.1.1.2),(t1.1.2.1.1,t1.1.2.1.2),(t1.1.2.2.1,t1.1.2.2.2)),((t1.2.1.1,t1.2.1.2),(t1.2.2.1.1,t1.2.2.1.2),(t1.2.2.2.1,t1.2.2.2.2)))
 let t3:=d8 (d8 (((t2.1.1.1,t2.1.1.2),(t2.1.2.1.1,t2.1.2.1.2),(t2.1.2.2.1,t2.1.2.2.2)),((t2.2.1.1,t2.2.1.2),(t2.2.2.1.1,t2.2.2.1.2),(t2.2.2.2.1,t2.2.2.2.2))))
 let t4:=K12.mul (((t3.1.1.1,t3.1.1.2),(t3.1.2.1.1,t3.1.2.1.2),(t3.1.2.2.1,t3.1.2.2.2)),((t3.2.1.1,t3.2.1.2),(t3.2.2.1.1,t3.2.2.1.2),(t3.2.2.2.1,t3.2.2.2.2))) (((t2.1.1.1,t2.1.1.2),(t2.1.2.1.1,t2.1.2.1.2),(t2.1.2.2.1,t2.1.2.2.2)),((t2.2.1.1,t2.2.1.2),(t2.2.2.1.1,t2.2.2.1.2),(t2.2.2.2.1,t2.2.2.2.2)))
 t4
theorem DA(x:W12):iI x=pez x:=by
 unfold iI;simp only[PG];rfl
theorem Yw{f:W12->W12}(hf:HF f)(x:W12):PUR 194 [cB x] (cB (iI x)):=(bU (l1 (V12 _)) (V12 _) (pE (MX hf) func194 [.inl [x.1.1.1,x.1.1.2,x.1.2.1.1,x.1.2.1.2,x.1.2.2.1,x.1.2.2.2,x.2.1.1,x.2.1.2,x.2.2.1.1,x.2.2.1.2,x.2.2.2.1,x.2.2.2.2]] (.inl (.inl [(iI x).1.1.1,(iI x).1.1.2,(iI x).1.2.1.1,(iI x).1.2.1.2,(iI x).1.2.2.1,(iI x).1.2.2.2,(iI x).2.1.1,(iI x).2.1.2,(iI x).2.2.1.1,(iI x).2.2.1.2,(iI x).2.2.2.1,(iI x).2.2.2.2])) (let t0:=da x;let t1:=re x;let t2:=K12.mul (((t0.1.1.1,t0.1.1.2),(t0.1.2.1.1,t0.1.2.1.2),(t0.1.2.2.1,t0.1.2.2.2)),((t0.2.1.1,t0.2.1.2),(t0.2.2.1.1,t0.2.2.1.2),(t0.2.2.2.1,t0.2.2.2.2))) (((t1.1.1.1,t1.1.1.2),(t1.1.2.1.1,t1.1.2.1.2),(t1.1.2.2.1,t1.1.2.2.2)),((t1.2.1.1,t1.2.1.2),(t1.2.2.1.1,t1.2.2.1.2),(t1.2.2.2.1,t1.2.2.2.2)));let t3:=d8 (d8 (((t2.1.1.1,t2.1.1.2),(t2.1.2.1.1,t2.1.2.1.2),(t2.1.2.2.1,t2.1.2.2.2)),((t2.2.1.1,t2.2.1.2),(t2.2.2.1.1,t2.2.2.1.2),(t2.2.2.2.1,t2.2.2.2.2))));let t4:=K12.mul (((t3.1.1.1,t3.1.1.2),(t3.1.2.1.1,t3.1.2.1.2),(t3.1.2.2.1,t3.1.2.2.2)),((t3.2.1.1,t3.2.1.2),(t3.2.2.1.1,t3.2.2.1.2),(t3.2.2.2.1,t3.2.2.2.2))) (((t2.1.1.1,t2.1.1.2),(t2.1.2.1.1,t2.1.2.1.2),(t2.1.2.2.1,t2.1.2.2.2)),((t2.2.1.1,t2.2.1.2),(t2.2.2.1.1,t2.2.2.1.2),(t2.2.2.2.1,t2.2.2.2.2)));(.inl (.inl [t4.1.1.1,t4.1.1.2,t4.1.2.1.1,t4.1.2.1.2,t4.1.2.2.1,t4.1.2.2.2,t4.2.1.1,t4.2.1.2,t4.2.2.1.1,t4.2.2.1.2,t4.2.2.2.1,t4.2.2.2.2]),[])) [] kr aE kr))
theorem ppez{f:W12->W12}(hf:HF f)(x:W12):PUR 194 [cB x] (cB (pez x)):=by rw[<-DA];exact Yw hf x
def N5{f:W12->W12}(hf:HF f):Tb prog Gt:=(MX hf).add (ej (g:=pez) ent194 (ppez hf))
def iN(f:W12->W12)(x:W12):W12:=
 let t0:=pva f x
 let t1:=pva f (((t0.1.1.1,t0.1.1.2),(t0.1.2.1.1,t0.1.2.1.2),(t0.1.2.2.1,t0.1.2.2.2)),((t0.2.1.1,t0.2.1.2),(t0.2.2.1.1,t0.2.2.1.2),(t0.2.2.2.1,t0.2.2.2.2)))
 let t2:=d8 (((t1.1.1.1,t1.1.1.2),(t1.1.2.1.1,t1.1.2.1.2),(t1.1.2.2.1,t1.1.2.2.2)),((t1.2.1.1,t1.2.1.2),(t1.2.2.1.1,t1.2.2.1.2),(t1.2.2.2.1,t1.2.2.2.2)))
 let t3:=f (((t1.1.1.1,t1.1.1.2),(t1.1.2.1.1,t1.1.2.1.2),(t1.1.2.2.1,t1.1.2.2.2)),((t1.2.1.1,t1.2.1.2),(t1.2.2.1.1,t1.2.2.1.2),(t1.2.2.2.1,t1.2.2.2.2)))
 let t4:=da (((t3.1.1.1,t3.1.1.2),(t3.1.2.1.1,t3.1.2.1.2),(t3.1.2.2.1,t3.1.2.2.2)),((t3.2.1.1,t3.2.1.2),(t3.2.2.1.1,t3.2.2.1.2),(t3.2.2.2.1,t3.2.2.2.2)))
 let t5:=K12.mul (((t2.1.1.1,t2.1.1.2),(t2.1.2.1.1,t2.1.2.1.2),(t2.1.2.2.1,t2.1.2.2.2)),((t2.2.1.1,t2.2.1.2),(t2.2.2.1.1,t2.2.2.1.2),(t2.2.2.2.1,t2.2.2.2.2))) (((t4.1.1.1,t4.1.1.2),(t4.1.2.1.1,t4.1.2.1.2),(t4.1.2.2.1,t4.1.2.2.2)),((t4.2.1.1,t4.2.1.2),(t4.2.2.1.1,t4.2.2.1.2),(t4.2.2.2.1,t4.2.2.2.2)))
 let t6:=f (((t5.1.1.1,t5.1.1.2),(t5.1.2.1.1,t5.1.2.1.2),(t5.1.2.2.1,t5.1.2.2.2)),((t5.2.1.1,t5.2.1.2),(t5.2.2.1.1,t5.2.2.1.2),(t5.2.2.2.1,t5.2.2.2.2)))
 let t7:=f (((t6.1.1.1,t6.1.1.2),(t6.1.2.1.1,t6.1.2.1.2),(t6.1.2.2.1,t6.1.2.2.2)),((t6.2.1.1,t6.2.1.2),(t6.2.2.1.1,t6.2.2.1.2),(t6.2.2.2.1,t6.2.2.2.2)))
 let t8:=d8 (d8 (((t5.1.1.1,t5.1.1.2),(t5.1.2.1.1,t5.1.2.1.2),(t5.1.2.2.1,t5.1.2.2.2)),((t5.2.1.1,t5.2.1.2),(t5.2.2.1.1,t5.2.2.1.2),(t5.2.2.2.1,t5.2.2.2.2))))
 let t9:=K12.mul (((t7.1.1.1,t7.1.1.2),(t7.1.2.1.1,t7.1.2.1.2),(t7.1.2.2.1,t7.1.2.2.2)),((t7.2.1.1,t7.2.1.2),(t7.2.2.1.1,t7.2.2.1.2),(t7.2.2.2.1,t7.2.2.2.2))) (((t8.1.1.1,t8.1.1.2),(t8.1.2.1.1,t8.1.2.1.2),(t8.1.2.2.1,t8.1.2.2.2)),((t8.2.1.1,t8.2.1.2),(t8.2.2.1.1,t8.2.2.1.2),(t8.2.2.2.1,t8.2.2.2.2)))
 let t10:=da (((t5.1.1.1,t5.1.1.2),(t5.1.2.1.1,t5.1.2.1.2),(t5.1.2.2.1,t5.1.2.2.2)),((t5.2.1.1,t5.2.1.2),(t5.2.2.1.1,t5.2.2.1.2),(t5.2.2.2.1,t5.2.2.2.2)))
 let t11:=K12.mul (((t9.1.1.1,t9.1.1.2),(t9.1.2.1.1,t9.1.2.1.2),(t9.1.2.2.1,t9.1.2.2.2)),((t9.2.1.1,t9.2.1.2),(t9.2.2.1.1,t9.2.2.1.2),(t9.2.2.2.1,t9.2.2.2.2))) (((t10.1.1.1,t10.1.1.2),(t10.1.2.1.1,t10.1.2.1.2),(t10.1.2.2.1,t10.1.2.2.2)),((t10.2.1.1,t10.2.1.2),(t10.2.2.1.1,t10.2.2.1.2),(t10.2.2.2.1,t10.2.2.2.2)))
 let t12:=K12.mul x x
 let t13:=K12.mul (((t11.1.1.1,t11.1.1.2),(t11.1.2.1.1,t11.1.2.1.2),(t11.1.2.2.1,t11.1.2.2.2)),((t11.2.1.1,t11.2.1.2),(t11.2.2.1.1,t11.2.2.1.2),(t11.2.2.2.1,t11.2.2.2.2))) (((t12.1.1.1,t12.1.1.2),(t12.1.2.1.1,t12.1.2.1.2),(t12.1.2.2.1,t12.1.2.2.2)),((t12.2.1.1,t12.2.1.2),(t12.2.2.1.1,t12.2.2.1.2),(t12.2.2.2.1,t12.2.2.2.2)))
 let t14:=K12.mul (((t13.1.1.1,t13.1.1.2),(t13.1.2.1.1,t13.1.2.1.2),(t13.1.2.2.1,t13.1.2.2.2)),((t13.2.1.1,t13.2.1.2),(t13.2.2.1.1,t13.2.2.1.2),(t13.2.2.2.1,t13.2.2.2.2))) x
 t14
theorem D8(f:W12->W12)(x:W12):iN f x=phd f x:=by
 unfold iN;simp only[PG];rfl
theorem Yq{f:W12->W12}(hf:HF f)(x:W12):PUR 193 [cB x] (cB (iN f x)):=(bU (l1 (V12 _)) (V12 _) (pE (N5 hf) func193 [.inl [x.1.1.1,x.1.1.2,x.1.2.1.1,x.1.2.1.2,x.1.2.2.1,x.1.2.2.2,x.2.1.1,x.2.1.2,x.2.2.1.1,x.2.2.1.2,x.2.2.2.1,x.2.2.2.2]] (.inl (.inl [(iN f x).1.1.1,(iN f x).1.1.2,(iN f x).1.2.1.1,(iN f x).1.2.1.2,(iN f x).1.2.2.1,(iN f x).1.2.2.2,(iN f x).2.1.1,(iN f x).2.1.2,(iN f x).2.2.1.1,(iN f x).2.2.1.2,(iN f x).2.2.2.1,(iN f x).2.2.2.2])) (let t0:=pva f x;let t1:=pva f (((t0.1.1.1,t0.1.1.2),(t0.1.2.1.1,t0.1.2.1.2),(t0.1.2.2.1,t0.1.2.2.2)),((t0.2.1.1,t0.2.1.2),(t0.2.2.1.1,t0.2.2.1.2),(t0.2.2.2.1,t0.2.2.2.2)));let t2:=d8 (((t1.1.1.1,t1.1.1.2),(t1.1.2.1.1,t1.1.2.1.2),(t1.1.2.2.1,t1.1.2.2.2)),((t1.2.1.1,t1.2.1.2),(t1.2.2.1.1,t1.2.2.1.2),(t1.2.2.2.1,t1.2.2.2.2)));let t3:=f (((t1.1.1.1,t1.1.1.2),(t1.1.2.1.1,t1.1.2.1.2),(t1.1.2.2.1,t1.1.2.2.2)),((t1.2.1.1,t1.2.1.2),(t1.2.2.1.1,t1.2.2.1.2),(t1.2.2.2.1,t1.2.2.2.2)));let t4:=da (((t3.1.1.1,t3.1.1.2),(t3.1.2.1.1,t3.1.2.1.2),(t3.1.2.2.1,t3.1.2.2.2)),((t3.2.1.1,t3.2.1.2),(t3.2.2.1.1,t3.2.2.1.2),(t3.2.2.2.1,t3.2.2.2.2)));let t5:=K12.mul (((t2.1.1.1,t2.1.1.2),(t2.1.2.1.1,t2.1.2.1.2),(t2.1.2.2.1,t2.1.2.2.2)),((t2.2.1.1,t2.2.1.2),(t2.2.2.1.1,t2.2.2.1.2),(t2.2.2.2.1,t2.2.2.2.2))) (((t4.1.1.1,t4.1.1.2),(t4.1.2.1.1,t4.1.2.1.2),(t4.1.2.2.1,t4.1.2.2.2)),((t4.2.1.1,t4.2.1.2),(t4.2.2.1.1,t4.2.2.1.2),(t4.2.2.2.1,t4.2.2.2.2)));let t6:=f (((t5.1.1.1,t5.1.1.2),(t5.1.2.1.1,t5.1.2.1.2),(t5.1.2.2.1,t5.1.2.2.2)),((t5.2.1.1,t5.2.1.2),(t5.2.2.1.1,t5.2.2.1.2),(t5.2.2.2.1,t5.2.2.2.2)));let t7:=f (((t6.1.1.1,t6.1.1.2),(t6.1.2.1.1,t6.1.2.1.2),(t6.1.2.2.1,t6.1.2.2.2)),((t6.2.1.1,t6.2.1.2),(t6.2.2.1.1,t6.2.2.1.2),(t6.2.2.2.1,t6.2.2.2.2)));let t8:=d8 (d8 (((t5.1.1.1,t5.1.1.2),(t5.1.2.1.1,t5.1.2.1.2),(t5.1.2.2.1,t5.1.2.2.2)),((t5.2.1.1,t5.2.1.2),(t5.2.2.1.1,t5.2.2.1.2),(t5.2.2.2.1,t5.2.2.2.2))));let t9:=K12.mul (((t7.1.1.1,t7.1.1.2),(t7.1.2.1.1,t7.1.2.1.2),(t7.1.2.2.1,t7.1.2.2.2)),((t7.2.1.1,t7.2.1.2),(t7.2.2.1.1,t7.2.2.1.2),(t7.2.2.2.1,t7.2.2.2.2))) (((t8.1.1.1,t8.1.1.2),(t8.1.2.1.1,t8.1.2.1.2),(t8.1.2.2.1,t8.1.2.2.2)),((t8.2.1.1,t8.2.1.2),(t8.2.2.1.1,t8.2.2.1.2),(t8.2.2.2.1,t8.2.2.2.2)));let t10:=da (((t5.1.1.1,t5.1.1.2),(t5.1.2.1.1,t5.1.2.1.2),(t5.1.2.2.1,t5.1.2.2.2)),((t5.2.1.1,t5.2.1.2),(t5.2.2.1.1,t5.2.2.1.2),(t5.2.2.2.1,t5.2.2.2.2)));let t11:=K12.mul (((t9.1.1.1,t9.1.1.2),(t9.1.2.1.1,t9.1.2.1.2),(t9.1.2.2.1,t9.1.2.2.2)),((t9.2.1.1,t9.2.1.2),(t9.2.2.1.1,t9.2.2.1.2),(t9.2.2.2.1,t9.2.2.2.2))) (((t10.1.1.1,t10.1.1.2),(t10.1.2.1.1,t10.1.2.1.2),(t10.1.2.2.1,t10.1.2.2.2)),((t10.2.1.1,t10.2.1.2),(t10.2.2.1.1,t10.2.2.1.2),(t10.2.2.2.1,t10.2.2.2.2)));let t12:=K12.mul x x;let t13:=K12.mul (((t11.1.1.1,t11.1.1.2),(t11.1.2.1.1,t11.1.2.1.2),(t11.1.2.2.1,t11.1.2.2.2)),((t11.2.1.1,t11.2.1.2),(t11.2.2.1.1,t11.2.2.1.2),(t11.2.2.2.1,t11.2.2.2.2))) (((t12.1.1.1,t12.1.1.2),(t12.1.2.1.1,t12.1.2.1.2),(t12.1.2.2.1,t12.1.2.2.2)),((t12.2.1.1,t12.2.1.2),(t12.2.2.1.1,t12.2.2.1.2),(t12.2.2.2.1,t12.2.2.2.2)));let t14:=K12.mul (((t13.1.1.1,t13.1.1.2),(t13.1.2.1.1,t13.1.2.1.2),(t13.1.2.2.1,t13.1.2.2.2)),((t13.2.1.1,t13.2.1.2),(t13.2.2.1.1,t13.2.2.1.2),(t13.2.2.2.1,t13.2.2.2.2))) x;(.inl (.inl [t14.1.1.1,t14.1.1.2,t14.1.2.1.1,t14.1.2.1.2,t14.1.2.2.1,t14.1.2.2.2,t14.2.1.1,t14.2.1.2,t14.2.2.1.1,t14.2.2.1.2,t14.2.2.2.1,t14.2.2.2.2]),[])) [] kr aE kr))
theorem pphd{f:W12->W12}(hf:HF f)(x:W12):PUR 193 [cB x] (cB (phd f x)):=by rw[<-D8];exact Yq hf x
def VP{f:W12->W12}(hf:HF f):Tb prog Gt:=(N5 hf).add (ej (g:=phd f) ent193 (pphd hf))
theorem Ls{f:W12->W12}(hf:HF f)(x:W12):PUR 162 [cB x] (cB (phd f (pez x))):=(bU (l1 (V12 _)) (V12 _) (pE (VP hf) func162 [.inl [x.1.1.1,x.1.1.2,x.1.2.1.1,x.1.2.1.2,x.1.2.2.1,x.1.2.2.2,x.2.1.1,x.2.1.2,x.2.2.1.1,x.2.2.1.2,x.2.2.2.1,x.2.2.2.2]] (.inl (.inl [(phd f (pez x)).1.1.1,(phd f (pez x)).1.1.2,(phd f (pez x)).1.2.1.1,(phd f (pez x)).1.2.1.2,(phd f (pez x)).1.2.2.1,(phd f (pez x)).1.2.2.2,(phd f (pez x)).2.1.1,(phd f (pez x)).2.1.2,(phd f (pez x)).2.2.1.1,(phd f (pez x)).2.2.1.2,(phd f (pez x)).2.2.2.1,(phd f (pez x)).2.2.2.2])) (let t0:=pez x;let t1:=phd f (((t0.1.1.1,t0.1.1.2),(t0.1.2.1.1,t0.1.2.1.2),(t0.1.2.2.1,t0.1.2.2.2)),((t0.2.1.1,t0.2.1.2),(t0.2.2.1.1,t0.2.2.1.2),(t0.2.2.2.1,t0.2.2.2.2)));(.inl (.inl [t1.1.1.1,t1.1.1.2,t1.1.2.1.1,t1.1.2.1.2,t1.1.2.2.1,t1.1.2.2.2,t1.2.1.1,t1.2.1.2,t1.2.2.1.1,t1.2.2.1.2,t1.2.2.2.1,t1.2.2.2.2]),[])) [] kr aE kr))
theorem Sg(x:W12):PUR 162 [cB x] (cB (xI UG x)):=by rw[Ps];exact Ls YS x
end Q6
end
section
open Go.RowKit
attribute [local simp] a6 bj aH aB aP aZ aQ aI aM be bz a5 bv J1.bB J2.bB Q6.gc
namespace Q6
theorem Ji(l c:Nat)(x:Option Addr)(a:W12)(w:World)(hw:Gt w)(hL: ∀w',Gt w'->Grow w w'->CLS 163 [.slice x l c].toArray w' (λy w''=>y=.returned (cB a)/\Grow w' w'')):CLS 111 [.slice x l c].toArray w (λr w'=>r=.returned (.bool (decide (xI UG a=K12.one)))/\Grow w w'):=by
 refine Hf func111 O hw<|λhGF=>Xp<|Asg O<|aa<|Xp<|Mv O<|Cc O ent163 (λw' hC hG=>hL w' hG (ac hC))<|Ca O (Sg a)<|Ca O (s9)<|Ca O (qI _ _)<|Asg O<|aa<|am<|Rr<|?_;exact aF O O (λw hw=>⟨rfl,ac hw⟩)
theorem jH{w w':World}{b:Nat}{cs:List Value}(h:w.rangeAt b 0 cs)(hg:Grow w w'):w'.rangeAt b 0 cs:=λj v hv=>(hg.cell (block_lt_of_cell (h j v hv))).trans (h j v hv)
end Q6
end
section
open Go.RowKit
attribute [local simp] fP aH aB aP aQ aI jn Mc be
abbrev RV(x:Zr):Value:=aL (nr x)
theorem zv27(w:World):(zeroValue 27).run prog w=.ok (aL (List.replicate 6 (0#64))) w:=(zeroValue27 w).trans rr
theorem zv98(w:World):(zeroValue 98).run prog w=.ok (.agg ((List.replicate 32 (0#8)).map U8).toArray) w:=(zeroValue98 w).trans rr
theorem Cx(x y:Zr):decide (nr x=nr y)=decide (x=y):=decide_eq_decide.2 TJ
theorem Qk{x y:BitVec 64}(h:(x==y)=true):x=y:=beq_iff_eq.1 h
theorem Ro{x y:BitVec 64}(h:(x==y)=false): ¬x=y:=beq_eq_false_iff_ne.1 h
theorem ent6:ak prog 6:=λ_ _=>kr
theorem ent77:ak prog 77:=λ_ _=>kr
theorem zi(a b:L6)(ha:a.length=6)(hb:b.length=6):PUR 69 [NV a,NV b] (NV (io (io a b ML) LIFT ML)):=by
 intro w hw;refine Hf func69 O hw<|λhGF=>Xp<|Bx 2 hGF O<|λb2=>Bx 3 hGF O<|λb3=>Al 4 hGF zv25<|λb4=>aa<|Xd []<|bV 2 O O isAgg25 sizeOf25 (by first|(simp;done)|exact ha|exact hb|(rw[List.length_map];exact ha)|(rw[List.length_map];exact hb)) O O<|bV 3 O O isAgg25 sizeOf25 (by first|(simp;done)|exact ha|exact hb|(rw[List.length_map];exact ha)|(rw[List.length_map];exact hb)) O O<|gZ hGF isAgg25 sizeOf25 (by first|(simp;done)|exact ha|exact hb|(rw[List.length_map];exact ha)|(rw[List.length_map];exact hb)) (λ_ h=>h.g1) O O<|Ca O (iC _ _ _ (by first|(simp;done)|exact ha|exact hb|(rw[List.length_map];exact ha)|(rw[List.length_map];exact hb)) (by first|(simp;done)|exact ha|exact hb|(rw[List.length_map];exact ha)|(rw[List.length_map];exact hb)) (by first|(simp;done)|exact ha|exact hb|(rw[List.length_map];exact ha)|(rw[List.length_map];exact hb)))<|gZ hGF isAgg25 sizeOf25 (by first|(simp;done)|exact ha|exact hb|(rw[List.length_map];exact ha)|(rw[List.length_map];exact hb)) (λ_ h=>h.g0) O O<|gZ hGF isAgg25 sizeOf25 (by first|(simp;done)|exact ha|exact hb|(rw[List.length_map];exact ha)|(rw[List.length_map];exact hb)) (λ_ h=>h.g1) O O<|Ca O (iC _ _ _ (by first|(simp;done)|exact ha|exact hb|(rw[List.length_map];exact ha)|(rw[List.length_map];exact hb)) (by first|(simp;done)|exact ha|exact hb|(rw[List.length_map];exact ha)|(rw[List.length_map];exact hb)) (by first|(simp;done)|exact ha|exact hb|(rw[List.length_map];exact ha)|(rw[List.length_map];exact hb)))<|aA 4 hGF O O O sizeOf25 (by first|(simp;done)|exact ha|exact hb|(rw[List.length_map];exact ha)|(rw[List.length_map];exact hb)) (by first|(simp;done)|exact ha|exact hb|(rw[List.length_map];exact ha)|(rw[List.length_map];exact hb)) (bc _) O<|aa<|am<|Rr<|?_
 exact av 4 O O O isAgg25 sizeOf25 (by first|(simp;done)|exact ha|exact hb|(rw[List.length_map];exact ha)|(rw[List.length_map];exact hb)) (λw hw=>⟨rfl,ac hw⟩)
theorem y5(n:L6)(hn:n.length=6):PUR 30 [NV n] (RV (zr (V n 6))):=by
 intro w hw;refine Hf func30 O hw<|λhGF=>Xp<|Bx 1 hGF O<|λb1=>Al 2 hGF zv27<|λb2=>aa<|Xp<|ep 1 O underlying25 sizeOf24 zv25 O O<|bV 1 O O isAgg25 sizeOf25 (by first|(simp;done)|simp[hn]) O O<|Ca O (zi _ _ (by first|(simp;done)|simp[hn]) (by first|(simp;done)|simp[hn]))<|ci O (by first|(simp;done)|simp[hn]) underlying27 O sizeOf25 zv27 O O<|aA 2 hGF O O O sizeOf27 (by first|(simp;done)|simp[hn]) (by first|(simp;done)|simp[hn]) (bc _) O<|aa<|am<|Rr<|?_
 exact av 2 O O O isAgg27 sizeOf27 (by first|(simp;done)|simp[hn]) (λw hw=>⟨congrArg (λl=>Ending.returned (NV l)) (Ci n),ac hw⟩)
theorem qB(n:BitVec 64):PUR 23 [U64 n] (RV (zr n.toNat)):=by
 intro w hw;refine Hf func23 O hw<|λhGF=>Xp<|Al 2 hGF zv27<|λb2=>aa<|Xp<|Mv O<|ep n O underlying25 sizeOf24 zv25 O O<|ci O sm underlying27 O sizeOf25 zv27 O O<|Sa 2 hGF O O O ir<|aa<|am<|Rr<|?_;exact av 2 O O O isAgg27 sizeOf27 sm (λw hw=>⟨congrArg (λl=>Ending.returned (NV l)) (DR n),ac hw⟩)
theorem uI(x:Zr):PUR 19 [RV x] (.bool (decide (x=0))):=by
 intro w hw;refine Hf func19 O hw<|λhGF=>Xp<|Bx 1 hGF O<|λb1=>Asg O<|aa<|Xp<|Fa 0 O underlying27 O sizeOf25<|La 1 O O cg<|dX zv25 underlying25 sizeOf24 O O<|cu O O (λ_=>E8 _ _ _ _ _ _) (λw=>H9 _ _ sm sm w) O O<|Asg O<|aa<|am<|Rr<|?_;exact aF O O (λw hw=>⟨by rw[<-PU,Cx],ac hw⟩)
theorem sJ(x y:Zr):PUR 24 [RV x,RV y] (RV (x+y)):=by
 intro w hw;refine Hf func24 O hw<|λhGF=>Xp<|Bx 2 hGF O<|λb2=>Bx 3 hGF O<|λb3=>Al 4 hGF zv27<|λb4=>aa<|Xp<|Fa 0 O underlying27 O sizeOf25<|La 2 O O cg<|Fa 0 O underlying27 O sizeOf25<|La 3 O O cg<|Ca O (mG _ _ sm sm)<|Mv O<|Ext O O<|Ext O O<|Al 5 hGF zv25<|λb5=>Sa 5 hGF O O O cg<|Asg O<|aa<|Xp<|La 5 O O cg<|gZ hGF isAgg25 sizeOf25 sm (λ_ h=>h.g1) O O<|Ca O (jj _ _ sm sm)<|Mv O<|Ext O O<|Ext O O<|Al 7 hGF zv25<|λb7=>Sa 7 hGF O O O cg<|Asg O<|aa<|ah<|Xp<|Mv O<|Bnr O O (λ_=>bu _ _ _)<|aa<|?_;refine bD O (λhc=> ?_) (λhc=> ?_)
 ·refine Xp<|La 5 O O cg<|ci O sm underlying27 O sizeOf25 zv27 O O<|Sa 4 hGF O O O ir<|aa<|am<|Rr<|?_
  exact av 4 O O O isAgg27 sizeOf27 sm (λw hw=>⟨by rw[Il (Qk hc)],ac hw⟩)
 ·refine aq<|Xp<|La 7 O O cg<|ci O sm underlying27 O sizeOf25 zv27 O O<|Sa 4 hGF O O O ir<|aa<|am<|Rr<|?_
  exact av 4 O O O isAgg27 sizeOf27 sm (λw hw=>⟨by rw[CT (s7 (ou _ _ _) (Ro hc))],ac hw⟩)
theorem vL(x:Zr):PUR 43 [RV x] (.agg ((qj x).map U8).toArray):=by
 intro w hw;refine Hf func43 O hw<|λhGF=>Xp<|Bx 1 hGF O<|λb1=>Al 2 hGF zv98<|λb2=>aa<|Xp<|Fa 0 O underlying27 O sizeOf25<|La 1 O O cg<|Ca O (kg _ sm)<|Al 3 hGF zv29<|λb3=>aA 3 hGF O O O sizeOf29 sm sm (bZ _) O<|aa<|Xp<|bQ (l:=16) (h':=48) O underlying29 sizeOf5 O O om om O O<|Rm O underlying98 dc O O<|ay 3 ((qj x).map U8) O O isAgg98 sizeOf98 sm (CC x) O O<|aA 2 hGF O O O sizeOf98 sm sm (bZ _) O<|aa<|am<|Rr<|?_;exact av 2 O O O isAgg98 sizeOf98 sm (λw hw=>⟨rfl,ac hw⟩)
theorem tQ(a:Option Addr)(len cap:Nat)(bs:L8)(hl:bs.length=len)(h:len<=48)(w:World)(hw:Gt w)(hby:BytesAt w a bs):
 CLS 28 [.slice a len cap].toArray w (λe w'=>e=.returned (.tuple #[NV (FRs bs bs.length),.bool true])/\Grow w w'):=by
 subst hl;exact (py a cap bs w hw hby).mono λe w' ⟨he,hg⟩=>⟨by rw[he,if_neg om],hg⟩
structure QSt(w:World)(bs:L8) where
 (k:Nat) (a:Option Addr) (c:Nat)
 hk:k<=bs.length
 hc:bs.length-k<=c
 hb:BytesAt w a (bs.drop k)
 hm:k=0\/(bs.length-k) % 48=0
theorem yf(y:Zr):PUR 29 [NV LIFT,RV y,NV ML] (RV (y*qRZ)):=by
 have h:=iC LIFT (nr y) ML O (fP y) O;rw[Db]at h;exact h
theorem wp(bs:L8)(h:bs.length<=48):PUR 30 [NV (FRs bs bs.length)] (RV (zr (BN bs bs.length))):=oa bs h▸y5 (FRs bs bs.length) (aQ _ _)
theorem wh(e:Option Addr)(cap:Nat)(bs:L8)(hlen:bs.length<=1000000)(hcap:bs.length<=cap)(w:World)(hw:Gt w)(hby:BytesAt w e bs):
 CLS 6 [.slice e bs.length cap].toArray w (λr w'=>r=.returned (RV (QB bs))/\Grow w w'):=by
 refine Hf func6 O hw<|λhGF=>Xp<|Al 2 hGF zv27<|λb2=>aa<|Xp<|Al 3 hGF zv27<|λb3=>aa<|ah<|ai<|bH (ι:=QSt w bs) (λx=>[(0,.slice x.a (bs.length-x.k) x.c),(2,pnt b2),(3,pnt b3)]) (λx=>[(2,b2,(List.replicate 6 0#64).map U64,27),(3,b3,(nr (zr (BN bs x.k))).map U64,27)]) (λx=>(bs.length-x.k)) ⟨0,e,cap,Nat.zero_le _,hcap,hby,.inl O⟩ hGF trv ⟨rfl,by rw[BN,Re,PU];rfl,trivial⟩<|λx=>ah<|Xp<|Mv O<|bf O (λ_=>aG underlying22 _ _ _ _) O O<|Bnr O O (λ_=>ba _ _ _)<|aa<|?_
 refine bD O (λhc=> ?_) (λhc=> ?_)
 ·have hn:0<(bs.length-x.k):=by simp at hc;omega
  clear hc;have hlenx:=x.hk;have hcut:=CF hn;have hnext:BytesAt w (if x.c=(((bs.length-x.k)-1) % 48+1)then x.a else x.a.map (·.add ((((bs.length-x.k)-1) % 48+1)*1))) (bs.drop (x.k+(((bs.length-x.k)-1) % 48+1))):=by
   have:=x.hb.drop (cap:=x.c) (l:=(((bs.length-x.k)-1) % 48+1)) (by rw[List.length_drop];exact x.hc) om
   rw[List.drop_drop]at this;exact this
  have hstep:zr (BN bs x.k)*qRZ+zr (BN ((bs.drop x.k).take (((bs.length-x.k)-1) % 48+1)) ((bs.drop x.k).take (((bs.length-x.k)-1) % 48+1)).length)=zr (BN bs (x.k+(((bs.length-x.k)-1) % 48+1))):=by
   rw[lZ bs x.k _ hcut.2.1,GN];exact yD bs x.k _ (jJ id (Jv hn) x.hm)
  refine aq<|ai<|Xp<|Mv O<|bf O (λ_=>aG underlying22 _ _ _ _) O O<|Bnr (v:=I (((bs.length-x.k)-1:Nat):Int)) O O (λ_=>(aW _ _ _ oi).trans (by rw[show ((bs.length-x.k:Nat):Int)-1=((bs.length-x.k-1:Nat):Int) by omega]))<|cu (v:=I ((((bs.length-x.k)-1) % 48:Nat):Int)) O O (λ_=>rfl) (λ_=>cS _ _ _ dc) O O<|cu (v:=I (((((bs.length-x.k)-1) % 48+1):Nat):Int)) O O (λ_=>rfl) (λ_=>au _ _ _ oi) O O<|Asg O<|aa<|Xp<|Mv O<|Mv O<|go (l:=0) (h':=(((bs.length-x.k)-1) % 48+1)) O underlying22 sizeOf5 O O ⟨Nat.zero_le _,Nat.le_trans hcut.2.1 x.hc⟩ O O<|kB O O ent28 (λw' hC hG=>tQ _ (((bs.length-x.k)-1) % 48+1) _ ((bs.drop x.k).take (((bs.length-x.k)-1) % 48+1)) (lZ bs x.k _ hcut.2.1) hcut.2.2 w' hG ((x.hb.cut 0 (((bs.length-x.k)-1) % 48+1) (by rw[List.length_drop];exact x.hc)).grow (ac hC))) O O<|Mv O<|Ext O O<|Ext O O<|Al 5 hGF zv25<|λb5=>Sa 5 hGF O O O cg<|Asg O<|aa<|Xd []<|gZ hGF isAgg25 sizeOf25 sm (λ_ h=>h.g0) O O<|Fa 0 O underlying27 O sizeOf25<|La 3 O O cg<|gZ hGF isAgg25 sizeOf25 sm (λ_ h=>h.g1) O O<|Ca O (yf _)<|ci O sm underlying27 O sizeOf25 zv27 O O<|La 5 O O cg<|Ca O (wp ((bs.drop x.k).take (((bs.length-x.k)-1) % 48+1)) (by rw[lZ bs x.k _ hcut.2.1];exact hcut.2.2))<|Ca O (sJ _ _)<|Sa 3 hGF O O O ir<|aa<|Xq<|Mv O<|Mv O<|go (l:=(((bs.length-x.k)-1) % 48+1)) (h':=(bs.length-x.k)) O underlying22 sizeOf5 O O ⟨hcut.2.1,x.hc⟩ O O<|Asg O<|aa<|?_
  repeat (refine aO ?_)
  exact aC<|⟨rfl,⟨x.k+(((bs.length-x.k)-1) % 48+1),_,x.c-(((bs.length-x.k)-1) % 48+1),by have:=x.hk;omega,by have:=x.hc;omega,hnext,.inr (by rw[Nat.sub_add_eq];exact hcut.1)⟩,_,by show bs.length-(x.k+(((bs.length-x.k)-1) % 48+1))<bs.length-x.k;omega,rfl,⟨congrArg (λn=>some (Value.slice _ n _)) (Nat.sub_sub bs.length x.k (((bs.length-x.k)-1) % 48+1)),rfl,rfl,trivial⟩,⟨rfl,by rw[<-hstep];rfl,trivial⟩⟩
 ·have hn:x.k=bs.length:=by simp at hc;have:=x.hk;omega
  clear hc;refine aV<|Xp<|La 3 O O ir<|Sa 2 hGF O O O ir<|aa<|am<|Rr<|?_;exact av 2 O O O isAgg27 sizeOf27 sm (λw hw=>⟨by rw[hn];rfl,ac hw⟩)
end
section
open Go.RowKit
theorem ent123:ak prog 123:=λ_ _=>kr
theorem ent170:ak prog 170:=λ_ _=>kr
theorem yH(a:L6)(_ha:a.length=6)(w:World)(hw:Gt w):CLS 123 [aL (a)].toArray w (λe w'=> ∃b1,e=.returned (.func (.func 170) #[] #[pnt b1])/\Grow w w'/\w.heap.size<=b1/\OwnB w' b1 (a.map U64) 25):=by
 refine Hf func123 O hw<|λhGF=>Xp<|Bx 1 hGF O<|λb1=>Asg O<|aa<|Xp<|gj O O O O<|Asg O<|aa<|am<|Rr<|?_;exact aF O O (λw hw=>⟨b1,rfl,ac hw,(hw.own 1 b1 _ _ O).2.elim id False.elim,(hw.own 1 b1 _ _ O).1⟩)
theorem vv(bb:Nat)(a:L6)(ha:a.length=6):fF prog Gt 170 [pnt bb] (BT a) (λW=>W.rangeAt bb 0 (a.map U64)):=by
 intro l J Jx hJ hJx hRd hGx hY w hj;have okJ: ∀k,BOk Gt (Bi w (λY=>J Y k)):=λk=>⟨λ_ _ _ h=>(hRd _ _ _ h.rid).1,hJ k⟩;have okX: ∀k,BOk Gt (Bi w (λY=>Jx Y k)):=λk=>⟨λ_ _ _ h=>hGx _ _ _ h.rid,hJx k⟩;refine cw (G:=Gt) func170 O O (Hp (Bi w (λY=>J Y 0)) []) (cj (Bi w _) hj (hJ 0)) (az (okJ 0))<|ae (E:=EE [113])<|iF 2 (okJ _) O O O<|λb2=>aa<|ae (E:=EE [113])<|bQ (l:=0) (h':=6) O underlying25 sizeOf24 O O om om O O<|?_;refine dw O O ent113 O O (λw' hw'=>(mL _ O w' ((okJ _).g _ _ _ hw')).mono λe w'' h=> ?_);obtain ⟨c2,rfl,hgr,h2,hc2⟩:=h;refine ⟨_,_,rfl,az (okJ _),hw'.news (hJ _) hgr [(33,c2,[.slice (spt bb) 6 6],118)] ?_ bR, ?_⟩
 ·intro n' b' c' t' hl
  rcases aK hl with ⟨_,e⟩|⟨_,hl⟩
  ·cases e;exact ⟨h2,hc2⟩
  ·cases hl
 clear hw' hgr h2 hc2;refine aa<|ai<|?_;refine fb (λk=>(Bi w (λY=>J Y (gq a k).length))) (λ_ k=>Bi w (λY=>Jx Y (gq a k).length)) (λ_=>okJ _) (λ_ _=>okX _) (λ_=>rfl) (λ_ _=>rfl) O O ent166 (rA c2 bb a 6 dc ha) (λx hx=>by obtain ⟨k,hk,rfl⟩:=List.mem_map.1 hx;rfl) O (λ_=>[(2,b2,[.func (.yield l) #[] #[]],217),(33,c2,[.slice (spt bb) 6 6],118)]) (λc _ _=>c=.ret) trv (λk Y w' h=>⟨cy (n:=33) O O w' h,(hRd _ _ _ h.rid).2⟩) ?_ ?_ ?_
 ·intro k x hx R hR
  obtain ⟨hk,rfl⟩:=Oq a 6 k x hx;rw[show 64*6-1-k=383-k from O];refine ae (E:=EE [113])<|Asg O<|aa<|bG (E:=EE [113])<|Asg O<|aa<|?_;refine ⟨rfl,_,rfl, ?_⟩;rcases Decidable.em (dig a (383-k)=1)with h1|h1
  ·refine ai<|ae (E:=EE [113])<|Mv O<|Bnr (v:=.bool true) O O (λw=>(bu _ _ _).trans (congrArg (λb=>Result.ok (Value.bool b) w) (beq_iff_eq.2 h1)))<|Mv O<|cR 2 O O O isAgg217 O O<|Mv O<|?_
   refine du ((hY.b (k:=(gq a k).length) (WI a k om h1) w).br R.l R.D R.rb R.Y R.W) (hR (Bi w (λY=>J Y ((gq a k).length+1))) O (okJ _)).2.1 (hR (Bi w (λY=>Jx Y ((gq a k).length+1))) O (okX _)).2.1 O O O O O ?_ ?_
   ·refine bp O (λ_=>a8 _) O O<|Pk O O O<|aa<|aD O<|aq<|?_
    show∃L',_=Hp (R.b (Bi w (λY=>J Y (gq a (k+1)).length))) L'/\kc L' [(2,b2,[.func (.yield l) #[] #[]],217),(33,c2,[.slice (spt bb) 6 6],118)];rw[vY a k h1];exact ⟨_,rfl,trv⟩
   ·refine bp O (λ_=>a8 _) O O<|Pk O O O<|aa<|aT O<|am<|Rr<|?_
    show∃L',_=Hp (R.b (Bi w (λY=>Jx Y (gq a (k+1)).length))) L'/\Code.ret=Code.ret;rw[vY a k h1];exact ⟨_,rfl,rfl⟩
  ·refine ai<|ae (E:=EE [113,3000000])<|Mv O<|Bnr (v:=.bool false) O O (λw=>(bu _ _ _).trans (congrArg (λb=>Result.ok (Value.bool b) w) (beq_eq_false_iff_ne.2 h1)))<|Mv O<|Sk<|Sk<|Sk<|Sk<|Pk O O O<|aa<|aD O<|aq<|?_
   show∃L',_=Hp (R.b (Bi w (λY=>J Y (gq a (k+1)).length))) L'/\kc L' [(2,b2,[.func (.yield l) #[] #[]],217),(33,c2,[.slice (spt bb) 6 6],118)];rw[KL a k h1];exact ⟨_,rfl,trv⟩
 ·intro D _
  refine dR (.inr O) (hJ _) (dp O (λw hw=>⟨⟨_,rfl⟩,.inl ?_⟩));have:=cb (hJ _) hw.rid;rw[fB]at this;rw[TK];exact this
 ·intro D c j L' _ hc
  subst hc;exact dR (.inl O) (hJx _) (dp O (λw hw=>⟨⟨_,rfl⟩,.inr ⟨_,cb (hJx _) hw.rid⟩⟩))
end
section
open Go.RowKit
attribute [local simp] a6 bj aH aB aP aZ aQ aI aM be bz a5 bv J1.bB J2.bB Q6.gc
attribute [local simp] fP jn
theorem nY(k:Zr)(w:World)(hw:Gt w):CLS 77 [RV k].toArray w (λe w'=> ∃b1,e=.returned (.func (.func 170) #[] #[pnt b1])/\Grow w w'/\w.heap.size<=b1/\OwnB w' b1 ((nr k).map U64) 25):=by
 refine Hf func77 O hw<|λhGF=>ae (E:=EE [123])<|Bx 1 hGF O<|λb1=>Asg O<|aa<|ae (E:=EE [123])<|Fa 0 O underlying27 O sizeOf25<|La 1 O O cg<|?_;refine dw O O ent123 O O (λw' hw'=>(yH (nr k) sm w' (hGF.g _ _ _ hw')).mono λe' w'' h=> ?_);obtain ⟨c1,rfl,hg,h1,ho⟩:=h;refine ⟨_,_,rfl,az hGF,hw'.news ao hg [(33,c1,(nr k).map U64,25)] ?_ bR, ?_⟩
 ·intro n' b' c' t' hl
  rcases aK hl with ⟨_,e⟩|⟨_,hl⟩
  ·cases e;exact ⟨h1,ho⟩
  ·cases hl
 clear hw' hg h1 ho;refine Asg O<|aa<|am<|Rr<|?_;exact aF O O (λw hw=>⟨c1,rfl,ac hw,(hw.own 33 c1 _ _ O).2.elim id False.elim,(hw.own 33 c1 _ _ O).1⟩)
def dg(a:L6)(m:Nat):Bool:=decide (dig a (383-m)=1)
theorem Az(a:L6): ∀m,gq a m=oL (dg a) 384 m
 |0=>rfl
 |m+1=>by
  rw[gq,oL,Az a m];by_cases h:dig a (383-m)=1
  ·rw[if_pos h,if_pos (show dg a m=true from decide_eq_true h)]
  ·rw[if_neg h,if_neg (show¬dg a m=true from λe=>h (of_decide_eq_true e))]
theorem O8(a:L6)(m:Nat)(hm:m<384):dg a m=true↔V a 6 / 2^(384-1-m) % 2=1:=by
 have e:=uG a 6 (383-m) om;rw[show 384-1-m=383-m from by omega,<-e]
 constructor
 ·intro h
  have h2:dig a (383-m)=1:=of_decide_eq_true h;rw[h2];rfl
 ·intro h
  refine decide_eq_true (BitVec.eq_of_toNat_eq ?_);rw[h];rfl
theorem Ir{a:L6}{N:Nat}(hN:N=384)(h:V a 6<2^N):SOg (oL (dg a) N N)=V a 6:=by
 rw[yO];exact O6 h (λm hm=>by subst hN;exact O8 a m hm)
def onK(k:Zr):List Nat:=gq (nr k) 384
theorem E5(k:Zr){N:Nat}(hN:N=384):onK k=oL (dg (nr k)) N N:=by
 subst hN;exact Az (nr k) 384
theorem Q0(k:Zr){N:Nat}(hN:N=384):V (nr k) 6<2^N:=by
 have h:=rJ (nr k) 6;rw[show 64*6=N from hN.symm]at h;exact h
theorem z0(k:Zr){N:Nat}(hN:N=384):SOg (onK k)=k.val:=by rw[E5 k hN,Ir hN (Q0 k hN),wi]
theorem IZ(k:Zr){N:Nat}(hN:N=384):(onK k).Pairwise (λa b=>b<=a):=by rw[E5 k hN];exact xe _ _ _ (Nat.le_refl _)
theorem GC(k:Zr){N:Nat}(hN:N=384){b:Nat}(h:b∈onK k):b<100000000:=by
 rw[E5 k hN]at h;have:=FB h (Nat.le_refl _);omega
theorem vw{b:Nat}{c:List Value}{w w':World}(h:w.rangeAt b 0 c)(hg:Grow w w'):w'.rangeAt b 0 c:=λj v hv=>(hg.cell (block_lt_of_cell (h j v hv))).trans (h j v hv)
namespace J1
theorem uT(c1:Nat)(k:Zr){L:List Nat}(hL:onK k=L):fF prog Gt 170 [pnt c1] (NLs L) (λW=>W.rangeAt c1 0 ((nr k).map U64)):=by
 subst hL;exact vv c1 (nr k) (fP k)
theorem zh(p:GP)(k:Zr){L:List Nat}(hL:onK k=L)(hb: ∀b∈L,b<100000000):PUR 33 [PtV p,RV k] (JV (tmF p.J L)):=by
 intro w hw;refine Hf func33 O hw<|λhGF=>ae (E:=EE [77,2000077])<|Bx 2 hGF O<|λb2=>Bx 3 hGF O<|λb3=>Al 4 hGF zv54<|λb4=>aa<|Xd [77,2000077]<|La 2 O O ck<|La 3 O O ir<|?_;refine bI O O ent77 O O (λw' hw'=>(nY k w' (hGF.g _ _ _ hw')).mono λe' w'' h=> ?_);obtain ⟨c1,rfl,hg,h1,ho⟩:=h;refine ⟨_,_,rfl,az hGF,hw'.news ao hg [(33,c1,(nr k).map U64,25)] ?_ bR,bP ao O, ?_⟩
 ·intro n' b' c' t' hl
  rcases aK hl with ⟨_,e⟩|⟨_,hl⟩
  ·cases e;exact ⟨h1,ho⟩
  ·cases hl
 clear hw' hg h1 ho;refine Cc O ent76 (λw' hC hG=>gb p.J 170 [pnt c1] L (λW=>W.rangeAt c1 0 ((nr k).map U64)) ent170 (uT c1 k hL) hb w' hG (λw'' hg=>vw (aJ (n:=33) O w' hC) hg))<|Sa 4 hGF O O O ck<|aa<|am<|Rr<|?_;exact av 4 O O O isAgg54 sizeOf54 sm (λw hw=>⟨rfl,ac hw⟩)
theorem y9{x:Zp×Zp×Zp}{P:Pt Zp}(hP:E1.onP P)(hx:E1.jr x P)(k:Zr):E1.jr (tmF x (onK k)) (E1.times P k.val):=by
 rw[<-z0 k O];exact tmF_jr hP hx (IZ k O)
def sX(p:GP)(k:Zr):GP:=⟨tmF p.J (onK k),E1.times p.P k.val,E1.times_on p.on _,y9 p.on p.jr k⟩
theorem tT(p:GP)(k:Zr):PUR 33 [PtV p,RV k] (PtV (sX p k)):=zh p k O (λ_ h=>GC k O h)
end J1
namespace J2
theorem uT(c1:Nat)(k:Zr){L:List Nat}(hL:onK k=L):fF prog Gt 170 [pnt c1] (NLs L) (λW=>W.rangeAt c1 0 ((nr k).map U64)):=by
 subst hL;exact vv c1 (nr k) (fP k)
theorem zh(p:GP)(k:Zr){L:List Nat}(hL:onK k=L)(hb: ∀b∈L,b<100000000):PUR 36 [PtV p,RV k] (EV6 (E2w.tmF p.J L)):=by
 intro w hw;refine Hf func36 O hw<|λhGF=>ae (E:=EE [77,2000077])<|Bx 2 hGF O<|λb2=>Bx 3 hGF O<|λb3=>Al 4 hGF zv80<|λb4=>aa<|Xd [77,2000077]<|La 2 O O cn<|La 3 O O ir<|?_;refine bI O O ent77 O O (λw' hw'=>(nY k w' (hGF.g _ _ _ hw')).mono λe' w'' h=> ?_);obtain ⟨c1,rfl,hg,h1,ho⟩:=h;refine ⟨_,_,rfl,az hGF,hw'.news ao hg [(33,c1,(nr k).map U64,25)] ?_ bR,bP ao O, ?_⟩
 ·intro n' b' c' t' hl
  rcases aK hl with ⟨_,e⟩|⟨_,hl⟩
  ·cases e;exact ⟨h1,ho⟩
  ·cases hl
 clear hw' hg h1 ho;refine Cc O ent82 (λw' hC hG=>gb p.J 170 [pnt c1] L (λW=>W.rangeAt c1 0 ((nr k).map U64)) ent170 (uT c1 k hL) hb w' hG (λw'' hg=>vw (aJ (n:=33) O w' hC) hg))<|Sa 4 hGF O O O cn<|aa<|am<|Rr<|?_;exact av 4 O O O isAgg80 sizeOf80 sm (λw hw=>⟨rfl,ac hw⟩)
theorem y9{x:W6}{P:Pt W2}(hP:E2w.onP P)(hx:E2w.jr x P)(k:Zr):E2w.jr (E2w.tmF x (onK k)) (E2w.times P k.val):=by
 rw[<-z0 k O];exact E2w.tmF_jr hP hx (IZ k O)
def sX(p:GP)(k:Zr):GP:=⟨E2w.tmF p.J (onK k),E2w.times p.P k.val,E2w.times_on p.on _,y9 p.on p.jr k⟩
theorem tT(p:GP)(k:Zr):PUR 36 [PtV p,RV k] (PtV (sX p k)):=zh p k O (λ_ h=>GC k O h)
end J2
end
section
open Go.RowKit
theorem ent133:ak prog 133:=λ_ _=>kr
theorem ent182:ak prog 182:=λ_ _=>kr
theorem ent264:ak prog 264:=λ_ _=>kr
theorem ent265:ak prog 265:=λ_ _=>kr
theorem ent278:ak prog 278:=λ_ _=>kr
theorem ent275:ak prog 275:=λ_ _=>kr
theorem ent279:ak prog 279:=λ_ _=>kr
theorem ent285:ak prog 285:=λ_ _=>kr
theorem ent10:ak prog 10:=λ_ _=>kr
namespace Sh
theorem zv92(w:World):(zeroValue 92).run prog w=.ok (.agg ((List.replicate 64 (0#32)).map U32).toArray) w:=(zeroValue92 w).trans rr
theorem zv91(w:World):(zeroValue 91).run prog w=.ok (.agg ((List.replicate 8 (0#32)).map U32).toArray) w:=(zeroValue91 w).trans rr
theorem zv289(w:World):(zeroValue 289).run prog w=.ok (.agg ((List.replicate 64 (0#8)).map U8).toArray) w:=(zeroValue289 w).trans rr
theorem zv98(w:World):(zeroValue 98).run prog w=.ok (.agg ((List.replicate 32 (0#8)).map U8).toArray) w:=(zeroValue98 w).trans rr
def lr(x:BitVec 32)(k:Int):BitVec 32:=(x<<<(BitVec.ofInt 64 k &&& 31#64).toNat)|||(x>>>(32#64-(BitVec.ofInt 64 k &&& 31#64)).toNat)
theorem eo(x:BitVec 32)(k:Int):PUR 288 [U32 x,I k] (U32 (lr x k)):=by
 intro w hw;refine Hf func288 O hw<|λhGF=>Xp<|Asg O<|aa<|Xp<|Mv O<|bX O O (λ_=>fL underlying3 underlying191 _) O O<|Bnr O O (λ_=>ec _ _ _)<|Asg O<|aa<|Xp<|Mv O<|Mv O<|Bnr O O (λ_=>gX _ _ _)<|Mv O<|Mv O<|Bnr O O (λ_=>gW _ _ _)<|Bnr O O (λ_=>d9 _ _ _)<|Bnr O O (λ_=>gF _ _ _)<|Asg O<|aa<|am<|Rr<|?_;exact aF O O (λw hw=>⟨rfl,ac hw⟩)
def turn(x:BitVec 32)(n:Nat):BitVec 32:=(x>>>n)|||(x<<<(32-n))
theorem eu(x:BitVec 32)(n:Int)(h0:0<=n)(h1:n<=32):PUR 183 [U32 x,I n] (U32 (turn x n.toNat)):=by
 intro w hw;refine Hf func183 O hw<|λhGF=>Xp<|Asg O<|aa<|Xd []<|Mv O<|Mv O<|Bnr O O (λ_=>lL _ _ _ om)<|Mv O<|Mv O<|Bnr O O (λ_=>aW _ _ _ oi)<|Bnr O O (λ_=>rO _ _ _ om)<|Bnr O O (λ_=>gF _ _ _)<|Asg O<|aa<|am<|Rr<|?_;exact aF O O (λw hw=>⟨by rw[show (32-n).toNat=32-n.toNat from by omega];rfl,ac hw⟩)
def pT(x:BitVec 32):BitVec 32:=lr x (-6)^^^lr x (-11)^^^lr x (-25)
theorem Cu(x:BitVec 32):PUR 283 [U32 x] (U32 (pT x)):=by
 intro w hw;refine Hf func283 O hw<|λhGF=>Xp<|Asg O<|aa<|Xp<|Mv O<|Ca O (eo _ _)<|Mv O<|Ca O (eo _ _)<|Bnr O O (λ_=>bM _ _ _)<|Mv O<|Ca O (eo _ _)<|Bnr O O (λ_=>bM _ _ _)<|Asg O<|aa<|am<|Rr<|?_;exact aF O O (λw hw=>⟨rfl,ac hw⟩)
def wl(x:BitVec 32):BitVec 32:=lr x (-2)^^^lr x (-13)^^^lr x (-22)
theorem Cl(x:BitVec 32):PUR 284 [U32 x] (U32 (wl x)):=by
 intro w hw;refine Hf func284 O hw<|λhGF=>Xp<|Asg O<|aa<|Xp<|Mv O<|Ca O (eo _ _)<|Mv O<|Ca O (eo _ _)<|Bnr O O (λ_=>bM _ _ _)<|Mv O<|Ca O (eo _ _)<|Bnr O O (λ_=>bM _ _ _)<|Asg O<|aa<|am<|Rr<|?_;exact aF O O (λw hw=>⟨rfl,ac hw⟩)
def Ce(x:BitVec 32):BitVec 32:=lr x (-7)^^^lr x (-18)^^^(x>>>3)
theorem CS(x:BitVec 32):PUR 287 [U32 x] (U32 (Ce x)):=by
 intro w hw;refine Hf func287 O hw<|λhGF=>Xp<|Asg O<|aa<|Xp<|Mv O<|Ca O (eo _ _)<|Mv O<|Ca O (eo _ _)<|Bnr O O (λ_=>bM _ _ _)<|Mv O<|Bnr O O (λ_=>d9 _ _ _)<|Bnr O O (λ_=>bM _ _ _)<|Asg O<|aa<|am<|Rr<|?_;exact aF O O (λw hw=>⟨rfl,ac hw⟩)
def CK(x:BitVec 32):BitVec 32:=lr x (-17)^^^lr x (-19)^^^(x>>>10)
theorem Cp(x:BitVec 32):PUR 286 [U32 x] (U32 (CK x)):=by
 intro w hw;refine Hf func286 O hw<|λhGF=>Xp<|Asg O<|aa<|Xp<|Mv O<|Ca O (eo _ _)<|Mv O<|Ca O (eo _ _)<|Bnr O O (λ_=>bM _ _ _)<|Mv O<|Bnr O O (λ_=>d9 _ _ _)<|Bnr O O (λ_=>bM _ _ _)<|Asg O<|aa<|am<|Rr<|?_;exact aF O O (λw hw=>⟨rfl,ac hw⟩)
end Sh
end
section
open Go.RowKit
namespace Sh
def w4(bl:L8)(i:Nat):BitVec 32:=((bl.getD (4*i) 0).setWidth 32<<<24)|||((bl.getD (4*i+1) 0).setWidth 32<<<16)|||((bl.getD (4*i+2) 0).setWidth 32<<<8)|||(bl.getD (4*i+3) 0).setWidth 32
def W1(bl:L8):Nat->L3
 |0=>List.replicate 64 0#32
 |k+1=>(W1 bl k).set k (w4 bl k)
theorem yV(bl:L8): ∀k,(W1 bl k).length=64
 |0=>by simp[W1]
 |k+1=>by simp[W1,yV bl k]
def w5(ws:L3)(i:Nat):BitVec 32:=CK (ws.getD (i-2) 0)+ws.getD (i-7) 0+Ce (ws.getD (i-15) 0)+ws.getD (i-16) 0
def W2(bl:L8):Nat->L3
 |0=>W1 bl 16
 |k+1=>(W2 bl k).set (16+k) (w5 (W2 bl k) (16+k))
theorem ie(bl:L8): ∀k,(W2 bl k).length=64
 |0=>yV bl 16
 |k+1=>by simp[W2,ie bl k]
theorem ya(bl:L8)(hb:bl.length=64):PUR 282 [.agg (bl.map U8).toArray] (.agg ((W2 bl 48).map U32).toArray):=by
 intro w hw;refine Hf func282 O hw<|λhGF=>Xp<|Bx 1 hGF O<|λb1=>Al 2 hGF zv92<|λb2=>aa<|Xp<|Al 3 hGF zv92<|λb3=>aa<|ah<|Xp<|Mv O<|aa<|ai<|bH (ι:={i:Nat // i<=16}) (λx=>[(6,I (x.1:Int)),(1,pnt b1),(2,pnt b2),(3,pnt b3)]) (λx=>[(3,b3,(W1 bl x.1).map U32,92),(2,b2,(List.replicate 64 (0#32)).map U32,92),(1,b1,bl.map U8,289)]) (λx=>16-x.1) ⟨0,om⟩ hGF trv trv<|?_;rintro ⟨i,hi⟩;dsimp only;refine Xp<|Bnr O O (λ_=>aw _ _ _)<|aa<|ah<|?_;refine bD O (λhc=> ?_) (λhc=> ?_)
 ·simp only[decide_eq_true_eq]at hc
  refine aq<|ah<|ai<|Xp<|Mv O<|Asg O<|aa<|Xe []<|Mv O<|Mv O<|Bnr O O (λ_=>bx _ _ _ oi)<|Ia ((4*i)) O O underlying289 sizeOf5<|Lm 1 U8 0 O O isAgg5 (by rw[hb];omega)<|bX O O (λ_=>gY underlying5 underlying90 _) O O<|Bnr O O (λ_=>gX _ _ _)<|Mv O<|Bnr O O (λ_=>bx _ _ _ oi)<|Bnr O O (λ_=>au _ _ _ oi)<|Ia (((4*i)+1)) O O underlying289 sizeOf5<|Lm 1 U8 0 O O isAgg5 (by rw[hb];omega)<|bX O O (λ_=>gY underlying5 underlying90 _) O O<|Bnr O O (λ_=>gX _ _ _)<|Bnr O O (λ_=>gF _ _ _)<|Mv O<|Bnr O O (λ_=>bx _ _ _ oi)<|Bnr O O (λ_=>au _ _ _ oi)<|Ia (((4*i)+2)) O O underlying289 sizeOf5<|Lm 1 U8 0 O O isAgg5 (by rw[hb];omega)<|bX O O (λ_=>gY underlying5 underlying90 _) O O<|Bnr O O (λ_=>gX _ _ _)<|Bnr O O (λ_=>gF _ _ _)<|Mv O<|Bnr O O (λ_=>bx _ _ _ oi)<|Bnr O O (λ_=>au _ _ _ oi)<|Ia (((4*i)+3)) O O underlying289 sizeOf5<|Lm 1 U8 0 O O isAgg5 (by rw[hb];omega)<|bX O O (λ_=>gY underlying5 underlying90 _) O O<|Bnr O O (λ_=>gF _ _ _)<|Ia (i) O O underlying92 sizeOf90<|aY 3 U32 hGF O O O sizeOf90 O (by rw[yV];omega) O<|?_
  exact aa<|Xq<|Bnr O O (λ_=>au _ _ _ oi)<|Mv O<|aa<|aC<|⟨rfl,⟨i+1,om⟩,_,by show 16-(i+1)<16-i;omega,rfl,trv,trv⟩
 ·obtain rfl:i=16:=by simp at hc;omega
  refine aV<|ah<|Xp<|Asg O<|aa<|ai<|bH (ι:={i:Nat // i<=48}) (λx=>[(5,I ((16+x.1:Nat):Int)),(2,pnt b2),(3,pnt b3)]) (λx=>[(3,b3,(W2 bl x.1).map U32,92),(2,b2,(List.replicate 64 (0#32)).map U32,92)]) (λx=>48-x.1) ⟨0,om⟩ hGF trv trv<|?_;rintro ⟨j,hj⟩;dsimp only;refine ah<|Xp<|Mv O<|Bnr O O (λ_=>aw _ _ _)<|aa<|?_;refine bD O (λhc=> ?_) (λhc=> ?_)
  ·simp only[decide_eq_true_eq]at hc
   exact aq<|ah<|ai<|Xe []<|Mv O<|Mv O<|Bnr O O (λ_=>aW _ _ _ oi)<|Ia (((16+j)-2)) O O underlying92 sizeOf90<|Lm 3 U32 0 O O isAgg90 (by rw[ie];omega)<|Ca O (Cp _)<|Mv O<|Bnr O O (λ_=>aW _ _ _ oi)<|Ia (((16+j)-7)) O O underlying92 sizeOf90<|Lm 3 U32 0 O O isAgg90 (by rw[ie];omega)<|Bnr O O (λ_=>bi _ _ _)<|Mv O<|Bnr O O (λ_=>aW _ _ _ oi)<|Ia (((16+j)-15)) O O underlying92 sizeOf90<|Lm 3 U32 0 O O isAgg90 (by rw[ie];omega)<|Ca O (CS _)<|Bnr O O (λ_=>bi _ _ _)<|Mv O<|Bnr O O (λ_=>aW _ _ _ oi)<|Ia (((16+j)-16)) O O underlying92 sizeOf90<|Lm 3 U32 0 O O isAgg90 (by rw[ie];omega)<|Bnr O O (λ_=>bi _ _ _)<|Ia ((16+j)) O O underlying92 sizeOf90<|aY 3 U32 hGF O O O sizeOf90 O (by rw[ie];omega) O<|aa<|Xq<|Mv O<|Bnr O O (λ_=>au _ _ _ oi)<|Asg O<|aa<|aC<|⟨rfl,⟨j+1,om⟩,_,by show 48-(j+1)<48-j;omega,rfl,trv,trv⟩
  ·obtain rfl:j=48:=by simp at hc;omega
   refine aV<|Xp<|Lw 3 O O JB (ie _ _)<|Sx 2 hGF O O O JB (ie _ _) (eI _)<|aa<|am<|Rr<|?_;exact av 2 O O O isAgg92 sizeOf92 (by rw[List.length_map,ie]) (λw hw=>⟨rfl,ac hw⟩)
theorem gk{B:Bs}{L:Hl}{Y:Nat->Prop}(hw:Gt B.w0)(hM: ¬B.M 7)(k:Nat)(hk:k<64): ∀w,Hq B L Y w->w.cell? ⟨7,k,none⟩=some (U32 (KW.getD k 0)):=by
 have:=hw.g7 k _ (gm U32 KW 0 k hk);rw[Nat.zero_add]at this;exact mc this hM
structure V8 where
 (a b c d e f g h:BitVec 32)
def rnd(v:V8)(k w:BitVec 32):V8:=
 ⟨(v.h+pT v.e+(v.e &&& v.f^^^ ~~~v.e &&& v.g)+k+w)+(wl v.a+(v.a &&& v.b^^^v.a &&& v.c^^^v.b &&& v.c)),v.a,v.b,v.c,v.d+(v.h+pT v.e+(v.e &&& v.f^^^ ~~~v.e &&& v.g)+k+w),v.e,v.f,v.g⟩
def mS(v:V8)(ws:L3):Nat->V8
 |0=>v
 |k+1=>rnd (mS v ws k) (KW.getD k 0) (ws.getD k 0)
def v8(st:L3):V8:=⟨st.getD 0 0,st.getD 1 0,st.getD 2 0,st.getD 3 0,st.getD 4 0,st.getD 5 0,st.getD 6 0,st.getD 7 0⟩
def Ri(st:L3)(v:V8):L3:=[st.getD 0 0+v.a,st.getD 1 0+v.b,st.getD 2 0+v.c,st.getD 3 0+v.d,st.getD 4 0+v.e,st.getD 5 0+v.f,st.getD 6 0+v.g,st.getD 7 0+v.h]
def rD(st:L3)(bl:L8):L3:=Ri st (mS (v8 st) (W2 bl 48) 64)
theorem sK(st:L3)(bl:L8)(hs:st.length=8)(hb:bl.length=64):PUR 276 [.agg (st.map U32).toArray,.agg (bl.map U8).toArray] (.agg ((rD st bl).map U32).toArray):=by
 intro w hw;refine Hf func276 O hw<|λhGF=>Xp<|Bx 2 hGF O<|λb2=>Bx 3 hGF O<|λb3=>Al 4 hGF zv91<|λb4=>aa<|Xp<|Lw 3 O O A8 hb<|Ca O (ya _ hb)<|Al 5 hGF zv92<|λb5=>Sx 5 hGF O O O JB (ie _ _) (eI _)<|aa<|Xd []<|Ia (0) O O underlying91 sizeOf90<|Lm 2 U32 0 O O isAgg90 (by rw[hs];omega)<|Ia (1) O O underlying91 sizeOf90<|Lm 2 U32 0 O O isAgg90 (by rw[hs];omega)<|Ia (2) O O underlying91 sizeOf90<|Lm 2 U32 0 O O isAgg90 (by rw[hs];omega)<|Ia (3) O O underlying91 sizeOf90<|Lm 2 U32 0 O O isAgg90 (by rw[hs];omega)<|Asg O<|Asg O<|Asg O<|Asg O<|aa<|Xd []<|Ia (4) O O underlying91 sizeOf90<|Lm 2 U32 0 O O isAgg90 (by rw[hs];omega)<|Ia (5) O O underlying91 sizeOf90<|Lm 2 U32 0 O O isAgg90 (by rw[hs];omega)<|Ia (6) O O underlying91 sizeOf90<|Lm 2 U32 0 O O isAgg90 (by rw[hs];omega)<|Ia (7) O O underlying91 sizeOf90<|Lm 2 U32 0 O O isAgg90 (by rw[hs];omega)<|Asg O<|Asg O<|Asg O<|Asg O<|aa<|?_
 refine ah<|Xp<|Lw 5 O O JB (ie _ _)<|Mv O<|aa<|ai<|bH (ι:={i:Nat // i<=64}) (λx=>[(39,I (x.1:Int)),(2,pnt b2),(4,pnt b4),(6,U32 (mS (v8 st) (W2 bl 48) x.1).a),(7,U32 (mS (v8 st) (W2 bl 48) x.1).b),(8,U32 (mS (v8 st) (W2 bl 48) x.1).c),(9,U32 (mS (v8 st) (W2 bl 48) x.1).d),(10,U32 (mS (v8 st) (W2 bl 48) x.1).e),(11,U32 (mS (v8 st) (W2 bl 48) x.1).f),(12,U32 (mS (v8 st) (W2 bl 48) x.1).g),(13,U32 (mS (v8 st) (W2 bl 48) x.1).h),(38,.agg ((W2 bl 48).map U32).toArray)]) (λx=>[(2,b2,st.map U32,91),(4,b4,(List.replicate 8 (0#32)).map U32,91)]) (λx=>64-x.1) ⟨0,om⟩ hGF trv trv<|?_;rintro ⟨i,hi⟩;dsimp only;refine Xp<|Bnr O O (λ_=>aw _ _ _)<|aa<|ah<|?_;refine bD O (λhc=> ?_) (λhc=> ?_)
 ·simp only[decide_eq_true_eq]at hc
  refine aq<|ah<|ai<|Xp<|Mv O<|iW U32 0 (i) O O underlying92 sizeOf90 isAgg90 om om (ie _ _) O O<|Asg O<|Asg O<|aa<|Xp<|Mv O<|Mv O<|Bnr O O (λ_=>dk _ _ _)<|Mv O<|bp O (λ_=>qb _) O O<|Mv O<|Bnr O O (λ_=>dk _ _ _)<|Bnr O O (λ_=>bM _ _ _)<|Asg O<|aa<|Xd []<|Mv O<|Mv O<|Ca O (Cu _)<|Bnr O O (λ_=>bi _ _ _)<|Mv O<|Bnr O O (λ_=>bi _ _ _)<|Mv O<|Ia (i) O O underlying92 sizeOf90<|bO O isAgg90 (gk (B:=pl w) hw (λh=>h) (i) om) O O<|Bnr O O (λ_=>bi _ _ _)<|Mv O<|Bnr O O (λ_=>bi _ _ _)<|Asg O<|aa<|Xp<|Mv O<|Mv O<|Bnr O O (λ_=>dk _ _ _)<|Mv O<|?_;refine Mv O<|Bnr O O (λ_=>dk _ _ _)<|Bnr O O (λ_=>bM _ _ _)<|Mv O<|Mv O<|Bnr O O (λ_=>dk _ _ _)<|Bnr O O (λ_=>bM _ _ _)<|Asg O<|aa<|Xp<|Mv O<|Ca O (Cl _)<|Mv O<|Bnr O O (λ_=>bi _ _ _)<|Asg O<|aa<|Xp<|Mv O<|Mv O<|Mv O<|Mv O<|Mv O<|Bnr O O (λ_=>bi _ _ _)<|Asg O<|Asg O<|Asg O<|Asg O<|aa<|Xq<|Mv O<|Mv O<|Mv O<|Mv O<|Mv O<|Bnr O O (λ_=>bi _ _ _)<|Asg O<|Asg O<|Asg O<|Asg O<|aa<|?_;exact Xq<|Bnr O O (λ_=>au _ _ _ oi)<|Mv O<|aa<|aC<|⟨rfl,⟨i+1,om⟩,_,by show 64-(i+1)<64-i;omega,rfl,trv,trv⟩
 ·obtain rfl:i=64:=by simp at hc;omega
  refine aV<|Xp<|Ia (0) O O underlying91 sizeOf90<|Lm 2 U32 0 O O isAgg90 (by rw[hs];omega)<|Mv O<|Bnr O O (λ_=>bi _ _ _)<|Ia (1) O O underlying91 sizeOf90<|Lm 2 U32 0 O O isAgg90 (by rw[hs];omega)<|Mv O<|Bnr O O (λ_=>bi _ _ _)<|Ia (2) O O underlying91 sizeOf90<|Lm 2 U32 0 O O isAgg90 (by rw[hs];omega)<|Mv O<|Bnr O O (λ_=>bi _ _ _)<|Ia (3) O O underlying91 sizeOf90<|Lm 2 U32 0 O O isAgg90 (by rw[hs];omega)<|Mv O<|Bnr O O (λ_=>bi _ _ _)<|Ia (4) O O underlying91 sizeOf90<|Lm 2 U32 0 O O isAgg90 (by rw[hs];omega)<|Mv O<|Bnr O O (λ_=>bi _ _ _)<|Ia (5) O O underlying91 sizeOf90<|Lm 2 U32 0 O O isAgg90 (by rw[hs];omega)<|Mv O<|Bnr O O (λ_=>bi _ _ _)<|Ia (6) O O underlying91 sizeOf90<|Lm 2 U32 0 O O isAgg90 (by rw[hs];omega)<|Mv O<|Bnr O O (λ_=>bi _ _ _)<|Ia (7) O O underlying91 sizeOf90<|Lm 2 U32 0 O O isAgg90 (by rw[hs];omega)<|Mv O<|Bnr O O (λ_=>bi _ _ _)<|bS (n:=8) O O underlying91 sizeOf90 zeroValue91 O O O O<|aA 4 hGF O O O sizeOf91 O (by rw[List.length_map,List.length_replicate]) O O<|aa<|am<|Rr<|?_
  exact av 4 O O O isAgg91 sizeOf91 O (λw hw=>⟨rfl,ac hw⟩)
def IV:L3:=[0x6a09e667#32,0xbb67ae85#32,0x3c6ef372#32,0xa54ff53a#32,0x510e527f#32,0x9b05688c#32,0x1f83d9ab#32,0x5be0cd19#32]
theorem zA  :PUR 281 [] (.agg (IV.map U32).toArray):=by
 intro w hw;refine Hf func281 O hw<|λhGF=>Xp<|Al 0 hGF zv91<|λb0=>aa<|Xp<|bS (n:=8) O O underlying91 sizeOf90 zeroValue91 O O O O<|aA 0 hGF O O O sizeOf91 O (by rw[List.length_map,List.length_replicate]) O O<|aa<|am<|Rr<|?_
 exact av 0 O O O isAgg91 sizeOf91 O (λw hw=>⟨rfl,ac hw⟩)
def DG(st:L3):Nat->L8
 |0=>List.replicate 32 0#8
 |k+1=>((((DG st k).set (4*k) ((st.getD k 0>>>24).setWidth 8)).set (4*k+1) ((st.getD k 0>>>16).setWidth 8)).set (4*k+2) ((st.getD k 0>>>8).setWidth 8)).set (4*k+3) ((st.getD k 0).setWidth 8)
theorem fB(st:L3): ∀k,(DG st k).length=32
 |0=>by simp[DG]
 |k+1=>by simp[DG,fB st k]
theorem wT(st:L3)(hs:st.length=8):PUR 277 [.agg (st.map U32).toArray] (.agg ((DG st 8).map U8).toArray):=by
 intro w hw;refine Hf func277 O hw<|λhGF=>Xp<|Bx 1 hGF O<|λb1=>Al 2 hGF zv98<|λb2=>aa<|Xp<|Al 3 hGF zv98<|λb3=>aa<|ah<|Xp<|Lw 1 O O rR hs<|Mv O<|aa<|ai<|bH (ι:={i:Nat // i<=8}) (λx=>[(7,I (x.1:Int)),(2,pnt b2),(3,pnt b3),(6,.agg (st.map U32).toArray)]) (λx=>[(3,b3,(DG st x.1).map U8,98),(2,b2,(List.replicate 32 (0#8)).map U8,98)]) (λx=>8-x.1) ⟨0,om⟩ hGF trv trv<|?_;rintro ⟨i,hi⟩;dsimp only;refine Xp<|Bnr O O (λ_=>aw _ _ _)<|aa<|ah<|?_;refine bD O (λhc=> ?_) (λhc=> ?_)
 ·simp only[decide_eq_true_eq]at hc
  refine aq<|ah<|ai<|Xp<|Mv O<|iW U32 0 (i) O O underlying91 sizeOf90 isAgg90 om om (hs) O O<|Asg O<|Asg O<|aa<|Xp<|Mv O<|Bnr O O (λ_=>bx _ _ _ oi)<|Mv O<|Bnr O O (λ_=>d9 _ _ _)<|bX O O (λ_=>gT underlying90 underlying5 _) O O<|Ia ((4*i)) O O underlying98 sizeOf5<|aY 3 U8 hGF O O O sizeOf5 O (by simp[fB];omega) O<|aa<|Xp<|Mv O<|Bnr O O (λ_=>bx _ _ _ oi)<|Bnr O O (λ_=>au _ _ _ oi)<|Mv O<|Bnr O O (λ_=>d9 _ _ _)<|bX O O (λ_=>gT underlying90 underlying5 _) O O<|Ia (((4*i)+1)) O O underlying98 sizeOf5<|aY 3 U8 hGF O O O sizeOf5 O (by simp[fB];omega) O<|aa<|Xp<|Mv O<|Bnr O O (λ_=>bx _ _ _ oi)<|Bnr O O (λ_=>au _ _ _ oi)<|Mv O<|Bnr O O (λ_=>d9 _ _ _)<|bX O O (λ_=>gT underlying90 underlying5 _) O O<|Ia (((4*i)+2)) O O underlying98 sizeOf5<|aY 3 U8 hGF O O O sizeOf5 O (by simp[fB];omega) O<|aa<|Xq<|Mv O<|?_
  exact Bnr O O (λ_=>bx _ _ _ oi)<|Bnr O O (λ_=>au _ _ _ oi)<|Mv O<|bX O O (λ_=>gT underlying90 underlying5 _) O O<|Ia (((4*i)+3)) O O underlying98 sizeOf5<|aY 3 U8 hGF O O O sizeOf5 O (by simp[fB];omega) O<|aa<|Xq<|Bnr O O (λ_=>au _ _ _ oi)<|Mv O<|aa<|aC<|⟨rfl,⟨i+1,om⟩,_,by show 8-(i+1)<8-i;omega,rfl,trv,trv⟩
 ·obtain rfl:i=8:=by simp at hc;omega
  refine aV<|Xp<|Lw 3 O O vd (fB _ _)<|Sx 2 hGF O O O vd (fB _ _) (bZ _)<|aa<|am<|Rr<|?_;exact av 2 O O O isAgg98 sizeOf98 (by rw[List.length_map,fB]) (λw hw=>⟨rfl,ac hw⟩)
end Sh
end
end Go.Proofs.YtjookodjbjabbaaGreatDoor
