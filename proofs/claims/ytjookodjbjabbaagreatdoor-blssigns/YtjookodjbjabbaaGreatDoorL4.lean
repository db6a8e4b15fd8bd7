/- L4 -/
import Derived.Test.YtjookodjbjabbaaGreatDoorL3
import Derived.Test.YtjookodjbjabbaaGreatDoorL2
import Derived.Test.YtjookodjbjabbaaGreatDoorM1
import Derived.Test.YtjookodjbjabbaaGreatDoorL1
import Derived.Test.YtjookodjbjabbaaGreatDoorQ1
import Derived.Test.YtjookodjbjabbaaGreatDoorX3
import Derived.Test.YtjookodjbjabbaaGreatDoorX2
import Derived.Test.YtjookodjbjabbaaGreatDoorXW
set_option maxRecDepth 100000
set_option maxHeartbeats 1000000
namespace Go.Proofs.YtjookodjbjabbaaGreatDoor
open Go.Proofs.Tryz
section
def GV:Nat→W2
 |0=>on2
 |n+1=>ml2 (cj2 (GV n)) GA
theorem R7:cj2 on2=on2:=by decide+kernel
theorem HZ(y:W2): ∀k,cj2 (pw2 y k)=pw2 (cj2 y) k
 |0=>R7
 |k+1=>by rw[ou,gx,HZ y k,ou]
theorem yu(a b:W2)(k:Nat):ml2 (pw2 a k) (pw2 b k)=pw2 (ml2 a b) k:=(R2.mul_pw a b k).symm
def frq(c:W2)(n k:Nat):W2:=ml2 (cjn n c) (pw2 (GV n) k)
theorem sO(c:W2)(n k:Nat):ml2 (cj2 (frq c n k)) (pw2 GA k)=frq c (n+1) k:=by
 rw[frq,gx,aaw,z8,HZ,yu];rfl
theorem tz(c:W2)(k:Nat):frq c 0 k=c:=by
 have e:pw2 (GV 0) k=on2:=R2.one_pw k
 rw[frq,e];exact R2.mul_one c
theorem C4(x:W12): ∀n,kH x n=((frq x.1.1 n 0,frq x.1.2.1 n 2,frq x.1.2.2 n 4),(frq x.2.1 n 1,frq x.2.2.1 n 3,frq x.2.2.2 n 5))
 |0=>by rw[tz,tz,tz,tz,tz,tz];rfl
 |n+1=>by
  rw[kH,C4 x n]
  exact Prod.ext (Prod.ext (sO _ _ _) (Prod.ext (sO _ _ _) (sO _ _ _))) (Prod.ext (sO _ _ _) (Prod.ext (sO _ _ _) (sO _ _ _)))
/-! ### The sixth root, as numbers -/
def sxh:Nat:=(sx-1) / 2
def CNn:Nat:=151655185184498381465642749684540099398075398968325446656007613510403227271200139370504932015952886146304766135027
theorem CZ:2*sxh+1=sx:=by decide+kernel
theorem Jn:4*(sxh / 4)+3=sxh:=by decide+kernel
theorem U1(c:Zp):pw2 (0,c) sxh=(0,-(c^sxh)):=by
 have h:=aay c (sxh / 4)
 rw[Jn]at h
 exact h
theorem VD:pm 2 PP (64*6) sxh+CNn=PP:=by decide+kernel
theorem TE: -(zp 2^sxh)=zp CNn:=vz (by
 rw[Cz 2 sxh (64*6) (GI eH (by have:=sx_val;have:=CZ;have:=mw;omega)),←gC,VD,mW])
theorem Am:GA=(-(zp CNn),zp CNn):=by
 have e:pw2 XI sx=ml2 (pw2 (pw2 XI 2) sxh) XI:=by rw[←CK,←CZ];rfl
 rw[GA,e,YB,U1,TE]
 generalize zp CNn=a
 refine bO ?_ ?_
 ·show 0*1-a*1= -a
  rw[ss,ss,ZL]
 ·show 0*1+a*1=a
  rw[ss,ss,YS]
end
section
theorem OP(x:W12): ∀n,K12.pw x (PP^n)=kH x n
 |0=>by rw[Nat.pow_zero,K12.pw_one];rfl
 |n+1=>by rw[Nat.pow_succ,K12.pw_mul,OP x n,gU];rfl
theorem Tl(x:W12):K12.pw x (PP^6)=de x:=(OP x 6).trans (jR x)
/-! ### As the reference reckons it -/
def tnd(u:Nat)(x:W12):W12:=de (K12.pw x u)
def fi1(x:W12):W12:=K12.mul (de x) (vn x)
def fi2(x:W12):W12:=K12.mul (cD (cD x)) x
def fi3(u:Nat)(x:W12):W12:=K12.mul (tnd u x) (de x)
def fi4(u:Nat)(x:W12):W12:=K12.mul (tnd u x) (cD x)
def fi5(u:Nat)(x:W12):W12:=K12.mul (K12.mul (tnd u (tnd u x)) (cD (cD x))) (de x)
def fi6(u:Nat)(x:W12):W12:=K12.mul (K12.mul (K12.mul (fi5 u (fi4 u (fi3 u (fi3 u x)))) x) x) x
def Ai(u:Nat)(x:W12):W12:=fi6 u (fi2 (fi1 x))
section
variable {u p2 p6 n:Nat} (h2: ∀x,cD (cD x)=K12.pw x p2) (h6: ∀x,de x=K12.pw x p6)
end
theorem A9{n:Nat}(h:n-1+1=n):K12.pw K12.zero n=K12.zero:=by rw[←h];exact K12.zero_pw _
section
variable {e:Nat}
end
/-! ### Upright lines -/
end
section
section
variable {α β:Type} {C:Ec α} {D:Ec β} (T:Hw C D)
theorem Hw.ln(a p:α×α)(s:α):D.ln (T.m a) (D.R.mul T.w (T.f s)) (T.m p)=D.R.mul (D.R.mul T.w (D.R.mul T.w T.w)) (T.f (C.ln a s p)):=by
 unfold Ec.ln
 rw[T.fs,T.fs,T.fm,T.fs]
 exact zx D.R [T.w,T.f a.1,T.f a.2,T.f s,T.f p.1,T.f p.2] 0x44556566b355656683556945566a355667 0x55656644b383594a37
theorem Hw.gl [DecidableEq α] [DecidableEq β]{A B P:Pt α}(hA:C.onP A)(hB:C.onP B){F:β→β}(hF: ∀a b,F (D.R.mul a b)=D.R.mul (F a) (F b))(hw:F (D.R.mul T.w (D.R.mul T.w T.w))=D.R.one):F (D.gl (T.p A) (T.p B) (T.p P))=F (T.f (C.gl A B P)):=by
 cases A with
 |none=>rw[C.gl_l,T.f1];rfl
 |some a=>
  cases B with
  |none=>rw[C.gl_m,T.f1];rfl
  |some b=>
   cases P with
   |none=>rw[C.gl_r,T.f1];rfl
   |some p=>
    by_cases ho:C.opp a b
    ·rw[C.gl_opp ho,T.f1]
     exact congrArg F (D.gl_opp (T.opp.2 ho) _)
    ·have hs:=C.sl_slope hA hB ho
     rw[C.gl_sl hA hB ho hs]
     refine (congrArg F (D.gl_sl (T.m_on hA) (T.m_on hB) (fun h=>ho (T.opp.1 h)) (T.sl hs) (T.m p))).trans ?_
     rw[T.ln,hF,hw,D.R.one_mul]
theorem Rg.last{α:Type}(R:Rg α){a b k c h k':α}(x:R.mul (R.mul a b) k=R.mul c h)(y:R.mul k' k=R.one)(z:R.mul h k'=R.one):R.mul a b=c:=
 zl R [a,b,k,c,h,k'] 0x567 0x445b59a535672592 0x9 0x445b55678535675b8595ab (lca (lca (lcm x) (lcm y)) (lcm z))
end
/-! ### The power of p, as a map of the curve -/
theorem J5(x:W12):cD (K12.neg x)=K12.neg (cD x):=by
 have e:K12.add (cD x) (cD (K12.neg x))=K12.zero:=by
  rw[←wo,K12.add_neg,←gU]
  exact A9 (by decide+kernel)
 exact K12.neg_of e
theorem tp:cD K12.zero=K12.zero:=by rw[←gU];exact A9 (by decide+kernel)
theorem D4{x:W12}(h:cD x=K12.zero):x=K12.zero:=by
 have e:=wu x
 rw[show 12=1+11 from rfl,pV,show kH x 1=cD x from rfl,h]at e
 rw[←e]
 have k: ∀n,kH K12.zero n=K12.zero:=fun n=>by
  induction n with
  |zero=>rfl
  |succ n ih=>rw[kH,ih,tp]
 exact k 11
theorem w7(c:W2):cD (em c)=em (cj2 c):=by rw[←gU,xe,Fq]
theorem YV:ml2 (ml2 (ml2 PW (ml2 PW PW)) (ml2 PW (ml2 PW PW))) (cj2 (zp 4,zp 4))=(zp 4,zp 4):=by decide+kernel
theorem W5:ml2 PW GA=on2:=by rw[Am];decide+kernel
def TW12:Tw E12 where
 f:=cD
 w:=em PW
 fa:=wo
 fm:=i7
 fn:=J5
 f0:=tp
 fi:=fun _ h=>D4 h
 wn:=by decide+kernel
 wb:=by
  show K12.mul (K12.mul (K12.mul (em PW) (K12.mul (em PW) (em PW))) (K12.mul (em PW) (K12.mul (em PW) (em PW)))) (cD (em (zp 4,zp 4)))=em (zp 4,zp 4)
  rw[w7,fL,fL,fL,fL,YV]
theorem P6(S:Pt W2):TW12.p (HE.p S)=HE.p (TW2.p S):=by
 cases S with
 |none=>rfl
 |some s=>
  refine congrArg some ?_
  show TW12.m (HE.m s)=HE.m (TW2.m s)
  rw[Gh,Gh]
  refine Prod.ext ?_ ?_
  ·show K12.mul (K12.mul (em PW) (em PW)) (cD (em s.1))=em (ml2 (ml2 PW PW) (cj2 s.1))
   rw[w7,fL,fL]
  ·show K12.mul (K12.mul (em PW) (K12.mul (em PW) (em PW))) (cD (em s.2))=em (ml2 (ml2 PW (ml2 PW PW)) (cj2 s.2))
   rw[w7,fL,fL,fL]
theorem WW_1:WW=wk 1:=wk1.symm
theorem Zu:K12.mul (em PW) (cD WW)=WW:=by
 rw[←gU,WW_1,OC,←K12.mul_assoc,fL,W5]
 exact K12.one_mul _
theorem FE(a:Zp):cj2 (re2 a)=re2 a:=bO rfl (by show-(0:Zp)=0;exact z_n0')
theorem Wc(S:Pt Zp):TW12.p (HB.p S)=HB.p S:=by
 cases S with
 |none=>rfl
 |some q=>
  refine congrArg some ?_
  have h:=Zu
  refine Prod.ext ?_ ?_
  ·show K12.mul (K12.mul (em PW) (em PW)) (cD (K12.mul (K12.mul WW WW) (em (re2 q.1))))=K12.mul (K12.mul WW WW) (em (re2 q.1))
   rw[i7,i7,w7,FE,←K12.mul_assoc,K12.mul_four,h]
  ·show K12.mul (K12.mul (em PW) (K12.mul (em PW) (em PW))) (cD (K12.mul (K12.mul WW (K12.mul WW WW)) (em (re2 q.2))))=K12.mul (K12.mul WW (K12.mul WW WW)) (em (re2 q.2))
   rw[i7,i7,i7,w7,FE,←K12.mul_assoc,K12.mul_four (em PW) (K12.mul (em PW) (em PW)),K12.mul_four (em PW) (em PW) (cD WW) (cD WW),h]
/-! ### The loop's value -/
section
variable {e:Nat} (h6:e % (PP^6-1)=0) (hr:e*ORD % (PP^12-1)=0) (he:e-1+1=e)
end
end
section
theorem n0:ng2 ze2=ze2:=R2.neg_zero
theorem a0(x:W2):ad2 x ze2=x:=R2.add_zero x
theorem l0(x:W2):ad2 ze2 x=x:=R2.zero_add x
end
section
set_option maxRecDepth 1000000
def L63:List Bool:=(List.range 63).map fun i=>(0x5201000000010000:Nat).testBit (62-i)
theorem W3:fT L63 1=UG:=by decide+kernel
/-! ### The power -/
end
section
section
variable {e:Nat} {l:List Bool}
end
/-! ### The generators' -/
end
section
section
variable {α:Type} (C:Ec α)
def Ec.t3(x:α):α:=C.R.add (C.R.add (C.R.mul x x) (C.R.mul x x)) (C.R.mul x x)
def Ec.wdL(J:α×α×α):α×α×α:=(C.sub (C.R.mul (C.t3 J.1) J.1) (C.R.mul (C.R.add J.2.1 J.2.1) J.2.1),C.R.mul (C.t3 J.1) (C.R.mul J.2.2 J.2.2),C.R.mul (C.R.mul J.2.2 (C.R.add J.2.1 J.2.1)) (C.R.mul J.2.2 J.2.2))
def Ec.wdJ(J:α×α×α):α×α×α:=
 let u:=C.t3 J.1
 let d:=C.R.mul (C.R.add J.2.1 J.2.1) J.2.1
 let h:=C.R.add d d
 let b:=C.R.mul h J.1
 let X:=C.sub (C.sub (C.R.mul u u) b) b
 (X,C.sub (C.R.mul u (C.sub b X)) (C.R.mul h d),C.R.mul J.2.2 (C.R.add J.2.1 J.2.1))
def Ec.wjU(J:α×α×α)(q:α×α):α:=C.sub (C.R.mul (C.R.mul q.2 (C.R.mul J.2.2 J.2.2)) J.2.2) J.2.1
def Ec.wjA(J:α×α×α)(q:α×α):α:=C.sub (C.R.mul q.1 (C.R.mul J.2.2 J.2.2)) J.1
def Ec.wjL(J:α×α×α)(q:α×α):α×α×α:=(C.sub (C.R.mul (C.wjU J q) q.1) (C.R.mul (C.R.mul J.2.2 (C.wjA J q)) q.2),C.wjU J q,C.R.mul J.2.2 (C.wjA J q))
def Ec.wjJ(J:α×α×α)(q:α×α):α×α×α:=
 let u:=C.wjU J q
 let a:=C.wjA J q
 let s:=C.R.mul a a
 let t:=C.R.mul s a
 let b:=C.R.mul s J.1
 let X:=C.sub (C.sub (C.sub (C.R.mul u u) t) b) b
 (X,C.sub (C.R.mul u (C.sub b X)) (C.R.mul t J.2.1),C.R.mul J.2.2 a)
end
section
variable {α:Type} [DecidableEq α] (C:Ec α)
end
end
section
abbrev WK:=(Zp×Zp)×(W2×W2)×W6
def LNR(L:W2×W2×W2)(p:Zp×Zp):W6:=(L.1,ng2 (sc2 L.2.1 p.1),sc2 L.2.2 p.2)
def lel(t:W6):W12:=((t.1,t.2.1,ze2),(ze2,t.2.2,ze2))
def wDb(w:WK):WK:=(w.1,w.2.1,E2w.wdJ w.2.2)
def rDb(w:WK):W6:=LNR (E2w.wdL w.2.2) w.1
def wJn(w:WK):WK:=if w.2.2.2.2=ze2 then (w.1,w.2.1,(w.2.1.1,w.2.1.2,on2))else (w.1,w.2.1,E2w.wjJ w.2.2 w.2.1)
def rJn(w:WK):W6:=if w.2.2.2.2=ze2 then (on2,ze2,ze2)else LNR (E2w.wjL w.2.2 w.2.1) w.1
def jc(g:WK→W6):List WK→W12→W12
 |[],f=>f
 |w::l,f=>jc g l (K12.mul (lel (g w)) f)
def rdF(d:Bool)(S:List WK×W12):List WK×W12:=
 bif d then ((S.1.map wDb).map wJn,jc rJn (S.1.map wDb) (jc rDb S.1 (K12.mul S.2 S.2)))else (S.1.map wDb,jc rDb S.1 (K12.mul S.2 S.2))
def rdK(l:List Bool)(S:List WK×W12):List WK×W12:=l.foldl (fun S d=>rdF d S) S
theorem Nd(l:List Bool)(d:Bool)(S:List WK×W12):rdK (l++[d]) S=rdF d (rdK l S):=by rw[rdK,List.foldl_append];rfl
/-! ### Products -/
def Ug:List W12→W12
 |[]=>K12.one
 |x::l=>K12.mul x (Ug l)
def Up6(a b:W12):Prop:= ∃c:W6,c≠K6.zero∧a=K12.mul (r6 c) b
theorem Up6.pr{g h:WK→W12}: ∀{l:List WK},(∀w∈l,Up6 (g w) (h w))→Up6 (Ug (l.map g)) (Ug (l.map h))
 |[],_=>Up6.refl _
 |w::_,k=>(k w List.mem_cons_self).mul (Up6.pr fun v hv=>k v (List.mem_cons_of_mem _ hv))
/-! ### One round -/
theorem hrO{d:Nat}(h0:0<d)(h1:d<ORD): ∃e,(d*e) % ORD=1:=uR tU h0 h1
/-! ### All rounds -/
theorem nW(d:Bool): ∀(l:List Bool) (n:Nat),fT (l++[d]) n=2*fT l n+d.toNat
 |[],n=>by cases d<;>rfl
 |e::l,n=>by rw[List.cons_append,B4,B4];exact nW d l _
def wkB(p:Zp×Zp)(q:W2×W2):WK:=(p,q,(q.1,q.2,on2))
end
section
open Go.RowKit
attribute [local simp] a7 bv aJ aB aQ a5 aT aK aO bf bC a6 bz J1.bE J2.bE
theorem ent163:ak prog 163:=fun _ _=>kr
theorem ent228:ak prog 228:=fun _ _=>kr
theorem ent229:ak prog 229:=fun _ _=>kr
theorem ent195:ak prog 195:=fun _ _=>kr
theorem ent198:ak prog 198:=fun _ _=>kr
theorem ent199:ak prog 199:=fun _ _=>kr
theorem ent200:ak prog 200:=fun _ _=>kr
theorem ent230:ak prog 230:=fun _ _=>kr
theorem ent222:ak prog 222:=fun _ _=>kr
namespace Q6
def TO201:Tb prog Gt:=J2.TO68.add (BE (g:=K6.one) ent203 Pg)
def TO202:Tb prog Gt:=TO201.add (r3 (g:=fun x y=>decide (x=y)) ent202 pN)
def TO203:Tb prog Gt:=TO202.add (cC (g:=K6.add) ent225 ol)
def TO204:Tb prog Gt:=TO203.add (cC (g:=sb6) ent227 q9)
def TO205:Tb prog Gt:=TO204.add (cO (g:=K6.neg) ent232 FN)
def TO206:Tb prog Gt:=TO205.add (cC (g:=K6.mul) ent224 ni)
def TO207:Tb prog Gt:=TO206.add (cO (g:=fun x=>K6.mul x x) ent258 nH)
theorem pd{f:Nat}{g:W6→W2→W6}(en:ak prog f)(h: ∀a b,PUR f [EV6 a,EV2 b] (EV6 (g a b))):Snd prog Gt f (c2 q6.ag q2.ag q6.rd g):=gK q6.ag q2.ag q6.rd en (fun a b=>bZ (l2 (V6 _).symm rfl) (V6 _).symm (h a b))
def TO208:Tb prog Gt:=TO207.add (pd (g:=sc6) ent231 BX)
def TO209:Tb prog Gt:=TO208.add (cO (g:=v6) ent226 k6v)
def TO210:Tb prog Gt:=TO209.add (cO (g:=oth) ent274 rC)
def TO211:Tb prog Gt:=TO210.add (cO (g:=iv6) ent259 IA)
def TO212:Tb prog Gt:=TO211.add (Kn (g:=K12.one) ent165 uq)
def TO213:Tb prog Gt:=TO212.add (j7 (g:=fun x y=>decide (x=y)) ent164 qs)
def TO215:Tb prog Gt:=TO213.add (eG (g:=de) ent201 Bj)
def TO216:Tb prog Gt:=TO215.add (mI (g:=K12.mul) ent218 Hj)
def TO217:Tb prog Gt:=TO216.add (eG (g:=fun x=>K12.mul x x) ent197 nR)
def TO218:Tb prog Gt:=TO217.add (eG (g:=vn) ent220 T4)
def XY3(x:W6):W2×W2×Bool:=if x.2.2=ze2 then (ze2,ze2,false)else (ml2 x.1 (ml2 (iv2 x.2.2) (iv2 x.2.2)),ml2 x.2.1 (ml2 (ml2 (iv2 x.2.2) (iv2 x.2.2)) (iv2 x.2.2)),true)
theorem xy3(x:W6):PUR 80 [EV6 x] (.tuple #[EV2 (XY3 x).1,EV2 (XY3 x).2.1,.bool (XY3 x).2.2]):=by
 by_cases h:x.2.2=ze2
 ·rw[show XY3 x=(ze2,ze2,false)from if_pos h];exact J2.BZ x h
 ·rw[show XY3 x=_ from if_neg h];exact J2.Cn x h
theorem vD{f:Nat}{g:W6→W2×W2×Bool}(en:ak prog f)(h: ∀a,PUR f [EV6 a] (.tuple #[EV2 (g a).1,EV2 (g a).2.1,.bool (g a).2.2])):Snd prog Gt f (c1 q6.ag q2.rdBB g):=gI q6.ag q2.rdBB en (fun a=>bZ (l1 (V6 _).symm) rfl (h a))
def TO219:Tb prog Gt:=TO218.add (vD (g:=XY3) ent80 xy3)
def TG2(x y:W2):W2×W2:=(ad2 (ad2 (ml2 x x) (ml2 x x)) (ml2 x x),ad2 y y)
theorem mtan(x y:W2):PUR 228 [EV2 x,EV2 y] (.tuple #[EV2 (TG2 x y).1,EV2 (TG2 x y).2]):=pE TO219 func228 [.inl [x.1,x.2],.inl [y.1,y.2]] (.inr [.inl [((TG2 x y).1).1,((TG2 x y).1).2],.inl [((TG2 x y).2).1,((TG2 x y).2).2]]) (let t0:=ml2 x x;let t1:=ad2 (t0.1,t0.2) (t0.1,t0.2);let t2:=ad2 (t1.1,t1.2) (t0.1,t0.2);let t3:=ad2 y y;(.inr [.inl [t2.1,t2.2],.inl [t3.1,t3.2]],[])) [] kr aE rfl
theorem nV{f:Nat}{g:W2→W2→W2×W2}(en:ak prog f)(h: ∀a b,PUR f [EV2 a,EV2 b] (.tuple #[EV2 (g a b).1,EV2 (g a b).2])):Snd prog Gt f (c2 q2.ag q2.ag q2.rd2 g):=gK q2.ag q2.ag q2.rd2 en h
def TO220:Tb prog Gt:=TO219.add (nV (g:=TG2) ent228 mtan)
def LR5(p q:Zp)(a b c:W2):W6:=(a,ng2 (sc2 b p),sc2 c q)
theorem K4(p q:Zp)(a b c:W2):PUR 229 [EV p,EV q,EV2 a,EV2 b,EV2 c] (EV6 (LR5 p q a b c)):=(bZ rfl (V6 _) (pE TO220 func229 [.inl [p],.inl [q],.inl [a.1,a.2],.inl [b.1,b.2],.inl [c.1,c.2]] (.inl (.inl [(LR5 p q a b c).1.1,(LR5 p q a b c).1.2,(LR5 p q a b c).2.1.1,(LR5 p q a b c).2.1.2,(LR5 p q a b c).2.2.1,(LR5 p q a b c).2.2.2])) (let t0:=sc2 b p;let t1:=ng2 (t0.1,t0.2);let t2:=sc2 c q;(.inl (.inl [a.1,a.2,t1.1,t1.2,t2.1,t2.2]),[])) [] kr aE rfl))
theorem gR{f:Nat}{g:Zp→Zp→W2→W2→W2→W6}(en:ak prog f)(h: ∀a b c d e,PUR f [EV a,EV b,EV2 c,EV2 d,EV2 e] (EV6 (g a b c d e))):Snd prog Gt f (c5 q1.ag q1.ag q2.ag q2.ag q2.ag q6.rd g):=WO q1.ag q1.ag q2.ag q2.ag q2.ag q6.rd en (fun a b c d e=>bZ rfl (V6 _).symm (h a b c d e))
def TO221:Tb prog Gt:=TO220.add (gR (g:=LR5) ent229 K4)
def SHT(a:W6)(b c:W2):W6:=(ad2 (ml2 a.1 b) (xi2 (ml2 a.2.2 c)),E2w.sub (E2w.sub (ml2 (ad2 a.1 a.2.1) (ad2 b c)) (ml2 a.1 b)) (ml2 a.2.1 c),ad2 (ml2 a.2.1 c) (ml2 a.2.2 b))
theorem Vt(a:W6)(b c:W2):PUR 230 [EV6 a,EV2 b,EV2 c] (EV6 (SHT a b c)):=(bZ (l3 (V6 _) rfl rfl) (V6 _) (pE TO221 func230 [.inl [a.1.1,a.1.2,a.2.1.1,a.2.1.2,a.2.2.1,a.2.2.2],.inl [b.1,b.2],.inl [c.1,c.2]] (.inl (.inl [(SHT a b c).1.1,(SHT a b c).1.2,(SHT a b c).2.1.1,(SHT a b c).2.1.2,(SHT a b c).2.2.1,(SHT a b c).2.2.2])) (let t0:=ml2 (a.1.1,a.1.2) b;let t1:=ml2 (a.2.1.1,a.2.1.2) c;let t2:=ad2 (a.1.1,a.1.2) (a.2.1.1,a.2.1.2);let t3:=ad2 b c;let t4:=ml2 (t2.1,t2.2) (t3.1,t3.2);let t5:=E2w.sub (t4.1,t4.2) (t0.1,t0.2);let t6:=E2w.sub (t5.1,t5.2) (t1.1,t1.2);let t7:=ml2 (a.2.2.1,a.2.2.2) c;let t8:=xi2 (t7.1,t7.2);let t9:=ad2 (t0.1,t0.2) (t8.1,t8.2);let t10:=ml2 (a.2.2.1,a.2.2.2) b;let t11:=ad2 (t1.1,t1.2) (t10.1,t10.2);(.inl (.inl [t9.1,t9.2,t6.1,t6.2,t11.1,t11.2]),[])) [] kr aE rfl))
theorem lF{f:Nat}{g:W6→W2→W2→W6}(en:ak prog f)(h: ∀a b c,PUR f [EV6 a,EV2 b,EV2 c] (EV6 (g a b c))):Snd prog Gt f (c3 q6.ag q2.ag q2.ag q6.rd g):=Zl q6.ag q2.ag q2.ag q6.rd en (fun a b c=>bZ (l3 (V6 _).symm rfl rfl) (V6 _).symm (h a b c))
def TO222:Tb prog Gt:=TO221.add (lF (g:=SHT) ent230 Vt)
end Q6
end
section
open Go.RowKit
attribute [local simp] a7 bv aJ aB aQ a5 aT aK aO bf bC a6 bz J1.bE J2.bE
namespace Q6
theorem J8(a:W6)(b c:W2):SHT a b c=K6.mul a (b,c,ze2):=Prod.ext (zq R2 [a.1,a.2.1,a.2.2,b,c,XI] (ta (tm j0 j3) (txi 5 (tm j2 j4) rfl)) (ta (tm j0 j3) (tm j5 (ta (tm j1 tz0) (tm j2 j4))))) (Prod.ext (zq R2 [a.1,a.2.1,a.2.2,b,c,XI] (ta (ta (tm (ta j0 j1) (ta j3 j4)) (tn (tm j0 j3))) (tn (tm j1 j4))) (ta (ta (tm j0 j4) (tm j1 j3)) (tm j5 (tm j2 tz0)))) (zq R2 [a.1,a.2.1,a.2.2,b,c,XI] (ta (tm j1 j4) (tm j2 j3)) (ta (ta (tm j0 tz0) (tm j1 j4)) (tm j2 j3))))
def TMS(t:W6)(f:W12):W12:=(K6.add (SHT f.1 t.1 t.2.1) (v6 (v6 (sc6 f.2 t.2.2))),sb6 (sb6 (SHT (K6.add f.1 f.2) t.1 (ad2 t.2.1 t.2.2)) (SHT f.1 t.1 t.2.1)) (v6 (sc6 f.2 t.2.2)))
theorem Ph(t:W6):lel t=((t.1,t.2.1,ze2),K6.mul (t.2.2,ze2,ze2) VV):=Prod.ext rfl (by rw[Ba];exact Prod.ext (show ze2=xi2 ze2 by rw[I0];exact (R2.zero_mul _).symm) rfl)
theorem SE(t:W6):(t.1,ad2 t.2.1 t.2.2,ze2)=K6.add (t.1,t.2.1,ze2) (K6.mul (t.2.2,ze2,ze2) VV):=by
 rw[←show ((lel t).2:W6)=K6.mul (t.2.2,ze2,ze2) VV from congrArg Prod.snd (Ph t)]
 exact Prod.ext (R2.add_zero _).symm (Prod.ext rfl (R2.add_zero _).symm)
theorem TS(t:W6)(f:W12):TMS t f=K12.mul (lel t) f:=by
 rw[TMS,Ph,J8,J8,zu,zu,SE,←JQ,←Ba,←Ba]
 exact Prod.ext (zq K6 [f.1,f.2,(t.1,t.2.1,ze2),(t.2.2,ze2,ze2),VV] (ta (tm j0 j2) (tm (tm (tm j1 j3) j4) j4)) (ta (tm j2 j0) (tm j4 (tm (tm j3 j4) j1)))) (zq K6 [f.1,f.2,(t.1,t.2.1,ze2),(t.2.2,ze2,ze2),VV] (ta (ta (tm (ta j0 j1) (ta j2 (tm j3 j4))) (tn (tm j0 j2))) (tn (tm (tm j1 j3) j4))) (ta (tm j2 j1) (tm (tm j3 j4) j0)))
theorem CE(t:W6)(f:W12):PUR 199 [EV6 t,cF f] (cF (TMS t f)):=(bZ (l2 (V6 _) (V12 _)) (V12 _) (pE TO222 func199 [.inl [t.1.1,t.1.2,t.2.1.1,t.2.1.2,t.2.2.1,t.2.2.2],.inl [f.1.1.1,f.1.1.2,f.1.2.1.1,f.1.2.1.2,f.1.2.2.1,f.1.2.2.2,f.2.1.1,f.2.1.2,f.2.2.1.1,f.2.2.1.2,f.2.2.2.1,f.2.2.2.2]] (.inl (.inl [(TMS t f).1.1.1,(TMS t f).1.1.2,(TMS t f).1.2.1.1,(TMS t f).1.2.1.2,(TMS t f).1.2.2.1,(TMS t f).1.2.2.2,(TMS t f).2.1.1,(TMS t f).2.1.2,(TMS t f).2.2.1.1,(TMS t f).2.2.1.2,(TMS t f).2.2.2.1,(TMS t f).2.2.2.2])) (let t0:=SHT ((f.1.1.1,f.1.1.2),(f.1.2.1.1,f.1.2.1.2),(f.1.2.2.1,f.1.2.2.2)) (t.1.1,t.1.2) (t.2.1.1,t.2.1.2);let t1:=sc6 ((f.2.1.1,f.2.1.2),(f.2.2.1.1,f.2.2.1.2),(f.2.2.2.1,f.2.2.2.2)) (t.2.2.1,t.2.2.2);let t2:=v6 ((t1.1.1,t1.1.2),(t1.2.1.1,t1.2.1.2),(t1.2.2.1,t1.2.2.2));let t3:=K6.add ((f.1.1.1,f.1.1.2),(f.1.2.1.1,f.1.2.1.2),(f.1.2.2.1,f.1.2.2.2)) ((f.2.1.1,f.2.1.2),(f.2.2.1.1,f.2.2.1.2),(f.2.2.2.1,f.2.2.2.2));let t4:=ad2 (t.2.1.1,t.2.1.2) (t.2.2.1,t.2.2.2);let t5:=SHT ((t3.1.1,t3.1.2),(t3.2.1.1,t3.2.1.2),(t3.2.2.1,t3.2.2.2)) (t.1.1,t.1.2) (t4.1,t4.2);let t6:=v6 ((t2.1.1,t2.1.2),(t2.2.1.1,t2.2.1.2),(t2.2.2.1,t2.2.2.2));let t7:=K6.add ((t0.1.1,t0.1.2),(t0.2.1.1,t0.2.1.2),(t0.2.2.1,t0.2.2.2)) ((t6.1.1,t6.1.2),(t6.2.1.1,t6.2.1.2),(t6.2.2.1,t6.2.2.2));let t8:=sb6 ((t5.1.1,t5.1.2),(t5.2.1.1,t5.2.1.2),(t5.2.2.1,t5.2.2.2)) ((t0.1.1,t0.1.2),(t0.2.1.1,t0.2.1.2),(t0.2.2.1,t0.2.2.2));let t9:=sb6 ((t8.1.1,t8.1.2),(t8.2.1.1,t8.2.1.2),(t8.2.2.1,t8.2.2.2)) ((t2.1.1,t2.1.2),(t2.2.1.1,t2.2.1.2),(t2.2.2.1,t2.2.2.2));(.inl (.inl [t7.1.1,t7.1.2,t7.2.1.1,t7.2.1.2,t7.2.2.1,t7.2.2.2,t9.1.1,t9.1.2,t9.2.1.1,t9.2.1.2,t9.2.2.1,t9.2.2.2]),[])) [] kr aE rfl))
theorem jk{f:Nat}{g:W6→W12→W12}(en:ak prog f)(h: ∀a b,PUR f [EV6 a,cF b] (cF (g a b))):Snd prog Gt f (c2 q6.ag q12.ag q12.rd g):=gK q6.ag q12.ag q12.rd en (fun a b=>bZ (l2 (V6 _).symm (V12 _).symm) (V12 _).symm (h a b))
def TO223:Tb prog Gt:=TO222.add (jk (g:=TMS) ent199 CE)
theorem Ad(t:W6)(f:W12):PUR 199 [EV6 t,cF f] (cF (K12.mul (lel t) f)):=by rw[←TS];exact CE t f
def TO224:Tb prog Gt:=TO223.add (jk (g:=fun t f=>K12.mul (lel t) f) ent199 Ad)
def kU(w:WK):List Zp:=[w.1.1,w.1.2,w.2.1.1.1,w.2.1.1.2,w.2.1.2.1,w.2.1.2.2,w.2.2.1.1,w.2.2.1.2,w.2.2.2.1.1,w.2.2.2.1.2,w.2.2.2.2.1,w.2.2.2.2.2]
theorem pM{f:FuncId}{fn:Func}{c:Code}(T:Tb prog Gt)(hf:prog.funcs[f]? =some fn)(a:List S0)(l l':List Zp)(t:TypeId)(u:S0)(vc:S1×CB)(p:Pa)(h:xM T fn c a l t p=some vc)(hc:Ok vc.2)(e:vc.1=.inr [u,.inl l']){b:Nat}{pre post:List Value}{w:World}(hw:Gt w)(hb:8≤b)(ho:OwnB w b (pre++(clv l++post)) t)
 (hbd:fn.body=some c:=by rfl) (hn:Nat.ble (a.length+1) fn.ntmps=true:=by rfl) (hN:Nat.ble fn.ntmps 1000000=true:=by rfl) (ha:a.all npS=true:=by rfl):
 CLS f (.pointer (some ⟨b,pre.length,none⟩)::a.map (dn rid)).toArray w (fun e w'=>e=.returned (dn rid u)∧Mod b w w'∧OwnB w' b (pre++(clv l'++post)) t):=
 Ly T cL hf hbd (cs:=vc.2) (by rw[←e];exact h) hc hn hN ha ((gt_low.from (M:=fun k=>k=b) hw (fun m hm=>by subst hm;exact hb)).ok (B:=plM w (fun k=>k=b)) ao) ho
theorem VZ{P:Program}{f:FuncId}{xs ys:List Value}{w:World}{b:Nat}{v v':Value}{c c':List Value}{t:TypeId}(h:Calls P f xs.toArray w (fun e w'=>e=.returned v∧Mod b w w'∧OwnB w' b c t))(ha:ys=xs)(hv:v'=v)(hc:c'=c):Calls P f ys.toArray w (fun e w'=>e=.returned v'∧Mod b w w'∧OwnB w' b c' t):=by subst ha;subst hv;subst hc;exact h
theorem mdbl(w:WK){b:Nat}{pre post:List Value}{W:World}(hw:Gt W)(hb:8≤b)(ho:OwnB W b (pre++(clv (kU w)++post)) 240):
 CLS 198 [.pointer (some ⟨b,pre.length,none⟩)].toArray W (fun e W'=>e=.returned (EV6 (rDb w))∧Mod b W W'∧OwnB W' b (pre++(clv (kU (wDb w))++post)) 240):=
 VZ (pM TO224 func198 [] ([w.1.1,w.1.2,w.2.1.1.1,w.2.1.1.2,w.2.1.2.1,w.2.1.2.2,w.2.2.1.1,w.2.2.1.2,w.2.2.2.1.1,w.2.2.2.1.2,w.2.2.2.2.1,w.2.2.2.2.2]) (kU (wDb w)) 240 (.inl [(rDb w).1.1,(rDb w).1.2,(rDb w).2.1.1,(rDb w).2.1.2,(rDb w).2.2.1,(rDb w).2.2.2]) (let t0:=(TG2 (w.2.2.1.1,w.2.2.1.2) (w.2.2.2.1.1,w.2.2.2.1.2)).1;let t1:=(TG2 (w.2.2.1.1,w.2.2.1.2) (w.2.2.2.1.1,w.2.2.2.1.2)).2;let t2:=ml2 (w.2.2.2.2.1,w.2.2.2.2.2) (t1.1,t1.2);let t3:=ml2 (t1.1,t1.2) (w.2.2.2.1.1,w.2.2.2.1.2);let t4:=ml2 (w.2.2.2.2.1,w.2.2.2.2.2) (w.2.2.2.2.1,w.2.2.2.2.2);let t5:=ml2 (t0.1,t0.2) (w.2.2.1.1,w.2.2.1.2);let t6:=E2w.sub (t5.1,t5.2) (t3.1,t3.2);let t7:=ml2 (t0.1,t0.2) (t4.1,t4.2);let t8:=ml2 (t2.1,t2.2) (t4.1,t4.2);let t9:=LR5 w.1.1 w.1.2 (t6.1,t6.2) (t7.1,t7.2) (t8.1,t8.2);let t10:=ad2 (t3.1,t3.2) (t3.1,t3.2);let t11:=ml2 (t10.1,t10.2) (w.2.2.1.1,w.2.2.1.2);let t12:=ml2 (t0.1,t0.2) (t0.1,t0.2);let t13:=E2w.sub (t12.1,t12.2) (t11.1,t11.2);let t14:=E2w.sub (t13.1,t13.2) (t11.1,t11.2);let t15:=E2w.sub (t11.1,t11.2) (t14.1,t14.2);let t16:=ml2 (t0.1,t0.2) (t15.1,t15.2);let t17:=ml2 (t10.1,t10.2) (t3.1,t3.2);let t18:=E2w.sub (t16.1,t16.2) (t17.1,t17.2);(.inr [.inl [t9.1.1,t9.1.2,t9.2.1.1,t9.2.1.2,t9.2.2.1,t9.2.2.2],.inl [w.1.1,w.1.2,w.2.1.1.1,w.2.1.1.2,w.2.1.2.1,w.2.1.2.2,t14.1,t14.2,t18.1,t18.2,t2.1,t2.2]],[])) [] kr aE rfl hw hb ho) rfl (V6 _) rfl
theorem mjn(w:WK){b:Nat}{pre post:List Value}{W:World}(h: ¬w.2.2.2.2=ze2)(hw:Gt W)(hb:8≤b)(ho:OwnB W b (pre++(clv (kU w)++post)) 240):
 CLS 200 [.pointer (some ⟨b,pre.length,none⟩)].toArray W (fun e W'=>e=.returned (EV6 (rJn w))∧Mod b W W'∧OwnB W' b (pre++(clv (kU (wJn w))++post)) 240):=by
 rw[show rJn w=LNR (E2w.wjL w.2.2 w.2.1) w.1 from if_neg h,show wJn w=(w.1,w.2.1,E2w.wjJ w.2.2 w.2.1)from if_neg h]
 exact VZ (pM TO224 func200 [] ([w.1.1,w.1.2,w.2.1.1.1,w.2.1.1.2,w.2.1.2.1,w.2.1.2.2,w.2.2.1.1,w.2.2.1.2,w.2.2.2.1.1,w.2.2.2.1.2,w.2.2.2.2.1,w.2.2.2.2.2]) (kU ((w.1,w.2.1,E2w.wjJ w.2.2 w.2.1))) 240 (.inl [(LNR (E2w.wjL w.2.2 w.2.1) w.1).1.1,(LNR (E2w.wjL w.2.2 w.2.1) w.1).1.2,(LNR (E2w.wjL w.2.2 w.2.1) w.1).2.1.1,(LNR (E2w.wjL w.2.2 w.2.1) w.1).2.1.2,(LNR (E2w.wjL w.2.2 w.2.1) w.1).2.2.1,(LNR (E2w.wjL w.2.2 w.2.1) w.1).2.2.2]) (let t0:=ml2 (w.2.2.2.2.1,w.2.2.2.2.2) (w.2.2.2.2.1,w.2.2.2.2.2);let t1:=ml2 (w.2.1.2.1,w.2.1.2.2) (t0.1,t0.2);let t2:=ml2 (t1.1,t1.2) (w.2.2.2.2.1,w.2.2.2.2.2);let t3:=E2w.sub (t2.1,t2.2) (w.2.2.2.1.1,w.2.2.2.1.2);let t4:=ml2 (w.2.1.1.1,w.2.1.1.2) (t0.1,t0.2);let t5:=E2w.sub (t4.1,t4.2) (w.2.2.1.1,w.2.2.1.2);let t6:=ml2 (w.2.2.2.2.1,w.2.2.2.2.2) (t5.1,t5.2);let t7:=ml2 (t3.1,t3.2) (w.2.1.1.1,w.2.1.1.2);let t8:=ml2 (t6.1,t6.2) (w.2.1.2.1,w.2.1.2.2);let t9:=E2w.sub (t7.1,t7.2) (t8.1,t8.2);let t10:=LR5 w.1.1 w.1.2 (t9.1,t9.2) (t3.1,t3.2) (t6.1,t6.2);let t11:=ml2 (t5.1,t5.2) (t5.1,t5.2);let t12:=ml2 (t11.1,t11.2) (t5.1,t5.2);let t13:=ml2 (t11.1,t11.2) (w.2.2.1.1,w.2.2.1.2);let t14:=ml2 (t3.1,t3.2) (t3.1,t3.2);let t15:=E2w.sub (t14.1,t14.2) (t12.1,t12.2);let t16:=E2w.sub (t15.1,t15.2) (t13.1,t13.2);let t17:=E2w.sub (t16.1,t16.2) (t13.1,t13.2);let t18:=E2w.sub (t13.1,t13.2) (t17.1,t17.2);let t19:=ml2 (t3.1,t3.2) (t18.1,t18.2);let t20:=ml2 (t12.1,t12.2) (w.2.2.2.1.1,w.2.2.2.1.2);let t21:=E2w.sub (t19.1,t19.2) (t20.1,t20.2);(.inr [.inl [t10.1.1,t10.1.2,t10.2.1.1,t10.2.1.2,t10.2.2.1,t10.2.2.2],.inl [w.1.1,w.1.2,w.2.1.1.1,w.2.1.1.2,w.2.1.2.1,w.2.1.2.2,t17.1,t17.2,t21.1,t21.2,t6.1,t6.2]],[(decide ((w.2.2.2.2.1,w.2.2.2.2.2)=ze2),false)])) [some false] kr (ap (decide_eq_false h) aE) rfl hw hb ho) rfl (V6 _) rfl
end Q6
end
section
open Go.RowKit
attribute [local simp] a7 bv aJ aB aQ a5 aT aK aO bf bC a6 bz
theorem Uv:PUR 223 [U64 15132376222941642752#64] (I 64):=by
 intro w hw
 refine Hf func223 rfl hw<|fun hGF=>Xp<|Asg rfl<|aa<|ah<|Xp<|Mv rfl<|Bnb true rfl rfl (fun _=>go _ _ _) dc<|aa<|aR rfl<|Xp<|Mv rfl<|Bnr (v:=U64 3523280896#64) rfl rfl (fun _=>(cG _ _ 32#64).trans rr)<|Asg rfl<|aa<|Xq<|Asg rfl<|aa<|ah<|Xp<|Mv rfl<|Bnb true rfl rfl (fun _=>go _ _ _) dc<|aa<|aR rfl<|Xp<|Mv rfl<|Bnr (v:=U64 53761#64) rfl rfl (fun _=>(cG _ _ 16#64).trans rr)<|Asg rfl<|aa<|Xq<|Mv rfl<|Bnr (v:=I 48) rfl rfl (fun _=>(au _ _ _ (by unfold inI;decide)).trans rr)<|Asg rfl<|aa<|ah<|Xp<|Mv rfl<|Bnb true rfl rfl (fun _=>go _ _ _) dc<|aa<|aR rfl<|?_
 refine Xp<|Mv rfl<|Bnr (v:=U64 210#64) rfl rfl (fun _=>(cG _ _ 8#64).trans rr)<|Asg rfl<|aa<|Xq<|Mv rfl<|Bnr (v:=I 56) rfl rfl (fun _=>(au _ _ _ (by unfold inI;decide)).trans rr)<|Asg rfl<|aa<|Xp<|Mv rfl<|Mv rfl<|ca rfl rfl (fun _=>eV underlying24 underlying5 _) rfl rfl<|vg (n:=8#8) rfl rfl underlying9 dc kr rfl rfl<|ca rfl rfl (fun _=>D3 underlying5 underlying3 _) rfl rfl<|Bnr (v:=I 64) rfl rfl (fun _=>(au _ _ _ (by unfold inI;decide)).trans rr)<|Asg rfl<|aa<|am<|Rr<|?_
 exact aG rfl rfl (fun w hw=>⟨rfl,ac hw⟩)
theorem EX:PUR 196 [] (.func (.func 222) #[] #[]):=by
 intro w hw
 refine Hf func196 rfl hw<|fun hGF=>Xp<|Asg rfl<|aa<|Xp<|Asg rfl<|aa<|am<|Rr<|?_
 exact aG rfl rfl (fun w hw=>⟨rfl,ac hw⟩)
def DGb(k:Nat):Bool:=15132376222941642752#64>>>(62-k) &&& 1#64==1#64
def D63:List Bool:=(List.range 63).map DGb
theorem u4:D63.length=63:=by rw[D63,List.length_map,List.length_range]
theorem u2{k:Nat}(h:k<63):D63[k]? =some (DGb k):=by rw[D63,List.getElem?_map,List.getElem?_range h];rfl
def DGs:List (List Value):=D63.map fun d=>[.bool d]
theorem pn:DGs.length=63:=by rw[DGs,List.length_map,u4]
theorem Cy{k:Nat}(h:k<63):DGs[k]? =some [.bool (DGb k)]:=by rw[DGs,List.getElem?_map,u2 h];rfl
theorem FR{k:Nat}{v:List Value}(h:DGs[k]? =some v):k<63∧v=[.bool (DGb k)]:=by
 have hk:k<63:=by
  rcases Nat.lt_or_ge k 63 with hk|hk
  ·exact hk
  ·rw[List.getElem?_eq_none (by rw[pn];exact hk)]at h;cases h
 exact ⟨hk,(Option.some.inj ((Cy hk).symm.trans h)).symm⟩
theorem xx:fV prog Gt 222 [] DGs (fun _=>True):=by
 intro l J Jx hJ hJx hRd hGx hY w hj
 have okJ: ∀k,BOk Gt (Bi w (fun Y=>J Y k)):=fun k=>⟨fun _ _ _ h=>(hRd _ _ _ h.rid).1,hJ k⟩
 have okX: ∀k,BOk Gt (Bi w (fun Y=>Jx Y k)):=fun k=>⟨fun _ _ _ h=>hGx _ _ _ h.rid,hJx k⟩
 refine cx (G:=Gt) func222 rfl rfl (Hp (Bi w (fun Y=>J Y 0)) []) (cm (Bi w _) hj (hJ 0)) (aA (okJ 0))<|Xp<|Ca rfl (Uv)<|Bnr (v:=I 62) rfl rfl (fun _=>(aX _ _ _ (by unfold inI;decide)).trans rr)<|Asg rfl<|aa<|ai<|gQ (ι:={k:Nat // k≤63}) (fun x=>[(0,.func (.yield l) #[] #[]),(2,I (62-(x.1:Int)))]) (fun x=>Bi w (fun Y=>J Y x.1)) (fun x=>[]) (fun x=>63-x.1) ⟨0,Nat.zero_le _⟩ (fun _=>okJ _) rfl trv trivial<|?_
 rintro ⟨k,hk⟩
 dsimp only
 refine ah<|Xp<|Mv rfl<|Bnr (v:=.bool (decide (k<63))) rfl rfl (fun _=>(df _ _ _).trans (by rw[show decide ((62-(k:Int))≥0)=decide (k<63)from decide_eq_decide.2 om]))<|aa<|?_
 refine bG rfl (fun hc=> ?_) (fun hc=> ?_)
 ·have hk2:k<63:=by simpa using hc
  refine aq<|ah<|ai<|Xp<|Mv rfl<|Mv rfl<|Bnr (v:=U64 (15132376222941642752#64>>>(62-k))) rfl rfl (fun _=>(cZ _ _ _ om).trans (by rw[show (62-(k:Int)).toNat=62-k by omega]))<|Bnr (v:=U64 (15132376222941642752#64>>>(62-k) &&& 1#64)) rfl rfl (fun _=>ez _ _ 1#64)<|Bnr (v:=.bool (DGb k)) rfl rfl (fun _=>bx _ _ 1#64)<|?_
  refine dC (hY.b (k:=k) (Cy hk2) w) (okJ _) (okX _) rfl rfl rfl rfl rfl ?_ ?_
  ·refine bu rfl (fun _=>a9 _) rfl rfl<|aa<|aC rfl<|aq<|Xq<|Mv rfl<|Bnr (v:=I (62-((k+1:Nat):Int))) rfl rfl (fun _=>(aX _ _ _ oi).trans (by rw[show 62-(k:Int)-1=62-((k+1:Nat):Int) by omega]))<|Asg rfl<|aa<|?_
   repeat (refine aP ?_)
   exact aD<|⟨rfl,⟨k+1,om⟩,_,by show 63-(k+1)<63-k;omega,rfl,trv,trivial⟩
  ·refine bu rfl (fun _=>a9 _) rfl rfl<|aa<|aR rfl<|am<|Rr<|?_
   repeat (first|refine dH ?_|refine cq ?_|refine dS rfl ?_|refine bP ?_|refine bR ?_)
   exact dv rfl (fun w hw=>⟨⟨_,rfl⟩,.inr ⟨_,cg (hJx _) hw.rid⟩⟩)
 ·obtain rfl:k=63:=by simp at hc;omega
  refine aW ?_
  repeat (first|refine dH ?_|refine cq ?_|refine dS rfl ?_|refine bP ?_|refine bR ?_)
  refine cQ rfl (fun w hw=>⟨⟨_,rfl⟩,.inl ?_⟩)
  have:=cg (hJ _) hw.rid
  rw[pn]
  exact this
end
section
open Go.RowKit
attribute [local simp] a7 bv aJ aB aQ a5 aT aK aO bf bC a6 bz J1.bE J2.bE
def pwD(x:W12)(k:Nat):W12:=K12.pw x (fT (D63.take k) 1)
theorem rN{k:Nat}(h:k<63):D63.take (k+1)=D63.take k++[DGb k]:=by rw[List.take_add_one,u2 h];rfl
theorem O8(x:W12){k:Nat}(h:k<63)(hd:DGb k=true):K12.mul (K12.mul (pwD x k) (pwD x k)) x=pwD x (k+1):=by
 rw[pwD,pwD,rN h,nW,hd,←K12.pw_add,←Nat.two_mul];rfl
theorem PB(x:W12){k:Nat}(h:k<63)(hd:DGb k=false):K12.mul (pwD x k) (pwD x k)=pwD x (k+1):=by
 rw[pwD,pwD,rN h,nW,hd,←K12.pw_add,←Nat.two_mul];rfl
theorem WM:D63=L63:=by decide+kernel
theorem TA(x:W12):pwD x 63=K12.pw x UG:=by rw[pwD,List.take_of_length_le (by rw[u4];exact Nat.le_refl _),WM,W3]
namespace Q6
end Q6
end
section
open Go.RowKit
attribute [local simp] a7 bv aJ aB aQ a5 aT aK aO bf bC a6 bz J1.bE J2.bE
namespace Q6
def PRv(a:J1.GP×J2.GP):L6:=J1.GL a.1++J2.GL a.2
theorem gv(a:J1.GP×J2.GP):(PRv a).length=54:=by simp[PRv]
attribute [local simp] gv
theorem zv169(w:World):(zeroValue 169).run prog w=.ok (aM (List.replicate 54 (0#64))) w:=(zeroValue169 w).trans rr
def WSf(f:Nat→J1.GP×J2.GP):Nat→List WK
 |0=>[]
 |i+1=>if (f i).1.P=none then WSf f i else if (f i).2.P=none then WSf f i else WSf f i++[wkB (J1.PX (f i).1.P,J1.PY (f i).1.P) (J2.PX (f i).2.P,J2.PY (f i).2.P)]
theorem Kc{f:Nat→J1.GP×J2.GP}{i:Nat}(h:(f i).1.P=none):WSf f (i+1)=WSf f i:=if_pos h
theorem Jp{f:Nat→J1.GP×J2.GP}{i:Nat}(h: ¬(f i).1.P=none)(k:(f i).2.P=none):WSf f (i+1)=WSf f i:=(if_neg h).trans (if_pos k)
theorem J7{f:Nat→J1.GP×J2.GP}{i:Nat}(h: ¬(f i).1.P=none)(k: ¬(f i).2.P=none):WSf f (i+1)=WSf f i++[wkB (J1.PX (f i).1.P,J1.PY (f i).1.P) (J2.PX (f i).2.P,J2.PY (f i).2.P)]:=(if_neg h).trans (if_neg k)
theorem ua(f:Nat→J1.GP×J2.GP): ∀i,(WSf f i).length≤i
 |0=>Nat.le_refl _
 |i+1=>by
  have h:=ua f i
  rw[WSf]
  split
  ·omega
  ·split
   ·omega
   ·rw[List.length_append];simp;omega
def wcl(l:List WK):List Value:=clv (l.flatMap kU)
theorem qT(w:WK):(kU w).length=12:=rfl
theorem pH(l m:List WK):wcl (l++m)=wcl l++wcl m:=by rw[wcl,List.flatMap_append,ju];rfl
theorem qP(w:WK)(l:List WK):wcl (w::l)=clv (kU w)++wcl l:=by rw[wcl,List.flatMap_cons,ju];rfl
theorem BM(w:WK):wcl [w]=clv (kU w):=by rw[qP];exact List.append_nil _
theorem uu: ∀l:List WK,(wcl l).length=72*l.length
 |[]=>rfl
 |w::l=>by rw[qP,List.length_append,uu l,cS,qT,List.length_cons];omega
theorem OwnW.of{L L':Hl}{n:Nat}{e:TypeId}{s:Nat}{a0:Option Addr}{cap nx:Nat}{xs:List Value}(h:OwnW L n e s a0 cap nx xs)(he:lkB L' n=lkB L n):OwnW L' n e s a0 cap nx xs:=by
 rcases h with h|⟨b,c,h1,h2,h3⟩
 ·exact .inl h
 ·exact .inr ⟨b,c,h1,he.trans h2,h3⟩
theorem SI(a b:Zp)(c d e f g:W2)(w:World):(Instr.build 240 (([0,1,2,3,4,5,6]).zip [EV a,EV b,EV2 c,EV2 d,EV2 e,EV2 f,EV2 g]).toArray).run prog w=.ok (.agg (clv [a,b,c.1,c.2,d.1,d.2,e.1,e.2,f.1,f.2,g.1,g.2]).toArray) w:=by
 obtain ⟨fields,hf,hm,_⟩:=TB.hfs 240 [(0,1),(1,1),(2,2),(4,2),(6,2),(8,2),(10,2)] kr
 exact gV (TB.hsz 240 12 kr).2.2 hf hm _ (rO (ps:=[(0,[a]),(1,[b]),(2,[c.1,c.2]),(3,[d.1,d.2]),(4,[e.1,e.2]),(5,[f.1,f.2]),(6,[g.1,g.2])]) (c:=List.replicate 12 0) rr) w
theorem tiW:TI prog 240 (.agg (clv (List.replicate 12 0)).toArray) 72 576:=sL (by rw[clv,rj];kernel_rfl)
theorem I4{own L:Hl}(ho:own=[]∨∃x,own=[(50,x)])(h:lkB L 50=lkB own 50):ki L own:=by
 rcases ho with rfl|⟨x,rfl⟩
 ·exact trivial
 ·exact ⟨h,trivial⟩
structure BgV(f:Nat→J1.GP×J2.GP)(n:Nat) where
 (k:Nat) (a0:Option Addr) (cap:Nat) (own:Hl)
 hk:k≤n
 hs:OwnW own 50 240 72 a0 cap (WSf f k).length (wcl (WSf f k))
 ho:own=[]∨∃x,own=[(50,x)]
 hz:WSf f k=[]→a0=none
theorem M7{w:World}(h:Gt w):8≤w.heap.size:=block_lt_of_cell (h.g7 0 _ rr)
theorem Lj(n:Nat)(f:Nat→J1.GP×J2.GP)(b cap:Nat)(hn:n≤1000)(w:World)(hw:Gt w)(h:w.rangeAt b 0 ((RW 54 (fun i=>PRv (f i)) n).map U64)):
 CLS 195 [.slice (spt b) n cap].toArray w (fun e w'=>(∃bW cW capW,e=.returned (.slice (spt bW) (WSf f n).length capW)∧Grow w w'∧w.heap.size≤bW∧OwnB w' bW cW 240∧cW.take (wcl (WSf f n)).length=wcl (WSf f n)∧WSf f n≠[])∨(WSf f n=[]∧e=.returned (.slice none 0 0)∧Grow w w')):=by
 have hGF:BOk Gt (pl w):=gt_low.plain hw
 have fin: ∀{L:Hl} {a0:Option Addr} {cap:Nat} {w':World},OwnW L 50 240 72 a0 cap (WSf f n).length (wcl (WSf f n))→(WSf f n=[]→a0=none)→Hp (pl w) L w'→(∃bW cW capW,Ending.returned (.slice a0 (WSf f n).length cap)=.returned (.slice (spt bW) (WSf f n).length capW)∧Grow w w'∧w.heap.size≤bW∧OwnB w' bW cW 240∧cW.take (wcl (WSf f n)).length=wcl (WSf f n)∧WSf f n≠[])∨(WSf f n=[]∧Ending.returned (.slice a0 (WSf f n).length cap)=.returned (.slice none 0 0)∧Grow w w'):=fun {L a0 cap w'} h hz hp=>by
  rcases h with ⟨rfl,_,h3,rfl⟩|⟨b,c,rfl,hl,hc,hle,hx,ht⟩
  ·exact .inr ⟨List.length_eq_zero_iff.1 h3,by rw[h3],ac hp⟩
  ·exact .inl ⟨b,c,cap,rfl,ac hp,(hp.own _ _ _ _ hl).2.elim id False.elim,(hp.own _ _ _ _ hl).1,ht,fun e=>by cases hz e⟩
 refine Hd func195 rfl hGF<|Xp<|Asg rfl<|aa<|lW<|Xp<|Asg rfl<|aa<|ah<|na<|ah<|Xp<|Mv rfl<|bi rfl (fun _=>aI underlying170 _ _ _ _) rfl rfl<|Mv rfl<|aa<|ai<|bL (ι:=BgV f n) (fun x=>[(11,.slice (spt b) n cap),(12,I (n:Int)),(13,I (x.k:Int)),(3,.slice x.a0 (WSf f x.k).length x.cap)]) (fun x=>x.own) (fun x=>n-x.k) ⟨0,none,0,[],om,wX _ _ _ _,.inl rfl,fun _=>rfl⟩ hGF trv trivial<|?_
 rintro ⟨i,a0,cap0,own,hi,hs,ho,hz⟩
 dsimp only at hs ho hz⊢
 have hwl:=ua f i
 by_cases hP:(f i).1.P=none
 ·refine Xp<|Bnr rfl rfl (fun _=>az _ _ _)<|aa<|ah<|?_
  refine bG rfl (fun hc=> ?_) (fun hc=> ?_)
  ·have hi2:i<n:=by simp at hc;omega
   refine aq<|ah<|ai<|Xp<|iZ (s:=54) i rfl rfl underlying170 sizeOf169 om om rfl rfl<|da (cs:=(PRv (f i)).map U64) rfl isAgg169 sizeOf169 sm (fun w' h'=>gL (eX h (fun h=>h) w' h') om (gv _)) rfl rfl<|Al 5 hGF zv169<|fun b5=>Sa 5 hGF rfl rfl rfl FB<|aa<|Xp<|Fa 0 rfl underlying169 rfl sizeOf54<|ay 5 ((J1.GL (f i).1).map U64) rfl rfl isAgg54 sizeOf54 sm ed rfl rfl<|Ca rfl (J1.EM _ hP)<|Mv rfl<|Ext rfl rfl<|Ext rfl rfl<|Ext rfl rfl<|Al 6 hGF zv52<|fun b6=>Al 7 hGF zv52<|fun b7=>Sa 6 hGF rfl rfl rfl bJ<|Sa 7 hGF rfl rfl rfl bJ<|Asg rfl<|aa<|ah<|Xp<|Mv rfl<|bu rfl (fun _=>a9 _) rfl rfl<|aa<|aR rfl<|aW<|Xq<|Bnr rfl rfl (fun _=>au _ _ _ oi)<|Mv rfl<|aa<|?_
   repeat (first|refine aP ?_|refine cq ?_)
   exact aD<|⟨rfl,⟨i+1,a0,cap0,own,om,by rw[Kc hP];exact hs,ho,by rw[Kc hP];exact hz⟩,_,by show n-(i+1)<n-i;omega,rfl,⟨rfl,rfl,rfl,by dsimp only;rw[Kc hP];rfl,trivial⟩,I4 ho rfl⟩
  ·obtain rfl:i=n:=by simp at hc;omega
   refine aW<|Xp<|Mv rfl<|Asg rfl<|aa<|am<|?_
   repeat (first|refine bP ?_|refine bR ?_|refine fH ?_)
   exact aG rfl rfl (fun w' hw'=>fin hs hz hw')
 ·by_cases hQ:(f i).2.P=none
  ·refine Xp<|Bnr rfl rfl (fun _=>az _ _ _)<|aa<|ah<|?_
   refine bG rfl (fun hc=> ?_) (fun hc=> ?_)
   ·have hi2:i<n:=by simp at hc;omega
    refine aq<|ah<|ai<|Xp<|iZ (s:=54) i rfl rfl underlying170 sizeOf169 om om rfl rfl<|da (cs:=(PRv (f i)).map U64) rfl isAgg169 sizeOf169 sm (fun w' h'=>gL (eX h (fun h=>h) w' h') om (gv _)) rfl rfl<|Al 5 hGF zv169<|fun b5=>Sa 5 hGF rfl rfl rfl FB<|aa<|Xp<|Fa 0 rfl underlying169 rfl sizeOf54<|ay 5 ((J1.GL (f i).1).map U64) rfl rfl isAgg54 sizeOf54 sm ed rfl rfl<|Ca rfl (J1.xf _ hP)<|Mv rfl<|Ext rfl rfl<|Ext rfl rfl<|Ext rfl rfl<|Al 6 hGF zv52<|fun b6=>Al 7 hGF zv52<|fun b7=>Sa 6 hGF rfl rfl rfl bJ<|Sa 7 hGF rfl rfl rfl bJ<|Asg rfl<|aa<|ah<|Xp<|Mv rfl<|bu rfl (fun _=>a9 _) rfl rfl<|aa<|aC rfl<|aq<|Xp<|Fa 18 rfl underlying169 rfl sizeOf80<|ay 5 ((J2.GL (f i).2).map U64) rfl rfl isAgg80 sizeOf80 sm (iC sm) rfl rfl<|Ca rfl (J2.EM _ hQ)<|Mv rfl<|Ext rfl rfl<|Ext rfl rfl<|Ext rfl rfl<|Al 9 hGF zv78<|fun b9=>Al 10 hGF zv78<|?_
    intro b10
    refine Sa 9 hGF rfl rfl rfl aZ<|Sa 10 hGF rfl rfl rfl aZ<|Asg rfl<|aa<|ah<|Xp<|Mv rfl<|bu rfl (fun _=>a9 _) rfl rfl<|aa<|aR rfl<|aW<|Xq<|Bnr rfl rfl (fun _=>au _ _ _ oi)<|Mv rfl<|aa<|?_
    repeat (first|refine aP ?_|refine cq ?_)
    exact aD<|⟨rfl,⟨i+1,a0,cap0,own,om,by rw[Jp hP hQ];exact hs,ho,by rw[Jp hP hQ];exact hz⟩,_,by show n-(i+1)<n-i;omega,rfl,⟨rfl,rfl,rfl,by dsimp only;rw[Jp hP hQ];rfl,trivial⟩,I4 ho rfl⟩
   ·obtain rfl:i=n:=by simp at hc;omega
    refine aW<|Xp<|Mv rfl<|Asg rfl<|aa<|am<|?_
    repeat (first|refine bP ?_|refine bR ?_|refine fH ?_)
    exact aG rfl rfl (fun w' hw'=>fin hs hz hw')
  ·refine Xp<|Bnr rfl rfl (fun _=>az _ _ _)<|aa<|ah<|?_
   refine bG rfl (fun hc=> ?_) (fun hc=> ?_)
   ·have hi2:i<n:=by simp at hc;omega
    refine aq<|ah<|ai<|Xp<|iZ (s:=54) i rfl rfl underlying170 sizeOf169 om om rfl rfl<|da (cs:=(PRv (f i)).map U64) rfl isAgg169 sizeOf169 sm (fun w' h'=>gL (eX h (fun h=>h) w' h') om (gv _)) rfl rfl<|Al 5 hGF zv169<|fun b5=>Sa 5 hGF rfl rfl rfl FB<|aa<|Xp<|Fa 0 rfl underlying169 rfl sizeOf54<|ay 5 ((J1.GL (f i).1).map U64) rfl rfl isAgg54 sizeOf54 sm ed rfl rfl<|Ca rfl (J1.xf _ hP)<|Mv rfl<|Ext rfl rfl<|Ext rfl rfl<|Ext rfl rfl<|Al 6 hGF zv52<|fun b6=>Al 7 hGF zv52<|fun b7=>Sa 6 hGF rfl rfl rfl bJ<|Sa 7 hGF rfl rfl rfl bJ<|Asg rfl<|aa<|ah<|Xp<|Mv rfl<|bu rfl (fun _=>a9 _) rfl rfl<|aa<|aC rfl<|aq<|Xp<|Fa 18 rfl underlying169 rfl sizeOf80<|ay 5 ((J2.GL (f i).2).map U64) rfl rfl isAgg80 sizeOf80 sm (iC sm) rfl rfl<|Ca rfl (J2.xf _ hQ)<|Mv rfl<|Ext rfl rfl<|Ext rfl rfl<|Ext rfl rfl<|Al 9 hGF zv78<|fun b9=>Al 10 hGF zv78<|?_
    intro b10
    refine Sa 9 hGF rfl rfl rfl aZ<|Sa 10 hGF rfl rfl rfl aZ<|Asg rfl<|aa<|ah<|Xp<|Mv rfl<|bu rfl (fun _=>a9 _) rfl rfl<|aa<|aC rfl<|aq<|Xe []<|Mv rfl<|La 6 rfl rfl bJ<|La 7 rfl rfl bJ<|La 9 rfl rfl aZ<|La 10 rfl rfl aZ<|La 9 rfl rfl aZ<|La 10 rfl rfl aZ<|Ca rfl (s4)<|eI (ps:=[(0,.tmp 36),(1,.tmp 37),(2,.tmp 38),(3,.tmp 39),(4,.tmp 40),(5,.tmp 41),(6,.tmp 42)]) (vs:=[EV (J1.PX (f i).1.P),EV (J1.PY (f i).1.P),EV2 (J2.PX (f i).2.P),EV2 (J2.PY (f i).2.P),EV2 (J2.PX (f i).2.P),EV2 (J2.PY (f i).2.P),EV2 on2]) rfl (v:=.agg (clv (kU (wkB (J1.PX (f i).1.P,J1.PY (f i).1.P) (J2.PX (f i).2.P,J2.PY (f i).2.P)))).toArray) (fun w=>SI _ _ _ _ _ _ _ w) rfl rfl<|wt 44 (clv (kU (wkB (J1.PX (f i).1.P,J1.PY (f i).1.P) (J2.PX (f i).2.P,J2.PY (f i).2.P)))) hGF rfl (by rw[cS,qT]) dc dc underlying232 sizeOf240 (TB.hsz 240 12 kr).2.2 rfl rfl<|?_
    intro b44
    refine qe (s:=72) (nx:=(WSf f i).length) (ny:=1) (xs:=wcl (WSf f i)) (ys:=clv (kU (wkB (J1.PX (f i).1.P,J1.PY (f i).1.P) (J2.PX (f i).2.P,J2.PY (f i).2.P)))) 50 hGF rfl rfl underlying232 underlying232 tiW rfl (OwnW.of hs rfl) (by rw[cS,qT]) (fun w' h=>aH (n:=44) rfl w' h) (C9 _) dc om om rfl rfl (fun bA cA capA eA lA tA=> ?_)
    refine Asg rfl<|aa<|Xq<|Bnr rfl rfl (fun _=>au _ _ _ oi)<|Mv rfl<|aa<|?_
    repeat (first|refine aP ?_|refine cq ?_)
    refine aD ?_
    have eW:=J7 hP hQ
    have eL:(WSf f (i+1)).length=(WSf f i).length+1:=by rw[eW,List.length_append];rfl
    have eC:wcl (WSf f (i+1))=wcl (WSf f i)++clv (kU (wkB (J1.PX (f i).1.P,J1.PY (f i).1.P) (J2.PX (f i).2.P,J2.PY (f i).2.P))):=by rw[eW,pH,BM]
    exact ⟨rfl,⟨i+1,some ⟨bA,0,none⟩,capA,[(50,bA,cA,240)],om,.inr ⟨bA,cA,rfl,rfl,eA,om,by rw[uu,Nat.mul_comm],by rw[eC];exact tA⟩,.inr ⟨_,rfl⟩,fun e=>by rw[e]at eL;cases eL⟩,_,by show n-(i+1)<n-i;omega,rfl,⟨rfl,rfl,rfl,by dsimp only;rw[eL];rfl,trivial⟩,trv⟩
   ·obtain rfl:i=n:=by simp at hc;omega
    refine aW<|Xp<|Mv rfl<|Asg rfl<|aa<|am<|?_
    repeat (first|refine bP ?_|refine bR ?_|refine fH ?_)
    exact aG rfl rfl (fun w' hw'=>fin hs hz hw')
end Q6
end
section
open Go.RowKit
attribute [local simp] a7 bv aJ aB aQ a5 aT aK aO bf bC a6 bz J1.bE J2.bE
namespace Q6
abbrev sp(x:W12):List Value:=(((fe ((x).1.1).1++fe ((x).1.1).2)++((fe ((x).1.2.1).1++fe ((x).1.2.1).2)++(fe ((x).1.2.2).1++fe ((x).1.2.2).2)))++((fe ((x).2.1).1++fe ((x).2.1).2)++((fe ((x).2.2.1).1++fe ((x).2.2.1).2)++(fe ((x).2.2.2).1++fe ((x).2.2.2).2)))).map U64
theorem nC(x:W12):(sp x).length=72:=sm
def mkC(fs:List Nat)(o:Oper):Bool:=match o.op with
 | .call {callee:=.value (.func f), .. }=>fs.any (Nat.beq f)
 |_=>false
def SK(W:List WK)(k:Nat):List WK×W12:=rdK (D63.take k) (W,K12.one)
theorem aaA(W:List WK){k:Nat}(h:k<63):SK W (k+1)=rdF (DGb k) (SK W k):=by rw[SK,rN h,Nd];rfl
theorem Jq(W:List WK){k:Nat}(h:k<63)(hd:DGb k=false):SK W (k+1)=((SK W k).1.map wDb,jc rDb (SK W k).1 (K12.mul (SK W k).2 (SK W k).2)):=by rw[aaA W h,hd];rfl
theorem Jv(W:List WK){k:Nat}(h:k<63)(hd:DGb k=true):SK W (k+1)=(((SK W k).1.map wDb).map wJn,jc rJn ((SK W k).1.map wDb) (jc rDb (SK W k).1 (K12.mul (SK W k).2 (SK W k).2))):=by rw[aaA W h,hd];rfl
theorem mD(W:List WK): ∀k,k≤63→(SK W k).1.length=W.length
 |0,_=>rfl
 |k+1,h=>by
  have ih:=mD W k om
  cases d:DGb k with
  |false=>rw[Jq W om d,List.length_map];exact ih
  |true=>rw[Jv W om d,List.length_map,List.length_map];exact ih
theorem n7(g:WK→W6): ∀(l:List WK) (w:WK) (f:W12),jc g (l++[w]) f=K12.mul (lel (g w)) (jc g l f)
 |[],_,_=>rfl
 |v::l,w,f=>n7 g l w (K12.mul (lel (g v)) f)
theorem yr{l:List WK}{j:Nat}{w:WK}(h:l[j]? =some w):l.take (j+1)=l.take j++[w]:=by rw[List.take_add_one,h];rfl
theorem Rv{l:List WK}{j:Nat}{w:WK}(h:l[j]? =some w):l.drop j=w::l.drop (j+1):=by
 have hj:=(List.getElem?_eq_some_iff.1 h).1
 rw[List.drop_eq_getElem_cons hj]
 exact congrArg (·::_) (List.getElem?_eq_some_iff.1 h).2
def upW(g:WK→WK)(l:List WK)(j:Nat):List WK:=(l.take j).map g++l.drop j
theorem YR{g:WK→WK}{l:List WK}{j:Nat}{w:WK}(h:l[j]? =some w)(post:List Value):wcl (upW g l j)++post=wcl ((l.take j).map g)++(clv (kU w)++(wcl (l.drop (j+1))++post)):=by
 rw[upW,Rv h,pH,qP]
 simp only[List.append_assoc]
theorem Zc{g:WK→WK}{l:List WK}{j:Nat}{w:WK}(h:l[j]? =some w)(post:List Value):wcl (upW g l (j+1))++post=wcl ((l.take j).map g)++(clv (kU (g w))++(wcl (l.drop (j+1))++post)):=by
 rw[upW,yr h,List.map_append,pH,pH,show [w].map g=[g w]from rfl,BM]
 simp only[List.append_assoc]
theorem VR{g:WK→WK}{l:List WK}{j:Nat}{w:WK}(h:l[j]? =some w):(wcl ((l.take j).map g)).length=0+72*j:=by
 have hj:=(List.getElem?_eq_some_iff.1 h).1
 rw[uu,List.length_map,List.length_take,Nat.min_eq_left om,Nat.zero_add]
theorem Za(g:WK→WK)(l:List WK):upW g l 0=l:=rfl
theorem PG(g:WK→WK){l:List WK}{j:Nat}(h:l.length=j):upW g l j=l.map g:=by
 rw[upW,List.take_of_length_le om,List.drop_eq_nil_of_le om,List.append_nil]
theorem X8{f:FuncId}{g:WK→WK}{u:WK→W6}{l:List WK}{j:Nat}{w:WK}(h:l[j]? =some w){b:Nat}{post:List Value}{W:World}(ho:OwnB W b (wcl (upW g l j)++post) 240)
 (hc: ∀{pre post:List Value},OwnB W b (pre++(clv (kU w)++post)) 240→CLS f [.pointer (some ⟨b,pre.length,none⟩)].toArray W (fun e W'=>e=.returned (EV6 (u w))∧Mod b W W'∧OwnB W' b (pre++(clv (kU (g w))++post)) 240)):
 CLS f [.pointer (some ⟨b,0+72*j,none⟩)].toArray W (fun e W'=>e=.returned (EV6 (u w))∧Mod b W W'∧OwnB W' b (wcl (upW g l (j+1))++post) 240):=by
 rw[YR h]at ho
 have k:=hc ho
 rw[VR h]at k
 rw[Zc h]
 exact k
theorem Qk{l:List WK}{j:Nat}{w:WK}(h:l[j]? =some w){b:Nat}{post:List Value}{W:World}(hw:Gt W)(hb:8≤b)(ho:OwnB W b (wcl (upW wDb l j)++post) 240):CLS 198 [.pointer (some ⟨b,0+72*j,none⟩)].toArray W (fun e W'=>e=.returned (EV6 (rDb w))∧Mod b W W'∧OwnB W' b (wcl (upW wDb l (j+1))++post) 240):=X8 h ho (fun {_ _} k=>mdbl w hw hb k)
theorem Zm{l:List WK}{j:Nat}{w:WK}(h:l[j]? =some w){b:Nat}{post:List Value}{W:World}(hz: ¬w.2.2.2.2=ze2)(hw:Gt W)(hb:8≤b)(ho:OwnB W b (wcl (upW wJn l j)++post) 240):CLS 200 [.pointer (some ⟨b,0+72*j,none⟩)].toArray W (fun e W'=>e=.returned (EV6 (rJn w))∧Mod b W W'∧OwnB W' b (wcl (upW wJn l (j+1))++post) 240):=X8 h ho (fun {_ _} k=>mjn w hz hw hb k)
theorem Rk(W:List WK)(n b cap:Nat)(cs:List Value)(hWl:W.length≤1000)(hZ: ∀k,k<63→DGb k=true→∀w∈(SK W k).1.map wDb,¬w.2.2.2.2=ze2)(hB: ∀w',Gt w'→w'.rangeAt b 0 cs→CLS 195 [.slice (spt b) n cap].toArray w' (fun r w''=> ∃bW post capW,r=.returned (.slice (spt bW) W.length capW)∧Grow w' w''∧w'.heap.size≤bW∧OwnB w'' bW (wcl W++post) 240))(w:World)(hw:Gt w)(h:w.rangeAt b 0 cs):
 CLS 163 [.slice (spt b) n cap].toArray w (fun r w'=>r=.returned (cF (de (SK W 63).2))∧Grow w w'):=by
 have hGF:BOk Gt (pl w):=gt_low.plain hw
 refine cz (G:=Gt) func163 rfl rfl (Hp (pl w) []) (cm (pl w) trivial ao) (aA hGF)<|ae (E:=EE [195,198,200])<|Al 2 hGF zv211<|fun b2=>aa<|lW<|ae (E:=EE [195,198,200])<|Mv rfl<|?_
 refine dz rfl rfl ent195 rfl rfl (fun w' hw'=>(hB w' (hGF.g _ _ _ hw') (eX h (fun h=>h) w' hw')).mono fun e' w'' h'=> ?_)
 obtain ⟨bW,post,capW,rfl,hg,hbD,hoD⟩:=h'
 have hb3:8≤bW:=Nat.le_trans (M7 (hGF.g _ _ _ hw')) hbD
 refine ⟨_,_,rfl,aA hGF,hw'.news ao hg [(50,bW,wcl W++post,240)] ?_ bX, ?_⟩
 ·intro n' b' c' t' hl
  rcases aL hl with ⟨_,e⟩|⟨_,hl⟩
  ·cases e;exact ⟨hbD,hoD⟩
  ·cases hl
 clear hw' hg hbD hoD
 refine iw 3 hGF zeroValue232 rfl rfl<|fun b3=>d8 3 hGF rfl rfl rfl sizeOf232 rfl (by first|decide|simp) rfl<|aa<|ae (E:=EE [195,198,200])<|Ca rfl (uq)<|Al 4 hGF zv211<|fun b4=>Sa 4 hGF rfl rfl rfl ic<|aa<|ah<|na<|ah<|ae (E:=EE [195,198,200])<|Ca rfl (EX)<|aa<|ai<|?_
 refine ft (fun _=>pl w) (fun _ _=>pl w) (fun _=>hGF) (fun _ _=>hGF) (fun _=>rfl) (fun _ _=>rfl) rfl rfl ent222 xx (fun x hx=>by obtain ⟨k,hk,rfl⟩:=List.mem_map.1 hx;rfl) rfl (fun k=>[(2,b2,(((fe 0++fe 0)++((fe 0++fe 0)++(fe 0++fe 0)))++((fe 0++fe 0)++((fe 0++fe 0)++(fe 0++fe 0)))).map U64,211),(3,b3,[.slice (spt bW) W.length capW],232),(4,b4,sp ((SK W k).2),211),(50,bW,wcl ((SK W k).1)++post,240)]) (fun _ _ _=>False) trv (fun _ _ _ _=>trivial) ?_ ?_ (fun _ _ _ _ _ h=>h.elim)
 ·intro k v hx R hR
  obtain ⟨hk,rfl⟩:=FR hx
  refine bN (E:=EE [195,198,200])<|Asg rfl<|aa<|?_
  refine ⟨rfl,_,rfl, ?_⟩
  refine ai<|ae (E:=EE [195,198,200])<|La 4 rfl rfl ic<|Ca rfl (nR _)<|aw 4 (hR (pl w) rfl hGF).2.1 rfl rfl rfl sizeOf211 sm sm (be _) rfl<|aa<|ah<|ae (E:=EE [195,198,200])<|cT 3 rfl rfl rfl isAgg232 rfl rfl<|bi rfl (fun _=>aI underlying232 _ _ _ _) rfl rfl<|Mv rfl<|aa<|ai<|?_
  obtain ⟨F0,hF0⟩: ∃F0,F0=K12.mul (SK W k).2 (SK W k).2:=⟨_,rfl⟩
  refine bL (ι:={j:Nat // j≤W.length}) (fun y=>[(2,pnt b2),(3,pnt b3),(4,pnt b4),(5,.bool (DGb k)),(16,I ((W.length:Nat):Int)),(17,I (y.1:Int))]) (fun y=>[(2,b2,(((fe 0++fe 0)++((fe 0++fe 0)++(fe 0++fe 0)))++((fe 0++fe 0)++((fe 0++fe 0)++(fe 0++fe 0)))).map U64,211),(3,b3,[.slice (spt bW) W.length capW],232),(4,b4,sp (jc rDb ((SK W k).1.take y.1) F0),211),(50,bW,wcl (upW wDb (SK W k).1 y.1)++post,240)]) (fun y=>W.length-y.1) ⟨0,Nat.zero_le _⟩ (hR (pl w) rfl hGF).2.1 trv ⟨rfl,rfl,by rw[hF0];rfl,rfl,trivial⟩ ?_
  rintro ⟨j,hj⟩
  dsimp only
  refine ae (E:=EE [195,198,200])<|Bnr rfl rfl (fun _=>az _ _ _)<|aa<|ah<|?_
  refine bG rfl (fun hc=> ?_) (fun hc=> ?_)
  ·have hj2:j<W.length:=by simp at hc;omega
   obtain ⟨wj,hwj⟩: ∃wj,(SK W k).1[j]? =some wj:=⟨_,List.getElem?_eq_getElem (by rw[mD W k om];exact hj2)⟩
   refine aq<|ah<|ai<|ae (E:=EE [195,198,200])<|Mv rfl<|Asg rfl<|aa<|pi (E:=EE [195,198,200]) (fun X=>X=Hp (R.b (pl w)) [(4,b4,sp (jc rDb ((SK W k).1.take j) F0),211)]) (mkC [198]) (rkB [24]) [0,1,2,4,3,5,6] cL rfl kr kr kr<|dP rfl rfl<|cT 3 rfl rfl rfl isAgg232 rfl rfl<|aa<|dP rfl rfl<|Mv rfl<|aa<|dP rfl rfl<|iZ (s:=72) j rfl rfl underlying232 sizeOf240 om om rfl rfl<|aa<|kL (X:=Hp (R.b (pl w)) [(4,b4,sp (jc rDb ((SK W k).1.take j) F0),211)]) rfl (cN (hR (pl w) rfl hGF).2.1.r trv) (fun _=>rfl)<|bY 4 rfl rfl isAgg211 sizeOf211 (nC _) rfl rfl<|aa<|fU rfl<|?_
   refine dz rfl rfl ent198 rfl rfl (fun w' hw'=>(Qk hwj ((hR (pl w) rfl hGF).2.1.g _ _ _ hw') hb3 (hw'.own 50 _ _ _ rfl).1).mono fun e' w'' h'=> ?_)
   obtain ⟨rfl,hm,ho⟩:=h'
   refine ⟨_,_,rfl,aA (hR (pl w) rfl hGF).2.1,hw'.mod (hR (pl w) rfl hGF).2.1.r (n:=50) rfl hm ho, ?_⟩
   clear hw' hm ho
   refine aa ?_
   refine ⟨fun _ X hX _=>by subst hX;exact cN (hR (pl w) rfl hGF).2.1.r trv, ?_⟩
   refine dP rfl rfl<|Ca rfl (Ad (rDb wj) (jc rDb ((SK W k).1.take j) F0))<|aa<|fU rfl<|aw 4 (hR (pl w) rfl hGF).2.1 rfl rfl rfl sizeOf211 sm (nC _) (be _) rfl<|aa<|?_
   refine ⟨fun h=>Bool.noConfusion h, ?_⟩
   refine fX<|bN (E:=EE [195,198,200])<|Bnr rfl rfl (fun _=>au _ _ _ oi)<|Mv rfl<|aa<|?_
   repeat (refine aP ?_)
   refine aD ?_
   have eF:K12.mul (lel (rDb wj)) (jc rDb ((SK W k).1.take j) F0)=jc rDb ((SK W k).1.take (j+1)) F0:=by rw[yr hwj,n7]
   exact ⟨rfl,⟨j+1,om⟩,_,by show W.length-(j+1)<W.length-j;omega,rfl,trv,⟨rfl,rfl,by rw[←eF];rfl,rfl,trivial⟩⟩
  ·obtain rfl:j=W.length:=by simp at hc;omega
   refine aW ?_
   rw[PG wDb (by rw[mD W k om]),List.take_of_length_le (Nat.le_of_eq (by rw[mD W k om])),hF0]
   clear hF0
   refine ah<|ae (E:=EE [195,198,200])<|Mv rfl<|bu rfl (fun _=>a9 _) rfl rfl<|aa<|?_
   refine bG rfl (fun hc=> ?_) (fun hc=> ?_)
   ·have hd:DGb k=false:=by simpa using hc
    refine aW ?_
    repeat (first|refine aP ?_|refine cq ?_)
    exact ⟨_,rfl,⟨rfl,rfl,by first|(rw[Jq W hk hd];rfl)|(rw[Jv W hk hd];rfl),by first|(rw[Jq W hk hd];rfl)|(rw[Jv W hk hd];rfl),trivial⟩⟩
   ·have hd:DGb k=true:=by simpa using hc
    refine aq<|ae (E:=EE [195,198,200])<|cT 3 rfl rfl rfl isAgg232 rfl rfl<|bi rfl (fun _=>aI underlying232 _ _ _ _) rfl rfl<|Mv rfl<|aa<|ai<|?_
    obtain ⟨F0,hF0⟩: ∃F0,F0=jc rDb (SK W k).1 (K12.mul (SK W k).2 (SK W k).2):=⟨_,rfl⟩
    refine bL (ι:={j:Nat // j≤W.length}) (fun y=>[(2,pnt b2),(3,pnt b3),(4,pnt b4),(5,.bool (DGb k)),(30,I ((W.length:Nat):Int)),(31,I (y.1:Int))]) (fun y=>[(2,b2,(((fe 0++fe 0)++((fe 0++fe 0)++(fe 0++fe 0)))++((fe 0++fe 0)++((fe 0++fe 0)++(fe 0++fe 0)))).map U64,211),(3,b3,[.slice (spt bW) W.length capW],232),(4,b4,sp (jc rJn (((SK W k).1.map wDb).take y.1) F0),211),(50,bW,wcl (upW wJn ((SK W k).1.map wDb) y.1)++post,240)]) (fun y=>W.length-y.1) ⟨0,Nat.zero_le _⟩ (hR (pl w) rfl hGF).2.1 trv ⟨rfl,rfl,by rw[hF0];rfl,by rw[Za];rfl,trivial⟩ ?_
    rintro ⟨j,hj⟩
    dsimp only
    refine ae (E:=EE [195,198,200])<|Bnr rfl rfl (fun _=>az _ _ _)<|aa<|ah<|?_
    refine bG rfl (fun hc=> ?_) (fun hc=> ?_)
    ·have hj2:j<W.length:=by simp at hc;omega
     obtain ⟨wj,hwj⟩: ∃wj,((SK W k).1.map wDb)[j]? =some wj:=⟨_,List.getElem?_eq_getElem (by rw[List.length_map,mD W k om];exact hj2)⟩
     refine aq<|ah<|ai<|ae (E:=EE [195,198,200])<|Mv rfl<|Asg rfl<|aa<|pi (E:=EE [195,198,200]) (fun X=>X=Hp (R.b (pl w)) [(4,b4,sp (jc rJn (((SK W k).1.map wDb).take j) F0),211)]) (mkC [200]) (rkB [38]) [0,1,2,4,3,5,6] cL rfl kr kr kr<|dP rfl rfl<|cT 3 rfl rfl rfl isAgg232 rfl rfl<|aa<|dP rfl rfl<|Mv rfl<|aa<|dP rfl rfl<|iZ (s:=72) j rfl rfl underlying232 sizeOf240 om om rfl rfl<|aa<|kL (X:=Hp (R.b (pl w)) [(4,b4,sp (jc rJn (((SK W k).1.map wDb).take j) F0),211)]) rfl (cN (hR (pl w) rfl hGF).2.1.r trv) (fun _=>rfl)<|bY 4 rfl rfl isAgg211 sizeOf211 (nC _) rfl rfl<|aa<|fU rfl<|?_
     refine dz rfl rfl ent200 rfl rfl (fun w' hw'=>(Zm hwj (hZ k hk hd _ (List.mem_of_getElem? hwj)) ((hR (pl w) rfl hGF).2.1.g _ _ _ hw') hb3 (hw'.own 50 _ _ _ rfl).1).mono fun e' w'' h'=> ?_)
     obtain ⟨rfl,hm,ho⟩:=h'
     refine ⟨_,_,rfl,aA (hR (pl w) rfl hGF).2.1,hw'.mod (hR (pl w) rfl hGF).2.1.r (n:=50) rfl hm ho, ?_⟩
     clear hw' hm ho
     refine aa ?_
     refine ⟨fun _ X hX _=>by subst hX;exact cN (hR (pl w) rfl hGF).2.1.r trv, ?_⟩
     refine dP rfl rfl<|Ca rfl (Ad (rJn wj) (jc rJn (((SK W k).1.map wDb).take j) F0))<|aa<|fU rfl<|aw 4 (hR (pl w) rfl hGF).2.1 rfl rfl rfl sizeOf211 sm (nC _) (be _) rfl<|aa<|?_
     refine ⟨fun h=>Bool.noConfusion h, ?_⟩
     refine fX<|bN (E:=EE [195,198,200])<|Bnr rfl rfl (fun _=>au _ _ _ oi)<|Mv rfl<|aa<|?_
     repeat (refine aP ?_)
     refine aD ?_
     have eF:K12.mul (lel (rJn wj)) (jc rJn (((SK W k).1.map wDb).take j) F0)=jc rJn (((SK W k).1.map wDb).take (j+1)) F0:=by rw[yr hwj,n7]
     exact ⟨rfl,⟨j+1,om⟩,_,by show W.length-(j+1)<W.length-j;omega,rfl,trv,⟨rfl,rfl,by rw[←eF];rfl,rfl,trivial⟩⟩
    ·obtain rfl:j=W.length:=by simp at hc;omega
     refine aW ?_
     rw[PG wJn (by rw[List.length_map,mD W k om]),List.take_of_length_le (Nat.le_of_eq (by rw[List.length_map,mD W k om])),hF0]
     clear hF0
     repeat (first|refine aP ?_|refine cq ?_)
     exact ⟨_,rfl,⟨rfl,rfl,by first|(rw[Jq W hk hd];rfl)|(rw[Jv W hk hd];rfl),by first|(rw[Jq W hk hd];rfl)|(rw[Jv W hk hd];rfl),trivial⟩⟩
 ·intro D hD
  rw[pn]
  refine ae (E:=EE [195,198,200])<|La 4 rfl rfl ic<|Ca rfl (Bj _)<|Sa 2 hD rfl rfl rfl ic<|aa<|am<|?_
  repeat (first|refine bP ?_|refine bR ?_|refine fH ?_)
  exact d9 (.inl rfl) ao (av 2 rfl rfl rfl isAgg211 sizeOf211 sm (fun w hw=>⟨rfl,ac hw⟩))
end Q6
end
section
open Go.RowKit
attribute [local simp] a7 bv aJ aB aQ a5 aT aK aO bf bC a6 bz J1.bE J2.bE Q6.gv
namespace Q6
def LPv(f:Nat→J1.GP×J2.GP)(n:Nat):W12:=de (SK (WSf f n) 63).2
theorem vh:Two prog 169 ⟨ "P",54,0,false, "", "",0⟩ ⟨ "Q",80,18,false, "", "",144⟩ 18 36 (List.replicate 18 (0#64)) (List.replicate 36 (0#64)):=⟨underlying169,rfl,rfl,sizeOf54,sizeOf80,fun w=>(zeroValue169 w).trans rr,sm,sm⟩
end Q6
end
section
open Go.RowKit
theorem ent272:ak prog 272:=fun _ _=>kr
namespace Q6
attribute [local simp] a7 bv aJ aB aQ a5 aT aK aO bf bC a6 bz
attribute [local simp] qj cM
theorem zv283(w:World):(zeroValue 283).run prog w=.ok (aM (FM (FF fun _=>ze2) 6)) w:=by
 rw[yo];exact (zeroValue283 w).trans rr
abbrev TV6(f:Nat→W2):Value:=aM (FM (FF f) 6)
theorem QQ(f z:Nat→L6): ∀i,i<6→zV f [0,1,2,3,4,5] z i=f i:=fun i hi=>pD _ _ _ _ (.inl (by
 match i,hi with
 |0,_=>decide
 |1,_=>decide
 |2,_=>decide
 |3,_=>decide
 |4,_=>decide
 |5,_=>decide))
theorem Mz(x:W12):PUR 273 [cF x] (TV6 (p12 x)):=by
 intro w hw
 refine Hf func273 rfl hw<|fun hGF=>Xp<|Bx 1 hGF rfl<|fun b1=>Al 2 hGF zv283<|fun b2=>aa<|Xp<|Fa 0 rfl underlying211 rfl sizeOf209<|Fa 0 rfl underlying209 rfl sizeOf78<|ay 1 _ rfl rfl isAgg78 sizeOf78 sm (Jl ed) rfl rfl<|Fa 36 rfl underlying211 rfl sizeOf209<|Fa 36 rfl underlying209 rfl sizeOf78<|ay 1 _ rfl rfl isAgg78 sizeOf78 sm (Ao (m:=36) (o:=0) sm rfl ed) rfl rfl<|Fa 0 rfl underlying211 rfl sizeOf209<|Fa 12 rfl underlying209 rfl sizeOf78<|ay 1 _ rfl rfl isAgg78 sizeOf78 sm (Jl (kS sm)) rfl rfl<|Fa 36 rfl underlying211 rfl sizeOf209<|Fa 48 rfl underlying209 rfl sizeOf78<|ay 1 _ rfl rfl isAgg78 sizeOf78 sm (Ao (m:=36) (o:=12) sm rfl (kS (m:=12) sm)) rfl rfl<|Fa 0 rfl underlying211 rfl sizeOf209<|Fa 24 rfl underlying209 rfl sizeOf78<|ay 1 _ rfl rfl isAgg78 sizeOf78 sm (Jl (gu (m:=12) (n:=12) sm sm rfl)) rfl rfl<|Fa 36 rfl underlying211 rfl sizeOf209<|Fa 60 rfl underlying209 rfl sizeOf78<|ay 1 _ rfl rfl isAgg78 sizeOf78 sm (Ao (m:=36) (o:=24) sm rfl (gu (m:=12) (n:=12) sm sm rfl)) rfl rfl<|qf (s:=12) (FF (p12 x)) (FF (p12 x)) [0,1,2,3,4,5] rfl rfl rfl (fun i _=>a6 _) underlying283 sizeOf78 zv283 (QQ _ _) rfl rfl<|Sa 2 hGF rfl rfl rfl Pm<|aa<|am<|Rr<|?_
 exact av 2 rfl rfl rfl isAgg283 sizeOf283 sm (fun w hw=>⟨rfl,ac hw⟩)
theorem aaO(f:Nat→W2):PUR 257 [TV6 f] (cF (tq f)):=by
 intro w hw
 refine Hf func257 rfl hw<|fun hGF=>Xp<|Bx 1 hGF rfl<|fun b1=>Al 2 hGF zv211<|fun b2=>aa<|Xp<|fK (0) (12*(0)) rfl rfl underlying283 sizeOf78 om om om rfl rfl<|ay 1 ((fe (f 0).1++fe (f 0).2).map U64) rfl rfl isAgg78 sizeOf78 sm (gZ _ (f 0) 6 (0) _ om rfl (rfl)) rfl rfl<|fK (2) (12*(2)) rfl rfl underlying283 sizeOf78 om om om rfl rfl<|ay 1 ((fe (f 2).1++fe (f 2).2).map U64) rfl rfl isAgg78 sizeOf78 sm (gZ _ (f 2) 6 (2) _ om rfl (rfl)) rfl rfl<|fK (4) (12*(4)) rfl rfl underlying283 sizeOf78 om om om rfl rfl<|ay 1 ((fe (f 4).1++fe (f 4).2).map U64) rfl rfl isAgg78 sizeOf78 sm (gZ _ (f 4) 6 (4) _ om rfl (rfl)) rfl rfl<|ew lj rfl rfl rfl sm sm sm rfl rfl<|fK (1) (12*(1)) rfl rfl underlying283 sizeOf78 om om om rfl rfl<|ay 1 ((fe (f 1).1++fe (f 1).2).map U64) rfl rfl isAgg78 sizeOf78 sm (gZ _ (f 1) 6 (1) _ om rfl (rfl)) rfl rfl<|fK (3) (12*(3)) rfl rfl underlying283 sizeOf78 om om om rfl rfl<|ay 1 ((fe (f 3).1++fe (f 3).2).map U64) rfl rfl isAgg78 sizeOf78 sm (gZ _ (f 3) 6 (3) _ om rfl (rfl)) rfl rfl<|fK (5) (12*(5)) rfl rfl underlying283 sizeOf78 om om om rfl rfl<|ay 1 ((fe (f 5).1++fe (f 5).2).map U64) rfl rfl isAgg78 sizeOf78 sm (gZ _ (f 5) 6 (5) _ om rfl (rfl)) rfl rfl<|ew lj rfl rfl rfl sm sm sm rfl rfl<|cv uC rfl rfl sm sm rfl rfl<|Sa 2 hGF rfl rfl rfl ic<|aa<|am<|Rr<|?_
 exact av 2 rfl rfl rfl isAgg211 sizeOf211 sm (fun w hw=>⟨rfl,ac hw⟩)
theorem p8(x:W12)(w:World)(hw:Gt w):CLS 256 [cF x].toArray w (fun e w'=> ∃b1,e=.returned (.func (.func 272) #[] #[pnt b1])∧Grow w w'∧w.heap.size≤b1∧OwnB w' b1 ((((fe (x.1.1).1++fe (x.1.1).2)++((fe (x.1.2.1).1++fe (x.1.2.1).2)++(fe (x.1.2.2).1++fe (x.1.2.2).2)))++((fe (x.2.1).1++fe (x.2.1).2)++((fe (x.2.2.1).1++fe (x.2.2.1).2)++(fe (x.2.2.2).1++fe (x.2.2.2).2)))).map U64) 211):=by
 refine Hf func256 rfl hw<|fun hGF=>Xp<|Bx 1 hGF rfl<|fun b1=>Asg rfl<|aa<|Xp<|gz rfl rfl rfl rfl<|Asg rfl<|aa<|am<|Rr<|?_
 exact aG rfl rfl (fun w hw=>⟨b1,rfl,ac hw,(hw.own 1 b1 _ _ rfl).2.elim id False.elim,(hw.own 1 b1 _ _ rfl).1⟩)
def Ea(x:W12):List (List Value):=(List.range 6).map fun (k:Nat)=>[I (k:Int),EV2 (p12 x k)]
theorem rM(x:W12):(Ea x).length=6:=by rw[Ea,List.length_map,List.length_range]
theorem xT(x:W12)(k:Nat)(h:k<6):(Ea x)[k]? =some [I (k:Int),EV2 (p12 x k)]:=by
 rw[Ea,List.getElem?_map,List.getElem?_range h];rfl
theorem Nu(x:W12)(k:Nat)(v:List Value)(h:(Ea x)[k]? =some v):k<6∧v=[I (k:Int),EV2 (p12 x k)]:=by
 have hk:k<6:=by
  rcases Nat.lt_or_ge k 6 with hk|hk
  ·exact hk
  ·rw[List.getElem?_eq_none (by rw[rM];exact hk)]at h;cases h
 exact ⟨hk,(Option.some.inj ((xT x k hk).symm.trans h)).symm⟩
def Pn(bb:Nat)(x:W12):Cls:=fun w=>w.rangeAt bb 0 ((((fe (x.1.1).1++fe (x.1.1).2)++((fe (x.1.2.1).1++fe (x.1.2.1).2)++(fe (x.1.2.2).1++fe (x.1.2.2).2)))++((fe (x.2.1).1++fe (x.2.1).2)++((fe (x.2.2.1).1++fe (x.2.2.1).2)++(fe (x.2.2.2).1++fe (x.2.2.2).2)))).map U64)
theorem UT(bb:Nat)(x:W12):fV prog Gt 272 [pnt bb] (Ea x) (Pn bb x):=by
 intro l J Jx hJ hJx hRd hGx hY w hj
 have okJ: ∀k,BOk Gt (Bi w (fun Y=>J Y k)):=fun k=>⟨fun _ _ _ h=>(hRd _ _ _ h.rid).1,hJ k⟩
 have okX: ∀k,BOk Gt (Bi w (fun Y=>Jx Y k)):=fun k=>⟨fun _ _ _ h=>hGx _ _ _ h.rid,hJx k⟩
 have c1: ∀k L w',Hp (Bi w (fun Y=>J Y k)) L w'→Pn bb x w':=fun k L w' h=>(hRd _ _ _ h.rid).2
 refine cx (G:=Gt) func272 rfl rfl (Hp (Bi w (fun Y=>J Y 0)) []) (cm (Bi w _) hj (hJ 0)) (aA (okJ 0))<|Xp<|da rfl isAgg211 sizeOf211 sm (fun w h=>c1 _ _ w h) rfl rfl<|Ca rfl (Mz _)<|Mv rfl<|aa<|ai<|gQ (ι:={i:Nat // i≤6}) (fun y=>[(0,.func (.yield l) #[] #[]),(1,pnt bb),(6,TV6 (p12 x)),(7,I (y.1:Int))]) (fun y=>Bi w (fun Y=>J Y y.1)) (fun y=>[]) (fun y=>6-y.1) ⟨0,Nat.zero_le _⟩ (fun _=>okJ _) rfl trv trivial<|?_
 rintro ⟨i,hi⟩
 dsimp only
 refine Xp<|Bnr rfl rfl (fun _=>az _ _ _)<|aa<|ah<|?_
 refine bG rfl (fun hc=> ?_) (fun hc=> ?_)
 ·have hi2:i<6:=by simp at hc;omega
  refine aq<|ah<|ai<|Xp<|Mv rfl<|AW (FF (p12 x)) (i) rfl rfl underlying283 sizeOf78 isAgg78 om om (a6 _) rfl rfl<|Al 4 (okJ _) zv78<|fun b4=>Asg rfl<|Sa 4 (okJ _) rfl rfl rfl aZ<|aa<|Xp<|Mv rfl<|Mv rfl<|La 4 rfl rfl aZ<|?_
  refine dC (hY.b (k:=i) (xT x i om) w) (okJ _) (okX _) rfl rfl rfl rfl rfl ?_ ?_
  ·refine bu rfl (fun _=>a9 _) rfl rfl<|aa<|aC rfl<|aq<|Xq<|Bnr rfl rfl (fun _=>au _ _ _ oi)<|Mv rfl<|aa<|?_
   repeat (refine aP ?_)
   exact aD<|⟨rfl,⟨i+1,om⟩,_,by show 6-(i+1)<6-i;omega,rfl,trv,trivial⟩
  ·refine bu rfl (fun _=>a9 _) rfl rfl<|aa<|aR rfl<|am<|Rr<|?_
   repeat (first|refine dH ?_|refine cq ?_|refine dS rfl ?_|refine bP ?_|refine bR ?_)
   exact dv rfl (fun w hw=>⟨⟨_,rfl⟩,.inr ⟨_,cg (hJx _) hw.rid⟩⟩)
 ·obtain rfl:i=6:=by simp at hc;omega
  refine aW ?_
  repeat (first|refine dH ?_|refine cq ?_|refine dS rfl ?_|refine bP ?_|refine bR ?_)
  refine cQ rfl (fun w hw=>⟨⟨_,rfl⟩,.inl ?_⟩)
  have:=cg (hJ _) hw.rid
  rw[rM]
  exact this
end Q6
end
section
def SXB:L8:=[25#8,4#8,211#8,191#8,2#8,187#8,6#8,103#8,194#8,49#8,190#8,180#8,32#8,44#8,13#8,31#8,15#8,214#8,3#8,253#8,60#8,189#8,95#8,79#8,123#8,36#8,67#8,215#8,132#8,186#8,185#8,196#8,246#8,126#8,165#8,61#8,99#8,231#8,129#8,61#8,141#8,7#8,117#8,237#8,146#8,35#8,95#8,184#8]
def SRn:Nat:=3850754370037169011952147076051364057158807420970682438676050522613628423219637725072182697113062777891589506424760
theorem Mf:SXB.length=48:=rfl
theorem OQ:BN SXB 48=SRn:=by decide+kernel
theorem U7:SRn<PP:=by decide+kernel
theorem Rc:FV SXB=zp SRn:=by rw[FV,if_pos ⟨Mf,by rw[OQ];exact U7⟩,OQ]
def SR:Zp:=zp SRn
theorem G3:CNn+SRn=PP:=by decide+kernel
theorem SR_a: -(zp CNn)=SR:=vz (by rw[SR,←gC,G3,mW])
theorem SR_b: -SR=zp CNn:=vz (by rw[SR,←gC,Nat.add_comm,G3,mW])
theorem aaH:((SR,-SR):W2)=GA:=by rw[Am,SR_a,SR_b]
theorem ZC(n:Int):(n.tmod 12+12).tmod 12=(((n % 12).toNat:Nat):Int):=by
 have h:n.tmod 12=n % 12∨n.tmod 12=n % 12-12:=by
  rw[Int.tmod_eq_emod]
  split
  ·left;omega
  ·right;rfl
 have e:(n.tmod 12+12).tmod 12=(n.tmod 12+12) % 12:=by rw[Int.tmod_eq_emod_of_nonneg om]
 rw[e]
 omega
theorem Hn(n:Int):inI (n.tmod 12+12):=by
 have h:n.tmod 12=n % 12∨n.tmod 12=n % 12-12:=by
  rw[Int.tmod_eq_emod]
  split
  ·left;omega
  ·right;rfl
 unfold inI;omega
end
section
open Go.RowKit
namespace Q6
attribute [local simp] a7 bv aJ aB aQ a5 aT aK aO bf bC a6 bz
attribute [local simp] qj cM
theorem wY(e:Option Addr)(cap:Nat)(w:World)(hw:Gt w)(hby:BytesAt w e SXB):
 CLS 74 [.slice e SXB.length cap].toArray w (fun r w'=>r=.returned (.tuple #[EV SR,.bool (FO SXB)])∧Grow w w'):=by
 have h:=eB e cap SXB w hw hby
 rw[Rc]at h
 exact h
theorem Wm{m:Nat}(h:m % 2=1)(y:W2)(k:Nat):frq y m k=ml2 (cj2 y) (pw2 (GV m) k):=by rw[frq,cjn,if_pos h]
theorem Xr{m:Nat}(h: ¬m % 2=1)(y:W2)(k:Nat):frq y m k=ml2 y (pw2 (GV m) k):=by rw[frq,cjn,if_neg h]
theorem GV_s(i:Nat):GV (i+1)=ml2 (cj2 (GV i)) ((SR,-SR):W2):=by rw[aaH];rfl
theorem Kk(n:Nat)(hn:n≤1000):PUR 255 [I (n:Int)] (EV2 (GV n)):=by
 intro w hw
 refine Hf func255 rfl hw<|fun hGF=>ae (E:=EE [1000022])<|Al 2 hGF zv78<|fun b2=>aa<|ae (E:=EE [1000022])<|ek 8 SXB hGF rfl rfl rfl dc dc underlying22 sizeOf5 zeroValue5 rfl rfl<|fun b8=>mC 8 rfl hGF rfl rfl underlying22 underlying5 rfl rfl<|Cc rfl ent74 (fun w' hC hG=>wY _ _ w' hG (BytesAt.range (hC.own 8 b8 _ _ rfl).1.range))<|Mv rfl<|Ext rfl rfl<|Ext rfl rfl<|Al 3 hGF zv52<|fun b3=>Sa 3 hGF rfl rfl rfl bJ<|Asg rfl<|aa<|ef (E:=EE [1000022,2999999]) [0,1,2,3] [⟨4,5,78,(fe 0++fe 0).map U64⟩] [5] cL rfl kr kr kr kr kr kr dc (by intro x hx;simp only[List.mem_cons,List.not_mem_nil,or_false]at hx;subst hx;exact bp rfl zv78 rfl)<|La 3 rfl rfl bJ<|La 3 rfl rfl bJ<|Ca rfl (eo _)<|cv gg rfl rfl sm sm rfl rfl<|aa<|?_
 refine ⟨_,_,rfl,hGF,by intro x hx;simp only[List.mem_cons,List.not_mem_nil,or_false]at hx;subst hx;rfl,by intro x hx;simp only[List.mem_cons,List.not_mem_nil,or_false]at hx;subst hx;rfl,fun adr=> ?_⟩
 refine Sa 5 hGF rfl rfl rfl aZ<|aa<|ae (E:=EE [1000022])<|Ca rfl (s4)<|Al 6 hGF zv78<|fun b6=>Sa 6 hGF rfl rfl rfl aZ<|aa<|ah<|ae (E:=EE [1000022])<|Mv rfl<|Mv rfl<|aa<|ai<|bL (ι:={i:Nat // i≤n}) (fun y=>[(0,I (n:Int)),(2,pnt b2),(3,pnt b3),(5,.pointer (some ⟨(adr 5),0,none⟩)),(6,pnt b6),(18,I (n:Int)),(19,I (y.1:Int))]) (fun y=>[(2,b2,(fe 0++fe 0).map U64,78),(3,b3,(fe SR).map U64,52),(5,adr 5,(fe SR++fe (-SR)).map U64,78),(6,b6,(fe (GV y.1).1++fe (GV y.1).2).map U64,78)]) (fun y=>n-y.1) ⟨0,Nat.zero_le _⟩ hGF trv trv<|?_
 rintro ⟨i,hi⟩
 dsimp only
 refine ae (E:=EE [1000022])<|Bnr rfl rfl (fun _=>az _ _ _)<|aa<|ah<|?_
 refine bG rfl (fun hc=> ?_) (fun hc=> ?_)
 ·simp only[decide_eq_true_eq]at hc
  refine aq<|ah<|ai<|Xe [1000022]<|La 6 rfl rfl aZ<|Ca rfl (ob _)<|La 5 rfl rfl aZ<|Ca rfl (dQ (cj2 (GV i)) ((SR,-SR):W2))<|Sa 6 hGF rfl rfl rfl aZ<|aa<|bN (E:=EE [1000022])<|Bnr rfl rfl (fun _=>au _ _ _ oi)<|Mv rfl<|aa<|?_
  repeat (refine aP ?_)
  exact aD<|⟨rfl,⟨i+1,om⟩,_,by show n-(i+1)<n-i;omega,rfl,trv,⟨rfl,rfl,rfl,by rw[GV_s i];rfl,trivial⟩⟩
 ·obtain rfl:n=i:=by simp at hc;omega
  refine aW<|ae (E:=EE [1000022])<|La 6 rfl rfl aZ<|Sa 2 hGF rfl rfl rfl aZ<|aa<|am<|Rr<|?_
  exact av 2 rfl rfl rfl isAgg78 sizeOf78 sm (fun w hw=>⟨rfl,ac hw⟩)
theorem Dh(x:W12)(n:Int):PUR 217 [cF x,I n] (cF (kH x (n % 12).toNat)):=by
 intro w hw
 have hGF:BOk Gt (pl w):=gt_low.plain hw
 obtain ⟨m,hm⟩: ∃m:Nat,(n % 12).toNat=m:=⟨_,rfl⟩
 have hm6:m<12:=om
 rw[hm,C4]
 refine cz (G:=Gt) func217 rfl rfl (Hp (pl w) []) (cm (pl w) trivial ao) (aA hGF)<|ae (E:=EE [256])<|Bx 2 hGF rfl<|fun b2=>i9 3 hGF rfl rfl rfl<|fun b3=>Al 4 hGF zv211<|fun b4=>aa<|ae (E:=EE [256])<|cT 3 rfl rfl rfl isAgg3 rfl rfl<|Bnr (v:=I (n.tmod 12)) rfl rfl (fun _=>cV _ _ _ dc)<|Bnr (v:=I (n.tmod 12+12)) rfl rfl (fun _=>au _ _ _ (Hn n))<|Bnr (v:=I (m:Int)) rfl rfl (fun _=>(cV _ _ _ dc).trans (by rw[ZC,hm]))<|d8 3 hGF rfl rfl rfl sizeOf3 rfl (by show 0<1;decide) rfl<|aa<|ae (E:=EE [256])<|cT 3 rfl rfl rfl isAgg3 rfl rfl<|Ca rfl (Kk m om)<|Ca rfl (s4)<|Al 5 hGF zv78<|fun b5=>Al 6 hGF zv78<|fun b6=>Sa 5 hGF rfl rfl rfl aZ<|Sa 6 hGF rfl rfl rfl aZ<|aa<|ae (E:=EE [256])<|Al 7 hGF zv283<|fun b7=>aa<|ah<|ae (E:=EE [256])<|La 2 rfl rfl ic<|?_
 refine dz rfl rfl ent256 rfl rfl (fun w' hw'=>(p8 x w' (hGF.g _ _ _ hw')).mono fun e' w'' h=> ?_)
 obtain ⟨c1,rfl,hg,h1,ho⟩:=h
 refine ⟨_,_,rfl,aA hGF,hw'.news ao hg [(33,c1,(((fe (x.1.1).1++fe (x.1.1).2)++((fe (x.1.2.1).1++fe (x.1.2.1).2)++(fe (x.1.2.2).1++fe (x.1.2.2).2)))++((fe (x.2.1).1++fe (x.2.1).2)++((fe (x.2.2.1).1++fe (x.2.2.1).2)++(fe (x.2.2.2).1++fe (x.2.2.2).2)))).map U64,211)] ?_ bX, ?_⟩
 ·intro n' b' c' t' hl
  rcases aL hl with ⟨_,e⟩|⟨_,hl⟩
  ·cases e;exact ⟨h1,ho⟩
  ·cases hl
 clear hw' hg h1 ho
 refine aa<|ai<|?_
 refine ft (fun _=>pl w) (fun _ _=>pl w) (fun _=>hGF) (fun _ _=>hGF) (fun _=>rfl) (fun _ _=>rfl) rfl rfl ent272 (UT c1 x) (fun v hv=>by obtain ⟨k,hk,rfl⟩:=List.mem_map.1 hv;rfl) rfl (fun k=>[(2,b2,(((fe (x.1.1).1++fe (x.1.1).2)++((fe (x.1.2.1).1++fe (x.1.2.1).2)++(fe (x.1.2.2).1++fe (x.1.2.2).2)))++((fe (x.2.1).1++fe (x.2.1).2)++((fe (x.2.2.1).1++fe (x.2.2.1).2)++(fe (x.2.2.2).1++fe (x.2.2.2).2)))).map U64,211),(3,b3,[I (m:Int)],3),(4,b4,(((fe 0++fe 0)++((fe 0++fe 0)++(fe 0++fe 0)))++((fe 0++fe 0)++((fe 0++fe 0)++(fe 0++fe 0)))).map U64,211),(5,b5,(fe (GV m).1++fe (GV m).2).map U64,78),(6,b6,(fe (pw2 (GV m) k).1++fe (pw2 (GV m) k).2).map U64,78),(7,b7,(FM (FF (fun j=>if j<k then frq (p12 x j) m j else ze2)) 6).map U64,283),(33,c1,(((fe (x.1.1).1++fe (x.1.1).2)++((fe (x.1.2.1).1++fe (x.1.2.1).2)++(fe (x.1.2.2).1++fe (x.1.2.2).2)))++((fe (x.2.1).1++fe (x.2.1).2)++((fe (x.2.2.1).1++fe (x.2.2.1).2)++(fe (x.2.2.2).1++fe (x.2.2.2).2)))).map U64,211)]) (fun _ _ _=>False) ⟨rfl,rfl,rfl,rfl,rfl,congrArg (fun l=>some (b7,l,_)) (congrArg (List.map U64) (yp fun j _=>(if_neg (Nat.not_lt_zero j)).symm)),rfl,trivial⟩ (fun k _ w' h=>aH (n:=33) rfl w' h) ?_ ?_ (fun _ _ _ _ _ h=>h.elim)
 ·intro k v hx R hR
  obtain ⟨hk,rfl⟩:=Nu x k v hx
  refine ae (E:=EE [256])<|Asg rfl<|aa<|bN (E:=EE [256])<|dX 9 (hR (pl w) rfl hGF).1 zv78 rfl rfl<|fun b9=>aw 9 (hR (pl w) rfl hGF).1 rfl rfl rfl sizeOf78 sm sm (be _) rfl<|aa<|?_
  refine ⟨rfl,_,rfl, ?_⟩
  refine ai<|ah<|ae (E:=EE [256])<|cT 3 rfl rfl rfl isAgg3 rfl rfl<|Bnr (v:=I ((m % 2:Nat):Int)) rfl rfl (fun _=>cV _ _ _ dc)<|Bnr rfl rfl (fun _=>dY _ _ _)<|aa<|?_
  refine bG rfl (fun hc=> ?_) (fun hc=> ?_)
  ·have hp:m % 2=1:=by simp at hc;omega
   refine bN (E:=EE [256])<|La 9 rfl rfl aZ<|Ca rfl (ob _)<|aw 9 (hR (pl w) rfl hGF).2.1 rfl rfl rfl sizeOf78 sm sm (be _) rfl<|aa<|ae (E:=EE [256])<|Mv rfl<|La 9 rfl rfl aZ<|La 6 rfl rfl aZ<|Ca rfl (dQ _ _)<|fK (k) (12*(k)) rfl rfl underlying283 sizeOf78 om om om rfl rfl<|lQ 7 ((FM (FF (fun j=>if j<k+1 then frq (p12 x j) m j else ze2)) 6).map U64) (hR (pl w) rfl hGF).2.1 rfl rfl rfl sizeOf78 sm (be _) (by simp;omega) (tS _ _ (ml2 (cj2 (p12 x k)) (pw2 (GV m) k)) 6 (k) _ om rfl (fun j _=>by rw[←Wm hp];exact yE (fun j=>frq (p12 x j) m j) (fun _=>ze2) k j)) rfl<|aa<|bN (E:=EE [256])<|La 6 rfl rfl aZ<|La 5 rfl rfl aZ<|Ca rfl (dQ _ _)<|aw 6 (hR (pl w) rfl hGF).2.1 rfl rfl rfl sizeOf78 sm sm (be _) rfl<|aa<|?_
   repeat (refine aP ?_)
   exact ⟨_,rfl,trv⟩
  ·have hp: ¬m % 2=1:=by simp at hc;omega
   refine aq<|ae (E:=EE [256])<|Mv rfl<|La 9 rfl rfl aZ<|La 6 rfl rfl aZ<|Ca rfl (dQ _ _)<|fK (k) (12*(k)) rfl rfl underlying283 sizeOf78 om om om rfl rfl<|lQ 7 ((FM (FF (fun j=>if j<k+1 then frq (p12 x j) m j else ze2)) 6).map U64) (hR (pl w) rfl hGF).2.1 rfl rfl rfl sizeOf78 sm (be _) (by simp;omega) (tS _ _ (ml2 (p12 x k) (pw2 (GV m) k)) 6 (k) _ om rfl (fun j _=>by rw[←Xr hp];exact yE (fun j=>frq (p12 x j) m j) (fun _=>ze2) k j)) rfl<|aa<|bN (E:=EE [256])<|La 6 rfl rfl aZ<|La 5 rfl rfl aZ<|Ca rfl (dQ _ _)<|aw 6 (hR (pl w) rfl hGF).2.1 rfl rfl rfl sizeOf78 sm sm (be _) rfl<|aa<|?_
   repeat (refine aP ?_)
   exact ⟨_,rfl,trv⟩
 ·intro D hD
  rw[rM]
  refine ae (E:=EE [256])<|La 7 rfl rfl Pm<|Ca rfl (aaO _)<|Sa 4 hD rfl rfl rfl ic<|aa<|am<|Rr<|?_
  exact d9 (.inl rfl) ao (av 4 rfl rfl rfl isAgg211 sizeOf211 sm (fun w hw=>⟨e12 rfl rfl,ac hw⟩))
end Q6
end
section
open Go.RowKit
attribute [local simp] a7 bv aJ aB aQ a5 aT aK aO bf bC a6 bz J1.bE J2.bE Q6.gv
theorem ent219:ak prog 219:=fun _ _=>kr
theorem ent216:ak prog 216:=fun _ _=>kr
theorem ent194:ak prog 194:=fun _ _=>kr
theorem ent193:ak prog 193:=fun _ _=>kr
theorem ent111:ak prog 111:=fun _ _=>kr
namespace Q6
def pwu(u:Nat)(x:W12):W12:=K12.pw x u
theorem XG(x:W12):PUR 219 [cF x] (cF (pwu UG x)):=by
 intro w hw
 have hGF:BOk Gt (pl w):=gt_low.plain hw
 refine cz (G:=Gt) func219 rfl rfl (Hp (pl w) []) (cm (pl w) trivial ao) (aA hGF)<|Xp<|Bx 1 hGF rfl<|fun b1=>Al 2 hGF zv211<|fun b2=>aa<|Xp<|La 1 rfl rfl ic<|Al 3 hGF zv211<|fun b3=>Sa 3 hGF rfl rfl rfl ic<|aa<|ah<|Xp<|Ca rfl (EX)<|aa<|ai<|?_
 refine ft (fun _=>pl w) (fun _ _=>pl w) (fun _=>hGF) (fun _ _=>hGF) (fun _=>rfl) (fun _ _=>rfl) rfl rfl ent222 xx (fun x hx=>by obtain ⟨k,hk,rfl⟩:=List.mem_map.1 hx;rfl) rfl (fun k=>[(1,b1,sp x,211),(2,b2,(((fe 0++fe 0)++((fe 0++fe 0)++(fe 0++fe 0)))++((fe 0++fe 0)++((fe 0++fe 0)++(fe 0++fe 0)))).map U64,211),(3,b3,sp (pwD x k),211)]) (fun _ _ _=>False) ⟨rfl,rfl,by rw[show pwD x 0=x from K12.pw_one x];rfl,trivial⟩ (fun _ _ _ _=>trivial) ?_ ?_ (fun _ _ _ _ _ h=>h.elim)
 ·intro k v hx R hR
  obtain ⟨hk,rfl⟩:=FR hx
  refine Xq<|Asg rfl<|aa<|?_
  refine ⟨rfl,_,rfl, ?_⟩
  refine ai<|Xp<|La 3 rfl rfl ic<|Ca rfl (nR _)<|aw 3 (hR (pl w) rfl hGF).2.1 rfl rfl rfl sizeOf211 sm sm (be _) rfl<|aa<|Xp<|Mv rfl<|aa<|?_
  refine bG rfl (fun hc=> ?_) (fun hc=> ?_)
  ·have hd:DGb k=true:=by simpa using hc
   refine Xq<|La 3 rfl rfl ic<|La 1 rfl rfl ic<|Ca rfl (Hj _ _)<|aw 3 (hR (pl w) rfl hGF).2.1 rfl rfl rfl sizeOf211 sm sm (be _) rfl<|aa<|?_
   repeat (first|refine aP ?_|refine cq ?_)
   exact ⟨_,rfl,⟨rfl,rfl,by first|(rw[←O8 x hk hd];rfl)|(rw[←PB x hk hd];rfl),trivial⟩⟩
  ·have hd:DGb k=false:=by simpa using hc
   refine aq ?_
   repeat (first|refine aP ?_|refine cq ?_)
   exact ⟨_,rfl,⟨rfl,rfl,by first|(rw[←O8 x hk hd];rfl)|(rw[←PB x hk hd];rfl),trivial⟩⟩
 ·intro D hD
  rw[pn]
  refine Xp<|La 3 rfl rfl ic<|Sa 2 hD rfl rfl rfl ic<|aa<|am<|Rr<|?_
  exact d9 (.inl rfl) ao (av 2 rfl rfl rfl isAgg211 sizeOf211 sm (fun w hw=>⟨by rw[pwu,←TA],ac hw⟩))
abbrev HF(f:W12→W12):Prop:= ∀x,PUR 219 [cF x] (cF (f x))
def agI(m:Nat):Ag Unit where
 of:=fun v=>match v with
  | .inr (.inr (.inl (.int .i64 (.ofNat n))))=>bif Nat.beq n m then some ()else none
  |_=>none
 dn:=fun _=>I (m:Int)
 ok:=fun v x r h=>by
  split at h
  ·rename_i n
   obtain ⟨h1,h⟩:=fy h
   show Value.int .i64 (Int.ofNat n)=I (m:Int)
   rw[Nat.eq_of_beq_eq_true h1];rfl
  ·cases h
theorem UR(x:W12):PUR 217 [cF x,I 1] (cF (cD x)):=Dh x 1
theorem U4(x:W12):PUR 217 [cF x,I 2] (cF (cD (cD x))):=Dh x 2
theorem wfr{f:Nat}{g:W12→W12}(m:Nat)(en:ak prog f)(h: ∀a,PUR f [cF a,I (m:Int)] (cF (g a))):Snd prog Gt f (c2 q12.ag (agI m) q12.rd (fun a _=>g a)):=gK q12.ag (agI m) q12.rd en (fun a _=>bZ (l2 (V12 _).symm rfl) (V12 _).symm (h a))
def YE{f:W12→W12}(hf:HF f):Tb prog Gt:=TO224.add (eG (g:=f) ent219 hf)
def Y5{f:W12→W12}(hf:HF f):Tb prog Gt:=(YE hf).add (wfr (g:=cD) 1 ent217 UR)
def Pb{f:W12→W12}(hf:HF f):Tb prog Gt:=(Y5 hf).add (wfr (g:=fun x=>cD (cD x)) 2 ent217 U4)
theorem T3{α β:Type}(p:α×β):(p.1,p.2)=p:=by cases p;rfl
def pva(f:W12→W12)(x:W12):W12:=K12.mul (f x) x
def pez(x:W12):W12:=fi2 (fi1 x)
def ph1(f:W12→W12)(x:W12):W12:=K12.mul (cD x) (de (f x))
def ph2(f:W12→W12)(x:W12):W12:=K12.mul (K12.mul (f (f x)) (cD (cD x))) (de x)
def phd(f:W12→W12)(x:W12):W12:=K12.mul (K12.mul (ph2 f (ph1 f (pva f (pva f x)))) (K12.mul x x)) x
theorem Tx{p6:Nat}(h6: ∀x,de x=K12.pw x p6)(x:W12)(u:Nat):de (K12.pw x u)=K12.pw (de x) u:=by rw[h6,h6,←K12.pw_mul,←K12.pw_mul,Nat.mul_comm]
theorem NX(x:W12)(u:Nat):de (K12.pw x u)=K12.pw (de x) u:=Tx (fun x=>(Tl x).symm) x u
theorem H9(u:Nat)(x:W12):fi3 u x=de (pva (pwu u) x):=by rw[fi3,tnd,←wa,pva,pwu]
theorem Tc(u:Nat)(x:W12):pva (pwu u) (de x)=de (pva (pwu u) x):=by rw[pva,pva,pwu,pwu,←NX,←wa]
theorem Yz(u:Nat)(x:W12):pva (pwu u) (pva (pwu u) x)=fi3 u (fi3 u x):=by rw[H9,H9,Tc,u5]
theorem Qv(u:Nat)(x:W12):ph1 (pwu u) x=fi4 u x:=by rw[ph1,fi4,tnd,pwu];exact K12.mul_comm _ _
theorem Sp(u:Nat)(x:W12):ph2 (pwu u) x=fi5 u x:=by rw[ph2,fi5,tnd,tnd,←NX,u5,pwu,pwu]
theorem S9(u:Nat)(x:W12):phd (pwu u) x=fi6 u x:=by
 rw[phd,Yz,Qv,Sp]
 show K12.mul (K12.mul _ (K12.mul _ _)) _=K12.mul (K12.mul (K12.mul _ _) _) _
 rw[←K12.mul_assoc]
theorem SD(u:Nat)(x:W12):Ai u x=phd (pwu u) (pez x):=by rw[Ai,S9,pez]
def iX(f:W12→W12)(x:W12):W12:=
 let t0:=f x
 let t1:=K12.mul (((t0.1.1.1,t0.1.1.2),(t0.1.2.1.1,t0.1.2.1.2),(t0.1.2.2.1,t0.1.2.2.2)),((t0.2.1.1,t0.2.1.2),(t0.2.2.1.1,t0.2.2.1.2),(t0.2.2.2.1,t0.2.2.2.2))) x
 t1
theorem H3(f:W12→W12)(x:W12):iX f x=pva f x:=by
 unfold iX
 simp only[T3]
 rfl
theorem ZO{f:W12→W12}(hf:HF f)(x:W12):PUR 216 [cF x] (cF (iX f x)):=(bZ (l1 (V12 _)) (V12 _) (pE (Pb hf) func216 [.inl [x.1.1.1,x.1.1.2,x.1.2.1.1,x.1.2.1.2,x.1.2.2.1,x.1.2.2.2,x.2.1.1,x.2.1.2,x.2.2.1.1,x.2.2.1.2,x.2.2.2.1,x.2.2.2.2]] (.inl (.inl [(iX f x).1.1.1,(iX f x).1.1.2,(iX f x).1.2.1.1,(iX f x).1.2.1.2,(iX f x).1.2.2.1,(iX f x).1.2.2.2,(iX f x).2.1.1,(iX f x).2.1.2,(iX f x).2.2.1.1,(iX f x).2.2.1.2,(iX f x).2.2.2.1,(iX f x).2.2.2.2])) (let t0:=f x;let t1:=K12.mul (((t0.1.1.1,t0.1.1.2),(t0.1.2.1.1,t0.1.2.1.2),(t0.1.2.2.1,t0.1.2.2.2)),((t0.2.1.1,t0.2.1.2),(t0.2.2.1.1,t0.2.2.1.2),(t0.2.2.2.1,t0.2.2.2.2))) x;(.inl (.inl [t1.1.1.1,t1.1.1.2,t1.1.2.1.1,t1.1.2.1.2,t1.1.2.2.1,t1.1.2.2.2,t1.2.1.1,t1.2.1.2,t1.2.2.1.1,t1.2.2.1.2,t1.2.2.2.1,t1.2.2.2.2]),[])) [] kr aE kr))
theorem ppva{f:W12→W12}(hf:HF f)(x:W12):PUR 216 [cF x] (cF (pva f x)):=by rw[←H3];exact ZO hf x
def OE{f:W12→W12}(hf:HF f):Tb prog Gt:=(Pb hf).add (eG (g:=pva f) ent216 (ppva hf))
def i3(x:W12):W12:=
 let t0:=de x
 let t1:=vn x
 let t2:=K12.mul (((t0.1.1.1,t0.1.1.2),(t0.1.2.1.1,t0.1.2.1.2),(t0.1.2.2.1,t0.1.2.2.2)),((t0.2.1.1,t0.2.1.2),(t0.2.2.1.1,t0.2.2.1.2),(t0.2.2.2.1,t0.2.2.2.2))) (((t1.1.1.1,t1.1.1.2),(t1.1.2.1.1,t1.1.2.1.2),(t1.1.2.2.1,t1.1.2.2.2)),((t1.2.1.1,t1.2.1.2),(t1.2.2.1.1,t1.2.2.1.2),(t1.2.2.2.1,t1.2.2.2.2)))
 let t3:=cD (cD (((t2.1.1.1,t2.1.1.2),(t2.1.2.1.1,t2.1.2.1.2),(t2.1.2.2.1,t2.1.2.2.2)),((t2.2.1.1,t2.2.1.2),(t2.2.2.1.1,t2.2.2.1.2),(t2.2.2.2.1,t2.2.2.2.2))))
 let t4:=K12.mul (((t3.1.1.1,t3.1.1.2),(t3.1.2.1.1,t3.1.2.1.2),(t3.1.2.2.1,t3.1.2.2.2)),((t3.2.1.1,t3.2.1.2),(t3.2.2.1.1,t3.2.2.1.2),(t3.2.2.2.1,t3.2.2.2.2))) (((t2.1.1.1,t2.1.1.2),(t2.1.2.1.1,t2.1.2.1.2),(t2.1.2.2.1,t2.1.2.2.2)),((t2.2.1.1,t2.2.1.2),(t2.2.2.1.1,t2.2.2.1.2),(t2.2.2.2.1,t2.2.2.2.2)))
 t4
theorem JD(x:W12):i3 x=pez x:=by
 unfold i3
 simp only[T3]
 rfl
theorem YD{f:W12→W12}(hf:HF f)(x:W12):PUR 194 [cF x] (cF (i3 x)):=(bZ (l1 (V12 _)) (V12 _) (pE (OE hf) func194 [.inl [x.1.1.1,x.1.1.2,x.1.2.1.1,x.1.2.1.2,x.1.2.2.1,x.1.2.2.2,x.2.1.1,x.2.1.2,x.2.2.1.1,x.2.2.1.2,x.2.2.2.1,x.2.2.2.2]] (.inl (.inl [(i3 x).1.1.1,(i3 x).1.1.2,(i3 x).1.2.1.1,(i3 x).1.2.1.2,(i3 x).1.2.2.1,(i3 x).1.2.2.2,(i3 x).2.1.1,(i3 x).2.1.2,(i3 x).2.2.1.1,(i3 x).2.2.1.2,(i3 x).2.2.2.1,(i3 x).2.2.2.2])) (let t0:=de x;let t1:=vn x;let t2:=K12.mul (((t0.1.1.1,t0.1.1.2),(t0.1.2.1.1,t0.1.2.1.2),(t0.1.2.2.1,t0.1.2.2.2)),((t0.2.1.1,t0.2.1.2),(t0.2.2.1.1,t0.2.2.1.2),(t0.2.2.2.1,t0.2.2.2.2))) (((t1.1.1.1,t1.1.1.2),(t1.1.2.1.1,t1.1.2.1.2),(t1.1.2.2.1,t1.1.2.2.2)),((t1.2.1.1,t1.2.1.2),(t1.2.2.1.1,t1.2.2.1.2),(t1.2.2.2.1,t1.2.2.2.2)));let t3:=cD (cD (((t2.1.1.1,t2.1.1.2),(t2.1.2.1.1,t2.1.2.1.2),(t2.1.2.2.1,t2.1.2.2.2)),((t2.2.1.1,t2.2.1.2),(t2.2.2.1.1,t2.2.2.1.2),(t2.2.2.2.1,t2.2.2.2.2))));let t4:=K12.mul (((t3.1.1.1,t3.1.1.2),(t3.1.2.1.1,t3.1.2.1.2),(t3.1.2.2.1,t3.1.2.2.2)),((t3.2.1.1,t3.2.1.2),(t3.2.2.1.1,t3.2.2.1.2),(t3.2.2.2.1,t3.2.2.2.2))) (((t2.1.1.1,t2.1.1.2),(t2.1.2.1.1,t2.1.2.1.2),(t2.1.2.2.1,t2.1.2.2.2)),((t2.2.1.1,t2.2.1.2),(t2.2.2.1.1,t2.2.2.1.2),(t2.2.2.2.1,t2.2.2.2.2)));(.inl (.inl [t4.1.1.1,t4.1.1.2,t4.1.2.1.1,t4.1.2.1.2,t4.1.2.2.1,t4.1.2.2.2,t4.2.1.1,t4.2.1.2,t4.2.2.1.1,t4.2.2.1.2,t4.2.2.2.1,t4.2.2.2.2]),[])) [] kr aE kr))
theorem ppez{f:W12→W12}(hf:HF f)(x:W12):PUR 194 [cF x] (cF (pez x)):=by rw[←JD];exact YD hf x
def PR{f:W12→W12}(hf:HF f):Tb prog Gt:=(OE hf).add (eG (g:=pez) ent194 (ppez hf))
def i5(f:W12→W12)(x:W12):W12:=
 let t0:=pva f x
 let t1:=pva f (((t0.1.1.1,t0.1.1.2),(t0.1.2.1.1,t0.1.2.1.2),(t0.1.2.2.1,t0.1.2.2.2)),((t0.2.1.1,t0.2.1.2),(t0.2.2.1.1,t0.2.2.1.2),(t0.2.2.2.1,t0.2.2.2.2)))
 let t2:=cD (((t1.1.1.1,t1.1.1.2),(t1.1.2.1.1,t1.1.2.1.2),(t1.1.2.2.1,t1.1.2.2.2)),((t1.2.1.1,t1.2.1.2),(t1.2.2.1.1,t1.2.2.1.2),(t1.2.2.2.1,t1.2.2.2.2)))
 let t3:=f (((t1.1.1.1,t1.1.1.2),(t1.1.2.1.1,t1.1.2.1.2),(t1.1.2.2.1,t1.1.2.2.2)),((t1.2.1.1,t1.2.1.2),(t1.2.2.1.1,t1.2.2.1.2),(t1.2.2.2.1,t1.2.2.2.2)))
 let t4:=de (((t3.1.1.1,t3.1.1.2),(t3.1.2.1.1,t3.1.2.1.2),(t3.1.2.2.1,t3.1.2.2.2)),((t3.2.1.1,t3.2.1.2),(t3.2.2.1.1,t3.2.2.1.2),(t3.2.2.2.1,t3.2.2.2.2)))
 let t5:=K12.mul (((t2.1.1.1,t2.1.1.2),(t2.1.2.1.1,t2.1.2.1.2),(t2.1.2.2.1,t2.1.2.2.2)),((t2.2.1.1,t2.2.1.2),(t2.2.2.1.1,t2.2.2.1.2),(t2.2.2.2.1,t2.2.2.2.2))) (((t4.1.1.1,t4.1.1.2),(t4.1.2.1.1,t4.1.2.1.2),(t4.1.2.2.1,t4.1.2.2.2)),((t4.2.1.1,t4.2.1.2),(t4.2.2.1.1,t4.2.2.1.2),(t4.2.2.2.1,t4.2.2.2.2)))
 let t6:=f (((t5.1.1.1,t5.1.1.2),(t5.1.2.1.1,t5.1.2.1.2),(t5.1.2.2.1,t5.1.2.2.2)),((t5.2.1.1,t5.2.1.2),(t5.2.2.1.1,t5.2.2.1.2),(t5.2.2.2.1,t5.2.2.2.2)))
 let t7:=f (((t6.1.1.1,t6.1.1.2),(t6.1.2.1.1,t6.1.2.1.2),(t6.1.2.2.1,t6.1.2.2.2)),((t6.2.1.1,t6.2.1.2),(t6.2.2.1.1,t6.2.2.1.2),(t6.2.2.2.1,t6.2.2.2.2)))
 let t8:=cD (cD (((t5.1.1.1,t5.1.1.2),(t5.1.2.1.1,t5.1.2.1.2),(t5.1.2.2.1,t5.1.2.2.2)),((t5.2.1.1,t5.2.1.2),(t5.2.2.1.1,t5.2.2.1.2),(t5.2.2.2.1,t5.2.2.2.2))))
 let t9:=K12.mul (((t7.1.1.1,t7.1.1.2),(t7.1.2.1.1,t7.1.2.1.2),(t7.1.2.2.1,t7.1.2.2.2)),((t7.2.1.1,t7.2.1.2),(t7.2.2.1.1,t7.2.2.1.2),(t7.2.2.2.1,t7.2.2.2.2))) (((t8.1.1.1,t8.1.1.2),(t8.1.2.1.1,t8.1.2.1.2),(t8.1.2.2.1,t8.1.2.2.2)),((t8.2.1.1,t8.2.1.2),(t8.2.2.1.1,t8.2.2.1.2),(t8.2.2.2.1,t8.2.2.2.2)))
 let t10:=de (((t5.1.1.1,t5.1.1.2),(t5.1.2.1.1,t5.1.2.1.2),(t5.1.2.2.1,t5.1.2.2.2)),((t5.2.1.1,t5.2.1.2),(t5.2.2.1.1,t5.2.2.1.2),(t5.2.2.2.1,t5.2.2.2.2)))
 let t11:=K12.mul (((t9.1.1.1,t9.1.1.2),(t9.1.2.1.1,t9.1.2.1.2),(t9.1.2.2.1,t9.1.2.2.2)),((t9.2.1.1,t9.2.1.2),(t9.2.2.1.1,t9.2.2.1.2),(t9.2.2.2.1,t9.2.2.2.2))) (((t10.1.1.1,t10.1.1.2),(t10.1.2.1.1,t10.1.2.1.2),(t10.1.2.2.1,t10.1.2.2.2)),((t10.2.1.1,t10.2.1.2),(t10.2.2.1.1,t10.2.2.1.2),(t10.2.2.2.1,t10.2.2.2.2)))
 let t12:=K12.mul x x
 let t13:=K12.mul (((t11.1.1.1,t11.1.1.2),(t11.1.2.1.1,t11.1.2.1.2),(t11.1.2.2.1,t11.1.2.2.2)),((t11.2.1.1,t11.2.1.2),(t11.2.2.1.1,t11.2.2.1.2),(t11.2.2.2.1,t11.2.2.2.2))) (((t12.1.1.1,t12.1.1.2),(t12.1.2.1.1,t12.1.2.1.2),(t12.1.2.2.1,t12.1.2.2.2)),((t12.2.1.1,t12.2.1.2),(t12.2.2.1.1,t12.2.2.1.2),(t12.2.2.2.1,t12.2.2.2.2)))
 let t14:=K12.mul (((t13.1.1.1,t13.1.1.2),(t13.1.2.1.1,t13.1.2.1.2),(t13.1.2.2.1,t13.1.2.2.2)),((t13.2.1.1,t13.2.1.2),(t13.2.2.1.1,t13.2.2.1.2),(t13.2.2.2.1,t13.2.2.2.2))) x
 t14
theorem FK(f:W12→W12)(x:W12):i5 f x=phd f x:=by
 unfold i5
 simp only[T3]
 rfl
theorem Zn{f:W12→W12}(hf:HF f)(x:W12):PUR 193 [cF x] (cF (i5 f x)):=(bZ (l1 (V12 _)) (V12 _) (pE (PR hf) func193 [.inl [x.1.1.1,x.1.1.2,x.1.2.1.1,x.1.2.1.2,x.1.2.2.1,x.1.2.2.2,x.2.1.1,x.2.1.2,x.2.2.1.1,x.2.2.1.2,x.2.2.2.1,x.2.2.2.2]] (.inl (.inl [(i5 f x).1.1.1,(i5 f x).1.1.2,(i5 f x).1.2.1.1,(i5 f x).1.2.1.2,(i5 f x).1.2.2.1,(i5 f x).1.2.2.2,(i5 f x).2.1.1,(i5 f x).2.1.2,(i5 f x).2.2.1.1,(i5 f x).2.2.1.2,(i5 f x).2.2.2.1,(i5 f x).2.2.2.2])) (let t0:=pva f x;let t1:=pva f (((t0.1.1.1,t0.1.1.2),(t0.1.2.1.1,t0.1.2.1.2),(t0.1.2.2.1,t0.1.2.2.2)),((t0.2.1.1,t0.2.1.2),(t0.2.2.1.1,t0.2.2.1.2),(t0.2.2.2.1,t0.2.2.2.2)));let t2:=cD (((t1.1.1.1,t1.1.1.2),(t1.1.2.1.1,t1.1.2.1.2),(t1.1.2.2.1,t1.1.2.2.2)),((t1.2.1.1,t1.2.1.2),(t1.2.2.1.1,t1.2.2.1.2),(t1.2.2.2.1,t1.2.2.2.2)));let t3:=f (((t1.1.1.1,t1.1.1.2),(t1.1.2.1.1,t1.1.2.1.2),(t1.1.2.2.1,t1.1.2.2.2)),((t1.2.1.1,t1.2.1.2),(t1.2.2.1.1,t1.2.2.1.2),(t1.2.2.2.1,t1.2.2.2.2)));let t4:=de (((t3.1.1.1,t3.1.1.2),(t3.1.2.1.1,t3.1.2.1.2),(t3.1.2.2.1,t3.1.2.2.2)),((t3.2.1.1,t3.2.1.2),(t3.2.2.1.1,t3.2.2.1.2),(t3.2.2.2.1,t3.2.2.2.2)));let t5:=K12.mul (((t2.1.1.1,t2.1.1.2),(t2.1.2.1.1,t2.1.2.1.2),(t2.1.2.2.1,t2.1.2.2.2)),((t2.2.1.1,t2.2.1.2),(t2.2.2.1.1,t2.2.2.1.2),(t2.2.2.2.1,t2.2.2.2.2))) (((t4.1.1.1,t4.1.1.2),(t4.1.2.1.1,t4.1.2.1.2),(t4.1.2.2.1,t4.1.2.2.2)),((t4.2.1.1,t4.2.1.2),(t4.2.2.1.1,t4.2.2.1.2),(t4.2.2.2.1,t4.2.2.2.2)));let t6:=f (((t5.1.1.1,t5.1.1.2),(t5.1.2.1.1,t5.1.2.1.2),(t5.1.2.2.1,t5.1.2.2.2)),((t5.2.1.1,t5.2.1.2),(t5.2.2.1.1,t5.2.2.1.2),(t5.2.2.2.1,t5.2.2.2.2)));let t7:=f (((t6.1.1.1,t6.1.1.2),(t6.1.2.1.1,t6.1.2.1.2),(t6.1.2.2.1,t6.1.2.2.2)),((t6.2.1.1,t6.2.1.2),(t6.2.2.1.1,t6.2.2.1.2),(t6.2.2.2.1,t6.2.2.2.2)));let t8:=cD (cD (((t5.1.1.1,t5.1.1.2),(t5.1.2.1.1,t5.1.2.1.2),(t5.1.2.2.1,t5.1.2.2.2)),((t5.2.1.1,t5.2.1.2),(t5.2.2.1.1,t5.2.2.1.2),(t5.2.2.2.1,t5.2.2.2.2))));let t9:=K12.mul (((t7.1.1.1,t7.1.1.2),(t7.1.2.1.1,t7.1.2.1.2),(t7.1.2.2.1,t7.1.2.2.2)),((t7.2.1.1,t7.2.1.2),(t7.2.2.1.1,t7.2.2.1.2),(t7.2.2.2.1,t7.2.2.2.2))) (((t8.1.1.1,t8.1.1.2),(t8.1.2.1.1,t8.1.2.1.2),(t8.1.2.2.1,t8.1.2.2.2)),((t8.2.1.1,t8.2.1.2),(t8.2.2.1.1,t8.2.2.1.2),(t8.2.2.2.1,t8.2.2.2.2)));let t10:=de (((t5.1.1.1,t5.1.1.2),(t5.1.2.1.1,t5.1.2.1.2),(t5.1.2.2.1,t5.1.2.2.2)),((t5.2.1.1,t5.2.1.2),(t5.2.2.1.1,t5.2.2.1.2),(t5.2.2.2.1,t5.2.2.2.2)));let t11:=K12.mul (((t9.1.1.1,t9.1.1.2),(t9.1.2.1.1,t9.1.2.1.2),(t9.1.2.2.1,t9.1.2.2.2)),((t9.2.1.1,t9.2.1.2),(t9.2.2.1.1,t9.2.2.1.2),(t9.2.2.2.1,t9.2.2.2.2))) (((t10.1.1.1,t10.1.1.2),(t10.1.2.1.1,t10.1.2.1.2),(t10.1.2.2.1,t10.1.2.2.2)),((t10.2.1.1,t10.2.1.2),(t10.2.2.1.1,t10.2.2.1.2),(t10.2.2.2.1,t10.2.2.2.2)));let t12:=K12.mul x x;let t13:=K12.mul (((t11.1.1.1,t11.1.1.2),(t11.1.2.1.1,t11.1.2.1.2),(t11.1.2.2.1,t11.1.2.2.2)),((t11.2.1.1,t11.2.1.2),(t11.2.2.1.1,t11.2.2.1.2),(t11.2.2.2.1,t11.2.2.2.2))) (((t12.1.1.1,t12.1.1.2),(t12.1.2.1.1,t12.1.2.1.2),(t12.1.2.2.1,t12.1.2.2.2)),((t12.2.1.1,t12.2.1.2),(t12.2.2.1.1,t12.2.2.1.2),(t12.2.2.2.1,t12.2.2.2.2)));let t14:=K12.mul (((t13.1.1.1,t13.1.1.2),(t13.1.2.1.1,t13.1.2.1.2),(t13.1.2.2.1,t13.1.2.2.2)),((t13.2.1.1,t13.2.1.2),(t13.2.2.1.1,t13.2.2.1.2),(t13.2.2.2.1,t13.2.2.2.2))) x;(.inl (.inl [t14.1.1.1,t14.1.1.2,t14.1.2.1.1,t14.1.2.1.2,t14.1.2.2.1,t14.1.2.2.2,t14.2.1.1,t14.2.1.2,t14.2.2.1.1,t14.2.2.1.2,t14.2.2.2.1,t14.2.2.2.2]),[])) [] kr aE kr))
theorem pphd{f:W12→W12}(hf:HF f)(x:W12):PUR 193 [cF x] (cF (phd f x)):=by rw[←FK];exact Zn hf x
def Wl{f:W12→W12}(hf:HF f):Tb prog Gt:=(PR hf).add (eG (g:=phd f) ent193 (pphd hf))
theorem Nc{f:W12→W12}(hf:HF f)(x:W12):PUR 162 [cF x] (cF (phd f (pez x))):=(bZ (l1 (V12 _)) (V12 _) (pE (Wl hf) func162 [.inl [x.1.1.1,x.1.1.2,x.1.2.1.1,x.1.2.1.2,x.1.2.2.1,x.1.2.2.2,x.2.1.1,x.2.1.2,x.2.2.1.1,x.2.2.1.2,x.2.2.2.1,x.2.2.2.2]] (.inl (.inl [(phd f (pez x)).1.1.1,(phd f (pez x)).1.1.2,(phd f (pez x)).1.2.1.1,(phd f (pez x)).1.2.1.2,(phd f (pez x)).1.2.2.1,(phd f (pez x)).1.2.2.2,(phd f (pez x)).2.1.1,(phd f (pez x)).2.1.2,(phd f (pez x)).2.2.1.1,(phd f (pez x)).2.2.1.2,(phd f (pez x)).2.2.2.1,(phd f (pez x)).2.2.2.2])) (let t0:=pez x;let t1:=phd f (((t0.1.1.1,t0.1.1.2),(t0.1.2.1.1,t0.1.2.1.2),(t0.1.2.2.1,t0.1.2.2.2)),((t0.2.1.1,t0.2.1.2),(t0.2.2.1.1,t0.2.2.1.2),(t0.2.2.2.1,t0.2.2.2.2)));(.inl (.inl [t1.1.1.1,t1.1.1.2,t1.1.2.1.1,t1.1.2.1.2,t1.1.2.2.1,t1.1.2.2.2,t1.2.1.1,t1.2.1.2,t1.2.2.1.1,t1.2.2.1.2,t1.2.2.2.1,t1.2.2.2.2]),[])) [] kr aE kr))
theorem UU(x:W12):PUR 162 [cF x] (cF (Ai UG x)):=by rw[SD];exact Nc XG x
end Q6
end
section
open Go.RowKit
attribute [local simp] a7 bv aJ aB aQ a5 aT aK aO bf bC a6 bz J1.bE J2.bE Q6.gv
namespace Q6
theorem Lr(l c:Nat)(x:Option Addr)(a:W12)(w:World)(hw:Gt w)(hL: ∀w',Gt w'→Grow w w'→CLS 163 [.slice x l c].toArray w' (fun y w''=>y=.returned (cF a)∧Grow w' w'')):CLS 111 [.slice x l c].toArray w (fun r w'=>r=.returned (.bool (decide (Ai UG a=K12.one)))∧Grow w w'):=by
 refine Hf func111 rfl hw<|fun hGF=>Xp<|Asg rfl<|aa<|Xp<|Mv rfl<|Cc rfl ent163 (fun w' hC hG=>hL w' hG (ac hC))<|Ca rfl (UU a)<|Ca rfl (uq)<|Ca rfl (qs _ _)<|Asg rfl<|aa<|am<|Rr<|?_
 exact aG rfl rfl (fun w hw=>⟨rfl,ac hw⟩)
theorem j9{w w':World}{b:Nat}{cs:List Value}(h:w.rangeAt b 0 cs)(hg:Grow w w'):w'.rangeAt b 0 cs:=fun j v hv=>(hg.cell (block_lt_of_cell (h j v hv))).trans (h j v hv)
end Q6
end
end Go.Proofs.YtjookodjbjabbaaGreatDoor
