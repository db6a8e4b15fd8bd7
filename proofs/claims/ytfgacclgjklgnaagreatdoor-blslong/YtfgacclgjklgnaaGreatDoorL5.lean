/- L5 -/
import Derived.Test.YtfgacclgjklgnaaGreatDoorL4
import Derived.Test.YtfgacclgjklgnaaGreatDoorL3
import Derived.Test.YtfgacclgjklgnaaGreatDoorM2
import Derived.Test.YtfgacclgjklgnaaGreatDoorM1
import Derived.Test.YtfgacclgjklgnaaGreatDoorX3
import Derived.Test.YtfgacclgjklgnaaGreatDoorXW
set_option maxRecDepth 100000
set_option maxHeartbeats 1000000
namespace Go.Proofs.YtfgacclgjklgnaaGreatDoor
open Go.Proofs.Tryz
section
section
variable {α β:Type} {C:Ec α} {D:Ec β} (T:Hw C D)
theorem Hw.f1:T.f C.R.one=D.R.one:=by
 have e:D.R.mul (T.f C.R.one) (D.sub (T.f C.R.one) D.R.one)=D.R.zero:=by
  have k:=T.fm C.R.one C.R.one
  rw[C.R.mul_one]at k
  exact zk D.R [T.f C.R.one] 0x564632 0x1 0x32 0x566 0x6 k
 exact D.sub0 ((D.fd.two e).resolve_left fun h=>C.one_ne (T.fi _ h))
def Hw.fj(A:α×α×α):β×β×β:=(T.f A.1,T.f A.2.1,T.f A.2.2)
theorem Hw.jd_f(X Y Z:α):D.jd (T.f X) (T.f Y) (T.f Z)=T.fj (C.jd X Y Z):=by
 simp only[Ec.jd,Hw.fj,T.fs,T.fm,T.fa]
theorem Hw.ja_f(X Y Z X' Y' Z':α):D.ja (T.f X) (T.f Y) (T.f Z) (T.f X') (T.f Y') (T.f Z')=T.fj (C.ja X Y Z X' Y' Z'):=by
 simp only[Ec.ja,Hw.fj,T.fs,T.fm]
theorem Hw.js_f(x y:α): ∀(l:List Bool) (A:α×α×α),D.js (T.f x) (T.f y) l (T.fj A)=T.fj (C.js x y l A)
 |[],_=>rfl
 |false::r,A=>by
  show D.js (T.f x) (T.f y) r (D.jd (T.f A.1) (T.f A.2.1) (T.f A.2.2))=T.fj (C.js x y r (C.jd A.1 A.2.1 A.2.2))
  rw[T.jd_f]
  exact Hw.js_f x y r _
 |true::r,A=>by
  show D.js (T.f x) (T.f y) r (D.ja (D.jd (T.f A.1) (T.f A.2.1) (T.f A.2.2)).1 (D.jd (T.f A.1) (T.f A.2.1) (T.f A.2.2)).2.1 (D.jd (T.f A.1) (T.f A.2.1) (T.f A.2.2)).2.2 (T.f x) (T.f y) D.R.one)=T.fj (C.js x y r (C.ja (C.jd A.1 A.2.1 A.2.2).1 (C.jd A.1 A.2.1 A.2.2).2.1 (C.jd A.1 A.2.1 A.2.2).2.2 x y C.R.one))
  rw[T.jd_f,←T.f1]
  exact (congrArg (D.js (T.f x) (T.f y) r) (T.ja_f _ _ _ _ _ _)).trans (Hw.js_f x y r _)
theorem Hw.js_ne(x y:α)(l:List Bool)(h:(C.js x y l (x,y,C.R.one)).2.2≠C.R.zero):(D.js (T.f x) (T.f y) l (T.f x,T.f y,D.R.one)).2.2≠D.R.zero:=fun e=>h (T.fi _ (by
 have k:=T.js_f x y l (x,y,C.R.one)
 have k2:D.js (T.f x) (T.f y) l (T.f x,T.f y,D.R.one)=T.fj (C.js x y l (x,y,C.R.one)):=by rw[←k,←T.f1];rfl
 rw[k2]at e
 exact e))
end
/-! ### Over p^12 -/
def E12:Ec W12 where
 R:=K12
 iv:=il
 b:=em (zp 4,zp 4)
 hi:=fun _ h=>ls h
 h2:=by decide+kernel
 h3:=by decide+kernel
 hb:=by decide+kernel
theorem Dm(a b:W2):em (ad2 a b)=K12.add (em a) (em b):=Prod.ext (Prod.ext rfl (Prod.ext (R2.add_zero _).symm (R2.add_zero _).symm)) (Prod.ext (R2.add_zero _).symm (Prod.ext (R2.add_zero _).symm (R2.add_zero _).symm))
theorem tb(a:W2):em (ng2 a)=K12.neg (em a):=Prod.ext (Prod.ext rfl (Prod.ext R2.neg_zero.symm R2.neg_zero.symm)) (Prod.ext R2.neg_zero.symm (Prod.ext R2.neg_zero.symm R2.neg_zero.symm))
theorem yy{a:W2}(h:em a=K12.zero):a=ze2:=congrArg (fun x:W12=>x.1.1) h
def HE:Hw E2w E12 where
 f:=em
 w:=K12.one
 fa:=Dm
 fm:=fun a b=>(dP a b).symm
 fn:=tb
 f0:=rfl
 fi:=fun _ h=>yy h
 wn:=by decide+kernel
 wb:=by decide+kernel
def WW:W12:=(K6.zero,K6.one)
def re2(a:Zp):W2:=(a,0)
theorem GR(a b:Zp):re2 (a+b)=ad2 (re2 a) (re2 b):=bp rfl (by show (0:Zp)=0+0;exact (EF 0).symm)
theorem zw(a b:Zp):re2 (a*b)=ml2 (re2 a) (re2 b):=bp (by show a*b=a*b-0*0;rw[gP,JI]) (by show (0:Zp)=a*0+0*b;rw[gP,sR,EF])
theorem GN(a:Zp):re2 (-a)=ng2 (re2 a):=bp rfl (by show (0:Zp)= -0;exact z_n0'.symm)
theorem p9{a:Zp}(h:re2 a=ze2):a=0:=congrArg Prod.fst h
def HB:Hw E1 E12 where
 f:=fun a=>em (re2 a)
 w:=WW
 fa:=fun a b=>by show em (re2 (a+b))=_;rw[GR,Dm];rfl
 fm:=fun a b=>by show em (re2 (a*b))=_;rw[zw,←dP];rfl
 fn:=fun a=>by show em (re2 (-a))=_;rw[GN,tb];rfl
 f0:=rfl
 fi:=fun _ h=>p9 (yy h)
 wn:=by decide+kernel
 wb:=by decide+kernel
theorem WW2:K12.mul WW WW=r6 VV:=by decide+kernel
theorem QK(c:W2):sc6 VV c=(ze2,c,ze2):=Prod.ext (R2.zero_mul c) (Prod.ext (R2.one_mul c) (R2.zero_mul c))
theorem Jb(c:W2):K12.mul (K12.mul WW WW) (em c)=r6 (ze2,c,ze2):=by rw[WW2,uh,QK]
theorem Un(x:W6):K12.mul WW (r6 x)=(K6.zero,x):=by
 refine Prod.ext ?_ ?_
 ·show K6.add (K6.mul K6.zero x) (K6.mul VV (K6.mul K6.one K6.zero))=K6.zero
  rw[K6.zero_mul,K6.mul_zero,K6.mul_zero,K6.add_zero]
 ·show K6.add (K6.mul K6.zero K6.zero) (K6.mul K6.one x)=x
  rw[K6.zero_mul,K6.zero_add,K6.one_mul]
theorem TJ(c:W2):K12.mul (K12.mul WW (K12.mul WW WW)) (em c)=(K6.zero,(ze2,c,ze2)):=by rw[K12.mul_assoc,Jb,Un]
theorem Kc(S:Pt W2)(S':Pt Zp)(_:E2w.onP S)(h':E1.onP S')(h:HE.p S=HB.p S'):S'=none:=by
 cases S' with
 |none=>rfl
 |some q=>
  cases S with
  |none=>cases h
  |some s=>
   exfalso
   have h:HE.m s=HB.m q:=Option.some.inj h
   have hx:K12.mul (K12.mul K12.one K12.one) (em s.1)=K12.mul (K12.mul WW WW) (em (re2 q.1)):=congrArg Prod.fst h
   have hy:K12.mul (K12.mul K12.one (K12.mul K12.one K12.one)) (em s.2)=K12.mul (K12.mul WW (K12.mul WW WW)) (em (re2 q.2)):=congrArg Prod.snd h
   rw[Jb,K12.one_mul,K12.one_mul]at hx
   rw[TJ,K12.one_mul,K12.one_mul,K12.one_mul]at hy
   have x0:q.1=0:=p9 (congrArg (fun x:W12=>x.1.2.1) hx).symm
   have y0:q.2=0:=p9 (congrArg (fun x:W12=>x.2.2.1) hy).symm
   have k:q.2*q.2=q.1*(q.1*q.1)+zp 4:=h'
   rw[x0,y0]at k
   exact absurd k (by decide+kernel)
def AX:W2:=(zp 2,0)
def AY:W2:=(zp 0x18c6b864ae17dc9da64203ffefb966306425a7bc6aeb7c75247438372716284a4173830420cd476ba1a365b95bfcec38,zp 0x172e93db764a8400a7d5071b6b6f5de0da2f0f4a063119abca014006b7c40a2cfe291a1924e65db0d6d0fcfbf3bf3d5c)
theorem A_on:E2w.on (AX,AY):=by
 unfold Ec.on
 decide+kernel
def l12:List Bool:=(dN 255 ORD []).tail
theorem Ry:bQ l12 1=ORD:=by decide+kernel
theorem Tv:2*mB l12 1<((ORD-1) / 2)*(ORD*ORD):=by decide+kernel
theorem TP:2*((ORD-1) / 2)<ORD:=by decide+kernel
theorem A_1:(E2w.js AX AY l12 (AX,AY,on2)).2.2≠ze2:=by decide+kernel
theorem A_2:(E2w.js AX (ng2 AY) l12 (AX,ng2 AY,on2)).2.2≠ze2:=by decide+kernel
theorem vU(s:W2×W2):HE.m s=(em s.1,em s.2):=by
 refine Prod.ext ?_ ?_
 ·show K12.mul (K12.mul K12.one K12.one) (em s.1)=em s.1
  rw[K12.one_mul,K12.one_mul]
 ·show K12.mul (K12.mul K12.one (K12.mul K12.one K12.one)) (em s.2)=em s.2
  rw[K12.one_mul,K12.one_mul,K12.one_mul]
theorem Df:E12.on (em AX,em AY):=by
 have h:=HE.m_on A_on
 rw[vU]at h
 exact h
theorem LA:(some G2p:Pt W2)≠none:=fun h=>by cases h
theorem iS:E2w.onP (some G2p):=ow
theorem OR{l:List Bool}{r h:Nat}(hr:Pr r)(hl:bQ l 1=r)(hM:2*mB l 1<h*(r*r))(hh:2*h<r)(n1:(E2w.js AX AY l (AX,AY,on2)).2.2≠ze2)(n2:(E2w.js AX (ng2 AY) l (AX,ng2 AY,on2)).2.2≠ze2)(g1:E1.times (some G1p) r=none)(g2:E2w.times (some G2p) r=none){P:Pt W2}(hP:E2w.onP P)(hp:E2w.times P r=none): ∃e,P=E2w.times (some G2p) e:=by
 have m2:=HE.js_ne AX (ng2 AY) l n2
 have en:em (ng2 AY)=E12.R.neg (em AY):=tb AY
 have m2':(E12.js (em AX) (em (ng2 AY)) l (em AX,em (ng2 AY),E12.R.one)).2.2≠E12.R.zero:=m2
 rw[en]at m2'
 exact Fe HE HB Kc (fun _ h0 h1=>pH hr h0 h1) iS hP gH g2 hp g1 LA EL hl Df (HE.js_ne AX AY l n1) m2' hh hM
theorem vO{P:Pt W2}(hP:E2w.onP P)(h:E2w.times P ORD=none): ∃e,P=E2w.times (some G2p) e:=OR mC Ry Tv TP A_1 A_2 jz iM hP h
end
section
section
variable {α:Type} [DecidableEq α] (C:Ec α)
theorem Ec.line{c x y:α}(hc:C.R.add (C.R.add (C.R.mul c c) c) C.R.one=C.R.zero)(hp:C.on (x,y))(hq:C.on (C.R.mul c x,y)):C.ad (C.ad (some (x,y)) (some (C.R.mul c x,y))) (some (C.R.mul c (C.R.mul c x),y))=none:=by
 have ho: ¬C.opp (x,y) (C.R.mul c x,y):=by
  intro h
  have h1:x=C.R.mul c x:=h.1
  have hy:y=C.R.zero:=C.dbl0 h.2
  have e:C.R.mul (C.R.add (C.R.add C.R.one C.R.one) C.R.one) x=C.R.zero:=zl C.R [x,y,c] 0x5442226 0x4561544228586 0x1 0x45644588825442286 (lca (lcm hc) (lcm h1))
  have hx:x=C.R.zero:=(C.fd.two e).resolve_left C.h3
  subst hx hy
  have k:C.R.mul C.R.zero C.R.zero=C.R.add (C.R.mul C.R.zero (C.R.mul C.R.zero C.R.zero)) C.b:=hp
  rw[C.R.mul_zero,C.R.mul_zero,C.R.zero_add]at k
  exact C.hb k.symm
 have hs:C.Sl (x,y) (C.R.mul c x,y) C.R.zero:=by
  refine ⟨?_, ?_⟩
  ·show C.R.mul C.R.zero (C.R.add x (C.R.neg (C.R.mul c x)))=C.R.add y (C.R.neg y)
   exact zx C.R [x,y,c] 0x51463586 0x4737
  ·show C.R.mul C.R.zero (C.R.add y y)=C.R.add (C.R.add (C.R.mul x x) (C.R.mul x (C.R.mul c x))) (C.R.mul (C.R.mul c x) (C.R.mul c x))
   exact zk C.R [x,y,c] 0x51477 0x44566565865586586 0x3566 0x1 0x4458882 hc
 rw[C.ad_sl hp hq ho hs]
 refine C.ad_opp ⟨?_, ?_⟩
 ·show C.R.add (C.R.add (C.R.mul C.R.zero C.R.zero) (C.R.neg x)) (C.R.neg (C.R.mul c x))=C.R.mul c (C.R.mul c x)
  exact zk C.R [x,y,c] 0x44511363586 0x58586 0x36 0x1 0x4458882 hc
 ·show C.R.add (C.R.add (C.R.mul C.R.zero _) (C.R.neg y)) y=C.R.zero
  rw[C.R.zero_mul,C.R.zero_add,C.R.add_comm,C.R.add_neg]
variable {C} (T:Tw C)
theorem Hw.psi_in{P:Pt α}(hP:C.onP P)(line:C.ad (C.ad P (C.ne (T.p (T.p P)))) (T.p (T.p (T.p (T.p P))))=none){U r:Nat}(hU:r+U*U=(U*U)*(U*U)+1)(h:C.ne (C.times P U)=T.p P):C.times P r=none:=by
 have two: ∀{Q:Pt α},C.onP Q→C.ne (C.times Q U)=T.p Q→T.p (T.p Q)=C.times Q (U*U):=fun {Q} hQ hq=>by
  rw[←hq,T.p_ne,T.p_times hQ,←hq,C.times_ne (C.times_on hQ U),C.ne_ne,C.times_mul hQ]
 have e2:=two hP h
 have hV:=C.times_on hP (U*U)
 have h4:C.ne (C.times (C.times P (U*U)) U)=T.p (C.times P (U*U)):=by
  rw[T.p_times hP,←h,C.times_ne (C.times_on hP U),C.times_swap hP]
 have e4:=two hV h4
 rw[←C.times_mul hP]at e4
 rw[e2,e4]at line
 generalize U*U=V at*
 have hS:=C.times_on hP (V*V)
 have e3:C.ad (C.times P r) (C.times P V)=C.ad (C.times P (V*V)) P:=by rw[←C.times_add hP,hU];rfl
 have e5:C.ad (C.ad (C.times P r) (C.times P V)) (C.ne (C.times P V))=C.times P r:=by
  rw[C.ad_assoc (C.times_on hP r) hV (C.ne_on hV),C.ad_ne,C.ad_nr]
 rw[←e5,e3,C.ad_assoc hS hP (C.ne_on hV),C.ad_comm hS (C.ad_on hP (C.ne_on hV)),line]
theorem Hw.psi_out{G:Pt α}(hG:C.onP G){U:Nat}(h:C.ne (C.times G U)=T.p G)(e:Nat):C.ne (C.times (C.times G e) U)=T.p (C.times G e):=by
 rw[T.p_times hG,←h,C.times_ne (C.times_on hG U),C.times_swap hG e U]
end
/-! ### The second curve -/
def PW:W2:=(zp 0x5b2cfd9013a5fd8df47fa6b48b1e045f39816240c0b8fee8beadf4d8e9c0566c63a3e6e257f87329b18fae980078116,zp 0x5b2cfd9013a5fd8df47fa6b48b1e045f39816240c0b8fee8beadf4d8e9c0566c63a3e6e257f87329b18fae980078116)
def TXn:Nat:=0x1a0111ea397fe699ec02408663d4de85aa0d857d89759ad4897d29650fb85f9b409427eb4f49fffd8bfd00000000aaad
def TY0:Nat:=0x135203e60180a68ee2e9c448d77a2cd91c3dedd930b1cf60ef396489f61eb45e304466cf3e67fa0af1ee7b04121bdea2
def TY1:Nat:=0x6af0e0437ff400b6831e36d6bd17ffe48395dabc2d3435e77f76e17009241c5ee67992f72ec05f4c81084fbede3cc09
def TX2:W2:=(0,zp TXn)
def TY2:W2:=(zp TY0,zp TY1)
theorem PW_2:ml2 PW PW=TX2:=by decide+kernel
theorem PW_3:ml2 PW (ml2 PW PW)=TY2:=by decide+kernel
theorem I6(x:W2):cj2 (ng2 x)=ng2 (cj2 x):=rfl
theorem uU{x:W2}(h:cj2 x=ze2):x=ze2:=by
 have h1:x.1=0:=congrArg Prod.fst h
 have h2: -x.2=0:=congrArg Prod.snd h
 exact bp h1 (ma.1 h2)
def TW2:Tw E2w where
 f:=cj2
 w:=PW
 fa:=GE
 fm:=ff
 fn:=I6
 f0:=by decide+kernel
 fi:=fun _ h=>uU h
 wn:=by decide+kernel
 wb:=by decide+kernel
theorem w6(q:W2×W2):TW2.m q=(ml2 TX2 (cj2 q.1),ml2 TY2 (cj2 q.2)):=by
 refine Prod.ext ?_ ?_
 ·show ml2 (ml2 PW PW) (cj2 q.1)=ml2 TX2 (cj2 q.1)
  rw[PW_2]
 ·show ml2 (ml2 PW (ml2 PW PW)) (cj2 q.2)=ml2 TY2 (cj2 q.2)
  rw[PW_3]
def TR2:W2:=ml2 TX2 (cj2 TX2)
theorem GH:ad2 (ad2 (ml2 TR2 TR2) TR2) on2=ze2:=by decide+kernel
theorem TZ:ml2 TY2 (cj2 TY2)=ng2 on2:=by decide+kernel
theorem DK(x:W2):cj2 (cj2 x)=x:=bp rfl (by show- -x.2=x.2;generalize x.2=a;grind)
theorem KX(q:W2×W2):TW2.m (TW2.m q)=(ml2 TR2 q.1,ng2 q.2):=by
 rw[w6,w6]
 refine Prod.ext ?_ ?_
 ·show ml2 TX2 (cj2 (ml2 TX2 (cj2 q.1)))=ml2 (ml2 TX2 (cj2 TX2)) q.1
  rw[ff,DK]
  exact (R2.mul_assoc _ _ _).symm
 ·show ml2 TY2 (cj2 (ml2 TY2 (cj2 q.2)))=ng2 q.2
  rw[ff,DK]
  refine (R2.mul_assoc _ _ _).symm.trans ?_
  show ml2 (ml2 TY2 (cj2 TY2)) q.2=ng2 q.2
  rw[TZ]
  refine (R2.neg_mul _ _).trans ?_
  exact congrArg ng2 (R2.one_mul q.2)
theorem uW{P:Pt W2}(hP:E2w.onP P):E2w.ad (E2w.ad P (E2w.ne (TW2.p (TW2.p P)))) (TW2.p (TW2.p (TW2.p (TW2.p P))))=none:=by
 cases P with
 |none=>rfl
 |some q=>
  have e2: ∀s:W2×W2,TW2.p (TW2.p (some s))=some (ml2 TR2 s.1,ng2 s.2):=fun s=>congrArg some (KX s)
  have o2:E2w.onP (TW2.p (TW2.p (some q))):=TW2.p_on (TW2.p_on hP)
  rw[e2]at o2
  have nn: ∀a:W2,ng2 (ng2 a)=a:=R2.neg_neg
  have on3:=E2w.ne_on o2
  rw[show E2w.ne (some (ml2 TR2 q.1,ng2 q.2))=some (ml2 TR2 q.1,ng2 (ng2 q.2))from rfl,nn]at on3
  rw[e2,e2,show E2w.ne (some (ml2 TR2 q.1,ng2 q.2))=some (ml2 TR2 q.1,ng2 (ng2 q.2))from rfl,nn]
  show E2w.ad (E2w.ad (some (q.1,q.2)) (some (ml2 TR2 q.1,q.2))) (some (ml2 TR2 (ml2 TR2 q.1),q.2))=none
  exact E2w.line GH hP on3
def qo:W6:=E2w.jm (G2p.1,G2p.2,on2) (dN 64 UG []) (ze2,ze2,ze2)
theorem Iu:E2w.jm (G2p.1,G2p.2,on2) (dN 64 UG []) (E2w.R.zero,E2w.R.zero,E2w.R.zero)=qo:=by unfold qo;rfl
theorem ug64:kC (dN 64 UG []) 0=UG:=by decide+kernel
theorem N9:qo.2.2≠ze2∧qo.1=ml2 (ml2 TX2 (cj2 G2p.1)) (ml2 qo.2.2 qo.2.2)∧qo.2.1=ml2 (ng2 (ml2 TY2 (cj2 G2p.2))) (ml2 (ml2 qo.2.2 qo.2.2) qo.2.2):=by decide+kernel
theorem G2_u:E2w.times (some G2p) UG=some (ml2 TX2 (cj2 G2p.1),ng2 (ml2 TY2 (cj2 G2p.2))):=Lt E2w (P:=some G2p) ow DX (dN 64 UG []) ug64 Iu N9.1 N9.2.1 N9.2.2
theorem KY:E2w.ne (E2w.times (some G2p) UG)=TW2.p (some G2p):=by
 rw[G2_u]
 refine congrArg some ((Prod.ext rfl ?_:_=(ml2 TX2 (cj2 G2p.1),ml2 TY2 (cj2 G2p.2))).trans (w6 G2p).symm)
 show ng2 (ng2 (ml2 TY2 (cj2 G2p.2)))=ml2 TY2 (cj2 G2p.2)
 exact R2.neg_neg _
theorem xx{P:Pt W2}(hP:E2w.onP P):E2w.ne (E2w.times P UG)=TW2.p P↔E2w.times P ORD=none:=by
 constructor
 ·exact fun h=>TW2.psi_in hP (uW hP) Fk h
 ·intro h
  obtain ⟨e,rfl⟩:=vO hP h
  exact TW2.psi_out iS KY e
end
section
open Go.RowKit
theorem ent263:ai prog 263:=fun _ _=>kr
namespace J2
attribute [local simp] aT a9 aR aM aC bd aJ aI aA PLl cq cn N1l ck cp cm a5 bc aP aX a8
attribute [local simp] bf
def pb(bs:L8)(m:Nat):Bool:=decide (eB bs m=1#8)
abbrev oB(bs:L8)(m:Nat):List Nat:=oL (pb bs) (8*bs.length) m
def NLs(l:List Nat):List (List Value):=l.map fun n:Nat=>[I (n:Int)]
theorem mm(l:List Nat):(NLs l).length=l.length:=by simp[NLs]
theorem u7(bs:L8)(i j:Nat)(hj:j<8):bs.getD i 0>>>(7-j) &&& 1#8=eB bs (8*i+j):=by
 rw[eB,show (8*i+j) / 8=i by omega,show (8*i+j) % 8=j by omega]
theorem wP{bs:L8}{m:Nat}(h:eB bs m=1#8):pb bs m=true:=decide_eq_true h
theorem Ez{bs:L8}{m:Nat}(h: ¬eB bs m=1#8): ¬pb bs m=true:=fun e=>h (of_decide_eq_true e)
theorem CS{bs:L8}{m:Nat}(hm:m<8*bs.length)(h:eB bs m=1#8):(NLs (oB bs (8*bs.length)))[(oB bs m).length]? =some [I ((8*bs.length-1-m:Nat):Int)]:=by
 rw[NLs,List.getElem?_map,KE hm (wP h)]
 rfl
theorem N3{bs:L8}{m:Nat}(h:eB bs m=1#8):(oB bs (m+1)).length=(oB bs m).length+1:=J0 (wP h)
theorem QG{bs:L8}{m:Nat}(h: ¬eB bs m=1#8):(oB bs (m+1)).length=(oB bs m).length:=J8 (Ez h)
theorem C9(bs:L8): ∀m,vN (pb bs) m=BTn bs m
 |0=>rfl
 |m+1=>by
  rw[vN,C9 bs m,BTn]
  rcases zi bs m with ⟨h,e⟩|⟨h,e⟩
  ·rw[if_pos (wP h),e]
  ·rw[if_neg (Ez h),e]
theorem vj(bs:L8):SOg (oB bs (8*bs.length))=BN bs bs.length:=by rw[vw,C9,mH]
theorem pG{bb:Nat}{e:Option Addr}{cap:Nat}{bs:L8}{w w':World}(h:RdD bb e cap bs w)(hg:Grow w w'):RdD bb e cap bs w':=⟨(hg.cell (block_lt_of_cell h.1)).trans h.1,h.2.grow hg⟩
theorem iQ(sv:Value)(hs:sv.cells= #[sv])(w:World)(hw:Gt w):CLS 229 [sv].toArray w (fun e w'=> ∃b1,e=.returned (.func (.func 263) #[] #[pnt b1])∧Grow w w'∧w.heap.size≤b1∧OwnB w' b1 [sv] 22):=by
 refine Hf func229 rfl hw<|fun hGF=>Xp<|gM 1 hGF rfl rfl rfl<|fun b1=>Asg rfl<|aa<|Xp<|ft rfl rfl rfl rfl<|Asg rfl<|aa<|am<|Rr<|?_
 exact aH rfl rfl (fun w hw=>⟨b1,rfl,ac hw,(hw.own 1 b1 _ _ rfl).2.elim id False.elim,(by have:=(hw.own 1 b1 _ _ rfl).1;rw[hs]at this;exact this)⟩)
theorem kP(bb:Nat)(e:Option Addr)(cap:Nat)(bs:L8)(hlen:bs.length≤1000000):ek prog Gt 263 [pnt bb] (NLs (oB bs (8*bs.length))) (RdD bb e cap bs):=by
 intro l J Jx hJ hJx hRd hGx hY w hj
 have okJ: ∀k,BOk Gt (Bi w (fun Y=>J Y k)):=fun k=>⟨fun _ _ _ h=>(hRd _ _ _ h.rid).1,hJ k⟩
 have okX: ∀k,BOk Gt (Bi w (fun Y=>Jx Y k)):=fun k=>⟨fun _ _ _ h=>hGx _ _ _ h.rid,hJx k⟩
 have c1: ∀k L w',Hp (Bi w (fun Y=>J Y k)) L w'→RdD bb e cap bs w':=fun k L w' h=>(hRd _ _ _ h.rid).2
 have hby:=(hRd _ _ _ hj).2.2
 refine bY (G:=Gt) func263 rfl rfl (Hp (Bi w (fun Y=>J Y 0)) []) (bN (Bi w _) hj (hJ 0)) (aq (okJ 0))<|Xp<|bt rfl isAgg22 (fun w h=>(c1 _ _ w h).1) rfl rfl<|bv rfl (fun _=>aL underlying22 _ _ _ _) rfl rfl<|Mv rfl<|aa<|aj<|fk (ι:={i:Nat // i≤bs.length}) (fun x=>[(0,.func (.yield l) #[] #[]),(1,pnt bb),(6,.slice e bs.length cap),(7,I (bs.length:Int)),(8,I (x.1:Int))]) (fun x=>Bi w (fun Y=>J Y (oB bs (8*x.1)).length)) (fun x=>[]) (fun x=>bs.length-x.1) ⟨0,Nat.zero_le _⟩ (fun _=>okJ _) rfl trv trivial<|?_
 rintro ⟨i,hi⟩
 dsimp only
 refine Xp<|Bnr rfl rfl (fun _=>aD _ _ _)<|aa<|ah<|?_
 refine bV rfl (fun hc=> ?_) (fun hc=> ?_)
 ·have hi2:i<bs.length:=by simp at hc;omega
  refine ap<|ah<|aj<|Xp<|Mv rfl<|?_
  obtain ⟨ad,rfl,_⟩:=hby i _ (gm U8 bs 0 i om)
  refine fB i rfl rfl underlying22 sizeOf5 rfl om rfl rfl<|bt rfl isAgg5 (fun w' h=>by obtain ⟨ad',e',hc'⟩:=(c1 _ _ w' h).2 i _ (gm U8 bs 0 i om);cases e';exact hc') rfl rfl<|Asg rfl<|Asg rfl<|aa<|Xp<|Asg rfl<|aa<|aj<|fk (ι:={j:Nat // j≤8}) (fun x=>[(0,.func (.yield l) #[] #[]),(1,pnt bb),(6,.slice (some ad) bs.length cap),(7,I (bs.length:Int)),(8,I (i:Int)),(3,I (i:Int)),(4,U8 (bs.getD i 0)),(5,I (7-(x.1:Int)))]) (fun x=>Bi w (fun Y=>J Y (oB bs (8*i+x.1)).length)) (fun x=>[]) (fun x=>8-x.1) ⟨0,Nat.zero_le _⟩ (fun _=>okJ _) rfl trv trivial<|?_
  rintro ⟨j,hj⟩
  dsimp only
  by_cases h1:eB bs (8*i+j)=1#8
  ·refine ah<|Xp<|Mv rfl<|Bnr (v:=.bool (decide (j<8))) rfl rfl (fun _=>(dK _ _ _).trans (by rw[show decide ((7-(j:Int))≥0)=decide (j<8)from decide_eq_decide.2 om]))<|aa<|?_
   refine bV rfl (fun hc=> ?_) (fun hc=> ?_)
   ·have hj2:j<8:=by simpa using hc
    refine ap<|ah<|aj<|Xp<|Mv rfl<|Mv rfl<|Bnr (v:=U8 (bs.getD i 0>>>(7-j))) rfl rfl (fun _=>(gi _ _ _ om).trans (by rw[show (7-(j:Int)).toNat=7-j by omega]))<|Bnr (v:=U8 (eB bs (8*i+j))) rfl rfl (fun _=>(be _ _ 1#8).trans (by rw[u7 bs i j hj2]))<|Bnr (v:=.bool true) rfl rfl (fun w=>(ce _ _ _).trans (congrArg (fun b=>Result.ok (Value.bool b) w) (beq_iff_eq.2 h1)))<|Mv rfl<|Mv rfl<|bt rfl isAgg22 (fun w h=>(c1 _ _ w h).1) rfl rfl<|bv rfl (fun _=>aL underlying22 _ _ _ _) rfl rfl<|Bnr (v:=I ((bs.length:Int)-1)) rfl rfl (fun _=>bi _ _ _ oi)<|Mv rfl<|Bnr (v:=I ((bs.length-1-i:Nat):Int)) rfl rfl (fun _=>(bi _ _ _ oi).trans (by rw[show (bs.length:Int)-1-(i:Int)=((bs.length-1-i:Nat):Int) by omega]))<|Bnr (v:=I ((8*(bs.length-1-i):Nat):Int)) rfl rfl (fun _=>(bM _ _ _ oi).trans (by rw[show (8:Int)*((bs.length-1-i:Nat):Int)=((8*(bs.length-1-i):Nat):Int) by omega]))<|Mv rfl<|Bnr (v:=I ((8*bs.length-1-(8*i+j):Nat):Int)) rfl rfl (fun _=>(az _ _ _ oi).trans (by rw[show ((8*(bs.length-1-i):Nat):Int)+(7-(j:Int))=((8*bs.length-1-(8*i+j):Nat):Int) by omega]))<|?_
    refine cN (hY.b (k:=(oB bs (8*i+j)).length) (CS om h1) w) (okJ _) (okX _) rfl rfl rfl rfl rfl ?_ ?_
    ·refine aY rfl (fun _=>aK _) rfl rfl<|Pk rfl rfl rfl<|aa<|av rfl<|ap<|Xq<|Mv rfl<|Bnr (v:=I (7-((j+1:Nat):Int))) rfl rfl (fun _=>(bi _ _ _ oi).trans (by rw[show 7-(j:Int)-1=7-((j+1:Nat):Int) by omega]))<|Asg rfl<|aa<|?_
     repeat (refine a7 ?_)
     refine aV ?_
     rw[←N3 h1]
     exact ⟨rfl,⟨j+1,om⟩,_,by show 8-(j+1)<8-j;omega,rfl,trv,trivial⟩
    ·refine aY rfl (fun _=>aK _) rfl rfl<|Pk rfl rfl rfl<|aa<|aU rfl<|am<|Rr<|?_
     repeat (first|refine cO ?_|refine bU ?_|refine cQ rfl ?_|refine bk ?_|refine bj ?_)
     exact cM rfl (fun w hw=>⟨⟨_,rfl⟩,.inr ⟨_,bx (hJx _) hw.rid⟩⟩)
   ·obtain rfl:j=8:=by simp at hc;omega
    refine ba<|Xq<|Bnr rfl rfl (fun _=>az _ _ _ oi)<|Mv rfl<|aa<|?_
    repeat (refine a7 ?_)
    exact aV<|⟨rfl,⟨i+1,om⟩,_,by show bs.length-(i+1)<bs.length-i;omega,rfl,trv,trivial⟩
  ·refine ah<|ae (E:=EE [3000000])<|Mv rfl<|Bnr (v:=.bool (decide (j<8))) rfl rfl (fun _=>(dK _ _ _).trans (by rw[show decide ((7-(j:Int))≥0)=decide (j<8)from decide_eq_decide.2 om]))<|aa<|?_
   refine bV rfl (fun hc=> ?_) (fun hc=> ?_)
   ·have hj2:j<8:=by simpa using hc
    refine ap<|ah<|aj<|ae (E:=EE [3000000])<|Mv rfl<|Mv rfl<|Bnr (v:=U8 (bs.getD i 0>>>(7-j))) rfl rfl (fun _=>(gi _ _ _ om).trans (by rw[show (7-(j:Int)).toNat=7-j by omega]))<|Bnr (v:=U8 (eB bs (8*i+j))) rfl rfl (fun _=>(be _ _ 1#8).trans (by rw[u7 bs i j hj2]))<|Bnr (v:=.bool false) rfl rfl (fun w=>(ce _ _ _).trans (congrArg (fun b=>Result.ok (Value.bool b) w) (beq_eq_false_iff_ne.2 h1)))<|Mv rfl<|Sk<|Sk<|Sk<|Sk<|Sk<|Sk<|Sk<|Sk<|Sk<|Sk<|Sk<|Pk rfl rfl rfl<|aa<|av rfl<|ap<|bz (E:=EE [3000000])<|Mv rfl<|Bnr (v:=I (7-((j+1:Nat):Int))) rfl rfl (fun _=>(bi _ _ _ oi).trans (by rw[show 7-(j:Int)-1=7-((j+1:Nat):Int) by omega]))<|Asg rfl<|aa<|?_
    repeat (refine a7 ?_)
    refine aV ?_
    rw[←QG h1]
    exact ⟨rfl,⟨j+1,om⟩,_,by show 8-(j+1)<8-j;omega,rfl,trv,trivial⟩
   ·obtain rfl:j=8:=by simp at hc;omega
    refine ba<|bz (E:=EE [3000000])<|Bnr rfl rfl (fun _=>az _ _ _ oi)<|Mv rfl<|aa<|?_
    repeat (refine a7 ?_)
    exact aV<|⟨rfl,⟨i+1,om⟩,_,by show bs.length-(i+1)<bs.length-i;omega,rfl,trv,trivial⟩
 ·obtain rfl:i=bs.length:=by simp at hc;omega
  refine ba ?_
  repeat (first|refine cO ?_|refine bU ?_|refine cQ rfl ?_|refine bk ?_|refine bj ?_)
  refine ci rfl (fun w hw=>⟨⟨_,rfl⟩,.inl ?_⟩)
  have:=bx (hJ _) hw.rid
  rw[mm]
  exact this
theorem jt(x:W6)(n:Int)(hn:n≤1000000000):PUR 151 [EV6 x,I n] (EV6 (E2w.dbN x n.toNat)):=by
 intro w hw
 refine Hf func151 rfl hw<|fun hGF=>Xp<|Bx 2 hGF rfl<|fun b2=>Al 4 hGF nz<|fun b4=>aa<|ah<|Xp<|Mv rfl<|Mv rfl<|aa<|aj<|cH (ι:={i:Nat // i≤n.toNat}) (fun y=>[(2,pnt b2),(4,pnt b4),(5,I n),(6,I (y.1:Int))]) (fun y=>[(2,b2,((fe ((E2w.dbN x y.1).1).1++fe ((E2w.dbN x y.1).1).2)++((fe ((E2w.dbN x y.1).2.1).1++fe ((E2w.dbN x y.1).2.1).2)++(fe ((E2w.dbN x y.1).2.2).1++fe ((E2w.dbN x y.1).2.2).2))).map U64,94),(4,b4,((fe 0++fe 0)++((fe 0++fe 0)++(fe 0++fe 0))).map U64,94)]) (fun y=>n.toNat-y.1) ⟨0,Nat.zero_le _⟩ hGF trv trv<|?_
 rintro ⟨i,hi⟩
 dsimp only
 refine Xp<|Bnr (v:=.bool (decide ((i:Int)<n))) rfl rfl (fun _=>aD _ _ _)<|aa<|ah<|?_
 refine bV rfl (fun hc=> ?_) (fun hc=> ?_)
 ·have hi2:i<n.toNat:=by simp at hc;omega
  refine ap<|ah<|aj<|Xq<|La 2 rfl rfl bO<|Ca rfl (F6 (E2w.dbN x i))<|Sa 2 hGF rfl rfl rfl bO<|aa<|Xq<|Bnr rfl rfl (fun _=>az _ _ _ oi)<|Mv rfl<|aa<|?_
  repeat (refine a7 ?_)
  exact aV<|⟨rfl,⟨i+1,om⟩,_,by show n.toNat-(i+1)<n.toNat-i;omega,rfl,trv,trv⟩
 ·obtain rfl:i=n.toNat:=by simp at hc;omega
  refine ba<|Xp<|La 2 rfl rfl bO<|Sa 4 hGF rfl rfl rfl bO<|aa<|am<|Rr<|?_
  exact ay 4 rfl rfl rfl isAgg94 sizeOf94 sm (fun w hw=>⟨rfl,ac hw⟩)
theorem Qu(x:W6)(a:Nat)(ha:a<100000000):PUR 151 [EV6 x,I (a:Int)] (EV6 (E2w.dbN x a)):=by
 have h:=jt x (a:Int) om
 rw[Int.toNat_natCast]at h
 exact h
theorem Oy(x:W6)(a b:Nat)(ha:a<100000000):PUR 151 [EV6 x,I ((a:Int)-(b:Int))] (EV6 (E2w.dbN x (a-b))):=by
 have h:=jt x ((a:Int)-(b:Int)) om
 rw[Int.toNat_sub]at h
 exact h
theorem rJ{L:List Nat}{k:Nat}{v:List Value}(h:(NLs L)[k]? =some v): ∃n:Nat,L[k]? =some n∧[I (n:Int)]=v:=by
 rw[NLs,List.getElem?_map]at h
 cases e:L[k]? with
 |none=>rw[e]at h;cases h
 |some y=>rw[e]at h;exact ⟨y,rfl,Option.some.inj h⟩
theorem fc(x:W6)(gf:Nat)(caps:List Value)(L:List Nat)(Rd:Cls)(he:ai prog gf)(hseq:ek prog Gt gf caps (NLs L) Rd)(hL: ∀b∈L,b<100000000)(w:World)(hw:Gt w)(hRs: ∀w',Grow w w'→Rd w'):
 CLS 98 [EV6 x,.func (.func gf) #[] caps.toArray].toArray w (fun r w'=>r=.returned (EV6 (E2w.tmF x L))∧Grow w w'):=by
 have hGF:BOk Gt (pl w):=gt_low.plain hw
 refine ca (G:=Gt) func98 rfl rfl (Hp (pl w) []) (bN (pl w) trivial ak) (aq hGF)<|Xp<|Bx 2 hGF rfl<|fun b2=>Al 4 hGF nz<|fun b4=>aa<|Xp<|Al 5 hGF nz<|fun b5=>aa<|Xp<|fb 6 hGF zeroValue3 rfl rfl<|fun b6=>cT 6 hGF rfl rfl rfl sizeOf3 rfl (by first|decide|simp) rfl<|aa<|ah<|Xp<|Mv rfl<|aa<|aj<|?_
 refine dS (fun _=>pl w) (fun _ _=>pl w) (fun _=>hGF) (fun _ _=>hGF) (fun _=>rfl) (fun _ _=>rfl) rfl rfl he hseq (fun x hx=>by obtain ⟨k,hk,rfl⟩:=List.mem_map.1 hx;rfl) rfl (fun k=>[(2,b2,((fe ((x).1).1++fe ((x).1).2)++((fe ((x).2.1).1++fe ((x).2.1).2)++(fe ((x).2.2).1++fe ((x).2.2).2))).map U64,94),(4,b4,((fe 0++fe 0)++((fe 0++fe 0)++(fe 0++fe 0))).map U64,94),(5,b5,((fe (((E2w.stK x L k).1).1).1++fe (((E2w.stK x L k).1).1).2)++((fe (((E2w.stK x L k).1).2.1).1++fe (((E2w.stK x L k).1).2.1).2)++(fe (((E2w.stK x L k).1).2.2).1++fe (((E2w.stK x L k).1).2.2).2))).map U64,94),(6,b6,[I ((E2w.stK x L k).2:Int)],3)]) (fun _ _ _=>False) trv (fun k _ w' h=>hRs w' (h.below (fun _ h=>h))) ?_ ?_ (fun _ _ _ _ _ h=>h.elim)
 ·intro k v hx R hR
  obtain ⟨n,hn,rfl⟩:=rJ hx
  have hk:k<L.length:=(List.getElem?_eq_some_iff.1 hn).1
  have hb:=E2w.stK_lt x om hL k (Nat.le_of_lt hk)
  have hn2:=hL n (List.mem_of_getElem? hn)
  refine Xq<|Asg rfl<|aa<|?_
  refine ⟨rfl,_,rfl, ?_⟩
  refine aj<|Xd []<|La 5 rfl rfl bO<|cu 6 rfl rfl rfl isAgg3 rfl rfl<|Mv rfl<|Bnr (v:=I (((E2w.stK x L k).2:Int)-(n:Int))) rfl rfl (fun _=>bi _ _ _ oi)<|Ca rfl (Oy (E2w.stK x L k).1 (E2w.stK x L k).2 n hb)<|La 2 rfl rfl bO<|Ca rfl (wE _ _)<|aw 5 (hR (pl w) rfl hGF).2.1 rfl rfl rfl sizeOf94 sm sm (bq _) rfl<|aa<|Xq<|Mv rfl<|cT 6 (hR (pl w) rfl hGF).2.1 rfl rfl rfl sizeOf3 rfl (by first|decide|simp) rfl<|aa<|?_
  repeat (refine a7 ?_)
  exact ⟨_,rfl,⟨rfl,rfl,by rw[E2w.stK_1 x hn];rfl,by rw[E2w.stK_2 x hn];rfl,trivial⟩⟩
 ·intro D hD
  have hb:=E2w.stK_lt x om hL L.length (Nat.le_refl _)
  rw[mm]
  refine Xp<|La 5 rfl rfl bO<|cu 6 rfl rfl rfl isAgg3 rfl rfl<|Ca rfl (Qu (E2w.stK x L L.length).1 (E2w.stK x L L.length).2 hb)<|Sa 4 hD rfl rfl rfl bO<|aa<|am<|Rr<|?_
  exact cX (.inl rfl) ak (ay 4 rfl rfl rfl isAgg94 sizeOf94 sm (fun w hw=>⟨rfl,ac hw⟩))
def mlB(x:W6)(bs:L8):W6:=E2w.tmF x (oB bs (8*bs.length))
theorem mR{x:W6}{P:Pt W2}(hP:E2w.onP P)(hx:E2w.jr x P){bs:L8}{m:Nat}(hm:BN bs bs.length=m):E2w.jr (mlB x bs) (E2w.times P m):=by
 subst hm
 rw[←vj];exact E2w.tmF_jr hP hx (tL _ _ _ (Nat.le_refl _))
theorem gC(x:W6)(e:Option Addr)(cap:Nat)(bs:L8)(hlen:bs.length≤1000000)(w:World)(hw:Gt w)(hby:BytesAt w e bs):
 CLS 195 [EV6 x,.slice e bs.length cap].toArray w (fun r w'=>r=.returned (EV6 (mlB x bs))∧Grow w w'):=by
 refine Hf func195 rfl hw<|fun hGF=>ae (E:=EE [229,2000229])<|Bx 2 hGF rfl<|fun b2=>Al 4 hGF nz<|fun b4=>aa<|Xd [229,2000229]<|La 2 rfl rfl bO<|Mv rfl<|?_
 refine bE rfl rfl ent229 rfl rfl (fun w' hw'=>(iQ _ rfl w' (hGF.g _ _ _ hw')).mono fun e' w'' h=> ?_)
 obtain ⟨c1,rfl,hg,h1,ho⟩:=h
 refine ⟨_,_,rfl,aq hGF,hw'.news ak hg [(33,c1,[.slice e bs.length cap],22)] ?_ bG,bD ak rfl, ?_⟩
 ·intro n' b' c' t' hl
  rcases aB hl with ⟨_,e⟩|⟨_,hl⟩
  ·cases e;exact ⟨h1,ho⟩
  ·cases hl
 clear hw' hg h1 ho
 refine Cc rfl ent98 (fun w' hC hG=>fc x 263 [pnt c1] (oB bs (8*bs.length)) (RdD c1 e cap bs) ent263 (kP c1 e cap bs om) (fun b hb=>by have:=E8 hb (Nat.le_refl _);omega) w' hG (fun w'' hg=>pG ⟨cy (n:=33) rfl rfl w' hC,hby.grow (hC.below (fun _ h=>h))⟩ hg))<|Sa 4 hGF rfl rfl rfl bO<|aa<|am<|Rr<|?_
 exact ay 4 rfl rfl rfl isAgg94 sizeOf94 sm (fun w hw=>⟨rfl,ac hw⟩)
def TBX:L8:=[26#8,1#8,17#8,234#8,57#8,127#8,230#8,153#8,236#8,2#8,64#8,134#8,99#8,212#8,222#8,133#8,170#8,13#8,133#8,125#8,137#8,117#8,154#8,212#8,137#8,125#8,41#8,101#8,15#8,184#8,95#8,155#8,64#8,148#8,39#8,235#8,79#8,73#8,255#8,253#8,139#8,253#8,0#8,0#8,0#8,0#8,170#8,173#8]
theorem Sp:FV TBX=TX2.2:=by rw[FV,if_pos ⟨rfl,by decide+kernel⟩];decide+kernel
theorem U9{a:Zp}(ha:TX2.2=a)(s0:ByteArray)(h0:s0.data.toList=TBX.map (fun x=>UInt8.ofBitVec x)):PUR 336 [.string s0] (EV a):=by
 have h:=Ku s0 TBX h0
 rw[Sp,ha]at h
 exact h
def TBY:L8:=[19#8,82#8,3#8,230#8,1#8,128#8,166#8,142#8,226#8,233#8,196#8,72#8,215#8,122#8,44#8,217#8,28#8,61#8,237#8,217#8,48#8,177#8,207#8,96#8,239#8,57#8,100#8,137#8,246#8,30#8,180#8,94#8,48#8,68#8,102#8,207#8,62#8,103#8,250#8,10#8,241#8,238#8,123#8,4#8,18#8,27#8,222#8,162#8]
theorem Rl:FV TBY=TY2.1:=by rw[FV,if_pos ⟨rfl,by decide+kernel⟩];decide+kernel
theorem QW{a:Zp}(ha:TY2.1=a)(s0:ByteArray)(h0:s0.data.toList=TBY.map (fun x=>UInt8.ofBitVec x)):PUR 336 [.string s0] (EV a):=by
 have h:=Ku s0 TBY h0
 rw[Rl,ha]at h
 exact h
def UB8:L8:=[210#8,1#8,0#8,0#8,0#8,1#8,0#8,0#8]
theorem BE:BN UB8 UB8.length=UG:=by decide+kernel
theorem gY{f:W6→W6}(hf: ∀x,mlB x UB8=f x)(x:W6)(b c:Nat)(w:World)(hw:Gt w)(h:w.rangeAt b 0 (UB8.map U8)):CLS 195 [EV6 x,.slice (spt b) UB8.length c].toArray w (fun r w'=>r=.returned (EV6 (f x))∧Grow w w'):=by
 have k:=gC x (spt b) c UB8 dc w hw (BytesAt.range h)
 rw[hf]at k
 exact k
def tuJ(c d:W2)(x:W6):W6:=(ml2 (cj2 x.1) c,ml2 (cj2 x.2.1) d,cj2 x.2.2)
theorem Ev{c d:W2}{x:W6}{p:W2×W2}(hx:E2w.jr x (some p)):E2w.jr (tuJ c d x) (some (ml2 c (cj2 p.1),ml2 d (cj2 p.2))):=by
 have h1:x.1=ml2 p.1 (ml2 x.2.2 x.2.2):=hx.2.1
 have h2:x.2.1=ml2 p.2 (ml2 (ml2 x.2.2 x.2.2) x.2.2):=hx.2.2
 refine ⟨fun e=>hx.1 (uU e), ?_, ?_⟩
 ·show ml2 (cj2 x.1) c=ml2 (ml2 c (cj2 p.1)) (ml2 (cj2 x.2.2) (cj2 x.2.2))
  rw[h1,ff,ff]
  generalize cj2 p.1=a
  generalize cj2 x.2.2=z
  exact zq R2 [a,z,c] (tm (tm j0 (tm j1 j1)) j2) (tm (tm j2 j0) (tm j1 j1))
 ·show ml2 (cj2 x.2.1) d=ml2 (ml2 d (cj2 p.2)) (ml2 (ml2 (cj2 x.2.2) (cj2 x.2.2)) (cj2 x.2.2))
  rw[h2,ff,ff,ff]
  generalize cj2 p.2=a
  generalize cj2 x.2.2=z
  exact zq R2 [a,z,d] (tm (tm j0 (tm (tm j1 j1) j1)) j2) (tm (tm j2 j0) (tm (tm j1 j1) j1))
theorem su{c d:W2}{x:W6}(hx:E2w.jr x none):E2w.jr (tuJ c d x) none:=by
 have h:x.2.2=ze2:=hx
 show cj2 x.2.2=ze2
 rw[h];exact TW2.f0
theorem Db(p:W2×W2):TW2.p (some p)=some (ml2 TX2 (cj2 p.1),ml2 TY2 (cj2 p.2)):=congrArg some (w6 p)
theorem vZ{x:W6}{P:Pt W2}(hx:E2w.jr x P):E2w.jr (tuJ TX2 TY2 x) (TW2.p P):=by
 cases P with
 |none=>exact su hx
 |some p=>rw[Db];exact Ev hx
abbrev ngJ(x:W6):W6:=(x.1,ng2 x.2.1,x.2.2)
theorem Dk{bs:L8}{m:Nat}(hm:BN bs bs.length=m){x:W6}{P:Pt W2}(hP:E2w.onP P)(hx:E2w.jr x P):E2w.eqJ (ngJ (mlB x bs)) (tuJ TX2 TY2 x)↔E2w.ne (E2w.times P m)=TW2.p P:=E2w.eqJ_iff (E2w.jr_n (mR hP hx hm)) (vZ hx)
theorem lX{x:W6}{P:Pt W2}(hP:E2w.onP P)(hx:E2w.jr x P):E2w.eqJ (ngJ (mlB x UB8)) (tuJ TX2 TY2 x)↔E2w.times P ORD=none:=(Dk BE hP hx).trans (xx hP)
theorem GW{c d:Zp}(hc:TX2.2=c)(hd:TY2.1=d)(x:W6):PUR 335 [EV6 x] (EV6 (tuJ (0,c) (d,-d) x)):=by
 intro w hw
 refine Hf func335 rfl hw<|fun hGF=>Xp<|Bx 1 hGF rfl<|fun b1=>Al 2 hGF nz<|fun b2=>aa<|Xp<|Ca rfl (U9 hc _ rfl)<|Ca rfl (QW hd _ rfl)<|Al 3 hGF zv52<|fun b3=>Al 4 hGF zv52<|fun b4=>Sa 3 hGF rfl rfl rfl bg<|Sa 4 hGF rfl rfl rfl bg<|aa<|Xd []<|Fa 0 rfl underlying94 rfl sizeOf92<|ao 1 _ rfl rfl isAgg92 sizeOf92 sm dB rfl rfl<|Ca rfl (mE _)<|La 3 rfl rfl bg<|lv eY rfl sm rfl rfl<|Ca rfl (cY _ (0,c))<|Fa 12 rfl underlying94 rfl sizeOf92<|ao 1 _ rfl rfl isAgg92 sizeOf92 sm (kB sm) rfl rfl<|Ca rfl (mE _)<|La 4 rfl rfl bg<|La 4 rfl rfl bg<|Ca rfl (dr _)<|cx eY rfl rfl sm sm rfl rfl<|Ca rfl (cY _ (d,-d))<|Fa 24 rfl underlying94 rfl sizeOf92<|ao 1 _ rfl rfl isAgg92 sizeOf92 sm (f7 (m:=12) (n:=12) sm sm rfl) rfl rfl<|Ca rfl (mE _)<|d7 nK rfl rfl rfl sm sm sm rfl rfl<|Sa 2 hGF rfl rfl rfl bO<|aa<|am<|Rr<|?_
 exact ay 2 rfl rfl rfl isAgg94 sizeOf94 sm (fun w hw=>⟨rfl,ac hw⟩)
theorem Ns:((0:Zp),TX2.2)=TX2:=rfl
theorem Qj:(TY2.1,-TY2.1)=TY2:=by decide+kernel
theorem OD{t:W6→W6}(ht: ∀x,tuJ TX2 TY2 x=t x)(x:W6):PUR 335 [EV6 x] (EV6 (t x)):=by
 have h:=GW rfl rfl x
 rw[Ns,Qj,ht]at h
 exact h
theorem Mx{f:W6→W6}(hf: ∀x,mlB x UB8=f x){t:W6→W6}(ht: ∀x,tuJ TX2 TY2 x=t x)(x:W6)(hd:Decidable (E2w.eqJ (ngJ (f x)) (t x)))(b:Bool)(hb:b=decide (E2w.eqJ (ngJ (f x)) (t x))):PUR 333 [EV6 x] (.bool b):=by
 intro w hw
 refine Hf func333 rfl hw<|fun hGF=>ae (E:=EE [1000022])<|Bx 1 hGF rfl<|fun b1=>Asg rfl<|aa<|w9 (EE [2999998,2999996,1000022]) dR kr kr<|aW (m:=7) [0,5] kr<|La 1 rfl rfl bO<|La 1 rfl rfl bO<|aa<|aW (m:=6) [1] kr<|iT 4 UB8 hGF rfl rfl rfl rfl dc dc underlying22 sizeOf5 zeroValue5 rfl rfl<|fun b4=>aa<|aW (m:=5) [2] kr<|ej 4 rfl hGF rfl rfl underlying22 underlying5 rfl rfl<|aa<|aW (m:=0) [3,4,6,7,8] kr<|Cc rfl ent195 (fun w' hC hG=>gY hf _ _ _ w' hG (aO (n:=4) rfl w' hC))<|Ca rfl (nC _)<|Ca rfl (OD ht x)<|Ca rfl (ig _ _ hd b hb)<|Asg rfl<|aa<|dz kr<|aV<|am<|Rr<|?_
 exact aH rfl rfl (fun w hw=>⟨rfl,ac hw⟩)
def cV:GP:=⟨(ze2,ze2,ze2),none,True.intro,rfl⟩
def qx:GP:=⟨(G2p.1,G2p.2,on2),some G2p,fw ow,DX⟩
def An(p q:GP):GP:=⟨E2w.adA p.J q.J,E2w.ad p.P q.P,E2w.ad_on p.on q.on,E2w.adA_jr p.on q.on p.jr q.jr⟩
def ga(p:GP):GP:=⟨(p.J.1,ng2 p.J.2.1,p.J.2.2),E2w.ne p.P,E2w.ne_on p.on,E2w.jr_n p.jr⟩
def zY(p:GP)(bs:L8):GP:=⟨mlB p.J bs,E2w.times p.P (BN bs bs.length),E2w.times_on p.on _,mR p.on p.jr rfl⟩
def GG(x y:W2)(h:ml2 y y=RS4 x):GP:=⟨(x,y,on2),some (x,y),fw (ld.2 h),mM (x,y)⟩
def gRt(x r:W2)(hr:ml2 r r=RS4 x)(l:Bool):GP:=GG x (sgY r l) (Cf hr l)
theorem zv94(w:World):(zeroValue 94).run prog w=.ok (PtV cV) w:=nz w
theorem EO{J:W6}{P:Pt W2}(h:E2w.jr J P)(hn: ¬P=none):ml2 J.1 (ml2 (iv2 J.2.2) (iv2 J.2.2))=PX P∧ml2 J.2.1 (ml2 (ml2 (iv2 J.2.2) (iv2 J.2.2)) (iv2 J.2.2))=PY P:=by
 cases P with
 |none=>exact absurd rfl hn
 |some p=>exact E2w.xy_w h (E2w.hi _ h.1)
theorem kG  :PUR 185 [] (PtV cV):=Fc
theorem rX(p:GP):PUR 147 [PtV p] (.bool (decide (p.P=none))):=by
 have h:=oP p.J
 rw[show decide (p.J.2.2=ze2)=decide (p.P=none)from decide_eq_decide.2 (E2w.jr_zI p.jr)]at h
 exact h
theorem jc(p q:GP):PUR 332 [PtV p,PtV q] (.bool (decide (p.P=q.P))):= 
 have hd:Decidable (E2w.eqJ p.J q.J):=decidable_of_iff _ (E2w.eqJ_iff p.jr q.jr).symm
 ig p.J q.J hd _ (decide_eq_decide.2 (E2w.eqJ_iff p.jr q.jr).symm)
theorem Co(p q:GP):PUR 152 [PtV p,PtV q] (PtV (An p q)):=wE p.J q.J
theorem lI(p:GP):PUR 334 [PtV p] (PtV (ga p)):=nC p.J
theorem FR(p:GP)(h:p.P=none):PUR 96 [PtV p] (.tuple #[EV2 ze2,EV2 ze2,.bool false]):=ya p.J ((E2w.jr_zI p.jr).2 h)
theorem tu(p:GP)(h: ¬p.P=none):PUR 96 [PtV p] (.tuple #[EV2 (PX p.P),EV2 (PY p.P),.bool true]):=by
 have k:=yi p.J (fun e=>h ((E2w.jr_zI p.jr).1 e))
 have e:=EO p.jr h
 rw[e.1,e.2]at k
 exact k
theorem SD(x y:W2)(h:ml2 y y=RS4 x):PUR 267 [EV2 x,EV2 y] (.tuple #[PtV (GG x y h),.bool true]):=NZ x y h
theorem vh(x r:W2)(hr:ml2 r r=RS4 x)(hl:LG2 r=false)(l:Bool):PUR 186 [EV2 x,.bool l] (.tuple #[PtV (gRt x r hr l),.bool true]):=by
 cases l with
 |true=>exact o5 x r (nN _ r hr hl)
 |false=>exact oU x r (nN _ r hr hl)
theorem vt(x:W2)(l:Bool)(h: ¬LQ x):PUR 186 [EV2 x,.bool l] (.tuple #[PtV cV,.bool false]):=by
 cases l with
 |true=>exact pR x _ (rD _ h)
 |false=>exact n4 x _ (rD _ h)
theorem d9(p:GP):PUR 333 [PtV p] (.bool (decide (E2w.times p.P ORD=none))):= 
 have hd:Decidable (E2w.eqJ (ngJ (mlB p.J UB8)) (tuJ TX2 TY2 p.J)):=decidable_of_iff _ (lX p.on p.jr).symm
 Mx (fun _=>rfl) (fun _=>rfl) p.J hd _ (decide_eq_decide.2 (lX p.on p.jr).symm)
theorem Kv(p:GP)(e:Option Addr)(cap:Nat)(bs:L8)(hlen:bs.length≤1000)(w:World)(hw:Gt w)(hby:BytesAt w e bs):CLS 195 [PtV p,.slice e bs.length cap].toArray w (fun r w'=>r=.returned (PtV (zY p bs))∧Grow w w'):=gC p.J e cap bs om w hw hby
end J2
end
section
open Go.RowKit
attribute [local simp] aT a9 aR aM aC bd aJ aI aA PLl cq cn N1l ck cp cm a5 bc aP aX a8 J1.bf
namespace J1
theorem I7{P:Pt Zp}(h: ¬P=none):P=some (PX P,PY P):=by
 cases P with
 |none=>exact absurd rfl h
 |some p=>rfl
theorem DS(a:Zp): -(-a)=a:=by grind
end J1
end
section
open Go.RowKit
attribute [local simp] aT a9 aR aM aC bd aJ aI aA PLl cq cn N1l ck cp cm a5 bc aP aX a8 J2.bf
namespace J2
end J2
end
end Go.Proofs.YtfgacclgjklgnaaGreatDoor
