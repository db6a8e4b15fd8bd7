/- L3 -/
import Derived.Test.YtfgacclgjklgnaaGreatDoorL2
import Derived.Test.YtfgacclgjklgnaaGreatDoorM1
import Derived.Test.YtfgacclgjklgnaaGreatDoorX3
import Derived.Test.YtfgacclgjklgnaaGreatDoorXW
import Derived.Test.YtfgacclgjklgnaaGreatDoorM2
set_option maxRecDepth 100000
set_option maxHeartbeats 1000000
namespace Go.Proofs.YtfgacclgjklgnaaGreatDoor
open Go.Proofs.Tryz
section
open Go.RowKit
attribute [local simp] aV ba aT aO aD bd aK aJ aA PLl cv cw N1l cu cr cq a7 bc aP aZ a9
theorem Kv{x:W2}(h:x.2=0):decide (hf<x.1.val)=LG2 x:=by rw[LG2,if_pos h]
theorem Kw{x:W2}(h: ¬x.2=0):decide (hf<x.2.val)=LG2 x:=by rw[LG2,if_neg h]
theorem Sf{x:W2}(h:hf<x.2.val):true=LG2 x:=by
 have h0: ¬x.2=0:=fun e=>by rw[e]at h;exact Nat.not_lt_zero _ h
 rw[←Kw h0,decide_eq_true h]
theorem UL{x:W2}(h: ¬hf<x.2.val)(h0: ¬x.2=0):false=LG2 x:=by rw[←Kw h0,decide_eq_false h]
theorem VT{x:W2}(h:x.1.val % 2=1):1=SG2 x:=by rw[SG2,if_pos h]
theorem Vn{x:W2}(h: ¬x.1.val % 2=1)(h0:x.1=0)(h2:x.2.val % 2=1):1=SG2 x:=by rw[SG2,if_neg h,if_pos h0,if_pos h2]
theorem Ua{x:W2}(h: ¬x.1.val % 2=1)(h0:x.1=0)(h2: ¬x.2.val % 2=1):0=SG2 x:=by rw[SG2,if_neg h,if_pos h0,if_neg h2]
theorem US{x:W2}(h: ¬x.1.val % 2=1)(h0: ¬x.1=0):0=SG2 x:=by rw[SG2,if_neg h,if_neg h0]
theorem nT(x:W2):PUR 97 [EV2 x] (.bool (LG2 x)):=by
 by_cases h:hf<x.2.val
 ·exact pE TO36 func97 [.inl [x.1,x.2]] (.inl (.inr (.inl (LG2 x)))) (.inl (.inr (.inl true)),[(decide (hf<x.2.val),true)]) [some true] kr (av (decide_eq_true h) aI) (eb (Sf h))
 ·by_cases h0:x.2=0
  ·exact pE TO36 func97 [.inl [x.1,x.2]] (.inl (.inr (.inl (LG2 x)))) (.inl (.inr (.inl (decide (hf<x.1.val)))),[(decide (hf<x.2.val),false),(decide (x.2=0),true)]) [some false,some true] kr (av (decide_eq_false h) (av (decide_eq_true h0) aI)) (eb (Kv h0))
  ·exact pE TO36 func97 [.inl [x.1,x.2]] (.inl (.inr (.inl (LG2 x)))) (.inl (.inr (.inl false)),[(decide (hf<x.2.val),false),(decide (x.2=0),false)]) [some false,some false] kr (av (decide_eq_false h) (av (decide_eq_false h0) aI)) (eb (UL h h0))
def TO39:Tb prog Gt:=TO36.add (rn (g:=LG2) ent97 nT)
theorem uZ(x:W2):PUR 272 [EV2 x] (I (SG2 x)):=by
 by_cases h:x.1.val % 2=1
 ·exact pE TO39 func272 [.inl [x.1,x.2]] (.inl (.inr (.inr (.inl (I (SG2 x)))))) (.inl (.inr (.inr (.inl (I 1)))),[(decide (x.1.val % 2=1),true)]) [some true] kr (av (decide_eq_true h) aI) (ei (VT h))
 ·by_cases h0:x.1=0
  ·by_cases h2:x.2.val % 2=1
   ·exact pE TO39 func272 [.inl [x.1,x.2]] (.inl (.inr (.inr (.inl (I (SG2 x)))))) (.inl (.inr (.inr (.inl (I 1)))),[(decide (x.1.val % 2=1),false),(decide (x.1=0),true),(decide (x.2.val % 2=1),true)]) [some false,some true,some true] kr (av (decide_eq_false h) (av (decide_eq_true h0) (av (decide_eq_true h2) aI))) (ei (Vn h h0 h2))
   ·exact pE TO39 func272 [.inl [x.1,x.2]] (.inl (.inr (.inr (.inl (I (SG2 x)))))) (.inl (.inr (.inr (.inl (I 0)))),[(decide (x.1.val % 2=1),false),(decide (x.1=0),true),(decide (x.2.val % 2=1),false)]) [some false,some true,some false] kr (av (decide_eq_false h) (av (decide_eq_true h0) (av (decide_eq_false h2) aI))) (ei (Ua h h0 h2))
  ·exact pE TO39 func272 [.inl [x.1,x.2]] (.inl (.inr (.inr (.inl (I (SG2 x)))))) (.inl (.inr (.inr (.inl (I 0)))),[(decide (x.1.val % 2=1),false),(decide (x.1=0),false)]) [some false,some false] kr (av (decide_eq_false h) (av (decide_eq_false h0) aI)) (ei (US h h0))
theorem AR{f:Nat}{g:W2→Value}(en:ai prog f)(h: ∀a,PUR f [EV2 a] ((g a))):Snd prog Gt f (c1 q2.ag rdV g):=f7 q2.ag rdV en h
def TO40:Tb prog Gt:=TO39.add (AR (g:=fun x=>I (SG2 x)) ent272 uZ)
theorem s6(c:Zp):PUR 255 [EV c] (EV2 (RO c)):=by
 by_cases h:SQr c*SQr c=c
 ·exact pE TO40 func255 [.inl [c]] (.inl (.inl [(RO c).1,(RO c).2])) (.inl (.inl [SQ c,0]),[(decide (SQr c*SQr c=c),true)]) [some true] kr (av (decide_eq_true h) aI) (by rw[show RO c=(SQ c,0)from if_pos h]<;>exact rfl)
 ·exact pE TO40 func255 [.inl [c]] (.inl (.inl [(RO c).1,(RO c).2])) (.inl (.inl [0,SQ (-c)]),[(decide (SQr c*SQr c=c),false)]) [some false] kr (av (decide_eq_false h) aI) (by rw[show RO c=(0,SQ (-c))from if_neg h]<;>exact rfl)
theorem vT{f:Nat}{g:Zp→W2}(en:ai prog f)(h: ∀a,PUR f [EV a] (EV2 (g a))):Snd prog Gt f (c1 q1.ag q2.rd g):=f7 q1.ag q2.rd en h
def TO51:Tb prog Gt:=TO40.add (vT (g:=RO) ent255 s6)
theorem CI(x:W2)(n:Zp):PUR 256 [EV2 x,EV n] (EV2 (RB x n)):=by
 by_cases h:SQr (RBs x n)*SQr (RBs x n)=RBs x n
 ·exact pE TO51 func256 [.inl [x.1,x.2],.inl [n]] (.inl (.inl [(RB x n).1,(RB x n).2])) (let t0:=(x.1+n)+(x.1+n);let t1:=(SQ t0)^(PP-2);let t2:=(x.1+n)*t1;(.inl (.inl [t2,x.2*t1]),[(decide (SQr t0*SQr t0=t0),true)])) [some true] kr (av (decide_eq_true h) aI) (by rw[show RB x n=_ from if_pos h]<;>exact rfl)
 ·exact pE TO51 func256 [.inl [x.1,x.2],.inl [n]] (.inl (.inl [(RB x n).1,(RB x n).2])) (let t0:=(x.1+n)+(x.1+n);let t1:=(SQ (-t0))^(PP-2);let t2:=(-(x.1+n))*t1;(.inl (.inl [x.2*t1,t2]),[(decide (SQr t0*SQr t0=t0),false)])) [some false] kr (av (decide_eq_false h) aI) (by rw[show RB x n=_ from if_neg h]<;>exact rfl)
def TO52:Tb prog Gt:=TO51.add (jy (g:=RB) ent256 CI)
theorem MX{α:Type}(f:W2→α)(x:W2):f (x.1,x.2)=f x:=rfl
theorem nQ(x r:W2)(hr:ml2 r r=x)(hl:LG2 r=false):PUR 223 [EV2 x] (.tuple #[EV2 r,.bool true]):=by
 by_cases h:x.2=0
 ·exact pE TO52 func223 [.inl [x.1,x.2]] (.inr [.inl [r.1,r.2],.inr (.inl true)]) (let t0:=RO x.1;(.inr [.inl [t0.1,t0.2],.inr (.inl true)],[(decide (x.2=0),true)])) [some true] kr (av (decide_eq_true h) aI) (by rw[←IJ hr hl h]<;>exact rfl)
 ·by_cases hc:LG2 (RB x (SQ (nm2 x)))=true
  ·exact pE TO52 func223 [.inl [x.1,x.2]] (.inr [.inl [r.1,r.2],.inr (.inl true)]) (let t0:=RB x (SQ (nm2 x));let t1:=ng2 (t0.1,t0.2);(.inr [.inl [t1.1,t1.2],.inr (.inl true)],[(decide (x.2=0),false),(decide (SQr (nm2 x)*SQr (nm2 x)=(nm2 x)),true),(LG2 (t0.1,t0.2),true)])) [some false,some true,some true] kr (av (decide_eq_false h) (av (decide_eq_true (kX hr)) (av ((MX LG2 (RB x (SQ (nm2 x)))).trans hc) aI))) (by rw[←yr hr hl h,NL,if_pos hc,←MX ng2 (RB x (SQ (nm2 x)))]<;>exact rfl)
  ·exact pE TO52 func223 [.inl [x.1,x.2]] (.inr [.inl [r.1,r.2],.inr (.inl true)]) (let t0:=RB x (SQ (nm2 x));(.inr [.inl [t0.1,t0.2],.inr (.inl true)],[(decide (x.2=0),false),(decide (SQr (nm2 x)*SQr (nm2 x)=(nm2 x)),true),(LG2 (t0.1,t0.2),false)])) [some false,some true,some false] kr (av (decide_eq_false h) (av (decide_eq_true (kX hr)) (av ((MX LG2 (RB x (SQ (nm2 x)))).trans (Bool.eq_false_iff.2 hc)) aI))) (by rw[←yr hr hl h,NL,if_neg hc]<;>exact rfl)
theorem sH(x:W2)(hq: ¬IsQ (nm2 x)):PUR 223 [EV2 x] (.tuple #[EV2 ze2,.bool false]):=by
 exact pE TO52 func223 [.inl [x.1,x.2]] (.inr [.inl [ze2.1,ze2.2],.inr (.inl false)]) (.inr [.inl [0,0],.inr (.inl false)],[(decide (x.2=0),false),(decide (SQr (nm2 x)*SQr (nm2 x)=(nm2 x)),false)]) [some false,some false] kr (av (decide_eq_false (Vz hq)) (av (decide_eq_false hq) aI)) rfl
end
section
def XI:W2:=(1,1)
abbrev W6:=W2×W2×W2
def K6:Rg W6:=Rg.cub R2 XI
def VV:W6:=(ze2,on2,ze2)
abbrev W12:=W6×W6
def K12:Rg W12:=Rg.quad K6 VV
theorem fd2:Fd R2:=fun a h=>⟨iv2 a,cM h⟩
theorem ya(a:Nat): ∀n:Nat,zp a^n=zp (a^n)
 |0=>p0 _
 |n+1=>by rw[ps,ya a n,Nat.pow_succ,io]
theorem Ea(a n f:Nat)(h:n<2^f):zp a^n=zp (pm a PP f n):=by rw[zG _ _ _ _ h,wz,ya]
theorem Cf{k n:Nat}(hk:R6=2^k)(h:n<PP):n<2^k:=hk▸Nat.lt_trans h yv
def th:Nat:=(PP-1) / 3
def sx:Nat:=(PP-1) / 6
theorem FT:3*th=PP-1:=by decide+kernel
theorem sx_val:6*sx+1=PP:=by decide+kernel
theorem zD{n:Nat}(h:zp n=1)(hn:n<PP):n=1:=by
 have:=congrArg Fin.val h
 rw[ez,Nat.mod_eq_of_lt hn,show (1:Zp).val=1 % PP from rfl,Nat.mod_eq_of_lt pr_p.1]at this
 exact this
theorem Ki:pm 2 PP (64*6) th≠1∧pm 2 PP (64*6) th<PP:=by decide+kernel
theorem JU:pm 2 PP (64*6) hf≠1∧pm 2 PP (64*6) hf<PP:=by decide+kernel
theorem Oa:zp 2^th≠1:=fun h=>by
 rw[Ea 2 th (64*6) (Cf fO (by have:=FT;have:=mD;omega))]at h
 exact Ki.1 (zD h Ki.2)
theorem CE:zp 2^hf≠1:=fun h=>by
 rw[Ea 2 hf (64*6) (Cf fO (by have:=ld;have:=mD;omega))]at h
 exact JU.1 (zD h JU.2)
theorem EZ:nm2 XI=zp 2:=by
 simp only[nm2,XI];rw[nE];exact Ky.2.symm
theorem xE(s:W2):R2.mul s (R2.mul s s)≠XI:=fun h=>by
 have e:nm2 s*(nm2 s*nm2 s)=zp 2:=by rw[←fP,←fP,←EZ];exact congrArg nm2 h
 have e3:nm2 s^3=zp 2:=by rw[←e];grind
 have hn:nm2 s≠0:=fun h0=>rZ (by rw[←e,h0,gX,gX])
 exact Oa (by rw[←e3,←FJ,FT,fermat hn])
theorem JZ(s:W2):R2.mul s s≠XI:=fun h=>by
 have e:IsQ (zp 2):=by rw[←EZ];exact kX h
 rcases (g8 _).1 e with h|h
 ·exact rZ h
 ·exact CE h
theorem fd6:Fd K6:=Nt fd2 xE
theorem RH:cnm R2 XI VV=XI:=by decide+kernel
theorem Ed(s:W6):K6.mul s s≠VV:=fun h=>by
 have e:=Hy R2 XI s s
 rw[show FH R2 XI s s=VV from h,RH]at e
 exact JZ _ e.symm
theorem fd12:Fd K12:=Iw fd6 Ed
theorem Rg.inv_one{α:Type}(R:Rg α){x y y':α}(h:R.mul x y=R.one)(h':R.mul x y'=R.one):y=y':=by
 have e:R.mul (R.mul x y) y'=R.mul (R.mul x y') y:=by rw[R.mul_assoc,R.mul_assoc,R.mul_comm y]
 rw[h,h',R.one_mul,R.one_mul]at e
 exact e.symm
/-! ### The power of p -/
theorem IP:K12.nat PP=K12.zero:=by
 have e2:R2.nat PP=R2.zero:=(vz PP).trans (by rw[nc];rfl)
 have e6:K6.nat PP=K6.zero:=(GF (R:=R2) (z:=XI) PP).trans (by rw[e2];rfl)
 exact (BZ (R:=K6) (z:=VV) PP).trans (by rw[e6];rfl)
theorem iN(x y:W12):K12.pw (K12.add x y) PP=K12.add (K12.pw x PP) (K12.pw y PP):=K12.frob pr_p IP x y
def em(c:W2):W12:=((c,ze2,ze2),(ze2,ze2,ze2))
def wk(k:Nat):W12:=K12.pw ((ze2,ze2,ze2),(on2,ze2,ze2)) k
theorem dR(a b:W2):K12.mul (em a) (em b)=em (ml2 a b):=Prod.ext (Prod.ext (zx R2 [a,b,XI] 0x4456758451151145145115845115115845244511511511514451151158511 0x567) (Prod.ext (zx R2 [a,b,XI] 0x4445615175851144514451151158511524511584511511585144511511511 0x1) (zx R2 [a,b,XI] 0x444561511517445144511511511524451151158511514511584511511 0x1))) (Prod.ext (zx R2 [a,b,XI] 0x445615845115114517584511511 0x1) (Prod.ext (zx R2 [a,b,XI] 0x444561511585114451151758511 0x1) (zx R2 [a,b,XI] 0x44456151151144511511517 0x1)))
theorem tQ(c:W2): ∀n,K12.pw (em c) n=em (pw2 c n)
 |0=>rfl
 |n+1=>by
  rw[Rg.pw,tQ c n,dR,nd]
theorem wk0:wk 0=((on2,ze2,ze2),(ze2,ze2,ze2)):=by decide+kernel
theorem wk1:wk 1=((ze2,ze2,ze2),(on2,ze2,ze2)):=by decide+kernel
theorem wk2:wk 2=((ze2,on2,ze2),(ze2,ze2,ze2)):=by decide+kernel
theorem wk3:wk 3=((ze2,ze2,ze2),(ze2,on2,ze2)):=by decide+kernel
theorem wk4:wk 4=((ze2,ze2,on2),(ze2,ze2,ze2)):=by decide+kernel
theorem wk5:wk 5=((ze2,ze2,ze2),(ze2,ze2,on2)):=by decide+kernel
theorem wk6:wk 6=em XI:=by decide+kernel
theorem qF(c0 c1 c2 c3 c4 c5:W2):K12.add (K12.add (K12.add (K12.add (K12.add (K12.mul (em c0) (wk 0)) (K12.mul (em c1) (wk 1))) (K12.mul (em c2) (wk 2))) (K12.mul (em c3) (wk 3))) (K12.mul (em c4) (wk 4))) (K12.mul (em c5) (wk 5))=((c0,c2,c4),(c1,c3,c5)):=by
 rw[wk0,wk1,wk2,wk3,wk4,wk5]
 exact Prod.ext (Prod.ext (zx R2 [c0,c1,c2,c3,c4,c5,XI] 0x44444445625c451151145145115c45115115c4524451151151151445115115c511445715c451151145145125c45115115c4524451151151251445115125c511445815c451151245145115c45115115c4524451151151151445115115c511445915c451151145145115c45115125c4524451151251151445125115c511445a15c451251145145115c45115115c4524451151151151445115115c511445b15c451151145145115c45125115c4524451251151151445115115c512 0x6) (Prod.ext (zx R2 [c0,c1,c2,c3,c4,c5,XI] 0x444444445615125c5114451445115115c5115245115c45115115c51445115115114445715115c5114451445115125c5115245125c45115115c51445115115124445825115c5114451445115115c5115245115c45115115c51445115115114445915115c5114451445125115c5115245115c45115125c51445115125114445a15115c5124451445115115c5115245115c45115115c51445115115114445b15115c5114451445115115c5125245115c45125115c5144512511511 0x8) (zx R2 [c0,c1,c2,c3,c4,c5,XI] 0x4444444456151151244514451151151152445115115c5115145115c451151144457151151144514451151151252445115125c5115145125c451151144458151251144514451151151152445115115c5115145115c451151144459151151144514451151251152445125115c5115145115c45115124445a251151144514451151151152445115115c5115145115c45115114445b151151144514451251151152445115115c5125145115c4512511 0xa))) (Prod.ext (zx R2 [c0,c1,c2,c3,c4,c5,XI] 0x44444445615c451151145125c4511511445725c451151145115c4511511445815c451151145115c4511512445915c451151245115c4511511445a15c451151145115c4512511445b15c451251145115c4511511 0x7) (Prod.ext (zx R2 [c0,c1,c2,c3,c4,c5,XI] 0x444444445615115c511445115125c5114445715125c511445115115c5114445815115c511445125115c5114445925115c511445115115c5114445a15115c511445115115c5124445b15115c512445115115c511 0x9) (zx R2 [c0,c1,c2,c3,c4,c5,XI] 0x44444444561511511445115115124445715115124451151151144458151151144511512511444591512511445115115114445a1511511445125115114445b251151144511511511 0xb)))
def GA:W2:=pw2 XI sx
theorem Km:K12.pw (wk 1) PP=K12.mul (em GA) (wk 1):=by
 have e:K12.pw (wk 1) PP=K12.pw (wk 1) (6*sx+1):=congrArg (fun n=>K12.pw (wk 1) n) sx_val.symm
 have e1:wk 1=((ze2,ze2,ze2),(on2,ze2,ze2)):=wk1
 have e6:K12.pw (wk 1) 6=em XI:=by rw[e1];exact wk6
 rw[e,K12.pw_add,K12.pw_mul,e6,tQ,K12.pw_one];rfl
theorem QY(k:Nat):K12.pw (wk k) PP=K12.mul (em (pw2 GA k)) (wk k):=by
 have e1:wk 1=((ze2,ze2,ze2),(on2,ze2,ze2)):=wk1
 have e:wk k=K12.pw (wk 1) k:=by rw[e1];rfl
 rw[e,←K12.pw_mul,Nat.mul_comm,K12.pw_mul,Km,K12.mul_pw,tQ]
theorem kq(c:W2)(k:Nat):K12.pw (K12.mul (em c) (wk k)) PP=K12.mul (em (ml2 (cj2 c) (pw2 GA k))) (wk k):=by
 rw[K12.mul_pw,tQ,Bb,QY,←K12.mul_assoc,dR]
def bO(x:W12):W12:=((ml2 (cj2 x.1.1) (pw2 GA 0),ml2 (cj2 x.1.2.1) (pw2 GA 2),ml2 (cj2 x.1.2.2) (pw2 GA 4)),(ml2 (cj2 x.2.1) (pw2 GA 1),ml2 (cj2 x.2.2.1) (pw2 GA 3),ml2 (cj2 x.2.2.2) (pw2 GA 5)))
theorem eQ(x:W12):K12.pw x PP=bO x:=by
 have h:=qF x.1.1 x.2.1 x.1.2.1 x.2.2.1 x.1.2.2 x.2.2.2
 have e:K12.pw x PP=K12.pw ((x.1.1,x.1.2.1,x.1.2.2),(x.2.1,x.2.2.1,x.2.2.2)) PP:=rfl
 rw[e,←h,iN,iN,iN,iN,iN,kq,kq,kq,kq,kq,kq,qF]
 rfl
/-! ### Six parts, as the reference multiplies them -/
def tq(f:Nat→W2):W12:=((f 0,f 2,f 4),(f 1,f 3,f 5))
theorem txi{ρ:Nat→W2}{p:Po}{a:W2}(k:Nat)(ha:R2.d ρ p=a)(hk:ρ k=XI):R2.d ρ (jp p (pv k))=xi2 a:=by rw[R2.d_mul,ha,R2.d_var,hk];exact (Fq a).symm
theorem tsb{ρ:Nat→W2}{p q:Po}{a b:W2}(ha:R2.d ρ p=a)(hb:R2.d ρ q=b):R2.d ρ (gg p (kO q))=sb2 a b:=by rw[R2.d_add,R2.d_neg,ha,hb,k9];rfl
end
section
section
variable {α:Type} [DecidableEq α] (C:Ec α)
def Ec.jm(J:α×α×α):List Bool→α×α×α→α×α×α
 |[],A=>A
 |b::r,A=>Ec.jm J r (if b then C.jaF (C.jdF A) J else C.jdF A)
def kQ:List Bool→Nat→Nat
 |[],n=>n
 |b::r,n=>kQ r (2*n+(if b then 1 else 0))
theorem Ec.jr_m{J:α×α×α}{P:Pt α}(hP:C.onP P)(h:C.jr J P): ∀(l:List Bool) (A:α×α×α) (n:Nat),C.jr A (C.times P n)→C.jr (C.jm J l A) (C.times P (kQ l n))
 |[],_,_,hA=>hA
 |b::r,A,n,hA=>by
  have hd:=C.jr_d (C.times_on hP n) hA
  rw[←C.times_add hP,←Nat.two_mul]at hd
  cases b with
  |false=>exact Ec.jr_m hP h r _ _ hd
  |true=>
   have ha:=C.jr_a (C.times_on hP (2*n)) hP hd h
   exact Ec.jr_m hP h r _ (2*n+1) ha
end
/-! ### Over p -/
def RZp:Rg Zp where
 zero:=0
 one:=1
 add:=fun a b=>a+b
 mul:=fun a b=>a*b
 neg:=fun a=> -a
 add_assoc:=fun a b c=>by grind
 add_comm:=fun a b=>by grind
 add_zero:=fun a=>by grind
 add_neg:=fun a=>by grind
 mul_assoc:=fun a b c=>by grind
 mul_comm:=fun a b=>by grind
 mul_one:=fun a=>by grind
 mul_add:=fun a b c=>by grind
def E1:Ec Zp where
 R:=RZp
 iv:=fun a=>a^(PP-2)
 b:=zp 4
 hi:=fun _ h=>qv h
 h2:=by decide+kernel
 h3:=by decide+kernel
 hb:=by decide+kernel
def E2w:Ec W2 where
 R:=R2
 iv:=iv2
 b:=(zp 4,zp 4)
 hi:=fun _ h=>cM h
 h2:=by decide+kernel
 h3:=by decide+kernel
 hb:=by decide+kernel
def G1x:Nat:=0x17f1d3a73197d7942695638c4fa9ac0fc3688c4f9774b905a14e3a3f171bac586c55e83ff97a1aeffb3af00adb22c6bb
def G1y:Nat:=0x8b3f481e3aaa0f1a09e30ed741d8ae4fcf5e095d5d00af600db18cb2c04b3edd03cc744a2888ae40caa232946c5e7e1
def G1p:Zp×Zp:=(zp G1x,zp G1y)
theorem uT:E1.on G1p:=by
 unfold Ec.on
 decide+kernel
def ORD:Nat:=0x73eda753299d7d483339d80809a1d80553bda402fffe5bfeffffffff00000001
def dP:Nat→Nat→List Bool→List Bool
 |0,_,l=>l
 |f+1,n,l=>dP f (n / 2) ((n % 2==1)::l)
theorem xp:kQ (dP 255 ORD []) 0=ORD:=by decide+kernel
theorem g1_z:(E1.jm (zp G1x,zp G1y,1) (dP 255 ORD []) (0,0,0)).2.2=0:=by decide+kernel
theorem Cs:E1.jr (zp G1x,zp G1y,1) (some G1p):=⟨kw,by decide+kernel,by decide+kernel⟩
theorem HR{α:Type}(C:Ec α){J:α×α×α}{P:Pt α}(h:C.jr J P)(hz:J.2.2=C.R.zero):P=none:=by
 cases P with
 |none=>rfl
 |some p=>exact absurd hz h.1
theorem xG{α:Type} [DecidableEq α](C:Ec α){J:α×α×α}{P:Pt α}(hP:C.onP P)(h:C.jr J P)(l:List Bool){n:Nat}(hn:kQ l 0=n)(hz:(C.jm J l (C.R.zero,C.R.zero,C.R.zero)).2.2=C.R.zero):C.times P n=none:=by
 have k:=C.jr_m hP h l (C.R.zero,C.R.zero,C.R.zero) 0 (show C.R.zero=C.R.zero from rfl)
 rw[hn]at k
 exact HR C k hz
theorem kd:E1.times (some G1p) ORD=none:=xG E1 (P:=some G1p) uT Cs (dP 255 ORD []) xp g1_z
end
section
structure Em{α β:Type}(C:Ec α)(D:Ec β) where
 f:α→β
 h0:f C.R.zero=D.R.zero
 ha: ∀a b,f (C.R.add a b)=D.R.add (f a) (f b)
 hm: ∀a b,f (C.R.mul a b)=D.R.mul (f a) (f b)
 hn: ∀a,f (C.R.neg a)=D.R.neg (f a)
 hi: ∀a b,f a=f b→a=b
 hb:f C.b=D.b
section
variable {α β:Type} {C:Ec α} {D:Ec β} (e:Em C D)
def Em.q(p:α×α):β×β:=(e.f p.1,e.f p.2)
def Em.p:Pt α→Pt β
 |none=>none
 |some p=>some (e.q p)
theorem Em.sub(a b:α):e.f (C.sub a b)=D.sub (e.f a) (e.f b):=by rw[Ec.sub,Ec.sub,e.ha,e.hn]
theorem Em.on{p:α×α}(h:C.on p):D.on (e.q p):=by
 have:=congrArg e.f h
 rw[e.hm,e.ha,e.hm,e.hm,e.hb]at this
 exact this
theorem Em.onP{P:Pt α}(h:C.onP P):D.onP (e.p P):=by
 cases P with
 |none=>trivial
 |some p=>exact e.on h
theorem Em.sl{p q:α×α}{s:α}(h:C.Sl p q s):D.Sl (e.q p) (e.q q) (e.f s):=by
 have h1:=congrArg e.f h.1
 have h2:=congrArg e.f h.2
 rw[e.hm,e.sub,e.sub]at h1
 rw[e.hm,e.ha,e.ha,e.ha,e.hm,e.hm,e.hm]at h2
 exact ⟨h1,h2⟩
theorem Em.opp{p q:α×α}:D.opp (e.q p) (e.q q)↔C.opp p q:=
 ⟨fun h=>⟨e.hi _ _ h.1,e.hi _ _ (by rw[e.ha,e.h0];exact h.2)⟩,fun h=>⟨congrArg e.f h.1,by
  have:=congrArg e.f h.2
  rw[e.ha,e.h0]at this
  exact this⟩⟩
theorem Em.th(p q:α×α)(s:α):D.th (e.q p) (e.q q) (e.f s)=e.q (C.th p q s):=by
 have hx:D.x3 (e.q p) (e.q q) (e.f s)=e.f (C.x3 p q s):=by rw[Ec.x3,Ec.x3,e.sub,e.sub,e.hm];rfl
 refine Prod.ext hx ?_
 show D.sub (D.R.mul (e.f s) (D.sub (e.f p.1) (D.x3 (e.q p) (e.q q) (e.f s)))) (e.f p.2)=e.f (C.sub (C.R.mul s (C.sub p.1 (C.x3 p q s))) p.2)
 rw[hx,e.sub,e.hm,e.sub]
theorem Em.ne(P:Pt α):e.p (C.ne P)=D.ne (e.p P):=by
 cases P with
 |none=>rfl
 |some p=>exact congrArg some (Prod.ext rfl (e.hn _))
theorem Em.inj{P Q:Pt α}(h:e.p P=e.p Q):P=Q:=by
 cases P with
 |none=>
  cases Q with
  |none=>rfl
  |some q=>cases h
 |some p=>
  cases Q with
  |none=>cases h
  |some q=>
   have h:=Option.some.inj h
   exact congrArg some (Prod.ext (e.hi _ _ (congrArg Prod.fst h)) (e.hi _ _ (congrArg Prod.snd h)))
theorem Em.jr{J:α×α×α}{P:Pt α}(h:C.jr J P):D.jr (e.f J.1,e.f J.2.1,e.f J.2.2) (e.p P):=by
 cases P with
 |none=>exact (congrArg e.f h).trans e.h0
 |some p=>
  refine ⟨fun h'=>h.1 (e.hi _ _ (h'.trans e.h0.symm)), ?_, ?_⟩
  ·have:=congrArg e.f h.2.1
   rw[e.hm,Ec.z2,e.hm]at this
   exact this
  ·have:=congrArg e.f h.2.2
   rw[e.hm,Ec.z3,e.hm,e.hm]at this
   exact this
end
section
variable {α β:Type} [DecidableEq α] [DecidableEq β] {C:Ec α} {D:Ec β} (e:Em C D)
theorem Em.ad{P Q:Pt α}(hP:C.onP P)(hQ:C.onP Q):e.p (C.ad P Q)=D.ad (e.p P) (e.p Q):=by
 cases P with
 |none=>rfl
 |some p=>
  cases Q with
  |none=>rw[C.ad_nr];exact (D.ad_nr _).symm
  |some q=>
   by_cases ho:C.opp p q
   ·rw[C.ad_opp ho];exact (D.ad_opp (e.opp.2 ho)).symm
   ·obtain ⟨s,hs⟩:=C.sl_is hP hQ ho
    rw[C.ad_sl hP hQ ho hs]
    exact ((D.ad_sl (e.on hP) (e.on hQ) (fun h=>ho (e.opp.1 h)) (e.sl hs)).trans (congrArg some (e.th p q s))).symm
theorem Em.times{P:Pt α}(hP:C.onP P): ∀n,e.p (C.times P n)=D.times (e.p P) n
 |0=>rfl
 |n+1=>by
  show e.p (C.ad (C.times P n) P)=D.ad (D.times (e.p P) n) (e.p P)
  rw[e.ad (C.times_on hP n) hP,Em.times hP n]
end
theorem Lo(a:Zp):a-0=a:=by grind
theorem FY(a:Zp):a+0=a:=by grind
theorem z_n0': -(0:Zp)=0:=ls.2 rfl
end
section
section
variable {α:Type} (C:Ec α)
theorem Ec.jr_z{J:α×α×α}{P:Pt α}(h:C.jr J P):J.2.2=C.R.zero↔P=none:=by
 cases P with
 |none=>exact ⟨fun _=>rfl,fun _=>h⟩
 |some p=>exact ⟨fun e=>absurd e h.1,fun e=>by cases e⟩
theorem Ec.sc2(a z c:α):C.R.mul (C.R.mul a (C.z2 z)) (C.z2 c)=C.R.mul a (C.z2 (C.R.mul z c)):=zx C.R [a,z,c] 0x556577588 0x565578578
theorem Ec.jr_at(p:α×α)(h1:C.R.one≠C.R.zero):C.jr (p.1,p.2,C.R.one) (some p):=by
 refine ⟨h1, ?_, ?_⟩
 ·show p.1=C.R.mul p.1 (C.R.mul C.R.one C.R.one)
  rw[C.R.mul_one,C.R.mul_one]
 ·show p.2=C.R.mul p.2 (C.R.mul (C.R.mul C.R.one C.R.one) C.R.one)
  rw[C.R.mul_one,C.R.mul_one,C.R.mul_one]
end
section
variable {α:Type} [DecidableEq α] (C:Ec α)
theorem Ec.times_comm{P:Pt α}(hP:C.onP P)(m n:Nat):C.times (C.times P m) n=C.times (C.times P n) m:=by
 rw[←C.times_mul hP,←C.times_mul hP,Nat.mul_comm]
theorem Ec.times_ord{P:Pt α}(hP:C.onP P){r:Nat}(h:C.times P r=none)(k:Nat):C.times (C.times P k) r=none:=by
 rw[C.times_comm hP,h,C.times_none]
theorem Ec.times_mod{P:Pt α}(hP:C.onP P){r:Nat}(h:C.times P r=none)(n:Nat):C.times P (n % r)=C.times P n:=by
 have e:C.times P n=C.times P (r*(n / r)+n % r):=by rw[Nat.div_add_mod]
 rw[e,C.times_add hP,C.times_mul hP,h,C.times_none];rfl
theorem Ec.dbl_times{P:Pt α}(hP:C.onP P)(n:Nat):C.ad (C.times P n) (C.times P n)=C.times P (2*n):=by rw[←C.times_add hP,Nat.two_mul]
end
end
section
open Go.RowKit
attribute [local simp] aV ba aT aO aD bd aK aJ aA PLl cv cw N1l cu cr cq a7 bc aP aZ a9
abbrev EV6(x:W6):Value:=aR ((fe (x.1).1++fe (x.1).2)++((fe (x.2.1).1++fe (x.2.1).2)++(fe (x.2.2).1++fe (x.2.2).2)))
theorem e6{a b c a' b' c':W2}(h1:a=a')(h2:b=b')(h3:c=c'):Ending.returned (aR ((fe (a).1++fe (a).2)++((fe (b).1++fe (b).2)++(fe (c).1++fe (c).2))))=.returned (aR ((fe (a').1++fe (a').2)++((fe (b').1++fe (b').2)++(fe (c').1++fe (c').2)))):=by rw[h1,h2,h3]
def q6:Sh W6:=q2.two (q2.two q2 2) 2
theorem V6(x:W6):EV6 x=dn rid (.inl [x.1.1,x.1.2,x.2.1.1,x.2.1.2,x.2.2.1,x.2.2.2]):=by
 show Value.agg _=Value.agg _
 rw[clv,show cel [x.1.1,x.1.2,x.2.1.1,x.2.1.2,x.2.2.1,x.2.2.2]=fe x.1.1++(fe x.1.2++(fe x.2.1.1++(fe x.2.1.2++(fe x.2.2.1++fe x.2.2.2))))from rfl]
 rw[List.append_assoc,List.append_assoc]
theorem bN{f:Nat}{a a':List Value}{v v':Value}(ha:a=a')(hv:v=v')(h:PUR f a' v'):PUR f a v:=by rw[ha,hv];exact h
theorem l1{a b:Value}(h:a=b):[a]=[b]:=by rw[h]
theorem l2{a b c d:Value}(h:a=b)(k:c=d):[a,c]=[b,d]:=by rw[h,k]
theorem l3{a b c d e f:Value}(h:a=b)(k:c=d)(l:e=f):[a,c,e]=[b,d,f]:=by rw[h,k,l]
theorem t2{a b c:Value}(h:a=b):Value.tuple #[a,c]=.tuple #[b,c]:=by rw[h]
theorem A5{f:Nat}{g:W6→Bool}(en:ai prog f)(h: ∀a,PUR f [EV6 a] (.bool (g a))):Snd prog Gt f (c1 q6.ag rdB g):=f7 q6.ag rdB en (fun a=>bN (l1 (V6 _).symm) rfl (h a))
theorem nK{f:Nat}{g:W2→W2→W6}(en:ai prog f)(h: ∀a b,PUR f [EV2 a,EV2 b] (EV6 (g a b))):Snd prog Gt f (c2 q2.ag q2.ag q6.rd g):=fW q2.ag q2.ag q6.rd en (fun a b=>bN rfl (V6 _).symm (h a b))
theorem cF{f:Nat}{g:W6→W6}(en:ai prog f)(h: ∀a,PUR f [EV6 a] (EV6 (g a))):Snd prog Gt f (c1 q6.ag q6.rd g):=f7 q6.ag q6.rd en (fun a=>bN (l1 (V6 _).symm) (V6 _).symm (h a))
theorem cz{f:Nat}{g:W6→W6→W6}(en:ai prog f)(h: ∀a b,PUR f [EV6 a,EV6 b] (EV6 (g a b))):Snd prog Gt f (c2 q6.ag q6.ag q6.rd g):=fW q6.ag q6.ag q6.rd en (fun a b=>bN (l2 (V6 _).symm (V6 _).symm) (V6 _).symm (h a b))
theorem oI{f:Nat}{g:W6→W6→Bool}(en:ai prog f)(h: ∀a b,PUR f [EV6 a,EV6 b] (.bool (g a b))):Snd prog Gt f (c2 q6.ag q6.ag rdB g):=fW q6.ag q6.ag rdB en (fun a b=>bN (l2 (V6 _).symm (V6 _).symm) rfl (h a b))
end
section
open Go.RowKit
attribute [local simp] aV ba aT aO aD bd aK aJ aA PLl cv cw N1l cu cr cq a7 bc aP aZ a9
def RRL:L6:=[18446744069414584321#64,6034159408538082302#64,3691218898639771653#64,8353516859464449352#64,0#64,0#64]
def RB48:L8:=BYs RRL 48
theorem DA:RB48.length=48:=by decide+kernel
theorem HG:RRL.length=6:=rfl
attribute [local simp] DA HG
theorem nm_ze:nm 0=List.replicate 6 0#64:=by decide+kernel
end
section
section
variable {α:Type} [DecidableEq α] {C:Ec α} (T:Tw C)
theorem Tw.in_of{P:Pt α}(hP:C.onP P)(line:C.ad (C.ad P (T.p P)) (T.p (T.p P))=none){U r:Nat}(hU:r+U*U=(U*U)*(U*U)+1)(h:C.ne (C.times (C.times P U) U)=T.p P):C.times P r=none:=by
 rw[←C.times_mul hP]at h
 generalize U*U=V at h hU
 have hQ:=C.times_on hP V
 have e2:T.p (T.p P)=C.times P (V*V):=by
  rw[←h,T.p_ne,T.p_times hP,←h,C.times_ne hQ,C.ne_ne,C.times_mul hP]
 have hS:=C.times_on hP (V*V)
 rw[e2,←h]at line
 have e3:C.ad (C.times P r) (C.times P V)=C.ad (C.times P (V*V)) P:=by rw[←C.times_add hP,hU];rfl
 have e4:C.ad (C.ad (C.times P r) (C.times P V)) (C.ne (C.times P V))=C.times P r:=by
  rw[C.ad_assoc (C.times_on hP r) hQ (C.ne_on hQ),C.ad_ne,C.ad_nr]
 rw[←e4,e3,C.ad_assoc hS hP (C.ne_on hQ),C.ad_comm hS (C.ad_on hP (C.ne_on hQ)),line]
theorem Tw.out_of{G:Pt α}(hG:C.onP G){U:Nat}(h:C.ne (C.times (C.times G U) U)=T.p G)(e:Nat):C.ne (C.times (C.times (C.times G e) U) U)=T.p (C.times G e):=by
 have h1:=C.times_on hG U
 rw[T.p_times hG,←h,C.times_ne (C.times_on h1 U),C.times_swap h1 U e,C.times_swap hG U e]
end
theorem K5{α:Type}(C:Ec α){J:α×α×α}{P:Pt α}{x y:α}(h:C.jr J P)(hz:J.2.2≠C.R.zero)(hx:J.1=C.R.mul x (C.z2 J.2.2))(hy:J.2.1=C.R.mul y (C.z3 J.2.2)):P=some (x,y):=by
 cases P with
 |none=>exact absurd h hz
 |some p=>
  refine congrArg some (Prod.ext ?_ ?_)
  ·exact C.mul_can (C.z2_ne hz) (h.2.1.symm.trans hx)
  ·exact C.mul_can (C.z3_ne hz) (h.2.2.symm.trans hy)
theorem Kz{α:Type} [DecidableEq α](C:Ec α){J K:α×α×α}{P:Pt α}(hP:C.onP P)(h:C.jr J P)(l:List Bool){n:Nat}(hn:kQ l 0=n)(hK:C.jm J l (C.R.zero,C.R.zero,C.R.zero)=K){x y:α}(hz:K.2.2≠C.R.zero)(hx:K.1=C.R.mul x (C.z2 K.2.2))(hy:K.2.1=C.R.mul y (C.z3 K.2.2)):C.times P n=some (x,y):=by
 have k:=C.jr_m hP h l (C.R.zero,C.R.zero,C.R.zero) 0 (show C.R.zero=C.R.zero from rfl)
 rw[hn,hK]at k
 exact K5 C k hz hx hy
theorem oy{p:Nat}(hp:Pr p){d:Nat}(h0:0<d)(h1:d<p): ∃e,(d*e) % p=1:=by
 refine ⟨d^(p-2), ?_⟩
 have h2:1<p:=hp.1
 rw[←Nat.pow_succ',show (p-2).succ=p-1 from by omega]
 exact hp.fermat1 fun h=>absurd (Nat.le_of_dvd h0 h) om
/-! ### The first curve -/
def TRN:Nat:=0x5f19672fdf76ce51ba69c6076a0f77eaddb3a93be6f89688de17d813620a00022e01fffffffefffe
theorem O6:zp TRN*zp TRN*(zp TRN*zp TRN)=zp TRN:=by decide+kernel
theorem M6:zp TRN*zp TRN*(zp TRN*zp TRN*(zp TRN*zp TRN))=1:=by decide+kernel
theorem II:zp TRN*zp TRN+zp TRN+1=0:=by decide+kernel
theorem Py:zp TRN*zp TRN≠0:=by decide+kernel
def TW1:Tw E1 where
 f:=fun a=>a
 w:=zp TRN*zp TRN
 fa:=fun _ _=>rfl
 fm:=fun _ _=>rfl
 fn:=fun _=>rfl
 f0:=rfl
 fi:=fun _ h=>h
 wn:=Py
 wb:=by decide+kernel
theorem ua(q:Zp×Zp):TW1.m q=(zp TRN*q.1,q.2):=by
 refine Prod.ext ?_ ?_
 ·show zp TRN*zp TRN*(zp TRN*zp TRN)*q.1=zp TRN*q.1
  rw[O6]
 ·show zp TRN*zp TRN*(zp TRN*zp TRN*(zp TRN*zp TRN))*q.2=q.2
  rw[M6]
  generalize q.2=y
  grind
theorem LI{c x y:Zp}(hc:c*c+c+1=0)(hp:E1.on (x,y))(hq:E1.on (c*x,y)):E1.ad (E1.ad (some (x,y)) (some (c*x,y))) (some (c*(c*x),y))=none:=by
 have ho: ¬E1.opp (x,y) (c*x,y):=by
  intro h
  have h1:x=c*x:=h.1
  have hy:y=0:=E1.dbl0 h.2
  have h3:(1+1+1)*x=0:=by
   have e:(c*c+c+1)*x=c*(c*x)+c*x+x:=by grind
   rw[hc,←h1,←h1]at e
   grind
  have hx:x=0:=(kI h3).resolve_left E1.h3
  subst hx hy
  have k:(0:Zp)*0=0*(0*0)+zp 4:=hp
  exact absurd k (by decide+kernel)
 have hs:E1.Sl (x,y) (c*x,y) 0:=by
  refine ⟨?_, ?_⟩
  ·show (0:Zp)*(x+ -(c*x))=y+ -y
   grind
  ·show (0:Zp)*(y+y)=x*x+x*(c*x)+c*x*(c*x)
   have e:x*x+x*(c*x)+c*x*(c*x)=(c*c+c+1)*(x*x):=by grind
   rw[e,hc]
   grind
 rw[E1.ad_sl hp hq ho hs]
 refine E1.ad_opp ⟨?_, ?_⟩
 ·show (0:Zp)*0+ -x+ -(c*x)=c*(c*x)
  have e:c*(c*x)-((0:Zp)*0+ -x+ -(c*x))=(c*c+c+1)*x:=by grind
  rw[hc]at e
  grind
 ·show (0:Zp)*(x+ -((0:Zp)*0+ -x+ -(c*x)))+ -y+y=0
  grind
theorem Gb{P:Pt Zp}(hP:E1.onP P):E1.ad (E1.ad P (TW1.p P)) (TW1.p (TW1.p P))=none:=by
 cases P with
 |none=>rfl
 |some q=>
  have e:TW1.p (some q)=some (zp TRN*q.1,q.2):=congrArg some (ua q)
  have e':TW1.p (some (zp TRN*q.1,q.2))=some (zp TRN*(zp TRN*q.1),q.2):=congrArg some (ua _)
  have hq:E1.onP (TW1.p (some q)):=TW1.p_on hP
  rw[e]at hq
  rw[e,e']
  exact LI II hP hq
def UG:Nat:=0xd201000000010000
theorem EJ:ORD+UG*UG=(UG*UG)*(UG*UG)+1:=by decide+kernel
def UGJ:Zp×Zp×Zp:=E1.jm (zp G1x,zp G1y,1) (dP 128 (UG*UG) []) (0,0,0)
theorem Of:E1.jm (zp G1x,zp G1y,1) (dP 128 (UG*UG) []) (E1.R.zero,E1.R.zero,E1.R.zero)=UGJ:=by unfold UGJ;rfl
theorem Ie:kQ (dP 128 (UG*UG) []) 0=UG*UG:=by decide+kernel
theorem ugj:UGJ.2.2≠0∧UGJ.1=zp TRN*zp G1x*(UGJ.2.2*UGJ.2.2)∧UGJ.2.1= -(zp G1y)*(UGJ.2.2*UGJ.2.2*UGJ.2.2):=by decide+kernel
theorem VS:E1.times (some G1p) (UG*UG)=some (zp TRN*zp G1x,-(zp G1y)):=Kz E1 (P:=some G1p) uT Cs (dP 128 (UG*UG) []) Ie Of ugj.1 ugj.2.1 ugj.2.2
theorem gK:E1.onP (some G1p):=uT
theorem Kd:E1.ne (E1.times (E1.times (some G1p) UG) UG)=TW1.p (some G1p):=by
 rw[←E1.times_mul gK,VS]
 refine congrArg some ((Prod.ext rfl ?_:_=(zp TRN*zp G1x,zp G1y)).trans (ua G1p).symm)
 show- -(zp G1y)=zp G1y
 generalize zp G1y=y
 grind
def cdP:Pt Zp→Nat
 |none=>0
 |some p=>1+(2*p.1.val+p.2.val % 2)
theorem Vu(S:Pt Zp):cdP S<2*PP+1:=by
 cases S with
 |none=>exact Nat.succ_pos _
 |some p=>
  show 1+(2*p.1.val+p.2.val % 2)<2*PP+1
  have:=p.1.isLt
  omega
theorem cd_y{a b:Zp}(h:a*a=b*b)(k:a.val % 2=b.val % 2):a=b:=by
 have e:(a-b)*(a+b)=0:=by grind
 rcases kI e with h1|h1
 ·grind
 ·have e2:a= -b:=by grind
  by_cases hb:b=0
  ·rw[e2,hb];decide+kernel
  ·exfalso
   rw[e2,sD hb]at k
   have h2:=b.isLt
   have h3:PP % 2=1:=by decide+kernel
   omega
theorem P6{S S':Pt Zp}(h:E1.onP S)(h':E1.onP S')(e:cdP S=cdP S'):S=S':=by
 cases S with
 |none=>
  cases S' with
  |none=>rfl
  |some q=>exact absurd (show 0=1+(2*q.1.val+q.2.val % 2)from e) om
 |some p=>
  cases S' with
  |none=>exact absurd (show 1+(2*p.1.val+p.2.val % 2)=0 from e) om
  |some q=>
   have e:1+(2*p.1.val+p.2.val % 2)=1+(2*q.1.val+q.2.val % 2):=e
   have ex:p.1=q.1:=Fin.ext om
   have k1:p.2*p.2=p.1*(p.1*p.1)+zp 4:=h
   have k2:q.2*q.2=q.1*(q.1*q.1)+zp 4:=h'
   refine congrArg some (Prod.ext ex (cd_y (k1.trans ?_) om))
   rw[k2,ex]
theorem mN:Pr ORD:=by
 have e:ORD=RR:=by decide+kernel
 rw[e];exact pr_r
theorem Dy:(some G1p:Pt Zp)≠none:=fun h=>by cases h
theorem Ox{P:Pt Zp}(hP:E1.onP P)(h:E1.times P ORD=none): ∃e,P=E1.times (some G1p) e:=
 E1.cyc gK hP (fun _ h0 h1=>oy mN h0 h1) kd h Dy (2*PP+1) cdP (fun S _=>Vu S) (fun _ _ h h' e=>P6 h h' e) (by decide+kernel)
theorem VE{P:Pt Zp}(hP:E1.onP P):E1.ne (E1.times (E1.times P UG) UG)=TW1.p P↔E1.times P ORD=none:=by
 constructor
 ·exact fun h=>TW1.in_of hP (Gb hP) EJ h
 ·intro h
  obtain ⟨e,rfl⟩:=Ox hP h
  exact TW1.out_of gK Kd e
end
end Go.Proofs.YtfgacclgjklgnaaGreatDoor
