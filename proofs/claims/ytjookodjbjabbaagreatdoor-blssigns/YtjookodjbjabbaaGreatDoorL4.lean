/- L4 -/
import Derived.Test.YtjookodjbjabbaaGreatDoorL3
set_option maxRecDepth 100000
set_option maxHeartbeats 1000000
namespace Go.Proofs.YtjookodjbjabbaaGreatDoor
open Go.Proofs.Tryz
theorem OW(x:W12): ∀n,K12.pw x (PP^n)=jT x n
 |0=>by rw[Nat.pow_zero,K12.pw_one];rfl
 |n+1=>by rw[Nat.pow_succ,K12.pw_mul,OW x n,gG];rfl
theorem SH(x:W12):K12.pw x (PP^6)=db x:=(OW x 6).trans (jI x)
/-! ### As the reference reckons it -/
def tnd(u:Nat)(x:W12):W12:=db (K12.pw x u)
def fi1(x:W12):W12:=K12.mul (db x) (tY x)
def fi2(x:W12):W12:=K12.mul (cz (cz x)) x
def fi3(u:Nat)(x:W12):W12:=K12.mul (tnd u x) (db x)
def fi4(u:Nat)(x:W12):W12:=K12.mul (tnd u x) (cz x)
def fi5(u:Nat)(x:W12):W12:=K12.mul (K12.mul (tnd u (tnd u x)) (cz (cz x))) (db x)
def fi6(u:Nat)(x:W12):W12:=K12.mul (K12.mul (K12.mul (fi5 u (fi4 u (fi3 u (fi3 u x)))) x) x) x
def AF(u:Nat)(x:W12):W12:=fi6 u (fi2 (fi1 x))
section
variable {u p2 p6 n:Nat} (h2: ∀x,cz (cz x)=K12.pw x p2) (h6: ∀x,db x=K12.pw x p6)
end
theorem BQ{n:Nat}(h:n-1+1=n):K12.pw K12.zero n=K12.zero:=by rw[<-h];exact K12.zero_pw _
section
variable {e:Nat}
end
/-! ### Upright lines -/
section
variable {α β:Type} {C:Ec α} {D:Ec β} (T:Hw C D)
theorem Hw.ln(a p:α×α)(s:α):D.ln (T.m a) (D.R.mul T.w (T.f s)) (T.m p)=D.R.mul (D.R.mul T.w (D.R.mul T.w T.w)) (T.f (C.ln a s p)):=by
 unfold Ec.ln;rw[T.fs,T.fs,T.fm,T.fs];exact zx D.R [T.w,T.f a.1,T.f a.2,T.f s,T.f p.1,T.f p.2] 0x44556566b355656683556945566a355667 0x55656644b383594a37
theorem Hw.gl [DecidableEq α] [DecidableEq β]{A B P:Pt α}(hA:C.onP A)(hB:C.onP B){F:β->β}(hF: ∀a b,F (D.R.mul a b)=D.R.mul (F a) (F b))(hw:F (D.R.mul T.w (D.R.mul T.w T.w))=D.R.one):F (D.gl (T.p A) (T.p B) (T.p P))=F (T.f (C.gl A B P)):=by
 cases A with
 |none=>rw[C.gl_l,T.f1];rfl
 |some a=>
  cases B with
  |none=>rw[C.gl_m,T.f1];rfl
  |some b=>
   cases P with
   |none=>rw[C.gl_r,T.f1];rfl
   |some p=>
    by_cases ho:C.opp a b
    ·rw[C.gl_opp ho,T.f1]
     exact congrArg F (D.gl_opp (T.opp.2 ho) _)
    ·have hs:=C.sl_slope hA hB ho
     rw[C.gl_sl hA hB ho hs];refine (congrArg F (D.gl_sl (T.m_on hA) (T.m_on hB) (λh=>ho (T.opp.1 h)) (T.sl hs) (T.m p))).trans ?_;rw[T.ln,hF,hw,D.R.one_mul]
theorem Rg.last{α:Type}(R:Rg α){a b k c h k':α}(x:R.mul (R.mul a b) k=R.mul c h)(y:R.mul k' k=R.one)(z:R.mul h k'=R.one):R.mul a b=c:=
 zl R [a,b,k,c,h,k'] 0x567 0x445b59a535672592 0x9 0x445b55678535675b8595ab (lca (lca (lcm x) (lcm y)) (lcm z))
end
/-! ### The power of p, as a map of the curve -/
theorem Hj(x:W12):cz (K12.neg x)=K12.neg (cz x):=by
 have e:K12.add (cz x) (cz (K12.neg x))=K12.zero:=by
  rw[<-wE,K12.add_neg,<-gG];exact BQ (by decide+kernel)
 exact K12.neg_of e
theorem tr:cz K12.zero=K12.zero:=by rw[<-gG];exact BQ (by decide+kernel)
theorem Dr{x:W12}(h:cz x=K12.zero):x=K12.zero:=by
 have e:=wr x;rw[show 12=1+11 from O,qu,show jT x 1=cz x from O,h]at e;rw[<-e];have k: ∀n,jT K12.zero n=K12.zero:=λn=>by
  induction n with
  |zero=>rfl
  |succ n ih=>rw[jT,ih,tr]
 exact k 11
theorem wl(c:W2):cz (em c)=em (cj2 c):=by rw[<-gG,xu,Hb]
theorem aag:ml2 (ml2 (ml2 PW (ml2 PW PW)) (ml2 PW (ml2 PW PW))) (cj2 (zp 4,zp 4))=(zp 4,zp 4):=by decide+kernel
theorem V4:ml2 PW GA=on2:=by rw[z7];decide+kernel
def TW12:Tw E12 where
 f:=cz
 w:=em PW
 fa:=wE
 fm:=iV
 fn:=Hj
 f0:=tr
 fi:=λ_ h=>Dr h
 wn:=by decide+kernel
 wb:=by
  show K12.mul (K12.mul (K12.mul (em PW) (K12.mul (em PW) (em PW))) (K12.mul (em PW) (K12.mul (em PW) (em PW)))) (cz (em (zp 4,zp 4)))=em (zp 4,zp 4);rw[wl,fE,fE,fE,fE,aag]
theorem Oq(S:Pt W2):TW12.p (HE.p S)=HE.p (TW2.p S):=by
 cases S with
 |none=>rfl
 |some s=>
  refine congrArg some ?_;show TW12.m (HE.m s)=HE.m (TW2.m s);rw[JY,JY];refine Prod.ext ?_ ?_
  ·show K12.mul (K12.mul (em PW) (em PW)) (cz (em s.1))=em (ml2 (ml2 PW PW) (cj2 s.1))
   rw[wl,fE,fE]
  ·show K12.mul (K12.mul (em PW) (K12.mul (em PW) (em PW))) (cz (em s.2))=em (ml2 (ml2 PW (ml2 PW PW)) (cj2 s.2))
   rw[wl,fE,fE,fE]
theorem WW_1:WW=wk 1:=wk1.symm
theorem YO:K12.mul (em PW) (cz WW)=WW:=by
 rw[<-gG,WW_1,Pm,<-K12.mul_assoc,fE,V4];exact K12.one_mul _
theorem GW(a:Zp):cj2 (re2 a)=re2 a:=bI O (by show-(0:Zp)=0;exact z_n0')
theorem aaQ(S:Pt Zp):TW12.p (HB.p S)=HB.p S:=by
 cases S with
 |none=>rfl
 |some q=>
  refine congrArg some ?_;have h:=YO;refine Prod.ext ?_ ?_
  ·show K12.mul (K12.mul (em PW) (em PW)) (cz (K12.mul (K12.mul WW WW) (em (re2 q.1))))=K12.mul (K12.mul WW WW) (em (re2 q.1))
   rw[iV,iV,wl,GW,<-K12.mul_assoc,K12.mul_four,h]
  ·show K12.mul (K12.mul (em PW) (K12.mul (em PW) (em PW))) (cz (K12.mul (K12.mul WW (K12.mul WW WW)) (em (re2 q.2))))=K12.mul (K12.mul WW (K12.mul WW WW)) (em (re2 q.2))
   rw[iV,iV,iV,wl,GW,<-K12.mul_assoc,K12.mul_four (em PW) (K12.mul (em PW) (em PW)),K12.mul_four (em PW) (em PW) (cz WW) (cz WW),h]
/-! ### The loop's value -/
section
variable {e:Nat} (h6:e % (PP^6-1)=0) (hr:e*ORD % (PP^12-1)=0) (he:e-1+1=e)
end
theorem n0:ng2 ze2=ze2:=R2.neg_zero
theorem a0(x:W2):ad2 x ze2=x:=R2.add_zero x
theorem l0(x:W2):ad2 ze2 x=x:=R2.zero_add x
section
set_option maxRecDepth 1000000
def L63:List Bool:=(List.range 63).map λi=>(0x5201000000010000:Nat).testBit (62-i)
theorem VK:fO L63 1=UG:=by decide+kernel
/-! ### The power -/
end
section
variable {e:Nat} {l:List Bool}
end
/-! ### The generators' -/
section
variable {α:Type} (C:Ec α)
def Ec.t3(x:α):α:=C.R.add (C.R.add (C.R.mul x x) (C.R.mul x x)) (C.R.mul x x)
def Ec.wdL(J:α×α×α):α×α×α:=(C.sub (C.R.mul (C.t3 J.1) J.1) (C.R.mul (C.R.add J.2.1 J.2.1) J.2.1),C.R.mul (C.t3 J.1) (C.R.mul J.2.2 J.2.2),C.R.mul (C.R.mul J.2.2 (C.R.add J.2.1 J.2.1)) (C.R.mul J.2.2 J.2.2))
def Ec.wdJ(J:α×α×α):α×α×α:=
 let u:=C.t3 J.1
 let d:=C.R.mul (C.R.add J.2.1 J.2.1) J.2.1
 let h:=C.R.add d d
 let b:=C.R.mul h J.1
 let X:=C.sub (C.sub (C.R.mul u u) b) b
 (X,C.sub (C.R.mul u (C.sub b X)) (C.R.mul h d),C.R.mul J.2.2 (C.R.add J.2.1 J.2.1))
def Ec.wjU(J:α×α×α)(q:α×α):α:=C.sub (C.R.mul (C.R.mul q.2 (C.R.mul J.2.2 J.2.2)) J.2.2) J.2.1
def Ec.wjA(J:α×α×α)(q:α×α):α:=C.sub (C.R.mul q.1 (C.R.mul J.2.2 J.2.2)) J.1
def Ec.wjL(J:α×α×α)(q:α×α):α×α×α:=(C.sub (C.R.mul (C.wjU J q) q.1) (C.R.mul (C.R.mul J.2.2 (C.wjA J q)) q.2),C.wjU J q,C.R.mul J.2.2 (C.wjA J q))
def Ec.wjJ(J:α×α×α)(q:α×α):α×α×α:=
 let u:=C.wjU J q
 let a:=C.wjA J q
 let s:=C.R.mul a a
 let t:=C.R.mul s a
 let b:=C.R.mul s J.1
 let X:=C.sub (C.sub (C.sub (C.R.mul u u) t) b) b
 (X,C.sub (C.R.mul u (C.sub b X)) (C.R.mul t J.2.1),C.R.mul J.2.2 a)
end
section
variable {α:Type} [DecidableEq α] (C:Ec α)
end
abbrev WK:=(Zp×Zp)×(W2×W2)×W6
def LNR(L:W2×W2×W2)(p:Zp×Zp):W6:=(L.1,ng2 (sc2 L.2.1 p.1),sc2 L.2.2 p.2)
def lel(t:W6):W12:=((t.1,t.2.1,ze2),(ze2,t.2.2,ze2))
def wDb(w:WK):WK:=(w.1,w.2.1,E2w.wdJ w.2.2)
def rDb(w:WK):W6:=LNR (E2w.wdL w.2.2) w.1
def wJn(w:WK):WK:=if w.2.2.2.2=ze2 then (w.1,w.2.1,(w.2.1.1,w.2.1.2,on2))else (w.1,w.2.1,E2w.wjJ w.2.2 w.2.1)
def rJn(w:WK):W6:=if w.2.2.2.2=ze2 then (on2,ze2,ze2)else LNR (E2w.wjL w.2.2 w.2.1) w.1
def iQ(g:WK->W6):List WK->W12->W12
 |[],f=>f
 |w::l,f=>iQ g l (K12.mul (lel (g w)) f)
def rdF(d:Bool)(S:List WK×W12):List WK×W12:=
 bif d then ((S.1.map wDb).map wJn,iQ rJn (S.1.map wDb) (iQ rDb S.1 (K12.mul S.2 S.2)))else (S.1.map wDb,iQ rDb S.1 (K12.mul S.2 S.2))
def rdK(l:List Bool)(S:List WK×W12):List WK×W12:=l.foldl (λS d=>rdF d S) S
theorem M5(l:List Bool)(d:Bool)(S:List WK×W12):rdK (l++[d]) S=rdF d (rdK l S):=by rw[rdK,List.foldl_append];rfl
/-! ### Products -/
def Ve:List W12->W12
 |[]=>K12.one
 |x::l=>K12.mul x (Ve l)
def Up6(a b:W12):Prop:= ∃c:W6,c≠K6.zero/\a=K12.mul (r6 c) b
theorem Up6.pr{g h:WK->W12}: ∀{l:List WK},(∀w∈l,Up6 (g w) (h w))->Up6 (Ve (l.map g)) (Ve (l.map h))
 |[],_=>Up6.refl _
 |w::_,k=>(k w List.mem_cons_self).mul (Up6.pr λv hv=>k v (List.mem_cons_of_mem _ hv))
/-! ### One round -/
theorem hrO{d:Nat}(h0:0<d)(h1:d<ORD): ∃e,(d*e) % ORD=1:=vd vg h0 h1
/-! ### All rounds -/
theorem nM(d:Bool): ∀(l:List Bool) (n:Nat),fO (l++[d]) n=2*fO l n+d.toNat
 |[],n=>by cases d<;>rfl
 |e::l,n=>by rw[List.cons_append,Ck,Ck];exact nM d l _
def wkB(p:Zp×Zp)(q:W2×W2):WK:=(p,q,(q.1,q.2,on2))
section
open Go.RowKit
attribute [local simp] a6 bj aH aB aP aZ aQ aJ aM be bz a5 bv J1.bB J2.bB
theorem ent163:ak prog 163:=λ_ _=>kr
theorem ent228:ak prog 228:=λ_ _=>kr
theorem ent229:ak prog 229:=λ_ _=>kr
theorem ent195:ak prog 195:=λ_ _=>kr
theorem ent198:ak prog 198:=λ_ _=>kr
theorem ent199:ak prog 199:=λ_ _=>kr
theorem ent200:ak prog 200:=λ_ _=>kr
theorem ent230:ak prog 230:=λ_ _=>kr
theorem ent222:ak prog 222:=λ_ _=>kr
namespace Q6
def TO201:Tb prog Gt:=J2.TO68.add (Bb (g:=K6.one) ent203 N9)
def TO202:Tb prog Gt:=TO201.add (rH (g:=λx y=>decide (x=y)) ent202 o7)
def TO203:Tb prog Gt:=TO202.add (cy (g:=K6.add) ent225 oe)
def TO204:Tb prog Gt:=TO203.add (cy (g:=sb6) ent227 rT)
def TO205:Tb prog Gt:=TO204.add (cL (g:=K6.neg) ent232 FN)
def TO206:Tb prog Gt:=TO205.add (cy (g:=K6.mul) ent224 nK)
def TO207:Tb prog Gt:=TO206.add (cL (g:=λx=>K6.mul x x) ent258 nt)
theorem o6{f:Nat}{g:W6->W2->W6}(en:ak prog f)(h: ∀a b,PUR f [EV6 a,EV2 b] (EV6 (g a b))):Snd prog Gt f (c2 q6.ag q2.ag q6.rd g):=gD q6.ag q2.ag q6.rd en (λa b=>bV (l2 (V6 _).symm O) (V6 _).symm (h a b))
def TO208:Tb prog Gt:=TO207.add (o6 (g:=sc6) ent231 BP)
def TO209:Tb prog Gt:=TO208.add (cL (g:=v6) ent226 k6v)
def TO210:Tb prog Gt:=TO209.add (cL (g:=oth) ent274 qk)
def TO211:Tb prog Gt:=TO210.add (cL (g:=iv6) ent259 Gv)
def TO212:Tb prog Gt:=TO211.add (JD (g:=K12.one) ent165 uW)
def TO213:Tb prog Gt:=TO212.add (jC (g:=λx y=>decide (x=y)) ent164 rQ)
def TO215:Tb prog Gt:=TO213.add (eo (g:=db) ent201 CL)
def TO216:Tb prog Gt:=TO215.add (mq (g:=K12.mul) ent218 EC)
def TO217:Tb prog Gt:=TO216.add (eo (g:=λx=>K12.mul x x) ent197 nS)
def TO218:Tb prog Gt:=TO217.add (eo (g:=tY) ent220 Vt)
def XY3(x:W6):W2×W2×Bool:=if x.2.2=ze2 then (ze2,ze2,false)else (ml2 x.1 (ml2 (iv2 x.2.2) (iv2 x.2.2)),ml2 x.2.1 (ml2 (ml2 (iv2 x.2.2) (iv2 x.2.2)) (iv2 x.2.2)),true)
theorem xy3(x:W6):PUR 80 [EV6 x] (.tuple #[EV2 (XY3 x).1,EV2 (XY3 x).2.1,.bool (XY3 x).2.2]):=by
 by_cases h:x.2.2=ze2
 ·rw[show XY3 x=(ze2,ze2,false)from if_pos h];exact J2.B7 x h
 ·rw[show XY3 x=_ from if_neg h];exact J2.CP x h
theorem vk{f:Nat}{g:W6->W2×W2×Bool}(en:ak prog f)(h: ∀a,PUR f [EV6 a] (.tuple #[EV2 (g a).1,EV2 (g a).2.1,.bool (g a).2.2])):Snd prog Gt f (c1 q6.ag q2.rdBB g):=gB q6.ag q2.rdBB en (λa=>bV (l1 (V6 _).symm) O (h a))
def TO219:Tb prog Gt:=TO218.add (vk (g:=XY3) ent80 xy3)
def TG2(x y:W2):W2×W2:=(ad2 (ad2 (ml2 x x) (ml2 x x)) (ml2 x x),ad2 y y)
theorem mtan(x y:W2):PUR 228 [EV2 x,EV2 y] (.tuple #[EV2 (TG2 x y).1,EV2 (TG2 x y).2]):=pE TO219 func228 [.inl [x.1,x.2],.inl [y.1,y.2]] (.inr [.inl [((TG2 x y).1).1,((TG2 x y).1).2],.inl [((TG2 x y).2).1,((TG2 x y).2).2]]) (let t0:=ml2 x x;let t1:=ad2 (t0.1,t0.2) (t0.1,t0.2);let t2:=ad2 (t1.1,t1.2) (t0.1,t0.2);let t3:=ad2 y y;(.inr [.inl [t2.1,t2.2],.inl [t3.1,t3.2]],[])) [] kr aE O
theorem n5{f:Nat}{g:W2->W2->W2×W2}(en:ak prog f)(h: ∀a b,PUR f [EV2 a,EV2 b] (.tuple #[EV2 (g a b).1,EV2 (g a b).2])):Snd prog Gt f (c2 q2.ag q2.ag q2.rd2 g):=gD q2.ag q2.ag q2.rd2 en h
def TO220:Tb prog Gt:=TO219.add (n5 (g:=TG2) ent228 mtan)
def LR5(p q:Zp)(a b c:W2):W6:=(a,ng2 (sc2 b p),sc2 c q)
theorem Ml(p q:Zp)(a b c:W2):PUR 229 [EV p,EV q,EV2 a,EV2 b,EV2 c] (EV6 (LR5 p q a b c)):=(bV O (V6 _) (pE TO220 func229 [.inl [p],.inl [q],.inl [a.1,a.2],.inl [b.1,b.2],.inl [c.1,c.2]] (.inl (.inl [(LR5 p q a b c).1.1,(LR5 p q a b c).1.2,(LR5 p q a b c).2.1.1,(LR5 p q a b c).2.1.2,(LR5 p q a b c).2.2.1,(LR5 p q a b c).2.2.2])) (let t0:=sc2 b p;let t1:=ng2 (t0.1,t0.2);let t2:=sc2 c q;(.inl (.inl [a.1,a.2,t1.1,t1.2,t2.1,t2.2]),[])) [] kr aE O))
theorem gM{f:Nat}{g:Zp->Zp->W2->W2->W2->W6}(en:ak prog f)(h: ∀a b c d e,PUR f [EV a,EV b,EV2 c,EV2 d,EV2 e] (EV6 (g a b c d e))):Snd prog Gt f (c5 q1.ag q1.ag q2.ag q2.ag q2.ag q6.rd g):=aah q1.ag q1.ag q2.ag q2.ag q2.ag q6.rd en (λa b c d e=>bV O (V6 _).symm (h a b c d e))
def TO221:Tb prog Gt:=TO220.add (gM (g:=LR5) ent229 Ml)
def SHT(a:W6)(b c:W2):W6:=(ad2 (ml2 a.1 b) (xi2 (ml2 a.2.2 c)),E2w.sub (E2w.sub (ml2 (ad2 a.1 a.2.1) (ad2 b c)) (ml2 a.1 b)) (ml2 a.2.1 c),ad2 (ml2 a.2.1 c) (ml2 a.2.2 b))
theorem Vx(a:W6)(b c:W2):PUR 230 [EV6 a,EV2 b,EV2 c] (EV6 (SHT a b c)):=(bV (l3 (V6 _) O O) (V6 _) (pE TO221 func230 [.inl [a.1.1,a.1.2,a.2.1.1,a.2.1.2,a.2.2.1,a.2.2.2],.inl [b.1,b.2],.inl [c.1,c.2]] (.inl (.inl [(SHT a b c).1.1,(SHT a b c).1.2,(SHT a b c).2.1.1,(SHT a b c).2.1.2,(SHT a b c).2.2.1,(SHT a b c).2.2.2])) (let t0:=ml2 (a.1.1,a.1.2) b;let t1:=ml2 (a.2.1.1,a.2.1.2) c;let t2:=ad2 (a.1.1,a.1.2) (a.2.1.1,a.2.1.2);let t3:=ad2 b c;let t4:=ml2 (t2.1,t2.2) (t3.1,t3.2);let t5:=E2w.sub (t4.1,t4.2) (t0.1,t0.2);let t6:=E2w.sub (t5.1,t5.2) (t1.1,t1.2);let t7:=ml2 (a.2.2.1,a.2.2.2) c;let t8:=xi2 (t7.1,t7.2);let t9:=ad2 (t0.1,t0.2) (t8.1,t8.2);let t10:=ml2 (a.2.2.1,a.2.2.2) b;let t11:=ad2 (t1.1,t1.2) (t10.1,t10.2);(.inl (.inl [t9.1,t9.2,t6.1,t6.2,t11.1,t11.2]),[])) [] kr aE O))
theorem kY{f:Nat}{g:W6->W2->W2->W6}(en:ak prog f)(h: ∀a b c,PUR f [EV6 a,EV2 b,EV2 c] (EV6 (g a b c))):Snd prog Gt f (c3 q6.ag q2.ag q2.ag q6.rd g):=XR q6.ag q2.ag q2.ag q6.rd en (λa b c=>bV (l3 (V6 _).symm O O) (V6 _).symm (h a b c))
def TO222:Tb prog Gt:=TO221.add (kY (g:=SHT) ent230 Vx)
end Q6
end
section
open Go.RowKit
attribute [local simp] a6 bj aH aB aP aZ aQ aJ aM be bz a5 bv J1.bB J2.bB
namespace Q6
theorem Iu(a:W6)(b c:W2):SHT a b c=K6.mul a (b,c,ze2):=Prod.ext (zq R2 [a.1,a.2.1,a.2.2,b,c,XI] (ta (tm j0 j3) (txi 5 (tm j2 j4) O)) (ta (tm j0 j3) (tm j5 (ta (tm j1 tz0) (tm j2 j4))))) (Prod.ext (zq R2 [a.1,a.2.1,a.2.2,b,c,XI] (ta (ta (tm (ta j0 j1) (ta j3 j4)) (tn (tm j0 j3))) (tn (tm j1 j4))) (ta (ta (tm j0 j4) (tm j1 j3)) (tm j5 (tm j2 tz0)))) (zq R2 [a.1,a.2.1,a.2.2,b,c,XI] (ta (tm j1 j4) (tm j2 j3)) (ta (ta (tm j0 tz0) (tm j1 j4)) (tm j2 j3))))
def TMS(t:W6)(f:W12):W12:=(K6.add (SHT f.1 t.1 t.2.1) (v6 (v6 (sc6 f.2 t.2.2))),sb6 (sb6 (SHT (K6.add f.1 f.2) t.1 (ad2 t.2.1 t.2.2)) (SHT f.1 t.1 t.2.1)) (v6 (sc6 f.2 t.2.2)))
theorem Oh(t:W6):lel t=((t.1,t.2.1,ze2),K6.mul (t.2.2,ze2,ze2) VV):=Prod.ext O (by rw[A6];exact Prod.ext (show ze2=xi2 ze2 by rw[Gc];exact (R2.zero_mul _).symm) O)
theorem Tq(t:W6):(t.1,ad2 t.2.1 t.2.2,ze2)=K6.add (t.1,t.2.1,ze2) (K6.mul (t.2.2,ze2,ze2) VV):=by
 rw[<-show ((lel t).2:W6)=K6.mul (t.2.2,ze2,ze2) VV from congrArg Prod.snd (Oh t)];exact Prod.ext (R2.add_zero _).symm (Prod.ext O (R2.add_zero _).symm)
theorem SD(t:W6)(f:W12):TMS t f=K12.mul (lel t) f:=by
 rw[TMS,Oh,Iu,Iu,zA,zA,Tq,<-In,<-A6,<-A6];exact Prod.ext (zq K6 [f.1,f.2,(t.1,t.2.1,ze2),(t.2.2,ze2,ze2),VV] (ta (tm j0 j2) (tm (tm (tm j1 j3) j4) j4)) (ta (tm j2 j0) (tm j4 (tm (tm j3 j4) j1)))) (zq K6 [f.1,f.2,(t.1,t.2.1,ze2),(t.2.2,ze2,ze2),VV] (ta (ta (tm (ta j0 j1) (ta j2 (tm j3 j4))) (tn (tm j0 j2))) (tn (tm (tm j1 j3) j4))) (ta (tm j2 j1) (tm (tm j3 j4) j0)))
theorem A5(t:W6)(f:W12):PUR 199 [EV6 t,cD f] (cD (TMS t f)):=(bV (l2 (V6 _) (V12 _)) (V12 _) (pE TO222 func199 [.inl [t.1.1,t.1.2,t.2.1.1,t.2.1.2,t.2.2.1,t.2.2.2],.inl [f.1.1.1,f.1.1.2,f.1.2.1.1,f.1.2.1.2,f.1.2.2.1,f.1.2.2.2,f.2.1.1,f.2.1.2,f.2.2.1.1,f.2.2.1.2,f.2.2.2.1,f.2.2.2.2]] (.inl (.inl [(TMS t f).1.1.1,(TMS t f).1.1.2,(TMS t f).1.2.1.1,(TMS t f).1.2.1.2,(TMS t f).1.2.2.1,(TMS t f).1.2.2.2,(TMS t f).2.1.1,(TMS t f).2.1.2,(TMS t f).2.2.1.1,(TMS t f).2.2.1.2,(TMS t f).2.2.2.1,(TMS t f).2.2.2.2])) (let t0:=SHT ((f.1.1.1,f.1.1.2),(f.1.2.1.1,f.1.2.1.2),(f.1.2.2.1,f.1.2.2.2)) (t.1.1,t.1.2) (t.2.1.1,t.2.1.2);let t1:=sc6 ((f.2.1.1,f.2.1.2),(f.2.2.1.1,f.2.2.1.2),(f.2.2.2.1,f.2.2.2.2)) (t.2.2.1,t.2.2.2);let t2:=v6 ((t1.1.1,t1.1.2),(t1.2.1.1,t1.2.1.2),(t1.2.2.1,t1.2.2.2));let t3:=K6.add ((f.1.1.1,f.1.1.2),(f.1.2.1.1,f.1.2.1.2),(f.1.2.2.1,f.1.2.2.2)) ((f.2.1.1,f.2.1.2),(f.2.2.1.1,f.2.2.1.2),(f.2.2.2.1,f.2.2.2.2));let t4:=ad2 (t.2.1.1,t.2.1.2) (t.2.2.1,t.2.2.2);let t5:=SHT ((t3.1.1,t3.1.2),(t3.2.1.1,t3.2.1.2),(t3.2.2.1,t3.2.2.2)) (t.1.1,t.1.2) (t4.1,t4.2);let t6:=v6 ((t2.1.1,t2.1.2),(t2.2.1.1,t2.2.1.2),(t2.2.2.1,t2.2.2.2));let t7:=K6.add ((t0.1.1,t0.1.2),(t0.2.1.1,t0.2.1.2),(t0.2.2.1,t0.2.2.2)) ((t6.1.1,t6.1.2),(t6.2.1.1,t6.2.1.2),(t6.2.2.1,t6.2.2.2));let t8:=sb6 ((t5.1.1,t5.1.2),(t5.2.1.1,t5.2.1.2),(t5.2.2.1,t5.2.2.2)) ((t0.1.1,t0.1.2),(t0.2.1.1,t0.2.1.2),(t0.2.2.1,t0.2.2.2));let t9:=sb6 ((t8.1.1,t8.1.2),(t8.2.1.1,t8.2.1.2),(t8.2.2.1,t8.2.2.2)) ((t2.1.1,t2.1.2),(t2.2.1.1,t2.2.1.2),(t2.2.2.1,t2.2.2.2));(.inl (.inl [t7.1.1,t7.1.2,t7.2.1.1,t7.2.1.2,t7.2.2.1,t7.2.2.2,t9.1.1,t9.1.2,t9.2.1.1,t9.2.1.2,t9.2.2.1,t9.2.2.2]),[])) [] kr aE O))
theorem jc{f:Nat}{g:W6->W12->W12}(en:ak prog f)(h: ∀a b,PUR f [EV6 a,cD b] (cD (g a b))):Snd prog Gt f (c2 q6.ag q12.ag q12.rd g):=gD q6.ag q12.ag q12.rd en (λa b=>bV (l2 (V6 _).symm (V12 _).symm) (V12 _).symm (h a b))
def TO223:Tb prog Gt:=TO222.add (jc (g:=TMS) ent199 A5)
theorem zh(t:W6)(f:W12):PUR 199 [EV6 t,cD f] (cD (K12.mul (lel t) f)):=by rw[<-SD];exact A5 t f
def TO224:Tb prog Gt:=TO223.add (jc (g:=λt f=>K12.mul (lel t) f) ent199 zh)
def kL(w:WK):List Zp:=[w.1.1,w.1.2,w.2.1.1.1,w.2.1.1.2,w.2.1.2.1,w.2.1.2.2,w.2.2.1.1,w.2.2.1.2,w.2.2.2.1.1,w.2.2.2.1.2,w.2.2.2.2.1,w.2.2.2.2.2]
theorem pM{f:FuncId}{fn:Func}{c:Code}(T:Tb prog Gt)(hf:prog.funcs[f]? =some fn)(a:List S0)(l l':List Zp)(t:TypeId)(u:S0)(vc:S1×CB)(p:Pa)(h:xM T fn c a l t p=some vc)(hc:Ok vc.2)(e:vc.1=.inr [u,.inl l']){b:Nat}{pre post:List Value}{w:World}(hw:Gt w)(hb:8<=b)(ho:OwnB w b (pre++(clv l++post)) t)
 (hbd:fn.body=some c:=by rfl) (hn:Nat.ble (a.length+1) fn.ntmps=true:=by rfl) (hN:Nat.ble fn.ntmps 1000000=true:=by rfl) (ha:a.all npS=true:=by rfl):
 CLS f (.pointer (some ⟨b,pre.length,none⟩)::a.map (dn rid)).toArray w (λe w'=>e=.returned (dn rid u)/\Mod b w w'/\OwnB w' b (pre++(clv l'++post)) t):=
 LU T cV hf hbd (cs:=vc.2) (by rw[<-e];exact h) hc hn hN ha ((gt_low.from (M:=λk=>k=b) hw (λm hm=>by subst hm;exact hb)).ok (B:=plM w (λk=>k=b)) ao) ho
theorem aaO{P:Program}{f:FuncId}{xs ys:List Value}{w:World}{b:Nat}{v v':Value}{c c':List Value}{t:TypeId}(h:Calls P f xs.toArray w (λe w'=>e=.returned v/\Mod b w w'/\OwnB w' b c t))(ha:ys=xs)(hv:v'=v)(hc:c'=c):Calls P f ys.toArray w (λe w'=>e=.returned v'/\Mod b w w'/\OwnB w' b c' t):=by subst ha;subst hv;subst hc;exact h
theorem mdbl(w:WK){b:Nat}{pre post:List Value}{W:World}(hw:Gt W)(hb:8<=b)(ho:OwnB W b (pre++(clv (kL w)++post)) 240):
 CLS 198 [.pointer (some ⟨b,pre.length,none⟩)].toArray W (λe W'=>e=.returned (EV6 (rDb w))/\Mod b W W'/\OwnB W' b (pre++(clv (kL (wDb w))++post)) 240):=
 aaO (pM TO224 func198 [] ([w.1.1,w.1.2,w.2.1.1.1,w.2.1.1.2,w.2.1.2.1,w.2.1.2.2,w.2.2.1.1,w.2.2.1.2,w.2.2.2.1.1,w.2.2.2.1.2,w.2.2.2.2.1,w.2.2.2.2.2]) (kL (wDb w)) 240 (.inl [(rDb w).1.1,(rDb w).1.2,(rDb w).2.1.1,(rDb w).2.1.2,(rDb w).2.2.1,(rDb w).2.2.2]) (let t0:=(TG2 (w.2.2.1.1,w.2.2.1.2) (w.2.2.2.1.1,w.2.2.2.1.2)).1;let t1:=(TG2 (w.2.2.1.1,w.2.2.1.2) (w.2.2.2.1.1,w.2.2.2.1.2)).2;let t2:=ml2 (w.2.2.2.2.1,w.2.2.2.2.2) (t1.1,t1.2);let t3:=ml2 (t1.1,t1.2) (w.2.2.2.1.1,w.2.2.2.1.2);let t4:=ml2 (w.2.2.2.2.1,w.2.2.2.2.2) (w.2.2.2.2.1,w.2.2.2.2.2);let t5:=ml2 (t0.1,t0.2) (w.2.2.1.1,w.2.2.1.2);let t6:=E2w.sub (t5.1,t5.2) (t3.1,t3.2);let t7:=ml2 (t0.1,t0.2) (t4.1,t4.2);let t8:=ml2 (t2.1,t2.2) (t4.1,t4.2);let t9:=LR5 w.1.1 w.1.2 (t6.1,t6.2) (t7.1,t7.2) (t8.1,t8.2);let t10:=ad2 (t3.1,t3.2) (t3.1,t3.2);let t11:=ml2 (t10.1,t10.2) (w.2.2.1.1,w.2.2.1.2);let t12:=ml2 (t0.1,t0.2) (t0.1,t0.2);let t13:=E2w.sub (t12.1,t12.2) (t11.1,t11.2);let t14:=E2w.sub (t13.1,t13.2) (t11.1,t11.2);let t15:=E2w.sub (t11.1,t11.2) (t14.1,t14.2);let t16:=ml2 (t0.1,t0.2) (t15.1,t15.2);let t17:=ml2 (t10.1,t10.2) (t3.1,t3.2);let t18:=E2w.sub (t16.1,t16.2) (t17.1,t17.2);(.inr [.inl [t9.1.1,t9.1.2,t9.2.1.1,t9.2.1.2,t9.2.2.1,t9.2.2.2],.inl [w.1.1,w.1.2,w.2.1.1.1,w.2.1.1.2,w.2.1.2.1,w.2.1.2.2,t14.1,t14.2,t18.1,t18.2,t2.1,t2.2]],[])) [] kr aE O hw hb ho) O (V6 _) O
theorem mjn(w:WK){b:Nat}{pre post:List Value}{W:World}(h: ¬w.2.2.2.2=ze2)(hw:Gt W)(hb:8<=b)(ho:OwnB W b (pre++(clv (kL w)++post)) 240):
 CLS 200 [.pointer (some ⟨b,pre.length,none⟩)].toArray W (λe W'=>e=.returned (EV6 (rJn w))/\Mod b W W'/\OwnB W' b (pre++(clv (kL (wJn w))++post)) 240):=by
 rw[show rJn w=LNR (E2w.wjL w.2.2 w.2.1) w.1 from if_neg h,show wJn w=(w.1,w.2.1,E2w.wjJ w.2.2 w.2.1)from if_neg h];exact aaO (pM TO224 func200 [] ([w.1.1,w.1.2,w.2.1.1.1,w.2.1.1.2,w.2.1.2.1,w.2.1.2.2,w.2.2.1.1,w.2.2.1.2,w.2.2.2.1.1,w.2.2.2.1.2,w.2.2.2.2.1,w.2.2.2.2.2]) (kL ((w.1,w.2.1,E2w.wjJ w.2.2 w.2.1))) 240 (.inl [(LNR (E2w.wjL w.2.2 w.2.1) w.1).1.1,(LNR (E2w.wjL w.2.2 w.2.1) w.1).1.2,(LNR (E2w.wjL w.2.2 w.2.1) w.1).2.1.1,(LNR (E2w.wjL w.2.2 w.2.1) w.1).2.1.2,(LNR (E2w.wjL w.2.2 w.2.1) w.1).2.2.1,(LNR (E2w.wjL w.2.2 w.2.1) w.1).2.2.2]) (let t0:=ml2 (w.2.2.2.2.1,w.2.2.2.2.2) (w.2.2.2.2.1,w.2.2.2.2.2);let t1:=ml2 (w.2.1.2.1,w.2.1.2.2) (t0.1,t0.2);let t2:=ml2 (t1.1,t1.2) (w.2.2.2.2.1,w.2.2.2.2.2);let t3:=E2w.sub (t2.1,t2.2) (w.2.2.2.1.1,w.2.2.2.1.2);let t4:=ml2 (w.2.1.1.1,w.2.1.1.2) (t0.1,t0.2);let t5:=E2w.sub (t4.1,t4.2) (w.2.2.1.1,w.2.2.1.2);let t6:=ml2 (w.2.2.2.2.1,w.2.2.2.2.2) (t5.1,t5.2);let t7:=ml2 (t3.1,t3.2) (w.2.1.1.1,w.2.1.1.2);let t8:=ml2 (t6.1,t6.2) (w.2.1.2.1,w.2.1.2.2);let t9:=E2w.sub (t7.1,t7.2) (t8.1,t8.2);let t10:=LR5 w.1.1 w.1.2 (t9.1,t9.2) (t3.1,t3.2) (t6.1,t6.2);let t11:=ml2 (t5.1,t5.2) (t5.1,t5.2);let t12:=ml2 (t11.1,t11.2) (t5.1,t5.2);let t13:=ml2 (t11.1,t11.2) (w.2.2.1.1,w.2.2.1.2);let t14:=ml2 (t3.1,t3.2) (t3.1,t3.2);let t15:=E2w.sub (t14.1,t14.2) (t12.1,t12.2);let t16:=E2w.sub (t15.1,t15.2) (t13.1,t13.2);let t17:=E2w.sub (t16.1,t16.2) (t13.1,t13.2);let t18:=E2w.sub (t13.1,t13.2) (t17.1,t17.2);let t19:=ml2 (t3.1,t3.2) (t18.1,t18.2);let t20:=ml2 (t12.1,t12.2) (w.2.2.2.1.1,w.2.2.2.1.2);let t21:=E2w.sub (t19.1,t19.2) (t20.1,t20.2);(.inr [.inl [t10.1.1,t10.1.2,t10.2.1.1,t10.2.1.2,t10.2.2.1,t10.2.2.2],.inl [w.1.1,w.1.2,w.2.1.1.1,w.2.1.1.2,w.2.1.2.1,w.2.1.2.2,t17.1,t17.2,t21.1,t21.2,t6.1,t6.2]],[(decide ((w.2.2.2.2.1,w.2.2.2.2.2)=ze2),false)])) [some false] kr (ap (decide_eq_false h) aE) O hw hb ho) O (V6 _) O
end Q6
end
section
open Go.RowKit
attribute [local simp] a6 bj aH aB aP aZ aQ aJ aM be bz a5 bv
theorem T0:PUR 223 [U64 15132376222941642752#64] (I 64):=by
 intro w hw;refine Hf func223 O hw<|λhGF=>Xp<|Asg O<|aa<|ah<|Xp<|Mv O<|Bnb true O O (λ_=>f8 _ _ _) dc<|aa<|aT O<|Xp<|Mv O<|Bnr (v:=U64 3523280896#64) O O (λ_=>(cE _ _ 32#64).trans rr)<|Asg O<|aa<|Xq<|Asg O<|aa<|ah<|Xp<|Mv O<|Bnb true O O (λ_=>f8 _ _ _) dc<|aa<|aT O<|Xp<|Mv O<|Bnr (v:=U64 53761#64) O O (λ_=>(cE _ _ 16#64).trans rr)<|Asg O<|aa<|Xq<|Mv O<|Bnr (v:=I 48) O O (λ_=>(au _ _ _ (by unfold inI;decide)).trans rr)<|Asg O<|aa<|ah<|Xp<|Mv O<|Bnb true O O (λ_=>f8 _ _ _) dc<|aa<|aT O<|?_
 refine Xp<|Mv O<|Bnr (v:=U64 210#64) O O (λ_=>(cE _ _ 8#64).trans rr)<|Asg O<|aa<|Xq<|Mv O<|Bnr (v:=I 56) O O (λ_=>(au _ _ _ (by unfold inI;decide)).trans rr)<|Asg O<|aa<|Xp<|Mv O<|Mv O<|bX O O (λ_=>eU underlying24 underlying5 _) O O<|uS (n:=8#8) O O underlying9 dc kr O O<|bX O O (λ_=>Er underlying5 underlying3 _) O O<|Bnr (v:=I 64) O O (λ_=>(au _ _ _ (by unfold inI;decide)).trans rr)<|Asg O<|aa<|am<|Rr<|?_
 exact aF O O (λw hw=>⟨rfl,ac hw⟩)
theorem Gl:PUR 196 [] (.func (.func 222) #[] #[]):=by
 intro w hw;refine Hf func196 O hw<|λhGF=>Xp<|Asg O<|aa<|Xp<|Asg O<|aa<|am<|Rr<|?_;exact aF O O (λw hw=>⟨rfl,ac hw⟩)
def DGb(k:Nat):Bool:=15132376222941642752#64>>>(62-k) &&& 1#64==1#64
def D63:List Bool:=(List.range 63).map DGb
theorem vl:D63.length=63:=by rw[D63,List.length_map,List.length_range]
theorem uU{k:Nat}(h:k<63):D63[k]? =some (DGb k):=by rw[D63,List.getElem?_map,List.getElem?_range h];rfl
def DGs:List (List Value):=D63.map λd=>[.bool d]
theorem pJ:DGs.length=63:=by rw[DGs,List.length_map,vl]
theorem Dc{k:Nat}(h:k<63):DGs[k]? =some [.bool (DGb k)]:=by rw[DGs,List.getElem?_map,uU h];rfl
theorem Kj{k:Nat}{v:List Value}(h:DGs[k]? =some v):k<63/\v=[.bool (DGb k)]:=by
 have hk:k<63:=by
  rcases Nat.lt_or_ge k 63 with hk|hk
  ·exact hk
  ·rw[List.getElem?_eq_none (by rw[pJ];exact hk)]at h;cases h
 exact ⟨hk,(Option.some.inj ((Dc hk).symm.trans h)).symm⟩
theorem xI:fP prog Gt 222 [] DGs (λ_=>True):=by
 intro l J Jx hJ hJx hRd hGx hY w hj;have okJ: ∀k,BOk Gt (Bi w (λY=>J Y k)):=λk=>⟨λ_ _ _ h=>(hRd _ _ _ h.rid).1,hJ k⟩;have okX: ∀k,BOk Gt (Bi w (λY=>Jx Y k)):=λk=>⟨λ_ _ _ h=>hGx _ _ _ h.rid,hJx k⟩;refine cv (G:=Gt) func222 O O (Hp (Bi w (λY=>J Y 0)) []) (cj (Bi w _) hj (hJ 0)) (az (okJ 0))<|Xp<|Ca O (T0)<|Bnr (v:=I 62) O O (λ_=>(aW _ _ _ (by unfold inI;decide)).trans rr)<|Asg O<|aa<|ai<|gE (ι:={k:Nat // k<=63}) (λx=>[(0,.func (.yield l) #[] #[]),(2,I (62-(x.1:Int)))]) (λx=>Bi w (λY=>J Y x.1)) (λx=>[]) (λx=>63-x.1) ⟨0,Nat.zero_le _⟩ (λ_=>okJ _) O trv trivial<|?_
 rintro ⟨k,hk⟩;dsimp only;refine ah<|Xp<|Mv O<|Bnr (v:=.bool (decide (k<63))) O O (λ_=>(df _ _ _).trans (by rw[show decide ((62-(k:Int))>=0)=decide (k<63)from decide_eq_decide.2 om]))<|aa<|?_
 refine bD O (λhc=> ?_) (λhc=> ?_)
 ·have hk2:k<63:=by simpa using hc
  refine aq<|ah<|ai<|Xp<|Mv O<|Mv O<|Bnr (v:=U64 (15132376222941642752#64>>>(62-k))) O O (λ_=>(cY _ _ _ om).trans (by rw[show (62-(k:Int)).toNat=62-k by omega]))<|Bnr (v:=U64 (15132376222941642752#64>>>(62-k) &&& 1#64)) O O (λ_=>ek _ _ 1#64)<|Bnr (v:=.bool (DGb k)) O O (λ_=>bu _ _ 1#64)<|?_
  refine dB (hY.b (k:=k) (Dc hk2) w) (okJ _) (okX _) O O O O O ?_ ?_
  ·refine bp O (λ_=>a8 _) O O<|aa<|aD O<|aq<|Xq<|Mv O<|Bnr (v:=I (62-((k+1:Nat):Int))) O O (λ_=>(aW _ _ _ oi).trans (by rw[show 62-(k:Int)-1=62-((k+1:Nat):Int) by omega]))<|Asg O<|aa<|?_
   repeat (refine aO ?_)
   exact aC<|⟨rfl,⟨k+1,om⟩,_,by show 63-(k+1)<63-k;omega,rfl,trv,trivial⟩
  ·refine bp O (λ_=>a8 _) O O<|aa<|aT O<|am<|Rr<|?_
   repeat (first|refine dC ?_|refine cm ?_|refine dP O ?_|refine bJ ?_|refine bM ?_)
   exact du O (λw hw=>⟨⟨_,rfl⟩,.inr ⟨_,ca (hJx _) hw.rid⟩⟩)
 ·obtain rfl:k=63:=by simp at hc;omega
  refine aV ?_
  repeat (first|refine dC ?_|refine cm ?_|refine dP O ?_|refine bJ ?_|refine bM ?_)
  refine cP O (λw hw=>⟨⟨_,rfl⟩,.inl ?_⟩);have:=ca (hJ _) hw.rid;rw[pJ];exact this
end
section
open Go.RowKit
attribute [local simp] a6 bj aH aB aP aZ aQ aJ aM be bz a5 bv J1.bB J2.bB
def pwD(x:W12)(k:Nat):W12:=K12.pw x (fO (D63.take k) 1)
theorem pT{k:Nat}(h:k<63):D63.take (k+1)=D63.take k++[DGb k]:=by rw[List.take_add_one,uU h];rfl
theorem Oj(x:W12){k:Nat}(h:k<63)(hd:DGb k=true):K12.mul (K12.mul (pwD x k) (pwD x k)) x=pwD x (k+1):=by
 rw[pwD,pwD,pT h,nM,hd,<-K12.pw_add,<-Nat.two_mul];rfl
theorem Px(x:W12){k:Nat}(h:k<63)(hd:DGb k=false):K12.mul (pwD x k) (pwD x k)=pwD x (k+1):=by
 rw[pwD,pwD,pT h,nM,hd,<-K12.pw_add,<-Nat.two_mul];rfl
theorem Zz:D63=L63:=by decide+kernel
theorem SZ(x:W12):pwD x 63=K12.pw x UG:=by rw[pwD,List.take_of_length_le (by rw[vl];exact Nat.le_refl _),Zz,VK]
namespace Q6
end Q6
end
section
open Go.RowKit
attribute [local simp] a6 bj aH aB aP aZ aQ aJ aM be bz a5 bv J1.bB J2.bB
namespace Q6
def PRv(a:J1.GP×J2.GP):L6:=J1.GL a.1++J2.GL a.2
theorem gc(a:J1.GP×J2.GP):(PRv a).length=54:=by simp[PRv]
attribute [local simp] gc
theorem zv169(w:World):(zeroValue 169).run prog w=.ok (aL (List.replicate 54 (0#64))) w:=(zeroValue169 w).trans rr
def WSf(f:Nat->J1.GP×J2.GP):Nat->List WK
 |0=>[]
 |i+1=>if (f i).1.P=none then WSf f i else if (f i).2.P=none then WSf f i else WSf f i++[wkB (J1.PX (f i).1.P,J1.PY (f i).1.P) (J2.PX (f i).2.P,J2.PY (f i).2.P)]
theorem Iy{f:Nat->J1.GP×J2.GP}{i:Nat}(h:(f i).1.P=none):WSf f (i+1)=WSf f i:=if_pos h
theorem Kl{f:Nat->J1.GP×J2.GP}{i:Nat}(h: ¬(f i).1.P=none)(k:(f i).2.P=none):WSf f (i+1)=WSf f i:=(if_neg h).trans (if_pos k)
theorem I6{f:Nat->J1.GP×J2.GP}{i:Nat}(h: ¬(f i).1.P=none)(k: ¬(f i).2.P=none):WSf f (i+1)=WSf f i++[wkB (J1.PX (f i).1.P,J1.PY (f i).1.P) (J2.PX (f i).2.P,J2.PY (f i).2.P)]:=(if_neg h).trans (if_neg k)
theorem uD(f:Nat->J1.GP×J2.GP): ∀i,(WSf f i).length<=i
 |0=>Nat.le_refl _
 |i+1=>by
  have h:=uD f i;rw[WSf];split
  ·omega
  ·split
   ·omega
   ·rw[List.length_append];simp;omega
def wcl(l:List WK):List Value:=clv (l.flatMap kL)
theorem pO(w:WK):(kL w).length=12:=rfl
theorem pd(l m:List WK):wcl (l++m)=wcl l++wcl m:=by rw[wcl,List.flatMap_append,i8];rfl
theorem qO(w:WK)(l:List WK):wcl (w::l)=clv (kL w)++wcl l:=by rw[wcl,List.flatMap_cons,i8];rfl
theorem Cq(w:WK):wcl [w]=clv (kL w):=by rw[qO];exact List.append_nil _
theorem vb: ∀l:List WK,(wcl l).length=72*l.length
 |[]=>rfl
 |w::l=>by rw[qO,List.length_append,vb l,cR,pO,List.length_cons];omega
theorem OwnW.of{L L':Hl}{n:Nat}{e:TypeId}{s:Nat}{a0:Option Addr}{cap nx:Nat}{xs:List Value}(h:OwnW L n e s a0 cap nx xs)(he:lkB L' n=lkB L n):OwnW L' n e s a0 cap nx xs:=by
 rcases h with h|⟨b,c,h1,h2,h3⟩
 ·exact .inl h
 ·exact .inr ⟨b,c,h1,he.trans h2,h3⟩
theorem QQ(a b:Zp)(c d e f g:W2)(w:World):(Instr.build 240 (([0,1,2,3,4,5,6]).zip [EV a,EV b,EV2 c,EV2 d,EV2 e,EV2 f,EV2 g]).toArray).run prog w=.ok (.agg (clv [a,b,c.1,c.2,d.1,d.2,e.1,e.2,f.1,f.2,g.1,g.2]).toArray) w:=by
 obtain ⟨fields,hf,hm,_⟩:=TB.hfs 240 [(0,1),(1,1),(2,2),(4,2),(6,2),(8,2),(10,2)] kr;exact gK (TB.hsz 240 12 kr).2.2 hf hm _ (qC (ps:=[(0,[a]),(1,[b]),(2,[c.1,c.2]),(3,[d.1,d.2]),(4,[e.1,e.2]),(5,[f.1,f.2]),(6,[g.1,g.2])]) (c:=List.replicate 12 0) rr) w
theorem tiW:TI prog 240 (.agg (clv (List.replicate 12 0)).toArray) 72 576:=sL (by rw[clv,qA];kernel_rfl)
theorem FH{own L:Hl}(ho:own=[]\/∃x,own=[(50,x)])(h:lkB L 50=lkB own 50):jZ L own:=by
 rcases ho with rfl|⟨x,rfl⟩
 ·exact trivial
 ·exact ⟨h,trivial⟩
structure BgV(f:Nat->J1.GP×J2.GP)(n:Nat) where
 (k:Nat) (a0:Option Addr) (cap:Nat) (own:Hl)
 hk:k<=n
 hs:OwnW own 50 240 72 a0 cap (WSf f k).length (wcl (WSf f k))
 ho:own=[]\/∃x,own=[(50,x)]
 hz:WSf f k=[]->a0=none
theorem M8{w:World}(h:Gt w):8<=w.heap.size:=block_lt_of_cell (h.g7 0 _ rr)
theorem LA(n:Nat)(f:Nat->J1.GP×J2.GP)(b cap:Nat)(hn:n<=1000)(w:World)(hw:Gt w)(h:w.rangeAt b 0 ((RW 54 (λi=>PRv (f i)) n).map U64)):
 CLS 195 [.slice (spt b) n cap].toArray w (λe w'=>(∃bW cW capW,e=.returned (.slice (spt bW) (WSf f n).length capW)/\Grow w w'/\w.heap.size<=bW/\OwnB w' bW cW 240/\cW.take (wcl (WSf f n)).length=wcl (WSf f n)/\WSf f n≠[])\/(WSf f n=[]/\e=.returned (.slice none 0 0)/\Grow w w')):=by
 have hGF:BOk Gt (pl w):=gt_low.plain hw;have fin: ∀{L:Hl} {a0:Option Addr} {cap:Nat} {w':World},OwnW L 50 240 72 a0 cap (WSf f n).length (wcl (WSf f n))->(WSf f n=[]->a0=none)->Hp (pl w) L w'->(∃bW cW capW,Ending.returned (.slice a0 (WSf f n).length cap)=.returned (.slice (spt bW) (WSf f n).length capW)/\Grow w w'/\w.heap.size<=bW/\OwnB w' bW cW 240/\cW.take (wcl (WSf f n)).length=wcl (WSf f n)/\WSf f n≠[])\/(WSf f n=[]/\Ending.returned (.slice a0 (WSf f n).length cap)=.returned (.slice none 0 0)/\Grow w w'):=λ{L a0 cap w'} h hz hp=>by
  rcases h with ⟨rfl,_,h3,rfl⟩|⟨b,c,rfl,hl,hc,hle,hx,ht⟩
  ·exact .inr ⟨List.length_eq_zero_iff.1 h3,by rw[h3],ac hp⟩
  ·exact .inl ⟨b,c,cap,rfl,ac hp,(hp.own _ _ _ _ hl).2.elim id False.elim,(hp.own _ _ _ _ hl).1,ht,λe=>by cases hz e⟩
 refine Hd func195 O hGF<|Xp<|Asg O<|aa<|lP<|Xp<|Asg O<|aa<|ah<|ni<|ah<|Xp<|Mv O<|bf O (λ_=>aG underlying170 _ _ _ _) O O<|Mv O<|aa<|ai<|bH (ι:=BgV f n) (λx=>[(11,.slice (spt b) n cap),(12,I (n:Int)),(13,I (x.k:Int)),(3,.slice x.a0 (WSf f x.k).length x.cap)]) (λx=>x.own) (λx=>n-x.k) ⟨0,none,0,[],om,xB _ _ _ _,.inl O,λ_=>rfl⟩ hGF trv trivial<|?_;rintro ⟨i,a0,cap0,own,hi,hs,ho,hz⟩;dsimp only at hs ho hz⊢;have hwl:=uD f i;by_cases hP:(f i).1.P=none
 ·refine Xp<|Bnr O O (λ_=>aw _ _ _)<|aa<|ah<|?_
  refine bD O (λhc=> ?_) (λhc=> ?_)
  ·have hi2:i<n:=by simp at hc;omega
   refine aq<|ah<|ai<|Xp<|iZ (s:=54) i O O underlying170 sizeOf169 om om O O<|da (cs:=(PRv (f i)).map U64) O isAgg169 sizeOf169 sm (λw' h'=>gL (fb h (λh=>h) w' h') om (gc _)) O O<|Al 5 hGF zv169<|λb5=>Sa 5 hGF O O O Hy<|aa<|Xp<|Fa 0 O underlying169 O sizeOf54<|ay 5 ((J1.GL (f i).1).map U64) O O isAgg54 sizeOf54 sm eu O O<|Ca O (J1.Jp _ hP)<|Mv O<|Ext O O<|Ext O O<|Ext O O<|Al 6 hGF zv52<|λb6=>Al 7 hGF zv52<|λb7=>Sa 6 hGF O O O bO<|Sa 7 hGF O O O bO<|Asg O<|aa<|ah<|Xp<|Mv O<|bp O (λ_=>a8 _) O O<|aa<|aT O<|aV<|Xq<|Bnr O O (λ_=>au _ _ _ oi)<|Mv O<|aa<|?_
   repeat (first|refine aO ?_|refine cm ?_)
   exact aC<|⟨rfl,⟨i+1,a0,cap0,own,om,by rw[Iy hP];exact hs,ho,by rw[Iy hP];exact hz⟩,_,by show n-(i+1)<n-i;omega,rfl,⟨rfl,rfl,rfl,by dsimp only;rw[Iy hP];rfl,trivial⟩,FH ho O⟩
  ·obtain rfl:i=n:=by simp at hc;omega
   refine aV<|Xp<|Mv O<|Asg O<|aa<|am<|?_
   repeat (first|refine bJ ?_|refine bM ?_|refine fh ?_)
   exact aF O O (λw' hw'=>fin hs hz hw')
 ·by_cases hQ:(f i).2.P=none
  ·refine Xp<|Bnr O O (λ_=>aw _ _ _)<|aa<|ah<|?_
   refine bD O (λhc=> ?_) (λhc=> ?_)
   ·have hi2:i<n:=by simp at hc;omega
    refine aq<|ah<|ai<|Xp<|iZ (s:=54) i O O underlying170 sizeOf169 om om O O<|da (cs:=(PRv (f i)).map U64) O isAgg169 sizeOf169 sm (λw' h'=>gL (fb h (λh=>h) w' h') om (gc _)) O O<|Al 5 hGF zv169<|λb5=>Sa 5 hGF O O O Hy<|aa<|Xp<|Fa 0 O underlying169 O sizeOf54<|ay 5 ((J1.GL (f i).1).map U64) O O isAgg54 sizeOf54 sm eu O O<|Ca O (J1.wC _ hP)<|Mv O<|Ext O O<|Ext O O<|Ext O O<|Al 6 hGF zv52<|λb6=>Al 7 hGF zv52<|λb7=>Sa 6 hGF O O O bO<|Sa 7 hGF O O O bO<|Asg O<|aa<|ah<|Xp<|Mv O<|bp O (λ_=>a8 _) O O<|aa<|aD O<|aq<|Xp<|Fa 18 O underlying169 O sizeOf80<|ay 5 ((J2.GL (f i).2).map U64) O O isAgg80 sizeOf80 sm (jk sm) O O<|Ca O (J2.Jp _ hQ)<|Mv O<|Ext O O<|Ext O O<|Ext O O<|Al 9 hGF zv78<|λb9=>Al 10 hGF zv78<|?_;intro b10;refine Sa 9 hGF O O O aX<|Sa 10 hGF O O O aX<|Asg O<|aa<|ah<|Xp<|Mv O<|bp O (λ_=>a8 _) O O<|aa<|aT O<|aV<|Xq<|Bnr O O (λ_=>au _ _ _ oi)<|Mv O<|aa<|?_
    repeat (first|refine aO ?_|refine cm ?_)
    exact aC<|⟨rfl,⟨i+1,a0,cap0,own,om,by rw[Kl hP hQ];exact hs,ho,by rw[Kl hP hQ];exact hz⟩,_,by show n-(i+1)<n-i;omega,rfl,⟨rfl,rfl,rfl,by dsimp only;rw[Kl hP hQ];rfl,trivial⟩,FH ho O⟩
   ·obtain rfl:i=n:=by simp at hc;omega
    refine aV<|Xp<|Mv O<|Asg O<|aa<|am<|?_
    repeat (first|refine bJ ?_|refine bM ?_|refine fh ?_)
    exact aF O O (λw' hw'=>fin hs hz hw')
  ·refine Xp<|Bnr O O (λ_=>aw _ _ _)<|aa<|ah<|?_
   refine bD O (λhc=> ?_) (λhc=> ?_)
   ·have hi2:i<n:=by simp at hc;omega
    refine aq<|ah<|ai<|Xp<|iZ (s:=54) i O O underlying170 sizeOf169 om om O O<|da (cs:=(PRv (f i)).map U64) O isAgg169 sizeOf169 sm (λw' h'=>gL (fb h (λh=>h) w' h') om (gc _)) O O<|Al 5 hGF zv169<|λb5=>Sa 5 hGF O O O Hy<|aa<|Xp<|Fa 0 O underlying169 O sizeOf54<|ay 5 ((J1.GL (f i).1).map U64) O O isAgg54 sizeOf54 sm eu O O<|Ca O (J1.wC _ hP)<|Mv O<|Ext O O<|Ext O O<|Ext O O<|Al 6 hGF zv52<|λb6=>Al 7 hGF zv52<|λb7=>Sa 6 hGF O O O bO<|Sa 7 hGF O O O bO<|Asg O<|aa<|ah<|Xp<|Mv O<|bp O (λ_=>a8 _) O O<|aa<|aD O<|aq<|Xp<|Fa 18 O underlying169 O sizeOf80<|ay 5 ((J2.GL (f i).2).map U64) O O isAgg80 sizeOf80 sm (jk sm) O O<|Ca O (J2.wC _ hQ)<|Mv O<|Ext O O<|Ext O O<|Ext O O<|Al 9 hGF zv78<|λb9=>Al 10 hGF zv78<|?_;intro b10;refine Sa 9 hGF O O O aX<|Sa 10 hGF O O O aX<|Asg O<|aa<|ah<|Xp<|Mv O<|bp O (λ_=>a8 _) O O<|aa<|aD O<|aq<|Xe []<|Mv O<|La 6 O O bO<|La 7 O O bO<|La 9 O O aX<|La 10 O O aX<|La 9 O O aX<|La 10 O O aX<|Ca O (sW)<|ew (ps:=[(0,.tmp 36),(1,.tmp 37),(2,.tmp 38),(3,.tmp 39),(4,.tmp 40),(5,.tmp 41),(6,.tmp 42)]) (vs:=[EV (J1.PX (f i).1.P),EV (J1.PY (f i).1.P),EV2 (J2.PX (f i).2.P),EV2 (J2.PY (f i).2.P),EV2 (J2.PX (f i).2.P),EV2 (J2.PY (f i).2.P),EV2 on2]) O (v:=.agg (clv (kL (wkB (J1.PX (f i).1.P,J1.PY (f i).1.P) (J2.PX (f i).2.P,J2.PY (f i).2.P)))).toArray) (λw=>QQ _ _ _ _ _ _ _ w) O O<|wR 44 (clv (kL (wkB (J1.PX (f i).1.P,J1.PY (f i).1.P) (J2.PX (f i).2.P,J2.PY (f i).2.P)))) hGF O (by rw[cR,pO]) dc dc underlying232 sizeOf240 (TB.hsz 240 12 kr).2.2 O O<|?_
    intro b44;refine qp (s:=72) (nx:=(WSf f i).length) (ny:=1) (xs:=wcl (WSf f i)) (ys:=clv (kL (wkB (J1.PX (f i).1.P,J1.PY (f i).1.P) (J2.PX (f i).2.P,J2.PY (f i).2.P)))) 50 hGF O O underlying232 underlying232 tiW O (OwnW.of hs O) (by rw[cR,pO]) (λw' h=>aI (n:=44) O w' h) (Df _) dc om om O O (λbA cA capA eA lA tA=> ?_)
    refine Asg O<|aa<|Xq<|Bnr O O (λ_=>au _ _ _ oi)<|Mv O<|aa<|?_
    repeat (first|refine aO ?_|refine cm ?_)
    refine aC ?_;have eW:=I6 hP hQ;have eL:(WSf f (i+1)).length=(WSf f i).length+1:=by rw[eW,List.length_append];rfl
    have eC:wcl (WSf f (i+1))=wcl (WSf f i)++clv (kL (wkB (J1.PX (f i).1.P,J1.PY (f i).1.P) (J2.PX (f i).2.P,J2.PY (f i).2.P))):=by rw[eW,pd,Cq]
    exact ⟨rfl,⟨i+1,some ⟨bA,0,none⟩,capA,[(50,bA,cA,240)],om,.inr ⟨bA,cA,rfl,rfl,eA,om,by rw[vb,Nat.mul_comm],by rw[eC];exact tA⟩,.inr ⟨_,rfl⟩,λe=>by rw[e]at eL;cases eL⟩,_,by show n-(i+1)<n-i;omega,rfl,⟨rfl,rfl,rfl,by dsimp only;rw[eL];rfl,trivial⟩,trv⟩
   ·obtain rfl:i=n:=by simp at hc;omega
    refine aV<|Xp<|Mv O<|Asg O<|aa<|am<|?_
    repeat (first|refine bJ ?_|refine bM ?_|refine fh ?_)
    exact aF O O (λw' hw'=>fin hs hz hw')
end Q6
end
section
open Go.RowKit
attribute [local simp] a6 bj aH aB aP aZ aQ aJ aM be bz a5 bv J1.bB J2.bB
namespace Q6
abbrev sA(x:W12):List Value:=(((fe ((x).1.1).1++fe ((x).1.1).2)++((fe ((x).1.2.1).1++fe ((x).1.2.1).2)++(fe ((x).1.2.2).1++fe ((x).1.2.2).2)))++((fe ((x).2.1).1++fe ((x).2.1).2)++((fe ((x).2.2.1).1++fe ((x).2.2.1).2)++(fe ((x).2.2.2).1++fe ((x).2.2.2).2)))).map U64
theorem nj(x:W12):(sA x).length=72:=sm
def mkC(fs:List Nat)(o:Oper):Bool:=match o.op with
 | .call {callee:=.value (.func f), .. }=>fs.any (Nat.beq f)
 |_=>false
def SK(W:List WK)(k:Nat):List WK×W12:=rdK (D63.take k) (W,K12.one)
theorem aaG(W:List WK){k:Nat}(h:k<63):SK W (k+1)=rdF (DGb k) (SK W k):=by rw[SK,pT h,M5];rfl
theorem G2(W:List WK){k:Nat}(h:k<63)(hd:DGb k=false):SK W (k+1)=((SK W k).1.map wDb,iQ rDb (SK W k).1 (K12.mul (SK W k).2 (SK W k).2)):=by rw[aaG W h,hd];rfl
theorem GQ(W:List WK){k:Nat}(h:k<63)(hd:DGb k=true):SK W (k+1)=(((SK W k).1.map wDb).map wJn,iQ rJn ((SK W k).1.map wDb) (iQ rDb (SK W k).1 (K12.mul (SK W k).2 (SK W k).2))):=by rw[aaG W h,hd];rfl
theorem mr(W:List WK): ∀k,k<=63->(SK W k).1.length=W.length
 |0,_=>rfl
 |k+1,h=>by
  have ih:=mr W k om
  cases d:DGb k with
  |false=>rw[G2 W om d,List.length_map];exact ih
  |true=>rw[GQ W om d,List.length_map,List.length_map];exact ih
theorem nN(g:WK->W6): ∀(l:List WK) (w:WK) (f:W12),iQ g (l++[w]) f=K12.mul (lel (g w)) (iQ g l f)
 |[],_,_=>rfl
 |v::l,w,f=>nN g l w (K12.mul (lel (g v)) f)
theorem AJ{l:List WK}{j:Nat}{w:WK}(h:l[j]? =some w):l.take (j+1)=l.take j++[w]:=by rw[List.take_add_one,h];rfl
theorem UR{l:List WK}{j:Nat}{w:WK}(h:l[j]? =some w):l.drop j=w::l.drop (j+1):=by
 have hj:=(List.getElem?_eq_some_iff.1 h).1;rw[List.drop_eq_getElem_cons hj];exact congrArg (·::_) (List.getElem?_eq_some_iff.1 h).2
def upW(g:WK->WK)(l:List WK)(j:Nat):List WK:=(l.take j).map g++l.drop j
theorem W8{g:WK->WK}{l:List WK}{j:Nat}{w:WK}(h:l[j]? =some w)(post:List Value):wcl (upW g l j)++post=wcl ((l.take j).map g)++(clv (kL w)++(wcl (l.drop (j+1))++post)):=by
 rw[upW,UR h,pd,qO];simp only[List.append_assoc]
theorem VY{g:WK->WK}{l:List WK}{j:Nat}{w:WK}(h:l[j]? =some w)(post:List Value):wcl (upW g l (j+1))++post=wcl ((l.take j).map g)++(clv (kL (g w))++(wcl (l.drop (j+1))++post)):=by
 rw[upW,AJ h,List.map_append,pd,pd,show [w].map g=[g w]from O,Cq];simp only[List.append_assoc]
theorem aaK{g:WK->WK}{l:List WK}{j:Nat}{w:WK}(h:l[j]? =some w):(wcl ((l.take j).map g)).length=0+72*j:=by
 have hj:=(List.getElem?_eq_some_iff.1 h).1;rw[vb,List.length_map,List.length_take,Nat.min_eq_left om,Nat.zero_add]
theorem aap(g:WK->WK)(l:List WK):upW g l 0=l:=rfl
theorem O5(g:WK->WK){l:List WK}{j:Nat}(h:l.length=j):upW g l j=l.map g:=by
 rw[upW,List.take_of_length_le om,List.drop_eq_nil_of_le om,List.append_nil]
theorem YX{f:FuncId}{g:WK->WK}{u:WK->W6}{l:List WK}{j:Nat}{w:WK}(h:l[j]? =some w){b:Nat}{post:List Value}{W:World}(ho:OwnB W b (wcl (upW g l j)++post) 240)
 (hc: ∀{pre post:List Value},OwnB W b (pre++(clv (kL w)++post)) 240->CLS f [.pointer (some ⟨b,pre.length,none⟩)].toArray W (λe W'=>e=.returned (EV6 (u w))/\Mod b W W'/\OwnB W' b (pre++(clv (kL (g w))++post)) 240)):
 CLS f [.pointer (some ⟨b,0+72*j,none⟩)].toArray W (λe W'=>e=.returned (EV6 (u w))/\Mod b W W'/\OwnB W' b (wcl (upW g l (j+1))++post) 240):=by
 rw[W8 h]at ho;have k:=hc ho;rw[aaK h]at k;rw[VY h];exact k
theorem Rw{l:List WK}{j:Nat}{w:WK}(h:l[j]? =some w){b:Nat}{post:List Value}{W:World}(hw:Gt W)(hb:8<=b)(ho:OwnB W b (wcl (upW wDb l j)++post) 240):CLS 198 [.pointer (some ⟨b,0+72*j,none⟩)].toArray W (λe W'=>e=.returned (EV6 (rDb w))/\Mod b W W'/\OwnB W' b (wcl (upW wDb l (j+1))++post) 240):=YX h ho (λ{_ _} k=>mdbl w hw hb k)
theorem ZA{l:List WK}{j:Nat}{w:WK}(h:l[j]? =some w){b:Nat}{post:List Value}{W:World}(hz: ¬w.2.2.2.2=ze2)(hw:Gt W)(hb:8<=b)(ho:OwnB W b (wcl (upW wJn l j)++post) 240):CLS 200 [.pointer (some ⟨b,0+72*j,none⟩)].toArray W (λe W'=>e=.returned (EV6 (rJn w))/\Mod b W W'/\OwnB W' b (wcl (upW wJn l (j+1))++post) 240):=YX h ho (λ{_ _} k=>mjn w hz hw hb k)
theorem TK(W:List WK)(n b cap:Nat)(cs:List Value)(hWl:W.length<=1000)(hZ: ∀k,k<63->DGb k=true->∀w∈(SK W k).1.map wDb,¬w.2.2.2.2=ze2)(hB: ∀w',Gt w'->w'.rangeAt b 0 cs->CLS 195 [.slice (spt b) n cap].toArray w' (λr w''=> ∃bW post capW,r=.returned (.slice (spt bW) W.length capW)/\Grow w' w''/\w'.heap.size<=bW/\OwnB w'' bW (wcl W++post) 240))(w:World)(hw:Gt w)(h:w.rangeAt b 0 cs):
 CLS 163 [.slice (spt b) n cap].toArray w (λr w'=>r=.returned (cD (db (SK W 63).2))/\Grow w w'):=by
 have hGF:BOk Gt (pl w):=gt_low.plain hw;refine cw (G:=Gt) func163 O O (Hp (pl w) []) (cj (pl w) trivial ao) (az hGF)<|ae (E:=EE [195,198,200])<|Al 2 hGF zv211<|λb2=>aa<|lP<|ae (E:=EE [195,198,200])<|Mv O<|?_;refine dw O O ent195 O O (λw' hw'=>(hB w' (hGF.g _ _ _ hw') (fb h (λh=>h) w' hw')).mono λe' w'' h'=> ?_);obtain ⟨bW,post,capW,rfl,hg,hbD,hoD⟩:=h';have hb3:8<=bW:=Nat.le_trans (M8 (hGF.g _ _ _ hw')) hbD;refine ⟨_,_,rfl,az hGF,hw'.news ao hg [(50,bW,wcl W++post,240)] ?_ bS, ?_⟩
 ·intro n' b' c' t' hl
  rcases aK hl with ⟨_,e⟩|⟨_,hl⟩
  ·cases e;exact ⟨hbD,hoD⟩
  ·cases hl
 clear hw' hg hbD hoD;refine g8 3 hGF zeroValue232 O O<|λb3=>dY 3 hGF O O O sizeOf232 O (by first|decide|simp) O<|aa<|ae (E:=EE [195,198,200])<|Ca O (uW)<|Al 4 hGF zv211<|λb4=>Sa 4 hGF O O O gY<|aa<|ah<|ni<|ah<|ae (E:=EE [195,198,200])<|Ca O (Gl)<|aa<|ai<|?_
 refine fq (λ_=>pl w) (λ_ _=>pl w) (λ_=>hGF) (λ_ _=>hGF) (λ_=>rfl) (λ_ _=>rfl) O O ent222 xI (λx hx=>by obtain ⟨k,hk,rfl⟩:=List.mem_map.1 hx;rfl) O (λk=>[(2,b2,(((fe 0++fe 0)++((fe 0++fe 0)++(fe 0++fe 0)))++((fe 0++fe 0)++((fe 0++fe 0)++(fe 0++fe 0)))).map U64,211),(3,b3,[.slice (spt bW) W.length capW],232),(4,b4,sA ((SK W k).2),211),(50,bW,wcl ((SK W k).1)++post,240)]) (λ_ _ _=>False) trv (λ_ _ _ _=>trivial) ?_ ?_ (λ_ _ _ _ _ h=>h.elim)
 ·intro k v hx R hR
  obtain ⟨hk,rfl⟩:=Kj hx;refine bG (E:=EE [195,198,200])<|Asg O<|aa<|?_;refine ⟨rfl,_,rfl, ?_⟩;refine ai<|ae (E:=EE [195,198,200])<|La 4 O O gY<|Ca O (nS _)<|aA 4 (hR (pl w) O hGF).2.1 O O O sizeOf211 sm sm (bc _) O<|aa<|ah<|ae (E:=EE [195,198,200])<|cS 3 O O O isAgg232 O O<|bf O (λ_=>aG underlying232 _ _ _ _) O O<|Mv O<|aa<|ai<|?_;obtain ⟨F0,hF0⟩: ∃F0,F0=K12.mul (SK W k).2 (SK W k).2:=⟨_,rfl⟩;refine bH (ι:={j:Nat // j<=W.length}) (λy=>[(2,pnt b2),(3,pnt b3),(4,pnt b4),(5,.bool (DGb k)),(16,I ((W.length:Nat):Int)),(17,I (y.1:Int))]) (λy=>[(2,b2,(((fe 0++fe 0)++((fe 0++fe 0)++(fe 0++fe 0)))++((fe 0++fe 0)++((fe 0++fe 0)++(fe 0++fe 0)))).map U64,211),(3,b3,[.slice (spt bW) W.length capW],232),(4,b4,sA (iQ rDb ((SK W k).1.take y.1) F0),211),(50,bW,wcl (upW wDb (SK W k).1 y.1)++post,240)]) (λy=>W.length-y.1) ⟨0,Nat.zero_le _⟩ (hR (pl w) O hGF).2.1 trv ⟨rfl,rfl,by rw[hF0];rfl,rfl,trivial⟩ ?_
  rintro ⟨j,hj⟩;dsimp only;refine ae (E:=EE [195,198,200])<|Bnr O O (λ_=>aw _ _ _)<|aa<|ah<|?_;refine bD O (λhc=> ?_) (λhc=> ?_)
  ·have hj2:j<W.length:=by simp at hc;omega
   obtain ⟨wj,hwj⟩: ∃wj,(SK W k).1[j]? =some wj:=⟨_,List.getElem?_eq_getElem (by rw[mr W k om];exact hj2)⟩
   refine aq<|ah<|ai<|ae (E:=EE [195,198,200])<|Mv O<|Asg O<|aa<|ph (E:=EE [195,198,200]) (λX=>X=Hp (R.b (pl w)) [(4,b4,sA (iQ rDb ((SK W k).1.take j) F0),211)]) (mkC [198]) (rkB [24]) [0,1,2,4,3,5,6] cV O kr kr kr<|dN O O<|cS 3 O O O isAgg232 O O<|aa<|dN O O<|Mv O<|aa<|dN O O<|iZ (s:=72) j O O underlying232 sizeOf240 om om O O<|aa<|kC (X:=Hp (R.b (pl w)) [(4,b4,sA (iQ rDb ((SK W k).1.take j) F0),211)]) O (cO (hR (pl w) O hGF).2.1.r trv) (λ_=>rfl)<|bU 4 O O isAgg211 sizeOf211 (nj _) O O<|aa<|fK O<|?_;refine dw O O ent198 O O (λw' hw'=>(Rw hwj ((hR (pl w) O hGF).2.1.g _ _ _ hw') hb3 (hw'.own 50 _ _ _ O).1).mono λe' w'' h'=> ?_);obtain ⟨rfl,hm,ho⟩:=h';refine ⟨_,_,rfl,az (hR (pl w) O hGF).2.1,hw'.mod (hR (pl w) O hGF).2.1.r (n:=50) O hm ho, ?_⟩;clear hw' hm ho;refine aa ?_;refine ⟨λ_ X hX _=>by subst hX;exact cO (hR (pl w) O hGF).2.1.r trv, ?_⟩
   refine dN O O<|Ca O (zh (rDb wj) (iQ rDb ((SK W k).1.take j) F0))<|aa<|fK O<|aA 4 (hR (pl w) O hGF).2.1 O O O sizeOf211 sm (nj _) (bc _) O<|aa<|?_;refine ⟨λh=>Bool.noConfusion h, ?_⟩;refine fR<|bG (E:=EE [195,198,200])<|Bnr O O (λ_=>au _ _ _ oi)<|Mv O<|aa<|?_
   repeat (refine aO ?_)
   refine aC ?_;have eF:K12.mul (lel (rDb wj)) (iQ rDb ((SK W k).1.take j) F0)=iQ rDb ((SK W k).1.take (j+1)) F0:=by rw[AJ hwj,nN]
   exact ⟨rfl,⟨j+1,om⟩,_,by show W.length-(j+1)<W.length-j;omega,rfl,trv,⟨rfl,rfl,by rw[<-eF];rfl,rfl,trivial⟩⟩
  ·obtain rfl:j=W.length:=by simp at hc;omega
   refine aV ?_;rw[O5 wDb (by rw[mr W k om]),List.take_of_length_le (Nat.le_of_eq (by rw[mr W k om])),hF0]
   clear hF0;refine ah<|ae (E:=EE [195,198,200])<|Mv O<|bp O (λ_=>a8 _) O O<|aa<|?_;refine bD O (λhc=> ?_) (λhc=> ?_)
   ·have hd:DGb k=false:=by simpa using hc
    refine aV ?_
    repeat (first|refine aO ?_|refine cm ?_)
    exact ⟨_,rfl,⟨rfl,rfl,by first|(rw[G2 W hk hd];rfl)|(rw[GQ W hk hd];rfl),by first|(rw[G2 W hk hd];rfl)|(rw[GQ W hk hd];rfl),trivial⟩⟩
   ·have hd:DGb k=true:=by simpa using hc
    refine aq<|ae (E:=EE [195,198,200])<|cS 3 O O O isAgg232 O O<|bf O (λ_=>aG underlying232 _ _ _ _) O O<|Mv O<|aa<|ai<|?_;obtain ⟨F0,hF0⟩: ∃F0,F0=iQ rDb (SK W k).1 (K12.mul (SK W k).2 (SK W k).2):=⟨_,rfl⟩;refine bH (ι:={j:Nat // j<=W.length}) (λy=>[(2,pnt b2),(3,pnt b3),(4,pnt b4),(5,.bool (DGb k)),(30,I ((W.length:Nat):Int)),(31,I (y.1:Int))]) (λy=>[(2,b2,(((fe 0++fe 0)++((fe 0++fe 0)++(fe 0++fe 0)))++((fe 0++fe 0)++((fe 0++fe 0)++(fe 0++fe 0)))).map U64,211),(3,b3,[.slice (spt bW) W.length capW],232),(4,b4,sA (iQ rJn (((SK W k).1.map wDb).take y.1) F0),211),(50,bW,wcl (upW wJn ((SK W k).1.map wDb) y.1)++post,240)]) (λy=>W.length-y.1) ⟨0,Nat.zero_le _⟩ (hR (pl w) O hGF).2.1 trv ⟨rfl,rfl,by rw[hF0];rfl,by rw[aap];rfl,trivial⟩ ?_
    rintro ⟨j,hj⟩;dsimp only;refine ae (E:=EE [195,198,200])<|Bnr O O (λ_=>aw _ _ _)<|aa<|ah<|?_;refine bD O (λhc=> ?_) (λhc=> ?_)
    ·have hj2:j<W.length:=by simp at hc;omega
     obtain ⟨wj,hwj⟩: ∃wj,((SK W k).1.map wDb)[j]? =some wj:=⟨_,List.getElem?_eq_getElem (by rw[List.length_map,mr W k om];exact hj2)⟩
     refine aq<|ah<|ai<|ae (E:=EE [195,198,200])<|Mv O<|Asg O<|aa<|ph (E:=EE [195,198,200]) (λX=>X=Hp (R.b (pl w)) [(4,b4,sA (iQ rJn (((SK W k).1.map wDb).take j) F0),211)]) (mkC [200]) (rkB [38]) [0,1,2,4,3,5,6] cV O kr kr kr<|dN O O<|cS 3 O O O isAgg232 O O<|aa<|dN O O<|Mv O<|aa<|dN O O<|iZ (s:=72) j O O underlying232 sizeOf240 om om O O<|aa<|kC (X:=Hp (R.b (pl w)) [(4,b4,sA (iQ rJn (((SK W k).1.map wDb).take j) F0),211)]) O (cO (hR (pl w) O hGF).2.1.r trv) (λ_=>rfl)<|bU 4 O O isAgg211 sizeOf211 (nj _) O O<|aa<|fK O<|?_;refine dw O O ent200 O O (λw' hw'=>(ZA hwj (hZ k hk hd _ (List.mem_of_getElem? hwj)) ((hR (pl w) O hGF).2.1.g _ _ _ hw') hb3 (hw'.own 50 _ _ _ O).1).mono λe' w'' h'=> ?_);obtain ⟨rfl,hm,ho⟩:=h';refine ⟨_,_,rfl,az (hR (pl w) O hGF).2.1,hw'.mod (hR (pl w) O hGF).2.1.r (n:=50) O hm ho, ?_⟩;clear hw' hm ho;refine aa ?_;refine ⟨λ_ X hX _=>by subst hX;exact cO (hR (pl w) O hGF).2.1.r trv, ?_⟩
     refine dN O O<|Ca O (zh (rJn wj) (iQ rJn (((SK W k).1.map wDb).take j) F0))<|aa<|fK O<|aA 4 (hR (pl w) O hGF).2.1 O O O sizeOf211 sm (nj _) (bc _) O<|aa<|?_;refine ⟨λh=>Bool.noConfusion h, ?_⟩;refine fR<|bG (E:=EE [195,198,200])<|Bnr O O (λ_=>au _ _ _ oi)<|Mv O<|aa<|?_
     repeat (refine aO ?_)
     refine aC ?_;have eF:K12.mul (lel (rJn wj)) (iQ rJn (((SK W k).1.map wDb).take j) F0)=iQ rJn (((SK W k).1.map wDb).take (j+1)) F0:=by rw[AJ hwj,nN]
     exact ⟨rfl,⟨j+1,om⟩,_,by show W.length-(j+1)<W.length-j;omega,rfl,trv,⟨rfl,rfl,by rw[<-eF];rfl,rfl,trivial⟩⟩
    ·obtain rfl:j=W.length:=by simp at hc;omega
     refine aV ?_;rw[O5 wJn (by rw[List.length_map,mr W k om]),List.take_of_length_le (Nat.le_of_eq (by rw[List.length_map,mr W k om])),hF0]
     clear hF0
     repeat (first|refine aO ?_|refine cm ?_)
     exact ⟨_,rfl,⟨rfl,rfl,by first|(rw[G2 W hk hd];rfl)|(rw[GQ W hk hd];rfl),by first|(rw[G2 W hk hd];rfl)|(rw[GQ W hk hd];rfl),trivial⟩⟩
 ·intro D hD
  rw[pJ];refine ae (E:=EE [195,198,200])<|La 4 O O gY<|Ca O (CL _)<|Sa 2 hD O O O gY<|aa<|am<|?_
  repeat (first|refine bJ ?_|refine bM ?_|refine fh ?_)
  exact dX (.inl O) ao (av 2 O O O isAgg211 sizeOf211 sm (λw hw=>⟨rfl,ac hw⟩))
end Q6
end
section
open Go.RowKit
attribute [local simp] a6 bj aH aB aP aZ aQ aJ aM be bz a5 bv J1.bB J2.bB Q6.gc
namespace Q6
def LPv(f:Nat->J1.GP×J2.GP)(n:Nat):W12:=db (SK (WSf f n) 63).2
theorem uh:Two prog 169 ⟨ "P",54,0,false, "", "",0⟩ ⟨ "Q",80,18,false, "", "",144⟩ 18 36 (List.replicate 18 (0#64)) (List.replicate 36 (0#64)):=⟨underlying169,rfl,rfl,sizeOf54,sizeOf80,λw=>(zeroValue169 w).trans rr,sm,sm⟩
end Q6
end
section
open Go.RowKit
theorem ent272:ak prog 272:=λ_ _=>kr
namespace Q6
attribute [local simp] a6 bj aH aB aP aZ aQ aJ aM be bz a5 bv
attribute [local simp] rB cM
theorem zv283(w:World):(zeroValue 283).run prog w=.ok (aL (FM (FF λ_=>ze2) 6)) w:=by
 rw[xL];exact (zeroValue283 w).trans rr
abbrev TV6(f:Nat->W2):Value:=aL (FM (FF f) 6)
theorem U9(f z:Nat->L6): ∀i,i<6->yV f [0,1,2,3,4,5] z i=f i:=λi hi=>pN _ _ _ _ (.inl (by
 match i,hi with
 |0,_=>decide
 |1,_=>decide
 |2,_=>decide
 |3,_=>decide
 |4,_=>decide
 |5,_=>decide))
theorem NE(x:W12):PUR 273 [cD x] (TV6 (p12 x)):=by
 intro w hw;refine Hf func273 O hw<|λhGF=>Xp<|Bx 1 hGF O<|λb1=>Al 2 hGF zv283<|λb2=>aa<|Xp<|Fa 0 O underlying211 O sizeOf209<|Fa 0 O underlying209 O sizeOf78<|ay 1 _ O O isAgg78 sizeOf78 sm (Jb eu) O O<|Fa 36 O underlying211 O sizeOf209<|Fa 36 O underlying209 O sizeOf78<|ay 1 _ O O isAgg78 sizeOf78 sm (zv (m:=36) (o:=0) sm O eu) O O<|Fa 0 O underlying211 O sizeOf209<|Fa 12 O underlying209 O sizeOf78<|ay 1 _ O O isAgg78 sizeOf78 sm (Jb (kN sm)) O O<|Fa 36 O underlying211 O sizeOf209<|Fa 48 O underlying209 O sizeOf78<|ay 1 _ O O isAgg78 sizeOf78 sm (zv (m:=36) (o:=12) sm O (kN (m:=12) sm)) O O<|Fa 0 O underlying211 O sizeOf209<|Fa 24 O underlying209 O sizeOf78<|ay 1 _ O O isAgg78 sizeOf78 sm (Jb (gw (m:=12) (n:=12) sm sm O)) O O<|Fa 36 O underlying211 O sizeOf209<|Fa 60 O underlying209 O sizeOf78<|ay 1 _ O O isAgg78 sizeOf78 sm (zv (m:=36) (o:=24) sm O (gw (m:=12) (n:=12) sm sm O)) O O<|qt (s:=12) (FF (p12 x)) (FF (p12 x)) [0,1,2,3,4,5] O O O (λi _=>a5 _) underlying283 sizeOf78 zv283 (U9 _ _) O O<|Sa 2 hGF O O O Oc<|aa<|am<|Rr<|?_;exact av 2 O O O isAgg283 sizeOf283 sm (λw hw=>⟨rfl,ac hw⟩)
theorem Z7(f:Nat->W2):PUR 257 [TV6 f] (cD (tq f)):=by
 intro w hw;refine Hf func257 O hw<|λhGF=>Xp<|Bx 1 hGF O<|λb1=>Al 2 hGF zv211<|λb2=>aa<|Xp<|fI (0) (12*(0)) O O underlying283 sizeOf78 om om om O O<|ay 1 ((fe (f 0).1++fe (f 0).2).map U64) O O isAgg78 sizeOf78 sm (gR _ (f 0) 6 (0) _ om O (rfl)) O O<|fI (2) (12*(2)) O O underlying283 sizeOf78 om om om O O<|ay 1 ((fe (f 2).1++fe (f 2).2).map U64) O O isAgg78 sizeOf78 sm (gR _ (f 2) 6 (2) _ om O (rfl)) O O<|fI (4) (12*(4)) O O underlying283 sizeOf78 om om om O O<|ay 1 ((fe (f 4).1++fe (f 4).2).map U64) O O isAgg78 sizeOf78 sm (gR _ (f 4) 6 (4) _ om O (rfl)) O O<|eh lq O O O sm sm sm O O<|fI (1) (12*(1)) O O underlying283 sizeOf78 om om om O O<|ay 1 ((fe (f 1).1++fe (f 1).2).map U64) O O isAgg78 sizeOf78 sm (gR _ (f 1) 6 (1) _ om O (rfl)) O O<|fI (3) (12*(3)) O O underlying283 sizeOf78 om om om O O<|ay 1 ((fe (f 3).1++fe (f 3).2).map U64) O O isAgg78 sizeOf78 sm (gR _ (f 3) 6 (3) _ om O (rfl)) O O<|fI (5) (12*(5)) O O underlying283 sizeOf78 om om om O O<|ay 1 ((fe (f 5).1++fe (f 5).2).map U64) O O isAgg78 sizeOf78 sm (gR _ (f 5) 6 (5) _ om O (rfl)) O O<|eh lq O O O sm sm sm O O<|cr u7 O O sm sm O O<|Sa 2 hGF O O O gY<|aa<|am<|Rr<|?_;exact av 2 O O O isAgg211 sizeOf211 sm (λw hw=>⟨rfl,ac hw⟩)
theorem rZ(x:W12)(w:World)(hw:Gt w):CLS 256 [cD x].toArray w (λe w'=> ∃b1,e=.returned (.func (.func 272) #[] #[pnt b1])/\Grow w w'/\w.heap.size<=b1/\OwnB w' b1 ((((fe (x.1.1).1++fe (x.1.1).2)++((fe (x.1.2.1).1++fe (x.1.2.1).2)++(fe (x.1.2.2).1++fe (x.1.2.2).2)))++((fe (x.2.1).1++fe (x.2.1).2)++((fe (x.2.2.1).1++fe (x.2.2.1).2)++(fe (x.2.2.2).1++fe (x.2.2.2).2)))).map U64) 211):=by
 refine Hf func256 O hw<|λhGF=>Xp<|Bx 1 hGF O<|λb1=>Asg O<|aa<|Xp<|go O O O O<|Asg O<|aa<|am<|Rr<|?_;exact aF O O (λw hw=>⟨b1,rfl,ac hw,(hw.own 1 b1 _ _ O).2.elim id False.elim,(hw.own 1 b1 _ _ O).1⟩)
def D4(x:W12):List (List Value):=(List.range 6).map λ(k:Nat)=>[I (k:Int),EV2 (p12 x k)]
theorem qF(x:W12):(D4 x).length=6:=by rw[D4,List.length_map,List.length_range]
theorem yj(x:W12)(k:Nat)(h:k<6):(D4 x)[k]? =some [I (k:Int),EV2 (p12 x k)]:=by
 rw[D4,List.getElem?_map,List.getElem?_range h];rfl
theorem Nt(x:W12)(k:Nat)(v:List Value)(h:(D4 x)[k]? =some v):k<6/\v=[I (k:Int),EV2 (p12 x k)]:=by
 have hk:k<6:=by
  rcases Nat.lt_or_ge k 6 with hk|hk
  ·exact hk
  ·rw[List.getElem?_eq_none (by rw[qF];exact hk)]at h;cases h
 exact ⟨hk,(Option.some.inj ((yj x k hk).symm.trans h)).symm⟩
def Pg(bb:Nat)(x:W12):Cls:=λw=>w.rangeAt bb 0 ((((fe (x.1.1).1++fe (x.1.1).2)++((fe (x.1.2.1).1++fe (x.1.2.1).2)++(fe (x.1.2.2).1++fe (x.1.2.2).2)))++((fe (x.2.1).1++fe (x.2.1).2)++((fe (x.2.2.1).1++fe (x.2.2.1).2)++(fe (x.2.2.2).1++fe (x.2.2.2).2)))).map U64)
theorem Sr(bb:Nat)(x:W12):fP prog Gt 272 [pnt bb] (D4 x) (Pg bb x):=by
 intro l J Jx hJ hJx hRd hGx hY w hj;have okJ: ∀k,BOk Gt (Bi w (λY=>J Y k)):=λk=>⟨λ_ _ _ h=>(hRd _ _ _ h.rid).1,hJ k⟩;have okX: ∀k,BOk Gt (Bi w (λY=>Jx Y k)):=λk=>⟨λ_ _ _ h=>hGx _ _ _ h.rid,hJx k⟩;have c1: ∀k L w',Hp (Bi w (λY=>J Y k)) L w'->Pg bb x w':=λk L w' h=>(hRd _ _ _ h.rid).2;refine cv (G:=Gt) func272 O O (Hp (Bi w (λY=>J Y 0)) []) (cj (Bi w _) hj (hJ 0)) (az (okJ 0))<|Xp<|da O isAgg211 sizeOf211 sm (λw h=>c1 _ _ w h) O O<|Ca O (NE _)<|Mv O<|aa<|ai<|gE (ι:={i:Nat // i<=6}) (λy=>[(0,.func (.yield l) #[] #[]),(1,pnt bb),(6,TV6 (p12 x)),(7,I (y.1:Int))]) (λy=>Bi w (λY=>J Y y.1)) (λy=>[]) (λy=>6-y.1) ⟨0,Nat.zero_le _⟩ (λ_=>okJ _) O trv trivial<|?_;rintro ⟨i,hi⟩;dsimp only;refine Xp<|Bnr O O (λ_=>aw _ _ _)<|aa<|ah<|?_;refine bD O (λhc=> ?_) (λhc=> ?_)
 ·have hi2:i<6:=by simp at hc;omega
  refine aq<|ah<|ai<|Xp<|Mv O<|B8 (FF (p12 x)) (i) O O underlying283 sizeOf78 isAgg78 om om (a5 _) O O<|Al 4 (okJ _) zv78<|λb4=>Asg O<|Sa 4 (okJ _) O O O aX<|aa<|Xp<|Mv O<|Mv O<|La 4 O O aX<|?_;refine dB (hY.b (k:=i) (yj x i om) w) (okJ _) (okX _) O O O O O ?_ ?_
  ·refine bp O (λ_=>a8 _) O O<|aa<|aD O<|aq<|Xq<|Bnr O O (λ_=>au _ _ _ oi)<|Mv O<|aa<|?_
   repeat (refine aO ?_)
   exact aC<|⟨rfl,⟨i+1,om⟩,_,by show 6-(i+1)<6-i;omega,rfl,trv,trivial⟩
  ·refine bp O (λ_=>a8 _) O O<|aa<|aT O<|am<|Rr<|?_
   repeat (first|refine dC ?_|refine cm ?_|refine dP O ?_|refine bJ ?_|refine bM ?_)
   exact du O (λw hw=>⟨⟨_,rfl⟩,.inr ⟨_,ca (hJx _) hw.rid⟩⟩)
 ·obtain rfl:i=6:=by simp at hc;omega
  refine aV ?_
  repeat (first|refine dC ?_|refine cm ?_|refine dP O ?_|refine bJ ?_|refine bM ?_)
  refine cP O (λw hw=>⟨⟨_,rfl⟩,.inl ?_⟩);have:=ca (hJ _) hw.rid;rw[qF];exact this
end Q6
end
def SXB:L8:=[25#8,4#8,211#8,191#8,2#8,187#8,6#8,103#8,194#8,49#8,190#8,180#8,32#8,44#8,13#8,31#8,15#8,214#8,3#8,253#8,60#8,189#8,95#8,79#8,123#8,36#8,67#8,215#8,132#8,186#8,185#8,196#8,246#8,126#8,165#8,61#8,99#8,231#8,129#8,61#8,141#8,7#8,117#8,237#8,146#8,35#8,95#8,184#8]
def SRn:Nat:=3850754370037169011952147076051364057158807420970682438676050522613628423219637725072182697113062777891589506424760
theorem Nf:SXB.length=48:=rfl
theorem Oa:BN SXB 48=SRn:=by decide+kernel
theorem T6:SRn<PP:=by decide+kernel
theorem S3:FV SXB=zp SRn:=by rw[FV,if_pos ⟨Nf,by rw[Oa];exact T6⟩,Oa]
def SR:Zp:=zp SRn
theorem GS:CNn+SRn=PP:=by decide+kernel
theorem SR_a: -(zp CNn)=SR:=tX (by rw[SR,<-gg,GS,mJ])
theorem SR_b: -SR=zp CNn:=tX (by rw[SR,<-gg,Nat.add_comm,GS,mJ])
theorem Y6:((SR,-SR):W2)=GA:=by rw[z7,SR_a,SR_b]
theorem ZP(n:Int):(n.tmod 12+12).tmod 12=(((n % 12).toNat:Nat):Int):=by
 have h:n.tmod 12=n % 12\/n.tmod 12=n % 12-12:=by
  rw[Int.tmod_eq_emod];split
  ·left;omega
  ·right;rfl
 have e:(n.tmod 12+12).tmod 12=(n.tmod 12+12) % 12:=by rw[Int.tmod_eq_emod_of_nonneg om]
 rw[e];omega
theorem GI(n:Int):inI (n.tmod 12+12):=by
 have h:n.tmod 12=n % 12\/n.tmod 12=n % 12-12:=by
  rw[Int.tmod_eq_emod];split
  ·left;omega
  ·right;rfl
 unfold inI;omega
section
open Go.RowKit
namespace Q6
attribute [local simp] a6 bj aH aB aP aZ aQ aJ aM be bz a5 bv
attribute [local simp] rB cM
theorem vR(e:Option Addr)(cap:Nat)(w:World)(hw:Gt w)(hby:BytesAt w e SXB):
 CLS 74 [.slice e SXB.length cap].toArray w (λr w'=>r=.returned (.tuple #[EV SR,.bool (FO SXB)])/\Grow w w'):=by
 have h:=ef e cap SXB w hw hby;rw[S3]at h;exact h
theorem aac{m:Nat}(h:m % 2=1)(y:W2)(k:Nat):frq y m k=ml2 (cj2 y) (pw2 (GV m) k):=by rw[frq,cjn,if_pos h]
theorem XE{m:Nat}(h: ¬m % 2=1)(y:W2)(k:Nat):frq y m k=ml2 y (pw2 (GV m) k):=by rw[frq,cjn,if_neg h]
theorem GV_s(i:Nat):GV (i+1)=ml2 (cj2 (GV i)) ((SR,-SR):W2):=by rw[Y6];rfl
theorem H2(n:Nat)(hn:n<=1000):PUR 255 [I (n:Int)] (EV2 (GV n)):=by
 intro w hw;refine Hf func255 O hw<|λhGF=>ae (E:=EE [1000022])<|Al 2 hGF zv78<|λb2=>aa<|ae (E:=EE [1000022])<|d8 8 SXB hGF O O O dc dc underlying22 sizeOf5 zeroValue5 O O<|λb8=>mH 8 O hGF O O underlying22 underlying5 O O<|Cc O ent74 (λw' hC hG=>vR _ _ w' hG (BytesAt.range (hC.own 8 b8 _ _ O).1.range))<|Mv O<|Ext O O<|Ext O O<|Al 3 hGF zv52<|λb3=>Sa 3 hGF O O O bO<|Asg O<|aa<|fM (E:=EE [1000022,2999999]) [0,1,2,3] [⟨4,5,78,(fe 0++fe 0).map U64⟩] [5] cV O kr kr kr kr kr kr dc (by intro x hx;simp only[List.mem_cons,List.not_mem_nil,or_false]at hx;subst hx;exact bE O zv78 O)<|La 3 O O bO<|La 3 O O bO<|Ca O (ee _)<|cr f9 O O sm sm O O<|aa<|?_
 refine ⟨_,_,rfl,hGF,by intro x hx;simp only[List.mem_cons,List.not_mem_nil,or_false]at hx;subst hx;rfl,by intro x hx;simp only[List.mem_cons,List.not_mem_nil,or_false]at hx;subst hx;rfl,λadr=> ?_⟩
 refine Sa 5 hGF O O O aX<|aa<|ae (E:=EE [1000022])<|Ca O (sW)<|Al 6 hGF zv78<|λb6=>Sa 6 hGF O O O aX<|aa<|ah<|ae (E:=EE [1000022])<|Mv O<|Mv O<|aa<|ai<|bH (ι:={i:Nat // i<=n}) (λy=>[(0,I (n:Int)),(2,pnt b2),(3,pnt b3),(5,.pointer (some ⟨(adr 5),0,none⟩)),(6,pnt b6),(18,I (n:Int)),(19,I (y.1:Int))]) (λy=>[(2,b2,(fe 0++fe 0).map U64,78),(3,b3,(fe SR).map U64,52),(5,adr 5,(fe SR++fe (-SR)).map U64,78),(6,b6,(fe (GV y.1).1++fe (GV y.1).2).map U64,78)]) (λy=>n-y.1) ⟨0,Nat.zero_le _⟩ hGF trv trv<|?_;rintro ⟨i,hi⟩;dsimp only;refine ae (E:=EE [1000022])<|Bnr O O (λ_=>aw _ _ _)<|aa<|ah<|?_;refine bD O (λhc=> ?_) (λhc=> ?_)
 ·simp only[decide_eq_true_eq]at hc
  refine aq<|ah<|ai<|Xe [1000022]<|La 6 O O aX<|Ca O (nR _)<|La 5 O O aX<|Ca O (dM (cj2 (GV i)) ((SR,-SR):W2))<|Sa 6 hGF O O O aX<|aa<|bG (E:=EE [1000022])<|Bnr O O (λ_=>au _ _ _ oi)<|Mv O<|aa<|?_
  repeat (refine aO ?_)
  exact aC<|⟨rfl,⟨i+1,om⟩,_,by show n-(i+1)<n-i;omega,rfl,trv,⟨rfl,rfl,rfl,by rw[GV_s i];rfl,trivial⟩⟩
 ·obtain rfl:n=i:=by simp at hc;omega
  refine aV<|ae (E:=EE [1000022])<|La 6 O O aX<|Sa 2 hGF O O O aX<|aa<|am<|Rr<|?_;exact av 2 O O O isAgg78 sizeOf78 sm (λw hw=>⟨rfl,ac hw⟩)
theorem AR(x:W12)(n:Int):PUR 217 [cD x,I n] (cD (jT x (n % 12).toNat)):=by
 intro w hw;have hGF:BOk Gt (pl w):=gt_low.plain hw;obtain ⟨m,hm⟩: ∃m:Nat,(n % 12).toNat=m:=⟨_,rfl⟩;have hm6:m<12:=om;rw[hm,CE];refine cw (G:=Gt) func217 O O (Hp (pl w) []) (cj (pl w) trivial ao) (az hGF)<|ae (E:=EE [256])<|Bx 2 hGF O<|λb2=>i3 3 hGF O O O<|λb3=>Al 4 hGF zv211<|λb4=>aa<|ae (E:=EE [256])<|cS 3 O O O isAgg3 O O<|Bnr (v:=I (n.tmod 12)) O O (λ_=>cU _ _ _ dc)<|Bnr (v:=I (n.tmod 12+12)) O O (λ_=>au _ _ _ (GI n))<|Bnr (v:=I (m:Int)) O O (λ_=>(cU _ _ _ dc).trans (by rw[ZP,hm]))<|dY 3 hGF O O O sizeOf3 O (by show 0<1;decide) O<|aa<|ae (E:=EE [256])<|cS 3 O O O isAgg3 O O<|Ca O (H2 m om)<|Ca O (sW)<|Al 5 hGF zv78<|λb5=>Al 6 hGF zv78<|λb6=>Sa 5 hGF O O O aX<|Sa 6 hGF O O O aX<|aa<|ae (E:=EE [256])<|Al 7 hGF zv283<|λb7=>aa<|ah<|ae (E:=EE [256])<|La 2 O O gY<|?_
 refine dw O O ent256 O O (λw' hw'=>(rZ x w' (hGF.g _ _ _ hw')).mono λe' w'' h=> ?_);obtain ⟨c1,rfl,hg,h1,ho⟩:=h;refine ⟨_,_,rfl,az hGF,hw'.news ao hg [(33,c1,(((fe (x.1.1).1++fe (x.1.1).2)++((fe (x.1.2.1).1++fe (x.1.2.1).2)++(fe (x.1.2.2).1++fe (x.1.2.2).2)))++((fe (x.2.1).1++fe (x.2.1).2)++((fe (x.2.2.1).1++fe (x.2.2.1).2)++(fe (x.2.2.2).1++fe (x.2.2.2).2)))).map U64,211)] ?_ bS, ?_⟩
 ·intro n' b' c' t' hl
  rcases aK hl with ⟨_,e⟩|⟨_,hl⟩
  ·cases e;exact ⟨h1,ho⟩
  ·cases hl
 clear hw' hg h1 ho;refine aa<|ai<|?_;refine fq (λ_=>pl w) (λ_ _=>pl w) (λ_=>hGF) (λ_ _=>hGF) (λ_=>rfl) (λ_ _=>rfl) O O ent272 (Sr c1 x) (λv hv=>by obtain ⟨k,hk,rfl⟩:=List.mem_map.1 hv;rfl) O (λk=>[(2,b2,(((fe (x.1.1).1++fe (x.1.1).2)++((fe (x.1.2.1).1++fe (x.1.2.1).2)++(fe (x.1.2.2).1++fe (x.1.2.2).2)))++((fe (x.2.1).1++fe (x.2.1).2)++((fe (x.2.2.1).1++fe (x.2.2.1).2)++(fe (x.2.2.2).1++fe (x.2.2.2).2)))).map U64,211),(3,b3,[I (m:Int)],3),(4,b4,(((fe 0++fe 0)++((fe 0++fe 0)++(fe 0++fe 0)))++((fe 0++fe 0)++((fe 0++fe 0)++(fe 0++fe 0)))).map U64,211),(5,b5,(fe (GV m).1++fe (GV m).2).map U64,78),(6,b6,(fe (pw2 (GV m) k).1++fe (pw2 (GV m) k).2).map U64,78),(7,b7,(FM (FF (λj=>if j<k then frq (p12 x j) m j else ze2)) 6).map U64,283),(33,c1,(((fe (x.1.1).1++fe (x.1.1).2)++((fe (x.1.2.1).1++fe (x.1.2.1).2)++(fe (x.1.2.2).1++fe (x.1.2.2).2)))++((fe (x.2.1).1++fe (x.2.1).2)++((fe (x.2.2.1).1++fe (x.2.2.1).2)++(fe (x.2.2.2).1++fe (x.2.2.2).2)))).map U64,211)]) (λ_ _ _=>False) ⟨rfl,rfl,rfl,rfl,rfl,congrArg (λl=>some (b7,l,_)) (congrArg (List.map U64) (wy λj _=>(if_neg (Nat.not_lt_zero j)).symm)),rfl,trivial⟩ (λk _ w' h=>aI (n:=33) O w' h) ?_ ?_ (λ_ _ _ _ _ h=>h.elim)
 ·intro k v hx R hR
  obtain ⟨hk,rfl⟩:=Nt x k v hx;refine ae (E:=EE [256])<|Asg O<|aa<|bG (E:=EE [256])<|dS 9 (hR (pl w) O hGF).1 zv78 O O<|λb9=>aA 9 (hR (pl w) O hGF).1 O O O sizeOf78 sm sm (bc _) O<|aa<|?_;refine ⟨rfl,_,rfl, ?_⟩;refine ai<|ah<|ae (E:=EE [256])<|cS 3 O O O isAgg3 O O<|Bnr (v:=I ((m % 2:Nat):Int)) O O (λ_=>cU _ _ _ dc)<|Bnr O O (λ_=>dR _ _ _)<|aa<|?_;refine bD O (λhc=> ?_) (λhc=> ?_)
  ·have hp:m % 2=1:=by simp at hc;omega
   refine bG (E:=EE [256])<|La 9 O O aX<|Ca O (nR _)<|aA 9 (hR (pl w) O hGF).2.1 O O O sizeOf78 sm sm (bc _) O<|aa<|ae (E:=EE [256])<|Mv O<|La 9 O O aX<|La 6 O O aX<|Ca O (dM _ _)<|fI (k) (12*(k)) O O underlying283 sizeOf78 om om om O O<|lH 7 ((FM (FF (λj=>if j<k+1 then frq (p12 x j) m j else ze2)) 6).map U64) (hR (pl w) O hGF).2.1 O O O sizeOf78 sm (bc _) (by simp;omega) (um _ _ (ml2 (cj2 (p12 x k)) (pw2 (GV m) k)) 6 (k) _ om O (λj _=>by rw[<-aac hp];exact zG (λj=>frq (p12 x j) m j) (λ_=>ze2) k j)) O<|aa<|bG (E:=EE [256])<|La 6 O O aX<|La 5 O O aX<|Ca O (dM _ _)<|aA 6 (hR (pl w) O hGF).2.1 O O O sizeOf78 sm sm (bc _) O<|aa<|?_
   repeat (refine aO ?_)
   exact ⟨_,rfl,trv⟩
  ·have hp: ¬m % 2=1:=by simp at hc;omega
   refine aq<|ae (E:=EE [256])<|Mv O<|La 9 O O aX<|La 6 O O aX<|Ca O (dM _ _)<|fI (k) (12*(k)) O O underlying283 sizeOf78 om om om O O<|lH 7 ((FM (FF (λj=>if j<k+1 then frq (p12 x j) m j else ze2)) 6).map U64) (hR (pl w) O hGF).2.1 O O O sizeOf78 sm (bc _) (by simp;omega) (um _ _ (ml2 (p12 x k) (pw2 (GV m) k)) 6 (k) _ om O (λj _=>by rw[<-XE hp];exact zG (λj=>frq (p12 x j) m j) (λ_=>ze2) k j)) O<|aa<|bG (E:=EE [256])<|La 6 O O aX<|La 5 O O aX<|Ca O (dM _ _)<|aA 6 (hR (pl w) O hGF).2.1 O O O sizeOf78 sm sm (bc _) O<|aa<|?_
   repeat (refine aO ?_)
   exact ⟨_,rfl,trv⟩
 ·intro D hD
  rw[qF];refine ae (E:=EE [256])<|La 7 O O Oc<|Ca O (Z7 _)<|Sa 4 hD O O O gY<|aa<|am<|Rr<|?_;exact dX (.inl O) ao (av 4 O O O isAgg211 sizeOf211 sm (λw hw=>⟨e12 O O,ac hw⟩))
end Q6
end
section
open Go.RowKit
attribute [local simp] a6 bj aH aB aP aZ aQ aJ aM be bz a5 bv J1.bB J2.bB Q6.gc
theorem ent219:ak prog 219:=λ_ _=>kr
theorem ent216:ak prog 216:=λ_ _=>kr
theorem ent194:ak prog 194:=λ_ _=>kr
theorem ent193:ak prog 193:=λ_ _=>kr
theorem ent111:ak prog 111:=λ_ _=>kr
namespace Q6
def pwu(u:Nat)(x:W12):W12:=K12.pw x u
theorem Z4(x:W12):PUR 219 [cD x] (cD (pwu UG x)):=by
 intro w hw;have hGF:BOk Gt (pl w):=gt_low.plain hw;refine cw (G:=Gt) func219 O O (Hp (pl w) []) (cj (pl w) trivial ao) (az hGF)<|Xp<|Bx 1 hGF O<|λb1=>Al 2 hGF zv211<|λb2=>aa<|Xp<|La 1 O O gY<|Al 3 hGF zv211<|λb3=>Sa 3 hGF O O O gY<|aa<|ah<|Xp<|Ca O (Gl)<|aa<|ai<|?_;refine fq (λ_=>pl w) (λ_ _=>pl w) (λ_=>hGF) (λ_ _=>hGF) (λ_=>rfl) (λ_ _=>rfl) O O ent222 xI (λx hx=>by obtain ⟨k,hk,rfl⟩:=List.mem_map.1 hx;rfl) O (λk=>[(1,b1,sA x,211),(2,b2,(((fe 0++fe 0)++((fe 0++fe 0)++(fe 0++fe 0)))++((fe 0++fe 0)++((fe 0++fe 0)++(fe 0++fe 0)))).map U64,211),(3,b3,sA (pwD x k),211)]) (λ_ _ _=>False) ⟨rfl,rfl,by rw[show pwD x 0=x from K12.pw_one x];rfl,trivial⟩ (λ_ _ _ _=>trivial) ?_ ?_ (λ_ _ _ _ _ h=>h.elim)
 ·intro k v hx R hR
  obtain ⟨hk,rfl⟩:=Kj hx;refine Xq<|Asg O<|aa<|?_;refine ⟨rfl,_,rfl, ?_⟩;refine ai<|Xp<|La 3 O O gY<|Ca O (nS _)<|aA 3 (hR (pl w) O hGF).2.1 O O O sizeOf211 sm sm (bc _) O<|aa<|Xp<|Mv O<|aa<|?_;refine bD O (λhc=> ?_) (λhc=> ?_)
  ·have hd:DGb k=true:=by simpa using hc
   refine Xq<|La 3 O O gY<|La 1 O O gY<|Ca O (EC _ _)<|aA 3 (hR (pl w) O hGF).2.1 O O O sizeOf211 sm sm (bc _) O<|aa<|?_
   repeat (first|refine aO ?_|refine cm ?_)
   exact ⟨_,rfl,⟨rfl,rfl,by first|(rw[<-Oj x hk hd];rfl)|(rw[<-Px x hk hd];rfl),trivial⟩⟩
  ·have hd:DGb k=false:=by simpa using hc
   refine aq ?_
   repeat (first|refine aO ?_|refine cm ?_)
   exact ⟨_,rfl,⟨rfl,rfl,by first|(rw[<-Oj x hk hd];rfl)|(rw[<-Px x hk hd];rfl),trivial⟩⟩
 ·intro D hD
  rw[pJ];refine Xp<|La 3 O O gY<|Sa 2 hD O O O gY<|aa<|am<|Rr<|?_;exact dX (.inl O) ao (av 2 O O O isAgg211 sizeOf211 sm (λw hw=>⟨by rw[pwu,<-SZ],ac hw⟩))
abbrev HF(f:W12->W12):Prop:= ∀x,PUR 219 [cD x] (cD (f x))
def agI(m:Nat):Ag Unit where
 of:=λv=>match v with
  | .inr (.inr (.inl (.int .i64 (.ofNat n))))=>bif Nat.beq n m then some ()else none
  |_=>none
 dn:=λ_=>I (m:Int)
 ok:=λv x r h=>by
  split at h
  ·rename_i n
   obtain ⟨h1,h⟩:=fA h;show Value.int .i64 (Int.ofNat n)=I (m:Int);rw[Nat.eq_of_beq_eq_true h1];rfl
  ·cases h
theorem Ry(x:W12):PUR 217 [cD x,I 1] (cD (cz x)):=AR x 1
theorem Ts(x:W12):PUR 217 [cD x,I 2] (cD (cz (cz x))):=AR x 2
theorem wfr{f:Nat}{g:W12->W12}(m:Nat)(en:ak prog f)(h: ∀a,PUR f [cD a,I (m:Int)] (cD (g a))):Snd prog Gt f (c2 q12.ag (agI m) q12.rd (λa _=>g a)):=gD q12.ag (agI m) q12.rd en (λa _=>bV (l2 (V12 _).symm O) (V12 _).symm (h a))
def XO{f:W12->W12}(hf:HF f):Tb prog Gt:=TO224.add (eo (g:=f) ent219 hf)
def Xo{f:W12->W12}(hf:HF f):Tb prog Gt:=(XO hf).add (wfr (g:=cz) 1 ent217 Ry)
def Pw{f:W12->W12}(hf:HF f):Tb prog Gt:=(Xo hf).add (wfr (g:=λx=>cz (cz x)) 2 ent217 Ts)
theorem Rn{α β:Type}(p:α×β):(p.1,p.2)=p:=by cases p;rfl
def pva(f:W12->W12)(x:W12):W12:=K12.mul (f x) x
def pez(x:W12):W12:=fi2 (fi1 x)
def ph1(f:W12->W12)(x:W12):W12:=K12.mul (cz x) (db (f x))
def ph2(f:W12->W12)(x:W12):W12:=K12.mul (K12.mul (f (f x)) (cz (cz x))) (db x)
def phd(f:W12->W12)(x:W12):W12:=K12.mul (K12.mul (ph2 f (ph1 f (pva f (pva f x)))) (K12.mul x x)) x
theorem Uo{p6:Nat}(h6: ∀x,db x=K12.pw x p6)(x:W12)(u:Nat):db (K12.pw x u)=K12.pw (db x) u:=by rw[h6,h6,<-K12.pw_mul,<-K12.pw_mul,Nat.mul_comm]
theorem Pv(x:W12)(u:Nat):db (K12.pw x u)=K12.pw (db x) u:=Uo (λx=>(SH x).symm) x u
theorem Kh(u:Nat)(x:W12):fi3 u x=db (pva (pwu u) x):=by rw[fi3,tnd,<-wU,pva,pwu]
theorem Rk(u:Nat)(x:W12):pva (pwu u) (db x)=db (pva (pwu u) x):=by rw[pva,pva,pwu,pwu,<-Pv,<-wU]
theorem ZD(u:Nat)(x:W12):pva (pwu u) (pva (pwu u) x)=fi3 u (fi3 u x):=by rw[Kh,Kh,Rk,vD]
theorem Ta(u:Nat)(x:W12):ph1 (pwu u) x=fi4 u x:=by rw[ph1,fi4,tnd,pwu];exact K12.mul_comm _ _
theorem Tm(u:Nat)(x:W12):ph2 (pwu u) x=fi5 u x:=by rw[ph2,fi5,tnd,tnd,<-Pv,vD,pwu,pwu]
theorem TC(u:Nat)(x:W12):phd (pwu u) x=fi6 u x:=by
 rw[phd,ZD,Ta,Tm];show K12.mul (K12.mul _ (K12.mul _ _)) _=K12.mul (K12.mul (K12.mul _ _) _) _;rw[<-K12.mul_assoc]
theorem Qq(u:Nat)(x:W12):AF u x=phd (pwu u) (pez x):=by rw[AF,TC,pez]
def iR(f:W12->W12)(x:W12):W12:=
 let t0:=f x
 let t1:=K12.mul (((t0.1.1.1,t0.1.1.2),(t0.1.2.1.1,t0.1.2.1.2),(t0.1.2.2.1,t0.1.2.2.2)),((t0.2.1.1,t0.2.1.2),(t0.2.2.1.1,t0.2.2.1.2),(t0.2.2.2.1,t0.2.2.2.2))) x
 t1
theorem FD(f:W12->W12)(x:W12):iR f x=pva f x:=by
 unfold iR;simp only[Rn];rfl
theorem Xi{f:W12->W12}(hf:HF f)(x:W12):PUR 216 [cD x] (cD (iR f x)):=(bV (l1 (V12 _)) (V12 _) (pE (Pw hf) func216 [.inl [x.1.1.1,x.1.1.2,x.1.2.1.1,x.1.2.1.2,x.1.2.2.1,x.1.2.2.2,x.2.1.1,x.2.1.2,x.2.2.1.1,x.2.2.1.2,x.2.2.2.1,x.2.2.2.2]] (.inl (.inl [(iR f x).1.1.1,(iR f x).1.1.2,(iR f x).1.2.1.1,(iR f x).1.2.1.2,(iR f x).1.2.2.1,(iR f x).1.2.2.2,(iR f x).2.1.1,(iR f x).2.1.2,(iR f x).2.2.1.1,(iR f x).2.2.1.2,(iR f x).2.2.2.1,(iR f x).2.2.2.2])) (let t0:=f x;let t1:=K12.mul (((t0.1.1.1,t0.1.1.2),(t0.1.2.1.1,t0.1.2.1.2),(t0.1.2.2.1,t0.1.2.2.2)),((t0.2.1.1,t0.2.1.2),(t0.2.2.1.1,t0.2.2.1.2),(t0.2.2.2.1,t0.2.2.2.2))) x;(.inl (.inl [t1.1.1.1,t1.1.1.2,t1.1.2.1.1,t1.1.2.1.2,t1.1.2.2.1,t1.1.2.2.2,t1.2.1.1,t1.2.1.2,t1.2.2.1.1,t1.2.2.1.2,t1.2.2.2.1,t1.2.2.2.2]),[])) [] kr aE kr))
theorem ppva{f:W12->W12}(hf:HF f)(x:W12):PUR 216 [cD x] (cD (pva f x)):=by rw[<-FD];exact Xi hf x
def N7{f:W12->W12}(hf:HF f):Tb prog Gt:=(Pw hf).add (eo (g:=pva f) ent216 (ppva hf))
def iP(x:W12):W12:=
 let t0:=db x
 let t1:=tY x
 let t2:=K12.mul (((t0.1.1.1,t0.1.1.2),(t0.1.2.1.1,t0.1.2.1.2),(t0.1.2.2.1,t0.1.2.2.2)),((t0.2.1.1,t0.2.1.2),(t0.2.2.1.1,t0.2.2.1.2),(t0.2.2.2.1,t0.2.2.2.2))) (((t1.1.1.1,t1.1.1.2),(t1.1.2.1.1,t1.1.2.1.2),(t1.1.2.2.1,t1.1.2.2.2)),((t1.2.1.1,t1.2.1.2),(t1.2.2.1.1,t1.2.2.1.2),(t1.2.2.2.1,t1.2.2.2.2)))
 let t3:=cz (cz (((t2.1.1.1,t2.1.1.2),(t2.1.2.1.1,t2.1.2.1.2),(t2.1.2.2.1,t2.1.2.2.2)),((t2.2.1.1,t2.2.1.2),(t2.2.2.1.1,t2.2.2.1.2),(t2.2.2.2.1,t2.2.2.2.2))))
 let t4:=K12.mul (((t3.1.1.1,t3.1.1.2),(t3.1.2.1.1,t3.1.2.1.2),(t3.1.2.2.1,t3.1.2.2.2)),((t3.2.1.1,t3.2.1.2),(t3.2.2.1.1,t3.2.2.1.2),(t3.2.2.2.1,t3.2.2.2.2))) (((t2.1.1.1,t2.1.1.2),(t2.1.2.1.1,t2.1.2.1.2),(t2.1.2.2.1,t2.1.2.2.2)),((t2.2.1.1,t2.2.1.2),(t2.2.2.1.1,t2.2.2.1.2),(t2.2.2.2.1,t2.2.2.2.2)))
 t4
theorem Hu(x:W12):iP x=pez x:=by
 unfold iP;simp only[Rn];rfl
theorem Wy{f:W12->W12}(hf:HF f)(x:W12):PUR 194 [cD x] (cD (iP x)):=(bV (l1 (V12 _)) (V12 _) (pE (N7 hf) func194 [.inl [x.1.1.1,x.1.1.2,x.1.2.1.1,x.1.2.1.2,x.1.2.2.1,x.1.2.2.2,x.2.1.1,x.2.1.2,x.2.2.1.1,x.2.2.1.2,x.2.2.2.1,x.2.2.2.2]] (.inl (.inl [(iP x).1.1.1,(iP x).1.1.2,(iP x).1.2.1.1,(iP x).1.2.1.2,(iP x).1.2.2.1,(iP x).1.2.2.2,(iP x).2.1.1,(iP x).2.1.2,(iP x).2.2.1.1,(iP x).2.2.1.2,(iP x).2.2.2.1,(iP x).2.2.2.2])) (let t0:=db x;let t1:=tY x;let t2:=K12.mul (((t0.1.1.1,t0.1.1.2),(t0.1.2.1.1,t0.1.2.1.2),(t0.1.2.2.1,t0.1.2.2.2)),((t0.2.1.1,t0.2.1.2),(t0.2.2.1.1,t0.2.2.1.2),(t0.2.2.2.1,t0.2.2.2.2))) (((t1.1.1.1,t1.1.1.2),(t1.1.2.1.1,t1.1.2.1.2),(t1.1.2.2.1,t1.1.2.2.2)),((t1.2.1.1,t1.2.1.2),(t1.2.2.1.1,t1.2.2.1.2),(t1.2.2.2.1,t1.2.2.2.2)));let t3:=cz (cz (((t2.1.1.1,t2.1.1.2),(t2.1.2.1.1,t2.1.2.1.2),(t2.1.2.2.1,t2.1.2.2.2)),((t2.2.1.1,t2.2.1.2),(t2.2.2.1.1,t2.2.2.1.2),(t2.2.2.2.1,t2.2.2.2.2))));let t4:=K12.mul (((t3.1.1.1,t3.1.1.2),(t3.1.2.1.1,t3.1.2.1.2),(t3.1.2.2.1,t3.1.2.2.2)),((t3.2.1.1,t3.2.1.2),(t3.2.2.1.1,t3.2.2.1.2),(t3.2.2.2.1,t3.2.2.2.2))) (((t2.1.1.1,t2.1.1.2),(t2.1.2.1.1,t2.1.2.1.2),(t2.1.2.2.1,t2.1.2.2.2)),((t2.2.1.1,t2.2.1.2),(t2.2.2.1.1,t2.2.2.1.2),(t2.2.2.2.1,t2.2.2.2.2)));(.inl (.inl [t4.1.1.1,t4.1.1.2,t4.1.2.1.1,t4.1.2.1.2,t4.1.2.2.1,t4.1.2.2.2,t4.2.1.1,t4.2.1.2,t4.2.2.1.1,t4.2.2.1.2,t4.2.2.2.1,t4.2.2.2.2]),[])) [] kr aE kr))
theorem ppez{f:W12->W12}(hf:HF f)(x:W12):PUR 194 [cD x] (cD (pez x)):=by rw[<-Hu];exact Wy hf x
def OH{f:W12->W12}(hf:HF f):Tb prog Gt:=(N7 hf).add (eo (g:=pez) ent194 (ppez hf))
def iS(f:W12->W12)(x:W12):W12:=
 let t0:=pva f x
 let t1:=pva f (((t0.1.1.1,t0.1.1.2),(t0.1.2.1.1,t0.1.2.1.2),(t0.1.2.2.1,t0.1.2.2.2)),((t0.2.1.1,t0.2.1.2),(t0.2.2.1.1,t0.2.2.1.2),(t0.2.2.2.1,t0.2.2.2.2)))
 let t2:=cz (((t1.1.1.1,t1.1.1.2),(t1.1.2.1.1,t1.1.2.1.2),(t1.1.2.2.1,t1.1.2.2.2)),((t1.2.1.1,t1.2.1.2),(t1.2.2.1.1,t1.2.2.1.2),(t1.2.2.2.1,t1.2.2.2.2)))
 let t3:=f (((t1.1.1.1,t1.1.1.2),(t1.1.2.1.1,t1.1.2.1.2),(t1.1.2.2.1,t1.1.2.2.2)),((t1.2.1.1,t1.2.1.2),(t1.2.2.1.1,t1.2.2.1.2),(t1.2.2.2.1,t1.2.2.2.2)))
 let t4:=db (((t3.1.1.1,t3.1.1.2),(t3.1.2.1.1,t3.1.2.1.2),(t3.1.2.2.1,t3.1.2.2.2)),((t3.2.1.1,t3.2.1.2),(t3.2.2.1.1,t3.2.2.1.2),(t3.2.2.2.1,t3.2.2.2.2)))
 let t5:=K12.mul (((t2.1.1.1,t2.1.1.2),(t2.1.2.1.1,t2.1.2.1.2),(t2.1.2.2.1,t2.1.2.2.2)),((t2.2.1.1,t2.2.1.2),(t2.2.2.1.1,t2.2.2.1.2),(t2.2.2.2.1,t2.2.2.2.2))) (((t4.1.1.1,t4.1.1.2),(t4.1.2.1.1,t4.1.2.1.2),(t4.1.2.2.1,t4.1.2.2.2)),((t4.2.1.1,t4.2.1.2),(t4.2.2.1.1,t4.2.2.1.2),(t4.2.2.2.1,t4.2.2.2.2)))
 let t6:=f (((t5.1.1.1,t5.1.1.2),(t5.1.2.1.1,t5.1.2.1.2),(t5.1.2.2.1,t5.1.2.2.2)),((t5.2.1.1,t5.2.1.2),(t5.2.2.1.1,t5.2.2.1.2),(t5.2.2.2.1,t5.2.2.2.2)))
 let t7:=f (((t6.1.1.1,t6.1.1.2),(t6.1.2.1.1,t6.1.2.1.2),(t6.1.2.2.1,t6.1.2.2.2)),((t6.2.1.1,t6.2.1.2),(t6.2.2.1.1,t6.2.2.1.2),(t6.2.2.2.1,t6.2.2.2.2)))
 let t8:=cz (cz (((t5.1.1.1,t5.1.1.2),(t5.1.2.1.1,t5.1.2.1.2),(t5.1.2.2.1,t5.1.2.2.2)),((t5.2.1.1,t5.2.1.2),(t5.2.2.1.1,t5.2.2.1.2),(t5.2.2.2.1,t5.2.2.2.2))))
 let t9:=K12.mul (((t7.1.1.1,t7.1.1.2),(t7.1.2.1.1,t7.1.2.1.2),(t7.1.2.2.1,t7.1.2.2.2)),((t7.2.1.1,t7.2.1.2),(t7.2.2.1.1,t7.2.2.1.2),(t7.2.2.2.1,t7.2.2.2.2))) (((t8.1.1.1,t8.1.1.2),(t8.1.2.1.1,t8.1.2.1.2),(t8.1.2.2.1,t8.1.2.2.2)),((t8.2.1.1,t8.2.1.2),(t8.2.2.1.1,t8.2.2.1.2),(t8.2.2.2.1,t8.2.2.2.2)))
 let t10:=db (((t5.1.1.1,t5.1.1.2),(t5.1.2.1.1,t5.1.2.1.2),(t5.1.2.2.1,t5.1.2.2.2)),((t5.2.1.1,t5.2.1.2),(t5.2.2.1.1,t5.2.2.1.2),(t5.2.2.2.1,t5.2.2.2.2)))
 let t11:=K12.mul (((t9.1.1.1,t9.1.1.2),(t9.1.2.1.1,t9.1.2.1.2),(t9.1.2.2.1,t9.1.2.2.2)),((t9.2.1.1,t9.2.1.2),(t9.2.2.1.1,t9.2.2.1.2),(t9.2.2.2.1,t9.2.2.2.2))) (((t10.1.1.1,t10.1.1.2),(t10.1.2.1.1,t10.1.2.1.2),(t10.1.2.2.1,t10.1.2.2.2)),((t10.2.1.1,t10.2.1.2),(t10.2.2.1.1,t10.2.2.1.2),(t10.2.2.2.1,t10.2.2.2.2)))
 let t12:=K12.mul x x
 let t13:=K12.mul (((t11.1.1.1,t11.1.1.2),(t11.1.2.1.1,t11.1.2.1.2),(t11.1.2.2.1,t11.1.2.2.2)),((t11.2.1.1,t11.2.1.2),(t11.2.2.1.1,t11.2.2.1.2),(t11.2.2.2.1,t11.2.2.2.2))) (((t12.1.1.1,t12.1.1.2),(t12.1.2.1.1,t12.1.2.1.2),(t12.1.2.2.1,t12.1.2.2.2)),((t12.2.1.1,t12.2.1.2),(t12.2.2.1.1,t12.2.2.1.2),(t12.2.2.2.1,t12.2.2.2.2)))
 let t14:=K12.mul (((t13.1.1.1,t13.1.1.2),(t13.1.2.1.1,t13.1.2.1.2),(t13.1.2.2.1,t13.1.2.2.2)),((t13.2.1.1,t13.2.1.2),(t13.2.2.1.1,t13.2.2.1.2),(t13.2.2.2.1,t13.2.2.2.2))) x
 t14
theorem Ix(f:W12->W12)(x:W12):iS f x=phd f x:=by
 unfold iS;simp only[Rn];rfl
theorem Xc{f:W12->W12}(hf:HF f)(x:W12):PUR 193 [cD x] (cD (iS f x)):=(bV (l1 (V12 _)) (V12 _) (pE (OH hf) func193 [.inl [x.1.1.1,x.1.1.2,x.1.2.1.1,x.1.2.1.2,x.1.2.2.1,x.1.2.2.2,x.2.1.1,x.2.1.2,x.2.2.1.1,x.2.2.1.2,x.2.2.2.1,x.2.2.2.2]] (.inl (.inl [(iS f x).1.1.1,(iS f x).1.1.2,(iS f x).1.2.1.1,(iS f x).1.2.1.2,(iS f x).1.2.2.1,(iS f x).1.2.2.2,(iS f x).2.1.1,(iS f x).2.1.2,(iS f x).2.2.1.1,(iS f x).2.2.1.2,(iS f x).2.2.2.1,(iS f x).2.2.2.2])) (let t0:=pva f x;let t1:=pva f (((t0.1.1.1,t0.1.1.2),(t0.1.2.1.1,t0.1.2.1.2),(t0.1.2.2.1,t0.1.2.2.2)),((t0.2.1.1,t0.2.1.2),(t0.2.2.1.1,t0.2.2.1.2),(t0.2.2.2.1,t0.2.2.2.2)));let t2:=cz (((t1.1.1.1,t1.1.1.2),(t1.1.2.1.1,t1.1.2.1.2),(t1.1.2.2.1,t1.1.2.2.2)),((t1.2.1.1,t1.2.1.2),(t1.2.2.1.1,t1.2.2.1.2),(t1.2.2.2.1,t1.2.2.2.2)));let t3:=f (((t1.1.1.1,t1.1.1.2),(t1.1.2.1.1,t1.1.2.1.2),(t1.1.2.2.1,t1.1.2.2.2)),((t1.2.1.1,t1.2.1.2),(t1.2.2.1.1,t1.2.2.1.2),(t1.2.2.2.1,t1.2.2.2.2)));let t4:=db (((t3.1.1.1,t3.1.1.2),(t3.1.2.1.1,t3.1.2.1.2),(t3.1.2.2.1,t3.1.2.2.2)),((t3.2.1.1,t3.2.1.2),(t3.2.2.1.1,t3.2.2.1.2),(t3.2.2.2.1,t3.2.2.2.2)));let t5:=K12.mul (((t2.1.1.1,t2.1.1.2),(t2.1.2.1.1,t2.1.2.1.2),(t2.1.2.2.1,t2.1.2.2.2)),((t2.2.1.1,t2.2.1.2),(t2.2.2.1.1,t2.2.2.1.2),(t2.2.2.2.1,t2.2.2.2.2))) (((t4.1.1.1,t4.1.1.2),(t4.1.2.1.1,t4.1.2.1.2),(t4.1.2.2.1,t4.1.2.2.2)),((t4.2.1.1,t4.2.1.2),(t4.2.2.1.1,t4.2.2.1.2),(t4.2.2.2.1,t4.2.2.2.2)));let t6:=f (((t5.1.1.1,t5.1.1.2),(t5.1.2.1.1,t5.1.2.1.2),(t5.1.2.2.1,t5.1.2.2.2)),((t5.2.1.1,t5.2.1.2),(t5.2.2.1.1,t5.2.2.1.2),(t5.2.2.2.1,t5.2.2.2.2)));let t7:=f (((t6.1.1.1,t6.1.1.2),(t6.1.2.1.1,t6.1.2.1.2),(t6.1.2.2.1,t6.1.2.2.2)),((t6.2.1.1,t6.2.1.2),(t6.2.2.1.1,t6.2.2.1.2),(t6.2.2.2.1,t6.2.2.2.2)));let t8:=cz (cz (((t5.1.1.1,t5.1.1.2),(t5.1.2.1.1,t5.1.2.1.2),(t5.1.2.2.1,t5.1.2.2.2)),((t5.2.1.1,t5.2.1.2),(t5.2.2.1.1,t5.2.2.1.2),(t5.2.2.2.1,t5.2.2.2.2))));let t9:=K12.mul (((t7.1.1.1,t7.1.1.2),(t7.1.2.1.1,t7.1.2.1.2),(t7.1.2.2.1,t7.1.2.2.2)),((t7.2.1.1,t7.2.1.2),(t7.2.2.1.1,t7.2.2.1.2),(t7.2.2.2.1,t7.2.2.2.2))) (((t8.1.1.1,t8.1.1.2),(t8.1.2.1.1,t8.1.2.1.2),(t8.1.2.2.1,t8.1.2.2.2)),((t8.2.1.1,t8.2.1.2),(t8.2.2.1.1,t8.2.2.1.2),(t8.2.2.2.1,t8.2.2.2.2)));let t10:=db (((t5.1.1.1,t5.1.1.2),(t5.1.2.1.1,t5.1.2.1.2),(t5.1.2.2.1,t5.1.2.2.2)),((t5.2.1.1,t5.2.1.2),(t5.2.2.1.1,t5.2.2.1.2),(t5.2.2.2.1,t5.2.2.2.2)));let t11:=K12.mul (((t9.1.1.1,t9.1.1.2),(t9.1.2.1.1,t9.1.2.1.2),(t9.1.2.2.1,t9.1.2.2.2)),((t9.2.1.1,t9.2.1.2),(t9.2.2.1.1,t9.2.2.1.2),(t9.2.2.2.1,t9.2.2.2.2))) (((t10.1.1.1,t10.1.1.2),(t10.1.2.1.1,t10.1.2.1.2),(t10.1.2.2.1,t10.1.2.2.2)),((t10.2.1.1,t10.2.1.2),(t10.2.2.1.1,t10.2.2.1.2),(t10.2.2.2.1,t10.2.2.2.2)));let t12:=K12.mul x x;let t13:=K12.mul (((t11.1.1.1,t11.1.1.2),(t11.1.2.1.1,t11.1.2.1.2),(t11.1.2.2.1,t11.1.2.2.2)),((t11.2.1.1,t11.2.1.2),(t11.2.2.1.1,t11.2.2.1.2),(t11.2.2.2.1,t11.2.2.2.2))) (((t12.1.1.1,t12.1.1.2),(t12.1.2.1.1,t12.1.2.1.2),(t12.1.2.2.1,t12.1.2.2.2)),((t12.2.1.1,t12.2.1.2),(t12.2.2.1.1,t12.2.2.1.2),(t12.2.2.2.1,t12.2.2.2.2)));let t14:=K12.mul (((t13.1.1.1,t13.1.1.2),(t13.1.2.1.1,t13.1.2.1.2),(t13.1.2.2.1,t13.1.2.2.2)),((t13.2.1.1,t13.2.1.2),(t13.2.2.1.1,t13.2.2.1.2),(t13.2.2.2.1,t13.2.2.2.2))) x;(.inl (.inl [t14.1.1.1,t14.1.1.2,t14.1.2.1.1,t14.1.2.1.2,t14.1.2.2.1,t14.1.2.2.2,t14.2.1.1,t14.2.1.2,t14.2.2.1.1,t14.2.2.1.2,t14.2.2.2.1,t14.2.2.2.2]),[])) [] kr aE kr))
theorem pphd{f:W12->W12}(hf:HF f)(x:W12):PUR 193 [cD x] (cD (phd f x)):=by rw[<-Ix];exact Xc hf x
def ZR{f:W12->W12}(hf:HF f):Tb prog Gt:=(OH hf).add (eo (g:=phd f) ent193 (pphd hf))
theorem MS{f:W12->W12}(hf:HF f)(x:W12):PUR 162 [cD x] (cD (phd f (pez x))):=(bV (l1 (V12 _)) (V12 _) (pE (ZR hf) func162 [.inl [x.1.1.1,x.1.1.2,x.1.2.1.1,x.1.2.1.2,x.1.2.2.1,x.1.2.2.2,x.2.1.1,x.2.1.2,x.2.2.1.1,x.2.2.1.2,x.2.2.2.1,x.2.2.2.2]] (.inl (.inl [(phd f (pez x)).1.1.1,(phd f (pez x)).1.1.2,(phd f (pez x)).1.2.1.1,(phd f (pez x)).1.2.1.2,(phd f (pez x)).1.2.2.1,(phd f (pez x)).1.2.2.2,(phd f (pez x)).2.1.1,(phd f (pez x)).2.1.2,(phd f (pez x)).2.2.1.1,(phd f (pez x)).2.2.1.2,(phd f (pez x)).2.2.2.1,(phd f (pez x)).2.2.2.2])) (let t0:=pez x;let t1:=phd f (((t0.1.1.1,t0.1.1.2),(t0.1.2.1.1,t0.1.2.1.2),(t0.1.2.2.1,t0.1.2.2.2)),((t0.2.1.1,t0.2.1.2),(t0.2.2.1.1,t0.2.2.1.2),(t0.2.2.2.1,t0.2.2.2.2)));(.inl (.inl [t1.1.1.1,t1.1.1.2,t1.1.2.1.1,t1.1.2.1.2,t1.1.2.2.1,t1.1.2.2.2,t1.2.1.1,t1.2.1.2,t1.2.2.1.1,t1.2.2.1.2,t1.2.2.2.1,t1.2.2.2.2]),[])) [] kr aE kr))
theorem Su(x:W12):PUR 162 [cD x] (cD (AF UG x)):=by rw[Qq];exact MS Z4 x
end Q6
end
section
open Go.RowKit
attribute [local simp] a6 bj aH aB aP aZ aQ aJ aM be bz a5 bv J1.bB J2.bB Q6.gc
namespace Q6
theorem LD(l c:Nat)(x:Option Addr)(a:W12)(w:World)(hw:Gt w)(hL: ∀w',Gt w'->Grow w w'->CLS 163 [.slice x l c].toArray w' (λy w''=>y=.returned (cD a)/\Grow w' w'')):CLS 111 [.slice x l c].toArray w (λr w'=>r=.returned (.bool (decide (AF UG a=K12.one)))/\Grow w w'):=by
 refine Hf func111 O hw<|λhGF=>Xp<|Asg O<|aa<|Xp<|Mv O<|Cc O ent163 (λw' hC hG=>hL w' hG (ac hC))<|Ca O (Su a)<|Ca O (uW)<|Ca O (rQ _ _)<|Asg O<|aa<|am<|Rr<|?_;exact aF O O (λw hw=>⟨rfl,ac hw⟩)
theorem kd{w w':World}{b:Nat}{cs:List Value}(h:w.rangeAt b 0 cs)(hg:Grow w w'):w'.rangeAt b 0 cs:=λj v hv=>(hg.cell (block_lt_of_cell (h j v hv))).trans (h j v hv)
end Q6
end
end Go.Proofs.YtjookodjbjabbaaGreatDoor
