/- L4 -/
import Derived.Test.YtfgacclgjklgnaaGreatDoorL3
set_option maxRecDepth 100000
set_option maxHeartbeats 1000000
namespace Go.Proofs.YtfgacclgjklgnaaGreatDoor
open Go.Proofs.Tryz
open Go.RowKit
attribute [local simp] a5 be aE aB aP aY aM aJ aH PLl cB cz N1l cD cC cE ba bj aZ a9 bd J1.bk J2.bk
def GV:Nat->W2
 |0=>on2
 |n+1=>ml2 (cj2 (GV n)) GA
theorem Qo:cj2 on2=on2:=by decide+kernel
theorem G1(y:W2): ∀k,cj2 (pw2 y k)=pw2 (cj2 y) k
 |0=>Qo
 |k+1=>by rw[ov,fN,G1 y k,ov]
theorem yO(a b:W2)(k:Nat):ml2 (pw2 a k) (pw2 b k)=pw2 (ml2 a b) k:=(R2.mul_pw a b k).symm
def frq(c:W2)(n k:Nat):W2:=ml2 (cjn n c) (pw2 (GV n) k)
theorem sp(c:W2)(n k:Nat):ml2 (cj2 (frq c n k)) (pw2 GA k)=frq c (n+1) k:=by
 rw[frq,fN,UB,xk,G1,yO];rfl
theorem sX(c:W2)(k:Nat):frq c 0 k=c:=by
 have e:pw2 (GV 0) k=on2:=R2.one_pw k;rw[frq,e];exact R2.mul_one c
theorem BC(x:W12): ∀n,jS x n=((frq x.1.1 n 0,frq x.1.2.1 n 2,frq x.1.2.2 n 4),(frq x.2.1 n 1,frq x.2.2.1 n 3,frq x.2.2.2 n 5))
 |0=>by rw[sX,sX,sX,sX,sX,sX];rfl
 |n+1=>by
  rw[jS,BC x n];exact Prod.ext (Prod.ext (sp _ _ _) (Prod.ext (sp _ _ _) (sp _ _ _))) (Prod.ext (sp _ _ _) (Prod.ext (sp _ _ _) (sp _ _ _)))
def sxh:Nat:=(sx-1) / 2
def CNn:Nat:=151655185184498381465642749684540099398075398968325446656007613510403227271200139370504932015952886146304766135027
theorem A7:2*sxh+1=sx:=by decide+kernel
theorem I1:4*(sxh / 4)+3=sxh:=by decide+kernel
theorem Pe(c:Zp):pw2 (0,c) sxh=(0,-(c^sxh)):=by
 have h:=Xo c (sxh / 4);rw[I1]at h;exact h
theorem Ry:pm 2 PP (64*6) sxh+CNn=PP:=by decide+kernel
theorem P6: -(zp 2^sxh)=zp CNn:=tQ (by
 rw[Ff 2 sxh (64*6) (IE fk (by have:=sx_val;have:=A7;have:=nV;omega)),<-fQ,Ry,m9])
theorem xp:GA=(-(zp CNn),zp CNn):=by
 have e:pw2 XI sx=ml2 (pw2 (pw2 XI 2) sxh) XI:=by rw[<-zT,<-A7];rfl
 rw[GA,e,Xl,Pe,P6];generalize zp CNn=a;refine bz ?_ ?_
 ·show 0*1-a*1= -a
  rw[rW,rW,YE]
 ·show 0*1+a*1=a
  rw[rW,rW,SH]
theorem At(x:W12): ∀n,K12.pw x (PP^n)=jS x n
 |0=>by rw[Nat.pow_zero,K12.pw_one];rfl
 |n+1=>by rw[Nat.pow_succ,K12.pw_mul,At x n,fo];rfl
theorem y1(x:W12):K12.pw x (PP^6)=ci x:=(At x 6).trans (jF x)
theorem Pp(x:W12):K12.pw x (PP^2)=bU (bU x):=At x 2
theorem U7(x:W12):K12.pw x (PP^12)=x:=(At x 12).trans (n7 x)
theorem Fp{x:W12}(h:x≠K12.zero){n:Nat}(e:K12.pw x (n+1)=x):K12.pw x n=K12.one:=by
 have k:K12.mul (K12.mul (K12.pw x n) x) (i8 x)=K12.mul x (i8 x):=congrArg (λy=>K12.mul y (i8 x)) e;rw[K12.mul_assoc,ni h,K12.mul_one]at k;exact k
theorem sZ{x:W12}{m n:Nat}(h:K12.pw x m=K12.one)(hd:n % m=0):K12.pw x n=K12.one:=by
 have e:n=m*(n / m):=by have:=Nat.div_add_mod n m;omega
 rw[e,K12.pw_mul,h,K12.one_pw]
theorem Ym:PP^12-1+1=PP^12:=by decide+kernel
theorem YT:PP^12-2+1=PP^12-1:=by decide+kernel
theorem N6_s:PP^6-1+1=PP^6:=by decide+kernel
theorem AJ{x:W12}(h:x≠K12.zero):K12.pw x (PP^12-1)=K12.one:=Fp h (by rw[Ym];exact U7 x)
theorem Th{x:W12}(h:x≠K12.zero){n m:Nat}(hm:n+1=m)(e:K12.pw x m=K12.one):i8 x=K12.pw x n:=by
 subst hm;exact K12.inv_one (ni h) ((K12.mul_comm _ _).trans e)
theorem UX{x:W12}(h:x≠K12.zero):i8 x=K12.pw x (PP^12-2):=Th h YT (AJ h)
theorem UD{z:W6}(h:z≠K6.zero):K12.pw (r6 z) (PP^6-1)=K12.one:=
 Fp (λe=>h (Gk e)) (by rw[N6_s,y1];exact Prod.ext O K6.neg_zero)
def tnd(u:Nat)(x:W12):W12:=ci (K12.pw x u)
def fi1(x:W12):W12:=K12.mul (ci x) (i8 x)
def fi2(x:W12):W12:=K12.mul (bU (bU x)) x
def fi3(u:Nat)(x:W12):W12:=K12.mul (tnd u x) (ci x)
def fi4(u:Nat)(x:W12):W12:=K12.mul (tnd u x) (bU x)
def fi5(u:Nat)(x:W12):W12:=K12.mul (K12.mul (tnd u (tnd u x)) (bU (bU x))) (ci x)
def fi6(u:Nat)(x:W12):W12:=K12.mul (K12.mul (K12.mul (fi5 u (fi4 u (fi3 u (fi3 u x)))) x) x) x
def s4(u:Nat)(x:W12):W12:=fi6 u (fi2 (fi1 x))
def FEu(u p1 p2 p6 n:Nat):Nat:=(p6+n)*((p2+1)*((((u*p6+p6)*(u*p6+p6))*(u*p6+p1))*((u*p6)*(u*p6)+p2+p6)+1+1+1))
def FE:Nat:=FEu UG PP (PP^2) (PP^6) (PP^12-2)
section
variable {u p2 p6 n:Nat} (h2: ∀x,bU (bU x)=K12.pw x p2) (h6: ∀x,ci x=K12.pw x p6)
theorem XO(x:W12)(m:Nat):K12.mul (K12.pw x m) x=K12.pw x (m+1):=rfl
theorem tJ(h6: ∀x,ci x=K12.pw x p6)(x:W12):tnd u x=K12.pw x (u*p6):=by rw[tnd,h6,<-K12.pw_mul]
theorem R5(h6: ∀x,ci x=K12.pw x p6){x:W12}(h:i8 x=K12.pw x n):fi1 x=K12.pw x (p6+n):=by rw[fi1,h6,h,<-K12.pw_add]
theorem Tu(h2: ∀x,bU (bU x)=K12.pw x p2)(x:W12):fi2 x=K12.pw x (p2+1):=by rw[fi2,h2,XO]
theorem EB(h6: ∀x,ci x=K12.pw x p6)(x:W12):fi3 u x=K12.pw x (u*p6+p6):=by rw[fi3,tJ h6,h6,<-K12.pw_add]
theorem Pd{p1:Nat}(h1: ∀x,bU x=K12.pw x p1)(h6: ∀x,ci x=K12.pw x p6)(x:W12):fi4 u x=K12.pw x (u*p6+p1):=by rw[fi4,tJ h6,h1,<-K12.pw_add]
theorem Sj(h2: ∀x,bU (bU x)=K12.pw x p2)(h6: ∀x,ci x=K12.pw x p6)(x:W12):fi5 u x=K12.pw x ((u*p6)*(u*p6)+p2+p6):=by
 rw[fi5,tJ h6 (tnd u x),tJ h6 x,<-K12.pw_mul,h2,h6,<-K12.pw_add,<-K12.pw_add]
theorem S3{p1:Nat}(h1: ∀x,bU x=K12.pw x p1)(h2: ∀x,bU (bU x)=K12.pw x p2)(h6: ∀x,ci x=K12.pw x p6)(x:W12):fi6 u x=K12.pw x ((((u*p6+p6)*(u*p6+p6))*(u*p6+p1))*((u*p6)*(u*p6)+p2+p6)+1+1+1):=by
 rw[fi6,EB h6 x,EB h6,<-K12.pw_mul,Pd h1 h6,<-K12.pw_mul,Sj h2 h6,<-K12.pw_mul];rfl
theorem KI{p1:Nat}(h1: ∀x,bU x=K12.pw x p1)(h2: ∀x,bU (bU x)=K12.pw x p2)(h6: ∀x,ci x=K12.pw x p6){x:W12}(h:i8 x=K12.pw x n):s4 u x=K12.pw x (FEu u p1 p2 p6 n):=by
 rw[s4,S3 h1 h2 h6,Tu h2,R5 h6 h,<-K12.pw_mul,<-K12.pw_mul];rfl
end
theorem ph{n:Nat}(h:n-1+1=n):K12.pw K12.zero n=K12.zero:=by rw[<-h];exact K12.zero_pw _
theorem Pn(x:W12):i8 x=K12.pw x (PP^12-2):=by
 by_cases h:x=K12.zero
 ·rw[h,JM]
  exact (ph (by decide+kernel)).symm
 ·exact UX h
theorem DC(x:W12):s4 UG x=K12.pw x FE:=KI (λx=>(fo x).symm) (λx=>(Pp x).symm) (λx=>(y1 x).symm) (Pn x)
theorem JP:FE*ORD % (PP^12-1)=0:=by decide+kernel
theorem Ks:FE % (PP^6-1)=0:=by decide+kernel
theorem yg:FE-1+1=FE:=by decide+kernel
theorem UP_r:(UG+PP) % ORD=0:=by decide+kernel
def FN(e:Nat)(x:W12):W12:=K12.pw x e
section
variable {e:Nat}
theorem qG(x y:W12):FN e (K12.mul x y)=K12.mul (FN e x) (FN e y):=K12.mul_pw x y e
theorem mo:FN e K12.one=K12.one:=K12.one_pw e
theorem z6(h6:e % (PP^6-1)=0){z:W6}(h:z≠K6.zero):FN e (r6 z)=K12.one:=sZ (UD h) h6
theorem TV(hr:e*ORD % (PP^12-1)=0){x:W12}(h:x≠K12.zero):K12.pw (FN e x) ORD=K12.one:=by
 rw[FN,<-K12.pw_mul];exact sZ (AJ h) hr
theorem Y2(x:W12):FN e (bU x)=K12.pw (FN e x) PP:=by
 rw[FN,FN,<-fo,<-K12.pw_mul,Nat.mul_comm,K12.pw_mul]
theorem Ea:r6 K6.one=K12.one:=rfl
theorem Sn(h6:e % (PP^6-1)=0)(x:W12):FN e (K12.neg x)=FN e x:=by
 have k:K12.neg x=K12.mul (r6 (K6.neg K6.one)) x:=by
  rw[<-Fg,Ea,K12.neg_mul,K12.one_mul]
 rw[k,qG,z6 h6 (by decide+kernel),K12.one_mul]
end
theorem Ql{i t y:W2}(hi:ml2 t i=on2)(k:ml2 y y=ml2 (ml2 t t) XI):False:=by
 have hh:ml2 i t=on2:=(R2.mul_comm i t).trans hi;have a1:ml2 (ml2 i y) (ml2 i y)=ml2 (ml2 i i) (ml2 y y):=R2.mul_four i y i y;have a2:ml2 (ml2 i i) (ml2 t t)=ml2 (ml2 i t) (ml2 i t):=R2.mul_four i i t t;have a3:ml2 (ml2 i i) (ml2 (ml2 t t) XI)=ml2 (ml2 (ml2 i i) (ml2 t t)) XI:=(R2.mul_assoc _ _ _).symm;have a4:ml2 (ml2 on2 on2) XI=XI:=(congrArg (λq=>ml2 q XI) (R2.one_mul on2)).trans (R2.one_mul XI);exact Oz (ml2 i y) (a1.trans (by rw[k,a3,a2,hh,a4]))
theorem xi4:((zp 4,zp 4):W2)=ml2 (ml2 (zp 2,0) (zp 2,0)) XI:=by decide+kernel
theorem Kt:((zp 2,0):W2)≠ze2:=by decide+kernel
theorem Ws{s:W2×W2}(h:E2w.on s):s.1≠ze2:=λe=>by
 have k:ml2 s.2 s.2=ad2 (ml2 s.1 (ml2 s.1 s.1)) (zp 4,zp 4):=h;rw[e,DY]at k;have k2:ml2 s.2 s.2=(zp 4,zp 4):=k.trans (R2.zero_add _);exact Ql (cQ Kt) (k2.trans xi4)
theorem TZ{s:W2×W2}(h:E2w.on s)(c:W2):((ng2 s.1,c,ze2):W6)≠K6.zero:=λe=>Ws h (by
 have k:ng2 s.1=ze2:=congrArg Prod.fst e;rw[<-R2.neg_neg s.1];exact (congrArg ng2 k).trans R2.neg_zero)
theorem Io(s:W2×W2)(q:Zp×Zp):E12.sub (HB.m q).1 (HE.m s).1=r6 (ng2 s.1,re2 q.1,ze2):=by
 have e:(HB.m q).1=r6 (ze2,re2 q.1,ze2):=KH (re2 q.1);rw[e,xf];show K12.add (r6 (ze2,re2 q.1,ze2)) (K12.neg (r6 (s.1,ze2,ze2)))=_;rw[Fg,P7];exact congrArg r6 (Prod.ext (R2.zero_add _) (Prod.ext (by show ad2 (re2 q.1) (ng2 ze2)=re2 q.1;exact (congrArg (ad2 (re2 q.1)) R2.neg_zero).trans (R2.add_zero _)) (R2.add_neg ze2)))
def Sp2(A:Pt W12):Prop:= ∃S:Pt W2,E2w.onP S/\A=HE.p S
def Sp1(A:Pt W12):Prop:= ∃S:Pt Zp,E1.onP S/\A=HB.p S
theorem FZ{e:Nat}(h6:e % (PP^6-1)=0):E12.Fz (FN e) Sp2 Sp1 where
 mul:=qG
 one:=mo
 neg:=Sn h6
 aon:=λ{_} h=>by obtain ⟨S,hS,rfl⟩:=h;exact HE.p_on hS
 aad:=λ{_ _} h k=>by
  obtain ⟨S,hS,rfl⟩:=h;obtain ⟨T,hT,rfl⟩:=k;exact ⟨_,E2w.ad_on hS hT,(HE.p_ad hS hT).symm⟩
 ane:=λ{_} h=>by obtain ⟨S,hS,rfl⟩:=h;exact ⟨_,E2w.ne_on hS,(HE.p_ne S).symm⟩
 pon:=λ{_} h=>by obtain ⟨S,hS,rfl⟩:=h;exact HB.p_on hS
 pad:=λ{_ _} h k=>by
  obtain ⟨S,hS,rfl⟩:=h;obtain ⟨T,hT,rfl⟩:=k;exact ⟨_,E1.ad_on hS hT,(HB.p_ad hS hT).symm⟩
 pne:=λ{_} h=>by obtain ⟨S,hS,rfl⟩:=h;exact ⟨_,E1.ne_on hS,(HB.p_ne S).symm⟩
 van:=λ{a p} h k=>by
  obtain ⟨S,hS,u⟩:=h;obtain ⟨T,hT,f⟩:=k
  cases S with
  |none=>cases u
  |some s=>
   cases T with
   |none=>cases f
   |some q=>
    have u:a=HE.m s:=Option.some.inj u;have f:p=HB.m q:=Option.some.inj f;subst u f;rw[Io];exact z6 h6 (TZ hS _)
section
variable {α β:Type} {C:Ec α} {D:Ec β} (T:Hw C D)
theorem Hw.ln(a p:α×α)(s:α):D.ln (T.m a) (D.R.mul T.w (T.f s)) (T.m p)=D.R.mul (D.R.mul T.w (D.R.mul T.w T.w)) (T.f (C.ln a s p)):=by
 unfold Ec.ln;rw[T.fs,T.fs,T.fm,T.fs];exact zx D.R [T.w,T.f a.1,T.f a.2,T.f s,T.f p.1,T.f p.2] 0x44556566b355656683556945566a355667 0x55656644b383594a37
theorem Hw.gl [DecidableEq α] [DecidableEq β]{A B P:Pt α}(hA:C.onP A)(hB:C.onP B){F:β->β}(hF: ∀a b,F (D.R.mul a b)=D.R.mul (F a) (F b))(hw:F (D.R.mul T.w (D.R.mul T.w T.w))=D.R.one):F (D.gl (T.p A) (T.p B) (T.p P))=F (T.f (C.gl A B P)):=by
 cases A with
 |none=>rw[C.gl_l,T.f1];rfl
 |some a=>
  cases B with
  |none=>rw[C.gl_m,T.f1];rfl
  |some b=>
   cases P with
   |none=>rw[C.gl_r,T.f1];rfl
   |some p=>
    by_cases ho:C.opp a b
    ·rw[C.gl_opp ho,T.f1]
     exact congrArg F (D.gl_opp (T.opp.2 ho) _)
    ·have hs:=C.sl_slope hA hB ho
     rw[C.gl_sl hA hB ho hs];refine (congrArg F (D.gl_sl (T.m_on hA) (T.m_on hB) (λh=>ho (T.opp.1 h)) (T.sl hs) (T.m p))).trans ?_;rw[T.ln,hF,hw,D.R.one_mul]
theorem Rg.last{α:Type}(R:Rg α){a b k c h k':α}(x:R.mul (R.mul a b) k=R.mul c h)(y:R.mul k' k=R.one)(z:R.mul h k'=R.one):R.mul a b=c:=
 zl R [a,b,k,c,h,k'] 0x567 0x445b59a535672592 0x9 0x445b55678535675b8595ab (lca (lca (lcm x) (lcm y)) (lcm z))
end
theorem DE(x:W12):bU (K12.neg x)=K12.neg (bU x):=by
 have e:K12.add (bU x) (bU (K12.neg x))=K12.zero:=by
  rw[<-wT,K12.add_neg,<-fo];exact ph (by decide+kernel)
 exact K12.neg_of e
theorem sG:bU K12.zero=K12.zero:=by rw[<-fo];exact ph (by decide+kernel)
theorem Dg{x:W12}(h:bU x=K12.zero):x=K12.zero:=by
 have e:=n7 x;rw[show 12=1+11 from O,rl,show jS x 1=bU x from O,h]at e;rw[<-e];have k: ∀n,jS K12.zero n=K12.zero:=λn=>by
  induction n with
  |zero=>rfl
  |succ n ih=>rw[jS,ih,sG]
 exact k 11
theorem wc(c:W2):bU (em c)=em (cj2 c):=by rw[<-fo,wp,Ey]
theorem XN:ml2 (ml2 (ml2 PW (ml2 PW PW)) (ml2 PW (ml2 PW PW))) (cj2 (zp 4,zp 4))=(zp 4,zp 4):=by decide+kernel
theorem Y7:ml2 PW GA=on2:=by rw[xp];decide+kernel
def TW12:Tw E12 where
 f:=bU
 w:=em PW
 fa:=wT
 fm:=iw
 fn:=DE
 f0:=sG
 fi:=λ_ h=>Dg h
 wn:=by decide+kernel
 wb:=by
  show K12.mul (K12.mul (K12.mul (em PW) (K12.mul (em PW) (em PW))) (K12.mul (em PW) (K12.mul (em PW) (em PW)))) (bU (em (zp 4,zp 4)))=em (zp 4,zp 4);rw[wc,eh,eh,eh,eh,XN]
theorem sC(S:Pt W2):TW12.p (HE.p S)=HE.p (TW2.p S):=by
 cases S with
 |none=>rfl
 |some s=>
  refine congrArg some ?_;show TW12.m (HE.m s)=HE.m (TW2.m s);rw[xf,xf];refine Prod.ext ?_ ?_
  ·show K12.mul (K12.mul (em PW) (em PW)) (bU (em s.1))=em (ml2 (ml2 PW PW) (cj2 s.1))
   rw[wc,eh,eh]
  ·show K12.mul (K12.mul (em PW) (K12.mul (em PW) (em PW))) (bU (em s.2))=em (ml2 (ml2 PW (ml2 PW PW)) (cj2 s.2))
   rw[wc,eh,eh,eh]
theorem WW_1:WW=wk 1:=wk1.symm
theorem XR:K12.mul (em PW) (bU WW)=WW:=by
 rw[<-fo,WW_1,Oy,<-K12.mul_assoc,eh,Y7];exact K12.one_mul _
theorem D6(a:Zp):cj2 (re2 a)=re2 a:=bz O (by show-(0:Zp)=0;exact z_n0')
theorem zH(S:Pt Zp):TW12.p (HB.p S)=HB.p S:=by
 cases S with
 |none=>rfl
 |some q=>
  refine congrArg some ?_;have h:=XR;refine Prod.ext ?_ ?_
  ·show K12.mul (K12.mul (em PW) (em PW)) (bU (K12.mul (K12.mul WW WW) (em (re2 q.1))))=K12.mul (K12.mul WW WW) (em (re2 q.1))
   rw[iw,iw,wc,D6,<-K12.mul_assoc,K12.mul_four,h]
  ·show K12.mul (K12.mul (em PW) (K12.mul (em PW) (em PW))) (bU (K12.mul (K12.mul WW (K12.mul WW WW)) (em (re2 q.2))))=K12.mul (K12.mul WW (K12.mul WW WW)) (em (re2 q.2))
   rw[iw,iw,iw,wc,D6,<-K12.mul_assoc,K12.mul_four (em PW) (K12.mul (em PW) (em PW)),K12.mul_four (em PW) (em PW) (bU WW) (bU WW),h]
def MLv(l:List Bool)(P:Pt Zp)(Q:Pt W2):W12:=(E12.mil (HE.p Q) (HB.p P) l (K12.one,HE.p Q)).1
section
variable {e:Nat} (h6:e % (PP^6-1)=0) (hr:e*ORD % (PP^12-1)=0) (he:e-1+1=e)
theorem FN_0(he:e-1+1=e):FN e K12.zero=K12.zero:=ph he
theorem NC(he:e-1+1=e){x y:W12}(h:K12.mul (FN e x) y=K12.one):x≠K12.zero:=λz=>by
 rw[z,FN_0 he,K12.zero_mul]at h;exact xX h.symm
theorem tm1{α:Type} [DecidableEq α](C:Ec α)(Q:Pt α):C.times Q 1=Q:=rfl
theorem SY{Q:Pt W2}(hQ:E2w.onP Q)(h:E2w.ne (E2w.times Q UG)=TW2.p Q):E12.times (HE.p Q) UG=E12.ne (TW12.p (HE.p Q)):=by
 rw[<-HE.p_times hQ,sC,<-h,HE.p_ne,E12.ne_ne]
theorem VM(h6:e % (PP^6-1)=0):FN e (E12.R.mul TW12.w (E12.R.mul TW12.w TW12.w))=E12.R.one:=by
 have k:E12.R.mul TW12.w (E12.R.mul TW12.w TW12.w)=r6 (ml2 PW (ml2 PW PW),ze2,ze2):=by
  show K12.mul (em PW) (K12.mul (em PW) (em PW))=_;rw[eh,eh];rfl
 rw[k];exact z6 h6 (by decide+kernel)
theorem MD(h6:e % (PP^6-1)=0){A B P:Pt W12}(hA:E12.onP A)(hB:E12.onP B):FN e (E12.gl (TW12.p A) (TW12.p B) (TW12.p P))=K12.pw (FN e (E12.gl A B P)) PP:=
 (TW12.gl hA hB (F:=FN e) qG (VM h6)).trans (Y2 _)
theorem Mw{x:W12}(h:K12.pw x ORD=K12.one):K12.mul (K12.pw x UG) (K12.pw x PP)=K12.one:=by
 rw[<-K12.pw_add];exact sZ h UP_r
theorem XB(h6:e % (PP^6-1)=0)(hr:e*ORD % (PP^12-1)=0)(he:e-1+1=e){l:List Bool}(hl:ca l 1=UG){P P':Pt Zp}(hP:E1.onP P)(hP':E1.onP P'){Q:Pt W2}(hQ:E2w.onP Q)(hu:E2w.ne (E2w.times Q UG)=TW2.p Q):
 K12.mul (FN e (MLv l P Q)) (FN e (MLv l P' Q))=FN e (MLv l (E1.ad P P') Q):=by
 have Z:=FZ h6;have sQ:Sp2 (HE.p Q):=⟨Q,hQ,rfl⟩;have s0:Sp2 none:=⟨none,True.intro,rfl⟩;have sP:Sp1 (HB.p P):=⟨P,hP,rfl⟩;have sP':Sp1 (HB.p P'):=⟨P',hP',rfl⟩;have sT:Sp2 (TW12.p (HE.p Q)):=⟨TW2.p Q,TW2.p_on hQ,sC Q⟩;have k:=Z.lin1 sQ s0 sP sP' l (K12.one,HE.p Q) (K12.one,HE.p Q) (K12.one,HE.p Q) 1 O O O (by rw[tm1,mo];show K12.mul (K12.mul K12.one K12.one) _=K12.mul K12.one (K12.pw _ 1);rw[K12.pw_one,K12.one_mul,K12.one_mul])
 rw[hl,SY hQ hu,<-HB.p_ad hP hP']at k;have i:=Z.swap.inv sP sP' sT;have t:=MD h6 (P:=HE.p Q) (HB.p_on hP) (HB.p_on hP');rw[zH,zH]at t;have z:=Z.swap.inv sP sP' sQ;have o:=Mw (TV hr (NC he z));rw[<-t]at o;exact K12.last k i o
theorem ML_2(h6:e % (PP^6-1)=0)(hr:e*ORD % (PP^12-1)=0)(he:e-1+1=e){l:List Bool}(hl:ca l 1=UG){P:Pt Zp}(hP:E1.onP P){Q Q':Pt W2}(hQ:E2w.onP Q)(hQ':E2w.onP Q')(hu:E2w.ne (E2w.times Q UG)=TW2.p Q)(hu':E2w.ne (E2w.times Q' UG)=TW2.p Q'):
 K12.mul (FN e (MLv l P Q)) (FN e (MLv l P Q'))=FN e (MLv l P (E2w.ad Q Q')):=by
 have Z:=FZ h6;have sQ:Sp2 (HE.p Q):=⟨Q,hQ,rfl⟩;have sQ':Sp2 (HE.p Q'):=⟨Q',hQ',rfl⟩;have s0:Sp2 none:=⟨none,True.intro,rfl⟩;have sP:Sp1 (HB.p P):=⟨P,hP,rfl⟩;have sT:Sp2 (TW12.p (HE.p Q)):=⟨TW2.p Q,TW2.p_on hQ,sC Q⟩;have sT':Sp2 (TW12.p (HE.p Q')):=⟨TW2.p Q',TW2.p_on hQ',sC Q'⟩;have k:=Z.lin2 sQ sQ' s0 sP l (K12.one,HE.p Q) (K12.one,HE.p Q') (K12.one,E12.ad (HE.p Q) (HE.p Q')) 1 O O O (by rw[tm1,tm1,mo];show K12.mul (K12.mul K12.one K12.one) _=K12.mul K12.one (K12.pw _ 1);rw[K12.pw_one,K12.one_mul,K12.one_mul])
 rw[hl,SY hQ hu,SY hQ' hu',<-HE.p_ad hQ hQ',Z.opp sT sT']at k;have i:=Z.inv sT sT' sP;have t:=MD h6 (P:=HB.p P) (HE.p_on hQ) (HE.p_on hQ');rw[zH]at t;have z:=Z.inv sQ sQ' sP;have o:=Mw (TV hr (NC he z));rw[<-t]at o;exact K12.last k i o
theorem Mu{α:Type} [DecidableEq α](C:Ec α){Q P:Pt α}(h: ∀A B,C.gl A B P=C.R.one): ∀(l:List Bool) (st:α×Pt α),st.1=C.R.one->(C.mil Q P l st).1=C.R.one
 |[],_,e=>e
 |d::r,st,e=>by
  refine Mu C h r _ ?_
  cases d with
  |false=>show C.R.mul (C.R.mul st.1 st.1) (C.gl _ _ P)=C.R.one;rw[h,e,C.R.mul_one,C.R.mul_one]
  |true=>show C.R.mul (C.R.mul (C.R.mul st.1 st.1) (C.gl _ _ P)) (C.gl _ _ P)=C.R.one;rw[h,h,e,C.R.mul_one,C.R.mul_one,C.R.mul_one]
theorem Mz{α:Type} [DecidableEq α](C:Ec α){P:Pt α}: ∀(l:List Bool) (st:α×Pt α),st.1=C.R.one->st.2=none->(C.mil none P l st).1=C.R.one
 |[],_,e,_=>e
 |d::r,st,e,f=>by
  refine Mz C r _ ?_ ?_
  ·cases d with
   |false=>show C.R.mul (C.R.mul st.1 st.1) (C.gl st.2 st.2 P)=C.R.one;rw[f,C.gl_l,e,C.R.mul_one,C.R.mul_one]
   |true=>show C.R.mul (C.R.mul (C.R.mul st.1 st.1) (C.gl st.2 st.2 P)) (C.gl _ none P)=C.R.one;rw[f,C.gl_l,C.gl_m,e,C.R.mul_one,C.R.mul_one,C.R.mul_one]
  ·cases d with
   |false=>show C.ad st.2 st.2=none;rw[f];rfl
   |true=>show C.ad (C.ad st.2 st.2) none=none;rw[f];rfl
theorem Gd(l:List Bool)(Q:Pt W2):MLv l none Q=K12.one:=Mu E12 (λA B=>E12.gl_r A B) l _ O
theorem NP(l:List Bool)(P:Pt Zp):MLv l P none=K12.one:=Mz E12 l _ O O
theorem M3(h6:e % (PP^6-1)=0)(hr:e*ORD % (PP^12-1)=0)(he:e-1+1=e){l:List Bool}(hl:ca l 1=UG){P:Pt Zp}(hP:E1.onP P){Q:Pt W2}(hQ:E2w.onP Q)(hu:E2w.ne (E2w.times Q UG)=TW2.p Q): ∀k,FN e (MLv l (E1.times P k) Q)=K12.pw (FN e (MLv l P Q)) k
 |0=>by rw[show E1.times P 0=none from O,Gd];exact mo
 |k+1=>by
  have i:=M3 h6 hr he hl hP hQ hu k;rw[show E1.times P (k+1)=E1.ad (E1.times P k) P from O,<-XB h6 hr he hl (E1.times_on hP k) hP hQ hu,i];rfl
theorem tw_t{Q:Pt W2}(hQ:E2w.onP Q)(hu:E2w.ne (E2w.times Q UG)=TW2.p Q)(k:Nat):E2w.ne (E2w.times (E2w.times Q k) UG)=TW2.p (E2w.times Q k):=TW2.psi_out hQ hu k
theorem N5(h6:e % (PP^6-1)=0)(hr:e*ORD % (PP^12-1)=0)(he:e-1+1=e){l:List Bool}(hl:ca l 1=UG){P:Pt Zp}(hP:E1.onP P){Q:Pt W2}(hQ:E2w.onP Q)(hu:E2w.ne (E2w.times Q UG)=TW2.p Q): ∀k,FN e (MLv l P (E2w.times Q k))=K12.pw (FN e (MLv l P Q)) k
 |0=>by rw[show E2w.times Q 0=none from O,NP];exact mo
 |k+1=>by
  have i:=N5 h6 hr he hl hP hQ hu k;rw[show E2w.times Q (k+1)=E2w.ad (E2w.times Q k) Q from O,<-ML_2 h6 hr he hl hP (E2w.times_on hQ k) hQ (tw_t hQ hu k) hu,i];rfl
end
def LN(r:W2×W2)(s:W2)(q:Zp×Zp):W12:=((sb2 (ml2 s r.1) r.2,ng2 (ml2 s (re2 q.1)),ze2),(ze2,re2 q.2,ze2))
theorem HB_m(q:Zp×Zp):HB.m q=(r6 (ze2,re2 q.1,ze2),(K6.zero,(ze2,re2 q.2,ze2))):=Prod.ext (KH (re2 q.1)) (XS (re2 q.2))
theorem n0:ng2 ze2=ze2:=R2.neg_zero
theorem a0(x:W2):ad2 x ze2=x:=R2.add_zero x
theorem l0(x:W2):ad2 ze2 x=x:=R2.zero_add x
theorem SG(r:W2×W2)(s:W2)(q:Zp×Zp):E12.ln (HE.m r) (em s) (HB.m q)=LN r s q:=by
 have e1:E12.sub (HB.m q).1 (HE.m r).1=r6 (ng2 r.1,re2 q.1,ze2):=Io r q;have e2:K12.mul (em s) (r6 (ng2 r.1,re2 q.1,ze2))=r6 (ml2 (ng2 r.1) s,ml2 (re2 q.1) s,ze2):=by
  rw[K12.mul_comm,wq];exact congrArg r6 (Prod.ext O (Prod.ext O (DY s)))
 have e3:E12.sub (HB.m q).2 (HE.m r).2=((ng2 r.2,ze2,ze2),(ze2,re2 q.2,ze2)):=by
  rw[HB_m,xf];show K12.add (K6.zero,(ze2,re2 q.2,ze2)) (K12.neg (em r.2))=_;refine Prod.ext (Prod.ext ?_ (Prod.ext ?_ ?_)) (Prod.ext ?_ (Prod.ext ?_ ?_))
  ·exact l0 _
  ·show ad2 ze2 (ng2 ze2)=ze2;rw[n0];exact l0 _
  ·show ad2 ze2 (ng2 ze2)=ze2;rw[n0];exact l0 _
  ·show ad2 ze2 (ng2 ze2)=ze2;rw[n0];exact l0 _
  ·show ad2 (re2 q.2) (ng2 ze2)=re2 q.2;rw[n0];exact a0 _
  ·show ad2 ze2 (ng2 ze2)=ze2;rw[n0];exact l0 _
 unfold Ec.ln;rw[e1,e3];show K12.add ((ng2 r.2,ze2,ze2),(ze2,re2 q.2,ze2)) (K12.neg (K12.mul (em s) (r6 (ng2 r.1,re2 q.1,ze2))))=LN r s q;rw[e2];refine Prod.ext (Prod.ext ?_ (Prod.ext ?_ ?_)) (Prod.ext ?_ (Prod.ext ?_ ?_))
 ·show ad2 (ng2 r.2) (ng2 (ml2 (ng2 r.1) s))=sb2 (ml2 s r.1) r.2
  rw[k9];exact zx R2 [r.1,r.2,s] 0x43735368 0x458637
 ·show ad2 ze2 (ng2 (ml2 (re2 q.1) s))=ng2 (ml2 s (re2 q.1))
  rw[l0,show ml2 (re2 q.1) s=ml2 s (re2 q.1)from R2.mul_comm _ _]
 ·show ad2 ze2 (ng2 ze2)=ze2;rw[n0];exact l0 _
 ·show ad2 ze2 (ng2 ze2)=ze2;rw[n0];exact l0 _
 ·show ad2 (re2 q.2) (ng2 ze2)=re2 q.2;rw[n0];exact a0 _
 ·show ad2 ze2 (ng2 ze2)=ze2;rw[n0];exact l0 _
def LG(a b:Pt W2)(q:Zp×Zp):W12:=match a,b with
 |some a,some b=>if a.1=b.1/\ad2 a.2 b.2=ze2 then K12.one else LN a (E2w.slope a b) q
 |_,_=>K12.one
theorem Ii{a b:W2×W2}{s:W2}(ha:E2w.on a)(hb:E2w.on b)(ho: ¬E2w.opp a b)(hs:E2w.Sl a b s)(q:Zp×Zp):LG (some a) (some b) q=LN a s q:=by
 rw[<-E2w.sl_one (E2w.sl_slope ha hb ho) hs ho];exact if_neg ho
theorem LG_o{a b:W2×W2}(h:E2w.opp a b)(q:Zp×Zp):LG (some a) (some b) q=K12.one:=if_pos h
theorem MP{A B:Pt W2}(hA:E2w.onP A)(hB:E2w.onP B)(q:Zp×Zp):E12.gl (HE.p A) (HE.p B) (HB.p (some q))=LG A B q:=by
 cases A with
 |none=>rfl
 |some a=>
  cases B with
  |none=>rfl
  |some b=>
   by_cases ho:E2w.opp a b
   ·rw[LG_o ho]
    exact E12.gl_opp (HE.opp.2 ho) _
   ·have hs:=E2w.sl_slope hA hB ho
    rw[Ii hA hB ho hs];have h:=HE.sl hs;rw[show E12.R.mul HE.w (HE.f (E2w.slope a b))=em (E2w.slope a b)from K12.one_mul _]at h;refine (E12.gl_sl (HE.m_on hA) (HE.m_on hB) (λk=>ho (HE.opp.1 k)) h (HB.m q)).trans ?_;exact SG a (E2w.slope a b) q
def MSW(q:Zp×Zp)(Q:Pt W2)(d:Bool)(st:W12×Pt W2):W12×Pt W2:=
 if d then (K12.mul (K12.mul (K12.mul st.1 st.1) (LG st.2 st.2 q)) (LG (E2w.ad st.2 st.2) Q q),E2w.ad (E2w.ad st.2 st.2) Q)else (K12.mul (K12.mul st.1 st.1) (LG st.2 st.2 q),E2w.ad st.2 st.2)
def MLW(q:Zp×Zp)(Q:Pt W2):List Bool->W12×Pt W2->W12×Pt W2
 |[],st=>st
 |d::r,st=>MLW q Q r (MSW q Q d st)
theorem Hm(q:Zp×Zp){Q:Pt W2}(hQ:E2w.onP Q): ∀(l:List Bool) (f:W12) (R:Pt W2),E2w.onP R->E12.mil (HE.p Q) (HB.p (some q)) l (f,HE.p R)=((MLW q Q l (f,R)).1,HE.p (MLW q Q l (f,R)).2)
 |[],_,_,_=>rfl
 |d::r,f,R,hR=>by
  have h2:=E2w.ad_on hR hR;have g1:=MP hR hR q;have e2:E12.ad (HE.p R) (HE.p R)=HE.p (E2w.ad R R):=(HE.p_ad hR hR).symm
  cases d with
  |false=>
   show E12.mil (HE.p Q) (HB.p (some q)) r (K12.mul (K12.mul f f) (E12.gl (HE.p R) (HE.p R) (HB.p (some q))),E12.ad (HE.p R) (HE.p R))=((MLW q Q r (K12.mul (K12.mul f f) (LG R R q),E2w.ad R R)).1,HE.p (MLW q Q r (K12.mul (K12.mul f f) (LG R R q),E2w.ad R R)).2);rw[g1,e2];exact Hm q hQ r _ _ h2
  |true=>
   have g2:=MP h2 hQ q;have e3:E12.ad (HE.p (E2w.ad R R)) (HE.p Q)=HE.p (E2w.ad (E2w.ad R R) Q):=(HE.p_ad h2 hQ).symm;show E12.mil (HE.p Q) (HB.p (some q)) r (K12.mul (K12.mul (K12.mul f f) (E12.gl (HE.p R) (HE.p R) (HB.p (some q)))) (E12.gl (E12.ad (HE.p R) (HE.p R)) (HE.p Q) (HB.p (some q))),E12.ad (E12.ad (HE.p R) (HE.p R)) (HE.p Q))=((MLW q Q r (K12.mul (K12.mul (K12.mul f f) (LG R R q)) (LG (E2w.ad R R) Q q),E2w.ad (E2w.ad R R) Q)).1,HE.p (MLW q Q r (K12.mul (K12.mul (K12.mul f f) (LG R R q)) (LG (E2w.ad R R) Q q),E2w.ad (E2w.ad R R) Q)).2);rw[g1,e2,g2,e3];exact Hm q hQ r _ _ (E2w.ad_on h2 hQ)
theorem Zl(l:List Bool)(q:Zp×Zp){Q:Pt W2}(hQ:E2w.onP Q):MLv l (some q) Q=(MLW q Q l (K12.one,Q)).1:=congrArg Prod.fst (Hm q hQ l K12.one Q hQ)
section
set_option maxRecDepth 1000000
def CST(q:Zp×Zp)(Q:W2×W2)(e:Bool×W2×W2)(st:Bool×W12×(W2×W2)):Bool×W12×(W2×W2):=
 let s:=e.2.1
 let R:=st.2.2
 let c:=st.1 && decide (ml2 s (ad2 R.2 R.2)=ad2 (ad2 (ml2 R.1 R.1) (ml2 R.1 R.1)) (ml2 R.1 R.1)) && !decide (ad2 R.2 R.2=ze2)
 let f:=K12.mul (K12.mul st.2.1 st.2.1) (LN R s q)
 let T:=E2w.th R R s
 bif e.1 then (c && decide (ml2 e.2.2 (E2w.sub T.1 Q.1)=E2w.sub T.2 Q.2) && !decide (E2w.sub T.1 Q.1=ze2),K12.mul f (LN T e.2.2 q),E2w.th T Q e.2.2)else (c,f,T)
def CRN(q:Zp×Zp)(Q:W2×W2):List (Bool×W2×W2)->Bool×W12×(W2×W2)->Bool×W12×(W2×W2)
 |[],st=>st
 |e::r,st=>CRN q Q r (CST q Q e st)
def PWn:Nat->Nat->Nat->Nat->Nat
 |0,_,_,a=>a
 |f+1,b,e,a=>PWn f (b*b % PP) (e / 2) (bif e % 2==1 then a*b % PP else a)
def iN(x:W2):W2:=
 let n:=zp (PWn 381 (x.1*x.1+x.2*x.2).val (PP-2) 1)
 (x.1*n,-(x.2*n))
def SLQ:List Bool->W2×W2->List (Bool×W2×W2)
 |[],_=>[]
 |d::r,R=>
  let q:=ml2 R.1 R.1
  let s:=ml2 (ad2 (ad2 q q) q) (iN (ad2 R.2 R.2))
  let T:=E2w.th R R s
  let t:=ml2 (E2w.sub T.2 G2p.2) (iN (E2w.sub T.1 G2p.1))
  bif d then (d,s,t)::SLQ r (E2w.th T G2p t)else (d,s,ze2)::SLQ r T
def L63:List Bool:=(List.range 63).map λi=>(0x5201000000010000:Nat).testBit (62-i)
def SLP:List (Bool×W2×W2):=SLQ L63 G2p
def Ce:W12:=(((zp 0x751557ccd0e568de8f2b6c9f8f0c3bcbd02d177144b44df610160b7a5c9df7b7084529642e3f9f6c6a0c093f01edb9a,zp 0x3a018fa8cb36c23248e299ea03286248eeed1f2c477cfb32d68411a7a4c39c8741d2f067c4dd900046c11057db6c575),(zp 0x687e3f086b7fe854eb89ec494de48b9e990f2ab5c5fe133e1208a380c74369889fb3d2a78177955e698be2dd2fb45c3,zp 0x3acc6bf13ea3ac3b01a5c03abfef0c65cef58c07e598ffa21262310c5c2546736e1ee12c6dae45c57cf14fdb4e6267a),(zp 0x7dda3a1efb947cc5d9b7061a85915bf24fb6353fe36d140edbff59fb68939a96ee5b7ab1a42c199edce862e308ff8f1,zp 0x10cc233519fa1da957cef3a4a301bf377e55ec0d97992861f1b11d171adf7408eff43fd7b9da15f8b4457b89b4436c89)),((zp 0x561a60b89349ab4c1588e00f947f89e0399f1db01e296680a8676d7a09c1aa0228137835f3785c862c07a51633e9827,zp 0x942697638f329bab144afd26647be9054081e8cbded9967d18dc6743108dd74a3c9192e0144f5f2e49b3c2a6dcc8031),(zp 0xb236d849561bab4b1f77b57cb239fea2be7fe053dad9633df74103a97aea745b282344eb89cefc69cef32172fd991ca,zp 0xb72354a46c6ab3f59daa873619913479319807d21d60483fcac8615a4947d9e963d2162b242d34a16a3b267671044b2),(zp 0xecae24d88e6a1c653c20e9a46d901d9cb46546b243182a91bfdfa4742a7e961ccf3ee8c5babca70e8635cfd91b9e4eb,zp 0x19a1163b48107ce80131adee28ba723847b582239eb55a22663968b12bdbc72c03f16a1ccd75cc6e8b84f06847c637c6)))
theorem Ak:(CRN G1p G2p SLP (true,K12.one,G2p)).1=true/\(CRN G1p G2p SLP (true,K12.one,G2p)).2.1=Ce:=by decide+kernel
theorem QU{q:Zp×Zp}{Q:W2×W2}{e:Bool×W2×W2}{st:Bool×W12×(W2×W2)}(h:(CST q Q e st).1=true):st.1=true:=by
 obtain ⟨d,s,t⟩:=e
 cases d<;>simp[CST]at h
 ·exact h.1.1
 ·exact h.1.1.1.1
theorem He{q:Zp×Zp}{Q:W2×W2}: ∀(l:List (Bool×W2×W2)) (st:Bool×W12×(W2×W2)),(CRN q Q l st).1=true->st.1=true
 |[],_,h=>h
 |_::r,_,h=>QU (He r _ h)
theorem XT{q:Zp×Zp}{Q:W2×W2}(hQ:E2w.on Q)(e:Bool×W2×W2)(c:Bool)(f:W12)(R:W2×W2)(hR:E2w.on R)(h:(CST q Q e (c,f,R)).1=true):MSW q (some Q) e.1 (f,some R)=((CST q Q e (c,f,R)).2.1,some (CST q Q e (c,f,R)).2.2)/\E2w.on (CST q Q e (c,f,R)).2.2:=by
 obtain ⟨d,s,t⟩:=e;have dbl:(ml2 s (ad2 R.2 R.2)=ad2 (ad2 (ml2 R.1 R.1) (ml2 R.1 R.1)) (ml2 R.1 R.1))/\¬ad2 R.2 R.2=ze2:=by
  cases d<;>simp[CST]at h
  ·exact ⟨h.1.2,h.2⟩
  ·exact ⟨h.1.1.1.2,h.1.1.2⟩
 have hs:E2w.Sl R R s:=⟨by
  show ml2 s (E2w.sub R.1 R.1)=E2w.sub R.2 R.2;rw[E2w.sub_self,E2w.sub_self];exact R2.mul_zero s,dbl.1⟩
 have ho: ¬E2w.opp R R:=λk=>dbl.2 k.2;have hT:E2w.on (E2w.th R R s):=E2w.th_on hR hs;have eA:E2w.ad (some R) (some R)=some (E2w.th R R s):=E2w.ad_sl hR hR ho hs;have eL:LG (some R) (some R) q=LN R s q:=Ii hR hR ho hs q
 cases d with
 |false=>
  refine ⟨?_,hT⟩;show (K12.mul (K12.mul f f) (LG (some R) (some R) q),E2w.ad (some R) (some R))=_;rw[eL,eA];rfl
 |true=>
  have ad:(ml2 t (E2w.sub (E2w.th R R s).1 Q.1)=E2w.sub (E2w.th R R s).2 Q.2)/\¬E2w.sub (E2w.th R R s).1 Q.1=ze2:=by
   simp[CST]at h;exact ⟨h.1.2,h.2⟩
  have h3:(CST q Q (true,s,t) (c,f,R)).2.2=E2w.th (E2w.th R R s) Q t:=rfl;have h4:(CST q Q (true,s,t) (c,f,R)).2.1=K12.mul (K12.mul (K12.mul f f) (LN R s q)) (LN (E2w.th R R s) t q):=rfl;generalize E2w.th R R s=T at*;have ho2: ¬E2w.opp T Q:=λk=>ad.2 (by rw[k.1];exact E2w.sub_self _)
  obtain ⟨s',hs'⟩:=E2w.sl_is hT hQ ho2;have e0:ml2 (E2w.sub t s') (E2w.sub T.1 Q.1)=ze2:=by
   have k1:ml2 t (E2w.sub T.1 Q.1)=ml2 s' (E2w.sub T.1 Q.1):=ad.1.trans hs'.1.symm;have k2:ml2 (E2w.sub t s') (E2w.sub T.1 Q.1)=E2w.sub (ml2 t (E2w.sub T.1 Q.1)) (ml2 s' (E2w.sub T.1 Q.1)):=zx R2 [t,s',E2w.sub T.1 Q.1] 0x546378 0x45683578;rw[k2,k1];exact E2w.sub_self _
  have et:t=s':=E2w.sub0 ((E2w.fd.two e0).resolve_right ad.2);subst et;refine ⟨?_,by rw[h3];exact E2w.th_on hQ hs'⟩
  show (K12.mul (K12.mul (K12.mul f f) (LG (some R) (some R) q)) (LG (E2w.ad (some R) (some R)) (some Q) q),E2w.ad (E2w.ad (some R) (some R)) (some Q))=_;rw[eL,eA,Ii hT hQ ho2 hs',E2w.ad_sl hT hQ ho2 hs',h3,h4]
theorem Np{q:Zp×Zp}{Q:W2×W2}(hQ:E2w.on Q): ∀(l:List (Bool×W2×W2)) (c:Bool) (f:W12) (R:W2×W2),E2w.on R->(CRN q Q l (c,f,R)).1=true->(MLW q (some Q) (l.map (·.1)) (f,some R)).1=(CRN q Q l (c,f,R)).2.1
 |[],_,_,_,_,_=>rfl
 |e::r,c,f,R,hR,h=>by
  obtain ⟨k,hk⟩:=XT hQ e c f R hR (He r _ h);show (MLW q (some Q) (r.map (·.1)) (MSW q (some Q) e.1 (f,some R))).1=(CRN q Q r (CST q Q e (c,f,R))).2.1;rw[k];exact Np hQ r _ _ _ hk h
theorem Eg: ∀(l:List Bool) (R:W2×W2),(SLQ l R).map (·.1)=l
 |[],_=>rfl
 |true::r,_=>congrArg (true:: ·) (Eg r _)
 |false::r,_=>congrArg (false:: ·) (Eg r _)
theorem vE:ca L63 1=UG:=by decide+kernel
theorem Ge:MLv L63 (some G1p) (some G2p)=Ce:=by
 rw[Zl L63 G1p (Q:=some G2p) ri];have h:=Np ri SLP true K12.one G2p ri Ak.1;rw[SLP,Eg]at h;exact h.trans Ak.2
def PB(x:W12):List Bool->W12->W12
 |[],a=>a
 |true::r,a=>PB x r (K12.mul (K12.mul a a) x)
 |false::r,a=>PB x r (K12.mul a a)
theorem EO(x:W12): ∀(l:List Bool) (n:Nat),PB x l (K12.pw x n)=K12.pw x (ca l n)
 |[],_=>rfl
 |true::r,n=>by
  rw[PB,K12.bt_y x (m:=2*n+1) O];exact EO x r _
 |false::r,n=>by
  rw[PB,K12.bt_n x (m:=2*n) O];exact EO x r _
def tB(x:W12):W12:=ci (PB x L63 x)
theorem UH:tnd UG=tB:=funext λx=>by
 have h:=EO x L63 1;rw[vE,K12.pw_one]at h;rw[tnd,tB,h]
def GL2:W2:=(-(zp CNn),zp CNn)
def FRL(x:W12):W12:=((ml2 (cj2 x.1.1) (pw2 GL2 0),ml2 (cj2 x.1.2.1) (pw2 GL2 2),ml2 (cj2 x.1.2.2) (pw2 GL2 4)),(ml2 (cj2 x.2.1) (pw2 GL2 1),ml2 (cj2 x.2.2.1) (pw2 GL2 3),ml2 (cj2 x.2.2.2) (pw2 GL2 5)))
theorem Qt:bU=FRL:=funext λx=>by
 unfold bU FRL;rw[xp];rfl
def FB(t fr:W12->W12)(x g:W12):W12:=
 let y:=(λz=>K12.mul (fr (fr z)) z) (K12.mul (ci x) g)
 let a:=(λz=>K12.mul (t z) (ci z)) ((λz=>K12.mul (t z) (ci z)) y)
 let b:=(λz=>K12.mul (t z) (fr z)) a
 K12.mul (K12.mul (K12.mul ((λz=>K12.mul (K12.mul (t (t z)) (fr (fr z))) (ci z)) b) y) y) y
theorem Us(x:W12):s4 UG x=FB (tnd UG) bU x (i8 x):=rfl
def RL:W12:=(((zp 0xce727e858bbb9928346f5f63078338c7240c3c0f51d0d8fc9a8f3b8a5fed6405148c0b3b78ba0a9bc9a422e4c4bb728,zp 0x14ce6b96183974c58f58cd74bd7c3b080f0d4de47339d2418829ee96bbbfee14c081679e859a685d4f16c798234f6b2f),(zp 0x2451f6353159b095014fbfd0e128e40540103d69fdc7e3e95283fcebb2d1d938c54d6edccbffc7e52ee9c3e18b1e220,zp 0xa246ca94d81b403c032955435a445a2c05098cd3889dcb11fe7e1797ee812367a710b5f31205b84f828730ca165f490),(zp 0x26f25bfba3b1e45506f413dd9cd9a24e462e0f20df53918999da0b3fa0721e965c265cb64107666f43035a69cd7facf,zp 0x15b7f16e466d2aa21a692e40767e3253951e28ed56b53ad4c4d8fa768411025c5d9d5d8ea3e72bf26704d14dbb508efc)),((zp 0x3266b63a5f104086324367e0d66992cb27853afa44126409a7bd2d906bc8be1e454716eeb0857866883225b50d0ce9b,zp 0x163715665461fe08dc8a265b4dd5dfed3eb47f2e76ce6eace292457ed334257792d8d9466ca14e77473ada42bd9f38b0),(zp 0x13af347b51c3b839e912192461f574243bddb4f2eaeb526ce8147722964ad520e2e8a22bd8f375fa3b9fc473cf207a44,zp 0x37009aa7a6ad750b9dad9423274f8d9725ae96f136a10316b6026ac37ecc0afd2eb082edae871555f4875ed92364c15),(zp 0xd278227e1eb20596407fd509534c958a725b6fa487995cdb6ab119621ba8cd9572b86ce8dedf41fd03a897624967acc,zp 0x193b4f09ebca8d5ba691493455ac94c9de769317c75af61e46fec0ec4159b1d0666cd93f079f9b6838eacbf8e3fcb7c3)))
theorem Wg:K12.mul Ce RL=K12.one:=by decide+kernel
theorem WQ:Ce≠K12.zero:=by decide+kernel
theorem M_iv:i8 Ce=RL:=K12.inv_one (ni WQ) Wg
theorem U2:FB tB FRL Ce RL≠K12.one:=by decide+kernel
theorem Tl:FN FE (MLv L63 (some G1p) (some G2p))≠K12.one:=by
 rw[Ge,FN,<-DC,Us,UH,Qt,M_iv];exact U2
end
theorem ox(x:W12): ∀n,ci (K12.pw x n)=K12.pw (ci x) n
 |0=>ir
 |n+1=>by rw[Rg.pw,jg,ox x n];rfl
def PR(l:List Bool)(e:Nat)(P:Pt Zp)(Q:Pt W2):W12:=FN e (ci (MLv l P Q))
theorem mU(l:List Bool)(e:Nat)(P:Pt Zp)(Q:Pt W2):PR l e P Q=ci (FN e (MLv l P Q)):=(ox _ e).symm
section
variable {e:Nat} {l:List Bool}
theorem Vs(h6:e % (PP^6-1)=0)(hr:e*ORD % (PP^12-1)=0)(he:e-1+1=e)(hl:ca l 1=UG){P:Pt Zp}(hP:E1.onP P){Q:Pt W2}(hQ:E2w.onP Q)(hq:E2w.times Q ORD=none)(k:Nat):PR l e (E1.times P k) Q=K12.pw (PR l e P Q) k:=by
 rw[mU,mU,M3 h6 hr he hl hP hQ ((zK hQ).2 hq),ox]
theorem Ya(h6:e % (PP^6-1)=0)(hr:e*ORD % (PP^12-1)=0)(he:e-1+1=e)(hl:ca l 1=UG){P:Pt Zp}(hP:E1.onP P){Q:Pt W2}(hQ:E2w.onP Q)(hq:E2w.times Q ORD=none)(k:Nat):PR l e P (E2w.times Q k)=K12.pw (PR l e P Q) k:=by
 rw[mU,mU,N5 h6 hr he hl hP hQ ((zK hQ).2 hq),ox]
theorem PR_1(h6:e % (PP^6-1)=0)(hr:e*ORD % (PP^12-1)=0)(he:e-1+1=e)(hl:ca l 1=UG){P P':Pt Zp}(hP:E1.onP P)(hP':E1.onP P'){Q:Pt W2}(hQ:E2w.onP Q)(hq:E2w.times Q ORD=none):K12.mul (PR l e P Q) (PR l e P' Q)=PR l e (E1.ad P P') Q:=by
 rw[mU,mU,mU,<-jg,XB h6 hr he hl hP hP' hQ ((zK hQ).2 hq)]
theorem X7(Q:Pt W2):PR l e none Q=K12.one:=by rw[PR,Gd,ir];exact mo
end
def EG:W12:=PR L63 FE (some G1p) (some G2p)
theorem U5:EG≠K12.one:=λh=>Tl (by
 have k:=congrArg ci h;rw[EG,mU,pI,ir]at k;exact k)
theorem VJ:K12.pw EG ORD=K12.one:=by
 rw[EG,mU,<-ox,TV JP (by rw[Ge];exact WQ),ir]
theorem Gs(n:Nat):K12.pw EG (n % ORD)=K12.pw EG n:=by
 have h:K12.pw EG n=K12.pw EG (ORD*(n / ORD)+n % ORD):=congrArg (K12.pw EG) (Nat.div_add_mod n ORD).symm;rw[h,K12.pw_add,K12.pw_mul,VJ,K12.one_pw,K12.one_mul]
theorem Iw(n:Nat):K12.pw EG n=K12.one↔n % ORD=0:=by
 constructor
 ·intro h
  by_cases k:n % ORD=0
  ·exact k
  ·obtain ⟨m,hm⟩:=rf nA (Nat.pos_of_ne_zero k) (Nat.mod_lt n (Nat.lt_trans Nat.zero_lt_one nA.1))
   refine absurd ?_ U5;have e1:K12.pw EG ((n % ORD)*m)=K12.one:=by rw[K12.pw_mul,Gs,h,K12.one_pw]
   rw[<-Gs,hm,K12.pw_one]at e1;exact e1
 ·exact λh=>sZ VJ h
theorem uQ(k m:Nat):PR L63 FE (E1.times (some G1p) k) (E2w.times (some G2p) m)=K12.pw EG (k*m):=by
 have on2:E2w.onP (E2w.times (some G2p) m):=E2w.times_on jX m;rw[Vs Ks JP yg vE il on2 (E2w.times_ord jX jy m) k,Ya Ks JP yg vE il jX jy m,<-K12.pw_mul,Nat.mul_comm];rfl
section
variable {α:Type} (C:Ec α)
def Ec.t3(x:α):α:=C.R.add (C.R.add (C.R.mul x x) (C.R.mul x x)) (C.R.mul x x)
def Ec.wdL(J:α×α×α):α×α×α:=(C.sub (C.R.mul (C.t3 J.1) J.1) (C.R.mul (C.R.add J.2.1 J.2.1) J.2.1),C.R.mul (C.t3 J.1) (C.R.mul J.2.2 J.2.2),C.R.mul (C.R.mul J.2.2 (C.R.add J.2.1 J.2.1)) (C.R.mul J.2.2 J.2.2))
def Ec.wdJ(J:α×α×α):α×α×α:=
 let u:=C.t3 J.1
 let d:=C.R.mul (C.R.add J.2.1 J.2.1) J.2.1
 let h:=C.R.add d d
 let b:=C.R.mul h J.1
 let X:=C.sub (C.sub (C.R.mul u u) b) b
 (X,C.sub (C.R.mul u (C.sub b X)) (C.R.mul h d),C.R.mul J.2.2 (C.R.add J.2.1 J.2.1))
def Ec.wjU(J:α×α×α)(q:α×α):α:=C.sub (C.R.mul (C.R.mul q.2 (C.R.mul J.2.2 J.2.2)) J.2.2) J.2.1
def Ec.wjA(J:α×α×α)(q:α×α):α:=C.sub (C.R.mul q.1 (C.R.mul J.2.2 J.2.2)) J.1
def Ec.wjL(J:α×α×α)(q:α×α):α×α×α:=(C.sub (C.R.mul (C.wjU J q) q.1) (C.R.mul (C.R.mul J.2.2 (C.wjA J q)) q.2),C.wjU J q,C.R.mul J.2.2 (C.wjA J q))
def Ec.wjJ(J:α×α×α)(q:α×α):α×α×α:=
 let u:=C.wjU J q
 let a:=C.wjA J q
 let s:=C.R.mul a a
 let t:=C.R.mul s a
 let b:=C.R.mul s J.1
 let X:=C.sub (C.sub (C.sub (C.R.mul u u) t) b) b
 (X,C.sub (C.R.mul u (C.sub b X)) (C.R.mul t J.2.1),C.R.mul J.2.2 a)
theorem Ec.wdJ_dbA(J:α×α×α):C.wdJ J=C.dbA J:=C.dbl_ext (C.t3 J.1)
 (zx C.R [J.1,J.2.1,J.2.2] 0x5454777547776 0x554774776)
 (zx C.R [J.1,J.2.1,J.2.2] 0x54547775477754777 0x5554774774777)
 rfl
theorem Ec.wjJ_adG(J:α×α×α)(q:α×α):C.adG J (q.1,q.2,C.R.one)=C.wjJ J q:=by
 unfold Ec.adG;simp only[C.R.mul_one];rfl
theorem Ec.wdL_ln{a:α×α}{J:α×α×α}(h:C.jr J (some a)){s:α}(hs:C.R.mul s (C.R.add a.2 a.2)=C.t3 a.1):(C.wdL J).1=C.R.mul (C.wdL J).2.2 (C.sub (C.R.mul s a.1) a.2)/\(C.wdL J).2.1=C.R.mul (C.wdL J).2.2 s:=by
 have hx:J.1=C.R.mul a.1 (C.R.mul J.2.2 J.2.2):=h.2.1;have hy:J.2.1=C.R.mul a.2 (C.R.mul (C.R.mul J.2.2 J.2.2) J.2.2):=h.2.2;have hs:C.R.mul s (C.R.add a.2 a.2)=C.R.add (C.R.add (C.R.mul a.1 a.1) (C.R.mul a.1 a.1)) (C.R.mul a.1 a.1):=hs;unfold Ec.wdL;rw[hx,hy];exact ⟨zl C.R [a.1,a.2,J.2.2,s] 0x454455658856588556588565885565885658856588354575588857558885755888 0x53555885588588644566566566 0x5558457558885755888588459637 0x53555885588588659477 (lcm hs),zl C.R [a.1,a.2,J.2.2,s] 0x544556588565885565885658855658856588588 0x535588558858844566566566 0x55584575588857558885889 0x535588558858859477 (lcm hs)⟩
theorem Ec.wjL_ln{a q:α×α}{J:α×α×α}(h:C.jr J (some a)){s:α}(hs:C.R.mul s (C.sub a.1 q.1)=C.sub a.2 q.2):(C.wjL J q).1=C.R.mul (C.wjL J q).2.2 (C.sub (C.R.mul s a.1) a.2)/\(C.wjL J q).2.1=C.R.mul (C.wjL J q).2.2 s:=by
 have hx:J.1=C.R.mul a.1 (C.R.mul J.2.2 J.2.2):=h.2.1;have hy:J.2.1=C.R.mul a.2 (C.R.mul (C.R.mul J.2.2 J.2.2) J.2.2):=h.2.2;unfold Ec.wjL Ec.wjU Ec.wjA;rw[hx,hy];exact ⟨zl C.R [a.1,a.2,J.2.2,s,q.1,q.2] 0x45455b588835755888a355845a588356588b 0x55558886473b 0x55845a588356588459637 0x5555888659463a (lcm hs),zl C.R [a.1,a.2,J.2.2,s,q.1,q.2] 0x455b588835755888 0x555888473b 0x55845a5883565889 0x55588859463a (lcm hs)⟩
theorem Ec.wdL_ne{a:α×α}{J:α×α×α}(h:C.jr J (some a))(ha:a.2≠C.R.zero):(C.wdL J).2.2≠C.R.zero:=by
 have hy:J.2.1≠C.R.zero:=by rw[h.2.2];exact C.mul_ne ha (C.z3_ne h.1)
 exact C.mul_ne (C.mul_ne h.1 λe=>hy (C.dbl0 e)) (C.z2_ne h.1)
theorem Ec.wjA_ne{a q:α×α}{J:α×α×α}(h:C.jr J (some a))(ha:a.1≠q.1):C.wjA J q≠C.R.zero:=λe=>ha (by
 have hx:J.1=C.R.mul a.1 (C.R.mul J.2.2 J.2.2):=h.2.1;have k:=C.sub0 e;rw[hx]at k;exact (C.mul_can (C.z2_ne h.1) k).symm)
theorem Ec.wjL_ne{a q:α×α}{J:α×α×α}(h:C.jr J (some a))(ha:a.1≠q.1):(C.wjL J q).2.2≠C.R.zero:=C.mul_ne h.1 (C.wjA_ne h ha)
end
section
variable {α:Type} [DecidableEq α] (C:Ec α)
theorem Ec.wdJ_jr{J:α×α×α}{P:Pt α}(hP:C.onP P)(h:C.jr J P):C.jr (C.wdJ J) (C.ad P P):=by rw[C.wdJ_dbA];exact C.dbA_jr hP h
theorem Ec.wjJ_jr{J:α×α×α}{a q:α×α}(h1:C.R.one≠C.R.zero)(ha:C.on a)(hq:C.on q)(h:C.jr J (some a))(hn:a.1≠q.1):C.jr (C.wjJ J q) (C.ad (some a) (some q)):=by
 have k:=C.adA_jr (P:=some a) (Q:=some q) ha hq h (C.jr_at q h1);have e:C.jh J.1 J.2.2 q.1 C.R.one≠C.R.zero:=λe=>C.wjA_ne h hn (by
  show C.sub (C.R.mul q.1 (C.R.mul J.2.2 J.2.2)) J.1=C.R.zero;have e:C.sub (C.R.mul q.1 (C.R.mul J.2.2 J.2.2)) (C.R.mul J.1 (C.R.mul C.R.one C.R.one))=C.R.zero:=e;rw[C.R.mul_one,C.R.mul_one]at e;exact e)
 rw[show C.adA J (q.1,q.2,C.R.one)=C.adG J (q.1,q.2,C.R.one)from (if_neg h.1).trans ((if_neg h1).trans (if_neg e)),C.wjJ_adG]at k;exact k
end
theorem WR(c:W2)(y:W12):K12.mul (em c) y=((ml2 c y.1.1,ml2 c y.1.2.1,ml2 c y.1.2.2),(ml2 c y.2.1,ml2 c y.2.2.1,ml2 c y.2.2.2)):=
 Prod.ext (Prod.ext (zx R2 [c,y.1.1,y.1.2.1,y.1.2.2,y.2.1,y.2.2.1,y.2.2.2,XI] 0x445675d4519518451451a5d451c51b5d4524451c51b51a514451b51a5d51c 0x567) (Prod.ext (zx R2 [c,y.1.1,y.1.2.1,y.1.2.2,y.2.1,y.2.2.1,y.2.2.2,XI] 0x4445685175d51944514451b51a5d51c52451a5d451c51b5d514451c51b51a 0x568) (zx R2 [c,y.1.1,y.1.2.1,y.1.2.2,y.2.1,y.2.2.1,y.2.2.2,XI] 0x44456951851744514451c51b51a524451b51a5d51c51451a5d451c51b 0x569))) (Prod.ext (zx R2 [c,y.1.1,y.1.2.1,y.1.2.2,y.2.1,y.2.2.1,y.2.2.2,XI] 0x4456a5d451c51b45175d4519518 0x56a) (Prod.ext (zx R2 [c,y.1.1,y.1.2.1,y.1.2.2,y.2.1,y.2.2.1,y.2.2.2,XI] 0x44456b51a5d51c445185175d519 0x56b) (zx R2 [c,y.1.1,y.1.2.1,y.1.2.2,y.2.1,y.2.2.1,y.2.2.2,XI] 0x44456c51b51a44519518517 0x56c)))
theorem Ot(x:W2)(c:Zp):sc2 x c=ml2 x (re2 c):=bz (by show x.1*c=x.1*c-x.2*0;rw[gG,Gm]) (by show x.2*c=x.1*0+x.2*c;rw[gG,SH])
def LNE(L:W2×W2×W2)(p:Zp×Zp):W12:=((L.1,ng2 (sc2 L.2.1 p.1),ze2),(ze2,sc2 L.2.2 p.2,ze2))
theorem FH{L:W2×W2×W2}{a:W2×W2}{s:W2}(h:L.1=ml2 L.2.2 (E2w.sub (ml2 s a.1) a.2)/\L.2.1=ml2 L.2.2 s)(p:Zp×Zp):LNE L p=K12.mul (em L.2.2) (LN a s p):=by
 rw[WR,LNE,LN];refine Prod.ext (Prod.ext ?_ (Prod.ext ?_ ?_)) (Prod.ext ?_ (Prod.ext ?_ ?_))
 ·show L.1=ml2 L.2.2 (sb2 (ml2 s a.1) a.2)
  rw[k9];exact h.1
 ·show ng2 (sc2 L.2.1 p.1)=ml2 L.2.2 (ng2 (ml2 s (re2 p.1)))
  rw[Ot,h.2];exact zx R2 [L.2.2,s,re2 p.1] 0x355678 0x563578
 ·exact (R2.mul_zero _).symm
 ·exact (R2.mul_zero _).symm
 ·show sc2 L.2.2 p.2=ml2 L.2.2 (re2 p.2)
  exact Ot _ _
 ·exact (R2.mul_zero _).symm
abbrev WK:=(Zp×Zp)×(W2×W2)×W6
def LNR(L:W2×W2×W2)(p:Zp×Zp):W6:=(L.1,ng2 (sc2 L.2.1 p.1),sc2 L.2.2 p.2)
def lel(t:W6):W12:=((t.1,t.2.1,ze2),(ze2,t.2.2,ze2))
def wDb(w:WK):WK:=(w.1,w.2.1,E2w.wdJ w.2.2)
def rDb(w:WK):W6:=LNR (E2w.wdL w.2.2) w.1
def wJn(w:WK):WK:=if w.2.2.2.2=ze2 then (w.1,w.2.1,(w.2.1.1,w.2.1.2,on2))else (w.1,w.2.1,E2w.wjJ w.2.2 w.2.1)
def rJn(w:WK):W6:=if w.2.2.2.2=ze2 then (on2,ze2,ze2)else LNR (E2w.wjL w.2.2 w.2.1) w.1
def fv(g:WK->W6):List WK->W12->W12
 |[],f=>f
 |w::l,f=>fv g l (K12.mul (lel (g w)) f)
def rdF(d:Bool)(S:List WK×W12):List WK×W12:=
 bif d then ((S.1.map wDb).map wJn,fv rJn (S.1.map wDb) (fv rDb S.1 (K12.mul S.2 S.2)))else (S.1.map wDb,fv rDb S.1 (K12.mul S.2 S.2))
def rdK(l:List Bool)(S:List WK×W12):List WK×W12:=l.foldl (λS d=>rdF d S) S
theorem zV(l:List Bool)(d:Bool)(S:List WK×W12):rdK (l++[d]) S=rdF d (rdK l S):=by rw[rdK,List.foldl_append];rfl
def g9:List W12->W12
 |[]=>K12.one
 |x::l=>K12.mul x (g9 l)
theorem tX(g:WK->W6): ∀(l:List WK) (f:W12),fv g l f=K12.mul (g9 (l.map λw=>lel (g w))) f
 |[],f=>(K12.one_mul f).symm
 |w::l,f=>by
  rw[fv,tX g l,List.map_cons,g9,K12.mul_comm (lel (g w)),<-K12.mul_assoc,K12.mul_comm (K12.mul _ f),<-K12.mul_assoc]
theorem m6(g h:WK->W12): ∀l:List WK,g9 (l.map λw=>K12.mul (g w) (h w))=K12.mul (g9 (l.map g)) (g9 (l.map h))
 |[]=>(K12.one_mul _).symm
 |w::l=>by rw[List.map_cons,g9,m6 g h l,K12.mul_four];rfl
def Up6(a b:W12):Prop:= ∃c:W6,c≠K6.zero/\a=K12.mul (r6 c) b
theorem Up6.refl(a:W12):Up6 a a:=⟨K6.one,by decide+kernel,by rw[Ea,K12.one_mul]⟩
theorem ne6{a b:W6}(ha:a≠K6.zero)(hb:b≠K6.zero):K6.mul a b≠K6.zero:=λe=>(fd6.two e).elim ha hb
theorem Up6.mul{a b c d:W12}(h:Up6 a b)(k:Up6 c d):Up6 (K12.mul a c) (K12.mul b d):=by
 obtain ⟨x,hx,rfl⟩:=h;obtain ⟨y,hy,rfl⟩:=k;exact ⟨K6.mul x y,ne6 hx hy,by rw[K12.mul_four,Ds]⟩
theorem Up6.cj{a b:W12}(h:Up6 a b):Up6 (ci a) (ci b):=by
 obtain ⟨x,hx,rfl⟩:=h;exact ⟨x,hx,by rw[jg];exact congrArg (λy=>K12.mul y _) (Prod.ext O K6.neg_zero)⟩
theorem Up6.pr{g h:WK->W12}: ∀{l:List WK},(∀w∈l,Up6 (g w) (h w))->Up6 (g9 (l.map g)) (g9 (l.map h))
 |[],_=>Up6.refl _
 |w::_,k=>(k w List.mem_cons_self).mul (Up6.pr λv hv=>k v (List.mem_cons_of_mem _ hv))
theorem Up6.fn{e:Nat}(h6:e % (PP^6-1)=0){a b:W12}(h:Up6 a b):FN e a=FN e b:=by
 obtain ⟨x,hx,rfl⟩:=h;rw[qG,z6 h6 hx,K12.one_mul]
theorem Up6.ne{a b:W12}(h:Up6 a b)(hb:b≠K12.zero):a≠K12.zero:=by
 obtain ⟨x,hx,rfl⟩:=h;exact λe=>(fd12.two e).elim (λe=>hx (Gk e)) hb
theorem hrO{d:Nat}(h0:0<d)(h1:d<ORD): ∃e,(d*e) % ORD=1:=rf nA h0 h1
theorem wg{q:W2×W2}(hq:E2w.on q)(qr:E2w.times (some q) ORD=none){m:Nat}(h0:0<m)(h1:m<ORD):E2w.times (some q) m≠none:=λe=>by
 have k:=E2w.times_inj (Q:=some q) hq (λd=>hrO) qr (λe=>by cases e) (m:=m) (n:=0) h1 om e
 omega
structure WOk(w:WK)(m:Nat):Prop where
 on:E2w.on w.2.1
 qr:E2w.times (some w.2.1) ORD=none
 jr:E2w.jr w.2.2 (E2w.times (some w.2.1) m)
theorem mY{α:Type}{P:Option α}(h:P≠none): ∃a,P=some a:=by
 cases P with
 |none=>exact absurd O h
 |some a=>exact ⟨a,rfl⟩
theorem VO{a:W2×W2}{s:W2}(h:E2w.Sl a a s):E2w.R.mul s (E2w.R.add a.2 a.2)=E2w.t3 a.1:=h.2
theorem zA(L:W2×W2×W2)(p:Zp×Zp):lel (LNR L p)=LNE L p:=rfl
theorem WOk.dbl{w:WK}{m:Nat}(h:WOk w m)(h0:0<m)(h1:2*m<ORD):WOk (wDb w) (2*m)/\Up6 (lel (rDb w)) (LG (E2w.times (some w.2.1) m) (E2w.times (some w.2.1) m) w.1):=by
 have hon:E2w.onP (E2w.times (some w.2.1) m):=E2w.times_on (P:=some w.2.1) h.on m;refine ⟨⟨h.on,h.qr, ?_⟩, ?_⟩
 ·show E2w.jr (E2w.wdJ w.2.2) (E2w.times (some w.2.1) (2*m))
  rw[<-E2w.dbl_times (P:=some w.2.1) h.on];exact E2w.wdJ_jr hon h.jr
 ·obtain ⟨a,ha⟩:=mY (wg h.on h.qr h0 om)
  have hj:=h.jr;rw[ha]at hj hon⊢;have ho: ¬E2w.opp a a:=λo=>wg h.on h.qr (m:=2*m) om h1 (by rw[<-E2w.dbl_times (P:=some w.2.1) h.on,ha];exact E2w.ad_opp o)
  have hy:a.2≠ze2:=λe=>ho ⟨rfl,by rw[e];exact R2.add_zero _⟩
  have hs:=E2w.sl_slope hon hon ho;rw[rDb,zA,FH (E2w.wdL_ln hj (VO hs)),Ii hon hon ho hs];exact ⟨_,λe=>E2w.wdL_ne hj hy (congrArg Prod.fst e),rfl⟩
theorem WOk.jn{w:WK}{m:Nat}(h:WOk w m)(h0:1<m)(h1:m+1<ORD):WOk (wJn w) (m+1)/\Up6 (lel (rJn w)) (LG (E2w.times (some w.2.1) m) (some w.2.1) w.1):=by
 have hon:E2w.onP (E2w.times (some w.2.1) m):=E2w.times_on (P:=some w.2.1) h.on m;obtain ⟨a,ha⟩:=mY (wg h.on h.qr (m:=m) om om);have hj:=h.jr;rw[ha]at hj hon;have hz: ¬w.2.2.2.2=ze2:=hj.1;have ho: ¬E2w.opp a w.2.1:=λo=>wg h.on h.qr (m:=m+1) om h1 (by
  show E2w.ad (E2w.times (some w.2.1) m) (some w.2.1)=none;rw[ha];exact E2w.ad_opp o)
 have hx:a.1≠w.2.1.1:=λhx=>by
  by_cases hy:a.2=w.2.1.2
  ·have e:E2w.times (some w.2.1) m=E2w.times (some w.2.1) 1:=by rw[ha,tm1];exact congrArg some (Prod.ext hx hy)
   have:=E2w.times_inj (Q:=some w.2.1) h.on (λd=>hrO) h.qr (λe=>by cases e) (m:=m) (n:=1) om om e
   omega
  ·obtain ⟨s,hs⟩:=E2w.sl_is hon h.on ho
   have e:=hs.1;rw[hx,E2w.sub_self]at e;exact hy (E2w.sub0 (e.symm.trans (show E2w.R.mul s E2w.R.zero=E2w.R.zero from E2w.R.mul_zero s)))
 have hs:=E2w.sl_slope hon h.on ho;refine ⟨?_, ?_⟩
 ·rw[show wJn w=(w.1,w.2.1,E2w.wjJ w.2.2 w.2.1)from if_neg hz]
  refine ⟨h.on,h.qr, ?_⟩;show E2w.jr (E2w.wjJ w.2.2 w.2.1) (E2w.ad (E2w.times (some w.2.1) m) (some w.2.1));rw[ha];exact E2w.wjJ_jr yv hon h.on hj hx
 ·rw[show rJn w=LNR (E2w.wjL w.2.2 w.2.1) w.1 from if_neg hz,zA,FH (E2w.wjL_ln hj hs.1),ha,Ii hon h.on ho hs]
  exact ⟨_,λe=>E2w.wjL_ne hj hx (congrArg Prod.fst e),rfl⟩
def MV(l:List Bool)(w:WK):W12×Pt W2:=MLW w.1 (some w.2.1) l (K12.one,some w.2.1)
theorem tR(q:Zp×Zp)(Q:Pt W2)(d:Bool): ∀(l:List Bool) (st:W12×Pt W2),MLW q Q (l++[d]) st=MSW q Q d (MLW q Q l st)
 |[],_=>rfl
 |e::l,st=>tR q Q d l (MSW q Q e st)
theorem jc(d:Bool): ∀(l:List Bool) (n:Nat),ca (l++[d]) n=2*ca l n+d.toNat
 |[],n=>by cases d<;>rfl
 |e::l,n=>by rw[List.cons_append,lj,lj];exact jc d l _
theorem lr{w v:WK}(h1:v.1=w.1)(h2:v.2.1=w.2.1)(l:List Bool):MV l v=MV l w:=by rw[MV,MV,h1,h2]
theorem Do(w:WK):(wJn w).1=w.1:=by unfold wJn;split<;>rfl
theorem Af(w:WK):(wJn w).2.1=w.2.1:=by unfold wJn;split<;>rfl
structure RdOk(l:List Bool)(S:List WK×W12):Prop where
 w: ∀w∈S.1,WOk w (ca l 1)/\(MV l w).2=E2w.times (some w.2.1) (ca l 1)
 f:Up6 S.2 (g9 (S.1.map λw=>(MV l w).1))
theorem RdOk.step{l:List Bool}{S:List WK×W12}(h:RdOk l S)(d:Bool)(h0:0<ca l 1)(h1:2*ca l 1+1<ORD):RdOk (l++[d]) (rdF d S):=by
 have k1: ∀w∈S.1,WOk (wDb w) (2*ca l 1)/\Up6 (lel (rDb w)) (LG (MV l w).2 (MV l w).2 w.1):=λw hw=>by
  have e:=(h.w w hw).1.dbl h0 om;rw[(h.w w hw).2];exact e
 have m1: ∀w∈S.1,(MV (l++[false]) w)=(K12.mul (K12.mul (MV l w).1 (MV l w).1) (LG (MV l w).2 (MV l w).2 w.1),E2w.ad (MV l w).2 (MV l w).2):=λw _=>tR _ _ _ _ _;have f1:Up6 (fv rDb S.1 (K12.mul S.2 S.2)) (g9 (S.1.map λw=>K12.mul (K12.mul (MV l w).1 (MV l w).1) (LG (MV l w).2 (MV l w).2 w.1))):=by
  rw[tX,K12.mul_comm,m6 (λw=>K12.mul (MV l w).1 (MV l w).1),m6];exact (h.f.mul h.f).mul (Up6.pr λw hw=>(k1 w hw).2)
 cases d with
 |false=>
  refine ⟨λw hw=> ?_, ?_⟩
  ·obtain ⟨v,hv,rfl⟩:=List.mem_map.1 hw
   rw[jc];refine ⟨(k1 v hv).1, ?_⟩;rw[lr (v:=wDb v) (w:=v) O O,m1 v hv];show E2w.ad (MV l v).2 (MV l v).2=_;rw[(h.w v hv).2];exact E2w.dbl_times (P:=some v.2.1) (h.w v hv).1.on _
  ·have e:(S.1.map wDb).map (λw=>(MV (l++[false]) w).1)=S.1.map λw=>K12.mul (K12.mul (MV l w).1 (MV l w).1) (LG (MV l w).2 (MV l w).2 w.1):=by
    rw[List.map_map];exact List.map_congr_left λw hw=>show (MV (l++[false]) (wDb w)).1=_ from by rw[lr (v:=wDb w) (w:=w) O O,m1 w hw]
   show Up6 (fv rDb S.1 (K12.mul S.2 S.2)) (g9 ((S.1.map wDb).map (λw=>(MV (l++[false]) w).1)));rw[e];exact f1
 |true=>
  have ed: ∀w∈S.1,E2w.ad (MV l w).2 (MV l w).2=E2w.times (some w.2.1) (2*ca l 1):=λw hw=>by
   rw[(h.w w hw).2];exact E2w.dbl_times (P:=some w.2.1) (h.w w hw).1.on _
  have m2: ∀w∈S.1,(MV (l++[true]) w)=(K12.mul (K12.mul (K12.mul (MV l w).1 (MV l w).1) (LG (MV l w).2 (MV l w).2 w.1)) (LG (E2w.times (some w.2.1) (2*ca l 1)) (some w.2.1) w.1),E2w.ad (E2w.times (some w.2.1) (2*ca l 1)) (some w.2.1)):=λw hw=>by
   rw[<-ed w hw];exact tR _ _ _ _ _
  have k2: ∀w∈S.1,WOk (wJn (wDb w)) (2*ca l 1+1)/\Up6 (lel (rJn (wDb w))) (LG (E2w.times (some w.2.1) (2*ca l 1)) (some w.2.1) w.1):=λw hw=>(k1 w hw).1.jn om om;refine ⟨λw hw=> ?_, ?_⟩
  ·obtain ⟨u,hu,rfl⟩:=List.mem_map.1 (show w∈(S.1.map wDb).map wJn from hw)
   obtain ⟨v,hv,rfl⟩:=List.mem_map.1 hu;rw[jc];refine ⟨(k2 v hv).1, ?_⟩;rw[lr (v:=wJn (wDb v)) (w:=v) (Do _) (Af _),m2 v hv,show (wJn (wDb v)).2.1=v.2.1 from Af _];rfl
  ·have e:((S.1.map wDb).map wJn).map (λw=>(MV (l++[true]) w).1)=S.1.map λw=>K12.mul (K12.mul (K12.mul (MV l w).1 (MV l w).1) (LG (MV l w).2 (MV l w).2 w.1)) (LG (E2w.times (some w.2.1) (2*ca l 1)) (some w.2.1) w.1):=by
    rw[List.map_map,List.map_map];exact List.map_congr_left λw hw=>show (MV (l++[true]) (wJn (wDb w))).1=_ from by rw[lr (v:=wJn (wDb w)) (w:=w) (Do _) (Af _),m2 w hw]
   show Up6 (fv rJn (S.1.map wDb) (fv rDb S.1 (K12.mul S.2 S.2))) (g9 (((S.1.map wDb).map wJn).map (λw=>(MV (l++[true]) w).1)));rw[e,tX,K12.mul_comm,m6 (λw=>K12.mul (K12.mul (MV l w).1 (MV l w).1) (LG (MV l w).2 (MV l w).2 w.1)),List.map_map];exact f1.mul (Up6.pr λw hw=>(k2 w hw).2)
theorem qu: ∀(l:List Bool) (n:Nat),ca l n<(n+1)*2^l.length
 |[],n=>by show n<(n+1)*1;omega
 |d::l,n=>by
  rw[lj,List.length_cons,Nat.pow_succ];refine Nat.lt_of_lt_of_le (qu l _) ?_;rw[Nat.mul_comm (2^l.length) 2,<-Nat.mul_assoc];exact Nat.mul_le_mul_right _ (by cases d<;>simp[Bool.toNat]<;>omega)
theorem nT: ∀(l:List Bool) (n:Nat),0<n->0<ca l n
 |[],n,h=>h
 |d::l,n,h=>by rw[lj];exact nT l _ om
theorem RdOk.all{S:List WK×W12}(h:RdOk [] S): ∀(n:Nat) (l:List Bool),l.length=n->n<=63->RdOk l (rdK l S)
 |0,l,hl,_=>by obtain rfl:=List.length_eq_zero_iff.1 hl;exact h
 |n+1,l,hl,hn=>by
  obtain ⟨r,d,rfl⟩: ∃r d,l=r++[d]:=⟨l.dropLast,l.getLast (λe=>by rw[e]at hl;cases hl),(List.dropLast_concat_getLast _).symm⟩
  have hr:r.length=n:=by rw[List.length_append]at hl;simpa using hl
  rw[zV];refine (RdOk.all h n r hr om).step d (nT r 1 Nat.one_pos) ?_;have h1:=qu r 1;have h2:2^r.length<=2^62:=Nat.pow_le_pow_right om om;have h3:4*2^62+1<ORD:=by decide+kernel
  omega
def wkB(p:Zp×Zp)(q:W2×W2):WK:=(p,q,(q.1,q.2,on2))
theorem qj: ∀l:List WK,g9 (l.map λ_=>K12.one)=K12.one
 |[]=>rfl
 |_::l=>by rw[List.map_cons,g9,qj l,K12.one_mul]
theorem Ja(W:List WK)(hW: ∀w∈W,w=wkB w.1 w.2.1/\E2w.on w.2.1/\E2w.times (some w.2.1) ORD=none):Up6 (ci (rdK L63 (W,K12.one)).2) (ci (g9 (W.map λw=>MLv L63 (some w.1) (some w.2.1)))):=by
 have h0:RdOk [] (W,K12.one):=⟨λw hw=>by
  obtain ⟨e,h1,h2⟩:=hW w hw;refine ⟨⟨h1,h2, ?_⟩,rfl⟩;show E2w.jr w.2.2 (E2w.times (some w.2.1) 1);rw[tm1,e];exact l9 w.2.1,by
  show Up6 K12.one (g9 (W.map λ_=>K12.one));rw[qj];exact Up6.refl _⟩
 have h:=h0.all 63 L63 (by decide+kernel) (Nat.le_refl _)
 have e1: ∀(l:List Bool) (S:List WK×W12),(rdK l S).1.map (λw=>(MV L63 w).1)=S.1.map (λw=>(MV L63 w).1):=by
  intro l
  induction l with
  |nil=>intro S;rfl
  |cons d l ih=>
   intro S;refine (ih (rdF d S)).trans ?_
   cases d with
   |false=>
    show (S.1.map wDb).map _=_;rw[List.map_map];exact List.map_congr_left λw _=>show (MV L63 (wDb w)).1=_ from by rw[lr (v:=wDb w) (w:=w) O O]
   |true=>
    show ((S.1.map wDb).map wJn).map _=_;rw[List.map_map,List.map_map];exact List.map_congr_left λw _=>show (MV L63 (wJn (wDb w))).1=_ from by rw[lr (v:=wJn (wDb w)) (w:=w) (Do _) (Af _)]
 have hf:=h.f;rw[e1]at hf;refine Up6.cj ?_;rw[show (W.map λw=>MLv L63 (some w.1) (some w.2.1))=W.map (λw=>(MV L63 w).1)from List.map_congr_left λw hw=>Zl L63 w.1 (Q:=some w.2.1) (hW w hw).2.1];exact hf
theorem ent178:ai prog 178:=λ_ _=>kr
theorem ent246:ai prog 246:=λ_ _=>kr
theorem ent247:ai prog 247:=λ_ _=>kr
theorem ent213:ai prog 213:=λ_ _=>kr
theorem ent216:ai prog 216:=λ_ _=>kr
theorem ent217:ai prog 217:=λ_ _=>kr
theorem ent218:ai prog 218:=λ_ _=>kr
theorem ent248:ai prog 248:=λ_ _=>kr
theorem ent240:ai prog 240:=λ_ _=>kr
namespace Q6
def TO201:Tb prog Gt:=J2.TO68.add (zS (g:=K6.one) ent221 Mk)
def TO202:Tb prog Gt:=TO201.add (qN (g:=λx y=>decide (x=y)) ent220 pz)
def TO203:Tb prog Gt:=TO202.add (cw (g:=K6.add) ent243 oG)
def TO204:Tb prog Gt:=TO203.add (cw (g:=sb6) ent245 qm)
def TO205:Tb prog Gt:=TO204.add (cI (g:=K6.neg) ent250 IA)
def TO206:Tb prog Gt:=TO205.add (cw (g:=K6.mul) ent242 mt)
def TO207:Tb prog Gt:=TO206.add (cI (g:=λx=>K6.mul x x) ent276 mq)
theorem oM{f:Nat}{g:W6->W2->W6}(en:ai prog f)(h: ∀a b,PUR f [EV6 a,EV2 b] (EV6 (g a b))):Snd prog Gt f (c2 q6.ag q2.ag q6.rd g):=f9 q6.ag q2.ag q6.rd en (λa b=>bF (l2 (V6 _).symm O) (V6 _).symm (h a b))
def TO208:Tb prog Gt:=TO207.add (oM (g:=sc6) ent249 BH)
def TO209:Tb prog Gt:=TO208.add (cI (g:=v6) ent244 k6v)
def TO210:Tb prog Gt:=TO209.add (cI (g:=oth) ent292 qd)
def TO211:Tb prog Gt:=TO210.add (cI (g:=iv6) ent277 If)
def TO212:Tb prog Gt:=TO211.add (Iv (g:=K12.one) ent180 rz)
def TO213:Tb prog Gt:=TO212.add (jl (g:=λx y=>decide (x=y)) ent179 ru)
def TO215:Tb prog Gt:=TO213.add (cR (g:=ci) ent219 pn)
def TO216:Tb prog Gt:=TO215.add (iD (g:=K12.mul) ent236 yf)
def TO217:Tb prog Gt:=TO216.add (cR (g:=λx=>K12.mul x x) ent215 je)
def TO218:Tb prog Gt:=TO217.add (cR (g:=i8) ent238 D7)
def XY3(x:W6):W2×W2×Bool:=if x.2.2=ze2 then (ze2,ze2,false)else (ml2 x.1 (ml2 (iv2 x.2.2) (iv2 x.2.2)),ml2 x.2.1 (ml2 (ml2 (iv2 x.2.2) (iv2 x.2.2)) (iv2 x.2.2)),true)
theorem xy3(x:W6):PUR 96 [EV6 x] (.tuple #[EV2 (XY3 x).1,EV2 (XY3 x).2.1,.bool (XY3 x).2.2]):=by
 by_cases h:x.2.2=ze2
 ·rw[show XY3 x=(ze2,ze2,false)from if_pos h];exact J2.Av x h
 ·rw[show XY3 x=_ from if_neg h];exact J2.zu x h
theorem tG{f:Nat}{g:W6->W2×W2×Bool}(en:ai prog f)(h: ∀a,PUR f [EV6 a] (.tuple #[EV2 (g a).1,EV2 (g a).2.1,.bool (g a).2.2])):Snd prog Gt f (c1 q6.ag q2.rdBB g):=ga q6.ag q2.rdBB en (λa=>bF (l1 (V6 _).symm) O (h a))
def TO219:Tb prog Gt:=TO218.add (tG (g:=XY3) ent96 xy3)
def TG2(x y:W2):W2×W2:=(ad2 (ad2 (ml2 x x) (ml2 x x)) (ml2 x x),ad2 y y)
theorem mtan(x y:W2):PUR 246 [EV2 x,EV2 y] (.tuple #[EV2 (TG2 x y).1,EV2 (TG2 x y).2]):=pE TO219 func246 [.inl [x.1,x.2],.inl [y.1,y.2]] (.inr [.inl [((TG2 x y).1).1,((TG2 x y).1).2],.inl [((TG2 x y).2).1,((TG2 x y).2).2]]) (let t0:=ml2 x x;let t1:=ad2 (t0.1,t0.2) (t0.1,t0.2);let t2:=ad2 (t1.1,t1.2) (t0.1,t0.2);let t3:=ad2 y y;(.inr [.inl [t2.1,t2.2],.inl [t3.1,t3.2]],[])) [] kr aD O
theorem nz{f:Nat}{g:W2->W2->W2×W2}(en:ai prog f)(h: ∀a b,PUR f [EV2 a,EV2 b] (.tuple #[EV2 (g a b).1,EV2 (g a b).2])):Snd prog Gt f (c2 q2.ag q2.ag q2.rd2 g):=f9 q2.ag q2.ag q2.rd2 en h
def TO220:Tb prog Gt:=TO219.add (nz (g:=TG2) ent246 mtan)
def LR5(p q:Zp)(a b c:W2):W6:=(a,ng2 (sc2 b p),sc2 c q)
theorem Lt(p q:Zp)(a b c:W2):PUR 247 [EV p,EV q,EV2 a,EV2 b,EV2 c] (EV6 (LR5 p q a b c)):=(bF O (V6 _) (pE TO220 func247 [.inl [p],.inl [q],.inl [a.1,a.2],.inl [b.1,b.2],.inl [c.1,c.2]] (.inl (.inl [(LR5 p q a b c).1.1,(LR5 p q a b c).1.2,(LR5 p q a b c).2.1.1,(LR5 p q a b c).2.1.2,(LR5 p q a b c).2.2.1,(LR5 p q a b c).2.2.2])) (let t0:=sc2 b p;let t1:=ng2 (t0.1,t0.2);let t2:=sc2 c q;(.inl (.inl [a.1,a.2,t1.1,t1.2,t2.1,t2.2]),[])) [] kr aD O))
theorem gu{f:Nat}{g:Zp->Zp->W2->W2->W2->W6}(en:ai prog f)(h: ∀a b c d e,PUR f [EV a,EV b,EV2 c,EV2 d,EV2 e] (EV6 (g a b c d e))):Snd prog Gt f (c5 q1.ag q1.ag q2.ag q2.ag q2.ag q6.rd g):=Yd q1.ag q1.ag q2.ag q2.ag q2.ag q6.rd en (λa b c d e=>bF O (V6 _).symm (h a b c d e))
def TO221:Tb prog Gt:=TO220.add (gu (g:=LR5) ent247 Lt)
def SHT(a:W6)(b c:W2):W6:=(ad2 (ml2 a.1 b) (xi2 (ml2 a.2.2 c)),E2w.sub (E2w.sub (ml2 (ad2 a.1 a.2.1) (ad2 b c)) (ml2 a.1 b)) (ml2 a.2.1 c),ad2 (ml2 a.2.1 c) (ml2 a.2.2 b))
theorem OK(a:W6)(b c:W2):PUR 248 [EV6 a,EV2 b,EV2 c] (EV6 (SHT a b c)):=(bF (l3 (V6 _) O O) (V6 _) (pE TO221 func248 [.inl [a.1.1,a.1.2,a.2.1.1,a.2.1.2,a.2.2.1,a.2.2.2],.inl [b.1,b.2],.inl [c.1,c.2]] (.inl (.inl [(SHT a b c).1.1,(SHT a b c).1.2,(SHT a b c).2.1.1,(SHT a b c).2.1.2,(SHT a b c).2.2.1,(SHT a b c).2.2.2])) (let t0:=ml2 (a.1.1,a.1.2) b;let t1:=ml2 (a.2.1.1,a.2.1.2) c;let t2:=ad2 (a.1.1,a.1.2) (a.2.1.1,a.2.1.2);let t3:=ad2 b c;let t4:=ml2 (t2.1,t2.2) (t3.1,t3.2);let t5:=E2w.sub (t4.1,t4.2) (t0.1,t0.2);let t6:=E2w.sub (t5.1,t5.2) (t1.1,t1.2);let t7:=ml2 (a.2.2.1,a.2.2.2) c;let t8:=xi2 (t7.1,t7.2);let t9:=ad2 (t0.1,t0.2) (t8.1,t8.2);let t10:=ml2 (a.2.2.1,a.2.2.2) b;let t11:=ad2 (t1.1,t1.2) (t10.1,t10.2);(.inl (.inl [t9.1,t9.2,t6.1,t6.2,t11.1,t11.2]),[])) [] kr aD O))
theorem kF{f:Nat}{g:W6->W2->W2->W6}(en:ai prog f)(h: ∀a b c,PUR f [EV6 a,EV2 b,EV2 c] (EV6 (g a b c))):Snd prog Gt f (c3 q6.ag q2.ag q2.ag q6.rd g):=YS q6.ag q2.ag q2.ag q6.rd en (λa b c=>bF (l3 (V6 _).symm O O) (V6 _).symm (h a b c))
def TO222:Tb prog Gt:=TO221.add (kF (g:=SHT) ent248 OK)
end Q6
namespace Q6
theorem El(a:W6)(b c:W2):SHT a b c=K6.mul a (b,c,ze2):=Prod.ext (zq R2 [a.1,a.2.1,a.2.2,b,c,XI] (ta (tm j0 j3) (txi 5 (tm j2 j4) O)) (ta (tm j0 j3) (tm j5 (ta (tm j1 tz0) (tm j2 j4))))) (Prod.ext (zq R2 [a.1,a.2.1,a.2.2,b,c,XI] (ta (ta (tm (ta j0 j1) (ta j3 j4)) (tn (tm j0 j3))) (tn (tm j1 j4))) (ta (ta (tm j0 j4) (tm j1 j3)) (tm j5 (tm j2 tz0)))) (zq R2 [a.1,a.2.1,a.2.2,b,c,XI] (ta (tm j1 j4) (tm j2 j3)) (ta (ta (tm j0 tz0) (tm j1 j4)) (tm j2 j3))))
def TMS(t:W6)(f:W12):W12:=(K6.add (SHT f.1 t.1 t.2.1) (v6 (v6 (sc6 f.2 t.2.2))),sb6 (sb6 (SHT (K6.add f.1 f.2) t.1 (ad2 t.2.1 t.2.2)) (SHT f.1 t.1 t.2.1)) (v6 (sc6 f.2 t.2.2)))
theorem Mc(t:W6):lel t=((t.1,t.2.1,ze2),K6.mul (t.2.2,ze2,ze2) VV):=Prod.ext O (by rw[Bu];exact Prod.ext (show ze2=xi2 ze2 by rw[Dp];exact (R2.zero_mul _).symm) O)
theorem TH(t:W6):(t.1,ad2 t.2.1 t.2.2,ze2)=K6.add (t.1,t.2.1,ze2) (K6.mul (t.2.2,ze2,ze2) VV):=by
 rw[<-show ((lel t).2:W6)=K6.mul (t.2.2,ze2,ze2) VV from congrArg Prod.snd (Mc t)];exact Prod.ext (R2.add_zero _).symm (Prod.ext O (R2.add_zero _).symm)
theorem QN(t:W6)(f:W12):TMS t f=K12.mul (lel t) f:=by
 rw[TMS,Mc,El,El,yP,yP,TH,<-Fj,<-Bu,<-Bu];exact Prod.ext (zq K6 [f.1,f.2,(t.1,t.2.1,ze2),(t.2.2,ze2,ze2),VV] (ta (tm j0 j2) (tm (tm (tm j1 j3) j4) j4)) (ta (tm j2 j0) (tm j4 (tm (tm j3 j4) j1)))) (zq K6 [f.1,f.2,(t.1,t.2.1,ze2),(t.2.2,ze2,ze2),VV] (ta (ta (tm (ta j0 j1) (ta j2 (tm j3 j4))) (tn (tm j0 j2))) (tn (tm (tm j1 j3) j4))) (ta (tm j2 j1) (tm (tm j3 j4) j0)))
theorem zB(t:W6)(f:W12):PUR 217 [EV6 t,cv f] (cv (TMS t f)):=(bF (l2 (V6 _) (V12 _)) (V12 _) (pE TO222 func217 [.inl [t.1.1,t.1.2,t.2.1.1,t.2.1.2,t.2.2.1,t.2.2.2],.inl [f.1.1.1,f.1.1.2,f.1.2.1.1,f.1.2.1.2,f.1.2.2.1,f.1.2.2.2,f.2.1.1,f.2.1.2,f.2.2.1.1,f.2.2.1.2,f.2.2.2.1,f.2.2.2.2]] (.inl (.inl [(TMS t f).1.1.1,(TMS t f).1.1.2,(TMS t f).1.2.1.1,(TMS t f).1.2.1.2,(TMS t f).1.2.2.1,(TMS t f).1.2.2.2,(TMS t f).2.1.1,(TMS t f).2.1.2,(TMS t f).2.2.1.1,(TMS t f).2.2.1.2,(TMS t f).2.2.2.1,(TMS t f).2.2.2.2])) (let t0:=SHT ((f.1.1.1,f.1.1.2),(f.1.2.1.1,f.1.2.1.2),(f.1.2.2.1,f.1.2.2.2)) (t.1.1,t.1.2) (t.2.1.1,t.2.1.2);let t1:=sc6 ((f.2.1.1,f.2.1.2),(f.2.2.1.1,f.2.2.1.2),(f.2.2.2.1,f.2.2.2.2)) (t.2.2.1,t.2.2.2);let t2:=v6 ((t1.1.1,t1.1.2),(t1.2.1.1,t1.2.1.2),(t1.2.2.1,t1.2.2.2));let t3:=K6.add ((f.1.1.1,f.1.1.2),(f.1.2.1.1,f.1.2.1.2),(f.1.2.2.1,f.1.2.2.2)) ((f.2.1.1,f.2.1.2),(f.2.2.1.1,f.2.2.1.2),(f.2.2.2.1,f.2.2.2.2));let t4:=ad2 (t.2.1.1,t.2.1.2) (t.2.2.1,t.2.2.2);let t5:=SHT ((t3.1.1,t3.1.2),(t3.2.1.1,t3.2.1.2),(t3.2.2.1,t3.2.2.2)) (t.1.1,t.1.2) (t4.1,t4.2);let t6:=v6 ((t2.1.1,t2.1.2),(t2.2.1.1,t2.2.1.2),(t2.2.2.1,t2.2.2.2));let t7:=K6.add ((t0.1.1,t0.1.2),(t0.2.1.1,t0.2.1.2),(t0.2.2.1,t0.2.2.2)) ((t6.1.1,t6.1.2),(t6.2.1.1,t6.2.1.2),(t6.2.2.1,t6.2.2.2));let t8:=sb6 ((t5.1.1,t5.1.2),(t5.2.1.1,t5.2.1.2),(t5.2.2.1,t5.2.2.2)) ((t0.1.1,t0.1.2),(t0.2.1.1,t0.2.1.2),(t0.2.2.1,t0.2.2.2));let t9:=sb6 ((t8.1.1,t8.1.2),(t8.2.1.1,t8.2.1.2),(t8.2.2.1,t8.2.2.2)) ((t2.1.1,t2.1.2),(t2.2.1.1,t2.2.1.2),(t2.2.2.1,t2.2.2.2));(.inl (.inl [t7.1.1,t7.1.2,t7.2.1.1,t7.2.1.2,t7.2.2.1,t7.2.2.2,t9.1.1,t9.1.2,t9.2.1.1,t9.2.1.2,t9.2.2.1,t9.2.2.2]),[])) [] kr aD O))
theorem iU{f:Nat}{g:W6->W12->W12}(en:ai prog f)(h: ∀a b,PUR f [EV6 a,cv b] (cv (g a b))):Snd prog Gt f (c2 q6.ag q12.ag q12.rd g):=f9 q6.ag q12.ag q12.rd en (λa b=>bF (l2 (V6 _).symm (V12 _).symm) (V12 _).symm (h a b))
def TO223:Tb prog Gt:=TO222.add (iU (g:=TMS) ent217 zB)
theorem xK(t:W6)(f:W12):PUR 217 [EV6 t,cv f] (cv (K12.mul (lel t) f)):=by rw[<-QN];exact zB t f
def TO224:Tb prog Gt:=TO223.add (iU (g:=λt f=>K12.mul (lel t) f) ent217 xK)
def kw(w:WK):List Zp:=[w.1.1,w.1.2,w.2.1.1.1,w.2.1.1.2,w.2.1.2.1,w.2.1.2.2,w.2.2.1.1,w.2.2.1.2,w.2.2.2.1.1,w.2.2.2.1.2,w.2.2.2.2.1,w.2.2.2.2.2]
theorem pM{f:FuncId}{fn:Func}{c:Code}(T:Tb prog Gt)(hf:prog.funcs[f]? =some fn)(a:List S0)(l l':List Zp)(t:TypeId)(u:S0)(vc:S1×CB)(p:Pa)(h:xM T fn c a l t p=some vc)(hc:Ok vc.2)(e:vc.1=.inr [u,.inl l']){b:Nat}{pre post:List Value}{w:World}(hw:Gt w)(hb:8<=b)(ho:OwnB w b (pre++(clv l++post)) t)
 (hbd:fn.body=some c:=by rfl) (hn:Nat.ble (a.length+1) fn.ntmps=true:=by rfl) (hN:Nat.ble fn.ntmps 1000000=true:=by rfl) (ha:a.all npS=true:=by rfl):
 CLS f (.pointer (some ⟨b,pre.length,none⟩)::a.map (dn rid)).toArray w (λe w'=>e=.returned (dn rid u)/\Mod b w w'/\OwnB w' b (pre++(clv l'++post)) t):=
 JA T dU hf hbd (cs:=vc.2) (by rw[<-e];exact h) hc hn hN ha ((gt_low.from (M:=λk=>k=b) hw (λm hm=>by subst hm;exact hb)).ok (B:=plM w (λk=>k=b)) ap) ho
theorem Zj{P:Program}{f:FuncId}{xs ys:List Value}{w:World}{b:Nat}{v v':Value}{c c':List Value}{t:TypeId}(h:Calls P f xs.toArray w (λe w'=>e=.returned v/\Mod b w w'/\OwnB w' b c t))(ha:ys=xs)(hv:v'=v)(hc:c'=c):Calls P f ys.toArray w (λe w'=>e=.returned v'/\Mod b w w'/\OwnB w' b c' t):=by subst ha;subst hv;subst hc;exact h
theorem mdbl(w:WK){b:Nat}{pre post:List Value}{W:World}(hw:Gt W)(hb:8<=b)(ho:OwnB W b (pre++(clv (kw w)++post)) 264):
 CLS 216 [.pointer (some ⟨b,pre.length,none⟩)].toArray W (λe W'=>e=.returned (EV6 (rDb w))/\Mod b W W'/\OwnB W' b (pre++(clv (kw (wDb w))++post)) 264):=
 Zj (pM TO224 func216 [] ([w.1.1,w.1.2,w.2.1.1.1,w.2.1.1.2,w.2.1.2.1,w.2.1.2.2,w.2.2.1.1,w.2.2.1.2,w.2.2.2.1.1,w.2.2.2.1.2,w.2.2.2.2.1,w.2.2.2.2.2]) (kw (wDb w)) 264 (.inl [(rDb w).1.1,(rDb w).1.2,(rDb w).2.1.1,(rDb w).2.1.2,(rDb w).2.2.1,(rDb w).2.2.2]) (let t0:=(TG2 (w.2.2.1.1,w.2.2.1.2) (w.2.2.2.1.1,w.2.2.2.1.2)).1;let t1:=(TG2 (w.2.2.1.1,w.2.2.1.2) (w.2.2.2.1.1,w.2.2.2.1.2)).2;let t2:=ml2 (w.2.2.2.2.1,w.2.2.2.2.2) (t1.1,t1.2);let t3:=ml2 (t1.1,t1.2) (w.2.2.2.1.1,w.2.2.2.1.2);let t4:=ml2 (w.2.2.2.2.1,w.2.2.2.2.2) (w.2.2.2.2.1,w.2.2.2.2.2);let t5:=ml2 (t0.1,t0.2) (w.2.2.1.1,w.2.2.1.2);let t6:=E2w.sub (t5.1,t5.2) (t3.1,t3.2);let t7:=ml2 (t0.1,t0.2) (t4.1,t4.2);let t8:=ml2 (t2.1,t2.2) (t4.1,t4.2);let t9:=LR5 w.1.1 w.1.2 (t6.1,t6.2) (t7.1,t7.2) (t8.1,t8.2);let t10:=ad2 (t3.1,t3.2) (t3.1,t3.2);let t11:=ml2 (t10.1,t10.2) (w.2.2.1.1,w.2.2.1.2);let t12:=ml2 (t0.1,t0.2) (t0.1,t0.2);let t13:=E2w.sub (t12.1,t12.2) (t11.1,t11.2);let t14:=E2w.sub (t13.1,t13.2) (t11.1,t11.2);let t15:=E2w.sub (t11.1,t11.2) (t14.1,t14.2);let t16:=ml2 (t0.1,t0.2) (t15.1,t15.2);let t17:=ml2 (t10.1,t10.2) (t3.1,t3.2);let t18:=E2w.sub (t16.1,t16.2) (t17.1,t17.2);(.inr [.inl [t9.1.1,t9.1.2,t9.2.1.1,t9.2.1.2,t9.2.2.1,t9.2.2.2],.inl [w.1.1,w.1.2,w.2.1.1.1,w.2.1.1.2,w.2.1.2.1,w.2.1.2.2,t14.1,t14.2,t18.1,t18.2,t2.1,t2.2]],[])) [] kr aD O hw hb ho) O (V6 _) O
theorem mjn(w:WK){b:Nat}{pre post:List Value}{W:World}(h: ¬w.2.2.2.2=ze2)(hw:Gt W)(hb:8<=b)(ho:OwnB W b (pre++(clv (kw w)++post)) 264):
 CLS 218 [.pointer (some ⟨b,pre.length,none⟩)].toArray W (λe W'=>e=.returned (EV6 (rJn w))/\Mod b W W'/\OwnB W' b (pre++(clv (kw (wJn w))++post)) 264):=by
 rw[show rJn w=LNR (E2w.wjL w.2.2 w.2.1) w.1 from if_neg h,show wJn w=(w.1,w.2.1,E2w.wjJ w.2.2 w.2.1)from if_neg h];exact Zj (pM TO224 func218 [] ([w.1.1,w.1.2,w.2.1.1.1,w.2.1.1.2,w.2.1.2.1,w.2.1.2.2,w.2.2.1.1,w.2.2.1.2,w.2.2.2.1.1,w.2.2.2.1.2,w.2.2.2.2.1,w.2.2.2.2.2]) (kw ((w.1,w.2.1,E2w.wjJ w.2.2 w.2.1))) 264 (.inl [(LNR (E2w.wjL w.2.2 w.2.1) w.1).1.1,(LNR (E2w.wjL w.2.2 w.2.1) w.1).1.2,(LNR (E2w.wjL w.2.2 w.2.1) w.1).2.1.1,(LNR (E2w.wjL w.2.2 w.2.1) w.1).2.1.2,(LNR (E2w.wjL w.2.2 w.2.1) w.1).2.2.1,(LNR (E2w.wjL w.2.2 w.2.1) w.1).2.2.2]) (let t0:=ml2 (w.2.2.2.2.1,w.2.2.2.2.2) (w.2.2.2.2.1,w.2.2.2.2.2);let t1:=ml2 (w.2.1.2.1,w.2.1.2.2) (t0.1,t0.2);let t2:=ml2 (t1.1,t1.2) (w.2.2.2.2.1,w.2.2.2.2.2);let t3:=E2w.sub (t2.1,t2.2) (w.2.2.2.1.1,w.2.2.2.1.2);let t4:=ml2 (w.2.1.1.1,w.2.1.1.2) (t0.1,t0.2);let t5:=E2w.sub (t4.1,t4.2) (w.2.2.1.1,w.2.2.1.2);let t6:=ml2 (w.2.2.2.2.1,w.2.2.2.2.2) (t5.1,t5.2);let t7:=ml2 (t3.1,t3.2) (w.2.1.1.1,w.2.1.1.2);let t8:=ml2 (t6.1,t6.2) (w.2.1.2.1,w.2.1.2.2);let t9:=E2w.sub (t7.1,t7.2) (t8.1,t8.2);let t10:=LR5 w.1.1 w.1.2 (t9.1,t9.2) (t3.1,t3.2) (t6.1,t6.2);let t11:=ml2 (t5.1,t5.2) (t5.1,t5.2);let t12:=ml2 (t11.1,t11.2) (t5.1,t5.2);let t13:=ml2 (t11.1,t11.2) (w.2.2.1.1,w.2.2.1.2);let t14:=ml2 (t3.1,t3.2) (t3.1,t3.2);let t15:=E2w.sub (t14.1,t14.2) (t12.1,t12.2);let t16:=E2w.sub (t15.1,t15.2) (t13.1,t13.2);let t17:=E2w.sub (t16.1,t16.2) (t13.1,t13.2);let t18:=E2w.sub (t13.1,t13.2) (t17.1,t17.2);let t19:=ml2 (t3.1,t3.2) (t18.1,t18.2);let t20:=ml2 (t12.1,t12.2) (w.2.2.2.1.1,w.2.2.2.1.2);let t21:=E2w.sub (t19.1,t19.2) (t20.1,t20.2);(.inr [.inl [t10.1.1,t10.1.2,t10.2.1.1,t10.2.1.2,t10.2.2.1,t10.2.2.2],.inl [w.1.1,w.1.2,w.2.1.1.1,w.2.1.1.2,w.2.1.2.1,w.2.1.2.2,t17.1,t17.2,t21.1,t21.2,t6.1,t6.2]],[(decide ((w.2.2.2.2.1,w.2.2.2.2.2)=ze2),false)])) [some false] kr (ao (decide_eq_false h) aD) O hw hb ho) O (V6 _) O
end Q6
theorem SV:PUR 241 [U64 15132376222941642752#64] (I 64):=by
 intro w hw;refine Hf func241 O hw<|λhGF=>Xp<|Asg O<|aa<|ah<|Xp<|Mv O<|Bnb true O O (λ_=>fE _ _ _) dc<|aa<|aL O<|Xp<|Mv O<|Bnr (v:=U64 3523280896#64) O O (λ_=>(cU _ _ 32#64).trans rr)<|Asg O<|aa<|Xq<|Asg O<|aa<|ah<|Xp<|Mv O<|Bnb true O O (λ_=>fE _ _ _) dc<|aa<|aL O<|Xp<|Mv O<|Bnr (v:=U64 53761#64) O O (λ_=>(cU _ _ 16#64).trans rr)<|Asg O<|aa<|Xq<|Mv O<|Bnr (v:=I 48) O O (λ_=>(az _ _ _ (by unfold inI;decide)).trans rr)<|Asg O<|aa<|ah<|Xp<|Mv O<|Bnb true O O (λ_=>fE _ _ _) dc<|aa<|aL O<|?_
 refine Xp<|Mv O<|Bnr (v:=U64 210#64) O O (λ_=>(cU _ _ 8#64).trans rr)<|Asg O<|aa<|Xq<|Mv O<|Bnr (v:=I 56) O O (λ_=>(az _ _ _ (by unfold inI;decide)).trans rr)<|Asg O<|aa<|Xp<|Mv O<|Mv O<|cu O O (λ_=>gH underlying24 underlying5 _) O O<|Kd (n:=8#8) O O underlying9 dc kr O O<|cu O O (λ_=>CS underlying5 underlying3 _) O O<|Bnr (v:=I 64) O O (λ_=>(az _ _ _ (by unfold inI;decide)).trans rr)<|Asg O<|aa<|ak<|Rr<|?_
 exact aO O O (λw hw=>⟨rfl,ac hw⟩)
theorem ym:PUR 214 [] (.func (.func 240) #[] #[]):=by
 intro w hw;refine Hf func214 O hw<|λhGF=>Xp<|Asg O<|aa<|Xp<|Asg O<|aa<|ak<|Rr<|?_;exact aO O O (λw hw=>⟨rfl,ac hw⟩)
def DGb(k:Nat):Bool:=15132376222941642752#64>>>(62-k) &&& 1#64==1#64
def D63:List Bool:=(List.range 63).map DGb
theorem my:D63.length=63:=by rw[D63,List.length_map,List.length_range]
theorem A3{k:Nat}(h:k<63):D63[k]? =some (DGb k):=by rw[D63,List.getElem?_map,List.getElem?_range h];rfl
def DGs:List (List Value):=D63.map λd=>[.bool d]
theorem mM:DGs.length=63:=by rw[DGs,List.length_map,my]
theorem AE{k:Nat}(h:k<63):DGs[k]? =some [.bool (DGb k)]:=by rw[DGs,List.getElem?_map,A3 h];rfl
theorem xg{k:Nat}{v:List Value}(h:DGs[k]? =some v):k<63/\v=[.bool (DGb k)]:=by
 have hk:k<63:=by
  rcases Nat.lt_or_ge k 63 with hk|hk
  ·exact hk
  ·rw[List.getElem?_eq_none (by rw[mM];exact hk)]at h;cases h
 exact ⟨hk,(Option.some.inj ((AE hk).symm.trans h)).symm⟩
theorem qb:eS prog Gt 240 [] DGs (λ_=>True):=by
 intro l J Jx hJ hJx hRd hGx hY w hj;have okJ: ∀k,BOk Gt (Bi w (λY=>J Y k)):=λk=>⟨λ_ _ _ h=>(hRd _ _ _ h.rid).1,hJ k⟩;have okX: ∀k,BOk Gt (Bi w (λY=>Jx Y k)):=λk=>⟨λ_ _ _ h=>hGx _ _ _ h.rid,hJx k⟩;refine ch (G:=Gt) func240 O O (Hp (Bi w (λY=>J Y 0)) []) (bZ (Bi w _) hj (hJ 0)) (ay (okJ 0))<|Xp<|Ca O (SV)<|Bnr (v:=I 62) O O (λ_=>(bf _ _ _ (by unfold inI;decide)).trans rr)<|Asg O<|aa<|am<|fV (ι:={k:Nat // k<=63}) (λx=>[(0,.func (.yield l) #[] #[]),(2,I (62-(x.1:Int)))]) (λx=>Bi w (λY=>J Y x.1)) (λx=>[]) (λx=>63-x.1) ⟨0,Nat.zero_le _⟩ (λ_=>okJ _) O trv trivial<|?_
 rintro ⟨k,hk⟩;dsimp only;refine ah<|Xp<|Mv O<|Bnr (v:=.bool (decide (k<63))) O O (λ_=>(d8 _ _ _).trans (by rw[show decide ((62-(k:Int))>=0)=decide (k<63)from decide_eq_decide.2 om]))<|aa<|?_
 refine bE O (λhc=> ?_) (λhc=> ?_)
 ·have hk2:k<63:=by simpa using hc
  refine aq<|ah<|am<|Xp<|Mv O<|Mv O<|Bnr (v:=U64 (15132376222941642752#64>>>(62-k))) O O (λ_=>(dZ _ _ _ om).trans (by rw[show (62-(k:Int)).toNat=62-k by omega]))<|Bnr (v:=U64 (15132376222941642752#64>>>(62-k) &&& 1#64)) O O (λ_=>fI _ _ 1#64)<|Bnr (v:=.bool (DGb k)) O O (λ_=>bu _ _ 1#64)<|?_
  refine c9 (hY.b (k:=k) (AE hk2) w) (okJ _) (okX _) O O O O O ?_ ?_
  ·refine aU O (λ_=>aF _) O O<|aa<|aw O<|aq<|Xq<|Mv O<|Bnr (v:=I (62-((k+1:Nat):Int))) O O (λ_=>(bf _ _ _ oi).trans (by rw[show 62-(k:Int)-1=62-((k+1:Nat):Int) by omega]))<|Asg O<|aa<|?_
   repeat (refine aW ?_)
   exact aQ<|⟨rfl,⟨k+1,om⟩,_,by show 63-(k+1)<63-k;omega,rfl,trv,trivial⟩
  ·refine aU O (λ_=>aF _) O O<|aa<|aL O<|ak<|Rr<|?_
   repeat (first|refine df ?_|refine ce ?_|refine dd O ?_|refine bx ?_|refine bv ?_)
   exact cX O (λw hw=>⟨⟨_,rfl⟩,.inr ⟨_,bG (hJx _) hw.rid⟩⟩)
 ·obtain rfl:k=63:=by simp at hc;omega
  refine a6 ?_
  repeat (first|refine df ?_|refine ce ?_|refine dd O ?_|refine bx ?_|refine bv ?_)
  refine cy O (λw hw=>⟨⟨_,rfl⟩,.inl ?_⟩);have:=bG (hJ _) hw.rid;rw[mM];exact this
section
attribute [local simp] Q6.eX
def pwD(x:W12)(k:Nat):W12:=K12.pw x (ca (D63.take k) 1)
theorem qJ{k:Nat}(h:k<63):D63.take (k+1)=D63.take k++[DGb k]:=by rw[List.take_add_one,A3 h];rfl
theorem NJ(x:W12){k:Nat}(h:k<63)(hd:DGb k=true):K12.mul (K12.mul (pwD x k) (pwD x k)) x=pwD x (k+1):=by
 rw[pwD,pwD,qJ h,jc,hd,<-K12.pw_add,<-Nat.two_mul];rfl
theorem Nk(x:W12){k:Nat}(h:k<63)(hd:DGb k=false):K12.mul (pwD x k) (pwD x k)=pwD x (k+1):=by
 rw[pwD,pwD,qJ h,jc,hd,<-K12.pw_add,<-Nat.two_mul];rfl
theorem Mn:D63=L63:=by decide+kernel
theorem T4(x:W12):pwD x 63=K12.pw x UG:=by rw[pwD,List.take_of_length_le (by rw[my];exact Nat.le_refl _),Mn,vE]
namespace Q6
theorem tT(k:Nat)(hk:k<=63):0<ca (D63.take k) 1/\ca (D63.take k) 1<2^(k+1):=by
 refine ⟨nT _ _ Nat.one_pos, ?_⟩;have h:=qu (D63.take k) 1;rw[List.length_take,my,Nat.min_eq_left hk]at h;rw[Nat.pow_succ];omega
theorem QH{k:Nat}(hk:k<63):2*ca (D63.take k) 1+1<ORD:=by
 have h:=(tT k om).2;have h2:2^(k+1)<=2^63:=Nat.pow_le_pow_right om om;have h3:2*2^63+1<ORD:=by decide+kernel
 omega
end Q6
end
section
attribute [local simp] Q6.eX
namespace Q6
def PRv(a:J1.GP×J2.GP):L6:=J1.GL a.1++J2.GL a.2
theorem fZ(a:J1.GP×J2.GP):(PRv a).length=54:=by simp[PRv]
attribute [local simp] fZ
theorem zv182(w:World):(zeroValue 182).run prog w=.ok (aI (List.replicate 54 (0#64))) w:=(zeroValue182 w).trans rr
def WSf(f:Nat->J1.GP×J2.GP):Nat->List WK
 |0=>[]
 |i+1=>if (f i).1.P=none then WSf f i else if (f i).2.P=none then WSf f i else WSf f i++[wkB (J1.PX (f i).1.P,J1.PY (f i).1.P) (J2.PX (f i).2.P,J2.PY (f i).2.P)]
theorem vZ{f:Nat->J1.GP×J2.GP}{i:Nat}(h:(f i).1.P=none):WSf f (i+1)=WSf f i:=if_pos h
theorem wL{f:Nat->J1.GP×J2.GP}{i:Nat}(h: ¬(f i).1.P=none)(k:(f i).2.P=none):WSf f (i+1)=WSf f i:=(if_neg h).trans (if_pos k)
theorem GK{f:Nat->J1.GP×J2.GP}{i:Nat}(h: ¬(f i).1.P=none)(k: ¬(f i).2.P=none):WSf f (i+1)=WSf f i++[wkB (J1.PX (f i).1.P,J1.PY (f i).1.P) (J2.PX (f i).2.P,J2.PY (f i).2.P)]:=(if_neg h).trans (if_neg k)
theorem ur(f:Nat->J1.GP×J2.GP): ∀i,(WSf f i).length<=i
 |0=>Nat.le_refl _
 |i+1=>by
  have h:=ur f i;rw[WSf];split
  ·omega
  ·split
   ·omega
   ·rw[List.length_append];simp;omega
def wcl(l:List WK):List Value:=clv (l.flatMap kw)
theorem qE(w:WK):(kw w).length=12:=rfl
theorem o6(l m:List WK):wcl (l++m)=wcl l++wcl m:=by rw[wcl,List.flatMap_append,iQ];rfl
theorem rq(w:WK)(l:List WK):wcl (w::l)=clv (kw w)++wcl l:=by rw[wcl,List.flatMap_cons,iQ];rfl
theorem BX(w:WK):wcl [w]=clv (kw w):=by rw[rq];exact List.append_nil _
theorem uF: ∀l:List WK,(wcl l).length=72*l.length
 |[]=>rfl
 |w::l=>by rw[rq,List.length_append,uF l,cN,qE,List.length_cons];omega
theorem OwnW.of{L L':Hl}{n:Nat}{e:TypeId}{s:Nat}{a0:Option Addr}{cap nx:Nat}{xs:List Value}(h:OwnW L n e s a0 cap nx xs)(he:lkB L' n=lkB L n):OwnW L' n e s a0 cap nx xs:=by
 rcases h with h|⟨b,c,h1,h2,h3⟩
 ·exact .inl h
 ·exact .inr ⟨b,c,h1,he.trans h2,h3⟩
theorem OR(a b:Zp)(c d e f g:W2)(w:World):(Instr.build 264 (([0,1,2,3,4,5,6]).zip [EV a,EV b,EV2 c,EV2 d,EV2 e,EV2 f,EV2 g]).toArray).run prog w=.ok (.agg (clv [a,b,c.1,c.2,d.1,d.2,e.1,e.2,f.1,f.2,g.1,g.2]).toArray) w:=by
 obtain ⟨fields,hf,hm,_⟩:=TB.hfs 264 [(0,1),(1,1),(2,2),(4,2),(6,2),(8,2),(10,2)] kr;exact gc (TB.hsz 264 12 kr).2.2 hf hm _ (qZ (ps:=[(0,[a]),(1,[b]),(2,[c.1,c.2]),(3,[d.1,d.2]),(4,[e.1,e.2]),(5,[f.1,f.2]),(6,[g.1,g.2])]) (c:=List.replicate 12 0) rr) w
theorem tiW:TI prog 264 (.agg (clv (List.replicate 12 0)).toArray) 72 576:=z7 (by rw[clv,re];kernel_rfl)
theorem G4{own L:Hl}(ho:own=[]\/∃x,own=[(50,x)])(h:lkB L 50=lkB own 50):kA L own:=by
 rcases ho with rfl|⟨x,rfl⟩
 ·exact trivial
 ·exact ⟨h,trivial⟩
structure BgV(f:Nat->J1.GP×J2.GP)(n:Nat) where
 (k:Nat) (a0:Option Addr) (cap:Nat) (own:Hl)
 hk:k<=n
 hs:OwnW own 50 264 72 a0 cap (WSf f k).length (wcl (WSf f k))
 ho:own=[]\/∃x,own=[(50,x)]
 hz:WSf f k=[]->a0=none
theorem J7{w:World}(h:Gt w):8<=w.heap.size:=block_lt_of_cell (h.g7 0 _ rr)
theorem JT(n:Nat)(f:Nat->J1.GP×J2.GP)(b cap:Nat)(hn:n<=1000)(w:World)(hw:Gt w)(h:w.rangeAt b 0 ((RW 54 (λi=>PRv (f i)) n).map U64)):
 CLS 213 [.slice (spt b) n cap].toArray w (λe w'=>(∃bW cW capW,e=.returned (.slice (spt bW) (WSf f n).length capW)/\Grow w w'/\w.heap.size<=bW/\OwnB w' bW cW 264/\cW.take (wcl (WSf f n)).length=wcl (WSf f n)/\WSf f n≠[])\/(WSf f n=[]/\e=.returned (.slice none 0 0)/\Grow w w')):=by
 have hGF:BOk Gt (pl w):=gt_low.plain hw;have fin: ∀{L:Hl} {a0:Option Addr} {cap:Nat} {w':World},OwnW L 50 264 72 a0 cap (WSf f n).length (wcl (WSf f n))->(WSf f n=[]->a0=none)->Hp (pl w) L w'->(∃bW cW capW,Ending.returned (.slice a0 (WSf f n).length cap)=.returned (.slice (spt bW) (WSf f n).length capW)/\Grow w w'/\w.heap.size<=bW/\OwnB w' bW cW 264/\cW.take (wcl (WSf f n)).length=wcl (WSf f n)/\WSf f n≠[])\/(WSf f n=[]/\Ending.returned (.slice a0 (WSf f n).length cap)=.returned (.slice none 0 0)/\Grow w w'):=λ{L a0 cap w'} h hz hp=>by
  rcases h with ⟨rfl,_,h3,rfl⟩|⟨b,c,rfl,hl,hc,hle,hx,ht⟩
  ·exact .inr ⟨List.length_eq_zero_iff.1 h3,by rw[h3],ac hp⟩
  ·exact .inl ⟨b,c,cap,rfl,ac hp,(hp.own _ _ _ _ hl).2.elim id False.elim,(hp.own _ _ _ _ hl).1,ht,λe=>by cases hz e⟩
 refine Hd func213 O hGF<|Xp<|Asg O<|aa<|jY<|Xp<|Asg O<|aa<|ah<|lC<|ah<|Xp<|Mv O<|bD O (λ_=>aV underlying183 _ _ _ _) O O<|Mv O<|aa<|am<|cb (ι:=BgV f n) (λx=>[(11,.slice (spt b) n cap),(12,I (n:Int)),(13,I (x.k:Int)),(3,.slice x.a0 (WSf f x.k).length x.cap)]) (λx=>x.own) (λx=>n-x.k) ⟨0,none,0,[],om,FK _ _ _ _,.inl O,λ_=>rfl⟩ hGF trv trivial<|?_;rintro ⟨i,a0,cap0,own,hi,hs,ho,hz⟩;dsimp only at hs ho hz⊢;have hwl:=ur f i;by_cases hP:(f i).1.P=none
 ·refine Xp<|Bnr O O (λ_=>aC _ _ _)<|aa<|ah<|?_
  refine bE O (λhc=> ?_) (λhc=> ?_)
  ·have hi2:i<n:=by simp at hc;omega
   refine aq<|ah<|am<|Xp<|jQ (s:=54) i O O underlying183 sizeOf182 om om O O<|dK (cs:=(PRv (f i)).map U64) O isAgg182 sizeOf182 sm (λw' h'=>jb (fB h (λh=>h) w' h') om (fZ _)) O O<|Al 5 hGF zv182<|λb5=>Sa 5 hGF O O O IK<|aa<|Xp<|Fa 0 O underlying182 O sizeOf54<|av 5 ((J1.GL (f i).1).map U64) O O isAgg54 sizeOf54 sm eu O O<|Ca O (J1.IG _ hP)<|Mv O<|Ext O O<|Ext O O<|Ext O O<|Al 6 hGF zv52<|λb6=>Al 7 hGF zv52<|λb7=>Sa 6 hGF O O O bq<|Sa 7 hGF O O O bq<|Asg O<|aa<|ah<|Xp<|Mv O<|aU O (λ_=>aF _) O O<|aa<|aL O<|a6<|Xq<|Bnr O O (λ_=>az _ _ _ oi)<|Mv O<|aa<|?_
   repeat (first|refine aW ?_|refine ce ?_)
   exact aQ<|⟨rfl,⟨i+1,a0,cap0,own,om,by rw[vZ hP];exact hs,ho,by rw[vZ hP];exact hz⟩,_,by show n-(i+1)<n-i;omega,rfl,⟨rfl,rfl,rfl,by dsimp only;rw[vZ hP];rfl,trivial⟩,G4 ho O⟩
  ·obtain rfl:i=n:=by simp at hc;omega
   refine a6<|Xp<|Mv O<|Asg O<|aa<|ak<|?_
   repeat (first|refine bx ?_|refine bv ?_|refine fc ?_)
   exact aO O O (λw' hw'=>fin hs hz hw')
 ·by_cases hQ:(f i).2.P=none
  ·refine Xp<|Bnr O O (λ_=>aC _ _ _)<|aa<|ah<|?_
   refine bE O (λhc=> ?_) (λhc=> ?_)
   ·have hi2:i<n:=by simp at hc;omega
    refine aq<|ah<|am<|Xp<|jQ (s:=54) i O O underlying183 sizeOf182 om om O O<|dK (cs:=(PRv (f i)).map U64) O isAgg182 sizeOf182 sm (λw' h'=>jb (fB h (λh=>h) w' h') om (fZ _)) O O<|Al 5 hGF zv182<|λb5=>Sa 5 hGF O O O IK<|aa<|Xp<|Fa 0 O underlying182 O sizeOf54<|av 5 ((J1.GL (f i).1).map U64) O O isAgg54 sizeOf54 sm eu O O<|Ca O (J1.wa _ hP)<|Mv O<|Ext O O<|Ext O O<|Ext O O<|Al 6 hGF zv52<|λb6=>Al 7 hGF zv52<|λb7=>Sa 6 hGF O O O bq<|Sa 7 hGF O O O bq<|Asg O<|aa<|ah<|Xp<|Mv O<|aU O (λ_=>aF _) O O<|aa<|aw O<|aq<|Xp<|Fa 18 O underlying182 O sizeOf94<|av 5 ((J2.GL (f i).2).map U64) O O isAgg94 sizeOf94 sm (gP sm) O O<|Ca O (J2.IG _ hQ)<|Mv O<|Ext O O<|Ext O O<|Ext O O<|Al 9 hGF zv92<|λb9=>Al 10 hGF zv92<|?_;intro b10;refine Sa 9 hGF O O O aR<|Sa 10 hGF O O O aR<|Asg O<|aa<|ah<|Xp<|Mv O<|aU O (λ_=>aF _) O O<|aa<|aL O<|a6<|Xq<|Bnr O O (λ_=>az _ _ _ oi)<|Mv O<|aa<|?_
    repeat (first|refine aW ?_|refine ce ?_)
    exact aQ<|⟨rfl,⟨i+1,a0,cap0,own,om,by rw[wL hP hQ];exact hs,ho,by rw[wL hP hQ];exact hz⟩,_,by show n-(i+1)<n-i;omega,rfl,⟨rfl,rfl,rfl,by dsimp only;rw[wL hP hQ];rfl,trivial⟩,G4 ho O⟩
   ·obtain rfl:i=n:=by simp at hc;omega
    refine a6<|Xp<|Mv O<|Asg O<|aa<|ak<|?_
    repeat (first|refine bx ?_|refine bv ?_|refine fc ?_)
    exact aO O O (λw' hw'=>fin hs hz hw')
  ·refine Xp<|Bnr O O (λ_=>aC _ _ _)<|aa<|ah<|?_
   refine bE O (λhc=> ?_) (λhc=> ?_)
   ·have hi2:i<n:=by simp at hc;omega
    refine aq<|ah<|am<|Xp<|jQ (s:=54) i O O underlying183 sizeOf182 om om O O<|dK (cs:=(PRv (f i)).map U64) O isAgg182 sizeOf182 sm (λw' h'=>jb (fB h (λh=>h) w' h') om (fZ _)) O O<|Al 5 hGF zv182<|λb5=>Sa 5 hGF O O O IK<|aa<|Xp<|Fa 0 O underlying182 O sizeOf54<|av 5 ((J1.GL (f i).1).map U64) O O isAgg54 sizeOf54 sm eu O O<|Ca O (J1.wa _ hP)<|Mv O<|Ext O O<|Ext O O<|Ext O O<|Al 6 hGF zv52<|λb6=>Al 7 hGF zv52<|λb7=>Sa 6 hGF O O O bq<|Sa 7 hGF O O O bq<|Asg O<|aa<|ah<|Xp<|Mv O<|aU O (λ_=>aF _) O O<|aa<|aw O<|aq<|Xp<|Fa 18 O underlying182 O sizeOf94<|av 5 ((J2.GL (f i).2).map U64) O O isAgg94 sizeOf94 sm (gP sm) O O<|Ca O (J2.wa _ hQ)<|Mv O<|Ext O O<|Ext O O<|Ext O O<|Al 9 hGF zv92<|λb9=>Al 10 hGF zv92<|?_;intro b10;refine Sa 9 hGF O O O aR<|Sa 10 hGF O O O aR<|Asg O<|aa<|ah<|Xp<|Mv O<|aU O (λ_=>aF _) O O<|aa<|aw O<|aq<|Xe []<|Mv O<|La 6 O O bq<|La 7 O O bq<|La 9 O O aR<|La 10 O O aR<|La 9 O O aR<|La 10 O O aR<|Ca O (sk)<|dW (ps:=[(0,.tmp 36),(1,.tmp 37),(2,.tmp 38),(3,.tmp 39),(4,.tmp 40),(5,.tmp 41),(6,.tmp 42)]) (vs:=[EV (J1.PX (f i).1.P),EV (J1.PY (f i).1.P),EV2 (J2.PX (f i).2.P),EV2 (J2.PY (f i).2.P),EV2 (J2.PX (f i).2.P),EV2 (J2.PY (f i).2.P),EV2 on2]) O (v:=.agg (clv (kw (wkB (J1.PX (f i).1.P,J1.PY (f i).1.P) (J2.PX (f i).2.P,J2.PY (f i).2.P)))).toArray) (λw=>OR _ _ _ _ _ _ _ w) O O<|F9 44 (clv (kw (wkB (J1.PX (f i).1.P,J1.PY (f i).1.P) (J2.PX (f i).2.P,J2.PY (f i).2.P)))) hGF O (by rw[cN,qE]) dc dc underlying256 sizeOf264 (TB.hsz 264 12 kr).2.2 O O<|?_
    intro b44;refine xG (s:=72) (nx:=(WSf f i).length) (ny:=1) (xs:=wcl (WSf f i)) (ys:=clv (kw (wkB (J1.PX (f i).1.P,J1.PY (f i).1.P) (J2.PX (f i).2.P,J2.PY (f i).2.P)))) 50 hGF O O underlying256 underlying256 tiW O (OwnW.of hs O) (by rw[cN,qE]) (λw' h=>aX (n:=44) O w' h) (Ax _) dc om om O O (λbA cA capA eA lA tA=> ?_)
    refine Asg O<|aa<|Xq<|Bnr O O (λ_=>az _ _ _ oi)<|Mv O<|aa<|?_
    repeat (first|refine aW ?_|refine ce ?_)
    refine aQ ?_;have eW:=GK hP hQ;have eL:(WSf f (i+1)).length=(WSf f i).length+1:=by rw[eW,List.length_append];rfl
    have eC:wcl (WSf f (i+1))=wcl (WSf f i)++clv (kw (wkB (J1.PX (f i).1.P,J1.PY (f i).1.P) (J2.PX (f i).2.P,J2.PY (f i).2.P))):=by rw[eW,o6,BX]
    exact ⟨rfl,⟨i+1,some ⟨bA,0,none⟩,capA,[(50,bA,cA,264)],om,.inr ⟨bA,cA,rfl,rfl,eA,om,by rw[uF,Nat.mul_comm],by rw[eC];exact tA⟩,.inr ⟨_,rfl⟩,λe=>by rw[e]at eL;cases eL⟩,_,by show n-(i+1)<n-i;omega,rfl,⟨rfl,rfl,rfl,by dsimp only;rw[eL];rfl,trivial⟩,trv⟩
   ·obtain rfl:i=n:=by simp at hc;omega
    refine a6<|Xp<|Mv O<|Asg O<|aa<|ak<|?_
    repeat (first|refine bx ?_|refine bv ?_|refine fc ?_)
    exact aO O O (λw' hw'=>fin hs hz hw')
end Q6
end
section
attribute [local simp] Q6.eX
namespace Q6
abbrev nY(x:W12):List Value:=(((fe ((x).1.1).1++fe ((x).1.1).2)++((fe ((x).1.2.1).1++fe ((x).1.2.1).2)++(fe ((x).1.2.2).1++fe ((x).1.2.2).2)))++((fe ((x).2.1).1++fe ((x).2.1).2)++((fe ((x).2.2.1).1++fe ((x).2.2.1).2)++(fe ((x).2.2.2).1++fe ((x).2.2.2).2)))).map U64
theorem nq(x:W12):(nY x).length=72:=sm
def mkC(fs:List Nat)(o:Oper):Bool:=match o.op with
 | .call {callee:=.value (.func f), .. }=>fs.any (Nat.beq f)
 |_=>false
def SK(W:List WK)(k:Nat):List WK×W12:=rdK (D63.take k) (W,K12.one)
theorem Xz(W:List WK){k:Nat}(h:k<63):SK W (k+1)=rdF (DGb k) (SK W k):=by rw[SK,qJ h,zV];rfl
theorem xt(W:List WK){k:Nat}(h:k<63)(hd:DGb k=false):SK W (k+1)=((SK W k).1.map wDb,fv rDb (SK W k).1 (K12.mul (SK W k).2 (SK W k).2)):=by rw[Xz W h,hd];rfl
theorem yj(W:List WK){k:Nat}(h:k<63)(hd:DGb k=true):SK W (k+1)=(((SK W k).1.map wDb).map wJn,fv rJn ((SK W k).1.map wDb) (fv rDb (SK W k).1 (K12.mul (SK W k).2 (SK W k).2))):=by rw[Xz W h,hd];rfl
theorem kI(W:List WK): ∀k,k<=63->(SK W k).1.length=W.length
 |0,_=>rfl
 |k+1,h=>by
  have ih:=kI W k om
  cases d:DGb k with
  |false=>rw[xt W om d,List.length_map];exact ih
  |true=>rw[yj W om d,List.length_map,List.length_map];exact ih
theorem nE(g:WK->W6): ∀(l:List WK) (w:WK) (f:W12),fv g (l++[w]) f=K12.mul (lel (g w)) (fv g l f)
 |[],_,_=>rfl
 |v::l,w,f=>nE g l w (K12.mul (lel (g v)) f)
theorem yK{l:List WK}{j:Nat}{w:WK}(h:l[j]? =some w):l.take (j+1)=l.take j++[w]:=by rw[List.take_add_one,h];rfl
theorem Qr{l:List WK}{j:Nat}{w:WK}(h:l[j]? =some w):l.drop j=w::l.drop (j+1):=by
 have hj:=(List.getElem?_eq_some_iff.1 h).1;rw[List.drop_eq_getElem_cons hj];exact congrArg (·::_) (List.getElem?_eq_some_iff.1 h).2
def upW(g:WK->WK)(l:List WK)(j:Nat):List WK:=(l.take j).map g++l.drop j
theorem YR{g:WK->WK}{l:List WK}{j:Nat}{w:WK}(h:l[j]? =some w)(post:List Value):wcl (upW g l j)++post=wcl ((l.take j).map g)++(clv (kw w)++(wcl (l.drop (j+1))++post)):=by
 rw[upW,Qr h,o6,rq];simp only[List.append_assoc]
theorem YU{g:WK->WK}{l:List WK}{j:Nat}{w:WK}(h:l[j]? =some w)(post:List Value):wcl (upW g l (j+1))++post=wcl ((l.take j).map g)++(clv (kw (g w))++(wcl (l.drop (j+1))++post)):=by
 rw[upW,yK h,List.map_append,o6,o6,show [w].map g=[g w]from O,BX];simp only[List.append_assoc]
theorem VX{g:WK->WK}{l:List WK}{j:Nat}{w:WK}(h:l[j]? =some w):(wcl ((l.take j).map g)).length=0+72*j:=by
 have hj:=(List.getElem?_eq_some_iff.1 h).1;rw[uF,List.length_map,List.length_take,Nat.min_eq_left om,Nat.zero_add]
theorem WO(g:WK->WK)(l:List WK):upW g l 0=l:=rfl
theorem M4(g:WK->WK){l:List WK}{j:Nat}(h:l.length=j):upW g l j=l.map g:=by
 rw[upW,List.take_of_length_le om,List.drop_eq_nil_of_le om,List.append_nil]
theorem Ve{f:FuncId}{g:WK->WK}{u:WK->W6}{l:List WK}{j:Nat}{w:WK}(h:l[j]? =some w){b:Nat}{post:List Value}{W:World}(ho:OwnB W b (wcl (upW g l j)++post) 264)
 (hc: ∀{pre post:List Value},OwnB W b (pre++(clv (kw w)++post)) 264->CLS f [.pointer (some ⟨b,pre.length,none⟩)].toArray W (λe W'=>e=.returned (EV6 (u w))/\Mod b W W'/\OwnB W' b (pre++(clv (kw (g w))++post)) 264)):
 CLS f [.pointer (some ⟨b,0+72*j,none⟩)].toArray W (λe W'=>e=.returned (EV6 (u w))/\Mod b W W'/\OwnB W' b (wcl (upW g l (j+1))++post) 264):=by
 rw[YR h]at ho;have k:=hc ho;rw[VX h]at k;rw[YU h];exact k
theorem TM{l:List WK}{j:Nat}{w:WK}(h:l[j]? =some w){b:Nat}{post:List Value}{W:World}(hw:Gt W)(hb:8<=b)(ho:OwnB W b (wcl (upW wDb l j)++post) 264):CLS 216 [.pointer (some ⟨b,0+72*j,none⟩)].toArray W (λe W'=>e=.returned (EV6 (rDb w))/\Mod b W W'/\OwnB W' b (wcl (upW wDb l (j+1))++post) 264):=Ve h ho (λ{_ _} k=>mdbl w hw hb k)
theorem XC{l:List WK}{j:Nat}{w:WK}(h:l[j]? =some w){b:Nat}{post:List Value}{W:World}(hz: ¬w.2.2.2.2=ze2)(hw:Gt W)(hb:8<=b)(ho:OwnB W b (wcl (upW wJn l j)++post) 264):CLS 218 [.pointer (some ⟨b,0+72*j,none⟩)].toArray W (λe W'=>e=.returned (EV6 (rJn w))/\Mod b W W'/\OwnB W' b (wcl (upW wJn l (j+1))++post) 264):=Ve h ho (λ{_ _} k=>mjn w hz hw hb k)
theorem Ro(W:List WK)(n b cap:Nat)(cs:List Value)(hWl:W.length<=1000)(hZ: ∀k,k<63->DGb k=true->∀w∈(SK W k).1.map wDb,¬w.2.2.2.2=ze2)(hB: ∀w',Gt w'->w'.rangeAt b 0 cs->CLS 213 [.slice (spt b) n cap].toArray w' (λr w''=> ∃bW post capW,r=.returned (.slice (spt bW) W.length capW)/\Grow w' w''/\w'.heap.size<=bW/\OwnB w'' bW (wcl W++post) 264))(w:World)(hw:Gt w)(h:w.rangeAt b 0 cs):
 CLS 178 [.slice (spt b) n cap].toArray w (λr w'=>r=.returned (cv (ci (SK W 63).2))/\Grow w w'):=by
 have hGF:BOk Gt (pl w):=gt_low.plain hw;refine ck (G:=Gt) func178 O O (Hp (pl w) []) (bZ (pl w) trivial ap) (ay hGF)<|ae (E:=EE [213,216,218])<|Al 2 hGF zv233<|λb2=>aa<|jY<|ae (E:=EE [213,216,218])<|Mv O<|?_;refine dp O O ent213 O O (λw' hw'=>(hB w' (hGF.g _ _ _ hw') (fB h (λh=>h) w' hw')).mono λe' w'' h'=> ?_);obtain ⟨bW,post,capW,rfl,hg,hbD,hoD⟩:=h';have hb3:8<=bW:=Nat.le_trans (J7 (hGF.g _ _ _ hw')) hbD;refine ⟨_,_,rfl,ay hGF,hw'.news ap hg [(50,bW,wcl W++post,264)] ?_ bR, ?_⟩
 ·intro n' b' c' t' hl
  rcases aK hl with ⟨_,e⟩|⟨_,hl⟩
  ·cases e;exact ⟨hbD,hoD⟩
  ·cases hl
 clear hw' hg hbD hoD;refine fT 3 hGF zeroValue256 O O<|λb3=>da 3 hGF O O O sizeOf256 O (by first|decide|simp) O<|aa<|ae (E:=EE [213,216,218])<|Ca O (rz)<|Al 4 hGF zv233<|λb4=>Sa 4 hGF O O O e9<|aa<|ah<|lC<|ah<|ae (E:=EE [213,216,218])<|Ca O (ym)<|aa<|am<|?_
 refine ep (λ_=>pl w) (λ_ _=>pl w) (λ_=>hGF) (λ_ _=>hGF) (λ_=>rfl) (λ_ _=>rfl) O O ent240 qb (λx hx=>by obtain ⟨k,hk,rfl⟩:=List.mem_map.1 hx;rfl) O (λk=>[(2,b2,(((fe 0++fe 0)++((fe 0++fe 0)++(fe 0++fe 0)))++((fe 0++fe 0)++((fe 0++fe 0)++(fe 0++fe 0)))).map U64,233),(3,b3,[.slice (spt bW) W.length capW],256),(4,b4,nY ((SK W k).2),233),(50,bW,wcl ((SK W k).1)++post,264)]) (λ_ _ _=>False) trv (λ_ _ _ _=>trivial) ?_ ?_ (λ_ _ _ _ _ h=>h.elim)
 ·intro k v hx R hR
  obtain ⟨hk,rfl⟩:=xg hx;refine bQ (E:=EE [213,216,218])<|Asg O<|aa<|?_;refine ⟨rfl,_,rfl, ?_⟩;refine am<|ae (E:=EE [213,216,218])<|La 4 O O e9<|Ca O (je _)<|aA 4 (hR (pl w) O hGF).2.1 O O O sizeOf233 sm sm (bi _) O<|aa<|ah<|ae (E:=EE [213,216,218])<|cG 3 O O O isAgg256 O O<|bD O (λ_=>aV underlying256 _ _ _ _) O O<|Mv O<|aa<|am<|?_;obtain ⟨F0,hF0⟩: ∃F0,F0=K12.mul (SK W k).2 (SK W k).2:=⟨_,rfl⟩;refine cb (ι:={j:Nat // j<=W.length}) (λy=>[(2,pnt b2),(3,pnt b3),(4,pnt b4),(5,.bool (DGb k)),(16,I ((W.length:Nat):Int)),(17,I (y.1:Int))]) (λy=>[(2,b2,(((fe 0++fe 0)++((fe 0++fe 0)++(fe 0++fe 0)))++((fe 0++fe 0)++((fe 0++fe 0)++(fe 0++fe 0)))).map U64,233),(3,b3,[.slice (spt bW) W.length capW],256),(4,b4,nY (fv rDb ((SK W k).1.take y.1) F0),233),(50,bW,wcl (upW wDb (SK W k).1 y.1)++post,264)]) (λy=>W.length-y.1) ⟨0,Nat.zero_le _⟩ (hR (pl w) O hGF).2.1 trv ⟨rfl,rfl,by rw[hF0];rfl,rfl,trivial⟩ ?_
  rintro ⟨j,hj⟩;dsimp only;refine ae (E:=EE [213,216,218])<|Bnr O O (λ_=>aC _ _ _)<|aa<|ah<|?_;refine bE O (λhc=> ?_) (λhc=> ?_)
  ·have hj2:j<W.length:=by simp at hc;omega
   obtain ⟨wj,hwj⟩: ∃wj,(SK W k).1[j]? =some wj:=⟨_,List.getElem?_eq_getElem (by rw[kI W k om];exact hj2)⟩
   refine aq<|ah<|am<|ae (E:=EE [213,216,218])<|Mv O<|Asg O<|aa<|pq (E:=EE [213,216,218]) (λX=>X=Hp (R.b (pl w)) [(4,b4,nY (fv rDb ((SK W k).1.take j) F0),233)]) (mkC [216]) (rkB [24]) [0,1,2,4,3,5,6] dU O kr kr kr<|jf O O<|cG 3 O O O isAgg256 O O<|aa<|jf O O<|Mv O<|aa<|jf O O<|jQ (s:=72) j O O underlying256 sizeOf264 om om O O<|aa<|qW (X:=Hp (R.b (pl w)) [(4,b4,nY (fv rDb ((SK W k).1.take j) F0),233)]) O (ej (hR (pl w) O hGF).2.1.r trv) (λ_=>rfl)<|bO 4 O O isAgg233 sizeOf233 (nq _) O O<|aa<|mx O<|?_;refine dp O O ent216 O O (λw' hw'=>(TM hwj ((hR (pl w) O hGF).2.1.g _ _ _ hw') hb3 (hw'.own 50 _ _ _ O).1).mono λe' w'' h'=> ?_);obtain ⟨rfl,hm,ho⟩:=h';refine ⟨_,_,rfl,ay (hR (pl w) O hGF).2.1,hw'.mod (hR (pl w) O hGF).2.1.r (n:=50) O hm ho, ?_⟩;clear hw' hm ho;refine aa ?_;refine ⟨λ_ X hX _=>by subst hX;exact ej (hR (pl w) O hGF).2.1.r trv, ?_⟩
   refine jf O O<|Ca O (xK (rDb wj) (fv rDb ((SK W k).1.take j) F0))<|aa<|mx O<|aA 4 (hR (pl w) O hGF).2.1 O O O sizeOf233 sm (nq _) (bi _) O<|aa<|?_;refine ⟨λh=>Bool.noConfusion h, ?_⟩;refine lF<|bQ (E:=EE [213,216,218])<|Bnr O O (λ_=>az _ _ _ oi)<|Mv O<|aa<|?_
   repeat (refine aW ?_)
   refine aQ ?_;have eF:K12.mul (lel (rDb wj)) (fv rDb ((SK W k).1.take j) F0)=fv rDb ((SK W k).1.take (j+1)) F0:=by rw[yK hwj,nE]
   exact ⟨rfl,⟨j+1,om⟩,_,by show W.length-(j+1)<W.length-j;omega,rfl,trv,⟨rfl,rfl,by rw[<-eF];rfl,rfl,trivial⟩⟩
  ·obtain rfl:j=W.length:=by simp at hc;omega
   refine a6 ?_;rw[M4 wDb (by rw[kI W k om]),List.take_of_length_le (Nat.le_of_eq (by rw[kI W k om])),hF0]
   clear hF0;refine ah<|ae (E:=EE [213,216,218])<|Mv O<|aU O (λ_=>aF _) O O<|aa<|?_;refine bE O (λhc=> ?_) (λhc=> ?_)
   ·have hd:DGb k=false:=by simpa using hc
    refine a6 ?_
    repeat (first|refine aW ?_|refine ce ?_)
    exact ⟨_,rfl,⟨rfl,rfl,by first|(rw[xt W hk hd];rfl)|(rw[yj W hk hd];rfl),by first|(rw[xt W hk hd];rfl)|(rw[yj W hk hd];rfl),trivial⟩⟩
   ·have hd:DGb k=true:=by simpa using hc
    refine aq<|ae (E:=EE [213,216,218])<|cG 3 O O O isAgg256 O O<|bD O (λ_=>aV underlying256 _ _ _ _) O O<|Mv O<|aa<|am<|?_;obtain ⟨F0,hF0⟩: ∃F0,F0=fv rDb (SK W k).1 (K12.mul (SK W k).2 (SK W k).2):=⟨_,rfl⟩;refine cb (ι:={j:Nat // j<=W.length}) (λy=>[(2,pnt b2),(3,pnt b3),(4,pnt b4),(5,.bool (DGb k)),(30,I ((W.length:Nat):Int)),(31,I (y.1:Int))]) (λy=>[(2,b2,(((fe 0++fe 0)++((fe 0++fe 0)++(fe 0++fe 0)))++((fe 0++fe 0)++((fe 0++fe 0)++(fe 0++fe 0)))).map U64,233),(3,b3,[.slice (spt bW) W.length capW],256),(4,b4,nY (fv rJn (((SK W k).1.map wDb).take y.1) F0),233),(50,bW,wcl (upW wJn ((SK W k).1.map wDb) y.1)++post,264)]) (λy=>W.length-y.1) ⟨0,Nat.zero_le _⟩ (hR (pl w) O hGF).2.1 trv ⟨rfl,rfl,by rw[hF0];rfl,by rw[WO];rfl,trivial⟩ ?_
    rintro ⟨j,hj⟩;dsimp only;refine ae (E:=EE [213,216,218])<|Bnr O O (λ_=>aC _ _ _)<|aa<|ah<|?_;refine bE O (λhc=> ?_) (λhc=> ?_)
    ·have hj2:j<W.length:=by simp at hc;omega
     obtain ⟨wj,hwj⟩: ∃wj,((SK W k).1.map wDb)[j]? =some wj:=⟨_,List.getElem?_eq_getElem (by rw[List.length_map,kI W k om];exact hj2)⟩
     refine aq<|ah<|am<|ae (E:=EE [213,216,218])<|Mv O<|Asg O<|aa<|pq (E:=EE [213,216,218]) (λX=>X=Hp (R.b (pl w)) [(4,b4,nY (fv rJn (((SK W k).1.map wDb).take j) F0),233)]) (mkC [218]) (rkB [38]) [0,1,2,4,3,5,6] dU O kr kr kr<|jf O O<|cG 3 O O O isAgg256 O O<|aa<|jf O O<|Mv O<|aa<|jf O O<|jQ (s:=72) j O O underlying256 sizeOf264 om om O O<|aa<|qW (X:=Hp (R.b (pl w)) [(4,b4,nY (fv rJn (((SK W k).1.map wDb).take j) F0),233)]) O (ej (hR (pl w) O hGF).2.1.r trv) (λ_=>rfl)<|bO 4 O O isAgg233 sizeOf233 (nq _) O O<|aa<|mx O<|?_;refine dp O O ent218 O O (λw' hw'=>(XC hwj (hZ k hk hd _ (List.mem_of_getElem? hwj)) ((hR (pl w) O hGF).2.1.g _ _ _ hw') hb3 (hw'.own 50 _ _ _ O).1).mono λe' w'' h'=> ?_);obtain ⟨rfl,hm,ho⟩:=h';refine ⟨_,_,rfl,ay (hR (pl w) O hGF).2.1,hw'.mod (hR (pl w) O hGF).2.1.r (n:=50) O hm ho, ?_⟩;clear hw' hm ho;refine aa ?_;refine ⟨λ_ X hX _=>by subst hX;exact ej (hR (pl w) O hGF).2.1.r trv, ?_⟩
     refine jf O O<|Ca O (xK (rJn wj) (fv rJn (((SK W k).1.map wDb).take j) F0))<|aa<|mx O<|aA 4 (hR (pl w) O hGF).2.1 O O O sizeOf233 sm (nq _) (bi _) O<|aa<|?_;refine ⟨λh=>Bool.noConfusion h, ?_⟩;refine lF<|bQ (E:=EE [213,216,218])<|Bnr O O (λ_=>az _ _ _ oi)<|Mv O<|aa<|?_
     repeat (refine aW ?_)
     refine aQ ?_;have eF:K12.mul (lel (rJn wj)) (fv rJn (((SK W k).1.map wDb).take j) F0)=fv rJn (((SK W k).1.map wDb).take (j+1)) F0:=by rw[yK hwj,nE]
     exact ⟨rfl,⟨j+1,om⟩,_,by show W.length-(j+1)<W.length-j;omega,rfl,trv,⟨rfl,rfl,by rw[<-eF];rfl,rfl,trivial⟩⟩
    ·obtain rfl:j=W.length:=by simp at hc;omega
     refine a6 ?_;rw[M4 wJn (by rw[List.length_map,kI W k om]),List.take_of_length_le (Nat.le_of_eq (by rw[List.length_map,kI W k om])),hF0]
     clear hF0
     repeat (first|refine aW ?_|refine ce ?_)
     exact ⟨_,rfl,⟨rfl,rfl,by first|(rw[xt W hk hd];rfl)|(rw[yj W hk hd];rfl),by first|(rw[xt W hk hd];rfl)|(rw[yj W hk hd];rfl),trivial⟩⟩
 ·intro D hD
  rw[mM];refine ae (E:=EE [213,216,218])<|La 4 O O e9<|Ca O (pn _)<|Sa 2 hD O O O e9<|aa<|ak<|?_
  repeat (first|refine bx ?_|refine bv ?_|refine fc ?_)
  exact dr (.inl O) ap (au 2 O O O isAgg233 sizeOf233 sm (λw hw=>⟨rfl,ac hw⟩))
theorem PD(W:List WK)(n b cap:Nat)(cs:List Value)(hW0: ∀k,k<=63->(SK W k).1=[])(hB: ∀w',Gt w'->w'.rangeAt b 0 cs->CLS 213 [.slice (spt b) n cap].toArray w' (λr w''=>r=.returned (.slice none 0 0)/\Grow w' w''))(w:World)(hw:Gt w)(h:w.rangeAt b 0 cs):
 CLS 178 [.slice (spt b) n cap].toArray w (λr w'=>r=.returned (cv (ci (SK W 63).2))/\Grow w w'):=by
 have hGF:BOk Gt (pl w):=gt_low.plain hw;refine ck (G:=Gt) func178 O O (Hp (pl w) []) (bZ (pl w) trivial ap) (ay hGF)<|ae (E:=EE [213,216,218])<|Al 2 hGF zv233<|λb2=>aa<|jY<|ae (E:=EE [213,216,218])<|Mv O<|?_;refine dp O O ent213 O O (λw' hw'=>(hB w' (hGF.g _ _ _ hw') (fB h (λh=>h) w' hw')).mono λe' w'' h'=> ?_);obtain ⟨rfl,hg⟩:=h';refine ⟨_,_,rfl,ay hGF,hw'.grow ap hg, ?_⟩;clear hw' hg;refine fT 3 hGF zeroValue256 O O<|λb3=>da 3 hGF O O O sizeOf256 O (by first|decide|simp) O<|aa<|ae (E:=EE [213,216,218])<|Ca O (rz)<|Al 4 hGF zv233<|λb4=>Sa 4 hGF O O O e9<|aa<|ah<|lC<|ah<|ae (E:=EE [213,216,218])<|Ca O (ym)<|aa<|am<|?_
 refine ep (λ_=>pl w) (λ_ _=>pl w) (λ_=>hGF) (λ_ _=>hGF) (λ_=>rfl) (λ_ _=>rfl) O O ent240 qb (λx hx=>by obtain ⟨k,hk,rfl⟩:=List.mem_map.1 hx;rfl) O (λk=>[(2,b2,(((fe 0++fe 0)++((fe 0++fe 0)++(fe 0++fe 0)))++((fe 0++fe 0)++((fe 0++fe 0)++(fe 0++fe 0)))).map U64,233),(3,b3,[.slice none 0 0],256),(4,b4,nY ((SK W k).2),233)]) (λ_ _ _=>False) trv (λ_ _ _ _=>trivial) ?_ ?_ (λ_ _ _ _ _ h=>h.elim)
 ·intro k v hx R hR
  obtain ⟨hk,rfl⟩:=xg hx;refine bQ (E:=EE [213,216,218])<|Asg O<|aa<|?_;refine ⟨rfl,_,rfl, ?_⟩;refine am<|ae (E:=EE [213,216,218])<|La 4 O O e9<|Ca O (je _)<|aA 4 (hR (pl w) O hGF).2.1 O O O sizeOf233 sm sm (bi _) O<|aa<|ah<|ae (E:=EE [213,216,218])<|cG 3 O O O isAgg256 O O<|bD O (λ_=>aV underlying256 _ _ _ _) O O<|Mv O<|aa<|am<|?_;obtain ⟨F0,hF0⟩: ∃F0,F0=K12.mul (SK W k).2 (SK W k).2:=⟨_,rfl⟩;refine cb (ι:={j:Nat // j<=0}) (λy=>[(2,pnt b2),(3,pnt b3),(4,pnt b4),(5,.bool (DGb k)),(16,I ((0:Nat):Int)),(17,I (y.1:Int))]) (λy=>[(2,b2,(((fe 0++fe 0)++((fe 0++fe 0)++(fe 0++fe 0)))++((fe 0++fe 0)++((fe 0++fe 0)++(fe 0++fe 0)))).map U64,233),(3,b3,[.slice none 0 0],256),(4,b4,nY (fv rDb ((SK W k).1.take y.1) F0),233)]) (λy=>0-y.1) ⟨0,Nat.zero_le _⟩ (hR (pl w) O hGF).2.1 trv ⟨rfl,rfl,by rw[hF0];rfl,trivial⟩ ?_
  rintro ⟨j,hj⟩;dsimp only;obtain rfl:j=0:=om;refine ae (E:=EE [213,216,218])<|Bnb false O O (λ_=>aC _ _ _) (rfl)<|aa<|ah<|aw O<|a6<|?_;rw[show (SK W k).1.take 0=(SK W k).1 from by rw[hW0 k om];rfl,hF0]
  clear hF0;refine ah<|ae (E:=EE [213,216,218])<|Mv O<|aU O (λ_=>aF _) O O<|aa<|?_;refine bE O (λhc=> ?_) (λhc=> ?_)
  ·have hd:DGb k=false:=by simpa using hc
   refine a6 ?_
   repeat (first|refine aW ?_|refine ce ?_)
   exact ⟨_,rfl,⟨rfl,rfl,by first|(rw[xt W hk hd];rfl)|(rw[yj W hk hd];rfl),trivial⟩⟩
  ·have hd:DGb k=true:=by simpa using hc
   refine aq<|ae (E:=EE [213,216,218])<|cG 3 O O O isAgg256 O O<|bD O (λ_=>aV underlying256 _ _ _ _) O O<|Mv O<|aa<|am<|?_;obtain ⟨F0,hF0⟩: ∃F0,F0=fv rDb (SK W k).1 (K12.mul (SK W k).2 (SK W k).2):=⟨_,rfl⟩;refine cb (ι:={j:Nat // j<=0}) (λy=>[(2,pnt b2),(3,pnt b3),(4,pnt b4),(5,.bool (DGb k)),(30,I ((0:Nat):Int)),(31,I (y.1:Int))]) (λy=>[(2,b2,(((fe 0++fe 0)++((fe 0++fe 0)++(fe 0++fe 0)))++((fe 0++fe 0)++((fe 0++fe 0)++(fe 0++fe 0)))).map U64,233),(3,b3,[.slice none 0 0],256),(4,b4,nY (fv rJn (((SK W k).1.map wDb).take y.1) F0),233)]) (λy=>0-y.1) ⟨0,Nat.zero_le _⟩ (hR (pl w) O hGF).2.1 trv ⟨rfl,rfl,by rw[hF0];rfl,trivial⟩ ?_
   rintro ⟨j,hj⟩;dsimp only;obtain rfl:j=0:=om;refine ae (E:=EE [213,216,218])<|Bnb false O O (λ_=>aC _ _ _) (rfl)<|aa<|ah<|aw O<|a6<|?_;rw[show ((SK W k).1.map wDb).take 0=((SK W k).1.map wDb)from by rw[hW0 k om];rfl,hF0]
   clear hF0
   repeat (first|refine aW ?_|refine ce ?_)
   exact ⟨_,rfl,⟨rfl,rfl,by first|(rw[xt W hk hd];rfl)|(rw[yj W hk hd];rfl),trivial⟩⟩
 ·intro D hD
  rw[mM];refine ae (E:=EE [213,216,218])<|La 4 O O e9<|Ca O (pn _)<|Sa 2 hD O O O e9<|aa<|ak<|?_
  repeat (first|refine bx ?_|refine bv ?_|refine fc ?_)
  exact dr (.inl O) ap (au 2 O O O isAgg233 sizeOf233 sm (λw hw=>⟨rfl,ac hw⟩))
end Q6
end
section
attribute [local simp] Q6.eX Q6.fZ
namespace Q6
def LPv(f:Nat->J1.GP×J2.GP)(n:Nat):W12:=ci (SK (WSf f n) 63).2
theorem U9(W:List WK):SK W 63=rdK L63 (W,K12.one):=by rw[SK,List.take_of_length_le (by rw[my];exact Nat.le_refl _),Mn]
def WGo(w:WK):Prop:=w=wkB w.1 w.2.1/\E2w.on w.2.1/\E2w.times (some w.2.1) ORD=none
theorem yI{f:Nat->J1.GP×J2.GP}: ∀{n:Nat},(∀i,i<n->E2w.times (f i).2.P ORD=none)->∀w∈WSf f n,WGo w
 |0,_,w,hw=>by cases hw
 |n+1,h,w,hw=>by
  have ih:=yI (f:=f) (n:=n) λi hi=>h i om;by_cases h1:(f n).1.P=none
  ·rw[vZ h1]at hw;exact ih w hw
  ·by_cases h2:(f n).2.P=none
   ·rw[wL h1 h2]at hw;exact ih w hw
   ·rw[GK h1 h2,List.mem_append,List.mem_singleton]at hw
    rcases hw with hw|rfl
    ·exact ih w hw
    ·obtain ⟨q,hq⟩:=mY h2
     have e:(J2.PX (f n).2.P,J2.PY (f n).2.P)=q:=by rw[hq];rfl
     have ho:=(f n).2.on;have hr:=h n om;rw[hq]at ho hr;refine ⟨rfl, ?_, ?_⟩
     ·show E2w.on (J2.PX (f n).2.P,J2.PY (f n).2.P);rw[e];exact ho
     ·show E2w.times (some (J2.PX (f n).2.P,J2.PY (f n).2.P)) ORD=none;rw[e];exact hr
theorem Vg{W:List WK}(h: ∀w∈W,WGo w):RdOk [] (W,K12.one):=⟨λw hw=>by
 obtain ⟨e,h1,h2⟩:=h w hw;refine ⟨⟨h1,h2, ?_⟩,rfl⟩;show E2w.jr w.2.2 (E2w.times (some w.2.1) 1);rw[tm1,e];exact l9 w.2.1,by
 show Up6 K12.one (g9 (W.map λ_=>K12.one));rw[qj];exact Up6.refl _⟩
theorem SK_z{W:List WK}(h: ∀w∈W,WGo w)(k:Nat)(hk:k<63)(_:DGb k=true): ∀w∈(SK W k).1.map wDb,¬w.2.2.2.2=ze2:=λw hw=>by
 obtain ⟨v,hv,rfl⟩:=List.mem_map.1 hw;have r:=(Vg h).all k (D63.take k) (by rw[List.length_take,my];omega) om
 have hl:=QH hk;have h1:=((r.w v hv).1.dbl (tT k om).1 om).1;obtain ⟨a,ha⟩:=mY (wg h1.on h1.qr (m:=2*ca (D63.take k) 1) (by have:=(tT k om).1;omega) om)
 have hj:=h1.jr;rw[ha]at hj;exact hj.1
theorem QT{W:List WK}(h:W=[])(k:Nat)(hk:k<=63):(SK W k).1=[]:=List.length_eq_zero_iff.1 (by rw[kI W k hk,h];rfl)
theorem QK(n:Nat)(f:Nat->J1.GP×J2.GP)(b cap:Nat)(hn:n<=1000)(hf: ∀i,i<n->E2w.times (f i).2.P ORD=none)(w:World)(hw:Gt w)(h:w.rangeAt b 0 ((RW 54 (λi=>PRv (f i)) n).map U64)):CLS 178 [.slice (spt b) n cap].toArray w (λr w'=>r=.returned (cv (LPv f n))/\Grow w w'):=by
 have hG:=yI hf;have hl:=Nat.le_trans (ur f n) hn;have hb:=λw' hw' hr=>JT n f b cap hn w' hw' hr;rw[LPv];revert h hb;generalize (RW 54 (λi=>PRv (f i)) n).map U64=cs;intro h hb;by_cases h0:WSf f n=[]
 ·refine PD (WSf f n) n b cap cs (QT h0) (λw' hw' hr=>(hb w' hw' hr).mono λr w'' h=> ?_) w hw h
  rcases h with ⟨_,_,_,_,_,_,_,_,e⟩|⟨_,h⟩
  ·exact absurd h0 e
  ·exact h
 ·refine Ro (WSf f n) n b cap cs hl (SK_z hG) (λw' hw' hr=>(hb w' hw' hr).mono λr w'' h=> ?_) w hw h
  rcases h with ⟨bW,cW,capW,h1,h2,h3,h4,h5,_⟩|⟨e,_⟩
  ·refine ⟨bW,cW.drop (wcl (WSf f n)).length,capW,h1,h2,h3, ?_⟩
   have e:wcl (WSf f n)++cW.drop (wcl (WSf f n)).length=cW:=by
    conv=>lhs;arg 1;rw[<-h5]
    exact List.take_append_drop _ _
   rw[e];exact h4
  ·exact absurd e h0
def PRD(f:Nat->J1.GP×J2.GP):Nat->W12
 |0=>K12.one
 |i+1=>K12.mul (PRD f i) (ci (MLv L63 (f i).1.P (f i).2.P))
theorem u4: ∀l m:List W12,g9 (l++m)=K12.mul (g9 l) (g9 m)
 |[],m=>(K12.one_mul _).symm
 |x::l,m=>by rw[List.cons_append,g9,u4 l m,g9,K12.mul_assoc]
theorem N6(f:Nat->J1.GP×J2.GP): ∀n,ci (g9 ((WSf f n).map λw=>MLv L63 (some w.1) (some w.2.1)))=PRD f n
 |0=>ir
 |n+1=>by
  have ih:=N6 f n;rw[PRD];by_cases h1:(f n).1.P=none
  ·rw[vZ h1,ih,h1,Gd,ir,K12.mul_one]
  ·by_cases h2:(f n).2.P=none
   ·rw[wL h1 h2,ih,h2,NP,ir,K12.mul_one]
   ·have e1:some (J1.PX (f n).1.P,J1.PY (f n).1.P)=(f n).1.P:=(J1.Kz h1).symm
    have e2:some (J2.PX (f n).2.P,J2.PY (f n).2.P)=(f n).2.P:=by
     obtain ⟨q,hq⟩:=mY h2;rw[hq];rfl
    rw[GK h1 h2,List.map_append,u4,jg,ih];show K12.mul (PRD f n) (ci (K12.mul (MLv L63 (some (J1.PX (f n).1.P,J1.PY (f n).1.P)) (some (J2.PX (f n).2.P,J2.PY (f n).2.P))) K12.one))=_;rw[e1,e2,K12.mul_one]
theorem TN{f:Nat->J1.GP×J2.GP}{n:Nat}(hf: ∀i,i<n->E2w.times (f i).2.P ORD=none):Up6 (LPv f n) (PRD f n):=by
 have k:=Ja (WSf f n) (yI hf);rw[N6]at k;rw[LPv,U9];exact k
theorem uR:Two prog 182 ⟨ "P",54,0,false, "", "",0⟩ ⟨ "Q",94,18,false, "", "",144⟩ 18 36 (List.replicate 18 (0#64)) (List.replicate 36 (0#64)):=⟨underlying182,rfl,rfl,sizeOf54,sizeOf94,λw=>(zeroValue182 w).trans rr,sm,sm⟩
end Q6
end
theorem ent290:ai prog 290:=λ_ _=>kr
namespace Q6
attribute [local simp] eX
attribute [local simp] p7 dw
theorem zv307(w:World):(zeroValue 307).run prog w=.ok (aI (FM (FF λ_=>ze2) 6)) w:=by
 rw[vk];exact (zeroValue307 w).trans rr
abbrev TV6(f:Nat->W2):Value:=aI (FM (FF f) 6)
theorem RH(f z:Nat->L6): ∀i,i<6->yU f [0,1,2,3,4,5] z i=f i:=λi hi=>pG _ _ _ _ (.inl (by
 match i,hi with
 |0,_=>decide
 |1,_=>decide
 |2,_=>decide
 |3,_=>decide
 |4,_=>decide
 |5,_=>decide))
theorem KZ(x:W12):PUR 291 [cv x] (TV6 (p12 x)):=by
 intro w hw;refine Hf func291 O hw<|λhGF=>Xp<|Bx 1 hGF O<|λb1=>Al 2 hGF zv307<|λb2=>aa<|Xp<|Fa 0 O underlying233 O sizeOf231<|Fa 0 O underlying231 O sizeOf92<|av 1 _ O O isAgg92 sizeOf92 sm (H7 eu) O O<|Fa 36 O underlying233 O sizeOf231<|Fa 36 O underlying231 O sizeOf92<|av 1 _ O O isAgg92 sizeOf92 sm (xZ (m:=36) (o:=0) sm O eu) O O<|Fa 0 O underlying233 O sizeOf231<|Fa 12 O underlying231 O sizeOf92<|av 1 _ O O isAgg92 sizeOf92 sm (H7 (kN sm)) O O<|Fa 36 O underlying233 O sizeOf231<|Fa 48 O underlying231 O sizeOf92<|av 1 _ O O isAgg92 sizeOf92 sm (xZ (m:=36) (o:=12) sm O (kN (m:=12) sm)) O O<|Fa 0 O underlying233 O sizeOf231<|Fa 24 O underlying231 O sizeOf92<|av 1 _ O O isAgg92 sizeOf92 sm (H7 (gV (m:=12) (n:=12) sm sm O)) O O<|Fa 36 O underlying233 O sizeOf231<|Fa 60 O underlying231 O sizeOf92<|av 1 _ O O isAgg92 sizeOf92 sm (xZ (m:=36) (o:=24) sm O (gV (m:=12) (n:=12) sm sm O)) O O<|qo (s:=12) (FF (p12 x)) (FF (p12 x)) [0,1,2,3,4,5] O O O (λi _=>aZ _) underlying307 sizeOf92 zv307 (RH _ _) O O<|Sa 2 hGF O O O Nc<|aa<|ak<|Rr<|?_;exact au 2 O O O isAgg307 sizeOf307 sm (λw hw=>⟨rfl,ac hw⟩)
theorem VG(f:Nat->W2):PUR 275 [TV6 f] (cv (tq f)):=by
 intro w hw;refine Hf func275 O hw<|λhGF=>Xp<|Bx 1 hGF O<|λb1=>Al 2 hGF zv233<|λb2=>aa<|Xp<|eY (0) (12*(0)) O O underlying307 sizeOf92 om om om O O<|av 1 ((fe (f 0).1++fe (f 0).2).map U64) O O isAgg92 sizeOf92 sm (gA _ (f 0) 6 (0) _ om O (rfl)) O O<|eY (2) (12*(2)) O O underlying307 sizeOf92 om om om O O<|av 1 ((fe (f 2).1++fe (f 2).2).map U64) O O isAgg92 sizeOf92 sm (gA _ (f 2) 6 (2) _ om O (rfl)) O O<|eY (4) (12*(4)) O O underlying307 sizeOf92 om om om O O<|av 1 ((fe (f 4).1++fe (f 4).2).map U64) O O isAgg92 sizeOf92 sm (gA _ (f 4) 6 (4) _ om O (rfl)) O O<|ez kS O O O sm sm sm O O<|eY (1) (12*(1)) O O underlying307 sizeOf92 om om om O O<|av 1 ((fe (f 1).1++fe (f 1).2).map U64) O O isAgg92 sizeOf92 sm (gA _ (f 1) 6 (1) _ om O (rfl)) O O<|eY (3) (12*(3)) O O underlying307 sizeOf92 om om om O O<|av 1 ((fe (f 3).1++fe (f 3).2).map U64) O O isAgg92 sizeOf92 sm (gA _ (f 3) 6 (3) _ om O (rfl)) O O<|eY (5) (12*(5)) O O underlying307 sizeOf92 om om om O O<|av 1 ((fe (f 5).1++fe (f 5).2).map U64) O O isAgg92 sizeOf92 sm (gA _ (f 5) 6 (5) _ om O (rfl)) O O<|ez kS O O O sm sm sm O O<|cF uT O O sm sm O O<|Sa 2 hGF O O O e9<|aa<|ak<|Rr<|?_;exact au 2 O O O isAgg233 sizeOf233 sm (λw hw=>⟨rfl,ac hw⟩)
theorem rE(x:W12)(w:World)(hw:Gt w):CLS 274 [cv x].toArray w (λe w'=> ∃b1,e=.returned (.func (.func 290) #[] #[pnt b1])/\Grow w w'/\w.heap.size<=b1/\OwnB w' b1 ((((fe (x.1.1).1++fe (x.1.1).2)++((fe (x.1.2.1).1++fe (x.1.2.1).2)++(fe (x.1.2.2).1++fe (x.1.2.2).2)))++((fe (x.2.1).1++fe (x.2.1).2)++((fe (x.2.2.1).1++fe (x.2.2.1).2)++(fe (x.2.2.2).1++fe (x.2.2.2).2)))).map U64) 233):=by
 refine Hf func274 O hw<|λhGF=>Xp<|Bx 1 hGF O<|λb1=>Asg O<|aa<|Xp<|fP O O O O<|Asg O<|aa<|ak<|Rr<|?_;exact aO O O (λw hw=>⟨b1,rfl,ac hw,(hw.own 1 b1 _ _ O).2.elim id False.elim,(hw.own 1 b1 _ _ O).1⟩)
def CD(x:W12):List (List Value):=(List.range 6).map λ(k:Nat)=>[I (k:Int),EV2 (p12 x k)]
theorem qB(x:W12):(CD x).length=6:=by rw[CD,List.length_map,List.length_range]
theorem vQ(x:W12)(k:Nat)(h:k<6):(CD x)[k]? =some [I (k:Int),EV2 (p12 x k)]:=by
 rw[CD,List.getElem?_map,List.getElem?_range h];rfl
theorem K2(x:W12)(k:Nat)(v:List Value)(h:(CD x)[k]? =some v):k<6/\v=[I (k:Int),EV2 (p12 x k)]:=by
 have hk:k<6:=by
  rcases Nat.lt_or_ge k 6 with hk|hk
  ·exact hk
  ·rw[List.getElem?_eq_none (by rw[qB];exact hk)]at h;cases h
 exact ⟨hk,(Option.some.inj ((vQ x k hk).symm.trans h)).symm⟩
def Mp(bb:Nat)(x:W12):Cls:=λw=>w.rangeAt bb 0 ((((fe (x.1.1).1++fe (x.1.1).2)++((fe (x.1.2.1).1++fe (x.1.2.1).2)++(fe (x.1.2.2).1++fe (x.1.2.2).2)))++((fe (x.2.1).1++fe (x.2.1).2)++((fe (x.2.2.1).1++fe (x.2.2.1).2)++(fe (x.2.2.2).1++fe (x.2.2.2).2)))).map U64)
theorem SZ(bb:Nat)(x:W12):eS prog Gt 290 [pnt bb] (CD x) (Mp bb x):=by
 intro l J Jx hJ hJx hRd hGx hY w hj;have okJ: ∀k,BOk Gt (Bi w (λY=>J Y k)):=λk=>⟨λ_ _ _ h=>(hRd _ _ _ h.rid).1,hJ k⟩;have okX: ∀k,BOk Gt (Bi w (λY=>Jx Y k)):=λk=>⟨λ_ _ _ h=>hGx _ _ _ h.rid,hJx k⟩;have c1: ∀k L w',Hp (Bi w (λY=>J Y k)) L w'->Mp bb x w':=λk L w' h=>(hRd _ _ _ h.rid).2;refine ch (G:=Gt) func290 O O (Hp (Bi w (λY=>J Y 0)) []) (bZ (Bi w _) hj (hJ 0)) (ay (okJ 0))<|Xp<|dK O isAgg233 sizeOf233 sm (λw h=>c1 _ _ w h) O O<|Ca O (KZ _)<|Mv O<|aa<|am<|fV (ι:={i:Nat // i<=6}) (λy=>[(0,.func (.yield l) #[] #[]),(1,pnt bb),(6,TV6 (p12 x)),(7,I (y.1:Int))]) (λy=>Bi w (λY=>J Y y.1)) (λy=>[]) (λy=>6-y.1) ⟨0,Nat.zero_le _⟩ (λ_=>okJ _) O trv trivial<|?_;rintro ⟨i,hi⟩;dsimp only;refine Xp<|Bnr O O (λ_=>aC _ _ _)<|aa<|ah<|?_;refine bE O (λhc=> ?_) (λhc=> ?_)
 ·have hi2:i<6:=by simp at hc;omega
  refine aq<|ah<|am<|Xp<|Mv O<|BB (FF (p12 x)) (i) O O underlying307 sizeOf92 isAgg92 om om (aZ _) O O<|Al 4 (okJ _) zv92<|λb4=>Asg O<|Sa 4 (okJ _) O O O aR<|aa<|Xp<|Mv O<|Mv O<|La 4 O O aR<|?_;refine c9 (hY.b (k:=i) (vQ x i om) w) (okJ _) (okX _) O O O O O ?_ ?_
  ·refine aU O (λ_=>aF _) O O<|aa<|aw O<|aq<|Xq<|Bnr O O (λ_=>az _ _ _ oi)<|Mv O<|aa<|?_
   repeat (refine aW ?_)
   exact aQ<|⟨rfl,⟨i+1,om⟩,_,by show 6-(i+1)<6-i;omega,rfl,trv,trivial⟩
  ·refine aU O (λ_=>aF _) O O<|aa<|aL O<|ak<|Rr<|?_
   repeat (first|refine df ?_|refine ce ?_|refine dd O ?_|refine bx ?_|refine bv ?_)
   exact cX O (λw hw=>⟨⟨_,rfl⟩,.inr ⟨_,bG (hJx _) hw.rid⟩⟩)
 ·obtain rfl:i=6:=by simp at hc;omega
  refine a6 ?_
  repeat (first|refine df ?_|refine ce ?_|refine dd O ?_|refine bx ?_|refine bv ?_)
  refine cy O (λw hw=>⟨⟨_,rfl⟩,.inl ?_⟩);have:=bG (hJ _) hw.rid;rw[qB];exact this
end Q6
def SXB:L8:=[25#8,4#8,211#8,191#8,2#8,187#8,6#8,103#8,194#8,49#8,190#8,180#8,32#8,44#8,13#8,31#8,15#8,214#8,3#8,253#8,60#8,189#8,95#8,79#8,123#8,36#8,67#8,215#8,132#8,186#8,185#8,196#8,246#8,126#8,165#8,61#8,99#8,231#8,129#8,61#8,141#8,7#8,117#8,237#8,146#8,35#8,95#8,184#8]
def SRn:Nat:=3850754370037169011952147076051364057158807420970682438676050522613628423219637725072182697113062777891589506424760
theorem J3:SXB.length=48:=rfl
theorem Mh:BN SXB 48=SRn:=by decide+kernel
theorem Qi:SRn<PP:=by decide+kernel
theorem Ph:FV SXB=zp SRn:=by rw[FV,if_pos ⟨J3,by rw[Mh];exact Qi⟩,Mh]
def SR:Zp:=zp SRn
theorem IH:CNn+SRn=PP:=by decide+kernel
theorem SR_a: -(zp CNn)=SR:=tQ (by rw[SR,<-fQ,IH,m9])
theorem SR_b: -SR=zp CNn:=tQ (by rw[SR,<-fQ,Nat.add_comm,IH,m9])
theorem Zu:((SR,-SR):W2)=GA:=by rw[xp,SR_a,SR_b]
theorem Zv(n:Int):(n.tmod 12+12).tmod 12=(((n % 12).toNat:Nat):Int):=by
 have h:n.tmod 12=n % 12\/n.tmod 12=n % 12-12:=by
  rw[Int.tmod_eq_emod];split
  ·left;omega
  ·right;rfl
 have e:(n.tmod 12+12).tmod 12=(n.tmod 12+12) % 12:=by rw[Int.tmod_eq_emod_of_nonneg om]
 rw[e];omega
theorem Gp(n:Int):inI (n.tmod 12+12):=by
 have h:n.tmod 12=n % 12\/n.tmod 12=n % 12-12:=by
  rw[Int.tmod_eq_emod];split
  ·left;omega
  ·right;rfl
 unfold inI;omega
namespace Q6
attribute [local simp] eX
attribute [local simp] p7 dw
theorem wF(e:Option Addr)(cap:Nat)(w:World)(hw:Gt w)(hby:BytesAt w e SXB):
 CLS 90 [.slice e SXB.length cap].toArray w (λr w'=>r=.returned (.tuple #[EV SR,.bool (FO SXB)])/\Grow w w'):=by
 have h:=dR e cap SXB w hw hby;rw[Ph]at h;exact h
theorem WI{m:Nat}(h:m % 2=1)(y:W2)(k:Nat):frq y m k=ml2 (cj2 y) (pw2 (GV m) k):=by rw[frq,cjn,if_pos h]
theorem WC{m:Nat}(h: ¬m % 2=1)(y:W2)(k:Nat):frq y m k=ml2 y (pw2 (GV m) k):=by rw[frq,cjn,if_neg h]
theorem GV_s(i:Nat):GV (i+1)=ml2 (cj2 (GV i)) ((SR,-SR):W2):=by rw[Zu];rfl
theorem IR(n:Nat)(hn:n<=1000):PUR 273 [I (n:Int)] (EV2 (GV n)):=by
 intro w hw;refine Hf func273 O hw<|λhGF=>ae (E:=EE [1000022])<|Al 2 hGF zv92<|λb2=>aa<|ae (E:=EE [1000022])<|iX 8 SXB hGF O O O dc dc underlying22 sizeOf5 zeroValue5 O O<|λb8=>nC 8 O hGF O O underlying22 underlying5 O O<|Cc O ent90 (λw' hC hG=>wF _ _ w' hG (BytesAt.range (hC.own 8 b8 _ _ O).1.range))<|Mv O<|Ext O O<|Ext O O<|Al 3 hGF zv52<|λb3=>Sa 3 hGF O O O bq<|Asg O<|aa<|fb (E:=EE [1000022,2999999]) [0,1,2,3] [⟨4,5,92,(fe 0++fe 0).map U64⟩] [5] dU O kr kr kr kr kr kr dc (by intro x hx;simp only[List.mem_cons,List.not_mem_nil,or_false]at hx;subst hx;exact bg O zv92 O)<|La 3 O O bq<|La 3 O O bq<|Ca O (dQ _)<|cF fx O O sm sm O O<|aa<|?_
 refine ⟨_,_,rfl,hGF,by intro x hx;simp only[List.mem_cons,List.not_mem_nil,or_false]at hx;subst hx;rfl,by intro x hx;simp only[List.mem_cons,List.not_mem_nil,or_false]at hx;subst hx;rfl,λadr=> ?_⟩
 refine Sa 5 hGF O O O aR<|aa<|ae (E:=EE [1000022])<|Ca O (sk)<|Al 6 hGF zv92<|λb6=>Sa 6 hGF O O O aR<|aa<|ah<|ae (E:=EE [1000022])<|Mv O<|Mv O<|aa<|am<|cb (ι:={i:Nat // i<=n}) (λy=>[(0,I (n:Int)),(2,pnt b2),(3,pnt b3),(5,.pointer (some ⟨(adr 5),0,none⟩)),(6,pnt b6),(18,I (n:Int)),(19,I (y.1:Int))]) (λy=>[(2,b2,(fe 0++fe 0).map U64,92),(3,b3,(fe SR).map U64,52),(5,adr 5,(fe SR++fe (-SR)).map U64,92),(6,b6,(fe (GV y.1).1++fe (GV y.1).2).map U64,92)]) (λy=>n-y.1) ⟨0,Nat.zero_le _⟩ hGF trv trv<|?_;rintro ⟨i,hi⟩;dsimp only;refine ae (E:=EE [1000022])<|Bnr O O (λ_=>aC _ _ _)<|aa<|ah<|?_;refine bE O (λhc=> ?_) (λhc=> ?_)
 ·simp only[decide_eq_true_eq]at hc
  refine aq<|ah<|am<|Xe [1000022]<|La 6 O O aR<|Ca O (nv _)<|La 5 O O aR<|Ca O (dv (cj2 (GV i)) ((SR,-SR):W2))<|Sa 6 hGF O O O aR<|aa<|bQ (E:=EE [1000022])<|Bnr O O (λ_=>az _ _ _ oi)<|Mv O<|aa<|?_
  repeat (refine aW ?_)
  exact aQ<|⟨rfl,⟨i+1,om⟩,_,by show n-(i+1)<n-i;omega,rfl,trv,⟨rfl,rfl,rfl,by rw[GV_s i];rfl,trivial⟩⟩
 ·obtain rfl:n=i:=by simp at hc;omega
  refine a6<|ae (E:=EE [1000022])<|La 6 O O aR<|Sa 2 hGF O O O aR<|aa<|ak<|Rr<|?_;exact au 2 O O O isAgg92 sizeOf92 sm (λw hw=>⟨rfl,ac hw⟩)
theorem A9(x:W12)(n:Int):PUR 235 [cv x,I n] (cv (jS x (n % 12).toNat)):=by
 intro w hw;have hGF:BOk Gt (pl w):=gt_low.plain hw;obtain ⟨m,hm⟩: ∃m:Nat,(n % 12).toNat=m:=⟨_,rfl⟩;have hm6:m<12:=om;rw[hm,BC];refine ck (G:=Gt) func235 O O (Hp (pl w) []) (bZ (pl w) trivial ap) (ay hGF)<|ae (E:=EE [274])<|Bx 2 hGF O<|λb2=>iz 3 hGF O O O<|λb3=>Al 4 hGF zv233<|λb4=>aa<|ae (E:=EE [274])<|cG 3 O O O isAgg3 O O<|Bnr (v:=I (n.tmod 12)) O O (λ_=>d7 _ _ _ dc)<|Bnr (v:=I (n.tmod 12+12)) O O (λ_=>az _ _ _ (Gp n))<|Bnr (v:=I (m:Int)) O O (λ_=>(d7 _ _ _ dc).trans (by rw[Zv,hm]))<|da 3 hGF O O O sizeOf3 O (by show 0<1;decide) O<|aa<|ae (E:=EE [274])<|cG 3 O O O isAgg3 O O<|Ca O (IR m om)<|Ca O (sk)<|Al 5 hGF zv92<|λb5=>Al 6 hGF zv92<|λb6=>Sa 5 hGF O O O aR<|Sa 6 hGF O O O aR<|aa<|ae (E:=EE [274])<|Al 7 hGF zv307<|λb7=>aa<|ah<|ae (E:=EE [274])<|La 2 O O e9<|?_
 refine dp O O ent274 O O (λw' hw'=>(rE x w' (hGF.g _ _ _ hw')).mono λe' w'' h=> ?_);obtain ⟨c1,rfl,hg,h1,ho⟩:=h;refine ⟨_,_,rfl,ay hGF,hw'.news ap hg [(33,c1,(((fe (x.1.1).1++fe (x.1.1).2)++((fe (x.1.2.1).1++fe (x.1.2.1).2)++(fe (x.1.2.2).1++fe (x.1.2.2).2)))++((fe (x.2.1).1++fe (x.2.1).2)++((fe (x.2.2.1).1++fe (x.2.2.1).2)++(fe (x.2.2.2).1++fe (x.2.2.2).2)))).map U64,233)] ?_ bR, ?_⟩
 ·intro n' b' c' t' hl
  rcases aK hl with ⟨_,e⟩|⟨_,hl⟩
  ·cases e;exact ⟨h1,ho⟩
  ·cases hl
 clear hw' hg h1 ho;refine aa<|am<|?_;refine ep (λ_=>pl w) (λ_ _=>pl w) (λ_=>hGF) (λ_ _=>hGF) (λ_=>rfl) (λ_ _=>rfl) O O ent290 (SZ c1 x) (λv hv=>by obtain ⟨k,hk,rfl⟩:=List.mem_map.1 hv;rfl) O (λk=>[(2,b2,(((fe (x.1.1).1++fe (x.1.1).2)++((fe (x.1.2.1).1++fe (x.1.2.1).2)++(fe (x.1.2.2).1++fe (x.1.2.2).2)))++((fe (x.2.1).1++fe (x.2.1).2)++((fe (x.2.2.1).1++fe (x.2.2.1).2)++(fe (x.2.2.2).1++fe (x.2.2.2).2)))).map U64,233),(3,b3,[I (m:Int)],3),(4,b4,(((fe 0++fe 0)++((fe 0++fe 0)++(fe 0++fe 0)))++((fe 0++fe 0)++((fe 0++fe 0)++(fe 0++fe 0)))).map U64,233),(5,b5,(fe (GV m).1++fe (GV m).2).map U64,92),(6,b6,(fe (pw2 (GV m) k).1++fe (pw2 (GV m) k).2).map U64,92),(7,b7,(FM (FF (λj=>if j<k then frq (p12 x j) m j else ze2)) 6).map U64,307),(33,c1,(((fe (x.1.1).1++fe (x.1.1).2)++((fe (x.1.2.1).1++fe (x.1.2.1).2)++(fe (x.1.2.2).1++fe (x.1.2.2).2)))++((fe (x.2.1).1++fe (x.2.1).2)++((fe (x.2.2.1).1++fe (x.2.2.1).2)++(fe (x.2.2.2).1++fe (x.2.2.2).2)))).map U64,233)]) (λ_ _ _=>False) ⟨rfl,rfl,rfl,rfl,rfl,congrArg (λl=>some (b7,l,_)) (congrArg (List.map U64) (wz λj _=>(if_neg (Nat.not_lt_zero j)).symm)),rfl,trivial⟩ (λk _ w' h=>aX (n:=33) O w' h) ?_ ?_ (λ_ _ _ _ _ h=>h.elim)
 ·intro k v hx R hR
  obtain ⟨hk,rfl⟩:=K2 x k v hx;refine ae (E:=EE [274])<|Asg O<|aa<|bQ (E:=EE [274])<|dJ 9 (hR (pl w) O hGF).1 zv92 O O<|λb9=>aA 9 (hR (pl w) O hGF).1 O O O sizeOf92 sm sm (bi _) O<|aa<|?_;refine ⟨rfl,_,rfl, ?_⟩;refine am<|ah<|ae (E:=EE [274])<|cG 3 O O O isAgg3 O O<|Bnr (v:=I ((m % 2:Nat):Int)) O O (λ_=>d7 _ _ _ dc)<|Bnr O O (λ_=>cq _ _ _)<|aa<|?_;refine bE O (λhc=> ?_) (λhc=> ?_)
  ·have hp:m % 2=1:=by simp at hc;omega
   refine bQ (E:=EE [274])<|La 9 O O aR<|Ca O (nv _)<|aA 9 (hR (pl w) O hGF).2.1 O O O sizeOf92 sm sm (bi _) O<|aa<|ae (E:=EE [274])<|Mv O<|La 9 O O aR<|La 6 O O aR<|Ca O (dv _ _)<|eY (k) (12*(k)) O O underlying307 sizeOf92 om om om O O<|ll 7 ((FM (FF (λj=>if j<k+1 then frq (p12 x j) m j else ze2)) 6).map U64) (hR (pl w) O hGF).2.1 O O O sizeOf92 sm (bi _) (by simp;omega) (uk _ _ (ml2 (cj2 (p12 x k)) (pw2 (GV m) k)) 6 (k) _ om O (λj _=>by rw[<-WI hp];exact zg (λj=>frq (p12 x j) m j) (λ_=>ze2) k j)) O<|aa<|bQ (E:=EE [274])<|La 6 O O aR<|La 5 O O aR<|Ca O (dv _ _)<|aA 6 (hR (pl w) O hGF).2.1 O O O sizeOf92 sm sm (bi _) O<|aa<|?_
   repeat (refine aW ?_)
   exact ⟨_,rfl,trv⟩
  ·have hp: ¬m % 2=1:=by simp at hc;omega
   refine aq<|ae (E:=EE [274])<|Mv O<|La 9 O O aR<|La 6 O O aR<|Ca O (dv _ _)<|eY (k) (12*(k)) O O underlying307 sizeOf92 om om om O O<|ll 7 ((FM (FF (λj=>if j<k+1 then frq (p12 x j) m j else ze2)) 6).map U64) (hR (pl w) O hGF).2.1 O O O sizeOf92 sm (bi _) (by simp;omega) (uk _ _ (ml2 (p12 x k) (pw2 (GV m) k)) 6 (k) _ om O (λj _=>by rw[<-WC hp];exact zg (λj=>frq (p12 x j) m j) (λ_=>ze2) k j)) O<|aa<|bQ (E:=EE [274])<|La 6 O O aR<|La 5 O O aR<|Ca O (dv _ _)<|aA 6 (hR (pl w) O hGF).2.1 O O O sizeOf92 sm sm (bi _) O<|aa<|?_
   repeat (refine aW ?_)
   exact ⟨_,rfl,trv⟩
 ·intro D hD
  rw[qB];refine ae (E:=EE [274])<|La 7 O O Nc<|Ca O (VG _)<|Sa 4 hD O O O e9<|aa<|ak<|Rr<|?_;exact dr (.inl O) ap (au 4 O O O isAgg233 sizeOf233 sm (λw hw=>⟨e12 O O,ac hw⟩))
end Q6
section
attribute [local simp] Q6.eX Q6.fZ
theorem ent237:ai prog 237:=λ_ _=>kr
theorem ent234:ai prog 234:=λ_ _=>kr
theorem ent212:ai prog 212:=λ_ _=>kr
theorem ent211:ai prog 211:=λ_ _=>kr
theorem ent118:ai prog 118:=λ_ _=>kr
namespace Q6
def pwu(u:Nat)(x:W12):W12:=K12.pw x u
theorem Ww(x:W12):PUR 237 [cv x] (cv (pwu UG x)):=by
 intro w hw;have hGF:BOk Gt (pl w):=gt_low.plain hw;refine ck (G:=Gt) func237 O O (Hp (pl w) []) (bZ (pl w) trivial ap) (ay hGF)<|Xp<|Bx 1 hGF O<|λb1=>Al 2 hGF zv233<|λb2=>aa<|Xp<|La 1 O O e9<|Al 3 hGF zv233<|λb3=>Sa 3 hGF O O O e9<|aa<|ah<|Xp<|Ca O (ym)<|aa<|am<|?_;refine ep (λ_=>pl w) (λ_ _=>pl w) (λ_=>hGF) (λ_ _=>hGF) (λ_=>rfl) (λ_ _=>rfl) O O ent240 qb (λx hx=>by obtain ⟨k,hk,rfl⟩:=List.mem_map.1 hx;rfl) O (λk=>[(1,b1,nY x,233),(2,b2,(((fe 0++fe 0)++((fe 0++fe 0)++(fe 0++fe 0)))++((fe 0++fe 0)++((fe 0++fe 0)++(fe 0++fe 0)))).map U64,233),(3,b3,nY (pwD x k),233)]) (λ_ _ _=>False) ⟨rfl,rfl,by rw[show pwD x 0=x from K12.pw_one x];rfl,trivial⟩ (λ_ _ _ _=>trivial) ?_ ?_ (λ_ _ _ _ _ h=>h.elim)
 ·intro k v hx R hR
  obtain ⟨hk,rfl⟩:=xg hx;refine Xq<|Asg O<|aa<|?_;refine ⟨rfl,_,rfl, ?_⟩;refine am<|Xp<|La 3 O O e9<|Ca O (je _)<|aA 3 (hR (pl w) O hGF).2.1 O O O sizeOf233 sm sm (bi _) O<|aa<|Xp<|Mv O<|aa<|?_;refine bE O (λhc=> ?_) (λhc=> ?_)
  ·have hd:DGb k=true:=by simpa using hc
   refine Xq<|La 3 O O e9<|La 1 O O e9<|Ca O (yf _ _)<|aA 3 (hR (pl w) O hGF).2.1 O O O sizeOf233 sm sm (bi _) O<|aa<|?_
   repeat (first|refine aW ?_|refine ce ?_)
   exact ⟨_,rfl,⟨rfl,rfl,by first|(rw[<-NJ x hk hd];rfl)|(rw[<-Nk x hk hd];rfl),trivial⟩⟩
  ·have hd:DGb k=false:=by simpa using hc
   refine aq ?_
   repeat (first|refine aW ?_|refine ce ?_)
   exact ⟨_,rfl,⟨rfl,rfl,by first|(rw[<-NJ x hk hd];rfl)|(rw[<-Nk x hk hd];rfl),trivial⟩⟩
 ·intro D hD
  rw[mM];refine Xp<|La 3 O O e9<|Sa 2 hD O O O e9<|aa<|ak<|Rr<|?_;exact dr (.inl O) ap (au 2 O O O isAgg233 sizeOf233 sm (λw hw=>⟨by rw[pwu,<-T4],ac hw⟩))
abbrev HF(f:W12->W12):Prop:= ∀x,PUR 237 [cv x] (cv (f x))
def agI(m:Nat):Ag Unit where
 of:=λv=>match v with
  | .inr (.inr (.inl (.int .i64 (.ofNat n))))=>bif Nat.beq n m then some ()else none
  |_=>none
 dn:=λ_=>I (m:Int)
 ok:=λv x r h=>by
  split at h
  ·rename_i n
   obtain ⟨h1,h⟩:=eK h;show Value.int .i64 (Int.ofNat n)=I (m:Int);rw[Nat.eq_of_beq_eq_true h1];rfl
  ·cases h
theorem S6(x:W12):PUR 235 [cv x,I 1] (cv (bU x)):=A9 x 1
theorem Pf(x:W12):PUR 235 [cv x,I 2] (cv (bU (bU x))):=A9 x 2
theorem wfr{f:Nat}{g:W12->W12}(m:Nat)(en:ai prog f)(h: ∀a,PUR f [cv a,I (m:Int)] (cv (g a))):Snd prog Gt f (c2 q12.ag (agI m) q12.rd (λa _=>g a)):=f9 q12.ag (agI m) q12.rd en (λa _=>bF (l2 (V12 _).symm O) (V12 _).symm (h a))
def Zb{f:W12->W12}(hf:HF f):Tb prog Gt:=TO224.add (cR (g:=f) ent237 hf)
def Za{f:W12->W12}(hf:HF f):Tb prog Gt:=(Zb hf).add (wfr (g:=bU) 1 ent235 S6)
def Na{f:W12->W12}(hf:HF f):Tb prog Gt:=(Za hf).add (wfr (g:=λx=>bU (bU x)) 2 ent235 Pf)
theorem PN{α β:Type}(p:α×β):(p.1,p.2)=p:=by cases p;rfl
def pva(f:W12->W12)(x:W12):W12:=K12.mul (f x) x
def pez(x:W12):W12:=fi2 (fi1 x)
def ph1(f:W12->W12)(x:W12):W12:=K12.mul (bU x) (ci (f x))
def ph2(f:W12->W12)(x:W12):W12:=K12.mul (K12.mul (f (f x)) (bU (bU x))) (ci x)
def phd(f:W12->W12)(x:W12):W12:=K12.mul (K12.mul (ph2 f (ph1 f (pva f (pva f x)))) (K12.mul x x)) x
theorem R8{p6:Nat}(h6: ∀x,ci x=K12.pw x p6)(x:W12)(u:Nat):ci (K12.pw x u)=K12.pw (ci x) u:=by rw[h6,h6,<-K12.pw_mul,<-K12.pw_mul,Nat.mul_comm]
theorem ox(x:W12)(u:Nat):ci (K12.pw x u)=K12.pw (ci x) u:=R8 (λx=>(y1 x).symm) x u
theorem H9(u:Nat)(x:W12):fi3 u x=ci (pva (pwu u) x):=by rw[fi3,tnd,<-jg,pva,pwu]
theorem Q2(u:Nat)(x:W12):pva (pwu u) (ci x)=ci (pva (pwu u) x):=by rw[pva,pva,pwu,pwu,<-ox,<-jg]
theorem YI(u:Nat)(x:W12):pva (pwu u) (pva (pwu u) x)=fi3 u (fi3 u x):=by rw[H9,H9,Q2,pI]
theorem Ty(u:Nat)(x:W12):ph1 (pwu u) x=fi4 u x:=by rw[ph1,fi4,tnd,pwu];exact K12.mul_comm _ _
theorem Ra(u:Nat)(x:W12):ph2 (pwu u) x=fi5 u x:=by rw[ph2,fi5,tnd,tnd,<-ox,pI,pwu,pwu]
theorem Qb(u:Nat)(x:W12):phd (pwu u) x=fi6 u x:=by
 rw[phd,YI,Ty,Ra];show K12.mul (K12.mul _ (K12.mul _ _)) _=K12.mul (K12.mul (K12.mul _ _) _) _;rw[<-K12.mul_assoc]
theorem Rw(u:Nat)(x:W12):s4 u x=phd (pwu u) (pez x):=by rw[s4,Qb,pez]
def iy(f:W12->W12)(x:W12):W12:=
 let t0:=f x
 let t1:=K12.mul (((t0.1.1.1,t0.1.1.2),(t0.1.2.1.1,t0.1.2.1.2),(t0.1.2.2.1,t0.1.2.2.2)),((t0.2.1.1,t0.2.1.2),(t0.2.2.1.1,t0.2.2.1.2),(t0.2.2.2.1,t0.2.2.2.2))) x
 t1
theorem Iy(f:W12->W12)(x:W12):iy f x=pva f x:=by
 unfold iy;simp only[PN];rfl
theorem Yy{f:W12->W12}(hf:HF f)(x:W12):PUR 234 [cv x] (cv (iy f x)):=(bF (l1 (V12 _)) (V12 _) (pE (Na hf) func234 [.inl [x.1.1.1,x.1.1.2,x.1.2.1.1,x.1.2.1.2,x.1.2.2.1,x.1.2.2.2,x.2.1.1,x.2.1.2,x.2.2.1.1,x.2.2.1.2,x.2.2.2.1,x.2.2.2.2]] (.inl (.inl [(iy f x).1.1.1,(iy f x).1.1.2,(iy f x).1.2.1.1,(iy f x).1.2.1.2,(iy f x).1.2.2.1,(iy f x).1.2.2.2,(iy f x).2.1.1,(iy f x).2.1.2,(iy f x).2.2.1.1,(iy f x).2.2.1.2,(iy f x).2.2.2.1,(iy f x).2.2.2.2])) (let t0:=f x;let t1:=K12.mul (((t0.1.1.1,t0.1.1.2),(t0.1.2.1.1,t0.1.2.1.2),(t0.1.2.2.1,t0.1.2.2.2)),((t0.2.1.1,t0.2.1.2),(t0.2.2.1.1,t0.2.2.1.2),(t0.2.2.2.1,t0.2.2.2.2))) x;(.inl (.inl [t1.1.1.1,t1.1.1.2,t1.1.2.1.1,t1.1.2.1.2,t1.1.2.2.1,t1.1.2.2.2,t1.2.1.1,t1.2.1.2,t1.2.2.1.1,t1.2.2.1.2,t1.2.2.2.1,t1.2.2.2.2]),[])) [] kr aD kr))
theorem ppva{f:W12->W12}(hf:HF f)(x:W12):PUR 234 [cv x] (cv (pva f x)):=by rw[<-Iy];exact Yy hf x
def Ng{f:W12->W12}(hf:HF f):Tb prog Gt:=(Na hf).add (cR (g:=pva f) ent234 (ppva hf))
def ip(x:W12):W12:=
 let t0:=ci x
 let t1:=i8 x
 let t2:=K12.mul (((t0.1.1.1,t0.1.1.2),(t0.1.2.1.1,t0.1.2.1.2),(t0.1.2.2.1,t0.1.2.2.2)),((t0.2.1.1,t0.2.1.2),(t0.2.2.1.1,t0.2.2.1.2),(t0.2.2.2.1,t0.2.2.2.2))) (((t1.1.1.1,t1.1.1.2),(t1.1.2.1.1,t1.1.2.1.2),(t1.1.2.2.1,t1.1.2.2.2)),((t1.2.1.1,t1.2.1.2),(t1.2.2.1.1,t1.2.2.1.2),(t1.2.2.2.1,t1.2.2.2.2)))
 let t3:=bU (bU (((t2.1.1.1,t2.1.1.2),(t2.1.2.1.1,t2.1.2.1.2),(t2.1.2.2.1,t2.1.2.2.2)),((t2.2.1.1,t2.2.1.2),(t2.2.2.1.1,t2.2.2.1.2),(t2.2.2.2.1,t2.2.2.2.2))))
 let t4:=K12.mul (((t3.1.1.1,t3.1.1.2),(t3.1.2.1.1,t3.1.2.1.2),(t3.1.2.2.1,t3.1.2.2.2)),((t3.2.1.1,t3.2.1.2),(t3.2.2.1.1,t3.2.2.1.2),(t3.2.2.2.1,t3.2.2.2.2))) (((t2.1.1.1,t2.1.1.2),(t2.1.2.1.1,t2.1.2.1.2),(t2.1.2.2.1,t2.1.2.2.2)),((t2.2.1.1,t2.2.1.2),(t2.2.2.1.1,t2.2.2.1.2),(t2.2.2.2.1,t2.2.2.2.2)))
 t4
theorem Ig(x:W12):ip x=pez x:=by
 unfold ip;simp only[PN];rfl
theorem XV{f:W12->W12}(hf:HF f)(x:W12):PUR 212 [cv x] (cv (ip x)):=(bF (l1 (V12 _)) (V12 _) (pE (Ng hf) func212 [.inl [x.1.1.1,x.1.1.2,x.1.2.1.1,x.1.2.1.2,x.1.2.2.1,x.1.2.2.2,x.2.1.1,x.2.1.2,x.2.2.1.1,x.2.2.1.2,x.2.2.2.1,x.2.2.2.2]] (.inl (.inl [(ip x).1.1.1,(ip x).1.1.2,(ip x).1.2.1.1,(ip x).1.2.1.2,(ip x).1.2.2.1,(ip x).1.2.2.2,(ip x).2.1.1,(ip x).2.1.2,(ip x).2.2.1.1,(ip x).2.2.1.2,(ip x).2.2.2.1,(ip x).2.2.2.2])) (let t0:=ci x;let t1:=i8 x;let t2:=K12.mul (((t0.1.1.1,t0.1.1.2),(t0.1.2.1.1,t0.1.2.1.2),(t0.1.2.2.1,t0.1.2.2.2)),((t0.2.1.1,t0.2.1.2),(t0.2.2.1.1,t0.2.2.1.2),(t0.2.2.2.1,t0.2.2.2.2))) (((t1.1.1.1,t1.1.1.2),(t1.1.2.1.1,t1.1.2.1.2),(t1.1.2.2.1,t1.1.2.2.2)),((t1.2.1.1,t1.2.1.2),(t1.2.2.1.1,t1.2.2.1.2),(t1.2.2.2.1,t1.2.2.2.2)));let t3:=bU (bU (((t2.1.1.1,t2.1.1.2),(t2.1.2.1.1,t2.1.2.1.2),(t2.1.2.2.1,t2.1.2.2.2)),((t2.2.1.1,t2.2.1.2),(t2.2.2.1.1,t2.2.2.1.2),(t2.2.2.2.1,t2.2.2.2.2))));let t4:=K12.mul (((t3.1.1.1,t3.1.1.2),(t3.1.2.1.1,t3.1.2.1.2),(t3.1.2.2.1,t3.1.2.2.2)),((t3.2.1.1,t3.2.1.2),(t3.2.2.1.1,t3.2.2.1.2),(t3.2.2.2.1,t3.2.2.2.2))) (((t2.1.1.1,t2.1.1.2),(t2.1.2.1.1,t2.1.2.1.2),(t2.1.2.2.1,t2.1.2.2.2)),((t2.2.1.1,t2.2.1.2),(t2.2.2.1.1,t2.2.2.1.2),(t2.2.2.2.1,t2.2.2.2.2)));(.inl (.inl [t4.1.1.1,t4.1.1.2,t4.1.2.1.1,t4.1.2.1.2,t4.1.2.2.1,t4.1.2.2.2,t4.2.1.1,t4.2.1.2,t4.2.2.1.1,t4.2.2.1.2,t4.2.2.2.1,t4.2.2.2.2]),[])) [] kr aD kr))
theorem ppez{f:W12->W12}(hf:HF f)(x:W12):PUR 212 [cv x] (cv (pez x)):=by rw[<-Ig];exact XV hf x
def MS{f:W12->W12}(hf:HF f):Tb prog Gt:=(Ng hf).add (cR (g:=pez) ent212 (ppez hf))
def io(f:W12->W12)(x:W12):W12:=
 let t0:=pva f x
 let t1:=pva f (((t0.1.1.1,t0.1.1.2),(t0.1.2.1.1,t0.1.2.1.2),(t0.1.2.2.1,t0.1.2.2.2)),((t0.2.1.1,t0.2.1.2),(t0.2.2.1.1,t0.2.2.1.2),(t0.2.2.2.1,t0.2.2.2.2)))
 let t2:=bU (((t1.1.1.1,t1.1.1.2),(t1.1.2.1.1,t1.1.2.1.2),(t1.1.2.2.1,t1.1.2.2.2)),((t1.2.1.1,t1.2.1.2),(t1.2.2.1.1,t1.2.2.1.2),(t1.2.2.2.1,t1.2.2.2.2)))
 let t3:=f (((t1.1.1.1,t1.1.1.2),(t1.1.2.1.1,t1.1.2.1.2),(t1.1.2.2.1,t1.1.2.2.2)),((t1.2.1.1,t1.2.1.2),(t1.2.2.1.1,t1.2.2.1.2),(t1.2.2.2.1,t1.2.2.2.2)))
 let t4:=ci (((t3.1.1.1,t3.1.1.2),(t3.1.2.1.1,t3.1.2.1.2),(t3.1.2.2.1,t3.1.2.2.2)),((t3.2.1.1,t3.2.1.2),(t3.2.2.1.1,t3.2.2.1.2),(t3.2.2.2.1,t3.2.2.2.2)))
 let t5:=K12.mul (((t2.1.1.1,t2.1.1.2),(t2.1.2.1.1,t2.1.2.1.2),(t2.1.2.2.1,t2.1.2.2.2)),((t2.2.1.1,t2.2.1.2),(t2.2.2.1.1,t2.2.2.1.2),(t2.2.2.2.1,t2.2.2.2.2))) (((t4.1.1.1,t4.1.1.2),(t4.1.2.1.1,t4.1.2.1.2),(t4.1.2.2.1,t4.1.2.2.2)),((t4.2.1.1,t4.2.1.2),(t4.2.2.1.1,t4.2.2.1.2),(t4.2.2.2.1,t4.2.2.2.2)))
 let t6:=f (((t5.1.1.1,t5.1.1.2),(t5.1.2.1.1,t5.1.2.1.2),(t5.1.2.2.1,t5.1.2.2.2)),((t5.2.1.1,t5.2.1.2),(t5.2.2.1.1,t5.2.2.1.2),(t5.2.2.2.1,t5.2.2.2.2)))
 let t7:=f (((t6.1.1.1,t6.1.1.2),(t6.1.2.1.1,t6.1.2.1.2),(t6.1.2.2.1,t6.1.2.2.2)),((t6.2.1.1,t6.2.1.2),(t6.2.2.1.1,t6.2.2.1.2),(t6.2.2.2.1,t6.2.2.2.2)))
 let t8:=bU (bU (((t5.1.1.1,t5.1.1.2),(t5.1.2.1.1,t5.1.2.1.2),(t5.1.2.2.1,t5.1.2.2.2)),((t5.2.1.1,t5.2.1.2),(t5.2.2.1.1,t5.2.2.1.2),(t5.2.2.2.1,t5.2.2.2.2))))
 let t9:=K12.mul (((t7.1.1.1,t7.1.1.2),(t7.1.2.1.1,t7.1.2.1.2),(t7.1.2.2.1,t7.1.2.2.2)),((t7.2.1.1,t7.2.1.2),(t7.2.2.1.1,t7.2.2.1.2),(t7.2.2.2.1,t7.2.2.2.2))) (((t8.1.1.1,t8.1.1.2),(t8.1.2.1.1,t8.1.2.1.2),(t8.1.2.2.1,t8.1.2.2.2)),((t8.2.1.1,t8.2.1.2),(t8.2.2.1.1,t8.2.2.1.2),(t8.2.2.2.1,t8.2.2.2.2)))
 let t10:=ci (((t5.1.1.1,t5.1.1.2),(t5.1.2.1.1,t5.1.2.1.2),(t5.1.2.2.1,t5.1.2.2.2)),((t5.2.1.1,t5.2.1.2),(t5.2.2.1.1,t5.2.2.1.2),(t5.2.2.2.1,t5.2.2.2.2)))
 let t11:=K12.mul (((t9.1.1.1,t9.1.1.2),(t9.1.2.1.1,t9.1.2.1.2),(t9.1.2.2.1,t9.1.2.2.2)),((t9.2.1.1,t9.2.1.2),(t9.2.2.1.1,t9.2.2.1.2),(t9.2.2.2.1,t9.2.2.2.2))) (((t10.1.1.1,t10.1.1.2),(t10.1.2.1.1,t10.1.2.1.2),(t10.1.2.2.1,t10.1.2.2.2)),((t10.2.1.1,t10.2.1.2),(t10.2.2.1.1,t10.2.2.1.2),(t10.2.2.2.1,t10.2.2.2.2)))
 let t12:=K12.mul x x
 let t13:=K12.mul (((t11.1.1.1,t11.1.1.2),(t11.1.2.1.1,t11.1.2.1.2),(t11.1.2.2.1,t11.1.2.2.2)),((t11.2.1.1,t11.2.1.2),(t11.2.2.1.1,t11.2.2.1.2),(t11.2.2.2.1,t11.2.2.2.2))) (((t12.1.1.1,t12.1.1.2),(t12.1.2.1.1,t12.1.2.1.2),(t12.1.2.2.1,t12.1.2.2.2)),((t12.2.1.1,t12.2.1.2),(t12.2.2.1.1,t12.2.2.1.2),(t12.2.2.2.1,t12.2.2.2.2)))
 let t14:=K12.mul (((t13.1.1.1,t13.1.1.2),(t13.1.2.1.1,t13.1.2.1.2),(t13.1.2.2.1,t13.1.2.2.2)),((t13.2.1.1,t13.2.1.2),(t13.2.2.1.1,t13.2.2.1.2),(t13.2.2.2.1,t13.2.2.2.2))) x
 t14
theorem DD(f:W12->W12)(x:W12):io f x=phd f x:=by
 unfold io;simp only[PN];rfl
theorem UY{f:W12->W12}(hf:HF f)(x:W12):PUR 211 [cv x] (cv (io f x)):=(bF (l1 (V12 _)) (V12 _) (pE (MS hf) func211 [.inl [x.1.1.1,x.1.1.2,x.1.2.1.1,x.1.2.1.2,x.1.2.2.1,x.1.2.2.2,x.2.1.1,x.2.1.2,x.2.2.1.1,x.2.2.1.2,x.2.2.2.1,x.2.2.2.2]] (.inl (.inl [(io f x).1.1.1,(io f x).1.1.2,(io f x).1.2.1.1,(io f x).1.2.1.2,(io f x).1.2.2.1,(io f x).1.2.2.2,(io f x).2.1.1,(io f x).2.1.2,(io f x).2.2.1.1,(io f x).2.2.1.2,(io f x).2.2.2.1,(io f x).2.2.2.2])) (let t0:=pva f x;let t1:=pva f (((t0.1.1.1,t0.1.1.2),(t0.1.2.1.1,t0.1.2.1.2),(t0.1.2.2.1,t0.1.2.2.2)),((t0.2.1.1,t0.2.1.2),(t0.2.2.1.1,t0.2.2.1.2),(t0.2.2.2.1,t0.2.2.2.2)));let t2:=bU (((t1.1.1.1,t1.1.1.2),(t1.1.2.1.1,t1.1.2.1.2),(t1.1.2.2.1,t1.1.2.2.2)),((t1.2.1.1,t1.2.1.2),(t1.2.2.1.1,t1.2.2.1.2),(t1.2.2.2.1,t1.2.2.2.2)));let t3:=f (((t1.1.1.1,t1.1.1.2),(t1.1.2.1.1,t1.1.2.1.2),(t1.1.2.2.1,t1.1.2.2.2)),((t1.2.1.1,t1.2.1.2),(t1.2.2.1.1,t1.2.2.1.2),(t1.2.2.2.1,t1.2.2.2.2)));let t4:=ci (((t3.1.1.1,t3.1.1.2),(t3.1.2.1.1,t3.1.2.1.2),(t3.1.2.2.1,t3.1.2.2.2)),((t3.2.1.1,t3.2.1.2),(t3.2.2.1.1,t3.2.2.1.2),(t3.2.2.2.1,t3.2.2.2.2)));let t5:=K12.mul (((t2.1.1.1,t2.1.1.2),(t2.1.2.1.1,t2.1.2.1.2),(t2.1.2.2.1,t2.1.2.2.2)),((t2.2.1.1,t2.2.1.2),(t2.2.2.1.1,t2.2.2.1.2),(t2.2.2.2.1,t2.2.2.2.2))) (((t4.1.1.1,t4.1.1.2),(t4.1.2.1.1,t4.1.2.1.2),(t4.1.2.2.1,t4.1.2.2.2)),((t4.2.1.1,t4.2.1.2),(t4.2.2.1.1,t4.2.2.1.2),(t4.2.2.2.1,t4.2.2.2.2)));let t6:=f (((t5.1.1.1,t5.1.1.2),(t5.1.2.1.1,t5.1.2.1.2),(t5.1.2.2.1,t5.1.2.2.2)),((t5.2.1.1,t5.2.1.2),(t5.2.2.1.1,t5.2.2.1.2),(t5.2.2.2.1,t5.2.2.2.2)));let t7:=f (((t6.1.1.1,t6.1.1.2),(t6.1.2.1.1,t6.1.2.1.2),(t6.1.2.2.1,t6.1.2.2.2)),((t6.2.1.1,t6.2.1.2),(t6.2.2.1.1,t6.2.2.1.2),(t6.2.2.2.1,t6.2.2.2.2)));let t8:=bU (bU (((t5.1.1.1,t5.1.1.2),(t5.1.2.1.1,t5.1.2.1.2),(t5.1.2.2.1,t5.1.2.2.2)),((t5.2.1.1,t5.2.1.2),(t5.2.2.1.1,t5.2.2.1.2),(t5.2.2.2.1,t5.2.2.2.2))));let t9:=K12.mul (((t7.1.1.1,t7.1.1.2),(t7.1.2.1.1,t7.1.2.1.2),(t7.1.2.2.1,t7.1.2.2.2)),((t7.2.1.1,t7.2.1.2),(t7.2.2.1.1,t7.2.2.1.2),(t7.2.2.2.1,t7.2.2.2.2))) (((t8.1.1.1,t8.1.1.2),(t8.1.2.1.1,t8.1.2.1.2),(t8.1.2.2.1,t8.1.2.2.2)),((t8.2.1.1,t8.2.1.2),(t8.2.2.1.1,t8.2.2.1.2),(t8.2.2.2.1,t8.2.2.2.2)));let t10:=ci (((t5.1.1.1,t5.1.1.2),(t5.1.2.1.1,t5.1.2.1.2),(t5.1.2.2.1,t5.1.2.2.2)),((t5.2.1.1,t5.2.1.2),(t5.2.2.1.1,t5.2.2.1.2),(t5.2.2.2.1,t5.2.2.2.2)));let t11:=K12.mul (((t9.1.1.1,t9.1.1.2),(t9.1.2.1.1,t9.1.2.1.2),(t9.1.2.2.1,t9.1.2.2.2)),((t9.2.1.1,t9.2.1.2),(t9.2.2.1.1,t9.2.2.1.2),(t9.2.2.2.1,t9.2.2.2.2))) (((t10.1.1.1,t10.1.1.2),(t10.1.2.1.1,t10.1.2.1.2),(t10.1.2.2.1,t10.1.2.2.2)),((t10.2.1.1,t10.2.1.2),(t10.2.2.1.1,t10.2.2.1.2),(t10.2.2.2.1,t10.2.2.2.2)));let t12:=K12.mul x x;let t13:=K12.mul (((t11.1.1.1,t11.1.1.2),(t11.1.2.1.1,t11.1.2.1.2),(t11.1.2.2.1,t11.1.2.2.2)),((t11.2.1.1,t11.2.1.2),(t11.2.2.1.1,t11.2.2.1.2),(t11.2.2.2.1,t11.2.2.2.2))) (((t12.1.1.1,t12.1.1.2),(t12.1.2.1.1,t12.1.2.1.2),(t12.1.2.2.1,t12.1.2.2.2)),((t12.2.1.1,t12.2.1.2),(t12.2.2.1.1,t12.2.2.1.2),(t12.2.2.2.1,t12.2.2.2.2)));let t14:=K12.mul (((t13.1.1.1,t13.1.1.2),(t13.1.2.1.1,t13.1.2.1.2),(t13.1.2.2.1,t13.1.2.2.2)),((t13.2.1.1,t13.2.1.2),(t13.2.2.1.1,t13.2.2.1.2),(t13.2.2.2.1,t13.2.2.2.2))) x;(.inl (.inl [t14.1.1.1,t14.1.1.2,t14.1.2.1.1,t14.1.2.1.2,t14.1.2.2.1,t14.1.2.2.2,t14.2.1.1,t14.2.1.2,t14.2.2.1.1,t14.2.2.1.2,t14.2.2.2.1,t14.2.2.2.2]),[])) [] kr aD kr))
theorem pphd{f:W12->W12}(hf:HF f)(x:W12):PUR 211 [cv x] (cv (phd f x)):=by rw[<-DD];exact UY hf x
def Vz{f:W12->W12}(hf:HF f):Tb prog Gt:=(MS hf).add (cR (g:=phd f) ent211 (pphd hf))
theorem KJ{f:W12->W12}(hf:HF f)(x:W12):PUR 177 [cv x] (cv (phd f (pez x))):=(bF (l1 (V12 _)) (V12 _) (pE (Vz hf) func177 [.inl [x.1.1.1,x.1.1.2,x.1.2.1.1,x.1.2.1.2,x.1.2.2.1,x.1.2.2.2,x.2.1.1,x.2.1.2,x.2.2.1.1,x.2.2.1.2,x.2.2.2.1,x.2.2.2.2]] (.inl (.inl [(phd f (pez x)).1.1.1,(phd f (pez x)).1.1.2,(phd f (pez x)).1.2.1.1,(phd f (pez x)).1.2.1.2,(phd f (pez x)).1.2.2.1,(phd f (pez x)).1.2.2.2,(phd f (pez x)).2.1.1,(phd f (pez x)).2.1.2,(phd f (pez x)).2.2.1.1,(phd f (pez x)).2.2.1.2,(phd f (pez x)).2.2.2.1,(phd f (pez x)).2.2.2.2])) (let t0:=pez x;let t1:=phd f (((t0.1.1.1,t0.1.1.2),(t0.1.2.1.1,t0.1.2.1.2),(t0.1.2.2.1,t0.1.2.2.2)),((t0.2.1.1,t0.2.1.2),(t0.2.2.1.1,t0.2.2.1.2),(t0.2.2.2.1,t0.2.2.2.2)));(.inl (.inl [t1.1.1.1,t1.1.1.2,t1.1.2.1.1,t1.1.2.1.2,t1.1.2.2.1,t1.1.2.2.2,t1.2.1.1,t1.2.1.2,t1.2.2.1.1,t1.2.2.1.2,t1.2.2.2.1,t1.2.2.2.2]),[])) [] kr aD kr))
theorem Tv(x:W12):PUR 177 [cv x] (cv (s4 UG x)):=by rw[Rw];exact KJ Ww x
end Q6
end
section
attribute [local simp] Q6.eX Q6.fZ
namespace Q6
theorem RA{f:Nat->J1.GP×J2.GP}{n:Nat}(hf: ∀i,i<n->E2w.times (f i).2.P ORD=none):s4 UG (LPv f n)=FN FE (PRD f n):=by
 rw[DC];exact (TN hf).fn Ks
def PRN(f:Nat->J1.GP×J2.GP):Nat->W12
 |0=>K12.one
 |i+1=>K12.mul (PRN f i) (PR L63 FE (f i).1.P (f i).2.P)
theorem Dm(f:Nat->J1.GP×J2.GP): ∀n,FN FE (PRD f n)=PRN f n
 |0=>mo
 |n+1=>by rw[PRD,qG,Dm f n,PRN,PR]
theorem K9(l c:Nat)(x:Option Addr)(a:W12)(w:World)(hw:Gt w)(hL: ∀w',Gt w'->Grow w w'->CLS 178 [.slice x l c].toArray w' (λy w''=>y=.returned (cv a)/\Grow w' w'')):CLS 118 [.slice x l c].toArray w (λr w'=>r=.returned (.bool (decide (s4 UG a=K12.one)))/\Grow w w'):=by
 refine Hf func118 O hw<|λhGF=>Xp<|Asg O<|aa<|Xp<|Mv O<|Cc O ent178 (λw' hC hG=>hL w' hG (ac hC))<|Ca O (Tv a)<|Ca O (rz)<|Ca O (ru _ _)<|Asg O<|aa<|ak<|Rr<|?_;exact aO O O (λw hw=>⟨rfl,ac hw⟩)
theorem iE{w w':World}{b:Nat}{cs:List Value}(h:w.rangeAt b 0 cs)(hg:Grow w w'):w'.rangeAt b 0 cs:=λj v hv=>(hg.cell (block_lt_of_cell (h j v hv))).trans (h j v hv)
theorem T5(n:Nat)(f:Nat->J1.GP×J2.GP)(b cap:Nat)(hn:n<=1000)(hf: ∀i,i<n->E2w.times (f i).2.P ORD=none)(w:World)(hw:Gt w)(h:w.rangeAt b 0 ((RW 54 (λi=>PRv (f i)) n).map U64)):CLS 118 [.slice (spt b) n cap].toArray w (λr w'=>r=.returned (.bool (decide (PRN f n=K12.one)))/\Grow w w'):=by
 have k:=K9 n cap (spt b) (LPv f n) w hw λw' hG hg=>QK n f b cap hn hf w' hG (iE h hg);rw[RA hf,Dm]at k;exact k
end Q6
end
section
attribute [local simp] iH wu MLl Ux IVRl Ke
abbrev RV(x:Zr):Value:=aI (nr x)
theorem zv27(w:World):(zeroValue 27).run prog w=.ok (aI (List.replicate 6 (0#64))) w:=(zeroValue27 w).trans rr
theorem zv112(w:World):(zeroValue 112).run prog w=.ok (.agg ((List.replicate 32 (0#8)).map U8).toArray) w:=(zeroValue112 w).trans rr
theorem Rm{x y:BitVec 64}(h:(x==y)=true):x=y:=beq_iff_eq.1 h
theorem Rs{x y:BitVec 64}(h:(x==y)=false): ¬x=y:=beq_eq_false_iff_ne.1 h
theorem ent93:ai prog 93:=λ_ _=>kr
theorem qX(n:BitVec 64):PUR 28 [U64 n] (RV (zr n.toNat)):=by
 intro w hw;refine Hf func28 O hw<|λhGF=>Xp<|Al 2 hGF zv27<|λb2=>aa<|Xp<|Mv O<|fH n O underlying25 sizeOf24 zv25 O O<|cn O sm underlying27 O sizeOf25 zv27 O O<|Sa 2 hGF O O O nU<|aa<|ak<|Rr<|?_;exact au 2 O O O isAgg27 sizeOf27 sm (λw hw=>⟨congrArg (λl=>Ending.returned (NV l)) (Ie n),ac hw⟩)
theorem Dc(x y:Zr):PUR 36 [RV x,RV y] (RV (x+y)):=by
 intro w hw;refine Hf func36 O hw<|λhGF=>Xp<|Bx 2 hGF O<|λb2=>Bx 3 hGF O<|λb3=>Al 4 hGF zv27<|λb4=>aa<|Xp<|Fa 0 O underlying27 O sizeOf25<|La 2 O O bT<|Fa 0 O underlying27 O sizeOf25<|La 3 O O bT<|Ca O (mO _ _ sm sm)<|Mv O<|Ext O O<|Ext O O<|Al 5 hGF zv25<|λb5=>Sa 5 hGF O O O bT<|Asg O<|aa<|Xp<|La 5 O O bT<|kv hGF isAgg25 sizeOf25 sm (λ_ h=>h.g1) O O<|Ca O (jw _ _ sm sm)<|Mv O<|Ext O O<|Ext O O<|Al 7 hGF zv25<|λb7=>Sa 7 hGF O O O bT<|Asg O<|aa<|ah<|Xp<|Mv O<|Bnr O O (λ_=>bu _ _ _)<|aa<|?_;refine bE O (λhc=> ?_) (λhc=> ?_)
 ·refine Xp<|La 5 O O bT<|cn O sm underlying27 O sizeOf25 zv27 O O<|Sa 4 hGF O O O nU<|aa<|ak<|Rr<|?_
  exact au 4 O O O isAgg27 sizeOf27 sm (λw hw=>⟨by rw[FX (Rm hc)],ac hw⟩)
 ·refine aq<|Xp<|La 7 O O bT<|cn O sm underlying27 O sizeOf25 zv27 O O<|Sa 4 hGF O O O nU<|aa<|ak<|Rr<|?_
  exact au 4 O O O isAgg27 sizeOf27 sm (λw hw=>⟨by rw[CC (tE (qA _ _ _) (Rs hc))],ac hw⟩)
end
end Go.Proofs.YtfgacclgjklgnaaGreatDoor
