/- L4 -/
import Derived.Test.YtfgacclgjklgnaaGreatDoorL3
import Derived.Test.YtfgacclgjklgnaaGreatDoorM1
import Derived.Test.YtfgacclgjklgnaaGreatDoorM2
import Derived.Test.YtfgacclgjklgnaaGreatDoorX3
import Derived.Test.YtfgacclgjklgnaaGreatDoorXW
set_option maxRecDepth 100000
set_option maxHeartbeats 1000000
namespace Go.Proofs.YtfgacclgjklgnaaGreatDoor
open Go.Proofs.Tryz
section
open Go.RowKit
theorem ent326:ai prog 326:=fun _ _=>kr
theorem ent119:ai prog 119:=fun _ _=>kr
theorem ent142:ai prog 142:=fun _ _=>kr
theorem ent327:ai prog 327:=fun _ _=>kr
theorem ent26:ai prog 26:=fun _ _=>kr
theorem ent329:ai prog 329:=fun _ _=>kr
theorem ent328:ai prog 328:=fun _ _=>kr
theorem ent190:ai prog 190:=fun _ _=>kr
theorem ent208:ai prog 208:=fun _ _=>kr
theorem ent171:ai prog 171:=fun _ _=>kr
theorem ent92:ai prog 92:=fun _ _=>kr
theorem ent56:ai prog 56:=fun _ _=>kr
theorem ent91:ai prog 91:=fun _ _=>kr
namespace J1
attribute [local simp] aT a9 aR aM aC bd aJ aI aA PLl cq cn N1l ck cp cm a5 bc aP aX a8
structure GP where
 J:Zp×Zp×Zp
 P:Pt Zp
 on:E1.onP P
 jr:E1.jr J P
def GL(p:GP):L6:=fe p.J.1++(fe p.J.2.1++fe p.J.2.2)
theorem bf(p:GP):(GL p).length=18:=by simp[GL]
attribute [local simp] bf
abbrev PtV(p:GP):Value:=aQ (GL p)
def PX:Pt Zp→Zp
 |none=>0
 |some p=>p.1
def PY:Pt Zp→Zp
 |none=>0
 |some p=>p.2
def RS4(x:Zp):Zp:=x*x*x+zp 4
abbrev LQ(x:Zp):Prop:=SQr (RS4 x)*SQr (RS4 x)=RS4 x
def LY(x:Zp)(l:Bool):Zp:=if decide (hf<(SQ (RS4 x)).val)=l then SQ (RS4 x)else-(SQ (RS4 x))
theorem ld{x y:Zp}:E1.on (x,y)↔y*y=RS4 x:=by
 show y*y=x*(x*x)+zp 4↔y*y=x*x*x+zp 4
 rw[show x*(x*x)=x*x*x from by grind]
theorem NU(a:Zp): -a* -a=a*a:=by grind
theorem R8(x:Zp)(l:Bool):LY x l=SQ (RS4 x)∨LY x l= -(SQ (RS4 x)):=by
 rw[LY]
 generalize SQ (RS4 x)=s
 by_cases h:decide (hf<s.val)=l
 ·exact .inl (if_pos h)
 ·exact .inr (if_neg h)
theorem Tl{x:Zp}(h:LQ x)(l:Bool):LY x l*LY x l=RS4 x:=by
 have e:=pY h
 rcases R8 x l with k|k
 ·rw[k,e]
 ·rw[k,NU,e]
theorem fw{p:Zp×Zp}(h:E1.on p):E1.onP (some p):=h
theorem Ux{a:Zp}(h:LQ a):LY a false=SQ (RS4 a):=if_pos (decide_eq_false (jR h))
theorem R0{a:Zp}(h:LQ a):LY a true= -(SQ (RS4 a)):=if_neg (by rw[decide_eq_false (jR h)];exact Bool.false_ne_true)
theorem KO{x:Zp}(h:LQ x)(l:Bool):E1.onP (some (x,LY x l)):=fw (ld.2 (Tl h l))
abbrev JV(J:Zp×Zp×Zp):Value:=aQ (fe (J.1)++(fe (J.2.1)++fe (J.2.2)))
theorem ns(w:World):(zeroValue 54).run prog w=.ok (aQ (fe 0++(fe 0++fe 0))) w:=by rw[kA];exact (zeroValue54 w).trans rr
theorem s4:Three prog 54 ⟨ "x",52,0,false, "", "pharos/g1",0⟩ ⟨ "y",52,6,false, "", "pharos/g1",48⟩ ⟨ "z",52,12,false, "", "pharos/g1",96⟩ 6 (fe 0) (fe 0) (fe 0):=⟨underlying54,rfl,rfl,rfl,sizeOf52,sizeOf52,sizeOf52,ns,sm,sm,sm⟩
theorem jsub(a b:Zp):a-b=E1.sub a b:=by show a-b=a+ -b;grind
theorem TK(x y:Zp):PUR 191 [EV x,EV y] (EV (E1.sub x y)):=by
 have h:=mG x y
 rw[jsub]at h
 exact h
def TO61:Tb prog Gt:=TO52.add (eI (g:=E1.sub) ent191 TK)
theorem oP(x:Zp×Zp×Zp):PUR 26 [JV x] (.bool (decide (x.2.2=0))):=pE TO61 func26 [.inl [x.1,x.2.1,x.2.2]] (.inl (.inr (.inl (decide (x.2.2=0))))) (.inl (.inr (.inl (decide (x.2.2=0)))),[]) [] kr aG rfl
theorem Ax{f:Nat}{g:(Zp×Zp×Zp)→Bool}(en:ai prog f)(h: ∀a,PUR f [JV a] (.bool (g a))):Snd prog Gt f (c1 q3.ag rdB g):=fV q3.ag rdB en h
def TO62:Tb prog Gt:=TO61.add (Ax (g:=fun x=>decide (x.2.2=0)) ent26 oP)
theorem nC(x:Zp×Zp×Zp):PUR 119 [JV x] (JV (x.1,-x.2.1,x.2.2)):=pE TO62 func119 [.inl [x.1,x.2.1,x.2.2]] (.inl (.inl [(x.1,-x.2.1,x.2.2).1,(x.1,-x.2.1,x.2.2).2.1,(x.1,-x.2.1,x.2.2).2.2])) (.inl (.inl [x.1,-x.2.1,x.2.2]),[]) [] kr aG rfl
theorem pz{f:Nat}{g:(Zp×Zp×Zp)→(Zp×Zp×Zp)}(en:ai prog f)(h: ∀a,PUR f [JV a] (JV (g a))):Snd prog Gt f (c1 q3.ag q3.rd g):=fV q3.ag q3.rd en h
def TO63:Tb prog Gt:=TO62.add (pz (g:=fun x=>(x.1,-x.2.1,x.2.2)) ent119 nC)
theorem Fc  :PUR 56 [] (JV (0,0,0)):=pE TO63 func56 [] (.inl (.inl [(0,0,0).1,(0,0,0).2.1,(0,0,0).2.2])) (.inl (.inl [0,0,0]),[]) [] kr aG rfl
theorem VH{f:Nat}{g:(Zp×Zp×Zp)}(en:ai prog f)(h:PUR f [] (JV g)):Snd prog Gt f (c0 q3.rd g):=tJ q3.rd en h
def TO64:Tb prog Gt:=TO63.add (VH (g:=(0,0,0)) ent56 Fc)
theorem xz(a:Zp):PUR 208 [EV a] (EV (a*a*a)):=pE TO64 func208 [.inl [a]] (.inl (.inl [a*a*a])) (.inl (.inl [(a*a)*a]),[]) [] kr aG rfl
def TO65:Tb prog Gt:=TO64.add (gz (g:=fun a=>a*a*a) ent208 xz)
def dbF(x:Zp×Zp×Zp):Zp×Zp×Zp:=
 let a:=x.2.1+x.2.1
 let s:=x.1*x.1
 let u:=s+s+s
 let h:=a*a
 let b:=h*x.1
 let X:=E1.sub (E1.sub (u*u) b) b
 (X,E1.sub (u*E1.sub b X) (h*a*x.2.1),x.2.2*a)
theorem F6(x:Zp×Zp×Zp):PUR 190 [JV x] (JV (dbF x)):=pE TO65 func190 [.inl [x.1,x.2.1,x.2.2]] (.inl (.inl [(dbF x).1,(dbF x).2.1,(dbF x).2.2])) (let t0:=x.2.1+x.2.1;let t1:=(x.1*x.1)+(x.1*x.1);let t2:=t1+(x.1*x.1);let t3:=(t0*t0)*x.1;let t4:=E1.sub (t2*t2) t3;let t5:=E1.sub t3 (E1.sub t4 t3);let t6:=(t0*t0)*t0;let t7:=E1.sub (t2*t5) (t6*x.2.1);(.inl (.inl [E1.sub t4 t3,t7,x.2.2*t0]),[])) [] kr aG rfl
def TO66:Tb prog Gt:=TO65.add (pz (g:=dbF) ent190 F6)
theorem db_s(x y:Zp):(y+y)*(y+y)*x=(x*(y*y)+x*(y*y))+(x*(y*y)+x*(y*y)):=by grind
theorem db_c(y:Zp):(y+y)*(y+y)*(y+y)*y=(((y*y)*(y*y)+(y*y)*(y*y))+((y*y)*(y*y)+(y*y)*(y*y)))+(((y*y)*(y*y)+(y*y)*(y*y))+((y*y)*(y*y)+(y*y)*(y*y))):=by grind
theorem db_z(y z:Zp):z*(y+y)=y*z+y*z:=by grind
theorem dbl_ext(m:Zp){s s' c c' z z':Zp}(hs:s=s')(hc:c=c')(hz:z=z'):(E1.sub (E1.sub (m*m) s) s,E1.sub (m*E1.sub s (E1.sub (E1.sub (m*m) s) s)) c,z)=(E1.sub (E1.sub (m*m) s') s',E1.sub (m*E1.sub s' (E1.sub (E1.sub (m*m) s') s')) c',z'):=by rw[hs,hc,hz]
theorem Oo(x:Zp×Zp×Zp):dbF x=E1.jd x.1 x.2.1 x.2.2:=dbl_ext (x.1*x.1+x.1*x.1+x.1*x.1) (db_s x.1 x.2.1) (db_c x.2.1) (db_z x.2.1 x.2.2)
theorem A6{x:Zp×Zp×Zp}{P:Pt Zp}(hP:E1.onP P)(h:E1.jr x P):E1.jr (dbF x) (E1.ad P P):=by
 have k:=E1.jr_d hP h
 by_cases hz:x.2.2=E1.R.zero∨x.2.1=E1.R.zero
 ·rw[show E1.jdF x=(E1.R.zero,E1.R.zero,E1.R.zero)from if_pos hz]at k
  rw[(E1.jr_z k).1 rfl]
  show x.2.2*(x.2.1+x.2.1)=(0:Zp)
  rcases hz with e|e
  ·rw[show x.2.2=(0:Zp)from e,sR]
  ·rw[show x.2.1=(0:Zp)from e,EF,gP]
 ·rw[show E1.jdF x=E1.jd x.1 x.2.1 x.2.2 from if_neg hz,←Oo]at k
  exact k
def adG(x y:Zp×Zp×Zp):Zp×Zp×Zp:=
 let u:=x.1*(y.2.2*y.2.2)
 let s:=x.2.1*(y.2.2*y.2.2)*y.2.2
 let h:=E1.sub (y.1*(x.2.2*x.2.2)) u
 let r:=E1.sub (y.2.1*(x.2.2*x.2.2)*x.2.2) s
 let q:=h*h
 let c:=q*h
 let w:=q*u
 let X:=E1.sub (E1.sub (E1.sub (r*r) c) w) w
 (X,E1.sub (r*E1.sub w X) (c*s),x.2.2*y.2.2*h)
def adF(x y:Zp×Zp×Zp):Zp×Zp×Zp:=if x.2.2=0 then y else if y.2.2=0 then x else if E1.jh x.1 x.2.2 y.1 y.2.2=0 then (if E1.jq x.2.1 x.2.2 y.2.1 y.2.2=0 then dbF x else (0,0,0))else adG x y
theorem Cq(a b:Zp):a*b=b*a:=by grind
theorem add_ext{a w w' r k k' z:Zp}(hw:w=w')(hk:k=k'):(E1.sub (E1.sub a w) w,E1.sub (r*E1.sub w (E1.sub (E1.sub a w) w)) k,z)=(E1.sub (E1.sub a w') w',E1.sub (r*E1.sub w' (E1.sub (E1.sub a w') w')) k',z):=by rw[hw,hk]
theorem adG_ja(x y:Zp×Zp×Zp):adG x y=E1.ja x.1 x.2.1 x.2.2 y.1 y.2.1 y.2.2:=add_ext (Cq _ _) (Cq _ _)
theorem same_iff{p q:Zp×Zp}{x y:Zp×Zp×Zp}(h:E1.jr x (some p))(k:E1.jr y (some q)):(x.1*(y.2.2*y.2.2)=y.1*(x.2.2*x.2.2)↔p.1=q.1)∧(x.2.1*(y.2.2*y.2.2)*y.2.2=y.2.1*(x.2.2*x.2.2)*x.2.2↔p.2=q.2):=by
 have hx:x.1=p.1*(x.2.2*x.2.2):=h.2.1
 have hy:x.2.1=p.2*(x.2.2*x.2.2*x.2.2):=h.2.2
 have kx:y.1=q.1*(y.2.2*y.2.2):=k.2.1
 have ky:y.2.1=q.2*(y.2.2*y.2.2*y.2.2):=k.2.2
 have n2:=E1.mul_ne (E1.z2_ne h.1) (E1.z2_ne k.1)
 have n3:=E1.mul_ne (E1.z3_ne h.1) (E1.z3_ne k.1)
 obtain ⟨z,hz⟩: ∃z,x.2.2=z:=⟨_,rfl⟩
 obtain ⟨v,hv⟩: ∃v,y.2.2=v:=⟨_,rfl⟩
 rw[hz]at hx hy n2 n3
 rw[hv]at kx ky n2 n3
 rw[hx,hy,kx,ky,hz,hv]
 refine ⟨⟨fun e=>E1.mul_can n2 ?_,fun e=>by rw[e];grind⟩,⟨fun e=>E1.mul_can n3 ?_,fun e=>by rw[e];grind⟩⟩
 ·show p.1*(z*z*(v*v))=q.1*(z*z*(v*v))
  grind
 ·show p.2*(z*z*z*(v*v*v))=q.2*(z*z*z*(v*v*v))
  grind
theorem Dg{x y:Zp×Zp×Zp}{P Q:Pt Zp}(_:E1.onP P)(_:E1.onP Q)(h:E1.jr x P)(k:E1.jr y Q)(h1: ¬x.2.2=0)(h2: ¬y.2.2=0)(h3:E1.jh x.1 x.2.2 y.1 y.2.2=0)(h4:E1.jq x.2.1 x.2.2 y.2.1 y.2.2=0):Q=P:=by
 cases P with
 |none=>exact absurd h h1
 |some p=>
  cases Q with
  |none=>exact absurd k h2
  |some q=>
   have s:=same_iff h k
   exact congrArg some (Prod.ext (s.1.1 (E1.sub0 h3).symm).symm (s.2.1 (E1.sub0 h4).symm).symm)
theorem B1{x y:Zp×Zp×Zp}{P Q:Pt Zp}(hP:E1.onP P)(hQ:E1.onP Q)(h:E1.jr x P)(k:E1.jr y Q):E1.jr (adF x y) (E1.ad P Q):=by
 have j:=E1.jr_a hP hQ h k
 by_cases h1:x.2.2=0
 ·rw[show E1.jaF x y=y from if_pos h1]at j
  rw[show adF x y=y from if_pos h1];exact j
 by_cases h2:y.2.2=0
 ·rw[show E1.jaF x y=x from (if_neg h1).trans (if_pos h2)]at j
  rw[show adF x y=x from (if_neg h1).trans (if_pos h2)];exact j
 by_cases h3:E1.jh x.1 x.2.2 y.1 y.2.2=0
 ·by_cases h4:E1.jq x.2.1 x.2.2 y.2.1 y.2.2=0
  ·rw[show adF x y=dbF x from (if_neg h1).trans ((if_neg h2).trans ((if_pos h3).trans (if_pos h4)))]
   have e:Q=P:=Dg hP hQ h k h1 h2 h3 h4
   rw[e];exact A6 hP h
  ·rw[show E1.jaF x y=(E1.R.zero,E1.R.zero,E1.R.zero)from (if_neg h1).trans ((if_neg h2).trans ((if_pos h3).trans (if_neg h4)))]at j
   rw[show adF x y=(0,0,0)from (if_neg h1).trans ((if_neg h2).trans ((if_pos h3).trans (if_neg h4)))];exact j
 ·rw[show E1.jaF x y=E1.ja x.1 x.2.1 x.2.2 y.1 y.2.1 y.2.2 from (if_neg h1).trans ((if_neg h2).trans (if_neg h3)),←adG_ja]at j
  rw[show adF x y=adG x y from (if_neg h1).trans ((if_neg h2).trans (if_neg h3))];exact j
theorem wE(x y:Zp×Zp×Zp):PUR 142 [JV x,JV y] (JV (adF x y)):=by
 by_cases h1:x.2.2=0
 ·exact pE TO66 func142 [.inl [x.1,x.2.1,x.2.2],.inl [y.1,y.2.1,y.2.2]] (.inl (.inl [(adF x y).1,(adF x y).2.1,(adF x y).2.2])) (.inl (.inl [y.1,y.2.1,y.2.2]),[(decide (x.2.2=0),true)]) [some true] kr (au (decide_eq_true h1) aG) (by rw[show adF x y=y from if_pos h1]<;>exact rfl)
 ·by_cases h2:y.2.2=0
  ·exact pE TO66 func142 [.inl [x.1,x.2.1,x.2.2],.inl [y.1,y.2.1,y.2.2]] (.inl (.inl [(adF x y).1,(adF x y).2.1,(adF x y).2.2])) (.inl (.inl [x.1,x.2.1,x.2.2]),[(decide (x.2.2=0),false),(decide (y.2.2=0),true)]) [some false,some true] kr (au (decide_eq_false h1) (au (decide_eq_true h2) aG)) (by rw[show adF x y=x from (if_neg h1).trans (if_pos h2)]<;>exact rfl)
  ·by_cases h3:E1.jh x.1 x.2.2 y.1 y.2.2=0
   ·by_cases h4:E1.jq x.2.1 x.2.2 y.2.1 y.2.2=0
    ·exact pE TO66 func142 [.inl [x.1,x.2.1,x.2.2],.inl [y.1,y.2.1,y.2.2]] (.inl (.inl [(adF x y).1,(adF x y).2.1,(adF x y).2.2])) (let t0:=x.2.2*x.2.2;let t1:=y.2.2*y.2.2;let t2:=(x.2.1*t1)*y.2.2;let t3:=E1.sub (y.1*t0) (x.1*t1);let t4:=(y.2.1*t0)*x.2.2;let t5:=dbF x;(.inl (.inl [t5.1,t5.2.1,t5.2.2]),[(decide (x.2.2=0),false),(decide (y.2.2=0),false),(decide (t3=0),true),(decide ((E1.sub t4 t2)=0),true)])) [some false,some false,some true,some true] kr (au (decide_eq_false h1) (au (decide_eq_false h2) (au (decide_eq_true h3) (au (decide_eq_true h4) aG)))) (by rw[show adF x y=dbF x from (if_neg h1).trans ((if_neg h2).trans ((if_pos h3).trans (if_pos h4)))]<;>exact rfl)
    ·exact pE TO66 func142 [.inl [x.1,x.2.1,x.2.2],.inl [y.1,y.2.1,y.2.2]] (.inl (.inl [(adF x y).1,(adF x y).2.1,(adF x y).2.2])) (let t0:=x.2.2*x.2.2;let t1:=y.2.2*y.2.2;let t2:=(x.2.1*t1)*y.2.2;let t3:=E1.sub (y.1*t0) (x.1*t1);let t4:=(y.2.1*t0)*x.2.2;(.inl (.inl [0,0,0]),[(decide (x.2.2=0),false),(decide (y.2.2=0),false),(decide (t3=0),true),(decide ((E1.sub t4 t2)=0),false),(decide (t3=0),true)])) [some false,some false,some true,some false,some true] kr (au (decide_eq_false h1) (au (decide_eq_false h2) (au (decide_eq_true h3) (au (decide_eq_false h4) (au (decide_eq_true h3) aG))))) (by rw[show adF x y=(0,0,0)from (if_neg h1).trans ((if_neg h2).trans ((if_pos h3).trans (if_neg h4)))]<;>exact rfl)
   ·exact pE TO66 func142 [.inl [x.1,x.2.1,x.2.2],.inl [y.1,y.2.1,y.2.2]] (.inl (.inl [(adF x y).1,(adF x y).2.1,(adF x y).2.2])) (let t0:=x.2.2*x.2.2;let t1:=y.2.2*y.2.2;let t2:=(x.2.1*t1)*y.2.2;let t3:=E1.sub (y.1*t0) (x.1*t1);let t4:=(y.2.1*t0)*x.2.2;let t5:=(t3*t3)*t3;let t6:=(t3*t3)*(x.1*t1);let t7:=(E1.sub t4 t2)*(E1.sub t4 t2);let t8:=E1.sub (E1.sub t7 t5) t6;let t9:=E1.sub t6 (E1.sub t8 t6);let t10:=(E1.sub t4 t2)*t9;let t11:=E1.sub t10 (t5*t2);let t12:=x.2.2*y.2.2;(.inl (.inl [E1.sub t8 t6,t11,t12*t3]),[(decide (x.2.2=0),false),(decide (y.2.2=0),false),(decide (t3=0),false),(decide (t3=0),false)])) [some false,some false,some false,some false] kr (au (decide_eq_false h1) (au (decide_eq_false h2) (au (decide_eq_false h3) (au (decide_eq_false h3) aG)))) (by rw[show adF x y=adG x y from (if_neg h1).trans ((if_neg h2).trans (if_neg h3))]<;>exact rfl)
theorem nw{f:Nat}{g:(Zp×Zp×Zp)→(Zp×Zp×Zp)→(Zp×Zp×Zp)}(en:ai prog f)(h: ∀a b,PUR f [JV a,JV b] (JV (g a b))):Snd prog Gt f (c2 q3.ag q3.ag q3.rd g):=fS q3.ag q3.ag q3.rd en h
def TO67:Tb prog Gt:=TO66.add (nw (g:=adF) ent142 wE)
theorem uE(a b:Zp):a*(b*b)*b=a*(b*b*b):=by grind
def eqJ(x y:Zp×Zp×Zp):Prop:=(x.2.2=0∧y.2.2=0)∨(¬x.2.2=0∧¬y.2.2=0∧x.1*(y.2.2*y.2.2)=y.1*(x.2.2*x.2.2)∧x.2.1*(y.2.2*y.2.2*y.2.2)=y.2.1*(x.2.2*x.2.2*x.2.2))
theorem same_iff'{p q:Zp×Zp}{x y:Zp×Zp×Zp}(h:E1.jr x (some p))(k:E1.jr y (some q)):(x.1*(y.2.2*y.2.2)=y.1*(x.2.2*x.2.2)↔p.1=q.1)∧(x.2.1*(y.2.2*y.2.2*y.2.2)=y.2.1*(x.2.2*x.2.2*x.2.2)↔p.2=q.2):=by
 have s:=same_iff h k
 rw[uE,uE]at s
 exact s
theorem eqJ_iff{x y:Zp×Zp×Zp}{P Q:Pt Zp}(h:E1.jr x P)(k:E1.jr y Q):eqJ x y↔P=Q:=by
 cases P with
 |none=>
  cases Q with
  |none=>exact ⟨fun _=>rfl,fun _=>.inl ⟨h,k⟩⟩
  |some q=>exact ⟨fun e=>e.elim (fun e=>absurd e.2 k.1) (fun e=>absurd h e.1),fun e=>by cases e⟩
 |some p=>
  cases Q with
  |none=>exact ⟨fun e=>e.elim (fun e=>absurd e.1 h.1) (fun e=>absurd k e.2.1),fun e=>by cases e⟩
  |some q=>
   have s:=same_iff' h k
   exact ⟨fun e=>e.elim (fun e=>absurd e.1 h.1) (fun e=>congrArg some (Prod.ext (s.1.1 e.2.2.1) (s.2.1 e.2.2.2))),fun e=>.inr ⟨h.1,k.1,s.1.2 (congrArg Prod.fst (Option.some.inj e)),s.2.2 (congrArg Prod.snd (Option.some.inj e))⟩⟩
theorem ig(x y:Zp×Zp×Zp)(hd:Decidable (eqJ x y))(b:Bool)(hb:b=decide (eqJ x y)):PUR 326 [JV x,JV y] (.bool b):=by
 by_cases h1:x.2.2=0
 ·by_cases h2:y.2.2=0
  ·exact pE TO67 func326 [.inl [x.1,x.2.1,x.2.2],.inl [y.1,y.2.1,y.2.2]] (.inl (.inr (.inl b))) (.inl (.inr (.inl true)),[(decide (x.2.2=0),true),(decide (x.2.2=0),true),(decide (y.2.2=0),true)]) [some true,some true,some true] kr (au (decide_eq_true h1) (au (decide_eq_true h1) (au (decide_eq_true h2) aG))) (by obtain rfl:b=true:=hb.trans (decide_eq_true (.inl ⟨h1,h2⟩))<;>exact rfl)
  ·exact pE TO67 func326 [.inl [x.1,x.2.1,x.2.2],.inl [y.1,y.2.1,y.2.2]] (.inl (.inr (.inl b))) (.inl (.inr (.inl false)),[(decide (x.2.2=0),true),(decide (x.2.2=0),true),(decide (y.2.2=0),false)]) [some true,some true,some false] kr (au (decide_eq_true h1) (au (decide_eq_true h1) (au (decide_eq_false h2) aG))) (by obtain rfl:b=false:=hb.trans (decide_eq_false (fun e=>e.elim (fun e=>h2 e.2) (fun e=>e.1 h1)))<;>exact rfl)
 ·by_cases h2:y.2.2=0
  ·exact pE TO67 func326 [.inl [x.1,x.2.1,x.2.2],.inl [y.1,y.2.1,y.2.2]] (.inl (.inr (.inl b))) (.inl (.inr (.inl false)),[(decide (x.2.2=0),false),(decide (y.2.2=0),true),(decide (x.2.2=0),false)]) [some false,some true,some false] kr (au (decide_eq_false h1) (au (decide_eq_true h2) (au (decide_eq_false h1) aG))) (by obtain rfl:b=false:=hb.trans (decide_eq_false (fun e=>e.elim (fun e=>h1 e.1) (fun e=>e.2.1 h2)))<;>exact rfl)
  ·by_cases h3:x.1*(y.2.2*y.2.2)=y.1*(x.2.2*x.2.2)
   ·by_cases h4:x.2.1*(y.2.2*y.2.2*y.2.2)=y.2.1*(x.2.2*x.2.2*x.2.2)
    ·exact pE TO67 func326 [.inl [x.1,x.2.1,x.2.2],.inl [y.1,y.2.1,y.2.2]] (.inl (.inr (.inl b))) (let t0:=y.2.2*y.2.2*y.2.2;let t1:=x.2.2*x.2.2*x.2.2;let t2:=y.2.2*y.2.2;let t3:=x.2.2*x.2.2;(.inl (.inr (.inl true)),[(decide (x.2.2=0),false),(decide (y.2.2=0),false),(decide ((x.1*t2)=(y.1*t3)),true),(decide ((x.2.1*t0)=(y.2.1*t1)),true)])) [some false,some false,some true,some true] kr (au (decide_eq_false h1) (au (decide_eq_false h2) (au (decide_eq_true h3) (au (decide_eq_true h4) aG)))) (by obtain rfl:b=true:=hb.trans (decide_eq_true (.inr ⟨h1,h2,h3,h4⟩))<;>exact rfl)
    ·exact pE TO67 func326 [.inl [x.1,x.2.1,x.2.2],.inl [y.1,y.2.1,y.2.2]] (.inl (.inr (.inl b))) (let t0:=y.2.2*y.2.2*y.2.2;let t1:=x.2.2*x.2.2*x.2.2;let t2:=y.2.2*y.2.2;let t3:=x.2.2*x.2.2;(.inl (.inr (.inl false)),[(decide (x.2.2=0),false),(decide (y.2.2=0),false),(decide ((x.1*t2)=(y.1*t3)),true),(decide ((x.2.1*t0)=(y.2.1*t1)),false)])) [some false,some false,some true,some false] kr (au (decide_eq_false h1) (au (decide_eq_false h2) (au (decide_eq_true h3) (au (decide_eq_false h4) aG)))) (by obtain rfl:b=false:=hb.trans (decide_eq_false (fun e=>e.elim (fun e=>h1 e.1) (fun e=>h4 e.2.2.2)))<;>exact rfl)
   ·exact pE TO67 func326 [.inl [x.1,x.2.1,x.2.2],.inl [y.1,y.2.1,y.2.2]] (.inl (.inr (.inl b))) (let t2:=y.2.2*y.2.2;let t3:=x.2.2*x.2.2;(.inl (.inr (.inl false)),[(decide (x.2.2=0),false),(decide (y.2.2=0),false),(decide ((x.1*t2)=(y.1*t3)),false)])) [some false,some false,some false] kr (au (decide_eq_false h1) (au (decide_eq_false h2) (au (decide_eq_false h3) aG))) (by obtain rfl:b=false:=hb.trans (decide_eq_false (fun e=>e.elim (fun e=>h1 e.1) (fun e=>h3 e.2.2.1)))<;>exact rfl)
theorem ya(x:Zp×Zp×Zp)(h:x.2.2=0):PUR 86 [JV x] (.tuple #[EV 0,EV 0,.bool false]):=pE TO67 func86 [.inl [x.1,x.2.1,x.2.2]] (.inr [.inl [0],.inl [0],.inr (.inl false)]) (.inr [.inl [0],.inl [0],.inr (.inl false)],[(decide (x.2.2=0),true)]) [some true] kr (au (decide_eq_true h) aG) rfl
theorem yi(x:Zp×Zp×Zp)(h: ¬x.2.2=0):PUR 86 [JV x] (.tuple #[EV (x.1*(x.2.2^(PP-2)*x.2.2^(PP-2))),EV (x.2.1*(x.2.2^(PP-2)*x.2.2^(PP-2)*x.2.2^(PP-2))),.bool true]):=pE TO67 func86 [.inl [x.1,x.2.1,x.2.2]] (.inr [.inl [x.1*(x.2.2^(PP-2)*x.2.2^(PP-2))],.inl [x.2.1*(x.2.2^(PP-2)*x.2.2^(PP-2)*x.2.2^(PP-2))],.inr (.inl true)]) (let t0:=x.2.2^(PP-2);let t1:=x.1*(t0*t0);let t2:=(t0*t0)*t0;(.inr [.inl [t1],.inl [x.2.1*t2],.inr (.inl true)],[(decide (x.2.2=0),false)])) [some false] kr (au (decide_eq_false h) aG) rfl
theorem s6(a b:Zp):PUR 91 [EV a,EV b] (JV (a,b,1)):=pE TO67 func91 [.inl [a],.inl [b]] (.inl (.inl [(a,b,1).1,(a,b,1).2.1,(a,b,1).2.2])) (.inl (.inl [a,b,1]),[]) [] kr aG rfl
theorem nF{f:Nat}{g:Zp→Zp→(Zp×Zp×Zp)}(en:ai prog f)(h: ∀a b,PUR f [EV a,EV b] (JV (g a b))):Snd prog Gt f (c2 q1.ag q1.ag q3.rd g):=fS q1.ag q1.ag q3.rd en h
def TO68:Tb prog Gt:=TO67.add (nF (g:=fun a b=>(a,b,1)) ent91 s6)
theorem of4:PUR 140 [U64 4#64] (EV (zp 4)):=dC 4#64
theorem gF(a:Zp):PUR 171 [EV a] (EV (RS4 a)):=pE TO68 func171 [.inl [a]] (.inl (.inl [RS4 a])) (let t0:=zp (4#64).toNat;let t1:=(a*a*a)+t0;(.inl (.inl [t1]),[])) [] kr aG rfl
def TO69:Tb prog Gt:=TO68.add (gz (g:=RS4) ent171 gF)
theorem o5(a s:Zp)(hs:PUR 172 [EV (RS4 a)] (.tuple #[EV s,.bool true])):PUR 110 [EV a,.bool true] (.tuple #[JV (a,-s,1),.bool true]):=by
 intro w hw
 refine Hf func110 rfl hw<|fun hGF=>Xp<|Bx 2 hGF rfl<|fun b2=>Al 4 hGF ns<|fun b4=>Asg rfl<|aa<|Xp<|La 2 rfl rfl bg<|Ca rfl (gF _)<|Ca rfl (hs)<|Mv rfl<|Ext rfl rfl<|Ext rfl rfl<|Al 6 hGF zv52<|fun b6=>Sa 6 hGF rfl rfl rfl bg<|Asg rfl<|aa<|ah<|Xp<|Mv rfl<|aY rfl (fun _=>aK _) rfl rfl<|aa<|av rfl<|ap<|ah<|Xp<|Mv rfl<|aa<|aU rfl<|Xq<|La 6 rfl rfl bg<|Ca rfl (dr _)<|Sa 6 hGF rfl rfl rfl bg<|aa<|Xp<|La 2 rfl rfl bg<|La 6 rfl rfl bg<|Ca rfl (s6 _ _)<|Sa 4 hGF rfl rfl rfl bS<|Asg rfl<|?_
 refine aa<|am<|Rr<|?_
 exact a6 4 rfl rfl rfl rfl isAgg54 sizeOf54 sm (fun w hw=>⟨rfl,ac hw⟩)
theorem pR(a s:Zp)(hs:PUR 172 [EV (RS4 a)] (.tuple #[EV s,.bool false])):PUR 110 [EV a,.bool true] (.tuple #[JV (0,0,0),.bool false]):=by
 intro w hw
 refine Hf func110 rfl hw<|fun hGF=>Xp<|Bx 2 hGF rfl<|fun b2=>Al 4 hGF ns<|fun b4=>Asg rfl<|aa<|Xp<|La 2 rfl rfl bg<|Ca rfl (gF _)<|Ca rfl (hs)<|Mv rfl<|Ext rfl rfl<|Ext rfl rfl<|Al 6 hGF zv52<|fun b6=>Sa 6 hGF rfl rfl rfl bg<|Asg rfl<|aa<|ah<|Xp<|Mv rfl<|aY rfl (fun _=>aK _) rfl rfl<|aa<|aU rfl<|Xp<|iC s4 rfl rfl<|Sa 4 hGF rfl rfl rfl bS<|Asg rfl<|aa<|am<|Rr<|?_
 exact a6 4 rfl rfl rfl rfl isAgg54 sizeOf54 sm (fun w hw=>⟨rfl,ac hw⟩)
theorem oU(a s:Zp)(hs:PUR 172 [EV (RS4 a)] (.tuple #[EV s,.bool true])):PUR 110 [EV a,.bool false] (.tuple #[JV (a,s,1),.bool true]):=by
 intro w hw
 refine Hf func110 rfl hw<|fun hGF=>Xp<|Bx 2 hGF rfl<|fun b2=>Al 4 hGF ns<|fun b4=>Asg rfl<|aa<|Xp<|La 2 rfl rfl bg<|Ca rfl (gF _)<|Ca rfl (hs)<|Mv rfl<|Ext rfl rfl<|Ext rfl rfl<|Al 6 hGF zv52<|fun b6=>Sa 6 hGF rfl rfl rfl bg<|Asg rfl<|aa<|ah<|Xp<|Mv rfl<|aY rfl (fun _=>aK _) rfl rfl<|aa<|av rfl<|ap<|ah<|Xp<|Mv rfl<|aa<|av rfl<|ap<|Xp<|La 2 rfl rfl bg<|La 6 rfl rfl bg<|Ca rfl (s6 _ _)<|Sa 4 hGF rfl rfl rfl bS<|Asg rfl<|aa<|am<|Rr<|?_
 exact a6 4 rfl rfl rfl rfl isAgg54 sizeOf54 sm (fun w hw=>⟨rfl,ac hw⟩)
theorem n4(a s:Zp)(hs:PUR 172 [EV (RS4 a)] (.tuple #[EV s,.bool false])):PUR 110 [EV a,.bool false] (.tuple #[JV (0,0,0),.bool false]):=by
 intro w hw
 refine Hf func110 rfl hw<|fun hGF=>Xp<|Bx 2 hGF rfl<|fun b2=>Al 4 hGF ns<|fun b4=>Asg rfl<|aa<|Xp<|La 2 rfl rfl bg<|Ca rfl (gF _)<|Ca rfl (hs)<|Mv rfl<|Ext rfl rfl<|Ext rfl rfl<|Al 6 hGF zv52<|fun b6=>Sa 6 hGF rfl rfl rfl bg<|Asg rfl<|aa<|ah<|Xp<|Mv rfl<|aY rfl (fun _=>aK _) rfl rfl<|aa<|aU rfl<|Xp<|iC s4 rfl rfl<|Sa 4 hGF rfl rfl rfl bS<|Asg rfl<|aa<|am<|Rr<|?_
 exact a6 4 rfl rfl rfl rfl isAgg54 sizeOf54 sm (fun w hw=>⟨rfl,ac hw⟩)
def GXB:L8:=[23#8,241#8,211#8,167#8,49#8,151#8,215#8,148#8,38#8,149#8,99#8,140#8,79#8,169#8,172#8,15#8,195#8,104#8,140#8,79#8,151#8,116#8,185#8,5#8,161#8,78#8,58#8,63#8,23#8,27#8,172#8,88#8,108#8,85#8,232#8,63#8,249#8,122#8,26#8,239#8,251#8,58#8,240#8,10#8,219#8,34#8,198#8,187#8]
def GYB:L8:=[8#8,179#8,244#8,129#8,227#8,170#8,160#8,241#8,160#8,158#8,48#8,237#8,116#8,29#8,138#8,228#8,252#8,245#8,224#8,149#8,213#8,208#8,10#8,246#8,0#8,219#8,24#8,203#8,44#8,4#8,179#8,237#8,208#8,60#8,199#8,68#8,162#8,136#8,138#8,228#8,12#8,170#8,35#8,41#8,70#8,197#8,231#8,225#8]
theorem SO:FV GXB=zp G1x:=by rw[FV,if_pos ⟨rfl,by decide+kernel⟩,show BN GXB 48=G1x by decide+kernel]
theorem VK:FV GYB=zp G1y:=by rw[FV,if_pos ⟨rfl,by decide+kernel⟩,show BN GYB 48=G1y by decide+kernel]
theorem Bj(e:Option Addr)(cap:Nat)(w:World)(hw:Gt w)(hby:BytesAt w e GXB):CLS 90 [.slice e GXB.length cap].toArray w (fun r w'=>r=.returned (.tuple #[EV (zp G1x),.bool (FO GXB)])∧Grow w w'):=by
 have h:=dw e cap GXB w hw hby
 rw[SO]at h
 exact h
theorem A2(e:Option Addr)(cap:Nat)(w:World)(hw:Gt w)(hby:BytesAt w e GYB):CLS 90 [.slice e GYB.length cap].toArray w (fun r w'=>r=.returned (.tuple #[EV (zp G1y),.bool (FO GYB)])∧Grow w w'):=by
 have h:=dw e cap GYB w hw hby
 rw[VK]at h
 exact h
theorem jgen:PUR 42 [] (JV (zp G1x,zp G1y,1)):=by
 intro w hw
 refine Hf func42 rfl hw<|fun hGF=>ae (E:=EE [1000022])<|Al 0 hGF ns<|fun b0=>aa<|ae (E:=EE [1000022])<|ik 6 GXB hGF rfl rfl rfl dc dc underlying22 sizeOf5 zeroValue5 rfl rfl<|fun b6=>mN 6 rfl hGF rfl rfl underlying22 underlying5 rfl rfl<|Cc rfl ent90 (fun w' hC hG=>Bj _ _ w' hG (BytesAt.range (hC.own 6 b6 _ _ rfl).1.range))<|Mv rfl<|Ext rfl rfl<|Ext rfl rfl<|Al 1 hGF zv52<|fun b1=>Sa 1 hGF rfl rfl rfl bg<|Asg rfl<|aa<|ae (E:=EE [1000022])<|ik 12 GYB hGF rfl rfl rfl dc dc underlying22 sizeOf5 zeroValue5 rfl rfl<|fun b12=>mN 12 rfl hGF rfl rfl underlying22 underlying5 rfl rfl<|Cc rfl ent90 (fun w' hC hG=>A2 _ _ w' hG (BytesAt.range (hC.own 12 b12 _ _ rfl).1.range))<|Mv rfl<|Ext rfl rfl<|Ext rfl rfl<|Al 3 hGF zv52<|fun b3=>Sa 3 hGF rfl rfl rfl bg<|Asg rfl<|aa<|ae (E:=EE [1000022])<|La 1 rfl rfl bg<|La 3 rfl rfl bg<|Ca rfl (s6 _ _)<|Sa 0 hGF rfl rfl rfl bS<|aa<|am<|Rr<|?_
 exact ay 0 rfl rfl rfl isAgg54 sizeOf54 sm (fun w hw=>⟨rfl,ac hw⟩)
end J1
end
section
open Go.RowKit
theorem ent330:ai prog 330:=fun _ _=>kr
namespace J1
attribute [local simp] aT a9 aR aM aC bd aJ aI aA PLl cq cn N1l ck cp cm a5 bc aP aX a8
attribute [local simp] bf
def pb(bs:L8)(m:Nat):Bool:=decide (eB bs m=1#8)
abbrev oB(bs:L8)(m:Nat):List Nat:=oL (pb bs) (8*bs.length) m
def NLs(l:List Nat):List (List Value):=l.map fun n:Nat=>[I (n:Int)]
theorem mm(l:List Nat):(NLs l).length=l.length:=by simp[NLs]
theorem u7(bs:L8)(i j:Nat)(hj:j<8):bs.getD i 0>>>(7-j) &&& 1#8=eB bs (8*i+j):=by
 rw[eB,show (8*i+j) / 8=i by omega,show (8*i+j) % 8=j by omega]
theorem wP{bs:L8}{m:Nat}(h:eB bs m=1#8):pb bs m=true:=decide_eq_true h
theorem Ez{bs:L8}{m:Nat}(h: ¬eB bs m=1#8): ¬pb bs m=true:=fun e=>h (of_decide_eq_true e)
theorem CS{bs:L8}{m:Nat}(hm:m<8*bs.length)(h:eB bs m=1#8):(NLs (oB bs (8*bs.length)))[(oB bs m).length]? =some [I ((8*bs.length-1-m:Nat):Int)]:=by
 rw[NLs,List.getElem?_map,KE hm (wP h)]
 rfl
theorem N3{bs:L8}{m:Nat}(h:eB bs m=1#8):(oB bs (m+1)).length=(oB bs m).length+1:=J0 (wP h)
theorem QG{bs:L8}{m:Nat}(h: ¬eB bs m=1#8):(oB bs (m+1)).length=(oB bs m).length:=J8 (Ez h)
theorem C9(bs:L8): ∀m,vN (pb bs) m=BTn bs m
 |0=>rfl
 |m+1=>by
  rw[vN,C9 bs m,BTn]
  rcases zi bs m with ⟨h,e⟩|⟨h,e⟩
  ·rw[if_pos (wP h),e]
  ·rw[if_neg (Ez h),e]
theorem vj(bs:L8):SOg (oB bs (8*bs.length))=BN bs bs.length:=by rw[vw,C9,mH]
theorem pG{bb:Nat}{e:Option Addr}{cap:Nat}{bs:L8}{w w':World}(h:RdD bb e cap bs w)(hg:Grow w w'):RdD bb e cap bs w':=⟨(hg.cell (block_lt_of_cell h.1)).trans h.1,h.2.grow hg⟩
theorem iQ(sv:Value)(hs:sv.cells= #[sv])(w:World)(hw:Gt w):CLS 329 [sv].toArray w (fun e w'=> ∃b1,e=.returned (.func (.func 330) #[] #[pnt b1])∧Grow w w'∧w.heap.size≤b1∧OwnB w' b1 [sv] 22):=by
 refine Hf func329 rfl hw<|fun hGF=>Xp<|gM 1 hGF rfl rfl rfl<|fun b1=>Asg rfl<|aa<|Xp<|ft rfl rfl rfl rfl<|Asg rfl<|aa<|am<|Rr<|?_
 exact aH rfl rfl (fun w hw=>⟨b1,rfl,ac hw,(hw.own 1 b1 _ _ rfl).2.elim id False.elim,(by have:=(hw.own 1 b1 _ _ rfl).1;rw[hs]at this;exact this)⟩)
theorem kP(bb:Nat)(e:Option Addr)(cap:Nat)(bs:L8)(hlen:bs.length≤1000000):ek prog Gt 330 [pnt bb] (NLs (oB bs (8*bs.length))) (RdD bb e cap bs):=by
 intro l J Jx hJ hJx hRd hGx hY w hj
 have okJ: ∀k,BOk Gt (Bi w (fun Y=>J Y k)):=fun k=>⟨fun _ _ _ h=>(hRd _ _ _ h.rid).1,hJ k⟩
 have okX: ∀k,BOk Gt (Bi w (fun Y=>Jx Y k)):=fun k=>⟨fun _ _ _ h=>hGx _ _ _ h.rid,hJx k⟩
 have c1: ∀k L w',Hp (Bi w (fun Y=>J Y k)) L w'→RdD bb e cap bs w':=fun k L w' h=>(hRd _ _ _ h.rid).2
 have hby:=(hRd _ _ _ hj).2.2
 refine bY (G:=Gt) func330 rfl rfl (Hp (Bi w (fun Y=>J Y 0)) []) (bN (Bi w _) hj (hJ 0)) (aq (okJ 0))<|Xp<|bt rfl isAgg22 (fun w h=>(c1 _ _ w h).1) rfl rfl<|bv rfl (fun _=>aL underlying22 _ _ _ _) rfl rfl<|Mv rfl<|aa<|aj<|fk (ι:={i:Nat // i≤bs.length}) (fun x=>[(0,.func (.yield l) #[] #[]),(1,pnt bb),(6,.slice e bs.length cap),(7,I (bs.length:Int)),(8,I (x.1:Int))]) (fun x=>Bi w (fun Y=>J Y (oB bs (8*x.1)).length)) (fun x=>[]) (fun x=>bs.length-x.1) ⟨0,Nat.zero_le _⟩ (fun _=>okJ _) rfl trv trivial<|?_
 rintro ⟨i,hi⟩
 dsimp only
 refine Xp<|Bnr rfl rfl (fun _=>aD _ _ _)<|aa<|ah<|?_
 refine bV rfl (fun hc=> ?_) (fun hc=> ?_)
 ·have hi2:i<bs.length:=by simp at hc;omega
  refine ap<|ah<|aj<|Xp<|Mv rfl<|?_
  obtain ⟨ad,rfl,_⟩:=hby i _ (gm U8 bs 0 i om)
  refine fB i rfl rfl underlying22 sizeOf5 rfl om rfl rfl<|bt rfl isAgg5 (fun w' h=>by obtain ⟨ad',e',hc'⟩:=(c1 _ _ w' h).2 i _ (gm U8 bs 0 i om);cases e';exact hc') rfl rfl<|Asg rfl<|Asg rfl<|aa<|Xp<|Asg rfl<|aa<|aj<|fk (ι:={j:Nat // j≤8}) (fun x=>[(0,.func (.yield l) #[] #[]),(1,pnt bb),(6,.slice (some ad) bs.length cap),(7,I (bs.length:Int)),(8,I (i:Int)),(3,I (i:Int)),(4,U8 (bs.getD i 0)),(5,I (7-(x.1:Int)))]) (fun x=>Bi w (fun Y=>J Y (oB bs (8*i+x.1)).length)) (fun x=>[]) (fun x=>8-x.1) ⟨0,Nat.zero_le _⟩ (fun _=>okJ _) rfl trv trivial<|?_
  rintro ⟨j,hj⟩
  dsimp only
  by_cases h1:eB bs (8*i+j)=1#8
  ·refine ah<|Xp<|Mv rfl<|Bnr (v:=.bool (decide (j<8))) rfl rfl (fun _=>(dK _ _ _).trans (by rw[show decide ((7-(j:Int))≥0)=decide (j<8)from decide_eq_decide.2 om]))<|aa<|?_
   refine bV rfl (fun hc=> ?_) (fun hc=> ?_)
   ·have hj2:j<8:=by simpa using hc
    refine ap<|ah<|aj<|Xp<|Mv rfl<|Mv rfl<|Bnr (v:=U8 (bs.getD i 0>>>(7-j))) rfl rfl (fun _=>(gi _ _ _ om).trans (by rw[show (7-(j:Int)).toNat=7-j by omega]))<|Bnr (v:=U8 (eB bs (8*i+j))) rfl rfl (fun _=>(be _ _ 1#8).trans (by rw[u7 bs i j hj2]))<|Bnr (v:=.bool true) rfl rfl (fun w=>(ce _ _ _).trans (congrArg (fun b=>Result.ok (Value.bool b) w) (beq_iff_eq.2 h1)))<|Mv rfl<|Mv rfl<|bt rfl isAgg22 (fun w h=>(c1 _ _ w h).1) rfl rfl<|bv rfl (fun _=>aL underlying22 _ _ _ _) rfl rfl<|Bnr (v:=I ((bs.length:Int)-1)) rfl rfl (fun _=>bi _ _ _ oi)<|Mv rfl<|Bnr (v:=I ((bs.length-1-i:Nat):Int)) rfl rfl (fun _=>(bi _ _ _ oi).trans (by rw[show (bs.length:Int)-1-(i:Int)=((bs.length-1-i:Nat):Int) by omega]))<|Bnr (v:=I ((8*(bs.length-1-i):Nat):Int)) rfl rfl (fun _=>(bM _ _ _ oi).trans (by rw[show (8:Int)*((bs.length-1-i:Nat):Int)=((8*(bs.length-1-i):Nat):Int) by omega]))<|Mv rfl<|Bnr (v:=I ((8*bs.length-1-(8*i+j):Nat):Int)) rfl rfl (fun _=>(az _ _ _ oi).trans (by rw[show ((8*(bs.length-1-i):Nat):Int)+(7-(j:Int))=((8*bs.length-1-(8*i+j):Nat):Int) by omega]))<|?_
    refine cN (hY.b (k:=(oB bs (8*i+j)).length) (CS om h1) w) (okJ _) (okX _) rfl rfl rfl rfl rfl ?_ ?_
    ·refine aY rfl (fun _=>aK _) rfl rfl<|Pk rfl rfl rfl<|aa<|av rfl<|ap<|Xq<|Mv rfl<|Bnr (v:=I (7-((j+1:Nat):Int))) rfl rfl (fun _=>(bi _ _ _ oi).trans (by rw[show 7-(j:Int)-1=7-((j+1:Nat):Int) by omega]))<|Asg rfl<|aa<|?_
     repeat (refine a7 ?_)
     refine aV ?_
     rw[←N3 h1]
     exact ⟨rfl,⟨j+1,om⟩,_,by show 8-(j+1)<8-j;omega,rfl,trv,trivial⟩
    ·refine aY rfl (fun _=>aK _) rfl rfl<|Pk rfl rfl rfl<|aa<|aU rfl<|am<|Rr<|?_
     repeat (first|refine cO ?_|refine bU ?_|refine cQ rfl ?_|refine bk ?_|refine bj ?_)
     exact cM rfl (fun w hw=>⟨⟨_,rfl⟩,.inr ⟨_,bx (hJx _) hw.rid⟩⟩)
   ·obtain rfl:j=8:=by simp at hc;omega
    refine ba<|Xq<|Bnr rfl rfl (fun _=>az _ _ _ oi)<|Mv rfl<|aa<|?_
    repeat (refine a7 ?_)
    exact aV<|⟨rfl,⟨i+1,om⟩,_,by show bs.length-(i+1)<bs.length-i;omega,rfl,trv,trivial⟩
  ·refine ah<|ae (E:=EE [3000000])<|Mv rfl<|Bnr (v:=.bool (decide (j<8))) rfl rfl (fun _=>(dK _ _ _).trans (by rw[show decide ((7-(j:Int))≥0)=decide (j<8)from decide_eq_decide.2 om]))<|aa<|?_
   refine bV rfl (fun hc=> ?_) (fun hc=> ?_)
   ·have hj2:j<8:=by simpa using hc
    refine ap<|ah<|aj<|ae (E:=EE [3000000])<|Mv rfl<|Mv rfl<|Bnr (v:=U8 (bs.getD i 0>>>(7-j))) rfl rfl (fun _=>(gi _ _ _ om).trans (by rw[show (7-(j:Int)).toNat=7-j by omega]))<|Bnr (v:=U8 (eB bs (8*i+j))) rfl rfl (fun _=>(be _ _ 1#8).trans (by rw[u7 bs i j hj2]))<|Bnr (v:=.bool false) rfl rfl (fun w=>(ce _ _ _).trans (congrArg (fun b=>Result.ok (Value.bool b) w) (beq_eq_false_iff_ne.2 h1)))<|Mv rfl<|Sk<|Sk<|Sk<|Sk<|Sk<|Sk<|Sk<|Sk<|Sk<|Sk<|Sk<|Pk rfl rfl rfl<|aa<|av rfl<|ap<|bz (E:=EE [3000000])<|Mv rfl<|Bnr (v:=I (7-((j+1:Nat):Int))) rfl rfl (fun _=>(bi _ _ _ oi).trans (by rw[show 7-(j:Int)-1=7-((j+1:Nat):Int) by omega]))<|Asg rfl<|aa<|?_
    repeat (refine a7 ?_)
    refine aV ?_
    rw[←QG h1]
    exact ⟨rfl,⟨j+1,om⟩,_,by show 8-(j+1)<8-j;omega,rfl,trv,trivial⟩
   ·obtain rfl:j=8:=by simp at hc;omega
    refine ba<|bz (E:=EE [3000000])<|Bnr rfl rfl (fun _=>az _ _ _ oi)<|Mv rfl<|aa<|?_
    repeat (refine a7 ?_)
    exact aV<|⟨rfl,⟨i+1,om⟩,_,by show bs.length-(i+1)<bs.length-i;omega,rfl,trv,trivial⟩
 ·obtain rfl:i=bs.length:=by simp at hc;omega
  refine ba ?_
  repeat (first|refine cO ?_|refine bU ?_|refine cQ rfl ?_|refine bk ?_|refine bj ?_)
  refine ci rfl (fun w hw=>⟨⟨_,rfl⟩,.inl ?_⟩)
  have:=bx (hJ _) hw.rid
  rw[mm]
  exact this
def dbN(x:Zp×Zp×Zp):Nat→Zp×Zp×Zp
 |0=>x
 |n+1=>dbF (dbN x n)
theorem dbN_jr{x:Zp×Zp×Zp}{P:Pt Zp}(hP:E1.onP P){q:Nat}(hx:E1.jr x (E1.times P q)): ∀n,E1.jr (dbN x n) (E1.times P (q*2^n))
 |0=>by rw[Nat.pow_zero,Nat.mul_one];exact hx
 |n+1=>by
  have hd:=A6 (E1.times_on hP _) (dbN_jr hP hx n)
  rw[E1.dbl_times hP,Nat.mul_left_comm,←Nat.pow_succ']at hd
  exact hd
theorem jt(x:Zp×Zp×Zp)(n:Int)(hn:n≤1000000000):PUR 141 [JV x,I n] (JV (dbN x n.toNat)):=by
 intro w hw
 refine Hf func141 rfl hw<|fun hGF=>Xp<|Bx 2 hGF rfl<|fun b2=>Al 4 hGF ns<|fun b4=>aa<|ah<|Xp<|Mv rfl<|Mv rfl<|aa<|aj<|cH (ι:={i:Nat // i≤n.toNat}) (fun y=>[(2,pnt b2),(4,pnt b4),(5,I n),(6,I (y.1:Int))]) (fun y=>[(2,b2,(fe ((dbN x y.1).1)++(fe ((dbN x y.1).2.1)++fe ((dbN x y.1).2.2))).map U64,54),(4,b4,(fe 0++(fe 0++fe 0)).map U64,54)]) (fun y=>n.toNat-y.1) ⟨0,Nat.zero_le _⟩ hGF trv trv<|?_
 rintro ⟨i,hi⟩
 dsimp only
 refine Xp<|Bnr (v:=.bool (decide ((i:Int)<n))) rfl rfl (fun _=>aD _ _ _)<|aa<|ah<|?_
 refine bV rfl (fun hc=> ?_) (fun hc=> ?_)
 ·have hi2:i<n.toNat:=by simp at hc;omega
  refine ap<|ah<|aj<|Xq<|La 2 rfl rfl bS<|Ca rfl (F6 (dbN x i))<|Sa 2 hGF rfl rfl rfl bS<|aa<|Xq<|Bnr rfl rfl (fun _=>az _ _ _ oi)<|Mv rfl<|aa<|?_
  repeat (refine a7 ?_)
  exact aV<|⟨rfl,⟨i+1,om⟩,_,by show n.toNat-(i+1)<n.toNat-i;omega,rfl,trv,trv⟩
 ·obtain rfl:i=n.toNat:=by simp at hc;omega
  refine ba<|Xp<|La 2 rfl rfl bS<|Sa 4 hGF rfl rfl rfl bS<|aa<|am<|Rr<|?_
  exact ay 4 rfl rfl rfl isAgg54 sizeOf54 sm (fun w hw=>⟨rfl,ac hw⟩)
theorem Qu(x:Zp×Zp×Zp)(a:Nat)(ha:a<100000000):PUR 141 [JV x,I (a:Int)] (JV (dbN x a)):=by
 have h:=jt x (a:Int) om
 rw[Int.toNat_natCast]at h
 exact h
theorem Oy(x:Zp×Zp×Zp)(a b:Nat)(ha:a<100000000):PUR 141 [JV x,I ((a:Int)-(b:Int))] (JV (dbN x (a-b))):=by
 have h:=jt x ((a:Int)-(b:Int)) om
 rw[Int.toNat_sub]at h
 exact h
def stp(x:Zp×Zp×Zp)(A:(Zp×Zp×Zp)×Nat)(b:Nat):(Zp×Zp×Zp)×Nat:=(adF (dbN A.1 (A.2-b)) x,b)
def stK(x:Zp×Zp×Zp)(L:List Nat)(k:Nat):(Zp×Zp×Zp)×Nat:=(L.take k).foldl (stp x) ((0,0,0),0)
theorem stK_step(x:Zp×Zp×Zp){L:List Nat}{k n:Nat}(h:L[k]? =some n):stK x L (k+1)=stp x (stK x L k) n:=by
 rw[stK,List.take_add_one,h,List.foldl_append]
 rfl
theorem stK_1(x:Zp×Zp×Zp){L:List Nat}{k n:Nat}(h:L[k]? =some n):(stK x L (k+1)).1=adF (dbN (stK x L k).1 ((stK x L k).2-n)) x:=by rw[stK_step x h];rfl
theorem stK_2(x:Zp×Zp×Zp){L:List Nat}{k n:Nat}(h:L[k]? =some n):(stK x L (k+1)).2=n:=by rw[stK_step x h];rfl
theorem stK_lt(x:Zp×Zp×Zp){L:List Nat}{B:Nat}(h0:0<B)(hL: ∀b∈L,b<B): ∀k,k≤L.length→(stK x L k).2<B
 |0,_=>h0
 |k+1,hk=>by
  obtain ⟨n,hn⟩: ∃n,L[k]? =some n:=⟨L[k]'om,List.getElem?_eq_getElem om⟩
  rw[stK_2 x hn]
  exact hL n (List.mem_of_getElem? hn)
def tmF(x:Zp×Zp×Zp)(L:List Nat):Zp×Zp×Zp:=dbN (stK x L L.length).1 (stK x L L.length).2
theorem stp_jr{x:Zp×Zp×Zp}{P:Pt Zp}(hP:E1.onP P)(hx:E1.jr x P): ∀(L:List Nat) (A:(Zp×Zp×Zp)×Nat) (q:Nat),L.Pairwise (fun a b=>b≤a)→E1.jr A.1 (E1.times P q)→(q=0∨∀b∈L,b≤A.2)→∃q',E1.jr (L.foldl (stp x) A).1 (E1.times P q')∧q'*2^(L.foldl (stp x) A).2=q*2^A.2+SOg L
 |[],A,q,_,hA,_=>⟨q,hA,rfl⟩
 |b::L,A,q,hp,hA,hq=>by
  rw[List.pairwise_cons]at hp
  have hd:=dbN_jr hP hA (A.2-b)
  have ha:=B1 (E1.times_on hP _) hP hd hx
  obtain ⟨q',h1,h2⟩:=stp_jr hP hx L (stp x A b) (q*2^(A.2-b)+1) hp.2 ha (.inr hp.1)
  refine ⟨q',h1,h2.trans ?_⟩
  show (q*2^(A.2-b)+1)*2^b+SOg L=q*2^A.2+(2^b+SOg L)
  rcases hq with rfl|hq
  ·rw[Nat.zero_mul,Nat.zero_mul];omega
  ·have hb:=hq b List.mem_cons_self
   rw[Nat.add_mul,Nat.mul_assoc,←Nat.pow_add,show A.2-b+b=A.2 from by omega]
   omega
theorem tmF_jr{x:Zp×Zp×Zp}{P:Pt Zp}(hP:E1.onP P)(hx:E1.jr x P){L:List Nat}(hL:L.Pairwise (fun a b=>b≤a)):E1.jr (tmF x L) (E1.times P (SOg L)):=by
 obtain ⟨q,h1,h2⟩:=stp_jr hP hx L ((0,0,0),0) 0 hL rfl (.inl rfl)
 have e:stK x L L.length=L.foldl (stp x) ((0,0,0),0):=by rw[stK,List.take_length]
 rw[Nat.zero_mul,Nat.zero_add]at h2
 have h:=dbN_jr hP h1 (L.foldl (stp x) ((0,0,0),0)).2
 rw[h2]at h
 rw[tmF,e]
 exact h
theorem rJ{L:List Nat}{k:Nat}{v:List Value}(h:(NLs L)[k]? =some v): ∃n:Nat,L[k]? =some n∧[I (n:Int)]=v:=by
 rw[NLs,List.getElem?_map]at h
 cases e:L[k]? with
 |none=>rw[e]at h;cases h
 |some y=>rw[e]at h;exact ⟨y,rfl,Option.some.inj h⟩
theorem fc(x:Zp×Zp×Zp)(gf:Nat)(caps:List Value)(L:List Nat)(Rd:Cls)(he:ai prog gf)(hseq:ek prog Gt gf caps (NLs L) Rd)(hL: ∀b∈L,b<100000000)(w:World)(hw:Gt w)(hRs: ∀w',Grow w w'→Rd w'):
 CLS 92 [JV x,.func (.func gf) #[] caps.toArray].toArray w (fun r w'=>r=.returned (JV (tmF x L))∧Grow w w'):=by
 have hGF:BOk Gt (pl w):=gt_low.plain hw
 refine ca (G:=Gt) func92 rfl rfl (Hp (pl w) []) (bN (pl w) trivial ak) (aq hGF)<|Xp<|Bx 2 hGF rfl<|fun b2=>Al 4 hGF ns<|fun b4=>aa<|Xp<|Al 5 hGF ns<|fun b5=>aa<|Xp<|fb 6 hGF zeroValue3 rfl rfl<|fun b6=>cT 6 hGF rfl rfl rfl sizeOf3 rfl (by first|decide|simp) rfl<|aa<|ah<|Xp<|Mv rfl<|aa<|aj<|?_
 refine dS (fun _=>pl w) (fun _ _=>pl w) (fun _=>hGF) (fun _ _=>hGF) (fun _=>rfl) (fun _ _=>rfl) rfl rfl he hseq (fun x hx=>by obtain ⟨k,hk,rfl⟩:=List.mem_map.1 hx;rfl) rfl (fun k=>[(2,b2,(fe ((x).1)++(fe ((x).2.1)++fe ((x).2.2))).map U64,54),(4,b4,(fe 0++(fe 0++fe 0)).map U64,54),(5,b5,(fe (((stK x L k).1).1)++(fe (((stK x L k).1).2.1)++fe (((stK x L k).1).2.2))).map U64,54),(6,b6,[I ((stK x L k).2:Int)],3)]) (fun _ _ _=>False) trv (fun k _ w' h=>hRs w' (h.below (fun _ h=>h))) ?_ ?_ (fun _ _ _ _ _ h=>h.elim)
 ·intro k v hx R hR
  obtain ⟨n,hn,rfl⟩:=rJ hx
  have hk:k<L.length:=(List.getElem?_eq_some_iff.1 hn).1
  have hb:=stK_lt x om hL k (Nat.le_of_lt hk)
  have hn2:=hL n (List.mem_of_getElem? hn)
  refine Xq<|Asg rfl<|aa<|?_
  refine ⟨rfl,_,rfl, ?_⟩
  refine aj<|Xd []<|La 5 rfl rfl bS<|cu 6 rfl rfl rfl isAgg3 rfl rfl<|Mv rfl<|Bnr (v:=I (((stK x L k).2:Int)-(n:Int))) rfl rfl (fun _=>bi _ _ _ oi)<|Ca rfl (Oy (stK x L k).1 (stK x L k).2 n hb)<|La 2 rfl rfl bS<|Ca rfl (wE _ _)<|aw 5 (hR (pl w) rfl hGF).2.1 rfl rfl rfl sizeOf54 sm sm (bq _) rfl<|aa<|Xq<|Mv rfl<|cT 6 (hR (pl w) rfl hGF).2.1 rfl rfl rfl sizeOf3 rfl (by first|decide|simp) rfl<|aa<|?_
  repeat (refine a7 ?_)
  exact ⟨_,rfl,⟨rfl,rfl,by rw[stK_1 x hn];rfl,by rw[stK_2 x hn];rfl,trivial⟩⟩
 ·intro D hD
  have hb:=stK_lt x om hL L.length (Nat.le_refl _)
  rw[mm]
  refine Xp<|La 5 rfl rfl bS<|cu 6 rfl rfl rfl isAgg3 rfl rfl<|Ca rfl (Qu (stK x L L.length).1 (stK x L L.length).2 hb)<|Sa 4 hD rfl rfl rfl bS<|aa<|am<|Rr<|?_
  exact cX (.inl rfl) ak (ay 4 rfl rfl rfl isAgg54 sizeOf54 sm (fun w hw=>⟨rfl,ac hw⟩))
def mlB(x:Zp×Zp×Zp)(bs:L8):Zp×Zp×Zp:=tmF x (oB bs (8*bs.length))
theorem mR{x:Zp×Zp×Zp}{P:Pt Zp}(hP:E1.onP P)(hx:E1.jr x P){bs:L8}{m:Nat}(hm:BN bs bs.length=m):E1.jr (mlB x bs) (E1.times P m):=by
 subst hm
 rw[←vj];exact tmF_jr hP hx (tL _ _ _ (Nat.le_refl _))
theorem gC(x:Zp×Zp×Zp)(e:Option Addr)(cap:Nat)(bs:L8)(hlen:bs.length≤1000000)(w:World)(hw:Gt w)(hby:BytesAt w e bs):
 CLS 328 [JV x,.slice e bs.length cap].toArray w (fun r w'=>r=.returned (JV (mlB x bs))∧Grow w w'):=by
 refine Hf func328 rfl hw<|fun hGF=>ae (E:=EE [329,2000329])<|Bx 2 hGF rfl<|fun b2=>Al 4 hGF ns<|fun b4=>aa<|Xd [329,2000329]<|La 2 rfl rfl bS<|Mv rfl<|?_
 refine bE rfl rfl ent329 rfl rfl (fun w' hw'=>(iQ _ rfl w' (hGF.g _ _ _ hw')).mono fun e' w'' h=> ?_)
 obtain ⟨c1,rfl,hg,h1,ho⟩:=h
 refine ⟨_,_,rfl,aq hGF,hw'.news ak hg [(33,c1,[.slice e bs.length cap],22)] ?_ bG,bD ak rfl, ?_⟩
 ·intro n' b' c' t' hl
  rcases aB hl with ⟨_,e⟩|⟨_,hl⟩
  ·cases e;exact ⟨h1,ho⟩
  ·cases hl
 clear hw' hg h1 ho
 refine Cc rfl ent92 (fun w' hC hG=>fc x 330 [pnt c1] (oB bs (8*bs.length)) (RdD c1 e cap bs) ent330 (kP c1 e cap bs om) (fun b hb=>by have:=E8 hb (Nat.le_refl _);omega) w' hG (fun w'' hg=>pG ⟨cy (n:=33) rfl rfl w' hC,hby.grow (hC.below (fun _ h=>h))⟩ hg))<|Sa 4 hGF rfl rfl rfl bS<|aa<|am<|Rr<|?_
 exact ay 4 rfl rfl rfl isAgg54 sizeOf54 sm (fun w hw=>⟨rfl,ac hw⟩)
def TRB:L8:=[0#8,0#8,0#8,0#8,0#8,0#8,0#8,0#8,95#8,25#8,103#8,47#8,223#8,118#8,206#8,81#8,186#8,105#8,198#8,7#8,106#8,15#8,119#8,234#8,221#8,179#8,169#8,59#8,230#8,248#8,150#8,136#8,222#8,23#8,216#8,19#8,98#8,10#8,0#8,2#8,46#8,1#8,255#8,255#8,255#8,254#8,255#8,254#8]
theorem T6:FV TRB=zp TRN:=by rw[FV,if_pos ⟨rfl,by decide+kernel⟩,show BN TRB 48=TRN by decide+kernel]
theorem CO{c:Zp}(hc:zp TRN=c)(e:Option Addr)(cap:Nat)(w:World)(hw:Gt w)(hby:BytesAt w e TRB):CLS 90 [.slice e TRB.length cap].toArray w (fun r w'=>r=.returned (.tuple #[EV c,.bool (FO TRB)])∧Grow w w'):=by
 have h:=dw e cap TRB w hw hby
 rw[T6,hc]at h
 exact h
def UB8:L8:=[210#8,1#8,0#8,0#8,0#8,1#8,0#8,0#8]
theorem BE:BN UB8 UB8.length=UG:=by decide+kernel
theorem gY{f:Zp×Zp×Zp→Zp×Zp×Zp}(hf: ∀x,mlB x UB8=f x)(x:Zp×Zp×Zp)(b c:Nat)(w:World)(hw:Gt w)(h:w.rangeAt b 0 (UB8.map U8)):CLS 328 [JV x,.slice (spt b) UB8.length c].toArray w (fun r w'=>r=.returned (JV (f x))∧Grow w w'):=by
 have k:=gC x (spt b) c UB8 dc w hw (BytesAt.range h)
 rw[hf]at k
 exact k
def tuJ(c:Zp)(x:Zp×Zp×Zp):Zp×Zp×Zp:=(x.1*c,x.2.1,x.2.2)
theorem tu_z(c x z:Zp):x*(z*z)*c=c*x*(z*z):=by grind
theorem Ev{c:Zp}{x:Zp×Zp×Zp}{p:Zp×Zp}(hx:E1.jr x (some p)):E1.jr (tuJ c x) (some (c*p.1,p.2)):=by
 refine ⟨hx.1, ?_,hx.2.2⟩
 have h1:x.1=p.1*(x.2.2*x.2.2):=hx.2.1
 show x.1*c=c*p.1*(x.2.2*x.2.2)
 rw[h1]
 exact tu_z _ _ _
theorem su{c:Zp}{x:Zp×Zp×Zp}(hx:E1.jr x none):E1.jr (tuJ c x) none:=show x.2.2=E1.R.zero from hx
theorem Dd(p:Zp×Zp):TW1.p (some p)=some (zp TRN*p.1,p.2):=congrArg some (tH p)
theorem vZ{x:Zp×Zp×Zp}{P:Pt Zp}(hx:E1.jr x P):E1.jr (tuJ (zp TRN) x) (TW1.p P):=by
 cases P with
 |none=>exact su hx
 |some p=>rw[Dd];exact Ev hx
abbrev ngJ(x:Zp×Zp×Zp):Zp×Zp×Zp:=(x.1,-x.2.1,x.2.2)
theorem Dk{bs:L8}{m:Nat}(hm:BN bs bs.length=m){x:Zp×Zp×Zp}{P:Pt Zp}(hP:E1.onP P)(hx:E1.jr x P):eqJ (ngJ (mlB (mlB x bs) bs)) (tuJ (zp TRN) x)↔E1.ne (E1.times (E1.times P m) m)=TW1.p P:=eqJ_iff (E1.jr_n (mR (E1.times_on hP m) (mR hP hx hm) hm)) (vZ hx)
theorem lX{x:Zp×Zp×Zp}{P:Pt Zp}(hP:E1.onP P)(hx:E1.jr x P):eqJ (ngJ (mlB (mlB x UB8) UB8)) (tuJ (zp TRN) x)↔E1.times P ORD=none:=(Dk BE hP hx).trans (RD hP)
theorem Mx{f:Zp×Zp×Zp→Zp×Zp×Zp}(hf: ∀x,mlB x UB8=f x){c:Zp}(hc:zp TRN=c)(x:Zp×Zp×Zp)(hd:Decidable (eqJ (ngJ (f (f x))) (tuJ c x)))(b:Bool)(hb:b=decide (eqJ (ngJ (f (f x))) (tuJ c x))):PUR 327 [JV x] (.bool b):=by
 intro w hw
 refine Hf func327 rfl hw<|fun hGF=>ae (E:=EE [1000022])<|Bx 1 hGF rfl<|fun b1=>Asg rfl<|aa<|ae (E:=EE [1000022])<|ik 7 TRB hGF rfl rfl rfl dc dc underlying22 sizeOf5 zeroValue5 rfl rfl<|fun b7=>mN 7 rfl hGF rfl rfl underlying22 underlying5 rfl rfl<|Cc rfl ent90 (fun w' hC hG=>CO hc _ _ w' hG (BytesAt.range (hC.own 7 b7 _ _ rfl).1.range))<|Mv rfl<|Ext rfl rfl<|Ext rfl rfl<|Al 3 hGF zv52<|fun b3=>Sa 3 hGF rfl rfl rfl bg<|Asg rfl<|aa<|eG (E:=EE [1000022,2999999]) [0,1,2,3,4,5,6,7,8] [⟨9,5,54,(fe 0++(fe 0++fe 0)).map U64⟩] [10] dR rfl kr kr kr kr kr kr dc (by intro x hx;simp only[List.mem_cons,List.not_mem_nil,or_false]at hx;subst hx;exact bP rfl ns rfl)<|Fa 0 rfl underlying54 rfl sizeOf52<|ao 1 _ rfl rfl isAgg52 sizeOf52 sm dB rfl rfl<|La 3 rfl rfl bg<|Ca rfl (gt _ _)<|Fa 6 rfl underlying54 rfl sizeOf52<|ao 1 _ rfl rfl isAgg52 sizeOf52 sm (kB sm) rfl rfl<|Fa 12 rfl underlying54 rfl sizeOf52<|ao 1 _ rfl rfl isAgg52 sizeOf52 sm (f7 (m:=6) (n:=6) sm sm rfl) rfl rfl<|d7 s4 rfl rfl rfl sm sm sm rfl rfl<|aa<|?_
 refine ⟨_,_,rfl,hGF,by intro x hx;simp only[List.mem_cons,List.not_mem_nil,or_false]at hx;subst hx;rfl,by intro x hx;simp only[List.mem_cons,List.not_mem_nil,or_false]at hx;subst hx;rfl,fun adr=> ?_⟩
 refine Sa 5 hGF rfl rfl rfl bS<|aa<|w9 (EE [2999998,2999996,1000022]) dR kr kr<|aW (m:=9) [0,8] kr<|La 1 rfl rfl bS<|La 5 rfl rfl bS<|aa<|fF (m:=8) [1,4] kr kr dc<|?_
 intro i hi
 simp only[List.mem_cons,List.not_mem_nil,or_false]at hi
 rcases hi with rfl|rfl
 ·refine iT 22 UB8 hGF rfl rfl rfl rfl dc dc underlying22 sizeOf5 zeroValue5 rfl rfl<|fun b22=>aa<|fF (m:=7) [2,4] kr kr dc<|?_
  intro i hi
  simp only[List.mem_cons,List.not_mem_nil,or_false]at hi
  rcases hi with rfl|rfl
  ·refine ej 22 rfl hGF rfl rfl underlying22 underlying5 rfl rfl<|aa<|aW (m:=6) [3] kr<|Cc rfl ent328 (fun w' hC hG=>gY hf _ _ _ w' hG (aO (n:=22) rfl w' hC))<|aa<|aW (m:=5) [4] kr<|iT 25 UB8 hGF rfl rfl rfl rfl dc dc underlying22 sizeOf5 zeroValue5 rfl rfl<|fun b25=>aa<|aW (m:=4) [5] kr<|ej 25 rfl hGF rfl rfl underlying22 underlying5 rfl rfl<|aa<|aW (m:=0) [6,7,9,10] kr<|Cc rfl ent328 (fun w' hC hG=>gY hf _ _ _ w' hG (aO (n:=25) rfl w' hC))<|Ca rfl (nC _)<|Ca rfl (ig _ _ hd b hb)<|Asg rfl<|aa<|dz kr<|aV<|am<|Rr<|?_
   exact aH rfl rfl (fun w hw=>⟨rfl,ac hw⟩)
  ·refine iT 25 UB8 hGF rfl rfl rfl rfl dc dc underlying22 sizeOf5 zeroValue5 rfl rfl<|fun b25=>aa<|fF (m:=6) [2,5] kr kr dc<|?_
   intro i hi
   simp only[List.mem_cons,List.not_mem_nil,or_false]at hi
   rcases hi with rfl|rfl
   ·refine ej 22 rfl hGF rfl rfl underlying22 underlying5 rfl rfl<|aa<|aW (m:=5) [3] kr<|Cc rfl ent328 (fun w' hC hG=>gY hf _ _ _ w' hG (aO (n:=22) rfl w' hC))<|aa<|aW (m:=4) [5] kr<|ej 25 rfl hGF rfl rfl underlying22 underlying5 rfl rfl<|aa<|aW (m:=0) [6,7,9,10] kr<|Cc rfl ent328 (fun w' hC hG=>gY hf _ _ _ w' hG (aO (n:=25) rfl w' hC))<|Ca rfl (nC _)<|Ca rfl (ig _ _ hd b hb)<|Asg rfl<|aa<|dz kr<|aV<|am<|Rr<|?_
    exact aH rfl rfl (fun w hw=>⟨rfl,ac hw⟩)
   ·refine ej 25 rfl hGF rfl rfl underlying22 underlying5 rfl rfl<|aa<|aW (m:=5) [2] kr<|ej 22 rfl hGF rfl rfl underlying22 underlying5 rfl rfl<|aa<|aW (m:=0) [3,6,7,9,10] kr<|Cc rfl ent328 (fun w' hC hG=>gY hf _ _ _ w' hG (aO (n:=22) rfl w' hC))<|Cc rfl ent328 (fun w' hC hG=>gY hf _ _ _ w' hG (aO (n:=25) rfl w' hC))<|Ca rfl (nC _)<|Ca rfl (ig _ _ hd b hb)<|Asg rfl<|aa<|dz kr<|aV<|am<|Rr<|?_
    exact aH rfl rfl (fun w hw=>⟨rfl,ac hw⟩)
 ·refine iT 25 UB8 hGF rfl rfl rfl rfl dc dc underlying22 sizeOf5 zeroValue5 rfl rfl<|fun b25=>aa<|fF (m:=7) [1,5] kr kr dc<|?_
  intro i hi
  simp only[List.mem_cons,List.not_mem_nil,or_false]at hi
  rcases hi with rfl|rfl
  ·refine iT 22 UB8 hGF rfl rfl rfl rfl dc dc underlying22 sizeOf5 zeroValue5 rfl rfl<|fun b22=>aa<|fF (m:=6) [2,5] kr kr dc<|?_
   intro i hi
   simp only[List.mem_cons,List.not_mem_nil,or_false]at hi
   rcases hi with rfl|rfl
   ·refine ej 22 rfl hGF rfl rfl underlying22 underlying5 rfl rfl<|aa<|aW (m:=5) [3] kr<|Cc rfl ent328 (fun w' hC hG=>gY hf _ _ _ w' hG (aO (n:=22) rfl w' hC))<|aa<|aW (m:=4) [5] kr<|ej 25 rfl hGF rfl rfl underlying22 underlying5 rfl rfl<|aa<|aW (m:=0) [6,7,9,10] kr<|Cc rfl ent328 (fun w' hC hG=>gY hf _ _ _ w' hG (aO (n:=25) rfl w' hC))<|Ca rfl (nC _)<|Ca rfl (ig _ _ hd b hb)<|Asg rfl<|aa<|dz kr<|aV<|am<|Rr<|?_
    exact aH rfl rfl (fun w hw=>⟨rfl,ac hw⟩)
   ·refine ej 25 rfl hGF rfl rfl underlying22 underlying5 rfl rfl<|aa<|aW (m:=5) [2] kr<|ej 22 rfl hGF rfl rfl underlying22 underlying5 rfl rfl<|aa<|aW (m:=0) [3,6,7,9,10] kr<|Cc rfl ent328 (fun w' hC hG=>gY hf _ _ _ w' hG (aO (n:=22) rfl w' hC))<|Cc rfl ent328 (fun w' hC hG=>gY hf _ _ _ w' hG (aO (n:=25) rfl w' hC))<|Ca rfl (nC _)<|Ca rfl (ig _ _ hd b hb)<|Asg rfl<|aa<|dz kr<|aV<|am<|Rr<|?_
    exact aH rfl rfl (fun w hw=>⟨rfl,ac hw⟩)
  ·refine ej 25 rfl hGF rfl rfl underlying22 underlying5 rfl rfl<|aa<|aW (m:=6) [1] kr<|iT 22 UB8 hGF rfl rfl rfl rfl dc dc underlying22 sizeOf5 zeroValue5 rfl rfl<|fun b22=>aa<|aW (m:=5) [2] kr<|ej 22 rfl hGF rfl rfl underlying22 underlying5 rfl rfl<|aa<|aW (m:=0) [3,6,7,9,10] kr<|Cc rfl ent328 (fun w' hC hG=>gY hf _ _ _ w' hG (aO (n:=22) rfl w' hC))<|Cc rfl ent328 (fun w' hC hG=>gY hf _ _ _ w' hG (aO (n:=25) rfl w' hC))<|Ca rfl (nC _)<|Ca rfl (ig _ _ hd b hb)<|Asg rfl<|aa<|dz kr<|aV<|am<|Rr<|?_
   exact aH rfl rfl (fun w hw=>⟨rfl,ac hw⟩)
def cV:GP:=⟨(0,0,0),none,True.intro,rfl⟩
def qx:GP:=⟨(zp G1x,zp G1y,1),some G1p,fw uV,Ch⟩
def An(p q:GP):GP:=⟨adF p.J q.J,E1.ad p.P q.P,E1.ad_on p.on q.on,B1 p.on q.on p.jr q.jr⟩
def ga(p:GP):GP:=⟨(p.J.1,-p.J.2.1,p.J.2.2),E1.ne p.P,E1.ne_on p.on,E1.jr_n p.jr⟩
def zY(p:GP)(bs:L8):GP:=⟨mlB p.J bs,E1.times p.P (BN bs bs.length),E1.times_on p.on _,mR p.on p.jr rfl⟩
theorem K3(x y:Zp):E1.jr (x,y,1) (some (x,y)):=E1.jr_at (x,y) kd
def CR(x:Zp)(l:Bool)(h:LQ x):GP:=⟨(x,LY x l,1),some (x,LY x l),KO h l,K3 x (LY x l)⟩
def GG(x y:Zp)(h:y*y=RS4 x):GP:=⟨(x,y,1),some (x,y),fw (ld.2 h),K3 x y⟩
theorem zv54(w:World):(zeroValue 54).run prog w=.ok (PtV cV) w:=ns w
theorem xy_w{J:Zp×Zp×Zp}{p:Zp×Zp}(h:E1.jr J (some p)){v:Zp}(hv:J.2.2*v=1):J.1*(v*v)=p.1∧J.2.1*(v*v*v)=p.2:=by
 have hx:J.1=p.1*(J.2.2*J.2.2):=h.2.1
 have hy:J.2.1=p.2*(J.2.2*J.2.2*J.2.2):=h.2.2
 obtain ⟨z,hz⟩: ∃z,J.2.2=z:=⟨_,rfl⟩
 rw[hz]at hx hy hv
 refine ⟨?_, ?_⟩
 ·rw[hx,show p.1*(z*z)*(v*v)=p.1*((z*v)*(z*v))from by grind,hv,nE,qt]
 ·rw[hy,show p.2*(z*z*z)*(v*v*v)=p.2*((z*v)*((z*v)*(z*v)))from by grind,hv,nE,nE,qt]
theorem EO{J:Zp×Zp×Zp}{P:Pt Zp}(h:E1.jr J P)(hn: ¬P=none){v:Zp}(hv: ¬J.2.2=0→J.2.2*v=1):J.1*(v*v)=PX P∧J.2.1*(v*v*v)=PY P:=by
 cases P with
 |none=>exact absurd rfl hn
 |some p=>exact xy_w h (hv h.1)
theorem Fs  :PUR 42 [] (PtV qx):=jgen
theorem kG  :PUR 56 [] (PtV cV):=Fc
theorem rX(p:GP):PUR 26 [PtV p] (.bool (decide (p.P=none))):=by
 have h:=oP p.J
 rw[show decide (p.J.2.2=0)=decide (p.P=none)from decide_eq_decide.2 (E1.jr_z p.jr)]at h
 exact h
theorem jc(p q:GP):PUR 326 [PtV p,PtV q] (.bool (decide (p.P=q.P))):= 
 have hd:Decidable (eqJ p.J q.J):=decidable_of_iff _ (eqJ_iff p.jr q.jr).symm
 ig p.J q.J hd _ (decide_eq_decide.2 (eqJ_iff p.jr q.jr).symm)
theorem Co(p q:GP):PUR 142 [PtV p,PtV q] (PtV (An p q)):=wE p.J q.J
theorem lI(p:GP):PUR 119 [PtV p] (PtV (ga p)):=nC p.J
theorem FR(p:GP)(h:p.P=none):PUR 86 [PtV p] (.tuple #[EV 0,EV 0,.bool false]):=ya p.J ((E1.jr_z p.jr).2 h)
theorem tu(p:GP)(h: ¬p.P=none):PUR 86 [PtV p] (.tuple #[EV (PX p.P),EV (PY p.P),.bool true]):=by
 have k:=yi p.J (fun e=>h ((E1.jr_z p.jr).1 e))
 have e:=EO p.jr h (v:=p.J.2.2^(PP-2)) (fun h=>qs h)
 rw[e.1,e.2]at k
 exact k
theorem Lc{a:Zp}(h:LQ a):PUR 172 [EV (RS4 a)] (.tuple #[EV (SQ (RS4 a)),.bool true]):=decide_eq_true h▸kW (RS4 a)
theorem xp{x y:Zp}{l:Bool}(h:LQ x)(e:LY x l=y)(k:PUR 110 [EV x,.bool l] (.tuple #[JV (x,y,1),.bool true])):PUR 110 [EV x,.bool l] (.tuple #[PtV (CR x l h),.bool true]):=by
 subst e
 exact k
theorem KP{a:Zp}(h: ¬LQ a):PUR 172 [EV (RS4 a)] (.tuple #[EV (SQ (RS4 a)),.bool false]):=decide_eq_false h▸kW (RS4 a)
theorem vh(x:Zp)(l:Bool)(h:LQ x):PUR 110 [EV x,.bool l] (.tuple #[PtV (CR x l h),.bool true]):=by
 cases l with
 |true=>exact xp h (R0 h) (o5 x _ (Lc h))
 |false=>exact xp h (Ux h) (oU x _ (Lc h))
theorem vt(x:Zp)(l:Bool)(h: ¬LQ x):PUR 110 [EV x,.bool l] (.tuple #[PtV cV,.bool false]):=by
 cases l with
 |true=>exact pR x _ (KP h)
 |false=>exact n4 x _ (KP h)
theorem d9(p:GP):PUR 327 [PtV p] (.bool (decide (E1.times p.P ORD=none))):= 
 have hd:Decidable (eqJ (ngJ (mlB (mlB p.J UB8) UB8)) (tuJ (zp TRN) p.J)):=decidable_of_iff _ (lX p.on p.jr).symm
 Mx (fun _=>rfl) rfl p.J hd _ (decide_eq_decide.2 (lX p.on p.jr).symm)
theorem Kv(p:GP)(e:Option Addr)(cap:Nat)(bs:L8)(hlen:bs.length≤1000)(w:World)(hw:Gt w)(hby:BytesAt w e bs):CLS 328 [PtV p,.slice e bs.length cap].toArray w (fun r w'=>r=.returned (PtV (zY p bs))∧Grow w w'):=gC p.J e cap bs om w hw hby
end J1
end
section
def G2p:W2×W2:=((zp 0x24aa2b2f08f0a91260805272dc51051c6e47ad4fa403b02b4510b647ae3d1770bac0326a805bbefd48056c8c121bdb8,zp 0x13e02b6052719f607dacd3a088274f65596bd0d09920b61ab5da61bbdc7f5049334cf11213945d57e5ac7d055d042b7e),(zp 0xce5d527727d6e118cc9cdc6da2e351aadfd9baa8cbdd3a76d429a695160d12c923ac9cc3baca289e193548608b82801,zp 0x606c4a02ea734cc32acd2b02bc28b99cb3e287e85a763af267492ab572e99ab3f370d275cec1da1aaa9075ff05f79be))
theorem ow:E2w.on G2p:=by
 unfold Ec.on
 decide+kernel
theorem DX:E2w.jr (G2p.1,G2p.2,on2) (some G2p):=⟨by decide+kernel,by decide+kernel,by decide+kernel⟩
theorem g2_z:(E2w.jm (G2p.1,G2p.2,on2) (dN 255 ORD []) (ze2,ze2,ze2)).2.2=ze2:=by decide+kernel
theorem iM:E2w.times (some G2p) ORD=none:=zH E2w (P:=some G2p) ow DX (dN 255 ORD []) y4 g2_z
end
section
theorem EZ:on2≠ze2:=fun h=>absurd (congrArg Prod.fst h) kd
theorem mM(p:W2×W2):E2w.jr (p.1,p.2,on2) (some p):=E2w.jr_at p EZ
end
section
open Go.RowKit
theorem ent229:ai prog 229:=fun _ _=>kr
theorem ent147:ai prog 147:=fun _ _=>kr
theorem ent333:ai prog 333:=fun _ _=>kr
theorem ent98:ai prog 98:=fun _ _=>kr
theorem ent334:ai prog 334:=fun _ _=>kr
theorem ent96:ai prog 96:=fun _ _=>kr
theorem ent254:ai prog 254:=fun _ _=>kr
theorem ent185:ai prog 185:=fun _ _=>kr
theorem ent225:ai prog 225:=fun _ _=>kr
theorem ent152:ai prog 152:=fun _ _=>kr
theorem ent332:ai prog 332:=fun _ _=>kr
theorem ent195:ai prog 195:=fun _ _=>kr
theorem ent202:ai prog 202:=fun _ _=>kr
namespace J2
attribute [local simp] aT a9 aR aM aC bd aJ aI aA PLl cq cn N1l ck cp cm a5 bc aP aX a8
structure GP where
 J:W6
 P:Pt W2
 on:E2w.onP P
 jr:E2w.jr J P
def GL(p:GP):L6:=((fe p.J.1.1++fe p.J.1.2)++((fe p.J.2.1.1++fe p.J.2.1.2)++(fe p.J.2.2.1++fe p.J.2.2.2)))
theorem bf(p:GP):(GL p).length=36:=by simp[GL]
attribute [local simp] bf
abbrev PtV(p:GP):Value:=aQ (GL p)
def PX:Pt W2→W2
 |none=>ze2
 |some p=>p.1
def PY:Pt W2→W2
 |none=>ze2
 |some p=>p.2
def RS4(x:W2):W2:=ad2 (ml2 (ml2 x x) x) E2w.b
abbrev LQ(x:W2):Prop:=IsQ (nm2 (RS4 x))
theorem ld{x y:W2}:E2w.on (x,y)↔ml2 y y=RS4 x:=by
 show ml2 y y=ad2 (ml2 x (ml2 x x)) E2w.b↔ml2 y y=ad2 (ml2 (ml2 x x) x) E2w.b
 rw[show ml2 x (ml2 x x)=ml2 (ml2 x x) x from R2.mul_comm _ _]
theorem fw{p:W2×W2}(h:E2w.on p):E2w.onP (some p):=h
def sgY(r:W2):Bool→W2
 |true=>ng2 r
 |false=>r
theorem JD(r:W2):ml2 (ng2 r) (ng2 r)=ml2 r r:=zq R2 [r] (tm (tn j0) (tn j0)) (tm j0 j0)
theorem Cf{x r:W2}(hr:ml2 r r=RS4 x)(l:Bool):ml2 (sgY r l) (sgY r l)=RS4 x:=by
 cases l with
 |true=>exact (JD r).trans hr
 |false=>exact hr
theorem nz(w:World):(zeroValue 94).run prog w=.ok (aQ ((fe 0++fe 0)++((fe 0++fe 0)++(fe 0++fe 0)))) w:=by rw[kA];exact (zeroValue94 w).trans rr
theorem nK:Three prog 94 ⟨ "x",92,0,false, "", "pharos/g2",0⟩ ⟨ "y",92,12,false, "", "pharos/g2",96⟩ ⟨ "z",92,24,false, "", "pharos/g2",192⟩ 12 (fe 0++fe 0) (fe 0++fe 0) (fe 0++fe 0):=⟨underlying94,rfl,rfl,rfl,sizeOf92,sizeOf92,sizeOf92,nz,sm,sm,sm⟩
theorem OS(x y:W2):PUR 203 [EV2 x,EV2 y] (EV2 (E2w.sub x y)):=by
 have h:=jZ x y
 rw[kR]at h
 exact h
def TO61:Tb prog Gt:=TO52.add (eK (g:=E2w.sub) ent203 OS)
theorem oP(x:W6):PUR 147 [EV6 x] (.bool (decide (x.2.2=ze2))):=(bL (l1 (V6 _)) rfl (pE TO61 func147 [.inl [x.1.1,x.1.2,x.2.1.1,x.2.1.2,x.2.2.1,x.2.2.2]] (.inl (.inr (.inl (decide (x.2.2=ze2))))) (.inl (.inr (.inl (decide ((x.2.2.1,x.2.2.2)=ze2)))),[]) [] kr aG rfl))
def TO62:Tb prog Gt:=TO61.add (Av (g:=fun x=>decide (x.2.2=ze2)) ent147 oP)
theorem nC(x:W6):PUR 334 [EV6 x] (EV6 (x.1,ng2 x.2.1,x.2.2)):=(bL (l1 (V6 _)) (V6 _) (pE TO62 func334 [.inl [x.1.1,x.1.2,x.2.1.1,x.2.1.2,x.2.2.1,x.2.2.2]] (.inl (.inl [(x.1,ng2 x.2.1,x.2.2).1.1,(x.1,ng2 x.2.1,x.2.2).1.2,(x.1,ng2 x.2.1,x.2.2).2.1.1,(x.1,ng2 x.2.1,x.2.2).2.1.2,(x.1,ng2 x.2.1,x.2.2).2.2.1,(x.1,ng2 x.2.1,x.2.2).2.2.2])) (let t0:=ng2 (x.2.1.1,x.2.1.2);(.inl (.inl [x.1.1,x.1.2,t0.1,t0.2,x.2.2.1,x.2.2.2]),[])) [] kr aG rfl))
def TO63:Tb prog Gt:=TO62.add (cB (g:=fun x=>(x.1,ng2 x.2.1,x.2.2)) ent334 nC)
theorem Fc  :PUR 185 [] (EV6 (ze2,ze2,ze2)):=(bL rfl (V6 _) (pE TO63 func185 [] (.inl (.inl [(ze2,ze2,ze2).1.1,(ze2,ze2,ze2).1.2,(ze2,ze2,ze2).2.1.1,(ze2,ze2,ze2).2.1.2,(ze2,ze2,ze2).2.2.1,(ze2,ze2,ze2).2.2.2])) (.inl (.inl [0,0,0,0,0,0]),[]) [] kr aG rfl))
theorem y9{f:Nat}{g:W6}(en:ai prog f)(h:PUR f [] (EV6 g)):Snd prog Gt f (c0 q6.rd g):=tJ q6.rd en (bL rfl (V6 _).symm h)
def TO64:Tb prog Gt:=TO63.add (y9 (g:=(ze2,ze2,ze2)) ent185 Fc)
theorem xz(a:W2):PUR 254 [EV2 a] (EV2 (ml2 (ml2 a a) a)):=pE TO64 func254 [.inl [a.1,a.2]] (.inl (.inl [(ml2 (ml2 a a) a).1,(ml2 (ml2 a a) a).2])) (let t0:=ml2 a a;let t1:=ml2 (t0.1,t0.2) a;(.inl (.inl [t1.1,t1.2]),[])) [] kr aG rfl
def TO65:Tb prog Gt:=TO64.add (eP (g:=fun a=>ml2 (ml2 a a) a) ent254 xz)
theorem F6(x:W6):PUR 202 [EV6 x] (EV6 (E2w.dbA x)):=(bL (l1 (V6 _)) (V6 _) (pE TO65 func202 [.inl [x.1.1,x.1.2,x.2.1.1,x.2.1.2,x.2.2.1,x.2.2.2]] (.inl (.inl [(E2w.dbA x).1.1,(E2w.dbA x).1.2,(E2w.dbA x).2.1.1,(E2w.dbA x).2.1.2,(E2w.dbA x).2.2.1,(E2w.dbA x).2.2.2])) (let t0:=ad2 (x.2.1.1,x.2.1.2) (x.2.1.1,x.2.1.2);let t1:=ml2 (x.1.1,x.1.2) (x.1.1,x.1.2);let t2:=ad2 (t1.1,t1.2) (t1.1,t1.2);let t3:=ad2 (t2.1,t2.2) (t1.1,t1.2);let t4:=ml2 (t0.1,t0.2) (t0.1,t0.2);let t5:=ml2 (t4.1,t4.2) (x.1.1,x.1.2);let t6:=ml2 (t3.1,t3.2) (t3.1,t3.2);let t7:=E2w.sub (t6.1,t6.2) (t5.1,t5.2);let t8:=E2w.sub (t7.1,t7.2) (t5.1,t5.2);let t9:=E2w.sub (t5.1,t5.2) (t8.1,t8.2);let t10:=ml2 (t3.1,t3.2) (t9.1,t9.2);let t11:=ml2 (t4.1,t4.2) (t0.1,t0.2);let t12:=ml2 (t11.1,t11.2) (x.2.1.1,x.2.1.2);let t13:=E2w.sub (t10.1,t10.2) (t12.1,t12.2);let t14:=ml2 (x.2.2.1,x.2.2.2) (t0.1,t0.2);(.inl (.inl [t8.1,t8.2,t13.1,t13.2,t14.1,t14.2]),[])) [] kr aG rfl))
def TO66:Tb prog Gt:=TO65.add (cB (g:=E2w.dbA) ent202 F6)
theorem wE(x y:W6):PUR 152 [EV6 x,EV6 y] (EV6 (E2w.adA x y)):=by
 by_cases h1:x.2.2=ze2
 ·exact (bL (l2 (V6 _) (V6 _)) (V6 _) (pE TO66 func152 [.inl [x.1.1,x.1.2,x.2.1.1,x.2.1.2,x.2.2.1,x.2.2.2],.inl [y.1.1,y.1.2,y.2.1.1,y.2.1.2,y.2.2.1,y.2.2.2]] (.inl (.inl [(E2w.adA x y).1.1,(E2w.adA x y).1.2,(E2w.adA x y).2.1.1,(E2w.adA x y).2.1.2,(E2w.adA x y).2.2.1,(E2w.adA x y).2.2.2])) (.inl (.inl [y.1.1,y.1.2,y.2.1.1,y.2.1.2,y.2.2.1,y.2.2.2]),[(decide (x.2.2=ze2),true)]) [some true] kr (au (decide_eq_true h1) aG) (by rw[show E2w.adA x y=y from if_pos h1]<;>exact rfl)))
 ·by_cases h2:y.2.2=ze2
  ·exact (bL (l2 (V6 _) (V6 _)) (V6 _) (pE TO66 func152 [.inl [x.1.1,x.1.2,x.2.1.1,x.2.1.2,x.2.2.1,x.2.2.2],.inl [y.1.1,y.1.2,y.2.1.1,y.2.1.2,y.2.2.1,y.2.2.2]] (.inl (.inl [(E2w.adA x y).1.1,(E2w.adA x y).1.2,(E2w.adA x y).2.1.1,(E2w.adA x y).2.1.2,(E2w.adA x y).2.2.1,(E2w.adA x y).2.2.2])) (.inl (.inl [x.1.1,x.1.2,x.2.1.1,x.2.1.2,x.2.2.1,x.2.2.2]),[(decide (x.2.2=ze2),false),(decide (y.2.2=ze2),true)]) [some false,some true] kr (au (decide_eq_false h1) (au (decide_eq_true h2) aG)) (by rw[show E2w.adA x y=x from (if_neg h1).trans (if_pos h2)]<;>exact rfl)))
  ·by_cases h3:E2w.jh x.1 x.2.2 y.1 y.2.2=ze2
   ·by_cases h4:E2w.jq x.2.1 x.2.2 y.2.1 y.2.2=ze2
    ·exact (bL (l2 (V6 _) (V6 _)) (V6 _) (pE TO66 func152 [.inl [x.1.1,x.1.2,x.2.1.1,x.2.1.2,x.2.2.1,x.2.2.2],.inl [y.1.1,y.1.2,y.2.1.1,y.2.1.2,y.2.2.1,y.2.2.2]] (.inl (.inl [(E2w.adA x y).1.1,(E2w.adA x y).1.2,(E2w.adA x y).2.1.1,(E2w.adA x y).2.1.2,(E2w.adA x y).2.2.1,(E2w.adA x y).2.2.2])) (let t0:=ml2 (x.2.2.1,x.2.2.2) (x.2.2.1,x.2.2.2);let t1:=ml2 (y.2.2.1,y.2.2.2) (y.2.2.1,y.2.2.2);let t2:=ml2 (x.1.1,x.1.2) (t1.1,t1.2);let t3:=ml2 (x.2.1.1,x.2.1.2) (t1.1,t1.2);let t4:=ml2 (t3.1,t3.2) (y.2.2.1,y.2.2.2);let t5:=ml2 (y.1.1,y.1.2) (t0.1,t0.2);let t6:=E2w.sub (t5.1,t5.2) (t2.1,t2.2);let t7:=ml2 (y.2.1.1,y.2.1.2) (t0.1,t0.2);let t8:=ml2 (t7.1,t7.2) (x.2.2.1,x.2.2.2);let t9:=E2w.sub (t8.1,t8.2) (t4.1,t4.2);let t10:=E2w.dbA x;(.inl (.inl [t10.1.1,t10.1.2,t10.2.1.1,t10.2.1.2,t10.2.2.1,t10.2.2.2]),[(decide (x.2.2=ze2),false),(decide (y.2.2=ze2),false),(decide ((t6.1,t6.2)=ze2),true),(decide ((t9.1,t9.2)=ze2),true)])) [some false,some false,some true,some true] kr (au (decide_eq_false h1) (au (decide_eq_false h2) (au (decide_eq_true h3) (au (decide_eq_true h4) aG)))) (by rw[show E2w.adA x y=E2w.dbA x from (if_neg h1).trans ((if_neg h2).trans ((if_pos h3).trans (if_pos h4)))]<;>exact rfl)))
    ·exact (bL (l2 (V6 _) (V6 _)) (V6 _) (pE TO66 func152 [.inl [x.1.1,x.1.2,x.2.1.1,x.2.1.2,x.2.2.1,x.2.2.2],.inl [y.1.1,y.1.2,y.2.1.1,y.2.1.2,y.2.2.1,y.2.2.2]] (.inl (.inl [(E2w.adA x y).1.1,(E2w.adA x y).1.2,(E2w.adA x y).2.1.1,(E2w.adA x y).2.1.2,(E2w.adA x y).2.2.1,(E2w.adA x y).2.2.2])) (let t0:=ml2 (x.2.2.1,x.2.2.2) (x.2.2.1,x.2.2.2);let t1:=ml2 (y.2.2.1,y.2.2.2) (y.2.2.1,y.2.2.2);let t2:=ml2 (x.1.1,x.1.2) (t1.1,t1.2);let t3:=ml2 (x.2.1.1,x.2.1.2) (t1.1,t1.2);let t4:=ml2 (t3.1,t3.2) (y.2.2.1,y.2.2.2);let t5:=ml2 (y.1.1,y.1.2) (t0.1,t0.2);let t6:=E2w.sub (t5.1,t5.2) (t2.1,t2.2);let t7:=ml2 (y.2.1.1,y.2.1.2) (t0.1,t0.2);let t8:=ml2 (t7.1,t7.2) (x.2.2.1,x.2.2.2);let t9:=E2w.sub (t8.1,t8.2) (t4.1,t4.2);(.inl (.inl [0,0,0,0,0,0]),[(decide (x.2.2=ze2),false),(decide (y.2.2=ze2),false),(decide ((t6.1,t6.2)=ze2),true),(decide ((t9.1,t9.2)=ze2),false),(decide ((t6.1,t6.2)=ze2),true)])) [some false,some false,some true,some false,some true] kr (au (decide_eq_false h1) (au (decide_eq_false h2) (au (decide_eq_true h3) (au (decide_eq_false h4) (au (decide_eq_true h3) aG))))) (by rw[show E2w.adA x y=(ze2,ze2,ze2)from (if_neg h1).trans ((if_neg h2).trans ((if_pos h3).trans (if_neg h4)))]<;>exact rfl)))
   ·exact (bL (l2 (V6 _) (V6 _)) (V6 _) (pE TO66 func152 [.inl [x.1.1,x.1.2,x.2.1.1,x.2.1.2,x.2.2.1,x.2.2.2],.inl [y.1.1,y.1.2,y.2.1.1,y.2.1.2,y.2.2.1,y.2.2.2]] (.inl (.inl [(E2w.adA x y).1.1,(E2w.adA x y).1.2,(E2w.adA x y).2.1.1,(E2w.adA x y).2.1.2,(E2w.adA x y).2.2.1,(E2w.adA x y).2.2.2])) (let t0:=ml2 (x.2.2.1,x.2.2.2) (x.2.2.1,x.2.2.2);let t1:=ml2 (y.2.2.1,y.2.2.2) (y.2.2.1,y.2.2.2);let t2:=ml2 (x.1.1,x.1.2) (t1.1,t1.2);let t3:=ml2 (x.2.1.1,x.2.1.2) (t1.1,t1.2);let t4:=ml2 (t3.1,t3.2) (y.2.2.1,y.2.2.2);let t5:=ml2 (y.1.1,y.1.2) (t0.1,t0.2);let t6:=E2w.sub (t5.1,t5.2) (t2.1,t2.2);let t7:=ml2 (y.2.1.1,y.2.1.2) (t0.1,t0.2);let t8:=ml2 (t7.1,t7.2) (x.2.2.1,x.2.2.2);let t9:=E2w.sub (t8.1,t8.2) (t4.1,t4.2);let t10:=ml2 (t6.1,t6.2) (t6.1,t6.2);let t11:=ml2 (t10.1,t10.2) (t6.1,t6.2);let t12:=ml2 (t10.1,t10.2) (t2.1,t2.2);let t13:=ml2 (t9.1,t9.2) (t9.1,t9.2);let t14:=E2w.sub (t13.1,t13.2) (t11.1,t11.2);let t15:=E2w.sub (t14.1,t14.2) (t12.1,t12.2);let t16:=E2w.sub (t15.1,t15.2) (t12.1,t12.2);let t17:=E2w.sub (t12.1,t12.2) (t16.1,t16.2);let t18:=ml2 (t9.1,t9.2) (t17.1,t17.2);let t19:=ml2 (t11.1,t11.2) (t4.1,t4.2);let t20:=E2w.sub (t18.1,t18.2) (t19.1,t19.2);let t21:=ml2 (x.2.2.1,x.2.2.2) (y.2.2.1,y.2.2.2);let t22:=ml2 (t21.1,t21.2) (t6.1,t6.2);(.inl (.inl [t16.1,t16.2,t20.1,t20.2,t22.1,t22.2]),[(decide (x.2.2=ze2),false),(decide (y.2.2=ze2),false),(decide ((t6.1,t6.2)=ze2),false),(decide ((t6.1,t6.2)=ze2),false)])) [some false,some false,some false,some false] kr (au (decide_eq_false h1) (au (decide_eq_false h2) (au (decide_eq_false h3) (au (decide_eq_false h3) aG)))) (by rw[show E2w.adA x y=E2w.adG x y from (if_neg h1).trans ((if_neg h2).trans (if_neg h3))]<;>exact rfl)))
def TO67:Tb prog Gt:=TO66.add (cw (g:=E2w.adA) ent152 wE)
theorem ig(x y:W6)(hd:Decidable (E2w.eqJ x y))(b:Bool)(hb:b=decide (E2w.eqJ x y)):PUR 332 [EV6 x,EV6 y] (.bool b):=by
 by_cases h1:x.2.2=ze2
 ·by_cases h2:y.2.2=ze2
  ·exact (bL (l2 (V6 _) (V6 _)) rfl (pE TO67 func332 [.inl [x.1.1,x.1.2,x.2.1.1,x.2.1.2,x.2.2.1,x.2.2.2],.inl [y.1.1,y.1.2,y.2.1.1,y.2.1.2,y.2.2.1,y.2.2.2]] (.inl (.inr (.inl b))) (.inl (.inr (.inl true)),[(decide (x.2.2=ze2),true),(decide (x.2.2=ze2),true),(decide (y.2.2=ze2),true)]) [some true,some true,some true] kr (au (decide_eq_true h1) (au (decide_eq_true h1) (au (decide_eq_true h2) aG))) (by obtain rfl:b=true:=hb.trans (decide_eq_true (.inl ⟨h1,h2⟩))<;>exact rfl)))
  ·exact (bL (l2 (V6 _) (V6 _)) rfl (pE TO67 func332 [.inl [x.1.1,x.1.2,x.2.1.1,x.2.1.2,x.2.2.1,x.2.2.2],.inl [y.1.1,y.1.2,y.2.1.1,y.2.1.2,y.2.2.1,y.2.2.2]] (.inl (.inr (.inl b))) (.inl (.inr (.inl false)),[(decide (x.2.2=ze2),true),(decide (x.2.2=ze2),true),(decide (y.2.2=ze2),false)]) [some true,some true,some false] kr (au (decide_eq_true h1) (au (decide_eq_true h1) (au (decide_eq_false h2) aG))) (by obtain rfl:b=false:=hb.trans (decide_eq_false (fun e=>e.elim (fun e=>h2 e.2) (fun e=>e.1 h1)))<;>exact rfl)))
 ·by_cases h2:y.2.2=ze2
  ·exact (bL (l2 (V6 _) (V6 _)) rfl (pE TO67 func332 [.inl [x.1.1,x.1.2,x.2.1.1,x.2.1.2,x.2.2.1,x.2.2.2],.inl [y.1.1,y.1.2,y.2.1.1,y.2.1.2,y.2.2.1,y.2.2.2]] (.inl (.inr (.inl b))) (.inl (.inr (.inl false)),[(decide (x.2.2=ze2),false),(decide (y.2.2=ze2),true),(decide (x.2.2=ze2),false)]) [some false,some true,some false] kr (au (decide_eq_false h1) (au (decide_eq_true h2) (au (decide_eq_false h1) aG))) (by obtain rfl:b=false:=hb.trans (decide_eq_false (fun e=>e.elim (fun e=>h1 e.1) (fun e=>e.2.1 h2)))<;>exact rfl)))
  ·by_cases h3:ml2 x.1 (ml2 y.2.2 y.2.2)=ml2 y.1 (ml2 x.2.2 x.2.2)
   ·by_cases h4:ml2 x.2.1 (ml2 (ml2 y.2.2 y.2.2) y.2.2)=ml2 y.2.1 (ml2 (ml2 x.2.2 x.2.2) x.2.2)
    ·exact (bL (l2 (V6 _) (V6 _)) rfl (pE TO67 func332 [.inl [x.1.1,x.1.2,x.2.1.1,x.2.1.2,x.2.2.1,x.2.2.2],.inl [y.1.1,y.1.2,y.2.1.1,y.2.1.2,y.2.2.1,y.2.2.2]] (.inl (.inr (.inl b))) (let t0:=ml2 (ml2 (y.2.2.1,y.2.2.2) (y.2.2.1,y.2.2.2)) (y.2.2.1,y.2.2.2);let t1:=ml2 (x.2.1.1,x.2.1.2) (t0.1,t0.2);let t2:=ml2 (ml2 (x.2.2.1,x.2.2.2) (x.2.2.1,x.2.2.2)) (x.2.2.1,x.2.2.2);let t3:=ml2 (y.2.1.1,y.2.1.2) (t2.1,t2.2);let t4:=ml2 (y.2.2.1,y.2.2.2) (y.2.2.1,y.2.2.2);let t5:=ml2 (x.1.1,x.1.2) (t4.1,t4.2);let t6:=ml2 (x.2.2.1,x.2.2.2) (x.2.2.1,x.2.2.2);let t7:=ml2 (y.1.1,y.1.2) (t6.1,t6.2);(.inl (.inr (.inl true)),[(decide (x.2.2=ze2),false),(decide (y.2.2=ze2),false),(decide ((t5.1,t5.2)=(t7.1,t7.2)),true),(decide ((t1.1,t1.2)=(t3.1,t3.2)),true)])) [some false,some false,some true,some true] kr (au (decide_eq_false h1) (au (decide_eq_false h2) (au (decide_eq_true h3) (au (decide_eq_true h4) aG)))) (by obtain rfl:b=true:=hb.trans (decide_eq_true (.inr ⟨h1,h2,h3,h4⟩))<;>exact rfl)))
    ·exact (bL (l2 (V6 _) (V6 _)) rfl (pE TO67 func332 [.inl [x.1.1,x.1.2,x.2.1.1,x.2.1.2,x.2.2.1,x.2.2.2],.inl [y.1.1,y.1.2,y.2.1.1,y.2.1.2,y.2.2.1,y.2.2.2]] (.inl (.inr (.inl b))) (let t0:=ml2 (ml2 (y.2.2.1,y.2.2.2) (y.2.2.1,y.2.2.2)) (y.2.2.1,y.2.2.2);let t1:=ml2 (x.2.1.1,x.2.1.2) (t0.1,t0.2);let t2:=ml2 (ml2 (x.2.2.1,x.2.2.2) (x.2.2.1,x.2.2.2)) (x.2.2.1,x.2.2.2);let t3:=ml2 (y.2.1.1,y.2.1.2) (t2.1,t2.2);let t4:=ml2 (y.2.2.1,y.2.2.2) (y.2.2.1,y.2.2.2);let t5:=ml2 (x.1.1,x.1.2) (t4.1,t4.2);let t6:=ml2 (x.2.2.1,x.2.2.2) (x.2.2.1,x.2.2.2);let t7:=ml2 (y.1.1,y.1.2) (t6.1,t6.2);(.inl (.inr (.inl false)),[(decide (x.2.2=ze2),false),(decide (y.2.2=ze2),false),(decide ((t5.1,t5.2)=(t7.1,t7.2)),true),(decide ((t1.1,t1.2)=(t3.1,t3.2)),false)])) [some false,some false,some true,some false] kr (au (decide_eq_false h1) (au (decide_eq_false h2) (au (decide_eq_true h3) (au (decide_eq_false h4) aG)))) (by obtain rfl:b=false:=hb.trans (decide_eq_false (fun e=>e.elim (fun e=>h1 e.1) (fun e=>h4 e.2.2.2)))<;>exact rfl)))
   ·exact (bL (l2 (V6 _) (V6 _)) rfl (pE TO67 func332 [.inl [x.1.1,x.1.2,x.2.1.1,x.2.1.2,x.2.2.1,x.2.2.2],.inl [y.1.1,y.1.2,y.2.1.1,y.2.1.2,y.2.2.1,y.2.2.2]] (.inl (.inr (.inl b))) (let t4:=ml2 (y.2.2.1,y.2.2.2) (y.2.2.1,y.2.2.2);let t5:=ml2 (x.1.1,x.1.2) (t4.1,t4.2);let t6:=ml2 (x.2.2.1,x.2.2.2) (x.2.2.1,x.2.2.2);let t7:=ml2 (y.1.1,y.1.2) (t6.1,t6.2);(.inl (.inr (.inl false)),[(decide (x.2.2=ze2),false),(decide (y.2.2=ze2),false),(decide ((t5.1,t5.2)=(t7.1,t7.2)),false)])) [some false,some false,some false] kr (au (decide_eq_false h1) (au (decide_eq_false h2) (au (decide_eq_false h3) aG))) (by obtain rfl:b=false:=hb.trans (decide_eq_false (fun e=>e.elim (fun e=>h1 e.1) (fun e=>h3 e.2.2.1)))<;>exact rfl)))
theorem ya(x:W6)(h:x.2.2=ze2):PUR 96 [EV6 x] (.tuple #[EV2 ze2,EV2 ze2,.bool false]):=(bL (l1 (V6 _)) rfl (pE TO67 func96 [.inl [x.1.1,x.1.2,x.2.1.1,x.2.1.2,x.2.2.1,x.2.2.2]] (.inr [.inl [ze2.1,ze2.2],.inl [ze2.1,ze2.2],.inr (.inl false)]) (.inr [.inl [0,0],.inl [0,0],.inr (.inl false)],[(decide (x.2.2=ze2),true)]) [some true] kr (au (decide_eq_true h) aG) rfl))
theorem yi(x:W6)(h: ¬x.2.2=ze2):PUR 96 [EV6 x] (.tuple #[EV2 (ml2 x.1 (ml2 (iv2 x.2.2) (iv2 x.2.2))),EV2 (ml2 x.2.1 (ml2 (ml2 (iv2 x.2.2) (iv2 x.2.2)) (iv2 x.2.2))),.bool true]):=(bL (l1 (V6 _)) rfl (pE TO67 func96 [.inl [x.1.1,x.1.2,x.2.1.1,x.2.1.2,x.2.2.1,x.2.2.2]] (.inr [.inl [(ml2 x.1 (ml2 (iv2 x.2.2) (iv2 x.2.2))).1,(ml2 x.1 (ml2 (iv2 x.2.2) (iv2 x.2.2))).2],.inl [(ml2 x.2.1 (ml2 (ml2 (iv2 x.2.2) (iv2 x.2.2)) (iv2 x.2.2))).1,(ml2 x.2.1 (ml2 (ml2 (iv2 x.2.2) (iv2 x.2.2)) (iv2 x.2.2))).2],.inr (.inl true)]) (let t0:=iv2 (x.2.2.1,x.2.2.2);let t1:=ml2 (t0.1,t0.2) (t0.1,t0.2);let t2:=ml2 (x.1.1,x.1.2) (t1.1,t1.2);let t3:=ml2 (t1.1,t1.2) (t0.1,t0.2);let t4:=ml2 (x.2.1.1,x.2.1.2) (t3.1,t3.2);(.inr [.inl [t2.1,t2.2],.inl [t4.1,t4.2],.inr (.inl true)],[(decide (x.2.2=ze2),false)])) [some false] kr (au (decide_eq_false h) aG) rfl))
theorem s6(a b:W2):PUR 225 [EV2 a,EV2 b] (EV6 (a,b,on2)):=(bL rfl (V6 _) (pE TO67 func225 [.inl [a.1,a.2],.inl [b.1,b.2]] (.inl (.inl [(a,b,on2).1.1,(a,b,on2).1.2,(a,b,on2).2.1.1,(a,b,on2).2.1.2,(a,b,on2).2.2.1,(a,b,on2).2.2.2])) (let t0:=on2;(.inl (.inl [a.1,a.2,b.1,b.2,t0.1,t0.2]),[])) [] kr aG rfl))
def TO68:Tb prog Gt:=TO67.add (nv (g:=fun a b=>(a,b,on2)) ent225 s6)
theorem of4:PUR 140 [U64 4#64] (EV (zp 4)):=dC 4#64
theorem gF(a:W2):PUR 222 [EV2 a] (EV2 (RS4 a)):=by
 intro w hw
 refine Hf func222 rfl hw<|fun hGF=>Xp<|Bx 1 hGF rfl<|fun b1=>Al 2 hGF zv92<|fun b2=>aa<|Xp<|La 1 rfl rfl aF<|Ca rfl (xz _)<|Ca rfl (of4)<|Ca rfl (of4)<|cx eY rfl rfl sm sm rfl rfl<|Ca rfl (el _ (zp 4,zp 4))<|Sa 2 hGF rfl rfl rfl aF<|aa<|am<|Rr<|?_
 exact ay 2 rfl rfl rfl isAgg92 sizeOf92 sm (fun w hw=>⟨rfl,ac hw⟩)
theorem NZ(a b:W2)(h:ml2 b b=RS4 a):PUR 267 [EV2 a,EV2 b] (.tuple #[EV6 (a,b,on2),.bool true]):=by
 intro w hw
 refine Hf func267 rfl hw<|fun hGF=>Xp<|Bx 2 hGF rfl<|fun b2=>Bx 3 hGF rfl<|fun b3=>Al 4 hGF nz<|fun b4=>Asg rfl<|aa<|ah<|Xd []<|La 3 rfl rfl aF<|Ca rfl (gK _)<|La 2 rfl rfl aF<|Ca rfl (gF _)<|Cbl true rfl ent253 (sO _ _) (decide_eq_true h)<|aY rfl (fun _=>aK _) rfl rfl<|aa<|av rfl<|ap<|Xp<|La 2 rfl rfl aF<|La 3 rfl rfl aF<|Ca rfl (s6 _ _)<|Sa 4 hGF rfl rfl rfl bO<|Asg rfl<|aa<|am<|Rr<|?_
 exact a6 4 rfl rfl rfl rfl isAgg94 sizeOf94 sm (fun w hw=>⟨rfl,ac hw⟩)
theorem o5(a s:W2)(hs:PUR 223 [EV2 (RS4 a)] (.tuple #[EV2 s,.bool true])):PUR 186 [EV2 a,.bool true] (.tuple #[EV6 (a,ng2 s,on2),.bool true]):=by
 intro w hw
 refine Hf func186 rfl hw<|fun hGF=>Xp<|Bx 2 hGF rfl<|fun b2=>Al 4 hGF nz<|fun b4=>Asg rfl<|aa<|Xp<|La 2 rfl rfl aF<|Ca rfl (gF _)<|Ca rfl (hs)<|Mv rfl<|Ext rfl rfl<|Ext rfl rfl<|Al 6 hGF zv92<|fun b6=>Sa 6 hGF rfl rfl rfl aF<|Asg rfl<|aa<|ah<|Xp<|Mv rfl<|aY rfl (fun _=>aK _) rfl rfl<|aa<|av rfl<|ap<|ah<|Xp<|Mv rfl<|aa<|aU rfl<|Xq<|La 6 rfl rfl aF<|Ca rfl (E6 _)<|Sa 6 hGF rfl rfl rfl aF<|aa<|Xp<|La 2 rfl rfl aF<|La 6 rfl rfl aF<|Ca rfl (s6 _ _)<|Sa 4 hGF rfl rfl rfl bO<|Asg rfl<|?_
 refine aa<|am<|Rr<|?_
 exact a6 4 rfl rfl rfl rfl isAgg94 sizeOf94 sm (fun w hw=>⟨rfl,ac hw⟩)
theorem pR(a s:W2)(hs:PUR 223 [EV2 (RS4 a)] (.tuple #[EV2 s,.bool false])):PUR 186 [EV2 a,.bool true] (.tuple #[EV6 (ze2,ze2,ze2),.bool false]):=by
 intro w hw
 refine Hf func186 rfl hw<|fun hGF=>Xp<|Bx 2 hGF rfl<|fun b2=>Al 4 hGF nz<|fun b4=>Asg rfl<|aa<|Xp<|La 2 rfl rfl aF<|Ca rfl (gF _)<|Ca rfl (hs)<|Mv rfl<|Ext rfl rfl<|Ext rfl rfl<|Al 6 hGF zv92<|fun b6=>Sa 6 hGF rfl rfl rfl aF<|Asg rfl<|aa<|ah<|Xp<|Mv rfl<|aY rfl (fun _=>aK _) rfl rfl<|aa<|aU rfl<|Xp<|iC nK rfl rfl<|Sa 4 hGF rfl rfl rfl bO<|Asg rfl<|aa<|am<|Rr<|?_
 exact a6 4 rfl rfl rfl rfl isAgg94 sizeOf94 sm (fun w hw=>⟨rfl,ac hw⟩)
theorem oU(a s:W2)(hs:PUR 223 [EV2 (RS4 a)] (.tuple #[EV2 s,.bool true])):PUR 186 [EV2 a,.bool false] (.tuple #[EV6 (a,s,on2),.bool true]):=by
 intro w hw
 refine Hf func186 rfl hw<|fun hGF=>Xp<|Bx 2 hGF rfl<|fun b2=>Al 4 hGF nz<|fun b4=>Asg rfl<|aa<|Xp<|La 2 rfl rfl aF<|Ca rfl (gF _)<|Ca rfl (hs)<|Mv rfl<|Ext rfl rfl<|Ext rfl rfl<|Al 6 hGF zv92<|fun b6=>Sa 6 hGF rfl rfl rfl aF<|Asg rfl<|aa<|ah<|Xp<|Mv rfl<|aY rfl (fun _=>aK _) rfl rfl<|aa<|av rfl<|ap<|ah<|Xp<|Mv rfl<|aa<|av rfl<|ap<|Xp<|La 2 rfl rfl aF<|La 6 rfl rfl aF<|Ca rfl (s6 _ _)<|Sa 4 hGF rfl rfl rfl bO<|Asg rfl<|aa<|am<|Rr<|?_
 exact a6 4 rfl rfl rfl rfl isAgg94 sizeOf94 sm (fun w hw=>⟨rfl,ac hw⟩)
theorem n4(a s:W2)(hs:PUR 223 [EV2 (RS4 a)] (.tuple #[EV2 s,.bool false])):PUR 186 [EV2 a,.bool false] (.tuple #[EV6 (ze2,ze2,ze2),.bool false]):=by
 intro w hw
 refine Hf func186 rfl hw<|fun hGF=>Xp<|Bx 2 hGF rfl<|fun b2=>Al 4 hGF nz<|fun b4=>Asg rfl<|aa<|Xp<|La 2 rfl rfl aF<|Ca rfl (gF _)<|Ca rfl (hs)<|Mv rfl<|Ext rfl rfl<|Ext rfl rfl<|Al 6 hGF zv92<|fun b6=>Sa 6 hGF rfl rfl rfl aF<|Asg rfl<|aa<|ah<|Xp<|Mv rfl<|aY rfl (fun _=>aK _) rfl rfl<|aa<|aU rfl<|Xp<|iC nK rfl rfl<|Sa 4 hGF rfl rfl rfl bO<|Asg rfl<|aa<|am<|Rr<|?_
 exact a6 4 rfl rfl rfl rfl isAgg94 sizeOf94 sm (fun w hw=>⟨rfl,ac hw⟩)
theorem cv{w:World}{b:Nat}{c:List Value}{xs:L8}(h:w.rangeAt b 0 c)(ht:c.take xs.length=xs.map U8):BytesAt w (spt b) xs:=by
 refine BytesAt.range fun j v hv=>h j v ?_
 rw[←ht,List.getElem?_take]at hv
 split at hv
 ·exact hv
 ·cases hv
theorem Ku(s0:ByteArray)(xs:L8)(h0:s0.data.toList=xs.map (fun x=>UInt8.ofBitVec x)):PUR 336 [.string s0] (EV (FV xs)):=by
 intro w hw
 refine Hf func336 rfl hw<|fun hGF=>ae (E:=EE [1000022])<|Al 2 hGF zv52<|fun b2=>aa<|ae (E:=EE [1000022])<|Mv rfl<|?_
 refine wc 7 (xs:=xs) rfl hGF rfl underlying9 underlying22 underlying5 h0 rfl rfl (fun b7 c7 k7 e7 l7 t7=> ?_)
 refine Cc rfl ent90 (fun w' hC hG=>dw _ _ xs w' hG (cv (aO (n:=7) rfl w' hC) t7))<|Mv rfl<|Ext rfl rfl<|Ext rfl rfl<|Al 3 hGF zv52<|fun b3=>Sa 3 hGF rfl rfl rfl bg<|Asg rfl<|aa<|ae (E:=EE [1000022])<|La 3 rfl rfl bg<|Sa 2 hGF rfl rfl rfl bg<|aa<|am<|Rr<|?_
 exact ay 2 rfl rfl rfl isAgg52 sizeOf52 sm (fun w hw=>⟨rfl,ac hw⟩)
end J2
end
section
def i3a(a b c:W2):W2:=sb2 (ml2 a a) (xi2 (ml2 b c))
def i3b(a b c:W2):W2:=sb2 (xi2 (ml2 c c)) (ml2 a b)
def i3c(a b c:W2):W2:=sb2 (ml2 b b) (ml2 a c)
def i3n(a b c:W2):W2:=ad2 (ml2 a (i3a a b c)) (xi2 (ad2 (ml2 c (i3b a b c)) (ml2 b (i3c a b c))))
theorem LU(a b c:W2):i3a a b c=(mq R2 XI (a,b,c)).1:=zq R2 [a,b,c,XI] (tsb (tm j0 j0) (txi 3 (tm j1 j2) rfl)) (ta (tm j0 j0) (tn (tm j3 (tm j1 j2))))
theorem NH(a b c:W2):i3b a b c=(mq R2 XI (a,b,c)).2.1:=zq R2 [a,b,c,XI] (tsb (txi 3 (tm j2 j2) rfl) (tm j0 j1)) (ta (tm j3 (tm j2 j2)) (tn (tm j0 j1)))
theorem LZ(a b c:W2):i3c a b c=(mq R2 XI (a,b,c)).2.2:=zq R2 [a,b,c,XI] (tsb (tm j1 j1) (tm j0 j2)) (ta (tm j1 j1) (tn (tm j0 j2)))
theorem Qd(a b c:W2):i3n a b c=cnm R2 XI (a,b,c):=zq R2 [a,b,c,XI] (ta (tm j0 (tsb (tm j0 j0) (txi 3 (tm j1 j2) rfl))) (txi 3 (ta (tm j2 (tsb (txi 3 (tm j2 j2) rfl) (tm j0 j1))) (tm j1 (tsb (tm j1 j1) (tm j0 j2)))) rfl)) (ta (tm j0 (ta (tm j0 j0) (tn (tm j3 (tm j1 j2))))) (tm j3 (ta (tm j2 (ta (tm j3 (tm j2 j2)) (tn (tm j0 j1)))) (tm j1 (ta (tm j1 j1) (tn (tm j0 j2)))))))
def iv6(x:W6):W6:=(ml2 (i3a x.1 x.2.1 x.2.2) (iv2 (i3n x.1 x.2.1 x.2.2)),ml2 (i3b x.1 x.2.1 x.2.2) (iv2 (i3n x.1 x.2.1 x.2.2)),ml2 (i3c x.1 x.2.1 x.2.2) (iv2 (i3n x.1 x.2.1 x.2.2)))
theorem Je{x:W6}(h:x≠K6.zero):K6.mul x (iv6 x)=K6.one:=by
 have hn:cnm R2 XI x≠ze2:=fun e=>h (tR fd2 zd e)
 have hi:R2.mul (cnm R2 XI x) (iv2 (cnm R2 XI x))=R2.one:=cK hn
 have e:=zE (R:=R2) (z:=XI) x hi
 unfold iv6
 rw[LU,NH,LZ,Qd]
 exact e
theorem BY(x:W2):ml2 ze2 x=ze2:=R2.zero_mul x
def il(x:W12):W12:=K12.mul (x.1,K6.neg x.2) (iv6 (qnm K6 VV x),K6.zero)
theorem T5{α:Type}(R:Rg α)(z a b:α):vv R z (a,R.zero) (b,R.zero)=(R.mul a b,R.zero):=Prod.ext (zx R [a,b,z] 0x456758511 0x567) (zx R [a,b,z] 0x4561517 0x1)
theorem ls{x:W12}(h:x≠K12.zero):K12.mul x (il x)=K12.one:=by
 have hn:qnm K6 VV x≠K6.zero:=fun e=>h (rh fd6 DL e)
 have e:=MG K6 VV x
 rw[il,←K12.mul_assoc]
 show K12.mul (vv K6 VV x (x.1,K6.neg x.2)) (iv6 (qnm K6 VV x),K6.zero)=K12.one
 rw[e]
 show vv K6 VV (qnm K6 VV x,K6.zero) (iv6 (qnm K6 VV x),K6.zero)=K12.one
 rw[T5,Je hn]
 rfl
theorem H2:il K12.zero=K12.zero:=by
 have e:((K12.zero:W12).1,K6.neg (K12.zero:W12).2)=K12.zero:=Prod.ext rfl K6.neg_zero
 rw[il,e,K12.zero_mul]
/-! ### Six parts turned -/
/-! ### Powers by bits, in any ring -/
theorem Rg.bt_y{α:Type}(R:Rg α)(x:α){n m:Nat}(h:m=2*n+1):R.mul (R.mul (R.pw x n) (R.pw x n)) x=R.pw x m:=by
 rw[←R.pw_add,h,Nat.two_mul];rfl
theorem Rg.bt_n{α:Type}(R:Rg α)(x:α){n m:Nat}(h:m=2*n):R.mul (R.pw x n) (R.pw x n)=R.pw x m:=by
 rw[←R.pw_add,h,Nat.two_mul]
end
section
def sb6(x y:W6):W6:=(sb2 x.1 y.1,sb2 x.2.1 y.2.1,sb2 x.2.2 y.2.2)
def sc6(x:W6)(c:W2):W6:=(ml2 x.1 c,ml2 x.2.1 c,ml2 x.2.2 c)
def v6(x:W6):W6:=(xi2 x.2.2,x.1,x.2.1)
theorem wG(x y:W6):sb6 x y=K6.add x (K6.neg y):=Prod.ext (kR _ _) (Prod.ext (kR _ _) (kR _ _))
theorem Gf(x:W6)(c:W2):K6.mul x (c,ze2,ze2)=sc6 x c:=Prod.ext (zx R2 [x.1,x.2.1,x.2.2,c,XI] 0x45695a4571581 0x569) (Prod.ext (zx R2 [x.1,x.2.1,x.2.2,c,XI] 0x445615795a581 0x579) (zx R2 [x.1,x.2.1,x.2.2,c,XI] 0x44561571589 0x589))
theorem yT(x:W6):K6.mul x VV=v6 x:=Prod.ext (zq R2 [x.1,x.2.1,x.2.2,XI] (ta (tm j0 tz0) (tm j3 (ta (tm j1 tz0) (tm j2 to1)))) (txi 3 j2 rfl)) (Prod.ext (zx R2 [x.1,x.2.1,x.2.2,XI] 0x4456257159581 0x6) (zx R2 [x.1,x.2.1,x.2.2,XI] 0x44561572581 0x7))
def r6(x:W6):W12:=(x,K6.zero)
theorem Cw{x y:W6}(h:r6 x=r6 y):x=y:=congrArg Prod.fst h
theorem Na(x y:W6):K12.add (r6 x) (r6 y)=r6 (K6.add x y):=Prod.ext rfl (K6.add_zero K6.zero)
theorem CL(x:W6):K12.neg (r6 x)=r6 (K6.neg x):=Prod.ext rfl K6.neg_zero
theorem C5(x y:W6):K12.mul (r6 x) (r6 y)=r6 (K6.mul x y):=T5 K6 VV x y
theorem uh(x:W6)(c:W2):K12.mul (r6 x) (em c)=r6 (sc6 x c):=by
 rw[←Gf];exact C5 x (c,ze2,ze2)
/-! ### The chapter's examples -/
end
end Go.Proofs.YtfgacclgjklgnaaGreatDoor
