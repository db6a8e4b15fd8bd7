/- L2 -/
import Derived.Test.YtjookodjbjabbaaGreatDoorL1
import Derived.Test.YtjookodjbjabbaaGreatDoorM1
import Derived.Test.YtjookodjbjabbaaGreatDoorX3
import Derived.Test.YtjookodjbjabbaaGreatDoorXW
import Derived.Test.YtjookodjbjabbaaGreatDoorX2
set_option maxRecDepth 100000
set_option maxHeartbeats 1000000
namespace Go.Proofs.YtjookodjbjabbaaGreatDoor
open Go.Proofs.Tryz
section
open Go.RowKit
theorem ent75:ak prog 75:=fun _ _=>kr
theorem ent151:ak prog 151:=fun _ _=>kr
theorem ent112:ak prog 112:=fun _ _=>kr
theorem ent46:ak prog 46:=fun _ _=>kr
theorem ent187:ak prog 187:=fun _ _=>kr
theorem ent122:ak prog 122:=fun _ _=>kr
theorem ent312:ak prog 312:=fun _ _=>kr
theorem ent310:ak prog 310:=fun _ _=>kr
theorem ent76:ak prog 76:=fun _ _=>kr
theorem ent20:ak prog 20:=fun _ _=>kr
theorem ent168:ak prog 168:=fun _ _=>kr
theorem ent311:ak prog 311:=fun _ _=>kr
theorem ent313:ak prog 313:=fun _ _=>kr
namespace J1
attribute [local simp] a7 bv aJ aB aQ a5 aT aK aO bf bC a6 bz
structure GP where
 J:Zp×Zp×Zp
 P:Pt Zp
 on:E1.onP P
 jr:E1.jr J P
def GL(p:GP):L6:=fe p.J.1++(fe p.J.2.1++fe p.J.2.2)
theorem bE(p:GP):(GL p).length=18:=by simp[GL]
attribute [local simp] bE
abbrev PtV(p:GP):Value:=aM (GL p)
def PX:Pt Zp→Zp
 |none=>0
 |some p=>p.1
def PY:Pt Zp→Zp
 |none=>0
 |some p=>p.2
def RS4(x:Zp):Zp:=x*x*x+zp 4
abbrev LQ(x:Zp):Prop:=SQr (RS4 x)*SQr (RS4 x)=RS4 x
def LY(x:Zp)(l:Bool):Zp:=if decide (hf<(SQ (RS4 x)).val)=l then SQ (RS4 x)else-(SQ (RS4 x))
theorem oz{x y:Zp}:E1.on (x,y)↔y*y=RS4 x:=by
 show y*y=x*(x*x)+zp 4↔y*y=x*x*x+zp 4
 rw[show x*(x*x)=x*x*x from by grind]
theorem TX(a:Zp): -a* -a=a*a:=by grind
theorem aaV(x:Zp)(l:Bool):LY x l=SQ (RS4 x)∨LY x l= -(SQ (RS4 x)):=by
 rw[LY]
 generalize SQ (RS4 x)=s
 by_cases h:decide (hf<s.val)=l
 ·exact .inl (if_pos h)
 ·exact .inr (if_neg h)
theorem XT{x:Zp}(h:LQ x)(l:Bool):LY x l*LY x l=RS4 x:=by
 have e:=jp h
 rcases aaV x l with k|k
 ·rw[k,e]
 ·rw[k,TX,e]
theorem gG{p:Zp×Zp}(h:E1.on p):E1.onP (some p):=h
theorem aaQ{a:Zp}(h:LQ a):LY a false=SQ (RS4 a):=if_pos (decide_eq_false (lh h))
theorem abb{a:Zp}(h:LQ a):LY a true= -(SQ (RS4 a)):=if_neg (by rw[decide_eq_false (lh h)];exact Bool.false_ne_true)
theorem P2{x:Zp}(h:LQ x)(l:Bool):E1.onP (some (x,LY x l)):=gG (oz.2 (XT h l))
abbrev JV(J:Zp×Zp×Zp):Value:=aM (fe (J.1)++(fe (J.2.1)++fe (J.2.2)))
theorem oV(w:World):(zeroValue 54).run prog w=.ok (aM (fe 0++(fe 0++fe 0))) w:=by rw[jw];exact (zeroValue54 w).trans rr
theorem tY:Three prog 54 ⟨ "x",52,0,false, "", "pharos/g1",0⟩ ⟨ "y",52,6,false, "", "pharos/g1",48⟩ ⟨ "z",52,12,false, "", "pharos/g1",96⟩ 6 (fe 0) (fe 0) (fe 0):=⟨underlying54,rfl,rfl,rfl,sizeOf52,sizeOf52,sizeOf52,oV,sm,sm,sm⟩
theorem jsub(a b:Zp):a-b=E1.sub a b:=by show a-b=a+ -b;grind
theorem Xw(x y:Zp):PUR 169 [EV x,EV y] (EV (E1.sub x y)):=by
 have h:=nY x y
 rw[jsub]at h
 exact h
def TO61:Tb prog Gt:=TO59.add (dq (g:=E1.sub) ent169 Xw)
theorem uH(x:Zp×Zp×Zp):PUR 20 [JV x] (.bool (decide (x.2.2=0))):=pE TO61 func20 [.inl [x.1,x.2.1,x.2.2]] (.inl (.inr (.inl (decide (x.2.2=0))))) (.inl (.inr (.inl (decide (x.2.2=0)))),[]) [] kr aE rfl
theorem Ev{f:Nat}{g:(Zp×Zp×Zp)→Bool}(en:ak prog f)(h: ∀a,PUR f [JV a] (.bool (g a))):Snd prog Gt f (c1 q3.ag rdB g):=gI q3.ag rdB en h
def TO62:Tb prog Gt:=TO61.add (Ev (g:=fun x=>decide (x.2.2=0)) ent20 uH)
theorem o6(x:Zp×Zp×Zp):PUR 112 [JV x] (JV (x.1,-x.2.1,x.2.2)):=pE TO62 func112 [.inl [x.1,x.2.1,x.2.2]] (.inl (.inl [(x.1,-x.2.1,x.2.2).1,(x.1,-x.2.1,x.2.2).2.1,(x.1,-x.2.1,x.2.2).2.2])) (.inl (.inl [x.1,-x.2.1,x.2.2]),[]) [] kr aE rfl
theorem rB{f:Nat}{g:(Zp×Zp×Zp)→(Zp×Zp×Zp)}(en:ak prog f)(h: ∀a,PUR f [JV a] (JV (g a))):Snd prog Gt f (c1 q3.ag q3.rd g):=gI q3.ag q3.rd en h
def TO63:Tb prog Gt:=TO62.add (rB (g:=fun x=>(x.1,-x.2.1,x.2.2)) ent112 o6)
theorem Ij  :PUR 46 [] (JV (0,0,0)):=pE TO63 func46 [] (.inl (.inl [(0,0,0).1,(0,0,0).2.1,(0,0,0).2.2])) (.inl (.inl [0,0,0]),[]) [] kr aE rfl
theorem Ya{f:Nat}{g:(Zp×Zp×Zp)}(en:ak prog f)(h:PUR f [] (JV g)):Snd prog Gt f (c0 q3.rd g):=wh q3.rd en h
def TO64:Tb prog Gt:=TO63.add (Ya (g:=(0,0,0)) ent46 Ij)
theorem BC(a:Zp):PUR 187 [EV a] (EV (a*a*a)):=pE TO64 func187 [.inl [a]] (.inl (.inl [a*a*a])) (.inl (.inl [(a*a)*a]),[]) [] kr aE rfl
def TO65:Tb prog Gt:=TO64.add (gX (g:=fun a=>a*a*a) ent187 BC)
def dbF(x:Zp×Zp×Zp):Zp×Zp×Zp:=
 let a:=x.2.1+x.2.1
 let s:=x.1*x.1
 let u:=s+s+s
 let h:=a*a
 let b:=h*x.1
 let X:=E1.sub (E1.sub (u*u) b) b
 (X,E1.sub (u*E1.sub b X) (h*a*x.2.1),x.2.2*a)
theorem Gk(x:Zp×Zp×Zp):PUR 168 [JV x] (JV (dbF x)):=pE TO65 func168 [.inl [x.1,x.2.1,x.2.2]] (.inl (.inl [(dbF x).1,(dbF x).2.1,(dbF x).2.2])) (let t0:=x.2.1+x.2.1;let t1:=(x.1*x.1)+(x.1*x.1);let t2:=t1+(x.1*x.1);let t3:=(t0*t0)*x.1;let t4:=E1.sub (t2*t2) t3;let t5:=E1.sub t3 (E1.sub t4 t3);let t6:=(t0*t0)*t0;let t7:=E1.sub (t2*t5) (t6*x.2.1);(.inl (.inl [E1.sub t4 t3,t7,x.2.2*t0]),[])) [] kr aE rfl
def TO66:Tb prog Gt:=TO65.add (rB (g:=dbF) ent168 Gk)
theorem db_s(x y:Zp):(y+y)*(y+y)*x=(x*(y*y)+x*(y*y))+(x*(y*y)+x*(y*y)):=by grind
theorem db_c(y:Zp):(y+y)*(y+y)*(y+y)*y=(((y*y)*(y*y)+(y*y)*(y*y))+((y*y)*(y*y)+(y*y)*(y*y)))+(((y*y)*(y*y)+(y*y)*(y*y))+((y*y)*(y*y)+(y*y)*(y*y))):=by grind
theorem db_z(y z:Zp):z*(y+y)=y*z+y*z:=by grind
theorem dbl_ext(m:Zp){s s' c c' z z':Zp}(hs:s=s')(hc:c=c')(hz:z=z'):(E1.sub (E1.sub (m*m) s) s,E1.sub (m*E1.sub s (E1.sub (E1.sub (m*m) s) s)) c,z)=(E1.sub (E1.sub (m*m) s') s',E1.sub (m*E1.sub s' (E1.sub (E1.sub (m*m) s') s')) c',z'):=by rw[hs,hc,hz]
theorem T9(x:Zp×Zp×Zp):dbF x=E1.jd x.1 x.2.1 x.2.2:=dbl_ext (x.1*x.1+x.1*x.1+x.1*x.1) (db_s x.1 x.2.1) (db_c x.2.1) (db_z x.2.1 x.2.2)
theorem GG{x:Zp×Zp×Zp}{P:Pt Zp}(hP:E1.onP P)(h:E1.jr x P):E1.jr (dbF x) (E1.ad P P):=by
 have k:=E1.jr_d hP h
 by_cases hz:x.2.2=E1.R.zero∨x.2.1=E1.R.zero
 ·rw[show E1.jdF x=(E1.R.zero,E1.R.zero,E1.R.zero)from if_pos hz]at k
  rw[(E1.jr_z k).1 rfl]
  show x.2.2*(x.2.1+x.2.1)=(0:Zp)
  rcases hz with e|e
  ·rw[show x.2.2=(0:Zp)from e,qz]
  ·rw[show x.2.1=(0:Zp)from e,wR,i1]
 ·rw[show E1.jdF x=E1.jd x.1 x.2.1 x.2.2 from if_neg hz,←T9]at k
  exact k
def adG(x y:Zp×Zp×Zp):Zp×Zp×Zp:=
 let u:=x.1*(y.2.2*y.2.2)
 let s:=x.2.1*(y.2.2*y.2.2)*y.2.2
 let h:=E1.sub (y.1*(x.2.2*x.2.2)) u
 let r:=E1.sub (y.2.1*(x.2.2*x.2.2)*x.2.2) s
 let q:=h*h
 let c:=q*h
 let w:=q*u
 let X:=E1.sub (E1.sub (E1.sub (r*r) c) w) w
 (X,E1.sub (r*E1.sub w X) (c*s),x.2.2*y.2.2*h)
def adF(x y:Zp×Zp×Zp):Zp×Zp×Zp:=if x.2.2=0 then y else if y.2.2=0 then x else if E1.jh x.1 x.2.2 y.1 y.2.2=0 then (if E1.jq x.2.1 x.2.2 y.2.1 y.2.2=0 then dbF x else (0,0,0))else adG x y
theorem H7(a b:Zp):a*b=b*a:=by grind
theorem add_ext{a w w' r k k' z:Zp}(hw:w=w')(hk:k=k'):(E1.sub (E1.sub a w) w,E1.sub (r*E1.sub w (E1.sub (E1.sub a w) w)) k,z)=(E1.sub (E1.sub a w') w',E1.sub (r*E1.sub w' (E1.sub (E1.sub a w') w')) k',z):=by rw[hw,hk]
theorem adG_ja(x y:Zp×Zp×Zp):adG x y=E1.ja x.1 x.2.1 x.2.2 y.1 y.2.1 y.2.2:=add_ext (H7 _ _) (H7 _ _)
theorem same_iff{p q:Zp×Zp}{x y:Zp×Zp×Zp}(h:E1.jr x (some p))(k:E1.jr y (some q)):(x.1*(y.2.2*y.2.2)=y.1*(x.2.2*x.2.2)↔p.1=q.1)∧(x.2.1*(y.2.2*y.2.2)*y.2.2=y.2.1*(x.2.2*x.2.2)*x.2.2↔p.2=q.2):=by
 have hx:x.1=p.1*(x.2.2*x.2.2):=h.2.1
 have hy:x.2.1=p.2*(x.2.2*x.2.2*x.2.2):=h.2.2
 have kx:y.1=q.1*(y.2.2*y.2.2):=k.2.1
 have ky:y.2.1=q.2*(y.2.2*y.2.2*y.2.2):=k.2.2
 have n2:=E1.mul_ne (E1.z2_ne h.1) (E1.z2_ne k.1)
 have n3:=E1.mul_ne (E1.z3_ne h.1) (E1.z3_ne k.1)
 obtain ⟨z,hz⟩: ∃z,x.2.2=z:=⟨_,rfl⟩
 obtain ⟨v,hv⟩: ∃v,y.2.2=v:=⟨_,rfl⟩
 rw[hz]at hx hy n2 n3
 rw[hv]at kx ky n2 n3
 rw[hx,hy,kx,ky,hz,hv]
 refine ⟨⟨fun e=>E1.mul_can n2 ?_,fun e=>by rw[e];grind⟩,⟨fun e=>E1.mul_can n3 ?_,fun e=>by rw[e];grind⟩⟩
 ·show p.1*(z*z*(v*v))=q.1*(z*z*(v*v))
  grind
 ·show p.2*(z*z*z*(v*v*v))=q.2*(z*z*z*(v*v*v))
  grind
theorem JZ{x y:Zp×Zp×Zp}{P Q:Pt Zp}(_:E1.onP P)(_:E1.onP Q)(h:E1.jr x P)(k:E1.jr y Q)(h1: ¬x.2.2=0)(h2: ¬y.2.2=0)(h3:E1.jh x.1 x.2.2 y.1 y.2.2=0)(h4:E1.jq x.2.1 x.2.2 y.2.1 y.2.2=0):Q=P:=by
 cases P with
 |none=>exact absurd h h1
 |some p=>
  cases Q with
  |none=>exact absurd k h2
  |some q=>
   have s:=same_iff h k
   exact congrArg some (Prod.ext (s.1.1 (E1.sub0 h3).symm).symm (s.2.1 (E1.sub0 h4).symm).symm)
theorem I9{x y:Zp×Zp×Zp}{P Q:Pt Zp}(hP:E1.onP P)(hQ:E1.onP Q)(h:E1.jr x P)(k:E1.jr y Q):E1.jr (adF x y) (E1.ad P Q):=by
 have j:=E1.jr_a hP hQ h k
 by_cases h1:x.2.2=0
 ·rw[show E1.jaF x y=y from if_pos h1]at j
  rw[show adF x y=y from if_pos h1];exact j
 by_cases h2:y.2.2=0
 ·rw[show E1.jaF x y=x from (if_neg h1).trans (if_pos h2)]at j
  rw[show adF x y=x from (if_neg h1).trans (if_pos h2)];exact j
 by_cases h3:E1.jh x.1 x.2.2 y.1 y.2.2=0
 ·by_cases h4:E1.jq x.2.1 x.2.2 y.2.1 y.2.2=0
  ·rw[show adF x y=dbF x from (if_neg h1).trans ((if_neg h2).trans ((if_pos h3).trans (if_pos h4)))]
   have e:Q=P:=JZ hP hQ h k h1 h2 h3 h4
   rw[e];exact GG hP h
  ·rw[show E1.jaF x y=(E1.R.zero,E1.R.zero,E1.R.zero)from (if_neg h1).trans ((if_neg h2).trans ((if_pos h3).trans (if_neg h4)))]at j
   rw[show adF x y=(0,0,0)from (if_neg h1).trans ((if_neg h2).trans ((if_pos h3).trans (if_neg h4)))];exact j
 ·rw[show E1.jaF x y=E1.ja x.1 x.2.1 x.2.2 y.1 y.2.1 y.2.2 from (if_neg h1).trans ((if_neg h2).trans (if_neg h3)),←adG_ja]at j
  rw[show adF x y=adG x y from (if_neg h1).trans ((if_neg h2).trans (if_neg h3))];exact j
theorem y6(x y:Zp×Zp×Zp):PUR 122 [JV x,JV y] (JV (adF x y)):=by
 by_cases h1:x.2.2=0
 ·exact pE TO66 func122 [.inl [x.1,x.2.1,x.2.2],.inl [y.1,y.2.1,y.2.2]] (.inl (.inl [(adF x y).1,(adF x y).2.1,(adF x y).2.2])) (.inl (.inl [y.1,y.2.1,y.2.2]),[(decide (x.2.2=0),true)]) [some true] kr (ap (decide_eq_true h1) aE) (by rw[show adF x y=y from if_pos h1]<;>exact rfl)
 ·by_cases h2:y.2.2=0
  ·exact pE TO66 func122 [.inl [x.1,x.2.1,x.2.2],.inl [y.1,y.2.1,y.2.2]] (.inl (.inl [(adF x y).1,(adF x y).2.1,(adF x y).2.2])) (.inl (.inl [x.1,x.2.1,x.2.2]),[(decide (x.2.2=0),false),(decide (y.2.2=0),true)]) [some false,some true] kr (ap (decide_eq_false h1) (ap (decide_eq_true h2) aE)) (by rw[show adF x y=x from (if_neg h1).trans (if_pos h2)]<;>exact rfl)
  ·by_cases h3:E1.jh x.1 x.2.2 y.1 y.2.2=0
   ·by_cases h4:E1.jq x.2.1 x.2.2 y.2.1 y.2.2=0
    ·exact pE TO66 func122 [.inl [x.1,x.2.1,x.2.2],.inl [y.1,y.2.1,y.2.2]] (.inl (.inl [(adF x y).1,(adF x y).2.1,(adF x y).2.2])) (let t0:=x.2.2*x.2.2;let t1:=y.2.2*y.2.2;let t2:=(x.2.1*t1)*y.2.2;let t3:=E1.sub (y.1*t0) (x.1*t1);let t4:=(y.2.1*t0)*x.2.2;let t5:=dbF x;(.inl (.inl [t5.1,t5.2.1,t5.2.2]),[(decide (x.2.2=0),false),(decide (y.2.2=0),false),(decide (t3=0),true),(decide ((E1.sub t4 t2)=0),true)])) [some false,some false,some true,some true] kr (ap (decide_eq_false h1) (ap (decide_eq_false h2) (ap (decide_eq_true h3) (ap (decide_eq_true h4) aE)))) (by rw[show adF x y=dbF x from (if_neg h1).trans ((if_neg h2).trans ((if_pos h3).trans (if_pos h4)))]<;>exact rfl)
    ·exact pE TO66 func122 [.inl [x.1,x.2.1,x.2.2],.inl [y.1,y.2.1,y.2.2]] (.inl (.inl [(adF x y).1,(adF x y).2.1,(adF x y).2.2])) (let t0:=x.2.2*x.2.2;let t1:=y.2.2*y.2.2;let t2:=(x.2.1*t1)*y.2.2;let t3:=E1.sub (y.1*t0) (x.1*t1);let t4:=(y.2.1*t0)*x.2.2;(.inl (.inl [0,0,0]),[(decide (x.2.2=0),false),(decide (y.2.2=0),false),(decide (t3=0),true),(decide ((E1.sub t4 t2)=0),false),(decide (t3=0),true)])) [some false,some false,some true,some false,some true] kr (ap (decide_eq_false h1) (ap (decide_eq_false h2) (ap (decide_eq_true h3) (ap (decide_eq_false h4) (ap (decide_eq_true h3) aE))))) (by rw[show adF x y=(0,0,0)from (if_neg h1).trans ((if_neg h2).trans ((if_pos h3).trans (if_neg h4)))]<;>exact rfl)
   ·exact pE TO66 func122 [.inl [x.1,x.2.1,x.2.2],.inl [y.1,y.2.1,y.2.2]] (.inl (.inl [(adF x y).1,(adF x y).2.1,(adF x y).2.2])) (let t0:=x.2.2*x.2.2;let t1:=y.2.2*y.2.2;let t2:=(x.2.1*t1)*y.2.2;let t3:=E1.sub (y.1*t0) (x.1*t1);let t4:=(y.2.1*t0)*x.2.2;let t5:=(t3*t3)*t3;let t6:=(t3*t3)*(x.1*t1);let t7:=(E1.sub t4 t2)*(E1.sub t4 t2);let t8:=E1.sub (E1.sub t7 t5) t6;let t9:=E1.sub t6 (E1.sub t8 t6);let t10:=(E1.sub t4 t2)*t9;let t11:=E1.sub t10 (t5*t2);let t12:=x.2.2*y.2.2;(.inl (.inl [E1.sub t8 t6,t11,t12*t3]),[(decide (x.2.2=0),false),(decide (y.2.2=0),false),(decide (t3=0),false),(decide (t3=0),false)])) [some false,some false,some false,some false] kr (ap (decide_eq_false h1) (ap (decide_eq_false h2) (ap (decide_eq_false h3) (ap (decide_eq_false h3) aE)))) (by rw[show adF x y=adG x y from (if_neg h1).trans ((if_neg h2).trans (if_neg h3))]<;>exact rfl)
theorem oZ{f:Nat}{g:(Zp×Zp×Zp)→(Zp×Zp×Zp)→(Zp×Zp×Zp)}(en:ak prog f)(h: ∀a b,PUR f [JV a,JV b] (JV (g a b))):Snd prog Gt f (c2 q3.ag q3.ag q3.rd g):=gK q3.ag q3.ag q3.rd en h
def TO67:Tb prog Gt:=TO66.add (oZ (g:=adF) ent122 y6)
theorem wP(a b:Zp):a*(b*b)*b=a*(b*b*b):=by grind
def eqJ(x y:Zp×Zp×Zp):Prop:=(x.2.2=0∧y.2.2=0)∨(¬x.2.2=0∧¬y.2.2=0∧x.1*(y.2.2*y.2.2)=y.1*(x.2.2*x.2.2)∧x.2.1*(y.2.2*y.2.2*y.2.2)=y.2.1*(x.2.2*x.2.2*x.2.2))
theorem same_iff'{p q:Zp×Zp}{x y:Zp×Zp×Zp}(h:E1.jr x (some p))(k:E1.jr y (some q)):(x.1*(y.2.2*y.2.2)=y.1*(x.2.2*x.2.2)↔p.1=q.1)∧(x.2.1*(y.2.2*y.2.2*y.2.2)=y.2.1*(x.2.2*x.2.2*x.2.2)↔p.2=q.2):=by
 have s:=same_iff h k
 rw[wP,wP]at s
 exact s
theorem eqJ_iff{x y:Zp×Zp×Zp}{P Q:Pt Zp}(h:E1.jr x P)(k:E1.jr y Q):eqJ x y↔P=Q:=by
 cases P with
 |none=>
  cases Q with
  |none=>exact ⟨fun _=>rfl,fun _=>.inl ⟨h,k⟩⟩
  |some q=>exact ⟨fun e=>e.elim (fun e=>absurd e.2 k.1) (fun e=>absurd h e.1),fun e=>by cases e⟩
 |some p=>
  cases Q with
  |none=>exact ⟨fun e=>e.elim (fun e=>absurd e.1 h.1) (fun e=>absurd k e.2.1),fun e=>by cases e⟩
  |some q=>
   have s:=same_iff' h k
   exact ⟨fun e=>e.elim (fun e=>absurd e.1 h.1) (fun e=>congrArg some (Prod.ext (s.1.1 e.2.2.1) (s.2.1 e.2.2.2))),fun e=>.inr ⟨h.1,k.1,s.1.2 (congrArg Prod.fst (Option.some.inj e)),s.2.2 (congrArg Prod.snd (Option.some.inj e))⟩⟩
theorem jv(x y:Zp×Zp×Zp)(hd:Decidable (eqJ x y))(b:Bool)(hb:b=decide (eqJ x y)):PUR 310 [JV x,JV y] (.bool b):=by
 by_cases h1:x.2.2=0
 ·by_cases h2:y.2.2=0
  ·exact pE TO67 func310 [.inl [x.1,x.2.1,x.2.2],.inl [y.1,y.2.1,y.2.2]] (.inl (.inr (.inl b))) (.inl (.inr (.inl true)),[(decide (x.2.2=0),true),(decide (x.2.2=0),true),(decide (y.2.2=0),true)]) [some true,some true,some true] kr (ap (decide_eq_true h1) (ap (decide_eq_true h1) (ap (decide_eq_true h2) aE))) (by obtain rfl:b=true:=hb.trans (decide_eq_true (.inl ⟨h1,h2⟩))<;>exact rfl)
  ·exact pE TO67 func310 [.inl [x.1,x.2.1,x.2.2],.inl [y.1,y.2.1,y.2.2]] (.inl (.inr (.inl b))) (.inl (.inr (.inl false)),[(decide (x.2.2=0),true),(decide (x.2.2=0),true),(decide (y.2.2=0),false)]) [some true,some true,some false] kr (ap (decide_eq_true h1) (ap (decide_eq_true h1) (ap (decide_eq_false h2) aE))) (by obtain rfl:b=false:=hb.trans (decide_eq_false (fun e=>e.elim (fun e=>h2 e.2) (fun e=>e.1 h1)))<;>exact rfl)
 ·by_cases h2:y.2.2=0
  ·exact pE TO67 func310 [.inl [x.1,x.2.1,x.2.2],.inl [y.1,y.2.1,y.2.2]] (.inl (.inr (.inl b))) (.inl (.inr (.inl false)),[(decide (x.2.2=0),false),(decide (y.2.2=0),true),(decide (x.2.2=0),false)]) [some false,some true,some false] kr (ap (decide_eq_false h1) (ap (decide_eq_true h2) (ap (decide_eq_false h1) aE))) (by obtain rfl:b=false:=hb.trans (decide_eq_false (fun e=>e.elim (fun e=>h1 e.1) (fun e=>e.2.1 h2)))<;>exact rfl)
  ·by_cases h3:x.1*(y.2.2*y.2.2)=y.1*(x.2.2*x.2.2)
   ·by_cases h4:x.2.1*(y.2.2*y.2.2*y.2.2)=y.2.1*(x.2.2*x.2.2*x.2.2)
    ·exact pE TO67 func310 [.inl [x.1,x.2.1,x.2.2],.inl [y.1,y.2.1,y.2.2]] (.inl (.inr (.inl b))) (let t0:=y.2.2*y.2.2*y.2.2;let t1:=x.2.2*x.2.2*x.2.2;let t2:=y.2.2*y.2.2;let t3:=x.2.2*x.2.2;(.inl (.inr (.inl true)),[(decide (x.2.2=0),false),(decide (y.2.2=0),false),(decide ((x.1*t2)=(y.1*t3)),true),(decide ((x.2.1*t0)=(y.2.1*t1)),true)])) [some false,some false,some true,some true] kr (ap (decide_eq_false h1) (ap (decide_eq_false h2) (ap (decide_eq_true h3) (ap (decide_eq_true h4) aE)))) (by obtain rfl:b=true:=hb.trans (decide_eq_true (.inr ⟨h1,h2,h3,h4⟩))<;>exact rfl)
    ·exact pE TO67 func310 [.inl [x.1,x.2.1,x.2.2],.inl [y.1,y.2.1,y.2.2]] (.inl (.inr (.inl b))) (let t0:=y.2.2*y.2.2*y.2.2;let t1:=x.2.2*x.2.2*x.2.2;let t2:=y.2.2*y.2.2;let t3:=x.2.2*x.2.2;(.inl (.inr (.inl false)),[(decide (x.2.2=0),false),(decide (y.2.2=0),false),(decide ((x.1*t2)=(y.1*t3)),true),(decide ((x.2.1*t0)=(y.2.1*t1)),false)])) [some false,some false,some true,some false] kr (ap (decide_eq_false h1) (ap (decide_eq_false h2) (ap (decide_eq_true h3) (ap (decide_eq_false h4) aE)))) (by obtain rfl:b=false:=hb.trans (decide_eq_false (fun e=>e.elim (fun e=>h1 e.1) (fun e=>h4 e.2.2.2)))<;>exact rfl)
   ·exact pE TO67 func310 [.inl [x.1,x.2.1,x.2.2],.inl [y.1,y.2.1,y.2.2]] (.inl (.inr (.inl b))) (let t2:=y.2.2*y.2.2;let t3:=x.2.2*x.2.2;(.inl (.inr (.inl false)),[(decide (x.2.2=0),false),(decide (y.2.2=0),false),(decide ((x.1*t2)=(y.1*t3)),false)])) [some false,some false,some false] kr (ap (decide_eq_false h1) (ap (decide_eq_false h2) (ap (decide_eq_false h3) aE))) (by obtain rfl:b=false:=hb.trans (decide_eq_false (fun e=>e.elim (fun e=>h1 e.1) (fun e=>h3 e.2.2.1)))<;>exact rfl)
theorem BZ(x:Zp×Zp×Zp)(h:x.2.2=0):PUR 70 [JV x] (.tuple #[EV 0,EV 0,.bool false]):=pE TO67 func70 [.inl [x.1,x.2.1,x.2.2]] (.inr [.inl [0],.inl [0],.inr (.inl false)]) (.inr [.inl [0],.inl [0],.inr (.inl false)],[(decide (x.2.2=0),true)]) [some true] kr (ap (decide_eq_true h) aE) rfl
theorem Cn(x:Zp×Zp×Zp)(h: ¬x.2.2=0):PUR 70 [JV x] (.tuple #[EV (x.1*(x.2.2^(PP-2)*x.2.2^(PP-2))),EV (x.2.1*(x.2.2^(PP-2)*x.2.2^(PP-2)*x.2.2^(PP-2))),.bool true]):=pE TO67 func70 [.inl [x.1,x.2.1,x.2.2]] (.inr [.inl [x.1*(x.2.2^(PP-2)*x.2.2^(PP-2))],.inl [x.2.1*(x.2.2^(PP-2)*x.2.2^(PP-2)*x.2.2^(PP-2))],.inr (.inl true)]) (let t0:=x.2.2^(PP-2);let t1:=x.1*(t0*t0);let t2:=(t0*t0)*t0;(.inr [.inl [t1],.inl [x.2.1*t2],.inr (.inl true)],[(decide (x.2.2=0),false)])) [some false] kr (ap (decide_eq_false h) aE) rfl
theorem ut(a b:Zp):PUR 75 [EV a,EV b] (JV (a,b,1)):=pE TO67 func75 [.inl [a],.inl [b]] (.inl (.inl [(a,b,1).1,(a,b,1).2.1,(a,b,1).2.2])) (.inl (.inl [a,b,1]),[]) [] kr aE rfl
theorem pf{f:Nat}{g:Zp→Zp→(Zp×Zp×Zp)}(en:ak prog f)(h: ∀a b,PUR f [EV a,EV b] (JV (g a b))):Snd prog Gt f (c2 q1.ag q1.ag q3.rd g):=gK q1.ag q1.ag q3.rd en h
def TO68:Tb prog Gt:=TO67.add (pf (g:=fun a b=>(a,b,1)) ent75 ut)
theorem jE(a:Zp):PUR 151 [EV a] (EV (RS4 a)):=pE TO68 func151 [.inl [a]] (.inl (.inl [RS4 a])) (let t0:=zp (4#64).toNat;let t1:=(a*a*a)+t0;(.inl (.inl [t1]),[])) [] kr aE rfl
theorem qS(a s:Zp)(hs:PUR 152 [EV (RS4 a)] (.tuple #[EV s,.bool true])):PUR 94 [EV a,.bool true] (.tuple #[JV (a,-s,1),.bool true]):=by
 intro w hw
 refine Hf func94 rfl hw<|fun hGF=>Xp<|Bx 2 hGF rfl<|fun b2=>Al 4 hGF oV<|fun b4=>Asg rfl<|aa<|Xp<|La 2 rfl rfl bJ<|Ca rfl (jE _)<|Ca rfl (hs)<|Mv rfl<|Ext rfl rfl<|Ext rfl rfl<|Al 6 hGF zv52<|fun b6=>Sa 6 hGF rfl rfl rfl bJ<|Asg rfl<|aa<|ah<|Xp<|Mv rfl<|bu rfl (fun _=>a9 _) rfl rfl<|aa<|aC rfl<|aq<|ah<|Xp<|Mv rfl<|aa<|aR rfl<|Xq<|La 6 rfl rfl bJ<|Ca rfl (eo _)<|Sa 6 hGF rfl rfl rfl bJ<|aa<|Xp<|La 2 rfl rfl bJ<|La 6 rfl rfl bJ<|Ca rfl (ut _ _)<|Sa 4 hGF rfl rfl rfl cn<|Asg rfl<|?_
 refine aa<|am<|Rr<|?_
 exact a8 4 rfl rfl rfl rfl isAgg54 sizeOf54 sm (fun w hw=>⟨rfl,ac hw⟩)
theorem rn(a s:Zp)(hs:PUR 152 [EV (RS4 a)] (.tuple #[EV s,.bool false])):PUR 94 [EV a,.bool true] (.tuple #[JV (0,0,0),.bool false]):=by
 intro w hw
 refine Hf func94 rfl hw<|fun hGF=>Xp<|Bx 2 hGF rfl<|fun b2=>Al 4 hGF oV<|fun b4=>Asg rfl<|aa<|Xp<|La 2 rfl rfl bJ<|Ca rfl (jE _)<|Ca rfl (hs)<|Mv rfl<|Ext rfl rfl<|Ext rfl rfl<|Al 6 hGF zv52<|fun b6=>Sa 6 hGF rfl rfl rfl bJ<|Asg rfl<|aa<|ah<|Xp<|Mv rfl<|bu rfl (fun _=>a9 _) rfl rfl<|aa<|aR rfl<|Xp<|j8 tY rfl rfl<|Sa 4 hGF rfl rfl rfl cn<|Asg rfl<|aa<|am<|Rr<|?_
 exact a8 4 rfl rfl rfl rfl isAgg54 sizeOf54 sm (fun w hw=>⟨rfl,ac hw⟩)
theorem qE(a s:Zp)(hs:PUR 152 [EV (RS4 a)] (.tuple #[EV s,.bool true])):PUR 94 [EV a,.bool false] (.tuple #[JV (a,s,1),.bool true]):=by
 intro w hw
 refine Hf func94 rfl hw<|fun hGF=>Xp<|Bx 2 hGF rfl<|fun b2=>Al 4 hGF oV<|fun b4=>Asg rfl<|aa<|Xp<|La 2 rfl rfl bJ<|Ca rfl (jE _)<|Ca rfl (hs)<|Mv rfl<|Ext rfl rfl<|Ext rfl rfl<|Al 6 hGF zv52<|fun b6=>Sa 6 hGF rfl rfl rfl bJ<|Asg rfl<|aa<|ah<|Xp<|Mv rfl<|bu rfl (fun _=>a9 _) rfl rfl<|aa<|aC rfl<|aq<|ah<|Xp<|Mv rfl<|aa<|aC rfl<|aq<|Xp<|La 2 rfl rfl bJ<|La 6 rfl rfl bJ<|Ca rfl (ut _ _)<|Sa 4 hGF rfl rfl rfl cn<|Asg rfl<|aa<|am<|Rr<|?_
 exact a8 4 rfl rfl rfl rfl isAgg54 sizeOf54 sm (fun w hw=>⟨rfl,ac hw⟩)
theorem ri(a s:Zp)(hs:PUR 152 [EV (RS4 a)] (.tuple #[EV s,.bool false])):PUR 94 [EV a,.bool false] (.tuple #[JV (0,0,0),.bool false]):=by
 intro w hw
 refine Hf func94 rfl hw<|fun hGF=>Xp<|Bx 2 hGF rfl<|fun b2=>Al 4 hGF oV<|fun b4=>Asg rfl<|aa<|Xp<|La 2 rfl rfl bJ<|Ca rfl (jE _)<|Ca rfl (hs)<|Mv rfl<|Ext rfl rfl<|Ext rfl rfl<|Al 6 hGF zv52<|fun b6=>Sa 6 hGF rfl rfl rfl bJ<|Asg rfl<|aa<|ah<|Xp<|Mv rfl<|bu rfl (fun _=>a9 _) rfl rfl<|aa<|aR rfl<|Xp<|j8 tY rfl rfl<|Sa 4 hGF rfl rfl rfl cn<|Asg rfl<|aa<|am<|Rr<|?_
 exact a8 4 rfl rfl rfl rfl isAgg54 sizeOf54 sm (fun w hw=>⟨rfl,ac hw⟩)
def GXB:L8:=[23#8,241#8,211#8,167#8,49#8,151#8,215#8,148#8,38#8,149#8,99#8,140#8,79#8,169#8,172#8,15#8,195#8,104#8,140#8,79#8,151#8,116#8,185#8,5#8,161#8,78#8,58#8,63#8,23#8,27#8,172#8,88#8,108#8,85#8,232#8,63#8,249#8,122#8,26#8,239#8,251#8,58#8,240#8,10#8,219#8,34#8,198#8,187#8]
def GYB:L8:=[8#8,179#8,244#8,129#8,227#8,170#8,160#8,241#8,160#8,158#8,48#8,237#8,116#8,29#8,138#8,228#8,252#8,245#8,224#8,149#8,213#8,208#8,10#8,246#8,0#8,219#8,24#8,203#8,44#8,4#8,179#8,237#8,208#8,60#8,199#8,68#8,162#8,136#8,138#8,228#8,12#8,170#8,35#8,41#8,70#8,197#8,231#8,225#8]
theorem Zw:FV GXB=zp G1x:=by rw[FV,if_pos ⟨rfl,by decide+kernel⟩,show BN GXB 48=G1x by decide+kernel]
theorem Z1:FV GYB=zp G1y:=by rw[FV,if_pos ⟨rfl,by decide+kernel⟩,show BN GYB 48=G1y by decide+kernel]
theorem Ga(e:Option Addr)(cap:Nat)(w:World)(hw:Gt w)(hby:BytesAt w e GXB):CLS 74 [.slice e GXB.length cap].toArray w (fun r w'=>r=.returned (.tuple #[EV (zp G1x),.bool (FO GXB)])∧Grow w w'):=by
 have h:=eB e cap GXB w hw hby
 rw[Zw]at h
 exact h
theorem II(e:Option Addr)(cap:Nat)(w:World)(hw:Gt w)(hby:BytesAt w e GYB):CLS 74 [.slice e GYB.length cap].toArray w (fun r w'=>r=.returned (.tuple #[EV (zp G1y),.bool (FO GYB)])∧Grow w w'):=by
 have h:=eB e cap GYB w hw hby
 rw[Z1]at h
 exact h
theorem jgen:PUR 32 [] (JV (zp G1x,zp G1y,1)):=by
 intro w hw
 refine Hf func32 rfl hw<|fun hGF=>ae (E:=EE [1000022])<|Al 0 hGF oV<|fun b0=>aa<|ae (E:=EE [1000022])<|ek 6 GXB hGF rfl rfl rfl dc dc underlying22 sizeOf5 zeroValue5 rfl rfl<|fun b6=>mC 6 rfl hGF rfl rfl underlying22 underlying5 rfl rfl<|Cc rfl ent74 (fun w' hC hG=>Ga _ _ w' hG (BytesAt.range (hC.own 6 b6 _ _ rfl).1.range))<|Mv rfl<|Ext rfl rfl<|Ext rfl rfl<|Al 1 hGF zv52<|fun b1=>Sa 1 hGF rfl rfl rfl bJ<|Asg rfl<|aa<|ae (E:=EE [1000022])<|ek 12 GYB hGF rfl rfl rfl dc dc underlying22 sizeOf5 zeroValue5 rfl rfl<|fun b12=>mC 12 rfl hGF rfl rfl underlying22 underlying5 rfl rfl<|Cc rfl ent74 (fun w' hC hG=>II _ _ w' hG (BytesAt.range (hC.own 12 b12 _ _ rfl).1.range))<|Mv rfl<|Ext rfl rfl<|Ext rfl rfl<|Al 3 hGF zv52<|fun b3=>Sa 3 hGF rfl rfl rfl bJ<|Asg rfl<|aa<|ae (E:=EE [1000022])<|La 1 rfl rfl bJ<|La 3 rfl rfl bJ<|Ca rfl (ut _ _)<|Sa 0 hGF rfl rfl rfl cn<|aa<|am<|Rr<|?_
 exact av 0 rfl rfl rfl isAgg54 sizeOf54 sm (fun w hw=>⟨rfl,ac hw⟩)
end J1
end
section
open Go.RowKit
theorem ent314:ak prog 314:=fun _ _=>kr
namespace J1
attribute [local simp] a7 bv aJ aB aQ a5 aT aK aO bf bC a6 bz
attribute [local simp] bE
def pb(bs:L8)(m:Nat):Bool:=decide (dU bs m=1#8)
abbrev oB(bs:L8)(m:Nat):List Nat:=oL (pb bs) (8*bs.length) m
def NLs(l:List Nat):List (List Value):=l.map fun n:Nat=>[I (n:Int)]
theorem m3(l:List Nat):(NLs l).length=l.length:=by simp[NLs]
theorem wO(bs:L8)(i j:Nat)(hj:j<8):bs.getD i 0>>>(7-j) &&& 1#8=dU bs (8*i+j):=by
 rw[dU,show (8*i+j) / 8=i by omega,show (8*i+j) % 8=j by omega]
theorem yA{bs:L8}{m:Nat}(h:dU bs m=1#8):pb bs m=true:=decide_eq_true h
theorem HT{bs:L8}{m:Nat}(h: ¬dU bs m=1#8): ¬pb bs m=true:=fun e=>h (of_decide_eq_true e)
theorem HC{bs:L8}{m:Nat}(hm:m<8*bs.length)(h:dU bs m=1#8):(NLs (oB bs (8*bs.length)))[(oB bs m).length]? =some [I ((8*bs.length-1-m:Nat):Int)]:=by
 rw[NLs,List.getElem?_map,NR hm (yA h)]
 rfl
theorem RX{bs:L8}{m:Nat}(h:dU bs m=1#8):(oB bs (m+1)).length=(oB bs m).length+1:=Qi (yA h)
theorem Vr{bs:L8}{m:Nat}(h: ¬dU bs m=1#8):(oB bs (m+1)).length=(oB bs m).length:=P3 (HT h)
theorem HG(bs:L8): ∀m,vN (pb bs) m=BTn bs m
 |0=>rfl
 |m+1=>by
  rw[vN,HG bs m,BTn]
  rcases np bs m with ⟨h,e⟩|⟨h,e⟩
  ·rw[if_pos (yA h),e]
  ·rw[if_neg (HT h),e]
theorem yZ(bs:L8):SOg (oB bs (8*bs.length))=BN bs bs.length:=by rw[zH,HG,gM]
theorem qQ{bb:Nat}{e:Option Addr}{cap:Nat}{bs:L8}{w w':World}(h:RdD bb e cap bs w)(hg:Grow w w'):RdD bb e cap bs w':=⟨(hg.cell (block_lt_of_cell h.1)).trans h.1,h.2.grow hg⟩
theorem kq(sv:Value)(hs:sv.cells= #[sv])(w:World)(hw:Gt w):CLS 313 [sv].toArray w (fun e w'=> ∃b1,e=.returned (.func (.func 314) #[] #[pnt b1])∧Grow w w'∧w.heap.size≤b1∧OwnB w' b1 [sv] 22):=by
 refine Hf func313 rfl hw<|fun hGF=>Xp<|i9 1 hGF rfl rfl rfl<|fun b1=>Asg rfl<|aa<|Xp<|gz rfl rfl rfl rfl<|Asg rfl<|aa<|am<|Rr<|?_
 exact aG rfl rfl (fun w hw=>⟨b1,rfl,ac hw,(hw.own 1 b1 _ _ rfl).2.elim id False.elim,(by have:=(hw.own 1 b1 _ _ rfl).1;rw[hs]at this;exact this)⟩)
theorem my(bb:Nat)(e:Option Addr)(cap:Nat)(bs:L8)(hlen:bs.length≤1000000):fV prog Gt 314 [pnt bb] (NLs (oB bs (8*bs.length))) (RdD bb e cap bs):=by
 intro l J Jx hJ hJx hRd hGx hY w hj
 have okJ: ∀k,BOk Gt (Bi w (fun Y=>J Y k)):=fun k=>⟨fun _ _ _ h=>(hRd _ _ _ h.rid).1,hJ k⟩
 have okX: ∀k,BOk Gt (Bi w (fun Y=>Jx Y k)):=fun k=>⟨fun _ _ _ h=>hGx _ _ _ h.rid,hJx k⟩
 have c1: ∀k L w',Hp (Bi w (fun Y=>J Y k)) L w'→RdD bb e cap bs w':=fun k L w' h=>(hRd _ _ _ h.rid).2
 have hby:=(hRd _ _ _ hj).2.2
 refine cx (G:=Gt) func314 rfl rfl (Hp (Bi w (fun Y=>J Y 0)) []) (cm (Bi w _) hj (hJ 0)) (aA (okJ 0))<|Xp<|bT rfl isAgg22 (fun w h=>(c1 _ _ w h).1) rfl rfl<|bi rfl (fun _=>aI underlying22 _ _ _ _) rfl rfl<|Mv rfl<|aa<|ai<|gQ (ι:={i:Nat // i≤bs.length}) (fun x=>[(0,.func (.yield l) #[] #[]),(1,pnt bb),(6,.slice e bs.length cap),(7,I (bs.length:Int)),(8,I (x.1:Int))]) (fun x=>Bi w (fun Y=>J Y (oB bs (8*x.1)).length)) (fun x=>[]) (fun x=>bs.length-x.1) ⟨0,Nat.zero_le _⟩ (fun _=>okJ _) rfl trv trivial<|?_
 rintro ⟨i,hi⟩
 dsimp only
 refine Xp<|Bnr rfl rfl (fun _=>az _ _ _)<|aa<|ah<|?_
 refine bG rfl (fun hc=> ?_) (fun hc=> ?_)
 ·have hi2:i<bs.length:=by simp at hc;omega
  refine aq<|ah<|ai<|Xp<|Mv rfl<|?_
  obtain ⟨ad,rfl,_⟩:=hby i _ (gm U8 bs 0 i om)
  refine gY i rfl rfl underlying22 sizeOf5 rfl om rfl rfl<|bT rfl isAgg5 (fun w' h=>by obtain ⟨ad',e',hc'⟩:=(c1 _ _ w' h).2 i _ (gm U8 bs 0 i om);cases e';exact hc') rfl rfl<|Asg rfl<|Asg rfl<|aa<|Xp<|Asg rfl<|aa<|ai<|gQ (ι:={j:Nat // j≤8}) (fun x=>[(0,.func (.yield l) #[] #[]),(1,pnt bb),(6,.slice (some ad) bs.length cap),(7,I (bs.length:Int)),(8,I (i:Int)),(3,I (i:Int)),(4,U8 (bs.getD i 0)),(5,I (7-(x.1:Int)))]) (fun x=>Bi w (fun Y=>J Y (oB bs (8*i+x.1)).length)) (fun x=>[]) (fun x=>8-x.1) ⟨0,Nat.zero_le _⟩ (fun _=>okJ _) rfl trv trivial<|?_
  rintro ⟨j,hj⟩
  dsimp only
  by_cases h1:dU bs (8*i+j)=1#8
  ·refine ah<|Xp<|Mv rfl<|Bnr (v:=.bool (decide (j<8))) rfl rfl (fun _=>(df _ _ _).trans (by rw[show decide ((7-(j:Int))≥0)=decide (j<8)from decide_eq_decide.2 om]))<|aa<|?_
   refine bG rfl (fun hc=> ?_) (fun hc=> ?_)
   ·have hj2:j<8:=by simpa using hc
    refine aq<|ah<|ai<|Xp<|Mv rfl<|Mv rfl<|Bnr (v:=U8 (bs.getD i 0>>>(7-j))) rfl rfl (fun _=>(fA _ _ _ om).trans (by rw[show (7-(j:Int)).toNat=7-j by omega]))<|Bnr (v:=U8 (dU bs (8*i+j))) rfl rfl (fun _=>(cE _ _ 1#8).trans (by rw[wO bs i j hj2]))<|Bnr (v:=.bool true) rfl rfl (fun w=>(cP _ _ _).trans (congrArg (fun b=>Result.ok (Value.bool b) w) (beq_iff_eq.2 h1)))<|Mv rfl<|Mv rfl<|bT rfl isAgg22 (fun w h=>(c1 _ _ w h).1) rfl rfl<|bi rfl (fun _=>aI underlying22 _ _ _ _) rfl rfl<|Bnr (v:=I ((bs.length:Int)-1)) rfl rfl (fun _=>aX _ _ _ oi)<|Mv rfl<|Bnr (v:=I ((bs.length-1-i:Nat):Int)) rfl rfl (fun _=>(aX _ _ _ oi).trans (by rw[show (bs.length:Int)-1-(i:Int)=((bs.length-1-i:Nat):Int) by omega]))<|Bnr (v:=I ((8*(bs.length-1-i):Nat):Int)) rfl rfl (fun _=>(bB _ _ _ oi).trans (by rw[show (8:Int)*((bs.length-1-i:Nat):Int)=((8*(bs.length-1-i):Nat):Int) by omega]))<|Mv rfl<|Bnr (v:=I ((8*bs.length-1-(8*i+j):Nat):Int)) rfl rfl (fun _=>(au _ _ _ oi).trans (by rw[show ((8*(bs.length-1-i):Nat):Int)+(7-(j:Int))=((8*bs.length-1-(8*i+j):Nat):Int) by omega]))<|?_
    refine dC (hY.b (k:=(oB bs (8*i+j)).length) (HC om h1) w) (okJ _) (okX _) rfl rfl rfl rfl rfl ?_ ?_
    ·refine bu rfl (fun _=>a9 _) rfl rfl<|Pk rfl rfl rfl<|aa<|aC rfl<|aq<|Xq<|Mv rfl<|Bnr (v:=I (7-((j+1:Nat):Int))) rfl rfl (fun _=>(aX _ _ _ oi).trans (by rw[show 7-(j:Int)-1=7-((j+1:Nat):Int) by omega]))<|Asg rfl<|aa<|?_
     repeat (refine aP ?_)
     refine aD ?_
     rw[←RX h1]
     exact ⟨rfl,⟨j+1,om⟩,_,by show 8-(j+1)<8-j;omega,rfl,trv,trivial⟩
    ·refine bu rfl (fun _=>a9 _) rfl rfl<|Pk rfl rfl rfl<|aa<|aR rfl<|am<|Rr<|?_
     repeat (first|refine dH ?_|refine cq ?_|refine dS rfl ?_|refine bP ?_|refine bR ?_)
     exact dv rfl (fun w hw=>⟨⟨_,rfl⟩,.inr ⟨_,cg (hJx _) hw.rid⟩⟩)
   ·obtain rfl:j=8:=by simp at hc;omega
    refine aW<|Xq<|Bnr rfl rfl (fun _=>au _ _ _ oi)<|Mv rfl<|aa<|?_
    repeat (refine aP ?_)
    exact aD<|⟨rfl,⟨i+1,om⟩,_,by show bs.length-(i+1)<bs.length-i;omega,rfl,trv,trivial⟩
  ·refine ah<|ae (E:=EE [3000000])<|Mv rfl<|Bnr (v:=.bool (decide (j<8))) rfl rfl (fun _=>(df _ _ _).trans (by rw[show decide ((7-(j:Int))≥0)=decide (j<8)from decide_eq_decide.2 om]))<|aa<|?_
   refine bG rfl (fun hc=> ?_) (fun hc=> ?_)
   ·have hj2:j<8:=by simpa using hc
    refine aq<|ah<|ai<|ae (E:=EE [3000000])<|Mv rfl<|Mv rfl<|Bnr (v:=U8 (bs.getD i 0>>>(7-j))) rfl rfl (fun _=>(fA _ _ _ om).trans (by rw[show (7-(j:Int)).toNat=7-j by omega]))<|Bnr (v:=U8 (dU bs (8*i+j))) rfl rfl (fun _=>(cE _ _ 1#8).trans (by rw[wO bs i j hj2]))<|Bnr (v:=.bool false) rfl rfl (fun w=>(cP _ _ _).trans (congrArg (fun b=>Result.ok (Value.bool b) w) (beq_eq_false_iff_ne.2 h1)))<|Mv rfl<|Sk<|Sk<|Sk<|Sk<|Sk<|Sk<|Sk<|Sk<|Sk<|Sk<|Sk<|Pk rfl rfl rfl<|aa<|aC rfl<|aq<|bN (E:=EE [3000000])<|Mv rfl<|Bnr (v:=I (7-((j+1:Nat):Int))) rfl rfl (fun _=>(aX _ _ _ oi).trans (by rw[show 7-(j:Int)-1=7-((j+1:Nat):Int) by omega]))<|Asg rfl<|aa<|?_
    repeat (refine aP ?_)
    refine aD ?_
    rw[←Vr h1]
    exact ⟨rfl,⟨j+1,om⟩,_,by show 8-(j+1)<8-j;omega,rfl,trv,trivial⟩
   ·obtain rfl:j=8:=by simp at hc;omega
    refine aW<|bN (E:=EE [3000000])<|Bnr rfl rfl (fun _=>au _ _ _ oi)<|Mv rfl<|aa<|?_
    repeat (refine aP ?_)
    exact aD<|⟨rfl,⟨i+1,om⟩,_,by show bs.length-(i+1)<bs.length-i;omega,rfl,trv,trivial⟩
 ·obtain rfl:i=bs.length:=by simp at hc;omega
  refine aW ?_
  repeat (first|refine dH ?_|refine cq ?_|refine dS rfl ?_|refine bP ?_|refine bR ?_)
  refine cQ rfl (fun w hw=>⟨⟨_,rfl⟩,.inl ?_⟩)
  have:=cg (hJ _) hw.rid
  rw[m3]
  exact this
def dbN(x:Zp×Zp×Zp):Nat→Zp×Zp×Zp
 |0=>x
 |n+1=>dbF (dbN x n)
theorem dbN_jr{x:Zp×Zp×Zp}{P:Pt Zp}(hP:E1.onP P){q:Nat}(hx:E1.jr x (E1.times P q)): ∀n,E1.jr (dbN x n) (E1.times P (q*2^n))
 |0=>by rw[Nat.pow_zero,Nat.mul_one];exact hx
 |n+1=>by
  have hd:=GG (E1.times_on hP _) (dbN_jr hP hx n)
  rw[E1.dbl_times hP,Nat.mul_left_comm,←Nat.pow_succ']at hd
  exact hd
theorem lm(x:Zp×Zp×Zp)(n:Int)(hn:n≤1000000000):PUR 121 [JV x,I n] (JV (dbN x n.toNat)):=by
 intro w hw
 refine Hf func121 rfl hw<|fun hGF=>Xp<|Bx 2 hGF rfl<|fun b2=>Al 4 hGF oV<|fun b4=>aa<|ah<|Xp<|Mv rfl<|Mv rfl<|aa<|ai<|bL (ι:={i:Nat // i≤n.toNat}) (fun y=>[(2,pnt b2),(4,pnt b4),(5,I n),(6,I (y.1:Int))]) (fun y=>[(2,b2,(fe ((dbN x y.1).1)++(fe ((dbN x y.1).2.1)++fe ((dbN x y.1).2.2))).map U64,54),(4,b4,(fe 0++(fe 0++fe 0)).map U64,54)]) (fun y=>n.toNat-y.1) ⟨0,Nat.zero_le _⟩ hGF trv trv<|?_
 rintro ⟨i,hi⟩
 dsimp only
 refine Xp<|Bnr (v:=.bool (decide ((i:Int)<n))) rfl rfl (fun _=>az _ _ _)<|aa<|ah<|?_
 refine bG rfl (fun hc=> ?_) (fun hc=> ?_)
 ·have hi2:i<n.toNat:=by simp at hc;omega
  refine aq<|ah<|ai<|Xq<|La 2 rfl rfl cn<|Ca rfl (Gk (dbN x i))<|Sa 2 hGF rfl rfl rfl cn<|aa<|Xq<|Bnr rfl rfl (fun _=>au _ _ _ oi)<|Mv rfl<|aa<|?_
  repeat (refine aP ?_)
  exact aD<|⟨rfl,⟨i+1,om⟩,_,by show n.toNat-(i+1)<n.toNat-i;omega,rfl,trv,trv⟩
 ·obtain rfl:i=n.toNat:=by simp at hc;omega
  refine aW<|Xp<|La 2 rfl rfl cn<|Sa 4 hGF rfl rfl rfl cn<|aa<|am<|Rr<|?_
  exact av 4 rfl rfl rfl isAgg54 sizeOf54 sm (fun w hw=>⟨rfl,ac hw⟩)
theorem Vc(x:Zp×Zp×Zp)(a:Nat)(ha:a<100000000):PUR 121 [JV x,I (a:Int)] (JV (dbN x a)):=by
 have h:=lm x (a:Int) om
 rw[Int.toNat_natCast]at h
 exact h
theorem Q5(x:Zp×Zp×Zp)(a b:Nat)(ha:a<100000000):PUR 121 [JV x,I ((a:Int)-(b:Int))] (JV (dbN x (a-b))):=by
 have h:=lm x ((a:Int)-(b:Int)) om
 rw[Int.toNat_sub]at h
 exact h
def stp(x:Zp×Zp×Zp)(A:(Zp×Zp×Zp)×Nat)(b:Nat):(Zp×Zp×Zp)×Nat:=(adF (dbN A.1 (A.2-b)) x,b)
def stK(x:Zp×Zp×Zp)(L:List Nat)(k:Nat):(Zp×Zp×Zp)×Nat:=(L.take k).foldl (stp x) ((0,0,0),0)
theorem stK_step(x:Zp×Zp×Zp){L:List Nat}{k n:Nat}(h:L[k]? =some n):stK x L (k+1)=stp x (stK x L k) n:=by
 rw[stK,List.take_add_one,h,List.foldl_append]
 rfl
theorem stK_1(x:Zp×Zp×Zp){L:List Nat}{k n:Nat}(h:L[k]? =some n):(stK x L (k+1)).1=adF (dbN (stK x L k).1 ((stK x L k).2-n)) x:=by rw[stK_step x h];rfl
theorem stK_2(x:Zp×Zp×Zp){L:List Nat}{k n:Nat}(h:L[k]? =some n):(stK x L (k+1)).2=n:=by rw[stK_step x h];rfl
theorem stK_lt(x:Zp×Zp×Zp){L:List Nat}{B:Nat}(h0:0<B)(hL: ∀b∈L,b<B): ∀k,k≤L.length→(stK x L k).2<B
 |0,_=>h0
 |k+1,hk=>by
  obtain ⟨n,hn⟩: ∃n,L[k]? =some n:=⟨L[k]'om,List.getElem?_eq_getElem om⟩
  rw[stK_2 x hn]
  exact hL n (List.mem_of_getElem? hn)
def tmF(x:Zp×Zp×Zp)(L:List Nat):Zp×Zp×Zp:=dbN (stK x L L.length).1 (stK x L L.length).2
theorem stp_jr{x:Zp×Zp×Zp}{P:Pt Zp}(hP:E1.onP P)(hx:E1.jr x P): ∀(L:List Nat) (A:(Zp×Zp×Zp)×Nat) (q:Nat),L.Pairwise (fun a b=>b≤a)→E1.jr A.1 (E1.times P q)→(q=0∨∀b∈L,b≤A.2)→∃q',E1.jr (L.foldl (stp x) A).1 (E1.times P q')∧q'*2^(L.foldl (stp x) A).2=q*2^A.2+SOg L
 |[],A,q,_,hA,_=>⟨q,hA,rfl⟩
 |b::L,A,q,hp,hA,hq=>by
  rw[List.pairwise_cons]at hp
  have hd:=dbN_jr hP hA (A.2-b)
  have ha:=I9 (E1.times_on hP _) hP hd hx
  obtain ⟨q',h1,h2⟩:=stp_jr hP hx L (stp x A b) (q*2^(A.2-b)+1) hp.2 ha (.inr hp.1)
  refine ⟨q',h1,h2.trans ?_⟩
  show (q*2^(A.2-b)+1)*2^b+SOg L=q*2^A.2+(2^b+SOg L)
  rcases hq with rfl|hq
  ·rw[Nat.zero_mul,Nat.zero_mul];omega
  ·have hb:=hq b List.mem_cons_self
   rw[Nat.add_mul,Nat.mul_assoc,←Nat.pow_add,show A.2-b+b=A.2 from by omega]
   omega
theorem tmF_jr{x:Zp×Zp×Zp}{P:Pt Zp}(hP:E1.onP P)(hx:E1.jr x P){L:List Nat}(hL:L.Pairwise (fun a b=>b≤a)):E1.jr (tmF x L) (E1.times P (SOg L)):=by
 obtain ⟨q,h1,h2⟩:=stp_jr hP hx L ((0,0,0),0) 0 hL rfl (.inl rfl)
 have e:stK x L L.length=L.foldl (stp x) ((0,0,0),0):=by rw[stK,List.take_length]
 rw[Nat.zero_mul,Nat.zero_add]at h2
 have h:=dbN_jr hP h1 (L.foldl (stp x) ((0,0,0),0)).2
 rw[h2]at h
 rw[tmF,e]
 exact h
theorem vF{L:List Nat}{k:Nat}{v:List Value}(h:(NLs L)[k]? =some v): ∃n:Nat,L[k]? =some n∧[I (n:Int)]=v:=by
 rw[NLs,List.getElem?_map]at h
 cases e:L[k]? with
 |none=>rw[e]at h;cases h
 |some y=>rw[e]at h;exact ⟨y,rfl,Option.some.inj h⟩
theorem gB(x:Zp×Zp×Zp)(gf:Nat)(caps:List Value)(L:List Nat)(Rd:Cls)(he:ak prog gf)(hseq:fV prog Gt gf caps (NLs L) Rd)(hL: ∀b∈L,b<100000000)(w:World)(hw:Gt w)(hRs: ∀w',Grow w w'→Rd w'):
 CLS 76 [JV x,.func (.func gf) #[] caps.toArray].toArray w (fun r w'=>r=.returned (JV (tmF x L))∧Grow w w'):=by
 have hGF:BOk Gt (pl w):=gt_low.plain hw
 refine cz (G:=Gt) func76 rfl rfl (Hp (pl w) []) (cm (pl w) trivial ao) (aA hGF)<|Xp<|Bx 2 hGF rfl<|fun b2=>Al 4 hGF oV<|fun b4=>aa<|Xp<|Al 5 hGF oV<|fun b5=>aa<|Xp<|iw 6 hGF zeroValue3 rfl rfl<|fun b6=>d8 6 hGF rfl rfl rfl sizeOf3 rfl (by first|decide|simp) rfl<|aa<|ah<|Xp<|Mv rfl<|aa<|ai<|?_
 refine ft (fun _=>pl w) (fun _ _=>pl w) (fun _=>hGF) (fun _ _=>hGF) (fun _=>rfl) (fun _ _=>rfl) rfl rfl he hseq (fun x hx=>by obtain ⟨k,hk,rfl⟩:=List.mem_map.1 hx;rfl) rfl (fun k=>[(2,b2,(fe ((x).1)++(fe ((x).2.1)++fe ((x).2.2))).map U64,54),(4,b4,(fe 0++(fe 0++fe 0)).map U64,54),(5,b5,(fe (((stK x L k).1).1)++(fe (((stK x L k).1).2.1)++fe (((stK x L k).1).2.2))).map U64,54),(6,b6,[I ((stK x L k).2:Int)],3)]) (fun _ _ _=>False) trv (fun k _ w' h=>hRs w' (h.below (fun _ h=>h))) ?_ ?_ (fun _ _ _ _ _ h=>h.elim)
 ·intro k v hx R hR
  obtain ⟨n,hn,rfl⟩:=vF hx
  have hk:k<L.length:=(List.getElem?_eq_some_iff.1 hn).1
  have hb:=stK_lt x om hL k (Nat.le_of_lt hk)
  have hn2:=hL n (List.mem_of_getElem? hn)
  refine Xq<|Asg rfl<|aa<|?_
  refine ⟨rfl,_,rfl, ?_⟩
  refine ai<|Xd []<|La 5 rfl rfl cn<|cT 6 rfl rfl rfl isAgg3 rfl rfl<|Mv rfl<|Bnr (v:=I (((stK x L k).2:Int)-(n:Int))) rfl rfl (fun _=>aX _ _ _ oi)<|Ca rfl (Q5 (stK x L k).1 (stK x L k).2 n hb)<|La 2 rfl rfl cn<|Ca rfl (y6 _ _)<|aw 5 (hR (pl w) rfl hGF).2.1 rfl rfl rfl sizeOf54 sm sm (be _) rfl<|aa<|Xq<|Mv rfl<|d8 6 (hR (pl w) rfl hGF).2.1 rfl rfl rfl sizeOf3 rfl (by first|decide|simp) rfl<|aa<|?_
  repeat (refine aP ?_)
  exact ⟨_,rfl,⟨rfl,rfl,by rw[stK_1 x hn];rfl,by rw[stK_2 x hn];rfl,trivial⟩⟩
 ·intro D hD
  have hb:=stK_lt x om hL L.length (Nat.le_refl _)
  rw[m3]
  refine Xp<|La 5 rfl rfl cn<|cT 6 rfl rfl rfl isAgg3 rfl rfl<|Ca rfl (Vc (stK x L L.length).1 (stK x L L.length).2 hb)<|Sa 4 hD rfl rfl rfl cn<|aa<|am<|Rr<|?_
  exact d9 (.inl rfl) ao (av 4 rfl rfl rfl isAgg54 sizeOf54 sm (fun w hw=>⟨rfl,ac hw⟩))
def mlB(x:Zp×Zp×Zp)(bs:L8):Zp×Zp×Zp:=tmF x (oB bs (8*bs.length))
theorem qU{x:Zp×Zp×Zp}{P:Pt Zp}(hP:E1.onP P)(hx:E1.jr x P){bs:L8}{m:Nat}(hm:BN bs bs.length=m):E1.jr (mlB x bs) (E1.times P m):=by
 subst hm
 rw[←yZ];exact tmF_jr hP hx (vV _ _ _ (Nat.le_refl _))
theorem kB(x:Zp×Zp×Zp)(e:Option Addr)(cap:Nat)(bs:L8)(hlen:bs.length≤1000000)(w:World)(hw:Gt w)(hby:BytesAt w e bs):
 CLS 312 [JV x,.slice e bs.length cap].toArray w (fun r w'=>r=.returned (JV (mlB x bs))∧Grow w w'):=by
 refine Hf func312 rfl hw<|fun hGF=>ae (E:=EE [313,2000313])<|Bx 2 hGF rfl<|fun b2=>Al 4 hGF oV<|fun b4=>aa<|Xd [313,2000313]<|La 2 rfl rfl cn<|Mv rfl<|?_
 refine bQ rfl rfl ent313 rfl rfl (fun w' hw'=>(kq _ rfl w' (hGF.g _ _ _ hw')).mono fun e' w'' h=> ?_)
 obtain ⟨c1,rfl,hg,h1,ho⟩:=h
 refine ⟨_,_,rfl,aA hGF,hw'.news ao hg [(33,c1,[.slice e bs.length cap],22)] ?_ bX,bU ao rfl, ?_⟩
 ·intro n' b' c' t' hl
  rcases aL hl with ⟨_,e⟩|⟨_,hl⟩
  ·cases e;exact ⟨h1,ho⟩
  ·cases hl
 clear hw' hg h1 ho
 refine Cc rfl ent76 (fun w' hC hG=>gB x 314 [pnt c1] (oB bs (8*bs.length)) (RdD c1 e cap bs) ent314 (my c1 e cap bs om) (fun b hb=>by have:=JG hb (Nat.le_refl _);omega) w' hG (fun w'' hg=>qQ ⟨cB (n:=33) rfl rfl w' hC,hby.grow (hC.below (fun _ h=>h))⟩ hg))<|Sa 4 hGF rfl rfl rfl cn<|aa<|am<|Rr<|?_
 exact av 4 rfl rfl rfl isAgg54 sizeOf54 sm (fun w hw=>⟨rfl,ac hw⟩)
def TRB:L8:=[0#8,0#8,0#8,0#8,0#8,0#8,0#8,0#8,95#8,25#8,103#8,47#8,223#8,118#8,206#8,81#8,186#8,105#8,198#8,7#8,106#8,15#8,119#8,234#8,221#8,179#8,169#8,59#8,230#8,248#8,150#8,136#8,222#8,23#8,216#8,19#8,98#8,10#8,0#8,2#8,46#8,1#8,255#8,255#8,255#8,254#8,255#8,254#8]
theorem Wu:FV TRB=zp TRN:=by rw[FV,if_pos ⟨rfl,by decide+kernel⟩,show BN TRB 48=TRN by decide+kernel]
theorem Fu{c:Zp}(hc:zp TRN=c)(e:Option Addr)(cap:Nat)(w:World)(hw:Gt w)(hby:BytesAt w e TRB):CLS 74 [.slice e TRB.length cap].toArray w (fun r w'=>r=.returned (.tuple #[EV c,.bool (FO TRB)])∧Grow w w'):=by
 have h:=eB e cap TRB w hw hby
 rw[Wu,hc]at h
 exact h
def UB8:L8:=[210#8,1#8,0#8,0#8,0#8,1#8,0#8,0#8]
theorem EW:BN UB8 UB8.length=UG:=by decide+kernel
theorem jf{f:Zp×Zp×Zp→Zp×Zp×Zp}(hf: ∀x,mlB x UB8=f x)(x:Zp×Zp×Zp)(b c:Nat)(w:World)(hw:Gt w)(h:w.rangeAt b 0 (UB8.map U8)):CLS 312 [JV x,.slice (spt b) UB8.length c].toArray w (fun r w'=>r=.returned (JV (f x))∧Grow w w'):=by
 have k:=kB x (spt b) c UB8 dc w hw (BytesAt.range h)
 rw[hf]at k
 exact k
def tuJ(c:Zp)(x:Zp×Zp×Zp):Zp×Zp×Zp:=(x.1*c,x.2.1,x.2.2)
theorem tu_z(c x z:Zp):x*(z*z)*c=c*x*(z*z):=by grind
theorem EZ{c:Zp}{x:Zp×Zp×Zp}{p:Zp×Zp}(hx:E1.jr x (some p)):E1.jr (tuJ c x) (some (c*p.1,p.2)):=by
 refine ⟨hx.1, ?_,hx.2.2⟩
 have h1:x.1=p.1*(x.2.2*x.2.2):=hx.2.1
 show x.1*c=c*p.1*(x.2.2*x.2.2)
 rw[h1]
 exact tu_z _ _ _
theorem vd{c:Zp}{x:Zp×Zp×Zp}(hx:E1.jr x none):E1.jr (tuJ c x) none:=show x.2.2=E1.R.zero from hx
theorem IF(p:Zp×Zp):TW1.p (some p)=some (zp TRN*p.1,p.2):=congrArg some (wU p)
theorem yS{x:Zp×Zp×Zp}{P:Pt Zp}(hx:E1.jr x P):E1.jr (tuJ (zp TRN) x) (TW1.p P):=by
 cases P with
 |none=>exact vd hx
 |some p=>rw[IF];exact EZ hx
abbrev ngJ(x:Zp×Zp×Zp):Zp×Zp×Zp:=(x.1,-x.2.1,x.2.2)
theorem GH{bs:L8}{m:Nat}(hm:BN bs bs.length=m){x:Zp×Zp×Zp}{P:Pt Zp}(hP:E1.onP P)(hx:E1.jr x P):eqJ (ngJ (mlB (mlB x bs) bs)) (tuJ (zp TRN) x)↔E1.ne (E1.times (E1.times P m) m)=TW1.p P:=eqJ_iff (E1.jr_n (qU (E1.times_on hP m) (qU hP hx hm) hm)) (yS hx)
theorem mT{x:Zp×Zp×Zp}{P:Pt Zp}(hP:E1.onP P)(hx:E1.jr x P):eqJ (ngJ (mlB (mlB x UB8) UB8)) (tuJ (zp TRN) x)↔E1.times P ORD=none:=(GH EW hP hx).trans (Zg hP)
theorem Sd{f:Zp×Zp×Zp→Zp×Zp×Zp}(hf: ∀x,mlB x UB8=f x){c:Zp}(hc:zp TRN=c)(x:Zp×Zp×Zp)(hd:Decidable (eqJ (ngJ (f (f x))) (tuJ c x)))(b:Bool)(hb:b=decide (eqJ (ngJ (f (f x))) (tuJ c x))):PUR 311 [JV x] (.bool b):=by
 intro w hw
 refine Hf func311 rfl hw<|fun hGF=>ae (E:=EE [1000022])<|Bx 1 hGF rfl<|fun b1=>Asg rfl<|aa<|ae (E:=EE [1000022])<|ek 7 TRB hGF rfl rfl rfl dc dc underlying22 sizeOf5 zeroValue5 rfl rfl<|fun b7=>mC 7 rfl hGF rfl rfl underlying22 underlying5 rfl rfl<|Cc rfl ent74 (fun w' hC hG=>Fu hc _ _ w' hG (BytesAt.range (hC.own 7 b7 _ _ rfl).1.range))<|Mv rfl<|Ext rfl rfl<|Ext rfl rfl<|Al 3 hGF zv52<|fun b3=>Sa 3 hGF rfl rfl rfl bJ<|Asg rfl<|aa<|ef (E:=EE [1000022,2999999]) [0,1,2,3,4,5,6,7,8] [⟨9,5,54,(fe 0++(fe 0++fe 0)).map U64⟩] [10] cL rfl kr kr kr kr kr kr dc (by intro x hx;simp only[List.mem_cons,List.not_mem_nil,or_false]at hx;subst hx;exact bp rfl oV rfl)<|Fa 0 rfl underlying54 rfl sizeOf52<|ay 1 _ rfl rfl isAgg52 sizeOf52 sm ed rfl rfl<|La 3 rfl rfl bJ<|Ca rfl (iT _ _)<|Fa 6 rfl underlying54 rfl sizeOf52<|ay 1 _ rfl rfl isAgg52 sizeOf52 sm (kS sm) rfl rfl<|Fa 12 rfl underlying54 rfl sizeOf52<|ay 1 _ rfl rfl isAgg52 sizeOf52 sm (gu (m:=6) (n:=6) sm sm rfl) rfl rfl<|ew tY rfl rfl rfl sm sm sm rfl rfl<|aa<|?_
 refine ⟨_,_,rfl,hGF,by intro x hx;simp only[List.mem_cons,List.not_mem_nil,or_false]at hx;subst hx;rfl,by intro x hx;simp only[List.mem_cons,List.not_mem_nil,or_false]at hx;subst hx;rfl,fun adr=> ?_⟩
 refine Sa 5 hGF rfl rfl rfl cn<|aa<|ph (EE [2999998,2999996,1000022]) cL kr kr<|aU (m:=9) [0,8] kr<|La 1 rfl rfl cn<|La 5 rfl rfl cn<|aa<|eP (m:=8) [1,4] kr kr dc<|?_
 intro i hi
 simp only[List.mem_cons,List.not_mem_nil,or_false]at hi
 rcases hi with rfl|rfl
 ·refine kt 22 UB8 hGF rfl rfl rfl rfl dc dc underlying22 sizeOf5 zeroValue5 rfl rfl<|fun b22=>aa<|eP (m:=7) [2,4] kr kr dc<|?_
  intro i hi
  simp only[List.mem_cons,List.not_mem_nil,or_false]at hi
  rcases hi with rfl|rfl
  ·refine fx 22 rfl hGF rfl rfl underlying22 underlying5 rfl rfl<|aa<|aU (m:=6) [3] kr<|Cc rfl ent312 (fun w' hC hG=>jf hf _ _ _ w' hG (aH (n:=22) rfl w' hC))<|aa<|aU (m:=5) [4] kr<|kt 25 UB8 hGF rfl rfl rfl rfl dc dc underlying22 sizeOf5 zeroValue5 rfl rfl<|fun b25=>aa<|aU (m:=4) [5] kr<|fx 25 rfl hGF rfl rfl underlying22 underlying5 rfl rfl<|aa<|aU (m:=0) [6,7,9,10] kr<|Cc rfl ent312 (fun w' hC hG=>jf hf _ _ _ w' hG (aH (n:=25) rfl w' hC))<|Ca rfl (o6 _)<|Ca rfl (jv _ _ hd b hb)<|Asg rfl<|aa<|cK kr<|aD<|am<|Rr<|?_
   exact aG rfl rfl (fun w hw=>⟨rfl,ac hw⟩)
  ·refine kt 25 UB8 hGF rfl rfl rfl rfl dc dc underlying22 sizeOf5 zeroValue5 rfl rfl<|fun b25=>aa<|eP (m:=6) [2,5] kr kr dc<|?_
   intro i hi
   simp only[List.mem_cons,List.not_mem_nil,or_false]at hi
   rcases hi with rfl|rfl
   ·refine fx 22 rfl hGF rfl rfl underlying22 underlying5 rfl rfl<|aa<|aU (m:=5) [3] kr<|Cc rfl ent312 (fun w' hC hG=>jf hf _ _ _ w' hG (aH (n:=22) rfl w' hC))<|aa<|aU (m:=4) [5] kr<|fx 25 rfl hGF rfl rfl underlying22 underlying5 rfl rfl<|aa<|aU (m:=0) [6,7,9,10] kr<|Cc rfl ent312 (fun w' hC hG=>jf hf _ _ _ w' hG (aH (n:=25) rfl w' hC))<|Ca rfl (o6 _)<|Ca rfl (jv _ _ hd b hb)<|Asg rfl<|aa<|cK kr<|aD<|am<|Rr<|?_
    exact aG rfl rfl (fun w hw=>⟨rfl,ac hw⟩)
   ·refine fx 25 rfl hGF rfl rfl underlying22 underlying5 rfl rfl<|aa<|aU (m:=5) [2] kr<|fx 22 rfl hGF rfl rfl underlying22 underlying5 rfl rfl<|aa<|aU (m:=0) [3,6,7,9,10] kr<|Cc rfl ent312 (fun w' hC hG=>jf hf _ _ _ w' hG (aH (n:=22) rfl w' hC))<|Cc rfl ent312 (fun w' hC hG=>jf hf _ _ _ w' hG (aH (n:=25) rfl w' hC))<|Ca rfl (o6 _)<|Ca rfl (jv _ _ hd b hb)<|Asg rfl<|aa<|cK kr<|aD<|am<|Rr<|?_
    exact aG rfl rfl (fun w hw=>⟨rfl,ac hw⟩)
 ·refine kt 25 UB8 hGF rfl rfl rfl rfl dc dc underlying22 sizeOf5 zeroValue5 rfl rfl<|fun b25=>aa<|eP (m:=7) [1,5] kr kr dc<|?_
  intro i hi
  simp only[List.mem_cons,List.not_mem_nil,or_false]at hi
  rcases hi with rfl|rfl
  ·refine kt 22 UB8 hGF rfl rfl rfl rfl dc dc underlying22 sizeOf5 zeroValue5 rfl rfl<|fun b22=>aa<|eP (m:=6) [2,5] kr kr dc<|?_
   intro i hi
   simp only[List.mem_cons,List.not_mem_nil,or_false]at hi
   rcases hi with rfl|rfl
   ·refine fx 22 rfl hGF rfl rfl underlying22 underlying5 rfl rfl<|aa<|aU (m:=5) [3] kr<|Cc rfl ent312 (fun w' hC hG=>jf hf _ _ _ w' hG (aH (n:=22) rfl w' hC))<|aa<|aU (m:=4) [5] kr<|fx 25 rfl hGF rfl rfl underlying22 underlying5 rfl rfl<|aa<|aU (m:=0) [6,7,9,10] kr<|Cc rfl ent312 (fun w' hC hG=>jf hf _ _ _ w' hG (aH (n:=25) rfl w' hC))<|Ca rfl (o6 _)<|Ca rfl (jv _ _ hd b hb)<|Asg rfl<|aa<|cK kr<|aD<|am<|Rr<|?_
    exact aG rfl rfl (fun w hw=>⟨rfl,ac hw⟩)
   ·refine fx 25 rfl hGF rfl rfl underlying22 underlying5 rfl rfl<|aa<|aU (m:=5) [2] kr<|fx 22 rfl hGF rfl rfl underlying22 underlying5 rfl rfl<|aa<|aU (m:=0) [3,6,7,9,10] kr<|Cc rfl ent312 (fun w' hC hG=>jf hf _ _ _ w' hG (aH (n:=22) rfl w' hC))<|Cc rfl ent312 (fun w' hC hG=>jf hf _ _ _ w' hG (aH (n:=25) rfl w' hC))<|Ca rfl (o6 _)<|Ca rfl (jv _ _ hd b hb)<|Asg rfl<|aa<|cK kr<|aD<|am<|Rr<|?_
    exact aG rfl rfl (fun w hw=>⟨rfl,ac hw⟩)
  ·refine fx 25 rfl hGF rfl rfl underlying22 underlying5 rfl rfl<|aa<|aU (m:=6) [1] kr<|kt 22 UB8 hGF rfl rfl rfl rfl dc dc underlying22 sizeOf5 zeroValue5 rfl rfl<|fun b22=>aa<|aU (m:=5) [2] kr<|fx 22 rfl hGF rfl rfl underlying22 underlying5 rfl rfl<|aa<|aU (m:=0) [3,6,7,9,10] kr<|Cc rfl ent312 (fun w' hC hG=>jf hf _ _ _ w' hG (aH (n:=22) rfl w' hC))<|Cc rfl ent312 (fun w' hC hG=>jf hf _ _ _ w' hG (aH (n:=25) rfl w' hC))<|Ca rfl (o6 _)<|Ca rfl (jv _ _ hd b hb)<|Asg rfl<|aa<|cK kr<|aD<|am<|Rr<|?_
   exact aG rfl rfl (fun w hw=>⟨rfl,ac hw⟩)
def gInf:GP:=⟨(0,0,0),none,True.intro,rfl⟩
def yF:GP:=⟨(zp G1x,zp G1y,1),some G1p,gG qb,wD⟩
def Is(p q:GP):GP:=⟨adF p.J q.J,E1.ad p.P q.P,E1.ad_on p.on q.on,I9 p.on q.on p.jr q.jr⟩
def kT(p:GP):GP:=⟨(p.J.1,-p.J.2.1,p.J.2.2),E1.ne p.P,E1.ne_on p.on,E1.jr_n p.jr⟩
theorem aaK(x y:Zp):E1.jr (x,y,1) (some (x,y)):=E1.jr_at (x,y) ko
def GQ(x:Zp)(l:Bool)(h:LQ x):GP:=⟨(x,LY x l,1),some (x,LY x l),P2 h l,aaK x (LY x l)⟩
theorem zv54(w:World):(zeroValue 54).run prog w=.ok (PtV gInf) w:=oV w
theorem xy_w{J:Zp×Zp×Zp}{p:Zp×Zp}(h:E1.jr J (some p)){v:Zp}(hv:J.2.2*v=1):J.1*(v*v)=p.1∧J.2.1*(v*v*v)=p.2:=by
 have hx:J.1=p.1*(J.2.2*J.2.2):=h.2.1
 have hy:J.2.1=p.2*(J.2.2*J.2.2*J.2.2):=h.2.2
 obtain ⟨z,hz⟩: ∃z,J.2.2=z:=⟨_,rfl⟩
 rw[hz]at hx hy hv
 refine ⟨?_, ?_⟩
 ·rw[hx,show p.1*(z*z)*(v*v)=p.1*((z*v)*(z*v))from by grind,hv,oU,ss]
 ·rw[hy,show p.2*(z*z*z)*(v*v*v)=p.2*((z*v)*((z*v)*(z*v)))from by grind,hv,oU,oU,ss]
theorem Ih{J:Zp×Zp×Zp}{P:Pt Zp}(h:E1.jr J P)(hn: ¬P=none){v:Zp}(hv: ¬J.2.2=0→J.2.2*v=1):J.1*(v*v)=PX P∧J.2.1*(v*v*v)=PY P:=by
 cases P with
 |none=>exact absurd rfl hn
 |some p=>exact xy_w h (hv h.1)
theorem I8  :PUR 32 [] (PtV yF):=jgen
theorem ma  :PUR 46 [] (PtV gInf):=Ij
theorem pR(p:GP):PUR 20 [PtV p] (.bool (decide (p.P=none))):=by
 have h:=uH p.J
 rw[show decide (p.J.2.2=0)=decide (p.P=none)from decide_eq_decide.2 (E1.jr_z p.jr)]at h
 exact h
theorem nN(p q:GP):PUR 310 [PtV p,PtV q] (.bool (decide (p.P=q.P))):= 
 have hd:Decidable (eqJ p.J q.J):=decidable_of_iff _ (eqJ_iff p.jr q.jr).symm
 jv p.J q.J hd _ (decide_eq_decide.2 (eqJ_iff p.jr q.jr).symm)
theorem Ig(p q:GP):PUR 122 [PtV p,PtV q] (PtV (Is p q)):=y6 p.J q.J
theorem yl(p:GP):PUR 112 [PtV p] (PtV (kT p)):=o6 p.J
theorem EM(p:GP)(h:p.P=none):PUR 70 [PtV p] (.tuple #[EV 0,EV 0,.bool false]):=BZ p.J ((E1.jr_z p.jr).2 h)
theorem xf(p:GP)(h: ¬p.P=none):PUR 70 [PtV p] (.tuple #[EV (PX p.P),EV (PY p.P),.bool true]):=by
 have k:=Cn p.J (fun e=>h ((E1.jr_z p.jr).1 e))
 have e:=Ih p.jr h (v:=p.J.2.2^(PP-2)) (fun h=>oe h)
 rw[e.1,e.2]at k
 exact k
theorem Pw{a:Zp}(h:LQ a):PUR 152 [EV (RS4 a)] (.tuple #[EV (SQ (RS4 a)),.bool true]):=decide_eq_true h▸mr (RS4 a)
theorem BJ{x y:Zp}{l:Bool}(h:LQ x)(e:LY x l=y)(k:PUR 94 [EV x,.bool l] (.tuple #[JV (x,y,1),.bool true])):PUR 94 [EV x,.bool l] (.tuple #[PtV (GQ x l h),.bool true]):=by
 subst e
 exact k
theorem PJ{a:Zp}(h: ¬LQ a):PUR 152 [EV (RS4 a)] (.tuple #[EV (SQ (RS4 a)),.bool false]):=decide_eq_false h▸mr (RS4 a)
theorem zI(x:Zp)(l:Bool)(h:LQ x):PUR 94 [EV x,.bool l] (.tuple #[PtV (GQ x l h),.bool true]):=by
 cases l with
 |true=>exact BJ h (abb h) (qS x _ (Pw h))
 |false=>exact BJ h (aaQ h) (qE x _ (Pw h))
theorem zS(x:Zp)(l:Bool)(h: ¬LQ x):PUR 94 [EV x,.bool l] (.tuple #[PtV gInf,.bool false]):=by
 cases l with
 |true=>exact rn x _ (PJ h)
 |false=>exact ri x _ (PJ h)
theorem fu(p:GP):PUR 311 [PtV p] (.bool (decide (E1.times p.P ORD=none))):= 
 have hd:Decidable (eqJ (ngJ (mlB (mlB p.J UB8) UB8)) (tuJ (zp TRN) p.J)):=decidable_of_iff _ (mT p.on p.jr).symm
 Sd (fun _=>rfl) rfl p.J hd _ (decide_eq_decide.2 (mT p.on p.jr).symm)
end J1
end
section
def G2p:W2×W2:=((zp 0x24aa2b2f08f0a91260805272dc51051c6e47ad4fa403b02b4510b647ae3d1770bac0326a805bbefd48056c8c121bdb8,zp 0x13e02b6052719f607dacd3a088274f65596bd0d09920b61ab5da61bbdc7f5049334cf11213945d57e5ac7d055d042b7e),(zp 0xce5d527727d6e118cc9cdc6da2e351aadfd9baa8cbdd3a76d429a695160d12c923ac9cc3baca289e193548608b82801,zp 0x606c4a02ea734cc32acd2b02bc28b99cb3e287e85a763af267492ab572e99ab3f370d275cec1da1aaa9075ff05f79be))
theorem Fv:E2w.on G2p:=by
 unfold Ec.on
 decide+kernel
theorem O4:E2w.jr (G2p.1,G2p.2,on2) (some G2p):=⟨by decide+kernel,by decide+kernel,by decide+kernel⟩
theorem g2_z:(E2w.jm (G2p.1,G2p.2,on2) (cU 255 ORD []) (ze2,ze2,ze2)).2.2=ze2:=by decide+kernel
theorem xE:E2w.times (some G2p) ORD=none:=CC E2w (P:=some G2p) Fv O4 (cU 255 ORD []) CJ g2_z
end
section
theorem G8:on2≠ze2:=fun h=>absurd (congrArg Prod.fst h) ko
theorem mA(p:W2×W2):E2w.jr (p.1,p.2,on2) (some p):=E2w.jr_at p G8
end
section
open Go.RowKit
theorem ent132:ak prog 132:=fun _ _=>kr
theorem ent316:ak prog 316:=fun _ _=>kr
theorem ent180:ak prog 180:=fun _ _=>kr
theorem ent317:ak prog 317:=fun _ _=>kr
theorem ent80:ak prog 80:=fun _ _=>kr
theorem ent190:ak prog 190:=fun _ _=>kr
theorem ent215:ak prog 215:=fun _ _=>kr
theorem ent127:ak prog 127:=fun _ _=>kr
theorem ent173:ak prog 173:=fun _ _=>kr
theorem ent82:ak prog 82:=fun _ _=>kr
theorem ent318:ak prog 318:=fun _ _=>kr
theorem ent252:ak prog 252:=fun _ _=>kr
theorem ent207:ak prog 207:=fun _ _=>kr
namespace J2
attribute [local simp] a7 bv aJ aB aQ a5 aT aK aO bf bC a6 bz
structure GP where
 J:W6
 P:Pt W2
 on:E2w.onP P
 jr:E2w.jr J P
def GL(p:GP):L6:=((fe p.J.1.1++fe p.J.1.2)++((fe p.J.2.1.1++fe p.J.2.1.2)++(fe p.J.2.2.1++fe p.J.2.2.2)))
theorem bE(p:GP):(GL p).length=36:=by simp[GL]
attribute [local simp] bE
abbrev PtV(p:GP):Value:=aM (GL p)
def PX:Pt W2→W2
 |none=>ze2
 |some p=>p.1
def PY:Pt W2→W2
 |none=>ze2
 |some p=>p.2
def RS4(x:W2):W2:=ad2 (ml2 (ml2 x x) x) E2w.b
abbrev LQ(x:W2):Prop:=IsQ (nm2 (RS4 x))
theorem oz{x y:W2}:E2w.on (x,y)↔ml2 y y=RS4 x:=by
 show ml2 y y=ad2 (ml2 x (ml2 x x)) E2w.b↔ml2 y y=ad2 (ml2 (ml2 x x) x) E2w.b
 rw[show ml2 x (ml2 x x)=ml2 (ml2 x x) x from R2.mul_comm _ _]
theorem gG{p:W2×W2}(h:E2w.on p):E2w.onP (some p):=h
def sgY(r:W2):Bool→W2
 |true=>ng2 r
 |false=>r
theorem Pq(r:W2):ml2 (ng2 r) (ng2 r)=ml2 r r:=zq R2 [r] (tm (tn j0) (tn j0)) (tm j0 j0)
theorem JL{x r:W2}(hr:ml2 r r=RS4 x)(l:Bool):ml2 (sgY r l) (sgY r l)=RS4 x:=by
 cases l with
 |true=>exact (Pq r).trans hr
 |false=>exact hr
theorem o5(w:World):(zeroValue 80).run prog w=.ok (aM ((fe 0++fe 0)++((fe 0++fe 0)++(fe 0++fe 0)))) w:=by rw[jw];exact (zeroValue80 w).trans rr
theorem pP:Three prog 80 ⟨ "x",78,0,false, "", "pharos/g2",0⟩ ⟨ "y",78,12,false, "", "pharos/g2",96⟩ ⟨ "z",78,24,false, "", "pharos/g2",192⟩ 12 (fe 0++fe 0) (fe 0++fe 0) (fe 0++fe 0):=⟨underlying80,rfl,rfl,rfl,sizeOf78,sizeOf78,sizeOf78,o5,sm,sm,sm⟩
theorem RI(x y:W2):PUR 181 [EV2 x,EV2 y] (EV2 (E2w.sub x y)):=by
 have h:=lz x y
 rw[nT]at h
 exact h
def TO61:Tb prog Gt:=TO59.add (cR (g:=E2w.sub) ent181 RI)
theorem uH(x:W6):PUR 127 [EV6 x] (.bool (decide (x.2.2=ze2))):=(bZ (l1 (V6 _)) rfl (pE TO61 func127 [.inl [x.1.1,x.1.2,x.2.1.1,x.2.1.2,x.2.2.1,x.2.2.2]] (.inl (.inr (.inl (decide (x.2.2=ze2))))) (.inl (.inr (.inl (decide ((x.2.2.1,x.2.2.2)=ze2)))),[]) [] kr aE rfl))
def TO62:Tb prog Gt:=TO61.add (tK (g:=fun x=>decide (x.2.2=ze2)) ent127 uH)
theorem o6(x:W6):PUR 318 [EV6 x] (EV6 (x.1,ng2 x.2.1,x.2.2)):=(bZ (l1 (V6 _)) (V6 _) (pE TO62 func318 [.inl [x.1.1,x.1.2,x.2.1.1,x.2.1.2,x.2.2.1,x.2.2.2]] (.inl (.inl [(x.1,ng2 x.2.1,x.2.2).1.1,(x.1,ng2 x.2.1,x.2.2).1.2,(x.1,ng2 x.2.1,x.2.2).2.1.1,(x.1,ng2 x.2.1,x.2.2).2.1.2,(x.1,ng2 x.2.1,x.2.2).2.2.1,(x.1,ng2 x.2.1,x.2.2).2.2.2])) (let t0:=ng2 (x.2.1.1,x.2.1.2);(.inl (.inl [x.1.1,x.1.2,t0.1,t0.2,x.2.2.1,x.2.2.2]),[])) [] kr aE rfl))
def TO63:Tb prog Gt:=TO62.add (cO (g:=fun x=>(x.1,ng2 x.2.1,x.2.2)) ent318 o6)
theorem Ij  :PUR 190 [] (EV6 (ze2,ze2,ze2)):=(bZ rfl (V6 _) (pE TO63 func190 [] (.inl (.inl [(ze2,ze2,ze2).1.1,(ze2,ze2,ze2).1.2,(ze2,ze2,ze2).2.1.1,(ze2,ze2,ze2).2.1.2,(ze2,ze2,ze2).2.2.1,(ze2,ze2,ze2).2.2.2])) (.inl (.inl [0,0,0,0,0,0]),[]) [] kr aE rfl))
theorem BE{f:Nat}{g:W6}(en:ak prog f)(h:PUR f [] (EV6 g)):Snd prog Gt f (c0 q6.rd g):=wh q6.rd en (bZ rfl (V6 _).symm h)
def TO64:Tb prog Gt:=TO63.add (BE (g:=(ze2,ze2,ze2)) ent190 Ij)
theorem BC(a:W2):PUR 252 [EV2 a] (EV2 (ml2 (ml2 a a) a)):=pE TO64 func252 [.inl [a.1,a.2]] (.inl (.inl [(ml2 (ml2 a a) a).1,(ml2 (ml2 a a) a).2])) (let t0:=ml2 a a;let t1:=ml2 (t0.1,t0.2) a;(.inl (.inl [t1.1,t1.2]),[])) [] kr aE rfl
def TO65:Tb prog Gt:=TO64.add (ej (g:=fun a=>ml2 (ml2 a a) a) ent252 BC)
theorem Gk(x:W6):PUR 180 [EV6 x] (EV6 (E2w.dbA x)):=(bZ (l1 (V6 _)) (V6 _) (pE TO65 func180 [.inl [x.1.1,x.1.2,x.2.1.1,x.2.1.2,x.2.2.1,x.2.2.2]] (.inl (.inl [(E2w.dbA x).1.1,(E2w.dbA x).1.2,(E2w.dbA x).2.1.1,(E2w.dbA x).2.1.2,(E2w.dbA x).2.2.1,(E2w.dbA x).2.2.2])) (let t0:=ad2 (x.2.1.1,x.2.1.2) (x.2.1.1,x.2.1.2);let t1:=ml2 (x.1.1,x.1.2) (x.1.1,x.1.2);let t2:=ad2 (t1.1,t1.2) (t1.1,t1.2);let t3:=ad2 (t2.1,t2.2) (t1.1,t1.2);let t4:=ml2 (t0.1,t0.2) (t0.1,t0.2);let t5:=ml2 (t4.1,t4.2) (x.1.1,x.1.2);let t6:=ml2 (t3.1,t3.2) (t3.1,t3.2);let t7:=E2w.sub (t6.1,t6.2) (t5.1,t5.2);let t8:=E2w.sub (t7.1,t7.2) (t5.1,t5.2);let t9:=E2w.sub (t5.1,t5.2) (t8.1,t8.2);let t10:=ml2 (t3.1,t3.2) (t9.1,t9.2);let t11:=ml2 (t4.1,t4.2) (t0.1,t0.2);let t12:=ml2 (t11.1,t11.2) (x.2.1.1,x.2.1.2);let t13:=E2w.sub (t10.1,t10.2) (t12.1,t12.2);let t14:=ml2 (x.2.2.1,x.2.2.2) (t0.1,t0.2);(.inl (.inl [t8.1,t8.2,t13.1,t13.2,t14.1,t14.2]),[])) [] kr aE rfl))
def TO66:Tb prog Gt:=TO65.add (cO (g:=E2w.dbA) ent180 Gk)
theorem y6(x y:W6):PUR 132 [EV6 x,EV6 y] (EV6 (E2w.adA x y)):=by
 by_cases h1:x.2.2=ze2
 ·exact (bZ (l2 (V6 _) (V6 _)) (V6 _) (pE TO66 func132 [.inl [x.1.1,x.1.2,x.2.1.1,x.2.1.2,x.2.2.1,x.2.2.2],.inl [y.1.1,y.1.2,y.2.1.1,y.2.1.2,y.2.2.1,y.2.2.2]] (.inl (.inl [(E2w.adA x y).1.1,(E2w.adA x y).1.2,(E2w.adA x y).2.1.1,(E2w.adA x y).2.1.2,(E2w.adA x y).2.2.1,(E2w.adA x y).2.2.2])) (.inl (.inl [y.1.1,y.1.2,y.2.1.1,y.2.1.2,y.2.2.1,y.2.2.2]),[(decide (x.2.2=ze2),true)]) [some true] kr (ap (decide_eq_true h1) aE) (by rw[show E2w.adA x y=y from if_pos h1]<;>exact rfl)))
 ·by_cases h2:y.2.2=ze2
  ·exact (bZ (l2 (V6 _) (V6 _)) (V6 _) (pE TO66 func132 [.inl [x.1.1,x.1.2,x.2.1.1,x.2.1.2,x.2.2.1,x.2.2.2],.inl [y.1.1,y.1.2,y.2.1.1,y.2.1.2,y.2.2.1,y.2.2.2]] (.inl (.inl [(E2w.adA x y).1.1,(E2w.adA x y).1.2,(E2w.adA x y).2.1.1,(E2w.adA x y).2.1.2,(E2w.adA x y).2.2.1,(E2w.adA x y).2.2.2])) (.inl (.inl [x.1.1,x.1.2,x.2.1.1,x.2.1.2,x.2.2.1,x.2.2.2]),[(decide (x.2.2=ze2),false),(decide (y.2.2=ze2),true)]) [some false,some true] kr (ap (decide_eq_false h1) (ap (decide_eq_true h2) aE)) (by rw[show E2w.adA x y=x from (if_neg h1).trans (if_pos h2)]<;>exact rfl)))
  ·by_cases h3:E2w.jh x.1 x.2.2 y.1 y.2.2=ze2
   ·by_cases h4:E2w.jq x.2.1 x.2.2 y.2.1 y.2.2=ze2
    ·exact (bZ (l2 (V6 _) (V6 _)) (V6 _) (pE TO66 func132 [.inl [x.1.1,x.1.2,x.2.1.1,x.2.1.2,x.2.2.1,x.2.2.2],.inl [y.1.1,y.1.2,y.2.1.1,y.2.1.2,y.2.2.1,y.2.2.2]] (.inl (.inl [(E2w.adA x y).1.1,(E2w.adA x y).1.2,(E2w.adA x y).2.1.1,(E2w.adA x y).2.1.2,(E2w.adA x y).2.2.1,(E2w.adA x y).2.2.2])) (let t0:=ml2 (x.2.2.1,x.2.2.2) (x.2.2.1,x.2.2.2);let t1:=ml2 (y.2.2.1,y.2.2.2) (y.2.2.1,y.2.2.2);let t2:=ml2 (x.1.1,x.1.2) (t1.1,t1.2);let t3:=ml2 (x.2.1.1,x.2.1.2) (t1.1,t1.2);let t4:=ml2 (t3.1,t3.2) (y.2.2.1,y.2.2.2);let t5:=ml2 (y.1.1,y.1.2) (t0.1,t0.2);let t6:=E2w.sub (t5.1,t5.2) (t2.1,t2.2);let t7:=ml2 (y.2.1.1,y.2.1.2) (t0.1,t0.2);let t8:=ml2 (t7.1,t7.2) (x.2.2.1,x.2.2.2);let t9:=E2w.sub (t8.1,t8.2) (t4.1,t4.2);let t10:=E2w.dbA x;(.inl (.inl [t10.1.1,t10.1.2,t10.2.1.1,t10.2.1.2,t10.2.2.1,t10.2.2.2]),[(decide (x.2.2=ze2),false),(decide (y.2.2=ze2),false),(decide ((t6.1,t6.2)=ze2),true),(decide ((t9.1,t9.2)=ze2),true)])) [some false,some false,some true,some true] kr (ap (decide_eq_false h1) (ap (decide_eq_false h2) (ap (decide_eq_true h3) (ap (decide_eq_true h4) aE)))) (by rw[show E2w.adA x y=E2w.dbA x from (if_neg h1).trans ((if_neg h2).trans ((if_pos h3).trans (if_pos h4)))]<;>exact rfl)))
    ·exact (bZ (l2 (V6 _) (V6 _)) (V6 _) (pE TO66 func132 [.inl [x.1.1,x.1.2,x.2.1.1,x.2.1.2,x.2.2.1,x.2.2.2],.inl [y.1.1,y.1.2,y.2.1.1,y.2.1.2,y.2.2.1,y.2.2.2]] (.inl (.inl [(E2w.adA x y).1.1,(E2w.adA x y).1.2,(E2w.adA x y).2.1.1,(E2w.adA x y).2.1.2,(E2w.adA x y).2.2.1,(E2w.adA x y).2.2.2])) (let t0:=ml2 (x.2.2.1,x.2.2.2) (x.2.2.1,x.2.2.2);let t1:=ml2 (y.2.2.1,y.2.2.2) (y.2.2.1,y.2.2.2);let t2:=ml2 (x.1.1,x.1.2) (t1.1,t1.2);let t3:=ml2 (x.2.1.1,x.2.1.2) (t1.1,t1.2);let t4:=ml2 (t3.1,t3.2) (y.2.2.1,y.2.2.2);let t5:=ml2 (y.1.1,y.1.2) (t0.1,t0.2);let t6:=E2w.sub (t5.1,t5.2) (t2.1,t2.2);let t7:=ml2 (y.2.1.1,y.2.1.2) (t0.1,t0.2);let t8:=ml2 (t7.1,t7.2) (x.2.2.1,x.2.2.2);let t9:=E2w.sub (t8.1,t8.2) (t4.1,t4.2);(.inl (.inl [0,0,0,0,0,0]),[(decide (x.2.2=ze2),false),(decide (y.2.2=ze2),false),(decide ((t6.1,t6.2)=ze2),true),(decide ((t9.1,t9.2)=ze2),false),(decide ((t6.1,t6.2)=ze2),true)])) [some false,some false,some true,some false,some true] kr (ap (decide_eq_false h1) (ap (decide_eq_false h2) (ap (decide_eq_true h3) (ap (decide_eq_false h4) (ap (decide_eq_true h3) aE))))) (by rw[show E2w.adA x y=(ze2,ze2,ze2)from (if_neg h1).trans ((if_neg h2).trans ((if_pos h3).trans (if_neg h4)))]<;>exact rfl)))
   ·exact (bZ (l2 (V6 _) (V6 _)) (V6 _) (pE TO66 func132 [.inl [x.1.1,x.1.2,x.2.1.1,x.2.1.2,x.2.2.1,x.2.2.2],.inl [y.1.1,y.1.2,y.2.1.1,y.2.1.2,y.2.2.1,y.2.2.2]] (.inl (.inl [(E2w.adA x y).1.1,(E2w.adA x y).1.2,(E2w.adA x y).2.1.1,(E2w.adA x y).2.1.2,(E2w.adA x y).2.2.1,(E2w.adA x y).2.2.2])) (let t0:=ml2 (x.2.2.1,x.2.2.2) (x.2.2.1,x.2.2.2);let t1:=ml2 (y.2.2.1,y.2.2.2) (y.2.2.1,y.2.2.2);let t2:=ml2 (x.1.1,x.1.2) (t1.1,t1.2);let t3:=ml2 (x.2.1.1,x.2.1.2) (t1.1,t1.2);let t4:=ml2 (t3.1,t3.2) (y.2.2.1,y.2.2.2);let t5:=ml2 (y.1.1,y.1.2) (t0.1,t0.2);let t6:=E2w.sub (t5.1,t5.2) (t2.1,t2.2);let t7:=ml2 (y.2.1.1,y.2.1.2) (t0.1,t0.2);let t8:=ml2 (t7.1,t7.2) (x.2.2.1,x.2.2.2);let t9:=E2w.sub (t8.1,t8.2) (t4.1,t4.2);let t10:=ml2 (t6.1,t6.2) (t6.1,t6.2);let t11:=ml2 (t10.1,t10.2) (t6.1,t6.2);let t12:=ml2 (t10.1,t10.2) (t2.1,t2.2);let t13:=ml2 (t9.1,t9.2) (t9.1,t9.2);let t14:=E2w.sub (t13.1,t13.2) (t11.1,t11.2);let t15:=E2w.sub (t14.1,t14.2) (t12.1,t12.2);let t16:=E2w.sub (t15.1,t15.2) (t12.1,t12.2);let t17:=E2w.sub (t12.1,t12.2) (t16.1,t16.2);let t18:=ml2 (t9.1,t9.2) (t17.1,t17.2);let t19:=ml2 (t11.1,t11.2) (t4.1,t4.2);let t20:=E2w.sub (t18.1,t18.2) (t19.1,t19.2);let t21:=ml2 (x.2.2.1,x.2.2.2) (y.2.2.1,y.2.2.2);let t22:=ml2 (t21.1,t21.2) (t6.1,t6.2);(.inl (.inl [t16.1,t16.2,t20.1,t20.2,t22.1,t22.2]),[(decide (x.2.2=ze2),false),(decide (y.2.2=ze2),false),(decide ((t6.1,t6.2)=ze2),false),(decide ((t6.1,t6.2)=ze2),false)])) [some false,some false,some false,some false] kr (ap (decide_eq_false h1) (ap (decide_eq_false h2) (ap (decide_eq_false h3) (ap (decide_eq_false h3) aE)))) (by rw[show E2w.adA x y=E2w.adG x y from (if_neg h1).trans ((if_neg h2).trans (if_neg h3))]<;>exact rfl)))
def TO67:Tb prog Gt:=TO66.add (cC (g:=E2w.adA) ent132 y6)
theorem jv(x y:W6)(hd:Decidable (E2w.eqJ x y))(b:Bool)(hb:b=decide (E2w.eqJ x y)):PUR 316 [EV6 x,EV6 y] (.bool b):=by
 by_cases h1:x.2.2=ze2
 ·by_cases h2:y.2.2=ze2
  ·exact (bZ (l2 (V6 _) (V6 _)) rfl (pE TO67 func316 [.inl [x.1.1,x.1.2,x.2.1.1,x.2.1.2,x.2.2.1,x.2.2.2],.inl [y.1.1,y.1.2,y.2.1.1,y.2.1.2,y.2.2.1,y.2.2.2]] (.inl (.inr (.inl b))) (.inl (.inr (.inl true)),[(decide (x.2.2=ze2),true),(decide (x.2.2=ze2),true),(decide (y.2.2=ze2),true)]) [some true,some true,some true] kr (ap (decide_eq_true h1) (ap (decide_eq_true h1) (ap (decide_eq_true h2) aE))) (by obtain rfl:b=true:=hb.trans (decide_eq_true (.inl ⟨h1,h2⟩))<;>exact rfl)))
  ·exact (bZ (l2 (V6 _) (V6 _)) rfl (pE TO67 func316 [.inl [x.1.1,x.1.2,x.2.1.1,x.2.1.2,x.2.2.1,x.2.2.2],.inl [y.1.1,y.1.2,y.2.1.1,y.2.1.2,y.2.2.1,y.2.2.2]] (.inl (.inr (.inl b))) (.inl (.inr (.inl false)),[(decide (x.2.2=ze2),true),(decide (x.2.2=ze2),true),(decide (y.2.2=ze2),false)]) [some true,some true,some false] kr (ap (decide_eq_true h1) (ap (decide_eq_true h1) (ap (decide_eq_false h2) aE))) (by obtain rfl:b=false:=hb.trans (decide_eq_false (fun e=>e.elim (fun e=>h2 e.2) (fun e=>e.1 h1)))<;>exact rfl)))
 ·by_cases h2:y.2.2=ze2
  ·exact (bZ (l2 (V6 _) (V6 _)) rfl (pE TO67 func316 [.inl [x.1.1,x.1.2,x.2.1.1,x.2.1.2,x.2.2.1,x.2.2.2],.inl [y.1.1,y.1.2,y.2.1.1,y.2.1.2,y.2.2.1,y.2.2.2]] (.inl (.inr (.inl b))) (.inl (.inr (.inl false)),[(decide (x.2.2=ze2),false),(decide (y.2.2=ze2),true),(decide (x.2.2=ze2),false)]) [some false,some true,some false] kr (ap (decide_eq_false h1) (ap (decide_eq_true h2) (ap (decide_eq_false h1) aE))) (by obtain rfl:b=false:=hb.trans (decide_eq_false (fun e=>e.elim (fun e=>h1 e.1) (fun e=>e.2.1 h2)))<;>exact rfl)))
  ·by_cases h3:ml2 x.1 (ml2 y.2.2 y.2.2)=ml2 y.1 (ml2 x.2.2 x.2.2)
   ·by_cases h4:ml2 x.2.1 (ml2 (ml2 y.2.2 y.2.2) y.2.2)=ml2 y.2.1 (ml2 (ml2 x.2.2 x.2.2) x.2.2)
    ·exact (bZ (l2 (V6 _) (V6 _)) rfl (pE TO67 func316 [.inl [x.1.1,x.1.2,x.2.1.1,x.2.1.2,x.2.2.1,x.2.2.2],.inl [y.1.1,y.1.2,y.2.1.1,y.2.1.2,y.2.2.1,y.2.2.2]] (.inl (.inr (.inl b))) (let t0:=ml2 (ml2 (y.2.2.1,y.2.2.2) (y.2.2.1,y.2.2.2)) (y.2.2.1,y.2.2.2);let t1:=ml2 (x.2.1.1,x.2.1.2) (t0.1,t0.2);let t2:=ml2 (ml2 (x.2.2.1,x.2.2.2) (x.2.2.1,x.2.2.2)) (x.2.2.1,x.2.2.2);let t3:=ml2 (y.2.1.1,y.2.1.2) (t2.1,t2.2);let t4:=ml2 (y.2.2.1,y.2.2.2) (y.2.2.1,y.2.2.2);let t5:=ml2 (x.1.1,x.1.2) (t4.1,t4.2);let t6:=ml2 (x.2.2.1,x.2.2.2) (x.2.2.1,x.2.2.2);let t7:=ml2 (y.1.1,y.1.2) (t6.1,t6.2);(.inl (.inr (.inl true)),[(decide (x.2.2=ze2),false),(decide (y.2.2=ze2),false),(decide ((t5.1,t5.2)=(t7.1,t7.2)),true),(decide ((t1.1,t1.2)=(t3.1,t3.2)),true)])) [some false,some false,some true,some true] kr (ap (decide_eq_false h1) (ap (decide_eq_false h2) (ap (decide_eq_true h3) (ap (decide_eq_true h4) aE)))) (by obtain rfl:b=true:=hb.trans (decide_eq_true (.inr ⟨h1,h2,h3,h4⟩))<;>exact rfl)))
    ·exact (bZ (l2 (V6 _) (V6 _)) rfl (pE TO67 func316 [.inl [x.1.1,x.1.2,x.2.1.1,x.2.1.2,x.2.2.1,x.2.2.2],.inl [y.1.1,y.1.2,y.2.1.1,y.2.1.2,y.2.2.1,y.2.2.2]] (.inl (.inr (.inl b))) (let t0:=ml2 (ml2 (y.2.2.1,y.2.2.2) (y.2.2.1,y.2.2.2)) (y.2.2.1,y.2.2.2);let t1:=ml2 (x.2.1.1,x.2.1.2) (t0.1,t0.2);let t2:=ml2 (ml2 (x.2.2.1,x.2.2.2) (x.2.2.1,x.2.2.2)) (x.2.2.1,x.2.2.2);let t3:=ml2 (y.2.1.1,y.2.1.2) (t2.1,t2.2);let t4:=ml2 (y.2.2.1,y.2.2.2) (y.2.2.1,y.2.2.2);let t5:=ml2 (x.1.1,x.1.2) (t4.1,t4.2);let t6:=ml2 (x.2.2.1,x.2.2.2) (x.2.2.1,x.2.2.2);let t7:=ml2 (y.1.1,y.1.2) (t6.1,t6.2);(.inl (.inr (.inl false)),[(decide (x.2.2=ze2),false),(decide (y.2.2=ze2),false),(decide ((t5.1,t5.2)=(t7.1,t7.2)),true),(decide ((t1.1,t1.2)=(t3.1,t3.2)),false)])) [some false,some false,some true,some false] kr (ap (decide_eq_false h1) (ap (decide_eq_false h2) (ap (decide_eq_true h3) (ap (decide_eq_false h4) aE)))) (by obtain rfl:b=false:=hb.trans (decide_eq_false (fun e=>e.elim (fun e=>h1 e.1) (fun e=>h4 e.2.2.2)))<;>exact rfl)))
   ·exact (bZ (l2 (V6 _) (V6 _)) rfl (pE TO67 func316 [.inl [x.1.1,x.1.2,x.2.1.1,x.2.1.2,x.2.2.1,x.2.2.2],.inl [y.1.1,y.1.2,y.2.1.1,y.2.1.2,y.2.2.1,y.2.2.2]] (.inl (.inr (.inl b))) (let t4:=ml2 (y.2.2.1,y.2.2.2) (y.2.2.1,y.2.2.2);let t5:=ml2 (x.1.1,x.1.2) (t4.1,t4.2);let t6:=ml2 (x.2.2.1,x.2.2.2) (x.2.2.1,x.2.2.2);let t7:=ml2 (y.1.1,y.1.2) (t6.1,t6.2);(.inl (.inr (.inl false)),[(decide (x.2.2=ze2),false),(decide (y.2.2=ze2),false),(decide ((t5.1,t5.2)=(t7.1,t7.2)),false)])) [some false,some false,some false] kr (ap (decide_eq_false h1) (ap (decide_eq_false h2) (ap (decide_eq_false h3) aE))) (by obtain rfl:b=false:=hb.trans (decide_eq_false (fun e=>e.elim (fun e=>h1 e.1) (fun e=>h3 e.2.2.1)))<;>exact rfl)))
theorem BZ(x:W6)(h:x.2.2=ze2):PUR 80 [EV6 x] (.tuple #[EV2 ze2,EV2 ze2,.bool false]):=(bZ (l1 (V6 _)) rfl (pE TO67 func80 [.inl [x.1.1,x.1.2,x.2.1.1,x.2.1.2,x.2.2.1,x.2.2.2]] (.inr [.inl [ze2.1,ze2.2],.inl [ze2.1,ze2.2],.inr (.inl false)]) (.inr [.inl [0,0],.inl [0,0],.inr (.inl false)],[(decide (x.2.2=ze2),true)]) [some true] kr (ap (decide_eq_true h) aE) rfl))
theorem Cn(x:W6)(h: ¬x.2.2=ze2):PUR 80 [EV6 x] (.tuple #[EV2 (ml2 x.1 (ml2 (iv2 x.2.2) (iv2 x.2.2))),EV2 (ml2 x.2.1 (ml2 (ml2 (iv2 x.2.2) (iv2 x.2.2)) (iv2 x.2.2))),.bool true]):=(bZ (l1 (V6 _)) rfl (pE TO67 func80 [.inl [x.1.1,x.1.2,x.2.1.1,x.2.1.2,x.2.2.1,x.2.2.2]] (.inr [.inl [(ml2 x.1 (ml2 (iv2 x.2.2) (iv2 x.2.2))).1,(ml2 x.1 (ml2 (iv2 x.2.2) (iv2 x.2.2))).2],.inl [(ml2 x.2.1 (ml2 (ml2 (iv2 x.2.2) (iv2 x.2.2)) (iv2 x.2.2))).1,(ml2 x.2.1 (ml2 (ml2 (iv2 x.2.2) (iv2 x.2.2)) (iv2 x.2.2))).2],.inr (.inl true)]) (let t0:=iv2 (x.2.2.1,x.2.2.2);let t1:=ml2 (t0.1,t0.2) (t0.1,t0.2);let t2:=ml2 (x.1.1,x.1.2) (t1.1,t1.2);let t3:=ml2 (t1.1,t1.2) (t0.1,t0.2);let t4:=ml2 (x.2.1.1,x.2.1.2) (t3.1,t3.2);(.inr [.inl [t2.1,t2.2],.inl [t4.1,t4.2],.inr (.inl true)],[(decide (x.2.2=ze2),false)])) [some false] kr (ap (decide_eq_false h) aE) rfl))
theorem ut(a b:W2):PUR 215 [EV2 a,EV2 b] (EV6 (a,b,on2)):=(bZ rfl (V6 _) (pE TO67 func215 [.inl [a.1,a.2],.inl [b.1,b.2]] (.inl (.inl [(a,b,on2).1.1,(a,b,on2).1.2,(a,b,on2).2.1.1,(a,b,on2).2.1.2,(a,b,on2).2.2.1,(a,b,on2).2.2.2])) (let t0:=on2;(.inl (.inl [a.1,a.2,b.1,b.2,t0.1,t0.2]),[])) [] kr aE rfl))
def TO68:Tb prog Gt:=TO67.add (kQ (g:=fun a b=>(a,b,on2)) ent215 ut)
theorem of4:PUR 120 [U64 4#64] (EV (zp 4)):=fk 4#64
theorem jE(a:W2):PUR 212 [EV2 a] (EV2 (RS4 a)):=by
 intro w hw
 refine Hf func212 rfl hw<|fun hGF=>Xp<|Bx 1 hGF rfl<|fun b1=>Al 2 hGF zv78<|fun b2=>aa<|Xp<|La 1 rfl rfl aZ<|Ca rfl (BC _)<|Ca rfl (of4)<|Ca rfl (of4)<|cv gg rfl rfl sm sm rfl rfl<|Ca rfl (fI _ (zp 4,zp 4))<|Sa 2 hGF rfl rfl rfl aZ<|aa<|am<|Rr<|?_
 exact av 2 rfl rfl rfl isAgg78 sizeOf78 sm (fun w hw=>⟨rfl,ac hw⟩)
theorem SW(a b:W2)(h:ml2 b b=RS4 a):PUR 246 [EV2 a,EV2 b] (.tuple #[EV6 (a,b,on2),.bool true]):=by
 intro w hw
 refine Hf func246 rfl hw<|fun hGF=>Xp<|Bx 2 hGF rfl<|fun b2=>Bx 3 hGF rfl<|fun b3=>Al 4 hGF o5<|fun b4=>Asg rfl<|aa<|ah<|Xd []<|La 3 rfl rfl aZ<|Ca rfl (i4 _)<|La 2 rfl rfl aZ<|Ca rfl (jE _)<|Cbl true rfl ent235 (uM _ _) (decide_eq_true h)<|bu rfl (fun _=>a9 _) rfl rfl<|aa<|aC rfl<|aq<|Xp<|La 2 rfl rfl aZ<|La 3 rfl rfl aZ<|Ca rfl (ut _ _)<|Sa 4 hGF rfl rfl rfl co<|Asg rfl<|aa<|am<|Rr<|?_
 exact a8 4 rfl rfl rfl rfl isAgg80 sizeOf80 sm (fun w hw=>⟨rfl,ac hw⟩)
theorem qS(a s:W2)(hs:PUR 213 [EV2 (RS4 a)] (.tuple #[EV2 s,.bool true])):PUR 191 [EV2 a,.bool true] (.tuple #[EV6 (a,ng2 s,on2),.bool true]):=by
 intro w hw
 refine Hf func191 rfl hw<|fun hGF=>Xp<|Bx 2 hGF rfl<|fun b2=>Al 4 hGF o5<|fun b4=>Asg rfl<|aa<|Xp<|La 2 rfl rfl aZ<|Ca rfl (jE _)<|Ca rfl (hs)<|Mv rfl<|Ext rfl rfl<|Ext rfl rfl<|Al 6 hGF zv78<|fun b6=>Sa 6 hGF rfl rfl rfl aZ<|Asg rfl<|aa<|ah<|Xp<|Mv rfl<|bu rfl (fun _=>a9 _) rfl rfl<|aa<|aC rfl<|aq<|ah<|Xp<|Mv rfl<|aa<|aR rfl<|Xq<|La 6 rfl rfl aZ<|Ca rfl (Gn _)<|Sa 6 hGF rfl rfl rfl aZ<|aa<|Xp<|La 2 rfl rfl aZ<|La 6 rfl rfl aZ<|Ca rfl (ut _ _)<|Sa 4 hGF rfl rfl rfl co<|Asg rfl<|?_
 refine aa<|am<|Rr<|?_
 exact a8 4 rfl rfl rfl rfl isAgg80 sizeOf80 sm (fun w hw=>⟨rfl,ac hw⟩)
theorem rn(a s:W2)(hs:PUR 213 [EV2 (RS4 a)] (.tuple #[EV2 s,.bool false])):PUR 191 [EV2 a,.bool true] (.tuple #[EV6 (ze2,ze2,ze2),.bool false]):=by
 intro w hw
 refine Hf func191 rfl hw<|fun hGF=>Xp<|Bx 2 hGF rfl<|fun b2=>Al 4 hGF o5<|fun b4=>Asg rfl<|aa<|Xp<|La 2 rfl rfl aZ<|Ca rfl (jE _)<|Ca rfl (hs)<|Mv rfl<|Ext rfl rfl<|Ext rfl rfl<|Al 6 hGF zv78<|fun b6=>Sa 6 hGF rfl rfl rfl aZ<|Asg rfl<|aa<|ah<|Xp<|Mv rfl<|bu rfl (fun _=>a9 _) rfl rfl<|aa<|aR rfl<|Xp<|j8 pP rfl rfl<|Sa 4 hGF rfl rfl rfl co<|Asg rfl<|aa<|am<|Rr<|?_
 exact a8 4 rfl rfl rfl rfl isAgg80 sizeOf80 sm (fun w hw=>⟨rfl,ac hw⟩)
theorem qE(a s:W2)(hs:PUR 213 [EV2 (RS4 a)] (.tuple #[EV2 s,.bool true])):PUR 191 [EV2 a,.bool false] (.tuple #[EV6 (a,s,on2),.bool true]):=by
 intro w hw
 refine Hf func191 rfl hw<|fun hGF=>Xp<|Bx 2 hGF rfl<|fun b2=>Al 4 hGF o5<|fun b4=>Asg rfl<|aa<|Xp<|La 2 rfl rfl aZ<|Ca rfl (jE _)<|Ca rfl (hs)<|Mv rfl<|Ext rfl rfl<|Ext rfl rfl<|Al 6 hGF zv78<|fun b6=>Sa 6 hGF rfl rfl rfl aZ<|Asg rfl<|aa<|ah<|Xp<|Mv rfl<|bu rfl (fun _=>a9 _) rfl rfl<|aa<|aC rfl<|aq<|ah<|Xp<|Mv rfl<|aa<|aC rfl<|aq<|Xp<|La 2 rfl rfl aZ<|La 6 rfl rfl aZ<|Ca rfl (ut _ _)<|Sa 4 hGF rfl rfl rfl co<|Asg rfl<|aa<|am<|Rr<|?_
 exact a8 4 rfl rfl rfl rfl isAgg80 sizeOf80 sm (fun w hw=>⟨rfl,ac hw⟩)
theorem ri(a s:W2)(hs:PUR 213 [EV2 (RS4 a)] (.tuple #[EV2 s,.bool false])):PUR 191 [EV2 a,.bool false] (.tuple #[EV6 (ze2,ze2,ze2),.bool false]):=by
 intro w hw
 refine Hf func191 rfl hw<|fun hGF=>Xp<|Bx 2 hGF rfl<|fun b2=>Al 4 hGF o5<|fun b4=>Asg rfl<|aa<|Xp<|La 2 rfl rfl aZ<|Ca rfl (jE _)<|Ca rfl (hs)<|Mv rfl<|Ext rfl rfl<|Ext rfl rfl<|Al 6 hGF zv78<|fun b6=>Sa 6 hGF rfl rfl rfl aZ<|Asg rfl<|aa<|ah<|Xp<|Mv rfl<|bu rfl (fun _=>a9 _) rfl rfl<|aa<|aR rfl<|Xp<|j8 pP rfl rfl<|Sa 4 hGF rfl rfl rfl co<|Asg rfl<|aa<|am<|Rr<|?_
 exact a8 4 rfl rfl rfl rfl isAgg80 sizeOf80 sm (fun w hw=>⟨rfl,ac hw⟩)
theorem cH{w:World}{b:Nat}{c:List Value}{xs:L8}(h:w.rangeAt b 0 c)(ht:c.take xs.length=xs.map U8):BytesAt w (spt b) xs:=by
 refine BytesAt.range fun j v hv=>h j v ?_
 rw[←ht,List.getElem?_take]at hv
 split at hv
 ·exact hv
 ·cases hv
theorem PK(s0:ByteArray)(xs:L8)(h0:s0.data.toList=xs.map (fun x=>UInt8.ofBitVec x)):PUR 320 [.string s0] (EV (FV xs)):=by
 intro w hw
 refine Hf func320 rfl hw<|fun hGF=>ae (E:=EE [1000022])<|Al 2 hGF zv52<|fun b2=>aa<|ae (E:=EE [1000022])<|Mv rfl<|?_
 refine yH 7 (xs:=xs) rfl hGF rfl underlying9 underlying22 underlying5 h0 rfl rfl (fun b7 c7 k7 e7 l7 t7=> ?_)
 refine Cc rfl ent74 (fun w' hC hG=>eB _ _ xs w' hG (cH (aH (n:=7) rfl w' hC) t7))<|Mv rfl<|Ext rfl rfl<|Ext rfl rfl<|Al 3 hGF zv52<|fun b3=>Sa 3 hGF rfl rfl rfl bJ<|Asg rfl<|aa<|ae (E:=EE [1000022])<|La 3 rfl rfl bJ<|Sa 2 hGF rfl rfl rfl bJ<|aa<|am<|Rr<|?_
 exact av 2 rfl rfl rfl isAgg52 sizeOf52 sm (fun w hw=>⟨rfl,ac hw⟩)
end J2
end
section
def i3a(a b c:W2):W2:=sb2 (ml2 a a) (xi2 (ml2 b c))
def i3b(a b c:W2):W2:=sb2 (xi2 (ml2 c c)) (ml2 a b)
def i3c(a b c:W2):W2:=sb2 (ml2 b b) (ml2 a c)
def i3n(a b c:W2):W2:=ad2 (ml2 a (i3a a b c)) (xi2 (ad2 (ml2 c (i3b a b c)) (ml2 b (i3c a b c))))
theorem Uq(a b c:W2):i3a a b c=(nX R2 XI (a,b,c)).1:=zq R2 [a,b,c,XI] (tsb (tm j0 j0) (txi 3 (tm j1 j2) rfl)) (ta (tm j0 j0) (tn (tm j3 (tm j1 j2))))
theorem Uf(a b c:W2):i3b a b c=(nX R2 XI (a,b,c)).2.1:=zq R2 [a,b,c,XI] (tsb (txi 3 (tm j2 j2) rfl) (tm j0 j1)) (ta (tm j3 (tm j2 j2)) (tn (tm j0 j1)))
theorem Ui(a b c:W2):i3c a b c=(nX R2 XI (a,b,c)).2.2:=zq R2 [a,b,c,XI] (tsb (tm j1 j1) (tm j0 j2)) (ta (tm j1 j1) (tn (tm j0 j2)))
theorem TL(a b c:W2):i3n a b c=cnm R2 XI (a,b,c):=zq R2 [a,b,c,XI] (ta (tm j0 (tsb (tm j0 j0) (txi 3 (tm j1 j2) rfl))) (txi 3 (ta (tm j2 (tsb (txi 3 (tm j2 j2) rfl) (tm j0 j1))) (tm j1 (tsb (tm j1 j1) (tm j0 j2)))) rfl)) (ta (tm j0 (ta (tm j0 j0) (tn (tm j3 (tm j1 j2))))) (tm j3 (ta (tm j2 (ta (tm j3 (tm j2 j2)) (tn (tm j0 j1)))) (tm j1 (ta (tm j1 j1) (tn (tm j0 j2)))))))
def iv6(x:W6):W6:=(ml2 (i3a x.1 x.2.1 x.2.2) (iv2 (i3n x.1 x.2.1 x.2.2)),ml2 (i3b x.1 x.2.1 x.2.2) (iv2 (i3n x.1 x.2.1 x.2.2)),ml2 (i3c x.1 x.2.1 x.2.2) (iv2 (i3n x.1 x.2.1 x.2.2)))
theorem Lv{x:W6}(h:x≠K6.zero):K6.mul x (iv6 x)=K6.one:=by
 have hn:cnm R2 XI x≠ze2:=fun e=>h (xN fd2 CY e)
 have hi:R2.mul (cnm R2 XI x) (iv2 (cnm R2 XI x))=R2.one:=dh hn
 have e:=Ce (R:=R2) (z:=XI) x hi
 unfold iv6
 rw[Uq,Uf,Ui,TL]
 exact e
def vn(x:W12):W12:=K12.mul (x.1,K6.neg x.2) (iv6 (qnm K6 VV x),K6.zero)
theorem Wk{α:Type}(R:Rg α)(z a b:α):If R z (a,R.zero) (b,R.zero)=(R.mul a b,R.zero):=Prod.ext (zx R [a,b,z] 0x456758511 0x567) (zx R [a,b,z] 0x4561517 0x1)
theorem Iu{x:W12}(h:x≠K12.zero):K12.mul x (vn x)=K12.one:=by
 have hn:qnm K6 VV x≠K6.zero:=fun e=>h (DV fd6 UP e)
 have e:=TT K6 VV x
 rw[vn,←K12.mul_assoc]
 show K12.mul (If K6 VV x (x.1,K6.neg x.2)) (iv6 (qnm K6 VV x),K6.zero)=K12.one
 rw[e]
 show If K6 VV (qnm K6 VV x,K6.zero) (iv6 (qnm K6 VV x),K6.zero)=K12.one
 rw[Wk,Lv hn]
 rfl
/-! ### Six parts turned -/
/-! ### Powers by bits, in any ring -/
theorem Rg.bt_y{α:Type}(R:Rg α)(x:α){n m:Nat}(h:m=2*n+1):R.mul (R.mul (R.pw x n) (R.pw x n)) x=R.pw x m:=by
 rw[←R.pw_add,h,Nat.two_mul];rfl
theorem Rg.bt_n{α:Type}(R:Rg α)(x:α){n m:Nat}(h:m=2*n):R.mul (R.pw x n) (R.pw x n)=R.pw x m:=by
 rw[←R.pw_add,h,Nat.two_mul]
end
section
def sb6(x y:W6):W6:=(sb2 x.1 y.1,sb2 x.2.1 y.2.1,sb2 x.2.2 y.2.2)
def sc6(x:W6)(c:W2):W6:=(ml2 x.1 c,ml2 x.2.1 c,ml2 x.2.2 c)
def v6(x:W6):W6:=(xi2 x.2.2,x.1,x.2.1)
theorem zu(x y:W6):sb6 x y=K6.add x (K6.neg y):=Prod.ext (nT _ _) (Prod.ext (nT _ _) (nT _ _))
theorem JQ(x:W6)(c:W2):K6.mul x (c,ze2,ze2)=sc6 x c:=Prod.ext (zx R2 [x.1,x.2.1,x.2.2,c,XI] 0x45695a4571581 0x569) (Prod.ext (zx R2 [x.1,x.2.1,x.2.2,c,XI] 0x445615795a581 0x579) (zx R2 [x.1,x.2.1,x.2.2,c,XI] 0x44561571589 0x589))
theorem Ba(x:W6):K6.mul x VV=v6 x:=Prod.ext (zq R2 [x.1,x.2.1,x.2.2,XI] (ta (tm j0 tz0) (tm j3 (ta (tm j1 tz0) (tm j2 to1)))) (txi 3 j2 rfl)) (Prod.ext (zx R2 [x.1,x.2.1,x.2.2,XI] 0x4456257159581 0x6) (zx R2 [x.1,x.2.1,x.2.2,XI] 0x44561572581 0x7))
def r6(x:W6):W12:=(x,K6.zero)
theorem QW(x y:W6):K12.mul (r6 x) (r6 y)=r6 (K6.mul x y):=Wk K6 VV x y
theorem Fs(x:W6)(c:W2):K12.mul (r6 x) (em c)=r6 (sc6 x c):=by
 rw[←JQ];exact QW x (c,ze2,ze2)
/-! ### The chapter's examples -/
end
section
section
variable {α β:Type} {C:Ec α} {D:Ec β} (T:Hw C D)
theorem Hw.f1:T.f C.R.one=D.R.one:=by
 have e:D.R.mul (T.f C.R.one) (D.sub (T.f C.R.one) D.R.one)=D.R.zero:=by
  have k:=T.fm C.R.one C.R.one
  rw[C.R.mul_one]at k
  exact zk D.R [T.f C.R.one] 0x564632 0x1 0x32 0x566 0x6 k
 exact D.sub0 ((D.fd.two e).resolve_left fun h=>C.one_ne (T.fi _ h))
def Hw.fj(A:α×α×α):β×β×β:=(T.f A.1,T.f A.2.1,T.f A.2.2)
theorem Hw.jd_f(X Y Z:α):D.jd (T.f X) (T.f Y) (T.f Z)=T.fj (C.jd X Y Z):=by
 simp only[Ec.jd,Hw.fj,T.fs,T.fm,T.fa]
theorem Hw.ja_f(X Y Z X' Y' Z':α):D.ja (T.f X) (T.f Y) (T.f Z) (T.f X') (T.f Y') (T.f Z')=T.fj (C.ja X Y Z X' Y' Z'):=by
 simp only[Ec.ja,Hw.fj,T.fs,T.fm]
theorem Hw.js_f(x y:α): ∀(l:List Bool) (A:α×α×α),D.js (T.f x) (T.f y) l (T.fj A)=T.fj (C.js x y l A)
 |[],_=>rfl
 |false::r,A=>by
  show D.js (T.f x) (T.f y) r (D.jd (T.f A.1) (T.f A.2.1) (T.f A.2.2))=T.fj (C.js x y r (C.jd A.1 A.2.1 A.2.2))
  rw[T.jd_f]
  exact Hw.js_f x y r _
 |true::r,A=>by
  show D.js (T.f x) (T.f y) r (D.ja (D.jd (T.f A.1) (T.f A.2.1) (T.f A.2.2)).1 (D.jd (T.f A.1) (T.f A.2.1) (T.f A.2.2)).2.1 (D.jd (T.f A.1) (T.f A.2.1) (T.f A.2.2)).2.2 (T.f x) (T.f y) D.R.one)=T.fj (C.js x y r (C.ja (C.jd A.1 A.2.1 A.2.2).1 (C.jd A.1 A.2.1 A.2.2).2.1 (C.jd A.1 A.2.1 A.2.2).2.2 x y C.R.one))
  rw[T.jd_f,←T.f1]
  exact (congrArg (D.js (T.f x) (T.f y) r) (T.ja_f _ _ _ _ _ _)).trans (Hw.js_f x y r _)
theorem Hw.js_ne(x y:α)(l:List Bool)(h:(C.js x y l (x,y,C.R.one)).2.2≠C.R.zero):(D.js (T.f x) (T.f y) l (T.f x,T.f y,D.R.one)).2.2≠D.R.zero:=fun e=>h (T.fi _ (by
 have k:=T.js_f x y l (x,y,C.R.one)
 have k2:D.js (T.f x) (T.f y) l (T.f x,T.f y,D.R.one)=T.fj (C.js x y l (x,y,C.R.one)):=by rw[←k,←T.f1];rfl
 rw[k2]at e
 exact e))
end
/-! ### Over p^12 -/
def E12:Ec W12 where
 R:=K12
 iv:=vn
 b:=em (zp 4,zp 4)
 hi:=fun _ h=>Iu h
 h2:=by decide+kernel
 h3:=by decide+kernel
 hb:=by decide+kernel
theorem IR(a b:W2):em (ad2 a b)=K12.add (em a) (em b):=Prod.ext (Prod.ext rfl (Prod.ext (R2.add_zero _).symm (R2.add_zero _).symm)) (Prod.ext (R2.add_zero _).symm (Prod.ext (R2.add_zero _).symm (R2.add_zero _).symm))
theorem u0(a:W2):em (ng2 a)=K12.neg (em a):=Prod.ext (Prod.ext rfl (Prod.ext R2.neg_zero.symm R2.neg_zero.symm)) (Prod.ext R2.neg_zero.symm (Prod.ext R2.neg_zero.symm R2.neg_zero.symm))
theorem CM{a:W2}(h:em a=K12.zero):a=ze2:=congrArg (fun x:W12=>x.1.1) h
def HE:Hw E2w E12 where
 f:=em
 w:=K12.one
 fa:=IR
 fm:=fun a b=>(fL a b).symm
 fn:=u0
 f0:=rfl
 fi:=fun _ h=>CM h
 wn:=by decide+kernel
 wb:=by decide+kernel
def WW:W12:=(K6.zero,K6.one)
def re2(a:Zp):W2:=(a,0)
theorem LX(a b:Zp):re2 (a+b)=ad2 (re2 a) (re2 b):=bO rfl (by show (0:Zp)=0+0;exact (wR 0).symm)
theorem Cv(a b:Zp):re2 (a*b)=ml2 (re2 a) (re2 b):=bO (by show a*b=a*b-0*0;rw[i1,Pj]) (by show (0:Zp)=a*0+0*b;rw[i1,qz,wR])
theorem K5(a:Zp):re2 (-a)=ng2 (re2 a):=bO rfl (by show (0:Zp)= -0;exact z_n0'.symm)
theorem rm{a:Zp}(h:re2 a=ze2):a=0:=congrArg Prod.fst h
def HB:Hw E1 E12 where
 f:=fun a=>em (re2 a)
 w:=WW
 fa:=fun a b=>by show em (re2 (a+b))=_;rw[LX,IR];rfl
 fm:=fun a b=>by show em (re2 (a*b))=_;rw[Cv,←fL];rfl
 fn:=fun a=>by show em (re2 (-a))=_;rw[K5,u0];rfl
 f0:=rfl
 fi:=fun _ h=>rm (CM h)
 wn:=by decide+kernel
 wb:=by decide+kernel
theorem WW2:K12.mul WW WW=r6 VV:=by decide+kernel
theorem U2(c:W2):sc6 VV c=(ze2,c,ze2):=Prod.ext (R2.zero_mul c) (Prod.ext (R2.one_mul c) (R2.zero_mul c))
theorem WQ(c:W2):K12.mul (K12.mul WW WW) (em c)=r6 (ze2,c,ze2):=by rw[WW2,Fs,U2]
theorem XU(x:W6):K12.mul WW (r6 x)=(K6.zero,x):=by
 refine Prod.ext ?_ ?_
 ·show K6.add (K6.mul K6.zero x) (K6.mul VV (K6.mul K6.one K6.zero))=K6.zero
  rw[K6.zero_mul,K6.mul_zero,K6.mul_zero,K6.add_zero]
 ·show K6.add (K6.mul K6.zero K6.zero) (K6.mul K6.one x)=x
  rw[K6.zero_mul,K6.zero_add,K6.one_mul]
theorem WW_y(c:W2):K12.mul (K12.mul WW (K12.mul WW WW)) (em c)=(K6.zero,(ze2,c,ze2)):=by rw[K12.mul_assoc,WQ,XU]
theorem Py(S:Pt W2)(S':Pt Zp)(_:E2w.onP S)(h':E1.onP S')(h:HE.p S=HB.p S'):S'=none:=by
 cases S' with
 |none=>rfl
 |some q=>
  cases S with
  |none=>cases h
  |some s=>
   exfalso
   have h:HE.m s=HB.m q:=Option.some.inj h
   have hx:K12.mul (K12.mul K12.one K12.one) (em s.1)=K12.mul (K12.mul WW WW) (em (re2 q.1)):=congrArg Prod.fst h
   have hy:K12.mul (K12.mul K12.one (K12.mul K12.one K12.one)) (em s.2)=K12.mul (K12.mul WW (K12.mul WW WW)) (em (re2 q.2)):=congrArg Prod.snd h
   rw[WQ,K12.one_mul,K12.one_mul]at hx
   rw[WW_y,K12.one_mul,K12.one_mul,K12.one_mul]at hy
   have x0:q.1=0:=rm (congrArg (fun x:W12=>x.1.2.1) hx).symm
   have y0:q.2=0:=rm (congrArg (fun x:W12=>x.2.2.1) hy).symm
   have k:q.2*q.2=q.1*(q.1*q.1)+zp 4:=h'
   rw[x0,y0]at k
   exact absurd k (by decide+kernel)
def AX:W2:=(zp 2,0)
def AY:W2:=(zp 0x18c6b864ae17dc9da64203ffefb966306425a7bc6aeb7c75247438372716284a4173830420cd476ba1a365b95bfcec38,zp 0x172e93db764a8400a7d5071b6b6f5de0da2f0f4a063119abca014006b7c40a2cfe291a1924e65db0d6d0fcfbf3bf3d5c)
theorem A_on:E2w.on (AX,AY):=by
 unfold Ec.on
 decide+kernel
def l12:List Bool:=(cU 255 ORD []).tail
theorem ZW:fT l12 1=ORD:=by decide+kernel
theorem aaD:2*mB l12 1<((ORD-1) / 2)*(ORD*ORD):=by decide+kernel
theorem ZH:2*((ORD-1) / 2)<ORD:=by decide+kernel
theorem A_1:(E2w.js AX AY l12 (AX,AY,on2)).2.2≠ze2:=by decide+kernel
theorem A_2:(E2w.js AX (ng2 AY) l12 (AX,ng2 AY,on2)).2.2≠ze2:=by decide+kernel
theorem Gh(s:W2×W2):HE.m s=(em s.1,em s.2):=by
 refine Prod.ext ?_ ?_
 ·show K12.mul (K12.mul K12.one K12.one) (em s.1)=em s.1
  rw[K12.one_mul,K12.one_mul]
 ·show K12.mul (K12.mul K12.one (K12.mul K12.one K12.one)) (em s.2)=em s.2
  rw[K12.one_mul,K12.one_mul,K12.one_mul]
theorem Km:E12.on (em AX,em AY):=by
 have h:=HE.m_on A_on
 rw[Gh]at h
 exact h
theorem NS:(some G2p:Pt W2)≠none:=fun h=>by cases h
theorem zA:E2w.onP (some G2p):=Fv
theorem Q8{l:List Bool}{r h:Nat}(hr:Pr r)(hl:fT l 1=r)(hM:2*mB l 1<h*(r*r))(hh:2*h<r)(n1:(E2w.js AX AY l (AX,AY,on2)).2.2≠ze2)(n2:(E2w.js AX (ng2 AY) l (AX,ng2 AY,on2)).2.2≠ze2)(g1:E1.times (some G1p) r=none)(g2:E2w.times (some G2p) r=none){P:Pt W2}(hP:E2w.onP P)(hp:E2w.times P r=none): ∃e,P=E2w.times (some G2p) e:=by
 have m2:=HE.js_ne AX (ng2 AY) l n2
 have en:em (ng2 AY)=E12.R.neg (em AY):=u0 AY
 have m2':(E12.js (em AX) (em (ng2 AY)) l (em AX,em (ng2 AY),E12.R.one)).2.2≠E12.R.zero:=m2
 rw[en]at m2'
 exact JS HE HB Py (fun _ h0 h1=>uR hr h0 h1) zA hP kG g2 hp g1 NS IP hl Km (HE.js_ne AX AY l n1) m2' hh hM
theorem Rh{P:Pt W2}(hP:E2w.onP P)(h:E2w.times P ORD=none): ∃e,P=E2w.times (some G2p) e:=Q8 tU ZW aaD ZH A_1 A_2 lH xE hP h
end
section
section
variable {α:Type} [DecidableEq α] (C:Ec α)
theorem Ec.line{c x y:α}(hc:C.R.add (C.R.add (C.R.mul c c) c) C.R.one=C.R.zero)(hp:C.on (x,y))(hq:C.on (C.R.mul c x,y)):C.ad (C.ad (some (x,y)) (some (C.R.mul c x,y))) (some (C.R.mul c (C.R.mul c x),y))=none:=by
 have ho: ¬C.opp (x,y) (C.R.mul c x,y):=by
  intro h
  have h1:x=C.R.mul c x:=h.1
  have hy:y=C.R.zero:=C.dbl0 h.2
  have e:C.R.mul (C.R.add (C.R.add C.R.one C.R.one) C.R.one) x=C.R.zero:=zl C.R [x,y,c] 0x5442226 0x4561544228586 0x1 0x45644588825442286 (lca (lcm hc) (lcm h1))
  have hx:x=C.R.zero:=(C.fd.two e).resolve_left C.h3
  subst hx hy
  have k:C.R.mul C.R.zero C.R.zero=C.R.add (C.R.mul C.R.zero (C.R.mul C.R.zero C.R.zero)) C.b:=hp
  rw[C.R.mul_zero,C.R.mul_zero,C.R.zero_add]at k
  exact C.hb k.symm
 have hs:C.Sl (x,y) (C.R.mul c x,y) C.R.zero:=by
  refine ⟨?_, ?_⟩
  ·show C.R.mul C.R.zero (C.R.add x (C.R.neg (C.R.mul c x)))=C.R.add y (C.R.neg y)
   exact zx C.R [x,y,c] 0x51463586 0x4737
  ·show C.R.mul C.R.zero (C.R.add y y)=C.R.add (C.R.add (C.R.mul x x) (C.R.mul x (C.R.mul c x))) (C.R.mul (C.R.mul c x) (C.R.mul c x))
   exact zk C.R [x,y,c] 0x51477 0x44566565865586586 0x3566 0x1 0x4458882 hc
 rw[C.ad_sl hp hq ho hs]
 refine C.ad_opp ⟨?_, ?_⟩
 ·show C.R.add (C.R.add (C.R.mul C.R.zero C.R.zero) (C.R.neg x)) (C.R.neg (C.R.mul c x))=C.R.mul c (C.R.mul c x)
  exact zk C.R [x,y,c] 0x44511363586 0x58586 0x36 0x1 0x4458882 hc
 ·show C.R.add (C.R.add (C.R.mul C.R.zero _) (C.R.neg y)) y=C.R.zero
  rw[C.R.zero_mul,C.R.zero_add,C.R.add_comm,C.R.add_neg]
variable {C} (T:Tw C)
theorem Hw.psi_in{P:Pt α}(hP:C.onP P)(line:C.ad (C.ad P (C.ne (T.p (T.p P)))) (T.p (T.p (T.p (T.p P))))=none){U r:Nat}(hU:r+U*U=(U*U)*(U*U)+1)(h:C.ne (C.times P U)=T.p P):C.times P r=none:=by
 have two: ∀{Q:Pt α},C.onP Q→C.ne (C.times Q U)=T.p Q→T.p (T.p Q)=C.times Q (U*U):=fun {Q} hQ hq=>by
  rw[←hq,T.p_ne,T.p_times hQ,←hq,C.times_ne (C.times_on hQ U),C.ne_ne,C.times_mul hQ]
 have e2:=two hP h
 have hV:=C.times_on hP (U*U)
 have h4:C.ne (C.times (C.times P (U*U)) U)=T.p (C.times P (U*U)):=by
  rw[T.p_times hP,←h,C.times_ne (C.times_on hP U),C.times_swap hP]
 have e4:=two hV h4
 rw[←C.times_mul hP]at e4
 rw[e2,e4]at line
 generalize U*U=V at*
 have hS:=C.times_on hP (V*V)
 have e3:C.ad (C.times P r) (C.times P V)=C.ad (C.times P (V*V)) P:=by rw[←C.times_add hP,hU];rfl
 have e5:C.ad (C.ad (C.times P r) (C.times P V)) (C.ne (C.times P V))=C.times P r:=by
  rw[C.ad_assoc (C.times_on hP r) hV (C.ne_on hV),C.ad_ne,C.ad_nr]
 rw[←e5,e3,C.ad_assoc hS hP (C.ne_on hV),C.ad_comm hS (C.ad_on hP (C.ne_on hV)),line]
theorem Hw.psi_out{G:Pt α}(hG:C.onP G){U:Nat}(h:C.ne (C.times G U)=T.p G)(e:Nat):C.ne (C.times (C.times G e) U)=T.p (C.times G e):=by
 rw[T.p_times hG,←h,C.times_ne (C.times_on hG U),C.times_swap hG e U]
end
/-! ### The second curve -/
def PW:W2:=(zp 0x5b2cfd9013a5fd8df47fa6b48b1e045f39816240c0b8fee8beadf4d8e9c0566c63a3e6e257f87329b18fae980078116,zp 0x5b2cfd9013a5fd8df47fa6b48b1e045f39816240c0b8fee8beadf4d8e9c0566c63a3e6e257f87329b18fae980078116)
def TXn:Nat:=0x1a0111ea397fe699ec02408663d4de85aa0d857d89759ad4897d29650fb85f9b409427eb4f49fffd8bfd00000000aaad
def TY0:Nat:=0x135203e60180a68ee2e9c448d77a2cd91c3dedd930b1cf60ef396489f61eb45e304466cf3e67fa0af1ee7b04121bdea2
def TY1:Nat:=0x6af0e0437ff400b6831e36d6bd17ffe48395dabc2d3435e77f76e17009241c5ee67992f72ec05f4c81084fbede3cc09
def TX2:W2:=(0,zp TXn)
def TY2:W2:=(zp TY0,zp TY1)
theorem PW_2:ml2 PW PW=TX2:=by decide+kernel
theorem PW_3:ml2 PW (ml2 PW PW)=TY2:=by decide+kernel
theorem NI(x:W2):cj2 (ng2 x)=ng2 (cj2 x):=rfl
theorem wz{x:W2}(h:cj2 x=ze2):x=ze2:=by
 have h1:x.1=0:=congrArg Prod.fst h
 have h2: -x.2=0:=congrArg Prod.snd h
 exact bO h1 (m6.1 h2)
def TW2:Tw E2w where
 f:=cj2
 w:=PW
 fa:=Mx
 fm:=gx
 fn:=NI
 f0:=by decide+kernel
 fi:=fun _ h=>wz h
 wn:=by decide+kernel
 wb:=by decide+kernel
theorem AU(q:W2×W2):TW2.m q=(ml2 TX2 (cj2 q.1),ml2 TY2 (cj2 q.2)):=by
 refine Prod.ext ?_ ?_
 ·show ml2 (ml2 PW PW) (cj2 q.1)=ml2 TX2 (cj2 q.1)
  rw[PW_2]
 ·show ml2 (ml2 PW (ml2 PW PW)) (cj2 q.2)=ml2 TY2 (cj2 q.2)
  rw[PW_3]
def TR2:W2:=ml2 TX2 (cj2 TX2)
theorem KY:ad2 (ad2 (ml2 TR2 TR2) TR2) on2=ze2:=by decide+kernel
theorem aal:ml2 TY2 (cj2 TY2)=ng2 on2:=by decide+kernel
theorem E9(x:W2):cj2 (cj2 x)=x:=bO rfl (by show- -x.2=x.2;generalize x.2=a;grind)
theorem N9(q:W2×W2):TW2.m (TW2.m q)=(ml2 TR2 q.1,ng2 q.2):=by
 rw[AU,AU]
 refine Prod.ext ?_ ?_
 ·show ml2 TX2 (cj2 (ml2 TX2 (cj2 q.1)))=ml2 (ml2 TX2 (cj2 TX2)) q.1
  rw[gx,E9]
  exact (R2.mul_assoc _ _ _).symm
 ·show ml2 TY2 (cj2 (ml2 TY2 (cj2 q.2)))=ng2 q.2
  rw[gx,E9]
  refine (R2.mul_assoc _ _ _).symm.trans ?_
  show ml2 (ml2 TY2 (cj2 TY2)) q.2=ng2 q.2
  rw[aal]
  refine (R2.neg_mul _ _).trans ?_
  exact congrArg ng2 (R2.one_mul q.2)
theorem xV{P:Pt W2}(hP:E2w.onP P):E2w.ad (E2w.ad P (E2w.ne (TW2.p (TW2.p P)))) (TW2.p (TW2.p (TW2.p (TW2.p P))))=none:=by
 cases P with
 |none=>rfl
 |some q=>
  have e2: ∀s:W2×W2,TW2.p (TW2.p (some s))=some (ml2 TR2 s.1,ng2 s.2):=fun s=>congrArg some (N9 s)
  have o2:E2w.onP (TW2.p (TW2.p (some q))):=TW2.p_on (TW2.p_on hP)
  rw[e2]at o2
  have nn: ∀a:W2,ng2 (ng2 a)=a:=R2.neg_neg
  have on3:=E2w.ne_on o2
  rw[show E2w.ne (some (ml2 TR2 q.1,ng2 q.2))=some (ml2 TR2 q.1,ng2 (ng2 q.2))from rfl,nn]at on3
  rw[e2,e2,show E2w.ne (some (ml2 TR2 q.1,ng2 q.2))=some (ml2 TR2 q.1,ng2 (ng2 q.2))from rfl,nn]
  show E2w.ad (E2w.ad (some (q.1,q.2)) (some (ml2 TR2 q.1,q.2))) (some (ml2 TR2 (ml2 TR2 q.1),q.2))=none
  exact E2w.line KY hP on3
def sk:W6:=E2w.jm (G2p.1,G2p.2,on2) (cU 64 UG []) (ze2,ze2,ze2)
theorem Ls:E2w.jm (G2p.1,G2p.2,on2) (cU 64 UG []) (E2w.R.zero,E2w.R.zero,E2w.R.zero)=sk:=by unfold sk;rfl
theorem ug64:ls (cU 64 UG []) 0=UG:=by decide+kernel
theorem Tt:sk.2.2≠ze2∧sk.1=ml2 (ml2 TX2 (cj2 G2p.1)) (ml2 sk.2.2 sk.2.2)∧sk.2.1=ml2 (ng2 (ml2 TY2 (cj2 G2p.2))) (ml2 (ml2 sk.2.2 sk.2.2) sk.2.2):=by decide+kernel
theorem G2_u:E2w.times (some G2p) UG=some (ml2 TX2 (cj2 G2p.1),ng2 (ml2 TY2 (cj2 G2p.2))):=Oq E2w (P:=some G2p) Fv O4 (cU 64 UG []) ug64 Ls Tt.1 Tt.2.1 Tt.2.2
theorem NM:E2w.ne (E2w.times (some G2p) UG)=TW2.p (some G2p):=by
 rw[G2_u]
 refine congrArg some ((Prod.ext rfl ?_:_=(ml2 TX2 (cj2 G2p.1),ml2 TY2 (cj2 G2p.2))).trans (AU G2p).symm)
 show ng2 (ng2 (ml2 TY2 (cj2 G2p.2)))=ml2 TY2 (cj2 G2p.2)
 exact R2.neg_neg _
theorem ZV{P:Pt W2}(hP:E2w.onP P):E2w.ne (E2w.times P UG)=TW2.p P↔E2w.times P ORD=none:=by
 constructor
 ·exact fun h=>TW2.psi_in hP (xV hP) Jt h
 ·intro h
  obtain ⟨e,rfl⟩:=Rh hP h
  exact TW2.psi_out zA NM e
end
section
open Go.RowKit
theorem ent242:ak prog 242:=fun _ _=>kr
namespace J2
attribute [local simp] a7 bv aJ aB aQ a5 aT aK aO bf bC a6 bz
attribute [local simp] bE
def pb(bs:L8)(m:Nat):Bool:=decide (dU bs m=1#8)
abbrev oB(bs:L8)(m:Nat):List Nat:=oL (pb bs) (8*bs.length) m
def NLs(l:List Nat):List (List Value):=l.map fun n:Nat=>[I (n:Int)]
theorem m3(l:List Nat):(NLs l).length=l.length:=by simp[NLs]
theorem wO(bs:L8)(i j:Nat)(hj:j<8):bs.getD i 0>>>(7-j) &&& 1#8=dU bs (8*i+j):=by
 rw[dU,show (8*i+j) / 8=i by omega,show (8*i+j) % 8=j by omega]
theorem yA{bs:L8}{m:Nat}(h:dU bs m=1#8):pb bs m=true:=decide_eq_true h
theorem HT{bs:L8}{m:Nat}(h: ¬dU bs m=1#8): ¬pb bs m=true:=fun e=>h (of_decide_eq_true e)
theorem HC{bs:L8}{m:Nat}(hm:m<8*bs.length)(h:dU bs m=1#8):(NLs (oB bs (8*bs.length)))[(oB bs m).length]? =some [I ((8*bs.length-1-m:Nat):Int)]:=by
 rw[NLs,List.getElem?_map,NR hm (yA h)]
 rfl
theorem RX{bs:L8}{m:Nat}(h:dU bs m=1#8):(oB bs (m+1)).length=(oB bs m).length+1:=Qi (yA h)
theorem Vr{bs:L8}{m:Nat}(h: ¬dU bs m=1#8):(oB bs (m+1)).length=(oB bs m).length:=P3 (HT h)
theorem HG(bs:L8): ∀m,vN (pb bs) m=BTn bs m
 |0=>rfl
 |m+1=>by
  rw[vN,HG bs m,BTn]
  rcases np bs m with ⟨h,e⟩|⟨h,e⟩
  ·rw[if_pos (yA h),e]
  ·rw[if_neg (HT h),e]
theorem yZ(bs:L8):SOg (oB bs (8*bs.length))=BN bs bs.length:=by rw[zH,HG,gM]
theorem qQ{bb:Nat}{e:Option Addr}{cap:Nat}{bs:L8}{w w':World}(h:RdD bb e cap bs w)(hg:Grow w w'):RdD bb e cap bs w':=⟨(hg.cell (block_lt_of_cell h.1)).trans h.1,h.2.grow hg⟩
theorem kq(sv:Value)(hs:sv.cells= #[sv])(w:World)(hw:Gt w):CLS 207 [sv].toArray w (fun e w'=> ∃b1,e=.returned (.func (.func 242) #[] #[pnt b1])∧Grow w w'∧w.heap.size≤b1∧OwnB w' b1 [sv] 22):=by
 refine Hf func207 rfl hw<|fun hGF=>Xp<|i9 1 hGF rfl rfl rfl<|fun b1=>Asg rfl<|aa<|Xp<|gz rfl rfl rfl rfl<|Asg rfl<|aa<|am<|Rr<|?_
 exact aG rfl rfl (fun w hw=>⟨b1,rfl,ac hw,(hw.own 1 b1 _ _ rfl).2.elim id False.elim,(by have:=(hw.own 1 b1 _ _ rfl).1;rw[hs]at this;exact this)⟩)
theorem my(bb:Nat)(e:Option Addr)(cap:Nat)(bs:L8)(hlen:bs.length≤1000000):fV prog Gt 242 [pnt bb] (NLs (oB bs (8*bs.length))) (RdD bb e cap bs):=by
 intro l J Jx hJ hJx hRd hGx hY w hj
 have okJ: ∀k,BOk Gt (Bi w (fun Y=>J Y k)):=fun k=>⟨fun _ _ _ h=>(hRd _ _ _ h.rid).1,hJ k⟩
 have okX: ∀k,BOk Gt (Bi w (fun Y=>Jx Y k)):=fun k=>⟨fun _ _ _ h=>hGx _ _ _ h.rid,hJx k⟩
 have c1: ∀k L w',Hp (Bi w (fun Y=>J Y k)) L w'→RdD bb e cap bs w':=fun k L w' h=>(hRd _ _ _ h.rid).2
 have hby:=(hRd _ _ _ hj).2.2
 refine cx (G:=Gt) func242 rfl rfl (Hp (Bi w (fun Y=>J Y 0)) []) (cm (Bi w _) hj (hJ 0)) (aA (okJ 0))<|Xp<|bT rfl isAgg22 (fun w h=>(c1 _ _ w h).1) rfl rfl<|bi rfl (fun _=>aI underlying22 _ _ _ _) rfl rfl<|Mv rfl<|aa<|ai<|gQ (ι:={i:Nat // i≤bs.length}) (fun x=>[(0,.func (.yield l) #[] #[]),(1,pnt bb),(6,.slice e bs.length cap),(7,I (bs.length:Int)),(8,I (x.1:Int))]) (fun x=>Bi w (fun Y=>J Y (oB bs (8*x.1)).length)) (fun x=>[]) (fun x=>bs.length-x.1) ⟨0,Nat.zero_le _⟩ (fun _=>okJ _) rfl trv trivial<|?_
 rintro ⟨i,hi⟩
 dsimp only
 refine Xp<|Bnr rfl rfl (fun _=>az _ _ _)<|aa<|ah<|?_
 refine bG rfl (fun hc=> ?_) (fun hc=> ?_)
 ·have hi2:i<bs.length:=by simp at hc;omega
  refine aq<|ah<|ai<|Xp<|Mv rfl<|?_
  obtain ⟨ad,rfl,_⟩:=hby i _ (gm U8 bs 0 i om)
  refine gY i rfl rfl underlying22 sizeOf5 rfl om rfl rfl<|bT rfl isAgg5 (fun w' h=>by obtain ⟨ad',e',hc'⟩:=(c1 _ _ w' h).2 i _ (gm U8 bs 0 i om);cases e';exact hc') rfl rfl<|Asg rfl<|Asg rfl<|aa<|Xp<|Asg rfl<|aa<|ai<|gQ (ι:={j:Nat // j≤8}) (fun x=>[(0,.func (.yield l) #[] #[]),(1,pnt bb),(6,.slice (some ad) bs.length cap),(7,I (bs.length:Int)),(8,I (i:Int)),(3,I (i:Int)),(4,U8 (bs.getD i 0)),(5,I (7-(x.1:Int)))]) (fun x=>Bi w (fun Y=>J Y (oB bs (8*i+x.1)).length)) (fun x=>[]) (fun x=>8-x.1) ⟨0,Nat.zero_le _⟩ (fun _=>okJ _) rfl trv trivial<|?_
  rintro ⟨j,hj⟩
  dsimp only
  by_cases h1:dU bs (8*i+j)=1#8
  ·refine ah<|Xp<|Mv rfl<|Bnr (v:=.bool (decide (j<8))) rfl rfl (fun _=>(df _ _ _).trans (by rw[show decide ((7-(j:Int))≥0)=decide (j<8)from decide_eq_decide.2 om]))<|aa<|?_
   refine bG rfl (fun hc=> ?_) (fun hc=> ?_)
   ·have hj2:j<8:=by simpa using hc
    refine aq<|ah<|ai<|Xp<|Mv rfl<|Mv rfl<|Bnr (v:=U8 (bs.getD i 0>>>(7-j))) rfl rfl (fun _=>(fA _ _ _ om).trans (by rw[show (7-(j:Int)).toNat=7-j by omega]))<|Bnr (v:=U8 (dU bs (8*i+j))) rfl rfl (fun _=>(cE _ _ 1#8).trans (by rw[wO bs i j hj2]))<|Bnr (v:=.bool true) rfl rfl (fun w=>(cP _ _ _).trans (congrArg (fun b=>Result.ok (Value.bool b) w) (beq_iff_eq.2 h1)))<|Mv rfl<|Mv rfl<|bT rfl isAgg22 (fun w h=>(c1 _ _ w h).1) rfl rfl<|bi rfl (fun _=>aI underlying22 _ _ _ _) rfl rfl<|Bnr (v:=I ((bs.length:Int)-1)) rfl rfl (fun _=>aX _ _ _ oi)<|Mv rfl<|Bnr (v:=I ((bs.length-1-i:Nat):Int)) rfl rfl (fun _=>(aX _ _ _ oi).trans (by rw[show (bs.length:Int)-1-(i:Int)=((bs.length-1-i:Nat):Int) by omega]))<|Bnr (v:=I ((8*(bs.length-1-i):Nat):Int)) rfl rfl (fun _=>(bB _ _ _ oi).trans (by rw[show (8:Int)*((bs.length-1-i:Nat):Int)=((8*(bs.length-1-i):Nat):Int) by omega]))<|Mv rfl<|Bnr (v:=I ((8*bs.length-1-(8*i+j):Nat):Int)) rfl rfl (fun _=>(au _ _ _ oi).trans (by rw[show ((8*(bs.length-1-i):Nat):Int)+(7-(j:Int))=((8*bs.length-1-(8*i+j):Nat):Int) by omega]))<|?_
    refine dC (hY.b (k:=(oB bs (8*i+j)).length) (HC om h1) w) (okJ _) (okX _) rfl rfl rfl rfl rfl ?_ ?_
    ·refine bu rfl (fun _=>a9 _) rfl rfl<|Pk rfl rfl rfl<|aa<|aC rfl<|aq<|Xq<|Mv rfl<|Bnr (v:=I (7-((j+1:Nat):Int))) rfl rfl (fun _=>(aX _ _ _ oi).trans (by rw[show 7-(j:Int)-1=7-((j+1:Nat):Int) by omega]))<|Asg rfl<|aa<|?_
     repeat (refine aP ?_)
     refine aD ?_
     rw[←RX h1]
     exact ⟨rfl,⟨j+1,om⟩,_,by show 8-(j+1)<8-j;omega,rfl,trv,trivial⟩
    ·refine bu rfl (fun _=>a9 _) rfl rfl<|Pk rfl rfl rfl<|aa<|aR rfl<|am<|Rr<|?_
     repeat (first|refine dH ?_|refine cq ?_|refine dS rfl ?_|refine bP ?_|refine bR ?_)
     exact dv rfl (fun w hw=>⟨⟨_,rfl⟩,.inr ⟨_,cg (hJx _) hw.rid⟩⟩)
   ·obtain rfl:j=8:=by simp at hc;omega
    refine aW<|Xq<|Bnr rfl rfl (fun _=>au _ _ _ oi)<|Mv rfl<|aa<|?_
    repeat (refine aP ?_)
    exact aD<|⟨rfl,⟨i+1,om⟩,_,by show bs.length-(i+1)<bs.length-i;omega,rfl,trv,trivial⟩
  ·refine ah<|ae (E:=EE [3000000])<|Mv rfl<|Bnr (v:=.bool (decide (j<8))) rfl rfl (fun _=>(df _ _ _).trans (by rw[show decide ((7-(j:Int))≥0)=decide (j<8)from decide_eq_decide.2 om]))<|aa<|?_
   refine bG rfl (fun hc=> ?_) (fun hc=> ?_)
   ·have hj2:j<8:=by simpa using hc
    refine aq<|ah<|ai<|ae (E:=EE [3000000])<|Mv rfl<|Mv rfl<|Bnr (v:=U8 (bs.getD i 0>>>(7-j))) rfl rfl (fun _=>(fA _ _ _ om).trans (by rw[show (7-(j:Int)).toNat=7-j by omega]))<|Bnr (v:=U8 (dU bs (8*i+j))) rfl rfl (fun _=>(cE _ _ 1#8).trans (by rw[wO bs i j hj2]))<|Bnr (v:=.bool false) rfl rfl (fun w=>(cP _ _ _).trans (congrArg (fun b=>Result.ok (Value.bool b) w) (beq_eq_false_iff_ne.2 h1)))<|Mv rfl<|Sk<|Sk<|Sk<|Sk<|Sk<|Sk<|Sk<|Sk<|Sk<|Sk<|Sk<|Pk rfl rfl rfl<|aa<|aC rfl<|aq<|bN (E:=EE [3000000])<|Mv rfl<|Bnr (v:=I (7-((j+1:Nat):Int))) rfl rfl (fun _=>(aX _ _ _ oi).trans (by rw[show 7-(j:Int)-1=7-((j+1:Nat):Int) by omega]))<|Asg rfl<|aa<|?_
    repeat (refine aP ?_)
    refine aD ?_
    rw[←Vr h1]
    exact ⟨rfl,⟨j+1,om⟩,_,by show 8-(j+1)<8-j;omega,rfl,trv,trivial⟩
   ·obtain rfl:j=8:=by simp at hc;omega
    refine aW<|bN (E:=EE [3000000])<|Bnr rfl rfl (fun _=>au _ _ _ oi)<|Mv rfl<|aa<|?_
    repeat (refine aP ?_)
    exact aD<|⟨rfl,⟨i+1,om⟩,_,by show bs.length-(i+1)<bs.length-i;omega,rfl,trv,trivial⟩
 ·obtain rfl:i=bs.length:=by simp at hc;omega
  refine aW ?_
  repeat (first|refine dH ?_|refine cq ?_|refine dS rfl ?_|refine bP ?_|refine bR ?_)
  refine cQ rfl (fun w hw=>⟨⟨_,rfl⟩,.inl ?_⟩)
  have:=cg (hJ _) hw.rid
  rw[m3]
  exact this
theorem lm(x:W6)(n:Int)(hn:n≤1000000000):PUR 131 [EV6 x,I n] (EV6 (E2w.dbN x n.toNat)):=by
 intro w hw
 refine Hf func131 rfl hw<|fun hGF=>Xp<|Bx 2 hGF rfl<|fun b2=>Al 4 hGF o5<|fun b4=>aa<|ah<|Xp<|Mv rfl<|Mv rfl<|aa<|ai<|bL (ι:={i:Nat // i≤n.toNat}) (fun y=>[(2,pnt b2),(4,pnt b4),(5,I n),(6,I (y.1:Int))]) (fun y=>[(2,b2,((fe ((E2w.dbN x y.1).1).1++fe ((E2w.dbN x y.1).1).2)++((fe ((E2w.dbN x y.1).2.1).1++fe ((E2w.dbN x y.1).2.1).2)++(fe ((E2w.dbN x y.1).2.2).1++fe ((E2w.dbN x y.1).2.2).2))).map U64,80),(4,b4,((fe 0++fe 0)++((fe 0++fe 0)++(fe 0++fe 0))).map U64,80)]) (fun y=>n.toNat-y.1) ⟨0,Nat.zero_le _⟩ hGF trv trv<|?_
 rintro ⟨i,hi⟩
 dsimp only
 refine Xp<|Bnr (v:=.bool (decide ((i:Int)<n))) rfl rfl (fun _=>az _ _ _)<|aa<|ah<|?_
 refine bG rfl (fun hc=> ?_) (fun hc=> ?_)
 ·have hi2:i<n.toNat:=by simp at hc;omega
  refine aq<|ah<|ai<|Xq<|La 2 rfl rfl co<|Ca rfl (Gk (E2w.dbN x i))<|Sa 2 hGF rfl rfl rfl co<|aa<|Xq<|Bnr rfl rfl (fun _=>au _ _ _ oi)<|Mv rfl<|aa<|?_
  repeat (refine aP ?_)
  exact aD<|⟨rfl,⟨i+1,om⟩,_,by show n.toNat-(i+1)<n.toNat-i;omega,rfl,trv,trv⟩
 ·obtain rfl:i=n.toNat:=by simp at hc;omega
  refine aW<|Xp<|La 2 rfl rfl co<|Sa 4 hGF rfl rfl rfl co<|aa<|am<|Rr<|?_
  exact av 4 rfl rfl rfl isAgg80 sizeOf80 sm (fun w hw=>⟨rfl,ac hw⟩)
theorem Vc(x:W6)(a:Nat)(ha:a<100000000):PUR 131 [EV6 x,I (a:Int)] (EV6 (E2w.dbN x a)):=by
 have h:=lm x (a:Int) om
 rw[Int.toNat_natCast]at h
 exact h
theorem Q5(x:W6)(a b:Nat)(ha:a<100000000):PUR 131 [EV6 x,I ((a:Int)-(b:Int))] (EV6 (E2w.dbN x (a-b))):=by
 have h:=lm x ((a:Int)-(b:Int)) om
 rw[Int.toNat_sub]at h
 exact h
theorem vF{L:List Nat}{k:Nat}{v:List Value}(h:(NLs L)[k]? =some v): ∃n:Nat,L[k]? =some n∧[I (n:Int)]=v:=by
 rw[NLs,List.getElem?_map]at h
 cases e:L[k]? with
 |none=>rw[e]at h;cases h
 |some y=>rw[e]at h;exact ⟨y,rfl,Option.some.inj h⟩
theorem gB(x:W6)(gf:Nat)(caps:List Value)(L:List Nat)(Rd:Cls)(he:ak prog gf)(hseq:fV prog Gt gf caps (NLs L) Rd)(hL: ∀b∈L,b<100000000)(w:World)(hw:Gt w)(hRs: ∀w',Grow w w'→Rd w'):
 CLS 82 [EV6 x,.func (.func gf) #[] caps.toArray].toArray w (fun r w'=>r=.returned (EV6 (E2w.tmF x L))∧Grow w w'):=by
 have hGF:BOk Gt (pl w):=gt_low.plain hw
 refine cz (G:=Gt) func82 rfl rfl (Hp (pl w) []) (cm (pl w) trivial ao) (aA hGF)<|Xp<|Bx 2 hGF rfl<|fun b2=>Al 4 hGF o5<|fun b4=>aa<|Xp<|Al 5 hGF o5<|fun b5=>aa<|Xp<|iw 6 hGF zeroValue3 rfl rfl<|fun b6=>d8 6 hGF rfl rfl rfl sizeOf3 rfl (by first|decide|simp) rfl<|aa<|ah<|Xp<|Mv rfl<|aa<|ai<|?_
 refine ft (fun _=>pl w) (fun _ _=>pl w) (fun _=>hGF) (fun _ _=>hGF) (fun _=>rfl) (fun _ _=>rfl) rfl rfl he hseq (fun x hx=>by obtain ⟨k,hk,rfl⟩:=List.mem_map.1 hx;rfl) rfl (fun k=>[(2,b2,((fe ((x).1).1++fe ((x).1).2)++((fe ((x).2.1).1++fe ((x).2.1).2)++(fe ((x).2.2).1++fe ((x).2.2).2))).map U64,80),(4,b4,((fe 0++fe 0)++((fe 0++fe 0)++(fe 0++fe 0))).map U64,80),(5,b5,((fe (((E2w.stK x L k).1).1).1++fe (((E2w.stK x L k).1).1).2)++((fe (((E2w.stK x L k).1).2.1).1++fe (((E2w.stK x L k).1).2.1).2)++(fe (((E2w.stK x L k).1).2.2).1++fe (((E2w.stK x L k).1).2.2).2))).map U64,80),(6,b6,[I ((E2w.stK x L k).2:Int)],3)]) (fun _ _ _=>False) trv (fun k _ w' h=>hRs w' (h.below (fun _ h=>h))) ?_ ?_ (fun _ _ _ _ _ h=>h.elim)
 ·intro k v hx R hR
  obtain ⟨n,hn,rfl⟩:=vF hx
  have hk:k<L.length:=(List.getElem?_eq_some_iff.1 hn).1
  have hb:=E2w.stK_lt x om hL k (Nat.le_of_lt hk)
  have hn2:=hL n (List.mem_of_getElem? hn)
  refine Xq<|Asg rfl<|aa<|?_
  refine ⟨rfl,_,rfl, ?_⟩
  refine ai<|Xd []<|La 5 rfl rfl co<|cT 6 rfl rfl rfl isAgg3 rfl rfl<|Mv rfl<|Bnr (v:=I (((E2w.stK x L k).2:Int)-(n:Int))) rfl rfl (fun _=>aX _ _ _ oi)<|Ca rfl (Q5 (E2w.stK x L k).1 (E2w.stK x L k).2 n hb)<|La 2 rfl rfl co<|Ca rfl (y6 _ _)<|aw 5 (hR (pl w) rfl hGF).2.1 rfl rfl rfl sizeOf80 sm sm (be _) rfl<|aa<|Xq<|Mv rfl<|d8 6 (hR (pl w) rfl hGF).2.1 rfl rfl rfl sizeOf3 rfl (by first|decide|simp) rfl<|aa<|?_
  repeat (refine aP ?_)
  exact ⟨_,rfl,⟨rfl,rfl,by rw[E2w.stK_1 x hn];rfl,by rw[E2w.stK_2 x hn];rfl,trivial⟩⟩
 ·intro D hD
  have hb:=E2w.stK_lt x om hL L.length (Nat.le_refl _)
  rw[m3]
  refine Xp<|La 5 rfl rfl co<|cT 6 rfl rfl rfl isAgg3 rfl rfl<|Ca rfl (Vc (E2w.stK x L L.length).1 (E2w.stK x L L.length).2 hb)<|Sa 4 hD rfl rfl rfl co<|aa<|am<|Rr<|?_
  exact d9 (.inl rfl) ao (av 4 rfl rfl rfl isAgg80 sizeOf80 sm (fun w hw=>⟨rfl,ac hw⟩))
def mlB(x:W6)(bs:L8):W6:=E2w.tmF x (oB bs (8*bs.length))
theorem qU{x:W6}{P:Pt W2}(hP:E2w.onP P)(hx:E2w.jr x P){bs:L8}{m:Nat}(hm:BN bs bs.length=m):E2w.jr (mlB x bs) (E2w.times P m):=by
 subst hm
 rw[←yZ];exact E2w.tmF_jr hP hx (vV _ _ _ (Nat.le_refl _))
theorem kB(x:W6)(e:Option Addr)(cap:Nat)(bs:L8)(hlen:bs.length≤1000000)(w:World)(hw:Gt w)(hby:BytesAt w e bs):
 CLS 173 [EV6 x,.slice e bs.length cap].toArray w (fun r w'=>r=.returned (EV6 (mlB x bs))∧Grow w w'):=by
 refine Hf func173 rfl hw<|fun hGF=>ae (E:=EE [207,2000207])<|Bx 2 hGF rfl<|fun b2=>Al 4 hGF o5<|fun b4=>aa<|Xd [207,2000207]<|La 2 rfl rfl co<|Mv rfl<|?_
 refine bQ rfl rfl ent207 rfl rfl (fun w' hw'=>(kq _ rfl w' (hGF.g _ _ _ hw')).mono fun e' w'' h=> ?_)
 obtain ⟨c1,rfl,hg,h1,ho⟩:=h
 refine ⟨_,_,rfl,aA hGF,hw'.news ao hg [(33,c1,[.slice e bs.length cap],22)] ?_ bX,bU ao rfl, ?_⟩
 ·intro n' b' c' t' hl
  rcases aL hl with ⟨_,e⟩|⟨_,hl⟩
  ·cases e;exact ⟨h1,ho⟩
  ·cases hl
 clear hw' hg h1 ho
 refine Cc rfl ent82 (fun w' hC hG=>gB x 242 [pnt c1] (oB bs (8*bs.length)) (RdD c1 e cap bs) ent242 (my c1 e cap bs om) (fun b hb=>by have:=JG hb (Nat.le_refl _);omega) w' hG (fun w'' hg=>qQ ⟨cB (n:=33) rfl rfl w' hC,hby.grow (hC.below (fun _ h=>h))⟩ hg))<|Sa 4 hGF rfl rfl rfl co<|aa<|am<|Rr<|?_
 exact av 4 rfl rfl rfl isAgg80 sizeOf80 sm (fun w hw=>⟨rfl,ac hw⟩)
def TBX:L8:=[26#8,1#8,17#8,234#8,57#8,127#8,230#8,153#8,236#8,2#8,64#8,134#8,99#8,212#8,222#8,133#8,170#8,13#8,133#8,125#8,137#8,117#8,154#8,212#8,137#8,125#8,41#8,101#8,15#8,184#8,95#8,155#8,64#8,148#8,39#8,235#8,79#8,73#8,255#8,253#8,139#8,253#8,0#8,0#8,0#8,0#8,170#8,173#8]
theorem XV:FV TBX=TX2.2:=by rw[FV,if_pos ⟨rfl,by decide+kernel⟩];decide+kernel
theorem Zh{a:Zp}(ha:TX2.2=a)(s0:ByteArray)(h0:s0.data.toList=TBX.map (fun x=>UInt8.ofBitVec x)):PUR 320 [.string s0] (EV a):=by
 have h:=PK s0 TBX h0
 rw[XV,ha]at h
 exact h
def TBY:L8:=[19#8,82#8,3#8,230#8,1#8,128#8,166#8,142#8,226#8,233#8,196#8,72#8,215#8,122#8,44#8,217#8,28#8,61#8,237#8,217#8,48#8,177#8,207#8,96#8,239#8,57#8,100#8,137#8,246#8,30#8,180#8,94#8,48#8,68#8,102#8,207#8,62#8,103#8,250#8,10#8,241#8,238#8,123#8,4#8,18#8,27#8,222#8,162#8]
theorem aaf:FV TBY=TY2.1:=by rw[FV,if_pos ⟨rfl,by decide+kernel⟩];decide+kernel
theorem Yl{a:Zp}(ha:TY2.1=a)(s0:ByteArray)(h0:s0.data.toList=TBY.map (fun x=>UInt8.ofBitVec x)):PUR 320 [.string s0] (EV a):=by
 have h:=PK s0 TBY h0
 rw[aaf,ha]at h
 exact h
def UB8:L8:=[210#8,1#8,0#8,0#8,0#8,1#8,0#8,0#8]
theorem EW:BN UB8 UB8.length=UG:=by decide+kernel
theorem jf{f:W6→W6}(hf: ∀x,mlB x UB8=f x)(x:W6)(b c:Nat)(w:World)(hw:Gt w)(h:w.rangeAt b 0 (UB8.map U8)):CLS 173 [EV6 x,.slice (spt b) UB8.length c].toArray w (fun r w'=>r=.returned (EV6 (f x))∧Grow w w'):=by
 have k:=kB x (spt b) c UB8 dc w hw (BytesAt.range h)
 rw[hf]at k
 exact k
def tuJ(c d:W2)(x:W6):W6:=(ml2 (cj2 x.1) c,ml2 (cj2 x.2.1) d,cj2 x.2.2)
theorem EZ{c d:W2}{x:W6}{p:W2×W2}(hx:E2w.jr x (some p)):E2w.jr (tuJ c d x) (some (ml2 c (cj2 p.1),ml2 d (cj2 p.2))):=by
 have h1:x.1=ml2 p.1 (ml2 x.2.2 x.2.2):=hx.2.1
 have h2:x.2.1=ml2 p.2 (ml2 (ml2 x.2.2 x.2.2) x.2.2):=hx.2.2
 refine ⟨fun e=>hx.1 (wz e), ?_, ?_⟩
 ·show ml2 (cj2 x.1) c=ml2 (ml2 c (cj2 p.1)) (ml2 (cj2 x.2.2) (cj2 x.2.2))
  rw[h1,gx,gx]
  generalize cj2 p.1=a
  generalize cj2 x.2.2=z
  exact zq R2 [a,z,c] (tm (tm j0 (tm j1 j1)) j2) (tm (tm j2 j0) (tm j1 j1))
 ·show ml2 (cj2 x.2.1) d=ml2 (ml2 d (cj2 p.2)) (ml2 (ml2 (cj2 x.2.2) (cj2 x.2.2)) (cj2 x.2.2))
  rw[h2,gx,gx,gx]
  generalize cj2 p.2=a
  generalize cj2 x.2.2=z
  exact zq R2 [a,z,d] (tm (tm j0 (tm (tm j1 j1) j1)) j2) (tm (tm j2 j0) (tm (tm j1 j1) j1))
theorem vd{c d:W2}{x:W6}(hx:E2w.jr x none):E2w.jr (tuJ c d x) none:=by
 have h:x.2.2=ze2:=hx
 show cj2 x.2.2=ze2
 rw[h];exact TW2.f0
theorem IZ(p:W2×W2):TW2.p (some p)=some (ml2 TX2 (cj2 p.1),ml2 TY2 (cj2 p.2)):=congrArg some (AU p)
theorem yS{x:W6}{P:Pt W2}(hx:E2w.jr x P):E2w.jr (tuJ TX2 TY2 x) (TW2.p P):=by
 cases P with
 |none=>exact vd hx
 |some p=>rw[IZ];exact EZ hx
abbrev ngJ(x:W6):W6:=(x.1,ng2 x.2.1,x.2.2)
theorem GH{bs:L8}{m:Nat}(hm:BN bs bs.length=m){x:W6}{P:Pt W2}(hP:E2w.onP P)(hx:E2w.jr x P):E2w.eqJ (ngJ (mlB x bs)) (tuJ TX2 TY2 x)↔E2w.ne (E2w.times P m)=TW2.p P:=E2w.eqJ_iff (E2w.jr_n (qU hP hx hm)) (yS hx)
theorem mT{x:W6}{P:Pt W2}(hP:E2w.onP P)(hx:E2w.jr x P):E2w.eqJ (ngJ (mlB x UB8)) (tuJ TX2 TY2 x)↔E2w.times P ORD=none:=(GH EW hP hx).trans (ZV hP)
theorem Mu{c d:Zp}(hc:TX2.2=c)(hd:TY2.1=d)(x:W6):PUR 319 [EV6 x] (EV6 (tuJ (0,c) (d,-d) x)):=by
 intro w hw
 refine Hf func319 rfl hw<|fun hGF=>Xp<|Bx 1 hGF rfl<|fun b1=>Al 2 hGF o5<|fun b2=>aa<|Xp<|Ca rfl (Zh hc _ rfl)<|Ca rfl (Yl hd _ rfl)<|Al 3 hGF zv52<|fun b3=>Al 4 hGF zv52<|fun b4=>Sa 3 hGF rfl rfl rfl bJ<|Sa 4 hGF rfl rfl rfl bJ<|aa<|Xd []<|Fa 0 rfl underlying80 rfl sizeOf78<|ay 1 _ rfl rfl isAgg78 sizeOf78 sm ed rfl rfl<|Ca rfl (ob _)<|La 3 rfl rfl bJ<|mX gg rfl sm rfl rfl<|Ca rfl (dQ _ (0,c))<|Fa 12 rfl underlying80 rfl sizeOf78<|ay 1 _ rfl rfl isAgg78 sizeOf78 sm (kS sm) rfl rfl<|Ca rfl (ob _)<|La 4 rfl rfl bJ<|La 4 rfl rfl bJ<|Ca rfl (eo _)<|cv gg rfl rfl sm sm rfl rfl<|Ca rfl (dQ _ (d,-d))<|Fa 24 rfl underlying80 rfl sizeOf78<|ay 1 _ rfl rfl isAgg78 sizeOf78 sm (gu (m:=12) (n:=12) sm sm rfl) rfl rfl<|Ca rfl (ob _)<|ew pP rfl rfl rfl sm sm sm rfl rfl<|Sa 2 hGF rfl rfl rfl co<|aa<|am<|Rr<|?_
 exact av 2 rfl rfl rfl isAgg80 sizeOf80 sm (fun w hw=>⟨rfl,ac hw⟩)
theorem T0:((0:Zp),TX2.2)=TX2:=rfl
theorem Rz:(TY2.1,-TY2.1)=TY2:=by decide+kernel
theorem Ve{t:W6→W6}(ht: ∀x,tuJ TX2 TY2 x=t x)(x:W6):PUR 319 [EV6 x] (EV6 (t x)):=by
 have h:=Mu rfl rfl x
 rw[T0,Rz,ht]at h
 exact h
theorem Sd{f:W6→W6}(hf: ∀x,mlB x UB8=f x){t:W6→W6}(ht: ∀x,tuJ TX2 TY2 x=t x)(x:W6)(hd:Decidable (E2w.eqJ (ngJ (f x)) (t x)))(b:Bool)(hb:b=decide (E2w.eqJ (ngJ (f x)) (t x))):PUR 317 [EV6 x] (.bool b):=by
 intro w hw
 refine Hf func317 rfl hw<|fun hGF=>ae (E:=EE [1000022])<|Bx 1 hGF rfl<|fun b1=>Asg rfl<|aa<|ph (EE [2999998,2999996,1000022]) cL kr kr<|aU (m:=7) [0,5] kr<|La 1 rfl rfl co<|La 1 rfl rfl co<|aa<|aU (m:=6) [1] kr<|kt 4 UB8 hGF rfl rfl rfl rfl dc dc underlying22 sizeOf5 zeroValue5 rfl rfl<|fun b4=>aa<|aU (m:=5) [2] kr<|fx 4 rfl hGF rfl rfl underlying22 underlying5 rfl rfl<|aa<|aU (m:=0) [3,4,6,7,8] kr<|Cc rfl ent173 (fun w' hC hG=>jf hf _ _ _ w' hG (aH (n:=4) rfl w' hC))<|Ca rfl (o6 _)<|Ca rfl (Ve ht x)<|Ca rfl (jv _ _ hd b hb)<|Asg rfl<|aa<|cK kr<|aD<|am<|Rr<|?_
 exact aG rfl rfl (fun w hw=>⟨rfl,ac hw⟩)
def gInf:GP:=⟨(ze2,ze2,ze2),none,True.intro,rfl⟩
def Is(p q:GP):GP:=⟨E2w.adA p.J q.J,E2w.ad p.P q.P,E2w.ad_on p.on q.on,E2w.adA_jr p.on q.on p.jr q.jr⟩
def kT(p:GP):GP:=⟨(p.J.1,ng2 p.J.2.1,p.J.2.2),E2w.ne p.P,E2w.ne_on p.on,E2w.jr_n p.jr⟩
def K3(p:GP)(bs:L8):GP:=⟨mlB p.J bs,E2w.times p.P (BN bs bs.length),E2w.times_on p.on _,qU p.on p.jr rfl⟩
def TM(x y:W2)(h:ml2 y y=RS4 x):GP:=⟨(x,y,on2),some (x,y),gG (oz.2 h),mA (x,y)⟩
def gRt(x r:W2)(hr:ml2 r r=RS4 x)(l:Bool):GP:=TM x (sgY r l) (JL hr l)
theorem zv80(w:World):(zeroValue 80).run prog w=.ok (PtV gInf) w:=o5 w
theorem Ih{J:W6}{P:Pt W2}(h:E2w.jr J P)(hn: ¬P=none):ml2 J.1 (ml2 (iv2 J.2.2) (iv2 J.2.2))=PX P∧ml2 J.2.1 (ml2 (ml2 (iv2 J.2.2) (iv2 J.2.2)) (iv2 J.2.2))=PY P:=by
 cases P with
 |none=>exact absurd rfl hn
 |some p=>exact E2w.xy_w h (E2w.hi _ h.1)
theorem ma  :PUR 190 [] (PtV gInf):=Ij
theorem nN(p q:GP):PUR 316 [PtV p,PtV q] (.bool (decide (p.P=q.P))):= 
 have hd:Decidable (E2w.eqJ p.J q.J):=decidable_of_iff _ (E2w.eqJ_iff p.jr q.jr).symm
 jv p.J q.J hd _ (decide_eq_decide.2 (E2w.eqJ_iff p.jr q.jr).symm)
theorem Ig(p q:GP):PUR 132 [PtV p,PtV q] (PtV (Is p q)):=y6 p.J q.J
theorem yl(p:GP):PUR 318 [PtV p] (PtV (kT p)):=o6 p.J
theorem EM(p:GP)(h:p.P=none):PUR 80 [PtV p] (.tuple #[EV2 ze2,EV2 ze2,.bool false]):=BZ p.J ((E2w.jr_zI p.jr).2 h)
theorem xf(p:GP)(h: ¬p.P=none):PUR 80 [PtV p] (.tuple #[EV2 (PX p.P),EV2 (PY p.P),.bool true]):=by
 have k:=Cn p.J (fun e=>h ((E2w.jr_zI p.jr).1 e))
 have e:=Ih p.jr h
 rw[e.1,e.2]at k
 exact k
theorem ZR(x y:W2)(h:ml2 y y=RS4 x):PUR 246 [EV2 x,EV2 y] (.tuple #[PtV (TM x y h),.bool true]):=SW x y h
theorem zI(x r:W2)(hr:ml2 r r=RS4 x)(hl:LG2 r=false)(l:Bool):PUR 191 [EV2 x,.bool l] (.tuple #[PtV (gRt x r hr l),.bool true]):=by
 cases l with
 |true=>exact qS x r (pt _ r hr hl)
 |false=>exact qE x r (pt _ r hr hl)
theorem zS(x:W2)(l:Bool)(h: ¬LQ x):PUR 191 [EV2 x,.bool l] (.tuple #[PtV gInf,.bool false]):=by
 cases l with
 |true=>exact rn x _ (uW _ h)
 |false=>exact ri x _ (uW _ h)
theorem fu(p:GP):PUR 317 [PtV p] (.bool (decide (E2w.times p.P ORD=none))):= 
 have hd:Decidable (E2w.eqJ (ngJ (mlB p.J UB8)) (tuJ TX2 TY2 p.J)):=decidable_of_iff _ (mT p.on p.jr).symm
 Sd (fun _=>rfl) (fun _=>rfl) p.J hd _ (decide_eq_decide.2 (mT p.on p.jr).symm)
theorem XK(p:GP)(e:Option Addr)(cap:Nat)(bs:L8)(hlen:bs.length≤1000)(w:World)(hw:Gt w)(hby:BytesAt w e bs):CLS 173 [PtV p,.slice e bs.length cap].toArray w (fun r w'=>r=.returned (PtV (K3 p bs))∧Grow w w'):=kB p.J e cap bs om w hw hby
end J2
end
section
open Go.RowKit
attribute [local simp] a7 bv aJ aB aQ a5 aT aK aO bf bC a6 bz J1.bE
namespace J1
theorem Vo{P:Pt Zp}(hP:E1.onP P)(bs:L8)(n:Nat):E1w.jr (RMJ (RJ P) bs (8*n)) (em1.p (E1.times P (BN bs n))):=by
 rw[em1.times hP,←gM];exact E5 (em1.onP hP) (Yx P) bs (8*n)
theorem JM(a:Zp): -(-a)=a:=by grind
end J1
end
section
open Go.RowKit
attribute [local simp] a7 bv aJ aB aQ a5 aT aK aO bf bC a6 bz J2.bE
theorem Gs(x:W6):E1w.jdF x=E2w.jdF x:=rfl
theorem Rb(x y:W6):E1w.jaF x y=E2w.jaF x y:=rfl
namespace J2
theorem BH{x:W6}{P:Pt W2}(hP:E2w.onP P)(hx:E2w.jr x P)(bs:L8): ∀i,E2w.jr (RMJ x bs i) (E2w.times P (BTn bs i))
 |0=>rfl
 |i+1=>by
  have hd:=E2w.jr_d (E2w.times_on hP _) (BH hP hx bs i)
  rw[E2w.dbl_times hP]at hd
  rcases np bs i with ⟨h,e⟩|⟨h,e⟩
  ·rw[Dd h,BTn,e,Gs,Rb]
   exact E2w.jr_a (E2w.times_on hP _) hP hd hx
  ·rw[CV h,BTn,e,Gs]
   exact hd
end J2
end
section
open Go.RowKit
attribute [local simp] a7 bv aJ aB aQ a5 aT aK aO bf bC a6 bz J1.bE J2.bE
theorem ent16:ak prog 16:=fun _ _=>kr
theorem ti5:TI prog 5 (.int .u8 0) 1 1:=sL kr
def FG(bs:L8):BitVec 8:=bs.getD 0 0 &&& 224#8
def MK(bs:L8):L8:=bs.set 0 (bs.getD 0 0 &&& 31#8)
theorem cf(bs:L8):(MK bs).length=bs.length:=by simp[MK]
attribute [local simp] cf
theorem cH{w:World}{b:Nat}{c:List Value}{xs:L8}(h:w.rangeAt b 0 c)(ht:c.take xs.length=xs.map U8):BytesAt w (spt b) xs:=J2.cH h ht
def INF(bs:L8)(n:Nat):Int:=if (∀j,j<n→(MK bs).getD j 0=0#8)∧FG bs &&& 32#8=0#8 then 0 else 101
def LO(bs:L8)(l:Nat):L8:=((MK bs).drop l).take 48
theorem kX{bs:L8}{l:Nat}(h:l+48≤bs.length):(LO bs l).length=48:=by
 rw[LO,List.length_take,List.length_drop,cf];omega
end
section
open Go.RowKit
attribute [local simp] a7 bv aJ aB aQ a5 aT aK aO bf bC a6 bz J1.bE J2.bE cf
theorem r9xy(a b:W2):PUR 47 [EV6 (a,b,on2)] (.tuple #[EV2 a,EV2 b]):=by
 intro w hw
 refine Hf func47 rfl hw<|fun hGF=>Xp<|Bx 1 hGF rfl<|fun b1=>Al 2 hGF zv41<|fun b2=>Al 3 hGF zv41<|fun b3=>aa<|ah<|Xd []<|Fa 24 rfl underlying43 rfl sizeOf41<|ay 1 _ rfl rfl isAgg41 sizeOf41 sm (gu (m:=12) (n:=12) sm sm rfl) rfl rfl<|Ca rfl (ow)<|uD true rfl rfl (fun _=>PV _ _ _ _ _ _) (fun w=>Pp _ _ sm sm w) (decide_eq_true rfl) rfl rfl<|aa<|aR rfl<|gt (E:=EE []) (fun X=>X=Hp (pl w) [(1,b1,((fe (a).1++fe (a).2)++((fe (b).1++fe (b).2)++(fe (on2).1++fe (on2).2))).map U64,43)]) (mkB [2]) (rkB [13]) [0,1,2,3,4,5] cL rfl kr kr kr<|dP rfl rfl<|Fa 0 rfl underlying43 rfl sizeOf41<|aa<|dP rfl rfl<|ay 1 _ rfl rfl isAgg41 sizeOf41 sm ed rfl rfl<|aa<|dP rfl rfl<|Fa 12 rfl underlying43 rfl sizeOf41<|aa<|kL (X:=Hp (pl w) [(1,b1,((fe (a).1++fe (a).2)++((fe (b).1++fe (b).2)++(fe (on2).1++fe (on2).2))).map U64,43)]) rfl (cN ao trv) (fun _=>rfl)<|ay 1 _ rfl rfl isAgg41 sizeOf41 sm (kS sm) rfl rfl<|aa<|fU rfl<|Sa 2 hGF rfl rfl rfl bI<|aa<|?_
 refine ⟨fun _ X hX _=>by subst hX;exact cN ao trv, ?_⟩
 refine fU rfl<|Sa 3 hGF rfl rfl rfl bI<|aa<|?_
 refine ⟨fun h=>(by cases h), ?_⟩
 refine fX<|am<|Rr<|?_
 exact iQ 2 3 rfl rfl rfl rfl rfl isAgg41 sizeOf41 sm sm (fun w hw=>⟨rfl,ac hw⟩)
theorem hmc{i:TypeInfo}(k:Nat)(h:prog.info? 5=some i∧i.zero=some (.int .u8 0)∧i.size=1∧i.bytes=1)(hk:(madeCells (Value.int .u8 0).cells (k*1)).toList=(List.replicate k 0#8).map U8):(madeCells (Value.int .u8 0).cells (k*i.size)).toList=(List.replicate k 0#8).map U8:=by
 rw[h.2.2.1];exact hk
theorem hmk(k:Nat)(h:k≤1000):k*ti5.choose.size≤16777216∧ti5.choose.bytes*k≤281474976710656∧k≤1000000:=by
 rw[ti5.choose_spec.2.2.1,ti5.choose_spec.2.2.2];omega
theorem Qr:(madeCells (Value.int .u8 0).cells (48*1)).toList=(List.replicate 48 0#8).map U8:=kr
theorem Qw:(madeCells (Value.int .u8 0).cells (96*1)).toList=(List.replicate 96 0#8).map U8:=kr
def OR0(bs:L8)(v:BitVec 8):L8:=bs.set 0 (bs.getD 0 0|||v)
theorem fC(bs:L8)(v:BitVec 8):(OR0 bs v).length=bs.length:=by simp[OR0]
attribute [local simp] fC
theorem OO(x:Zp):lay 0 ((ch x).map U8) ((List.replicate 48 0#8).map U8)=(ch x).map U8:=kf _ _ sm
theorem rL(x:Zp):lay 0 ((ch x).map U8) ((List.replicate 96 0#8).map U8)=(ch x++List.replicate 48 0#8).map U8:=by
 have h:=tV (ch x) 96 sm
 rw[aO]at h
 exact h
theorem se(x y:Zp):lay 48 ((ch y).map U8) ((ch x++List.replicate 48 0#8).map U8)=(ch x++ch y).map U8:=by
 rw[jF 48 _ _ sm]
 rw[List.map_append,List.map_append]
 have e1:((ch x).map U8++(List.replicate 48 0#8).map U8).take 48=(ch x).map U8:=List.take_left' sm
 have e2:((ch x).map U8++(List.replicate 48 0#8).map U8).drop (48+((ch y).map U8).length)=[]:=List.drop_eq_nil_of_le sm
 rw[e1,e2,List.append_nil]
theorem sz5:(prog.info? 5).map (·.size)=some 1:=kr
end
end Go.Proofs.YtjookodjbjabbaaGreatDoor
