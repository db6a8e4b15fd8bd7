/- L2 -/
import Derived.Test.YtjookodjbjabbaaGreatDoorL1
set_option maxRecDepth 100000
set_option maxHeartbeats 1000000
namespace Go.Proofs.YtjookodjbjabbaaGreatDoor
open Go.Proofs.Tryz
section
open Go.RowKit
theorem ent75:ai prog 75:=λ_ _=>kr
theorem ent151:ai prog 151:=λ_ _=>kr
theorem ent112:ai prog 112:=λ_ _=>kr
theorem ent46:ai prog 46:=λ_ _=>kr
theorem ent187:ai prog 187:=λ_ _=>kr
theorem ent122:ai prog 122:=λ_ _=>kr
theorem ent312:ai prog 312:=λ_ _=>kr
theorem ent310:ai prog 310:=λ_ _=>kr
theorem ent76:ai prog 76:=λ_ _=>kr
theorem ent20:ai prog 20:=λ_ _=>kr
theorem ent168:ai prog 168:=λ_ _=>kr
theorem ent311:ai prog 311:=λ_ _=>kr
theorem ent313:ai prog 313:=λ_ _=>kr
namespace J1
attribute [local simp] a6 bv aH aA aQ aY aR aK aM PLl cJ cH N1l cI cL cK bf bB a7 bu
structure GP where
 J:Zp×Zp×Zp
 P:Pt Zp
 on:E1.onP P
 jr:E1.jr J P
def GL(p:GP):L6:=fe p.J.1++(fe p.J.2.1++fe p.J.2.2)
theorem bx(p:GP):(GL p).length=18:=by simp[GL]
attribute [local simp] bx
abbrev PtV(p:GP):Value:=aJ (GL p)
def PX:Pt Zp->Zp
 |none=>0
 |some p=>p.1
def PY:Pt Zp->Zp
 |none=>0
 |some p=>p.2
def RS4(x:Zp):Zp:=x*x*x+zp 4
abbrev LQ(x:Zp):Prop:=SQr (RS4 x)*SQr (RS4 x)=RS4 x
def LY(x:Zp)(l:Bool):Zp:=if decide (hf<(SQ (RS4 x)).val)=l then SQ (RS4 x)else-(SQ (RS4 x))
theorem nA{x y:Zp}:E1.on (x,y)↔y*y=RS4 x:=by
 show y*y=x*(x*x)+zp 4↔y*y=x*x*x+zp 4;rw[show x*(x*x)=x*x*x from by grind]
theorem SC(a:Zp): -a* -a=a*a:=by grind
theorem WF(x:Zp)(l:Bool):LY x l=SQ (RS4 x)\/LY x l= -(SQ (RS4 x)):=by
 rw[LY];generalize SQ (RS4 x)=s;by_cases h:decide (hf<s.val)=l
 ·exact .inl (if_pos h)
 ·exact .inr (if_neg h)
theorem Vk{x:Zp}(h:LQ x)(l:Bool):LY x l*LY x l=RS4 x:=by
 have e:=iT h;rcases WF x l with k|k
 ·rw[k,e]
 ·rw[k,SC,e]
theorem go{p:Zp×Zp}(h:E1.on p):E1.onP (some p):=h
theorem Wb{a:Zp}(h:LQ a):LY a false=SQ (RS4 a):=if_pos (decide_eq_false (kv h))
theorem Xc{a:Zp}(h:LQ a):LY a true= -(SQ (RS4 a)):=if_neg (by rw[decide_eq_false (kv h)];exact Bool.false_ne_true)
theorem K5{x:Zp}(h:LQ x)(l:Bool):E1.onP (some (x,LY x l)):=go (nA.2 (Vk h l))
abbrev JV(J:Zp×Zp×Zp):Value:=aJ (fe (J.1)++(fe (J.2.1)++fe (J.2.2)))
theorem ob(w:World):(zeroValue 54).run prog w=.ok (aJ (fe 0++(fe 0++fe 0))) w:=by rw[i2];exact (zeroValue54 w).trans rr
theorem s5:Three prog 54 ⟨ "x",52,0,false, "", "pharos/g1",0⟩ ⟨ "y",52,6,false, "", "pharos/g1",48⟩ ⟨ "z",52,12,false, "", "pharos/g1",96⟩ 6 (fe 0) (fe 0) (fe 0):=⟨underlying54,rfl,rfl,rfl,sizeOf52,sizeOf52,sizeOf52,ob,sm,sm,sm⟩
theorem jsub(a b:Zp):a-b=E1.sub a b:=by show a-b=a+ -b;grind
theorem SG(x y:Zp):PUR 169 [EV x,EV y] (EV (E1.sub x y)):=by
 have h:=nq x y;rw[jsub]at h;exact h
def TO61:Tb prog Gt:=TO59.add (dk (g:=E1.sub) ent169 SG)
theorem ug(x:Zp×Zp×Zp):PUR 20 [JV x] (.bool (decide (x.2.2=0))):=pE TO61 func20 [.inl [x.1,x.2.1,x.2.2]] (.inl (.inr (.inl (decide (x.2.2=0))))) (.inl (.inr (.inl (decide (x.2.2=0)))),[]) [] kr aD O
theorem BO{f:Nat}{g:(Zp×Zp×Zp)->Bool}(en:ai prog f)(h: ∀a,PUR f [JV a] (.bool (g a))):Snd prog Gt f (c1 q3.ag rdB g):=gt q3.ag rdB en h
def TO62:Tb prog Gt:=TO61.add (BO (g:=λx=>decide (x.2.2=0)) ent20 ug)
theorem n9(x:Zp×Zp×Zp):PUR 112 [JV x] (JV (x.1,-x.2.1,x.2.2)):=pE TO62 func112 [.inl [x.1,x.2.1,x.2.2]] (.inl (.inl [(x.1,-x.2.1,x.2.2).1,(x.1,-x.2.1,x.2.2).2.1,(x.1,-x.2.1,x.2.2).2.2])) (.inl (.inl [x.1,-x.2.1,x.2.2]),[]) [] kr aD O
theorem pC{f:Nat}{g:(Zp×Zp×Zp)->(Zp×Zp×Zp)}(en:ai prog f)(h: ∀a,PUR f [JV a] (JV (g a))):Snd prog Gt f (c1 q3.ag q3.rd g):=gt q3.ag q3.rd en h
def TO63:Tb prog Gt:=TO62.add (pC (g:=λx=>(x.1,-x.2.1,x.2.2)) ent112 n9)
theorem EZ  :PUR 46 [] (JV (0,0,0)):=pE TO63 func46 [] (.inl (.inl [(0,0,0).1,(0,0,0).2.1,(0,0,0).2.2])) (.inl (.inl [0,0,0]),[]) [] kr aD O
theorem Xo{f:Nat}{g:(Zp×Zp×Zp)}(en:ai prog f)(h:PUR f [] (JV g)):Snd prog Gt f (c0 q3.rd g):=vJ q3.rd en h
def TO64:Tb prog Gt:=TO63.add (Xo (g:=(0,0,0)) ent46 EZ)
theorem AH(a:Zp):PUR 187 [EV a] (EV (a*a*a)):=pE TO64 func187 [.inl [a]] (.inl (.inl [a*a*a])) (.inl (.inl [(a*a)*a]),[]) [] kr aD O
def TO65:Tb prog Gt:=TO64.add (gC (g:=λa=>a*a*a) ent187 AH)
def dbF(x:Zp×Zp×Zp):Zp×Zp×Zp:=
 let a:=x.2.1+x.2.1
 let s:=x.1*x.1
 let u:=s+s+s
 let h:=a*a
 let b:=h*x.1
 let X:=E1.sub (E1.sub (u*u) b) b
 (X,E1.sub (u*E1.sub b X) (h*a*x.2.1),x.2.2*a)
theorem H3(x:Zp×Zp×Zp):PUR 168 [JV x] (JV (dbF x)):=pE TO65 func168 [.inl [x.1,x.2.1,x.2.2]] (.inl (.inl [(dbF x).1,(dbF x).2.1,(dbF x).2.2])) (let t0:=x.2.1+x.2.1;let t1:=(x.1*x.1)+(x.1*x.1);let t2:=t1+(x.1*x.1);let t3:=(t0*t0)*x.1;let t4:=E1.sub (t2*t2) t3;let t5:=E1.sub t3 (E1.sub t4 t3);let t6:=(t0*t0)*t0;let t7:=E1.sub (t2*t5) (t6*x.2.1);(.inl (.inl [E1.sub t4 t3,t7,x.2.2*t0]),[])) [] kr aD O
def TO66:Tb prog Gt:=TO65.add (pC (g:=dbF) ent168 H3)
theorem db_s(x y:Zp):(y+y)*(y+y)*x=(x*(y*y)+x*(y*y))+(x*(y*y)+x*(y*y)):=by grind
theorem db_c(y:Zp):(y+y)*(y+y)*(y+y)*y=(((y*y)*(y*y)+(y*y)*(y*y))+((y*y)*(y*y)+(y*y)*(y*y)))+(((y*y)*(y*y)+(y*y)*(y*y))+((y*y)*(y*y)+(y*y)*(y*y))):=by grind
theorem db_z(y z:Zp):z*(y+y)=y*z+y*z:=by grind
theorem dbl_ext(m:Zp){s s' c c' z z':Zp}(hs:s=s')(hc:c=c')(hz:z=z'):(E1.sub (E1.sub (m*m) s) s,E1.sub (m*E1.sub s (E1.sub (E1.sub (m*m) s) s)) c,z)=(E1.sub (E1.sub (m*m) s') s',E1.sub (m*E1.sub s' (E1.sub (E1.sub (m*m) s') s')) c',z'):=by rw[hs,hc,hz]
theorem OF(x:Zp×Zp×Zp):dbF x=E1.jd x.1 x.2.1 x.2.2:=dbl_ext (x.1*x.1+x.1*x.1+x.1*x.1) (db_s x.1 x.2.1) (db_c x.2.1) (db_z x.2.1 x.2.2)
theorem Fc{x:Zp×Zp×Zp}{P:Pt Zp}(hP:E1.onP P)(h:E1.jr x P):E1.jr (dbF x) (E1.ad P P):=by
 have k:=E1.jr_d hP h;by_cases hz:x.2.2=E1.R.zero\/x.2.1=E1.R.zero
 ·rw[show E1.jdF x=(E1.R.zero,E1.R.zero,E1.R.zero)from if_pos hz]at k
  rw[(E1.jr_z k).1 O];show x.2.2*(x.2.1+x.2.1)=(0:Zp);rcases hz with e|e
  ·rw[show x.2.2=(0:Zp)from e,rc]
  ·rw[show x.2.1=(0:Zp)from e,GW,jX]
 ·rw[show E1.jdF x=E1.jd x.1 x.2.1 x.2.2 from if_neg hz,<-OF]at k
  exact k
def adG(x y:Zp×Zp×Zp):Zp×Zp×Zp:=
 let u:=x.1*(y.2.2*y.2.2)
 let s:=x.2.1*(y.2.2*y.2.2)*y.2.2
 let h:=E1.sub (y.1*(x.2.2*x.2.2)) u
 let r:=E1.sub (y.2.1*(x.2.2*x.2.2)*x.2.2) s
 let q:=h*h
 let c:=q*h
 let w:=q*u
 let X:=E1.sub (E1.sub (E1.sub (r*r) c) w) w
 (X,E1.sub (r*E1.sub w X) (c*s),x.2.2*y.2.2*h)
def adF(x y:Zp×Zp×Zp):Zp×Zp×Zp:=if x.2.2=0 then y else if y.2.2=0 then x else if E1.jh x.1 x.2.2 y.1 y.2.2=0 then (if E1.jq x.2.1 x.2.2 y.2.1 y.2.2=0 then dbF x else (0,0,0))else adG x y
theorem DO(a b:Zp):a*b=b*a:=by grind
theorem add_ext{a w w' r k k' z:Zp}(hw:w=w')(hk:k=k'):(E1.sub (E1.sub a w) w,E1.sub (r*E1.sub w (E1.sub (E1.sub a w) w)) k,z)=(E1.sub (E1.sub a w') w',E1.sub (r*E1.sub w' (E1.sub (E1.sub a w') w')) k',z):=by rw[hw,hk]
theorem adG_ja(x y:Zp×Zp×Zp):adG x y=E1.ja x.1 x.2.1 x.2.2 y.1 y.2.1 y.2.2:=add_ext (DO _ _) (DO _ _)
theorem same_iff{p q:Zp×Zp}{x y:Zp×Zp×Zp}(h:E1.jr x (some p))(k:E1.jr y (some q)):(x.1*(y.2.2*y.2.2)=y.1*(x.2.2*x.2.2)↔p.1=q.1)/\(x.2.1*(y.2.2*y.2.2)*y.2.2=y.2.1*(x.2.2*x.2.2)*x.2.2↔p.2=q.2):=by
 have hx:x.1=p.1*(x.2.2*x.2.2):=h.2.1;have hy:x.2.1=p.2*(x.2.2*x.2.2*x.2.2):=h.2.2;have kx:y.1=q.1*(y.2.2*y.2.2):=k.2.1;have ky:y.2.1=q.2*(y.2.2*y.2.2*y.2.2):=k.2.2;have n2:=E1.mul_ne (E1.z2_ne h.1) (E1.z2_ne k.1);have n3:=E1.mul_ne (E1.z3_ne h.1) (E1.z3_ne k.1);obtain ⟨z,hz⟩: ∃z,x.2.2=z:=⟨_,rfl⟩;obtain ⟨v,hv⟩: ∃v,y.2.2=v:=⟨_,rfl⟩;rw[hz]at hx hy n2 n3;rw[hv]at kx ky n2 n3;rw[hx,hy,kx,ky,hz,hv];refine ⟨⟨λe=>E1.mul_can n2 ?_,λe=>by rw[e];grind⟩,⟨λe=>E1.mul_can n3 ?_,λe=>by rw[e];grind⟩⟩
 ·show p.1*(z*z*(v*v))=q.1*(z*z*(v*v))
  grind
 ·show p.2*(z*z*z*(v*v*v))=q.2*(z*z*z*(v*v*v))
  grind
theorem Gl{x y:Zp×Zp×Zp}{P Q:Pt Zp}(_:E1.onP P)(_:E1.onP Q)(h:E1.jr x P)(k:E1.jr y Q)(h1: ¬x.2.2=0)(h2: ¬y.2.2=0)(h3:E1.jh x.1 x.2.2 y.1 y.2.2=0)(h4:E1.jq x.2.1 x.2.2 y.2.1 y.2.2=0):Q=P:=by
 cases P with
 |none=>exact absurd h h1
 |some p=>
  cases Q with
  |none=>exact absurd k h2
  |some q=>
   have s:=same_iff h k;exact congrArg some (Prod.ext (s.1.1 (E1.sub0 h3).symm).symm (s.2.1 (E1.sub0 h4).symm).symm)
theorem Fg{x y:Zp×Zp×Zp}{P Q:Pt Zp}(hP:E1.onP P)(hQ:E1.onP Q)(h:E1.jr x P)(k:E1.jr y Q):E1.jr (adF x y) (E1.ad P Q):=by
 have j:=E1.jr_a hP hQ h k;by_cases h1:x.2.2=0
 ·rw[show E1.jaF x y=y from if_pos h1]at j
  rw[show adF x y=y from if_pos h1];exact j
 by_cases h2:y.2.2=0
 ·rw[show E1.jaF x y=x from (if_neg h1).trans (if_pos h2)]at j
  rw[show adF x y=x from (if_neg h1).trans (if_pos h2)];exact j
 by_cases h3:E1.jh x.1 x.2.2 y.1 y.2.2=0
 ·by_cases h4:E1.jq x.2.1 x.2.2 y.2.1 y.2.2=0
  ·rw[show adF x y=dbF x from (if_neg h1).trans ((if_neg h2).trans ((if_pos h3).trans (if_pos h4)))]
   have e:Q=P:=Gl hP hQ h k h1 h2 h3 h4;rw[e];exact Fc hP h
  ·rw[show E1.jaF x y=(E1.R.zero,E1.R.zero,E1.R.zero)from (if_neg h1).trans ((if_neg h2).trans ((if_pos h3).trans (if_neg h4)))]at j
   rw[show adF x y=(0,0,0)from (if_neg h1).trans ((if_neg h2).trans ((if_pos h3).trans (if_neg h4)))];exact j
 ·rw[show E1.jaF x y=E1.ja x.1 x.2.1 x.2.2 y.1 y.2.1 y.2.2 from (if_neg h1).trans ((if_neg h2).trans (if_neg h3)),<-adG_ja]at j
  rw[show adF x y=adG x y from (if_neg h1).trans ((if_neg h2).trans (if_neg h3))];exact j
theorem yD(x y:Zp×Zp×Zp):PUR 122 [JV x,JV y] (JV (adF x y)):=by
 by_cases h1:x.2.2=0
 ·exact pE TO66 func122 [.inl [x.1,x.2.1,x.2.2],.inl [y.1,y.2.1,y.2.2]] (.inl (.inl [(adF x y).1,(adF x y).2.1,(adF x y).2.2])) (.inl (.inl [y.1,y.2.1,y.2.2]),[(decide (x.2.2=0),true)]) [some true] kr (ao (decide_eq_true h1) aD) (by rw[show adF x y=y from if_pos h1]<;>exact rfl)
 ·by_cases h2:y.2.2=0
  ·exact pE TO66 func122 [.inl [x.1,x.2.1,x.2.2],.inl [y.1,y.2.1,y.2.2]] (.inl (.inl [(adF x y).1,(adF x y).2.1,(adF x y).2.2])) (.inl (.inl [x.1,x.2.1,x.2.2]),[(decide (x.2.2=0),false),(decide (y.2.2=0),true)]) [some false,some true] kr (ao (decide_eq_false h1) (ao (decide_eq_true h2) aD)) (by rw[show adF x y=x from (if_neg h1).trans (if_pos h2)]<;>exact rfl)
  ·by_cases h3:E1.jh x.1 x.2.2 y.1 y.2.2=0
   ·by_cases h4:E1.jq x.2.1 x.2.2 y.2.1 y.2.2=0
    ·exact pE TO66 func122 [.inl [x.1,x.2.1,x.2.2],.inl [y.1,y.2.1,y.2.2]] (.inl (.inl [(adF x y).1,(adF x y).2.1,(adF x y).2.2])) (let t0:=x.2.2*x.2.2;let t1:=y.2.2*y.2.2;let t2:=(x.2.1*t1)*y.2.2;let t3:=E1.sub (y.1*t0) (x.1*t1);let t4:=(y.2.1*t0)*x.2.2;let t5:=dbF x;(.inl (.inl [t5.1,t5.2.1,t5.2.2]),[(decide (x.2.2=0),false),(decide (y.2.2=0),false),(decide (t3=0),true),(decide ((E1.sub t4 t2)=0),true)])) [some false,some false,some true,some true] kr (ao (decide_eq_false h1) (ao (decide_eq_false h2) (ao (decide_eq_true h3) (ao (decide_eq_true h4) aD)))) (by rw[show adF x y=dbF x from (if_neg h1).trans ((if_neg h2).trans ((if_pos h3).trans (if_pos h4)))]<;>exact rfl)
    ·exact pE TO66 func122 [.inl [x.1,x.2.1,x.2.2],.inl [y.1,y.2.1,y.2.2]] (.inl (.inl [(adF x y).1,(adF x y).2.1,(adF x y).2.2])) (let t0:=x.2.2*x.2.2;let t1:=y.2.2*y.2.2;let t2:=(x.2.1*t1)*y.2.2;let t3:=E1.sub (y.1*t0) (x.1*t1);let t4:=(y.2.1*t0)*x.2.2;(.inl (.inl [0,0,0]),[(decide (x.2.2=0),false),(decide (y.2.2=0),false),(decide (t3=0),true),(decide ((E1.sub t4 t2)=0),false),(decide (t3=0),true)])) [some false,some false,some true,some false,some true] kr (ao (decide_eq_false h1) (ao (decide_eq_false h2) (ao (decide_eq_true h3) (ao (decide_eq_false h4) (ao (decide_eq_true h3) aD))))) (by rw[show adF x y=(0,0,0)from (if_neg h1).trans ((if_neg h2).trans ((if_pos h3).trans (if_neg h4)))]<;>exact rfl)
   ·exact pE TO66 func122 [.inl [x.1,x.2.1,x.2.2],.inl [y.1,y.2.1,y.2.2]] (.inl (.inl [(adF x y).1,(adF x y).2.1,(adF x y).2.2])) (let t0:=x.2.2*x.2.2;let t1:=y.2.2*y.2.2;let t2:=(x.2.1*t1)*y.2.2;let t3:=E1.sub (y.1*t0) (x.1*t1);let t4:=(y.2.1*t0)*x.2.2;let t5:=(t3*t3)*t3;let t6:=(t3*t3)*(x.1*t1);let t7:=(E1.sub t4 t2)*(E1.sub t4 t2);let t8:=E1.sub (E1.sub t7 t5) t6;let t9:=E1.sub t6 (E1.sub t8 t6);let t10:=(E1.sub t4 t2)*t9;let t11:=E1.sub t10 (t5*t2);let t12:=x.2.2*y.2.2;(.inl (.inl [E1.sub t8 t6,t11,t12*t3]),[(decide (x.2.2=0),false),(decide (y.2.2=0),false),(decide (t3=0),false),(decide (t3=0),false)])) [some false,some false,some false,some false] kr (ao (decide_eq_false h1) (ao (decide_eq_false h2) (ao (decide_eq_false h3) (ao (decide_eq_false h3) aD)))) (by rw[show adF x y=adG x y from (if_neg h1).trans ((if_neg h2).trans (if_neg h3))]<;>exact rfl)
theorem oc{f:Nat}{g:(Zp×Zp×Zp)->(Zp×Zp×Zp)->(Zp×Zp×Zp)}(en:ai prog f)(h: ∀a b,PUR f [JV a,JV b] (JV (g a b))):Snd prog Gt f (c2 q3.ag q3.ag q3.rd g):=gv q3.ag q3.ag q3.rd en h
def TO67:Tb prog Gt:=TO66.add (oc (g:=adF) ent122 yD)
theorem vV(a b:Zp):a*(b*b)*b=a*(b*b*b):=by grind
def eqJ(x y:Zp×Zp×Zp):Prop:=(x.2.2=0/\y.2.2=0)\/(¬x.2.2=0/\¬y.2.2=0/\x.1*(y.2.2*y.2.2)=y.1*(x.2.2*x.2.2)/\x.2.1*(y.2.2*y.2.2*y.2.2)=y.2.1*(x.2.2*x.2.2*x.2.2))
theorem same_iff'{p q:Zp×Zp}{x y:Zp×Zp×Zp}(h:E1.jr x (some p))(k:E1.jr y (some q)):(x.1*(y.2.2*y.2.2)=y.1*(x.2.2*x.2.2)↔p.1=q.1)/\(x.2.1*(y.2.2*y.2.2*y.2.2)=y.2.1*(x.2.2*x.2.2*x.2.2)↔p.2=q.2):=by
 have s:=same_iff h k;rw[vV,vV]at s;exact s
theorem eqJ_iff{x y:Zp×Zp×Zp}{P Q:Pt Zp}(h:E1.jr x P)(k:E1.jr y Q):eqJ x y↔P=Q:=by
 cases P with
 |none=>
  cases Q with
  |none=>exact ⟨λ_=>rfl,λ_=>.inl ⟨h,k⟩⟩
  |some q=>exact ⟨λe=>e.elim (λe=>absurd e.2 k.1) (λe=>absurd h e.1),λe=>by cases e⟩
 |some p=>
  cases Q with
  |none=>exact ⟨λe=>e.elim (λe=>absurd e.1 h.1) (λe=>absurd k e.2.1),λe=>by cases e⟩
  |some q=>
   have s:=same_iff' h k;exact ⟨λe=>e.elim (λe=>absurd e.1 h.1) (λe=>congrArg some (Prod.ext (s.1.1 e.2.2.1) (s.2.1 e.2.2.2))),λe=>.inr ⟨h.1,k.1,s.1.2 (congrArg Prod.fst (Option.some.inj e)),s.2.2 (congrArg Prod.snd (Option.some.inj e))⟩⟩
theorem i7(x y:Zp×Zp×Zp)(hd:Decidable (eqJ x y))(b:Bool)(hb:b=decide (eqJ x y)):PUR 310 [JV x,JV y] (.bool b):=by
 by_cases h1:x.2.2=0
 ·by_cases h2:y.2.2=0
  ·exact pE TO67 func310 [.inl [x.1,x.2.1,x.2.2],.inl [y.1,y.2.1,y.2.2]] (.inl (.inr (.inl b))) (.inl (.inr (.inl true)),[(decide (x.2.2=0),true),(decide (x.2.2=0),true),(decide (y.2.2=0),true)]) [some true,some true,some true] kr (ao (decide_eq_true h1) (ao (decide_eq_true h1) (ao (decide_eq_true h2) aD))) (by obtain rfl:b=true:=hb.trans (decide_eq_true (.inl ⟨h1,h2⟩))<;>exact rfl)
  ·exact pE TO67 func310 [.inl [x.1,x.2.1,x.2.2],.inl [y.1,y.2.1,y.2.2]] (.inl (.inr (.inl b))) (.inl (.inr (.inl false)),[(decide (x.2.2=0),true),(decide (x.2.2=0),true),(decide (y.2.2=0),false)]) [some true,some true,some false] kr (ao (decide_eq_true h1) (ao (decide_eq_true h1) (ao (decide_eq_false h2) aD))) (by obtain rfl:b=false:=hb.trans (decide_eq_false (λe=>e.elim (λe=>h2 e.2) (λe=>e.1 h1)))<;>exact rfl)
 ·by_cases h2:y.2.2=0
  ·exact pE TO67 func310 [.inl [x.1,x.2.1,x.2.2],.inl [y.1,y.2.1,y.2.2]] (.inl (.inr (.inl b))) (.inl (.inr (.inl false)),[(decide (x.2.2=0),false),(decide (y.2.2=0),true),(decide (x.2.2=0),false)]) [some false,some true,some false] kr (ao (decide_eq_false h1) (ao (decide_eq_true h2) (ao (decide_eq_false h1) aD))) (by obtain rfl:b=false:=hb.trans (decide_eq_false (λe=>e.elim (λe=>h1 e.1) (λe=>e.2.1 h2)))<;>exact rfl)
  ·by_cases h3:x.1*(y.2.2*y.2.2)=y.1*(x.2.2*x.2.2)
   ·by_cases h4:x.2.1*(y.2.2*y.2.2*y.2.2)=y.2.1*(x.2.2*x.2.2*x.2.2)
    ·exact pE TO67 func310 [.inl [x.1,x.2.1,x.2.2],.inl [y.1,y.2.1,y.2.2]] (.inl (.inr (.inl b))) (let t0:=y.2.2*y.2.2*y.2.2;let t1:=x.2.2*x.2.2*x.2.2;let t2:=y.2.2*y.2.2;let t3:=x.2.2*x.2.2;(.inl (.inr (.inl true)),[(decide (x.2.2=0),false),(decide (y.2.2=0),false),(decide ((x.1*t2)=(y.1*t3)),true),(decide ((x.2.1*t0)=(y.2.1*t1)),true)])) [some false,some false,some true,some true] kr (ao (decide_eq_false h1) (ao (decide_eq_false h2) (ao (decide_eq_true h3) (ao (decide_eq_true h4) aD)))) (by obtain rfl:b=true:=hb.trans (decide_eq_true (.inr ⟨h1,h2,h3,h4⟩))<;>exact rfl)
    ·exact pE TO67 func310 [.inl [x.1,x.2.1,x.2.2],.inl [y.1,y.2.1,y.2.2]] (.inl (.inr (.inl b))) (let t0:=y.2.2*y.2.2*y.2.2;let t1:=x.2.2*x.2.2*x.2.2;let t2:=y.2.2*y.2.2;let t3:=x.2.2*x.2.2;(.inl (.inr (.inl false)),[(decide (x.2.2=0),false),(decide (y.2.2=0),false),(decide ((x.1*t2)=(y.1*t3)),true),(decide ((x.2.1*t0)=(y.2.1*t1)),false)])) [some false,some false,some true,some false] kr (ao (decide_eq_false h1) (ao (decide_eq_false h2) (ao (decide_eq_true h3) (ao (decide_eq_false h4) aD)))) (by obtain rfl:b=false:=hb.trans (decide_eq_false (λe=>e.elim (λe=>h1 e.1) (λe=>h4 e.2.2.2)))<;>exact rfl)
   ·exact pE TO67 func310 [.inl [x.1,x.2.1,x.2.2],.inl [y.1,y.2.1,y.2.2]] (.inl (.inr (.inl b))) (let t2:=y.2.2*y.2.2;let t3:=x.2.2*x.2.2;(.inl (.inr (.inl false)),[(decide (x.2.2=0),false),(decide (y.2.2=0),false),(decide ((x.1*t2)=(y.1*t3)),false)])) [some false,some false,some false] kr (ao (decide_eq_false h1) (ao (decide_eq_false h2) (ao (decide_eq_false h3) aD))) (by obtain rfl:b=false:=hb.trans (decide_eq_false (λe=>e.elim (λe=>h1 e.1) (λe=>h3 e.2.2.1)))<;>exact rfl)
theorem zP(x:Zp×Zp×Zp)(h:x.2.2=0):PUR 70 [JV x] (.tuple #[EV 0,EV 0,.bool false]):=pE TO67 func70 [.inl [x.1,x.2.1,x.2.2]] (.inr [.inl [0],.inl [0],.inr (.inl false)]) (.inr [.inl [0],.inl [0],.inr (.inl false)],[(decide (x.2.2=0),true)]) [some true] kr (ao (decide_eq_true h) aD) O
theorem zd(x:Zp×Zp×Zp)(h: ¬x.2.2=0):PUR 70 [JV x] (.tuple #[EV (x.1*(x.2.2^(PP-2)*x.2.2^(PP-2))),EV (x.2.1*(x.2.2^(PP-2)*x.2.2^(PP-2)*x.2.2^(PP-2))),.bool true]):=pE TO67 func70 [.inl [x.1,x.2.1,x.2.2]] (.inr [.inl [x.1*(x.2.2^(PP-2)*x.2.2^(PP-2))],.inl [x.2.1*(x.2.2^(PP-2)*x.2.2^(PP-2)*x.2.2^(PP-2))],.inr (.inl true)]) (let t0:=x.2.2^(PP-2);let t1:=x.1*(t0*t0);let t2:=(t0*t0)*t0;(.inr [.inl [t1],.inl [x.2.1*t2],.inr (.inl true)],[(decide (x.2.2=0),false)])) [some false] kr (ao (decide_eq_false h) aD) O
theorem ts(a b:Zp):PUR 75 [EV a,EV b] (JV (a,b,1)):=pE TO67 func75 [.inl [a],.inl [b]] (.inl (.inl [(a,b,1).1,(a,b,1).2.1,(a,b,1).2.2])) (.inl (.inl [a,b,1]),[]) [] kr aD O
theorem ol{f:Nat}{g:Zp->Zp->(Zp×Zp×Zp)}(en:ai prog f)(h: ∀a b,PUR f [EV a,EV b] (JV (g a b))):Snd prog Gt f (c2 q1.ag q1.ag q3.rd g):=gv q1.ag q1.ag q3.rd en h
def TO68:Tb prog Gt:=TO67.add (ol (g:=λa b=>(a,b,1)) ent75 ts)
theorem je(a:Zp):PUR 151 [EV a] (EV (RS4 a)):=pE TO68 func151 [.inl [a]] (.inl (.inl [RS4 a])) (let t0:=zp (4#64).toNat;let t1:=(a*a*a)+t0;(.inl (.inl [t1]),[])) [] kr aD O
theorem qN(a s:Zp)(hs:PUR 152 [EV (RS4 a)] (.tuple #[EV s,.bool true])):PUR 94 [EV a,.bool true] (.tuple #[JV (a,-s,1),.bool true]):=by
 intro w hw;refine Hf func94 O hw<|λhGF=>Xp<|Bx 2 hGF O<|λb2=>Al 4 hGF ob<|λb4=>Asg O<|aa<|Xp<|La 2 O O bM<|Ca O (je _)<|Ca O (hs)<|Mv O<|Ext O O<|Ext O O<|Al 6 hGF zv52<|λb6=>Sa 6 hGF O O O bM<|Asg O<|aa<|ae<|Xp<|Mv O<|bi O (λ_=>a5 _) O O<|aa<|aC O<|ap<|ae<|Xp<|Mv O<|aa<|aP O<|Xq<|La 6 O O bM<|Ca O (dY _)<|Sa 6 hGF O O O bM<|aa<|Xp<|La 2 O O bM<|La 6 O O bM<|Ca O (ts _ _)<|Sa 4 hGF O O O cj<|Asg O<|?_;refine aa<|ak<|Rr<|?_;exact aZ 4 O O O O isAgg54 sizeOf54 sm (λw hw=>⟨rfl,ab hw⟩)
theorem pO(a s:Zp)(hs:PUR 152 [EV (RS4 a)] (.tuple #[EV s,.bool false])):PUR 94 [EV a,.bool true] (.tuple #[JV (0,0,0),.bool false]):=by
 intro w hw;refine Hf func94 O hw<|λhGF=>Xp<|Bx 2 hGF O<|λb2=>Al 4 hGF ob<|λb4=>Asg O<|aa<|Xp<|La 2 O O bM<|Ca O (je _)<|Ca O (hs)<|Mv O<|Ext O O<|Ext O O<|Al 6 hGF zv52<|λb6=>Sa 6 hGF O O O bM<|Asg O<|aa<|ae<|Xp<|Mv O<|bi O (λ_=>a5 _) O O<|aa<|aP O<|Xp<|jn s5 O O<|Sa 4 hGF O O O cj<|Asg O<|aa<|ak<|Rr<|?_;exact aZ 4 O O O O isAgg54 sizeOf54 sm (λw hw=>⟨rfl,ab hw⟩)
theorem qy(a s:Zp)(hs:PUR 152 [EV (RS4 a)] (.tuple #[EV s,.bool true])):PUR 94 [EV a,.bool false] (.tuple #[JV (a,s,1),.bool true]):=by
 intro w hw;refine Hf func94 O hw<|λhGF=>Xp<|Bx 2 hGF O<|λb2=>Al 4 hGF ob<|λb4=>Asg O<|aa<|Xp<|La 2 O O bM<|Ca O (je _)<|Ca O (hs)<|Mv O<|Ext O O<|Ext O O<|Al 6 hGF zv52<|λb6=>Sa 6 hGF O O O bM<|Asg O<|aa<|ae<|Xp<|Mv O<|bi O (λ_=>a5 _) O O<|aa<|aC O<|ap<|ae<|Xp<|Mv O<|aa<|aC O<|ap<|Xp<|La 2 O O bM<|La 6 O O bM<|Ca O (ts _ _)<|Sa 4 hGF O O O cj<|Asg O<|aa<|ak<|Rr<|?_;exact aZ 4 O O O O isAgg54 sizeOf54 sm (λw hw=>⟨rfl,ab hw⟩)
theorem qR(a s:Zp)(hs:PUR 152 [EV (RS4 a)] (.tuple #[EV s,.bool false])):PUR 94 [EV a,.bool false] (.tuple #[JV (0,0,0),.bool false]):=by
 intro w hw;refine Hf func94 O hw<|λhGF=>Xp<|Bx 2 hGF O<|λb2=>Al 4 hGF ob<|λb4=>Asg O<|aa<|Xp<|La 2 O O bM<|Ca O (je _)<|Ca O (hs)<|Mv O<|Ext O O<|Ext O O<|Al 6 hGF zv52<|λb6=>Sa 6 hGF O O O bM<|Asg O<|aa<|ae<|Xp<|Mv O<|bi O (λ_=>a5 _) O O<|aa<|aP O<|Xp<|jn s5 O O<|Sa 4 hGF O O O cj<|Asg O<|aa<|ak<|Rr<|?_;exact aZ 4 O O O O isAgg54 sizeOf54 sm (λw hw=>⟨rfl,ab hw⟩)
def GXB:L8:=[23#8,241#8,211#8,167#8,49#8,151#8,215#8,148#8,38#8,149#8,99#8,140#8,79#8,169#8,172#8,15#8,195#8,104#8,140#8,79#8,151#8,116#8,185#8,5#8,161#8,78#8,58#8,63#8,23#8,27#8,172#8,88#8,108#8,85#8,232#8,63#8,249#8,122#8,26#8,239#8,251#8,58#8,240#8,10#8,219#8,34#8,198#8,187#8]
def GYB:L8:=[8#8,179#8,244#8,129#8,227#8,170#8,160#8,241#8,160#8,158#8,48#8,237#8,116#8,29#8,138#8,228#8,252#8,245#8,224#8,149#8,213#8,208#8,10#8,246#8,0#8,219#8,24#8,203#8,44#8,4#8,179#8,237#8,208#8,60#8,199#8,68#8,162#8,136#8,138#8,228#8,12#8,170#8,35#8,41#8,70#8,197#8,231#8,225#8]
theorem TE:FV GXB=zp G1x:=by rw[FV,if_pos ⟨rfl,by decide+kernel⟩,show BN GXB 48=G1x by decide+kernel]
theorem UH:FV GYB=zp G1y:=by rw[FV,if_pos ⟨rfl,by decide+kernel⟩,show BN GYB 48=G1y by decide+kernel]
theorem GM(e:Option Addr)(cap:Nat)(w:World)(hw:Gt w)(hby:BytesAt w e GXB):CLS 74 [.slice e GXB.length cap].toArray w (λr w'=>r=.returned (.tuple #[EV (zp G1x),.bool (FO GXB)])/\Grow w w'):=by
 have h:=ec e cap GXB w hw hby;rw[TE]at h;exact h
theorem Fu(e:Option Addr)(cap:Nat)(w:World)(hw:Gt w)(hby:BytesAt w e GYB):CLS 74 [.slice e GYB.length cap].toArray w (λr w'=>r=.returned (.tuple #[EV (zp G1y),.bool (FO GYB)])/\Grow w w'):=by
 have h:=ec e cap GYB w hw hby;rw[UH]at h;exact h
theorem jgen:PUR 32 [] (JV (zp G1x,zp G1y,1)):=by
 intro w hw;refine Hf func32 O hw<|λhGF=>ac (E:=EE [1000022])<|Al 0 hGF ob<|λb0=>aa<|ac (E:=EE [1000022])<|dV 6 GXB hGF O O O dc dc underlying22 sizeOf5 zeroValue5 O O<|λb6=>lV 6 O hGF O O underlying22 underlying5 O O<|Cc O ent74 (λw' hC hG=>GM _ _ w' hG (BytesAt.range (hC.own 6 b6 _ _ O).1.range))<|Mv O<|Ext O O<|Ext O O<|Al 1 hGF zv52<|λb1=>Sa 1 hGF O O O bM<|Asg O<|aa<|ac (E:=EE [1000022])<|dV 12 GYB hGF O O O dc dc underlying22 sizeOf5 zeroValue5 O O<|λb12=>lV 12 O hGF O O underlying22 underlying5 O O<|Cc O ent74 (λw' hC hG=>Fu _ _ w' hG (BytesAt.range (hC.own 12 b12 _ _ O).1.range))<|Mv O<|Ext O O<|Ext O O<|Al 3 hGF zv52<|λb3=>Sa 3 hGF O O O bM<|Asg O<|aa<|ac (E:=EE [1000022])<|La 1 O O bM<|La 3 O O bM<|Ca O (ts _ _)<|Sa 0 hGF O O O cj<|aa<|ak<|Rr<|?_;exact au 0 O O O isAgg54 sizeOf54 sm (λw hw=>⟨rfl,ab hw⟩)
end J1
end
section
open Go.RowKit
theorem ent314:ai prog 314:=λ_ _=>kr
namespace J1
attribute [local simp] a6 bv aH aA aQ aY aR aK aM PLl cJ cH N1l cI cL cK bf bB a7 bu
attribute [local simp] bx
def pb(bs:L8)(m:Nat):Bool:=decide (dH bs m=1#8)
abbrev oB(bs:L8)(m:Nat):List Nat:=oL (pb bs) (8*bs.length) m
def NLs(l:List Nat):List (List Value):=l.map λn:Nat=>[I (n:Int)]
theorem mq(l:List Nat):(NLs l).length=l.length:=by simp[NLs]
theorem uT(bs:L8)(i j:Nat)(hj:j<8):bs.getD i 0>>>(7-j) &&& 1#8=dH bs (8*i+j):=by
 rw[dH,show (8*i+j) / 8=i by omega,show (8*i+j) % 8=j by omega]
theorem wT{bs:L8}{m:Nat}(h:dH bs m=1#8):pb bs m=true:=decide_eq_true h
theorem HL{bs:L8}{m:Nat}(h: ¬dH bs m=1#8): ¬pb bs m=true:=λe=>h (of_decide_eq_true e)
theorem CW{bs:L8}{m:Nat}(hm:m<8*bs.length)(h:dH bs m=1#8):(NLs (oB bs (8*bs.length)))[(oB bs m).length]? =some [I ((8*bs.length-1-m:Nat):Int)]:=by
 rw[NLs,List.getElem?_map,Mc hm (wT h)];rfl
theorem Ps{bs:L8}{m:Nat}(h:dH bs m=1#8):(oB bs (m+1)).length=(oB bs m).length+1:=Lr (wT h)
theorem Ro{bs:L8}{m:Nat}(h: ¬dH bs m=1#8):(oB bs (m+1)).length=(oB bs m).length:=Mf (HL h)
theorem FD(bs:L8): ∀m,vN (pb bs) m=BTn bs m
 |0=>rfl
 |m+1=>by
  rw[vN,FD bs m,BTn];rcases mP bs m with ⟨h,e⟩|⟨h,e⟩
  ·rw[if_pos (wT h),e]
  ·rw[if_neg (HL h),e]
theorem xu(bs:L8):SOg (oB bs (8*bs.length))=BN bs bs.length:=by rw[wU,FD,gE]
theorem pU{bb:Nat}{e:Option Addr}{cap:Nat}{bs:L8}{w w':World}(h:RdD bb e cap bs w)(hg:Grow w w'):RdD bb e cap bs w':=⟨(hg.cell (block_lt_of_cell h.1)).trans h.1,h.2.grow hg⟩
theorem jG(sv:Value)(hs:sv.cells= #[sv])(w:World)(hw:Gt w):CLS 313 [sv].toArray w (λe w'=> ∃b1,e=.returned (.func (.func 314) #[] #[pnt b1])/\Grow w w'/\w.heap.size<=b1/\OwnB w' b1 [sv] 22):=by
 refine Hf func313 O hw<|λhGF=>Xp<|iN 1 hGF O O O<|λb1=>Asg O<|aa<|Xp<|gj O O O O<|Asg O<|aa<|ak<|Rr<|?_;exact aE O O (λw hw=>⟨b1,rfl,ab hw,(hw.own 1 b1 _ _ O).2.elim id False.elim,(by have:=(hw.own 1 b1 _ _ O).1;rw[hs]at this;exact this)⟩)
theorem lM(bb:Nat)(e:Option Addr)(cap:Nat)(bs:L8)(hlen:bs.length<=1000000):fD prog Gt 314 [pnt bb] (NLs (oB bs (8*bs.length))) (RdD bb e cap bs):=by
 intro l J Jx hJ hJx hRd hGx hY w hj;have okJ: ∀k,BOk Gt (Bi w (λY=>J Y k)):=λk=>⟨λ_ _ _ h=>(hRd _ _ _ h.rid).1,hJ k⟩;have okX: ∀k,BOk Gt (Bi w (λY=>Jx Y k)):=λk=>⟨λ_ _ _ h=>hGx _ _ _ h.rid,hJx k⟩;have c1: ∀k L w',Hp (Bi w (λY=>J Y k)) L w'->RdD bb e cap bs w':=λk L w' h=>(hRd _ _ _ h.rid).2;have hby:=(hRd _ _ _ hj).2.2;refine cu (G:=Gt) func314 O O (Hp (Bi w (λY=>J Y 0)) []) (ci (Bi w _) hj (hJ 0)) (ay (okJ 0))<|Xp<|bN O isAgg22 (λw h=>(c1 _ _ w h).1) O O<|bc O (λ_=>aF underlying22 _ _ _ _) O O<|Mv O<|aa<|ah<|gy (ι:={i:Nat // i<=bs.length}) (λx=>[(0,.func (.yield l) #[] #[]),(1,pnt bb),(6,.slice e bs.length cap),(7,I (bs.length:Int)),(8,I (x.1:Int))]) (λx=>Bi w (λY=>J Y (oB bs (8*x.1)).length)) (λx=>[]) (λx=>bs.length-x.1) ⟨0,Nat.zero_le _⟩ (λ_=>okJ _) O trv trivial<|?_;rintro ⟨i,hi⟩;dsimp only;refine Xp<|Bnr O O (λ_=>av _ _ _)<|aa<|ae<|?_;refine bC O (λhc=> ?_) (λhc=> ?_)
 ·have hi2:i<bs.length:=by simp at hc;omega
  refine ap<|ae<|ah<|Xp<|Mv O<|?_;obtain ⟨ad,rfl,_⟩:=hby i _ (gm U8 bs 0 i om);refine gA i O O underlying22 sizeOf5 O om O O<|bN O isAgg5 (λw' h=>by obtain ⟨ad',e',hc'⟩:=(c1 _ _ w' h).2 i _ (gm U8 bs 0 i om);cases e';exact hc') O O<|Asg O<|Asg O<|aa<|Xp<|Asg O<|aa<|ah<|gy (ι:={j:Nat // j<=8}) (λx=>[(0,.func (.yield l) #[] #[]),(1,pnt bb),(6,.slice (some ad) bs.length cap),(7,I (bs.length:Int)),(8,I (i:Int)),(3,I (i:Int)),(4,U8 (bs.getD i 0)),(5,I (7-(x.1:Int)))]) (λx=>Bi w (λY=>J Y (oB bs (8*i+x.1)).length)) (λx=>[]) (λx=>8-x.1) ⟨0,Nat.zero_le _⟩ (λ_=>okJ _) O trv trivial<|?_
  rintro ⟨j,hj⟩;dsimp only;by_cases h1:dH bs (8*i+j)=1#8
  ·refine ae<|Xp<|Mv O<|Bnr (v:=.bool (decide (j<8))) O O (λ_=>(dh _ _ _).trans (by rw[show decide ((7-(j:Int))>=0)=decide (j<8)from decide_eq_decide.2 om]))<|aa<|?_
   refine bC O (λhc=> ?_) (λhc=> ?_)
   ·have hj2:j<8:=by simpa using hc
    refine ap<|ae<|ah<|Xp<|Mv O<|Mv O<|Bnr (v:=U8 (bs.getD i 0>>>(7-j))) O O (λ_=>(fk _ _ _ om).trans (by rw[show (7-(j:Int)).toNat=7-j by omega]))<|Bnr (v:=U8 (dH bs (8*i+j))) O O (λ_=>(cy _ _ 1#8).trans (by rw[uT bs i j hj2]))<|Bnr (v:=.bool true) O O (λw=>(cR _ _ _).trans (congrArg (λb=>Result.ok (Value.bool b) w) (beq_iff_eq.2 h1)))<|Mv O<|Mv O<|bN O isAgg22 (λw h=>(c1 _ _ w h).1) O O<|bc O (λ_=>aF underlying22 _ _ _ _) O O<|Bnr (v:=I ((bs.length:Int)-1)) O O (λ_=>aV _ _ _ oi)<|Mv O<|Bnr (v:=I ((bs.length-1-i:Nat):Int)) O O (λ_=>(aV _ _ _ oi).trans (by rw[show (bs.length:Int)-1-(i:Int)=((bs.length-1-i:Nat):Int) by omega]))<|Bnr (v:=I ((8*(bs.length-1-i):Nat):Int)) O O (λ_=>(bp _ _ _ oi).trans (by rw[show (8:Int)*((bs.length-1-i:Nat):Int)=((8*(bs.length-1-i):Nat):Int) by omega]))<|Mv O<|Bnr (v:=I ((8*bs.length-1-(8*i+j):Nat):Int)) O O (λ_=>(aq _ _ _ oi).trans (by rw[show ((8*(bs.length-1-i):Nat):Int)+(7-(j:Int))=((8*bs.length-1-(8*i+j):Nat):Int) by omega]))<|?_
    refine dw (hY.b (k:=(oB bs (8*i+j)).length) (CW om h1) w) (okJ _) (okX _) O O O O O ?_ ?_
    ·refine bi O (λ_=>a5 _) O O<|Pk O O O<|aa<|aC O<|ap<|Xq<|Mv O<|Bnr (v:=I (7-((j+1:Nat):Int))) O O (λ_=>(aV _ _ _ oi).trans (by rw[show 7-(j:Int)-1=7-((j+1:Nat):Int) by omega]))<|Asg O<|aa<|?_
     repeat (refine aL ?_)
     refine aB ?_;rw[<-Ps h1];exact ⟨rfl,⟨j+1,om⟩,_,by show 8-(j+1)<8-j;omega,rfl,trv,trivial⟩
    ·refine bi O (λ_=>a5 _) O O<|Pk O O O<|aa<|aP O<|ak<|Rr<|?_
     repeat (first|refine du ?_|refine ck ?_|refine dK O ?_|refine bJ ?_|refine bI ?_)
     exact dr O (λw hw=>⟨⟨_,rfl⟩,.inr ⟨_,bZ (hJx _) hw.rid⟩⟩)
   ·obtain rfl:j=8:=by simp at hc;omega
    refine aU<|Xq<|Bnr O O (λ_=>aq _ _ _ oi)<|Mv O<|aa<|?_
    repeat (refine aL ?_)
    exact aB<|⟨rfl,⟨i+1,om⟩,_,by show bs.length-(i+1)<bs.length-i;omega,rfl,trv,trivial⟩
  ·refine ae<|ac (E:=EE [3000000])<|Mv O<|Bnr (v:=.bool (decide (j<8))) O O (λ_=>(dh _ _ _).trans (by rw[show decide ((7-(j:Int))>=0)=decide (j<8)from decide_eq_decide.2 om]))<|aa<|?_
   refine bC O (λhc=> ?_) (λhc=> ?_)
   ·have hj2:j<8:=by simpa using hc
    refine ap<|ae<|ah<|ac (E:=EE [3000000])<|Mv O<|Mv O<|Bnr (v:=U8 (bs.getD i 0>>>(7-j))) O O (λ_=>(fk _ _ _ om).trans (by rw[show (7-(j:Int)).toNat=7-j by omega]))<|Bnr (v:=U8 (dH bs (8*i+j))) O O (λ_=>(cy _ _ 1#8).trans (by rw[uT bs i j hj2]))<|Bnr (v:=.bool false) O O (λw=>(cR _ _ _).trans (congrArg (λb=>Result.ok (Value.bool b) w) (beq_eq_false_iff_ne.2 h1)))<|Mv O<|Sk<|Sk<|Sk<|Sk<|Sk<|Sk<|Sk<|Sk<|Sk<|Sk<|Sk<|Pk O O O<|aa<|aC O<|ap<|bF (E:=EE [3000000])<|Mv O<|Bnr (v:=I (7-((j+1:Nat):Int))) O O (λ_=>(aV _ _ _ oi).trans (by rw[show 7-(j:Int)-1=7-((j+1:Nat):Int) by omega]))<|Asg O<|aa<|?_
    repeat (refine aL ?_)
    refine aB ?_;rw[<-Ro h1];exact ⟨rfl,⟨j+1,om⟩,_,by show 8-(j+1)<8-j;omega,rfl,trv,trivial⟩
   ·obtain rfl:j=8:=by simp at hc;omega
    refine aU<|bF (E:=EE [3000000])<|Bnr O O (λ_=>aq _ _ _ oi)<|Mv O<|aa<|?_
    repeat (refine aL ?_)
    exact aB<|⟨rfl,⟨i+1,om⟩,_,by show bs.length-(i+1)<bs.length-i;omega,rfl,trv,trivial⟩
 ·obtain rfl:i=bs.length:=by simp at hc;omega
  refine aU ?_
  repeat (first|refine du ?_|refine ck ?_|refine dK O ?_|refine bJ ?_|refine bI ?_)
  refine cS O (λw hw=>⟨⟨_,rfl⟩,.inl ?_⟩);have:=bZ (hJ _) hw.rid;rw[mq];exact this
def dbN(x:Zp×Zp×Zp):Nat->Zp×Zp×Zp
 |0=>x
 |n+1=>dbF (dbN x n)
theorem dbN_jr{x:Zp×Zp×Zp}{P:Pt Zp}(hP:E1.onP P){q:Nat}(hx:E1.jr x (E1.times P q)): ∀n,E1.jr (dbN x n) (E1.times P (q*2^n))
 |0=>by rw[Nat.pow_zero,Nat.mul_one];exact hx
 |n+1=>by
  have hd:=Fc (E1.times_on hP _) (dbN_jr hP hx n);rw[E1.dbl_times hP,Nat.mul_left_comm,<-Nat.pow_succ']at hd;exact hd
theorem kP(x:Zp×Zp×Zp)(n:Int)(hn:n<=1000000000):PUR 121 [JV x,I n] (JV (dbN x n.toNat)):=by
 intro w hw;refine Hf func121 O hw<|λhGF=>Xp<|Bx 2 hGF O<|λb2=>Al 4 hGF ob<|λb4=>aa<|ae<|Xp<|Mv O<|Mv O<|aa<|ah<|bG (ι:={i:Nat // i<=n.toNat}) (λy=>[(2,pnt b2),(4,pnt b4),(5,I n),(6,I (y.1:Int))]) (λy=>[(2,b2,(fe ((dbN x y.1).1)++(fe ((dbN x y.1).2.1)++fe ((dbN x y.1).2.2))).map U64,54),(4,b4,(fe 0++(fe 0++fe 0)).map U64,54)]) (λy=>n.toNat-y.1) ⟨0,Nat.zero_le _⟩ hGF trv trv<|?_;rintro ⟨i,hi⟩;dsimp only;refine Xp<|Bnr (v:=.bool (decide ((i:Int)<n))) O O (λ_=>av _ _ _)<|aa<|ae<|?_;refine bC O (λhc=> ?_) (λhc=> ?_)
 ·have hi2:i<n.toNat:=by simp at hc;omega
  refine ap<|ae<|ah<|Xq<|La 2 O O cj<|Ca O (H3 (dbN x i))<|Sa 2 hGF O O O cj<|aa<|Xq<|Bnr O O (λ_=>aq _ _ _ oi)<|Mv O<|aa<|?_
  repeat (refine aL ?_)
  exact aB<|⟨rfl,⟨i+1,om⟩,_,by show n.toNat-(i+1)<n.toNat-i;omega,rfl,trv,trv⟩
 ·obtain rfl:i=n.toNat:=by simp at hc;omega
  refine aU<|Xp<|La 2 O O cj<|Sa 4 hGF O O O cj<|aa<|ak<|Rr<|?_;exact au 4 O O O isAgg54 sizeOf54 sm (λw hw=>⟨rfl,ab hw⟩)
theorem P0(x:Zp×Zp×Zp)(a:Nat)(ha:a<100000000):PUR 121 [JV x,I (a:Int)] (JV (dbN x a)):=by
 have h:=kP x (a:Int) om;rw[Int.toNat_natCast]at h;exact h
theorem Sg(x:Zp×Zp×Zp)(a b:Nat)(ha:a<100000000):PUR 121 [JV x,I ((a:Int)-(b:Int))] (JV (dbN x (a-b))):=by
 have h:=kP x ((a:Int)-(b:Int)) om;rw[Int.toNat_sub]at h;exact h
def stp(x:Zp×Zp×Zp)(A:(Zp×Zp×Zp)×Nat)(b:Nat):(Zp×Zp×Zp)×Nat:=(adF (dbN A.1 (A.2-b)) x,b)
def stK(x:Zp×Zp×Zp)(L:List Nat)(k:Nat):(Zp×Zp×Zp)×Nat:=(L.take k).foldl (stp x) ((0,0,0),0)
theorem stK_step(x:Zp×Zp×Zp){L:List Nat}{k n:Nat}(h:L[k]? =some n):stK x L (k+1)=stp x (stK x L k) n:=by
 rw[stK,List.take_add_one,h,List.foldl_append];rfl
theorem stK_1(x:Zp×Zp×Zp){L:List Nat}{k n:Nat}(h:L[k]? =some n):(stK x L (k+1)).1=adF (dbN (stK x L k).1 ((stK x L k).2-n)) x:=by rw[stK_step x h];rfl
theorem stK_2(x:Zp×Zp×Zp){L:List Nat}{k n:Nat}(h:L[k]? =some n):(stK x L (k+1)).2=n:=by rw[stK_step x h];rfl
theorem stK_lt(x:Zp×Zp×Zp){L:List Nat}{B:Nat}(h0:0<B)(hL: ∀b∈L,b<B): ∀k,k<=L.length->(stK x L k).2<B
 |0,_=>h0
 |k+1,hk=>by
  obtain ⟨n,hn⟩: ∃n,L[k]? =some n:=⟨L[k]'om,List.getElem?_eq_getElem om⟩;rw[stK_2 x hn];exact hL n (List.mem_of_getElem? hn)
def tmF(x:Zp×Zp×Zp)(L:List Nat):Zp×Zp×Zp:=dbN (stK x L L.length).1 (stK x L L.length).2
theorem stp_jr{x:Zp×Zp×Zp}{P:Pt Zp}(hP:E1.onP P)(hx:E1.jr x P): ∀(L:List Nat) (A:(Zp×Zp×Zp)×Nat) (q:Nat),L.Pairwise (λa b=>b<=a)->E1.jr A.1 (E1.times P q)->(q=0\/∀b∈L,b<=A.2)->∃q',E1.jr (L.foldl (stp x) A).1 (E1.times P q')/\q'*2^(L.foldl (stp x) A).2=q*2^A.2+SOg L
 |[],A,q,_,hA,_=>⟨q,hA,rfl⟩
 |b::L,A,q,hp,hA,hq=>by
  rw[List.pairwise_cons]at hp;have hd:=dbN_jr hP hA (A.2-b);have ha:=Fg (E1.times_on hP _) hP hd hx;obtain ⟨q',h1,h2⟩:=stp_jr hP hx L (stp x A b) (q*2^(A.2-b)+1) hp.2 ha (.inr hp.1);refine ⟨q',h1,h2.trans ?_⟩;show (q*2^(A.2-b)+1)*2^b+SOg L=q*2^A.2+(2^b+SOg L);rcases hq with rfl|hq
  ·rw[Nat.zero_mul,Nat.zero_mul];omega
  ·have hb:=hq b List.mem_cons_self
   rw[Nat.add_mul,Nat.mul_assoc,<-Nat.pow_add,show A.2-b+b=A.2 from by omega]
   omega
theorem tmF_jr{x:Zp×Zp×Zp}{P:Pt Zp}(hP:E1.onP P)(hx:E1.jr x P){L:List Nat}(hL:L.Pairwise (λa b=>b<=a)):E1.jr (tmF x L) (E1.times P (SOg L)):=by
 obtain ⟨q,h1,h2⟩:=stp_jr hP hx L ((0,0,0),0) 0 hL O (.inl O);have e:stK x L L.length=L.foldl (stp x) ((0,0,0),0):=by rw[stK,List.take_length]
 rw[Nat.zero_mul,Nat.zero_add]at h2;have h:=dbN_jr hP h1 (L.foldl (stp x) ((0,0,0),0)).2;rw[h2]at h;rw[tmF,e];exact h
theorem uo{L:List Nat}{k:Nat}{v:List Value}(h:(NLs L)[k]? =some v): ∃n:Nat,L[k]? =some n/\[I (n:Int)]=v:=by
 rw[NLs,List.getElem?_map]at h
 cases e:L[k]? with
 |none=>rw[e]at h;cases h
 |some y=>rw[e]at h;exact ⟨y,rfl,Option.some.inj h⟩
theorem fX(x:Zp×Zp×Zp)(gf:Nat)(caps:List Value)(L:List Nat)(Rd:Cls)(he:ai prog gf)(hseq:fD prog Gt gf caps (NLs L) Rd)(hL: ∀b∈L,b<100000000)(w:World)(hw:Gt w)(hRs: ∀w',Grow w w'->Rd w'):
 CLS 76 [JV x,.func (.func gf) #[] caps.toArray].toArray w (λr w'=>r=.returned (JV (tmF x L))/\Grow w w'):=by
 have hGF:BOk Gt (pl w):=gt_low.plain hw;refine cw (G:=Gt) func76 O O (Hp (pl w) []) (ci (pl w) trivial am) (ay hGF)<|Xp<|Bx 2 hGF O<|λb2=>Al 4 hGF ob<|λb4=>aa<|Xp<|Al 5 hGF ob<|λb5=>aa<|Xp<|gX 6 hGF zeroValue3 O O<|λb6=>dS 6 hGF O O O sizeOf3 O (by first|decide|simp) O<|aa<|ae<|Xp<|Mv O<|aa<|ah<|?_
 refine fc (λ_=>pl w) (λ_ _=>pl w) (λ_=>hGF) (λ_ _=>hGF) (λ_=>rfl) (λ_ _=>rfl) O O he hseq (λx hx=>by obtain ⟨k,hk,rfl⟩:=List.mem_map.1 hx;rfl) O (λk=>[(2,b2,(fe ((x).1)++(fe ((x).2.1)++fe ((x).2.2))).map U64,54),(4,b4,(fe 0++(fe 0++fe 0)).map U64,54),(5,b5,(fe (((stK x L k).1).1)++(fe (((stK x L k).1).2.1)++fe (((stK x L k).1).2.2))).map U64,54),(6,b6,[I ((stK x L k).2:Int)],3)]) (λ_ _ _=>False) trv (λk _ w' h=>hRs w' (h.below (λ_ h=>h))) ?_ ?_ (λ_ _ _ _ _ h=>h.elim)
 ·intro k v hx R hR
  obtain ⟨n,hn,rfl⟩:=uo hx;have hk:k<L.length:=(List.getElem?_eq_some_iff.1 hn).1;have hb:=stK_lt x om hL k (Nat.le_of_lt hk);have hn2:=hL n (List.mem_of_getElem? hn);refine Xq<|Asg O<|aa<|?_;refine ⟨rfl,_,rfl, ?_⟩;refine ah<|Xd []<|La 5 O O cj<|cV 6 O O O isAgg3 O O<|Mv O<|Bnr (v:=I (((stK x L k).2:Int)-(n:Int))) O O (λ_=>aV _ _ _ oi)<|Ca O (Sg (stK x L k).1 (stK x L k).2 n hb)<|La 2 O O cj<|Ca O (yD _ _)<|az 5 (hR (pl w) O hGF).2.1 O O O sizeOf54 sm sm (ba _) O<|aa<|Xq<|Mv O<|dS 6 (hR (pl w) O hGF).2.1 O O O sizeOf3 O (by first|decide|simp) O<|aa<|?_
  repeat (refine aL ?_)
  exact ⟨_,rfl,⟨rfl,rfl,by rw[stK_1 x hn];rfl,by rw[stK_2 x hn];rfl,trivial⟩⟩
 ·intro D hD
  have hb:=stK_lt x om hL L.length (Nat.le_refl _);rw[mq];refine Xp<|La 5 O O cj<|cV 6 O O O isAgg3 O O<|Ca O (P0 (stK x L L.length).1 (stK x L L.length).2 hb)<|Sa 4 hD O O O cj<|aa<|ak<|Rr<|?_;exact dR (.inl O) am (au 4 O O O isAgg54 sizeOf54 sm (λw hw=>⟨rfl,ab hw⟩))
def mlB(x:Zp×Zp×Zp)(bs:L8):Zp×Zp×Zp:=tmF x (oB bs (8*bs.length))
theorem o6{x:Zp×Zp×Zp}{P:Pt Zp}(hP:E1.onP P)(hx:E1.jr x P){bs:L8}{m:Nat}(hm:BN bs bs.length=m):E1.jr (mlB x bs) (E1.times P m):=by
 subst hm;rw[<-xu];exact tmF_jr hP hx (uO _ _ _ (Nat.le_refl _))
theorem jW(x:Zp×Zp×Zp)(e:Option Addr)(cap:Nat)(bs:L8)(hlen:bs.length<=1000000)(w:World)(hw:Gt w)(hby:BytesAt w e bs):
 CLS 312 [JV x,.slice e bs.length cap].toArray w (λr w'=>r=.returned (JV (mlB x bs))/\Grow w w'):=by
 refine Hf func312 O hw<|λhGF=>ac (E:=EE [313,2000313])<|Bx 2 hGF O<|λb2=>Al 4 hGF ob<|λb4=>aa<|Xd [313,2000313]<|La 2 O O cj<|Mv O<|?_;refine bK O O ent313 O O (λw' hw'=>(jG _ O w' (hGF.g _ _ _ hw')).mono λe' w'' h=> ?_);obtain ⟨c1,rfl,hg,h1,ho⟩:=h;refine ⟨_,_,rfl,ay hGF,hw'.news am hg [(33,c1,[.slice e bs.length cap],22)] ?_ bQ,bO am O, ?_⟩
 ·intro n' b' c' t' hl
  rcases aI hl with ⟨_,e⟩|⟨_,hl⟩
  ·cases e;exact ⟨h1,ho⟩
  ·cases hl
 clear hw' hg h1 ho;refine Cc O ent76 (λw' hC hG=>fX x 314 [pnt c1] (oB bs (8*bs.length)) (RdD c1 e cap bs) ent314 (lM c1 e cap bs om) (λb hb=>by have:=Hg hb (Nat.le_refl _);omega) w' hG (λw'' hg=>pU ⟨cM (n:=33) O O w' hC,hby.grow (hC.below (λ_ h=>h))⟩ hg))<|Sa 4 hGF O O O cj<|aa<|ak<|Rr<|?_
 exact au 4 O O O isAgg54 sizeOf54 sm (λw hw=>⟨rfl,ab hw⟩)
def TRB:L8:=[0#8,0#8,0#8,0#8,0#8,0#8,0#8,0#8,95#8,25#8,103#8,47#8,223#8,118#8,206#8,81#8,186#8,105#8,198#8,7#8,106#8,15#8,119#8,234#8,221#8,179#8,169#8,59#8,230#8,248#8,150#8,136#8,222#8,23#8,216#8,19#8,98#8,10#8,0#8,2#8,46#8,1#8,255#8,255#8,255#8,254#8,255#8,254#8]
theorem Uk:FV TRB=zp TRN:=by rw[FV,if_pos ⟨rfl,by decide+kernel⟩,show BN TRB 48=TRN by decide+kernel]
theorem Ib{c:Zp}(hc:zp TRN=c)(e:Option Addr)(cap:Nat)(w:World)(hw:Gt w)(hby:BytesAt w e TRB):CLS 74 [.slice e TRB.length cap].toArray w (λr w'=>r=.returned (.tuple #[EV c,.bool (FO TRB)])/\Grow w w'):=by
 have h:=ec e cap TRB w hw hby;rw[Uk,hc]at h;exact h
def UB8:L8:=[210#8,1#8,0#8,0#8,0#8,1#8,0#8,0#8]
theorem HD:BN UB8 UB8.length=UG:=by decide+kernel
theorem iS{f:Zp×Zp×Zp->Zp×Zp×Zp}(hf: ∀x,mlB x UB8=f x)(x:Zp×Zp×Zp)(b c:Nat)(w:World)(hw:Gt w)(h:w.rangeAt b 0 (UB8.map U8)):CLS 312 [JV x,.slice (spt b) UB8.length c].toArray w (λr w'=>r=.returned (JV (f x))/\Grow w w'):=by
 have k:=jW x (spt b) c UB8 dc w hw (BytesAt.range h);rw[hf]at k;exact k
def tuJ(c:Zp)(x:Zp×Zp×Zp):Zp×Zp×Zp:=(x.1*c,x.2.1,x.2.2)
theorem tu_z(c x z:Zp):x*(z*z)*c=c*x*(z*z):=by grind
theorem F8{c:Zp}{x:Zp×Zp×Zp}{p:Zp×Zp}(hx:E1.jr x (some p)):E1.jr (tuJ c x) (some (c*p.1,p.2)):=by
 refine ⟨hx.1, ?_,hx.2.2⟩;have h1:x.1=p.1*(x.2.2*x.2.2):=hx.2.1;show x.1*c=c*p.1*(x.2.2*x.2.2);rw[h1];exact tu_z _ _ _
theorem tu{c:Zp}{x:Zp×Zp×Zp}(hx:E1.jr x none):E1.jr (tuJ c x) none:=show x.2.2=E1.R.zero from hx
theorem G9(p:Zp×Zp):TW1.p (some p)=some (zp TRN*p.1,p.2):=congrArg some (KR p)
theorem wQ{x:Zp×Zp×Zp}{P:Pt Zp}(hx:E1.jr x P):E1.jr (tuJ (zp TRN) x) (TW1.p P):=by
 cases P with
 |none=>exact tu hx
 |some p=>rw[G9];exact F8 hx
abbrev ngJ(x:Zp×Zp×Zp):Zp×Zp×Zp:=(x.1,-x.2.1,x.2.2)
theorem D9{bs:L8}{m:Nat}(hm:BN bs bs.length=m){x:Zp×Zp×Zp}{P:Pt Zp}(hP:E1.onP P)(hx:E1.jr x P):eqJ (ngJ (mlB (mlB x bs) bs)) (tuJ (zp TRN) x)↔E1.ne (E1.times (E1.times P m) m)=TW1.p P:=eqJ_iff (E1.jr_n (o6 (E1.times_on hP m) (o6 hP hx hm) hm)) (wQ hx)
theorem ml{x:Zp×Zp×Zp}{P:Pt Zp}(hP:E1.onP P)(hx:E1.jr x P):eqJ (ngJ (mlB (mlB x UB8) UB8)) (tuJ (zp TRN) x)↔IG1 P:=D9 HD hP hx
theorem P9{f:Zp×Zp×Zp->Zp×Zp×Zp}(hf: ∀x,mlB x UB8=f x){c:Zp}(hc:zp TRN=c)(x:Zp×Zp×Zp)(hd:Decidable (eqJ (ngJ (f (f x))) (tuJ c x)))(b:Bool)(hb:b=decide (eqJ (ngJ (f (f x))) (tuJ c x))):PUR 311 [JV x] (.bool b):=by
 intro w hw;refine Hf func311 O hw<|λhGF=>ac (E:=EE [1000022])<|Bx 1 hGF O<|λb1=>Asg O<|aa<|ac (E:=EE [1000022])<|dV 7 TRB hGF O O O dc dc underlying22 sizeOf5 zeroValue5 O O<|λb7=>lV 7 O hGF O O underlying22 underlying5 O O<|Cc O ent74 (λw' hC hG=>Ib hc _ _ w' hG (BytesAt.range (hC.own 7 b7 _ _ O).1.range))<|Mv O<|Ext O O<|Ext O O<|Al 3 hGF zv52<|λb3=>Sa 3 hGF O O O bM<|Asg O<|aa<|fG (E:=EE [1000022,2999999]) [0,1,2,3,4,5,6,7,8] [⟨9,5,54,(fe 0++(fe 0++fe 0)).map U64⟩] [10] cY O kr kr kr kr kr kr dc (by intro x hx;simp only[List.mem_cons,List.not_mem_nil,or_false]at hx;subst hx;exact bD O ob O)<|Fa 0 O underlying54 O sizeOf52<|aw 1 _ O O isAgg52 sizeOf52 sm ej O O<|La 3 O O bM<|Ca O (iz _ _)<|Fa 6 O underlying54 O sizeOf52<|aw 1 _ O O isAgg52 sizeOf52 sm (km sm) O O<|Fa 12 O underlying54 O sizeOf52<|aw 1 _ O O isAgg52 sizeOf52 sm (gc (m:=6) (n:=6) sm sm O) O O<|ef s5 O O O sm sm sm O O<|aa<|?_
 refine ⟨_,_,rfl,hGF,by intro x hx;simp only[List.mem_cons,List.not_mem_nil,or_false]at hx;subst hx;rfl,by intro x hx;simp only[List.mem_cons,List.not_mem_nil,or_false]at hx;subst hx;rfl,λadr=> ?_⟩
 refine Sa 5 hGF O O O cj<|aa<|oz (EE [2999998,2999996,1000022]) cY kr kr<|aO (m:=9) [0,8] kr<|La 1 O O cj<|La 5 O O cj<|aa<|ew (m:=8) [1,4] kr kr dc<|?_;intro i hi;simp only[List.mem_cons,List.not_mem_nil,or_false]at hi;rcases hi with rfl|rfl
 ·refine jS 22 UB8 hGF O O O O dc dc underlying22 sizeOf5 zeroValue5 O O<|λb22=>aa<|ew (m:=7) [2,4] kr kr dc<|?_
  intro i hi;simp only[List.mem_cons,List.not_mem_nil,or_false]at hi;rcases hi with rfl|rfl
  ·refine fg 22 O hGF O O underlying22 underlying5 O O<|aa<|aO (m:=6) [3] kr<|Cc O ent312 (λw' hC hG=>iS hf _ _ _ w' hG (aG (n:=22) O w' hC))<|aa<|aO (m:=5) [4] kr<|jS 25 UB8 hGF O O O O dc dc underlying22 sizeOf5 zeroValue5 O O<|λb25=>aa<|aO (m:=4) [5] kr<|fg 25 O hGF O O underlying22 underlying5 O O<|aa<|aO (m:=0) [6,7,9,10] kr<|Cc O ent312 (λw' hC hG=>iS hf _ _ _ w' hG (aG (n:=25) O w' hC))<|Ca O (n9 _)<|Ca O (i7 _ _ hd b hb)<|Asg O<|aa<|cF kr<|aB<|ak<|Rr<|?_
   exact aE O O (λw hw=>⟨rfl,ab hw⟩)
  ·refine jS 25 UB8 hGF O O O O dc dc underlying22 sizeOf5 zeroValue5 O O<|λb25=>aa<|ew (m:=6) [2,5] kr kr dc<|?_
   intro i hi;simp only[List.mem_cons,List.not_mem_nil,or_false]at hi;rcases hi with rfl|rfl
   ·refine fg 22 O hGF O O underlying22 underlying5 O O<|aa<|aO (m:=5) [3] kr<|Cc O ent312 (λw' hC hG=>iS hf _ _ _ w' hG (aG (n:=22) O w' hC))<|aa<|aO (m:=4) [5] kr<|fg 25 O hGF O O underlying22 underlying5 O O<|aa<|aO (m:=0) [6,7,9,10] kr<|Cc O ent312 (λw' hC hG=>iS hf _ _ _ w' hG (aG (n:=25) O w' hC))<|Ca O (n9 _)<|Ca O (i7 _ _ hd b hb)<|Asg O<|aa<|cF kr<|aB<|ak<|Rr<|?_
    exact aE O O (λw hw=>⟨rfl,ab hw⟩)
   ·refine fg 25 O hGF O O underlying22 underlying5 O O<|aa<|aO (m:=5) [2] kr<|fg 22 O hGF O O underlying22 underlying5 O O<|aa<|aO (m:=0) [3,6,7,9,10] kr<|Cc O ent312 (λw' hC hG=>iS hf _ _ _ w' hG (aG (n:=22) O w' hC))<|Cc O ent312 (λw' hC hG=>iS hf _ _ _ w' hG (aG (n:=25) O w' hC))<|Ca O (n9 _)<|Ca O (i7 _ _ hd b hb)<|Asg O<|aa<|cF kr<|aB<|ak<|Rr<|?_
    exact aE O O (λw hw=>⟨rfl,ab hw⟩)
 ·refine jS 25 UB8 hGF O O O O dc dc underlying22 sizeOf5 zeroValue5 O O<|λb25=>aa<|ew (m:=7) [1,5] kr kr dc<|?_
  intro i hi;simp only[List.mem_cons,List.not_mem_nil,or_false]at hi;rcases hi with rfl|rfl
  ·refine jS 22 UB8 hGF O O O O dc dc underlying22 sizeOf5 zeroValue5 O O<|λb22=>aa<|ew (m:=6) [2,5] kr kr dc<|?_
   intro i hi;simp only[List.mem_cons,List.not_mem_nil,or_false]at hi;rcases hi with rfl|rfl
   ·refine fg 22 O hGF O O underlying22 underlying5 O O<|aa<|aO (m:=5) [3] kr<|Cc O ent312 (λw' hC hG=>iS hf _ _ _ w' hG (aG (n:=22) O w' hC))<|aa<|aO (m:=4) [5] kr<|fg 25 O hGF O O underlying22 underlying5 O O<|aa<|aO (m:=0) [6,7,9,10] kr<|Cc O ent312 (λw' hC hG=>iS hf _ _ _ w' hG (aG (n:=25) O w' hC))<|Ca O (n9 _)<|Ca O (i7 _ _ hd b hb)<|Asg O<|aa<|cF kr<|aB<|ak<|Rr<|?_
    exact aE O O (λw hw=>⟨rfl,ab hw⟩)
   ·refine fg 25 O hGF O O underlying22 underlying5 O O<|aa<|aO (m:=5) [2] kr<|fg 22 O hGF O O underlying22 underlying5 O O<|aa<|aO (m:=0) [3,6,7,9,10] kr<|Cc O ent312 (λw' hC hG=>iS hf _ _ _ w' hG (aG (n:=22) O w' hC))<|Cc O ent312 (λw' hC hG=>iS hf _ _ _ w' hG (aG (n:=25) O w' hC))<|Ca O (n9 _)<|Ca O (i7 _ _ hd b hb)<|Asg O<|aa<|cF kr<|aB<|ak<|Rr<|?_
    exact aE O O (λw hw=>⟨rfl,ab hw⟩)
  ·refine fg 25 O hGF O O underlying22 underlying5 O O<|aa<|aO (m:=6) [1] kr<|jS 22 UB8 hGF O O O O dc dc underlying22 sizeOf5 zeroValue5 O O<|λb22=>aa<|aO (m:=5) [2] kr<|fg 22 O hGF O O underlying22 underlying5 O O<|aa<|aO (m:=0) [3,6,7,9,10] kr<|Cc O ent312 (λw' hC hG=>iS hf _ _ _ w' hG (aG (n:=22) O w' hC))<|Cc O ent312 (λw' hC hG=>iS hf _ _ _ w' hG (aG (n:=25) O w' hC))<|Ca O (n9 _)<|Ca O (i7 _ _ hd b hb)<|Asg O<|aa<|cF kr<|aB<|ak<|Rr<|?_
   exact aE O O (λw hw=>⟨rfl,ab hw⟩)
def gInf:GP:=⟨(0,0,0),none,True.intro,rfl⟩
def xv:GP:=⟨(zp G1x,zp G1y,1),some G1p,go o7,vY⟩
def DI(p q:GP):GP:=⟨adF p.J q.J,E1.ad p.P q.P,E1.ad_on p.on q.on,Fg p.on q.on p.jr q.jr⟩
def kp(p:GP):GP:=⟨(p.J.1,-p.J.2.1,p.J.2.2),E1.ne p.P,E1.ne_on p.on,E1.jr_n p.jr⟩
theorem W8(x y:Zp):E1.jr (x,y,1) (some (x,y)):=E1.jr_at (x,y) jI
def Df(x:Zp)(l:Bool)(h:LQ x):GP:=⟨(x,LY x l,1),some (x,LY x l),K5 h l,W8 x (LY x l)⟩
theorem zv54(w:World):(zeroValue 54).run prog w=.ok (PtV gInf) w:=ob w
theorem xy_w{J:Zp×Zp×Zp}{p:Zp×Zp}(h:E1.jr J (some p)){v:Zp}(hv:J.2.2*v=1):J.1*(v*v)=p.1/\J.2.1*(v*v*v)=p.2:=by
 have hx:J.1=p.1*(J.2.2*J.2.2):=h.2.1;have hy:J.2.1=p.2*(J.2.2*J.2.2*J.2.2):=h.2.2;obtain ⟨z,hz⟩: ∃z,J.2.2=z:=⟨_,rfl⟩;rw[hz]at hx hy hv;refine ⟨?_, ?_⟩
 ·rw[hx,show p.1*(z*z)*(v*v)=p.1*((z*v)*(z*v))from by grind,hv,oe,rq]
 ·rw[hy,show p.2*(z*z*z)*(v*v*v)=p.2*((z*v)*((z*v)*(z*v)))from by grind,hv,oe,oe,rq]
theorem F2{J:Zp×Zp×Zp}{P:Pt Zp}(h:E1.jr J P)(hn: ¬P=none){v:Zp}(hv: ¬J.2.2=0->J.2.2*v=1):J.1*(v*v)=PX P/\J.2.1*(v*v*v)=PY P:=by
 cases P with
 |none=>exact absurd O hn
 |some p=>exact xy_w h (hv h.1)
theorem HJ  :PUR 32 [] (PtV xv):=jgen
theorem lq  :PUR 46 [] (PtV gInf):=EZ
theorem oG(p:GP):PUR 20 [PtV p] (.bool (decide (p.P=none))):=by
 have h:=ug p.J;rw[show decide (p.J.2.2=0)=decide (p.P=none)from decide_eq_decide.2 (E1.jr_z p.jr)]at h;exact h
theorem mB(p q:GP):PUR 310 [PtV p,PtV q] (.bool (decide (p.P=q.P))):= 
 have hd:Decidable (eqJ p.J q.J):=decidable_of_iff _ (eqJ_iff p.jr q.jr).symm
 i7 p.J q.J hd _ (decide_eq_decide.2 (eqJ_iff p.jr q.jr).symm)
theorem Dw(p q:GP):PUR 122 [PtV p,PtV q] (PtV (DI p q)):=yD p.J q.J
theorem vn(p:GP):PUR 112 [PtV p] (PtV (kp p)):=n9 p.J
theorem Fi(p:GP)(h:p.P=none):PUR 70 [PtV p] (.tuple #[EV 0,EV 0,.bool false]):=zP p.J ((E1.jr_z p.jr).2 h)
theorem wz(p:GP)(h: ¬p.P=none):PUR 70 [PtV p] (.tuple #[EV (PX p.P),EV (PY p.P),.bool true]):=by
 have k:=zd p.J (λe=>h ((E1.jr_z p.jr).1 e));have e:=F2 p.jr h (v:=p.J.2.2^(PP-2)) (λh=>nf h);rw[e.1,e.2]at k;exact k
theorem KV{a:Zp}(h:LQ a):PUR 152 [EV (RS4 a)] (.tuple #[EV (SQ (RS4 a)),.bool true]):=decide_eq_true h▸lY (RS4 a)
theorem Bq{x y:Zp}{l:Bool}(h:LQ x)(e:LY x l=y)(k:PUR 94 [EV x,.bool l] (.tuple #[JV (x,y,1),.bool true])):PUR 94 [EV x,.bool l] (.tuple #[PtV (Df x l h),.bool true]):=by
 subst e;exact k
theorem Nl{a:Zp}(h: ¬LQ a):PUR 152 [EV (RS4 a)] (.tuple #[EV (SQ (RS4 a)),.bool false]):=decide_eq_false h▸lY (RS4 a)
theorem w7(x:Zp)(l:Bool)(h:LQ x):PUR 94 [EV x,.bool l] (.tuple #[PtV (Df x l h),.bool true]):=by
 cases l with
 |true=>exact Bq h (Xc h) (qN x _ (KV h))
 |false=>exact Bq h (Wb h) (qy x _ (KV h))
theorem yg(x:Zp)(l:Bool)(h: ¬LQ x):PUR 94 [EV x,.bool l] (.tuple #[PtV gInf,.bool false]):=by
 cases l with
 |true=>exact pO x _ (Nl h)
 |false=>exact qR x _ (Nl h)
theorem fj(p:GP):PUR 311 [PtV p] (.bool (decide (IG1 p.P))):= 
 have hd:Decidable (eqJ (ngJ (mlB (mlB p.J UB8) UB8)) (tuJ (zp TRN) p.J)):=decidable_of_iff _ (ml p.on p.jr).symm
 P9 (λ_=>rfl) O p.J hd _ (decide_eq_decide.2 (ml p.on p.jr).symm)
end J1
end
theorem H5:on2≠ze2:=λh=>absurd (congrArg Prod.fst h) jI
theorem kQ(p:W2×W2):E2w.jr (p.1,p.2,on2) (some p):=E2w.jr_at p H5
section
open Go.RowKit
theorem ent132:ai prog 132:=λ_ _=>kr
theorem ent316:ai prog 316:=λ_ _=>kr
theorem ent180:ai prog 180:=λ_ _=>kr
theorem ent317:ai prog 317:=λ_ _=>kr
theorem ent80:ai prog 80:=λ_ _=>kr
theorem ent190:ai prog 190:=λ_ _=>kr
theorem ent215:ai prog 215:=λ_ _=>kr
theorem ent127:ai prog 127:=λ_ _=>kr
theorem ent173:ai prog 173:=λ_ _=>kr
theorem ent82:ai prog 82:=λ_ _=>kr
theorem ent318:ai prog 318:=λ_ _=>kr
theorem ent252:ai prog 252:=λ_ _=>kr
theorem ent207:ai prog 207:=λ_ _=>kr
namespace J2
attribute [local simp] a6 bv aH aA aQ aY aR aK aM PLl cJ cH N1l cI cL cK bf bB a7 bu
structure GP where
 J:W6
 P:Pt W2
 on:E2w.onP P
 jr:E2w.jr J P
def GL(p:GP):L6:=((fe p.J.1.1++fe p.J.1.2)++((fe p.J.2.1.1++fe p.J.2.1.2)++(fe p.J.2.2.1++fe p.J.2.2.2)))
theorem bx(p:GP):(GL p).length=36:=by simp[GL]
attribute [local simp] bx
abbrev PtV(p:GP):Value:=aJ (GL p)
def PX:Pt W2->W2
 |none=>ze2
 |some p=>p.1
def PY:Pt W2->W2
 |none=>ze2
 |some p=>p.2
def RS4(x:W2):W2:=ad2 (ml2 (ml2 x x) x) E2w.b
abbrev LQ(x:W2):Prop:=IsQ (nm2 (RS4 x))
theorem nA{x y:W2}:E2w.on (x,y)↔ml2 y y=RS4 x:=by
 show ml2 y y=ad2 (ml2 x (ml2 x x)) E2w.b↔ml2 y y=ad2 (ml2 (ml2 x x) x) E2w.b;rw[show ml2 x (ml2 x x)=ml2 (ml2 x x) x from R2.mul_comm _ _]
theorem go{p:W2×W2}(h:E2w.on p):E2w.onP (some p):=h
def sgY(r:W2):Bool->W2
 |true=>ng2 r
 |false=>r
theorem Lt(r:W2):ml2 (ng2 r) (ng2 r)=ml2 r r:=zq R2 [r] (tm (tn j0) (tn j0)) (tm j0 j0)
theorem E4{x r:W2}(hr:ml2 r r=RS4 x)(l:Bool):ml2 (sgY r l) (sgY r l)=RS4 x:=by
 cases l with
 |true=>exact (Lt r).trans hr
 |false=>exact hr
theorem od(w:World):(zeroValue 80).run prog w=.ok (aJ ((fe 0++fe 0)++((fe 0++fe 0)++(fe 0++fe 0)))) w:=by rw[i2];exact (zeroValue80 w).trans rr
theorem oI:Three prog 80 ⟨ "x",78,0,false, "", "pharos/g2",0⟩ ⟨ "y",78,12,false, "", "pharos/g2",96⟩ ⟨ "z",78,24,false, "", "pharos/g2",192⟩ 12 (fe 0++fe 0) (fe 0++fe 0) (fe 0++fe 0):=⟨underlying80,rfl,rfl,rfl,sizeOf78,sizeOf78,sizeOf78,od,sm,sm,sm⟩
theorem Su(x y:W2):PUR 181 [EV2 x,EV2 y] (EV2 (E2w.sub x y)):=by
 have h:=ku x y;rw[m6]at h;exact h
def TO61:Tb prog Gt:=TO59.add (cT (g:=E2w.sub) ent181 Su)
theorem ug(x:W6):PUR 127 [EV6 x] (.bool (decide (x.2.2=ze2))):=(bT (l1 (V6 _)) O (pE TO61 func127 [.inl [x.1.1,x.1.2,x.2.1.1,x.2.1.2,x.2.2.1,x.2.2.2]] (.inl (.inr (.inl (decide (x.2.2=ze2))))) (.inl (.inr (.inl (decide ((x.2.2.1,x.2.2.2)=ze2)))),[]) [] kr aD O))
def TO62:Tb prog Gt:=TO61.add (rC (g:=λx=>decide (x.2.2=ze2)) ent127 ug)
theorem n9(x:W6):PUR 318 [EV6 x] (EV6 (x.1,ng2 x.2.1,x.2.2)):=(bT (l1 (V6 _)) (V6 _) (pE TO62 func318 [.inl [x.1.1,x.1.2,x.2.1.1,x.2.1.2,x.2.2.1,x.2.2.2]] (.inl (.inl [(x.1,ng2 x.2.1,x.2.2).1.1,(x.1,ng2 x.2.1,x.2.2).1.2,(x.1,ng2 x.2.1,x.2.2).2.1.1,(x.1,ng2 x.2.1,x.2.2).2.1.2,(x.1,ng2 x.2.1,x.2.2).2.2.1,(x.1,ng2 x.2.1,x.2.2).2.2.2])) (let t0:=ng2 (x.2.1.1,x.2.1.2);(.inl (.inl [x.1.1,x.1.2,t0.1,t0.2,x.2.2.1,x.2.2.2]),[])) [] kr aD O))
def TO63:Tb prog Gt:=TO62.add (cN (g:=λx=>(x.1,ng2 x.2.1,x.2.2)) ent318 n9)
theorem EZ  :PUR 190 [] (EV6 (ze2,ze2,ze2)):=(bT O (V6 _) (pE TO63 func190 [] (.inl (.inl [(ze2,ze2,ze2).1.1,(ze2,ze2,ze2).1.2,(ze2,ze2,ze2).2.1.1,(ze2,ze2,ze2).2.1.2,(ze2,ze2,ze2).2.2.1,(ze2,ze2,ze2).2.2.2])) (.inl (.inl [0,0,0,0,0,0]),[]) [] kr aD O))
theorem zi{f:Nat}{g:W6}(en:ai prog f)(h:PUR f [] (EV6 g)):Snd prog Gt f (c0 q6.rd g):=vJ q6.rd en (bT O (V6 _).symm h)
def TO64:Tb prog Gt:=TO63.add (zi (g:=(ze2,ze2,ze2)) ent190 EZ)
theorem AH(a:W2):PUR 252 [EV2 a] (EV2 (ml2 (ml2 a a) a)):=pE TO64 func252 [.inl [a.1,a.2]] (.inl (.inl [(ml2 (ml2 a a) a).1,(ml2 (ml2 a a) a).2])) (let t0:=ml2 a a;let t1:=ml2 (t0.1,t0.2) a;(.inl (.inl [t1.1,t1.2]),[])) [] kr aD O
def TO65:Tb prog Gt:=TO64.add (dU (g:=λa=>ml2 (ml2 a a) a) ent252 AH)
theorem H3(x:W6):PUR 180 [EV6 x] (EV6 (E2w.dbA x)):=(bT (l1 (V6 _)) (V6 _) (pE TO65 func180 [.inl [x.1.1,x.1.2,x.2.1.1,x.2.1.2,x.2.2.1,x.2.2.2]] (.inl (.inl [(E2w.dbA x).1.1,(E2w.dbA x).1.2,(E2w.dbA x).2.1.1,(E2w.dbA x).2.1.2,(E2w.dbA x).2.2.1,(E2w.dbA x).2.2.2])) (let t0:=ad2 (x.2.1.1,x.2.1.2) (x.2.1.1,x.2.1.2);let t1:=ml2 (x.1.1,x.1.2) (x.1.1,x.1.2);let t2:=ad2 (t1.1,t1.2) (t1.1,t1.2);let t3:=ad2 (t2.1,t2.2) (t1.1,t1.2);let t4:=ml2 (t0.1,t0.2) (t0.1,t0.2);let t5:=ml2 (t4.1,t4.2) (x.1.1,x.1.2);let t6:=ml2 (t3.1,t3.2) (t3.1,t3.2);let t7:=E2w.sub (t6.1,t6.2) (t5.1,t5.2);let t8:=E2w.sub (t7.1,t7.2) (t5.1,t5.2);let t9:=E2w.sub (t5.1,t5.2) (t8.1,t8.2);let t10:=ml2 (t3.1,t3.2) (t9.1,t9.2);let t11:=ml2 (t4.1,t4.2) (t0.1,t0.2);let t12:=ml2 (t11.1,t11.2) (x.2.1.1,x.2.1.2);let t13:=E2w.sub (t10.1,t10.2) (t12.1,t12.2);let t14:=ml2 (x.2.2.1,x.2.2.2) (t0.1,t0.2);(.inl (.inl [t8.1,t8.2,t13.1,t13.2,t14.1,t14.2]),[])) [] kr aD O))
def TO66:Tb prog Gt:=TO65.add (cN (g:=E2w.dbA) ent180 H3)
theorem yD(x y:W6):PUR 132 [EV6 x,EV6 y] (EV6 (E2w.adA x y)):=by
 by_cases h1:x.2.2=ze2
 ·exact (bT (l2 (V6 _) (V6 _)) (V6 _) (pE TO66 func132 [.inl [x.1.1,x.1.2,x.2.1.1,x.2.1.2,x.2.2.1,x.2.2.2],.inl [y.1.1,y.1.2,y.2.1.1,y.2.1.2,y.2.2.1,y.2.2.2]] (.inl (.inl [(E2w.adA x y).1.1,(E2w.adA x y).1.2,(E2w.adA x y).2.1.1,(E2w.adA x y).2.1.2,(E2w.adA x y).2.2.1,(E2w.adA x y).2.2.2])) (.inl (.inl [y.1.1,y.1.2,y.2.1.1,y.2.1.2,y.2.2.1,y.2.2.2]),[(decide (x.2.2=ze2),true)]) [some true] kr (ao (decide_eq_true h1) aD) (by rw[show E2w.adA x y=y from if_pos h1]<;>exact rfl)))
 ·by_cases h2:y.2.2=ze2
  ·exact (bT (l2 (V6 _) (V6 _)) (V6 _) (pE TO66 func132 [.inl [x.1.1,x.1.2,x.2.1.1,x.2.1.2,x.2.2.1,x.2.2.2],.inl [y.1.1,y.1.2,y.2.1.1,y.2.1.2,y.2.2.1,y.2.2.2]] (.inl (.inl [(E2w.adA x y).1.1,(E2w.adA x y).1.2,(E2w.adA x y).2.1.1,(E2w.adA x y).2.1.2,(E2w.adA x y).2.2.1,(E2w.adA x y).2.2.2])) (.inl (.inl [x.1.1,x.1.2,x.2.1.1,x.2.1.2,x.2.2.1,x.2.2.2]),[(decide (x.2.2=ze2),false),(decide (y.2.2=ze2),true)]) [some false,some true] kr (ao (decide_eq_false h1) (ao (decide_eq_true h2) aD)) (by rw[show E2w.adA x y=x from (if_neg h1).trans (if_pos h2)]<;>exact rfl)))
  ·by_cases h3:E2w.jh x.1 x.2.2 y.1 y.2.2=ze2
   ·by_cases h4:E2w.jq x.2.1 x.2.2 y.2.1 y.2.2=ze2
    ·exact (bT (l2 (V6 _) (V6 _)) (V6 _) (pE TO66 func132 [.inl [x.1.1,x.1.2,x.2.1.1,x.2.1.2,x.2.2.1,x.2.2.2],.inl [y.1.1,y.1.2,y.2.1.1,y.2.1.2,y.2.2.1,y.2.2.2]] (.inl (.inl [(E2w.adA x y).1.1,(E2w.adA x y).1.2,(E2w.adA x y).2.1.1,(E2w.adA x y).2.1.2,(E2w.adA x y).2.2.1,(E2w.adA x y).2.2.2])) (let t0:=ml2 (x.2.2.1,x.2.2.2) (x.2.2.1,x.2.2.2);let t1:=ml2 (y.2.2.1,y.2.2.2) (y.2.2.1,y.2.2.2);let t2:=ml2 (x.1.1,x.1.2) (t1.1,t1.2);let t3:=ml2 (x.2.1.1,x.2.1.2) (t1.1,t1.2);let t4:=ml2 (t3.1,t3.2) (y.2.2.1,y.2.2.2);let t5:=ml2 (y.1.1,y.1.2) (t0.1,t0.2);let t6:=E2w.sub (t5.1,t5.2) (t2.1,t2.2);let t7:=ml2 (y.2.1.1,y.2.1.2) (t0.1,t0.2);let t8:=ml2 (t7.1,t7.2) (x.2.2.1,x.2.2.2);let t9:=E2w.sub (t8.1,t8.2) (t4.1,t4.2);let t10:=E2w.dbA x;(.inl (.inl [t10.1.1,t10.1.2,t10.2.1.1,t10.2.1.2,t10.2.2.1,t10.2.2.2]),[(decide (x.2.2=ze2),false),(decide (y.2.2=ze2),false),(decide ((t6.1,t6.2)=ze2),true),(decide ((t9.1,t9.2)=ze2),true)])) [some false,some false,some true,some true] kr (ao (decide_eq_false h1) (ao (decide_eq_false h2) (ao (decide_eq_true h3) (ao (decide_eq_true h4) aD)))) (by rw[show E2w.adA x y=E2w.dbA x from (if_neg h1).trans ((if_neg h2).trans ((if_pos h3).trans (if_pos h4)))]<;>exact rfl)))
    ·exact (bT (l2 (V6 _) (V6 _)) (V6 _) (pE TO66 func132 [.inl [x.1.1,x.1.2,x.2.1.1,x.2.1.2,x.2.2.1,x.2.2.2],.inl [y.1.1,y.1.2,y.2.1.1,y.2.1.2,y.2.2.1,y.2.2.2]] (.inl (.inl [(E2w.adA x y).1.1,(E2w.adA x y).1.2,(E2w.adA x y).2.1.1,(E2w.adA x y).2.1.2,(E2w.adA x y).2.2.1,(E2w.adA x y).2.2.2])) (let t0:=ml2 (x.2.2.1,x.2.2.2) (x.2.2.1,x.2.2.2);let t1:=ml2 (y.2.2.1,y.2.2.2) (y.2.2.1,y.2.2.2);let t2:=ml2 (x.1.1,x.1.2) (t1.1,t1.2);let t3:=ml2 (x.2.1.1,x.2.1.2) (t1.1,t1.2);let t4:=ml2 (t3.1,t3.2) (y.2.2.1,y.2.2.2);let t5:=ml2 (y.1.1,y.1.2) (t0.1,t0.2);let t6:=E2w.sub (t5.1,t5.2) (t2.1,t2.2);let t7:=ml2 (y.2.1.1,y.2.1.2) (t0.1,t0.2);let t8:=ml2 (t7.1,t7.2) (x.2.2.1,x.2.2.2);let t9:=E2w.sub (t8.1,t8.2) (t4.1,t4.2);(.inl (.inl [0,0,0,0,0,0]),[(decide (x.2.2=ze2),false),(decide (y.2.2=ze2),false),(decide ((t6.1,t6.2)=ze2),true),(decide ((t9.1,t9.2)=ze2),false),(decide ((t6.1,t6.2)=ze2),true)])) [some false,some false,some true,some false,some true] kr (ao (decide_eq_false h1) (ao (decide_eq_false h2) (ao (decide_eq_true h3) (ao (decide_eq_false h4) (ao (decide_eq_true h3) aD))))) (by rw[show E2w.adA x y=(ze2,ze2,ze2)from (if_neg h1).trans ((if_neg h2).trans ((if_pos h3).trans (if_neg h4)))]<;>exact rfl)))
   ·exact (bT (l2 (V6 _) (V6 _)) (V6 _) (pE TO66 func132 [.inl [x.1.1,x.1.2,x.2.1.1,x.2.1.2,x.2.2.1,x.2.2.2],.inl [y.1.1,y.1.2,y.2.1.1,y.2.1.2,y.2.2.1,y.2.2.2]] (.inl (.inl [(E2w.adA x y).1.1,(E2w.adA x y).1.2,(E2w.adA x y).2.1.1,(E2w.adA x y).2.1.2,(E2w.adA x y).2.2.1,(E2w.adA x y).2.2.2])) (let t0:=ml2 (x.2.2.1,x.2.2.2) (x.2.2.1,x.2.2.2);let t1:=ml2 (y.2.2.1,y.2.2.2) (y.2.2.1,y.2.2.2);let t2:=ml2 (x.1.1,x.1.2) (t1.1,t1.2);let t3:=ml2 (x.2.1.1,x.2.1.2) (t1.1,t1.2);let t4:=ml2 (t3.1,t3.2) (y.2.2.1,y.2.2.2);let t5:=ml2 (y.1.1,y.1.2) (t0.1,t0.2);let t6:=E2w.sub (t5.1,t5.2) (t2.1,t2.2);let t7:=ml2 (y.2.1.1,y.2.1.2) (t0.1,t0.2);let t8:=ml2 (t7.1,t7.2) (x.2.2.1,x.2.2.2);let t9:=E2w.sub (t8.1,t8.2) (t4.1,t4.2);let t10:=ml2 (t6.1,t6.2) (t6.1,t6.2);let t11:=ml2 (t10.1,t10.2) (t6.1,t6.2);let t12:=ml2 (t10.1,t10.2) (t2.1,t2.2);let t13:=ml2 (t9.1,t9.2) (t9.1,t9.2);let t14:=E2w.sub (t13.1,t13.2) (t11.1,t11.2);let t15:=E2w.sub (t14.1,t14.2) (t12.1,t12.2);let t16:=E2w.sub (t15.1,t15.2) (t12.1,t12.2);let t17:=E2w.sub (t12.1,t12.2) (t16.1,t16.2);let t18:=ml2 (t9.1,t9.2) (t17.1,t17.2);let t19:=ml2 (t11.1,t11.2) (t4.1,t4.2);let t20:=E2w.sub (t18.1,t18.2) (t19.1,t19.2);let t21:=ml2 (x.2.2.1,x.2.2.2) (y.2.2.1,y.2.2.2);let t22:=ml2 (t21.1,t21.2) (t6.1,t6.2);(.inl (.inl [t16.1,t16.2,t20.1,t20.2,t22.1,t22.2]),[(decide (x.2.2=ze2),false),(decide (y.2.2=ze2),false),(decide ((t6.1,t6.2)=ze2),false),(decide ((t6.1,t6.2)=ze2),false)])) [some false,some false,some false,some false] kr (ao (decide_eq_false h1) (ao (decide_eq_false h2) (ao (decide_eq_false h3) (ao (decide_eq_false h3) aD)))) (by rw[show E2w.adA x y=E2w.adG x y from (if_neg h1).trans ((if_neg h2).trans (if_neg h3))]<;>exact rfl)))
def TO67:Tb prog Gt:=TO66.add (cx (g:=E2w.adA) ent132 yD)
theorem i7(x y:W6)(hd:Decidable (E2w.eqJ x y))(b:Bool)(hb:b=decide (E2w.eqJ x y)):PUR 316 [EV6 x,EV6 y] (.bool b):=by
 by_cases h1:x.2.2=ze2
 ·by_cases h2:y.2.2=ze2
  ·exact (bT (l2 (V6 _) (V6 _)) O (pE TO67 func316 [.inl [x.1.1,x.1.2,x.2.1.1,x.2.1.2,x.2.2.1,x.2.2.2],.inl [y.1.1,y.1.2,y.2.1.1,y.2.1.2,y.2.2.1,y.2.2.2]] (.inl (.inr (.inl b))) (.inl (.inr (.inl true)),[(decide (x.2.2=ze2),true),(decide (x.2.2=ze2),true),(decide (y.2.2=ze2),true)]) [some true,some true,some true] kr (ao (decide_eq_true h1) (ao (decide_eq_true h1) (ao (decide_eq_true h2) aD))) (by obtain rfl:b=true:=hb.trans (decide_eq_true (.inl ⟨h1,h2⟩))<;>exact rfl)))
  ·exact (bT (l2 (V6 _) (V6 _)) O (pE TO67 func316 [.inl [x.1.1,x.1.2,x.2.1.1,x.2.1.2,x.2.2.1,x.2.2.2],.inl [y.1.1,y.1.2,y.2.1.1,y.2.1.2,y.2.2.1,y.2.2.2]] (.inl (.inr (.inl b))) (.inl (.inr (.inl false)),[(decide (x.2.2=ze2),true),(decide (x.2.2=ze2),true),(decide (y.2.2=ze2),false)]) [some true,some true,some false] kr (ao (decide_eq_true h1) (ao (decide_eq_true h1) (ao (decide_eq_false h2) aD))) (by obtain rfl:b=false:=hb.trans (decide_eq_false (λe=>e.elim (λe=>h2 e.2) (λe=>e.1 h1)))<;>exact rfl)))
 ·by_cases h2:y.2.2=ze2
  ·exact (bT (l2 (V6 _) (V6 _)) O (pE TO67 func316 [.inl [x.1.1,x.1.2,x.2.1.1,x.2.1.2,x.2.2.1,x.2.2.2],.inl [y.1.1,y.1.2,y.2.1.1,y.2.1.2,y.2.2.1,y.2.2.2]] (.inl (.inr (.inl b))) (.inl (.inr (.inl false)),[(decide (x.2.2=ze2),false),(decide (y.2.2=ze2),true),(decide (x.2.2=ze2),false)]) [some false,some true,some false] kr (ao (decide_eq_false h1) (ao (decide_eq_true h2) (ao (decide_eq_false h1) aD))) (by obtain rfl:b=false:=hb.trans (decide_eq_false (λe=>e.elim (λe=>h1 e.1) (λe=>e.2.1 h2)))<;>exact rfl)))
  ·by_cases h3:ml2 x.1 (ml2 y.2.2 y.2.2)=ml2 y.1 (ml2 x.2.2 x.2.2)
   ·by_cases h4:ml2 x.2.1 (ml2 (ml2 y.2.2 y.2.2) y.2.2)=ml2 y.2.1 (ml2 (ml2 x.2.2 x.2.2) x.2.2)
    ·exact (bT (l2 (V6 _) (V6 _)) O (pE TO67 func316 [.inl [x.1.1,x.1.2,x.2.1.1,x.2.1.2,x.2.2.1,x.2.2.2],.inl [y.1.1,y.1.2,y.2.1.1,y.2.1.2,y.2.2.1,y.2.2.2]] (.inl (.inr (.inl b))) (let t0:=ml2 (ml2 (y.2.2.1,y.2.2.2) (y.2.2.1,y.2.2.2)) (y.2.2.1,y.2.2.2);let t1:=ml2 (x.2.1.1,x.2.1.2) (t0.1,t0.2);let t2:=ml2 (ml2 (x.2.2.1,x.2.2.2) (x.2.2.1,x.2.2.2)) (x.2.2.1,x.2.2.2);let t3:=ml2 (y.2.1.1,y.2.1.2) (t2.1,t2.2);let t4:=ml2 (y.2.2.1,y.2.2.2) (y.2.2.1,y.2.2.2);let t5:=ml2 (x.1.1,x.1.2) (t4.1,t4.2);let t6:=ml2 (x.2.2.1,x.2.2.2) (x.2.2.1,x.2.2.2);let t7:=ml2 (y.1.1,y.1.2) (t6.1,t6.2);(.inl (.inr (.inl true)),[(decide (x.2.2=ze2),false),(decide (y.2.2=ze2),false),(decide ((t5.1,t5.2)=(t7.1,t7.2)),true),(decide ((t1.1,t1.2)=(t3.1,t3.2)),true)])) [some false,some false,some true,some true] kr (ao (decide_eq_false h1) (ao (decide_eq_false h2) (ao (decide_eq_true h3) (ao (decide_eq_true h4) aD)))) (by obtain rfl:b=true:=hb.trans (decide_eq_true (.inr ⟨h1,h2,h3,h4⟩))<;>exact rfl)))
    ·exact (bT (l2 (V6 _) (V6 _)) O (pE TO67 func316 [.inl [x.1.1,x.1.2,x.2.1.1,x.2.1.2,x.2.2.1,x.2.2.2],.inl [y.1.1,y.1.2,y.2.1.1,y.2.1.2,y.2.2.1,y.2.2.2]] (.inl (.inr (.inl b))) (let t0:=ml2 (ml2 (y.2.2.1,y.2.2.2) (y.2.2.1,y.2.2.2)) (y.2.2.1,y.2.2.2);let t1:=ml2 (x.2.1.1,x.2.1.2) (t0.1,t0.2);let t2:=ml2 (ml2 (x.2.2.1,x.2.2.2) (x.2.2.1,x.2.2.2)) (x.2.2.1,x.2.2.2);let t3:=ml2 (y.2.1.1,y.2.1.2) (t2.1,t2.2);let t4:=ml2 (y.2.2.1,y.2.2.2) (y.2.2.1,y.2.2.2);let t5:=ml2 (x.1.1,x.1.2) (t4.1,t4.2);let t6:=ml2 (x.2.2.1,x.2.2.2) (x.2.2.1,x.2.2.2);let t7:=ml2 (y.1.1,y.1.2) (t6.1,t6.2);(.inl (.inr (.inl false)),[(decide (x.2.2=ze2),false),(decide (y.2.2=ze2),false),(decide ((t5.1,t5.2)=(t7.1,t7.2)),true),(decide ((t1.1,t1.2)=(t3.1,t3.2)),false)])) [some false,some false,some true,some false] kr (ao (decide_eq_false h1) (ao (decide_eq_false h2) (ao (decide_eq_true h3) (ao (decide_eq_false h4) aD)))) (by obtain rfl:b=false:=hb.trans (decide_eq_false (λe=>e.elim (λe=>h1 e.1) (λe=>h4 e.2.2.2)))<;>exact rfl)))
   ·exact (bT (l2 (V6 _) (V6 _)) O (pE TO67 func316 [.inl [x.1.1,x.1.2,x.2.1.1,x.2.1.2,x.2.2.1,x.2.2.2],.inl [y.1.1,y.1.2,y.2.1.1,y.2.1.2,y.2.2.1,y.2.2.2]] (.inl (.inr (.inl b))) (let t4:=ml2 (y.2.2.1,y.2.2.2) (y.2.2.1,y.2.2.2);let t5:=ml2 (x.1.1,x.1.2) (t4.1,t4.2);let t6:=ml2 (x.2.2.1,x.2.2.2) (x.2.2.1,x.2.2.2);let t7:=ml2 (y.1.1,y.1.2) (t6.1,t6.2);(.inl (.inr (.inl false)),[(decide (x.2.2=ze2),false),(decide (y.2.2=ze2),false),(decide ((t5.1,t5.2)=(t7.1,t7.2)),false)])) [some false,some false,some false] kr (ao (decide_eq_false h1) (ao (decide_eq_false h2) (ao (decide_eq_false h3) aD))) (by obtain rfl:b=false:=hb.trans (decide_eq_false (λe=>e.elim (λe=>h1 e.1) (λe=>h3 e.2.2.1)))<;>exact rfl)))
theorem zP(x:W6)(h:x.2.2=ze2):PUR 80 [EV6 x] (.tuple #[EV2 ze2,EV2 ze2,.bool false]):=(bT (l1 (V6 _)) O (pE TO67 func80 [.inl [x.1.1,x.1.2,x.2.1.1,x.2.1.2,x.2.2.1,x.2.2.2]] (.inr [.inl [ze2.1,ze2.2],.inl [ze2.1,ze2.2],.inr (.inl false)]) (.inr [.inl [0,0],.inl [0,0],.inr (.inl false)],[(decide (x.2.2=ze2),true)]) [some true] kr (ao (decide_eq_true h) aD) O))
theorem zd(x:W6)(h: ¬x.2.2=ze2):PUR 80 [EV6 x] (.tuple #[EV2 (ml2 x.1 (ml2 (iv2 x.2.2) (iv2 x.2.2))),EV2 (ml2 x.2.1 (ml2 (ml2 (iv2 x.2.2) (iv2 x.2.2)) (iv2 x.2.2))),.bool true]):=(bT (l1 (V6 _)) O (pE TO67 func80 [.inl [x.1.1,x.1.2,x.2.1.1,x.2.1.2,x.2.2.1,x.2.2.2]] (.inr [.inl [(ml2 x.1 (ml2 (iv2 x.2.2) (iv2 x.2.2))).1,(ml2 x.1 (ml2 (iv2 x.2.2) (iv2 x.2.2))).2],.inl [(ml2 x.2.1 (ml2 (ml2 (iv2 x.2.2) (iv2 x.2.2)) (iv2 x.2.2))).1,(ml2 x.2.1 (ml2 (ml2 (iv2 x.2.2) (iv2 x.2.2)) (iv2 x.2.2))).2],.inr (.inl true)]) (let t0:=iv2 (x.2.2.1,x.2.2.2);let t1:=ml2 (t0.1,t0.2) (t0.1,t0.2);let t2:=ml2 (x.1.1,x.1.2) (t1.1,t1.2);let t3:=ml2 (t1.1,t1.2) (t0.1,t0.2);let t4:=ml2 (x.2.1.1,x.2.1.2) (t3.1,t3.2);(.inr [.inl [t2.1,t2.2],.inl [t4.1,t4.2],.inr (.inl true)],[(decide (x.2.2=ze2),false)])) [some false] kr (ao (decide_eq_false h) aD) O))
theorem ts(a b:W2):PUR 215 [EV2 a,EV2 b] (EV6 (a,b,on2)):=(bT O (V6 _) (pE TO67 func215 [.inl [a.1,a.2],.inl [b.1,b.2]] (.inl (.inl [(a,b,on2).1.1,(a,b,on2).1.2,(a,b,on2).2.1.1,(a,b,on2).2.1.2,(a,b,on2).2.2.1,(a,b,on2).2.2.2])) (let t0:=on2;(.inl (.inl [a.1,a.2,b.1,b.2,t0.1,t0.2]),[])) [] kr aD O))
def TO68:Tb prog Gt:=TO67.add (kg (g:=λa b=>(a,b,on2)) ent215 ts)
theorem of4:PUR 120 [U64 4#64] (EV (zp 4)):=eS 4#64
theorem je(a:W2):PUR 212 [EV2 a] (EV2 (RS4 a)):=by
 intro w hw;refine Hf func212 O hw<|λhGF=>Xp<|Bx 1 hGF O<|λb1=>Al 2 hGF zv78<|λb2=>aa<|Xp<|La 1 O O aW<|Ca O (AH _)<|Ca O (of4)<|Ca O (of4)<|co fV O O sm sm O O<|Ca O (fw _ (zp 4,zp 4))<|Sa 2 hGF O O O aW<|aa<|ak<|Rr<|?_;exact au 2 O O O isAgg78 sizeOf78 sm (λw hw=>⟨rfl,ab hw⟩)
theorem Ny(a b:W2)(h:ml2 b b=RS4 a):PUR 246 [EV2 a,EV2 b] (.tuple #[EV6 (a,b,on2),.bool true]):=by
 intro w hw;refine Hf func246 O hw<|λhGF=>Xp<|Bx 2 hGF O<|λb2=>Bx 3 hGF O<|λb3=>Al 4 hGF od<|λb4=>Asg O<|aa<|ae<|Xd []<|La 3 O O aW<|Ca O (iO _)<|La 2 O O aW<|Ca O (je _)<|Cbl true O ent235 (sR _ _) (decide_eq_true h)<|bi O (λ_=>a5 _) O O<|aa<|aC O<|ap<|Xp<|La 2 O O aW<|La 3 O O aW<|Ca O (ts _ _)<|Sa 4 hGF O O O cm<|Asg O<|aa<|ak<|Rr<|?_;exact aZ 4 O O O O isAgg80 sizeOf80 sm (λw hw=>⟨rfl,ab hw⟩)
theorem qN(a s:W2)(hs:PUR 213 [EV2 (RS4 a)] (.tuple #[EV2 s,.bool true])):PUR 191 [EV2 a,.bool true] (.tuple #[EV6 (a,ng2 s,on2),.bool true]):=by
 intro w hw;refine Hf func191 O hw<|λhGF=>Xp<|Bx 2 hGF O<|λb2=>Al 4 hGF od<|λb4=>Asg O<|aa<|Xp<|La 2 O O aW<|Ca O (je _)<|Ca O (hs)<|Mv O<|Ext O O<|Ext O O<|Al 6 hGF zv78<|λb6=>Sa 6 hGF O O O aW<|Asg O<|aa<|ae<|Xp<|Mv O<|bi O (λ_=>a5 _) O O<|aa<|aC O<|ap<|ae<|Xp<|Mv O<|aa<|aP O<|Xq<|La 6 O O aW<|Ca O (FT _)<|Sa 6 hGF O O O aW<|aa<|Xp<|La 2 O O aW<|La 6 O O aW<|Ca O (ts _ _)<|Sa 4 hGF O O O cm<|Asg O<|?_;refine aa<|ak<|Rr<|?_;exact aZ 4 O O O O isAgg80 sizeOf80 sm (λw hw=>⟨rfl,ab hw⟩)
theorem pO(a s:W2)(hs:PUR 213 [EV2 (RS4 a)] (.tuple #[EV2 s,.bool false])):PUR 191 [EV2 a,.bool true] (.tuple #[EV6 (ze2,ze2,ze2),.bool false]):=by
 intro w hw;refine Hf func191 O hw<|λhGF=>Xp<|Bx 2 hGF O<|λb2=>Al 4 hGF od<|λb4=>Asg O<|aa<|Xp<|La 2 O O aW<|Ca O (je _)<|Ca O (hs)<|Mv O<|Ext O O<|Ext O O<|Al 6 hGF zv78<|λb6=>Sa 6 hGF O O O aW<|Asg O<|aa<|ae<|Xp<|Mv O<|bi O (λ_=>a5 _) O O<|aa<|aP O<|Xp<|jn oI O O<|Sa 4 hGF O O O cm<|Asg O<|aa<|ak<|Rr<|?_;exact aZ 4 O O O O isAgg80 sizeOf80 sm (λw hw=>⟨rfl,ab hw⟩)
theorem qy(a s:W2)(hs:PUR 213 [EV2 (RS4 a)] (.tuple #[EV2 s,.bool true])):PUR 191 [EV2 a,.bool false] (.tuple #[EV6 (a,s,on2),.bool true]):=by
 intro w hw;refine Hf func191 O hw<|λhGF=>Xp<|Bx 2 hGF O<|λb2=>Al 4 hGF od<|λb4=>Asg O<|aa<|Xp<|La 2 O O aW<|Ca O (je _)<|Ca O (hs)<|Mv O<|Ext O O<|Ext O O<|Al 6 hGF zv78<|λb6=>Sa 6 hGF O O O aW<|Asg O<|aa<|ae<|Xp<|Mv O<|bi O (λ_=>a5 _) O O<|aa<|aC O<|ap<|ae<|Xp<|Mv O<|aa<|aC O<|ap<|Xp<|La 2 O O aW<|La 6 O O aW<|Ca O (ts _ _)<|Sa 4 hGF O O O cm<|Asg O<|aa<|ak<|Rr<|?_;exact aZ 4 O O O O isAgg80 sizeOf80 sm (λw hw=>⟨rfl,ab hw⟩)
theorem qR(a s:W2)(hs:PUR 213 [EV2 (RS4 a)] (.tuple #[EV2 s,.bool false])):PUR 191 [EV2 a,.bool false] (.tuple #[EV6 (ze2,ze2,ze2),.bool false]):=by
 intro w hw;refine Hf func191 O hw<|λhGF=>Xp<|Bx 2 hGF O<|λb2=>Al 4 hGF od<|λb4=>Asg O<|aa<|Xp<|La 2 O O aW<|Ca O (je _)<|Ca O (hs)<|Mv O<|Ext O O<|Ext O O<|Al 6 hGF zv78<|λb6=>Sa 6 hGF O O O aW<|Asg O<|aa<|ae<|Xp<|Mv O<|bi O (λ_=>a5 _) O O<|aa<|aP O<|Xp<|jn oI O O<|Sa 4 hGF O O O cm<|Asg O<|aa<|ak<|Rr<|?_;exact aZ 4 O O O O isAgg80 sizeOf80 sm (λw hw=>⟨rfl,ab hw⟩)
theorem cB{w:World}{b:Nat}{c:List Value}{xs:L8}(h:w.rangeAt b 0 c)(ht:c.take xs.length=xs.map U8):BytesAt w (spt b) xs:=by
 refine BytesAt.range λj v hv=>h j v ?_;rw[<-ht,List.getElem?_take]at hv;split at hv
 ·exact hv
 ·cases hv
theorem K4(s0:ByteArray)(xs:L8)(h0:s0.data.toList=xs.map (λx=>UInt8.ofBitVec x)):PUR 320 [.string s0] (EV (FV xs)):=by
 intro w hw;refine Hf func320 O hw<|λhGF=>ac (E:=EE [1000022])<|Al 2 hGF zv52<|λb2=>aa<|ac (E:=EE [1000022])<|Mv O<|?_;refine yQ 7 (xs:=xs) O hGF O underlying9 underlying22 underlying5 h0 O O (λb7 c7 k7 e7 l7 t7=> ?_);refine Cc O ent74 (λw' hC hG=>ec _ _ xs w' hG (cB (aG (n:=7) O w' hC) t7))<|Mv O<|Ext O O<|Ext O O<|Al 3 hGF zv52<|λb3=>Sa 3 hGF O O O bM<|Asg O<|aa<|ac (E:=EE [1000022])<|La 3 O O bM<|Sa 2 hGF O O O bM<|aa<|ak<|Rr<|?_;exact au 2 O O O isAgg52 sizeOf52 sm (λw hw=>⟨rfl,ab hw⟩)
end J2
end
def i3a(a b c:W2):W2:=sb2 (ml2 a a) (xi2 (ml2 b c))
def i3b(a b c:W2):W2:=sb2 (xi2 (ml2 c c)) (ml2 a b)
def i3c(a b c:W2):W2:=sb2 (ml2 b b) (ml2 a c)
def i3n(a b c:W2):W2:=ad2 (ml2 a (i3a a b c)) (xi2 (ad2 (ml2 c (i3b a b c)) (ml2 b (i3c a b c))))
def iv6(x:W6):W6:=(ml2 (i3a x.1 x.2.1 x.2.2) (iv2 (i3n x.1 x.2.1 x.2.2)),ml2 (i3b x.1 x.2.1 x.2.2) (iv2 (i3n x.1 x.2.1 x.2.2)),ml2 (i3c x.1 x.2.1 x.2.2) (iv2 (i3n x.1 x.2.1 x.2.2)))
def BK(x:W12):W12:=K12.mul (x.1,K6.neg x.2) (iv6 (qnm K6 VV x),K6.zero)
/-! ### Six parts turned -/
/-! ### Powers by bits, in any ring -/
theorem Rg.bt_y{α:Type}(R:Rg α)(x:α){n m:Nat}(h:m=2*n+1):R.mul (R.mul (R.pw x n) (R.pw x n)) x=R.pw x m:=by
 rw[<-R.pw_add,h,Nat.two_mul];rfl
theorem Rg.bt_n{α:Type}(R:Rg α)(x:α){n m:Nat}(h:m=2*n):R.mul (R.pw x n) (R.pw x n)=R.pw x m:=by
 rw[<-R.pw_add,h,Nat.two_mul]
def sb6(x y:W6):W6:=(sb2 x.1 y.1,sb2 x.2.1 y.2.1,sb2 x.2.2 y.2.2)
def sc6(x:W6)(c:W2):W6:=(ml2 x.1 c,ml2 x.2.1 c,ml2 x.2.2 c)
def v6(x:W6):W6:=(xi2 x.2.2,x.1,x.2.1)
theorem yI(x y:W6):sb6 x y=K6.add x (K6.neg y):=Prod.ext (m6 _ _) (Prod.ext (m6 _ _) (m6 _ _))
theorem R0(x:W6)(c:W2):K6.mul x (c,ze2,ze2)=sc6 x c:=Prod.ext (zx R2 [x.1,x.2.1,x.2.2,c,XI] 0x45695a4571581 0x569) (Prod.ext (zx R2 [x.1,x.2.1,x.2.2,c,XI] 0x445615795a581 0x579) (zx R2 [x.1,x.2.1,x.2.2,c,XI] 0x44561571589 0x589))
theorem zE(x:W6):K6.mul x VV=v6 x:=Prod.ext (zq R2 [x.1,x.2.1,x.2.2,XI] (ta (tm j0 tz0) (tm j3 (ta (tm j1 tz0) (tm j2 to1)))) (txi 3 j2 O)) (Prod.ext (zx R2 [x.1,x.2.1,x.2.2,XI] 0x4456257159581 0x6) (zx R2 [x.1,x.2.1,x.2.2,XI] 0x44561572581 0x7))
/-! ### The chapter's examples -/
section
variable {α:Type} [DecidableEq α] (C:Ec α)
variable {C} (T:Tw C)
end
/-! ### The second curve -/
def PW:W2:=(zp 0x5b2cfd9013a5fd8df47fa6b48b1e045f39816240c0b8fee8beadf4d8e9c0566c63a3e6e257f87329b18fae980078116,zp 0x5b2cfd9013a5fd8df47fa6b48b1e045f39816240c0b8fee8beadf4d8e9c0566c63a3e6e257f87329b18fae980078116)
def TXn:Nat:=0x1a0111ea397fe699ec02408663d4de85aa0d857d89759ad4897d29650fb85f9b409427eb4f49fffd8bfd00000000aaad
def TY0:Nat:=0x135203e60180a68ee2e9c448d77a2cd91c3dedd930b1cf60ef396489f61eb45e304466cf3e67fa0af1ee7b04121bdea2
def TY1:Nat:=0x6af0e0437ff400b6831e36d6bd17ffe48395dabc2d3435e77f76e17009241c5ee67992f72ec05f4c81084fbede3cc09
def TX2:W2:=(0,zp TXn)
def TY2:W2:=(zp TY0,zp TY1)
theorem PW_2:ml2 PW PW=TX2:=by decide+kernel
theorem PW_3:ml2 PW (ml2 PW PW)=TY2:=by decide+kernel
theorem IM(x:W2):cj2 (ng2 x)=ng2 (cj2 x):=rfl
theorem vO{x:W2}(h:cj2 x=ze2):x=ze2:=by
 have h1:x.1=0:=congrArg Prod.fst h;have h2: -x.2=0:=congrArg Prod.snd h;exact bU h1 (mQ.1 h2)
def TW2:Tw E2w where
 f:=cj2
 w:=PW
 fa:=Im
 fm:=ir
 fn:=IM
 f0:=by decide+kernel
 fi:=λ_ h=>vO h
 wn:=by decide+kernel
 wb:=by decide+kernel
theorem MV(q:W2×W2):TW2.m q=(ml2 TX2 (cj2 q.1),ml2 TY2 (cj2 q.2)):=by
 refine Prod.ext ?_ ?_
 ·show ml2 (ml2 PW PW) (cj2 q.1)=ml2 TX2 (cj2 q.1)
  rw[PW_2]
 ·show ml2 (ml2 PW (ml2 PW PW)) (cj2 q.2)=ml2 TY2 (cj2 q.2)
  rw[PW_3]
theorem ug64:kq (dI 64 UG []) 0=UG:=by decide+kernel
abbrev IG2(P:Pt W2):Prop:=E2w.ne (E2w.times P UG)=TW2.p P
section
open Go.RowKit
theorem ent242:ai prog 242:=λ_ _=>kr
namespace J2
attribute [local simp] a6 bv aH aA aQ aY aR aK aM PLl cJ cH N1l cI cL cK bf bB a7 bu
attribute [local simp] bx
def pb(bs:L8)(m:Nat):Bool:=decide (dH bs m=1#8)
abbrev oB(bs:L8)(m:Nat):List Nat:=oL (pb bs) (8*bs.length) m
def NLs(l:List Nat):List (List Value):=l.map λn:Nat=>[I (n:Int)]
theorem mq(l:List Nat):(NLs l).length=l.length:=by simp[NLs]
theorem uT(bs:L8)(i j:Nat)(hj:j<8):bs.getD i 0>>>(7-j) &&& 1#8=dH bs (8*i+j):=by
 rw[dH,show (8*i+j) / 8=i by omega,show (8*i+j) % 8=j by omega]
theorem wT{bs:L8}{m:Nat}(h:dH bs m=1#8):pb bs m=true:=decide_eq_true h
theorem HL{bs:L8}{m:Nat}(h: ¬dH bs m=1#8): ¬pb bs m=true:=λe=>h (of_decide_eq_true e)
theorem CW{bs:L8}{m:Nat}(hm:m<8*bs.length)(h:dH bs m=1#8):(NLs (oB bs (8*bs.length)))[(oB bs m).length]? =some [I ((8*bs.length-1-m:Nat):Int)]:=by
 rw[NLs,List.getElem?_map,Mc hm (wT h)];rfl
theorem Ps{bs:L8}{m:Nat}(h:dH bs m=1#8):(oB bs (m+1)).length=(oB bs m).length+1:=Lr (wT h)
theorem Ro{bs:L8}{m:Nat}(h: ¬dH bs m=1#8):(oB bs (m+1)).length=(oB bs m).length:=Mf (HL h)
theorem FD(bs:L8): ∀m,vN (pb bs) m=BTn bs m
 |0=>rfl
 |m+1=>by
  rw[vN,FD bs m,BTn];rcases mP bs m with ⟨h,e⟩|⟨h,e⟩
  ·rw[if_pos (wT h),e]
  ·rw[if_neg (HL h),e]
theorem xu(bs:L8):SOg (oB bs (8*bs.length))=BN bs bs.length:=by rw[wU,FD,gE]
theorem pU{bb:Nat}{e:Option Addr}{cap:Nat}{bs:L8}{w w':World}(h:RdD bb e cap bs w)(hg:Grow w w'):RdD bb e cap bs w':=⟨(hg.cell (block_lt_of_cell h.1)).trans h.1,h.2.grow hg⟩
theorem jG(sv:Value)(hs:sv.cells= #[sv])(w:World)(hw:Gt w):CLS 207 [sv].toArray w (λe w'=> ∃b1,e=.returned (.func (.func 242) #[] #[pnt b1])/\Grow w w'/\w.heap.size<=b1/\OwnB w' b1 [sv] 22):=by
 refine Hf func207 O hw<|λhGF=>Xp<|iN 1 hGF O O O<|λb1=>Asg O<|aa<|Xp<|gj O O O O<|Asg O<|aa<|ak<|Rr<|?_;exact aE O O (λw hw=>⟨b1,rfl,ab hw,(hw.own 1 b1 _ _ O).2.elim id False.elim,(by have:=(hw.own 1 b1 _ _ O).1;rw[hs]at this;exact this)⟩)
theorem lM(bb:Nat)(e:Option Addr)(cap:Nat)(bs:L8)(hlen:bs.length<=1000000):fD prog Gt 242 [pnt bb] (NLs (oB bs (8*bs.length))) (RdD bb e cap bs):=by
 intro l J Jx hJ hJx hRd hGx hY w hj;have okJ: ∀k,BOk Gt (Bi w (λY=>J Y k)):=λk=>⟨λ_ _ _ h=>(hRd _ _ _ h.rid).1,hJ k⟩;have okX: ∀k,BOk Gt (Bi w (λY=>Jx Y k)):=λk=>⟨λ_ _ _ h=>hGx _ _ _ h.rid,hJx k⟩;have c1: ∀k L w',Hp (Bi w (λY=>J Y k)) L w'->RdD bb e cap bs w':=λk L w' h=>(hRd _ _ _ h.rid).2;have hby:=(hRd _ _ _ hj).2.2;refine cu (G:=Gt) func242 O O (Hp (Bi w (λY=>J Y 0)) []) (ci (Bi w _) hj (hJ 0)) (ay (okJ 0))<|Xp<|bN O isAgg22 (λw h=>(c1 _ _ w h).1) O O<|bc O (λ_=>aF underlying22 _ _ _ _) O O<|Mv O<|aa<|ah<|gy (ι:={i:Nat // i<=bs.length}) (λx=>[(0,.func (.yield l) #[] #[]),(1,pnt bb),(6,.slice e bs.length cap),(7,I (bs.length:Int)),(8,I (x.1:Int))]) (λx=>Bi w (λY=>J Y (oB bs (8*x.1)).length)) (λx=>[]) (λx=>bs.length-x.1) ⟨0,Nat.zero_le _⟩ (λ_=>okJ _) O trv trivial<|?_;rintro ⟨i,hi⟩;dsimp only;refine Xp<|Bnr O O (λ_=>av _ _ _)<|aa<|ae<|?_;refine bC O (λhc=> ?_) (λhc=> ?_)
 ·have hi2:i<bs.length:=by simp at hc;omega
  refine ap<|ae<|ah<|Xp<|Mv O<|?_;obtain ⟨ad,rfl,_⟩:=hby i _ (gm U8 bs 0 i om);refine gA i O O underlying22 sizeOf5 O om O O<|bN O isAgg5 (λw' h=>by obtain ⟨ad',e',hc'⟩:=(c1 _ _ w' h).2 i _ (gm U8 bs 0 i om);cases e';exact hc') O O<|Asg O<|Asg O<|aa<|Xp<|Asg O<|aa<|ah<|gy (ι:={j:Nat // j<=8}) (λx=>[(0,.func (.yield l) #[] #[]),(1,pnt bb),(6,.slice (some ad) bs.length cap),(7,I (bs.length:Int)),(8,I (i:Int)),(3,I (i:Int)),(4,U8 (bs.getD i 0)),(5,I (7-(x.1:Int)))]) (λx=>Bi w (λY=>J Y (oB bs (8*i+x.1)).length)) (λx=>[]) (λx=>8-x.1) ⟨0,Nat.zero_le _⟩ (λ_=>okJ _) O trv trivial<|?_
  rintro ⟨j,hj⟩;dsimp only;by_cases h1:dH bs (8*i+j)=1#8
  ·refine ae<|Xp<|Mv O<|Bnr (v:=.bool (decide (j<8))) O O (λ_=>(dh _ _ _).trans (by rw[show decide ((7-(j:Int))>=0)=decide (j<8)from decide_eq_decide.2 om]))<|aa<|?_
   refine bC O (λhc=> ?_) (λhc=> ?_)
   ·have hj2:j<8:=by simpa using hc
    refine ap<|ae<|ah<|Xp<|Mv O<|Mv O<|Bnr (v:=U8 (bs.getD i 0>>>(7-j))) O O (λ_=>(fk _ _ _ om).trans (by rw[show (7-(j:Int)).toNat=7-j by omega]))<|Bnr (v:=U8 (dH bs (8*i+j))) O O (λ_=>(cy _ _ 1#8).trans (by rw[uT bs i j hj2]))<|Bnr (v:=.bool true) O O (λw=>(cR _ _ _).trans (congrArg (λb=>Result.ok (Value.bool b) w) (beq_iff_eq.2 h1)))<|Mv O<|Mv O<|bN O isAgg22 (λw h=>(c1 _ _ w h).1) O O<|bc O (λ_=>aF underlying22 _ _ _ _) O O<|Bnr (v:=I ((bs.length:Int)-1)) O O (λ_=>aV _ _ _ oi)<|Mv O<|Bnr (v:=I ((bs.length-1-i:Nat):Int)) O O (λ_=>(aV _ _ _ oi).trans (by rw[show (bs.length:Int)-1-(i:Int)=((bs.length-1-i:Nat):Int) by omega]))<|Bnr (v:=I ((8*(bs.length-1-i):Nat):Int)) O O (λ_=>(bp _ _ _ oi).trans (by rw[show (8:Int)*((bs.length-1-i:Nat):Int)=((8*(bs.length-1-i):Nat):Int) by omega]))<|Mv O<|Bnr (v:=I ((8*bs.length-1-(8*i+j):Nat):Int)) O O (λ_=>(aq _ _ _ oi).trans (by rw[show ((8*(bs.length-1-i):Nat):Int)+(7-(j:Int))=((8*bs.length-1-(8*i+j):Nat):Int) by omega]))<|?_
    refine dw (hY.b (k:=(oB bs (8*i+j)).length) (CW om h1) w) (okJ _) (okX _) O O O O O ?_ ?_
    ·refine bi O (λ_=>a5 _) O O<|Pk O O O<|aa<|aC O<|ap<|Xq<|Mv O<|Bnr (v:=I (7-((j+1:Nat):Int))) O O (λ_=>(aV _ _ _ oi).trans (by rw[show 7-(j:Int)-1=7-((j+1:Nat):Int) by omega]))<|Asg O<|aa<|?_
     repeat (refine aL ?_)
     refine aB ?_;rw[<-Ps h1];exact ⟨rfl,⟨j+1,om⟩,_,by show 8-(j+1)<8-j;omega,rfl,trv,trivial⟩
    ·refine bi O (λ_=>a5 _) O O<|Pk O O O<|aa<|aP O<|ak<|Rr<|?_
     repeat (first|refine du ?_|refine ck ?_|refine dK O ?_|refine bJ ?_|refine bI ?_)
     exact dr O (λw hw=>⟨⟨_,rfl⟩,.inr ⟨_,bZ (hJx _) hw.rid⟩⟩)
   ·obtain rfl:j=8:=by simp at hc;omega
    refine aU<|Xq<|Bnr O O (λ_=>aq _ _ _ oi)<|Mv O<|aa<|?_
    repeat (refine aL ?_)
    exact aB<|⟨rfl,⟨i+1,om⟩,_,by show bs.length-(i+1)<bs.length-i;omega,rfl,trv,trivial⟩
  ·refine ae<|ac (E:=EE [3000000])<|Mv O<|Bnr (v:=.bool (decide (j<8))) O O (λ_=>(dh _ _ _).trans (by rw[show decide ((7-(j:Int))>=0)=decide (j<8)from decide_eq_decide.2 om]))<|aa<|?_
   refine bC O (λhc=> ?_) (λhc=> ?_)
   ·have hj2:j<8:=by simpa using hc
    refine ap<|ae<|ah<|ac (E:=EE [3000000])<|Mv O<|Mv O<|Bnr (v:=U8 (bs.getD i 0>>>(7-j))) O O (λ_=>(fk _ _ _ om).trans (by rw[show (7-(j:Int)).toNat=7-j by omega]))<|Bnr (v:=U8 (dH bs (8*i+j))) O O (λ_=>(cy _ _ 1#8).trans (by rw[uT bs i j hj2]))<|Bnr (v:=.bool false) O O (λw=>(cR _ _ _).trans (congrArg (λb=>Result.ok (Value.bool b) w) (beq_eq_false_iff_ne.2 h1)))<|Mv O<|Sk<|Sk<|Sk<|Sk<|Sk<|Sk<|Sk<|Sk<|Sk<|Sk<|Sk<|Pk O O O<|aa<|aC O<|ap<|bF (E:=EE [3000000])<|Mv O<|Bnr (v:=I (7-((j+1:Nat):Int))) O O (λ_=>(aV _ _ _ oi).trans (by rw[show 7-(j:Int)-1=7-((j+1:Nat):Int) by omega]))<|Asg O<|aa<|?_
    repeat (refine aL ?_)
    refine aB ?_;rw[<-Ro h1];exact ⟨rfl,⟨j+1,om⟩,_,by show 8-(j+1)<8-j;omega,rfl,trv,trivial⟩
   ·obtain rfl:j=8:=by simp at hc;omega
    refine aU<|bF (E:=EE [3000000])<|Bnr O O (λ_=>aq _ _ _ oi)<|Mv O<|aa<|?_
    repeat (refine aL ?_)
    exact aB<|⟨rfl,⟨i+1,om⟩,_,by show bs.length-(i+1)<bs.length-i;omega,rfl,trv,trivial⟩
 ·obtain rfl:i=bs.length:=by simp at hc;omega
  refine aU ?_
  repeat (first|refine du ?_|refine ck ?_|refine dK O ?_|refine bJ ?_|refine bI ?_)
  refine cS O (λw hw=>⟨⟨_,rfl⟩,.inl ?_⟩);have:=bZ (hJ _) hw.rid;rw[mq];exact this
theorem kP(x:W6)(n:Int)(hn:n<=1000000000):PUR 131 [EV6 x,I n] (EV6 (E2w.dbN x n.toNat)):=by
 intro w hw;refine Hf func131 O hw<|λhGF=>Xp<|Bx 2 hGF O<|λb2=>Al 4 hGF od<|λb4=>aa<|ae<|Xp<|Mv O<|Mv O<|aa<|ah<|bG (ι:={i:Nat // i<=n.toNat}) (λy=>[(2,pnt b2),(4,pnt b4),(5,I n),(6,I (y.1:Int))]) (λy=>[(2,b2,((fe ((E2w.dbN x y.1).1).1++fe ((E2w.dbN x y.1).1).2)++((fe ((E2w.dbN x y.1).2.1).1++fe ((E2w.dbN x y.1).2.1).2)++(fe ((E2w.dbN x y.1).2.2).1++fe ((E2w.dbN x y.1).2.2).2))).map U64,80),(4,b4,((fe 0++fe 0)++((fe 0++fe 0)++(fe 0++fe 0))).map U64,80)]) (λy=>n.toNat-y.1) ⟨0,Nat.zero_le _⟩ hGF trv trv<|?_;rintro ⟨i,hi⟩;dsimp only;refine Xp<|Bnr (v:=.bool (decide ((i:Int)<n))) O O (λ_=>av _ _ _)<|aa<|ae<|?_;refine bC O (λhc=> ?_) (λhc=> ?_)
 ·have hi2:i<n.toNat:=by simp at hc;omega
  refine ap<|ae<|ah<|Xq<|La 2 O O cm<|Ca O (H3 (E2w.dbN x i))<|Sa 2 hGF O O O cm<|aa<|Xq<|Bnr O O (λ_=>aq _ _ _ oi)<|Mv O<|aa<|?_
  repeat (refine aL ?_)
  exact aB<|⟨rfl,⟨i+1,om⟩,_,by show n.toNat-(i+1)<n.toNat-i;omega,rfl,trv,trv⟩
 ·obtain rfl:i=n.toNat:=by simp at hc;omega
  refine aU<|Xp<|La 2 O O cm<|Sa 4 hGF O O O cm<|aa<|ak<|Rr<|?_;exact au 4 O O O isAgg80 sizeOf80 sm (λw hw=>⟨rfl,ab hw⟩)
theorem P0(x:W6)(a:Nat)(ha:a<100000000):PUR 131 [EV6 x,I (a:Int)] (EV6 (E2w.dbN x a)):=by
 have h:=kP x (a:Int) om;rw[Int.toNat_natCast]at h;exact h
theorem Sg(x:W6)(a b:Nat)(ha:a<100000000):PUR 131 [EV6 x,I ((a:Int)-(b:Int))] (EV6 (E2w.dbN x (a-b))):=by
 have h:=kP x ((a:Int)-(b:Int)) om;rw[Int.toNat_sub]at h;exact h
theorem uo{L:List Nat}{k:Nat}{v:List Value}(h:(NLs L)[k]? =some v): ∃n:Nat,L[k]? =some n/\[I (n:Int)]=v:=by
 rw[NLs,List.getElem?_map]at h
 cases e:L[k]? with
 |none=>rw[e]at h;cases h
 |some y=>rw[e]at h;exact ⟨y,rfl,Option.some.inj h⟩
theorem fX(x:W6)(gf:Nat)(caps:List Value)(L:List Nat)(Rd:Cls)(he:ai prog gf)(hseq:fD prog Gt gf caps (NLs L) Rd)(hL: ∀b∈L,b<100000000)(w:World)(hw:Gt w)(hRs: ∀w',Grow w w'->Rd w'):
 CLS 82 [EV6 x,.func (.func gf) #[] caps.toArray].toArray w (λr w'=>r=.returned (EV6 (E2w.tmF x L))/\Grow w w'):=by
 have hGF:BOk Gt (pl w):=gt_low.plain hw;refine cw (G:=Gt) func82 O O (Hp (pl w) []) (ci (pl w) trivial am) (ay hGF)<|Xp<|Bx 2 hGF O<|λb2=>Al 4 hGF od<|λb4=>aa<|Xp<|Al 5 hGF od<|λb5=>aa<|Xp<|gX 6 hGF zeroValue3 O O<|λb6=>dS 6 hGF O O O sizeOf3 O (by first|decide|simp) O<|aa<|ae<|Xp<|Mv O<|aa<|ah<|?_
 refine fc (λ_=>pl w) (λ_ _=>pl w) (λ_=>hGF) (λ_ _=>hGF) (λ_=>rfl) (λ_ _=>rfl) O O he hseq (λx hx=>by obtain ⟨k,hk,rfl⟩:=List.mem_map.1 hx;rfl) O (λk=>[(2,b2,((fe ((x).1).1++fe ((x).1).2)++((fe ((x).2.1).1++fe ((x).2.1).2)++(fe ((x).2.2).1++fe ((x).2.2).2))).map U64,80),(4,b4,((fe 0++fe 0)++((fe 0++fe 0)++(fe 0++fe 0))).map U64,80),(5,b5,((fe (((E2w.stK x L k).1).1).1++fe (((E2w.stK x L k).1).1).2)++((fe (((E2w.stK x L k).1).2.1).1++fe (((E2w.stK x L k).1).2.1).2)++(fe (((E2w.stK x L k).1).2.2).1++fe (((E2w.stK x L k).1).2.2).2))).map U64,80),(6,b6,[I ((E2w.stK x L k).2:Int)],3)]) (λ_ _ _=>False) trv (λk _ w' h=>hRs w' (h.below (λ_ h=>h))) ?_ ?_ (λ_ _ _ _ _ h=>h.elim)
 ·intro k v hx R hR
  obtain ⟨n,hn,rfl⟩:=uo hx;have hk:k<L.length:=(List.getElem?_eq_some_iff.1 hn).1;have hb:=E2w.stK_lt x om hL k (Nat.le_of_lt hk);have hn2:=hL n (List.mem_of_getElem? hn);refine Xq<|Asg O<|aa<|?_;refine ⟨rfl,_,rfl, ?_⟩;refine ah<|Xd []<|La 5 O O cm<|cV 6 O O O isAgg3 O O<|Mv O<|Bnr (v:=I (((E2w.stK x L k).2:Int)-(n:Int))) O O (λ_=>aV _ _ _ oi)<|Ca O (Sg (E2w.stK x L k).1 (E2w.stK x L k).2 n hb)<|La 2 O O cm<|Ca O (yD _ _)<|az 5 (hR (pl w) O hGF).2.1 O O O sizeOf80 sm sm (ba _) O<|aa<|Xq<|Mv O<|dS 6 (hR (pl w) O hGF).2.1 O O O sizeOf3 O (by first|decide|simp) O<|aa<|?_
  repeat (refine aL ?_)
  exact ⟨_,rfl,⟨rfl,rfl,by rw[E2w.stK_1 x hn];rfl,by rw[E2w.stK_2 x hn];rfl,trivial⟩⟩
 ·intro D hD
  have hb:=E2w.stK_lt x om hL L.length (Nat.le_refl _);rw[mq];refine Xp<|La 5 O O cm<|cV 6 O O O isAgg3 O O<|Ca O (P0 (E2w.stK x L L.length).1 (E2w.stK x L L.length).2 hb)<|Sa 4 hD O O O cm<|aa<|ak<|Rr<|?_;exact dR (.inl O) am (au 4 O O O isAgg80 sizeOf80 sm (λw hw=>⟨rfl,ab hw⟩))
def mlB(x:W6)(bs:L8):W6:=E2w.tmF x (oB bs (8*bs.length))
theorem o6{x:W6}{P:Pt W2}(hP:E2w.onP P)(hx:E2w.jr x P){bs:L8}{m:Nat}(hm:BN bs bs.length=m):E2w.jr (mlB x bs) (E2w.times P m):=by
 subst hm;rw[<-xu];exact E2w.tmF_jr hP hx (uO _ _ _ (Nat.le_refl _))
theorem jW(x:W6)(e:Option Addr)(cap:Nat)(bs:L8)(hlen:bs.length<=1000000)(w:World)(hw:Gt w)(hby:BytesAt w e bs):
 CLS 173 [EV6 x,.slice e bs.length cap].toArray w (λr w'=>r=.returned (EV6 (mlB x bs))/\Grow w w'):=by
 refine Hf func173 O hw<|λhGF=>ac (E:=EE [207,2000207])<|Bx 2 hGF O<|λb2=>Al 4 hGF od<|λb4=>aa<|Xd [207,2000207]<|La 2 O O cm<|Mv O<|?_;refine bK O O ent207 O O (λw' hw'=>(jG _ O w' (hGF.g _ _ _ hw')).mono λe' w'' h=> ?_);obtain ⟨c1,rfl,hg,h1,ho⟩:=h;refine ⟨_,_,rfl,ay hGF,hw'.news am hg [(33,c1,[.slice e bs.length cap],22)] ?_ bQ,bO am O, ?_⟩
 ·intro n' b' c' t' hl
  rcases aI hl with ⟨_,e⟩|⟨_,hl⟩
  ·cases e;exact ⟨h1,ho⟩
  ·cases hl
 clear hw' hg h1 ho;refine Cc O ent82 (λw' hC hG=>fX x 242 [pnt c1] (oB bs (8*bs.length)) (RdD c1 e cap bs) ent242 (lM c1 e cap bs om) (λb hb=>by have:=Hg hb (Nat.le_refl _);omega) w' hG (λw'' hg=>pU ⟨cM (n:=33) O O w' hC,hby.grow (hC.below (λ_ h=>h))⟩ hg))<|Sa 4 hGF O O O cm<|aa<|ak<|Rr<|?_
 exact au 4 O O O isAgg80 sizeOf80 sm (λw hw=>⟨rfl,ab hw⟩)
def TBX:L8:=[26#8,1#8,17#8,234#8,57#8,127#8,230#8,153#8,236#8,2#8,64#8,134#8,99#8,212#8,222#8,133#8,170#8,13#8,133#8,125#8,137#8,117#8,154#8,212#8,137#8,125#8,41#8,101#8,15#8,184#8,95#8,155#8,64#8,148#8,39#8,235#8,79#8,73#8,255#8,253#8,139#8,253#8,0#8,0#8,0#8,0#8,170#8,173#8]
theorem Tx:FV TBX=TX2.2:=by rw[FV,if_pos ⟨rfl,by decide+kernel⟩];decide+kernel
theorem Uu{a:Zp}(ha:TX2.2=a)(s0:ByteArray)(h0:s0.data.toList=TBX.map (λx=>UInt8.ofBitVec x)):PUR 320 [.string s0] (EV a):=by
 have h:=K4 s0 TBX h0;rw[Tx,ha]at h;exact h
def TBY:L8:=[19#8,82#8,3#8,230#8,1#8,128#8,166#8,142#8,226#8,233#8,196#8,72#8,215#8,122#8,44#8,217#8,28#8,61#8,237#8,217#8,48#8,177#8,207#8,96#8,239#8,57#8,100#8,137#8,246#8,30#8,180#8,94#8,48#8,68#8,102#8,207#8,62#8,103#8,250#8,10#8,241#8,238#8,123#8,4#8,18#8,27#8,222#8,162#8]
theorem U7:FV TBY=TY2.1:=by rw[FV,if_pos ⟨rfl,by decide+kernel⟩];decide+kernel
theorem Xs{a:Zp}(ha:TY2.1=a)(s0:ByteArray)(h0:s0.data.toList=TBY.map (λx=>UInt8.ofBitVec x)):PUR 320 [.string s0] (EV a):=by
 have h:=K4 s0 TBY h0;rw[U7,ha]at h;exact h
def UB8:L8:=[210#8,1#8,0#8,0#8,0#8,1#8,0#8,0#8]
theorem HD:BN UB8 UB8.length=UG:=by decide+kernel
theorem iS{f:W6->W6}(hf: ∀x,mlB x UB8=f x)(x:W6)(b c:Nat)(w:World)(hw:Gt w)(h:w.rangeAt b 0 (UB8.map U8)):CLS 173 [EV6 x,.slice (spt b) UB8.length c].toArray w (λr w'=>r=.returned (EV6 (f x))/\Grow w w'):=by
 have k:=jW x (spt b) c UB8 dc w hw (BytesAt.range h);rw[hf]at k;exact k
def tuJ(c d:W2)(x:W6):W6:=(ml2 (cj2 x.1) c,ml2 (cj2 x.2.1) d,cj2 x.2.2)
theorem F8{c d:W2}{x:W6}{p:W2×W2}(hx:E2w.jr x (some p)):E2w.jr (tuJ c d x) (some (ml2 c (cj2 p.1),ml2 d (cj2 p.2))):=by
 have h1:x.1=ml2 p.1 (ml2 x.2.2 x.2.2):=hx.2.1;have h2:x.2.1=ml2 p.2 (ml2 (ml2 x.2.2 x.2.2) x.2.2):=hx.2.2;refine ⟨λe=>hx.1 (vO e), ?_, ?_⟩
 ·show ml2 (cj2 x.1) c=ml2 (ml2 c (cj2 p.1)) (ml2 (cj2 x.2.2) (cj2 x.2.2))
  rw[h1,ir,ir];generalize cj2 p.1=a;generalize cj2 x.2.2=z;exact zq R2 [a,z,c] (tm (tm j0 (tm j1 j1)) j2) (tm (tm j2 j0) (tm j1 j1))
 ·show ml2 (cj2 x.2.1) d=ml2 (ml2 d (cj2 p.2)) (ml2 (ml2 (cj2 x.2.2) (cj2 x.2.2)) (cj2 x.2.2))
  rw[h2,ir,ir,ir];generalize cj2 p.2=a;generalize cj2 x.2.2=z;exact zq R2 [a,z,d] (tm (tm j0 (tm (tm j1 j1) j1)) j2) (tm (tm j2 j0) (tm (tm j1 j1) j1))
theorem tu{c d:W2}{x:W6}(hx:E2w.jr x none):E2w.jr (tuJ c d x) none:=by
 have h:x.2.2=ze2:=hx;show cj2 x.2.2=ze2;rw[h];exact TW2.f0
theorem Ed(p:W2×W2):TW2.p (some p)=some (ml2 TX2 (cj2 p.1),ml2 TY2 (cj2 p.2)):=congrArg some (MV p)
theorem wQ{x:W6}{P:Pt W2}(hx:E2w.jr x P):E2w.jr (tuJ TX2 TY2 x) (TW2.p P):=by
 cases P with
 |none=>exact tu hx
 |some p=>rw[Ed];exact F8 hx
abbrev ngJ(x:W6):W6:=(x.1,ng2 x.2.1,x.2.2)
theorem D9{bs:L8}{m:Nat}(hm:BN bs bs.length=m){x:W6}{P:Pt W2}(hP:E2w.onP P)(hx:E2w.jr x P):E2w.eqJ (ngJ (mlB x bs)) (tuJ TX2 TY2 x)↔E2w.ne (E2w.times P m)=TW2.p P:=E2w.eqJ_iff (E2w.jr_n (o6 hP hx hm)) (wQ hx)
theorem ml{x:W6}{P:Pt W2}(hP:E2w.onP P)(hx:E2w.jr x P):E2w.eqJ (ngJ (mlB x UB8)) (tuJ TX2 TY2 x)↔IG2 P:=D9 HD hP hx
theorem Ja{c d:Zp}(hc:TX2.2=c)(hd:TY2.1=d)(x:W6):PUR 319 [EV6 x] (EV6 (tuJ (0,c) (d,-d) x)):=by
 intro w hw;refine Hf func319 O hw<|λhGF=>Xp<|Bx 1 hGF O<|λb1=>Al 2 hGF od<|λb2=>aa<|Xp<|Ca O (Uu hc _ O)<|Ca O (Xs hd _ O)<|Al 3 hGF zv52<|λb3=>Al 4 hGF zv52<|λb4=>Sa 3 hGF O O O bM<|Sa 4 hGF O O O bM<|aa<|Xd []<|Fa 0 O underlying80 O sizeOf78<|aw 1 _ O O isAgg78 sizeOf78 sm ej O O<|Ca O (mZ _)<|La 3 O O bM<|mS fV O sm O O<|Ca O (dG _ (0,c))<|Fa 12 O underlying80 O sizeOf78<|aw 1 _ O O isAgg78 sizeOf78 sm (km sm) O O<|Ca O (mZ _)<|La 4 O O bM<|La 4 O O bM<|Ca O (dY _)<|co fV O O sm sm O O<|Ca O (dG _ (d,-d))<|Fa 24 O underlying80 O sizeOf78<|aw 1 _ O O isAgg78 sizeOf78 sm (gc (m:=12) (n:=12) sm sm O) O O<|Ca O (mZ _)<|ef oI O O O sm sm sm O O<|Sa 2 hGF O O O cm<|aa<|ak<|Rr<|?_;exact au 2 O O O isAgg80 sizeOf80 sm (λw hw=>⟨rfl,ab hw⟩)
theorem OC:((0:Zp),TX2.2)=TX2:=rfl
theorem O6:(TY2.1,-TY2.1)=TY2:=by decide+kernel
theorem Ns{t:W6->W6}(ht: ∀x,tuJ TX2 TY2 x=t x)(x:W6):PUR 319 [EV6 x] (EV6 (t x)):=by
 have h:=Ja O O x;rw[OC,O6,ht]at h;exact h
theorem P9{f:W6->W6}(hf: ∀x,mlB x UB8=f x){t:W6->W6}(ht: ∀x,tuJ TX2 TY2 x=t x)(x:W6)(hd:Decidable (E2w.eqJ (ngJ (f x)) (t x)))(b:Bool)(hb:b=decide (E2w.eqJ (ngJ (f x)) (t x))):PUR 317 [EV6 x] (.bool b):=by
 intro w hw;refine Hf func317 O hw<|λhGF=>ac (E:=EE [1000022])<|Bx 1 hGF O<|λb1=>Asg O<|aa<|oz (EE [2999998,2999996,1000022]) cY kr kr<|aO (m:=7) [0,5] kr<|La 1 O O cm<|La 1 O O cm<|aa<|aO (m:=6) [1] kr<|jS 4 UB8 hGF O O O O dc dc underlying22 sizeOf5 zeroValue5 O O<|λb4=>aa<|aO (m:=5) [2] kr<|fg 4 O hGF O O underlying22 underlying5 O O<|aa<|aO (m:=0) [3,4,6,7,8] kr<|Cc O ent173 (λw' hC hG=>iS hf _ _ _ w' hG (aG (n:=4) O w' hC))<|Ca O (n9 _)<|Ca O (Ns ht x)<|Ca O (i7 _ _ hd b hb)<|Asg O<|aa<|cF kr<|aB<|ak<|Rr<|?_;exact aE O O (λw hw=>⟨rfl,ab hw⟩)
def gInf:GP:=⟨(ze2,ze2,ze2),none,True.intro,rfl⟩
def DI(p q:GP):GP:=⟨E2w.adA p.J q.J,E2w.ad p.P q.P,E2w.ad_on p.on q.on,E2w.adA_jr p.on q.on p.jr q.jr⟩
def kp(p:GP):GP:=⟨(p.J.1,ng2 p.J.2.1,p.J.2.2),E2w.ne p.P,E2w.ne_on p.on,E2w.jr_n p.jr⟩
def Kt(p:GP)(bs:L8):GP:=⟨mlB p.J bs,E2w.times p.P (BN bs bs.length),E2w.times_on p.on _,o6 p.on p.jr O⟩
def RD(x y:W2)(h:ml2 y y=RS4 x):GP:=⟨(x,y,on2),some (x,y),go (nA.2 h),kQ (x,y)⟩
def gRt(x r:W2)(hr:ml2 r r=RS4 x)(l:Bool):GP:=RD x (sgY r l) (E4 hr l)
theorem zv80(w:World):(zeroValue 80).run prog w=.ok (PtV gInf) w:=od w
theorem F2{J:W6}{P:Pt W2}(h:E2w.jr J P)(hn: ¬P=none):ml2 J.1 (ml2 (iv2 J.2.2) (iv2 J.2.2))=PX P/\ml2 J.2.1 (ml2 (ml2 (iv2 J.2.2) (iv2 J.2.2)) (iv2 J.2.2))=PY P:=by
 cases P with
 |none=>exact absurd O hn
 |some p=>exact E2w.xy_w h (E2w.hi _ h.1)
theorem lq  :PUR 190 [] (PtV gInf):=EZ
theorem mB(p q:GP):PUR 316 [PtV p,PtV q] (.bool (decide (p.P=q.P))):= 
 have hd:Decidable (E2w.eqJ p.J q.J):=decidable_of_iff _ (E2w.eqJ_iff p.jr q.jr).symm
 i7 p.J q.J hd _ (decide_eq_decide.2 (E2w.eqJ_iff p.jr q.jr).symm)
theorem Dw(p q:GP):PUR 132 [PtV p,PtV q] (PtV (DI p q)):=yD p.J q.J
theorem vn(p:GP):PUR 318 [PtV p] (PtV (kp p)):=n9 p.J
theorem Fi(p:GP)(h:p.P=none):PUR 80 [PtV p] (.tuple #[EV2 ze2,EV2 ze2,.bool false]):=zP p.J ((E2w.jr_zI p.jr).2 h)
theorem wz(p:GP)(h: ¬p.P=none):PUR 80 [PtV p] (.tuple #[EV2 (PX p.P),EV2 (PY p.P),.bool true]):=by
 have k:=zd p.J (λe=>h ((E2w.jr_zI p.jr).1 e));have e:=F2 p.jr h;rw[e.1,e.2]at k;exact k
theorem VB(x y:W2)(h:ml2 y y=RS4 x):PUR 246 [EV2 x,EV2 y] (.tuple #[PtV (RD x y h),.bool true]):=Ny x y h
theorem w7(x r:W2)(hr:ml2 r r=RS4 x)(hl:LG2 r=false)(l:Bool):PUR 191 [EV2 x,.bool l] (.tuple #[PtV (gRt x r hr l),.bool true]):=by
 cases l with
 |true=>exact qN x r (ov _ r hr hl)
 |false=>exact qy x r (ov _ r hr hl)
theorem yg(x:W2)(l:Bool)(h: ¬LQ x):PUR 191 [EV2 x,.bool l] (.tuple #[PtV gInf,.bool false]):=by
 cases l with
 |true=>exact pO x _ (tP _ h)
 |false=>exact qR x _ (tP _ h)
theorem fj(p:GP):PUR 317 [PtV p] (.bool (decide (IG2 p.P))):= 
 have hd:Decidable (E2w.eqJ (ngJ (mlB p.J UB8)) (tuJ TX2 TY2 p.J)):=decidable_of_iff _ (ml p.on p.jr).symm
 P9 (λ_=>rfl) (λ_=>rfl) p.J hd _ (decide_eq_decide.2 (ml p.on p.jr).symm)
theorem UB(p:GP)(e:Option Addr)(cap:Nat)(bs:L8)(hlen:bs.length<=1000)(w:World)(hw:Gt w)(hby:BytesAt w e bs):CLS 173 [PtV p,.slice e bs.length cap].toArray w (λr w'=>r=.returned (PtV (Kt p bs))/\Grow w w'):=jW p.J e cap bs om w hw hby
end J2
end
section
open Go.RowKit
attribute [local simp] a6 bv aH aA aQ aY aR aK aM PLl cJ cH N1l cI cL cK bf bB a7 bu J1.bx
namespace J1
theorem Qf{P:Pt Zp}(hP:E1.onP P)(bs:L8)(n:Nat):E1w.jr (RMJ (RJ P) bs (8*n)) (em1.p (E1.times P (BN bs n))):=by
 rw[em1.times hP,<-gE];exact GO (em1.onP hP) (S3 P) bs (8*n)
theorem Db(a:Zp): -(-a)=a:=by grind
end J1
end
section
open Go.RowKit
attribute [local simp] a6 bv aH aA aQ aY aR aK aM PLl cJ cH N1l cI cL cK bf bB a7 bu J2.bx
theorem GE(x:W6):E1w.jdF x=E2w.jdF x:=rfl
theorem Qi(x y:W6):E1w.jaF x y=E2w.jaF x y:=rfl
namespace J2
theorem zN{x:W6}{P:Pt W2}(hP:E2w.onP P)(hx:E2w.jr x P)(bs:L8): ∀i,E2w.jr (RMJ x bs i) (E2w.times P (BTn bs i))
 |0=>rfl
 |i+1=>by
  have hd:=E2w.jr_d (E2w.times_on hP _) (zN hP hx bs i);rw[E2w.dbl_times hP]at hd;rcases mP bs i with ⟨h,e⟩|⟨h,e⟩
  ·rw[Bv h,BTn,e,GE,Qi]
   exact E2w.jr_a (E2w.times_on hP _) hP hd hx
  ·rw[AY h,BTn,e,GE]
   exact hd
end J2
end
section
open Go.RowKit
attribute [local simp] a6 bv aH aA aQ aY aR aK aM PLl cJ cH N1l cI cL cK bf bB a7 bu J1.bx J2.bx
theorem ent16:ai prog 16:=λ_ _=>kr
theorem ti5:TI prog 5 (.int .u8 0) 1 1:=rJ kr
def FG(bs:L8):BitVec 8:=bs.getD 0 0 &&& 224#8
def MK(bs:L8):L8:=bs.set 0 (bs.getD 0 0 &&& 31#8)
theorem ca(bs:L8):(MK bs).length=bs.length:=by simp[MK]
attribute [local simp] ca
theorem cB{w:World}{b:Nat}{c:List Value}{xs:L8}(h:w.rangeAt b 0 c)(ht:c.take xs.length=xs.map U8):BytesAt w (spt b) xs:=J2.cB h ht
def INF(bs:L8)(n:Nat):Int:=if (∀j,j<n->(MK bs).getD j 0=0#8)/\FG bs &&& 32#8=0#8 then 0 else 101
def LO(bs:L8)(l:Nat):L8:=((MK bs).drop l).take 48
theorem kU{bs:L8}{l:Nat}(h:l+48<=bs.length):(LO bs l).length=48:=by
 rw[LO,List.length_take,List.length_drop,ca];omega
end
section
open Go.RowKit
attribute [local simp] a6 bv aH aA aQ aY aR aK aM PLl cJ cH N1l cI cL cK bf bB a7 bu J1.bx J2.bx ca
theorem r9xy(a b:W2):PUR 47 [EV6 (a,b,on2)] (.tuple #[EV2 a,EV2 b]):=by
 intro w hw;refine Hf func47 O hw<|λhGF=>Xp<|Bx 1 hGF O<|λb1=>Al 2 hGF zv41<|λb2=>Al 3 hGF zv41<|λb3=>aa<|ae<|Xd []<|Fa 24 O underlying43 O sizeOf41<|aw 1 _ O O isAgg41 sizeOf41 sm (gc (m:=12) (n:=12) sm sm O) O O<|Ca O (nS)<|tg true O O (λ_=>MS _ _ _ _ _ _) (λw=>Nm _ _ sm sm w) (decide_eq_true O) O O<|aa<|aP O<|gg (E:=EE []) (λX=>X=Hp (pl w) [(1,b1,((fe (a).1++fe (a).2)++((fe (b).1++fe (b).2)++(fe (on2).1++fe (on2).2))).map U64,43)]) (mkB [2]) (rkB [13]) [0,1,2,3,4,5] cY O kr kr kr<|dE O O<|Fa 0 O underlying43 O sizeOf41<|aa<|dE O O<|aw 1 _ O O isAgg41 sizeOf41 sm ej O O<|aa<|dE O O<|Fa 12 O underlying43 O sizeOf41<|aa<|kh (X:=Hp (pl w) [(1,b1,((fe (a).1++fe (a).2)++((fe (b).1++fe (b).2)++(fe (on2).1++fe (on2).2))).map U64,43)]) O (cP am trv) (λ_=>rfl)<|aw 1 _ O O isAgg41 sizeOf41 sm (km sm) O O<|aa<|fE O<|Sa 2 hGF O O O bH<|aa<|?_;refine ⟨λ_ X hX _=>by subst hX;exact cP am trv, ?_⟩
 refine fE O<|Sa 3 hGF O O O bH<|aa<|?_;refine ⟨λh=>(by cases h), ?_⟩
 refine fI<|ak<|Rr<|?_;exact im 2 3 O O O O O isAgg41 sizeOf41 sm sm (λw hw=>⟨rfl,ab hw⟩)
theorem hmc{i:TypeInfo}(k:Nat)(h:prog.info? 5=some i/\i.zero=some (.int .u8 0)/\i.size=1/\i.bytes=1)(hk:(madeCells (Value.int .u8 0).cells (k*1)).toList=(List.replicate k 0#8).map U8):(madeCells (Value.int .u8 0).cells (k*i.size)).toList=(List.replicate k 0#8).map U8:=by
 rw[h.2.2.1];exact hk
theorem hmk(k:Nat)(h:k<=1000):k*ti5.choose.size<=16777216/\ti5.choose.bytes*k<=281474976710656/\k<=1000000:=by
 rw[ti5.choose_spec.2.2.1,ti5.choose_spec.2.2.2];omega
theorem mc48:(madeCells (Value.int .u8 0).cells (48*1)).toList=(List.replicate 48 0#8).map U8:=kr
theorem mc96:(madeCells (Value.int .u8 0).cells (96*1)).toList=(List.replicate 96 0#8).map U8:=kr
def OR0(bs:L8)(v:BitVec 8):L8:=bs.set 0 (bs.getD 0 0|||v)
theorem ft(bs:L8)(v:BitVec 8):(OR0 bs v).length=bs.length:=by simp[OR0]
attribute [local simp] ft
theorem VH(x:Zp):lay 0 ((cG x).map U8) ((List.replicate 48 0#8).map U8)=(cG x).map U8:=jF _ _ sm
theorem G8(x:Zp):lay 0 ((cG x).map U8) ((List.replicate 96 0#8).map U8)=(cG x++List.replicate 48 0#8).map U8:=by
 have h:=tf (cG x) 96 sm;rw[aM]at h;exact h
theorem HU(x y:Zp):lay 48 ((cG y).map U8) ((cG x++List.replicate 48 0#8).map U8)=(cG x++cG y).map U8:=by
 rw[jc 48 _ _ sm];rw[List.map_append,List.map_append];have e1:((cG x).map U8++(List.replicate 48 0#8).map U8).take 48=(cG x).map U8:=List.take_left' sm;have e2:((cG x).map U8++(List.replicate 48 0#8).map U8).drop (48+((cG y).map U8).length)=[]:=List.drop_eq_nil_of_le sm;rw[e1,e2,List.append_nil]
theorem sz5:(prog.info? 5).map (·.size)=some 1:=kr
end
section
open Go.RowKit
attribute [local simp] a6 bv aH aA aQ aY aR aK aM PLl cJ cH N1l cI cL cK bf bB a7 bu J1.bx J2.bx ca ft
def X1(bs:L8):Zp:=zp (BN (LO bs 0) 48)
def X2(bs:L8):W2:=(zp (BN (LO bs 48) 48),zp (BN (LO bs 0) 48))
def LB(bs:L8):Bool:=FG bs &&& 32#8 !=0#8
def NY{α:Type}(z:α)(inG:Option (α×α)->Prop)(l:Bool)(x y:α)(c:Int)(P:Option (α×α)):Prop:=
 ((l=true/\y=z)/\c=103/\P=none)\/(¬(l=true/\y=z)/\((¬inG (some (x,y))/\c=104/\P=none)\/(inG (some (x,y))/\c=0/\P=some (x,y))))
def FLG(bs:L8)(n:Nat){α:Type}(c:Int)(P:Option α)(R:Prop):Prop:=
 (¬bs.length=n/\c=100/\P=none)\/(bs.length=n/\((FG bs &&& 128#8=0#8/\c=101/\P=none)\/(¬FG bs &&& 128#8=0#8/\((¬FG bs &&& 64#8=0#8/\c=INF bs n/\P=none)\/(FG bs &&& 64#8=0#8/\R)))))
def D1(bs:L8)(c:Int)(P:Pt Zp):Prop:=FLG bs 48 c P ((¬BN (LO bs 0) 48<PP/\c=102/\P=none)\/(BN (LO bs 0) 48<PP/\
 ((¬J1.LQ (X1 bs)/\c=103/\P=none)\/(J1.LQ (X1 bs)/\NY 0 (λQ=>IG1 Q) (LB bs) (X1 bs) (J1.LY (X1 bs) (LB bs)) c P))))
def D2(bs:L8)(c:Int)(P:Pt W2):Prop:=FLG bs 96 c P ((¬(BN (LO bs 48) 48<PP/\BN (LO bs 0) 48<PP)/\c=102/\P=none)\/((BN (LO bs 48) 48<PP/\BN (LO bs 0) 48<PP)/\
 ((¬J2.LQ (X2 bs)/\c=103/\P=none)\/(∃r,ml2 r r=J2.RS4 (X2 bs)/\LG2 r=false/\NY ze2 (λQ=>IG2 Q) (LB bs) (X2 bs) (J2.sgY r (LB bs)) c P))))
theorem yz1{y:Zp}:((y,0):W2)=ze2↔y=0:=⟨λh=>congrArg Prod.fst h,λh=>by rw[h];rfl⟩
end
theorem bv_a: ∀b:BitVec 8,b &&& 224#8=0#8->(b|||128#8) &&& 31#8=b/\((b|||128#8)|||32#8) &&& 31#8=b/\¬((b|||128#8) &&& 224#8) &&& 128#8=0#8/\¬(((b|||128#8)|||32#8) &&& 224#8) &&& 128#8=0#8/\((b|||128#8) &&& 224#8) &&& 64#8=0#8/\(((b|||128#8)|||32#8) &&& 224#8) &&& 64#8=0#8/\((b|||128#8) &&& 224#8) &&& 32#8=0#8/\¬(((b|||128#8)|||32#8) &&& 224#8) &&& 32#8=0#8:=by decide+kernel
def ENF(B:L8)(l:Bool):L8:=if l=true then OR0 (OR0 B 128#8) 32#8 else OR0 B 128#8
theorem VW(b:BitVec 8)(r:L8):MK (b::r)=(b &&& 31#8)::r:=rfl
theorem CP(b:BitVec 8)(r:L8):FG (b::r)=b &&& 224#8:=rfl
theorem zu(b:BitVec 8)(r:L8):ENF (b::r) true=((b|||128#8)|||32#8)::r:=rfl
theorem AJ(b:BitVec 8)(r:L8):ENF (b::r) false=(b|||128#8)::r:=rfl
theorem ox(B:L8)(l:Bool):(ENF B l).length=B.length:=by
 cases l<;>simp[ENF,ft]
structure Top(B:L8):Prop where
 ne:0<B.length
 lt:B.getD 0 0 &&& 224#8=0#8
theorem z9{B:L8}(h:Top B)(l:Bool):MK (ENF B l)=B/\¬FG (ENF B l) &&& 128#8=0#8/\FG (ENF B l) &&& 64#8=0#8/\LB (ENF B l)=l:=by
 cases B with
 |nil=>exact absurd h.ne dc
 |cons b r=>
  obtain ⟨h1,h2,h3,h4,h5,h6,h7,h8⟩:=bv_a b h.lt
  cases l with
  |true=>exact ⟨by rw[zu,VW,h2],by rw[zu,CP];exact h4,by rw[zu,CP];exact h6,by rw[LB,zu,CP];exact bne_iff_ne.2 h8⟩
  |false=>exact ⟨by rw[AJ,VW,h1],by rw[AJ,CP];exact h3,by rw[AJ,CP];exact h5,by rw[LB,AJ,CP];exact bne_eq_false_iff_eq.2 h7⟩
/-! ### Numbers below p have noughts there -/
theorem Gs(bs:L8): ∀n,(bs.getD 0 0).toNat*256^n<=BN bs (n+1)
 |0=>by rw[BN,BN];omega
 |n+1=>by
  have:=Gs bs n;rw[BN,Nat.pow_succ];generalize 256^n=p at*;generalize BN bs (n+1)=q at*;generalize (bs.getD 0 0).toNat=t at*;have:t*(p*256)=t*p*256:=by rw[Nat.mul_assoc]
  omega
theorem QY:PP<32*256^47:=by decide+kernel
theorem bv_t: ∀b:BitVec 8,b.toNat<32->b &&& 224#8=0#8:=by decide+kernel
theorem Pe{bs:L8}(h:bs.length=48)(hl:BN bs 48<PP):Top bs:=by
 refine ⟨om,bv_t _ ?_⟩;have h1:=Gs bs 47;have h2:=QY;generalize (bs.getD 0 0).toNat=t at*;have h3:t*256^47<32*256^47:=Nat.lt_of_le_of_lt h1 (Nat.lt_trans hl h2);exact Nat.lt_of_mul_lt_mul_right h3
theorem oQ(x:Zp):BN (cG x) 48<PP:=by rw[Af];exact x.isLt
theorem vA(x:Zp):Top (cG x):=Pe (aM x) (oQ x)
theorem tC(x:Zp):zp (BN (cG x) 48)=x:=by
 rw[Af];exact sA x
end Go.Proofs.YtjookodjbjabbaaGreatDoor
