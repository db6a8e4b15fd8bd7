/- L7 -/
import Derived.Test.YtfakhlafilbjkaaGreatDoorL6
set_option maxRecDepth 100000
set_option maxHeartbeats 1000000
namespace Go.Proofs.YtfakhlafilbjkaaGreatDoor
open Go.Proofs.Tryz
section
open Go.RowKit
attribute [local simp] dZ fJ bR bz dw cG cH ce ef PLl mE mB N1l mw mF mo eQ gt jp i7 jR
end
section
open Go.RowKit
attribute [local simp] dZ fJ bR bz dw cG cH ce ef PLl mE mB N1l mw mF mo eQ gt jp i7 jR
def RRL:L6:=[18446744069414584321#64,6034159408538082302#64,3691218898639771653#64,8353516859464449352#64,0#64,0#64]
def RB48:L8:=BYs RRL 48
theorem Bd:RB48.length=48:=by decide+kernel
theorem Er:RRL.length=6:=rfl
attribute [local simp] Bd Er
end
section
variable {α:Type} [DecidableEq α] {C:Ec α} (T:Tw C)
end
/-! ### The first curve -/
def TRN:Nat:=0x5f19672fdf76ce51ba69c6076a0f77eaddb3a93be6f89688de17d813620a00022e01fffffffefffe
section
open Go.RowKit
theorem ent161:aL prog 161:=λ_ _=>kr
theorem ent381:aL prog 381:=λ_ _=>kr
theorem ent380:aL prog 380:=λ_ _=>kr
theorem ent377:aL prog 377:=λ_ _=>kr
theorem ent376:aL prog 376:=λ_ _=>kr
theorem ent375:aL prog 375:=λ_ _=>kr
theorem ent379:aL prog 379:=λ_ _=>kr
theorem ent166:aL prog 166:=λ_ _=>kr
namespace J1
attribute [local simp] dZ fJ bR bz dw cG cH ce ef PLl mE mB N1l mw mF mo eQ gt jp i7 jR
structure GP where
 J:Zp×Zp×Zp
 P:Pt Zp
 on:E1.onP P
 jr:E1.jr J P
def GL(p:GP):L6:=fe p.J.1++(fe p.J.2.1++fe p.J.2.2)
theorem rD(p:GP):(GL p).length=18:=by simp[GL]
attribute [local simp] rD
abbrev PtV(p:GP):Value:=bj (GL p)
def RS4(x:Zp):Zp:=x*x*x+zp 4
abbrev LQ(x:Zp):Prop:=SQr (RS4 x)*SQr (RS4 x)=RS4 x
def LY(x:Zp)(l:Bool):Zp:=if decide (hf<(SQ (RS4 x)).val)=l then SQ (RS4 x)else-(SQ (RS4 x))
theorem Kr{x y:Zp}:E1.on (x,y)↔y*y=RS4 x:=by
 show y*y=x*(x*x)+zp 4↔y*y=x*x*x+zp 4;rw[show x*(x*x)=x*x*x from by grind]
theorem Iz(a:Zp): -a* -a=a*a:=by grind
theorem Ku(x:Zp)(l:Bool):LY x l=SQ (RS4 x)\/LY x l= -(SQ (RS4 x)):=by
 rw[LY];generalize SQ (RS4 x)=s;by_cases h:decide (hf<s.val)=l
 ·exact .inl (if_pos h)
 ·exact .inr (if_neg h)
theorem Ka{x:Zp}(h:LQ x)(l:Bool):LY x l*LY x l=RS4 x:=by
 have e:=KA h;rcases Ku x l with k|k
 ·rw[k,e]
 ·rw[k,Iz,e]
theorem B6{p:Zp×Zp}(h:E1.on p):E1.onP (some p):=h
theorem LY_f{a:Zp}(h:LQ a):LY a false=SQ (RS4 a):=if_pos (decide_eq_false (tc h))
theorem LY_t{a:Zp}(h:LQ a):LY a true= -(SQ (RS4 a)):=if_neg (by rw[decide_eq_false (tc h)];exact Bool.false_ne_true)
theorem Lp{x:Zp}(h:LQ x)(l:Bool):E1.onP (some (x,LY x l)):=B6 (Kr.2 (Ka h l))
abbrev JV(J:Zp×Zp×Zp):Value:=bj (fe (J.1)++(fe (J.2.1)++fe (J.2.2)))
theorem fY(w:World):(zeroValue 191).run prog w=.ok (bj (fe 0++(fe 0++fe 0))) w:=by rw[yw];exact (zeroValue191 w).trans aE
theorem gp:Three prog 191 ⟨ "x",189,0,false, "", "pharos/g1",0⟩ ⟨ "y",189,6,false, "", "pharos/g1",48⟩ ⟨ "z",189,12,false, "", "pharos/g1",96⟩ 6 (fe 0) (fe 0) (fe 0):=⟨underlying191,rfl,rfl,rfl,sizeOf189,sizeOf189,sizeOf189,fY,aB,aB,aB⟩
theorem jsub(a b:Zp):a-b=E1.sub a b:=by show a-b=a+ -b;grind
theorem iY(x y:Zp):PUR 233 [EV x,EV y] (EV (E1.sub x y)):=by
 have h:=ri x y;rw[jsub]at h;exact h
theorem dI(x:Zp×Zp×Zp):PUR 161 [JV x] (.bool (decide (x.2.2=0))):=by
 intro w hw;refine Hf func161 O hw<|λhGF=>Xp<|Bx 1 hGF O<|λb1=>Asg O<|aa<|Xp<|Fa 12 O underlying191 O sizeOf189<|bp 1 _ O O isAgg189 sizeOf189 aB (dX (m:=6) (n:=6) aB aB O) O O<|Ca O (ed _)<|Asg O<|aa<|ao<|Rr<|?_;exact ar O O (λw hw=>⟨rfl,ae hw⟩)
theorem uY(x:Zp×Zp×Zp):PUR 166 [JV x] (JV (x.1,-x.2.1,x.2.2)):=by
 intro w hw;refine Hf func166 O hw<|λhGF=>Xp<|Bx 1 hGF O<|λb1=>Al 2 hGF fY<|λb2=>aa<|Xd []<|Fa 0 O underlying191 O sizeOf189<|bp 1 _ O O isAgg189 sizeOf189 aB kK O O<|Fa 6 O underlying191 O sizeOf189<|bp 1 _ O O isAgg189 sizeOf189 aB (kp aB) O O<|Ca O (nv _)<|Fa 12 O underlying191 O sizeOf189<|bp 1 _ O O isAgg189 sizeOf189 aB (dX (m:=6) (n:=6) aB aB O) O O<|eE gp O O O aB aB aB O O<|Sa 2 hGF O O O bJ<|aa<|ao<|Rr<|?_;exact aF 2 O O O isAgg191 sizeOf191 aB (λw hw=>⟨rfl,ae hw⟩)
theorem jinf  :PUR 160 [] (JV (0,0,0)):=by
 intro w hw;refine Hf func160 O hw<|λhGF=>Xp<|Al 0 hGF fY<|λb0=>aa<|Xp<|gR gp O O<|Sa 0 hGF O O O bJ<|aa<|ao<|Rr<|?_;exact aF 0 O O O isAgg191 sizeOf191 aB (λw hw=>⟨rfl,ae hw⟩)
theorem pM(a:Zp):PUR 240 [EV a] (EV (a*a*a)):=by
 intro w hw;refine Hf func240 O hw<|λhGF=>Xp<|Bx 1 hGF O<|λb1=>Al 2 hGF zv189<|λb2=>aa<|Xd []<|La 1 O O aW<|Ca O (bX _)<|La 1 O O aW<|Ca O (bF _ _)<|Sa 2 hGF O O O aW<|aa<|ao<|Rr<|?_;exact aF 2 O O O isAgg189 sizeOf189 aB (λw hw=>⟨rfl,ae hw⟩)
def dbF(x:Zp×Zp×Zp):Zp×Zp×Zp:=
 let a:=x.2.1+x.2.1
 let s:=x.1*x.1
 let u:=s+s+s
 let h:=a*a
 let b:=h*x.1
 let X:=E1.sub (E1.sub (u*u) b) b
 (X,E1.sub (u*E1.sub b X) (h*a*x.2.1),x.2.2*a)
theorem M3(x:Zp×Zp×Zp):PUR 378 [JV x] (JV (dbF x)):=by
 intro w hw;refine Hf func378 O hw<|λhGF=>Xp<|Bx 1 hGF O<|λb1=>Al 2 hGF fY<|λb2=>aa<|cU (E:=EE [2999999]) [0,1,2,3,4,5,6,7] [⟨8,3,189,(List.replicate 6 0#64).map U64⟩,⟨9,4,189,(List.replicate 6 0#64).map U64⟩] [10,11] de O kr kr kr kr kr kr aC (by intro x hx;simp only[List.mem_cons,List.not_mem_nil,or_false]at hx;rcases hx with rfl|rfl<;>exact bH O zv189 O)<|Fa 6 O underlying191 O sizeOf189<|bp 1 _ O O isAgg189 sizeOf189 aB (kp aB) O O<|Fa 6 O underlying191 O sizeOf189<|bp 1 _ O O isAgg189 sizeOf189 aB (kp aB) O O<|Ca O (kR _ _)<|Fa 0 O underlying191 O sizeOf189<|bp 1 _ O O isAgg189 sizeOf189 aB kK O O<|Ca O (bX _)<|aa<|?_
 refine ⟨_,_,rfl,hGF,by intro x hx;simp only[List.mem_cons,List.not_mem_nil,or_false]at hx;rcases hx with rfl|rfl<;>rfl,by intro x hx;simp only[List.mem_cons,List.not_mem_nil,or_false]at hx;rcases hx with rfl|rfl<;>rfl,λadr=> ?_⟩
 refine Sa 3 hGF O O O aW<|Sa 4 hGF O O O aW<|aa<|Xa [0,1,2,3,4] ⟨5,5,189,(List.replicate 6 0#64).map U64⟩ [6] (bH O zv189 O)<|La 4 O O aW<|La 4 O O aW<|Ca O (kR _ _)<|La 4 O O aW<|Ca O (kR _ _)<|aa<|?_;refine ⟨_,_,rfl,hGF,by intro x hx;simp only[List.mem_cons,List.not_mem_nil,or_false]at hx;subst hx;rfl,by intro x hx;simp only[List.mem_cons,List.not_mem_nil,or_false]at hx;subst hx;rfl,λadr=> ?_⟩
 refine Sa 5 hGF O O O aW<|aa<|Xp<|La 3 O O aW<|Ca O (bX _)<|Al 6 hGF zv189<|λb6=>Sa 6 hGF O O O aW<|aa<|Xp<|La 6 O O aW<|Fa 0 O underlying191 O sizeOf189<|bp 1 _ O O isAgg189 sizeOf189 aB kK O O<|Ca O (bF _ _)<|Al 7 hGF zv189<|λb7=>Sa 7 hGF O O O aW<|aa<|Xa [0,1,2,3,4,5] ⟨6,8,189,(List.replicate 6 0#64).map U64⟩ [7] (bH O zv189 O)<|La 5 O O aW<|Ca O (bX _)<|La 7 O O aW<|Ca O (iY _ _)<|La 7 O O aW<|Ca O (iY _ _)<|aa<|?_;refine ⟨_,_,rfl,hGF,by intro x hx;simp only[List.mem_cons,List.not_mem_nil,or_false]at hx;subst hx;rfl,by intro x hx;simp only[List.mem_cons,List.not_mem_nil,or_false]at hx;subst hx;rfl,λadr=> ?_⟩
 refine Sa 8 hGF O O O aW<|aa<|Xa [0,1,2,3,4,5,6,7,8,9,10,11] ⟨12,9,189,(List.replicate 6 0#64).map U64⟩ [13] (bH O zv189 O)<|La 5 O O aW<|La 7 O O aW<|La 8 O O aW<|Ca O (iY _ _)<|Ca O (bF _ _)<|La 6 O O aW<|La 3 O O aW<|Ca O (bF _ _)<|Fa 6 O underlying191 O sizeOf189<|bp 1 _ O O isAgg189 sizeOf189 aB (kp aB) O O<|Ca O (bF _ _)<|Ca O (iY _ _)<|aa<|?_;refine ⟨_,_,rfl,hGF,by intro x hx;simp only[List.mem_cons,List.not_mem_nil,or_false]at hx;subst hx;rfl,by intro x hx;simp only[List.mem_cons,List.not_mem_nil,or_false]at hx;subst hx;rfl,λadr=> ?_⟩
 refine Sa 9 hGF O O O aW<|aa<|Xd []<|La 8 O O aW<|La 9 O O aW<|Fa 12 O underlying191 O sizeOf189<|bp 1 _ O O isAgg189 sizeOf189 aB (dX (m:=6) (n:=6) aB aB O) O O<|La 3 O O aW<|Ca O (bF _ _)<|eE gp O O O aB aB aB O O<|Sa 2 hGF O O O bJ<|aa<|ao<|Rr<|?_;exact aF 2 O O O isAgg191 sizeOf191 aB (λw hw=>⟨rfl,ae hw⟩)
theorem db_s(x y:Zp):(y+y)*(y+y)*x=(x*(y*y)+x*(y*y))+(x*(y*y)+x*(y*y)):=by grind
theorem db_c(y:Zp):(y+y)*(y+y)*(y+y)*y=(((y*y)*(y*y)+(y*y)*(y*y))+((y*y)*(y*y)+(y*y)*(y*y)))+(((y*y)*(y*y)+(y*y)*(y*y))+((y*y)*(y*y)+(y*y)*(y*y))):=by grind
theorem db_z(y z:Zp):z*(y+y)=y*z+y*z:=by grind
theorem D1(m:Zp){s s' c c' z z':Zp}(hs:s=s')(hc:c=c')(hz:z=z'):(E1.sub (E1.sub (m*m) s) s,E1.sub (m*E1.sub s (E1.sub (E1.sub (m*m) s) s)) c,z)=(E1.sub (E1.sub (m*m) s') s',E1.sub (m*E1.sub s' (E1.sub (E1.sub (m*m) s') s')) c',z'):=by rw[hs,hc,hz]
theorem Hu(x:Zp×Zp×Zp):dbF x=E1.jd x.1 x.2.1 x.2.2:=D1 (x.1*x.1+x.1*x.1+x.1*x.1) (db_s x.1 x.2.1) (db_c x.2.1) (db_z x.2.1 x.2.2)
theorem IM{x:Zp×Zp×Zp}{P:Pt Zp}(hP:E1.onP P)(h:E1.jr x P):E1.jr (dbF x) (E1.ad P P):=by
 have k:=E1.jr_d hP h;by_cases hz:x.2.2=E1.R.zero\/x.2.1=E1.R.zero
 ·rw[show E1.jdF x=(E1.R.zero,E1.R.zero,E1.R.zero)from if_pos hz]at k
  rw[(E1.jr_z k).1 O];show x.2.2*(x.2.1+x.2.1)=(0:Zp);rcases hz with e|e
  ·rw[show x.2.2=(0:Zp)from e,z_0m]
  ·rw[show x.2.1=(0:Zp)from e,LR,z_m0]
 ·rw[show E1.jdF x=E1.jd x.1 x.2.1 x.2.2 from if_neg hz,<-Hu]at k
  exact k
def adG(x y:Zp×Zp×Zp):Zp×Zp×Zp:=
 let u:=x.1*(y.2.2*y.2.2)
 let s:=x.2.1*(y.2.2*y.2.2)*y.2.2
 let h:=E1.sub (y.1*(x.2.2*x.2.2)) u
 let r:=E1.sub (y.2.1*(x.2.2*x.2.2)*x.2.2) s
 let q:=h*h
 let c:=q*h
 let w:=q*u
 let X:=E1.sub (E1.sub (E1.sub (r*r) c) w) w
 (X,E1.sub (r*E1.sub w X) (c*s),x.2.2*y.2.2*h)
def adF(x y:Zp×Zp×Zp):Zp×Zp×Zp:=if x.2.2=0 then y else if y.2.2=0 then x else if E1.jh x.1 x.2.2 y.1 y.2.2=0 then (if E1.jq x.2.1 x.2.2 y.2.1 y.2.2=0 then dbF x else (0,0,0))else adG x y
theorem Bj(a b:Zp):a*b=b*a:=by grind
theorem mI{a w w' r k k' z:Zp}(hw:w=w')(hk:k=k'):(E1.sub (E1.sub a w) w,E1.sub (r*E1.sub w (E1.sub (E1.sub a w) w)) k,z)=(E1.sub (E1.sub a w') w',E1.sub (r*E1.sub w' (E1.sub (E1.sub a w') w')) k',z):=by rw[hw,hk]
theorem GX(x y:Zp×Zp×Zp):adG x y=E1.ja x.1 x.2.1 x.2.2 y.1 y.2.1 y.2.2:=mI (Bj _ _) (Bj _ _)
theorem uy{p q:Zp×Zp}{x y:Zp×Zp×Zp}(h:E1.jr x (some p))(k:E1.jr y (some q)):(x.1*(y.2.2*y.2.2)=y.1*(x.2.2*x.2.2)↔p.1=q.1)/\(x.2.1*(y.2.2*y.2.2)*y.2.2=y.2.1*(x.2.2*x.2.2)*x.2.2↔p.2=q.2):=by
 have hx:x.1=p.1*(x.2.2*x.2.2):=h.2.1;have hy:x.2.1=p.2*(x.2.2*x.2.2*x.2.2):=h.2.2;have kx:y.1=q.1*(y.2.2*y.2.2):=k.2.1;have ky:y.2.1=q.2*(y.2.2*y.2.2*y.2.2):=k.2.2;have n2:=E1.mul_ne (E1.z2_ne h.1) (E1.z2_ne k.1);have n3:=E1.mul_ne (E1.z3_ne h.1) (E1.z3_ne k.1);obtain ⟨z,hz⟩: ∃z,x.2.2=z:=⟨_,rfl⟩;obtain ⟨v,hv⟩: ∃v,y.2.2=v:=⟨_,rfl⟩;rw[hz]at hx hy n2 n3;rw[hv]at kx ky n2 n3;rw[hx,hy,kx,ky,hz,hv];refine ⟨⟨λe=>E1.mul_can n2 ?_,λe=>by rw[e];grind⟩,⟨λe=>E1.mul_can n3 ?_,λe=>by rw[e];grind⟩⟩
 ·show p.1*(z*z*(v*v))=q.1*(z*z*(v*v))
  grind
 ·show p.2*(z*z*z*(v*v*v))=q.2*(z*z*z*(v*v*v))
  grind
theorem AO{x y:Zp×Zp×Zp}{P Q:Pt Zp}(_:E1.onP P)(_:E1.onP Q)(h:E1.jr x P)(k:E1.jr y Q)(h1: ¬x.2.2=0)(h2: ¬y.2.2=0)(h3:E1.jh x.1 x.2.2 y.1 y.2.2=0)(h4:E1.jq x.2.1 x.2.2 y.2.1 y.2.2=0):Q=P:=by
 cases P with
 |none=>exact absurd h h1
 |some p=>
  cases Q with
  |none=>exact absurd k h2
  |some q=>
   have s:=uy h k;exact congrArg some (Prod.ext (s.1.1 (E1.sub0 h3).symm).symm (s.2.1 (E1.sub0 h4).symm).symm)
theorem Gm{x y:Zp×Zp×Zp}{P Q:Pt Zp}(hP:E1.onP P)(hQ:E1.onP Q)(h:E1.jr x P)(k:E1.jr y Q):E1.jr (adF x y) (E1.ad P Q):=by
 have j:=E1.jr_a hP hQ h k;by_cases h1:x.2.2=0
 ·rw[show E1.jaF x y=y from if_pos h1]at j
  rw[show adF x y=y from if_pos h1];exact j
 by_cases h2:y.2.2=0
 ·rw[show E1.jaF x y=x from (if_neg h1).trans (if_pos h2)]at j
  rw[show adF x y=x from (if_neg h1).trans (if_pos h2)];exact j
 by_cases h3:E1.jh x.1 x.2.2 y.1 y.2.2=0
 ·by_cases h4:E1.jq x.2.1 x.2.2 y.2.1 y.2.2=0
  ·rw[show adF x y=dbF x from (if_neg h1).trans ((if_neg h2).trans ((if_pos h3).trans (if_pos h4)))]
   have e:Q=P:=AO hP hQ h k h1 h2 h3 h4;rw[e];exact IM hP h
  ·rw[show E1.jaF x y=(E1.R.zero,E1.R.zero,E1.R.zero)from (if_neg h1).trans ((if_neg h2).trans ((if_pos h3).trans (if_neg h4)))]at j
   rw[show adF x y=(0,0,0)from (if_neg h1).trans ((if_neg h2).trans ((if_pos h3).trans (if_neg h4)))];exact j
 ·rw[show E1.jaF x y=E1.ja x.1 x.2.1 x.2.2 y.1 y.2.1 y.2.2 from (if_neg h1).trans ((if_neg h2).trans (if_neg h3)),<-GX]at j
  rw[show adF x y=adG x y from (if_neg h1).trans ((if_neg h2).trans (if_neg h3))];exact j
theorem LZ(x y:Zp×Zp×Zp):PUR 375 [JV x,JV y] (JV (adF x y)):=by
 intro w hw;have hGF:BOk Gt (pl w):=gt_low.plain hw;by_cases h1:x.2.2=0
 ·rw[show adF x y=y from if_pos h1]
  refine Hqd func375 O hGF<|Xp<|Bx 2 hGF O<|λb2=>Bx 3 hGF O<|λb3=>Al 4 hGF fY<|λb4=>aa<|ah<|Xp<|La 2 O O bJ<|Cbl true O ent161 (dI _) (decide_eq_true h1)<|aa<|aQ O<|Xp<|La 3 O O bJ<|Sa 4 hGF O O O bJ<|aa<|ao<|Rr<|?_;exact aF 4 O O O isAgg191 sizeOf191 aB (λw hw=>⟨rfl,ae hw⟩)
 ·by_cases h2:y.2.2=0
  ·rw[show adF x y=x from (if_neg h1).trans (if_pos h2)]
   refine Hqd func375 O hGF<|Xp<|Bx 2 hGF O<|λb2=>Bx 3 hGF O<|λb3=>Al 4 hGF fY<|λb4=>aa<|ah<|Xp<|La 2 O O bJ<|Cbl false O ent161 (dI _) (decide_eq_false h1)<|aa<|aH O<|aw<|ah<|Xp<|La 3 O O bJ<|Cbl true O ent161 (dI _) (decide_eq_true h2)<|aa<|aQ O<|Xp<|La 2 O O bJ<|Sa 4 hGF O O O bJ<|aa<|ao<|Rr<|?_;exact aF 4 O O O isAgg191 sizeOf191 aB (λw hw=>⟨rfl,ae hw⟩)
  ·by_cases h3:E1.jh x.1 x.2.2 y.1 y.2.2=0
   ·by_cases h4:E1.jq x.2.1 x.2.2 y.2.1 y.2.2=0
    ·rw[show adF x y=dbF x from (if_neg h1).trans ((if_neg h2).trans ((if_pos h3).trans (if_pos h4)))]
     refine Hqd func375 O hGF<|Xp<|Bx 2 hGF O<|λb2=>Bx 3 hGF O<|λb3=>Al 4 hGF fY<|λb4=>aa<|ah<|Xp<|La 2 O O bJ<|Cbl false O ent161 (dI _) (decide_eq_false h1)<|aa<|aH O<|aw<|ah<|Xp<|La 3 O O bJ<|Cbl false O ent161 (dI _) (decide_eq_false h2)<|aa<|aH O<|aw<|cU (E:=EE [2999999]) [0,1,2,3,4,5] [⟨6,5,189,(List.replicate 6 0#64).map U64⟩,⟨7,6,189,(List.replicate 6 0#64).map U64⟩] [8,9] de O kr kr kr kr kr kr aC (by intro x hx;simp only[List.mem_cons,List.not_mem_nil,or_false]at hx;rcases hx with rfl|rfl<;>exact bH O zv189 O)<|Fa 12 O underlying191 O sizeOf189<|bp 2 _ O O isAgg189 sizeOf189 aB (dX (m:=6) (n:=6) aB aB O) O O<|Ca O (bX _)<|Fa 12 O underlying191 O sizeOf189<|bp 3 _ O O isAgg189 sizeOf189 aB (dX (m:=6) (n:=6) aB aB O) O O<|Ca O (bX _)<|aa<|?_
     refine ⟨_,_,rfl,hGF,by intro x hx;simp only[List.mem_cons,List.not_mem_nil,or_false]at hx;rcases hx with rfl|rfl<;>rfl,by intro x hx;simp only[List.mem_cons,List.not_mem_nil,or_false]at hx;rcases hx with rfl|rfl<;>rfl,λadr=> ?_⟩
     refine Sa 5 hGF O O O aW<|Sa 6 hGF O O O aW<|aa<|cU (E:=EE [2999999]) [0,1,2,3,4,5,6,7,8,9,10] [⟨11,7,189,(List.replicate 6 0#64).map U64⟩,⟨12,8,189,(List.replicate 6 0#64).map U64⟩] [13,14] de O kr kr kr kr kr kr aC (by intro x hx;simp only[List.mem_cons,List.not_mem_nil,or_false]at hx;rcases hx with rfl|rfl<;>exact bH O zv189 O)<|Fa 0 O underlying191 O sizeOf189<|bp 2 _ O O isAgg189 sizeOf189 aB kK O O<|La 6 O O aW<|Ca O (bF _ _)<|Fa 6 O underlying191 O sizeOf189<|bp 2 _ O O isAgg189 sizeOf189 aB (kp aB) O O<|La 6 O O aW<|Ca O (bF _ _)<|Fa 12 O underlying191 O sizeOf189<|bp 3 _ O O isAgg189 sizeOf189 aB (dX (m:=6) (n:=6) aB aB O) O O<|Ca O (bF _ _)<|aa<|?_
     refine ⟨_,_,rfl,hGF,by intro x hx;simp only[List.mem_cons,List.not_mem_nil,or_false]at hx;rcases hx with rfl|rfl<;>rfl,by intro x hx;simp only[List.mem_cons,List.not_mem_nil,or_false]at hx;rcases hx with rfl|rfl<;>rfl,λadr=> ?_⟩
     refine Sa 7 hGF O O O aW<|Sa 8 hGF O O O aW<|aa<|Xa [0,1,2,3,4,5] ⟨6,9,189,(List.replicate 6 0#64).map U64⟩ [7] (bH O zv189 O)<|Fa 0 O underlying191 O sizeOf189<|bp 3 _ O O isAgg189 sizeOf189 aB kK O O<|La 5 O O aW<|Ca O (bF _ _)<|La 7 O O aW<|Ca O (iY _ _)<|aa<|?_;refine ⟨_,_,rfl,hGF,by intro x hx;simp only[List.mem_cons,List.not_mem_nil,or_false]at hx;subst hx;rfl,by intro x hx;simp only[List.mem_cons,List.not_mem_nil,or_false]at hx;subst hx;rfl,λadr=> ?_⟩
     refine Sa 9 hGF O O O aW<|aa<|Xa [0,1,2,3,4,5,6,7,8] ⟨9,10,189,(List.replicate 6 0#64).map U64⟩ [10] (bH O zv189 O)<|Fa 6 O underlying191 O sizeOf189<|bp 3 _ O O isAgg189 sizeOf189 aB (kp aB) O O<|La 5 O O aW<|Ca O (bF _ _)<|Fa 12 O underlying191 O sizeOf189<|bp 2 _ O O isAgg189 sizeOf189 aB (dX (m:=6) (n:=6) aB aB O) O O<|Ca O (bF _ _)<|La 8 O O aW<|Ca O (iY _ _)<|aa<|?_;refine ⟨_,_,rfl,hGF,by intro x hx;simp only[List.mem_cons,List.not_mem_nil,or_false]at hx;subst hx;rfl,by intro x hx;simp only[List.mem_cons,List.not_mem_nil,or_false]at hx;subst hx;rfl,λadr=> ?_⟩
     refine Sa 10 hGF O O O aW<|aa<|ah<|Xp<|La 9 O O aW<|Cbl true O ent194 (ed _) (decide_eq_true h3)<|Mv O<|La 10 O O aW<|Cbl true O ent194 (ed _) (decide_eq_true h4)<|Pk O O O<|aa<|aQ O<|Xp<|La 2 O O bJ<|Ca O (M3 _)<|Sa 4 hGF O O O bJ<|aa<|ao<|Rr<|?_;exact aF 4 O O O isAgg191 sizeOf191 aB (λw hw=>⟨rfl,ae hw⟩)
    ·rw[show adF x y=(0,0,0)from (if_neg h1).trans ((if_neg h2).trans ((if_pos h3).trans (if_neg h4)))]
     refine Hqd func375 O hGF<|Xp<|Bx 2 hGF O<|λb2=>Bx 3 hGF O<|λb3=>Al 4 hGF fY<|λb4=>aa<|ah<|Xp<|La 2 O O bJ<|Cbl false O ent161 (dI _) (decide_eq_false h1)<|aa<|aH O<|aw<|ah<|Xp<|La 3 O O bJ<|Cbl false O ent161 (dI _) (decide_eq_false h2)<|aa<|aH O<|aw<|cU (E:=EE [2999999]) [0,1,2,3,4,5] [⟨6,5,189,(List.replicate 6 0#64).map U64⟩,⟨7,6,189,(List.replicate 6 0#64).map U64⟩] [8,9] de O kr kr kr kr kr kr aC (by intro x hx;simp only[List.mem_cons,List.not_mem_nil,or_false]at hx;rcases hx with rfl|rfl<;>exact bH O zv189 O)<|Fa 12 O underlying191 O sizeOf189<|bp 2 _ O O isAgg189 sizeOf189 aB (dX (m:=6) (n:=6) aB aB O) O O<|Ca O (bX _)<|Fa 12 O underlying191 O sizeOf189<|bp 3 _ O O isAgg189 sizeOf189 aB (dX (m:=6) (n:=6) aB aB O) O O<|Ca O (bX _)<|aa<|?_
     refine ⟨_,_,rfl,hGF,by intro x hx;simp only[List.mem_cons,List.not_mem_nil,or_false]at hx;rcases hx with rfl|rfl<;>rfl,by intro x hx;simp only[List.mem_cons,List.not_mem_nil,or_false]at hx;rcases hx with rfl|rfl<;>rfl,λadr=> ?_⟩
     refine Sa 5 hGF O O O aW<|Sa 6 hGF O O O aW<|aa<|cU (E:=EE [2999999]) [0,1,2,3,4,5,6,7,8,9,10] [⟨11,7,189,(List.replicate 6 0#64).map U64⟩,⟨12,8,189,(List.replicate 6 0#64).map U64⟩] [13,14] de O kr kr kr kr kr kr aC (by intro x hx;simp only[List.mem_cons,List.not_mem_nil,or_false]at hx;rcases hx with rfl|rfl<;>exact bH O zv189 O)<|Fa 0 O underlying191 O sizeOf189<|bp 2 _ O O isAgg189 sizeOf189 aB kK O O<|La 6 O O aW<|Ca O (bF _ _)<|Fa 6 O underlying191 O sizeOf189<|bp 2 _ O O isAgg189 sizeOf189 aB (kp aB) O O<|La 6 O O aW<|Ca O (bF _ _)<|Fa 12 O underlying191 O sizeOf189<|bp 3 _ O O isAgg189 sizeOf189 aB (dX (m:=6) (n:=6) aB aB O) O O<|Ca O (bF _ _)<|aa<|?_
     refine ⟨_,_,rfl,hGF,by intro x hx;simp only[List.mem_cons,List.not_mem_nil,or_false]at hx;rcases hx with rfl|rfl<;>rfl,by intro x hx;simp only[List.mem_cons,List.not_mem_nil,or_false]at hx;rcases hx with rfl|rfl<;>rfl,λadr=> ?_⟩
     refine Sa 7 hGF O O O aW<|Sa 8 hGF O O O aW<|aa<|Xa [0,1,2,3,4,5] ⟨6,9,189,(List.replicate 6 0#64).map U64⟩ [7] (bH O zv189 O)<|Fa 0 O underlying191 O sizeOf189<|bp 3 _ O O isAgg189 sizeOf189 aB kK O O<|La 5 O O aW<|Ca O (bF _ _)<|La 7 O O aW<|Ca O (iY _ _)<|aa<|?_;refine ⟨_,_,rfl,hGF,by intro x hx;simp only[List.mem_cons,List.not_mem_nil,or_false]at hx;subst hx;rfl,by intro x hx;simp only[List.mem_cons,List.not_mem_nil,or_false]at hx;subst hx;rfl,λadr=> ?_⟩
     refine Sa 9 hGF O O O aW<|aa<|Xa [0,1,2,3,4,5,6,7,8] ⟨9,10,189,(List.replicate 6 0#64).map U64⟩ [10] (bH O zv189 O)<|Fa 6 O underlying191 O sizeOf189<|bp 3 _ O O isAgg189 sizeOf189 aB (kp aB) O O<|La 5 O O aW<|Ca O (bF _ _)<|Fa 12 O underlying191 O sizeOf189<|bp 2 _ O O isAgg189 sizeOf189 aB (dX (m:=6) (n:=6) aB aB O) O O<|Ca O (bF _ _)<|La 8 O O aW<|Ca O (iY _ _)<|aa<|?_;refine ⟨_,_,rfl,hGF,by intro x hx;simp only[List.mem_cons,List.not_mem_nil,or_false]at hx;subst hx;rfl,by intro x hx;simp only[List.mem_cons,List.not_mem_nil,or_false]at hx;subst hx;rfl,λadr=> ?_⟩
     refine Sa 10 hGF O O O aW<|aa<|ah<|Xp<|La 9 O O aW<|Cbl true O ent194 (ed _) (decide_eq_true h3)<|Mv O<|La 10 O O aW<|Cbl false O ent194 (ed _) (decide_eq_false h4)<|Pk O O O<|aa<|aH O<|aw<|ah<|Xp<|La 9 O O aW<|Cbl true O ent194 (ed _) (decide_eq_true h3)<|aa<|aQ O<|Xp<|gR gp O O<|Sa 4 hGF O O O bJ<|aa<|ao<|Rr<|?_;exact aF 4 O O O isAgg191 sizeOf191 aB (λw hw=>⟨rfl,ae hw⟩)
   ·rw[show adF x y=adG x y from (if_neg h1).trans ((if_neg h2).trans (if_neg h3))]
    refine Hqd func375 O hGF<|Xp<|Bx 2 hGF O<|λb2=>Bx 3 hGF O<|λb3=>Al 4 hGF fY<|λb4=>aa<|ah<|Xp<|La 2 O O bJ<|Cbl false O ent161 (dI _) (decide_eq_false h1)<|aa<|aH O<|aw<|ah<|Xp<|La 3 O O bJ<|Cbl false O ent161 (dI _) (decide_eq_false h2)<|aa<|aH O<|aw<|cU (E:=EE [2999999]) [0,1,2,3,4,5] [⟨6,5,189,(List.replicate 6 0#64).map U64⟩,⟨7,6,189,(List.replicate 6 0#64).map U64⟩] [8,9] de O kr kr kr kr kr kr aC (by intro x hx;simp only[List.mem_cons,List.not_mem_nil,or_false]at hx;rcases hx with rfl|rfl<;>exact bH O zv189 O)<|Fa 12 O underlying191 O sizeOf189<|bp 2 _ O O isAgg189 sizeOf189 aB (dX (m:=6) (n:=6) aB aB O) O O<|Ca O (bX _)<|Fa 12 O underlying191 O sizeOf189<|bp 3 _ O O isAgg189 sizeOf189 aB (dX (m:=6) (n:=6) aB aB O) O O<|Ca O (bX _)<|aa<|?_
    refine ⟨_,_,rfl,hGF,by intro x hx;simp only[List.mem_cons,List.not_mem_nil,or_false]at hx;rcases hx with rfl|rfl<;>rfl,by intro x hx;simp only[List.mem_cons,List.not_mem_nil,or_false]at hx;rcases hx with rfl|rfl<;>rfl,λadr=> ?_⟩
    refine Sa 5 hGF O O O aW<|Sa 6 hGF O O O aW<|aa<|cU (E:=EE [2999999]) [0,1,2,3,4,5,6,7,8,9,10] [⟨11,7,189,(List.replicate 6 0#64).map U64⟩,⟨12,8,189,(List.replicate 6 0#64).map U64⟩] [13,14] de O kr kr kr kr kr kr aC (by intro x hx;simp only[List.mem_cons,List.not_mem_nil,or_false]at hx;rcases hx with rfl|rfl<;>exact bH O zv189 O)<|Fa 0 O underlying191 O sizeOf189<|bp 2 _ O O isAgg189 sizeOf189 aB kK O O<|La 6 O O aW<|Ca O (bF _ _)<|Fa 6 O underlying191 O sizeOf189<|bp 2 _ O O isAgg189 sizeOf189 aB (kp aB) O O<|La 6 O O aW<|Ca O (bF _ _)<|Fa 12 O underlying191 O sizeOf189<|bp 3 _ O O isAgg189 sizeOf189 aB (dX (m:=6) (n:=6) aB aB O) O O<|Ca O (bF _ _)<|aa<|?_
    refine ⟨_,_,rfl,hGF,by intro x hx;simp only[List.mem_cons,List.not_mem_nil,or_false]at hx;rcases hx with rfl|rfl<;>rfl,by intro x hx;simp only[List.mem_cons,List.not_mem_nil,or_false]at hx;rcases hx with rfl|rfl<;>rfl,λadr=> ?_⟩
    refine Sa 7 hGF O O O aW<|Sa 8 hGF O O O aW<|aa<|Xa [0,1,2,3,4,5] ⟨6,9,189,(List.replicate 6 0#64).map U64⟩ [7] (bH O zv189 O)<|Fa 0 O underlying191 O sizeOf189<|bp 3 _ O O isAgg189 sizeOf189 aB kK O O<|La 5 O O aW<|Ca O (bF _ _)<|La 7 O O aW<|Ca O (iY _ _)<|aa<|?_;refine ⟨_,_,rfl,hGF,by intro x hx;simp only[List.mem_cons,List.not_mem_nil,or_false]at hx;subst hx;rfl,by intro x hx;simp only[List.mem_cons,List.not_mem_nil,or_false]at hx;subst hx;rfl,λadr=> ?_⟩
    refine Sa 9 hGF O O O aW<|aa<|Xa [0,1,2,3,4,5,6,7,8] ⟨9,10,189,(List.replicate 6 0#64).map U64⟩ [10] (bH O zv189 O)<|Fa 6 O underlying191 O sizeOf189<|bp 3 _ O O isAgg189 sizeOf189 aB (kp aB) O O<|La 5 O O aW<|Ca O (bF _ _)<|Fa 12 O underlying191 O sizeOf189<|bp 2 _ O O isAgg189 sizeOf189 aB (dX (m:=6) (n:=6) aB aB O) O O<|Ca O (bF _ _)<|La 8 O O aW<|Ca O (iY _ _)<|aa<|?_;refine ⟨_,_,rfl,hGF,by intro x hx;simp only[List.mem_cons,List.not_mem_nil,or_false]at hx;subst hx;rfl,by intro x hx;simp only[List.mem_cons,List.not_mem_nil,or_false]at hx;subst hx;rfl,λadr=> ?_⟩
    refine Sa 10 hGF O O O aW<|aa<|ah<|Xp<|La 9 O O aW<|Cbl false O ent194 (ed _) (decide_eq_false h3)<|Mv O<|Sk<|Sk<|Pk O O O<|aa<|aH O<|aw<|ah<|Xp<|La 9 O O aW<|Cbl false O ent194 (ed _) (decide_eq_false h3)<|aa<|aH O<|aw<|Xp<|La 9 O O aW<|Ca O (bX _)<|Al 11 hGF zv189<|λb11=>Sa 11 hGF O O O aW<|aa<|cU (E:=EE [2999999]) [0,1,2,3,4,5] [⟨6,12,189,(List.replicate 6 0#64).map U64⟩,⟨7,13,189,(List.replicate 6 0#64).map U64⟩] [8,9] de O kr kr kr kr kr kr aC (by intro x hx;simp only[List.mem_cons,List.not_mem_nil,or_false]at hx;rcases hx with rfl|rfl<;>exact bH O zv189 O)<|La 11 O O aW<|La 9 O O aW<|Ca O (bF _ _)<|La 11 O O aW<|La 7 O O aW<|Ca O (bF _ _)<|aa<|?_
    refine ⟨_,_,rfl,hGF,by intro x hx;simp only[List.mem_cons,List.not_mem_nil,or_false]at hx;rcases hx with rfl|rfl<;>rfl,by intro x hx;simp only[List.mem_cons,List.not_mem_nil,or_false]at hx;rcases hx with rfl|rfl<;>rfl,λadr=> ?_⟩
    refine Sa 12 hGF O O O aW<|Sa 13 hGF O O O aW<|aa<|Xd []<|La 10 O O aW<|Ca O (bX _)<|La 12 O O aW<|Ca O (iY _ _)<|La 13 O O aW<|Ca O (iY _ _)<|La 13 O O aW<|Ca O (iY _ _)<|Sa 7 hGF O O O aW<|aa<|Xd []<|La 10 O O aW<|La 13 O O aW<|La 7 O O aW<|Ca O (iY _ _)<|Ca O (bF _ _)<|La 12 O O aW<|La 8 O O aW<|Ca O (bF _ _)<|Ca O (iY _ _)<|Sa 8 hGF O O O aW<|aa<|Xd []<|La 7 O O aW<|La 8 O O aW<|Fa 12 O underlying191 O sizeOf189<|bp 2 _ O O isAgg189 sizeOf189 aB (dX (m:=6) (n:=6) aB aB O) O O<|Fa 12 O underlying191 O sizeOf189<|bp 3 _ O O isAgg189 sizeOf189 aB (dX (m:=6) (n:=6) aB aB O) O O<|Ca O (bF _ _)<|La 9 O O aW<|Ca O (bF _ _)<|eE gp O O O aB aB aB O O<|Sa 4 hGF O O O bJ<|aa<|ao<|?_;refine Rr ?_;exact aF 4 O O O isAgg191 sizeOf191 aB (λw hw=>⟨rfl,ae hw⟩)
theorem uj(a b:Zp):a*(b*b)*b=a*(b*b*b):=by grind
def eqJ(x y:Zp×Zp×Zp):Prop:=(x.2.2=0/\y.2.2=0)\/(¬x.2.2=0/\¬y.2.2=0/\x.1*(y.2.2*y.2.2)=y.1*(x.2.2*x.2.2)/\x.2.1*(y.2.2*y.2.2*y.2.2)=y.2.1*(x.2.2*x.2.2*x.2.2))
theorem yB{p q:Zp×Zp}{x y:Zp×Zp×Zp}(h:E1.jr x (some p))(k:E1.jr y (some q)):(x.1*(y.2.2*y.2.2)=y.1*(x.2.2*x.2.2)↔p.1=q.1)/\(x.2.1*(y.2.2*y.2.2*y.2.2)=y.2.1*(x.2.2*x.2.2*x.2.2)↔p.2=q.2):=by
 have s:=uy h k;rw[uj,uj]at s;exact s
theorem vY{x y:Zp×Zp×Zp}{P Q:Pt Zp}(h:E1.jr x P)(k:E1.jr y Q):eqJ x y↔P=Q:=by
 cases P with
 |none=>
  cases Q with
  |none=>exact ⟨λ_=>rfl,λ_=>.inl ⟨h,k⟩⟩
  |some q=>exact ⟨λe=>e.elim (λe=>absurd e.2 k.1) (λe=>absurd h e.1),λe=>by cases e⟩
 |some p=>
  cases Q with
  |none=>exact ⟨λe=>e.elim (λe=>absurd e.1 h.1) (λe=>absurd k e.2.1),λe=>by cases e⟩
  |some q=>
   have s:=yB h k;exact ⟨λe=>e.elim (λe=>absurd e.1 h.1) (λe=>congrArg some (Prod.ext (s.1.1 e.2.2.1) (s.2.1 e.2.2.2))),λe=>.inr ⟨h.1,k.1,s.1.2 (congrArg Prod.fst (Option.some.inj e)),s.2.2 (congrArg Prod.snd (Option.some.inj e))⟩⟩
theorem lJ(x y:Zp×Zp×Zp)(hd:Decidable (eqJ x y))(b:Bool)(hb:b=decide (eqJ x y)):PUR 376 [JV x,JV y] (.bool b):=by
 intro w hw;have hGF:BOk Gt (pl w):=gt_low.plain hw;by_cases h1:x.2.2=0
 ·by_cases h2:y.2.2=0
  ·obtain rfl:b=true:=hb.trans (decide_eq_true (.inl ⟨h1,h2⟩))
   refine Hqd func376 O hGF<|Xp<|Bx 2 hGF O<|λb2=>Bx 3 hGF O<|λb3=>Asg O<|aa<|ah<|Xp<|La 2 O O bJ<|Cbl true O ent161 (dI _) (decide_eq_true h1)<|Mv O<|Sk<|Sk<|Pk O O O<|aa<|aQ O<|Xp<|La 2 O O bJ<|Cbl true O ent161 (dI _) (decide_eq_true h1)<|Mv O<|La 3 O O bJ<|Cbl true O ent161 (dI _) (decide_eq_true h2)<|Pk O O O<|Asg O<|aa<|ao<|Rr<|?_;exact ar O O (λw hw=>⟨rfl,ae hw⟩)
  ·obtain rfl:b=false:=hb.trans (decide_eq_false (λe=>e.elim (λe=>h2 e.2) (λe=>e.1 h1)))
   refine Hqd func376 O hGF<|Xp<|Bx 2 hGF O<|λb2=>Bx 3 hGF O<|λb3=>Asg O<|aa<|ah<|Xp<|La 2 O O bJ<|Cbl true O ent161 (dI _) (decide_eq_true h1)<|Mv O<|Sk<|Sk<|Pk O O O<|aa<|aQ O<|Xp<|La 2 O O bJ<|Cbl true O ent161 (dI _) (decide_eq_true h1)<|Mv O<|La 3 O O bJ<|Cbl false O ent161 (dI _) (decide_eq_false h2)<|Pk O O O<|Asg O<|aa<|ao<|Rr<|?_;exact ar O O (λw hw=>⟨rfl,ae hw⟩)
 ·by_cases h2:y.2.2=0
  ·obtain rfl:b=false:=hb.trans (decide_eq_false (λe=>e.elim (λe=>h1 e.1) (λe=>e.2.1 h2)))
   refine Hqd func376 O hGF<|Xp<|Bx 2 hGF O<|λb2=>Bx 3 hGF O<|λb3=>Asg O<|aa<|ah<|Xp<|La 2 O O bJ<|Cbl false O ent161 (dI _) (decide_eq_false h1)<|Mv O<|La 3 O O bJ<|Cbl true O ent161 (dI _) (decide_eq_true h2)<|Pk O O O<|aa<|aQ O<|Xp<|La 2 O O bJ<|Cbl false O ent161 (dI _) (decide_eq_false h1)<|Mv O<|Sk<|Sk<|Pk O O O<|Asg O<|aa<|ao<|Rr<|?_;exact ar O O (λw hw=>⟨rfl,ae hw⟩)
  ·by_cases h3:x.1*(y.2.2*y.2.2)=y.1*(x.2.2*x.2.2)
   ·by_cases h4:x.2.1*(y.2.2*y.2.2*y.2.2)=y.2.1*(x.2.2*x.2.2*x.2.2)
    ·obtain rfl:b=true:=hb.trans (decide_eq_true (.inr ⟨h1,h2,h3,h4⟩))
     refine Hqd func376 O hGF<|Xp<|Bx 2 hGF O<|λb2=>Bx 3 hGF O<|λb3=>Asg O<|aa<|ah<|Xp<|La 2 O O bJ<|Cbl false O ent161 (dI _) (decide_eq_false h1)<|Mv O<|La 3 O O bJ<|Cbl false O ent161 (dI _) (decide_eq_false h2)<|Pk O O O<|aa<|aH O<|aw<|cU (E:=EE [2999999]) [0,1,2,3,4,5,6,7,8,9,10,11] [⟨12,5,189,(List.replicate 6 0#64).map U64⟩,⟨13,6,189,(List.replicate 6 0#64).map U64⟩] [14,15] de O kr kr kr kr kr kr aC (by intro x hx;simp only[List.mem_cons,List.not_mem_nil,or_false]at hx;rcases hx with rfl|rfl<;>exact bH O zv189 O)<|Fa 6 O underlying191 O sizeOf189<|bp 2 _ O O isAgg189 sizeOf189 aB (kp aB) O O<|Fa 12 O underlying191 O sizeOf189<|bp 3 _ O O isAgg189 sizeOf189 aB (dX (m:=6) (n:=6) aB aB O) O O<|Ca O (pM _)<|Ca O (bF _ _)<|Fa 6 O underlying191 O sizeOf189<|bp 3 _ O O isAgg189 sizeOf189 aB (kp aB) O O<|Fa 12 O underlying191 O sizeOf189<|bp 2 _ O O isAgg189 sizeOf189 aB (dX (m:=6) (n:=6) aB aB O) O O<|Ca O (pM _)<|Ca O (bF _ _)<|aa<|?_
     refine ⟨_,_,rfl,hGF,by intro x hx;simp only[List.mem_cons,List.not_mem_nil,or_false]at hx;rcases hx with rfl|rfl<;>rfl,by intro x hx;simp only[List.mem_cons,List.not_mem_nil,or_false]at hx;rcases hx with rfl|rfl<;>rfl,λadr=> ?_⟩
     refine Sa 5 hGF O O O aW<|Sa 6 hGF O O O aW<|aa<|Xd []<|Fa 0 O underlying191 O sizeOf189<|bp 2 _ O O isAgg189 sizeOf189 aB kK O O<|Fa 12 O underlying191 O sizeOf189<|bp 3 _ O O isAgg189 sizeOf189 aB (dX (m:=6) (n:=6) aB aB O) O O<|Ca O (bX _)<|Ca O (bF _ _)<|Fa 0 O underlying191 O sizeOf189<|bp 3 _ O O isAgg189 sizeOf189 aB kK O O<|Fa 12 O underlying191 O sizeOf189<|bp 2 _ O O isAgg189 sizeOf189 aB (dX (m:=6) (n:=6) aB aB O) O O<|Ca O (bX _)<|Ca O (bF _ _)<|Cbl true O ent244 (f6 _ _) (decide_eq_true h3)<|Mv O<|La 5 O O aW<|La 6 O O aW<|Cbl true O ent244 (f6 _ _) (decide_eq_true h4)<|Pk O O O<|Asg O<|aa<|ao<|Rr<|?_;exact ar O O (λw hw=>⟨rfl,ae hw⟩)
    ·obtain rfl:b=false:=hb.trans (decide_eq_false (λe=>e.elim (λe=>h1 e.1) (λe=>h4 e.2.2.2)))
     refine Hqd func376 O hGF<|Xp<|Bx 2 hGF O<|λb2=>Bx 3 hGF O<|λb3=>Asg O<|aa<|ah<|Xp<|La 2 O O bJ<|Cbl false O ent161 (dI _) (decide_eq_false h1)<|Mv O<|La 3 O O bJ<|Cbl false O ent161 (dI _) (decide_eq_false h2)<|Pk O O O<|aa<|aH O<|aw<|cU (E:=EE [2999999]) [0,1,2,3,4,5,6,7,8,9,10,11] [⟨12,5,189,(List.replicate 6 0#64).map U64⟩,⟨13,6,189,(List.replicate 6 0#64).map U64⟩] [14,15] de O kr kr kr kr kr kr aC (by intro x hx;simp only[List.mem_cons,List.not_mem_nil,or_false]at hx;rcases hx with rfl|rfl<;>exact bH O zv189 O)<|Fa 6 O underlying191 O sizeOf189<|bp 2 _ O O isAgg189 sizeOf189 aB (kp aB) O O<|Fa 12 O underlying191 O sizeOf189<|bp 3 _ O O isAgg189 sizeOf189 aB (dX (m:=6) (n:=6) aB aB O) O O<|Ca O (pM _)<|Ca O (bF _ _)<|Fa 6 O underlying191 O sizeOf189<|bp 3 _ O O isAgg189 sizeOf189 aB (kp aB) O O<|Fa 12 O underlying191 O sizeOf189<|bp 2 _ O O isAgg189 sizeOf189 aB (dX (m:=6) (n:=6) aB aB O) O O<|Ca O (pM _)<|Ca O (bF _ _)<|aa<|?_
     refine ⟨_,_,rfl,hGF,by intro x hx;simp only[List.mem_cons,List.not_mem_nil,or_false]at hx;rcases hx with rfl|rfl<;>rfl,by intro x hx;simp only[List.mem_cons,List.not_mem_nil,or_false]at hx;rcases hx with rfl|rfl<;>rfl,λadr=> ?_⟩
     refine Sa 5 hGF O O O aW<|Sa 6 hGF O O O aW<|aa<|Xd []<|Fa 0 O underlying191 O sizeOf189<|bp 2 _ O O isAgg189 sizeOf189 aB kK O O<|Fa 12 O underlying191 O sizeOf189<|bp 3 _ O O isAgg189 sizeOf189 aB (dX (m:=6) (n:=6) aB aB O) O O<|Ca O (bX _)<|Ca O (bF _ _)<|Fa 0 O underlying191 O sizeOf189<|bp 3 _ O O isAgg189 sizeOf189 aB kK O O<|Fa 12 O underlying191 O sizeOf189<|bp 2 _ O O isAgg189 sizeOf189 aB (dX (m:=6) (n:=6) aB aB O) O O<|Ca O (bX _)<|Ca O (bF _ _)<|Cbl true O ent244 (f6 _ _) (decide_eq_true h3)<|Mv O<|La 5 O O aW<|La 6 O O aW<|Cbl false O ent244 (f6 _ _) (decide_eq_false h4)<|Pk O O O<|Asg O<|aa<|ao<|Rr<|?_;exact ar O O (λw hw=>⟨rfl,ae hw⟩)
   ·obtain rfl:b=false:=hb.trans (decide_eq_false (λe=>e.elim (λe=>h1 e.1) (λe=>h3 e.2.2.1)))
    refine Hqd func376 O hGF<|Xp<|Bx 2 hGF O<|λb2=>Bx 3 hGF O<|λb3=>Asg O<|aa<|ah<|Xp<|La 2 O O bJ<|Cbl false O ent161 (dI _) (decide_eq_false h1)<|Mv O<|La 3 O O bJ<|Cbl false O ent161 (dI _) (decide_eq_false h2)<|Pk O O O<|aa<|aH O<|aw<|cU (E:=EE [2999999]) [0,1,2,3,4,5,6,7,8,9,10,11] [⟨12,5,189,(List.replicate 6 0#64).map U64⟩,⟨13,6,189,(List.replicate 6 0#64).map U64⟩] [14,15] de O kr kr kr kr kr kr aC (by intro x hx;simp only[List.mem_cons,List.not_mem_nil,or_false]at hx;rcases hx with rfl|rfl<;>exact bH O zv189 O)<|Fa 6 O underlying191 O sizeOf189<|bp 2 _ O O isAgg189 sizeOf189 aB (kp aB) O O<|Fa 12 O underlying191 O sizeOf189<|bp 3 _ O O isAgg189 sizeOf189 aB (dX (m:=6) (n:=6) aB aB O) O O<|Ca O (pM _)<|Ca O (bF _ _)<|Fa 6 O underlying191 O sizeOf189<|bp 3 _ O O isAgg189 sizeOf189 aB (kp aB) O O<|Fa 12 O underlying191 O sizeOf189<|bp 2 _ O O isAgg189 sizeOf189 aB (dX (m:=6) (n:=6) aB aB O) O O<|Ca O (pM _)<|Ca O (bF _ _)<|aa<|?_
    refine ⟨_,_,rfl,hGF,by intro x hx;simp only[List.mem_cons,List.not_mem_nil,or_false]at hx;rcases hx with rfl|rfl<;>rfl,by intro x hx;simp only[List.mem_cons,List.not_mem_nil,or_false]at hx;rcases hx with rfl|rfl<;>rfl,λadr=> ?_⟩
    refine Sa 5 hGF O O O aW<|Sa 6 hGF O O O aW<|aa<|Xd []<|Fa 0 O underlying191 O sizeOf189<|bp 2 _ O O isAgg189 sizeOf189 aB kK O O<|Fa 12 O underlying191 O sizeOf189<|bp 3 _ O O isAgg189 sizeOf189 aB (dX (m:=6) (n:=6) aB aB O) O O<|Ca O (bX _)<|Ca O (bF _ _)<|Fa 0 O underlying191 O sizeOf189<|bp 3 _ O O isAgg189 sizeOf189 aB kK O O<|Fa 12 O underlying191 O sizeOf189<|bp 2 _ O O isAgg189 sizeOf189 aB (dX (m:=6) (n:=6) aB aB O) O O<|Ca O (bX _)<|Ca O (bF _ _)<|Cbl false O ent244 (f6 _ _) (decide_eq_false h3)<|Mv O<|Sk<|Sk<|Sk<|Pk O O O<|Asg O<|aa<|ao<|Rr<|?_;exact ar O O (λw hw=>⟨rfl,ae hw⟩)
theorem J2(a b:Zp):PUR 202 [EV a,EV b] (JV (a,b,1)):=by
 intro w hw;refine Hf func202 O hw<|λhGF=>Xp<|Bx 2 hGF O<|λb2=>Bx 3 hGF O<|λb3=>Al 4 hGF fY<|λb4=>aa<|Xd []<|La 2 O O aW<|La 3 O O aW<|Ca O (q6)<|eE gp O O O aB aB aB O O<|Sa 4 hGF O O O bJ<|aa<|ao<|Rr<|?_;exact aF 4 O O O isAgg191 sizeOf191 aB (λw hw=>⟨rfl,ae hw⟩)
theorem of4:PUR 232 [U64 4#64] (EV (zp 4)):=tX 4#64
theorem sO(a:Zp):PUR 213 [EV a] (EV (RS4 a)):=by
 intro w hw;refine Hf func213 O hw<|λhGF=>Xp<|Bx 1 hGF O<|λb1=>Al 2 hGF zv189<|λb2=>aa<|Xp<|La 1 O O aW<|Ca O (pM _)<|Ca O (of4)<|Ca O (kR _ _)<|Sa 2 hGF O O O aW<|aa<|ao<|Rr<|?_;exact aF 2 O O O isAgg189 sizeOf189 aB (λw hw=>⟨rfl,ae hw⟩)
theorem B5(a s:Zp)(hs:PUR 214 [EV (RS4 a)] (.tuple #[EV s,.bool true])):PUR 192 [EV a,.bool true] (.tuple #[JV (a,-s,1),.bool true]):=by
 intro w hw;refine Hf func192 O hw<|λhGF=>Xp<|Bx 2 hGF O<|λb2=>Al 4 hGF fY<|λb4=>Asg O<|aa<|Xp<|La 2 O O aW<|Ca O (sO _)<|Ca O (hs)<|Mv O<|Exq O O<|Exq O O<|Al 6 hGF zv189<|λb6=>Sa 6 hGF O O O aW<|Asg O<|aa<|ah<|Xp<|Mv O<|bV O (λ_=>bP _) O O<|aa<|aH O<|aw<|ah<|Xp<|Mv O<|aa<|aQ O<|Xq<|La 6 O O aW<|Ca O (nv _)<|Sa 6 hGF O O O aW<|aa<|Xp<|La 2 O O aW<|La 6 O O aW<|Ca O (J2 _ _)<|Sa 4 hGF O O O bJ<|Asg O<|?_;refine aa<|ao<|Rr<|?_;exact co 4 O O O O isAgg191 sizeOf191 aB (λw hw=>⟨rfl,ae hw⟩)
theorem CA(a s:Zp)(hs:PUR 214 [EV (RS4 a)] (.tuple #[EV s,.bool false])):PUR 192 [EV a,.bool true] (.tuple #[JV (0,0,0),.bool false]):=by
 intro w hw;refine Hf func192 O hw<|λhGF=>Xp<|Bx 2 hGF O<|λb2=>Al 4 hGF fY<|λb4=>Asg O<|aa<|Xp<|La 2 O O aW<|Ca O (sO _)<|Ca O (hs)<|Mv O<|Exq O O<|Exq O O<|Al 6 hGF zv189<|λb6=>Sa 6 hGF O O O aW<|Asg O<|aa<|ah<|Xp<|Mv O<|bV O (λ_=>bP _) O O<|aa<|aQ O<|Xp<|gR gp O O<|Sa 4 hGF O O O bJ<|Asg O<|aa<|ao<|Rr<|?_;exact co 4 O O O O isAgg191 sizeOf191 aB (λw hw=>⟨rfl,ae hw⟩)
theorem zy(a s:Zp)(hs:PUR 214 [EV (RS4 a)] (.tuple #[EV s,.bool true])):PUR 192 [EV a,.bool false] (.tuple #[JV (a,s,1),.bool true]):=by
 intro w hw;refine Hf func192 O hw<|λhGF=>Xp<|Bx 2 hGF O<|λb2=>Al 4 hGF fY<|λb4=>Asg O<|aa<|Xp<|La 2 O O aW<|Ca O (sO _)<|Ca O (hs)<|Mv O<|Exq O O<|Exq O O<|Al 6 hGF zv189<|λb6=>Sa 6 hGF O O O aW<|Asg O<|aa<|ah<|Xp<|Mv O<|bV O (λ_=>bP _) O O<|aa<|aH O<|aw<|ah<|Xp<|Mv O<|aa<|aH O<|aw<|Xp<|La 2 O O aW<|La 6 O O aW<|Ca O (J2 _ _)<|Sa 4 hGF O O O bJ<|Asg O<|aa<|ao<|Rr<|?_;exact co 4 O O O O isAgg191 sizeOf191 aB (λw hw=>⟨rfl,ae hw⟩)
theorem A3(a s:Zp)(hs:PUR 214 [EV (RS4 a)] (.tuple #[EV s,.bool false])):PUR 192 [EV a,.bool false] (.tuple #[JV (0,0,0),.bool false]):=by
 intro w hw;refine Hf func192 O hw<|λhGF=>Xp<|Bx 2 hGF O<|λb2=>Al 4 hGF fY<|λb4=>Asg O<|aa<|Xp<|La 2 O O aW<|Ca O (sO _)<|Ca O (hs)<|Mv O<|Exq O O<|Exq O O<|Al 6 hGF zv189<|λb6=>Sa 6 hGF O O O aW<|Asg O<|aa<|ah<|Xp<|Mv O<|bV O (λ_=>bP _) O O<|aa<|aQ O<|Xp<|gR gp O O<|Sa 4 hGF O O O bJ<|Asg O<|aa<|ao<|Rr<|?_;exact co 4 O O O O isAgg191 sizeOf191 aB (λw hw=>⟨rfl,ae hw⟩)
end J1
end
section
open Go.RowKit
theorem ent383:aL prog 383:=λ_ _=>kr
namespace J1
attribute [local simp] dZ fJ bR bz dw cG cH ce ef PLl mE mB N1l mw mF mo eQ gt jp i7 jR
attribute [local simp] rD
def pb(bs:L8)(m:Nat):Bool:=decide (f8 bs m=1#8)
abbrev oB(bs:L8)(m:Nat):List Nat:=oL (pb bs) (8*bs.length) m
def NLs(l:List Nat):List (List Value):=l.map λn:Nat=>[I (n:Int)]
theorem xh(l:List Nat):(NLs l).length=l.length:=by simp[NLs]
theorem Fy(bs:L8)(i j:Nat)(hj:j<8):bs.getD i 0>>>(7-j) &&& 1#8=f8 bs (8*i+j):=by
 rw[f8,show (8*i+j) / 8=i by omega,show (8*i+j) % 8=j by omega]
theorem Kb{bs:L8}{m:Nat}(h:f8 bs m=1#8):pb bs m=true:=decide_eq_true h
theorem pb_n{bs:L8}{m:Nat}(h: ¬f8 bs m=1#8): ¬pb bs m=true:=λe=>h (of_decide_eq_true e)
theorem Js{bs:L8}{m:Nat}(hm:m<8*bs.length)(h:f8 bs m=1#8):(NLs (oB bs (8*bs.length)))[(oB bs m).length]? =some [I ((8*bs.length-1-m:Nat):Int)]:=by
 rw[NLs,List.getElem?_map,JH hm (Kb h)];rfl
theorem oB_y{bs:L8}{m:Nat}(h:f8 bs m=1#8):(oB bs (m+1)).length=(oB bs m).length+1:=LL (Kb h)
theorem oB_n{bs:L8}{m:Nat}(h: ¬f8 bs m=1#8):(oB bs (m+1)).length=(oB bs m).length:=KQ (pb_n h)
theorem Bb{bb:Nat}{e:Option Addr}{cap:Nat}{bs:L8}{w w':World}(h:RdD bb e cap bs w)(hg:Grow w w'):RdD bb e cap bs w':=⟨(hg.cell (block_lt_of_cell h.1)).trans h.1,h.2.grow hg⟩
theorem r6(sv:Value)(hs:sv.cells= #[sv])(w:World)(hw:Gt w):CLS 381 [sv].toArray w (λe w'=> ∃b1,e=.returned (.func (.func 383) #[] #[pnt b1])/\Grow w w'/\w.heap.size<=b1/\OwnB w' b1 [sv] 123):=by
 refine Hf func381 O hw<|λhGF=>Xp<|gH 1 hGF O O O<|λb1=>Asg O<|aa<|Xp<|dV O O O O<|Asg O<|aa<|ao<|Rr<|?_;exact ar O O (λw hw=>⟨b1,rfl,ae hw,(hw.own 1 b1 _ _ O).2.elim id False.elim,(by have:=(hw.own 1 b1 _ _ O).1;rw[hs]at this;exact this)⟩)
theorem vl(bb:Nat)(e:Option Addr)(cap:Nat)(bs:L8)(hlen:bs.length<=1000000):jH prog Gt 383 [pnt bb] (NLs (oB bs (8*bs.length))) (RdD bb e cap bs):=by
 intro l J Jx hJ hJx hRd hGx hY w hj;have okJ: ∀k,BOk Gt (Bi w (λY=>J Y k)):=λk=>⟨λ_ _ _ h=>(hRd _ _ _ h.rid).1,hJ k⟩;have okX: ∀k,BOk Gt (Bi w (λY=>Jx Y k)):=λk=>⟨λ_ _ _ h=>hGx _ _ _ h.rid,hJx k⟩;have c1: ∀k L w',Hp (Bi w (λY=>J Y k)) L w'->RdD bb e cap bs w':=λk L w' h=>(hRd _ _ _ h.rid).2;have hby:=(hRd _ _ _ hj).2.2;refine eM (G:=Gt) func383 O O (Hp (Bi w (λY=>J Y 0)) []) (cO (Bi w _) hj (hJ 0)) (aU (okJ 0))<|Xp<|aT O isAgg123 (λw h=>(c1 _ _ w h).1) O O<|bB O (λ_=>aO underlying123 _ _ _ _) O O<|Mv O<|aa<|au<|j0 (ι:={i:Nat // i<=bs.length}) (λx=>[(0,.func (.yield l) #[] #[]),(1,pnt bb),(6,.slice e bs.length cap),(7,I (bs.length:Int)),(8,I (x.1:Int))]) (λx=>Bi w (λY=>J Y (oB bs (8*x.1)).length)) (λx=>[]) (λx=>bs.length-x.1) ⟨0,Nat.zero_le _⟩ (λ_=>okJ _) O trv trivial<|?_;rintro ⟨i,hi⟩;dsimp only;refine Xp<|Bnr O O (λ_=>aI _ _ _)<|aa<|ah<|?_;refine cx O (λhc=> ?_) (λhc=> ?_)
 ·have hi2:i<bs.length:=by simp at hc;omega
  refine aw<|ah<|au<|Xp<|Mv O<|?_;obtain ⟨ad,rfl,_⟩:=hby i _ (gm U8 bs 0 i om);refine io i O O underlying123 sizeOf5 O om O O<|aT O isAgg5 (λw' h=>by obtain ⟨ad',e',hc'⟩:=(c1 _ _ w' h).2 i _ (gm U8 bs 0 i om);cases e';exact hc') O O<|Asg O<|Asg O<|aa<|Xp<|Asg O<|aa<|au<|j0 (ι:={j:Nat // j<=8}) (λx=>[(0,.func (.yield l) #[] #[]),(1,pnt bb),(6,.slice (some ad) bs.length cap),(7,I (bs.length:Int)),(8,I (i:Int)),(3,I (i:Int)),(4,U8 (bs.getD i 0)),(5,I (7-(x.1:Int)))]) (λx=>Bi w (λY=>J Y (oB bs (8*i+x.1)).length)) (λx=>[]) (λx=>8-x.1) ⟨0,Nat.zero_le _⟩ (λ_=>okJ _) O trv trivial<|?_
  rintro ⟨j,hj⟩;dsimp only;by_cases h1:f8 bs (8*i+j)=1#8
  ·refine ah<|Xp<|Mv O<|Bnr (v:=.bool (decide (j<8))) O O (λ_=>(cQ _ _ _).trans (by rw[show decide ((7-(j:Int))>=0)=decide (j<8)from decide_eq_decide.2 om]))<|aa<|?_
   refine cx O (λhc=> ?_) (λhc=> ?_)
   ·have hj2:j<8:=by simpa using hc
    refine aw<|ah<|au<|Xp<|Mv O<|Mv O<|Bnr (v:=U8 (bs.getD i 0>>>(7-j))) O O (λ_=>(iJ _ _ _ om).trans (by rw[show (7-(j:Int)).toNat=7-j by omega]))<|Bnr (v:=U8 (f8 bs (8*i+j))) O O (λ_=>(eH _ _ 1#8).trans (by rw[Fy bs i j hj2]))<|Bnr (v:=.bool true) O O (λw=>(dH _ _ _).trans (congrArg (λb=>Result.ok (Value.bool b) w) (beq_iff_eq.2 h1)))<|Mv O<|Mv O<|aT O isAgg123 (λw h=>(c1 _ _ w h).1) O O<|bB O (λ_=>aO underlying123 _ _ _ _) O O<|Bnr (v:=I ((bs.length:Int)-1)) O O (λ_=>bC _ _ _ aG)<|Mv O<|Bnr (v:=I ((bs.length-1-i:Nat):Int)) O O (λ_=>(bC _ _ _ aG).trans (by rw[show (bs.length:Int)-1-(i:Int)=((bs.length-1-i:Nat):Int) by omega]))<|Bnr (v:=I ((8*(bs.length-1-i):Nat):Int)) O O (λ_=>(bT _ _ _ aG).trans (by rw[show (8:Int)*((bs.length-1-i:Nat):Int)=((8*(bs.length-1-i):Nat):Int) by omega]))<|Mv O<|Bnr (v:=I ((8*bs.length-1-(8*i+j):Nat):Int)) O O (λ_=>(ay _ _ _ aG).trans (by rw[show ((8*(bs.length-1-i):Nat):Int)+(7-(j:Int))=((8*bs.length-1-(8*i+j):Nat):Int) by omega]))<|?_
    refine e5 (hY.b (k:=(oB bs (8*i+j)).length) (Js om h1) w) (okJ _) (okX _) O O O O O ?_ ?_
    ·refine bV O (λ_=>bP _) O O<|Pk O O O<|aa<|aH O<|aw<|Xq<|Mv O<|Bnr (v:=I (7-((j+1:Nat):Int))) O O (λ_=>(bC _ _ _ aG).trans (by rw[show 7-(j:Int)-1=7-((j+1:Nat):Int) by omega]))<|Asg O<|aa<|?_
     repeat (refine bh ?_)
     refine aY ?_;rw[<-oB_y h1];exact ⟨rfl,⟨j+1,om⟩,_,by show 8-(j+1)<8-j;omega,rfl,trv,trivial⟩
    ·refine bV O (λ_=>bP _) O O<|Pk O O O<|aa<|aQ O<|ao<|Rr<|?_
     repeat (first|refine iT ?_|refine iq ?_|refine ip O ?_|refine da ?_|refine db ?_)
     exact em O (λw hw=>⟨⟨_,rfl⟩,.inr ⟨_,di (hJx _) hw.rid⟩⟩)
   ·obtain rfl:j=8:=by simp at hc;omega
    refine bv<|Xq<|Bnr O O (λ_=>ay _ _ _ aG)<|Mv O<|aa<|?_
    repeat (refine bh ?_)
    exact aY<|⟨rfl,⟨i+1,om⟩,_,by show bs.length-(i+1)<bs.length-i;omega,rfl,trv,trivial⟩
  ·refine ah<|am (E:=EE [3000000])<|Mv O<|Bnr (v:=.bool (decide (j<8))) O O (λ_=>(cQ _ _ _).trans (by rw[show decide ((7-(j:Int))>=0)=decide (j<8)from decide_eq_decide.2 om]))<|aa<|?_
   refine cx O (λhc=> ?_) (λhc=> ?_)
   ·have hj2:j<8:=by simpa using hc
    refine aw<|ah<|au<|am (E:=EE [3000000])<|Mv O<|Mv O<|Bnr (v:=U8 (bs.getD i 0>>>(7-j))) O O (λ_=>(iJ _ _ _ om).trans (by rw[show (7-(j:Int)).toNat=7-j by omega]))<|Bnr (v:=U8 (f8 bs (8*i+j))) O O (λ_=>(eH _ _ 1#8).trans (by rw[Fy bs i j hj2]))<|Bnr (v:=.bool false) O O (λw=>(dH _ _ _).trans (congrArg (λb=>Result.ok (Value.bool b) w) (beq_eq_false_iff_ne.2 h1)))<|Mv O<|Sk<|Sk<|Sk<|Sk<|Sk<|Sk<|Sk<|Sk<|Sk<|Sk<|Sk<|Pk O O O<|aa<|aH O<|aw<|cv (E:=EE [3000000])<|Mv O<|Bnr (v:=I (7-((j+1:Nat):Int))) O O (λ_=>(bC _ _ _ aG).trans (by rw[show 7-(j:Int)-1=7-((j+1:Nat):Int) by omega]))<|Asg O<|aa<|?_
    repeat (refine bh ?_)
    refine aY ?_;rw[<-oB_n h1];exact ⟨rfl,⟨j+1,om⟩,_,by show 8-(j+1)<8-j;omega,rfl,trv,trivial⟩
   ·obtain rfl:j=8:=by simp at hc;omega
    refine bv<|cv (E:=EE [3000000])<|Bnr O O (λ_=>ay _ _ _ aG)<|Mv O<|aa<|?_
    repeat (refine bh ?_)
    exact aY<|⟨rfl,⟨i+1,om⟩,_,by show bs.length-(i+1)<bs.length-i;omega,rfl,trv,trivial⟩
 ·obtain rfl:i=bs.length:=by simp at hc;omega
  refine bv ?_
  repeat (first|refine iT ?_|refine iq ?_|refine ip O ?_|refine da ?_|refine db ?_)
  refine ec O (λw hw=>⟨⟨_,rfl⟩,.inl ?_⟩);have:=di (hJ _) hw.rid;rw[xh];exact this
def dbN(x:Zp×Zp×Zp):Nat->Zp×Zp×Zp
 |0=>x
 |n+1=>dbF (dbN x n)
theorem tV(x:Zp×Zp×Zp)(n:Int)(hn:n<=1000000000):PUR 382 [JV x,I n] (JV (dbN x n.toNat)):=by
 intro w hw;refine Hf func382 O hw<|λhGF=>Xp<|Bx 2 hGF O<|λb2=>Al 4 hGF fY<|λb4=>aa<|ah<|Xp<|Mv O<|Mv O<|aa<|au<|bW (ι:={i:Nat // i<=n.toNat}) (λy=>[(2,pnt b2),(4,pnt b4),(5,I n),(6,I (y.1:Int))]) (λy=>[(2,b2,(fe ((dbN x y.1).1)++(fe ((dbN x y.1).2.1)++fe ((dbN x y.1).2.2))).map U64,191),(4,b4,(fe 0++(fe 0++fe 0)).map U64,191)]) (λy=>n.toNat-y.1) ⟨0,Nat.zero_le _⟩ hGF trv trv<|?_;rintro ⟨i,hi⟩;dsimp only;refine Xp<|Bnr (v:=.bool (decide ((i:Int)<n))) O O (λ_=>aI _ _ _)<|aa<|ah<|?_;refine cx O (λhc=> ?_) (λhc=> ?_)
 ·have hi2:i<n.toNat:=by simp at hc;omega
  refine aw<|ah<|au<|Xq<|La 2 O O bJ<|Ca O (M3 (dbN x i))<|Sa 2 hGF O O O bJ<|aa<|Xq<|Bnr O O (λ_=>ay _ _ _ aG)<|Mv O<|aa<|?_
  repeat (refine bh ?_)
  exact aY<|⟨rfl,⟨i+1,om⟩,_,by show n.toNat-(i+1)<n.toNat-i;omega,rfl,trv,trv⟩
 ·obtain rfl:i=n.toNat:=by simp at hc;omega
  refine bv<|Xp<|La 2 O O bJ<|Sa 4 hGF O O O bJ<|aa<|ao<|Rr<|?_;exact aF 4 O O O isAgg191 sizeOf191 aB (λw hw=>⟨rfl,ae hw⟩)
theorem jdbN(x:Zp×Zp×Zp)(a:Nat)(ha:a<100000000):PUR 382 [JV x,I (a:Int)] (JV (dbN x a)):=by
 have h:=tV x (a:Int) om;rw[Int.toNat_natCast]at h;exact h
theorem jdbS(x:Zp×Zp×Zp)(a b:Nat)(ha:a<100000000):PUR 382 [JV x,I ((a:Int)-(b:Int))] (JV (dbN x (a-b))):=by
 have h:=tV x ((a:Int)-(b:Int)) om;rw[Int.toNat_sub]at h;exact h
def stp(x:Zp×Zp×Zp)(A:(Zp×Zp×Zp)×Nat)(b:Nat):(Zp×Zp×Zp)×Nat:=(adF (dbN A.1 (A.2-b)) x,b)
def stK(x:Zp×Zp×Zp)(L:List Nat)(k:Nat):(Zp×Zp×Zp)×Nat:=(L.take k).foldl (stp x) ((0,0,0),0)
theorem tt(x:Zp×Zp×Zp){L:List Nat}{k n:Nat}(h:L[k]? =some n):stK x L (k+1)=stp x (stK x L k) n:=by
 rw[stK,List.take_add_one,h,List.foldl_append];rfl
theorem Lc(x:Zp×Zp×Zp){L:List Nat}{k n:Nat}(h:L[k]? =some n):(stK x L (k+1)).1=adF (dbN (stK x L k).1 ((stK x L k).2-n)) x:=by rw[tt x h];rfl
theorem F2(x:Zp×Zp×Zp){L:List Nat}{k n:Nat}(h:L[k]? =some n):(stK x L (k+1)).2=n:=by rw[tt x h];rfl
theorem zw(x:Zp×Zp×Zp){L:List Nat}{B:Nat}(h0:0<B)(hL: ∀b∈L,b<B): ∀k,k<=L.length->(stK x L k).2<B
 |0,_=>h0
 |k+1,hk=>by
  obtain ⟨n,hn⟩: ∃n,L[k]? =some n:=⟨L[k]'om,List.getElem?_eq_getElem om⟩;rw[F2 x hn];exact hL n (List.mem_of_getElem? hn)
def tmF(x:Zp×Zp×Zp)(L:List Nat):Zp×Zp×Zp:=dbN (stK x L L.length).1 (stK x L L.length).2
theorem Ed{L:List Nat}{k:Nat}{v:List Value}(h:(NLs L)[k]? =some v): ∃n:Nat,L[k]? =some n/\[I (n:Int)]=v:=by
 rw[NLs,List.getElem?_map]at h
 cases e:L[k]? with
 |none=>rw[e]at h;cases h
 |some y=>rw[e]at h;exact ⟨y,rfl,Option.some.inj h⟩
theorem rT(x:Zp×Zp×Zp)(gf:Nat)(caps:List Value)(L:List Nat)(Rd:Cls)(he:aL prog gf)(hseq:jH prog Gt gf caps (NLs L) Rd)(hL: ∀b∈L,b<100000000)(w:World)(hw:Gt w)(hRs: ∀w',Grow w w'->Rd w'):
 CLS 380 [JV x,.func (.func gf) #[] caps.toArray].toArray w (λr w'=>r=.returned (JV (tmF x L))/\Grow w w'):=by
 have hGF:BOk Gt (pl w):=gt_low.plain hw;refine fc (G:=Gt) func380 O O (Hp (pl w) []) (cO (pl w) trivial aJ) (aU hGF)<|Xp<|Bx 2 hGF O<|λb2=>Al 4 hGF fY<|λb4=>aa<|Xp<|Al 5 hGF fY<|λb5=>aa<|Xp<|oX 6 hGF zeroValue3 O O<|λb6=>cC 6 hGF O O O sizeOf3 O (by first|decide|simp) O<|aa<|ah<|Xp<|Mv O<|aa<|au<|?_
 refine j1 (λ_=>pl w) (λ_ _=>pl w) (λ_=>hGF) (λ_ _=>hGF) (λ_=>rfl) (λ_ _=>rfl) O O he hseq (λx hx=>by obtain ⟨k,hk,rfl⟩:=List.mem_map.1 hx;rfl) O (λk=>[(2,b2,(fe ((x).1)++(fe ((x).2.1)++fe ((x).2.2))).map U64,191),(4,b4,(fe 0++(fe 0++fe 0)).map U64,191),(5,b5,(fe (((stK x L k).1).1)++(fe (((stK x L k).1).2.1)++fe (((stK x L k).1).2.2))).map U64,191),(6,b6,[I ((stK x L k).2:Int)],3)]) (λ_ _ _=>False) trv (λk _ w' h=>hRs w' (h.below (λ_ h=>h))) ?_ ?_ (λ_ _ _ _ _ h=>h.elim)
 ·intro k v hx R hR
  obtain ⟨n,hn,rfl⟩:=Ed hx;have hk:k<L.length:=(List.getElem?_eq_some_iff.1 hn).1;have hb:=zw x om hL k (Nat.le_of_lt hk);have hn2:=hL n (List.mem_of_getElem? hn);refine Xq<|Asg O<|aa<|?_;refine ⟨rfl,_,rfl, ?_⟩;refine au<|Xd []<|La 5 O O bJ<|aV 6 O O O isAgg3 O O<|Mv O<|Bnr (v:=I (((stK x L k).2:Int)-(n:Int))) O O (λ_=>bC _ _ _ aG)<|Ca O (jdbS (stK x L k).1 (stK x L k).2 n hb)<|La 2 O O bJ<|Ca O (LZ _ _)<|ai 5 (hR (pl w) O hGF).2.1 O O O sizeOf191 aB aB (be _) O<|aa<|Xq<|Mv O<|cC 6 (hR (pl w) O hGF).2.1 O O O sizeOf3 O (by first|decide|simp) O<|aa<|?_
  repeat (refine bh ?_)
  exact ⟨_,rfl,⟨rfl,rfl,by rw[Lc x hn];rfl,by rw[F2 x hn];rfl,trivial⟩⟩
 ·intro D hD
  have hb:=zw x om hL L.length (Nat.le_refl _);rw[xh];refine Xp<|La 5 O O bJ<|aV 6 O O O isAgg3 O O<|Ca O (jdbN (stK x L L.length).1 (stK x L L.length).2 hb)<|Sa 4 hD O O O bJ<|aa<|ao<|Rr<|?_;exact iD (.inl O) aJ (aF 4 O O O isAgg191 sizeOf191 aB (λw hw=>⟨rfl,ae hw⟩))
def mlB(x:Zp×Zp×Zp)(bs:L8):Zp×Zp×Zp:=tmF x (oB bs (8*bs.length))
theorem uH(x:Zp×Zp×Zp)(e:Option Addr)(cap:Nat)(bs:L8)(hlen:bs.length<=1000000)(w:World)(hw:Gt w)(hby:BytesAt w e bs):
 CLS 379 [JV x,.slice e bs.length cap].toArray w (λr w'=>r=.returned (JV (mlB x bs))/\Grow w w'):=by
 refine Hf func379 O hw<|λhGF=>am (E:=EE [381,2000381])<|Bx 2 hGF O<|λb2=>Al 4 hGF fY<|λb4=>aa<|Xd [381,2000381]<|La 2 O O bJ<|Mv O<|?_;refine er O O ent381 O O (λw' hw'=>(r6 _ O w' (hGF.g _ _ _ hw')).mono λe' w'' h=> ?_);obtain ⟨c1,rfl,hg,h1,ho⟩:=h;refine ⟨_,_,rfl,aU hGF,hw'.news aJ hg [(33,c1,[.slice e bs.length cap],123)] ?_ cE,dU aJ O, ?_⟩
 ·intro n' b' c' t' hl
  rcases bx hl with ⟨_,e⟩|⟨_,hl⟩
  ·cases e;exact ⟨h1,ho⟩
  ·cases hl
 clear hw' hg h1 ho;refine Cc O ent380 (λw' hC hG=>rT x 383 [pnt c1] (oB bs (8*bs.length)) (RdD c1 e cap bs) ent383 (vl c1 e cap bs om) (λb hb=>by have:=Ln hb (Nat.le_refl _);omega) w' hG (λw'' hg=>Bb ⟨dC (n:=33) O O w' hC,hby.grow (hC.below (λ_ h=>h))⟩ hg))<|Sa 4 hGF O O O bJ<|aa<|ao<|Rr<|?_
 exact aF 4 O O O isAgg191 sizeOf191 aB (λw hw=>⟨rfl,ae hw⟩)
def TRB:L8:=[0#8,0#8,0#8,0#8,0#8,0#8,0#8,0#8,95#8,25#8,103#8,47#8,223#8,118#8,206#8,81#8,186#8,105#8,198#8,7#8,106#8,15#8,119#8,234#8,221#8,179#8,169#8,59#8,230#8,248#8,150#8,136#8,222#8,23#8,216#8,19#8,98#8,10#8,0#8,2#8,46#8,1#8,255#8,255#8,255#8,254#8,255#8,254#8]
theorem Kn:FV TRB=zp TRN:=by rw[FV,if_pos ⟨rfl,by decide+kernel⟩,show BN TRB 48=TRN by decide+kernel]
theorem Cu{c:Zp}(hc:zp TRN=c)(e:Option Addr)(cap:Nat)(w:World)(hw:Gt w)(hby:BytesAt w e TRB):CLS 190 [.slice e TRB.length cap].toArray w (λr w'=>r=.returned (.tuple #[EV c,.bool (FO TRB)])/\Grow w w'):=by
 have h:=km e cap TRB w hw hby;rw[Kn,hc]at h;exact h
def UB8:L8:=[210#8,1#8,0#8,0#8,0#8,1#8,0#8,0#8]
theorem kf{f:Zp×Zp×Zp->Zp×Zp×Zp}(hf: ∀x,mlB x UB8=f x)(x:Zp×Zp×Zp)(b c:Nat)(w:World)(hw:Gt w)(h:w.rangeAt b 0 (UB8.map U8)):CLS 379 [JV x,.slice (spt b) UB8.length c].toArray w (λr w'=>r=.returned (JV (f x))/\Grow w w'):=by
 have k:=uH x (spt b) c UB8 aC w hw (BytesAt.range h);rw[hf]at k;exact k
def tuJ(c:Zp)(x:Zp×Zp×Zp):Zp×Zp×Zp:=(x.1*c,x.2.1,x.2.2)
abbrev ngJ(x:Zp×Zp×Zp):Zp×Zp×Zp:=(x.1,-x.2.1,x.2.2)
theorem jing{f:Zp×Zp×Zp->Zp×Zp×Zp}(hf: ∀x,mlB x UB8=f x){c:Zp}(hc:zp TRN=c)(x:Zp×Zp×Zp)(hd:Decidable (eqJ (ngJ (f (f x))) (tuJ c x)))(b:Bool)(hb:b=decide (eqJ (ngJ (f (f x))) (tuJ c x))):PUR 377 [JV x] (.bool b):=by
 intro w hw;refine Hf func377 O hw<|λhGF=>am (E:=EE [1000123])<|Bx 1 hGF O<|λb1=>Asg O<|aa<|am (E:=EE [1000123])<|jz 7 TRB hGF O O O aC aC underlying123 sizeOf5 zeroValue5 O O<|λb7=>AN 7 O hGF O O underlying123 underlying5 O O<|Cc O ent190 (λw' hC hG=>Cu hc _ _ w' hG (BytesAt.range (hC.own 7 b7 _ _ O).1.range))<|Mv O<|Exq O O<|Exq O O<|Al 3 hGF zv189<|λb3=>Sa 3 hGF O O O aW<|Asg O<|aa<|cU (E:=EE [1000123,2999999]) [0,1,2,3,4,5,6,7,8] [⟨9,5,191,(fe 0++(fe 0++fe 0)).map U64⟩] [10] de O kr kr kr kr kr kr aC (by intro x hx;simp only[List.mem_cons,List.not_mem_nil,or_false]at hx;subst hx;exact bH O fY O)<|Fa 0 O underlying191 O sizeOf189<|bp 1 _ O O isAgg189 sizeOf189 aB kK O O<|La 3 O O aW<|Ca O (bF _ _)<|Fa 6 O underlying191 O sizeOf189<|bp 1 _ O O isAgg189 sizeOf189 aB (kp aB) O O<|Fa 12 O underlying191 O sizeOf189<|bp 1 _ O O isAgg189 sizeOf189 aB (dX (m:=6) (n:=6) aB aB O) O O<|eE gp O O O aB aB aB O O<|aa<|?_
 refine ⟨_,_,rfl,hGF,by intro x hx;simp only[List.mem_cons,List.not_mem_nil,or_false]at hx;subst hx;rfl,by intro x hx;simp only[List.mem_cons,List.not_mem_nil,or_false]at hx;subst hx;rfl,λadr=> ?_⟩
 refine Sa 5 hGF O O O bJ<|aa<|su (EE [2999998,2999996,1000123]) de kr kr<|bM (m:=9) [0,8] kr<|La 1 O O bJ<|La 5 O O bJ<|aa<|jy (m:=8) [1,4] kr kr aC<|?_;intro i hi;simp only[List.mem_cons,List.not_mem_nil,or_false]at hi;rcases hi with rfl|rfl
 ·refine kO 22 UB8 hGF O O O O aC aC underlying123 sizeOf5 zeroValue5 O O<|λb22=>aa<|jy (m:=7) [2,4] kr kr aC<|?_
  intro i hi;simp only[List.mem_cons,List.not_mem_nil,or_false]at hi;rcases hi with rfl|rfl
  ·refine fF 22 O hGF O O underlying123 underlying5 O O<|aa<|bM (m:=6) [3] kr<|Cc O ent379 (λw' hC hG=>kf hf _ _ _ w' hG (av (n:=22) O w' hC))<|aa<|bM (m:=5) [4] kr<|kO 25 UB8 hGF O O O O aC aC underlying123 sizeOf5 zeroValue5 O O<|λb25=>aa<|bM (m:=4) [5] kr<|fF 25 O hGF O O underlying123 underlying5 O O<|aa<|bM (m:=0) [6,7,9,10] kr<|Cc O ent379 (λw' hC hG=>kf hf _ _ _ w' hG (av (n:=25) O w' hC))<|Ca O (uY _)<|Ca O (lJ _ _ hd b hb)<|Asg O<|aa<|fO kr<|aY<|ao<|Rr<|?_
   exact ar O O (λw hw=>⟨rfl,ae hw⟩)
  ·refine kO 25 UB8 hGF O O O O aC aC underlying123 sizeOf5 zeroValue5 O O<|λb25=>aa<|jy (m:=6) [2,5] kr kr aC<|?_
   intro i hi;simp only[List.mem_cons,List.not_mem_nil,or_false]at hi;rcases hi with rfl|rfl
   ·refine fF 22 O hGF O O underlying123 underlying5 O O<|aa<|bM (m:=5) [3] kr<|Cc O ent379 (λw' hC hG=>kf hf _ _ _ w' hG (av (n:=22) O w' hC))<|aa<|bM (m:=4) [5] kr<|fF 25 O hGF O O underlying123 underlying5 O O<|aa<|bM (m:=0) [6,7,9,10] kr<|Cc O ent379 (λw' hC hG=>kf hf _ _ _ w' hG (av (n:=25) O w' hC))<|Ca O (uY _)<|Ca O (lJ _ _ hd b hb)<|Asg O<|aa<|fO kr<|aY<|ao<|Rr<|?_
    exact ar O O (λw hw=>⟨rfl,ae hw⟩)
   ·refine fF 25 O hGF O O underlying123 underlying5 O O<|aa<|bM (m:=5) [2] kr<|fF 22 O hGF O O underlying123 underlying5 O O<|aa<|bM (m:=0) [3,6,7,9,10] kr<|Cc O ent379 (λw' hC hG=>kf hf _ _ _ w' hG (av (n:=22) O w' hC))<|Cc O ent379 (λw' hC hG=>kf hf _ _ _ w' hG (av (n:=25) O w' hC))<|Ca O (uY _)<|Ca O (lJ _ _ hd b hb)<|Asg O<|aa<|fO kr<|aY<|ao<|Rr<|?_
    exact ar O O (λw hw=>⟨rfl,ae hw⟩)
 ·refine kO 25 UB8 hGF O O O O aC aC underlying123 sizeOf5 zeroValue5 O O<|λb25=>aa<|jy (m:=7) [1,5] kr kr aC<|?_
  intro i hi;simp only[List.mem_cons,List.not_mem_nil,or_false]at hi;rcases hi with rfl|rfl
  ·refine kO 22 UB8 hGF O O O O aC aC underlying123 sizeOf5 zeroValue5 O O<|λb22=>aa<|jy (m:=6) [2,5] kr kr aC<|?_
   intro i hi;simp only[List.mem_cons,List.not_mem_nil,or_false]at hi;rcases hi with rfl|rfl
   ·refine fF 22 O hGF O O underlying123 underlying5 O O<|aa<|bM (m:=5) [3] kr<|Cc O ent379 (λw' hC hG=>kf hf _ _ _ w' hG (av (n:=22) O w' hC))<|aa<|bM (m:=4) [5] kr<|fF 25 O hGF O O underlying123 underlying5 O O<|aa<|bM (m:=0) [6,7,9,10] kr<|Cc O ent379 (λw' hC hG=>kf hf _ _ _ w' hG (av (n:=25) O w' hC))<|Ca O (uY _)<|Ca O (lJ _ _ hd b hb)<|Asg O<|aa<|fO kr<|aY<|ao<|Rr<|?_
    exact ar O O (λw hw=>⟨rfl,ae hw⟩)
   ·refine fF 25 O hGF O O underlying123 underlying5 O O<|aa<|bM (m:=5) [2] kr<|fF 22 O hGF O O underlying123 underlying5 O O<|aa<|bM (m:=0) [3,6,7,9,10] kr<|Cc O ent379 (λw' hC hG=>kf hf _ _ _ w' hG (av (n:=22) O w' hC))<|Cc O ent379 (λw' hC hG=>kf hf _ _ _ w' hG (av (n:=25) O w' hC))<|Ca O (uY _)<|Ca O (lJ _ _ hd b hb)<|Asg O<|aa<|fO kr<|aY<|ao<|Rr<|?_
    exact ar O O (λw hw=>⟨rfl,ae hw⟩)
  ·refine fF 25 O hGF O O underlying123 underlying5 O O<|aa<|bM (m:=6) [1] kr<|kO 22 UB8 hGF O O O O aC aC underlying123 sizeOf5 zeroValue5 O O<|λb22=>aa<|bM (m:=5) [2] kr<|fF 22 O hGF O O underlying123 underlying5 O O<|aa<|bM (m:=0) [3,6,7,9,10] kr<|Cc O ent379 (λw' hC hG=>kf hf _ _ _ w' hG (av (n:=22) O w' hC))<|Cc O ent379 (λw' hC hG=>kf hf _ _ _ w' hG (av (n:=25) O w' hC))<|Ca O (uY _)<|Ca O (lJ _ _ hd b hb)<|Asg O<|aa<|fO kr<|aY<|ao<|Rr<|?_
   exact ar O O (λw hw=>⟨rfl,ae hw⟩)
def gK:GP:=⟨(0,0,0),none,True.intro,rfl⟩
def Jj(p q:GP):GP:=⟨adF p.J q.J,E1.ad p.P q.P,E1.ad_on p.on q.on,Gm p.on q.on p.jr q.jr⟩
def CP(p:GP):GP:=⟨(p.J.1,-p.J.2.1,p.J.2.2),E1.ne p.P,E1.ne_on p.on,E1.jr_n p.jr⟩
theorem Jf(x y:Zp):E1.jr (x,y,1) (some (x,y)):=E1.jr_at (x,y) Do
def EM(x:Zp)(l:Bool)(h:LQ x):GP:=⟨(x,LY x l,1),some (x,LY x l),Lp h l,Jf x (LY x l)⟩
theorem zv191(w:World):(zeroValue 191).run prog w=.ok (PtV gK) w:=fY w
theorem tW  :PUR 160 [] (PtV gK):=jinf
theorem xp(p:GP):PUR 161 [PtV p] (.bool (decide (p.P=none))):=by
 have h:=dI p.J;rw[show decide (p.J.2.2=0)=decide (p.P=none)from decide_eq_decide.2 (E1.jr_z p.jr)]at h;exact h
theorem EA(p q:GP):PUR 376 [PtV p,PtV q] (.bool (decide (p.P=q.P))):= 
 have hd:Decidable (eqJ p.J q.J):=decidable_of_iff _ (vY p.jr q.jr).symm
 lJ p.J q.J hd _ (decide_eq_decide.2 (vY p.jr q.jr).symm)
theorem Jg(p q:GP):PUR 375 [PtV p,PtV q] (PtV (Jj p q)):=LZ p.J q.J
theorem LG(p:GP):PUR 166 [PtV p] (PtV (CP p)):=uY p.J
theorem E4{a:Zp}(h:LQ a):PUR 214 [EV (RS4 a)] (.tuple #[EV (SQ (RS4 a)),.bool true]):=decide_eq_true h▸pB (RS4 a)
theorem wO{x y:Zp}{l:Bool}(h:LQ x)(e:LY x l=y)(k:PUR 192 [EV x,.bool l] (.tuple #[JV (x,y,1),.bool true])):PUR 192 [EV x,.bool l] (.tuple #[PtV (EM x l h),.bool true]):=by
 subst e;exact k
theorem EJ{a:Zp}(h: ¬LQ a):PUR 214 [EV (RS4 a)] (.tuple #[EV (SQ (RS4 a)),.bool false]):=decide_eq_false h▸pB (RS4 a)
theorem GI(x:Zp)(l:Bool)(h:LQ x):PUR 192 [EV x,.bool l] (.tuple #[PtV (EM x l h),.bool true]):=by
 cases l with
 |true=>exact wO h (LY_t h) (B5 x _ (E4 h))
 |false=>exact wO h (LY_f h) (zy x _ (E4 h))
theorem IJ(x:Zp)(l:Bool)(h: ¬LQ x):PUR 192 [EV x,.bool l] (.tuple #[PtV gK,.bool false]):=by
 cases l with
 |true=>exact CA x _ (EJ h)
 |false=>exact A3 x _ (EJ h)
end J1
end
section
open Go.RowKit
attribute [local simp] dZ fJ bR bz dw cG cH ce ef PLl mE mB N1l mw mF mo eQ gt jp i7 jR J1.rD
theorem ti5k:TI prog 5 (.int .u8 0) 1 1:=lN kr
def FG(bs:L8):BitVec 8:=bs.getD 0 0 &&& 224#8
def MK(bs:L8):L8:=bs.set 0 (bs.getD 0 0 &&& 31#8)
theorem gg(bs:L8):(MK bs).length=bs.length:=by simp[MK]
attribute [local simp] gg
theorem m4{w:World}{b:Nat}{c:List Value}{xs:L8}(h:w.rangeAt b 0 c)(ht:c.take xs.length=xs.map U8):BytesAt w (spt b) xs:=λj v hv=>by
 have hj:j<xs.length:=by have:=(List.getElem?_eq_some_iff.1 hv).1;simpa using this
 refine ⟨_,rfl, ?_⟩;have h2:c[j]? =some v:=by rw[<-hv,<-ht,List.getElem?_take,if_pos hj]
 rw[Addr.add_mid];exact h j v h2
theorem ent191:aL prog 191:=λ_ _=>kr
theorem ent209:aL prog 209:=λ_ _=>kr
theorem ent189:aL prog 189:=λ_ _=>kr
theorem ent159:aL prog 159:=λ_ _=>kr
theorem ent195:aL prog 195:=λ_ _=>kr
theorem FK{bs:L8}(h:0<bs.length):[bs.getD 0 0 &&& 31#8]++bs.drop 1=MK bs:=by
 cases bs with
 |nil=>cases h
 |cons a r=>rfl
theorem BytesAt.tail{w:World}{a:Option Addr}{rs:L8}(h:BytesAt w a rs):BytesAt w (if rs.length=1 then a else a.map (·.add (1*1))) (rs.drop 1):=by
 have e:=h.cut (cap:=rs.length) 1 rs.length (Nat.le_refl _);rw[List.take_of_length_le (by rw[List.length_drop];omega)]at e
 exact e
theorem zY(e:Option Addr)(cap:Nat)(bs:L8)(h0:0<bs.length)(hl:bs.length<=1000)(hcap:bs.length<=cap)(w:World)(hw:Gt w)(hby:BytesAt w e bs):CLS 191 [.slice e bs.length cap].toArray w (λr w'=> ∃b7 c7 k7,r=.returned (.slice (spt b7) bs.length k7)/\Grow w w'/\w.heap.size<=b7/\OwnB w' b7 c7 5/\c7.take bs.length=(MK bs).map U8/\bs.length<=k7):=by
 refine Hf func191 O hw<|λhGF=>Xp<|Asg O<|aa<|lO (E:=EE []) [0,1,2,3,5,6,7,8,9,10,4,11,12] de O kr kr kr<|Mv O<|?_;obtain ⟨ad,rfl,_⟩:=hby 0 _ (gm U8 bs 0 0 om);refine io 0 O O underlying123 sizeOf5 O om O O<|aT O isAgg5 (λw' h=>by obtain ⟨ad',e,hc⟩:=(hby.grow (ae h)) 0 _ (gm U8 bs 0 0 om);cases e;exact hc) O O<|Bnr (v:=U8 (bs.getD 0 0 &&& 31#8)) O O (λ_=>qr _ _ 224#8)<|Mv O<|Mv O<|bB O (λ_=>aO underlying123 _ _ _ _) O O<|Mv O<|bB O (λ_=>aO underlying123 _ _ _ _) O O<|o0 (l:=1) (h':=bs.length) (m:=bs.length) O underlying123 sizeOf5 O O O ⟨om,Nat.le_refl _,hcap⟩ O O<|jz 7 [bs.getD 0 0 &&& 31#8] hGF O O O aC aC underlying123 sizeOf5 zeroValue5 O O<|?_
 intro b7;refine eo (xs:=[bs.getD 0 0 &&& 31#8]) (ys:=bs.drop 1) 7 hGF O (by rw[List.length_drop];rfl) underlying123 underlying123 ti5k (.inr ⟨b7,_,rfl,rfl,rfl,Nat.le_refl _,rfl⟩) (λw' h=>(hby.grow (ae h)).tail) (by simp;omega) O O (λh0=>absurd h0 (List.cons_ne_nil _ _)) (λb8 c8 k8 q1 q2 q3=> ?_)
 rw[FK h0]at q2 q3;rw[gg]at q2 q3;refine Asg O<|aa<|ao<|Rr<|?_;exact ar O O (λw hw=>⟨b8,c8,k8,by rw[FK h0,gg],ae hw,(hw.own 7 b8 _ _ O).2.elim id False.elim,(hw.own 7 b8 _ _ O).1,q3,q2⟩)
def NQ(bs:L8):Bool:=decide (∀j,j<bs.length->bs.getD j 0=0#8)
theorem KS{bs:L8}(h: ∀j,j<bs.length->bs.getD j 0=0#8):NQ bs=true:=decide_eq_true h
theorem NQ_f{bs:L8}{i:Nat}(hi:i<bs.length)(h: ¬bs.getD i 0=0#8):NQ bs=false:=decide_eq_false (λk=>h (k i hi))
theorem BE(e:Option Addr)(cap:Nat)(bs:L8)(hL:bs.length<=1000)(w:World)(hw:Gt w)(hby:BytesAt w e bs):CLS 209 [.slice e bs.length cap].toArray w (λr w'=>r=.returned (.bool (NQ bs))/\Grow w w'):=by
 refine Hf func209 O hw<|λhGF=>Xp<|Asg O<|aa<|ah<|Xp<|Mv O<|bB O (λ_=>aO underlying123 _ _ _ _) O O<|Mv O<|aa<|au<|bW (ι:={i:Nat // i<=bs.length/\∀j,j<i->bs.getD j 0=0#8}) (λy=>[(5,.slice e bs.length cap),(6,I (bs.length:Int)),(7,I (y.1:Int))]) (λy=>[]) (λy=>bs.length-y.1) ⟨0,Nat.zero_le _,λ_ h=>absurd h (Nat.not_lt_zero _)⟩ hGF trv trivial<|?_;rintro ⟨i,hi,hall⟩;dsimp only;by_cases hz:bs.getD i 0=0#8
 ·refine Xp<|Bnr O O (λ_=>aI _ _ _)<|aa<|ah<|?_
  refine cx O (λhc=> ?_) (λhc=> ?_)
  ·have hi2:i<bs.length:=by simp at hc;omega
   refine aw<|ah<|au<|Xp<|?_;obtain ⟨ad,rfl,_⟩:=hby i _ (gm U8 bs 0 i om);refine io i O O underlying123 sizeOf5 O om O O<|aT (v:=U8 (bs.getD i 0)) O isAgg5 (λw' h=>by obtain ⟨ad',e,hc⟩:=(hby.grow (ae h)) i _ (gm U8 bs 0 i om);cases e;exact hc) O O<|Asg O<|aa<|Xp<|Mv O<|Bnb false O O (λ_=>fT _ _ 0#8) (bne_eq_false_iff_eq.2 hz)<|aa<|aH O<|aw<|Xq<|Bnr O O (λ_=>ay _ _ _ aG)<|Mv O<|aa<|?_
   repeat (refine bh ?_)
   refine aY ?_;have hall': ∀j,j<i+1->bs.getD j 0=0#8:=λj hj=>by
    rcases Nat.lt_or_ge j i with h|h
    ·exact hall j h
    ·obtain rfl:j=i:=om
     exact hz
   exact ⟨rfl,⟨i+1,om,hall'⟩,_,by show bs.length-(i+1)<bs.length-i;omega,rfl,trv,trivial⟩
  ·obtain rfl:i=bs.length:=by simp at hc;omega
   refine bv<|Xp<|Asg O<|aa<|ao<|Rr<|?_;exact ar O O (λw hw=>⟨by rw[KS hall];rfl,ae hw⟩)
 ·refine Xp<|Bnr O O (λ_=>aI _ _ _)<|aa<|ah<|?_
  refine cx O (λhc=> ?_) (λhc=> ?_)
  ·have hi2:i<bs.length:=by simp at hc;omega
   refine aw<|ah<|au<|Xp<|?_;obtain ⟨ad,rfl,_⟩:=hby i _ (gm U8 bs 0 i om);refine io i O O underlying123 sizeOf5 O om O O<|aT (v:=U8 (bs.getD i 0)) O isAgg5 (λw' h=>by obtain ⟨ad',e,hc⟩:=(hby.grow (ae h)) i _ (gm U8 bs 0 i om);cases e;exact hc) O O<|Asg O<|aa<|Xp<|Mv O<|Bnb true O O (λ_=>fT _ _ 0#8) (bne_iff_ne.2 hz)<|aa<|aQ O<|Xp<|Asg O<|aa<|ao<|Rr<|?_
   exact ar O O (λw hw=>⟨by rw[NQ_f hi2 hz];rfl,ae hw⟩)
  ·obtain rfl:i=bs.length:=by simp at hc;omega
   refine bv<|Xp<|Asg O<|aa<|ao<|Rr<|?_;exact ar O O (λw hw=>⟨by rw[KS hall];rfl,ae hw⟩)
theorem uc(b k len:Nat)(c:List Value)(bs:L8)(hn:bs.length=len)(hL:len<=1000)(q:Bool)(hq:NQ bs=q)(w:World)(hw:Gt w)(h:w.rangeAt b 0 c)(ht:c.take bs.length=bs.map U8):CLS 209 [.slice (spt b) len k].toArray w (λr w'=>r=.returned (.bool q)/\Grow w w'):=by
 subst hn;subst hq;exact BE _ k bs hL w hw (m4 h ht)
def RdV(bs:L8)(N:Nat)(f:BitVec 8)(c:Int):Prop:=(¬bs.length=N/\f=0#8/\c=100)\/(bs.length=N/\((FG bs=128#8/\f=FG bs/\c=0)\/(¬FG bs=128#8/\((FG bs=160#8/\f=FG bs/\c=0)\/(¬FG bs=160#8/\((FG bs=192#8/\((NQ (MK bs)=true/\f=FG bs/\c=0)\/(NQ (MK bs)=false/\f=0#8/\c=101)))\/(¬FG bs=192#8/\f=0#8/\c=101)))))))
theorem sH(e:Option Addr)(cap N:Nat)(bs:L8)(h0:0<N)(hL:N<=1000)(hcap:bs.length<=cap)(f:BitVec 8)(c:Int)(h:RdV bs N f c)(w:World)(hw:Gt w)(hby:BytesAt w e bs):
 CLS 189 [.slice e bs.length cap,I (N:Int)].toArray w (λr w'=>r=.returned (.tuple #[U8 f,I c])/\Grow w w'):=by
 refine Hf func189 O hw<|λhGF=>am (E:=EE [191,2000191])<|Asg O<|Asg O<|aa<|ah<|am (E:=EE [191,2000191])<|Mv O<|bB O (λ_=>aO underlying123 _ _ _ _) O O<|Mv O<|?_;rcases h with ⟨hN,rfl,rfl⟩|⟨hN,h⟩
 ·refine Bnb true O O (λ_=>cJ _ _ _) (bne_iff_ne.2 om)<|aa<|aQ O<|am (E:=EE [191,2000191])<|Asg O<|Asg O<|aa<|ao<|Rr<|?_
  exact jk O O O (λw hw=>⟨rfl,ae hw⟩)
 ·refine Bnb false O O (λ_=>cJ _ _ _) (bne_eq_false_iff_eq.2 om)<|aa<|aH O<|aw<|ah<|am (E:=EE [191,2000191])<|Mv O<|?_
  obtain ⟨ad,he,_⟩:=hby 0 _ (gm U8 bs 0 0 om);refine io (ad:=ad) 0 (by rw[<-he];rfl) O underlying123 sizeOf5 O om O O<|aT (v:=U8 (bs.getD 0 0)) O isAgg5 (λw' h=>by obtain ⟨ad',e',hc⟩:=(hby.grow (ae h)) 0 _ (gm U8 bs 0 0 om);rw[he]at e';cases e';exact hc) O O<|Bnr (v:=U8 (FG bs)) O O (λ_=>eH _ _ 224#8)<|Asg O<|aa<|am (E:=EE [191,2000191])<|Mv O<|aa<|au<|ah<|am (E:=EE [191,2000191])<|?_
  rcases h with ⟨hf,rfl,rfl⟩|⟨hf,h⟩
  ·refine Bnb true O O (λ_=>dH _ _ 128#8) (beq_iff_eq.2 hf)<|Asg O<|aa<|aQ O<|aw<|aQ O<|am (E:=EE [191,2000191])<|Mv O<|Asg O<|Asg O<|aa<|ao<|Rr<|?_
   exact jk O O O (λw hw=>⟨rfl,ae hw⟩)
  ·refine Bnb false O O (λ_=>dH _ _ 128#8) (beq_eq_false_iff_ne.2 hf)<|Asg O<|aa<|aH O<|cv (E:=EE [191,2000191])<|?_
   rcases h with ⟨hf,rfl,rfl⟩|⟨hf,h⟩
   ·refine Bnb true O O (λ_=>dH _ _ 160#8) (beq_iff_eq.2 hf)<|Asg O<|aa<|aQ O<|am (E:=EE [191,2000191])<|Mv O<|Asg O<|Asg O<|aa<|ao<|Rr<|?_
    exact jk O O O (λw hw=>⟨rfl,ae hw⟩)
   ·refine Bnb false O O (λ_=>dH _ _ 160#8) (beq_eq_false_iff_ne.2 hf)<|Asg O<|aa<|aH O<|am (E:=EE [191,2000191])<|?_
    rcases h with ⟨hf,h⟩|⟨hf,rfl,rfl⟩
    ·refine Bnb true O O (λ_=>dH _ _ 192#8) (beq_iff_eq.2 hf)<|Asg O<|aa<|aQ O<|am (E:=EE [191,2000191])<|Mv O<|?_
     refine er O O ent191 O O (λw' hw'=>(zY e cap bs om om hcap w' (hGF.g _ _ _ hw') (hby.grow (ae hw'))).mono λe' w'' h=> ?_);obtain ⟨b7,c7,k7,rfl,hg,hb7,hob,q3,q2⟩:=h;refine ⟨_,_,rfl,aU hGF,hw'.news aJ hg [(33,b7,c7,5)] ?_ cE,dU aJ O, ?_⟩
     ·intro n' b' c' t' hl
      rcases bx hl with ⟨_,e⟩|⟨_,hl⟩
      ·cases e;exact ⟨hb7,hob⟩
      ·cases hl
     clear hw' hg hb7 hob;rcases h with ⟨hq,rfl,rfl⟩|⟨hq,rfl,rfl⟩
     ·refine Cc O ent209 (λw' hC hG=>uc b7 k7 bs.length c7 (MK bs) (gg bs) om true hq w' hG (av (n:=33) O w' hC) (by rw[gg];exact q3))<|aa<|aQ O<|am (E:=EE [191,2000191])<|Mv O<|Asg O<|Asg O<|aa<|ao<|Rr<|?_
      exact jk O O O (λw hw=>⟨rfl,ae hw⟩)
     ·refine Cc O ent209 (λw' hC hG=>uc b7 k7 bs.length c7 (MK bs) (gg bs) om false hq w' hG (av (n:=33) O w' hC) (by rw[gg];exact q3))<|aa<|aH O<|aw<|am (E:=EE [191,2000191])<|Asg O<|Asg O<|aa<|ao<|Rr<|?_
      exact jk O O O (λw hw=>⟨rfl,ae hw⟩)
    ·refine Bnb false O O (λ_=>dH _ _ 192#8) (beq_eq_false_iff_ne.2 hf)<|Asg O<|aa<|aH O<|aw<|am (E:=EE [191,2000191])<|Asg O<|Asg O<|aa<|ao<|Rr<|?_
     exact jk O O O (λw hw=>⟨rfl,ae hw⟩)
theorem uz:qX prog 191 "Neg" 166:=λ_ _=>kr
theorem mK:qX prog 191 "Equal" 376:=λ_ _=>kr
theorem gi:qX prog 191 "InGroup" 377:=λ_ _=>kr
theorem uB(p t:J1.GP)(f:BitVec 8)(c:Int)(bE bG:Bool)(hE:PUR 376 [J1.PtV p,J1.PtV (J1.CP p)] (.bool bE))(hG:PUR 377 [J1.PtV p] (.bool bG))(h:(¬f &&& 32#8=0#8/\((bE=true/\t=J1.gK/\c=103)\/(bE=false/\((bG=false/\t=J1.gK/\c=104)\/(bG=true/\p=t/\c=0)))))\/(f &&& 32#8=0#8/\((bG=false/\t=J1.gK/\c=104)\/(bG=true/\p=t/\c=0)))):PUR 193 [J1.PtV p,.bool true,U8 f] (.tuple #[J1.PtV t,I c]):=by
 intro w hw;refine Hf func193 O hw<|λhGF=>Xp<|Bx 3 hGF O<|λb3=>Al 6 hGF J1.zv191<|λb6=>Asg O<|aa<|Xp<|Al 8 hGF J1.zv191<|λb8=>aa<|ah<|au<|Xp<|Mv O<|bV O (λ_=>bP _) O O<|Asg O<|aa<|aH O<|Xd []<|Mv O<|Bnr (v:=U8 (f &&& 32#8)) O O (λ_=>eH _ _ 32#8)<|?_;rcases h with ⟨hf,h⟩|⟨hf,h⟩
 ·refine Bnb true O O (λ_=>fT _ _ 0#8) (bne_iff_ne.2 hf)<|Mv O<|La 3 O O bJ<|lQ O underlying191 O O<|La 3 O O bJ<|lQ O underlying191 O O<|uR O O uz O ent166 (J1.LG p) O O<|?_
  rcases h with ⟨rfl,rfl,rfl⟩|⟨rfl,h⟩
  ·refine k6 true O O mK O ent376 hE O O O<|Pk O O O<|Asg O<|aa<|aQ O<|Xp<|La 8 O O bJ<|Sa 6 hGF O O O bJ<|Asg O<|aa<|ao<|Rr<|?_
   exact co 6 O O O O isAgg191 sizeOf191 aB (λw hw=>⟨rfl,ae hw⟩)
  ·refine k6 false O O mK O ent376 hE O O O<|Pk O O O<|Asg O<|aa<|aH O<|Xp<|La 3 O O bJ<|lQ O underlying191 O O<|?_
   rcases h with ⟨rfl,rfl,rfl⟩|⟨rfl,rfl,rfl⟩
   ·refine k6 false O O gi O ent377 hG O O O<|bV O (λ_=>bP _) O O<|Asg O<|aa<|aQ O<|Xp<|La 8 O O bJ<|Sa 6 hGF O O O bJ<|Asg O<|aa<|ao<|Rr<|?_
    exact co 6 O O O O isAgg191 sizeOf191 aB (λw hw=>⟨rfl,ae hw⟩)
   ·refine k6 true O O gi O ent377 hG O O O<|bV O (λ_=>bP _) O O<|Asg O<|aa<|aH O<|aw<|Xp<|La 3 O O bJ<|Sa 6 hGF O O O bJ<|Asg O<|aa<|ao<|Rr<|?_
    exact co 6 O O O O isAgg191 sizeOf191 aB (λw hw=>⟨rfl,ae hw⟩)
 ·refine Bnb false O O (λ_=>fT _ _ 0#8) (bne_eq_false_iff_eq.2 hf)<|Mv O<|Sk<|Sk<|Sk<|Sk<|Sk<|Sk<|Pk O O O<|Asg O<|aa<|aH O<|Xp<|La 3 O O bJ<|lQ O underlying191 O O<|?_
  rcases h with ⟨rfl,rfl,rfl⟩|⟨rfl,rfl,rfl⟩
  ·refine k6 false O O gi O ent377 hG O O O<|bV O (λ_=>bP _) O O<|Asg O<|aa<|aQ O<|Xp<|La 8 O O bJ<|Sa 6 hGF O O O bJ<|Asg O<|aa<|ao<|Rr<|?_
   exact co 6 O O O O isAgg191 sizeOf191 aB (λw hw=>⟨rfl,ae hw⟩)
  ·refine k6 true O O gi O ent377 hG O O O<|bV O (λ_=>bP _) O O<|Asg O<|aa<|aH O<|aw<|Xp<|La 3 O O bJ<|Sa 6 hGF O O O bJ<|Asg O<|aa<|ao<|Rr<|?_
   exact co 6 O O O O isAgg191 sizeOf191 aB (λw hw=>⟨rfl,ae hw⟩)
theorem Gc(p:J1.GP)(f:BitVec 8):PUR 193 [J1.PtV p,.bool false,U8 f] (.tuple #[J1.PtV J1.gK,I 103]):=by
 intro w hw;refine Hf func193 O hw<|λhGF=>Xp<|Bx 3 hGF O<|λb3=>Al 6 hGF J1.zv191<|λb6=>Asg O<|aa<|Xp<|Al 8 hGF J1.zv191<|λb8=>aa<|ah<|au<|Xp<|Mv O<|bV O (λ_=>bP _) O O<|Asg O<|aa<|aQ O<|Xp<|La 8 O O bJ<|Sa 6 hGF O O O bJ<|Asg O<|aa<|ao<|Rr<|?_;exact co 6 O O O O isAgg191 sizeOf191 aB (λw hw=>⟨rfl,ae hw⟩)
theorem HS(p:J1.GP)(f:BitVec 8): ∃t c,PUR 193 [J1.PtV p,.bool true,U8 f] (.tuple #[J1.PtV t,I c]):=by
 obtain ⟨bE,hE⟩: ∃b,PUR 376 [J1.PtV p,J1.PtV (J1.CP p)] (.bool b):=⟨_,J1.EA p (J1.CP p)⟩;obtain ⟨bG,hG⟩: ∃b,PUR 377 [J1.PtV p] (.bool b):=⟨_,J1.jing (λ_=>rfl) O p.J (Classical.propDecidable _) _ O⟩;have grp: ∃(t:J1.GP) (c:Int),((bG=false/\t=J1.gK/\c=104)\/(bG=true/\p=t/\c=0)):=by
  cases bG with
  |false=>exact ⟨_,_,.inl ⟨rfl,rfl,rfl⟩⟩
  |true=>exact ⟨_,_,.inr ⟨rfl,rfl,rfl⟩⟩
 by_cases hf:f &&& 32#8=0#8
 ·obtain ⟨t,c,k⟩:=grp
  exact ⟨t,c,uB p t f c bE bG hE hG (.inr ⟨hf,k⟩)⟩
 ·cases bE with
  |true=>exact ⟨J1.gK,103,uB p _ f _ true bG hE hG (.inl ⟨hf,.inl ⟨rfl,rfl,rfl⟩⟩)⟩
  |false=>
   obtain ⟨t,c,k⟩:=grp;exact ⟨t,c,uB p t f c false bG hE hG (.inl ⟨hf,.inr ⟨rfl,k⟩⟩)⟩
theorem GQ(a:Option Addr)(len k:Nat)(xs:L8)(h48:xs.length=48)(hn:len=48)(hl:BN xs 48<PP)(x:Zp)(hx:zp (BN xs 48)=x)(w:World)(hw:Gt w)(hby:BytesAt w a xs):CLS 190 [.slice a len k].toArray w (λr w'=>r=.returned (.tuple #[EV x,.bool true])/\Grow w w'):=by
 have h:=km a k xs w hw hby;rw[h48,show FV xs=x from (if_pos ⟨h48,hl⟩).trans hx,show FO xs=true from decide_eq_true ⟨h48,hl⟩]at h;subst hn;exact h
theorem Ij(a:Option Addr)(len k:Nat)(xs:L8)(h48:xs.length=48)(hn:len=48)(hl: ¬BN xs 48<PP)(w:World)(hw:Gt w)(hby:BytesAt w a xs):CLS 190 [.slice a len k].toArray w (λr w'=>r=.returned (.tuple #[EV 0,.bool false])/\Grow w w'):=by
 have h:=km a k xs w hw hby;rw[h48,show FV xs=0 from if_neg (λe=>hl e.2),show FO xs=false from decide_eq_false (λe=>hl e.2)]at h;subst hn;exact h
def DW(bs:L8)(t:J1.GP)(c:Int):Prop:= ∃f k,RdV bs 48 f k/\((¬k=0/\t=J1.gK/\c=k)\/(k=0/\((¬f &&& 64#8=0#8/\t=J1.gK/\c=0)\/(f &&& 64#8=0#8/\bs.length=48/\
 ((¬BN (MK bs) 48<PP/\t=J1.gK/\c=102)\/(BN (MK bs) 48<PP/\∃p ok,PUR 192 [EV (zp (BN (MK bs) 48)),.bool (f &&& 32#8 !=0#8)] (.tuple #[J1.PtV p,.bool ok])/\PUR 193 [J1.PtV p,.bool ok,U8 f] (.tuple #[J1.PtV t,I c])))))))
theorem In(x:Zp)(l:Bool): ∃p ok,PUR 192 [EV x,.bool l] (.tuple #[J1.PtV p,.bool ok]):=by
 by_cases h:J1.LQ x
 ·exact ⟨_,_,J1.GI x l h⟩
 ·exact ⟨_,_,J1.IJ x l h⟩
theorem Ix(bs:L8)(N:Nat): ∃f k,RdV bs N f k/\(k=0->bs.length=N):=by
 by_cases hN:bs.length=N
 ·by_cases h1:FG bs=128#8
  ·exact ⟨_,_,.inr ⟨hN,.inl ⟨h1,rfl,rfl⟩⟩,λ_=>hN⟩
  ·by_cases h2:FG bs=160#8
   ·exact ⟨_,_,.inr ⟨hN,.inr ⟨h1,.inl ⟨h2,rfl,rfl⟩⟩⟩,λ_=>hN⟩
   ·by_cases h3:FG bs=192#8
    ·cases q:NQ (MK bs)with
     |true=>exact ⟨_,_,.inr ⟨hN,.inr ⟨h1,.inr ⟨h2,.inl ⟨h3,.inl ⟨q,rfl,rfl⟩⟩⟩⟩⟩,λ_=>hN⟩
     |false=>exact ⟨_,_,.inr ⟨hN,.inr ⟨h1,.inr ⟨h2,.inl ⟨h3,.inr ⟨q,rfl,rfl⟩⟩⟩⟩⟩,λ_=>hN⟩
    ·exact ⟨_,_,.inr ⟨hN,.inr ⟨h1,.inr ⟨h2,.inr ⟨h3,rfl,rfl⟩⟩⟩⟩,λ_=>hN⟩
 ·exact ⟨0#8,100,.inl ⟨hN,rfl,rfl⟩,λh=>by cases h⟩
theorem dw_e(bs:L8): ∃t c,DW bs t c:=by
 obtain ⟨f,k,hr,hk⟩:=Ix bs 48;by_cases h0:k=0
 ·by_cases h6:f &&& 64#8=0#8
  ·by_cases hp:BN (MK bs) 48<PP
   ·obtain ⟨p,ok,hl⟩:=In (zp (BN (MK bs) 48)) (f &&& 32#8 !=0#8)
    cases ok with
    |true=>
     obtain ⟨t,c,hs⟩:=HS p f;exact ⟨t,c,f,k,hr,.inr ⟨h0,.inr ⟨h6,hk h0,.inr ⟨hp,p,true,hl,hs⟩⟩⟩⟩
    |false=>exact ⟨_,_,f,k,hr,.inr ⟨h0,.inr ⟨h6,hk h0,.inr ⟨hp,p,false,hl,Gc p f⟩⟩⟩⟩
   ·exact ⟨_,_,f,k,hr,.inr ⟨h0,.inr ⟨h6,hk h0,.inl ⟨hp,rfl,rfl⟩⟩⟩⟩
  ·exact ⟨_,_,f,k,hr,.inr ⟨h0,.inl ⟨h6,rfl,rfl⟩⟩⟩
 ·exact ⟨_,_,f,k,hr,.inl ⟨h0,rfl,rfl⟩⟩
theorem G1(e:Option Addr)(cap:Nat)(bs:L8)(t:J1.GP)(c:Int)(h:DW bs t c)(hc:bs.length<=cap)(w:World)(hw:Gt w)(hby:BytesAt w e bs):CLS 159 [.slice e bs.length cap].toArray w (λr w'=>r=.returned (.tuple #[J1.PtV t,I c])/\Grow w w'):=by
 have hGF:BOk Gt (pl w):=gt_low.plain hw;obtain ⟨f,k,hR,h⟩:=h;refine Hqd func159 O hGF<|am (E:=EE [191,2000191])<|Al 2 hGF J1.zv191<|λb2=>Asg O<|aa<|am (E:=EE [191,2000191])<|Mv O<|?_;rcases h with ⟨h0,rfl,rfl⟩|⟨rfl,⟨h6,rfl,rfl⟩|⟨h6,h48,h⟩⟩
 ·refine Cc O ent189 (λw' hC hG=>sH e cap 48 bs aC aC hc _ _ hR w' hG (hby.grow (ae hC)))<|Mv O<|Exq O O<|Exq O O<|Asg O<|Asg O<|aa<|ah<|am (E:=EE [191,2000191])<|Mv O<|Bnb true O O (λ_=>cJ _ _ _) (bne_iff_ne.2 h0)<|Mv O<|Sk<|Sk<|Sk<|Pk O O O<|aa<|aQ O<|am (E:=EE [191,2000191])<|Ca O (J1.tW)<|Mv O<|Sa 2 hGF O O O bJ<|Asg O<|aa<|ao<|Rr<|?_
  exact co 2 O O O O isAgg191 sizeOf191 aB (λw hw=>⟨rfl,ae hw⟩)
 ·refine Cc O ent189 (λw' hC hG=>sH e cap 48 bs aC aC hc _ _ hR w' hG (hby.grow (ae hC)))<|Mv O<|Exq O O<|Exq O O<|Asg O<|Asg O<|aa<|ah<|am (E:=EE [191,2000191])<|Mv O<|Bnb false O O (λ_=>cJ _ _ _) (rfl)<|Mv O<|Mv O<|Bnr (v:=U8 (f &&& 64#8)) O O (λ_=>eH _ _ 64#8)<|Bnb true O O (λ_=>fT _ _ 0#8) (bne_iff_ne.2 h6)<|Pk O O O<|aa<|aQ O<|am (E:=EE [191,2000191])<|Ca O (J1.tW)<|Mv O<|Sa 2 hGF O O O bJ<|Asg O<|aa<|ao<|Rr<|?_
  exact co 2 O O O O isAgg191 sizeOf191 aB (λw hw=>⟨rfl,ae hw⟩)
 ·refine Cc O ent189 (λw' hC hG=>sH e cap 48 bs aC aC hc _ _ hR w' hG (hby.grow (ae hC)))<|Mv O<|Exq O O<|Exq O O<|Asg O<|Asg O<|aa<|ah<|am (E:=EE [191,2000191])<|Mv O<|Bnb false O O (λ_=>cJ _ _ _) (rfl)<|Mv O<|Mv O<|Bnr (v:=U8 (f &&& 64#8)) O O (λ_=>eH _ _ 64#8)<|Bnb false O O (λ_=>fT _ _ 0#8) (bne_eq_false_iff_eq.2 h6)<|Pk O O O<|aa<|aH O<|aw<|am (E:=EE [191,2000191])<|Mv O<|?_
  refine er O O ent191 O O (λw' hw'=>(zY e cap bs om om hc w' (hGF.g _ _ _ hw') (hby.grow (ae hw'))).mono λe' w'' h=> ?_);obtain ⟨b7,c7,k7,rfl,hg,hb7,hob,q3,q2⟩:=h;refine ⟨_,_,rfl,aU hGF,hw'.news aJ hg [(33,b7,c7,5)] ?_ cE,dU aJ O, ?_⟩
  ·intro n' b' c' t' hl
   rcases bx hl with ⟨_,e⟩|⟨_,hl⟩
   ·cases e;exact ⟨hb7,hob⟩
   ·cases hl
  clear hw' hg hb7 hob;rcases h with ⟨hp,rfl,rfl⟩|⟨hp,p,ok,hl,hs⟩
  ·refine Cc O ent190 (λw' hC hG=>Ij _ _ _ (MK bs) (by rw[gg];exact h48) h48 hp w' hG (m4 (av (n:=33) O w' hC) (by rw[gg];exact q3)))<|Mv O<|Exq O O<|Exq O O<|Al 6 hGF zv189<|λb6=>Sa 6 hGF O O O aW<|Asg O<|aa<|ah<|am (E:=EE [191,2000191])<|Mv O<|bV O (λ_=>bP _) O O<|aa<|aQ O<|am (E:=EE [191,2000191])<|Ca O (J1.tW)<|Sa 2 hGF O O O bJ<|Asg O<|aa<|ao<|Rr<|?_
   exact co 2 O O O O isAgg191 sizeOf191 aB (λw hw=>⟨rfl,ae hw⟩)
  ·refine Cc O ent190 (λw' hC hG=>GQ _ _ _ (MK bs) (by rw[gg];exact h48) h48 hp _ O w' hG (m4 (av (n:=33) O w' hC) (by rw[gg];exact q3)))<|Mv O<|Exq O O<|Exq O O<|Al 6 hGF zv189<|λb6=>Sa 6 hGF O O O aW<|Asg O<|aa<|ah<|am (E:=EE [191,2000191])<|Mv O<|bV O (λ_=>bP _) O O<|aa<|aH O<|aw<|am (E:=EE [191,2000191])<|La 6 O O aW<|Mv O<|Bnr (v:=U8 (f &&& 32#8)) O O (λ_=>eH _ _ 32#8)<|Bnr (v:=.bool (f &&& 32#8 !=0#8)) O O (λ_=>fT _ _ 0#8)<|Ca O (hl)<|Mv O<|Exq O O<|Exq O O<|Al 8 hGF J1.zv191<|λb8=>Sa 8 hGF O O O bJ<|Asg O<|aa<|am (E:=EE [191,2000191])<|La 8 O O bJ<|Mv O<|Mv O<|Ca O (hs)<|Exq O O<|Exq O O<|Sa 2 hGF O O O bJ<|Asg O<|aa<|ao<|Rr<|?_
   exact co 2 O O O O isAgg191 sizeOf191 aB (λw hw=>⟨rfl,ae hw⟩)
theorem ent131:aL prog 131:=λ_ _=>kr
theorem ent95:aL prog 95:=λ_ _=>kr
theorem zv33(w:World):(zeroValue 33).run prog w=.ok (.agg ((List.replicate 48 (0#8)).map U8).toArray) w:=(zeroValue33 w).trans aE
theorem u6(e:Option Addr)(cap len:Nat)(bs:L8)(hn:bs.length=len)(t:J1.GP)(c:Int)(h:DW bs t c)(hc:len<=cap)(w:World)(hw:Gt w)(hby:BytesAt w e bs):CLS 159 [.slice e len cap].toArray w (λr w'=>r=.returned (.tuple #[J1.PtV t,I c])/\Grow w w'):=by
 subst hn;exact G1 e cap bs t c h hc w hw hby
theorem CH(bs:L8)(hn:bs.length=48)(c:Int)(h0: ¬c=0)(t:J1.GP)(hD:DW bs t c):PUR 131 [.agg ((bs).map U8).toArray] (.tuple #[J1.PtV J1.gK,I c]):=by
 intro w hw;refine Hf func131 O hw<|λhGF=>Xp<|Bx 1 hGF O<|λb1=>Al 2 hGF J1.zv191<|λb2=>Asg O<|aa<|Xp<|ct (l:=0) (h':=48) O underlying33 sizeOf5 O O aC aC O O<|Cc O ent159 (λw' hC hG=>u6 _ 48 48 bs hn t _ hD aC w' hG (BytesAt.range (av (n:=1) O w' hC)))<|Mv O<|Exq O O<|Exq O O<|Al 4 hGF J1.zv191<|λb4=>Sa 4 hGF O O O bJ<|Asg O<|aa<|ah<|au<|Xp<|Mv O<|Bnb true O O (λ_=>cJ _ _ _) (bne_iff_ne.2 h0)<|Asg O<|aa<|aQ O<|Xp<|Ca O (J1.tW)<|Mv O<|Sa 2 hGF O O O bJ<|Asg O<|aa<|ao<|Rr<|?_;exact co 2 O O O O isAgg191 sizeOf191 aB (λw hw=>⟨rfl,ae hw⟩)
theorem Dc(bs:L8)(hn:bs.length=48)(t:J1.GP)(h0:t.P=none)(hD:DW bs t 0):PUR 131 [.agg ((bs).map U8).toArray] (.tuple #[J1.PtV J1.gK,I 160]):=by
 intro w hw;refine Hf func131 O hw<|λhGF=>Xp<|Bx 1 hGF O<|λb1=>Al 2 hGF J1.zv191<|λb2=>Asg O<|aa<|Xp<|ct (l:=0) (h':=48) O underlying33 sizeOf5 O O aC aC O O<|Cc O ent159 (λw' hC hG=>u6 _ 48 48 bs hn t _ hD aC w' hG (BytesAt.range (av (n:=1) O w' hC)))<|Mv O<|Exq O O<|Exq O O<|Al 4 hGF J1.zv191<|λb4=>Sa 4 hGF O O O bJ<|Asg O<|aa<|ah<|au<|Xp<|Mv O<|Bnb false O O (λ_=>cJ _ _ _) (rfl)<|Asg O<|aa<|aH O<|Xp<|La 4 O O bJ<|Cbl true O ent161 (J1.xp _) (decide_eq_true h0)<|Asg O<|aa<|aQ O<|Xp<|Ca O (J1.tW)<|Sa 2 hGF O O O bJ<|Asg O<|aa<|ao<|Rr<|?_;exact co 2 O O O O isAgg191 sizeOf191 aB (λw hw=>⟨rfl,ae hw⟩)
theorem IR(bs:L8)(hn:bs.length=48)(t:J1.GP)(h0: ¬t.P=none)(hD:DW bs t 0):PUR 131 [.agg ((bs).map U8).toArray] (.tuple #[J1.PtV t,I 0]):=by
 intro w hw;refine Hf func131 O hw<|λhGF=>Xp<|Bx 1 hGF O<|λb1=>Al 2 hGF J1.zv191<|λb2=>Asg O<|aa<|Xp<|ct (l:=0) (h':=48) O underlying33 sizeOf5 O O aC aC O O<|Cc O ent159 (λw' hC hG=>u6 _ 48 48 bs hn t _ hD aC w' hG (BytesAt.range (av (n:=1) O w' hC)))<|Mv O<|Exq O O<|Exq O O<|Al 4 hGF J1.zv191<|λb4=>Sa 4 hGF O O O bJ<|Asg O<|aa<|ah<|au<|Xp<|Mv O<|Bnb false O O (λ_=>cJ _ _ _) (rfl)<|Asg O<|aa<|aH O<|Xp<|La 4 O O bJ<|Cbl false O ent161 (J1.xp _) (decide_eq_false h0)<|Asg O<|aa<|aH O<|aw<|Xp<|La 4 O O bJ<|Sa 2 hGF O O O bJ<|Asg O<|aa<|ao<|Rr<|?_;exact co 2 O O O O isAgg191 sizeOf191 aB (λw hw=>⟨rfl,ae hw⟩)
theorem JQ(bs:L8)(hn:bs.length=48): ∃t c,PUR 131 [.agg ((bs).map U8).toArray] (.tuple #[J1.PtV t,I c]):=by
 obtain ⟨t,c,h⟩:=dw_e bs;by_cases h0:c=0
 ·subst h0
  by_cases hp:t.P=none
  ·exact ⟨_,_,Dc bs hn t hp h⟩
  ·exact ⟨_,_,IR bs hn t hp h⟩
 ·exact ⟨_,_,CH bs hn c h0 t h⟩
end
end Go.Proofs.YtfakhlafilbjkaaGreatDoor
