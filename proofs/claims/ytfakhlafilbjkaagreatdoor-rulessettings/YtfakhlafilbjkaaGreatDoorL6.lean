/- L6 -/
import Derived.Test.YtfakhlafilbjkaaGreatDoorL5
import Derived.Test.YtfakhlafilbjkaaGreatDoorM1
set_option maxRecDepth 100000
set_option maxHeartbeats 1000000
namespace Go.Proofs.YtfakhlafilbjkaaGreatDoor
open Go.Proofs.Tryz
section
open Go.RowKit
attribute [local simp] dO fH bN bq dr cx cy bX dV PLl mr mD N1l lO lT mA eI f7 iV jb jH
theorem e2{a b c d:Zp}(h1:a=c)(h2:b=d):Ending.returned (bd (fe a++fe b))=.returned (bd (fe c++fe d)):=by rw[h1,h2]
theorem rb{a b:Bool}(h:a=b):Ending.returned (.bool a)=.returned (.bool b):=by rw[h]
end
section
open Go.RowKit
attribute [local simp] dO fH bN bq dr cx cy bX dV PLl mr mD N1l lO lT mA eI f7 iV jb jH
end
def XI:W2:=(1,1)
abbrev W6:=W2×W2×W2
def K6:Rg W6:=Rg.cub R2 XI
def VV:W6:=(ze2,on2,ze2)
abbrev W12:=W6×W6
def K12:Rg W12:=Rg.quad K6 VV
def th:Nat:=(PP-1) / 3
def sx:Nat:=(PP-1) / 6
/-! ### The power of p -/
def wk(k:Nat):W12:=K12.pw ((ze2,ze2,ze2),(on2,ze2,ze2)) k
/-! ### Six parts, as the reference multiplies them -/
section
variable {α:Type} [DecidableEq α] (C:Ec α)
end
/-! ### Over p -/
def RZp:Rg Zp where
 zero:=0
 one:=1
 add:=λa b=>a+b
 mul:=λa b=>a*b
 neg:=λa=> -a
 add_assoc:=λa b c=>by grind
 add_comm:=λa b=>by grind
 add_zero:=λa=>by grind
 add_neg:=λa=>by grind
 mul_assoc:=λa b c=>by grind
 mul_comm:=λa b=>by grind
 mul_one:=λa=>by grind
 mul_add:=λa b c=>by grind
def E1:Ec Zp where
 R:=RZp
 iv:=λa=>a^(PP-2)
 b:=zp 4
 hi:=λ_ h=>GV h
 h2:=by decide+kernel
 h3:=by decide+kernel
 hb:=by decide+kernel
structure Em{α β:Type}(C:Ec α)(D:Ec β) where
 f:α->β
 h0:f C.R.zero=D.R.zero
 ha: ∀a b,f (C.R.add a b)=D.R.add (f a) (f b)
 hm: ∀a b,f (C.R.mul a b)=D.R.mul (f a) (f b)
 hn: ∀a,f (C.R.neg a)=D.R.neg (f a)
 hi: ∀a b,f a=f b->a=b
 hb:f C.b=D.b
section
variable {α β:Type} {C:Ec α} {D:Ec β} (e:Em C D)
def Em.q(p:α×α):β×β:=(e.f p.1,e.f p.2)
def Em.p:Pt α->Pt β
 |none=>none
 |some p=>some (e.q p)
theorem Em.sub(a b:α):e.f (C.sub a b)=D.sub (e.f a) (e.f b):=by rw[Ec.sub,Ec.sub,e.ha,e.hn]
theorem Em.on{p:α×α}(h:C.on p):D.on (e.q p):=by
 have:=congrArg e.f h;rw[e.hm,e.ha,e.hm,e.hm,e.hb]at this;exact this
theorem Em.onP{P:Pt α}(h:C.onP P):D.onP (e.p P):=by
 cases P with
 |none=>trivial
 |some p=>exact e.on h
theorem Em.sl{p q:α×α}{s:α}(h:C.Sl p q s):D.Sl (e.q p) (e.q q) (e.f s):=by
 have h1:=congrArg e.f h.1;have h2:=congrArg e.f h.2;rw[e.hm,e.sub,e.sub]at h1;rw[e.hm,e.ha,e.ha,e.ha,e.hm,e.hm,e.hm]at h2;exact ⟨h1,h2⟩
theorem Em.opp{p q:α×α}:D.opp (e.q p) (e.q q)↔C.opp p q:=
 ⟨λh=>⟨e.hi _ _ h.1,e.hi _ _ (by rw[e.ha,e.h0];exact h.2)⟩,λh=>⟨congrArg e.f h.1,by
  have:=congrArg e.f h.2;rw[e.ha,e.h0]at this;exact this⟩⟩
theorem Em.th(p q:α×α)(s:α):D.th (e.q p) (e.q q) (e.f s)=e.q (C.th p q s):=by
 have hx:D.x3 (e.q p) (e.q q) (e.f s)=e.f (C.x3 p q s):=by rw[Ec.x3,Ec.x3,e.sub,e.sub,e.hm];rfl
 refine Prod.ext hx ?_;show D.sub (D.R.mul (e.f s) (D.sub (e.f p.1) (D.x3 (e.q p) (e.q q) (e.f s)))) (e.f p.2)=e.f (C.sub (C.R.mul s (C.sub p.1 (C.x3 p q s))) p.2);rw[hx,e.sub,e.hm,e.sub]
theorem Em.ne(P:Pt α):e.p (C.ne P)=D.ne (e.p P):=by
 cases P with
 |none=>rfl
 |some p=>exact congrArg some (Prod.ext O (e.hn _))
theorem Em.inj{P Q:Pt α}(h:e.p P=e.p Q):P=Q:=by
 cases P with
 |none=>
  cases Q with
  |none=>rfl
  |some q=>cases h
 |some p=>
  cases Q with
  |none=>cases h
  |some q=>
   have h:=Option.some.inj h;exact congrArg some (Prod.ext (e.hi _ _ (congrArg Prod.fst h)) (e.hi _ _ (congrArg Prod.snd h)))
theorem Em.jr{J:α×α×α}{P:Pt α}(h:C.jr J P):D.jr (e.f J.1,e.f J.2.1,e.f J.2.2) (e.p P):=by
 cases P with
 |none=>exact (congrArg e.f h).trans e.h0
 |some p=>
  refine ⟨λh'=>h.1 (e.hi _ _ (h'.trans e.h0.symm)), ?_, ?_⟩
  ·have:=congrArg e.f h.2.1
   rw[e.hm,Ec.z2,e.hm]at this;exact this
  ·have:=congrArg e.f h.2.2
   rw[e.hm,Ec.z3,e.hm,e.hm]at this;exact this
end
section
variable {α β:Type} [DecidableEq α] [DecidableEq β] {C:Ec α} {D:Ec β} (e:Em C D)
theorem Em.ad{P Q:Pt α}(hP:C.onP P)(hQ:C.onP Q):e.p (C.ad P Q)=D.ad (e.p P) (e.p Q):=by
 cases P with
 |none=>rfl
 |some p=>
  cases Q with
  |none=>rw[C.ad_nr];exact (D.ad_nr _).symm
  |some q=>
   by_cases ho:C.opp p q
   ·rw[C.ad_opp ho];exact (D.ad_opp (e.opp.2 ho)).symm
   ·obtain ⟨s,hs⟩:=C.sl_is hP hQ ho
    rw[C.ad_sl hP hQ ho hs];exact ((D.ad_sl (e.on hP) (e.on hQ) (λh=>ho (e.opp.1 h)) (e.sl hs)).trans (congrArg some (e.th p q s))).symm
theorem Em.times{P:Pt α}(hP:C.onP P): ∀n,e.p (C.times P n)=D.times (e.p P) n
 |0=>rfl
 |n+1=>by
  show e.p (C.ad (C.times P n) P)=D.ad (D.times (e.p P) n) (e.p P);rw[e.ad (C.times_on hP n) hP,Em.times hP n]
end
theorem Lj(a:Zp):a+0=a:=by grind
section
variable {α:Type} (C:Ec α)
theorem Ec.jr_z{J:α×α×α}{P:Pt α}(h:C.jr J P):J.2.2=C.R.zero↔P=none:=by
 cases P with
 |none=>exact ⟨λ_=>rfl,λ_=>h⟩
 |some p=>exact ⟨λe=>absurd e h.1,λe=>by cases e⟩
theorem Ec.jr_at(p:α×α)(h1:C.R.one≠C.R.zero):C.jr (p.1,p.2,C.R.one) (some p):=by
 refine ⟨h1, ?_, ?_⟩
 ·show p.1=C.R.mul p.1 (C.R.mul C.R.one C.R.one)
  rw[C.R.mul_one,C.R.mul_one]
 ·show p.2=C.R.mul p.2 (C.R.mul (C.R.mul C.R.one C.R.one) C.R.one)
  rw[C.R.mul_one,C.R.mul_one,C.R.mul_one]
end
section
variable {α:Type} [DecidableEq α] (C:Ec α)
end
section
open Go.RowKit
attribute [local simp] dO fH bN bq dr cx cy bX dV PLl mr mD N1l lO lT mA eI f7 iV jb jH
end
section
open Go.RowKit
attribute [local simp] dO fH bN bq dr cx cy bX dV PLl mr mD N1l lO lT mA eI f7 iV jb jH
def RRL:L6:=[18446744069414584321#64,6034159408538082302#64,3691218898639771653#64,8353516859464449352#64,0#64,0#64]
def RB48:L8:=BYs RRL 48
theorem zO:RB48.length=48:=by decide+kernel
theorem DK:RRL.length=6:=rfl
attribute [local simp] zO DK
end
section
variable {α:Type} [DecidableEq α] {C:Ec α} (T:Tw C)
end
/-! ### The first curve -/
def TRN:Nat:=0x5f19672fdf76ce51ba69c6076a0f77eaddb3a93be6f89688de17d813620a00022e01fffffffefffe
section
open Go.RowKit
theorem ent161:aJ prog 161:=λ_ _=>kr
theorem ent381:aJ prog 381:=λ_ _=>kr
theorem ent380:aJ prog 380:=λ_ _=>kr
theorem ent377:aJ prog 377:=λ_ _=>kr
theorem ent376:aJ prog 376:=λ_ _=>kr
theorem ent375:aJ prog 375:=λ_ _=>kr
theorem ent379:aJ prog 379:=λ_ _=>kr
theorem ent166:aJ prog 166:=λ_ _=>kr
namespace J1
attribute [local simp] dO fH bN bq dr cx cy bX dV PLl mr mD N1l lO lT mA eI f7 iV jb jH
structure GP where
 J:Zp×Zp×Zp
 P:Pt Zp
 on:E1.onP P
 jr:E1.jr J P
def GL(p:GP):L6:=fe p.J.1++(fe p.J.2.1++fe p.J.2.2)
theorem rD(p:GP):(GL p).length=18:=by simp[GL]
attribute [local simp] rD
abbrev PtV(p:GP):Value:=bd (GL p)
def RS4(x:Zp):Zp:=x*x*x+zp 4
abbrev LQ(x:Zp):Prop:=SQr (RS4 x)*SQr (RS4 x)=RS4 x
def LY(x:Zp)(l:Bool):Zp:=if decide (hf<(SQ (RS4 x)).val)=l then SQ (RS4 x)else-(SQ (RS4 x))
theorem IR{x y:Zp}:E1.on (x,y)↔y*y=RS4 x:=by
 show y*y=x*(x*x)+zp 4↔y*y=x*x*x+zp 4;rw[show x*(x*x)=x*x*x from by grind]
theorem Gu(a:Zp): -a* -a=a*a:=by grind
theorem IN(x:Zp)(l:Bool):LY x l=SQ (RS4 x)\/LY x l= -(SQ (RS4 x)):=by
 rw[LY];generalize SQ (RS4 x)=s;by_cases h:decide (hf<s.val)=l
 ·exact .inl (if_pos h)
 ·exact .inr (if_neg h)
theorem Ka{x:Zp}(h:LQ x)(l:Bool):LY x l*LY x l=RS4 x:=by
 have e:=Jo h;rcases IN x l with k|k
 ·rw[k,e]
 ·rw[k,Gu,e]
theorem yQ{p:Zp×Zp}(h:E1.on p):E1.onP (some p):=h
theorem LY_f{a:Zp}(h:LQ a):LY a false=SQ (RS4 a):=if_pos (decide_eq_false (sM h))
theorem LY_t{a:Zp}(h:LQ a):LY a true= -(SQ (RS4 a)):=if_neg (by rw[decide_eq_false (sM h)];exact Bool.false_ne_true)
theorem K0{x:Zp}(h:LQ x)(l:Bool):E1.onP (some (x,LY x l)):=yQ (IR.2 (Ka h l))
abbrev JV(J:Zp×Zp×Zp):Value:=bd (fe (J.1)++(fe (J.2.1)++fe (J.2.2)))
theorem fJ(w:World):(zeroValue 191).run prog w=.ok (bd (fe 0++(fe 0++fe 0))) w:=by rw[xE];exact (zeroValue191 w).trans aE
theorem fT:Three prog 191 ⟨ "x",189,0,false, "", "pharos/g1",0⟩ ⟨ "y",189,6,false, "", "pharos/g1",48⟩ ⟨ "z",189,12,false, "", "pharos/g1",96⟩ 6 (fe 0) (fe 0) (fe 0):=⟨underlying191,rfl,rfl,rfl,sizeOf189,sizeOf189,sizeOf189,fJ,aB,aB,aB⟩
theorem jsub(a b:Zp):a-b=E1.sub a b:=by show a-b=a+ -b;grind
theorem iB(x y:Zp):PUR 233 [EV x,EV y] (EV (E1.sub x y)):=by
 have h:=qu x y;rw[jsub]at h;exact h
theorem dC(x:Zp×Zp×Zp):PUR 161 [JV x] (.bool (decide (x.2.2=0))):=by
 intro w hw;refine Hf func161 O hw<|λhGF=>Xp<|Bx 1 hGF O<|λb1=>Asg O<|aa<|Xp<|Fa 12 O underlying191 O sizeOf189<|be 1 _ O O isAgg189 sizeOf189 aB (dM (m:=6) (n:=6) aB aB O) O O<|Ca O (dW _)<|Asg O<|aa<|ao<|Rr<|?_;exact au O O (λw hw=>⟨rfl,ae hw⟩)
theorem uH(x:Zp×Zp×Zp):PUR 166 [JV x] (JV (x.1,-x.2.1,x.2.2)):=by
 intro w hw;refine Hf func166 O hw<|λhGF=>Xp<|Bx 1 hGF O<|λb1=>Al 2 hGF fJ<|λb2=>aa<|Xd []<|Fa 0 O underlying191 O sizeOf189<|be 1 _ O O isAgg189 sizeOf189 aB jX O O<|Fa 6 O underlying191 O sizeOf189<|be 1 _ O O isAgg189 sizeOf189 aB (kk aB) O O<|Ca O (nn _)<|Fa 12 O underlying191 O sizeOf189<|be 1 _ O O isAgg189 sizeOf189 aB (dM (m:=6) (n:=6) aB aB O) O O<|ek fT O O O aB aB aB O O<|Sa 2 hGF O O O bF<|aa<|ao<|Rr<|?_;exact aF 2 O O O isAgg191 sizeOf191 aB (λw hw=>⟨rfl,ae hw⟩)
theorem jinf  :PUR 160 [] (JV (0,0,0)):=by
 intro w hw;refine Hf func160 O hw<|λhGF=>Xp<|Al 0 hGF fJ<|λb0=>aa<|Xp<|gr fT O O<|Sa 0 hGF O O O bF<|aa<|ao<|Rr<|?_;exact aF 0 O O O isAgg191 sizeOf191 aB (λw hw=>⟨rfl,ae hw⟩)
theorem pt(a:Zp):PUR 240 [EV a] (EV (a*a*a)):=by
 intro w hw;refine Hf func240 O hw<|λhGF=>Xp<|Bx 1 hGF O<|λb1=>Al 2 hGF zv189<|λb2=>aa<|Xd []<|La 1 O O aR<|Ca O (bS _)<|La 1 O O aR<|Ca O (bz _ _)<|Sa 2 hGF O O O aR<|aa<|ao<|Rr<|?_;exact aF 2 O O O isAgg189 sizeOf189 aB (λw hw=>⟨rfl,ae hw⟩)
def dbF(x:Zp×Zp×Zp):Zp×Zp×Zp:=
 let a:=x.2.1+x.2.1
 let s:=x.1*x.1
 let u:=s+s+s
 let h:=a*a
 let b:=h*x.1
 let X:=E1.sub (E1.sub (u*u) b) b
 (X,E1.sub (u*E1.sub b X) (h*a*x.2.1),x.2.2*a)
theorem Jl(x:Zp×Zp×Zp):PUR 378 [JV x] (JV (dbF x)):=by
 intro w hw;refine Hf func378 O hw<|λhGF=>Xp<|Bx 1 hGF O<|λb1=>Al 2 hGF fJ<|λb2=>aa<|cJ (E:=EE [2999999]) [0,1,2,3,4,5,6,7] [⟨8,3,189,(List.replicate 6 0#64).map U64⟩,⟨9,4,189,(List.replicate 6 0#64).map U64⟩] [10,11] db O kr kr kr kr kr kr aC (by intro x hx;simp only[List.mem_cons,List.not_mem_nil,or_false]at hx;rcases hx with rfl|rfl<;>exact bA O zv189 O)<|Fa 6 O underlying191 O sizeOf189<|be 1 _ O O isAgg189 sizeOf189 aB (kk aB) O O<|Fa 6 O underlying191 O sizeOf189<|be 1 _ O O isAgg189 sizeOf189 aB (kk aB) O O<|Ca O (kO _ _)<|Fa 0 O underlying191 O sizeOf189<|be 1 _ O O isAgg189 sizeOf189 aB jX O O<|Ca O (bS _)<|aa<|?_
 refine ⟨_,_,rfl,hGF,by intro x hx;simp only[List.mem_cons,List.not_mem_nil,or_false]at hx;rcases hx with rfl|rfl<;>rfl,by intro x hx;simp only[List.mem_cons,List.not_mem_nil,or_false]at hx;rcases hx with rfl|rfl<;>rfl,λadr=> ?_⟩
 refine Sa 3 hGF O O O aR<|Sa 4 hGF O O O aR<|aa<|Xa [0,1,2,3,4] ⟨5,5,189,(List.replicate 6 0#64).map U64⟩ [6] (bA O zv189 O)<|La 4 O O aR<|La 4 O O aR<|Ca O (kO _ _)<|La 4 O O aR<|Ca O (kO _ _)<|aa<|?_;refine ⟨_,_,rfl,hGF,by intro x hx;simp only[List.mem_cons,List.not_mem_nil,or_false]at hx;subst hx;rfl,by intro x hx;simp only[List.mem_cons,List.not_mem_nil,or_false]at hx;subst hx;rfl,λadr=> ?_⟩
 refine Sa 5 hGF O O O aR<|aa<|Xp<|La 3 O O aR<|Ca O (bS _)<|Al 6 hGF zv189<|λb6=>Sa 6 hGF O O O aR<|aa<|Xp<|La 6 O O aR<|Fa 0 O underlying191 O sizeOf189<|be 1 _ O O isAgg189 sizeOf189 aB jX O O<|Ca O (bz _ _)<|Al 7 hGF zv189<|λb7=>Sa 7 hGF O O O aR<|aa<|Xa [0,1,2,3,4,5] ⟨6,8,189,(List.replicate 6 0#64).map U64⟩ [7] (bA O zv189 O)<|La 5 O O aR<|Ca O (bS _)<|La 7 O O aR<|Ca O (iB _ _)<|La 7 O O aR<|Ca O (iB _ _)<|aa<|?_;refine ⟨_,_,rfl,hGF,by intro x hx;simp only[List.mem_cons,List.not_mem_nil,or_false]at hx;subst hx;rfl,by intro x hx;simp only[List.mem_cons,List.not_mem_nil,or_false]at hx;subst hx;rfl,λadr=> ?_⟩
 refine Sa 8 hGF O O O aR<|aa<|Xa [0,1,2,3,4,5,6,7,8,9,10,11] ⟨12,9,189,(List.replicate 6 0#64).map U64⟩ [13] (bA O zv189 O)<|La 5 O O aR<|La 7 O O aR<|La 8 O O aR<|Ca O (iB _ _)<|Ca O (bz _ _)<|La 6 O O aR<|La 3 O O aR<|Ca O (bz _ _)<|Fa 6 O underlying191 O sizeOf189<|be 1 _ O O isAgg189 sizeOf189 aB (kk aB) O O<|Ca O (bz _ _)<|Ca O (iB _ _)<|aa<|?_;refine ⟨_,_,rfl,hGF,by intro x hx;simp only[List.mem_cons,List.not_mem_nil,or_false]at hx;subst hx;rfl,by intro x hx;simp only[List.mem_cons,List.not_mem_nil,or_false]at hx;subst hx;rfl,λadr=> ?_⟩
 refine Sa 9 hGF O O O aR<|aa<|Xd []<|La 8 O O aR<|La 9 O O aR<|Fa 12 O underlying191 O sizeOf189<|be 1 _ O O isAgg189 sizeOf189 aB (dM (m:=6) (n:=6) aB aB O) O O<|La 3 O O aR<|Ca O (bz _ _)<|ek fT O O O aB aB aB O O<|Sa 2 hGF O O O bF<|aa<|ao<|Rr<|?_;exact aF 2 O O O isAgg191 sizeOf191 aB (λw hw=>⟨rfl,ae hw⟩)
theorem db_s(x y:Zp):(y+y)*(y+y)*x=(x*(y*y)+x*(y*y))+(x*(y*y)+x*(y*y)):=by grind
theorem db_c(y:Zp):(y+y)*(y+y)*(y+y)*y=(((y*y)*(y*y)+(y*y)*(y*y))+((y*y)*(y*y)+(y*y)*(y*y)))+(((y*y)*(y*y)+(y*y)*(y*y))+((y*y)*(y*y)+(y*y)*(y*y))):=by grind
theorem db_z(y z:Zp):z*(y+y)=y*z+y*z:=by grind
theorem Ch(m:Zp){s s' c c' z z':Zp}(hs:s=s')(hc:c=c')(hz:z=z'):(E1.sub (E1.sub (m*m) s) s,E1.sub (m*E1.sub s (E1.sub (E1.sub (m*m) s) s)) c,z)=(E1.sub (E1.sub (m*m) s') s',E1.sub (m*E1.sub s' (E1.sub (E1.sub (m*m) s') s')) c',z'):=by rw[hs,hc,hz]
theorem If(x:Zp×Zp×Zp):dbF x=E1.jd x.1 x.2.1 x.2.2:=Ch (x.1*x.1+x.1*x.1+x.1*x.1) (db_s x.1 x.2.1) (db_c x.2.1) (db_z x.2.1 x.2.2)
theorem G8{x:Zp×Zp×Zp}{P:Pt Zp}(hP:E1.onP P)(h:E1.jr x P):E1.jr (dbF x) (E1.ad P P):=by
 have k:=E1.jr_d hP h;by_cases hz:x.2.2=E1.R.zero\/x.2.1=E1.R.zero
 ·rw[show E1.jdF x=(E1.R.zero,E1.R.zero,E1.R.zero)from if_pos hz]at k
  rw[(E1.jr_z k).1 O];show x.2.2*(x.2.1+x.2.1)=(0:Zp);rcases hz with e|e
  ·rw[show x.2.2=(0:Zp)from e,z_0m]
  ·rw[show x.2.1=(0:Zp)from e,Lj,z_m0]
 ·rw[show E1.jdF x=E1.jd x.1 x.2.1 x.2.2 from if_neg hz,<-If]at k
  exact k
def adG(x y:Zp×Zp×Zp):Zp×Zp×Zp:=
 let u:=x.1*(y.2.2*y.2.2)
 let s:=x.2.1*(y.2.2*y.2.2)*y.2.2
 let h:=E1.sub (y.1*(x.2.2*x.2.2)) u
 let r:=E1.sub (y.2.1*(x.2.2*x.2.2)*x.2.2) s
 let q:=h*h
 let c:=q*h
 let w:=q*u
 let X:=E1.sub (E1.sub (E1.sub (r*r) c) w) w
 (X,E1.sub (r*E1.sub w X) (c*s),x.2.2*y.2.2*h)
def adF(x y:Zp×Zp×Zp):Zp×Zp×Zp:=if x.2.2=0 then y else if y.2.2=0 then x else if E1.jh x.1 x.2.2 y.1 y.2.2=0 then (if E1.jq x.2.1 x.2.2 y.2.1 y.2.2=0 then dbF x else (0,0,0))else adG x y
theorem AX(a b:Zp):a*b=b*a:=by grind
theorem mp{a w w' r k k' z:Zp}(hw:w=w')(hk:k=k'):(E1.sub (E1.sub a w) w,E1.sub (r*E1.sub w (E1.sub (E1.sub a w) w)) k,z)=(E1.sub (E1.sub a w') w',E1.sub (r*E1.sub w' (E1.sub (E1.sub a w') w')) k',z):=by rw[hw,hk]
theorem G9(x y:Zp×Zp×Zp):adG x y=E1.ja x.1 x.2.1 x.2.2 y.1 y.2.1 y.2.2:=mp (AX _ _) (AX _ _)
theorem tG{p q:Zp×Zp}{x y:Zp×Zp×Zp}(h:E1.jr x (some p))(k:E1.jr y (some q)):(x.1*(y.2.2*y.2.2)=y.1*(x.2.2*x.2.2)↔p.1=q.1)/\(x.2.1*(y.2.2*y.2.2)*y.2.2=y.2.1*(x.2.2*x.2.2)*x.2.2↔p.2=q.2):=by
 have hx:x.1=p.1*(x.2.2*x.2.2):=h.2.1;have hy:x.2.1=p.2*(x.2.2*x.2.2*x.2.2):=h.2.2;have kx:y.1=q.1*(y.2.2*y.2.2):=k.2.1;have ky:y.2.1=q.2*(y.2.2*y.2.2*y.2.2):=k.2.2;have n2:=E1.mul_ne (E1.z2_ne h.1) (E1.z2_ne k.1);have n3:=E1.mul_ne (E1.z3_ne h.1) (E1.z3_ne k.1);obtain ⟨z,hz⟩: ∃z,x.2.2=z:=⟨_,rfl⟩;obtain ⟨v,hv⟩: ∃v,y.2.2=v:=⟨_,rfl⟩;rw[hz]at hx hy n2 n3;rw[hv]at kx ky n2 n3;rw[hx,hy,kx,ky,hz,hv];refine ⟨⟨λe=>E1.mul_can n2 ?_,λe=>by rw[e];grind⟩,⟨λe=>E1.mul_can n3 ?_,λe=>by rw[e];grind⟩⟩
 ·show p.1*(z*z*(v*v))=q.1*(z*z*(v*v))
  grind
 ·show p.2*(z*z*z*(v*v*v))=q.2*(z*z*z*(v*v*v))
  grind
theorem BX{x y:Zp×Zp×Zp}{P Q:Pt Zp}(_:E1.onP P)(_:E1.onP Q)(h:E1.jr x P)(k:E1.jr y Q)(h1: ¬x.2.2=0)(h2: ¬y.2.2=0)(h3:E1.jh x.1 x.2.2 y.1 y.2.2=0)(h4:E1.jq x.2.1 x.2.2 y.2.1 y.2.2=0):Q=P:=by
 cases P with
 |none=>exact absurd h h1
 |some p=>
  cases Q with
  |none=>exact absurd k h2
  |some q=>
   have s:=tG h k;exact congrArg some (Prod.ext (s.1.1 (E1.sub0 h3).symm).symm (s.2.1 (E1.sub0 h4).symm).symm)
theorem Gi{x y:Zp×Zp×Zp}{P Q:Pt Zp}(hP:E1.onP P)(hQ:E1.onP Q)(h:E1.jr x P)(k:E1.jr y Q):E1.jr (adF x y) (E1.ad P Q):=by
 have j:=E1.jr_a hP hQ h k;by_cases h1:x.2.2=0
 ·rw[show E1.jaF x y=y from if_pos h1]at j
  rw[show adF x y=y from if_pos h1];exact j
 by_cases h2:y.2.2=0
 ·rw[show E1.jaF x y=x from (if_neg h1).trans (if_pos h2)]at j
  rw[show adF x y=x from (if_neg h1).trans (if_pos h2)];exact j
 by_cases h3:E1.jh x.1 x.2.2 y.1 y.2.2=0
 ·by_cases h4:E1.jq x.2.1 x.2.2 y.2.1 y.2.2=0
  ·rw[show adF x y=dbF x from (if_neg h1).trans ((if_neg h2).trans ((if_pos h3).trans (if_pos h4)))]
   have e:Q=P:=BX hP hQ h k h1 h2 h3 h4;rw[e];exact G8 hP h
  ·rw[show E1.jaF x y=(E1.R.zero,E1.R.zero,E1.R.zero)from (if_neg h1).trans ((if_neg h2).trans ((if_pos h3).trans (if_neg h4)))]at j
   rw[show adF x y=(0,0,0)from (if_neg h1).trans ((if_neg h2).trans ((if_pos h3).trans (if_neg h4)))];exact j
 ·rw[show E1.jaF x y=E1.ja x.1 x.2.1 x.2.2 y.1 y.2.1 y.2.2 from (if_neg h1).trans ((if_neg h2).trans (if_neg h3)),<-G9]at j
  rw[show adF x y=adG x y from (if_neg h1).trans ((if_neg h2).trans (if_neg h3))];exact j
theorem Mg(x y:Zp×Zp×Zp):PUR 375 [JV x,JV y] (JV (adF x y)):=by
 intro w hw;have hGF:BOk Gt (pl w):=gt_low.plain hw;by_cases h1:x.2.2=0
 ·rw[show adF x y=y from if_pos h1]
  refine Hqd func375 O hGF<|Xp<|Bx 2 hGF O<|λb2=>Bx 3 hGF O<|λb3=>Al 4 hGF fJ<|λb4=>aa<|ah<|Xp<|La 2 O O bF<|Cbl true O ent161 (dC _) (decide_eq_true h1)<|aa<|aP O<|Xp<|La 3 O O bF<|Sa 4 hGF O O O bF<|aa<|ao<|Rr<|?_;exact aF 4 O O O isAgg191 sizeOf191 aB (λw hw=>⟨rfl,ae hw⟩)
 ·by_cases h2:y.2.2=0
  ·rw[show adF x y=x from (if_neg h1).trans (if_pos h2)]
   refine Hqd func375 O hGF<|Xp<|Bx 2 hGF O<|λb2=>Bx 3 hGF O<|λb3=>Al 4 hGF fJ<|λb4=>aa<|ah<|Xp<|La 2 O O bF<|Cbl false O ent161 (dC _) (decide_eq_false h1)<|aa<|aH O<|aw<|ah<|Xp<|La 3 O O bF<|Cbl true O ent161 (dC _) (decide_eq_true h2)<|aa<|aP O<|Xp<|La 2 O O bF<|Sa 4 hGF O O O bF<|aa<|ao<|Rr<|?_;exact aF 4 O O O isAgg191 sizeOf191 aB (λw hw=>⟨rfl,ae hw⟩)
  ·by_cases h3:E1.jh x.1 x.2.2 y.1 y.2.2=0
   ·by_cases h4:E1.jq x.2.1 x.2.2 y.2.1 y.2.2=0
    ·rw[show adF x y=dbF x from (if_neg h1).trans ((if_neg h2).trans ((if_pos h3).trans (if_pos h4)))]
     refine Hqd func375 O hGF<|Xp<|Bx 2 hGF O<|λb2=>Bx 3 hGF O<|λb3=>Al 4 hGF fJ<|λb4=>aa<|ah<|Xp<|La 2 O O bF<|Cbl false O ent161 (dC _) (decide_eq_false h1)<|aa<|aH O<|aw<|ah<|Xp<|La 3 O O bF<|Cbl false O ent161 (dC _) (decide_eq_false h2)<|aa<|aH O<|aw<|cJ (E:=EE [2999999]) [0,1,2,3,4,5] [⟨6,5,189,(List.replicate 6 0#64).map U64⟩,⟨7,6,189,(List.replicate 6 0#64).map U64⟩] [8,9] db O kr kr kr kr kr kr aC (by intro x hx;simp only[List.mem_cons,List.not_mem_nil,or_false]at hx;rcases hx with rfl|rfl<;>exact bA O zv189 O)<|Fa 12 O underlying191 O sizeOf189<|be 2 _ O O isAgg189 sizeOf189 aB (dM (m:=6) (n:=6) aB aB O) O O<|Ca O (bS _)<|Fa 12 O underlying191 O sizeOf189<|be 3 _ O O isAgg189 sizeOf189 aB (dM (m:=6) (n:=6) aB aB O) O O<|Ca O (bS _)<|aa<|?_
     refine ⟨_,_,rfl,hGF,by intro x hx;simp only[List.mem_cons,List.not_mem_nil,or_false]at hx;rcases hx with rfl|rfl<;>rfl,by intro x hx;simp only[List.mem_cons,List.not_mem_nil,or_false]at hx;rcases hx with rfl|rfl<;>rfl,λadr=> ?_⟩
     refine Sa 5 hGF O O O aR<|Sa 6 hGF O O O aR<|aa<|cJ (E:=EE [2999999]) [0,1,2,3,4,5,6,7,8,9,10] [⟨11,7,189,(List.replicate 6 0#64).map U64⟩,⟨12,8,189,(List.replicate 6 0#64).map U64⟩] [13,14] db O kr kr kr kr kr kr aC (by intro x hx;simp only[List.mem_cons,List.not_mem_nil,or_false]at hx;rcases hx with rfl|rfl<;>exact bA O zv189 O)<|Fa 0 O underlying191 O sizeOf189<|be 2 _ O O isAgg189 sizeOf189 aB jX O O<|La 6 O O aR<|Ca O (bz _ _)<|Fa 6 O underlying191 O sizeOf189<|be 2 _ O O isAgg189 sizeOf189 aB (kk aB) O O<|La 6 O O aR<|Ca O (bz _ _)<|Fa 12 O underlying191 O sizeOf189<|be 3 _ O O isAgg189 sizeOf189 aB (dM (m:=6) (n:=6) aB aB O) O O<|Ca O (bz _ _)<|aa<|?_
     refine ⟨_,_,rfl,hGF,by intro x hx;simp only[List.mem_cons,List.not_mem_nil,or_false]at hx;rcases hx with rfl|rfl<;>rfl,by intro x hx;simp only[List.mem_cons,List.not_mem_nil,or_false]at hx;rcases hx with rfl|rfl<;>rfl,λadr=> ?_⟩
     refine Sa 7 hGF O O O aR<|Sa 8 hGF O O O aR<|aa<|Xa [0,1,2,3,4,5] ⟨6,9,189,(List.replicate 6 0#64).map U64⟩ [7] (bA O zv189 O)<|Fa 0 O underlying191 O sizeOf189<|be 3 _ O O isAgg189 sizeOf189 aB jX O O<|La 5 O O aR<|Ca O (bz _ _)<|La 7 O O aR<|Ca O (iB _ _)<|aa<|?_;refine ⟨_,_,rfl,hGF,by intro x hx;simp only[List.mem_cons,List.not_mem_nil,or_false]at hx;subst hx;rfl,by intro x hx;simp only[List.mem_cons,List.not_mem_nil,or_false]at hx;subst hx;rfl,λadr=> ?_⟩
     refine Sa 9 hGF O O O aR<|aa<|Xa [0,1,2,3,4,5,6,7,8] ⟨9,10,189,(List.replicate 6 0#64).map U64⟩ [10] (bA O zv189 O)<|Fa 6 O underlying191 O sizeOf189<|be 3 _ O O isAgg189 sizeOf189 aB (kk aB) O O<|La 5 O O aR<|Ca O (bz _ _)<|Fa 12 O underlying191 O sizeOf189<|be 2 _ O O isAgg189 sizeOf189 aB (dM (m:=6) (n:=6) aB aB O) O O<|Ca O (bz _ _)<|La 8 O O aR<|Ca O (iB _ _)<|aa<|?_;refine ⟨_,_,rfl,hGF,by intro x hx;simp only[List.mem_cons,List.not_mem_nil,or_false]at hx;subst hx;rfl,by intro x hx;simp only[List.mem_cons,List.not_mem_nil,or_false]at hx;subst hx;rfl,λadr=> ?_⟩
     refine Sa 10 hGF O O O aR<|aa<|ah<|Xp<|La 9 O O aR<|Cbl true O ent194 (dW _) (decide_eq_true h3)<|Mv O<|La 10 O O aR<|Cbl true O ent194 (dW _) (decide_eq_true h4)<|Pk O O O<|aa<|aP O<|Xp<|La 2 O O bF<|Ca O (Jl _)<|Sa 4 hGF O O O bF<|aa<|ao<|Rr<|?_;exact aF 4 O O O isAgg191 sizeOf191 aB (λw hw=>⟨rfl,ae hw⟩)
    ·rw[show adF x y=(0,0,0)from (if_neg h1).trans ((if_neg h2).trans ((if_pos h3).trans (if_neg h4)))]
     refine Hqd func375 O hGF<|Xp<|Bx 2 hGF O<|λb2=>Bx 3 hGF O<|λb3=>Al 4 hGF fJ<|λb4=>aa<|ah<|Xp<|La 2 O O bF<|Cbl false O ent161 (dC _) (decide_eq_false h1)<|aa<|aH O<|aw<|ah<|Xp<|La 3 O O bF<|Cbl false O ent161 (dC _) (decide_eq_false h2)<|aa<|aH O<|aw<|cJ (E:=EE [2999999]) [0,1,2,3,4,5] [⟨6,5,189,(List.replicate 6 0#64).map U64⟩,⟨7,6,189,(List.replicate 6 0#64).map U64⟩] [8,9] db O kr kr kr kr kr kr aC (by intro x hx;simp only[List.mem_cons,List.not_mem_nil,or_false]at hx;rcases hx with rfl|rfl<;>exact bA O zv189 O)<|Fa 12 O underlying191 O sizeOf189<|be 2 _ O O isAgg189 sizeOf189 aB (dM (m:=6) (n:=6) aB aB O) O O<|Ca O (bS _)<|Fa 12 O underlying191 O sizeOf189<|be 3 _ O O isAgg189 sizeOf189 aB (dM (m:=6) (n:=6) aB aB O) O O<|Ca O (bS _)<|aa<|?_
     refine ⟨_,_,rfl,hGF,by intro x hx;simp only[List.mem_cons,List.not_mem_nil,or_false]at hx;rcases hx with rfl|rfl<;>rfl,by intro x hx;simp only[List.mem_cons,List.not_mem_nil,or_false]at hx;rcases hx with rfl|rfl<;>rfl,λadr=> ?_⟩
     refine Sa 5 hGF O O O aR<|Sa 6 hGF O O O aR<|aa<|cJ (E:=EE [2999999]) [0,1,2,3,4,5,6,7,8,9,10] [⟨11,7,189,(List.replicate 6 0#64).map U64⟩,⟨12,8,189,(List.replicate 6 0#64).map U64⟩] [13,14] db O kr kr kr kr kr kr aC (by intro x hx;simp only[List.mem_cons,List.not_mem_nil,or_false]at hx;rcases hx with rfl|rfl<;>exact bA O zv189 O)<|Fa 0 O underlying191 O sizeOf189<|be 2 _ O O isAgg189 sizeOf189 aB jX O O<|La 6 O O aR<|Ca O (bz _ _)<|Fa 6 O underlying191 O sizeOf189<|be 2 _ O O isAgg189 sizeOf189 aB (kk aB) O O<|La 6 O O aR<|Ca O (bz _ _)<|Fa 12 O underlying191 O sizeOf189<|be 3 _ O O isAgg189 sizeOf189 aB (dM (m:=6) (n:=6) aB aB O) O O<|Ca O (bz _ _)<|aa<|?_
     refine ⟨_,_,rfl,hGF,by intro x hx;simp only[List.mem_cons,List.not_mem_nil,or_false]at hx;rcases hx with rfl|rfl<;>rfl,by intro x hx;simp only[List.mem_cons,List.not_mem_nil,or_false]at hx;rcases hx with rfl|rfl<;>rfl,λadr=> ?_⟩
     refine Sa 7 hGF O O O aR<|Sa 8 hGF O O O aR<|aa<|Xa [0,1,2,3,4,5] ⟨6,9,189,(List.replicate 6 0#64).map U64⟩ [7] (bA O zv189 O)<|Fa 0 O underlying191 O sizeOf189<|be 3 _ O O isAgg189 sizeOf189 aB jX O O<|La 5 O O aR<|Ca O (bz _ _)<|La 7 O O aR<|Ca O (iB _ _)<|aa<|?_;refine ⟨_,_,rfl,hGF,by intro x hx;simp only[List.mem_cons,List.not_mem_nil,or_false]at hx;subst hx;rfl,by intro x hx;simp only[List.mem_cons,List.not_mem_nil,or_false]at hx;subst hx;rfl,λadr=> ?_⟩
     refine Sa 9 hGF O O O aR<|aa<|Xa [0,1,2,3,4,5,6,7,8] ⟨9,10,189,(List.replicate 6 0#64).map U64⟩ [10] (bA O zv189 O)<|Fa 6 O underlying191 O sizeOf189<|be 3 _ O O isAgg189 sizeOf189 aB (kk aB) O O<|La 5 O O aR<|Ca O (bz _ _)<|Fa 12 O underlying191 O sizeOf189<|be 2 _ O O isAgg189 sizeOf189 aB (dM (m:=6) (n:=6) aB aB O) O O<|Ca O (bz _ _)<|La 8 O O aR<|Ca O (iB _ _)<|aa<|?_;refine ⟨_,_,rfl,hGF,by intro x hx;simp only[List.mem_cons,List.not_mem_nil,or_false]at hx;subst hx;rfl,by intro x hx;simp only[List.mem_cons,List.not_mem_nil,or_false]at hx;subst hx;rfl,λadr=> ?_⟩
     refine Sa 10 hGF O O O aR<|aa<|ah<|Xp<|La 9 O O aR<|Cbl true O ent194 (dW _) (decide_eq_true h3)<|Mv O<|La 10 O O aR<|Cbl false O ent194 (dW _) (decide_eq_false h4)<|Pk O O O<|aa<|aH O<|aw<|ah<|Xp<|La 9 O O aR<|Cbl true O ent194 (dW _) (decide_eq_true h3)<|aa<|aP O<|Xp<|gr fT O O<|Sa 4 hGF O O O bF<|aa<|ao<|Rr<|?_;exact aF 4 O O O isAgg191 sizeOf191 aB (λw hw=>⟨rfl,ae hw⟩)
   ·rw[show adF x y=adG x y from (if_neg h1).trans ((if_neg h2).trans (if_neg h3))]
    refine Hqd func375 O hGF<|Xp<|Bx 2 hGF O<|λb2=>Bx 3 hGF O<|λb3=>Al 4 hGF fJ<|λb4=>aa<|ah<|Xp<|La 2 O O bF<|Cbl false O ent161 (dC _) (decide_eq_false h1)<|aa<|aH O<|aw<|ah<|Xp<|La 3 O O bF<|Cbl false O ent161 (dC _) (decide_eq_false h2)<|aa<|aH O<|aw<|cJ (E:=EE [2999999]) [0,1,2,3,4,5] [⟨6,5,189,(List.replicate 6 0#64).map U64⟩,⟨7,6,189,(List.replicate 6 0#64).map U64⟩] [8,9] db O kr kr kr kr kr kr aC (by intro x hx;simp only[List.mem_cons,List.not_mem_nil,or_false]at hx;rcases hx with rfl|rfl<;>exact bA O zv189 O)<|Fa 12 O underlying191 O sizeOf189<|be 2 _ O O isAgg189 sizeOf189 aB (dM (m:=6) (n:=6) aB aB O) O O<|Ca O (bS _)<|Fa 12 O underlying191 O sizeOf189<|be 3 _ O O isAgg189 sizeOf189 aB (dM (m:=6) (n:=6) aB aB O) O O<|Ca O (bS _)<|aa<|?_
    refine ⟨_,_,rfl,hGF,by intro x hx;simp only[List.mem_cons,List.not_mem_nil,or_false]at hx;rcases hx with rfl|rfl<;>rfl,by intro x hx;simp only[List.mem_cons,List.not_mem_nil,or_false]at hx;rcases hx with rfl|rfl<;>rfl,λadr=> ?_⟩
    refine Sa 5 hGF O O O aR<|Sa 6 hGF O O O aR<|aa<|cJ (E:=EE [2999999]) [0,1,2,3,4,5,6,7,8,9,10] [⟨11,7,189,(List.replicate 6 0#64).map U64⟩,⟨12,8,189,(List.replicate 6 0#64).map U64⟩] [13,14] db O kr kr kr kr kr kr aC (by intro x hx;simp only[List.mem_cons,List.not_mem_nil,or_false]at hx;rcases hx with rfl|rfl<;>exact bA O zv189 O)<|Fa 0 O underlying191 O sizeOf189<|be 2 _ O O isAgg189 sizeOf189 aB jX O O<|La 6 O O aR<|Ca O (bz _ _)<|Fa 6 O underlying191 O sizeOf189<|be 2 _ O O isAgg189 sizeOf189 aB (kk aB) O O<|La 6 O O aR<|Ca O (bz _ _)<|Fa 12 O underlying191 O sizeOf189<|be 3 _ O O isAgg189 sizeOf189 aB (dM (m:=6) (n:=6) aB aB O) O O<|Ca O (bz _ _)<|aa<|?_
    refine ⟨_,_,rfl,hGF,by intro x hx;simp only[List.mem_cons,List.not_mem_nil,or_false]at hx;rcases hx with rfl|rfl<;>rfl,by intro x hx;simp only[List.mem_cons,List.not_mem_nil,or_false]at hx;rcases hx with rfl|rfl<;>rfl,λadr=> ?_⟩
    refine Sa 7 hGF O O O aR<|Sa 8 hGF O O O aR<|aa<|Xa [0,1,2,3,4,5] ⟨6,9,189,(List.replicate 6 0#64).map U64⟩ [7] (bA O zv189 O)<|Fa 0 O underlying191 O sizeOf189<|be 3 _ O O isAgg189 sizeOf189 aB jX O O<|La 5 O O aR<|Ca O (bz _ _)<|La 7 O O aR<|Ca O (iB _ _)<|aa<|?_;refine ⟨_,_,rfl,hGF,by intro x hx;simp only[List.mem_cons,List.not_mem_nil,or_false]at hx;subst hx;rfl,by intro x hx;simp only[List.mem_cons,List.not_mem_nil,or_false]at hx;subst hx;rfl,λadr=> ?_⟩
    refine Sa 9 hGF O O O aR<|aa<|Xa [0,1,2,3,4,5,6,7,8] ⟨9,10,189,(List.replicate 6 0#64).map U64⟩ [10] (bA O zv189 O)<|Fa 6 O underlying191 O sizeOf189<|be 3 _ O O isAgg189 sizeOf189 aB (kk aB) O O<|La 5 O O aR<|Ca O (bz _ _)<|Fa 12 O underlying191 O sizeOf189<|be 2 _ O O isAgg189 sizeOf189 aB (dM (m:=6) (n:=6) aB aB O) O O<|Ca O (bz _ _)<|La 8 O O aR<|Ca O (iB _ _)<|aa<|?_;refine ⟨_,_,rfl,hGF,by intro x hx;simp only[List.mem_cons,List.not_mem_nil,or_false]at hx;subst hx;rfl,by intro x hx;simp only[List.mem_cons,List.not_mem_nil,or_false]at hx;subst hx;rfl,λadr=> ?_⟩
    refine Sa 10 hGF O O O aR<|aa<|ah<|Xp<|La 9 O O aR<|Cbl false O ent194 (dW _) (decide_eq_false h3)<|Mv O<|Sk<|Sk<|Pk O O O<|aa<|aH O<|aw<|ah<|Xp<|La 9 O O aR<|Cbl false O ent194 (dW _) (decide_eq_false h3)<|aa<|aH O<|aw<|Xp<|La 9 O O aR<|Ca O (bS _)<|Al 11 hGF zv189<|λb11=>Sa 11 hGF O O O aR<|aa<|cJ (E:=EE [2999999]) [0,1,2,3,4,5] [⟨6,12,189,(List.replicate 6 0#64).map U64⟩,⟨7,13,189,(List.replicate 6 0#64).map U64⟩] [8,9] db O kr kr kr kr kr kr aC (by intro x hx;simp only[List.mem_cons,List.not_mem_nil,or_false]at hx;rcases hx with rfl|rfl<;>exact bA O zv189 O)<|La 11 O O aR<|La 9 O O aR<|Ca O (bz _ _)<|La 11 O O aR<|La 7 O O aR<|Ca O (bz _ _)<|aa<|?_
    refine ⟨_,_,rfl,hGF,by intro x hx;simp only[List.mem_cons,List.not_mem_nil,or_false]at hx;rcases hx with rfl|rfl<;>rfl,by intro x hx;simp only[List.mem_cons,List.not_mem_nil,or_false]at hx;rcases hx with rfl|rfl<;>rfl,λadr=> ?_⟩
    refine Sa 12 hGF O O O aR<|Sa 13 hGF O O O aR<|aa<|Xd []<|La 10 O O aR<|Ca O (bS _)<|La 12 O O aR<|Ca O (iB _ _)<|La 13 O O aR<|Ca O (iB _ _)<|La 13 O O aR<|Ca O (iB _ _)<|Sa 7 hGF O O O aR<|aa<|Xd []<|La 10 O O aR<|La 13 O O aR<|La 7 O O aR<|Ca O (iB _ _)<|Ca O (bz _ _)<|La 12 O O aR<|La 8 O O aR<|Ca O (bz _ _)<|Ca O (iB _ _)<|Sa 8 hGF O O O aR<|aa<|Xd []<|La 7 O O aR<|La 8 O O aR<|Fa 12 O underlying191 O sizeOf189<|be 2 _ O O isAgg189 sizeOf189 aB (dM (m:=6) (n:=6) aB aB O) O O<|Fa 12 O underlying191 O sizeOf189<|be 3 _ O O isAgg189 sizeOf189 aB (dM (m:=6) (n:=6) aB aB O) O O<|Ca O (bz _ _)<|La 9 O O aR<|Ca O (bz _ _)<|ek fT O O O aB aB aB O O<|Sa 4 hGF O O O bF<|aa<|ao<|?_;refine Rr ?_;exact aF 4 O O O isAgg191 sizeOf191 aB (λw hw=>⟨rfl,ae hw⟩)
theorem tQ(a b:Zp):a*(b*b)*b=a*(b*b*b):=by grind
def eqJ(x y:Zp×Zp×Zp):Prop:=(x.2.2=0/\y.2.2=0)\/(¬x.2.2=0/\¬y.2.2=0/\x.1*(y.2.2*y.2.2)=y.1*(x.2.2*x.2.2)/\x.2.1*(y.2.2*y.2.2*y.2.2)=y.2.1*(x.2.2*x.2.2*x.2.2))
theorem xr{p q:Zp×Zp}{x y:Zp×Zp×Zp}(h:E1.jr x (some p))(k:E1.jr y (some q)):(x.1*(y.2.2*y.2.2)=y.1*(x.2.2*x.2.2)↔p.1=q.1)/\(x.2.1*(y.2.2*y.2.2*y.2.2)=y.2.1*(x.2.2*x.2.2*x.2.2)↔p.2=q.2):=by
 have s:=tG h k;rw[tQ,tQ]at s;exact s
theorem xd{x y:Zp×Zp×Zp}{P Q:Pt Zp}(h:E1.jr x P)(k:E1.jr y Q):eqJ x y↔P=Q:=by
 cases P with
 |none=>
  cases Q with
  |none=>exact ⟨λ_=>rfl,λ_=>.inl ⟨h,k⟩⟩
  |some q=>exact ⟨λe=>e.elim (λe=>absurd e.2 k.1) (λe=>absurd h e.1),λe=>by cases e⟩
 |some p=>
  cases Q with
  |none=>exact ⟨λe=>e.elim (λe=>absurd e.1 h.1) (λe=>absurd k e.2.1),λe=>by cases e⟩
  |some q=>
   have s:=xr h k;exact ⟨λe=>e.elim (λe=>absurd e.1 h.1) (λe=>congrArg some (Prod.ext (s.1.1 e.2.2.1) (s.2.1 e.2.2.2))),λe=>.inr ⟨h.1,k.1,s.1.2 (congrArg Prod.fst (Option.some.inj e)),s.2.2 (congrArg Prod.snd (Option.some.inj e))⟩⟩
theorem lg(x y:Zp×Zp×Zp)(hd:Decidable (eqJ x y))(b:Bool)(hb:b=decide (eqJ x y)):PUR 376 [JV x,JV y] (.bool b):=by
 intro w hw;have hGF:BOk Gt (pl w):=gt_low.plain hw;by_cases h1:x.2.2=0
 ·by_cases h2:y.2.2=0
  ·obtain rfl:b=true:=hb.trans (decide_eq_true (.inl ⟨h1,h2⟩))
   refine Hqd func376 O hGF<|Xp<|Bx 2 hGF O<|λb2=>Bx 3 hGF O<|λb3=>Asg O<|aa<|ah<|Xp<|La 2 O O bF<|Cbl true O ent161 (dC _) (decide_eq_true h1)<|Mv O<|Sk<|Sk<|Pk O O O<|aa<|aP O<|Xp<|La 2 O O bF<|Cbl true O ent161 (dC _) (decide_eq_true h1)<|Mv O<|La 3 O O bF<|Cbl true O ent161 (dC _) (decide_eq_true h2)<|Pk O O O<|Asg O<|aa<|ao<|Rr<|?_;exact au O O (λw hw=>⟨rfl,ae hw⟩)
  ·obtain rfl:b=false:=hb.trans (decide_eq_false (λe=>e.elim (λe=>h2 e.2) (λe=>e.1 h1)))
   refine Hqd func376 O hGF<|Xp<|Bx 2 hGF O<|λb2=>Bx 3 hGF O<|λb3=>Asg O<|aa<|ah<|Xp<|La 2 O O bF<|Cbl true O ent161 (dC _) (decide_eq_true h1)<|Mv O<|Sk<|Sk<|Pk O O O<|aa<|aP O<|Xp<|La 2 O O bF<|Cbl true O ent161 (dC _) (decide_eq_true h1)<|Mv O<|La 3 O O bF<|Cbl false O ent161 (dC _) (decide_eq_false h2)<|Pk O O O<|Asg O<|aa<|ao<|Rr<|?_;exact au O O (λw hw=>⟨rfl,ae hw⟩)
 ·by_cases h2:y.2.2=0
  ·obtain rfl:b=false:=hb.trans (decide_eq_false (λe=>e.elim (λe=>h1 e.1) (λe=>e.2.1 h2)))
   refine Hqd func376 O hGF<|Xp<|Bx 2 hGF O<|λb2=>Bx 3 hGF O<|λb3=>Asg O<|aa<|ah<|Xp<|La 2 O O bF<|Cbl false O ent161 (dC _) (decide_eq_false h1)<|Mv O<|La 3 O O bF<|Cbl true O ent161 (dC _) (decide_eq_true h2)<|Pk O O O<|aa<|aP O<|Xp<|La 2 O O bF<|Cbl false O ent161 (dC _) (decide_eq_false h1)<|Mv O<|Sk<|Sk<|Pk O O O<|Asg O<|aa<|ao<|Rr<|?_;exact au O O (λw hw=>⟨rfl,ae hw⟩)
  ·by_cases h3:x.1*(y.2.2*y.2.2)=y.1*(x.2.2*x.2.2)
   ·by_cases h4:x.2.1*(y.2.2*y.2.2*y.2.2)=y.2.1*(x.2.2*x.2.2*x.2.2)
    ·obtain rfl:b=true:=hb.trans (decide_eq_true (.inr ⟨h1,h2,h3,h4⟩))
     refine Hqd func376 O hGF<|Xp<|Bx 2 hGF O<|λb2=>Bx 3 hGF O<|λb3=>Asg O<|aa<|ah<|Xp<|La 2 O O bF<|Cbl false O ent161 (dC _) (decide_eq_false h1)<|Mv O<|La 3 O O bF<|Cbl false O ent161 (dC _) (decide_eq_false h2)<|Pk O O O<|aa<|aH O<|aw<|cJ (E:=EE [2999999]) [0,1,2,3,4,5,6,7,8,9,10,11] [⟨12,5,189,(List.replicate 6 0#64).map U64⟩,⟨13,6,189,(List.replicate 6 0#64).map U64⟩] [14,15] db O kr kr kr kr kr kr aC (by intro x hx;simp only[List.mem_cons,List.not_mem_nil,or_false]at hx;rcases hx with rfl|rfl<;>exact bA O zv189 O)<|Fa 6 O underlying191 O sizeOf189<|be 2 _ O O isAgg189 sizeOf189 aB (kk aB) O O<|Fa 12 O underlying191 O sizeOf189<|be 3 _ O O isAgg189 sizeOf189 aB (dM (m:=6) (n:=6) aB aB O) O O<|Ca O (pt _)<|Ca O (bz _ _)<|Fa 6 O underlying191 O sizeOf189<|be 3 _ O O isAgg189 sizeOf189 aB (kk aB) O O<|Fa 12 O underlying191 O sizeOf189<|be 2 _ O O isAgg189 sizeOf189 aB (dM (m:=6) (n:=6) aB aB O) O O<|Ca O (pt _)<|Ca O (bz _ _)<|aa<|?_
     refine ⟨_,_,rfl,hGF,by intro x hx;simp only[List.mem_cons,List.not_mem_nil,or_false]at hx;rcases hx with rfl|rfl<;>rfl,by intro x hx;simp only[List.mem_cons,List.not_mem_nil,or_false]at hx;rcases hx with rfl|rfl<;>rfl,λadr=> ?_⟩
     refine Sa 5 hGF O O O aR<|Sa 6 hGF O O O aR<|aa<|Xd []<|Fa 0 O underlying191 O sizeOf189<|be 2 _ O O isAgg189 sizeOf189 aB jX O O<|Fa 12 O underlying191 O sizeOf189<|be 3 _ O O isAgg189 sizeOf189 aB (dM (m:=6) (n:=6) aB aB O) O O<|Ca O (bS _)<|Ca O (bz _ _)<|Fa 0 O underlying191 O sizeOf189<|be 3 _ O O isAgg189 sizeOf189 aB jX O O<|Fa 12 O underlying191 O sizeOf189<|be 2 _ O O isAgg189 sizeOf189 aB (dM (m:=6) (n:=6) aB aB O) O O<|Ca O (bS _)<|Ca O (bz _ _)<|Cbl true O ent244 (fK _ _) (decide_eq_true h3)<|Mv O<|La 5 O O aR<|La 6 O O aR<|Cbl true O ent244 (fK _ _) (decide_eq_true h4)<|Pk O O O<|Asg O<|aa<|ao<|Rr<|?_;exact au O O (λw hw=>⟨rfl,ae hw⟩)
    ·obtain rfl:b=false:=hb.trans (decide_eq_false (λe=>e.elim (λe=>h1 e.1) (λe=>h4 e.2.2.2)))
     refine Hqd func376 O hGF<|Xp<|Bx 2 hGF O<|λb2=>Bx 3 hGF O<|λb3=>Asg O<|aa<|ah<|Xp<|La 2 O O bF<|Cbl false O ent161 (dC _) (decide_eq_false h1)<|Mv O<|La 3 O O bF<|Cbl false O ent161 (dC _) (decide_eq_false h2)<|Pk O O O<|aa<|aH O<|aw<|cJ (E:=EE [2999999]) [0,1,2,3,4,5,6,7,8,9,10,11] [⟨12,5,189,(List.replicate 6 0#64).map U64⟩,⟨13,6,189,(List.replicate 6 0#64).map U64⟩] [14,15] db O kr kr kr kr kr kr aC (by intro x hx;simp only[List.mem_cons,List.not_mem_nil,or_false]at hx;rcases hx with rfl|rfl<;>exact bA O zv189 O)<|Fa 6 O underlying191 O sizeOf189<|be 2 _ O O isAgg189 sizeOf189 aB (kk aB) O O<|Fa 12 O underlying191 O sizeOf189<|be 3 _ O O isAgg189 sizeOf189 aB (dM (m:=6) (n:=6) aB aB O) O O<|Ca O (pt _)<|Ca O (bz _ _)<|Fa 6 O underlying191 O sizeOf189<|be 3 _ O O isAgg189 sizeOf189 aB (kk aB) O O<|Fa 12 O underlying191 O sizeOf189<|be 2 _ O O isAgg189 sizeOf189 aB (dM (m:=6) (n:=6) aB aB O) O O<|Ca O (pt _)<|Ca O (bz _ _)<|aa<|?_
     refine ⟨_,_,rfl,hGF,by intro x hx;simp only[List.mem_cons,List.not_mem_nil,or_false]at hx;rcases hx with rfl|rfl<;>rfl,by intro x hx;simp only[List.mem_cons,List.not_mem_nil,or_false]at hx;rcases hx with rfl|rfl<;>rfl,λadr=> ?_⟩
     refine Sa 5 hGF O O O aR<|Sa 6 hGF O O O aR<|aa<|Xd []<|Fa 0 O underlying191 O sizeOf189<|be 2 _ O O isAgg189 sizeOf189 aB jX O O<|Fa 12 O underlying191 O sizeOf189<|be 3 _ O O isAgg189 sizeOf189 aB (dM (m:=6) (n:=6) aB aB O) O O<|Ca O (bS _)<|Ca O (bz _ _)<|Fa 0 O underlying191 O sizeOf189<|be 3 _ O O isAgg189 sizeOf189 aB jX O O<|Fa 12 O underlying191 O sizeOf189<|be 2 _ O O isAgg189 sizeOf189 aB (dM (m:=6) (n:=6) aB aB O) O O<|Ca O (bS _)<|Ca O (bz _ _)<|Cbl true O ent244 (fK _ _) (decide_eq_true h3)<|Mv O<|La 5 O O aR<|La 6 O O aR<|Cbl false O ent244 (fK _ _) (decide_eq_false h4)<|Pk O O O<|Asg O<|aa<|ao<|Rr<|?_;exact au O O (λw hw=>⟨rfl,ae hw⟩)
   ·obtain rfl:b=false:=hb.trans (decide_eq_false (λe=>e.elim (λe=>h1 e.1) (λe=>h3 e.2.2.1)))
    refine Hqd func376 O hGF<|Xp<|Bx 2 hGF O<|λb2=>Bx 3 hGF O<|λb3=>Asg O<|aa<|ah<|Xp<|La 2 O O bF<|Cbl false O ent161 (dC _) (decide_eq_false h1)<|Mv O<|La 3 O O bF<|Cbl false O ent161 (dC _) (decide_eq_false h2)<|Pk O O O<|aa<|aH O<|aw<|cJ (E:=EE [2999999]) [0,1,2,3,4,5,6,7,8,9,10,11] [⟨12,5,189,(List.replicate 6 0#64).map U64⟩,⟨13,6,189,(List.replicate 6 0#64).map U64⟩] [14,15] db O kr kr kr kr kr kr aC (by intro x hx;simp only[List.mem_cons,List.not_mem_nil,or_false]at hx;rcases hx with rfl|rfl<;>exact bA O zv189 O)<|Fa 6 O underlying191 O sizeOf189<|be 2 _ O O isAgg189 sizeOf189 aB (kk aB) O O<|Fa 12 O underlying191 O sizeOf189<|be 3 _ O O isAgg189 sizeOf189 aB (dM (m:=6) (n:=6) aB aB O) O O<|Ca O (pt _)<|Ca O (bz _ _)<|Fa 6 O underlying191 O sizeOf189<|be 3 _ O O isAgg189 sizeOf189 aB (kk aB) O O<|Fa 12 O underlying191 O sizeOf189<|be 2 _ O O isAgg189 sizeOf189 aB (dM (m:=6) (n:=6) aB aB O) O O<|Ca O (pt _)<|Ca O (bz _ _)<|aa<|?_
    refine ⟨_,_,rfl,hGF,by intro x hx;simp only[List.mem_cons,List.not_mem_nil,or_false]at hx;rcases hx with rfl|rfl<;>rfl,by intro x hx;simp only[List.mem_cons,List.not_mem_nil,or_false]at hx;rcases hx with rfl|rfl<;>rfl,λadr=> ?_⟩
    refine Sa 5 hGF O O O aR<|Sa 6 hGF O O O aR<|aa<|Xd []<|Fa 0 O underlying191 O sizeOf189<|be 2 _ O O isAgg189 sizeOf189 aB jX O O<|Fa 12 O underlying191 O sizeOf189<|be 3 _ O O isAgg189 sizeOf189 aB (dM (m:=6) (n:=6) aB aB O) O O<|Ca O (bS _)<|Ca O (bz _ _)<|Fa 0 O underlying191 O sizeOf189<|be 3 _ O O isAgg189 sizeOf189 aB jX O O<|Fa 12 O underlying191 O sizeOf189<|be 2 _ O O isAgg189 sizeOf189 aB (dM (m:=6) (n:=6) aB aB O) O O<|Ca O (bS _)<|Ca O (bz _ _)<|Cbl false O ent244 (fK _ _) (decide_eq_false h3)<|Mv O<|Sk<|Sk<|Sk<|Pk O O O<|Asg O<|aa<|ao<|Rr<|?_;exact au O O (λw hw=>⟨rfl,ae hw⟩)
theorem Li(a b:Zp):PUR 202 [EV a,EV b] (JV (a,b,1)):=by
 intro w hw;refine Hf func202 O hw<|λhGF=>Xp<|Bx 2 hGF O<|λb2=>Bx 3 hGF O<|λb3=>Al 4 hGF fJ<|λb4=>aa<|Xd []<|La 2 O O aR<|La 3 O O aR<|Ca O (qF)<|ek fT O O O aB aB aB O O<|Sa 4 hGF O O O bF<|aa<|ao<|Rr<|?_;exact aF 4 O O O isAgg191 sizeOf191 aB (λw hw=>⟨rfl,ae hw⟩)
theorem of4:PUR 232 [U64 4#64] (EV (zp 4)):=sP 4#64
theorem ry(a:Zp):PUR 213 [EV a] (EV (RS4 a)):=by
 intro w hw;refine Hf func213 O hw<|λhGF=>Xp<|Bx 1 hGF O<|λb1=>Al 2 hGF zv189<|λb2=>aa<|Xp<|La 1 O O aR<|Ca O (pt _)<|Ca O (of4)<|Ca O (kO _ _)<|Sa 2 hGF O O O aR<|aa<|ao<|Rr<|?_;exact aF 2 O O O isAgg189 sizeOf189 aB (λw hw=>⟨rfl,ae hw⟩)
theorem AC(a s:Zp)(hs:PUR 214 [EV (RS4 a)] (.tuple #[EV s,.bool true])):PUR 192 [EV a,.bool true] (.tuple #[JV (a,-s,1),.bool true]):=by
 intro w hw;refine Hf func192 O hw<|λhGF=>Xp<|Bx 2 hGF O<|λb2=>Al 4 hGF fJ<|λb4=>Asg O<|aa<|Xp<|La 2 O O aR<|Ca O (ry _)<|Ca O (hs)<|Mv O<|Exq O O<|Exq O O<|Al 6 hGF zv189<|λb6=>Sa 6 hGF O O O aR<|Asg O<|aa<|ah<|Xp<|Mv O<|bU O (λ_=>bM _) O O<|aa<|aH O<|aw<|ah<|Xp<|Mv O<|aa<|aP O<|Xq<|La 6 O O aR<|Ca O (nn _)<|Sa 6 hGF O O O aR<|aa<|Xp<|La 2 O O aR<|La 6 O O aR<|Ca O (Li _ _)<|Sa 4 hGF O O O bF<|Asg O<|?_;refine aa<|ao<|Rr<|?_;exact cg 4 O O O O isAgg191 sizeOf191 aB (λw hw=>⟨rfl,ae hw⟩)
theorem Az(a s:Zp)(hs:PUR 214 [EV (RS4 a)] (.tuple #[EV s,.bool false])):PUR 192 [EV a,.bool true] (.tuple #[JV (0,0,0),.bool false]):=by
 intro w hw;refine Hf func192 O hw<|λhGF=>Xp<|Bx 2 hGF O<|λb2=>Al 4 hGF fJ<|λb4=>Asg O<|aa<|Xp<|La 2 O O aR<|Ca O (ry _)<|Ca O (hs)<|Mv O<|Exq O O<|Exq O O<|Al 6 hGF zv189<|λb6=>Sa 6 hGF O O O aR<|Asg O<|aa<|ah<|Xp<|Mv O<|bU O (λ_=>bM _) O O<|aa<|aP O<|Xp<|gr fT O O<|Sa 4 hGF O O O bF<|Asg O<|aa<|ao<|Rr<|?_;exact cg 4 O O O O isAgg191 sizeOf191 aB (λw hw=>⟨rfl,ae hw⟩)
theorem zw(a s:Zp)(hs:PUR 214 [EV (RS4 a)] (.tuple #[EV s,.bool true])):PUR 192 [EV a,.bool false] (.tuple #[JV (a,s,1),.bool true]):=by
 intro w hw;refine Hf func192 O hw<|λhGF=>Xp<|Bx 2 hGF O<|λb2=>Al 4 hGF fJ<|λb4=>Asg O<|aa<|Xp<|La 2 O O aR<|Ca O (ry _)<|Ca O (hs)<|Mv O<|Exq O O<|Exq O O<|Al 6 hGF zv189<|λb6=>Sa 6 hGF O O O aR<|Asg O<|aa<|ah<|Xp<|Mv O<|bU O (λ_=>bM _) O O<|aa<|aH O<|aw<|ah<|Xp<|Mv O<|aa<|aH O<|aw<|Xp<|La 2 O O aR<|La 6 O O aR<|Ca O (Li _ _)<|Sa 4 hGF O O O bF<|Asg O<|aa<|ao<|Rr<|?_;exact cg 4 O O O O isAgg191 sizeOf191 aB (λw hw=>⟨rfl,ae hw⟩)
theorem yM(a s:Zp)(hs:PUR 214 [EV (RS4 a)] (.tuple #[EV s,.bool false])):PUR 192 [EV a,.bool false] (.tuple #[JV (0,0,0),.bool false]):=by
 intro w hw;refine Hf func192 O hw<|λhGF=>Xp<|Bx 2 hGF O<|λb2=>Al 4 hGF fJ<|λb4=>Asg O<|aa<|Xp<|La 2 O O aR<|Ca O (ry _)<|Ca O (hs)<|Mv O<|Exq O O<|Exq O O<|Al 6 hGF zv189<|λb6=>Sa 6 hGF O O O aR<|Asg O<|aa<|ah<|Xp<|Mv O<|bU O (λ_=>bM _) O O<|aa<|aP O<|Xp<|gr fT O O<|Sa 4 hGF O O O bF<|Asg O<|aa<|ao<|Rr<|?_;exact cg 4 O O O O isAgg191 sizeOf191 aB (λw hw=>⟨rfl,ae hw⟩)
end J1
end
end Go.Proofs.YtfakhlafilbjkaaGreatDoor
