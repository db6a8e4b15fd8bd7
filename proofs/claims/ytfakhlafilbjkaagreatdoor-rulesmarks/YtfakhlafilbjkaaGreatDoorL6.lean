/- L6 -/
import Derived.Test.YtfakhlafilbjkaaGreatDoorL5
import Derived.Test.YtfakhlafilbjkaaGreatDoorM1
set_option maxRecDepth 100000
set_option maxHeartbeats 1000000
namespace Go.Proofs.YtfakhlafilbjkaaGreatDoor
section
open Go.RowKit
attribute [local simp] dR fN bO bq dv cy cz bZ dZ PLl l8 lB N1l lW lQ mD eN f8
end
section
open Go.RowKit
attribute [local simp] dR fN bO bq dv cy cz bZ dZ PLl l8 lB N1l lW lQ mD eN f8
end
theorem DT{a:Zp}(h:a≠0):(-a).val=PP-a.val:=by
 have h0:a.val≠0:=λe=>h (Fin.ext e);have hl:=a.isLt;have e:zp (PP-a.val)+a=0:=by
  have:zp (PP-a.val)+zp a.val=0:=by rw[<-lh,show PP-a.val+a.val=PP by omega,zo]
  rw[EQ]at this;exact this
 have e2: -a=zp (PP-a.val):=by grind
 rw[e2,gi,Nat.mod_eq_of_lt om]
theorem LD{a:Zp}(h:SQr a*SQr a=a):SQ a*SQ a=a:=by
 rw[SQ,if_pos h,SQn];split
 ·grind
 ·exact h
theorem tV{a:Zp}(h:SQr a*SQr a=a): ¬hf<(SQ a).val:=by
 rw[SQ,if_pos h,SQn];split
 ·rename_i h1
  have h0:SQr a≠0:=λe=>by rw[e]at h1;exact absurd h1 (Nat.not_lt_zero _)
  rw[DT h0];have:=Hk;omega
 ·rename_i h1;exact h1
abbrev W2:=Zp×Zp
def ad2(x y:W2):W2:=(x.1+y.1,x.2+y.2)
def ng2(x:W2):W2:=(-x.1,-x.2)
def ml2(x y:W2):W2:=(x.1*y.1-x.2*y.2,x.1*y.2+x.2*y.1)
def on2:W2:=(1,0)
def ze2:W2:=(0,0)
theorem j2{x y:W2}(h1:x.1=y.1)(h2:x.2=y.2):x=y:=Prod.ext h1 h2
def R2:Rg W2 where
 zero:=ze2
 one:=on2
 add:=ad2
 mul:=ml2
 neg:=ng2
 add_assoc:=λa b c=>j2 (by simp only[ad2];grind) (by simp only[ad2];grind)
 add_comm:=λa b=>j2 (by simp only[ad2];grind) (by simp only[ad2];grind)
 add_zero:=λa=>j2 (by simp only[ad2,ze2];grind) (by simp only[ad2,ze2];grind)
 add_neg:=λa=>j2 (by simp only[ad2,ng2,ze2];grind) (by simp only[ad2,ng2,ze2];grind)
 mul_assoc:=λa b c=>j2 (by simp only[ml2];grind) (by simp only[ml2];grind)
 mul_comm:=λa b=>j2 (by simp only[ml2];grind) (by simp only[ml2];grind)
 mul_one:=λa=>j2 (by simp only[ml2,on2];grind) (by simp only[ml2,on2];grind)
 mul_add:=λa b c=>j2 (by simp only[ml2,ad2];grind) (by simp only[ml2,ad2];grind)
/-! ### -1 is no square -/
theorem z_m0(a:Zp):a*0=0:=by grind
/-! ### Powers -/
def pw2(x:W2)(n:Nat):W2:=R2.pw x n
theorem z_0m(a:Zp):0*a=0:=by grind
/-! ### Roots -/
/-! ### Equality, signs -/
/-! ### Powers by digits -/
def fe2(x:W2):L6:=fe x.1++fe x.2
theorem i4(x:W2):(fe2 x).length=12:=by rw[fe2,List.length_append,dR,dR]
def SP2(x:W2)(i:Nat):L6:=FM (λj=>if j<i then fe2 (pw2 x j)else fe2 ze2) 16
theorem jg(x:W2)(i:Nat):(SP2 x i).length=192:=jG _ _
/-! ### Roots -/
section
open Go.RowKit
attribute [local simp] dR fN bO bq dv cy cz bZ dZ PLl l8 lB N1l lW lQ mD eN f8 i4 jg jG
theorem e2{a b c d:Zp}(h1:a=c)(h2:b=d):Ending.returned (bd (fe a++fe b))=.returned (bd (fe c++fe d)):=by rw[h1,h2]
theorem rb{a b:Bool}(h:a=b):Ending.returned (.bool a)=.returned (.bool b):=by rw[h]
end
section
open Go.RowKit
attribute [local simp] dR fN bO bq dv cy cz bZ dZ PLl l8 lB N1l lW lQ mD eN f8 i4 jg jG
end
def XI:W2:=(1,1)
abbrev W6:=W2×W2×W2
def K6:Rg W6:=Rg.cub R2 XI
def VV:W6:=(ze2,on2,ze2)
abbrev W12:=W6×W6
def K12:Rg W12:=Rg.quad K6 VV
def th:Nat:=(PP-1) / 3
def sx:Nat:=(PP-1) / 6
/-! ### The power of p -/
def wk(k:Nat):W12:=K12.pw ((ze2,ze2,ze2),(on2,ze2,ze2)) k
/-! ### Six parts, as the reference multiplies them -/
section
variable {α:Type} [DecidableEq α] (C:Ec α)
end
/-! ### Over p -/
def RZp:Rg Zp where
 zero:=0
 one:=1
 add:=λa b=>a+b
 mul:=λa b=>a*b
 neg:=λa=> -a
 add_assoc:=λa b c=>by grind
 add_comm:=λa b=>by grind
 add_zero:=λa=>by grind
 add_neg:=λa=>by grind
 mul_assoc:=λa b c=>by grind
 mul_comm:=λa b=>by grind
 mul_one:=λa=>by grind
 mul_add:=λa b c=>by grind
def E1:Ec Zp where
 R:=RZp
 iv:=λa=>a^(PP-2)
 b:=zp 4
 hi:=λ_ h=>Gz h
 h2:=by decide+kernel
 h3:=by decide+kernel
 hb:=by decide+kernel
structure Em{α β:Type}(C:Ec α)(D:Ec β) where
 f:α->β
 h0:f C.R.zero=D.R.zero
 ha: ∀a b,f (C.R.add a b)=D.R.add (f a) (f b)
 hm: ∀a b,f (C.R.mul a b)=D.R.mul (f a) (f b)
 hn: ∀a,f (C.R.neg a)=D.R.neg (f a)
 hi: ∀a b,f a=f b->a=b
 hb:f C.b=D.b
section
variable {α β:Type} {C:Ec α} {D:Ec β} (e:Em C D)
def Em.q(p:α×α):β×β:=(e.f p.1,e.f p.2)
def Em.p:Pt α->Pt β
 |none=>none
 |some p=>some (e.q p)
theorem Em.sub(a b:α):e.f (C.sub a b)=D.sub (e.f a) (e.f b):=by rw[Ec.sub,Ec.sub,e.ha,e.hn]
theorem Em.on{p:α×α}(h:C.on p):D.on (e.q p):=by
 have:=congrArg e.f h;rw[e.hm,e.ha,e.hm,e.hm,e.hb]at this;exact this
theorem Em.onP{P:Pt α}(h:C.onP P):D.onP (e.p P):=by
 cases P with
 |none=>trivial
 |some p=>exact e.on h
theorem Em.sl{p q:α×α}{s:α}(h:C.Sl p q s):D.Sl (e.q p) (e.q q) (e.f s):=by
 have h1:=congrArg e.f h.1;have h2:=congrArg e.f h.2;rw[e.hm,e.sub,e.sub]at h1;rw[e.hm,e.ha,e.ha,e.ha,e.hm,e.hm,e.hm]at h2;exact ⟨h1,h2⟩
theorem Em.opp{p q:α×α}:D.opp (e.q p) (e.q q)↔C.opp p q:=
 ⟨λh=>⟨e.hi _ _ h.1,e.hi _ _ (by rw[e.ha,e.h0];exact h.2)⟩,λh=>⟨congrArg e.f h.1,by
  have:=congrArg e.f h.2;rw[e.ha,e.h0]at this;exact this⟩⟩
theorem Em.th(p q:α×α)(s:α):D.th (e.q p) (e.q q) (e.f s)=e.q (C.th p q s):=by
 have hx:D.x3 (e.q p) (e.q q) (e.f s)=e.f (C.x3 p q s):=by rw[Ec.x3,Ec.x3,e.sub,e.sub,e.hm];rfl
 refine Prod.ext hx ?_;show D.sub (D.R.mul (e.f s) (D.sub (e.f p.1) (D.x3 (e.q p) (e.q q) (e.f s)))) (e.f p.2)=e.f (C.sub (C.R.mul s (C.sub p.1 (C.x3 p q s))) p.2);rw[hx,e.sub,e.hm,e.sub]
theorem Em.ne(P:Pt α):e.p (C.ne P)=D.ne (e.p P):=by
 cases P with
 |none=>rfl
 |some p=>exact congrArg some (Prod.ext O (e.hn _))
theorem Em.inj{P Q:Pt α}(h:e.p P=e.p Q):P=Q:=by
 cases P with
 |none=>
  cases Q with
  |none=>rfl
  |some q=>cases h
 |some p=>
  cases Q with
  |none=>cases h
  |some q=>
   have h:=Option.some.inj h;exact congrArg some (Prod.ext (e.hi _ _ (congrArg Prod.fst h)) (e.hi _ _ (congrArg Prod.snd h)))
theorem Em.jr{J:α×α×α}{P:Pt α}(h:C.jr J P):D.jr (e.f J.1,e.f J.2.1,e.f J.2.2) (e.p P):=by
 cases P with
 |none=>exact (congrArg e.f h).trans e.h0
 |some p=>
  refine ⟨λh'=>h.1 (e.hi _ _ (h'.trans e.h0.symm)), ?_, ?_⟩
  ·have:=congrArg e.f h.2.1
   rw[e.hm,Ec.z2,e.hm]at this;exact this
  ·have:=congrArg e.f h.2.2
   rw[e.hm,Ec.z3,e.hm,e.hm]at this;exact this
end
section
variable {α β:Type} [DecidableEq α] [DecidableEq β] {C:Ec α} {D:Ec β} (e:Em C D)
theorem Em.ad{P Q:Pt α}(hP:C.onP P)(hQ:C.onP Q):e.p (C.ad P Q)=D.ad (e.p P) (e.p Q):=by
 cases P with
 |none=>rfl
 |some p=>
  cases Q with
  |none=>rw[C.ad_nr];exact (D.ad_nr _).symm
  |some q=>
   by_cases ho:C.opp p q
   ·rw[C.ad_opp ho];exact (D.ad_opp (e.opp.2 ho)).symm
   ·obtain ⟨s,hs⟩:=C.sl_is hP hQ ho
    rw[C.ad_sl hP hQ ho hs];exact ((D.ad_sl (e.on hP) (e.on hQ) (λh=>ho (e.opp.1 h)) (e.sl hs)).trans (congrArg some (e.th p q s))).symm
theorem Em.times{P:Pt α}(hP:C.onP P): ∀n,e.p (C.times P n)=D.times (e.p P) n
 |0=>rfl
 |n+1=>by
  show e.p (C.ad (C.times P n) P)=D.ad (D.times (e.p P) n) (e.p P);rw[e.ad (C.times_on hP n) hP,Em.times hP n]
end
theorem Le(a:Zp):a+0=a:=by grind
section
variable {α:Type} (C:Ec α)
theorem Ec.jr_z{J:α×α×α}{P:Pt α}(h:C.jr J P):J.2.2=C.R.zero↔P=none:=by
 cases P with
 |none=>exact ⟨λ_=>rfl,λ_=>h⟩
 |some p=>exact ⟨λe=>absurd e h.1,λe=>by cases e⟩
theorem Ec.jr_at(p:α×α)(h1:C.R.one≠C.R.zero):C.jr (p.1,p.2,C.R.one) (some p):=by
 refine ⟨h1, ?_, ?_⟩
 ·show p.1=C.R.mul p.1 (C.R.mul C.R.one C.R.one)
  rw[C.R.mul_one,C.R.mul_one]
 ·show p.2=C.R.mul p.2 (C.R.mul (C.R.mul C.R.one C.R.one) C.R.one)
  rw[C.R.mul_one,C.R.mul_one,C.R.mul_one]
end
section
variable {α:Type} [DecidableEq α] (C:Ec α)
end
section
open Go.RowKit
attribute [local simp] dR fN bO bq dv cy cz bZ dZ PLl l8 lB N1l lW lQ mD eN f8 i4 jg jG
end
section
open Go.RowKit
attribute [local simp] dR fN bO bq dv cy cz bZ dZ PLl l8 lB N1l lW lQ mD eN f8 i4 jg jG
def RRL:L6:=[18446744069414584321#64,6034159408538082302#64,3691218898639771653#64,8353516859464449352#64,0#64,0#64]
def RB48:L8:=BYs RRL 48
theorem B5:RB48.length=48:=by decide+kernel
theorem Dq:RRL.length=6:=rfl
attribute [local simp] B5 Dq
end
section
variable {α:Type} [DecidableEq α] {C:Ec α} (T:Tw C)
end
/-! ### The first curve -/
def TRN:Nat:=0x5f19672fdf76ce51ba69c6076a0f77eaddb3a93be6f89688de17d813620a00022e01fffffffefffe
end Go.Proofs.YtfakhlafilbjkaaGreatDoor
