/- M1 -/
import Derived.Test.YtfakhlafilbjkaaGreatDoorM0
set_option maxRecDepth 100000
set_option maxHeartbeats 1000000
namespace Go.Proofs.YtfakhlafilbjkaaGreatDoor
section
variable {α:Type} (C:Ec α)
def Ec.z2(z:α):α:=C.R.mul z z
def Ec.z3(z:α):α:=C.R.mul (C.R.mul z z) z
def Ec.jr(J:α×α×α):Pt α->Prop
 |none=>J.2.2=C.R.zero
 |some p=>J.2.2≠C.R.zero/\J.1=C.R.mul p.1 (C.z2 J.2.2)/\J.2.1=C.R.mul p.2 (C.z3 J.2.2)
theorem Ec.z2_ne{z:α}(h:z≠C.R.zero):C.z2 z≠C.R.zero:=λe=>h (C.fd.sq e)
theorem Ec.z3_ne{z:α}(h:z≠C.R.zero):C.z3 z≠C.R.zero:=λe=>(C.fd.two e).elim (λe=>h (C.fd.sq e)) h
theorem Ec.mul_ne{a b:α}(ha:a≠C.R.zero)(hb:b≠C.R.zero):C.R.mul a b≠C.R.zero:=λe=>(C.fd.two e).elim ha hb
theorem Ec.mul_can{a b c:α}(hc:c≠C.R.zero)(h:C.R.mul a c=C.R.mul b c):a=b:=by
 have e:C.R.mul (C.sub a b) c=C.R.zero:=by
  rw[Ec.sub,C.R.add_mul,C.R.neg_mul,h,C.R.add_neg]
 exact C.sub0 ((C.fd.two e).resolve_right hc)
theorem Ec.dbl0{y:α}(h:C.R.add y y=C.R.zero):y=C.R.zero:=by
 have e:C.R.mul (C.R.add C.R.one C.R.one) y=C.R.zero:=by rw[C.R.add_mul,C.R.one_mul,h]
 exact (C.fd.two e).resolve_left C.h2
def Ec.jd(X Y Z:α):α×α×α:=((C.sub (C.sub (C.R.mul (C.R.add (C.R.add (C.R.mul X X) (C.R.mul X X)) (C.R.mul X X)) (C.R.add (C.R.add (C.R.mul X X) (C.R.mul X X)) (C.R.mul X X))) (C.R.add (C.R.add (C.R.mul X (C.R.mul Y Y)) (C.R.mul X (C.R.mul Y Y))) (C.R.add (C.R.mul X (C.R.mul Y Y)) (C.R.mul X (C.R.mul Y Y))))) (C.R.add (C.R.add (C.R.mul X (C.R.mul Y Y)) (C.R.mul X (C.R.mul Y Y))) (C.R.add (C.R.mul X (C.R.mul Y Y)) (C.R.mul X (C.R.mul Y Y))))),(C.sub (C.R.mul (C.R.add (C.R.add (C.R.mul X X) (C.R.mul X X)) (C.R.mul X X)) (C.sub (C.R.add (C.R.add (C.R.mul X (C.R.mul Y Y)) (C.R.mul X (C.R.mul Y Y))) (C.R.add (C.R.mul X (C.R.mul Y Y)) (C.R.mul X (C.R.mul Y Y)))) (C.sub (C.sub (C.R.mul (C.R.add (C.R.add (C.R.mul X X) (C.R.mul X X)) (C.R.mul X X)) (C.R.add (C.R.add (C.R.mul X X) (C.R.mul X X)) (C.R.mul X X))) (C.R.add (C.R.add (C.R.mul X (C.R.mul Y Y)) (C.R.mul X (C.R.mul Y Y))) (C.R.add (C.R.mul X (C.R.mul Y Y)) (C.R.mul X (C.R.mul Y Y))))) (C.R.add (C.R.add (C.R.mul X (C.R.mul Y Y)) (C.R.mul X (C.R.mul Y Y))) (C.R.add (C.R.mul X (C.R.mul Y Y)) (C.R.mul X (C.R.mul Y Y))))))) (C.R.add (C.R.add (C.R.add (C.R.mul (C.R.mul Y Y) (C.R.mul Y Y)) (C.R.mul (C.R.mul Y Y) (C.R.mul Y Y))) (C.R.add (C.R.mul (C.R.mul Y Y) (C.R.mul Y Y)) (C.R.mul (C.R.mul Y Y) (C.R.mul Y Y)))) (C.R.add (C.R.add (C.R.mul (C.R.mul Y Y) (C.R.mul Y Y)) (C.R.mul (C.R.mul Y Y) (C.R.mul Y Y))) (C.R.add (C.R.mul (C.R.mul Y Y) (C.R.mul Y Y)) (C.R.mul (C.R.mul Y Y) (C.R.mul Y Y)))))),(C.R.add (C.R.mul Y Z) (C.R.mul Y Z)))
theorem Ec.jd_x{p:α×α}{Z l:α}(h:C.R.mul l (C.R.add p.2 p.2)=C.R.add (C.R.add (C.R.mul p.1 p.1) (C.R.mul p.1 p.1)) (C.R.mul p.1 p.1)):
 (C.jd (C.R.mul p.1 (C.z2 Z)) (C.R.mul p.2 (C.z3 Z)) Z).1=C.R.mul (C.x3 p p l) (C.z2 (C.jd (C.R.mul p.1 (C.z2 Z)) (C.R.mul p.2 (C.z3 Z)) Z).2.2):=
 zk C.R [p.1,p.2,Z,l] 0x445445565885658855658856588556588565884455658856588556588565885565885658834455658855755888575588855658855755888575588845565885575588857558885565885575588857558883445565885575588857558885565885575588857558884556588557558885755888556588557558885755888 0x5445993636545575588885575588884557558888557558888 0x355588588444556588565885565885658855658856588594557558888557558888 0x44566566566 0x59477 h
theorem Ec.jd_y{p:α×α}{Z l:α}(h:C.R.mul l (C.R.add p.2 p.2)=C.R.add (C.R.add (C.R.mul p.1 p.1) (C.R.mul p.1 p.1)) (C.R.mul p.1 p.1)):
 (C.jd (C.R.mul p.1 (C.z2 Z)) (C.R.mul p.2 (C.z3 Z)) Z).2.1=C.R.mul (C.th p p l).2 (C.z3 (C.jd (C.R.mul p.1 (C.z2 Z)) (C.R.mul p.2 (C.z3 Z)) Z).2.2):=
 zk C.R [p.1,p.2,Z,l] 0x4544556588565885565885658855658856588444556588557558885755888556588557558885755888455658855755888575588855658855755888575588834454455658856588556588565885565885658844556588565885565885658855658856588344556588557558885755888556588557558885755888455658855755888575588855658855755888575588834455658855755888575588855658855755888575588845565885575588857558885565885575588857558883444555755888575588855755888575588855575588857558885575588857558884555755888575588855755888575588855575588857558885575588857558884455575588857558885575588857558885557558885755888557558885755888455575588857558885575588857558885557558885755888557558885755888 0x54594634459936363755455755888855755888845575588885575588884557558888557558888 0x43555885884445565885575588857558885565885575588857558884556588557558885755888556588557558885755888344544556588565885565885658855658856588445565885658855658856588556588565883445565885575588857558885565885575588857558884556588557558885755888556588557558885755888344556588557558885755888556588557558885755888455658855755888575588855658855755888575588835594557558888557558888355588588444556588565885565885658855658856588594557558888557558888 0x44566566566 0x59477 h
def Ec.jh(X Z X' Z':α):α:=(C.sub (C.R.mul X' (C.R.mul Z Z)) (C.R.mul X (C.R.mul Z' Z')))
def Ec.jq(Y Z Y' Z':α):α:=(C.sub (C.R.mul (C.R.mul Y' (C.R.mul Z Z)) Z) (C.R.mul (C.R.mul Y (C.R.mul Z' Z')) Z'))
def Ec.ja(X Y Z X' Y' Z':α):α×α×α:=((C.sub (C.sub (C.sub (C.R.mul (C.sub (C.R.mul (C.R.mul Y' (C.R.mul Z Z)) Z) (C.R.mul (C.R.mul Y (C.R.mul Z' Z')) Z')) (C.sub (C.R.mul (C.R.mul Y' (C.R.mul Z Z)) Z) (C.R.mul (C.R.mul Y (C.R.mul Z' Z')) Z'))) (C.R.mul (C.R.mul (C.sub (C.R.mul X' (C.R.mul Z Z)) (C.R.mul X (C.R.mul Z' Z'))) (C.sub (C.R.mul X' (C.R.mul Z Z)) (C.R.mul X (C.R.mul Z' Z')))) (C.sub (C.R.mul X' (C.R.mul Z Z)) (C.R.mul X (C.R.mul Z' Z'))))) (C.R.mul (C.R.mul X (C.R.mul Z' Z')) (C.R.mul (C.sub (C.R.mul X' (C.R.mul Z Z)) (C.R.mul X (C.R.mul Z' Z'))) (C.sub (C.R.mul X' (C.R.mul Z Z)) (C.R.mul X (C.R.mul Z' Z')))))) (C.R.mul (C.R.mul X (C.R.mul Z' Z')) (C.R.mul (C.sub (C.R.mul X' (C.R.mul Z Z)) (C.R.mul X (C.R.mul Z' Z'))) (C.sub (C.R.mul X' (C.R.mul Z Z)) (C.R.mul X (C.R.mul Z' Z')))))),(C.sub (C.R.mul (C.sub (C.R.mul (C.R.mul Y' (C.R.mul Z Z)) Z) (C.R.mul (C.R.mul Y (C.R.mul Z' Z')) Z')) (C.sub (C.R.mul (C.R.mul X (C.R.mul Z' Z')) (C.R.mul (C.sub (C.R.mul X' (C.R.mul Z Z)) (C.R.mul X (C.R.mul Z' Z'))) (C.sub (C.R.mul X' (C.R.mul Z Z)) (C.R.mul X (C.R.mul Z' Z'))))) (C.sub (C.sub (C.sub (C.R.mul (C.sub (C.R.mul (C.R.mul Y' (C.R.mul Z Z)) Z) (C.R.mul (C.R.mul Y (C.R.mul Z' Z')) Z')) (C.sub (C.R.mul (C.R.mul Y' (C.R.mul Z Z)) Z) (C.R.mul (C.R.mul Y (C.R.mul Z' Z')) Z'))) (C.R.mul (C.R.mul (C.sub (C.R.mul X' (C.R.mul Z Z)) (C.R.mul X (C.R.mul Z' Z'))) (C.sub (C.R.mul X' (C.R.mul Z Z)) (C.R.mul X (C.R.mul Z' Z')))) (C.sub (C.R.mul X' (C.R.mul Z Z)) (C.R.mul X (C.R.mul Z' Z'))))) (C.R.mul (C.R.mul X (C.R.mul Z' Z')) (C.R.mul (C.sub (C.R.mul X' (C.R.mul Z Z)) (C.R.mul X (C.R.mul Z' Z'))) (C.sub (C.R.mul X' (C.R.mul Z Z)) (C.R.mul X (C.R.mul Z' Z')))))) (C.R.mul (C.R.mul X (C.R.mul Z' Z')) (C.R.mul (C.sub (C.R.mul X' (C.R.mul Z Z)) (C.R.mul X (C.R.mul Z' Z'))) (C.sub (C.R.mul X' (C.R.mul Z Z)) (C.R.mul X (C.R.mul Z' Z')))))))) (C.R.mul (C.R.mul (C.R.mul Y (C.R.mul Z' Z')) Z') (C.R.mul (C.R.mul (C.sub (C.R.mul X' (C.R.mul Z Z)) (C.R.mul X (C.R.mul Z' Z'))) (C.sub (C.R.mul X' (C.R.mul Z Z)) (C.R.mul X (C.R.mul Z' Z')))) (C.sub (C.R.mul X' (C.R.mul Z Z)) (C.R.mul X (C.R.mul Z' Z')))))),(C.R.mul (C.R.mul Z Z') (C.sub (C.R.mul X' (C.R.mul Z Z)) (C.R.mul X (C.R.mul Z' Z')))))
theorem Ec.jh_eq(p q:α×α)(Z Z':α):C.jh (C.R.mul p.1 (C.z2 Z)) Z (C.R.mul q.1 (C.z2 Z')) Z'=C.R.mul (C.R.mul (C.z2 Z) (C.z2 Z')) (C.sub q.1 p.1):=zx C.R [p.1,p.2,Z,q.1,q.2,Z'] 0x45595bb58835565885bb 0x555885bb4936
theorem Ec.jq_eq(p q:α×α)(Z Z':α):C.jq (C.R.mul p.2 (C.z3 Z)) Z (C.R.mul q.2 (C.z3 Z')) Z'=C.R.mul (C.R.mul (C.z3 Z) (C.z3 Z')) (C.sub q.2 p.2):=zx C.R [p.1,p.2,Z,q.1,q.2,Z'] 0x4555a55bbb588835557558885bbb 0x555588855bbb4a37
theorem Ec.ja_x{p q:α×α}{Z Z' l:α}(h:C.R.mul l (C.sub p.1 q.1)=C.sub p.2 q.2):(C.ja (C.R.mul p.1 (C.z2 Z)) (C.R.mul p.2 (C.z3 Z)) Z (C.R.mul q.1 (C.z2 Z')) (C.R.mul q.2 (C.z3 Z')) Z').1=C.R.mul (C.x3 p q l) (C.z2 (C.ja (C.R.mul p.1 (C.z2 Z)) (C.R.mul p.2 (C.z3 Z)) Z (C.R.mul q.1 (C.z2 Z')) (C.R.mul q.2 (C.z3 Z')) Z').2.2):=
 zk C.R [p.1,p.2,Z,q.1,q.2,Z',l] 0x44454555a55bbb588835557558885bbb4555a55bbb588835557558885bbb35545595bb58835565885bb45595bb58835565885bb45595bb58835565885bb355565885bb545595bb58835565885bb45595bb58835565885bb355565885bb545595bb58835565885bb45595bb58835565885bb 0x5445cc36395558b45595bb58835565885bb558b45595bb58835565885bb 0x55558b58b58b44555a55bbb588835557558885bbb5c558b45595bb58835565885bb 0x473a 0x5c4639 h
theorem Ec.ja_y{p q:α×α}{Z Z' l:α}(h:C.R.mul l (C.sub p.1 q.1)=C.sub p.2 q.2):(C.ja (C.R.mul p.1 (C.z2 Z)) (C.R.mul p.2 (C.z3 Z)) Z (C.R.mul q.1 (C.z2 Z')) (C.R.mul q.2 (C.z3 Z')) Z').2.1=C.R.mul (C.th p q l).2 (C.z3 (C.ja (C.R.mul p.1 (C.z2 Z)) (C.R.mul p.2 (C.z3 Z)) Z (C.R.mul q.1 (C.z2 Z')) (C.R.mul q.2 (C.z3 Z')) Z').2.2):=
 zk C.R [p.1,p.2,Z,q.1,q.2,Z',l] 0x454555a55bbb588835557558885bbb455565885bb545595bb58835565885bb45595bb58835565885bb344454555a55bbb588835557558885bbb4555a55bbb588835557558885bbb35545595bb58835565885bb45595bb58835565885bb45595bb58835565885bb355565885bb545595bb58835565885bb45595bb58835565885bb355565885bb545595bb58835565885bb45595bb58835565885bb355557558885bbb5545595bb58835565885bb45595bb58835565885bb45595bb58835565885bb 0x545c463445cc36393755558b45595bb58835565885bb558b45595bb58835565885bb558b45595bb58835565885bb 0x455558b58b58b455565885bb545595bb58835565885bb45595bb58835565885bb344454555a55bbb588835557558885bbb4555a55bbb588835557558885bbb35545595bb58835565885bb45595bb58835565885bb45595bb58835565885bb355565885bb545595bb58835565885bb45595bb58835565885bb355565885bb545595bb58835565885bb45595bb58835565885bb355c558b45595bb58835565885bb55558b58b58b44555a55bbb588835557558885bbb5c558b45595bb58835565885bb 0x473a 0x5c4639 h
theorem Ec.jr_n{J:α×α×α}{P:Pt α}(h:C.jr J P):C.jr (J.1,C.R.neg J.2.1,J.2.2) (C.ne P):=by
 cases P with
 |none=>exact h
 |some p=>exact ⟨h.1,h.2.1,by
  show C.R.neg J.2.1=C.R.mul (C.R.neg p.2) (C.z3 J.2.2);rw[h.2.2,C.R.neg_mul]⟩
end
section
variable {α:Type} [DecidableEq α] (C:Ec α)
def Ec.jdF(J:α×α×α):α×α×α:=if J.2.2=C.R.zero\/J.2.1=C.R.zero then (C.R.zero,C.R.zero,C.R.zero)else C.jd J.1 J.2.1 J.2.2
theorem Ec.jr_d{J:α×α×α}{P:Pt α}(hP:C.onP P)(h:C.jr J P):C.jr (C.jdF J) (C.ad P P):=by
 cases P with
 |none=>
  rw[Ec.jdF,if_pos (.inl h)];rfl
 |some p=>
  obtain ⟨hz,hx,hy⟩:=h;obtain ⟨X,Y,Z⟩:=J;simp only at hz hx hy;by_cases hp:p.2=C.R.zero
  ·have hy0:Y=C.R.zero:=by rw[hy,hp,C.R.zero_mul]
   rw[Ec.jdF,if_pos (.inr hy0),C.ad_opp ⟨rfl,by rw[hp,C.R.add_zero]⟩];rfl
  ·have hY:Y≠C.R.zero:=by rw[hy];exact C.mul_ne hp (C.z3_ne hz)
   have ho: ¬C.opp p p:=λe=>hp (C.dbl0 e.2);have hs:=C.sl_slope hP hP ho;rw[Ec.jdF,if_neg (λe=>e.elim hz hY),C.ad_sl hP hP ho hs];subst hx hy;refine ⟨?_,C.jd_x hs.2,C.jd_y hs.2⟩;intro e;exact (C.mul_ne hY hz) (C.dbl0 e)
def Ec.jaF(J K:α×α×α):α×α×α:=
 if J.2.2=C.R.zero then K else if K.2.2=C.R.zero then J else
  if C.jh J.1 J.2.2 K.1 K.2.2=C.R.zero then (if C.jq J.2.1 J.2.2 K.2.1 K.2.2=C.R.zero then C.jdF J else (C.R.zero,C.R.zero,C.R.zero))else C.ja J.1 J.2.1 J.2.2 K.1 K.2.1 K.2.2
theorem Ec.jr_a{J K:α×α×α}{P Q:Pt α}(hP:C.onP P)(hQ:C.onP Q)(h:C.jr J P)(k:C.jr K Q):C.jr (C.jaF J K) (C.ad P Q):=by
 cases P with
 |none=>rw[Ec.jaF,if_pos (show J.2.2=C.R.zero from h)];exact k
 |some p=>
  cases Q with
  |none=>rw[Ec.jaF,if_neg h.1,if_pos (show K.2.2=C.R.zero from k)];exact h
  |some q=>
   obtain ⟨X,Y,Z⟩:=J;obtain ⟨X',Y',Z'⟩:=K;have h':=h;obtain ⟨hz,hx,hy⟩:=h;obtain ⟨kz,kx,ky⟩:=k;simp only at hz hx hy kz kx ky;rw[Ec.jaF,if_neg hz,if_neg kz];show C.jr (if C.jh X Z X' Z'=C.R.zero then (if C.jq Y Z Y' Z'=C.R.zero then C.jdF (X,Y,Z)else (C.R.zero,C.R.zero,C.R.zero))else C.ja X Y Z X' Y' Z') (C.ad (some p) (some q))
   have ex:C.jh X Z X' Z'=C.R.zero↔p.1=q.1:=by
    rw[hx,kx,C.jh_eq];refine ⟨λe=>(C.sub0 ((C.fd.two e).resolve_left (C.mul_ne (C.z2_ne hz) (C.z2_ne kz)))).symm,λe=>by rw[e,C.sub_self,C.R.mul_zero]⟩
   have ey:C.jq Y Z Y' Z'=C.R.zero↔p.2=q.2:=by
    rw[hy,ky,C.jq_eq];refine ⟨λe=>(C.sub0 ((C.fd.two e).resolve_left (C.mul_ne (C.z3_ne hz) (C.z3_ne kz)))).symm,λe=>by rw[e,C.sub_self,C.R.mul_zero]⟩
   by_cases hxe:p.1=q.1
   ·rw[if_pos (ex.2 hxe)]
    by_cases hye:p.2=q.2
    ·rw[if_pos (ey.2 hye)]
     obtain rfl:p=q:=Prod.ext hxe hye;exact C.jr_d hP h'
    ·rw[if_neg (λe=>hye (ey.1 e))]
     by_cases ho:C.opp p q
     ·rw[C.ad_opp ho];rfl
     ·exact absurd (by
       have hs:=(C.sl_slope hP hQ ho).1;rw[hxe,C.sub_self,C.R.mul_zero]at hs;exact C.sub0 hs.symm) hye
   ·rw[if_neg (λe=>hxe (ex.1 e))]
    have ho: ¬C.opp p q:=λe=>hxe e.1;have hs:=C.sl_slope hP hQ ho;rw[C.ad_sl hP hQ ho hs];have hh:C.jh X Z X' Z'≠C.R.zero:=λe=>hxe (ex.1 e);subst hx hy kx ky;exact ⟨C.mul_ne (C.mul_ne hz kz) hh,C.ja_x hs.1,C.ja_y hs.1⟩
end
structure Hw{α β:Type}(C:Ec α)(D:Ec β) where
 f:α->β
 w:β
 fa: ∀a b,f (C.R.add a b)=D.R.add (f a) (f b)
 fm: ∀a b,f (C.R.mul a b)=D.R.mul (f a) (f b)
 fn: ∀a,f (C.R.neg a)=D.R.neg (f a)
 f0:f C.R.zero=D.R.zero
 fi: ∀a,f a=D.R.zero->a=C.R.zero
 wn:w≠D.R.zero
 wb:D.R.mul (D.R.mul (D.R.mul w (D.R.mul w w)) (D.R.mul w (D.R.mul w w))) (f C.b)=D.b
abbrev Tw{α:Type}(C:Ec α):=Hw C C
section
variable {α β:Type} {C:Ec α} {D:Ec β} (T:Hw C D)
def Hw.m(p:α×α):β×β:=(D.R.mul (D.R.mul T.w T.w) (T.f p.1),D.R.mul (D.R.mul T.w (D.R.mul T.w T.w)) (T.f p.2))
theorem Hw.fs(a b:α):T.f (C.sub a b)=D.sub (T.f a) (T.f b):=by
 show T.f (C.R.add a (C.R.neg b))=D.R.add (T.f a) (D.R.neg (T.f b));rw[T.fa,T.fn]
theorem Hw.inj{a b:α}(h:T.f a=T.f b):a=b:=C.sub0 (T.fi _ (by rw[T.fs,h,D.sub_self]))
theorem Hw.w2:D.R.mul T.w T.w≠D.R.zero:=λh=>(D.fd.two h).elim T.wn T.wn
theorem Hw.w3:D.R.mul T.w (D.R.mul T.w T.w)≠D.R.zero:=λh=>(D.fd.two h).elim T.wn T.w2
def Hw.p:Pt α->Pt β
 |none=>none
 |some q=>some (T.m q)
theorem Hw.sl{p q:α×α}{s:α}(h:C.Sl p q s):D.Sl (T.m p) (T.m q) (D.R.mul T.w (T.f s)):=by
 have k1:D.R.mul (T.f s) (D.sub (T.f p.1) (T.f q.1))=D.sub (T.f p.2) (T.f q.2):=by
  have e:=congrArg T.f h.1;rw[T.fm,T.fs,T.fs]at e;exact e
 have k2:D.R.mul (T.f s) (D.R.add (T.f p.2) (T.f q.2))=D.R.add (D.R.add (D.R.mul (T.f p.1) (T.f p.1)) (D.R.mul (T.f p.1) (T.f q.1))) (D.R.mul (T.f q.1) (T.f q.1)):=by
  have e:=congrArg T.f h.2;rw[T.fm,T.fa,T.fa,T.fa,T.fm,T.fm,T.fm]at e;exact e
 exact ⟨zk D.R [T.f p.1,T.f p.2,T.f q.1,T.f q.2,T.f s,T.w,T.f C.b,D.b] 0x55ba455bb6355bb8 0x455b5bb7355b5bb9 0x5b5bb 0x4739 0x5a4638 k1,zk D.R [T.f p.1,T.f p.2,T.f q.1,T.f q.2,T.f s,T.w,T.f C.b,D.b] 0x55ba455b5bb755b5bb9 0x44555bb655bb6555bb655bb8555bb855bb8 0x55bb5bb 0x44566568588 0x5a479 k2⟩
theorem Hw.th(p q:α×α)(s:α):D.th (T.m p) (T.m q) (D.R.mul T.w (T.f s))=T.m (C.th p q s):=by
 have ex:T.f (C.x3 p q s)=D.sub (D.sub (D.R.mul (T.f s) (T.f s)) (T.f p.1)) (T.f q.1):=by
  show T.f (C.sub (C.sub (C.R.mul s s) p.1) q.1)=_;rw[T.fs,T.fs,T.fm]
 have ey:T.f (C.sub (C.R.mul s (C.sub p.1 (C.x3 p q s))) p.2)=D.sub (D.R.mul (T.f s) (D.sub (T.f p.1) (D.sub (D.sub (D.R.mul (T.f s) (T.f s)) (T.f p.1)) (T.f q.1)))) (T.f p.2):=by
  rw[T.fs,T.fm,T.fs,ex]
 refine Prod.ext ?_ ?_
 ·show D.sub (D.sub (D.R.mul (D.R.mul T.w (T.f s)) (D.R.mul T.w (T.f s))) (D.R.mul (D.R.mul T.w T.w) (T.f p.1))) (D.R.mul (D.R.mul T.w T.w) (T.f q.1))=D.R.mul (D.R.mul T.w T.w) (T.f (C.x3 p q s))
  rw[ex];exact zx D.R [T.f p.1,T.f p.2,T.f q.1,T.f q.2,T.f s,T.w,T.f C.b,D.b] 0x4455ba5ba355bb6355bb8 0x55bb445aa3638
 ·show D.sub (D.R.mul (D.R.mul T.w (T.f s)) (D.sub (D.R.mul (D.R.mul T.w T.w) (T.f p.1)) (D.sub (D.sub (D.R.mul (D.R.mul T.w (T.f s)) (D.R.mul T.w (T.f s))) (D.R.mul (D.R.mul T.w T.w) (T.f p.1))) (D.R.mul (D.R.mul T.w T.w) (T.f q.1))))) (D.R.mul (D.R.mul T.w (D.R.mul T.w T.w)) (T.f p.2))=D.R.mul (D.R.mul T.w (D.R.mul T.w T.w)) (T.f (C.sub (C.R.mul s (C.sub p.1 (C.x3 p q s))) p.2))
  rw[ey];exact zx D.R [T.f p.1,T.f p.2,T.f q.1,T.f q.2,T.f s,T.w,T.f C.b,D.b] 0x455ba455bb634455ba5ba355bb6355bb8355b5bb7 0x55b5bb45a463445aa363837
theorem Hw.opp{p q:α×α}:D.opp (T.m p) (T.m q)↔C.opp p q:=by
 refine ⟨λh=>⟨?_, ?_⟩,λh=>⟨?_, ?_⟩⟩
 ·have e:D.R.mul (D.R.mul T.w T.w) (D.sub (T.f p.1) (T.f q.1))=D.R.zero:=zk D.R [T.f p.1,T.f p.2,T.f q.1,T.f q.2,T.f p.1,T.w,T.f C.b,D.b] 0x55bb4638 0x1 0x2 0x55bb8 0x55bb6 h.1
  exact T.inj (D.sub0 ((D.fd.two e).resolve_left T.w2))
 ·have e:D.R.mul (D.R.mul T.w (D.R.mul T.w T.w)) (D.R.add (T.f p.2) (T.f q.2))=D.R.zero:=zk D.R [T.f p.1,T.f p.2,T.f q.1,T.f q.2,T.f p.1,T.w,T.f C.b,D.b] 0x55b5bb479 0x1 0x2 0x1 0x455b5bb755b5bb9 h.2
  have k:=(D.fd.two e).resolve_left T.w3;rw[<-T.fa]at k;exact T.fi _ k
 ·show D.R.mul (D.R.mul T.w T.w) (T.f p.1)=D.R.mul (D.R.mul T.w T.w) (T.f q.1)
  rw[h.1]
 ·have k:D.R.add (T.f p.2) (T.f q.2)=D.R.zero:=by rw[<-T.fa,h.2,T.f0]
  exact zk D.R [T.f p.1,T.f p.2,T.f q.1,T.f q.2,T.f p.1,T.w,T.f C.b,D.b] 0x455b5bb755b5bb9 0x1 0x5b5bb 0x1 0x479 k
variable [DecidableEq α] [DecidableEq β]
end
/-! ### Points of one order -/
section
variable {α:Type} [DecidableEq α] (C:Ec α)
theorem Ec.can{P Q S:Pt α}(hP:C.onP P)(hQ:C.onP Q)(hS:C.onP S)(h:C.ad P Q=C.ad P S):Q=S:=by
 rw[<-C.undo hP hQ,h,C.undo hP hS]
end
def oL(p:Nat->Bool)(N:Nat):Nat->List Nat
 |0=>[]
 |m+1=>if p m=true then oL p N m++[N-1-m]else oL p N m
def vN(p:Nat->Bool):Nat->Nat
 |0=>0
 |m+1=>2*vN p m+(if p m=true then 1 else 0)
theorem Ef{p:Nat->Bool}{N m:Nat}(h:p m=true):oL p N (m+1)=oL p N m++[N-1-m]:=if_pos h
theorem GE{p:Nat->Bool}{N m:Nat}(h: ¬p m=true):oL p N (m+1)=oL p N m:=if_neg h
theorem Cx(p:Nat->Bool)(N k:Nat): ∀n,k<=n->∃r,oL p N n=oL p N k++r
 |0,h=>⟨[],by obtain rfl:k=0:=om
              rw[List.append_nil]⟩
 |n+1,h=>by
  rcases Nat.lt_or_ge n k with h'|h'
  ·obtain rfl:k=n+1:=om
   exact ⟨[],by rw[List.append_nil]⟩
  ·obtain ⟨r,hr⟩:=Cx p N k n h'
   by_cases hp:p n=true
   ·exact ⟨r++[N-1-n],by rw[Ef hp,hr,List.append_assoc]⟩
   ·exact ⟨r,by rw[GE hp,hr]⟩
theorem JH{p:Nat->Bool}{N k n:Nat}(hk:k<n)(h:p k=true):(oL p N n)[(oL p N k).length]? =some (N-1-k):=by
 obtain ⟨r,hr⟩:=Cx p N (k+1) n hk;rw[hr,Ef h,List.append_assoc,List.getElem?_append_right (Nat.le_refl _),Nat.sub_self];rfl
theorem LL{p:Nat->Bool}{N m:Nat}(h:p m=true):(oL p N (m+1)).length=(oL p N m).length+1:=by rw[Ef h];simp
theorem KQ{p:Nat->Bool}{N m:Nat}(h: ¬p m=true):(oL p N (m+1)).length=(oL p N m).length:=by rw[GE h]
theorem vp(p:Nat->Bool)(N:Nat): ∀m b,b∈oL p N m->N-m<=b/\b<=N-1
 |0,b,h=>by cases h
 |m+1,b,h=>by
  by_cases hp:p m=true
  ·rw[Ef hp]at h
   rcases List.mem_append.1 h with h|h
   ·have:=vp p N m b h
    omega
   ·rw[List.mem_singleton]at h
    omega
  ·rw[GE hp]at h
   have:=vp p N m b h;omega
theorem Ln{p:Nat->Bool}{N m b:Nat}(h:b∈oL p N m)(hm:m<=N):b<N:=by
 rcases Nat.eq_zero_or_pos N with h0|h0
 ·obtain rfl:m=0:=om
  cases h
 ·have:=vp p N m b h
  omega
end Go.Proofs.YtfakhlafilbjkaaGreatDoor
