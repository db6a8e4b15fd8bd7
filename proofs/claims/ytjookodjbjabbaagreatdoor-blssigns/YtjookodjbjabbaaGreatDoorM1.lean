/- M1 -/
import Derived.Test.YtjookodjbjabbaaGreatDoorM0
set_option maxRecDepth 100000
set_option maxHeartbeats 1000000
namespace Go.Proofs.YtjookodjbjabbaaGreatDoor
section
variable {α:Type} (C:Ec α)
def Ec.z2(z:α):α:=C.R.mul z z
def Ec.z3(z:α):α:=C.R.mul (C.R.mul z z) z
def Ec.jr(J:α×α×α):Pt α->Prop
 |none=>J.2.2=C.R.zero
 |some p=>J.2.2≠C.R.zero/\J.1=C.R.mul p.1 (C.z2 J.2.2)/\J.2.1=C.R.mul p.2 (C.z3 J.2.2)
theorem Ec.z2_ne{z:α}(h:z≠C.R.zero):C.z2 z≠C.R.zero:=λe=>h (C.fd.sq e)
theorem Ec.z3_ne{z:α}(h:z≠C.R.zero):C.z3 z≠C.R.zero:=λe=>(C.fd.two e).elim (λe=>h (C.fd.sq e)) h
theorem Ec.mul_ne{a b:α}(ha:a≠C.R.zero)(hb:b≠C.R.zero):C.R.mul a b≠C.R.zero:=λe=>(C.fd.two e).elim ha hb
theorem Ec.mul_can{a b c:α}(hc:c≠C.R.zero)(h:C.R.mul a c=C.R.mul b c):a=b:=by
 have e:C.R.mul (C.sub a b) c=C.R.zero:=by
  rw[Ec.sub,C.R.add_mul,C.R.neg_mul,h,C.R.add_neg]
 exact C.sub0 ((C.fd.two e).resolve_right hc)
theorem Ec.dbl0{y:α}(h:C.R.add y y=C.R.zero):y=C.R.zero:=by
 have e:C.R.mul (C.R.add C.R.one C.R.one) y=C.R.zero:=by rw[C.R.add_mul,C.R.one_mul,h]
 exact (C.fd.two e).resolve_left C.h2
def Ec.jd(X Y Z:α):α×α×α:=((C.sub (C.sub (C.R.mul (C.R.add (C.R.add (C.R.mul X X) (C.R.mul X X)) (C.R.mul X X)) (C.R.add (C.R.add (C.R.mul X X) (C.R.mul X X)) (C.R.mul X X))) (C.R.add (C.R.add (C.R.mul X (C.R.mul Y Y)) (C.R.mul X (C.R.mul Y Y))) (C.R.add (C.R.mul X (C.R.mul Y Y)) (C.R.mul X (C.R.mul Y Y))))) (C.R.add (C.R.add (C.R.mul X (C.R.mul Y Y)) (C.R.mul X (C.R.mul Y Y))) (C.R.add (C.R.mul X (C.R.mul Y Y)) (C.R.mul X (C.R.mul Y Y))))),(C.sub (C.R.mul (C.R.add (C.R.add (C.R.mul X X) (C.R.mul X X)) (C.R.mul X X)) (C.sub (C.R.add (C.R.add (C.R.mul X (C.R.mul Y Y)) (C.R.mul X (C.R.mul Y Y))) (C.R.add (C.R.mul X (C.R.mul Y Y)) (C.R.mul X (C.R.mul Y Y)))) (C.sub (C.sub (C.R.mul (C.R.add (C.R.add (C.R.mul X X) (C.R.mul X X)) (C.R.mul X X)) (C.R.add (C.R.add (C.R.mul X X) (C.R.mul X X)) (C.R.mul X X))) (C.R.add (C.R.add (C.R.mul X (C.R.mul Y Y)) (C.R.mul X (C.R.mul Y Y))) (C.R.add (C.R.mul X (C.R.mul Y Y)) (C.R.mul X (C.R.mul Y Y))))) (C.R.add (C.R.add (C.R.mul X (C.R.mul Y Y)) (C.R.mul X (C.R.mul Y Y))) (C.R.add (C.R.mul X (C.R.mul Y Y)) (C.R.mul X (C.R.mul Y Y))))))) (C.R.add (C.R.add (C.R.add (C.R.mul (C.R.mul Y Y) (C.R.mul Y Y)) (C.R.mul (C.R.mul Y Y) (C.R.mul Y Y))) (C.R.add (C.R.mul (C.R.mul Y Y) (C.R.mul Y Y)) (C.R.mul (C.R.mul Y Y) (C.R.mul Y Y)))) (C.R.add (C.R.add (C.R.mul (C.R.mul Y Y) (C.R.mul Y Y)) (C.R.mul (C.R.mul Y Y) (C.R.mul Y Y))) (C.R.add (C.R.mul (C.R.mul Y Y) (C.R.mul Y Y)) (C.R.mul (C.R.mul Y Y) (C.R.mul Y Y)))))),(C.R.add (C.R.mul Y Z) (C.R.mul Y Z)))
theorem Ec.jd_x{p:α×α}{Z l:α}(h:C.R.mul l (C.R.add p.2 p.2)=C.R.add (C.R.add (C.R.mul p.1 p.1) (C.R.mul p.1 p.1)) (C.R.mul p.1 p.1)):
 (C.jd (C.R.mul p.1 (C.z2 Z)) (C.R.mul p.2 (C.z3 Z)) Z).1=C.R.mul (C.x3 p p l) (C.z2 (C.jd (C.R.mul p.1 (C.z2 Z)) (C.R.mul p.2 (C.z3 Z)) Z).2.2):=
 zk C.R [p.1,p.2,Z,l] 0x445445565885658855658856588556588565884455658856588556588565885565885658834455658855755888575588855658855755888575588845565885575588857558885565885575588857558883445565885575588857558885565885575588857558884556588557558885755888556588557558885755888 0x5445993636545575588885575588884557558888557558888 0x355588588444556588565885565885658855658856588594557558888557558888 0x44566566566 0x59477 h
theorem Ec.jd_y{p:α×α}{Z l:α}(h:C.R.mul l (C.R.add p.2 p.2)=C.R.add (C.R.add (C.R.mul p.1 p.1) (C.R.mul p.1 p.1)) (C.R.mul p.1 p.1)):
 (C.jd (C.R.mul p.1 (C.z2 Z)) (C.R.mul p.2 (C.z3 Z)) Z).2.1=C.R.mul (C.th p p l).2 (C.z3 (C.jd (C.R.mul p.1 (C.z2 Z)) (C.R.mul p.2 (C.z3 Z)) Z).2.2):=
 zk C.R [p.1,p.2,Z,l] 0x4544556588565885565885658855658856588444556588557558885755888556588557558885755888455658855755888575588855658855755888575588834454455658856588556588565885565885658844556588565885565885658855658856588344556588557558885755888556588557558885755888455658855755888575588855658855755888575588834455658855755888575588855658855755888575588845565885575588857558885565885575588857558883444555755888575588855755888575588855575588857558885575588857558884555755888575588855755888575588855575588857558885575588857558884455575588857558885575588857558885557558885755888557558885755888455575588857558885575588857558885557558885755888557558885755888 0x54594634459936363755455755888855755888845575588885575588884557558888557558888 0x43555885884445565885575588857558885565885575588857558884556588557558885755888556588557558885755888344544556588565885565885658855658856588445565885658855658856588556588565883445565885575588857558885565885575588857558884556588557558885755888556588557558885755888344556588557558885755888556588557558885755888455658855755888575588855658855755888575588835594557558888557558888355588588444556588565885565885658855658856588594557558888557558888 0x44566566566 0x59477 h
def Ec.jh(X Z X' Z':α):α:=(C.sub (C.R.mul X' (C.R.mul Z Z)) (C.R.mul X (C.R.mul Z' Z')))
def Ec.jq(Y Z Y' Z':α):α:=(C.sub (C.R.mul (C.R.mul Y' (C.R.mul Z Z)) Z) (C.R.mul (C.R.mul Y (C.R.mul Z' Z')) Z'))
def Ec.ja(X Y Z X' Y' Z':α):α×α×α:=((C.sub (C.sub (C.sub (C.R.mul (C.sub (C.R.mul (C.R.mul Y' (C.R.mul Z Z)) Z) (C.R.mul (C.R.mul Y (C.R.mul Z' Z')) Z')) (C.sub (C.R.mul (C.R.mul Y' (C.R.mul Z Z)) Z) (C.R.mul (C.R.mul Y (C.R.mul Z' Z')) Z'))) (C.R.mul (C.R.mul (C.sub (C.R.mul X' (C.R.mul Z Z)) (C.R.mul X (C.R.mul Z' Z'))) (C.sub (C.R.mul X' (C.R.mul Z Z)) (C.R.mul X (C.R.mul Z' Z')))) (C.sub (C.R.mul X' (C.R.mul Z Z)) (C.R.mul X (C.R.mul Z' Z'))))) (C.R.mul (C.R.mul X (C.R.mul Z' Z')) (C.R.mul (C.sub (C.R.mul X' (C.R.mul Z Z)) (C.R.mul X (C.R.mul Z' Z'))) (C.sub (C.R.mul X' (C.R.mul Z Z)) (C.R.mul X (C.R.mul Z' Z')))))) (C.R.mul (C.R.mul X (C.R.mul Z' Z')) (C.R.mul (C.sub (C.R.mul X' (C.R.mul Z Z)) (C.R.mul X (C.R.mul Z' Z'))) (C.sub (C.R.mul X' (C.R.mul Z Z)) (C.R.mul X (C.R.mul Z' Z')))))),(C.sub (C.R.mul (C.sub (C.R.mul (C.R.mul Y' (C.R.mul Z Z)) Z) (C.R.mul (C.R.mul Y (C.R.mul Z' Z')) Z')) (C.sub (C.R.mul (C.R.mul X (C.R.mul Z' Z')) (C.R.mul (C.sub (C.R.mul X' (C.R.mul Z Z)) (C.R.mul X (C.R.mul Z' Z'))) (C.sub (C.R.mul X' (C.R.mul Z Z)) (C.R.mul X (C.R.mul Z' Z'))))) (C.sub (C.sub (C.sub (C.R.mul (C.sub (C.R.mul (C.R.mul Y' (C.R.mul Z Z)) Z) (C.R.mul (C.R.mul Y (C.R.mul Z' Z')) Z')) (C.sub (C.R.mul (C.R.mul Y' (C.R.mul Z Z)) Z) (C.R.mul (C.R.mul Y (C.R.mul Z' Z')) Z'))) (C.R.mul (C.R.mul (C.sub (C.R.mul X' (C.R.mul Z Z)) (C.R.mul X (C.R.mul Z' Z'))) (C.sub (C.R.mul X' (C.R.mul Z Z)) (C.R.mul X (C.R.mul Z' Z')))) (C.sub (C.R.mul X' (C.R.mul Z Z)) (C.R.mul X (C.R.mul Z' Z'))))) (C.R.mul (C.R.mul X (C.R.mul Z' Z')) (C.R.mul (C.sub (C.R.mul X' (C.R.mul Z Z)) (C.R.mul X (C.R.mul Z' Z'))) (C.sub (C.R.mul X' (C.R.mul Z Z)) (C.R.mul X (C.R.mul Z' Z')))))) (C.R.mul (C.R.mul X (C.R.mul Z' Z')) (C.R.mul (C.sub (C.R.mul X' (C.R.mul Z Z)) (C.R.mul X (C.R.mul Z' Z'))) (C.sub (C.R.mul X' (C.R.mul Z Z)) (C.R.mul X (C.R.mul Z' Z')))))))) (C.R.mul (C.R.mul (C.R.mul Y (C.R.mul Z' Z')) Z') (C.R.mul (C.R.mul (C.sub (C.R.mul X' (C.R.mul Z Z)) (C.R.mul X (C.R.mul Z' Z'))) (C.sub (C.R.mul X' (C.R.mul Z Z)) (C.R.mul X (C.R.mul Z' Z')))) (C.sub (C.R.mul X' (C.R.mul Z Z)) (C.R.mul X (C.R.mul Z' Z')))))),(C.R.mul (C.R.mul Z Z') (C.sub (C.R.mul X' (C.R.mul Z Z)) (C.R.mul X (C.R.mul Z' Z')))))
theorem Ec.jh_eq(p q:α×α)(Z Z':α):C.jh (C.R.mul p.1 (C.z2 Z)) Z (C.R.mul q.1 (C.z2 Z')) Z'=C.R.mul (C.R.mul (C.z2 Z) (C.z2 Z')) (C.sub q.1 p.1):=zx C.R [p.1,p.2,Z,q.1,q.2,Z'] 0x45595bb58835565885bb 0x555885bb4936
theorem Ec.jq_eq(p q:α×α)(Z Z':α):C.jq (C.R.mul p.2 (C.z3 Z)) Z (C.R.mul q.2 (C.z3 Z')) Z'=C.R.mul (C.R.mul (C.z3 Z) (C.z3 Z')) (C.sub q.2 p.2):=zx C.R [p.1,p.2,Z,q.1,q.2,Z'] 0x4555a55bbb588835557558885bbb 0x555588855bbb4a37
theorem Ec.ja_x{p q:α×α}{Z Z' l:α}(h:C.R.mul l (C.sub p.1 q.1)=C.sub p.2 q.2):(C.ja (C.R.mul p.1 (C.z2 Z)) (C.R.mul p.2 (C.z3 Z)) Z (C.R.mul q.1 (C.z2 Z')) (C.R.mul q.2 (C.z3 Z')) Z').1=C.R.mul (C.x3 p q l) (C.z2 (C.ja (C.R.mul p.1 (C.z2 Z)) (C.R.mul p.2 (C.z3 Z)) Z (C.R.mul q.1 (C.z2 Z')) (C.R.mul q.2 (C.z3 Z')) Z').2.2):=
 zk C.R [p.1,p.2,Z,q.1,q.2,Z',l] 0x44454555a55bbb588835557558885bbb4555a55bbb588835557558885bbb35545595bb58835565885bb45595bb58835565885bb45595bb58835565885bb355565885bb545595bb58835565885bb45595bb58835565885bb355565885bb545595bb58835565885bb45595bb58835565885bb 0x5445cc36395558b45595bb58835565885bb558b45595bb58835565885bb 0x55558b58b58b44555a55bbb588835557558885bbb5c558b45595bb58835565885bb 0x473a 0x5c4639 h
theorem Ec.ja_y{p q:α×α}{Z Z' l:α}(h:C.R.mul l (C.sub p.1 q.1)=C.sub p.2 q.2):(C.ja (C.R.mul p.1 (C.z2 Z)) (C.R.mul p.2 (C.z3 Z)) Z (C.R.mul q.1 (C.z2 Z')) (C.R.mul q.2 (C.z3 Z')) Z').2.1=C.R.mul (C.th p q l).2 (C.z3 (C.ja (C.R.mul p.1 (C.z2 Z)) (C.R.mul p.2 (C.z3 Z)) Z (C.R.mul q.1 (C.z2 Z')) (C.R.mul q.2 (C.z3 Z')) Z').2.2):=
 zk C.R [p.1,p.2,Z,q.1,q.2,Z',l] 0x454555a55bbb588835557558885bbb455565885bb545595bb58835565885bb45595bb58835565885bb344454555a55bbb588835557558885bbb4555a55bbb588835557558885bbb35545595bb58835565885bb45595bb58835565885bb45595bb58835565885bb355565885bb545595bb58835565885bb45595bb58835565885bb355565885bb545595bb58835565885bb45595bb58835565885bb355557558885bbb5545595bb58835565885bb45595bb58835565885bb45595bb58835565885bb 0x545c463445cc36393755558b45595bb58835565885bb558b45595bb58835565885bb558b45595bb58835565885bb 0x455558b58b58b455565885bb545595bb58835565885bb45595bb58835565885bb344454555a55bbb588835557558885bbb4555a55bbb588835557558885bbb35545595bb58835565885bb45595bb58835565885bb45595bb58835565885bb355565885bb545595bb58835565885bb45595bb58835565885bb355565885bb545595bb58835565885bb45595bb58835565885bb355c558b45595bb58835565885bb55558b58b58b44555a55bbb588835557558885bbb5c558b45595bb58835565885bb 0x473a 0x5c4639 h
theorem Ec.jr_n{J:α×α×α}{P:Pt α}(h:C.jr J P):C.jr (J.1,C.R.neg J.2.1,J.2.2) (C.ne P):=by
 cases P with
 |none=>exact h
 |some p=>exact ⟨h.1,h.2.1,by
  show C.R.neg J.2.1=C.R.mul (C.R.neg p.2) (C.z3 J.2.2);rw[h.2.2,C.R.neg_mul]⟩
theorem Ec.jr_one{J:α×α×α}{P Q:Pt α}(h:C.jr J P)(k:C.jr J Q):P=Q:=by
 cases P with
 |none=>
  cases Q with
  |none=>rfl
  |some q=>exact absurd h k.1
 |some p=>
  cases Q with
  |none=>exact absurd k h.1
  |some q=>exact congrArg some (Prod.ext (C.mul_can (C.z2_ne h.1) (h.2.1.symm.trans k.2.1)) (C.mul_can (C.z3_ne h.1) (h.2.2.symm.trans k.2.2)))
end
section
variable {α:Type} [DecidableEq α] (C:Ec α)
def Ec.jdF(J:α×α×α):α×α×α:=if J.2.2=C.R.zero\/J.2.1=C.R.zero then (C.R.zero,C.R.zero,C.R.zero)else C.jd J.1 J.2.1 J.2.2
theorem Ec.jr_d{J:α×α×α}{P:Pt α}(hP:C.onP P)(h:C.jr J P):C.jr (C.jdF J) (C.ad P P):=by
 cases P with
 |none=>
  rw[Ec.jdF,if_pos (.inl h)];rfl
 |some p=>
  obtain ⟨hz,hx,hy⟩:=h;obtain ⟨X,Y,Z⟩:=J;simp only at hz hx hy;by_cases hp:p.2=C.R.zero
  ·have hy0:Y=C.R.zero:=by rw[hy,hp,C.R.zero_mul]
   rw[Ec.jdF,if_pos (.inr hy0),C.ad_opp ⟨rfl,by rw[hp,C.R.add_zero]⟩];rfl
  ·have hY:Y≠C.R.zero:=by rw[hy];exact C.mul_ne hp (C.z3_ne hz)
   have ho: ¬C.opp p p:=λe=>hp (C.dbl0 e.2);have hs:=C.sl_slope hP hP ho;rw[Ec.jdF,if_neg (λe=>e.elim hz hY),C.ad_sl hP hP ho hs];subst hx hy;refine ⟨?_,C.jd_x hs.2,C.jd_y hs.2⟩;intro e;exact (C.mul_ne hY hz) (C.dbl0 e)
def Ec.jaF(J K:α×α×α):α×α×α:=
 if J.2.2=C.R.zero then K else if K.2.2=C.R.zero then J else
  if C.jh J.1 J.2.2 K.1 K.2.2=C.R.zero then (if C.jq J.2.1 J.2.2 K.2.1 K.2.2=C.R.zero then C.jdF J else (C.R.zero,C.R.zero,C.R.zero))else C.ja J.1 J.2.1 J.2.2 K.1 K.2.1 K.2.2
theorem Ec.jr_a{J K:α×α×α}{P Q:Pt α}(hP:C.onP P)(hQ:C.onP Q)(h:C.jr J P)(k:C.jr K Q):C.jr (C.jaF J K) (C.ad P Q):=by
 cases P with
 |none=>rw[Ec.jaF,if_pos (show J.2.2=C.R.zero from h)];exact k
 |some p=>
  cases Q with
  |none=>rw[Ec.jaF,if_neg h.1,if_pos (show K.2.2=C.R.zero from k)];exact h
  |some q=>
   obtain ⟨X,Y,Z⟩:=J;obtain ⟨X',Y',Z'⟩:=K;have h':=h;obtain ⟨hz,hx,hy⟩:=h;obtain ⟨kz,kx,ky⟩:=k;simp only at hz hx hy kz kx ky;rw[Ec.jaF,if_neg hz,if_neg kz];show C.jr (if C.jh X Z X' Z'=C.R.zero then (if C.jq Y Z Y' Z'=C.R.zero then C.jdF (X,Y,Z)else (C.R.zero,C.R.zero,C.R.zero))else C.ja X Y Z X' Y' Z') (C.ad (some p) (some q))
   have ex:C.jh X Z X' Z'=C.R.zero↔p.1=q.1:=by
    rw[hx,kx,C.jh_eq];refine ⟨λe=>(C.sub0 ((C.fd.two e).resolve_left (C.mul_ne (C.z2_ne hz) (C.z2_ne kz)))).symm,λe=>by rw[e,C.sub_self,C.R.mul_zero]⟩
   have ey:C.jq Y Z Y' Z'=C.R.zero↔p.2=q.2:=by
    rw[hy,ky,C.jq_eq];refine ⟨λe=>(C.sub0 ((C.fd.two e).resolve_left (C.mul_ne (C.z3_ne hz) (C.z3_ne kz)))).symm,λe=>by rw[e,C.sub_self,C.R.mul_zero]⟩
   by_cases hxe:p.1=q.1
   ·rw[if_pos (ex.2 hxe)]
    by_cases hye:p.2=q.2
    ·rw[if_pos (ey.2 hye)]
     obtain rfl:p=q:=Prod.ext hxe hye;exact C.jr_d hP h'
    ·rw[if_neg (λe=>hye (ey.1 e))]
     by_cases ho:C.opp p q
     ·rw[C.ad_opp ho];rfl
     ·exact absurd (by
       have hs:=(C.sl_slope hP hQ ho).1;rw[hxe,C.sub_self,C.R.mul_zero]at hs;exact C.sub0 hs.symm) hye
   ·rw[if_neg (λe=>hxe (ex.1 e))]
    have ho: ¬C.opp p q:=λe=>hxe e.1;have hs:=C.sl_slope hP hQ ho;rw[C.ad_sl hP hQ ho hs];have hh:C.jh X Z X' Z'≠C.R.zero:=λe=>hxe (ex.1 e);subst hx hy kx ky;exact ⟨C.mul_ne (C.mul_ne hz kz) hh,C.ja_x hs.1,C.ja_y hs.1⟩
end
structure Hw{α β:Type}(C:Ec α)(D:Ec β) where
 f:α->β
 w:β
 fa: ∀a b,f (C.R.add a b)=D.R.add (f a) (f b)
 fm: ∀a b,f (C.R.mul a b)=D.R.mul (f a) (f b)
 fn: ∀a,f (C.R.neg a)=D.R.neg (f a)
 f0:f C.R.zero=D.R.zero
 fi: ∀a,f a=D.R.zero->a=C.R.zero
 wn:w≠D.R.zero
 wb:D.R.mul (D.R.mul (D.R.mul w (D.R.mul w w)) (D.R.mul w (D.R.mul w w))) (f C.b)=D.b
abbrev Tw{α:Type}(C:Ec α):=Hw C C
section
variable {α β:Type} {C:Ec α} {D:Ec β} (T:Hw C D)
def Hw.m(p:α×α):β×β:=(D.R.mul (D.R.mul T.w T.w) (T.f p.1),D.R.mul (D.R.mul T.w (D.R.mul T.w T.w)) (T.f p.2))
theorem Hw.fs(a b:α):T.f (C.sub a b)=D.sub (T.f a) (T.f b):=by
 show T.f (C.R.add a (C.R.neg b))=D.R.add (T.f a) (D.R.neg (T.f b));rw[T.fa,T.fn]
theorem Hw.inj{a b:α}(h:T.f a=T.f b):a=b:=C.sub0 (T.fi _ (by rw[T.fs,h,D.sub_self]))
theorem Hw.w2:D.R.mul T.w T.w≠D.R.zero:=λh=>(D.fd.two h).elim T.wn T.wn
theorem Hw.w3:D.R.mul T.w (D.R.mul T.w T.w)≠D.R.zero:=λh=>(D.fd.two h).elim T.wn T.w2
def Hw.p:Pt α->Pt β
 |none=>none
 |some q=>some (T.m q)
theorem Hw.m_on{p:α×α}(h:C.on p):D.on (T.m p):=by
 have k:D.R.mul (T.f p.2) (T.f p.2)=D.R.add (D.R.mul (T.f p.1) (D.R.mul (T.f p.1) (T.f p.1))) (T.f C.b):=by
  have e:=congrArg T.f (show C.R.mul p.2 p.2=C.R.add (C.R.mul p.1 (C.R.mul p.1 p.1)) C.b from h);rw[T.fa,T.fm,T.fm,T.fm]at e;exact e
 have kb:=T.wb;exact zl D.R [T.f p.1,T.f p.2,T.f p.1,T.f p.2,T.f p.1,T.w,T.f C.b,D.b] 0x555b5bb755b5bb7 0x4555b5bb5b5bb456566c52d 0x4555bb6555bb655bb6d 0x4555b5bb5b5bb57752555b5bb5b5bbc (lca (lcm k) (lcm kb))
theorem Hw.sl{p q:α×α}{s:α}(h:C.Sl p q s):D.Sl (T.m p) (T.m q) (D.R.mul T.w (T.f s)):=by
 have k1:D.R.mul (T.f s) (D.sub (T.f p.1) (T.f q.1))=D.sub (T.f p.2) (T.f q.2):=by
  have e:=congrArg T.f h.1;rw[T.fm,T.fs,T.fs]at e;exact e
 have k2:D.R.mul (T.f s) (D.R.add (T.f p.2) (T.f q.2))=D.R.add (D.R.add (D.R.mul (T.f p.1) (T.f p.1)) (D.R.mul (T.f p.1) (T.f q.1))) (D.R.mul (T.f q.1) (T.f q.1)):=by
  have e:=congrArg T.f h.2;rw[T.fm,T.fa,T.fa,T.fa,T.fm,T.fm,T.fm]at e;exact e
 exact ⟨zk D.R [T.f p.1,T.f p.2,T.f q.1,T.f q.2,T.f s,T.w,T.f C.b,D.b] 0x55ba455bb6355bb8 0x455b5bb7355b5bb9 0x5b5bb 0x4739 0x5a4638 k1,zk D.R [T.f p.1,T.f p.2,T.f q.1,T.f q.2,T.f s,T.w,T.f C.b,D.b] 0x55ba455b5bb755b5bb9 0x44555bb655bb6555bb655bb8555bb855bb8 0x55bb5bb 0x44566568588 0x5a479 k2⟩
theorem Hw.th(p q:α×α)(s:α):D.th (T.m p) (T.m q) (D.R.mul T.w (T.f s))=T.m (C.th p q s):=by
 have ex:T.f (C.x3 p q s)=D.sub (D.sub (D.R.mul (T.f s) (T.f s)) (T.f p.1)) (T.f q.1):=by
  show T.f (C.sub (C.sub (C.R.mul s s) p.1) q.1)=_;rw[T.fs,T.fs,T.fm]
 have ey:T.f (C.sub (C.R.mul s (C.sub p.1 (C.x3 p q s))) p.2)=D.sub (D.R.mul (T.f s) (D.sub (T.f p.1) (D.sub (D.sub (D.R.mul (T.f s) (T.f s)) (T.f p.1)) (T.f q.1)))) (T.f p.2):=by
  rw[T.fs,T.fm,T.fs,ex]
 refine Prod.ext ?_ ?_
 ·show D.sub (D.sub (D.R.mul (D.R.mul T.w (T.f s)) (D.R.mul T.w (T.f s))) (D.R.mul (D.R.mul T.w T.w) (T.f p.1))) (D.R.mul (D.R.mul T.w T.w) (T.f q.1))=D.R.mul (D.R.mul T.w T.w) (T.f (C.x3 p q s))
  rw[ex];exact zx D.R [T.f p.1,T.f p.2,T.f q.1,T.f q.2,T.f s,T.w,T.f C.b,D.b] 0x4455ba5ba355bb6355bb8 0x55bb445aa3638
 ·show D.sub (D.R.mul (D.R.mul T.w (T.f s)) (D.sub (D.R.mul (D.R.mul T.w T.w) (T.f p.1)) (D.sub (D.sub (D.R.mul (D.R.mul T.w (T.f s)) (D.R.mul T.w (T.f s))) (D.R.mul (D.R.mul T.w T.w) (T.f p.1))) (D.R.mul (D.R.mul T.w T.w) (T.f q.1))))) (D.R.mul (D.R.mul T.w (D.R.mul T.w T.w)) (T.f p.2))=D.R.mul (D.R.mul T.w (D.R.mul T.w T.w)) (T.f (C.sub (C.R.mul s (C.sub p.1 (C.x3 p q s))) p.2))
  rw[ey];exact zx D.R [T.f p.1,T.f p.2,T.f q.1,T.f q.2,T.f s,T.w,T.f C.b,D.b] 0x455ba455bb634455ba5ba355bb6355bb8355b5bb7 0x55b5bb45a463445aa363837
theorem Hw.opp{p q:α×α}:D.opp (T.m p) (T.m q)↔C.opp p q:=by
 refine ⟨λh=>⟨?_, ?_⟩,λh=>⟨?_, ?_⟩⟩
 ·have e:D.R.mul (D.R.mul T.w T.w) (D.sub (T.f p.1) (T.f q.1))=D.R.zero:=zk D.R [T.f p.1,T.f p.2,T.f q.1,T.f q.2,T.f p.1,T.w,T.f C.b,D.b] 0x55bb4638 0x1 0x2 0x55bb8 0x55bb6 h.1
  exact T.inj (D.sub0 ((D.fd.two e).resolve_left T.w2))
 ·have e:D.R.mul (D.R.mul T.w (D.R.mul T.w T.w)) (D.R.add (T.f p.2) (T.f q.2))=D.R.zero:=zk D.R [T.f p.1,T.f p.2,T.f q.1,T.f q.2,T.f p.1,T.w,T.f C.b,D.b] 0x55b5bb479 0x1 0x2 0x1 0x455b5bb755b5bb9 h.2
  have k:=(D.fd.two e).resolve_left T.w3;rw[<-T.fa]at k;exact T.fi _ k
 ·show D.R.mul (D.R.mul T.w T.w) (T.f p.1)=D.R.mul (D.R.mul T.w T.w) (T.f q.1)
  rw[h.1]
 ·have k:D.R.add (T.f p.2) (T.f q.2)=D.R.zero:=by rw[<-T.fa,h.2,T.f0]
  exact zk D.R [T.f p.1,T.f p.2,T.f q.1,T.f q.2,T.f p.1,T.w,T.f C.b,D.b] 0x455b5bb755b5bb9 0x1 0x5b5bb 0x1 0x479 k
variable [DecidableEq α] [DecidableEq β]
theorem Hw.p_ad{P Q:Pt α}(hP:C.onP P)(hQ:C.onP Q):T.p (C.ad P Q)=D.ad (T.p P) (T.p Q):=by
 cases P with
 |none=>rfl
 |some p=>
  cases Q with
  |none=>rfl
  |some q=>
   by_cases ho:C.opp p q
   ·rw[C.ad_opp ho]
    exact (D.ad_opp (T.opp.2 ho)).symm
   ·have hs:=C.sl_slope hP hQ ho
    rw[C.ad_sl hP hQ ho hs];refine (congrArg some (T.th p q (C.slope p q)).symm).trans ?_;exact (D.ad_sl (T.m_on hP) (T.m_on hQ) (λh=>ho (T.opp.1 h)) (T.sl hs)).symm
theorem Hw.p_times{P:Pt α}(hP:C.onP P): ∀n,T.p (C.times P n)=D.times (T.p P) n
 |0=>rfl
 |n+1=>by rw[Ec.times,T.p_ad (C.times_on hP n) hP,Hw.p_times hP n];rfl
end
/-! ### Points of one order -/
section
variable {α:Type} [DecidableEq α] (C:Ec α)
theorem Ec.times_q{P:Pt α}(hP:C.onP P){r:Nat}(h:C.times P r=none)(k:Nat):C.times P (r*k)=none:=by
 rw[C.times_mul hP,h,C.times_none]
theorem Ec.times_u{P:Pt α}(hP:C.onP P){r:Nat}(h:C.times P r=none){n:Nat}(hn:n % r=1):C.times P n=P:=by
 rw[<-Nat.div_add_mod n r,hn,C.times_add hP,C.times_q hP h];rfl
theorem Ec.times_swap{P:Pt α}(hP:C.onP P)(m n:Nat):C.times (C.times P m) n=C.times (C.times P n) m:=by
 rw[<-C.times_mul hP,<-C.times_mul hP,Nat.mul_comm]
theorem Ec.cyc_no{G:Pt α}(hG:C.onP G){r:Nat}(hr: ∀d,0<d->d<r->∃e,(d*e) % r=1)(gr:C.times G r=none)(gn:G≠none){d:Nat}(h0:0<d)(h1:d<r):C.times G d≠none:=by
 intro h;obtain ⟨e,he⟩:=hr d h0 h1;refine gn ?_;rw[<-C.times_u hG gr he,C.times_mul hG,h,C.times_none]
end
def oL(p:Nat->Bool)(N:Nat):Nat->List Nat
 |0=>[]
 |m+1=>if p m=true then oL p N m++[N-1-m]else oL p N m
def vN(p:Nat->Bool):Nat->Nat
 |0=>0
 |m+1=>2*vN p m+(if p m=true then 1 else 0)
def SOg:List Nat->Nat
 |[]=>0
 |n::l=>2^n+SOg l
theorem zH: ∀l m:List Nat,SOg (l++m)=SOg l+SOg m
 |[],m=>by rw[List.nil_append,SOg,Nat.zero_add]
 |n::l,m=>by rw[List.cons_append,SOg,SOg,zH l m,Nat.add_assoc]
theorem B5{p:Nat->Bool}{N m:Nat}(h:p m=true):oL p N (m+1)=oL p N m++[N-1-m]:=if_pos h
theorem HM{p:Nat->Bool}{N m:Nat}(h: ¬p m=true):oL p N (m+1)=oL p N m:=if_neg h
theorem D0(p:Nat->Bool)(N k:Nat): ∀n,k<=n->∃r,oL p N n=oL p N k++r
 |0,h=>⟨[],by obtain rfl:k=0:=om
              rw[List.append_nil]⟩
 |n+1,h=>by
  rcases Nat.lt_or_ge n k with h'|h'
  ·obtain rfl:k=n+1:=om
   exact ⟨[],by rw[List.append_nil]⟩
  ·obtain ⟨r,hr⟩:=D0 p N k n h'
   by_cases hp:p n=true
   ·exact ⟨r++[N-1-n],by rw[B5 hp,hr,List.append_assoc]⟩
   ·exact ⟨r,by rw[HM hp,hr]⟩
theorem Mc{p:Nat->Bool}{N k n:Nat}(hk:k<n)(h:p k=true):(oL p N n)[(oL p N k).length]? =some (N-1-k):=by
 obtain ⟨r,hr⟩:=D0 p N (k+1) n hk;rw[hr,B5 h,List.append_assoc,List.getElem?_append_right (Nat.le_refl _),Nat.sub_self];rfl
theorem Lr{p:Nat->Bool}{N m:Nat}(h:p m=true):(oL p N (m+1)).length=(oL p N m).length+1:=by rw[B5 h];simp
theorem Mf{p:Nat->Bool}{N m:Nat}(h: ¬p m=true):(oL p N (m+1)).length=(oL p N m).length:=by rw[HM h]
theorem sU(p:Nat->Bool)(N:Nat): ∀m b,b∈oL p N m->N-m<=b/\b<=N-1
 |0,b,h=>by cases h
 |m+1,b,h=>by
  by_cases hp:p m=true
  ·rw[B5 hp]at h
   rcases List.mem_append.1 h with h|h
   ·have:=sU p N m b h
    omega
   ·rw[List.mem_singleton]at h
    omega
  ·rw[HM hp]at h
   have:=sU p N m b h;omega
theorem Hg{p:Nat->Bool}{N m b:Nat}(h:b∈oL p N m)(hm:m<=N):b<N:=by
 rcases Nat.eq_zero_or_pos N with h0|h0
 ·obtain rfl:m=0:=om
  cases h
 ·have:=sU p N m b h
  omega
theorem uO(p:Nat->Bool)(N:Nat): ∀m,m<=N->(oL p N m).Pairwise (λa b=>b<=a)
 |0,_=>List.Pairwise.nil
 |m+1,hm=>by
  by_cases hp:p m=true
  ·rw[B5 hp,List.pairwise_append]
   refine ⟨uO p N m om,List.pairwise_singleton _ _,λa ha b hb=> ?_⟩;rw[List.mem_singleton]at hb;have:=sU p N m a ha;omega
  ·rw[HM hp];exact uO p N m om
theorem yM(p:Nat->Bool)(N:Nat): ∀m,m<=N->SOg (oL p N m)=vN p m*2^(N-m)
 |0,_=>by rw[oL,vN,Nat.zero_mul];rfl
 |m+1,hm=>by
  have e:2^(N-m)=2*2^(N-1-m):=by rw[<-Nat.pow_succ',show (N-1-m).succ=N-m from by omega]
  by_cases hp:p m=true
  ·rw[B5 hp,zH,yM p N m om,vN,if_pos hp,SOg,SOg,e,show N-(m+1)=N-1-m from by omega]
   generalize 2^(N-1-m)=z;rw[Nat.add_mul,Nat.mul_assoc 2,Nat.mul_left_comm];omega
  ·rw[HM hp,yM p N m om,vN,if_neg hp,e,show N-(m+1)=N-1-m from by omega,Nat.add_zero]
   generalize 2^(N-1-m)=z;rw[Nat.mul_assoc 2,Nat.mul_left_comm]
theorem wU(p:Nat->Bool)(N:Nat):SOg (oL p N N)=vN p N:=by
 rw[yM p N N (Nat.le_refl _),Nat.sub_self,Nat.pow_zero,Nat.mul_one]
theorem H2{p:Nat->Bool}{N M:Nat}(hM:M<2^N)(h: ∀m,m<N->(p m=true↔M / 2^(N-1-m) % 2=1)): ∀m,m<=N->vN p m=M / 2^(N-m)
 |0,_=>by rw[vN,Nat.sub_zero,Nat.div_eq_of_lt hM]
 |m+1,hm=>by
  have e:2^(N-m)=2^(N-1-m)*2:=by rw[<-Nat.pow_succ,show (N-1-m).succ=N-m from by omega]
  have k:=h m om;rw[vN,H2 hM h m om,e,<-Nat.div_div_eq_div_mul,show N-(m+1)=N-1-m from by omega]
  generalize M / 2^(N-1-m)=z at k;by_cases hp:p m=true
  ·rw[if_pos hp]
   have:=k.1 hp;omega
  ·rw[if_neg hp]
   have:z % 2≠1:=λe=>hp (k.2 e);omega
theorem Ql{p:Nat->Bool}{N M:Nat}(hM:M<2^N)(h: ∀m,m<N->(p m=true↔M / 2^(N-1-m) % 2=1)):vN p N=M:=by
 rw[H2 hM h N (Nat.le_refl _),Nat.sub_self,Nat.pow_zero,Nat.div_one]
section
variable {α:Type} (C:Ec α)
def Ec.dbA(x:α×α×α):α×α×α:=
 let a:=C.R.add x.2.1 x.2.1
 let s:=C.R.mul x.1 x.1
 let u:=C.R.add (C.R.add s s) s
 let h:=C.R.mul a a
 let b:=C.R.mul h x.1
 let X:=C.sub (C.sub (C.R.mul u u) b) b
 (X,C.sub (C.R.mul u (C.sub b X)) (C.R.mul (C.R.mul h a) x.2.1),C.R.mul x.2.2 a)
theorem Ec.dbl_ext(m:α){s s' c c' z z':α}(hs:s=s')(hc:c=c')(hz:z=z'):(C.sub (C.sub (C.R.mul m m) s) s,C.sub (C.R.mul m (C.sub s (C.sub (C.sub (C.R.mul m m) s) s))) c,z)=(C.sub (C.sub (C.R.mul m m) s') s',C.sub (C.R.mul m (C.sub s' (C.sub (C.sub (C.R.mul m m) s') s'))) c',z'):=by rw[hs,hc,hz]
theorem Ec.dbA_jd(x:α×α×α):C.dbA x=C.jd x.1 x.2.1 x.2.2:=C.dbl_ext (C.R.add (C.R.add (C.R.mul x.1 x.1) (C.R.mul x.1 x.1)) (C.R.mul x.1 x.1))
 (zx C.R [x.1,x.2.1,x.2.2] 0x554774776 0x44565775657745657756577)
 (zx C.R [x.1,x.2.1,x.2.2] 0x5554774774777 0x444557757755775774557757755775774455775775577577455775775577577)
 (zx C.R [x.1,x.2.1,x.2.2] 0x58477 0x4578578)
def Ec.adG(x y:α×α×α):α×α×α:=
 let u:=C.R.mul x.1 (C.R.mul y.2.2 y.2.2)
 let s:=C.R.mul (C.R.mul x.2.1 (C.R.mul y.2.2 y.2.2)) y.2.2
 let h:=C.sub (C.R.mul y.1 (C.R.mul x.2.2 x.2.2)) u
 let r:=C.sub (C.R.mul (C.R.mul y.2.1 (C.R.mul x.2.2 x.2.2)) x.2.2) s
 let q:=C.R.mul h h
 let c:=C.R.mul q h
 let w:=C.R.mul q u
 let X:=C.sub (C.sub (C.sub (C.R.mul r r) c) w) w
 (X,C.sub (C.R.mul r (C.sub w X)) (C.R.mul c s),C.R.mul (C.R.mul x.2.2 y.2.2) h)
theorem Ec.add_ext{a w w' r k k' z:α}(hw:w=w')(hk:k=k'):(C.sub (C.sub a w) w,C.sub (C.R.mul r (C.sub w (C.sub (C.sub a w) w))) k,z)=(C.sub (C.sub a w') w',C.sub (C.R.mul r (C.sub w' (C.sub (C.sub a w') w'))) k',z):=by rw[hw,hk]
theorem Ec.adG_ja(x y:α×α×α):C.adG x y=C.ja x.1 x.2.1 x.2.2 y.1 y.2.1 y.2.2:=C.add_ext (C.R.mul_comm _ _) (C.R.mul_comm _ _)
theorem Ec.same_iff{p q:α×α}{x y:α×α×α}(h:C.jr x (some p))(k:C.jr y (some q)):(C.R.mul x.1 (C.R.mul y.2.2 y.2.2)=C.R.mul y.1 (C.R.mul x.2.2 x.2.2)↔p.1=q.1)/\(C.R.mul (C.R.mul x.2.1 (C.R.mul y.2.2 y.2.2)) y.2.2=C.R.mul (C.R.mul y.2.1 (C.R.mul x.2.2 x.2.2)) x.2.2↔p.2=q.2):=by
 have hx:x.1=C.R.mul p.1 (C.R.mul x.2.2 x.2.2):=h.2.1;have hy:x.2.1=C.R.mul p.2 (C.R.mul (C.R.mul x.2.2 x.2.2) x.2.2):=h.2.2;have kx:y.1=C.R.mul q.1 (C.R.mul y.2.2 y.2.2):=k.2.1;have ky:y.2.1=C.R.mul q.2 (C.R.mul (C.R.mul y.2.2 y.2.2) y.2.2):=k.2.2;have n2:=C.mul_ne (C.z2_ne h.1) (C.z2_ne k.1);have n3:=C.mul_ne (C.z3_ne h.1) (C.z3_ne k.1);rw[hx,hy,kx,ky];refine ⟨⟨λe=>C.mul_can n2 ?_,λe=> ?_⟩,⟨λe=>C.mul_can n3 ?_,λe=> ?_⟩⟩
 ·show C.R.mul p.1 (C.R.mul (C.R.mul x.2.2 x.2.2) (C.R.mul y.2.2 y.2.2))=C.R.mul q.1 (C.R.mul (C.R.mul x.2.2 x.2.2) (C.R.mul y.2.2 y.2.2))
  exact zk C.R [p.1,q.1,x.2.2,y.2.2] 0x565588599 0x575588599 0x2 0x557599588 0x556588599 e
 ·rw[e]
  exact zx C.R [p.1,q.1,x.2.2,y.2.2] 0x557588599 0x557599588
 ·show C.R.mul p.2 (C.R.mul (C.R.mul (C.R.mul x.2.2 x.2.2) x.2.2) (C.R.mul (C.R.mul y.2.2 y.2.2) y.2.2))=C.R.mul q.2 (C.R.mul (C.R.mul (C.R.mul x.2.2 x.2.2) x.2.2) (C.R.mul (C.R.mul y.2.2 y.2.2) y.2.2))
  exact zk C.R [p.2,q.2,x.2.2,y.2.2] 0x5655588855999 0x5755588855999 0x2 0x5557559995888 0x5556558885999 e
 ·rw[e]
  exact zx C.R [p.2,q.2,x.2.2,y.2.2] 0x5557558885999 0x5557559995888
theorem Ec.same_iff'{p q:α×α}{x y:α×α×α}(h:C.jr x (some p))(k:C.jr y (some q)):(C.R.mul x.1 (C.R.mul y.2.2 y.2.2)=C.R.mul y.1 (C.R.mul x.2.2 x.2.2)↔p.1=q.1)/\(C.R.mul x.2.1 (C.R.mul (C.R.mul y.2.2 y.2.2) y.2.2)=C.R.mul y.2.1 (C.R.mul (C.R.mul x.2.2 x.2.2) x.2.2)↔p.2=q.2):=by
 have s:=C.same_iff h k;rw[C.R.mul_assoc,C.R.mul_assoc y.2.1]at s;exact s
def Ec.eqJ(x y:α×α×α):Prop:=(x.2.2=C.R.zero/\y.2.2=C.R.zero)\/(¬x.2.2=C.R.zero/\¬y.2.2=C.R.zero/\C.R.mul x.1 (C.R.mul y.2.2 y.2.2)=C.R.mul y.1 (C.R.mul x.2.2 x.2.2)/\C.R.mul x.2.1 (C.R.mul (C.R.mul y.2.2 y.2.2) y.2.2)=C.R.mul y.2.1 (C.R.mul (C.R.mul x.2.2 x.2.2) x.2.2))
theorem Ec.eqJ_iff{x y:α×α×α}{P Q:Pt α}(h:C.jr x P)(k:C.jr y Q):C.eqJ x y↔P=Q:=by
 cases P with
 |none=>
  cases Q with
  |none=>exact ⟨λ_=>rfl,λ_=>.inl ⟨h,k⟩⟩
  |some q=>exact ⟨λe=>e.elim (λe=>absurd e.2 k.1) (λe=>absurd h e.1),λe=>by cases e⟩
 |some p=>
  cases Q with
  |none=>exact ⟨λe=>e.elim (λe=>absurd e.1 h.1) (λe=>absurd k e.2.1),λe=>by cases e⟩
  |some q=>
   have s:=C.same_iff' h k;exact ⟨λe=>e.elim (λe=>absurd e.1 h.1) (λe=>congrArg some (Prod.ext (s.1.1 e.2.2.1) (s.2.1 e.2.2.2))),λe=>.inr ⟨h.1,k.1,s.1.2 (congrArg Prod.fst (Option.some.inj e)),s.2.2 (congrArg Prod.snd (Option.some.inj e))⟩⟩
theorem Ec.xy_w{J:α×α×α}{p:α×α}(h:C.jr J (some p)){v:α}(hv:C.R.mul J.2.2 v=C.R.one):C.R.mul J.1 (C.R.mul v v)=p.1/\C.R.mul J.2.1 (C.R.mul (C.R.mul v v) v)=p.2:=by
 have hx:J.1=C.R.mul p.1 (C.R.mul J.2.2 J.2.2):=h.2.1;have hy:J.2.1=C.R.mul p.2 (C.R.mul (C.R.mul J.2.2 J.2.2) J.2.2):=h.2.2;have e2:C.R.mul (C.R.mul J.2.2 v) (C.R.mul J.2.2 v)=C.R.one:=by rw[hv,C.R.mul_one]
 refine ⟨?_, ?_⟩
 ·rw[hx]
  exact zk C.R [p.1,J.2.2,v] 0x556577588 0x6 0x6 0x2 0x5578578 e2
 ·rw[hy]
  exact zl C.R [p.2,J.2.2,v] 0x5565577755888 0x45565782562 0x6 0x4556578557857856578 (lca (lcm e2) (lcm hv))
theorem Ec.jr_zI{J:α×α×α}{P:Pt α}(h:C.jr J P):J.2.2=C.R.zero↔P=none:=by
 cases P with
 |none=>exact ⟨λ_=>rfl,λ_=>h⟩
 |some p=>exact ⟨λe=>absurd e h.1,λe=>by cases e⟩
theorem Ec.adA_same{x y:α×α×α}{P Q:Pt α}(h:C.jr x P)(k:C.jr y Q)(h1: ¬x.2.2=C.R.zero)(h2: ¬y.2.2=C.R.zero)(h3:C.jh x.1 x.2.2 y.1 y.2.2=C.R.zero)(h4:C.jq x.2.1 x.2.2 y.2.1 y.2.2=C.R.zero):Q=P:=by
 cases P with
 |none=>exact absurd h h1
 |some p=>
  cases Q with
  |none=>exact absurd k h2
  |some q=>
   have s:=C.same_iff h k;exact congrArg some (Prod.ext (s.1.1 (C.sub0 h3).symm).symm (s.2.1 (C.sub0 h4).symm).symm)
end
section
variable {α:Type} [DecidableEq α] (C:Ec α)
theorem Ec.dbA_jr{x:α×α×α}{P:Pt α}(hP:C.onP P)(h:C.jr x P):C.jr (C.dbA x) (C.ad P P):=by
 have k:=C.jr_d hP h;by_cases hz:x.2.2=C.R.zero\/x.2.1=C.R.zero
 ·rw[show C.jdF x=(C.R.zero,C.R.zero,C.R.zero)from if_pos hz]at k
  rw[(C.jr_zI k).1 O];show C.R.mul x.2.2 (C.R.add x.2.1 x.2.1)=C.R.zero;rcases hz with e|e
  ·rw[e,C.R.zero_mul]
  ·rw[e,C.R.add_zero,C.R.mul_zero]
 ·rw[show C.jdF x=C.jd x.1 x.2.1 x.2.2 from if_neg hz,<-C.dbA_jd]at k
  exact k
def Ec.adA(x y:α×α×α):α×α×α:=if x.2.2=C.R.zero then y else if y.2.2=C.R.zero then x else if C.jh x.1 x.2.2 y.1 y.2.2=C.R.zero then (if C.jq x.2.1 x.2.2 y.2.1 y.2.2=C.R.zero then C.dbA x else (C.R.zero,C.R.zero,C.R.zero))else C.adG x y
theorem Ec.adA_jr{x y:α×α×α}{P Q:Pt α}(hP:C.onP P)(hQ:C.onP Q)(h:C.jr x P)(k:C.jr y Q):C.jr (C.adA x y) (C.ad P Q):=by
 have j:=C.jr_a hP hQ h k;by_cases h1:x.2.2=C.R.zero
 ·rw[show C.jaF x y=y from if_pos h1]at j
  rw[show C.adA x y=y from if_pos h1];exact j
 by_cases h2:y.2.2=C.R.zero
 ·rw[show C.jaF x y=x from (if_neg h1).trans (if_pos h2)]at j
  rw[show C.adA x y=x from (if_neg h1).trans (if_pos h2)];exact j
 by_cases h3:C.jh x.1 x.2.2 y.1 y.2.2=C.R.zero
 ·by_cases h4:C.jq x.2.1 x.2.2 y.2.1 y.2.2=C.R.zero
  ·rw[show C.adA x y=C.dbA x from (if_neg h1).trans ((if_neg h2).trans ((if_pos h3).trans (if_pos h4)))]
   rw[C.adA_same h k h1 h2 h3 h4];exact C.dbA_jr hP h
  ·rw[show C.jaF x y=(C.R.zero,C.R.zero,C.R.zero)from (if_neg h1).trans ((if_neg h2).trans ((if_pos h3).trans (if_neg h4)))]at j
   rw[show C.adA x y=(C.R.zero,C.R.zero,C.R.zero)from (if_neg h1).trans ((if_neg h2).trans ((if_pos h3).trans (if_neg h4)))];exact j
 ·rw[show C.jaF x y=C.ja x.1 x.2.1 x.2.2 y.1 y.2.1 y.2.2 from (if_neg h1).trans ((if_neg h2).trans (if_neg h3)),<-C.adG_ja]at j
  rw[show C.adA x y=C.adG x y from (if_neg h1).trans ((if_neg h2).trans (if_neg h3))];exact j
def Ec.dbN(x:α×α×α):Nat->α×α×α
 |0=>x
 |n+1=>C.dbA (Ec.dbN x n)
theorem Ec.dbN_jr{x:α×α×α}{P:Pt α}(hP:C.onP P){q:Nat}(hx:C.jr x (C.times P q)): ∀n,C.jr (C.dbN x n) (C.times P (q*2^n))
 |0=>by rw[Nat.pow_zero,Nat.mul_one];exact hx
 |n+1=>by
  have hd:=C.dbA_jr (C.times_on hP _) (Ec.dbN_jr hP hx n);rw[<-C.times_add hP,<-Nat.two_mul,Nat.mul_left_comm,<-Nat.pow_succ']at hd;exact hd
def Ec.stp(x:α×α×α)(A:(α×α×α)×Nat)(b:Nat):(α×α×α)×Nat:=(C.adA (C.dbN A.1 (A.2-b)) x,b)
def Ec.stK(x:α×α×α)(L:List Nat)(k:Nat):(α×α×α)×Nat:=(L.take k).foldl (C.stp x) ((C.R.zero,C.R.zero,C.R.zero),0)
theorem Ec.stK_step(x:α×α×α){L:List Nat}{k n:Nat}(h:L[k]? =some n):C.stK x L (k+1)=C.stp x (C.stK x L k) n:=by
 rw[Ec.stK,List.take_add_one,h,List.foldl_append];rfl
theorem Ec.stK_1(x:α×α×α){L:List Nat}{k n:Nat}(h:L[k]? =some n):(C.stK x L (k+1)).1=C.adA (C.dbN (C.stK x L k).1 ((C.stK x L k).2-n)) x:=by rw[C.stK_step x h];rfl
theorem Ec.stK_2(x:α×α×α){L:List Nat}{k n:Nat}(h:L[k]? =some n):(C.stK x L (k+1)).2=n:=by rw[C.stK_step x h];rfl
theorem Ec.stK_lt(x:α×α×α){L:List Nat}{B:Nat}(h0:0<B)(hL: ∀b∈L,b<B): ∀k,k<=L.length->(C.stK x L k).2<B
 |0,_=>h0
 |k+1,hk=>by
  obtain ⟨n,hn⟩: ∃n,L[k]? =some n:=⟨L[k]'om,List.getElem?_eq_getElem om⟩;rw[C.stK_2 x hn];exact hL n (List.mem_of_getElem? hn)
def Ec.tmF(x:α×α×α)(L:List Nat):α×α×α:=C.dbN (C.stK x L L.length).1 (C.stK x L L.length).2
theorem Ec.stp_jr{x:α×α×α}{P:Pt α}(hP:C.onP P)(hx:C.jr x P): ∀(L:List Nat) (A:(α×α×α)×Nat) (q:Nat),L.Pairwise (λa b=>b<=a)->C.jr A.1 (C.times P q)->(q=0\/∀b∈L,b<=A.2)->∃q',C.jr (L.foldl (C.stp x) A).1 (C.times P q')/\q'*2^(L.foldl (C.stp x) A).2=q*2^A.2+SOg L
 |[],A,q,_,hA,_=>⟨q,hA,rfl⟩
 |b::L,A,q,hp,hA,hq=>by
  rw[List.pairwise_cons]at hp;have hd:=C.dbN_jr hP hA (A.2-b);have ha:=C.adA_jr (C.times_on hP _) hP hd hx;obtain ⟨q',h1,h2⟩:=Ec.stp_jr hP hx L (C.stp x A b) (q*2^(A.2-b)+1) hp.2 ha (.inr hp.1);refine ⟨q',h1,h2.trans ?_⟩;show (q*2^(A.2-b)+1)*2^b+SOg L=q*2^A.2+(2^b+SOg L);rcases hq with rfl|hq
  ·rw[Nat.zero_mul,Nat.zero_mul];omega
  ·have hb:=hq b List.mem_cons_self
   rw[Nat.add_mul,Nat.mul_assoc,<-Nat.pow_add,show A.2-b+b=A.2 from by omega]
   omega
theorem Ec.tmF_jr{x:α×α×α}{P:Pt α}(hP:C.onP P)(hx:C.jr x P){L:List Nat}(hL:L.Pairwise (λa b=>b<=a)):C.jr (C.tmF x L) (C.times P (SOg L)):=by
 obtain ⟨q,h1,h2⟩:=C.stp_jr hP hx L ((C.R.zero,C.R.zero,C.R.zero),0) 0 hL O (.inl O);have e:C.stK x L L.length=L.foldl (C.stp x) ((C.R.zero,C.R.zero,C.R.zero),0):=by rw[Ec.stK,List.take_length]
 rw[Nat.zero_mul,Nat.zero_add]at h2;have h:=C.dbN_jr hP h1 (L.foldl (C.stp x) ((C.R.zero,C.R.zero,C.R.zero),0)).2;rw[h2]at h;rw[Ec.tmF,e];exact h
end
/-! ### Sums of powers -/
section
variable {α:Type} (R:Rg α)
def Rg.pev:List α->α->α
 |[],_=>R.zero
 |a::p,x=>R.add a (R.mul x (Rg.pev p x))
def Rg.pa:List α->List α->List α
 |[],q=>q
 |a::p,[]=>a::p
 |a::p,b::q=>R.add a b::Rg.pa p q
def Rg.pk(c:α)(p:List α):List α:=p.map (R.mul c)
def Rg.pp:List α->List α->List α
 |[],_=>[]
 |_::_,[]=>[]
 |a::p,b::q=>Rg.pa R (Rg.pk R a (b::q)) (R.zero::Rg.pp p (b::q))
theorem Rg.pev_pa(x:α): ∀p q,R.pev (R.pa p q) x=R.add (R.pev p x) (R.pev q x)
 |[],q=>(R.zero_add _).symm
 |a::p,[]=>(R.add_zero _).symm
 |a::p,b::q=>by
  show R.add (R.add a b) (R.mul x (R.pev (R.pa p q) x))=R.add (R.add a (R.mul x (R.pev p x))) (R.add b (R.mul x (R.pev q x)));rw[Rg.pev_pa x p q,R.mul_add,R.add_four]
theorem Rg.pev_pk(c x:α): ∀p,R.pev (R.pk c p) x=R.mul c (R.pev p x)
 |[]=>(R.mul_zero _).symm
 |a::p=>by
  show R.add (R.mul c a) (R.mul x (R.pev (R.pk c p) x))=R.mul c (R.add a (R.mul x (R.pev p x)));rw[Rg.pev_pk c x p,R.mul_add,R.mul_left_comm]
theorem Rg.pev_pp(x:α): ∀p q,R.pev (R.pp p q) x=R.mul (R.pev p x) (R.pev q x)
 |[],q=>(R.zero_mul _).symm
 |a::p,[]=>(R.mul_zero _).symm
 |a::p,b::q=>by
  show R.pev (R.pa (R.pk a (b::q)) (R.zero::R.pp p (b::q))) x=R.mul (R.add a (R.mul x (R.pev p x))) (R.pev (b::q) x);rw[R.pev_pa,R.pev_pk,R.add_mul,R.mul_assoc,<-Rg.pev_pp x p (b::q)];show R.add _ (R.add R.zero _)=_;rw[R.zero_add]
end
/-! ### What is made of a point's numbers -/
section
variable {α:Type} (C:Ec α)
end
section
variable {α:Type} [DecidableEq α] (C:Ec α)
def nZ:List Bool->Nat->Nat
 |[],n=>n
 |false::r,n=>nZ r (2*n)
 |true::r,n=>nZ r (2*n+1)
end
section
variable {α:Type} (C:Ec α)
end
section
variable {α γ:Type} {C:Ec α} {D:Ec γ} (H:Hw C D)
end
section
variable {α:Type} [DecidableEq α] (C:Ec α)
theorem Ec.times_lt{Q:Pt α}(hQ:C.onP Q){r:Nat}(hr: ∀d,0<d->d<r->∃e,(d*e) % r=1)(qr:C.times Q r=none)(qn:Q≠none){m n:Nat}(hn:n<r)(h:C.times Q m=C.times Q n): ¬m<n:=λhlt=>by
 have e:C.times Q n=C.ad (C.times Q m) (C.times Q (n-m)):=by rw[<-C.times_add hQ];exact congrArg _ om
 rw[<-h]at e;have k:=C.undo (C.times_on hQ m) (C.times_on hQ (n-m));rw[<-e,C.ne_ad_self]at k;exact C.cyc_no hQ hr qr qn (d:=n-m) om om k.symm
theorem Ec.times_inj{Q:Pt α}(hQ:C.onP Q){r:Nat}(hr: ∀d,0<d->d<r->∃e,(d*e) % r=1)(qr:C.times Q r=none)(qn:Q≠none){m n:Nat}(hm:m<r)(hn:n<r)(h:C.times Q m=C.times Q n):m=n:=by
 have h1:=C.times_lt hQ hr qr qn hn h;have h2:=C.times_lt hQ hr qr qn hm h.symm;omega
end
section
variable {α β γ:Type} [DecidableEq α] [DecidableEq β] [DecidableEq γ] {C:Ec α} {B:Ec β} {D:Ec γ} (H:Hw C D) (K:Hw B D)
end
section
variable {α:Type}
theorem Aq(d:Bool)(r:List Bool)(n:Nat):nZ (d::r) n=nZ r (2*n+d.toNat):=by cases d<;>rfl
end
section
variable {α:Type} [DecidableEq α] (C:Ec α)
variable {C} {F:α->α} {SA SP:Pt α->Prop}
end
section
variable {α:Type} [DecidableEq α] (C:Ec α)
variable {C} {F:α->α} {SA SP:Pt α->Prop}
end
end Go.Proofs.YtjookodjbjabbaaGreatDoor
