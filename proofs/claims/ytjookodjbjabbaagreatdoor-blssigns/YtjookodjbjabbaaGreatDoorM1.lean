/- M1 -/
import Derived.Test.YtjookodjbjabbaaGreatDoorM0
set_option maxRecDepth 100000
set_option maxHeartbeats 1000000
namespace Go.Proofs.YtjookodjbjabbaaGreatDoor
section
variable {α:Type} (C:Ec α)
def Ec.z2(z:α):α:=C.R.mul z z
def Ec.z3(z:α):α:=C.R.mul (C.R.mul z z) z
def Ec.jr(J:α×α×α):Pt α->Prop
 |none=>J.2.2=C.R.zero
 |some p=>J.2.2≠C.R.zero/\J.1=C.R.mul p.1 (C.z2 J.2.2)/\J.2.1=C.R.mul p.2 (C.z3 J.2.2)
theorem Ec.z2_ne{z:α}(h:z≠C.R.zero):C.z2 z≠C.R.zero:=λe=>h (C.fd.sq e)
theorem Ec.z3_ne{z:α}(h:z≠C.R.zero):C.z3 z≠C.R.zero:=λe=>(C.fd.two e).elim (λe=>h (C.fd.sq e)) h
theorem Ec.mul_ne{a b:α}(ha:a≠C.R.zero)(hb:b≠C.R.zero):C.R.mul a b≠C.R.zero:=λe=>(C.fd.two e).elim ha hb
theorem Ec.mul_can{a b c:α}(hc:c≠C.R.zero)(h:C.R.mul a c=C.R.mul b c):a=b:=by
 have e:C.R.mul (C.sub a b) c=C.R.zero:=by
  rw[Ec.sub,C.R.add_mul,C.R.neg_mul,h,C.R.add_neg]
 exact C.sub0 ((C.fd.two e).resolve_right hc)
theorem Ec.dbl0{y:α}(h:C.R.add y y=C.R.zero):y=C.R.zero:=by
 have e:C.R.mul (C.R.add C.R.one C.R.one) y=C.R.zero:=by rw[C.R.add_mul,C.R.one_mul,h]
 exact (C.fd.two e).resolve_left C.h2
def Ec.jd(X Y Z:α):α×α×α:=((C.sub (C.sub (C.R.mul (C.R.add (C.R.add (C.R.mul X X) (C.R.mul X X)) (C.R.mul X X)) (C.R.add (C.R.add (C.R.mul X X) (C.R.mul X X)) (C.R.mul X X))) (C.R.add (C.R.add (C.R.mul X (C.R.mul Y Y)) (C.R.mul X (C.R.mul Y Y))) (C.R.add (C.R.mul X (C.R.mul Y Y)) (C.R.mul X (C.R.mul Y Y))))) (C.R.add (C.R.add (C.R.mul X (C.R.mul Y Y)) (C.R.mul X (C.R.mul Y Y))) (C.R.add (C.R.mul X (C.R.mul Y Y)) (C.R.mul X (C.R.mul Y Y))))),(C.sub (C.R.mul (C.R.add (C.R.add (C.R.mul X X) (C.R.mul X X)) (C.R.mul X X)) (C.sub (C.R.add (C.R.add (C.R.mul X (C.R.mul Y Y)) (C.R.mul X (C.R.mul Y Y))) (C.R.add (C.R.mul X (C.R.mul Y Y)) (C.R.mul X (C.R.mul Y Y)))) (C.sub (C.sub (C.R.mul (C.R.add (C.R.add (C.R.mul X X) (C.R.mul X X)) (C.R.mul X X)) (C.R.add (C.R.add (C.R.mul X X) (C.R.mul X X)) (C.R.mul X X))) (C.R.add (C.R.add (C.R.mul X (C.R.mul Y Y)) (C.R.mul X (C.R.mul Y Y))) (C.R.add (C.R.mul X (C.R.mul Y Y)) (C.R.mul X (C.R.mul Y Y))))) (C.R.add (C.R.add (C.R.mul X (C.R.mul Y Y)) (C.R.mul X (C.R.mul Y Y))) (C.R.add (C.R.mul X (C.R.mul Y Y)) (C.R.mul X (C.R.mul Y Y))))))) (C.R.add (C.R.add (C.R.add (C.R.mul (C.R.mul Y Y) (C.R.mul Y Y)) (C.R.mul (C.R.mul Y Y) (C.R.mul Y Y))) (C.R.add (C.R.mul (C.R.mul Y Y) (C.R.mul Y Y)) (C.R.mul (C.R.mul Y Y) (C.R.mul Y Y)))) (C.R.add (C.R.add (C.R.mul (C.R.mul Y Y) (C.R.mul Y Y)) (C.R.mul (C.R.mul Y Y) (C.R.mul Y Y))) (C.R.add (C.R.mul (C.R.mul Y Y) (C.R.mul Y Y)) (C.R.mul (C.R.mul Y Y) (C.R.mul Y Y)))))),(C.R.add (C.R.mul Y Z) (C.R.mul Y Z)))
theorem Ec.jd_x{p:α×α}{Z l:α}(h:C.R.mul l (C.R.add p.2 p.2)=C.R.add (C.R.add (C.R.mul p.1 p.1) (C.R.mul p.1 p.1)) (C.R.mul p.1 p.1)):
 (C.jd (C.R.mul p.1 (C.z2 Z)) (C.R.mul p.2 (C.z3 Z)) Z).1=C.R.mul (C.x3 p p l) (C.z2 (C.jd (C.R.mul p.1 (C.z2 Z)) (C.R.mul p.2 (C.z3 Z)) Z).2.2):=
 zk C.R [p.1,p.2,Z,l] 0x445445565885658855658856588556588565884455658856588556588565885565885658834455658855755888575588855658855755888575588845565885575588857558885565885575588857558883445565885575588857558885565885575588857558884556588557558885755888556588557558885755888 0x5445993636545575588885575588884557558888557558888 0x355588588444556588565885565885658855658856588594557558888557558888 0x44566566566 0x59477 h
theorem Ec.jd_y{p:α×α}{Z l:α}(h:C.R.mul l (C.R.add p.2 p.2)=C.R.add (C.R.add (C.R.mul p.1 p.1) (C.R.mul p.1 p.1)) (C.R.mul p.1 p.1)):
 (C.jd (C.R.mul p.1 (C.z2 Z)) (C.R.mul p.2 (C.z3 Z)) Z).2.1=C.R.mul (C.th p p l).2 (C.z3 (C.jd (C.R.mul p.1 (C.z2 Z)) (C.R.mul p.2 (C.z3 Z)) Z).2.2):=
 zk C.R [p.1,p.2,Z,l] 0x4544556588565885565885658855658856588444556588557558885755888556588557558885755888455658855755888575588855658855755888575588834454455658856588556588565885565885658844556588565885565885658855658856588344556588557558885755888556588557558885755888455658855755888575588855658855755888575588834455658855755888575588855658855755888575588845565885575588857558885565885575588857558883444555755888575588855755888575588855575588857558885575588857558884555755888575588855755888575588855575588857558885575588857558884455575588857558885575588857558885557558885755888557558885755888455575588857558885575588857558885557558885755888557558885755888 0x54594634459936363755455755888855755888845575588885575588884557558888557558888 0x43555885884445565885575588857558885565885575588857558884556588557558885755888556588557558885755888344544556588565885565885658855658856588445565885658855658856588556588565883445565885575588857558885565885575588857558884556588557558885755888556588557558885755888344556588557558885755888556588557558885755888455658855755888575588855658855755888575588835594557558888557558888355588588444556588565885565885658855658856588594557558888557558888 0x44566566566 0x59477 h
def Ec.jh(X Z X' Z':α):α:=(C.sub (C.R.mul X' (C.R.mul Z Z)) (C.R.mul X (C.R.mul Z' Z')))
def Ec.jq(Y Z Y' Z':α):α:=(C.sub (C.R.mul (C.R.mul Y' (C.R.mul Z Z)) Z) (C.R.mul (C.R.mul Y (C.R.mul Z' Z')) Z'))
def Ec.ja(X Y Z X' Y' Z':α):α×α×α:=((C.sub (C.sub (C.sub (C.R.mul (C.sub (C.R.mul (C.R.mul Y' (C.R.mul Z Z)) Z) (C.R.mul (C.R.mul Y (C.R.mul Z' Z')) Z')) (C.sub (C.R.mul (C.R.mul Y' (C.R.mul Z Z)) Z) (C.R.mul (C.R.mul Y (C.R.mul Z' Z')) Z'))) (C.R.mul (C.R.mul (C.sub (C.R.mul X' (C.R.mul Z Z)) (C.R.mul X (C.R.mul Z' Z'))) (C.sub (C.R.mul X' (C.R.mul Z Z)) (C.R.mul X (C.R.mul Z' Z')))) (C.sub (C.R.mul X' (C.R.mul Z Z)) (C.R.mul X (C.R.mul Z' Z'))))) (C.R.mul (C.R.mul X (C.R.mul Z' Z')) (C.R.mul (C.sub (C.R.mul X' (C.R.mul Z Z)) (C.R.mul X (C.R.mul Z' Z'))) (C.sub (C.R.mul X' (C.R.mul Z Z)) (C.R.mul X (C.R.mul Z' Z')))))) (C.R.mul (C.R.mul X (C.R.mul Z' Z')) (C.R.mul (C.sub (C.R.mul X' (C.R.mul Z Z)) (C.R.mul X (C.R.mul Z' Z'))) (C.sub (C.R.mul X' (C.R.mul Z Z)) (C.R.mul X (C.R.mul Z' Z')))))),(C.sub (C.R.mul (C.sub (C.R.mul (C.R.mul Y' (C.R.mul Z Z)) Z) (C.R.mul (C.R.mul Y (C.R.mul Z' Z')) Z')) (C.sub (C.R.mul (C.R.mul X (C.R.mul Z' Z')) (C.R.mul (C.sub (C.R.mul X' (C.R.mul Z Z)) (C.R.mul X (C.R.mul Z' Z'))) (C.sub (C.R.mul X' (C.R.mul Z Z)) (C.R.mul X (C.R.mul Z' Z'))))) (C.sub (C.sub (C.sub (C.R.mul (C.sub (C.R.mul (C.R.mul Y' (C.R.mul Z Z)) Z) (C.R.mul (C.R.mul Y (C.R.mul Z' Z')) Z')) (C.sub (C.R.mul (C.R.mul Y' (C.R.mul Z Z)) Z) (C.R.mul (C.R.mul Y (C.R.mul Z' Z')) Z'))) (C.R.mul (C.R.mul (C.sub (C.R.mul X' (C.R.mul Z Z)) (C.R.mul X (C.R.mul Z' Z'))) (C.sub (C.R.mul X' (C.R.mul Z Z)) (C.R.mul X (C.R.mul Z' Z')))) (C.sub (C.R.mul X' (C.R.mul Z Z)) (C.R.mul X (C.R.mul Z' Z'))))) (C.R.mul (C.R.mul X (C.R.mul Z' Z')) (C.R.mul (C.sub (C.R.mul X' (C.R.mul Z Z)) (C.R.mul X (C.R.mul Z' Z'))) (C.sub (C.R.mul X' (C.R.mul Z Z)) (C.R.mul X (C.R.mul Z' Z')))))) (C.R.mul (C.R.mul X (C.R.mul Z' Z')) (C.R.mul (C.sub (C.R.mul X' (C.R.mul Z Z)) (C.R.mul X (C.R.mul Z' Z'))) (C.sub (C.R.mul X' (C.R.mul Z Z)) (C.R.mul X (C.R.mul Z' Z')))))))) (C.R.mul (C.R.mul (C.R.mul Y (C.R.mul Z' Z')) Z') (C.R.mul (C.R.mul (C.sub (C.R.mul X' (C.R.mul Z Z)) (C.R.mul X (C.R.mul Z' Z'))) (C.sub (C.R.mul X' (C.R.mul Z Z)) (C.R.mul X (C.R.mul Z' Z')))) (C.sub (C.R.mul X' (C.R.mul Z Z)) (C.R.mul X (C.R.mul Z' Z')))))),(C.R.mul (C.R.mul Z Z') (C.sub (C.R.mul X' (C.R.mul Z Z)) (C.R.mul X (C.R.mul Z' Z')))))
theorem Ec.jh_eq(p q:α×α)(Z Z':α):C.jh (C.R.mul p.1 (C.z2 Z)) Z (C.R.mul q.1 (C.z2 Z')) Z'=C.R.mul (C.R.mul (C.z2 Z) (C.z2 Z')) (C.sub q.1 p.1):=zx C.R [p.1,p.2,Z,q.1,q.2,Z'] 0x45595bb58835565885bb 0x555885bb4936
theorem Ec.jq_eq(p q:α×α)(Z Z':α):C.jq (C.R.mul p.2 (C.z3 Z)) Z (C.R.mul q.2 (C.z3 Z')) Z'=C.R.mul (C.R.mul (C.z3 Z) (C.z3 Z')) (C.sub q.2 p.2):=zx C.R [p.1,p.2,Z,q.1,q.2,Z'] 0x4555a55bbb588835557558885bbb 0x555588855bbb4a37
theorem Ec.ja_x{p q:α×α}{Z Z' l:α}(h:C.R.mul l (C.sub p.1 q.1)=C.sub p.2 q.2):(C.ja (C.R.mul p.1 (C.z2 Z)) (C.R.mul p.2 (C.z3 Z)) Z (C.R.mul q.1 (C.z2 Z')) (C.R.mul q.2 (C.z3 Z')) Z').1=C.R.mul (C.x3 p q l) (C.z2 (C.ja (C.R.mul p.1 (C.z2 Z)) (C.R.mul p.2 (C.z3 Z)) Z (C.R.mul q.1 (C.z2 Z')) (C.R.mul q.2 (C.z3 Z')) Z').2.2):=
 zk C.R [p.1,p.2,Z,q.1,q.2,Z',l] 0x44454555a55bbb588835557558885bbb4555a55bbb588835557558885bbb35545595bb58835565885bb45595bb58835565885bb45595bb58835565885bb355565885bb545595bb58835565885bb45595bb58835565885bb355565885bb545595bb58835565885bb45595bb58835565885bb 0x5445cc36395558b45595bb58835565885bb558b45595bb58835565885bb 0x55558b58b58b44555a55bbb588835557558885bbb5c558b45595bb58835565885bb 0x473a 0x5c4639 h
theorem Ec.ja_y{p q:α×α}{Z Z' l:α}(h:C.R.mul l (C.sub p.1 q.1)=C.sub p.2 q.2):(C.ja (C.R.mul p.1 (C.z2 Z)) (C.R.mul p.2 (C.z3 Z)) Z (C.R.mul q.1 (C.z2 Z')) (C.R.mul q.2 (C.z3 Z')) Z').2.1=C.R.mul (C.th p q l).2 (C.z3 (C.ja (C.R.mul p.1 (C.z2 Z)) (C.R.mul p.2 (C.z3 Z)) Z (C.R.mul q.1 (C.z2 Z')) (C.R.mul q.2 (C.z3 Z')) Z').2.2):=
 zk C.R [p.1,p.2,Z,q.1,q.2,Z',l] 0x454555a55bbb588835557558885bbb455565885bb545595bb58835565885bb45595bb58835565885bb344454555a55bbb588835557558885bbb4555a55bbb588835557558885bbb35545595bb58835565885bb45595bb58835565885bb45595bb58835565885bb355565885bb545595bb58835565885bb45595bb58835565885bb355565885bb545595bb58835565885bb45595bb58835565885bb355557558885bbb5545595bb58835565885bb45595bb58835565885bb45595bb58835565885bb 0x545c463445cc36393755558b45595bb58835565885bb558b45595bb58835565885bb558b45595bb58835565885bb 0x455558b58b58b455565885bb545595bb58835565885bb45595bb58835565885bb344454555a55bbb588835557558885bbb4555a55bbb588835557558885bbb35545595bb58835565885bb45595bb58835565885bb45595bb58835565885bb355565885bb545595bb58835565885bb45595bb58835565885bb355565885bb545595bb58835565885bb45595bb58835565885bb355c558b45595bb58835565885bb55558b58b58b44555a55bbb588835557558885bbb5c558b45595bb58835565885bb 0x473a 0x5c4639 h
theorem Ec.jr_n{J:α×α×α}{P:Pt α}(h:C.jr J P):C.jr (J.1,C.R.neg J.2.1,J.2.2) (C.ne P):=by
 cases P with
 |none=>exact h
 |some p=>exact ⟨h.1,h.2.1,by
  show C.R.neg J.2.1=C.R.mul (C.R.neg p.2) (C.z3 J.2.2);rw[h.2.2,C.R.neg_mul]⟩
theorem Ec.jr_one{J:α×α×α}{P Q:Pt α}(h:C.jr J P)(k:C.jr J Q):P=Q:=by
 cases P with
 |none=>
  cases Q with
  |none=>rfl
  |some q=>exact absurd h k.1
 |some p=>
  cases Q with
  |none=>exact absurd k h.1
  |some q=>exact congrArg some (Prod.ext (C.mul_can (C.z2_ne h.1) (h.2.1.symm.trans k.2.1)) (C.mul_can (C.z3_ne h.1) (h.2.2.symm.trans k.2.2)))
end
section
variable {α:Type} [DecidableEq α] (C:Ec α)
def Ec.jdF(J:α×α×α):α×α×α:=if J.2.2=C.R.zero\/J.2.1=C.R.zero then (C.R.zero,C.R.zero,C.R.zero)else C.jd J.1 J.2.1 J.2.2
theorem Ec.jr_d{J:α×α×α}{P:Pt α}(hP:C.onP P)(h:C.jr J P):C.jr (C.jdF J) (C.ad P P):=by
 cases P with
 |none=>
  rw[Ec.jdF,if_pos (.inl h)];rfl
 |some p=>
  obtain ⟨hz,hx,hy⟩:=h;obtain ⟨X,Y,Z⟩:=J;simp only at hz hx hy;by_cases hp:p.2=C.R.zero
  ·have hy0:Y=C.R.zero:=by rw[hy,hp,C.R.zero_mul]
   rw[Ec.jdF,if_pos (.inr hy0),C.ad_opp ⟨rfl,by rw[hp,C.R.add_zero]⟩];rfl
  ·have hY:Y≠C.R.zero:=by rw[hy];exact C.mul_ne hp (C.z3_ne hz)
   have ho: ¬C.opp p p:=λe=>hp (C.dbl0 e.2);have hs:=C.sl_slope hP hP ho;rw[Ec.jdF,if_neg (λe=>e.elim hz hY),C.ad_sl hP hP ho hs];subst hx hy;refine ⟨?_,C.jd_x hs.2,C.jd_y hs.2⟩;intro e;exact (C.mul_ne hY hz) (C.dbl0 e)
def Ec.jaF(J K:α×α×α):α×α×α:=
 if J.2.2=C.R.zero then K else if K.2.2=C.R.zero then J else
  if C.jh J.1 J.2.2 K.1 K.2.2=C.R.zero then (if C.jq J.2.1 J.2.2 K.2.1 K.2.2=C.R.zero then C.jdF J else (C.R.zero,C.R.zero,C.R.zero))else C.ja J.1 J.2.1 J.2.2 K.1 K.2.1 K.2.2
theorem Ec.jr_a{J K:α×α×α}{P Q:Pt α}(hP:C.onP P)(hQ:C.onP Q)(h:C.jr J P)(k:C.jr K Q):C.jr (C.jaF J K) (C.ad P Q):=by
 cases P with
 |none=>rw[Ec.jaF,if_pos (show J.2.2=C.R.zero from h)];exact k
 |some p=>
  cases Q with
  |none=>rw[Ec.jaF,if_neg h.1,if_pos (show K.2.2=C.R.zero from k)];exact h
  |some q=>
   obtain ⟨X,Y,Z⟩:=J;obtain ⟨X',Y',Z'⟩:=K;have h':=h;obtain ⟨hz,hx,hy⟩:=h;obtain ⟨kz,kx,ky⟩:=k;simp only at hz hx hy kz kx ky;rw[Ec.jaF,if_neg hz,if_neg kz];show C.jr (if C.jh X Z X' Z'=C.R.zero then (if C.jq Y Z Y' Z'=C.R.zero then C.jdF (X,Y,Z)else (C.R.zero,C.R.zero,C.R.zero))else C.ja X Y Z X' Y' Z') (C.ad (some p) (some q))
   have ex:C.jh X Z X' Z'=C.R.zero↔p.1=q.1:=by
    rw[hx,kx,C.jh_eq];refine ⟨λe=>(C.sub0 ((C.fd.two e).resolve_left (C.mul_ne (C.z2_ne hz) (C.z2_ne kz)))).symm,λe=>by rw[e,C.sub_self,C.R.mul_zero]⟩
   have ey:C.jq Y Z Y' Z'=C.R.zero↔p.2=q.2:=by
    rw[hy,ky,C.jq_eq];refine ⟨λe=>(C.sub0 ((C.fd.two e).resolve_left (C.mul_ne (C.z3_ne hz) (C.z3_ne kz)))).symm,λe=>by rw[e,C.sub_self,C.R.mul_zero]⟩
   by_cases hxe:p.1=q.1
   ·rw[if_pos (ex.2 hxe)]
    by_cases hye:p.2=q.2
    ·rw[if_pos (ey.2 hye)]
     obtain rfl:p=q:=Prod.ext hxe hye;exact C.jr_d hP h'
    ·rw[if_neg (λe=>hye (ey.1 e))]
     by_cases ho:C.opp p q
     ·rw[C.ad_opp ho];rfl
     ·exact absurd (by
       have hs:=(C.sl_slope hP hQ ho).1;rw[hxe,C.sub_self,C.R.mul_zero]at hs;exact C.sub0 hs.symm) hye
   ·rw[if_neg (λe=>hxe (ex.1 e))]
    have ho: ¬C.opp p q:=λe=>hxe e.1;have hs:=C.sl_slope hP hQ ho;rw[C.ad_sl hP hQ ho hs];have hh:C.jh X Z X' Z'≠C.R.zero:=λe=>hxe (ex.1 e);subst hx hy kx ky;exact ⟨C.mul_ne (C.mul_ne hz kz) hh,C.ja_x hs.1,C.ja_y hs.1⟩
end
structure Hw{α β:Type}(C:Ec α)(D:Ec β) where
 f:α->β
 w:β
 fa: ∀a b,f (C.R.add a b)=D.R.add (f a) (f b)
 fm: ∀a b,f (C.R.mul a b)=D.R.mul (f a) (f b)
 fn: ∀a,f (C.R.neg a)=D.R.neg (f a)
 f0:f C.R.zero=D.R.zero
 fi: ∀a,f a=D.R.zero->a=C.R.zero
 wn:w≠D.R.zero
 wb:D.R.mul (D.R.mul (D.R.mul w (D.R.mul w w)) (D.R.mul w (D.R.mul w w))) (f C.b)=D.b
abbrev Tw{α:Type}(C:Ec α):=Hw C C
section
variable {α β:Type} {C:Ec α} {D:Ec β} (T:Hw C D)
def Hw.m(p:α×α):β×β:=(D.R.mul (D.R.mul T.w T.w) (T.f p.1),D.R.mul (D.R.mul T.w (D.R.mul T.w T.w)) (T.f p.2))
theorem Hw.fs(a b:α):T.f (C.sub a b)=D.sub (T.f a) (T.f b):=by
 show T.f (C.R.add a (C.R.neg b))=D.R.add (T.f a) (D.R.neg (T.f b));rw[T.fa,T.fn]
theorem Hw.inj{a b:α}(h:T.f a=T.f b):a=b:=C.sub0 (T.fi _ (by rw[T.fs,h,D.sub_self]))
theorem Hw.w2:D.R.mul T.w T.w≠D.R.zero:=λh=>(D.fd.two h).elim T.wn T.wn
theorem Hw.w3:D.R.mul T.w (D.R.mul T.w T.w)≠D.R.zero:=λh=>(D.fd.two h).elim T.wn T.w2
def Hw.p:Pt α->Pt β
 |none=>none
 |some q=>some (T.m q)
theorem Hw.m_on{p:α×α}(h:C.on p):D.on (T.m p):=by
 have k:D.R.mul (T.f p.2) (T.f p.2)=D.R.add (D.R.mul (T.f p.1) (D.R.mul (T.f p.1) (T.f p.1))) (T.f C.b):=by
  have e:=congrArg T.f (show C.R.mul p.2 p.2=C.R.add (C.R.mul p.1 (C.R.mul p.1 p.1)) C.b from h);rw[T.fa,T.fm,T.fm,T.fm]at e;exact e
 have kb:=T.wb;exact zl D.R [T.f p.1,T.f p.2,T.f p.1,T.f p.2,T.f p.1,T.w,T.f C.b,D.b] 0x555b5bb755b5bb7 0x4555b5bb5b5bb456566c52d 0x4555bb6555bb655bb6d 0x4555b5bb5b5bb57752555b5bb5b5bbc (lca (lcm k) (lcm kb))
theorem Hw.sl{p q:α×α}{s:α}(h:C.Sl p q s):D.Sl (T.m p) (T.m q) (D.R.mul T.w (T.f s)):=by
 have k1:D.R.mul (T.f s) (D.sub (T.f p.1) (T.f q.1))=D.sub (T.f p.2) (T.f q.2):=by
  have e:=congrArg T.f h.1;rw[T.fm,T.fs,T.fs]at e;exact e
 have k2:D.R.mul (T.f s) (D.R.add (T.f p.2) (T.f q.2))=D.R.add (D.R.add (D.R.mul (T.f p.1) (T.f p.1)) (D.R.mul (T.f p.1) (T.f q.1))) (D.R.mul (T.f q.1) (T.f q.1)):=by
  have e:=congrArg T.f h.2;rw[T.fm,T.fa,T.fa,T.fa,T.fm,T.fm,T.fm]at e;exact e
 exact ⟨zk D.R [T.f p.1,T.f p.2,T.f q.1,T.f q.2,T.f s,T.w,T.f C.b,D.b] 0x55ba455bb6355bb8 0x455b5bb7355b5bb9 0x5b5bb 0x4739 0x5a4638 k1,zk D.R [T.f p.1,T.f p.2,T.f q.1,T.f q.2,T.f s,T.w,T.f C.b,D.b] 0x55ba455b5bb755b5bb9 0x44555bb655bb6555bb655bb8555bb855bb8 0x55bb5bb 0x44566568588 0x5a479 k2⟩
theorem Hw.th(p q:α×α)(s:α):D.th (T.m p) (T.m q) (D.R.mul T.w (T.f s))=T.m (C.th p q s):=by
 have ex:T.f (C.x3 p q s)=D.sub (D.sub (D.R.mul (T.f s) (T.f s)) (T.f p.1)) (T.f q.1):=by
  show T.f (C.sub (C.sub (C.R.mul s s) p.1) q.1)=_;rw[T.fs,T.fs,T.fm]
 have ey:T.f (C.sub (C.R.mul s (C.sub p.1 (C.x3 p q s))) p.2)=D.sub (D.R.mul (T.f s) (D.sub (T.f p.1) (D.sub (D.sub (D.R.mul (T.f s) (T.f s)) (T.f p.1)) (T.f q.1)))) (T.f p.2):=by
  rw[T.fs,T.fm,T.fs,ex]
 refine Prod.ext ?_ ?_
 ·show D.sub (D.sub (D.R.mul (D.R.mul T.w (T.f s)) (D.R.mul T.w (T.f s))) (D.R.mul (D.R.mul T.w T.w) (T.f p.1))) (D.R.mul (D.R.mul T.w T.w) (T.f q.1))=D.R.mul (D.R.mul T.w T.w) (T.f (C.x3 p q s))
  rw[ex];exact zx D.R [T.f p.1,T.f p.2,T.f q.1,T.f q.2,T.f s,T.w,T.f C.b,D.b] 0x4455ba5ba355bb6355bb8 0x55bb445aa3638
 ·show D.sub (D.R.mul (D.R.mul T.w (T.f s)) (D.sub (D.R.mul (D.R.mul T.w T.w) (T.f p.1)) (D.sub (D.sub (D.R.mul (D.R.mul T.w (T.f s)) (D.R.mul T.w (T.f s))) (D.R.mul (D.R.mul T.w T.w) (T.f p.1))) (D.R.mul (D.R.mul T.w T.w) (T.f q.1))))) (D.R.mul (D.R.mul T.w (D.R.mul T.w T.w)) (T.f p.2))=D.R.mul (D.R.mul T.w (D.R.mul T.w T.w)) (T.f (C.sub (C.R.mul s (C.sub p.1 (C.x3 p q s))) p.2))
  rw[ey];exact zx D.R [T.f p.1,T.f p.2,T.f q.1,T.f q.2,T.f s,T.w,T.f C.b,D.b] 0x455ba455bb634455ba5ba355bb6355bb8355b5bb7 0x55b5bb45a463445aa363837
theorem Hw.opp{p q:α×α}:D.opp (T.m p) (T.m q)↔C.opp p q:=by
 refine ⟨λh=>⟨?_, ?_⟩,λh=>⟨?_, ?_⟩⟩
 ·have e:D.R.mul (D.R.mul T.w T.w) (D.sub (T.f p.1) (T.f q.1))=D.R.zero:=zk D.R [T.f p.1,T.f p.2,T.f q.1,T.f q.2,T.f p.1,T.w,T.f C.b,D.b] 0x55bb4638 0x1 0x2 0x55bb8 0x55bb6 h.1
  exact T.inj (D.sub0 ((D.fd.two e).resolve_left T.w2))
 ·have e:D.R.mul (D.R.mul T.w (D.R.mul T.w T.w)) (D.R.add (T.f p.2) (T.f q.2))=D.R.zero:=zk D.R [T.f p.1,T.f p.2,T.f q.1,T.f q.2,T.f p.1,T.w,T.f C.b,D.b] 0x55b5bb479 0x1 0x2 0x1 0x455b5bb755b5bb9 h.2
  have k:=(D.fd.two e).resolve_left T.w3;rw[<-T.fa]at k;exact T.fi _ k
 ·show D.R.mul (D.R.mul T.w T.w) (T.f p.1)=D.R.mul (D.R.mul T.w T.w) (T.f q.1)
  rw[h.1]
 ·have k:D.R.add (T.f p.2) (T.f q.2)=D.R.zero:=by rw[<-T.fa,h.2,T.f0]
  exact zk D.R [T.f p.1,T.f p.2,T.f q.1,T.f q.2,T.f p.1,T.w,T.f C.b,D.b] 0x455b5bb755b5bb9 0x1 0x5b5bb 0x1 0x479 k
theorem Hw.p_on{P:Pt α}(h:C.onP P):D.onP (T.p P):=by
 cases P with
 |none=>exact True.intro
 |some q=>exact T.m_on h
variable [DecidableEq α] [DecidableEq β]
theorem Hw.p_ad{P Q:Pt α}(hP:C.onP P)(hQ:C.onP Q):T.p (C.ad P Q)=D.ad (T.p P) (T.p Q):=by
 cases P with
 |none=>rfl
 |some p=>
  cases Q with
  |none=>rfl
  |some q=>
   by_cases ho:C.opp p q
   ·rw[C.ad_opp ho]
    exact (D.ad_opp (T.opp.2 ho)).symm
   ·have hs:=C.sl_slope hP hQ ho
    rw[C.ad_sl hP hQ ho hs];refine (congrArg some (T.th p q (C.slope p q)).symm).trans ?_;exact (D.ad_sl (T.m_on hP) (T.m_on hQ) (λh=>ho (T.opp.1 h)) (T.sl hs)).symm
theorem Hw.p_times{P:Pt α}(hP:C.onP P): ∀n,T.p (C.times P n)=D.times (T.p P) n
 |0=>rfl
 |n+1=>by rw[Ec.times,T.p_ad (C.times_on hP n) hP,Hw.p_times hP n];rfl
end
/-! ### Points of one order -/
section
variable {α:Type} [DecidableEq α] (C:Ec α)
theorem Ec.times_q{P:Pt α}(hP:C.onP P){r:Nat}(h:C.times P r=none)(k:Nat):C.times P (r*k)=none:=by
 rw[C.times_mul hP,h,C.times_none]
theorem Ec.times_u{P:Pt α}(hP:C.onP P){r:Nat}(h:C.times P r=none){n:Nat}(hn:n % r=1):C.times P n=P:=by
 rw[<-Nat.div_add_mod n r,hn,C.times_add hP,C.times_q hP h];rfl
theorem Ec.times_swap{P:Pt α}(hP:C.onP P)(m n:Nat):C.times (C.times P m) n=C.times (C.times P n) m:=by
 rw[<-C.times_mul hP,<-C.times_mul hP,Nat.mul_comm]
theorem Ec.can{P Q S:Pt α}(hP:C.onP P)(hQ:C.onP Q)(hS:C.onP S)(h:C.ad P Q=C.ad P S):Q=S:=by
 rw[<-C.undo hP hQ,h,C.undo hP hS]
theorem Ec.cyc_no{G:Pt α}(hG:C.onP G){r:Nat}(hr: ∀d,0<d->d<r->∃e,(d*e) % r=1)(gr:C.times G r=none)(gn:G≠none){d:Nat}(h0:0<d)(h1:d<r):C.times G d≠none:=by
 intro h;obtain ⟨e,he⟩:=hr d h0 h1;refine gn ?_;rw[<-C.times_u hG gr he,C.times_mul hG,h,C.times_none]
end
def oL(p:Nat->Bool)(N:Nat):Nat->List Nat
 |0=>[]
 |m+1=>if p m=true then oL p N m++[N-1-m]else oL p N m
def vN(p:Nat->Bool):Nat->Nat
 |0=>0
 |m+1=>2*vN p m+(if p m=true then 1 else 0)
def SOg:List Nat->Nat
 |[]=>0
 |n::l=>2^n+SOg l
theorem BB: ∀l m:List Nat,SOg (l++m)=SOg l+SOg m
 |[],m=>by rw[List.nil_append,SOg,Nat.zero_add]
 |n::l,m=>by rw[List.cons_append,SOg,SOg,BB l m,Nat.add_assoc]
theorem Cg{p:Nat->Bool}{N m:Nat}(h:p m=true):oL p N (m+1)=oL p N m++[N-1-m]:=if_pos h
theorem GX{p:Nat->Bool}{N m:Nat}(h: ¬p m=true):oL p N (m+1)=oL p N m:=if_neg h
theorem Fq(p:Nat->Bool)(N k:Nat): ∀n,k<=n->∃r,oL p N n=oL p N k++r
 |0,h=>⟨[],by obtain rfl:k=0:=om
              rw[List.append_nil]⟩
 |n+1,h=>by
  rcases Nat.lt_or_ge n k with h'|h'
  ·obtain rfl:k=n+1:=om
   exact ⟨[],by rw[List.append_nil]⟩
  ·obtain ⟨r,hr⟩:=Fq p N k n h'
   by_cases hp:p n=true
   ·exact ⟨r++[N-1-n],by rw[Cg hp,hr,List.append_assoc]⟩
   ·exact ⟨r,by rw[GX hp,hr]⟩
theorem Nb{p:Nat->Bool}{N k n:Nat}(hk:k<n)(h:p k=true):(oL p N n)[(oL p N k).length]? =some (N-1-k):=by
 obtain ⟨r,hr⟩:=Fq p N (k+1) n hk;rw[hr,Cg h,List.append_assoc,List.getElem?_append_right (Nat.le_refl _),Nat.sub_self];rfl
theorem MF{p:Nat->Bool}{N m:Nat}(h:p m=true):(oL p N (m+1)).length=(oL p N m).length+1:=by rw[Cg h];simp
theorem NC{p:Nat->Bool}{N m:Nat}(h: ¬p m=true):(oL p N (m+1)).length=(oL p N m).length:=by rw[GX h]
theorem uy(p:Nat->Bool)(N:Nat): ∀m b,b∈oL p N m->N-m<=b/\b<=N-1
 |0,b,h=>by cases h
 |m+1,b,h=>by
  by_cases hp:p m=true
  ·rw[Cg hp]at h
   rcases List.mem_append.1 h with h|h
   ·have:=uy p N m b h
    omega
   ·rw[List.mem_singleton]at h
    omega
  ·rw[GX hp]at h
   have:=uy p N m b h;omega
theorem FB{p:Nat->Bool}{N m b:Nat}(h:b∈oL p N m)(hm:m<=N):b<N:=by
 rcases Nat.eq_zero_or_pos N with h0|h0
 ·obtain rfl:m=0:=om
  cases h
 ·have:=uy p N m b h
  omega
theorem xe(p:Nat->Bool)(N:Nat): ∀m,m<=N->(oL p N m).Pairwise (λa b=>b<=a)
 |0,_=>List.Pairwise.nil
 |m+1,hm=>by
  by_cases hp:p m=true
  ·rw[Cg hp,List.pairwise_append]
   refine ⟨xe p N m om,List.pairwise_singleton _ _,λa ha b hb=> ?_⟩;rw[List.mem_singleton]at hb;have:=uy p N m a ha;omega
  ·rw[GX hp];exact xe p N m om
theorem yh(p:Nat->Bool)(N:Nat): ∀m,m<=N->SOg (oL p N m)=vN p m*2^(N-m)
 |0,_=>by rw[oL,vN,Nat.zero_mul];rfl
 |m+1,hm=>by
  have e:2^(N-m)=2*2^(N-1-m):=by rw[<-Nat.pow_succ',show (N-1-m).succ=N-m from by omega]
  by_cases hp:p m=true
  ·rw[Cg hp,BB,yh p N m om,vN,if_pos hp,SOg,SOg,e,show N-(m+1)=N-1-m from by omega]
   generalize 2^(N-1-m)=z;rw[Nat.add_mul,Nat.mul_assoc 2,Nat.mul_left_comm];omega
  ·rw[GX hp,yh p N m om,vN,if_neg hp,e,show N-(m+1)=N-1-m from by omega,Nat.add_zero]
   generalize 2^(N-1-m)=z;rw[Nat.mul_assoc 2,Nat.mul_left_comm]
theorem yO(p:Nat->Bool)(N:Nat):SOg (oL p N N)=vN p N:=by
 rw[yh p N N (Nat.le_refl _),Nat.sub_self,Nat.pow_zero,Nat.mul_one]
theorem GG{p:Nat->Bool}{N M:Nat}(hM:M<2^N)(h: ∀m,m<N->(p m=true↔M / 2^(N-1-m) % 2=1)): ∀m,m<=N->vN p m=M / 2^(N-m)
 |0,_=>by rw[vN,Nat.sub_zero,Nat.div_eq_of_lt hM]
 |m+1,hm=>by
  have e:2^(N-m)=2^(N-1-m)*2:=by rw[<-Nat.pow_succ,show (N-1-m).succ=N-m from by omega]
  have k:=h m om;rw[vN,GG hM h m om,e,<-Nat.div_div_eq_div_mul,show N-(m+1)=N-1-m from by omega]
  generalize M / 2^(N-1-m)=z at k;by_cases hp:p m=true
  ·rw[if_pos hp]
   have:=k.1 hp;omega
  ·rw[if_neg hp]
   have:z % 2≠1:=λe=>hp (k.2 e);omega
theorem O6{p:Nat->Bool}{N M:Nat}(hM:M<2^N)(h: ∀m,m<N->(p m=true↔M / 2^(N-1-m) % 2=1)):vN p N=M:=by
 rw[GG hM h N (Nat.le_refl _),Nat.sub_self,Nat.pow_zero,Nat.div_one]
section
variable {α:Type} (C:Ec α)
def Ec.dbA(x:α×α×α):α×α×α:=
 let a:=C.R.add x.2.1 x.2.1
 let s:=C.R.mul x.1 x.1
 let u:=C.R.add (C.R.add s s) s
 let h:=C.R.mul a a
 let b:=C.R.mul h x.1
 let X:=C.sub (C.sub (C.R.mul u u) b) b
 (X,C.sub (C.R.mul u (C.sub b X)) (C.R.mul (C.R.mul h a) x.2.1),C.R.mul x.2.2 a)
theorem Ec.dbl_ext(m:α){s s' c c' z z':α}(hs:s=s')(hc:c=c')(hz:z=z'):(C.sub (C.sub (C.R.mul m m) s) s,C.sub (C.R.mul m (C.sub s (C.sub (C.sub (C.R.mul m m) s) s))) c,z)=(C.sub (C.sub (C.R.mul m m) s') s',C.sub (C.R.mul m (C.sub s' (C.sub (C.sub (C.R.mul m m) s') s'))) c',z'):=by rw[hs,hc,hz]
theorem Ec.dbA_jd(x:α×α×α):C.dbA x=C.jd x.1 x.2.1 x.2.2:=C.dbl_ext (C.R.add (C.R.add (C.R.mul x.1 x.1) (C.R.mul x.1 x.1)) (C.R.mul x.1 x.1))
 (zx C.R [x.1,x.2.1,x.2.2] 0x554774776 0x44565775657745657756577)
 (zx C.R [x.1,x.2.1,x.2.2] 0x5554774774777 0x444557757755775774557757755775774455775775577577455775775577577)
 (zx C.R [x.1,x.2.1,x.2.2] 0x58477 0x4578578)
def Ec.adG(x y:α×α×α):α×α×α:=
 let u:=C.R.mul x.1 (C.R.mul y.2.2 y.2.2)
 let s:=C.R.mul (C.R.mul x.2.1 (C.R.mul y.2.2 y.2.2)) y.2.2
 let h:=C.sub (C.R.mul y.1 (C.R.mul x.2.2 x.2.2)) u
 let r:=C.sub (C.R.mul (C.R.mul y.2.1 (C.R.mul x.2.2 x.2.2)) x.2.2) s
 let q:=C.R.mul h h
 let c:=C.R.mul q h
 let w:=C.R.mul q u
 let X:=C.sub (C.sub (C.sub (C.R.mul r r) c) w) w
 (X,C.sub (C.R.mul r (C.sub w X)) (C.R.mul c s),C.R.mul (C.R.mul x.2.2 y.2.2) h)
theorem Ec.add_ext{a w w' r k k' z:α}(hw:w=w')(hk:k=k'):(C.sub (C.sub a w) w,C.sub (C.R.mul r (C.sub w (C.sub (C.sub a w) w))) k,z)=(C.sub (C.sub a w') w',C.sub (C.R.mul r (C.sub w' (C.sub (C.sub a w') w'))) k',z):=by rw[hw,hk]
theorem Ec.adG_ja(x y:α×α×α):C.adG x y=C.ja x.1 x.2.1 x.2.2 y.1 y.2.1 y.2.2:=C.add_ext (C.R.mul_comm _ _) (C.R.mul_comm _ _)
theorem Ec.same_iff{p q:α×α}{x y:α×α×α}(h:C.jr x (some p))(k:C.jr y (some q)):(C.R.mul x.1 (C.R.mul y.2.2 y.2.2)=C.R.mul y.1 (C.R.mul x.2.2 x.2.2)↔p.1=q.1)/\(C.R.mul (C.R.mul x.2.1 (C.R.mul y.2.2 y.2.2)) y.2.2=C.R.mul (C.R.mul y.2.1 (C.R.mul x.2.2 x.2.2)) x.2.2↔p.2=q.2):=by
 have hx:x.1=C.R.mul p.1 (C.R.mul x.2.2 x.2.2):=h.2.1;have hy:x.2.1=C.R.mul p.2 (C.R.mul (C.R.mul x.2.2 x.2.2) x.2.2):=h.2.2;have kx:y.1=C.R.mul q.1 (C.R.mul y.2.2 y.2.2):=k.2.1;have ky:y.2.1=C.R.mul q.2 (C.R.mul (C.R.mul y.2.2 y.2.2) y.2.2):=k.2.2;have n2:=C.mul_ne (C.z2_ne h.1) (C.z2_ne k.1);have n3:=C.mul_ne (C.z3_ne h.1) (C.z3_ne k.1);rw[hx,hy,kx,ky];refine ⟨⟨λe=>C.mul_can n2 ?_,λe=> ?_⟩,⟨λe=>C.mul_can n3 ?_,λe=> ?_⟩⟩
 ·show C.R.mul p.1 (C.R.mul (C.R.mul x.2.2 x.2.2) (C.R.mul y.2.2 y.2.2))=C.R.mul q.1 (C.R.mul (C.R.mul x.2.2 x.2.2) (C.R.mul y.2.2 y.2.2))
  exact zk C.R [p.1,q.1,x.2.2,y.2.2] 0x565588599 0x575588599 0x2 0x557599588 0x556588599 e
 ·rw[e]
  exact zx C.R [p.1,q.1,x.2.2,y.2.2] 0x557588599 0x557599588
 ·show C.R.mul p.2 (C.R.mul (C.R.mul (C.R.mul x.2.2 x.2.2) x.2.2) (C.R.mul (C.R.mul y.2.2 y.2.2) y.2.2))=C.R.mul q.2 (C.R.mul (C.R.mul (C.R.mul x.2.2 x.2.2) x.2.2) (C.R.mul (C.R.mul y.2.2 y.2.2) y.2.2))
  exact zk C.R [p.2,q.2,x.2.2,y.2.2] 0x5655588855999 0x5755588855999 0x2 0x5557559995888 0x5556558885999 e
 ·rw[e]
  exact zx C.R [p.2,q.2,x.2.2,y.2.2] 0x5557558885999 0x5557559995888
theorem Ec.same_iff'{p q:α×α}{x y:α×α×α}(h:C.jr x (some p))(k:C.jr y (some q)):(C.R.mul x.1 (C.R.mul y.2.2 y.2.2)=C.R.mul y.1 (C.R.mul x.2.2 x.2.2)↔p.1=q.1)/\(C.R.mul x.2.1 (C.R.mul (C.R.mul y.2.2 y.2.2) y.2.2)=C.R.mul y.2.1 (C.R.mul (C.R.mul x.2.2 x.2.2) x.2.2)↔p.2=q.2):=by
 have s:=C.same_iff h k;rw[C.R.mul_assoc,C.R.mul_assoc y.2.1]at s;exact s
def Ec.eqJ(x y:α×α×α):Prop:=(x.2.2=C.R.zero/\y.2.2=C.R.zero)\/(¬x.2.2=C.R.zero/\¬y.2.2=C.R.zero/\C.R.mul x.1 (C.R.mul y.2.2 y.2.2)=C.R.mul y.1 (C.R.mul x.2.2 x.2.2)/\C.R.mul x.2.1 (C.R.mul (C.R.mul y.2.2 y.2.2) y.2.2)=C.R.mul y.2.1 (C.R.mul (C.R.mul x.2.2 x.2.2) x.2.2))
theorem Ec.eqJ_iff{x y:α×α×α}{P Q:Pt α}(h:C.jr x P)(k:C.jr y Q):C.eqJ x y↔P=Q:=by
 cases P with
 |none=>
  cases Q with
  |none=>exact ⟨λ_=>rfl,λ_=>.inl ⟨h,k⟩⟩
  |some q=>exact ⟨λe=>e.elim (λe=>absurd e.2 k.1) (λe=>absurd h e.1),λe=>by cases e⟩
 |some p=>
  cases Q with
  |none=>exact ⟨λe=>e.elim (λe=>absurd e.1 h.1) (λe=>absurd k e.2.1),λe=>by cases e⟩
  |some q=>
   have s:=C.same_iff' h k;exact ⟨λe=>e.elim (λe=>absurd e.1 h.1) (λe=>congrArg some (Prod.ext (s.1.1 e.2.2.1) (s.2.1 e.2.2.2))),λe=>.inr ⟨h.1,k.1,s.1.2 (congrArg Prod.fst (Option.some.inj e)),s.2.2 (congrArg Prod.snd (Option.some.inj e))⟩⟩
theorem Ec.xy_w{J:α×α×α}{p:α×α}(h:C.jr J (some p)){v:α}(hv:C.R.mul J.2.2 v=C.R.one):C.R.mul J.1 (C.R.mul v v)=p.1/\C.R.mul J.2.1 (C.R.mul (C.R.mul v v) v)=p.2:=by
 have hx:J.1=C.R.mul p.1 (C.R.mul J.2.2 J.2.2):=h.2.1;have hy:J.2.1=C.R.mul p.2 (C.R.mul (C.R.mul J.2.2 J.2.2) J.2.2):=h.2.2;have e2:C.R.mul (C.R.mul J.2.2 v) (C.R.mul J.2.2 v)=C.R.one:=by rw[hv,C.R.mul_one]
 refine ⟨?_, ?_⟩
 ·rw[hx]
  exact zk C.R [p.1,J.2.2,v] 0x556577588 0x6 0x6 0x2 0x5578578 e2
 ·rw[hy]
  exact zl C.R [p.2,J.2.2,v] 0x5565577755888 0x45565782562 0x6 0x4556578557857856578 (lca (lcm e2) (lcm hv))
theorem Ec.jr_zI{J:α×α×α}{P:Pt α}(h:C.jr J P):J.2.2=C.R.zero↔P=none:=by
 cases P with
 |none=>exact ⟨λ_=>rfl,λ_=>h⟩
 |some p=>exact ⟨λe=>absurd e h.1,λe=>by cases e⟩
theorem Ec.adA_same{x y:α×α×α}{P Q:Pt α}(h:C.jr x P)(k:C.jr y Q)(h1: ¬x.2.2=C.R.zero)(h2: ¬y.2.2=C.R.zero)(h3:C.jh x.1 x.2.2 y.1 y.2.2=C.R.zero)(h4:C.jq x.2.1 x.2.2 y.2.1 y.2.2=C.R.zero):Q=P:=by
 cases P with
 |none=>exact absurd h h1
 |some p=>
  cases Q with
  |none=>exact absurd k h2
  |some q=>
   have s:=C.same_iff h k;exact congrArg some (Prod.ext (s.1.1 (C.sub0 h3).symm).symm (s.2.1 (C.sub0 h4).symm).symm)
end
section
variable {α:Type} [DecidableEq α] (C:Ec α)
theorem Ec.dbA_jr{x:α×α×α}{P:Pt α}(hP:C.onP P)(h:C.jr x P):C.jr (C.dbA x) (C.ad P P):=by
 have k:=C.jr_d hP h;by_cases hz:x.2.2=C.R.zero\/x.2.1=C.R.zero
 ·rw[show C.jdF x=(C.R.zero,C.R.zero,C.R.zero)from if_pos hz]at k
  rw[(C.jr_zI k).1 O];show C.R.mul x.2.2 (C.R.add x.2.1 x.2.1)=C.R.zero;rcases hz with e|e
  ·rw[e,C.R.zero_mul]
  ·rw[e,C.R.add_zero,C.R.mul_zero]
 ·rw[show C.jdF x=C.jd x.1 x.2.1 x.2.2 from if_neg hz,<-C.dbA_jd]at k
  exact k
def Ec.adA(x y:α×α×α):α×α×α:=if x.2.2=C.R.zero then y else if y.2.2=C.R.zero then x else if C.jh x.1 x.2.2 y.1 y.2.2=C.R.zero then (if C.jq x.2.1 x.2.2 y.2.1 y.2.2=C.R.zero then C.dbA x else (C.R.zero,C.R.zero,C.R.zero))else C.adG x y
theorem Ec.adA_jr{x y:α×α×α}{P Q:Pt α}(hP:C.onP P)(hQ:C.onP Q)(h:C.jr x P)(k:C.jr y Q):C.jr (C.adA x y) (C.ad P Q):=by
 have j:=C.jr_a hP hQ h k;by_cases h1:x.2.2=C.R.zero
 ·rw[show C.jaF x y=y from if_pos h1]at j
  rw[show C.adA x y=y from if_pos h1];exact j
 by_cases h2:y.2.2=C.R.zero
 ·rw[show C.jaF x y=x from (if_neg h1).trans (if_pos h2)]at j
  rw[show C.adA x y=x from (if_neg h1).trans (if_pos h2)];exact j
 by_cases h3:C.jh x.1 x.2.2 y.1 y.2.2=C.R.zero
 ·by_cases h4:C.jq x.2.1 x.2.2 y.2.1 y.2.2=C.R.zero
  ·rw[show C.adA x y=C.dbA x from (if_neg h1).trans ((if_neg h2).trans ((if_pos h3).trans (if_pos h4)))]
   rw[C.adA_same h k h1 h2 h3 h4];exact C.dbA_jr hP h
  ·rw[show C.jaF x y=(C.R.zero,C.R.zero,C.R.zero)from (if_neg h1).trans ((if_neg h2).trans ((if_pos h3).trans (if_neg h4)))]at j
   rw[show C.adA x y=(C.R.zero,C.R.zero,C.R.zero)from (if_neg h1).trans ((if_neg h2).trans ((if_pos h3).trans (if_neg h4)))];exact j
 ·rw[show C.jaF x y=C.ja x.1 x.2.1 x.2.2 y.1 y.2.1 y.2.2 from (if_neg h1).trans ((if_neg h2).trans (if_neg h3)),<-C.adG_ja]at j
  rw[show C.adA x y=C.adG x y from (if_neg h1).trans ((if_neg h2).trans (if_neg h3))];exact j
def Ec.dbN(x:α×α×α):Nat->α×α×α
 |0=>x
 |n+1=>C.dbA (Ec.dbN x n)
theorem Ec.dbN_jr{x:α×α×α}{P:Pt α}(hP:C.onP P){q:Nat}(hx:C.jr x (C.times P q)): ∀n,C.jr (C.dbN x n) (C.times P (q*2^n))
 |0=>by rw[Nat.pow_zero,Nat.mul_one];exact hx
 |n+1=>by
  have hd:=C.dbA_jr (C.times_on hP _) (Ec.dbN_jr hP hx n);rw[<-C.times_add hP,<-Nat.two_mul,Nat.mul_left_comm,<-Nat.pow_succ']at hd;exact hd
def Ec.stp(x:α×α×α)(A:(α×α×α)×Nat)(b:Nat):(α×α×α)×Nat:=(C.adA (C.dbN A.1 (A.2-b)) x,b)
def Ec.stK(x:α×α×α)(L:List Nat)(k:Nat):(α×α×α)×Nat:=(L.take k).foldl (C.stp x) ((C.R.zero,C.R.zero,C.R.zero),0)
theorem Ec.stK_step(x:α×α×α){L:List Nat}{k n:Nat}(h:L[k]? =some n):C.stK x L (k+1)=C.stp x (C.stK x L k) n:=by
 rw[Ec.stK,List.take_add_one,h,List.foldl_append];rfl
theorem Ec.stK_1(x:α×α×α){L:List Nat}{k n:Nat}(h:L[k]? =some n):(C.stK x L (k+1)).1=C.adA (C.dbN (C.stK x L k).1 ((C.stK x L k).2-n)) x:=by rw[C.stK_step x h];rfl
theorem Ec.stK_2(x:α×α×α){L:List Nat}{k n:Nat}(h:L[k]? =some n):(C.stK x L (k+1)).2=n:=by rw[C.stK_step x h];rfl
theorem Ec.stK_lt(x:α×α×α){L:List Nat}{B:Nat}(h0:0<B)(hL: ∀b∈L,b<B): ∀k,k<=L.length->(C.stK x L k).2<B
 |0,_=>h0
 |k+1,hk=>by
  obtain ⟨n,hn⟩: ∃n,L[k]? =some n:=⟨L[k]'om,List.getElem?_eq_getElem om⟩;rw[C.stK_2 x hn];exact hL n (List.mem_of_getElem? hn)
def Ec.tmF(x:α×α×α)(L:List Nat):α×α×α:=C.dbN (C.stK x L L.length).1 (C.stK x L L.length).2
theorem Ec.stp_jr{x:α×α×α}{P:Pt α}(hP:C.onP P)(hx:C.jr x P): ∀(L:List Nat) (A:(α×α×α)×Nat) (q:Nat),L.Pairwise (λa b=>b<=a)->C.jr A.1 (C.times P q)->(q=0\/∀b∈L,b<=A.2)->∃q',C.jr (L.foldl (C.stp x) A).1 (C.times P q')/\q'*2^(L.foldl (C.stp x) A).2=q*2^A.2+SOg L
 |[],A,q,_,hA,_=>⟨q,hA,rfl⟩
 |b::L,A,q,hp,hA,hq=>by
  rw[List.pairwise_cons]at hp;have hd:=C.dbN_jr hP hA (A.2-b);have ha:=C.adA_jr (C.times_on hP _) hP hd hx;obtain ⟨q',h1,h2⟩:=Ec.stp_jr hP hx L (C.stp x A b) (q*2^(A.2-b)+1) hp.2 ha (.inr hp.1);refine ⟨q',h1,h2.trans ?_⟩;show (q*2^(A.2-b)+1)*2^b+SOg L=q*2^A.2+(2^b+SOg L);rcases hq with rfl|hq
  ·rw[Nat.zero_mul,Nat.zero_mul];omega
  ·have hb:=hq b List.mem_cons_self
   rw[Nat.add_mul,Nat.mul_assoc,<-Nat.pow_add,show A.2-b+b=A.2 from by omega]
   omega
theorem Ec.tmF_jr{x:α×α×α}{P:Pt α}(hP:C.onP P)(hx:C.jr x P){L:List Nat}(hL:L.Pairwise (λa b=>b<=a)):C.jr (C.tmF x L) (C.times P (SOg L)):=by
 obtain ⟨q,h1,h2⟩:=C.stp_jr hP hx L ((C.R.zero,C.R.zero,C.R.zero),0) 0 hL O (.inl O);have e:C.stK x L L.length=L.foldl (C.stp x) ((C.R.zero,C.R.zero,C.R.zero),0):=by rw[Ec.stK,List.take_length]
 rw[Nat.zero_mul,Nat.zero_add]at h2;have h:=C.dbN_jr hP h1 (L.foldl (C.stp x) ((C.R.zero,C.R.zero,C.R.zero),0)).2;rw[h2]at h;rw[Ec.tmF,e];exact h
end
/-! ### Sums of powers -/
section
variable {α:Type} (R:Rg α)
def Rg.pev:List α->α->α
 |[],_=>R.zero
 |a::p,x=>R.add a (R.mul x (Rg.pev p x))
def Rg.pa:List α->List α->List α
 |[],q=>q
 |a::p,[]=>a::p
 |a::p,b::q=>R.add a b::Rg.pa p q
def Rg.pk(c:α)(p:List α):List α:=p.map (R.mul c)
def Rg.pp:List α->List α->List α
 |[],_=>[]
 |_::_,[]=>[]
 |a::p,b::q=>Rg.pa R (Rg.pk R a (b::q)) (R.zero::Rg.pp p (b::q))
theorem Rg.pev_pa(x:α): ∀p q,R.pev (R.pa p q) x=R.add (R.pev p x) (R.pev q x)
 |[],q=>(R.zero_add _).symm
 |a::p,[]=>(R.add_zero _).symm
 |a::p,b::q=>by
  show R.add (R.add a b) (R.mul x (R.pev (R.pa p q) x))=R.add (R.add a (R.mul x (R.pev p x))) (R.add b (R.mul x (R.pev q x)));rw[Rg.pev_pa x p q,R.mul_add,R.add_four]
theorem Rg.pev_pk(c x:α): ∀p,R.pev (R.pk c p) x=R.mul c (R.pev p x)
 |[]=>(R.mul_zero _).symm
 |a::p=>by
  show R.add (R.mul c a) (R.mul x (R.pev (R.pk c p) x))=R.mul c (R.add a (R.mul x (R.pev p x)));rw[Rg.pev_pk c x p,R.mul_add,R.mul_left_comm]
theorem Rg.pev_pp(x:α): ∀p q,R.pev (R.pp p q) x=R.mul (R.pev p x) (R.pev q x)
 |[],q=>(R.zero_mul _).symm
 |a::p,[]=>(R.mul_zero _).symm
 |a::p,b::q=>by
  show R.pev (R.pa (R.pk a (b::q)) (R.zero::R.pp p (b::q))) x=R.mul (R.add a (R.mul x (R.pev p x))) (R.pev (b::q) x);rw[R.pev_pa,R.pev_pk,R.add_mul,R.mul_assoc,<-Rg.pev_pp x p (b::q)];show R.add _ (R.add R.zero _)=_;rw[R.zero_add]
theorem Rg.len_pa: ∀(p q:List α) (n:Nat),p.length<=n->q.length<=n->(R.pa p q).length<=n
 |[],_,_,_,h=>h
 |_::_,[],_,h,_=>h
 |a::p,b::q,n,h,k=>by
  have h:p.length+1<=n:=h;have k:q.length+1<=n:=k;have:=Rg.len_pa p q (n-1) om om;show (R.pa p q).length+1<=n;omega
theorem Rg.len_pp: ∀p q:List α,(R.pp p q).length<=p.length+q.length-1/\(p.length=0->(R.pp p q).length=0)/\(q.length=0->(R.pp p q).length=0)
 |[],q=>⟨Nat.zero_le _,λ_=>rfl,λ_=>rfl⟩
 |a::p,[]=>⟨Nat.zero_le _,λ_=>rfl,λ_=>rfl⟩
 |a::p,b::q=>by
  refine ⟨?_,λh=>absurd h (Nat.succ_ne_zero _),λh=>absurd h (Nat.succ_ne_zero _)⟩;have ih:=Rg.len_pp p (b::q);have e1:(b::q).length=q.length+1:=rfl;have e2:(a::p).length=p.length+1:=rfl;have h1:(R.pk a (b::q)).length=q.length+1:=by rw[Rg.pk,List.length_map];rfl
  refine R.len_pa _ _ _ om ?_;show (R.pp p (b::q)).length+1<=_;rcases Nat.eq_zero_or_pos p.length with h0|h0
  ·have:=ih.2.1 h0
   omega
  ·omega
theorem Rg.mul_ex(p q:List α): ∃s:List α,s.length<=p.length+q.length-1/\(p.length=0->s.length=0)/\(q.length=0->s.length=0)/\∀x,R.pev s x=R.mul (R.pev p x) (R.pev q x):=⟨R.pp p q,(R.len_pp p q).1,(R.len_pp p q).2.1,(R.len_pp p q).2.2,λx=>R.pev_pp x p q⟩
theorem Rg.add_ex(p q:List α)(n:Nat)(h:p.length<=n)(k:q.length<=n): ∃s:List α,s.length<=n/\∀x,R.pev s x=R.add (R.pev p x) (R.pev q x):=⟨R.pa p q,R.len_pa p q n h k,λx=>R.pev_pa x p q⟩
theorem Rg.split(a:α): ∀p:List α,∃q:List α,q.length<=p.length-1/\∀x,R.pev p x=R.add (R.mul (R.pev q x) (R.add x (R.neg a))) (R.pev p a)
 |[]=>⟨[],Nat.le_refl _,λx=>by show R.zero=R.add (R.mul R.zero _) R.zero;rw[R.zero_mul,R.add_zero]⟩
 |[c]=>⟨[],Nat.le_refl _,λx=>by show R.add c (R.mul x R.zero)=R.add (R.mul R.zero _) (R.add c (R.mul a R.zero));rw[R.zero_mul,R.zero_add,R.mul_zero,R.mul_zero]⟩
 |c::d::p=>by
  obtain ⟨q,h1,h2⟩:=Rg.split a (d::p);refine ⟨R.pev (d::p) a::q, ?_,λx=> ?_⟩
  ·have e1:(d::p).length=p.length+1:=rfl
   show q.length+1<=p.length+2-1;omega
  ·show R.add c (R.mul x (R.pev (d::p) x))=R.add (R.mul (R.add (R.pev (d::p) a) (R.mul x (R.pev q x))) (R.add x (R.neg a))) (R.add c (R.mul a (R.pev (d::p) a)))
   rw[h2 x];generalize R.pev (d::p) a=t;generalize R.pev q x=u;exact zx R [c,x,t,u,a] 0x4657459473a8 0x4548579473a465a8
theorem Rg.roots(hR:Fd R): ∀(n:Nat) (p:List α) (xs:Nat->α),p.length<=n->(∀i j,i<j->j<n->xs i≠xs j)->(∀i,i<n->R.pev p (xs i)=R.zero)->∀x,R.pev p x=R.zero
 |0,p,_,h,_,_=>λx=>by
  obtain rfl:p=[]:=List.eq_nil_of_length_eq_zero om;rfl
 |n+1,p,xs,h,hi,h0=>λx=>by
  obtain ⟨q,h1,h2⟩:=R.split (xs n) p;have hp: ∀x,R.pev p x=R.mul (R.pev q x) (R.add x (R.neg (xs n))):=λx=>by rw[h2 x,h0 n om,R.add_zero]
  have hq:=Rg.roots hR n q xs om (λi j hij hj=>hi i j hij om) (λi hin=>by
   have e:=h0 i om;rw[hp]at e;refine (hR.two e).resolve_right λe2=>hi i n hin om ?_;have:=R.neg_of e2;rw[<-R.neg_neg (xs i),<-this,R.neg_neg]) x
  rw[hp,hq,R.zero_mul]
end
theorem Nt{d e a a' A:Nat}(h1:a<=d+1)(k1:a'<=e+1)(lA:A<=a+a'-1):A<=d+e+1:=om
theorem Me{d e b b' B D:Nat}(h2:b<=d-1)(k2:b'<=e-1)(lB:B<=b+b'-1)(lB1:b=0->B=0)(lB2:b'=0->B=0)(lD:D<=4+B-1)(lD2:B=0->D=0):D<=d+e+1:=by
 rcases Nat.eq_zero_or_pos B with h0|h0
 ·rw[lD2 h0];omega
 ·have hb:0<b:=Nat.pos_of_ne_zero λe=>by have:=lB1 e;omega
  have hb':0<b':=Nat.pos_of_ne_zero λe=>by have:=lB2 e;omega
  omega
theorem M3{d e a b E:Nat}(h1:a<=d+1)(k2:b<=e-1)(lE:E<=a+b-1)(lE2:b=0->E=0):E<=d+e-1:=by
 rcases Nat.eq_zero_or_pos b with h0|h0
 ·rw[lE2 h0];omega
 ·omega
/-! ### What is made of a point's numbers -/
section
variable {α:Type} (C:Ec α)
def Ec.DW(d:Nat)(F:α->α->α):Prop:= ∃a b:List α,a.length<=d+1/\b.length<=d-1/\∀x y,C.on (x,y)->F x y=C.R.add (C.R.pev a x) (C.R.mul y (C.R.pev b x))
theorem Ec.DW.neg{C:Ec α}{d:Nat}{F:α->α->α}(h:C.DW d F):C.DW d (λx y=>C.R.neg (F x y)):=by
 obtain ⟨a,b,h1,h2,h3⟩:=h;refine ⟨C.R.pk (C.R.neg C.R.one) a,C.R.pk (C.R.neg C.R.one) b,by rw[Rg.pk,List.length_map];exact h1,by rw[Rg.pk,List.length_map];exact h2,λx y hxy=> ?_⟩
 show C.R.neg (F x y)=_;rw[h3 x y hxy,C.R.pev_pk,C.R.pev_pk];generalize C.R.pev a x=s;generalize C.R.pev b x=t;exact zx C.R [s,t,y] 0x346587 0x45326585327
theorem Ec.DW.mul{C:Ec α}{d e:Nat}{F G:α->α->α}(h:C.DW d F)(k:C.DW e G):C.DW (d+e) (λx y=>C.R.mul (F x y) (G x y)):=by
 obtain ⟨a,b,h1,h2,h3⟩:=h;obtain ⟨a',b',k1,k2,k3⟩:=k;obtain ⟨A,lA,_,_,hA⟩:=C.R.mul_ex a a';obtain ⟨B,lB,lB1,lB2,hB⟩:=C.R.mul_ex b b';obtain ⟨c,hc,h4⟩: ∃c:List α,c.length=4/\∀x,C.R.pev c x=C.R.add C.b (C.R.mul x (C.R.add C.R.zero (C.R.mul x (C.R.add C.R.zero (C.R.mul x (C.R.add C.R.one (C.R.mul x C.R.zero))))))):=⟨[C.b,C.R.zero,C.R.zero,C.R.one],rfl,λ_=>rfl⟩;obtain ⟨D,lD,_,lD2,hD⟩:=C.R.mul_ex c B;obtain ⟨E,lE,_,lE2,hE⟩:=C.R.mul_ex a b';obtain ⟨G',lG,_,lG2,hG⟩:=C.R.mul_ex a' b;have dD:D.length<=d+e+1:=Me h2 k2 lB lB1 lB2 (by rw[hc]at lD;exact lD) lD2
 have dE:E.length<=d+e-1:=M3 h1 k2 lE lE2;have dG:G'.length<=d+e-1:=by rw[Nat.add_comm d e];exact M3 k1 h2 lG lG2
 have dA:A.length<=d+e+1:=Nt h1 k1 lA;obtain ⟨S,lS,hS⟩:=C.R.add_ex A D (d+e+1) dA dD;obtain ⟨U,lU,hU⟩:=C.R.add_ex E G' (d+e-1) dE dG;refine ⟨S,U,lS,lU,λx y hxy=> ?_⟩
 ·have hy:C.R.mul y y=C.R.add (C.R.mul x (C.R.mul x x)) C.b:=hxy
  show C.R.mul (F x y) (G x y)=_;rw[h3 x y hxy,k3 x y hxy,hS,hU,hA,hD,h4,hB,hE,hG];generalize C.R.pev a x=s;generalize C.R.pev b x=t;generalize C.R.pev a' x=s';generalize C.R.pev b' x=t';exact zk C.R [s,t,s',t',x,y,C.b] 0x5465b7485b9 0x4456854c5a415a415a425a15795b4569587 0x579 0x45a5aac 0x5bb hy
theorem Ec.DW.x(C:Ec α):C.DW 1 (λx _=>x):=⟨[C.R.zero,C.R.one],[],Nat.le_refl _,Nat.zero_le _,λx y _=>by
 show x=C.R.add (C.R.add C.R.zero (C.R.mul x (C.R.add C.R.one (C.R.mul x C.R.zero)))) (C.R.mul y C.R.zero);exact zx C.R [x,y] 0x6 0x4415642561571⟩
theorem Ec.DW.y(C:Ec α):C.DW 2 (λ_ y=>y):=⟨[],[C.R.one],Nat.zero_le _,Nat.le_refl _,λx y _=>by
 show y=C.R.add C.R.zero (C.R.mul y (C.R.add C.R.one (C.R.mul x C.R.zero)));exact zx C.R [x,y] 0x7 0x415742561⟩
def Ec.js(x y:α):List Bool->α×α×α->α×α×α
 |[],A=>A
 |false::r,A=>Ec.js x y r (C.jd A.1 A.2.1 A.2.2)
 |true::r,A=>Ec.js x y r (C.ja (C.jd A.1 A.2.1 A.2.2).1 (C.jd A.1 A.2.1 A.2.2).2.1 (C.jd A.1 A.2.1 A.2.2).2.2 x y C.R.one)
def mB:List Bool->Nat->Nat
 |[],m=>m
 |false::r,m=>mB r (4*m)
 |true::r,m=>mB r (3*(4*m)+2)
structure Ec.DJ(m:Nat)(A:α->α->α×α×α):Prop where
 X:C.DW (2*m) (λx y=>(A x y).1)
 Y:C.DW (3*m) (λx y=>(A x y).2.1)
 Z:C.DW m (λx y=>(A x y).2.2)
theorem Ec.DJ.s{C:Ec α}: ∀(l:List Bool) (m:Nat) (A:α->α->α×α×α),C.DJ m A->C.DJ (mB l m) (λx y=>C.js x y l (A x y))
 |[],_,_,h=>h
 |false::r,_,_,h=>Ec.DJ.s r _ _ h.d
 |true::r,_,_,h=>Ec.DJ.s r _ _ h.d.a
end
section
variable {α:Type} [DecidableEq α] (C:Ec α)
def jF:List Bool->Nat->Nat
 |[],n=>n
 |false::r,n=>jF r (2*n)
 |true::r,n=>jF r (2*n+1)
end
section
variable {α:Type} (C:Ec α)
def Ec.xy:Pt α->α×α
 |none=>(C.R.zero,C.R.zero)
 |some p=>p
theorem Ec.x_two{p q:α×α}(hp:C.on p)(hq:C.on q)(h:p.1=q.1):(some p:Pt α)=some q\/(some p:Pt α)=C.ne (some q):=by
 by_cases ho:C.opp p q
 ·right
  refine congrArg some ?_;rw[C.opp_eq (C.opp_comm ho)]
 ·left
  refine congrArg some (Prod.ext h ?_);have hp:C.R.mul p.2 p.2=C.R.add (C.R.mul p.1 (C.R.mul p.1 p.1)) C.b:=hp;have hq:C.R.mul q.2 q.2=C.R.add (C.R.mul q.1 (C.R.mul q.1 q.1)) C.b:=hq;have e:C.R.mul (C.sub p.2 q.2) (C.R.add p.2 q.2)=C.R.zero:=by
   have e1:C.R.mul (C.sub p.2 q.2) (C.R.add p.2 q.2)=C.sub (C.R.mul p.2 p.2) (C.R.mul q.2 q.2):=zx C.R [p.2,q.2] 0x54637467 0x45663577;rw[e1,hp,hq,h,C.sub_self]
  exact C.sub0 ((C.fd.two e).resolve_right λe2=>ho ⟨h,e2⟩)
end
section
variable {α γ:Type} {C:Ec α} {D:Ec γ} (H:Hw C D)
end
section
variable {α:Type} [DecidableEq α] (C:Ec α)
theorem Ec.times_lt{Q:Pt α}(hQ:C.onP Q){r:Nat}(hr: ∀d,0<d->d<r->∃e,(d*e) % r=1)(qr:C.times Q r=none)(qn:Q≠none){m n:Nat}(hn:n<r)(h:C.times Q m=C.times Q n): ¬m<n:=λhlt=>by
 have e:C.times Q n=C.ad (C.times Q m) (C.times Q (n-m)):=by rw[<-C.times_add hQ];exact congrArg _ om
 rw[<-h]at e;have k:=C.undo (C.times_on hQ m) (C.times_on hQ (n-m));rw[<-e,C.ne_ad_self]at k;exact C.cyc_no hQ hr qr qn (d:=n-m) om om k.symm
theorem Ec.times_inj{Q:Pt α}(hQ:C.onP Q){r:Nat}(hr: ∀d,0<d->d<r->∃e,(d*e) % r=1)(qr:C.times Q r=none)(qn:Q≠none){m n:Nat}(hm:m<r)(hn:n<r)(h:C.times Q m=C.times Q n):m=n:=by
 have h1:=C.times_lt hQ hr qr qn hn h;have h2:=C.times_lt hQ hr qr qn hm h.symm;omega
end
section
variable {α β γ:Type} [DecidableEq α] [DecidableEq β] [DecidableEq γ] {C:Ec α} {B:Ec β} {D:Ec γ} (H:Hw C D) (K:Hw B D)
end
section
variable {α:Type} (C:Ec α)
def Ec.ln(a:α×α)(s:α)(p:α×α):α:=C.sub (C.sub p.2 a.2) (C.R.mul s (C.sub p.1 a.1))
end
section
variable {α:Type}
theorem oW(d:Bool)(r:List Bool)(n:Nat):jF (d::r) n=jF r (2*n+d.toNat):=by cases d<;>rfl
end
section
variable {α:Type} [DecidableEq α] (C:Ec α)
def Ec.gl:Pt α->Pt α->Pt α->α
 |some a,some b,some p=>if a.1=b.1/\C.R.add a.2 b.2=C.R.zero then C.R.one else C.ln a (C.slope a b) p
 |_,_,_=>C.R.one
theorem Ec.gl_l(B P:Pt α):C.gl none B P=C.R.one:=rfl
theorem Ec.gl_m(A P:Pt α):C.gl A none P=C.R.one:=by cases A<;>rfl
theorem Ec.gl_r(A B:Pt α):C.gl A B none=C.R.one:=by
 cases A with
 |none=>rfl
 |some a=>cases B<;>rfl
theorem Ec.gl_opp{a b:α×α}(h:C.opp a b)(P:Pt α):C.gl (some a) (some b) P=C.R.one:=by
 cases P with
 |none=>rfl
 |some p=>exact if_pos h
theorem Ec.gl_sl{a b:α×α}{s:α}(ha:C.on a)(hb:C.on b)(ho: ¬C.opp a b)(hs:C.Sl a b s)(p:α×α):C.gl (some a) (some b) (some p)=C.ln a s p:=by
 rw[<-C.sl_one (C.sl_slope ha hb ho) hs ho];exact if_neg ho
structure Ec.Fz(F:α->α)(SA SP:Pt α->Prop):Prop where
 mul: ∀a b,F (C.R.mul a b)=C.R.mul (F a) (F b)
 one:F C.R.one=C.R.one
 neg: ∀a,F (C.R.neg a)=F a
 aon: ∀{A},SA A->C.onP A
 aad: ∀{A B},SA A->SA B->SA (C.ad A B)
 ane: ∀{A},SA A->SA (C.ne A)
 pon: ∀{P},SP P->C.onP P
 pad: ∀{P Q},SP P->SP Q->SP (C.ad P Q)
 pne: ∀{P},SP P->SP (C.ne P)
 van: ∀{a p},SA (some a)->SP (some p)->F (C.sub p.1 a.1)=C.R.one
variable {C} {F:α->α} {SA SP:Pt α->Prop}
theorem Ec.Fz.third(Z:C.Fz F SA SP){A B:Pt α}(hA:SA A)(hB:SA B)(P:Pt α):C.gl A (C.ne (C.ad A B)) P=C.gl A B P:=by
 cases A with
 |none=>rfl
 |some a=>
  cases B with
  |none=>rw[C.ad_nr,C.gl_m];exact C.gl_opp (C.opp_ng a) P
  |some b=>
   by_cases ho:C.opp a b
   ·rw[C.ad_opp ho,C.gl_opp ho];exact C.gl_m _ _
   ·cases P with
    |none=>rw[C.gl_r,C.gl_r]
    |some p=>
     have hs:=C.sl_slope (Z.aon hA) (Z.aon hB) ho;have h3:=Z.aad hA hB;have u:=C.undo (Z.aon hA) (Z.aon hB);have k:=C.ne_ad (C.ne_on (Z.aon hA)) (Z.aon h3);rw[u,C.ne_ne]at k;rw[C.ad_sl (Z.aon hA) (Z.aon hB) ho hs]at h3 k⊢;have s3:C.Sl a (C.ng (C.th a b (C.slope a b))) (C.slope a b):=by
      have q:=C.sl_th (C.sl_comm hs);rw[<-C.th_comm hs]at q;exact q
     have o3: ¬C.opp a (C.ng (C.th a b (C.slope a b))):=λh=>by
      have k2:C.ne (some b)=C.ad (some a) (some (C.ng (C.th a b (C.slope a b)))):=k;rw[C.ad_opp h]at k2
      cases k2
     exact (C.gl_sl (Z.aon hA) (C.ng_on (Z.aon h3)) o3 s3 p).trans (C.gl_sl (Z.aon hA) (Z.aon hB) ho hs p).symm
end
section
variable {α:Type} [DecidableEq α] (C:Ec α)
variable {C} {F:α->α} {SA SP:Pt α->Prop}
end
structure Ab(γ:Type) where
 ad:γ->γ->γ
 ng:γ->γ
 ze:γ
 assoc: ∀a b c,ad (ad a b) c=ad a (ad b c)
 comm: ∀a b,ad a b=ad b a
 zl: ∀a,ad ze a=a
 nr: ∀a,ad a (ng a)=ze
section
variable {γ:Type} (G:Ab γ)
theorem Ab.can{a b c:γ}(h:G.ad a b=G.ad a c):b=c:=by
 have e:=congrArg (G.ad (G.ng a)) h;rw[<-G.assoc,<-G.assoc,G.comm (G.ng a) a,G.nr,G.zl,G.zl]at e;exact e
theorem Ab.ng_of{a b:γ}(h:G.ad a b=G.ze):b=G.ng a:=G.can (a:=a) (by rw[h,G.nr])
theorem Ab.four(a b c d:γ):G.ad (G.ad a b) (G.ad c d)=G.ad (G.ad a c) (G.ad b d):=by
 have:Std.Associative G.ad:=⟨G.assoc⟩;have:Std.Commutative G.ad:=⟨G.comm⟩
 ac_rfl
/-! ### Turned -/
abbrev Q4:=Int×Int×Int×Int
def Q4.sm(k:Int)(v:Q4):Q4:=(k*v.1,k*v.2.1,k*v.2.2.1,k*v.2.2.2)
def Q4.sh(v:Q4):Q4:=(-v.2.2.2,v.1,v.2.1+v.2.2.2,v.2.2.1)
def Q4.mul(u v:Q4):Q4:=Q4.add (Q4.sm u.1 v) (Q4.add (Q4.sm u.2.1 (Q4.sh v)) (Q4.add (Q4.sm u.2.2.1 (Q4.sh (Q4.sh v))) (Q4.sm u.2.2.2 (Q4.sh (Q4.sh (Q4.sh v))))))
structure Ab.Tn where
 f:γ->γ
 fa: ∀a b,f (G.ad a b)=G.ad (f a) (f b)
 f4: ∀a,f (f (f (f a)))=G.ad (f (f a)) (G.ng a)
variable {G} (T:G.Tn)
theorem Ab.Tn.fn(a:γ):T.f (G.ng a)=G.ng (T.f a):=G.ng_of (by rw[<-T.fa,G.nr,T.fz])
theorem Ab.Tn.fm(a:γ): ∀n,T.f (G.nm a n)=G.nm (T.f a) n
 |0=>T.fz
 |n+1=>by rw[Ab.nm,T.fa,Ab.Tn.fm a n,Ab.nm]
end
/-! ### The points of a curve -/
section
variable {α:Type} [DecidableEq α] (C:Ec α)
abbrev Ec.On:={P:Pt α // C.onP P}
def Ec.ab:Ab C.On where
 ad:=λa b=>⟨C.ad a.1 b.1,C.ad_on a.2 b.2⟩
 ng:=λa=>⟨C.ne a.1,C.ne_on a.2⟩
 ze:=⟨none,True.intro⟩
 assoc:=λa b c=>Subtype.ext (C.ad_assoc a.2 b.2 c.2)
 comm:=λa b=>Subtype.ext (C.ad_comm a.2 b.2)
 zl:=λ_=>rfl
 nr:=λa=>Subtype.ext (C.ad_ne a.1)
end
section
variable {α:Type} (C:Ec α)
theorem Ec.DW.const(c:α):C.DW 0 (λ_ _=>c):=⟨[c],[],Nat.le_refl _,Nat.zero_le _,λx y _=>by
 show c=C.R.add (C.R.add c (C.R.mul x C.R.zero)) (C.R.mul y C.R.zero);rw[C.R.mul_zero,C.R.mul_zero,C.R.add_zero,C.R.add_zero]⟩
variable {C}
theorem Ec.DW.sm{d:Nat}{F:α->α->α}(c:α)(h:C.DW d F):C.DW d (λx y=>C.R.mul c (F x y)):=by
 have k:=(Ec.DW.const C c).mul h;rw[Nat.zero_add]at k;exact k
theorem Ec.DJ.w{m:Nat}{A:α->α->α×α×α}(c:α)(h:C.DJ m A):C.DJ m (λx y=>(C.R.mul c (A x y).1,(A x y).2.1,(A x y).2.2)):=⟨h.X.sm c,h.Y,h.Z⟩
variable (C)
def Ec.jA(A B:α×α×α):α×α×α:=C.ja A.1 A.2.1 A.2.2 B.1 B.2.1 B.2.2
def Ec.jD(A:α×α×α):α×α×α:=C.jd A.1 A.2.1 A.2.2
def Ec.jW(c:α)(A:α×α×α):α×α×α:=(C.R.mul c A.1,A.2.1,A.2.2)
def Ec.jx(B:α×α×α):List Bool->α×α×α->α×α×α
 |[],A=>A
 |false::r,A=>Ec.jx B r (C.jD A)
 |true::r,A=>Ec.jx B r (C.jA (C.jD A) B)
def nB(k:Nat):List Bool->Nat->Nat
 |[],m=>m
 |false::r,m=>nB k r (4*m)
 |true::r,m=>nB k r (3*(4*m+k))
variable {C}
theorem Ec.DJ.x{k:Nat}{B:α->α->α×α×α}(hB:C.DJ k B): ∀(l:List Bool) (m:Nat) (A:α->α->α×α×α),C.DJ m A->C.DJ (nB k l m) (λx y=>C.jx (B x y) l (A x y))
 |[],_,_,h=>h
 |false::r,_,_,h=>Ec.DJ.x hB r _ _ h.d
 |true::r,_,_,h=>Ec.DJ.x hB r _ _ (h.d.ad hB)
theorem Ec.DW.norm{d:Nat}{F:α->α->α}(h:C.DW d F): ∃N:List α,N.length<=2*d+1/\∀x y,C.on (x,y)->C.R.pev N x=C.R.mul (F x y) (F x (C.R.neg y)):=by
 obtain ⟨a,b,l1,l2,hZ⟩:=h;obtain ⟨A,lA,_,_,hA⟩:=C.R.mul_ex a a;obtain ⟨B,lB,lB1,_,hB⟩:=C.R.mul_ex b b;obtain ⟨c,hc,h4⟩: ∃c:List α,c.length=4/\∀x,C.R.pev c x=C.R.mul (C.R.neg C.R.one) (C.R.add C.b (C.R.mul x (C.R.add C.R.zero (C.R.mul x (C.R.add C.R.zero (C.R.mul x (C.R.add C.R.one (C.R.mul x C.R.zero)))))))):=⟨C.R.pk (C.R.neg C.R.one) [C.b,C.R.zero,C.R.zero,C.R.one],rfl,λx=>C.R.pev_pk _ x _⟩;obtain ⟨D,lD,_,lD2,hD⟩:=C.R.mul_ex c B;have dD:D.length<=2*d+1:=by
  have:=Me l2 l2 lB lB1 lB1 (by rw[hc]at lD;exact lD) lD2
  rw[Nat.two_mul];exact this
 have dA:A.length<=2*d+1:=by
  have:=Nt l1 l1 lA;rw[Nat.two_mul];exact this
 obtain ⟨N,lN,hN'⟩:=C.R.add_ex A D (2*d+1) dA dD;refine ⟨N,lN,λx y hxy=> ?_⟩;have hy:C.R.mul y y=C.R.add (C.R.mul x (C.R.mul x x)) C.b:=hxy;rw[hN',hA,hD,h4,hB,hZ x y hxy,hZ x _ (C.ng_on (p:=(x,y)) hxy)];generalize C.R.pev a x=s;generalize C.R.pev b x=t;exact zk C.R [s,t,x,y,C.b] 0x456655324a584158415842581577 0x546597465397 0x577 0x458588a 0x599 hy
variable (C)
theorem Ec.two_x(a:α)(K:List (α×α))(hd:K.Pairwise (·≠ ·))(hk: ∀q,q∈K->C.on q/\q.1=a):K.length<=2:=by
 match K,hd,hk with
 |[],_,_=>exact Nat.zero_le _
 |[_],_,_=>exact Nat.le_succ _
 |[_,_],_,_=>exact Nat.le_refl _
 |p::q::s::t,hd,hk=>
  exfalso;have hp:=hk p sm;have hq:=hk q sm;have hs:=hk s sm;simp only[List.pairwise_cons,List.mem_cons]at hd;have h1:p≠q:=hd.1 q (.inl O);have h2:p≠s:=hd.1 s (.inr (.inl O));have h3:q≠s:=hd.2.1 s (.inl O);have e1:q=C.ng p:=(C.x_two hq.1 hp.1 (hq.2.trans hp.2.symm)).elim (λe=>absurd (Option.some.inj e).symm h1) (λe=>Option.some.inj (show some _=some (C.ng p)from e));have e2:s=C.ng p:=(C.x_two hs.1 hp.1 (hs.2.trans hp.2.symm)).elim (λe=>absurd (Option.some.inj e).symm h2) (λe=>Option.some.inj (show some _=some (C.ng p)from e));exact h3 (e1.trans e2.symm)
variable {C}
theorem Ec.V.w{A:α×α×α}{P:Pt α}{T:Tw C}{c:α}(hT: ∀q,T.m q=(C.R.mul c q.1,q.2))(h:C.V A P):C.V (C.jW c A) (T.p P):=by
 refine h.elim (λe=>.inl e) λk=>.inr ?_
 cases P with
 |none=>exact k
 |some q=>
  show C.jr (C.jW c A) (some (T.m q));rw[hT];refine ⟨k.1, ?_,k.2.2⟩;show C.R.mul c A.1=C.R.mul (C.R.mul c q.1) (C.z2 A.2.2);rw[k.2.1,C.R.mul_assoc]
end
section
variable {α:Type} [DecidableEq α] (C:Ec α)
variable {C}
theorem Ec.V.x{B:α×α×α}{Q:Pt α}(hQ:C.onP Q)(hB:C.V B Q): ∀(l:List Bool) (A:α×α×α) (n:Nat),C.V A (C.times Q n)->C.V (C.jx B l A) (C.times Q (jF l n))
 |[],_,_,h=>h
 |false::r,A,n,h=>by
  have hd:=h.d (C.times_on hQ n);rw[<-C.times_add hQ,<-Nat.two_mul]at hd;exact Ec.V.x hQ hB r _ _ hd
 |true::r,A,n,h=>by
  have hd:=h.d (C.times_on hQ n);rw[<-C.times_add hQ,<-Nat.two_mul]at hd;exact Ec.V.x hQ hB r _ (2*n+1) (hd.a (C.times_on hQ (2*n)) hQ hB)
end
/-! ### Many points -/
theorem qK{β:Type}(f:β->Bool): ∀l:List β,(l.filter f).length+(l.filter λx=> !f x).length=l.length
 |[]=>rfl
 |a::l=>by
  have ih:=qK f l
  cases h:f a<;>simp only[List.filter,h,Bool.not_true,Bool.not_false,List.length_cons]<;>omega
section
variable {α:Type} [DecidableEq α] (C:Ec α)
theorem Ec.rootsL: ∀(n:Nat) (N:List α) (L:List (α×α)),N.length<=n->2*n<=L.length->L.Pairwise (·≠ ·)->(∀q,q∈L->C.on q)->(∀q,q∈L->C.R.pev N q.1=C.R.zero)->∀x,C.R.pev N x=C.R.zero
 |0,N,_,h,_,_,_,_=>λx=>by
  obtain rfl:N=[]:=List.eq_nil_of_length_eq_zero om;rfl
 |n+1,N,L,h,hL,hd,ho,h0=>λx=>by
  match L,hL,hd,ho,h0 with
  |[],hL,_,_,_=>exact absurd hL sm
  |p::L1,hL,hd,ho,h0=>
   obtain ⟨Q,h1,h2⟩:=C.R.split p.1 N;have hN: ∀x,C.R.pev N x=C.R.mul (C.R.pev Q x) (C.R.add x (C.R.neg p.1)):=λx=>by rw[h2 x,h0 p sm,C.R.add_zero]
   have hl:=qK (λq:α×α=>decide (q.1=p.1)) (p::L1);have h2':=C.two_x p.1 ((p::L1).filter λq=>decide (q.1=p.1)) (hd.filter _) (λq hq=>by
    rw[List.mem_filter]at hq;exact ⟨ho q hq.1,of_decide_eq_true hq.2⟩)
   have hQ:=Ec.rootsL n Q ((p::L1).filter λq=> !decide (q.1=p.1)) om om (hd.filter _) (λq hq=>ho q (List.mem_filter.1 hq).1) (λq hq=>by
    rw[List.mem_filter]at hq;have e:=h0 q hq.1;rw[hN]at e;refine (C.fd.two e).resolve_right λe2=> ?_;have hne:q.1≠p.1:=by simpa using hq.2
    exact hne (C.sub0 e2)) x
   rw[hN,hQ,C.R.zero_mul]
variable {C}
theorem Ec.DW.all{d:Nat}{F:α->α->α}(h:C.DW d F){L:List (α×α)}(hl:2*(d+1)<=L.length)(hd:L.Pairwise (·≠ ·))(ho: ∀q,q∈L->C.on q)(hy: ∀q,q∈L->q.2≠C.R.zero)(h0: ∀q,q∈L->F q.1 q.2=C.R.zero/\F q.1 (C.R.neg q.2)=C.R.zero){x y:α}(hp:C.on (x,y)):F x y=C.R.zero:=by
 obtain ⟨a,b,h1,h2,h3⟩:=h;have key: ∀q,q∈L->C.R.pev a q.1=C.R.zero/\C.R.pev b q.1=C.R.zero:=λq hq=>by
  have e1:=(h0 q hq).1;have e2:=(h0 q hq).2;rw[h3 _ _ (ho q hq)]at e1;rw[h3 _ _ (C.ng_on (p:=q) (ho q hq))]at e2;generalize C.R.pev a q.1=s at*;generalize C.R.pev b q.1=t at*;have ea:s=C.R.zero:=C.dbl0 (zl C.R [s,t,q.2] 0x466 0x411 0x1 0x446587465387 (lca e1.symm e2.symm));refine ⟨ea, ?_⟩;rw[ea,C.R.zero_add]at e1;exact (C.fd.two e1).resolve_left (hy q hq)
 rw[h3 _ _ hp,C.rootsL (d+1) a L h1 hl hd ho (λq hq=>(key q hq).1) x,C.rootsL (d+1) b L om hl hd ho (λq hq=>(key q hq).2) x,C.R.mul_zero,C.R.add_zero]
end
end Go.Proofs.YtjookodjbjabbaaGreatDoor
