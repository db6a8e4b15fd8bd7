/-
 The reference's points: sums, doubles, opposites.
 The reference's points: the generator, which numbers are points, times, the order.
-/
import Derived.Test.YtpnpiblphnpfiaaGreatDoorXA
import Derived.Test.YtpnpiblphnpfiaaGreatDoorX5
import Derived.Test.YtpnpiblphnpfiaaGreatDoorX3
set_option maxRecDepth 100000
set_option maxHeartbeats 1000000
namespace Go.Proofs.YtpnpiblphnpfiaaGreatDoor
section
open Go.RowKit
attribute [local simp] aP bc aM aH aA a9 aF aE aG PLl bY ca N1l cb cf bZ aU ba aN aZ a7
abbrev EV6 (x : W6) : Value := .agg (((fe (x.1).1 ++ fe (x.1).2) ++ ((fe (x.2.1).1 ++ fe (x.2.1).2) ++ (fe (x.2.2).1 ++ fe (x.2.2).2))).map U64).toArray
theorem e6 {a b c a' b' c' : W2} (h1 : a = a') (h2 : b = b') (h3 : c = c') : Ending.returned (.agg (((fe (a).1 ++ fe (a).2) ++ ((fe (b).1 ++ fe (b).2) ++ (fe (c).1 ++ fe (c).2))).map U64).toArray) = .returned (.agg (((fe (a').1 ++ fe (a').2) ++ ((fe (b').1 ++ fe (b').2) ++ (fe (c').1 ++ fe (c').2))).map U64).toArray) := by rw [h1, h2, h3]
def q6 : Sh W6 := q2.two (q2.two q2 2) 2
theorem V6 (x : W6) : EV6 x = dn rid (.inl [x.1.1, x.1.2, x.2.1.1, x.2.1.2, x.2.2.1, x.2.2.2]) := by
 show Value.agg _ = Value.agg _
 rw [clv, show cel [x.1.1, x.1.2, x.2.1.1, x.2.1.2, x.2.2.1, x.2.2.2] = fe x.1.1 ++ (fe x.1.2 ++ (fe x.2.1.1 ++ (fe x.2.1.2 ++ (fe x.2.2.1 ++ fe x.2.2.2)))) from rfl]
 rw [List.append_assoc, List.append_assoc]
theorem bv {f : Nat} {a a' : List Value} {v v' : Value} (ha : a = a') (hv : v = v') (h : Pure Tryz.prog Gt f a' v') : Pure Tryz.prog Gt f a v := by rw [ha, hv]; exact h
theorem l1 {a b : Value} (h : a = b) : [a] = [b] := by rw [h]
theorem l2 {a b c d : Value} (h : a = b) (k : c = d) : [a, c] = [b, d] := by rw [h, k]
theorem l3 {a b c d e f : Value} (h : a = b) (k : c = d) (l : e = f) : [a, c, e] = [b, d, f] := by rw [h, k, l]
theorem t2 {a b c : Value} (h : a = b) : Value.tuple #[a, c] = .tuple #[b, c] := by rw [h]
theorem lC {f : Nat} {g : W6 → Bool} (en : ae Tryz.prog f) (h : ∀ a, Pure Tryz.prog Gt f [EV6 a] (.bool (g a))) : Snd Tryz.prog Gt f (c1 q6.ag rdB g) := eB q6.ag rdB en (fun a => bv (l1 (V6 _).symm) rfl (h a))
theorem jc {f : Nat} {g : W2 → W2 → W6} (en : ae Tryz.prog f) (h : ∀ a b, Pure Tryz.prog Gt f [EV2 a, EV2 b] (EV6 (g a b))) : Snd Tryz.prog Gt f (c2 q2.ag q2.ag q6.rd g) := dP q2.ag q2.ag q6.rd en (fun a b => bv rfl (V6 _).symm (h a b))
theorem bQ {f : Nat} {g : W6 → W6} (en : ae Tryz.prog f) (h : ∀ a, Pure Tryz.prog Gt f [EV6 a] (EV6 (g a))) : Snd Tryz.prog Gt f (c1 q6.ag q6.rd g) := eB q6.ag q6.rd en (fun a => bv (l1 (V6 _).symm) (V6 _).symm (h a))
theorem bH {f : Nat} {g : W6 → W6 → W6} (en : ae Tryz.prog f) (h : ∀ a b, Pure Tryz.prog Gt f [EV6 a, EV6 b] (EV6 (g a b))) : Snd Tryz.prog Gt f (c2 q6.ag q6.ag q6.rd g) := dP q6.ag q6.ag q6.rd en (fun a b => bv (l2 (V6 _).symm (V6 _).symm) (V6 _).symm (h a b))
end
section
open Go.RowKit
attribute [local simp] aP bc aM aH aA a9 aF aE aG PLl bY ca N1l cb cf bZ aU ba aN aZ a7
def RRL : List (BitVec 64) := [18446744069414584321#64, 6034159408538082302#64, 3691218898639771653#64, 8353516859464449352#64, 0#64, 0#64]
def RB48 : List (BitVec 8) := BYs RRL 48
theorem vp : RB48.length = 48 := by decide +kernel
theorem yU : RRL.length = 6 := rfl
attribute [local simp] vp yU
end
end Go.Proofs.YtpnpiblphnpfiaaGreatDoor
