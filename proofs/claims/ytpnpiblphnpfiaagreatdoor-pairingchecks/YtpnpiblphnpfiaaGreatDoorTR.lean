/-
 The law PairingOrder.
-/
import Derived.Test.YtpnpiblphnpfiaaGreatDoorTQ
import Derived.Test.YtpnpiblphnpfiaaGreatDoorX5
namespace Go.Proofs.YtpnpiblphnpfiaaGreatDoor
open Go.RowKit
set_option maxRecDepth 100000
set_option maxHeartbeats 1000000
attribute [local simp] aL a7 aI aH aB a8 aF aE aG PLl bY cb N1l ce bX bZ aU ba aK aW a5 J1.bc J2.bc Q6.bP Q6.bU
attribute [local simp] ew fo

namespace Q6
theorem DB (x : Zr) : (decide (K12.pw EG x.val = K12.one) == decide (x = 0)) = true := by
 have e : decide (K12.pw EG x.val = K12.one) = decide (x = 0) := decide_eq_decide.2 ((BH x.val).trans ⟨fun h => Fin.ext (by
  rw [ww, Nat.mod_eq_of_lt x.isLt] at h
  exact h), fun h => by rw [h]; exact Nat.zero_mod _⟩)
 rw [e]
 exact beq_self_eq_true _
end Q6
end Go.Proofs.YtpnpiblphnpfiaaGreatDoor
