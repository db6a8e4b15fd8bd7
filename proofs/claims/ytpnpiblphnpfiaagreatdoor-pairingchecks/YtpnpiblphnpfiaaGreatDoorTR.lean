/-
 The law PairingOrder.
-/
import Derived.Test.YtpnpiblphnpfiaaGreatDoorTQ
import Derived.Test.YtpnpiblphnpfiaaGreatDoorX5
namespace Go.Proofs.YtpnpiblphnpfiaaGreatDoor
open Go.RowKit
set_option maxRecDepth 100000
set_option maxHeartbeats 1000000
attribute [local simp] aL ba aI aH aB a9 aF aE aG PLl cb ce N1l bZ cd cf aV bc aJ aX aQ J1.bd J2.bd Q6.bR Q6.bU
attribute [local simp] ej fk

namespace Q6
theorem A8 (x : Zr) : (decide (K12.pw EG x.val = K12.one) == decide (x = 0)) = true := by
 have e : decide (K12.pw EG x.val = K12.one) = decide (x = 0) := decide_eq_decide.2 ((AN x.val).trans ⟨fun h => Fin.ext (by
  rw [te, Nat.mod_eq_of_lt x.isLt] at h
  exact h), fun h => by rw [h]; exact Nat.zero_mod _⟩)
 rw [e]
 exact beq_self_eq_true _
end Q6
end Go.Proofs.YtpnpiblphnpfiaaGreatDoor
