/-
 The law PairingOrder.
-/
import Derived.Test.YtpnpiblphnpfiaaGreatDoorTQ
import Derived.Test.YtpnpiblphnpfiaaGreatDoorX5
namespace Go.Proofs.YtpnpiblphnpfiaaGreatDoor
open Go.RowKit
set_option maxRecDepth 100000
set_option maxHeartbeats 1000000
attribute [local simp] aL ba aI aH aB bc aF aE aG PLl cf cb N1l ca bY ce aR a9 aJ aW a5 J1.bd J2.bd Q6.bQ Q6.bV
attribute [local simp] d7 ft

namespace Q6
theorem DS (x : Zr) : (decide (K12.pw EG x.val = K12.one) == decide (x = 0)) = true := by
 have e : decide (K12.pw EG x.val = K12.one) = decide (x = 0) := decide_eq_decide.2 ((BW x.val).trans ⟨fun h => Fin.ext (by
  rw [wZ, Nat.mod_eq_of_lt x.isLt] at h
  exact h), fun h => by rw [h]; exact Nat.zero_mod _⟩)
 rw [e]
 exact beq_self_eq_true _
end Q6
end Go.Proofs.YtpnpiblphnpfiaaGreatDoor
