/-
 The reference's elements of p, as functions of elements.
 The reference's root; what the laws of layer 3 share.
-/
import Derived.Test.YtpnpiblphnpfiaaGreatDoorX8
import Derived.Test.YtpnpiblphnpfiaaGreatDoorX3
set_option maxRecDepth 100000
set_option maxHeartbeats 1000000
namespace Go.Proofs.YtpnpiblphnpfiaaGreatDoor
section
open Go.RowKit
attribute [local simp] aL ba aI aH aB bc aF aE aG PLl cf cb N1l ca bY ce aR a9
def BTn (bs : List (BitVec 8)) : Nat → Nat
 | 0 => 0
 | i + 1 => 2 * BTn bs i + (iT bs i).toNat
theorem qJ (bs : List (BitVec 8)) (i : Nat) : iT bs i = 1#8 ∧ (iT bs i).toNat = 1 ∨ ¬ iT bs i = 1#8 ∧ (iT bs i).toNat = 0 := by
 by_cases h : iT bs i = 1#8
 ·exact .inl ⟨h, by rw [h]; rfl⟩
 ·refine .inr ⟨h, ?_⟩
  have e : (iT bs i).toNat ≤ 1 := by
   rw [iT, BitVec.toNat_and, show (1#8).toNat = 1 from rfl, Nat.and_one_is_mod]
   omega
  have : (iT bs i).toNat ≠ 1 := fun e1 => h (BitVec.eq_of_toNat_eq (by rw [e1]; rfl))
  omega
end
section
open Go.RowKit
attribute [local simp] aL ba aI aH aB bc aF aE aG PLl cf cb N1l ca bY ce aR a9
theorem ent10 : ae Tryz.prog 10 := fun _ _ => by kernel_rfl
end
end Go.Proofs.YtpnpiblphnpfiaaGreatDoor
