/-
 The reference's elements of p, as functions of elements.
 The reference's root; what the laws of layer 3 share.
-/
import Derived.Test.YtpnpiblphnpfiaaGreatDoorX8
import Derived.Test.YtpnpiblphnpfiaaGreatDoorX3
set_option maxRecDepth 100000
set_option maxHeartbeats 1000000
namespace Go.Proofs.YtpnpiblphnpfiaaGreatDoor
section
open Go.RowKit
attribute [local simp] aN aZ aI aF aw aX aC aB aD PLl bX bZ N1l ca bU cb aP a5
def BTn (bs : List (BitVec 8)) : Nat → Nat
 | 0 => 0
 | i + 1 => 2 * BTn bs i + (cM bs i).toNat
theorem vO (bs : List (BitVec 8)) (k j : Nat) (hj : j < 8) : (cM bs (8 * k + j)).toNat = (bs.getD k 0).toNat / 2 ^ (7 - j) % 2 := by
 rw [cM, show (8 * k + j) / 8 = k by omega, show (8 * k + j) % 8 = j by omega, BitVec.toNat_and, BitVec.toNat_ushiftRight, show (1#8).toNat = 1 from rfl, Nat.and_one_is_mod, Nat.shiftRight_eq_div_pow]
theorem yI {B b q r X : Nat} (hr : r = 2 * q) (hX : X = B + b / r) : 2 * X + b / q % 2 = 2 * B + b / q := by
 have e : b / r = b / q / 2 := by rw [hr, Nat.mul_comm, Nat.div_div_eq_div_mul]
 rw [hX, e]
 omega
theorem ot (bs : List (BitVec 8)) (k : Nat) : ∀ j, j ≤ 8 → BTn bs (8 * k + j) = BTn bs (8 * k) * 2 ^ j + (bs.getD k 0).toNat / 2 ^ (8 - j)
 | 0, _ => by
  have h := (bs.getD k 0).isLt
  rw [Nat.add_zero, Nat.pow_zero, Nat.mul_one, Nat.div_eq_of_lt h, Nat.add_zero]
 | j + 1, h => by
  have ih := ot bs k j (by omega)
  rw [← Nat.add_assoc, BTn, vO bs k j (by omega), show 8 - (j + 1) = 7 - j by omega, yI (r := 2 ^ (8 - j)) (by rw [show 8 - j = 7 - j + 1 by omega, Nat.pow_succ, Nat.mul_comm]) ih, Nat.pow_succ, Nat.mul_left_comm, Nat.mul_comm 2 (2 ^ j)]
theorem iD (bs : List (BitVec 8)) : ∀ k, BTn bs (8 * k) = BN bs k
 | 0 => rfl
 | k + 1 => by
  rw [Nat.mul_add, ot bs k 8 (Nat.le_refl _), iD bs k, BN, Nat.sub_self, Nat.pow_zero, Nat.div_one, Nat.mul_comm]
theorem jy (bs : List (BitVec 8)) (i : Nat) : cM bs i = 1#8 ∧ (cM bs i).toNat = 1 ∨ ¬ cM bs i = 1#8 ∧ (cM bs i).toNat = 0 := by
 by_cases h : cM bs i = 1#8
 ·exact .inl ⟨h, by rw [h]; rfl⟩
 ·refine .inr ⟨h, ?_⟩
  have e : (cM bs i).toNat ≤ 1 := by
   rw [cM, BitVec.toNat_and, show (1#8).toNat = 1 from rfl, Nat.and_one_is_mod]
   omega
  have : (cM bs i).toNat ≠ 1 := fun e1 => h (BitVec.eq_of_toNat_eq (by rw [e1]; rfl))
  omega
end
section
open Go.RowKit
attribute [local simp] aN aZ aI aF aw aX aC aB aD PLl bX bZ N1l ca bU cb aP a5
theorem ent10 : ae Tryz.prog 10 := fun _ _ => by kernel_rfl
end
end Go.Proofs.YtpnpiblphnpfiaaGreatDoor
