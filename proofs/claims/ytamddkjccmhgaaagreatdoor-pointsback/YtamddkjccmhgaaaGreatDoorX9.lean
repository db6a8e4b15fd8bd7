/-
  The reference's elements of p, as functions of elements.
  The reference's root; what the laws of layer 3 share.
-/
import Derived.Test.YtamddkjccmhgaaaGreatDoorX8
import Derived.Test.YtamddkjccmhgaaaGreatDoorX3
namespace Go.Proofs.YtamddkjccmhgaaaGreatDoor
open Go.RowKit
set_option maxRecDepth 100000
set_option maxHeartbeats 1000000
attribute [local simp] fe_len nm_len AS_len SS_len MONT_len RM_len FRs_len BYs_len by48_len PLl TWOl ONEl N1l IVPl HFPl RTPl FL_len SP_len

theorem fe_0o : fe 0 = List.replicate 6 (0 : BitVec 64) := fe_0
def BTn (bs : List (BitVec 8)) : Nat → Nat
  | 0 => 0
  | i + 1 => 2 * BTn bs i + (pbit bs i).toNat
theorem pbit_val (bs : List (BitVec 8)) (k j : Nat) (hj : j < 8) : (pbit bs (8 * k + j)).toNat = (bs.getD k 0).toNat / 2 ^ (7 - j) % 2 := by
  rw [pbit, show (8 * k + j) / 8 = k by omega, show (8 * k + j) % 8 = j by omega, BitVec.toNat_and, BitVec.toNat_ushiftRight, show (1#8).toNat = 1 from rfl, Nat.and_one_is_mod, Nat.shiftRight_eq_div_pow]
theorem btn_aux {B b q r X : Nat} (hr : r = 2 * q) (hX : X = B + b / r) : 2 * X + b / q % 2 = 2 * B + b / q := by
  have e : b / r = b / q / 2 := by rw [hr, Nat.mul_comm, Nat.div_div_eq_div_mul]
  rw [hX, e]
  omega
theorem BTn_part (bs : List (BitVec 8)) (k : Nat) : ∀ j, j ≤ 8 → BTn bs (8 * k + j) = BTn bs (8 * k) * 2 ^ j + (bs.getD k 0).toNat / 2 ^ (8 - j)
  | 0, _ => by
    have h := (bs.getD k 0).isLt
    rw [Nat.add_zero, Nat.pow_zero, Nat.mul_one, Nat.div_eq_of_lt h, Nat.add_zero]
  | j + 1, h => by
    have ih := BTn_part bs k j (by omega)
    rw [← Nat.add_assoc, BTn, pbit_val bs k j (by omega), show 8 - (j + 1) = 7 - j by omega, btn_aux (r := 2 ^ (8 - j)) (by rw [show 8 - j = 7 - j + 1 by omega, Nat.pow_succ, Nat.mul_comm]) ih, Nat.pow_succ, Nat.mul_left_comm, Nat.mul_comm 2 (2 ^ j)]
theorem BTn_eight (bs : List (BitVec 8)) : ∀ k, BTn bs (8 * k) = BN bs k
  | 0 => rfl
  | k + 1 => by
    rw [Nat.mul_add, BTn_part bs k 8 (Nat.le_refl _), BTn_eight bs k, BN, Nat.sub_self, Nat.pow_zero, Nat.div_one, Nat.mul_comm]
theorem bit_one (bs : List (BitVec 8)) (i : Nat) : pbit bs i = 1#8 ∧ (pbit bs i).toNat = 1 ∨ ¬ pbit bs i = 1#8 ∧ (pbit bs i).toNat = 0 := by
  by_cases h : pbit bs i = 1#8
  · exact .inl ⟨h, by rw [h]; rfl⟩
  · refine .inr ⟨h, ?_⟩
    have e : (pbit bs i).toNat ≤ 1 := by
      rw [pbit, BitVec.toNat_and, show (1#8).toNat = 1 from rfl, Nat.and_one_is_mod]
      omega
    have : (pbit bs i).toNat ≠ 1 := fun e1 => h (BitVec.eq_of_toNat_eq (by rw [e1]; rfl))
    omega
theorem EX1_val : BN EX1 48 = hf := by
  rw [EX1, BN_BYs _ (by rw [HN_len, SS_len]) 48 rfl]
  decide +kernel
theorem RLARGE_fe (x : Zp) : decide ((SS (FRs EX1 48) (RM (fe x) N1) 6).2 = 1) = decide (hf < x.val) := by
  apply decide_eq_decide.2
  have e := V_FRs EX1 (by rw [EX1_len]; exact Nat.le_refl _)
  rw [EX1_len, EX1_val] at e
  rw [RM_one]
  rcases SS_lt (FRs EX1 48) (nm x) with ⟨h, h'⟩ | ⟨h, _, h'⟩
  · rw [e, V_nm] at h'
    exact ⟨fun e' => (by rw [h] at e'; exact absurd e' (by decide)), fun _ => by omega⟩
  · rw [e, V_nm] at h'
    exact ⟨fun _ => h', fun _ => h⟩
theorem rnumberE (x : Zp) : Pure Tryz.prog Gt 79 [EV x] (NV (nm x)) := by
  have h := rnumber_pure (fe x) (by simp)
  rw [RM_one] at h
  exact h
theorem risZeroE (x : Zp) : Pure Tryz.prog Gt 97 [EV x] (.bool (decide (x = 0))) := by
  have h := risZero_pure (fe x) (by simp)
  rw [← fe_0o, decide_fe] at h
  exact h
theorem rlargeE (x : Zp) : Pure Tryz.prog Gt 123 [EV x] (.bool (decide (hf < x.val))) := by
  have h := rlarge_pure (fe x) (by simp)
  rw [RLARGE_fe] at h
  exact h
theorem rofE (x : Zp) : Pure Tryz.prog Gt 104 [NV (nm x)] (EV x) := by
  have h := rof_pure (nm x) (by simp)
  rw [RM_two_nm] at h
  exact h
theorem PP_64 : 18446744073709551616 < PP := by decide +kernel
theorem rsmallE (n : BitVec 64) : Pure Tryz.prog Gt 140 [U64 n] (EV (zp n.toNat)) := by
  have h := rsmall_pure n
  have hn := n.isLt
  have hp := PP_64
  rw [RM_two _ (by rw [V_small]; omega), V_small] at h
  exact h
theorem rbytesE (x : Zp) : Pure Tryz.prog Gt 78 [NV (nm x)] (.agg ((by48 x).map U8).toArray) := rbytesOf_pure (nm x) (by simp)
end Go.Proofs.YtamddkjccmhgaaaGreatDoor

namespace Go.Proofs.YtamddkjccmhgaaaGreatDoor
open Go.RowKit
set_option maxRecDepth 100000
set_option maxHeartbeats 1000000
attribute [local simp] fe_len nm_len AS_len SS_len MONT_len RM_len FRs_len BYs_len by48_len PLl TWOl ONEl N1l IVPl HFPl RTPl FL_len SP_len

theorem ent8 : Enters Tryz.prog 8 := fun _ _ => by kernel_rfl
theorem ent48 : Enters Tryz.prog 48 := fun _ _ => by kernel_rfl
end Go.Proofs.YtamddkjccmhgaaaGreatDoor
