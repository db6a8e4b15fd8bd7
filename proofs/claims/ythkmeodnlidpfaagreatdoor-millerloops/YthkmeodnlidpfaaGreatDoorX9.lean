/-
 The reference's elements of p, as functions of elements.
 The reference's root; what the laws of layer 3 share.
-/
import Derived.Test.YthkmeodnlidpfaaGreatDoorX8
import Derived.Test.YthkmeodnlidpfaaGreatDoorX3
set_option maxRecDepth 100000
set_option maxHeartbeats 1000000
namespace Go.Proofs.YthkmeodnlidpfaaGreatDoor
section
open Go.RowKit
attribute [local simp] fe_len nm_len AS_len SS_len MONT_len RM_len FRs_len BYs_len by48_len PLl TWOl ONEl N1l IVPl HFPl RTPl FL_len SP_len
theorem fe_0o : fe 0 = List.replicate 6 (0 : BitVec 64) := fe_0
theorem RADD_fe (x y : Zp) : RADD (fe x) (fe y) = fe (x + y) := by
 unfold RADD
 split
 ·rename_i h; exact add_high h.2
 ·rename_i h
  refine add_low ?_
  by_cases h1 : 1873798617647539866#64 ≤ (AS (fe x) (fe y) 6).1.getD 5 0
  ·exact sum_lt (zero_or (SS_c _ _ _) (fun h0 => h ⟨h1, h0⟩))
  ·exact low_top _ h1
theorem RSUB_fe (x y : Zp) : RSUB (fe x) (fe y) = fe (x - y) := by
 unfold RSUB
 split
 ·rename_i h; exact sub_low h
 ·rename_i h; exact sub_high (one_or (SS_c _ _ _) h)
theorem RNEG_fe (x : Zp) : RNEG (fe x) = fe (-x) := by
 unfold RNEG
 rw [← fe_0o]
 split
 ·rename_i h
  rw [fe_inj.1 h]
  exact congrArg fe (by grind)
 ·rename_i h; exact neg_high (fun e => h (by rw [e]))
def BTn (bs : List (BitVec 8)) : Nat → Nat
 | 0 => 0
 | i + 1 => 2 * BTn bs i + (pbit bs i).toNat
theorem pbit_val (bs : List (BitVec 8)) (k j : Nat) (hj : j < 8) : (pbit bs (8 * k + j)).toNat = (bs.getD k 0).toNat / 2 ^ (7 - j) % 2 := by
 rw [pbit, show (8 * k + j) / 8 = k by omega, show (8 * k + j) % 8 = j by omega, BitVec.toNat_and, BitVec.toNat_ushiftRight, show (1#8).toNat = 1 from rfl, Nat.and_one_is_mod, Nat.shiftRight_eq_div_pow]
theorem btn_aux {B b q r X : Nat} (hr : r = 2 * q) (hX : X = B + b / r) : 2 * X + b / q % 2 = 2 * B + b / q := by
 have e : b / r = b / q / 2 := by rw [hr, Nat.mul_comm, Nat.div_div_eq_div_mul]
 rw [hX, e]
 omega
theorem BTn_part (bs : List (BitVec 8)) (k : Nat) : ∀ j, j ≤ 8 → BTn bs (8 * k + j) = BTn bs (8 * k) * 2 ^ j + (bs.getD k 0).toNat / 2 ^ (8 - j)
 | 0, _ => by
  have h := (bs.getD k 0).isLt
  rw [Nat.add_zero, Nat.pow_zero, Nat.mul_one, Nat.div_eq_of_lt h, Nat.add_zero]
 | j + 1, h => by
  have ih := BTn_part bs k j (by omega)
  rw [← Nat.add_assoc, BTn, pbit_val bs k j (by omega), show 8 - (j + 1) = 7 - j by omega, btn_aux (r := 2 ^ (8 - j)) (by rw [show 8 - j = 7 - j + 1 by omega, Nat.pow_succ, Nat.mul_comm]) ih, Nat.pow_succ, Nat.mul_left_comm, Nat.mul_comm 2 (2 ^ j)]
theorem BTn_eight (bs : List (BitVec 8)) : ∀ k, BTn bs (8 * k) = BN bs k
 | 0 => rfl
 | k + 1 => by
  rw [Nat.mul_add, BTn_part bs k 8 (Nat.le_refl _), BTn_eight bs k, BN, Nat.sub_self, Nat.pow_zero, Nat.div_one, Nat.mul_comm]
theorem bit_one (bs : List (BitVec 8)) (i : Nat) : pbit bs i = 1#8 ∧ (pbit bs i).toNat = 1 ∨ ¬ pbit bs i = 1#8 ∧ (pbit bs i).toNat = 0 := by
 by_cases h : pbit bs i = 1#8
 ·exact .inl ⟨h, by rw [h]; rfl⟩
 ·refine .inr ⟨h, ?_⟩
  have e : (pbit bs i).toNat ≤ 1 := by
   rw [pbit, BitVec.toNat_and, show (1#8).toNat = 1 from rfl, Nat.and_one_is_mod]
   omega
  have : (pbit bs i).toNat ≠ 1 := fun e1 => h (BitVec.eq_of_toNat_eq (by rw [e1]; rfl))
  omega
theorem RP_fe (x : Zp) (bs : List (BitVec 8)) : ∀ i, RP (fe x) bs i = fe (x ^ BTn bs i)
 | 0 => by rw [RP, BTn, p0, ONE_fe]
 | i + 1 => by
  have ih := RP_fe x bs i
  rcases bit_one bs i with ⟨h, e⟩ | ⟨h, e⟩
  ·rw [RP_y _ _ _ h, ih, RM_fe, RM_fe, BTn, e, Nat.two_mul, ps, padd]
  ·rw [RP_n _ _ _ h, ih, RM_fe, BTn, e, Nat.two_mul, Nat.add_zero, padd]
theorem EX2_val : BN EX2 48 = PP - 2 := by
 rw [EX2, BN_BYs _ (by rw [HN_len, SS_len]) 48 rfl]
 decide +kernel
theorem RP_EX2 (x : Zp) : RP (fe x) EX2 384 = fe (x ^ (PP - 2)) := by rw [RP_fe, show 384 = 8 * 48 from rfl, BTn_eight, EX2_val]
theorem rmulE (x y : Zp) : Pure Tryz.prog Gt 102 [EV x, EV y] (EV (x * y)) := by
 have h := rmul_pure (fe x) (fe y) (by simp) (by simp)
 rw [RM_fe] at h
 exact h
theorem raddE (x y : Zp) : Pure Tryz.prog Gt 104 [EV x, EV y] (EV (x + y)) := by
 have h := rfadd_pure (fe x) (fe y) (by simp) (by simp)
 rw [RADD_fe] at h
 exact h
theorem rsubE (x y : Zp) : Pure Tryz.prog Gt 101 [EV x, EV y] (EV (x - y)) := by
 have h := rfsub_pure (fe x) (fe y) (by simp) (by simp)
 rw [RSUB_fe] at h
 exact h
theorem rnegE (x : Zp) : Pure Tryz.prog Gt 107 [EV x] (EV (-x)) := by
 have h := rneg_pure (fe x) (by simp)
 rw [RNEG_fe] at h
 exact h
theorem rinvE (x : Zp) : Pure Tryz.prog Gt 106 [EV x] (EV (x ^ (PP - 2))) := by
 have h := rinv_pure (fe x) (by simp)
 rw [RP_EX2] at h
 exact h
theorem risZeroE (x : Zp) : Pure Tryz.prog Gt 103 [EV x] (.bool (decide (x = 0))) := by
 have h := risZero_pure (fe x) (by simp)
 rw [← fe_0o, decide_fe] at h
 exact h
theorem rofE (x : Zp) : Pure Tryz.prog Gt 60 [NV (nm x)] (EV x) := by
 have h := rof_pure (nm x) (by simp)
 rw [RM_two_nm] at h
 exact h
theorem PP_64 : 18446744073709551616 < PP := by decide +kernel
theorem rsmallE (n : BitVec 64) : Pure Tryz.prog Gt 142 [U64 n] (EV (zp n.toNat)) := by
 have h := rsmall_pure n
 have hn := n.isLt
 have hp := PP_64
 rw [RM_two _ (by rw [V_small]; omega), V_small] at h
 exact h
end
section
open Go.RowKit
attribute [local simp] fe_len nm_len AS_len SS_len MONT_len RM_len FRs_len BYs_len by48_len PLl TWOl ONEl N1l IVPl HFPl RTPl FL_len SP_len
theorem ent5 : Enters Tryz.prog 5 := fun _ _ => by kernel_rfl
theorem ent15 : Enters Tryz.prog 15 := fun _ _ => by kernel_rfl
end
end Go.Proofs.YthkmeodnlidpfaaGreatDoor
