/-
 The reference's elements of p, as functions of elements.
 The reference's root; what the laws of layer 3 share.
-/
import Derived.Test.YtpnpiblphnpfiaaGreatDoorX8
import Derived.Test.YtpnpiblphnpfiaaGreatDoorX3
set_option maxRecDepth 100000
set_option maxHeartbeats 1000000
namespace Go.Proofs.YtpnpiblphnpfiaaGreatDoor
section
open Go.RowKit
attribute [local simp] aY bj aF aA aL aW aM aK aO PLl cq cn N1l cm cp ck bd bk
theorem Bj : fe 0 = List.replicate 6 (0 : BitVec 64) := i4
theorem yQ (x y : Zp) : tW (fe x) (fe y) = fe (x + y) := by
 unfold tW
 split
 ·rename_i h; exact nW h.2
 ·rename_i h
  refine sy ?_
  by_cases h1 : 1873798617647539866#64 ≤ (AS (fe x) (fe y) 6).1.getD 5 0
  ·exact vi (yy (kY _ _ _) (fun h0 => h ⟨h1, h0⟩))
  ·exact z5 _ h1
theorem zJ (x y : Zp) : u6 (fe x) (fe y) = fe (x - y) := by
 unfold u6
 split
 ·rename_i h; exact rR h
 ·rename_i h; exact oP (nQ (kY _ _ _) h)
theorem yL (x : Zp) : wY (fe x) = fe (-x) := by
 unfold wY
 rw [← Bj]
 split
 ·rename_i h
  rw [qE.1 h]
  exact congrArg fe (by grind)
 ·rename_i h; exact vj (fun e => h (by rw [e]))
def BTn (bs : List (BitVec 8)) : Nat → Nat
 | 0 => 0
 | i + 1 => 2 * BTn bs i + (dj bs i).toNat
theorem w8 (bs : List (BitVec 8)) (k j : Nat) (hj : j < 8) : (dj bs (8 * k + j)).toNat = (bs.getD k 0).toNat / 2 ^ (7 - j) % 2 := by
 rw [dj, show (8 * k + j) / 8 = k by omega, show (8 * k + j) % 8 = j by omega, BitVec.toNat_and, BitVec.toNat_ushiftRight, show (1#8).toNat = 1 from rfl, Nat.and_one_is_mod, Nat.shiftRight_eq_div_pow]
theorem z7 {B b q r X : Nat} (hr : r = 2 * q) (hX : X = B + b / r) : 2 * X + b / q % 2 = 2 * B + b / q := by
 have e : b / r = b / q / 2 := by rw [hr, Nat.mul_comm, Nat.div_div_eq_div_mul]
 rw [hX, e]
 omega
theorem oo (bs : List (BitVec 8)) (k : Nat) : ∀ j, j ≤ 8 → BTn bs (8 * k + j) = BTn bs (8 * k) * 2 ^ j + (bs.getD k 0).toNat / 2 ^ (8 - j)
 | 0, _ => by
  have h := (bs.getD k 0).isLt
  rw [Nat.add_zero, Nat.pow_zero, Nat.mul_one, Nat.div_eq_of_lt h, Nat.add_zero]
 | j + 1, h => by
  have ih := oo bs k j (by omega)
  rw [← Nat.add_assoc, BTn, w8 bs k j (by omega), show 8 - (j + 1) = 7 - j by omega, z7 (r := 2 ^ (8 - j)) (by rw [show 8 - j = 7 - j + 1 by omega, Nat.pow_succ, Nat.mul_comm]) ih, Nat.pow_succ, Nat.mul_left_comm, Nat.mul_comm 2 (2 ^ j)]
theorem gI (bs : List (BitVec 8)) : ∀ k, BTn bs (8 * k) = BN bs k
 | 0 => rfl
 | k + 1 => by
  rw [Nat.mul_add, oo bs k 8 (Nat.le_refl _), gI bs k, BN, Nat.sub_self, Nat.pow_zero, Nat.div_one, Nat.mul_comm]
theorem ig (bs : List (BitVec 8)) (i : Nat) : dj bs i = 1#8 ∧ (dj bs i).toNat = 1 ∨ ¬ dj bs i = 1#8 ∧ (dj bs i).toNat = 0 := by
 by_cases h : dj bs i = 1#8
 ·exact .inl ⟨h, by rw [h]; rfl⟩
 ·refine .inr ⟨h, ?_⟩
  have e : (dj bs i).toNat ≤ 1 := by
   rw [dj, BitVec.toNat_and, show (1#8).toNat = 1 from rfl, Nat.and_one_is_mod]
   omega
  have : (dj bs i).toNat ≠ 1 := fun e1 => h (BitVec.eq_of_toNat_eq (by rw [e1]; rfl))
  omega
theorem B5 (x : Zp) (bs : List (BitVec 8)) : ∀ i, RP (fe x) bs i = fe (x ^ BTn bs i)
 | 0 => by rw [RP, BTn, p0, Dt]
 | i + 1 => by
  have ih := B5 x bs i
  rcases ig bs i with ⟨h, e⟩ | ⟨h, e⟩
  ·rw [CH _ _ _ h, ih, sL, sL, BTn, e, Nat.two_mul, ps, jF]
  ·rw [DT _ _ _ h, ih, sL, BTn, e, Nat.two_mul, Nat.add_zero, jF]
theorem z1 : BN EX2 48 = PP - 2 := by
 rw [EX2, qU _ (by rw [f5, aA]) 48 rfl]
 decide +kernel
theorem FU (x : Zp) : RP (fe x) EX2 384 = fe (x ^ (PP - 2)) := by rw [B5, show 384 = 8 * 48 from rfl, gI, z1]
theorem GG (x y : Zp) : Pure Tryz.prog Gt 179 [EV x, EV y] (EV (x * y)) := by
 have h := i2 (fe x) (fe y) (by simp) (by simp)
 rw [sL] at h
 exact h
theorem Hc (x y : Zp) : Pure Tryz.prog Gt 182 [EV x, EV y] (EV (x + y)) := by
 have h := qO (fe x) (fe y) (by simp) (by simp)
 rw [yQ] at h
 exact h
theorem IJ (x y : Zp) : Pure Tryz.prog Gt 181 [EV x, EV y] (EV (x - y)) := by
 have h := rc (fe x) (fe y) (by simp) (by simp)
 rw [zJ] at h
 exact h
theorem IE (x : Zp) : Pure Tryz.prog Gt 183 [EV x] (EV (-x)) := by
 have h := tL (fe x) (by simp)
 rw [yL] at h
 exact h
theorem Ga (x : Zp) : Pure Tryz.prog Gt 191 [EV x] (EV (x ^ (PP - 2))) := by
 have h := tD (fe x) (by simp)
 rw [FU] at h
 exact h
theorem vD (x : Zp) : Pure Tryz.prog Gt 180 [EV x] (.bool (decide (x = 0))) := by
 have h := fY (fe x) (by simp)
 rw [← Bj, i9] at h
 exact h
theorem rofE (x : Zp) : Pure Tryz.prog Gt 127 [NV (nm x)] (EV x) := by
 have h := n6 (nm x) (by simp)
 rw [tC] at h
 exact h
theorem II : 18446744073709551616 < PP := by decide +kernel
theorem jZ (n : BitVec 64) : Pure Tryz.prog Gt 135 [U64 n] (EV (zp n.toNat)) := by
 have h := oW n
 have hn := n.isLt
 have hp := II
 rw [wO _ (by rw [nH]; omega), nH] at h
 exact h
end
section
open Go.RowKit
attribute [local simp] aY bj aF aA aL aW aM aK aO PLl cq cn N1l cm cp ck bd bk
theorem ent10 : ae Tryz.prog 10 := fun _ _ => by kernel_rfl
theorem ent59 : ae Tryz.prog 59 := fun _ _ => by kernel_rfl
end
end Go.Proofs.YtpnpiblphnpfiaaGreatDoor
