/-
 The reference's elements of p, as functions of elements.
 The reference's root; what the laws of layer 3 share.
-/
import Derived.Test.YtpnpiblphnpfiaaGreatDoorX8
import Derived.Test.YtpnpiblphnpfiaaGreatDoorX3
set_option maxRecDepth 100000
set_option maxHeartbeats 1000000
namespace Go.Proofs.YtpnpiblphnpfiaaGreatDoor
section
open Go.RowKit
attribute [local simp] a8 bt aI aC aR a6 aQ aM aW PLl cH cJ N1l cI cL cM bq bv
theorem AG : fe 0 = List.replicate 6 (0 : BitVec 64) := im
theorem zt (x y : Zp) : tQ (fe x) (fe y) = fe (x + y) := by
 unfold tQ
 split
 ·rename_i h; exact ov h.2
 ·rename_i h
  refine rZ ?_
  by_cases h1 : 1873798617647539866#64 ≤ (AS (fe x) (fe y) 6).1.getD 5 0
  ·exact tZ (ze (lO _ _ _) (fun h0 => h ⟨h1, h0⟩))
  ·exact zJ _ h1
theorem zv (x y : Zp) : ui (fe x) (fe y) = fe (x - y) := by
 unfold ui
 split
 ·rename_i h; exact rU h
 ·rename_i h; exact oH (pZ (lO _ _ _) h)
theorem y2 (x : Zp) : ue (fe x) = fe (-x) := by
 unfold ue
 rw [← AG]
 split
 ·rename_i h
  rw [qc.1 h]
  exact congrArg fe (by grind)
 ·rename_i h; exact xe (fun e => h (by rw [e]))
def BTn (bs : List (BitVec 8)) : Nat → Nat
 | 0 => 0
 | i + 1 => 2 * BTn bs i + (cK bs i).toNat
theorem xW (bs : List (BitVec 8)) (k j : Nat) (hj : j < 8) : (cK bs (8 * k + j)).toNat = (bs.getD k 0).toNat / 2 ^ (7 - j) % 2 := by
 rw [cK, show (8 * k + j) / 8 = k by omega, show (8 * k + j) % 8 = j by omega, BitVec.toNat_and, BitVec.toNat_ushiftRight, show (1#8).toNat = 1 from rfl, Nat.and_one_is_mod, Nat.shiftRight_eq_div_pow]
theorem yI {B b q r X : Nat} (hr : r = 2 * q) (hX : X = B + b / r) : 2 * X + b / q % 2 = 2 * B + b / q := by
 have e : b / r = b / q / 2 := by rw [hr, Nat.mul_comm, Nat.div_div_eq_div_mul]
 rw [hX, e]
 omega
theorem pt (bs : List (BitVec 8)) (k : Nat) : ∀ j, j ≤ 8 → BTn bs (8 * k + j) = BTn bs (8 * k) * 2 ^ j + (bs.getD k 0).toNat / 2 ^ (8 - j)
 | 0, _ => by
  have h := (bs.getD k 0).isLt
  rw [Nat.add_zero, Nat.pow_zero, Nat.mul_one, Nat.div_eq_of_lt h, Nat.add_zero]
 | j + 1, h => by
  have ih := pt bs k j (by omega)
  rw [← Nat.add_assoc, BTn, xW bs k j (by omega), show 8 - (j + 1) = 7 - j by omega, yI (r := 2 ^ (8 - j)) (by rw [show 8 - j = 7 - j + 1 by omega, Nat.pow_succ, Nat.mul_comm]) ih, Nat.pow_succ, Nat.mul_left_comm, Nat.mul_comm 2 (2 ^ j)]
theorem fu (bs : List (BitVec 8)) : ∀ k, BTn bs (8 * k) = BN bs k
 | 0 => rfl
 | k + 1 => by
  rw [Nat.mul_add, pt bs k 8 (Nat.le_refl _), fu bs k, BN, Nat.sub_self, Nat.pow_zero, Nat.div_one, Nat.mul_comm]
theorem ib (bs : List (BitVec 8)) (i : Nat) : cK bs i = 1#8 ∧ (cK bs i).toNat = 1 ∨ ¬ cK bs i = 1#8 ∧ (cK bs i).toNat = 0 := by
 by_cases h : cK bs i = 1#8
 ·exact .inl ⟨h, by rw [h]; rfl⟩
 ·refine .inr ⟨h, ?_⟩
  have e : (cK bs i).toNat ≤ 1 := by
   rw [cK, BitVec.toNat_and, show (1#8).toNat = 1 from rfl, Nat.and_one_is_mod]
   omega
  have : (cK bs i).toNat ≠ 1 := fun e1 => h (BitVec.eq_of_toNat_eq (by rw [e1]; rfl))
  omega
theorem Ax (x : Zp) (bs : List (BitVec 8)) : ∀ i, RP (fe x) bs i = fe (x ^ BTn bs i)
 | 0 => by rw [RP, BTn, p0, Dn]
 | i + 1 => by
  have ih := Ax x bs i
  rcases ib bs i with ⟨h, e⟩ | ⟨h, e⟩
  ·rw [EU _ _ _ h, ih, rr, rr, BTn, e, Nat.two_mul, ps, jE]
  ·rw [D3 _ _ _ h, ih, rr, BTn, e, Nat.two_mul, Nat.add_zero, jE]
theorem y7 : BN EX2 48 = PP - 2 := by
 rw [EX2, ud _ (by rw [f6, aC]) 48 rfl]
 decide +kernel
theorem Cl (x : Zp) : RP (fe x) EX2 384 = fe (x ^ (PP - 2)) := by rw [Ax, show 384 = 8 * 48 from rfl, fu, y7]
theorem GB (x y : Zp) : Pure Tryz.prog Gt 179 [EV x, EV y] (EV (x * y)) := by
 have h := iZ (fe x) (fe y) (by simp) (by simp)
 rw [rr] at h
 exact h
theorem FC (x y : Zp) : Pure Tryz.prog Gt 182 [EV x, EV y] (EV (x + y)) := by
 have h := qu (fe x) (fe y) (by simp) (by simp)
 rw [zt] at h
 exact h
theorem IP (x y : Zp) : Pure Tryz.prog Gt 181 [EV x, EV y] (EV (x - y)) := by
 have h := pS (fe x) (fe y) (by simp) (by simp)
 rw [zv] at h
 exact h
theorem HZ (x : Zp) : Pure Tryz.prog Gt 183 [EV x] (EV (-x)) := by
 have h := tO (fe x) (by simp)
 rw [y2] at h
 exact h
theorem GC (x : Zp) : Pure Tryz.prog Gt 191 [EV x] (EV (x ^ (PP - 2))) := by
 have h := tP (fe x) (by simp)
 rw [Cl] at h
 exact h
theorem uJ (x : Zp) : Pure Tryz.prog Gt 180 [EV x] (.bool (decide (x = 0))) := by
 have h := fG (fe x) (by simp)
 rw [← AG, i2] at h
 exact h
theorem rofE (x : Zp) : Pure Tryz.prog Gt 127 [NV (nm x)] (EV x) := by
 have h := oz (nm x) (by simp)
 rw [tK] at h
 exact h
theorem Hv : 18446744073709551616 < PP := by decide +kernel
theorem kf (n : BitVec 64) : Pure Tryz.prog Gt 135 [U64 n] (EV (zp n.toNat)) := by
 have h := oe n
 have hn := n.isLt
 have hp := Hv
 rw [um _ (by rw [m5]; omega), m5] at h
 exact h
end
section
open Go.RowKit
attribute [local simp] a8 bt aI aC aR a6 aQ aM aW PLl cH cJ N1l cI cL cM bq bv
theorem ent10 : ae Tryz.prog 10 := fun _ _ => by kernel_rfl
theorem ent59 : ae Tryz.prog 59 := fun _ _ => by kernel_rfl
end
end Go.Proofs.YtpnpiblphnpfiaaGreatDoor
