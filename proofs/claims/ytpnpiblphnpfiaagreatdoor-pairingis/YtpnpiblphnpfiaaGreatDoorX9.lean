/-
 The reference's elements of p, as functions of elements.
 The reference's root; what the laws of layer 3 share.
-/
import Derived.Test.YtpnpiblphnpfiaaGreatDoorX8
import Derived.Test.YtpnpiblphnpfiaaGreatDoorX3
set_option maxRecDepth 100000
set_option maxHeartbeats 1000000
namespace Go.Proofs.YtpnpiblphnpfiaaGreatDoor
section
open Go.RowKit
attribute [local simp] a8 bt aI aD aR a6 aQ aM aW PLl cL cK N1l cJ cH cM bq bw
theorem Az : fe 0 = List.replicate 6 (0 : BitVec 64) := iF
theorem yF (x y : Zp) : tM (fe x) (fe y) = fe (x + y) := by
 unfold tM
 split
 ·rename_i h; exact pq h.2
 ·rename_i h
  refine q4 ?_
  by_cases h1 : 1873798617647539866#64 ≤ (AS (fe x) (fe y) 6).1.getD 5 0
  ·exact xA (z6 (lN _ _ _) (fun h0 => h ⟨h1, h0⟩))
  ·exact zQ _ h1
theorem yU (x y : Zp) : yr (fe x) (fe y) = fe (x - y) := by
 unfold yr
 split
 ·rename_i h; exact rM h
 ·rename_i h; exact nM (qR (lN _ _ _) h)
theorem zE (x : Zp) : w9 (fe x) = fe (-x) := by
 unfold w9
 rw [← Az]
 split
 ·rename_i h
  rw [qL.1 h]
  exact congrArg fe (by grind)
 ·rename_i h; exact yg (fun e => h (by rw [e]))
def BTn (bs : List (BitVec 8)) : Nat → Nat
 | 0 => 0
 | i + 1 => 2 * BTn bs i + (cI bs i).toNat
theorem ur (bs : List (BitVec 8)) (k j : Nat) (hj : j < 8) : (cI bs (8 * k + j)).toNat = (bs.getD k 0).toNat / 2 ^ (7 - j) % 2 := by
 rw [cI, show (8 * k + j) / 8 = k by omega, show (8 * k + j) % 8 = j by omega, BitVec.toNat_and, BitVec.toNat_ushiftRight, show (1#8).toNat = 1 from rfl, Nat.and_one_is_mod, Nat.shiftRight_eq_div_pow]
theorem yX {B b q r X : Nat} (hr : r = 2 * q) (hX : X = B + b / r) : 2 * X + b / q % 2 = 2 * B + b / q := by
 have e : b / r = b / q / 2 := by rw [hr, Nat.mul_comm, Nat.div_div_eq_div_mul]
 rw [hX, e]
 omega
theorem om (bs : List (BitVec 8)) (k : Nat) : ∀ j, j ≤ 8 → BTn bs (8 * k + j) = BTn bs (8 * k) * 2 ^ j + (bs.getD k 0).toNat / 2 ^ (8 - j)
 | 0, _ => by
  have h := (bs.getD k 0).isLt
  rw [Nat.add_zero, Nat.pow_zero, Nat.mul_one, Nat.div_eq_of_lt h, Nat.add_zero]
 | j + 1, h => by
  have ih := om bs k j (by omega)
  rw [← Nat.add_assoc, BTn, ur bs k j (by omega), show 8 - (j + 1) = 7 - j by omega, yX (r := 2 ^ (8 - j)) (by rw [show 8 - j = 7 - j + 1 by omega, Nat.pow_succ, Nat.mul_comm]) ih, Nat.pow_succ, Nat.mul_left_comm, Nat.mul_comm 2 (2 ^ j)]
theorem fB (bs : List (BitVec 8)) : ∀ k, BTn bs (8 * k) = BN bs k
 | 0 => rfl
 | k + 1 => by
  rw [Nat.mul_add, om bs k 8 (Nat.le_refl _), fB bs k, BN, Nat.sub_self, Nat.pow_zero, Nat.div_one, Nat.mul_comm]
theorem iq (bs : List (BitVec 8)) (i : Nat) : cI bs i = 1#8 ∧ (cI bs i).toNat = 1 ∨ ¬ cI bs i = 1#8 ∧ (cI bs i).toNat = 0 := by
 by_cases h : cI bs i = 1#8
 ·exact .inl ⟨h, by rw [h]; rfl⟩
 ·refine .inr ⟨h, ?_⟩
  have e : (cI bs i).toNat ≤ 1 := by
   rw [cI, BitVec.toNat_and, show (1#8).toNat = 1 from rfl, Nat.and_one_is_mod]
   omega
  have : (cI bs i).toNat ≠ 1 := fun e1 => h (BitVec.eq_of_toNat_eq (by rw [e1]; rfl))
  omega
theorem BD (x : Zp) (bs : List (BitVec 8)) : ∀ i, RP (fe x) bs i = fe (x ^ BTn bs i)
 | 0 => by rw [RP, BTn, p0, Dl]
 | i + 1 => by
  have ih := BD x bs i
  rcases iq bs i with ⟨h, e⟩ | ⟨h, e⟩
  ·rw [BZ _ _ _ h, ih, sw, sw, BTn, e, Nat.two_mul, ps, jF]
  ·rw [Db _ _ _ h, ih, sw, BTn, e, Nat.two_mul, Nat.add_zero, jF]
theorem y1 : BN EX2 48 = PP - 2 := by
 rw [EX2, uO _ (by rw [fS, aD]) 48 rfl]
 decide +kernel
theorem CD (x : Zp) : RP (fe x) EX2 384 = fe (x ^ (PP - 2)) := by rw [BD, show 384 = 8 * 48 from rfl, fB, y1]
theorem H3 (x y : Zp) : Pure Tryz.prog Gt 179 [EV x, EV y] (EV (x * y)) := by
 have h := jl (fe x) (fe y) (by simp) (by simp)
 rw [sw] at h
 exact h
theorem GH (x y : Zp) : Pure Tryz.prog Gt 182 [EV x, EV y] (EV (x + y)) := by
 have h := pY (fe x) (fe y) (by simp) (by simp)
 rw [yF] at h
 exact h
theorem HP (x y : Zp) : Pure Tryz.prog Gt 181 [EV x, EV y] (EV (x - y)) := by
 have h := qN (fe x) (fe y) (by simp) (by simp)
 rw [yU] at h
 exact h
theorem Hy (x : Zp) : Pure Tryz.prog Gt 183 [EV x] (EV (-x)) := by
 have h := tK (fe x) (by simp)
 rw [zE] at h
 exact h
theorem GS (x : Zp) : Pure Tryz.prog Gt 191 [EV x] (EV (x ^ (PP - 2))) := by
 have h := td (fe x) (by simp)
 rw [CD] at h
 exact h
theorem xu (x : Zp) : Pure Tryz.prog Gt 180 [EV x] (.bool (decide (x = 0))) := by
 have h := fI (fe x) (by simp)
 rw [← Az, i6] at h
 exact h
theorem rofE (x : Zp) : Pure Tryz.prog Gt 127 [NV (nm x)] (EV x) := by
 have h := nX (nm x) (by simp)
 rw [tQ] at h
 exact h
theorem HG : 18446744073709551616 < PP := by decide +kernel
theorem jV (n : BitVec 64) : Pure Tryz.prog Gt 135 [U64 n] (EV (zp n.toNat)) := by
 have h := o9 n
 have hn := n.isLt
 have hp := HG
 rw [yd _ (by rw [mN]; omega), mN] at h
 exact h
end
section
open Go.RowKit
attribute [local simp] a8 bt aI aD aR a6 aQ aM aW PLl cL cK N1l cJ cH cM bq bw
theorem ent10 : ae Tryz.prog 10 := fun _ _ => by kernel_rfl
theorem ent59 : ae Tryz.prog 59 := fun _ _ => by kernel_rfl
end
end Go.Proofs.YtpnpiblphnpfiaaGreatDoor
