/-
 The reference's elements of p, as functions of elements.
 The reference's root; what the laws of layer 3 share.
-/
import Derived.Test.YtpnpiblphnpfiaaGreatDoorX8
import Derived.Test.YtpnpiblphnpfiaaGreatDoorX3
set_option maxRecDepth 100000
set_option maxHeartbeats 1000000
namespace Go.Proofs.YtpnpiblphnpfiaaGreatDoor
section
open Go.RowKit
attribute [local simp] aZ bk aF aA aN aW aL aK aR PLl cy cx N1l cv cw cz bh bl
theorem zF : fe 0 = List.replicate 6 (0 : BitVec 64) := h9
theorem xw (x y : Zp) : sy (fe x) (fe y) = fe (x + y) := by
 unfold sy
 split
 ·rename_i h; exact oV h.2
 ·rename_i h
  refine sf ?_
  by_cases h1 : 1873798617647539866#64 ≤ (AS (fe x) (fe y) 6).1.getD 5 0
  ·exact wm (x9 (lx _ _ _) (fun h0 => h ⟨h1, h0⟩))
  ·exact yf _ h1
theorem xr (x y : Zp) : wN (fe x) (fe y) = fe (x - y) := by
 unfold wN
 split
 ·rename_i h; exact qH h
 ·rename_i h; exact nM (pj (lx _ _ _) h)
theorem xo (x : Zp) : vO (fe x) = fe (-x) := by
 unfold vO
 rw [← zF]
 split
 ·rename_i h
  rw [pY.1 h]
  exact congrArg fe (by grind)
 ·rename_i h; exact vo (fun e => h (by rw [e]))
def BTn (bs : List (BitVec 8)) : Nat → Nat
 | 0 => 0
 | i + 1 => 2 * BTn bs i + (eI bs i).toNat
theorem wT (bs : List (BitVec 8)) (k j : Nat) (hj : j < 8) : (eI bs (8 * k + j)).toNat = (bs.getD k 0).toNat / 2 ^ (7 - j) % 2 := by
 rw [eI, show (8 * k + j) / 8 = k by omega, show (8 * k + j) % 8 = j by omega, BitVec.toNat_and, BitVec.toNat_ushiftRight, show (1#8).toNat = 1 from rfl, Nat.and_one_is_mod, Nat.shiftRight_eq_div_pow]
theorem x8 {B b q r X : Nat} (hr : r = 2 * q) (hX : X = B + b / r) : 2 * X + b / q % 2 = 2 * B + b / q := by
 have e : b / r = b / q / 2 := by rw [hr, Nat.mul_comm, Nat.div_div_eq_div_mul]
 rw [hX, e]
 omega
theorem o0 (bs : List (BitVec 8)) (k : Nat) : ∀ j, j ≤ 8 → BTn bs (8 * k + j) = BTn bs (8 * k) * 2 ^ j + (bs.getD k 0).toNat / 2 ^ (8 - j)
 | 0, _ => by
  have h := (bs.getD k 0).isLt
  rw [Nat.add_zero, Nat.pow_zero, Nat.mul_one, Nat.div_eq_of_lt h, Nat.add_zero]
 | j + 1, h => by
  have ih := o0 bs k j (by omega)
  rw [← Nat.add_assoc, BTn, wT bs k j (by omega), show 8 - (j + 1) = 7 - j by omega, x8 (r := 2 ^ (8 - j)) (by rw [show 8 - j = 7 - j + 1 by omega, Nat.pow_succ, Nat.mul_comm]) ih, Nat.pow_succ, Nat.mul_left_comm, Nat.mul_comm 2 (2 ^ j)]
theorem iP (bs : List (BitVec 8)) : ∀ k, BTn bs (8 * k) = BN bs k
 | 0 => rfl
 | k + 1 => by
  rw [Nat.mul_add, o0 bs k 8 (Nat.le_refl _), iP bs k, BN, Nat.sub_self, Nat.pow_zero, Nat.div_one, Nat.mul_comm]
theorem mK (bs : List (BitVec 8)) (i : Nat) : eI bs i = 1#8 ∧ (eI bs i).toNat = 1 ∨ ¬ eI bs i = 1#8 ∧ (eI bs i).toNat = 0 := by
 by_cases h : eI bs i = 1#8
 ·exact .inl ⟨h, by rw [h]; rfl⟩
 ·refine .inr ⟨h, ?_⟩
  have e : (eI bs i).toNat ≤ 1 := by
   rw [eI, BitVec.toNat_and, show (1#8).toNat = 1 from rfl, Nat.and_one_is_mod]
   omega
  have : (eI bs i).toNat ≠ 1 := fun e1 => h (BitVec.eq_of_toNat_eq (by rw [e1]; rfl))
  omega
theorem AM (x : Zp) (bs : List (BitVec 8)) : ∀ i, RP (fe x) bs i = fe (x ^ BTn bs i)
 | 0 => by rw [RP, BTn, p0, A4]
 | i + 1 => by
  have ih := AM x bs i
  rcases mK bs i with ⟨h, e⟩ | ⟨h, e⟩
  ·rw [BR _ _ _ h, ih, q9, q9, BTn, e, Nat.two_mul, ps, jk]
  ·rw [A0 _ _ _ h, ih, q9, BTn, e, Nat.two_mul, Nat.add_zero, jk]
theorem xK : BN EX2 48 = PP - 2 := by
 rw [EX2, vP _ (by rw [fI, aA]) 48 rfl]
 decide +kernel
theorem Ds (x : Zp) : RP (fe x) EX2 384 = fe (x ^ (PP - 2)) := by rw [AM, show 384 = 8 * 48 from rfl, iP, xK]
theorem E6 (x y : Zp) : Pure Tryz.prog Gt 179 [EV x, EV y] (EV (x * y)) := by
 have h := iM (fe x) (fe y) (by simp) (by simp)
 rw [q9] at h
 exact h
theorem GZ (x y : Zp) : Pure Tryz.prog Gt 182 [EV x, EV y] (EV (x + y)) := by
 have h := pL (fe x) (fe y) (by simp) (by simp)
 rw [xw] at h
 exact h
theorem G1 (x y : Zp) : Pure Tryz.prog Gt 181 [EV x, EV y] (EV (x - y)) := by
 have h := py (fe x) (fe y) (by simp) (by simp)
 rw [xr] at h
 exact h
theorem FJ (x : Zp) : Pure Tryz.prog Gt 183 [EV x] (EV (-x)) := by
 have h := sB (fe x) (by simp)
 rw [xo] at h
 exact h
theorem HK (x : Zp) : Pure Tryz.prog Gt 191 [EV x] (EV (x ^ (PP - 2))) := by
 have h := sK (fe x) (by simp)
 rw [Ds] at h
 exact h
theorem wR (x : Zp) : Pure Tryz.prog Gt 180 [EV x] (.bool (decide (x = 0))) := by
 have h := fE (fe x) (by simp)
 rw [← zF, iS] at h
 exact h
theorem rofE (x : Zp) : Pure Tryz.prog Gt 127 [NV (nm x)] (EV x) := by
 have h := nR (nm x) (by simp)
 rw [sG] at h
 exact h
theorem EW : 18446744073709551616 < PP := by decide +kernel
theorem jz (n : BitVec 64) : Pure Tryz.prog Gt 135 [U64 n] (EV (zp n.toNat)) := by
 have h := oW n
 have hn := n.isLt
 have hp := EW
 rw [xc _ (by rw [nc]; omega), nc] at h
 exact h
end
section
open Go.RowKit
attribute [local simp] aZ bk aF aA aN aW aL aK aR PLl cy cx N1l cv cw cz bh bl
theorem ent10 : ac Tryz.prog 10 := fun _ _ => by kernel_rfl
theorem ent59 : ac Tryz.prog 59 := fun _ _ => by kernel_rfl
end
end Go.Proofs.YtpnpiblphnpfiaaGreatDoor
