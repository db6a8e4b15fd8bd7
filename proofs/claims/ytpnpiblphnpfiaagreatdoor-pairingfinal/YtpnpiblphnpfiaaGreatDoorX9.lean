/-
 The reference's elements of p, as functions of elements.
 The reference's root; what the laws of layer 3 share.
-/
import Derived.Test.YtpnpiblphnpfiaaGreatDoorX8
import Derived.Test.YtpnpiblphnpfiaaGreatDoorX3
set_option maxRecDepth 100000
set_option maxHeartbeats 1000000
namespace Go.Proofs.YtpnpiblphnpfiaaGreatDoor
section
open Go.RowKit
attribute [local simp] aZ bk aF aA aN aW aL aK aR PLl cw cu N1l cv cx cy bh bl
theorem zB : fe 0 = List.replicate 6 (0 : BitVec 64) := ir
theorem x8 (x y : Zp) : sQ (fe x) (fe y) = fe (x + y) := by
 unfold sQ
 split
 ·rename_i h; exact oo h.2
 ·rename_i h
  refine rx ?_
  by_cases h1 : 1873798617647539866#64 ≤ (AS (fe x) (fe y) 6).1.getD 5 0
  ·exact tL (yG (lq _ _ _) (fun h0 => h ⟨h1, h0⟩))
  ·exact zr _ h1
theorem xw (x y : Zp) : wm (fe x) (fe y) = fe (x - y) := by
 unfold wm
 split
 ·rename_i h; exact rz h
 ·rename_i h; exact nQ (pY (lq _ _ _) h)
theorem y1 (x : Zp) : u7 (fe x) = fe (-x) := by
 unfold u7
 rw [← zB]
 split
 ·rename_i h
  rw [po.1 h]
  exact congrArg fe (by grind)
 ·rename_i h; exact vl (fun e => h (by rw [e]))
def BTn (bs : List (BitVec 8)) : Nat → Nat
 | 0 => 0
 | i + 1 => 2 * BTn bs i + (eJ bs i).toNat
theorem vP (bs : List (BitVec 8)) (k j : Nat) (hj : j < 8) : (eJ bs (8 * k + j)).toNat = (bs.getD k 0).toNat / 2 ^ (7 - j) % 2 := by
 rw [eJ, show (8 * k + j) / 8 = k by omega, show (8 * k + j) % 8 = j by omega, BitVec.toNat_and, BitVec.toNat_ushiftRight, show (1#8).toNat = 1 from rfl, Nat.and_one_is_mod, Nat.shiftRight_eq_div_pow]
theorem xD {B b q r X : Nat} (hr : r = 2 * q) (hX : X = B + b / r) : 2 * X + b / q % 2 = 2 * B + b / q := by
 have e : b / r = b / q / 2 := by rw [hr, Nat.mul_comm, Nat.div_div_eq_div_mul]
 rw [hX, e]
 omega
theorem nO (bs : List (BitVec 8)) (k : Nat) : ∀ j, j ≤ 8 → BTn bs (8 * k + j) = BTn bs (8 * k) * 2 ^ j + (bs.getD k 0).toNat / 2 ^ (8 - j)
 | 0, _ => by
  have h := (bs.getD k 0).isLt
  rw [Nat.add_zero, Nat.pow_zero, Nat.mul_one, Nat.div_eq_of_lt h, Nat.add_zero]
 | j + 1, h => by
  have ih := nO bs k j (by omega)
  rw [← Nat.add_assoc, BTn, vP bs k j (by omega), show 8 - (j + 1) = 7 - j by omega, xD (r := 2 ^ (8 - j)) (by rw [show 8 - j = 7 - j + 1 by omega, Nat.pow_succ, Nat.mul_comm]) ih, Nat.pow_succ, Nat.mul_left_comm, Nat.mul_comm 2 (2 ^ j)]
theorem iS (bs : List (BitVec 8)) : ∀ k, BTn bs (8 * k) = BN bs k
 | 0 => rfl
 | k + 1 => by
  rw [Nat.mul_add, nO bs k 8 (Nat.le_refl _), iS bs k, BN, Nat.sub_self, Nat.pow_zero, Nat.div_one, Nat.mul_comm]
theorem mq (bs : List (BitVec 8)) (i : Nat) : eJ bs i = 1#8 ∧ (eJ bs i).toNat = 1 ∨ ¬ eJ bs i = 1#8 ∧ (eJ bs i).toNat = 0 := by
 by_cases h : eJ bs i = 1#8
 ·exact .inl ⟨h, by rw [h]; rfl⟩
 ·refine .inr ⟨h, ?_⟩
  have e : (eJ bs i).toNat ≤ 1 := by
   rw [eJ, BitVec.toNat_and, show (1#8).toNat = 1 from rfl, Nat.and_one_is_mod]
   omega
  have : (eJ bs i).toNat ≠ 1 := fun e1 => h (BitVec.eq_of_toNat_eq (by rw [e1]; rfl))
  omega
theorem zP (x : Zp) (bs : List (BitVec 8)) : ∀ i, RP (fe x) bs i = fe (x ^ BTn bs i)
 | 0 => by rw [RP, BTn, p0, Ej]
 | i + 1 => by
  have ih := zP x bs i
  rcases mq bs i with ⟨h, e⟩ | ⟨h, e⟩
  ·rw [Bh _ _ _ h, ih, rG, rG, BTn, e, Nat.two_mul, ps, jo]
  ·rw [CQ _ _ _ h, ih, rG, BTn, e, Nat.two_mul, Nat.add_zero, jo]
theorem ym : BN EX2 48 = PP - 2 := by
 rw [EX2, wM _ (by rw [fI, aA]) 48 rfl]
 decide +kernel
theorem AX (x : Zp) : RP (fe x) EX2 384 = fe (x ^ (PP - 2)) := by rw [zP, show 384 = 8 * 48 from rfl, iS, ym]
theorem Ff (x y : Zp) : Pure Tryz.prog Gt 179 [EV x, EV y] (EV (x * y)) := by
 have h := i2 (fe x) (fe y) (by simp) (by simp)
 rw [rG] at h
 exact h
theorem Hk (x y : Zp) : Pure Tryz.prog Gt 182 [EV x, EV y] (EV (x + y)) := by
 have h := pT (fe x) (fe y) (by simp) (by simp)
 rw [x8] at h
 exact h
theorem FK (x y : Zp) : Pure Tryz.prog Gt 181 [EV x, EV y] (EV (x - y)) := by
 have h := o9 (fe x) (fe y) (by simp) (by simp)
 rw [xw] at h
 exact h
theorem HK (x : Zp) : Pure Tryz.prog Gt 183 [EV x] (EV (-x)) := by
 have h := s6 (fe x) (by simp)
 rw [y1] at h
 exact h
theorem E2 (x : Zp) : Pure Tryz.prog Gt 191 [EV x] (EV (x ^ (PP - 2))) := by
 have h := sN (fe x) (by simp)
 rw [AX] at h
 exact h
theorem xh (x : Zp) : Pure Tryz.prog Gt 180 [EV x] (.bool (decide (x = 0))) := by
 have h := fM (fe x) (by simp)
 rw [← zB, iX] at h
 exact h
theorem rofE (x : Zp) : Pure Tryz.prog Gt 127 [NV (nm x)] (EV x) := by
 have h := oZ (nm x) (by simp)
 rw [sW] at h
 exact h
theorem EM : 18446744073709551616 < PP := by decide +kernel
theorem jL (n : BitVec 64) : Pure Tryz.prog Gt 135 [U64 n] (EV (zp n.toNat)) := by
 have h := oN n
 have hn := n.isLt
 have hp := EM
 rw [uG _ (by rw [m3]; omega), m3] at h
 exact h
end
section
open Go.RowKit
attribute [local simp] aZ bk aF aA aN aW aL aK aR PLl cw cu N1l cv cx cy bh bl
theorem ent10 : ac Tryz.prog 10 := fun _ _ => by kernel_rfl
theorem ent59 : ac Tryz.prog 59 := fun _ _ => by kernel_rfl
end
end Go.Proofs.YtpnpiblphnpfiaaGreatDoor
