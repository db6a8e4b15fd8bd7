/-
 The reference's elements of p, as functions of elements.
 The reference's root; what the laws of layer 3 share.
-/
import Derived.Test.YtpnpiblphnpfiaaGreatDoorX8
import Derived.Test.YtpnpiblphnpfiaaGreatDoorX3
set_option maxRecDepth 100000
set_option maxHeartbeats 1000000
namespace Go.Proofs.YtpnpiblphnpfiaaGreatDoor
section
open Go.RowKit
attribute [local simp] a6 bq aH aB aP aZ aO aM aT PLl cB cC N1l cH cG cz bk br
theorem BC : fe 0 = List.replicate 6 (0 : BitVec 64) := ju
theorem AJ (x y : Zp) : um (fe x) (fe y) = fe (x + y) := by
 unfold um
 split
 ·rename_i h; exact oR h.2
 ·rename_i h
  refine sK ?_
  by_cases h1 : 1873798617647539866#64 ≤ (AS (fe x) (fe y) 6).1.getD 5 0
  ·exact wl (zf (l9 _ _ _) (fun h0 => h ⟨h1, h0⟩))
  ·exact Am _ h1
theorem A8 (x y : Zp) : xZ (fe x) (fe y) = fe (x - y) := by
 unfold xZ
 split
 ·rename_i h; exact ti h
 ·rename_i h; exact nZ (qv (l9 _ _ _) h)
theorem zV (x : Zp) : wI (fe x) = fe (-x) := by
 unfold wI
 rw [← BC]
 split
 ·rename_i h
  rw [rc.1 h]
  exact congrArg fe (by grind)
 ·rename_i h; exact x9 (fun e => h (by rw [e]))
def BTn (bs : List (BitVec 8)) : Nat → Nat
 | 0 => 0
 | i + 1 => 2 * BTn bs i + (cI bs i).toNat
theorem uC (bs : List (BitVec 8)) (k j : Nat) (hj : j < 8) : (cI bs (8 * k + j)).toNat = (bs.getD k 0).toNat / 2 ^ (7 - j) % 2 := by
 rw [cI, show (8 * k + j) / 8 = k by omega, show (8 * k + j) % 8 = j by omega, BitVec.toNat_and, BitVec.toNat_ushiftRight, show (1#8).toNat = 1 from rfl, Nat.and_one_is_mod, Nat.shiftRight_eq_div_pow]
theorem zX {B b q r X : Nat} (hr : r = 2 * q) (hX : X = B + b / r) : 2 * X + b / q % 2 = 2 * B + b / q := by
 have e : b / r = b / q / 2 := by rw [hr, Nat.mul_comm, Nat.div_div_eq_div_mul]
 rw [hX, e]
 omega
theorem pd (bs : List (BitVec 8)) (k : Nat) : ∀ j, j ≤ 8 → BTn bs (8 * k + j) = BTn bs (8 * k) * 2 ^ j + (bs.getD k 0).toNat / 2 ^ (8 - j)
 | 0, _ => by
  have h := (bs.getD k 0).isLt
  rw [Nat.add_zero, Nat.pow_zero, Nat.mul_one, Nat.div_eq_of_lt h, Nat.add_zero]
 | j + 1, h => by
  have ih := pd bs k j (by omega)
  rw [← Nat.add_assoc, BTn, uC bs k j (by omega), show 8 - (j + 1) = 7 - j by omega, zX (r := 2 ^ (8 - j)) (by rw [show 8 - j = 7 - j + 1 by omega, Nat.pow_succ, Nat.mul_comm]) ih, Nat.pow_succ, Nat.mul_left_comm, Nat.mul_comm 2 (2 ^ j)]
theorem fE (bs : List (BitVec 8)) : ∀ k, BTn bs (8 * k) = BN bs k
 | 0 => rfl
 | k + 1 => by
  rw [Nat.mul_add, pd bs k 8 (Nat.le_refl _), fE bs k, BN, Nat.sub_self, Nat.pow_zero, Nat.div_one, Nat.mul_comm]
theorem iV (bs : List (BitVec 8)) (i : Nat) : cI bs i = 1#8 ∧ (cI bs i).toNat = 1 ∨ ¬ cI bs i = 1#8 ∧ (cI bs i).toNat = 0 := by
 by_cases h : cI bs i = 1#8
 ·exact .inl ⟨h, by rw [h]; rfl⟩
 ·refine .inr ⟨h, ?_⟩
  have e : (cI bs i).toNat ≤ 1 := by
   rw [cI, BitVec.toNat_and, show (1#8).toNat = 1 from rfl, Nat.and_one_is_mod]
   omega
  have : (cI bs i).toNat ≠ 1 := fun e1 => h (BitVec.eq_of_toNat_eq (by rw [e1]; rfl))
  omega
theorem Bq (x : Zp) (bs : List (BitVec 8)) : ∀ i, RP (fe x) bs i = fe (x ^ BTn bs i)
 | 0 => by rw [RP, BTn, p0, CO]
 | i + 1 => by
  have ih := Bq x bs i
  rcases iV bs i with ⟨h, e⟩ | ⟨h, e⟩
  ·rw [Fs _ _ _ h, ih, tc, tc, BTn, e, Nat.two_mul, ps, jW]
  ·rw [Dr _ _ _ h, ih, tc, BTn, e, Nat.two_mul, Nat.add_zero, jW]
theorem zm : BN EX2 48 = PP - 2 := by
 rw [EX2, vo _ (by rw [f5, aB]) 48 rfl]
 decide +kernel
theorem DP (x : Zp) : RP (fe x) EX2 384 = fe (x ^ (PP - 2)) := by rw [Bq, show 384 = 8 * 48 from rfl, fE, zm]
theorem Hs (x y : Zp) : Pure Tryz.prog Gt 179 [EV x, EV y] (EV (x * y)) := by
 have h := jf (fe x) (fe y) (by simp) (by simp)
 rw [tc] at h
 exact h
theorem Ju (x y : Zp) : Pure Tryz.prog Gt 182 [EV x, EV y] (EV (x + y)) := by
 have h := pS (fe x) (fe y) (by simp) (by simp)
 rw [AJ] at h
 exact h
theorem JK (x y : Zp) : Pure Tryz.prog Gt 181 [EV x, EV y] (EV (x - y)) := by
 have h := p7 (fe x) (fe y) (by simp) (by simp)
 rw [A8] at h
 exact h
theorem Hh (x : Zp) : Pure Tryz.prog Gt 183 [EV x] (EV (-x)) := by
 have h := tt (fe x) (by simp)
 rw [zV] at h
 exact h
theorem HG (x : Zp) : Pure Tryz.prog Gt 191 [EV x] (EV (x ^ (PP - 2))) := by
 have h := tG (fe x) (by simp)
 rw [DP] at h
 exact h
theorem uA (x : Zp) : Pure Tryz.prog Gt 180 [EV x] (.bool (decide (x = 0))) := by
 have h := gb (fe x) (by simp)
 rw [← BC, jt] at h
 exact h
theorem rofE (x : Zp) : Pure Tryz.prog Gt 127 [NV (nm x)] (EV x) := by
 have h := pQ (nm x) (by simp)
 rw [ud] at h
 exact h
theorem HD : 18446744073709551616 < PP := by decide +kernel
theorem kq (n : BitVec 64) : Pure Tryz.prog Gt 135 [U64 n] (EV (zp n.toNat)) := by
 have h := oY n
 have hn := n.isLt
 have hp := HD
 rw [xI _ (by rw [nC]; omega), nC] at h
 exact h
end
section
open Go.RowKit
attribute [local simp] a6 bq aH aB aP aZ aO aM aT PLl cB cC N1l cH cG cz bk br
theorem ent10 : ac Tryz.prog 10 := fun _ _ => by kernel_rfl
theorem ent59 : ac Tryz.prog 59 := fun _ _ => by kernel_rfl
end
end Go.Proofs.YtpnpiblphnpfiaaGreatDoor
