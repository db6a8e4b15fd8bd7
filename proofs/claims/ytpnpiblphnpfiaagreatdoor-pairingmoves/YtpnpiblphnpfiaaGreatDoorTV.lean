/-
 The law PairingMoves: its reckoning.
-/
import Derived.Test.YtpnpiblphnpfiaaGreatDoorTS
import Derived.Test.YtpnpiblphnpfiaaGreatDoorTN
namespace Go.Proofs.YtpnpiblphnpfiaaGreatDoor
set_option maxRecDepth 100000
namespace Q6
theorem y3 (a b : Nat) : K12.pw EG a = K12.pw EG b ↔ (a + b * (ORD - 1)) % ORD = 0 := by
 have e : K12.mul (K12.pw EG b) (K12.pw EG (b * (ORD - 1))) = K12.one := by
  rw [← K12.pw_add, ue]
  rw [show b + b * (ORD - 1) = b * ORD by rw [Nat.add_comm, ← Nat.mul_succ, show (ORD - 1).succ = ORD from by decide +kernel]]
  exact Nat.mul_mod_left _ _
 rw [← ue, K12.pw_add]
 constructor
 ·intro h
  rw [h, e]
 ·intro h
  rw [← K12.one_mul (K12.pw EG b), ← h, K12.mul_assoc, K12.mul_comm (K12.pw EG (b * (ORD - 1))), e, K12.mul_one]
theorem wS (x y : Zr) (k : Nat) : (x.val * k + y.val * k * (ORD - 1)) % ORD = 0 ↔ x = y ∨ k % ORD = 0 := by
 have hx : x.val < ORD := by rw [wJ]; exact x.isLt
 have hy : y.val < ORD := by rw [wJ]; exact y.isLt
 have e : x.val * k + y.val * k * (ORD - 1) = k * (x.val + y.val * (ORD - 1)) := by
  rw [Nat.mul_add, Nat.mul_comm k, Nat.mul_comm y.val k, Nat.mul_assoc]
 have h2 : x.val + y.val * (ORD - 1) + y.val = x.val + y.val * ORD := by
  have h0 : (ORD - 1).succ = ORD := by decide +kernel
  conv => rhs; rw [← h0]
  rw [Nat.mul_succ, Nat.add_assoc]
 rw [e]
 generalize x.val + y.val * (ORD - 1) = s at h2 ⊢
 constructor
 ·intro h
  rcases pr_ord.dvd_mul (Nat.dvd_of_mod_eq_zero h) with h | h
  ·exact .inr (Nat.mod_eq_zero_of_dvd h)
  ·refine .inl (Fin.ext ?_)
   have h3 := congrArg (· % ORD) h2
   rw [Nat.add_mul_mod_self_right, Nat.mod_eq_of_lt hx, Nat.add_mod, Nat.mod_eq_zero_of_dvd h, Nat.zero_add, Nat.mod_mod, Nat.mod_eq_of_lt hy] at h3
   exact h3.symm
 ·rintro (rfl | h)
  ·have h3 : s = x.val * ORD := by omega
   rw [h3, ← Nat.mul_assoc]
   exact Nat.mul_mod_left _ _
  ·rw [Nat.mul_mod, h, Nat.zero_mul]; exact Nat.zero_mod _
theorem xt (k : Nat) : E2w.times (some G2p) k = none ↔ k % ORD = 0 := by
 rw [← E2w.times_mod eY dN k]
 constructor
 ·intro h
  rcases Nat.eq_zero_or_pos (k % ORD) with h0 | h0
  ·exact h0
  ·exact absurd h (lQ i6 dN h0 (Nat.mod_lt _ (by decide +kernel)))
 ·intro h
  rw [h]; rfl
theorem FR (x y : Zr) {Q : Pt W2} {k : Nat} (hQ : Q = E2w.times (some G2p) k) : K12.mul (PR L63 FE (E1.times (some G1p) x.val) Q) (PR L63 FE (E1.ne (some G1p)) (E2w.times Q y.val)) = K12.one ↔ x = y ∨ Q = none := by
 subst hQ
 rw [xt, ← wS x y k, ← y3, vY, ← E2w.times_mul eY]
 have hq : E2w.times (E2w.times (some G2p) (k * y.val)) ORD = none := E2w.times_ord eY dN _
 have u := Hk (P := some G1p) lX (E2w.times_on eY (k * y.val)) hq
 have e : PR L63 FE (some G1p) (E2w.times (some G2p) (k * y.val)) = K12.pw EG (y.val * k) := by
  have k1 := vY 1 (k * y.val)
  rw [Nat.one_mul, show E1.times (some G1p) 1 = some G1p from rfl, Nat.mul_comm k] at k1
  rw [Nat.mul_comm k, k1]
 rw [e] at u
 constructor
 ·intro h
  rw [← K12.mul_one (K12.pw EG (x.val * k)), ← u, K12.mul_comm (K12.pw EG (y.val * k)), ← K12.mul_assoc, h, K12.one_mul]
 ·intro h
  rw [h]; exact u
end Q6
end Go.Proofs.YtpnpiblphnpfiaaGreatDoor
