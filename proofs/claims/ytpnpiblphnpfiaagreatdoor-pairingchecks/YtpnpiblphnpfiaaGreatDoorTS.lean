/-
 The law PairingChecks: sums and products.
-/
import Derived.Test.YtpnpiblphnpfiaaGreatDoorTR
import Derived.Test.YtpnpiblphnpfiaaGreatDoorX3
namespace Go.Proofs.YtpnpiblphnpfiaaGreatDoor
open Go.RowKit
set_option maxRecDepth 100000
set_option maxHeartbeats 1000000
attribute [local simp] aL ba aI aH aB bc aF aE aG PLl cf cb N1l ca bY ce aR a9 aJ aW a5 J1.bd J2.bd Q6.bQ Q6.bV
attribute [local simp] d7 ft

abbrev BSs := Nat → Option Addr × Nat × List (BitVec 8)
def eX (w : World) (a : Option Addr) (n : Nat) (g : BSs) : Prop := ∀ i, i < n → (∃ ad, a = some ad ∧ w.cell? (ad.add i) = some (.slice (g i).1 (g i).2.2.length (g i).2.1)) ∧ (g i).2.2.length ≤ (g i).2.1 ∧ BytesAt w (g i).1 (g i).2.2
namespace Q6
def SM (x y : Nat → Zr) : Nat → Zr
 | 0 => 0
 | k + 1 => SM x y k + x k * y k
def CF (x y : Nat → Zr) (i : Nat) : J1.GP × J2.GP := (J1.cH J1.gGen (x i), J2.cH J2.gGen (y i))
theorem pB (x y : Nat → Zr) (i : Nat) : E2w.times (CF x y i).2.P ORD = none := E2w.times_ord iU fY _
theorem rj (n : Nat) : K12.pw EG (n % RR) = K12.pw EG n := by rw [← wZ]; exact pW n
theorem Et (x y : Nat → Zr) (i : Nat) : PR L63 FE (CF x y i).1.P (CF x y i).2.P = K12.pw EG ((x i).val * (y i).val) := w8 (x i).val (y i).val
theorem pF (x y : Nat → Zr) : ∀ k, PRN (CF x y) k = K12.pw EG (SM x y k).val
 | 0 => rfl
 | k + 1 => by
  rw [PRN, pF x y k, Et, SM, Fin.val_add, Fin.val_mul, rj, ← K12.pw_add, ← rj, ← rj ((SM x y k).val + _)]
  rw [Nat.add_mod_mod]
theorem wg (x y : Nat → Zr) (k : Nat) : (decide (PRN (CF x y) k = K12.one) == decide (SM x y k = 0)) = true := by rw [pF]; exact DS _
def CR (x y : Nat → Zr) (k i : Nat) : J1.GP × J2.GP := if i < k then CF x y i else (J1.cH J1.gGen (-(SM x y k)), J2.gGen)
theorem wF (x y : Nat → Zr) (k i : Nat) : E2w.times (CR x y k i).2.P ORD = none := by
 unfold CR
 split
 ·exact pB x y i
 ·exact jo
theorem lm {f g : Nat → J1.GP × J2.GP} : ∀ {k : Nat}, (∀ i, i < k → f i = g i) → PRN f k = PRN g k
 | 0, _ => rfl
 | k + 1, h => by rw [PRN, PRN, lm (k := k) fun i hi => h i (by omega), h k (by omega)]
theorem yl (z : Zr) : PR L63 FE (J1.cH J1.gGen z).P J2.gGen.P = K12.pw EG z.val := by
 have k := w8 z.val 1
 rw [Nat.mul_one, show E2w.times (some G2p) 1 = some G2p from rfl] at k
 rw [← k, show J2.gGen.P = some G2p from rfl, show (J1.cH J1.gGen z).P = E1.times (some G1p) z.val from rfl]
theorem uI (x y : Nat → Zr) (k : Nat) : PRN (CR x y k) (k + 1) = K12.one := by
 rw [PRN, lm (f := CR x y k) (g := CF x y) (k := k) (fun i hi => if_pos hi), pF, show CR x y k k = (J1.cH J1.gGen (-(SM x y k)), J2.gGen) from if_neg (Nat.lt_irrefl k), yl, ← K12.pw_add, ← rj, ← Fin.val_add, show SM x y k + -(SM x y k) = 0 by grind]
 rfl
end Q6
end Go.Proofs.YtpnpiblphnpfiaaGreatDoor
