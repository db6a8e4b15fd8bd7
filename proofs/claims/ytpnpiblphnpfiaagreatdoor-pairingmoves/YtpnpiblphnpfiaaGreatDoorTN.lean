/-
 The law PairingTurns.
-/
import Derived.Test.YtpnpiblphnpfiaaGreatDoorTM
import Derived.Test.YtpnpiblphnpfiaaGreatDoorX5
namespace Go.Proofs.YtpnpiblphnpfiaaGreatDoor
open Go.RowKit
set_option maxRecDepth 100000
set_option maxHeartbeats 1000000
attribute [local simp] aN aZ aI aF aw aX aC aB aD PLl bX bZ N1l ca bU cb aP a5 aJ aU aV J1.aY J2.aY Q6.bM Q6.bV
namespace Q6
theorem Hk {P : Pt Zp} (hP : E1.onP P) {Q : Pt W2} (hQ : E2w.onP Q) (hq : E2w.times Q ORD = none) : K12.mul (PR L63 FE P Q) (PR L63 FE (E1.ne P) Q) = K12.one := by
 rw [PR_1 yC zw pZ nb hP (E1.ne_on hP) hQ hq, E1.ad_ne, AP]
def f2p (a b : J1.GP × J2.GP) : Nat → J1.GP × J2.GP
 | 0 => a
 | _ => b
theorem Gh (a b : J1.GP × J2.GP) : PRN (f2p a b) 2 = K12.mul (PR L63 FE a.1.P a.2.P) (PR L63 FE b.1.P b.2.P) := by
 rw [PRN, PRN, PRN, K12.one_mul, show f2p a b 0 = a from rfl, show f2p a b 1 = b from rfl]
theorem xL {a b : J1.GP × J2.GP} (ha : E2w.times a.2.P ORD = none) (hb : E2w.times b.2.P ORD = none) : ∀ i, E2w.times (f2p a b i).2.P ORD = none
 | 0 => ha
 | _ + 1 => hb
end Q6
end Go.Proofs.YtpnpiblphnpfiaaGreatDoor
