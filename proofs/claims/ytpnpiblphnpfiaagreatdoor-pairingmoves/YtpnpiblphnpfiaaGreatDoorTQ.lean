/-
 The law PairingBilinear.
-/
import Derived.Test.YtpnpiblphnpfiaaGreatDoorTP
import Derived.Test.YtpnpiblphnpfiaaGreatDoorXF
import Derived.Test.YtpnpiblphnpfiaaGreatDoorX5
namespace Go.Proofs.YtpnpiblphnpfiaaGreatDoor
open Go.RowKit
set_option maxRecDepth 100000
set_option maxHeartbeats 1000000
attribute [local simp] aN aZ aI aF aw aX aC aB aD PLl bX bZ N1l ca bU cb aP a5 aJ aU aV J1.aY J2.aY Q6.bM Q6.bV
attribute [local simp] e8 fy

namespace Q6
theorem wJ : ORD = RR := by decide +kernel
end Q6
end Go.Proofs.YtpnpiblphnpfiaaGreatDoor
