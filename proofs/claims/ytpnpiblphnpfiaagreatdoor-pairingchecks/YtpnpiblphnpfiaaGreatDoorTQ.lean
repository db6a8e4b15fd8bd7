/-
 The law PairingBilinear.
-/
import Derived.Test.YtpnpiblphnpfiaaGreatDoorTP
import Derived.Test.YtpnpiblphnpfiaaGreatDoorXF
import Derived.Test.YtpnpiblphnpfiaaGreatDoorX5
namespace Go.Proofs.YtpnpiblphnpfiaaGreatDoor
open Go.RowKit
set_option maxRecDepth 100000
set_option maxHeartbeats 1000000
attribute [local simp] aL a7 aI aH aB a8 aF aE aG PLl bY cb N1l ce bX bZ aU ba aK aW a5 J1.bc J2.bc Q6.bP Q6.bU
attribute [local simp] ew fo

namespace Q6
theorem ww : ORD = RR := by decide +kernel
end Q6
end Go.Proofs.YtpnpiblphnpfiaaGreatDoor
