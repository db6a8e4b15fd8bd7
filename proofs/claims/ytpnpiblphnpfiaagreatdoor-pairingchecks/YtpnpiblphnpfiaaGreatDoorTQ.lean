/-
 The law PairingBilinear.
-/
import Derived.Test.YtpnpiblphnpfiaaGreatDoorTP
import Derived.Test.YtpnpiblphnpfiaaGreatDoorXF
import Derived.Test.YtpnpiblphnpfiaaGreatDoorX5
namespace Go.Proofs.YtpnpiblphnpfiaaGreatDoor
open Go.RowKit
set_option maxRecDepth 100000
set_option maxHeartbeats 1000000
attribute [local simp] aL ba aI aH aB bc aF aE aG PLl cf cb N1l ca bY ce aR a9 aJ aW a5 J1.bd J2.bd Q6.bQ Q6.bV
attribute [local simp] d7 ft

namespace Q6
theorem wZ : ORD = RR := by decide +kernel
end Q6
end Go.Proofs.YtpnpiblphnpfiaaGreatDoor
