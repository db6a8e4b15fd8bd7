/-
 The law PairingBilinear.
-/
import Derived.Test.YtpnpiblphnpfiaaGreatDoorTP
import Derived.Test.YtpnpiblphnpfiaaGreatDoorXF
import Derived.Test.YtpnpiblphnpfiaaGreatDoorX5
namespace Go.Proofs.YtpnpiblphnpfiaaGreatDoor
open Go.RowKit
set_option maxRecDepth 100000
set_option maxHeartbeats 1000000
attribute [local simp] aL ba aI aH aB a9 aF aE aG PLl cb ce N1l bZ cd cf aV bc aJ aX aQ J1.bd J2.bd Q6.bR Q6.bU
attribute [local simp] ej fk

namespace Q6
theorem te : ORD = RR := by decide +kernel
end Q6
end Go.Proofs.YtpnpiblphnpfiaaGreatDoor
