/-
 What the laws of layer 12 share.
-/
import Derived.Test.YtpnpiblphnpfiaaGreatDoorXI
import Derived.Test.YtpnpiblphnpfiaaGreatDoorX2
namespace Go.Proofs.YtpnpiblphnpfiaaGreatDoor
open Go.RowKit
set_option maxRecDepth 100000
set_option maxHeartbeats 1000000
attribute [local simp] aL ba aI aH aB a9 aF aE aG PLl cb ce N1l bZ cd cf aV bc aJ aX aQ J1.bd J2.bd Q6.bR

namespace Q6
end Q6
end Go.Proofs.YtpnpiblphnpfiaaGreatDoor
