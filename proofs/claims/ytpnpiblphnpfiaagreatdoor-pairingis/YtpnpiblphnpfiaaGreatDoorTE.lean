/-
 What the laws of layer 12 share.
-/
import Derived.Test.YtpnpiblphnpfiaaGreatDoorXI
import Derived.Test.YtpnpiblphnpfiaaGreatDoorX2
namespace Go.Proofs.YtpnpiblphnpfiaaGreatDoor
open Go.RowKit
set_option maxRecDepth 100000
set_option maxHeartbeats 1000000
attribute [local simp] a8 bt aI aC aR a6 aQ aM aW PLl cH cJ N1l cI cL cM bq bv a7 br bh J1.bG J2.bG Q6.cR

namespace Q6
end Q6
end Go.Proofs.YtpnpiblphnpfiaaGreatDoor
