/-
 What the laws of layer 12 share.
-/
import Derived.Test.YtpnpiblphnpfiaaGreatDoorXI
import Derived.Test.YtpnpiblphnpfiaaGreatDoorX2
namespace Go.Proofs.YtpnpiblphnpfiaaGreatDoor
open Go.RowKit
set_option maxRecDepth 100000
set_option maxHeartbeats 1000000
attribute [local simp] a8 bt aI aD aR a6 aQ aM aW PLl cL cK N1l cJ cH cM bq bw a7 br bi J1.bH J2.bH Q6.cR

namespace Q6
end Q6
end Go.Proofs.YtpnpiblphnpfiaaGreatDoor
