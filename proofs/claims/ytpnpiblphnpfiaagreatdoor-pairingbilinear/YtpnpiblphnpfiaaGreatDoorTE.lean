/-
 What the laws of layer 12 share.
-/
import Derived.Test.YtpnpiblphnpfiaaGreatDoorXI
import Derived.Test.YtpnpiblphnpfiaaGreatDoorX2
namespace Go.Proofs.YtpnpiblphnpfiaaGreatDoor
open Go.RowKit
set_option maxRecDepth 100000
set_option maxHeartbeats 1000000
attribute [local simp] aP a9 aM aH aA ba aF aE aG PLl bZ ce N1l bX bY ca aV bc aN a5 aT J1.bj J2.bj Q6.cf

namespace Q6
end Q6
end Go.Proofs.YtpnpiblphnpfiaaGreatDoor
