/-
 What the laws of layer 12 share.
-/
import Derived.Test.YtpnpiblphnpfiaaGreatDoorXI
import Derived.Test.YtpnpiblphnpfiaaGreatDoorX2
namespace Go.Proofs.YtpnpiblphnpfiaaGreatDoor
open Go.RowKit
set_option maxRecDepth 100000
set_option maxHeartbeats 1000000
attribute [local simp] aP ba aM aH aA a8 aF aE aG PLl bX cd N1l bZ bY ce aU a9 aO aY a6 J1.bi J2.bi Q6.ca

namespace Q6
end Q6
end Go.Proofs.YtpnpiblphnpfiaaGreatDoor
