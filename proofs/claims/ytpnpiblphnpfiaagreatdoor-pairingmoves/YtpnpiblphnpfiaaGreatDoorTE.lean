/-
 What the laws of layer 12 share.
-/
import Derived.Test.YtpnpiblphnpfiaaGreatDoorXI
import Derived.Test.YtpnpiblphnpfiaaGreatDoorX2
namespace Go.Proofs.YtpnpiblphnpfiaaGreatDoor
open Go.RowKit
set_option maxRecDepth 100000
set_option maxHeartbeats 1000000
attribute [local simp] aN aZ aI aF aw aX aC aB aD PLl bX bZ N1l ca bU cb aP a5 aJ aU aV J1.aY J2.aY Q6.bM

namespace Q6
end Q6
end Go.Proofs.YtpnpiblphnpfiaaGreatDoor
