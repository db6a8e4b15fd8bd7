/-
 What the laws of layer 12 share.
-/
import Derived.Test.YtpnpiblphnpfiaaGreatDoorXI
import Derived.Test.YtpnpiblphnpfiaaGreatDoorX2
namespace Go.Proofs.YtpnpiblphnpfiaaGreatDoor
open Go.RowKit
set_option maxRecDepth 100000
set_option maxHeartbeats 1000000
attribute [local simp] aO aZ aJ aF ay aY aE aB aD PLl bY ca N1l bZ bU cb aU a5 aI aV aQ J1.a6 J2.a6 Q6.bN

namespace Q6
end Q6
end Go.Proofs.YtpnpiblphnpfiaaGreatDoor
