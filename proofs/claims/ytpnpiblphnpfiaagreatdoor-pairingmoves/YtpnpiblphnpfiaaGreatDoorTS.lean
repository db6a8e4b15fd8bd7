/-
 The law PairingChecks: sums and products.
-/
import Derived.Test.YtpnpiblphnpfiaaGreatDoorTR
import Derived.Test.YtpnpiblphnpfiaaGreatDoorX3
namespace Go.Proofs.YtpnpiblphnpfiaaGreatDoor
open Go.RowKit
set_option maxRecDepth 100000
set_option maxHeartbeats 1000000
attribute [local simp] aO aZ aJ aF ay aY aE aB aD PLl bY ca N1l bZ bU cb aU a5 aI aV aQ J1.a6 J2.a6 Q6.bN Q6.bV
attribute [local simp] e9 fC

namespace Q6
end Q6
end Go.Proofs.YtpnpiblphnpfiaaGreatDoor
