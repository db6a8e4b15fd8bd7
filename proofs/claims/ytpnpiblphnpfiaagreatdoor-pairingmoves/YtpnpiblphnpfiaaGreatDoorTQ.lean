/-
 The law PairingBilinear.
-/
import Derived.Test.YtpnpiblphnpfiaaGreatDoorTP
import Derived.Test.YtpnpiblphnpfiaaGreatDoorXF
import Derived.Test.YtpnpiblphnpfiaaGreatDoorX5
namespace Go.Proofs.YtpnpiblphnpfiaaGreatDoor
open Go.RowKit
set_option maxRecDepth 100000
set_option maxHeartbeats 1000000
attribute [local simp] aO aZ aJ aF ay aY aE aB aD PLl bY ca N1l bZ bU cb aU a5 aI aV aQ J1.a6 J2.a6 Q6.bN Q6.bV
attribute [local simp] e9 fC

namespace Q6
theorem ur : ORD = RR := by decide +kernel
end Q6
end Go.Proofs.YtpnpiblphnpfiaaGreatDoor
