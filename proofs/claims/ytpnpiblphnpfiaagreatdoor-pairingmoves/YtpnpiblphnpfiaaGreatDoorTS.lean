/-
 The law PairingChecks: sums and products.
-/
import Derived.Test.YtpnpiblphnpfiaaGreatDoorTR
import Derived.Test.YtpnpiblphnpfiaaGreatDoorX3
namespace Go.Proofs.YtpnpiblphnpfiaaGreatDoor
open Go.RowKit
set_option maxRecDepth 100000
set_option maxHeartbeats 1000000
attribute [local simp] aN aY aI aF ay a5 aD aB aC PLl bX bT N1l ca bU bV aQ aX aJ aU aV J1.aZ J2.aZ Q6.bO Q6.bY
attribute [local simp] fc ft

namespace Q6
end Q6
end Go.Proofs.YtpnpiblphnpfiaaGreatDoor
