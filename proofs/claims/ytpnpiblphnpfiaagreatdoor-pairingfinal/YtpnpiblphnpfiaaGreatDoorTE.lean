/-
 What the laws of layer 12 share.
-/
import Derived.Test.YtpnpiblphnpfiaaGreatDoorXI
import Derived.Test.YtpnpiblphnpfiaaGreatDoorX2
namespace Go.Proofs.YtpnpiblphnpfiaaGreatDoor
open Go.RowKit
set_option maxRecDepth 100000
set_option maxHeartbeats 1000000
attribute [local simp] aZ bk aF aA aN aW aL aK aR PLl cy cx N1l cv cw cz bh bl aX bi ba J1.bu J2.bu Q6.cG

namespace Q6
end Q6
end Go.Proofs.YtpnpiblphnpfiaaGreatDoor
