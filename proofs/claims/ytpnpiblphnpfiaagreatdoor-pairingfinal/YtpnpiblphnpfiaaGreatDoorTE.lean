/-
 What the laws of layer 12 share.
-/
import Derived.Test.YtpnpiblphnpfiaaGreatDoorXI
import Derived.Test.YtpnpiblphnpfiaaGreatDoorX2
namespace Go.Proofs.YtpnpiblphnpfiaaGreatDoor
open Go.RowKit
set_option maxRecDepth 100000
set_option maxHeartbeats 1000000
attribute [local simp] aZ bk aF aA aN aW aL aK aR PLl cw cu N1l cv cx cy bh bl aX bi a9 J1.bv J2.bv Q6.cF

namespace Q6
end Q6
end Go.Proofs.YtpnpiblphnpfiaaGreatDoor
