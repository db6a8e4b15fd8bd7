/-
 The program's points by elements of r.
-/
import Derived.Test.YtpnpiblphnpfiaaGreatDoorTM
import Derived.Test.YtpnpiblphnpfiaaGreatDoorXK
import Derived.Test.YtpnpiblphnpfiaaGreatDoorX5
namespace Go.Proofs.YtpnpiblphnpfiaaGreatDoor
open Go.RowKit
set_option maxRecDepth 100000
set_option maxHeartbeats 1000000
attribute [local simp] aY bj aF aA aL aW aM aK aO PLl cq cn N1l cm cp ck bd bk aX bg ba J1.br J2.br Q6.cg Q6.c8
attribute [local simp] h7 fJ

namespace J1
end J1
namespace J2
end J2
end Go.Proofs.YtpnpiblphnpfiaaGreatDoor
