/-
 What the laws of layer 12 share.
-/
import Derived.Test.YtpnpiblphnpfiaaGreatDoorXI
import Derived.Test.YtpnpiblphnpfiaaGreatDoorX2
namespace Go.Proofs.YtpnpiblphnpfiaaGreatDoor
open Go.RowKit
set_option maxRecDepth 100000
set_option maxHeartbeats 1000000
attribute [local simp] a6 bq aH aB aP aZ aO aM aT PLl cB cC N1l cH cG cz bk br a5 bn bd J1.bC J2.bC Q6.cK

namespace Q6
end Q6
end Go.Proofs.YtpnpiblphnpfiaaGreatDoor
