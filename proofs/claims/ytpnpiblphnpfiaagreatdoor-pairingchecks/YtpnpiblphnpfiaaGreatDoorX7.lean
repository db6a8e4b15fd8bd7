/-
 The walk of the reference's product modulo p.
 The walks of the reference's elements of p: sums, differences, products.
 The walk of the reference's powers.
 The walk of the reference's exponents: p and a small number, by a power of two.
 The walks of the reference's inverses and signs.
-/
import Derived.Test.YtpnpiblphnpfiaaGreatDoorX6
import Derived.Test.YtpnpiblphnpfiaaGreatDoorX2
import Derived.Test.YtpnpiblphnpfiaaGreatDoorX4
import Derived.Test.YtpnpiblphnpfiaaGreatDoorX5
import Derived.Test.YtpnpiblphnpfiaaGreatDoorX3
set_option maxRecDepth 100000
set_option maxHeartbeats 1000000
namespace Go.Proofs.YtpnpiblphnpfiaaGreatDoor
section
open Go.RowKit
end
section
open Go.RowKit
end
section
open Go.RowKit
def iT (bs : List (BitVec 8)) (i : Nat) : BitVec 8 := (bs.getD (i / 8) 0 >>> (7 - i % 8)) &&& 1#8
end
section
open Go.RowKit
end
section
open Go.RowKit
end
end Go.Proofs.YtpnpiblphnpfiaaGreatDoor
