/-
  The walk of the reference's product modulo p.
  The walks of the reference's elements of p: sums, differences, products.
  The walk of the reference's numbers of many bytes.
  The walk of the reference's powers.
  The walk of the reference's exponents: p and a small number, by a power of two.
  The walks of the reference's inverses and signs.
-/
import Derived.Test.YtlimfhjjadbjgaaDoorX6
import Derived.Test.YtlimfhjjadbjgaaDoorX2
import Derived.Test.YtlimfhjjadbjgaaDoorX4
import Derived.Test.YtlimfhjjadbjgaaDoorX3
namespace Go.Proofs.YtlimfhjjadbjgaaDoor
open Go.RowKit
set_option maxRecDepth 100000
set_option maxHeartbeats 1000000

end Go.Proofs.YtlimfhjjadbjgaaDoor

namespace Go.Proofs.YtlimfhjjadbjgaaDoor
open Go.RowKit
set_option maxRecDepth 100000
set_option maxHeartbeats 1000000

end Go.Proofs.YtlimfhjjadbjgaaDoor

namespace Go.Proofs.YtlimfhjjadbjgaaDoor
open Go.RowKit
set_option maxRecDepth 100000
set_option maxHeartbeats 1000000

/-- A part added, and what is carried. -/
def AB (t : List (BitVec 64)) (c : BitVec 64) : Nat → List (BitVec 64) × BitVec 64
  | 0 => (t.set 0 (ADC (t.getD 0 0) c 0).1, (ADC (t.getD 0 0) c 0).2)
  | j + 1 => ((AB t c j).1.set (j + 1) (ADC ((AB t c j).1.getD (j + 1) 0) 0 (AB t c j).2).1, (ADC ((AB t c j).1.getD (j + 1) 0) 0 (AB t c j).2).2)
def WDs (bs : List (BitVec 8)) (m : List (BitVec 64)) : Nat → List (BitVec 64)
  | 0 => List.replicate 6 0
  | i + 1 => MOD (AB (MU (WDs bs m i) (256#64 :: List.replicate 5 0) 6) ((bs.getD i 0).setWidth 64) 11).1 m
theorem WDs_len (bs : List (BitVec 8)) (m : List (BitVec 64)) : ∀ i, (WDs bs m i).length = 6
  | 0 => rfl
  | _ + 1 => MOD_len _ _
end Go.Proofs.YtlimfhjjadbjgaaDoor

namespace Go.Proofs.YtlimfhjjadbjgaaDoor
open Go.RowKit
set_option maxRecDepth 100000
set_option maxHeartbeats 1000000

end Go.Proofs.YtlimfhjjadbjgaaDoor

namespace Go.Proofs.YtlimfhjjadbjgaaDoor
open Go.RowKit
set_option maxRecDepth 100000
set_option maxHeartbeats 1000000

end Go.Proofs.YtlimfhjjadbjgaaDoor

namespace Go.Proofs.YtlimfhjjadbjgaaDoor
open Go.RowKit
set_option maxRecDepth 100000
set_option maxHeartbeats 1000000

end Go.Proofs.YtlimfhjjadbjgaaDoor
