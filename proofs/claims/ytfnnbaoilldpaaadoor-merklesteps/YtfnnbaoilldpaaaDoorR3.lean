/-
  The walk of Maker.Sum.
-/
import Derived.Test.YtfnnbaoilldpaaaDoorR2
namespace Go.Proofs.YtfnnbaoilldpaaaDoor
open Go.RowKit
set_option maxRecDepth 100000
set_option maxHeartbeats 2000000
namespace Sh
def r0 (x : BitVec 32) : BitVec 32 := turn x 7 ^^^ turn x 18 ^^^ (x >>> 3)
def r1 (x : BitVec 32) : BitVec 32 := turn x 17 ^^^ turn x 19 ^^^ (x >>> 10)
end Sh
end Go.Proofs.YtfnnbaoilldpaaaDoor
