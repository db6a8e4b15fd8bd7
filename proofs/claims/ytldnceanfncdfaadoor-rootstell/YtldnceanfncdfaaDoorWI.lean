/-
  The law of all containers' roots.
-/
import Derived.Test.YtldnceanfncdfaaDoorWH
namespace Go.Proofs.YtldnceanfncdfaaDoor
open Go.RowKit
set_option maxRecDepth 100000
set_option maxHeartbeats 1000000
open Sh
end Go.Proofs.YtldnceanfncdfaaDoor
