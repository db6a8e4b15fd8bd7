/-
  The document's roots of updates and bootstraps.
-/
import Derived.Test.YtldnceanfncdfaaDoorWE
namespace Go.Proofs.YtldnceanfncdfaaDoor
open Go.RowKit
set_option maxRecDepth 100000
set_option maxHeartbeats 1000000
open Sh
end Go.Proofs.YtldnceanfncdfaaDoor
