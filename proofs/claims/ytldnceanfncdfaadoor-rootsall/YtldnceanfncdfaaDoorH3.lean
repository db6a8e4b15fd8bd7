/-
  The walk of Hash.Write.
-/
import Derived.Test.YtldnceanfncdfaaDoorH2
namespace Go.Proofs.YtldnceanfncdfaaDoor
open Go.RowKit
set_option maxRecDepth 100000
namespace Sh
end Sh
end Go.Proofs.YtldnceanfncdfaaDoor
