/-
  The walk of pharosref1.Pad.
-/
import Derived.Test.YtfnnbaoilldpaaaDoorH4
import Derived.Test.YtfnnbaoilldpaaaDoorX2
namespace Go.Proofs.YtfnnbaoilldpaaaDoor
open Go.RowKit
set_option maxRecDepth 100000
set_option maxHeartbeats 1000000
namespace Sh
end Sh
end Go.Proofs.YtfnnbaoilldpaaaDoor
