/-
  The laws of roots and of proving.
-/
import Derived.Test.YtfnnbaoilldpaaaDoorTE
namespace Go.Proofs.YtfnnbaoilldpaaaDoor
open Go.RowKit
set_option maxRecDepth 100000
set_option maxHeartbeats 1000000
open Sh
end Go.Proofs.YtfnnbaoilldpaaaDoor
