/-
  The walk of Hash.Write.
-/
import Derived.Test.YtfnnbaoilldpaaaDoorH2
namespace Go.Proofs.YtfnnbaoilldpaaaDoor
open Go.RowKit
set_option maxRecDepth 100000
namespace Sh
end Sh
end Go.Proofs.YtfnnbaoilldpaaaDoor
