/-
  The walks of pharosref1.Table and pharosref1.New.
-/
import Derived.Test.YtfnnbaoilldpaaaDoorR1
import Derived.Test.YtfnnbaoilldpaaaDoorX2
namespace Go.Proofs.YtfnnbaoilldpaaaDoor
open Go.RowKit
set_option maxRecDepth 100000
namespace Sh
end Sh
end Go.Proofs.YtfnnbaoilldpaaaDoor
