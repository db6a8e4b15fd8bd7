/-
  The walks of Hash's methods.
-/
import Derived.Test.YtfnnbaoilldpaaaDoorH1
namespace Go.Proofs.YtfnnbaoilldpaaaDoor
open Go.RowKit
set_option maxRecDepth 100000
namespace Sh
end Sh
end Go.Proofs.YtfnnbaoilldpaaaDoor
