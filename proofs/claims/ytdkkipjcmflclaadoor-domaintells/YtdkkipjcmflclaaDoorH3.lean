/-
  The walk of Hash.Write.
-/
import Derived.Test.YtdkkipjcmflclaaDoorH2
namespace Go.Proofs.YtdkkipjcmflclaaDoor
open Go.RowKit
set_option maxRecDepth 100000
namespace Sh
end Sh
end Go.Proofs.YtdkkipjcmflclaaDoor
