/-
  Bits as bytes and back.
-/
import Derived.Test.YtjifjpcgdkepkaaTD
namespace Go.Proofs.Ytjifjpcgdkepkaa
open Go.RowKit
set_option maxRecDepth 100000
set_option maxHeartbeats 1000000
end Go.Proofs.Ytjifjpcgdkepkaa
