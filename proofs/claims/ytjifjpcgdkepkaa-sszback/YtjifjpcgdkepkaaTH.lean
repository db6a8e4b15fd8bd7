/-
  The laws of chunks and of bits.
-/
import Derived.Test.YtjifjpcgdkepkaaTG
import Derived.Test.YtjifjpcgdkepkaaTM
namespace Go.Proofs.Ytjifjpcgdkepkaa
open Go.RowKit
set_option maxRecDepth 100000
set_option maxHeartbeats 1000000

end Go.Proofs.Ytjifjpcgdkepkaa
