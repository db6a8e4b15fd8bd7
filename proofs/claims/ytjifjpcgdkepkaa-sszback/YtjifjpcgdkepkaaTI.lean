/-
  The law of reading.
-/
import Derived.Test.YtjifjpcgdkepkaaTS
namespace Go.Proofs.Ytjifjpcgdkepkaa
open Go.RowKit
set_option maxRecDepth 100000
set_option maxHeartbeats 1000000

end Go.Proofs.Ytjifjpcgdkepkaa
