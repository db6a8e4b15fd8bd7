/-
  The document's reader: roots, keys, headers.
-/
import Derived.Test.YtlaanjcnfindnaaVC
import Derived.Test.YtlaanjcnfindnaaX3
namespace Go.Proofs.Ytlaanjcnfindnaa
open Go.RowKit
set_option maxRecDepth 100000
set_option maxHeartbeats 1000000

end Go.Proofs.Ytlaanjcnfindnaa
