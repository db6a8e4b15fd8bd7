/-
  What is decoded gives back its bytes.
-/
import Derived.Test.YtlaanjcnfindnaaVQ
import Derived.Test.YtlaanjcnfindnaaTM
namespace Go.Proofs.Ytlaanjcnfindnaa
open Go.RowKit
set_option maxRecDepth 100000
set_option maxHeartbeats 1000000

end Go.Proofs.Ytlaanjcnfindnaa
