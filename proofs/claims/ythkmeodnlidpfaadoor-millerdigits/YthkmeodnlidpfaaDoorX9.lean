/-
 Nothing of the reference is in this seat.
-/
import Derived.Test.YthkmeodnlidpfaaDoorX8
import Derived.Test.YthkmeodnlidpfaaDoorX3
namespace Go.Proofs.YthkmeodnlidpfaaDoor
open Go.RowKit
set_option maxRecDepth 100000
set_option maxHeartbeats 1000000

end Go.Proofs.YthkmeodnlidpfaaDoor
