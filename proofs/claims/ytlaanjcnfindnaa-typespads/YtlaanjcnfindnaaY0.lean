/-
  What the rows share: a slice that came in reads as bytes.
-/
import Derived.Test.YtlaanjcnfindnaaRows
import Derived.Test.YtlaanjcnfindnaaX2
import Derived.ProofKit
import Derived.OpenShut
import Derived.ShutString
import Derived.ChangeOld
import Derived.Below
namespace Go.Proofs.Ytlaanjcnfindnaa
open Go.ChangeShapes Go.WideShapes Go.ChangeAt Go.RowKit
set_option maxRecDepth 100000
theorem own : ownKnob Try.prog.godebug = none := by kernel_rfl
theorem laidOut : laidOutB Try.prog = true := by kernel_rfl
end Go.Proofs.Ytlaanjcnfindnaa
