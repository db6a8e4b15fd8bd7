/- Y3m -/
import Derived.Test.YtfgacclgjklgnaaGreatDoorRows
import Derived.Test.YtfgacclgjklgnaaGreatDoorX5
namespace Go.Proofs.YtfgacclgjklgnaaGreatDoor
open Go.Proofs.Tryz
set_option maxRecDepth 100000
theorem mO:(Rows.blsLongRow.recurses==prog.recurses 4)=true:=kr
theorem qm:(Rows.blsLongRow.named==prog.varsNamed 4)=true:=kr
end Go.Proofs.YtfgacclgjklgnaaGreatDoor
