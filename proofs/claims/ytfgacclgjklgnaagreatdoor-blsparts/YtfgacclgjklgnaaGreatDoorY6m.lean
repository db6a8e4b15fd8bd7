/- Y6m -/
import Derived.Test.YtfgacclgjklgnaaGreatDoorRows
import Derived.Test.YtfgacclgjklgnaaGreatDoorX5
namespace Go.Proofs.YtfgacclgjklgnaaGreatDoor
open Go.Proofs.Tryz
set_option maxRecDepth 100000
theorem l9:(Rows.blsPartsRow.recurses==prog.recurses 10)=true:=kr
theorem qq:(Rows.blsPartsRow.named==prog.varsNamed 10)=true:=kr
end Go.Proofs.YtfgacclgjklgnaaGreatDoor
