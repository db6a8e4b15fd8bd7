/- Y4m -/
import Derived.Test.YtfgacclgjklgnaaGreatDoorRows
import Derived.Test.YtfgacclgjklgnaaGreatDoorX5
namespace Go.Proofs.YtfgacclgjklgnaaGreatDoor
open Go.Proofs.Tryz
set_option maxRecDepth 100000
theorem mU:(Rows.blsManyRow.recurses==prog.recurses 9)=true:=kr
theorem qB:(Rows.blsManyRow.named==prog.varsNamed 9)=true:=kr
end Go.Proofs.YtfgacclgjklgnaaGreatDoor
