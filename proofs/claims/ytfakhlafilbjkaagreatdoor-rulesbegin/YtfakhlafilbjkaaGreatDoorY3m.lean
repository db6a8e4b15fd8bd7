/- Y3m -/
import Derived.Test.YtfakhlafilbjkaaGreatDoorX5
namespace Go.Proofs.YtfakhlafilbjkaaGreatDoor
open Go.Proofs.Tryz
set_option maxRecDepth 100000
theorem lj:(Rows.rulesBeginRow.recurses==prog.recurses 3)=true:=kr
theorem nC:(Rows.rulesBeginRow.named==prog.varsNamed 3)=true:=kr
end Go.Proofs.YtfakhlafilbjkaaGreatDoor
