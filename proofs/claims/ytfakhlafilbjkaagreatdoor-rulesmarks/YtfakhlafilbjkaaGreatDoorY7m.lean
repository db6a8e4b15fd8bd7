/- Y7m -/
import Derived.Test.YtfakhlafilbjkaaGreatDoorX5
namespace Go.Proofs.YtfakhlafilbjkaaGreatDoor
open Go.Proofs.Tryz
set_option maxRecDepth 100000
theorem kV:(Rows.rulesMarksRow.recurses==prog.recurses 7)=true:=kr
theorem m5:(Rows.rulesMarksRow.named==prog.varsNamed 7)=true:=kr
end Go.Proofs.YtfakhlafilbjkaaGreatDoor
