/- Y5m -/
import Derived.Test.YtfakhlafilbjkaaGreatDoorX5
namespace Go.Proofs.YtfakhlafilbjkaaGreatDoor
open Go.Proofs.Tryz
set_option maxRecDepth 100000
theorem kG:(Rows.rulesKindsRow.recurses==prog.recurses 5)=true:=kr
theorem mP:(Rows.rulesKindsRow.named==prog.varsNamed 5)=true:=kr
end Go.Proofs.YtfakhlafilbjkaaGreatDoor
