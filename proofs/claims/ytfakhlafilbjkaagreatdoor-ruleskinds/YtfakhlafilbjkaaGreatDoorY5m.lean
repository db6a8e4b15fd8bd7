/- Y5m -/
import Derived.Test.YtfakhlafilbjkaaGreatDoorX5
namespace Go.Proofs.YtfakhlafilbjkaaGreatDoor
open Go.Proofs.Tryz
set_option maxRecDepth 100000
theorem kN:(Rows.rulesKindsRow.recurses==prog.recurses 5)=true:=kr
theorem mX:(Rows.rulesKindsRow.named==prog.varsNamed 5)=true:=kr
end Go.Proofs.YtfakhlafilbjkaaGreatDoor
