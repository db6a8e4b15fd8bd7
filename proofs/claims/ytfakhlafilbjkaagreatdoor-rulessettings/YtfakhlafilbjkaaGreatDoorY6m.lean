/- Y6m -/
import Derived.Test.YtfakhlafilbjkaaGreatDoorX5
namespace Go.Proofs.YtfakhlafilbjkaaGreatDoor
open Go.Proofs.Tryz
set_option maxRecDepth 100000
theorem jB:(Rows.rulesSettingsRow.recurses==prog.recurses 6)=true:=kr
theorem kP:(Rows.rulesSettingsRow.named==prog.varsNamed 6)=true:=kr
end Go.Proofs.YtfakhlafilbjkaaGreatDoor
