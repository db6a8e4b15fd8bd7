/- Y4m -/
import Derived.Test.YtfakhlafilbjkaaGreatDoorX5
namespace Go.Proofs.YtfakhlafilbjkaaGreatDoor
open Go.Proofs.Tryz
set_option maxRecDepth 100000
theorem kv:(Rows.rulesBetterRow.recurses==prog.recurses 4)=true:=kr
theorem lU:(Rows.rulesBetterRow.named==prog.varsNamed 4)=true:=kr
end Go.Proofs.YtfakhlafilbjkaaGreatDoor
