/- Y4k -/
import Derived.Test.YtfakhlafilbjkaaGreatDoorX5
namespace Go.Proofs.YtfakhlafilbjkaaGreatDoor
open Go.Proofs.Tryz
set_option maxRecDepth 100000
theorem kX:(Rows.rulesBetterRow.inPlace==prog.inPlace 4)=true:=kr
theorem jM:(Rows.rulesBetterRow.unfollowed==prog.unfollowed 4)=true:=kr
end Go.Proofs.YtfakhlafilbjkaaGreatDoor
