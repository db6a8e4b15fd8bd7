/- Y6k -/
import Derived.Test.YtfakhlafilbjkaaGreatDoorX5
namespace Go.Proofs.YtfakhlafilbjkaaGreatDoor
open Go.Proofs.Tryz
set_option maxRecDepth 100000
theorem jW:(Rows.rulesSettingsRow.inPlace==prog.inPlace 6)=true:=kr
theorem jk:(Rows.rulesSettingsRow.unfollowed==prog.unfollowed 6)=true:=kr
end Go.Proofs.YtfakhlafilbjkaaGreatDoor
