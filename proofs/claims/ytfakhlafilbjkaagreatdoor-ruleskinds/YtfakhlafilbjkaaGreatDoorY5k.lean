/- Y5k -/
import Derived.Test.YtfakhlafilbjkaaGreatDoorX5
namespace Go.Proofs.YtfakhlafilbjkaaGreatDoor
open Go.Proofs.Tryz
set_option maxRecDepth 100000
theorem kZ:(Rows.rulesKindsRow.inPlace==prog.inPlace 5)=true:=kr
theorem jV:(Rows.rulesKindsRow.unfollowed==prog.unfollowed 5)=true:=kr
end Go.Proofs.YtfakhlafilbjkaaGreatDoor
