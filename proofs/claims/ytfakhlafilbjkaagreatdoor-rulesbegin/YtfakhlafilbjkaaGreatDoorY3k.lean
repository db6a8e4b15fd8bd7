/- Y3k -/
import Derived.Test.YtfakhlafilbjkaaGreatDoorX5
namespace Go.Proofs.YtfakhlafilbjkaaGreatDoor
open Go.Proofs.Tryz
set_option maxRecDepth 100000
theorem lL:(Rows.rulesBeginRow.inPlace==prog.inPlace 3)=true:=kr
theorem kg:(Rows.rulesBeginRow.unfollowed==prog.unfollowed 3)=true:=kr
end Go.Proofs.YtfakhlafilbjkaaGreatDoor
