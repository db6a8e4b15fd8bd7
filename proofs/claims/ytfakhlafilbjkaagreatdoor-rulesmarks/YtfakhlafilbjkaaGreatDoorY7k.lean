/- Y7k -/
import Derived.Test.YtfakhlafilbjkaaGreatDoorX5
namespace Go.Proofs.YtfakhlafilbjkaaGreatDoor
open Go.Proofs.Tryz
set_option maxRecDepth 100000
theorem ly:(Rows.rulesMarksRow.inPlace==prog.inPlace 7)=true:=kr
theorem j0:(Rows.rulesMarksRow.unfollowed==prog.unfollowed 7)=true:=kr
end Go.Proofs.YtfakhlafilbjkaaGreatDoor
