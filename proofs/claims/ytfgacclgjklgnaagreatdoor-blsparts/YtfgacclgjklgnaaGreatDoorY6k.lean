/- Y6k -/
import Derived.Test.YtfgacclgjklgnaaGreatDoorRows
import Derived.Test.YtfgacclgjklgnaaGreatDoorX5
namespace Go.Proofs.YtfgacclgjklgnaaGreatDoor
open Go.Proofs.Tryz
set_option maxRecDepth 100000
theorem mP:(Rows.blsPartsRow.inPlace==prog.inPlace 10)=true:=kr
theorem kP:(Rows.blsPartsRow.unfollowed==prog.unfollowed 10)=true:=kr
end Go.Proofs.YtfgacclgjklgnaaGreatDoor
