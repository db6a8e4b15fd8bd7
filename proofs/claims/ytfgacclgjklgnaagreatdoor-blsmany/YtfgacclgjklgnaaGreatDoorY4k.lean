/- Y4k -/
import Derived.Test.YtfgacclgjklgnaaGreatDoorRows
import Derived.Test.YtfgacclgjklgnaaGreatDoorX5
namespace Go.Proofs.YtfgacclgjklgnaaGreatDoor
open Go.Proofs.Tryz
set_option maxRecDepth 100000
theorem nH:(Rows.blsManyRow.inPlace==prog.inPlace 9)=true:=kr
theorem lf:(Rows.blsManyRow.unfollowed==prog.unfollowed 9)=true:=kr
end Go.Proofs.YtfgacclgjklgnaaGreatDoor
