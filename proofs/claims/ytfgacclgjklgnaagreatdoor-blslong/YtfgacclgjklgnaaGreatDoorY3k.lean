/- Y3k -/
import Derived.Test.YtfgacclgjklgnaaGreatDoorRows
import Derived.Test.YtfgacclgjklgnaaGreatDoorX5
namespace Go.Proofs.YtfgacclgjklgnaaGreatDoor
open Go.Proofs.Tryz
set_option maxRecDepth 100000
theorem nq:(Rows.blsLongRow.inPlace==prog.inPlace 4)=true:=kr
theorem kX:(Rows.blsLongRow.unfollowed==prog.unfollowed 4)=true:=kr
end Go.Proofs.YtfgacclgjklgnaaGreatDoor
