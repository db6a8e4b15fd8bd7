/- Y5k -/
import Derived.Test.YtfgacclgjklgnaaGreatDoorX5
namespace Go.Proofs.YtfgacclgjklgnaaGreatDoor
open Go.Proofs.Tryz
set_option maxRecDepth 100000
theorem oT:(Rows.blsKeysRow.inPlace==prog.inPlace 5)=true:=kr
theorem l8:(Rows.blsKeysRow.unfollowed==prog.unfollowed 5)=true:=kr
end Go.Proofs.YtfgacclgjklgnaaGreatDoor
