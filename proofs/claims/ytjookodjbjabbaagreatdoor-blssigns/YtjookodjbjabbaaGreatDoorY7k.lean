/- Y7k -/
import Derived.Test.YtjookodjbjabbaaGreatDoorX5
namespace Go.Proofs.YtjookodjbjabbaaGreatDoor
open Go.Proofs.Tryz
set_option maxRecDepth 100000
theorem nu:(Rows.blsSignsRow.inPlace==prog.inPlace 3)=true:=kr
theorem ll:(Rows.blsSignsRow.unfollowed==prog.unfollowed 3)=true:=kr
end Go.Proofs.YtjookodjbjabbaaGreatDoor
