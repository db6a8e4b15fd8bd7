/- Y7k -/
import Derived.Test.YtjookodjbjabbaaGreatDoorX5
namespace Go.Proofs.YtjookodjbjabbaaGreatDoor
open Go.Proofs.Tryz
set_option maxRecDepth 100000
theorem nq:(Rows.blsSignsRow.inPlace==prog.inPlace 3)=true:=kr
theorem li:(Rows.blsSignsRow.unfollowed==prog.unfollowed 3)=true:=kr
end Go.Proofs.YtjookodjbjabbaaGreatDoor
