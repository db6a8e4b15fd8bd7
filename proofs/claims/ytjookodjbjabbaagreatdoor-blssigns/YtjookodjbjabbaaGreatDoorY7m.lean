/- Y7m -/
import Derived.Test.YtjookodjbjabbaaGreatDoorX5
namespace Go.Proofs.YtjookodjbjabbaaGreatDoor
open Go.Proofs.Tryz
set_option maxRecDepth 100000
theorem mA:(Rows.blsSignsRow.recurses==prog.recurses 3)=true:=kr
theorem o8:(Rows.blsSignsRow.named==prog.varsNamed 3)=true:=kr
end Go.Proofs.YtjookodjbjabbaaGreatDoor
