/- Y5m -/
import Derived.Test.YtfgacclgjklgnaaGreatDoorX5
namespace Go.Proofs.YtfgacclgjklgnaaGreatDoor
open Go.Proofs.Tryz
set_option maxRecDepth 100000
theorem nw:(Rows.blsKeysRow.recurses==prog.recurses 5)=true:=kr
theorem rT:(Rows.blsKeysRow.named==prog.varsNamed 5)=true:=kr
end Go.Proofs.YtfgacclgjklgnaaGreatDoor
