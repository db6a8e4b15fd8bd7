/-
  The document's decoder of updates, of three kinds.
-/
import Derived.Test.YtlaanjcnfindnaaVJ
namespace Go.Proofs.Ytlaanjcnfindnaa
open Go.RowKit
set_option maxRecDepth 100000
set_option maxHeartbeats 1000000

theorem sub_drop (bs : By) (o p n : Nat) : sub (bs.drop o) p n = sub bs (o + p) n := by rw [sub, sub, List.drop_drop]
end Go.Proofs.Ytlaanjcnfindnaa
