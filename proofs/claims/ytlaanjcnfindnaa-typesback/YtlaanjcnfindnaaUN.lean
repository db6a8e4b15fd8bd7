/-
  What is decoded gives back its bytes.
-/
import Derived.Test.YtlaanjcnfindnaaVQ
import Derived.Test.YtlaanjcnfindnaaTM
namespace Go.Proofs.Ytlaanjcnfindnaa
open Go.RowKit
set_option maxRecDepth 100000
set_option maxHeartbeats 1000000

theorem sub_all {bs : By} {n : Nat} (h : bs.length = n) : sub bs 0 n = bs := by rw [sub, List.drop_zero, List.take_of_length_le (by omega)]
theorem sub_x (bs : By) (o p n : Nat) : sub (bs.drop o) p n = sub bs (o + p) n := by rw [sub, sub, List.drop_drop]
end Go.Proofs.Ytlaanjcnfindnaa
