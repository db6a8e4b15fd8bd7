/-
  The law of roots that tell headers apart.
-/
import Derived.Test.YtldnceanfncdfaaDoorWI
namespace Go.Proofs.YtldnceanfncdfaaDoor
open Go.RowKit
set_option maxRecDepth 100000
set_option maxHeartbeats 1000000
open Sh
theorem Hd.all {h : Hd} : ∀ j v, h.cs[j]? = some v → h.cs[0 + j]? = some v := fun j v hv => by rw [Nat.zero_add]; exact hv
theorem Hd.one (h : Hd) : h.cs.all (·.oneCell') = true := by
  simp only [Hd.cs, List.all_cons, List.all_append, one_u8, Bool.and_true]
  rfl
end Go.Proofs.YtldnceanfncdfaaDoor
