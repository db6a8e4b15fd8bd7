/-
  The document's sum is SHA: the reference's words, rounds and blocks against the program's.
-/
import Derived.Test.YtfnnbaoilldpaaaDoorR3
namespace Go.Proofs.YtfnnbaoilldpaaaDoor
open Go.RowKit
set_option maxRecDepth 100000

namespace Sh
theorem flat_len (L : List (List (BitVec 8))) (h : ∀ l ∈ L, l.length = 64) : L.flatten.length = 64 * L.length := by
  induction L with
  | nil => rfl
  | cons x r ih =>
    rw [List.flatten_cons, List.length_append, ih (fun l hl => h l (by simp [hl])), h x (by simp), List.length_cons]
    omega
end Sh
end Go.Proofs.YtfnnbaoilldpaaaDoor
