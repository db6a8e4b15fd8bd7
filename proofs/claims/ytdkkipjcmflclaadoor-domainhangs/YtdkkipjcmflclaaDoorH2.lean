/-
  The walks of Hash's methods.
-/
import Derived.Test.YtdkkipjcmflclaaDoorH1
namespace Go.Proofs.YtdkkipjcmflclaaDoor
open Go.RowKit
set_option maxRecDepth 100000
namespace Sh
theorem own_range {w : World} {b : Nat} {c : List Value} {t : TypeId} (h : OwnB w b c t) {o : Nat} {cs : List Value} (hc : ∀ j v, cs[j]? = some v → c[o + j]? = some v) : w.rangeAt b o cs := fun j v hv => (h.cell (o + j)).trans (hc j v hv)
end Sh
end Go.Proofs.YtdkkipjcmflclaaDoor
