/-
  The document's roots of committees, aggregates, updates and bootstraps.
-/
import Derived.Test.YtldnceanfncdfaaDoorWD
namespace Go.Proofs.YtldnceanfncdfaaDoor
open Go.RowKit
set_option maxRecDepth 100000
set_option maxHeartbeats 1000000
open Sh
theorem BytesAt.sub_row {w : World} {b o : Nat} {cs : List Value} {bs : By} (h : w.rangeAt b 0 cs) (ha : ∀ j v, (bs.map U8)[j]? = some v → cs[o + j]? = some v) : BytesAt w (some ⟨b, o, none⟩) bs := fun j v hv => by
  refine ⟨_, rfl, ?_⟩
  rw [Addr.add_mid]
  have := h _ v (ha j v hv)
  rwa [Nat.zero_add] at this
theorem cells_grow {w w' : World} {a : Option Addr} {xs : List Value} (h : CellsAt w a xs) (hg : Grow w w') : CellsAt w' a xs := fun j v hv => by
  obtain ⟨ad, e, hc⟩ := h j v hv
  exact ⟨ad, e, (hg.cell (block_lt_of_cell hc)).trans hc⟩
theorem Co.all {c : Co} : ∀ j v, c.cs[j]? = some v → c.cs[0 + j]? = some v := fun j v hv => by rw [Nat.zero_add]; exact hv
theorem Co.a0 {c : Co} : ∀ j v, [Value.slice c.ka c.ks.length c.kc][j]? = some v → c.cs[0 + j]? = some v := mid_at (pre := []) rfl
theorem Ag.a0 {a : Ag} : ∀ j v, [Value.slice a.ba a.bs.length a.bc][j]? = some v → a.cs[0 + j]? = some v := mid_at (pre := []) rfl
theorem Up.ab {u : Up} (k : u.Ok) : ∀ j v, [Value.slice u.sy.ba u.sy.bs.length u.sy.bc][j]? = some v → u.cs[597 + j]? = some v := at_trans (o := 597) (p := 0) (Up.l6 k) Ag.a0
theorem Bo.ak {b : Bo} (k : b.Ok) : ∀ j v, [Value.slice b.nw.ka b.nw.ks.length b.nw.kc][j]? = some v → b.cs[98 + j]? = some v := at_trans (o := 98) (p := 0) (Bo.l2 k) Co.a0
end Go.Proofs.YtldnceanfncdfaaDoor
