/-
  The document's updates and bootstraps as bytes.
-/
import Derived.Test.YtlaanjcnfindnaaVB
import Derived.Test.YtlaanjcnfindnaaX2
import Derived.Test.YtlaanjcnfindnaaX3
namespace Go.Proofs.Ytlaanjcnfindnaa
open Go.RowKit
set_option maxRecDepth 100000
set_option maxHeartbeats 1000000

theorem Up.at_at {u : Up} : ∀ j v, u.at_.cs[j]? = some v → u.cs[0 + j]? = some v := mid_at (pre := []) rfl
theorem Up.at_nx {u : Up} (k : u.Ok) : ∀ j v, u.nx.cs[j]? = some v → u.cs[98 + j]? = some v := mid_at (Hd.len k.at_)
theorem Up.e1 {u : Up} (k : u.Ok) : ∀ j v, (u.br.map U8 ++ (u.fi.cs ++ (u.fy.map U8 ++ (u.sy.cs ++ [U64 u.sl]))))[j]? = some v → u.cs[147 + j]? = some v := at_trans (o := 98) (p := 49) (end_at (Hd.len k.at_)) (end_at (Co.len k.nx))
theorem Up.at_br {u : Up} (k : u.Ok) : ∀ j v, (u.br.map U8)[j]? = some v → u.cs[147 + j]? = some v := at_trans (o := 147) (p := 0) (Up.e1 k) (mid_at (pre := []) rfl)
theorem Up.e2 {u : Up} (k : u.Ok) : ∀ j v, (u.fi.cs ++ (u.fy.map U8 ++ (u.sy.cs ++ [U64 u.sl])))[j]? = some v → u.cs[307 + j]? = some v := at_trans (o := 147) (p := 160) (Up.e1 k) (end_at (by rw [List.length_map, k.br]))
theorem Up.at_fi {u : Up} (k : u.Ok) : ∀ j v, u.fi.cs[j]? = some v → u.cs[307 + j]? = some v := at_trans (o := 307) (p := 0) (Up.e2 k) (mid_at (pre := []) rfl)
theorem Up.e3 {u : Up} (k : u.Ok) : ∀ j v, (u.fy.map U8 ++ (u.sy.cs ++ [U64 u.sl]))[j]? = some v → u.cs[405 + j]? = some v := at_trans (o := 307) (p := 98) (Up.e2 k) (end_at (Hd.len k.fi))
theorem Up.at_fy {u : Up} (k : u.Ok) : ∀ j v, (u.fy.map U8)[j]? = some v → u.cs[405 + j]? = some v := at_trans (o := 405) (p := 0) (Up.e3 k) (mid_at (pre := []) rfl)
theorem Up.e4 {u : Up} (k : u.Ok) : ∀ j v, (u.sy.cs ++ [U64 u.sl])[j]? = some v → u.cs[597 + j]? = some v := at_trans (o := 405) (p := 192) (Up.e3 k) (end_at (by rw [List.length_map, k.fy]))
theorem Up.at_sy {u : Up} (k : u.Ok) : ∀ j v, u.sy.cs[j]? = some v → u.cs[597 + j]? = some v := at_trans (o := 597) (p := 0) (Up.e4 k) (mid_at (pre := []) rfl)
theorem Up.at_sl {u : Up} (k : u.Ok) : u.cs[694]? = some (U64 u.sl) := at_trans (o := 597) (p := 97) (Up.e4 k) (end_at (Ag.len k.sy)) 0 _ rfl
theorem Up.at_bits {u : Up} (k : u.Ok) : u.cs[597]? = some (.slice u.sy.ba u.sy.bs.length u.sy.bc) := Up.at_sy k 0 _ rfl
theorem Bo.at_hd {b : Bo} : ∀ j v, b.hd.cs[j]? = some v → b.cs[0 + j]? = some v := mid_at (pre := []) rfl
theorem Bo.at_nw {b : Bo} (k : b.Ok) : ∀ j v, b.nw.cs[j]? = some v → b.cs[98 + j]? = some v := mid_at (Hd.len k.hd)
theorem Bo.at_keys {b : Bo} (k : b.Ok) : b.cs[98]? = some (.slice b.nw.ka b.nw.ks.length b.nw.kc) := Bo.at_nw k 0 _ rfl
theorem Bo.at_br {b : Bo} (k : b.Ok) : ∀ j v, (b.br.map U8)[j]? = some v → b.cs[147 + j]? = some v := at_trans (o := 98) (p := 49) (end_at (Hd.len k.hd)) (end_at (Co.len k.nw))
theorem Up.len {u : Up} (k : u.Ok) : u.cs.length = 695 := by simp [Up.cs, Hd.len k.at_, Co.len k.nx, k.br, Hd.len k.fi, k.fy, Ag.len k.sy]
theorem Bo.len {b : Bo} (k : b.Ok) : b.cs.length = 307 := by simp [Bo.cs, Hd.len k.hd, Co.len k.nw, k.br]
/-- A piece of a list in its place. -/
theorem piece_at {cs : List Value} {o : Nat} {l : By} (h : ∀ j v, (l.map U8)[j]? = some v → cs[o + j]? = some v) (m s : Nat) : ∀ j v, ((((l.drop m).take s).map U8))[j]? = some v → cs[(o + m) + j]? = some v := at_trans h fun j v hv => by
  rw [List.getElem?_map, Option.map_eq_some_iff] at hv ⊢
  obtain ⟨x, hx, rfl⟩ := hv
  rw [List.getElem?_take] at hx
  split at hx
  · rw [List.getElem?_drop] at hx; exact ⟨x, hx, rfl⟩
  · cases hx
theorem take_more32 (l : By) (i : Nat) : l.take (32 * i) ++ (l.drop (32 * i)).take 32 = l.take (32 * (i + 1)) := by rw [Nat.mul_succ, List.take_add]
end Go.Proofs.Ytlaanjcnfindnaa
