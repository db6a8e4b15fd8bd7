/-
  The document's branches; lists of roots that are alike.
-/
import Derived.Test.YtfnnbaoilldpaaaDoorTC
namespace Go.Proofs.YtfnnbaoilldpaaaDoor
open Go.RowKit
set_option maxRecDepth 100000
set_option maxHeartbeats 1000000
open Sh
theorem tiR : TI Tryd.prog 29 (.agg (Z0.map U8).toArray) 32 32 := ti_mk (by kernel_rfl)
theorem made_rep (v : Value) (s : Nat) (hs : 0 < s) (n : Nat) : (madeCells (List.replicate s v).toArray n).toList = List.replicate n v := by
  rw [madeCells]
  refine List.ext_getElem (by simp) fun i h1 h2 => ?_
  have h3 : i % s < s := Nat.mod_lt _ hs
  simp [h3]
theorem madeR (n : Nat) : (madeCells (Value.agg (Z0.map U8).toArray).cells (n * 32)).toList = (List.replicate (32 * n) 0#8).map U8 := by
  have hz : (Value.agg (Z0.map U8).toArray).cells = (List.replicate 32 (U8 0#8)).toArray := by
    show (Z0.map U8).toArray = _
    rw [Z0, List.map_replicate]
  rw [hz, made_rep _ 32 (by decide), List.map_replicate, Nat.mul_comm]
theorem flat_len : ∀ (l : List Rt), AllR l → l.flatten.length = 32 * l.length
  | [], _ => rfl
  | x :: l, h => by
    rw [List.flatten_cons, List.length_append, flat_len l (fun r hr => h r (List.mem_cons_of_mem _ hr)), h x (List.mem_cons_self ..), List.length_cons]; omega
theorem flat_get : ∀ (l : List Rt), AllR l → ∀ (i : Nat) (r : Rt), l[i]? = some r → ∀ (j : Nat) (v : BitVec 8), r[j]? = some v → l.flatten[i * 32 + j]? = some v
  | [], _, _, _, hr, _, _, _ => by simp at hr
  | x :: l, h, 0, r, hr, j, v, hv => by
    simp only [List.getElem?_cons_zero, Option.some.injEq] at hr
    subst hr
    have hj := (List.getElem?_eq_some_iff.1 hv).1
    rw [List.flatten_cons, Nat.zero_mul, Nat.zero_add, List.getElem?_append_left hj]
    exact hv
  | x :: l, h, i + 1, r, hr, j, v, hv => by
    simp only [List.getElem?_cons_succ] at hr
    have hx := h x (List.mem_cons_self ..)
    rw [List.flatten_cons, List.getElem?_append_right (by omega), show (i + 1) * 32 + j - x.length = i * 32 + j from by omega]
    exact flat_get l (fun r hr => h r (List.mem_cons_of_mem _ hr)) i r hr j v hv
/-- Roots that lie in a block from its beginning. -/
theorem rts_own {w : World} {b : Nat} {cs : List Value} {l : List Rt} (hl : AllR l) (h : w.rangeAt b 0 cs) (hc : cs.take (32 * l.length) = l.flatten.map U8) : RtsAt w (some ⟨b, 0, none⟩) l := fun i r hr => by
  refine ⟨_, rfl, fun j v hv => ?_⟩
  rw [List.getElem?_map, Option.map_eq_some_iff] at hv
  obtain ⟨x, hx, rfl⟩ := hv
  have hj := (List.getElem?_eq_some_iff.1 hx).1
  have hr32 := hl r (List.mem_of_getElem? hr)
  have hi := (List.getElem?_eq_some_iff.1 hr).1
  have h1 := flat_get l hl i r hr j x hx
  have h2 : cs[i * 32 + j]? = some (U8 x) := by
    have : (cs.take (32 * l.length))[i * 32 + j]? = some (U8 x) := by rw [hc, List.getElem?_map, h1]; rfl
    rw [List.getElem?_take, if_pos (by omega)] at this
    exact this
  have h3 := h _ _ h2
  rw [Addr.add_mid, Addr.add_mid]
  rw [Nat.zero_add] at h3
  rw [Nat.zero_add]
  exact h3
/-- A list of roots that was made. -/
def FrL (w w' : World) (v : Value) (l : List Rt) : Prop := ∃ a cap, v = .slice a l.length cap ∧ SlW 29 32 w' a cap l.length (l.flatten.map U8) ∧ New w a
theorem brF_all {i : Nat} : ∀ (d : Nat) (l : List Rt), AllR l → AllR (brF P2 Z0 d l i)
  | 0, _, _ => fun r hr => by simp [brF] at hr
  | d + 1, l, h => by
    rw [brF]
    cases i.testBit d
    · simp only [cond_false]
      intro r hr
      rcases List.mem_append.1 hr with hr | hr
      · exact brF_all d _ (h.take _) r hr
      · rw [List.mem_singleton.1 hr]; exact tre_len (h.drop _) d
    · simp only [cond_true]
      intro r hr
      rcases List.mem_append.1 hr with hr | hr
      · exact brF_all d _ (h.drop _) r hr
      · rw [List.mem_singleton.1 hr]; exact tre_len (h.take _) d
theorem all_cons {x : Rt} {l : List Rt} (hx : x.length = 32) (hl : AllR l) : AllR (x :: l) := fun r hr => (List.mem_cons.1 hr).elim (fun h => h ▸ hx) (hl r)
end Go.Proofs.YtfnnbaoilldpaaaDoor
