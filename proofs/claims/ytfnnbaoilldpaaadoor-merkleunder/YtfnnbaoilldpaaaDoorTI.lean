/-
  Roots appended; the law of noughts behind the chunks.
-/
import Derived.Test.YtfnnbaoilldpaaaDoorTG
import Derived.Test.YtfnnbaoilldpaaaDoorX3
namespace Go.Proofs.YtfnnbaoilldpaaaDoor
open Go.RowKit
set_option maxRecDepth 100000
set_option maxHeartbeats 1000000
open Sh
theorem flat_back {l : List Rt} (hl : AllR l) {j : Nat} {u : BitVec 8} (h : l.flatten[j]? = some u) : ∃ r, l[j / 32]? = some r ∧ r[j % 32]? = some u := by
  have hj := (List.getElem?_eq_some_iff.1 h).1
  rw [flat_len l hl] at hj
  have hi : j / 32 < l.length := by omega
  have hr : l[j / 32]? = some l[j / 32] := List.getElem?_eq_getElem hi
  have hr32 := hl _ (List.getElem_mem hi)
  have hm : j % 32 < l[j / 32].length := by omega
  refine ⟨_, hr, ?_⟩
  have := flat_get l hl (j / 32) _ hr (j % 32) _ (List.getElem?_eq_getElem hm)
  rw [show j / 32 * 32 + j % 32 = j from by omega, h] at this
  rw [List.getElem?_eq_getElem hm]
  exact this.symm
theorem rts_src {P : Program} {w : World} {a : Option Addr} {l : List Rt} {tx e' : TypeId} (hk : P.underlying tx = some (.slice e')) (hl : AllR l) (h : RtsAt w a l) {len : Nat} (hlen : l.length = len) (c : Nat) : Src P 32 tx (.slice a len c) len (l.flatten.map U8) w := by
  subst hlen
  have hone : ∀ u ∈ l.flatten.map U8, u.oneCell' = true := fun u hu => by
    obtain ⟨x, _, rfl⟩ := List.mem_map.1 hu
    rfl
  cases a with
  | none =>
    have h0 : l = [] := by
      cases l with
      | nil => rfl
      | cons x r => obtain ⟨_, e, _⟩ := h 0 x rfl; cases e
    subst h0
    exact Src.ofNil w hk c
  | some ad =>
    refine Src.ofSlice w hk ad _ c _ (by rw [List.length_map, flat_len l hl]; omega) (fun j u hu => ?_) hone
    rw [List.getElem?_map, Option.map_eq_some_iff] at hu
    obtain ⟨x, hx, rfl⟩ := hu
    obtain ⟨r, h1, h2⟩ := flat_back hl hx
    obtain ⟨ad2, e, h3⟩ := h _ r h1
    cases e
    have := h3 (j % 32) (U8 x) (by rw [List.getElem?_map, h2]; rfl)
    rw [add_addR, show j / 32 * 32 + j % 32 = j from by omega] at this
    exact this
theorem zeros_flat (m : Nat) : (Builtin.zeroCells (Value.agg (Z0.map U8).toArray).cells m).toList = (List.replicate m Z0).flatten.map U8 := by
  have h : (Value.agg (Z0.map U8).toArray).cells.size = 32 := by show (Z0.map U8).toArray.size = 32; rw [List.size_toArray, List.length_map]; rfl
  have e := madeR m
  rw [madeCells, h] at e
  rw [Builtin.zeroCells, h, e]
  clear e
  congr 1
  induction m with
  | zero => rfl
  | succ m ih => rw [List.replicate_succ, List.flatten_cons, ← ih, Z0, List.replicate_append_replicate]; congr 1; omega
theorem zeros_one (m : Nat) : ∀ u ∈ (Builtin.zeroCells (Value.agg (Z0.map U8).toArray).cells m).toList, u.oneCell' = true := fun u hu => by
  rw [zeros_flat] at hu
  obtain ⟨x, _, rfl⟩ := List.mem_map.1 hu
  rfl
theorem all_rep (m : Nat) : AllR (List.replicate m Z0) := fun r hr => by rw [(List.mem_replicate.1 hr).2]; rfl
theorem all_app {l m : List Rt} (h1 : AllR l) (h2 : AllR m) : AllR (l ++ m) := fun r hr => (List.mem_append.1 hr).elim (h1 r) (h2 r)
end Go.Proofs.YtfnnbaoilldpaaaDoor
