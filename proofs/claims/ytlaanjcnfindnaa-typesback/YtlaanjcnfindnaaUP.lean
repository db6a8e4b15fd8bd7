/-
  Bits clipped and filled up; noughts behind them, or not.
-/
import Derived.Test.YtlaanjcnfindnaaUN
import Derived.Test.YtlaanjcnfindnaaVP
import Derived.Test.YtlaanjcnfindnaaUA
namespace Go.Proofs.Ytlaanjcnfindnaa
open Go.RowKit
set_option maxRecDepth 100000
set_option maxHeartbeats 1000000

theorem src_cells {P : Program} {w : World} {a : Option Addr} {xs : List Value} {n s c : Nat} {tx e' : TypeId} (hu : P.underlying tx = some (.slice e')) (hs : 0 < s) (hl : xs.length = n * s) (h : CellsAt w a xs) (h1 : ∀ u ∈ xs, u.oneCell' = true) : Src P s tx (.slice a n c) n xs w := by
  cases a with
  | some ad => exact Src.ofSlice w hu ad n c xs hl (fun j u hj => by obtain ⟨ad2, e, hc⟩ := h j u hj; cases e; exact hc) h1
  | none =>
    cases xs with
    | nil =>
      have hn : n = 0 := by
        rcases Nat.eq_zero_or_pos n with h0 | h0
        · exact h0
        · have := Nat.mul_pos h0 hs; rw [← hl] at this; exact absurd this (by simp)
      subst hn
      exact Src.ofNil w hu c
    | cons x r =>
      obtain ⟨ad, e, _⟩ := h 0 x rfl
      cases e
theorem tiB : TI Try.prog 4 (.bool false) 1 1 := ti_mk (by kernel_rfl)
theorem zb_list (m : Nat) : (Builtin.zeroCells (Value.bool false).cells m).toList = List.replicate m (.bool false) := made4 m
theorem zb_one (m : Nat) : ∀ u ∈ (Builtin.zeroCells (Value.bool false).cells m).toList, u.oneCell' = true := fun u hu => by
  rw [zb_list] at hu
  rw [(List.mem_replicate.1 hu).2]; rfl
theorem bools_one (l : List Bool) : ∀ u ∈ l.map Value.bool, u.oneCell' = true := fun u hu => by
  obtain ⟨x, _, rfl⟩ := List.mem_map.1 hu; rfl
theorem slv1 {e : TypeId} {w : World} {a : Option Addr} {cap n : Nat} {xs : List Value} (h : SlW e 1 w a cap n xs) : SlV e w a cap xs := by
  rcases h with ⟨h1, h2, _, h3⟩ | ⟨b, c, h1, h2, h3, h4, h5, h6⟩
  · exact .inl ⟨h1, h2, h3⟩
  · exact .inr ⟨b, c, h1, h2, by rw [h3, Nat.mul_one], by rw [h5, Nat.mul_one]; exact h4, h6⟩
/-- Bits, so many. -/
def clip (l : List Bool) (m : Nat) : List Bool := l.take (min l.length m) ++ List.replicate (m - min l.length m) false
theorem clip_len (l : List Bool) (m : Nat) : (clip l m).length = m := by rw [clip, List.length_append, List.length_take, List.length_replicate]; omega
theorem clip_map (l : List Bool) (m : Nat) : (clip l m).map Value.bool = (l.take (min l.length m)).map .bool ++ List.replicate (m - min l.length m) (.bool false) := by rw [clip, List.map_append, List.map_replicate]
end Go.Proofs.Ytlaanjcnfindnaa
