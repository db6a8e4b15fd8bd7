/-
  Roots; the document's pairs, noughts and depths.
-/
import Derived.Test.YtfnnbaoilldpaaaDoorX3
import Derived.Test.YtfnnbaoilldpaaaDoorMT
import Derived.Test.YtfnnbaoilldpaaaDoorM1
namespace Go.Proofs.YtfnnbaoilldpaaaDoor
open Go.RowKit
set_option maxRecDepth 100000
set_option maxHeartbeats 1000000

open Sh
abbrev Rt := List (BitVec 8)
def Z0 : Rt := List.replicate 32 0#8
theorem Z0_len : Z0.length = 32 := rfl
def P2 (x y : Rt) : Rt := SHA (x ++ y)
theorem P2_len (x y : Rt) : (P2 x y).length = 32 := SHA_len _
theorem zr_len : ∀ d, (zrT P2 Z0 d).length = 32
  | 0 => rfl
  | _ + 1 => P2_len _ _
def AllR (l : List Rt) : Prop := ∀ r ∈ l, r.length = 32
theorem tre_len {l : List Rt} (hl : AllR l) : ∀ d, (tre P2 Z0 d l).length = 32
  | 0 => by
    cases l with
    | nil => rfl
    | cons x r => exact hl x (List.mem_cons_self ..)
  | _ + 1 => P2_len _ _
theorem AllR.take {l : List Rt} (h : AllR l) (n : Nat) : AllR (l.take n) := fun r hr => h r (List.mem_of_mem_take hr)
theorem AllR.drop {l : List Rt} (h : AllR l) (n : Nat) : AllR (l.drop n) := fun r hr => h r (List.mem_of_mem_drop hr)
/-- Roots one behind the other, wherever they lie. -/
def RtsAt (w : World) (a : Option Addr) (l : List Rt) : Prop := ∀ i r, l[i]? = some r → ∃ ad, a = some ad ∧ ∀ j v, (r.map U8)[j]? = some v → w.cell? ((ad.add (i * 32)).add j) = some v
theorem RtsAt.grow {w w' : World} {a : Option Addr} {l : List Rt} (h : RtsAt w a l) (hg : Grow w w') : RtsAt w' a l := fun i r hr => by
  obtain ⟨ad, e, h1⟩ := h i r hr
  exact ⟨ad, e, fun j v hv => (hg.cell (block_lt_of_cell (h1 j v hv))).trans (h1 j v hv)⟩
theorem RtsAt.take {w : World} {a : Option Addr} {l : List Rt} (h : RtsAt w a l) (n : Nat) : RtsAt w a (l.take n) := fun i r hr => by
  rw [List.getElem?_take] at hr
  split at hr
  · exact h i r hr
  · cases hr
def cutR (a : Option Addr) (c m : Nat) : Option Addr := if c = m then a else a.map (·.add (m * 32))
theorem add_addR (ad : Addr) (m n : Nat) : (ad.add m).add n = ad.add (m + n) := by
  unfold Addr.add
  by_cases h1 : m = 0
  · subst h1; simp
  · by_cases h2 : n = 0
    · subst h2; simp
    · have h3 : ¬ m + n = 0 := by omega
      simp [h1, h2]; omega
theorem RtsAt.drop {w : World} {a : Option Addr} {l : List Rt} (h : RtsAt w a l) {c : Nat} (hc : l.length ≤ c) (m : Nat) : RtsAt w (cutR a c m) (l.drop m) := fun i r hr => by
  have hr2 := hr
  rw [List.getElem?_drop] at hr2
  have hlt : m + i < l.length := (List.getElem?_eq_some_iff.1 hr2).1
  obtain ⟨ad, e, h1⟩ := h _ r hr2
  unfold cutR
  rw [if_neg (by omega), e]
  refine ⟨_, rfl, fun j v hv => ?_⟩
  rw [add_addR ad, show m * 32 + i * 32 = (m + i) * 32 from by omega]
  exact h1 j v hv
theorem cutR0 (a : Option Addr) (m : Nat) : (if m = 0 then a else a.map (·.add (0 * 32))) = a := by
  split
  · rfl
  · cases a <;> simp [Addr.add]
end Go.Proofs.YtfnnbaoilldpaaaDoor
