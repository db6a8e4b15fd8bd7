/-
  What the rows share: roots that came in.
-/
import Derived.Test.YtfnnbaoilldpaaaDoorY0
import Derived.Test.YtfnnbaoilldpaaaDoorTA
import Derived.ChangeArms
import Derived.OpenShut
namespace Go.Proofs.YtfnnbaoilldpaaaDoor
open Go.ChangeShapes Go.WideShapes Go.ChangeAt Go.RowKit
set_option maxRecDepth 100000
theorem c5r : Tryd.prog.cellsOf 5 = 1 := by kernel_rfl
theorem cRr : Tryd.prog.cellsOf 29 = 32 := by kernel_rfl
theorem u8_wf {n : Int} (h : (Lit.int .u8 n).wf = true) : ∃ x : BitVec 8, (.int .u8 n : Value) = U8 x := by
  simp only [Lit.wf, Bool.and_eq_true, decide_eq_true_eq] at h
  have h1 : IntKind.u8.min = 0 := rfl
  have h2 : IntKind.u8.max = 255 := rfl
  rw [h1, h2] at h
  refine ⟨BitVec.ofNat 8 n.toNat, ?_⟩
  simp only [U8, BitVec.toNat_ofNat]
  congr 1
  omega
theorem u64_of_wf {n : Int} (h : (Lit.int .u64 n).wf = true) : ∃ x : BitVec 64, (.int .u64 n : Value) = U64 x := by
  simp only [Lit.wf, Bool.and_eq_true, decide_eq_true_eq] at h
  have h1 : IntKind.u64.min = 0 := rfl
  have h2 : IntKind.u64.max = 18446744073709551615 := rfl
  rw [h1, h2] at h
  refine ⟨BitVec.ofNat 64 n.toNat, ?_⟩
  simp only [U64, BitVec.toNat_ofNat]
  congr 1
  omega
theorem all_u8 : ∀ (cs : List Value), (∀ (j : Nat) (v : Value), cs[j]? = some v → ∃ x : BitVec 8, v = U8 x) → ∃ r : List (BitVec 8), cs = r.map U8
  | [], _ => ⟨[], rfl⟩
  | c :: cs, h => by
    obtain ⟨x, rfl⟩ := h 0 c rfl
    obtain ⟨r, rfl⟩ := all_u8 cs (fun j v hv => h (j + 1) v hv)
    exact ⟨x :: r, rfl⟩
section
variable {W : World} {H : Type} {enc : TypeId × Value → H} {base : Nat} {spare : Nat → Bool} {held : Bool} {fuel : Nat}
theorem isRt_of {cs : List Value} {x : DataW H × List MemPlace} (hf : DataW.trod enc Tryd.prog W base spare held fuel 29 cs = some x) : ∃ r : Rt, r.length = 32 ∧ cs = r.map U8 := by
  obtain ⟨xs, m, rfl, rfl, hl, hx, hF⟩ := DataW.trod_array Tryd.underlying29 hf
  rw [cRr] at hl
  obtain ⟨r, hr⟩ := all_u8 cs (fun j v hv => by
    have hj : j < 32 := by rw [← hl]; exact (List.getElem?_eq_some_iff.1 hv).1
    have h1 := hF j hj
    rw [c5r, Nat.mul_one, List.getElem?_eq_getElem (by omega)] at h1
    have h2 : (cs.drop j).take 1 = [v] := by
      obtain ⟨hlt, he⟩ := List.getElem?_eq_some_iff.1 hv
      rw [List.drop_eq_getElem_cons hlt, he]
      rfl
    rw [h2] at h1
    obtain ⟨n, e1, _, w1⟩ := DataW.trod_int Tryd.underlying5 h1
    obtain ⟨y, hy⟩ := u8_wf w1
    exact ⟨y, by rw [← hy]; simpa using e1⟩)
  exact ⟨r, by rw [hr, List.length_map] at hl; exact hl, hr⟩
theorem isRts_of {a : Option Addr} {len cap : Nat} {x : DataW H × List MemPlace} (hf : DataW.trod enc Tryd.prog W base spare held fuel 22 (Value.slice a len cap).cells.toList = some x) : len ≤ cap ∧ ∃ l : List Rt, l.length = len ∧ AllR l ∧ RtsAt W a l := by
  rcases DataW.trod_slice Tryd.underlying22 hf with ⟨hcs, _⟩ | ⟨a', len', cap', elems, rest, n, _, hcs, ex, _, hl, _, hlen, hel, _⟩
  · simp [Value.cells] at hcs
    obtain ⟨rfl, rfl, rfl⟩ := hcs
    exact ⟨Nat.le_refl _, [], rfl, fun _ h => by simp at h, fun i s hs => by simp at hs⟩
  · simp [Value.cells] at hcs
    obtain ⟨rfl, rfl, rfl⟩ := hcs
    have each : ∀ i, i < len → ∃ r : Rt, r.length = 32 ∧ ∀ j v, (r.map U8)[j]? = some v → W.cell? ((a'.add (i * 32)).add j) = some v := fun i hi => by
      have hE := hel i hi
      rw [cRr, List.getElem?_eq_getElem (by omega), Option.bind_eq_some_iff] at hE
      obtain ⟨c1, hc1, hy⟩ := hE
      obtain ⟨r, h1, rfl⟩ := isRt_of hy
      exact ⟨r, h1, (cell_of_cells?_at hc1).2⟩
    refine ⟨hl, (List.range len).map (fun i => if h : i < len then Classical.choose (each i h) else []), by simp, fun r hr => ?_, fun i r hr => ?_⟩
    · obtain ⟨i, hi, rfl⟩ := List.mem_map.1 hr
      have hlt := List.mem_range.1 hi
      rw [dif_pos hlt]
      exact (Classical.choose_spec (each i hlt)).1
    · rw [List.getElem?_map, Option.map_eq_some_iff] at hr
      obtain ⟨j, hj, rfl⟩ := hr
      obtain ⟨h1, h2⟩ := List.getElem?_eq_some_iff.1 hj
      simp only [List.getElem_range] at h2
      subst h2
      have hlt : i < len := by simpa using h1
      rw [dif_pos hlt]
      exact ⟨a', rfl, (Classical.choose_spec (each i hlt)).2⟩
end
end Go.Proofs.YtfnnbaoilldpaaaDoor
