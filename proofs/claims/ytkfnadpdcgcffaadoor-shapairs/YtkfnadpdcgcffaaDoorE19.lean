/-
  The engine, part 19: arrays of numbers that come in.
-/
import Derived.Test.YtkfnadpdcgcffaaDoorE18
import Derived.OpenShut
namespace Go.Proofs.YtkfnadpdcgcffaaDoor
open Go.RowKit Go.WideShapes
theorem okWide_arr {P : Program} {w : World} {r : _} {base : Nat} {t e : TypeId} {n : Nat} {v : Value} (ht : P.underlying t = some (.array n e)) (h : Value.okWide P w r base t v) : ∃ cs, v = .agg cs ∧ cs.size = P.cellsOf t := by
  simp only [Value.okWide, ht] at h
  obtain ⟨cs, h1, h2, _⟩ := h
  exact ⟨cs, h1, h2⟩
theorem one_take {l : List Value} {i : Nat} {v : Value} (h : (l.drop i).take 1 = [v]) : l[i]? = some v := by
  have := congrArg (·[0]?) h
  simpa [List.getElem?_take] using this
theorem ints_of {K : IntKind} : ∀ (l : List Value), (∀ j, j < l.length → ∃ z, l[j]? = some (.int K z) ∧ (Lit.int K z).wf = true) → ∃ zs : List Int, l = zs.map (Value.int K) ∧ ∀ z ∈ zs, (Lit.int K z).wf = true
  | [], _ => ⟨[], rfl, fun _ h => by cases h⟩
  | x :: r, h => by
    obtain ⟨zs, rfl, hz⟩ := ints_of r (fun j hj => h (j + 1) (by simpa using hj))
    obtain ⟨z, h1, h2⟩ := h 0 (by simp)
    simp at h1
    subst h1
    exact ⟨z :: zs, rfl, fun y hy => by
      rcases List.mem_cons.1 hy with rfl | hy
      · exact h2
      · exact hz y hy⟩
theorem arr_ints {P : Program} {W : World} {H : Type} {enc : TypeId × Value → H} {base : Nat} {spare : Nat → Bool} {held : Bool} {fuel : Nat} {x : DataW H × List MemPlace} {t e : TypeId} {n : Nat} {K : IntKind} {cs : Array Value}
    (hu : P.underlying t = some (.array n e)) (he : P.underlying e = some (.int K)) (hc : P.cellsOf e = 1) (hn : P.cellsOf t = n) (hf : DataW.trod enc P W base spare held fuel t (Value.agg cs).cells.toList = some x) :
    ∃ zs : List Int, cs.toList = zs.map (Value.int K) ∧ zs.length = n ∧ ∀ z ∈ zs, (Lit.int K z).wf = true := by
  obtain ⟨xs, m1, rfl, _, hlen, hxs, hel⟩ := DataW.trod_array hu hf
  have hlen : cs.toList.length = n := hlen.trans hn
  obtain ⟨zs, h1, h2⟩ := ints_of (K := K) cs.toList (fun j hj => by
    have hxj : xs[j]? = some xs[j] := List.getElem?_eq_getElem (by omega)
    obtain ⟨z, e1, _, e3⟩ := DataW.trod_int he ((hel j (by omega)).trans hxj)
    rw [hc, Nat.mul_one] at e1
    exact ⟨z, one_take e1, e3⟩)
  exact ⟨zs, h1, by rw [h1, List.length_map] at hlen; exact hlen, h2⟩
theorem arr_u8 {P : Program} {W : World} {H : Type} {enc : TypeId × Value → H} {base : Nat} {spare : Nat → Bool} {held : Bool} {fuel : Nat} {x : DataW H × List MemPlace} {t e : TypeId} {n : Nat} {cs : Array Value}
    (hu : P.underlying t = some (.array n e)) (he : P.underlying e = some (.int .u8)) (hc : P.cellsOf e = 1) (hn : P.cellsOf t = n) (hf : DataW.trod enc P W base spare held fuel t (Value.agg cs).cells.toList = some x) :
    ∃ bs : List (BitVec 8), cs = (bs.map U8).toArray ∧ bs.length = n := by
  obtain ⟨zs, h1, h2, h3⟩ := arr_ints hu he hc hn hf
  refine ⟨zs.map (BitVec.ofInt 8), ?_, by rw [List.length_map]; exact h2⟩
  apply Array.ext'
  rw [h1, List.map_map]
  refine List.map_congr_left fun z hz => ?_
  have hw := h3 z hz
  simp only [Lit.wf, Bool.and_eq_true, decide_eq_true_eq] at hw
  rw [show IntKind.u8.min = 0 from rfl, show IntKind.u8.max = 255 from rfl] at hw
  simp only [Function.comp, U8, BitVec.toNat_ofInt]
  congr 1
  omega
theorem arr_u64 {P : Program} {W : World} {H : Type} {enc : TypeId × Value → H} {base : Nat} {spare : Nat → Bool} {held : Bool} {fuel : Nat} {x : DataW H × List MemPlace} {t e : TypeId} {n : Nat} {cs : Array Value}
    (hu : P.underlying t = some (.array n e)) (he : P.underlying e = some (.int .u64)) (hc : P.cellsOf e = 1) (hn : P.cellsOf t = n) (hf : DataW.trod enc P W base spare held fuel t (Value.agg cs).cells.toList = some x) :
    ∃ bs : List (BitVec 64), cs = (bs.map U64).toArray ∧ bs.length = n := by
  obtain ⟨zs, h1, h2, h3⟩ := arr_ints hu he hc hn hf
  refine ⟨zs.map (BitVec.ofInt 64), ?_, by rw [List.length_map]; exact h2⟩
  apply Array.ext'
  rw [h1, List.map_map]
  refine List.map_congr_left fun z hz => ?_
  have hw := h3 z hz
  simp only [Lit.wf, Bool.and_eq_true, decide_eq_true_eq] at hw
  rw [show IntKind.u64.min = 0 from rfl, show IntKind.u64.max = 18446744073709551615 from rfl] at hw
  simp only [Function.comp, U64, BitVec.toNat_ofInt]
  congr 1
  omega
end Go.Proofs.YtkfnadpdcgcffaaDoor
