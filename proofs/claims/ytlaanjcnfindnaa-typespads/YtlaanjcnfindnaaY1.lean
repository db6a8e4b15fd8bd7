/-
  What the rows share: updates and bootstraps that came in.
-/
import Derived.Test.YtlaanjcnfindnaaY0
import Derived.Test.YtlaanjcnfindnaaVA
import Derived.Test.YtlaanjcnfindnaaX3
import Derived.ChangeArms
import Derived.OpenShut
namespace Go.Proofs.Ytlaanjcnfindnaa
open Go.ChangeShapes Go.WideShapes Go.ChangeAt Go.RowKit
set_option maxRecDepth 100000

theorem co4 : Try.prog.cellsOf 4 = 1 := by kernel_rfl
def bitOf {H : Type} (x : DataW H) : Bool := match x with
  | .lit (.bool b) => b
  | _ => false
section
variable {W : World} {H : Type} {enc : TypeId × Value → H} {base : Nat} {spare : Nat → Bool} {held : Bool} {fuel : Nat}
theorem isBits {c : Value} {x : DataW H × List MemPlace} (hf : DataW.trod enc Try.prog W base spare held fuel 34 [c] = some x) : ∃ a cap, ∃ ls : List Bool, c = .slice a ls.length cap ∧ ls.length ≤ cap ∧ CellsAt W a (ls.map .bool) := by
  rcases DataW.trod_slice Try.underlying34 hf with ⟨e1, _⟩ | ⟨b, l, c', elems, rest, n, _, e1, ex, _, hcap, _, hlen, hel, _⟩
  · cases e1
    exact ⟨none, 0, [], rfl, Nat.le_refl _, fun j v hv => by simp at hv⟩
  · cases e1
    subst hlen
    refine ⟨some b, c', elems.map (fun x => bitOf x.1), by rw [List.length_map], by rw [List.length_map]; exact hcap, fun j v hv => ?_⟩
    rw [List.map_map, List.getElem?_map, Option.map_eq_some_iff] at hv
    obtain ⟨y, hy, rfl⟩ := hv
    have hj : j < elems.length := (List.getElem?_eq_some_iff.1 hy).1
    have hE := hel j hj
    rw [co4, Nat.mul_one, hy, Option.bind_eq_some_iff] at hE
    obtain ⟨c1, hc1, hy2⟩ := hE
    obtain ⟨b1, e2, e3⟩ := DataW.trod_bool Try.underlying4 hy2
    subst e2 e3
    refine ⟨b, rfl, ?_⟩
    have := (cell_of_cells?_at hc1).2 0 _ rfl
    rw [show (b.add j).add 0 = b.add j from by simp [Addr.add]] at this
    exact this
end
end Go.Proofs.Ytlaanjcnfindnaa
