/-
  What the rows share: updates and bootstraps that came in.
-/
import Derived.Test.YtlaanjcnfindnaaY0
import Derived.Test.YtlaanjcnfindnaaVA
import Derived.Test.YtlaanjcnfindnaaX3
import Derived.ChangeArms
import Derived.OpenShut
namespace Go.Proofs.Ytlaanjcnfindnaa
open Go.ChangeShapes Go.WideShapes Go.ChangeAt Go.RowKit
set_option maxRecDepth 100000

theorem slice_lt {P : Program} {W : World} {base : Nat} {t e : TypeId} {a : Option Addr} {l c : Nat} (hu : P.underlying t = some (.slice e)) (h : Value.okWide P W .any base t (.slice a l c)) : ∀ ad, a = some ad → ad.block < W.heap.size := fun ad he => by
  subst he
  simp only [Value.okWide, hu, Cell.okWide, Cell.ok] at h
  obtain ⟨_, _, _, _, row, cells, hs, _⟩ := h
  unfold World.shape? at hs
  rcases Nat.lt_or_ge ad.block W.heap.size with h' | h'
  · exact h'
  · rw [Array.getElem?_eq_none h'] at hs; cases hs
section
variable {W : World} {H : Type} {enc : TypeId × Value → H} {base : Nat} {spare : Nat → Bool} {held : Bool} {fuel : Nat}
end
end Go.Proofs.Ytlaanjcnfindnaa
