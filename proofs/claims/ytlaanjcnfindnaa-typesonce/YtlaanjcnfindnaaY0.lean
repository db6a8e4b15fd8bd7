/-
  What the rows share: a slice that came in reads as bytes.
-/
import Derived.Test.YtlaanjcnfindnaaRows
import Derived.Test.YtlaanjcnfindnaaX2
import Derived.ProofKit
import Derived.OpenShut
import Derived.ShutString
import Derived.ChangeOld
import Derived.Below
namespace Go.Proofs.Ytlaanjcnfindnaa
open Go.ChangeShapes Go.WideShapes Go.ChangeAt Go.RowKit
set_option maxRecDepth 100000
theorem own : ownKnob Try.prog.godebug = none := by kernel_rfl
theorem laidOut : laidOutB Try.prog = true := by kernel_rfl
/-- What the walks are told of a slice of bytes that came in. -/
def IsRow (w : World) (a : Option Addr) (len cap : Nat) : Prop := len ≤ cap ∧ ∃ bs : List (BitVec 8), bs.length = len ∧ BytesAt w a bs
theorem isRow_of {W : World} {a : Option Addr} {len cap : Nat} {H : Type} {enc : TypeId × Value → H} {base : Nat} {spare : Nat → Bool} {held : Bool} {fuel : Nat} {x : DataW H × List MemPlace} (hf : DataW.trod enc Try.prog W base spare held fuel 46 (Value.slice a len cap).cells.toList = some x) : IsRow W a len cap := by
  rcases open_ints Try.underlying46 Try.underlying5 (by kernel_rfl) hf with ⟨hcs, _⟩ | ⟨x, l, c, zs, hcs, _, hl, hm, hz, _, hcell, hwz⟩
  · simp [Value.cells] at hcs
    obtain ⟨rfl, rfl, rfl⟩ := hcs
    exact ⟨Nat.le_refl _, [], rfl, bytes_nil _ _⟩
  · simp [Value.cells] at hcs
    obtain ⟨rfl, rfl, rfl⟩ := hcs
    have hzl : len ≤ zs.length := by rw [hz]; split <;> omega
    refine ⟨hl, (zs.take len).map (fun z => BitVec.ofInt 8 z), by rw [List.length_map, List.length_take]; omega, ?_⟩
    intro j v hv
    have hj : j < len := by
      rcases Nat.lt_or_ge j len with h | h
      · exact h
      · rw [List.getElem?_eq_none (by simp; omega)] at hv; cases hv
    have hzj : zs[j]? = some zs[j] := List.getElem?_eq_getElem (by omega)
    refine ⟨_, rfl, ?_⟩
    rw [hcell j (by omega)]
    have hwf := hwz _ (List.getElem_mem (l := zs) (n := j) (by omega))
    simp only [Lit.wf, Bool.and_eq_true, decide_eq_true_eq] at hwf
    have h1 : IntKind.u8.min = 0 := rfl
    have h2 : IntKind.u8.max = 255 := rfl
    rw [h1, h2] at hwf
    simp only [List.getElem?_map, List.getElem?_take, if_pos hj, hzj, Option.map_some, Option.some.injEq] at hv
    rw [← hv, List.getD_eq_getElem?_getD, hzj]
    simp only [U8, Option.getD_some, BitVec.toNat_ofInt]
    congr 2
    omega
end Go.Proofs.Ytlaanjcnfindnaa
