/-
  What the rows share: the listed variables read as the program's text lays them; a slice that came in reads as bytes.
-/
import Derived.Test.YtdkkipjcmflclaaDoorG0
import Derived.Test.YtdkkipjcmflclaaDoorX2
import Derived.ProofKit
import Derived.OpenShut
import Derived.ShutString
import Derived.ChangeOld
import Derived.Below
import Derived.LaidMore
import Derived.Stop.Joined
namespace Go.Proofs.YtdkkipjcmflclaaDoor
open Go.ChangeShapes Go.WideShapes Go.ChangeAt Go.RowKit
set_option maxRecDepth 100000

theorem own : ownKnob Tryd.prog.godebug = none := by kernel_rfl
theorem laidOut : laidOutB Tryd.prog = true := by kernel_rfl
def laid1 : List (String × DataW Unit) := [("pharos/sha.roundWords", Rows.laid_pharos_sha_roundWords)]
theorem cU49 : Tryd.prog.cellsOf 49 = 1 := by kernel_rfl
theorem one_of_take {l : List Value} {i : Nat} {v : Value} (h : (l.drop i).take 1 = [v]) : l[i]? = some v := by
  have := congrArg (·[0]?) h
  simpa [List.getElem?_take] using this
theorem door_met (os : Os) (args : Array Value) : laidMetH Tryd.prog laid1 ((World.doorLaid Tryd.prog 400 os).forCall (fun _ _ => 0) ⟨#[], args, []⟩).memory :=
  laidMetH_of_parts3 (fuel := 8) (laidMet_of_run' 8 (by kernel_rfl) (by kernel_rfl)) (by kernel_rfl) (by kernel_rfl)
/-- A listed row of six numbers. -/
theorem row_laid51 {W : World} {n : String} {g g' t : Nat} {cs : Array Value} {f : Nat} {p : List MemPlace} {L : List (BitVec 32)} (hL : L.length = 64) (hgn : Tryd.prog.globalNamed n = some g') (htn : (Tryd.prog.globals[g']?).map (·.type) = some 51)
    (hg : Tryd.prog.globalNamed n = some g) (ht : (Tryd.prog.globals[g]?).map (·.type) = some t) (hv : W.var? Tryd.prog n = some cs)
    (hd : DataW.trod (fun _ => ()) Tryd.prog W 0 (fun _ => true) false f t cs.toList = some (.agg (L.map fun x => .lit (.int .u32 (x.toNat : Int))), p)) : W.rangeAt g' 0 (L.map U32) := by
  obtain rfl := Option.some.inj (hgn.symm.trans hg)
  obtain rfl := Option.some.inj (htn.symm.trans ht)
  obtain ⟨xs, m1, rfl, hx1, hlen, hn, hel⟩ := DataW.trod_array Tryd.underlying51 hd
  simp only [Prod.mk.injEq, DataW.agg.injEq] at hx1
  intro j v hj
  have hjn : j < 64 := by
    rcases Nat.lt_or_ge j 64 with h | h
    · exact h
    · rw [List.getElem?_eq_none (by rw [List.length_map, hL]; exact h)] at hj; cases hj
  have hxj : xs[j]? = some xs[j] := List.getElem?_eq_getElem (by omega)
  obtain ⟨n, e1, e2, _⟩ := DataW.trod_int Tryd.underlying49 ((hel j hjn).trans hxj)
  rw [cU49, Nat.mul_one] at e1
  have hd := congrArg (·[j]?) hx1.1
  simp only [List.getElem?_map, hxj, Option.map_some, e2] at hd
  rw [List.getElem?_map] at hj
  cases hk : L[j]? with
  | none => rw [hk] at hj; cases hj
  | some y =>
    rw [hk] at hj hd
    simp only [Option.map_some, Option.some.injEq, DataW.lit.injEq, Lit.int.injEq, true_and] at hj hd
    subst hj
    have hc := World.var?_cell hg hv j
    rw [Nat.zero_add, hc, ← Array.getElem?_toList, one_of_take e1, ← hd]
    rfl
theorem d0 {H : Type} : (Rows.laid_pharos_sha_roundWords : DataW H) = .agg (KW.map fun x => .lit (.int .u32 (x.toNat : Int))) := by rfl
theorem gt_of_laid {W : World} (h : laidMetH Tryd.prog laid1 W) : Gt W := by
  rw [MakeChecks.laidMetH_plain _ _ _ (by kernel_rfl)] at h
  obtain ⟨ps, ⟨g0, t0, cs0, f0, p0, q0, hg0, ht0, hv0, hd0, _, _⟩, _, _⟩ := h
  rw [d0] at hd0
  exact ⟨row_laid51 rfl (by kernel_rfl) (by kernel_rfl) hg0 ht0 hv0 hd0⟩
end Go.Proofs.YtdkkipjcmflclaaDoor
