/-
  The law LimbsMonts returns true at every input, and the input reads behind the call as it read before. No condition.
-/
import Derived.Test.YteohckfbphdngaaQ0
import Derived.Test.YteohckfbphdngaaN10
namespace Go.Proofs.Yteohckfbphdngaa
open Go.ChangeShapes Go.WideShapes Go.ChangeAt Go.RowKit
set_option maxRecDepth 100000

theorem limbsMonts_lifted (os : Os) (started : os.Started) (H : Type) (enc : TypeId × Value → H) :
    ReturnsInHanded {} Try.checked os 6 .any (Rows.limbsMontsSpec.pre6 enc Try.prog Try.f6 Rows.limbsMontsRow.domain false) (Rows.limbsMontsSpec.post enc Try.prog Try.f6 false true false false) := by
  refine returnsInHanded_of_change (C := Try.checked) own started (by kernel_rfl) Try.func6
    (ChangeSpec.witness6 (enc := enc) (C := Try.checked) false ⟨#[], #[.agg (List.replicate 6 (.int .u64 0)).toArray, .agg (List.replicate 6 (.int .u64 0)).toArray, .agg (List.replicate 6 (.int .u64 0)).toArray], []⟩ 8 (by kernel_rfl) (by kernel_rfl) (by kernel_rfl) (by kernel_rfl)) ?_
  intro W base args ds gs before hval0 hW _ _
  have hval : ∀ (j : Nat) t v, Try.f6.params[j]? = some t → args[j]? = some v → Value.okWide Try.prog W .any base t v := hval0
  have hW' := hW
  obtain ⟨p, q, hA0, hV, rfl, _, _⟩ := hW
  have hA : DataW.TrodAll enc Try.prog W 0 (fun _ => true) true Try.f6.params.toList args.toList ds p := hA0
  rw [Try.params6] at hA hval
  obtain ⟨v0, vs0, d0, ds0, p0, q0, hargs, rfl, rfl, h0, r0⟩ := trodAll_cons hA
  obtain ⟨v1, vs1, d1, ds1, p1, q1, rfl, rfl, rfl, h1, r1⟩ := trodAll_cons r0
  obtain ⟨v2, vs2, d2, ds2, p2, q2, rfl, rfl, rfl, h2, r2⟩ := trodAll_cons r1
  obtain ⟨rfl, rfl, rfl⟩ := trodAll_nil r2
  obtain rfl : args = #[v0, v1, v2] := by cases args; simp_all
  obtain ⟨rfl, rfl⟩ := trodVars_none hV
  have k0 := h0
  have lt0 : ∀ x ∈ p0, x.block < W.heap.size := by obtain ⟨m, hm⟩ := k0; exact DataW.trod_lt m _ _ _ hm
  obtain ⟨cs0, rfl, _⟩ := okWide_arr Try.underlying23 (hval 0 23 v0 rfl rfl)
  obtain ⟨bs0, rfl, hl0⟩ : ∃ bs : List (BitVec 64), cs0 = (bs.map U64).toArray ∧ bs.length = 6 := by obtain ⟨m, hm⟩ := h0; exact arr_u64 Try.underlying23 Try.underlying22 (by kernel_rfl) (by kernel_rfl) hm
  have k1 := h1
  have lt1 : ∀ x ∈ p1, x.block < W.heap.size := by obtain ⟨m, hm⟩ := k1; exact DataW.trod_lt m _ _ _ hm
  obtain ⟨cs1, rfl, _⟩ := okWide_arr Try.underlying23 (hval 1 23 v1 rfl rfl)
  obtain ⟨bs1, rfl, hl1⟩ : ∃ bs : List (BitVec 64), cs1 = (bs.map U64).toArray ∧ bs.length = 6 := by obtain ⟨m, hm⟩ := h1; exact arr_u64 Try.underlying23 Try.underlying22 (by kernel_rfl) (by kernel_rfl) hm
  have k2 := h2
  have lt2 : ∀ x ∈ p2, x.block < W.heap.size := by obtain ⟨m, hm⟩ := k2; exact DataW.trod_lt m _ _ _ hm
  obtain ⟨cs2, rfl, _⟩ := okWide_arr Try.underlying23 (hval 2 23 v2 rfl rfl)
  obtain ⟨bs2, rfl, hl2⟩ : ∃ bs : List (BitVec 64), cs2 = (bs.map U64).toArray ∧ bs.length = 6 := by obtain ⟨m, hm⟩ := h2; exact arr_u64 Try.underlying23 Try.underlying22 (by kernel_rfl) (by kernel_rfl) hm
  clear hA0 hval0
  refine (monts_law bs0 bs1 bs2 hl0 hl1 hl2 W trivial).mono fun e W' ⟨he, bel⟩ => ?_
  subst he
  exact ⟨_, rfl, _, _, _, [], _, [], hW', trodAll_mk1 (shut_bool Try.underlying4 _), (trodAll_cons_mk (Below.trod laidOut (by kernel_rfl) (of_decide_eq_true (by kernel_rfl)) k0 bel lt0) (trodAll_cons_mk (Below.trod laidOut (by kernel_rfl) (of_decide_eq_true (by kernel_rfl)) k1 bel lt1) (trodAll_cons_mk (Below.trod laidOut (by kernel_rfl) (of_decide_eq_true (by kernel_rfl)) k2 bel lt2) trodAll_mk0))), rfl, bel.frame _, fun h => by cases h⟩

theorem limbsMonts_holds : Rows.LimbsMontsSaid :=
  OpenClaim.holds_of_wide 6 Try.f6 rfl rfl rfl rfl rfl rfl rfl ⟨rfl, rfl, rfl, rfl, rfl⟩ rfl rfl rfl rfl rfl (by kernel_rfl) Try.func6 (by kernel_rfl)
    (of_decide_eq_true (by kernel_rfl)) (by unfold Func.isWrapper; first | (rw [if_pos (by decide +kernel)]; kernel_rfl) | (rw [if_neg (by decide +kernel)]; exact ⟨rfl, rfl⟩))
    (fun os started H enc _ => limbsMonts_lifted os started H enc)
end Go.Proofs.Yteohckfbphdngaa
