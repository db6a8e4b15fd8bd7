/-
  The law DomainHangs returns true at every input, and the input reads behind the call as it read before; the listed variables (pharos/sha's roundWords) read as the program's own text lays them (the tied card).
-/
import Derived.Test.YtdkkipjcmflclaaDoorY1
import Derived.Test.YtdkkipjcmflclaaDoorUI
import Derived.Test.YtdkkipjcmflclaaDoorUG
import Derived.Test.YtdkkipjcmflclaaDoorCards
import Derived.Test.YtdkkipjcmflclaaDoorTie
import Derived.SevenTiedAt
namespace Go.Proofs.YtdkkipjcmflclaaDoor
open Go.ChangeShapes Go.WideShapes Go.ChangeAt Go.RowKit
set_option maxRecDepth 100000

theorem domainHangs_lifted (os : Os) (started : os.Started) (H : Type) (enc : TypeId × Value → H) :
    ReturnsInHanded {} Tryd.checked os 4 .any (fun w args => (Rows.domainHangsSpec.pre enc Tryd.prog Tryd.f4 [] false w args ∧ laidMetH Tryd.prog laid1 w) ∧ sizedMet enc Tryd.prog Tryd.f4 (OpenSpec.ofChange Rows.domainHangsSpec) false w args)
      (Rows.domainHangsSpec.post enc Tryd.prog Tryd.f4 false true false false) := by
  refine returnsInHanded_of_change_and (C := Tryd.checked) (X := fun w _ => laidMetH Tryd.prog laid1 w) (fun _ _ _ hh h => h.of_heap hh) own started (by kernel_rfl) Tryd.func4
    (ChangeSpec.witness_shaped (enc := enc) (C := Tryd.checked) (os := os) (X := fun w _ => laidMetH Tryd.prog laid1 w) false (World.doorLaid Tryd.prog 400 os) #[.agg wCf.toArray, .agg wHd.toArray, .int .i64 0, .int .i64 0] 8 rfl (World.shaped_of_RefB (by kernel_rfl) (by kernel_rfl)) (by kernel_rfl) (by kernel_rfl) (by kernel_rfl) (door_met os _)) ?_
  intro W base args ds gs before hval0 hW _ _ hL _
  have hval : ∀ (j : Nat) t v, Tryd.f4.params[j]? = some t → args[j]? = some v → Value.okWide Tryd.prog W .any base t v := hval0
  have hW' := hW
  obtain ⟨p, q, hA0, hV, rfl, _, _⟩ := hW
  have hA : DataW.TrodAll enc Tryd.prog W 0 (fun _ => true) true Tryd.f4.params.toList args.toList ds p := hA0
  rw [Tryd.params4] at hA hval
  obtain ⟨v0, vs0, d0, ds0, p0, q0, hargs, rfl, rfl, h0, r0⟩ := trodAll_cons hA
  obtain ⟨v1, vs1, d1, ds1, p1, q1, rfl, rfl, rfl, h1, r1⟩ := trodAll_cons r0
  obtain ⟨v2, vs2, d2, ds2, p2, q2, rfl, rfl, rfl, h2, r2⟩ := trodAll_cons r1
  obtain ⟨v3, vs3, d3, ds3, p3, q3, rfl, rfl, rfl, h3, r3⟩ := trodAll_cons r2
  obtain ⟨rfl, rfl, rfl⟩ := trodAll_nil r3
  obtain rfl : args = #[v0, v1, v2, v3] := by cases args; simp_all
  obtain ⟨rfl, rfl⟩ := trodVars_none hV
  have k0 := h0
  have lt0 : ∀ x ∈ p0, x.block < W.heap.size := by obtain ⟨m, hm⟩ := k0; exact DataW.trod_lt m _ _ _ hm
  obtain ⟨cs0, rfl, _⟩ := okWide_struct Tryd.underlying27 (hval 0 27 v0 rfl rfl)
  obtain ⟨u0, hu0, hc0⟩ : ∃ x : Cf, x.Ok ∧ cs0.toList = x.cs := by obtain ⟨m, hm⟩ := h0; exact isCf hm
  obtain rfl : cs0 = u0.cs.toArray := by rw [← hc0]
  have k1 := h1
  have lt1 : ∀ x ∈ p1, x.block < W.heap.size := by obtain ⟨m, hm⟩ := k1; exact DataW.trod_lt m _ _ _ hm
  obtain ⟨cs1, rfl, _⟩ := okWide_struct Tryd.underlying29 (hval 1 29 v1 rfl rfl)
  obtain ⟨u1, hu1, hc1⟩ : ∃ x : Hd, x.Ok ∧ cs1.toList = x.cs := by obtain ⟨m, hm⟩ := h1; exact isHd hm
  obtain rfl : cs1 = u1.cs.toArray := by rw [← hc1]
  have k2 := h2
  have lt2 : ∀ x ∈ p2, x.block < W.heap.size := by obtain ⟨m, hm⟩ := k2; exact DataW.trod_lt m _ _ _ hm
  obtain ⟨n2, rfl, _⟩ : ∃ n, v2 = I n ∧ inI n := by
    obtain ⟨n, rfl⟩ := okWide_int Tryd.underlying3 (hval 2 3 v2 rfl rfl)
    obtain ⟨m, hm⟩ := h2
    obtain ⟨z, e1, _, e3⟩ := DataW.trod_int Tryd.underlying3 hm
    simp [Value.cells] at e1
    subst e1
    exact ⟨n, rfl, inI_of_wf e3⟩
  have k3 := h3
  have lt3 : ∀ x ∈ p3, x.block < W.heap.size := by obtain ⟨m, hm⟩ := k3; exact DataW.trod_lt m _ _ _ hm
  obtain ⟨n3, rfl, _⟩ : ∃ n, v3 = I n ∧ inI n := by
    obtain ⟨n, rfl⟩ := okWide_int Tryd.underlying3 (hval 3 3 v3 rfl rfl)
    obtain ⟨m, hm⟩ := h3
    obtain ⟨z, e1, _, e3⟩ := DataW.trod_int Tryd.underlying3 hm
    simp [Value.cells] at e1
    subst e1
    exact ⟨n, rfl, inI_of_wf e3⟩
  clear hA0 hval0
  refine (hangs_law dp u0 hu0 u1 hu1 n2 n3 W (gt_of_laid hL) ).mono fun e W' ⟨he, bel⟩ => ?_
  subst he
  exact ⟨_, rfl, _, _, _, [], _, [], hW', trodAll_mk1 (shut_bool Tryd.underlying4 _), (trodAll_cons_mk (Below.trod laidOut (by kernel_rfl) (of_decide_eq_true (by kernel_rfl)) k0 bel lt0) (trodAll_cons_mk (Below.trod laidOut (by kernel_rfl) (of_decide_eq_true (by kernel_rfl)) k1 bel lt1) (trodAll_cons_mk (Below.trod laidOut (by kernel_rfl) (of_decide_eq_true (by kernel_rfl)) k2 bel lt2) (trodAll_cons_mk (Below.trod laidOut (by kernel_rfl) (of_decide_eq_true (by kernel_rfl)) k3 bel lt3) trodAll_mk0)))), rfl, bel.frame _, fun h => by cases h⟩

theorem domainHangs_over : Rows.DomainHangsSaid :=
  OpenClaim.holds_of_wide 4 Tryd.f4 rfl rfl rfl rfl rfl rfl rfl ⟨rfl, rfl, rfl, rfl, rfl⟩ rfl rfl rfl rfl rfl (by kernel_rfl) Tryd.func4 (by kernel_rfl)
    (of_decide_eq_true (by kernel_rfl)) (by unfold Func.isWrapper; first | (rw [if_pos (by decide +kernel)]; kernel_rfl) | (rw [if_neg (by decide +kernel)]; exact ⟨rfl, rfl⟩))
    (fun os started H enc _ => domainHangs_lifted os started H enc)

theorem domainHangs_card : Rows.DomainHangsCardSaid :=
  Claim7.holds_tied_plain_at .later [] [.data] true (true, "f2318630cb380a2a00364cc236cae78050020756a3f25a6ff0974ee051651e1b") false
    domainHangs_over (fun _ h => by cases h) (by kernel_rfl) (fun _ h => by cases h) domainHangs_row_tie rfl ⟨rfl, rfl⟩ (by kernel_rfl) rfl
    (fun f fn hf hfn => by
      obtain rfl : f = 4 := Option.some.inj ((show Tryd.prog.funcNamed "pharos/pharoslaw22.DomainHangs" = some 4 by kernel_rfl).symm.trans hf) |>.symm
      obtain rfl : fn = Tryd.f4 := (Option.some.inj (Tryd.func4.symm.trans hfn)).symm
      exact ⟨by kernel_rfl, fun j t ht => by
        rw [Tryd.params4] at ht
        have h3 : t = 27 ∨ t = 29 ∨ t = 3 := by
          match j, ht with
          | 0, ht => simp at ht; first | exact ht.symm | exact .inl ht.symm | exact .inr ht.symm | exact .inr (.inl ht.symm) | exact .inr (.inr ht.symm) | exact .inr (.inr (.inl ht.symm)) | exact .inr (.inr (.inr ht.symm)) | exact .inr (.inr (.inr (.inl ht.symm))) | exact .inr (.inr (.inr (.inr ht.symm)))
          | 1, ht => simp at ht; first | exact ht.symm | exact .inl ht.symm | exact .inr ht.symm | exact .inr (.inl ht.symm) | exact .inr (.inr ht.symm) | exact .inr (.inr (.inl ht.symm)) | exact .inr (.inr (.inr ht.symm)) | exact .inr (.inr (.inr (.inl ht.symm))) | exact .inr (.inr (.inr (.inr ht.symm)))
          | 2, ht => simp at ht; first | exact ht.symm | exact .inl ht.symm | exact .inr ht.symm | exact .inr (.inl ht.symm) | exact .inr (.inr ht.symm) | exact .inr (.inr (.inl ht.symm)) | exact .inr (.inr (.inr ht.symm)) | exact .inr (.inr (.inr (.inl ht.symm))) | exact .inr (.inr (.inr (.inr ht.symm)))
          | 3, ht => simp at ht; first | exact ht.symm | exact .inl ht.symm | exact .inr ht.symm | exact .inr (.inl ht.symm) | exact .inr (.inr ht.symm) | exact .inr (.inr (.inl ht.symm)) | exact .inr (.inr (.inr ht.symm)) | exact .inr (.inr (.inr (.inl ht.symm))) | exact .inr (.inr (.inr (.inr ht.symm)))
          | _ + 4, ht => simp at ht
        rcases h3 with rfl | rfl | rfl
        · exact (show Tryd.prog.wantsStandIn 27 = false by kernel_rfl)
        · exact (show Tryd.prog.wantsStandIn 29 = false by kernel_rfl)
        · exact (show Tryd.prog.wantsStandIn 3 = false by kernel_rfl)⟩)
    (by kernel_rfl)
end Go.Proofs.YtdkkipjcmflclaaDoor
