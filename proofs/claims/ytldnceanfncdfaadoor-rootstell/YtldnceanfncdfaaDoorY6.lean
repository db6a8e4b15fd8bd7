/-
  The law RootsTell returns true at every input, and the input reads behind the call as it read before; the listed variables (pharos/sha's roundWords) read as the program's own text lays them (the tied card).
-/
import Derived.Test.YtldnceanfncdfaaDoorY1
import Derived.Test.YtldnceanfncdfaaDoorWJ
import Derived.Test.YtldnceanfncdfaaDoorUF
import Derived.Test.YtldnceanfncdfaaDoorCards
import Derived.Test.YtldnceanfncdfaaDoorTie
import Derived.SevenTiedAt
namespace Go.Proofs.YtldnceanfncdfaaDoor
open Go.ChangeShapes Go.WideShapes Go.ChangeAt Go.RowKit
set_option maxRecDepth 100000

theorem rootsTell_lifted (os : Os) (started : os.Started) (H : Type) (enc : TypeId × Value → H) :
    ReturnsInHanded {} Tryd.checked os 6 .any (fun w args => (Rows.rootsTellSpec.pre enc Tryd.prog Tryd.f6 [] false w args ∧ laidMetH Tryd.prog laid1 w) ∧ sizedMet enc Tryd.prog Tryd.f6 (OpenSpec.ofChange Rows.rootsTellSpec) false w args)
      (Rows.rootsTellSpec.post enc Tryd.prog Tryd.f6 false true false false) := by
  refine returnsInHanded_of_change_and (C := Tryd.checked) (X := fun w _ => laidMetH Tryd.prog laid1 w) (fun _ _ _ hh h => h.of_heap hh) own started (by kernel_rfl) Tryd.func6
    (ChangeSpec.witness_shaped (enc := enc) (C := Tryd.checked) (os := os) (X := fun w _ => laidMetH Tryd.prog laid1 w) false (World.doorLaid Tryd.prog 400 os) #[.agg wHd.toArray, .int .i64 0, .int .u8 0] 8 rfl (World.shaped_of_RefB (by kernel_rfl) (by kernel_rfl)) (by kernel_rfl) (by kernel_rfl) (by kernel_rfl) (door_met os _)) ?_
  intro W base args ds gs before hval0 hW _ _ hL _
  have hval : ∀ (j : Nat) t v, Tryd.f6.params[j]? = some t → args[j]? = some v → Value.okWide Tryd.prog W .any base t v := hval0
  have hW' := hW
  obtain ⟨p, q, hA0, hV, rfl, _, _⟩ := hW
  have hA : DataW.TrodAll enc Tryd.prog W 0 (fun _ => true) true Tryd.f6.params.toList args.toList ds p := hA0
  rw [Tryd.params6] at hA hval
  obtain ⟨v0, vs0, d0, ds0, p0, q0, hargs, rfl, rfl, h0, r0⟩ := trodAll_cons hA
  obtain ⟨v1, vs1, d1, ds1, p1, q1, rfl, rfl, rfl, h1, r1⟩ := trodAll_cons r0
  obtain ⟨v2, vs2, d2, ds2, p2, q2, rfl, rfl, rfl, h2, r2⟩ := trodAll_cons r1
  obtain ⟨rfl, rfl, rfl⟩ := trodAll_nil r2
  obtain rfl : args = #[v0, v1, v2] := by cases args; simp_all
  obtain ⟨rfl, rfl⟩ := trodVars_none hV
  have k0 := h0
  have lt0 : ∀ x ∈ p0, x.block < W.heap.size := by obtain ⟨m, hm⟩ := k0; exact DataW.trod_lt m _ _ _ hm
  obtain ⟨cs0, rfl, _⟩ := okWide_struct Tryd.underlying26 (hval 0 26 v0 rfl rfl)
  obtain ⟨u0, hu0, hc0⟩ : ∃ x : Hd, x.Ok ∧ cs0.toList = x.cs := by obtain ⟨m, hm⟩ := h0; exact isHd hm
  obtain rfl : cs0 = u0.cs.toArray := by rw [← hc0]
  have k1 := h1
  have lt1 : ∀ x ∈ p1, x.block < W.heap.size := by obtain ⟨m, hm⟩ := k1; exact DataW.trod_lt m _ _ _ hm
  obtain ⟨n1, rfl, _⟩ : ∃ n, v1 = I n ∧ inI n := by
    obtain ⟨n, rfl⟩ := okWide_int Tryd.underlying3 (hval 1 3 v1 rfl rfl)
    obtain ⟨m, hm⟩ := h1
    obtain ⟨z, e1, _, e3⟩ := DataW.trod_int Tryd.underlying3 hm
    simp [Value.cells] at e1
    subst e1
    exact ⟨n, rfl, inI_of_wf e3⟩
  have k2 := h2
  have lt2 : ∀ x ∈ p2, x.block < W.heap.size := by obtain ⟨m, hm⟩ := k2; exact DataW.trod_lt m _ _ _ hm
  obtain ⟨x2, rfl⟩ : ∃ x : BitVec 8, v2 = U8 x := by
    obtain ⟨n, rfl⟩ := okWide_int Tryd.underlying5 (hval 2 5 v2 rfl rfl)
    obtain ⟨m, hm⟩ := h2
    obtain ⟨z, e1, _, e3⟩ := DataW.trod_int Tryd.underlying5 hm
    simp [Value.cells] at e1
    subst e1
    exact u8_of_wf e3
  clear hA0 hval0
  refine (tell_law rp u0 hu0 n1 x2 W (gt_of_laid hL) ).mono fun e W' ⟨he, bel⟩ => ?_
  subst he
  exact ⟨_, rfl, _, _, _, [], _, [], hW', trodAll_mk1 (shut_bool Tryd.underlying4 _), (trodAll_cons_mk (Below.trod laidOut (by kernel_rfl) (of_decide_eq_true (by kernel_rfl)) k0 bel lt0) (trodAll_cons_mk (Below.trod laidOut (by kernel_rfl) (of_decide_eq_true (by kernel_rfl)) k1 bel lt1) (trodAll_cons_mk (Below.trod laidOut (by kernel_rfl) (of_decide_eq_true (by kernel_rfl)) k2 bel lt2) trodAll_mk0))), rfl, bel.frame _, fun h => by cases h⟩

theorem rootsTell_over : Rows.RootsTellSaid :=
  OpenClaim.holds_of_wide 6 Tryd.f6 rfl rfl rfl rfl rfl rfl rfl ⟨rfl, rfl, rfl, rfl, rfl⟩ rfl rfl rfl rfl rfl (by kernel_rfl) Tryd.func6 (by kernel_rfl)
    (of_decide_eq_true (by kernel_rfl)) (by unfold Func.isWrapper; first | (rw [if_pos (by decide +kernel)]; kernel_rfl) | (rw [if_neg (by decide +kernel)]; exact ⟨rfl, rfl⟩))
    (fun os started H enc _ => rootsTell_lifted os started H enc)

theorem rootsTell_card : Rows.RootsTellCardSaid :=
  Claim7.holds_tied_plain_at .later [] [.data] true (true, "43a4c92728ac246dd5f80ca8967345ee765694b9b527d0e653d53cae999734da") false
    rootsTell_over (fun _ h => by cases h) (by kernel_rfl) (fun _ h => by cases h) rootsTell_row_tie rfl ⟨rfl, rfl⟩ (by kernel_rfl) rfl
    (fun f fn hf hfn => by
      obtain rfl : f = 6 := Option.some.inj ((show Tryd.prog.funcNamed "pharos/pharoslaw20.RootsTell" = some 6 by kernel_rfl).symm.trans hf) |>.symm
      obtain rfl : fn = Tryd.f6 := (Option.some.inj (Tryd.func6.symm.trans hfn)).symm
      exact ⟨by kernel_rfl, fun j t ht => by
        rw [Tryd.params6] at ht
        have h3 : t = 26 ∨ t = 3 ∨ t = 5 := by
          match j, ht with
          | 0, ht => simp at ht; first | exact ht.symm | exact .inl ht.symm | exact .inr ht.symm | exact .inr (.inl ht.symm) | exact .inr (.inr ht.symm) | exact .inr (.inr (.inl ht.symm)) | exact .inr (.inr (.inr ht.symm))
          | 1, ht => simp at ht; first | exact ht.symm | exact .inl ht.symm | exact .inr ht.symm | exact .inr (.inl ht.symm) | exact .inr (.inr ht.symm) | exact .inr (.inr (.inl ht.symm)) | exact .inr (.inr (.inr ht.symm))
          | 2, ht => simp at ht; first | exact ht.symm | exact .inl ht.symm | exact .inr ht.symm | exact .inr (.inl ht.symm) | exact .inr (.inr ht.symm) | exact .inr (.inr (.inl ht.symm)) | exact .inr (.inr (.inr ht.symm))
          | _ + 3, ht => simp at ht
        rcases h3 with rfl | rfl | rfl
        · exact (show Tryd.prog.wantsStandIn 26 = false by kernel_rfl)
        · exact (show Tryd.prog.wantsStandIn 3 = false by kernel_rfl)
        · exact (show Tryd.prog.wantsStandIn 5 = false by kernel_rfl)⟩)
    (by kernel_rfl)
end Go.Proofs.YtldnceanfncdfaaDoor
