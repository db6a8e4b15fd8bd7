/-
  The reference's points: sums, doubles, opposites.
  The reference's points: the generator, which numbers are points, times, the order.
-/
import Derived.Test.YtamddkjccmhgaaaGreatDoorXA
import Derived.Test.YtamddkjccmhgaaaGreatDoorX5
import Derived.Test.YtamddkjccmhgaaaGreatDoorX3
namespace Go.Proofs.YtamddkjccmhgaaaGreatDoor
open Go.RowKit
set_option maxRecDepth 100000
set_option maxHeartbeats 1000000
attribute [local simp] fe_len nm_len AS_len SS_len MONT_len RM_len FRs_len BYs_len by48_len PLl TWOl ONEl N1l IVPl HFPl RTPl FL_len SP_len fe2_len SP2_len FM_len
theorem rV1 {Q P : Prop} (k : Q) (h : Q → P := by intro k; (refine LY.run ?_); (repeat (first | refine y_move rfl rfl rfl ?_ | refine y_assign rfl rfl rfl ?_ | ((refine fl40_0L rfl rfl ?_ rfl rfl rfl rfl ?_); (· simp)) | ((refine fl40_1M rfl rfl ?_ ?_ rfl rfl rfl rfl ?_); (· simp); (· simp)) | ((refine fl40_2S rfl rfl ?_ ?_ ?_ rfl rfl rfl rfl ?_); (· simp); (· simp); (· simp)) | ((refine ra38 rfl rfl ?_ rfl rfl ?_); (· simp)) | ((refine ra40 rfl rfl ?_ rfl rfl ?_); (· simp)) | ((refine sa38 hGF rfl rfl rfl ?_ ?_ (one_u64 _) rfl ?_); (· simp); (· simp)) | ((refine sa40 hGF rfl rfl rfl ?_ ?_ (one_u64 _) rfl ?_); (· simp); (· simp)) | refine y_call (f := 93) rfl rfl ent93 (r5mul _ _) rfl rfl ?_ | refine y_call (f := 94) rfl rfl ent94 (r5add _ _) rfl rfl ?_ | refine y_call (f := 140) rfl rfl ent140 (rsmallE _) rfl rfl ?_ | refine y_pick rfl rfl rfl rfl rfl ?_)); (first | refine y_nil ?_ | refine LY.mk ?_); exact k) : P := h k
theorem pV1 {Q P : Prop} (k : Q) (h : Q → P := by intro k; (refine xp ?_); (refine rV1 ?_); exact k) : P := h k

theorem ent95 : Enters Tryz.prog 95 := fun _ _ => by kernel_rfl
theorem ent51 : Enters Tryz.prog 51 := fun _ _ => by kernel_rfl
theorem ent47 : Enters Tryz.prog 47 := fun _ _ => by kernel_rfl
theorem ent106 : Enters Tryz.prog 106 := fun _ _ => by kernel_rfl
theorem ent49 : Enters Tryz.prog 49 := fun _ _ => by kernel_rfl
theorem ent50 : Enters Tryz.prog 50 := fun _ _ => by kernel_rfl
theorem ent14 : Enters Tryz.prog 14 := fun _ _ => by kernel_rfl
theorem ent100 : Enters Tryz.prog 100 := fun _ _ => by kernel_rfl
theorem ent101 : Enters Tryz.prog 101 := fun _ _ => by kernel_rfl
theorem ent45 : Enters Tryz.prog 45 := fun _ _ => by kernel_rfl
theorem ent42 : Enters Tryz.prog 42 := fun _ _ => by kernel_rfl
theorem ent43 : Enters Tryz.prog 43 := fun _ _ => by kernel_rfl
theorem ent99 : Enters Tryz.prog 99 := fun _ _ => by kernel_rfl
theorem ent136 : Enters Tryz.prog 136 := fun _ _ => by kernel_rfl
abbrev EV6 (x : W6) : Value := .agg (((fe (x.1).1 ++ fe (x.1).2) ++ ((fe (x.2.1).1 ++ fe (x.2.1).2) ++ (fe (x.2.2).1 ++ fe (x.2.2).2))).map U64).toArray
theorem zv40 (w : World) : (zeroValue 40).run Tryz.prog w = .ok (.agg (((fe 0 ++ fe 0) ++ ((fe 0 ++ fe 0) ++ (fe 0 ++ fe 0))).map U64).toArray) w := by rw [fe_0]; exact (Tryz.zeroValue40 w).trans (by rfl)
theorem three40 : Three Tryz.prog 40 ⟨ "X", 38, 0, false, "", "", 0⟩ ⟨ "Y", 38, 12, false, "", "", 96⟩ ⟨ "Z", 38, 24, false, "", "", 192⟩ 12 (fe 0 ++ fe 0) (fe 0 ++ fe 0) (fe 0 ++ fe 0) := ⟨Tryz.underlying40, rfl, rfl, rfl, Tryz.sizeOf38, Tryz.sizeOf38, Tryz.sizeOf38, zv40, by simp, by simp, by simp⟩
theorem r5subE (x y : W2) : Pure Tryz.prog Gt 105 [EV2 x, EV2 y] (EV2 (E1w.sub x y)) := by
  have h := r5sub x y
  rw [sb2_eq] at h
  exact h
def sm2 (a b : BitVec 64) : W2 := (zp a.toNat, zp b.toNat)
theorem small5r (a b : BitVec 64) : Pure Tryz.prog Gt 136 [U64 a, U64 b] (EV2 (sm2 a b)) := by
  refine pure_X Tryz.func136 fun w hw hGF => ?_
  refine xp ?_
  refine la zv38 fun b4 => ?_
  refine lx_nil ?_
  refine pV1 ?_
  refine lx_two two38 rfl rfl (by simp) (by simp) rfl rfl ?_
  refine rV1 ?_
  refine rt ?_
  exact kret_own 4 rfl rfl rfl Tryz.isAgg38 Tryz.sizeOf38 (by simp) (fun w hw => ⟨rfl, hp_below hw⟩)
theorem r9none (x : W6) : Pure Tryz.prog Gt 51 [EV6 x] (.bool (decide (x.2.2 = ze2))) := by
  refine pure_X Tryz.func51 fun w hw hGF => ?_
  refine xp ?_
  refine lb fun b1 => ?_
  refine rV1 ?_
  refine pV1 ?_
  refine lc ent44 (r5isZero _) ?_
  refine rV1 ?_
  refine rt ?_
  exact kret_tmp rfl rfl (fun w hw => ⟨rfl, hp_below hw⟩)
theorem r9at (a b : W2) : Pure Tryz.prog Gt 47 [EV2 a, EV2 b] (EV6 (a, b, on2)) := by
  refine pure_X Tryz.func47 fun w hw hGF => ?_
  refine xp ?_
  refine lb fun b2 => ?_
  refine lb fun b3 => ?_
  refine la zv40 fun b4 => ?_
  refine lx_nil ?_
  refine xs_drawn (E := EE []) mixed (by kernel_rfl) (by kernel_rfl) (by kernel_rfl) ?_
  refine rV1 ?_
  refine lc ent103 (r5one) ?_
  refine lx_three012 three40 rfl rfl rfl (by simp) (by simp) (by simp) rfl rfl ?_
  refine rV1 ?_
  refine rt ?_
  exact kret_own 4 rfl rfl rfl Tryz.isAgg40 Tryz.sizeOf40 (by simp) (fun w hw => ⟨rfl, hp_below hw⟩)
theorem r9neg (x : W6) : Pure Tryz.prog Gt 50 [EV6 x] (EV6 (x.1, ng2 x.2.1, x.2.2)) := by
  refine pure_X Tryz.func50 fun w hw hGF => ?_
  refine xp ?_
  refine lb fun b1 => ?_
  refine la zv40 fun b2 => ?_
  refine lx_nil ?_
  refine xs_drawn (E := EE []) mixed (by kernel_rfl) (by kernel_rfl) (by kernel_rfl) ?_
  refine rV1 ?_
  refine lc ent98 (r5neg _) ?_
  refine rV1 ?_
  refine lx_three012 three40 rfl rfl rfl (by simp) (by simp) (by simp) rfl rfl ?_
  refine rV1 ?_
  refine rt ?_
  exact kret_own 2 rfl rfl rfl Tryz.isAgg40 Tryz.sizeOf40 (by simp) (fun w hw => ⟨rfl, hp_below hw⟩)
theorem r9double (x : W6) : Pure Tryz.prog Gt 106 [EV6 x] (EV6 (E1w.jdF x)) := by
  intro w hw
  have hGF : BOk Gt (pl w) := gt_low.plain hw
  by_cases h : x.2.2 = ze2
  · skip
    rw [show E1w.jdF x = (ze2, ze2, ze2) from if_pos (.inl h)]
    refine calls_of_X (G := Gt) Tryz.func106 rfl rfl (Hp (pl w) []) (hp_refl (pl w) trivial rides_true) (good_hp hGF) ?_
    refine xp ?_
    refine lb fun b1 => ?_
    refine la zv40 fun b2 => ?_
    refine lx_nil ?_
    refine x_seq ?_
    refine pV1 ?_
    refine lx_callB true rfl rfl ent51 (r9none _) (decide_eq_true h) rfl rfl ?_
    refine rV1 ?_
    refine lx_skip rfl rfl rfl ?_
    refine lx_skip rfl rfl rfl ?_
    refine lx_skip rfl rfl rfl ?_
    refine rV1 ?_
    refine x_true rfl ?_
    refine xp ?_
    refine lx_threeN three40 rfl rfl ?_
    refine rV1 ?_
    refine rt ?_
    exact kret_own 2 rfl rfl rfl Tryz.isAgg40 Tryz.sizeOf40 (by simp) (fun w hw => ⟨rfl, hp_below hw⟩)
  · skip
    by_cases h2 : x.2.1 = ze2
    · skip
      rw [show E1w.jdF x = (ze2, ze2, ze2) from if_pos (.inr h2)]
      refine calls_of_X (G := Gt) Tryz.func106 rfl rfl (Hp (pl w) []) (hp_refl (pl w) trivial rides_true) (good_hp hGF) ?_
      refine xp ?_
      refine lb fun b1 => ?_
      refine la zv40 fun b2 => ?_
      refine lx_nil ?_
      refine x_seq ?_
      refine pV1 ?_
      refine lx_callB false rfl rfl ent51 (r9none _) (decide_eq_false h) rfl rfl ?_
      refine rV1 ?_
      refine lx_callB true rfl rfl ent44 (r5isZero _) (decide_eq_true h2) rfl rfl ?_
      refine rV1 ?_
      refine x_true rfl ?_
      refine xp ?_
      refine lx_threeN three40 rfl rfl ?_
      refine rV1 ?_
      refine rt ?_
      exact kret_own 2 rfl rfl rfl Tryz.isAgg40 Tryz.sizeOf40 (by simp) (fun w hw => ⟨rfl, hp_below hw⟩)
    · skip
      rw [show E1w.jdF x = E1w.jd x.1 x.2.1 x.2.2 from if_neg (fun e => e.elim h h2)]
      refine calls_of_X (G := Gt) Tryz.func106 rfl rfl (Hp (pl w) []) (hp_refl (pl w) trivial rides_true) (good_hp hGF) ?_
      refine xp ?_
      refine lb fun b1 => ?_
      refine la zv40 fun b2 => ?_
      refine lx_nil ?_
      refine x_seq ?_
      refine pV1 ?_
      refine lx_callB false rfl rfl ent51 (r9none _) (decide_eq_false h) rfl rfl ?_
      refine rV1 ?_
      refine lx_callB false rfl rfl ent44 (r5isZero _) (decide_eq_false h2) rfl rfl ?_
      refine rV1 ?_
      refine x_false rfl ?_
      refine x_skip ?_
      refine pV1 ?_
      refine la zv38 fun b3 => ?_
      refine rV1 ?_
      refine pV1 ?_
      refine la zv38 fun b4 => ?_
      refine rV1 ?_
      refine pV1 ?_
      refine la zv38 fun b5 => ?_
      refine rV1 ?_
      refine pV1 ?_
      refine pV1 ?_
      refine xs_drawA (E := EE [2999999]) [0, 1, 2, 3, 4] [⟨5, 6, 38, (fe 0 ++ fe 0).map U64⟩] [6] mixed rfl (by kernel_rfl) (by kernel_rfl) (by kernel_rfl) (by kernel_rfl) (by kernel_rfl) (by kernel_rfl) (by decide) (by intro x hx; simp only [List.mem_cons, List.not_mem_nil, or_false] at hx; subst hx; exact isAlloc_mk rfl zv38 rfl) ?_
      refine rV1 ?_
      refine ⟨_, _, rfl, hGF, by intro x hx; simp only [List.mem_cons, List.not_mem_nil, or_false] at hx; subst hx; rfl, by intro x hx; simp only [List.mem_cons, List.not_mem_nil, or_false] at hx; subst hx; rfl, fun adr => ?_⟩
      refine rV1 ?_
      refine xs_drawA (E := EE [2999999]) [0, 1, 2, 3, 4, 5, 6] [⟨7, 7, 38, (fe 0 ++ fe 0).map U64⟩] [8] mixed rfl (by kernel_rfl) (by kernel_rfl) (by kernel_rfl) (by kernel_rfl) (by kernel_rfl) (by kernel_rfl) (by decide) (by intro x hx; simp only [List.mem_cons, List.not_mem_nil, or_false] at hx; subst hx; exact isAlloc_mk rfl zv38 rfl) ?_
      refine rV1 ?_
      refine lc ent105 (r5subE _ _) ?_
      refine rV1 ?_
      refine lc ent105 (r5subE _ _) ?_
      refine lx_nil ?_
      refine ⟨_, _, rfl, hGF, by intro x hx; simp only [List.mem_cons, List.not_mem_nil, or_false] at hx; subst hx; rfl, by intro x hx; simp only [List.mem_cons, List.not_mem_nil, or_false] at hx; subst hx; rfl, fun adr => ?_⟩
      refine rV1 ?_
      refine pV1 ?_
      refine la zv38 fun b8 => ?_
      refine rV1 ?_
      refine pV1 ?_
      refine pV1 ?_
      refine pV1 ?_
      refine pV1 ?_
      refine la zv38 fun b9 => ?_
      refine rV1 ?_
      refine xs_drawn (E := EE []) mixed (by kernel_rfl) (by kernel_rfl) (by kernel_rfl) ?_
      refine rV1 ?_
      refine lc ent105 (r5subE _ _) ?_
      refine rV1 ?_
      refine lc ent105 (r5subE _ _) ?_
      refine rV1 ?_
      refine lx_three012 three40 rfl rfl rfl (by simp) (by simp) (by simp) rfl rfl ?_
      refine rV1 ?_
      refine rt ?_
      exact kret_own 2 rfl rfl rfl Tryz.isAgg40 Tryz.sizeOf40 (by simp) (fun w hw => ⟨rfl, hp_below hw⟩)
theorem r9add (x y : W6) : Pure Tryz.prog Gt 49 [EV6 x, EV6 y] (EV6 (E1w.jaF x y)) := by
  intro w hw
  have hGF : BOk Gt (pl w) := gt_low.plain hw
  by_cases h1 : x.2.2 = ze2
  · skip
    rw [show E1w.jaF x y = y from if_pos h1]
    refine calls_of_X (G := Gt) Tryz.func49 rfl rfl (Hp (pl w) []) (hp_refl (pl w) trivial rides_true) (good_hp hGF) ?_
    refine xp ?_
    refine lb fun b2 => ?_
    refine lb fun b3 => ?_
    refine la zv40 fun b4 => ?_
    refine lx_nil ?_
    refine x_seq ?_
    refine pV1 ?_
    refine lx_callB true rfl rfl ent51 (r9none _) (decide_eq_true h1) rfl rfl ?_
    refine lx_nil ?_
    refine x_true rfl ?_
    refine pV1 ?_
    refine rt ?_
    exact kret_own 4 rfl rfl rfl Tryz.isAgg40 Tryz.sizeOf40 (by simp) (fun w hw => ⟨rfl, hp_below hw⟩)
  · skip
    by_cases h2 : y.2.2 = ze2
    · skip
      rw [show E1w.jaF x y = x from (if_neg h1).trans (if_pos h2)]
      refine calls_of_X (G := Gt) Tryz.func49 rfl rfl (Hp (pl w) []) (hp_refl (pl w) trivial rides_true) (good_hp hGF) ?_
      refine xp ?_
      refine lb fun b2 => ?_
      refine lb fun b3 => ?_
      refine la zv40 fun b4 => ?_
      refine lx_nil ?_
      refine x_seq ?_
      refine pV1 ?_
      refine lx_callB false rfl rfl ent51 (r9none _) (decide_eq_false h1) rfl rfl ?_
      refine lx_nil ?_
      refine x_false rfl ?_
      refine x_skip ?_
      refine x_seq ?_
      refine pV1 ?_
      refine lx_callB true rfl rfl ent51 (r9none _) (decide_eq_true h2) rfl rfl ?_
      refine lx_nil ?_
      refine x_true rfl ?_
      refine pV1 ?_
      refine rt ?_
      exact kret_own 4 rfl rfl rfl Tryz.isAgg40 Tryz.sizeOf40 (by simp) (fun w hw => ⟨rfl, hp_below hw⟩)
    · skip
      by_cases h3 : E1w.jh x.1 x.2.2 y.1 y.2.2 = ze2
      · skip
        by_cases h4 : E1w.jq x.2.1 x.2.2 y.2.1 y.2.2 = ze2
        · skip
          rw [show E1w.jaF x y = E1w.jdF x from (if_neg h1).trans ((if_neg h2).trans ((if_pos h3).trans (if_pos h4)))]
          refine calls_of_X (G := Gt) Tryz.func49 rfl rfl (Hp (pl w) []) (hp_refl (pl w) trivial rides_true) (good_hp hGF) ?_
          refine xp ?_
          refine lb fun b2 => ?_
          refine lb fun b3 => ?_
          refine la zv40 fun b4 => ?_
          refine lx_nil ?_
          refine x_seq ?_
          refine pV1 ?_
          refine lx_callB false rfl rfl ent51 (r9none _) (decide_eq_false h1) rfl rfl ?_
          refine lx_nil ?_
          refine x_false rfl ?_
          refine x_skip ?_
          refine x_seq ?_
          refine pV1 ?_
          refine lx_callB false rfl rfl ent51 (r9none _) (decide_eq_false h2) rfl rfl ?_
          refine lx_nil ?_
          refine x_false rfl ?_
          refine x_skip ?_
          refine xs_drawA (E := EE [2999999]) [0, 1, 2, 3, 4, 5, 6, 7, 8, 9] [⟨10, 5, 38, (fe 0 ++ fe 0).map U64⟩, ⟨11, 6, 38, (fe 0 ++ fe 0).map U64⟩] [12, 13] mixed rfl (by kernel_rfl) (by kernel_rfl) (by kernel_rfl) (by kernel_rfl) (by kernel_rfl) (by kernel_rfl) (by decide) (by intro x hx; simp only [List.mem_cons, List.not_mem_nil, or_false] at hx; rcases hx with rfl | rfl <;> exact isAlloc_mk rfl zv38 rfl) ?_
          refine rV1 ?_
          refine ⟨_, _, rfl, hGF, by intro x hx; simp only [List.mem_cons, List.not_mem_nil, or_false] at hx; rcases hx with rfl | rfl <;> rfl, by intro x hx; simp only [List.mem_cons, List.not_mem_nil, or_false] at hx; rcases hx with rfl | rfl <;> rfl, fun adr => ?_⟩
          refine rV1 ?_
          refine xs_drawA (E := EE [2999999]) [0, 1, 2, 3, 4, 5, 6, 7] [⟨8, 7, 38, (fe 0 ++ fe 0).map U64⟩, ⟨9, 8, 38, (fe 0 ++ fe 0).map U64⟩] [10, 11] mixed rfl (by kernel_rfl) (by kernel_rfl) (by kernel_rfl) (by kernel_rfl) (by kernel_rfl) (by kernel_rfl) (by decide) (by intro x hx; simp only [List.mem_cons, List.not_mem_nil, or_false] at hx; rcases hx with rfl | rfl <;> exact isAlloc_mk rfl zv38 rfl) ?_
          refine rV1 ?_
          refine ⟨_, _, rfl, hGF, by intro x hx; simp only [List.mem_cons, List.not_mem_nil, or_false] at hx; rcases hx with rfl | rfl <;> rfl, by intro x hx; simp only [List.mem_cons, List.not_mem_nil, or_false] at hx; rcases hx with rfl | rfl <;> rfl, fun adr => ?_⟩
          refine rV1 ?_
          refine xs_drawA (E := EE [2999999]) [0, 1, 2, 3, 4, 5, 6, 7, 8, 9, 10, 11, 12, 13] [⟨14, 9, 38, (fe 0 ++ fe 0).map U64⟩, ⟨15, 10, 38, (fe 0 ++ fe 0).map U64⟩] [16, 17] mixed rfl (by kernel_rfl) (by kernel_rfl) (by kernel_rfl) (by kernel_rfl) (by kernel_rfl) (by kernel_rfl) (by decide) (by intro x hx; simp only [List.mem_cons, List.not_mem_nil, or_false] at hx; rcases hx with rfl | rfl <;> exact isAlloc_mk rfl zv38 rfl) ?_
          refine rV1 ?_
          refine ⟨_, _, rfl, hGF, by intro x hx; simp only [List.mem_cons, List.not_mem_nil, or_false] at hx; rcases hx with rfl | rfl <;> rfl, by intro x hx; simp only [List.mem_cons, List.not_mem_nil, or_false] at hx; rcases hx with rfl | rfl <;> rfl, fun adr => ?_⟩
          refine rV1 ?_
          refine xs_drawA (E := EE [2999999]) [0, 1, 2, 3, 4, 5] [⟨6, 11, 38, (fe 0 ++ fe 0).map U64⟩, ⟨7, 12, 38, (fe 0 ++ fe 0).map U64⟩] [8, 9] mixed rfl (by kernel_rfl) (by kernel_rfl) (by kernel_rfl) (by kernel_rfl) (by kernel_rfl) (by kernel_rfl) (by decide) (by intro x hx; simp only [List.mem_cons, List.not_mem_nil, or_false] at hx; rcases hx with rfl | rfl <;> exact isAlloc_mk rfl zv38 rfl) ?_
          refine rV1 ?_
          refine lc ent105 (r5subE _ _) ?_
          refine rV1 ?_
          refine lc ent105 (r5subE _ _) ?_
          refine lx_nil ?_
          refine ⟨_, _, rfl, hGF, by intro x hx; simp only [List.mem_cons, List.not_mem_nil, or_false] at hx; rcases hx with rfl | rfl <;> rfl, by intro x hx; simp only [List.mem_cons, List.not_mem_nil, or_false] at hx; rcases hx with rfl | rfl <;> rfl, fun adr => ?_⟩
          refine rV1 ?_
          refine x_seq ?_
          refine pV1 ?_
          refine lx_callB true rfl rfl ent44 (r5isZero _) (decide_eq_true h3) rfl rfl ?_
          refine lx_nil ?_
          refine x_true rfl ?_
          refine x_seq ?_
          refine pV1 ?_
          refine lx_callB true rfl rfl ent44 (r5isZero _) (decide_eq_true h4) rfl rfl ?_
          refine lx_nil ?_
          refine x_true rfl ?_
          refine pV1 ?_
          refine lc ent106 (r9double _) ?_
          refine rV1 ?_
          refine rt ?_
          exact kret_own 4 rfl rfl rfl Tryz.isAgg40 Tryz.sizeOf40 (by simp) (fun w hw => ⟨rfl, hp_below hw⟩)
        · skip
          rw [show E1w.jaF x y = (ze2, ze2, ze2) from (if_neg h1).trans ((if_neg h2).trans ((if_pos h3).trans (if_neg h4)))]
          refine calls_of_X (G := Gt) Tryz.func49 rfl rfl (Hp (pl w) []) (hp_refl (pl w) trivial rides_true) (good_hp hGF) ?_
          refine xp ?_
          refine lb fun b2 => ?_
          refine lb fun b3 => ?_
          refine la zv40 fun b4 => ?_
          refine lx_nil ?_
          refine x_seq ?_
          refine pV1 ?_
          refine lx_callB false rfl rfl ent51 (r9none _) (decide_eq_false h1) rfl rfl ?_
          refine lx_nil ?_
          refine x_false rfl ?_
          refine x_skip ?_
          refine x_seq ?_
          refine pV1 ?_
          refine lx_callB false rfl rfl ent51 (r9none _) (decide_eq_false h2) rfl rfl ?_
          refine lx_nil ?_
          refine x_false rfl ?_
          refine x_skip ?_
          refine xs_drawA (E := EE [2999999]) [0, 1, 2, 3, 4, 5, 6, 7, 8, 9] [⟨10, 5, 38, (fe 0 ++ fe 0).map U64⟩, ⟨11, 6, 38, (fe 0 ++ fe 0).map U64⟩] [12, 13] mixed rfl (by kernel_rfl) (by kernel_rfl) (by kernel_rfl) (by kernel_rfl) (by kernel_rfl) (by kernel_rfl) (by decide) (by intro x hx; simp only [List.mem_cons, List.not_mem_nil, or_false] at hx; rcases hx with rfl | rfl <;> exact isAlloc_mk rfl zv38 rfl) ?_
          refine rV1 ?_
          refine ⟨_, _, rfl, hGF, by intro x hx; simp only [List.mem_cons, List.not_mem_nil, or_false] at hx; rcases hx with rfl | rfl <;> rfl, by intro x hx; simp only [List.mem_cons, List.not_mem_nil, or_false] at hx; rcases hx with rfl | rfl <;> rfl, fun adr => ?_⟩
          refine rV1 ?_
          refine xs_drawA (E := EE [2999999]) [0, 1, 2, 3, 4, 5, 6, 7] [⟨8, 7, 38, (fe 0 ++ fe 0).map U64⟩, ⟨9, 8, 38, (fe 0 ++ fe 0).map U64⟩] [10, 11] mixed rfl (by kernel_rfl) (by kernel_rfl) (by kernel_rfl) (by kernel_rfl) (by kernel_rfl) (by kernel_rfl) (by decide) (by intro x hx; simp only [List.mem_cons, List.not_mem_nil, or_false] at hx; rcases hx with rfl | rfl <;> exact isAlloc_mk rfl zv38 rfl) ?_
          refine rV1 ?_
          refine ⟨_, _, rfl, hGF, by intro x hx; simp only [List.mem_cons, List.not_mem_nil, or_false] at hx; rcases hx with rfl | rfl <;> rfl, by intro x hx; simp only [List.mem_cons, List.not_mem_nil, or_false] at hx; rcases hx with rfl | rfl <;> rfl, fun adr => ?_⟩
          refine rV1 ?_
          refine xs_drawA (E := EE [2999999]) [0, 1, 2, 3, 4, 5, 6, 7, 8, 9, 10, 11, 12, 13] [⟨14, 9, 38, (fe 0 ++ fe 0).map U64⟩, ⟨15, 10, 38, (fe 0 ++ fe 0).map U64⟩] [16, 17] mixed rfl (by kernel_rfl) (by kernel_rfl) (by kernel_rfl) (by kernel_rfl) (by kernel_rfl) (by kernel_rfl) (by decide) (by intro x hx; simp only [List.mem_cons, List.not_mem_nil, or_false] at hx; rcases hx with rfl | rfl <;> exact isAlloc_mk rfl zv38 rfl) ?_
          refine rV1 ?_
          refine ⟨_, _, rfl, hGF, by intro x hx; simp only [List.mem_cons, List.not_mem_nil, or_false] at hx; rcases hx with rfl | rfl <;> rfl, by intro x hx; simp only [List.mem_cons, List.not_mem_nil, or_false] at hx; rcases hx with rfl | rfl <;> rfl, fun adr => ?_⟩
          refine rV1 ?_
          refine xs_drawA (E := EE [2999999]) [0, 1, 2, 3, 4, 5] [⟨6, 11, 38, (fe 0 ++ fe 0).map U64⟩, ⟨7, 12, 38, (fe 0 ++ fe 0).map U64⟩] [8, 9] mixed rfl (by kernel_rfl) (by kernel_rfl) (by kernel_rfl) (by kernel_rfl) (by kernel_rfl) (by kernel_rfl) (by decide) (by intro x hx; simp only [List.mem_cons, List.not_mem_nil, or_false] at hx; rcases hx with rfl | rfl <;> exact isAlloc_mk rfl zv38 rfl) ?_
          refine rV1 ?_
          refine lc ent105 (r5subE _ _) ?_
          refine rV1 ?_
          refine lc ent105 (r5subE _ _) ?_
          refine lx_nil ?_
          refine ⟨_, _, rfl, hGF, by intro x hx; simp only [List.mem_cons, List.not_mem_nil, or_false] at hx; rcases hx with rfl | rfl <;> rfl, by intro x hx; simp only [List.mem_cons, List.not_mem_nil, or_false] at hx; rcases hx with rfl | rfl <;> rfl, fun adr => ?_⟩
          refine rV1 ?_
          refine x_seq ?_
          refine pV1 ?_
          refine lx_callB true rfl rfl ent44 (r5isZero _) (decide_eq_true h3) rfl rfl ?_
          refine lx_nil ?_
          refine x_true rfl ?_
          refine x_seq ?_
          refine pV1 ?_
          refine lx_callB false rfl rfl ent44 (r5isZero _) (decide_eq_false h4) rfl rfl ?_
          refine lx_nil ?_
          refine x_false rfl ?_
          refine x_skip ?_
          refine xp ?_
          refine lx_threeN three40 rfl rfl ?_
          refine rV1 ?_
          refine rt ?_
          exact kret_own 4 rfl rfl rfl Tryz.isAgg40 Tryz.sizeOf40 (by simp) (fun w hw => ⟨rfl, hp_below hw⟩)
      · skip
        rw [show E1w.jaF x y = E1w.ja x.1 x.2.1 x.2.2 y.1 y.2.1 y.2.2 from (if_neg h1).trans ((if_neg h2).trans (if_neg h3))]
        refine calls_of_X (G := Gt) Tryz.func49 rfl rfl (Hp (pl w) []) (hp_refl (pl w) trivial rides_true) (good_hp hGF) ?_
        refine xp ?_
        refine lb fun b2 => ?_
        refine lb fun b3 => ?_
        refine la zv40 fun b4 => ?_
        refine lx_nil ?_
        refine x_seq ?_
        refine pV1 ?_
        refine lx_callB false rfl rfl ent51 (r9none _) (decide_eq_false h1) rfl rfl ?_
        refine lx_nil ?_
        refine x_false rfl ?_
        refine x_skip ?_
        refine x_seq ?_
        refine pV1 ?_
        refine lx_callB false rfl rfl ent51 (r9none _) (decide_eq_false h2) rfl rfl ?_
        refine lx_nil ?_
        refine x_false rfl ?_
        refine x_skip ?_
        refine xs_drawA (E := EE [2999999]) [0, 1, 2, 3, 4, 5, 6, 7, 8, 9] [⟨10, 5, 38, (fe 0 ++ fe 0).map U64⟩, ⟨11, 6, 38, (fe 0 ++ fe 0).map U64⟩] [12, 13] mixed rfl (by kernel_rfl) (by kernel_rfl) (by kernel_rfl) (by kernel_rfl) (by kernel_rfl) (by kernel_rfl) (by decide) (by intro x hx; simp only [List.mem_cons, List.not_mem_nil, or_false] at hx; rcases hx with rfl | rfl <;> exact isAlloc_mk rfl zv38 rfl) ?_
        refine rV1 ?_
        refine ⟨_, _, rfl, hGF, by intro x hx; simp only [List.mem_cons, List.not_mem_nil, or_false] at hx; rcases hx with rfl | rfl <;> rfl, by intro x hx; simp only [List.mem_cons, List.not_mem_nil, or_false] at hx; rcases hx with rfl | rfl <;> rfl, fun adr => ?_⟩
        refine rV1 ?_
        refine xs_drawA (E := EE [2999999]) [0, 1, 2, 3, 4, 5, 6, 7] [⟨8, 7, 38, (fe 0 ++ fe 0).map U64⟩, ⟨9, 8, 38, (fe 0 ++ fe 0).map U64⟩] [10, 11] mixed rfl (by kernel_rfl) (by kernel_rfl) (by kernel_rfl) (by kernel_rfl) (by kernel_rfl) (by kernel_rfl) (by decide) (by intro x hx; simp only [List.mem_cons, List.not_mem_nil, or_false] at hx; rcases hx with rfl | rfl <;> exact isAlloc_mk rfl zv38 rfl) ?_
        refine rV1 ?_
        refine ⟨_, _, rfl, hGF, by intro x hx; simp only [List.mem_cons, List.not_mem_nil, or_false] at hx; rcases hx with rfl | rfl <;> rfl, by intro x hx; simp only [List.mem_cons, List.not_mem_nil, or_false] at hx; rcases hx with rfl | rfl <;> rfl, fun adr => ?_⟩
        refine rV1 ?_
        refine xs_drawA (E := EE [2999999]) [0, 1, 2, 3, 4, 5, 6, 7, 8, 9, 10, 11, 12, 13] [⟨14, 9, 38, (fe 0 ++ fe 0).map U64⟩, ⟨15, 10, 38, (fe 0 ++ fe 0).map U64⟩] [16, 17] mixed rfl (by kernel_rfl) (by kernel_rfl) (by kernel_rfl) (by kernel_rfl) (by kernel_rfl) (by kernel_rfl) (by decide) (by intro x hx; simp only [List.mem_cons, List.not_mem_nil, or_false] at hx; rcases hx with rfl | rfl <;> exact isAlloc_mk rfl zv38 rfl) ?_
        refine rV1 ?_
        refine ⟨_, _, rfl, hGF, by intro x hx; simp only [List.mem_cons, List.not_mem_nil, or_false] at hx; rcases hx with rfl | rfl <;> rfl, by intro x hx; simp only [List.mem_cons, List.not_mem_nil, or_false] at hx; rcases hx with rfl | rfl <;> rfl, fun adr => ?_⟩
        refine rV1 ?_
        refine xs_drawA (E := EE [2999999]) [0, 1, 2, 3, 4, 5] [⟨6, 11, 38, (fe 0 ++ fe 0).map U64⟩, ⟨7, 12, 38, (fe 0 ++ fe 0).map U64⟩] [8, 9] mixed rfl (by kernel_rfl) (by kernel_rfl) (by kernel_rfl) (by kernel_rfl) (by kernel_rfl) (by kernel_rfl) (by decide) (by intro x hx; simp only [List.mem_cons, List.not_mem_nil, or_false] at hx; rcases hx with rfl | rfl <;> exact isAlloc_mk rfl zv38 rfl) ?_
        refine rV1 ?_
        refine lc ent105 (r5subE _ _) ?_
        refine rV1 ?_
        refine lc ent105 (r5subE _ _) ?_
        refine lx_nil ?_
        refine ⟨_, _, rfl, hGF, by intro x hx; simp only [List.mem_cons, List.not_mem_nil, or_false] at hx; rcases hx with rfl | rfl <;> rfl, by intro x hx; simp only [List.mem_cons, List.not_mem_nil, or_false] at hx; rcases hx with rfl | rfl <;> rfl, fun adr => ?_⟩
        refine rV1 ?_
        refine x_seq ?_
        refine pV1 ?_
        refine lx_callB false rfl rfl ent44 (r5isZero _) (decide_eq_false h3) rfl rfl ?_
        refine lx_nil ?_
        refine x_false rfl ?_
        refine x_skip ?_
        refine pV1 ?_
        refine la zv38 fun b13 => ?_
        refine rV1 ?_
        refine pV1 ?_
        refine la zv38 fun b14 => ?_
        refine rV1 ?_
        refine pV1 ?_
        refine la zv38 fun b15 => ?_
        refine rV1 ?_
        refine xs_drawA (E := EE [2999999]) [0, 1, 2, 3, 4, 5, 6, 7, 8] [⟨9, 16, 38, (fe 0 ++ fe 0).map U64⟩] [10] mixed rfl (by kernel_rfl) (by kernel_rfl) (by kernel_rfl) (by kernel_rfl) (by kernel_rfl) (by kernel_rfl) (by decide) (by intro x hx; simp only [List.mem_cons, List.not_mem_nil, or_false] at hx; subst hx; exact isAlloc_mk rfl zv38 rfl) ?_
        refine rV1 ?_
        refine lc ent105 (r5subE _ _) ?_
        refine rV1 ?_
        refine lc ent105 (r5subE _ _) ?_
        refine rV1 ?_
        refine lc ent105 (r5subE _ _) ?_
        refine lx_nil ?_
        refine ⟨_, _, rfl, hGF, by intro x hx; simp only [List.mem_cons, List.not_mem_nil, or_false] at hx; subst hx; rfl, by intro x hx; simp only [List.mem_cons, List.not_mem_nil, or_false] at hx; subst hx; rfl, fun adr => ?_⟩
        refine rV1 ?_
        refine xs_drawn (E := EE []) mixed (by kernel_rfl) (by kernel_rfl) (by kernel_rfl) ?_
        refine rV1 ?_
        refine lc ent105 (r5subE _ _) ?_
        refine rV1 ?_
        refine lc ent105 (r5subE _ _) ?_
        refine rV1 ?_
        refine lx_three012 three40 rfl rfl rfl (by simp) (by simp) (by simp) rfl rfl ?_
        refine rV1 ?_
        refine rt ?_
        exact kret_own 4 rfl rfl rfl Tryz.isAgg40 Tryz.sizeOf40 (by simp) (fun w hw => ⟨rfl, hp_below hw⟩)
theorem r9equal (x y : W6) : Pure Tryz.prog Gt 14 [EV6 x, EV6 y] (.bool (decide ((E1w.jaF x (y.1, ng2 y.2.1, y.2.2)).2.2 = ze2))) := by
  refine pure_X Tryz.func14 fun w hw hGF => ?_
  refine xp ?_
  refine lb fun b2 => ?_
  refine lb fun b3 => ?_
  refine rV1 ?_
  refine xs_drawn (E := EE []) mixed (by kernel_rfl) (by kernel_rfl) (by kernel_rfl) ?_
  refine rV1 ?_
  refine lc ent50 (r9neg _) ?_
  refine lc ent49 (r9add _ _) ?_
  refine lc ent51 (r9none _) ?_
  refine rV1 ?_
  refine rt ?_
  exact kret_tmp rfl rfl (fun w hw => ⟨rfl, hp_below hw⟩)
end Go.Proofs.YtamddkjccmhgaaaGreatDoor

namespace Go.Proofs.YtamddkjccmhgaaaGreatDoor
open Go.RowKit
set_option maxRecDepth 100000
set_option maxHeartbeats 1000000
attribute [local simp] fe_len nm_len AS_len SS_len MONT_len RM_len FRs_len BYs_len by48_len PLl TWOl ONEl N1l IVPl HFPl RTPl FL_len SP_len fe2_len SP2_len FM_len
theorem rV2 {Q P : Prop} (k : Q) (h : Q → P := by intro k; (refine LY.run ?_); (repeat (first | refine y_move rfl rfl rfl ?_ | refine y_assign rfl rfl rfl ?_ | ((refine ra40 rfl rfl ?_ rfl rfl ?_); (· simp)) | ((refine ra34 rfl rfl ?_ rfl rfl ?_); (· simp)) | ((refine sa38 hGF rfl rfl rfl ?_ ?_ (one_u64 _) rfl ?_); (· simp); (· simp)) | ((refine sa40 hGF rfl rfl rfl ?_ ?_ (one_u64 _) rfl ?_); (· simp); (· simp)) | ((refine sa46 hGF rfl rfl rfl ?_ ?_ (one_u8 _) rfl ?_); (· simp); (· simp)) | refine y_call (f := 104) rfl rfl ent104 (rofE _) rfl rfl ?_)); (first | refine y_nil ?_ | refine LY.mk ?_); exact k) : P := h k
theorem pV2 {Q P : Prop} (k : Q) (h : Q → P := by intro k; (refine xp ?_); (refine rV2 ?_); exact k) : P := h k

theorem ent142 : Enters Tryz.prog 142 := fun _ _ => by kernel_rfl
def RMJ (x : W6) (bs : List (BitVec 8)) : Nat → W6
  | 0 => (ze2, ze2, ze2)
  | i + 1 => if pbit bs i = 1#8 then E1w.jaF (E1w.jdF (RMJ x bs i)) x else E1w.jdF (RMJ x bs i)
theorem RMJ_y {x : W6} {bs : List (BitVec 8)} {i : Nat} (h : pbit bs i = 1#8) : RMJ x bs (i + 1) = E1w.jaF (E1w.jdF (RMJ x bs i)) x := if_pos h
theorem RMJ_n {x : W6} {bs : List (BitVec 8)} {i : Nat} (h : ¬ pbit bs i = 1#8) : RMJ x bs (i + 1) = E1w.jdF (RMJ x bs i) := if_neg h
theorem RMJ_jr {x : W6} {P : Pt W2} (hP : E1w.onP P) (hx : E1w.jr x P) (bs : List (BitVec 8)) : ∀ i, E1w.jr (RMJ x bs i) (E1w.times P (BTn bs i))
  | 0 => rfl
  | i + 1 => by
    have hd := E1w.jr_d (E1w.times_on hP _) (RMJ_jr hP hx bs i)
    rw [E1w.dbl_times hP] at hd
    rcases bit_one bs i with ⟨h, e⟩ | ⟨h, e⟩
    · rw [RMJ_y h, BTn, e]
      exact E1w.jr_a (E1w.times_on hP _) hP hd hx
    · rw [RMJ_n h, BTn, e]
      exact hd
def RRL : List (BitVec 64) := [18446744069414584321#64, 6034159408538082302#64, 3691218898639771653#64, 8353516859464449352#64, 0#64, 0#64]
def RB48 : List (BitVec 8) := BYs RRL 48
def ORB : List (BitVec 8) := RB48.drop 16
theorem ORB_len : ORB.length = 32 := by decide +kernel
theorem ORB_n : BN ORB 32 = ORD := by decide +kernel
theorem RB48_len : RB48.length = 48 := by decide +kernel
theorem RRL_len : RRL.length = 6 := rfl
attribute [local simp] RB48_len RRL_len
theorem ORB_at {w : World} {b : Nat} {t : TypeId} (h : OwnB w b (RB48.map U8) t) : BytesAt w (some ⟨b, 16, none⟩) ORB := BytesAt.range fun j v hv => by
  have := h.range (16 + j) v (by rw [ORB, List.map_drop, List.getElem?_drop] at hv; exact hv)
  rw [Nat.zero_add] at this
  exact this
theorem r5num (a b : Zp) : Pure Tryz.prog Gt 99 [NV (nm a), NV (nm b)] (EV2 (a, b)) := by
  refine pure_X Tryz.func99 fun w hw hGF => ?_
  refine xp ?_
  refine lb fun b2 => ?_
  refine lb fun b3 => ?_
  refine la zv38 fun b4 => ?_
  refine lx_nil ?_
  refine xs_drawn (E := EE []) mixed (by kernel_rfl) (by kernel_rfl) (by kernel_rfl) ?_
  refine rV2 ?_
  refine lx_two two38 rfl rfl (by simp) (by simp) rfl rfl ?_
  refine rV2 ?_
  refine rt ?_
  exact kret_own 4 rfl rfl rfl Tryz.isAgg38 Tryz.sizeOf38 (by simp) (fun w hw => ⟨rfl, hp_below hw⟩)
theorem r9num (a b : Zp) : Pure Tryz.prog Gt 43 [NV (nm a), NV (nm b)] (EV2 (a, b)) := by
  refine pure_X Tryz.func43 fun w hw hGF => ?_
  refine xp ?_
  refine lb fun b2 => ?_
  refine lb fun b3 => ?_
  refine la zv38 fun b4 => ?_
  refine lx_nil ?_
  refine pV2 ?_
  refine lc ent99 (r5num _ _) ?_
  refine rV2 ?_
  refine rt ?_
  exact kret_own 4 rfl rfl rfl Tryz.isAgg38 Tryz.sizeOf38 (by simp) (fun w hw => ⟨rfl, hp_below hw⟩)
theorem sm_40 : sm2 4#64 0#64 = E1w.b := by decide +kernel
theorem r9b1  : Pure Tryz.prog Gt 95 [.bool false] (EV2 E1w.b) := by
  refine pure_X Tryz.func95 fun w hw hGF => ?_
  refine xp ?_
  refine la zv38 fun b2 => ?_
  refine lx_nil ?_
  refine x_seq ?_
  refine pV2 ?_
  refine x_false rfl ?_
  refine x_skip ?_
  refine xp ?_
  refine lc ent136 (small5r _ _) ?_
  refine rV2 ?_
  refine rt ?_
  exact kret_own 2 rfl rfl rfl Tryz.isAgg38 Tryz.sizeOf38 (by simp) (fun w hw => ⟨by rw [← sm_40], hp_below hw⟩)
theorem r9mul_calls (x : W6) (e : Option Addr) (cap : Nat) (bs : List (BitVec 8)) (hlen : bs.length ≤ 4096) (w : World) (hw : Gt w) (hby : BytesAt w e bs) :
    Calls Tryz.prog 100 [EV6 x, .slice e bs.length cap].toArray w (fun r w' => r = .returned (EV6 (RMJ x bs (8 * bs.length))) ∧ Grow w w') := by
  have hGF : BOk Gt (pl w) := gt_low.plain hw
  refine calls_of_X (G := Gt) Tryz.func100 rfl rfl (Hp (pl w) []) (hp_refl (pl w) trivial rides_true) (good_hp hGF) ?_
  refine xp ?_
  refine lb fun b2 => ?_
  refine la zv40 fun b4 => ?_
  refine lx_nil ?_
  refine xp ?_
  refine la zv40 fun b5 => ?_
  refine lx_nil ?_
  refine x_seq ?_
  refine pV2 ?_
  refine x_block ?_
  refine x_for (ι := { i : Nat // i ≤ 8 * bs.length }) (fun y => [(1, .slice e bs.length cap), (2, .pointer (some ⟨b2, 0, none⟩)), (4, .pointer (some ⟨b4, 0, none⟩)), (5, .pointer (some ⟨b5, 0, none⟩)), (6, I (y.1 : Int))]) (fun y => [(2, b2, ((fe ((x).1).1 ++ fe ((x).1).2) ++ ((fe ((x).2.1).1 ++ fe ((x).2.1).2) ++ (fe ((x).2.2).1 ++ fe ((x).2.2).2))).map U64, 40), (4, b4, ((fe 0 ++ fe 0) ++ ((fe 0 ++ fe 0) ++ (fe 0 ++ fe 0))).map U64, 40), (5, b5, ((fe ((RMJ x bs y.1).1).1 ++ fe ((RMJ x bs y.1).1).2) ++ ((fe ((RMJ x bs y.1).2.1).1 ++ fe ((RMJ x bs y.1).2.1).2) ++ (fe ((RMJ x bs y.1).2.2).1 ++ fe ((RMJ x bs y.1).2.2).2))).map U64, 40)]) (fun y => 8 * bs.length - y.1) ⟨0, Nat.zero_le _⟩ hGF ⟨rfl, rfl, rfl, rfl, rfl, trivial⟩ ⟨rfl, rfl, rfl, trivial⟩ ?_
  rintro ⟨i, hi⟩
  dsimp only
  refine x_seq ?_
  refine pV2 ?_
  refine lx_len rfl (fun _ => len_slice Tryz.underlying22 _ _ _ _) rfl rfl ?_
  refine lx_bin (v := I ((8 * bs.length : Nat) : Int)) rfl rfl (fun _ => rfl) (fun _ => (bin_mul_i _ _ _ (by unfold inI; omega)).trans (by rw [show (8 : Int) * (bs.length : Int) = ((8 * bs.length : Nat) : Int) by omega])) rfl rfl ?_
  refine lx_bin rfl rfl (fun _ => rfl) (fun _ => bin_lss_i _ _ _) rfl rfl ?_
  refine lx_nil ?_
  refine x_if rfl (fun hc => ?_) (fun hc => ?_)
  · simp only [decide_eq_true_eq] at hc
    refine x_skip ?_
    refine x_seq ?_
    refine x_block ?_
    refine pV2 ?_
    refine lc ent106 (r9double _) ?_
    refine rV2 ?_
    refine pV2 ?_
    refine lx_bin (v := I ((i / 8 : Nat) : Int)) rfl rfl (fun _ => rfl) (fun _ => bin_quo_i _ _ _ (by decide) (show inI ((i / 8 : Nat) : Int) by unfold inI; omega)) rfl rfl ?_
    obtain ⟨ad, rfl, _⟩ := hby (i / 8) _ (gm U8 bs 0 (i / 8) (by omega))
    refine lx_isA (i / 8) rfl rfl Tryz.underlying22 Tryz.sizeOf5 rfl (by omega) rfl rfl ?_
    refine lx_load rfl Tryz.isAgg5 (fun w' h => by obtain ⟨ad', e, hc⟩ := (hby.grow (hp_below h)) (i / 8) _ (gm U8 bs 0 (i / 8) (by omega)); cases e; exact hc) rfl rfl ?_
    refine rV2 ?_
    refine lx_bin (v := I ((i % 8 : Nat) : Int)) rfl rfl (fun _ => rfl) (fun _ => bin_rem_i _ _ _ (by decide)) rfl rfl ?_
    refine lx_bin (v := I ((7 - i % 8 : Nat) : Int)) rfl rfl (fun _ => rfl) (fun _ => (bin_sub_i _ _ _ (by unfold inI; omega)).trans (by rw [show ((7 : Int) - ((i % 8 : Nat) : Int)) = ((7 - i % 8 : Nat) : Int) by omega])) rfl rfl ?_
    refine lx_bin (v := U8 (bs.getD (i / 8) 0 >>> (7 - i % 8))) rfl rfl (fun _ => rfl) (fun _ => bin_shr_i_u8 _ _ _ (by omega)) rfl rfl ?_
    refine lx_bin (v := U8 (pbit bs i)) rfl rfl (fun _ => rfl) (fun _ => bin_and_u8 _ _ 1#8) rfl rfl ?_
    refine lx_bin (v := .bool (decide (pbit bs i = 1#8))) rfl rfl (fun _ => rfl) (fun _ => (bin_eql_u8 _ _ 1#8).trans rfl) rfl rfl ?_
    refine lx_nil ?_
    refine x_if rfl (fun hc => ?_) (fun hc => ?_)
    · have hq : pbit bs i = 1#8 := of_decide_eq_true hc
      refine x_plain (E := EE []) ?_
      refine rV2 ?_
      refine lc ent49 (r9add _ _) ?_
      refine rV2 ?_
      refine x_plain (E := EE []) ?_
      refine rV2 ?_
      refine lx_bin rfl rfl (fun _ => rfl) (fun _ => bin_add_i _ _ _ (by unfold inI; omega)) rfl rfl ?_
      refine rV2 ?_
      repeat (refine kblk_n ?_)
      refine kseq_n ?_
      exact ⟨rfl, ⟨i + 1, by omega⟩, _, by show 8 * bs.length - (i + 1) < 8 * bs.length - i; omega, rfl, ⟨rfl, rfl, rfl, rfl, rfl, trivial⟩, ⟨rfl, rfl, by first | (rw [RMJ_y hq]; rfl) | (rw [RMJ_n hq]; rfl), trivial⟩⟩
    · have hq : ¬ pbit bs i = 1#8 := of_decide_eq_false hc
      refine x_skip ?_
      refine x_plain (E := EE []) ?_
      refine rV2 ?_
      refine lx_bin rfl rfl (fun _ => rfl) (fun _ => bin_add_i _ _ _ (by unfold inI; omega)) rfl rfl ?_
      refine rV2 ?_
      repeat (refine kblk_n ?_)
      refine kseq_n ?_
      exact ⟨rfl, ⟨i + 1, by omega⟩, _, by show 8 * bs.length - (i + 1) < 8 * bs.length - i; omega, rfl, ⟨rfl, rfl, rfl, rfl, rfl, trivial⟩, ⟨rfl, rfl, by first | (rw [RMJ_y hq]; rfl) | (rw [RMJ_n hq]; rfl), trivial⟩⟩
  · obtain rfl : i = 8 * bs.length := by simp at hc; omega
    refine x_exit ?_
    refine pV2 ?_
    refine rt ?_
    exact kret_own 4 rfl rfl rfl Tryz.isAgg40 Tryz.sizeOf40 (by simp) (fun w hw => ⟨rfl, hp_below hw⟩)
theorem r3r  : Pure Tryz.prog Gt 142 [] (NV RRL) := by
  refine pure_X Tryz.func142 fun w hw hGF => ?_
  refine xp ?_
  refine la zv34 fun b0 => ?_
  refine lx_nil ?_
  refine xp ?_
  refine lx_buildr (n := 6) rfl rfl Tryz.underlying34 Tryz.sizeOf25 Tryz.zeroValue34 rfl rfl rfl rfl ?_
  refine lx_storea 0 hGF rfl rfl rfl Tryz.sizeOf34 rfl (by simp) rfl rfl ?_
  refine lx_nil ?_
  refine rt ?_
  exact kret_own 0 rfl rfl rfl Tryz.isAgg34 Tryz.sizeOf34 (by simp) (fun w hw => ⟨rfl, hp_below hw⟩)
theorem rbR : Pure Tryz.prog Gt 78 [NV RRL] (.agg (RB48.map U8).toArray) := rbytesOf_pure RRL rfl
theorem r9order_calls (w : World) (hw : Gt w) : Calls Tryz.prog 101 [].toArray w (fun e w' => ∃ bm, e = .returned (.slice (some ⟨bm, 16, none⟩) 32 32) ∧ Grow w w' ∧ w.heap.size ≤ bm ∧ OwnB w' bm (RB48.map U8) 46) := by
  have hGF : BOk Gt (pl w) := gt_low.plain hw
  refine calls_of_X (G := Gt) Tryz.func101 rfl rfl (Hp (pl w) []) (hp_refl (pl w) trivial rides_true) (good_hp hGF) ?_
  refine pV2 ?_
  refine xp ?_
  refine lc ent142 (r3r) ?_
  refine lc ent78 (rbR) ?_
  refine la zv46 fun b1 => ?_
  refine rV2 ?_
  refine xp ?_
  refine lx_slarr1 (l := 16) (h' := 48) rfl Tryz.underlying46 Tryz.sizeOf5 rfl rfl (by decide) (by decide) rfl rfl ?_
  refine rV2 ?_
  refine rt ?_
  exact kret_tmp rfl rfl (fun w hw => ⟨b1, rfl, hp_below hw, (hw.own 1 b1 _ _ rfl).2.elim id False.elim, (hw.own 1 b1 _ _ rfl).1⟩)
theorem r9mulL (x : W6) (e : Option Addr) (cap : Nat) (bs : List (BitVec 8)) (n : Nat) (hn : bs.length = n) (hl : n ≤ 4096) (w : World) (hw : Gt w) (hby : BytesAt w e bs) : Calls Tryz.prog 100 [EV6 x, .slice e n cap].toArray w (fun r w' => r = .returned (EV6 (RMJ x bs (8 * n))) ∧ Grow w w') := by
  subst hn
  exact r9mul_calls x e cap bs hl w hw hby
theorem r9mulO (x : W6) (b : Nat) (t : TypeId) (w : World) (hw : Gt w) (h : OwnB w b (RB48.map U8) t) : Calls Tryz.prog 100 [EV6 x, .slice (some ⟨b, 16, none⟩) 32 32].toArray w (fun r w' => r = .returned (EV6 (RMJ x ORB (8 * 32))) ∧ Grow w w') := by
  exact r9mulL x _ 32 ORB 32 ORB_len (by decide) w hw (ORB_at h)
theorem r9inGroup (x : W6) : Pure Tryz.prog Gt 45 [EV6 x] (.bool (decide ((RMJ x ORB (8 * 32)).2.2 = ze2))) := by
  refine pure_X Tryz.func45 fun w hw hGF => ?_
  refine xp ?_
  refine lb fun b1 => ?_
  refine rV2 ?_
  refine xs_tree (EE [101, 2000101]) mixed (by kernel_rfl) (by kernel_rfl) ?_
  refine tr_pre (m := 0) [0, 1, 2, 3, 4] (by kernel_rfl) ?_
  refine rV2 ?_
  refine lx_callG rfl rfl ent101 rfl rfl (fun w' hw' => (r9order_calls w' (hGF.g _ _ _ hw')).mono fun e w'' h => ?_)
  obtain ⟨bm, rfl, hg, hb, hob⟩ := h
  refine ⟨_, _, rfl, good_hp hGF, hw'.news rides_true hg [(33, bm, RB48.map U8, 46)] ?_ inj_one, hp_fresh rides_true rfl, ?_⟩
  · intro n' b' c' t' hl
    rcases lkB_cons hl with ⟨_, e⟩ | ⟨_, hl⟩
    · cases e; exact ⟨hb, hob⟩
    · cases hl
  clear hw' hg hb hob
  refine lx_callC rfl rfl ent100 (fun w' hC hG => r9mulO _ bm _ w' hG (hC.own 33 _ _ _ rfl).1) rfl rfl ?_
  refine lc ent51 (r9none _) ?_
  refine rV2 ?_
  refine tr_nil (by kernel_rfl) ?_
  refine kseq_n ?_
  refine rt ?_
  exact kret_tmp rfl rfl (fun w hw => ⟨rfl, hp_below hw⟩)
end Go.Proofs.YtamddkjccmhgaaaGreatDoor
