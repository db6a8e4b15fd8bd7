/-
  The reference's points: sums, doubles, opposites.
  The reference's points: the generator, which numbers are points, times, the order.
-/
import Derived.Test.YtfknmeefbccflaaGreatDoorXA
import Derived.Test.YtfknmeefbccflaaGreatDoorX5
import Derived.Test.YtfknmeefbccflaaGreatDoorX3
namespace Go.Proofs.YtfknmeefbccflaaGreatDoor
open Go.RowKit
set_option maxRecDepth 100000
set_option maxHeartbeats 1000000
attribute [local simp] fe_len nm_len AS_len SS_len MONT_len RM_len FRs_len BYs_len by48_len PLl TWOl ONEl N1l IVPl HFPl RTPl FL_len SP_len fe2_len SP2_len FM_len

theorem ent56 : Enters Tryz.prog 56 := fun _ _ => by kernel_rfl
theorem ent48 : Enters Tryz.prog 48 := fun _ _ => by kernel_rfl
theorem ent34 : Enters Tryz.prog 34 := fun _ _ => by kernel_rfl
theorem ent68 : Enters Tryz.prog 68 := fun _ _ => by kernel_rfl
theorem ent14 : Enters Tryz.prog 14 := fun _ _ => by kernel_rfl
theorem ent31 : Enters Tryz.prog 31 := fun _ _ => by kernel_rfl
theorem ent29 : Enters Tryz.prog 29 := fun _ _ => by kernel_rfl
theorem ent32 : Enters Tryz.prog 32 := fun _ _ => by kernel_rfl
theorem ent33 : Enters Tryz.prog 33 := fun _ _ => by kernel_rfl
theorem ent49 : Enters Tryz.prog 49 := fun _ _ => by kernel_rfl
theorem ent89 : Enters Tryz.prog 89 := fun _ _ => by kernel_rfl
theorem ent132 : Enters Tryz.prog 132 := fun _ _ => by kernel_rfl
theorem ent101 : Enters Tryz.prog 101 := fun _ _ => by kernel_rfl
/-- A point of the reference as a value. -/
abbrev EV6 (x : W6) : Value := .agg (((fe (x.1).1 ++ fe (x.1).2) ++ ((fe (x.2.1).1 ++ fe (x.2.1).2) ++ (fe (x.2.2).1 ++ fe (x.2.2).2))).map U64).toArray
theorem zv50 (w : World) : (zeroValue 50).run Tryz.prog w = .ok (.agg (((fe 0 ++ fe 0) ++ ((fe 0 ++ fe 0) ++ (fe 0 ++ fe 0))).map U64).toArray) w := by rw [fe_0]; exact (Tryz.zeroValue50 w).trans (by rfl)
theorem three50 : Three Tryz.prog 50 ⟨ "X", 41, 0, false, "", "", 0⟩ ⟨ "Y", 41, 12, false, "", "", 96⟩ ⟨ "Z", 41, 24, false, "", "", 192⟩ 12 (fe 0 ++ fe 0) (fe 0 ++ fe 0) (fe 0 ++ fe 0) := ⟨Tryz.underlying50, rfl, rfl, rfl, Tryz.sizeOf41, Tryz.sizeOf41, Tryz.sizeOf41, zv50, by simp, by simp, by simp⟩
theorem r5subE (x y : W2) : Pure Tryz.prog Gt 74 [EV2 x, EV2 y] (EV2 (E2w.sub x y)) := by
  have h := r5sub x y
  rw [sb2_eq] at h
  exact h
def sm2 (a b : BitVec 64) : W2 := (zp a.toNat, zp b.toNat)
theorem small5r (a b : BitVec 64) : Pure Tryz.prog Gt 101 [U64 a, U64 b] (EV2 (sm2 a b)) := by
  intro w hw
  have hGF : BOk Gt (pl w) := gt_low.plain hw
  refine calls_of_X (G := Gt) Tryz.func101 rfl rfl (Hp (pl w) []) (hp_refl (pl w) trivial rides_true) (good_hp hGF) ?_
  refine xs_plain (E := EE []) ?_
  refine lx_allocr 4 hGF zv41 rfl rfl ?_
  intro b4
  refine lx_nil ?_
  refine xs_plain (E := EE []) ?_
  refine lx_move rfl rfl rfl ?_
  refine lx_call rfl rfl ent118 (rsmallE _) rfl rfl ?_
  refine lx_move rfl rfl rfl ?_
  refine lx_call rfl rfl ent118 (rsmallE _) rfl rfl ?_
  refine lx_two two41 rfl rfl (by simp) (by simp) rfl rfl ?_
  refine lx_storea 4 hGF rfl rfl rfl Tryz.sizeOf41 (by simp) (by simp) (one_u64 _) rfl ?_
  refine lx_nil ?_
  refine x_ret ?_
  repeat (first | refine kseq_ret ?_ | refine kblk_ret ?_)
  exact kret_own 4 rfl rfl rfl Tryz.isAgg41 Tryz.sizeOf41 (by simp) (fun w hw => ⟨rfl, hp_below hw⟩)
theorem r9none (x : W6) : Pure Tryz.prog Gt 34 [EV6 x] (.bool (decide (x.2.2 = ze2))) := by
  intro w hw
  have hGF : BOk Gt (pl w) := gt_low.plain hw
  refine calls_of_X (G := Gt) Tryz.func34 rfl rfl (Hp (pl w) []) (hp_refl (pl w) trivial rides_true) (good_hp hGF) ?_
  refine xs_plain (E := EE []) ?_
  refine lx_boxr 1 hGF rfl rfl rfl ?_
  intro b1
  refine lx_assign rfl rfl rfl ?_
  refine lx_nil ?_
  refine xs_plain (E := EE []) ?_
  refine lx_fak 24 rfl Tryz.underlying50 rfl Tryz.sizeOf41 (by decide) rfl rfl rfl ?_
  refine lx_loado 1 _ rfl rfl Tryz.isAgg41 Tryz.sizeOf41 (by simp) (ld_rr (m := 12) (n := 12) (by simp) (by simp) rfl) rfl rfl ?_
  refine lx_call rfl rfl ent75 (r5isZero _) rfl rfl ?_
  refine lx_assign rfl rfl rfl ?_
  refine lx_nil ?_
  refine x_ret ?_
  repeat (first | refine kseq_ret ?_ | refine kblk_ret ?_)
  exact kret_tmp rfl rfl (fun w hw => ⟨rfl, hp_below hw⟩)
theorem r9at (a b : W2) : Pure Tryz.prog Gt 68 [EV2 a, EV2 b] (EV6 (a, b, on2)) := by
  intro w hw
  have hGF : BOk Gt (pl w) := gt_low.plain hw
  refine calls_of_X (G := Gt) Tryz.func68 rfl rfl (Hp (pl w) []) (hp_refl (pl w) trivial rides_true) (good_hp hGF) ?_
  refine xs_plain (E := EE []) ?_
  refine lx_boxr 2 hGF rfl rfl rfl ?_
  intro b2
  refine lx_boxr 3 hGF rfl rfl rfl ?_
  intro b3
  refine lx_allocr 4 hGF zv50 rfl rfl ?_
  intro b4
  refine lx_nil ?_
  refine xs_drawn (E := EE []) mixed (by kernel_rfl) (by kernel_rfl) (by kernel_rfl) ?_
  refine lx_loada 2 rfl rfl Tryz.isAgg41 Tryz.sizeOf41 (by simp) rfl rfl ?_
  refine lx_loada 3 rfl rfl Tryz.isAgg41 Tryz.sizeOf41 (by simp) rfl rfl ?_
  refine lx_call rfl rfl ent90 (r5one) rfl rfl ?_
  refine lx_three012 three50 rfl rfl rfl (by simp) (by simp) (by simp) rfl rfl ?_
  refine lx_storea 4 hGF rfl rfl rfl Tryz.sizeOf50 (by simp) (by simp) (one_u64 _) rfl ?_
  refine lx_nil ?_
  refine x_ret ?_
  repeat (first | refine kseq_ret ?_ | refine kblk_ret ?_)
  exact kret_own 4 rfl rfl rfl Tryz.isAgg50 Tryz.sizeOf50 (by simp) (fun w hw => ⟨rfl, hp_below hw⟩)
theorem r9neg (x : W6) : Pure Tryz.prog Gt 32 [EV6 x] (EV6 (x.1, ng2 x.2.1, x.2.2)) := by
  intro w hw
  have hGF : BOk Gt (pl w) := gt_low.plain hw
  refine calls_of_X (G := Gt) Tryz.func32 rfl rfl (Hp (pl w) []) (hp_refl (pl w) trivial rides_true) (good_hp hGF) ?_
  refine xs_plain (E := EE []) ?_
  refine lx_boxr 1 hGF rfl rfl rfl ?_
  intro b1
  refine lx_allocr 2 hGF zv50 rfl rfl ?_
  intro b2
  refine lx_nil ?_
  refine xs_drawn (E := EE []) mixed (by kernel_rfl) (by kernel_rfl) (by kernel_rfl) ?_
  refine lx_fak 0 rfl Tryz.underlying50 rfl Tryz.sizeOf41 (by decide) rfl rfl rfl ?_
  refine lx_loado 1 _ rfl rfl Tryz.isAgg41 Tryz.sizeOf41 (by simp) ld_l rfl rfl ?_
  refine lx_fak 12 rfl Tryz.underlying50 rfl Tryz.sizeOf41 (by decide) rfl rfl rfl ?_
  refine lx_loado 1 _ rfl rfl Tryz.isAgg41 Tryz.sizeOf41 (by simp) (ld_m (by simp)) rfl rfl ?_
  refine lx_call rfl rfl ent67 (r5neg _) rfl rfl ?_
  refine lx_fak 24 rfl Tryz.underlying50 rfl Tryz.sizeOf41 (by decide) rfl rfl rfl ?_
  refine lx_loado 1 _ rfl rfl Tryz.isAgg41 Tryz.sizeOf41 (by simp) (ld_rr (m := 12) (n := 12) (by simp) (by simp) rfl) rfl rfl ?_
  refine lx_three012 three50 rfl rfl rfl (by simp) (by simp) (by simp) rfl rfl ?_
  refine lx_storea 2 hGF rfl rfl rfl Tryz.sizeOf50 (by simp) (by simp) (one_u64 _) rfl ?_
  refine lx_nil ?_
  refine x_ret ?_
  repeat (first | refine kseq_ret ?_ | refine kblk_ret ?_)
  exact kret_own 2 rfl rfl rfl Tryz.isAgg50 Tryz.sizeOf50 (by simp) (fun w hw => ⟨rfl, hp_below hw⟩)
theorem r9double (x : W6) : Pure Tryz.prog Gt 31 [EV6 x] (EV6 (E2w.jdF x)) := by
  intro w hw
  have hGF : BOk Gt (pl w) := gt_low.plain hw
  by_cases h : x.2.2 = ze2
  · skip
    rw [show E2w.jdF x = (ze2, ze2, ze2) from if_pos (.inl h)]
    refine calls_of_X (G := Gt) Tryz.func31 rfl rfl (Hp (pl w) []) (hp_refl (pl w) trivial rides_true) (good_hp hGF) ?_
    refine xs_plain (E := EE []) ?_
    refine lx_boxr 1 hGF rfl rfl rfl ?_
    intro b1
    refine lx_allocr 2 hGF zv50 rfl rfl ?_
    intro b2
    refine lx_nil ?_
    refine x_seq ?_
    refine xs_plain (E := EE []) ?_
    refine lx_loada 1 rfl rfl Tryz.isAgg50 Tryz.sizeOf50 (by simp) rfl rfl ?_
    refine lx_callB true rfl rfl ent34 (r9none _) (decide_eq_true h) rfl rfl ?_
    refine lx_move rfl rfl rfl ?_
    refine lx_skip rfl rfl rfl ?_
    refine lx_skip rfl rfl rfl ?_
    refine lx_skip rfl rfl rfl ?_
    refine lx_pick rfl rfl rfl rfl rfl ?_
    refine lx_nil ?_
    refine x_true rfl ?_
    refine xs_plain (E := EE []) ?_
    refine lx_threeN three50 rfl rfl ?_
    refine lx_storea 2 hGF rfl rfl rfl Tryz.sizeOf50 (by simp) (by simp) (one_u64 _) rfl ?_
    refine lx_nil ?_
    refine x_ret ?_
    repeat (first | refine kseq_ret ?_ | refine kblk_ret ?_)
    exact kret_own 2 rfl rfl rfl Tryz.isAgg50 Tryz.sizeOf50 (by simp) (fun w hw => ⟨rfl, hp_below hw⟩)
  · skip
    by_cases h2 : x.2.1 = ze2
    · skip
      rw [show E2w.jdF x = (ze2, ze2, ze2) from if_pos (.inr h2)]
      refine calls_of_X (G := Gt) Tryz.func31 rfl rfl (Hp (pl w) []) (hp_refl (pl w) trivial rides_true) (good_hp hGF) ?_
      refine xs_plain (E := EE []) ?_
      refine lx_boxr 1 hGF rfl rfl rfl ?_
      intro b1
      refine lx_allocr 2 hGF zv50 rfl rfl ?_
      intro b2
      refine lx_nil ?_
      refine x_seq ?_
      refine xs_plain (E := EE []) ?_
      refine lx_loada 1 rfl rfl Tryz.isAgg50 Tryz.sizeOf50 (by simp) rfl rfl ?_
      refine lx_callB false rfl rfl ent34 (r9none _) (decide_eq_false h) rfl rfl ?_
      refine lx_move rfl rfl rfl ?_
      refine lx_fak 12 rfl Tryz.underlying50 rfl Tryz.sizeOf41 (by decide) rfl rfl rfl ?_
      refine lx_loado 1 _ rfl rfl Tryz.isAgg41 Tryz.sizeOf41 (by simp) (ld_m (by simp)) rfl rfl ?_
      refine lx_callB true rfl rfl ent75 (r5isZero _) (decide_eq_true h2) rfl rfl ?_
      refine lx_pick rfl rfl rfl rfl rfl ?_
      refine lx_nil ?_
      refine x_true rfl ?_
      refine xs_plain (E := EE []) ?_
      refine lx_threeN three50 rfl rfl ?_
      refine lx_storea 2 hGF rfl rfl rfl Tryz.sizeOf50 (by simp) (by simp) (one_u64 _) rfl ?_
      refine lx_nil ?_
      refine x_ret ?_
      repeat (first | refine kseq_ret ?_ | refine kblk_ret ?_)
      exact kret_own 2 rfl rfl rfl Tryz.isAgg50 Tryz.sizeOf50 (by simp) (fun w hw => ⟨rfl, hp_below hw⟩)
    · skip
      rw [show E2w.jdF x = E2w.jd x.1 x.2.1 x.2.2 from if_neg (fun e => e.elim h h2)]
      refine calls_of_X (G := Gt) Tryz.func31 rfl rfl (Hp (pl w) []) (hp_refl (pl w) trivial rides_true) (good_hp hGF) ?_
      refine xs_plain (E := EE []) ?_
      refine lx_boxr 1 hGF rfl rfl rfl ?_
      intro b1
      refine lx_allocr 2 hGF zv50 rfl rfl ?_
      intro b2
      refine lx_nil ?_
      refine x_seq ?_
      refine xs_plain (E := EE []) ?_
      refine lx_loada 1 rfl rfl Tryz.isAgg50 Tryz.sizeOf50 (by simp) rfl rfl ?_
      refine lx_callB false rfl rfl ent34 (r9none _) (decide_eq_false h) rfl rfl ?_
      refine lx_move rfl rfl rfl ?_
      refine lx_fak 12 rfl Tryz.underlying50 rfl Tryz.sizeOf41 (by decide) rfl rfl rfl ?_
      refine lx_loado 1 _ rfl rfl Tryz.isAgg41 Tryz.sizeOf41 (by simp) (ld_m (by simp)) rfl rfl ?_
      refine lx_callB false rfl rfl ent75 (r5isZero _) (decide_eq_false h2) rfl rfl ?_
      refine lx_pick rfl rfl rfl rfl rfl ?_
      refine lx_nil ?_
      refine x_false rfl ?_
      refine x_skip ?_
      refine xs_plain (E := EE []) ?_
      refine lx_fak 0 rfl Tryz.underlying50 rfl Tryz.sizeOf41 (by decide) rfl rfl rfl ?_
      refine lx_loado 1 _ rfl rfl Tryz.isAgg41 Tryz.sizeOf41 (by simp) ld_l rfl rfl ?_
      refine lx_fak 0 rfl Tryz.underlying50 rfl Tryz.sizeOf41 (by decide) rfl rfl rfl ?_
      refine lx_loado 1 _ rfl rfl Tryz.isAgg41 Tryz.sizeOf41 (by simp) ld_l rfl rfl ?_
      refine lx_call rfl rfl ent54 (r5mul _ _) rfl rfl ?_
      refine lx_allocr 3 hGF zv41 rfl rfl ?_
      intro b3
      refine lx_storea 3 hGF rfl rfl rfl Tryz.sizeOf41 (by simp) (by simp) (one_u64 _) rfl ?_
      refine lx_nil ?_
      refine xs_plain (E := EE []) ?_
      refine lx_fak 12 rfl Tryz.underlying50 rfl Tryz.sizeOf41 (by decide) rfl rfl rfl ?_
      refine lx_loado 1 _ rfl rfl Tryz.isAgg41 Tryz.sizeOf41 (by simp) (ld_m (by simp)) rfl rfl ?_
      refine lx_fak 12 rfl Tryz.underlying50 rfl Tryz.sizeOf41 (by decide) rfl rfl rfl ?_
      refine lx_loado 1 _ rfl rfl Tryz.isAgg41 Tryz.sizeOf41 (by simp) (ld_m (by simp)) rfl rfl ?_
      refine lx_call rfl rfl ent54 (r5mul _ _) rfl rfl ?_
      refine lx_allocr 4 hGF zv41 rfl rfl ?_
      intro b4
      refine lx_storea 4 hGF rfl rfl rfl Tryz.sizeOf41 (by simp) (by simp) (one_u64 _) rfl ?_
      refine lx_nil ?_
      refine xs_plain (E := EE []) ?_
      refine lx_fak 0 rfl Tryz.underlying50 rfl Tryz.sizeOf41 (by decide) rfl rfl rfl ?_
      refine lx_loado 1 _ rfl rfl Tryz.isAgg41 Tryz.sizeOf41 (by simp) ld_l rfl rfl ?_
      refine lx_loada 4 rfl rfl Tryz.isAgg41 Tryz.sizeOf41 (by simp) rfl rfl ?_
      refine lx_call rfl rfl ent54 (r5mul _ _) rfl rfl ?_
      refine lx_allocr 5 hGF zv41 rfl rfl ?_
      intro b5
      refine lx_storea 5 hGF rfl rfl rfl Tryz.sizeOf41 (by simp) (by simp) (one_u64 _) rfl ?_
      refine lx_nil ?_
      refine xs_plain (E := EE []) ?_
      refine lx_loada 5 rfl rfl Tryz.isAgg41 Tryz.sizeOf41 (by simp) rfl rfl ?_
      refine lx_loada 5 rfl rfl Tryz.isAgg41 Tryz.sizeOf41 (by simp) rfl rfl ?_
      refine lx_call rfl rfl ent55 (r5add _ _) rfl rfl ?_
      refine lx_storea 5 hGF rfl rfl rfl Tryz.sizeOf41 (by simp) (by simp) (one_u64 _) rfl ?_
      refine lx_nil ?_
      refine xs_plain (E := EE []) ?_
      refine lx_loada 5 rfl rfl Tryz.isAgg41 Tryz.sizeOf41 (by simp) rfl rfl ?_
      refine lx_loada 5 rfl rfl Tryz.isAgg41 Tryz.sizeOf41 (by simp) rfl rfl ?_
      refine lx_call rfl rfl ent55 (r5add _ _) rfl rfl ?_
      refine lx_storea 5 hGF rfl rfl rfl Tryz.sizeOf41 (by simp) (by simp) (one_u64 _) rfl ?_
      refine lx_nil ?_
      refine xs_drawA (E := EE [2999999]) [0, 1, 2, 3, 4] [⟨5, 6, 41, (fe 0 ++ fe 0).map U64⟩] [6] mixed rfl (by kernel_rfl) (by kernel_rfl) (by kernel_rfl) (by kernel_rfl) (by kernel_rfl) (by kernel_rfl) (by decide) (by intro x hx; simp only [List.mem_cons, List.not_mem_nil, or_false] at hx; subst hx; exact isAlloc_mk rfl zv41 rfl) ?_
      refine lx_loada 3 rfl rfl Tryz.isAgg41 Tryz.sizeOf41 (by simp) rfl rfl ?_
      refine lx_loada 3 rfl rfl Tryz.isAgg41 Tryz.sizeOf41 (by simp) rfl rfl ?_
      refine lx_call rfl rfl ent55 (r5add _ _) rfl rfl ?_
      refine lx_loada 3 rfl rfl Tryz.isAgg41 Tryz.sizeOf41 (by simp) rfl rfl ?_
      refine lx_call rfl rfl ent55 (r5add _ _) rfl rfl ?_
      refine lx_nil ?_
      refine ⟨_, _, rfl, hGF, by intro x hx; simp only [List.mem_cons, List.not_mem_nil, or_false] at hx; subst hx; rfl, by intro x hx; simp only [List.mem_cons, List.not_mem_nil, or_false] at hx; subst hx; rfl, fun adr => ?_⟩
      refine lx_storea 6 hGF rfl rfl rfl Tryz.sizeOf41 (by simp) (by simp) (one_u64 _) rfl ?_
      refine lx_nil ?_
      refine xs_drawA (E := EE [2999999]) [0, 1, 2, 3, 4, 5, 6] [⟨7, 7, 41, (fe 0 ++ fe 0).map U64⟩] [8] mixed rfl (by kernel_rfl) (by kernel_rfl) (by kernel_rfl) (by kernel_rfl) (by kernel_rfl) (by kernel_rfl) (by decide) (by intro x hx; simp only [List.mem_cons, List.not_mem_nil, or_false] at hx; subst hx; exact isAlloc_mk rfl zv41 rfl) ?_
      refine lx_loada 6 rfl rfl Tryz.isAgg41 Tryz.sizeOf41 (by simp) rfl rfl ?_
      refine lx_loada 6 rfl rfl Tryz.isAgg41 Tryz.sizeOf41 (by simp) rfl rfl ?_
      refine lx_call rfl rfl ent54 (r5mul _ _) rfl rfl ?_
      refine lx_loada 5 rfl rfl Tryz.isAgg41 Tryz.sizeOf41 (by simp) rfl rfl ?_
      refine lx_call rfl rfl ent74 (r5subE _ _) rfl rfl ?_
      refine lx_loada 5 rfl rfl Tryz.isAgg41 Tryz.sizeOf41 (by simp) rfl rfl ?_
      refine lx_call rfl rfl ent74 (r5subE _ _) rfl rfl ?_
      refine lx_nil ?_
      refine ⟨_, _, rfl, hGF, by intro x hx; simp only [List.mem_cons, List.not_mem_nil, or_false] at hx; subst hx; rfl, by intro x hx; simp only [List.mem_cons, List.not_mem_nil, or_false] at hx; subst hx; rfl, fun adr => ?_⟩
      refine lx_storea 7 hGF rfl rfl rfl Tryz.sizeOf41 (by simp) (by simp) (one_u64 _) rfl ?_
      refine lx_nil ?_
      refine xs_plain (E := EE []) ?_
      refine lx_loada 4 rfl rfl Tryz.isAgg41 Tryz.sizeOf41 (by simp) rfl rfl ?_
      refine lx_loada 4 rfl rfl Tryz.isAgg41 Tryz.sizeOf41 (by simp) rfl rfl ?_
      refine lx_call rfl rfl ent54 (r5mul _ _) rfl rfl ?_
      refine lx_allocr 8 hGF zv41 rfl rfl ?_
      intro b8
      refine lx_storea 8 hGF rfl rfl rfl Tryz.sizeOf41 (by simp) (by simp) (one_u64 _) rfl ?_
      refine lx_nil ?_
      refine xs_plain (E := EE []) ?_
      refine lx_loada 8 rfl rfl Tryz.isAgg41 Tryz.sizeOf41 (by simp) rfl rfl ?_
      refine lx_loada 8 rfl rfl Tryz.isAgg41 Tryz.sizeOf41 (by simp) rfl rfl ?_
      refine lx_call rfl rfl ent55 (r5add _ _) rfl rfl ?_
      refine lx_storea 8 hGF rfl rfl rfl Tryz.sizeOf41 (by simp) (by simp) (one_u64 _) rfl ?_
      refine lx_nil ?_
      refine xs_plain (E := EE []) ?_
      refine lx_loada 8 rfl rfl Tryz.isAgg41 Tryz.sizeOf41 (by simp) rfl rfl ?_
      refine lx_loada 8 rfl rfl Tryz.isAgg41 Tryz.sizeOf41 (by simp) rfl rfl ?_
      refine lx_call rfl rfl ent55 (r5add _ _) rfl rfl ?_
      refine lx_storea 8 hGF rfl rfl rfl Tryz.sizeOf41 (by simp) (by simp) (one_u64 _) rfl ?_
      refine lx_nil ?_
      refine xs_plain (E := EE []) ?_
      refine lx_loada 8 rfl rfl Tryz.isAgg41 Tryz.sizeOf41 (by simp) rfl rfl ?_
      refine lx_loada 8 rfl rfl Tryz.isAgg41 Tryz.sizeOf41 (by simp) rfl rfl ?_
      refine lx_call rfl rfl ent55 (r5add _ _) rfl rfl ?_
      refine lx_storea 8 hGF rfl rfl rfl Tryz.sizeOf41 (by simp) (by simp) (one_u64 _) rfl ?_
      refine lx_nil ?_
      refine xs_plain (E := EE []) ?_
      refine lx_fak 12 rfl Tryz.underlying50 rfl Tryz.sizeOf41 (by decide) rfl rfl rfl ?_
      refine lx_loado 1 _ rfl rfl Tryz.isAgg41 Tryz.sizeOf41 (by simp) (ld_m (by simp)) rfl rfl ?_
      refine lx_fak 24 rfl Tryz.underlying50 rfl Tryz.sizeOf41 (by decide) rfl rfl rfl ?_
      refine lx_loado 1 _ rfl rfl Tryz.isAgg41 Tryz.sizeOf41 (by simp) (ld_rr (m := 12) (n := 12) (by simp) (by simp) rfl) rfl rfl ?_
      refine lx_call rfl rfl ent54 (r5mul _ _) rfl rfl ?_
      refine lx_allocr 9 hGF zv41 rfl rfl ?_
      intro b9
      refine lx_storea 9 hGF rfl rfl rfl Tryz.sizeOf41 (by simp) (by simp) (one_u64 _) rfl ?_
      refine lx_nil ?_
      refine xs_drawn (E := EE []) mixed (by kernel_rfl) (by kernel_rfl) (by kernel_rfl) ?_
      refine lx_loada 7 rfl rfl Tryz.isAgg41 Tryz.sizeOf41 (by simp) rfl rfl ?_
      refine lx_loada 6 rfl rfl Tryz.isAgg41 Tryz.sizeOf41 (by simp) rfl rfl ?_
      refine lx_loada 5 rfl rfl Tryz.isAgg41 Tryz.sizeOf41 (by simp) rfl rfl ?_
      refine lx_loada 7 rfl rfl Tryz.isAgg41 Tryz.sizeOf41 (by simp) rfl rfl ?_
      refine lx_call rfl rfl ent74 (r5subE _ _) rfl rfl ?_
      refine lx_call rfl rfl ent54 (r5mul _ _) rfl rfl ?_
      refine lx_loada 8 rfl rfl Tryz.isAgg41 Tryz.sizeOf41 (by simp) rfl rfl ?_
      refine lx_call rfl rfl ent74 (r5subE _ _) rfl rfl ?_
      refine lx_loada 9 rfl rfl Tryz.isAgg41 Tryz.sizeOf41 (by simp) rfl rfl ?_
      refine lx_loada 9 rfl rfl Tryz.isAgg41 Tryz.sizeOf41 (by simp) rfl rfl ?_
      refine lx_call rfl rfl ent55 (r5add _ _) rfl rfl ?_
      refine lx_three012 three50 rfl rfl rfl (by simp) (by simp) (by simp) rfl rfl ?_
      refine lx_storea 2 hGF rfl rfl rfl Tryz.sizeOf50 (by simp) (by simp) (one_u64 _) rfl ?_
      refine lx_nil ?_
      refine x_ret ?_
      repeat (first | refine kseq_ret ?_ | refine kblk_ret ?_)
      exact kret_own 2 rfl rfl rfl Tryz.isAgg50 Tryz.sizeOf50 (by simp) (fun w hw => ⟨rfl, hp_below hw⟩)
theorem r9add (x y : W6) : Pure Tryz.prog Gt 29 [EV6 x, EV6 y] (EV6 (E2w.jaF x y)) := by
  intro w hw
  have hGF : BOk Gt (pl w) := gt_low.plain hw
  by_cases h1 : x.2.2 = ze2
  · skip
    rw [show E2w.jaF x y = y from if_pos h1]
    refine calls_of_X (G := Gt) Tryz.func29 rfl rfl (Hp (pl w) []) (hp_refl (pl w) trivial rides_true) (good_hp hGF) ?_
    refine xs_plain (E := EE []) ?_
    refine lx_boxr 2 hGF rfl rfl rfl ?_
    intro b2
    refine lx_boxr 3 hGF rfl rfl rfl ?_
    intro b3
    refine lx_allocr 4 hGF zv50 rfl rfl ?_
    intro b4
    refine lx_nil ?_
    refine x_seq ?_
    refine xs_plain (E := EE []) ?_
    refine lx_loada 2 rfl rfl Tryz.isAgg50 Tryz.sizeOf50 (by simp) rfl rfl ?_
    refine lx_callB true rfl rfl ent34 (r9none _) (decide_eq_true h1) rfl rfl ?_
    refine lx_nil ?_
    refine x_true rfl ?_
    refine xs_plain (E := EE []) ?_
    refine lx_loada 3 rfl rfl Tryz.isAgg50 Tryz.sizeOf50 (by simp) rfl rfl ?_
    refine lx_storea 4 hGF rfl rfl rfl Tryz.sizeOf50 (by simp) (by simp) (one_u64 _) rfl ?_
    refine lx_nil ?_
    refine x_ret ?_
    repeat (first | refine kseq_ret ?_ | refine kblk_ret ?_)
    exact kret_own 4 rfl rfl rfl Tryz.isAgg50 Tryz.sizeOf50 (by simp) (fun w hw => ⟨rfl, hp_below hw⟩)
  · skip
    by_cases h2 : y.2.2 = ze2
    · skip
      rw [show E2w.jaF x y = x from (if_neg h1).trans (if_pos h2)]
      refine calls_of_X (G := Gt) Tryz.func29 rfl rfl (Hp (pl w) []) (hp_refl (pl w) trivial rides_true) (good_hp hGF) ?_
      refine xs_plain (E := EE []) ?_
      refine lx_boxr 2 hGF rfl rfl rfl ?_
      intro b2
      refine lx_boxr 3 hGF rfl rfl rfl ?_
      intro b3
      refine lx_allocr 4 hGF zv50 rfl rfl ?_
      intro b4
      refine lx_nil ?_
      refine x_seq ?_
      refine xs_plain (E := EE []) ?_
      refine lx_loada 2 rfl rfl Tryz.isAgg50 Tryz.sizeOf50 (by simp) rfl rfl ?_
      refine lx_callB false rfl rfl ent34 (r9none _) (decide_eq_false h1) rfl rfl ?_
      refine lx_nil ?_
      refine x_false rfl ?_
      refine x_skip ?_
      refine x_seq ?_
      refine xs_plain (E := EE []) ?_
      refine lx_loada 3 rfl rfl Tryz.isAgg50 Tryz.sizeOf50 (by simp) rfl rfl ?_
      refine lx_callB true rfl rfl ent34 (r9none _) (decide_eq_true h2) rfl rfl ?_
      refine lx_nil ?_
      refine x_true rfl ?_
      refine xs_plain (E := EE []) ?_
      refine lx_loada 2 rfl rfl Tryz.isAgg50 Tryz.sizeOf50 (by simp) rfl rfl ?_
      refine lx_storea 4 hGF rfl rfl rfl Tryz.sizeOf50 (by simp) (by simp) (one_u64 _) rfl ?_
      refine lx_nil ?_
      refine x_ret ?_
      repeat (first | refine kseq_ret ?_ | refine kblk_ret ?_)
      exact kret_own 4 rfl rfl rfl Tryz.isAgg50 Tryz.sizeOf50 (by simp) (fun w hw => ⟨rfl, hp_below hw⟩)
    · skip
      by_cases h3 : E2w.jh x.1 x.2.2 y.1 y.2.2 = ze2
      · skip
        by_cases h4 : E2w.jq x.2.1 x.2.2 y.2.1 y.2.2 = ze2
        · skip
          rw [show E2w.jaF x y = E2w.jdF x from (if_neg h1).trans ((if_neg h2).trans ((if_pos h3).trans (if_pos h4)))]
          refine calls_of_X (G := Gt) Tryz.func29 rfl rfl (Hp (pl w) []) (hp_refl (pl w) trivial rides_true) (good_hp hGF) ?_
          refine xs_plain (E := EE []) ?_
          refine lx_boxr 2 hGF rfl rfl rfl ?_
          intro b2
          refine lx_boxr 3 hGF rfl rfl rfl ?_
          intro b3
          refine lx_allocr 4 hGF zv50 rfl rfl ?_
          intro b4
          refine lx_nil ?_
          refine x_seq ?_
          refine xs_plain (E := EE []) ?_
          refine lx_loada 2 rfl rfl Tryz.isAgg50 Tryz.sizeOf50 (by simp) rfl rfl ?_
          refine lx_callB false rfl rfl ent34 (r9none _) (decide_eq_false h1) rfl rfl ?_
          refine lx_nil ?_
          refine x_false rfl ?_
          refine x_skip ?_
          refine x_seq ?_
          refine xs_plain (E := EE []) ?_
          refine lx_loada 3 rfl rfl Tryz.isAgg50 Tryz.sizeOf50 (by simp) rfl rfl ?_
          refine lx_callB false rfl rfl ent34 (r9none _) (decide_eq_false h2) rfl rfl ?_
          refine lx_nil ?_
          refine x_false rfl ?_
          refine x_skip ?_
          refine xs_drawA (E := EE [2999999]) [0, 1, 2, 3, 4, 5, 6, 7, 8, 9] [⟨10, 5, 41, (fe 0 ++ fe 0).map U64⟩, ⟨11, 6, 41, (fe 0 ++ fe 0).map U64⟩] [12, 13] mixed rfl (by kernel_rfl) (by kernel_rfl) (by kernel_rfl) (by kernel_rfl) (by kernel_rfl) (by kernel_rfl) (by decide) (by intro x hx; simp only [List.mem_cons, List.not_mem_nil, or_false] at hx; rcases hx with rfl | rfl <;> exact isAlloc_mk rfl zv41 rfl) ?_
          refine lx_fak 24 rfl Tryz.underlying50 rfl Tryz.sizeOf41 (by decide) rfl rfl rfl ?_
          refine lx_loado 2 _ rfl rfl Tryz.isAgg41 Tryz.sizeOf41 (by simp) (ld_rr (m := 12) (n := 12) (by simp) (by simp) rfl) rfl rfl ?_
          refine lx_fak 24 rfl Tryz.underlying50 rfl Tryz.sizeOf41 (by decide) rfl rfl rfl ?_
          refine lx_loado 2 _ rfl rfl Tryz.isAgg41 Tryz.sizeOf41 (by simp) (ld_rr (m := 12) (n := 12) (by simp) (by simp) rfl) rfl rfl ?_
          refine lx_call rfl rfl ent54 (r5mul _ _) rfl rfl ?_
          refine lx_fak 24 rfl Tryz.underlying50 rfl Tryz.sizeOf41 (by decide) rfl rfl rfl ?_
          refine lx_loado 3 _ rfl rfl Tryz.isAgg41 Tryz.sizeOf41 (by simp) (ld_rr (m := 12) (n := 12) (by simp) (by simp) rfl) rfl rfl ?_
          refine lx_fak 24 rfl Tryz.underlying50 rfl Tryz.sizeOf41 (by decide) rfl rfl rfl ?_
          refine lx_loado 3 _ rfl rfl Tryz.isAgg41 Tryz.sizeOf41 (by simp) (ld_rr (m := 12) (n := 12) (by simp) (by simp) rfl) rfl rfl ?_
          refine lx_call rfl rfl ent54 (r5mul _ _) rfl rfl ?_
          refine lx_nil ?_
          refine ⟨_, _, rfl, hGF, by intro x hx; simp only [List.mem_cons, List.not_mem_nil, or_false] at hx; rcases hx with rfl | rfl <;> rfl, by intro x hx; simp only [List.mem_cons, List.not_mem_nil, or_false] at hx; rcases hx with rfl | rfl <;> rfl, fun adr => ?_⟩
          refine lx_storea 5 hGF rfl rfl rfl Tryz.sizeOf41 (by simp) (by simp) (one_u64 _) rfl ?_
          refine lx_storea 6 hGF rfl rfl rfl Tryz.sizeOf41 (by simp) (by simp) (one_u64 _) rfl ?_
          refine lx_nil ?_
          refine xs_drawA (E := EE [2999999]) [0, 1, 2, 3, 4, 5, 6, 7] [⟨8, 7, 41, (fe 0 ++ fe 0).map U64⟩, ⟨9, 8, 41, (fe 0 ++ fe 0).map U64⟩] [10, 11] mixed rfl (by kernel_rfl) (by kernel_rfl) (by kernel_rfl) (by kernel_rfl) (by kernel_rfl) (by kernel_rfl) (by decide) (by intro x hx; simp only [List.mem_cons, List.not_mem_nil, or_false] at hx; rcases hx with rfl | rfl <;> exact isAlloc_mk rfl zv41 rfl) ?_
          refine lx_fak 0 rfl Tryz.underlying50 rfl Tryz.sizeOf41 (by decide) rfl rfl rfl ?_
          refine lx_loado 2 _ rfl rfl Tryz.isAgg41 Tryz.sizeOf41 (by simp) ld_l rfl rfl ?_
          refine lx_loada 6 rfl rfl Tryz.isAgg41 Tryz.sizeOf41 (by simp) rfl rfl ?_
          refine lx_call rfl rfl ent54 (r5mul _ _) rfl rfl ?_
          refine lx_fak 0 rfl Tryz.underlying50 rfl Tryz.sizeOf41 (by decide) rfl rfl rfl ?_
          refine lx_loado 3 _ rfl rfl Tryz.isAgg41 Tryz.sizeOf41 (by simp) ld_l rfl rfl ?_
          refine lx_loada 5 rfl rfl Tryz.isAgg41 Tryz.sizeOf41 (by simp) rfl rfl ?_
          refine lx_call rfl rfl ent54 (r5mul _ _) rfl rfl ?_
          refine lx_nil ?_
          refine ⟨_, _, rfl, hGF, by intro x hx; simp only [List.mem_cons, List.not_mem_nil, or_false] at hx; rcases hx with rfl | rfl <;> rfl, by intro x hx; simp only [List.mem_cons, List.not_mem_nil, or_false] at hx; rcases hx with rfl | rfl <;> rfl, fun adr => ?_⟩
          refine lx_storea 7 hGF rfl rfl rfl Tryz.sizeOf41 (by simp) (by simp) (one_u64 _) rfl ?_
          refine lx_storea 8 hGF rfl rfl rfl Tryz.sizeOf41 (by simp) (by simp) (one_u64 _) rfl ?_
          refine lx_nil ?_
          refine xs_drawA (E := EE [2999999]) [0, 1, 2, 3, 4, 5, 6, 7, 8, 9, 10, 11, 12, 13] [⟨14, 9, 41, (fe 0 ++ fe 0).map U64⟩, ⟨15, 10, 41, (fe 0 ++ fe 0).map U64⟩] [16, 17] mixed rfl (by kernel_rfl) (by kernel_rfl) (by kernel_rfl) (by kernel_rfl) (by kernel_rfl) (by kernel_rfl) (by decide) (by intro x hx; simp only [List.mem_cons, List.not_mem_nil, or_false] at hx; rcases hx with rfl | rfl <;> exact isAlloc_mk rfl zv41 rfl) ?_
          refine lx_fak 12 rfl Tryz.underlying50 rfl Tryz.sizeOf41 (by decide) rfl rfl rfl ?_
          refine lx_loado 2 _ rfl rfl Tryz.isAgg41 Tryz.sizeOf41 (by simp) (ld_m (by simp)) rfl rfl ?_
          refine lx_loada 6 rfl rfl Tryz.isAgg41 Tryz.sizeOf41 (by simp) rfl rfl ?_
          refine lx_call rfl rfl ent54 (r5mul _ _) rfl rfl ?_
          refine lx_fak 24 rfl Tryz.underlying50 rfl Tryz.sizeOf41 (by decide) rfl rfl rfl ?_
          refine lx_loado 3 _ rfl rfl Tryz.isAgg41 Tryz.sizeOf41 (by simp) (ld_rr (m := 12) (n := 12) (by simp) (by simp) rfl) rfl rfl ?_
          refine lx_call rfl rfl ent54 (r5mul _ _) rfl rfl ?_
          refine lx_fak 12 rfl Tryz.underlying50 rfl Tryz.sizeOf41 (by decide) rfl rfl rfl ?_
          refine lx_loado 3 _ rfl rfl Tryz.isAgg41 Tryz.sizeOf41 (by simp) (ld_m (by simp)) rfl rfl ?_
          refine lx_loada 5 rfl rfl Tryz.isAgg41 Tryz.sizeOf41 (by simp) rfl rfl ?_
          refine lx_call rfl rfl ent54 (r5mul _ _) rfl rfl ?_
          refine lx_fak 24 rfl Tryz.underlying50 rfl Tryz.sizeOf41 (by decide) rfl rfl rfl ?_
          refine lx_loado 2 _ rfl rfl Tryz.isAgg41 Tryz.sizeOf41 (by simp) (ld_rr (m := 12) (n := 12) (by simp) (by simp) rfl) rfl rfl ?_
          refine lx_call rfl rfl ent54 (r5mul _ _) rfl rfl ?_
          refine lx_nil ?_
          refine ⟨_, _, rfl, hGF, by intro x hx; simp only [List.mem_cons, List.not_mem_nil, or_false] at hx; rcases hx with rfl | rfl <;> rfl, by intro x hx; simp only [List.mem_cons, List.not_mem_nil, or_false] at hx; rcases hx with rfl | rfl <;> rfl, fun adr => ?_⟩
          refine lx_storea 9 hGF rfl rfl rfl Tryz.sizeOf41 (by simp) (by simp) (one_u64 _) rfl ?_
          refine lx_storea 10 hGF rfl rfl rfl Tryz.sizeOf41 (by simp) (by simp) (one_u64 _) rfl ?_
          refine lx_nil ?_
          refine xs_drawA (E := EE [2999999]) [0, 1, 2, 3, 4, 5] [⟨6, 11, 41, (fe 0 ++ fe 0).map U64⟩, ⟨7, 12, 41, (fe 0 ++ fe 0).map U64⟩] [8, 9] mixed rfl (by kernel_rfl) (by kernel_rfl) (by kernel_rfl) (by kernel_rfl) (by kernel_rfl) (by kernel_rfl) (by decide) (by intro x hx; simp only [List.mem_cons, List.not_mem_nil, or_false] at hx; rcases hx with rfl | rfl <;> exact isAlloc_mk rfl zv41 rfl) ?_
          refine lx_loada 8 rfl rfl Tryz.isAgg41 Tryz.sizeOf41 (by simp) rfl rfl ?_
          refine lx_loada 7 rfl rfl Tryz.isAgg41 Tryz.sizeOf41 (by simp) rfl rfl ?_
          refine lx_call rfl rfl ent74 (r5subE _ _) rfl rfl ?_
          refine lx_loada 10 rfl rfl Tryz.isAgg41 Tryz.sizeOf41 (by simp) rfl rfl ?_
          refine lx_loada 9 rfl rfl Tryz.isAgg41 Tryz.sizeOf41 (by simp) rfl rfl ?_
          refine lx_call rfl rfl ent74 (r5subE _ _) rfl rfl ?_
          refine lx_nil ?_
          refine ⟨_, _, rfl, hGF, by intro x hx; simp only [List.mem_cons, List.not_mem_nil, or_false] at hx; rcases hx with rfl | rfl <;> rfl, by intro x hx; simp only [List.mem_cons, List.not_mem_nil, or_false] at hx; rcases hx with rfl | rfl <;> rfl, fun adr => ?_⟩
          refine lx_storea 11 hGF rfl rfl rfl Tryz.sizeOf41 (by simp) (by simp) (one_u64 _) rfl ?_
          refine lx_storea 12 hGF rfl rfl rfl Tryz.sizeOf41 (by simp) (by simp) (one_u64 _) rfl ?_
          refine lx_nil ?_
          refine x_seq ?_
          refine xs_plain (E := EE []) ?_
          refine lx_loada 11 rfl rfl Tryz.isAgg41 Tryz.sizeOf41 (by simp) rfl rfl ?_
          refine lx_callB true rfl rfl ent75 (r5isZero _) (decide_eq_true h3) rfl rfl ?_
          refine lx_nil ?_
          refine x_true rfl ?_
          refine x_seq ?_
          refine xs_plain (E := EE []) ?_
          refine lx_loada 12 rfl rfl Tryz.isAgg41 Tryz.sizeOf41 (by simp) rfl rfl ?_
          refine lx_callB true rfl rfl ent75 (r5isZero _) (decide_eq_true h4) rfl rfl ?_
          refine lx_nil ?_
          refine x_true rfl ?_
          refine xs_plain (E := EE []) ?_
          refine lx_loada 2 rfl rfl Tryz.isAgg50 Tryz.sizeOf50 (by simp) rfl rfl ?_
          refine lx_call rfl rfl ent31 (r9double _) rfl rfl ?_
          refine lx_storea 4 hGF rfl rfl rfl Tryz.sizeOf50 (by simp) (by simp) (one_u64 _) rfl ?_
          refine lx_nil ?_
          refine x_ret ?_
          repeat (first | refine kseq_ret ?_ | refine kblk_ret ?_)
          exact kret_own 4 rfl rfl rfl Tryz.isAgg50 Tryz.sizeOf50 (by simp) (fun w hw => ⟨rfl, hp_below hw⟩)
        · skip
          rw [show E2w.jaF x y = (ze2, ze2, ze2) from (if_neg h1).trans ((if_neg h2).trans ((if_pos h3).trans (if_neg h4)))]
          refine calls_of_X (G := Gt) Tryz.func29 rfl rfl (Hp (pl w) []) (hp_refl (pl w) trivial rides_true) (good_hp hGF) ?_
          refine xs_plain (E := EE []) ?_
          refine lx_boxr 2 hGF rfl rfl rfl ?_
          intro b2
          refine lx_boxr 3 hGF rfl rfl rfl ?_
          intro b3
          refine lx_allocr 4 hGF zv50 rfl rfl ?_
          intro b4
          refine lx_nil ?_
          refine x_seq ?_
          refine xs_plain (E := EE []) ?_
          refine lx_loada 2 rfl rfl Tryz.isAgg50 Tryz.sizeOf50 (by simp) rfl rfl ?_
          refine lx_callB false rfl rfl ent34 (r9none _) (decide_eq_false h1) rfl rfl ?_
          refine lx_nil ?_
          refine x_false rfl ?_
          refine x_skip ?_
          refine x_seq ?_
          refine xs_plain (E := EE []) ?_
          refine lx_loada 3 rfl rfl Tryz.isAgg50 Tryz.sizeOf50 (by simp) rfl rfl ?_
          refine lx_callB false rfl rfl ent34 (r9none _) (decide_eq_false h2) rfl rfl ?_
          refine lx_nil ?_
          refine x_false rfl ?_
          refine x_skip ?_
          refine xs_drawA (E := EE [2999999]) [0, 1, 2, 3, 4, 5, 6, 7, 8, 9] [⟨10, 5, 41, (fe 0 ++ fe 0).map U64⟩, ⟨11, 6, 41, (fe 0 ++ fe 0).map U64⟩] [12, 13] mixed rfl (by kernel_rfl) (by kernel_rfl) (by kernel_rfl) (by kernel_rfl) (by kernel_rfl) (by kernel_rfl) (by decide) (by intro x hx; simp only [List.mem_cons, List.not_mem_nil, or_false] at hx; rcases hx with rfl | rfl <;> exact isAlloc_mk rfl zv41 rfl) ?_
          refine lx_fak 24 rfl Tryz.underlying50 rfl Tryz.sizeOf41 (by decide) rfl rfl rfl ?_
          refine lx_loado 2 _ rfl rfl Tryz.isAgg41 Tryz.sizeOf41 (by simp) (ld_rr (m := 12) (n := 12) (by simp) (by simp) rfl) rfl rfl ?_
          refine lx_fak 24 rfl Tryz.underlying50 rfl Tryz.sizeOf41 (by decide) rfl rfl rfl ?_
          refine lx_loado 2 _ rfl rfl Tryz.isAgg41 Tryz.sizeOf41 (by simp) (ld_rr (m := 12) (n := 12) (by simp) (by simp) rfl) rfl rfl ?_
          refine lx_call rfl rfl ent54 (r5mul _ _) rfl rfl ?_
          refine lx_fak 24 rfl Tryz.underlying50 rfl Tryz.sizeOf41 (by decide) rfl rfl rfl ?_
          refine lx_loado 3 _ rfl rfl Tryz.isAgg41 Tryz.sizeOf41 (by simp) (ld_rr (m := 12) (n := 12) (by simp) (by simp) rfl) rfl rfl ?_
          refine lx_fak 24 rfl Tryz.underlying50 rfl Tryz.sizeOf41 (by decide) rfl rfl rfl ?_
          refine lx_loado 3 _ rfl rfl Tryz.isAgg41 Tryz.sizeOf41 (by simp) (ld_rr (m := 12) (n := 12) (by simp) (by simp) rfl) rfl rfl ?_
          refine lx_call rfl rfl ent54 (r5mul _ _) rfl rfl ?_
          refine lx_nil ?_
          refine ⟨_, _, rfl, hGF, by intro x hx; simp only [List.mem_cons, List.not_mem_nil, or_false] at hx; rcases hx with rfl | rfl <;> rfl, by intro x hx; simp only [List.mem_cons, List.not_mem_nil, or_false] at hx; rcases hx with rfl | rfl <;> rfl, fun adr => ?_⟩
          refine lx_storea 5 hGF rfl rfl rfl Tryz.sizeOf41 (by simp) (by simp) (one_u64 _) rfl ?_
          refine lx_storea 6 hGF rfl rfl rfl Tryz.sizeOf41 (by simp) (by simp) (one_u64 _) rfl ?_
          refine lx_nil ?_
          refine xs_drawA (E := EE [2999999]) [0, 1, 2, 3, 4, 5, 6, 7] [⟨8, 7, 41, (fe 0 ++ fe 0).map U64⟩, ⟨9, 8, 41, (fe 0 ++ fe 0).map U64⟩] [10, 11] mixed rfl (by kernel_rfl) (by kernel_rfl) (by kernel_rfl) (by kernel_rfl) (by kernel_rfl) (by kernel_rfl) (by decide) (by intro x hx; simp only [List.mem_cons, List.not_mem_nil, or_false] at hx; rcases hx with rfl | rfl <;> exact isAlloc_mk rfl zv41 rfl) ?_
          refine lx_fak 0 rfl Tryz.underlying50 rfl Tryz.sizeOf41 (by decide) rfl rfl rfl ?_
          refine lx_loado 2 _ rfl rfl Tryz.isAgg41 Tryz.sizeOf41 (by simp) ld_l rfl rfl ?_
          refine lx_loada 6 rfl rfl Tryz.isAgg41 Tryz.sizeOf41 (by simp) rfl rfl ?_
          refine lx_call rfl rfl ent54 (r5mul _ _) rfl rfl ?_
          refine lx_fak 0 rfl Tryz.underlying50 rfl Tryz.sizeOf41 (by decide) rfl rfl rfl ?_
          refine lx_loado 3 _ rfl rfl Tryz.isAgg41 Tryz.sizeOf41 (by simp) ld_l rfl rfl ?_
          refine lx_loada 5 rfl rfl Tryz.isAgg41 Tryz.sizeOf41 (by simp) rfl rfl ?_
          refine lx_call rfl rfl ent54 (r5mul _ _) rfl rfl ?_
          refine lx_nil ?_
          refine ⟨_, _, rfl, hGF, by intro x hx; simp only [List.mem_cons, List.not_mem_nil, or_false] at hx; rcases hx with rfl | rfl <;> rfl, by intro x hx; simp only [List.mem_cons, List.not_mem_nil, or_false] at hx; rcases hx with rfl | rfl <;> rfl, fun adr => ?_⟩
          refine lx_storea 7 hGF rfl rfl rfl Tryz.sizeOf41 (by simp) (by simp) (one_u64 _) rfl ?_
          refine lx_storea 8 hGF rfl rfl rfl Tryz.sizeOf41 (by simp) (by simp) (one_u64 _) rfl ?_
          refine lx_nil ?_
          refine xs_drawA (E := EE [2999999]) [0, 1, 2, 3, 4, 5, 6, 7, 8, 9, 10, 11, 12, 13] [⟨14, 9, 41, (fe 0 ++ fe 0).map U64⟩, ⟨15, 10, 41, (fe 0 ++ fe 0).map U64⟩] [16, 17] mixed rfl (by kernel_rfl) (by kernel_rfl) (by kernel_rfl) (by kernel_rfl) (by kernel_rfl) (by kernel_rfl) (by decide) (by intro x hx; simp only [List.mem_cons, List.not_mem_nil, or_false] at hx; rcases hx with rfl | rfl <;> exact isAlloc_mk rfl zv41 rfl) ?_
          refine lx_fak 12 rfl Tryz.underlying50 rfl Tryz.sizeOf41 (by decide) rfl rfl rfl ?_
          refine lx_loado 2 _ rfl rfl Tryz.isAgg41 Tryz.sizeOf41 (by simp) (ld_m (by simp)) rfl rfl ?_
          refine lx_loada 6 rfl rfl Tryz.isAgg41 Tryz.sizeOf41 (by simp) rfl rfl ?_
          refine lx_call rfl rfl ent54 (r5mul _ _) rfl rfl ?_
          refine lx_fak 24 rfl Tryz.underlying50 rfl Tryz.sizeOf41 (by decide) rfl rfl rfl ?_
          refine lx_loado 3 _ rfl rfl Tryz.isAgg41 Tryz.sizeOf41 (by simp) (ld_rr (m := 12) (n := 12) (by simp) (by simp) rfl) rfl rfl ?_
          refine lx_call rfl rfl ent54 (r5mul _ _) rfl rfl ?_
          refine lx_fak 12 rfl Tryz.underlying50 rfl Tryz.sizeOf41 (by decide) rfl rfl rfl ?_
          refine lx_loado 3 _ rfl rfl Tryz.isAgg41 Tryz.sizeOf41 (by simp) (ld_m (by simp)) rfl rfl ?_
          refine lx_loada 5 rfl rfl Tryz.isAgg41 Tryz.sizeOf41 (by simp) rfl rfl ?_
          refine lx_call rfl rfl ent54 (r5mul _ _) rfl rfl ?_
          refine lx_fak 24 rfl Tryz.underlying50 rfl Tryz.sizeOf41 (by decide) rfl rfl rfl ?_
          refine lx_loado 2 _ rfl rfl Tryz.isAgg41 Tryz.sizeOf41 (by simp) (ld_rr (m := 12) (n := 12) (by simp) (by simp) rfl) rfl rfl ?_
          refine lx_call rfl rfl ent54 (r5mul _ _) rfl rfl ?_
          refine lx_nil ?_
          refine ⟨_, _, rfl, hGF, by intro x hx; simp only [List.mem_cons, List.not_mem_nil, or_false] at hx; rcases hx with rfl | rfl <;> rfl, by intro x hx; simp only [List.mem_cons, List.not_mem_nil, or_false] at hx; rcases hx with rfl | rfl <;> rfl, fun adr => ?_⟩
          refine lx_storea 9 hGF rfl rfl rfl Tryz.sizeOf41 (by simp) (by simp) (one_u64 _) rfl ?_
          refine lx_storea 10 hGF rfl rfl rfl Tryz.sizeOf41 (by simp) (by simp) (one_u64 _) rfl ?_
          refine lx_nil ?_
          refine xs_drawA (E := EE [2999999]) [0, 1, 2, 3, 4, 5] [⟨6, 11, 41, (fe 0 ++ fe 0).map U64⟩, ⟨7, 12, 41, (fe 0 ++ fe 0).map U64⟩] [8, 9] mixed rfl (by kernel_rfl) (by kernel_rfl) (by kernel_rfl) (by kernel_rfl) (by kernel_rfl) (by kernel_rfl) (by decide) (by intro x hx; simp only [List.mem_cons, List.not_mem_nil, or_false] at hx; rcases hx with rfl | rfl <;> exact isAlloc_mk rfl zv41 rfl) ?_
          refine lx_loada 8 rfl rfl Tryz.isAgg41 Tryz.sizeOf41 (by simp) rfl rfl ?_
          refine lx_loada 7 rfl rfl Tryz.isAgg41 Tryz.sizeOf41 (by simp) rfl rfl ?_
          refine lx_call rfl rfl ent74 (r5subE _ _) rfl rfl ?_
          refine lx_loada 10 rfl rfl Tryz.isAgg41 Tryz.sizeOf41 (by simp) rfl rfl ?_
          refine lx_loada 9 rfl rfl Tryz.isAgg41 Tryz.sizeOf41 (by simp) rfl rfl ?_
          refine lx_call rfl rfl ent74 (r5subE _ _) rfl rfl ?_
          refine lx_nil ?_
          refine ⟨_, _, rfl, hGF, by intro x hx; simp only [List.mem_cons, List.not_mem_nil, or_false] at hx; rcases hx with rfl | rfl <;> rfl, by intro x hx; simp only [List.mem_cons, List.not_mem_nil, or_false] at hx; rcases hx with rfl | rfl <;> rfl, fun adr => ?_⟩
          refine lx_storea 11 hGF rfl rfl rfl Tryz.sizeOf41 (by simp) (by simp) (one_u64 _) rfl ?_
          refine lx_storea 12 hGF rfl rfl rfl Tryz.sizeOf41 (by simp) (by simp) (one_u64 _) rfl ?_
          refine lx_nil ?_
          refine x_seq ?_
          refine xs_plain (E := EE []) ?_
          refine lx_loada 11 rfl rfl Tryz.isAgg41 Tryz.sizeOf41 (by simp) rfl rfl ?_
          refine lx_callB true rfl rfl ent75 (r5isZero _) (decide_eq_true h3) rfl rfl ?_
          refine lx_nil ?_
          refine x_true rfl ?_
          refine x_seq ?_
          refine xs_plain (E := EE []) ?_
          refine lx_loada 12 rfl rfl Tryz.isAgg41 Tryz.sizeOf41 (by simp) rfl rfl ?_
          refine lx_callB false rfl rfl ent75 (r5isZero _) (decide_eq_false h4) rfl rfl ?_
          refine lx_nil ?_
          refine x_false rfl ?_
          refine x_skip ?_
          refine xs_plain (E := EE []) ?_
          refine lx_threeN three50 rfl rfl ?_
          refine lx_storea 4 hGF rfl rfl rfl Tryz.sizeOf50 (by simp) (by simp) (one_u64 _) rfl ?_
          refine lx_nil ?_
          refine x_ret ?_
          repeat (first | refine kseq_ret ?_ | refine kblk_ret ?_)
          exact kret_own 4 rfl rfl rfl Tryz.isAgg50 Tryz.sizeOf50 (by simp) (fun w hw => ⟨rfl, hp_below hw⟩)
      · skip
        rw [show E2w.jaF x y = E2w.ja x.1 x.2.1 x.2.2 y.1 y.2.1 y.2.2 from (if_neg h1).trans ((if_neg h2).trans (if_neg h3))]
        refine calls_of_X (G := Gt) Tryz.func29 rfl rfl (Hp (pl w) []) (hp_refl (pl w) trivial rides_true) (good_hp hGF) ?_
        refine xs_plain (E := EE []) ?_
        refine lx_boxr 2 hGF rfl rfl rfl ?_
        intro b2
        refine lx_boxr 3 hGF rfl rfl rfl ?_
        intro b3
        refine lx_allocr 4 hGF zv50 rfl rfl ?_
        intro b4
        refine lx_nil ?_
        refine x_seq ?_
        refine xs_plain (E := EE []) ?_
        refine lx_loada 2 rfl rfl Tryz.isAgg50 Tryz.sizeOf50 (by simp) rfl rfl ?_
        refine lx_callB false rfl rfl ent34 (r9none _) (decide_eq_false h1) rfl rfl ?_
        refine lx_nil ?_
        refine x_false rfl ?_
        refine x_skip ?_
        refine x_seq ?_
        refine xs_plain (E := EE []) ?_
        refine lx_loada 3 rfl rfl Tryz.isAgg50 Tryz.sizeOf50 (by simp) rfl rfl ?_
        refine lx_callB false rfl rfl ent34 (r9none _) (decide_eq_false h2) rfl rfl ?_
        refine lx_nil ?_
        refine x_false rfl ?_
        refine x_skip ?_
        refine xs_drawA (E := EE [2999999]) [0, 1, 2, 3, 4, 5, 6, 7, 8, 9] [⟨10, 5, 41, (fe 0 ++ fe 0).map U64⟩, ⟨11, 6, 41, (fe 0 ++ fe 0).map U64⟩] [12, 13] mixed rfl (by kernel_rfl) (by kernel_rfl) (by kernel_rfl) (by kernel_rfl) (by kernel_rfl) (by kernel_rfl) (by decide) (by intro x hx; simp only [List.mem_cons, List.not_mem_nil, or_false] at hx; rcases hx with rfl | rfl <;> exact isAlloc_mk rfl zv41 rfl) ?_
        refine lx_fak 24 rfl Tryz.underlying50 rfl Tryz.sizeOf41 (by decide) rfl rfl rfl ?_
        refine lx_loado 2 _ rfl rfl Tryz.isAgg41 Tryz.sizeOf41 (by simp) (ld_rr (m := 12) (n := 12) (by simp) (by simp) rfl) rfl rfl ?_
        refine lx_fak 24 rfl Tryz.underlying50 rfl Tryz.sizeOf41 (by decide) rfl rfl rfl ?_
        refine lx_loado 2 _ rfl rfl Tryz.isAgg41 Tryz.sizeOf41 (by simp) (ld_rr (m := 12) (n := 12) (by simp) (by simp) rfl) rfl rfl ?_
        refine lx_call rfl rfl ent54 (r5mul _ _) rfl rfl ?_
        refine lx_fak 24 rfl Tryz.underlying50 rfl Tryz.sizeOf41 (by decide) rfl rfl rfl ?_
        refine lx_loado 3 _ rfl rfl Tryz.isAgg41 Tryz.sizeOf41 (by simp) (ld_rr (m := 12) (n := 12) (by simp) (by simp) rfl) rfl rfl ?_
        refine lx_fak 24 rfl Tryz.underlying50 rfl Tryz.sizeOf41 (by decide) rfl rfl rfl ?_
        refine lx_loado 3 _ rfl rfl Tryz.isAgg41 Tryz.sizeOf41 (by simp) (ld_rr (m := 12) (n := 12) (by simp) (by simp) rfl) rfl rfl ?_
        refine lx_call rfl rfl ent54 (r5mul _ _) rfl rfl ?_
        refine lx_nil ?_
        refine ⟨_, _, rfl, hGF, by intro x hx; simp only [List.mem_cons, List.not_mem_nil, or_false] at hx; rcases hx with rfl | rfl <;> rfl, by intro x hx; simp only [List.mem_cons, List.not_mem_nil, or_false] at hx; rcases hx with rfl | rfl <;> rfl, fun adr => ?_⟩
        refine lx_storea 5 hGF rfl rfl rfl Tryz.sizeOf41 (by simp) (by simp) (one_u64 _) rfl ?_
        refine lx_storea 6 hGF rfl rfl rfl Tryz.sizeOf41 (by simp) (by simp) (one_u64 _) rfl ?_
        refine lx_nil ?_
        refine xs_drawA (E := EE [2999999]) [0, 1, 2, 3, 4, 5, 6, 7] [⟨8, 7, 41, (fe 0 ++ fe 0).map U64⟩, ⟨9, 8, 41, (fe 0 ++ fe 0).map U64⟩] [10, 11] mixed rfl (by kernel_rfl) (by kernel_rfl) (by kernel_rfl) (by kernel_rfl) (by kernel_rfl) (by kernel_rfl) (by decide) (by intro x hx; simp only [List.mem_cons, List.not_mem_nil, or_false] at hx; rcases hx with rfl | rfl <;> exact isAlloc_mk rfl zv41 rfl) ?_
        refine lx_fak 0 rfl Tryz.underlying50 rfl Tryz.sizeOf41 (by decide) rfl rfl rfl ?_
        refine lx_loado 2 _ rfl rfl Tryz.isAgg41 Tryz.sizeOf41 (by simp) ld_l rfl rfl ?_
        refine lx_loada 6 rfl rfl Tryz.isAgg41 Tryz.sizeOf41 (by simp) rfl rfl ?_
        refine lx_call rfl rfl ent54 (r5mul _ _) rfl rfl ?_
        refine lx_fak 0 rfl Tryz.underlying50 rfl Tryz.sizeOf41 (by decide) rfl rfl rfl ?_
        refine lx_loado 3 _ rfl rfl Tryz.isAgg41 Tryz.sizeOf41 (by simp) ld_l rfl rfl ?_
        refine lx_loada 5 rfl rfl Tryz.isAgg41 Tryz.sizeOf41 (by simp) rfl rfl ?_
        refine lx_call rfl rfl ent54 (r5mul _ _) rfl rfl ?_
        refine lx_nil ?_
        refine ⟨_, _, rfl, hGF, by intro x hx; simp only [List.mem_cons, List.not_mem_nil, or_false] at hx; rcases hx with rfl | rfl <;> rfl, by intro x hx; simp only [List.mem_cons, List.not_mem_nil, or_false] at hx; rcases hx with rfl | rfl <;> rfl, fun adr => ?_⟩
        refine lx_storea 7 hGF rfl rfl rfl Tryz.sizeOf41 (by simp) (by simp) (one_u64 _) rfl ?_
        refine lx_storea 8 hGF rfl rfl rfl Tryz.sizeOf41 (by simp) (by simp) (one_u64 _) rfl ?_
        refine lx_nil ?_
        refine xs_drawA (E := EE [2999999]) [0, 1, 2, 3, 4, 5, 6, 7, 8, 9, 10, 11, 12, 13] [⟨14, 9, 41, (fe 0 ++ fe 0).map U64⟩, ⟨15, 10, 41, (fe 0 ++ fe 0).map U64⟩] [16, 17] mixed rfl (by kernel_rfl) (by kernel_rfl) (by kernel_rfl) (by kernel_rfl) (by kernel_rfl) (by kernel_rfl) (by decide) (by intro x hx; simp only [List.mem_cons, List.not_mem_nil, or_false] at hx; rcases hx with rfl | rfl <;> exact isAlloc_mk rfl zv41 rfl) ?_
        refine lx_fak 12 rfl Tryz.underlying50 rfl Tryz.sizeOf41 (by decide) rfl rfl rfl ?_
        refine lx_loado 2 _ rfl rfl Tryz.isAgg41 Tryz.sizeOf41 (by simp) (ld_m (by simp)) rfl rfl ?_
        refine lx_loada 6 rfl rfl Tryz.isAgg41 Tryz.sizeOf41 (by simp) rfl rfl ?_
        refine lx_call rfl rfl ent54 (r5mul _ _) rfl rfl ?_
        refine lx_fak 24 rfl Tryz.underlying50 rfl Tryz.sizeOf41 (by decide) rfl rfl rfl ?_
        refine lx_loado 3 _ rfl rfl Tryz.isAgg41 Tryz.sizeOf41 (by simp) (ld_rr (m := 12) (n := 12) (by simp) (by simp) rfl) rfl rfl ?_
        refine lx_call rfl rfl ent54 (r5mul _ _) rfl rfl ?_
        refine lx_fak 12 rfl Tryz.underlying50 rfl Tryz.sizeOf41 (by decide) rfl rfl rfl ?_
        refine lx_loado 3 _ rfl rfl Tryz.isAgg41 Tryz.sizeOf41 (by simp) (ld_m (by simp)) rfl rfl ?_
        refine lx_loada 5 rfl rfl Tryz.isAgg41 Tryz.sizeOf41 (by simp) rfl rfl ?_
        refine lx_call rfl rfl ent54 (r5mul _ _) rfl rfl ?_
        refine lx_fak 24 rfl Tryz.underlying50 rfl Tryz.sizeOf41 (by decide) rfl rfl rfl ?_
        refine lx_loado 2 _ rfl rfl Tryz.isAgg41 Tryz.sizeOf41 (by simp) (ld_rr (m := 12) (n := 12) (by simp) (by simp) rfl) rfl rfl ?_
        refine lx_call rfl rfl ent54 (r5mul _ _) rfl rfl ?_
        refine lx_nil ?_
        refine ⟨_, _, rfl, hGF, by intro x hx; simp only [List.mem_cons, List.not_mem_nil, or_false] at hx; rcases hx with rfl | rfl <;> rfl, by intro x hx; simp only [List.mem_cons, List.not_mem_nil, or_false] at hx; rcases hx with rfl | rfl <;> rfl, fun adr => ?_⟩
        refine lx_storea 9 hGF rfl rfl rfl Tryz.sizeOf41 (by simp) (by simp) (one_u64 _) rfl ?_
        refine lx_storea 10 hGF rfl rfl rfl Tryz.sizeOf41 (by simp) (by simp) (one_u64 _) rfl ?_
        refine lx_nil ?_
        refine xs_drawA (E := EE [2999999]) [0, 1, 2, 3, 4, 5] [⟨6, 11, 41, (fe 0 ++ fe 0).map U64⟩, ⟨7, 12, 41, (fe 0 ++ fe 0).map U64⟩] [8, 9] mixed rfl (by kernel_rfl) (by kernel_rfl) (by kernel_rfl) (by kernel_rfl) (by kernel_rfl) (by kernel_rfl) (by decide) (by intro x hx; simp only [List.mem_cons, List.not_mem_nil, or_false] at hx; rcases hx with rfl | rfl <;> exact isAlloc_mk rfl zv41 rfl) ?_
        refine lx_loada 8 rfl rfl Tryz.isAgg41 Tryz.sizeOf41 (by simp) rfl rfl ?_
        refine lx_loada 7 rfl rfl Tryz.isAgg41 Tryz.sizeOf41 (by simp) rfl rfl ?_
        refine lx_call rfl rfl ent74 (r5subE _ _) rfl rfl ?_
        refine lx_loada 10 rfl rfl Tryz.isAgg41 Tryz.sizeOf41 (by simp) rfl rfl ?_
        refine lx_loada 9 rfl rfl Tryz.isAgg41 Tryz.sizeOf41 (by simp) rfl rfl ?_
        refine lx_call rfl rfl ent74 (r5subE _ _) rfl rfl ?_
        refine lx_nil ?_
        refine ⟨_, _, rfl, hGF, by intro x hx; simp only [List.mem_cons, List.not_mem_nil, or_false] at hx; rcases hx with rfl | rfl <;> rfl, by intro x hx; simp only [List.mem_cons, List.not_mem_nil, or_false] at hx; rcases hx with rfl | rfl <;> rfl, fun adr => ?_⟩
        refine lx_storea 11 hGF rfl rfl rfl Tryz.sizeOf41 (by simp) (by simp) (one_u64 _) rfl ?_
        refine lx_storea 12 hGF rfl rfl rfl Tryz.sizeOf41 (by simp) (by simp) (one_u64 _) rfl ?_
        refine lx_nil ?_
        refine x_seq ?_
        refine xs_plain (E := EE []) ?_
        refine lx_loada 11 rfl rfl Tryz.isAgg41 Tryz.sizeOf41 (by simp) rfl rfl ?_
        refine lx_callB false rfl rfl ent75 (r5isZero _) (decide_eq_false h3) rfl rfl ?_
        refine lx_nil ?_
        refine x_false rfl ?_
        refine x_skip ?_
        refine xs_plain (E := EE []) ?_
        refine lx_loada 11 rfl rfl Tryz.isAgg41 Tryz.sizeOf41 (by simp) rfl rfl ?_
        refine lx_loada 11 rfl rfl Tryz.isAgg41 Tryz.sizeOf41 (by simp) rfl rfl ?_
        refine lx_call rfl rfl ent54 (r5mul _ _) rfl rfl ?_
        refine lx_allocr 13 hGF zv41 rfl rfl ?_
        intro b13
        refine lx_storea 13 hGF rfl rfl rfl Tryz.sizeOf41 (by simp) (by simp) (one_u64 _) rfl ?_
        refine lx_nil ?_
        refine xs_plain (E := EE []) ?_
        refine lx_loada 13 rfl rfl Tryz.isAgg41 Tryz.sizeOf41 (by simp) rfl rfl ?_
        refine lx_loada 11 rfl rfl Tryz.isAgg41 Tryz.sizeOf41 (by simp) rfl rfl ?_
        refine lx_call rfl rfl ent54 (r5mul _ _) rfl rfl ?_
        refine lx_allocr 14 hGF zv41 rfl rfl ?_
        intro b14
        refine lx_storea 14 hGF rfl rfl rfl Tryz.sizeOf41 (by simp) (by simp) (one_u64 _) rfl ?_
        refine lx_nil ?_
        refine xs_plain (E := EE []) ?_
        refine lx_loada 7 rfl rfl Tryz.isAgg41 Tryz.sizeOf41 (by simp) rfl rfl ?_
        refine lx_loada 13 rfl rfl Tryz.isAgg41 Tryz.sizeOf41 (by simp) rfl rfl ?_
        refine lx_call rfl rfl ent54 (r5mul _ _) rfl rfl ?_
        refine lx_allocr 15 hGF zv41 rfl rfl ?_
        intro b15
        refine lx_storea 15 hGF rfl rfl rfl Tryz.sizeOf41 (by simp) (by simp) (one_u64 _) rfl ?_
        refine lx_nil ?_
        refine xs_drawA (E := EE [2999999]) [0, 1, 2, 3, 4, 5, 6, 7, 8] [⟨9, 16, 41, (fe 0 ++ fe 0).map U64⟩] [10] mixed rfl (by kernel_rfl) (by kernel_rfl) (by kernel_rfl) (by kernel_rfl) (by kernel_rfl) (by kernel_rfl) (by decide) (by intro x hx; simp only [List.mem_cons, List.not_mem_nil, or_false] at hx; subst hx; exact isAlloc_mk rfl zv41 rfl) ?_
        refine lx_loada 12 rfl rfl Tryz.isAgg41 Tryz.sizeOf41 (by simp) rfl rfl ?_
        refine lx_loada 12 rfl rfl Tryz.isAgg41 Tryz.sizeOf41 (by simp) rfl rfl ?_
        refine lx_call rfl rfl ent54 (r5mul _ _) rfl rfl ?_
        refine lx_loada 14 rfl rfl Tryz.isAgg41 Tryz.sizeOf41 (by simp) rfl rfl ?_
        refine lx_call rfl rfl ent74 (r5subE _ _) rfl rfl ?_
        refine lx_loada 15 rfl rfl Tryz.isAgg41 Tryz.sizeOf41 (by simp) rfl rfl ?_
        refine lx_call rfl rfl ent74 (r5subE _ _) rfl rfl ?_
        refine lx_loada 15 rfl rfl Tryz.isAgg41 Tryz.sizeOf41 (by simp) rfl rfl ?_
        refine lx_call rfl rfl ent74 (r5subE _ _) rfl rfl ?_
        refine lx_nil ?_
        refine ⟨_, _, rfl, hGF, by intro x hx; simp only [List.mem_cons, List.not_mem_nil, or_false] at hx; subst hx; rfl, by intro x hx; simp only [List.mem_cons, List.not_mem_nil, or_false] at hx; subst hx; rfl, fun adr => ?_⟩
        refine lx_storea 16 hGF rfl rfl rfl Tryz.sizeOf41 (by simp) (by simp) (one_u64 _) rfl ?_
        refine lx_nil ?_
        refine xs_drawn (E := EE []) mixed (by kernel_rfl) (by kernel_rfl) (by kernel_rfl) ?_
        refine lx_loada 16 rfl rfl Tryz.isAgg41 Tryz.sizeOf41 (by simp) rfl rfl ?_
        refine lx_loada 12 rfl rfl Tryz.isAgg41 Tryz.sizeOf41 (by simp) rfl rfl ?_
        refine lx_loada 15 rfl rfl Tryz.isAgg41 Tryz.sizeOf41 (by simp) rfl rfl ?_
        refine lx_loada 16 rfl rfl Tryz.isAgg41 Tryz.sizeOf41 (by simp) rfl rfl ?_
        refine lx_call rfl rfl ent74 (r5subE _ _) rfl rfl ?_
        refine lx_call rfl rfl ent54 (r5mul _ _) rfl rfl ?_
        refine lx_loada 9 rfl rfl Tryz.isAgg41 Tryz.sizeOf41 (by simp) rfl rfl ?_
        refine lx_loada 14 rfl rfl Tryz.isAgg41 Tryz.sizeOf41 (by simp) rfl rfl ?_
        refine lx_call rfl rfl ent54 (r5mul _ _) rfl rfl ?_
        refine lx_call rfl rfl ent74 (r5subE _ _) rfl rfl ?_
        refine lx_fak 24 rfl Tryz.underlying50 rfl Tryz.sizeOf41 (by decide) rfl rfl rfl ?_
        refine lx_loado 2 _ rfl rfl Tryz.isAgg41 Tryz.sizeOf41 (by simp) (ld_rr (m := 12) (n := 12) (by simp) (by simp) rfl) rfl rfl ?_
        refine lx_fak 24 rfl Tryz.underlying50 rfl Tryz.sizeOf41 (by decide) rfl rfl rfl ?_
        refine lx_loado 3 _ rfl rfl Tryz.isAgg41 Tryz.sizeOf41 (by simp) (ld_rr (m := 12) (n := 12) (by simp) (by simp) rfl) rfl rfl ?_
        refine lx_call rfl rfl ent54 (r5mul _ _) rfl rfl ?_
        refine lx_loada 11 rfl rfl Tryz.isAgg41 Tryz.sizeOf41 (by simp) rfl rfl ?_
        refine lx_call rfl rfl ent54 (r5mul _ _) rfl rfl ?_
        refine lx_three012 three50 rfl rfl rfl (by simp) (by simp) (by simp) rfl rfl ?_
        refine lx_storea 4 hGF rfl rfl rfl Tryz.sizeOf50 (by simp) (by simp) (one_u64 _) rfl ?_
        refine lx_nil ?_
        refine x_ret ?_
        repeat (first | refine kseq_ret ?_ | refine kblk_ret ?_)
        exact kret_own 4 rfl rfl rfl Tryz.isAgg50 Tryz.sizeOf50 (by simp) (fun w hw => ⟨rfl, hp_below hw⟩)
theorem r9equal (x y : W6) : Pure Tryz.prog Gt 33 [EV6 x, EV6 y] (.bool (decide ((E2w.jaF x (y.1, ng2 y.2.1, y.2.2)).2.2 = ze2))) := by
  intro w hw
  have hGF : BOk Gt (pl w) := gt_low.plain hw
  refine calls_of_X (G := Gt) Tryz.func33 rfl rfl (Hp (pl w) []) (hp_refl (pl w) trivial rides_true) (good_hp hGF) ?_
  refine xs_plain (E := EE []) ?_
  refine lx_boxr 2 hGF rfl rfl rfl ?_
  intro b2
  refine lx_boxr 3 hGF rfl rfl rfl ?_
  intro b3
  refine lx_assign rfl rfl rfl ?_
  refine lx_nil ?_
  refine xs_drawn (E := EE []) mixed (by kernel_rfl) (by kernel_rfl) (by kernel_rfl) ?_
  refine lx_loada 2 rfl rfl Tryz.isAgg50 Tryz.sizeOf50 (by simp) rfl rfl ?_
  refine lx_loada 3 rfl rfl Tryz.isAgg50 Tryz.sizeOf50 (by simp) rfl rfl ?_
  refine lx_call rfl rfl ent32 (r9neg _) rfl rfl ?_
  refine lx_call rfl rfl ent29 (r9add _ _) rfl rfl ?_
  refine lx_call rfl rfl ent34 (r9none _) rfl rfl ?_
  refine lx_assign rfl rfl rfl ?_
  refine lx_nil ?_
  refine x_ret ?_
  repeat (first | refine kseq_ret ?_ | refine kblk_ret ?_)
  exact kret_tmp rfl rfl (fun w hw => ⟨rfl, hp_below hw⟩)
end Go.Proofs.YtfknmeefbccflaaGreatDoor

namespace Go.Proofs.YtfknmeefbccflaaGreatDoor
open Go.RowKit
set_option maxRecDepth 100000
set_option maxHeartbeats 1000000
attribute [local simp] fe_len nm_len AS_len SS_len MONT_len RM_len FRs_len BYs_len by48_len PLl TWOl ONEl N1l IVPl HFPl RTPl FL_len SP_len fe2_len SP2_len FM_len

theorem ent92 : Enters Tryz.prog 92 := fun _ _ => by kernel_rfl
/-- r, as numbers and as bytes. -/
def RRL : List (BitVec 64) := [18446744069414584321#64, 6034159408538082302#64, 3691218898639771653#64, 8353516859464449352#64, 0#64, 0#64]
def RB48 : List (BitVec 8) := BYs RRL 48
def ORB : List (BitVec 8) := RB48.drop 16
theorem ORB_len : ORB.length = 32 := by decide +kernel
theorem ORB_n : BN ORB 32 = ORD := by decide +kernel
theorem RB48_len : RB48.length = 48 := by decide +kernel
theorem RRL_len : RRL.length = 6 := rfl
attribute [local simp] RB48_len RRL_len
theorem ORB_at {w : World} {b : Nat} {t : TypeId} (h : OwnB w b (RB48.map U8) t) : BytesAt w (some ⟨b, 16, none⟩) ORB := BytesAt.range fun j v hv => by
  have := h.range (16 + j) v (by rw [ORB, List.map_drop, List.getElem?_drop] at hv; exact hv)
  rw [Nat.zero_add] at this
  exact this
theorem nm_g0 : nm (G2p.1.1) = [15312334153293348280#64, 841050694974028783#64, 12993178926126977399#64, 14331714969349929730#64, 2740446039084699729#64, 165123225776229009#64] := by decide +kernel
theorem nm_g1 : nm (G2p.1.2) = [16549740192668593022#64, 3696594454104530263#64, 13103893525273989193#64, 6443473286224459290#64, 9055845637167730533#64, 1432192374203850592#64] := by decide +kernel
theorem nm_g2 : nm (G2p.2.1) = [16254428414758889473#64, 10536956157198377609#64, 7873024875724591404#64, 12537348094477325223#64, 10144865889576432922#64, 929383263523139089#64] := by decide +kernel
theorem nm_g3 : nm (G2p.2.2) = [12297368366147926462#64, 4555124010822409633#64, 2771000935339432363#64, 14645187562128761775#64, 3651525051980876697#64, 434250606344352972#64] := by decide +kernel
theorem r5num (a b : Zp) : Pure Tryz.prog Gt 132 [NV (nm a), NV (nm b)] (EV2 (a, b)) := by
  intro w hw
  have hGF : BOk Gt (pl w) := gt_low.plain hw
  refine calls_of_X (G := Gt) Tryz.func132 rfl rfl (Hp (pl w) []) (hp_refl (pl w) trivial rides_true) (good_hp hGF) ?_
  refine xs_plain (E := EE []) ?_
  refine lx_boxr 2 hGF rfl rfl rfl ?_
  intro b2
  refine lx_boxr 3 hGF rfl rfl rfl ?_
  intro b3
  refine lx_allocr 4 hGF zv41 rfl rfl ?_
  intro b4
  refine lx_nil ?_
  refine xs_drawn (E := EE []) mixed (by kernel_rfl) (by kernel_rfl) (by kernel_rfl) ?_
  refine lx_loada 2 rfl rfl Tryz.isAgg37 Tryz.sizeOf37 (by simp) rfl rfl ?_
  refine lx_call rfl rfl ent104 (rofE _) rfl rfl ?_
  refine lx_loada 3 rfl rfl Tryz.isAgg37 Tryz.sizeOf37 (by simp) rfl rfl ?_
  refine lx_call rfl rfl ent104 (rofE _) rfl rfl ?_
  refine lx_two two41 rfl rfl (by simp) (by simp) rfl rfl ?_
  refine lx_storea 4 hGF rfl rfl rfl Tryz.sizeOf41 (by simp) (by simp) (one_u64 _) rfl ?_
  refine lx_nil ?_
  refine x_ret ?_
  repeat (first | refine kseq_ret ?_ | refine kblk_ret ?_)
  exact kret_own 4 rfl rfl rfl Tryz.isAgg41 Tryz.sizeOf41 (by simp) (fun w hw => ⟨rfl, hp_below hw⟩)
theorem r9num (a b : Zp) : Pure Tryz.prog Gt 89 [NV (nm a), NV (nm b)] (EV2 (a, b)) := by
  intro w hw
  have hGF : BOk Gt (pl w) := gt_low.plain hw
  refine calls_of_X (G := Gt) Tryz.func89 rfl rfl (Hp (pl w) []) (hp_refl (pl w) trivial rides_true) (good_hp hGF) ?_
  refine xs_plain (E := EE []) ?_
  refine lx_boxr 2 hGF rfl rfl rfl ?_
  intro b2
  refine lx_boxr 3 hGF rfl rfl rfl ?_
  intro b3
  refine lx_allocr 4 hGF zv41 rfl rfl ?_
  intro b4
  refine lx_nil ?_
  refine xs_plain (E := EE []) ?_
  refine lx_loada 2 rfl rfl Tryz.isAgg37 Tryz.sizeOf37 (by simp) rfl rfl ?_
  refine lx_loada 3 rfl rfl Tryz.isAgg37 Tryz.sizeOf37 (by simp) rfl rfl ?_
  refine lx_call rfl rfl ent132 (r5num _ _) rfl rfl ?_
  refine lx_storea 4 hGF rfl rfl rfl Tryz.sizeOf41 (by simp) (by simp) (one_u64 _) rfl ?_
  refine lx_nil ?_
  refine x_ret ?_
  repeat (first | refine kseq_ret ?_ | refine kblk_ret ?_)
  exact kret_own 4 rfl rfl rfl Tryz.isAgg41 Tryz.sizeOf41 (by simp) (fun w hw => ⟨rfl, hp_below hw⟩)
theorem num_gx : Pure Tryz.prog Gt 89 [NV [15312334153293348280#64, 841050694974028783#64, 12993178926126977399#64, 14331714969349929730#64, 2740446039084699729#64, 165123225776229009#64], NV [16549740192668593022#64, 3696594454104530263#64, 13103893525273989193#64, 6443473286224459290#64, 9055845637167730533#64, 1432192374203850592#64]] (EV2 (G2p.1)) := by
  have h := r9num (G2p.1.1) (G2p.1.2)
  rw [nm_g0, nm_g1] at h
  exact h
theorem num_gy : Pure Tryz.prog Gt 89 [NV [16254428414758889473#64, 10536956157198377609#64, 7873024875724591404#64, 12537348094477325223#64, 10144865889576432922#64, 929383263523139089#64], NV [12297368366147926462#64, 4555124010822409633#64, 2771000935339432363#64, 14645187562128761775#64, 3651525051980876697#64, 434250606344352972#64]] (EV2 (G2p.2)) := by
  have h := r9num (G2p.2.1) (G2p.2.2)
  rw [nm_g2, nm_g3] at h
  exact h
theorem r9gen1  : Pure Tryz.prog Gt 48 [.bool true] (EV6 (RJ2 (some G2p))) := by
  intro w hw
  have hGF : BOk Gt (pl w) := gt_low.plain hw
  refine calls_of_X (G := Gt) Tryz.func48 rfl rfl (Hp (pl w) []) (hp_refl (pl w) trivial rides_true) (good_hp hGF) ?_
  refine xs_plain (E := EE []) ?_
  refine lx_allocr 2 hGF zv50 rfl rfl ?_
  intro b2
  refine lx_nil ?_
  refine x_seq ?_
  refine xs_plain (E := EE []) ?_
  refine lx_move rfl rfl rfl ?_
  refine lx_nil ?_
  refine x_true rfl ?_
  refine xs_plain (E := EE []) ?_
  refine lx_buildr (n := 6) rfl rfl Tryz.underlying37 Tryz.sizeOf25 Tryz.zeroValue37 rfl rfl rfl rfl ?_
  refine lx_buildr (n := 6) rfl rfl Tryz.underlying37 Tryz.sizeOf25 Tryz.zeroValue37 rfl rfl rfl rfl ?_
  refine lx_call rfl rfl ent89 (num_gx) rfl rfl ?_
  refine lx_buildr (n := 6) rfl rfl Tryz.underlying37 Tryz.sizeOf25 Tryz.zeroValue37 rfl rfl rfl rfl ?_
  refine lx_buildr (n := 6) rfl rfl Tryz.underlying37 Tryz.sizeOf25 Tryz.zeroValue37 rfl rfl rfl rfl ?_
  refine lx_call rfl rfl ent89 (num_gy) rfl rfl ?_
  refine lx_call rfl rfl ent90 (r5one) rfl rfl ?_
  refine lx_three012 three50 rfl rfl rfl (by simp) (by simp) (by simp) rfl rfl ?_
  refine lx_storea 2 hGF rfl rfl rfl Tryz.sizeOf50 (by simp) (by simp) (one_u64 _) rfl ?_
  refine lx_nil ?_
  refine x_ret ?_
  repeat (first | refine kseq_ret ?_ | refine kblk_ret ?_)
  exact kret_own 2 rfl rfl rfl Tryz.isAgg50 Tryz.sizeOf50 (by simp) (fun w hw => ⟨rfl, hp_below hw⟩)
theorem sm_40 : sm2 4#64 4#64 = E2w.b := by decide +kernel
theorem r9b1  : Pure Tryz.prog Gt 56 [.bool true] (EV2 E2w.b) := by
  intro w hw
  have hGF : BOk Gt (pl w) := gt_low.plain hw
  refine calls_of_X (G := Gt) Tryz.func56 rfl rfl (Hp (pl w) []) (hp_refl (pl w) trivial rides_true) (good_hp hGF) ?_
  refine xs_plain (E := EE []) ?_
  refine lx_allocr 2 hGF zv41 rfl rfl ?_
  intro b2
  refine lx_nil ?_
  refine x_seq ?_
  refine xs_plain (E := EE []) ?_
  refine lx_move rfl rfl rfl ?_
  refine lx_nil ?_
  refine x_true rfl ?_
  refine xs_plain (E := EE []) ?_
  refine lx_call rfl rfl ent101 (small5r _ _) rfl rfl ?_
  refine lx_storea 2 hGF rfl rfl rfl Tryz.sizeOf41 (by simp) (by simp) (one_u64 _) rfl ?_
  refine lx_nil ?_
  refine x_ret ?_
  repeat (first | refine kseq_ret ?_ | refine kblk_ret ?_)
  exact kret_own 2 rfl rfl rfl Tryz.isAgg41 Tryz.sizeOf41 (by simp) (fun w hw => ⟨by rw [← sm_40], hp_below hw⟩)
theorem r9on1 (x y : W2) : Pure Tryz.prog Gt 14 [EV2 x, EV2 y, .bool true] (.bool (decide (ml2 y y = ad2 (ml2 (ml2 x x) x) E2w.b))) := by
  intro w hw
  have hGF : BOk Gt (pl w) := gt_low.plain hw
  refine calls_of_X (G := Gt) Tryz.func14 rfl rfl (Hp (pl w) []) (hp_refl (pl w) trivial rides_true) (good_hp hGF) ?_
  refine xs_plain (E := EE []) ?_
  refine lx_boxr 3 hGF rfl rfl rfl ?_
  intro b3
  refine lx_boxr 4 hGF rfl rfl rfl ?_
  intro b4
  refine lx_assign rfl rfl rfl ?_
  refine lx_nil ?_
  refine xs_drawn (E := EE []) mixed (by kernel_rfl) (by kernel_rfl) (by kernel_rfl) ?_
  refine lx_loada 4 rfl rfl Tryz.isAgg41 Tryz.sizeOf41 (by simp) rfl rfl ?_
  refine lx_loada 4 rfl rfl Tryz.isAgg41 Tryz.sizeOf41 (by simp) rfl rfl ?_
  refine lx_call rfl rfl ent54 (r5mul _ _) rfl rfl ?_
  refine lx_loada 3 rfl rfl Tryz.isAgg41 Tryz.sizeOf41 (by simp) rfl rfl ?_
  refine lx_loada 3 rfl rfl Tryz.isAgg41 Tryz.sizeOf41 (by simp) rfl rfl ?_
  refine lx_call rfl rfl ent54 (r5mul _ _) rfl rfl ?_
  refine lx_loada 3 rfl rfl Tryz.isAgg41 Tryz.sizeOf41 (by simp) rfl rfl ?_
  refine lx_call rfl rfl ent54 (r5mul _ _) rfl rfl ?_
  refine lx_move rfl rfl rfl ?_
  refine lx_call rfl rfl ent56 (r9b1) rfl rfl ?_
  refine lx_call rfl rfl ent55 (r5add _ _) rfl rfl ?_
  refine lx_bin rfl rfl (fun _ => eqg41 _ _ _ _ _ _) (fun w => eqv41 _ _ (by simp) (by simp) w) rfl rfl ?_
  refine lx_assign rfl rfl rfl ?_
  refine lx_nil ?_
  refine x_ret ?_
  repeat (first | refine kseq_ret ?_ | refine kblk_ret ?_)
  exact kret_tmp rfl rfl (fun w hw => ⟨rb (fe2_dec _ _), hp_below hw⟩)
theorem r3r  : Pure Tryz.prog Gt 92 [] (NV RRL) := by
  intro w hw
  have hGF : BOk Gt (pl w) := gt_low.plain hw
  refine calls_of_X (G := Gt) Tryz.func92 rfl rfl (Hp (pl w) []) (hp_refl (pl w) trivial rides_true) (good_hp hGF) ?_
  refine xs_plain (E := EE []) ?_
  refine lx_allocr 0 hGF zv37 rfl rfl ?_
  intro b0
  refine lx_nil ?_
  refine xs_plain (E := EE []) ?_
  refine lx_buildr (n := 6) rfl rfl Tryz.underlying37 Tryz.sizeOf25 Tryz.zeroValue37 rfl rfl rfl rfl ?_
  refine lx_storea 0 hGF rfl rfl rfl Tryz.sizeOf37 rfl (by simp) rfl rfl ?_
  refine lx_nil ?_
  refine x_ret ?_
  repeat (first | refine kseq_ret ?_ | refine kblk_ret ?_)
  exact kret_own 0 rfl rfl rfl Tryz.isAgg37 Tryz.sizeOf37 (by simp) (fun w hw => ⟨rfl, hp_below hw⟩)
theorem rbR : Pure Tryz.prog Gt 91 [NV RRL] (.agg (RB48.map U8).toArray) := rbytesOf_pure RRL rfl
theorem r9order_calls (w : World) (hw : Gt w) : Calls Tryz.prog 49 [].toArray w (fun e w' => ∃ bm, e = .returned (.slice (some ⟨bm, 16, none⟩) 32 32) ∧ Grow w w' ∧ w.heap.size ≤ bm ∧ OwnB w' bm (RB48.map U8) 107) := by
  have hGF : BOk Gt (pl w) := gt_low.plain hw
  refine calls_of_X (G := Gt) Tryz.func49 rfl rfl (Hp (pl w) []) (hp_refl (pl w) trivial rides_true) (good_hp hGF) ?_
  refine xs_plain (E := EE []) ?_
  refine lx_assign rfl rfl rfl ?_
  refine lx_nil ?_
  refine xs_plain (E := EE []) ?_
  refine lx_call rfl rfl ent92 (r3r) rfl rfl ?_
  refine lx_call rfl rfl ent91 (rbR) rfl rfl ?_
  refine lx_allocr 1 hGF zv107 rfl rfl ?_
  intro b1
  refine lx_storea 1 hGF rfl rfl rfl Tryz.sizeOf107 (by simp) (by simp) (one_u8 _) rfl ?_
  refine lx_nil ?_
  refine xs_plain (E := EE []) ?_
  refine lx_slarr1 (l := 16) (h' := 48) rfl Tryz.underlying107 Tryz.sizeOf5 rfl rfl (by decide) (by decide) rfl rfl ?_
  refine lx_assign rfl rfl rfl ?_
  refine lx_nil ?_
  refine x_ret ?_
  repeat (first | refine kseq_ret ?_ | refine kblk_ret ?_)
  exact kret_tmp rfl rfl (fun w hw => ⟨b1, rfl, hp_below hw, (hw.own 1 b1 _ _ rfl).2.elim id False.elim, (hw.own 1 b1 _ _ rfl).1⟩)
end Go.Proofs.YtfknmeefbccflaaGreatDoor
