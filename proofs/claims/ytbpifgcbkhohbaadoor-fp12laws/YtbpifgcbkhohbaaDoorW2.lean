/-
  The walks of package fp12.
-/
import Derived.Test.YtbpifgcbkhohbaaDoorW1
namespace Go.Proofs.YtbpifgcbkhohbaaDoor
open Go.RowKit
set_option maxRecDepth 100000
set_option maxHeartbeats 1000000
attribute [local simp] fe_len nm_len AS_len SS_len MONT_len RM_len FRs_len BYs_len by48_len PLl TWOl ONEl N1l IVPl HFPl RTPl FL_len SP_len fe2_len SP2_len FM_len FF_len
attribute [local simp] ff_len RW_len

theorem k12one  : Pure Tryd.prog Gt 13 [] (EV12 K12.one) := by
  intro w hw
  have hGF : BOk Gt (pl w) := gt_low.plain hw
  refine calls_of_X (G := Gt) Tryd.func13 rfl rfl (Hp (pl w) []) (hp_refl (pl w) trivial rides_true) (good_hp hGF) ?_
  refine xs_plain (E := EE []) ?_
  refine lx_allocr 0 hGF zv34 rfl rfl ?_
  intro b0
  refine lx_nil ?_
  refine xs_plain (E := EE []) ?_
  refine lx_call rfl rfl ent22 (k6one) rfl rfl ?_
  refine lx_twoA two34 rfl (by simp) rfl rfl ?_
  refine lx_storea 0 hGF rfl rfl rfl Tryd.sizeOf34 (by simp) (by simp) (one_u64 _) rfl ?_
  refine lx_nil ?_
  refine x_ret ?_
  repeat (first | refine kseq_ret ?_ | refine kblk_ret ?_)
  exact kret_own 0 rfl rfl rfl Tryd.isAgg34 Tryd.sizeOf34 (by simp) (fun w hw => ⟨rfl, hp_below hw⟩)
theorem k12equal (x y : W12) : Pure Tryd.prog Gt 10 [EV12 x, EV12 y] (.bool (decide (x = y))) := by
  intro w hw
  have hGF : BOk Gt (pl w) := gt_low.plain hw
  by_cases h : x.1 = y.1
  · skip
    refine calls_of_X (G := Gt) Tryd.func10 rfl rfl (Hp (pl w) []) (hp_refl (pl w) trivial rides_true) (good_hp hGF) ?_
    refine xs_plain (E := EE []) ?_
    refine lx_boxr 2 hGF rfl rfl rfl ?_
    intro b2
    refine lx_boxr 3 hGF rfl rfl rfl ?_
    intro b3
    refine lx_assign rfl rfl rfl ?_
    refine lx_nil ?_
    refine xs_plain (E := EE []) ?_
    refine lx_fak 0 rfl Tryd.underlying34 rfl Tryd.sizeOf32 (by decide) rfl rfl rfl ?_
    refine lx_loado 2 _ rfl rfl Tryd.isAgg32 Tryd.sizeOf32 (by simp) ld_l rfl rfl ?_
    refine lx_fak 0 rfl Tryd.underlying34 rfl Tryd.sizeOf32 (by decide) rfl rfl rfl ?_
    refine lx_loado 3 _ rfl rfl Tryd.isAgg32 Tryd.sizeOf32 (by simp) ld_l rfl rfl ?_
    refine lx_callB true rfl rfl ent31 (k6equal _ _) (decide_eq_true h) rfl rfl ?_
    refine lx_move rfl rfl rfl ?_
    refine lx_fak 36 rfl Tryd.underlying34 rfl Tryd.sizeOf32 (by decide) rfl rfl rfl ?_
    refine lx_loado 2 _ rfl rfl Tryd.isAgg32 Tryd.sizeOf32 (by simp) (ld_r (by simp)) rfl rfl ?_
    refine lx_fak 36 rfl Tryd.underlying34 rfl Tryd.sizeOf32 (by decide) rfl rfl rfl ?_
    refine lx_loado 3 _ rfl rfl Tryd.isAgg32 Tryd.sizeOf32 (by simp) (ld_r (by simp)) rfl rfl ?_
    refine lx_call rfl rfl ent31 (k6equal _ _) rfl rfl ?_
    refine lx_pick rfl rfl rfl rfl rfl ?_
    refine lx_assign rfl rfl rfl ?_
    refine lx_nil ?_
    refine x_ret ?_
    repeat (first | refine kseq_ret ?_ | refine kblk_ret ?_)
    exact kret_tmp rfl rfl (fun w hw => ⟨rb (dec12_t h), hp_below hw⟩)
  · skip
    refine calls_of_X (G := Gt) Tryd.func10 rfl rfl (Hp (pl w) []) (hp_refl (pl w) trivial rides_true) (good_hp hGF) ?_
    refine xs_plain (E := EE []) ?_
    refine lx_boxr 2 hGF rfl rfl rfl ?_
    intro b2
    refine lx_boxr 3 hGF rfl rfl rfl ?_
    intro b3
    refine lx_assign rfl rfl rfl ?_
    refine lx_nil ?_
    refine xs_plain (E := EE []) ?_
    refine lx_fak 0 rfl Tryd.underlying34 rfl Tryd.sizeOf32 (by decide) rfl rfl rfl ?_
    refine lx_loado 2 _ rfl rfl Tryd.isAgg32 Tryd.sizeOf32 (by simp) ld_l rfl rfl ?_
    refine lx_fak 0 rfl Tryd.underlying34 rfl Tryd.sizeOf32 (by decide) rfl rfl rfl ?_
    refine lx_loado 3 _ rfl rfl Tryd.isAgg32 Tryd.sizeOf32 (by simp) ld_l rfl rfl ?_
    refine lx_callB false rfl rfl ent31 (k6equal _ _) (decide_eq_false h) rfl rfl ?_
    refine lx_move rfl rfl rfl ?_
    refine lx_skip rfl rfl rfl ?_
    refine lx_skip rfl rfl rfl ?_
    refine lx_skip rfl rfl rfl ?_
    refine lx_skip rfl rfl rfl ?_
    refine lx_skip rfl rfl rfl ?_
    refine lx_pick rfl rfl rfl rfl rfl ?_
    refine lx_assign rfl rfl rfl ?_
    refine lx_nil ?_
    refine x_ret ?_
    repeat (first | refine kseq_ret ?_ | refine kblk_ret ?_)
    exact kret_tmp rfl rfl (fun w hw => ⟨rb (dec12_f h), hp_below hw⟩)
theorem k12isZero (x : W12) : Pure Tryd.prog Gt 14 [EV12 x] (.bool (decide (x = K12.zero))) := by
  intro w hw
  have hGF : BOk Gt (pl w) := gt_low.plain hw
  by_cases h : x.1 = K6.zero
  · skip
    refine calls_of_X (G := Gt) Tryd.func14 rfl rfl (Hp (pl w) []) (hp_refl (pl w) trivial rides_true) (good_hp hGF) ?_
    refine xs_plain (E := EE []) ?_
    refine lx_boxr 1 hGF rfl rfl rfl ?_
    intro b1
    refine lx_assign rfl rfl rfl ?_
    refine lx_nil ?_
    refine xs_plain (E := EE []) ?_
    refine lx_fak 0 rfl Tryd.underlying34 rfl Tryd.sizeOf32 (by decide) rfl rfl rfl ?_
    refine lx_loado 1 _ rfl rfl Tryd.isAgg32 Tryd.sizeOf32 (by simp) ld_l rfl rfl ?_
    refine lx_callB true rfl rfl ent21 (k6isZero _) (decide_eq_true h) rfl rfl ?_
    refine lx_move rfl rfl rfl ?_
    refine lx_fak 36 rfl Tryd.underlying34 rfl Tryd.sizeOf32 (by decide) rfl rfl rfl ?_
    refine lx_loado 1 _ rfl rfl Tryd.isAgg32 Tryd.sizeOf32 (by simp) (ld_r (by simp)) rfl rfl ?_
    refine lx_call rfl rfl ent21 (k6isZero _) rfl rfl ?_
    refine lx_pick rfl rfl rfl rfl rfl ?_
    refine lx_assign rfl rfl rfl ?_
    refine lx_nil ?_
    refine x_ret ?_
    repeat (first | refine kseq_ret ?_ | refine kblk_ret ?_)
    exact kret_tmp rfl rfl (fun w hw => ⟨rb (dec12_t (y := K12.zero) h), hp_below hw⟩)
  · skip
    refine calls_of_X (G := Gt) Tryd.func14 rfl rfl (Hp (pl w) []) (hp_refl (pl w) trivial rides_true) (good_hp hGF) ?_
    refine xs_plain (E := EE []) ?_
    refine lx_boxr 1 hGF rfl rfl rfl ?_
    intro b1
    refine lx_assign rfl rfl rfl ?_
    refine lx_nil ?_
    refine xs_plain (E := EE []) ?_
    refine lx_fak 0 rfl Tryd.underlying34 rfl Tryd.sizeOf32 (by decide) rfl rfl rfl ?_
    refine lx_loado 1 _ rfl rfl Tryd.isAgg32 Tryd.sizeOf32 (by simp) ld_l rfl rfl ?_
    refine lx_callB false rfl rfl ent21 (k6isZero _) (decide_eq_false h) rfl rfl ?_
    refine lx_move rfl rfl rfl ?_
    refine lx_skip rfl rfl rfl ?_
    refine lx_skip rfl rfl rfl ?_
    refine lx_skip rfl rfl rfl ?_
    refine lx_pick rfl rfl rfl rfl rfl ?_
    refine lx_assign rfl rfl rfl ?_
    refine lx_nil ?_
    refine x_ret ?_
    repeat (first | refine kseq_ret ?_ | refine kblk_ret ?_)
    exact kret_tmp rfl rfl (fun w hw => ⟨rb (dec12_f (y := K12.zero) h), hp_below hw⟩)
theorem k12add (x y : W12) : Pure Tryd.prog Gt 11 [EV12 x, EV12 y] (EV12 (K12.add x y)) := by
  intro w hw
  have hGF : BOk Gt (pl w) := gt_low.plain hw
  refine calls_of_X (G := Gt) Tryd.func11 rfl rfl (Hp (pl w) []) (hp_refl (pl w) trivial rides_true) (good_hp hGF) ?_
  refine xs_plain (E := EE []) ?_
  refine lx_boxr 2 hGF rfl rfl rfl ?_
  intro b2
  refine lx_boxr 3 hGF rfl rfl rfl ?_
  intro b3
  refine lx_allocr 4 hGF zv34 rfl rfl ?_
  intro b4
  refine lx_nil ?_
  refine xs_drawn (E := EE []) mixed (by kernel_rfl) (by kernel_rfl) (by kernel_rfl) ?_
  refine lx_fak 0 rfl Tryd.underlying34 rfl Tryd.sizeOf32 (by decide) rfl rfl rfl ?_
  refine lx_loado 2 _ rfl rfl Tryd.isAgg32 Tryd.sizeOf32 (by simp) ld_l rfl rfl ?_
  refine lx_fak 0 rfl Tryd.underlying34 rfl Tryd.sizeOf32 (by decide) rfl rfl rfl ?_
  refine lx_loado 3 _ rfl rfl Tryd.isAgg32 Tryd.sizeOf32 (by simp) ld_l rfl rfl ?_
  refine lx_call rfl rfl ent28 (k6add _ _) rfl rfl ?_
  refine lx_fak 36 rfl Tryd.underlying34 rfl Tryd.sizeOf32 (by decide) rfl rfl rfl ?_
  refine lx_loado 2 _ rfl rfl Tryd.isAgg32 Tryd.sizeOf32 (by simp) (ld_r (by simp)) rfl rfl ?_
  refine lx_fak 36 rfl Tryd.underlying34 rfl Tryd.sizeOf32 (by decide) rfl rfl rfl ?_
  refine lx_loado 3 _ rfl rfl Tryd.isAgg32 Tryd.sizeOf32 (by simp) (ld_r (by simp)) rfl rfl ?_
  refine lx_call rfl rfl ent28 (k6add _ _) rfl rfl ?_
  refine lx_two two34 rfl rfl (by simp) (by simp) rfl rfl ?_
  refine lx_storea 4 hGF rfl rfl rfl Tryd.sizeOf34 (by simp) (by simp) (one_u64 _) rfl ?_
  refine lx_nil ?_
  refine x_ret ?_
  repeat (first | refine kseq_ret ?_ | refine kblk_ret ?_)
  exact kret_own 4 rfl rfl rfl Tryd.isAgg34 Tryd.sizeOf34 (by simp) (fun w hw => ⟨rfl, hp_below hw⟩)
theorem k12sub (x y : W12) : Pure Tryd.prog Gt 12 [EV12 x, EV12 y] (EV12 (sb12 x y)) := by
  intro w hw
  have hGF : BOk Gt (pl w) := gt_low.plain hw
  refine calls_of_X (G := Gt) Tryd.func12 rfl rfl (Hp (pl w) []) (hp_refl (pl w) trivial rides_true) (good_hp hGF) ?_
  refine xs_plain (E := EE []) ?_
  refine lx_boxr 2 hGF rfl rfl rfl ?_
  intro b2
  refine lx_boxr 3 hGF rfl rfl rfl ?_
  intro b3
  refine lx_allocr 4 hGF zv34 rfl rfl ?_
  intro b4
  refine lx_nil ?_
  refine xs_drawn (E := EE []) mixed (by kernel_rfl) (by kernel_rfl) (by kernel_rfl) ?_
  refine lx_fak 0 rfl Tryd.underlying34 rfl Tryd.sizeOf32 (by decide) rfl rfl rfl ?_
  refine lx_loado 2 _ rfl rfl Tryd.isAgg32 Tryd.sizeOf32 (by simp) ld_l rfl rfl ?_
  refine lx_fak 0 rfl Tryd.underlying34 rfl Tryd.sizeOf32 (by decide) rfl rfl rfl ?_
  refine lx_loado 3 _ rfl rfl Tryd.isAgg32 Tryd.sizeOf32 (by simp) ld_l rfl rfl ?_
  refine lx_call rfl rfl ent30 (k6sub _ _) rfl rfl ?_
  refine lx_fak 36 rfl Tryd.underlying34 rfl Tryd.sizeOf32 (by decide) rfl rfl rfl ?_
  refine lx_loado 2 _ rfl rfl Tryd.isAgg32 Tryd.sizeOf32 (by simp) (ld_r (by simp)) rfl rfl ?_
  refine lx_fak 36 rfl Tryd.underlying34 rfl Tryd.sizeOf32 (by decide) rfl rfl rfl ?_
  refine lx_loado 3 _ rfl rfl Tryd.isAgg32 Tryd.sizeOf32 (by simp) (ld_r (by simp)) rfl rfl ?_
  refine lx_call rfl rfl ent30 (k6sub _ _) rfl rfl ?_
  refine lx_two two34 rfl rfl (by simp) (by simp) rfl rfl ?_
  refine lx_storea 4 hGF rfl rfl rfl Tryd.sizeOf34 (by simp) (by simp) (one_u64 _) rfl ?_
  refine lx_nil ?_
  refine x_ret ?_
  repeat (first | refine kseq_ret ?_ | refine kblk_ret ?_)
  exact kret_own 4 rfl rfl rfl Tryd.isAgg34 Tryd.sizeOf34 (by simp) (fun w hw => ⟨rfl, hp_below hw⟩)
theorem k12conj (x : W12) : Pure Tryd.prog Gt 20 [EV12 x] (EV12 (cj12 x)) := by
  intro w hw
  have hGF : BOk Gt (pl w) := gt_low.plain hw
  refine calls_of_X (G := Gt) Tryd.func20 rfl rfl (Hp (pl w) []) (hp_refl (pl w) trivial rides_true) (good_hp hGF) ?_
  refine xs_plain (E := EE []) ?_
  refine lx_boxr 1 hGF rfl rfl rfl ?_
  intro b1
  refine lx_allocr 2 hGF zv34 rfl rfl ?_
  intro b2
  refine lx_nil ?_
  refine xs_drawn (E := EE []) mixed (by kernel_rfl) (by kernel_rfl) (by kernel_rfl) ?_
  refine lx_fak 0 rfl Tryd.underlying34 rfl Tryd.sizeOf32 (by decide) rfl rfl rfl ?_
  refine lx_loado 1 _ rfl rfl Tryd.isAgg32 Tryd.sizeOf32 (by simp) ld_l rfl rfl ?_
  refine lx_fak 36 rfl Tryd.underlying34 rfl Tryd.sizeOf32 (by decide) rfl rfl rfl ?_
  refine lx_loado 1 _ rfl rfl Tryd.isAgg32 Tryd.sizeOf32 (by simp) (ld_r (by simp)) rfl rfl ?_
  refine lx_call rfl rfl ent34 (k6neg _) rfl rfl ?_
  refine lx_two two34 rfl rfl (by simp) (by simp) rfl rfl ?_
  refine lx_storea 2 hGF rfl rfl rfl Tryd.sizeOf34 (by simp) (by simp) (one_u64 _) rfl ?_
  refine lx_nil ?_
  refine x_ret ?_
  repeat (first | refine kseq_ret ?_ | refine kblk_ret ?_)
  exact kret_own 2 rfl rfl rfl Tryd.isAgg34 Tryd.sizeOf34 (by simp) (fun w hw => ⟨rfl, hp_below hw⟩)
theorem k12mul (x y : W12) : Pure Tryd.prog Gt 9 [EV12 x, EV12 y] (EV12 (K12.mul x y)) := by
  intro w hw
  have hGF : BOk Gt (pl w) := gt_low.plain hw
  refine calls_of_X (G := Gt) Tryd.func9 rfl rfl (Hp (pl w) []) (hp_refl (pl w) trivial rides_true) (good_hp hGF) ?_
  refine xs_plain (E := EE []) ?_
  refine lx_boxr 2 hGF rfl rfl rfl ?_
  intro b2
  refine lx_boxr 3 hGF rfl rfl rfl ?_
  intro b3
  refine lx_allocr 4 hGF zv34 rfl rfl ?_
  intro b4
  refine lx_nil ?_
  refine xs_drawA (E := EE [2999999]) [0, 1, 2, 3, 4, 5, 6, 7, 8, 9] [⟨10, 5, 32, ((fe 0 ++ fe 0) ++ ((fe 0 ++ fe 0) ++ (fe 0 ++ fe 0))).map U64⟩, ⟨11, 6, 32, ((fe 0 ++ fe 0) ++ ((fe 0 ++ fe 0) ++ (fe 0 ++ fe 0))).map U64⟩] [12, 13] mixed rfl (by kernel_rfl) (by kernel_rfl) (by kernel_rfl) (by kernel_rfl) (by kernel_rfl) (by kernel_rfl) (by decide) (by intro x hx; simp only [List.mem_cons, List.not_mem_nil, or_false] at hx; rcases hx with rfl | rfl <;> exact isAlloc_mk rfl zv32 rfl) ?_
  refine lx_fak 0 rfl Tryd.underlying34 rfl Tryd.sizeOf32 (by decide) rfl rfl rfl ?_
  refine lx_loado 2 _ rfl rfl Tryd.isAgg32 Tryd.sizeOf32 (by simp) ld_l rfl rfl ?_
  refine lx_fak 0 rfl Tryd.underlying34 rfl Tryd.sizeOf32 (by decide) rfl rfl rfl ?_
  refine lx_loado 3 _ rfl rfl Tryd.isAgg32 Tryd.sizeOf32 (by simp) ld_l rfl rfl ?_
  refine lx_call rfl rfl ent27 (k6mul _ _) rfl rfl ?_
  refine lx_fak 36 rfl Tryd.underlying34 rfl Tryd.sizeOf32 (by decide) rfl rfl rfl ?_
  refine lx_loado 2 _ rfl rfl Tryd.isAgg32 Tryd.sizeOf32 (by simp) (ld_r (by simp)) rfl rfl ?_
  refine lx_fak 36 rfl Tryd.underlying34 rfl Tryd.sizeOf32 (by decide) rfl rfl rfl ?_
  refine lx_loado 3 _ rfl rfl Tryd.isAgg32 Tryd.sizeOf32 (by simp) (ld_r (by simp)) rfl rfl ?_
  refine lx_call rfl rfl ent27 (k6mul _ _) rfl rfl ?_
  refine lx_nil ?_
  refine ⟨_, _, rfl, hGF, by intro x hx; simp only [List.mem_cons, List.not_mem_nil, or_false] at hx; rcases hx with rfl | rfl <;> rfl, by intro x hx; simp only [List.mem_cons, List.not_mem_nil, or_false] at hx; rcases hx with rfl | rfl <;> rfl, fun adr => ?_⟩
  refine lx_storea 5 hGF rfl rfl rfl Tryd.sizeOf32 (by simp) (by simp) (one_u64 _) rfl ?_
  refine lx_storea 6 hGF rfl rfl rfl Tryd.sizeOf32 (by simp) (by simp) (one_u64 _) rfl ?_
  refine lx_nil ?_
  refine xs_drawA (E := EE [2999999]) [0, 1, 2, 3, 4, 5, 6, 7, 8, 9, 10] [⟨11, 7, 32, ((fe 0 ++ fe 0) ++ ((fe 0 ++ fe 0) ++ (fe 0 ++ fe 0))).map U64⟩] [12] mixed rfl (by kernel_rfl) (by kernel_rfl) (by kernel_rfl) (by kernel_rfl) (by kernel_rfl) (by kernel_rfl) (by decide) (by intro x hx; simp only [List.mem_cons, List.not_mem_nil, or_false] at hx; subst hx; exact isAlloc_mk rfl zv32 rfl) ?_
  refine lx_fak 0 rfl Tryd.underlying34 rfl Tryd.sizeOf32 (by decide) rfl rfl rfl ?_
  refine lx_loado 2 _ rfl rfl Tryd.isAgg32 Tryd.sizeOf32 (by simp) ld_l rfl rfl ?_
  refine lx_fak 36 rfl Tryd.underlying34 rfl Tryd.sizeOf32 (by decide) rfl rfl rfl ?_
  refine lx_loado 2 _ rfl rfl Tryd.isAgg32 Tryd.sizeOf32 (by simp) (ld_r (by simp)) rfl rfl ?_
  refine lx_call rfl rfl ent28 (k6add _ _) rfl rfl ?_
  refine lx_fak 0 rfl Tryd.underlying34 rfl Tryd.sizeOf32 (by decide) rfl rfl rfl ?_
  refine lx_loado 3 _ rfl rfl Tryd.isAgg32 Tryd.sizeOf32 (by simp) ld_l rfl rfl ?_
  refine lx_fak 36 rfl Tryd.underlying34 rfl Tryd.sizeOf32 (by decide) rfl rfl rfl ?_
  refine lx_loado 3 _ rfl rfl Tryd.isAgg32 Tryd.sizeOf32 (by simp) (ld_r (by simp)) rfl rfl ?_
  refine lx_call rfl rfl ent28 (k6add _ _) rfl rfl ?_
  refine lx_call rfl rfl ent27 (k6mul _ _) rfl rfl ?_
  refine lx_nil ?_
  refine ⟨_, _, rfl, hGF, by intro x hx; simp only [List.mem_cons, List.not_mem_nil, or_false] at hx; subst hx; rfl, by intro x hx; simp only [List.mem_cons, List.not_mem_nil, or_false] at hx; subst hx; rfl, fun adr => ?_⟩
  refine lx_storea 7 hGF rfl rfl rfl Tryd.sizeOf32 (by simp) (by simp) (one_u64 _) rfl ?_
  refine lx_nil ?_
  refine xs_drawn (E := EE []) mixed (by kernel_rfl) (by kernel_rfl) (by kernel_rfl) ?_
  refine lx_loada 5 rfl rfl Tryd.isAgg32 Tryd.sizeOf32 (by simp) rfl rfl ?_
  refine lx_loada 6 rfl rfl Tryd.isAgg32 Tryd.sizeOf32 (by simp) rfl rfl ?_
  refine lx_call rfl rfl ent29 (k6v _) rfl rfl ?_
  refine lx_call rfl rfl ent28 (k6add _ _) rfl rfl ?_
  refine lx_loada 7 rfl rfl Tryd.isAgg32 Tryd.sizeOf32 (by simp) rfl rfl ?_
  refine lx_loada 5 rfl rfl Tryd.isAgg32 Tryd.sizeOf32 (by simp) rfl rfl ?_
  refine lx_call rfl rfl ent30 (k6sub _ _) rfl rfl ?_
  refine lx_loada 6 rfl rfl Tryd.isAgg32 Tryd.sizeOf32 (by simp) rfl rfl ?_
  refine lx_call rfl rfl ent30 (k6sub _ _) rfl rfl ?_
  refine lx_two two34 rfl rfl (by simp) (by simp) rfl rfl ?_
  refine lx_storea 4 hGF rfl rfl rfl Tryd.sizeOf34 (by simp) (by simp) (one_u64 _) rfl ?_
  refine lx_nil ?_
  refine x_ret ?_
  repeat (first | refine kseq_ret ?_ | refine kblk_ret ?_)
  exact kret_own 4 rfl rfl rfl Tryd.isAgg34 Tryd.sizeOf34 (by simp) (fun w hw => ⟨e12 (Rg.same (R := K6) (ρ := ev K6 [x.1, x.2, y.1, y.2, VV]) (ta (tm (tv 0) (tv 2)) (tvv 4 (tm (tv 1) (tv 3)) rfl)) (ta (tm (tv 0) (tv 2)) (tm (tv 4) (tm (tv 1) (tv 3)))) (by kernel_rfl)) (Rg.same (R := K6) (ρ := ev K6 [x.1, x.2, y.1, y.2, VV]) (tsb6 (tsb6 (tm (ta (tv 0) (tv 1)) (ta (tv 2) (tv 3))) (tm (tv 0) (tv 2))) (tm (tv 1) (tv 3))) (ta (tm (tv 0) (tv 3)) (tm (tv 1) (tv 2))) (by kernel_rfl)), hp_below hw⟩)
theorem k12square (x : W12) : Pure Tryd.prog Gt 23 [EV12 x] (EV12 (K12.mul x x)) := by
  intro w hw
  have hGF : BOk Gt (pl w) := gt_low.plain hw
  refine calls_of_X (G := Gt) Tryd.func23 rfl rfl (Hp (pl w) []) (hp_refl (pl w) trivial rides_true) (good_hp hGF) ?_
  refine xs_plain (E := EE []) ?_
  refine lx_boxr 1 hGF rfl rfl rfl ?_
  intro b1
  refine lx_allocr 2 hGF zv34 rfl rfl ?_
  intro b2
  refine lx_nil ?_
  refine xs_plain (E := EE []) ?_
  refine lx_fak 0 rfl Tryd.underlying34 rfl Tryd.sizeOf32 (by decide) rfl rfl rfl ?_
  refine lx_loado 1 _ rfl rfl Tryd.isAgg32 Tryd.sizeOf32 (by simp) ld_l rfl rfl ?_
  refine lx_fak 36 rfl Tryd.underlying34 rfl Tryd.sizeOf32 (by decide) rfl rfl rfl ?_
  refine lx_loado 1 _ rfl rfl Tryd.isAgg32 Tryd.sizeOf32 (by simp) (ld_r (by simp)) rfl rfl ?_
  refine lx_call rfl rfl ent27 (k6mul _ _) rfl rfl ?_
  refine lx_allocr 3 hGF zv32 rfl rfl ?_
  intro b3
  refine lx_storea 3 hGF rfl rfl rfl Tryd.sizeOf32 (by simp) (by simp) (one_u64 _) rfl ?_
  refine lx_nil ?_
  refine xs_drawA (E := EE [2999999]) [0, 1, 2, 3, 4, 5, 6, 7, 8, 9, 10, 11] [⟨12, 4, 32, ((fe 0 ++ fe 0) ++ ((fe 0 ++ fe 0) ++ (fe 0 ++ fe 0))).map U64⟩] [13] mixed rfl (by kernel_rfl) (by kernel_rfl) (by kernel_rfl) (by kernel_rfl) (by kernel_rfl) (by kernel_rfl) (by decide) (by intro x hx; simp only [List.mem_cons, List.not_mem_nil, or_false] at hx; subst hx; exact isAlloc_mk rfl zv32 rfl) ?_
  refine lx_fak 0 rfl Tryd.underlying34 rfl Tryd.sizeOf32 (by decide) rfl rfl rfl ?_
  refine lx_loado 1 _ rfl rfl Tryd.isAgg32 Tryd.sizeOf32 (by simp) ld_l rfl rfl ?_
  refine lx_fak 36 rfl Tryd.underlying34 rfl Tryd.sizeOf32 (by decide) rfl rfl rfl ?_
  refine lx_loado 1 _ rfl rfl Tryd.isAgg32 Tryd.sizeOf32 (by simp) (ld_r (by simp)) rfl rfl ?_
  refine lx_call rfl rfl ent28 (k6add _ _) rfl rfl ?_
  refine lx_fak 0 rfl Tryd.underlying34 rfl Tryd.sizeOf32 (by decide) rfl rfl rfl ?_
  refine lx_loado 1 _ rfl rfl Tryd.isAgg32 Tryd.sizeOf32 (by simp) ld_l rfl rfl ?_
  refine lx_fak 36 rfl Tryd.underlying34 rfl Tryd.sizeOf32 (by decide) rfl rfl rfl ?_
  refine lx_loado 1 _ rfl rfl Tryd.isAgg32 Tryd.sizeOf32 (by simp) (ld_r (by simp)) rfl rfl ?_
  refine lx_call rfl rfl ent29 (k6v _) rfl rfl ?_
  refine lx_call rfl rfl ent28 (k6add _ _) rfl rfl ?_
  refine lx_call rfl rfl ent27 (k6mul _ _) rfl rfl ?_
  refine lx_nil ?_
  refine ⟨_, _, rfl, hGF, by intro x hx; simp only [List.mem_cons, List.not_mem_nil, or_false] at hx; subst hx; rfl, by intro x hx; simp only [List.mem_cons, List.not_mem_nil, or_false] at hx; subst hx; rfl, fun adr => ?_⟩
  refine lx_storea 4 hGF rfl rfl rfl Tryd.sizeOf32 (by simp) (by simp) (one_u64 _) rfl ?_
  refine lx_nil ?_
  refine xs_drawn (E := EE []) mixed (by kernel_rfl) (by kernel_rfl) (by kernel_rfl) ?_
  refine lx_loada 4 rfl rfl Tryd.isAgg32 Tryd.sizeOf32 (by simp) rfl rfl ?_
  refine lx_loada 3 rfl rfl Tryd.isAgg32 Tryd.sizeOf32 (by simp) rfl rfl ?_
  refine lx_call rfl rfl ent30 (k6sub _ _) rfl rfl ?_
  refine lx_loada 3 rfl rfl Tryd.isAgg32 Tryd.sizeOf32 (by simp) rfl rfl ?_
  refine lx_call rfl rfl ent29 (k6v _) rfl rfl ?_
  refine lx_call rfl rfl ent30 (k6sub _ _) rfl rfl ?_
  refine lx_loada 3 rfl rfl Tryd.isAgg32 Tryd.sizeOf32 (by simp) rfl rfl ?_
  refine lx_loada 3 rfl rfl Tryd.isAgg32 Tryd.sizeOf32 (by simp) rfl rfl ?_
  refine lx_call rfl rfl ent28 (k6add _ _) rfl rfl ?_
  refine lx_two two34 rfl rfl (by simp) (by simp) rfl rfl ?_
  refine lx_storea 2 hGF rfl rfl rfl Tryd.sizeOf34 (by simp) (by simp) (one_u64 _) rfl ?_
  refine lx_nil ?_
  refine x_ret ?_
  repeat (first | refine kseq_ret ?_ | refine kblk_ret ?_)
  exact kret_own 2 rfl rfl rfl Tryd.isAgg34 Tryd.sizeOf34 (by simp) (fun w hw => ⟨e12 (Rg.same (R := K6) (ρ := ev K6 [x.1, x.2, VV]) (tsb6 (tsb6 (tm (ta (tv 0) (tv 1)) (ta (tv 0) (tvv 2 (tv 1) rfl))) (tm (tv 0) (tv 1))) (tvv 2 (tm (tv 0) (tv 1)) rfl)) (ta (tm (tv 0) (tv 0)) (tm (tv 2) (tm (tv 1) (tv 1)))) (by kernel_rfl)) (Rg.same (R := K6) (ρ := ev K6 [x.1, x.2, VV]) (ta (tm (tv 0) (tv 1)) (tm (tv 0) (tv 1))) (ta (tm (tv 0) (tv 1)) (tm (tv 1) (tv 0))) (by kernel_rfl)), hp_below hw⟩)
theorem n12_eq (x : W12) : sb6 (K6.mul x.1 x.1) (v6 (K6.mul x.2 x.2)) = qnm K6 VV x := Rg.same (R := K6) (ρ := ev K6 [x.1, x.2, VV]) (tsb6 (tm (tv 0) (tv 0)) (tvv 2 (tm (tv 1) (tv 1)) rfl)) (ta (tm (tv 0) (tv 0)) (tn (tm (tv 2) (tm (tv 1) (tv 1))))) (by kernel_rfl)
theorem i12_a (x : W12) (n : W6) : K6.mul x.1 n = K6.add (K6.mul x.1 n) (K6.mul VV (K6.mul (K6.neg x.2) K6.zero)) := Rg.same (R := K6) (ρ := ev K6 [x.1, x.2, n, VV]) (tm (tv 0) (tv 2)) (ta (tm (tv 0) (tv 2)) (tm (tv 3) (tm (tn (tv 1)) tz0))) (by kernel_rfl)
theorem i12_b (x : W12) (n : W6) : K6.neg (K6.mul x.2 n) = K6.add (K6.mul x.1 K6.zero) (K6.mul (K6.neg x.2) n) := Rg.same (R := K6) (ρ := ev K6 [x.1, x.2, n]) (tn (tm (tv 1) (tv 2))) (ta (tm (tv 0) tz0) (tm (tn (tv 1)) (tv 2))) (by kernel_rfl)
theorem k12inv (x : W12) : Pure Tryd.prog Gt 15 [EV12 x] (EV12 (iv12 x)) := by
  intro w hw
  have hGF : BOk Gt (pl w) := gt_low.plain hw
  refine calls_of_X (G := Gt) Tryd.func15 rfl rfl (Hp (pl w) []) (hp_refl (pl w) trivial rides_true) (good_hp hGF) ?_
  refine xs_plain (E := EE []) ?_
  refine lx_boxr 1 hGF rfl rfl rfl ?_
  intro b1
  refine lx_allocr 2 hGF zv34 rfl rfl ?_
  intro b2
  refine lx_nil ?_
  refine xs_drawA (E := EE [2999999]) [0, 1, 2, 3, 4, 5, 6, 7] [⟨8, 3, 32, ((fe 0 ++ fe 0) ++ ((fe 0 ++ fe 0) ++ (fe 0 ++ fe 0))).map U64⟩] [9] mixed rfl (by kernel_rfl) (by kernel_rfl) (by kernel_rfl) (by kernel_rfl) (by kernel_rfl) (by kernel_rfl) (by decide) (by intro x hx; simp only [List.mem_cons, List.not_mem_nil, or_false] at hx; subst hx; exact isAlloc_mk rfl zv32 rfl) ?_
  refine lx_fak 0 rfl Tryd.underlying34 rfl Tryd.sizeOf32 (by decide) rfl rfl rfl ?_
  refine lx_loado 1 _ rfl rfl Tryd.isAgg32 Tryd.sizeOf32 (by simp) ld_l rfl rfl ?_
  refine lx_call rfl rfl ent32 (k6square _) rfl rfl ?_
  refine lx_fak 36 rfl Tryd.underlying34 rfl Tryd.sizeOf32 (by decide) rfl rfl rfl ?_
  refine lx_loado 1 _ rfl rfl Tryd.isAgg32 Tryd.sizeOf32 (by simp) (ld_r (by simp)) rfl rfl ?_
  refine lx_call rfl rfl ent32 (k6square _) rfl rfl ?_
  refine lx_call rfl rfl ent29 (k6v _) rfl rfl ?_
  refine lx_call rfl rfl ent30 (k6sub _ _) rfl rfl ?_
  refine lx_nil ?_
  refine ⟨_, _, rfl, hGF, by intro x hx; simp only [List.mem_cons, List.not_mem_nil, or_false] at hx; subst hx; rfl, by intro x hx; simp only [List.mem_cons, List.not_mem_nil, or_false] at hx; subst hx; rfl, fun adr => ?_⟩
  refine lx_storea 3 hGF rfl rfl rfl Tryd.sizeOf32 (by simp) (by simp) (one_u64 _) rfl ?_
  refine lx_nil ?_
  refine xs_plain (E := EE []) ?_
  refine lx_loada 3 rfl rfl Tryd.isAgg32 Tryd.sizeOf32 (by simp) rfl rfl ?_
  refine lx_call rfl rfl ent33 (k6inv _) rfl rfl ?_
  refine lx_allocr 4 hGF zv32 rfl rfl ?_
  intro b4
  refine lx_storea 4 hGF rfl rfl rfl Tryd.sizeOf32 (by simp) (by simp) (one_u64 _) rfl ?_
  refine lx_nil ?_
  refine xs_drawn (E := EE []) mixed (by kernel_rfl) (by kernel_rfl) (by kernel_rfl) ?_
  refine lx_fak 0 rfl Tryd.underlying34 rfl Tryd.sizeOf32 (by decide) rfl rfl rfl ?_
  refine lx_loado 1 _ rfl rfl Tryd.isAgg32 Tryd.sizeOf32 (by simp) ld_l rfl rfl ?_
  refine lx_loada 4 rfl rfl Tryd.isAgg32 Tryd.sizeOf32 (by simp) rfl rfl ?_
  refine lx_call rfl rfl ent27 (k6mul _ _) rfl rfl ?_
  refine lx_fak 36 rfl Tryd.underlying34 rfl Tryd.sizeOf32 (by decide) rfl rfl rfl ?_
  refine lx_loado 1 _ rfl rfl Tryd.isAgg32 Tryd.sizeOf32 (by simp) (ld_r (by simp)) rfl rfl ?_
  refine lx_loada 4 rfl rfl Tryd.isAgg32 Tryd.sizeOf32 (by simp) rfl rfl ?_
  refine lx_call rfl rfl ent27 (k6mul _ _) rfl rfl ?_
  refine lx_call rfl rfl ent34 (k6neg _) rfl rfl ?_
  refine lx_two two34 rfl rfl (by simp) (by simp) rfl rfl ?_
  refine lx_storea 2 hGF rfl rfl rfl Tryd.sizeOf34 (by simp) (by simp) (one_u64 _) rfl ?_
  refine lx_nil ?_
  refine x_ret ?_
  repeat (first | refine kseq_ret ?_ | refine kblk_ret ?_)
  exact kret_own 2 rfl rfl rfl Tryd.isAgg34 Tryd.sizeOf34 (by simp) (fun w hw => ⟨by rw [n12_eq]; exact e12 (i12_a _ _) (i12_b _ _), hp_below hw⟩)
end Go.Proofs.YtbpifgcbkhohbaaDoor
