/-
  The walks of package fr: elements of r.
-/
import Derived.Test.YtfknmeefbccflaaGreatDoorV4
import Derived.Test.YtfknmeefbccflaaGreatDoorX4
namespace Go.Proofs.YtfknmeefbccflaaGreatDoor
open Go.RowKit
set_option maxRecDepth 100000
set_option maxHeartbeats 1000000

attribute [local simp] nr_len AS_len SS_len MONT_len FRs_len BYs_len by32_len MLl LIFTl IVRl SQP_len FL_len
/-- An element as a value. -/
abbrev RV (x : Zr) : Value := .agg ((nr x).map U64).toArray
theorem zv70 (w : World) : (zeroValue 70).run Tryz.prog w = .ok (.agg ((List.replicate 6 (0#64)).map U64).toArray) w := (Tryz.zeroValue70 w).trans (by rfl)
theorem zv72 (w : World) : (zeroValue 72).run Tryz.prog w = .ok (.agg ((List.replicate 32 (0#8)).map U8).toArray) w := (Tryz.zeroValue72 w).trans (by rfl)
theorem qbeq_t {x y : BitVec 64} (h : (x == y) = true) : x = y := beq_iff_eq.1 h
theorem qbeq_f {x y : BitVec 64} (h : (x == y) = false) : ¬ x = y := beq_eq_false_iff_ne.1 h
theorem ent45 : Enters Tryz.prog 45 := fun _ _ => by kernel_rfl
theorem ent39 : Enters Tryz.prog 39 := fun _ _ => by kernel_rfl
theorem ent40 : Enters Tryz.prog 40 := fun _ _ => by kernel_rfl
theorem ent81 : Enters Tryz.prog 81 := fun _ _ => by kernel_rfl
theorem ent86 : Enters Tryz.prog 86 := fun _ _ => by kernel_rfl
theorem ent42 : Enters Tryz.prog 42 := fun _ _ => by kernel_rfl
theorem ent87 : Enters Tryz.prog 87 := fun _ _ => by kernel_rfl
theorem ent44 : Enters Tryz.prog 44 := fun _ _ => by kernel_rfl
theorem ent43 : Enters Tryz.prog 43 := fun _ _ => by kernel_rfl
theorem ent83 : Enters Tryz.prog 83 := fun _ _ => by kernel_rfl
theorem qprod_pure (a b : List (BitVec 64)) (ha : a.length = 6) (hb : b.length = 6) : Pure Tryz.prog Gt 86 [NV a, NV b] (NV (MONT (MONT a b ML) LIFT ML)) := by
  intro w hw
  have hGF : BOk Gt (pl w) := gt_low.plain hw
  refine calls_of_X (G := Gt) Tryz.func86 rfl rfl (Hp (pl w) []) (hp_refl (pl w) trivial rides_true) (good_hp hGF) ?_
  refine xs_plain (E := EE []) ?_
  refine lx_boxr 2 hGF rfl rfl rfl ?_
  intro b2
  refine lx_boxr 3 hGF rfl rfl rfl ?_
  intro b3
  refine lx_allocr 4 hGF zv26 rfl rfl ?_
  intro b4
  refine lx_nil ?_
  refine xs_drawn (E := EE []) mixed (by kernel_rfl) (by kernel_rfl) (by kernel_rfl) ?_
  refine lx_loada 2 rfl rfl Tryz.isAgg26 Tryz.sizeOf26 (by first | (simp; done) | exact ha | exact hb | (rw [List.length_map]; exact ha) | (rw [List.length_map]; exact hb)) rfl rfl ?_
  refine lx_loada 3 rfl rfl Tryz.isAgg26 Tryz.sizeOf26 (by first | (simp; done) | exact ha | exact hb | (rw [List.length_map]; exact ha) | (rw [List.length_map]; exact hb)) rfl rfl ?_
  refine lx_gl hGF Tryz.isAgg26 Tryz.sizeOf26 (by first | (simp; done) | exact ha | exact hb | (rw [List.length_map]; exact ha) | (rw [List.length_map]; exact hb)) (fun _ h => h.g1) rfl rfl ?_
  refine lx_call rfl rfl ent80 (mont_pure _ _ _ (by first | (simp; done) | exact ha | exact hb | (rw [List.length_map]; exact ha) | (rw [List.length_map]; exact hb)) (by first | (simp; done) | exact ha | exact hb | (rw [List.length_map]; exact ha) | (rw [List.length_map]; exact hb)) (by first | (simp; done) | exact ha | exact hb | (rw [List.length_map]; exact ha) | (rw [List.length_map]; exact hb))) rfl rfl ?_
  refine lx_gl hGF Tryz.isAgg26 Tryz.sizeOf26 (by first | (simp; done) | exact ha | exact hb | (rw [List.length_map]; exact ha) | (rw [List.length_map]; exact hb)) (fun _ h => h.g0) rfl rfl ?_
  refine lx_gl hGF Tryz.isAgg26 Tryz.sizeOf26 (by first | (simp; done) | exact ha | exact hb | (rw [List.length_map]; exact ha) | (rw [List.length_map]; exact hb)) (fun _ h => h.g1) rfl rfl ?_
  refine lx_call rfl rfl ent80 (mont_pure _ _ _ (by first | (simp; done) | exact ha | exact hb | (rw [List.length_map]; exact ha) | (rw [List.length_map]; exact hb)) (by first | (simp; done) | exact ha | exact hb | (rw [List.length_map]; exact ha) | (rw [List.length_map]; exact hb)) (by first | (simp; done) | exact ha | exact hb | (rw [List.length_map]; exact ha) | (rw [List.length_map]; exact hb))) rfl rfl ?_
  refine lx_storea 4 hGF rfl rfl rfl Tryz.sizeOf26 (by first | (simp; done) | exact ha | exact hb | (rw [List.length_map]; exact ha) | (rw [List.length_map]; exact hb)) (by first | (simp; done) | exact ha | exact hb | (rw [List.length_map]; exact ha) | (rw [List.length_map]; exact hb)) (one_u64 _) rfl ?_
  refine lx_nil ?_
  refine x_ret ?_
  repeat (first | refine kseq_ret ?_ | refine kblk_ret ?_)
  exact kret_own 4 rfl rfl rfl Tryz.isAgg26 Tryz.sizeOf26 (by first | (simp; done) | exact ha | exact hb | (rw [List.length_map]; exact ha) | (rw [List.length_map]; exact hb)) (fun w hw => ⟨rfl, hp_below hw⟩)
theorem qmul_pure (x y : Zr) : Pure Tryz.prog Gt 43 [RV x, RV y] (RV (x * y)) := by
  intro w hw
  have hGF : BOk Gt (pl w) := gt_low.plain hw
  refine calls_of_X (G := Gt) Tryz.func43 rfl rfl (Hp (pl w) []) (hp_refl (pl w) trivial rides_true) (good_hp hGF) ?_
  refine xs_plain (E := EE []) ?_
  refine lx_boxr 2 hGF rfl rfl rfl ?_
  intro b2
  refine lx_boxr 3 hGF rfl rfl rfl ?_
  intro b3
  refine lx_allocr 4 hGF zv70 rfl rfl ?_
  intro b4
  refine lx_nil ?_
  refine xs_plain (E := EE []) ?_
  refine lx_fak 0 rfl Tryz.underlying70 rfl Tryz.sizeOf26 (by decide) rfl rfl rfl ?_
  refine lx_loada 2 rfl rfl Tryz.isAgg26 Tryz.sizeOf26 (by simp) rfl rfl ?_
  refine lx_fak 0 rfl Tryz.underlying70 rfl Tryz.sizeOf26 (by decide) rfl rfl rfl ?_
  refine lx_loada 3 rfl rfl Tryz.isAgg26 Tryz.sizeOf26 (by simp) rfl rfl ?_
  refine lx_call rfl rfl ent86 (qprod_pure _ _ (by simp) (by simp)) rfl rfl ?_
  refine lx_buildS rfl (by simp) Tryz.underlying70 rfl Tryz.sizeOf26 zv70 rfl rfl ?_
  refine lx_storea 4 hGF rfl rfl rfl Tryz.sizeOf70 (by simp) (by simp) (one_u64 _) rfl ?_
  refine lx_nil ?_
  refine x_ret ?_
  repeat (first | refine kseq_ret ?_ | refine kblk_ret ?_)
  exact kret_own 4 rfl rfl rfl Tryz.isAgg70 Tryz.sizeOf70 (by simp) (fun w hw => ⟨by rw [MONT_prod], hp_below hw⟩)
theorem qelem_pure (n : List (BitVec 64)) (hn : n.length = 6) : Pure Tryz.prog Gt 81 [NV n] (RV (zr (V n 6))) := by
  intro w hw
  have hGF : BOk Gt (pl w) := gt_low.plain hw
  refine calls_of_X (G := Gt) Tryz.func81 rfl rfl (Hp (pl w) []) (hp_refl (pl w) trivial rides_true) (good_hp hGF) ?_
  refine xs_plain (E := EE []) ?_
  refine lx_boxr 1 hGF rfl rfl rfl ?_
  intro b1
  refine lx_allocr 2 hGF zv70 rfl rfl ?_
  intro b2
  refine lx_nil ?_
  refine xs_plain (E := EE []) ?_
  refine lx_build1 1 rfl Tryz.underlying26 Tryz.sizeOf25 zv26 rfl rfl ?_
  refine lx_loada 1 rfl rfl Tryz.isAgg26 Tryz.sizeOf26 (by first | (simp; done) | simp [hn]) rfl rfl ?_
  refine lx_call rfl rfl ent86 (qprod_pure _ _ (by first | (simp; done) | simp [hn]) (by first | (simp; done) | simp [hn])) rfl rfl ?_
  refine lx_buildS rfl (by first | (simp; done) | simp [hn]) Tryz.underlying70 rfl Tryz.sizeOf26 zv70 rfl rfl ?_
  refine lx_storea 2 hGF rfl rfl rfl Tryz.sizeOf70 (by first | (simp; done) | simp [hn]) (by first | (simp; done) | simp [hn]) (one_u64 _) rfl ?_
  refine lx_nil ?_
  refine x_ret ?_
  repeat (first | refine kseq_ret ?_ | refine kblk_ret ?_)
  exact kret_own 2 rfl rfl rfl Tryz.isAgg70 Tryz.sizeOf70 (by first | (simp; done) | simp [hn]) (fun w hw => ⟨congrArg (fun l => Ending.returned (NV l)) (MONT_elem n), hp_below hw⟩)
theorem qof_pure (n : BitVec 64) : Pure Tryz.prog Gt 45 [U64 n] (RV (zr n.toNat)) := by
  intro w hw
  have hGF : BOk Gt (pl w) := gt_low.plain hw
  refine calls_of_X (G := Gt) Tryz.func45 rfl rfl (Hp (pl w) []) (hp_refl (pl w) trivial rides_true) (good_hp hGF) ?_
  refine xs_plain (E := EE []) ?_
  refine lx_allocr 2 hGF zv70 rfl rfl ?_
  intro b2
  refine lx_nil ?_
  refine xs_plain (E := EE []) ?_
  refine lx_move rfl rfl rfl ?_
  refine lx_build1 n rfl Tryz.underlying26 Tryz.sizeOf25 zv26 rfl rfl ?_
  refine lx_buildS rfl (by simp) Tryz.underlying70 rfl Tryz.sizeOf26 zv70 rfl rfl ?_
  refine lx_storea 2 hGF rfl rfl rfl Tryz.sizeOf70 (by simp) (by simp) (one_u64 _) rfl ?_
  refine lx_nil ?_
  refine x_ret ?_
  repeat (first | refine kseq_ret ?_ | refine kblk_ret ?_)
  exact kret_own 2 rfl rfl rfl Tryz.isAgg70 Tryz.sizeOf70 (by simp) (fun w hw => ⟨congrArg (fun l => Ending.returned (NV l)) (nr_small n), hp_below hw⟩)
theorem qadd_pure (x y : Zr) : Pure Tryz.prog Gt 42 [RV x, RV y] (RV (x + y)) := by
  intro w hw
  have hGF : BOk Gt (pl w) := gt_low.plain hw
  refine calls_of_X (G := Gt) Tryz.func42 rfl rfl (Hp (pl w) []) (hp_refl (pl w) trivial rides_true) (good_hp hGF) ?_
  refine xs_plain (E := EE []) ?_
  refine lx_boxr 2 hGF rfl rfl rfl ?_
  intro b2
  refine lx_boxr 3 hGF rfl rfl rfl ?_
  intro b3
  refine lx_allocr 4 hGF zv70 rfl rfl ?_
  intro b4
  refine lx_nil ?_
  refine xs_plain (E := EE []) ?_
  refine lx_fak 0 rfl Tryz.underlying70 rfl Tryz.sizeOf26 (by decide) rfl rfl rfl ?_
  refine lx_loada 2 rfl rfl Tryz.isAgg26 Tryz.sizeOf26 (by simp) rfl rfl ?_
  refine lx_fak 0 rfl Tryz.underlying70 rfl Tryz.sizeOf26 (by decide) rfl rfl rfl ?_
  refine lx_loada 3 rfl rfl Tryz.isAgg26 Tryz.sizeOf26 (by simp) rfl rfl ?_
  refine lx_call rfl rfl ent84 (add_pure _ _ (by simp) (by simp)) rfl rfl ?_
  refine lx_move rfl rfl rfl ?_
  refine lx_ext rfl rfl rfl rfl ?_
  refine lx_ext rfl rfl rfl rfl ?_
  refine lx_allocr 5 hGF zv26 rfl rfl ?_
  intro b5
  refine lx_storea 5 hGF rfl rfl rfl Tryz.sizeOf26 (by simp) (by simp) (one_u64 _) rfl ?_
  refine lx_assign rfl rfl rfl ?_
  refine lx_nil ?_
  refine xs_plain (E := EE []) ?_
  refine lx_loada 5 rfl rfl Tryz.isAgg26 Tryz.sizeOf26 (by simp) rfl rfl ?_
  refine lx_gl hGF Tryz.isAgg26 Tryz.sizeOf26 (by simp) (fun _ h => h.g1) rfl rfl ?_
  refine lx_call rfl rfl ent85 (sub_pure _ _ (by simp) (by simp)) rfl rfl ?_
  refine lx_move rfl rfl rfl ?_
  refine lx_ext rfl rfl rfl rfl ?_
  refine lx_ext rfl rfl rfl rfl ?_
  refine lx_allocr 7 hGF zv26 rfl rfl ?_
  intro b7
  refine lx_storea 7 hGF rfl rfl rfl Tryz.sizeOf26 (by simp) (by simp) (one_u64 _) rfl ?_
  refine lx_assign rfl rfl rfl ?_
  refine lx_nil ?_
  refine x_seq ?_
  refine xs_plain (E := EE []) ?_
  refine lx_move rfl rfl rfl ?_
  refine lx_bin rfl rfl (fun _ => rfl) (fun _ => bin_eql_u64 _ _ _) rfl rfl ?_
  refine lx_nil ?_
  refine x_if rfl (fun hc => ?_) (fun hc => ?_)
  · skip
    refine xs_plain (E := EE []) ?_
    refine lx_loada 5 rfl rfl Tryz.isAgg26 Tryz.sizeOf26 (by simp) rfl rfl ?_
    refine lx_buildS rfl (by simp) Tryz.underlying70 rfl Tryz.sizeOf26 zv70 rfl rfl ?_
    refine lx_storea 4 hGF rfl rfl rfl Tryz.sizeOf70 (by simp) (by simp) (one_u64 _) rfl ?_
    refine lx_nil ?_
    refine x_ret ?_
    repeat (first | refine kseq_ret ?_ | refine kblk_ret ?_)
    exact kret_own 4 rfl rfl rfl Tryz.isAgg70 Tryz.sizeOf70 (by simp) (fun w hw => ⟨by rw [qadd_low (qbeq_t hc)], hp_below hw⟩)
  · skip
    refine x_skip ?_
    refine xs_plain (E := EE []) ?_
    refine lx_loada 7 rfl rfl Tryz.isAgg26 Tryz.sizeOf26 (by simp) rfl rfl ?_
    refine lx_buildS rfl (by simp) Tryz.underlying70 rfl Tryz.sizeOf26 zv70 rfl rfl ?_
    refine lx_storea 4 hGF rfl rfl rfl Tryz.sizeOf70 (by simp) (by simp) (one_u64 _) rfl ?_
    refine lx_nil ?_
    refine x_ret ?_
    repeat (first | refine kseq_ret ?_ | refine kblk_ret ?_)
    exact kret_own 4 rfl rfl rfl Tryz.isAgg70 Tryz.sizeOf70 (by simp) (fun w hw => ⟨by rw [qadd_high (one_or (SS_c _ _ _) (qbeq_f hc))], hp_below hw⟩)
theorem qsub_pure (x y : Zr) : Pure Tryz.prog Gt 87 [RV x, RV y] (RV (x - y)) := by
  intro w hw
  have hGF : BOk Gt (pl w) := gt_low.plain hw
  refine calls_of_X (G := Gt) Tryz.func87 rfl rfl (Hp (pl w) []) (hp_refl (pl w) trivial rides_true) (good_hp hGF) ?_
  refine xs_plain (E := EE []) ?_
  refine lx_boxr 2 hGF rfl rfl rfl ?_
  intro b2
  refine lx_boxr 3 hGF rfl rfl rfl ?_
  intro b3
  refine lx_allocr 4 hGF zv70 rfl rfl ?_
  intro b4
  refine lx_nil ?_
  refine xs_plain (E := EE []) ?_
  refine lx_fak 0 rfl Tryz.underlying70 rfl Tryz.sizeOf26 (by decide) rfl rfl rfl ?_
  refine lx_loada 2 rfl rfl Tryz.isAgg26 Tryz.sizeOf26 (by simp) rfl rfl ?_
  refine lx_fak 0 rfl Tryz.underlying70 rfl Tryz.sizeOf26 (by decide) rfl rfl rfl ?_
  refine lx_loada 3 rfl rfl Tryz.isAgg26 Tryz.sizeOf26 (by simp) rfl rfl ?_
  refine lx_call rfl rfl ent85 (sub_pure _ _ (by simp) (by simp)) rfl rfl ?_
  refine lx_move rfl rfl rfl ?_
  refine lx_ext rfl rfl rfl rfl ?_
  refine lx_ext rfl rfl rfl rfl ?_
  refine lx_allocr 5 hGF zv26 rfl rfl ?_
  intro b5
  refine lx_storea 5 hGF rfl rfl rfl Tryz.sizeOf26 (by simp) (by simp) (one_u64 _) rfl ?_
  refine lx_assign rfl rfl rfl ?_
  refine lx_nil ?_
  refine x_seq ?_
  refine xs_plain (E := EE []) ?_
  refine lx_move rfl rfl rfl ?_
  refine lx_bin rfl rfl (fun _ => rfl) (fun _ => bin_eql_u64 _ _ _) rfl rfl ?_
  refine lx_nil ?_
  refine x_if rfl (fun hc => ?_) (fun hc => ?_)
  · skip
    refine x_plain (E := EE []) ?_
    refine lx_loada 5 rfl rfl Tryz.isAgg26 Tryz.sizeOf26 (by simp) rfl rfl ?_
    refine lx_gl hGF Tryz.isAgg26 Tryz.sizeOf26 (by simp) (fun _ h => h.g1) rfl rfl ?_
    refine lx_call rfl rfl ent84 (add_pure _ _ (by simp) (by simp)) rfl rfl ?_
    refine lx_move rfl rfl rfl ?_
    refine lx_ext rfl rfl rfl rfl ?_
    refine lx_ext rfl rfl rfl rfl ?_
    refine lx_storea 5 hGF rfl rfl rfl Tryz.sizeOf26 (by simp) (by simp) (one_u64 _) rfl ?_
    refine lx_nil ?_
    refine xs_plain (E := EE []) ?_
    refine lx_loada 5 rfl rfl Tryz.isAgg26 Tryz.sizeOf26 (by simp) rfl rfl ?_
    refine lx_buildS rfl (by simp) Tryz.underlying70 rfl Tryz.sizeOf26 zv70 rfl rfl ?_
    refine lx_storea 4 hGF rfl rfl rfl Tryz.sizeOf70 (by simp) (by simp) (one_u64 _) rfl ?_
    refine lx_nil ?_
    refine x_ret ?_
    repeat (first | refine kseq_ret ?_ | refine kblk_ret ?_)
    exact kret_own 4 rfl rfl rfl Tryz.isAgg70 Tryz.sizeOf70 (by simp) (fun w hw => ⟨by rw [qsub_low (qbeq_t hc)], hp_below hw⟩)
  · skip
    refine x_skip ?_
    refine xs_plain (E := EE []) ?_
    refine lx_loada 5 rfl rfl Tryz.isAgg26 Tryz.sizeOf26 (by simp) rfl rfl ?_
    refine lx_buildS rfl (by simp) Tryz.underlying70 rfl Tryz.sizeOf26 zv70 rfl rfl ?_
    refine lx_storea 4 hGF rfl rfl rfl Tryz.sizeOf70 (by simp) (by simp) (one_u64 _) rfl ?_
    refine lx_nil ?_
    refine x_ret ?_
    repeat (first | refine kseq_ret ?_ | refine kblk_ret ?_)
    exact kret_own 4 rfl rfl rfl Tryz.isAgg70 Tryz.sizeOf70 (by simp) (fun w hw => ⟨by rw [qsub_high (one_or (SS_c _ _ _) (qbeq_f hc))], hp_below hw⟩)
theorem qneg_pure (x : Zr) : Pure Tryz.prog Gt 44 [RV x] (RV (-x)) := by
  intro w hw
  have hGF : BOk Gt (pl w) := gt_low.plain hw
  refine calls_of_X (G := Gt) Tryz.func44 rfl rfl (Hp (pl w) []) (hp_refl (pl w) trivial rides_true) (good_hp hGF) ?_
  refine xs_plain (E := EE []) ?_
  refine lx_boxr 1 hGF rfl rfl rfl ?_
  intro b1
  refine lx_allocr 2 hGF zv70 rfl rfl ?_
  intro b2
  refine lx_nil ?_
  refine xs_plain (E := EE []) ?_
  refine lx_builds zv70 Tryz.underlying70 (bm_one Tryz.sizeOf26) rfl rfl ?_
  refine lx_loada 1 rfl rfl Tryz.isAgg70 Tryz.sizeOf70 (by simp) rfl rfl ?_
  refine lx_call rfl rfl ent87 ((show Pure Tryz.prog Gt 87 [NV (List.replicate 6 0#64), RV x] (RV (0 - x)) by rw [← nr_0]; exact qsub_pure 0 x)) rfl rfl ?_
  refine lx_storea 2 hGF rfl rfl rfl Tryz.sizeOf70 (by simp) (by simp) (one_u64 _) rfl ?_
  refine lx_nil ?_
  refine x_ret ?_
  repeat (first | refine kseq_ret ?_ | refine kblk_ret ?_)
  exact kret_own 2 rfl rfl rfl Tryz.isAgg70 Tryz.sizeOf70 (by simp) (fun w hw => ⟨by rw [show (0 : Zr) - x = -x by grind], hp_below hw⟩)
theorem qbytes_pure (x : Zr) : Pure Tryz.prog Gt 40 [RV x] (.agg ((by32 x).map U8).toArray) := by
  intro w hw
  have hGF : BOk Gt (pl w) := gt_low.plain hw
  refine calls_of_X (G := Gt) Tryz.func40 rfl rfl (Hp (pl w) []) (hp_refl (pl w) trivial rides_true) (good_hp hGF) ?_
  refine xs_plain (E := EE []) ?_
  refine lx_boxr 1 hGF rfl rfl rfl ?_
  intro b1
  refine lx_allocr 2 hGF zv72 rfl rfl ?_
  intro b2
  refine lx_nil ?_
  refine xs_plain (E := EE []) ?_
  refine lx_fak 0 rfl Tryz.underlying70 rfl Tryz.sizeOf26 (by decide) rfl rfl rfl ?_
  refine lx_loada 1 rfl rfl Tryz.isAgg26 Tryz.sizeOf26 (by simp) rfl rfl ?_
  refine lx_call rfl rfl ent82 (bytesOf_pure _ (by simp)) rfl rfl ?_
  refine lx_allocr 3 hGF zv107 rfl rfl ?_
  intro b3
  refine lx_storea 3 hGF rfl rfl rfl Tryz.sizeOf107 (by simp) (by simp) (one_u8 _) rfl ?_
  refine lx_nil ?_
  refine xs_plain (E := EE []) ?_
  refine lx_slarr1 (l := 16) (h' := 48) rfl Tryz.underlying107 Tryz.sizeOf5 rfl rfl (by omega) (by omega) rfl rfl ?_
  refine lx_s2a rfl Tryz.underlying72 (by decide) rfl rfl ?_
  refine lx_loado 3 ((by32 x).map U8) rfl rfl Tryz.isAgg72 Tryz.sizeOf72 (by simp) (by32_load x) rfl rfl ?_
  refine lx_storea 2 hGF rfl rfl rfl Tryz.sizeOf72 (by simp) (by simp) (one_u8 _) rfl ?_
  refine lx_nil ?_
  refine x_ret ?_
  repeat (first | refine kseq_ret ?_ | refine kblk_ret ?_)
  exact kret_own 2 rfl rfl rfl Tryz.isAgg72 Tryz.sizeOf72 (by simp) (fun w hw => ⟨rfl, hp_below hw⟩)
theorem qlfrom_small (a : Option Addr) (len cap : Nat) (bs : List (BitVec 8)) (hl : bs.length = len) (h : len ≤ 48) (w : World) (hw : Gt w) (hby : BytesAt w a bs) :
    Calls Tryz.prog 79 [.slice a len cap].toArray w (fun e w' => e = .returned (.tuple #[NV (FRs bs bs.length), .bool true]) ∧ Grow w w') := by
  subst hl
  exact (from_calls a cap bs w hw hby).mono fun e w' ⟨he, hg⟩ => ⟨by rw [he, if_neg (by omega)], hg⟩
/-- Where the loop over pieces stands. -/
structure QSt (w : World) (bs : List (BitVec 8)) where
  (k : Nat) (a : Option Addr) (c : Nat)
  hk : k ≤ bs.length
  hc : bs.length - k ≤ c
  hb : BytesAt w a (bs.drop k)
  hm : k = 0 ∨ (bs.length - k) % 48 = 0
theorem qstep_pure (y : Zr) : Pure Tryz.prog Gt 80 [NV LIFT, RV y, NV ML] (RV (y * qRZ)) := by
  have h := mont_pure LIFT (nr y) ML rfl (nr_len y) rfl
  rw [MONT_step] at h
  exact h
theorem qelemP_pure (bs : List (BitVec 8)) (h : bs.length ≤ 48) : Pure Tryz.prog Gt 81 [NV (FRs bs bs.length)] (RV (zr (BN bs bs.length))) := V_FRs bs h ▸ qelem_pure (FRs bs bs.length) (FRs_len _ _)
theorem qwide_calls (e : Option Addr) (cap : Nat) (bs : List (BitVec 8)) (hlen : bs.length ≤ 1000000) (hcap : bs.length ≤ cap) (w : World) (hw : Gt w) (hby : BytesAt w e bs) :
    Calls Tryz.prog 39 [.slice e bs.length cap].toArray w (fun r w' => r = .returned (RV (QB bs)) ∧ Grow w w') := by
  have hGF : BOk Gt (pl w) := gt_low.plain hw
  refine calls_of_X (G := Gt) Tryz.func39 rfl rfl (Hp (pl w) []) (hp_refl (pl w) trivial rides_true) (good_hp hGF) ?_
  refine xs_plain (E := EE []) ?_
  refine lx_allocr 2 hGF zv70 rfl rfl ?_
  intro b2
  refine lx_nil ?_
  refine xs_plain (E := EE []) ?_
  refine lx_allocr 3 hGF zv70 rfl rfl ?_
  intro b3
  refine lx_nil ?_
  refine x_seq ?_
  refine x_block ?_
  refine x_for (ι := QSt w bs) (fun x => [(0, .slice x.a (bs.length - x.k) x.c), (2, .pointer (some ⟨b2, 0, none⟩)), (3, .pointer (some ⟨b3, 0, none⟩))]) (fun x => [(2, b2, (List.replicate 6 0#64).map U64, 70), (3, b3, (nr (zr (BN bs x.k))).map U64, 70)]) (fun x => (bs.length - x.k)) ⟨0, e, cap, Nat.zero_le _, hcap, hby, .inl rfl⟩ hGF ⟨rfl, rfl, rfl, trivial⟩ ⟨rfl, by rw [BN, zr_0, nr_0]; rfl, trivial⟩ ?_
  intro x
  refine x_seq ?_
  refine xs_plain (E := EE []) ?_
  refine lx_move rfl rfl rfl ?_
  refine lx_len rfl (fun _ => len_slice Tryz.underlying22 _ _ _ _) rfl rfl ?_
  refine lx_bin rfl rfl (fun _ => rfl) (fun _ => bin_gtr_i _ _ _) rfl rfl ?_
  refine lx_nil ?_
  refine x_if rfl (fun hc => ?_) (fun hc => ?_)
  · have hn : 0 < (bs.length - x.k) := by simp at hc; omega
    clear hc
    have hlenx := x.hk
    have hcut := qcut_rest hn
    have hnext : BytesAt w (if x.c = (((bs.length - x.k) - 1) % 48 + 1) then x.a else x.a.map (·.add ((((bs.length - x.k) - 1) % 48 + 1) * 1))) (bs.drop (x.k + (((bs.length - x.k) - 1) % 48 + 1))) := by
      have := x.hb.drop (cap := x.c) (l := (((bs.length - x.k) - 1) % 48 + 1)) (by rw [List.length_drop]; exact x.hc) (by omega)
      rw [List.drop_drop] at this
      exact this
    have hstep : zr (BN bs x.k) * qRZ + zr (BN ((bs.drop x.k).take (((bs.length - x.k) - 1) % 48 + 1)) ((bs.drop x.k).take (((bs.length - x.k) - 1) % 48 + 1)).length) = zr (BN bs (x.k + (((bs.length - x.k) - 1) % 48 + 1))) := by
      rw [qpiece_len bs x.k _ hcut.2.1, qBN_take]
      exact qwide_step bs x.k _ (or_map id (qcut_of hn) x.hm)
    refine x_skip ?_
    refine x_block ?_
    refine xs_plain (E := EE []) ?_
    refine lx_move rfl rfl rfl ?_
    refine lx_len rfl (fun _ => len_slice Tryz.underlying22 _ _ _ _) rfl rfl ?_
    refine lx_bin (v := I (((bs.length - x.k) - 1 : Nat) : Int)) rfl rfl (fun _ => rfl) (fun _ => (bin_sub_i _ _ _ (by unfold inI; omega)).trans (by rw [show ((bs.length - x.k : Nat) : Int) - 1 = ((bs.length - x.k - 1 : Nat) : Int) by omega])) rfl rfl ?_
    refine lx_bin (v := I ((((bs.length - x.k) - 1) % 48 : Nat) : Int)) rfl rfl (fun _ => rfl) (fun _ => bin_rem_i _ _ _ (by decide)) rfl rfl ?_
    refine lx_bin (v := I (((((bs.length - x.k) - 1) % 48 + 1) : Nat) : Int)) rfl rfl (fun _ => rfl) (fun _ => bin_add_i _ _ _ (by unfold inI; omega)) rfl rfl ?_
    refine lx_assign rfl rfl rfl ?_
    refine lx_nil ?_
    refine xs_plain (E := EE []) ?_
    refine lx_move rfl rfl rfl ?_
    refine lx_move rfl rfl rfl ?_
    refine lx_slsl (l := 0) (h' := (((bs.length - x.k) - 1) % 48 + 1)) rfl Tryz.underlying22 Tryz.sizeOf5 rfl rfl ⟨Nat.zero_le _, Nat.le_trans hcut.2.1 x.hc⟩ rfl rfl ?_
    refine lx_callC rfl rfl ent79 (fun w' hC hG => qlfrom_small _ (((bs.length - x.k) - 1) % 48 + 1) _ ((bs.drop x.k).take (((bs.length - x.k) - 1) % 48 + 1)) (qpiece_len bs x.k _ hcut.2.1) hcut.2.2 w' hG ((x.hb.cut 0 (((bs.length - x.k) - 1) % 48 + 1) (by rw [List.length_drop]; exact x.hc)).grow (hp_below hC))) rfl rfl ?_
    refine lx_move rfl rfl rfl ?_
    refine lx_ext rfl rfl rfl rfl ?_
    refine lx_ext rfl rfl rfl rfl ?_
    refine lx_allocr 5 hGF zv26 rfl rfl ?_
    intro b5
    refine lx_storea 5 hGF rfl rfl rfl Tryz.sizeOf26 (by simp) (by simp) (one_u64 _) rfl ?_
    refine lx_assign rfl rfl rfl ?_
    refine lx_nil ?_
    refine xs_drawn (E := EE []) mixed (by kernel_rfl) (by kernel_rfl) (by kernel_rfl) ?_
    refine lx_gl hGF Tryz.isAgg26 Tryz.sizeOf26 (by simp) (fun _ h => h.g0) rfl rfl ?_
    refine lx_fak 0 rfl Tryz.underlying70 rfl Tryz.sizeOf26 (by decide) rfl rfl rfl ?_
    refine lx_loada 3 rfl rfl Tryz.isAgg26 Tryz.sizeOf26 (by simp) rfl rfl ?_
    refine lx_gl hGF Tryz.isAgg26 Tryz.sizeOf26 (by simp) (fun _ h => h.g1) rfl rfl ?_
    refine lx_call rfl rfl ent80 (qstep_pure _) rfl rfl ?_
    refine lx_buildS rfl (by simp) Tryz.underlying70 rfl Tryz.sizeOf26 zv70 rfl rfl ?_
    refine lx_loada 5 rfl rfl Tryz.isAgg26 Tryz.sizeOf26 (by simp) rfl rfl ?_
    refine lx_call rfl rfl ent81 (qelemP_pure ((bs.drop x.k).take (((bs.length - x.k) - 1) % 48 + 1)) (by rw [qpiece_len bs x.k _ hcut.2.1]; exact hcut.2.2)) rfl rfl ?_
    refine lx_call rfl rfl ent42 (qadd_pure _ _) rfl rfl ?_
    refine lx_storea 3 hGF rfl rfl rfl Tryz.sizeOf70 (by simp) (by simp) (one_u64 _) rfl ?_
    refine lx_nil ?_
    refine x_plain (E := EE []) ?_
    refine lx_move rfl rfl rfl ?_
    refine lx_move rfl rfl rfl ?_
    refine lx_slsl (l := (((bs.length - x.k) - 1) % 48 + 1)) (h' := (bs.length - x.k)) rfl Tryz.underlying22 Tryz.sizeOf5 rfl rfl ⟨hcut.2.1, x.hc⟩ rfl rfl ?_
    refine lx_assign rfl rfl rfl ?_
    refine lx_nil ?_
    repeat (refine kblk_n ?_)
    refine kseq_n ?_
    exact ⟨rfl, ⟨x.k + (((bs.length - x.k) - 1) % 48 + 1), _, x.c - (((bs.length - x.k) - 1) % 48 + 1), by have := x.hk; omega, by have := x.hc; omega, hnext, .inr (by rw [Nat.sub_add_eq]; exact hcut.1)⟩, _, by show bs.length - (x.k + (((bs.length - x.k) - 1) % 48 + 1)) < bs.length - x.k; omega, rfl, ⟨congrArg (fun n => some (Value.slice _ n _)) (Nat.sub_sub bs.length x.k (((bs.length - x.k) - 1) % 48 + 1)), rfl, rfl, trivial⟩, ⟨rfl, by rw [← hstep]; rfl, trivial⟩⟩
  · have hn : x.k = bs.length := by simp at hc; have := x.hk; omega
    clear hc
    refine x_exit ?_
    refine xs_plain (E := EE []) ?_
    refine lx_loada 3 rfl rfl Tryz.isAgg70 Tryz.sizeOf70 (by simp) rfl rfl ?_
    refine lx_storea 2 hGF rfl rfl rfl Tryz.sizeOf70 (by simp) (by simp) (one_u64 _) rfl ?_
    refine lx_nil ?_
    refine x_ret ?_
    repeat (first | refine kseq_ret ?_ | refine kblk_ret ?_)
    exact kret_own 2 rfl rfl rfl Tryz.isAgg70 Tryz.sizeOf70 (by simp) (fun w hw => ⟨by rw [hn]; rfl, hp_below hw⟩)
end Go.Proofs.YtfknmeefbccflaaGreatDoor
