/-
  The walks of package fr: elements of r.
  The walks of package fr: inverses, bytes read.
  The walk of the reference's numbers of many bytes.
-/
import Derived.Test.YtgogiehnilpepaaDoorX3
import Derived.Test.YtgogiehnilpepaaDoorX5
namespace Go.Proofs.YtgogiehnilpepaaDoor
open Go.RowKit
set_option maxRecDepth 100000
set_option maxHeartbeats 1000000

attribute [local simp] nr_len AS_len SS_len MONT_len FRs_len BYs_len by32_len MLl LIFTl IVRl SQP_len FL_len
/-- An element as a value. -/
abbrev RV (x : Zr) : Value := .agg ((nr x).map U64).toArray
abbrev NV (n : List (BitVec 64)) : Value := .agg (n.map U64).toArray
theorem zv28 (w : World) : (zeroValue 28).run Tryd.prog w = .ok (.agg ((List.replicate 6 (0#64)).map U64).toArray) w := (Tryd.zeroValue28 w).trans (by rfl)
theorem zv36 (w : World) : (zeroValue 36).run Tryd.prog w = .ok (.agg ((List.replicate 32 (0#8)).map U8).toArray) w := (Tryd.zeroValue36 w).trans (by rfl)
theorem eqg26 (op : BinOp) (x y : Operand) (xs ys : Array Value) (w : World) : (eqGuard op 26 x y (.agg xs) (.agg ys)).run Tryd.prog w = .ok () w := run_eqGuard_agg w op 26 x y xs ys (by kernel_rfl)
theorem eqv26 (xs ys : List (BitVec 64)) (h : xs.length = 6) (h' : ys.length = 6) (w : World) : (binOp .eql 26 (.agg (xs.map U64).toArray) (.agg (ys.map U64).toArray)).run Tryd.prog w = .ok (.bool (decide (xs = ys))) w := bin_eq64 Tryd.underlying26 Tryd.underlying23 Tryd.sizeOf23 Tryd.isAgg23 xs ys h h' w
theorem decide_nr (x y : Zr) : decide (nr x = nr y) = decide (x = y) := decide_eq_decide.2 nr_inj
theorem qbeq_t {x y : BitVec 64} (h : (x == y) = true) : x = y := beq_iff_eq.1 h
theorem qbeq_f {x y : BitVec 64} (h : (x == y) = false) : ¬ x = y := beq_eq_false_iff_ne.1 h
theorem ent19 : Enters Tryd.prog 19 := fun _ _ => by kernel_rfl
theorem ent9 : Enters Tryd.prog 9 := fun _ _ => by kernel_rfl
theorem ent17 : Enters Tryd.prog 17 := fun _ _ => by kernel_rfl
theorem ent14 : Enters Tryd.prog 14 := fun _ _ => by kernel_rfl
theorem ent28 : Enters Tryd.prog 28 := fun _ _ => by kernel_rfl
theorem ent13 : Enters Tryd.prog 13 := fun _ _ => by kernel_rfl
theorem ent39 : Enters Tryd.prog 39 := fun _ _ => by kernel_rfl
theorem ent44 : Enters Tryd.prog 44 := fun _ _ => by kernel_rfl
theorem ent23 : Enters Tryd.prog 23 := fun _ _ => by kernel_rfl
theorem ent25 : Enters Tryd.prog 25 := fun _ _ => by kernel_rfl
theorem ent30 : Enters Tryd.prog 30 := fun _ _ => by kernel_rfl
theorem ent26 : Enters Tryd.prog 26 := fun _ _ => by kernel_rfl
theorem ent29 : Enters Tryd.prog 29 := fun _ _ => by kernel_rfl
theorem ent46 : Enters Tryd.prog 46 := fun _ _ => by kernel_rfl
theorem ent34 : Enters Tryd.prog 34 := fun _ _ => by kernel_rfl
theorem qprod_pure (a b : List (BitVec 64)) (ha : a.length = 6) (hb : b.length = 6) : Pure Tryd.prog Gt 44 [NV a, NV b] (NV (MONT (MONT a b ML) LIFT ML)) := by
  intro w hw
  have hGF : BOk Gt (pl w) := gt_low.plain hw
  refine calls_of_X (G := Gt) Tryd.func44 rfl rfl (Hp (pl w) []) (hp_refl (pl w) trivial rides_true) (good_hp hGF) ?_
  refine xs_plain (E := EE []) ?_
  refine lx_boxr 2 hGF rfl rfl rfl ?_
  intro b2
  refine lx_boxr 3 hGF rfl rfl rfl ?_
  intro b3
  refine lx_allocr 4 hGF zv26 rfl rfl ?_
  intro b4
  refine lx_nil ?_
  refine xs_drawn (E := EE []) mixed (by kernel_rfl) (by kernel_rfl) (by kernel_rfl) ?_
  refine lx_loada 2 rfl rfl Tryd.isAgg26 Tryd.sizeOf26 (by first | (simp; done) | exact ha | exact hb | (rw [List.length_map]; exact ha) | (rw [List.length_map]; exact hb)) rfl rfl ?_
  refine lx_loada 3 rfl rfl Tryd.isAgg26 Tryd.sizeOf26 (by first | (simp; done) | exact ha | exact hb | (rw [List.length_map]; exact ha) | (rw [List.length_map]; exact hb)) rfl rfl ?_
  refine lx_gl hGF Tryd.isAgg26 Tryd.sizeOf26 (by first | (simp; done) | exact ha | exact hb | (rw [List.length_map]; exact ha) | (rw [List.length_map]; exact hb)) (fun _ h => h.g0) rfl rfl ?_
  refine lx_call rfl rfl ent38 (mont_pure _ _ _ (by first | (simp; done) | exact ha | exact hb | (rw [List.length_map]; exact ha) | (rw [List.length_map]; exact hb)) (by first | (simp; done) | exact ha | exact hb | (rw [List.length_map]; exact ha) | (rw [List.length_map]; exact hb)) (by first | (simp; done) | exact ha | exact hb | (rw [List.length_map]; exact ha) | (rw [List.length_map]; exact hb))) rfl rfl ?_
  refine lx_gl hGF Tryd.isAgg26 Tryd.sizeOf26 (by first | (simp; done) | exact ha | exact hb | (rw [List.length_map]; exact ha) | (rw [List.length_map]; exact hb)) (fun _ h => h.g1) rfl rfl ?_
  refine lx_gl hGF Tryd.isAgg26 Tryd.sizeOf26 (by first | (simp; done) | exact ha | exact hb | (rw [List.length_map]; exact ha) | (rw [List.length_map]; exact hb)) (fun _ h => h.g0) rfl rfl ?_
  refine lx_call rfl rfl ent38 (mont_pure _ _ _ (by first | (simp; done) | exact ha | exact hb | (rw [List.length_map]; exact ha) | (rw [List.length_map]; exact hb)) (by first | (simp; done) | exact ha | exact hb | (rw [List.length_map]; exact ha) | (rw [List.length_map]; exact hb)) (by first | (simp; done) | exact ha | exact hb | (rw [List.length_map]; exact ha) | (rw [List.length_map]; exact hb))) rfl rfl ?_
  refine lx_storea 4 hGF rfl rfl rfl Tryd.sizeOf26 (by first | (simp; done) | exact ha | exact hb | (rw [List.length_map]; exact ha) | (rw [List.length_map]; exact hb)) (by first | (simp; done) | exact ha | exact hb | (rw [List.length_map]; exact ha) | (rw [List.length_map]; exact hb)) (one_u64 _) rfl ?_
  refine lx_nil ?_
  refine x_ret ?_
  repeat (first | refine kseq_ret ?_ | refine kblk_ret ?_)
  exact kret_own 4 rfl rfl rfl Tryd.isAgg26 Tryd.sizeOf26 (by first | (simp; done) | exact ha | exact hb | (rw [List.length_map]; exact ha) | (rw [List.length_map]; exact hb)) (fun w hw => ⟨rfl, hp_below hw⟩)
theorem qmul_pure (x y : Zr) : Pure Tryd.prog Gt 26 [RV x, RV y] (RV (x * y)) := by
  intro w hw
  have hGF : BOk Gt (pl w) := gt_low.plain hw
  refine calls_of_X (G := Gt) Tryd.func26 rfl rfl (Hp (pl w) []) (hp_refl (pl w) trivial rides_true) (good_hp hGF) ?_
  refine xs_plain (E := EE []) ?_
  refine lx_boxr 2 hGF rfl rfl rfl ?_
  intro b2
  refine lx_boxr 3 hGF rfl rfl rfl ?_
  intro b3
  refine lx_allocr 4 hGF zv28 rfl rfl ?_
  intro b4
  refine lx_nil ?_
  refine xs_plain (E := EE []) ?_
  refine lx_fak 0 rfl Tryd.underlying28 rfl Tryd.sizeOf26 (by decide) rfl rfl rfl ?_
  refine lx_loada 2 rfl rfl Tryd.isAgg26 Tryd.sizeOf26 (by simp) rfl rfl ?_
  refine lx_fak 0 rfl Tryd.underlying28 rfl Tryd.sizeOf26 (by decide) rfl rfl rfl ?_
  refine lx_loada 3 rfl rfl Tryd.isAgg26 Tryd.sizeOf26 (by simp) rfl rfl ?_
  refine lx_call rfl rfl ent44 (qprod_pure _ _ (by simp) (by simp)) rfl rfl ?_
  refine lx_buildS rfl (by simp) Tryd.underlying28 rfl Tryd.sizeOf26 zv28 rfl rfl ?_
  refine lx_storea 4 hGF rfl rfl rfl Tryd.sizeOf28 (by simp) (by simp) (one_u64 _) rfl ?_
  refine lx_nil ?_
  refine x_ret ?_
  repeat (first | refine kseq_ret ?_ | refine kblk_ret ?_)
  exact kret_own 4 rfl rfl rfl Tryd.isAgg28 Tryd.sizeOf28 (by simp) (fun w hw => ⟨by rw [MONT_prod], hp_below hw⟩)
theorem qelem_pure (n : List (BitVec 64)) (hn : n.length = 6) : Pure Tryd.prog Gt 39 [NV n] (RV (zr (V n 6))) := by
  intro w hw
  have hGF : BOk Gt (pl w) := gt_low.plain hw
  refine calls_of_X (G := Gt) Tryd.func39 rfl rfl (Hp (pl w) []) (hp_refl (pl w) trivial rides_true) (good_hp hGF) ?_
  refine xs_plain (E := EE []) ?_
  refine lx_boxr 1 hGF rfl rfl rfl ?_
  intro b1
  refine lx_allocr 2 hGF zv28 rfl rfl ?_
  intro b2
  refine lx_nil ?_
  refine xs_plain (E := EE []) ?_
  refine lx_build1 1 rfl Tryd.underlying26 Tryd.sizeOf23 zv26 rfl rfl ?_
  refine lx_loada 1 rfl rfl Tryd.isAgg26 Tryd.sizeOf26 (by first | (simp; done) | simp [hn]) rfl rfl ?_
  refine lx_call rfl rfl ent44 (qprod_pure _ _ (by first | (simp; done) | simp [hn]) (by first | (simp; done) | simp [hn])) rfl rfl ?_
  refine lx_buildS rfl (by first | (simp; done) | simp [hn]) Tryd.underlying28 rfl Tryd.sizeOf26 zv28 rfl rfl ?_
  refine lx_storea 2 hGF rfl rfl rfl Tryd.sizeOf28 (by first | (simp; done) | simp [hn]) (by first | (simp; done) | simp [hn]) (one_u64 _) rfl ?_
  refine lx_nil ?_
  refine x_ret ?_
  repeat (first | refine kseq_ret ?_ | refine kblk_ret ?_)
  exact kret_own 2 rfl rfl rfl Tryd.isAgg28 Tryd.sizeOf28 (by first | (simp; done) | simp [hn]) (fun w hw => ⟨congrArg (fun l => Ending.returned (NV l)) (MONT_elem n), hp_below hw⟩)
theorem qof_pure (n : BitVec 64) : Pure Tryd.prog Gt 19 [U64 n] (RV (zr n.toNat)) := by
  intro w hw
  have hGF : BOk Gt (pl w) := gt_low.plain hw
  refine calls_of_X (G := Gt) Tryd.func19 rfl rfl (Hp (pl w) []) (hp_refl (pl w) trivial rides_true) (good_hp hGF) ?_
  refine xs_plain (E := EE []) ?_
  refine lx_allocr 2 hGF zv28 rfl rfl ?_
  intro b2
  refine lx_nil ?_
  refine xs_plain (E := EE []) ?_
  refine lx_move rfl rfl rfl ?_
  refine lx_build1 n rfl Tryd.underlying26 Tryd.sizeOf23 zv26 rfl rfl ?_
  refine lx_buildS rfl (by simp) Tryd.underlying28 rfl Tryd.sizeOf26 zv28 rfl rfl ?_
  refine lx_storea 2 hGF rfl rfl rfl Tryd.sizeOf28 (by simp) (by simp) (one_u64 _) rfl ?_
  refine lx_nil ?_
  refine x_ret ?_
  repeat (first | refine kseq_ret ?_ | refine kblk_ret ?_)
  exact kret_own 2 rfl rfl rfl Tryd.isAgg28 Tryd.sizeOf28 (by simp) (fun w hw => ⟨congrArg (fun l => Ending.returned (NV l)) (nr_small n), hp_below hw⟩)
theorem qequal_pure (x y : Zr) : Pure Tryd.prog Gt 28 [RV x, RV y] (.bool (decide (x = y))) := by
  intro w hw
  have hGF : BOk Gt (pl w) := gt_low.plain hw
  refine calls_of_X (G := Gt) Tryd.func28 rfl rfl (Hp (pl w) []) (hp_refl (pl w) trivial rides_true) (good_hp hGF) ?_
  refine xs_plain (E := EE []) ?_
  refine lx_boxr 2 hGF rfl rfl rfl ?_
  intro b2
  refine lx_boxr 3 hGF rfl rfl rfl ?_
  intro b3
  refine lx_assign rfl rfl rfl ?_
  refine lx_nil ?_
  refine xs_plain (E := EE []) ?_
  refine lx_fak 0 rfl Tryd.underlying28 rfl Tryd.sizeOf26 (by decide) rfl rfl rfl ?_
  refine lx_loada 2 rfl rfl Tryd.isAgg26 Tryd.sizeOf26 (by simp) rfl rfl ?_
  refine lx_fak 0 rfl Tryd.underlying28 rfl Tryd.sizeOf26 (by decide) rfl rfl rfl ?_
  refine lx_loada 3 rfl rfl Tryd.isAgg26 Tryd.sizeOf26 (by simp) rfl rfl ?_
  refine lx_bin rfl rfl (fun _ => eqg26 _ _ _ _ _ _) (fun w => eqv26 _ _ (by simp) (by simp) w) rfl rfl ?_
  refine lx_assign rfl rfl rfl ?_
  refine lx_nil ?_
  refine x_ret ?_
  repeat (first | refine kseq_ret ?_ | refine kblk_ret ?_)
  exact kret_tmp rfl rfl (fun w hw => ⟨by rw [decide_nr], hp_below hw⟩)
theorem qisZero_pure (x : Zr) : Pure Tryd.prog Gt 13 [RV x] (.bool (decide (x = 0))) := by
  intro w hw
  have hGF : BOk Gt (pl w) := gt_low.plain hw
  refine calls_of_X (G := Gt) Tryd.func13 rfl rfl (Hp (pl w) []) (hp_refl (pl w) trivial rides_true) (good_hp hGF) ?_
  refine xs_plain (E := EE []) ?_
  refine lx_boxr 1 hGF rfl rfl rfl ?_
  intro b1
  refine lx_assign rfl rfl rfl ?_
  refine lx_nil ?_
  refine xs_plain (E := EE []) ?_
  refine lx_fak 0 rfl Tryd.underlying28 rfl Tryd.sizeOf26 (by decide) rfl rfl rfl ?_
  refine lx_loada 1 rfl rfl Tryd.isAgg26 Tryd.sizeOf26 (by simp) rfl rfl ?_
  refine lx_buildz zv26 Tryd.underlying26 Tryd.sizeOf23 rfl rfl ?_
  refine lx_bin rfl rfl (fun _ => eqg26 _ _ _ _ _ _) (fun w => eqv26 _ _ (by simp) (by simp) w) rfl rfl ?_
  refine lx_assign rfl rfl rfl ?_
  refine lx_nil ?_
  refine x_ret ?_
  repeat (first | refine kseq_ret ?_ | refine kblk_ret ?_)
  exact kret_tmp rfl rfl (fun w hw => ⟨by rw [← nr_0, decide_nr], hp_below hw⟩)
theorem qadd_pure (x y : Zr) : Pure Tryd.prog Gt 23 [RV x, RV y] (RV (x + y)) := by
  intro w hw
  have hGF : BOk Gt (pl w) := gt_low.plain hw
  refine calls_of_X (G := Gt) Tryd.func23 rfl rfl (Hp (pl w) []) (hp_refl (pl w) trivial rides_true) (good_hp hGF) ?_
  refine xs_plain (E := EE []) ?_
  refine lx_boxr 2 hGF rfl rfl rfl ?_
  intro b2
  refine lx_boxr 3 hGF rfl rfl rfl ?_
  intro b3
  refine lx_allocr 4 hGF zv28 rfl rfl ?_
  intro b4
  refine lx_nil ?_
  refine xs_plain (E := EE []) ?_
  refine lx_fak 0 rfl Tryd.underlying28 rfl Tryd.sizeOf26 (by decide) rfl rfl rfl ?_
  refine lx_loada 2 rfl rfl Tryd.isAgg26 Tryd.sizeOf26 (by simp) rfl rfl ?_
  refine lx_fak 0 rfl Tryd.underlying28 rfl Tryd.sizeOf26 (by decide) rfl rfl rfl ?_
  refine lx_loada 3 rfl rfl Tryd.isAgg26 Tryd.sizeOf26 (by simp) rfl rfl ?_
  refine lx_call rfl rfl ent42 (add_pure _ _ (by simp) (by simp)) rfl rfl ?_
  refine lx_move rfl rfl rfl ?_
  refine lx_ext rfl rfl rfl rfl ?_
  refine lx_ext rfl rfl rfl rfl ?_
  refine lx_allocr 5 hGF zv26 rfl rfl ?_
  intro b5
  refine lx_storea 5 hGF rfl rfl rfl Tryd.sizeOf26 (by simp) (by simp) (one_u64 _) rfl ?_
  refine lx_assign rfl rfl rfl ?_
  refine lx_nil ?_
  refine xs_plain (E := EE []) ?_
  refine lx_loada 5 rfl rfl Tryd.isAgg26 Tryd.sizeOf26 (by simp) rfl rfl ?_
  refine lx_gl hGF Tryd.isAgg26 Tryd.sizeOf26 (by simp) (fun _ h => h.g0) rfl rfl ?_
  refine lx_call rfl rfl ent43 (sub_pure _ _ (by simp) (by simp)) rfl rfl ?_
  refine lx_move rfl rfl rfl ?_
  refine lx_ext rfl rfl rfl rfl ?_
  refine lx_ext rfl rfl rfl rfl ?_
  refine lx_allocr 7 hGF zv26 rfl rfl ?_
  intro b7
  refine lx_storea 7 hGF rfl rfl rfl Tryd.sizeOf26 (by simp) (by simp) (one_u64 _) rfl ?_
  refine lx_assign rfl rfl rfl ?_
  refine lx_nil ?_
  refine x_seq ?_
  refine xs_plain (E := EE []) ?_
  refine lx_move rfl rfl rfl ?_
  refine lx_bin rfl rfl (fun _ => rfl) (fun _ => bin_eql_u64 _ _ _) rfl rfl ?_
  refine lx_nil ?_
  refine x_if rfl (fun hc => ?_) (fun hc => ?_)
  · skip
    refine xs_plain (E := EE []) ?_
    refine lx_loada 5 rfl rfl Tryd.isAgg26 Tryd.sizeOf26 (by simp) rfl rfl ?_
    refine lx_buildS rfl (by simp) Tryd.underlying28 rfl Tryd.sizeOf26 zv28 rfl rfl ?_
    refine lx_storea 4 hGF rfl rfl rfl Tryd.sizeOf28 (by simp) (by simp) (one_u64 _) rfl ?_
    refine lx_nil ?_
    refine x_ret ?_
    repeat (first | refine kseq_ret ?_ | refine kblk_ret ?_)
    exact kret_own 4 rfl rfl rfl Tryd.isAgg28 Tryd.sizeOf28 (by simp) (fun w hw => ⟨by rw [qadd_low (qbeq_t hc)], hp_below hw⟩)
  · skip
    refine x_skip ?_
    refine xs_plain (E := EE []) ?_
    refine lx_loada 7 rfl rfl Tryd.isAgg26 Tryd.sizeOf26 (by simp) rfl rfl ?_
    refine lx_buildS rfl (by simp) Tryd.underlying28 rfl Tryd.sizeOf26 zv28 rfl rfl ?_
    refine lx_storea 4 hGF rfl rfl rfl Tryd.sizeOf28 (by simp) (by simp) (one_u64 _) rfl ?_
    refine lx_nil ?_
    refine x_ret ?_
    repeat (first | refine kseq_ret ?_ | refine kblk_ret ?_)
    exact kret_own 4 rfl rfl rfl Tryd.isAgg28 Tryd.sizeOf28 (by simp) (fun w hw => ⟨by rw [qadd_high (one_or (SS_c _ _ _) (qbeq_f hc))], hp_below hw⟩)
theorem qsub_pure (x y : Zr) : Pure Tryd.prog Gt 25 [RV x, RV y] (RV (x - y)) := by
  intro w hw
  have hGF : BOk Gt (pl w) := gt_low.plain hw
  refine calls_of_X (G := Gt) Tryd.func25 rfl rfl (Hp (pl w) []) (hp_refl (pl w) trivial rides_true) (good_hp hGF) ?_
  refine xs_plain (E := EE []) ?_
  refine lx_boxr 2 hGF rfl rfl rfl ?_
  intro b2
  refine lx_boxr 3 hGF rfl rfl rfl ?_
  intro b3
  refine lx_allocr 4 hGF zv28 rfl rfl ?_
  intro b4
  refine lx_nil ?_
  refine xs_plain (E := EE []) ?_
  refine lx_fak 0 rfl Tryd.underlying28 rfl Tryd.sizeOf26 (by decide) rfl rfl rfl ?_
  refine lx_loada 2 rfl rfl Tryd.isAgg26 Tryd.sizeOf26 (by simp) rfl rfl ?_
  refine lx_fak 0 rfl Tryd.underlying28 rfl Tryd.sizeOf26 (by decide) rfl rfl rfl ?_
  refine lx_loada 3 rfl rfl Tryd.isAgg26 Tryd.sizeOf26 (by simp) rfl rfl ?_
  refine lx_call rfl rfl ent43 (sub_pure _ _ (by simp) (by simp)) rfl rfl ?_
  refine lx_move rfl rfl rfl ?_
  refine lx_ext rfl rfl rfl rfl ?_
  refine lx_ext rfl rfl rfl rfl ?_
  refine lx_allocr 5 hGF zv26 rfl rfl ?_
  intro b5
  refine lx_storea 5 hGF rfl rfl rfl Tryd.sizeOf26 (by simp) (by simp) (one_u64 _) rfl ?_
  refine lx_assign rfl rfl rfl ?_
  refine lx_nil ?_
  refine x_seq ?_
  refine xs_plain (E := EE []) ?_
  refine lx_move rfl rfl rfl ?_
  refine lx_bin rfl rfl (fun _ => rfl) (fun _ => bin_eql_u64 _ _ _) rfl rfl ?_
  refine lx_nil ?_
  refine x_if rfl (fun hc => ?_) (fun hc => ?_)
  · skip
    refine x_plain (E := EE []) ?_
    refine lx_loada 5 rfl rfl Tryd.isAgg26 Tryd.sizeOf26 (by simp) rfl rfl ?_
    refine lx_gl hGF Tryd.isAgg26 Tryd.sizeOf26 (by simp) (fun _ h => h.g0) rfl rfl ?_
    refine lx_call rfl rfl ent42 (add_pure _ _ (by simp) (by simp)) rfl rfl ?_
    refine lx_move rfl rfl rfl ?_
    refine lx_ext rfl rfl rfl rfl ?_
    refine lx_ext rfl rfl rfl rfl ?_
    refine lx_storea 5 hGF rfl rfl rfl Tryd.sizeOf26 (by simp) (by simp) (one_u64 _) rfl ?_
    refine lx_nil ?_
    refine xs_plain (E := EE []) ?_
    refine lx_loada 5 rfl rfl Tryd.isAgg26 Tryd.sizeOf26 (by simp) rfl rfl ?_
    refine lx_buildS rfl (by simp) Tryd.underlying28 rfl Tryd.sizeOf26 zv28 rfl rfl ?_
    refine lx_storea 4 hGF rfl rfl rfl Tryd.sizeOf28 (by simp) (by simp) (one_u64 _) rfl ?_
    refine lx_nil ?_
    refine x_ret ?_
    repeat (first | refine kseq_ret ?_ | refine kblk_ret ?_)
    exact kret_own 4 rfl rfl rfl Tryd.isAgg28 Tryd.sizeOf28 (by simp) (fun w hw => ⟨by rw [qsub_low (qbeq_t hc)], hp_below hw⟩)
  · skip
    refine x_skip ?_
    refine xs_plain (E := EE []) ?_
    refine lx_loada 5 rfl rfl Tryd.isAgg26 Tryd.sizeOf26 (by simp) rfl rfl ?_
    refine lx_buildS rfl (by simp) Tryd.underlying28 rfl Tryd.sizeOf26 zv28 rfl rfl ?_
    refine lx_storea 4 hGF rfl rfl rfl Tryd.sizeOf28 (by simp) (by simp) (one_u64 _) rfl ?_
    refine lx_nil ?_
    refine x_ret ?_
    repeat (first | refine kseq_ret ?_ | refine kblk_ret ?_)
    exact kret_own 4 rfl rfl rfl Tryd.isAgg28 Tryd.sizeOf28 (by simp) (fun w hw => ⟨by rw [qsub_high (one_or (SS_c _ _ _) (qbeq_f hc))], hp_below hw⟩)
theorem qneg_pure (x : Zr) : Pure Tryd.prog Gt 30 [RV x] (RV (-x)) := by
  intro w hw
  have hGF : BOk Gt (pl w) := gt_low.plain hw
  refine calls_of_X (G := Gt) Tryd.func30 rfl rfl (Hp (pl w) []) (hp_refl (pl w) trivial rides_true) (good_hp hGF) ?_
  refine xs_plain (E := EE []) ?_
  refine lx_boxr 1 hGF rfl rfl rfl ?_
  intro b1
  refine lx_allocr 2 hGF zv28 rfl rfl ?_
  intro b2
  refine lx_nil ?_
  refine xs_plain (E := EE []) ?_
  refine lx_builds zv28 Tryd.underlying28 (bm_one Tryd.sizeOf26) rfl rfl ?_
  refine lx_loada 1 rfl rfl Tryd.isAgg28 Tryd.sizeOf28 (by simp) rfl rfl ?_
  refine lx_call rfl rfl ent25 ((show Pure Tryd.prog Gt 25 [NV (List.replicate 6 0#64), RV x] (RV (0 - x)) by rw [← nr_0]; exact qsub_pure 0 x)) rfl rfl ?_
  refine lx_storea 2 hGF rfl rfl rfl Tryd.sizeOf28 (by simp) (by simp) (one_u64 _) rfl ?_
  refine lx_nil ?_
  refine x_ret ?_
  repeat (first | refine kseq_ret ?_ | refine kblk_ret ?_)
  exact kret_own 2 rfl rfl rfl Tryd.isAgg28 Tryd.sizeOf28 (by simp) (fun w hw => ⟨by rw [show (0 : Zr) - x = -x by grind], hp_below hw⟩)
theorem qbytes_pure (x : Zr) : Pure Tryd.prog Gt 14 [RV x] (.agg ((by32 x).map U8).toArray) := by
  intro w hw
  have hGF : BOk Gt (pl w) := gt_low.plain hw
  refine calls_of_X (G := Gt) Tryd.func14 rfl rfl (Hp (pl w) []) (hp_refl (pl w) trivial rides_true) (good_hp hGF) ?_
  refine xs_plain (E := EE []) ?_
  refine lx_boxr 1 hGF rfl rfl rfl ?_
  intro b1
  refine lx_allocr 2 hGF zv36 rfl rfl ?_
  intro b2
  refine lx_nil ?_
  refine xs_plain (E := EE []) ?_
  refine lx_fak 0 rfl Tryd.underlying28 rfl Tryd.sizeOf26 (by decide) rfl rfl rfl ?_
  refine lx_loada 1 rfl rfl Tryd.isAgg26 Tryd.sizeOf26 (by simp) rfl rfl ?_
  refine lx_call rfl rfl ent37 (bytesOf_pure _ (by simp)) rfl rfl ?_
  refine lx_allocr 3 hGF zv67 rfl rfl ?_
  intro b3
  refine lx_storea 3 hGF rfl rfl rfl Tryd.sizeOf67 (by simp) (by simp) (one_u8 _) rfl ?_
  refine lx_nil ?_
  refine xs_plain (E := EE []) ?_
  refine lx_slarr1 (l := 16) (h' := 48) rfl Tryd.underlying67 Tryd.sizeOf5 rfl rfl (by omega) (by omega) rfl rfl ?_
  refine lx_s2a rfl Tryd.underlying36 (by decide) rfl rfl ?_
  refine lx_loado 3 ((by32 x).map U8) rfl rfl Tryd.isAgg36 Tryd.sizeOf36 (by simp) (by32_load x) rfl rfl ?_
  refine lx_storea 2 hGF rfl rfl rfl Tryd.sizeOf36 (by simp) (by simp) (one_u8 _) rfl ?_
  refine lx_nil ?_
  refine x_ret ?_
  repeat (first | refine kseq_ret ?_ | refine kblk_ret ?_)
  exact kret_own 2 rfl rfl rfl Tryd.isAgg36 Tryd.sizeOf36 (by simp) (fun w hw => ⟨rfl, hp_below hw⟩)
theorem qbits_calls (x : Zr) (w : World) (hw : Gt w) : Calls Tryd.prog 34 [RV x].toArray w (fun e w' => ∃ b1, e = .returned (.func (.func 52) #[] #[.pointer (some ⟨b1, 0, none⟩)]) ∧ Grow w w' ∧ w.heap.size ≤ b1 ∧ OwnB w' b1 ((nr x).map U64) 26) := by
  have hGF : BOk Gt (pl w) := gt_low.plain hw
  refine calls_of_X (G := Gt) Tryd.func34 rfl rfl (Hp (pl w) []) (hp_refl (pl w) trivial rides_true) (good_hp hGF) ?_
  refine xs_plain (E := EE [47]) ?_
  refine lx_boxr 1 hGF rfl rfl rfl ?_
  intro b1
  refine lx_assign rfl rfl rfl ?_
  refine lx_nil ?_
  refine xs_plain (E := EE [47]) ?_
  refine lx_fak 0 rfl Tryd.underlying28 rfl Tryd.sizeOf26 (by decide) rfl rfl rfl ?_
  refine lx_loada 1 rfl rfl Tryd.isAgg26 Tryd.sizeOf26 (by simp) rfl rfl ?_
  refine lx_callE rfl rfl ent47 rfl rfl (fun w' hw' => (bits_calls (nr x) (by simp) w' (hGF.g _ _ _ hw')).mono fun e' w'' h => ?_)
  obtain ⟨c1, rfl, hg, h1, ho⟩ := h
  refine ⟨_, _, rfl, good_hp hGF, hw'.news rides_true hg [(33, c1, (nr x).map U64, 26)] ?_ inj_one, ?_⟩
  · intro n' b' c' t' hl
    rcases lkB_cons hl with ⟨_, e⟩ | ⟨_, hl⟩
    · cases e; exact ⟨h1, ho⟩
    · cases hl
  clear hw' hg h1 ho
  refine lx_assign rfl rfl rfl ?_
  refine lx_nil ?_
  refine x_ret ?_
  repeat (first | refine kseq_ret ?_ | refine kblk_ret ?_)
  exact kret_tmp rfl rfl (fun w hw => ⟨c1, rfl, hp_below hw, (hw.own 33 c1 _ _ rfl).2.elim id False.elim, (hw.own 33 c1 _ _ rfl).1⟩)
end Go.Proofs.YtgogiehnilpepaaDoor

namespace Go.Proofs.YtgogiehnilpepaaDoor
open Go.RowKit
set_option maxRecDepth 100000
set_option maxHeartbeats 1000000
attribute [local simp] nr_len AS_len SS_len MONT_len FRs_len BYs_len by32_len MLl LIFTl IVRl SQP_len FL_len

theorem zv78 (w : World) : (zeroValue 78).run Tryd.prog w = .ok (.agg ((FL (fun _ => List.replicate 6 0#64) 256).map U64).toArray) w := by kernel_rfl
theorem qof1_pure : Pure Tryd.prog Gt 19 [U64 1#64] (RV 1) := qof_pure 1#64
theorem qsquares_pure (x : Zr) : Pure Tryd.prog Gt 46 [RV x] (.agg ((SQP x 256).map U64).toArray) := by
  intro w hw
  have hGF : BOk Gt (pl w) := gt_low.plain hw
  refine calls_of_X (G := Gt) Tryd.func46 rfl rfl (Hp (pl w) []) (hp_refl (pl w) trivial rides_true) (good_hp hGF) ?_
  refine xs_plain (E := EE []) ?_
  refine lx_boxr 1 hGF rfl rfl rfl ?_
  intro b1
  refine lx_allocr 2 hGF zv78 rfl rfl ?_
  intro b2
  refine lx_nil ?_
  refine xs_plain (E := EE []) ?_
  refine lx_loada 1 rfl rfl Tryd.isAgg28 Tryd.sizeOf28 (by simp) rfl rfl ?_
  refine lx_buildA rfl (by simp) (by decide) Tryd.underlying78 Tryd.sizeOf28 zv78 rfl rfl ?_
  refine lx_allocr 3 hGF zv78 rfl rfl ?_
  intro b3
  refine lx_storea 3 hGF rfl rfl rfl Tryd.sizeOf78 (by simp) (by simp) (one_u64 _) rfl ?_
  refine lx_nil ?_
  refine x_seq ?_
  refine xs_plain (E := EE []) ?_
  refine lx_assign rfl rfl rfl ?_
  refine lx_nil ?_
  refine x_block ?_
  refine x_for (ι := { i : Nat // 1 ≤ i ∧ i ≤ 256 }) (fun y => [(1, .pointer (some ⟨b1, 0, none⟩)), (2, .pointer (some ⟨b2, 0, none⟩)), (3, .pointer (some ⟨b3, 0, none⟩)), (4, I (y.1 : Int))]) (fun y => [(1, b1, (nr x).map U64, 28), (2, b2, (FL (fun _ => List.replicate 6 0#64) 256).map U64, 78), (3, b3, (SQP x y.1).map U64, 78)]) (fun y => 256 - y.1) ⟨1, by omega⟩ hGF ⟨rfl, rfl, rfl, rfl, trivial⟩ ⟨rfl, rfl, by rw [← SQP_one]; rfl, trivial⟩ ?_
  rintro ⟨i, hi⟩
  dsimp only
  refine x_seq ?_
  refine xs_plain (E := EE []) ?_
  refine lx_move rfl rfl rfl ?_
  refine lx_bin rfl rfl (fun _ => rfl) (fun _ => bin_lss_i _ _ _) rfl rfl ?_
  refine lx_nil ?_
  refine x_if rfl (fun hc => ?_) (fun hc => ?_)
  · simp only [decide_eq_true_eq] at hc
    refine x_skip ?_
    refine x_seq ?_
    refine x_block ?_
    refine x_drawn (E := EE []) mixed (by kernel_rfl) (by kernel_rfl) (by kernel_rfl) ?_
    refine lx_move rfl rfl rfl ?_
    refine lx_move rfl rfl rfl ?_
    refine lx_bin rfl rfl (fun _ => rfl) (fun _ => bin_sub_i _ _ _ (by unfold inI; omega)) rfl rfl ?_
    refine lx_iak (i - 1) (6 * (i - 1)) rfl rfl Tryd.underlying78 Tryd.sizeOf28 (by omega) (by omega) (by omega) rfl rfl ?_
    refine lx_loado 3 ((nr (x ^ 2 ^ (i - 1))).map U64) rfl rfl Tryd.isAgg28 Tryd.sizeOf28 (by simp) (SQP_load x i (i - 1) (by omega) (by omega) _ rfl) rfl rfl ?_
    refine lx_move rfl rfl rfl ?_
    refine lx_bin rfl rfl (fun _ => rfl) (fun _ => bin_sub_i _ _ _ (by unfold inI; omega)) rfl rfl ?_
    refine lx_iak (i - 1) (6 * (i - 1)) rfl rfl Tryd.underlying78 Tryd.sizeOf28 (by omega) (by omega) (by omega) rfl rfl ?_
    refine lx_loado 3 ((nr (x ^ 2 ^ (i - 1))).map U64) rfl rfl Tryd.isAgg28 Tryd.sizeOf28 (by simp) (SQP_load x i (i - 1) (by omega) (by omega) _ rfl) rfl rfl ?_
    refine lx_call rfl rfl ent26 (qmul_pure _ _) rfl rfl ?_
    refine lx_iak (i) (6 * (i)) rfl rfl Tryd.underlying78 Tryd.sizeOf28 (by omega) (by omega) (by omega) rfl rfl ?_
    refine lx_storeo 3 ((SQP x (i + 1)).map U64) hGF rfl rfl rfl Tryd.sizeOf28 (by simp) (one_u64 _) (by rw [List.length_map, List.length_map, nr_len, SQP_len]; omega) (SQP_step x i (by omega) (by omega) _ rfl) rfl ?_
    refine lx_nil ?_
    refine x_plain (E := EE []) ?_
    refine lx_move rfl rfl rfl ?_
    refine lx_bin rfl rfl (fun _ => rfl) (fun _ => bin_add_i _ _ _ (by unfold inI; omega)) rfl rfl ?_
    refine lx_assign rfl rfl rfl ?_
    refine lx_nil ?_
    repeat (refine kblk_n ?_)
    refine kseq_n ?_
    exact ⟨rfl, ⟨i + 1, by omega⟩, _, by show 256 - (i + 1) < 256 - i; omega, rfl, ⟨rfl, rfl, rfl, rfl, trivial⟩, ⟨rfl, rfl, rfl, trivial⟩⟩
  · obtain rfl : i = 256 := by simp at hc; omega
    refine x_exit ?_
    refine xs_plain (E := EE []) ?_
    refine lx_loada 3 rfl rfl Tryd.isAgg78 Tryd.sizeOf78 (by simp) rfl rfl ?_
    refine lx_storea 2 hGF rfl rfl rfl Tryd.sizeOf78 (by simp) (by simp) (one_u64 _) rfl ?_
    refine lx_nil ?_
    refine x_ret ?_
    repeat (first | refine kseq_ret ?_ | refine kblk_ret ?_)
    exact kret_own 2 rfl rfl rfl Tryd.isAgg78 Tryd.sizeOf78 (by simp) (fun w hw => ⟨rfl, hp_below hw⟩)
theorem BT_one (a : List (BitVec 64)) (k : Nat) (v : List Value) (h : (BT a)[k]? = some v) : ∃ n : Nat, (ones a 384)[k]? = some n ∧ v = [I (n : Int)] := by
  rw [BT, List.getElem?_map] at h
  cases e : (ones a 384)[k]? with
  | none => rw [e] at h; cases h
  | some y => rw [e] at h; exact ⟨y, rfl, (Option.some.inj h).symm⟩
theorem qinv_pure (x : Zr) : Pure Tryd.prog Gt 29 [RV x] (RV (x ^ (RR - 2))) := by
  intro w hw
  have hGF : BOk Gt (pl w) := gt_low.plain hw
  refine calls_of_XM (G := Gt) Tryd.func29 rfl rfl (Hp (pl w) []) (hp_refl (pl w) trivial rides_true) (good_hp hGF) ?_
  refine xs_plain (E := EE [47]) ?_
  refine lx_boxr 1 hGF rfl rfl rfl ?_
  intro b1
  refine lx_allocr 2 hGF zv28 rfl rfl ?_
  intro b2
  refine lx_nil ?_
  refine xs_plain (E := EE [47]) ?_
  refine lx_loada 1 rfl rfl Tryd.isAgg28 Tryd.sizeOf28 (by simp) rfl rfl ?_
  refine lx_call rfl rfl ent46 (qsquares_pure _) rfl rfl ?_
  refine lx_allocr 3 hGF zv78 rfl rfl ?_
  intro b3
  refine lx_storea 3 hGF rfl rfl rfl Tryd.sizeOf78 (by simp) (by simp) (one_u64 _) rfl ?_
  refine lx_nil ?_
  refine xs_plain (E := EE [47]) ?_
  refine lx_call rfl rfl ent19 (qof1_pure) rfl rfl ?_
  refine lx_allocr 4 hGF zv28 rfl rfl ?_
  intro b4
  refine lx_storea 4 hGF rfl rfl rfl Tryd.sizeOf28 (by simp) (by simp) (one_u64 _) rfl ?_
  refine lx_nil ?_
  refine x_seq ?_
  refine xs_plain (E := EE [47]) ?_
  refine lx_gl hGF Tryd.isAgg26 Tryd.sizeOf26 (by simp) (fun _ h => h.g2) rfl rfl ?_
  refine lx_callE rfl rfl ent47 rfl rfl (fun w' hw' => (bits_calls (IVR) rfl w' (hGF.g _ _ _ hw')).mono fun e' w'' h => ?_)
  obtain ⟨c1, rfl, hg, h1, ho⟩ := h
  refine ⟨_, _, rfl, good_hp hGF, hw'.news rides_true hg [(33, c1, (IVR).map U64, 26)] ?_ inj_one, ?_⟩
  · intro n' b' c' t' hl
    rcases lkB_cons hl with ⟨_, e⟩ | ⟨_, hl⟩
    · cases e; exact ⟨h1, ho⟩
    · cases hl
  clear hw' hg h1 ho
  refine lx_nil ?_
  refine x_block ?_
  refine x_range (fun _ => pl w) (fun _ _ => pl w) (fun _ => hGF) (fun _ _ => hGF) (fun _ => rfl) (fun _ _ => rfl) rfl rfl ent52 (bits_seq c1 IVR rfl) (fun x hx => by obtain ⟨k, hk, rfl⟩ := List.mem_map.1 hx; rfl) rfl (fun k => [(1, b1, (nr x).map U64, 28), (2, b2, (List.replicate 6 0#64).map U64, 28), (3, b3, (SQP x 256).map U64, 78), (4, b4, (nr (x ^ SO ((ones IVR 384).take k))).map U64, 28), (33, c1, IVR.map U64, 26)]) (fun _ _ _ => False) ⟨rfl, rfl, rfl, by rw [List.take_zero, SO, qp0]; rfl, rfl, trivial⟩ (fun k _ w' h => hp_row (n := 33) rfl w' h) ?_ ?_ (fun _ _ _ _ _ h => h.elim)
  · intro k v hx R hR
    obtain ⟨n, hn, rfl⟩ := BT_one IVR k v hx
    have hlt := IVR_small hn
    refine x_plain (E := EE [47]) ?_
    refine lx_assign rfl rfl rfl ?_
    refine lx_nil ?_
    refine ⟨rfl, _, rfl, ?_⟩
    refine x_block ?_
    refine x_drawn (E := EE [47]) mixed (by kernel_rfl) (by kernel_rfl) (by kernel_rfl) ?_
    refine lx_loada 4 rfl rfl Tryd.isAgg28 Tryd.sizeOf28 (by simp) rfl rfl ?_
    refine lx_move rfl rfl rfl ?_
    refine lx_iak n (6 * n) rfl rfl Tryd.underlying78 Tryd.sizeOf28 (by omega) (by omega) (by omega) rfl rfl ?_
    refine lx_loado 3 ((nr (x ^ 2 ^ n)).map U64) rfl rfl Tryd.isAgg28 Tryd.sizeOf28 (by simp) (SQP_load x 256 n hlt (Nat.le_refl _) _ rfl) rfl rfl ?_
    refine lx_call rfl rfl ent26 (qinv_step x (ones IVR 384) k n hn ▸ qmul_pure (x ^ SO ((ones IVR 384).take k)) (x ^ 2 ^ n)) rfl rfl ?_
    refine lx_storea 4 (hR (pl w) rfl hGF).2.1 rfl rfl rfl Tryd.sizeOf28 (by simp) (by simp) (one_u64 _) rfl ?_
    refine lx_nil ?_
    repeat (refine kblk_n ?_)
    exact ⟨_, rfl, ⟨rfl, rfl, rfl, rfl, rfl, trivial⟩⟩
  · intro D hD
    rw [BT_len, List.take_of_length_le (Nat.le_refl _), IVR_ones.1]
    refine xs_plain (E := EE [47]) ?_
    refine lx_loada 4 rfl rfl Tryd.isAgg28 Tryd.sizeOf28 (by simp) rfl rfl ?_
    refine lx_storea 2 hD rfl rfl rfl Tryd.sizeOf28 (by simp) (by simp) (one_u64 _) rfl ?_
    refine lx_nil ?_
    refine x_ret ?_
    repeat (first | refine kseq_ret ?_ | refine kblk_ret ?_)
    exact kretM_1 (.inl rfl) rides_true (kret_own 2 rfl rfl rfl Tryd.isAgg28 Tryd.sizeOf28 (by simp) (fun w hw => ⟨rfl, hp_below hw⟩))
theorem qlfrom_small (a : Option Addr) (len cap : Nat) (bs : List (BitVec 8)) (hl : bs.length = len) (h : len ≤ 48) (w : World) (hw : Gt w) (hby : BytesAt w a bs) :
    Calls Tryd.prog 35 [.slice a len cap].toArray w (fun e w' => e = .returned (.tuple #[NV (FRs bs bs.length), .bool true]) ∧ Grow w w') := by
  subst hl
  exact (from_calls a cap bs w hw hby).mono fun e w' ⟨he, hg⟩ => ⟨by rw [he, if_neg (by omega)], hg⟩
theorem qfrom_calls (e : Option Addr) (cap : Nat) (bs : List (BitVec 8)) (w : World) (hw : Gt w) (hby : BytesAt w e bs) :
    Calls Tryd.prog 9 [.slice e bs.length cap].toArray w (fun r w' => r = .returned (.tuple #[RV (QV bs), .bool (QO bs)]) ∧ Grow w w') := by
  have hGF : BOk Gt (pl w) := gt_low.plain hw
  refine calls_of_X (G := Gt) Tryd.func9 rfl rfl (Hp (pl w) []) (hp_refl (pl w) trivial rides_true) (good_hp hGF) ?_
  refine xs_plain (E := EE []) ?_
  refine lx_allocr 2 hGF zv28 rfl rfl ?_
  intro b2
  refine lx_assign rfl rfl rfl ?_
  refine lx_nil ?_
  refine x_seq ?_
  refine xs_plain (E := EE []) ?_
  refine lx_move rfl rfl rfl ?_
  refine lx_len rfl (fun _ => len_slice Tryd.underlying22 _ _ _ _) rfl rfl ?_
  refine lx_bin rfl rfl (fun _ => rfl) (fun _ => bin_neq_i _ _ _) rfl rfl ?_
  refine lx_nil ?_
  refine x_if rfl (fun hc => ?_) (fun hc => ?_)
  · have hc : ¬ bs.length = 32 := by simp at hc; omega
    refine xs_plain (E := EE []) ?_
    refine lx_builds zv28 Tryd.underlying28 (bm_one Tryd.sizeOf26) rfl rfl ?_
    refine lx_storea 2 hGF rfl rfl rfl Tryd.sizeOf28 (by simp) (by simp) (one_u64 _) rfl ?_
    refine lx_assign rfl rfl rfl ?_
    refine lx_nil ?_
    refine x_ret ?_
    repeat (first | refine kseq_ret ?_ | refine kblk_ret ?_)
    exact kret_ct 2 rfl rfl rfl rfl Tryd.isAgg28 Tryd.sizeOf28 (by simp) (fun w hw => ⟨by rw [QV, QO, if_neg (fun h => hc h.1), decide_eq_false (fun h => hc h.1), ← nr_0] <;> rfl, hp_below hw⟩)
  · have h32 : bs.length = 32 := by simp at hc; omega
    clear hc
    refine x_skip ?_
    refine xs_plain (E := EE []) ?_
    refine lx_move rfl rfl rfl ?_
    refine lx_callC rfl rfl ent35 (fun w' hC hG => qlfrom_small e bs.length cap bs rfl (by omega) w' hG (hby.grow (hp_below hC))) rfl rfl ?_
    refine lx_move rfl rfl rfl ?_
    refine lx_ext rfl rfl rfl rfl ?_
    refine lx_ext rfl rfl rfl rfl ?_
    refine lx_allocr 4 hGF zv26 rfl rfl ?_
    intro b4
    refine lx_storea 4 hGF rfl rfl rfl Tryd.sizeOf26 (by simp) (by simp) (one_u64 _) rfl ?_
    refine lx_assign rfl rfl rfl ?_
    refine lx_nil ?_
    refine x_seq ?_
    refine xs_plain (E := EE []) ?_
    refine lx_move rfl rfl rfl ?_
    refine lx_un rfl (fun _ => un_not _) rfl rfl ?_
    refine lx_move rfl rfl rfl ?_
    refine lx_loada 4 rfl rfl Tryd.isAgg26 Tryd.sizeOf26 (by simp) rfl rfl ?_
    refine lx_gl hGF Tryd.isAgg26 Tryd.sizeOf26 (by simp) (fun _ h => h.g0) rfl rfl ?_
    refine lx_call rfl rfl ent36 (less_pure _ _ (by simp) (by simp)) rfl rfl ?_
    refine lx_un rfl (fun _ => un_not _) rfl rfl ?_
    refine lx_pick rfl rfl rfl rfl rfl ?_
    refine lx_nil ?_
    refine x_if rfl (fun hc => ?_) (fun hc => ?_)
    · have e0 : V (FRs bs bs.length) 6 = BN bs 32 := by rw [V_FRs bs (by omega), h32]
      have hl : ¬ BN bs 32 < RR := by rw [LT_val, ML_val, e0] at hc; simpa using hc
      clear hc
      refine xs_plain (E := EE []) ?_
      refine lx_builds zv28 Tryd.underlying28 (bm_one Tryd.sizeOf26) rfl rfl ?_
      refine lx_storea 2 hGF rfl rfl rfl Tryd.sizeOf28 (by simp) (by simp) (one_u64 _) rfl ?_
      refine lx_assign rfl rfl rfl ?_
      refine lx_nil ?_
      refine x_ret ?_
      repeat (first | refine kseq_ret ?_ | refine kblk_ret ?_)
      exact kret_ct 2 rfl rfl rfl rfl Tryd.isAgg28 Tryd.sizeOf28 (by simp) (fun w hw => ⟨by rw [QV, QO, if_neg (fun h => hl h.2), decide_eq_false (fun h => hl h.2), ← nr_0] <;> rfl, hp_below hw⟩)
    · have e0 : V (FRs bs bs.length) 6 = BN bs 32 := by rw [V_FRs bs (by omega), h32]
      have hl : BN bs 32 < RR := by rw [LT_val, ML_val, e0] at hc; simpa using hc
      clear hc
      refine x_skip ?_
      refine xs_plain (E := EE []) ?_
      refine lx_loada 4 rfl rfl Tryd.isAgg26 Tryd.sizeOf26 (by simp) rfl rfl ?_
      refine lx_buildS rfl (by simp) Tryd.underlying28 rfl Tryd.sizeOf26 zv28 rfl rfl ?_
      refine lx_storea 2 hGF rfl rfl rfl Tryd.sizeOf28 (by simp) (by simp) (one_u64 _) rfl ?_
      refine lx_assign rfl rfl rfl ?_
      refine lx_nil ?_
      refine x_ret ?_
      repeat (first | refine kseq_ret ?_ | refine kblk_ret ?_)
      exact kret_ct 2 rfl rfl rfl rfl Tryd.isAgg28 Tryd.sizeOf28 (by simp) (fun w hw => ⟨by rw [QV, QO, if_pos ⟨h32, hl⟩, decide_eq_true ⟨h32, hl⟩, nr_of (x := zr (BN bs 32)) (FRs_len bs bs.length) (by rw [e0]; exact hl) (by rw [e0])] <;> rfl, hp_below hw⟩)
/-- Where the loop over pieces stands. -/
structure QSt (w : World) (bs : List (BitVec 8)) where
  (k : Nat) (a : Option Addr) (c : Nat)
  hk : k ≤ bs.length
  hc : bs.length - k ≤ c
  hb : BytesAt w a (bs.drop k)
  hm : k = 0 ∨ (bs.length - k) % 48 = 0
theorem qstep_pure (y : Zr) : Pure Tryd.prog Gt 38 [NV LIFT, RV y, NV ML] (RV (y * qRZ)) := by
  have h := mont_pure LIFT (nr y) ML rfl (nr_len y) rfl
  rw [MONT_step] at h
  exact h
theorem qelemP_pure (bs : List (BitVec 8)) (h : bs.length ≤ 48) : Pure Tryd.prog Gt 39 [NV (FRs bs bs.length)] (RV (zr (BN bs bs.length))) := V_FRs bs h ▸ qelem_pure (FRs bs bs.length) (FRs_len _ _)
theorem qwide_calls (e : Option Addr) (cap : Nat) (bs : List (BitVec 8)) (hlen : bs.length ≤ 1000000) (hcap : bs.length ≤ cap) (w : World) (hw : Gt w) (hby : BytesAt w e bs) :
    Calls Tryd.prog 17 [.slice e bs.length cap].toArray w (fun r w' => r = .returned (RV (QB bs)) ∧ Grow w w') := by
  have hGF : BOk Gt (pl w) := gt_low.plain hw
  refine calls_of_X (G := Gt) Tryd.func17 rfl rfl (Hp (pl w) []) (hp_refl (pl w) trivial rides_true) (good_hp hGF) ?_
  refine xs_plain (E := EE []) ?_
  refine lx_allocr 2 hGF zv28 rfl rfl ?_
  intro b2
  refine lx_nil ?_
  refine xs_plain (E := EE []) ?_
  refine lx_allocr 3 hGF zv28 rfl rfl ?_
  intro b3
  refine lx_nil ?_
  refine x_seq ?_
  refine x_block ?_
  refine x_for (ι := QSt w bs) (fun x => [(0, .slice x.a (bs.length - x.k) x.c), (2, .pointer (some ⟨b2, 0, none⟩)), (3, .pointer (some ⟨b3, 0, none⟩))]) (fun x => [(2, b2, (List.replicate 6 0#64).map U64, 28), (3, b3, (nr (zr (BN bs x.k))).map U64, 28)]) (fun x => (bs.length - x.k)) ⟨0, e, cap, Nat.zero_le _, hcap, hby, .inl rfl⟩ hGF ⟨rfl, rfl, rfl, trivial⟩ ⟨rfl, by rw [BN, zr_0, nr_0]; rfl, trivial⟩ ?_
  intro x
  refine x_seq ?_
  refine xs_plain (E := EE []) ?_
  refine lx_move rfl rfl rfl ?_
  refine lx_len rfl (fun _ => len_slice Tryd.underlying22 _ _ _ _) rfl rfl ?_
  refine lx_bin rfl rfl (fun _ => rfl) (fun _ => bin_gtr_i _ _ _) rfl rfl ?_
  refine lx_nil ?_
  refine x_if rfl (fun hc => ?_) (fun hc => ?_)
  · have hn : 0 < (bs.length - x.k) := by simp at hc; omega
    clear hc
    have hlenx := x.hk
    have hcut := qcut_rest hn
    have hnext : BytesAt w (if x.c = (((bs.length - x.k) - 1) % 48 + 1) then x.a else x.a.map (·.add ((((bs.length - x.k) - 1) % 48 + 1) * 1))) (bs.drop (x.k + (((bs.length - x.k) - 1) % 48 + 1))) := by
      have := x.hb.drop (cap := x.c) (l := (((bs.length - x.k) - 1) % 48 + 1)) (by rw [List.length_drop]; exact x.hc) (by omega)
      rw [List.drop_drop] at this
      exact this
    have hstep : zr (BN bs x.k) * qRZ + zr (BN ((bs.drop x.k).take (((bs.length - x.k) - 1) % 48 + 1)) ((bs.drop x.k).take (((bs.length - x.k) - 1) % 48 + 1)).length) = zr (BN bs (x.k + (((bs.length - x.k) - 1) % 48 + 1))) := by
      rw [qpiece_len bs x.k _ hcut.2.1, qBN_take]
      exact qwide_step bs x.k _ (or_map id (qcut_of hn) x.hm)
    refine x_skip ?_
    refine x_block ?_
    refine xs_plain (E := EE []) ?_
    refine lx_move rfl rfl rfl ?_
    refine lx_len rfl (fun _ => len_slice Tryd.underlying22 _ _ _ _) rfl rfl ?_
    refine lx_bin (v := I (((bs.length - x.k) - 1 : Nat) : Int)) rfl rfl (fun _ => rfl) (fun _ => (bin_sub_i _ _ _ (by unfold inI; omega)).trans (by rw [show ((bs.length - x.k : Nat) : Int) - 1 = ((bs.length - x.k - 1 : Nat) : Int) by omega])) rfl rfl ?_
    refine lx_bin (v := I ((((bs.length - x.k) - 1) % 48 : Nat) : Int)) rfl rfl (fun _ => rfl) (fun _ => bin_rem_i _ _ _ (by decide)) rfl rfl ?_
    refine lx_bin (v := I (((((bs.length - x.k) - 1) % 48 + 1) : Nat) : Int)) rfl rfl (fun _ => rfl) (fun _ => bin_add_i _ _ _ (by unfold inI; omega)) rfl rfl ?_
    refine lx_assign rfl rfl rfl ?_
    refine lx_nil ?_
    refine xs_plain (E := EE []) ?_
    refine lx_move rfl rfl rfl ?_
    refine lx_move rfl rfl rfl ?_
    refine lx_slsl (l := 0) (h' := (((bs.length - x.k) - 1) % 48 + 1)) rfl Tryd.underlying22 Tryd.sizeOf5 rfl rfl ⟨Nat.zero_le _, Nat.le_trans hcut.2.1 x.hc⟩ rfl rfl ?_
    refine lx_callC rfl rfl ent35 (fun w' hC hG => qlfrom_small _ (((bs.length - x.k) - 1) % 48 + 1) _ ((bs.drop x.k).take (((bs.length - x.k) - 1) % 48 + 1)) (qpiece_len bs x.k _ hcut.2.1) hcut.2.2 w' hG ((x.hb.cut 0 (((bs.length - x.k) - 1) % 48 + 1) (by rw [List.length_drop]; exact x.hc)).grow (hp_below hC))) rfl rfl ?_
    refine lx_move rfl rfl rfl ?_
    refine lx_ext rfl rfl rfl rfl ?_
    refine lx_ext rfl rfl rfl rfl ?_
    refine lx_allocr 5 hGF zv26 rfl rfl ?_
    intro b5
    refine lx_storea 5 hGF rfl rfl rfl Tryd.sizeOf26 (by simp) (by simp) (one_u64 _) rfl ?_
    refine lx_assign rfl rfl rfl ?_
    refine lx_nil ?_
    refine xs_drawn (E := EE []) mixed (by kernel_rfl) (by kernel_rfl) (by kernel_rfl) ?_
    refine lx_gl hGF Tryd.isAgg26 Tryd.sizeOf26 (by simp) (fun _ h => h.g1) rfl rfl ?_
    refine lx_fak 0 rfl Tryd.underlying28 rfl Tryd.sizeOf26 (by decide) rfl rfl rfl ?_
    refine lx_loada 3 rfl rfl Tryd.isAgg26 Tryd.sizeOf26 (by simp) rfl rfl ?_
    refine lx_gl hGF Tryd.isAgg26 Tryd.sizeOf26 (by simp) (fun _ h => h.g0) rfl rfl ?_
    refine lx_call rfl rfl ent38 (qstep_pure _) rfl rfl ?_
    refine lx_buildS rfl (by simp) Tryd.underlying28 rfl Tryd.sizeOf26 zv28 rfl rfl ?_
    refine lx_loada 5 rfl rfl Tryd.isAgg26 Tryd.sizeOf26 (by simp) rfl rfl ?_
    refine lx_call rfl rfl ent39 (qelemP_pure ((bs.drop x.k).take (((bs.length - x.k) - 1) % 48 + 1)) (by rw [qpiece_len bs x.k _ hcut.2.1]; exact hcut.2.2)) rfl rfl ?_
    refine lx_call rfl rfl ent23 (qadd_pure _ _) rfl rfl ?_
    refine lx_storea 3 hGF rfl rfl rfl Tryd.sizeOf28 (by simp) (by simp) (one_u64 _) rfl ?_
    refine lx_nil ?_
    refine x_plain (E := EE []) ?_
    refine lx_move rfl rfl rfl ?_
    refine lx_move rfl rfl rfl ?_
    refine lx_slsl (l := (((bs.length - x.k) - 1) % 48 + 1)) (h' := (bs.length - x.k)) rfl Tryd.underlying22 Tryd.sizeOf5 rfl rfl ⟨hcut.2.1, x.hc⟩ rfl rfl ?_
    refine lx_assign rfl rfl rfl ?_
    refine lx_nil ?_
    repeat (refine kblk_n ?_)
    refine kseq_n ?_
    exact ⟨rfl, ⟨x.k + (((bs.length - x.k) - 1) % 48 + 1), _, x.c - (((bs.length - x.k) - 1) % 48 + 1), by have := x.hk; omega, by have := x.hc; omega, hnext, .inr (by rw [Nat.sub_add_eq]; exact hcut.1)⟩, _, by show bs.length - (x.k + (((bs.length - x.k) - 1) % 48 + 1)) < bs.length - x.k; omega, rfl, ⟨congrArg (fun n => some (Value.slice _ n _)) (Nat.sub_sub bs.length x.k (((bs.length - x.k) - 1) % 48 + 1)), rfl, rfl, trivial⟩, ⟨rfl, by rw [← hstep]; rfl, trivial⟩⟩
  · have hn : x.k = bs.length := by simp at hc; have := x.hk; omega
    clear hc
    refine x_exit ?_
    refine xs_plain (E := EE []) ?_
    refine lx_loada 3 rfl rfl Tryd.isAgg28 Tryd.sizeOf28 (by simp) rfl rfl ?_
    refine lx_storea 2 hGF rfl rfl rfl Tryd.sizeOf28 (by simp) (by simp) (one_u64 _) rfl ?_
    refine lx_nil ?_
    refine x_ret ?_
    repeat (first | refine kseq_ret ?_ | refine kblk_ret ?_)
    exact kret_own 2 rfl rfl rfl Tryd.isAgg28 Tryd.sizeOf28 (by simp) (fun w hw => ⟨by rw [hn]; rfl, hp_below hw⟩)
end Go.Proofs.YtgogiehnilpepaaDoor

namespace Go.Proofs.YtgogiehnilpepaaDoor
open Go.RowKit
set_option maxRecDepth 100000
set_option maxHeartbeats 1000000

theorem ent18 : Enters Tryd.prog 18 := fun _ _ => by kernel_rfl
theorem adc_le (x y c : BitVec 64) (hc : c.toNat ≤ 1) : (ADC x y c).2.toNat ≤ 1 := ADC_c x y c hc
/-- A part added, and what is carried. -/
def AB (t : List (BitVec 64)) (c : BitVec 64) : Nat → List (BitVec 64) × BitVec 64
  | 0 => (t.set 0 (ADC (t.getD 0 0) c 0).1, (ADC (t.getD 0 0) c 0).2)
  | j + 1 => ((AB t c j).1.set (j + 1) (ADC ((AB t c j).1.getD (j + 1) 0) 0 (AB t c j).2).1, (ADC ((AB t c j).1.getD (j + 1) 0) 0 (AB t c j).2).2)
theorem AB_len (t : List (BitVec 64)) (c : BitVec 64) : ∀ j, (AB t c j).1.length = t.length
  | 0 => by rw [AB, List.length_set]
  | j + 1 => by rw [AB, List.length_set, AB_len t c j]
theorem AB_c (t : List (BitVec 64)) (c : BitVec 64) : ∀ j, (AB t c j).2.toNat ≤ 1
  | 0 => adc_le _ _ _ (by decide)
  | j + 1 => adc_le _ _ _ (AB_c t c j)
def WDs (bs : List (BitVec 8)) (m : List (BitVec 64)) : Nat → List (BitVec 64)
  | 0 => List.replicate 6 0
  | i + 1 => MOD (AB (MU (WDs bs m i) (256#64 :: List.replicate 5 0) 6) ((bs.getD i 0).setWidth 64) 11).1 m
theorem WDs_len (bs : List (BitVec 8)) (m : List (BitVec 64)) : ∀ i, (WDs bs m i).length = 6
  | 0 => rfl
  | _ + 1 => MOD_len _ _
theorem WDs_succ (bs : List (BitVec 8)) (m : List (BitVec 64)) (i : Nat) : WDs bs m (i + 1) = MOD (AB (MU (WDs bs m i) (256#64 :: List.replicate 5 0) 6) ((bs.getD i 0).setWidth 64) 11).1 m := by rw [WDs]
theorem rwide_calls (e : Option Addr) (cap : Nat) (bs : List (BitVec 8)) (m : List (BitVec 64)) (hm : m.length = 6) (hlen : bs.length ≤ 1000000) (w : World) (hw : Gt w) (hby : BytesAt w e bs) :
    Calls Tryd.prog 18 [.slice e bs.length cap, .agg ((m).map U64).toArray].toArray w (fun r w' => r = .returned (.agg ((WDs bs m bs.length).map U64).toArray) ∧ Grow w w') := by
  have hGF : BOk Gt (pl w) := gt_low.plain hw
  refine calls_of_X (G := Gt) Tryd.func18 rfl rfl (Hp (pl w) []) (hp_refl (pl w) trivial rides_true) (good_hp hGF) ?_
  refine xs_plain (E := EE []) ?_
  refine lx_boxr 3 hGF rfl rfl rfl ?_
  intro b3
  refine lx_allocr 4 hGF zv31 rfl rfl ?_
  intro b4
  refine lx_nil ?_
  refine xs_plain (E := EE []) ?_
  refine lx_allocr 5 hGF zv31 rfl rfl ?_
  intro b5
  refine lx_nil ?_
  refine x_seq ?_
  refine xs_plain (E := EE []) ?_
  refine lx_assign rfl rfl rfl ?_
  refine lx_nil ?_
  refine x_block ?_
  refine x_for (ι := { i : Nat // i ≤ bs.length }) (fun x => [(0, .slice e bs.length cap), (3, .pointer (some ⟨b3, 0, none⟩)), (4, .pointer (some ⟨b4, 0, none⟩)), (5, .pointer (some ⟨b5, 0, none⟩)), (6, I (x.1 : Int))]) (fun x => [(3, b3, m.map U64, 31), (4, b4, (List.replicate 6 0#64).map U64, 31), (5, b5, (WDs bs m x.1).map U64, 31)]) (fun x => bs.length - x.1) ⟨0, by omega⟩ hGF ⟨rfl, rfl, rfl, rfl, rfl, trivial⟩ ⟨rfl, rfl, rfl, trivial⟩ ?_
  rintro ⟨i, hi⟩
  dsimp only
  refine x_seq ?_
  refine xs_plain (E := EE []) ?_
  refine lx_move rfl rfl rfl ?_
  refine lx_move rfl rfl rfl ?_
  refine lx_len rfl (fun _ => len_slice Tryd.underlying22 _ _ _ _) rfl rfl ?_
  refine lx_bin rfl rfl (fun _ => rfl) (fun _ => bin_lss_i _ _ _) rfl rfl ?_
  refine lx_nil ?_
  refine x_if rfl (fun hc => ?_) (fun hc => ?_)
  · simp only [decide_eq_true_eq] at hc
    refine x_skip ?_
    refine x_seq ?_
    refine x_block ?_
    refine xs_plain (E := EE []) ?_
    refine lx_loada 5 rfl rfl Tryd.isAgg31 Tryd.sizeOf31 (by rw [List.length_map, WDs_len]) rfl rfl ?_
    refine lx_build1 256#64 rfl Tryd.underlying31 Tryd.sizeOf23 zv31 rfl rfl ?_
    refine lx_call rfl rfl ent27 (times_pure (WDs bs m i) (256#64 :: List.replicate 5 0) (WDs_len _ _ _) rfl) rfl rfl ?_
    refine lx_allocr 7 hGF zv45 rfl rfl ?_
    intro b7
    refine lx_storea 7 hGF rfl rfl rfl Tryd.sizeOf45 (by rw [List.length_map, MU_len _ _ _]) (by rw [List.length_map, List.length_replicate]) (one_u64 _) rfl ?_
    refine lx_nil ?_
    refine xs_plain (E := EE []) ?_
    refine lx_assign rfl rfl rfl ?_
    generalize hM : (MU (WDs bs m i) (256#64 :: List.replicate 5 0) 6) = M0
    have hM0 : M0.length = 12 := by rw [← hM, MU_len]
    refine lx_nil ?_
    refine xs_drawn (E := EE []) mixed (by kernel_rfl) (by kernel_rfl) (by kernel_rfl) ?_
    refine lx_ia0 (0) rfl rfl Tryd.underlying45 Tryd.sizeOf23 (by omega) (by omega) rfl rfl ?_
    refine lx_loadm 7 U64 0 rfl rfl Tryd.isAgg23 (by rw [hM0]; omega) rfl rfl ?_
    refine lx_move rfl rfl rfl ?_
    refine lx_move rfl rfl rfl ?_
    obtain ⟨ad, rfl, _⟩ := hby i _ (gm U8 bs 0 i (by omega))
    refine lx_isA i rfl rfl Tryd.underlying22 Tryd.sizeOf5 rfl (by omega) rfl rfl ?_
    refine lx_load rfl Tryd.isAgg5 (fun w' h => by obtain ⟨ad', e, hc⟩ := (hby.grow (hp_below h)) i _ (gm U8 bs 0 i (by omega)); cases e; exact hc) rfl rfl ?_
    refine lx_conv rfl rfl (fun _ => conv_u8_u64 Tryd.underlying5 Tryd.underlying23 _) rfl rfl ?_
    refine lx_ext1 rfl rfl (fun w => add64 _ _ 0 (by decide) w) rfl rfl ?_
    refine lx_move rfl rfl rfl ?_
    refine lx_ext rfl rfl rfl rfl ?_
    refine lx_ext rfl rfl rfl rfl ?_
    refine lx_ia0 (0) rfl rfl Tryd.underlying45 Tryd.sizeOf23 (by omega) (by omega) rfl rfl ?_
    refine lx_storem 7 U64 hGF rfl rfl rfl Tryd.sizeOf23 rfl (by rw [hM0]; omega) rfl ?_
    refine lx_assign rfl rfl rfl ?_
    refine lx_nil ?_
    refine x_seq ?_
    refine xs_plain (E := EE []) ?_
    refine lx_assign rfl rfl rfl ?_
    refine lx_nil ?_
    refine x_block ?_
    refine x_for (ι := { i : Nat // i ≤ 11 }) (fun x => [(0, .slice (some ad) bs.length cap), (3, .pointer (some ⟨b3, 0, none⟩)), (4, .pointer (some ⟨b4, 0, none⟩)), (5, .pointer (some ⟨b5, 0, none⟩)), (6, I (i : Int)), (7, .pointer (some ⟨b7, 0, none⟩)), (8, U64 (AB M0 ((bs.getD i 0).setWidth 64) x.1).2), (9, I ((x.1 + 1 : Nat) : Int))]) (fun x => [(3, b3, m.map U64, 31), (4, b4, (List.replicate 6 0#64).map U64, 31), (5, b5, (WDs bs m i).map U64, 31), (7, b7, (AB M0 ((bs.getD i 0).setWidth 64) x.1).1.map U64, 45)]) (fun x => 11 - x.1) ⟨0, by omega⟩ hGF ⟨rfl, rfl, rfl, rfl, rfl, rfl, rfl, rfl, trivial⟩ ⟨rfl, rfl, rfl, rfl, trivial⟩ ?_
    rintro ⟨j, hj⟩
    dsimp only
    refine x_seq ?_
    refine xs_plain (E := EE []) ?_
    refine lx_move rfl rfl rfl ?_
    refine lx_bin rfl rfl (fun _ => rfl) (fun _ => bin_lss_i _ _ _) rfl rfl ?_
    refine lx_nil ?_
    refine x_if rfl (fun hc => ?_) (fun hc => ?_)
    · simp only [decide_eq_true_eq] at hc
      refine x_skip ?_
      refine x_seq ?_
      refine x_block ?_
      refine x_plain (E := EE []) ?_
      refine lx_move rfl rfl rfl ?_
      refine lx_move rfl rfl rfl ?_
      refine lx_ia0 ((j + 1)) rfl rfl Tryd.underlying45 Tryd.sizeOf23 (by omega) (by omega) rfl rfl ?_
      refine lx_loadm 7 U64 0 rfl rfl Tryd.isAgg23 (by rw [AB_len, hM0]; omega) rfl rfl ?_
      refine lx_move rfl rfl rfl ?_
      refine lx_ext1 rfl rfl (fun w => add64 _ 0 _ (AB_c _ _ _) w) rfl rfl ?_
      refine lx_move rfl rfl rfl ?_
      refine lx_ext rfl rfl rfl rfl ?_
      refine lx_ext rfl rfl rfl rfl ?_
      refine lx_ia0 ((j + 1)) rfl rfl Tryd.underlying45 Tryd.sizeOf23 (by omega) (by omega) rfl rfl ?_
      refine lx_storem 7 U64 hGF rfl rfl rfl Tryd.sizeOf23 rfl (by rw [AB_len, hM0]; omega) rfl ?_
      refine lx_assign rfl rfl rfl ?_
      refine lx_nil ?_
      refine x_plain (E := EE []) ?_
      refine lx_move rfl rfl rfl ?_
      refine lx_bin rfl rfl (fun _ => rfl) (fun _ => bin_add_i _ _ _ (by unfold inI; omega)) rfl rfl ?_
      refine lx_assign rfl rfl rfl ?_
      refine lx_nil ?_
      repeat (refine kblk_n ?_)
      refine kseq_n ?_
      exact ⟨rfl, ⟨j + 1, by omega⟩, _, by show 11 - (j + 1) < 11 - j; omega, rfl, ⟨rfl, rfl, rfl, rfl, rfl, rfl, rfl, rfl, trivial⟩, ⟨rfl, rfl, rfl, rfl, trivial⟩⟩
    · obtain rfl : j = 11 := by simp at hc; omega
      refine x_exit ?_
      refine x_plain (E := EE []) ?_
      refine lx_loada 7 rfl rfl Tryd.isAgg45 Tryd.sizeOf45 (by rw [List.length_map, AB_len, hM0]) rfl rfl ?_
      refine lx_loada 3 rfl rfl Tryd.isAgg31 Tryd.sizeOf31 (by rw [List.length_map, hm]) rfl rfl ?_
      refine lx_call rfl rfl ent24 (rmod_pure _ _ (by rw [AB_len, hM0]) hm) rfl rfl ?_
      refine lx_storea 5 hGF rfl rfl rfl Tryd.sizeOf31 (by rw [List.length_map, MOD_len _ _]) (by rw [List.length_map, WDs_len]) (one_u64 _) rfl ?_
      refine lx_nil ?_
      refine x_plain (E := EE []) ?_
      refine lx_move rfl rfl rfl ?_
      refine lx_bin rfl rfl (fun _ => rfl) (fun _ => bin_add_i _ _ _ (by unfold inI; omega)) rfl rfl ?_
      refine lx_assign rfl rfl rfl ?_
      refine lx_nil ?_
      repeat (refine kblk_n ?_)
      refine kseq_n ?_
      exact ⟨rfl, ⟨i + 1, by omega⟩, _, by show bs.length - (i + 1) < bs.length - i; omega, rfl, ⟨rfl, rfl, rfl, rfl, rfl, trivial⟩, ⟨rfl, rfl, by rw [WDs_succ, hM]; rfl, trivial⟩⟩
  · obtain rfl : i = bs.length := by simp at hc; omega
    refine x_exit ?_
    refine xs_plain (E := EE []) ?_
    refine lx_loada 5 rfl rfl Tryd.isAgg31 Tryd.sizeOf31 (by rw [List.length_map, WDs_len]) rfl rfl ?_
    refine lx_storea 4 hGF rfl rfl rfl Tryd.sizeOf31 (by rw [List.length_map, WDs_len _ _ _]) (by rw [List.length_map, List.length_replicate]) (one_u64 _) rfl ?_
    refine lx_nil ?_
    refine x_ret ?_
    repeat (first | refine kseq_ret ?_ | refine kblk_ret ?_)
    exact kret_own 4 rfl rfl rfl Tryd.isAgg31 Tryd.sizeOf31 (by rw [List.length_map, WDs_len]) (fun w hw => ⟨rfl, hp_below hw⟩)
end Go.Proofs.YtgogiehnilpepaaDoor
