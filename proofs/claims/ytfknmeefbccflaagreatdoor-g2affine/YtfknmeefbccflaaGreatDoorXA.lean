/-
  The walks of package fp2: sums and products.
  The walks of package fp2: signs and roots; the reference's elements.
-/
import Derived.Test.YtfknmeefbccflaaGreatDoorX9
import Derived.Test.YtfknmeefbccflaaGreatDoorX5
import Derived.Test.YtfknmeefbccflaaGreatDoorX3
namespace Go.Proofs.YtfknmeefbccflaaGreatDoor
open Go.RowKit
set_option maxRecDepth 100000
set_option maxHeartbeats 1000000
attribute [local simp] fe_len nm_len AS_len SS_len MONT_len RM_len FRs_len BYs_len by48_len PLl TWOl ONEl N1l IVPl HFPl RTPl FL_len SP_len fe2_len SP2_len FM_len

theorem ent72 : Enters Tryz.prog 72 := fun _ _ => by kernel_rfl
theorem ent18 : Enters Tryz.prog 18 := fun _ _ => by kernel_rfl
theorem ent58 : Enters Tryz.prog 58 := fun _ _ => by kernel_rfl
theorem ent71 : Enters Tryz.prog 71 := fun _ _ => by kernel_rfl
theorem ent73 : Enters Tryz.prog 73 := fun _ _ => by kernel_rfl
theorem ent63 : Enters Tryz.prog 63 := fun _ _ => by kernel_rfl
theorem ent106 : Enters Tryz.prog 106 := fun _ _ => by kernel_rfl
theorem ent60 : Enters Tryz.prog 60 := fun _ _ => by kernel_rfl
theorem ent51 : Enters Tryz.prog 51 := fun _ _ => by kernel_rfl
theorem ent107 : Enters Tryz.prog 107 := fun _ _ => by kernel_rfl
theorem ent59 : Enters Tryz.prog 59 := fun _ _ => by kernel_rfl
theorem ent108 : Enters Tryz.prog 108 := fun _ _ => by kernel_rfl
theorem ent90 : Enters Tryz.prog 90 := fun _ _ => by kernel_rfl
theorem ent75 : Enters Tryz.prog 75 := fun _ _ => by kernel_rfl
theorem ent55 : Enters Tryz.prog 55 := fun _ _ => by kernel_rfl
theorem ent74 : Enters Tryz.prog 74 := fun _ _ => by kernel_rfl
theorem ent67 : Enters Tryz.prog 67 := fun _ _ => by kernel_rfl
theorem ent54 : Enters Tryz.prog 54 := fun _ _ => by kernel_rfl
/-- An element of fp2 as a value. -/
abbrev EV2 (x : W2) : Value := .agg ((fe x.1 ++ fe x.2).map U64).toArray
theorem zv30 (w : World) : (zeroValue 30).run Tryz.prog w = .ok (.agg ((fe 0 ++ fe 0).map U64).toArray) w := by rw [fe_0]; exact (Tryz.zeroValue30 w).trans (by rfl)
theorem two30 : Two Tryz.prog 30 ⟨ "C0", 28, 0, false, "", "", 0⟩ ⟨ "C1", 28, 6, false, "", "", 48⟩ 6 6 (fe 0) (fe 0) := ⟨Tryz.underlying30, rfl, rfl, Tryz.sizeOf28, Tryz.sizeOf28, zv30, fe_len 0, fe_len 0⟩
theorem zv41 (w : World) : (zeroValue 41).run Tryz.prog w = .ok (.agg ((fe 0 ++ fe 0).map U64).toArray) w := by rw [fe_0]; exact (Tryz.zeroValue41 w).trans (by rfl)
theorem two41 : Two Tryz.prog 41 ⟨ "A", 39, 0, false, "", "", 0⟩ ⟨ "B", 39, 6, false, "", "", 48⟩ 6 6 (fe 0) (fe 0) := ⟨Tryz.underlying41, rfl, rfl, Tryz.sizeOf39, Tryz.sizeOf39, zv41, fe_len 0, fe_len 0⟩
theorem eqf41 : EqF Tryz.prog 41 12 4 :=
  have h : EqF Tryz.prog 39 6 3 := eqf_one Tryz.underlying39 rfl (by decide) (by kernel_rfl) Tryz.isAgg37 Tryz.sizeOf37 (eqf_arr Tryz.underlying37 Tryz.underlying25 Tryz.sizeOf25 Tryz.isAgg25)
  eqf_two Tryz.underlying41 rfl rfl (by decide) (by decide) (by kernel_rfl) Tryz.isAgg39 Tryz.sizeOf39 h Tryz.isAgg39 Tryz.sizeOf39 h
theorem eqg41 (op : BinOp) (x y : Operand) (xs ys : Array Value) (w : World) : (eqGuard op 41 x y (.agg xs) (.agg ys)).run Tryz.prog w = .ok () w := run_eqGuard_agg w op 41 x y xs ys (by kernel_rfl)
theorem eqv41 (xs ys : List (BitVec 64)) (h : xs.length = 12) (h' : ys.length = 12) (w : World) : (binOp .eql 41 (.agg (xs.map U64).toArray) (.agg (ys.map U64).toArray)).run Tryz.prog w = .ok (.bool (decide (xs = ys))) w := bin_eqf eqf41 (by decide) xs ys h h' w
theorem e2 {a b c d : Zp} (h1 : a = c) (h2 : b = d) : Ending.returned (.agg ((fe a ++ fe b).map U64).toArray) = .returned (.agg ((fe c ++ fe d).map U64).toArray) := by rw [h1, h2]
theorem rb {a b : Bool} (h : a = b) : Ending.returned (.bool a) = .returned (.bool b) := by rw [h]
theorem e2one  : Pure Tryz.prog Gt 72 [] (EV2 on2) := by
  intro w hw
  have hGF : BOk Gt (pl w) := gt_low.plain hw
  refine calls_of_X (G := Gt) Tryz.func72 rfl rfl (Hp (pl w) []) (hp_refl (pl w) trivial rides_true) (good_hp hGF) ?_
  refine xs_plain (E := EE []) ?_
  refine lx_allocr 0 hGF zv30 rfl rfl ?_
  intro b0
  refine lx_nil ?_
  refine xs_plain (E := EE []) ?_
  refine lx_call rfl rfl ent97 (fof1_pure) rfl rfl ?_
  refine lx_twoA two30 rfl (by simp) rfl rfl ?_
  refine lx_storea 0 hGF rfl rfl rfl Tryz.sizeOf30 (by simp) (by simp) (one_u64 _) rfl ?_
  refine lx_nil ?_
  refine x_ret ?_
  repeat (first | refine kseq_ret ?_ | refine kblk_ret ?_)
  exact kret_own 0 rfl rfl rfl Tryz.isAgg30 Tryz.sizeOf30 (by simp) (fun w hw => ⟨rfl, hp_below hw⟩)
theorem e2equal (x y : W2) : Pure Tryz.prog Gt 18 [EV2 x, EV2 y] (.bool (decide (x = y))) := by
  intro w hw
  have hGF : BOk Gt (pl w) := gt_low.plain hw
  by_cases h : x.1 = y.1
  · skip
    refine calls_of_X (G := Gt) Tryz.func18 rfl rfl (Hp (pl w) []) (hp_refl (pl w) trivial rides_true) (good_hp hGF) ?_
    refine xs_plain (E := EE []) ?_
    refine lx_boxr 2 hGF rfl rfl rfl ?_
    intro b2
    refine lx_boxr 3 hGF rfl rfl rfl ?_
    intro b3
    refine lx_assign rfl rfl rfl ?_
    refine lx_nil ?_
    refine xs_plain (E := EE []) ?_
    refine lx_fak 0 rfl Tryz.underlying30 rfl Tryz.sizeOf28 (by decide) rfl rfl rfl ?_
    refine lx_loado 2 _ rfl rfl Tryz.isAgg28 Tryz.sizeOf28 (by simp) ld_l rfl rfl ?_
    refine lx_fak 0 rfl Tryz.underlying30 rfl Tryz.sizeOf28 (by decide) rfl rfl rfl ?_
    refine lx_loado 3 _ rfl rfl Tryz.isAgg28 Tryz.sizeOf28 (by simp) ld_l rfl rfl ?_
    refine lx_callB true rfl rfl ent61 (fequal_pure _ _) (decide_eq_true h) rfl rfl ?_
    refine lx_move rfl rfl rfl ?_
    refine lx_fak 6 rfl Tryz.underlying30 rfl Tryz.sizeOf28 (by decide) rfl rfl rfl ?_
    refine lx_loado 2 _ rfl rfl Tryz.isAgg28 Tryz.sizeOf28 (by simp) (ld_r (by simp)) rfl rfl ?_
    refine lx_fak 6 rfl Tryz.underlying30 rfl Tryz.sizeOf28 (by decide) rfl rfl rfl ?_
    refine lx_loado 3 _ rfl rfl Tryz.isAgg28 Tryz.sizeOf28 (by simp) (ld_r (by simp)) rfl rfl ?_
    refine lx_call rfl rfl ent61 (fequal_pure _ _) rfl rfl ?_
    refine lx_pick rfl rfl rfl rfl rfl ?_
    refine lx_assign rfl rfl rfl ?_
    refine lx_nil ?_
    refine x_ret ?_
    repeat (first | refine kseq_ret ?_ | refine kblk_ret ?_)
    exact kret_tmp rfl rfl (fun w hw => ⟨rb (dec2_t h), hp_below hw⟩)
  · skip
    refine calls_of_X (G := Gt) Tryz.func18 rfl rfl (Hp (pl w) []) (hp_refl (pl w) trivial rides_true) (good_hp hGF) ?_
    refine xs_plain (E := EE []) ?_
    refine lx_boxr 2 hGF rfl rfl rfl ?_
    intro b2
    refine lx_boxr 3 hGF rfl rfl rfl ?_
    intro b3
    refine lx_assign rfl rfl rfl ?_
    refine lx_nil ?_
    refine xs_plain (E := EE []) ?_
    refine lx_fak 0 rfl Tryz.underlying30 rfl Tryz.sizeOf28 (by decide) rfl rfl rfl ?_
    refine lx_loado 2 _ rfl rfl Tryz.isAgg28 Tryz.sizeOf28 (by simp) ld_l rfl rfl ?_
    refine lx_fak 0 rfl Tryz.underlying30 rfl Tryz.sizeOf28 (by decide) rfl rfl rfl ?_
    refine lx_loado 3 _ rfl rfl Tryz.isAgg28 Tryz.sizeOf28 (by simp) ld_l rfl rfl ?_
    refine lx_callB false rfl rfl ent61 (fequal_pure _ _) (decide_eq_false h) rfl rfl ?_
    refine lx_move rfl rfl rfl ?_
    refine lx_skip rfl rfl rfl ?_
    refine lx_skip rfl rfl rfl ?_
    refine lx_skip rfl rfl rfl ?_
    refine lx_skip rfl rfl rfl ?_
    refine lx_skip rfl rfl rfl ?_
    refine lx_pick rfl rfl rfl rfl rfl ?_
    refine lx_assign rfl rfl rfl ?_
    refine lx_nil ?_
    refine x_ret ?_
    repeat (first | refine kseq_ret ?_ | refine kblk_ret ?_)
    exact kret_tmp rfl rfl (fun w hw => ⟨rb (dec2_f h), hp_below hw⟩)
theorem e2isZero (x : W2) : Pure Tryz.prog Gt 58 [EV2 x] (.bool (decide (x = ze2))) := by
  intro w hw
  have hGF : BOk Gt (pl w) := gt_low.plain hw
  by_cases h : x.1 = 0
  · skip
    refine calls_of_X (G := Gt) Tryz.func58 rfl rfl (Hp (pl w) []) (hp_refl (pl w) trivial rides_true) (good_hp hGF) ?_
    refine xs_plain (E := EE []) ?_
    refine lx_boxr 1 hGF rfl rfl rfl ?_
    intro b1
    refine lx_assign rfl rfl rfl ?_
    refine lx_nil ?_
    refine xs_plain (E := EE []) ?_
    refine lx_fak 0 rfl Tryz.underlying30 rfl Tryz.sizeOf28 (by decide) rfl rfl rfl ?_
    refine lx_loado 1 _ rfl rfl Tryz.isAgg28 Tryz.sizeOf28 (by simp) ld_l rfl rfl ?_
    refine lx_callB true rfl rfl ent105 (fisZero_pure _) (decide_eq_true h) rfl rfl ?_
    refine lx_move rfl rfl rfl ?_
    refine lx_fak 6 rfl Tryz.underlying30 rfl Tryz.sizeOf28 (by decide) rfl rfl rfl ?_
    refine lx_loado 1 _ rfl rfl Tryz.isAgg28 Tryz.sizeOf28 (by simp) (ld_r (by simp)) rfl rfl ?_
    refine lx_call rfl rfl ent105 (fisZero_pure _) rfl rfl ?_
    refine lx_pick rfl rfl rfl rfl rfl ?_
    refine lx_assign rfl rfl rfl ?_
    refine lx_nil ?_
    refine x_ret ?_
    repeat (first | refine kseq_ret ?_ | refine kblk_ret ?_)
    exact kret_tmp rfl rfl (fun w hw => ⟨rb (dec2_t (y := ze2) h), hp_below hw⟩)
  · skip
    refine calls_of_X (G := Gt) Tryz.func58 rfl rfl (Hp (pl w) []) (hp_refl (pl w) trivial rides_true) (good_hp hGF) ?_
    refine xs_plain (E := EE []) ?_
    refine lx_boxr 1 hGF rfl rfl rfl ?_
    intro b1
    refine lx_assign rfl rfl rfl ?_
    refine lx_nil ?_
    refine xs_plain (E := EE []) ?_
    refine lx_fak 0 rfl Tryz.underlying30 rfl Tryz.sizeOf28 (by decide) rfl rfl rfl ?_
    refine lx_loado 1 _ rfl rfl Tryz.isAgg28 Tryz.sizeOf28 (by simp) ld_l rfl rfl ?_
    refine lx_callB false rfl rfl ent105 (fisZero_pure _) (decide_eq_false h) rfl rfl ?_
    refine lx_move rfl rfl rfl ?_
    refine lx_skip rfl rfl rfl ?_
    refine lx_skip rfl rfl rfl ?_
    refine lx_skip rfl rfl rfl ?_
    refine lx_pick rfl rfl rfl rfl rfl ?_
    refine lx_assign rfl rfl rfl ?_
    refine lx_nil ?_
    refine x_ret ?_
    repeat (first | refine kseq_ret ?_ | refine kblk_ret ?_)
    exact kret_tmp rfl rfl (fun w hw => ⟨rb (dec2_f (y := ze2) h), hp_below hw⟩)
theorem e2add (x y : W2) : Pure Tryz.prog Gt 71 [EV2 x, EV2 y] (EV2 (ad2 x y)) := by
  intro w hw
  have hGF : BOk Gt (pl w) := gt_low.plain hw
  refine calls_of_X (G := Gt) Tryz.func71 rfl rfl (Hp (pl w) []) (hp_refl (pl w) trivial rides_true) (good_hp hGF) ?_
  refine xs_plain (E := EE []) ?_
  refine lx_boxr 2 hGF rfl rfl rfl ?_
  intro b2
  refine lx_boxr 3 hGF rfl rfl rfl ?_
  intro b3
  refine lx_allocr 4 hGF zv30 rfl rfl ?_
  intro b4
  refine lx_nil ?_
  refine xs_drawn (E := EE []) mixed (by kernel_rfl) (by kernel_rfl) (by kernel_rfl) ?_
  refine lx_fak 0 rfl Tryz.underlying30 rfl Tryz.sizeOf28 (by decide) rfl rfl rfl ?_
  refine lx_loado 2 _ rfl rfl Tryz.isAgg28 Tryz.sizeOf28 (by simp) ld_l rfl rfl ?_
  refine lx_fak 0 rfl Tryz.underlying30 rfl Tryz.sizeOf28 (by decide) rfl rfl rfl ?_
  refine lx_loado 3 _ rfl rfl Tryz.isAgg28 Tryz.sizeOf28 (by simp) ld_l rfl rfl ?_
  refine lx_call rfl rfl ent94 (fadd_pure _ _) rfl rfl ?_
  refine lx_fak 6 rfl Tryz.underlying30 rfl Tryz.sizeOf28 (by decide) rfl rfl rfl ?_
  refine lx_loado 2 _ rfl rfl Tryz.isAgg28 Tryz.sizeOf28 (by simp) (ld_r (by simp)) rfl rfl ?_
  refine lx_fak 6 rfl Tryz.underlying30 rfl Tryz.sizeOf28 (by decide) rfl rfl rfl ?_
  refine lx_loado 3 _ rfl rfl Tryz.isAgg28 Tryz.sizeOf28 (by simp) (ld_r (by simp)) rfl rfl ?_
  refine lx_call rfl rfl ent94 (fadd_pure _ _) rfl rfl ?_
  refine lx_two two30 rfl rfl (by simp) (by simp) rfl rfl ?_
  refine lx_storea 4 hGF rfl rfl rfl Tryz.sizeOf30 (by simp) (by simp) (one_u64 _) rfl ?_
  refine lx_nil ?_
  refine x_ret ?_
  repeat (first | refine kseq_ret ?_ | refine kblk_ret ?_)
  exact kret_own 4 rfl rfl rfl Tryz.isAgg30 Tryz.sizeOf30 (by simp) (fun w hw => ⟨rfl, hp_below hw⟩)
theorem e2sub (x y : W2) : Pure Tryz.prog Gt 73 [EV2 x, EV2 y] (EV2 (sb2 x y)) := by
  intro w hw
  have hGF : BOk Gt (pl w) := gt_low.plain hw
  refine calls_of_X (G := Gt) Tryz.func73 rfl rfl (Hp (pl w) []) (hp_refl (pl w) trivial rides_true) (good_hp hGF) ?_
  refine xs_plain (E := EE []) ?_
  refine lx_boxr 2 hGF rfl rfl rfl ?_
  intro b2
  refine lx_boxr 3 hGF rfl rfl rfl ?_
  intro b3
  refine lx_allocr 4 hGF zv30 rfl rfl ?_
  intro b4
  refine lx_nil ?_
  refine xs_drawn (E := EE []) mixed (by kernel_rfl) (by kernel_rfl) (by kernel_rfl) ?_
  refine lx_fak 0 rfl Tryz.underlying30 rfl Tryz.sizeOf28 (by decide) rfl rfl rfl ?_
  refine lx_loado 2 _ rfl rfl Tryz.isAgg28 Tryz.sizeOf28 (by simp) ld_l rfl rfl ?_
  refine lx_fak 0 rfl Tryz.underlying30 rfl Tryz.sizeOf28 (by decide) rfl rfl rfl ?_
  refine lx_loado 3 _ rfl rfl Tryz.isAgg28 Tryz.sizeOf28 (by simp) ld_l rfl rfl ?_
  refine lx_call rfl rfl ent96 (fsub_pure _ _) rfl rfl ?_
  refine lx_fak 6 rfl Tryz.underlying30 rfl Tryz.sizeOf28 (by decide) rfl rfl rfl ?_
  refine lx_loado 2 _ rfl rfl Tryz.isAgg28 Tryz.sizeOf28 (by simp) (ld_r (by simp)) rfl rfl ?_
  refine lx_fak 6 rfl Tryz.underlying30 rfl Tryz.sizeOf28 (by decide) rfl rfl rfl ?_
  refine lx_loado 3 _ rfl rfl Tryz.isAgg28 Tryz.sizeOf28 (by simp) (ld_r (by simp)) rfl rfl ?_
  refine lx_call rfl rfl ent96 (fsub_pure _ _) rfl rfl ?_
  refine lx_two two30 rfl rfl (by simp) (by simp) rfl rfl ?_
  refine lx_storea 4 hGF rfl rfl rfl Tryz.sizeOf30 (by simp) (by simp) (one_u64 _) rfl ?_
  refine lx_nil ?_
  refine x_ret ?_
  repeat (first | refine kseq_ret ?_ | refine kblk_ret ?_)
  exact kret_own 4 rfl rfl rfl Tryz.isAgg30 Tryz.sizeOf30 (by simp) (fun w hw => ⟨rfl, hp_below hw⟩)
theorem e2neg (x : W2) : Pure Tryz.prog Gt 63 [EV2 x] (EV2 (ng2 x)) := by
  intro w hw
  have hGF : BOk Gt (pl w) := gt_low.plain hw
  refine calls_of_X (G := Gt) Tryz.func63 rfl rfl (Hp (pl w) []) (hp_refl (pl w) trivial rides_true) (good_hp hGF) ?_
  refine xs_plain (E := EE []) ?_
  refine lx_boxr 1 hGF rfl rfl rfl ?_
  intro b1
  refine lx_allocr 2 hGF zv30 rfl rfl ?_
  intro b2
  refine lx_nil ?_
  refine xs_drawn (E := EE []) mixed (by kernel_rfl) (by kernel_rfl) (by kernel_rfl) ?_
  refine lx_fak 0 rfl Tryz.underlying30 rfl Tryz.sizeOf28 (by decide) rfl rfl rfl ?_
  refine lx_loado 1 _ rfl rfl Tryz.isAgg28 Tryz.sizeOf28 (by simp) ld_l rfl rfl ?_
  refine lx_call rfl rfl ent114 (fneg_pure _) rfl rfl ?_
  refine lx_fak 6 rfl Tryz.underlying30 rfl Tryz.sizeOf28 (by decide) rfl rfl rfl ?_
  refine lx_loado 1 _ rfl rfl Tryz.isAgg28 Tryz.sizeOf28 (by simp) (ld_r (by simp)) rfl rfl ?_
  refine lx_call rfl rfl ent114 (fneg_pure _) rfl rfl ?_
  refine lx_two two30 rfl rfl (by simp) (by simp) rfl rfl ?_
  refine lx_storea 2 hGF rfl rfl rfl Tryz.sizeOf30 (by simp) (by simp) (one_u64 _) rfl ?_
  refine lx_nil ?_
  refine x_ret ?_
  repeat (first | refine kseq_ret ?_ | refine kblk_ret ?_)
  exact kret_own 2 rfl rfl rfl Tryz.isAgg30 Tryz.sizeOf30 (by simp) (fun w hw => ⟨rfl, hp_below hw⟩)
theorem e2conj (x : W2) : Pure Tryz.prog Gt 106 [EV2 x] (EV2 (cj2 x)) := by
  intro w hw
  have hGF : BOk Gt (pl w) := gt_low.plain hw
  refine calls_of_X (G := Gt) Tryz.func106 rfl rfl (Hp (pl w) []) (hp_refl (pl w) trivial rides_true) (good_hp hGF) ?_
  refine xs_plain (E := EE []) ?_
  refine lx_boxr 1 hGF rfl rfl rfl ?_
  intro b1
  refine lx_allocr 2 hGF zv30 rfl rfl ?_
  intro b2
  refine lx_nil ?_
  refine xs_drawn (E := EE []) mixed (by kernel_rfl) (by kernel_rfl) (by kernel_rfl) ?_
  refine lx_fak 0 rfl Tryz.underlying30 rfl Tryz.sizeOf28 (by decide) rfl rfl rfl ?_
  refine lx_loado 1 _ rfl rfl Tryz.isAgg28 Tryz.sizeOf28 (by simp) ld_l rfl rfl ?_
  refine lx_fak 6 rfl Tryz.underlying30 rfl Tryz.sizeOf28 (by decide) rfl rfl rfl ?_
  refine lx_loado 1 _ rfl rfl Tryz.isAgg28 Tryz.sizeOf28 (by simp) (ld_r (by simp)) rfl rfl ?_
  refine lx_call rfl rfl ent114 (fneg_pure _) rfl rfl ?_
  refine lx_two two30 rfl rfl (by simp) (by simp) rfl rfl ?_
  refine lx_storea 2 hGF rfl rfl rfl Tryz.sizeOf30 (by simp) (by simp) (one_u64 _) rfl ?_
  refine lx_nil ?_
  refine x_ret ?_
  repeat (first | refine kseq_ret ?_ | refine kblk_ret ?_)
  exact kret_own 2 rfl rfl rfl Tryz.isAgg30 Tryz.sizeOf30 (by simp) (fun w hw => ⟨rfl, hp_below hw⟩)
theorem e2mul (x y : W2) : Pure Tryz.prog Gt 60 [EV2 x, EV2 y] (EV2 (ml2 x y)) := by
  intro w hw
  have hGF : BOk Gt (pl w) := gt_low.plain hw
  refine calls_of_X (G := Gt) Tryz.func60 rfl rfl (Hp (pl w) []) (hp_refl (pl w) trivial rides_true) (good_hp hGF) ?_
  refine xs_plain (E := EE []) ?_
  refine lx_boxr 2 hGF rfl rfl rfl ?_
  intro b2
  refine lx_boxr 3 hGF rfl rfl rfl ?_
  intro b3
  refine lx_allocr 4 hGF zv30 rfl rfl ?_
  intro b4
  refine lx_nil ?_
  refine xs_drawA (E := EE [2999999]) [0, 1, 2, 3, 4, 5, 6, 7, 8, 9] [⟨10, 5, 28, (List.replicate 6 0#64).map U64⟩, ⟨11, 6, 28, (List.replicate 6 0#64).map U64⟩] [12, 13] mixed rfl (by kernel_rfl) (by kernel_rfl) (by kernel_rfl) (by kernel_rfl) (by kernel_rfl) (by kernel_rfl) (by decide) (by intro x hx; simp only [List.mem_cons, List.not_mem_nil, or_false] at hx; rcases hx with rfl | rfl <;> exact isAlloc_mk rfl zv28 rfl) ?_
  refine lx_fak 0 rfl Tryz.underlying30 rfl Tryz.sizeOf28 (by decide) rfl rfl rfl ?_
  refine lx_loado 2 _ rfl rfl Tryz.isAgg28 Tryz.sizeOf28 (by simp) ld_l rfl rfl ?_
  refine lx_fak 0 rfl Tryz.underlying30 rfl Tryz.sizeOf28 (by decide) rfl rfl rfl ?_
  refine lx_loado 3 _ rfl rfl Tryz.isAgg28 Tryz.sizeOf28 (by simp) ld_l rfl rfl ?_
  refine lx_call rfl rfl ent93 (fmul_pure _ _) rfl rfl ?_
  refine lx_fak 6 rfl Tryz.underlying30 rfl Tryz.sizeOf28 (by decide) rfl rfl rfl ?_
  refine lx_loado 2 _ rfl rfl Tryz.isAgg28 Tryz.sizeOf28 (by simp) (ld_r (by simp)) rfl rfl ?_
  refine lx_fak 6 rfl Tryz.underlying30 rfl Tryz.sizeOf28 (by decide) rfl rfl rfl ?_
  refine lx_loado 3 _ rfl rfl Tryz.isAgg28 Tryz.sizeOf28 (by simp) (ld_r (by simp)) rfl rfl ?_
  refine lx_call rfl rfl ent93 (fmul_pure _ _) rfl rfl ?_
  refine lx_nil ?_
  refine ⟨_, _, rfl, hGF, by intro x hx; simp only [List.mem_cons, List.not_mem_nil, or_false] at hx; rcases hx with rfl | rfl <;> rfl, by intro x hx; simp only [List.mem_cons, List.not_mem_nil, or_false] at hx; rcases hx with rfl | rfl <;> rfl, fun adr => ?_⟩
  refine lx_storea 5 hGF rfl rfl rfl Tryz.sizeOf28 (by simp) (by simp) (one_u64 _) rfl ?_
  refine lx_storea 6 hGF rfl rfl rfl Tryz.sizeOf28 (by simp) (by simp) (one_u64 _) rfl ?_
  refine lx_nil ?_
  refine xs_drawA (E := EE [2999999]) [0, 1, 2, 3, 4, 5, 6, 7, 8, 9, 10] [⟨11, 7, 28, (List.replicate 6 0#64).map U64⟩] [12] mixed rfl (by kernel_rfl) (by kernel_rfl) (by kernel_rfl) (by kernel_rfl) (by kernel_rfl) (by kernel_rfl) (by decide) (by intro x hx; simp only [List.mem_cons, List.not_mem_nil, or_false] at hx; subst hx; exact isAlloc_mk rfl zv28 rfl) ?_
  refine lx_fak 0 rfl Tryz.underlying30 rfl Tryz.sizeOf28 (by decide) rfl rfl rfl ?_
  refine lx_loado 2 _ rfl rfl Tryz.isAgg28 Tryz.sizeOf28 (by simp) ld_l rfl rfl ?_
  refine lx_fak 6 rfl Tryz.underlying30 rfl Tryz.sizeOf28 (by decide) rfl rfl rfl ?_
  refine lx_loado 2 _ rfl rfl Tryz.isAgg28 Tryz.sizeOf28 (by simp) (ld_r (by simp)) rfl rfl ?_
  refine lx_call rfl rfl ent94 (fadd_pure _ _) rfl rfl ?_
  refine lx_fak 0 rfl Tryz.underlying30 rfl Tryz.sizeOf28 (by decide) rfl rfl rfl ?_
  refine lx_loado 3 _ rfl rfl Tryz.isAgg28 Tryz.sizeOf28 (by simp) ld_l rfl rfl ?_
  refine lx_fak 6 rfl Tryz.underlying30 rfl Tryz.sizeOf28 (by decide) rfl rfl rfl ?_
  refine lx_loado 3 _ rfl rfl Tryz.isAgg28 Tryz.sizeOf28 (by simp) (ld_r (by simp)) rfl rfl ?_
  refine lx_call rfl rfl ent94 (fadd_pure _ _) rfl rfl ?_
  refine lx_call rfl rfl ent93 (fmul_pure _ _) rfl rfl ?_
  refine lx_nil ?_
  refine ⟨_, _, rfl, hGF, by intro x hx; simp only [List.mem_cons, List.not_mem_nil, or_false] at hx; subst hx; rfl, by intro x hx; simp only [List.mem_cons, List.not_mem_nil, or_false] at hx; subst hx; rfl, fun adr => ?_⟩
  refine lx_storea 7 hGF rfl rfl rfl Tryz.sizeOf28 (by simp) (by simp) (one_u64 _) rfl ?_
  refine lx_nil ?_
  refine xs_drawn (E := EE []) mixed (by kernel_rfl) (by kernel_rfl) (by kernel_rfl) ?_
  refine lx_loada 5 rfl rfl Tryz.isAgg28 Tryz.sizeOf28 (by simp) rfl rfl ?_
  refine lx_loada 6 rfl rfl Tryz.isAgg28 Tryz.sizeOf28 (by simp) rfl rfl ?_
  refine lx_call rfl rfl ent96 (fsub_pure _ _) rfl rfl ?_
  refine lx_loada 7 rfl rfl Tryz.isAgg28 Tryz.sizeOf28 (by simp) rfl rfl ?_
  refine lx_loada 5 rfl rfl Tryz.isAgg28 Tryz.sizeOf28 (by simp) rfl rfl ?_
  refine lx_call rfl rfl ent96 (fsub_pure _ _) rfl rfl ?_
  refine lx_loada 6 rfl rfl Tryz.isAgg28 Tryz.sizeOf28 (by simp) rfl rfl ?_
  refine lx_call rfl rfl ent96 (fsub_pure _ _) rfl rfl ?_
  refine lx_two two30 rfl rfl (by simp) (by simp) rfl rfl ?_
  refine lx_storea 4 hGF rfl rfl rfl Tryz.sizeOf30 (by simp) (by simp) (one_u64 _) rfl ?_
  refine lx_nil ?_
  refine x_ret ?_
  repeat (first | refine kseq_ret ?_ | refine kblk_ret ?_)
  exact kret_own 4 rfl rfl rfl Tryz.isAgg30 Tryz.sizeOf30 (by simp) (fun w hw => ⟨e2 (by first | (simp only [ml2]; done) | (simp only [ml2]; grind)) (by first | (simp only [ml2]; done) | (simp only [ml2]; grind)), hp_below hw⟩)
theorem e2square (x : W2) : Pure Tryz.prog Gt 51 [EV2 x] (EV2 (ml2 x x)) := by
  intro w hw
  have hGF : BOk Gt (pl w) := gt_low.plain hw
  refine calls_of_X (G := Gt) Tryz.func51 rfl rfl (Hp (pl w) []) (hp_refl (pl w) trivial rides_true) (good_hp hGF) ?_
  refine xs_plain (E := EE []) ?_
  refine lx_boxr 1 hGF rfl rfl rfl ?_
  intro b1
  refine lx_allocr 2 hGF zv30 rfl rfl ?_
  intro b2
  refine lx_nil ?_
  refine xs_plain (E := EE []) ?_
  refine lx_fak 0 rfl Tryz.underlying30 rfl Tryz.sizeOf28 (by decide) rfl rfl rfl ?_
  refine lx_loado 1 _ rfl rfl Tryz.isAgg28 Tryz.sizeOf28 (by simp) ld_l rfl rfl ?_
  refine lx_fak 6 rfl Tryz.underlying30 rfl Tryz.sizeOf28 (by decide) rfl rfl rfl ?_
  refine lx_loado 1 _ rfl rfl Tryz.isAgg28 Tryz.sizeOf28 (by simp) (ld_r (by simp)) rfl rfl ?_
  refine lx_call rfl rfl ent93 (fmul_pure _ _) rfl rfl ?_
  refine lx_allocr 3 hGF zv28 rfl rfl ?_
  intro b3
  refine lx_storea 3 hGF rfl rfl rfl Tryz.sizeOf28 (by simp) (by simp) (one_u64 _) rfl ?_
  refine lx_nil ?_
  refine xs_drawn (E := EE []) mixed (by kernel_rfl) (by kernel_rfl) (by kernel_rfl) ?_
  refine lx_fak 0 rfl Tryz.underlying30 rfl Tryz.sizeOf28 (by decide) rfl rfl rfl ?_
  refine lx_loado 1 _ rfl rfl Tryz.isAgg28 Tryz.sizeOf28 (by simp) ld_l rfl rfl ?_
  refine lx_fak 6 rfl Tryz.underlying30 rfl Tryz.sizeOf28 (by decide) rfl rfl rfl ?_
  refine lx_loado 1 _ rfl rfl Tryz.isAgg28 Tryz.sizeOf28 (by simp) (ld_r (by simp)) rfl rfl ?_
  refine lx_call rfl rfl ent94 (fadd_pure _ _) rfl rfl ?_
  refine lx_fak 0 rfl Tryz.underlying30 rfl Tryz.sizeOf28 (by decide) rfl rfl rfl ?_
  refine lx_loado 1 _ rfl rfl Tryz.isAgg28 Tryz.sizeOf28 (by simp) ld_l rfl rfl ?_
  refine lx_fak 6 rfl Tryz.underlying30 rfl Tryz.sizeOf28 (by decide) rfl rfl rfl ?_
  refine lx_loado 1 _ rfl rfl Tryz.isAgg28 Tryz.sizeOf28 (by simp) (ld_r (by simp)) rfl rfl ?_
  refine lx_call rfl rfl ent96 (fsub_pure _ _) rfl rfl ?_
  refine lx_call rfl rfl ent93 (fmul_pure _ _) rfl rfl ?_
  refine lx_loada 3 rfl rfl Tryz.isAgg28 Tryz.sizeOf28 (by simp) rfl rfl ?_
  refine lx_loada 3 rfl rfl Tryz.isAgg28 Tryz.sizeOf28 (by simp) rfl rfl ?_
  refine lx_call rfl rfl ent94 (fadd_pure _ _) rfl rfl ?_
  refine lx_two two30 rfl rfl (by simp) (by simp) rfl rfl ?_
  refine lx_storea 2 hGF rfl rfl rfl Tryz.sizeOf30 (by simp) (by simp) (one_u64 _) rfl ?_
  refine lx_nil ?_
  refine x_ret ?_
  repeat (first | refine kseq_ret ?_ | refine kblk_ret ?_)
  exact kret_own 2 rfl rfl rfl Tryz.isAgg30 Tryz.sizeOf30 (by simp) (fun w hw => ⟨e2 (by first | (simp only [ml2]; done) | (simp only [ml2]; grind)) (by first | (simp only [ml2]; done) | (simp only [ml2]; grind)), hp_below hw⟩)
theorem e2scale (x : W2) (c : Zp) : Pure Tryz.prog Gt 107 [EV2 x, EV c] (EV2 (sc2 x c)) := by
  intro w hw
  have hGF : BOk Gt (pl w) := gt_low.plain hw
  refine calls_of_X (G := Gt) Tryz.func107 rfl rfl (Hp (pl w) []) (hp_refl (pl w) trivial rides_true) (good_hp hGF) ?_
  refine xs_plain (E := EE []) ?_
  refine lx_boxr 2 hGF rfl rfl rfl ?_
  intro b2
  refine lx_boxr 3 hGF rfl rfl rfl ?_
  intro b3
  refine lx_allocr 4 hGF zv30 rfl rfl ?_
  intro b4
  refine lx_nil ?_
  refine xs_drawn (E := EE []) mixed (by kernel_rfl) (by kernel_rfl) (by kernel_rfl) ?_
  refine lx_fak 0 rfl Tryz.underlying30 rfl Tryz.sizeOf28 (by decide) rfl rfl rfl ?_
  refine lx_loado 2 _ rfl rfl Tryz.isAgg28 Tryz.sizeOf28 (by simp) ld_l rfl rfl ?_
  refine lx_loada 3 rfl rfl Tryz.isAgg28 Tryz.sizeOf28 (by simp) rfl rfl ?_
  refine lx_call rfl rfl ent93 (fmul_pure _ _) rfl rfl ?_
  refine lx_fak 6 rfl Tryz.underlying30 rfl Tryz.sizeOf28 (by decide) rfl rfl rfl ?_
  refine lx_loado 2 _ rfl rfl Tryz.isAgg28 Tryz.sizeOf28 (by simp) (ld_r (by simp)) rfl rfl ?_
  refine lx_loada 3 rfl rfl Tryz.isAgg28 Tryz.sizeOf28 (by simp) rfl rfl ?_
  refine lx_call rfl rfl ent93 (fmul_pure _ _) rfl rfl ?_
  refine lx_two two30 rfl rfl (by simp) (by simp) rfl rfl ?_
  refine lx_storea 4 hGF rfl rfl rfl Tryz.sizeOf30 (by simp) (by simp) (one_u64 _) rfl ?_
  refine lx_nil ?_
  refine x_ret ?_
  repeat (first | refine kseq_ret ?_ | refine kblk_ret ?_)
  exact kret_own 4 rfl rfl rfl Tryz.isAgg30 Tryz.sizeOf30 (by simp) (fun w hw => ⟨rfl, hp_below hw⟩)
theorem e2norm (x : W2) : Pure Tryz.prog Gt 108 [EV2 x] (EV (nm2 x)) := by
  intro w hw
  have hGF : BOk Gt (pl w) := gt_low.plain hw
  refine calls_of_X (G := Gt) Tryz.func108 rfl rfl (Hp (pl w) []) (hp_refl (pl w) trivial rides_true) (good_hp hGF) ?_
  refine xs_plain (E := EE []) ?_
  refine lx_boxr 1 hGF rfl rfl rfl ?_
  intro b1
  refine lx_allocr 2 hGF zv28 rfl rfl ?_
  intro b2
  refine lx_nil ?_
  refine xs_drawn (E := EE []) mixed (by kernel_rfl) (by kernel_rfl) (by kernel_rfl) ?_
  refine lx_fak 0 rfl Tryz.underlying30 rfl Tryz.sizeOf28 (by decide) rfl rfl rfl ?_
  refine lx_loado 1 _ rfl rfl Tryz.isAgg28 Tryz.sizeOf28 (by simp) ld_l rfl rfl ?_
  refine lx_call rfl rfl ent139 (fsquare_pure _) rfl rfl ?_
  refine lx_fak 6 rfl Tryz.underlying30 rfl Tryz.sizeOf28 (by decide) rfl rfl rfl ?_
  refine lx_loado 1 _ rfl rfl Tryz.isAgg28 Tryz.sizeOf28 (by simp) (ld_r (by simp)) rfl rfl ?_
  refine lx_call rfl rfl ent139 (fsquare_pure _) rfl rfl ?_
  refine lx_call rfl rfl ent94 (fadd_pure _ _) rfl rfl ?_
  refine lx_storea 2 hGF rfl rfl rfl Tryz.sizeOf28 (by simp) (by simp) (one_u64 _) rfl ?_
  refine lx_nil ?_
  refine x_ret ?_
  repeat (first | refine kseq_ret ?_ | refine kblk_ret ?_)
  exact kret_own 2 rfl rfl rfl Tryz.isAgg28 Tryz.sizeOf28 (by simp) (fun w hw => ⟨rfl, hp_below hw⟩)
theorem e2inv (x : W2) : Pure Tryz.prog Gt 59 [EV2 x] (EV2 (iv2 x)) := by
  intro w hw
  have hGF : BOk Gt (pl w) := gt_low.plain hw
  refine calls_of_X (G := Gt) Tryz.func59 rfl rfl (Hp (pl w) []) (hp_refl (pl w) trivial rides_true) (good_hp hGF) ?_
  refine xs_plain (E := EE []) ?_
  refine lx_boxr 1 hGF rfl rfl rfl ?_
  intro b1
  refine lx_allocr 2 hGF zv30 rfl rfl ?_
  intro b2
  refine lx_nil ?_
  refine xs_drawn (E := EE []) mixed (by kernel_rfl) (by kernel_rfl) (by kernel_rfl) ?_
  refine lx_loada 1 rfl rfl Tryz.isAgg30 Tryz.sizeOf30 (by simp) rfl rfl ?_
  refine lx_call rfl rfl ent106 (e2conj _) rfl rfl ?_
  refine lx_loada 1 rfl rfl Tryz.isAgg30 Tryz.sizeOf30 (by simp) rfl rfl ?_
  refine lx_call rfl rfl ent108 (e2norm _) rfl rfl ?_
  refine lx_call rfl rfl ent109 (finv_pure _) rfl rfl ?_
  refine lx_call rfl rfl ent107 (e2scale _ _) rfl rfl ?_
  refine lx_storea 2 hGF rfl rfl rfl Tryz.sizeOf30 (by simp) (by simp) (one_u64 _) rfl ?_
  refine lx_nil ?_
  refine x_ret ?_
  repeat (first | refine kseq_ret ?_ | refine kblk_ret ?_)
  exact kret_own 2 rfl rfl rfl Tryz.isAgg30 Tryz.sizeOf30 (by simp) (fun w hw => ⟨rfl, hp_below hw⟩)
end Go.Proofs.YtfknmeefbccflaaGreatDoor

namespace Go.Proofs.YtfknmeefbccflaaGreatDoor
open Go.RowKit
set_option maxRecDepth 100000
set_option maxHeartbeats 1000000
attribute [local simp] fe_len nm_len AS_len SS_len MONT_len RM_len FRs_len BYs_len by48_len PLl TWOl ONEl N1l IVPl HFPl RTPl FL_len SP_len fe2_len SP2_len FM_len

theorem rsmall1 : Pure Tryz.prog Gt 118 [U64 1#64] (EV 1) := rsmallE 1#64
theorem r5one  : Pure Tryz.prog Gt 90 [] (EV2 on2) := by
  intro w hw
  have hGF : BOk Gt (pl w) := gt_low.plain hw
  refine calls_of_X (G := Gt) Tryz.func90 rfl rfl (Hp (pl w) []) (hp_refl (pl w) trivial rides_true) (good_hp hGF) ?_
  refine xs_plain (E := EE []) ?_
  refine lx_allocr 0 hGF zv41 rfl rfl ?_
  intro b0
  refine lx_nil ?_
  refine xs_plain (E := EE []) ?_
  refine lx_call rfl rfl ent118 (rsmall1) rfl rfl ?_
  refine lx_twoA two41 rfl (by simp) rfl rfl ?_
  refine lx_storea 0 hGF rfl rfl rfl Tryz.sizeOf41 (by simp) (by simp) (one_u64 _) rfl ?_
  refine lx_nil ?_
  refine x_ret ?_
  repeat (first | refine kseq_ret ?_ | refine kblk_ret ?_)
  exact kret_own 0 rfl rfl rfl Tryz.isAgg41 Tryz.sizeOf41 (by simp) (fun w hw => ⟨rfl, hp_below hw⟩)
theorem r5isZero (x : W2) : Pure Tryz.prog Gt 75 [EV2 x] (.bool (decide (x = ze2))) := by
  intro w hw
  have hGF : BOk Gt (pl w) := gt_low.plain hw
  by_cases h : x.1 = 0
  · skip
    refine calls_of_X (G := Gt) Tryz.func75 rfl rfl (Hp (pl w) []) (hp_refl (pl w) trivial rides_true) (good_hp hGF) ?_
    refine xs_plain (E := EE []) ?_
    refine lx_boxr 1 hGF rfl rfl rfl ?_
    intro b1
    refine lx_assign rfl rfl rfl ?_
    refine lx_nil ?_
    refine xs_plain (E := EE []) ?_
    refine lx_fak 0 rfl Tryz.underlying41 rfl Tryz.sizeOf39 (by decide) rfl rfl rfl ?_
    refine lx_loado 1 _ rfl rfl Tryz.isAgg39 Tryz.sizeOf39 (by simp) ld_l rfl rfl ?_
    refine lx_callB true rfl rfl ent65 (risZeroE _) (decide_eq_true h) rfl rfl ?_
    refine lx_move rfl rfl rfl ?_
    refine lx_fak 6 rfl Tryz.underlying41 rfl Tryz.sizeOf39 (by decide) rfl rfl rfl ?_
    refine lx_loado 1 _ rfl rfl Tryz.isAgg39 Tryz.sizeOf39 (by simp) (ld_r (by simp)) rfl rfl ?_
    refine lx_call rfl rfl ent65 (risZeroE _) rfl rfl ?_
    refine lx_pick rfl rfl rfl rfl rfl ?_
    refine lx_assign rfl rfl rfl ?_
    refine lx_nil ?_
    refine x_ret ?_
    repeat (first | refine kseq_ret ?_ | refine kblk_ret ?_)
    exact kret_tmp rfl rfl (fun w hw => ⟨rb (dec2_t (y := ze2) h), hp_below hw⟩)
  · skip
    refine calls_of_X (G := Gt) Tryz.func75 rfl rfl (Hp (pl w) []) (hp_refl (pl w) trivial rides_true) (good_hp hGF) ?_
    refine xs_plain (E := EE []) ?_
    refine lx_boxr 1 hGF rfl rfl rfl ?_
    intro b1
    refine lx_assign rfl rfl rfl ?_
    refine lx_nil ?_
    refine xs_plain (E := EE []) ?_
    refine lx_fak 0 rfl Tryz.underlying41 rfl Tryz.sizeOf39 (by decide) rfl rfl rfl ?_
    refine lx_loado 1 _ rfl rfl Tryz.isAgg39 Tryz.sizeOf39 (by simp) ld_l rfl rfl ?_
    refine lx_callB false rfl rfl ent65 (risZeroE _) (decide_eq_false h) rfl rfl ?_
    refine lx_move rfl rfl rfl ?_
    refine lx_skip rfl rfl rfl ?_
    refine lx_skip rfl rfl rfl ?_
    refine lx_skip rfl rfl rfl ?_
    refine lx_pick rfl rfl rfl rfl rfl ?_
    refine lx_assign rfl rfl rfl ?_
    refine lx_nil ?_
    refine x_ret ?_
    repeat (first | refine kseq_ret ?_ | refine kblk_ret ?_)
    exact kret_tmp rfl rfl (fun w hw => ⟨rb (dec2_f (y := ze2) h), hp_below hw⟩)
theorem r5add (x y : W2) : Pure Tryz.prog Gt 55 [EV2 x, EV2 y] (EV2 (ad2 x y)) := by
  intro w hw
  have hGF : BOk Gt (pl w) := gt_low.plain hw
  refine calls_of_X (G := Gt) Tryz.func55 rfl rfl (Hp (pl w) []) (hp_refl (pl w) trivial rides_true) (good_hp hGF) ?_
  refine xs_plain (E := EE []) ?_
  refine lx_boxr 2 hGF rfl rfl rfl ?_
  intro b2
  refine lx_boxr 3 hGF rfl rfl rfl ?_
  intro b3
  refine lx_allocr 4 hGF zv41 rfl rfl ?_
  intro b4
  refine lx_nil ?_
  refine xs_drawn (E := EE []) mixed (by kernel_rfl) (by kernel_rfl) (by kernel_rfl) ?_
  refine lx_fak 0 rfl Tryz.underlying41 rfl Tryz.sizeOf39 (by decide) rfl rfl rfl ?_
  refine lx_loado 2 _ rfl rfl Tryz.isAgg39 Tryz.sizeOf39 (by simp) ld_l rfl rfl ?_
  refine lx_fak 0 rfl Tryz.underlying41 rfl Tryz.sizeOf39 (by decide) rfl rfl rfl ?_
  refine lx_loado 3 _ rfl rfl Tryz.isAgg39 Tryz.sizeOf39 (by simp) ld_l rfl rfl ?_
  refine lx_call rfl rfl ent100 (raddE _ _) rfl rfl ?_
  refine lx_fak 6 rfl Tryz.underlying41 rfl Tryz.sizeOf39 (by decide) rfl rfl rfl ?_
  refine lx_loado 2 _ rfl rfl Tryz.isAgg39 Tryz.sizeOf39 (by simp) (ld_r (by simp)) rfl rfl ?_
  refine lx_fak 6 rfl Tryz.underlying41 rfl Tryz.sizeOf39 (by decide) rfl rfl rfl ?_
  refine lx_loado 3 _ rfl rfl Tryz.isAgg39 Tryz.sizeOf39 (by simp) (ld_r (by simp)) rfl rfl ?_
  refine lx_call rfl rfl ent100 (raddE _ _) rfl rfl ?_
  refine lx_two two41 rfl rfl (by simp) (by simp) rfl rfl ?_
  refine lx_storea 4 hGF rfl rfl rfl Tryz.sizeOf41 (by simp) (by simp) (one_u64 _) rfl ?_
  refine lx_nil ?_
  refine x_ret ?_
  repeat (first | refine kseq_ret ?_ | refine kblk_ret ?_)
  exact kret_own 4 rfl rfl rfl Tryz.isAgg41 Tryz.sizeOf41 (by simp) (fun w hw => ⟨rfl, hp_below hw⟩)
theorem r5sub (x y : W2) : Pure Tryz.prog Gt 74 [EV2 x, EV2 y] (EV2 (sb2 x y)) := by
  intro w hw
  have hGF : BOk Gt (pl w) := gt_low.plain hw
  refine calls_of_X (G := Gt) Tryz.func74 rfl rfl (Hp (pl w) []) (hp_refl (pl w) trivial rides_true) (good_hp hGF) ?_
  refine xs_plain (E := EE []) ?_
  refine lx_boxr 2 hGF rfl rfl rfl ?_
  intro b2
  refine lx_boxr 3 hGF rfl rfl rfl ?_
  intro b3
  refine lx_allocr 4 hGF zv41 rfl rfl ?_
  intro b4
  refine lx_nil ?_
  refine xs_drawn (E := EE []) mixed (by kernel_rfl) (by kernel_rfl) (by kernel_rfl) ?_
  refine lx_fak 0 rfl Tryz.underlying41 rfl Tryz.sizeOf39 (by decide) rfl rfl rfl ?_
  refine lx_loado 2 _ rfl rfl Tryz.isAgg39 Tryz.sizeOf39 (by simp) ld_l rfl rfl ?_
  refine lx_fak 0 rfl Tryz.underlying41 rfl Tryz.sizeOf39 (by decide) rfl rfl rfl ?_
  refine lx_loado 3 _ rfl rfl Tryz.isAgg39 Tryz.sizeOf39 (by simp) ld_l rfl rfl ?_
  refine lx_call rfl rfl ent99 (rsubE _ _) rfl rfl ?_
  refine lx_fak 6 rfl Tryz.underlying41 rfl Tryz.sizeOf39 (by decide) rfl rfl rfl ?_
  refine lx_loado 2 _ rfl rfl Tryz.isAgg39 Tryz.sizeOf39 (by simp) (ld_r (by simp)) rfl rfl ?_
  refine lx_fak 6 rfl Tryz.underlying41 rfl Tryz.sizeOf39 (by decide) rfl rfl rfl ?_
  refine lx_loado 3 _ rfl rfl Tryz.isAgg39 Tryz.sizeOf39 (by simp) (ld_r (by simp)) rfl rfl ?_
  refine lx_call rfl rfl ent99 (rsubE _ _) rfl rfl ?_
  refine lx_two two41 rfl rfl (by simp) (by simp) rfl rfl ?_
  refine lx_storea 4 hGF rfl rfl rfl Tryz.sizeOf41 (by simp) (by simp) (one_u64 _) rfl ?_
  refine lx_nil ?_
  refine x_ret ?_
  repeat (first | refine kseq_ret ?_ | refine kblk_ret ?_)
  exact kret_own 4 rfl rfl rfl Tryz.isAgg41 Tryz.sizeOf41 (by simp) (fun w hw => ⟨rfl, hp_below hw⟩)
theorem r5neg (x : W2) : Pure Tryz.prog Gt 67 [EV2 x] (EV2 (ng2 x)) := by
  intro w hw
  have hGF : BOk Gt (pl w) := gt_low.plain hw
  refine calls_of_X (G := Gt) Tryz.func67 rfl rfl (Hp (pl w) []) (hp_refl (pl w) trivial rides_true) (good_hp hGF) ?_
  refine xs_plain (E := EE []) ?_
  refine lx_boxr 1 hGF rfl rfl rfl ?_
  intro b1
  refine lx_allocr 2 hGF zv41 rfl rfl ?_
  intro b2
  refine lx_nil ?_
  refine xs_drawn (E := EE []) mixed (by kernel_rfl) (by kernel_rfl) (by kernel_rfl) ?_
  refine lx_fak 0 rfl Tryz.underlying41 rfl Tryz.sizeOf39 (by decide) rfl rfl rfl ?_
  refine lx_loado 1 _ rfl rfl Tryz.isAgg39 Tryz.sizeOf39 (by simp) ld_l rfl rfl ?_
  refine lx_call rfl rfl ent116 (rnegE _) rfl rfl ?_
  refine lx_fak 6 rfl Tryz.underlying41 rfl Tryz.sizeOf39 (by decide) rfl rfl rfl ?_
  refine lx_loado 1 _ rfl rfl Tryz.isAgg39 Tryz.sizeOf39 (by simp) (ld_r (by simp)) rfl rfl ?_
  refine lx_call rfl rfl ent116 (rnegE _) rfl rfl ?_
  refine lx_two two41 rfl rfl (by simp) (by simp) rfl rfl ?_
  refine lx_storea 2 hGF rfl rfl rfl Tryz.sizeOf41 (by simp) (by simp) (one_u64 _) rfl ?_
  refine lx_nil ?_
  refine x_ret ?_
  repeat (first | refine kseq_ret ?_ | refine kblk_ret ?_)
  exact kret_own 2 rfl rfl rfl Tryz.isAgg41 Tryz.sizeOf41 (by simp) (fun w hw => ⟨rfl, hp_below hw⟩)
theorem r5mul (x y : W2) : Pure Tryz.prog Gt 54 [EV2 x, EV2 y] (EV2 (ml2 x y)) := by
  intro w hw
  have hGF : BOk Gt (pl w) := gt_low.plain hw
  by_cases h : x.2 = 0
  · skip
    by_cases h2 : y.2 = 0
    · skip
      refine calls_of_X (G := Gt) Tryz.func54 rfl rfl (Hp (pl w) []) (hp_refl (pl w) trivial rides_true) (good_hp hGF) ?_
      refine xs_plain (E := EE []) ?_
      refine lx_boxr 2 hGF rfl rfl rfl ?_
      intro b2
      refine lx_boxr 3 hGF rfl rfl rfl ?_
      intro b3
      refine lx_allocr 4 hGF zv41 rfl rfl ?_
      intro b4
      refine lx_nil ?_
      refine xs_plain (E := EE []) ?_
      refine lx_fak 0 rfl Tryz.underlying41 rfl Tryz.sizeOf39 (by decide) rfl rfl rfl ?_
      refine lx_loado 2 _ rfl rfl Tryz.isAgg39 Tryz.sizeOf39 (by simp) ld_l rfl rfl ?_
      refine lx_fak 0 rfl Tryz.underlying41 rfl Tryz.sizeOf39 (by decide) rfl rfl rfl ?_
      refine lx_loado 3 _ rfl rfl Tryz.isAgg39 Tryz.sizeOf39 (by simp) ld_l rfl rfl ?_
      refine lx_call rfl rfl ent98 (rmulE _ _) rfl rfl ?_
      refine lx_allocr 5 hGF zv39 rfl rfl ?_
      intro b5
      refine lx_storea 5 hGF rfl rfl rfl Tryz.sizeOf39 (by simp) (by simp) (one_u64 _) rfl ?_
      refine lx_nil ?_
      refine x_seq ?_
      refine xs_plain (E := EE []) ?_
      refine lx_fak 6 rfl Tryz.underlying41 rfl Tryz.sizeOf39 (by decide) rfl rfl rfl ?_
      refine lx_loado 2 _ rfl rfl Tryz.isAgg39 Tryz.sizeOf39 (by simp) (ld_r (by simp)) rfl rfl ?_
      refine lx_callB true rfl rfl ent65 (risZeroE _) (decide_eq_true h) rfl rfl ?_
      refine lx_move rfl rfl rfl ?_
      refine lx_fak 6 rfl Tryz.underlying41 rfl Tryz.sizeOf39 (by decide) rfl rfl rfl ?_
      refine lx_loado 3 _ rfl rfl Tryz.isAgg39 Tryz.sizeOf39 (by simp) (ld_r (by simp)) rfl rfl ?_
      refine lx_callB true rfl rfl ent65 (risZeroE _) (decide_eq_true h2) rfl rfl ?_
      refine lx_pick rfl rfl rfl rfl rfl ?_
      refine lx_nil ?_
      refine x_true rfl ?_
      refine xs_plain (E := EE []) ?_
      refine lx_loada 5 rfl rfl Tryz.isAgg39 Tryz.sizeOf39 (by simp) rfl rfl ?_
      refine lx_twoA two41 rfl (by simp) rfl rfl ?_
      refine lx_storea 4 hGF rfl rfl rfl Tryz.sizeOf41 (by simp) (by simp) (one_u64 _) rfl ?_
      refine lx_nil ?_
      refine x_ret ?_
      repeat (first | refine kseq_ret ?_ | refine kblk_ret ?_)
      exact kret_own 4 rfl rfl rfl Tryz.isAgg41 Tryz.sizeOf41 (by simp) (fun w hw => ⟨e2 (by simp only [ml2]; rw [h]; grind) (by simp only [ml2]; rw [h, h2, z_m0, z_0m, z_00]), hp_below hw⟩)
    · skip
      refine calls_of_X (G := Gt) Tryz.func54 rfl rfl (Hp (pl w) []) (hp_refl (pl w) trivial rides_true) (good_hp hGF) ?_
      refine xs_plain (E := EE []) ?_
      refine lx_boxr 2 hGF rfl rfl rfl ?_
      intro b2
      refine lx_boxr 3 hGF rfl rfl rfl ?_
      intro b3
      refine lx_allocr 4 hGF zv41 rfl rfl ?_
      intro b4
      refine lx_nil ?_
      refine xs_plain (E := EE []) ?_
      refine lx_fak 0 rfl Tryz.underlying41 rfl Tryz.sizeOf39 (by decide) rfl rfl rfl ?_
      refine lx_loado 2 _ rfl rfl Tryz.isAgg39 Tryz.sizeOf39 (by simp) ld_l rfl rfl ?_
      refine lx_fak 0 rfl Tryz.underlying41 rfl Tryz.sizeOf39 (by decide) rfl rfl rfl ?_
      refine lx_loado 3 _ rfl rfl Tryz.isAgg39 Tryz.sizeOf39 (by simp) ld_l rfl rfl ?_
      refine lx_call rfl rfl ent98 (rmulE _ _) rfl rfl ?_
      refine lx_allocr 5 hGF zv39 rfl rfl ?_
      intro b5
      refine lx_storea 5 hGF rfl rfl rfl Tryz.sizeOf39 (by simp) (by simp) (one_u64 _) rfl ?_
      refine lx_nil ?_
      refine x_seq ?_
      refine xs_plain (E := EE []) ?_
      refine lx_fak 6 rfl Tryz.underlying41 rfl Tryz.sizeOf39 (by decide) rfl rfl rfl ?_
      refine lx_loado 2 _ rfl rfl Tryz.isAgg39 Tryz.sizeOf39 (by simp) (ld_r (by simp)) rfl rfl ?_
      refine lx_callB true rfl rfl ent65 (risZeroE _) (decide_eq_true h) rfl rfl ?_
      refine lx_move rfl rfl rfl ?_
      refine lx_fak 6 rfl Tryz.underlying41 rfl Tryz.sizeOf39 (by decide) rfl rfl rfl ?_
      refine lx_loado 3 _ rfl rfl Tryz.isAgg39 Tryz.sizeOf39 (by simp) (ld_r (by simp)) rfl rfl ?_
      refine lx_callB false rfl rfl ent65 (risZeroE _) (decide_eq_false h2) rfl rfl ?_
      refine lx_pick rfl rfl rfl rfl rfl ?_
      refine lx_nil ?_
      refine x_false rfl ?_
      refine x_skip ?_
      refine xs_plain (E := EE []) ?_
      refine lx_fak 6 rfl Tryz.underlying41 rfl Tryz.sizeOf39 (by decide) rfl rfl rfl ?_
      refine lx_loado 2 _ rfl rfl Tryz.isAgg39 Tryz.sizeOf39 (by simp) (ld_r (by simp)) rfl rfl ?_
      refine lx_fak 6 rfl Tryz.underlying41 rfl Tryz.sizeOf39 (by decide) rfl rfl rfl ?_
      refine lx_loado 3 _ rfl rfl Tryz.isAgg39 Tryz.sizeOf39 (by simp) (ld_r (by simp)) rfl rfl ?_
      refine lx_call rfl rfl ent98 (rmulE _ _) rfl rfl ?_
      refine lx_allocr 6 hGF zv39 rfl rfl ?_
      intro b6
      refine lx_storea 6 hGF rfl rfl rfl Tryz.sizeOf39 (by simp) (by simp) (one_u64 _) rfl ?_
      refine lx_nil ?_
      refine xs_drawn (E := EE []) mixed (by kernel_rfl) (by kernel_rfl) (by kernel_rfl) ?_
      refine lx_loada 5 rfl rfl Tryz.isAgg39 Tryz.sizeOf39 (by simp) rfl rfl ?_
      refine lx_loada 6 rfl rfl Tryz.isAgg39 Tryz.sizeOf39 (by simp) rfl rfl ?_
      refine lx_call rfl rfl ent99 (rsubE _ _) rfl rfl ?_
      refine lx_fak 0 rfl Tryz.underlying41 rfl Tryz.sizeOf39 (by decide) rfl rfl rfl ?_
      refine lx_loado 2 _ rfl rfl Tryz.isAgg39 Tryz.sizeOf39 (by simp) ld_l rfl rfl ?_
      refine lx_fak 6 rfl Tryz.underlying41 rfl Tryz.sizeOf39 (by decide) rfl rfl rfl ?_
      refine lx_loado 2 _ rfl rfl Tryz.isAgg39 Tryz.sizeOf39 (by simp) (ld_r (by simp)) rfl rfl ?_
      refine lx_call rfl rfl ent100 (raddE _ _) rfl rfl ?_
      refine lx_fak 0 rfl Tryz.underlying41 rfl Tryz.sizeOf39 (by decide) rfl rfl rfl ?_
      refine lx_loado 3 _ rfl rfl Tryz.isAgg39 Tryz.sizeOf39 (by simp) ld_l rfl rfl ?_
      refine lx_fak 6 rfl Tryz.underlying41 rfl Tryz.sizeOf39 (by decide) rfl rfl rfl ?_
      refine lx_loado 3 _ rfl rfl Tryz.isAgg39 Tryz.sizeOf39 (by simp) (ld_r (by simp)) rfl rfl ?_
      refine lx_call rfl rfl ent100 (raddE _ _) rfl rfl ?_
      refine lx_call rfl rfl ent98 (rmulE _ _) rfl rfl ?_
      refine lx_loada 5 rfl rfl Tryz.isAgg39 Tryz.sizeOf39 (by simp) rfl rfl ?_
      refine lx_call rfl rfl ent99 (rsubE _ _) rfl rfl ?_
      refine lx_loada 6 rfl rfl Tryz.isAgg39 Tryz.sizeOf39 (by simp) rfl rfl ?_
      refine lx_call rfl rfl ent99 (rsubE _ _) rfl rfl ?_
      refine lx_two two41 rfl rfl (by simp) (by simp) rfl rfl ?_
      refine lx_storea 4 hGF rfl rfl rfl Tryz.sizeOf41 (by simp) (by simp) (one_u64 _) rfl ?_
      refine lx_nil ?_
      refine x_ret ?_
      repeat (first | refine kseq_ret ?_ | refine kblk_ret ?_)
      exact kret_own 4 rfl rfl rfl Tryz.isAgg41 Tryz.sizeOf41 (by simp) (fun w hw => ⟨e2 (by first | (simp only [ml2]; done) | (simp only [ml2]; grind)) (by first | (simp only [ml2]; done) | (simp only [ml2]; grind)), hp_below hw⟩)
  · skip
    refine calls_of_X (G := Gt) Tryz.func54 rfl rfl (Hp (pl w) []) (hp_refl (pl w) trivial rides_true) (good_hp hGF) ?_
    refine xs_plain (E := EE []) ?_
    refine lx_boxr 2 hGF rfl rfl rfl ?_
    intro b2
    refine lx_boxr 3 hGF rfl rfl rfl ?_
    intro b3
    refine lx_allocr 4 hGF zv41 rfl rfl ?_
    intro b4
    refine lx_nil ?_
    refine xs_plain (E := EE []) ?_
    refine lx_fak 0 rfl Tryz.underlying41 rfl Tryz.sizeOf39 (by decide) rfl rfl rfl ?_
    refine lx_loado 2 _ rfl rfl Tryz.isAgg39 Tryz.sizeOf39 (by simp) ld_l rfl rfl ?_
    refine lx_fak 0 rfl Tryz.underlying41 rfl Tryz.sizeOf39 (by decide) rfl rfl rfl ?_
    refine lx_loado 3 _ rfl rfl Tryz.isAgg39 Tryz.sizeOf39 (by simp) ld_l rfl rfl ?_
    refine lx_call rfl rfl ent98 (rmulE _ _) rfl rfl ?_
    refine lx_allocr 5 hGF zv39 rfl rfl ?_
    intro b5
    refine lx_storea 5 hGF rfl rfl rfl Tryz.sizeOf39 (by simp) (by simp) (one_u64 _) rfl ?_
    refine lx_nil ?_
    refine x_seq ?_
    refine xs_plain (E := EE []) ?_
    refine lx_fak 6 rfl Tryz.underlying41 rfl Tryz.sizeOf39 (by decide) rfl rfl rfl ?_
    refine lx_loado 2 _ rfl rfl Tryz.isAgg39 Tryz.sizeOf39 (by simp) (ld_r (by simp)) rfl rfl ?_
    refine lx_callB false rfl rfl ent65 (risZeroE _) (decide_eq_false h) rfl rfl ?_
    refine lx_move rfl rfl rfl ?_
    refine lx_skip rfl rfl rfl ?_
    refine lx_skip rfl rfl rfl ?_
    refine lx_skip rfl rfl rfl ?_
    refine lx_pick rfl rfl rfl rfl rfl ?_
    refine lx_nil ?_
    refine x_false rfl ?_
    refine x_skip ?_
    refine xs_plain (E := EE []) ?_
    refine lx_fak 6 rfl Tryz.underlying41 rfl Tryz.sizeOf39 (by decide) rfl rfl rfl ?_
    refine lx_loado 2 _ rfl rfl Tryz.isAgg39 Tryz.sizeOf39 (by simp) (ld_r (by simp)) rfl rfl ?_
    refine lx_fak 6 rfl Tryz.underlying41 rfl Tryz.sizeOf39 (by decide) rfl rfl rfl ?_
    refine lx_loado 3 _ rfl rfl Tryz.isAgg39 Tryz.sizeOf39 (by simp) (ld_r (by simp)) rfl rfl ?_
    refine lx_call rfl rfl ent98 (rmulE _ _) rfl rfl ?_
    refine lx_allocr 6 hGF zv39 rfl rfl ?_
    intro b6
    refine lx_storea 6 hGF rfl rfl rfl Tryz.sizeOf39 (by simp) (by simp) (one_u64 _) rfl ?_
    refine lx_nil ?_
    refine xs_drawn (E := EE []) mixed (by kernel_rfl) (by kernel_rfl) (by kernel_rfl) ?_
    refine lx_loada 5 rfl rfl Tryz.isAgg39 Tryz.sizeOf39 (by simp) rfl rfl ?_
    refine lx_loada 6 rfl rfl Tryz.isAgg39 Tryz.sizeOf39 (by simp) rfl rfl ?_
    refine lx_call rfl rfl ent99 (rsubE _ _) rfl rfl ?_
    refine lx_fak 0 rfl Tryz.underlying41 rfl Tryz.sizeOf39 (by decide) rfl rfl rfl ?_
    refine lx_loado 2 _ rfl rfl Tryz.isAgg39 Tryz.sizeOf39 (by simp) ld_l rfl rfl ?_
    refine lx_fak 6 rfl Tryz.underlying41 rfl Tryz.sizeOf39 (by decide) rfl rfl rfl ?_
    refine lx_loado 2 _ rfl rfl Tryz.isAgg39 Tryz.sizeOf39 (by simp) (ld_r (by simp)) rfl rfl ?_
    refine lx_call rfl rfl ent100 (raddE _ _) rfl rfl ?_
    refine lx_fak 0 rfl Tryz.underlying41 rfl Tryz.sizeOf39 (by decide) rfl rfl rfl ?_
    refine lx_loado 3 _ rfl rfl Tryz.isAgg39 Tryz.sizeOf39 (by simp) ld_l rfl rfl ?_
    refine lx_fak 6 rfl Tryz.underlying41 rfl Tryz.sizeOf39 (by decide) rfl rfl rfl ?_
    refine lx_loado 3 _ rfl rfl Tryz.isAgg39 Tryz.sizeOf39 (by simp) (ld_r (by simp)) rfl rfl ?_
    refine lx_call rfl rfl ent100 (raddE _ _) rfl rfl ?_
    refine lx_call rfl rfl ent98 (rmulE _ _) rfl rfl ?_
    refine lx_loada 5 rfl rfl Tryz.isAgg39 Tryz.sizeOf39 (by simp) rfl rfl ?_
    refine lx_call rfl rfl ent99 (rsubE _ _) rfl rfl ?_
    refine lx_loada 6 rfl rfl Tryz.isAgg39 Tryz.sizeOf39 (by simp) rfl rfl ?_
    refine lx_call rfl rfl ent99 (rsubE _ _) rfl rfl ?_
    refine lx_two two41 rfl rfl (by simp) (by simp) rfl rfl ?_
    refine lx_storea 4 hGF rfl rfl rfl Tryz.sizeOf41 (by simp) (by simp) (one_u64 _) rfl ?_
    refine lx_nil ?_
    refine x_ret ?_
    repeat (first | refine kseq_ret ?_ | refine kblk_ret ?_)
    exact kret_own 4 rfl rfl rfl Tryz.isAgg41 Tryz.sizeOf41 (by simp) (fun w hw => ⟨e2 (by first | (simp only [ml2]; done) | (simp only [ml2]; grind)) (by first | (simp only [ml2]; done) | (simp only [ml2]; grind)), hp_below hw⟩)
end Go.Proofs.YtfknmeefbccflaaGreatDoor
