/-
  The walks of package fp2: sums and products.
  The walks of package fp2: signs and roots; the reference's elements.
-/
import Derived.Test.YtamddkjccmhgaaaGreatDoorX9
import Derived.Test.YtamddkjccmhgaaaGreatDoorX5
import Derived.Test.YtamddkjccmhgaaaGreatDoorX3
namespace Go.Proofs.YtamddkjccmhgaaaGreatDoor
open Go.RowKit
set_option maxRecDepth 100000
set_option maxHeartbeats 1000000
attribute [local simp] fe_len nm_len AS_len SS_len MONT_len RM_len FRs_len BYs_len by48_len PLl TWOl ONEl N1l IVPl HFPl RTPl FL_len SP_len fe2_len SP2_len FM_len

theorem ent114 : Enters Tryz.prog 114 := fun _ _ => by kernel_rfl
theorem ent76 : Enters Tryz.prog 76 := fun _ _ => by kernel_rfl
theorem ent120 : Enters Tryz.prog 120 := fun _ _ => by kernel_rfl
theorem ent127 : Enters Tryz.prog 127 := fun _ _ => by kernel_rfl
theorem ent147 : Enters Tryz.prog 147 := fun _ _ => by kernel_rfl
theorem ent67 : Enters Tryz.prog 67 := fun _ _ => by kernel_rfl
theorem ent131 : Enters Tryz.prog 131 := fun _ _ => by kernel_rfl
theorem ent73 : Enters Tryz.prog 73 := fun _ _ => by kernel_rfl
theorem ent75 : Enters Tryz.prog 75 := fun _ _ => by kernel_rfl
theorem ent144 : Enters Tryz.prog 144 := fun _ _ => by kernel_rfl
theorem ent109 : Enters Tryz.prog 109 := fun _ _ => by kernel_rfl
theorem ent129 : Enters Tryz.prog 129 := fun _ _ => by kernel_rfl
theorem ent88 : Enters Tryz.prog 88 := fun _ _ => by kernel_rfl
theorem ent128 : Enters Tryz.prog 128 := fun _ _ => by kernel_rfl
theorem ent130 : Enters Tryz.prog 130 := fun _ _ => by kernel_rfl
theorem ent58 : Enters Tryz.prog 58 := fun _ _ => by kernel_rfl
theorem ent103 : Enters Tryz.prog 103 := fun _ _ => by kernel_rfl
theorem ent44 : Enters Tryz.prog 44 := fun _ _ => by kernel_rfl
theorem ent80 : Enters Tryz.prog 80 := fun _ _ => by kernel_rfl
/-- An element of fp2 as a value. -/
abbrev EV2 (x : W2) : Value := .agg ((fe x.1 ++ fe x.2).map U64).toArray
theorem zf28 (w : World) : (zeroValue 28).run Tryz.prog w = .ok (.agg ((fe 0).map U64).toArray) w := by rw [fe_0]; exact (Tryz.zeroValue28 w).trans (by rfl)
theorem zv50 (w : World) : (zeroValue 50).run Tryz.prog w = .ok (.agg ((fe 0 ++ fe 0).map U64).toArray) w := by rw [fe_0]; exact (Tryz.zeroValue50 w).trans (by rfl)
theorem two50 : Two Tryz.prog 50 ⟨ "C0", 28, 0, false, "", "", 0⟩ ⟨ "C1", 28, 6, false, "", "", 48⟩ 6 6 (fe 0) (fe 0) := ⟨Tryz.underlying50, rfl, rfl, Tryz.sizeOf28, Tryz.sizeOf28, zv50, fe_len 0, fe_len 0⟩
theorem zv38 (w : World) : (zeroValue 38).run Tryz.prog w = .ok (.agg ((fe 0 ++ fe 0).map U64).toArray) w := by rw [fe_0]; exact (Tryz.zeroValue38 w).trans (by rfl)
theorem two38 : Two Tryz.prog 38 ⟨ "A", 36, 0, false, "", "", 0⟩ ⟨ "B", 36, 6, false, "", "", 48⟩ 6 6 (fe 0) (fe 0) := ⟨Tryz.underlying38, rfl, rfl, Tryz.sizeOf36, Tryz.sizeOf36, zv38, fe_len 0, fe_len 0⟩
theorem eqf38 : EqF Tryz.prog 38 12 4 :=
  have h : EqF Tryz.prog 36 6 3 := eqf_one Tryz.underlying36 rfl (by decide) (by kernel_rfl) Tryz.isAgg34 Tryz.sizeOf34 (eqf_arr Tryz.underlying34 Tryz.underlying25 Tryz.sizeOf25 Tryz.isAgg25)
  eqf_two Tryz.underlying38 rfl rfl (by decide) (by decide) (by kernel_rfl) Tryz.isAgg36 Tryz.sizeOf36 h Tryz.isAgg36 Tryz.sizeOf36 h
theorem eqg38 (op : BinOp) (x y : Operand) (xs ys : Array Value) (w : World) : (eqGuard op 38 x y (.agg xs) (.agg ys)).run Tryz.prog w = .ok () w := run_eqGuard_agg w op 38 x y xs ys (by kernel_rfl)
theorem eqv38 (xs ys : List (BitVec 64)) (h : xs.length = 12) (h' : ys.length = 12) (w : World) : (binOp .eql 38 (.agg (xs.map U64).toArray) (.agg (ys.map U64).toArray)).run Tryz.prog w = .ok (.bool (decide (xs = ys))) w := bin_eqf eqf38 (by decide) xs ys h h' w
theorem e2 {a b c d : Zp} (h1 : a = c) (h2 : b = d) : Ending.returned (.agg ((fe a ++ fe b).map U64).toArray) = .returned (.agg ((fe c ++ fe d).map U64).toArray) := by rw [h1, h2]
theorem rb {a b : Bool} (h : a = b) : Ending.returned (.bool a) = .returned (.bool b) := by rw [h]
theorem e2one  : Pure Tryz.prog Gt 114 [] (EV2 on2) := by
  intro w hw
  have hGF : BOk Gt (pl w) := gt_low.plain hw
  refine calls_of_X (G := Gt) Tryz.func114 rfl rfl (Hp (pl w) []) (hp_refl (pl w) trivial rides_true) (good_hp hGF) ?_
  refine xs_plain (E := EE []) ?_
  refine lx_allocr 0 hGF zv50 rfl rfl ?_
  intro b0
  refine lx_nil ?_
  refine xs_plain (E := EE []) ?_
  refine lx_call rfl rfl ent110 (fof1_pure) rfl rfl ?_
  refine lx_twoA two50 rfl (by simp) rfl rfl ?_
  refine lx_storea 0 hGF rfl rfl rfl Tryz.sizeOf50 (by simp) (by simp) (one_u64 _) rfl ?_
  refine lx_nil ?_
  refine x_ret ?_
  repeat (first | refine kseq_ret ?_ | refine kblk_ret ?_)
  exact kret_own 0 rfl rfl rfl Tryz.isAgg50 Tryz.sizeOf50 (by simp) (fun w hw => ⟨rfl, hp_below hw⟩)
theorem e2equal (x y : W2) : Pure Tryz.prog Gt 76 [EV2 x, EV2 y] (.bool (decide (x = y))) := by
  intro w hw
  have hGF : BOk Gt (pl w) := gt_low.plain hw
  by_cases h : x.1 = y.1
  · skip
    refine calls_of_X (G := Gt) Tryz.func76 rfl rfl (Hp (pl w) []) (hp_refl (pl w) trivial rides_true) (good_hp hGF) ?_
    refine xs_plain (E := EE []) ?_
    refine lx_boxr 2 hGF rfl rfl rfl ?_
    intro b2
    refine lx_boxr 3 hGF rfl rfl rfl ?_
    intro b3
    refine lx_assign rfl rfl rfl ?_
    refine lx_nil ?_
    refine xs_plain (E := EE []) ?_
    refine lx_fak 0 rfl Tryz.underlying50 rfl Tryz.sizeOf28 (by decide) rfl rfl rfl ?_
    refine lx_loado 2 _ rfl rfl Tryz.isAgg28 Tryz.sizeOf28 (by simp) ld_l rfl rfl ?_
    refine lx_fak 0 rfl Tryz.underlying50 rfl Tryz.sizeOf28 (by decide) rfl rfl rfl ?_
    refine lx_loado 3 _ rfl rfl Tryz.isAgg28 Tryz.sizeOf28 (by simp) ld_l rfl rfl ?_
    refine lx_callB true rfl rfl ent71 (fequal_pure _ _) (decide_eq_true h) rfl rfl ?_
    refine lx_move rfl rfl rfl ?_
    refine lx_fak 6 rfl Tryz.underlying50 rfl Tryz.sizeOf28 (by decide) rfl rfl rfl ?_
    refine lx_loado 2 _ rfl rfl Tryz.isAgg28 Tryz.sizeOf28 (by simp) (ld_r (by simp)) rfl rfl ?_
    refine lx_fak 6 rfl Tryz.underlying50 rfl Tryz.sizeOf28 (by decide) rfl rfl rfl ?_
    refine lx_loado 3 _ rfl rfl Tryz.isAgg28 Tryz.sizeOf28 (by simp) (ld_r (by simp)) rfl rfl ?_
    refine lx_call rfl rfl ent71 (fequal_pure _ _) rfl rfl ?_
    refine lx_pick rfl rfl rfl rfl rfl ?_
    refine lx_assign rfl rfl rfl ?_
    refine lx_nil ?_
    refine x_ret ?_
    repeat (first | refine kseq_ret ?_ | refine kblk_ret ?_)
    exact kret_tmp rfl rfl (fun w hw => ⟨rb (dec2_t h), hp_below hw⟩)
  · skip
    refine calls_of_X (G := Gt) Tryz.func76 rfl rfl (Hp (pl w) []) (hp_refl (pl w) trivial rides_true) (good_hp hGF) ?_
    refine xs_plain (E := EE []) ?_
    refine lx_boxr 2 hGF rfl rfl rfl ?_
    intro b2
    refine lx_boxr 3 hGF rfl rfl rfl ?_
    intro b3
    refine lx_assign rfl rfl rfl ?_
    refine lx_nil ?_
    refine xs_plain (E := EE []) ?_
    refine lx_fak 0 rfl Tryz.underlying50 rfl Tryz.sizeOf28 (by decide) rfl rfl rfl ?_
    refine lx_loado 2 _ rfl rfl Tryz.isAgg28 Tryz.sizeOf28 (by simp) ld_l rfl rfl ?_
    refine lx_fak 0 rfl Tryz.underlying50 rfl Tryz.sizeOf28 (by decide) rfl rfl rfl ?_
    refine lx_loado 3 _ rfl rfl Tryz.isAgg28 Tryz.sizeOf28 (by simp) ld_l rfl rfl ?_
    refine lx_callB false rfl rfl ent71 (fequal_pure _ _) (decide_eq_false h) rfl rfl ?_
    refine lx_move rfl rfl rfl ?_
    refine lx_skip rfl rfl rfl ?_
    refine lx_skip rfl rfl rfl ?_
    refine lx_skip rfl rfl rfl ?_
    refine lx_skip rfl rfl rfl ?_
    refine lx_skip rfl rfl rfl ?_
    refine lx_pick rfl rfl rfl rfl rfl ?_
    refine lx_assign rfl rfl rfl ?_
    refine lx_nil ?_
    refine x_ret ?_
    repeat (first | refine kseq_ret ?_ | refine kblk_ret ?_)
    exact kret_tmp rfl rfl (fun w hw => ⟨rb (dec2_f h), hp_below hw⟩)
theorem e2isZero (x : W2) : Pure Tryz.prog Gt 120 [EV2 x] (.bool (decide (x = ze2))) := by
  intro w hw
  have hGF : BOk Gt (pl w) := gt_low.plain hw
  by_cases h : x.1 = 0
  · skip
    refine calls_of_X (G := Gt) Tryz.func120 rfl rfl (Hp (pl w) []) (hp_refl (pl w) trivial rides_true) (good_hp hGF) ?_
    refine xs_plain (E := EE []) ?_
    refine lx_boxr 1 hGF rfl rfl rfl ?_
    intro b1
    refine lx_assign rfl rfl rfl ?_
    refine lx_nil ?_
    refine xs_plain (E := EE []) ?_
    refine lx_fak 0 rfl Tryz.underlying50 rfl Tryz.sizeOf28 (by decide) rfl rfl rfl ?_
    refine lx_loado 1 _ rfl rfl Tryz.isAgg28 Tryz.sizeOf28 (by simp) ld_l rfl rfl ?_
    refine lx_callB true rfl rfl ent81 (fisZero_pure _) (decide_eq_true h) rfl rfl ?_
    refine lx_move rfl rfl rfl ?_
    refine lx_fak 6 rfl Tryz.underlying50 rfl Tryz.sizeOf28 (by decide) rfl rfl rfl ?_
    refine lx_loado 1 _ rfl rfl Tryz.isAgg28 Tryz.sizeOf28 (by simp) (ld_r (by simp)) rfl rfl ?_
    refine lx_call rfl rfl ent81 (fisZero_pure _) rfl rfl ?_
    refine lx_pick rfl rfl rfl rfl rfl ?_
    refine lx_assign rfl rfl rfl ?_
    refine lx_nil ?_
    refine x_ret ?_
    repeat (first | refine kseq_ret ?_ | refine kblk_ret ?_)
    exact kret_tmp rfl rfl (fun w hw => ⟨rb (dec2_t (y := ze2) h), hp_below hw⟩)
  · skip
    refine calls_of_X (G := Gt) Tryz.func120 rfl rfl (Hp (pl w) []) (hp_refl (pl w) trivial rides_true) (good_hp hGF) ?_
    refine xs_plain (E := EE []) ?_
    refine lx_boxr 1 hGF rfl rfl rfl ?_
    intro b1
    refine lx_assign rfl rfl rfl ?_
    refine lx_nil ?_
    refine xs_plain (E := EE []) ?_
    refine lx_fak 0 rfl Tryz.underlying50 rfl Tryz.sizeOf28 (by decide) rfl rfl rfl ?_
    refine lx_loado 1 _ rfl rfl Tryz.isAgg28 Tryz.sizeOf28 (by simp) ld_l rfl rfl ?_
    refine lx_callB false rfl rfl ent81 (fisZero_pure _) (decide_eq_false h) rfl rfl ?_
    refine lx_move rfl rfl rfl ?_
    refine lx_skip rfl rfl rfl ?_
    refine lx_skip rfl rfl rfl ?_
    refine lx_skip rfl rfl rfl ?_
    refine lx_pick rfl rfl rfl rfl rfl ?_
    refine lx_assign rfl rfl rfl ?_
    refine lx_nil ?_
    refine x_ret ?_
    repeat (first | refine kseq_ret ?_ | refine kblk_ret ?_)
    exact kret_tmp rfl rfl (fun w hw => ⟨rb (dec2_f (y := ze2) h), hp_below hw⟩)
theorem e2add (x y : W2) : Pure Tryz.prog Gt 127 [EV2 x, EV2 y] (EV2 (ad2 x y)) := by
  intro w hw
  have hGF : BOk Gt (pl w) := gt_low.plain hw
  refine calls_of_X (G := Gt) Tryz.func127 rfl rfl (Hp (pl w) []) (hp_refl (pl w) trivial rides_true) (good_hp hGF) ?_
  refine xs_plain (E := EE []) ?_
  refine lx_boxr 2 hGF rfl rfl rfl ?_
  intro b2
  refine lx_boxr 3 hGF rfl rfl rfl ?_
  intro b3
  refine lx_allocr 4 hGF zv50 rfl rfl ?_
  intro b4
  refine lx_nil ?_
  refine xs_drawn (E := EE []) mixed (by kernel_rfl) (by kernel_rfl) (by kernel_rfl) ?_
  refine lx_fak 0 rfl Tryz.underlying50 rfl Tryz.sizeOf28 (by decide) rfl rfl rfl ?_
  refine lx_loado 2 _ rfl rfl Tryz.isAgg28 Tryz.sizeOf28 (by simp) ld_l rfl rfl ?_
  refine lx_fak 0 rfl Tryz.underlying50 rfl Tryz.sizeOf28 (by decide) rfl rfl rfl ?_
  refine lx_loado 3 _ rfl rfl Tryz.isAgg28 Tryz.sizeOf28 (by simp) ld_l rfl rfl ?_
  refine lx_call rfl rfl ent83 (fadd_pure _ _) rfl rfl ?_
  refine lx_fak 6 rfl Tryz.underlying50 rfl Tryz.sizeOf28 (by decide) rfl rfl rfl ?_
  refine lx_loado 2 _ rfl rfl Tryz.isAgg28 Tryz.sizeOf28 (by simp) (ld_r (by simp)) rfl rfl ?_
  refine lx_fak 6 rfl Tryz.underlying50 rfl Tryz.sizeOf28 (by decide) rfl rfl rfl ?_
  refine lx_loado 3 _ rfl rfl Tryz.isAgg28 Tryz.sizeOf28 (by simp) (ld_r (by simp)) rfl rfl ?_
  refine lx_call rfl rfl ent83 (fadd_pure _ _) rfl rfl ?_
  refine lx_two two50 rfl rfl (by simp) (by simp) rfl rfl ?_
  refine lx_storea 4 hGF rfl rfl rfl Tryz.sizeOf50 (by simp) (by simp) (one_u64 _) rfl ?_
  refine lx_nil ?_
  refine x_ret ?_
  repeat (first | refine kseq_ret ?_ | refine kblk_ret ?_)
  exact kret_own 4 rfl rfl rfl Tryz.isAgg50 Tryz.sizeOf50 (by simp) (fun w hw => ⟨rfl, hp_below hw⟩)
theorem e2sub (x y : W2) : Pure Tryz.prog Gt 147 [EV2 x, EV2 y] (EV2 (sb2 x y)) := by
  intro w hw
  have hGF : BOk Gt (pl w) := gt_low.plain hw
  refine calls_of_X (G := Gt) Tryz.func147 rfl rfl (Hp (pl w) []) (hp_refl (pl w) trivial rides_true) (good_hp hGF) ?_
  refine xs_plain (E := EE []) ?_
  refine lx_boxr 2 hGF rfl rfl rfl ?_
  intro b2
  refine lx_boxr 3 hGF rfl rfl rfl ?_
  intro b3
  refine lx_allocr 4 hGF zv50 rfl rfl ?_
  intro b4
  refine lx_nil ?_
  refine xs_drawn (E := EE []) mixed (by kernel_rfl) (by kernel_rfl) (by kernel_rfl) ?_
  refine lx_fak 0 rfl Tryz.underlying50 rfl Tryz.sizeOf28 (by decide) rfl rfl rfl ?_
  refine lx_loado 2 _ rfl rfl Tryz.isAgg28 Tryz.sizeOf28 (by simp) ld_l rfl rfl ?_
  refine lx_fak 0 rfl Tryz.underlying50 rfl Tryz.sizeOf28 (by decide) rfl rfl rfl ?_
  refine lx_loado 3 _ rfl rfl Tryz.isAgg28 Tryz.sizeOf28 (by simp) ld_l rfl rfl ?_
  refine lx_call rfl rfl ent118 (fsub_pure _ _) rfl rfl ?_
  refine lx_fak 6 rfl Tryz.underlying50 rfl Tryz.sizeOf28 (by decide) rfl rfl rfl ?_
  refine lx_loado 2 _ rfl rfl Tryz.isAgg28 Tryz.sizeOf28 (by simp) (ld_r (by simp)) rfl rfl ?_
  refine lx_fak 6 rfl Tryz.underlying50 rfl Tryz.sizeOf28 (by decide) rfl rfl rfl ?_
  refine lx_loado 3 _ rfl rfl Tryz.isAgg28 Tryz.sizeOf28 (by simp) (ld_r (by simp)) rfl rfl ?_
  refine lx_call rfl rfl ent118 (fsub_pure _ _) rfl rfl ?_
  refine lx_two two50 rfl rfl (by simp) (by simp) rfl rfl ?_
  refine lx_storea 4 hGF rfl rfl rfl Tryz.sizeOf50 (by simp) (by simp) (one_u64 _) rfl ?_
  refine lx_nil ?_
  refine x_ret ?_
  repeat (first | refine kseq_ret ?_ | refine kblk_ret ?_)
  exact kret_own 4 rfl rfl rfl Tryz.isAgg50 Tryz.sizeOf50 (by simp) (fun w hw => ⟨rfl, hp_below hw⟩)
theorem e2neg (x : W2) : Pure Tryz.prog Gt 67 [EV2 x] (EV2 (ng2 x)) := by
  intro w hw
  have hGF : BOk Gt (pl w) := gt_low.plain hw
  refine calls_of_X (G := Gt) Tryz.func67 rfl rfl (Hp (pl w) []) (hp_refl (pl w) trivial rides_true) (good_hp hGF) ?_
  refine xs_plain (E := EE []) ?_
  refine lx_boxr 1 hGF rfl rfl rfl ?_
  intro b1
  refine lx_allocr 2 hGF zv50 rfl rfl ?_
  intro b2
  refine lx_nil ?_
  refine xs_drawn (E := EE []) mixed (by kernel_rfl) (by kernel_rfl) (by kernel_rfl) ?_
  refine lx_fak 0 rfl Tryz.underlying50 rfl Tryz.sizeOf28 (by decide) rfl rfl rfl ?_
  refine lx_loado 1 _ rfl rfl Tryz.isAgg28 Tryz.sizeOf28 (by simp) ld_l rfl rfl ?_
  refine lx_call rfl rfl ent66 (fneg_pure _) rfl rfl ?_
  refine lx_fak 6 rfl Tryz.underlying50 rfl Tryz.sizeOf28 (by decide) rfl rfl rfl ?_
  refine lx_loado 1 _ rfl rfl Tryz.isAgg28 Tryz.sizeOf28 (by simp) (ld_r (by simp)) rfl rfl ?_
  refine lx_call rfl rfl ent66 (fneg_pure _) rfl rfl ?_
  refine lx_two two50 rfl rfl (by simp) (by simp) rfl rfl ?_
  refine lx_storea 2 hGF rfl rfl rfl Tryz.sizeOf50 (by simp) (by simp) (one_u64 _) rfl ?_
  refine lx_nil ?_
  refine x_ret ?_
  repeat (first | refine kseq_ret ?_ | refine kblk_ret ?_)
  exact kret_own 2 rfl rfl rfl Tryz.isAgg50 Tryz.sizeOf50 (by simp) (fun w hw => ⟨rfl, hp_below hw⟩)
theorem e2conj (x : W2) : Pure Tryz.prog Gt 131 [EV2 x] (EV2 (cj2 x)) := by
  intro w hw
  have hGF : BOk Gt (pl w) := gt_low.plain hw
  refine calls_of_X (G := Gt) Tryz.func131 rfl rfl (Hp (pl w) []) (hp_refl (pl w) trivial rides_true) (good_hp hGF) ?_
  refine xs_plain (E := EE []) ?_
  refine lx_boxr 1 hGF rfl rfl rfl ?_
  intro b1
  refine lx_allocr 2 hGF zv50 rfl rfl ?_
  intro b2
  refine lx_nil ?_
  refine xs_drawn (E := EE []) mixed (by kernel_rfl) (by kernel_rfl) (by kernel_rfl) ?_
  refine lx_fak 0 rfl Tryz.underlying50 rfl Tryz.sizeOf28 (by decide) rfl rfl rfl ?_
  refine lx_loado 1 _ rfl rfl Tryz.isAgg28 Tryz.sizeOf28 (by simp) ld_l rfl rfl ?_
  refine lx_fak 6 rfl Tryz.underlying50 rfl Tryz.sizeOf28 (by decide) rfl rfl rfl ?_
  refine lx_loado 1 _ rfl rfl Tryz.isAgg28 Tryz.sizeOf28 (by simp) (ld_r (by simp)) rfl rfl ?_
  refine lx_call rfl rfl ent66 (fneg_pure _) rfl rfl ?_
  refine lx_two two50 rfl rfl (by simp) (by simp) rfl rfl ?_
  refine lx_storea 2 hGF rfl rfl rfl Tryz.sizeOf50 (by simp) (by simp) (one_u64 _) rfl ?_
  refine lx_nil ?_
  refine x_ret ?_
  repeat (first | refine kseq_ret ?_ | refine kblk_ret ?_)
  exact kret_own 2 rfl rfl rfl Tryz.isAgg50 Tryz.sizeOf50 (by simp) (fun w hw => ⟨rfl, hp_below hw⟩)
theorem e2mul (x y : W2) : Pure Tryz.prog Gt 73 [EV2 x, EV2 y] (EV2 (ml2 x y)) := by
  intro w hw
  have hGF : BOk Gt (pl w) := gt_low.plain hw
  refine calls_of_X (G := Gt) Tryz.func73 rfl rfl (Hp (pl w) []) (hp_refl (pl w) trivial rides_true) (good_hp hGF) ?_
  refine xs_plain (E := EE []) ?_
  refine lx_boxr 2 hGF rfl rfl rfl ?_
  intro b2
  refine lx_boxr 3 hGF rfl rfl rfl ?_
  intro b3
  refine lx_allocr 4 hGF zv50 rfl rfl ?_
  intro b4
  refine lx_nil ?_
  refine xs_drawA (E := EE [2999999]) [0, 1, 2, 3, 4, 5, 6, 7, 8, 9] [⟨10, 5, 28, (List.replicate 6 0#64).map U64⟩, ⟨11, 6, 28, (List.replicate 6 0#64).map U64⟩] [12, 13] mixed rfl (by kernel_rfl) (by kernel_rfl) (by kernel_rfl) (by kernel_rfl) (by kernel_rfl) (by kernel_rfl) (by decide) (by intro x hx; simp only [List.mem_cons, List.not_mem_nil, or_false] at hx; rcases hx with rfl | rfl <;> exact isAlloc_mk rfl zv28 rfl) ?_
  refine lx_fak 0 rfl Tryz.underlying50 rfl Tryz.sizeOf28 (by decide) rfl rfl rfl ?_
  refine lx_loado 2 _ rfl rfl Tryz.isAgg28 Tryz.sizeOf28 (by simp) ld_l rfl rfl ?_
  refine lx_fak 0 rfl Tryz.underlying50 rfl Tryz.sizeOf28 (by decide) rfl rfl rfl ?_
  refine lx_loado 3 _ rfl rfl Tryz.isAgg28 Tryz.sizeOf28 (by simp) ld_l rfl rfl ?_
  refine lx_call rfl rfl ent68 (fmul_pure _ _) rfl rfl ?_
  refine lx_fak 6 rfl Tryz.underlying50 rfl Tryz.sizeOf28 (by decide) rfl rfl rfl ?_
  refine lx_loado 2 _ rfl rfl Tryz.isAgg28 Tryz.sizeOf28 (by simp) (ld_r (by simp)) rfl rfl ?_
  refine lx_fak 6 rfl Tryz.underlying50 rfl Tryz.sizeOf28 (by decide) rfl rfl rfl ?_
  refine lx_loado 3 _ rfl rfl Tryz.isAgg28 Tryz.sizeOf28 (by simp) (ld_r (by simp)) rfl rfl ?_
  refine lx_call rfl rfl ent68 (fmul_pure _ _) rfl rfl ?_
  refine lx_nil ?_
  refine ⟨_, _, rfl, hGF, by intro x hx; simp only [List.mem_cons, List.not_mem_nil, or_false] at hx; rcases hx with rfl | rfl <;> rfl, by intro x hx; simp only [List.mem_cons, List.not_mem_nil, or_false] at hx; rcases hx with rfl | rfl <;> rfl, fun adr => ?_⟩
  refine lx_storea 5 hGF rfl rfl rfl Tryz.sizeOf28 (by simp) (by simp) (one_u64 _) rfl ?_
  refine lx_storea 6 hGF rfl rfl rfl Tryz.sizeOf28 (by simp) (by simp) (one_u64 _) rfl ?_
  refine lx_nil ?_
  refine xs_drawA (E := EE [2999999]) [0, 1, 2, 3, 4, 5, 6, 7, 8, 9, 10] [⟨11, 7, 28, (List.replicate 6 0#64).map U64⟩] [12] mixed rfl (by kernel_rfl) (by kernel_rfl) (by kernel_rfl) (by kernel_rfl) (by kernel_rfl) (by kernel_rfl) (by decide) (by intro x hx; simp only [List.mem_cons, List.not_mem_nil, or_false] at hx; subst hx; exact isAlloc_mk rfl zv28 rfl) ?_
  refine lx_fak 0 rfl Tryz.underlying50 rfl Tryz.sizeOf28 (by decide) rfl rfl rfl ?_
  refine lx_loado 2 _ rfl rfl Tryz.isAgg28 Tryz.sizeOf28 (by simp) ld_l rfl rfl ?_
  refine lx_fak 6 rfl Tryz.underlying50 rfl Tryz.sizeOf28 (by decide) rfl rfl rfl ?_
  refine lx_loado 2 _ rfl rfl Tryz.isAgg28 Tryz.sizeOf28 (by simp) (ld_r (by simp)) rfl rfl ?_
  refine lx_call rfl rfl ent83 (fadd_pure _ _) rfl rfl ?_
  refine lx_fak 0 rfl Tryz.underlying50 rfl Tryz.sizeOf28 (by decide) rfl rfl rfl ?_
  refine lx_loado 3 _ rfl rfl Tryz.isAgg28 Tryz.sizeOf28 (by simp) ld_l rfl rfl ?_
  refine lx_fak 6 rfl Tryz.underlying50 rfl Tryz.sizeOf28 (by decide) rfl rfl rfl ?_
  refine lx_loado 3 _ rfl rfl Tryz.isAgg28 Tryz.sizeOf28 (by simp) (ld_r (by simp)) rfl rfl ?_
  refine lx_call rfl rfl ent83 (fadd_pure _ _) rfl rfl ?_
  refine lx_call rfl rfl ent68 (fmul_pure _ _) rfl rfl ?_
  refine lx_nil ?_
  refine ⟨_, _, rfl, hGF, by intro x hx; simp only [List.mem_cons, List.not_mem_nil, or_false] at hx; subst hx; rfl, by intro x hx; simp only [List.mem_cons, List.not_mem_nil, or_false] at hx; subst hx; rfl, fun adr => ?_⟩
  refine lx_storea 7 hGF rfl rfl rfl Tryz.sizeOf28 (by simp) (by simp) (one_u64 _) rfl ?_
  refine lx_nil ?_
  refine xs_drawn (E := EE []) mixed (by kernel_rfl) (by kernel_rfl) (by kernel_rfl) ?_
  refine lx_loada 5 rfl rfl Tryz.isAgg28 Tryz.sizeOf28 (by simp) rfl rfl ?_
  refine lx_loada 6 rfl rfl Tryz.isAgg28 Tryz.sizeOf28 (by simp) rfl rfl ?_
  refine lx_call rfl rfl ent118 (fsub_pure _ _) rfl rfl ?_
  refine lx_loada 7 rfl rfl Tryz.isAgg28 Tryz.sizeOf28 (by simp) rfl rfl ?_
  refine lx_loada 5 rfl rfl Tryz.isAgg28 Tryz.sizeOf28 (by simp) rfl rfl ?_
  refine lx_call rfl rfl ent118 (fsub_pure _ _) rfl rfl ?_
  refine lx_loada 6 rfl rfl Tryz.isAgg28 Tryz.sizeOf28 (by simp) rfl rfl ?_
  refine lx_call rfl rfl ent118 (fsub_pure _ _) rfl rfl ?_
  refine lx_two two50 rfl rfl (by simp) (by simp) rfl rfl ?_
  refine lx_storea 4 hGF rfl rfl rfl Tryz.sizeOf50 (by simp) (by simp) (one_u64 _) rfl ?_
  refine lx_nil ?_
  refine x_ret ?_
  repeat (first | refine kseq_ret ?_ | refine kblk_ret ?_)
  exact kret_own 4 rfl rfl rfl Tryz.isAgg50 Tryz.sizeOf50 (by simp) (fun w hw => ⟨e2 (by first | (simp only [ml2]; done) | (simp only [ml2]; grind)) (by first | (simp only [ml2]; done) | (simp only [ml2]; grind)), hp_below hw⟩)
theorem e2square (x : W2) : Pure Tryz.prog Gt 75 [EV2 x] (EV2 (ml2 x x)) := by
  intro w hw
  have hGF : BOk Gt (pl w) := gt_low.plain hw
  refine calls_of_X (G := Gt) Tryz.func75 rfl rfl (Hp (pl w) []) (hp_refl (pl w) trivial rides_true) (good_hp hGF) ?_
  refine xs_plain (E := EE []) ?_
  refine lx_boxr 1 hGF rfl rfl rfl ?_
  intro b1
  refine lx_allocr 2 hGF zv50 rfl rfl ?_
  intro b2
  refine lx_nil ?_
  refine xs_plain (E := EE []) ?_
  refine lx_fak 0 rfl Tryz.underlying50 rfl Tryz.sizeOf28 (by decide) rfl rfl rfl ?_
  refine lx_loado 1 _ rfl rfl Tryz.isAgg28 Tryz.sizeOf28 (by simp) ld_l rfl rfl ?_
  refine lx_fak 6 rfl Tryz.underlying50 rfl Tryz.sizeOf28 (by decide) rfl rfl rfl ?_
  refine lx_loado 1 _ rfl rfl Tryz.isAgg28 Tryz.sizeOf28 (by simp) (ld_r (by simp)) rfl rfl ?_
  refine lx_call rfl rfl ent68 (fmul_pure _ _) rfl rfl ?_
  refine lx_allocr 3 hGF zv28 rfl rfl ?_
  intro b3
  refine lx_storea 3 hGF rfl rfl rfl Tryz.sizeOf28 (by simp) (by simp) (one_u64 _) rfl ?_
  refine lx_nil ?_
  refine xs_drawn (E := EE []) mixed (by kernel_rfl) (by kernel_rfl) (by kernel_rfl) ?_
  refine lx_fak 0 rfl Tryz.underlying50 rfl Tryz.sizeOf28 (by decide) rfl rfl rfl ?_
  refine lx_loado 1 _ rfl rfl Tryz.isAgg28 Tryz.sizeOf28 (by simp) ld_l rfl rfl ?_
  refine lx_fak 6 rfl Tryz.underlying50 rfl Tryz.sizeOf28 (by decide) rfl rfl rfl ?_
  refine lx_loado 1 _ rfl rfl Tryz.isAgg28 Tryz.sizeOf28 (by simp) (ld_r (by simp)) rfl rfl ?_
  refine lx_call rfl rfl ent83 (fadd_pure _ _) rfl rfl ?_
  refine lx_fak 0 rfl Tryz.underlying50 rfl Tryz.sizeOf28 (by decide) rfl rfl rfl ?_
  refine lx_loado 1 _ rfl rfl Tryz.isAgg28 Tryz.sizeOf28 (by simp) ld_l rfl rfl ?_
  refine lx_fak 6 rfl Tryz.underlying50 rfl Tryz.sizeOf28 (by decide) rfl rfl rfl ?_
  refine lx_loado 1 _ rfl rfl Tryz.isAgg28 Tryz.sizeOf28 (by simp) (ld_r (by simp)) rfl rfl ?_
  refine lx_call rfl rfl ent118 (fsub_pure _ _) rfl rfl ?_
  refine lx_call rfl rfl ent68 (fmul_pure _ _) rfl rfl ?_
  refine lx_loada 3 rfl rfl Tryz.isAgg28 Tryz.sizeOf28 (by simp) rfl rfl ?_
  refine lx_loada 3 rfl rfl Tryz.isAgg28 Tryz.sizeOf28 (by simp) rfl rfl ?_
  refine lx_call rfl rfl ent83 (fadd_pure _ _) rfl rfl ?_
  refine lx_two two50 rfl rfl (by simp) (by simp) rfl rfl ?_
  refine lx_storea 2 hGF rfl rfl rfl Tryz.sizeOf50 (by simp) (by simp) (one_u64 _) rfl ?_
  refine lx_nil ?_
  refine x_ret ?_
  repeat (first | refine kseq_ret ?_ | refine kblk_ret ?_)
  exact kret_own 2 rfl rfl rfl Tryz.isAgg50 Tryz.sizeOf50 (by simp) (fun w hw => ⟨e2 (by first | (simp only [ml2]; done) | (simp only [ml2]; grind)) (by first | (simp only [ml2]; done) | (simp only [ml2]; grind)), hp_below hw⟩)
theorem e2scale (x : W2) (c : Zp) : Pure Tryz.prog Gt 144 [EV2 x, EV c] (EV2 (sc2 x c)) := by
  intro w hw
  have hGF : BOk Gt (pl w) := gt_low.plain hw
  refine calls_of_X (G := Gt) Tryz.func144 rfl rfl (Hp (pl w) []) (hp_refl (pl w) trivial rides_true) (good_hp hGF) ?_
  refine xs_plain (E := EE []) ?_
  refine lx_boxr 2 hGF rfl rfl rfl ?_
  intro b2
  refine lx_boxr 3 hGF rfl rfl rfl ?_
  intro b3
  refine lx_allocr 4 hGF zv50 rfl rfl ?_
  intro b4
  refine lx_nil ?_
  refine xs_drawn (E := EE []) mixed (by kernel_rfl) (by kernel_rfl) (by kernel_rfl) ?_
  refine lx_fak 0 rfl Tryz.underlying50 rfl Tryz.sizeOf28 (by decide) rfl rfl rfl ?_
  refine lx_loado 2 _ rfl rfl Tryz.isAgg28 Tryz.sizeOf28 (by simp) ld_l rfl rfl ?_
  refine lx_loada 3 rfl rfl Tryz.isAgg28 Tryz.sizeOf28 (by simp) rfl rfl ?_
  refine lx_call rfl rfl ent68 (fmul_pure _ _) rfl rfl ?_
  refine lx_fak 6 rfl Tryz.underlying50 rfl Tryz.sizeOf28 (by decide) rfl rfl rfl ?_
  refine lx_loado 2 _ rfl rfl Tryz.isAgg28 Tryz.sizeOf28 (by simp) (ld_r (by simp)) rfl rfl ?_
  refine lx_loada 3 rfl rfl Tryz.isAgg28 Tryz.sizeOf28 (by simp) rfl rfl ?_
  refine lx_call rfl rfl ent68 (fmul_pure _ _) rfl rfl ?_
  refine lx_two two50 rfl rfl (by simp) (by simp) rfl rfl ?_
  refine lx_storea 4 hGF rfl rfl rfl Tryz.sizeOf50 (by simp) (by simp) (one_u64 _) rfl ?_
  refine lx_nil ?_
  refine x_ret ?_
  repeat (first | refine kseq_ret ?_ | refine kblk_ret ?_)
  exact kret_own 4 rfl rfl rfl Tryz.isAgg50 Tryz.sizeOf50 (by simp) (fun w hw => ⟨rfl, hp_below hw⟩)
theorem e2norm (x : W2) : Pure Tryz.prog Gt 129 [EV2 x] (EV (nm2 x)) := by
  intro w hw
  have hGF : BOk Gt (pl w) := gt_low.plain hw
  refine calls_of_X (G := Gt) Tryz.func129 rfl rfl (Hp (pl w) []) (hp_refl (pl w) trivial rides_true) (good_hp hGF) ?_
  refine xs_plain (E := EE []) ?_
  refine lx_boxr 1 hGF rfl rfl rfl ?_
  intro b1
  refine lx_allocr 2 hGF zv28 rfl rfl ?_
  intro b2
  refine lx_nil ?_
  refine xs_drawn (E := EE []) mixed (by kernel_rfl) (by kernel_rfl) (by kernel_rfl) ?_
  refine lx_fak 0 rfl Tryz.underlying50 rfl Tryz.sizeOf28 (by decide) rfl rfl rfl ?_
  refine lx_loado 1 _ rfl rfl Tryz.isAgg28 Tryz.sizeOf28 (by simp) ld_l rfl rfl ?_
  refine lx_call rfl rfl ent70 (fsquare_pure _) rfl rfl ?_
  refine lx_fak 6 rfl Tryz.underlying50 rfl Tryz.sizeOf28 (by decide) rfl rfl rfl ?_
  refine lx_loado 1 _ rfl rfl Tryz.isAgg28 Tryz.sizeOf28 (by simp) (ld_r (by simp)) rfl rfl ?_
  refine lx_call rfl rfl ent70 (fsquare_pure _) rfl rfl ?_
  refine lx_call rfl rfl ent83 (fadd_pure _ _) rfl rfl ?_
  refine lx_storea 2 hGF rfl rfl rfl Tryz.sizeOf28 (by simp) (by simp) (one_u64 _) rfl ?_
  refine lx_nil ?_
  refine x_ret ?_
  repeat (first | refine kseq_ret ?_ | refine kblk_ret ?_)
  exact kret_own 2 rfl rfl rfl Tryz.isAgg28 Tryz.sizeOf28 (by simp) (fun w hw => ⟨rfl, hp_below hw⟩)
theorem e2inv (x : W2) : Pure Tryz.prog Gt 109 [EV2 x] (EV2 (iv2 x)) := by
  intro w hw
  have hGF : BOk Gt (pl w) := gt_low.plain hw
  refine calls_of_X (G := Gt) Tryz.func109 rfl rfl (Hp (pl w) []) (hp_refl (pl w) trivial rides_true) (good_hp hGF) ?_
  refine xs_plain (E := EE []) ?_
  refine lx_boxr 1 hGF rfl rfl rfl ?_
  intro b1
  refine lx_allocr 2 hGF zv50 rfl rfl ?_
  intro b2
  refine lx_nil ?_
  refine xs_drawn (E := EE []) mixed (by kernel_rfl) (by kernel_rfl) (by kernel_rfl) ?_
  refine lx_loada 1 rfl rfl Tryz.isAgg50 Tryz.sizeOf50 (by simp) rfl rfl ?_
  refine lx_call rfl rfl ent131 (e2conj _) rfl rfl ?_
  refine lx_loada 1 rfl rfl Tryz.isAgg50 Tryz.sizeOf50 (by simp) rfl rfl ?_
  refine lx_call rfl rfl ent129 (e2norm _) rfl rfl ?_
  refine lx_call rfl rfl ent102 (finv_pure _) rfl rfl ?_
  refine lx_call rfl rfl ent144 (e2scale _ _) rfl rfl ?_
  refine lx_storea 2 hGF rfl rfl rfl Tryz.sizeOf50 (by simp) (by simp) (one_u64 _) rfl ?_
  refine lx_nil ?_
  refine x_ret ?_
  repeat (first | refine kseq_ret ?_ | refine kblk_ret ?_)
  exact kret_own 2 rfl rfl rfl Tryz.isAgg50 Tryz.sizeOf50 (by simp) (fun w hw => ⟨rfl, hp_below hw⟩)
end Go.Proofs.YtamddkjccmhgaaaGreatDoor

namespace Go.Proofs.YtamddkjccmhgaaaGreatDoor
open Go.RowKit
set_option maxRecDepth 100000
set_option maxHeartbeats 1000000
attribute [local simp] fe_len nm_len AS_len SS_len MONT_len RM_len FRs_len BYs_len by48_len PLl TWOl ONEl N1l IVPl HFPl RTPl FL_len SP_len fe2_len SP2_len FM_len

theorem LG2_t {x : W2} (h : x.2 = 0) : decide (hf < x.1.val) = LG2 x := by rw [LG2, if_pos h]
theorem LG2_n {x : W2} (h : ¬ x.2 = 0) : decide (hf < x.2.val) = LG2 x := by rw [LG2, if_neg h]
theorem LG2_a {x : W2} (h : hf < x.2.val) : true = LG2 x := by
  have h0 : ¬ x.2 = 0 := fun e => by rw [e] at h; exact Nat.not_lt_zero _ h
  rw [← LG2_n h0, decide_eq_true h]
theorem LG2_c {x : W2} (h : ¬ hf < x.2.val) (h0 : ¬ x.2 = 0) : false = LG2 x := by rw [← LG2_n h0, decide_eq_false h]
theorem sqY {a : Zp} (h : SQr a * SQr a = a) : Pure Tryz.prog Gt 86 [EV a] (.tuple #[EV (SQ a), .bool true]) := decide_eq_true h ▸ fsqrt_pure a
theorem sqN {a : Zp} (h : ¬ SQr a * SQr a = a) : Pure Tryz.prog Gt 86 [EV a] (.tuple #[EV (SQ a), .bool false]) := decide_eq_false h ▸ fsqrt_pure a
theorem rsmall1 : Pure Tryz.prog Gt 140 [U64 1#64] (EV 1) := rsmallE 1#64
theorem e2large (x : W2) : Pure Tryz.prog Gt 58 [EV2 x] (.bool (LG2 x)) := by
  intro w hw
  have hGF : BOk Gt (pl w) := gt_low.plain hw
  by_cases h : hf < x.2.val
  · skip
    refine calls_of_X (G := Gt) Tryz.func58 rfl rfl (Hp (pl w) []) (hp_refl (pl w) trivial rides_true) (good_hp hGF) ?_
    refine xs_plain (E := EE []) ?_
    refine lx_boxr 1 hGF rfl rfl rfl ?_
    intro b1
    refine lx_assign rfl rfl rfl ?_
    refine lx_nil ?_
    refine xs_plain (E := EE []) ?_
    refine lx_fak 6 rfl Tryz.underlying50 rfl Tryz.sizeOf28 (by decide) rfl rfl rfl ?_
    refine lx_loado 1 _ rfl rfl Tryz.isAgg28 Tryz.sizeOf28 (by simp) (ld_r (by simp)) rfl rfl ?_
    refine lx_callB true rfl rfl ent54 (flarge_pure _) (decide_eq_true h) rfl rfl ?_
    refine lx_move rfl rfl rfl ?_
    refine lx_skip rfl rfl rfl ?_
    refine lx_skip rfl rfl rfl ?_
    refine lx_skip rfl rfl rfl ?_
    refine lx_skip rfl rfl rfl ?_
    refine lx_skip rfl rfl rfl ?_
    refine lx_skip rfl rfl rfl ?_
    refine lx_skip rfl rfl rfl ?_
    refine lx_skip rfl rfl rfl ?_
    refine lx_pick rfl rfl rfl rfl rfl ?_
    refine lx_assign rfl rfl rfl ?_
    refine lx_nil ?_
    refine x_ret ?_
    repeat (first | refine kseq_ret ?_ | refine kblk_ret ?_)
    exact kret_tmp rfl rfl (fun w hw => ⟨rb (LG2_a h), hp_below hw⟩)
  · skip
    by_cases h0 : x.2 = 0
    · skip
      refine calls_of_X (G := Gt) Tryz.func58 rfl rfl (Hp (pl w) []) (hp_refl (pl w) trivial rides_true) (good_hp hGF) ?_
      refine xs_plain (E := EE []) ?_
      refine lx_boxr 1 hGF rfl rfl rfl ?_
      intro b1
      refine lx_assign rfl rfl rfl ?_
      refine lx_nil ?_
      refine xs_plain (E := EE []) ?_
      refine lx_fak 6 rfl Tryz.underlying50 rfl Tryz.sizeOf28 (by decide) rfl rfl rfl ?_
      refine lx_loado 1 _ rfl rfl Tryz.isAgg28 Tryz.sizeOf28 (by simp) (ld_r (by simp)) rfl rfl ?_
      refine lx_callB false rfl rfl ent54 (flarge_pure _) (decide_eq_false h) rfl rfl ?_
      refine lx_move rfl rfl rfl ?_
      refine lx_fak 6 rfl Tryz.underlying50 rfl Tryz.sizeOf28 (by decide) rfl rfl rfl ?_
      refine lx_loado 1 _ rfl rfl Tryz.isAgg28 Tryz.sizeOf28 (by simp) (ld_r (by simp)) rfl rfl ?_
      refine lx_callB true rfl rfl ent81 (fisZero_pure _) (decide_eq_true h0) rfl rfl ?_
      refine lx_move rfl rfl rfl ?_
      refine lx_fak 0 rfl Tryz.underlying50 rfl Tryz.sizeOf28 (by decide) rfl rfl rfl ?_
      refine lx_loado 1 _ rfl rfl Tryz.isAgg28 Tryz.sizeOf28 (by simp) ld_l rfl rfl ?_
      refine lx_call rfl rfl ent54 (flarge_pure _) rfl rfl ?_
      refine lx_pick rfl rfl rfl rfl rfl ?_
      refine lx_pick rfl rfl rfl rfl rfl ?_
      refine lx_assign rfl rfl rfl ?_
      refine lx_nil ?_
      refine x_ret ?_
      repeat (first | refine kseq_ret ?_ | refine kblk_ret ?_)
      exact kret_tmp rfl rfl (fun w hw => ⟨rb (LG2_t h0), hp_below hw⟩)
    · skip
      refine calls_of_X (G := Gt) Tryz.func58 rfl rfl (Hp (pl w) []) (hp_refl (pl w) trivial rides_true) (good_hp hGF) ?_
      refine xs_plain (E := EE []) ?_
      refine lx_boxr 1 hGF rfl rfl rfl ?_
      intro b1
      refine lx_assign rfl rfl rfl ?_
      refine lx_nil ?_
      refine xs_plain (E := EE []) ?_
      refine lx_fak 6 rfl Tryz.underlying50 rfl Tryz.sizeOf28 (by decide) rfl rfl rfl ?_
      refine lx_loado 1 _ rfl rfl Tryz.isAgg28 Tryz.sizeOf28 (by simp) (ld_r (by simp)) rfl rfl ?_
      refine lx_callB false rfl rfl ent54 (flarge_pure _) (decide_eq_false h) rfl rfl ?_
      refine lx_move rfl rfl rfl ?_
      refine lx_fak 6 rfl Tryz.underlying50 rfl Tryz.sizeOf28 (by decide) rfl rfl rfl ?_
      refine lx_loado 1 _ rfl rfl Tryz.isAgg28 Tryz.sizeOf28 (by simp) (ld_r (by simp)) rfl rfl ?_
      refine lx_callB false rfl rfl ent81 (fisZero_pure _) (decide_eq_false h0) rfl rfl ?_
      refine lx_move rfl rfl rfl ?_
      refine lx_skip rfl rfl rfl ?_
      refine lx_skip rfl rfl rfl ?_
      refine lx_skip rfl rfl rfl ?_
      refine lx_pick rfl rfl rfl rfl rfl ?_
      refine lx_pick rfl rfl rfl rfl rfl ?_
      refine lx_assign rfl rfl rfl ?_
      refine lx_nil ?_
      refine x_ret ?_
      repeat (first | refine kseq_ret ?_ | refine kblk_ret ?_)
      exact kret_tmp rfl rfl (fun w hw => ⟨rb (LG2_c h h0), hp_below hw⟩)
theorem r5one  : Pure Tryz.prog Gt 103 [] (EV2 on2) := by
  intro w hw
  have hGF : BOk Gt (pl w) := gt_low.plain hw
  refine calls_of_X (G := Gt) Tryz.func103 rfl rfl (Hp (pl w) []) (hp_refl (pl w) trivial rides_true) (good_hp hGF) ?_
  refine xs_plain (E := EE []) ?_
  refine lx_allocr 0 hGF zv38 rfl rfl ?_
  intro b0
  refine lx_nil ?_
  refine xs_plain (E := EE []) ?_
  refine lx_call rfl rfl ent140 (rsmall1) rfl rfl ?_
  refine lx_twoA two38 rfl (by simp) rfl rfl ?_
  refine lx_storea 0 hGF rfl rfl rfl Tryz.sizeOf38 (by simp) (by simp) (one_u64 _) rfl ?_
  refine lx_nil ?_
  refine x_ret ?_
  repeat (first | refine kseq_ret ?_ | refine kblk_ret ?_)
  exact kret_own 0 rfl rfl rfl Tryz.isAgg38 Tryz.sizeOf38 (by simp) (fun w hw => ⟨rfl, hp_below hw⟩)
theorem r5isZero (x : W2) : Pure Tryz.prog Gt 44 [EV2 x] (.bool (decide (x = ze2))) := by
  intro w hw
  have hGF : BOk Gt (pl w) := gt_low.plain hw
  by_cases h : x.1 = 0
  · skip
    refine calls_of_X (G := Gt) Tryz.func44 rfl rfl (Hp (pl w) []) (hp_refl (pl w) trivial rides_true) (good_hp hGF) ?_
    refine xs_plain (E := EE []) ?_
    refine lx_boxr 1 hGF rfl rfl rfl ?_
    intro b1
    refine lx_assign rfl rfl rfl ?_
    refine lx_nil ?_
    refine xs_plain (E := EE []) ?_
    refine lx_fak 0 rfl Tryz.underlying38 rfl Tryz.sizeOf36 (by decide) rfl rfl rfl ?_
    refine lx_loado 1 _ rfl rfl Tryz.isAgg36 Tryz.sizeOf36 (by simp) ld_l rfl rfl ?_
    refine lx_callB true rfl rfl ent97 (risZeroE _) (decide_eq_true h) rfl rfl ?_
    refine lx_move rfl rfl rfl ?_
    refine lx_fak 6 rfl Tryz.underlying38 rfl Tryz.sizeOf36 (by decide) rfl rfl rfl ?_
    refine lx_loado 1 _ rfl rfl Tryz.isAgg36 Tryz.sizeOf36 (by simp) (ld_r (by simp)) rfl rfl ?_
    refine lx_call rfl rfl ent97 (risZeroE _) rfl rfl ?_
    refine lx_pick rfl rfl rfl rfl rfl ?_
    refine lx_assign rfl rfl rfl ?_
    refine lx_nil ?_
    refine x_ret ?_
    repeat (first | refine kseq_ret ?_ | refine kblk_ret ?_)
    exact kret_tmp rfl rfl (fun w hw => ⟨rb (dec2_t (y := ze2) h), hp_below hw⟩)
  · skip
    refine calls_of_X (G := Gt) Tryz.func44 rfl rfl (Hp (pl w) []) (hp_refl (pl w) trivial rides_true) (good_hp hGF) ?_
    refine xs_plain (E := EE []) ?_
    refine lx_boxr 1 hGF rfl rfl rfl ?_
    intro b1
    refine lx_assign rfl rfl rfl ?_
    refine lx_nil ?_
    refine xs_plain (E := EE []) ?_
    refine lx_fak 0 rfl Tryz.underlying38 rfl Tryz.sizeOf36 (by decide) rfl rfl rfl ?_
    refine lx_loado 1 _ rfl rfl Tryz.isAgg36 Tryz.sizeOf36 (by simp) ld_l rfl rfl ?_
    refine lx_callB false rfl rfl ent97 (risZeroE _) (decide_eq_false h) rfl rfl ?_
    refine lx_move rfl rfl rfl ?_
    refine lx_skip rfl rfl rfl ?_
    refine lx_skip rfl rfl rfl ?_
    refine lx_skip rfl rfl rfl ?_
    refine lx_pick rfl rfl rfl rfl rfl ?_
    refine lx_assign rfl rfl rfl ?_
    refine lx_nil ?_
    refine x_ret ?_
    repeat (first | refine kseq_ret ?_ | refine kblk_ret ?_)
    exact kret_tmp rfl rfl (fun w hw => ⟨rb (dec2_f (y := ze2) h), hp_below hw⟩)
theorem r5large (x : W2) : Pure Tryz.prog Gt 80 [EV2 x] (.bool (LG2 x)) := by
  intro w hw
  have hGF : BOk Gt (pl w) := gt_low.plain hw
  by_cases h : x.2 = 0
  · skip
    refine calls_of_X (G := Gt) Tryz.func80 rfl rfl (Hp (pl w) []) (hp_refl (pl w) trivial rides_true) (good_hp hGF) ?_
    refine xs_plain (E := EE []) ?_
    refine lx_boxr 1 hGF rfl rfl rfl ?_
    intro b1
    refine lx_assign rfl rfl rfl ?_
    refine lx_nil ?_
    refine x_seq ?_
    refine xs_plain (E := EE []) ?_
    refine lx_fak 6 rfl Tryz.underlying38 rfl Tryz.sizeOf36 (by decide) rfl rfl rfl ?_
    refine lx_loado 1 _ rfl rfl Tryz.isAgg36 Tryz.sizeOf36 (by simp) (ld_r (by simp)) rfl rfl ?_
    refine lx_callB true rfl rfl ent97 (risZeroE _) (decide_eq_true h) rfl rfl ?_
    refine lx_nil ?_
    refine x_true rfl ?_
    refine xs_plain (E := EE []) ?_
    refine lx_fak 0 rfl Tryz.underlying38 rfl Tryz.sizeOf36 (by decide) rfl rfl rfl ?_
    refine lx_loado 1 _ rfl rfl Tryz.isAgg36 Tryz.sizeOf36 (by simp) ld_l rfl rfl ?_
    refine lx_call rfl rfl ent123 (rlargeE _) rfl rfl ?_
    refine lx_assign rfl rfl rfl ?_
    refine lx_nil ?_
    refine x_ret ?_
    repeat (first | refine kseq_ret ?_ | refine kblk_ret ?_)
    exact kret_tmp rfl rfl (fun w hw => ⟨rb (LG2_t h), hp_below hw⟩)
  · skip
    refine calls_of_X (G := Gt) Tryz.func80 rfl rfl (Hp (pl w) []) (hp_refl (pl w) trivial rides_true) (good_hp hGF) ?_
    refine xs_plain (E := EE []) ?_
    refine lx_boxr 1 hGF rfl rfl rfl ?_
    intro b1
    refine lx_assign rfl rfl rfl ?_
    refine lx_nil ?_
    refine x_seq ?_
    refine xs_plain (E := EE []) ?_
    refine lx_fak 6 rfl Tryz.underlying38 rfl Tryz.sizeOf36 (by decide) rfl rfl rfl ?_
    refine lx_loado 1 _ rfl rfl Tryz.isAgg36 Tryz.sizeOf36 (by simp) (ld_r (by simp)) rfl rfl ?_
    refine lx_callB false rfl rfl ent97 (risZeroE _) (decide_eq_false h) rfl rfl ?_
    refine lx_nil ?_
    refine x_false rfl ?_
    refine x_skip ?_
    refine xs_plain (E := EE []) ?_
    refine lx_fak 6 rfl Tryz.underlying38 rfl Tryz.sizeOf36 (by decide) rfl rfl rfl ?_
    refine lx_loado 1 _ rfl rfl Tryz.isAgg36 Tryz.sizeOf36 (by simp) (ld_r (by simp)) rfl rfl ?_
    refine lx_call rfl rfl ent123 (rlargeE _) rfl rfl ?_
    refine lx_assign rfl rfl rfl ?_
    refine lx_nil ?_
    refine x_ret ?_
    repeat (first | refine kseq_ret ?_ | refine kblk_ret ?_)
    exact kret_tmp rfl rfl (fun w hw => ⟨rb (LG2_n h), hp_below hw⟩)
theorem e2rootOfReal (c : Zp) : Pure Tryz.prog Gt 128 [EV c] (EV2 (RO c)) := by
  intro w hw
  have hGF : BOk Gt (pl w) := gt_low.plain hw
  refine calls_of_X (G := Gt) Tryz.func128 rfl rfl (Hp (pl w) []) (hp_refl (pl w) trivial rides_true) (good_hp hGF) ?_
  refine xs_plain (E := EE []) ?_
  refine lx_boxr 1 hGF rfl rfl rfl ?_
  intro b1
  refine lx_allocr 2 hGF zv50 rfl rfl ?_
  intro b2
  refine lx_nil ?_
  refine x_seq ?_
  refine xs_plain (E := EE []) ?_
  refine lx_loada 1 rfl rfl Tryz.isAgg28 Tryz.sizeOf28 (by simp) rfl rfl ?_
  refine lx_call rfl rfl ent86 (fsqrt_pure _) rfl rfl ?_
  refine lx_move rfl rfl rfl ?_
  refine lx_ext rfl rfl rfl rfl ?_
  refine lx_ext rfl rfl rfl rfl ?_
  refine lx_allocr 3 hGF zv28 rfl rfl ?_
  intro b3
  refine lx_storea 3 hGF rfl rfl rfl Tryz.sizeOf28 (by simp) (by simp) (one_u64 _) rfl ?_
  refine lx_assign rfl rfl rfl ?_
  refine lx_nil ?_
  refine xs_plain (E := EE []) ?_
  refine lx_move rfl rfl rfl ?_
  refine lx_nil ?_
  refine x_if rfl (fun hc => ?_) (fun hc => ?_)
  · have h : SQr c * SQr c = c := of_decide_eq_true hc
    refine xs_plain (E := EE []) ?_
    refine lx_loada 3 rfl rfl Tryz.isAgg28 Tryz.sizeOf28 (by simp) rfl rfl ?_
    refine lx_twoA two50 rfl (by simp) rfl rfl ?_
    refine lx_storea 2 hGF rfl rfl rfl Tryz.sizeOf50 (by simp) (by simp) (one_u64 _) rfl ?_
    refine lx_nil ?_
    refine x_ret ?_
    repeat (first | refine kseq_ret ?_ | refine kblk_ret ?_)
    exact kret_own 2 rfl rfl rfl Tryz.isAgg50 Tryz.sizeOf50 (by simp) (fun w hw => ⟨by rw [show RO c = (SQ c, 0) from if_pos h] <;> rfl, hp_below hw⟩)
  · have h : ¬ SQr c * SQr c = c := of_decide_eq_false hc
    refine x_skip ?_
    refine xs_plain (E := EE []) ?_
    refine lx_loada 1 rfl rfl Tryz.isAgg28 Tryz.sizeOf28 (by simp) rfl rfl ?_
    refine lx_call rfl rfl ent66 (fneg_pure _) rfl rfl ?_
    refine lx_call rfl rfl ent86 (fsqrt_pure _) rfl rfl ?_
    refine lx_move rfl rfl rfl ?_
    refine lx_ext rfl rfl rfl rfl ?_
    refine lx_ext rfl rfl rfl rfl ?_
    refine lx_allocr 5 hGF zv28 rfl rfl ?_
    intro b5
    refine lx_storea 5 hGF rfl rfl rfl Tryz.sizeOf28 (by simp) (by simp) (one_u64 _) rfl ?_
    refine lx_assign rfl rfl rfl ?_
    refine lx_nil ?_
    refine xs_plain (E := EE []) ?_
    refine lx_loada 5 rfl rfl Tryz.isAgg28 Tryz.sizeOf28 (by simp) rfl rfl ?_
    refine lx_twoB two50 rfl (by simp) rfl rfl ?_
    refine lx_storea 2 hGF rfl rfl rfl Tryz.sizeOf50 (by simp) (by simp) (one_u64 _) rfl ?_
    refine lx_nil ?_
    refine x_ret ?_
    repeat (first | refine kseq_ret ?_ | refine kblk_ret ?_)
    exact kret_own 2 rfl rfl rfl Tryz.isAgg50 Tryz.sizeOf50 (by simp) (fun w hw => ⟨by rw [show RO c = (0, SQ (-c)) from if_neg h] <;> rfl, hp_below hw⟩)
theorem e2rootBy (x : W2) (n : Zp) : Pure Tryz.prog Gt 130 [EV2 x, EV n] (EV2 (RB x n)) := by
  intro w hw
  have hGF : BOk Gt (pl w) := gt_low.plain hw
  refine calls_of_X (G := Gt) Tryz.func130 rfl rfl (Hp (pl w) []) (hp_refl (pl w) trivial rides_true) (good_hp hGF) ?_
  refine xs_plain (E := EE []) ?_
  refine lx_boxr 2 hGF rfl rfl rfl ?_
  intro b2
  refine lx_boxr 3 hGF rfl rfl rfl ?_
  intro b3
  refine lx_allocr 4 hGF zv50 rfl rfl ?_
  intro b4
  refine lx_nil ?_
  refine xs_plain (E := EE []) ?_
  refine lx_fak 0 rfl Tryz.underlying50 rfl Tryz.sizeOf28 (by decide) rfl rfl rfl ?_
  refine lx_loado 2 _ rfl rfl Tryz.isAgg28 Tryz.sizeOf28 (by simp) ld_l rfl rfl ?_
  refine lx_loada 3 rfl rfl Tryz.isAgg28 Tryz.sizeOf28 (by simp) rfl rfl ?_
  refine lx_call rfl rfl ent83 (fadd_pure _ _) rfl rfl ?_
  refine lx_allocr 5 hGF zv28 rfl rfl ?_
  intro b5
  refine lx_storea 5 hGF rfl rfl rfl Tryz.sizeOf28 (by simp) (by simp) (one_u64 _) rfl ?_
  refine lx_nil ?_
  refine xs_plain (E := EE []) ?_
  refine lx_loada 5 rfl rfl Tryz.isAgg28 Tryz.sizeOf28 (by simp) rfl rfl ?_
  refine lx_loada 5 rfl rfl Tryz.isAgg28 Tryz.sizeOf28 (by simp) rfl rfl ?_
  refine lx_call rfl rfl ent83 (fadd_pure _ _) rfl rfl ?_
  refine lx_allocr 6 hGF zv28 rfl rfl ?_
  intro b6
  refine lx_storea 6 hGF rfl rfl rfl Tryz.sizeOf28 (by simp) (by simp) (one_u64 _) rfl ?_
  refine lx_nil ?_
  refine x_seq ?_
  refine xs_plain (E := EE []) ?_
  refine lx_loada 6 rfl rfl Tryz.isAgg28 Tryz.sizeOf28 (by simp) rfl rfl ?_
  refine lx_call rfl rfl ent86 (fsqrt_pure _) rfl rfl ?_
  refine lx_move rfl rfl rfl ?_
  refine lx_ext rfl rfl rfl rfl ?_
  refine lx_ext rfl rfl rfl rfl ?_
  refine lx_allocr 7 hGF zv28 rfl rfl ?_
  intro b7
  refine lx_storea 7 hGF rfl rfl rfl Tryz.sizeOf28 (by simp) (by simp) (one_u64 _) rfl ?_
  refine lx_assign rfl rfl rfl ?_
  refine lx_nil ?_
  refine xs_plain (E := EE []) ?_
  refine lx_move rfl rfl rfl ?_
  refine lx_nil ?_
  refine x_if rfl (fun hc => ?_) (fun hc => ?_)
  · have h : SQr (RBs x n) * SQr (RBs x n) = RBs x n := of_decide_eq_true hc
    refine xs_plain (E := EE []) ?_
    refine lx_loada 7 rfl rfl Tryz.isAgg28 Tryz.sizeOf28 (by simp) rfl rfl ?_
    refine lx_call rfl rfl ent102 (finv_pure _) rfl rfl ?_
    refine lx_allocr 9 hGF zv28 rfl rfl ?_
    intro b9
    refine lx_storea 9 hGF rfl rfl rfl Tryz.sizeOf28 (by simp) (by simp) (one_u64 _) rfl ?_
    refine lx_nil ?_
    refine xs_drawn (E := EE []) mixed (by kernel_rfl) (by kernel_rfl) (by kernel_rfl) ?_
    refine lx_loada 5 rfl rfl Tryz.isAgg28 Tryz.sizeOf28 (by simp) rfl rfl ?_
    refine lx_loada 9 rfl rfl Tryz.isAgg28 Tryz.sizeOf28 (by simp) rfl rfl ?_
    refine lx_call rfl rfl ent68 (fmul_pure _ _) rfl rfl ?_
    refine lx_fak 6 rfl Tryz.underlying50 rfl Tryz.sizeOf28 (by decide) rfl rfl rfl ?_
    refine lx_loado 2 _ rfl rfl Tryz.isAgg28 Tryz.sizeOf28 (by simp) (ld_r (by simp)) rfl rfl ?_
    refine lx_loada 9 rfl rfl Tryz.isAgg28 Tryz.sizeOf28 (by simp) rfl rfl ?_
    refine lx_call rfl rfl ent68 (fmul_pure _ _) rfl rfl ?_
    refine lx_two two50 rfl rfl (by simp) (by simp) rfl rfl ?_
    refine lx_storea 4 hGF rfl rfl rfl Tryz.sizeOf50 (by simp) (by simp) (one_u64 _) rfl ?_
    refine lx_nil ?_
    refine x_ret ?_
    repeat (first | refine kseq_ret ?_ | refine kblk_ret ?_)
    exact kret_own 4 rfl rfl rfl Tryz.isAgg50 Tryz.sizeOf50 (by simp) (fun w hw => ⟨by rw [show RB x n = _ from if_pos h] <;> rfl, hp_below hw⟩)
  · have h : ¬ SQr (RBs x n) * SQr (RBs x n) = RBs x n := of_decide_eq_false hc
    refine x_skip ?_
    refine xs_plain (E := EE []) ?_
    refine lx_loada 6 rfl rfl Tryz.isAgg28 Tryz.sizeOf28 (by simp) rfl rfl ?_
    refine lx_call rfl rfl ent66 (fneg_pure _) rfl rfl ?_
    refine lx_call rfl rfl ent86 (fsqrt_pure _) rfl rfl ?_
    refine lx_move rfl rfl rfl ?_
    refine lx_ext rfl rfl rfl rfl ?_
    refine lx_ext rfl rfl rfl rfl ?_
    refine lx_allocr 10 hGF zv28 rfl rfl ?_
    intro b10
    refine lx_storea 10 hGF rfl rfl rfl Tryz.sizeOf28 (by simp) (by simp) (one_u64 _) rfl ?_
    refine lx_assign rfl rfl rfl ?_
    refine lx_nil ?_
    refine xs_plain (E := EE []) ?_
    refine lx_loada 10 rfl rfl Tryz.isAgg28 Tryz.sizeOf28 (by simp) rfl rfl ?_
    refine lx_call rfl rfl ent102 (finv_pure _) rfl rfl ?_
    refine lx_allocr 12 hGF zv28 rfl rfl ?_
    intro b12
    refine lx_storea 12 hGF rfl rfl rfl Tryz.sizeOf28 (by simp) (by simp) (one_u64 _) rfl ?_
    refine lx_nil ?_
    refine xs_drawn (E := EE []) mixed (by kernel_rfl) (by kernel_rfl) (by kernel_rfl) ?_
    refine lx_fak 6 rfl Tryz.underlying50 rfl Tryz.sizeOf28 (by decide) rfl rfl rfl ?_
    refine lx_loado 2 _ rfl rfl Tryz.isAgg28 Tryz.sizeOf28 (by simp) (ld_r (by simp)) rfl rfl ?_
    refine lx_loada 12 rfl rfl Tryz.isAgg28 Tryz.sizeOf28 (by simp) rfl rfl ?_
    refine lx_call rfl rfl ent68 (fmul_pure _ _) rfl rfl ?_
    refine lx_loada 5 rfl rfl Tryz.isAgg28 Tryz.sizeOf28 (by simp) rfl rfl ?_
    refine lx_call rfl rfl ent66 (fneg_pure _) rfl rfl ?_
    refine lx_loada 12 rfl rfl Tryz.isAgg28 Tryz.sizeOf28 (by simp) rfl rfl ?_
    refine lx_call rfl rfl ent68 (fmul_pure _ _) rfl rfl ?_
    refine lx_two two50 rfl rfl (by simp) (by simp) rfl rfl ?_
    refine lx_storea 4 hGF rfl rfl rfl Tryz.sizeOf50 (by simp) (by simp) (one_u64 _) rfl ?_
    refine lx_nil ?_
    refine x_ret ?_
    repeat (first | refine kseq_ret ?_ | refine kblk_ret ?_)
    exact kret_own 4 rfl rfl rfl Tryz.isAgg50 Tryz.sizeOf50 (by simp) (fun w hw => ⟨by rw [show RB x n = _ from if_neg h] <;> rfl, hp_below hw⟩)
theorem e2sqrtY (x r : W2) (hr : ml2 r r = x) (hl : LG2 r = false) : Pure Tryz.prog Gt 88 [EV2 x] (.tuple #[EV2 r, .bool true]) := by
  intro w hw
  have hGF : BOk Gt (pl w) := gt_low.plain hw
  by_cases h : x.2 = 0
  · skip
    refine calls_of_X (G := Gt) Tryz.func88 rfl rfl (Hp (pl w) []) (hp_refl (pl w) trivial rides_true) (good_hp hGF) ?_
    refine xs_plain (E := EE []) ?_
    refine lx_boxr 1 hGF rfl rfl rfl ?_
    intro b1
    refine lx_allocr 2 hGF zv50 rfl rfl ?_
    intro b2
    refine lx_assign rfl rfl rfl ?_
    refine lx_nil ?_
    refine x_seq ?_
    refine xs_plain (E := EE []) ?_
    refine lx_fak 6 rfl Tryz.underlying50 rfl Tryz.sizeOf28 (by decide) rfl rfl rfl ?_
    refine lx_loado 1 _ rfl rfl Tryz.isAgg28 Tryz.sizeOf28 (by simp) (ld_r (by simp)) rfl rfl ?_
    refine lx_callB true rfl rfl ent81 (fisZero_pure _) (decide_eq_true h) rfl rfl ?_
    refine lx_nil ?_
    refine x_true rfl ?_
    refine xs_plain (E := EE []) ?_
    refine lx_fak 0 rfl Tryz.underlying50 rfl Tryz.sizeOf28 (by decide) rfl rfl rfl ?_
    refine lx_loado 1 _ rfl rfl Tryz.isAgg28 Tryz.sizeOf28 (by simp) ld_l rfl rfl ?_
    refine lx_call rfl rfl ent128 (e2rootOfReal _) rfl rfl ?_
    refine lx_storea 2 hGF rfl rfl rfl Tryz.sizeOf50 (by simp) (by simp) (one_u64 _) rfl ?_
    refine lx_assign rfl rfl rfl ?_
    refine lx_nil ?_
    refine x_ret ?_
    repeat (first | refine kseq_ret ?_ | refine kblk_ret ?_)
    exact kret_ct 2 rfl rfl rfl rfl Tryz.isAgg50 Tryz.sizeOf50 (by simp) (fun w hw => ⟨by rw [← root_re hr hl h] <;> rfl, hp_below hw⟩)
  · skip
    refine calls_of_X (G := Gt) Tryz.func88 rfl rfl (Hp (pl w) []) (hp_refl (pl w) trivial rides_true) (good_hp hGF) ?_
    refine xs_plain (E := EE []) ?_
    refine lx_boxr 1 hGF rfl rfl rfl ?_
    intro b1
    refine lx_allocr 2 hGF zv50 rfl rfl ?_
    intro b2
    refine lx_assign rfl rfl rfl ?_
    refine lx_nil ?_
    refine x_seq ?_
    refine xs_plain (E := EE []) ?_
    refine lx_fak 6 rfl Tryz.underlying50 rfl Tryz.sizeOf28 (by decide) rfl rfl rfl ?_
    refine lx_loado 1 _ rfl rfl Tryz.isAgg28 Tryz.sizeOf28 (by simp) (ld_r (by simp)) rfl rfl ?_
    refine lx_callB false rfl rfl ent81 (fisZero_pure _) (decide_eq_false h) rfl rfl ?_
    refine lx_nil ?_
    refine x_false rfl ?_
    refine x_skip ?_
    refine xs_plain (E := EE []) ?_
    refine lx_loada 1 rfl rfl Tryz.isAgg50 Tryz.sizeOf50 (by simp) rfl rfl ?_
    refine lx_call rfl rfl ent129 (e2norm _) rfl rfl ?_
    refine lx_call rfl rfl ent86 (sqY (nm2_sq hr)) rfl rfl ?_
    refine lx_move rfl rfl rfl ?_
    refine lx_ext rfl rfl rfl rfl ?_
    refine lx_ext rfl rfl rfl rfl ?_
    refine lx_allocr 4 hGF zv28 rfl rfl ?_
    intro b4
    refine lx_storea 4 hGF rfl rfl rfl Tryz.sizeOf28 (by simp) (by simp) (one_u64 _) rfl ?_
    refine lx_assign rfl rfl rfl ?_
    refine lx_nil ?_
    refine x_seq ?_
    refine xs_plain (E := EE []) ?_
    refine lx_move rfl rfl rfl ?_
    refine lx_un rfl (fun _ => un_not _) rfl rfl ?_
    refine lx_nil ?_
    refine x_false rfl ?_
    refine x_skip ?_
    refine xs_plain (E := EE []) ?_
    refine lx_loada 1 rfl rfl Tryz.isAgg50 Tryz.sizeOf50 (by simp) rfl rfl ?_
    refine lx_loada 4 rfl rfl Tryz.isAgg28 Tryz.sizeOf28 (by simp) rfl rfl ?_
    refine lx_call rfl rfl ent130 (e2rootBy _ _) rfl rfl ?_
    refine lx_allocr 6 hGF zv50 rfl rfl ?_
    intro b6
    refine lx_storea 6 hGF rfl rfl rfl Tryz.sizeOf50 (by simp) (by simp) (one_u64 _) rfl ?_
    refine lx_nil ?_
    refine x_seq ?_
    refine xs_plain (E := EE []) ?_
    refine lx_loada 6 rfl rfl Tryz.isAgg50 Tryz.sizeOf50 (by simp) rfl rfl ?_
    refine lx_call rfl rfl ent58 (e2large _) rfl rfl ?_
    refine lx_nil ?_
    refine x_if rfl (fun hc => ?_) (fun hc => ?_)
    · skip
      refine x_plain (E := EE []) ?_
      refine lx_loada 6 rfl rfl Tryz.isAgg50 Tryz.sizeOf50 (by simp) rfl rfl ?_
      refine lx_call rfl rfl ent67 (e2neg _) rfl rfl ?_
      refine lx_storea 6 hGF rfl rfl rfl Tryz.sizeOf50 (by simp) (by simp) (one_u64 _) rfl ?_
      refine lx_nil ?_
      refine xs_plain (E := EE []) ?_
      refine lx_loada 6 rfl rfl Tryz.isAgg50 Tryz.sizeOf50 (by simp) rfl rfl ?_
      refine lx_storea 2 hGF rfl rfl rfl Tryz.sizeOf50 (by simp) (by simp) (one_u64 _) rfl ?_
      refine lx_assign rfl rfl rfl ?_
      refine lx_nil ?_
      refine x_ret ?_
      repeat (first | refine kseq_ret ?_ | refine kblk_ret ?_)
      exact kret_ct 2 rfl rfl rfl rfl Tryz.isAgg50 Tryz.sizeOf50 (by simp) (fun w hw => ⟨by rw [← root_rb hr hl h, NL, if_pos hc] <;> rfl, hp_below hw⟩)
    · skip
      refine x_skip ?_
      refine xs_plain (E := EE []) ?_
      refine lx_loada 6 rfl rfl Tryz.isAgg50 Tryz.sizeOf50 (by simp) rfl rfl ?_
      refine lx_storea 2 hGF rfl rfl rfl Tryz.sizeOf50 (by simp) (by simp) (one_u64 _) rfl ?_
      refine lx_assign rfl rfl rfl ?_
      refine lx_nil ?_
      refine x_ret ?_
      repeat (first | refine kseq_ret ?_ | refine kblk_ret ?_)
      exact kret_ct 2 rfl rfl rfl rfl Tryz.isAgg50 Tryz.sizeOf50 (by simp) (fun w hw => ⟨by rw [← root_rb hr hl h, NL, if_neg (by rw [hc]; exact Bool.false_ne_true)] <;> rfl, hp_below hw⟩)
theorem e2sqrtN (x : W2) (hq : ¬ IsQ (nm2 x)) : Pure Tryz.prog Gt 88 [EV2 x] (.tuple #[EV2 ze2, .bool false]) := by
  intro w hw
  have hGF : BOk Gt (pl w) := gt_low.plain hw
  refine calls_of_X (G := Gt) Tryz.func88 rfl rfl (Hp (pl w) []) (hp_refl (pl w) trivial rides_true) (good_hp hGF) ?_
  refine xs_plain (E := EE []) ?_
  refine lx_boxr 1 hGF rfl rfl rfl ?_
  intro b1
  refine lx_allocr 2 hGF zv50 rfl rfl ?_
  intro b2
  refine lx_assign rfl rfl rfl ?_
  refine lx_nil ?_
  refine x_seq ?_
  refine xs_plain (E := EE []) ?_
  refine lx_fak 6 rfl Tryz.underlying50 rfl Tryz.sizeOf28 (by decide) rfl rfl rfl ?_
  refine lx_loado 1 _ rfl rfl Tryz.isAgg28 Tryz.sizeOf28 (by simp) (ld_r (by simp)) rfl rfl ?_
  refine lx_callB false rfl rfl ent81 (fisZero_pure _) (decide_eq_false (no_re hq)) rfl rfl ?_
  refine lx_nil ?_
  refine x_false rfl ?_
  refine x_skip ?_
  refine xs_plain (E := EE []) ?_
  refine lx_loada 1 rfl rfl Tryz.isAgg50 Tryz.sizeOf50 (by simp) rfl rfl ?_
  refine lx_call rfl rfl ent129 (e2norm _) rfl rfl ?_
  refine lx_call rfl rfl ent86 (sqN hq) rfl rfl ?_
  refine lx_move rfl rfl rfl ?_
  refine lx_ext rfl rfl rfl rfl ?_
  refine lx_ext rfl rfl rfl rfl ?_
  refine lx_allocr 4 hGF zv28 rfl rfl ?_
  intro b4
  refine lx_storea 4 hGF rfl rfl rfl Tryz.sizeOf28 (by simp) (by simp) (one_u64 _) rfl ?_
  refine lx_assign rfl rfl rfl ?_
  refine lx_nil ?_
  refine x_seq ?_
  refine xs_plain (E := EE []) ?_
  refine lx_move rfl rfl rfl ?_
  refine lx_un rfl (fun _ => un_not _) rfl rfl ?_
  refine lx_nil ?_
  refine x_true rfl ?_
  refine xs_plain (E := EE []) ?_
  refine lx_two0 two50 rfl rfl ?_
  refine lx_storea 2 hGF rfl rfl rfl Tryz.sizeOf50 (by simp) (by simp) (one_u64 _) rfl ?_
  refine lx_assign rfl rfl rfl ?_
  refine lx_nil ?_
  refine x_ret ?_
  repeat (first | refine kseq_ret ?_ | refine kblk_ret ?_)
  exact kret_ct 2 rfl rfl rfl rfl Tryz.isAgg50 Tryz.sizeOf50 (by simp) (fun w hw => ⟨rfl, hp_below hw⟩)
end Go.Proofs.YtamddkjccmhgaaaGreatDoor
