/-
  The walks of package fp2: sums and products.
  The walks of package fp2: signs and roots; the reference's elements.
  The walks of package fp2: powers; the reference's powers.
  What the laws of layer 5 share: the chapter's examples, and small helps.
-/
import Derived.Test.YtbpifgcbkhohbaaDoorX9
import Derived.Test.YtbpifgcbkhohbaaDoorX5
import Derived.Test.YtbpifgcbkhohbaaDoorX3
namespace Go.Proofs.YtbpifgcbkhohbaaDoor
open Go.RowKit
set_option maxRecDepth 100000
set_option maxHeartbeats 1000000
attribute [local simp] fe_len nm_len AS_len SS_len MONT_len RM_len FRs_len BYs_len by48_len PLl TWOl ONEl N1l IVPl HFPl RTPl FL_len SP_len fe2_len SP2_len FM_len

theorem ent40 : Enters Tryd.prog 40 := fun _ _ => by kernel_rfl
theorem ent19 : Enters Tryd.prog 19 := fun _ _ => by kernel_rfl
theorem ent39 : Enters Tryd.prog 39 := fun _ _ => by kernel_rfl
theorem ent45 : Enters Tryd.prog 45 := fun _ _ => by kernel_rfl
theorem ent46 : Enters Tryd.prog 46 := fun _ _ => by kernel_rfl
theorem ent53 : Enters Tryd.prog 53 := fun _ _ => by kernel_rfl
theorem ent66 : Enters Tryd.prog 66 := fun _ _ => by kernel_rfl
theorem ent44 : Enters Tryd.prog 44 := fun _ _ => by kernel_rfl
theorem ent49 : Enters Tryd.prog 49 := fun _ _ => by kernel_rfl
theorem ent67 : Enters Tryd.prog 67 := fun _ _ => by kernel_rfl
theorem ent47 : Enters Tryd.prog 47 := fun _ _ => by kernel_rfl
theorem ent52 : Enters Tryd.prog 52 := fun _ _ => by kernel_rfl
theorem ent68 : Enters Tryd.prog 68 := fun _ _ => by kernel_rfl
/-- An element of fp2 as a value. -/
abbrev EV2 (x : W2) : Value := .agg ((fe x.1 ++ fe x.2).map U64).toArray
theorem zf28 (w : World) : (zeroValue 28).run Tryd.prog w = .ok (.agg ((fe 0).map U64).toArray) w := by rw [fe_0]; exact (Tryd.zeroValue28 w).trans (by rfl)
theorem zv30 (w : World) : (zeroValue 30).run Tryd.prog w = .ok (.agg ((fe 0 ++ fe 0).map U64).toArray) w := by rw [fe_0]; exact (Tryd.zeroValue30 w).trans (by rfl)
theorem two30 : Two Tryd.prog 30 ⟨ "C0", 28, 0, false, "", "", 0⟩ ⟨ "C1", 28, 6, false, "", "", 48⟩ 6 6 (fe 0) (fe 0) := ⟨Tryd.underlying30, rfl, rfl, Tryd.sizeOf28, Tryd.sizeOf28, zv30, fe_len 0, fe_len 0⟩
theorem zf42 (w : World) : (zeroValue 42).run Tryd.prog w = .ok (.agg ((fe 0).map U64).toArray) w := by rw [fe_0]; exact (Tryd.zeroValue42 w).trans (by rfl)
theorem zv44 (w : World) : (zeroValue 44).run Tryd.prog w = .ok (.agg ((fe 0 ++ fe 0).map U64).toArray) w := by rw [fe_0]; exact (Tryd.zeroValue44 w).trans (by rfl)
theorem two44 : Two Tryd.prog 44 ⟨ "A", 42, 0, false, "", "", 0⟩ ⟨ "B", 42, 6, false, "", "", 48⟩ 6 6 (fe 0) (fe 0) := ⟨Tryd.underlying44, rfl, rfl, Tryd.sizeOf42, Tryd.sizeOf42, zv44, fe_len 0, fe_len 0⟩
theorem eqf44 : EqF Tryd.prog 44 12 4 :=
  have h : EqF Tryd.prog 42 6 3 := eqf_one Tryd.underlying42 rfl (by decide) (by kernel_rfl) Tryd.isAgg40 Tryd.sizeOf40 (eqf_arr Tryd.underlying40 Tryd.underlying25 Tryd.sizeOf25 Tryd.isAgg25)
  eqf_two Tryd.underlying44 rfl rfl (by decide) (by decide) (by kernel_rfl) Tryd.isAgg42 Tryd.sizeOf42 h Tryd.isAgg42 Tryd.sizeOf42 h
theorem eqg44 (op : BinOp) (x y : Operand) (xs ys : Array Value) (w : World) : (eqGuard op 44 x y (.agg xs) (.agg ys)).run Tryd.prog w = .ok () w := run_eqGuard_agg w op 44 x y xs ys (by kernel_rfl)
theorem eqv44 (xs ys : List (BitVec 64)) (h : xs.length = 12) (h' : ys.length = 12) (w : World) : (binOp .eql 44 (.agg (xs.map U64).toArray) (.agg (ys.map U64).toArray)).run Tryd.prog w = .ok (.bool (decide (xs = ys))) w := bin_eqf eqf44 (by decide) xs ys h h' w
theorem nev44 (xs ys : List (BitVec 64)) (h : xs.length = 12) (h' : ys.length = 12) (w : World) : (binOp .neq 44 (.agg (xs.map U64).toArray) (.agg (ys.map U64).toArray)).run Tryd.prog w = .ok (.bool (!decide (xs = ys))) w := bin_nef eqf44 (by decide) xs ys h h' w
theorem e2 {a b c d : Zp} (h1 : a = c) (h2 : b = d) : Ending.returned (.agg ((fe a ++ fe b).map U64).toArray) = .returned (.agg ((fe c ++ fe d).map U64).toArray) := by rw [h1, h2]
theorem rb {a b : Bool} (h : a = b) : Ending.returned (.bool a) = .returned (.bool b) := by rw [h]
theorem ri {a b : Int} (h : a = b) : Ending.returned (I a) = .returned (I b) := by rw [h]
theorem e2one  : Pure Tryd.prog Gt 40 [] (EV2 on2) := by
  intro w hw
  have hGF : BOk Gt (pl w) := gt_low.plain hw
  refine calls_of_X (G := Gt) Tryd.func40 rfl rfl (Hp (pl w) []) (hp_refl (pl w) trivial rides_true) (good_hp hGF) ?_
  refine xs_plain (E := EE []) ?_
  refine lx_allocr 0 hGF zv30 rfl rfl ?_
  intro b0
  refine lx_nil ?_
  refine xs_plain (E := EE []) ?_
  refine lx_call rfl rfl ent41 (fof1_pure) rfl rfl ?_
  refine lx_twoA two30 rfl (by simp) rfl rfl ?_
  refine lx_storea 0 hGF rfl rfl rfl Tryd.sizeOf30 (by simp) (by simp) (one_u64 _) rfl ?_
  refine lx_nil ?_
  refine x_ret ?_
  repeat (first | refine kseq_ret ?_ | refine kblk_ret ?_)
  exact kret_own 0 rfl rfl rfl Tryd.isAgg30 Tryd.sizeOf30 (by simp) (fun w hw => ⟨rfl, hp_below hw⟩)
theorem e2equal (x y : W2) : Pure Tryd.prog Gt 19 [EV2 x, EV2 y] (.bool (decide (x = y))) := by
  intro w hw
  have hGF : BOk Gt (pl w) := gt_low.plain hw
  by_cases h : x.1 = y.1
  · skip
    refine calls_of_X (G := Gt) Tryd.func19 rfl rfl (Hp (pl w) []) (hp_refl (pl w) trivial rides_true) (good_hp hGF) ?_
    refine xs_plain (E := EE []) ?_
    refine lx_boxr 2 hGF rfl rfl rfl ?_
    intro b2
    refine lx_boxr 3 hGF rfl rfl rfl ?_
    intro b3
    refine lx_assign rfl rfl rfl ?_
    refine lx_nil ?_
    refine xs_plain (E := EE []) ?_
    refine lx_fak 0 rfl Tryd.underlying30 rfl Tryd.sizeOf28 (by decide) rfl rfl rfl ?_
    refine lx_loado 2 _ rfl rfl Tryd.isAgg28 Tryd.sizeOf28 (by simp) ld_l rfl rfl ?_
    refine lx_fak 0 rfl Tryd.underlying30 rfl Tryd.sizeOf28 (by decide) rfl rfl rfl ?_
    refine lx_loado 3 _ rfl rfl Tryd.isAgg28 Tryd.sizeOf28 (by simp) ld_l rfl rfl ?_
    refine lx_callB true rfl rfl ent37 (fequal_pure _ _) (decide_eq_true h) rfl rfl ?_
    refine lx_move rfl rfl rfl ?_
    refine lx_fak 6 rfl Tryd.underlying30 rfl Tryd.sizeOf28 (by decide) rfl rfl rfl ?_
    refine lx_loado 2 _ rfl rfl Tryd.isAgg28 Tryd.sizeOf28 (by simp) (ld_r (by simp)) rfl rfl ?_
    refine lx_fak 6 rfl Tryd.underlying30 rfl Tryd.sizeOf28 (by decide) rfl rfl rfl ?_
    refine lx_loado 3 _ rfl rfl Tryd.isAgg28 Tryd.sizeOf28 (by simp) (ld_r (by simp)) rfl rfl ?_
    refine lx_call rfl rfl ent37 (fequal_pure _ _) rfl rfl ?_
    refine lx_pick rfl rfl rfl rfl rfl ?_
    refine lx_assign rfl rfl rfl ?_
    refine lx_nil ?_
    refine x_ret ?_
    repeat (first | refine kseq_ret ?_ | refine kblk_ret ?_)
    exact kret_tmp rfl rfl (fun w hw => ⟨rb (dec2_t h), hp_below hw⟩)
  · skip
    refine calls_of_X (G := Gt) Tryd.func19 rfl rfl (Hp (pl w) []) (hp_refl (pl w) trivial rides_true) (good_hp hGF) ?_
    refine xs_plain (E := EE []) ?_
    refine lx_boxr 2 hGF rfl rfl rfl ?_
    intro b2
    refine lx_boxr 3 hGF rfl rfl rfl ?_
    intro b3
    refine lx_assign rfl rfl rfl ?_
    refine lx_nil ?_
    refine xs_plain (E := EE []) ?_
    refine lx_fak 0 rfl Tryd.underlying30 rfl Tryd.sizeOf28 (by decide) rfl rfl rfl ?_
    refine lx_loado 2 _ rfl rfl Tryd.isAgg28 Tryd.sizeOf28 (by simp) ld_l rfl rfl ?_
    refine lx_fak 0 rfl Tryd.underlying30 rfl Tryd.sizeOf28 (by decide) rfl rfl rfl ?_
    refine lx_loado 3 _ rfl rfl Tryd.isAgg28 Tryd.sizeOf28 (by simp) ld_l rfl rfl ?_
    refine lx_callB false rfl rfl ent37 (fequal_pure _ _) (decide_eq_false h) rfl rfl ?_
    refine lx_move rfl rfl rfl ?_
    refine lx_skip rfl rfl rfl ?_
    refine lx_skip rfl rfl rfl ?_
    refine lx_skip rfl rfl rfl ?_
    refine lx_skip rfl rfl rfl ?_
    refine lx_skip rfl rfl rfl ?_
    refine lx_pick rfl rfl rfl rfl rfl ?_
    refine lx_assign rfl rfl rfl ?_
    refine lx_nil ?_
    refine x_ret ?_
    repeat (first | refine kseq_ret ?_ | refine kblk_ret ?_)
    exact kret_tmp rfl rfl (fun w hw => ⟨rb (dec2_f h), hp_below hw⟩)
theorem e2isZero (x : W2) : Pure Tryd.prog Gt 39 [EV2 x] (.bool (decide (x = ze2))) := by
  intro w hw
  have hGF : BOk Gt (pl w) := gt_low.plain hw
  by_cases h : x.1 = 0
  · skip
    refine calls_of_X (G := Gt) Tryd.func39 rfl rfl (Hp (pl w) []) (hp_refl (pl w) trivial rides_true) (good_hp hGF) ?_
    refine xs_plain (E := EE []) ?_
    refine lx_boxr 1 hGF rfl rfl rfl ?_
    intro b1
    refine lx_assign rfl rfl rfl ?_
    refine lx_nil ?_
    refine xs_plain (E := EE []) ?_
    refine lx_fak 0 rfl Tryd.underlying30 rfl Tryd.sizeOf28 (by decide) rfl rfl rfl ?_
    refine lx_loado 1 _ rfl rfl Tryd.isAgg28 Tryd.sizeOf28 (by simp) ld_l rfl rfl ?_
    refine lx_callB true rfl rfl ent58 (fisZero_pure _) (decide_eq_true h) rfl rfl ?_
    refine lx_move rfl rfl rfl ?_
    refine lx_fak 6 rfl Tryd.underlying30 rfl Tryd.sizeOf28 (by decide) rfl rfl rfl ?_
    refine lx_loado 1 _ rfl rfl Tryd.isAgg28 Tryd.sizeOf28 (by simp) (ld_r (by simp)) rfl rfl ?_
    refine lx_call rfl rfl ent58 (fisZero_pure _) rfl rfl ?_
    refine lx_pick rfl rfl rfl rfl rfl ?_
    refine lx_assign rfl rfl rfl ?_
    refine lx_nil ?_
    refine x_ret ?_
    repeat (first | refine kseq_ret ?_ | refine kblk_ret ?_)
    exact kret_tmp rfl rfl (fun w hw => ⟨rb (dec2_t (y := ze2) h), hp_below hw⟩)
  · skip
    refine calls_of_X (G := Gt) Tryd.func39 rfl rfl (Hp (pl w) []) (hp_refl (pl w) trivial rides_true) (good_hp hGF) ?_
    refine xs_plain (E := EE []) ?_
    refine lx_boxr 1 hGF rfl rfl rfl ?_
    intro b1
    refine lx_assign rfl rfl rfl ?_
    refine lx_nil ?_
    refine xs_plain (E := EE []) ?_
    refine lx_fak 0 rfl Tryd.underlying30 rfl Tryd.sizeOf28 (by decide) rfl rfl rfl ?_
    refine lx_loado 1 _ rfl rfl Tryd.isAgg28 Tryd.sizeOf28 (by simp) ld_l rfl rfl ?_
    refine lx_callB false rfl rfl ent58 (fisZero_pure _) (decide_eq_false h) rfl rfl ?_
    refine lx_move rfl rfl rfl ?_
    refine lx_skip rfl rfl rfl ?_
    refine lx_skip rfl rfl rfl ?_
    refine lx_skip rfl rfl rfl ?_
    refine lx_pick rfl rfl rfl rfl rfl ?_
    refine lx_assign rfl rfl rfl ?_
    refine lx_nil ?_
    refine x_ret ?_
    repeat (first | refine kseq_ret ?_ | refine kblk_ret ?_)
    exact kret_tmp rfl rfl (fun w hw => ⟨rb (dec2_f (y := ze2) h), hp_below hw⟩)
theorem e2add (x y : W2) : Pure Tryd.prog Gt 45 [EV2 x, EV2 y] (EV2 (ad2 x y)) := by
  intro w hw
  have hGF : BOk Gt (pl w) := gt_low.plain hw
  refine calls_of_X (G := Gt) Tryd.func45 rfl rfl (Hp (pl w) []) (hp_refl (pl w) trivial rides_true) (good_hp hGF) ?_
  refine xs_plain (E := EE []) ?_
  refine lx_boxr 2 hGF rfl rfl rfl ?_
  intro b2
  refine lx_boxr 3 hGF rfl rfl rfl ?_
  intro b3
  refine lx_allocr 4 hGF zv30 rfl rfl ?_
  intro b4
  refine lx_nil ?_
  refine xs_drawn (E := EE []) mixed (by kernel_rfl) (by kernel_rfl) (by kernel_rfl) ?_
  refine lx_fak 0 rfl Tryd.underlying30 rfl Tryd.sizeOf28 (by decide) rfl rfl rfl ?_
  refine lx_loado 2 _ rfl rfl Tryd.isAgg28 Tryd.sizeOf28 (by simp) ld_l rfl rfl ?_
  refine lx_fak 0 rfl Tryd.underlying30 rfl Tryd.sizeOf28 (by decide) rfl rfl rfl ?_
  refine lx_loado 3 _ rfl rfl Tryd.isAgg28 Tryd.sizeOf28 (by simp) ld_l rfl rfl ?_
  refine lx_call rfl rfl ent63 (fadd_pure _ _) rfl rfl ?_
  refine lx_fak 6 rfl Tryd.underlying30 rfl Tryd.sizeOf28 (by decide) rfl rfl rfl ?_
  refine lx_loado 2 _ rfl rfl Tryd.isAgg28 Tryd.sizeOf28 (by simp) (ld_r (by simp)) rfl rfl ?_
  refine lx_fak 6 rfl Tryd.underlying30 rfl Tryd.sizeOf28 (by decide) rfl rfl rfl ?_
  refine lx_loado 3 _ rfl rfl Tryd.isAgg28 Tryd.sizeOf28 (by simp) (ld_r (by simp)) rfl rfl ?_
  refine lx_call rfl rfl ent63 (fadd_pure _ _) rfl rfl ?_
  refine lx_two two30 rfl rfl (by simp) (by simp) rfl rfl ?_
  refine lx_storea 4 hGF rfl rfl rfl Tryd.sizeOf30 (by simp) (by simp) (one_u64 _) rfl ?_
  refine lx_nil ?_
  refine x_ret ?_
  repeat (first | refine kseq_ret ?_ | refine kblk_ret ?_)
  exact kret_own 4 rfl rfl rfl Tryd.isAgg30 Tryd.sizeOf30 (by simp) (fun w hw => ⟨rfl, hp_below hw⟩)
theorem e2sub (x y : W2) : Pure Tryd.prog Gt 46 [EV2 x, EV2 y] (EV2 (sb2 x y)) := by
  intro w hw
  have hGF : BOk Gt (pl w) := gt_low.plain hw
  refine calls_of_X (G := Gt) Tryd.func46 rfl rfl (Hp (pl w) []) (hp_refl (pl w) trivial rides_true) (good_hp hGF) ?_
  refine xs_plain (E := EE []) ?_
  refine lx_boxr 2 hGF rfl rfl rfl ?_
  intro b2
  refine lx_boxr 3 hGF rfl rfl rfl ?_
  intro b3
  refine lx_allocr 4 hGF zv30 rfl rfl ?_
  intro b4
  refine lx_nil ?_
  refine xs_drawn (E := EE []) mixed (by kernel_rfl) (by kernel_rfl) (by kernel_rfl) ?_
  refine lx_fak 0 rfl Tryd.underlying30 rfl Tryd.sizeOf28 (by decide) rfl rfl rfl ?_
  refine lx_loado 2 _ rfl rfl Tryd.isAgg28 Tryd.sizeOf28 (by simp) ld_l rfl rfl ?_
  refine lx_fak 0 rfl Tryd.underlying30 rfl Tryd.sizeOf28 (by decide) rfl rfl rfl ?_
  refine lx_loado 3 _ rfl rfl Tryd.isAgg28 Tryd.sizeOf28 (by simp) ld_l rfl rfl ?_
  refine lx_call rfl rfl ent64 (fsub_pure _ _) rfl rfl ?_
  refine lx_fak 6 rfl Tryd.underlying30 rfl Tryd.sizeOf28 (by decide) rfl rfl rfl ?_
  refine lx_loado 2 _ rfl rfl Tryd.isAgg28 Tryd.sizeOf28 (by simp) (ld_r (by simp)) rfl rfl ?_
  refine lx_fak 6 rfl Tryd.underlying30 rfl Tryd.sizeOf28 (by decide) rfl rfl rfl ?_
  refine lx_loado 3 _ rfl rfl Tryd.isAgg28 Tryd.sizeOf28 (by simp) (ld_r (by simp)) rfl rfl ?_
  refine lx_call rfl rfl ent64 (fsub_pure _ _) rfl rfl ?_
  refine lx_two two30 rfl rfl (by simp) (by simp) rfl rfl ?_
  refine lx_storea 4 hGF rfl rfl rfl Tryd.sizeOf30 (by simp) (by simp) (one_u64 _) rfl ?_
  refine lx_nil ?_
  refine x_ret ?_
  repeat (first | refine kseq_ret ?_ | refine kblk_ret ?_)
  exact kret_own 4 rfl rfl rfl Tryd.isAgg30 Tryd.sizeOf30 (by simp) (fun w hw => ⟨rfl, hp_below hw⟩)
theorem e2neg (x : W2) : Pure Tryd.prog Gt 53 [EV2 x] (EV2 (ng2 x)) := by
  intro w hw
  have hGF : BOk Gt (pl w) := gt_low.plain hw
  refine calls_of_X (G := Gt) Tryd.func53 rfl rfl (Hp (pl w) []) (hp_refl (pl w) trivial rides_true) (good_hp hGF) ?_
  refine xs_plain (E := EE []) ?_
  refine lx_boxr 1 hGF rfl rfl rfl ?_
  intro b1
  refine lx_allocr 2 hGF zv30 rfl rfl ?_
  intro b2
  refine lx_nil ?_
  refine xs_drawn (E := EE []) mixed (by kernel_rfl) (by kernel_rfl) (by kernel_rfl) ?_
  refine lx_fak 0 rfl Tryd.underlying30 rfl Tryd.sizeOf28 (by decide) rfl rfl rfl ?_
  refine lx_loado 1 _ rfl rfl Tryd.isAgg28 Tryd.sizeOf28 (by simp) ld_l rfl rfl ?_
  refine lx_call rfl rfl ent70 (fneg_pure _) rfl rfl ?_
  refine lx_fak 6 rfl Tryd.underlying30 rfl Tryd.sizeOf28 (by decide) rfl rfl rfl ?_
  refine lx_loado 1 _ rfl rfl Tryd.isAgg28 Tryd.sizeOf28 (by simp) (ld_r (by simp)) rfl rfl ?_
  refine lx_call rfl rfl ent70 (fneg_pure _) rfl rfl ?_
  refine lx_two two30 rfl rfl (by simp) (by simp) rfl rfl ?_
  refine lx_storea 2 hGF rfl rfl rfl Tryd.sizeOf30 (by simp) (by simp) (one_u64 _) rfl ?_
  refine lx_nil ?_
  refine x_ret ?_
  repeat (first | refine kseq_ret ?_ | refine kblk_ret ?_)
  exact kret_own 2 rfl rfl rfl Tryd.isAgg30 Tryd.sizeOf30 (by simp) (fun w hw => ⟨rfl, hp_below hw⟩)
theorem e2conj (x : W2) : Pure Tryd.prog Gt 66 [EV2 x] (EV2 (cj2 x)) := by
  intro w hw
  have hGF : BOk Gt (pl w) := gt_low.plain hw
  refine calls_of_X (G := Gt) Tryd.func66 rfl rfl (Hp (pl w) []) (hp_refl (pl w) trivial rides_true) (good_hp hGF) ?_
  refine xs_plain (E := EE []) ?_
  refine lx_boxr 1 hGF rfl rfl rfl ?_
  intro b1
  refine lx_allocr 2 hGF zv30 rfl rfl ?_
  intro b2
  refine lx_nil ?_
  refine xs_drawn (E := EE []) mixed (by kernel_rfl) (by kernel_rfl) (by kernel_rfl) ?_
  refine lx_fak 0 rfl Tryd.underlying30 rfl Tryd.sizeOf28 (by decide) rfl rfl rfl ?_
  refine lx_loado 1 _ rfl rfl Tryd.isAgg28 Tryd.sizeOf28 (by simp) ld_l rfl rfl ?_
  refine lx_fak 6 rfl Tryd.underlying30 rfl Tryd.sizeOf28 (by decide) rfl rfl rfl ?_
  refine lx_loado 1 _ rfl rfl Tryd.isAgg28 Tryd.sizeOf28 (by simp) (ld_r (by simp)) rfl rfl ?_
  refine lx_call rfl rfl ent70 (fneg_pure _) rfl rfl ?_
  refine lx_two two30 rfl rfl (by simp) (by simp) rfl rfl ?_
  refine lx_storea 2 hGF rfl rfl rfl Tryd.sizeOf30 (by simp) (by simp) (one_u64 _) rfl ?_
  refine lx_nil ?_
  refine x_ret ?_
  repeat (first | refine kseq_ret ?_ | refine kblk_ret ?_)
  exact kret_own 2 rfl rfl rfl Tryd.isAgg30 Tryd.sizeOf30 (by simp) (fun w hw => ⟨rfl, hp_below hw⟩)
theorem e2mul (x y : W2) : Pure Tryd.prog Gt 44 [EV2 x, EV2 y] (EV2 (ml2 x y)) := by
  intro w hw
  have hGF : BOk Gt (pl w) := gt_low.plain hw
  refine calls_of_X (G := Gt) Tryd.func44 rfl rfl (Hp (pl w) []) (hp_refl (pl w) trivial rides_true) (good_hp hGF) ?_
  refine xs_plain (E := EE []) ?_
  refine lx_boxr 2 hGF rfl rfl rfl ?_
  intro b2
  refine lx_boxr 3 hGF rfl rfl rfl ?_
  intro b3
  refine lx_allocr 4 hGF zv30 rfl rfl ?_
  intro b4
  refine lx_nil ?_
  refine xs_drawA (E := EE [2999999]) [0, 1, 2, 3, 4, 5, 6, 7, 8, 9] [⟨10, 5, 28, (List.replicate 6 0#64).map U64⟩, ⟨11, 6, 28, (List.replicate 6 0#64).map U64⟩] [12, 13] mixed rfl (by kernel_rfl) (by kernel_rfl) (by kernel_rfl) (by kernel_rfl) (by kernel_rfl) (by kernel_rfl) (by decide) (by intro x hx; simp only [List.mem_cons, List.not_mem_nil, or_false] at hx; rcases hx with rfl | rfl <;> exact isAlloc_mk rfl zv28 rfl) ?_
  refine lx_fak 0 rfl Tryd.underlying30 rfl Tryd.sizeOf28 (by decide) rfl rfl rfl ?_
  refine lx_loado 2 _ rfl rfl Tryd.isAgg28 Tryd.sizeOf28 (by simp) ld_l rfl rfl ?_
  refine lx_fak 0 rfl Tryd.underlying30 rfl Tryd.sizeOf28 (by decide) rfl rfl rfl ?_
  refine lx_loado 3 _ rfl rfl Tryd.isAgg28 Tryd.sizeOf28 (by simp) ld_l rfl rfl ?_
  refine lx_call rfl rfl ent62 (fmul_pure _ _) rfl rfl ?_
  refine lx_fak 6 rfl Tryd.underlying30 rfl Tryd.sizeOf28 (by decide) rfl rfl rfl ?_
  refine lx_loado 2 _ rfl rfl Tryd.isAgg28 Tryd.sizeOf28 (by simp) (ld_r (by simp)) rfl rfl ?_
  refine lx_fak 6 rfl Tryd.underlying30 rfl Tryd.sizeOf28 (by decide) rfl rfl rfl ?_
  refine lx_loado 3 _ rfl rfl Tryd.isAgg28 Tryd.sizeOf28 (by simp) (ld_r (by simp)) rfl rfl ?_
  refine lx_call rfl rfl ent62 (fmul_pure _ _) rfl rfl ?_
  refine lx_nil ?_
  refine ⟨_, _, rfl, hGF, by intro x hx; simp only [List.mem_cons, List.not_mem_nil, or_false] at hx; rcases hx with rfl | rfl <;> rfl, by intro x hx; simp only [List.mem_cons, List.not_mem_nil, or_false] at hx; rcases hx with rfl | rfl <;> rfl, fun adr => ?_⟩
  refine lx_storea 5 hGF rfl rfl rfl Tryd.sizeOf28 (by simp) (by simp) (one_u64 _) rfl ?_
  refine lx_storea 6 hGF rfl rfl rfl Tryd.sizeOf28 (by simp) (by simp) (one_u64 _) rfl ?_
  refine lx_nil ?_
  refine xs_drawA (E := EE [2999999]) [0, 1, 2, 3, 4, 5, 6, 7, 8, 9, 10] [⟨11, 7, 28, (List.replicate 6 0#64).map U64⟩] [12] mixed rfl (by kernel_rfl) (by kernel_rfl) (by kernel_rfl) (by kernel_rfl) (by kernel_rfl) (by kernel_rfl) (by decide) (by intro x hx; simp only [List.mem_cons, List.not_mem_nil, or_false] at hx; subst hx; exact isAlloc_mk rfl zv28 rfl) ?_
  refine lx_fak 0 rfl Tryd.underlying30 rfl Tryd.sizeOf28 (by decide) rfl rfl rfl ?_
  refine lx_loado 2 _ rfl rfl Tryd.isAgg28 Tryd.sizeOf28 (by simp) ld_l rfl rfl ?_
  refine lx_fak 6 rfl Tryd.underlying30 rfl Tryd.sizeOf28 (by decide) rfl rfl rfl ?_
  refine lx_loado 2 _ rfl rfl Tryd.isAgg28 Tryd.sizeOf28 (by simp) (ld_r (by simp)) rfl rfl ?_
  refine lx_call rfl rfl ent63 (fadd_pure _ _) rfl rfl ?_
  refine lx_fak 0 rfl Tryd.underlying30 rfl Tryd.sizeOf28 (by decide) rfl rfl rfl ?_
  refine lx_loado 3 _ rfl rfl Tryd.isAgg28 Tryd.sizeOf28 (by simp) ld_l rfl rfl ?_
  refine lx_fak 6 rfl Tryd.underlying30 rfl Tryd.sizeOf28 (by decide) rfl rfl rfl ?_
  refine lx_loado 3 _ rfl rfl Tryd.isAgg28 Tryd.sizeOf28 (by simp) (ld_r (by simp)) rfl rfl ?_
  refine lx_call rfl rfl ent63 (fadd_pure _ _) rfl rfl ?_
  refine lx_call rfl rfl ent62 (fmul_pure _ _) rfl rfl ?_
  refine lx_nil ?_
  refine ⟨_, _, rfl, hGF, by intro x hx; simp only [List.mem_cons, List.not_mem_nil, or_false] at hx; subst hx; rfl, by intro x hx; simp only [List.mem_cons, List.not_mem_nil, or_false] at hx; subst hx; rfl, fun adr => ?_⟩
  refine lx_storea 7 hGF rfl rfl rfl Tryd.sizeOf28 (by simp) (by simp) (one_u64 _) rfl ?_
  refine lx_nil ?_
  refine xs_drawn (E := EE []) mixed (by kernel_rfl) (by kernel_rfl) (by kernel_rfl) ?_
  refine lx_loada 5 rfl rfl Tryd.isAgg28 Tryd.sizeOf28 (by simp) rfl rfl ?_
  refine lx_loada 6 rfl rfl Tryd.isAgg28 Tryd.sizeOf28 (by simp) rfl rfl ?_
  refine lx_call rfl rfl ent64 (fsub_pure _ _) rfl rfl ?_
  refine lx_loada 7 rfl rfl Tryd.isAgg28 Tryd.sizeOf28 (by simp) rfl rfl ?_
  refine lx_loada 5 rfl rfl Tryd.isAgg28 Tryd.sizeOf28 (by simp) rfl rfl ?_
  refine lx_call rfl rfl ent64 (fsub_pure _ _) rfl rfl ?_
  refine lx_loada 6 rfl rfl Tryd.isAgg28 Tryd.sizeOf28 (by simp) rfl rfl ?_
  refine lx_call rfl rfl ent64 (fsub_pure _ _) rfl rfl ?_
  refine lx_two two30 rfl rfl (by simp) (by simp) rfl rfl ?_
  refine lx_storea 4 hGF rfl rfl rfl Tryd.sizeOf30 (by simp) (by simp) (one_u64 _) rfl ?_
  refine lx_nil ?_
  refine x_ret ?_
  repeat (first | refine kseq_ret ?_ | refine kblk_ret ?_)
  exact kret_own 4 rfl rfl rfl Tryd.isAgg30 Tryd.sizeOf30 (by simp) (fun w hw => ⟨e2 (by first | (simp only [ml2]; done) | (simp only [ml2]; grind)) (by first | (simp only [ml2]; done) | (simp only [ml2]; grind)), hp_below hw⟩)
theorem e2square (x : W2) : Pure Tryd.prog Gt 49 [EV2 x] (EV2 (ml2 x x)) := by
  intro w hw
  have hGF : BOk Gt (pl w) := gt_low.plain hw
  refine calls_of_X (G := Gt) Tryd.func49 rfl rfl (Hp (pl w) []) (hp_refl (pl w) trivial rides_true) (good_hp hGF) ?_
  refine xs_plain (E := EE []) ?_
  refine lx_boxr 1 hGF rfl rfl rfl ?_
  intro b1
  refine lx_allocr 2 hGF zv30 rfl rfl ?_
  intro b2
  refine lx_nil ?_
  refine xs_plain (E := EE []) ?_
  refine lx_fak 0 rfl Tryd.underlying30 rfl Tryd.sizeOf28 (by decide) rfl rfl rfl ?_
  refine lx_loado 1 _ rfl rfl Tryd.isAgg28 Tryd.sizeOf28 (by simp) ld_l rfl rfl ?_
  refine lx_fak 6 rfl Tryd.underlying30 rfl Tryd.sizeOf28 (by decide) rfl rfl rfl ?_
  refine lx_loado 1 _ rfl rfl Tryd.isAgg28 Tryd.sizeOf28 (by simp) (ld_r (by simp)) rfl rfl ?_
  refine lx_call rfl rfl ent62 (fmul_pure _ _) rfl rfl ?_
  refine lx_allocr 3 hGF zv28 rfl rfl ?_
  intro b3
  refine lx_storea 3 hGF rfl rfl rfl Tryd.sizeOf28 (by simp) (by simp) (one_u64 _) rfl ?_
  refine lx_nil ?_
  refine xs_drawn (E := EE []) mixed (by kernel_rfl) (by kernel_rfl) (by kernel_rfl) ?_
  refine lx_fak 0 rfl Tryd.underlying30 rfl Tryd.sizeOf28 (by decide) rfl rfl rfl ?_
  refine lx_loado 1 _ rfl rfl Tryd.isAgg28 Tryd.sizeOf28 (by simp) ld_l rfl rfl ?_
  refine lx_fak 6 rfl Tryd.underlying30 rfl Tryd.sizeOf28 (by decide) rfl rfl rfl ?_
  refine lx_loado 1 _ rfl rfl Tryd.isAgg28 Tryd.sizeOf28 (by simp) (ld_r (by simp)) rfl rfl ?_
  refine lx_call rfl rfl ent63 (fadd_pure _ _) rfl rfl ?_
  refine lx_fak 0 rfl Tryd.underlying30 rfl Tryd.sizeOf28 (by decide) rfl rfl rfl ?_
  refine lx_loado 1 _ rfl rfl Tryd.isAgg28 Tryd.sizeOf28 (by simp) ld_l rfl rfl ?_
  refine lx_fak 6 rfl Tryd.underlying30 rfl Tryd.sizeOf28 (by decide) rfl rfl rfl ?_
  refine lx_loado 1 _ rfl rfl Tryd.isAgg28 Tryd.sizeOf28 (by simp) (ld_r (by simp)) rfl rfl ?_
  refine lx_call rfl rfl ent64 (fsub_pure _ _) rfl rfl ?_
  refine lx_call rfl rfl ent62 (fmul_pure _ _) rfl rfl ?_
  refine lx_loada 3 rfl rfl Tryd.isAgg28 Tryd.sizeOf28 (by simp) rfl rfl ?_
  refine lx_loada 3 rfl rfl Tryd.isAgg28 Tryd.sizeOf28 (by simp) rfl rfl ?_
  refine lx_call rfl rfl ent63 (fadd_pure _ _) rfl rfl ?_
  refine lx_two two30 rfl rfl (by simp) (by simp) rfl rfl ?_
  refine lx_storea 2 hGF rfl rfl rfl Tryd.sizeOf30 (by simp) (by simp) (one_u64 _) rfl ?_
  refine lx_nil ?_
  refine x_ret ?_
  repeat (first | refine kseq_ret ?_ | refine kblk_ret ?_)
  exact kret_own 2 rfl rfl rfl Tryd.isAgg30 Tryd.sizeOf30 (by simp) (fun w hw => ⟨e2 (by first | (simp only [ml2]; done) | (simp only [ml2]; grind)) (by first | (simp only [ml2]; done) | (simp only [ml2]; grind)), hp_below hw⟩)
theorem e2scale (x : W2) (c : Zp) : Pure Tryd.prog Gt 67 [EV2 x, EV c] (EV2 (sc2 x c)) := by
  intro w hw
  have hGF : BOk Gt (pl w) := gt_low.plain hw
  refine calls_of_X (G := Gt) Tryd.func67 rfl rfl (Hp (pl w) []) (hp_refl (pl w) trivial rides_true) (good_hp hGF) ?_
  refine xs_plain (E := EE []) ?_
  refine lx_boxr 2 hGF rfl rfl rfl ?_
  intro b2
  refine lx_boxr 3 hGF rfl rfl rfl ?_
  intro b3
  refine lx_allocr 4 hGF zv30 rfl rfl ?_
  intro b4
  refine lx_nil ?_
  refine xs_drawn (E := EE []) mixed (by kernel_rfl) (by kernel_rfl) (by kernel_rfl) ?_
  refine lx_fak 0 rfl Tryd.underlying30 rfl Tryd.sizeOf28 (by decide) rfl rfl rfl ?_
  refine lx_loado 2 _ rfl rfl Tryd.isAgg28 Tryd.sizeOf28 (by simp) ld_l rfl rfl ?_
  refine lx_loada 3 rfl rfl Tryd.isAgg28 Tryd.sizeOf28 (by simp) rfl rfl ?_
  refine lx_call rfl rfl ent62 (fmul_pure _ _) rfl rfl ?_
  refine lx_fak 6 rfl Tryd.underlying30 rfl Tryd.sizeOf28 (by decide) rfl rfl rfl ?_
  refine lx_loado 2 _ rfl rfl Tryd.isAgg28 Tryd.sizeOf28 (by simp) (ld_r (by simp)) rfl rfl ?_
  refine lx_loada 3 rfl rfl Tryd.isAgg28 Tryd.sizeOf28 (by simp) rfl rfl ?_
  refine lx_call rfl rfl ent62 (fmul_pure _ _) rfl rfl ?_
  refine lx_two two30 rfl rfl (by simp) (by simp) rfl rfl ?_
  refine lx_storea 4 hGF rfl rfl rfl Tryd.sizeOf30 (by simp) (by simp) (one_u64 _) rfl ?_
  refine lx_nil ?_
  refine x_ret ?_
  repeat (first | refine kseq_ret ?_ | refine kblk_ret ?_)
  exact kret_own 4 rfl rfl rfl Tryd.isAgg30 Tryd.sizeOf30 (by simp) (fun w hw => ⟨rfl, hp_below hw⟩)
theorem e2xi (x : W2) : Pure Tryd.prog Gt 47 [EV2 x] (EV2 (xi2 x)) := by
  intro w hw
  have hGF : BOk Gt (pl w) := gt_low.plain hw
  refine calls_of_X (G := Gt) Tryd.func47 rfl rfl (Hp (pl w) []) (hp_refl (pl w) trivial rides_true) (good_hp hGF) ?_
  refine xs_plain (E := EE []) ?_
  refine lx_boxr 1 hGF rfl rfl rfl ?_
  intro b1
  refine lx_allocr 2 hGF zv30 rfl rfl ?_
  intro b2
  refine lx_nil ?_
  refine xs_drawn (E := EE []) mixed (by kernel_rfl) (by kernel_rfl) (by kernel_rfl) ?_
  refine lx_fak 0 rfl Tryd.underlying30 rfl Tryd.sizeOf28 (by decide) rfl rfl rfl ?_
  refine lx_loado 1 _ rfl rfl Tryd.isAgg28 Tryd.sizeOf28 (by simp) ld_l rfl rfl ?_
  refine lx_fak 6 rfl Tryd.underlying30 rfl Tryd.sizeOf28 (by decide) rfl rfl rfl ?_
  refine lx_loado 1 _ rfl rfl Tryd.isAgg28 Tryd.sizeOf28 (by simp) (ld_r (by simp)) rfl rfl ?_
  refine lx_call rfl rfl ent64 (fsub_pure _ _) rfl rfl ?_
  refine lx_fak 0 rfl Tryd.underlying30 rfl Tryd.sizeOf28 (by decide) rfl rfl rfl ?_
  refine lx_loado 1 _ rfl rfl Tryd.isAgg28 Tryd.sizeOf28 (by simp) ld_l rfl rfl ?_
  refine lx_fak 6 rfl Tryd.underlying30 rfl Tryd.sizeOf28 (by decide) rfl rfl rfl ?_
  refine lx_loado 1 _ rfl rfl Tryd.isAgg28 Tryd.sizeOf28 (by simp) (ld_r (by simp)) rfl rfl ?_
  refine lx_call rfl rfl ent63 (fadd_pure _ _) rfl rfl ?_
  refine lx_two two30 rfl rfl (by simp) (by simp) rfl rfl ?_
  refine lx_storea 2 hGF rfl rfl rfl Tryd.sizeOf30 (by simp) (by simp) (one_u64 _) rfl ?_
  refine lx_nil ?_
  refine x_ret ?_
  repeat (first | refine kseq_ret ?_ | refine kblk_ret ?_)
  exact kret_own 2 rfl rfl rfl Tryd.isAgg30 Tryd.sizeOf30 (by simp) (fun w hw => ⟨rfl, hp_below hw⟩)
theorem e2norm (x : W2) : Pure Tryd.prog Gt 68 [EV2 x] (EV (nm2 x)) := by
  intro w hw
  have hGF : BOk Gt (pl w) := gt_low.plain hw
  refine calls_of_X (G := Gt) Tryd.func68 rfl rfl (Hp (pl w) []) (hp_refl (pl w) trivial rides_true) (good_hp hGF) ?_
  refine xs_plain (E := EE []) ?_
  refine lx_boxr 1 hGF rfl rfl rfl ?_
  intro b1
  refine lx_allocr 2 hGF zv28 rfl rfl ?_
  intro b2
  refine lx_nil ?_
  refine xs_drawn (E := EE []) mixed (by kernel_rfl) (by kernel_rfl) (by kernel_rfl) ?_
  refine lx_fak 0 rfl Tryd.underlying30 rfl Tryd.sizeOf28 (by decide) rfl rfl rfl ?_
  refine lx_loado 1 _ rfl rfl Tryd.isAgg28 Tryd.sizeOf28 (by simp) ld_l rfl rfl ?_
  refine lx_call rfl rfl ent79 (fsquare_pure _) rfl rfl ?_
  refine lx_fak 6 rfl Tryd.underlying30 rfl Tryd.sizeOf28 (by decide) rfl rfl rfl ?_
  refine lx_loado 1 _ rfl rfl Tryd.isAgg28 Tryd.sizeOf28 (by simp) (ld_r (by simp)) rfl rfl ?_
  refine lx_call rfl rfl ent79 (fsquare_pure _) rfl rfl ?_
  refine lx_call rfl rfl ent63 (fadd_pure _ _) rfl rfl ?_
  refine lx_storea 2 hGF rfl rfl rfl Tryd.sizeOf28 (by simp) (by simp) (one_u64 _) rfl ?_
  refine lx_nil ?_
  refine x_ret ?_
  repeat (first | refine kseq_ret ?_ | refine kblk_ret ?_)
  exact kret_own 2 rfl rfl rfl Tryd.isAgg28 Tryd.sizeOf28 (by simp) (fun w hw => ⟨rfl, hp_below hw⟩)
theorem e2inv (x : W2) : Pure Tryd.prog Gt 52 [EV2 x] (EV2 (iv2 x)) := by
  intro w hw
  have hGF : BOk Gt (pl w) := gt_low.plain hw
  refine calls_of_X (G := Gt) Tryd.func52 rfl rfl (Hp (pl w) []) (hp_refl (pl w) trivial rides_true) (good_hp hGF) ?_
  refine xs_plain (E := EE []) ?_
  refine lx_boxr 1 hGF rfl rfl rfl ?_
  intro b1
  refine lx_allocr 2 hGF zv30 rfl rfl ?_
  intro b2
  refine lx_nil ?_
  refine xs_drawn (E := EE []) mixed (by kernel_rfl) (by kernel_rfl) (by kernel_rfl) ?_
  refine lx_loada 1 rfl rfl Tryd.isAgg30 Tryd.sizeOf30 (by simp) rfl rfl ?_
  refine lx_call rfl rfl ent66 (e2conj _) rfl rfl ?_
  refine lx_loada 1 rfl rfl Tryd.isAgg30 Tryd.sizeOf30 (by simp) rfl rfl ?_
  refine lx_call rfl rfl ent68 (e2norm _) rfl rfl ?_
  refine lx_call rfl rfl ent69 (finv_pure _) rfl rfl ?_
  refine lx_call rfl rfl ent67 (e2scale _ _) rfl rfl ?_
  refine lx_storea 2 hGF rfl rfl rfl Tryd.sizeOf30 (by simp) (by simp) (one_u64 _) rfl ?_
  refine lx_nil ?_
  refine x_ret ?_
  repeat (first | refine kseq_ret ?_ | refine kblk_ret ?_)
  exact kret_own 2 rfl rfl rfl Tryd.isAgg30 Tryd.sizeOf30 (by simp) (fun w hw => ⟨rfl, hp_below hw⟩)
end Go.Proofs.YtbpifgcbkhohbaaDoor

namespace Go.Proofs.YtbpifgcbkhohbaaDoor
open Go.RowKit
set_option maxRecDepth 100000
set_option maxHeartbeats 1000000
attribute [local simp] fe_len nm_len AS_len SS_len MONT_len RM_len FRs_len BYs_len by48_len PLl TWOl ONEl N1l IVPl HFPl RTPl FL_len SP_len fe2_len SP2_len FM_len

theorem LG2_t {x : W2} (h : x.2 = 0) : decide (hf < x.1.val) = LG2 x := by rw [LG2, if_pos h]
theorem LG2_n {x : W2} (h : ¬ x.2 = 0) : decide (hf < x.2.val) = LG2 x := by rw [LG2, if_neg h]
theorem LG2_a {x : W2} (h : hf < x.2.val) : true = LG2 x := by
  have h0 : ¬ x.2 = 0 := fun e => by rw [e] at h; exact Nat.not_lt_zero _ h
  rw [← LG2_n h0, decide_eq_true h]
theorem LG2_c {x : W2} (h : ¬ hf < x.2.val) (h0 : ¬ x.2 = 0) : false = LG2 x := by rw [← LG2_n h0, decide_eq_false h]
theorem SG2_a {x : W2} (h : x.1.val % 2 = 1) : 1 = SG2 x := by rw [SG2, if_pos h]
theorem SG2_b {x : W2} (h : ¬ x.1.val % 2 = 1) (h0 : x.1 = 0) (h2 : x.2.val % 2 = 1) : 1 = SG2 x := by rw [SG2, if_neg h, if_pos h0, if_pos h2]
theorem SG2_c {x : W2} (h : ¬ x.1.val % 2 = 1) (h0 : x.1 = 0) (h2 : ¬ x.2.val % 2 = 1) : 0 = SG2 x := by rw [SG2, if_neg h, if_pos h0, if_neg h2]
theorem SG2_d {x : W2} (h : ¬ x.1.val % 2 = 1) (h0 : ¬ x.1 = 0) : 0 = SG2 x := by rw [SG2, if_neg h, if_neg h0]
theorem nf {y x : W2} (h : y = x) : (!decide (fe y.1 ++ fe y.2 = fe x.1 ++ fe x.2)) = false := by rw [fe2_dec, decide_eq_true h]; rfl

theorem rsmall1 : Pure Tryd.prog Gt 42 [U64 1#64] (EV 1) := rsmallE 1#64
theorem rsmall2 : Pure Tryd.prog Gt 42 [U64 2#64] (EV (zp 2)) := rsmallE 2#64
end Go.Proofs.YtbpifgcbkhohbaaDoor

namespace Go.Proofs.YtbpifgcbkhohbaaDoor
open Go.RowKit
set_option maxRecDepth 100000
set_option maxHeartbeats 1000000
attribute [local simp] fe_len nm_len AS_len SS_len MONT_len RM_len FRs_len BYs_len by48_len PLl TWOl ONEl N1l IVPl HFPl RTPl FL_len SP_len fe2_len SP2_len FM_len

end Go.Proofs.YtbpifgcbkhohbaaDoor

namespace Go.Proofs.YtbpifgcbkhohbaaDoor
open Go.RowKit
set_option maxRecDepth 100000
set_option maxHeartbeats 1000000
attribute [local simp] fe_len nm_len AS_len SS_len MONT_len RM_len FRs_len BYs_len by48_len PLl TWOl ONEl N1l IVPl HFPl RTPl FL_len SP_len fe2_len SP2_len FM_len

theorem rfromE (x : Zp) (b : Nat) (t : TypeId) (w : World) (hw : Gt w) (ho : OwnB w b ((by48 x).map U8) t) :
    Calls Tryd.prog 72 [.slice (some ⟨b, 0, none⟩) 48 48].toArray w (fun r w' => r = .returned (.tuple #[NV (nm x), .bool true]) ∧ Grow w w') := by
  have h := rfrom48 b t (by48 x) (by48_len x) w hw ho
  rw [FRs_by48] at h
  exact h
def SVl (vs : List (Option Addr × Nat × Nat)) : List Value := vs.map fun v => .slice v.1 v.2.1 v.2.2
def sm2 (a b : BitVec 64) : W2 := (zp a.toNat, zp b.toNat)
theorem wide_cut (e : Option Addr) (cap : Nat) (bs : List (BitVec 8)) (l k len c' : Nat) (hk : len = k) (hl : l + k ≤ bs.length) (hc' : len ≤ c') (hcap : bs.length ≤ cap) (hlen : bs.length ≤ 1000) (w : World) (hw : Gt w) (hby : BytesAt w e bs) :
    Calls Tryd.prog 61 [.slice (if cap = l then e else e.map (·.add (l * 1))) len c'].toArray w (fun r w' => r = .returned (EV (ZB ((bs.drop l).take k))) ∧ Grow w w') := by
  subst hk
  have hL : ((bs.drop l).take len).length = len := by rw [List.length_take, List.length_drop]; omega
  have h := fwide_calls (if cap = l then e else e.map (·.add (l * 1))) c' ((bs.drop l).take len) (by omega) (by omega) w hw (hby.cut l len hcap)
  rw [hL] at h
  exact h
/-- The element of bytes. -/
def NUM (bs : List (BitVec 8)) : W2 := (ZB ((bs.drop 0).take (bs.length / 2)), ZB ((bs.drop (bs.length / 2)).take (bs.length - bs.length / 2)))
theorem part5 (x : Zp) : Pure Tryd.prog Gt 54 [EV x] (EV x) := by
  intro w hw
  have hGF : BOk Gt (pl w) := gt_low.plain hw
  refine calls_of_X (G := Gt) Tryd.func54 rfl rfl (Hp (pl w) []) (hp_refl (pl w) trivial rides_true) (good_hp hGF) ?_
  refine xs_plain (E := EE []) ?_
  refine lx_boxr 1 hGF rfl rfl rfl ?_
  intro b1
  refine lx_allocr 2 hGF zv42 rfl rfl ?_
  intro b2
  refine lx_nil ?_
  refine xs_plain (E := EE []) ?_
  refine lx_loada 1 rfl rfl Tryd.isAgg28 Tryd.sizeOf28 (by simp) rfl rfl ?_
  refine lx_call rfl rfl ent71 (fbytes_pure _) rfl rfl ?_
  refine lx_allocr 3 hGF zv86 rfl rfl ?_
  intro b3
  refine lx_storea 3 hGF rfl rfl rfl Tryd.sizeOf86 (by simp) (by simp) (one_u8 _) rfl ?_
  refine lx_nil ?_
  refine xs_plain (E := EE []) ?_
  refine lx_slarr1 (l := 0) (h' := 48) rfl Tryd.underlying86 Tryd.sizeOf5 rfl rfl (by omega) (by omega) rfl rfl ?_
  refine lx_callC rfl rfl ent72 (fun w' hC hG => rfromE x _ _ w' hG (hC.own 3 _ _ _ rfl).1) rfl rfl ?_
  refine lx_move rfl rfl rfl ?_
  refine lx_ext rfl rfl rfl rfl ?_
  refine lx_ext rfl rfl rfl rfl ?_
  refine lx_allocr 4 hGF zv40 rfl rfl ?_
  intro b4
  refine lx_storea 4 hGF rfl rfl rfl Tryd.sizeOf40 (by simp) (by simp) (one_u64 _) rfl ?_
  refine lx_assign rfl rfl rfl ?_
  refine lx_nil ?_
  refine xs_plain (E := EE []) ?_
  refine lx_loada 4 rfl rfl Tryd.isAgg40 Tryd.sizeOf40 (by simp) rfl rfl ?_
  refine lx_call rfl rfl ent60 (rofE _) rfl rfl ?_
  refine lx_storea 2 hGF rfl rfl rfl Tryd.sizeOf42 (by simp) (by simp) (one_u64 _) rfl ?_
  refine lx_nil ?_
  refine x_ret ?_
  repeat (first | refine kseq_ret ?_ | refine kblk_ret ?_)
  exact kret_own 2 rfl rfl rfl Tryd.isAgg42 Tryd.sizeOf42 (by simp) (fun w hw => ⟨rfl, hp_below hw⟩)
theorem ref5 (x : W2) : Pure Tryd.prog Gt 35 [EV2 x] (EV2 x) := by
  intro w hw
  have hGF : BOk Gt (pl w) := gt_low.plain hw
  refine calls_of_X (G := Gt) Tryd.func35 rfl rfl (Hp (pl w) []) (hp_refl (pl w) trivial rides_true) (good_hp hGF) ?_
  refine xs_plain (E := EE []) ?_
  refine lx_boxr 1 hGF rfl rfl rfl ?_
  intro b1
  refine lx_allocr 2 hGF zv44 rfl rfl ?_
  intro b2
  refine lx_nil ?_
  refine xs_drawn (E := EE []) mixed (by kernel_rfl) (by kernel_rfl) (by kernel_rfl) ?_
  refine lx_fak 0 rfl Tryd.underlying30 rfl Tryd.sizeOf28 (by decide) rfl rfl rfl ?_
  refine lx_loado 1 _ rfl rfl Tryd.isAgg28 Tryd.sizeOf28 (by simp) ld_l rfl rfl ?_
  refine lx_call rfl rfl ent54 (part5 _) rfl rfl ?_
  refine lx_fak 6 rfl Tryd.underlying30 rfl Tryd.sizeOf28 (by decide) rfl rfl rfl ?_
  refine lx_loado 1 _ rfl rfl Tryd.isAgg28 Tryd.sizeOf28 (by simp) (ld_r (by simp)) rfl rfl ?_
  refine lx_call rfl rfl ent54 (part5 _) rfl rfl ?_
  refine lx_two two44 rfl rfl (by simp) (by simp) rfl rfl ?_
  refine lx_storea 2 hGF rfl rfl rfl Tryd.sizeOf44 (by simp) (by simp) (one_u64 _) rfl ?_
  refine lx_nil ?_
  refine x_ret ?_
  repeat (first | refine kseq_ret ?_ | refine kblk_ret ?_)
  exact kret_own 2 rfl rfl rfl Tryd.isAgg44 Tryd.sizeOf44 (by simp) (fun w hw => ⟨rfl, hp_below hw⟩)
theorem same5 (x y : W2) : Pure Tryd.prog Gt 18 [EV2 x, EV2 y] (.bool (decide (x = y))) := by
  intro w hw
  have hGF : BOk Gt (pl w) := gt_low.plain hw
  refine calls_of_X (G := Gt) Tryd.func18 rfl rfl (Hp (pl w) []) (hp_refl (pl w) trivial rides_true) (good_hp hGF) ?_
  refine xs_plain (E := EE []) ?_
  refine lx_boxr 2 hGF rfl rfl rfl ?_
  intro b2
  refine lx_boxr 3 hGF rfl rfl rfl ?_
  intro b3
  refine lx_assign rfl rfl rfl ?_
  refine lx_nil ?_
  refine xs_drawn (E := EE []) mixed (by kernel_rfl) (by kernel_rfl) (by kernel_rfl) ?_
  refine lx_loada 2 rfl rfl Tryd.isAgg30 Tryd.sizeOf30 (by simp) rfl rfl ?_
  refine lx_call rfl rfl ent35 (ref5 _) rfl rfl ?_
  refine lx_loada 3 rfl rfl Tryd.isAgg44 Tryd.sizeOf44 (by simp) rfl rfl ?_
  refine lx_bin rfl rfl (fun _ => eqg44 _ _ _ _ _ _) (fun w => eqv44 _ _ (by simp) (by simp) w) rfl rfl ?_
  refine lx_assign rfl rfl rfl ?_
  refine lx_nil ?_
  refine x_ret ?_
  repeat (first | refine kseq_ret ?_ | refine kblk_ret ?_)
  exact kret_tmp rfl rfl (fun w hw => ⟨rb (fe2_dec x y), hp_below hw⟩)
theorem small5 (a b : BitVec 64) : Pure Tryd.prog Gt 24 [U64 a, U64 b] (EV2 (sm2 a b)) := by
  intro w hw
  have hGF : BOk Gt (pl w) := gt_low.plain hw
  refine calls_of_X (G := Gt) Tryd.func24 rfl rfl (Hp (pl w) []) (hp_refl (pl w) trivial rides_true) (good_hp hGF) ?_
  refine xs_plain (E := EE []) ?_
  refine lx_allocr 4 hGF zv30 rfl rfl ?_
  intro b4
  refine lx_nil ?_
  refine xs_plain (E := EE []) ?_
  refine lx_move rfl rfl rfl ?_
  refine lx_call rfl rfl ent41 (fof_pure _) rfl rfl ?_
  refine lx_move rfl rfl rfl ?_
  refine lx_call rfl rfl ent41 (fof_pure _) rfl rfl ?_
  refine lx_two two30 rfl rfl (by simp) (by simp) rfl rfl ?_
  refine lx_storea 4 hGF rfl rfl rfl Tryd.sizeOf30 (by simp) (by simp) (one_u64 _) rfl ?_
  refine lx_nil ?_
  refine x_ret ?_
  repeat (first | refine kseq_ret ?_ | refine kblk_ret ?_)
  exact kret_own 4 rfl rfl rfl Tryd.isAgg30 Tryd.sizeOf30 (by simp) (fun w hw => ⟨rfl, hp_below hw⟩)
theorem num_calls (e : Option Addr) (cap : Nat) (bs : List (BitVec 8)) (hlen : bs.length ≤ 1000) (hcap : bs.length ≤ cap) (w : World) (hw : Gt w) (hby : BytesAt w e bs) :
    Calls Tryd.prog 43 [.slice e bs.length cap].toArray w (fun r w' => r = .returned (EV2 (NUM bs)) ∧ Grow w w') := by
  have hGF : BOk Gt (pl w) := gt_low.plain hw
  refine calls_of_X (G := Gt) Tryd.func43 rfl rfl (Hp (pl w) []) (hp_refl (pl w) trivial rides_true) (good_hp hGF) ?_
  refine xs_plain (E := EE []) ?_
  refine lx_allocr 2 hGF zv30 rfl rfl ?_
  intro b2
  refine lx_nil ?_
  refine xs_plain (E := EE []) ?_
  refine lx_move rfl rfl rfl ?_
  refine lx_len rfl (fun _ => len_slice Tryd.underlying22 _ _ _ _) rfl rfl ?_
  refine lx_bin (v := I ((bs.length / 2 : Nat) : Int)) rfl rfl (fun _ => rfl) (fun _ => bin_quo_i _ _ _ (by decide) (show inI ((bs.length / 2 : Nat) : Int) by unfold inI; omega)) rfl rfl ?_
  refine lx_assign rfl rfl rfl ?_
  refine lx_nil ?_
  refine xs_drawn (E := EE []) mixed (by kernel_rfl) (by kernel_rfl) (by kernel_rfl) ?_
  refine lx_move rfl rfl rfl ?_
  refine lx_move rfl rfl rfl ?_
  refine lx_slsl (l := 0) (h' := bs.length / 2) rfl Tryd.underlying22 Tryd.sizeOf5 rfl rfl (by omega) rfl rfl ?_
  refine lx_callC rfl rfl ent61 (fun w' hC hG => wide_cut e cap bs 0 (bs.length / 2) _ _ rfl (by omega) (by omega) hcap hlen w' hG (hby.grow (hp_below hC))) rfl rfl ?_
  refine lx_move rfl rfl rfl ?_
  refine lx_move rfl rfl rfl ?_
  refine lx_slsl (l := bs.length / 2) (h' := bs.length) rfl Tryd.underlying22 Tryd.sizeOf5 rfl rfl (by omega) rfl rfl ?_
  refine lx_callC rfl rfl ent61 (fun w' hC hG => wide_cut e cap bs (bs.length / 2) (bs.length - bs.length / 2) _ _ rfl (by omega) (by omega) hcap hlen w' hG (hby.grow (hp_below hC))) rfl rfl ?_
  refine lx_two two30 rfl rfl (by simp) (by simp) rfl rfl ?_
  refine lx_storea 2 hGF rfl rfl rfl Tryd.sizeOf30 (by simp) (by simp) (one_u64 _) rfl ?_
  refine lx_nil ?_
  refine x_ret ?_
  repeat (first | refine kseq_ret ?_ | refine kblk_ret ?_)
  exact kret_own 2 rfl rfl rfl Tryd.isAgg30 Tryd.sizeOf30 (by simp) (fun w hw => ⟨rfl, hp_below hw⟩)
theorem light_calls (b m : Nat) (vs : List (Option Addr × Nat × Nat)) (hm : vs.length = m) (hb : m ≤ 100) (w : World) (hw : Gt w) (ho : w.rangeAt b 0 (SVl vs)) :
    Calls Tryd.prog 7 [.slice (some ⟨b, 0, none⟩) m m].toArray w (fun r w' => r = .returned (.bool (decide (∀ v ∈ vs, v.2.1 ≤ 200))) ∧ Grow w w') := by
  have hGF : BOk Gt (pl w) := gt_low.plain hw
  refine calls_of_X (G := Gt) Tryd.func7 rfl rfl (Hp (pl w) []) (hp_refl (pl w) trivial rides_true) (good_hp hGF) ?_
  refine xs_plain (E := EE []) ?_
  refine lx_assign rfl rfl rfl ?_
  refine lx_nil ?_
  refine x_seq ?_
  refine xs_plain (E := EE []) ?_
  refine lx_assign rfl rfl rfl ?_
  refine lx_nil ?_
  refine x_block ?_
  refine x_for (ι := { i : Nat // i ≤ m ∧ ∀ (j : Nat) v, j < i → vs[j]? = some v → v.2.1 ≤ 200 }) (fun y => [(0, .slice (some ⟨b, 0, none⟩) m m), (3, I (y.1 : Int))]) (fun y => []) (fun y => m - y.1) ⟨0, Nat.zero_le _, fun _ _ h => absurd h (Nat.not_lt_zero _)⟩ hGF ⟨rfl, rfl, trivial⟩ trivial ?_
  rintro ⟨i, hi, hall⟩
  dsimp only
  refine x_seq ?_
  refine xs_plain (E := EE []) ?_
  refine lx_move rfl rfl rfl ?_
  refine lx_move rfl rfl rfl ?_
  refine lx_len rfl (fun _ => len_slice Tryd.underlying58 _ _ _ _) rfl rfl ?_
  refine lx_bin rfl rfl (fun _ => rfl) (fun _ => bin_lss_i _ _ _) rfl rfl ?_
  refine lx_nil ?_
  refine x_if rfl (fun hc => ?_) (fun hc => ?_)
  · have hi2 : i < m := by simp at hc; omega
    clear hc
    refine x_skip ?_
    refine x_seq ?_
    refine x_block ?_
    refine xs_plain (E := EE []) ?_
    refine lx_move rfl rfl rfl ?_
    refine lx_move rfl rfl rfl ?_
    obtain ⟨v, hv⟩ : ∃ v, vs[i]? = some v := ⟨_, List.getElem?_eq_getElem (by omega)⟩
    refine lx_is1 i rfl rfl Tryd.underlying58 Tryd.sizeOf22 (by omega) (by omega) rfl rfl ?_
    refine lx_load rfl Tryd.isAgg22 (fun w' h => hp_oldrange ho (fun h => h) w' h i (.slice v.1 v.2.1 v.2.2) (by rw [SVl, List.getElem?_map, hv]; rfl)) rfl rfl ?_
    refine lx_len rfl (fun _ => len_slice Tryd.underlying22 _ _ _ _) rfl rfl ?_
    refine lx_bin rfl rfl (fun _ => rfl) (fun _ => bin_gtr_i _ _ _) rfl rfl ?_
    refine lx_nil ?_
    refine x_if rfl (fun hc => ?_) (fun hc => ?_)
    · have hbig : ¬ v.2.1 ≤ 200 := by simp at hc; omega
      refine xs_plain (E := EE []) ?_
      refine lx_assign rfl rfl rfl ?_
      refine lx_nil ?_
      refine x_ret ?_
      repeat (first | refine kseq_ret ?_ | refine kblk_ret ?_)
      exact kret_tmp rfl rfl (fun w hw => ⟨by rw [decide_eq_false (fun h => hbig (h v (List.mem_of_getElem? hv)))] <;> rfl, hp_below hw⟩)
    · have hle : v.2.1 ≤ 200 := by simp at hc; omega
      clear hc
      have hall' : ∀ (j : Nat) u, j < i + 1 → vs[j]? = some u → u.2.1 ≤ 200 := fun j u hj hu => by
        rcases Nat.lt_or_ge j i with h | h
        · exact hall j u h hu
        · obtain rfl : j = i := by omega
          cases hv.symm.trans hu
          exact hle
      refine x_skip ?_
      refine x_plain (E := EE []) ?_
      refine lx_move rfl rfl rfl ?_
      refine lx_bin rfl rfl (fun _ => rfl) (fun _ => bin_add_i _ _ _ (by unfold inI; omega)) rfl rfl ?_
      refine lx_assign rfl rfl rfl ?_
      refine lx_nil ?_
      repeat (refine kblk_n ?_)
      refine kseq_n ?_
      exact ⟨rfl, ⟨i + 1, by omega, hall'⟩, _, by show m - (i + 1) < m - i; omega, rfl, ⟨rfl, rfl, trivial⟩, trivial⟩
  · obtain rfl : i = m := by simp at hc; omega
    clear hc
    refine x_exit ?_
    refine xs_plain (E := EE []) ?_
    refine lx_assign rfl rfl rfl ?_
    refine lx_nil ?_
    refine x_ret ?_
    repeat (first | refine kseq_ret ?_ | refine kblk_ret ?_)
    exact kret_tmp rfl rfl (fun w hw => ⟨by rw [decide_eq_true (fun v hv => by obtain ⟨j, hj⟩ := List.getElem?_of_mem hv; exact hall j v (by have := (List.getElem?_eq_some_iff.1 hj).1; omega) hj)] <;> rfl, hp_below hw⟩)
end Go.Proofs.YtbpifgcbkhohbaaDoor
