/-
  The walks of package fp2: sums and products.
  The walks of package fp2: signs and roots; the reference's elements.
  The walks of package fp2: powers; the reference's powers.
  What the laws of layer 5 share: the chapter's examples, and small helps.
-/
import Derived.Test.YtceogjapiphokaaDoorX9
import Derived.Test.YtceogjapiphokaaDoorX5
import Derived.Test.YtceogjapiphokaaDoorX3
namespace Go.Proofs.YtceogjapiphokaaDoor
open Go.RowKit
set_option maxRecDepth 100000
set_option maxHeartbeats 1000000
attribute [local simp] fe_len nm_len AS_len SS_len MONT_len RM_len FRs_len BYs_len by48_len PLl TWOl ONEl N1l IVPl HFPl RTPl FL_len SP_len fe2_len SP2_len FM_len

theorem ent38 : Enters Tryd.prog 38 := fun _ _ => by kernel_rfl
theorem ent33 : Enters Tryd.prog 33 := fun _ _ => by kernel_rfl
theorem ent34 : Enters Tryd.prog 34 := fun _ _ => by kernel_rfl
theorem ent16 : Enters Tryd.prog 16 := fun _ _ => by kernel_rfl
theorem ent18 : Enters Tryd.prog 18 := fun _ _ => by kernel_rfl
theorem ent20 : Enters Tryd.prog 20 := fun _ _ => by kernel_rfl
theorem ent22 : Enters Tryd.prog 22 := fun _ _ => by kernel_rfl
theorem ent24 : Enters Tryd.prog 24 := fun _ _ => by kernel_rfl
theorem ent26 : Enters Tryd.prog 26 := fun _ _ => by kernel_rfl
theorem ent31 : Enters Tryd.prog 31 := fun _ _ => by kernel_rfl
theorem ent29 : Enters Tryd.prog 29 := fun _ _ => by kernel_rfl
theorem ent27 : Enters Tryd.prog 27 := fun _ _ => by kernel_rfl
theorem ent67 : Enters Tryd.prog 67 := fun _ _ => by kernel_rfl
theorem ent39 : Enters Tryd.prog 39 := fun _ _ => by kernel_rfl
theorem ent72 : Enters Tryd.prog 72 := fun _ _ => by kernel_rfl
theorem ent73 : Enters Tryd.prog 73 := fun _ _ => by kernel_rfl
theorem ent43 : Enters Tryd.prog 43 := fun _ _ => by kernel_rfl
theorem ent41 : Enters Tryd.prog 41 := fun _ _ => by kernel_rfl
theorem ent75 : Enters Tryd.prog 75 := fun _ _ => by kernel_rfl
theorem ent77 : Enters Tryd.prog 77 := fun _ _ => by kernel_rfl
theorem ent45 : Enters Tryd.prog 45 := fun _ _ => by kernel_rfl
theorem ent44 : Enters Tryd.prog 44 := fun _ _ => by kernel_rfl
theorem ent74 : Enters Tryd.prog 74 := fun _ _ => by kernel_rfl
theorem ent35 : Enters Tryd.prog 35 := fun _ _ => by kernel_rfl
theorem ent17 : Enters Tryd.prog 17 := fun _ _ => by kernel_rfl
theorem ent19 : Enters Tryd.prog 19 := fun _ _ => by kernel_rfl
theorem ent21 : Enters Tryd.prog 21 := fun _ _ => by kernel_rfl
theorem ent23 : Enters Tryd.prog 23 := fun _ _ => by kernel_rfl
theorem ent25 : Enters Tryd.prog 25 := fun _ _ => by kernel_rfl
theorem ent69 : Enters Tryd.prog 69 := fun _ _ => by kernel_rfl
theorem ent28 : Enters Tryd.prog 28 := fun _ _ => by kernel_rfl
theorem ent30 : Enters Tryd.prog 30 := fun _ _ => by kernel_rfl
theorem ent40 : Enters Tryd.prog 40 := fun _ _ => by kernel_rfl
theorem ent47 : Enters Tryd.prog 47 := fun _ _ => by kernel_rfl
theorem ent46 : Enters Tryd.prog 46 := fun _ _ => by kernel_rfl
theorem ent42 : Enters Tryd.prog 42 := fun _ _ => by kernel_rfl
/-- An element of fp2 as a value. -/
abbrev EV2 (x : W2) : Value := .agg ((fe x.1 ++ fe x.2).map U64).toArray
theorem zf28 (w : World) : (zeroValue 28).run Tryd.prog w = .ok (.agg ((fe 0).map U64).toArray) w := by rw [fe_0]; exact (Tryd.zeroValue28 w).trans (by rfl)
theorem zv30 (w : World) : (zeroValue 30).run Tryd.prog w = .ok (.agg ((fe 0 ++ fe 0).map U64).toArray) w := by rw [fe_0]; exact (Tryd.zeroValue30 w).trans (by rfl)
theorem two30 : Two Tryd.prog 30 ⟨ "C0", 28, 0, false, "", "", 0⟩ ⟨ "C1", 28, 6, false, "", "", 48⟩ 6 6 (fe 0) (fe 0) := ⟨Tryd.underlying30, rfl, rfl, Tryd.sizeOf28, Tryd.sizeOf28, zv30, fe_len 0, fe_len 0⟩
theorem zf34 (w : World) : (zeroValue 34).run Tryd.prog w = .ok (.agg ((fe 0).map U64).toArray) w := by rw [fe_0]; exact (Tryd.zeroValue34 w).trans (by rfl)
theorem zv36 (w : World) : (zeroValue 36).run Tryd.prog w = .ok (.agg ((fe 0 ++ fe 0).map U64).toArray) w := by rw [fe_0]; exact (Tryd.zeroValue36 w).trans (by rfl)
theorem two36 : Two Tryd.prog 36 ⟨ "A", 34, 0, false, "", "", 0⟩ ⟨ "B", 34, 6, false, "", "", 48⟩ 6 6 (fe 0) (fe 0) := ⟨Tryd.underlying36, rfl, rfl, Tryd.sizeOf34, Tryd.sizeOf34, zv36, fe_len 0, fe_len 0⟩
theorem eqf36 : EqF Tryd.prog 36 12 4 :=
  have h : EqF Tryd.prog 34 6 3 := eqf_one Tryd.underlying34 rfl (by decide) (by kernel_rfl) Tryd.isAgg32 Tryd.sizeOf32 (eqf_arr Tryd.underlying32 Tryd.underlying25 Tryd.sizeOf25 Tryd.isAgg25)
  eqf_two Tryd.underlying36 rfl rfl (by decide) (by decide) (by kernel_rfl) Tryd.isAgg34 Tryd.sizeOf34 h Tryd.isAgg34 Tryd.sizeOf34 h
theorem eqg36 (op : BinOp) (x y : Operand) (xs ys : Array Value) (w : World) : (eqGuard op 36 x y (.agg xs) (.agg ys)).run Tryd.prog w = .ok () w := run_eqGuard_agg w op 36 x y xs ys (by kernel_rfl)
theorem eqv36 (xs ys : List (BitVec 64)) (h : xs.length = 12) (h' : ys.length = 12) (w : World) : (binOp .eql 36 (.agg (xs.map U64).toArray) (.agg (ys.map U64).toArray)).run Tryd.prog w = .ok (.bool (decide (xs = ys))) w := bin_eqf eqf36 (by decide) xs ys h h' w
theorem nev36 (xs ys : List (BitVec 64)) (h : xs.length = 12) (h' : ys.length = 12) (w : World) : (binOp .neq 36 (.agg (xs.map U64).toArray) (.agg (ys.map U64).toArray)).run Tryd.prog w = .ok (.bool (!decide (xs = ys))) w := bin_nef eqf36 (by decide) xs ys h h' w
theorem e2 {a b c d : Zp} (h1 : a = c) (h2 : b = d) : Ending.returned (.agg ((fe a ++ fe b).map U64).toArray) = .returned (.agg ((fe c ++ fe d).map U64).toArray) := by rw [h1, h2]
theorem rb {a b : Bool} (h : a = b) : Ending.returned (.bool a) = .returned (.bool b) := by rw [h]
theorem ri {a b : Int} (h : a = b) : Ending.returned (I a) = .returned (I b) := by rw [h]
theorem e2one  : Pure Tryd.prog Gt 38 [] (EV2 on2) := by
  intro w hw
  have hGF : BOk Gt (pl w) := gt_low.plain hw
  refine calls_of_X (G := Gt) Tryd.func38 rfl rfl (Hp (pl w) []) (hp_refl (pl w) trivial rides_true) (good_hp hGF) ?_
  refine xs_plain (E := EE []) ?_
  refine lx_allocr 0 hGF zv30 rfl rfl ?_
  intro b0
  refine lx_nil ?_
  refine xs_plain (E := EE []) ?_
  refine lx_call rfl rfl ent53 (fof1_pure) rfl rfl ?_
  refine lx_twoA two30 rfl (by simp) rfl rfl ?_
  refine lx_storea 0 hGF rfl rfl rfl Tryd.sizeOf30 (by simp) (by simp) (one_u64 _) rfl ?_
  refine lx_nil ?_
  refine x_ret ?_
  repeat (first | refine kseq_ret ?_ | refine kblk_ret ?_)
  exact kret_own 0 rfl rfl rfl Tryd.isAgg30 Tryd.sizeOf30 (by simp) (fun w hw => ⟨rfl, hp_below hw⟩)
theorem e2equal (x y : W2) : Pure Tryd.prog Gt 33 [EV2 x, EV2 y] (.bool (decide (x = y))) := by
  intro w hw
  have hGF : BOk Gt (pl w) := gt_low.plain hw
  by_cases h : x.1 = y.1
  · skip
    refine calls_of_X (G := Gt) Tryd.func33 rfl rfl (Hp (pl w) []) (hp_refl (pl w) trivial rides_true) (good_hp hGF) ?_
    refine xs_plain (E := EE []) ?_
    refine lx_boxr 2 hGF rfl rfl rfl ?_
    intro b2
    refine lx_boxr 3 hGF rfl rfl rfl ?_
    intro b3
    refine lx_assign rfl rfl rfl ?_
    refine lx_nil ?_
    refine xs_plain (E := EE []) ?_
    refine lx_fak 0 rfl Tryd.underlying30 rfl Tryd.sizeOf28 (by decide) rfl rfl rfl ?_
    refine lx_loado 2 _ rfl rfl Tryd.isAgg28 Tryd.sizeOf28 (by simp) ld_l rfl rfl ?_
    refine lx_fak 0 rfl Tryd.underlying30 rfl Tryd.sizeOf28 (by decide) rfl rfl rfl ?_
    refine lx_loado 3 _ rfl rfl Tryd.isAgg28 Tryd.sizeOf28 (by simp) ld_l rfl rfl ?_
    refine lx_callB true rfl rfl ent49 (fequal_pure _ _) (decide_eq_true h) rfl rfl ?_
    refine lx_move rfl rfl rfl ?_
    refine lx_fak 6 rfl Tryd.underlying30 rfl Tryd.sizeOf28 (by decide) rfl rfl rfl ?_
    refine lx_loado 2 _ rfl rfl Tryd.isAgg28 Tryd.sizeOf28 (by simp) (ld_r (by simp)) rfl rfl ?_
    refine lx_fak 6 rfl Tryd.underlying30 rfl Tryd.sizeOf28 (by decide) rfl rfl rfl ?_
    refine lx_loado 3 _ rfl rfl Tryd.isAgg28 Tryd.sizeOf28 (by simp) (ld_r (by simp)) rfl rfl ?_
    refine lx_call rfl rfl ent49 (fequal_pure _ _) rfl rfl ?_
    refine lx_pick rfl rfl rfl rfl rfl ?_
    refine lx_assign rfl rfl rfl ?_
    refine lx_nil ?_
    refine x_ret ?_
    repeat (first | refine kseq_ret ?_ | refine kblk_ret ?_)
    exact kret_tmp rfl rfl (fun w hw => ⟨rb (dec2_t h), hp_below hw⟩)
  · skip
    refine calls_of_X (G := Gt) Tryd.func33 rfl rfl (Hp (pl w) []) (hp_refl (pl w) trivial rides_true) (good_hp hGF) ?_
    refine xs_plain (E := EE []) ?_
    refine lx_boxr 2 hGF rfl rfl rfl ?_
    intro b2
    refine lx_boxr 3 hGF rfl rfl rfl ?_
    intro b3
    refine lx_assign rfl rfl rfl ?_
    refine lx_nil ?_
    refine xs_plain (E := EE []) ?_
    refine lx_fak 0 rfl Tryd.underlying30 rfl Tryd.sizeOf28 (by decide) rfl rfl rfl ?_
    refine lx_loado 2 _ rfl rfl Tryd.isAgg28 Tryd.sizeOf28 (by simp) ld_l rfl rfl ?_
    refine lx_fak 0 rfl Tryd.underlying30 rfl Tryd.sizeOf28 (by decide) rfl rfl rfl ?_
    refine lx_loado 3 _ rfl rfl Tryd.isAgg28 Tryd.sizeOf28 (by simp) ld_l rfl rfl ?_
    refine lx_callB false rfl rfl ent49 (fequal_pure _ _) (decide_eq_false h) rfl rfl ?_
    refine lx_move rfl rfl rfl ?_
    refine lx_skip rfl rfl rfl ?_
    refine lx_skip rfl rfl rfl ?_
    refine lx_skip rfl rfl rfl ?_
    refine lx_skip rfl rfl rfl ?_
    refine lx_skip rfl rfl rfl ?_
    refine lx_pick rfl rfl rfl rfl rfl ?_
    refine lx_assign rfl rfl rfl ?_
    refine lx_nil ?_
    refine x_ret ?_
    repeat (first | refine kseq_ret ?_ | refine kblk_ret ?_)
    exact kret_tmp rfl rfl (fun w hw => ⟨rb (dec2_f h), hp_below hw⟩)
theorem e2isZero (x : W2) : Pure Tryd.prog Gt 34 [EV2 x] (.bool (decide (x = ze2))) := by
  intro w hw
  have hGF : BOk Gt (pl w) := gt_low.plain hw
  by_cases h : x.1 = 0
  · skip
    refine calls_of_X (G := Gt) Tryd.func34 rfl rfl (Hp (pl w) []) (hp_refl (pl w) trivial rides_true) (good_hp hGF) ?_
    refine xs_plain (E := EE []) ?_
    refine lx_boxr 1 hGF rfl rfl rfl ?_
    intro b1
    refine lx_assign rfl rfl rfl ?_
    refine lx_nil ?_
    refine xs_plain (E := EE []) ?_
    refine lx_fak 0 rfl Tryd.underlying30 rfl Tryd.sizeOf28 (by decide) rfl rfl rfl ?_
    refine lx_loado 1 _ rfl rfl Tryd.isAgg28 Tryd.sizeOf28 (by simp) ld_l rfl rfl ?_
    refine lx_callB true rfl rfl ent48 (fisZero_pure _) (decide_eq_true h) rfl rfl ?_
    refine lx_move rfl rfl rfl ?_
    refine lx_fak 6 rfl Tryd.underlying30 rfl Tryd.sizeOf28 (by decide) rfl rfl rfl ?_
    refine lx_loado 1 _ rfl rfl Tryd.isAgg28 Tryd.sizeOf28 (by simp) (ld_r (by simp)) rfl rfl ?_
    refine lx_call rfl rfl ent48 (fisZero_pure _) rfl rfl ?_
    refine lx_pick rfl rfl rfl rfl rfl ?_
    refine lx_assign rfl rfl rfl ?_
    refine lx_nil ?_
    refine x_ret ?_
    repeat (first | refine kseq_ret ?_ | refine kblk_ret ?_)
    exact kret_tmp rfl rfl (fun w hw => ⟨rb (dec2_t (y := ze2) h), hp_below hw⟩)
  · skip
    refine calls_of_X (G := Gt) Tryd.func34 rfl rfl (Hp (pl w) []) (hp_refl (pl w) trivial rides_true) (good_hp hGF) ?_
    refine xs_plain (E := EE []) ?_
    refine lx_boxr 1 hGF rfl rfl rfl ?_
    intro b1
    refine lx_assign rfl rfl rfl ?_
    refine lx_nil ?_
    refine xs_plain (E := EE []) ?_
    refine lx_fak 0 rfl Tryd.underlying30 rfl Tryd.sizeOf28 (by decide) rfl rfl rfl ?_
    refine lx_loado 1 _ rfl rfl Tryd.isAgg28 Tryd.sizeOf28 (by simp) ld_l rfl rfl ?_
    refine lx_callB false rfl rfl ent48 (fisZero_pure _) (decide_eq_false h) rfl rfl ?_
    refine lx_move rfl rfl rfl ?_
    refine lx_skip rfl rfl rfl ?_
    refine lx_skip rfl rfl rfl ?_
    refine lx_skip rfl rfl rfl ?_
    refine lx_pick rfl rfl rfl rfl rfl ?_
    refine lx_assign rfl rfl rfl ?_
    refine lx_nil ?_
    refine x_ret ?_
    repeat (first | refine kseq_ret ?_ | refine kblk_ret ?_)
    exact kret_tmp rfl rfl (fun w hw => ⟨rb (dec2_f (y := ze2) h), hp_below hw⟩)
theorem e2add (x y : W2) : Pure Tryd.prog Gt 16 [EV2 x, EV2 y] (EV2 (ad2 x y)) := by
  intro w hw
  have hGF : BOk Gt (pl w) := gt_low.plain hw
  refine calls_of_X (G := Gt) Tryd.func16 rfl rfl (Hp (pl w) []) (hp_refl (pl w) trivial rides_true) (good_hp hGF) ?_
  refine xs_plain (E := EE []) ?_
  refine lx_boxr 2 hGF rfl rfl rfl ?_
  intro b2
  refine lx_boxr 3 hGF rfl rfl rfl ?_
  intro b3
  refine lx_allocr 4 hGF zv30 rfl rfl ?_
  intro b4
  refine lx_nil ?_
  refine xs_drawn (E := EE []) mixed (by kernel_rfl) (by kernel_rfl) (by kernel_rfl) ?_
  refine lx_fak 0 rfl Tryd.underlying30 rfl Tryd.sizeOf28 (by decide) rfl rfl rfl ?_
  refine lx_loado 2 _ rfl rfl Tryd.isAgg28 Tryd.sizeOf28 (by simp) ld_l rfl rfl ?_
  refine lx_fak 0 rfl Tryd.underlying30 rfl Tryd.sizeOf28 (by decide) rfl rfl rfl ?_
  refine lx_loado 3 _ rfl rfl Tryd.isAgg28 Tryd.sizeOf28 (by simp) ld_l rfl rfl ?_
  refine lx_call rfl rfl ent51 (fadd_pure _ _) rfl rfl ?_
  refine lx_fak 6 rfl Tryd.underlying30 rfl Tryd.sizeOf28 (by decide) rfl rfl rfl ?_
  refine lx_loado 2 _ rfl rfl Tryd.isAgg28 Tryd.sizeOf28 (by simp) (ld_r (by simp)) rfl rfl ?_
  refine lx_fak 6 rfl Tryd.underlying30 rfl Tryd.sizeOf28 (by decide) rfl rfl rfl ?_
  refine lx_loado 3 _ rfl rfl Tryd.isAgg28 Tryd.sizeOf28 (by simp) (ld_r (by simp)) rfl rfl ?_
  refine lx_call rfl rfl ent51 (fadd_pure _ _) rfl rfl ?_
  refine lx_two two30 rfl rfl (by simp) (by simp) rfl rfl ?_
  refine lx_storea 4 hGF rfl rfl rfl Tryd.sizeOf30 (by simp) (by simp) (one_u64 _) rfl ?_
  refine lx_nil ?_
  refine x_ret ?_
  repeat (first | refine kseq_ret ?_ | refine kblk_ret ?_)
  exact kret_own 4 rfl rfl rfl Tryd.isAgg30 Tryd.sizeOf30 (by simp) (fun w hw => ⟨rfl, hp_below hw⟩)
theorem e2sub (x y : W2) : Pure Tryd.prog Gt 18 [EV2 x, EV2 y] (EV2 (sb2 x y)) := by
  intro w hw
  have hGF : BOk Gt (pl w) := gt_low.plain hw
  refine calls_of_X (G := Gt) Tryd.func18 rfl rfl (Hp (pl w) []) (hp_refl (pl w) trivial rides_true) (good_hp hGF) ?_
  refine xs_plain (E := EE []) ?_
  refine lx_boxr 2 hGF rfl rfl rfl ?_
  intro b2
  refine lx_boxr 3 hGF rfl rfl rfl ?_
  intro b3
  refine lx_allocr 4 hGF zv30 rfl rfl ?_
  intro b4
  refine lx_nil ?_
  refine xs_drawn (E := EE []) mixed (by kernel_rfl) (by kernel_rfl) (by kernel_rfl) ?_
  refine lx_fak 0 rfl Tryd.underlying30 rfl Tryd.sizeOf28 (by decide) rfl rfl rfl ?_
  refine lx_loado 2 _ rfl rfl Tryd.isAgg28 Tryd.sizeOf28 (by simp) ld_l rfl rfl ?_
  refine lx_fak 0 rfl Tryd.underlying30 rfl Tryd.sizeOf28 (by decide) rfl rfl rfl ?_
  refine lx_loado 3 _ rfl rfl Tryd.isAgg28 Tryd.sizeOf28 (by simp) ld_l rfl rfl ?_
  refine lx_call rfl rfl ent62 (fsub_pure _ _) rfl rfl ?_
  refine lx_fak 6 rfl Tryd.underlying30 rfl Tryd.sizeOf28 (by decide) rfl rfl rfl ?_
  refine lx_loado 2 _ rfl rfl Tryd.isAgg28 Tryd.sizeOf28 (by simp) (ld_r (by simp)) rfl rfl ?_
  refine lx_fak 6 rfl Tryd.underlying30 rfl Tryd.sizeOf28 (by decide) rfl rfl rfl ?_
  refine lx_loado 3 _ rfl rfl Tryd.isAgg28 Tryd.sizeOf28 (by simp) (ld_r (by simp)) rfl rfl ?_
  refine lx_call rfl rfl ent62 (fsub_pure _ _) rfl rfl ?_
  refine lx_two two30 rfl rfl (by simp) (by simp) rfl rfl ?_
  refine lx_storea 4 hGF rfl rfl rfl Tryd.sizeOf30 (by simp) (by simp) (one_u64 _) rfl ?_
  refine lx_nil ?_
  refine x_ret ?_
  repeat (first | refine kseq_ret ?_ | refine kblk_ret ?_)
  exact kret_own 4 rfl rfl rfl Tryd.isAgg30 Tryd.sizeOf30 (by simp) (fun w hw => ⟨rfl, hp_below hw⟩)
theorem e2neg (x : W2) : Pure Tryd.prog Gt 20 [EV2 x] (EV2 (ng2 x)) := by
  intro w hw
  have hGF : BOk Gt (pl w) := gt_low.plain hw
  refine calls_of_X (G := Gt) Tryd.func20 rfl rfl (Hp (pl w) []) (hp_refl (pl w) trivial rides_true) (good_hp hGF) ?_
  refine xs_plain (E := EE []) ?_
  refine lx_boxr 1 hGF rfl rfl rfl ?_
  intro b1
  refine lx_allocr 2 hGF zv30 rfl rfl ?_
  intro b2
  refine lx_nil ?_
  refine xs_drawn (E := EE []) mixed (by kernel_rfl) (by kernel_rfl) (by kernel_rfl) ?_
  refine lx_fak 0 rfl Tryd.underlying30 rfl Tryd.sizeOf28 (by decide) rfl rfl rfl ?_
  refine lx_loado 1 _ rfl rfl Tryd.isAgg28 Tryd.sizeOf28 (by simp) ld_l rfl rfl ?_
  refine lx_call rfl rfl ent64 (fneg_pure _) rfl rfl ?_
  refine lx_fak 6 rfl Tryd.underlying30 rfl Tryd.sizeOf28 (by decide) rfl rfl rfl ?_
  refine lx_loado 1 _ rfl rfl Tryd.isAgg28 Tryd.sizeOf28 (by simp) (ld_r (by simp)) rfl rfl ?_
  refine lx_call rfl rfl ent64 (fneg_pure _) rfl rfl ?_
  refine lx_two two30 rfl rfl (by simp) (by simp) rfl rfl ?_
  refine lx_storea 2 hGF rfl rfl rfl Tryd.sizeOf30 (by simp) (by simp) (one_u64 _) rfl ?_
  refine lx_nil ?_
  refine x_ret ?_
  repeat (first | refine kseq_ret ?_ | refine kblk_ret ?_)
  exact kret_own 2 rfl rfl rfl Tryd.isAgg30 Tryd.sizeOf30 (by simp) (fun w hw => ⟨rfl, hp_below hw⟩)
theorem e2conj (x : W2) : Pure Tryd.prog Gt 22 [EV2 x] (EV2 (cj2 x)) := by
  intro w hw
  have hGF : BOk Gt (pl w) := gt_low.plain hw
  refine calls_of_X (G := Gt) Tryd.func22 rfl rfl (Hp (pl w) []) (hp_refl (pl w) trivial rides_true) (good_hp hGF) ?_
  refine xs_plain (E := EE []) ?_
  refine lx_boxr 1 hGF rfl rfl rfl ?_
  intro b1
  refine lx_allocr 2 hGF zv30 rfl rfl ?_
  intro b2
  refine lx_nil ?_
  refine xs_drawn (E := EE []) mixed (by kernel_rfl) (by kernel_rfl) (by kernel_rfl) ?_
  refine lx_fak 0 rfl Tryd.underlying30 rfl Tryd.sizeOf28 (by decide) rfl rfl rfl ?_
  refine lx_loado 1 _ rfl rfl Tryd.isAgg28 Tryd.sizeOf28 (by simp) ld_l rfl rfl ?_
  refine lx_fak 6 rfl Tryd.underlying30 rfl Tryd.sizeOf28 (by decide) rfl rfl rfl ?_
  refine lx_loado 1 _ rfl rfl Tryd.isAgg28 Tryd.sizeOf28 (by simp) (ld_r (by simp)) rfl rfl ?_
  refine lx_call rfl rfl ent64 (fneg_pure _) rfl rfl ?_
  refine lx_two two30 rfl rfl (by simp) (by simp) rfl rfl ?_
  refine lx_storea 2 hGF rfl rfl rfl Tryd.sizeOf30 (by simp) (by simp) (one_u64 _) rfl ?_
  refine lx_nil ?_
  refine x_ret ?_
  repeat (first | refine kseq_ret ?_ | refine kblk_ret ?_)
  exact kret_own 2 rfl rfl rfl Tryd.isAgg30 Tryd.sizeOf30 (by simp) (fun w hw => ⟨rfl, hp_below hw⟩)
theorem e2mul (x y : W2) : Pure Tryd.prog Gt 24 [EV2 x, EV2 y] (EV2 (ml2 x y)) := by
  intro w hw
  have hGF : BOk Gt (pl w) := gt_low.plain hw
  refine calls_of_X (G := Gt) Tryd.func24 rfl rfl (Hp (pl w) []) (hp_refl (pl w) trivial rides_true) (good_hp hGF) ?_
  refine xs_plain (E := EE []) ?_
  refine lx_boxr 2 hGF rfl rfl rfl ?_
  intro b2
  refine lx_boxr 3 hGF rfl rfl rfl ?_
  intro b3
  refine lx_allocr 4 hGF zv30 rfl rfl ?_
  intro b4
  refine lx_nil ?_
  refine xs_drawA (E := EE [2999999]) [0, 1, 2, 3, 4, 5, 6, 7, 8, 9] [⟨10, 5, 28, (List.replicate 6 0#64).map U64⟩, ⟨11, 6, 28, (List.replicate 6 0#64).map U64⟩] [12, 13] mixed rfl (by kernel_rfl) (by kernel_rfl) (by kernel_rfl) (by kernel_rfl) (by kernel_rfl) (by kernel_rfl) (by decide) (by intro x hx; simp only [List.mem_cons, List.not_mem_nil, or_false] at hx; rcases hx with rfl | rfl <;> exact isAlloc_mk rfl zv28 rfl) ?_
  refine lx_fak 0 rfl Tryd.underlying30 rfl Tryd.sizeOf28 (by decide) rfl rfl rfl ?_
  refine lx_loado 2 _ rfl rfl Tryd.isAgg28 Tryd.sizeOf28 (by simp) ld_l rfl rfl ?_
  refine lx_fak 0 rfl Tryd.underlying30 rfl Tryd.sizeOf28 (by decide) rfl rfl rfl ?_
  refine lx_loado 3 _ rfl rfl Tryd.isAgg28 Tryd.sizeOf28 (by simp) ld_l rfl rfl ?_
  refine lx_call rfl rfl ent56 (fmul_pure _ _) rfl rfl ?_
  refine lx_fak 6 rfl Tryd.underlying30 rfl Tryd.sizeOf28 (by decide) rfl rfl rfl ?_
  refine lx_loado 2 _ rfl rfl Tryd.isAgg28 Tryd.sizeOf28 (by simp) (ld_r (by simp)) rfl rfl ?_
  refine lx_fak 6 rfl Tryd.underlying30 rfl Tryd.sizeOf28 (by decide) rfl rfl rfl ?_
  refine lx_loado 3 _ rfl rfl Tryd.isAgg28 Tryd.sizeOf28 (by simp) (ld_r (by simp)) rfl rfl ?_
  refine lx_call rfl rfl ent56 (fmul_pure _ _) rfl rfl ?_
  refine lx_nil ?_
  refine ⟨_, _, rfl, hGF, by intro x hx; simp only [List.mem_cons, List.not_mem_nil, or_false] at hx; rcases hx with rfl | rfl <;> rfl, by intro x hx; simp only [List.mem_cons, List.not_mem_nil, or_false] at hx; rcases hx with rfl | rfl <;> rfl, fun adr => ?_⟩
  refine lx_storea 5 hGF rfl rfl rfl Tryd.sizeOf28 (by simp) (by simp) (one_u64 _) rfl ?_
  refine lx_storea 6 hGF rfl rfl rfl Tryd.sizeOf28 (by simp) (by simp) (one_u64 _) rfl ?_
  refine lx_nil ?_
  refine xs_drawA (E := EE [2999999]) [0, 1, 2, 3, 4, 5, 6, 7, 8, 9, 10] [⟨11, 7, 28, (List.replicate 6 0#64).map U64⟩] [12] mixed rfl (by kernel_rfl) (by kernel_rfl) (by kernel_rfl) (by kernel_rfl) (by kernel_rfl) (by kernel_rfl) (by decide) (by intro x hx; simp only [List.mem_cons, List.not_mem_nil, or_false] at hx; subst hx; exact isAlloc_mk rfl zv28 rfl) ?_
  refine lx_fak 0 rfl Tryd.underlying30 rfl Tryd.sizeOf28 (by decide) rfl rfl rfl ?_
  refine lx_loado 2 _ rfl rfl Tryd.isAgg28 Tryd.sizeOf28 (by simp) ld_l rfl rfl ?_
  refine lx_fak 6 rfl Tryd.underlying30 rfl Tryd.sizeOf28 (by decide) rfl rfl rfl ?_
  refine lx_loado 2 _ rfl rfl Tryd.isAgg28 Tryd.sizeOf28 (by simp) (ld_r (by simp)) rfl rfl ?_
  refine lx_call rfl rfl ent51 (fadd_pure _ _) rfl rfl ?_
  refine lx_fak 0 rfl Tryd.underlying30 rfl Tryd.sizeOf28 (by decide) rfl rfl rfl ?_
  refine lx_loado 3 _ rfl rfl Tryd.isAgg28 Tryd.sizeOf28 (by simp) ld_l rfl rfl ?_
  refine lx_fak 6 rfl Tryd.underlying30 rfl Tryd.sizeOf28 (by decide) rfl rfl rfl ?_
  refine lx_loado 3 _ rfl rfl Tryd.isAgg28 Tryd.sizeOf28 (by simp) (ld_r (by simp)) rfl rfl ?_
  refine lx_call rfl rfl ent51 (fadd_pure _ _) rfl rfl ?_
  refine lx_call rfl rfl ent56 (fmul_pure _ _) rfl rfl ?_
  refine lx_nil ?_
  refine ⟨_, _, rfl, hGF, by intro x hx; simp only [List.mem_cons, List.not_mem_nil, or_false] at hx; subst hx; rfl, by intro x hx; simp only [List.mem_cons, List.not_mem_nil, or_false] at hx; subst hx; rfl, fun adr => ?_⟩
  refine lx_storea 7 hGF rfl rfl rfl Tryd.sizeOf28 (by simp) (by simp) (one_u64 _) rfl ?_
  refine lx_nil ?_
  refine xs_drawn (E := EE []) mixed (by kernel_rfl) (by kernel_rfl) (by kernel_rfl) ?_
  refine lx_loada 5 rfl rfl Tryd.isAgg28 Tryd.sizeOf28 (by simp) rfl rfl ?_
  refine lx_loada 6 rfl rfl Tryd.isAgg28 Tryd.sizeOf28 (by simp) rfl rfl ?_
  refine lx_call rfl rfl ent62 (fsub_pure _ _) rfl rfl ?_
  refine lx_loada 7 rfl rfl Tryd.isAgg28 Tryd.sizeOf28 (by simp) rfl rfl ?_
  refine lx_loada 5 rfl rfl Tryd.isAgg28 Tryd.sizeOf28 (by simp) rfl rfl ?_
  refine lx_call rfl rfl ent62 (fsub_pure _ _) rfl rfl ?_
  refine lx_loada 6 rfl rfl Tryd.isAgg28 Tryd.sizeOf28 (by simp) rfl rfl ?_
  refine lx_call rfl rfl ent62 (fsub_pure _ _) rfl rfl ?_
  refine lx_two two30 rfl rfl (by simp) (by simp) rfl rfl ?_
  refine lx_storea 4 hGF rfl rfl rfl Tryd.sizeOf30 (by simp) (by simp) (one_u64 _) rfl ?_
  refine lx_nil ?_
  refine x_ret ?_
  repeat (first | refine kseq_ret ?_ | refine kblk_ret ?_)
  exact kret_own 4 rfl rfl rfl Tryd.isAgg30 Tryd.sizeOf30 (by simp) (fun w hw => ⟨e2 (by first | (simp only [ml2]; done) | (simp only [ml2]; grind)) (by first | (simp only [ml2]; done) | (simp only [ml2]; grind)), hp_below hw⟩)
theorem e2square (x : W2) : Pure Tryd.prog Gt 26 [EV2 x] (EV2 (ml2 x x)) := by
  intro w hw
  have hGF : BOk Gt (pl w) := gt_low.plain hw
  refine calls_of_X (G := Gt) Tryd.func26 rfl rfl (Hp (pl w) []) (hp_refl (pl w) trivial rides_true) (good_hp hGF) ?_
  refine xs_plain (E := EE []) ?_
  refine lx_boxr 1 hGF rfl rfl rfl ?_
  intro b1
  refine lx_allocr 2 hGF zv30 rfl rfl ?_
  intro b2
  refine lx_nil ?_
  refine xs_plain (E := EE []) ?_
  refine lx_fak 0 rfl Tryd.underlying30 rfl Tryd.sizeOf28 (by decide) rfl rfl rfl ?_
  refine lx_loado 1 _ rfl rfl Tryd.isAgg28 Tryd.sizeOf28 (by simp) ld_l rfl rfl ?_
  refine lx_fak 6 rfl Tryd.underlying30 rfl Tryd.sizeOf28 (by decide) rfl rfl rfl ?_
  refine lx_loado 1 _ rfl rfl Tryd.isAgg28 Tryd.sizeOf28 (by simp) (ld_r (by simp)) rfl rfl ?_
  refine lx_call rfl rfl ent56 (fmul_pure _ _) rfl rfl ?_
  refine lx_allocr 3 hGF zv28 rfl rfl ?_
  intro b3
  refine lx_storea 3 hGF rfl rfl rfl Tryd.sizeOf28 (by simp) (by simp) (one_u64 _) rfl ?_
  refine lx_nil ?_
  refine xs_drawn (E := EE []) mixed (by kernel_rfl) (by kernel_rfl) (by kernel_rfl) ?_
  refine lx_fak 0 rfl Tryd.underlying30 rfl Tryd.sizeOf28 (by decide) rfl rfl rfl ?_
  refine lx_loado 1 _ rfl rfl Tryd.isAgg28 Tryd.sizeOf28 (by simp) ld_l rfl rfl ?_
  refine lx_fak 6 rfl Tryd.underlying30 rfl Tryd.sizeOf28 (by decide) rfl rfl rfl ?_
  refine lx_loado 1 _ rfl rfl Tryd.isAgg28 Tryd.sizeOf28 (by simp) (ld_r (by simp)) rfl rfl ?_
  refine lx_call rfl rfl ent51 (fadd_pure _ _) rfl rfl ?_
  refine lx_fak 0 rfl Tryd.underlying30 rfl Tryd.sizeOf28 (by decide) rfl rfl rfl ?_
  refine lx_loado 1 _ rfl rfl Tryd.isAgg28 Tryd.sizeOf28 (by simp) ld_l rfl rfl ?_
  refine lx_fak 6 rfl Tryd.underlying30 rfl Tryd.sizeOf28 (by decide) rfl rfl rfl ?_
  refine lx_loado 1 _ rfl rfl Tryd.isAgg28 Tryd.sizeOf28 (by simp) (ld_r (by simp)) rfl rfl ?_
  refine lx_call rfl rfl ent62 (fsub_pure _ _) rfl rfl ?_
  refine lx_call rfl rfl ent56 (fmul_pure _ _) rfl rfl ?_
  refine lx_loada 3 rfl rfl Tryd.isAgg28 Tryd.sizeOf28 (by simp) rfl rfl ?_
  refine lx_loada 3 rfl rfl Tryd.isAgg28 Tryd.sizeOf28 (by simp) rfl rfl ?_
  refine lx_call rfl rfl ent51 (fadd_pure _ _) rfl rfl ?_
  refine lx_two two30 rfl rfl (by simp) (by simp) rfl rfl ?_
  refine lx_storea 2 hGF rfl rfl rfl Tryd.sizeOf30 (by simp) (by simp) (one_u64 _) rfl ?_
  refine lx_nil ?_
  refine x_ret ?_
  repeat (first | refine kseq_ret ?_ | refine kblk_ret ?_)
  exact kret_own 2 rfl rfl rfl Tryd.isAgg30 Tryd.sizeOf30 (by simp) (fun w hw => ⟨e2 (by first | (simp only [ml2]; done) | (simp only [ml2]; grind)) (by first | (simp only [ml2]; done) | (simp only [ml2]; grind)), hp_below hw⟩)
theorem e2scale (x : W2) (c : Zp) : Pure Tryd.prog Gt 31 [EV2 x, EV c] (EV2 (sc2 x c)) := by
  intro w hw
  have hGF : BOk Gt (pl w) := gt_low.plain hw
  refine calls_of_X (G := Gt) Tryd.func31 rfl rfl (Hp (pl w) []) (hp_refl (pl w) trivial rides_true) (good_hp hGF) ?_
  refine xs_plain (E := EE []) ?_
  refine lx_boxr 2 hGF rfl rfl rfl ?_
  intro b2
  refine lx_boxr 3 hGF rfl rfl rfl ?_
  intro b3
  refine lx_allocr 4 hGF zv30 rfl rfl ?_
  intro b4
  refine lx_nil ?_
  refine xs_drawn (E := EE []) mixed (by kernel_rfl) (by kernel_rfl) (by kernel_rfl) ?_
  refine lx_fak 0 rfl Tryd.underlying30 rfl Tryd.sizeOf28 (by decide) rfl rfl rfl ?_
  refine lx_loado 2 _ rfl rfl Tryd.isAgg28 Tryd.sizeOf28 (by simp) ld_l rfl rfl ?_
  refine lx_loada 3 rfl rfl Tryd.isAgg28 Tryd.sizeOf28 (by simp) rfl rfl ?_
  refine lx_call rfl rfl ent56 (fmul_pure _ _) rfl rfl ?_
  refine lx_fak 6 rfl Tryd.underlying30 rfl Tryd.sizeOf28 (by decide) rfl rfl rfl ?_
  refine lx_loado 2 _ rfl rfl Tryd.isAgg28 Tryd.sizeOf28 (by simp) (ld_r (by simp)) rfl rfl ?_
  refine lx_loada 3 rfl rfl Tryd.isAgg28 Tryd.sizeOf28 (by simp) rfl rfl ?_
  refine lx_call rfl rfl ent56 (fmul_pure _ _) rfl rfl ?_
  refine lx_two two30 rfl rfl (by simp) (by simp) rfl rfl ?_
  refine lx_storea 4 hGF rfl rfl rfl Tryd.sizeOf30 (by simp) (by simp) (one_u64 _) rfl ?_
  refine lx_nil ?_
  refine x_ret ?_
  repeat (first | refine kseq_ret ?_ | refine kblk_ret ?_)
  exact kret_own 4 rfl rfl rfl Tryd.isAgg30 Tryd.sizeOf30 (by simp) (fun w hw => ⟨rfl, hp_below hw⟩)
theorem e2xi (x : W2) : Pure Tryd.prog Gt 29 [EV2 x] (EV2 (xi2 x)) := by
  intro w hw
  have hGF : BOk Gt (pl w) := gt_low.plain hw
  refine calls_of_X (G := Gt) Tryd.func29 rfl rfl (Hp (pl w) []) (hp_refl (pl w) trivial rides_true) (good_hp hGF) ?_
  refine xs_plain (E := EE []) ?_
  refine lx_boxr 1 hGF rfl rfl rfl ?_
  intro b1
  refine lx_allocr 2 hGF zv30 rfl rfl ?_
  intro b2
  refine lx_nil ?_
  refine xs_drawn (E := EE []) mixed (by kernel_rfl) (by kernel_rfl) (by kernel_rfl) ?_
  refine lx_fak 0 rfl Tryd.underlying30 rfl Tryd.sizeOf28 (by decide) rfl rfl rfl ?_
  refine lx_loado 1 _ rfl rfl Tryd.isAgg28 Tryd.sizeOf28 (by simp) ld_l rfl rfl ?_
  refine lx_fak 6 rfl Tryd.underlying30 rfl Tryd.sizeOf28 (by decide) rfl rfl rfl ?_
  refine lx_loado 1 _ rfl rfl Tryd.isAgg28 Tryd.sizeOf28 (by simp) (ld_r (by simp)) rfl rfl ?_
  refine lx_call rfl rfl ent62 (fsub_pure _ _) rfl rfl ?_
  refine lx_fak 0 rfl Tryd.underlying30 rfl Tryd.sizeOf28 (by decide) rfl rfl rfl ?_
  refine lx_loado 1 _ rfl rfl Tryd.isAgg28 Tryd.sizeOf28 (by simp) ld_l rfl rfl ?_
  refine lx_fak 6 rfl Tryd.underlying30 rfl Tryd.sizeOf28 (by decide) rfl rfl rfl ?_
  refine lx_loado 1 _ rfl rfl Tryd.isAgg28 Tryd.sizeOf28 (by simp) (ld_r (by simp)) rfl rfl ?_
  refine lx_call rfl rfl ent51 (fadd_pure _ _) rfl rfl ?_
  refine lx_two two30 rfl rfl (by simp) (by simp) rfl rfl ?_
  refine lx_storea 2 hGF rfl rfl rfl Tryd.sizeOf30 (by simp) (by simp) (one_u64 _) rfl ?_
  refine lx_nil ?_
  refine x_ret ?_
  repeat (first | refine kseq_ret ?_ | refine kblk_ret ?_)
  exact kret_own 2 rfl rfl rfl Tryd.isAgg30 Tryd.sizeOf30 (by simp) (fun w hw => ⟨rfl, hp_below hw⟩)
theorem e2norm (x : W2) : Pure Tryd.prog Gt 67 [EV2 x] (EV (nm2 x)) := by
  intro w hw
  have hGF : BOk Gt (pl w) := gt_low.plain hw
  refine calls_of_X (G := Gt) Tryd.func67 rfl rfl (Hp (pl w) []) (hp_refl (pl w) trivial rides_true) (good_hp hGF) ?_
  refine xs_plain (E := EE []) ?_
  refine lx_boxr 1 hGF rfl rfl rfl ?_
  intro b1
  refine lx_allocr 2 hGF zv28 rfl rfl ?_
  intro b2
  refine lx_nil ?_
  refine xs_drawn (E := EE []) mixed (by kernel_rfl) (by kernel_rfl) (by kernel_rfl) ?_
  refine lx_fak 0 rfl Tryd.underlying30 rfl Tryd.sizeOf28 (by decide) rfl rfl rfl ?_
  refine lx_loado 1 _ rfl rfl Tryd.isAgg28 Tryd.sizeOf28 (by simp) ld_l rfl rfl ?_
  refine lx_call rfl rfl ent50 (fsquare_pure _) rfl rfl ?_
  refine lx_fak 6 rfl Tryd.underlying30 rfl Tryd.sizeOf28 (by decide) rfl rfl rfl ?_
  refine lx_loado 1 _ rfl rfl Tryd.isAgg28 Tryd.sizeOf28 (by simp) (ld_r (by simp)) rfl rfl ?_
  refine lx_call rfl rfl ent50 (fsquare_pure _) rfl rfl ?_
  refine lx_call rfl rfl ent51 (fadd_pure _ _) rfl rfl ?_
  refine lx_storea 2 hGF rfl rfl rfl Tryd.sizeOf28 (by simp) (by simp) (one_u64 _) rfl ?_
  refine lx_nil ?_
  refine x_ret ?_
  repeat (first | refine kseq_ret ?_ | refine kblk_ret ?_)
  exact kret_own 2 rfl rfl rfl Tryd.isAgg28 Tryd.sizeOf28 (by simp) (fun w hw => ⟨rfl, hp_below hw⟩)
theorem e2inv (x : W2) : Pure Tryd.prog Gt 27 [EV2 x] (EV2 (iv2 x)) := by
  intro w hw
  have hGF : BOk Gt (pl w) := gt_low.plain hw
  refine calls_of_X (G := Gt) Tryd.func27 rfl rfl (Hp (pl w) []) (hp_refl (pl w) trivial rides_true) (good_hp hGF) ?_
  refine xs_plain (E := EE []) ?_
  refine lx_boxr 1 hGF rfl rfl rfl ?_
  intro b1
  refine lx_allocr 2 hGF zv30 rfl rfl ?_
  intro b2
  refine lx_nil ?_
  refine xs_drawn (E := EE []) mixed (by kernel_rfl) (by kernel_rfl) (by kernel_rfl) ?_
  refine lx_loada 1 rfl rfl Tryd.isAgg30 Tryd.sizeOf30 (by simp) rfl rfl ?_
  refine lx_call rfl rfl ent22 (e2conj _) rfl rfl ?_
  refine lx_loada 1 rfl rfl Tryd.isAgg30 Tryd.sizeOf30 (by simp) rfl rfl ?_
  refine lx_call rfl rfl ent67 (e2norm _) rfl rfl ?_
  refine lx_call rfl rfl ent68 (finv_pure _) rfl rfl ?_
  refine lx_call rfl rfl ent31 (e2scale _ _) rfl rfl ?_
  refine lx_storea 2 hGF rfl rfl rfl Tryd.sizeOf30 (by simp) (by simp) (one_u64 _) rfl ?_
  refine lx_nil ?_
  refine x_ret ?_
  repeat (first | refine kseq_ret ?_ | refine kblk_ret ?_)
  exact kret_own 2 rfl rfl rfl Tryd.isAgg30 Tryd.sizeOf30 (by simp) (fun w hw => ⟨rfl, hp_below hw⟩)
theorem e2isSquare (x : W2) : Pure Tryd.prog Gt 43 [EV2 x] (.bool (decide (0 ≤ LEG (nm2 x)))) := by
  intro w hw
  have hGF : BOk Gt (pl w) := gt_low.plain hw
  refine calls_of_X (G := Gt) Tryd.func43 rfl rfl (Hp (pl w) []) (hp_refl (pl w) trivial rides_true) (good_hp hGF) ?_
  refine xs_plain (E := EE []) ?_
  refine lx_boxr 1 hGF rfl rfl rfl ?_
  intro b1
  refine lx_assign rfl rfl rfl ?_
  refine lx_nil ?_
  refine xs_plain (E := EE []) ?_
  refine lx_loada 1 rfl rfl Tryd.isAgg30 Tryd.sizeOf30 (by simp) rfl rfl ?_
  refine lx_call rfl rfl ent67 (e2norm _) rfl rfl ?_
  refine lx_call rfl rfl ent52 (flegendre_pure _) rfl rfl ?_
  refine lx_bin rfl rfl (fun _ => rfl) (fun _ => bin_geq_i _ _ _) rfl rfl ?_
  refine lx_assign rfl rfl rfl ?_
  refine lx_nil ?_
  refine x_ret ?_
  repeat (first | refine kseq_ret ?_ | refine kblk_ret ?_)
  exact kret_tmp rfl rfl (fun w hw => ⟨rfl, hp_below hw⟩)
end Go.Proofs.YtceogjapiphokaaDoor

namespace Go.Proofs.YtceogjapiphokaaDoor
open Go.RowKit
set_option maxRecDepth 100000
set_option maxHeartbeats 1000000
attribute [local simp] fe_len nm_len AS_len SS_len MONT_len RM_len FRs_len BYs_len by48_len PLl TWOl ONEl N1l IVPl HFPl RTPl FL_len SP_len fe2_len SP2_len FM_len

theorem LG2_t {x : W2} (h : x.2 = 0) : decide (hf < x.1.val) = LG2 x := by rw [LG2, if_pos h]
theorem LG2_n {x : W2} (h : ¬ x.2 = 0) : decide (hf < x.2.val) = LG2 x := by rw [LG2, if_neg h]
theorem LG2_a {x : W2} (h : hf < x.2.val) : true = LG2 x := by
  have h0 : ¬ x.2 = 0 := fun e => by rw [e] at h; exact Nat.not_lt_zero _ h
  rw [← LG2_n h0, decide_eq_true h]
theorem LG2_c {x : W2} (h : ¬ hf < x.2.val) (h0 : ¬ x.2 = 0) : false = LG2 x := by rw [← LG2_n h0, decide_eq_false h]
theorem SG2_a {x : W2} (h : x.1.val % 2 = 1) : 1 = SG2 x := by rw [SG2, if_pos h]
theorem SG2_b {x : W2} (h : ¬ x.1.val % 2 = 1) (h0 : x.1 = 0) (h2 : x.2.val % 2 = 1) : 1 = SG2 x := by rw [SG2, if_neg h, if_pos h0, if_pos h2]
theorem SG2_c {x : W2} (h : ¬ x.1.val % 2 = 1) (h0 : x.1 = 0) (h2 : ¬ x.2.val % 2 = 1) : 0 = SG2 x := by rw [SG2, if_neg h, if_pos h0, if_neg h2]
theorem SG2_d {x : W2} (h : ¬ x.1.val % 2 = 1) (h0 : ¬ x.1 = 0) : 0 = SG2 x := by rw [SG2, if_neg h, if_neg h0]
theorem nf {y x : W2} (h : y = x) : (!decide (fe y.1 ++ fe y.2 = fe x.1 ++ fe x.2)) = false := by rw [fe2_dec, decide_eq_true h]; rfl
theorem sqY {a : Zp} (h : SQr a * SQr a = a) : Pure Tryd.prog Gt 76 [EV a] (.tuple #[EV (SQ a), .bool true]) := decide_eq_true h ▸ fsqrt_pure a
theorem sqN {a : Zp} (h : ¬ SQr a * SQr a = a) : Pure Tryd.prog Gt 76 [EV a] (.tuple #[EV (SQ a), .bool false]) := decide_eq_false h ▸ fsqrt_pure a
theorem rsqY {a : Zp} (h : SQr a * SQr a = a) : Pure Tryd.prog Gt 78 [EV a] (.tuple #[EV (SQ a), .bool true]) := decide_eq_true h ▸ rsqrtE a
theorem rsqN {a : Zp} (h : ¬ SQr a * SQr a = a) : Pure Tryd.prog Gt 78 [EV a] (.tuple #[EV (SQ a), .bool false]) := decide_eq_false h ▸ rsqrtE a
theorem rsmall1 : Pure Tryd.prog Gt 79 [U64 1#64] (EV 1) := rsmallE 1#64
theorem rsmall2 : Pure Tryd.prog Gt 79 [U64 2#64] (EV (zp 2)) := rsmallE 2#64
theorem e2large (x : W2) : Pure Tryd.prog Gt 44 [EV2 x] (.bool (LG2 x)) := by
  intro w hw
  have hGF : BOk Gt (pl w) := gt_low.plain hw
  by_cases h : hf < x.2.val
  · skip
    refine calls_of_X (G := Gt) Tryd.func44 rfl rfl (Hp (pl w) []) (hp_refl (pl w) trivial rides_true) (good_hp hGF) ?_
    refine xs_plain (E := EE []) ?_
    refine lx_boxr 1 hGF rfl rfl rfl ?_
    intro b1
    refine lx_assign rfl rfl rfl ?_
    refine lx_nil ?_
    refine xs_plain (E := EE []) ?_
    refine lx_fak 6 rfl Tryd.underlying30 rfl Tryd.sizeOf28 (by decide) rfl rfl rfl ?_
    refine lx_loado 1 _ rfl rfl Tryd.isAgg28 Tryd.sizeOf28 (by simp) (ld_r (by simp)) rfl rfl ?_
    refine lx_callB true rfl rfl ent80 (flarge_pure _) (decide_eq_true h) rfl rfl ?_
    refine lx_move rfl rfl rfl ?_
    refine lx_skip rfl rfl rfl ?_
    refine lx_skip rfl rfl rfl ?_
    refine lx_skip rfl rfl rfl ?_
    refine lx_skip rfl rfl rfl ?_
    refine lx_skip rfl rfl rfl ?_
    refine lx_skip rfl rfl rfl ?_
    refine lx_skip rfl rfl rfl ?_
    refine lx_skip rfl rfl rfl ?_
    refine lx_pick rfl rfl rfl rfl rfl ?_
    refine lx_assign rfl rfl rfl ?_
    refine lx_nil ?_
    refine x_ret ?_
    repeat (first | refine kseq_ret ?_ | refine kblk_ret ?_)
    exact kret_tmp rfl rfl (fun w hw => ⟨rb (LG2_a h), hp_below hw⟩)
  · skip
    by_cases h0 : x.2 = 0
    · skip
      refine calls_of_X (G := Gt) Tryd.func44 rfl rfl (Hp (pl w) []) (hp_refl (pl w) trivial rides_true) (good_hp hGF) ?_
      refine xs_plain (E := EE []) ?_
      refine lx_boxr 1 hGF rfl rfl rfl ?_
      intro b1
      refine lx_assign rfl rfl rfl ?_
      refine lx_nil ?_
      refine xs_plain (E := EE []) ?_
      refine lx_fak 6 rfl Tryd.underlying30 rfl Tryd.sizeOf28 (by decide) rfl rfl rfl ?_
      refine lx_loado 1 _ rfl rfl Tryd.isAgg28 Tryd.sizeOf28 (by simp) (ld_r (by simp)) rfl rfl ?_
      refine lx_callB false rfl rfl ent80 (flarge_pure _) (decide_eq_false h) rfl rfl ?_
      refine lx_move rfl rfl rfl ?_
      refine lx_fak 6 rfl Tryd.underlying30 rfl Tryd.sizeOf28 (by decide) rfl rfl rfl ?_
      refine lx_loado 1 _ rfl rfl Tryd.isAgg28 Tryd.sizeOf28 (by simp) (ld_r (by simp)) rfl rfl ?_
      refine lx_callB true rfl rfl ent48 (fisZero_pure _) (decide_eq_true h0) rfl rfl ?_
      refine lx_move rfl rfl rfl ?_
      refine lx_fak 0 rfl Tryd.underlying30 rfl Tryd.sizeOf28 (by decide) rfl rfl rfl ?_
      refine lx_loado 1 _ rfl rfl Tryd.isAgg28 Tryd.sizeOf28 (by simp) ld_l rfl rfl ?_
      refine lx_call rfl rfl ent80 (flarge_pure _) rfl rfl ?_
      refine lx_pick rfl rfl rfl rfl rfl ?_
      refine lx_pick rfl rfl rfl rfl rfl ?_
      refine lx_assign rfl rfl rfl ?_
      refine lx_nil ?_
      refine x_ret ?_
      repeat (first | refine kseq_ret ?_ | refine kblk_ret ?_)
      exact kret_tmp rfl rfl (fun w hw => ⟨rb (LG2_t h0), hp_below hw⟩)
    · skip
      refine calls_of_X (G := Gt) Tryd.func44 rfl rfl (Hp (pl w) []) (hp_refl (pl w) trivial rides_true) (good_hp hGF) ?_
      refine xs_plain (E := EE []) ?_
      refine lx_boxr 1 hGF rfl rfl rfl ?_
      intro b1
      refine lx_assign rfl rfl rfl ?_
      refine lx_nil ?_
      refine xs_plain (E := EE []) ?_
      refine lx_fak 6 rfl Tryd.underlying30 rfl Tryd.sizeOf28 (by decide) rfl rfl rfl ?_
      refine lx_loado 1 _ rfl rfl Tryd.isAgg28 Tryd.sizeOf28 (by simp) (ld_r (by simp)) rfl rfl ?_
      refine lx_callB false rfl rfl ent80 (flarge_pure _) (decide_eq_false h) rfl rfl ?_
      refine lx_move rfl rfl rfl ?_
      refine lx_fak 6 rfl Tryd.underlying30 rfl Tryd.sizeOf28 (by decide) rfl rfl rfl ?_
      refine lx_loado 1 _ rfl rfl Tryd.isAgg28 Tryd.sizeOf28 (by simp) (ld_r (by simp)) rfl rfl ?_
      refine lx_callB false rfl rfl ent48 (fisZero_pure _) (decide_eq_false h0) rfl rfl ?_
      refine lx_move rfl rfl rfl ?_
      refine lx_skip rfl rfl rfl ?_
      refine lx_skip rfl rfl rfl ?_
      refine lx_skip rfl rfl rfl ?_
      refine lx_pick rfl rfl rfl rfl rfl ?_
      refine lx_pick rfl rfl rfl rfl rfl ?_
      refine lx_assign rfl rfl rfl ?_
      refine lx_nil ?_
      refine x_ret ?_
      repeat (first | refine kseq_ret ?_ | refine kblk_ret ?_)
      exact kret_tmp rfl rfl (fun w hw => ⟨rb (LG2_c h h0), hp_below hw⟩)
theorem e2sgn (x : W2) : Pure Tryd.prog Gt 45 [EV2 x] (I (SG2 x)) := by
  intro w hw
  have hGF : BOk Gt (pl w) := gt_low.plain hw
  by_cases h : x.1.val % 2 = 1
  · skip
    refine calls_of_X (G := Gt) Tryd.func45 rfl rfl (Hp (pl w) []) (hp_refl (pl w) trivial rides_true) (good_hp hGF) ?_
    refine xs_plain (E := EE []) ?_
    refine lx_boxr 1 hGF rfl rfl rfl ?_
    intro b1
    refine lx_assign rfl rfl rfl ?_
    refine lx_nil ?_
    refine x_seq ?_
    refine xs_plain (E := EE []) ?_
    refine lx_fak 0 rfl Tryd.underlying30 rfl Tryd.sizeOf28 (by decide) rfl rfl rfl ?_
    refine lx_loado 1 _ rfl rfl Tryd.isAgg28 Tryd.sizeOf28 (by simp) ld_l rfl rfl ?_
    refine lx_callB true rfl rfl ent81 (fodd_pure _) (decide_eq_true h) rfl rfl ?_
    refine lx_move rfl rfl rfl ?_
    refine lx_skip rfl rfl rfl ?_
    refine lx_skip rfl rfl rfl ?_
    refine lx_skip rfl rfl rfl ?_
    refine lx_skip rfl rfl rfl ?_
    refine lx_skip rfl rfl rfl ?_
    refine lx_skip rfl rfl rfl ?_
    refine lx_skip rfl rfl rfl ?_
    refine lx_skip rfl rfl rfl ?_
    refine lx_pick rfl rfl rfl rfl rfl ?_
    refine lx_nil ?_
    refine x_true rfl ?_
    refine xs_plain (E := EE []) ?_
    refine lx_assign rfl rfl rfl ?_
    refine lx_nil ?_
    refine x_ret ?_
    repeat (first | refine kseq_ret ?_ | refine kblk_ret ?_)
    exact kret_tmp rfl rfl (fun w hw => ⟨ri (SG2_a h), hp_below hw⟩)
  · skip
    by_cases h0 : x.1 = 0
    · skip
      by_cases h2 : x.2.val % 2 = 1
      · skip
        refine calls_of_X (G := Gt) Tryd.func45 rfl rfl (Hp (pl w) []) (hp_refl (pl w) trivial rides_true) (good_hp hGF) ?_
        refine xs_plain (E := EE []) ?_
        refine lx_boxr 1 hGF rfl rfl rfl ?_
        intro b1
        refine lx_assign rfl rfl rfl ?_
        refine lx_nil ?_
        refine x_seq ?_
        refine xs_plain (E := EE []) ?_
        refine lx_fak 0 rfl Tryd.underlying30 rfl Tryd.sizeOf28 (by decide) rfl rfl rfl ?_
        refine lx_loado 1 _ rfl rfl Tryd.isAgg28 Tryd.sizeOf28 (by simp) ld_l rfl rfl ?_
        refine lx_callB false rfl rfl ent81 (fodd_pure _) (decide_eq_false h) rfl rfl ?_
        refine lx_move rfl rfl rfl ?_
        refine lx_fak 0 rfl Tryd.underlying30 rfl Tryd.sizeOf28 (by decide) rfl rfl rfl ?_
        refine lx_loado 1 _ rfl rfl Tryd.isAgg28 Tryd.sizeOf28 (by simp) ld_l rfl rfl ?_
        refine lx_callB true rfl rfl ent48 (fisZero_pure _) (decide_eq_true h0) rfl rfl ?_
        refine lx_move rfl rfl rfl ?_
        refine lx_fak 6 rfl Tryd.underlying30 rfl Tryd.sizeOf28 (by decide) rfl rfl rfl ?_
        refine lx_loado 1 _ rfl rfl Tryd.isAgg28 Tryd.sizeOf28 (by simp) (ld_r (by simp)) rfl rfl ?_
        refine lx_callB true rfl rfl ent81 (fodd_pure _) (decide_eq_true h2) rfl rfl ?_
        refine lx_pick rfl rfl rfl rfl rfl ?_
        refine lx_pick rfl rfl rfl rfl rfl ?_
        refine lx_nil ?_
        refine x_true rfl ?_
        refine xs_plain (E := EE []) ?_
        refine lx_assign rfl rfl rfl ?_
        refine lx_nil ?_
        refine x_ret ?_
        repeat (first | refine kseq_ret ?_ | refine kblk_ret ?_)
        exact kret_tmp rfl rfl (fun w hw => ⟨ri (SG2_b h h0 h2), hp_below hw⟩)
      · skip
        refine calls_of_X (G := Gt) Tryd.func45 rfl rfl (Hp (pl w) []) (hp_refl (pl w) trivial rides_true) (good_hp hGF) ?_
        refine xs_plain (E := EE []) ?_
        refine lx_boxr 1 hGF rfl rfl rfl ?_
        intro b1
        refine lx_assign rfl rfl rfl ?_
        refine lx_nil ?_
        refine x_seq ?_
        refine xs_plain (E := EE []) ?_
        refine lx_fak 0 rfl Tryd.underlying30 rfl Tryd.sizeOf28 (by decide) rfl rfl rfl ?_
        refine lx_loado 1 _ rfl rfl Tryd.isAgg28 Tryd.sizeOf28 (by simp) ld_l rfl rfl ?_
        refine lx_callB false rfl rfl ent81 (fodd_pure _) (decide_eq_false h) rfl rfl ?_
        refine lx_move rfl rfl rfl ?_
        refine lx_fak 0 rfl Tryd.underlying30 rfl Tryd.sizeOf28 (by decide) rfl rfl rfl ?_
        refine lx_loado 1 _ rfl rfl Tryd.isAgg28 Tryd.sizeOf28 (by simp) ld_l rfl rfl ?_
        refine lx_callB true rfl rfl ent48 (fisZero_pure _) (decide_eq_true h0) rfl rfl ?_
        refine lx_move rfl rfl rfl ?_
        refine lx_fak 6 rfl Tryd.underlying30 rfl Tryd.sizeOf28 (by decide) rfl rfl rfl ?_
        refine lx_loado 1 _ rfl rfl Tryd.isAgg28 Tryd.sizeOf28 (by simp) (ld_r (by simp)) rfl rfl ?_
        refine lx_callB false rfl rfl ent81 (fodd_pure _) (decide_eq_false h2) rfl rfl ?_
        refine lx_pick rfl rfl rfl rfl rfl ?_
        refine lx_pick rfl rfl rfl rfl rfl ?_
        refine lx_nil ?_
        refine x_false rfl ?_
        refine x_skip ?_
        refine xs_plain (E := EE []) ?_
        refine lx_assign rfl rfl rfl ?_
        refine lx_nil ?_
        refine x_ret ?_
        repeat (first | refine kseq_ret ?_ | refine kblk_ret ?_)
        exact kret_tmp rfl rfl (fun w hw => ⟨ri (SG2_c h h0 h2), hp_below hw⟩)
    · skip
      refine calls_of_X (G := Gt) Tryd.func45 rfl rfl (Hp (pl w) []) (hp_refl (pl w) trivial rides_true) (good_hp hGF) ?_
      refine xs_plain (E := EE []) ?_
      refine lx_boxr 1 hGF rfl rfl rfl ?_
      intro b1
      refine lx_assign rfl rfl rfl ?_
      refine lx_nil ?_
      refine x_seq ?_
      refine xs_plain (E := EE []) ?_
      refine lx_fak 0 rfl Tryd.underlying30 rfl Tryd.sizeOf28 (by decide) rfl rfl rfl ?_
      refine lx_loado 1 _ rfl rfl Tryd.isAgg28 Tryd.sizeOf28 (by simp) ld_l rfl rfl ?_
      refine lx_callB false rfl rfl ent81 (fodd_pure _) (decide_eq_false h) rfl rfl ?_
      refine lx_move rfl rfl rfl ?_
      refine lx_fak 0 rfl Tryd.underlying30 rfl Tryd.sizeOf28 (by decide) rfl rfl rfl ?_
      refine lx_loado 1 _ rfl rfl Tryd.isAgg28 Tryd.sizeOf28 (by simp) ld_l rfl rfl ?_
      refine lx_callB false rfl rfl ent48 (fisZero_pure _) (decide_eq_false h0) rfl rfl ?_
      refine lx_move rfl rfl rfl ?_
      refine lx_skip rfl rfl rfl ?_
      refine lx_skip rfl rfl rfl ?_
      refine lx_skip rfl rfl rfl ?_
      refine lx_pick rfl rfl rfl rfl rfl ?_
      refine lx_pick rfl rfl rfl rfl rfl ?_
      refine lx_nil ?_
      refine x_false rfl ?_
      refine x_skip ?_
      refine xs_plain (E := EE []) ?_
      refine lx_assign rfl rfl rfl ?_
      refine lx_nil ?_
      refine x_ret ?_
      repeat (first | refine kseq_ret ?_ | refine kblk_ret ?_)
      exact kret_tmp rfl rfl (fun w hw => ⟨ri (SG2_d h h0), hp_below hw⟩)
theorem r5sgn (x : W2) : Pure Tryd.prog Gt 46 [EV2 x] (I (SG2 x)) := by
  intro w hw
  have hGF : BOk Gt (pl w) := gt_low.plain hw
  by_cases h : x.1.val % 2 = 1
  · skip
    refine calls_of_X (G := Gt) Tryd.func46 rfl rfl (Hp (pl w) []) (hp_refl (pl w) trivial rides_true) (good_hp hGF) ?_
    refine xs_plain (E := EE []) ?_
    refine lx_boxr 1 hGF rfl rfl rfl ?_
    intro b1
    refine lx_assign rfl rfl rfl ?_
    refine lx_nil ?_
    refine x_seq ?_
    refine xs_plain (E := EE []) ?_
    refine lx_fak 0 rfl Tryd.underlying36 rfl Tryd.sizeOf34 (by decide) rfl rfl rfl ?_
    refine lx_loado 1 _ rfl rfl Tryd.isAgg34 Tryd.sizeOf34 (by simp) ld_l rfl rfl ?_
    refine lx_callB true rfl rfl ent82 (roddE _) (decide_eq_true h) rfl rfl ?_
    refine lx_move rfl rfl rfl ?_
    refine lx_skip rfl rfl rfl ?_
    refine lx_skip rfl rfl rfl ?_
    refine lx_skip rfl rfl rfl ?_
    refine lx_skip rfl rfl rfl ?_
    refine lx_skip rfl rfl rfl ?_
    refine lx_skip rfl rfl rfl ?_
    refine lx_skip rfl rfl rfl ?_
    refine lx_skip rfl rfl rfl ?_
    refine lx_pick rfl rfl rfl rfl rfl ?_
    refine lx_nil ?_
    refine x_true rfl ?_
    refine xs_plain (E := EE []) ?_
    refine lx_assign rfl rfl rfl ?_
    refine lx_nil ?_
    refine x_ret ?_
    repeat (first | refine kseq_ret ?_ | refine kblk_ret ?_)
    exact kret_tmp rfl rfl (fun w hw => ⟨ri (SG2_a h), hp_below hw⟩)
  · skip
    by_cases h0 : x.1 = 0
    · skip
      by_cases h2 : x.2.val % 2 = 1
      · skip
        refine calls_of_X (G := Gt) Tryd.func46 rfl rfl (Hp (pl w) []) (hp_refl (pl w) trivial rides_true) (good_hp hGF) ?_
        refine xs_plain (E := EE []) ?_
        refine lx_boxr 1 hGF rfl rfl rfl ?_
        intro b1
        refine lx_assign rfl rfl rfl ?_
        refine lx_nil ?_
        refine x_seq ?_
        refine xs_plain (E := EE []) ?_
        refine lx_fak 0 rfl Tryd.underlying36 rfl Tryd.sizeOf34 (by decide) rfl rfl rfl ?_
        refine lx_loado 1 _ rfl rfl Tryd.isAgg34 Tryd.sizeOf34 (by simp) ld_l rfl rfl ?_
        refine lx_callB false rfl rfl ent82 (roddE _) (decide_eq_false h) rfl rfl ?_
        refine lx_move rfl rfl rfl ?_
        refine lx_fak 0 rfl Tryd.underlying36 rfl Tryd.sizeOf34 (by decide) rfl rfl rfl ?_
        refine lx_loado 1 _ rfl rfl Tryd.isAgg34 Tryd.sizeOf34 (by simp) ld_l rfl rfl ?_
        refine lx_callB true rfl rfl ent66 (risZeroE _) (decide_eq_true h0) rfl rfl ?_
        refine lx_move rfl rfl rfl ?_
        refine lx_fak 6 rfl Tryd.underlying36 rfl Tryd.sizeOf34 (by decide) rfl rfl rfl ?_
        refine lx_loado 1 _ rfl rfl Tryd.isAgg34 Tryd.sizeOf34 (by simp) (ld_r (by simp)) rfl rfl ?_
        refine lx_callB true rfl rfl ent82 (roddE _) (decide_eq_true h2) rfl rfl ?_
        refine lx_pick rfl rfl rfl rfl rfl ?_
        refine lx_pick rfl rfl rfl rfl rfl ?_
        refine lx_nil ?_
        refine x_true rfl ?_
        refine xs_plain (E := EE []) ?_
        refine lx_assign rfl rfl rfl ?_
        refine lx_nil ?_
        refine x_ret ?_
        repeat (first | refine kseq_ret ?_ | refine kblk_ret ?_)
        exact kret_tmp rfl rfl (fun w hw => ⟨ri (SG2_b h h0 h2), hp_below hw⟩)
      · skip
        refine calls_of_X (G := Gt) Tryd.func46 rfl rfl (Hp (pl w) []) (hp_refl (pl w) trivial rides_true) (good_hp hGF) ?_
        refine xs_plain (E := EE []) ?_
        refine lx_boxr 1 hGF rfl rfl rfl ?_
        intro b1
        refine lx_assign rfl rfl rfl ?_
        refine lx_nil ?_
        refine x_seq ?_
        refine xs_plain (E := EE []) ?_
        refine lx_fak 0 rfl Tryd.underlying36 rfl Tryd.sizeOf34 (by decide) rfl rfl rfl ?_
        refine lx_loado 1 _ rfl rfl Tryd.isAgg34 Tryd.sizeOf34 (by simp) ld_l rfl rfl ?_
        refine lx_callB false rfl rfl ent82 (roddE _) (decide_eq_false h) rfl rfl ?_
        refine lx_move rfl rfl rfl ?_
        refine lx_fak 0 rfl Tryd.underlying36 rfl Tryd.sizeOf34 (by decide) rfl rfl rfl ?_
        refine lx_loado 1 _ rfl rfl Tryd.isAgg34 Tryd.sizeOf34 (by simp) ld_l rfl rfl ?_
        refine lx_callB true rfl rfl ent66 (risZeroE _) (decide_eq_true h0) rfl rfl ?_
        refine lx_move rfl rfl rfl ?_
        refine lx_fak 6 rfl Tryd.underlying36 rfl Tryd.sizeOf34 (by decide) rfl rfl rfl ?_
        refine lx_loado 1 _ rfl rfl Tryd.isAgg34 Tryd.sizeOf34 (by simp) (ld_r (by simp)) rfl rfl ?_
        refine lx_callB false rfl rfl ent82 (roddE _) (decide_eq_false h2) rfl rfl ?_
        refine lx_pick rfl rfl rfl rfl rfl ?_
        refine lx_pick rfl rfl rfl rfl rfl ?_
        refine lx_nil ?_
        refine x_false rfl ?_
        refine x_skip ?_
        refine xs_plain (E := EE []) ?_
        refine lx_assign rfl rfl rfl ?_
        refine lx_nil ?_
        refine x_ret ?_
        repeat (first | refine kseq_ret ?_ | refine kblk_ret ?_)
        exact kret_tmp rfl rfl (fun w hw => ⟨ri (SG2_c h h0 h2), hp_below hw⟩)
    · skip
      refine calls_of_X (G := Gt) Tryd.func46 rfl rfl (Hp (pl w) []) (hp_refl (pl w) trivial rides_true) (good_hp hGF) ?_
      refine xs_plain (E := EE []) ?_
      refine lx_boxr 1 hGF rfl rfl rfl ?_
      intro b1
      refine lx_assign rfl rfl rfl ?_
      refine lx_nil ?_
      refine x_seq ?_
      refine xs_plain (E := EE []) ?_
      refine lx_fak 0 rfl Tryd.underlying36 rfl Tryd.sizeOf34 (by decide) rfl rfl rfl ?_
      refine lx_loado 1 _ rfl rfl Tryd.isAgg34 Tryd.sizeOf34 (by simp) ld_l rfl rfl ?_
      refine lx_callB false rfl rfl ent82 (roddE _) (decide_eq_false h) rfl rfl ?_
      refine lx_move rfl rfl rfl ?_
      refine lx_fak 0 rfl Tryd.underlying36 rfl Tryd.sizeOf34 (by decide) rfl rfl rfl ?_
      refine lx_loado 1 _ rfl rfl Tryd.isAgg34 Tryd.sizeOf34 (by simp) ld_l rfl rfl ?_
      refine lx_callB false rfl rfl ent66 (risZeroE _) (decide_eq_false h0) rfl rfl ?_
      refine lx_move rfl rfl rfl ?_
      refine lx_skip rfl rfl rfl ?_
      refine lx_skip rfl rfl rfl ?_
      refine lx_skip rfl rfl rfl ?_
      refine lx_pick rfl rfl rfl rfl rfl ?_
      refine lx_pick rfl rfl rfl rfl rfl ?_
      refine lx_nil ?_
      refine x_false rfl ?_
      refine x_skip ?_
      refine xs_plain (E := EE []) ?_
      refine lx_assign rfl rfl rfl ?_
      refine lx_nil ?_
      refine x_ret ?_
      repeat (first | refine kseq_ret ?_ | refine kblk_ret ?_)
      exact kret_tmp rfl rfl (fun w hw => ⟨ri (SG2_d h h0), hp_below hw⟩)
theorem r5one  : Pure Tryd.prog Gt 74 [] (EV2 on2) := by
  intro w hw
  have hGF : BOk Gt (pl w) := gt_low.plain hw
  refine calls_of_X (G := Gt) Tryd.func74 rfl rfl (Hp (pl w) []) (hp_refl (pl w) trivial rides_true) (good_hp hGF) ?_
  refine xs_plain (E := EE []) ?_
  refine lx_allocr 0 hGF zv36 rfl rfl ?_
  intro b0
  refine lx_nil ?_
  refine xs_plain (E := EE []) ?_
  refine lx_call rfl rfl ent79 (rsmall1) rfl rfl ?_
  refine lx_twoA two36 rfl (by simp) rfl rfl ?_
  refine lx_storea 0 hGF rfl rfl rfl Tryd.sizeOf36 (by simp) (by simp) (one_u64 _) rfl ?_
  refine lx_nil ?_
  refine x_ret ?_
  repeat (first | refine kseq_ret ?_ | refine kblk_ret ?_)
  exact kret_own 0 rfl rfl rfl Tryd.isAgg36 Tryd.sizeOf36 (by simp) (fun w hw => ⟨rfl, hp_below hw⟩)
theorem r5isZero (x : W2) : Pure Tryd.prog Gt 35 [EV2 x] (.bool (decide (x = ze2))) := by
  intro w hw
  have hGF : BOk Gt (pl w) := gt_low.plain hw
  by_cases h : x.1 = 0
  · skip
    refine calls_of_X (G := Gt) Tryd.func35 rfl rfl (Hp (pl w) []) (hp_refl (pl w) trivial rides_true) (good_hp hGF) ?_
    refine xs_plain (E := EE []) ?_
    refine lx_boxr 1 hGF rfl rfl rfl ?_
    intro b1
    refine lx_assign rfl rfl rfl ?_
    refine lx_nil ?_
    refine xs_plain (E := EE []) ?_
    refine lx_fak 0 rfl Tryd.underlying36 rfl Tryd.sizeOf34 (by decide) rfl rfl rfl ?_
    refine lx_loado 1 _ rfl rfl Tryd.isAgg34 Tryd.sizeOf34 (by simp) ld_l rfl rfl ?_
    refine lx_callB true rfl rfl ent66 (risZeroE _) (decide_eq_true h) rfl rfl ?_
    refine lx_move rfl rfl rfl ?_
    refine lx_fak 6 rfl Tryd.underlying36 rfl Tryd.sizeOf34 (by decide) rfl rfl rfl ?_
    refine lx_loado 1 _ rfl rfl Tryd.isAgg34 Tryd.sizeOf34 (by simp) (ld_r (by simp)) rfl rfl ?_
    refine lx_call rfl rfl ent66 (risZeroE _) rfl rfl ?_
    refine lx_pick rfl rfl rfl rfl rfl ?_
    refine lx_assign rfl rfl rfl ?_
    refine lx_nil ?_
    refine x_ret ?_
    repeat (first | refine kseq_ret ?_ | refine kblk_ret ?_)
    exact kret_tmp rfl rfl (fun w hw => ⟨rb (dec2_t (y := ze2) h), hp_below hw⟩)
  · skip
    refine calls_of_X (G := Gt) Tryd.func35 rfl rfl (Hp (pl w) []) (hp_refl (pl w) trivial rides_true) (good_hp hGF) ?_
    refine xs_plain (E := EE []) ?_
    refine lx_boxr 1 hGF rfl rfl rfl ?_
    intro b1
    refine lx_assign rfl rfl rfl ?_
    refine lx_nil ?_
    refine xs_plain (E := EE []) ?_
    refine lx_fak 0 rfl Tryd.underlying36 rfl Tryd.sizeOf34 (by decide) rfl rfl rfl ?_
    refine lx_loado 1 _ rfl rfl Tryd.isAgg34 Tryd.sizeOf34 (by simp) ld_l rfl rfl ?_
    refine lx_callB false rfl rfl ent66 (risZeroE _) (decide_eq_false h) rfl rfl ?_
    refine lx_move rfl rfl rfl ?_
    refine lx_skip rfl rfl rfl ?_
    refine lx_skip rfl rfl rfl ?_
    refine lx_skip rfl rfl rfl ?_
    refine lx_pick rfl rfl rfl rfl rfl ?_
    refine lx_assign rfl rfl rfl ?_
    refine lx_nil ?_
    refine x_ret ?_
    repeat (first | refine kseq_ret ?_ | refine kblk_ret ?_)
    exact kret_tmp rfl rfl (fun w hw => ⟨rb (dec2_f (y := ze2) h), hp_below hw⟩)
theorem r5add (x y : W2) : Pure Tryd.prog Gt 17 [EV2 x, EV2 y] (EV2 (ad2 x y)) := by
  intro w hw
  have hGF : BOk Gt (pl w) := gt_low.plain hw
  refine calls_of_X (G := Gt) Tryd.func17 rfl rfl (Hp (pl w) []) (hp_refl (pl w) trivial rides_true) (good_hp hGF) ?_
  refine xs_plain (E := EE []) ?_
  refine lx_boxr 2 hGF rfl rfl rfl ?_
  intro b2
  refine lx_boxr 3 hGF rfl rfl rfl ?_
  intro b3
  refine lx_allocr 4 hGF zv36 rfl rfl ?_
  intro b4
  refine lx_nil ?_
  refine xs_drawn (E := EE []) mixed (by kernel_rfl) (by kernel_rfl) (by kernel_rfl) ?_
  refine lx_fak 0 rfl Tryd.underlying36 rfl Tryd.sizeOf34 (by decide) rfl rfl rfl ?_
  refine lx_loado 2 _ rfl rfl Tryd.isAgg34 Tryd.sizeOf34 (by simp) ld_l rfl rfl ?_
  refine lx_fak 0 rfl Tryd.underlying36 rfl Tryd.sizeOf34 (by decide) rfl rfl rfl ?_
  refine lx_loado 3 _ rfl rfl Tryd.isAgg34 Tryd.sizeOf34 (by simp) ld_l rfl rfl ?_
  refine lx_call rfl rfl ent61 (raddE _ _) rfl rfl ?_
  refine lx_fak 6 rfl Tryd.underlying36 rfl Tryd.sizeOf34 (by decide) rfl rfl rfl ?_
  refine lx_loado 2 _ rfl rfl Tryd.isAgg34 Tryd.sizeOf34 (by simp) (ld_r (by simp)) rfl rfl ?_
  refine lx_fak 6 rfl Tryd.underlying36 rfl Tryd.sizeOf34 (by decide) rfl rfl rfl ?_
  refine lx_loado 3 _ rfl rfl Tryd.isAgg34 Tryd.sizeOf34 (by simp) (ld_r (by simp)) rfl rfl ?_
  refine lx_call rfl rfl ent61 (raddE _ _) rfl rfl ?_
  refine lx_two two36 rfl rfl (by simp) (by simp) rfl rfl ?_
  refine lx_storea 4 hGF rfl rfl rfl Tryd.sizeOf36 (by simp) (by simp) (one_u64 _) rfl ?_
  refine lx_nil ?_
  refine x_ret ?_
  repeat (first | refine kseq_ret ?_ | refine kblk_ret ?_)
  exact kret_own 4 rfl rfl rfl Tryd.isAgg36 Tryd.sizeOf36 (by simp) (fun w hw => ⟨rfl, hp_below hw⟩)
theorem r5sub (x y : W2) : Pure Tryd.prog Gt 19 [EV2 x, EV2 y] (EV2 (sb2 x y)) := by
  intro w hw
  have hGF : BOk Gt (pl w) := gt_low.plain hw
  refine calls_of_X (G := Gt) Tryd.func19 rfl rfl (Hp (pl w) []) (hp_refl (pl w) trivial rides_true) (good_hp hGF) ?_
  refine xs_plain (E := EE []) ?_
  refine lx_boxr 2 hGF rfl rfl rfl ?_
  intro b2
  refine lx_boxr 3 hGF rfl rfl rfl ?_
  intro b3
  refine lx_allocr 4 hGF zv36 rfl rfl ?_
  intro b4
  refine lx_nil ?_
  refine xs_drawn (E := EE []) mixed (by kernel_rfl) (by kernel_rfl) (by kernel_rfl) ?_
  refine lx_fak 0 rfl Tryd.underlying36 rfl Tryd.sizeOf34 (by decide) rfl rfl rfl ?_
  refine lx_loado 2 _ rfl rfl Tryd.isAgg34 Tryd.sizeOf34 (by simp) ld_l rfl rfl ?_
  refine lx_fak 0 rfl Tryd.underlying36 rfl Tryd.sizeOf34 (by decide) rfl rfl rfl ?_
  refine lx_loado 3 _ rfl rfl Tryd.isAgg34 Tryd.sizeOf34 (by simp) ld_l rfl rfl ?_
  refine lx_call rfl rfl ent63 (rsubE _ _) rfl rfl ?_
  refine lx_fak 6 rfl Tryd.underlying36 rfl Tryd.sizeOf34 (by decide) rfl rfl rfl ?_
  refine lx_loado 2 _ rfl rfl Tryd.isAgg34 Tryd.sizeOf34 (by simp) (ld_r (by simp)) rfl rfl ?_
  refine lx_fak 6 rfl Tryd.underlying36 rfl Tryd.sizeOf34 (by decide) rfl rfl rfl ?_
  refine lx_loado 3 _ rfl rfl Tryd.isAgg34 Tryd.sizeOf34 (by simp) (ld_r (by simp)) rfl rfl ?_
  refine lx_call rfl rfl ent63 (rsubE _ _) rfl rfl ?_
  refine lx_two two36 rfl rfl (by simp) (by simp) rfl rfl ?_
  refine lx_storea 4 hGF rfl rfl rfl Tryd.sizeOf36 (by simp) (by simp) (one_u64 _) rfl ?_
  refine lx_nil ?_
  refine x_ret ?_
  repeat (first | refine kseq_ret ?_ | refine kblk_ret ?_)
  exact kret_own 4 rfl rfl rfl Tryd.isAgg36 Tryd.sizeOf36 (by simp) (fun w hw => ⟨rfl, hp_below hw⟩)
theorem r5neg (x : W2) : Pure Tryd.prog Gt 21 [EV2 x] (EV2 (ng2 x)) := by
  intro w hw
  have hGF : BOk Gt (pl w) := gt_low.plain hw
  refine calls_of_X (G := Gt) Tryd.func21 rfl rfl (Hp (pl w) []) (hp_refl (pl w) trivial rides_true) (good_hp hGF) ?_
  refine xs_plain (E := EE []) ?_
  refine lx_boxr 1 hGF rfl rfl rfl ?_
  intro b1
  refine lx_allocr 2 hGF zv36 rfl rfl ?_
  intro b2
  refine lx_nil ?_
  refine xs_drawn (E := EE []) mixed (by kernel_rfl) (by kernel_rfl) (by kernel_rfl) ?_
  refine lx_fak 0 rfl Tryd.underlying36 rfl Tryd.sizeOf34 (by decide) rfl rfl rfl ?_
  refine lx_loado 1 _ rfl rfl Tryd.isAgg34 Tryd.sizeOf34 (by simp) ld_l rfl rfl ?_
  refine lx_call rfl rfl ent65 (rnegE _) rfl rfl ?_
  refine lx_fak 6 rfl Tryd.underlying36 rfl Tryd.sizeOf34 (by decide) rfl rfl rfl ?_
  refine lx_loado 1 _ rfl rfl Tryd.isAgg34 Tryd.sizeOf34 (by simp) (ld_r (by simp)) rfl rfl ?_
  refine lx_call rfl rfl ent65 (rnegE _) rfl rfl ?_
  refine lx_two two36 rfl rfl (by simp) (by simp) rfl rfl ?_
  refine lx_storea 2 hGF rfl rfl rfl Tryd.sizeOf36 (by simp) (by simp) (one_u64 _) rfl ?_
  refine lx_nil ?_
  refine x_ret ?_
  repeat (first | refine kseq_ret ?_ | refine kblk_ret ?_)
  exact kret_own 2 rfl rfl rfl Tryd.isAgg36 Tryd.sizeOf36 (by simp) (fun w hw => ⟨rfl, hp_below hw⟩)
theorem r5conj (x : W2) : Pure Tryd.prog Gt 23 [EV2 x] (EV2 (cj2 x)) := by
  intro w hw
  have hGF : BOk Gt (pl w) := gt_low.plain hw
  refine calls_of_X (G := Gt) Tryd.func23 rfl rfl (Hp (pl w) []) (hp_refl (pl w) trivial rides_true) (good_hp hGF) ?_
  refine xs_plain (E := EE []) ?_
  refine lx_boxr 1 hGF rfl rfl rfl ?_
  intro b1
  refine lx_allocr 2 hGF zv36 rfl rfl ?_
  intro b2
  refine lx_nil ?_
  refine xs_drawn (E := EE []) mixed (by kernel_rfl) (by kernel_rfl) (by kernel_rfl) ?_
  refine lx_fak 0 rfl Tryd.underlying36 rfl Tryd.sizeOf34 (by decide) rfl rfl rfl ?_
  refine lx_loado 1 _ rfl rfl Tryd.isAgg34 Tryd.sizeOf34 (by simp) ld_l rfl rfl ?_
  refine lx_fak 6 rfl Tryd.underlying36 rfl Tryd.sizeOf34 (by decide) rfl rfl rfl ?_
  refine lx_loado 1 _ rfl rfl Tryd.isAgg34 Tryd.sizeOf34 (by simp) (ld_r (by simp)) rfl rfl ?_
  refine lx_call rfl rfl ent65 (rnegE _) rfl rfl ?_
  refine lx_two two36 rfl rfl (by simp) (by simp) rfl rfl ?_
  refine lx_storea 2 hGF rfl rfl rfl Tryd.sizeOf36 (by simp) (by simp) (one_u64 _) rfl ?_
  refine lx_nil ?_
  refine x_ret ?_
  repeat (first | refine kseq_ret ?_ | refine kblk_ret ?_)
  exact kret_own 2 rfl rfl rfl Tryd.isAgg36 Tryd.sizeOf36 (by simp) (fun w hw => ⟨rfl, hp_below hw⟩)
theorem r5xi (x : W2) : Pure Tryd.prog Gt 30 [EV2 x] (EV2 (xi2 x)) := by
  intro w hw
  have hGF : BOk Gt (pl w) := gt_low.plain hw
  refine calls_of_X (G := Gt) Tryd.func30 rfl rfl (Hp (pl w) []) (hp_refl (pl w) trivial rides_true) (good_hp hGF) ?_
  refine xs_plain (E := EE []) ?_
  refine lx_boxr 1 hGF rfl rfl rfl ?_
  intro b1
  refine lx_allocr 2 hGF zv36 rfl rfl ?_
  intro b2
  refine lx_nil ?_
  refine xs_drawn (E := EE []) mixed (by kernel_rfl) (by kernel_rfl) (by kernel_rfl) ?_
  refine lx_fak 0 rfl Tryd.underlying36 rfl Tryd.sizeOf34 (by decide) rfl rfl rfl ?_
  refine lx_loado 1 _ rfl rfl Tryd.isAgg34 Tryd.sizeOf34 (by simp) ld_l rfl rfl ?_
  refine lx_fak 6 rfl Tryd.underlying36 rfl Tryd.sizeOf34 (by decide) rfl rfl rfl ?_
  refine lx_loado 1 _ rfl rfl Tryd.isAgg34 Tryd.sizeOf34 (by simp) (ld_r (by simp)) rfl rfl ?_
  refine lx_call rfl rfl ent63 (rsubE _ _) rfl rfl ?_
  refine lx_fak 0 rfl Tryd.underlying36 rfl Tryd.sizeOf34 (by decide) rfl rfl rfl ?_
  refine lx_loado 1 _ rfl rfl Tryd.isAgg34 Tryd.sizeOf34 (by simp) ld_l rfl rfl ?_
  refine lx_fak 6 rfl Tryd.underlying36 rfl Tryd.sizeOf34 (by decide) rfl rfl rfl ?_
  refine lx_loado 1 _ rfl rfl Tryd.isAgg34 Tryd.sizeOf34 (by simp) (ld_r (by simp)) rfl rfl ?_
  refine lx_call rfl rfl ent61 (raddE _ _) rfl rfl ?_
  refine lx_two two36 rfl rfl (by simp) (by simp) rfl rfl ?_
  refine lx_storea 2 hGF rfl rfl rfl Tryd.sizeOf36 (by simp) (by simp) (one_u64 _) rfl ?_
  refine lx_nil ?_
  refine x_ret ?_
  repeat (first | refine kseq_ret ?_ | refine kblk_ret ?_)
  exact kret_own 2 rfl rfl rfl Tryd.isAgg36 Tryd.sizeOf36 (by simp) (fun w hw => ⟨rfl, hp_below hw⟩)
theorem r5mul (x y : W2) : Pure Tryd.prog Gt 25 [EV2 x, EV2 y] (EV2 (ml2 x y)) := by
  intro w hw
  have hGF : BOk Gt (pl w) := gt_low.plain hw
  by_cases h : x.2 = 0
  · skip
    by_cases h2 : y.2 = 0
    · skip
      refine calls_of_X (G := Gt) Tryd.func25 rfl rfl (Hp (pl w) []) (hp_refl (pl w) trivial rides_true) (good_hp hGF) ?_
      refine xs_plain (E := EE []) ?_
      refine lx_boxr 2 hGF rfl rfl rfl ?_
      intro b2
      refine lx_boxr 3 hGF rfl rfl rfl ?_
      intro b3
      refine lx_allocr 4 hGF zv36 rfl rfl ?_
      intro b4
      refine lx_nil ?_
      refine xs_plain (E := EE []) ?_
      refine lx_fak 0 rfl Tryd.underlying36 rfl Tryd.sizeOf34 (by decide) rfl rfl rfl ?_
      refine lx_loado 2 _ rfl rfl Tryd.isAgg34 Tryd.sizeOf34 (by simp) ld_l rfl rfl ?_
      refine lx_fak 0 rfl Tryd.underlying36 rfl Tryd.sizeOf34 (by decide) rfl rfl rfl ?_
      refine lx_loado 3 _ rfl rfl Tryd.isAgg34 Tryd.sizeOf34 (by simp) ld_l rfl rfl ?_
      refine lx_call rfl rfl ent32 (rmulE _ _) rfl rfl ?_
      refine lx_allocr 5 hGF zv34 rfl rfl ?_
      intro b5
      refine lx_storea 5 hGF rfl rfl rfl Tryd.sizeOf34 (by simp) (by simp) (one_u64 _) rfl ?_
      refine lx_nil ?_
      refine x_seq ?_
      refine xs_plain (E := EE []) ?_
      refine lx_fak 6 rfl Tryd.underlying36 rfl Tryd.sizeOf34 (by decide) rfl rfl rfl ?_
      refine lx_loado 2 _ rfl rfl Tryd.isAgg34 Tryd.sizeOf34 (by simp) (ld_r (by simp)) rfl rfl ?_
      refine lx_callB true rfl rfl ent66 (risZeroE _) (decide_eq_true h) rfl rfl ?_
      refine lx_move rfl rfl rfl ?_
      refine lx_fak 6 rfl Tryd.underlying36 rfl Tryd.sizeOf34 (by decide) rfl rfl rfl ?_
      refine lx_loado 3 _ rfl rfl Tryd.isAgg34 Tryd.sizeOf34 (by simp) (ld_r (by simp)) rfl rfl ?_
      refine lx_callB true rfl rfl ent66 (risZeroE _) (decide_eq_true h2) rfl rfl ?_
      refine lx_pick rfl rfl rfl rfl rfl ?_
      refine lx_nil ?_
      refine x_true rfl ?_
      refine xs_plain (E := EE []) ?_
      refine lx_loada 5 rfl rfl Tryd.isAgg34 Tryd.sizeOf34 (by simp) rfl rfl ?_
      refine lx_twoA two36 rfl (by simp) rfl rfl ?_
      refine lx_storea 4 hGF rfl rfl rfl Tryd.sizeOf36 (by simp) (by simp) (one_u64 _) rfl ?_
      refine lx_nil ?_
      refine x_ret ?_
      repeat (first | refine kseq_ret ?_ | refine kblk_ret ?_)
      exact kret_own 4 rfl rfl rfl Tryd.isAgg36 Tryd.sizeOf36 (by simp) (fun w hw => ⟨e2 (by simp only [ml2]; rw [h]; grind) (by simp only [ml2]; rw [h, h2, z_m0, z_0m, z_00]), hp_below hw⟩)
    · skip
      refine calls_of_X (G := Gt) Tryd.func25 rfl rfl (Hp (pl w) []) (hp_refl (pl w) trivial rides_true) (good_hp hGF) ?_
      refine xs_plain (E := EE []) ?_
      refine lx_boxr 2 hGF rfl rfl rfl ?_
      intro b2
      refine lx_boxr 3 hGF rfl rfl rfl ?_
      intro b3
      refine lx_allocr 4 hGF zv36 rfl rfl ?_
      intro b4
      refine lx_nil ?_
      refine xs_plain (E := EE []) ?_
      refine lx_fak 0 rfl Tryd.underlying36 rfl Tryd.sizeOf34 (by decide) rfl rfl rfl ?_
      refine lx_loado 2 _ rfl rfl Tryd.isAgg34 Tryd.sizeOf34 (by simp) ld_l rfl rfl ?_
      refine lx_fak 0 rfl Tryd.underlying36 rfl Tryd.sizeOf34 (by decide) rfl rfl rfl ?_
      refine lx_loado 3 _ rfl rfl Tryd.isAgg34 Tryd.sizeOf34 (by simp) ld_l rfl rfl ?_
      refine lx_call rfl rfl ent32 (rmulE _ _) rfl rfl ?_
      refine lx_allocr 5 hGF zv34 rfl rfl ?_
      intro b5
      refine lx_storea 5 hGF rfl rfl rfl Tryd.sizeOf34 (by simp) (by simp) (one_u64 _) rfl ?_
      refine lx_nil ?_
      refine x_seq ?_
      refine xs_plain (E := EE []) ?_
      refine lx_fak 6 rfl Tryd.underlying36 rfl Tryd.sizeOf34 (by decide) rfl rfl rfl ?_
      refine lx_loado 2 _ rfl rfl Tryd.isAgg34 Tryd.sizeOf34 (by simp) (ld_r (by simp)) rfl rfl ?_
      refine lx_callB true rfl rfl ent66 (risZeroE _) (decide_eq_true h) rfl rfl ?_
      refine lx_move rfl rfl rfl ?_
      refine lx_fak 6 rfl Tryd.underlying36 rfl Tryd.sizeOf34 (by decide) rfl rfl rfl ?_
      refine lx_loado 3 _ rfl rfl Tryd.isAgg34 Tryd.sizeOf34 (by simp) (ld_r (by simp)) rfl rfl ?_
      refine lx_callB false rfl rfl ent66 (risZeroE _) (decide_eq_false h2) rfl rfl ?_
      refine lx_pick rfl rfl rfl rfl rfl ?_
      refine lx_nil ?_
      refine x_false rfl ?_
      refine x_skip ?_
      refine xs_plain (E := EE []) ?_
      refine lx_fak 6 rfl Tryd.underlying36 rfl Tryd.sizeOf34 (by decide) rfl rfl rfl ?_
      refine lx_loado 2 _ rfl rfl Tryd.isAgg34 Tryd.sizeOf34 (by simp) (ld_r (by simp)) rfl rfl ?_
      refine lx_fak 6 rfl Tryd.underlying36 rfl Tryd.sizeOf34 (by decide) rfl rfl rfl ?_
      refine lx_loado 3 _ rfl rfl Tryd.isAgg34 Tryd.sizeOf34 (by simp) (ld_r (by simp)) rfl rfl ?_
      refine lx_call rfl rfl ent32 (rmulE _ _) rfl rfl ?_
      refine lx_allocr 6 hGF zv34 rfl rfl ?_
      intro b6
      refine lx_storea 6 hGF rfl rfl rfl Tryd.sizeOf34 (by simp) (by simp) (one_u64 _) rfl ?_
      refine lx_nil ?_
      refine xs_drawn (E := EE []) mixed (by kernel_rfl) (by kernel_rfl) (by kernel_rfl) ?_
      refine lx_loada 5 rfl rfl Tryd.isAgg34 Tryd.sizeOf34 (by simp) rfl rfl ?_
      refine lx_loada 6 rfl rfl Tryd.isAgg34 Tryd.sizeOf34 (by simp) rfl rfl ?_
      refine lx_call rfl rfl ent63 (rsubE _ _) rfl rfl ?_
      refine lx_fak 0 rfl Tryd.underlying36 rfl Tryd.sizeOf34 (by decide) rfl rfl rfl ?_
      refine lx_loado 2 _ rfl rfl Tryd.isAgg34 Tryd.sizeOf34 (by simp) ld_l rfl rfl ?_
      refine lx_fak 6 rfl Tryd.underlying36 rfl Tryd.sizeOf34 (by decide) rfl rfl rfl ?_
      refine lx_loado 2 _ rfl rfl Tryd.isAgg34 Tryd.sizeOf34 (by simp) (ld_r (by simp)) rfl rfl ?_
      refine lx_call rfl rfl ent61 (raddE _ _) rfl rfl ?_
      refine lx_fak 0 rfl Tryd.underlying36 rfl Tryd.sizeOf34 (by decide) rfl rfl rfl ?_
      refine lx_loado 3 _ rfl rfl Tryd.isAgg34 Tryd.sizeOf34 (by simp) ld_l rfl rfl ?_
      refine lx_fak 6 rfl Tryd.underlying36 rfl Tryd.sizeOf34 (by decide) rfl rfl rfl ?_
      refine lx_loado 3 _ rfl rfl Tryd.isAgg34 Tryd.sizeOf34 (by simp) (ld_r (by simp)) rfl rfl ?_
      refine lx_call rfl rfl ent61 (raddE _ _) rfl rfl ?_
      refine lx_call rfl rfl ent32 (rmulE _ _) rfl rfl ?_
      refine lx_loada 5 rfl rfl Tryd.isAgg34 Tryd.sizeOf34 (by simp) rfl rfl ?_
      refine lx_call rfl rfl ent63 (rsubE _ _) rfl rfl ?_
      refine lx_loada 6 rfl rfl Tryd.isAgg34 Tryd.sizeOf34 (by simp) rfl rfl ?_
      refine lx_call rfl rfl ent63 (rsubE _ _) rfl rfl ?_
      refine lx_two two36 rfl rfl (by simp) (by simp) rfl rfl ?_
      refine lx_storea 4 hGF rfl rfl rfl Tryd.sizeOf36 (by simp) (by simp) (one_u64 _) rfl ?_
      refine lx_nil ?_
      refine x_ret ?_
      repeat (first | refine kseq_ret ?_ | refine kblk_ret ?_)
      exact kret_own 4 rfl rfl rfl Tryd.isAgg36 Tryd.sizeOf36 (by simp) (fun w hw => ⟨e2 (by first | (simp only [ml2]; done) | (simp only [ml2]; grind)) (by first | (simp only [ml2]; done) | (simp only [ml2]; grind)), hp_below hw⟩)
  · skip
    refine calls_of_X (G := Gt) Tryd.func25 rfl rfl (Hp (pl w) []) (hp_refl (pl w) trivial rides_true) (good_hp hGF) ?_
    refine xs_plain (E := EE []) ?_
    refine lx_boxr 2 hGF rfl rfl rfl ?_
    intro b2
    refine lx_boxr 3 hGF rfl rfl rfl ?_
    intro b3
    refine lx_allocr 4 hGF zv36 rfl rfl ?_
    intro b4
    refine lx_nil ?_
    refine xs_plain (E := EE []) ?_
    refine lx_fak 0 rfl Tryd.underlying36 rfl Tryd.sizeOf34 (by decide) rfl rfl rfl ?_
    refine lx_loado 2 _ rfl rfl Tryd.isAgg34 Tryd.sizeOf34 (by simp) ld_l rfl rfl ?_
    refine lx_fak 0 rfl Tryd.underlying36 rfl Tryd.sizeOf34 (by decide) rfl rfl rfl ?_
    refine lx_loado 3 _ rfl rfl Tryd.isAgg34 Tryd.sizeOf34 (by simp) ld_l rfl rfl ?_
    refine lx_call rfl rfl ent32 (rmulE _ _) rfl rfl ?_
    refine lx_allocr 5 hGF zv34 rfl rfl ?_
    intro b5
    refine lx_storea 5 hGF rfl rfl rfl Tryd.sizeOf34 (by simp) (by simp) (one_u64 _) rfl ?_
    refine lx_nil ?_
    refine x_seq ?_
    refine xs_plain (E := EE []) ?_
    refine lx_fak 6 rfl Tryd.underlying36 rfl Tryd.sizeOf34 (by decide) rfl rfl rfl ?_
    refine lx_loado 2 _ rfl rfl Tryd.isAgg34 Tryd.sizeOf34 (by simp) (ld_r (by simp)) rfl rfl ?_
    refine lx_callB false rfl rfl ent66 (risZeroE _) (decide_eq_false h) rfl rfl ?_
    refine lx_move rfl rfl rfl ?_
    refine lx_skip rfl rfl rfl ?_
    refine lx_skip rfl rfl rfl ?_
    refine lx_skip rfl rfl rfl ?_
    refine lx_pick rfl rfl rfl rfl rfl ?_
    refine lx_nil ?_
    refine x_false rfl ?_
    refine x_skip ?_
    refine xs_plain (E := EE []) ?_
    refine lx_fak 6 rfl Tryd.underlying36 rfl Tryd.sizeOf34 (by decide) rfl rfl rfl ?_
    refine lx_loado 2 _ rfl rfl Tryd.isAgg34 Tryd.sizeOf34 (by simp) (ld_r (by simp)) rfl rfl ?_
    refine lx_fak 6 rfl Tryd.underlying36 rfl Tryd.sizeOf34 (by decide) rfl rfl rfl ?_
    refine lx_loado 3 _ rfl rfl Tryd.isAgg34 Tryd.sizeOf34 (by simp) (ld_r (by simp)) rfl rfl ?_
    refine lx_call rfl rfl ent32 (rmulE _ _) rfl rfl ?_
    refine lx_allocr 6 hGF zv34 rfl rfl ?_
    intro b6
    refine lx_storea 6 hGF rfl rfl rfl Tryd.sizeOf34 (by simp) (by simp) (one_u64 _) rfl ?_
    refine lx_nil ?_
    refine xs_drawn (E := EE []) mixed (by kernel_rfl) (by kernel_rfl) (by kernel_rfl) ?_
    refine lx_loada 5 rfl rfl Tryd.isAgg34 Tryd.sizeOf34 (by simp) rfl rfl ?_
    refine lx_loada 6 rfl rfl Tryd.isAgg34 Tryd.sizeOf34 (by simp) rfl rfl ?_
    refine lx_call rfl rfl ent63 (rsubE _ _) rfl rfl ?_
    refine lx_fak 0 rfl Tryd.underlying36 rfl Tryd.sizeOf34 (by decide) rfl rfl rfl ?_
    refine lx_loado 2 _ rfl rfl Tryd.isAgg34 Tryd.sizeOf34 (by simp) ld_l rfl rfl ?_
    refine lx_fak 6 rfl Tryd.underlying36 rfl Tryd.sizeOf34 (by decide) rfl rfl rfl ?_
    refine lx_loado 2 _ rfl rfl Tryd.isAgg34 Tryd.sizeOf34 (by simp) (ld_r (by simp)) rfl rfl ?_
    refine lx_call rfl rfl ent61 (raddE _ _) rfl rfl ?_
    refine lx_fak 0 rfl Tryd.underlying36 rfl Tryd.sizeOf34 (by decide) rfl rfl rfl ?_
    refine lx_loado 3 _ rfl rfl Tryd.isAgg34 Tryd.sizeOf34 (by simp) ld_l rfl rfl ?_
    refine lx_fak 6 rfl Tryd.underlying36 rfl Tryd.sizeOf34 (by decide) rfl rfl rfl ?_
    refine lx_loado 3 _ rfl rfl Tryd.isAgg34 Tryd.sizeOf34 (by simp) (ld_r (by simp)) rfl rfl ?_
    refine lx_call rfl rfl ent61 (raddE _ _) rfl rfl ?_
    refine lx_call rfl rfl ent32 (rmulE _ _) rfl rfl ?_
    refine lx_loada 5 rfl rfl Tryd.isAgg34 Tryd.sizeOf34 (by simp) rfl rfl ?_
    refine lx_call rfl rfl ent63 (rsubE _ _) rfl rfl ?_
    refine lx_loada 6 rfl rfl Tryd.isAgg34 Tryd.sizeOf34 (by simp) rfl rfl ?_
    refine lx_call rfl rfl ent63 (rsubE _ _) rfl rfl ?_
    refine lx_two two36 rfl rfl (by simp) (by simp) rfl rfl ?_
    refine lx_storea 4 hGF rfl rfl rfl Tryd.sizeOf36 (by simp) (by simp) (one_u64 _) rfl ?_
    refine lx_nil ?_
    refine x_ret ?_
    repeat (first | refine kseq_ret ?_ | refine kblk_ret ?_)
    exact kret_own 4 rfl rfl rfl Tryd.isAgg36 Tryd.sizeOf36 (by simp) (fun w hw => ⟨e2 (by first | (simp only [ml2]; done) | (simp only [ml2]; grind)) (by first | (simp only [ml2]; done) | (simp only [ml2]; grind)), hp_below hw⟩)
theorem r5norm (x : W2) : Pure Tryd.prog Gt 69 [EV2 x] (EV (nm2 x)) := by
  intro w hw
  have hGF : BOk Gt (pl w) := gt_low.plain hw
  refine calls_of_X (G := Gt) Tryd.func69 rfl rfl (Hp (pl w) []) (hp_refl (pl w) trivial rides_true) (good_hp hGF) ?_
  refine xs_plain (E := EE []) ?_
  refine lx_boxr 1 hGF rfl rfl rfl ?_
  intro b1
  refine lx_allocr 2 hGF zv34 rfl rfl ?_
  intro b2
  refine lx_nil ?_
  refine xs_drawn (E := EE []) mixed (by kernel_rfl) (by kernel_rfl) (by kernel_rfl) ?_
  refine lx_fak 0 rfl Tryd.underlying36 rfl Tryd.sizeOf34 (by decide) rfl rfl rfl ?_
  refine lx_loado 1 _ rfl rfl Tryd.isAgg34 Tryd.sizeOf34 (by simp) ld_l rfl rfl ?_
  refine lx_fak 0 rfl Tryd.underlying36 rfl Tryd.sizeOf34 (by decide) rfl rfl rfl ?_
  refine lx_loado 1 _ rfl rfl Tryd.isAgg34 Tryd.sizeOf34 (by simp) ld_l rfl rfl ?_
  refine lx_call rfl rfl ent32 (rmulE _ _) rfl rfl ?_
  refine lx_fak 6 rfl Tryd.underlying36 rfl Tryd.sizeOf34 (by decide) rfl rfl rfl ?_
  refine lx_loado 1 _ rfl rfl Tryd.isAgg34 Tryd.sizeOf34 (by simp) (ld_r (by simp)) rfl rfl ?_
  refine lx_fak 6 rfl Tryd.underlying36 rfl Tryd.sizeOf34 (by decide) rfl rfl rfl ?_
  refine lx_loado 1 _ rfl rfl Tryd.isAgg34 Tryd.sizeOf34 (by simp) (ld_r (by simp)) rfl rfl ?_
  refine lx_call rfl rfl ent32 (rmulE _ _) rfl rfl ?_
  refine lx_call rfl rfl ent61 (raddE _ _) rfl rfl ?_
  refine lx_storea 2 hGF rfl rfl rfl Tryd.sizeOf34 (by simp) (by simp) (one_u64 _) rfl ?_
  refine lx_nil ?_
  refine x_ret ?_
  repeat (first | refine kseq_ret ?_ | refine kblk_ret ?_)
  exact kret_own 2 rfl rfl rfl Tryd.isAgg34 Tryd.sizeOf34 (by simp) (fun w hw => ⟨rfl, hp_below hw⟩)
theorem r5inv (x : W2) : Pure Tryd.prog Gt 28 [EV2 x] (EV2 (iv2 x)) := by
  intro w hw
  have hGF : BOk Gt (pl w) := gt_low.plain hw
  refine calls_of_X (G := Gt) Tryd.func28 rfl rfl (Hp (pl w) []) (hp_refl (pl w) trivial rides_true) (good_hp hGF) ?_
  refine xs_plain (E := EE []) ?_
  refine lx_boxr 1 hGF rfl rfl rfl ?_
  intro b1
  refine lx_allocr 2 hGF zv36 rfl rfl ?_
  intro b2
  refine lx_nil ?_
  refine xs_plain (E := EE []) ?_
  refine lx_loada 1 rfl rfl Tryd.isAgg36 Tryd.sizeOf36 (by simp) rfl rfl ?_
  refine lx_call rfl rfl ent69 (r5norm _) rfl rfl ?_
  refine lx_call rfl rfl ent70 (rinvE _) rfl rfl ?_
  refine lx_allocr 3 hGF zv34 rfl rfl ?_
  intro b3
  refine lx_storea 3 hGF rfl rfl rfl Tryd.sizeOf34 (by simp) (by simp) (one_u64 _) rfl ?_
  refine lx_nil ?_
  refine xs_drawn (E := EE []) mixed (by kernel_rfl) (by kernel_rfl) (by kernel_rfl) ?_
  refine lx_fak 0 rfl Tryd.underlying36 rfl Tryd.sizeOf34 (by decide) rfl rfl rfl ?_
  refine lx_loado 1 _ rfl rfl Tryd.isAgg34 Tryd.sizeOf34 (by simp) ld_l rfl rfl ?_
  refine lx_loada 3 rfl rfl Tryd.isAgg34 Tryd.sizeOf34 (by simp) rfl rfl ?_
  refine lx_call rfl rfl ent32 (rmulE _ _) rfl rfl ?_
  refine lx_fak 6 rfl Tryd.underlying36 rfl Tryd.sizeOf34 (by decide) rfl rfl rfl ?_
  refine lx_loado 1 _ rfl rfl Tryd.isAgg34 Tryd.sizeOf34 (by simp) (ld_r (by simp)) rfl rfl ?_
  refine lx_call rfl rfl ent65 (rnegE _) rfl rfl ?_
  refine lx_loada 3 rfl rfl Tryd.isAgg34 Tryd.sizeOf34 (by simp) rfl rfl ?_
  refine lx_call rfl rfl ent32 (rmulE _ _) rfl rfl ?_
  refine lx_two two36 rfl rfl (by simp) (by simp) rfl rfl ?_
  refine lx_storea 2 hGF rfl rfl rfl Tryd.sizeOf36 (by simp) (by simp) (one_u64 _) rfl ?_
  refine lx_nil ?_
  refine x_ret ?_
  repeat (first | refine kseq_ret ?_ | refine kblk_ret ?_)
  exact kret_own 2 rfl rfl rfl Tryd.isAgg36 Tryd.sizeOf36 (by simp) (fun w hw => ⟨rfl, hp_below hw⟩)
theorem r5large (x : W2) : Pure Tryd.prog Gt 47 [EV2 x] (.bool (LG2 x)) := by
  intro w hw
  have hGF : BOk Gt (pl w) := gt_low.plain hw
  by_cases h : x.2 = 0
  · skip
    refine calls_of_X (G := Gt) Tryd.func47 rfl rfl (Hp (pl w) []) (hp_refl (pl w) trivial rides_true) (good_hp hGF) ?_
    refine xs_plain (E := EE []) ?_
    refine lx_boxr 1 hGF rfl rfl rfl ?_
    intro b1
    refine lx_assign rfl rfl rfl ?_
    refine lx_nil ?_
    refine x_seq ?_
    refine xs_plain (E := EE []) ?_
    refine lx_fak 6 rfl Tryd.underlying36 rfl Tryd.sizeOf34 (by decide) rfl rfl rfl ?_
    refine lx_loado 1 _ rfl rfl Tryd.isAgg34 Tryd.sizeOf34 (by simp) (ld_r (by simp)) rfl rfl ?_
    refine lx_callB true rfl rfl ent66 (risZeroE _) (decide_eq_true h) rfl rfl ?_
    refine lx_nil ?_
    refine x_true rfl ?_
    refine xs_plain (E := EE []) ?_
    refine lx_fak 0 rfl Tryd.underlying36 rfl Tryd.sizeOf34 (by decide) rfl rfl rfl ?_
    refine lx_loado 1 _ rfl rfl Tryd.isAgg34 Tryd.sizeOf34 (by simp) ld_l rfl rfl ?_
    refine lx_call rfl rfl ent83 (rlargeE _) rfl rfl ?_
    refine lx_assign rfl rfl rfl ?_
    refine lx_nil ?_
    refine x_ret ?_
    repeat (first | refine kseq_ret ?_ | refine kblk_ret ?_)
    exact kret_tmp rfl rfl (fun w hw => ⟨rb (LG2_t h), hp_below hw⟩)
  · skip
    refine calls_of_X (G := Gt) Tryd.func47 rfl rfl (Hp (pl w) []) (hp_refl (pl w) trivial rides_true) (good_hp hGF) ?_
    refine xs_plain (E := EE []) ?_
    refine lx_boxr 1 hGF rfl rfl rfl ?_
    intro b1
    refine lx_assign rfl rfl rfl ?_
    refine lx_nil ?_
    refine x_seq ?_
    refine xs_plain (E := EE []) ?_
    refine lx_fak 6 rfl Tryd.underlying36 rfl Tryd.sizeOf34 (by decide) rfl rfl rfl ?_
    refine lx_loado 1 _ rfl rfl Tryd.isAgg34 Tryd.sizeOf34 (by simp) (ld_r (by simp)) rfl rfl ?_
    refine lx_callB false rfl rfl ent66 (risZeroE _) (decide_eq_false h) rfl rfl ?_
    refine lx_nil ?_
    refine x_false rfl ?_
    refine x_skip ?_
    refine xs_plain (E := EE []) ?_
    refine lx_fak 6 rfl Tryd.underlying36 rfl Tryd.sizeOf34 (by decide) rfl rfl rfl ?_
    refine lx_loado 1 _ rfl rfl Tryd.isAgg34 Tryd.sizeOf34 (by simp) (ld_r (by simp)) rfl rfl ?_
    refine lx_call rfl rfl ent83 (rlargeE _) rfl rfl ?_
    refine lx_assign rfl rfl rfl ?_
    refine lx_nil ?_
    refine x_ret ?_
    repeat (first | refine kseq_ret ?_ | refine kblk_ret ?_)
    exact kret_tmp rfl rfl (fun w hw => ⟨rb (LG2_n h), hp_below hw⟩)
theorem e2rootOfReal (c : Zp) : Pure Tryd.prog Gt 75 [EV c] (EV2 (RO c)) := by
  intro w hw
  have hGF : BOk Gt (pl w) := gt_low.plain hw
  refine calls_of_X (G := Gt) Tryd.func75 rfl rfl (Hp (pl w) []) (hp_refl (pl w) trivial rides_true) (good_hp hGF) ?_
  refine xs_plain (E := EE []) ?_
  refine lx_boxr 1 hGF rfl rfl rfl ?_
  intro b1
  refine lx_allocr 2 hGF zv30 rfl rfl ?_
  intro b2
  refine lx_nil ?_
  refine x_seq ?_
  refine xs_plain (E := EE []) ?_
  refine lx_loada 1 rfl rfl Tryd.isAgg28 Tryd.sizeOf28 (by simp) rfl rfl ?_
  refine lx_call rfl rfl ent76 (fsqrt_pure _) rfl rfl ?_
  refine lx_move rfl rfl rfl ?_
  refine lx_ext rfl rfl rfl rfl ?_
  refine lx_ext rfl rfl rfl rfl ?_
  refine lx_allocr 3 hGF zv28 rfl rfl ?_
  intro b3
  refine lx_storea 3 hGF rfl rfl rfl Tryd.sizeOf28 (by simp) (by simp) (one_u64 _) rfl ?_
  refine lx_assign rfl rfl rfl ?_
  refine lx_nil ?_
  refine xs_plain (E := EE []) ?_
  refine lx_move rfl rfl rfl ?_
  refine lx_nil ?_
  refine x_if rfl (fun hc => ?_) (fun hc => ?_)
  · have h : SQr c * SQr c = c := of_decide_eq_true hc
    refine xs_plain (E := EE []) ?_
    refine lx_loada 3 rfl rfl Tryd.isAgg28 Tryd.sizeOf28 (by simp) rfl rfl ?_
    refine lx_twoA two30 rfl (by simp) rfl rfl ?_
    refine lx_storea 2 hGF rfl rfl rfl Tryd.sizeOf30 (by simp) (by simp) (one_u64 _) rfl ?_
    refine lx_nil ?_
    refine x_ret ?_
    repeat (first | refine kseq_ret ?_ | refine kblk_ret ?_)
    exact kret_own 2 rfl rfl rfl Tryd.isAgg30 Tryd.sizeOf30 (by simp) (fun w hw => ⟨by rw [show RO c = (SQ c, 0) from if_pos h] <;> rfl, hp_below hw⟩)
  · have h : ¬ SQr c * SQr c = c := of_decide_eq_false hc
    refine x_skip ?_
    refine xs_plain (E := EE []) ?_
    refine lx_loada 1 rfl rfl Tryd.isAgg28 Tryd.sizeOf28 (by simp) rfl rfl ?_
    refine lx_call rfl rfl ent64 (fneg_pure _) rfl rfl ?_
    refine lx_call rfl rfl ent76 (fsqrt_pure _) rfl rfl ?_
    refine lx_move rfl rfl rfl ?_
    refine lx_ext rfl rfl rfl rfl ?_
    refine lx_ext rfl rfl rfl rfl ?_
    refine lx_allocr 5 hGF zv28 rfl rfl ?_
    intro b5
    refine lx_storea 5 hGF rfl rfl rfl Tryd.sizeOf28 (by simp) (by simp) (one_u64 _) rfl ?_
    refine lx_assign rfl rfl rfl ?_
    refine lx_nil ?_
    refine xs_plain (E := EE []) ?_
    refine lx_loada 5 rfl rfl Tryd.isAgg28 Tryd.sizeOf28 (by simp) rfl rfl ?_
    refine lx_twoB two30 rfl (by simp) rfl rfl ?_
    refine lx_storea 2 hGF rfl rfl rfl Tryd.sizeOf30 (by simp) (by simp) (one_u64 _) rfl ?_
    refine lx_nil ?_
    refine x_ret ?_
    repeat (first | refine kseq_ret ?_ | refine kblk_ret ?_)
    exact kret_own 2 rfl rfl rfl Tryd.isAgg30 Tryd.sizeOf30 (by simp) (fun w hw => ⟨by rw [show RO c = (0, SQ (-c)) from if_neg h] <;> rfl, hp_below hw⟩)
theorem e2rootBy (x : W2) (n : Zp) : Pure Tryd.prog Gt 77 [EV2 x, EV n] (EV2 (RB x n)) := by
  intro w hw
  have hGF : BOk Gt (pl w) := gt_low.plain hw
  refine calls_of_X (G := Gt) Tryd.func77 rfl rfl (Hp (pl w) []) (hp_refl (pl w) trivial rides_true) (good_hp hGF) ?_
  refine xs_plain (E := EE []) ?_
  refine lx_boxr 2 hGF rfl rfl rfl ?_
  intro b2
  refine lx_boxr 3 hGF rfl rfl rfl ?_
  intro b3
  refine lx_allocr 4 hGF zv30 rfl rfl ?_
  intro b4
  refine lx_nil ?_
  refine xs_plain (E := EE []) ?_
  refine lx_fak 0 rfl Tryd.underlying30 rfl Tryd.sizeOf28 (by decide) rfl rfl rfl ?_
  refine lx_loado 2 _ rfl rfl Tryd.isAgg28 Tryd.sizeOf28 (by simp) ld_l rfl rfl ?_
  refine lx_loada 3 rfl rfl Tryd.isAgg28 Tryd.sizeOf28 (by simp) rfl rfl ?_
  refine lx_call rfl rfl ent51 (fadd_pure _ _) rfl rfl ?_
  refine lx_allocr 5 hGF zv28 rfl rfl ?_
  intro b5
  refine lx_storea 5 hGF rfl rfl rfl Tryd.sizeOf28 (by simp) (by simp) (one_u64 _) rfl ?_
  refine lx_nil ?_
  refine xs_plain (E := EE []) ?_
  refine lx_loada 5 rfl rfl Tryd.isAgg28 Tryd.sizeOf28 (by simp) rfl rfl ?_
  refine lx_loada 5 rfl rfl Tryd.isAgg28 Tryd.sizeOf28 (by simp) rfl rfl ?_
  refine lx_call rfl rfl ent51 (fadd_pure _ _) rfl rfl ?_
  refine lx_allocr 6 hGF zv28 rfl rfl ?_
  intro b6
  refine lx_storea 6 hGF rfl rfl rfl Tryd.sizeOf28 (by simp) (by simp) (one_u64 _) rfl ?_
  refine lx_nil ?_
  refine x_seq ?_
  refine xs_plain (E := EE []) ?_
  refine lx_loada 6 rfl rfl Tryd.isAgg28 Tryd.sizeOf28 (by simp) rfl rfl ?_
  refine lx_call rfl rfl ent76 (fsqrt_pure _) rfl rfl ?_
  refine lx_move rfl rfl rfl ?_
  refine lx_ext rfl rfl rfl rfl ?_
  refine lx_ext rfl rfl rfl rfl ?_
  refine lx_allocr 7 hGF zv28 rfl rfl ?_
  intro b7
  refine lx_storea 7 hGF rfl rfl rfl Tryd.sizeOf28 (by simp) (by simp) (one_u64 _) rfl ?_
  refine lx_assign rfl rfl rfl ?_
  refine lx_nil ?_
  refine xs_plain (E := EE []) ?_
  refine lx_move rfl rfl rfl ?_
  refine lx_nil ?_
  refine x_if rfl (fun hc => ?_) (fun hc => ?_)
  · have h : SQr (RBs x n) * SQr (RBs x n) = RBs x n := of_decide_eq_true hc
    refine xs_plain (E := EE []) ?_
    refine lx_loada 7 rfl rfl Tryd.isAgg28 Tryd.sizeOf28 (by simp) rfl rfl ?_
    refine lx_call rfl rfl ent68 (finv_pure _) rfl rfl ?_
    refine lx_allocr 9 hGF zv28 rfl rfl ?_
    intro b9
    refine lx_storea 9 hGF rfl rfl rfl Tryd.sizeOf28 (by simp) (by simp) (one_u64 _) rfl ?_
    refine lx_nil ?_
    refine xs_drawn (E := EE []) mixed (by kernel_rfl) (by kernel_rfl) (by kernel_rfl) ?_
    refine lx_loada 5 rfl rfl Tryd.isAgg28 Tryd.sizeOf28 (by simp) rfl rfl ?_
    refine lx_loada 9 rfl rfl Tryd.isAgg28 Tryd.sizeOf28 (by simp) rfl rfl ?_
    refine lx_call rfl rfl ent56 (fmul_pure _ _) rfl rfl ?_
    refine lx_fak 6 rfl Tryd.underlying30 rfl Tryd.sizeOf28 (by decide) rfl rfl rfl ?_
    refine lx_loado 2 _ rfl rfl Tryd.isAgg28 Tryd.sizeOf28 (by simp) (ld_r (by simp)) rfl rfl ?_
    refine lx_loada 9 rfl rfl Tryd.isAgg28 Tryd.sizeOf28 (by simp) rfl rfl ?_
    refine lx_call rfl rfl ent56 (fmul_pure _ _) rfl rfl ?_
    refine lx_two two30 rfl rfl (by simp) (by simp) rfl rfl ?_
    refine lx_storea 4 hGF rfl rfl rfl Tryd.sizeOf30 (by simp) (by simp) (one_u64 _) rfl ?_
    refine lx_nil ?_
    refine x_ret ?_
    repeat (first | refine kseq_ret ?_ | refine kblk_ret ?_)
    exact kret_own 4 rfl rfl rfl Tryd.isAgg30 Tryd.sizeOf30 (by simp) (fun w hw => ⟨by rw [show RB x n = _ from if_pos h] <;> rfl, hp_below hw⟩)
  · have h : ¬ SQr (RBs x n) * SQr (RBs x n) = RBs x n := of_decide_eq_false hc
    refine x_skip ?_
    refine xs_plain (E := EE []) ?_
    refine lx_loada 6 rfl rfl Tryd.isAgg28 Tryd.sizeOf28 (by simp) rfl rfl ?_
    refine lx_call rfl rfl ent64 (fneg_pure _) rfl rfl ?_
    refine lx_call rfl rfl ent76 (fsqrt_pure _) rfl rfl ?_
    refine lx_move rfl rfl rfl ?_
    refine lx_ext rfl rfl rfl rfl ?_
    refine lx_ext rfl rfl rfl rfl ?_
    refine lx_allocr 10 hGF zv28 rfl rfl ?_
    intro b10
    refine lx_storea 10 hGF rfl rfl rfl Tryd.sizeOf28 (by simp) (by simp) (one_u64 _) rfl ?_
    refine lx_assign rfl rfl rfl ?_
    refine lx_nil ?_
    refine xs_plain (E := EE []) ?_
    refine lx_loada 10 rfl rfl Tryd.isAgg28 Tryd.sizeOf28 (by simp) rfl rfl ?_
    refine lx_call rfl rfl ent68 (finv_pure _) rfl rfl ?_
    refine lx_allocr 12 hGF zv28 rfl rfl ?_
    intro b12
    refine lx_storea 12 hGF rfl rfl rfl Tryd.sizeOf28 (by simp) (by simp) (one_u64 _) rfl ?_
    refine lx_nil ?_
    refine xs_drawn (E := EE []) mixed (by kernel_rfl) (by kernel_rfl) (by kernel_rfl) ?_
    refine lx_fak 6 rfl Tryd.underlying30 rfl Tryd.sizeOf28 (by decide) rfl rfl rfl ?_
    refine lx_loado 2 _ rfl rfl Tryd.isAgg28 Tryd.sizeOf28 (by simp) (ld_r (by simp)) rfl rfl ?_
    refine lx_loada 12 rfl rfl Tryd.isAgg28 Tryd.sizeOf28 (by simp) rfl rfl ?_
    refine lx_call rfl rfl ent56 (fmul_pure _ _) rfl rfl ?_
    refine lx_loada 5 rfl rfl Tryd.isAgg28 Tryd.sizeOf28 (by simp) rfl rfl ?_
    refine lx_call rfl rfl ent64 (fneg_pure _) rfl rfl ?_
    refine lx_loada 12 rfl rfl Tryd.isAgg28 Tryd.sizeOf28 (by simp) rfl rfl ?_
    refine lx_call rfl rfl ent56 (fmul_pure _ _) rfl rfl ?_
    refine lx_two two30 rfl rfl (by simp) (by simp) rfl rfl ?_
    refine lx_storea 4 hGF rfl rfl rfl Tryd.sizeOf30 (by simp) (by simp) (one_u64 _) rfl ?_
    refine lx_nil ?_
    refine x_ret ?_
    repeat (first | refine kseq_ret ?_ | refine kblk_ret ?_)
    exact kret_own 4 rfl rfl rfl Tryd.isAgg30 Tryd.sizeOf30 (by simp) (fun w hw => ⟨by rw [show RB x n = _ from if_neg h] <;> rfl, hp_below hw⟩)
theorem e2sqrtY (x r : W2) (hr : ml2 r r = x) (hl : LG2 r = false) : Pure Tryd.prog Gt 41 [EV2 x] (.tuple #[EV2 r, .bool true]) := by
  intro w hw
  have hGF : BOk Gt (pl w) := gt_low.plain hw
  by_cases h : x.2 = 0
  · skip
    refine calls_of_X (G := Gt) Tryd.func41 rfl rfl (Hp (pl w) []) (hp_refl (pl w) trivial rides_true) (good_hp hGF) ?_
    refine xs_plain (E := EE []) ?_
    refine lx_boxr 1 hGF rfl rfl rfl ?_
    intro b1
    refine lx_allocr 2 hGF zv30 rfl rfl ?_
    intro b2
    refine lx_assign rfl rfl rfl ?_
    refine lx_nil ?_
    refine x_seq ?_
    refine xs_plain (E := EE []) ?_
    refine lx_fak 6 rfl Tryd.underlying30 rfl Tryd.sizeOf28 (by decide) rfl rfl rfl ?_
    refine lx_loado 1 _ rfl rfl Tryd.isAgg28 Tryd.sizeOf28 (by simp) (ld_r (by simp)) rfl rfl ?_
    refine lx_callB true rfl rfl ent48 (fisZero_pure _) (decide_eq_true h) rfl rfl ?_
    refine lx_nil ?_
    refine x_true rfl ?_
    refine xs_plain (E := EE []) ?_
    refine lx_fak 0 rfl Tryd.underlying30 rfl Tryd.sizeOf28 (by decide) rfl rfl rfl ?_
    refine lx_loado 1 _ rfl rfl Tryd.isAgg28 Tryd.sizeOf28 (by simp) ld_l rfl rfl ?_
    refine lx_call rfl rfl ent75 (e2rootOfReal _) rfl rfl ?_
    refine lx_storea 2 hGF rfl rfl rfl Tryd.sizeOf30 (by simp) (by simp) (one_u64 _) rfl ?_
    refine lx_assign rfl rfl rfl ?_
    refine lx_nil ?_
    refine x_ret ?_
    repeat (first | refine kseq_ret ?_ | refine kblk_ret ?_)
    exact kret_ct 2 rfl rfl rfl rfl Tryd.isAgg30 Tryd.sizeOf30 (by simp) (fun w hw => ⟨by rw [← root_re hr hl h] <;> rfl, hp_below hw⟩)
  · skip
    refine calls_of_X (G := Gt) Tryd.func41 rfl rfl (Hp (pl w) []) (hp_refl (pl w) trivial rides_true) (good_hp hGF) ?_
    refine xs_plain (E := EE []) ?_
    refine lx_boxr 1 hGF rfl rfl rfl ?_
    intro b1
    refine lx_allocr 2 hGF zv30 rfl rfl ?_
    intro b2
    refine lx_assign rfl rfl rfl ?_
    refine lx_nil ?_
    refine x_seq ?_
    refine xs_plain (E := EE []) ?_
    refine lx_fak 6 rfl Tryd.underlying30 rfl Tryd.sizeOf28 (by decide) rfl rfl rfl ?_
    refine lx_loado 1 _ rfl rfl Tryd.isAgg28 Tryd.sizeOf28 (by simp) (ld_r (by simp)) rfl rfl ?_
    refine lx_callB false rfl rfl ent48 (fisZero_pure _) (decide_eq_false h) rfl rfl ?_
    refine lx_nil ?_
    refine x_false rfl ?_
    refine x_skip ?_
    refine xs_plain (E := EE []) ?_
    refine lx_loada 1 rfl rfl Tryd.isAgg30 Tryd.sizeOf30 (by simp) rfl rfl ?_
    refine lx_call rfl rfl ent67 (e2norm _) rfl rfl ?_
    refine lx_call rfl rfl ent76 (sqY (nm2_sq hr)) rfl rfl ?_
    refine lx_move rfl rfl rfl ?_
    refine lx_ext rfl rfl rfl rfl ?_
    refine lx_ext rfl rfl rfl rfl ?_
    refine lx_allocr 4 hGF zv28 rfl rfl ?_
    intro b4
    refine lx_storea 4 hGF rfl rfl rfl Tryd.sizeOf28 (by simp) (by simp) (one_u64 _) rfl ?_
    refine lx_assign rfl rfl rfl ?_
    refine lx_nil ?_
    refine x_seq ?_
    refine xs_plain (E := EE []) ?_
    refine lx_move rfl rfl rfl ?_
    refine lx_un rfl (fun _ => un_not _) rfl rfl ?_
    refine lx_nil ?_
    refine x_false rfl ?_
    refine x_skip ?_
    refine xs_plain (E := EE []) ?_
    refine lx_loada 1 rfl rfl Tryd.isAgg30 Tryd.sizeOf30 (by simp) rfl rfl ?_
    refine lx_loada 4 rfl rfl Tryd.isAgg28 Tryd.sizeOf28 (by simp) rfl rfl ?_
    refine lx_call rfl rfl ent77 (e2rootBy _ _) rfl rfl ?_
    refine lx_allocr 6 hGF zv30 rfl rfl ?_
    intro b6
    refine lx_storea 6 hGF rfl rfl rfl Tryd.sizeOf30 (by simp) (by simp) (one_u64 _) rfl ?_
    refine lx_nil ?_
    refine x_seq ?_
    refine xs_plain (E := EE []) ?_
    refine lx_loada 6 rfl rfl Tryd.isAgg30 Tryd.sizeOf30 (by simp) rfl rfl ?_
    refine lx_call rfl rfl ent44 (e2large _) rfl rfl ?_
    refine lx_nil ?_
    refine x_if rfl (fun hc => ?_) (fun hc => ?_)
    · skip
      refine x_plain (E := EE []) ?_
      refine lx_loada 6 rfl rfl Tryd.isAgg30 Tryd.sizeOf30 (by simp) rfl rfl ?_
      refine lx_call rfl rfl ent20 (e2neg _) rfl rfl ?_
      refine lx_storea 6 hGF rfl rfl rfl Tryd.sizeOf30 (by simp) (by simp) (one_u64 _) rfl ?_
      refine lx_nil ?_
      refine xs_plain (E := EE []) ?_
      refine lx_loada 6 rfl rfl Tryd.isAgg30 Tryd.sizeOf30 (by simp) rfl rfl ?_
      refine lx_storea 2 hGF rfl rfl rfl Tryd.sizeOf30 (by simp) (by simp) (one_u64 _) rfl ?_
      refine lx_assign rfl rfl rfl ?_
      refine lx_nil ?_
      refine x_ret ?_
      repeat (first | refine kseq_ret ?_ | refine kblk_ret ?_)
      exact kret_ct 2 rfl rfl rfl rfl Tryd.isAgg30 Tryd.sizeOf30 (by simp) (fun w hw => ⟨by rw [← root_rb hr hl h, NL, if_pos hc] <;> rfl, hp_below hw⟩)
    · skip
      refine x_skip ?_
      refine xs_plain (E := EE []) ?_
      refine lx_loada 6 rfl rfl Tryd.isAgg30 Tryd.sizeOf30 (by simp) rfl rfl ?_
      refine lx_storea 2 hGF rfl rfl rfl Tryd.sizeOf30 (by simp) (by simp) (one_u64 _) rfl ?_
      refine lx_assign rfl rfl rfl ?_
      refine lx_nil ?_
      refine x_ret ?_
      repeat (first | refine kseq_ret ?_ | refine kblk_ret ?_)
      exact kret_ct 2 rfl rfl rfl rfl Tryd.isAgg30 Tryd.sizeOf30 (by simp) (fun w hw => ⟨by rw [← root_rb hr hl h, NL, if_neg (by rw [hc]; exact Bool.false_ne_true)] <;> rfl, hp_below hw⟩)
theorem e2sqrtN (x : W2) (hq : ¬ IsQ (nm2 x)) : Pure Tryd.prog Gt 41 [EV2 x] (.tuple #[EV2 ze2, .bool false]) := by
  intro w hw
  have hGF : BOk Gt (pl w) := gt_low.plain hw
  refine calls_of_X (G := Gt) Tryd.func41 rfl rfl (Hp (pl w) []) (hp_refl (pl w) trivial rides_true) (good_hp hGF) ?_
  refine xs_plain (E := EE []) ?_
  refine lx_boxr 1 hGF rfl rfl rfl ?_
  intro b1
  refine lx_allocr 2 hGF zv30 rfl rfl ?_
  intro b2
  refine lx_assign rfl rfl rfl ?_
  refine lx_nil ?_
  refine x_seq ?_
  refine xs_plain (E := EE []) ?_
  refine lx_fak 6 rfl Tryd.underlying30 rfl Tryd.sizeOf28 (by decide) rfl rfl rfl ?_
  refine lx_loado 1 _ rfl rfl Tryd.isAgg28 Tryd.sizeOf28 (by simp) (ld_r (by simp)) rfl rfl ?_
  refine lx_callB false rfl rfl ent48 (fisZero_pure _) (decide_eq_false (no_re hq)) rfl rfl ?_
  refine lx_nil ?_
  refine x_false rfl ?_
  refine x_skip ?_
  refine xs_plain (E := EE []) ?_
  refine lx_loada 1 rfl rfl Tryd.isAgg30 Tryd.sizeOf30 (by simp) rfl rfl ?_
  refine lx_call rfl rfl ent67 (e2norm _) rfl rfl ?_
  refine lx_call rfl rfl ent76 (sqN hq) rfl rfl ?_
  refine lx_move rfl rfl rfl ?_
  refine lx_ext rfl rfl rfl rfl ?_
  refine lx_ext rfl rfl rfl rfl ?_
  refine lx_allocr 4 hGF zv28 rfl rfl ?_
  intro b4
  refine lx_storea 4 hGF rfl rfl rfl Tryd.sizeOf28 (by simp) (by simp) (one_u64 _) rfl ?_
  refine lx_assign rfl rfl rfl ?_
  refine lx_nil ?_
  refine x_seq ?_
  refine xs_plain (E := EE []) ?_
  refine lx_move rfl rfl rfl ?_
  refine lx_un rfl (fun _ => un_not _) rfl rfl ?_
  refine lx_nil ?_
  refine x_true rfl ?_
  refine xs_plain (E := EE []) ?_
  refine lx_two0 two30 rfl rfl ?_
  refine lx_storea 2 hGF rfl rfl rfl Tryd.sizeOf30 (by simp) (by simp) (one_u64 _) rfl ?_
  refine lx_assign rfl rfl rfl ?_
  refine lx_nil ?_
  refine x_ret ?_
  repeat (first | refine kseq_ret ?_ | refine kblk_ret ?_)
  exact kret_ct 2 rfl rfl rfl rfl Tryd.isAgg30 Tryd.sizeOf30 (by simp) (fun w hw => ⟨rfl, hp_below hw⟩)
theorem r5mulC (a b c d : Zp) : Pure Tryd.prog Gt 25 [.agg ((fe a ++ fe b).map U64).toArray, .agg ((fe c ++ fe d).map U64).toArray] (EV2 (ml2 (a, b) (c, d))) := r5mul (a, b) (c, d)
theorem r5largeC (a b : Zp) : Pure Tryd.prog Gt 47 [.agg ((fe a ++ fe b).map U64).toArray] (.bool (LG2 (a, b))) := r5large (a, b)
theorem r5negC (a b : Zp) : Pure Tryd.prog Gt 21 [.agg ((fe a ++ fe b).map U64).toArray] (EV2 (ng2 (a, b))) := r5neg (a, b)
theorem rp2 {a b : Zp} {r : W2} (h : (a, b) = r) : Ending.returned (.tuple #[.agg ((fe a ++ fe b).map U64).toArray, .bool true]) = .returned (.tuple #[EV2 r, .bool true]) := by subst h; rfl
theorem rq2 {x r : W2} (h : x = r) : Ending.returned (.tuple #[EV2 x, .bool true]) = .returned (.tuple #[EV2 r, .bool true]) := by subst h; rfl
theorem NL_t {x : W2} (h : LG2 x = true) : ng2 x = NL x := by rw [NL, if_pos h]
theorem NL_f {x : W2} (h : LG2 x = false) : x = NL x := by rw [NL, if_neg (by rw [h]; exact Bool.false_ne_true)]
theorem r5sqrtY (x r : W2) (hr : ml2 r r = x) (hl : LG2 r = false) : Pure Tryd.prog Gt 42 [EV2 x] (.tuple #[EV2 r, .bool true]) := by
  intro w hw
  have hGF : BOk Gt (pl w) := gt_low.plain hw
  by_cases h : x.2 = 0
  · skip
    by_cases q : SQr x.1 * SQr x.1 = x.1
    · skip
      have e : r = (SQ x.1, 0) := (root_re hr hl h).symm.trans (if_pos q)
      refine calls_of_X (G := Gt) Tryd.func42 rfl rfl (Hp (pl w) []) (hp_refl (pl w) trivial rides_true) (good_hp hGF) ?_
      refine xs_plain (E := EE []) ?_
      refine lx_boxr 1 hGF rfl rfl rfl ?_
      intro b1
      refine lx_allocr 2 hGF zv36 rfl rfl ?_
      intro b2
      refine lx_assign rfl rfl rfl ?_
      refine lx_nil ?_
      refine xs_plain (E := EE []) ?_
      refine lx_allocr 4 hGF zv36 rfl rfl ?_
      intro b4
      refine lx_nil ?_
      refine x_seq ?_
      refine xs_plain (E := EE []) ?_
      refine lx_fak 6 rfl Tryd.underlying36 rfl Tryd.sizeOf34 (by decide) rfl rfl rfl ?_
      refine lx_loado 1 _ rfl rfl Tryd.isAgg34 Tryd.sizeOf34 (by simp) (ld_r (by simp)) rfl rfl ?_
      refine lx_callB true rfl rfl ent66 (risZeroE _) (decide_eq_true h) rfl rfl ?_
      refine lx_nil ?_
      refine x_true rfl ?_
      refine xs_plain (E := EE []) ?_
      refine lx_fak 0 rfl Tryd.underlying36 rfl Tryd.sizeOf34 (by decide) rfl rfl rfl ?_
      refine lx_loado 1 _ rfl rfl Tryd.isAgg34 Tryd.sizeOf34 (by simp) ld_l rfl rfl ?_
      refine lx_call rfl rfl ent78 (rsqY q) rfl rfl ?_
      refine lx_move rfl rfl rfl ?_
      refine lx_ext rfl rfl rfl rfl ?_
      refine lx_ext rfl rfl rfl rfl ?_
      refine lx_allocr 5 hGF zv34 rfl rfl ?_
      intro b5
      refine lx_storea 5 hGF rfl rfl rfl Tryd.sizeOf34 (by simp) (by simp) (one_u64 _) rfl ?_
      refine lx_assign rfl rfl rfl ?_
      refine lx_nil ?_
      refine xs_plain (E := EE []) ?_
      refine lx_loada 5 rfl rfl Tryd.isAgg34 Tryd.sizeOf34 (by simp) rfl rfl ?_
      refine lx_fak 0 rfl Tryd.underlying36 rfl Tryd.sizeOf34 (by decide) rfl rfl rfl ?_
      refine lx_storeo 4 _ hGF rfl rfl rfl Tryd.sizeOf34 (by simp) (one_u64 _) (by simp) (lay_l (by simp)) rfl ?_
      refine lx_nil ?_
      refine xs_plain (E := EE []) ?_
      refine lx_move rfl rfl rfl ?_
      refine lx_un rfl (fun _ => un_not _) rfl rfl ?_
      refine lx_nil ?_
      refine x_false rfl ?_
      refine x_skip ?_
      refine x_seq ?_
      refine xs_drawn (E := EE []) mixed (by kernel_rfl) (by kernel_rfl) (by kernel_rfl) ?_
      refine lx_loada 4 rfl rfl Tryd.isAgg36 Tryd.sizeOf36 (by simp) rfl rfl ?_
      refine lx_loada 4 rfl rfl Tryd.isAgg36 Tryd.sizeOf36 (by simp) rfl rfl ?_
      refine lx_call rfl rfl ent25 (r5mulC _ _ _ _) rfl rfl ?_
      refine lx_loada 1 rfl rfl Tryd.isAgg36 Tryd.sizeOf36 (by simp) rfl rfl ?_
      refine lx_binB false rfl rfl (fun _ => eqg36 _ _ _ _ _ _) (fun w => nev36 _ _ (by simp) (by simp) w) (nf (x := x) (y := ml2 (SQ x.1, 0) (SQ x.1, 0)) (e ▸ hr)) rfl rfl ?_
      refine lx_nil ?_
      refine x_false rfl ?_
      refine x_skip ?_
      refine x_seq ?_
      refine xs_plain (E := EE []) ?_
      refine lx_loada 4 rfl rfl Tryd.isAgg36 Tryd.sizeOf36 (by simp) rfl rfl ?_
      refine lx_callB false rfl rfl ent47 (r5largeC _ _) (e ▸ hl) rfl rfl ?_
      refine lx_nil ?_
      refine x_false rfl ?_
      refine x_skip ?_
      refine xs_plain (E := EE []) ?_
      refine lx_loada 4 rfl rfl Tryd.isAgg36 Tryd.sizeOf36 (by simp) rfl rfl ?_
      refine lx_storea 2 hGF rfl rfl rfl Tryd.sizeOf36 (by simp) (by simp) (one_u64 _) rfl ?_
      refine lx_assign rfl rfl rfl ?_
      refine lx_nil ?_
      refine x_ret ?_
      repeat (first | refine kseq_ret ?_ | refine kblk_ret ?_)
      exact kret_ct 2 rfl rfl rfl rfl Tryd.isAgg36 Tryd.sizeOf36 (by simp) (fun w hw => ⟨rp2 e.symm, hp_below hw⟩)
    · skip
      have e : r = (0, SQ (-x.1)) := (root_re hr hl h).symm.trans (if_neg q)
      refine calls_of_X (G := Gt) Tryd.func42 rfl rfl (Hp (pl w) []) (hp_refl (pl w) trivial rides_true) (good_hp hGF) ?_
      refine xs_plain (E := EE []) ?_
      refine lx_boxr 1 hGF rfl rfl rfl ?_
      intro b1
      refine lx_allocr 2 hGF zv36 rfl rfl ?_
      intro b2
      refine lx_assign rfl rfl rfl ?_
      refine lx_nil ?_
      refine xs_plain (E := EE []) ?_
      refine lx_allocr 4 hGF zv36 rfl rfl ?_
      intro b4
      refine lx_nil ?_
      refine x_seq ?_
      refine xs_plain (E := EE []) ?_
      refine lx_fak 6 rfl Tryd.underlying36 rfl Tryd.sizeOf34 (by decide) rfl rfl rfl ?_
      refine lx_loado 1 _ rfl rfl Tryd.isAgg34 Tryd.sizeOf34 (by simp) (ld_r (by simp)) rfl rfl ?_
      refine lx_callB true rfl rfl ent66 (risZeroE _) (decide_eq_true h) rfl rfl ?_
      refine lx_nil ?_
      refine x_true rfl ?_
      refine xs_plain (E := EE []) ?_
      refine lx_fak 0 rfl Tryd.underlying36 rfl Tryd.sizeOf34 (by decide) rfl rfl rfl ?_
      refine lx_loado 1 _ rfl rfl Tryd.isAgg34 Tryd.sizeOf34 (by simp) ld_l rfl rfl ?_
      refine lx_call rfl rfl ent78 (rsqN q) rfl rfl ?_
      refine lx_move rfl rfl rfl ?_
      refine lx_ext rfl rfl rfl rfl ?_
      refine lx_ext rfl rfl rfl rfl ?_
      refine lx_allocr 5 hGF zv34 rfl rfl ?_
      intro b5
      refine lx_storea 5 hGF rfl rfl rfl Tryd.sizeOf34 (by simp) (by simp) (one_u64 _) rfl ?_
      refine lx_assign rfl rfl rfl ?_
      refine lx_nil ?_
      refine xs_plain (E := EE []) ?_
      refine lx_loada 5 rfl rfl Tryd.isAgg34 Tryd.sizeOf34 (by simp) rfl rfl ?_
      refine lx_fak 0 rfl Tryd.underlying36 rfl Tryd.sizeOf34 (by decide) rfl rfl rfl ?_
      refine lx_storeo 4 _ hGF rfl rfl rfl Tryd.sizeOf34 (by simp) (one_u64 _) (by simp) (lay_l (by simp)) rfl ?_
      refine lx_nil ?_
      refine xs_plain (E := EE []) ?_
      refine lx_move rfl rfl rfl ?_
      refine lx_un rfl (fun _ => un_not _) rfl rfl ?_
      refine lx_nil ?_
      refine x_true rfl ?_
      refine xs_plain (E := EE []) ?_
      refine lx_fak 0 rfl Tryd.underlying36 rfl Tryd.sizeOf34 (by decide) rfl rfl rfl ?_
      refine lx_loado 1 _ rfl rfl Tryd.isAgg34 Tryd.sizeOf34 (by simp) ld_l rfl rfl ?_
      refine lx_call rfl rfl ent65 (rnegE _) rfl rfl ?_
      refine lx_call rfl rfl ent78 (rsqrtE _) rfl rfl ?_
      refine lx_move rfl rfl rfl ?_
      refine lx_ext rfl rfl rfl rfl ?_
      refine lx_ext rfl rfl rfl rfl ?_
      refine lx_storea 5 hGF rfl rfl rfl Tryd.sizeOf34 (by simp) (by simp) (one_u64 _) rfl ?_
      refine lx_nil ?_
      refine x_plain (E := EE []) ?_
      refine lx_loada 5 rfl rfl Tryd.isAgg34 Tryd.sizeOf34 (by simp) rfl rfl ?_
      refine lx_twoB two36 rfl (by simp) rfl rfl ?_
      refine lx_storea 4 hGF rfl rfl rfl Tryd.sizeOf36 (by simp) (by simp) (one_u64 _) rfl ?_
      refine lx_nil ?_
      refine x_seq ?_
      refine xs_drawn (E := EE []) mixed (by kernel_rfl) (by kernel_rfl) (by kernel_rfl) ?_
      refine lx_loada 4 rfl rfl Tryd.isAgg36 Tryd.sizeOf36 (by simp) rfl rfl ?_
      refine lx_loada 4 rfl rfl Tryd.isAgg36 Tryd.sizeOf36 (by simp) rfl rfl ?_
      refine lx_call rfl rfl ent25 (r5mulC _ _ _ _) rfl rfl ?_
      refine lx_loada 1 rfl rfl Tryd.isAgg36 Tryd.sizeOf36 (by simp) rfl rfl ?_
      refine lx_binB false rfl rfl (fun _ => eqg36 _ _ _ _ _ _) (fun w => nev36 _ _ (by simp) (by simp) w) (nf (x := x) (y := ml2 (0, SQ (-x.1)) (0, SQ (-x.1))) (e ▸ hr)) rfl rfl ?_
      refine lx_nil ?_
      refine x_false rfl ?_
      refine x_skip ?_
      refine x_seq ?_
      refine xs_plain (E := EE []) ?_
      refine lx_loada 4 rfl rfl Tryd.isAgg36 Tryd.sizeOf36 (by simp) rfl rfl ?_
      refine lx_callB false rfl rfl ent47 (r5largeC _ _) (e ▸ hl) rfl rfl ?_
      refine lx_nil ?_
      refine x_false rfl ?_
      refine x_skip ?_
      refine xs_plain (E := EE []) ?_
      refine lx_loada 4 rfl rfl Tryd.isAgg36 Tryd.sizeOf36 (by simp) rfl rfl ?_
      refine lx_storea 2 hGF rfl rfl rfl Tryd.sizeOf36 (by simp) (by simp) (one_u64 _) rfl ?_
      refine lx_assign rfl rfl rfl ?_
      refine lx_nil ?_
      refine x_ret ?_
      repeat (first | refine kseq_ret ?_ | refine kblk_ret ?_)
      exact kret_ct 2 rfl rfl rfl rfl Tryd.isAgg36 Tryd.sizeOf36 (by simp) (fun w hw => ⟨rp2 e.symm, hp_below hw⟩)
  · skip
    by_cases q : SQr ((x.1 + (SQ (nm2 x))) * (zp 2 ^ (PP - 2))) * SQr ((x.1 + (SQ (nm2 x))) * (zp 2 ^ (PP - 2))) = (x.1 + (SQ (nm2 x))) * (zp 2 ^ (PP - 2))
    · skip
      have e1 : RF x (SQ (nm2 x)) (zp 2 ^ (PP - 2)) = (SQ ((x.1 + (SQ (nm2 x))) * (zp 2 ^ (PP - 2))), x.2 * (zp 2 ^ (PP - 2)) * SQ ((x.1 + (SQ (nm2 x))) * (zp 2 ^ (PP - 2))) ^ (PP - 2)) := if_pos q
      have e : NL (SQ ((x.1 + (SQ (nm2 x))) * (zp 2 ^ (PP - 2))), x.2 * (zp 2 ^ (PP - 2)) * SQ ((x.1 + (SQ (nm2 x))) * (zp 2 ^ (PP - 2))) ^ (PP - 2)) = r := e1 ▸ root_rf hr hl half_two h
      have e0 : ml2 (SQ ((x.1 + (SQ (nm2 x))) * (zp 2 ^ (PP - 2))), x.2 * (zp 2 ^ (PP - 2)) * SQ ((x.1 + (SQ (nm2 x))) * (zp 2 ^ (PP - 2))) ^ (PP - 2)) (SQ ((x.1 + (SQ (nm2 x))) * (zp 2 ^ (PP - 2))), x.2 * (zp 2 ^ (PP - 2)) * SQ ((x.1 + (SQ (nm2 x))) * (zp 2 ^ (PP - 2))) ^ (PP - 2)) = x := e1 ▸ RF_sq (SQ_sq (nm2_sq hr)) half_two h
      refine calls_of_X (G := Gt) Tryd.func42 rfl rfl (Hp (pl w) []) (hp_refl (pl w) trivial rides_true) (good_hp hGF) ?_
      refine xs_plain (E := EE []) ?_
      refine lx_boxr 1 hGF rfl rfl rfl ?_
      intro b1
      refine lx_allocr 2 hGF zv36 rfl rfl ?_
      intro b2
      refine lx_assign rfl rfl rfl ?_
      refine lx_nil ?_
      refine xs_plain (E := EE []) ?_
      refine lx_allocr 4 hGF zv36 rfl rfl ?_
      intro b4
      refine lx_nil ?_
      refine x_seq ?_
      refine xs_plain (E := EE []) ?_
      refine lx_fak 6 rfl Tryd.underlying36 rfl Tryd.sizeOf34 (by decide) rfl rfl rfl ?_
      refine lx_loado 1 _ rfl rfl Tryd.isAgg34 Tryd.sizeOf34 (by simp) (ld_r (by simp)) rfl rfl ?_
      refine lx_callB false rfl rfl ent66 (risZeroE _) (decide_eq_false h) rfl rfl ?_
      refine lx_nil ?_
      refine x_false rfl ?_
      refine xs_plain (E := EE []) ?_
      refine lx_loada 1 rfl rfl Tryd.isAgg36 Tryd.sizeOf36 (by simp) rfl rfl ?_
      refine lx_call rfl rfl ent69 (r5norm _) rfl rfl ?_
      refine lx_call rfl rfl ent78 (rsqY (nm2_sq hr)) rfl rfl ?_
      refine lx_move rfl rfl rfl ?_
      refine lx_ext rfl rfl rfl rfl ?_
      refine lx_ext rfl rfl rfl rfl ?_
      refine lx_allocr 7 hGF zv34 rfl rfl ?_
      intro b7
      refine lx_storea 7 hGF rfl rfl rfl Tryd.sizeOf34 (by simp) (by simp) (one_u64 _) rfl ?_
      refine lx_assign rfl rfl rfl ?_
      refine lx_nil ?_
      refine x_seq ?_
      refine xs_plain (E := EE []) ?_
      refine lx_move rfl rfl rfl ?_
      refine lx_un rfl (fun _ => un_not _) rfl rfl ?_
      refine lx_nil ?_
      refine x_false rfl ?_
      refine x_skip ?_
      refine xs_plain (E := EE []) ?_
      refine lx_call rfl rfl ent79 (rsmall2) rfl rfl ?_
      refine lx_call rfl rfl ent70 (rinvE _) rfl rfl ?_
      refine lx_allocr 9 hGF zv34 rfl rfl ?_
      intro b9
      refine lx_storea 9 hGF rfl rfl rfl Tryd.sizeOf34 (by simp) (by simp) (one_u64 _) rfl ?_
      refine lx_nil ?_
      refine xs_drawA (E := EE [2999999]) [0, 1, 2, 3, 4, 5, 6, 7, 8, 9] [⟨10, 10, 34, (List.replicate 6 0#64).map U64⟩] [11, 12] mixed rfl (by kernel_rfl) (by kernel_rfl) (by kernel_rfl) (by kernel_rfl) (by kernel_rfl) (by kernel_rfl) (by decide) (by intro x hx; simp only [List.mem_cons, List.not_mem_nil, or_false] at hx; subst hx; exact isAlloc_mk rfl zv34 rfl) ?_
      refine lx_fak 0 rfl Tryd.underlying36 rfl Tryd.sizeOf34 (by decide) rfl rfl rfl ?_
      refine lx_loado 1 _ rfl rfl Tryd.isAgg34 Tryd.sizeOf34 (by simp) ld_l rfl rfl ?_
      refine lx_loada 7 rfl rfl Tryd.isAgg34 Tryd.sizeOf34 (by simp) rfl rfl ?_
      refine lx_call rfl rfl ent61 (raddE _ _) rfl rfl ?_
      refine lx_loada 9 rfl rfl Tryd.isAgg34 Tryd.sizeOf34 (by simp) rfl rfl ?_
      refine lx_call rfl rfl ent32 (rmulE _ _) rfl rfl ?_
      refine lx_call rfl rfl ent78 (rsqY q) rfl rfl ?_
      refine lx_move rfl rfl rfl ?_
      refine lx_ext rfl rfl rfl rfl ?_
      refine lx_ext rfl rfl rfl rfl ?_
      refine lx_nil ?_
      refine ⟨_, _, rfl, hGF, by intro x hx; simp only [List.mem_cons, List.not_mem_nil, or_false] at hx; subst hx; rfl, by intro x hx; simp only [List.mem_cons, List.not_mem_nil, or_false] at hx; subst hx; rfl, fun adr => ?_⟩
      refine lx_storea 10 hGF rfl rfl rfl Tryd.sizeOf34 (by simp) (by simp) (one_u64 _) rfl ?_
      refine lx_assign rfl rfl rfl ?_
      refine lx_nil ?_
      refine x_seq ?_
      refine xs_plain (E := EE []) ?_
      refine lx_move rfl rfl rfl ?_
      refine lx_un rfl (fun _ => un_not _) rfl rfl ?_
      refine lx_nil ?_
      refine x_false rfl ?_
      refine x_skip ?_
      refine x_drawn (E := EE []) mixed (by kernel_rfl) (by kernel_rfl) (by kernel_rfl) ?_
      refine lx_loada 10 rfl rfl Tryd.isAgg34 Tryd.sizeOf34 (by simp) rfl rfl ?_
      refine lx_fak 6 rfl Tryd.underlying36 rfl Tryd.sizeOf34 (by decide) rfl rfl rfl ?_
      refine lx_loado 1 _ rfl rfl Tryd.isAgg34 Tryd.sizeOf34 (by simp) (ld_r (by simp)) rfl rfl ?_
      refine lx_loada 9 rfl rfl Tryd.isAgg34 Tryd.sizeOf34 (by simp) rfl rfl ?_
      refine lx_call rfl rfl ent32 (rmulE _ _) rfl rfl ?_
      refine lx_loada 10 rfl rfl Tryd.isAgg34 Tryd.sizeOf34 (by simp) rfl rfl ?_
      refine lx_call rfl rfl ent70 (rinvE _) rfl rfl ?_
      refine lx_call rfl rfl ent32 (rmulE _ _) rfl rfl ?_
      refine lx_two two36 rfl rfl (by simp) (by simp) rfl rfl ?_
      refine lx_storea 4 hGF rfl rfl rfl Tryd.sizeOf36 (by simp) (by simp) (one_u64 _) rfl ?_
      refine lx_nil ?_
      refine x_seq ?_
      refine xs_drawn (E := EE []) mixed (by kernel_rfl) (by kernel_rfl) (by kernel_rfl) ?_
      refine lx_loada 4 rfl rfl Tryd.isAgg36 Tryd.sizeOf36 (by simp) rfl rfl ?_
      refine lx_loada 4 rfl rfl Tryd.isAgg36 Tryd.sizeOf36 (by simp) rfl rfl ?_
      refine lx_call rfl rfl ent25 (r5mulC _ _ _ _) rfl rfl ?_
      refine lx_loada 1 rfl rfl Tryd.isAgg36 Tryd.sizeOf36 (by simp) rfl rfl ?_
      refine lx_binB false rfl rfl (fun _ => eqg36 _ _ _ _ _ _) (fun w => nev36 _ _ (by simp) (by simp) w) (nf (x := x) (y := ml2 (SQ ((x.1 + (SQ (nm2 x))) * (zp 2 ^ (PP - 2))), x.2 * (zp 2 ^ (PP - 2)) * SQ ((x.1 + (SQ (nm2 x))) * (zp 2 ^ (PP - 2))) ^ (PP - 2)) (SQ ((x.1 + (SQ (nm2 x))) * (zp 2 ^ (PP - 2))), x.2 * (zp 2 ^ (PP - 2)) * SQ ((x.1 + (SQ (nm2 x))) * (zp 2 ^ (PP - 2))) ^ (PP - 2))) e0) rfl rfl ?_
      refine lx_nil ?_
      refine x_false rfl ?_
      refine x_skip ?_
      refine x_seq ?_
      refine xs_plain (E := EE []) ?_
      refine lx_loada 4 rfl rfl Tryd.isAgg36 Tryd.sizeOf36 (by simp) rfl rfl ?_
      refine lx_call rfl rfl ent47 (r5largeC _ _) rfl rfl ?_
      refine lx_nil ?_
      refine x_if rfl (fun hc => ?_) (fun hc => ?_)
      · skip
        refine x_plain (E := EE []) ?_
        refine lx_loada 4 rfl rfl Tryd.isAgg36 Tryd.sizeOf36 (by simp) rfl rfl ?_
        refine lx_call rfl rfl ent21 (r5negC _ _) rfl rfl ?_
        refine lx_storea 4 hGF rfl rfl rfl Tryd.sizeOf36 (by simp) (by simp) (one_u64 _) rfl ?_
        refine lx_nil ?_
        refine xs_plain (E := EE []) ?_
        refine lx_loada 4 rfl rfl Tryd.isAgg36 Tryd.sizeOf36 (by simp) rfl rfl ?_
        refine lx_storea 2 hGF rfl rfl rfl Tryd.sizeOf36 (by simp) (by simp) (one_u64 _) rfl ?_
        refine lx_assign rfl rfl rfl ?_
        refine lx_nil ?_
        refine x_ret ?_
        repeat (first | refine kseq_ret ?_ | refine kblk_ret ?_)
        exact kret_ct 2 rfl rfl rfl rfl Tryd.isAgg36 Tryd.sizeOf36 (by simp) (fun w hw => ⟨rq2 ((NL_t hc).trans e), hp_below hw⟩)
      · skip
        refine x_skip ?_
        refine xs_plain (E := EE []) ?_
        refine lx_loada 4 rfl rfl Tryd.isAgg36 Tryd.sizeOf36 (by simp) rfl rfl ?_
        refine lx_storea 2 hGF rfl rfl rfl Tryd.sizeOf36 (by simp) (by simp) (one_u64 _) rfl ?_
        refine lx_assign rfl rfl rfl ?_
        refine lx_nil ?_
        refine x_ret ?_
        repeat (first | refine kseq_ret ?_ | refine kblk_ret ?_)
        exact kret_ct 2 rfl rfl rfl rfl Tryd.isAgg36 Tryd.sizeOf36 (by simp) (fun w hw => ⟨rp2 ((NL_f hc).trans e), hp_below hw⟩)
    · skip
      have e1 : RF x (SQ (nm2 x)) (zp 2 ^ (PP - 2)) = (SQ ((x.1 - (SQ (nm2 x))) * (zp 2 ^ (PP - 2))), x.2 * (zp 2 ^ (PP - 2)) * SQ ((x.1 - (SQ (nm2 x))) * (zp 2 ^ (PP - 2))) ^ (PP - 2)) := if_neg q
      have e : NL (SQ ((x.1 - (SQ (nm2 x))) * (zp 2 ^ (PP - 2))), x.2 * (zp 2 ^ (PP - 2)) * SQ ((x.1 - (SQ (nm2 x))) * (zp 2 ^ (PP - 2))) ^ (PP - 2)) = r := e1 ▸ root_rf hr hl half_two h
      have e0 : ml2 (SQ ((x.1 - (SQ (nm2 x))) * (zp 2 ^ (PP - 2))), x.2 * (zp 2 ^ (PP - 2)) * SQ ((x.1 - (SQ (nm2 x))) * (zp 2 ^ (PP - 2))) ^ (PP - 2)) (SQ ((x.1 - (SQ (nm2 x))) * (zp 2 ^ (PP - 2))), x.2 * (zp 2 ^ (PP - 2)) * SQ ((x.1 - (SQ (nm2 x))) * (zp 2 ^ (PP - 2))) ^ (PP - 2)) = x := e1 ▸ RF_sq (SQ_sq (nm2_sq hr)) half_two h
      refine calls_of_X (G := Gt) Tryd.func42 rfl rfl (Hp (pl w) []) (hp_refl (pl w) trivial rides_true) (good_hp hGF) ?_
      refine xs_plain (E := EE []) ?_
      refine lx_boxr 1 hGF rfl rfl rfl ?_
      intro b1
      refine lx_allocr 2 hGF zv36 rfl rfl ?_
      intro b2
      refine lx_assign rfl rfl rfl ?_
      refine lx_nil ?_
      refine xs_plain (E := EE []) ?_
      refine lx_allocr 4 hGF zv36 rfl rfl ?_
      intro b4
      refine lx_nil ?_
      refine x_seq ?_
      refine xs_plain (E := EE []) ?_
      refine lx_fak 6 rfl Tryd.underlying36 rfl Tryd.sizeOf34 (by decide) rfl rfl rfl ?_
      refine lx_loado 1 _ rfl rfl Tryd.isAgg34 Tryd.sizeOf34 (by simp) (ld_r (by simp)) rfl rfl ?_
      refine lx_callB false rfl rfl ent66 (risZeroE _) (decide_eq_false h) rfl rfl ?_
      refine lx_nil ?_
      refine x_false rfl ?_
      refine xs_plain (E := EE []) ?_
      refine lx_loada 1 rfl rfl Tryd.isAgg36 Tryd.sizeOf36 (by simp) rfl rfl ?_
      refine lx_call rfl rfl ent69 (r5norm _) rfl rfl ?_
      refine lx_call rfl rfl ent78 (rsqY (nm2_sq hr)) rfl rfl ?_
      refine lx_move rfl rfl rfl ?_
      refine lx_ext rfl rfl rfl rfl ?_
      refine lx_ext rfl rfl rfl rfl ?_
      refine lx_allocr 7 hGF zv34 rfl rfl ?_
      intro b7
      refine lx_storea 7 hGF rfl rfl rfl Tryd.sizeOf34 (by simp) (by simp) (one_u64 _) rfl ?_
      refine lx_assign rfl rfl rfl ?_
      refine lx_nil ?_
      refine x_seq ?_
      refine xs_plain (E := EE []) ?_
      refine lx_move rfl rfl rfl ?_
      refine lx_un rfl (fun _ => un_not _) rfl rfl ?_
      refine lx_nil ?_
      refine x_false rfl ?_
      refine x_skip ?_
      refine xs_plain (E := EE []) ?_
      refine lx_call rfl rfl ent79 (rsmall2) rfl rfl ?_
      refine lx_call rfl rfl ent70 (rinvE _) rfl rfl ?_
      refine lx_allocr 9 hGF zv34 rfl rfl ?_
      intro b9
      refine lx_storea 9 hGF rfl rfl rfl Tryd.sizeOf34 (by simp) (by simp) (one_u64 _) rfl ?_
      refine lx_nil ?_
      refine xs_drawA (E := EE [2999999]) [0, 1, 2, 3, 4, 5, 6, 7, 8, 9] [⟨10, 10, 34, (List.replicate 6 0#64).map U64⟩] [11, 12] mixed rfl (by kernel_rfl) (by kernel_rfl) (by kernel_rfl) (by kernel_rfl) (by kernel_rfl) (by kernel_rfl) (by decide) (by intro x hx; simp only [List.mem_cons, List.not_mem_nil, or_false] at hx; subst hx; exact isAlloc_mk rfl zv34 rfl) ?_
      refine lx_fak 0 rfl Tryd.underlying36 rfl Tryd.sizeOf34 (by decide) rfl rfl rfl ?_
      refine lx_loado 1 _ rfl rfl Tryd.isAgg34 Tryd.sizeOf34 (by simp) ld_l rfl rfl ?_
      refine lx_loada 7 rfl rfl Tryd.isAgg34 Tryd.sizeOf34 (by simp) rfl rfl ?_
      refine lx_call rfl rfl ent61 (raddE _ _) rfl rfl ?_
      refine lx_loada 9 rfl rfl Tryd.isAgg34 Tryd.sizeOf34 (by simp) rfl rfl ?_
      refine lx_call rfl rfl ent32 (rmulE _ _) rfl rfl ?_
      refine lx_call rfl rfl ent78 (rsqN q) rfl rfl ?_
      refine lx_move rfl rfl rfl ?_
      refine lx_ext rfl rfl rfl rfl ?_
      refine lx_ext rfl rfl rfl rfl ?_
      refine lx_nil ?_
      refine ⟨_, _, rfl, hGF, by intro x hx; simp only [List.mem_cons, List.not_mem_nil, or_false] at hx; subst hx; rfl, by intro x hx; simp only [List.mem_cons, List.not_mem_nil, or_false] at hx; subst hx; rfl, fun adr => ?_⟩
      refine lx_storea 10 hGF rfl rfl rfl Tryd.sizeOf34 (by simp) (by simp) (one_u64 _) rfl ?_
      refine lx_assign rfl rfl rfl ?_
      refine lx_nil ?_
      refine x_seq ?_
      refine xs_plain (E := EE []) ?_
      refine lx_move rfl rfl rfl ?_
      refine lx_un rfl (fun _ => un_not _) rfl rfl ?_
      refine lx_nil ?_
      refine x_true rfl ?_
      refine x_drawn (E := EE []) mixed (by kernel_rfl) (by kernel_rfl) (by kernel_rfl) ?_
      refine lx_fak 0 rfl Tryd.underlying36 rfl Tryd.sizeOf34 (by decide) rfl rfl rfl ?_
      refine lx_loado 1 _ rfl rfl Tryd.isAgg34 Tryd.sizeOf34 (by simp) ld_l rfl rfl ?_
      refine lx_loada 7 rfl rfl Tryd.isAgg34 Tryd.sizeOf34 (by simp) rfl rfl ?_
      refine lx_call rfl rfl ent63 (rsubE _ _) rfl rfl ?_
      refine lx_loada 9 rfl rfl Tryd.isAgg34 Tryd.sizeOf34 (by simp) rfl rfl ?_
      refine lx_call rfl rfl ent32 (rmulE _ _) rfl rfl ?_
      refine lx_call rfl rfl ent78 (rsqrtE _) rfl rfl ?_
      refine lx_move rfl rfl rfl ?_
      refine lx_ext rfl rfl rfl rfl ?_
      refine lx_ext rfl rfl rfl rfl ?_
      refine lx_storea 10 hGF rfl rfl rfl Tryd.sizeOf34 (by simp) (by simp) (one_u64 _) rfl ?_
      refine lx_nil ?_
      refine x_drawn (E := EE []) mixed (by kernel_rfl) (by kernel_rfl) (by kernel_rfl) ?_
      refine lx_loada 10 rfl rfl Tryd.isAgg34 Tryd.sizeOf34 (by simp) rfl rfl ?_
      refine lx_fak 6 rfl Tryd.underlying36 rfl Tryd.sizeOf34 (by decide) rfl rfl rfl ?_
      refine lx_loado 1 _ rfl rfl Tryd.isAgg34 Tryd.sizeOf34 (by simp) (ld_r (by simp)) rfl rfl ?_
      refine lx_loada 9 rfl rfl Tryd.isAgg34 Tryd.sizeOf34 (by simp) rfl rfl ?_
      refine lx_call rfl rfl ent32 (rmulE _ _) rfl rfl ?_
      refine lx_loada 10 rfl rfl Tryd.isAgg34 Tryd.sizeOf34 (by simp) rfl rfl ?_
      refine lx_call rfl rfl ent70 (rinvE _) rfl rfl ?_
      refine lx_call rfl rfl ent32 (rmulE _ _) rfl rfl ?_
      refine lx_two two36 rfl rfl (by simp) (by simp) rfl rfl ?_
      refine lx_storea 4 hGF rfl rfl rfl Tryd.sizeOf36 (by simp) (by simp) (one_u64 _) rfl ?_
      refine lx_nil ?_
      refine x_seq ?_
      refine xs_drawn (E := EE []) mixed (by kernel_rfl) (by kernel_rfl) (by kernel_rfl) ?_
      refine lx_loada 4 rfl rfl Tryd.isAgg36 Tryd.sizeOf36 (by simp) rfl rfl ?_
      refine lx_loada 4 rfl rfl Tryd.isAgg36 Tryd.sizeOf36 (by simp) rfl rfl ?_
      refine lx_call rfl rfl ent25 (r5mulC _ _ _ _) rfl rfl ?_
      refine lx_loada 1 rfl rfl Tryd.isAgg36 Tryd.sizeOf36 (by simp) rfl rfl ?_
      refine lx_binB false rfl rfl (fun _ => eqg36 _ _ _ _ _ _) (fun w => nev36 _ _ (by simp) (by simp) w) (nf (x := x) (y := ml2 (SQ ((x.1 - (SQ (nm2 x))) * (zp 2 ^ (PP - 2))), x.2 * (zp 2 ^ (PP - 2)) * SQ ((x.1 - (SQ (nm2 x))) * (zp 2 ^ (PP - 2))) ^ (PP - 2)) (SQ ((x.1 - (SQ (nm2 x))) * (zp 2 ^ (PP - 2))), x.2 * (zp 2 ^ (PP - 2)) * SQ ((x.1 - (SQ (nm2 x))) * (zp 2 ^ (PP - 2))) ^ (PP - 2))) e0) rfl rfl ?_
      refine lx_nil ?_
      refine x_false rfl ?_
      refine x_skip ?_
      refine x_seq ?_
      refine xs_plain (E := EE []) ?_
      refine lx_loada 4 rfl rfl Tryd.isAgg36 Tryd.sizeOf36 (by simp) rfl rfl ?_
      refine lx_call rfl rfl ent47 (r5largeC _ _) rfl rfl ?_
      refine lx_nil ?_
      refine x_if rfl (fun hc => ?_) (fun hc => ?_)
      · skip
        refine x_plain (E := EE []) ?_
        refine lx_loada 4 rfl rfl Tryd.isAgg36 Tryd.sizeOf36 (by simp) rfl rfl ?_
        refine lx_call rfl rfl ent21 (r5negC _ _) rfl rfl ?_
        refine lx_storea 4 hGF rfl rfl rfl Tryd.sizeOf36 (by simp) (by simp) (one_u64 _) rfl ?_
        refine lx_nil ?_
        refine xs_plain (E := EE []) ?_
        refine lx_loada 4 rfl rfl Tryd.isAgg36 Tryd.sizeOf36 (by simp) rfl rfl ?_
        refine lx_storea 2 hGF rfl rfl rfl Tryd.sizeOf36 (by simp) (by simp) (one_u64 _) rfl ?_
        refine lx_assign rfl rfl rfl ?_
        refine lx_nil ?_
        refine x_ret ?_
        repeat (first | refine kseq_ret ?_ | refine kblk_ret ?_)
        exact kret_ct 2 rfl rfl rfl rfl Tryd.isAgg36 Tryd.sizeOf36 (by simp) (fun w hw => ⟨rq2 ((NL_t hc).trans e), hp_below hw⟩)
      · skip
        refine x_skip ?_
        refine xs_plain (E := EE []) ?_
        refine lx_loada 4 rfl rfl Tryd.isAgg36 Tryd.sizeOf36 (by simp) rfl rfl ?_
        refine lx_storea 2 hGF rfl rfl rfl Tryd.sizeOf36 (by simp) (by simp) (one_u64 _) rfl ?_
        refine lx_assign rfl rfl rfl ?_
        refine lx_nil ?_
        refine x_ret ?_
        repeat (first | refine kseq_ret ?_ | refine kblk_ret ?_)
        exact kret_ct 2 rfl rfl rfl rfl Tryd.isAgg36 Tryd.sizeOf36 (by simp) (fun w hw => ⟨rp2 ((NL_f hc).trans e), hp_below hw⟩)
theorem r5sqrtN (x : W2) (hq : ¬ IsQ (nm2 x)) : Pure Tryd.prog Gt 42 [EV2 x] (.tuple #[EV2 ze2, .bool false]) := by
  intro w hw
  have hGF : BOk Gt (pl w) := gt_low.plain hw
  refine calls_of_X (G := Gt) Tryd.func42 rfl rfl (Hp (pl w) []) (hp_refl (pl w) trivial rides_true) (good_hp hGF) ?_
  refine xs_plain (E := EE []) ?_
  refine lx_boxr 1 hGF rfl rfl rfl ?_
  intro b1
  refine lx_allocr 2 hGF zv36 rfl rfl ?_
  intro b2
  refine lx_assign rfl rfl rfl ?_
  refine lx_nil ?_
  refine xs_plain (E := EE []) ?_
  refine lx_allocr 4 hGF zv36 rfl rfl ?_
  intro b4
  refine lx_nil ?_
  refine x_seq ?_
  refine xs_plain (E := EE []) ?_
  refine lx_fak 6 rfl Tryd.underlying36 rfl Tryd.sizeOf34 (by decide) rfl rfl rfl ?_
  refine lx_loado 1 _ rfl rfl Tryd.isAgg34 Tryd.sizeOf34 (by simp) (ld_r (by simp)) rfl rfl ?_
  refine lx_callB false rfl rfl ent66 (risZeroE _) (decide_eq_false (no_re hq)) rfl rfl ?_
  refine lx_nil ?_
  refine x_false rfl ?_
  refine xs_plain (E := EE []) ?_
  refine lx_loada 1 rfl rfl Tryd.isAgg36 Tryd.sizeOf36 (by simp) rfl rfl ?_
  refine lx_call rfl rfl ent69 (r5norm _) rfl rfl ?_
  refine lx_call rfl rfl ent78 (rsqN hq) rfl rfl ?_
  refine lx_move rfl rfl rfl ?_
  refine lx_ext rfl rfl rfl rfl ?_
  refine lx_ext rfl rfl rfl rfl ?_
  refine lx_allocr 7 hGF zv34 rfl rfl ?_
  intro b7
  refine lx_storea 7 hGF rfl rfl rfl Tryd.sizeOf34 (by simp) (by simp) (one_u64 _) rfl ?_
  refine lx_assign rfl rfl rfl ?_
  refine lx_nil ?_
  refine x_seq ?_
  refine xs_plain (E := EE []) ?_
  refine lx_move rfl rfl rfl ?_
  refine lx_un rfl (fun _ => un_not _) rfl rfl ?_
  refine lx_nil ?_
  refine x_true rfl ?_
  refine xs_plain (E := EE []) ?_
  refine lx_two0 two36 rfl rfl ?_
  refine lx_storea 2 hGF rfl rfl rfl Tryd.sizeOf36 (by simp) (by simp) (one_u64 _) rfl ?_
  refine lx_assign rfl rfl rfl ?_
  refine lx_nil ?_
  refine x_ret ?_
  repeat (first | refine kseq_ret ?_ | refine kblk_ret ?_)
  exact kret_ct 2 rfl rfl rfl rfl Tryd.isAgg36 Tryd.sizeOf36 (by simp) (fun w hw => ⟨rfl, hp_below hw⟩)
end Go.Proofs.YtceogjapiphokaaDoor

namespace Go.Proofs.YtceogjapiphokaaDoor
open Go.RowKit
set_option maxRecDepth 100000
set_option maxHeartbeats 1000000
attribute [local simp] fe_len nm_len AS_len SS_len MONT_len RM_len FRs_len BYs_len by48_len PLl TWOl ONEl N1l IVPl HFPl RTPl FL_len SP_len fe2_len SP2_len FM_len

theorem ent97 : Enters Tryd.prog 97 := fun _ _ => by kernel_rfl
theorem zv75 (w : World) : (zeroValue 75).run Tryd.prog w = .ok (.agg ((FM (fun _ => fe2 ze2) 16).map U64).toArray) w := by
  rw [show FM (fun _ => fe2 ze2) 16 = FM (fun _ => List.replicate 12 0#64) 16 from FM_congr fun i _ => by rw [show fe2 ze2 = fe 0 ++ fe 0 from rfl, fe_0]; rfl]
  exact (Tryd.zeroValue75 w).trans (by rfl)
theorem e2small (x : W2) : Pure Tryd.prog Gt 72 [EV2 x] (.agg ((SP2 x 16).map U64).toArray) := by
  intro w hw
  have hGF : BOk Gt (pl w) := gt_low.plain hw
  refine calls_of_X (G := Gt) Tryd.func72 rfl rfl (Hp (pl w) []) (hp_refl (pl w) trivial rides_true) (good_hp hGF) ?_
  refine xs_plain (E := EE []) ?_
  refine lx_boxr 1 hGF rfl rfl rfl ?_
  intro b1
  refine lx_allocr 2 hGF zv75 rfl rfl ?_
  intro b2
  refine lx_nil ?_
  refine xs_plain (E := EE []) ?_
  refine lx_call rfl rfl ent38 (e2one) rfl rfl ?_
  refine lx_buildM (l := fe2 on2) rfl (by simp) (by decide) Tryd.underlying75 Tryd.sizeOf30 zv75 rfl rfl ?_
  refine lx_allocr 3 hGF zv75 rfl rfl ?_
  intro b3
  refine lx_storea 3 hGF rfl rfl rfl Tryd.sizeOf75 (by simp) (by simp) (one_u64 _) rfl ?_
  refine lx_nil ?_
  refine x_seq ?_
  refine xs_plain (E := EE []) ?_
  refine lx_assign rfl rfl rfl ?_
  refine lx_nil ?_
  refine x_block ?_
  refine x_for (ι := { i : Nat // 1 ≤ i ∧ i ≤ 16 }) (fun y => [(1, .pointer (some ⟨b1, 0, none⟩)), (2, .pointer (some ⟨b2, 0, none⟩)), (3, .pointer (some ⟨b3, 0, none⟩)), (4, I (y.1 : Int))]) (fun y => [(1, b1, (fe (x).1 ++ fe (x).2).map U64, 30), (2, b2, (FM (fun _ => fe2 ze2) 16).map U64, 75), (3, b3, (SP2 x y.1).map U64, 75)]) (fun y => 16 - y.1) ⟨1, by omega⟩ hGF ⟨rfl, rfl, rfl, rfl, trivial⟩ ⟨rfl, rfl, by rw [← SP2_one]; rfl, trivial⟩ ?_
  rintro ⟨i, hi⟩
  dsimp only
  refine x_seq ?_
  refine xs_plain (E := EE []) ?_
  refine lx_move rfl rfl rfl ?_
  refine lx_bin rfl rfl (fun _ => rfl) (fun _ => bin_lss_i _ _ _) rfl rfl ?_
  refine lx_nil ?_
  refine x_if rfl (fun hc => ?_) (fun hc => ?_)
  · simp only [decide_eq_true_eq] at hc
    refine x_skip ?_
    refine x_seq ?_
    refine x_block ?_
    refine x_drawn (E := EE []) mixed (by kernel_rfl) (by kernel_rfl) (by kernel_rfl) ?_
    refine lx_move rfl rfl rfl ?_
    refine lx_move rfl rfl rfl ?_
    refine lx_bin rfl rfl (fun _ => rfl) (fun _ => bin_sub_i _ _ _ (by unfold inI; omega)) rfl rfl ?_
    refine lx_iak (i - 1) (12 * (i - 1)) rfl rfl Tryd.underlying75 Tryd.sizeOf30 (by omega) (by omega) (by omega) rfl rfl ?_
    refine lx_loado 3 ((fe (pw2 x (i - 1)).1 ++ fe (pw2 x (i - 1)).2).map U64) rfl rfl Tryd.isAgg30 Tryd.sizeOf30 (by simp) (SP2_load x i (i - 1) (by omega) (by omega) _ rfl) rfl rfl ?_
    refine lx_loada 1 rfl rfl Tryd.isAgg30 Tryd.sizeOf30 (by simp) rfl rfl ?_
    refine lx_call rfl rfl ent24 (e2mul _ _) rfl rfl ?_
    refine lx_iak (i) (12 * (i)) rfl rfl Tryd.underlying75 Tryd.sizeOf30 (by omega) (by omega) (by omega) rfl rfl ?_
    refine lx_storeo 3 ((SP2 x (i + 1)).map U64) hGF rfl rfl rfl Tryd.sizeOf30 (by simp) (one_u64 _) (by simp; omega) (SP2_step x i (by omega) (by omega) _ rfl) rfl ?_
    refine lx_nil ?_
    refine x_plain (E := EE []) ?_
    refine lx_move rfl rfl rfl ?_
    refine lx_bin rfl rfl (fun _ => rfl) (fun _ => bin_add_i _ _ _ (by unfold inI; omega)) rfl rfl ?_
    refine lx_assign rfl rfl rfl ?_
    refine lx_nil ?_
    repeat (refine kblk_n ?_)
    refine kseq_n ?_
    exact ⟨rfl, ⟨i + 1, by omega⟩, _, by show 16 - (i + 1) < 16 - i; omega, rfl, ⟨rfl, rfl, rfl, rfl, trivial⟩, ⟨rfl, rfl, rfl, trivial⟩⟩
  · obtain rfl : i = 16 := by simp at hc; omega
    refine x_exit ?_
    refine xs_plain (E := EE []) ?_
    refine lx_loada 3 rfl rfl Tryd.isAgg75 Tryd.sizeOf75 (by simp) rfl rfl ?_
    refine lx_storea 2 hGF rfl rfl rfl Tryd.sizeOf75 (by simp) (by simp) (one_u64 _) rfl ?_
    refine lx_nil ?_
    refine x_ret ?_
    repeat (first | refine kseq_ret ?_ | refine kblk_ret ?_)
    exact kret_own 2 rfl rfl rfl Tryd.isAgg75 Tryd.sizeOf75 (by simp) (fun w hw => ⟨rfl, hp_below hw⟩)
theorem e2digits_calls (sv : Value) (hs : sv.cells = #[sv]) (w : World) (hw : Gt w) : Calls Tryd.prog 73 [sv].toArray w (fun e w' => ∃ b1, e = .returned (.func (.func 97) #[] #[.pointer (some ⟨b1, 0, none⟩)]) ∧ Grow w w' ∧ w.heap.size ≤ b1 ∧ OwnB w' b1 [sv] 22) := by
  have hGF : BOk Gt (pl w) := gt_low.plain hw
  refine calls_of_X (G := Gt) Tryd.func73 rfl rfl (Hp (pl w) []) (hp_refl (pl w) trivial rides_true) (good_hp hGF) ?_
  refine xs_plain (E := EE []) ?_
  refine lx_box 1 hGF rfl rfl rfl ?_
  intro b1
  refine lx_assign rfl rfl rfl ?_
  refine lx_nil ?_
  refine xs_plain (E := EE []) ?_
  refine lx_func rfl rfl rfl rfl ?_
  refine lx_assign rfl rfl rfl ?_
  refine lx_nil ?_
  refine x_ret ?_
  repeat (first | refine kseq_ret ?_ | refine kblk_ret ?_)
  exact kret_tmp rfl rfl (fun w hw => ⟨b1, rfl, hp_below hw, (hw.own 1 b1 _ _ rfl).2.elim id False.elim, (by have := (hw.own 1 b1 _ _ rfl).1; rw [hs] at this; exact this)⟩)
theorem e2digits_seq (bb : Nat) (e : Option Addr) (cap : Nat) (bs : List (BitVec 8)) (hlen : bs.length ≤ 1000000) : SeqOk Tryd.prog Gt 97 [.pointer (some ⟨bb, 0, none⟩)] (NB bs) (RdD bb e cap bs) := by
  intro l J Jx hJ hJx hRd hGx hY w hj
  have okJ : ∀ k, BOk Gt (Bi w (fun Y => J Y k)) := fun k => ⟨fun _ _ _ h => (hRd _ _ _ h.rid).1, hJ k⟩
  have okX : ∀ k, BOk Gt (Bi w (fun Y => Jx Y k)) := fun k => ⟨fun _ _ _ h => hGx _ _ _ h.rid, hJx k⟩
  have c1 : ∀ k L w', Hp (Bi w (fun Y => J Y k)) L w' → RdD bb e cap bs w' := fun k L w' h => (hRd _ _ _ h.rid).2
  have hby := (hRd _ _ _ hj).2.2
  refine calls_of_X (G := Gt) Tryd.func97 rfl rfl (Hp (Bi w (fun Y => J Y 0)) []) (hp_refl (Bi w _) hj (hJ 0)) (good_hp (okJ 0)) ?_
  refine xs_plain (E := EE []) ?_
  refine lx_load rfl Tryd.isAgg22 (fun w h => (c1 _ _ w h).1) rfl rfl ?_
  refine lx_len rfl (fun _ => len_slice Tryd.underlying22 _ _ _ _) rfl rfl ?_
  refine lx_move rfl rfl rfl ?_
  refine lx_nil ?_
  refine x_block ?_
  refine x_forB (ι := { i : Nat // i ≤ bs.length }) (fun x => [(0, .func (.yield l) #[] #[]), (1, .pointer (some ⟨bb, 0, none⟩)), (5, .slice e bs.length cap), (6, I (bs.length : Int)), (7, I (x.1 : Int))]) (fun x => Bi w (fun Y => J Y (2 * x.1))) (fun x => []) (fun x => bs.length - x.1) ⟨0, Nat.zero_le _⟩ (fun _ => okJ _) rfl ⟨rfl, rfl, rfl, rfl, rfl, trivial⟩ trivial ?_
  rintro ⟨i, hi⟩
  dsimp only
  refine xs_plain (E := EE []) ?_
  refine lx_bin rfl rfl (fun _ => rfl) (fun _ => bin_lss_i _ _ _) rfl rfl ?_
  refine lx_nil ?_
  refine x_seq ?_
  refine x_if rfl (fun hc => ?_) (fun hc => ?_)
  · simp only [decide_eq_true_eq] at hc
    have hi2 : i < bs.length := by omega
    refine x_skip ?_
    refine x_seq ?_
    refine x_block ?_
    refine xs_plain (E := EE []) ?_
    obtain ⟨ad, rfl, _⟩ := hby i _ (gm U8 bs 0 i (by omega))
    refine lx_isA i rfl rfl Tryd.underlying22 Tryd.sizeOf5 rfl (by omega) rfl rfl ?_
    refine lx_load rfl Tryd.isAgg5 (fun w' h => by obtain ⟨ad', e', hc'⟩ := (c1 _ _ w' h).2 i _ (gm U8 bs 0 i (by omega)); cases e'; exact hc') rfl rfl ?_
    refine lx_assign rfl rfl rfl ?_
    refine lx_nil ?_
    refine xs_plainC (E := EE []) 4 ?_
    refine lx_move rfl rfl rfl ?_
    refine lx_move rfl rfl rfl ?_
    refine lx_bin (v := U8 (bs.getD i 0 >>> 4)) rfl rfl (fun _ => rfl) (fun _ => bin_shr_u8 _ _ 4#64) rfl rfl ?_
    refine lx_yield (hY.b (k := 2 * i) (NB_hi bs i (by omega)) w) (okJ _) (okX _) rfl rfl rfl rfl rfl ?_ ?_
    · skip
      refine lx_nil ?_
      refine ⟨EE [], ?_⟩
      refine lx_un rfl (fun _ => un_not _) rfl rfl ?_
      refine lx_move rfl rfl rfl ?_
      refine lx_move rfl rfl rfl ?_
      refine lx_move rfl rfl rfl ?_
      refine lx_bin (v := U8 (bs.getD i 0 % 16#8)) rfl rfl (fun _ => rfl) (fun _ => bin_rem_u8 _ _ 16#8 (by decide)) rfl rfl ?_
      refine lx_yield (hY.b (k := 2 * i + 1) (NB_lo bs i (by omega)) w) (okJ _) (okX _) rfl rfl rfl rfl rfl ?_ ?_
      · skip
        refine lx_un rfl (fun _ => un_not _) rfl rfl ?_
        refine lx_pick rfl rfl rfl rfl rfl ?_
        refine lx_nil ?_
        refine x_false rfl ?_
        refine x_skip ?_
        refine x_plain (E := EE []) ?_
        refine lx_bin rfl rfl (fun _ => rfl) (fun _ => bin_add_i _ _ _ (by unfold inI; omega)) rfl rfl ?_
        refine lx_move rfl rfl rfl ?_
        refine lx_nil ?_
        rw [show 2 * i + 1 + 1 = 2 * (i + 1) by omega]
        repeat (refine kblk_n ?_)
        refine kseq_n ?_
        exact ⟨rfl, ⟨i + 1, by omega⟩, _, by show bs.length - (i + 1) < bs.length - i; omega, rfl, ⟨rfl, rfl, rfl, rfl, rfl, trivial⟩, trivial⟩
      · skip
        refine lx_un rfl (fun _ => un_not _) rfl rfl ?_
        refine lx_pick rfl rfl rfl rfl rfl ?_
        refine lx_nil ?_
        refine x_true rfl ?_
        refine x_ret ?_
        repeat (first | refine kseq_ret ?_ | refine kblk_ret ?_)
        repeat (first | refine kseq_x ?_ | refine kblk_x ?_ | refine kblk_p rfl ?_ | refine kseq_ret ?_ | refine kblk_ret ?_)
        exact kret_none rfl (fun w hw => ⟨⟨_, rfl⟩, .inr ⟨_, drop_yof (hJx _) hw.rid⟩⟩)
    · skip
      refine lx_nil ?_
      refine ⟨EE [3000000], ?_⟩
      refine lx_un rfl (fun _ => un_not _) rfl rfl ?_
      refine lx_move rfl rfl rfl ?_
      refine lx_skip rfl rfl rfl ?_
      refine lx_skip rfl rfl rfl ?_
      refine lx_skip rfl rfl rfl ?_
      refine lx_skip rfl rfl rfl ?_
      refine lx_skip rfl rfl rfl ?_
      refine lx_pick rfl rfl rfl rfl rfl ?_
      refine lx_nil ?_
      refine x_true rfl ?_
      refine x_ret ?_
      repeat (first | refine kseq_ret ?_ | refine kblk_ret ?_)
      repeat (first | refine kseq_x ?_ | refine kblk_x ?_ | refine kblk_p rfl ?_ | refine kseq_ret ?_ | refine kblk_ret ?_)
      exact kret_none rfl (fun w hw => ⟨⟨_, rfl⟩, .inr ⟨_, drop_yof (hJx _) hw.rid⟩⟩)
  · simp only [decide_eq_false_iff_not] at hc
    obtain rfl : i = bs.length := by omega
    refine x_exit ?_
    repeat (first | refine kseq_x ?_ | refine kblk_x ?_ | refine kblk_p rfl ?_ | refine kseq_ret ?_ | refine kblk_ret ?_)
    refine kend_none rfl (fun w hw => ⟨⟨_, rfl⟩, .inl ?_⟩)
    have := drop_yof (hJ _) hw.rid
    rw [NB_len]
    exact this
theorem e2pow_calls (x : W2) (e : Option Addr) (cap : Nat) (bs : List (BitVec 8)) (hlen : bs.length ≤ 1000000) (w : World) (hw : Gt w) (hby : BytesAt w e bs) :
    Calls Tryd.prog 39 [EV2 x, .slice e bs.length cap].toArray w (fun r w' => r = .returned (EV2 (pw2 x (BN bs bs.length))) ∧ Grow w w') := by
  have hGF : BOk Gt (pl w) := gt_low.plain hw
  refine calls_of_XM (G := Gt) Tryd.func39 rfl rfl (Hp (pl w) []) (hp_refl (pl w) trivial rides_true) (good_hp hGF) ?_
  refine xs_plain (E := EE [73]) ?_
  refine lx_boxr 2 hGF rfl rfl rfl ?_
  intro b2
  refine lx_allocr 4 hGF zv30 rfl rfl ?_
  intro b4
  refine lx_nil ?_
  refine xs_plain (E := EE [73]) ?_
  refine lx_loada 2 rfl rfl Tryd.isAgg30 Tryd.sizeOf30 (by simp) rfl rfl ?_
  refine lx_call rfl rfl ent72 (e2small _) rfl rfl ?_
  refine lx_allocr 5 hGF zv75 rfl rfl ?_
  intro b5
  refine lx_storea 5 hGF rfl rfl rfl Tryd.sizeOf75 (by simp) (by simp) (one_u64 _) rfl ?_
  refine lx_nil ?_
  refine xs_plain (E := EE [73]) ?_
  refine lx_iak 0 0 rfl rfl Tryd.underlying75 Tryd.sizeOf30 rfl (by decide) rfl rfl rfl ?_
  refine lx_loado 5 ((fe (pw2 x 0).1 ++ fe (pw2 x 0).2).map U64) rfl rfl Tryd.isAgg30 Tryd.sizeOf30 (by simp) (SP2_load x 16 0 (by decide) (by decide) 0 rfl) rfl rfl ?_
  refine lx_allocr 6 hGF zv30 rfl rfl ?_
  intro b6
  refine lx_storea 6 hGF rfl rfl rfl Tryd.sizeOf30 (by simp) (by simp) (one_u64 _) rfl ?_
  refine lx_nil ?_
  refine x_seq ?_
  refine xs_plain (E := EE [73]) ?_
  refine lx_move rfl rfl rfl ?_
  refine lx_callE rfl rfl ent73 rfl rfl (fun w' hw' => (e2digits_calls _ rfl w' (hGF.g _ _ _ hw')).mono fun e' w'' h => ?_)
  obtain ⟨c1, rfl, hg, h1, ho⟩ := h
  refine ⟨_, _, rfl, good_hp hGF, hw'.news rides_true hg [(33, c1, [.slice e bs.length cap], 22)] ?_ inj_one, ?_⟩
  · intro n' b' c' t' hl
    rcases lkB_cons hl with ⟨_, e⟩ | ⟨_, hl⟩
    · cases e; exact ⟨h1, ho⟩
    · cases hl
  clear hw' hg h1 ho
  refine lx_nil ?_
  refine x_block ?_
  refine x_range (fun _ => pl w) (fun _ _ => pl w) (fun _ => hGF) (fun _ _ => hGF) (fun _ => rfl) (fun _ _ => rfl) rfl rfl ent97 (e2digits_seq c1 e cap bs hlen) (fun x hx => by obtain ⟨k, hk, rfl⟩ := List.mem_map.1 hx; rfl) rfl (fun k => [(2, b2, (fe (x).1 ++ fe (x).2).map U64, 30), (4, b4, (fe 0 ++ fe 0).map U64, 30), (5, b5, (SP2 x 16).map U64, 75), (6, b6, (fe (pw2 x (DN bs k)).1 ++ fe (pw2 x (DN bs k)).2).map U64, 30), (33, c1, [.slice e bs.length cap], 22)]) (fun _ _ _ => False) ⟨rfl, rfl, rfl, by rw [DN, pw2_0]; rfl, rfl, trivial⟩ (fun k _ w' h => ⟨hp_cell (n := 33) rfl rfl w' h, hby.grow (h.below (fun _ h => h))⟩) ?_ ?_ (fun _ _ _ _ _ h => h.elim)
  · intro k v hx R hR
    obtain ⟨hk, rfl⟩ := NB_at bs k v hx
    have hlt := NBv_lt bs k
    refine x_plain (E := EE [73]) ?_
    refine lx_assign rfl rfl rfl ?_
    refine lx_nil ?_
    refine ⟨rfl, _, rfl, ?_⟩
    refine x_block ?_
    refine x_seq ?_
    refine xs_plain (E := EE [73]) ?_
    refine lx_move rfl rfl rfl ?_
    refine lx_nil ?_
    refine x_block ?_
    refine x_for (ι := { i : Nat // i ≤ 4 }) (fun j => [(5, .pointer (some ⟨b5, 0, none⟩)), (6, .pointer (some ⟨b6, 0, none⟩)), (7, U8 (NBv bs k)), (15, I (j.1 : Int))]) (fun j => [(2, b2, (fe (x).1 ++ fe (x).2).map U64, 30), (4, b4, (fe 0 ++ fe 0).map U64, 30), (5, b5, (SP2 x 16).map U64, 75), (6, b6, (fe (pw2 x (2 ^ j.1 * DN bs k)).1 ++ fe (pw2 x (2 ^ j.1 * DN bs k)).2).map U64, 30), (33, c1, [.slice e bs.length cap], 22)]) (fun j => 4 - j.1) ⟨0, by omega⟩ (hR (pl w) rfl hGF).2.1 ⟨rfl, rfl, rfl, rfl, trivial⟩ ⟨rfl, rfl, rfl, by rw [Nat.pow_zero, Nat.one_mul]; rfl, rfl, trivial⟩ ?_
    rintro ⟨j, hj⟩
    dsimp only
    refine xs_plain (E := EE [73]) ?_
    refine lx_bin rfl rfl (fun _ => rfl) (fun _ => bin_lss_i _ _ _) rfl rfl ?_
    refine lx_nil ?_
    refine x_seq ?_
    refine x_if rfl (fun hc => ?_) (fun hc => ?_)
    · simp only [decide_eq_true_eq] at hc
      refine x_skip ?_
      refine x_seq ?_
      refine x_block ?_
      refine x_plain (E := EE [73]) ?_
      refine lx_loada 6 rfl rfl Tryd.isAgg30 Tryd.sizeOf30 (by simp) rfl rfl ?_
      refine lx_call rfl rfl ent26 (e2square _) rfl rfl ?_
      refine lx_storea 6 (hR (pl w) rfl hGF).2.1 rfl rfl rfl Tryd.sizeOf30 (by simp) (by simp) (one_u64 _) rfl ?_
      refine lx_nil ?_
      refine x_plain (E := EE [73]) ?_
      refine lx_bin rfl rfl (fun _ => rfl) (fun _ => bin_add_i _ _ _ (by unfold inI; omega)) rfl rfl ?_
      refine lx_move rfl rfl rfl ?_
      refine lx_nil ?_
      repeat (refine kblk_n ?_)
      refine kseq_n ?_
      exact ⟨rfl, ⟨j + 1, by omega⟩, _, by show 4 - (j + 1) < 4 - j; omega, rfl, ⟨rfl, rfl, rfl, rfl, trivial⟩, ⟨rfl, rfl, rfl, by rw [← sq_step2]; rfl, rfl, trivial⟩⟩
    · obtain rfl : j = 4 := by simp at hc; omega
      refine x_exit ?_
      refine x_drawn (E := EE [73]) mixed (by kernel_rfl) (by kernel_rfl) (by kernel_rfl) ?_
      refine lx_loada 6 rfl rfl Tryd.isAgg30 Tryd.sizeOf30 (by simp) rfl rfl ?_
      refine lx_move rfl rfl rfl ?_
      refine lx_iak8 (12 * (NBv bs k).toNat) rfl rfl Tryd.underlying75 Tryd.sizeOf30 hlt (by omega) rfl rfl ?_
      refine lx_loado 5 ((fe (pw2 x (NBv bs k).toNat).1 ++ fe (pw2 x (NBv bs k).toNat).2).map U64) rfl rfl Tryd.isAgg30 Tryd.sizeOf30 (by simp) (SP2_load x 16 _ hlt (Nat.le_refl _) _ rfl) rfl rfl ?_
      refine lx_call rfl rfl ent24 (dig_step2 x bs k ▸ e2mul (pw2 x (2 ^ 4 * DN bs k)) (pw2 x (NBv bs k).toNat)) rfl rfl ?_
      refine lx_storea 6 (hR (pl w) rfl hGF).2.1 rfl rfl rfl Tryd.sizeOf30 (by simp) (by simp) (one_u64 _) rfl ?_
      refine lx_nil ?_
      repeat (refine kblk_n ?_)
      exact ⟨_, rfl, ⟨rfl, rfl, rfl, rfl, rfl, trivial⟩⟩
  · intro D hD
    rw [NB_len, DN_two]
    refine xs_plain (E := EE [73]) ?_
    refine lx_loada 6 rfl rfl Tryd.isAgg30 Tryd.sizeOf30 (by simp) rfl rfl ?_
    refine lx_storea 4 hD rfl rfl rfl Tryd.sizeOf30 (by simp) (by simp) (one_u64 _) rfl ?_
    refine lx_nil ?_
    refine x_ret ?_
    repeat (first | refine kseq_ret ?_ | refine kblk_ret ?_)
    exact kretM_1 (.inl rfl) rides_true (kret_own 4 rfl rfl rfl Tryd.isAgg30 Tryd.sizeOf30 (by simp) (fun w hw => ⟨rfl, hp_below hw⟩))
theorem bt_y (x : W2) (bs : List (BitVec 8)) (i : Nat) (h : pbit bs i = 1#8) : ml2 (ml2 (pw2 x (BTn bs i)) (pw2 x (BTn bs i))) x = pw2 x (BTn bs (i + 1)) := by
  rcases bit_one bs i with ⟨_, e⟩ | ⟨h', _⟩
  · rw [← pw2_add, ← pw2_s, BTn, e, Nat.two_mul]
  · exact absurd h h'
theorem bt_n (x : W2) (bs : List (BitVec 8)) (i : Nat) (h : ¬ pbit bs i = 1#8) : ml2 (pw2 x (BTn bs i)) (pw2 x (BTn bs i)) = pw2 x (BTn bs (i + 1)) := by
  rcases bit_one bs i with ⟨h', _⟩ | ⟨_, e⟩
  · exact absurd h' h
  · rw [← pw2_add, BTn, e, Nat.two_mul, Nat.add_zero]
theorem r5pow_calls (x : W2) (e : Option Addr) (cap : Nat) (bs : List (BitVec 8)) (hlen : bs.length ≤ 4096) (w : World) (hw : Gt w) (hby : BytesAt w e bs) :
    Calls Tryd.prog 40 [EV2 x, .slice e bs.length cap].toArray w (fun r w' => r = .returned (EV2 (pw2 x (BN bs bs.length))) ∧ Grow w w') := by
  have hGF : BOk Gt (pl w) := gt_low.plain hw
  refine calls_of_X (G := Gt) Tryd.func40 rfl rfl (Hp (pl w) []) (hp_refl (pl w) trivial rides_true) (good_hp hGF) ?_
  refine xs_plain (E := EE []) ?_
  refine lx_boxr 2 hGF rfl rfl rfl ?_
  intro b2
  refine lx_allocr 4 hGF zv36 rfl rfl ?_
  intro b4
  refine lx_nil ?_
  refine xs_plain (E := EE []) ?_
  refine lx_call rfl rfl ent74 (r5one) rfl rfl ?_
  refine lx_allocr 5 hGF zv36 rfl rfl ?_
  intro b5
  refine lx_storea 5 hGF rfl rfl rfl Tryd.sizeOf36 (by simp) (by simp) (one_u64 _) rfl ?_
  refine lx_nil ?_
  refine x_seq ?_
  refine xs_plain (E := EE []) ?_
  refine lx_assign rfl rfl rfl ?_
  refine lx_nil ?_
  refine x_block ?_
  refine x_for (ι := { i : Nat // i ≤ 8 * bs.length }) (fun y => [(1, .slice e bs.length cap), (2, .pointer (some ⟨b2, 0, none⟩)), (4, .pointer (some ⟨b4, 0, none⟩)), (5, .pointer (some ⟨b5, 0, none⟩)), (6, I (y.1 : Int))]) (fun y => [(2, b2, (fe (x).1 ++ fe (x).2).map U64, 36), (4, b4, (fe 0 ++ fe 0).map U64, 36), (5, b5, (fe (pw2 x (BTn bs y.1)).1 ++ fe (pw2 x (BTn bs y.1)).2).map U64, 36)]) (fun y => 8 * bs.length - y.1) ⟨0, Nat.zero_le _⟩ hGF ⟨rfl, rfl, rfl, rfl, rfl, trivial⟩ ⟨rfl, rfl, by rw [BTn, pw2_0]; rfl, trivial⟩ ?_
  rintro ⟨i, hi⟩
  dsimp only
  refine x_seq ?_
  refine xs_plain (E := EE []) ?_
  refine lx_move rfl rfl rfl ?_
  refine lx_move rfl rfl rfl ?_
  refine lx_len rfl (fun _ => len_slice Tryd.underlying22 _ _ _ _) rfl rfl ?_
  refine lx_bin (v := I ((8 * bs.length : Nat) : Int)) rfl rfl (fun _ => rfl) (fun _ => (bin_mul_i _ _ _ (by unfold inI; omega)).trans (by rw [show (8 : Int) * (bs.length : Int) = ((8 * bs.length : Nat) : Int) by omega])) rfl rfl ?_
  refine lx_bin rfl rfl (fun _ => rfl) (fun _ => bin_lss_i _ _ _) rfl rfl ?_
  refine lx_nil ?_
  refine x_if rfl (fun hc => ?_) (fun hc => ?_)
  · simp only [decide_eq_true_eq] at hc
    refine x_skip ?_
    refine x_seq ?_
    refine x_block ?_
    refine xs_plain (E := EE []) ?_
    refine lx_loada 5 rfl rfl Tryd.isAgg36 Tryd.sizeOf36 (by simp) rfl rfl ?_
    refine lx_loada 5 rfl rfl Tryd.isAgg36 Tryd.sizeOf36 (by simp) rfl rfl ?_
    refine lx_call rfl rfl ent25 (r5mul _ _) rfl rfl ?_
    refine lx_storea 5 hGF rfl rfl rfl Tryd.sizeOf36 (by simp) (by simp) (one_u64 _) rfl ?_
    refine lx_nil ?_
    refine xs_plain (E := EE []) ?_
    refine lx_move rfl rfl rfl ?_
    refine lx_move rfl rfl rfl ?_
    refine lx_bin (v := I ((i / 8 : Nat) : Int)) rfl rfl (fun _ => rfl) (fun _ => bin_quo_i _ _ _ (by decide) (show inI ((i / 8 : Nat) : Int) by unfold inI; omega)) rfl rfl ?_
    obtain ⟨ad, rfl, _⟩ := hby (i / 8) _ (gm U8 bs 0 (i / 8) (by omega))
    refine lx_isA (i / 8) rfl rfl Tryd.underlying22 Tryd.sizeOf5 rfl (by omega) rfl rfl ?_
    refine lx_load rfl Tryd.isAgg5 (fun w' h => by obtain ⟨ad', e, hc⟩ := (hby.grow (hp_below h)) (i / 8) _ (gm U8 bs 0 (i / 8) (by omega)); cases e; exact hc) rfl rfl ?_
    refine lx_move rfl rfl rfl ?_
    refine lx_bin (v := I ((i % 8 : Nat) : Int)) rfl rfl (fun _ => rfl) (fun _ => bin_rem_i _ _ _ (by decide)) rfl rfl ?_
    refine lx_bin (v := I ((7 - i % 8 : Nat) : Int)) rfl rfl (fun _ => rfl) (fun _ => (bin_sub_i _ _ _ (by unfold inI; omega)).trans (by rw [show ((7 : Int) - ((i % 8 : Nat) : Int)) = ((7 - i % 8 : Nat) : Int) by omega])) rfl rfl ?_
    refine lx_bin (v := U8 (bs.getD (i / 8) 0 >>> (7 - i % 8))) rfl rfl (fun _ => rfl) (fun _ => bin_shr_i_u8 _ _ _ (by omega)) rfl rfl ?_
    refine lx_bin (v := U8 (pbit bs i)) rfl rfl (fun _ => rfl) (fun _ => bin_and_u8 _ _ 1#8) rfl rfl ?_
    refine lx_bin (v := .bool (decide (pbit bs i = 1#8))) rfl rfl (fun _ => rfl) (fun _ => (bin_eql_u8 _ _ 1#8).trans rfl) rfl rfl ?_
    refine lx_nil ?_
    refine x_if rfl (fun hc => ?_) (fun hc => ?_)
    · simp only [decide_eq_true_eq] at hc
      have hq := hc
      refine x_plain (E := EE []) ?_
      refine lx_loada 5 rfl rfl Tryd.isAgg36 Tryd.sizeOf36 (by simp) rfl rfl ?_
      refine lx_loada 2 rfl rfl Tryd.isAgg36 Tryd.sizeOf36 (by simp) rfl rfl ?_
      refine lx_call rfl rfl ent25 (r5mul _ _) rfl rfl ?_
      refine lx_storea 5 hGF rfl rfl rfl Tryd.sizeOf36 (by simp) (by simp) (one_u64 _) rfl ?_
      refine lx_nil ?_
      refine x_plain (E := EE []) ?_
      refine lx_move rfl rfl rfl ?_
      refine lx_bin rfl rfl (fun _ => rfl) (fun _ => bin_add_i _ _ _ (by unfold inI; omega)) rfl rfl ?_
      refine lx_assign rfl rfl rfl ?_
      refine lx_nil ?_
      repeat (refine kblk_n ?_)
      refine kseq_n ?_
      exact ⟨rfl, ⟨i + 1, by omega⟩, _, by show 8 * bs.length - (i + 1) < 8 * bs.length - i; omega, rfl, ⟨rfl, rfl, rfl, rfl, rfl, trivial⟩, ⟨rfl, rfl, by first | (rw [← bt_y x bs i hq]; rfl) | (rw [← bt_n x bs i hq]; rfl), trivial⟩⟩
    · simp only [decide_eq_false_iff_not] at hc
      have hq := hc
      refine x_skip ?_
      refine x_plain (E := EE []) ?_
      refine lx_move rfl rfl rfl ?_
      refine lx_bin rfl rfl (fun _ => rfl) (fun _ => bin_add_i _ _ _ (by unfold inI; omega)) rfl rfl ?_
      refine lx_assign rfl rfl rfl ?_
      refine lx_nil ?_
      repeat (refine kblk_n ?_)
      refine kseq_n ?_
      exact ⟨rfl, ⟨i + 1, by omega⟩, _, by show 8 * bs.length - (i + 1) < 8 * bs.length - i; omega, rfl, ⟨rfl, rfl, rfl, rfl, rfl, trivial⟩, ⟨rfl, rfl, by first | (rw [← bt_y x bs i hq]; rfl) | (rw [← bt_n x bs i hq]; rfl), trivial⟩⟩
  · obtain rfl : i = 8 * bs.length := by simp at hc; omega
    refine x_exit ?_
    refine xs_plain (E := EE []) ?_
    refine lx_loada 5 rfl rfl Tryd.isAgg36 Tryd.sizeOf36 (by simp) rfl rfl ?_
    refine lx_storea 4 hGF rfl rfl rfl Tryd.sizeOf36 (by simp) (by simp) (one_u64 _) rfl ?_
    refine lx_nil ?_
    refine x_ret ?_
    repeat (first | refine kseq_ret ?_ | refine kblk_ret ?_)
    exact kret_own 4 rfl rfl rfl Tryd.isAgg36 Tryd.sizeOf36 (by simp) (fun w hw => ⟨by rw [← BTn_eight], hp_below hw⟩)
end Go.Proofs.YtceogjapiphokaaDoor

namespace Go.Proofs.YtceogjapiphokaaDoor
open Go.RowKit
set_option maxRecDepth 100000
set_option maxHeartbeats 1000000
attribute [local simp] fe_len nm_len AS_len SS_len MONT_len RM_len FRs_len BYs_len by48_len PLl TWOl ONEl N1l IVPl HFPl RTPl FL_len SP_len fe2_len SP2_len FM_len

theorem rfromE (x : Zp) (b : Nat) (t : TypeId) (w : World) (hw : Gt w) (ho : OwnB w b ((by48 x).map U8) t) :
    Calls Tryd.prog 59 [.slice (some ⟨b, 0, none⟩) 48 48].toArray w (fun r w' => r = .returned (.tuple #[NV (nm x), .bool true]) ∧ Grow w w') := by
  have h := rfrom48 b t (by48 x) (by48_len x) w hw ho
  rw [FRs_by48] at h
  exact h
def SVl (vs : List (Option Addr × Nat × Nat)) : List Value := vs.map fun v => .slice v.1 v.2.1 v.2.2
def sm2 (a b : BitVec 64) : W2 := (zp a.toNat, zp b.toNat)
theorem wide_cut (e : Option Addr) (cap : Nat) (bs : List (BitVec 8)) (l k len c' : Nat) (hk : len = k) (hl : l + k ≤ bs.length) (hc' : len ≤ c') (hcap : bs.length ≤ cap) (hlen : bs.length ≤ 1000) (w : World) (hw : Gt w) (hby : BytesAt w e bs) :
    Calls Tryd.prog 13 [.slice (if cap = l then e else e.map (·.add (l * 1))) len c'].toArray w (fun r w' => r = .returned (EV (ZB ((bs.drop l).take k))) ∧ Grow w w') := by
  subst hk
  have hL : ((bs.drop l).take len).length = len := by rw [List.length_take, List.length_drop]; omega
  have h := fwide_calls (if cap = l then e else e.map (·.add (l * 1))) c' ((bs.drop l).take len) (by omega) (by omega) w hw (hby.cut l len hcap)
  rw [hL] at h
  exact h
/-- The element of bytes. -/
def NUM (bs : List (BitVec 8)) : W2 := (ZB ((bs.drop 0).take (bs.length / 2)), ZB ((bs.drop (bs.length / 2)).take (bs.length - bs.length / 2)))
theorem part5 (x : Zp) : Pure Tryd.prog Gt 14 [EV x] (EV x) := by
  intro w hw
  have hGF : BOk Gt (pl w) := gt_low.plain hw
  refine calls_of_X (G := Gt) Tryd.func14 rfl rfl (Hp (pl w) []) (hp_refl (pl w) trivial rides_true) (good_hp hGF) ?_
  refine xs_plain (E := EE []) ?_
  refine lx_boxr 1 hGF rfl rfl rfl ?_
  intro b1
  refine lx_allocr 2 hGF zv34 rfl rfl ?_
  intro b2
  refine lx_nil ?_
  refine xs_plain (E := EE []) ?_
  refine lx_loada 1 rfl rfl Tryd.isAgg28 Tryd.sizeOf28 (by simp) rfl rfl ?_
  refine lx_call rfl rfl ent58 (fbytes_pure _) rfl rfl ?_
  refine lx_allocr 3 hGF zv49 rfl rfl ?_
  intro b3
  refine lx_storea 3 hGF rfl rfl rfl Tryd.sizeOf49 (by simp) (by simp) (one_u8 _) rfl ?_
  refine lx_nil ?_
  refine xs_plain (E := EE []) ?_
  refine lx_slarr1 (l := 0) (h' := 48) rfl Tryd.underlying49 Tryd.sizeOf5 rfl rfl (by omega) (by omega) rfl rfl ?_
  refine lx_callC rfl rfl ent59 (fun w' hC hG => rfromE x _ _ w' hG (hC.own 3 _ _ _ rfl).1) rfl rfl ?_
  refine lx_move rfl rfl rfl ?_
  refine lx_ext rfl rfl rfl rfl ?_
  refine lx_ext rfl rfl rfl rfl ?_
  refine lx_allocr 4 hGF zv32 rfl rfl ?_
  intro b4
  refine lx_storea 4 hGF rfl rfl rfl Tryd.sizeOf32 (by simp) (by simp) (one_u64 _) rfl ?_
  refine lx_assign rfl rfl rfl ?_
  refine lx_nil ?_
  refine xs_plain (E := EE []) ?_
  refine lx_loada 4 rfl rfl Tryd.isAgg32 Tryd.sizeOf32 (by simp) rfl rfl ?_
  refine lx_call rfl rfl ent60 (rofE _) rfl rfl ?_
  refine lx_storea 2 hGF rfl rfl rfl Tryd.sizeOf34 (by simp) (by simp) (one_u64 _) rfl ?_
  refine lx_nil ?_
  refine x_ret ?_
  repeat (first | refine kseq_ret ?_ | refine kblk_ret ?_)
  exact kret_own 2 rfl rfl rfl Tryd.isAgg34 Tryd.sizeOf34 (by simp) (fun w hw => ⟨rfl, hp_below hw⟩)
theorem ref5 (x : W2) : Pure Tryd.prog Gt 12 [EV2 x] (EV2 x) := by
  intro w hw
  have hGF : BOk Gt (pl w) := gt_low.plain hw
  refine calls_of_X (G := Gt) Tryd.func12 rfl rfl (Hp (pl w) []) (hp_refl (pl w) trivial rides_true) (good_hp hGF) ?_
  refine xs_plain (E := EE []) ?_
  refine lx_boxr 1 hGF rfl rfl rfl ?_
  intro b1
  refine lx_allocr 2 hGF zv36 rfl rfl ?_
  intro b2
  refine lx_nil ?_
  refine xs_drawn (E := EE []) mixed (by kernel_rfl) (by kernel_rfl) (by kernel_rfl) ?_
  refine lx_fak 0 rfl Tryd.underlying30 rfl Tryd.sizeOf28 (by decide) rfl rfl rfl ?_
  refine lx_loado 1 _ rfl rfl Tryd.isAgg28 Tryd.sizeOf28 (by simp) ld_l rfl rfl ?_
  refine lx_call rfl rfl ent14 (part5 _) rfl rfl ?_
  refine lx_fak 6 rfl Tryd.underlying30 rfl Tryd.sizeOf28 (by decide) rfl rfl rfl ?_
  refine lx_loado 1 _ rfl rfl Tryd.isAgg28 Tryd.sizeOf28 (by simp) (ld_r (by simp)) rfl rfl ?_
  refine lx_call rfl rfl ent14 (part5 _) rfl rfl ?_
  refine lx_two two36 rfl rfl (by simp) (by simp) rfl rfl ?_
  refine lx_storea 2 hGF rfl rfl rfl Tryd.sizeOf36 (by simp) (by simp) (one_u64 _) rfl ?_
  refine lx_nil ?_
  refine x_ret ?_
  repeat (first | refine kseq_ret ?_ | refine kblk_ret ?_)
  exact kret_own 2 rfl rfl rfl Tryd.isAgg36 Tryd.sizeOf36 (by simp) (fun w hw => ⟨rfl, hp_below hw⟩)
theorem same5 (x y : W2) : Pure Tryd.prog Gt 15 [EV2 x, EV2 y] (.bool (decide (x = y))) := by
  intro w hw
  have hGF : BOk Gt (pl w) := gt_low.plain hw
  refine calls_of_X (G := Gt) Tryd.func15 rfl rfl (Hp (pl w) []) (hp_refl (pl w) trivial rides_true) (good_hp hGF) ?_
  refine xs_plain (E := EE []) ?_
  refine lx_boxr 2 hGF rfl rfl rfl ?_
  intro b2
  refine lx_boxr 3 hGF rfl rfl rfl ?_
  intro b3
  refine lx_assign rfl rfl rfl ?_
  refine lx_nil ?_
  refine xs_drawn (E := EE []) mixed (by kernel_rfl) (by kernel_rfl) (by kernel_rfl) ?_
  refine lx_loada 2 rfl rfl Tryd.isAgg30 Tryd.sizeOf30 (by simp) rfl rfl ?_
  refine lx_call rfl rfl ent12 (ref5 _) rfl rfl ?_
  refine lx_loada 3 rfl rfl Tryd.isAgg36 Tryd.sizeOf36 (by simp) rfl rfl ?_
  refine lx_bin rfl rfl (fun _ => eqg36 _ _ _ _ _ _) (fun w => eqv36 _ _ (by simp) (by simp) w) rfl rfl ?_
  refine lx_assign rfl rfl rfl ?_
  refine lx_nil ?_
  refine x_ret ?_
  repeat (first | refine kseq_ret ?_ | refine kblk_ret ?_)
  exact kret_tmp rfl rfl (fun w hw => ⟨rb (fe2_dec x y), hp_below hw⟩)
theorem small5 (a b : BitVec 64) : Pure Tryd.prog Gt 54 [U64 a, U64 b] (EV2 (sm2 a b)) := by
  intro w hw
  have hGF : BOk Gt (pl w) := gt_low.plain hw
  refine calls_of_X (G := Gt) Tryd.func54 rfl rfl (Hp (pl w) []) (hp_refl (pl w) trivial rides_true) (good_hp hGF) ?_
  refine xs_plain (E := EE []) ?_
  refine lx_allocr 4 hGF zv30 rfl rfl ?_
  intro b4
  refine lx_nil ?_
  refine xs_plain (E := EE []) ?_
  refine lx_move rfl rfl rfl ?_
  refine lx_call rfl rfl ent53 (fof_pure _) rfl rfl ?_
  refine lx_move rfl rfl rfl ?_
  refine lx_call rfl rfl ent53 (fof_pure _) rfl rfl ?_
  refine lx_two two30 rfl rfl (by simp) (by simp) rfl rfl ?_
  refine lx_storea 4 hGF rfl rfl rfl Tryd.sizeOf30 (by simp) (by simp) (one_u64 _) rfl ?_
  refine lx_nil ?_
  refine x_ret ?_
  repeat (first | refine kseq_ret ?_ | refine kblk_ret ?_)
  exact kret_own 4 rfl rfl rfl Tryd.isAgg30 Tryd.sizeOf30 (by simp) (fun w hw => ⟨rfl, hp_below hw⟩)
theorem num_calls (e : Option Addr) (cap : Nat) (bs : List (BitVec 8)) (hlen : bs.length ≤ 1000) (hcap : bs.length ≤ cap) (w : World) (hw : Gt w) (hby : BytesAt w e bs) :
    Calls Tryd.prog 11 [.slice e bs.length cap].toArray w (fun r w' => r = .returned (EV2 (NUM bs)) ∧ Grow w w') := by
  have hGF : BOk Gt (pl w) := gt_low.plain hw
  refine calls_of_X (G := Gt) Tryd.func11 rfl rfl (Hp (pl w) []) (hp_refl (pl w) trivial rides_true) (good_hp hGF) ?_
  refine xs_plain (E := EE []) ?_
  refine lx_allocr 2 hGF zv30 rfl rfl ?_
  intro b2
  refine lx_nil ?_
  refine xs_plain (E := EE []) ?_
  refine lx_move rfl rfl rfl ?_
  refine lx_len rfl (fun _ => len_slice Tryd.underlying22 _ _ _ _) rfl rfl ?_
  refine lx_bin (v := I ((bs.length / 2 : Nat) : Int)) rfl rfl (fun _ => rfl) (fun _ => bin_quo_i _ _ _ (by decide) (show inI ((bs.length / 2 : Nat) : Int) by unfold inI; omega)) rfl rfl ?_
  refine lx_assign rfl rfl rfl ?_
  refine lx_nil ?_
  refine xs_drawn (E := EE []) mixed (by kernel_rfl) (by kernel_rfl) (by kernel_rfl) ?_
  refine lx_move rfl rfl rfl ?_
  refine lx_move rfl rfl rfl ?_
  refine lx_slsl (l := 0) (h' := bs.length / 2) rfl Tryd.underlying22 Tryd.sizeOf5 rfl rfl (by omega) rfl rfl ?_
  refine lx_callC rfl rfl ent13 (fun w' hC hG => wide_cut e cap bs 0 (bs.length / 2) _ _ rfl (by omega) (by omega) hcap hlen w' hG (hby.grow (hp_below hC))) rfl rfl ?_
  refine lx_move rfl rfl rfl ?_
  refine lx_move rfl rfl rfl ?_
  refine lx_slsl (l := bs.length / 2) (h' := bs.length) rfl Tryd.underlying22 Tryd.sizeOf5 rfl rfl (by omega) rfl rfl ?_
  refine lx_callC rfl rfl ent13 (fun w' hC hG => wide_cut e cap bs (bs.length / 2) (bs.length - bs.length / 2) _ _ rfl (by omega) (by omega) hcap hlen w' hG (hby.grow (hp_below hC))) rfl rfl ?_
  refine lx_two two30 rfl rfl (by simp) (by simp) rfl rfl ?_
  refine lx_storea 2 hGF rfl rfl rfl Tryd.sizeOf30 (by simp) (by simp) (one_u64 _) rfl ?_
  refine lx_nil ?_
  refine x_ret ?_
  repeat (first | refine kseq_ret ?_ | refine kblk_ret ?_)
  exact kret_own 2 rfl rfl rfl Tryd.isAgg30 Tryd.sizeOf30 (by simp) (fun w hw => ⟨rfl, hp_below hw⟩)
theorem light_calls (b m : Nat) (vs : List (Option Addr × Nat × Nat)) (hm : vs.length = m) (hb : m ≤ 100) (w : World) (hw : Gt w) (ho : w.rangeAt b 0 (SVl vs)) :
    Calls Tryd.prog 10 [.slice (some ⟨b, 0, none⟩) m m].toArray w (fun r w' => r = .returned (.bool (decide (∀ v ∈ vs, v.2.1 ≤ 200))) ∧ Grow w w') := by
  have hGF : BOk Gt (pl w) := gt_low.plain hw
  refine calls_of_X (G := Gt) Tryd.func10 rfl rfl (Hp (pl w) []) (hp_refl (pl w) trivial rides_true) (good_hp hGF) ?_
  refine xs_plain (E := EE []) ?_
  refine lx_assign rfl rfl rfl ?_
  refine lx_nil ?_
  refine x_seq ?_
  refine xs_plain (E := EE []) ?_
  refine lx_assign rfl rfl rfl ?_
  refine lx_nil ?_
  refine x_block ?_
  refine x_for (ι := { i : Nat // i ≤ m ∧ ∀ (j : Nat) v, j < i → vs[j]? = some v → v.2.1 ≤ 200 }) (fun y => [(0, .slice (some ⟨b, 0, none⟩) m m), (3, I (y.1 : Int))]) (fun y => []) (fun y => m - y.1) ⟨0, Nat.zero_le _, fun _ _ h => absurd h (Nat.not_lt_zero _)⟩ hGF ⟨rfl, rfl, trivial⟩ trivial ?_
  rintro ⟨i, hi, hall⟩
  dsimp only
  refine x_seq ?_
  refine xs_plain (E := EE []) ?_
  refine lx_move rfl rfl rfl ?_
  refine lx_move rfl rfl rfl ?_
  refine lx_len rfl (fun _ => len_slice Tryd.underlying65 _ _ _ _) rfl rfl ?_
  refine lx_bin rfl rfl (fun _ => rfl) (fun _ => bin_lss_i _ _ _) rfl rfl ?_
  refine lx_nil ?_
  refine x_if rfl (fun hc => ?_) (fun hc => ?_)
  · have hi2 : i < m := by simp at hc; omega
    clear hc
    refine x_skip ?_
    refine x_seq ?_
    refine x_block ?_
    refine xs_plain (E := EE []) ?_
    refine lx_move rfl rfl rfl ?_
    refine lx_move rfl rfl rfl ?_
    obtain ⟨v, hv⟩ : ∃ v, vs[i]? = some v := ⟨_, List.getElem?_eq_getElem (by omega)⟩
    refine lx_is1 i rfl rfl Tryd.underlying65 Tryd.sizeOf22 (by omega) (by omega) rfl rfl ?_
    refine lx_load rfl Tryd.isAgg22 (fun w' h => hp_oldrange ho (fun h => h) w' h i (.slice v.1 v.2.1 v.2.2) (by rw [SVl, List.getElem?_map, hv]; rfl)) rfl rfl ?_
    refine lx_len rfl (fun _ => len_slice Tryd.underlying22 _ _ _ _) rfl rfl ?_
    refine lx_bin rfl rfl (fun _ => rfl) (fun _ => bin_gtr_i _ _ _) rfl rfl ?_
    refine lx_nil ?_
    refine x_if rfl (fun hc => ?_) (fun hc => ?_)
    · have hbig : ¬ v.2.1 ≤ 200 := by simp at hc; omega
      refine xs_plain (E := EE []) ?_
      refine lx_assign rfl rfl rfl ?_
      refine lx_nil ?_
      refine x_ret ?_
      repeat (first | refine kseq_ret ?_ | refine kblk_ret ?_)
      exact kret_tmp rfl rfl (fun w hw => ⟨by rw [decide_eq_false (fun h => hbig (h v (List.mem_of_getElem? hv)))] <;> rfl, hp_below hw⟩)
    · have hle : v.2.1 ≤ 200 := by simp at hc; omega
      clear hc
      have hall' : ∀ (j : Nat) u, j < i + 1 → vs[j]? = some u → u.2.1 ≤ 200 := fun j u hj hu => by
        rcases Nat.lt_or_ge j i with h | h
        · exact hall j u h hu
        · obtain rfl : j = i := by omega
          cases hv.symm.trans hu
          exact hle
      refine x_skip ?_
      refine x_plain (E := EE []) ?_
      refine lx_move rfl rfl rfl ?_
      refine lx_bin rfl rfl (fun _ => rfl) (fun _ => bin_add_i _ _ _ (by unfold inI; omega)) rfl rfl ?_
      refine lx_assign rfl rfl rfl ?_
      refine lx_nil ?_
      repeat (refine kblk_n ?_)
      refine kseq_n ?_
      exact ⟨rfl, ⟨i + 1, by omega, hall'⟩, _, by show m - (i + 1) < m - i; omega, rfl, ⟨rfl, rfl, trivial⟩, trivial⟩
  · obtain rfl : i = m := by simp at hc; omega
    clear hc
    refine x_exit ?_
    refine xs_plain (E := EE []) ?_
    refine lx_assign rfl rfl rfl ?_
    refine lx_nil ?_
    refine x_ret ?_
    repeat (first | refine kseq_ret ?_ | refine kblk_ret ?_)
    exact kret_tmp rfl rfl (fun w hw => ⟨by rw [decide_eq_true (fun v hv => by obtain ⟨j, hj⟩ := List.getElem?_of_mem hv; exact hall j v (by have := (List.getElem?_eq_some_iff.1 hj).1; omega) hj)] <;> rfl, hp_below hw⟩)
theorem ks1 : ml2 (sm2 1#64 1#64) (sm2 1#64 1#64) = sm2 0#64 2#64 := by decide +kernel
theorem ks2 : LG2 (sm2 1#64 1#64) = false := by decide +kernel
theorem ks3 : ml2 (sm2 0#64 1#64) (sm2 0#64 1#64) = ng2 on2 := by decide +kernel
theorem ks4 : sm2 3#64 4#64 ≠ ze2 := by decide +kernel
theorem ks5 : xi2 (sm2 1#64 0#64) = sm2 1#64 1#64 := by decide +kernel
theorem ks6 : SG2 (sm2 1#64 2#64) = 1 := by decide +kernel
theorem ks7 : SG2 (sm2 0#64 1#64) = 1 := by decide +kernel
theorem ks8 : SG2 (sm2 2#64 1#64) = 0 := by decide +kernel
theorem ksqrt : Pure Tryd.prog Gt 41 [EV2 (sm2 0#64 2#64)] (.tuple #[EV2 (sm2 1#64 1#64), .bool true]) := e2sqrtY _ _ ks1 ks2
theorem known5  : Pure Tryd.prog Gt 9 [] (.bool true) := by
  intro w hw
  have hGF : BOk Gt (pl w) := gt_low.plain hw
  refine calls_of_X (G := Gt) Tryd.func9 rfl rfl (Hp (pl w) []) (hp_refl (pl w) trivial rides_true) (good_hp hGF) ?_
  refine xs_plain (E := EE []) ?_
  refine lx_assign rfl rfl rfl ?_
  refine lx_nil ?_
  refine xs_plain (E := EE []) ?_
  refine lx_call rfl rfl ent54 (small5 _ _) rfl rfl ?_
  refine lx_allocr 1 hGF zv30 rfl rfl ?_
  intro b1
  refine lx_storea 1 hGF rfl rfl rfl Tryd.sizeOf30 (by simp) (by simp) (one_u64 _) rfl ?_
  refine lx_nil ?_
  refine xs_plain (E := EE []) ?_
  refine lx_call rfl rfl ent54 (small5 _ _) rfl rfl ?_
  refine lx_call rfl rfl ent41 (ksqrt) rfl rfl ?_
  refine lx_move rfl rfl rfl ?_
  refine lx_ext rfl rfl rfl rfl ?_
  refine lx_ext rfl rfl rfl rfl ?_
  refine lx_allocr 2 hGF zv30 rfl rfl ?_
  intro b2
  refine lx_storea 2 hGF rfl rfl rfl Tryd.sizeOf30 (by simp) (by simp) (one_u64 _) rfl ?_
  refine lx_assign rfl rfl rfl ?_
  refine lx_nil ?_
  refine xs_plain (E := EE []) ?_
  refine lx_loada 1 rfl rfl Tryd.isAgg30 Tryd.sizeOf30 (by simp) rfl rfl ?_
  refine lx_loada 1 rfl rfl Tryd.isAgg30 Tryd.sizeOf30 (by simp) rfl rfl ?_
  refine lx_call rfl rfl ent24 (e2mul _ _) rfl rfl ?_
  refine lx_call rfl rfl ent38 (e2one) rfl rfl ?_
  refine lx_call rfl rfl ent20 (e2neg _) rfl rfl ?_
  refine lx_callB true rfl rfl ent33 (e2equal _ _) (decide_eq_true (ks3)) rfl rfl ?_
  refine lx_move rfl rfl rfl ?_
  refine lx_move rfl rfl rfl ?_
  refine lx_pick rfl rfl rfl rfl rfl ?_
  refine lx_move rfl rfl rfl ?_
  refine lx_loada 2 rfl rfl Tryd.isAgg30 Tryd.sizeOf30 (by simp) rfl rfl ?_
  refine lx_call rfl rfl ent26 (e2square _) rfl rfl ?_
  refine lx_call rfl rfl ent54 (small5 _ _) rfl rfl ?_
  refine lx_callB true rfl rfl ent33 (e2equal _ _) (decide_eq_true (ks1)) rfl rfl ?_
  refine lx_pick rfl rfl rfl rfl rfl ?_
  refine lx_move rfl rfl rfl ?_
  refine lx_loada 2 rfl rfl Tryd.isAgg30 Tryd.sizeOf30 (by simp) rfl rfl ?_
  refine lx_callB false rfl rfl ent44 (e2large _) (ks2) rfl rfl ?_
  refine lx_un rfl (fun _ => un_not _) rfl rfl ?_
  refine lx_pick rfl rfl rfl rfl rfl ?_
  refine lx_move rfl rfl rfl ?_
  refine lx_call rfl rfl ent54 (small5 _ _) rfl rfl ?_
  refine lx_call rfl rfl ent54 (small5 _ _) rfl rfl ?_
  refine lx_call rfl rfl ent27 (e2inv _) rfl rfl ?_
  refine lx_call rfl rfl ent24 (e2mul _ _) rfl rfl ?_
  refine lx_call rfl rfl ent38 (e2one) rfl rfl ?_
  refine lx_callB true rfl rfl ent33 (e2equal _ _) (decide_eq_true (iv2_mul ks4)) rfl rfl ?_
  refine lx_pick rfl rfl rfl rfl rfl ?_
  refine lx_move rfl rfl rfl ?_
  refine lx_call rfl rfl ent54 (small5 _ _) rfl rfl ?_
  refine lx_call rfl rfl ent29 (e2xi _) rfl rfl ?_
  refine lx_call rfl rfl ent54 (small5 _ _) rfl rfl ?_
  refine lx_callB true rfl rfl ent33 (e2equal _ _) (decide_eq_true (ks5)) rfl rfl ?_
  refine lx_pick rfl rfl rfl rfl rfl ?_
  refine lx_move rfl rfl rfl ?_
  refine lx_call rfl rfl ent54 (small5 _ _) rfl rfl ?_
  refine lx_call rfl rfl ent45 (e2sgn _) rfl rfl ?_
  refine lx_binB true rfl rfl (fun _ => rfl) (fun _ => bin_eql_i _ _ _) (by rw [ks6]; rfl) rfl rfl ?_
  refine lx_pick rfl rfl rfl rfl rfl ?_
  refine lx_move rfl rfl rfl ?_
  refine lx_call rfl rfl ent54 (small5 _ _) rfl rfl ?_
  refine lx_call rfl rfl ent45 (e2sgn _) rfl rfl ?_
  refine lx_binB true rfl rfl (fun _ => rfl) (fun _ => bin_eql_i _ _ _) (by rw [ks7]; rfl) rfl rfl ?_
  refine lx_pick rfl rfl rfl rfl rfl ?_
  refine lx_move rfl rfl rfl ?_
  refine lx_call rfl rfl ent54 (small5 _ _) rfl rfl ?_
  refine lx_call rfl rfl ent45 (e2sgn _) rfl rfl ?_
  refine lx_binB true rfl rfl (fun _ => rfl) (fun _ => bin_eql_i _ _ _) (by rw [ks8]; rfl) rfl rfl ?_
  refine lx_pick rfl rfl rfl rfl rfl ?_
  refine lx_assign rfl rfl rfl ?_
  refine lx_nil ?_
  refine x_ret ?_
  repeat (first | refine kseq_ret ?_ | refine kblk_ret ?_)
  exact kret_tmp rfl rfl (fun w hw => ⟨rfl, hp_below hw⟩)
end Go.Proofs.YtceogjapiphokaaDoor
