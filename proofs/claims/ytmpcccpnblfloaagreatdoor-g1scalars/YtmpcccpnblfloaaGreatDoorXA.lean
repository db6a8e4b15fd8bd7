/-
  The walks of package fp2: sums and products.
  The walks of package fp2: signs and roots; the reference's elements.
-/
import Derived.Test.YtmpcccpnblfloaaGreatDoorX9
import Derived.Test.YtmpcccpnblfloaaGreatDoorX5
import Derived.Test.YtmpcccpnblfloaaGreatDoorX3
namespace Go.Proofs.YtmpcccpnblfloaaGreatDoor
open Go.RowKit
set_option maxRecDepth 100000
set_option maxHeartbeats 1000000
attribute [local simp] fe_len nm_len AS_len SS_len MONT_len RM_len FRs_len BYs_len by48_len PLl TWOl ONEl N1l IVPl HFPl RTPl FL_len SP_len fe2_len SP2_len FM_len

theorem ent80 : Enters Tryz.prog 80 := fun _ _ => by kernel_rfl
theorem ent104 : Enters Tryz.prog 104 := fun _ _ => by kernel_rfl
theorem ent44 : Enters Tryz.prog 44 := fun _ _ => by kernel_rfl
theorem ent105 : Enters Tryz.prog 105 := fun _ _ => by kernel_rfl
theorem ent49 : Enters Tryz.prog 49 := fun _ _ => by kernel_rfl
theorem ent43 : Enters Tryz.prog 43 := fun _ _ => by kernel_rfl
/-- An element of fp2 as a value. -/
abbrev EV2 (x : W2) : Value := .agg ((fe x.1 ++ fe x.2).map U64).toArray
theorem zf28 (w : World) : (zeroValue 28).run Tryz.prog w = .ok (.agg ((fe 0).map U64).toArray) w := by rw [fe_0]; exact (Tryz.zeroValue28 w).trans (by rfl)
theorem zv38 (w : World) : (zeroValue 38).run Tryz.prog w = .ok (.agg ((fe 0 ++ fe 0).map U64).toArray) w := by rw [fe_0]; exact (Tryz.zeroValue38 w).trans (by rfl)
theorem two38 : Two Tryz.prog 38 ⟨ "A", 36, 0, false, "", "", 0⟩ ⟨ "B", 36, 6, false, "", "", 48⟩ 6 6 (fe 0) (fe 0) := ⟨Tryz.underlying38, rfl, rfl, Tryz.sizeOf36, Tryz.sizeOf36, zv38, fe_len 0, fe_len 0⟩
theorem eqf38 : EqF Tryz.prog 38 12 4 :=
  have h : EqF Tryz.prog 36 6 3 := eqf_one Tryz.underlying36 rfl (by decide) (by kernel_rfl) Tryz.isAgg34 Tryz.sizeOf34 (eqf_arr Tryz.underlying34 Tryz.underlying25 Tryz.sizeOf25 Tryz.isAgg25)
  eqf_two Tryz.underlying38 rfl rfl (by decide) (by decide) (by kernel_rfl) Tryz.isAgg36 Tryz.sizeOf36 h Tryz.isAgg36 Tryz.sizeOf36 h
theorem eqg38 (op : BinOp) (x y : Operand) (xs ys : Array Value) (w : World) : (eqGuard op 38 x y (.agg xs) (.agg ys)).run Tryz.prog w = .ok () w := run_eqGuard_agg w op 38 x y xs ys (by kernel_rfl)
theorem eqv38 (xs ys : List (BitVec 64)) (h : xs.length = 12) (h' : ys.length = 12) (w : World) : (binOp .eql 38 (.agg (xs.map U64).toArray) (.agg (ys.map U64).toArray)).run Tryz.prog w = .ok (.bool (decide (xs = ys))) w := bin_eqf eqf38 (by decide) xs ys h h' w
theorem e2 {a b c d : Zp} (h1 : a = c) (h2 : b = d) : Ending.returned (.agg ((fe a ++ fe b).map U64).toArray) = .returned (.agg ((fe c ++ fe d).map U64).toArray) := by rw [h1, h2]
theorem rb {a b : Bool} (h : a = b) : Ending.returned (.bool a) = .returned (.bool b) := by rw [h]
end Go.Proofs.YtmpcccpnblfloaaGreatDoor

namespace Go.Proofs.YtmpcccpnblfloaaGreatDoor
open Go.RowKit
set_option maxRecDepth 100000
set_option maxHeartbeats 1000000
attribute [local simp] fe_len nm_len AS_len SS_len MONT_len RM_len FRs_len BYs_len by48_len PLl TWOl ONEl N1l IVPl HFPl RTPl FL_len SP_len fe2_len SP2_len FM_len

theorem rsmall1 : Pure Tryz.prog Gt 93 [U64 1#64] (EV 1) := rsmallE 1#64
theorem r5one  : Pure Tryz.prog Gt 80 [] (EV2 on2) := by
  intro w hw
  have hGF : BOk Gt (pl w) := gt_low.plain hw
  refine calls_of_X (G := Gt) Tryz.func80 rfl rfl (Hp (pl w) []) (hp_refl (pl w) trivial rides_true) (good_hp hGF) ?_
  refine xs_plain (E := EE []) ?_
  refine lx_allocr 0 hGF zv38 rfl rfl ?_
  intro b0
  refine lx_nil ?_
  refine xs_plain (E := EE []) ?_
  refine lx_call rfl rfl ent93 (rsmall1) rfl rfl ?_
  refine lx_twoA two38 rfl (by simp) rfl rfl ?_
  refine lx_storea 0 hGF rfl rfl rfl Tryz.sizeOf38 (by simp) (by simp) (one_u64 _) rfl ?_
  refine lx_nil ?_
  refine x_ret ?_
  repeat (first | refine kseq_ret ?_ | refine kblk_ret ?_)
  exact kret_own 0 rfl rfl rfl Tryz.isAgg38 Tryz.sizeOf38 (by simp) (fun w hw => ⟨rfl, hp_below hw⟩)
theorem r5isZero (x : W2) : Pure Tryz.prog Gt 104 [EV2 x] (.bool (decide (x = ze2))) := by
  intro w hw
  have hGF : BOk Gt (pl w) := gt_low.plain hw
  by_cases h : x.1 = 0
  · skip
    refine calls_of_X (G := Gt) Tryz.func104 rfl rfl (Hp (pl w) []) (hp_refl (pl w) trivial rides_true) (good_hp hGF) ?_
    refine xs_plain (E := EE []) ?_
    refine lx_boxr 1 hGF rfl rfl rfl ?_
    intro b1
    refine lx_assign rfl rfl rfl ?_
    refine lx_nil ?_
    refine xs_plain (E := EE []) ?_
    refine lx_fak 0 rfl Tryz.underlying38 rfl Tryz.sizeOf36 (by decide) rfl rfl rfl ?_
    refine lx_loado 1 _ rfl rfl Tryz.isAgg36 Tryz.sizeOf36 (by simp) ld_l rfl rfl ?_
    refine lx_callB true rfl rfl ent47 (risZeroE _) (decide_eq_true h) rfl rfl ?_
    refine lx_move rfl rfl rfl ?_
    refine lx_fak 6 rfl Tryz.underlying38 rfl Tryz.sizeOf36 (by decide) rfl rfl rfl ?_
    refine lx_loado 1 _ rfl rfl Tryz.isAgg36 Tryz.sizeOf36 (by simp) (ld_r (by simp)) rfl rfl ?_
    refine lx_call rfl rfl ent47 (risZeroE _) rfl rfl ?_
    refine lx_pick rfl rfl rfl rfl rfl ?_
    refine lx_assign rfl rfl rfl ?_
    refine lx_nil ?_
    refine x_ret ?_
    repeat (first | refine kseq_ret ?_ | refine kblk_ret ?_)
    exact kret_tmp rfl rfl (fun w hw => ⟨rb (dec2_t (y := ze2) h), hp_below hw⟩)
  · skip
    refine calls_of_X (G := Gt) Tryz.func104 rfl rfl (Hp (pl w) []) (hp_refl (pl w) trivial rides_true) (good_hp hGF) ?_
    refine xs_plain (E := EE []) ?_
    refine lx_boxr 1 hGF rfl rfl rfl ?_
    intro b1
    refine lx_assign rfl rfl rfl ?_
    refine lx_nil ?_
    refine xs_plain (E := EE []) ?_
    refine lx_fak 0 rfl Tryz.underlying38 rfl Tryz.sizeOf36 (by decide) rfl rfl rfl ?_
    refine lx_loado 1 _ rfl rfl Tryz.isAgg36 Tryz.sizeOf36 (by simp) ld_l rfl rfl ?_
    refine lx_callB false rfl rfl ent47 (risZeroE _) (decide_eq_false h) rfl rfl ?_
    refine lx_move rfl rfl rfl ?_
    refine lx_skip rfl rfl rfl ?_
    refine lx_skip rfl rfl rfl ?_
    refine lx_skip rfl rfl rfl ?_
    refine lx_pick rfl rfl rfl rfl rfl ?_
    refine lx_assign rfl rfl rfl ?_
    refine lx_nil ?_
    refine x_ret ?_
    repeat (first | refine kseq_ret ?_ | refine kblk_ret ?_)
    exact kret_tmp rfl rfl (fun w hw => ⟨rb (dec2_f (y := ze2) h), hp_below hw⟩)
theorem r5add (x y : W2) : Pure Tryz.prog Gt 44 [EV2 x, EV2 y] (EV2 (ad2 x y)) := by
  intro w hw
  have hGF : BOk Gt (pl w) := gt_low.plain hw
  refine calls_of_X (G := Gt) Tryz.func44 rfl rfl (Hp (pl w) []) (hp_refl (pl w) trivial rides_true) (good_hp hGF) ?_
  refine xs_plain (E := EE []) ?_
  refine lx_boxr 2 hGF rfl rfl rfl ?_
  intro b2
  refine lx_boxr 3 hGF rfl rfl rfl ?_
  intro b3
  refine lx_allocr 4 hGF zv38 rfl rfl ?_
  intro b4
  refine lx_nil ?_
  refine xs_drawn (E := EE []) mixed (by kernel_rfl) (by kernel_rfl) (by kernel_rfl) ?_
  refine lx_fak 0 rfl Tryz.underlying38 rfl Tryz.sizeOf36 (by decide) rfl rfl rfl ?_
  refine lx_loado 2 _ rfl rfl Tryz.isAgg36 Tryz.sizeOf36 (by simp) ld_l rfl rfl ?_
  refine lx_fak 0 rfl Tryz.underlying38 rfl Tryz.sizeOf36 (by decide) rfl rfl rfl ?_
  refine lx_loado 3 _ rfl rfl Tryz.isAgg36 Tryz.sizeOf36 (by simp) ld_l rfl rfl ?_
  refine lx_call rfl rfl ent88 (raddE _ _) rfl rfl ?_
  refine lx_fak 6 rfl Tryz.underlying38 rfl Tryz.sizeOf36 (by decide) rfl rfl rfl ?_
  refine lx_loado 2 _ rfl rfl Tryz.isAgg36 Tryz.sizeOf36 (by simp) (ld_r (by simp)) rfl rfl ?_
  refine lx_fak 6 rfl Tryz.underlying38 rfl Tryz.sizeOf36 (by decide) rfl rfl rfl ?_
  refine lx_loado 3 _ rfl rfl Tryz.isAgg36 Tryz.sizeOf36 (by simp) (ld_r (by simp)) rfl rfl ?_
  refine lx_call rfl rfl ent88 (raddE _ _) rfl rfl ?_
  refine lx_two two38 rfl rfl (by simp) (by simp) rfl rfl ?_
  refine lx_storea 4 hGF rfl rfl rfl Tryz.sizeOf38 (by simp) (by simp) (one_u64 _) rfl ?_
  refine lx_nil ?_
  refine x_ret ?_
  repeat (first | refine kseq_ret ?_ | refine kblk_ret ?_)
  exact kret_own 4 rfl rfl rfl Tryz.isAgg38 Tryz.sizeOf38 (by simp) (fun w hw => ⟨rfl, hp_below hw⟩)
theorem r5sub (x y : W2) : Pure Tryz.prog Gt 105 [EV2 x, EV2 y] (EV2 (sb2 x y)) := by
  intro w hw
  have hGF : BOk Gt (pl w) := gt_low.plain hw
  refine calls_of_X (G := Gt) Tryz.func105 rfl rfl (Hp (pl w) []) (hp_refl (pl w) trivial rides_true) (good_hp hGF) ?_
  refine xs_plain (E := EE []) ?_
  refine lx_boxr 2 hGF rfl rfl rfl ?_
  intro b2
  refine lx_boxr 3 hGF rfl rfl rfl ?_
  intro b3
  refine lx_allocr 4 hGF zv38 rfl rfl ?_
  intro b4
  refine lx_nil ?_
  refine xs_drawn (E := EE []) mixed (by kernel_rfl) (by kernel_rfl) (by kernel_rfl) ?_
  refine lx_fak 0 rfl Tryz.underlying38 rfl Tryz.sizeOf36 (by decide) rfl rfl rfl ?_
  refine lx_loado 2 _ rfl rfl Tryz.isAgg36 Tryz.sizeOf36 (by simp) ld_l rfl rfl ?_
  refine lx_fak 0 rfl Tryz.underlying38 rfl Tryz.sizeOf36 (by decide) rfl rfl rfl ?_
  refine lx_loado 3 _ rfl rfl Tryz.isAgg36 Tryz.sizeOf36 (by simp) ld_l rfl rfl ?_
  refine lx_call rfl rfl ent87 (rsubE _ _) rfl rfl ?_
  refine lx_fak 6 rfl Tryz.underlying38 rfl Tryz.sizeOf36 (by decide) rfl rfl rfl ?_
  refine lx_loado 2 _ rfl rfl Tryz.isAgg36 Tryz.sizeOf36 (by simp) (ld_r (by simp)) rfl rfl ?_
  refine lx_fak 6 rfl Tryz.underlying38 rfl Tryz.sizeOf36 (by decide) rfl rfl rfl ?_
  refine lx_loado 3 _ rfl rfl Tryz.isAgg36 Tryz.sizeOf36 (by simp) (ld_r (by simp)) rfl rfl ?_
  refine lx_call rfl rfl ent87 (rsubE _ _) rfl rfl ?_
  refine lx_two two38 rfl rfl (by simp) (by simp) rfl rfl ?_
  refine lx_storea 4 hGF rfl rfl rfl Tryz.sizeOf38 (by simp) (by simp) (one_u64 _) rfl ?_
  refine lx_nil ?_
  refine x_ret ?_
  repeat (first | refine kseq_ret ?_ | refine kblk_ret ?_)
  exact kret_own 4 rfl rfl rfl Tryz.isAgg38 Tryz.sizeOf38 (by simp) (fun w hw => ⟨rfl, hp_below hw⟩)
theorem r5neg (x : W2) : Pure Tryz.prog Gt 49 [EV2 x] (EV2 (ng2 x)) := by
  intro w hw
  have hGF : BOk Gt (pl w) := gt_low.plain hw
  refine calls_of_X (G := Gt) Tryz.func49 rfl rfl (Hp (pl w) []) (hp_refl (pl w) trivial rides_true) (good_hp hGF) ?_
  refine xs_plain (E := EE []) ?_
  refine lx_boxr 1 hGF rfl rfl rfl ?_
  intro b1
  refine lx_allocr 2 hGF zv38 rfl rfl ?_
  intro b2
  refine lx_nil ?_
  refine xs_drawn (E := EE []) mixed (by kernel_rfl) (by kernel_rfl) (by kernel_rfl) ?_
  refine lx_fak 0 rfl Tryz.underlying38 rfl Tryz.sizeOf36 (by decide) rfl rfl rfl ?_
  refine lx_loado 1 _ rfl rfl Tryz.isAgg36 Tryz.sizeOf36 (by simp) ld_l rfl rfl ?_
  refine lx_call rfl rfl ent91 (rnegE _) rfl rfl ?_
  refine lx_fak 6 rfl Tryz.underlying38 rfl Tryz.sizeOf36 (by decide) rfl rfl rfl ?_
  refine lx_loado 1 _ rfl rfl Tryz.isAgg36 Tryz.sizeOf36 (by simp) (ld_r (by simp)) rfl rfl ?_
  refine lx_call rfl rfl ent91 (rnegE _) rfl rfl ?_
  refine lx_two two38 rfl rfl (by simp) (by simp) rfl rfl ?_
  refine lx_storea 2 hGF rfl rfl rfl Tryz.sizeOf38 (by simp) (by simp) (one_u64 _) rfl ?_
  refine lx_nil ?_
  refine x_ret ?_
  repeat (first | refine kseq_ret ?_ | refine kblk_ret ?_)
  exact kret_own 2 rfl rfl rfl Tryz.isAgg38 Tryz.sizeOf38 (by simp) (fun w hw => ⟨rfl, hp_below hw⟩)
theorem r5mul (x y : W2) : Pure Tryz.prog Gt 43 [EV2 x, EV2 y] (EV2 (ml2 x y)) := by
  intro w hw
  have hGF : BOk Gt (pl w) := gt_low.plain hw
  by_cases h : x.2 = 0
  · skip
    by_cases h2 : y.2 = 0
    · skip
      refine calls_of_X (G := Gt) Tryz.func43 rfl rfl (Hp (pl w) []) (hp_refl (pl w) trivial rides_true) (good_hp hGF) ?_
      refine xs_plain (E := EE []) ?_
      refine lx_boxr 2 hGF rfl rfl rfl ?_
      intro b2
      refine lx_boxr 3 hGF rfl rfl rfl ?_
      intro b3
      refine lx_allocr 4 hGF zv38 rfl rfl ?_
      intro b4
      refine lx_nil ?_
      refine xs_plain (E := EE []) ?_
      refine lx_fak 0 rfl Tryz.underlying38 rfl Tryz.sizeOf36 (by decide) rfl rfl rfl ?_
      refine lx_loado 2 _ rfl rfl Tryz.isAgg36 Tryz.sizeOf36 (by simp) ld_l rfl rfl ?_
      refine lx_fak 0 rfl Tryz.underlying38 rfl Tryz.sizeOf36 (by decide) rfl rfl rfl ?_
      refine lx_loado 3 _ rfl rfl Tryz.isAgg36 Tryz.sizeOf36 (by simp) ld_l rfl rfl ?_
      refine lx_call rfl rfl ent86 (rmulE _ _) rfl rfl ?_
      refine lx_allocr 5 hGF zv36 rfl rfl ?_
      intro b5
      refine lx_storea 5 hGF rfl rfl rfl Tryz.sizeOf36 (by simp) (by simp) (one_u64 _) rfl ?_
      refine lx_nil ?_
      refine x_seq ?_
      refine xs_plain (E := EE []) ?_
      refine lx_fak 6 rfl Tryz.underlying38 rfl Tryz.sizeOf36 (by decide) rfl rfl rfl ?_
      refine lx_loado 2 _ rfl rfl Tryz.isAgg36 Tryz.sizeOf36 (by simp) (ld_r (by simp)) rfl rfl ?_
      refine lx_callB true rfl rfl ent47 (risZeroE _) (decide_eq_true h) rfl rfl ?_
      refine lx_move rfl rfl rfl ?_
      refine lx_fak 6 rfl Tryz.underlying38 rfl Tryz.sizeOf36 (by decide) rfl rfl rfl ?_
      refine lx_loado 3 _ rfl rfl Tryz.isAgg36 Tryz.sizeOf36 (by simp) (ld_r (by simp)) rfl rfl ?_
      refine lx_callB true rfl rfl ent47 (risZeroE _) (decide_eq_true h2) rfl rfl ?_
      refine lx_pick rfl rfl rfl rfl rfl ?_
      refine lx_nil ?_
      refine x_true rfl ?_
      refine xs_plain (E := EE []) ?_
      refine lx_loada 5 rfl rfl Tryz.isAgg36 Tryz.sizeOf36 (by simp) rfl rfl ?_
      refine lx_twoA two38 rfl (by simp) rfl rfl ?_
      refine lx_storea 4 hGF rfl rfl rfl Tryz.sizeOf38 (by simp) (by simp) (one_u64 _) rfl ?_
      refine lx_nil ?_
      refine x_ret ?_
      repeat (first | refine kseq_ret ?_ | refine kblk_ret ?_)
      exact kret_own 4 rfl rfl rfl Tryz.isAgg38 Tryz.sizeOf38 (by simp) (fun w hw => ⟨e2 (by simp only [ml2]; rw [h]; grind) (by simp only [ml2]; rw [h, h2, z_m0, z_0m, z_00]), hp_below hw⟩)
    · skip
      refine calls_of_X (G := Gt) Tryz.func43 rfl rfl (Hp (pl w) []) (hp_refl (pl w) trivial rides_true) (good_hp hGF) ?_
      refine xs_plain (E := EE []) ?_
      refine lx_boxr 2 hGF rfl rfl rfl ?_
      intro b2
      refine lx_boxr 3 hGF rfl rfl rfl ?_
      intro b3
      refine lx_allocr 4 hGF zv38 rfl rfl ?_
      intro b4
      refine lx_nil ?_
      refine xs_plain (E := EE []) ?_
      refine lx_fak 0 rfl Tryz.underlying38 rfl Tryz.sizeOf36 (by decide) rfl rfl rfl ?_
      refine lx_loado 2 _ rfl rfl Tryz.isAgg36 Tryz.sizeOf36 (by simp) ld_l rfl rfl ?_
      refine lx_fak 0 rfl Tryz.underlying38 rfl Tryz.sizeOf36 (by decide) rfl rfl rfl ?_
      refine lx_loado 3 _ rfl rfl Tryz.isAgg36 Tryz.sizeOf36 (by simp) ld_l rfl rfl ?_
      refine lx_call rfl rfl ent86 (rmulE _ _) rfl rfl ?_
      refine lx_allocr 5 hGF zv36 rfl rfl ?_
      intro b5
      refine lx_storea 5 hGF rfl rfl rfl Tryz.sizeOf36 (by simp) (by simp) (one_u64 _) rfl ?_
      refine lx_nil ?_
      refine x_seq ?_
      refine xs_plain (E := EE []) ?_
      refine lx_fak 6 rfl Tryz.underlying38 rfl Tryz.sizeOf36 (by decide) rfl rfl rfl ?_
      refine lx_loado 2 _ rfl rfl Tryz.isAgg36 Tryz.sizeOf36 (by simp) (ld_r (by simp)) rfl rfl ?_
      refine lx_callB true rfl rfl ent47 (risZeroE _) (decide_eq_true h) rfl rfl ?_
      refine lx_move rfl rfl rfl ?_
      refine lx_fak 6 rfl Tryz.underlying38 rfl Tryz.sizeOf36 (by decide) rfl rfl rfl ?_
      refine lx_loado 3 _ rfl rfl Tryz.isAgg36 Tryz.sizeOf36 (by simp) (ld_r (by simp)) rfl rfl ?_
      refine lx_callB false rfl rfl ent47 (risZeroE _) (decide_eq_false h2) rfl rfl ?_
      refine lx_pick rfl rfl rfl rfl rfl ?_
      refine lx_nil ?_
      refine x_false rfl ?_
      refine x_skip ?_
      refine xs_plain (E := EE []) ?_
      refine lx_fak 6 rfl Tryz.underlying38 rfl Tryz.sizeOf36 (by decide) rfl rfl rfl ?_
      refine lx_loado 2 _ rfl rfl Tryz.isAgg36 Tryz.sizeOf36 (by simp) (ld_r (by simp)) rfl rfl ?_
      refine lx_fak 6 rfl Tryz.underlying38 rfl Tryz.sizeOf36 (by decide) rfl rfl rfl ?_
      refine lx_loado 3 _ rfl rfl Tryz.isAgg36 Tryz.sizeOf36 (by simp) (ld_r (by simp)) rfl rfl ?_
      refine lx_call rfl rfl ent86 (rmulE _ _) rfl rfl ?_
      refine lx_allocr 6 hGF zv36 rfl rfl ?_
      intro b6
      refine lx_storea 6 hGF rfl rfl rfl Tryz.sizeOf36 (by simp) (by simp) (one_u64 _) rfl ?_
      refine lx_nil ?_
      refine xs_drawn (E := EE []) mixed (by kernel_rfl) (by kernel_rfl) (by kernel_rfl) ?_
      refine lx_loada 5 rfl rfl Tryz.isAgg36 Tryz.sizeOf36 (by simp) rfl rfl ?_
      refine lx_loada 6 rfl rfl Tryz.isAgg36 Tryz.sizeOf36 (by simp) rfl rfl ?_
      refine lx_call rfl rfl ent87 (rsubE _ _) rfl rfl ?_
      refine lx_fak 0 rfl Tryz.underlying38 rfl Tryz.sizeOf36 (by decide) rfl rfl rfl ?_
      refine lx_loado 2 _ rfl rfl Tryz.isAgg36 Tryz.sizeOf36 (by simp) ld_l rfl rfl ?_
      refine lx_fak 6 rfl Tryz.underlying38 rfl Tryz.sizeOf36 (by decide) rfl rfl rfl ?_
      refine lx_loado 2 _ rfl rfl Tryz.isAgg36 Tryz.sizeOf36 (by simp) (ld_r (by simp)) rfl rfl ?_
      refine lx_call rfl rfl ent88 (raddE _ _) rfl rfl ?_
      refine lx_fak 0 rfl Tryz.underlying38 rfl Tryz.sizeOf36 (by decide) rfl rfl rfl ?_
      refine lx_loado 3 _ rfl rfl Tryz.isAgg36 Tryz.sizeOf36 (by simp) ld_l rfl rfl ?_
      refine lx_fak 6 rfl Tryz.underlying38 rfl Tryz.sizeOf36 (by decide) rfl rfl rfl ?_
      refine lx_loado 3 _ rfl rfl Tryz.isAgg36 Tryz.sizeOf36 (by simp) (ld_r (by simp)) rfl rfl ?_
      refine lx_call rfl rfl ent88 (raddE _ _) rfl rfl ?_
      refine lx_call rfl rfl ent86 (rmulE _ _) rfl rfl ?_
      refine lx_loada 5 rfl rfl Tryz.isAgg36 Tryz.sizeOf36 (by simp) rfl rfl ?_
      refine lx_call rfl rfl ent87 (rsubE _ _) rfl rfl ?_
      refine lx_loada 6 rfl rfl Tryz.isAgg36 Tryz.sizeOf36 (by simp) rfl rfl ?_
      refine lx_call rfl rfl ent87 (rsubE _ _) rfl rfl ?_
      refine lx_two two38 rfl rfl (by simp) (by simp) rfl rfl ?_
      refine lx_storea 4 hGF rfl rfl rfl Tryz.sizeOf38 (by simp) (by simp) (one_u64 _) rfl ?_
      refine lx_nil ?_
      refine x_ret ?_
      repeat (first | refine kseq_ret ?_ | refine kblk_ret ?_)
      exact kret_own 4 rfl rfl rfl Tryz.isAgg38 Tryz.sizeOf38 (by simp) (fun w hw => ⟨e2 (by first | (simp only [ml2]; done) | (simp only [ml2]; grind)) (by first | (simp only [ml2]; done) | (simp only [ml2]; grind)), hp_below hw⟩)
  · skip
    refine calls_of_X (G := Gt) Tryz.func43 rfl rfl (Hp (pl w) []) (hp_refl (pl w) trivial rides_true) (good_hp hGF) ?_
    refine xs_plain (E := EE []) ?_
    refine lx_boxr 2 hGF rfl rfl rfl ?_
    intro b2
    refine lx_boxr 3 hGF rfl rfl rfl ?_
    intro b3
    refine lx_allocr 4 hGF zv38 rfl rfl ?_
    intro b4
    refine lx_nil ?_
    refine xs_plain (E := EE []) ?_
    refine lx_fak 0 rfl Tryz.underlying38 rfl Tryz.sizeOf36 (by decide) rfl rfl rfl ?_
    refine lx_loado 2 _ rfl rfl Tryz.isAgg36 Tryz.sizeOf36 (by simp) ld_l rfl rfl ?_
    refine lx_fak 0 rfl Tryz.underlying38 rfl Tryz.sizeOf36 (by decide) rfl rfl rfl ?_
    refine lx_loado 3 _ rfl rfl Tryz.isAgg36 Tryz.sizeOf36 (by simp) ld_l rfl rfl ?_
    refine lx_call rfl rfl ent86 (rmulE _ _) rfl rfl ?_
    refine lx_allocr 5 hGF zv36 rfl rfl ?_
    intro b5
    refine lx_storea 5 hGF rfl rfl rfl Tryz.sizeOf36 (by simp) (by simp) (one_u64 _) rfl ?_
    refine lx_nil ?_
    refine x_seq ?_
    refine xs_plain (E := EE []) ?_
    refine lx_fak 6 rfl Tryz.underlying38 rfl Tryz.sizeOf36 (by decide) rfl rfl rfl ?_
    refine lx_loado 2 _ rfl rfl Tryz.isAgg36 Tryz.sizeOf36 (by simp) (ld_r (by simp)) rfl rfl ?_
    refine lx_callB false rfl rfl ent47 (risZeroE _) (decide_eq_false h) rfl rfl ?_
    refine lx_move rfl rfl rfl ?_
    refine lx_skip rfl rfl rfl ?_
    refine lx_skip rfl rfl rfl ?_
    refine lx_skip rfl rfl rfl ?_
    refine lx_pick rfl rfl rfl rfl rfl ?_
    refine lx_nil ?_
    refine x_false rfl ?_
    refine x_skip ?_
    refine xs_plain (E := EE []) ?_
    refine lx_fak 6 rfl Tryz.underlying38 rfl Tryz.sizeOf36 (by decide) rfl rfl rfl ?_
    refine lx_loado 2 _ rfl rfl Tryz.isAgg36 Tryz.sizeOf36 (by simp) (ld_r (by simp)) rfl rfl ?_
    refine lx_fak 6 rfl Tryz.underlying38 rfl Tryz.sizeOf36 (by decide) rfl rfl rfl ?_
    refine lx_loado 3 _ rfl rfl Tryz.isAgg36 Tryz.sizeOf36 (by simp) (ld_r (by simp)) rfl rfl ?_
    refine lx_call rfl rfl ent86 (rmulE _ _) rfl rfl ?_
    refine lx_allocr 6 hGF zv36 rfl rfl ?_
    intro b6
    refine lx_storea 6 hGF rfl rfl rfl Tryz.sizeOf36 (by simp) (by simp) (one_u64 _) rfl ?_
    refine lx_nil ?_
    refine xs_drawn (E := EE []) mixed (by kernel_rfl) (by kernel_rfl) (by kernel_rfl) ?_
    refine lx_loada 5 rfl rfl Tryz.isAgg36 Tryz.sizeOf36 (by simp) rfl rfl ?_
    refine lx_loada 6 rfl rfl Tryz.isAgg36 Tryz.sizeOf36 (by simp) rfl rfl ?_
    refine lx_call rfl rfl ent87 (rsubE _ _) rfl rfl ?_
    refine lx_fak 0 rfl Tryz.underlying38 rfl Tryz.sizeOf36 (by decide) rfl rfl rfl ?_
    refine lx_loado 2 _ rfl rfl Tryz.isAgg36 Tryz.sizeOf36 (by simp) ld_l rfl rfl ?_
    refine lx_fak 6 rfl Tryz.underlying38 rfl Tryz.sizeOf36 (by decide) rfl rfl rfl ?_
    refine lx_loado 2 _ rfl rfl Tryz.isAgg36 Tryz.sizeOf36 (by simp) (ld_r (by simp)) rfl rfl ?_
    refine lx_call rfl rfl ent88 (raddE _ _) rfl rfl ?_
    refine lx_fak 0 rfl Tryz.underlying38 rfl Tryz.sizeOf36 (by decide) rfl rfl rfl ?_
    refine lx_loado 3 _ rfl rfl Tryz.isAgg36 Tryz.sizeOf36 (by simp) ld_l rfl rfl ?_
    refine lx_fak 6 rfl Tryz.underlying38 rfl Tryz.sizeOf36 (by decide) rfl rfl rfl ?_
    refine lx_loado 3 _ rfl rfl Tryz.isAgg36 Tryz.sizeOf36 (by simp) (ld_r (by simp)) rfl rfl ?_
    refine lx_call rfl rfl ent88 (raddE _ _) rfl rfl ?_
    refine lx_call rfl rfl ent86 (rmulE _ _) rfl rfl ?_
    refine lx_loada 5 rfl rfl Tryz.isAgg36 Tryz.sizeOf36 (by simp) rfl rfl ?_
    refine lx_call rfl rfl ent87 (rsubE _ _) rfl rfl ?_
    refine lx_loada 6 rfl rfl Tryz.isAgg36 Tryz.sizeOf36 (by simp) rfl rfl ?_
    refine lx_call rfl rfl ent87 (rsubE _ _) rfl rfl ?_
    refine lx_two two38 rfl rfl (by simp) (by simp) rfl rfl ?_
    refine lx_storea 4 hGF rfl rfl rfl Tryz.sizeOf38 (by simp) (by simp) (one_u64 _) rfl ?_
    refine lx_nil ?_
    refine x_ret ?_
    repeat (first | refine kseq_ret ?_ | refine kblk_ret ?_)
    exact kret_own 4 rfl rfl rfl Tryz.isAgg38 Tryz.sizeOf38 (by simp) (fun w hw => ⟨e2 (by first | (simp only [ml2]; done) | (simp only [ml2]; grind)) (by first | (simp only [ml2]; done) | (simp only [ml2]; grind)), hp_below hw⟩)
end Go.Proofs.YtmpcccpnblfloaaGreatDoor
