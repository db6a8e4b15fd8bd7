/-
  The walks of package fp2: sums and products.
  The walks of package fp2: signs and roots; the reference's elements.
-/
import Derived.Test.YtmpcccpnblfloaaGreatDoorX9
import Derived.Test.YtmpcccpnblfloaaGreatDoorX5
import Derived.Test.YtmpcccpnblfloaaGreatDoorX3
namespace Go.Proofs.YtmpcccpnblfloaaGreatDoor
open Go.RowKit
set_option maxRecDepth 100000
set_option maxHeartbeats 1000000
attribute [local simp] fe_len nm_len AS_len SS_len MONT_len RM_len FRs_len BYs_len by48_len PLl TWOl ONEl N1l IVPl HFPl RTPl FL_len SP_len fe2_len SP2_len FM_len

theorem ent80 : Enters Tryz.prog 80 := fun _ _ => by kernel_rfl
theorem ent104 : Enters Tryz.prog 104 := fun _ _ => by kernel_rfl
theorem ent44 : Enters Tryz.prog 44 := fun _ _ => by kernel_rfl
theorem ent105 : Enters Tryz.prog 105 := fun _ _ => by kernel_rfl
theorem ent49 : Enters Tryz.prog 49 := fun _ _ => by kernel_rfl
theorem ent43 : Enters Tryz.prog 43 := fun _ _ => by kernel_rfl
theorem ent92 : Enters Tryz.prog 92 := fun _ _ => by kernel_rfl
theorem ent48 : Enters Tryz.prog 48 := fun _ _ => by kernel_rfl
theorem ent46 : Enters Tryz.prog 46 := fun _ _ => by kernel_rfl
/-- An element of fp2 as a value. -/
abbrev EV2 (x : W2) : Value := .agg ((fe x.1 ++ fe x.2).map U64).toArray
theorem zf28 (w : World) : (zeroValue 28).run Tryz.prog w = .ok (.agg ((fe 0).map U64).toArray) w := by rw [fe_0]; exact (Tryz.zeroValue28 w).trans (by rfl)
theorem zv38 (w : World) : (zeroValue 38).run Tryz.prog w = .ok (.agg ((fe 0 ++ fe 0).map U64).toArray) w := by rw [fe_0]; exact (Tryz.zeroValue38 w).trans (by rfl)
theorem two38 : Two Tryz.prog 38 ⟨ "A", 36, 0, false, "", "", 0⟩ ⟨ "B", 36, 6, false, "", "", 48⟩ 6 6 (fe 0) (fe 0) := ⟨Tryz.underlying38, rfl, rfl, Tryz.sizeOf36, Tryz.sizeOf36, zv38, fe_len 0, fe_len 0⟩
theorem eqf38 : EqF Tryz.prog 38 12 4 :=
  have h : EqF Tryz.prog 36 6 3 := eqf_one Tryz.underlying36 rfl (by decide) (by kernel_rfl) Tryz.isAgg34 Tryz.sizeOf34 (eqf_arr Tryz.underlying34 Tryz.underlying25 Tryz.sizeOf25 Tryz.isAgg25)
  eqf_two Tryz.underlying38 rfl rfl (by decide) (by decide) (by kernel_rfl) Tryz.isAgg36 Tryz.sizeOf36 h Tryz.isAgg36 Tryz.sizeOf36 h
theorem eqg38 (op : BinOp) (x y : Operand) (xs ys : Array Value) (w : World) : (eqGuard op 38 x y (.agg xs) (.agg ys)).run Tryz.prog w = .ok () w := run_eqGuard_agg w op 38 x y xs ys (by kernel_rfl)
theorem eqv38 (xs ys : List (BitVec 64)) (h : xs.length = 12) (h' : ys.length = 12) (w : World) : (binOp .eql 38 (.agg (xs.map U64).toArray) (.agg (ys.map U64).toArray)).run Tryz.prog w = .ok (.bool (decide (xs = ys))) w := bin_eqf eqf38 (by decide) xs ys h h' w
theorem nev38 (xs ys : List (BitVec 64)) (h : xs.length = 12) (h' : ys.length = 12) (w : World) : (binOp .neq 38 (.agg (xs.map U64).toArray) (.agg (ys.map U64).toArray)).run Tryz.prog w = .ok (.bool (!decide (xs = ys))) w := bin_nef eqf38 (by decide) xs ys h h' w
theorem e2 {a b c d : Zp} (h1 : a = c) (h2 : b = d) : Ending.returned (.agg ((fe a ++ fe b).map U64).toArray) = .returned (.agg ((fe c ++ fe d).map U64).toArray) := by rw [h1, h2]
theorem rb {a b : Bool} (h : a = b) : Ending.returned (.bool a) = .returned (.bool b) := by rw [h]
end Go.Proofs.YtmpcccpnblfloaaGreatDoor

namespace Go.Proofs.YtmpcccpnblfloaaGreatDoor
open Go.RowKit
set_option maxRecDepth 100000
set_option maxHeartbeats 1000000
attribute [local simp] fe_len nm_len AS_len SS_len MONT_len RM_len FRs_len BYs_len by48_len PLl TWOl ONEl N1l IVPl HFPl RTPl FL_len SP_len fe2_len SP2_len FM_len

theorem LG2_t {x : W2} (h : x.2 = 0) : decide (hf < x.1.val) = LG2 x := by rw [LG2, if_pos h]
theorem LG2_n {x : W2} (h : ¬ x.2 = 0) : decide (hf < x.2.val) = LG2 x := by rw [LG2, if_neg h]
theorem nf {y x : W2} (h : y = x) : (!decide (fe y.1 ++ fe y.2 = fe x.1 ++ fe x.2)) = false := by rw [fe2_dec, decide_eq_true h]; rfl

theorem rsqY {a : Zp} (h : SQr a * SQr a = a) : Pure Tryz.prog Gt 90 [EV a] (.tuple #[EV (SQ a), .bool true]) := decide_eq_true h ▸ rsqrtE a
theorem rsqN {a : Zp} (h : ¬ SQr a * SQr a = a) : Pure Tryz.prog Gt 90 [EV a] (.tuple #[EV (SQ a), .bool false]) := decide_eq_false h ▸ rsqrtE a
theorem rsmall1 : Pure Tryz.prog Gt 93 [U64 1#64] (EV 1) := rsmallE 1#64
theorem rsmall2 : Pure Tryz.prog Gt 93 [U64 2#64] (EV (zp 2)) := rsmallE 2#64
theorem r5one  : Pure Tryz.prog Gt 80 [] (EV2 on2) := by
  intro w hw
  have hGF : BOk Gt (pl w) := gt_low.plain hw
  refine calls_of_X (G := Gt) Tryz.func80 rfl rfl (Hp (pl w) []) (hp_refl (pl w) trivial rides_true) (good_hp hGF) ?_
  refine xs_plain (E := EE []) ?_
  refine lx_allocr 0 hGF zv38 rfl rfl ?_
  intro b0
  refine lx_nil ?_
  refine xs_plain (E := EE []) ?_
  refine lx_call rfl rfl ent93 (rsmall1) rfl rfl ?_
  refine lx_twoA two38 rfl (by simp) rfl rfl ?_
  refine lx_storea 0 hGF rfl rfl rfl Tryz.sizeOf38 (by simp) (by simp) (one_u64 _) rfl ?_
  refine lx_nil ?_
  refine x_ret ?_
  repeat (first | refine kseq_ret ?_ | refine kblk_ret ?_)
  exact kret_own 0 rfl rfl rfl Tryz.isAgg38 Tryz.sizeOf38 (by simp) (fun w hw => ⟨rfl, hp_below hw⟩)
theorem r5isZero (x : W2) : Pure Tryz.prog Gt 104 [EV2 x] (.bool (decide (x = ze2))) := by
  intro w hw
  have hGF : BOk Gt (pl w) := gt_low.plain hw
  by_cases h : x.1 = 0
  · skip
    refine calls_of_X (G := Gt) Tryz.func104 rfl rfl (Hp (pl w) []) (hp_refl (pl w) trivial rides_true) (good_hp hGF) ?_
    refine xs_plain (E := EE []) ?_
    refine lx_boxr 1 hGF rfl rfl rfl ?_
    intro b1
    refine lx_assign rfl rfl rfl ?_
    refine lx_nil ?_
    refine xs_plain (E := EE []) ?_
    refine lx_fak 0 rfl Tryz.underlying38 rfl Tryz.sizeOf36 (by decide) rfl rfl rfl ?_
    refine lx_loado 1 _ rfl rfl Tryz.isAgg36 Tryz.sizeOf36 (by simp) ld_l rfl rfl ?_
    refine lx_callB true rfl rfl ent47 (risZeroE _) (decide_eq_true h) rfl rfl ?_
    refine lx_move rfl rfl rfl ?_
    refine lx_fak 6 rfl Tryz.underlying38 rfl Tryz.sizeOf36 (by decide) rfl rfl rfl ?_
    refine lx_loado 1 _ rfl rfl Tryz.isAgg36 Tryz.sizeOf36 (by simp) (ld_r (by simp)) rfl rfl ?_
    refine lx_call rfl rfl ent47 (risZeroE _) rfl rfl ?_
    refine lx_pick rfl rfl rfl rfl rfl ?_
    refine lx_assign rfl rfl rfl ?_
    refine lx_nil ?_
    refine x_ret ?_
    repeat (first | refine kseq_ret ?_ | refine kblk_ret ?_)
    exact kret_tmp rfl rfl (fun w hw => ⟨rb (dec2_t (y := ze2) h), hp_below hw⟩)
  · skip
    refine calls_of_X (G := Gt) Tryz.func104 rfl rfl (Hp (pl w) []) (hp_refl (pl w) trivial rides_true) (good_hp hGF) ?_
    refine xs_plain (E := EE []) ?_
    refine lx_boxr 1 hGF rfl rfl rfl ?_
    intro b1
    refine lx_assign rfl rfl rfl ?_
    refine lx_nil ?_
    refine xs_plain (E := EE []) ?_
    refine lx_fak 0 rfl Tryz.underlying38 rfl Tryz.sizeOf36 (by decide) rfl rfl rfl ?_
    refine lx_loado 1 _ rfl rfl Tryz.isAgg36 Tryz.sizeOf36 (by simp) ld_l rfl rfl ?_
    refine lx_callB false rfl rfl ent47 (risZeroE _) (decide_eq_false h) rfl rfl ?_
    refine lx_move rfl rfl rfl ?_
    refine lx_skip rfl rfl rfl ?_
    refine lx_skip rfl rfl rfl ?_
    refine lx_skip rfl rfl rfl ?_
    refine lx_pick rfl rfl rfl rfl rfl ?_
    refine lx_assign rfl rfl rfl ?_
    refine lx_nil ?_
    refine x_ret ?_
    repeat (first | refine kseq_ret ?_ | refine kblk_ret ?_)
    exact kret_tmp rfl rfl (fun w hw => ⟨rb (dec2_f (y := ze2) h), hp_below hw⟩)
theorem r5add (x y : W2) : Pure Tryz.prog Gt 44 [EV2 x, EV2 y] (EV2 (ad2 x y)) := by
  intro w hw
  have hGF : BOk Gt (pl w) := gt_low.plain hw
  refine calls_of_X (G := Gt) Tryz.func44 rfl rfl (Hp (pl w) []) (hp_refl (pl w) trivial rides_true) (good_hp hGF) ?_
  refine xs_plain (E := EE []) ?_
  refine lx_boxr 2 hGF rfl rfl rfl ?_
  intro b2
  refine lx_boxr 3 hGF rfl rfl rfl ?_
  intro b3
  refine lx_allocr 4 hGF zv38 rfl rfl ?_
  intro b4
  refine lx_nil ?_
  refine xs_drawn (E := EE []) mixed (by kernel_rfl) (by kernel_rfl) (by kernel_rfl) ?_
  refine lx_fak 0 rfl Tryz.underlying38 rfl Tryz.sizeOf36 (by decide) rfl rfl rfl ?_
  refine lx_loado 2 _ rfl rfl Tryz.isAgg36 Tryz.sizeOf36 (by simp) ld_l rfl rfl ?_
  refine lx_fak 0 rfl Tryz.underlying38 rfl Tryz.sizeOf36 (by decide) rfl rfl rfl ?_
  refine lx_loado 3 _ rfl rfl Tryz.isAgg36 Tryz.sizeOf36 (by simp) ld_l rfl rfl ?_
  refine lx_call rfl rfl ent88 (raddE _ _) rfl rfl ?_
  refine lx_fak 6 rfl Tryz.underlying38 rfl Tryz.sizeOf36 (by decide) rfl rfl rfl ?_
  refine lx_loado 2 _ rfl rfl Tryz.isAgg36 Tryz.sizeOf36 (by simp) (ld_r (by simp)) rfl rfl ?_
  refine lx_fak 6 rfl Tryz.underlying38 rfl Tryz.sizeOf36 (by decide) rfl rfl rfl ?_
  refine lx_loado 3 _ rfl rfl Tryz.isAgg36 Tryz.sizeOf36 (by simp) (ld_r (by simp)) rfl rfl ?_
  refine lx_call rfl rfl ent88 (raddE _ _) rfl rfl ?_
  refine lx_two two38 rfl rfl (by simp) (by simp) rfl rfl ?_
  refine lx_storea 4 hGF rfl rfl rfl Tryz.sizeOf38 (by simp) (by simp) (one_u64 _) rfl ?_
  refine lx_nil ?_
  refine x_ret ?_
  repeat (first | refine kseq_ret ?_ | refine kblk_ret ?_)
  exact kret_own 4 rfl rfl rfl Tryz.isAgg38 Tryz.sizeOf38 (by simp) (fun w hw => ⟨rfl, hp_below hw⟩)
theorem r5sub (x y : W2) : Pure Tryz.prog Gt 105 [EV2 x, EV2 y] (EV2 (sb2 x y)) := by
  intro w hw
  have hGF : BOk Gt (pl w) := gt_low.plain hw
  refine calls_of_X (G := Gt) Tryz.func105 rfl rfl (Hp (pl w) []) (hp_refl (pl w) trivial rides_true) (good_hp hGF) ?_
  refine xs_plain (E := EE []) ?_
  refine lx_boxr 2 hGF rfl rfl rfl ?_
  intro b2
  refine lx_boxr 3 hGF rfl rfl rfl ?_
  intro b3
  refine lx_allocr 4 hGF zv38 rfl rfl ?_
  intro b4
  refine lx_nil ?_
  refine xs_drawn (E := EE []) mixed (by kernel_rfl) (by kernel_rfl) (by kernel_rfl) ?_
  refine lx_fak 0 rfl Tryz.underlying38 rfl Tryz.sizeOf36 (by decide) rfl rfl rfl ?_
  refine lx_loado 2 _ rfl rfl Tryz.isAgg36 Tryz.sizeOf36 (by simp) ld_l rfl rfl ?_
  refine lx_fak 0 rfl Tryz.underlying38 rfl Tryz.sizeOf36 (by decide) rfl rfl rfl ?_
  refine lx_loado 3 _ rfl rfl Tryz.isAgg36 Tryz.sizeOf36 (by simp) ld_l rfl rfl ?_
  refine lx_call rfl rfl ent87 (rsubE _ _) rfl rfl ?_
  refine lx_fak 6 rfl Tryz.underlying38 rfl Tryz.sizeOf36 (by decide) rfl rfl rfl ?_
  refine lx_loado 2 _ rfl rfl Tryz.isAgg36 Tryz.sizeOf36 (by simp) (ld_r (by simp)) rfl rfl ?_
  refine lx_fak 6 rfl Tryz.underlying38 rfl Tryz.sizeOf36 (by decide) rfl rfl rfl ?_
  refine lx_loado 3 _ rfl rfl Tryz.isAgg36 Tryz.sizeOf36 (by simp) (ld_r (by simp)) rfl rfl ?_
  refine lx_call rfl rfl ent87 (rsubE _ _) rfl rfl ?_
  refine lx_two two38 rfl rfl (by simp) (by simp) rfl rfl ?_
  refine lx_storea 4 hGF rfl rfl rfl Tryz.sizeOf38 (by simp) (by simp) (one_u64 _) rfl ?_
  refine lx_nil ?_
  refine x_ret ?_
  repeat (first | refine kseq_ret ?_ | refine kblk_ret ?_)
  exact kret_own 4 rfl rfl rfl Tryz.isAgg38 Tryz.sizeOf38 (by simp) (fun w hw => ⟨rfl, hp_below hw⟩)
theorem r5neg (x : W2) : Pure Tryz.prog Gt 49 [EV2 x] (EV2 (ng2 x)) := by
  intro w hw
  have hGF : BOk Gt (pl w) := gt_low.plain hw
  refine calls_of_X (G := Gt) Tryz.func49 rfl rfl (Hp (pl w) []) (hp_refl (pl w) trivial rides_true) (good_hp hGF) ?_
  refine xs_plain (E := EE []) ?_
  refine lx_boxr 1 hGF rfl rfl rfl ?_
  intro b1
  refine lx_allocr 2 hGF zv38 rfl rfl ?_
  intro b2
  refine lx_nil ?_
  refine xs_drawn (E := EE []) mixed (by kernel_rfl) (by kernel_rfl) (by kernel_rfl) ?_
  refine lx_fak 0 rfl Tryz.underlying38 rfl Tryz.sizeOf36 (by decide) rfl rfl rfl ?_
  refine lx_loado 1 _ rfl rfl Tryz.isAgg36 Tryz.sizeOf36 (by simp) ld_l rfl rfl ?_
  refine lx_call rfl rfl ent91 (rnegE _) rfl rfl ?_
  refine lx_fak 6 rfl Tryz.underlying38 rfl Tryz.sizeOf36 (by decide) rfl rfl rfl ?_
  refine lx_loado 1 _ rfl rfl Tryz.isAgg36 Tryz.sizeOf36 (by simp) (ld_r (by simp)) rfl rfl ?_
  refine lx_call rfl rfl ent91 (rnegE _) rfl rfl ?_
  refine lx_two two38 rfl rfl (by simp) (by simp) rfl rfl ?_
  refine lx_storea 2 hGF rfl rfl rfl Tryz.sizeOf38 (by simp) (by simp) (one_u64 _) rfl ?_
  refine lx_nil ?_
  refine x_ret ?_
  repeat (first | refine kseq_ret ?_ | refine kblk_ret ?_)
  exact kret_own 2 rfl rfl rfl Tryz.isAgg38 Tryz.sizeOf38 (by simp) (fun w hw => ⟨rfl, hp_below hw⟩)
theorem r5mul (x y : W2) : Pure Tryz.prog Gt 43 [EV2 x, EV2 y] (EV2 (ml2 x y)) := by
  intro w hw
  have hGF : BOk Gt (pl w) := gt_low.plain hw
  by_cases h : x.2 = 0
  · skip
    by_cases h2 : y.2 = 0
    · skip
      refine calls_of_X (G := Gt) Tryz.func43 rfl rfl (Hp (pl w) []) (hp_refl (pl w) trivial rides_true) (good_hp hGF) ?_
      refine xs_plain (E := EE []) ?_
      refine lx_boxr 2 hGF rfl rfl rfl ?_
      intro b2
      refine lx_boxr 3 hGF rfl rfl rfl ?_
      intro b3
      refine lx_allocr 4 hGF zv38 rfl rfl ?_
      intro b4
      refine lx_nil ?_
      refine xs_plain (E := EE []) ?_
      refine lx_fak 0 rfl Tryz.underlying38 rfl Tryz.sizeOf36 (by decide) rfl rfl rfl ?_
      refine lx_loado 2 _ rfl rfl Tryz.isAgg36 Tryz.sizeOf36 (by simp) ld_l rfl rfl ?_
      refine lx_fak 0 rfl Tryz.underlying38 rfl Tryz.sizeOf36 (by decide) rfl rfl rfl ?_
      refine lx_loado 3 _ rfl rfl Tryz.isAgg36 Tryz.sizeOf36 (by simp) ld_l rfl rfl ?_
      refine lx_call rfl rfl ent86 (rmulE _ _) rfl rfl ?_
      refine lx_allocr 5 hGF zv36 rfl rfl ?_
      intro b5
      refine lx_storea 5 hGF rfl rfl rfl Tryz.sizeOf36 (by simp) (by simp) (one_u64 _) rfl ?_
      refine lx_nil ?_
      refine x_seq ?_
      refine xs_plain (E := EE []) ?_
      refine lx_fak 6 rfl Tryz.underlying38 rfl Tryz.sizeOf36 (by decide) rfl rfl rfl ?_
      refine lx_loado 2 _ rfl rfl Tryz.isAgg36 Tryz.sizeOf36 (by simp) (ld_r (by simp)) rfl rfl ?_
      refine lx_callB true rfl rfl ent47 (risZeroE _) (decide_eq_true h) rfl rfl ?_
      refine lx_move rfl rfl rfl ?_
      refine lx_fak 6 rfl Tryz.underlying38 rfl Tryz.sizeOf36 (by decide) rfl rfl rfl ?_
      refine lx_loado 3 _ rfl rfl Tryz.isAgg36 Tryz.sizeOf36 (by simp) (ld_r (by simp)) rfl rfl ?_
      refine lx_callB true rfl rfl ent47 (risZeroE _) (decide_eq_true h2) rfl rfl ?_
      refine lx_pick rfl rfl rfl rfl rfl ?_
      refine lx_nil ?_
      refine x_true rfl ?_
      refine xs_plain (E := EE []) ?_
      refine lx_loada 5 rfl rfl Tryz.isAgg36 Tryz.sizeOf36 (by simp) rfl rfl ?_
      refine lx_twoA two38 rfl (by simp) rfl rfl ?_
      refine lx_storea 4 hGF rfl rfl rfl Tryz.sizeOf38 (by simp) (by simp) (one_u64 _) rfl ?_
      refine lx_nil ?_
      refine x_ret ?_
      repeat (first | refine kseq_ret ?_ | refine kblk_ret ?_)
      exact kret_own 4 rfl rfl rfl Tryz.isAgg38 Tryz.sizeOf38 (by simp) (fun w hw => ⟨e2 (by simp only [ml2]; rw [h]; grind) (by simp only [ml2]; rw [h, h2, z_m0, z_0m, z_00]), hp_below hw⟩)
    · skip
      refine calls_of_X (G := Gt) Tryz.func43 rfl rfl (Hp (pl w) []) (hp_refl (pl w) trivial rides_true) (good_hp hGF) ?_
      refine xs_plain (E := EE []) ?_
      refine lx_boxr 2 hGF rfl rfl rfl ?_
      intro b2
      refine lx_boxr 3 hGF rfl rfl rfl ?_
      intro b3
      refine lx_allocr 4 hGF zv38 rfl rfl ?_
      intro b4
      refine lx_nil ?_
      refine xs_plain (E := EE []) ?_
      refine lx_fak 0 rfl Tryz.underlying38 rfl Tryz.sizeOf36 (by decide) rfl rfl rfl ?_
      refine lx_loado 2 _ rfl rfl Tryz.isAgg36 Tryz.sizeOf36 (by simp) ld_l rfl rfl ?_
      refine lx_fak 0 rfl Tryz.underlying38 rfl Tryz.sizeOf36 (by decide) rfl rfl rfl ?_
      refine lx_loado 3 _ rfl rfl Tryz.isAgg36 Tryz.sizeOf36 (by simp) ld_l rfl rfl ?_
      refine lx_call rfl rfl ent86 (rmulE _ _) rfl rfl ?_
      refine lx_allocr 5 hGF zv36 rfl rfl ?_
      intro b5
      refine lx_storea 5 hGF rfl rfl rfl Tryz.sizeOf36 (by simp) (by simp) (one_u64 _) rfl ?_
      refine lx_nil ?_
      refine x_seq ?_
      refine xs_plain (E := EE []) ?_
      refine lx_fak 6 rfl Tryz.underlying38 rfl Tryz.sizeOf36 (by decide) rfl rfl rfl ?_
      refine lx_loado 2 _ rfl rfl Tryz.isAgg36 Tryz.sizeOf36 (by simp) (ld_r (by simp)) rfl rfl ?_
      refine lx_callB true rfl rfl ent47 (risZeroE _) (decide_eq_true h) rfl rfl ?_
      refine lx_move rfl rfl rfl ?_
      refine lx_fak 6 rfl Tryz.underlying38 rfl Tryz.sizeOf36 (by decide) rfl rfl rfl ?_
      refine lx_loado 3 _ rfl rfl Tryz.isAgg36 Tryz.sizeOf36 (by simp) (ld_r (by simp)) rfl rfl ?_
      refine lx_callB false rfl rfl ent47 (risZeroE _) (decide_eq_false h2) rfl rfl ?_
      refine lx_pick rfl rfl rfl rfl rfl ?_
      refine lx_nil ?_
      refine x_false rfl ?_
      refine x_skip ?_
      refine xs_plain (E := EE []) ?_
      refine lx_fak 6 rfl Tryz.underlying38 rfl Tryz.sizeOf36 (by decide) rfl rfl rfl ?_
      refine lx_loado 2 _ rfl rfl Tryz.isAgg36 Tryz.sizeOf36 (by simp) (ld_r (by simp)) rfl rfl ?_
      refine lx_fak 6 rfl Tryz.underlying38 rfl Tryz.sizeOf36 (by decide) rfl rfl rfl ?_
      refine lx_loado 3 _ rfl rfl Tryz.isAgg36 Tryz.sizeOf36 (by simp) (ld_r (by simp)) rfl rfl ?_
      refine lx_call rfl rfl ent86 (rmulE _ _) rfl rfl ?_
      refine lx_allocr 6 hGF zv36 rfl rfl ?_
      intro b6
      refine lx_storea 6 hGF rfl rfl rfl Tryz.sizeOf36 (by simp) (by simp) (one_u64 _) rfl ?_
      refine lx_nil ?_
      refine xs_drawn (E := EE []) mixed (by kernel_rfl) (by kernel_rfl) (by kernel_rfl) ?_
      refine lx_loada 5 rfl rfl Tryz.isAgg36 Tryz.sizeOf36 (by simp) rfl rfl ?_
      refine lx_loada 6 rfl rfl Tryz.isAgg36 Tryz.sizeOf36 (by simp) rfl rfl ?_
      refine lx_call rfl rfl ent87 (rsubE _ _) rfl rfl ?_
      refine lx_fak 0 rfl Tryz.underlying38 rfl Tryz.sizeOf36 (by decide) rfl rfl rfl ?_
      refine lx_loado 2 _ rfl rfl Tryz.isAgg36 Tryz.sizeOf36 (by simp) ld_l rfl rfl ?_
      refine lx_fak 6 rfl Tryz.underlying38 rfl Tryz.sizeOf36 (by decide) rfl rfl rfl ?_
      refine lx_loado 2 _ rfl rfl Tryz.isAgg36 Tryz.sizeOf36 (by simp) (ld_r (by simp)) rfl rfl ?_
      refine lx_call rfl rfl ent88 (raddE _ _) rfl rfl ?_
      refine lx_fak 0 rfl Tryz.underlying38 rfl Tryz.sizeOf36 (by decide) rfl rfl rfl ?_
      refine lx_loado 3 _ rfl rfl Tryz.isAgg36 Tryz.sizeOf36 (by simp) ld_l rfl rfl ?_
      refine lx_fak 6 rfl Tryz.underlying38 rfl Tryz.sizeOf36 (by decide) rfl rfl rfl ?_
      refine lx_loado 3 _ rfl rfl Tryz.isAgg36 Tryz.sizeOf36 (by simp) (ld_r (by simp)) rfl rfl ?_
      refine lx_call rfl rfl ent88 (raddE _ _) rfl rfl ?_
      refine lx_call rfl rfl ent86 (rmulE _ _) rfl rfl ?_
      refine lx_loada 5 rfl rfl Tryz.isAgg36 Tryz.sizeOf36 (by simp) rfl rfl ?_
      refine lx_call rfl rfl ent87 (rsubE _ _) rfl rfl ?_
      refine lx_loada 6 rfl rfl Tryz.isAgg36 Tryz.sizeOf36 (by simp) rfl rfl ?_
      refine lx_call rfl rfl ent87 (rsubE _ _) rfl rfl ?_
      refine lx_two two38 rfl rfl (by simp) (by simp) rfl rfl ?_
      refine lx_storea 4 hGF rfl rfl rfl Tryz.sizeOf38 (by simp) (by simp) (one_u64 _) rfl ?_
      refine lx_nil ?_
      refine x_ret ?_
      repeat (first | refine kseq_ret ?_ | refine kblk_ret ?_)
      exact kret_own 4 rfl rfl rfl Tryz.isAgg38 Tryz.sizeOf38 (by simp) (fun w hw => ⟨e2 (by first | (simp only [ml2]; done) | (simp only [ml2]; grind)) (by first | (simp only [ml2]; done) | (simp only [ml2]; grind)), hp_below hw⟩)
  · skip
    refine calls_of_X (G := Gt) Tryz.func43 rfl rfl (Hp (pl w) []) (hp_refl (pl w) trivial rides_true) (good_hp hGF) ?_
    refine xs_plain (E := EE []) ?_
    refine lx_boxr 2 hGF rfl rfl rfl ?_
    intro b2
    refine lx_boxr 3 hGF rfl rfl rfl ?_
    intro b3
    refine lx_allocr 4 hGF zv38 rfl rfl ?_
    intro b4
    refine lx_nil ?_
    refine xs_plain (E := EE []) ?_
    refine lx_fak 0 rfl Tryz.underlying38 rfl Tryz.sizeOf36 (by decide) rfl rfl rfl ?_
    refine lx_loado 2 _ rfl rfl Tryz.isAgg36 Tryz.sizeOf36 (by simp) ld_l rfl rfl ?_
    refine lx_fak 0 rfl Tryz.underlying38 rfl Tryz.sizeOf36 (by decide) rfl rfl rfl ?_
    refine lx_loado 3 _ rfl rfl Tryz.isAgg36 Tryz.sizeOf36 (by simp) ld_l rfl rfl ?_
    refine lx_call rfl rfl ent86 (rmulE _ _) rfl rfl ?_
    refine lx_allocr 5 hGF zv36 rfl rfl ?_
    intro b5
    refine lx_storea 5 hGF rfl rfl rfl Tryz.sizeOf36 (by simp) (by simp) (one_u64 _) rfl ?_
    refine lx_nil ?_
    refine x_seq ?_
    refine xs_plain (E := EE []) ?_
    refine lx_fak 6 rfl Tryz.underlying38 rfl Tryz.sizeOf36 (by decide) rfl rfl rfl ?_
    refine lx_loado 2 _ rfl rfl Tryz.isAgg36 Tryz.sizeOf36 (by simp) (ld_r (by simp)) rfl rfl ?_
    refine lx_callB false rfl rfl ent47 (risZeroE _) (decide_eq_false h) rfl rfl ?_
    refine lx_move rfl rfl rfl ?_
    refine lx_skip rfl rfl rfl ?_
    refine lx_skip rfl rfl rfl ?_
    refine lx_skip rfl rfl rfl ?_
    refine lx_pick rfl rfl rfl rfl rfl ?_
    refine lx_nil ?_
    refine x_false rfl ?_
    refine x_skip ?_
    refine xs_plain (E := EE []) ?_
    refine lx_fak 6 rfl Tryz.underlying38 rfl Tryz.sizeOf36 (by decide) rfl rfl rfl ?_
    refine lx_loado 2 _ rfl rfl Tryz.isAgg36 Tryz.sizeOf36 (by simp) (ld_r (by simp)) rfl rfl ?_
    refine lx_fak 6 rfl Tryz.underlying38 rfl Tryz.sizeOf36 (by decide) rfl rfl rfl ?_
    refine lx_loado 3 _ rfl rfl Tryz.isAgg36 Tryz.sizeOf36 (by simp) (ld_r (by simp)) rfl rfl ?_
    refine lx_call rfl rfl ent86 (rmulE _ _) rfl rfl ?_
    refine lx_allocr 6 hGF zv36 rfl rfl ?_
    intro b6
    refine lx_storea 6 hGF rfl rfl rfl Tryz.sizeOf36 (by simp) (by simp) (one_u64 _) rfl ?_
    refine lx_nil ?_
    refine xs_drawn (E := EE []) mixed (by kernel_rfl) (by kernel_rfl) (by kernel_rfl) ?_
    refine lx_loada 5 rfl rfl Tryz.isAgg36 Tryz.sizeOf36 (by simp) rfl rfl ?_
    refine lx_loada 6 rfl rfl Tryz.isAgg36 Tryz.sizeOf36 (by simp) rfl rfl ?_
    refine lx_call rfl rfl ent87 (rsubE _ _) rfl rfl ?_
    refine lx_fak 0 rfl Tryz.underlying38 rfl Tryz.sizeOf36 (by decide) rfl rfl rfl ?_
    refine lx_loado 2 _ rfl rfl Tryz.isAgg36 Tryz.sizeOf36 (by simp) ld_l rfl rfl ?_
    refine lx_fak 6 rfl Tryz.underlying38 rfl Tryz.sizeOf36 (by decide) rfl rfl rfl ?_
    refine lx_loado 2 _ rfl rfl Tryz.isAgg36 Tryz.sizeOf36 (by simp) (ld_r (by simp)) rfl rfl ?_
    refine lx_call rfl rfl ent88 (raddE _ _) rfl rfl ?_
    refine lx_fak 0 rfl Tryz.underlying38 rfl Tryz.sizeOf36 (by decide) rfl rfl rfl ?_
    refine lx_loado 3 _ rfl rfl Tryz.isAgg36 Tryz.sizeOf36 (by simp) ld_l rfl rfl ?_
    refine lx_fak 6 rfl Tryz.underlying38 rfl Tryz.sizeOf36 (by decide) rfl rfl rfl ?_
    refine lx_loado 3 _ rfl rfl Tryz.isAgg36 Tryz.sizeOf36 (by simp) (ld_r (by simp)) rfl rfl ?_
    refine lx_call rfl rfl ent88 (raddE _ _) rfl rfl ?_
    refine lx_call rfl rfl ent86 (rmulE _ _) rfl rfl ?_
    refine lx_loada 5 rfl rfl Tryz.isAgg36 Tryz.sizeOf36 (by simp) rfl rfl ?_
    refine lx_call rfl rfl ent87 (rsubE _ _) rfl rfl ?_
    refine lx_loada 6 rfl rfl Tryz.isAgg36 Tryz.sizeOf36 (by simp) rfl rfl ?_
    refine lx_call rfl rfl ent87 (rsubE _ _) rfl rfl ?_
    refine lx_two two38 rfl rfl (by simp) (by simp) rfl rfl ?_
    refine lx_storea 4 hGF rfl rfl rfl Tryz.sizeOf38 (by simp) (by simp) (one_u64 _) rfl ?_
    refine lx_nil ?_
    refine x_ret ?_
    repeat (first | refine kseq_ret ?_ | refine kblk_ret ?_)
    exact kret_own 4 rfl rfl rfl Tryz.isAgg38 Tryz.sizeOf38 (by simp) (fun w hw => ⟨e2 (by first | (simp only [ml2]; done) | (simp only [ml2]; grind)) (by first | (simp only [ml2]; done) | (simp only [ml2]; grind)), hp_below hw⟩)
theorem r5norm (x : W2) : Pure Tryz.prog Gt 92 [EV2 x] (EV (nm2 x)) := by
  intro w hw
  have hGF : BOk Gt (pl w) := gt_low.plain hw
  refine calls_of_X (G := Gt) Tryz.func92 rfl rfl (Hp (pl w) []) (hp_refl (pl w) trivial rides_true) (good_hp hGF) ?_
  refine xs_plain (E := EE []) ?_
  refine lx_boxr 1 hGF rfl rfl rfl ?_
  intro b1
  refine lx_allocr 2 hGF zv36 rfl rfl ?_
  intro b2
  refine lx_nil ?_
  refine xs_drawn (E := EE []) mixed (by kernel_rfl) (by kernel_rfl) (by kernel_rfl) ?_
  refine lx_fak 0 rfl Tryz.underlying38 rfl Tryz.sizeOf36 (by decide) rfl rfl rfl ?_
  refine lx_loado 1 _ rfl rfl Tryz.isAgg36 Tryz.sizeOf36 (by simp) ld_l rfl rfl ?_
  refine lx_fak 0 rfl Tryz.underlying38 rfl Tryz.sizeOf36 (by decide) rfl rfl rfl ?_
  refine lx_loado 1 _ rfl rfl Tryz.isAgg36 Tryz.sizeOf36 (by simp) ld_l rfl rfl ?_
  refine lx_call rfl rfl ent86 (rmulE _ _) rfl rfl ?_
  refine lx_fak 6 rfl Tryz.underlying38 rfl Tryz.sizeOf36 (by decide) rfl rfl rfl ?_
  refine lx_loado 1 _ rfl rfl Tryz.isAgg36 Tryz.sizeOf36 (by simp) (ld_r (by simp)) rfl rfl ?_
  refine lx_fak 6 rfl Tryz.underlying38 rfl Tryz.sizeOf36 (by decide) rfl rfl rfl ?_
  refine lx_loado 1 _ rfl rfl Tryz.isAgg36 Tryz.sizeOf36 (by simp) (ld_r (by simp)) rfl rfl ?_
  refine lx_call rfl rfl ent86 (rmulE _ _) rfl rfl ?_
  refine lx_call rfl rfl ent88 (raddE _ _) rfl rfl ?_
  refine lx_storea 2 hGF rfl rfl rfl Tryz.sizeOf36 (by simp) (by simp) (one_u64 _) rfl ?_
  refine lx_nil ?_
  refine x_ret ?_
  repeat (first | refine kseq_ret ?_ | refine kblk_ret ?_)
  exact kret_own 2 rfl rfl rfl Tryz.isAgg36 Tryz.sizeOf36 (by simp) (fun w hw => ⟨rfl, hp_below hw⟩)
theorem r5large (x : W2) : Pure Tryz.prog Gt 48 [EV2 x] (.bool (LG2 x)) := by
  intro w hw
  have hGF : BOk Gt (pl w) := gt_low.plain hw
  by_cases h : x.2 = 0
  · skip
    refine calls_of_X (G := Gt) Tryz.func48 rfl rfl (Hp (pl w) []) (hp_refl (pl w) trivial rides_true) (good_hp hGF) ?_
    refine xs_plain (E := EE []) ?_
    refine lx_boxr 1 hGF rfl rfl rfl ?_
    intro b1
    refine lx_assign rfl rfl rfl ?_
    refine lx_nil ?_
    refine x_seq ?_
    refine xs_plain (E := EE []) ?_
    refine lx_fak 6 rfl Tryz.underlying38 rfl Tryz.sizeOf36 (by decide) rfl rfl rfl ?_
    refine lx_loado 1 _ rfl rfl Tryz.isAgg36 Tryz.sizeOf36 (by simp) (ld_r (by simp)) rfl rfl ?_
    refine lx_callB true rfl rfl ent47 (risZeroE _) (decide_eq_true h) rfl rfl ?_
    refine lx_nil ?_
    refine x_true rfl ?_
    refine xs_plain (E := EE []) ?_
    refine lx_fak 0 rfl Tryz.underlying38 rfl Tryz.sizeOf36 (by decide) rfl rfl rfl ?_
    refine lx_loado 1 _ rfl rfl Tryz.isAgg36 Tryz.sizeOf36 (by simp) ld_l rfl rfl ?_
    refine lx_call rfl rfl ent95 (rlargeE _) rfl rfl ?_
    refine lx_assign rfl rfl rfl ?_
    refine lx_nil ?_
    refine x_ret ?_
    repeat (first | refine kseq_ret ?_ | refine kblk_ret ?_)
    exact kret_tmp rfl rfl (fun w hw => ⟨rb (LG2_t h), hp_below hw⟩)
  · skip
    refine calls_of_X (G := Gt) Tryz.func48 rfl rfl (Hp (pl w) []) (hp_refl (pl w) trivial rides_true) (good_hp hGF) ?_
    refine xs_plain (E := EE []) ?_
    refine lx_boxr 1 hGF rfl rfl rfl ?_
    intro b1
    refine lx_assign rfl rfl rfl ?_
    refine lx_nil ?_
    refine x_seq ?_
    refine xs_plain (E := EE []) ?_
    refine lx_fak 6 rfl Tryz.underlying38 rfl Tryz.sizeOf36 (by decide) rfl rfl rfl ?_
    refine lx_loado 1 _ rfl rfl Tryz.isAgg36 Tryz.sizeOf36 (by simp) (ld_r (by simp)) rfl rfl ?_
    refine lx_callB false rfl rfl ent47 (risZeroE _) (decide_eq_false h) rfl rfl ?_
    refine lx_nil ?_
    refine x_false rfl ?_
    refine x_skip ?_
    refine xs_plain (E := EE []) ?_
    refine lx_fak 6 rfl Tryz.underlying38 rfl Tryz.sizeOf36 (by decide) rfl rfl rfl ?_
    refine lx_loado 1 _ rfl rfl Tryz.isAgg36 Tryz.sizeOf36 (by simp) (ld_r (by simp)) rfl rfl ?_
    refine lx_call rfl rfl ent95 (rlargeE _) rfl rfl ?_
    refine lx_assign rfl rfl rfl ?_
    refine lx_nil ?_
    refine x_ret ?_
    repeat (first | refine kseq_ret ?_ | refine kblk_ret ?_)
    exact kret_tmp rfl rfl (fun w hw => ⟨rb (LG2_n h), hp_below hw⟩)
theorem r5mulC (a b c d : Zp) : Pure Tryz.prog Gt 43 [.agg ((fe a ++ fe b).map U64).toArray, .agg ((fe c ++ fe d).map U64).toArray] (EV2 (ml2 (a, b) (c, d))) := r5mul (a, b) (c, d)
theorem r5largeC (a b : Zp) : Pure Tryz.prog Gt 48 [.agg ((fe a ++ fe b).map U64).toArray] (.bool (LG2 (a, b))) := r5large (a, b)
theorem r5negC (a b : Zp) : Pure Tryz.prog Gt 49 [.agg ((fe a ++ fe b).map U64).toArray] (EV2 (ng2 (a, b))) := r5neg (a, b)
theorem rp2 {a b : Zp} {r : W2} (h : (a, b) = r) : Ending.returned (.tuple #[.agg ((fe a ++ fe b).map U64).toArray, .bool true]) = .returned (.tuple #[EV2 r, .bool true]) := by subst h; rfl
theorem rq2 {x r : W2} (h : x = r) : Ending.returned (.tuple #[EV2 x, .bool true]) = .returned (.tuple #[EV2 r, .bool true]) := by subst h; rfl
theorem NL_t {x : W2} (h : LG2 x = true) : ng2 x = NL x := by rw [NL, if_pos h]
theorem NL_f {x : W2} (h : LG2 x = false) : x = NL x := by rw [NL, if_neg (by rw [h]; exact Bool.false_ne_true)]
theorem r5sqrtY (x r : W2) (hr : ml2 r r = x) (hl : LG2 r = false) : Pure Tryz.prog Gt 46 [EV2 x] (.tuple #[EV2 r, .bool true]) := by
  intro w hw
  have hGF : BOk Gt (pl w) := gt_low.plain hw
  by_cases h : x.2 = 0
  · skip
    by_cases q : SQr x.1 * SQr x.1 = x.1
    · skip
      have e : r = (SQ x.1, 0) := (root_re hr hl h).symm.trans (if_pos q)
      refine calls_of_X (G := Gt) Tryz.func46 rfl rfl (Hp (pl w) []) (hp_refl (pl w) trivial rides_true) (good_hp hGF) ?_
      refine xs_plain (E := EE []) ?_
      refine lx_boxr 1 hGF rfl rfl rfl ?_
      intro b1
      refine lx_allocr 2 hGF zv38 rfl rfl ?_
      intro b2
      refine lx_assign rfl rfl rfl ?_
      refine lx_nil ?_
      refine xs_plain (E := EE []) ?_
      refine lx_allocr 4 hGF zv38 rfl rfl ?_
      intro b4
      refine lx_nil ?_
      refine x_seq ?_
      refine xs_plain (E := EE []) ?_
      refine lx_fak 6 rfl Tryz.underlying38 rfl Tryz.sizeOf36 (by decide) rfl rfl rfl ?_
      refine lx_loado 1 _ rfl rfl Tryz.isAgg36 Tryz.sizeOf36 (by simp) (ld_r (by simp)) rfl rfl ?_
      refine lx_callB true rfl rfl ent47 (risZeroE _) (decide_eq_true h) rfl rfl ?_
      refine lx_nil ?_
      refine x_true rfl ?_
      refine xs_plain (E := EE []) ?_
      refine lx_fak 0 rfl Tryz.underlying38 rfl Tryz.sizeOf36 (by decide) rfl rfl rfl ?_
      refine lx_loado 1 _ rfl rfl Tryz.isAgg36 Tryz.sizeOf36 (by simp) ld_l rfl rfl ?_
      refine lx_call rfl rfl ent90 (rsqY q) rfl rfl ?_
      refine lx_move rfl rfl rfl ?_
      refine lx_ext rfl rfl rfl rfl ?_
      refine lx_ext rfl rfl rfl rfl ?_
      refine lx_allocr 5 hGF zv36 rfl rfl ?_
      intro b5
      refine lx_storea 5 hGF rfl rfl rfl Tryz.sizeOf36 (by simp) (by simp) (one_u64 _) rfl ?_
      refine lx_assign rfl rfl rfl ?_
      refine lx_nil ?_
      refine xs_plain (E := EE []) ?_
      refine lx_loada 5 rfl rfl Tryz.isAgg36 Tryz.sizeOf36 (by simp) rfl rfl ?_
      refine lx_fak 0 rfl Tryz.underlying38 rfl Tryz.sizeOf36 (by decide) rfl rfl rfl ?_
      refine lx_storeo 4 _ hGF rfl rfl rfl Tryz.sizeOf36 (by simp) (one_u64 _) (by simp) (lay_l (by simp)) rfl ?_
      refine lx_nil ?_
      refine xs_plain (E := EE []) ?_
      refine lx_move rfl rfl rfl ?_
      refine lx_un rfl (fun _ => un_not _) rfl rfl ?_
      refine lx_nil ?_
      refine x_false rfl ?_
      refine x_skip ?_
      refine x_seq ?_
      refine xs_drawn (E := EE []) mixed (by kernel_rfl) (by kernel_rfl) (by kernel_rfl) ?_
      refine lx_loada 4 rfl rfl Tryz.isAgg38 Tryz.sizeOf38 (by simp) rfl rfl ?_
      refine lx_loada 4 rfl rfl Tryz.isAgg38 Tryz.sizeOf38 (by simp) rfl rfl ?_
      refine lx_call rfl rfl ent43 (r5mulC _ _ _ _) rfl rfl ?_
      refine lx_loada 1 rfl rfl Tryz.isAgg38 Tryz.sizeOf38 (by simp) rfl rfl ?_
      refine lx_binB false rfl rfl (fun _ => eqg38 _ _ _ _ _ _) (fun w => nev38 _ _ (by simp) (by simp) w) (nf (x := x) (y := ml2 (SQ x.1, 0) (SQ x.1, 0)) (e ▸ hr)) rfl rfl ?_
      refine lx_nil ?_
      refine x_false rfl ?_
      refine x_skip ?_
      refine x_seq ?_
      refine xs_plain (E := EE []) ?_
      refine lx_loada 4 rfl rfl Tryz.isAgg38 Tryz.sizeOf38 (by simp) rfl rfl ?_
      refine lx_callB false rfl rfl ent48 (r5largeC _ _) (e ▸ hl) rfl rfl ?_
      refine lx_nil ?_
      refine x_false rfl ?_
      refine x_skip ?_
      refine xs_plain (E := EE []) ?_
      refine lx_loada 4 rfl rfl Tryz.isAgg38 Tryz.sizeOf38 (by simp) rfl rfl ?_
      refine lx_storea 2 hGF rfl rfl rfl Tryz.sizeOf38 (by simp) (by simp) (one_u64 _) rfl ?_
      refine lx_assign rfl rfl rfl ?_
      refine lx_nil ?_
      refine x_ret ?_
      repeat (first | refine kseq_ret ?_ | refine kblk_ret ?_)
      exact kret_ct 2 rfl rfl rfl rfl Tryz.isAgg38 Tryz.sizeOf38 (by simp) (fun w hw => ⟨rp2 e.symm, hp_below hw⟩)
    · skip
      have e : r = (0, SQ (-x.1)) := (root_re hr hl h).symm.trans (if_neg q)
      refine calls_of_X (G := Gt) Tryz.func46 rfl rfl (Hp (pl w) []) (hp_refl (pl w) trivial rides_true) (good_hp hGF) ?_
      refine xs_plain (E := EE []) ?_
      refine lx_boxr 1 hGF rfl rfl rfl ?_
      intro b1
      refine lx_allocr 2 hGF zv38 rfl rfl ?_
      intro b2
      refine lx_assign rfl rfl rfl ?_
      refine lx_nil ?_
      refine xs_plain (E := EE []) ?_
      refine lx_allocr 4 hGF zv38 rfl rfl ?_
      intro b4
      refine lx_nil ?_
      refine x_seq ?_
      refine xs_plain (E := EE []) ?_
      refine lx_fak 6 rfl Tryz.underlying38 rfl Tryz.sizeOf36 (by decide) rfl rfl rfl ?_
      refine lx_loado 1 _ rfl rfl Tryz.isAgg36 Tryz.sizeOf36 (by simp) (ld_r (by simp)) rfl rfl ?_
      refine lx_callB true rfl rfl ent47 (risZeroE _) (decide_eq_true h) rfl rfl ?_
      refine lx_nil ?_
      refine x_true rfl ?_
      refine xs_plain (E := EE []) ?_
      refine lx_fak 0 rfl Tryz.underlying38 rfl Tryz.sizeOf36 (by decide) rfl rfl rfl ?_
      refine lx_loado 1 _ rfl rfl Tryz.isAgg36 Tryz.sizeOf36 (by simp) ld_l rfl rfl ?_
      refine lx_call rfl rfl ent90 (rsqN q) rfl rfl ?_
      refine lx_move rfl rfl rfl ?_
      refine lx_ext rfl rfl rfl rfl ?_
      refine lx_ext rfl rfl rfl rfl ?_
      refine lx_allocr 5 hGF zv36 rfl rfl ?_
      intro b5
      refine lx_storea 5 hGF rfl rfl rfl Tryz.sizeOf36 (by simp) (by simp) (one_u64 _) rfl ?_
      refine lx_assign rfl rfl rfl ?_
      refine lx_nil ?_
      refine xs_plain (E := EE []) ?_
      refine lx_loada 5 rfl rfl Tryz.isAgg36 Tryz.sizeOf36 (by simp) rfl rfl ?_
      refine lx_fak 0 rfl Tryz.underlying38 rfl Tryz.sizeOf36 (by decide) rfl rfl rfl ?_
      refine lx_storeo 4 _ hGF rfl rfl rfl Tryz.sizeOf36 (by simp) (one_u64 _) (by simp) (lay_l (by simp)) rfl ?_
      refine lx_nil ?_
      refine xs_plain (E := EE []) ?_
      refine lx_move rfl rfl rfl ?_
      refine lx_un rfl (fun _ => un_not _) rfl rfl ?_
      refine lx_nil ?_
      refine x_true rfl ?_
      refine xs_plain (E := EE []) ?_
      refine lx_fak 0 rfl Tryz.underlying38 rfl Tryz.sizeOf36 (by decide) rfl rfl rfl ?_
      refine lx_loado 1 _ rfl rfl Tryz.isAgg36 Tryz.sizeOf36 (by simp) ld_l rfl rfl ?_
      refine lx_call rfl rfl ent91 (rnegE _) rfl rfl ?_
      refine lx_call rfl rfl ent90 (rsqrtE _) rfl rfl ?_
      refine lx_move rfl rfl rfl ?_
      refine lx_ext rfl rfl rfl rfl ?_
      refine lx_ext rfl rfl rfl rfl ?_
      refine lx_storea 5 hGF rfl rfl rfl Tryz.sizeOf36 (by simp) (by simp) (one_u64 _) rfl ?_
      refine lx_nil ?_
      refine x_plain (E := EE []) ?_
      refine lx_loada 5 rfl rfl Tryz.isAgg36 Tryz.sizeOf36 (by simp) rfl rfl ?_
      refine lx_twoB two38 rfl (by simp) rfl rfl ?_
      refine lx_storea 4 hGF rfl rfl rfl Tryz.sizeOf38 (by simp) (by simp) (one_u64 _) rfl ?_
      refine lx_nil ?_
      refine x_seq ?_
      refine xs_drawn (E := EE []) mixed (by kernel_rfl) (by kernel_rfl) (by kernel_rfl) ?_
      refine lx_loada 4 rfl rfl Tryz.isAgg38 Tryz.sizeOf38 (by simp) rfl rfl ?_
      refine lx_loada 4 rfl rfl Tryz.isAgg38 Tryz.sizeOf38 (by simp) rfl rfl ?_
      refine lx_call rfl rfl ent43 (r5mulC _ _ _ _) rfl rfl ?_
      refine lx_loada 1 rfl rfl Tryz.isAgg38 Tryz.sizeOf38 (by simp) rfl rfl ?_
      refine lx_binB false rfl rfl (fun _ => eqg38 _ _ _ _ _ _) (fun w => nev38 _ _ (by simp) (by simp) w) (nf (x := x) (y := ml2 (0, SQ (-x.1)) (0, SQ (-x.1))) (e ▸ hr)) rfl rfl ?_
      refine lx_nil ?_
      refine x_false rfl ?_
      refine x_skip ?_
      refine x_seq ?_
      refine xs_plain (E := EE []) ?_
      refine lx_loada 4 rfl rfl Tryz.isAgg38 Tryz.sizeOf38 (by simp) rfl rfl ?_
      refine lx_callB false rfl rfl ent48 (r5largeC _ _) (e ▸ hl) rfl rfl ?_
      refine lx_nil ?_
      refine x_false rfl ?_
      refine x_skip ?_
      refine xs_plain (E := EE []) ?_
      refine lx_loada 4 rfl rfl Tryz.isAgg38 Tryz.sizeOf38 (by simp) rfl rfl ?_
      refine lx_storea 2 hGF rfl rfl rfl Tryz.sizeOf38 (by simp) (by simp) (one_u64 _) rfl ?_
      refine lx_assign rfl rfl rfl ?_
      refine lx_nil ?_
      refine x_ret ?_
      repeat (first | refine kseq_ret ?_ | refine kblk_ret ?_)
      exact kret_ct 2 rfl rfl rfl rfl Tryz.isAgg38 Tryz.sizeOf38 (by simp) (fun w hw => ⟨rp2 e.symm, hp_below hw⟩)
  · skip
    by_cases q : SQr ((x.1 + (SQ (nm2 x))) * (zp 2 ^ (PP - 2))) * SQr ((x.1 + (SQ (nm2 x))) * (zp 2 ^ (PP - 2))) = (x.1 + (SQ (nm2 x))) * (zp 2 ^ (PP - 2))
    · skip
      have e1 : RF x (SQ (nm2 x)) (zp 2 ^ (PP - 2)) = (SQ ((x.1 + (SQ (nm2 x))) * (zp 2 ^ (PP - 2))), x.2 * (zp 2 ^ (PP - 2)) * SQ ((x.1 + (SQ (nm2 x))) * (zp 2 ^ (PP - 2))) ^ (PP - 2)) := if_pos q
      have e : NL (SQ ((x.1 + (SQ (nm2 x))) * (zp 2 ^ (PP - 2))), x.2 * (zp 2 ^ (PP - 2)) * SQ ((x.1 + (SQ (nm2 x))) * (zp 2 ^ (PP - 2))) ^ (PP - 2)) = r := e1 ▸ root_rf hr hl half_two h
      have e0 : ml2 (SQ ((x.1 + (SQ (nm2 x))) * (zp 2 ^ (PP - 2))), x.2 * (zp 2 ^ (PP - 2)) * SQ ((x.1 + (SQ (nm2 x))) * (zp 2 ^ (PP - 2))) ^ (PP - 2)) (SQ ((x.1 + (SQ (nm2 x))) * (zp 2 ^ (PP - 2))), x.2 * (zp 2 ^ (PP - 2)) * SQ ((x.1 + (SQ (nm2 x))) * (zp 2 ^ (PP - 2))) ^ (PP - 2)) = x := e1 ▸ RF_sq (SQ_sq (nm2_sq hr)) half_two h
      refine calls_of_X (G := Gt) Tryz.func46 rfl rfl (Hp (pl w) []) (hp_refl (pl w) trivial rides_true) (good_hp hGF) ?_
      refine xs_plain (E := EE []) ?_
      refine lx_boxr 1 hGF rfl rfl rfl ?_
      intro b1
      refine lx_allocr 2 hGF zv38 rfl rfl ?_
      intro b2
      refine lx_assign rfl rfl rfl ?_
      refine lx_nil ?_
      refine xs_plain (E := EE []) ?_
      refine lx_allocr 4 hGF zv38 rfl rfl ?_
      intro b4
      refine lx_nil ?_
      refine x_seq ?_
      refine xs_plain (E := EE []) ?_
      refine lx_fak 6 rfl Tryz.underlying38 rfl Tryz.sizeOf36 (by decide) rfl rfl rfl ?_
      refine lx_loado 1 _ rfl rfl Tryz.isAgg36 Tryz.sizeOf36 (by simp) (ld_r (by simp)) rfl rfl ?_
      refine lx_callB false rfl rfl ent47 (risZeroE _) (decide_eq_false h) rfl rfl ?_
      refine lx_nil ?_
      refine x_false rfl ?_
      refine xs_plain (E := EE []) ?_
      refine lx_loada 1 rfl rfl Tryz.isAgg38 Tryz.sizeOf38 (by simp) rfl rfl ?_
      refine lx_call rfl rfl ent92 (r5norm _) rfl rfl ?_
      refine lx_call rfl rfl ent90 (rsqY (nm2_sq hr)) rfl rfl ?_
      refine lx_move rfl rfl rfl ?_
      refine lx_ext rfl rfl rfl rfl ?_
      refine lx_ext rfl rfl rfl rfl ?_
      refine lx_allocr 7 hGF zv36 rfl rfl ?_
      intro b7
      refine lx_storea 7 hGF rfl rfl rfl Tryz.sizeOf36 (by simp) (by simp) (one_u64 _) rfl ?_
      refine lx_assign rfl rfl rfl ?_
      refine lx_nil ?_
      refine x_seq ?_
      refine xs_plain (E := EE []) ?_
      refine lx_move rfl rfl rfl ?_
      refine lx_un rfl (fun _ => un_not _) rfl rfl ?_
      refine lx_nil ?_
      refine x_false rfl ?_
      refine x_skip ?_
      refine xs_plain (E := EE []) ?_
      refine lx_call rfl rfl ent93 (rsmall2) rfl rfl ?_
      refine lx_call rfl rfl ent94 (rinvE _) rfl rfl ?_
      refine lx_allocr 9 hGF zv36 rfl rfl ?_
      intro b9
      refine lx_storea 9 hGF rfl rfl rfl Tryz.sizeOf36 (by simp) (by simp) (one_u64 _) rfl ?_
      refine lx_nil ?_
      refine xs_drawA (E := EE [2999999]) [0, 1, 2, 3, 4, 5, 6, 7, 8, 9] [⟨10, 10, 36, (List.replicate 6 0#64).map U64⟩] [11, 12] mixed rfl (by kernel_rfl) (by kernel_rfl) (by kernel_rfl) (by kernel_rfl) (by kernel_rfl) (by kernel_rfl) (by decide) (by intro x hx; simp only [List.mem_cons, List.not_mem_nil, or_false] at hx; subst hx; exact isAlloc_mk rfl zv36 rfl) ?_
      refine lx_fak 0 rfl Tryz.underlying38 rfl Tryz.sizeOf36 (by decide) rfl rfl rfl ?_
      refine lx_loado 1 _ rfl rfl Tryz.isAgg36 Tryz.sizeOf36 (by simp) ld_l rfl rfl ?_
      refine lx_loada 7 rfl rfl Tryz.isAgg36 Tryz.sizeOf36 (by simp) rfl rfl ?_
      refine lx_call rfl rfl ent88 (raddE _ _) rfl rfl ?_
      refine lx_loada 9 rfl rfl Tryz.isAgg36 Tryz.sizeOf36 (by simp) rfl rfl ?_
      refine lx_call rfl rfl ent86 (rmulE _ _) rfl rfl ?_
      refine lx_call rfl rfl ent90 (rsqY q) rfl rfl ?_
      refine lx_move rfl rfl rfl ?_
      refine lx_ext rfl rfl rfl rfl ?_
      refine lx_ext rfl rfl rfl rfl ?_
      refine lx_nil ?_
      refine ⟨_, _, rfl, hGF, by intro x hx; simp only [List.mem_cons, List.not_mem_nil, or_false] at hx; subst hx; rfl, by intro x hx; simp only [List.mem_cons, List.not_mem_nil, or_false] at hx; subst hx; rfl, fun adr => ?_⟩
      refine lx_storea 10 hGF rfl rfl rfl Tryz.sizeOf36 (by simp) (by simp) (one_u64 _) rfl ?_
      refine lx_assign rfl rfl rfl ?_
      refine lx_nil ?_
      refine x_seq ?_
      refine xs_plain (E := EE []) ?_
      refine lx_move rfl rfl rfl ?_
      refine lx_un rfl (fun _ => un_not _) rfl rfl ?_
      refine lx_nil ?_
      refine x_false rfl ?_
      refine x_skip ?_
      refine x_drawn (E := EE []) mixed (by kernel_rfl) (by kernel_rfl) (by kernel_rfl) ?_
      refine lx_loada 10 rfl rfl Tryz.isAgg36 Tryz.sizeOf36 (by simp) rfl rfl ?_
      refine lx_fak 6 rfl Tryz.underlying38 rfl Tryz.sizeOf36 (by decide) rfl rfl rfl ?_
      refine lx_loado 1 _ rfl rfl Tryz.isAgg36 Tryz.sizeOf36 (by simp) (ld_r (by simp)) rfl rfl ?_
      refine lx_loada 9 rfl rfl Tryz.isAgg36 Tryz.sizeOf36 (by simp) rfl rfl ?_
      refine lx_call rfl rfl ent86 (rmulE _ _) rfl rfl ?_
      refine lx_loada 10 rfl rfl Tryz.isAgg36 Tryz.sizeOf36 (by simp) rfl rfl ?_
      refine lx_call rfl rfl ent94 (rinvE _) rfl rfl ?_
      refine lx_call rfl rfl ent86 (rmulE _ _) rfl rfl ?_
      refine lx_two two38 rfl rfl (by simp) (by simp) rfl rfl ?_
      refine lx_storea 4 hGF rfl rfl rfl Tryz.sizeOf38 (by simp) (by simp) (one_u64 _) rfl ?_
      refine lx_nil ?_
      refine x_seq ?_
      refine xs_drawn (E := EE []) mixed (by kernel_rfl) (by kernel_rfl) (by kernel_rfl) ?_
      refine lx_loada 4 rfl rfl Tryz.isAgg38 Tryz.sizeOf38 (by simp) rfl rfl ?_
      refine lx_loada 4 rfl rfl Tryz.isAgg38 Tryz.sizeOf38 (by simp) rfl rfl ?_
      refine lx_call rfl rfl ent43 (r5mulC _ _ _ _) rfl rfl ?_
      refine lx_loada 1 rfl rfl Tryz.isAgg38 Tryz.sizeOf38 (by simp) rfl rfl ?_
      refine lx_binB false rfl rfl (fun _ => eqg38 _ _ _ _ _ _) (fun w => nev38 _ _ (by simp) (by simp) w) (nf (x := x) (y := ml2 (SQ ((x.1 + (SQ (nm2 x))) * (zp 2 ^ (PP - 2))), x.2 * (zp 2 ^ (PP - 2)) * SQ ((x.1 + (SQ (nm2 x))) * (zp 2 ^ (PP - 2))) ^ (PP - 2)) (SQ ((x.1 + (SQ (nm2 x))) * (zp 2 ^ (PP - 2))), x.2 * (zp 2 ^ (PP - 2)) * SQ ((x.1 + (SQ (nm2 x))) * (zp 2 ^ (PP - 2))) ^ (PP - 2))) e0) rfl rfl ?_
      refine lx_nil ?_
      refine x_false rfl ?_
      refine x_skip ?_
      refine x_seq ?_
      refine xs_plain (E := EE []) ?_
      refine lx_loada 4 rfl rfl Tryz.isAgg38 Tryz.sizeOf38 (by simp) rfl rfl ?_
      refine lx_call rfl rfl ent48 (r5largeC _ _) rfl rfl ?_
      refine lx_nil ?_
      refine x_if rfl (fun hc => ?_) (fun hc => ?_)
      · skip
        refine x_plain (E := EE []) ?_
        refine lx_loada 4 rfl rfl Tryz.isAgg38 Tryz.sizeOf38 (by simp) rfl rfl ?_
        refine lx_call rfl rfl ent49 (r5negC _ _) rfl rfl ?_
        refine lx_storea 4 hGF rfl rfl rfl Tryz.sizeOf38 (by simp) (by simp) (one_u64 _) rfl ?_
        refine lx_nil ?_
        refine xs_plain (E := EE []) ?_
        refine lx_loada 4 rfl rfl Tryz.isAgg38 Tryz.sizeOf38 (by simp) rfl rfl ?_
        refine lx_storea 2 hGF rfl rfl rfl Tryz.sizeOf38 (by simp) (by simp) (one_u64 _) rfl ?_
        refine lx_assign rfl rfl rfl ?_
        refine lx_nil ?_
        refine x_ret ?_
        repeat (first | refine kseq_ret ?_ | refine kblk_ret ?_)
        exact kret_ct 2 rfl rfl rfl rfl Tryz.isAgg38 Tryz.sizeOf38 (by simp) (fun w hw => ⟨rq2 ((NL_t hc).trans e), hp_below hw⟩)
      · skip
        refine x_skip ?_
        refine xs_plain (E := EE []) ?_
        refine lx_loada 4 rfl rfl Tryz.isAgg38 Tryz.sizeOf38 (by simp) rfl rfl ?_
        refine lx_storea 2 hGF rfl rfl rfl Tryz.sizeOf38 (by simp) (by simp) (one_u64 _) rfl ?_
        refine lx_assign rfl rfl rfl ?_
        refine lx_nil ?_
        refine x_ret ?_
        repeat (first | refine kseq_ret ?_ | refine kblk_ret ?_)
        exact kret_ct 2 rfl rfl rfl rfl Tryz.isAgg38 Tryz.sizeOf38 (by simp) (fun w hw => ⟨rp2 ((NL_f hc).trans e), hp_below hw⟩)
    · skip
      have e1 : RF x (SQ (nm2 x)) (zp 2 ^ (PP - 2)) = (SQ ((x.1 - (SQ (nm2 x))) * (zp 2 ^ (PP - 2))), x.2 * (zp 2 ^ (PP - 2)) * SQ ((x.1 - (SQ (nm2 x))) * (zp 2 ^ (PP - 2))) ^ (PP - 2)) := if_neg q
      have e : NL (SQ ((x.1 - (SQ (nm2 x))) * (zp 2 ^ (PP - 2))), x.2 * (zp 2 ^ (PP - 2)) * SQ ((x.1 - (SQ (nm2 x))) * (zp 2 ^ (PP - 2))) ^ (PP - 2)) = r := e1 ▸ root_rf hr hl half_two h
      have e0 : ml2 (SQ ((x.1 - (SQ (nm2 x))) * (zp 2 ^ (PP - 2))), x.2 * (zp 2 ^ (PP - 2)) * SQ ((x.1 - (SQ (nm2 x))) * (zp 2 ^ (PP - 2))) ^ (PP - 2)) (SQ ((x.1 - (SQ (nm2 x))) * (zp 2 ^ (PP - 2))), x.2 * (zp 2 ^ (PP - 2)) * SQ ((x.1 - (SQ (nm2 x))) * (zp 2 ^ (PP - 2))) ^ (PP - 2)) = x := e1 ▸ RF_sq (SQ_sq (nm2_sq hr)) half_two h
      refine calls_of_X (G := Gt) Tryz.func46 rfl rfl (Hp (pl w) []) (hp_refl (pl w) trivial rides_true) (good_hp hGF) ?_
      refine xs_plain (E := EE []) ?_
      refine lx_boxr 1 hGF rfl rfl rfl ?_
      intro b1
      refine lx_allocr 2 hGF zv38 rfl rfl ?_
      intro b2
      refine lx_assign rfl rfl rfl ?_
      refine lx_nil ?_
      refine xs_plain (E := EE []) ?_
      refine lx_allocr 4 hGF zv38 rfl rfl ?_
      intro b4
      refine lx_nil ?_
      refine x_seq ?_
      refine xs_plain (E := EE []) ?_
      refine lx_fak 6 rfl Tryz.underlying38 rfl Tryz.sizeOf36 (by decide) rfl rfl rfl ?_
      refine lx_loado 1 _ rfl rfl Tryz.isAgg36 Tryz.sizeOf36 (by simp) (ld_r (by simp)) rfl rfl ?_
      refine lx_callB false rfl rfl ent47 (risZeroE _) (decide_eq_false h) rfl rfl ?_
      refine lx_nil ?_
      refine x_false rfl ?_
      refine xs_plain (E := EE []) ?_
      refine lx_loada 1 rfl rfl Tryz.isAgg38 Tryz.sizeOf38 (by simp) rfl rfl ?_
      refine lx_call rfl rfl ent92 (r5norm _) rfl rfl ?_
      refine lx_call rfl rfl ent90 (rsqY (nm2_sq hr)) rfl rfl ?_
      refine lx_move rfl rfl rfl ?_
      refine lx_ext rfl rfl rfl rfl ?_
      refine lx_ext rfl rfl rfl rfl ?_
      refine lx_allocr 7 hGF zv36 rfl rfl ?_
      intro b7
      refine lx_storea 7 hGF rfl rfl rfl Tryz.sizeOf36 (by simp) (by simp) (one_u64 _) rfl ?_
      refine lx_assign rfl rfl rfl ?_
      refine lx_nil ?_
      refine x_seq ?_
      refine xs_plain (E := EE []) ?_
      refine lx_move rfl rfl rfl ?_
      refine lx_un rfl (fun _ => un_not _) rfl rfl ?_
      refine lx_nil ?_
      refine x_false rfl ?_
      refine x_skip ?_
      refine xs_plain (E := EE []) ?_
      refine lx_call rfl rfl ent93 (rsmall2) rfl rfl ?_
      refine lx_call rfl rfl ent94 (rinvE _) rfl rfl ?_
      refine lx_allocr 9 hGF zv36 rfl rfl ?_
      intro b9
      refine lx_storea 9 hGF rfl rfl rfl Tryz.sizeOf36 (by simp) (by simp) (one_u64 _) rfl ?_
      refine lx_nil ?_
      refine xs_drawA (E := EE [2999999]) [0, 1, 2, 3, 4, 5, 6, 7, 8, 9] [⟨10, 10, 36, (List.replicate 6 0#64).map U64⟩] [11, 12] mixed rfl (by kernel_rfl) (by kernel_rfl) (by kernel_rfl) (by kernel_rfl) (by kernel_rfl) (by kernel_rfl) (by decide) (by intro x hx; simp only [List.mem_cons, List.not_mem_nil, or_false] at hx; subst hx; exact isAlloc_mk rfl zv36 rfl) ?_
      refine lx_fak 0 rfl Tryz.underlying38 rfl Tryz.sizeOf36 (by decide) rfl rfl rfl ?_
      refine lx_loado 1 _ rfl rfl Tryz.isAgg36 Tryz.sizeOf36 (by simp) ld_l rfl rfl ?_
      refine lx_loada 7 rfl rfl Tryz.isAgg36 Tryz.sizeOf36 (by simp) rfl rfl ?_
      refine lx_call rfl rfl ent88 (raddE _ _) rfl rfl ?_
      refine lx_loada 9 rfl rfl Tryz.isAgg36 Tryz.sizeOf36 (by simp) rfl rfl ?_
      refine lx_call rfl rfl ent86 (rmulE _ _) rfl rfl ?_
      refine lx_call rfl rfl ent90 (rsqN q) rfl rfl ?_
      refine lx_move rfl rfl rfl ?_
      refine lx_ext rfl rfl rfl rfl ?_
      refine lx_ext rfl rfl rfl rfl ?_
      refine lx_nil ?_
      refine ⟨_, _, rfl, hGF, by intro x hx; simp only [List.mem_cons, List.not_mem_nil, or_false] at hx; subst hx; rfl, by intro x hx; simp only [List.mem_cons, List.not_mem_nil, or_false] at hx; subst hx; rfl, fun adr => ?_⟩
      refine lx_storea 10 hGF rfl rfl rfl Tryz.sizeOf36 (by simp) (by simp) (one_u64 _) rfl ?_
      refine lx_assign rfl rfl rfl ?_
      refine lx_nil ?_
      refine x_seq ?_
      refine xs_plain (E := EE []) ?_
      refine lx_move rfl rfl rfl ?_
      refine lx_un rfl (fun _ => un_not _) rfl rfl ?_
      refine lx_nil ?_
      refine x_true rfl ?_
      refine x_drawn (E := EE []) mixed (by kernel_rfl) (by kernel_rfl) (by kernel_rfl) ?_
      refine lx_fak 0 rfl Tryz.underlying38 rfl Tryz.sizeOf36 (by decide) rfl rfl rfl ?_
      refine lx_loado 1 _ rfl rfl Tryz.isAgg36 Tryz.sizeOf36 (by simp) ld_l rfl rfl ?_
      refine lx_loada 7 rfl rfl Tryz.isAgg36 Tryz.sizeOf36 (by simp) rfl rfl ?_
      refine lx_call rfl rfl ent87 (rsubE _ _) rfl rfl ?_
      refine lx_loada 9 rfl rfl Tryz.isAgg36 Tryz.sizeOf36 (by simp) rfl rfl ?_
      refine lx_call rfl rfl ent86 (rmulE _ _) rfl rfl ?_
      refine lx_call rfl rfl ent90 (rsqrtE _) rfl rfl ?_
      refine lx_move rfl rfl rfl ?_
      refine lx_ext rfl rfl rfl rfl ?_
      refine lx_ext rfl rfl rfl rfl ?_
      refine lx_storea 10 hGF rfl rfl rfl Tryz.sizeOf36 (by simp) (by simp) (one_u64 _) rfl ?_
      refine lx_nil ?_
      refine x_drawn (E := EE []) mixed (by kernel_rfl) (by kernel_rfl) (by kernel_rfl) ?_
      refine lx_loada 10 rfl rfl Tryz.isAgg36 Tryz.sizeOf36 (by simp) rfl rfl ?_
      refine lx_fak 6 rfl Tryz.underlying38 rfl Tryz.sizeOf36 (by decide) rfl rfl rfl ?_
      refine lx_loado 1 _ rfl rfl Tryz.isAgg36 Tryz.sizeOf36 (by simp) (ld_r (by simp)) rfl rfl ?_
      refine lx_loada 9 rfl rfl Tryz.isAgg36 Tryz.sizeOf36 (by simp) rfl rfl ?_
      refine lx_call rfl rfl ent86 (rmulE _ _) rfl rfl ?_
      refine lx_loada 10 rfl rfl Tryz.isAgg36 Tryz.sizeOf36 (by simp) rfl rfl ?_
      refine lx_call rfl rfl ent94 (rinvE _) rfl rfl ?_
      refine lx_call rfl rfl ent86 (rmulE _ _) rfl rfl ?_
      refine lx_two two38 rfl rfl (by simp) (by simp) rfl rfl ?_
      refine lx_storea 4 hGF rfl rfl rfl Tryz.sizeOf38 (by simp) (by simp) (one_u64 _) rfl ?_
      refine lx_nil ?_
      refine x_seq ?_
      refine xs_drawn (E := EE []) mixed (by kernel_rfl) (by kernel_rfl) (by kernel_rfl) ?_
      refine lx_loada 4 rfl rfl Tryz.isAgg38 Tryz.sizeOf38 (by simp) rfl rfl ?_
      refine lx_loada 4 rfl rfl Tryz.isAgg38 Tryz.sizeOf38 (by simp) rfl rfl ?_
      refine lx_call rfl rfl ent43 (r5mulC _ _ _ _) rfl rfl ?_
      refine lx_loada 1 rfl rfl Tryz.isAgg38 Tryz.sizeOf38 (by simp) rfl rfl ?_
      refine lx_binB false rfl rfl (fun _ => eqg38 _ _ _ _ _ _) (fun w => nev38 _ _ (by simp) (by simp) w) (nf (x := x) (y := ml2 (SQ ((x.1 - (SQ (nm2 x))) * (zp 2 ^ (PP - 2))), x.2 * (zp 2 ^ (PP - 2)) * SQ ((x.1 - (SQ (nm2 x))) * (zp 2 ^ (PP - 2))) ^ (PP - 2)) (SQ ((x.1 - (SQ (nm2 x))) * (zp 2 ^ (PP - 2))), x.2 * (zp 2 ^ (PP - 2)) * SQ ((x.1 - (SQ (nm2 x))) * (zp 2 ^ (PP - 2))) ^ (PP - 2))) e0) rfl rfl ?_
      refine lx_nil ?_
      refine x_false rfl ?_
      refine x_skip ?_
      refine x_seq ?_
      refine xs_plain (E := EE []) ?_
      refine lx_loada 4 rfl rfl Tryz.isAgg38 Tryz.sizeOf38 (by simp) rfl rfl ?_
      refine lx_call rfl rfl ent48 (r5largeC _ _) rfl rfl ?_
      refine lx_nil ?_
      refine x_if rfl (fun hc => ?_) (fun hc => ?_)
      · skip
        refine x_plain (E := EE []) ?_
        refine lx_loada 4 rfl rfl Tryz.isAgg38 Tryz.sizeOf38 (by simp) rfl rfl ?_
        refine lx_call rfl rfl ent49 (r5negC _ _) rfl rfl ?_
        refine lx_storea 4 hGF rfl rfl rfl Tryz.sizeOf38 (by simp) (by simp) (one_u64 _) rfl ?_
        refine lx_nil ?_
        refine xs_plain (E := EE []) ?_
        refine lx_loada 4 rfl rfl Tryz.isAgg38 Tryz.sizeOf38 (by simp) rfl rfl ?_
        refine lx_storea 2 hGF rfl rfl rfl Tryz.sizeOf38 (by simp) (by simp) (one_u64 _) rfl ?_
        refine lx_assign rfl rfl rfl ?_
        refine lx_nil ?_
        refine x_ret ?_
        repeat (first | refine kseq_ret ?_ | refine kblk_ret ?_)
        exact kret_ct 2 rfl rfl rfl rfl Tryz.isAgg38 Tryz.sizeOf38 (by simp) (fun w hw => ⟨rq2 ((NL_t hc).trans e), hp_below hw⟩)
      · skip
        refine x_skip ?_
        refine xs_plain (E := EE []) ?_
        refine lx_loada 4 rfl rfl Tryz.isAgg38 Tryz.sizeOf38 (by simp) rfl rfl ?_
        refine lx_storea 2 hGF rfl rfl rfl Tryz.sizeOf38 (by simp) (by simp) (one_u64 _) rfl ?_
        refine lx_assign rfl rfl rfl ?_
        refine lx_nil ?_
        refine x_ret ?_
        repeat (first | refine kseq_ret ?_ | refine kblk_ret ?_)
        exact kret_ct 2 rfl rfl rfl rfl Tryz.isAgg38 Tryz.sizeOf38 (by simp) (fun w hw => ⟨rp2 ((NL_f hc).trans e), hp_below hw⟩)
end Go.Proofs.YtmpcccpnblfloaaGreatDoor
