/-
  The walk of Montgomery's product.
-/
import Derived.Test.YteohckfbphdngaaN4
import Derived.Test.YteohckfbphdngaaN5
namespace Go.Proofs.Yteohckfbphdngaa
open Go.RowKit
set_option maxRecDepth 100000
set_option maxHeartbeats 1000000
theorem un_neg_u64 (a : BitVec 64) {P : Program} {w : World} : (Op.unary .neg (U64 a)).run P w = .ok (U64 (-a)) w := by
  show (Op.intArith .sub .u64 0 (a.toNat : Int)).run P w = _
  simp only [Op.intArith, Sem.run_pure]
  have h := a.isLt
  congr 2
  simp only [BitVec.toNat_neg]
  congr 1
  simp only [IntKind.wrap, IntKind.signed, IntKind.bits, Bool.false_and]
  simp
  omega

theorem inverse_pure (n : BitVec 64) : Pure Try.prog Gt 35 [U64 n] (U64 (IV n 5)) := by
  intro w hw
  have hGF : BOk Gt (pl w) := gt_low.plain hw
  refine calls_of_X (G := Gt) Try.func35 rfl rfl (Hp (pl w) []) (hp_refl (pl w) trivial rides_true) (good_hp hGF) ?_
  refine xs_plain (E := EE []) ?_
  refine lx_assign rfl rfl rfl ?_
  refine lx_nil ?_
  refine xs_plain (E := EE []) ?_
  refine lx_move rfl rfl rfl ?_
  refine lx_assign rfl rfl rfl ?_
  refine lx_nil ?_
  refine x_seq ?_
  refine xs_plain (E := EE []) ?_
  refine lx_move rfl rfl rfl ?_
  refine lx_nil ?_
  refine x_block ?_
  refine x_for (ι := { i : Nat // i ≤ 5 }) (fun x => [(0, U64 n), (2, U64 0), (3, U64 (IV n x.1)), (5, I (x.1 : Int))]) (fun x => []) (fun x => 5 - x.1) ⟨0, by omega⟩ hGF ⟨rfl, rfl, rfl, rfl, trivial⟩ trivial ?_
  rintro ⟨i, hi⟩
  dsimp only
  refine xs_plain (E := EE []) ?_
  refine lx_bin rfl rfl (fun _ => rfl) (fun _ => bin_lss_i _ _ _) rfl rfl ?_
  refine lx_nil ?_
  refine x_seq ?_
  refine x_if rfl (fun hc => ?_) (fun hc => ?_)
  · simp only [decide_eq_true_eq] at hc
    refine x_skip ?_
    refine x_seq ?_
    refine x_block ?_
    refine x_plain (E := EE []) ?_
    refine lx_move rfl rfl rfl ?_
    refine lx_move rfl rfl rfl ?_
    refine lx_move rfl rfl rfl ?_
    refine lx_bin rfl rfl (fun _ => rfl) (fun _ => bin_mul_u64 _ _ _) rfl rfl ?_
    refine lx_bin rfl rfl (fun _ => rfl) (fun _ => bin_sub_u64 _ _ _) rfl rfl ?_
    refine lx_bin rfl rfl (fun _ => rfl) (fun _ => bin_mul_u64 _ _ _) rfl rfl ?_
    refine lx_assign rfl rfl rfl ?_
    refine lx_nil ?_
    refine x_plain (E := EE []) ?_
    refine lx_bin rfl rfl (fun _ => rfl) (fun _ => bin_add_i _ _ _ (by unfold inI; omega)) rfl rfl ?_
    refine lx_move rfl rfl rfl ?_
    refine lx_nil ?_
    repeat (refine kblk_n ?_)
    refine kseq_n ?_
    exact ⟨rfl, ⟨i + 1, by omega⟩, _, by show 5 - (i + 1) < 5 - i; omega, rfl, ⟨rfl, rfl, rfl, rfl, trivial⟩, trivial⟩
  · obtain rfl : i = 5 := by simp at hc; omega
    refine x_exit ?_
    refine xs_plain (E := EE []) ?_
    refine lx_move rfl rfl rfl ?_
    refine lx_assign rfl rfl rfl ?_
    refine lx_nil ?_
    refine x_ret ?_
    repeat (first | refine kseq_ret ?_ | refine kblk_ret ?_)
    exact kret_tmp rfl rfl (fun w hw => ⟨rfl, hp_below hw⟩)
theorem info22 : (Try.prog.info? 22).map (·.size) = some 1 := by kernel_rfl
theorem lay_front (a : List (BitVec 64)) (h : a.length = 6) : lay 0 (a.map U64) ((List.replicate 12 0#64).map U64) = (a ++ List.replicate 6 0).map U64 := by
  rw [lay_eq _ _ _ (by simp [h])]
  simp [h]

theorem mont_pure (a b m : List (BitVec 64)) (ha : a.length = 6) (hb : b.length = 6) (hm : m.length = 6) : Pure Try.prog Gt 19 [.agg ((a).map U64).toArray, .agg ((b).map U64).toArray, .agg ((m).map U64).toArray] (.agg ((MONT a b m).map U64).toArray) := by
  intro w hw
  have hGF : BOk Gt (pl w) := gt_low.plain hw
  refine calls_of_X (G := Gt) Try.func19 rfl rfl (Hp (pl w) []) (hp_refl (pl w) trivial rides_true) (good_hp hGF) ?_
  by_cases h0 : m.getD 0 0 % 2 = 0
  · skip
    refine xs_plain (E := EE []) ?_
    refine lx_boxr 3 hGF rfl rfl rfl ?_
    intro b3
    refine lx_boxr 4 hGF rfl rfl rfl ?_
    intro b4
    refine lx_boxr 5 hGF rfl rfl rfl ?_
    intro b5
    refine lx_allocr 6 hGF zv23 rfl rfl ?_
    intro b6
    refine lx_nil ?_
    refine x_seq ?_
    refine xs_plain (E := EE []) ?_
    refine lx_ia0 (0) rfl rfl Try.underlying23 Try.sizeOf22 (by omega) (by omega) rfl rfl ?_
    refine lx_loadm 5 U64 0 rfl rfl Try.isAgg22 (by rw [hm]; omega) rfl rfl ?_
    refine lx_bin rfl rfl (fun _ => rfl) (fun _ => bin_rem_u64 _ _ _ (by decide)) rfl rfl ?_
    refine lx_bin (v := .bool true) rfl rfl (fun _ => rfl) (fun w => (bin_eql_u64 _ _ _).trans (congrArg (fun b => Result.ok (Value.bool b) w) (beq_iff_eq.2 h0))) rfl rfl ?_
    refine lx_nil ?_
    refine x_true rfl ?_
    refine xs_plain (E := EE []) ?_
    refine lx_buildz zv23 Try.underlying23 Try.sizeOf22 rfl rfl ?_
    refine lx_storea 6 hGF rfl rfl rfl Try.sizeOf23 (by rw [List.length_map, List.length_replicate]) (by rw [List.length_map, List.length_replicate]) (one_u64 _) rfl ?_
    refine lx_nil ?_
    refine x_ret ?_
    repeat (first | refine kseq_ret ?_ | refine kblk_ret ?_)
    exact kret_own 6 rfl rfl rfl Try.isAgg23 Try.sizeOf23 (by rw [List.length_map, List.length_replicate]) (fun w hw => ⟨by rw [MONT, if_pos h0]; rfl, hp_below hw⟩)
  cases h1 : LT a m 6 with
  | true =>
    refine xs_plain (E := EE []) ?_
    refine lx_boxr 3 hGF rfl rfl rfl ?_
    intro b3
    refine lx_boxr 4 hGF rfl rfl rfl ?_
    intro b4
    refine lx_boxr 5 hGF rfl rfl rfl ?_
    intro b5
    refine lx_allocr 6 hGF zv23 rfl rfl ?_
    intro b6
    refine lx_nil ?_
    refine x_seq ?_
    refine xs_plain (E := EE []) ?_
    refine lx_ia0 (0) rfl rfl Try.underlying23 Try.sizeOf22 (by omega) (by omega) rfl rfl ?_
    refine lx_loadm 5 U64 0 rfl rfl Try.isAgg22 (by rw [hm]; omega) rfl rfl ?_
    refine lx_bin rfl rfl (fun _ => rfl) (fun _ => bin_rem_u64 _ _ _ (by decide)) rfl rfl ?_
    refine lx_bin (v := .bool false) rfl rfl (fun _ => rfl) (fun w => (bin_eql_u64 _ _ _).trans (congrArg (fun b => Result.ok (Value.bool b) w) (beq_eq_false_iff_ne.2 h0))) rfl rfl ?_
    refine lx_nil ?_
    refine x_false rfl ?_
    refine x_skip ?_
    refine x_seq ?_
    refine xs_plain (E := EE []) ?_
    refine lx_loada 3 rfl rfl Try.isAgg23 Try.sizeOf23 (by rw [List.length_map, ha]) rfl rfl ?_
    refine lx_loada 5 rfl rfl Try.isAgg23 Try.sizeOf23 (by rw [List.length_map, hm]) rfl rfl ?_
    refine lx_call rfl rfl ent14 (less_pure a m ha hm) rfl rfl ?_
    refine lx_un (v := .bool false) rfl (fun _ => (un_not _).trans (by rw [h1]; rfl)) rfl rfl ?_
    refine lx_nil ?_
    refine x_false rfl ?_
    refine x_skip ?_
    refine xs_plain (E := EE []) ?_
    refine lx_ia0 (0) rfl rfl Try.underlying23 Try.sizeOf22 (by omega) (by omega) rfl rfl ?_
    refine lx_loadm 5 U64 0 rfl rfl Try.isAgg22 (by rw [hm]; omega) rfl rfl ?_
    refine lx_call rfl rfl ent35 (inverse_pure _) rfl rfl ?_
    refine lx_un rfl (fun _ => un_neg_u64 _) rfl rfl ?_
    refine lx_assign rfl rfl rfl ?_
    generalize hcl : -(IV (m.getD 0 0) 5) = cl
    refine lx_nil ?_
    refine xs_plain (E := EE []) ?_
    refine lx_allocr 9 hGF zv23 rfl rfl ?_
    intro b9
    refine lx_nil ?_
    refine xs_plain (E := EE []) ?_
    refine lx_assign rfl rfl rfl ?_
    refine lx_nil ?_
    refine x_seq ?_
    refine xs_plain (E := EE []) ?_
    refine lx_loada 3 rfl rfl Try.isAgg23 Try.sizeOf23 (by rw [List.length_map, ha]) rfl rfl ?_
    refine lx_move rfl rfl rfl ?_
    refine lx_nil ?_
    refine x_block ?_
    refine x_for (ι := { i : Nat // i ≤ 6 }) (fun x => [(4, .pointer (some ⟨b4, 0, none⟩)), (5, .pointer (some ⟨b5, 0, none⟩)), (6, .pointer (some ⟨b6, 0, none⟩)), (8, U64 cl), (9, .pointer (some ⟨b9, 0, none⟩)), (10, U64 (MO a b m cl x.1).2), (38, .agg ((a).map U64).toArray), (39, I (x.1 : Int))]) (fun x => [(4, b4, b.map U64, 23), (5, b5, m.map U64, 23), (6, b6, (List.replicate 6 0#64).map U64, 23), (9, b9, (MO a b m cl x.1).1.map U64, 23)]) (fun x => 6 - x.1) ⟨0, by omega⟩ hGF ⟨rfl, rfl, rfl, rfl, rfl, rfl, rfl, rfl, trivial⟩ ⟨rfl, rfl, rfl, rfl, trivial⟩ ?_
    rintro ⟨i, hi⟩
    dsimp only
    refine xs_plain (E := EE []) ?_
    refine lx_bin rfl rfl (fun _ => rfl) (fun _ => bin_lss_i _ _ _) rfl rfl ?_
    refine lx_nil ?_
    refine x_seq ?_
    refine x_if rfl (fun hc => ?_) (fun hc => ?_)
    · simp only [decide_eq_true_eq] at hc
      refine x_skip ?_
      refine x_seq ?_
      refine x_block ?_
      refine xs_plain (E := EE []) ?_
      refine lx_idxm U64 0 (i) rfl rfl Try.underlying23 Try.sizeOf22 Try.isAgg22 (by omega) (by omega) (ha) rfl rfl ?_
      refine lx_assign rfl rfl rfl ?_
      refine lx_nil ?_
      refine xs_plain (E := EE []) ?_
      refine lx_assign rfl rfl rfl ?_
      refine lx_assign rfl rfl rfl ?_
      refine lx_nil ?_
      refine x_seq ?_
      refine xs_plain (E := EE []) ?_
      refine lx_loada 4 rfl rfl Try.isAgg23 Try.sizeOf23 (by rw [List.length_map, hb]) rfl rfl ?_
      refine lx_move rfl rfl rfl ?_
      refine lx_nil ?_
      refine x_block ?_
      refine x_for (ι := { i : Nat // i ≤ 6 }) (fun x => [(4, .pointer (some ⟨b4, 0, none⟩)), (5, .pointer (some ⟨b5, 0, none⟩)), (6, .pointer (some ⟨b6, 0, none⟩)), (8, U64 cl), (9, .pointer (some ⟨b9, 0, none⟩)), (10, U64 (MO a b m cl i).2), (38, .agg ((a).map U64).toArray), (39, I (i : Int)), (12, U64 (a.getD i 0)), (13, U64 (MJ (a.getD i 0) b (MO a b m cl i).1 x.1).2), (14, U64 0), (42, .agg ((b).map U64).toArray), (43, I (x.1 : Int))]) (fun x => [(4, b4, b.map U64, 23), (5, b5, m.map U64, 23), (6, b6, (List.replicate 6 0#64).map U64, 23), (9, b9, (MJ (a.getD i 0) b (MO a b m cl i).1 x.1).1.map U64, 23)]) (fun x => 6 - x.1) ⟨0, by omega⟩ hGF ⟨rfl, rfl, rfl, rfl, rfl, rfl, rfl, rfl, rfl, rfl, rfl, rfl, rfl, trivial⟩ ⟨rfl, rfl, rfl, rfl, trivial⟩ ?_
      rintro ⟨j, hj⟩
      dsimp only
      refine xs_plain (E := EE []) ?_
      refine lx_bin rfl rfl (fun _ => rfl) (fun _ => bin_lss_i _ _ _) rfl rfl ?_
      refine lx_nil ?_
      refine x_seq ?_
      refine x_if rfl (fun hc => ?_) (fun hc => ?_)
      · simp only [decide_eq_true_eq] at hc
        refine x_skip ?_
        refine x_seq ?_
        refine x_block ?_
        refine xs_plain (E := EE []) ?_
        refine lx_move rfl rfl rfl ?_
        refine lx_idxm U64 0 (j) rfl rfl Try.underlying23 Try.sizeOf22 Try.isAgg22 (by omega) (by omega) (hb) rfl rfl ?_
        refine lx_assign rfl rfl rfl ?_
        refine lx_assign rfl rfl rfl ?_
        refine lx_nil ?_
        refine x_plain (E := EE []) ?_
        refine lx_move rfl rfl rfl ?_
        refine lx_move rfl rfl rfl ?_
        refine lx_move rfl rfl rfl ?_
        refine lx_move rfl rfl rfl ?_
        refine lx_ia0 (j) rfl rfl Try.underlying23 Try.sizeOf22 (by omega) (by omega) rfl rfl ?_
        refine lx_loadm 9 U64 0 rfl rfl Try.isAgg22 (by rw [MJ_len, MO_len]; omega) rfl rfl ?_
        refine lx_move rfl rfl rfl ?_
        refine lx_call rfl rfl ent31 (mulAdd_pure _ _ _ _) rfl rfl ?_
        refine lx_move rfl rfl rfl ?_
        refine lx_ext rfl rfl rfl rfl ?_
        refine lx_ext rfl rfl rfl rfl ?_
        refine lx_ia0 (j) rfl rfl Try.underlying23 Try.sizeOf22 (by omega) (by omega) rfl rfl ?_
        refine lx_storem 9 U64 hGF rfl rfl rfl Try.sizeOf22 rfl (by rw [MJ_len, MO_len]; omega) rfl ?_
        refine lx_assign rfl rfl rfl ?_
        refine lx_nil ?_
        refine x_plain (E := EE []) ?_
        refine lx_bin rfl rfl (fun _ => rfl) (fun _ => bin_add_i _ _ _ (by unfold inI; omega)) rfl rfl ?_
        refine lx_move rfl rfl rfl ?_
        refine lx_nil ?_
        repeat (refine kblk_n ?_)
        refine kseq_n ?_
        exact ⟨rfl, ⟨j + 1, by omega⟩, _, by show 6 - (j + 1) < 6 - j; omega, rfl, ⟨rfl, rfl, rfl, rfl, rfl, rfl, rfl, rfl, rfl, rfl, rfl, rfl, rfl, trivial⟩, ⟨rfl, rfl, rfl, rfl, trivial⟩⟩
      · obtain rfl : j = 6 := by simp at hc; omega
        generalize hS : MJ (a.getD i 0) b (MO a b m cl i).1 6 = S1
        have hSl : S1.1.length = 6 := by rw [← hS, MJ_len, MO_len]
        refine x_exit ?_
        refine xs_plain (E := EE []) ?_
        refine lx_move rfl rfl rfl ?_
        refine lx_move rfl rfl rfl ?_
        refine lx_ext1 rfl rfl (fun w => add64 _ _ _ (by decide) w) rfl rfl ?_
        refine lx_move rfl rfl rfl ?_
        refine lx_ext rfl rfl rfl rfl ?_
        refine lx_ext rfl rfl rfl rfl ?_
        refine lx_assign rfl rfl rfl ?_
        refine lx_assign rfl rfl rfl ?_
        refine lx_nil ?_
        refine xs_plain (E := EE []) ?_
        refine lx_ia0 (0) rfl rfl Try.underlying23 Try.sizeOf22 (by omega) (by omega) rfl rfl ?_
        refine lx_loadm 9 U64 0 rfl rfl Try.isAgg22 (by rw [hSl]; omega) rfl rfl ?_
        refine lx_move rfl rfl rfl ?_
        refine lx_bin rfl rfl (fun _ => rfl) (fun _ => bin_mul_u64 _ _ _) rfl rfl ?_
        refine lx_assign rfl rfl rfl ?_
        refine lx_nil ?_
        refine xs_plain (E := EE []) ?_
        refine lx_move rfl rfl rfl ?_
        refine lx_ia0 (0) rfl rfl Try.underlying23 Try.sizeOf22 (by omega) (by omega) rfl rfl ?_
        refine lx_loadm 5 U64 0 rfl rfl Try.isAgg22 (by rw [hm]; omega) rfl rfl ?_
        refine lx_ia0 (0) rfl rfl Try.underlying23 Try.sizeOf22 (by omega) (by omega) rfl rfl ?_
        refine lx_loadm 9 U64 0 rfl rfl Try.isAgg22 (by rw [hSl]; omega) rfl rfl ?_
        refine lx_call rfl rfl ent31 (mulAdd_pure _ _ _ _) rfl rfl ?_
        refine lx_move rfl rfl rfl ?_
        refine lx_ext rfl rfl rfl rfl ?_
        refine lx_ext rfl rfl rfl rfl ?_
        refine lx_assign rfl rfl rfl ?_
        refine lx_nil ?_
        refine x_seq ?_
        refine xs_plain (E := EE []) ?_
        refine lx_assign rfl rfl rfl ?_
        refine lx_nil ?_
        refine x_block ?_
        refine x_for (ι := { i : Nat // i ≤ 5 }) (fun x => [(4, .pointer (some ⟨b4, 0, none⟩)), (5, .pointer (some ⟨b5, 0, none⟩)), (6, .pointer (some ⟨b6, 0, none⟩)), (8, U64 cl), (9, .pointer (some ⟨b9, 0, none⟩)), (10, U64 (ADC (MO a b m cl i).2 S1.2 0).1), (38, .agg ((a).map U64).toArray), (39, I (i : Int)), (14, U64 (ADC (MO a b m cl i).2 S1.2 0).2), (17, U64 (S1.1.getD 0 0 * cl)), (13, U64 (MR (S1.1.getD 0 0 * cl) m S1.1 x.1).2), (18, I ((x.1 + 1 : Nat) : Int))]) (fun x => [(4, b4, b.map U64, 23), (5, b5, m.map U64, 23), (6, b6, (List.replicate 6 0#64).map U64, 23), (9, b9, (MR (S1.1.getD 0 0 * cl) m S1.1 x.1).1.map U64, 23)]) (fun x => 5 - x.1) ⟨0, by omega⟩ hGF ⟨rfl, rfl, rfl, rfl, rfl, rfl, rfl, rfl, rfl, rfl, rfl, rfl, trivial⟩ ⟨rfl, rfl, rfl, rfl, trivial⟩ ?_
        rintro ⟨r, hr⟩
        dsimp only
        refine x_seq ?_
        refine xs_plain (E := EE []) ?_
        refine lx_move rfl rfl rfl ?_
        refine lx_bin rfl rfl (fun _ => rfl) (fun _ => bin_lss_i _ _ _) rfl rfl ?_
        refine lx_nil ?_
        refine x_if rfl (fun hc => ?_) (fun hc => ?_)
        · simp only [decide_eq_true_eq] at hc
          refine x_skip ?_
          refine x_seq ?_
          refine x_block ?_
          refine x_drawn (E := EE []) mixed (by kernel_rfl) (by kernel_rfl) (by kernel_rfl) ?_
          refine lx_move rfl rfl rfl ?_
          refine lx_bin (v := I (r : Int)) rfl rfl (fun _ => rfl) (fun _ => (bin_sub_i _ _ _ (by unfold inI; omega)).trans (by rw [show (((r + 1 : Nat) : Int) - 1) = (r : Int) by omega])) rfl rfl ?_
          refine lx_move rfl rfl rfl ?_
          refine lx_move rfl rfl rfl ?_
          refine lx_ia0 ((r + 1)) rfl rfl Try.underlying23 Try.sizeOf22 (by omega) (by omega) rfl rfl ?_
          refine lx_loadm 5 U64 0 rfl rfl Try.isAgg22 (by rw [hm]; omega) rfl rfl ?_
          refine lx_move rfl rfl rfl ?_
          refine lx_ia0 ((r + 1)) rfl rfl Try.underlying23 Try.sizeOf22 (by omega) (by omega) rfl rfl ?_
          refine lx_loadm 9 U64 0 rfl rfl Try.isAgg22 (by rw [MR_len, hSl]; omega) rfl rfl ?_
          refine lx_move rfl rfl rfl ?_
          refine lx_call rfl rfl ent31 (mulAdd_pure _ _ _ _) rfl rfl ?_
          refine lx_move rfl rfl rfl ?_
          refine lx_ext rfl rfl rfl rfl ?_
          refine lx_ext rfl rfl rfl rfl ?_
          refine lx_ia0 (r) rfl rfl Try.underlying23 Try.sizeOf22 (by omega) (by omega) rfl rfl ?_
          refine lx_storem 9 U64 hGF rfl rfl rfl Try.sizeOf22 rfl (by rw [MR_len, hSl]; omega) rfl ?_
          refine lx_assign rfl rfl rfl ?_
          refine lx_nil ?_
          refine x_plain (E := EE []) ?_
          refine lx_move rfl rfl rfl ?_
          refine lx_bin rfl rfl (fun _ => rfl) (fun _ => bin_add_i _ _ _ (by unfold inI; omega)) rfl rfl ?_
          refine lx_assign rfl rfl rfl ?_
          refine lx_nil ?_
          repeat (refine kblk_n ?_)
          refine kseq_n ?_
          exact ⟨rfl, ⟨r + 1, by omega⟩, _, by show 5 - (r + 1) < 5 - r; omega, rfl, ⟨rfl, rfl, rfl, rfl, rfl, rfl, rfl, rfl, rfl, rfl, rfl, rfl, trivial⟩, ⟨rfl, rfl, rfl, rfl, trivial⟩⟩
        · obtain rfl : r = 5 := by simp at hc; omega
          generalize hM : MR (S1.1.getD 0 0 * cl) m S1.1 5 = R1
          have hRl : R1.1.length = 6 := by rw [← hM, MR_len, hSl]
          refine x_exit ?_
          refine xs_plain (E := EE []) ?_
          refine lx_move rfl rfl rfl ?_
          refine lx_move rfl rfl rfl ?_
          refine lx_ext1 rfl rfl (fun w => add64 _ _ _ (by decide) w) rfl rfl ?_
          refine lx_move rfl rfl rfl ?_
          refine lx_ext rfl rfl rfl rfl ?_
          refine lx_ext rfl rfl rfl rfl ?_
          refine lx_ia0 (5) rfl rfl Try.underlying23 Try.sizeOf22 (by omega) (by omega) rfl rfl ?_
          refine lx_storem 9 U64 hGF rfl rfl rfl Try.sizeOf22 rfl (by rw [hRl]; omega) rfl ?_
          refine lx_assign rfl rfl rfl ?_
          refine lx_nil ?_
          refine x_plain (E := EE []) ?_
          refine lx_move rfl rfl rfl ?_
          refine lx_move rfl rfl rfl ?_
          refine lx_bin rfl rfl (fun _ => rfl) (fun _ => bin_add_u64 _ _ _) rfl rfl ?_
          refine lx_assign rfl rfl rfl ?_
          refine lx_nil ?_
          refine x_plain (E := EE []) ?_
          refine lx_bin rfl rfl (fun _ => rfl) (fun _ => bin_add_i _ _ _ (by unfold inI; omega)) rfl rfl ?_
          refine lx_move rfl rfl rfl ?_
          refine lx_nil ?_
          repeat (refine kblk_n ?_)
          refine kseq_n ?_
          exact ⟨rfl, ⟨i + 1, by omega⟩, _, by show 6 - (i + 1) < 6 - i; omega, rfl, ⟨rfl, rfl, rfl, rfl, rfl, by rw [MO_succ a b m cl i hS hM]; rfl, rfl, rfl, trivial⟩, ⟨rfl, rfl, rfl, by rw [MO_succ a b m cl i hS hM]; rfl, trivial⟩⟩
    · obtain rfl : i = 6 := by simp at hc; omega
      refine x_exit ?_
      refine xs_plain (E := EE []) ?_
      refine lx_loada 9 rfl rfl Try.isAgg23 Try.sizeOf23 (by rw [List.length_map, MO_len]) rfl rfl ?_
      refine lx_move rfl rfl rfl ?_
      refine lx_loada 5 rfl rfl Try.isAgg23 Try.sizeOf23 (by rw [List.length_map, hm]) rfl rfl ?_
      refine lx_call rfl rfl ent34 (red_pure _ _ _ (MO_len _ _ _ _ _) hm) rfl rfl ?_
      refine lx_storea 6 hGF rfl rfl rfl Try.sizeOf23 (by rw [List.length_map, RED_len _ _ _ (MO_len _ _ _ _ _)]) (by rw [List.length_map, List.length_replicate]) (one_u64 _) rfl ?_
      refine lx_nil ?_
      refine x_ret ?_
      repeat (first | refine kseq_ret ?_ | refine kblk_ret ?_)
      exact kret_own 6 rfl rfl rfl Try.isAgg23 Try.sizeOf23 (by rw [List.length_map]; exact RED_len _ _ _ (MO_len _ _ _ _ _)) (fun w hw => ⟨by rw [MONT, if_neg h0, if_pos h1, MN, hcl], hp_below hw⟩)
  | false =>
    refine xs_plain (E := EE []) ?_
    refine lx_boxr 3 hGF rfl rfl rfl ?_
    intro b3
    refine lx_boxr 4 hGF rfl rfl rfl ?_
    intro b4
    refine lx_boxr 5 hGF rfl rfl rfl ?_
    intro b5
    refine lx_allocr 6 hGF zv23 rfl rfl ?_
    intro b6
    refine lx_nil ?_
    refine x_seq ?_
    refine xs_plain (E := EE []) ?_
    refine lx_ia0 (0) rfl rfl Try.underlying23 Try.sizeOf22 (by omega) (by omega) rfl rfl ?_
    refine lx_loadm 5 U64 0 rfl rfl Try.isAgg22 (by rw [hm]; omega) rfl rfl ?_
    refine lx_bin rfl rfl (fun _ => rfl) (fun _ => bin_rem_u64 _ _ _ (by decide)) rfl rfl ?_
    refine lx_bin (v := .bool false) rfl rfl (fun _ => rfl) (fun w => (bin_eql_u64 _ _ _).trans (congrArg (fun b => Result.ok (Value.bool b) w) (beq_eq_false_iff_ne.2 h0))) rfl rfl ?_
    refine lx_nil ?_
    refine x_false rfl ?_
    refine x_skip ?_
    refine x_seq ?_
    refine xs_plain (E := EE []) ?_
    refine lx_loada 3 rfl rfl Try.isAgg23 Try.sizeOf23 (by rw [List.length_map, ha]) rfl rfl ?_
    refine lx_loada 5 rfl rfl Try.isAgg23 Try.sizeOf23 (by rw [List.length_map, hm]) rfl rfl ?_
    refine lx_call rfl rfl ent14 (less_pure a m ha hm) rfl rfl ?_
    refine lx_un (v := .bool true) rfl (fun _ => (un_not _).trans (by rw [h1]; rfl)) rfl rfl ?_
    refine lx_nil ?_
    refine x_true rfl ?_
    refine xs_plain (E := EE []) ?_
    refine lx_allocr 7 hGF zv31 rfl rfl ?_
    intro b7
    refine lx_nil ?_
    refine xs_drawn (E := EE []) mixed (by kernel_rfl) (by kernel_rfl) (by kernel_rfl) ?_
    refine lx_slarr1 (l := 0) (h' := 12) rfl Try.underlying31 Try.sizeOf22 rfl rfl (by omega) (by omega) rfl rfl ?_
    refine lx_slarr1 (l := 0) (h' := 6) rfl Try.underlying23 Try.sizeOf22 rfl rfl (by omega) (by omega) rfl rfl ?_
    refine lx_copy (cs := a.map U64) 7 hGF rfl rfl rfl Try.underlying40 info22 (by rw [List.length_map, ha]; rfl) (fun w' h j v hv => by rw [Addr.add_mid]; exact hp_row (n := 3) rfl w' h j v hv) (one_u64 _) (by rw [List.length_map, List.length_map, ha]; decide) rfl rfl ?_
    rw [lay_front a ha]
    refine lx_nil ?_
    refine x_plain (E := EE []) ?_
    refine lx_loada 7 rfl rfl Try.isAgg31 Try.sizeOf31 (by rw [List.length_map, List.length_append, ha, List.length_replicate]) rfl rfl ?_
    refine lx_loada 5 rfl rfl Try.isAgg23 Try.sizeOf23 (by rw [List.length_map, hm]) rfl rfl ?_
    refine lx_call rfl rfl ent17 (mod_pure (a ++ List.replicate 6 0) m (by rw [List.length_append, ha]; rfl) hm) rfl rfl ?_
    refine lx_storea 3 hGF rfl rfl rfl Try.sizeOf23 (by rw [List.length_map, MOD_len _ _]) (by rw [List.length_map, ha]) (one_u64 _) rfl ?_
    refine lx_nil ?_
    refine xs_plain (E := EE []) ?_
    refine lx_ia0 (0) rfl rfl Try.underlying23 Try.sizeOf22 (by omega) (by omega) rfl rfl ?_
    refine lx_loadm 5 U64 0 rfl rfl Try.isAgg22 (by rw [hm]; omega) rfl rfl ?_
    refine lx_call rfl rfl ent35 (inverse_pure _) rfl rfl ?_
    refine lx_un rfl (fun _ => un_neg_u64 _) rfl rfl ?_
    refine lx_assign rfl rfl rfl ?_
    generalize hcl : -(IV (m.getD 0 0) 5) = cl
    refine lx_nil ?_
    refine xs_plain (E := EE []) ?_
    refine lx_allocr 9 hGF zv23 rfl rfl ?_
    intro b9
    refine lx_nil ?_
    refine xs_plain (E := EE []) ?_
    refine lx_assign rfl rfl rfl ?_
    refine lx_nil ?_
    refine x_seq ?_
    refine xs_plain (E := EE []) ?_
    refine lx_loada 3 rfl rfl Try.isAgg23 Try.sizeOf23 (by rw [List.length_map, MOD_len _ _]) rfl rfl ?_
    refine lx_move rfl rfl rfl ?_
    refine lx_nil ?_
    refine x_block ?_
    refine x_for (ι := { i : Nat // i ≤ 6 }) (fun x => [(4, .pointer (some ⟨b4, 0, none⟩)), (5, .pointer (some ⟨b5, 0, none⟩)), (6, .pointer (some ⟨b6, 0, none⟩)), (8, U64 cl), (9, .pointer (some ⟨b9, 0, none⟩)), (10, U64 (MO (MOD (a ++ List.replicate 6 0) m) b m cl x.1).2), (38, .agg (((MOD (a ++ List.replicate 6 0) m)).map U64).toArray), (39, I (x.1 : Int))]) (fun x => [(4, b4, b.map U64, 23), (5, b5, m.map U64, 23), (6, b6, (List.replicate 6 0#64).map U64, 23), (9, b9, (MO (MOD (a ++ List.replicate 6 0) m) b m cl x.1).1.map U64, 23)]) (fun x => 6 - x.1) ⟨0, by omega⟩ hGF ⟨rfl, rfl, rfl, rfl, rfl, rfl, rfl, rfl, trivial⟩ ⟨rfl, rfl, rfl, rfl, trivial⟩ ?_
    rintro ⟨i, hi⟩
    dsimp only
    refine xs_plain (E := EE []) ?_
    refine lx_bin rfl rfl (fun _ => rfl) (fun _ => bin_lss_i _ _ _) rfl rfl ?_
    refine lx_nil ?_
    refine x_seq ?_
    refine x_if rfl (fun hc => ?_) (fun hc => ?_)
    · simp only [decide_eq_true_eq] at hc
      refine x_skip ?_
      refine x_seq ?_
      refine x_block ?_
      refine xs_plain (E := EE []) ?_
      refine lx_idxm U64 0 (i) rfl rfl Try.underlying23 Try.sizeOf22 Try.isAgg22 (by omega) (by omega) (MOD_len _ _) rfl rfl ?_
      refine lx_assign rfl rfl rfl ?_
      refine lx_nil ?_
      refine xs_plain (E := EE []) ?_
      refine lx_assign rfl rfl rfl ?_
      refine lx_assign rfl rfl rfl ?_
      refine lx_nil ?_
      refine x_seq ?_
      refine xs_plain (E := EE []) ?_
      refine lx_loada 4 rfl rfl Try.isAgg23 Try.sizeOf23 (by rw [List.length_map, hb]) rfl rfl ?_
      refine lx_move rfl rfl rfl ?_
      refine lx_nil ?_
      refine x_block ?_
      refine x_for (ι := { i : Nat // i ≤ 6 }) (fun x => [(4, .pointer (some ⟨b4, 0, none⟩)), (5, .pointer (some ⟨b5, 0, none⟩)), (6, .pointer (some ⟨b6, 0, none⟩)), (8, U64 cl), (9, .pointer (some ⟨b9, 0, none⟩)), (10, U64 (MO (MOD (a ++ List.replicate 6 0) m) b m cl i).2), (38, .agg (((MOD (a ++ List.replicate 6 0) m)).map U64).toArray), (39, I (i : Int)), (12, U64 ((MOD (a ++ List.replicate 6 0) m).getD i 0)), (13, U64 (MJ ((MOD (a ++ List.replicate 6 0) m).getD i 0) b (MO (MOD (a ++ List.replicate 6 0) m) b m cl i).1 x.1).2), (14, U64 0), (42, .agg ((b).map U64).toArray), (43, I (x.1 : Int))]) (fun x => [(4, b4, b.map U64, 23), (5, b5, m.map U64, 23), (6, b6, (List.replicate 6 0#64).map U64, 23), (9, b9, (MJ ((MOD (a ++ List.replicate 6 0) m).getD i 0) b (MO (MOD (a ++ List.replicate 6 0) m) b m cl i).1 x.1).1.map U64, 23)]) (fun x => 6 - x.1) ⟨0, by omega⟩ hGF ⟨rfl, rfl, rfl, rfl, rfl, rfl, rfl, rfl, rfl, rfl, rfl, rfl, rfl, trivial⟩ ⟨rfl, rfl, rfl, rfl, trivial⟩ ?_
      rintro ⟨j, hj⟩
      dsimp only
      refine xs_plain (E := EE []) ?_
      refine lx_bin rfl rfl (fun _ => rfl) (fun _ => bin_lss_i _ _ _) rfl rfl ?_
      refine lx_nil ?_
      refine x_seq ?_
      refine x_if rfl (fun hc => ?_) (fun hc => ?_)
      · simp only [decide_eq_true_eq] at hc
        refine x_skip ?_
        refine x_seq ?_
        refine x_block ?_
        refine xs_plain (E := EE []) ?_
        refine lx_move rfl rfl rfl ?_
        refine lx_idxm U64 0 (j) rfl rfl Try.underlying23 Try.sizeOf22 Try.isAgg22 (by omega) (by omega) (hb) rfl rfl ?_
        refine lx_assign rfl rfl rfl ?_
        refine lx_assign rfl rfl rfl ?_
        refine lx_nil ?_
        refine x_plain (E := EE []) ?_
        refine lx_move rfl rfl rfl ?_
        refine lx_move rfl rfl rfl ?_
        refine lx_move rfl rfl rfl ?_
        refine lx_move rfl rfl rfl ?_
        refine lx_ia0 (j) rfl rfl Try.underlying23 Try.sizeOf22 (by omega) (by omega) rfl rfl ?_
        refine lx_loadm 9 U64 0 rfl rfl Try.isAgg22 (by rw [MJ_len, MO_len]; omega) rfl rfl ?_
        refine lx_move rfl rfl rfl ?_
        refine lx_call rfl rfl ent31 (mulAdd_pure _ _ _ _) rfl rfl ?_
        refine lx_move rfl rfl rfl ?_
        refine lx_ext rfl rfl rfl rfl ?_
        refine lx_ext rfl rfl rfl rfl ?_
        refine lx_ia0 (j) rfl rfl Try.underlying23 Try.sizeOf22 (by omega) (by omega) rfl rfl ?_
        refine lx_storem 9 U64 hGF rfl rfl rfl Try.sizeOf22 rfl (by rw [MJ_len, MO_len]; omega) rfl ?_
        refine lx_assign rfl rfl rfl ?_
        refine lx_nil ?_
        refine x_plain (E := EE []) ?_
        refine lx_bin rfl rfl (fun _ => rfl) (fun _ => bin_add_i _ _ _ (by unfold inI; omega)) rfl rfl ?_
        refine lx_move rfl rfl rfl ?_
        refine lx_nil ?_
        repeat (refine kblk_n ?_)
        refine kseq_n ?_
        exact ⟨rfl, ⟨j + 1, by omega⟩, _, by show 6 - (j + 1) < 6 - j; omega, rfl, ⟨rfl, rfl, rfl, rfl, rfl, rfl, rfl, rfl, rfl, rfl, rfl, rfl, rfl, trivial⟩, ⟨rfl, rfl, rfl, rfl, trivial⟩⟩
      · obtain rfl : j = 6 := by simp at hc; omega
        generalize hS : MJ ((MOD (a ++ List.replicate 6 0) m).getD i 0) b (MO (MOD (a ++ List.replicate 6 0) m) b m cl i).1 6 = S1
        have hSl : S1.1.length = 6 := by rw [← hS, MJ_len, MO_len]
        refine x_exit ?_
        refine xs_plain (E := EE []) ?_
        refine lx_move rfl rfl rfl ?_
        refine lx_move rfl rfl rfl ?_
        refine lx_ext1 rfl rfl (fun w => add64 _ _ _ (by decide) w) rfl rfl ?_
        refine lx_move rfl rfl rfl ?_
        refine lx_ext rfl rfl rfl rfl ?_
        refine lx_ext rfl rfl rfl rfl ?_
        refine lx_assign rfl rfl rfl ?_
        refine lx_assign rfl rfl rfl ?_
        refine lx_nil ?_
        refine xs_plain (E := EE []) ?_
        refine lx_ia0 (0) rfl rfl Try.underlying23 Try.sizeOf22 (by omega) (by omega) rfl rfl ?_
        refine lx_loadm 9 U64 0 rfl rfl Try.isAgg22 (by rw [hSl]; omega) rfl rfl ?_
        refine lx_move rfl rfl rfl ?_
        refine lx_bin rfl rfl (fun _ => rfl) (fun _ => bin_mul_u64 _ _ _) rfl rfl ?_
        refine lx_assign rfl rfl rfl ?_
        refine lx_nil ?_
        refine xs_plain (E := EE []) ?_
        refine lx_move rfl rfl rfl ?_
        refine lx_ia0 (0) rfl rfl Try.underlying23 Try.sizeOf22 (by omega) (by omega) rfl rfl ?_
        refine lx_loadm 5 U64 0 rfl rfl Try.isAgg22 (by rw [hm]; omega) rfl rfl ?_
        refine lx_ia0 (0) rfl rfl Try.underlying23 Try.sizeOf22 (by omega) (by omega) rfl rfl ?_
        refine lx_loadm 9 U64 0 rfl rfl Try.isAgg22 (by rw [hSl]; omega) rfl rfl ?_
        refine lx_call rfl rfl ent31 (mulAdd_pure _ _ _ _) rfl rfl ?_
        refine lx_move rfl rfl rfl ?_
        refine lx_ext rfl rfl rfl rfl ?_
        refine lx_ext rfl rfl rfl rfl ?_
        refine lx_assign rfl rfl rfl ?_
        refine lx_nil ?_
        refine x_seq ?_
        refine xs_plain (E := EE []) ?_
        refine lx_assign rfl rfl rfl ?_
        refine lx_nil ?_
        refine x_block ?_
        refine x_for (ι := { i : Nat // i ≤ 5 }) (fun x => [(4, .pointer (some ⟨b4, 0, none⟩)), (5, .pointer (some ⟨b5, 0, none⟩)), (6, .pointer (some ⟨b6, 0, none⟩)), (8, U64 cl), (9, .pointer (some ⟨b9, 0, none⟩)), (10, U64 (ADC (MO (MOD (a ++ List.replicate 6 0) m) b m cl i).2 S1.2 0).1), (38, .agg (((MOD (a ++ List.replicate 6 0) m)).map U64).toArray), (39, I (i : Int)), (14, U64 (ADC (MO (MOD (a ++ List.replicate 6 0) m) b m cl i).2 S1.2 0).2), (17, U64 (S1.1.getD 0 0 * cl)), (13, U64 (MR (S1.1.getD 0 0 * cl) m S1.1 x.1).2), (18, I ((x.1 + 1 : Nat) : Int))]) (fun x => [(4, b4, b.map U64, 23), (5, b5, m.map U64, 23), (6, b6, (List.replicate 6 0#64).map U64, 23), (9, b9, (MR (S1.1.getD 0 0 * cl) m S1.1 x.1).1.map U64, 23)]) (fun x => 5 - x.1) ⟨0, by omega⟩ hGF ⟨rfl, rfl, rfl, rfl, rfl, rfl, rfl, rfl, rfl, rfl, rfl, rfl, trivial⟩ ⟨rfl, rfl, rfl, rfl, trivial⟩ ?_
        rintro ⟨r, hr⟩
        dsimp only
        refine x_seq ?_
        refine xs_plain (E := EE []) ?_
        refine lx_move rfl rfl rfl ?_
        refine lx_bin rfl rfl (fun _ => rfl) (fun _ => bin_lss_i _ _ _) rfl rfl ?_
        refine lx_nil ?_
        refine x_if rfl (fun hc => ?_) (fun hc => ?_)
        · simp only [decide_eq_true_eq] at hc
          refine x_skip ?_
          refine x_seq ?_
          refine x_block ?_
          refine x_drawn (E := EE []) mixed (by kernel_rfl) (by kernel_rfl) (by kernel_rfl) ?_
          refine lx_move rfl rfl rfl ?_
          refine lx_bin (v := I (r : Int)) rfl rfl (fun _ => rfl) (fun _ => (bin_sub_i _ _ _ (by unfold inI; omega)).trans (by rw [show (((r + 1 : Nat) : Int) - 1) = (r : Int) by omega])) rfl rfl ?_
          refine lx_move rfl rfl rfl ?_
          refine lx_move rfl rfl rfl ?_
          refine lx_ia0 ((r + 1)) rfl rfl Try.underlying23 Try.sizeOf22 (by omega) (by omega) rfl rfl ?_
          refine lx_loadm 5 U64 0 rfl rfl Try.isAgg22 (by rw [hm]; omega) rfl rfl ?_
          refine lx_move rfl rfl rfl ?_
          refine lx_ia0 ((r + 1)) rfl rfl Try.underlying23 Try.sizeOf22 (by omega) (by omega) rfl rfl ?_
          refine lx_loadm 9 U64 0 rfl rfl Try.isAgg22 (by rw [MR_len, hSl]; omega) rfl rfl ?_
          refine lx_move rfl rfl rfl ?_
          refine lx_call rfl rfl ent31 (mulAdd_pure _ _ _ _) rfl rfl ?_
          refine lx_move rfl rfl rfl ?_
          refine lx_ext rfl rfl rfl rfl ?_
          refine lx_ext rfl rfl rfl rfl ?_
          refine lx_ia0 (r) rfl rfl Try.underlying23 Try.sizeOf22 (by omega) (by omega) rfl rfl ?_
          refine lx_storem 9 U64 hGF rfl rfl rfl Try.sizeOf22 rfl (by rw [MR_len, hSl]; omega) rfl ?_
          refine lx_assign rfl rfl rfl ?_
          refine lx_nil ?_
          refine x_plain (E := EE []) ?_
          refine lx_move rfl rfl rfl ?_
          refine lx_bin rfl rfl (fun _ => rfl) (fun _ => bin_add_i _ _ _ (by unfold inI; omega)) rfl rfl ?_
          refine lx_assign rfl rfl rfl ?_
          refine lx_nil ?_
          repeat (refine kblk_n ?_)
          refine kseq_n ?_
          exact ⟨rfl, ⟨r + 1, by omega⟩, _, by show 5 - (r + 1) < 5 - r; omega, rfl, ⟨rfl, rfl, rfl, rfl, rfl, rfl, rfl, rfl, rfl, rfl, rfl, rfl, trivial⟩, ⟨rfl, rfl, rfl, rfl, trivial⟩⟩
        · obtain rfl : r = 5 := by simp at hc; omega
          generalize hM : MR (S1.1.getD 0 0 * cl) m S1.1 5 = R1
          have hRl : R1.1.length = 6 := by rw [← hM, MR_len, hSl]
          refine x_exit ?_
          refine xs_plain (E := EE []) ?_
          refine lx_move rfl rfl rfl ?_
          refine lx_move rfl rfl rfl ?_
          refine lx_ext1 rfl rfl (fun w => add64 _ _ _ (by decide) w) rfl rfl ?_
          refine lx_move rfl rfl rfl ?_
          refine lx_ext rfl rfl rfl rfl ?_
          refine lx_ext rfl rfl rfl rfl ?_
          refine lx_ia0 (5) rfl rfl Try.underlying23 Try.sizeOf22 (by omega) (by omega) rfl rfl ?_
          refine lx_storem 9 U64 hGF rfl rfl rfl Try.sizeOf22 rfl (by rw [hRl]; omega) rfl ?_
          refine lx_assign rfl rfl rfl ?_
          refine lx_nil ?_
          refine x_plain (E := EE []) ?_
          refine lx_move rfl rfl rfl ?_
          refine lx_move rfl rfl rfl ?_
          refine lx_bin rfl rfl (fun _ => rfl) (fun _ => bin_add_u64 _ _ _) rfl rfl ?_
          refine lx_assign rfl rfl rfl ?_
          refine lx_nil ?_
          refine x_plain (E := EE []) ?_
          refine lx_bin rfl rfl (fun _ => rfl) (fun _ => bin_add_i _ _ _ (by unfold inI; omega)) rfl rfl ?_
          refine lx_move rfl rfl rfl ?_
          refine lx_nil ?_
          repeat (refine kblk_n ?_)
          refine kseq_n ?_
          exact ⟨rfl, ⟨i + 1, by omega⟩, _, by show 6 - (i + 1) < 6 - i; omega, rfl, ⟨rfl, rfl, rfl, rfl, rfl, by rw [MO_succ (MOD (a ++ List.replicate 6 0) m) b m cl i hS hM]; rfl, rfl, rfl, trivial⟩, ⟨rfl, rfl, rfl, by rw [MO_succ (MOD (a ++ List.replicate 6 0) m) b m cl i hS hM]; rfl, trivial⟩⟩
    · obtain rfl : i = 6 := by simp at hc; omega
      refine x_exit ?_
      refine xs_plain (E := EE []) ?_
      refine lx_loada 9 rfl rfl Try.isAgg23 Try.sizeOf23 (by rw [List.length_map, MO_len]) rfl rfl ?_
      refine lx_move rfl rfl rfl ?_
      refine lx_loada 5 rfl rfl Try.isAgg23 Try.sizeOf23 (by rw [List.length_map, hm]) rfl rfl ?_
      refine lx_call rfl rfl ent34 (red_pure _ _ _ (MO_len _ _ _ _ _) hm) rfl rfl ?_
      refine lx_storea 6 hGF rfl rfl rfl Try.sizeOf23 (by rw [List.length_map, RED_len _ _ _ (MO_len _ _ _ _ _)]) (by rw [List.length_map, List.length_replicate]) (one_u64 _) rfl ?_
      refine lx_nil ?_
      refine x_ret ?_
      repeat (first | refine kseq_ret ?_ | refine kblk_ret ?_)
      exact kret_own 6 rfl rfl rfl Try.isAgg23 Try.sizeOf23 (by rw [List.length_map]; exact RED_len _ _ _ (MO_len _ _ _ _ _)) (fun w hw => ⟨by rw [MONT, if_neg h0, if_neg (by rw [h1]; decide), MN, hcl], hp_below hw⟩)
end Go.Proofs.Yteohckfbphdngaa
