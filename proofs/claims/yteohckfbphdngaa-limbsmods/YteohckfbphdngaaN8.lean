/-
  The walks of bytes and bits.
-/
import Derived.Test.YteohckfbphdngaaN3
import Derived.Test.YteohckfbphdngaaN7
namespace Go.Proofs.Yteohckfbphdngaa
open Go.RowKit
set_option maxRecDepth 100000
set_option maxHeartbeats 1000000

theorem from_calls (a : Option Addr) (cap : Nat) (bs : List (BitVec 8)) (w : World) (hw : Gt w) (hby : BytesAt w a bs) :
    Calls Try.prog 20 [.slice a bs.length cap].toArray w (fun e w' => e = .returned (if 48 < bs.length then .tuple #[.agg ((List.replicate 6 0#64).map U64).toArray, .bool false] else .tuple #[.agg ((FRs bs bs.length).map U64).toArray, .bool true]) ∧ Grow w w') := by
  have hGF : BOk Gt (pl w) := gt_low.plain hw
  refine calls_of_X (G := Gt) Try.func20 rfl rfl (Hp (pl w) []) (hp_refl (pl w) trivial rides_true) (good_hp hGF) ?_
  by_cases hA : 48 < bs.length
  · skip
    refine xs_plain (E := EE []) ?_
    refine lx_allocr 2 hGF zv23 rfl rfl ?_
    intro b2
    refine lx_assign rfl rfl rfl ?_
    refine lx_nil ?_
    refine xs_plain (E := EE []) ?_
    refine lx_allocr 4 hGF zv23 rfl rfl ?_
    intro b4
    refine lx_nil ?_
    refine x_seq ?_
    refine xs_plain (E := EE []) ?_
    refine lx_move rfl rfl rfl ?_
    refine lx_len rfl (fun _ => len_slice Try.underlying41 _ _ _ _) rfl rfl ?_
    refine lx_bin (v := .bool true) rfl rfl (fun _ => rfl) (fun _ => (bin_gtr_i _ _ _).trans (by rw [decide_eq_true (by omega : ((bs.length : Int) > 48))])) rfl rfl ?_
    refine lx_nil ?_
    refine x_true rfl ?_
    refine xs_plain (E := EE []) ?_
    refine lx_loada 4 rfl rfl Try.isAgg23 Try.sizeOf23 (by rw [List.length_map, List.length_replicate]) rfl rfl ?_
    refine lx_storea 2 hGF rfl rfl rfl Try.sizeOf23 (by rw [List.length_map, List.length_replicate]) (by rw [List.length_map, List.length_replicate]) (one_u64 _) rfl ?_
    refine lx_assign rfl rfl rfl ?_
    refine lx_nil ?_
    refine x_ret ?_
    repeat (first | refine kseq_ret ?_ | refine kblk_ret ?_)
    exact kret_ct 2 rfl rfl rfl rfl Try.isAgg23 Try.sizeOf23 (by rw [List.length_map, List.length_replicate]) (fun w hw => ⟨by rw [if_pos hA]; rfl, hp_below hw⟩)
  · skip
    refine xs_plain (E := EE []) ?_
    refine lx_allocr 2 hGF zv23 rfl rfl ?_
    intro b2
    refine lx_assign rfl rfl rfl ?_
    refine lx_nil ?_
    refine xs_plain (E := EE []) ?_
    refine lx_allocr 4 hGF zv23 rfl rfl ?_
    intro b4
    refine lx_nil ?_
    refine x_seq ?_
    refine xs_plain (E := EE []) ?_
    refine lx_move rfl rfl rfl ?_
    refine lx_len rfl (fun _ => len_slice Try.underlying41 _ _ _ _) rfl rfl ?_
    refine lx_bin (v := .bool false) rfl rfl (fun _ => rfl) (fun _ => (bin_gtr_i _ _ _).trans (by rw [decide_eq_false (by omega : ¬ ((bs.length : Int) > 48))])) rfl rfl ?_
    refine lx_nil ?_
    refine x_false rfl ?_
    refine x_skip ?_
    refine x_seq ?_
    refine xs_plain (E := EE []) ?_
    refine lx_move rfl rfl rfl ?_
    refine lx_len rfl (fun _ => len_slice Try.underlying41 _ _ _ _) rfl rfl ?_
    refine lx_move rfl rfl rfl ?_
    refine lx_nil ?_
    refine x_block ?_
    refine x_for (ι := { i : Nat // i ≤ bs.length }) (fun x => [(0, .slice a bs.length cap), (2, .pointer (some ⟨b2, 0, none⟩)), (4, .pointer (some ⟨b4, 0, none⟩)), (12, .slice a bs.length cap), (13, I (bs.length : Int)), (14, I (x.1 : Int))]) (fun x => [(2, b2, (List.replicate 6 0#64).map U64, 23), (4, b4, (FRs bs x.1).map U64, 23)]) (fun x => bs.length - x.1) ⟨0, by omega⟩ hGF ⟨rfl, rfl, rfl, rfl, rfl, rfl, trivial⟩ ⟨rfl, rfl, trivial⟩ ?_
    rintro ⟨i, hi⟩
    dsimp only
    refine xs_plain (E := EE []) ?_
    refine lx_bin rfl rfl (fun _ => rfl) (fun _ => bin_lss_i _ _ _) rfl rfl ?_
    refine lx_nil ?_
    refine x_seq ?_
    refine x_if rfl (fun hc => ?_) (fun hc => ?_)
    · simp only [decide_eq_true_eq] at hc
      refine x_skip ?_
      refine x_seq ?_
      refine x_block ?_
      refine xs_plain (E := EE []) ?_
      refine lx_move rfl rfl rfl ?_
      obtain ⟨ad, rfl, _⟩ := hby i _ (gm U8 bs 0 i (by omega))
      refine lx_isA i rfl rfl Try.underlying41 Try.sizeOf5 rfl (by omega) rfl rfl ?_
      refine lx_load rfl Try.isAgg5 (fun w' h => by obtain ⟨ad', e, hc⟩ := (hby.grow (hp_below h)) i _ (gm U8 bs 0 i (by omega)); cases e; exact hc) rfl rfl ?_
      refine lx_assign rfl rfl rfl ?_
      refine lx_assign rfl rfl rfl ?_
      refine lx_nil ?_
      refine xs_plain (E := EE []) ?_
      refine lx_move rfl rfl rfl ?_
      refine lx_len rfl (fun _ => len_slice Try.underlying41 _ _ _ _) rfl rfl ?_
      refine lx_bin (v := I ((bs.length : Int) - 1)) rfl rfl (fun _ => rfl) (fun _ => bin_sub_i _ _ _ (by unfold inI; omega)) rfl rfl ?_
      refine lx_move rfl rfl rfl ?_
      refine lx_bin (v := I ((bs.length - 1 - i : Nat) : Int)) rfl rfl (fun _ => rfl) (fun _ => (bin_sub_i _ _ _ (by unfold inI; omega)).trans (by rw [show ((bs.length : Int) - 1 - (i : Int)) = ((bs.length - 1 - i : Nat) : Int) by omega])) rfl rfl ?_
      refine lx_assign rfl rfl rfl ?_
      refine lx_nil ?_
      refine x_drawn (E := EE []) mixed (by kernel_rfl) (by kernel_rfl) (by kernel_rfl) ?_
      refine lx_move rfl rfl rfl ?_
      refine lx_bin (v := I (((bs.length - 1 - i) / 8 : Nat) : Int)) rfl rfl (fun _ => rfl) (fun _ => bin_quo_i _ _ _ (by decide) (show inI (((bs.length - 1 - i) / 8 : Nat) : Int) by unfold inI; omega)) rfl rfl ?_
      refine lx_ia0 (((bs.length - 1 - i) / 8)) rfl rfl Try.underlying23 Try.sizeOf22 (by omega) (by omega) rfl rfl ?_
      refine lx_loadm 4 U64 0 rfl rfl Try.isAgg22 (by rw [FRs_len]; omega) rfl rfl ?_
      refine lx_move rfl rfl rfl ?_
      refine lx_conv rfl rfl (fun _ => conv_u8_u64 Try.underlying5 Try.underlying22 _) rfl rfl ?_
      refine lx_move rfl rfl rfl ?_
      refine lx_bin (v := I (((bs.length - 1 - i) % 8 : Nat) : Int)) rfl rfl (fun _ => rfl) (fun _ => bin_rem_i _ _ _ (by decide)) rfl rfl ?_
      refine lx_bin (v := I ((8 * ((bs.length - 1 - i) % 8) : Nat) : Int)) rfl rfl (fun _ => rfl) (fun _ => (bin_mul_i _ _ _ (by unfold inI; omega)).trans (by rw [show (8 : Int) * (((bs.length - 1 - i) % 8 : Nat) : Int) = ((8 * ((bs.length - 1 - i) % 8) : Nat) : Int) by omega])) rfl rfl ?_
      refine lx_bin (v := U64 ((bs.getD i 0).setWidth 64 <<< (8 * ((bs.length - 1 - i) % 8)))) rfl rfl (fun _ => rfl) (fun _ => bin_shl_i_u64 _ _ _ (by omega)) rfl rfl ?_
      refine lx_bin rfl rfl (fun _ => rfl) (fun _ => bin_or_u64 _ _ _) rfl rfl ?_
      refine lx_ia0 (((bs.length - 1 - i) / 8)) rfl rfl Try.underlying23 Try.sizeOf22 (by omega) (by omega) rfl rfl ?_
      refine lx_storem 4 U64 hGF rfl rfl rfl Try.sizeOf22 rfl (by rw [FRs_len]; omega) rfl ?_
      refine lx_nil ?_
      refine x_plain (E := EE []) ?_
      refine lx_bin rfl rfl (fun _ => rfl) (fun _ => bin_add_i _ _ _ (by unfold inI; omega)) rfl rfl ?_
      refine lx_move rfl rfl rfl ?_
      refine lx_nil ?_
      repeat (refine kblk_n ?_)
      refine kseq_n ?_
      exact ⟨rfl, ⟨i + 1, by omega⟩, _, by show bs.length - (i + 1) < bs.length - i; omega, rfl, ⟨rfl, rfl, rfl, rfl, rfl, rfl, trivial⟩, ⟨rfl, rfl, trivial⟩⟩
    · obtain rfl : i = bs.length := by simp at hc; omega
      refine x_exit ?_
      refine xs_plain (E := EE []) ?_
      refine lx_loada 4 rfl rfl Try.isAgg23 Try.sizeOf23 (by rw [List.length_map, FRs_len]) rfl rfl ?_
      refine lx_storea 2 hGF rfl rfl rfl Try.sizeOf23 (by rw [List.length_map, FRs_len _ _]) (by rw [List.length_map, List.length_replicate]) (one_u64 _) rfl ?_
      refine lx_assign rfl rfl rfl ?_
      refine lx_nil ?_
      refine x_ret ?_
      repeat (first | refine kseq_ret ?_ | refine kblk_ret ?_)
      exact kret_ct 2 rfl rfl rfl rfl Try.isAgg23 Try.sizeOf23 (by rw [List.length_map, FRs_len]) (fun w hw => ⟨by rw [if_neg hA]; rfl, hp_below hw⟩)
theorem rfrom_calls (a : Option Addr) (cap : Nat) (bs : List (BitVec 8)) (w : World) (hw : Gt w) (hby : BytesAt w a bs) :
    Calls Try.prog 21 [.slice a bs.length cap].toArray w (fun e w' => e = .returned (if 48 < bs.length then .tuple #[.agg ((List.replicate 6 0#64).map U64).toArray, .bool false] else .tuple #[.agg ((FRs bs bs.length).map U64).toArray, .bool true]) ∧ Grow w w') := by
  have hGF : BOk Gt (pl w) := gt_low.plain hw
  refine calls_of_X (G := Gt) Try.func21 rfl rfl (Hp (pl w) []) (hp_refl (pl w) trivial rides_true) (good_hp hGF) ?_
  by_cases hA : 48 < bs.length
  · skip
    refine xs_plain (E := EE []) ?_
    refine lx_allocr 2 hGF zv27 rfl rfl ?_
    intro b2
    refine lx_assign rfl rfl rfl ?_
    refine lx_nil ?_
    refine x_seq ?_
    refine xs_plain (E := EE []) ?_
    refine lx_move rfl rfl rfl ?_
    refine lx_len rfl (fun _ => len_slice Try.underlying41 _ _ _ _) rfl rfl ?_
    refine lx_bin (v := .bool true) rfl rfl (fun _ => rfl) (fun _ => (bin_gtr_i _ _ _).trans (by rw [decide_eq_true (by omega : ((bs.length : Int) > 48))])) rfl rfl ?_
    refine lx_nil ?_
    refine x_true rfl ?_
    refine xs_plain (E := EE []) ?_
    refine lx_buildz zv27 Try.underlying27 Try.sizeOf22 rfl rfl ?_
    refine lx_storea 2 hGF rfl rfl rfl Try.sizeOf27 (by rw [List.length_map, List.length_replicate]) (by rw [List.length_map, List.length_replicate]) (one_u64 _) rfl ?_
    refine lx_assign rfl rfl rfl ?_
    refine lx_nil ?_
    refine x_ret ?_
    repeat (first | refine kseq_ret ?_ | refine kblk_ret ?_)
    exact kret_ct 2 rfl rfl rfl rfl Try.isAgg27 Try.sizeOf27 (by rw [List.length_map, List.length_replicate]) (fun w hw => ⟨by rw [if_pos hA]; rfl, hp_below hw⟩)
  · skip
    refine xs_plain (E := EE []) ?_
    refine lx_allocr 2 hGF zv27 rfl rfl ?_
    intro b2
    refine lx_assign rfl rfl rfl ?_
    refine lx_nil ?_
    refine x_seq ?_
    refine xs_plain (E := EE []) ?_
    refine lx_move rfl rfl rfl ?_
    refine lx_len rfl (fun _ => len_slice Try.underlying41 _ _ _ _) rfl rfl ?_
    refine lx_bin (v := .bool false) rfl rfl (fun _ => rfl) (fun _ => (bin_gtr_i _ _ _).trans (by rw [decide_eq_false (by omega : ¬ ((bs.length : Int) > 48))])) rfl rfl ?_
    refine lx_nil ?_
    refine x_false rfl ?_
    refine x_skip ?_
    refine xs_plain (E := EE []) ?_
    refine lx_allocr 4 hGF zv27 rfl rfl ?_
    intro b4
    refine lx_nil ?_
    refine x_seq ?_
    refine xs_plain (E := EE []) ?_
    refine lx_assign rfl rfl rfl ?_
    refine lx_nil ?_
    refine x_block ?_
    refine x_for (ι := { i : Nat // i ≤ bs.length }) (fun x => [(0, .slice a bs.length cap), (2, .pointer (some ⟨b2, 0, none⟩)), (4, .pointer (some ⟨b4, 0, none⟩)), (5, I (x.1 : Int))]) (fun x => [(2, b2, (List.replicate 6 0#64).map U64, 27), (4, b4, (FRs bs x.1).map U64, 27)]) (fun x => bs.length - x.1) ⟨0, by omega⟩ hGF ⟨rfl, rfl, rfl, rfl, trivial⟩ ⟨rfl, rfl, trivial⟩ ?_
    rintro ⟨i, hi⟩
    dsimp only
    refine x_seq ?_
    refine xs_plain (E := EE []) ?_
    refine lx_move rfl rfl rfl ?_
    refine lx_move rfl rfl rfl ?_
    refine lx_len rfl (fun _ => len_slice Try.underlying41 _ _ _ _) rfl rfl ?_
    refine lx_bin rfl rfl (fun _ => rfl) (fun _ => bin_lss_i _ _ _) rfl rfl ?_
    refine lx_nil ?_
    refine x_if rfl (fun hc => ?_) (fun hc => ?_)
    · simp only [decide_eq_true_eq] at hc
      refine x_skip ?_
      refine x_seq ?_
      refine x_block ?_
      refine xs_plain (E := EE []) ?_
      refine lx_move rfl rfl rfl ?_
      refine lx_len rfl (fun _ => len_slice Try.underlying41 _ _ _ _) rfl rfl ?_
      refine lx_bin (v := I ((bs.length : Int) - 1)) rfl rfl (fun _ => rfl) (fun _ => bin_sub_i _ _ _ (by unfold inI; omega)) rfl rfl ?_
      refine lx_move rfl rfl rfl ?_
      refine lx_bin (v := I ((bs.length - 1 - i : Nat) : Int)) rfl rfl (fun _ => rfl) (fun _ => (bin_sub_i _ _ _ (by unfold inI; omega)).trans (by rw [show ((bs.length : Int) - 1 - (i : Int)) = ((bs.length - 1 - i : Nat) : Int) by omega])) rfl rfl ?_
      refine lx_assign rfl rfl rfl ?_
      refine lx_nil ?_
      refine x_drawn (E := EE []) mixed (by kernel_rfl) (by kernel_rfl) (by kernel_rfl) ?_
      refine lx_move rfl rfl rfl ?_
      refine lx_bin (v := I (((bs.length - 1 - i) / 8 : Nat) : Int)) rfl rfl (fun _ => rfl) (fun _ => bin_quo_i _ _ _ (by decide) (show inI (((bs.length - 1 - i) / 8 : Nat) : Int) by unfold inI; omega)) rfl rfl ?_
      refine lx_ia0 (((bs.length - 1 - i) / 8)) rfl rfl Try.underlying27 Try.sizeOf22 (by omega) (by omega) rfl rfl ?_
      refine lx_loadm 4 U64 0 rfl rfl Try.isAgg22 (by rw [FRs_len]; omega) rfl rfl ?_
      refine lx_move rfl rfl rfl ?_
      refine lx_move rfl rfl rfl ?_
      obtain ⟨ad, rfl, _⟩ := hby i _ (gm U8 bs 0 i (by omega))
      refine lx_isA i rfl rfl Try.underlying41 Try.sizeOf5 rfl (by omega) rfl rfl ?_
      refine lx_load rfl Try.isAgg5 (fun w' h => by obtain ⟨ad', e, hc⟩ := (hby.grow (hp_below h)) i _ (gm U8 bs 0 i (by omega)); cases e; exact hc) rfl rfl ?_
      refine lx_conv rfl rfl (fun _ => conv_u8_u64 Try.underlying5 Try.underlying22 _) rfl rfl ?_
      refine lx_move rfl rfl rfl ?_
      refine lx_bin (v := I (((bs.length - 1 - i) % 8 : Nat) : Int)) rfl rfl (fun _ => rfl) (fun _ => bin_rem_i _ _ _ (by decide)) rfl rfl ?_
      refine lx_bin (v := I ((8 * ((bs.length - 1 - i) % 8) : Nat) : Int)) rfl rfl (fun _ => rfl) (fun _ => (bin_mul_i _ _ _ (by unfold inI; omega)).trans (by rw [show (8 : Int) * (((bs.length - 1 - i) % 8 : Nat) : Int) = ((8 * ((bs.length - 1 - i) % 8) : Nat) : Int) by omega])) rfl rfl ?_
      refine lx_bin (v := U64 ((bs.getD i 0).setWidth 64 <<< (8 * ((bs.length - 1 - i) % 8)))) rfl rfl (fun _ => rfl) (fun _ => bin_shl_i_u64 _ _ _ (by omega)) rfl rfl ?_
      refine lx_bin rfl rfl (fun _ => rfl) (fun _ => bin_or_u64 _ _ _) rfl rfl ?_
      refine lx_ia0 (((bs.length - 1 - i) / 8)) rfl rfl Try.underlying27 Try.sizeOf22 (by omega) (by omega) rfl rfl ?_
      refine lx_storem 4 U64 hGF rfl rfl rfl Try.sizeOf22 rfl (by rw [FRs_len]; omega) rfl ?_
      refine lx_nil ?_
      refine x_plain (E := EE []) ?_
      refine lx_move rfl rfl rfl ?_
      refine lx_bin rfl rfl (fun _ => rfl) (fun _ => bin_add_i _ _ _ (by unfold inI; omega)) rfl rfl ?_
      refine lx_assign rfl rfl rfl ?_
      refine lx_nil ?_
      repeat (refine kblk_n ?_)
      refine kseq_n ?_
      exact ⟨rfl, ⟨i + 1, by omega⟩, _, by show bs.length - (i + 1) < bs.length - i; omega, rfl, ⟨rfl, rfl, rfl, rfl, trivial⟩, ⟨rfl, rfl, trivial⟩⟩
    · obtain rfl : i = bs.length := by simp at hc; omega
      refine x_exit ?_
      refine xs_plain (E := EE []) ?_
      refine lx_loada 4 rfl rfl Try.isAgg27 Try.sizeOf27 (by rw [List.length_map, FRs_len]) rfl rfl ?_
      refine lx_storea 2 hGF rfl rfl rfl Try.sizeOf27 (by rw [List.length_map, FRs_len _ _]) (by rw [List.length_map, List.length_replicate]) (one_u64 _) rfl ?_
      refine lx_assign rfl rfl rfl ?_
      refine lx_nil ?_
      refine x_ret ?_
      repeat (first | refine kseq_ret ?_ | refine kblk_ret ?_)
      exact kret_ct 2 rfl rfl rfl rfl Try.isAgg27 Try.sizeOf27 (by rw [List.length_map, FRs_len]) (fun w hw => ⟨by rw [if_neg hA]; rfl, hp_below hw⟩)
theorem bytesOf_pure (a : List (BitVec 64)) (ha : a.length = 6) : Pure Try.prog Gt 22 [.agg ((a).map U64).toArray] (.agg ((BYs a 48).map U8).toArray) := by
  intro w hw
  have hGF : BOk Gt (pl w) := gt_low.plain hw
  refine calls_of_X (G := Gt) Try.func22 rfl rfl (Hp (pl w) []) (hp_refl (pl w) trivial rides_true) (good_hp hGF) ?_
  refine xs_plain (E := EE []) ?_
  refine lx_boxr 1 hGF rfl rfl rfl ?_
  intro b1
  refine lx_allocr 2 hGF zv46 rfl rfl ?_
  intro b2
  refine lx_nil ?_
  refine xs_plain (E := EE []) ?_
  refine lx_allocr 3 hGF zv46 rfl rfl ?_
  intro b3
  refine lx_nil ?_
  refine x_seq ?_
  refine xs_plain (E := EE []) ?_
  refine lx_move rfl rfl rfl ?_
  refine lx_nil ?_
  refine x_block ?_
  refine x_for (ι := { i : Nat // i ≤ 48 }) (fun x => [(1, .pointer (some ⟨b1, 0, none⟩)), (2, .pointer (some ⟨b2, 0, none⟩)), (3, .pointer (some ⟨b3, 0, none⟩)), (6, I (x.1 : Int))]) (fun x => [(1, b1, a.map U64, 23), (2, b2, (List.replicate 48 0#8).map U8, 46), (3, b3, (BYs a x.1).map U8, 46)]) (fun x => 48 - x.1) ⟨0, by omega⟩ hGF ⟨rfl, rfl, rfl, rfl, trivial⟩ ⟨rfl, rfl, rfl, trivial⟩ ?_
  rintro ⟨i, hi⟩
  dsimp only
  refine xs_plain (E := EE []) ?_
  refine lx_bin rfl rfl (fun _ => rfl) (fun _ => bin_lss_i _ _ _) rfl rfl ?_
  refine lx_nil ?_
  refine x_seq ?_
  refine x_if rfl (fun hc => ?_) (fun hc => ?_)
  · simp only [decide_eq_true_eq] at hc
    refine x_skip ?_
    refine x_seq ?_
    refine x_block ?_
    refine xs_plain (E := EE []) ?_
    refine lx_move rfl rfl rfl ?_
    refine lx_assign rfl rfl rfl ?_
    refine lx_nil ?_
    refine xs_plain (E := EE []) ?_
    refine lx_move rfl rfl rfl ?_
    refine lx_bin (v := I ((47 - i : Nat) : Int)) rfl rfl (fun _ => rfl) (fun _ => (bin_sub_i _ _ _ (by unfold inI; omega)).trans (by rw [show ((47 : Int) - (i : Int)) = ((47 - i : Nat) : Int) by omega])) rfl rfl ?_
    refine lx_assign rfl rfl rfl ?_
    refine lx_nil ?_
    refine x_plain (E := EE []) ?_
    refine lx_move rfl rfl rfl ?_
    refine lx_move rfl rfl rfl ?_
    refine lx_bin (v := I (((47 - i) / 8 : Nat) : Int)) rfl rfl (fun _ => rfl) (fun _ => bin_quo_i _ _ _ (by decide) (show inI (((47 - i) / 8 : Nat) : Int) by unfold inI; omega)) rfl rfl ?_
    refine lx_ia0 (((47 - i) / 8)) rfl rfl Try.underlying23 Try.sizeOf22 (by omega) (by omega) rfl rfl ?_
    refine lx_loadm 1 U64 0 rfl rfl Try.isAgg22 (by rw [ha]; omega) rfl rfl ?_
    refine lx_move rfl rfl rfl ?_
    refine lx_bin (v := I (((47 - i) % 8 : Nat) : Int)) rfl rfl (fun _ => rfl) (fun _ => bin_rem_i _ _ _ (by decide)) rfl rfl ?_
    refine lx_bin (v := I ((8 * ((47 - i) % 8) : Nat) : Int)) rfl rfl (fun _ => rfl) (fun _ => (bin_mul_i _ _ _ (by unfold inI; omega)).trans (by rw [show (8 : Int) * (((47 - i) % 8 : Nat) : Int) = ((8 * ((47 - i) % 8) : Nat) : Int) by omega])) rfl rfl ?_
    refine lx_bin (v := U64 (a.getD ((47 - i) / 8) 0 >>> (8 * ((47 - i) % 8)))) rfl rfl (fun _ => rfl) (fun _ => bin_shr_i_u64 _ _ _ (by omega)) rfl rfl ?_
    refine lx_conv rfl rfl (fun _ => conv_u64_u8 Try.underlying22 Try.underlying5 _) rfl rfl ?_
    refine lx_ia0 (i) rfl rfl Try.underlying46 Try.sizeOf5 (by omega) (by omega) rfl rfl ?_
    refine lx_storem 3 U8 hGF rfl rfl rfl Try.sizeOf5 rfl (by rw [BYs_len]; omega) rfl ?_
    refine lx_nil ?_
    refine x_plain (E := EE []) ?_
    refine lx_bin rfl rfl (fun _ => rfl) (fun _ => bin_add_i _ _ _ (by unfold inI; omega)) rfl rfl ?_
    refine lx_move rfl rfl rfl ?_
    refine lx_nil ?_
    repeat (refine kblk_n ?_)
    refine kseq_n ?_
    exact ⟨rfl, ⟨i + 1, by omega⟩, _, by show 48 - (i + 1) < 48 - i; omega, rfl, ⟨rfl, rfl, rfl, rfl, trivial⟩, ⟨rfl, rfl, rfl, trivial⟩⟩
  · obtain rfl : i = 48 := by simp at hc; omega
    refine x_exit ?_
    refine xs_plain (E := EE []) ?_
    refine lx_loada 3 rfl rfl Try.isAgg46 Try.sizeOf46 (by rw [List.length_map, BYs_len]) rfl rfl ?_
    refine lx_storea 2 hGF rfl rfl rfl Try.sizeOf46 (by rw [List.length_map, BYs_len _ _]) (by rw [List.length_map, List.length_replicate]) (one_u8 _) rfl ?_
    refine lx_nil ?_
    refine x_ret ?_
    repeat (first | refine kseq_ret ?_ | refine kblk_ret ?_)
    exact kret_own 2 rfl rfl rfl Try.isAgg46 Try.sizeOf46 (by rw [List.length_map, BYs_len]) (fun w hw => ⟨rfl, hp_below hw⟩)
theorem rbytesOf_pure (a : List (BitVec 64)) (ha : a.length = 6) : Pure Try.prog Gt 23 [.agg ((a).map U64).toArray] (.agg ((BYs a 48).map U8).toArray) := by
  intro w hw
  have hGF : BOk Gt (pl w) := gt_low.plain hw
  refine calls_of_X (G := Gt) Try.func23 rfl rfl (Hp (pl w) []) (hp_refl (pl w) trivial rides_true) (good_hp hGF) ?_
  refine xs_plain (E := EE []) ?_
  refine lx_boxr 1 hGF rfl rfl rfl ?_
  intro b1
  refine lx_allocr 2 hGF zv46 rfl rfl ?_
  intro b2
  refine lx_nil ?_
  refine xs_plain (E := EE []) ?_
  refine lx_allocr 3 hGF zv46 rfl rfl ?_
  intro b3
  refine lx_nil ?_
  refine x_seq ?_
  refine xs_plain (E := EE []) ?_
  refine lx_assign rfl rfl rfl ?_
  refine lx_nil ?_
  refine x_block ?_
  refine x_for (ι := { i : Nat // i ≤ 48 }) (fun x => [(1, .pointer (some ⟨b1, 0, none⟩)), (2, .pointer (some ⟨b2, 0, none⟩)), (3, .pointer (some ⟨b3, 0, none⟩)), (4, I (x.1 : Int))]) (fun x => [(1, b1, a.map U64, 27), (2, b2, (List.replicate 48 0#8).map U8, 46), (3, b3, (BYs a x.1).map U8, 46)]) (fun x => 48 - x.1) ⟨0, by omega⟩ hGF ⟨rfl, rfl, rfl, rfl, trivial⟩ ⟨rfl, rfl, rfl, trivial⟩ ?_
  rintro ⟨i, hi⟩
  dsimp only
  refine x_seq ?_
  refine xs_plain (E := EE []) ?_
  refine lx_move rfl rfl rfl ?_
  refine lx_bin rfl rfl (fun _ => rfl) (fun _ => bin_lss_i _ _ _) rfl rfl ?_
  refine lx_nil ?_
  refine x_if rfl (fun hc => ?_) (fun hc => ?_)
  · simp only [decide_eq_true_eq] at hc
    refine x_skip ?_
    refine x_seq ?_
    refine x_block ?_
    refine xs_plain (E := EE []) ?_
    refine lx_move rfl rfl rfl ?_
    refine lx_bin (v := I ((47 - i : Nat) : Int)) rfl rfl (fun _ => rfl) (fun _ => (bin_sub_i _ _ _ (by unfold inI; omega)).trans (by rw [show ((47 : Int) - (i : Int)) = ((47 - i : Nat) : Int) by omega])) rfl rfl ?_
    refine lx_assign rfl rfl rfl ?_
    refine lx_nil ?_
    refine x_plain (E := EE []) ?_
    refine lx_move rfl rfl rfl ?_
    refine lx_move rfl rfl rfl ?_
    refine lx_bin (v := I (((47 - i) / 8 : Nat) : Int)) rfl rfl (fun _ => rfl) (fun _ => bin_quo_i _ _ _ (by decide) (show inI (((47 - i) / 8 : Nat) : Int) by unfold inI; omega)) rfl rfl ?_
    refine lx_ia0 (((47 - i) / 8)) rfl rfl Try.underlying27 Try.sizeOf22 (by omega) (by omega) rfl rfl ?_
    refine lx_loadm 1 U64 0 rfl rfl Try.isAgg22 (by rw [ha]; omega) rfl rfl ?_
    refine lx_move rfl rfl rfl ?_
    refine lx_bin (v := I (((47 - i) % 8 : Nat) : Int)) rfl rfl (fun _ => rfl) (fun _ => bin_rem_i _ _ _ (by decide)) rfl rfl ?_
    refine lx_bin (v := I ((8 * ((47 - i) % 8) : Nat) : Int)) rfl rfl (fun _ => rfl) (fun _ => (bin_mul_i _ _ _ (by unfold inI; omega)).trans (by rw [show (8 : Int) * (((47 - i) % 8 : Nat) : Int) = ((8 * ((47 - i) % 8) : Nat) : Int) by omega])) rfl rfl ?_
    refine lx_bin (v := U64 (a.getD ((47 - i) / 8) 0 >>> (8 * ((47 - i) % 8)))) rfl rfl (fun _ => rfl) (fun _ => bin_shr_i_u64 _ _ _ (by omega)) rfl rfl ?_
    refine lx_conv rfl rfl (fun _ => conv_u64_u8 Try.underlying22 Try.underlying5 _) rfl rfl ?_
    refine lx_ia0 (i) rfl rfl Try.underlying46 Try.sizeOf5 (by omega) (by omega) rfl rfl ?_
    refine lx_storem 3 U8 hGF rfl rfl rfl Try.sizeOf5 rfl (by rw [BYs_len]; omega) rfl ?_
    refine lx_nil ?_
    refine x_plain (E := EE []) ?_
    refine lx_move rfl rfl rfl ?_
    refine lx_bin rfl rfl (fun _ => rfl) (fun _ => bin_add_i _ _ _ (by unfold inI; omega)) rfl rfl ?_
    refine lx_assign rfl rfl rfl ?_
    refine lx_nil ?_
    repeat (refine kblk_n ?_)
    refine kseq_n ?_
    exact ⟨rfl, ⟨i + 1, by omega⟩, _, by show 48 - (i + 1) < 48 - i; omega, rfl, ⟨rfl, rfl, rfl, rfl, trivial⟩, ⟨rfl, rfl, rfl, trivial⟩⟩
  · obtain rfl : i = 48 := by simp at hc; omega
    refine x_exit ?_
    refine xs_plain (E := EE []) ?_
    refine lx_loada 3 rfl rfl Try.isAgg46 Try.sizeOf46 (by rw [List.length_map, BYs_len]) rfl rfl ?_
    refine lx_storea 2 hGF rfl rfl rfl Try.sizeOf46 (by rw [List.length_map, BYs_len _ _]) (by rw [List.length_map, List.length_replicate]) (one_u8 _) rfl ?_
    refine lx_nil ?_
    refine x_ret ?_
    repeat (first | refine kseq_ret ?_ | refine kblk_ret ?_)
    exact kret_own 2 rfl rfl rfl Try.isAgg46 Try.sizeOf46 (by rw [List.length_map, BYs_len]) (fun w hw => ⟨rfl, hp_below hw⟩)
theorem bits_calls (a : List (BitVec 64)) (_ha : a.length = 6) (w : World) (hw : Gt w) : Calls Try.prog 28 [.agg ((a).map U64).toArray].toArray w (fun e w' => ∃ b1, e = .returned (.func (.func 36) #[] #[.pointer (some ⟨b1, 0, none⟩)]) ∧ Grow w w' ∧ w.heap.size ≤ b1 ∧ OwnB w' b1 (a.map U64) 23) := by
  have hGF : BOk Gt (pl w) := gt_low.plain hw
  refine calls_of_X (G := Gt) Try.func28 rfl rfl (Hp (pl w) []) (hp_refl (pl w) trivial rides_true) (good_hp hGF) ?_
  refine xs_plain (E := EE []) ?_
  refine lx_boxr 1 hGF rfl rfl rfl ?_
  intro b1
  refine lx_assign rfl rfl rfl ?_
  refine lx_nil ?_
  refine xs_plain (E := EE []) ?_
  refine lx_func rfl rfl rfl rfl ?_
  refine lx_assign rfl rfl rfl ?_
  refine lx_nil ?_
  refine x_ret ?_
  repeat (first | refine kseq_ret ?_ | refine kblk_ret ?_)
  exact kret_tmp rfl rfl (fun w hw => ⟨b1, rfl, hp_below hw, (hw.own 1 b1 _ _ rfl).2.elim id False.elim, (hw.own 1 b1 _ _ rfl).1⟩)
def BT (a : List (BitVec 64)) : List (List Value) := (ones a 384).map fun n : Nat => [I (n : Int)]
theorem BT_len (a : List (BitVec 64)) : (BT a).length = (ones a 384).length := by simp [BT]
theorem BT_at (a : List (BitVec 64)) (k : Nat) (hk : k < 384) (h : dig a (383 - k) = 1) : (BT a)[(ones a k).length]? = some [I ((383 - k : Nat) : Int)] := by
  rw [BT, List.getElem?_map, ones_at a k hk h]
  rfl
theorem ones_yes (a : List (BitVec 64)) (k : Nat) (h : dig a (383 - k) = 1) : (ones a (k + 1)).length = (ones a k).length + 1 := by rw [ones, if_pos h]; simp
theorem ones_no (a : List (BitVec 64)) (k : Nat) (h : ¬ dig a (383 - k) = 1) : (ones a (k + 1)).length = (ones a k).length := by rw [ones, if_neg h]
theorem bits_seq (bb : Nat) (a : List (BitVec 64)) (ha : a.length = 6) : SeqOk Try.prog Gt 36 [.pointer (some ⟨bb, 0, none⟩)] (BT a) (fun W => W.rangeAt bb 0 (a.map U64)) := by
  intro l J Jx hJ hJx hRd hGx hY w hj
  have okJ : ∀ k, BOk Gt (Bi w (fun Y => J Y k)) := fun k => ⟨fun _ _ _ h => (hRd _ _ _ h.rid).1, hJ k⟩
  have okX : ∀ k, BOk Gt (Bi w (fun Y => Jx Y k)) := fun k => ⟨fun _ _ _ h => hGx _ _ _ h.rid, hJx k⟩
  refine calls_of_XM (G := Gt) Try.func36 rfl rfl (Hp (Bi w (fun Y => J Y 0)) []) (hp_refl (Bi w _) hj (hJ 0)) (good_hp (okJ 0)) ?_
  refine xs_plain (E := EE [33]) ?_
  refine lx_box 2 (okJ _) rfl rfl rfl ?_
  intro b2
  refine lx_nil ?_
  refine xs_plain (E := EE [33]) ?_
  refine lx_slarr1 (l := 0) (h' := 6) rfl Try.underlying23 Try.sizeOf22 rfl rfl (by omega) (by omega) rfl rfl ?_
  refine lx_callE rfl rfl ent33 rfl rfl (fun w' hw' => (digits_calls _ rfl w' ((okJ _).g _ _ _ hw')).mono fun e w'' h => ?_)
  obtain ⟨c2, rfl, hgr, h2, hc2⟩ := h
  refine ⟨_, _, rfl, good_hp (okJ _), hw'.news (hJ _) hgr [(33, c2, [.slice (some ⟨bb, 0, none⟩) 6 6], 40)] ?_ inj_one, ?_⟩
  · intro n' b' c' t' hl
    rcases lkB_cons hl with ⟨_, e⟩ | ⟨_, hl⟩
    · cases e; exact ⟨h2, hc2⟩
    · cases hl
  clear hw' hgr h2 hc2
  refine lx_nil ?_
  refine x_block ?_
  refine x_range (fun k => (Bi w (fun Y => J Y (ones a k).length))) (fun _ k => Bi w (fun Y => Jx Y (ones a k).length)) (fun _ => okJ _) (fun _ _ => okX _) (fun _ => rfl) (fun _ _ => rfl) rfl rfl ent37 (digits_seq c2 bb a 6 (by decide) ha) (fun x hx => by obtain ⟨k, hk, rfl⟩ := List.mem_map.1 hx; rfl) rfl (fun _ => [(2, b2, [.func (.yield l) #[] #[]], 68), (33, c2, [.slice (some ⟨bb, 0, none⟩) 6 6], 40)]) (fun c _ _ => c = .ret) ⟨rfl, rfl, trivial⟩ (fun k Y w' h => ⟨hp_cell (n := 33) rfl rfl w' h, (hRd _ _ _ h.rid).2⟩) ?_ ?_ ?_
  · intro k x hx R hR
    obtain ⟨hk, rfl⟩ := DG_at a 6 k x hx
    rw [show 64 * 6 - 1 - k = 383 - k from rfl]
    refine xs_plain (E := EE [33]) ?_
    refine lx_assign rfl rfl rfl ?_
    refine lx_nil ?_
    refine x_plain (E := EE [33]) ?_
    refine lx_assign rfl rfl rfl ?_
    refine lx_nil ?_
    refine ⟨rfl, _, rfl, ?_⟩
    rcases Decidable.em (dig a (383 - k) = 1) with h1 | h1
    · skip
      refine x_block ?_
      refine xs_plain (E := EE [33]) ?_
      refine lx_move rfl rfl rfl ?_
      refine lx_bin (v := .bool true) rfl rfl (fun _ => rfl) (fun w => (bin_eql_u64 _ _ _).trans (congrArg (fun b => Result.ok (Value.bool b) w) (beq_iff_eq.2 h1))) rfl rfl ?_
      refine lx_move rfl rfl rfl ?_
      refine lx_loadl 2 rfl rfl rfl Try.isAgg68 rfl rfl ?_
      refine lx_move rfl rfl rfl ?_
      refine lx_yield ((hY.b (k := (ones a k).length) (BT_at a k (by omega) h1) w).br R.l R.D R.rb R.Y R.W) (hR (Bi w (fun Y => J Y ((ones a k).length + 1))) rfl (okJ _)).2.1 (hR (Bi w (fun Y => Jx Y ((ones a k).length + 1))) rfl (okX _)).2.1 rfl rfl rfl rfl rfl ?_ ?_
      · skip
        refine lx_un rfl (fun _ => un_not _) rfl rfl ?_
        refine lx_pick rfl rfl rfl rfl rfl ?_
        refine lx_nil ?_
        refine x_false rfl ?_
        refine x_skip ?_
        show ∃ L', _ = Hp (R.b (Bi w (fun Y => J Y (ones a (k + 1)).length))) L' ∧ SubB L' [(2, b2, [.func (.yield l) #[] #[]], 68), (33, c2, [.slice (some ⟨bb, 0, none⟩) 6 6], 40)]
        rw [ones_yes a k h1]
        exact ⟨_, rfl, ⟨rfl, rfl, trivial⟩⟩
      · skip
        refine lx_un rfl (fun _ => un_not _) rfl rfl ?_
        refine lx_pick rfl rfl rfl rfl rfl ?_
        refine lx_nil ?_
        refine x_true rfl ?_
        refine x_ret ?_
        repeat (first | refine kseq_ret ?_ | refine kblk_ret ?_)
        show ∃ L', _ = Hp (R.b (Bi w (fun Y => Jx Y (ones a (k + 1)).length))) L' ∧ Code.ret = Code.ret
        rw [ones_yes a k h1]
        exact ⟨_, rfl, rfl⟩
    · skip
      refine x_block ?_
      refine xs_plain (E := EE [33, 3000000]) ?_
      refine lx_move rfl rfl rfl ?_
      refine lx_bin (v := .bool false) rfl rfl (fun _ => rfl) (fun w => (bin_eql_u64 _ _ _).trans (congrArg (fun b => Result.ok (Value.bool b) w) (beq_eq_false_iff_ne.2 h1))) rfl rfl ?_
      refine lx_move rfl rfl rfl ?_
      refine lx_skip rfl rfl rfl ?_
      refine lx_skip rfl rfl rfl ?_
      refine lx_skip rfl rfl rfl ?_
      refine lx_skip rfl rfl rfl ?_
      refine lx_pick rfl rfl rfl rfl rfl ?_
      refine lx_nil ?_
      refine x_false rfl ?_
      refine x_skip ?_
      show ∃ L', _ = Hp (R.b (Bi w (fun Y => J Y (ones a (k + 1)).length))) L' ∧ SubB L' [(2, b2, [.func (.yield l) #[] #[]], 68), (33, c2, [.slice (some ⟨bb, 0, none⟩) 6 6], 40)]
      rw [ones_no a k h1]
      exact ⟨_, rfl, ⟨rfl, rfl, trivial⟩⟩
  · intro D _
    refine kretM_1 (.inr rfl) (hJ _) (kret_none rfl (fun w hw => ⟨⟨_, rfl⟩, .inl ?_⟩))
    have := drop_yof (hJ _) hw.rid
    rw [DG_len] at this
    rw [BT_len]
    exact this
  · intro D c j L' _ hc
    subst hc
    exact kretM_1 (.inl rfl) (hJx _) (kret_none rfl (fun w hw => ⟨⟨_, rfl⟩, .inr ⟨_, drop_yof (hJx _) hw.rid⟩⟩))
end Go.Proofs.Yteohckfbphdngaa
