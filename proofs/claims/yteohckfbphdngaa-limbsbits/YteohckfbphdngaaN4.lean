/-
  The walks of what is left by a modulus, bit by bit.
-/
import Derived.Test.YteohckfbphdngaaN3
namespace Go.Proofs.Yteohckfbphdngaa
open Go.RowKit
set_option maxRecDepth 100000
set_option maxHeartbeats 1000000

theorem mod_pure (t m : List (BitVec 64)) (ht : t.length = 12) (hm : m.length = 6) : Pure Try.prog Gt 17 [.agg ((t).map U64).toArray, .agg ((m).map U64).toArray] (.agg ((MOD t m).map U64).toArray) := by
  intro w hw
  have hGF : BOk Gt (pl w) := gt_low.plain hw
  refine calls_of_XM (G := Gt) Try.func17 rfl rfl (Hp (pl w) []) (hp_refl (pl w) trivial rides_true) (good_hp hGF) ?_
  refine xs_plain (E := EE [33]) ?_
  refine lx_boxr 2 hGF rfl rfl rfl ?_
  intro b2
  refine lx_boxr 3 hGF rfl rfl rfl ?_
  intro b3
  refine lx_allocr 4 hGF zv23 rfl rfl ?_
  intro b4
  refine lx_nil ?_
  refine xs_plain (E := EE [33]) ?_
  refine lx_allocr 5 hGF zv23 rfl rfl ?_
  intro b5
  refine lx_nil ?_
  refine x_seq ?_
  refine xs_plain (E := EE [33]) ?_
  refine lx_loada 3 rfl rfl Try.isAgg23 Try.sizeOf23 (by rw [List.length_map, hm]) rfl rfl ?_
  refine lx_loada 5 rfl rfl Try.isAgg23 Try.sizeOf23 (by rw [List.length_map, List.length_replicate]) rfl rfl ?_
  refine lx_bin rfl rfl (fun w => eqg _ _ _ _ _ w) (fun w => eq23 m (List.replicate 6 0) hm rfl w) rfl rfl ?_
  refine lx_nil ?_
  refine x_if rfl (fun hc => ?_) (fun hc => ?_)
  · simp only [decide_eq_true_eq] at hc
    refine xs_plain (E := EE [33]) ?_
    refine lx_loada 5 rfl rfl Try.isAgg23 Try.sizeOf23 (by rw [List.length_map, List.length_replicate]) rfl rfl ?_
    refine lx_storea 4 hGF rfl rfl rfl Try.sizeOf23 (by simp) (by rw [List.length_map, List.length_replicate]) (one_u64 _) rfl ?_
    refine lx_nil ?_
    refine x_ret ?_
    repeat (first | refine kseq_ret ?_ | refine kblk_ret ?_)
    exact kretM_0 (.inl rfl) (kret_own 4 rfl rfl rfl Try.isAgg23 Try.sizeOf23 (by rw [List.length_map, List.length_replicate]) (fun w hw => ⟨by rw [MOD, if_pos hc]; rfl, hp_below hw⟩))
  · simp only [decide_eq_false_iff_not] at hc
    refine x_skip ?_
    refine x_seq ?_
    refine xs_plain (E := EE [33]) ?_
    refine lx_slarr1 (l := 0) (h' := 12) rfl Try.underlying31 Try.sizeOf22 rfl rfl (by omega) (by omega) rfl rfl ?_
    refine lx_callE rfl rfl ent33 rfl rfl (fun w' hw' => (digits_calls _ rfl w' (hGF.g _ _ _ hw')).mono fun e w'' h => ?_)
    obtain ⟨c1, rfl, hg, h1, ho⟩ := h
    refine ⟨_, _, rfl, good_hp hGF, hw'.news rides_true hg [(33, c1, [.slice (some ⟨b2, 0, none⟩) 12 12], 40)] ?_ inj_one, ?_⟩
    · intro n' b' c' t' hl
      rcases lkB_cons hl with ⟨_, e⟩ | ⟨_, hl⟩
      · cases e; exact ⟨h1, ho⟩
      · cases hl
    clear hw' hg h1 ho
    refine lx_nil ?_
    refine x_block ?_
    refine x_range (fun _ => pl w) (fun _ _ => pl w) (fun _ => hGF) (fun _ _ => hGF) (fun _ => rfl) (fun _ _ => rfl) rfl rfl ent37 (digits_seq c1 b2 t 12 (by decide) ht) (fun x hx => by obtain ⟨k, hk, rfl⟩ := List.mem_map.1 hx; rfl) rfl (fun k => [(2, b2, t.map U64, 31), (3, b3, m.map U64, 23), (4, b4, (List.replicate 6 0#64).map U64, 23), (5, b5, (MDs t m k).map U64, 23), (33, c1, [.slice (some ⟨b2, 0, none⟩) 12 12], 40)]) (fun _ _ _ => False) ⟨rfl, rfl, rfl, rfl, rfl, trivial⟩ (fun k _ w' h => ⟨hp_cell (n := 33) rfl rfl w' h, hp_row (n := 2) rfl w' h⟩) ?_ ?_ (fun _ _ _ _ _ h => h.elim)
    · intro k x hx R hR
      obtain ⟨hk, rfl⟩ := DG_at t 12 k x hx
      rw [show 64 * 12 - 1 - k = 767 - k from rfl]
      refine x_plain (E := EE [33]) ?_
      refine lx_assign rfl rfl rfl ?_
      refine lx_nil ?_
      refine ⟨rfl, _, rfl, ?_⟩
      refine x_block ?_
      refine xs_plain (E := EE [33]) ?_
      refine lx_loada 5 rfl rfl Try.isAgg23 Try.sizeOf23 (by rw [List.length_map, MDs_len]) rfl rfl ?_
      refine lx_loada 5 rfl rfl Try.isAgg23 Try.sizeOf23 (by rw [List.length_map, MDs_len]) rfl rfl ?_
      refine lx_call rfl rfl ent10 (add_pure _ _ (MDs_len t m _) (MDs_len t m _)) rfl rfl ?_
      refine lx_move rfl rfl rfl ?_
      refine lx_ext rfl rfl rfl rfl ?_
      refine lx_ext rfl rfl rfl rfl ?_
      refine lx_allocr 8 (hR (pl w) rfl hGF).2.1 zv23 rfl rfl ?_
      intro b8
      refine lx_storea 8 (hR (pl w) rfl hGF).2.1 rfl rfl rfl Try.sizeOf23 (by rw [List.length_map, AS_len]) (by rw [List.length_map, List.length_replicate]) (one_u64 _) rfl ?_
      refine lx_assign rfl rfl rfl ?_
      refine lx_nil ?_
      refine xs_plain (E := EE [33]) ?_
      refine lx_ia0 (0) rfl rfl Try.underlying23 Try.sizeOf22 (by omega) (by omega) rfl rfl ?_
      refine lx_loadm 8 U64 0 rfl rfl Try.isAgg22 (by rw [AS_len]; omega) rfl rfl ?_
      refine lx_move rfl rfl rfl ?_
      refine lx_bin rfl rfl (fun _ => rfl) (fun _ => bin_or_u64 _ _ _) rfl rfl ?_
      refine lx_ia0 (0) rfl rfl Try.underlying23 Try.sizeOf22 (by omega) (by omega) rfl rfl ?_
      refine lx_storem 8 U64 (hR (pl w) rfl hGF).2.1 rfl rfl rfl Try.sizeOf22 rfl (by rw [AS_len]; omega) rfl ?_
      refine lx_nil ?_
      refine x_plain (E := EE [33]) ?_
      refine lx_loada 8 rfl rfl Try.isAgg23 Try.sizeOf23 (by rw [List.length_map, List.length_set, AS_len]) rfl rfl ?_
      refine lx_move rfl rfl rfl ?_
      refine lx_loada 3 rfl rfl Try.isAgg23 Try.sizeOf23 (by rw [List.length_map, hm]) rfl rfl ?_
      refine lx_call rfl rfl ent34 (red_pure _ _ _ (TW_len _ _) hm) rfl rfl ?_
      refine lx_storea 5 (hR (pl w) rfl hGF).2.1 rfl rfl rfl Try.sizeOf23 (by rw [List.length_map]; exact RED_len _ _ _ (TW_len _ _)) (by rw [List.length_map, MDs_len]) (one_u64 _) rfl ?_
      refine lx_nil ?_
      exact ⟨_, rfl, ⟨rfl, rfl, rfl, rfl, rfl, trivial⟩⟩
    · intro D hD
      rw [DG_len]
      refine xs_plain (E := EE [33]) ?_
      refine lx_loada 5 rfl rfl Try.isAgg23 Try.sizeOf23 (by rw [List.length_map, MDs_len]) rfl rfl ?_
      refine lx_storea 4 hD rfl rfl rfl Try.sizeOf23 (by rw [List.length_map, MDs_len _ _ _]) (by rw [List.length_map, List.length_replicate]) (one_u64 _) rfl ?_
      refine lx_nil ?_
      refine x_ret ?_
      repeat (first | refine kseq_ret ?_ | refine kblk_ret ?_)
      exact kretM_1 (.inl rfl) rides_true (kret_own 4 rfl rfl rfl Try.isAgg23 Try.sizeOf23 (by rw [List.length_map, MDs_len]) (fun w hw => ⟨by rw [MOD, if_neg hc], hp_below hw⟩))
theorem rmod_pure (t m : List (BitVec 64)) (ht : t.length = 12) (hm : m.length = 6) : Pure Try.prog Gt 18 [.agg ((t).map U64).toArray, .agg ((m).map U64).toArray] (.agg ((MOD t m).map U64).toArray) := by
  intro w hw
  have hGF : BOk Gt (pl w) := gt_low.plain hw
  refine calls_of_X (G := Gt) Try.func18 rfl rfl (Hp (pl w) []) (hp_refl (pl w) trivial rides_true) (good_hp hGF) ?_
  refine xs_plain (E := EE []) ?_
  refine lx_boxr 2 hGF rfl rfl rfl ?_
  intro b2
  refine lx_boxr 3 hGF rfl rfl rfl ?_
  intro b3
  refine lx_allocr 4 hGF zv27 rfl rfl ?_
  intro b4
  refine lx_nil ?_
  refine xs_plain (E := EE []) ?_
  refine lx_allocr 5 hGF zv27 rfl rfl ?_
  intro b5
  refine lx_nil ?_
  refine x_seq ?_
  refine xs_plain (E := EE []) ?_
  refine lx_loada 3 rfl rfl Try.isAgg27 Try.sizeOf27 (by rw [List.length_map, hm]) rfl rfl ?_
  refine lx_buildz zv27 Try.underlying27 Try.sizeOf22 rfl rfl ?_
  refine lx_bin rfl rfl (fun w => eqg27 _ _ _ _ _ w) (fun w => eq27 m (List.replicate 6 0) hm rfl w) rfl rfl ?_
  refine lx_nil ?_
  refine x_if rfl (fun hc => ?_) (fun hc => ?_)
  · simp only [decide_eq_true_eq] at hc
    have hz := hc
    refine xs_plain (E := EE []) ?_
    refine lx_loada 5 rfl rfl Try.isAgg27 Try.sizeOf27 (by rw [List.length_map, List.length_replicate]) rfl rfl ?_
    refine lx_storea 4 hGF rfl rfl rfl Try.sizeOf27 (by rw [List.length_map, List.length_replicate]) (by rw [List.length_map, List.length_replicate]) (one_u64 _) rfl ?_
    refine lx_nil ?_
    refine x_ret ?_
    repeat (first | refine kseq_ret ?_ | refine kblk_ret ?_)
    exact kret_own 4 rfl rfl rfl Try.isAgg27 Try.sizeOf27 (by rw [List.length_map, List.length_replicate]) (fun w hw => ⟨by rw [MOD, if_pos hz]; rfl, hp_below hw⟩)
  · simp only [decide_eq_false_iff_not] at hc
    have hz := hc
    refine x_skip ?_
    refine x_seq ?_
    refine xs_plain (E := EE []) ?_
    refine lx_assign rfl rfl rfl ?_
    refine lx_nil ?_
    refine x_block ?_
    refine x_for (ι := { i : Nat // i ≤ 768 }) (fun x => [(2, .pointer (some ⟨b2, 0, none⟩)), (3, .pointer (some ⟨b3, 0, none⟩)), (4, .pointer (some ⟨b4, 0, none⟩)), (5, .pointer (some ⟨b5, 0, none⟩)), (6, I (((768 - x.1 : Nat) : Int) - 1))]) (fun x => [(2, b2, t.map U64, 31), (3, b3, m.map U64, 27), (4, b4, (List.replicate 6 0#64).map U64, 27), (5, b5, (MDs t m x.1).map U64, 27)]) (fun x => 768 - x.1) ⟨0, by omega⟩ hGF ⟨rfl, rfl, rfl, rfl, rfl, trivial⟩ ⟨rfl, rfl, rfl, rfl, trivial⟩ ?_
    rintro ⟨j, hj⟩
    dsimp only
    refine x_seq ?_
    refine xs_plain (E := EE []) ?_
    refine lx_move rfl rfl rfl ?_
    refine lx_bin rfl rfl (fun _ => rfl) (fun _ => bin_geq_i _ _ _) rfl rfl ?_
    refine lx_nil ?_
    refine x_if rfl (fun hc => ?_) (fun hc => ?_)
    · simp only [decide_eq_true_eq] at hc
      rw [show ((768 - j : Nat) : Int) - 1 = ((767 - j : Nat) : Int) by omega]
      refine x_skip ?_
      refine x_seq ?_
      refine x_block ?_
      refine xs_plain (E := EE []) ?_
      refine lx_ia0 (5) rfl rfl Try.underlying27 Try.sizeOf22 (by omega) (by omega) rfl rfl ?_
      refine lx_loadm 5 U64 0 rfl rfl Try.isAgg22 (by rw [MDs_len]; omega) rfl rfl ?_
      refine lx_bin rfl rfl (fun _ => rfl) (fun _ => bin_shr_u64 _ _ _) rfl rfl ?_
      refine lx_assign rfl rfl rfl ?_
      refine lx_nil ?_
      refine x_seq ?_
      refine xs_plain (E := EE []) ?_
      refine lx_assign rfl rfl rfl ?_
      refine lx_nil ?_
      refine x_block ?_
      refine x_for (ι := { i : Nat // i ≤ 5 }) (fun x => [(2, .pointer (some ⟨b2, 0, none⟩)), (3, .pointer (some ⟨b3, 0, none⟩)), (4, .pointer (some ⟨b4, 0, none⟩)), (5, .pointer (some ⟨b5, 0, none⟩)), (6, I ((767 - j : Nat) : Int)), (7, U64 ((MDs t m j).getD 5 0 >>> 63)), (8, I ((5 - x.1 : Nat) : Int))]) (fun x => [(2, b2, t.map U64, 31), (3, b3, m.map U64, 27), (4, b4, (List.replicate 6 0#64).map U64, 27), (5, b5, (SHs (MDs t m j) x.1).map U64, 27)]) (fun x => 5 - x.1) ⟨0, by omega⟩ hGF ⟨rfl, rfl, rfl, rfl, rfl, rfl, rfl, trivial⟩ ⟨rfl, rfl, rfl, rfl, trivial⟩ ?_
      rintro ⟨s, hs⟩
      dsimp only
      refine x_seq ?_
      refine xs_plain (E := EE []) ?_
      refine lx_move rfl rfl rfl ?_
      refine lx_bin rfl rfl (fun _ => rfl) (fun _ => bin_gtr_i _ _ _) rfl rfl ?_
      refine lx_nil ?_
      refine x_if rfl (fun hc => ?_) (fun hc => ?_)
      · simp only [decide_eq_true_eq] at hc
        refine x_skip ?_
        refine x_seq ?_
        refine x_block ?_
        refine x_drawn (E := EE []) mixed (by kernel_rfl) (by kernel_rfl) (by kernel_rfl) ?_
        refine lx_move rfl rfl rfl ?_
        refine lx_move rfl rfl rfl ?_
        refine lx_ia0 ((5 - s)) rfl rfl Try.underlying27 Try.sizeOf22 (by omega) (by omega) rfl rfl ?_
        refine lx_loadm 5 U64 0 rfl rfl Try.isAgg22 (by rw [SHs_len _ (MDs_len t m j)]; omega) rfl rfl ?_
        refine lx_bin rfl rfl (fun _ => rfl) (fun _ => bin_shl_u64 _ _ _) rfl rfl ?_
        refine lx_move rfl rfl rfl ?_
        refine lx_bin (v := I ((4 - s : Nat) : Int)) rfl rfl (fun _ => rfl) (fun _ => (bin_sub_i _ _ _ (by unfold inI; omega)).trans (by rw [show (((5 - s : Nat) : Int) - 1) = ((4 - s : Nat) : Int) by omega])) rfl rfl ?_
        refine lx_ia0 ((4 - s)) rfl rfl Try.underlying27 Try.sizeOf22 (by omega) (by omega) rfl rfl ?_
        refine lx_loadm 5 U64 0 rfl rfl Try.isAgg22 (by rw [SHs_len _ (MDs_len t m j)]; omega) rfl rfl ?_
        refine lx_bin rfl rfl (fun _ => rfl) (fun _ => bin_shr_u64 _ _ _) rfl rfl ?_
        refine lx_bin rfl rfl (fun _ => rfl) (fun _ => bin_or_u64 _ _ _) rfl rfl ?_
        refine lx_ia0 ((5 - s)) rfl rfl Try.underlying27 Try.sizeOf22 (by omega) (by omega) rfl rfl ?_
        refine lx_storem 5 U64 hGF rfl rfl rfl Try.sizeOf22 rfl (by rw [SHs_len _ (MDs_len t m j)]; omega) rfl ?_
        refine lx_nil ?_
        refine x_plain (E := EE []) ?_
        refine lx_move rfl rfl rfl ?_
        refine lx_bin (v := I ((5 - (s + 1) : Nat) : Int)) rfl rfl (fun _ => rfl) (fun _ => (bin_sub_i _ _ _ (by unfold inI; omega)).trans (by rw [show (((5 - s : Nat) : Int) - 1) = ((5 - (s + 1) : Nat) : Int) by omega])) rfl rfl ?_
        refine lx_assign rfl rfl rfl ?_
        refine lx_nil ?_
        repeat (refine kblk_n ?_)
        refine kseq_n ?_
        exact ⟨rfl, ⟨s + 1, by omega⟩, _, by show 5 - (s + 1) < 5 - s; omega, rfl, ⟨rfl, rfl, rfl, rfl, rfl, rfl, rfl, trivial⟩, ⟨rfl, rfl, rfl, rfl, trivial⟩⟩
      · simp only [decide_eq_false_iff_not] at hc
        obtain rfl : s = 5 := by omega
        refine x_exit ?_
        refine xs_drawn (E := EE []) mixed (by kernel_rfl) (by kernel_rfl) (by kernel_rfl) ?_
        refine lx_ia0 (0) rfl rfl Try.underlying27 Try.sizeOf22 (by omega) (by omega) rfl rfl ?_
        refine lx_loadm 5 U64 0 rfl rfl Try.isAgg22 (by rw [SHs_len _ (MDs_len t m j)]; omega) rfl rfl ?_
        refine lx_bin rfl rfl (fun _ => rfl) (fun _ => bin_shl_u64 _ _ _) rfl rfl ?_
        refine lx_move rfl rfl rfl ?_
        refine lx_bin (v := I (((767 - j) / 64 : Nat) : Int)) rfl rfl (fun _ => rfl) (fun _ => bin_quo_i _ _ _ (by decide) (show inI (((767 - j) / 64 : Nat) : Int) by unfold inI; omega)) rfl rfl ?_
        refine lx_ia0 (((767 - j) / 64)) rfl rfl Try.underlying31 Try.sizeOf22 (by omega) (by omega) rfl rfl ?_
        refine lx_loadm 2 U64 0 rfl rfl Try.isAgg22 (by rw [ht]; omega) rfl rfl ?_
        refine lx_move rfl rfl rfl ?_
        refine lx_bin (v := I (((767 - j) % 64 : Nat) : Int)) rfl rfl (fun _ => rfl) (fun _ => bin_rem_i _ _ _ (by decide)) rfl rfl ?_
        refine lx_bin (v := U64 (t.getD ((767 - j) / 64) 0 >>> ((767 - j) % 64))) rfl rfl (fun _ => rfl) (fun _ => bin_shr_i_u64 _ _ _ (by omega)) rfl rfl ?_
        refine lx_bin (v := U64 (dig t (767 - j))) rfl rfl (fun _ => rfl) (fun _ => bin_and_u64 _ _ _) rfl rfl ?_
        refine lx_bin rfl rfl (fun _ => rfl) (fun _ => bin_or_u64 _ _ _) rfl rfl ?_
        refine lx_ia0 (0) rfl rfl Try.underlying27 Try.sizeOf22 (by omega) (by omega) rfl rfl ?_
        refine lx_storem 5 U64 hGF rfl rfl rfl Try.sizeOf22 rfl (by rw [SHs_len _ (MDs_len t m j)]; omega) rfl ?_
        refine lx_nil ?_
        refine xs_plain (E := EE []) ?_
        refine lx_loada 5 rfl rfl Try.isAgg27 Try.sizeOf27 (by rw [List.length_map, List.length_set, SHs_len _ (MDs_len t m j)]) rfl rfl ?_
        refine lx_loada 3 rfl rfl Try.isAgg27 Try.sizeOf27 (by rw [List.length_map, hm]) rfl rfl ?_
        refine lx_call rfl rfl ent13 (rsub_pure _ _ (RN_len _ _ (MDs_len t m j)) hm) rfl rfl ?_
        refine lx_move rfl rfl rfl ?_
        refine lx_ext rfl rfl rfl rfl ?_
        refine lx_ext rfl rfl rfl rfl ?_
        refine lx_allocr 9 hGF zv27 rfl rfl ?_
        intro b9
        refine lx_storea 9 hGF rfl rfl rfl Try.sizeOf27 (by rw [List.length_map, SS_len _ _ _]) (by rw [List.length_map, List.length_replicate]) (one_u64 _) rfl ?_
        refine lx_assign rfl rfl rfl ?_
        refine lx_nil ?_
        refine xs_plain (E := EE []) ?_
        refine lx_move rfl rfl rfl ?_
        rcases Decidable.em ((MDs t m j).getD 5 0 >>> 63 = 1) with ht1 | ht1
        · skip
          refine lx_bin (v := .bool true) rfl rfl (fun _ => rfl) (fun w => (bin_eql_u64 _ _ _).trans (congrArg (fun b => Result.ok (Value.bool b) w) (beq_iff_eq.2 ht1))) rfl rfl ?_
          refine lx_move rfl rfl rfl ?_
          refine lx_skip rfl rfl rfl ?_
          refine lx_skip rfl rfl rfl ?_
          refine lx_pick rfl rfl rfl rfl rfl ?_
          refine lx_nil ?_
          refine x_true rfl ?_
          refine x_plain (E := EE []) ?_
          refine lx_loada 9 rfl rfl Try.isAgg27 Try.sizeOf27 (by rw [List.length_map, SS_len _ _ _]) rfl rfl ?_
          refine lx_storea 5 hGF rfl rfl rfl Try.sizeOf27 (by rw [List.length_map, SS_len _ _ _]) (by rw [List.length_map, List.length_set, SHs_len _ (MDs_len t m j)]) (one_u64 _) rfl ?_
          refine lx_nil ?_
          refine x_plain (E := EE []) ?_
          refine lx_move rfl rfl rfl ?_
          refine lx_bin (v := I (((768 - (j + 1) : Nat) : Int) - 1)) rfl rfl (fun _ => rfl) (fun _ => (bin_sub_i _ _ _ (by unfold inI; omega)).trans (by rw [show (((767 - j : Nat) : Int) - 1) = ((768 - (j + 1) : Nat) : Int) - 1 by omega])) rfl rfl ?_
          refine lx_assign rfl rfl rfl ?_
          refine lx_nil ?_
          repeat (refine kblk_n ?_)
          refine kseq_n ?_
          exact ⟨rfl, ⟨j + 1, by omega⟩, _, by show 768 - (j + 1) < 768 - j; omega, rfl, ⟨rfl, rfl, rfl, rfl, rfl, trivial⟩, ⟨rfl, rfl, rfl, by rw [MDs_take t m j (.inl ht1)]; rfl, trivial⟩⟩
        · skip
          refine lx_bin (v := .bool false) rfl rfl (fun _ => rfl) (fun w => (bin_eql_u64 _ _ _).trans (congrArg (fun b => Result.ok (Value.bool b) w) (beq_eq_false_iff_ne.2 ht1))) rfl rfl ?_
          rcases Decidable.em ((SS (RN (MDs t m j) (dig t (767 - j))) m 6).2 = 0) with ht2 | ht2
          · skip
            refine lx_move rfl rfl rfl ?_
            refine lx_move rfl rfl rfl ?_
            refine lx_bin (v := .bool true) rfl rfl (fun _ => rfl) (fun w => (bin_eql_u64 _ _ _).trans (congrArg (fun b => Result.ok (Value.bool b) w) (beq_iff_eq.2 ht2))) rfl rfl ?_
            refine lx_pick rfl rfl rfl rfl rfl ?_
            refine lx_nil ?_
            refine x_true rfl ?_
            refine x_plain (E := EE []) ?_
            refine lx_loada 9 rfl rfl Try.isAgg27 Try.sizeOf27 (by rw [List.length_map, SS_len _ _ _]) rfl rfl ?_
            refine lx_storea 5 hGF rfl rfl rfl Try.sizeOf27 (by rw [List.length_map, SS_len _ _ _]) (by rw [List.length_map, List.length_set, SHs_len _ (MDs_len t m j)]) (one_u64 _) rfl ?_
            refine lx_nil ?_
            refine x_plain (E := EE []) ?_
            refine lx_move rfl rfl rfl ?_
            refine lx_bin (v := I (((768 - (j + 1) : Nat) : Int) - 1)) rfl rfl (fun _ => rfl) (fun _ => (bin_sub_i _ _ _ (by unfold inI; omega)).trans (by rw [show (((767 - j : Nat) : Int) - 1) = ((768 - (j + 1) : Nat) : Int) - 1 by omega])) rfl rfl ?_
            refine lx_assign rfl rfl rfl ?_
            refine lx_nil ?_
            repeat (refine kblk_n ?_)
            refine kseq_n ?_
            exact ⟨rfl, ⟨j + 1, by omega⟩, _, by show 768 - (j + 1) < 768 - j; omega, rfl, ⟨rfl, rfl, rfl, rfl, rfl, trivial⟩, ⟨rfl, rfl, rfl, by rw [MDs_take t m j (.inr ht2)]; rfl, trivial⟩⟩
          · skip
            refine lx_move rfl rfl rfl ?_
            refine lx_move rfl rfl rfl ?_
            refine lx_bin (v := .bool false) rfl rfl (fun _ => rfl) (fun w => (bin_eql_u64 _ _ _).trans (congrArg (fun b => Result.ok (Value.bool b) w) (beq_eq_false_iff_ne.2 ht2))) rfl rfl ?_
            refine lx_pick rfl rfl rfl rfl rfl ?_
            refine lx_nil ?_
            refine x_false rfl ?_
            refine x_skip ?_
            refine x_plain (E := EE []) ?_
            refine lx_move rfl rfl rfl ?_
            refine lx_bin (v := I (((768 - (j + 1) : Nat) : Int) - 1)) rfl rfl (fun _ => rfl) (fun _ => (bin_sub_i _ _ _ (by unfold inI; omega)).trans (by rw [show (((767 - j : Nat) : Int) - 1) = ((768 - (j + 1) : Nat) : Int) - 1 by omega])) rfl rfl ?_
            refine lx_assign rfl rfl rfl ?_
            refine lx_nil ?_
            repeat (refine kblk_n ?_)
            refine kseq_n ?_
            exact ⟨rfl, ⟨j + 1, by omega⟩, _, by show 768 - (j + 1) < 768 - j; omega, rfl, ⟨rfl, rfl, rfl, rfl, rfl, trivial⟩, ⟨rfl, rfl, rfl, by rw [MDs_leave t m j ht1 ht2]; rfl, trivial⟩⟩
    · simp only [decide_eq_false_iff_not] at hc
      obtain rfl : j = 768 := by omega
      refine x_exit ?_
      refine xs_plain (E := EE []) ?_
      refine lx_loada 5 rfl rfl Try.isAgg27 Try.sizeOf27 (by rw [List.length_map, MDs_len]) rfl rfl ?_
      refine lx_storea 4 hGF rfl rfl rfl Try.sizeOf27 (by rw [List.length_map, MDs_len _ _ _]) (by rw [List.length_map, List.length_replicate]) (one_u64 _) rfl ?_
      refine lx_nil ?_
      refine x_ret ?_
      repeat (first | refine kseq_ret ?_ | refine kblk_ret ?_)
      exact kret_own 4 rfl rfl rfl Try.isAgg27 Try.sizeOf27 (by rw [List.length_map, MDs_len]) (fun w hw => ⟨by rw [MOD, if_neg hz], hp_below hw⟩)
end Go.Proofs.Yteohckfbphdngaa
