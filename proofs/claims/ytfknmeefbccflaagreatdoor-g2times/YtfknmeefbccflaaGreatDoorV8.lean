/-
  The law G2Times.
-/
import Derived.Test.YtfknmeefbccflaaGreatDoorV7
namespace Go.Proofs.YtfknmeefbccflaaGreatDoor
open Go.RowKit
set_option maxRecDepth 100000
set_option maxHeartbeats 1000000
attribute [local simp] fe_len nm_len AS_len SS_len MONT_len RM_len FRs_len BYs_len by48_len PLl TWOl ONEl N1l IVPl HFPl RTPl FL_len SP_len fe2_len SP2_len FM_len GL_len

theorem t_zeros (p : GP) (bs : List (BitVec 8)) : (gMul p ([0#8, 0#8] ++ bs)).P = (gMul p bs).P := by
  show E2w.times p.P (BN ([0#8, 0#8] ++ bs) ([0#8, 0#8] ++ bs).length) = E2w.times p.P (BN bs bs.length)
  rw [BN_zeros]
theorem t_dbl (p : GP) (bs : List (BitVec 8)) : (gMul (gDbl p) bs).P = (gDbl (gMul p bs)).P := E2w.times_ad p.on p.on _
theorem t_neg (p : GP) (bs : List (BitVec 8)) : (gMul (gNeg p) bs).P = (gNeg (gMul p bs)).P := E2w.times_ne p.on _
theorem t_two (p : GP) (bs cs : List (BitVec 8)) : (gMul (gMul p bs) cs).P = (gMul (gMul p cs) bs).P := E2w.times_comm p.on _ _
theorem t_none (p : GP) : (gMul p []).P = none := rfl
theorem times8 (e0 : Option Addr) (cap0 : Nat) (bs0 : List (BitVec 8)) (_ : bs0.length ≤ cap0) (e1 : Option Addr) (cap1 : Nat) (bs1 : List (BitVec 8)) (_ : bs1.length ≤ cap1) (e2 : Option Addr) (cap2 : Nat) (bs2 : List (BitVec 8)) (hcap2 : bs2.length ≤ cap2) (n3 : Int) (w : World) (hw : Gt w) (hb0 : BytesAt w e0 bs0) (hb1 : BytesAt w e1 bs1) (hb2 : BytesAt w e2 bs2) :
    Calls Tryz.prog 7 [.slice e0 bs0.length cap0, .slice e1 bs1.length cap1, .slice e2 bs2.length cap2, I n3].toArray w (fun r w' => r = .returned (.bool true) ∧ Grow w w') := by
  have hGF : BOk Gt (pl w) := gt_low.plain hw
  by_cases hL : ∀ v ∈ [(e2, bs2.length, cap2)], v.2.1 ≤ 100
  · skip
    have hl2 : bs2.length ≤ 100 := hL (e2, bs2.length, cap2) (by simp)
    by_cases g0 : bs0.length ≤ 24
    · skip
      by_cases g1 : bs1.length ≤ 8
      · skip
        obtain ⟨p, hp⟩ := point_ex bs1 bs2 n3 (by omega) (by omega)
        by_cases hz : bs0 = []
        · subst hz
          refine calls_of_X (G := Gt) Tryz.func7 rfl rfl (Hp (pl w) []) (hp_refl (pl w) trivial rides_true) (good_hp hGF) ?_
          refine xs_plain (E := EE []) ?_
          refine lx_assign rfl rfl rfl ?_
          refine lx_nil ?_
          refine x_seq ?_
          refine xs_plain (E := EE []) ?_
          refine lx_callB true rfl rfl ent10 (known8) (rfl) rfl rfl ?_
          refine lx_un rfl (fun _ => un_not _) rfl rfl ?_
          refine lx_nil ?_
          refine x_false rfl ?_
          refine x_skip ?_
          refine x_seq ?_
          refine xs_plain (E := EE []) ?_
          refine lx_move rfl rfl rfl ?_
          refine lx_bslV 940 (SVl [(e2, bs2.length, cap2)]) hGF rfl rfl rfl (by decide) (by decide) Tryz.underlying82 Tryz.sizeOf22 Tryz.zeroValue22 rfl rfl rfl ?_
          intro b940
          refine lx_callC rfl rfl ent11 (fun w' hC hG => light_t b940 1 [(e2, bs2.length, cap2)] rfl (by decide) hL w' hG (hp_row (n := 940) rfl w' hC)) rfl rfl ?_
          refine lx_un rfl (fun _ => un_not _) rfl rfl ?_
          refine lx_move rfl rfl rfl ?_
          refine lx_move rfl rfl rfl ?_
          refine lx_len rfl (fun _ => len_slice Tryz.underlying22 _ _ _ _) rfl rfl ?_
          refine lx_binB false rfl rfl (fun _ => rfl) (fun _ => bin_gtr_i _ _ _) (decide_eq_false (by omega)) rfl rfl ?_
          refine lx_pick rfl rfl rfl rfl rfl ?_
          refine lx_move rfl rfl rfl ?_
          refine lx_move rfl rfl rfl ?_
          refine lx_len rfl (fun _ => len_slice Tryz.underlying22 _ _ _ _) rfl rfl ?_
          refine lx_binB false rfl rfl (fun _ => rfl) (fun _ => bin_gtr_i _ _ _) (decide_eq_false (by omega)) rfl rfl ?_
          refine lx_pick rfl rfl rfl rfl rfl ?_
          refine lx_nil ?_
          refine x_false rfl ?_
          refine x_skip ?_
          refine xs_plain (E := EE []) ?_
          refine lx_move rfl rfl rfl ?_
          refine lx_move rfl rfl rfl ?_
          refine lx_move rfl rfl rfl ?_
          refine lx_callC rfl rfl ent25 (fun w' hC hG => hp e1 cap1 e2 cap2 hcap2 w' hG (hb1.grow (hp_below hC)) (hb2.grow (hp_below hC))) rfl rfl ?_
          refine lx_allocr 9 hGF zv33 rfl rfl ?_
          intro b9
          refine lx_storea 9 hGF rfl rfl rfl Tryz.sizeOf33 (by simp) (by simp) (one_u64 _) rfl ?_
          refine lx_nil ?_
          refine x_seq ?_
          refine xs_tree (EE [2999997, 2999998]) mixed (by kernel_rfl) (by kernel_rfl) ?_
          refine tr_pre (m := 0) [0, 1, 2, 3, 4, 5, 6, 7, 8, 9, 10, 11, 12, 13, 14, 15, 16, 18, 21, 22, 17, 19, 20, 23, 24, 25, 26] (by kernel_rfl) ?_
          refine lx_loada 9 rfl rfl Tryz.isAgg33 Tryz.sizeOf33 (by simp) rfl rfl ?_
          refine lx_move rfl rfl rfl ?_
          refine lx_callC rfl rfl ent36 (fun w' hC hG => mul_c _ e0 cap0 [] (by decide) w' hG (hb0.grow (hp_below hC))) rfl rfl ?_
          refine lx_loada 9 rfl rfl Tryz.isAgg33 Tryz.sizeOf33 (by simp) rfl rfl ?_
          refine lx_call rfl rfl ent28 (refs8 _) rfl rfl ?_
          refine lx_move rfl rfl rfl ?_
          refine lx_callC rfl rfl ent37 (fun w' hC hG => r9mul_calls _ e0 cap0 [] (by decide) w' hG (hb0.grow (hp_below hC))) rfl rfl ?_
          refine lx_callB true rfl rfl ent22 (same8 (gMul p []) _ (hk_mul p.on [] _)) (rfl) rfl rfl ?_
          refine lx_un rfl (fun _ => un_not _) rfl rfl ?_
          refine lx_move rfl rfl rfl ?_
          refine lx_loada 9 rfl rfl Tryz.isAgg33 Tryz.sizeOf33 (by simp) rfl rfl ?_
          refine lx_callC rfl rfl ent36 (fun w' hC hG => mul_c _ none 0 [] (by decide) w' hG (bytes_nil _ _)) rfl rfl ?_
          refine lx_callB true rfl rfl ent16 (isInf_p _) (decide_eq_true (t_none _)) rfl rfl ?_
          refine lx_un rfl (fun _ => un_not _) rfl rfl ?_
          refine lx_pick rfl rfl rfl rfl rfl ?_
          refine lx_move rfl rfl rfl ?_
          refine lx_loada 9 rfl rfl Tryz.isAgg33 Tryz.sizeOf33 (by simp) rfl rfl ?_
          refine lx_move rfl rfl rfl ?_
          refine lx_loada 9 rfl rfl Tryz.isAgg33 Tryz.sizeOf33 (by simp) rfl rfl ?_
          refine lx_move rfl rfl rfl ?_
          refine lx_bslG 47 [0#8, 0#8] hGF rfl rfl rfl rfl (by decide) (by decide) Tryz.underlying22 Tryz.sizeOf5 Tryz.zeroValue5 rfl rfl ?_
          intro b47
          refine lx_append0G hGF rfl rfl Tryz.underlying22 Tryz.underlying22 ti5x (by decide) rfl rfl ?_
          refine lx_callC rfl rfl ent36 (fun w' hC hG => mul_len _ _ _ ([0#8, 0#8] ++ []) 2 rfl (by decide) w' hG (BytesAt.range (hp_row (n := 47) rfl w' hC))) rfl rfl ?_
          refine lx_callC rfl rfl ent36 (fun w' hC hG => mul_c _ e0 cap0 [] (by decide) w' hG (hb0.grow (hp_below hC))) rfl rfl ?_
          refine lx_callB true rfl rfl ent23 (equal_p _ _) (decide_eq_true (t_zeros _ [])) rfl rfl ?_
          refine lx_un rfl (fun _ => un_not _) rfl rfl ?_
          refine lx_pick rfl rfl rfl rfl rfl ?_
          refine lx_nil ?_
          refine tr_nil (by kernel_rfl) ?_
          refine kseq_n ?_
          refine x_false rfl ?_
          refine x_skip ?_
          refine xs_drawnT (E := EE []) [(58, [9], []), (59, [57], [0]), (60, [0], []), (61, [58, 59], [1, 2, 1]), (62, [9], []), (63, [0], []), (64, [61, 62], [4, 5, 3]), (65, [63], [6, 6]), (66, [60, 64], [3, 7, 7]), (67, [65], [8, 8]), (68, [9, 66], [9]), (69, [67, 66], [10, 9, 9]), (70, [0, 66], [9]), (71, [68, 69, 66], [11, 12, 11, 9]), (72, [9, 66], [9]), (73, [0, 66], [9]), (74, [71, 72, 66], [14, 15, 13, 9]), (75, [73, 66], [16, 16, 9]), (76, [70, 74, 66], [13, 17, 17, 9]), (77, [66, 75], [9, 18]), (78, [76], [19, 18]), (79, [9, 77], [20]), (80, [0, 77], [20]), (81, [78, 79, 77], [21, 22, 20, 20]), (82, [1, 77], [20]), (83, [80, 81, 77], [23, 24, 23, 20]), (84, [9, 77], [20]), (85, [1, 77], [20]), (86, [83, 84, 77], [26, 27, 25, 20]), (87, [0, 77], [20]), (88, [85, 86, 77], [28, 29, 28, 20]), (89, [82, 87, 77], [25, 30, 30, 20]), (90, [77, 88], [20, 31]), (9, [89], [32, 31, 0, 1, 2, 3, 4, 5, 6, 7, 8, 9, 10, 11, 12, 13, 14, 15, 16, 17, 18, 19, 20, 21, 22, 23, 24, 25, 26, 27, 28, 29, 30, 31, 32])] mixed (by kernel_rfl) (by kernel_rfl) (by kernel_rfl) (by kernel_rfl) (by kernel_rfl) ?_
          refine lx_loada 9 rfl rfl Tryz.isAgg33 Tryz.sizeOf33 (by simp) rfl rfl ?_
          refine lx_call rfl rfl ent30 (dbl_p _) rfl rfl ?_
          refine lx_move rfl rfl rfl ?_
          refine lx_callC rfl rfl ent36 (fun w' hC hG => mul_c _ e0 cap0 [] (by decide) w' hG (hb0.grow (hp_below hC))) rfl rfl ?_
          refine lx_loada 9 rfl rfl Tryz.isAgg33 Tryz.sizeOf33 (by simp) rfl rfl ?_
          refine lx_move rfl rfl rfl ?_
          refine lx_callC rfl rfl ent36 (fun w' hC hG => mul_c _ e0 cap0 [] (by decide) w' hG (hb0.grow (hp_below hC))) rfl rfl ?_
          refine lx_call rfl rfl ent30 (dbl_p _) rfl rfl ?_
          refine lx_callB true rfl rfl ent23 (equal_p _ _) (decide_eq_true (t_dbl _ _)) rfl rfl ?_
          refine lx_move rfl rfl rfl ?_
          refine lx_loada 9 rfl rfl Tryz.isAgg33 Tryz.sizeOf33 (by simp) rfl rfl ?_
          refine lx_call rfl rfl ent24 (neg_p _) rfl rfl ?_
          refine lx_move rfl rfl rfl ?_
          refine lx_callC rfl rfl ent36 (fun w' hC hG => mul_c _ e0 cap0 [] (by decide) w' hG (hb0.grow (hp_below hC))) rfl rfl ?_
          refine lx_loada 9 rfl rfl Tryz.isAgg33 Tryz.sizeOf33 (by simp) rfl rfl ?_
          refine lx_move rfl rfl rfl ?_
          refine lx_callC rfl rfl ent36 (fun w' hC hG => mul_c _ e0 cap0 [] (by decide) w' hG (hb0.grow (hp_below hC))) rfl rfl ?_
          refine lx_call rfl rfl ent24 (neg_p _) rfl rfl ?_
          refine lx_callB true rfl rfl ent23 (equal_p _ _) (decide_eq_true (t_neg _ _)) rfl rfl ?_
          refine lx_pick rfl rfl rfl rfl rfl ?_
          refine lx_move rfl rfl rfl ?_
          refine lx_loada 9 rfl rfl Tryz.isAgg33 Tryz.sizeOf33 (by simp) rfl rfl ?_
          refine lx_move rfl rfl rfl ?_
          refine lx_callC rfl rfl ent36 (fun w' hC hG => mul_c _ e0 cap0 [] (by decide) w' hG (hb0.grow (hp_below hC))) rfl rfl ?_
          refine lx_move rfl rfl rfl ?_
          refine lx_callC rfl rfl ent36 (fun w' hC hG => mul_c _ e1 cap1 bs1 (by omega) w' hG (hb1.grow (hp_below hC))) rfl rfl ?_
          refine lx_loada 9 rfl rfl Tryz.isAgg33 Tryz.sizeOf33 (by simp) rfl rfl ?_
          refine lx_move rfl rfl rfl ?_
          refine lx_callC rfl rfl ent36 (fun w' hC hG => mul_c _ e1 cap1 bs1 (by omega) w' hG (hb1.grow (hp_below hC))) rfl rfl ?_
          refine lx_move rfl rfl rfl ?_
          refine lx_callC rfl rfl ent36 (fun w' hC hG => mul_c _ e0 cap0 [] (by decide) w' hG (hb0.grow (hp_below hC))) rfl rfl ?_
          refine lx_callB true rfl rfl ent23 (equal_p _ _) (decide_eq_true (t_two _ _ _)) rfl rfl ?_
          refine lx_pick rfl rfl rfl rfl rfl ?_
          refine lx_assign rfl rfl rfl ?_
          refine lx_nil ?_
          refine x_ret ?_
          repeat (first | refine kseq_ret ?_ | refine kblk_ret ?_)
          exact kret_tmp rfl rfl (fun w hw => ⟨rfl, hp_below hw⟩)
        · have hz2 : bs0.length ≠ 0 := fun e => hz (List.eq_nil_of_length_eq_zero e)
          refine calls_of_X (G := Gt) Tryz.func7 rfl rfl (Hp (pl w) []) (hp_refl (pl w) trivial rides_true) (good_hp hGF) ?_
          refine xs_plain (E := EE []) ?_
          refine lx_assign rfl rfl rfl ?_
          refine lx_nil ?_
          refine x_seq ?_
          refine xs_plain (E := EE []) ?_
          refine lx_callB true rfl rfl ent10 (known8) (rfl) rfl rfl ?_
          refine lx_un rfl (fun _ => un_not _) rfl rfl ?_
          refine lx_nil ?_
          refine x_false rfl ?_
          refine x_skip ?_
          refine x_seq ?_
          refine xs_plain (E := EE []) ?_
          refine lx_move rfl rfl rfl ?_
          refine lx_bslV 940 (SVl [(e2, bs2.length, cap2)]) hGF rfl rfl rfl (by decide) (by decide) Tryz.underlying82 Tryz.sizeOf22 Tryz.zeroValue22 rfl rfl rfl ?_
          intro b940
          refine lx_callC rfl rfl ent11 (fun w' hC hG => light_t b940 1 [(e2, bs2.length, cap2)] rfl (by decide) hL w' hG (hp_row (n := 940) rfl w' hC)) rfl rfl ?_
          refine lx_un rfl (fun _ => un_not _) rfl rfl ?_
          refine lx_move rfl rfl rfl ?_
          refine lx_move rfl rfl rfl ?_
          refine lx_len rfl (fun _ => len_slice Tryz.underlying22 _ _ _ _) rfl rfl ?_
          refine lx_binB false rfl rfl (fun _ => rfl) (fun _ => bin_gtr_i _ _ _) (decide_eq_false (by omega)) rfl rfl ?_
          refine lx_pick rfl rfl rfl rfl rfl ?_
          refine lx_move rfl rfl rfl ?_
          refine lx_move rfl rfl rfl ?_
          refine lx_len rfl (fun _ => len_slice Tryz.underlying22 _ _ _ _) rfl rfl ?_
          refine lx_binB false rfl rfl (fun _ => rfl) (fun _ => bin_gtr_i _ _ _) (decide_eq_false (by omega)) rfl rfl ?_
          refine lx_pick rfl rfl rfl rfl rfl ?_
          refine lx_nil ?_
          refine x_false rfl ?_
          refine x_skip ?_
          refine xs_plain (E := EE []) ?_
          refine lx_move rfl rfl rfl ?_
          refine lx_move rfl rfl rfl ?_
          refine lx_move rfl rfl rfl ?_
          refine lx_callC rfl rfl ent25 (fun w' hC hG => hp e1 cap1 e2 cap2 hcap2 w' hG (hb1.grow (hp_below hC)) (hb2.grow (hp_below hC))) rfl rfl ?_
          refine lx_allocr 9 hGF zv33 rfl rfl ?_
          intro b9
          refine lx_storea 9 hGF rfl rfl rfl Tryz.sizeOf33 (by simp) (by simp) (one_u64 _) rfl ?_
          refine lx_nil ?_
          refine x_seq ?_
          refine xs_tree (EE [2999997, 2999998]) mixed (by kernel_rfl) (by kernel_rfl) ?_
          refine tr_pre (m := 0) [0, 1, 2, 3, 4, 5, 6, 7, 8, 9, 10, 11, 12, 13, 14, 15, 16, 18, 21, 22, 17, 19, 20, 23, 24, 25, 26] (by kernel_rfl) ?_
          refine lx_loada 9 rfl rfl Tryz.isAgg33 Tryz.sizeOf33 (by simp) rfl rfl ?_
          refine lx_move rfl rfl rfl ?_
          refine lx_callC rfl rfl ent36 (fun w' hC hG => mul_c _ e0 cap0 bs0 (by omega) w' hG (hb0.grow (hp_below hC))) rfl rfl ?_
          refine lx_loada 9 rfl rfl Tryz.isAgg33 Tryz.sizeOf33 (by simp) rfl rfl ?_
          refine lx_call rfl rfl ent28 (refs8 _) rfl rfl ?_
          refine lx_move rfl rfl rfl ?_
          refine lx_callC rfl rfl ent37 (fun w' hC hG => r9mul_calls _ e0 cap0 bs0 (by omega) w' hG (hb0.grow (hp_below hC))) rfl rfl ?_
          refine lx_callB true rfl rfl ent22 (same8 (gMul p bs0) _ (hk_mul p.on bs0 _)) (rfl) rfl rfl ?_
          refine lx_un rfl (fun _ => un_not _) rfl rfl ?_
          refine lx_move rfl rfl rfl ?_
          refine lx_loada 9 rfl rfl Tryz.isAgg33 Tryz.sizeOf33 (by simp) rfl rfl ?_
          refine lx_callC rfl rfl ent36 (fun w' hC hG => mul_c _ none 0 [] (by decide) w' hG (bytes_nil _ _)) rfl rfl ?_
          refine lx_callB true rfl rfl ent16 (isInf_p _) (decide_eq_true (t_none _)) rfl rfl ?_
          refine lx_un rfl (fun _ => un_not _) rfl rfl ?_
          refine lx_pick rfl rfl rfl rfl rfl ?_
          refine lx_move rfl rfl rfl ?_
          refine lx_loada 9 rfl rfl Tryz.isAgg33 Tryz.sizeOf33 (by simp) rfl rfl ?_
          refine lx_move rfl rfl rfl ?_
          refine lx_loada 9 rfl rfl Tryz.isAgg33 Tryz.sizeOf33 (by simp) rfl rfl ?_
          refine lx_move rfl rfl rfl ?_
          refine lx_bslG 47 [0#8, 0#8] hGF rfl rfl rfl rfl (by decide) (by decide) Tryz.underlying22 Tryz.sizeOf5 Tryz.zeroValue5 rfl rfl ?_
          intro b47
          refine lx_appendFG (xs := [0#8, 0#8]) (ys := bs0) 949 hGF rfl rfl rfl Tryz.underlying22 Tryz.underlying22 ti5x (fun w' h => BytesAt.range (hp_row (n := 47) rfl w' h)) (fun w' h => hb0.grow (hp_below h)) (by simp; omega) (by show 2 < 2 + bs0.length; omega) rfl rfl (fun b949 c949 k949 e949 l949 t949 => ?_)
          refine lx_callC rfl rfl ent36 (fun w' hC hG => mul_c _ _ _ ([0#8, 0#8] ++ bs0) (by simp; omega) w' hG (OwnSl.bytes (n := 949) (.inr ⟨b949, c949, rfl, rfl, e949, l949, t949⟩) w' hC)) rfl rfl ?_
          refine lx_callC rfl rfl ent36 (fun w' hC hG => mul_c _ e0 cap0 bs0 (by omega) w' hG (hb0.grow (hp_below hC))) rfl rfl ?_
          refine lx_callB true rfl rfl ent23 (equal_p _ _) (decide_eq_true (t_zeros _ bs0)) rfl rfl ?_
          refine lx_un rfl (fun _ => un_not _) rfl rfl ?_
          refine lx_pick rfl rfl rfl rfl rfl ?_
          refine lx_nil ?_
          refine tr_nil (by kernel_rfl) ?_
          refine kseq_n ?_
          refine x_false rfl ?_
          refine x_skip ?_
          refine xs_drawnT (E := EE []) [(58, [9], []), (59, [57], [0]), (60, [0], []), (61, [58, 59], [1, 2, 1]), (62, [9], []), (63, [0], []), (64, [61, 62], [4, 5, 3]), (65, [63], [6, 6]), (66, [60, 64], [3, 7, 7]), (67, [65], [8, 8]), (68, [9, 66], [9]), (69, [67, 66], [10, 9, 9]), (70, [0, 66], [9]), (71, [68, 69, 66], [11, 12, 11, 9]), (72, [9, 66], [9]), (73, [0, 66], [9]), (74, [71, 72, 66], [14, 15, 13, 9]), (75, [73, 66], [16, 16, 9]), (76, [70, 74, 66], [13, 17, 17, 9]), (77, [66, 75], [9, 18]), (78, [76], [19, 18]), (79, [9, 77], [20]), (80, [0, 77], [20]), (81, [78, 79, 77], [21, 22, 20, 20]), (82, [1, 77], [20]), (83, [80, 81, 77], [23, 24, 23, 20]), (84, [9, 77], [20]), (85, [1, 77], [20]), (86, [83, 84, 77], [26, 27, 25, 20]), (87, [0, 77], [20]), (88, [85, 86, 77], [28, 29, 28, 20]), (89, [82, 87, 77], [25, 30, 30, 20]), (90, [77, 88], [20, 31]), (9, [89], [32, 31, 0, 1, 2, 3, 4, 5, 6, 7, 8, 9, 10, 11, 12, 13, 14, 15, 16, 17, 18, 19, 20, 21, 22, 23, 24, 25, 26, 27, 28, 29, 30, 31, 32])] mixed (by kernel_rfl) (by kernel_rfl) (by kernel_rfl) (by kernel_rfl) (by kernel_rfl) ?_
          refine lx_loada 9 rfl rfl Tryz.isAgg33 Tryz.sizeOf33 (by simp) rfl rfl ?_
          refine lx_call rfl rfl ent30 (dbl_p _) rfl rfl ?_
          refine lx_move rfl rfl rfl ?_
          refine lx_callC rfl rfl ent36 (fun w' hC hG => mul_c _ e0 cap0 bs0 (by omega) w' hG (hb0.grow (hp_below hC))) rfl rfl ?_
          refine lx_loada 9 rfl rfl Tryz.isAgg33 Tryz.sizeOf33 (by simp) rfl rfl ?_
          refine lx_move rfl rfl rfl ?_
          refine lx_callC rfl rfl ent36 (fun w' hC hG => mul_c _ e0 cap0 bs0 (by omega) w' hG (hb0.grow (hp_below hC))) rfl rfl ?_
          refine lx_call rfl rfl ent30 (dbl_p _) rfl rfl ?_
          refine lx_callB true rfl rfl ent23 (equal_p _ _) (decide_eq_true (t_dbl _ _)) rfl rfl ?_
          refine lx_move rfl rfl rfl ?_
          refine lx_loada 9 rfl rfl Tryz.isAgg33 Tryz.sizeOf33 (by simp) rfl rfl ?_
          refine lx_call rfl rfl ent24 (neg_p _) rfl rfl ?_
          refine lx_move rfl rfl rfl ?_
          refine lx_callC rfl rfl ent36 (fun w' hC hG => mul_c _ e0 cap0 bs0 (by omega) w' hG (hb0.grow (hp_below hC))) rfl rfl ?_
          refine lx_loada 9 rfl rfl Tryz.isAgg33 Tryz.sizeOf33 (by simp) rfl rfl ?_
          refine lx_move rfl rfl rfl ?_
          refine lx_callC rfl rfl ent36 (fun w' hC hG => mul_c _ e0 cap0 bs0 (by omega) w' hG (hb0.grow (hp_below hC))) rfl rfl ?_
          refine lx_call rfl rfl ent24 (neg_p _) rfl rfl ?_
          refine lx_callB true rfl rfl ent23 (equal_p _ _) (decide_eq_true (t_neg _ _)) rfl rfl ?_
          refine lx_pick rfl rfl rfl rfl rfl ?_
          refine lx_move rfl rfl rfl ?_
          refine lx_loada 9 rfl rfl Tryz.isAgg33 Tryz.sizeOf33 (by simp) rfl rfl ?_
          refine lx_move rfl rfl rfl ?_
          refine lx_callC rfl rfl ent36 (fun w' hC hG => mul_c _ e0 cap0 bs0 (by omega) w' hG (hb0.grow (hp_below hC))) rfl rfl ?_
          refine lx_move rfl rfl rfl ?_
          refine lx_callC rfl rfl ent36 (fun w' hC hG => mul_c _ e1 cap1 bs1 (by omega) w' hG (hb1.grow (hp_below hC))) rfl rfl ?_
          refine lx_loada 9 rfl rfl Tryz.isAgg33 Tryz.sizeOf33 (by simp) rfl rfl ?_
          refine lx_move rfl rfl rfl ?_
          refine lx_callC rfl rfl ent36 (fun w' hC hG => mul_c _ e1 cap1 bs1 (by omega) w' hG (hb1.grow (hp_below hC))) rfl rfl ?_
          refine lx_move rfl rfl rfl ?_
          refine lx_callC rfl rfl ent36 (fun w' hC hG => mul_c _ e0 cap0 bs0 (by omega) w' hG (hb0.grow (hp_below hC))) rfl rfl ?_
          refine lx_callB true rfl rfl ent23 (equal_p _ _) (decide_eq_true (t_two _ _ _)) rfl rfl ?_
          refine lx_pick rfl rfl rfl rfl rfl ?_
          refine lx_assign rfl rfl rfl ?_
          refine lx_nil ?_
          refine x_ret ?_
          repeat (first | refine kseq_ret ?_ | refine kblk_ret ?_)
          exact kret_tmp rfl rfl (fun w hw => ⟨rfl, hp_below hw⟩)
      · skip
        refine calls_of_X (G := Gt) Tryz.func7 rfl rfl (Hp (pl w) []) (hp_refl (pl w) trivial rides_true) (good_hp hGF) ?_
        refine xs_plain (E := EE []) ?_
        refine lx_assign rfl rfl rfl ?_
        refine lx_nil ?_
        refine x_seq ?_
        refine xs_plain (E := EE []) ?_
        refine lx_callB true rfl rfl ent10 (known8) (rfl) rfl rfl ?_
        refine lx_un rfl (fun _ => un_not _) rfl rfl ?_
        refine lx_nil ?_
        refine x_false rfl ?_
        refine x_skip ?_
        refine x_seq ?_
        refine xs_plain (E := EE []) ?_
        refine lx_move rfl rfl rfl ?_
        refine lx_bslV 940 (SVl [(e2, bs2.length, cap2)]) hGF rfl rfl rfl (by decide) (by decide) Tryz.underlying82 Tryz.sizeOf22 Tryz.zeroValue22 rfl rfl rfl ?_
        intro b940
        refine lx_callC rfl rfl ent11 (fun w' hC hG => light_t b940 1 [(e2, bs2.length, cap2)] rfl (by decide) hL w' hG (hp_row (n := 940) rfl w' hC)) rfl rfl ?_
        refine lx_un rfl (fun _ => un_not _) rfl rfl ?_
        refine lx_move rfl rfl rfl ?_
        refine lx_move rfl rfl rfl ?_
        refine lx_len rfl (fun _ => len_slice Tryz.underlying22 _ _ _ _) rfl rfl ?_
        refine lx_binB false rfl rfl (fun _ => rfl) (fun _ => bin_gtr_i _ _ _) (decide_eq_false (by omega)) rfl rfl ?_
        refine lx_pick rfl rfl rfl rfl rfl ?_
        refine lx_move rfl rfl rfl ?_
        refine lx_move rfl rfl rfl ?_
        refine lx_len rfl (fun _ => len_slice Tryz.underlying22 _ _ _ _) rfl rfl ?_
        refine lx_binB true rfl rfl (fun _ => rfl) (fun _ => bin_gtr_i _ _ _) (decide_eq_true (by omega)) rfl rfl ?_
        refine lx_pick rfl rfl rfl rfl rfl ?_
        refine lx_nil ?_
        refine x_true rfl ?_
        refine xs_plain (E := EE []) ?_
        refine lx_assign rfl rfl rfl ?_
        refine lx_nil ?_
        refine x_ret ?_
        repeat (first | refine kseq_ret ?_ | refine kblk_ret ?_)
        exact kret_tmp rfl rfl (fun w hw => ⟨rfl, hp_below hw⟩)
    · skip
      refine calls_of_X (G := Gt) Tryz.func7 rfl rfl (Hp (pl w) []) (hp_refl (pl w) trivial rides_true) (good_hp hGF) ?_
      refine xs_plain (E := EE []) ?_
      refine lx_assign rfl rfl rfl ?_
      refine lx_nil ?_
      refine x_seq ?_
      refine xs_plain (E := EE []) ?_
      refine lx_callB true rfl rfl ent10 (known8) (rfl) rfl rfl ?_
      refine lx_un rfl (fun _ => un_not _) rfl rfl ?_
      refine lx_nil ?_
      refine x_false rfl ?_
      refine x_skip ?_
      refine x_seq ?_
      refine xs_plain (E := EE []) ?_
      refine lx_move rfl rfl rfl ?_
      refine lx_bslV 940 (SVl [(e2, bs2.length, cap2)]) hGF rfl rfl rfl (by decide) (by decide) Tryz.underlying82 Tryz.sizeOf22 Tryz.zeroValue22 rfl rfl rfl ?_
      intro b940
      refine lx_callC rfl rfl ent11 (fun w' hC hG => light_t b940 1 [(e2, bs2.length, cap2)] rfl (by decide) hL w' hG (hp_row (n := 940) rfl w' hC)) rfl rfl ?_
      refine lx_un rfl (fun _ => un_not _) rfl rfl ?_
      refine lx_move rfl rfl rfl ?_
      refine lx_move rfl rfl rfl ?_
      refine lx_len rfl (fun _ => len_slice Tryz.underlying22 _ _ _ _) rfl rfl ?_
      refine lx_binB true rfl rfl (fun _ => rfl) (fun _ => bin_gtr_i _ _ _) (decide_eq_true (by omega)) rfl rfl ?_
      refine lx_pick rfl rfl rfl rfl rfl ?_
      refine lx_move rfl rfl rfl ?_
      refine lx_skip rfl rfl rfl ?_
      refine lx_skip rfl rfl rfl ?_
      refine lx_skip rfl rfl rfl ?_
      refine lx_pick rfl rfl rfl rfl rfl ?_
      refine lx_nil ?_
      refine x_true rfl ?_
      refine xs_plain (E := EE []) ?_
      refine lx_assign rfl rfl rfl ?_
      refine lx_nil ?_
      refine x_ret ?_
      repeat (first | refine kseq_ret ?_ | refine kblk_ret ?_)
      exact kret_tmp rfl rfl (fun w hw => ⟨rfl, hp_below hw⟩)
  · skip
    refine calls_of_X (G := Gt) Tryz.func7 rfl rfl (Hp (pl w) []) (hp_refl (pl w) trivial rides_true) (good_hp hGF) ?_
    refine xs_plain (E := EE []) ?_
    refine lx_assign rfl rfl rfl ?_
    refine lx_nil ?_
    refine x_seq ?_
    refine xs_plain (E := EE []) ?_
    refine lx_callB true rfl rfl ent10 (known8) (rfl) rfl rfl ?_
    refine lx_un rfl (fun _ => un_not _) rfl rfl ?_
    refine lx_nil ?_
    refine x_false rfl ?_
    refine x_skip ?_
    refine x_seq ?_
    refine xs_plain (E := EE []) ?_
    refine lx_move rfl rfl rfl ?_
    refine lx_bslV 940 (SVl [(e2, bs2.length, cap2)]) hGF rfl rfl rfl (by decide) (by decide) Tryz.underlying82 Tryz.sizeOf22 Tryz.zeroValue22 rfl rfl rfl ?_
    intro b940
    refine lx_callC rfl rfl ent11 (fun w' hC hG => light_f b940 1 [(e2, bs2.length, cap2)] rfl (by decide) hL w' hG (hp_row (n := 940) rfl w' hC)) rfl rfl ?_
    refine lx_un rfl (fun _ => un_not _) rfl rfl ?_
    refine lx_move rfl rfl rfl ?_
    refine lx_skip rfl rfl rfl ?_
    refine lx_skip rfl rfl rfl ?_
    refine lx_skip rfl rfl rfl ?_
    refine lx_pick rfl rfl rfl rfl rfl ?_
    refine lx_move rfl rfl rfl ?_
    refine lx_skip rfl rfl rfl ?_
    refine lx_skip rfl rfl rfl ?_
    refine lx_skip rfl rfl rfl ?_
    refine lx_pick rfl rfl rfl rfl rfl ?_
    refine lx_nil ?_
    refine x_true rfl ?_
    refine xs_plain (E := EE []) ?_
    refine lx_assign rfl rfl rfl ?_
    refine lx_nil ?_
    refine x_ret ?_
    repeat (first | refine kseq_ret ?_ | refine kblk_ret ?_)
    exact kret_tmp rfl rfl (fun w hw => ⟨rfl, hp_below hw⟩)
end Go.Proofs.YtfknmeefbccflaaGreatDoor
