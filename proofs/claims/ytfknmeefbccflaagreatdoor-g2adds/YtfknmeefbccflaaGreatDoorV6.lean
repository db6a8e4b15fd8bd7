/-
  The law G2Adds.
-/
import Derived.Test.YtfknmeefbccflaaGreatDoorV5
import Derived.Test.YtfknmeefbccflaaGreatDoorX3
namespace Go.Proofs.YtfknmeefbccflaaGreatDoor
open Go.RowKit
set_option maxRecDepth 100000
set_option maxHeartbeats 1000000
attribute [local simp] fe_len nm_len AS_len SS_len MONT_len RM_len FRs_len BYs_len by48_len PLl TWOl ONEl N1l IVPl HFPl RTPl FL_len SP_len fe2_len SP2_len FM_len GL_len

theorem adds8 (e0 : Option Addr) (cap0 : Nat) (bs0 : List (BitVec 8)) (_ : bs0.length ≤ cap0) (e1 : Option Addr) (cap1 : Nat) (bs1 : List (BitVec 8)) (_ : bs1.length ≤ cap1) (e2 : Option Addr) (cap2 : Nat) (bs2 : List (BitVec 8)) (hcap2 : bs2.length ≤ cap2) (e3 : Option Addr) (cap3 : Nat) (bs3 : List (BitVec 8)) (hcap3 : bs3.length ≤ cap3) (n4 n5 : Int) (b6 b7 : Bool) (w : World) (hw : Gt w) (hb0 : BytesAt w e0 bs0) (hb1 : BytesAt w e1 bs1) (hb2 : BytesAt w e2 bs2) (hb3 : BytesAt w e3 bs3) :
    Calls Tryz.prog 5 [.slice e0 bs0.length cap0, .slice e1 bs1.length cap1, .slice e2 bs2.length cap2, .slice e3 bs3.length cap3, I n4, I n5, .bool b6, .bool b7].toArray w (fun r w' => r = .returned (.bool true) ∧ Grow w w') := by
  have hGF : BOk Gt (pl w) := gt_low.plain hw
  by_cases hL : ∀ v ∈ [(e2, bs2.length, cap2), (e3, bs3.length, cap3)], v.2.1 ≤ 100
  · skip
    have hl2 : bs2.length ≤ 100 := hL (e2, bs2.length, cap2) (by simp)
    have hl3 : bs3.length ≤ 100 := hL (e3, bs3.length, cap3) (by simp)
    by_cases g0 : bs0.length ≤ 8
    · skip
      by_cases g1 : bs1.length ≤ 8
      · skip
        obtain ⟨p, hp⟩ := point_ex bs0 bs2 n4 (by omega) (by omega)
        obtain ⟨q, hq⟩ := point_ex bs1 bs3 n5 (by omega) (by omega)
        refine calls_of_X (G := Gt) Tryz.func5 rfl rfl (Hp (pl w) []) (hp_refl (pl w) trivial rides_true) (good_hp hGF) ?_
        refine xs_plain (E := EE []) ?_
        refine lx_assign rfl rfl rfl ?_
        refine lx_nil ?_
        refine x_seq ?_
        refine xs_plain (E := EE []) ?_
        refine lx_callB true rfl rfl ent10 (known8) (rfl) rfl rfl ?_
        refine lx_un rfl (fun _ => un_not _) rfl rfl ?_
        refine lx_nil ?_
        refine x_false rfl ?_
        refine x_skip ?_
        refine x_seq ?_
        refine xs_plain (E := EE []) ?_
        refine lx_move rfl rfl rfl ?_
        refine lx_move rfl rfl rfl ?_
        refine lx_bslV 940 (SVl [(e2, bs2.length, cap2), (e3, bs3.length, cap3)]) hGF rfl rfl rfl (by decide) (by decide) Tryz.underlying82 Tryz.sizeOf22 Tryz.zeroValue22 rfl rfl rfl ?_
        intro b940
        refine lx_callC rfl rfl ent11 (fun w' hC hG => light_t b940 2 [(e2, bs2.length, cap2), (e3, bs3.length, cap3)] rfl (by decide) hL w' hG (hp_row (n := 940) rfl w' hC)) rfl rfl ?_
        refine lx_un rfl (fun _ => un_not _) rfl rfl ?_
        refine lx_move rfl rfl rfl ?_
        refine lx_move rfl rfl rfl ?_
        refine lx_len rfl (fun _ => len_slice Tryz.underlying22 _ _ _ _) rfl rfl ?_
        refine lx_binB false rfl rfl (fun _ => rfl) (fun _ => bin_gtr_i _ _ _) (decide_eq_false (by omega)) rfl rfl ?_
        refine lx_pick rfl rfl rfl rfl rfl ?_
        refine lx_move rfl rfl rfl ?_
        refine lx_move rfl rfl rfl ?_
        refine lx_len rfl (fun _ => len_slice Tryz.underlying22 _ _ _ _) rfl rfl ?_
        refine lx_binB false rfl rfl (fun _ => rfl) (fun _ => bin_gtr_i _ _ _) (decide_eq_false (by omega)) rfl rfl ?_
        refine lx_pick rfl rfl rfl rfl rfl ?_
        refine lx_nil ?_
        refine x_false rfl ?_
        refine x_skip ?_
        refine xs_plain (E := EE []) ?_
        refine lx_move rfl rfl rfl ?_
        refine lx_move rfl rfl rfl ?_
        refine lx_move rfl rfl rfl ?_
        refine lx_callC rfl rfl ent25 (fun w' hC hG => hp e0 cap0 e2 cap2 hcap2 w' hG (hb0.grow (hp_below hC)) (hb2.grow (hp_below hC))) rfl rfl ?_
        refine lx_move rfl rfl rfl ?_
        refine lx_move rfl rfl rfl ?_
        refine lx_move rfl rfl rfl ?_
        refine lx_callC rfl rfl ent25 (fun w' hC hG => hq e1 cap1 e3 cap3 hcap3 w' hG (hb1.grow (hp_below hC)) (hb3.grow (hp_below hC))) rfl rfl ?_
        refine lx_allocr 17 hGF zv33 rfl rfl ?_
        intro b17
        refine lx_allocr 18 hGF zv33 rfl rfl ?_
        intro b18
        refine lx_storea 17 hGF rfl rfl rfl Tryz.sizeOf33 (by simp) (by simp) (one_u64 _) rfl ?_
        refine lx_storea 18 hGF rfl rfl rfl Tryz.sizeOf33 (by simp) (by simp) (one_u64 _) rfl ?_
        refine lx_nil ?_
        refine x_join (ι := GP) (fun _ => [(7, .bool b7), (17, .pointer (some ⟨b17, 0, none⟩)), (18, .pointer (some ⟨b18, 0, none⟩))]) (fun y => [(17, b17, (GL p).map U64, 33), (18, b18, (GL y).map U64, 33)]) hGF ?_ ?_
        · skip
          refine xs_plain (E := EE []) ?_
          refine lx_move rfl rfl rfl ?_
          refine lx_nil ?_
          refine x_if rfl (fun hc => ?_) (fun hc => ?_)
          · skip
            refine x_drawn (E := EE []) mixed (by kernel_rfl) (by kernel_rfl) (by kernel_rfl) ?_
            refine lx_loada 17 rfl rfl Tryz.isAgg33 Tryz.sizeOf33 (by simp) rfl rfl ?_
            refine lx_call rfl rfl ent27 (inf_p) rfl rfl ?_
            refine lx_call rfl rfl ent26 (add_p _ _) rfl rfl ?_
            refine lx_storea 18 hGF rfl rfl rfl Tryz.sizeOf33 (by simp) (by simp) (one_u64 _) rfl ?_
            refine lx_nil ?_
            refine kseq_n ?_
            exact ⟨rfl, _, _, rfl, ⟨rfl, rfl, rfl, trivial⟩, ⟨rfl, rfl, trivial⟩⟩
          · skip
            refine x_skip ?_
            refine kseq_n ?_
            exact ⟨rfl, _, _, rfl, ⟨rfl, rfl, rfl, trivial⟩, ⟨rfl, rfl, trivial⟩⟩
        · intro q1
          refine x_join (ι := GP) (fun _ => [(17, .pointer (some ⟨b17, 0, none⟩)), (18, .pointer (some ⟨b18, 0, none⟩))]) (fun y => [(17, b17, (GL p).map U64, 33), (18, b18, (GL y).map U64, 33)]) hGF ?_ ?_
          · skip
            refine xs_plain (E := EE []) ?_
            refine lx_move rfl rfl rfl ?_
            refine lx_nil ?_
            refine x_if rfl (fun hc => ?_) (fun hc => ?_)
            · skip
              refine x_plain (E := EE []) ?_
              refine lx_loada 18 rfl rfl Tryz.isAgg33 Tryz.sizeOf33 (by simp) rfl rfl ?_
              refine lx_call rfl rfl ent24 (neg_p _) rfl rfl ?_
              refine lx_storea 18 hGF rfl rfl rfl Tryz.sizeOf33 (by simp) (by simp) (one_u64 _) rfl ?_
              refine lx_nil ?_
              refine kseq_n ?_
              exact ⟨rfl, _, _, rfl, ⟨rfl, rfl, trivial⟩, ⟨rfl, rfl, trivial⟩⟩
            · skip
              refine x_skip ?_
              refine kseq_n ?_
              exact ⟨rfl, _, _, rfl, ⟨rfl, rfl, trivial⟩, ⟨rfl, rfl, trivial⟩⟩
          · intro q2
            refine xs_drawA (E := EE [2999999]) [0, 1, 2, 3] [⟨4, 19, 50, ((fe 0 ++ fe 0) ++ ((fe 0 ++ fe 0) ++ (fe 0 ++ fe 0))).map U64⟩, ⟨5, 20, 50, ((fe 0 ++ fe 0) ++ ((fe 0 ++ fe 0) ++ (fe 0 ++ fe 0))).map U64⟩] [6, 7] mixed rfl (by kernel_rfl) (by kernel_rfl) (by kernel_rfl) (by kernel_rfl) (by kernel_rfl) (by kernel_rfl) (by decide) (by intro x hx; simp only [List.mem_cons, List.not_mem_nil, or_false] at hx; rcases hx with rfl | rfl <;> exact isAlloc_mk rfl zv50 rfl) ?_
            refine lx_loada 17 rfl rfl Tryz.isAgg33 Tryz.sizeOf33 (by simp) rfl rfl ?_
            refine lx_call rfl rfl ent28 (refs8 _) rfl rfl ?_
            refine lx_loada 18 rfl rfl Tryz.isAgg33 Tryz.sizeOf33 (by simp) rfl rfl ?_
            refine lx_call rfl rfl ent28 (refs8 _) rfl rfl ?_
            refine lx_nil ?_
            refine ⟨_, _, rfl, hGF, by intro x hx; simp only [List.mem_cons, List.not_mem_nil, or_false] at hx; rcases hx with rfl | rfl <;> rfl, by intro x hx; simp only [List.mem_cons, List.not_mem_nil, or_false] at hx; rcases hx with rfl | rfl <;> rfl, fun adr => ?_⟩
            refine lx_storea 19 hGF rfl rfl rfl Tryz.sizeOf50 (by simp) (by simp) (one_u64 _) rfl ?_
            refine lx_storea 20 hGF rfl rfl rfl Tryz.sizeOf50 (by simp) (by simp) (one_u64 _) rfl ?_
            refine lx_nil ?_
            refine xs_drawnT (E := EE []) [(58, [17], []), (59, [18], []), (60, [57, 58], [0, 1]), (61, [19], []), (62, [20], []), (63, [60, 61], [3, 4, 2]), (64, [59, 62], [2, 5, 5]), (65, [63], [6, 6]), (66, [18, 64], [7]), (67, [17, 64], [7]), (68, [65, 66, 64], [8, 9, 7, 7]), (69, [19, 64], [7]), (70, [20, 64], [7]), (71, [68, 69, 64], [11, 12, 10, 7]), (72, [67, 70, 64], [10, 13, 13, 7]), (73, [64, 71], [7, 14]), (74, [72], [15, 14]), (75, [17, 73], [16]), (76, [74, 73], [17, 16, 16]), (77, [19, 73], [16]), (78, [76, 73], [19, 18, 16]), (79, [75, 77, 73], [18, 20, 20, 16]), (80, [73, 78], [16, 21]), (81, [79], [22, 21]), (82, [17, 80], [23]), (83, [81, 80], [24, 23, 23]), (84, [19, 80], [23]), (85, [83, 80], [26, 25, 23]), (86, [82, 84, 80], [25, 27, 27, 23]), (87, [80, 85], [23, 28]), (88, [86], [29, 28]), (89, [17, 87], [30]), (90, [18, 87], [30]), (91, [88, 89, 87], [31, 32, 30, 30]), (92, [19, 87], [30]), (93, [20, 87], [30]), (94, [91, 92, 87], [34, 35, 33, 30]), (95, [90, 93, 87], [33, 36, 30]), (96, [87, 94], [30, 37]), (97, [95], [38, 36]), (98, [17, 96], [39]), (99, [97, 96], [40, 39, 39]), (100, [19, 96], [39]), (101, [99, 96], [42, 41, 39]), (102, [98, 100, 96], [41, 43, 39]), (103, [96, 101], [39, 44]), (17, [102], [45, 43, 0, 1, 2, 3, 4, 5, 6, 7, 8, 9, 10, 11, 12, 13, 14, 15, 16, 17, 18, 19, 20, 21, 22, 23, 24, 25, 26, 27, 28, 29, 30, 31, 32, 33, 34, 35, 36, 37, 38, 39, 40, 41, 42, 43, 44, 45])] mixed (by kernel_rfl) (by kernel_rfl) (by kernel_rfl) (by kernel_rfl) (by kernel_rfl) ?_
            refine lx_loada 17 rfl rfl Tryz.isAgg33 Tryz.sizeOf33 (by simp) rfl rfl ?_
            refine lx_loada 18 rfl rfl Tryz.isAgg33 Tryz.sizeOf33 (by simp) rfl rfl ?_
            refine lx_call rfl rfl ent26 (add_p _ _) rfl rfl ?_
            refine lx_loada 19 rfl rfl Tryz.isAgg50 Tryz.sizeOf50 (by simp) rfl rfl ?_
            refine lx_loada 20 rfl rfl Tryz.isAgg50 Tryz.sizeOf50 (by simp) rfl rfl ?_
            refine lx_call rfl rfl ent29 (r9add _ _) rfl rfl ?_
            refine lx_callB true rfl rfl ent22 (same8 (gAdd p q2) _ (hk_add p.on q2.on)) (rfl) rfl rfl ?_
            refine lx_move rfl rfl rfl ?_
            refine lx_loada 18 rfl rfl Tryz.isAgg33 Tryz.sizeOf33 (by simp) rfl rfl ?_
            refine lx_loada 17 rfl rfl Tryz.isAgg33 Tryz.sizeOf33 (by simp) rfl rfl ?_
            refine lx_call rfl rfl ent26 (add_p _ _) rfl rfl ?_
            refine lx_loada 19 rfl rfl Tryz.isAgg50 Tryz.sizeOf50 (by simp) rfl rfl ?_
            refine lx_loada 20 rfl rfl Tryz.isAgg50 Tryz.sizeOf50 (by simp) rfl rfl ?_
            refine lx_call rfl rfl ent29 (r9add _ _) rfl rfl ?_
            refine lx_callB true rfl rfl ent22 (same8 (gAdd q2 p) _ (hk_addC p.on q2.on)) (rfl) rfl rfl ?_
            refine lx_pick rfl rfl rfl rfl rfl ?_
            refine lx_move rfl rfl rfl ?_
            refine lx_loada 17 rfl rfl Tryz.isAgg33 Tryz.sizeOf33 (by simp) rfl rfl ?_
            refine lx_call rfl rfl ent30 (dbl_p _) rfl rfl ?_
            refine lx_loada 19 rfl rfl Tryz.isAgg50 Tryz.sizeOf50 (by simp) rfl rfl ?_
            refine lx_call rfl rfl ent31 (r9double _) rfl rfl ?_
            refine lx_callB true rfl rfl ent22 (same8 (gDbl p) _ (hk_dbl p.on)) (rfl) rfl rfl ?_
            refine lx_pick rfl rfl rfl rfl rfl ?_
            refine lx_move rfl rfl rfl ?_
            refine lx_loada 17 rfl rfl Tryz.isAgg33 Tryz.sizeOf33 (by simp) rfl rfl ?_
            refine lx_call rfl rfl ent24 (neg_p _) rfl rfl ?_
            refine lx_loada 19 rfl rfl Tryz.isAgg50 Tryz.sizeOf50 (by simp) rfl rfl ?_
            refine lx_call rfl rfl ent32 (r9neg _) rfl rfl ?_
            refine lx_callB true rfl rfl ent22 (same8 (gNeg p) _ (hk_neg p.P)) (rfl) rfl rfl ?_
            refine lx_pick rfl rfl rfl rfl rfl ?_
            refine lx_move rfl rfl rfl ?_
            refine lx_loada 17 rfl rfl Tryz.isAgg33 Tryz.sizeOf33 (by simp) rfl rfl ?_
            refine lx_loada 18 rfl rfl Tryz.isAgg33 Tryz.sizeOf33 (by simp) rfl rfl ?_
            refine lx_call rfl rfl ent23 (equal_p _ _) rfl rfl ?_
            refine lx_loada 19 rfl rfl Tryz.isAgg50 Tryz.sizeOf50 (by simp) rfl rfl ?_
            refine lx_loada 20 rfl rfl Tryz.isAgg50 Tryz.sizeOf50 (by simp) rfl rfl ?_
            refine lx_call rfl rfl ent33 (r9equal _ _) rfl rfl ?_
            refine lx_binB true rfl rfl (fun _ => rfl) (fun w => bin_eql_bool 4 Tryz.underlying4 _ _ w) (bq (eq_dec p.on q2.on (RJ2_jr _) (RJ2_jr _))) rfl rfl ?_
            refine lx_pick rfl rfl rfl rfl rfl ?_
            refine lx_move rfl rfl rfl ?_
            refine lx_loada 17 rfl rfl Tryz.isAgg33 Tryz.sizeOf33 (by simp) rfl rfl ?_
            refine lx_call rfl rfl ent16 (isInf_p _) rfl rfl ?_
            refine lx_loada 19 rfl rfl Tryz.isAgg50 Tryz.sizeOf50 (by simp) rfl rfl ?_
            refine lx_call rfl rfl ent34 (r9none _) rfl rfl ?_
            refine lx_binB true rfl rfl (fun _ => rfl) (fun w => bin_eql_bool 4 Tryz.underlying4 _ _ w) (bq (none_dec (RJ2_jr _))) rfl rfl ?_
            refine lx_pick rfl rfl rfl rfl rfl ?_
            refine lx_assign rfl rfl rfl ?_
            refine lx_nil ?_
            refine x_ret ?_
            repeat (first | refine kseq_ret ?_ | refine kblk_ret ?_)
            exact kret_tmp rfl rfl (fun w hw => ⟨rfl, hp_below hw⟩)
      · skip
        refine calls_of_X (G := Gt) Tryz.func5 rfl rfl (Hp (pl w) []) (hp_refl (pl w) trivial rides_true) (good_hp hGF) ?_
        refine xs_plain (E := EE []) ?_
        refine lx_assign rfl rfl rfl ?_
        refine lx_nil ?_
        refine x_seq ?_
        refine xs_plain (E := EE []) ?_
        refine lx_callB true rfl rfl ent10 (known8) (rfl) rfl rfl ?_
        refine lx_un rfl (fun _ => un_not _) rfl rfl ?_
        refine lx_nil ?_
        refine x_false rfl ?_
        refine x_skip ?_
        refine x_seq ?_
        refine xs_plain (E := EE []) ?_
        refine lx_move rfl rfl rfl ?_
        refine lx_move rfl rfl rfl ?_
        refine lx_bslV 940 (SVl [(e2, bs2.length, cap2), (e3, bs3.length, cap3)]) hGF rfl rfl rfl (by decide) (by decide) Tryz.underlying82 Tryz.sizeOf22 Tryz.zeroValue22 rfl rfl rfl ?_
        intro b940
        refine lx_callC rfl rfl ent11 (fun w' hC hG => light_t b940 2 [(e2, bs2.length, cap2), (e3, bs3.length, cap3)] rfl (by decide) hL w' hG (hp_row (n := 940) rfl w' hC)) rfl rfl ?_
        refine lx_un rfl (fun _ => un_not _) rfl rfl ?_
        refine lx_move rfl rfl rfl ?_
        refine lx_move rfl rfl rfl ?_
        refine lx_len rfl (fun _ => len_slice Tryz.underlying22 _ _ _ _) rfl rfl ?_
        refine lx_binB false rfl rfl (fun _ => rfl) (fun _ => bin_gtr_i _ _ _) (decide_eq_false (by omega)) rfl rfl ?_
        refine lx_pick rfl rfl rfl rfl rfl ?_
        refine lx_move rfl rfl rfl ?_
        refine lx_move rfl rfl rfl ?_
        refine lx_len rfl (fun _ => len_slice Tryz.underlying22 _ _ _ _) rfl rfl ?_
        refine lx_binB true rfl rfl (fun _ => rfl) (fun _ => bin_gtr_i _ _ _) (decide_eq_true (by omega)) rfl rfl ?_
        refine lx_pick rfl rfl rfl rfl rfl ?_
        refine lx_nil ?_
        refine x_true rfl ?_
        refine xs_plain (E := EE []) ?_
        refine lx_assign rfl rfl rfl ?_
        refine lx_nil ?_
        refine x_ret ?_
        repeat (first | refine kseq_ret ?_ | refine kblk_ret ?_)
        exact kret_tmp rfl rfl (fun w hw => ⟨rfl, hp_below hw⟩)
    · skip
      refine calls_of_X (G := Gt) Tryz.func5 rfl rfl (Hp (pl w) []) (hp_refl (pl w) trivial rides_true) (good_hp hGF) ?_
      refine xs_plain (E := EE []) ?_
      refine lx_assign rfl rfl rfl ?_
      refine lx_nil ?_
      refine x_seq ?_
      refine xs_plain (E := EE []) ?_
      refine lx_callB true rfl rfl ent10 (known8) (rfl) rfl rfl ?_
      refine lx_un rfl (fun _ => un_not _) rfl rfl ?_
      refine lx_nil ?_
      refine x_false rfl ?_
      refine x_skip ?_
      refine x_seq ?_
      refine xs_plain (E := EE []) ?_
      refine lx_move rfl rfl rfl ?_
      refine lx_move rfl rfl rfl ?_
      refine lx_bslV 940 (SVl [(e2, bs2.length, cap2), (e3, bs3.length, cap3)]) hGF rfl rfl rfl (by decide) (by decide) Tryz.underlying82 Tryz.sizeOf22 Tryz.zeroValue22 rfl rfl rfl ?_
      intro b940
      refine lx_callC rfl rfl ent11 (fun w' hC hG => light_t b940 2 [(e2, bs2.length, cap2), (e3, bs3.length, cap3)] rfl (by decide) hL w' hG (hp_row (n := 940) rfl w' hC)) rfl rfl ?_
      refine lx_un rfl (fun _ => un_not _) rfl rfl ?_
      refine lx_move rfl rfl rfl ?_
      refine lx_move rfl rfl rfl ?_
      refine lx_len rfl (fun _ => len_slice Tryz.underlying22 _ _ _ _) rfl rfl ?_
      refine lx_binB true rfl rfl (fun _ => rfl) (fun _ => bin_gtr_i _ _ _) (decide_eq_true (by omega)) rfl rfl ?_
      refine lx_pick rfl rfl rfl rfl rfl ?_
      refine lx_move rfl rfl rfl ?_
      refine lx_skip rfl rfl rfl ?_
      refine lx_skip rfl rfl rfl ?_
      refine lx_skip rfl rfl rfl ?_
      refine lx_pick rfl rfl rfl rfl rfl ?_
      refine lx_nil ?_
      refine x_true rfl ?_
      refine xs_plain (E := EE []) ?_
      refine lx_assign rfl rfl rfl ?_
      refine lx_nil ?_
      refine x_ret ?_
      repeat (first | refine kseq_ret ?_ | refine kblk_ret ?_)
      exact kret_tmp rfl rfl (fun w hw => ⟨rfl, hp_below hw⟩)
  · skip
    refine calls_of_X (G := Gt) Tryz.func5 rfl rfl (Hp (pl w) []) (hp_refl (pl w) trivial rides_true) (good_hp hGF) ?_
    refine xs_plain (E := EE []) ?_
    refine lx_assign rfl rfl rfl ?_
    refine lx_nil ?_
    refine x_seq ?_
    refine xs_plain (E := EE []) ?_
    refine lx_callB true rfl rfl ent10 (known8) (rfl) rfl rfl ?_
    refine lx_un rfl (fun _ => un_not _) rfl rfl ?_
    refine lx_nil ?_
    refine x_false rfl ?_
    refine x_skip ?_
    refine x_seq ?_
    refine xs_plain (E := EE []) ?_
    refine lx_move rfl rfl rfl ?_
    refine lx_move rfl rfl rfl ?_
    refine lx_bslV 940 (SVl [(e2, bs2.length, cap2), (e3, bs3.length, cap3)]) hGF rfl rfl rfl (by decide) (by decide) Tryz.underlying82 Tryz.sizeOf22 Tryz.zeroValue22 rfl rfl rfl ?_
    intro b940
    refine lx_callC rfl rfl ent11 (fun w' hC hG => light_f b940 2 [(e2, bs2.length, cap2), (e3, bs3.length, cap3)] rfl (by decide) hL w' hG (hp_row (n := 940) rfl w' hC)) rfl rfl ?_
    refine lx_un rfl (fun _ => un_not _) rfl rfl ?_
    refine lx_move rfl rfl rfl ?_
    refine lx_skip rfl rfl rfl ?_
    refine lx_skip rfl rfl rfl ?_
    refine lx_skip rfl rfl rfl ?_
    refine lx_pick rfl rfl rfl rfl rfl ?_
    refine lx_move rfl rfl rfl ?_
    refine lx_skip rfl rfl rfl ?_
    refine lx_skip rfl rfl rfl ?_
    refine lx_skip rfl rfl rfl ?_
    refine lx_pick rfl rfl rfl rfl rfl ?_
    refine lx_nil ?_
    refine x_true rfl ?_
    refine xs_plain (E := EE []) ?_
    refine lx_assign rfl rfl rfl ?_
    refine lx_nil ?_
    refine x_ret ?_
    repeat (first | refine kseq_ret ?_ | refine kblk_ret ?_)
    exact kret_tmp rfl rfl (fun w hw => ⟨rfl, hp_below hw⟩)
end Go.Proofs.YtfknmeefbccflaaGreatDoor
