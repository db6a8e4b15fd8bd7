/-
  The law Fp6Laws.
-/
import Derived.Test.YtpigcehbafcdkaaDoorV6
namespace Go.Proofs.YtpigcehbafcdkaaDoor
open Go.RowKit
set_option maxRecDepth 100000
set_option maxHeartbeats 1000000
attribute [local simp] fe_len nm_len AS_len SS_len MONT_len RM_len FRs_len BYs_len by48_len PLl TWOl ONEl N1l IVPl HFPl RTPl FL_len SP_len fe2_len SP2_len FM_len FF_len

theorem laws6 (e0 : Option Addr) (cap0 : Nat) (bs0 : List (BitVec 8)) (hcap0 : bs0.length ≤ cap0) (e1 : Option Addr) (cap1 : Nat) (bs1 : List (BitVec 8)) (hcap1 : bs1.length ≤ cap1) (e2 : Option Addr) (cap2 : Nat) (bs2 : List (BitVec 8)) (hcap2 : bs2.length ≤ cap2) (w : World) (hw : Gt w) (hb0 : BytesAt w e0 bs0) (hb1 : BytesAt w e1 bs1) (hb2 : BytesAt w e2 bs2) :
    Calls Tryd.prog 3 [.slice e0 bs0.length cap0, .slice e1 bs1.length cap1, .slice e2 bs2.length cap2].toArray w (fun r w' => r = .returned (.bool true) ∧ Grow w w') := by
  have hGF : BOk Gt (pl w) := gt_low.plain hw
  by_cases h0 : SIX bs0 = K6.zero
  · skip
    refine calls_of_X (G := Gt) Tryd.func3 rfl rfl (Hp (pl w) []) (hp_refl (pl w) trivial rides_true) (good_hp hGF) ?_
    refine xs_plain (E := EE []) ?_
    refine lx_assign rfl rfl rfl ?_
    refine lx_nil ?_
    refine x_seq ?_
    refine xs_plain (E := EE []) ?_
    refine lx_callB true rfl rfl ent5 (known6) (rfl) rfl rfl ?_
    refine lx_un rfl (fun _ => un_not _) rfl rfl ?_
    refine lx_nil ?_
    refine x_false rfl ?_
    refine x_skip ?_
    refine x_seq ?_
    refine xs_plain (E := EE []) ?_
    refine lx_move rfl rfl rfl ?_
    refine lx_move rfl rfl rfl ?_
    refine lx_move rfl rfl rfl ?_
    refine lx_bslV 940 (SVl [(e0, bs0.length, cap0), (e1, bs1.length, cap1), (e2, bs2.length, cap2)]) hGF rfl rfl rfl (by decide) (by decide) Tryd.underlying52 Tryd.sizeOf22 Tryd.zeroValue22 rfl rfl rfl ?_
    intro b940
    refine lx_callC rfl rfl ent6 (fun w' hC hG => light_calls b940 3 [(e0, bs0.length, cap0), (e1, bs1.length, cap1), (e2, bs2.length, cap2)] rfl (by decide) w' hG (hp_row (n := 940) rfl w' hC)) rfl rfl ?_
    refine lx_un rfl (fun _ => un_not _) rfl rfl ?_
    refine lx_nil ?_
    refine x_if rfl (fun hc => ?_) (fun hc => ?_)
    · skip
      refine xs_plain (E := EE []) ?_
      refine lx_assign rfl rfl rfl ?_
      refine lx_nil ?_
      refine x_ret ?_
      repeat (first | refine kseq_ret ?_ | refine kblk_ret ?_)
      exact kret_tmp rfl rfl (fun w hw => ⟨rfl, hp_below hw⟩)
    · have hl : ∀ v ∈ [(e0, bs0.length, cap0), (e1, bs1.length, cap1), (e2, bs2.length, cap2)], v.2.1 ≤ 200 := by simpa using hc
      have hl0 : bs0.length ≤ 200 := hl (e0, bs0.length, cap0) (by simp)
      have hl1 : bs1.length ≤ 200 := hl (e1, bs1.length, cap1) (by simp)
      have hl2 : bs2.length ≤ 200 := hl (e2, bs2.length, cap2) (by simp)
      clear hc hl
      refine x_skip ?_
      refine xs_plain (E := EE []) ?_
      refine lx_move rfl rfl rfl ?_
      refine lx_callC rfl rfl ent7 (fun w' hC hG => six_calls e0 cap0 bs0 (by omega) hcap0 w' hG (hb0.grow (hp_below hC))) rfl rfl ?_
      refine lx_move rfl rfl rfl ?_
      refine lx_callC rfl rfl ent7 (fun w' hC hG => six_calls e1 cap1 bs1 (by omega) hcap1 w' hG (hb1.grow (hp_below hC))) rfl rfl ?_
      refine lx_move rfl rfl rfl ?_
      refine lx_callC rfl rfl ent7 (fun w' hC hG => six_calls e2 cap2 bs2 (by omega) hcap2 w' hG (hb2.grow (hp_below hC))) rfl rfl ?_
      refine lx_allocr 7 hGF zv32 rfl rfl ?_
      intro b7
      refine lx_allocr 8 hGF zv32 rfl rfl ?_
      intro b8
      refine lx_allocr 9 hGF zv32 rfl rfl ?_
      intro b9
      refine lx_storea 7 hGF rfl rfl rfl Tryd.sizeOf32 (by simp) (by simp) (one_u64 _) rfl ?_
      refine lx_storea 8 hGF rfl rfl rfl Tryd.sizeOf32 (by simp) (by simp) (one_u64 _) rfl ?_
      refine lx_storea 9 hGF rfl rfl rfl Tryd.sizeOf32 (by simp) (by simp) (one_u64 _) rfl ?_
      refine lx_nil ?_
      refine xs_drawnT (E := EE []) [(26, [7], []), (27, [8], []), (28, [25, 26], [0, 1]), (29, [8], []), (30, [7], []), (31, [28, 29], [3, 4, 2]), (32, [27, 30], [2, 5, 5]), (33, [31], [6, 6]), (34, [7, 32], [7]), (35, [8, 32], [7]), (36, [33, 34, 32], [8, 9, 7, 7]), (37, [8, 32], [7]), (38, [7, 32], [7]), (39, [36, 37, 32], [11, 12, 10, 7]), (40, [35, 38, 32], [10, 13, 13, 7]), (41, [32, 39], [7, 14]), (42, [40], [15, 14]), (43, [7, 41], [16]), (44, [8, 41], [16]), (45, [9, 41], [16]), (46, [43, 44, 41], [18, 19, 16, 16]), (47, [42, 45, 41], [17, 20, 20, 16]), (48, [7, 41], [16]), (49, [8, 41], [16]), (50, [47, 48, 41], [22, 23, 21, 16]), (51, [9, 41], [16]), (52, [49, 50, 41], [24, 25, 24, 16]), (53, [46, 51, 41], [21, 26, 26, 16]), (54, [41, 52], [16, 27]), (55, [53], [28, 27]), (56, [7, 54], [29]), (57, [8, 54], [29]), (58, [9, 54], [29]), (59, [56, 57, 54], [31, 32, 29, 29]), (60, [55, 58, 54], [30, 33, 33, 29]), (61, [7, 54], [29]), (62, [8, 54], [29]), (63, [60, 61, 54], [35, 36, 34, 29]), (64, [9, 54], [29]), (65, [62, 63, 54], [37, 38, 37, 29]), (66, [59, 64, 54], [34, 39, 39, 29]), (67, [54, 65], [29, 40]), (68, [66], [41, 40]), (69, [7, 67], [42]), (70, [8, 67], [42]), (71, [9, 67], [42]), (72, [69, 70, 67], [44, 45, 42, 42]), (73, [68, 71, 67], [43, 46, 46, 42]), (74, [7, 67], [42]), (75, [8, 67], [42]), (76, [73, 74, 67], [48, 49, 47, 42]), (77, [7, 67], [42]), (78, [9, 67], [42]), (79, [76, 77, 67], [51, 52, 50, 42]), (80, [75, 78, 67], [50, 53, 53, 42]), (81, [72, 79, 67], [47, 54, 54, 42]), (82, [67, 80], [42, 55]), (83, [81], [56, 55]), (84, [7, 82], [57]), (85, [8, 82], [57]), (86, [83, 84, 82], [58, 59, 57, 57]), (87, [8, 82], [57]), (88, [85, 86, 82], [60, 61, 60, 57]), (89, [7, 82], [57]), (90, [87, 88, 82], [62, 63, 62, 57]), (91, [82, 89], [57, 64]), (92, [90], [65, 64]), (93, [7, 91], [66]), (94, [91], [66, 66]), (95, [92, 93, 91], [67, 68, 68, 66]), (96, [7, 91], [66]), (97, [94, 95, 91], [69, 70, 69, 66]), (98, [91, 96], [66, 71]), (11, [97], [72, 71, 0, 1, 2, 3, 4, 5, 6, 7, 8, 9, 10, 11, 12, 13, 14, 15, 16, 17, 18, 19, 20, 21, 22, 23, 24, 25, 26, 27, 28, 29, 30, 31, 32, 33, 34, 35, 36, 37, 38, 39, 40, 41, 42, 43, 44, 45, 46, 47, 48, 49, 50, 51, 52, 53, 54, 55, 56, 57, 58, 59, 60, 61, 62, 63, 64, 65, 66, 67, 68, 69, 70, 71, 72])] mixed (by kernel_rfl) (by kernel_rfl) (by kernel_rfl) (by kernel_rfl) (by kernel_rfl) ?_
      refine lx_loada 7 rfl rfl Tryd.isAgg32 Tryd.sizeOf32 (by simp) rfl rfl ?_
      refine lx_loada 8 rfl rfl Tryd.isAgg32 Tryd.sizeOf32 (by simp) rfl rfl ?_
      refine lx_call rfl rfl ent8 (k6add _ _) rfl rfl ?_
      refine lx_loada 8 rfl rfl Tryd.isAgg32 Tryd.sizeOf32 (by simp) rfl rfl ?_
      refine lx_loada 7 rfl rfl Tryd.isAgg32 Tryd.sizeOf32 (by simp) rfl rfl ?_
      refine lx_call rfl rfl ent8 (k6add _ _) rfl rfl ?_
      refine lx_callB true rfl rfl ent9 (k6equal _ _) (decide_eq_true (K6.add_comm _ _)) rfl rfl ?_
      refine lx_move rfl rfl rfl ?_
      refine lx_loada 7 rfl rfl Tryd.isAgg32 Tryd.sizeOf32 (by simp) rfl rfl ?_
      refine lx_loada 8 rfl rfl Tryd.isAgg32 Tryd.sizeOf32 (by simp) rfl rfl ?_
      refine lx_call rfl rfl ent10 (k6mul _ _) rfl rfl ?_
      refine lx_loada 8 rfl rfl Tryd.isAgg32 Tryd.sizeOf32 (by simp) rfl rfl ?_
      refine lx_loada 7 rfl rfl Tryd.isAgg32 Tryd.sizeOf32 (by simp) rfl rfl ?_
      refine lx_call rfl rfl ent10 (k6mul _ _) rfl rfl ?_
      refine lx_callB true rfl rfl ent9 (k6equal _ _) (decide_eq_true (K6.mul_comm _ _)) rfl rfl ?_
      refine lx_pick rfl rfl rfl rfl rfl ?_
      refine lx_move rfl rfl rfl ?_
      refine lx_loada 7 rfl rfl Tryd.isAgg32 Tryd.sizeOf32 (by simp) rfl rfl ?_
      refine lx_loada 8 rfl rfl Tryd.isAgg32 Tryd.sizeOf32 (by simp) rfl rfl ?_
      refine lx_loada 9 rfl rfl Tryd.isAgg32 Tryd.sizeOf32 (by simp) rfl rfl ?_
      refine lx_call rfl rfl ent8 (k6add _ _) rfl rfl ?_
      refine lx_call rfl rfl ent8 (k6add _ _) rfl rfl ?_
      refine lx_loada 7 rfl rfl Tryd.isAgg32 Tryd.sizeOf32 (by simp) rfl rfl ?_
      refine lx_loada 8 rfl rfl Tryd.isAgg32 Tryd.sizeOf32 (by simp) rfl rfl ?_
      refine lx_call rfl rfl ent8 (k6add _ _) rfl rfl ?_
      refine lx_loada 9 rfl rfl Tryd.isAgg32 Tryd.sizeOf32 (by simp) rfl rfl ?_
      refine lx_call rfl rfl ent8 (k6add _ _) rfl rfl ?_
      refine lx_callB true rfl rfl ent9 (k6equal _ _) (decide_eq_true ((K6.add_assoc _ _ _).symm)) rfl rfl ?_
      refine lx_pick rfl rfl rfl rfl rfl ?_
      refine lx_move rfl rfl rfl ?_
      refine lx_loada 7 rfl rfl Tryd.isAgg32 Tryd.sizeOf32 (by simp) rfl rfl ?_
      refine lx_loada 8 rfl rfl Tryd.isAgg32 Tryd.sizeOf32 (by simp) rfl rfl ?_
      refine lx_loada 9 rfl rfl Tryd.isAgg32 Tryd.sizeOf32 (by simp) rfl rfl ?_
      refine lx_call rfl rfl ent10 (k6mul _ _) rfl rfl ?_
      refine lx_call rfl rfl ent10 (k6mul _ _) rfl rfl ?_
      refine lx_loada 7 rfl rfl Tryd.isAgg32 Tryd.sizeOf32 (by simp) rfl rfl ?_
      refine lx_loada 8 rfl rfl Tryd.isAgg32 Tryd.sizeOf32 (by simp) rfl rfl ?_
      refine lx_call rfl rfl ent10 (k6mul _ _) rfl rfl ?_
      refine lx_loada 9 rfl rfl Tryd.isAgg32 Tryd.sizeOf32 (by simp) rfl rfl ?_
      refine lx_call rfl rfl ent10 (k6mul _ _) rfl rfl ?_
      refine lx_callB true rfl rfl ent9 (k6equal _ _) (decide_eq_true ((K6.mul_assoc _ _ _).symm)) rfl rfl ?_
      refine lx_pick rfl rfl rfl rfl rfl ?_
      refine lx_move rfl rfl rfl ?_
      refine lx_loada 7 rfl rfl Tryd.isAgg32 Tryd.sizeOf32 (by simp) rfl rfl ?_
      refine lx_loada 8 rfl rfl Tryd.isAgg32 Tryd.sizeOf32 (by simp) rfl rfl ?_
      refine lx_loada 9 rfl rfl Tryd.isAgg32 Tryd.sizeOf32 (by simp) rfl rfl ?_
      refine lx_call rfl rfl ent8 (k6add _ _) rfl rfl ?_
      refine lx_call rfl rfl ent10 (k6mul _ _) rfl rfl ?_
      refine lx_loada 7 rfl rfl Tryd.isAgg32 Tryd.sizeOf32 (by simp) rfl rfl ?_
      refine lx_loada 8 rfl rfl Tryd.isAgg32 Tryd.sizeOf32 (by simp) rfl rfl ?_
      refine lx_call rfl rfl ent10 (k6mul _ _) rfl rfl ?_
      refine lx_loada 7 rfl rfl Tryd.isAgg32 Tryd.sizeOf32 (by simp) rfl rfl ?_
      refine lx_loada 9 rfl rfl Tryd.isAgg32 Tryd.sizeOf32 (by simp) rfl rfl ?_
      refine lx_call rfl rfl ent10 (k6mul _ _) rfl rfl ?_
      refine lx_call rfl rfl ent8 (k6add _ _) rfl rfl ?_
      refine lx_callB true rfl rfl ent9 (k6equal _ _) (decide_eq_true (K6.mul_add _ _ _)) rfl rfl ?_
      refine lx_pick rfl rfl rfl rfl rfl ?_
      refine lx_move rfl rfl rfl ?_
      refine lx_loada 7 rfl rfl Tryd.isAgg32 Tryd.sizeOf32 (by simp) rfl rfl ?_
      refine lx_loada 8 rfl rfl Tryd.isAgg32 Tryd.sizeOf32 (by simp) rfl rfl ?_
      refine lx_call rfl rfl ent11 (k6sub _ _) rfl rfl ?_
      refine lx_loada 8 rfl rfl Tryd.isAgg32 Tryd.sizeOf32 (by simp) rfl rfl ?_
      refine lx_call rfl rfl ent8 (k6add _ _) rfl rfl ?_
      refine lx_loada 7 rfl rfl Tryd.isAgg32 Tryd.sizeOf32 (by simp) rfl rfl ?_
      refine lx_callB true rfl rfl ent9 (k6equal _ _) (decide_eq_true (sb6_add _ _)) rfl rfl ?_
      refine lx_pick rfl rfl rfl rfl rfl ?_
      refine lx_move rfl rfl rfl ?_
      refine lx_loada 7 rfl rfl Tryd.isAgg32 Tryd.sizeOf32 (by simp) rfl rfl ?_
      refine lx_call rfl rfl ent12 (k6one) rfl rfl ?_
      refine lx_call rfl rfl ent10 (k6mul _ _) rfl rfl ?_
      refine lx_loada 7 rfl rfl Tryd.isAgg32 Tryd.sizeOf32 (by simp) rfl rfl ?_
      refine lx_callB true rfl rfl ent9 (k6equal _ _) (decide_eq_true (K6.mul_one _)) rfl rfl ?_
      refine lx_pick rfl rfl rfl rfl rfl ?_
      refine lx_assign rfl rfl rfl ?_
      refine lx_nil ?_
      refine xs_drawn (E := EE []) mixed (by kernel_rfl) (by kernel_rfl) (by kernel_rfl) ?_
      refine lx_move rfl rfl rfl ?_
      refine lx_move rfl rfl rfl ?_
      refine lx_loada 7 rfl rfl Tryd.isAgg32 Tryd.sizeOf32 (by simp) rfl rfl ?_
      refine lx_callB true rfl rfl ent13 (k6isZero _) (decide_eq_true (h0)) rfl rfl ?_
      refine lx_move rfl rfl rfl ?_
      refine lx_skip rfl rfl rfl ?_
      refine lx_skip rfl rfl rfl ?_
      refine lx_skip rfl rfl rfl ?_
      refine lx_skip rfl rfl rfl ?_
      refine lx_skip rfl rfl rfl ?_
      refine lx_skip rfl rfl rfl ?_
      refine lx_pick rfl rfl rfl rfl rfl ?_
      refine lx_pick rfl rfl rfl rfl rfl ?_
      refine lx_assign rfl rfl rfl ?_
      refine lx_nil ?_
      refine x_ret ?_
      repeat (first | refine kseq_ret ?_ | refine kblk_ret ?_)
      exact kret_tmp rfl rfl (fun w hw => ⟨rfl, hp_below hw⟩)
  · skip
    refine calls_of_X (G := Gt) Tryd.func3 rfl rfl (Hp (pl w) []) (hp_refl (pl w) trivial rides_true) (good_hp hGF) ?_
    refine xs_plain (E := EE []) ?_
    refine lx_assign rfl rfl rfl ?_
    refine lx_nil ?_
    refine x_seq ?_
    refine xs_plain (E := EE []) ?_
    refine lx_callB true rfl rfl ent5 (known6) (rfl) rfl rfl ?_
    refine lx_un rfl (fun _ => un_not _) rfl rfl ?_
    refine lx_nil ?_
    refine x_false rfl ?_
    refine x_skip ?_
    refine x_seq ?_
    refine xs_plain (E := EE []) ?_
    refine lx_move rfl rfl rfl ?_
    refine lx_move rfl rfl rfl ?_
    refine lx_move rfl rfl rfl ?_
    refine lx_bslV 940 (SVl [(e0, bs0.length, cap0), (e1, bs1.length, cap1), (e2, bs2.length, cap2)]) hGF rfl rfl rfl (by decide) (by decide) Tryd.underlying52 Tryd.sizeOf22 Tryd.zeroValue22 rfl rfl rfl ?_
    intro b940
    refine lx_callC rfl rfl ent6 (fun w' hC hG => light_calls b940 3 [(e0, bs0.length, cap0), (e1, bs1.length, cap1), (e2, bs2.length, cap2)] rfl (by decide) w' hG (hp_row (n := 940) rfl w' hC)) rfl rfl ?_
    refine lx_un rfl (fun _ => un_not _) rfl rfl ?_
    refine lx_nil ?_
    refine x_if rfl (fun hc => ?_) (fun hc => ?_)
    · skip
      refine xs_plain (E := EE []) ?_
      refine lx_assign rfl rfl rfl ?_
      refine lx_nil ?_
      refine x_ret ?_
      repeat (first | refine kseq_ret ?_ | refine kblk_ret ?_)
      exact kret_tmp rfl rfl (fun w hw => ⟨rfl, hp_below hw⟩)
    · have hl : ∀ v ∈ [(e0, bs0.length, cap0), (e1, bs1.length, cap1), (e2, bs2.length, cap2)], v.2.1 ≤ 200 := by simpa using hc
      have hl0 : bs0.length ≤ 200 := hl (e0, bs0.length, cap0) (by simp)
      have hl1 : bs1.length ≤ 200 := hl (e1, bs1.length, cap1) (by simp)
      have hl2 : bs2.length ≤ 200 := hl (e2, bs2.length, cap2) (by simp)
      clear hc hl
      refine x_skip ?_
      refine xs_plain (E := EE []) ?_
      refine lx_move rfl rfl rfl ?_
      refine lx_callC rfl rfl ent7 (fun w' hC hG => six_calls e0 cap0 bs0 (by omega) hcap0 w' hG (hb0.grow (hp_below hC))) rfl rfl ?_
      refine lx_move rfl rfl rfl ?_
      refine lx_callC rfl rfl ent7 (fun w' hC hG => six_calls e1 cap1 bs1 (by omega) hcap1 w' hG (hb1.grow (hp_below hC))) rfl rfl ?_
      refine lx_move rfl rfl rfl ?_
      refine lx_callC rfl rfl ent7 (fun w' hC hG => six_calls e2 cap2 bs2 (by omega) hcap2 w' hG (hb2.grow (hp_below hC))) rfl rfl ?_
      refine lx_allocr 7 hGF zv32 rfl rfl ?_
      intro b7
      refine lx_allocr 8 hGF zv32 rfl rfl ?_
      intro b8
      refine lx_allocr 9 hGF zv32 rfl rfl ?_
      intro b9
      refine lx_storea 7 hGF rfl rfl rfl Tryd.sizeOf32 (by simp) (by simp) (one_u64 _) rfl ?_
      refine lx_storea 8 hGF rfl rfl rfl Tryd.sizeOf32 (by simp) (by simp) (one_u64 _) rfl ?_
      refine lx_storea 9 hGF rfl rfl rfl Tryd.sizeOf32 (by simp) (by simp) (one_u64 _) rfl ?_
      refine lx_nil ?_
      refine xs_drawnT (E := EE []) [(26, [7], []), (27, [8], []), (28, [25, 26], [0, 1]), (29, [8], []), (30, [7], []), (31, [28, 29], [3, 4, 2]), (32, [27, 30], [2, 5, 5]), (33, [31], [6, 6]), (34, [7, 32], [7]), (35, [8, 32], [7]), (36, [33, 34, 32], [8, 9, 7, 7]), (37, [8, 32], [7]), (38, [7, 32], [7]), (39, [36, 37, 32], [11, 12, 10, 7]), (40, [35, 38, 32], [10, 13, 13, 7]), (41, [32, 39], [7, 14]), (42, [40], [15, 14]), (43, [7, 41], [16]), (44, [8, 41], [16]), (45, [9, 41], [16]), (46, [43, 44, 41], [18, 19, 16, 16]), (47, [42, 45, 41], [17, 20, 20, 16]), (48, [7, 41], [16]), (49, [8, 41], [16]), (50, [47, 48, 41], [22, 23, 21, 16]), (51, [9, 41], [16]), (52, [49, 50, 41], [24, 25, 24, 16]), (53, [46, 51, 41], [21, 26, 26, 16]), (54, [41, 52], [16, 27]), (55, [53], [28, 27]), (56, [7, 54], [29]), (57, [8, 54], [29]), (58, [9, 54], [29]), (59, [56, 57, 54], [31, 32, 29, 29]), (60, [55, 58, 54], [30, 33, 33, 29]), (61, [7, 54], [29]), (62, [8, 54], [29]), (63, [60, 61, 54], [35, 36, 34, 29]), (64, [9, 54], [29]), (65, [62, 63, 54], [37, 38, 37, 29]), (66, [59, 64, 54], [34, 39, 39, 29]), (67, [54, 65], [29, 40]), (68, [66], [41, 40]), (69, [7, 67], [42]), (70, [8, 67], [42]), (71, [9, 67], [42]), (72, [69, 70, 67], [44, 45, 42, 42]), (73, [68, 71, 67], [43, 46, 46, 42]), (74, [7, 67], [42]), (75, [8, 67], [42]), (76, [73, 74, 67], [48, 49, 47, 42]), (77, [7, 67], [42]), (78, [9, 67], [42]), (79, [76, 77, 67], [51, 52, 50, 42]), (80, [75, 78, 67], [50, 53, 53, 42]), (81, [72, 79, 67], [47, 54, 54, 42]), (82, [67, 80], [42, 55]), (83, [81], [56, 55]), (84, [7, 82], [57]), (85, [8, 82], [57]), (86, [83, 84, 82], [58, 59, 57, 57]), (87, [8, 82], [57]), (88, [85, 86, 82], [60, 61, 60, 57]), (89, [7, 82], [57]), (90, [87, 88, 82], [62, 63, 62, 57]), (91, [82, 89], [57, 64]), (92, [90], [65, 64]), (93, [7, 91], [66]), (94, [91], [66, 66]), (95, [92, 93, 91], [67, 68, 68, 66]), (96, [7, 91], [66]), (97, [94, 95, 91], [69, 70, 69, 66]), (98, [91, 96], [66, 71]), (11, [97], [72, 71, 0, 1, 2, 3, 4, 5, 6, 7, 8, 9, 10, 11, 12, 13, 14, 15, 16, 17, 18, 19, 20, 21, 22, 23, 24, 25, 26, 27, 28, 29, 30, 31, 32, 33, 34, 35, 36, 37, 38, 39, 40, 41, 42, 43, 44, 45, 46, 47, 48, 49, 50, 51, 52, 53, 54, 55, 56, 57, 58, 59, 60, 61, 62, 63, 64, 65, 66, 67, 68, 69, 70, 71, 72])] mixed (by kernel_rfl) (by kernel_rfl) (by kernel_rfl) (by kernel_rfl) (by kernel_rfl) ?_
      refine lx_loada 7 rfl rfl Tryd.isAgg32 Tryd.sizeOf32 (by simp) rfl rfl ?_
      refine lx_loada 8 rfl rfl Tryd.isAgg32 Tryd.sizeOf32 (by simp) rfl rfl ?_
      refine lx_call rfl rfl ent8 (k6add _ _) rfl rfl ?_
      refine lx_loada 8 rfl rfl Tryd.isAgg32 Tryd.sizeOf32 (by simp) rfl rfl ?_
      refine lx_loada 7 rfl rfl Tryd.isAgg32 Tryd.sizeOf32 (by simp) rfl rfl ?_
      refine lx_call rfl rfl ent8 (k6add _ _) rfl rfl ?_
      refine lx_callB true rfl rfl ent9 (k6equal _ _) (decide_eq_true (K6.add_comm _ _)) rfl rfl ?_
      refine lx_move rfl rfl rfl ?_
      refine lx_loada 7 rfl rfl Tryd.isAgg32 Tryd.sizeOf32 (by simp) rfl rfl ?_
      refine lx_loada 8 rfl rfl Tryd.isAgg32 Tryd.sizeOf32 (by simp) rfl rfl ?_
      refine lx_call rfl rfl ent10 (k6mul _ _) rfl rfl ?_
      refine lx_loada 8 rfl rfl Tryd.isAgg32 Tryd.sizeOf32 (by simp) rfl rfl ?_
      refine lx_loada 7 rfl rfl Tryd.isAgg32 Tryd.sizeOf32 (by simp) rfl rfl ?_
      refine lx_call rfl rfl ent10 (k6mul _ _) rfl rfl ?_
      refine lx_callB true rfl rfl ent9 (k6equal _ _) (decide_eq_true (K6.mul_comm _ _)) rfl rfl ?_
      refine lx_pick rfl rfl rfl rfl rfl ?_
      refine lx_move rfl rfl rfl ?_
      refine lx_loada 7 rfl rfl Tryd.isAgg32 Tryd.sizeOf32 (by simp) rfl rfl ?_
      refine lx_loada 8 rfl rfl Tryd.isAgg32 Tryd.sizeOf32 (by simp) rfl rfl ?_
      refine lx_loada 9 rfl rfl Tryd.isAgg32 Tryd.sizeOf32 (by simp) rfl rfl ?_
      refine lx_call rfl rfl ent8 (k6add _ _) rfl rfl ?_
      refine lx_call rfl rfl ent8 (k6add _ _) rfl rfl ?_
      refine lx_loada 7 rfl rfl Tryd.isAgg32 Tryd.sizeOf32 (by simp) rfl rfl ?_
      refine lx_loada 8 rfl rfl Tryd.isAgg32 Tryd.sizeOf32 (by simp) rfl rfl ?_
      refine lx_call rfl rfl ent8 (k6add _ _) rfl rfl ?_
      refine lx_loada 9 rfl rfl Tryd.isAgg32 Tryd.sizeOf32 (by simp) rfl rfl ?_
      refine lx_call rfl rfl ent8 (k6add _ _) rfl rfl ?_
      refine lx_callB true rfl rfl ent9 (k6equal _ _) (decide_eq_true ((K6.add_assoc _ _ _).symm)) rfl rfl ?_
      refine lx_pick rfl rfl rfl rfl rfl ?_
      refine lx_move rfl rfl rfl ?_
      refine lx_loada 7 rfl rfl Tryd.isAgg32 Tryd.sizeOf32 (by simp) rfl rfl ?_
      refine lx_loada 8 rfl rfl Tryd.isAgg32 Tryd.sizeOf32 (by simp) rfl rfl ?_
      refine lx_loada 9 rfl rfl Tryd.isAgg32 Tryd.sizeOf32 (by simp) rfl rfl ?_
      refine lx_call rfl rfl ent10 (k6mul _ _) rfl rfl ?_
      refine lx_call rfl rfl ent10 (k6mul _ _) rfl rfl ?_
      refine lx_loada 7 rfl rfl Tryd.isAgg32 Tryd.sizeOf32 (by simp) rfl rfl ?_
      refine lx_loada 8 rfl rfl Tryd.isAgg32 Tryd.sizeOf32 (by simp) rfl rfl ?_
      refine lx_call rfl rfl ent10 (k6mul _ _) rfl rfl ?_
      refine lx_loada 9 rfl rfl Tryd.isAgg32 Tryd.sizeOf32 (by simp) rfl rfl ?_
      refine lx_call rfl rfl ent10 (k6mul _ _) rfl rfl ?_
      refine lx_callB true rfl rfl ent9 (k6equal _ _) (decide_eq_true ((K6.mul_assoc _ _ _).symm)) rfl rfl ?_
      refine lx_pick rfl rfl rfl rfl rfl ?_
      refine lx_move rfl rfl rfl ?_
      refine lx_loada 7 rfl rfl Tryd.isAgg32 Tryd.sizeOf32 (by simp) rfl rfl ?_
      refine lx_loada 8 rfl rfl Tryd.isAgg32 Tryd.sizeOf32 (by simp) rfl rfl ?_
      refine lx_loada 9 rfl rfl Tryd.isAgg32 Tryd.sizeOf32 (by simp) rfl rfl ?_
      refine lx_call rfl rfl ent8 (k6add _ _) rfl rfl ?_
      refine lx_call rfl rfl ent10 (k6mul _ _) rfl rfl ?_
      refine lx_loada 7 rfl rfl Tryd.isAgg32 Tryd.sizeOf32 (by simp) rfl rfl ?_
      refine lx_loada 8 rfl rfl Tryd.isAgg32 Tryd.sizeOf32 (by simp) rfl rfl ?_
      refine lx_call rfl rfl ent10 (k6mul _ _) rfl rfl ?_
      refine lx_loada 7 rfl rfl Tryd.isAgg32 Tryd.sizeOf32 (by simp) rfl rfl ?_
      refine lx_loada 9 rfl rfl Tryd.isAgg32 Tryd.sizeOf32 (by simp) rfl rfl ?_
      refine lx_call rfl rfl ent10 (k6mul _ _) rfl rfl ?_
      refine lx_call rfl rfl ent8 (k6add _ _) rfl rfl ?_
      refine lx_callB true rfl rfl ent9 (k6equal _ _) (decide_eq_true (K6.mul_add _ _ _)) rfl rfl ?_
      refine lx_pick rfl rfl rfl rfl rfl ?_
      refine lx_move rfl rfl rfl ?_
      refine lx_loada 7 rfl rfl Tryd.isAgg32 Tryd.sizeOf32 (by simp) rfl rfl ?_
      refine lx_loada 8 rfl rfl Tryd.isAgg32 Tryd.sizeOf32 (by simp) rfl rfl ?_
      refine lx_call rfl rfl ent11 (k6sub _ _) rfl rfl ?_
      refine lx_loada 8 rfl rfl Tryd.isAgg32 Tryd.sizeOf32 (by simp) rfl rfl ?_
      refine lx_call rfl rfl ent8 (k6add _ _) rfl rfl ?_
      refine lx_loada 7 rfl rfl Tryd.isAgg32 Tryd.sizeOf32 (by simp) rfl rfl ?_
      refine lx_callB true rfl rfl ent9 (k6equal _ _) (decide_eq_true (sb6_add _ _)) rfl rfl ?_
      refine lx_pick rfl rfl rfl rfl rfl ?_
      refine lx_move rfl rfl rfl ?_
      refine lx_loada 7 rfl rfl Tryd.isAgg32 Tryd.sizeOf32 (by simp) rfl rfl ?_
      refine lx_call rfl rfl ent12 (k6one) rfl rfl ?_
      refine lx_call rfl rfl ent10 (k6mul _ _) rfl rfl ?_
      refine lx_loada 7 rfl rfl Tryd.isAgg32 Tryd.sizeOf32 (by simp) rfl rfl ?_
      refine lx_callB true rfl rfl ent9 (k6equal _ _) (decide_eq_true (K6.mul_one _)) rfl rfl ?_
      refine lx_pick rfl rfl rfl rfl rfl ?_
      refine lx_assign rfl rfl rfl ?_
      refine lx_nil ?_
      refine xs_drawn (E := EE []) mixed (by kernel_rfl) (by kernel_rfl) (by kernel_rfl) ?_
      refine lx_move rfl rfl rfl ?_
      refine lx_move rfl rfl rfl ?_
      refine lx_loada 7 rfl rfl Tryd.isAgg32 Tryd.sizeOf32 (by simp) rfl rfl ?_
      refine lx_callB false rfl rfl ent13 (k6isZero _) (decide_eq_false (h0)) rfl rfl ?_
      refine lx_move rfl rfl rfl ?_
      refine lx_loada 7 rfl rfl Tryd.isAgg32 Tryd.sizeOf32 (by simp) rfl rfl ?_
      refine lx_loada 7 rfl rfl Tryd.isAgg32 Tryd.sizeOf32 (by simp) rfl rfl ?_
      refine lx_call rfl rfl ent14 (k6inv _) rfl rfl ?_
      refine lx_call rfl rfl ent10 (k6mul _ _) rfl rfl ?_
      refine lx_call rfl rfl ent12 (k6one) rfl rfl ?_
      refine lx_callB true rfl rfl ent9 (k6equal _ _) (decide_eq_true (iv6_mul h0)) rfl rfl ?_
      refine lx_pick rfl rfl rfl rfl rfl ?_
      refine lx_pick rfl rfl rfl rfl rfl ?_
      refine lx_assign rfl rfl rfl ?_
      refine lx_nil ?_
      refine x_ret ?_
      repeat (first | refine kseq_ret ?_ | refine kblk_ret ?_)
      exact kret_tmp rfl rfl (fun w hw => ⟨rfl, hp_below hw⟩)
end Go.Proofs.YtpigcehbafcdkaaDoor
