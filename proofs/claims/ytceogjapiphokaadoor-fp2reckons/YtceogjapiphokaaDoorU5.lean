/-
  The law Fp2Reckons.
-/
import Derived.Test.YtceogjapiphokaaDoorXA
namespace Go.Proofs.YtceogjapiphokaaDoor
open Go.RowKit
set_option maxRecDepth 100000
set_option maxHeartbeats 1000000
attribute [local simp] fe_len nm_len AS_len SS_len MONT_len RM_len FRs_len BYs_len by48_len PLl TWOl ONEl N1l IVPl HFPl RTPl FL_len SP_len fe2_len SP2_len FM_len

theorem same5C (x : W2) (c d : Zp) : Pure Tryd.prog Gt 15 [EV2 x, .agg ((fe c ++ fe d).map U64).toArray] (.bool (decide (x = (c, d)))) := same5 x (c, d)
theorem zero2 : Pure Tryd.prog Gt 34 [.agg ((fe 0 ++ fe 0).map U64).toArray] (.bool true) := by
  have h := e2isZero ze2
  rw [decide_eq_true rfl] at h
  exact h
theorem zeroI : Pure Tryd.prog Gt 27 [.agg ((fe 0 ++ fe 0).map U64).toArray] (EV2 ze2) := by
  have h := e2inv ze2
  rw [iv2_ze] at h
  exact h
theorem reckons5 (e0 : Option Addr) (cap0 : Nat) (bs0 : List (BitVec 8)) (hcap0 : bs0.length ≤ cap0) (e1 : Option Addr) (cap1 : Nat) (bs1 : List (BitVec 8)) (hcap1 : bs1.length ≤ cap1) (e2 : Option Addr) (cap2 : Nat) (bs2 : List (BitVec 8)) (hcap2 : bs2.length ≤ cap2) (w : World) (hw : Gt w) (hb0 : BytesAt w e0 bs0) (hb1 : BytesAt w e1 bs1) (hb2 : BytesAt w e2 bs2) :
    Calls Tryd.prog 3 [.slice e0 bs0.length cap0, .slice e1 bs1.length cap1, .slice e2 bs2.length cap2].toArray w (fun r w' => r = .returned (.bool true) ∧ Grow w w') := by
  have hGF : BOk Gt (pl w) := gt_low.plain hw
  refine calls_of_X (G := Gt) Tryd.func3 rfl rfl (Hp (pl w) []) (hp_refl (pl w) trivial rides_true) (good_hp hGF) ?_
  refine xs_plain (E := EE []) ?_
  refine lx_assign rfl rfl rfl ?_
  refine lx_nil ?_
  refine x_seq ?_
  refine xs_plain (E := EE []) ?_
  refine lx_callB true rfl rfl ent9 (known5) (rfl) rfl rfl ?_
  refine lx_un rfl (fun _ => un_not _) rfl rfl ?_
  refine lx_nil ?_
  refine x_false rfl ?_
  refine x_skip ?_
  refine x_seq ?_
  refine xs_plain (E := EE []) ?_
  refine lx_move rfl rfl rfl ?_
  refine lx_move rfl rfl rfl ?_
  refine lx_move rfl rfl rfl ?_
  refine lx_bslV 940 (SVl [(e0, bs0.length, cap0), (e1, bs1.length, cap1), (e2, bs2.length, cap2)]) hGF rfl rfl rfl (by decide) (by decide) Tryd.underlying65 Tryd.sizeOf22 Tryd.zeroValue22 rfl rfl rfl ?_
  intro b940
  refine lx_callC rfl rfl ent10 (fun w' hC hG => light_calls b940 3 [(e0, bs0.length, cap0), (e1, bs1.length, cap1), (e2, bs2.length, cap2)] rfl (by decide) w' hG (hp_row (n := 940) rfl w' hC)) rfl rfl ?_
  refine lx_un rfl (fun _ => un_not _) rfl rfl ?_
  refine lx_nil ?_
  refine x_if rfl (fun hc => ?_) (fun hc => ?_)
  · skip
    refine xs_plain (E := EE []) ?_
    refine lx_assign rfl rfl rfl ?_
    refine lx_nil ?_
    refine x_ret ?_
    repeat (first | refine kseq_ret ?_ | refine kblk_ret ?_)
    exact kret_tmp rfl rfl (fun w hw => ⟨rfl, hp_below hw⟩)
  · have hl : ∀ v ∈ [(e0, bs0.length, cap0), (e1, bs1.length, cap1), (e2, bs2.length, cap2)], v.2.1 ≤ 200 := by simpa using hc
    have hl0 : bs0.length ≤ 200 := hl (e0, bs0.length, cap0) (by simp)
    have hl1 : bs1.length ≤ 200 := hl (e1, bs1.length, cap1) (by simp)
    have hl2 : bs2.length ≤ 200 := hl (e2, bs2.length, cap2) (by simp)
    clear hc hl
    refine x_skip ?_
    refine xs_plain (E := EE []) ?_
    refine lx_move rfl rfl rfl ?_
    refine lx_callC rfl rfl ent11 (fun w' hC hG => num_calls e0 cap0 bs0 (by omega) hcap0 w' hG (hb0.grow (hp_below hC))) rfl rfl ?_
    refine lx_move rfl rfl rfl ?_
    refine lx_callC rfl rfl ent11 (fun w' hC hG => num_calls e1 cap1 bs1 (by omega) hcap1 w' hG (hb1.grow (hp_below hC))) rfl rfl ?_
    refine lx_allocr 7 hGF zv30 rfl rfl ?_
    intro b7
    refine lx_allocr 8 hGF zv30 rfl rfl ?_
    intro b8
    refine lx_storea 7 hGF rfl rfl rfl Tryd.sizeOf30 (by simp) (by simp) (one_u64 _) rfl ?_
    refine lx_storea 8 hGF rfl rfl rfl Tryd.sizeOf30 (by simp) (by simp) (one_u64 _) rfl ?_
    refine lx_nil ?_
    refine xs_drawA (E := EE [2999999]) [0, 1, 2, 3] [⟨4, 9, 36, (fe 0 ++ fe 0).map U64⟩, ⟨5, 10, 36, (fe 0 ++ fe 0).map U64⟩] [6, 7] mixed rfl (by kernel_rfl) (by kernel_rfl) (by kernel_rfl) (by kernel_rfl) (by kernel_rfl) (by kernel_rfl) (by decide) (by intro x hx; simp only [List.mem_cons, List.not_mem_nil, or_false] at hx; rcases hx with rfl | rfl <;> exact isAlloc_mk rfl zv36 rfl) ?_
    refine lx_loada 7 rfl rfl Tryd.isAgg30 Tryd.sizeOf30 (by simp) rfl rfl ?_
    refine lx_call rfl rfl ent12 (ref5 _) rfl rfl ?_
    refine lx_loada 8 rfl rfl Tryd.isAgg30 Tryd.sizeOf30 (by simp) rfl rfl ?_
    refine lx_call rfl rfl ent12 (ref5 _) rfl rfl ?_
    refine lx_nil ?_
    refine ⟨_, _, rfl, hGF, by intro x hx; simp only [List.mem_cons, List.not_mem_nil, or_false] at hx; rcases hx with rfl | rfl <;> rfl, by intro x hx; simp only [List.mem_cons, List.not_mem_nil, or_false] at hx; rcases hx with rfl | rfl <;> rfl, fun adr => ?_⟩
    refine lx_storea 9 hGF rfl rfl rfl Tryd.sizeOf36 (by simp) (by simp) (one_u64 _) rfl ?_
    refine lx_storea 10 hGF rfl rfl rfl Tryd.sizeOf36 (by simp) (by simp) (one_u64 _) rfl ?_
    refine lx_nil ?_
    refine xs_plain (E := EE []) ?_
    refine lx_move rfl rfl rfl ?_
    refine lx_move rfl rfl rfl ?_
    refine lx_len rfl (fun _ => len_slice Tryd.underlying22 _ _ _ _) rfl rfl ?_
    refine lx_min (z := ((min bs2.length 100 : Nat) : Int)) rfl rfl (by split <;> omega) rfl rfl ?_
    refine lx_slsl (l := 0) (h' := min bs2.length 100) rfl Tryd.underlying22 Tryd.sizeOf5 rfl rfl (by omega) rfl rfl ?_
    refine lx_callC rfl rfl ent13 (fun w' hC hG => wide_cut e2 cap2 bs2 0 (min bs2.length 100) _ _ rfl (by omega) (by omega) hcap2 (by omega) w' hG (hb2.grow (hp_below hC))) rfl rfl ?_
    refine lx_allocr 11 hGF zv28 rfl rfl ?_
    intro b11
    refine lx_storea 11 hGF rfl rfl rfl Tryd.sizeOf28 (by simp) (by simp) (one_u64 _) rfl ?_
    refine lx_nil ?_
    refine xs_plain (E := EE []) ?_
    refine lx_loada 11 rfl rfl Tryd.isAgg28 Tryd.sizeOf28 (by simp) rfl rfl ?_
    refine lx_call rfl rfl ent14 (part5 _) rfl rfl ?_
    refine lx_allocr 12 hGF zv34 rfl rfl ?_
    intro b12
    refine lx_storea 12 hGF rfl rfl rfl Tryd.sizeOf34 (by simp) (by simp) (one_u64 _) rfl ?_
    refine lx_nil ?_
    refine xs_plain (E := EE []) ?_
    refine lx_allocr 13 hGF zv30 rfl rfl ?_
    intro b13
    refine lx_nil ?_
    refine xs_drawnT (E := EE []) [(39, [7], []), (40, [8], []), (41, [38, 39], [0, 1]), (42, [9], []), (43, [10], []), (44, [41, 42], [3, 4, 2]), (45, [40, 43], [2, 5, 5]), (46, [44], [6, 6]), (47, [7, 45], [7]), (48, [8, 45], [7]), (49, [46, 47, 45], [8, 9, 7, 7]), (50, [9, 45], [7]), (51, [10, 45], [7]), (52, [49, 50, 45], [11, 12, 10, 7]), (53, [48, 51, 45], [10, 13, 13, 7]), (54, [45, 52], [7, 14]), (55, [53], [15, 14]), (56, [7, 54], [16]), (57, [55, 54], [17, 16, 16]), (58, [9, 54], [16]), (59, [57, 54], [19, 18, 16]), (60, [56, 58, 54], [18, 20, 20, 16]), (61, [54, 59], [16, 21]), (62, [60], [22, 21]), (63, [7, 61], [23]), (64, [62, 61], [24, 23, 23]), (65, [9, 61], [23]), (66, [64, 61], [26, 25, 23]), (67, [63, 65, 61], [25, 27, 27, 23]), (68, [61, 66], [23, 28]), (69, [67], [29, 28]), (70, [7, 68], [30]), (71, [8, 68], [30]), (72, [69, 70, 68], [31, 32, 30, 30]), (73, [9, 68], [30]), (74, [10, 68], [30]), (75, [72, 73, 68], [34, 35, 33, 30]), (76, [71, 74, 68], [33, 36, 36, 30]), (77, [68, 75], [30, 37]), (78, [76], [38, 37]), (79, [7, 77], [39]), (80, [78, 77], [40, 39, 39]), (81, [9, 77], [39]), (82, [9, 77], [39]), (83, [80, 81, 77], [42, 43, 41, 39]), (84, [79, 82, 77], [41, 44, 44, 39]), (85, [77, 83], [39, 45]), (86, [84], [46, 45]), (87, [7, 85], [47]), (88, [86, 85], [48, 47, 47]), (89, [9, 85], [47]), (90, [88, 85], [50, 49, 47]), (91, [87, 89, 85], [49, 51, 51, 47]), (92, [85, 90], [47, 52]), (93, [91], [53, 52]), (94, [7, 92], [54]), (95, [93, 92], [55, 54, 54]), (96, [9, 92], [54]), (97, [95, 92], [57, 56, 54]), (98, [94, 96, 92], [56, 58, 58, 54]), (99, [92, 97], [54, 59]), (100, [98], [60, 59]), (101, [7, 99], [61]), (102, [11, 99], [61]), (103, [100, 101, 99], [62, 63, 61, 61]), (104, [9, 99], [61]), (105, [103, 99], [65, 61]), (106, [12, 99], [61]), (107, [104, 105, 99], [66, 67, 64, 61]), (108, [9, 99], [61]), (109, [107, 99], [69, 61]), (110, [12, 99], [61]), (111, [108, 109, 99], [70, 71, 68, 61]), (112, [106, 110, 99], [68, 72, 61]), (113, [102, 111, 99], [64, 73, 72, 61]), (114, [99, 112], [61, 74]), (115, [113], [75, 74]), (116, [7, 114], [76]), (117, [8, 114], [76]), (118, [115, 116, 114], [77, 78, 76, 76]), (119, [9, 114], [76]), (120, [10, 114], [76]), (121, [118, 119, 114], [80, 81, 76]), (122, [117, 120, 114], [79, 82, 76]), (123, [114, 121], [76, 83]), (124, [122], [84, 79]), (125, [7, 123], [85]), (126, [124, 123], [86, 85, 85]), (127, [9, 123], [85]), (128, [126, 123], [88, 87, 85]), (129, [125, 127, 123], [87, 89, 85]), (130, [123, 128], [85, 90]), (131, [129], [91, 89]), (132, [13, 130], [92]), (133, [131, 130], [93, 92, 92]), (134, [130, 132], [92, 94]), (135, [133], [95, 94]), (136, [13, 134], [96]), (137, [135, 134], [97, 96, 96]), (138, [136, 134], [98, 98, 96]), (139, [134, 137], [96, 99]), (7, [138], [100, 99, 0, 1, 2, 3, 4, 5, 6, 7, 8, 9, 10, 11, 12, 13, 14, 15, 16, 17, 18, 19, 20, 21, 22, 23, 24, 25, 26, 27, 28, 29, 30, 31, 32, 33, 34, 35, 36, 37, 38, 39, 40, 41, 42, 43, 44, 45, 46, 47, 48, 49, 50, 51, 52, 53, 54, 55, 56, 57, 58, 59, 60, 61, 62, 63, 64, 65, 66, 67, 68, 69, 70, 71, 72, 73, 74, 75, 76, 77, 78, 79, 80, 81, 82, 83, 84, 85, 86, 87, 88, 89, 90, 91, 92, 93, 94, 95, 96, 97, 98, 99, 100])] mixed (by kernel_rfl) (by kernel_rfl) (by kernel_rfl) (by kernel_rfl) (by kernel_rfl) ?_
    refine lx_loada 7 rfl rfl Tryd.isAgg30 Tryd.sizeOf30 (by simp) rfl rfl ?_
    refine lx_loada 8 rfl rfl Tryd.isAgg30 Tryd.sizeOf30 (by simp) rfl rfl ?_
    refine lx_call rfl rfl ent16 (e2add _ _) rfl rfl ?_
    refine lx_loada 9 rfl rfl Tryd.isAgg36 Tryd.sizeOf36 (by simp) rfl rfl ?_
    refine lx_loada 10 rfl rfl Tryd.isAgg36 Tryd.sizeOf36 (by simp) rfl rfl ?_
    refine lx_call rfl rfl ent17 (r5add _ _) rfl rfl ?_
    refine lx_callB true rfl rfl ent15 (same5 _ _) (decide_eq_true rfl) rfl rfl ?_
    refine lx_move rfl rfl rfl ?_
    refine lx_loada 7 rfl rfl Tryd.isAgg30 Tryd.sizeOf30 (by simp) rfl rfl ?_
    refine lx_loada 8 rfl rfl Tryd.isAgg30 Tryd.sizeOf30 (by simp) rfl rfl ?_
    refine lx_call rfl rfl ent18 (e2sub _ _) rfl rfl ?_
    refine lx_loada 9 rfl rfl Tryd.isAgg36 Tryd.sizeOf36 (by simp) rfl rfl ?_
    refine lx_loada 10 rfl rfl Tryd.isAgg36 Tryd.sizeOf36 (by simp) rfl rfl ?_
    refine lx_call rfl rfl ent19 (r5sub _ _) rfl rfl ?_
    refine lx_callB true rfl rfl ent15 (same5 _ _) (decide_eq_true rfl) rfl rfl ?_
    refine lx_pick rfl rfl rfl rfl rfl ?_
    refine lx_move rfl rfl rfl ?_
    refine lx_loada 7 rfl rfl Tryd.isAgg30 Tryd.sizeOf30 (by simp) rfl rfl ?_
    refine lx_call rfl rfl ent20 (e2neg _) rfl rfl ?_
    refine lx_loada 9 rfl rfl Tryd.isAgg36 Tryd.sizeOf36 (by simp) rfl rfl ?_
    refine lx_call rfl rfl ent21 (r5neg _) rfl rfl ?_
    refine lx_callB true rfl rfl ent15 (same5 _ _) (decide_eq_true rfl) rfl rfl ?_
    refine lx_pick rfl rfl rfl rfl rfl ?_
    refine lx_move rfl rfl rfl ?_
    refine lx_loada 7 rfl rfl Tryd.isAgg30 Tryd.sizeOf30 (by simp) rfl rfl ?_
    refine lx_call rfl rfl ent22 (e2conj _) rfl rfl ?_
    refine lx_loada 9 rfl rfl Tryd.isAgg36 Tryd.sizeOf36 (by simp) rfl rfl ?_
    refine lx_call rfl rfl ent23 (r5conj _) rfl rfl ?_
    refine lx_callB true rfl rfl ent15 (same5 _ _) (decide_eq_true rfl) rfl rfl ?_
    refine lx_pick rfl rfl rfl rfl rfl ?_
    refine lx_move rfl rfl rfl ?_
    refine lx_loada 7 rfl rfl Tryd.isAgg30 Tryd.sizeOf30 (by simp) rfl rfl ?_
    refine lx_loada 8 rfl rfl Tryd.isAgg30 Tryd.sizeOf30 (by simp) rfl rfl ?_
    refine lx_call rfl rfl ent24 (e2mul _ _) rfl rfl ?_
    refine lx_loada 9 rfl rfl Tryd.isAgg36 Tryd.sizeOf36 (by simp) rfl rfl ?_
    refine lx_loada 10 rfl rfl Tryd.isAgg36 Tryd.sizeOf36 (by simp) rfl rfl ?_
    refine lx_call rfl rfl ent25 (r5mul _ _) rfl rfl ?_
    refine lx_callB true rfl rfl ent15 (same5 _ _) (decide_eq_true rfl) rfl rfl ?_
    refine lx_pick rfl rfl rfl rfl rfl ?_
    refine lx_move rfl rfl rfl ?_
    refine lx_loada 7 rfl rfl Tryd.isAgg30 Tryd.sizeOf30 (by simp) rfl rfl ?_
    refine lx_call rfl rfl ent26 (e2square _) rfl rfl ?_
    refine lx_loada 9 rfl rfl Tryd.isAgg36 Tryd.sizeOf36 (by simp) rfl rfl ?_
    refine lx_loada 9 rfl rfl Tryd.isAgg36 Tryd.sizeOf36 (by simp) rfl rfl ?_
    refine lx_call rfl rfl ent25 (r5mul _ _) rfl rfl ?_
    refine lx_callB true rfl rfl ent15 (same5 _ _) (decide_eq_true rfl) rfl rfl ?_
    refine lx_pick rfl rfl rfl rfl rfl ?_
    refine lx_move rfl rfl rfl ?_
    refine lx_loada 7 rfl rfl Tryd.isAgg30 Tryd.sizeOf30 (by simp) rfl rfl ?_
    refine lx_call rfl rfl ent27 (e2inv _) rfl rfl ?_
    refine lx_loada 9 rfl rfl Tryd.isAgg36 Tryd.sizeOf36 (by simp) rfl rfl ?_
    refine lx_call rfl rfl ent28 (r5inv _) rfl rfl ?_
    refine lx_callB true rfl rfl ent15 (same5 _ _) (decide_eq_true rfl) rfl rfl ?_
    refine lx_pick rfl rfl rfl rfl rfl ?_
    refine lx_move rfl rfl rfl ?_
    refine lx_loada 7 rfl rfl Tryd.isAgg30 Tryd.sizeOf30 (by simp) rfl rfl ?_
    refine lx_call rfl rfl ent29 (e2xi _) rfl rfl ?_
    refine lx_loada 9 rfl rfl Tryd.isAgg36 Tryd.sizeOf36 (by simp) rfl rfl ?_
    refine lx_call rfl rfl ent30 (r5xi _) rfl rfl ?_
    refine lx_callB true rfl rfl ent15 (same5 _ _) (decide_eq_true rfl) rfl rfl ?_
    refine lx_pick rfl rfl rfl rfl rfl ?_
    refine lx_move rfl rfl rfl ?_
    refine lx_loada 7 rfl rfl Tryd.isAgg30 Tryd.sizeOf30 (by simp) rfl rfl ?_
    refine lx_loada 11 rfl rfl Tryd.isAgg28 Tryd.sizeOf28 (by simp) rfl rfl ?_
    refine lx_call rfl rfl ent31 (e2scale _ _) rfl rfl ?_
    refine lx_fak 0 rfl Tryd.underlying36 rfl Tryd.sizeOf34 (by decide) rfl rfl rfl ?_
    refine lx_loado 9 _ rfl rfl Tryd.isAgg34 Tryd.sizeOf34 (by simp) ld_l rfl rfl ?_
    refine lx_loada 12 rfl rfl Tryd.isAgg34 Tryd.sizeOf34 (by simp) rfl rfl ?_
    refine lx_call rfl rfl ent32 (rmulE _ _) rfl rfl ?_
    refine lx_fak 6 rfl Tryd.underlying36 rfl Tryd.sizeOf34 (by decide) rfl rfl rfl ?_
    refine lx_loado 9 _ rfl rfl Tryd.isAgg34 Tryd.sizeOf34 (by simp) (ld_r (by simp)) rfl rfl ?_
    refine lx_loada 12 rfl rfl Tryd.isAgg34 Tryd.sizeOf34 (by simp) rfl rfl ?_
    refine lx_call rfl rfl ent32 (rmulE _ _) rfl rfl ?_
    refine lx_two two36 rfl rfl (by simp) (by simp) rfl rfl ?_
    refine lx_callB true rfl rfl ent15 (same5C _ _ _) (decide_eq_true rfl) rfl rfl ?_
    refine lx_pick rfl rfl rfl rfl rfl ?_
    refine lx_move rfl rfl rfl ?_
    refine lx_loada 7 rfl rfl Tryd.isAgg30 Tryd.sizeOf30 (by simp) rfl rfl ?_
    refine lx_loada 8 rfl rfl Tryd.isAgg30 Tryd.sizeOf30 (by simp) rfl rfl ?_
    refine lx_call rfl rfl ent33 (e2equal _ _) rfl rfl ?_
    refine lx_loada 9 rfl rfl Tryd.isAgg36 Tryd.sizeOf36 (by simp) rfl rfl ?_
    refine lx_loada 10 rfl rfl Tryd.isAgg36 Tryd.sizeOf36 (by simp) rfl rfl ?_
    refine lx_bin rfl rfl (fun _ => eqg36 _ _ _ _ _ _) (fun w => eqv36 _ _ (by simp) (by simp) w) rfl rfl ?_
    refine lx_binB true rfl rfl (fun _ => rfl) (fun w => bin_eql_bool 4 Tryd.underlying4 _ _ w) (by rw [fe2_dec]; exact beq_self_eq_true _) rfl rfl ?_
    refine lx_pick rfl rfl rfl rfl rfl ?_
    refine lx_move rfl rfl rfl ?_
    refine lx_loada 7 rfl rfl Tryd.isAgg30 Tryd.sizeOf30 (by simp) rfl rfl ?_
    refine lx_call rfl rfl ent34 (e2isZero _) rfl rfl ?_
    refine lx_loada 9 rfl rfl Tryd.isAgg36 Tryd.sizeOf36 (by simp) rfl rfl ?_
    refine lx_call rfl rfl ent35 (r5isZero _) rfl rfl ?_
    refine lx_binB true rfl rfl (fun _ => rfl) (fun w => bin_eql_bool 4 Tryd.underlying4 _ _ w) (beq_self_eq_true _) rfl rfl ?_
    refine lx_pick rfl rfl rfl rfl rfl ?_
    refine lx_move rfl rfl rfl ?_
    refine lx_loada 13 rfl rfl Tryd.isAgg30 Tryd.sizeOf30 (by simp) rfl rfl ?_
    refine lx_callB true rfl rfl ent34 (zero2) (rfl) rfl rfl ?_
    refine lx_pick rfl rfl rfl rfl rfl ?_
    refine lx_move rfl rfl rfl ?_
    refine lx_loada 13 rfl rfl Tryd.isAgg30 Tryd.sizeOf30 (by simp) rfl rfl ?_
    refine lx_call rfl rfl ent27 (zeroI) rfl rfl ?_
    refine lx_callB true rfl rfl ent34 (e2isZero _) (decide_eq_true rfl) rfl rfl ?_
    refine lx_pick rfl rfl rfl rfl rfl ?_
    refine lx_assign rfl rfl rfl ?_
    refine lx_nil ?_
    refine x_ret ?_
    repeat (first | refine kseq_ret ?_ | refine kblk_ret ?_)
    exact kret_tmp rfl rfl (fun w hw => ⟨rfl, hp_below hw⟩)
end Go.Proofs.YtceogjapiphokaaDoor
