/-
  What the laws of layer 6 share; the law Fp6Reckons.
-/
import Derived.Test.YtpigcehbafcdkaaGreatDoorXB
namespace Go.Proofs.YtpigcehbafcdkaaGreatDoor
open Go.RowKit
set_option maxRecDepth 100000
set_option maxHeartbeats 1000000
attribute [local simp] fe_len nm_len AS_len SS_len MONT_len RM_len FRs_len BYs_len by48_len PLl TWOl ONEl N1l IVPl HFPl RTPl FL_len SP_len fe2_len SP2_len FM_len FF_len

theorem small5r (a b : BitVec 64) : Pure Tryz.prog Gt 28 [U64 a, U64 b] (EV2 (sm2 a b)) := by
  intro w hw
  have hGF : BOk Gt (pl w) := gt_low.plain hw
  refine calls_of_X (G := Gt) Tryz.func28 rfl rfl (Hp (pl w) []) (hp_refl (pl w) trivial rides_true) (good_hp hGF) ?_
  refine xs_plain (E := EE []) ?_
  refine lx_allocr 4 hGF zv39 rfl rfl ?_
  intro b4
  refine lx_nil ?_
  refine xs_plain (E := EE []) ?_
  refine lx_move rfl rfl rfl ?_
  refine lx_call rfl rfl ent43 (rsmallE _) rfl rfl ?_
  refine lx_move rfl rfl rfl ?_
  refine lx_call rfl rfl ent43 (rsmallE _) rfl rfl ?_
  refine lx_two two39 rfl rfl (by simp) (by simp) rfl rfl ?_
  refine lx_storea 4 hGF rfl rfl rfl Tryz.sizeOf39 (by simp) (by simp) (one_u64 _) rfl ?_
  refine lx_nil ?_
  refine x_ret ?_
  repeat (first | refine kseq_ret ?_ | refine kblk_ret ?_)
  exact kret_own 4 rfl rfl rfl Tryz.isAgg39 Tryz.sizeOf39 (by simp) (fun w hw => ⟨rfl, hp_below hw⟩)
theorem k6eq0 (x : W6) (a : W2) : Pure Tryz.prog Gt 23 [EV6 x, .agg (((fe a.1 ++ fe a.2) ++ ((fe 0 ++ fe 0) ++ (fe 0 ++ fe 0))).map U64).toArray] (.bool (decide (x = (a, ze2, ze2)))) := k6equal x (a, ze2, ze2)
theorem k6eq2 (x : W6) (a : W2) : Pure Tryz.prog Gt 23 [EV6 x, .agg (((fe 0 ++ fe 0) ++ ((fe 0 ++ fe 0) ++ (fe a.1 ++ fe a.2))).map U64).toArray] (.bool (decide (x = (ze2, ze2, a)))) := k6equal x (ze2, ze2, a)
theorem kn1 : K6.mul (K6.mul VE VE) VE = (sm2 1#64 1#64, ze2, ze2) := ve_cube.trans (by decide +kernel)
theorem kn2 : K6.mul VE VE = (ze2, ze2, sm2 1#64 0#64) := ve_sq.trans (by decide +kernel)
abbrev RX (x : W6) : Nat → W2 := ev3 x.1 x.2.1 x.2.2
theorem tq_RX (x : W6) : tq (RX x) = r6 x := rfl
theorem eqT {f g : Nat → W2} (h : tq f = tq g) : decide (FM (FF f) 6 = FM (FF g) 6) = true := (FF_dec f g).trans (decide_eq_true h)
theorem RX_dec (x y : W6) : decide (FM (FF (RX x)) 6 = FM (FF (RX y)) 6) = decide (x = y) := (FF_dec _ _).trans (decide_eq_decide.2 ⟨fun h => r6_inj h, fun h => by rw [h]⟩)
theorem RX_zero (x : W6) : decide (FM (FF (RX x)) 6 = FM (FF fun _ => ze2) 6) = decide (x = K6.zero) := (FF_dec _ _).trans (decide_eq_decide.2 ⟨fun h => r6_inj (y := K6.zero) h, fun h => by rw [h]; rfl⟩)
theorem q_add (x y : W6) : decide (FM (FF (RX (K6.add x y))) 6 = FM (FF fun i => ad2 (RX x i) (RX y i)) 6) = true := eqT (r6_add x y).symm
theorem q_sub (x y : W6) : decide (FM (FF (RX (sb6 x y))) 6 = FM (FF fun i => ad2 (RX x i) (ng2 (RX y i))) 6) = true := eqT (r6_sub x y).symm
theorem q_neg (x : W6) : decide (FM (FF (RX (K6.neg x))) 6 = FM (FF fun i => ng2 (RX x i)) 6) = true := eqT (r6_neg x).symm
theorem q_mul (x y : W6) : decide (FM (FF (RX (K6.mul x y))) 6 = FM (FF (TMf (RX x) (RX y))) 6) = true := eqT ((tq_mul (RX x) (RX y)).trans (r6_mul x y)).symm
theorem q_scale (x : W6) (c : W2) : decide (FM (FF (RX (sc6 x c))) 6 = FM (FF (TMf (RX x) (ev1 0 c))) 6) = true := eqT ((tq_mul (RX x) (ev1 0 c)).trans (r6_scale x c)).symm
theorem q_v (x : W6) : decide (FM (FF (RX (v6 x))) 6 = FM (FF (TMf (RX x) (ev1 2 on2))) 6) = true := eqT ((tq_mul (RX x) (ev1 2 on2)).trans (r6_v x)).symm
theorem q_inv (x : W6) : decide (FM (FF (RX (iv6 x))) 6 = FM (FF (TIf (RX x))) 6) = true := eqT ((tq_inv (RX x)).trans (r6_inv x)).symm
theorem b_eq (x y : W6) : (decide (x = y) == decide (FM (FF (RX x)) 6 = FM (FF (RX y)) 6)) = true := by rw [RX_dec]; exact beq_self_eq_true _
theorem b_ze (x : W6) : (decide (x = K6.zero) == decide (FM (FF (RX x)) 6 = FM (FF fun _ => ze2) 6)) = true := by rw [RX_zero]; exact beq_self_eq_true _
theorem zeroI6 : Pure Tryz.prog Gt 21 [.agg ((((fe 0 ++ fe 0) ++ ((fe 0 ++ fe 0) ++ (fe 0 ++ fe 0)))).map U64).toArray] (EV6 K6.zero) := by
  have h := k6inv K6.zero
  rw [iv6_ze] at h
  exact h
theorem known6  : Pure Tryz.prog Gt 4 [] (.bool true) := by
  intro w hw
  have hGF : BOk Gt (pl w) := gt_low.plain hw
  refine calls_of_X (G := Gt) Tryz.func4 rfl rfl (Hp (pl w) []) (hp_refl (pl w) trivial rides_true) (good_hp hGF) ?_
  refine xs_plain (E := EE []) ?_
  refine lx_assign rfl rfl rfl ?_
  refine lx_nil ?_
  refine xs_plain (E := EE []) ?_
  refine lx_call rfl rfl ent25 (k6one) rfl rfl ?_
  refine lx_call rfl rfl ent19 (k6v _) rfl rfl ?_
  refine lx_allocr 1 hGF zv32 rfl rfl ?_
  intro b1
  refine lx_storea 1 hGF rfl rfl rfl Tryz.sizeOf32 (by simp) (by simp) (one_u64 _) rfl ?_
  refine lx_nil ?_
  refine xs_drawn (E := EE []) mixed (by kernel_rfl) (by kernel_rfl) (by kernel_rfl) ?_
  refine lx_loada 1 rfl rfl Tryz.isAgg32 Tryz.sizeOf32 (by simp) rfl rfl ?_
  refine lx_loada 1 rfl rfl Tryz.isAgg32 Tryz.sizeOf32 (by simp) rfl rfl ?_
  refine lx_call rfl rfl ent14 (k6mul _ _) rfl rfl ?_
  refine lx_loada 1 rfl rfl Tryz.isAgg32 Tryz.sizeOf32 (by simp) rfl rfl ?_
  refine lx_call rfl rfl ent14 (k6mul _ _) rfl rfl ?_
  refine lx_call rfl rfl ent26 (small5 _ _) rfl rfl ?_
  refine lx_three0 three32 rfl (by simp) rfl rfl ?_
  refine lx_callB true rfl rfl ent23 (k6eq0 _ _) (decide_eq_true kn1) rfl rfl ?_
  refine lx_move rfl rfl rfl ?_
  refine lx_loada 1 rfl rfl Tryz.isAgg32 Tryz.sizeOf32 (by simp) rfl rfl ?_
  refine lx_call rfl rfl ent16 (k6square _) rfl rfl ?_
  refine lx_call rfl rfl ent26 (small5 _ _) rfl rfl ?_
  refine lx_three2 three32 rfl (by simp) rfl rfl ?_
  refine lx_callB true rfl rfl ent23 (k6eq2 _ _) (decide_eq_true kn2) rfl rfl ?_
  refine lx_pick rfl rfl rfl rfl rfl ?_
  refine lx_move rfl rfl rfl ?_
  refine lx_loada 1 rfl rfl Tryz.isAgg32 Tryz.sizeOf32 (by simp) rfl rfl ?_
  refine lx_loada 1 rfl rfl Tryz.isAgg32 Tryz.sizeOf32 (by simp) rfl rfl ?_
  refine lx_call rfl rfl ent21 (k6inv _) rfl rfl ?_
  refine lx_call rfl rfl ent14 (k6mul _ _) rfl rfl ?_
  refine lx_call rfl rfl ent25 (k6one) rfl rfl ?_
  refine lx_callB true rfl rfl ent23 (k6equal _ _) (decide_eq_true (iv6_mul ve_ne)) rfl rfl ?_
  refine lx_pick rfl rfl rfl rfl rfl ?_
  refine lx_move rfl rfl rfl ?_
  refine lx_call rfl rfl ent26 (small5 _ _) rfl rfl ?_
  refine lx_call rfl rfl ent28 (small5r _ _) rfl rfl ?_
  refine lx_callB true rfl rfl ent27 (same5 _ _) (decide_eq_true rfl) rfl rfl ?_
  refine lx_pick rfl rfl rfl rfl rfl ?_
  refine lx_assign rfl rfl rfl ?_
  refine lx_nil ?_
  refine x_ret ?_
  repeat (first | refine kseq_ret ?_ | refine kblk_ret ?_)
  exact kret_tmp rfl rfl (fun w hw => ⟨rfl, hp_below hw⟩)
theorem reckons6 (e0 : Option Addr) (cap0 : Nat) (bs0 : List (BitVec 8)) (hcap0 : bs0.length ≤ cap0) (e1 : Option Addr) (cap1 : Nat) (bs1 : List (BitVec 8)) (hcap1 : bs1.length ≤ cap1) (e2 : Option Addr) (cap2 : Nat) (bs2 : List (BitVec 8)) (hcap2 : bs2.length ≤ cap2) (w : World) (hw : Gt w) (hb0 : BytesAt w e0 bs0) (hb1 : BytesAt w e1 bs1) (hb2 : BytesAt w e2 bs2) :
    Calls Tryz.prog 3 [.slice e0 bs0.length cap0, .slice e1 bs1.length cap1, .slice e2 bs2.length cap2].toArray w (fun r w' => r = .returned (.bool true) ∧ Grow w w') := by
  have hGF : BOk Gt (pl w) := gt_low.plain hw
  refine calls_of_X (G := Gt) Tryz.func3 rfl rfl (Hp (pl w) []) (hp_refl (pl w) trivial rides_true) (good_hp hGF) ?_
  refine xs_plain (E := EE []) ?_
  refine lx_assign rfl rfl rfl ?_
  refine lx_nil ?_
  refine x_seq ?_
  refine xs_plain (E := EE []) ?_
  refine lx_callB true rfl rfl ent4 (known6) (rfl) rfl rfl ?_
  refine lx_un rfl (fun _ => un_not _) rfl rfl ?_
  refine lx_nil ?_
  refine x_false rfl ?_
  refine x_skip ?_
  refine x_seq ?_
  refine xs_plain (E := EE []) ?_
  refine lx_move rfl rfl rfl ?_
  refine lx_move rfl rfl rfl ?_
  refine lx_move rfl rfl rfl ?_
  refine lx_bslV 940 (SVl [(e0, bs0.length, cap0), (e1, bs1.length, cap1), (e2, bs2.length, cap2)]) hGF rfl rfl rfl (by decide) (by decide) Tryz.underlying55 Tryz.sizeOf22 Tryz.zeroValue22 rfl rfl rfl ?_
  intro b940
  refine lx_callC rfl rfl ent5 (fun w' hC hG => light_calls b940 3 [(e0, bs0.length, cap0), (e1, bs1.length, cap1), (e2, bs2.length, cap2)] rfl (by decide) w' hG (hp_row (n := 940) rfl w' hC)) rfl rfl ?_
  refine lx_un rfl (fun _ => un_not _) rfl rfl ?_
  refine lx_nil ?_
  refine x_if rfl (fun hc => ?_) (fun hc => ?_)
  · skip
    refine xs_plain (E := EE []) ?_
    refine lx_assign rfl rfl rfl ?_
    refine lx_nil ?_
    refine x_ret ?_
    repeat (first | refine kseq_ret ?_ | refine kblk_ret ?_)
    exact kret_tmp rfl rfl (fun w hw => ⟨rfl, hp_below hw⟩)
  · have hl : ∀ v ∈ [(e0, bs0.length, cap0), (e1, bs1.length, cap1), (e2, bs2.length, cap2)], v.2.1 ≤ 200 := by simpa using hc
    have hl0 : bs0.length ≤ 200 := hl (e0, bs0.length, cap0) (by simp)
    have hl1 : bs1.length ≤ 200 := hl (e1, bs1.length, cap1) (by simp)
    have hl2 : bs2.length ≤ 200 := hl (e2, bs2.length, cap2) (by simp)
    clear hc hl
    refine x_skip ?_
    refine xs_plain (E := EE []) ?_
    refine lx_move rfl rfl rfl ?_
    refine lx_callC rfl rfl ent6 (fun w' hC hG => six_calls e0 cap0 bs0 (by omega) hcap0 w' hG (hb0.grow (hp_below hC))) rfl rfl ?_
    refine lx_move rfl rfl rfl ?_
    refine lx_callC rfl rfl ent6 (fun w' hC hG => six_calls e1 cap1 bs1 (by omega) hcap1 w' hG (hb1.grow (hp_below hC))) rfl rfl ?_
    refine lx_move rfl rfl rfl ?_
    refine lx_callC rfl rfl ent7 (fun w' hC hG => num_calls e2 cap2 bs2 (by omega) hcap2 w' hG (hb2.grow (hp_below hC))) rfl rfl ?_
    refine lx_allocr 7 hGF zv32 rfl rfl ?_
    intro b7
    refine lx_allocr 8 hGF zv32 rfl rfl ?_
    intro b8
    refine lx_allocr 9 hGF zv30 rfl rfl ?_
    intro b9
    refine lx_storea 7 hGF rfl rfl rfl Tryz.sizeOf32 (by simp) (by simp) (one_u64 _) rfl ?_
    refine lx_storea 8 hGF rfl rfl rfl Tryz.sizeOf32 (by simp) (by simp) (one_u64 _) rfl ?_
    refine lx_storea 9 hGF rfl rfl rfl Tryz.sizeOf30 (by simp) (by simp) (one_u64 _) rfl ?_
    refine lx_nil ?_
    refine xs_drawA (E := EE [2999999]) [0, 1, 2, 3] [⟨4, 10, 41, (FM (FF fun _ => ze2) 6).map U64⟩, ⟨5, 11, 41, (FM (FF fun _ => ze2) 6).map U64⟩] [6, 7] mixed rfl (by kernel_rfl) (by kernel_rfl) (by kernel_rfl) (by kernel_rfl) (by kernel_rfl) (by kernel_rfl) (by decide) (by intro x hx; simp only [List.mem_cons, List.not_mem_nil, or_false] at hx; rcases hx with rfl | rfl <;> exact isAlloc_mk rfl zv41 rfl) ?_
    refine lx_loada 7 rfl rfl Tryz.isAgg32 Tryz.sizeOf32 (by simp) rfl rfl ?_
    refine lx_call rfl rfl ent8 (refs6 _) rfl rfl ?_
    refine lx_loada 8 rfl rfl Tryz.isAgg32 Tryz.sizeOf32 (by simp) rfl rfl ?_
    refine lx_call rfl rfl ent8 (refs6 _) rfl rfl ?_
    refine lx_nil ?_
    refine ⟨_, _, rfl, hGF, by intro x hx; simp only [List.mem_cons, List.not_mem_nil, or_false] at hx; rcases hx with rfl | rfl <;> rfl, by intro x hx; simp only [List.mem_cons, List.not_mem_nil, or_false] at hx; rcases hx with rfl | rfl <;> rfl, fun adr => ?_⟩
    refine lx_storea 10 hGF rfl rfl rfl Tryz.sizeOf41 (by simp) (by simp) (one_u64 _) rfl ?_
    refine lx_storea 11 hGF rfl rfl rfl Tryz.sizeOf41 (by simp) (by simp) (one_u64 _) rfl ?_
    refine lx_nil ?_
    refine xs_plain (E := EE []) ?_
    refine lx_allocr 12 hGF zv32 rfl rfl ?_
    intro b12
    refine lx_nil ?_
    refine xs_drawnT (E := EE []) [(32, [7], []), (33, [8], []), (34, [31, 32], [0, 1]), (35, [33], [2, 2]), (36, [10], []), (37, [11], []), (38, [35, 36], [4, 5, 3]), (39, [34, 37], [3, 6]), (40, [38], [7, 6]), (41, [7, 39], [8]), (42, [8, 39], [8]), (43, [40, 41, 39], [9, 10, 8, 8]), (44, [42, 39], [11, 11, 8]), (45, [10, 39], [8]), (46, [11, 39], [8]), (47, [45, 39], [14, 12, 8]), (48, [44, 46, 39], [13, 15, 15, 8]), (49, [43, 47, 39], [12, 16, 8]), (50, [39, 48], [8, 17]), (51, [49], [18, 16]), (52, [7, 50], [19]), (53, [51, 50], [20, 19, 19]), (54, [52, 50], [21, 21, 19]), (55, [10, 50], [19]), (56, [54, 50], [23, 22, 19]), (57, [53, 55, 50], [22, 24, 19]), (58, [50, 56], [19, 25]), (59, [57], [26, 24]), (60, [7, 58], [27]), (61, [8, 58], [27]), (62, [59, 60, 58], [28, 29, 27, 27]), (63, [61, 58], [30, 30, 27]), (64, [10, 58], [27]), (65, [11, 58], [27]), (66, [63, 64, 58], [32, 33, 31, 27]), (67, [62, 65, 58], [31, 34, 27]), (68, [58, 66], [27, 35]), (69, [67], [36, 34]), (70, [7, 68], [37]), (71, [69, 68], [38, 37, 37]), (72, [70, 68], [39, 39, 37]), (73, [10, 68], [37]), (74, [10, 68], [37]), (75, [72, 73, 68], [41, 42, 40, 37]), (76, [71, 74, 68], [40, 43, 37]), (77, [68, 75], [37, 44]), (78, [76], [45, 43]), (79, [7, 77], [46]), (80, [9, 77], [46]), (81, [78, 79, 77], [47, 48, 46, 46]), (82, [80, 77], [49, 49, 46]), (83, [10, 77], [46]), (84, [9, 77], [46]), (85, [83, 77], [52, 50, 46]), (86, [84, 77], [53, 46]), (87, [82, 85, 77], [51, 54, 53, 46]), (88, [81, 86, 77], [50, 55, 46]), (89, [77, 87], [46, 56]), (90, [88], [57, 55]), (91, [7, 89], [58]), (92, [90, 89], [59, 58, 58]), (93, [91, 89], [60, 60, 58]), (94, [10, 89], [58]), (95, [89], [61, 58]), (96, [94, 89], [63, 58]), (97, [93, 95, 89], [62, 64, 63, 58]), (98, [92, 96, 89], [61, 65, 58]), (99, [89, 97], [58, 66]), (100, [98], [67, 65]), (101, [7, 99], [68]), (102, [100, 99], [69, 68, 68]), (103, [101, 99], [70, 70, 68]), (104, [10, 99], [68]), (105, [103, 99], [72, 71, 68]), (106, [102, 104, 99], [71, 73, 68]), (107, [99, 105], [68, 74]), (108, [106], [75, 73]), (109, [7, 107], [76]), (110, [8, 107], [76]), (111, [108, 109, 107], [77, 78, 76, 76]), (112, [10, 107], [76]), (113, [11, 107], [76]), (114, [111, 112, 107], [80, 81, 76]), (115, [110, 113, 107], [79, 82, 76]), (116, [107, 114], [76, 83]), (117, [115], [84, 79]), (118, [7, 116], [85]), (119, [117, 116], [86, 85, 85]), (120, [10, 116], [85]), (121, [116], [85]), (122, [119, 120, 116], [88, 89, 85]), (123, [118, 121, 116], [87, 90, 85]), (124, [116, 122], [85, 91]), (125, [123], [92, 87]), (126, [12, 124], [93]), (127, [125, 124], [94, 93, 93]), (128, [126, 124], [95, 95, 93]), (129, [124, 127], [93, 96]), (7, [128], [97, 96, 0, 1, 2, 3, 4, 5, 6, 7, 8, 9, 10, 11, 12, 13, 14, 15, 16, 17, 18, 19, 20, 21, 22, 23, 24, 25, 26, 27, 28, 29, 30, 31, 32, 33, 34, 35, 36, 37, 38, 39, 40, 41, 42, 43, 44, 45, 46, 47, 48, 49, 50, 51, 52, 53, 54, 55, 56, 57, 58, 59, 60, 61, 62, 63, 64, 65, 66, 67, 68, 69, 70, 71, 72, 73, 74, 75, 76, 77, 78, 79, 80, 81, 82, 83, 84, 85, 86, 87, 88, 89, 90, 91, 92, 93, 94, 95, 96, 97])] mixed (by kernel_rfl) (by kernel_rfl) (by kernel_rfl) (by kernel_rfl) (by kernel_rfl) ?_
    refine lx_loada 7 rfl rfl Tryz.isAgg32 Tryz.sizeOf32 (by simp) rfl rfl ?_
    refine lx_loada 8 rfl rfl Tryz.isAgg32 Tryz.sizeOf32 (by simp) rfl rfl ?_
    refine lx_call rfl rfl ent9 (k6add _ _) rfl rfl ?_
    refine lx_call rfl rfl ent8 (refs6 _) rfl rfl ?_
    refine lx_loada 10 rfl rfl Tryz.isAgg41 Tryz.sizeOf41 (by simp) rfl rfl ?_
    refine lx_loada 11 rfl rfl Tryz.isAgg41 Tryz.sizeOf41 (by simp) rfl rfl ?_
    refine lx_call rfl rfl ent10 (t5add _ _) rfl rfl ?_
    refine lx_binB true rfl rfl (fun _ => eqg41 _ _ _ _ _ _) (fun w => eqv41 _ _ (by simp) (by simp) w) (q_add _ _) rfl rfl ?_
    refine lx_move rfl rfl rfl ?_
    refine lx_loada 7 rfl rfl Tryz.isAgg32 Tryz.sizeOf32 (by simp) rfl rfl ?_
    refine lx_loada 8 rfl rfl Tryz.isAgg32 Tryz.sizeOf32 (by simp) rfl rfl ?_
    refine lx_call rfl rfl ent11 (k6sub _ _) rfl rfl ?_
    refine lx_call rfl rfl ent8 (refs6 _) rfl rfl ?_
    refine lx_loada 10 rfl rfl Tryz.isAgg41 Tryz.sizeOf41 (by simp) rfl rfl ?_
    refine lx_loada 11 rfl rfl Tryz.isAgg41 Tryz.sizeOf41 (by simp) rfl rfl ?_
    refine lx_call rfl rfl ent12 (t5neg _) rfl rfl ?_
    refine lx_call rfl rfl ent10 (t5add _ _) rfl rfl ?_
    refine lx_binB true rfl rfl (fun _ => eqg41 _ _ _ _ _ _) (fun w => eqv41 _ _ (by simp) (by simp) w) (q_sub _ _) rfl rfl ?_
    refine lx_pick rfl rfl rfl rfl rfl ?_
    refine lx_move rfl rfl rfl ?_
    refine lx_loada 7 rfl rfl Tryz.isAgg32 Tryz.sizeOf32 (by simp) rfl rfl ?_
    refine lx_call rfl rfl ent13 (k6neg _) rfl rfl ?_
    refine lx_call rfl rfl ent8 (refs6 _) rfl rfl ?_
    refine lx_loada 10 rfl rfl Tryz.isAgg41 Tryz.sizeOf41 (by simp) rfl rfl ?_
    refine lx_call rfl rfl ent12 (t5neg _) rfl rfl ?_
    refine lx_binB true rfl rfl (fun _ => eqg41 _ _ _ _ _ _) (fun w => eqv41 _ _ (by simp) (by simp) w) (q_neg _) rfl rfl ?_
    refine lx_pick rfl rfl rfl rfl rfl ?_
    refine lx_move rfl rfl rfl ?_
    refine lx_loada 7 rfl rfl Tryz.isAgg32 Tryz.sizeOf32 (by simp) rfl rfl ?_
    refine lx_loada 8 rfl rfl Tryz.isAgg32 Tryz.sizeOf32 (by simp) rfl rfl ?_
    refine lx_call rfl rfl ent14 (k6mul _ _) rfl rfl ?_
    refine lx_call rfl rfl ent8 (refs6 _) rfl rfl ?_
    refine lx_loada 10 rfl rfl Tryz.isAgg41 Tryz.sizeOf41 (by simp) rfl rfl ?_
    refine lx_loada 11 rfl rfl Tryz.isAgg41 Tryz.sizeOf41 (by simp) rfl rfl ?_
    refine lx_call rfl rfl ent15 (t5mul _ _) rfl rfl ?_
    refine lx_binB true rfl rfl (fun _ => eqg41 _ _ _ _ _ _) (fun w => eqv41 _ _ (by simp) (by simp) w) (q_mul _ _) rfl rfl ?_
    refine lx_pick rfl rfl rfl rfl rfl ?_
    refine lx_move rfl rfl rfl ?_
    refine lx_loada 7 rfl rfl Tryz.isAgg32 Tryz.sizeOf32 (by simp) rfl rfl ?_
    refine lx_call rfl rfl ent16 (k6square _) rfl rfl ?_
    refine lx_call rfl rfl ent8 (refs6 _) rfl rfl ?_
    refine lx_loada 10 rfl rfl Tryz.isAgg41 Tryz.sizeOf41 (by simp) rfl rfl ?_
    refine lx_loada 10 rfl rfl Tryz.isAgg41 Tryz.sizeOf41 (by simp) rfl rfl ?_
    refine lx_call rfl rfl ent15 (t5mul _ _) rfl rfl ?_
    refine lx_binB true rfl rfl (fun _ => eqg41 _ _ _ _ _ _) (fun w => eqv41 _ _ (by simp) (by simp) w) (q_mul _ _) rfl rfl ?_
    refine lx_pick rfl rfl rfl rfl rfl ?_
    refine lx_move rfl rfl rfl ?_
    refine lx_loada 7 rfl rfl Tryz.isAgg32 Tryz.sizeOf32 (by simp) rfl rfl ?_
    refine lx_loada 9 rfl rfl Tryz.isAgg30 Tryz.sizeOf30 (by simp) rfl rfl ?_
    refine lx_call rfl rfl ent17 (k6scale _ _) rfl rfl ?_
    refine lx_call rfl rfl ent8 (refs6 _) rfl rfl ?_
    refine lx_loada 10 rfl rfl Tryz.isAgg41 Tryz.sizeOf41 (by simp) rfl rfl ?_
    refine lx_loada 9 rfl rfl Tryz.isAgg30 Tryz.sizeOf30 (by simp) rfl rfl ?_
    refine lx_call rfl rfl ent18 (ref5 _) rfl rfl ?_
    refine lx_ev1 0 _ (by decide) rfl rfl rfl ?_
    refine lx_call rfl rfl ent15 (t5mul _ _) rfl rfl ?_
    refine lx_binB true rfl rfl (fun _ => eqg41 _ _ _ _ _ _) (fun w => eqv41 _ _ (by simp) (by simp) w) (q_scale _ _) rfl rfl ?_
    refine lx_pick rfl rfl rfl rfl rfl ?_
    refine lx_move rfl rfl rfl ?_
    refine lx_loada 7 rfl rfl Tryz.isAgg32 Tryz.sizeOf32 (by simp) rfl rfl ?_
    refine lx_call rfl rfl ent19 (k6v _) rfl rfl ?_
    refine lx_call rfl rfl ent8 (refs6 _) rfl rfl ?_
    refine lx_loada 10 rfl rfl Tryz.isAgg41 Tryz.sizeOf41 (by simp) rfl rfl ?_
    refine lx_call rfl rfl ent20 (r5one) rfl rfl ?_
    refine lx_ev1 2 _ (by decide) rfl rfl rfl ?_
    refine lx_call rfl rfl ent15 (t5mul _ _) rfl rfl ?_
    refine lx_binB true rfl rfl (fun _ => eqg41 _ _ _ _ _ _) (fun w => eqv41 _ _ (by simp) (by simp) w) (q_v _) rfl rfl ?_
    refine lx_pick rfl rfl rfl rfl rfl ?_
    refine lx_move rfl rfl rfl ?_
    refine lx_loada 7 rfl rfl Tryz.isAgg32 Tryz.sizeOf32 (by simp) rfl rfl ?_
    refine lx_call rfl rfl ent21 (k6inv _) rfl rfl ?_
    refine lx_call rfl rfl ent8 (refs6 _) rfl rfl ?_
    refine lx_loada 10 rfl rfl Tryz.isAgg41 Tryz.sizeOf41 (by simp) rfl rfl ?_
    refine lx_call rfl rfl ent22 (t5inv _) rfl rfl ?_
    refine lx_binB true rfl rfl (fun _ => eqg41 _ _ _ _ _ _) (fun w => eqv41 _ _ (by simp) (by simp) w) (q_inv _) rfl rfl ?_
    refine lx_pick rfl rfl rfl rfl rfl ?_
    refine lx_move rfl rfl rfl ?_
    refine lx_loada 7 rfl rfl Tryz.isAgg32 Tryz.sizeOf32 (by simp) rfl rfl ?_
    refine lx_loada 8 rfl rfl Tryz.isAgg32 Tryz.sizeOf32 (by simp) rfl rfl ?_
    refine lx_call rfl rfl ent23 (k6equal _ _) rfl rfl ?_
    refine lx_loada 10 rfl rfl Tryz.isAgg41 Tryz.sizeOf41 (by simp) rfl rfl ?_
    refine lx_loada 11 rfl rfl Tryz.isAgg41 Tryz.sizeOf41 (by simp) rfl rfl ?_
    refine lx_bin rfl rfl (fun _ => eqg41 _ _ _ _ _ _) (fun w => eqv41 _ _ (by simp) (by simp) w) rfl rfl ?_
    refine lx_binB true rfl rfl (fun _ => rfl) (fun w => bin_eql_bool 4 Tryz.underlying4 _ _ w) (b_eq _ _) rfl rfl ?_
    refine lx_pick rfl rfl rfl rfl rfl ?_
    refine lx_move rfl rfl rfl ?_
    refine lx_loada 7 rfl rfl Tryz.isAgg32 Tryz.sizeOf32 (by simp) rfl rfl ?_
    refine lx_call rfl rfl ent24 (k6isZero _) rfl rfl ?_
    refine lx_loada 10 rfl rfl Tryz.isAgg41 Tryz.sizeOf41 (by simp) rfl rfl ?_
    refine lx_row0 Tryz.underlying41 Tryz.sizeOf39 zv41 rfl rfl ?_
    refine lx_bin rfl rfl (fun _ => eqg41 _ _ _ _ _ _) (fun w => eqv41 _ _ (by simp) (by simp) w) rfl rfl ?_
    refine lx_binB true rfl rfl (fun _ => rfl) (fun w => bin_eql_bool 4 Tryz.underlying4 _ _ w) (b_ze _) rfl rfl ?_
    refine lx_pick rfl rfl rfl rfl rfl ?_
    refine lx_move rfl rfl rfl ?_
    refine lx_loada 12 rfl rfl Tryz.isAgg32 Tryz.sizeOf32 (by simp) rfl rfl ?_
    refine lx_call rfl rfl ent21 (zeroI6) rfl rfl ?_
    refine lx_callB true rfl rfl ent24 (k6isZero _) (decide_eq_true rfl) rfl rfl ?_
    refine lx_pick rfl rfl rfl rfl rfl ?_
    refine lx_assign rfl rfl rfl ?_
    refine lx_nil ?_
    refine x_ret ?_
    repeat (first | refine kseq_ret ?_ | refine kblk_ret ?_)
    exact kret_tmp rfl rfl (fun w hw => ⟨rfl, hp_below hw⟩)
end Go.Proofs.YtpigcehbafcdkaaGreatDoor
