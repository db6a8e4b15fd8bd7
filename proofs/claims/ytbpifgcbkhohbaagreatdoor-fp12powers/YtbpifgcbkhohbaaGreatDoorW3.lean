/-
  What the laws of layer 7 share; Fp12Reckons, Fp12Norms.
-/
import Derived.Test.YtbpifgcbkhohbaaGreatDoorW2
namespace Go.Proofs.YtbpifgcbkhohbaaGreatDoor
open Go.RowKit
set_option maxRecDepth 100000
set_option maxHeartbeats 1000000
attribute [local simp] fe_len nm_len AS_len SS_len MONT_len RM_len FRs_len BYs_len by48_len PLl TWOl ONEl N1l IVPl HFPl RTPl FL_len SP_len fe2_len SP2_len FM_len FF_len
attribute [local simp] ff_len RW_len

theorem small5r (a b : BitVec 64) : Pure Tryz.prog Gt 31 [U64 a, U64 b] (EV2 (sm2 a b)) := by
  intro w hw
  have hGF : BOk Gt (pl w) := gt_low.plain hw
  refine calls_of_X (G := Gt) Tryz.func31 rfl rfl (Hp (pl w) []) (hp_refl (pl w) trivial rides_true) (good_hp hGF) ?_
  refine xs_plain (E := EE []) ?_
  refine lx_allocr 4 hGF zv40 rfl rfl ?_
  intro b4
  refine lx_nil ?_
  refine xs_plain (E := EE []) ?_
  refine lx_move rfl rfl rfl ?_
  refine lx_call rfl rfl ent59 (rsmallE _) rfl rfl ?_
  refine lx_move rfl rfl rfl ?_
  refine lx_call rfl rfl ent59 (rsmallE _) rfl rfl ?_
  refine lx_two two40 rfl rfl (by simp) (by simp) rfl rfl ?_
  refine lx_storea 4 hGF rfl rfl rfl Tryz.sizeOf40 (by simp) (by simp) (one_u64 _) rfl ?_
  refine lx_nil ?_
  refine x_ret ?_
  repeat (first | refine kseq_ret ?_ | refine kblk_ret ?_)
  exact kret_own 4 rfl rfl rfl Tryz.isAgg40 Tryz.sizeOf40 (by simp) (fun w hw => ⟨rfl, hp_below hw⟩)
def WE : W12 := (K6.zero, K6.one)
theorem k12eqA (x : W12) (a : W2) : Pure Tryz.prog Gt 21 [EV12 x, .agg ((((fe a.1 ++ fe a.2) ++ ((fe 0 ++ fe 0) ++ (fe 0 ++ fe 0))) ++ ((fe 0 ++ fe 0) ++ ((fe 0 ++ fe 0) ++ (fe 0 ++ fe 0)))).map U64).toArray] (.bool (decide (x = ((a, ze2, ze2), K6.zero)))) := k12equal x ((a, ze2, ze2), K6.zero)
theorem kw1 : K12.mul (K12.mul (K12.mul WE WE) (K12.mul WE WE)) (K12.mul WE WE) = ((sm2 1#64 1#64, ze2, ze2), K6.zero) := by decide +kernel
theorem kw2 : WE ≠ K12.zero := by decide +kernel
theorem kw3 : K12.add (cj12 WE) WE = K12.zero := by decide +kernel
theorem eqT {f g : Nat → W2} (h : tq f = tq g) : decide (FM (FF f) 6 = FM (FF g) 6) = true := (FF_dec f g).trans (decide_eq_true h)
theorem PX_dec (x y : W12) : decide (FM (FF (p12 x)) 6 = FM (FF (p12 y)) 6) = decide (x = y) := FF_dec _ _
theorem PX_zero (x : W12) : decide (FM (FF (p12 x)) 6 = FM (FF fun _ => ze2) 6) = decide (x = K12.zero) := FF_dec _ _
theorem known7  : Pure Tryz.prog Gt 6 [] (.bool true) := by
  intro w hw
  have hGF : BOk Gt (pl w) := gt_low.plain hw
  refine calls_of_X (G := Gt) Tryz.func6 rfl rfl (Hp (pl w) []) (hp_refl (pl w) trivial rides_true) (good_hp hGF) ?_
  refine xs_plain (E := EE []) ?_
  refine lx_assign rfl rfl rfl ?_
  refine lx_nil ?_
  refine xs_plain (E := EE []) ?_
  refine lx_call rfl rfl ent28 (k6one) rfl rfl ?_
  refine lx_twoB two34 rfl (by simp) rfl rfl ?_
  refine lx_allocr 1 hGF zv34 rfl rfl ?_
  intro b1
  refine lx_storea 1 hGF rfl rfl rfl Tryz.sizeOf34 (by simp) (by simp) (one_u64 _) rfl ?_
  refine lx_nil ?_
  refine xs_plain (E := EE []) ?_
  refine lx_loada 1 rfl rfl Tryz.isAgg34 Tryz.sizeOf34 (by simp) rfl rfl ?_
  refine lx_call rfl rfl ent16 (k12square WE) rfl rfl ?_
  refine lx_allocr 2 hGF zv34 rfl rfl ?_
  intro b2
  refine lx_storea 2 hGF rfl rfl rfl Tryz.sizeOf34 (by simp) (by simp) (one_u64 _) rfl ?_
  refine lx_nil ?_
  refine xs_drawnT (E := EE []) [(8, [2], []), (9, [2], []), (10, [7, 8], [0, 1]), (11, [2], []), (12, [9, 10], [2, 3, 2]), (13, [], [4]), (14, [12], [5]), (15, [13], [6]), (16, [11, 14], [4, 7, 5]), (17, [15], [8, 8]), (18, [1, 16], [9]), (19, [1, 16], [9]), (20, [18, 16], [11, 9, 9]), (21, [17, 19, 16], [10, 12, 12, 9]), (22, [16], [13, 9]), (23, [20, 21, 16], [13, 14, 14, 9]), (24, [16, 22], [9, 15]), (25, [23], [16, 15]), (26, [1, 24], [17]), (27, [25, 24], [18, 17, 17]), (28, [1, 24], [17]), (29, [26, 27, 24], [19, 20, 19, 17]), (30, [28, 24], [21, 21, 17]), (31, [24, 29], [17, 22]), (32, [30], [23, 22]), (33, [31], [24, 24]), (34, [31], [25, 24]), (35, [32, 33, 31], [25, 26, 26, 24]), (36, [31, 34], [24, 27]), (1, [35], [28, 27, 0, 1, 2, 3, 4, 5, 6, 7, 8, 9, 10, 11, 12, 13, 14, 15, 16, 17, 18, 19, 20, 21, 22, 23, 24, 25, 26, 27, 28])] mixed (by kernel_rfl) (by kernel_rfl) (by kernel_rfl) (by kernel_rfl) (by kernel_rfl) ?_
  refine lx_loada 2 rfl rfl Tryz.isAgg34 Tryz.sizeOf34 (by simp) rfl rfl ?_
  refine lx_loada 2 rfl rfl Tryz.isAgg34 Tryz.sizeOf34 (by simp) rfl rfl ?_
  refine lx_call rfl rfl ent14 (k12mul _ _) rfl rfl ?_
  refine lx_loada 2 rfl rfl Tryz.isAgg34 Tryz.sizeOf34 (by simp) rfl rfl ?_
  refine lx_call rfl rfl ent14 (k12mul _ _) rfl rfl ?_
  refine lx_call rfl rfl ent29 (small5 _ _) rfl rfl ?_
  refine lx_three0 three32 rfl (by simp) rfl rfl ?_
  refine lx_twoA two34 rfl (by simp) rfl rfl ?_
  refine lx_callB true rfl rfl ent21 (k12eqA _ _) (decide_eq_true kw1) rfl rfl ?_
  refine lx_move rfl rfl rfl ?_
  refine lx_loada 1 rfl rfl Tryz.isAgg34 Tryz.sizeOf34 (by simp) rfl rfl ?_
  refine lx_loada 1 rfl rfl Tryz.isAgg34 Tryz.sizeOf34 (by simp) rfl rfl ?_
  refine lx_call rfl rfl ent19 (k12inv WE) rfl rfl ?_
  refine lx_call rfl rfl ent14 (k12mul WE _) rfl rfl ?_
  refine lx_call rfl rfl ent27 (k12one) rfl rfl ?_
  refine lx_callB true rfl rfl ent21 (k12equal _ _) (decide_eq_true (iv12_mul kw2)) rfl rfl ?_
  refine lx_pick rfl rfl rfl rfl rfl ?_
  refine lx_move rfl rfl rfl ?_
  refine lx_loada 1 rfl rfl Tryz.isAgg34 Tryz.sizeOf34 (by simp) rfl rfl ?_
  refine lx_call rfl rfl ent17 (k12conj WE) rfl rfl ?_
  refine lx_loada 1 rfl rfl Tryz.isAgg34 Tryz.sizeOf34 (by simp) rfl rfl ?_
  refine lx_call rfl rfl ent10 (k12add _ WE) rfl rfl ?_
  refine lx_callB true rfl rfl ent22 (k12isZero _) (decide_eq_true kw3) rfl rfl ?_
  refine lx_pick rfl rfl rfl rfl rfl ?_
  refine lx_move rfl rfl rfl ?_
  refine lx_call rfl rfl ent29 (small5 _ _) rfl rfl ?_
  refine lx_call rfl rfl ent31 (small5r _ _) rfl rfl ?_
  refine lx_callB true rfl rfl ent30 (same5 _ _) (decide_eq_true rfl) rfl rfl ?_
  refine lx_pick rfl rfl rfl rfl rfl ?_
  refine lx_assign rfl rfl rfl ?_
  refine lx_nil ?_
  refine x_ret ?_
  repeat (first | refine kseq_ret ?_ | refine kblk_ret ?_)
  exact kret_tmp rfl rfl (fun w hw => ⟨rfl, hp_below hw⟩)
theorem q_add (x y : W12) : decide (FM (FF (p12 (K12.add x y))) 6 = FM (FF fun i => ad2 (p12 x i) (p12 y i)) 6) = true := eqT rfl
theorem q_sub (x y : W12) : decide (FM (FF (p12 (sb12 x y))) 6 = FM (FF fun i => ad2 (p12 x i) (ng2 (p12 y i))) 6) = true := eqT (sb12_eq x y)
theorem q_mul (x y : W12) : decide (FM (FF (p12 (K12.mul x y))) 6 = FM (FF (TMf (p12 x) (p12 y))) 6) = true := eqT (tq_mul (p12 x) (p12 y)).symm
theorem q_conj (x : W12) : decide (FM (FF (p12 (cj12 x))) 6 = FM (FF (tcj (p12 x))) 6) = true := eqT (tq_cj (p12 x)).symm
theorem q_inv (x : W12) : decide (FM (FF (p12 (iv12 x))) 6 = FM (FF (TIf (p12 x))) 6) = true := eqT (tq_inv (p12 x)).symm
theorem b_eq (x y : W12) : (decide (x = y) == decide (FM (FF (p12 x)) 6 = FM (FF (p12 y)) 6)) = true := by rw [PX_dec]; exact beq_self_eq_true _
theorem b_ze (x : W12) : (decide (x = K12.zero) == decide (FM (FF (p12 x)) 6 = FM (FF fun _ => ze2) 6)) = true := by rw [PX_zero]; exact beq_self_eq_true _
theorem zeroI12 : Pure Tryz.prog Gt 19 [.agg ((((fe 0 ++ fe 0) ++ ((fe 0 ++ fe 0) ++ (fe 0 ++ fe 0))) ++ ((fe 0 ++ fe 0) ++ ((fe 0 ++ fe 0) ++ (fe 0 ++ fe 0)))).map U64).toArray] (EV12 K12.zero) := by
  have h := k12inv K12.zero
  rw [iv12_ze] at h
  exact h
theorem reckons7 (e0 : Option Addr) (cap0 : Nat) (bs0 : List (BitVec 8)) (hcap0 : bs0.length ≤ cap0) (e1 : Option Addr) (cap1 : Nat) (bs1 : List (BitVec 8)) (hcap1 : bs1.length ≤ cap1) (w : World) (hw : Gt w) (hb0 : BytesAt w e0 bs0) (hb1 : BytesAt w e1 bs1) :
    Calls Tryz.prog 3 [.slice e0 bs0.length cap0, .slice e1 bs1.length cap1].toArray w (fun r w' => r = .returned (.bool true) ∧ Grow w w') := by
  have hGF : BOk Gt (pl w) := gt_low.plain hw
  refine calls_of_X (G := Gt) Tryz.func3 rfl rfl (Hp (pl w) []) (hp_refl (pl w) trivial rides_true) (good_hp hGF) ?_
  refine xs_plain (E := EE []) ?_
  refine lx_assign rfl rfl rfl ?_
  refine lx_nil ?_
  refine x_seq ?_
  refine xs_plain (E := EE []) ?_
  refine lx_callB true rfl rfl ent6 (known7) (rfl) rfl rfl ?_
  refine lx_un rfl (fun _ => un_not _) rfl rfl ?_
  refine lx_nil ?_
  refine x_false rfl ?_
  refine x_skip ?_
  refine x_seq ?_
  refine xs_plain (E := EE []) ?_
  refine lx_move rfl rfl rfl ?_
  refine lx_move rfl rfl rfl ?_
  refine lx_bslV 940 (SVl [(e0, bs0.length, cap0), (e1, bs1.length, cap1)]) hGF rfl rfl rfl (by decide) (by decide) Tryz.underlying58 Tryz.sizeOf22 Tryz.zeroValue22 rfl rfl rfl ?_
  intro b940
  refine lx_callC rfl rfl ent7 (fun w' hC hG => light_calls b940 2 [(e0, bs0.length, cap0), (e1, bs1.length, cap1)] rfl (by decide) w' hG (hp_row (n := 940) rfl w' hC)) rfl rfl ?_
  refine lx_un rfl (fun _ => un_not _) rfl rfl ?_
  refine lx_nil ?_
  refine x_if rfl (fun hc => ?_) (fun hc => ?_)
  · skip
    refine xs_plain (E := EE []) ?_
    refine lx_assign rfl rfl rfl ?_
    refine lx_nil ?_
    refine x_ret ?_
    repeat (first | refine kseq_ret ?_ | refine kblk_ret ?_)
    exact kret_tmp rfl rfl (fun w hw => ⟨rfl, hp_below hw⟩)
  · have hl : ∀ v ∈ [(e0, bs0.length, cap0), (e1, bs1.length, cap1)], v.2.1 ≤ 200 := by simpa using hc
    have hl0 : bs0.length ≤ 200 := hl (e0, bs0.length, cap0) (by simp)
    have hl1 : bs1.length ≤ 200 := hl (e1, bs1.length, cap1) (by simp)
    clear hc hl
    refine x_skip ?_
    refine xs_plain (E := EE []) ?_
    refine lx_move rfl rfl rfl ?_
    refine lx_callC rfl rfl ent8 (fun w' hC hG => twelve_calls e0 cap0 bs0 (by omega) hcap0 w' hG (hb0.grow (hp_below hC))) rfl rfl ?_
    refine lx_move rfl rfl rfl ?_
    refine lx_callC rfl rfl ent8 (fun w' hC hG => twelve_calls e1 cap1 bs1 (by omega) hcap1 w' hG (hb1.grow (hp_below hC))) rfl rfl ?_
    refine lx_allocr 5 hGF zv34 rfl rfl ?_
    intro b5
    refine lx_allocr 6 hGF zv34 rfl rfl ?_
    intro b6
    refine lx_storea 5 hGF rfl rfl rfl Tryz.sizeOf34 (by simp) (by simp) (one_u64 _) rfl ?_
    refine lx_storea 6 hGF rfl rfl rfl Tryz.sizeOf34 (by simp) (by simp) (one_u64 _) rfl ?_
    refine lx_nil ?_
    refine xs_drawA (E := EE [2999999]) [0, 1, 2, 3] [⟨4, 7, 42, (FM (FF fun _ => ze2) 6).map U64⟩, ⟨5, 8, 42, (FM (FF fun _ => ze2) 6).map U64⟩] [6, 7] mixed rfl (by kernel_rfl) (by kernel_rfl) (by kernel_rfl) (by kernel_rfl) (by kernel_rfl) (by kernel_rfl) (by decide) (by intro x hx; simp only [List.mem_cons, List.not_mem_nil, or_false] at hx; rcases hx with rfl | rfl <;> exact isAlloc_mk rfl zv42 rfl) ?_
    refine lx_loada 5 rfl rfl Tryz.isAgg34 Tryz.sizeOf34 (by simp) rfl rfl ?_
    refine lx_call rfl rfl ent9 (refs12 _) rfl rfl ?_
    refine lx_loada 6 rfl rfl Tryz.isAgg34 Tryz.sizeOf34 (by simp) rfl rfl ?_
    refine lx_call rfl rfl ent9 (refs12 _) rfl rfl ?_
    refine lx_nil ?_
    refine ⟨_, _, rfl, hGF, by intro x hx; simp only [List.mem_cons, List.not_mem_nil, or_false] at hx; rcases hx with rfl | rfl <;> rfl, by intro x hx; simp only [List.mem_cons, List.not_mem_nil, or_false] at hx; rcases hx with rfl | rfl <;> rfl, fun adr => ?_⟩
    refine lx_storea 7 hGF rfl rfl rfl Tryz.sizeOf42 (by simp) (by simp) (one_u64 _) rfl ?_
    refine lx_storea 8 hGF rfl rfl rfl Tryz.sizeOf42 (by simp) (by simp) (one_u64 _) rfl ?_
    refine lx_nil ?_
    refine xs_plain (E := EE []) ?_
    refine lx_allocr 9 hGF zv34 rfl rfl ?_
    intro b9
    refine lx_nil ?_
    refine xs_drawnT (E := EE []) [(26, [5], []), (27, [6], []), (28, [25, 26], [0, 1]), (29, [27], [2, 2]), (30, [7], []), (31, [8], []), (32, [29, 30], [4, 5, 3]), (33, [28, 31], [3, 6]), (34, [32], [7, 6]), (35, [5, 33], [8]), (36, [6, 33], [8]), (37, [34, 35, 33], [9, 10, 8, 8]), (38, [36, 33], [11, 11, 8]), (39, [7, 33], [8]), (40, [8, 33], [8]), (41, [39, 33], [14, 12, 8]), (42, [38, 40, 33], [13, 15, 15, 8]), (43, [37, 41, 33], [12, 16, 8]), (44, [33, 42], [8, 17]), (45, [43], [18, 16]), (46, [5, 44], [19]), (47, [6, 44], [19]), (48, [45, 46, 44], [20, 21, 19, 19]), (49, [47, 44], [22, 22, 19]), (50, [7, 44], [19]), (51, [8, 44], [19]), (52, [49, 50, 44], [24, 25, 23, 19]), (53, [48, 51, 44], [23, 26, 19]), (54, [44, 52], [19, 27]), (55, [53], [28, 26]), (56, [5, 54], [29]), (57, [55, 54], [30, 29, 29]), (58, [56, 54], [31, 31, 29]), (59, [7, 54], [29]), (60, [7, 54], [29]), (61, [58, 59, 54], [33, 34, 32, 29]), (62, [57, 60, 54], [32, 35, 29]), (63, [54, 61], [29, 36]), (64, [62], [37, 35]), (65, [5, 63], [38]), (66, [64, 63], [39, 38, 38]), (67, [65, 63], [40, 40, 38]), (68, [7, 63], [38]), (69, [67, 63], [42, 41, 38]), (70, [66, 68, 63], [41, 43, 38]), (71, [63, 69], [38, 44]), (72, [70], [45, 43]), (73, [5, 71], [46]), (74, [72, 71], [47, 46, 46]), (75, [73, 71], [48, 48, 46]), (76, [7, 71], [46]), (77, [75, 71], [50, 49, 46]), (78, [74, 76, 71], [49, 51, 46]), (79, [71, 77], [46, 52]), (80, [78], [53, 51]), (81, [5, 79], [54]), (82, [6, 79], [54]), (83, [80, 81, 79], [55, 56, 54, 54]), (84, [7, 79], [54]), (85, [8, 79], [54]), (86, [83, 84, 79], [58, 59, 54]), (87, [82, 85, 79], [57, 60, 54]), (88, [79, 86], [54, 61]), (89, [87], [62, 57]), (90, [5, 88], [63]), (91, [89, 88], [64, 63, 63]), (92, [7, 88], [63]), (93, [88], [63]), (94, [91, 92, 88], [66, 67, 63]), (95, [90, 93, 88], [65, 68, 63]), (96, [88, 94], [63, 69]), (97, [95], [70, 65]), (98, [9, 96], [71]), (99, [97, 96], [72, 71, 71]), (100, [98, 96], [73, 73, 71]), (101, [96, 99], [71, 74]), (5, [100], [75, 74, 0, 1, 2, 3, 4, 5, 6, 7, 8, 9, 10, 11, 12, 13, 14, 15, 16, 17, 18, 19, 20, 21, 22, 23, 24, 25, 26, 27, 28, 29, 30, 31, 32, 33, 34, 35, 36, 37, 38, 39, 40, 41, 42, 43, 44, 45, 46, 47, 48, 49, 50, 51, 52, 53, 54, 55, 56, 57, 58, 59, 60, 61, 62, 63, 64, 65, 66, 67, 68, 69, 70, 71, 72, 73, 74, 75])] mixed (by kernel_rfl) (by kernel_rfl) (by kernel_rfl) (by kernel_rfl) (by kernel_rfl) ?_
    refine lx_loada 5 rfl rfl Tryz.isAgg34 Tryz.sizeOf34 (by simp) rfl rfl ?_
    refine lx_loada 6 rfl rfl Tryz.isAgg34 Tryz.sizeOf34 (by simp) rfl rfl ?_
    refine lx_call rfl rfl ent10 (k12add _ _) rfl rfl ?_
    refine lx_call rfl rfl ent9 (refs12 _) rfl rfl ?_
    refine lx_loada 7 rfl rfl Tryz.isAgg42 Tryz.sizeOf42 (by simp) rfl rfl ?_
    refine lx_loada 8 rfl rfl Tryz.isAgg42 Tryz.sizeOf42 (by simp) rfl rfl ?_
    refine lx_call rfl rfl ent11 (t5add _ _) rfl rfl ?_
    refine lx_binB true rfl rfl (fun _ => eqg42 _ _ _ _ _ _) (fun w => eqv42 _ _ (by simp) (by simp) w) (q_add _ _) rfl rfl ?_
    refine lx_move rfl rfl rfl ?_
    refine lx_loada 5 rfl rfl Tryz.isAgg34 Tryz.sizeOf34 (by simp) rfl rfl ?_
    refine lx_loada 6 rfl rfl Tryz.isAgg34 Tryz.sizeOf34 (by simp) rfl rfl ?_
    refine lx_call rfl rfl ent12 (k12sub _ _) rfl rfl ?_
    refine lx_call rfl rfl ent9 (refs12 _) rfl rfl ?_
    refine lx_loada 7 rfl rfl Tryz.isAgg42 Tryz.sizeOf42 (by simp) rfl rfl ?_
    refine lx_loada 8 rfl rfl Tryz.isAgg42 Tryz.sizeOf42 (by simp) rfl rfl ?_
    refine lx_call rfl rfl ent13 (t5neg _) rfl rfl ?_
    refine lx_call rfl rfl ent11 (t5add _ _) rfl rfl ?_
    refine lx_binB true rfl rfl (fun _ => eqg42 _ _ _ _ _ _) (fun w => eqv42 _ _ (by simp) (by simp) w) (q_sub _ _) rfl rfl ?_
    refine lx_pick rfl rfl rfl rfl rfl ?_
    refine lx_move rfl rfl rfl ?_
    refine lx_loada 5 rfl rfl Tryz.isAgg34 Tryz.sizeOf34 (by simp) rfl rfl ?_
    refine lx_loada 6 rfl rfl Tryz.isAgg34 Tryz.sizeOf34 (by simp) rfl rfl ?_
    refine lx_call rfl rfl ent14 (k12mul _ _) rfl rfl ?_
    refine lx_call rfl rfl ent9 (refs12 _) rfl rfl ?_
    refine lx_loada 7 rfl rfl Tryz.isAgg42 Tryz.sizeOf42 (by simp) rfl rfl ?_
    refine lx_loada 8 rfl rfl Tryz.isAgg42 Tryz.sizeOf42 (by simp) rfl rfl ?_
    refine lx_call rfl rfl ent15 (t5mul _ _) rfl rfl ?_
    refine lx_binB true rfl rfl (fun _ => eqg42 _ _ _ _ _ _) (fun w => eqv42 _ _ (by simp) (by simp) w) (q_mul _ _) rfl rfl ?_
    refine lx_pick rfl rfl rfl rfl rfl ?_
    refine lx_move rfl rfl rfl ?_
    refine lx_loada 5 rfl rfl Tryz.isAgg34 Tryz.sizeOf34 (by simp) rfl rfl ?_
    refine lx_call rfl rfl ent16 (k12square _) rfl rfl ?_
    refine lx_call rfl rfl ent9 (refs12 _) rfl rfl ?_
    refine lx_loada 7 rfl rfl Tryz.isAgg42 Tryz.sizeOf42 (by simp) rfl rfl ?_
    refine lx_loada 7 rfl rfl Tryz.isAgg42 Tryz.sizeOf42 (by simp) rfl rfl ?_
    refine lx_call rfl rfl ent15 (t5mul _ _) rfl rfl ?_
    refine lx_binB true rfl rfl (fun _ => eqg42 _ _ _ _ _ _) (fun w => eqv42 _ _ (by simp) (by simp) w) (q_mul _ _) rfl rfl ?_
    refine lx_pick rfl rfl rfl rfl rfl ?_
    refine lx_move rfl rfl rfl ?_
    refine lx_loada 5 rfl rfl Tryz.isAgg34 Tryz.sizeOf34 (by simp) rfl rfl ?_
    refine lx_call rfl rfl ent17 (k12conj _) rfl rfl ?_
    refine lx_call rfl rfl ent9 (refs12 _) rfl rfl ?_
    refine lx_loada 7 rfl rfl Tryz.isAgg42 Tryz.sizeOf42 (by simp) rfl rfl ?_
    refine lx_call rfl rfl ent18 (t5conj _) rfl rfl ?_
    refine lx_binB true rfl rfl (fun _ => eqg42 _ _ _ _ _ _) (fun w => eqv42 _ _ (by simp) (by simp) w) (q_conj _) rfl rfl ?_
    refine lx_pick rfl rfl rfl rfl rfl ?_
    refine lx_move rfl rfl rfl ?_
    refine lx_loada 5 rfl rfl Tryz.isAgg34 Tryz.sizeOf34 (by simp) rfl rfl ?_
    refine lx_call rfl rfl ent19 (k12inv _) rfl rfl ?_
    refine lx_call rfl rfl ent9 (refs12 _) rfl rfl ?_
    refine lx_loada 7 rfl rfl Tryz.isAgg42 Tryz.sizeOf42 (by simp) rfl rfl ?_
    refine lx_call rfl rfl ent20 (t5inv _) rfl rfl ?_
    refine lx_binB true rfl rfl (fun _ => eqg42 _ _ _ _ _ _) (fun w => eqv42 _ _ (by simp) (by simp) w) (q_inv _) rfl rfl ?_
    refine lx_pick rfl rfl rfl rfl rfl ?_
    refine lx_move rfl rfl rfl ?_
    refine lx_loada 5 rfl rfl Tryz.isAgg34 Tryz.sizeOf34 (by simp) rfl rfl ?_
    refine lx_loada 6 rfl rfl Tryz.isAgg34 Tryz.sizeOf34 (by simp) rfl rfl ?_
    refine lx_call rfl rfl ent21 (k12equal _ _) rfl rfl ?_
    refine lx_loada 7 rfl rfl Tryz.isAgg42 Tryz.sizeOf42 (by simp) rfl rfl ?_
    refine lx_loada 8 rfl rfl Tryz.isAgg42 Tryz.sizeOf42 (by simp) rfl rfl ?_
    refine lx_bin rfl rfl (fun _ => eqg42 _ _ _ _ _ _) (fun w => eqv42 _ _ (by simp) (by simp) w) rfl rfl ?_
    refine lx_binB true rfl rfl (fun _ => rfl) (fun w => bin_eql_bool 4 Tryz.underlying4 _ _ w) (b_eq _ _) rfl rfl ?_
    refine lx_pick rfl rfl rfl rfl rfl ?_
    refine lx_move rfl rfl rfl ?_
    refine lx_loada 5 rfl rfl Tryz.isAgg34 Tryz.sizeOf34 (by simp) rfl rfl ?_
    refine lx_call rfl rfl ent22 (k12isZero _) rfl rfl ?_
    refine lx_loada 7 rfl rfl Tryz.isAgg42 Tryz.sizeOf42 (by simp) rfl rfl ?_
    refine lx_row0 Tryz.underlying42 Tryz.sizeOf40 zv42 rfl rfl ?_
    refine lx_bin rfl rfl (fun _ => eqg42 _ _ _ _ _ _) (fun w => eqv42 _ _ (by simp) (by simp) w) rfl rfl ?_
    refine lx_binB true rfl rfl (fun _ => rfl) (fun w => bin_eql_bool 4 Tryz.underlying4 _ _ w) (b_ze _) rfl rfl ?_
    refine lx_pick rfl rfl rfl rfl rfl ?_
    refine lx_move rfl rfl rfl ?_
    refine lx_loada 9 rfl rfl Tryz.isAgg34 Tryz.sizeOf34 (by simp) rfl rfl ?_
    refine lx_call rfl rfl ent19 (zeroI12) rfl rfl ?_
    refine lx_callB true rfl rfl ent22 (k12isZero _) (decide_eq_true rfl) rfl rfl ?_
    refine lx_pick rfl rfl rfl rfl rfl ?_
    refine lx_assign rfl rfl rfl ?_
    refine lx_nil ?_
    refine x_ret ?_
    repeat (first | refine kseq_ret ?_ | refine kblk_ret ?_)
    exact kret_tmp rfl rfl (fun w hw => ⟨rfl, hp_below hw⟩)
end Go.Proofs.YtbpifgcbkhohbaaGreatDoor
