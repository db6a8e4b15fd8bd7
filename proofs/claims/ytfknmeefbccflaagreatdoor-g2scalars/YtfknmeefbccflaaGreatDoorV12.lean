/-
  The law G2Scalars.
-/
import Derived.Test.YtfknmeefbccflaaGreatDoorT2
import Derived.Test.YtfknmeefbccflaaGreatDoorV4
namespace Go.Proofs.YtfknmeefbccflaaGreatDoor
open Go.RowKit
set_option maxRecDepth 100000
set_option maxHeartbeats 1000000
attribute [local simp] fe_len nm_len AS_len SS_len MONT_len RM_len FRs_len BYs_len by48_len PLl TWOl ONEl N1l IVPl HFPl RTPl FL_len SP_len fe2_len SP2_len FM_len GL_len
attribute [local simp] nr_len by32_len

theorem RR_ORD : ORD = RR := by decide +kernel
theorem g2_rr (r : Nat) (h : ORD = r) : E2w.times (some G2p) r = none := by
  subst h
  exact g2_order
theorem s_ord (bs : List (BitVec 8)) : E2w.times (gMul gGen bs).P RR = none := by
  have h : ∀ r, E2w.times (some G2p) r = none → E2w.times (gMul gGen bs).P r = none := fun r h => E2w.times_ord (P := some G2p) (onP_some G2_on) h (BN bs bs.length)
  exact h RR (g2_rr RR RR_ORD)
theorem gR_P (p : GP) (k : Zr) : (gMulR p k).P = E2w.times p.P k.val := rfl
theorem gM_P (p : GP) (bs : List (BitVec 8)) (n : Nat) (h : bs.length = n) : (gMul p bs).P = E2w.times p.P (BN bs n) := by
  subst h
  rfl
theorem s_bytes (p : GP) (x : Zr) : (gMulR p x).P = (gMul p (by32 x)).P := by rw [gR_P, gM_P p (by32 x) 32 (by32_len x), BN_by32]
theorem s_add {p : GP} (h : E2w.times p.P RR = none) (x y : Zr) : (gMulR p (x + y)).P = (gAdd (gMulR p x) (gMulR p y)).P := by
  rw [show (gAdd (gMulR p x) (gMulR p y)).P = E2w.ad (gMulR p x).P (gMulR p y).P from rfl, gR_P, gR_P, gR_P, Fin.val_add, E2w.times_mod p.on h, E2w.times_add p.on]
theorem s_mul {p : GP} (h : E2w.times p.P RR = none) (x y : Zr) : (gMulR p (x * y)).P = (gMulR (gMulR p x) y).P := by
  rw [gR_P, gR_P, gR_P, Fin.val_mul, E2w.times_mod p.on h, E2w.times_mul p.on]
theorem s_neg {p : GP} (h : E2w.times p.P RR = none) (x : Zr) : (gMulR p (-x)).P = (gNeg (gMulR p x)).P := by
  rw [show (gNeg (gMulR p x)).P = E2w.ne (gMulR p x).P from rfl, gR_P, gR_P, Fin.val_neg', E2w.times_mod p.on h, E2w.times_sub p.on h (Nat.le_of_lt x.isLt)]
theorem s_zero (p : GP) : (gMulR p 0).P = none := by rw [gR_P, show ((0 : Zr)).val = 0 from rfl]; rfl
theorem s_one (p : GP) : (gMulR p 1).P = p.P := by rw [gR_P, show ((1 : Zr)).val = 1 from rfl, E2w.times_one]
theorem mulfr0 (p : GP) : Pure Tryz.prog Gt 41 [PtV p, .agg ((List.replicate 6 0#64).map U64).toArray] (PtV (gMulR p 0)) := by
  have h := mulfr_p p 0
  rw [show RV 0 = .agg ((List.replicate 6 0#64).map U64).toArray from by rw [RV, nr_0]] at h
  exact h
theorem qof1 : Pure Tryz.prog Gt 45 [U64 1#64] (RV 1) := qof_pure 1#64
theorem scalars8 (e0 : Option Addr) (cap0 : Nat) (bs0 : List (BitVec 8)) (hcap0 : bs0.length ≤ cap0) (e1 : Option Addr) (cap1 : Nat) (bs1 : List (BitVec 8)) (hcap1 : bs1.length ≤ cap1) (e2 : Option Addr) (cap2 : Nat) (bs2 : List (BitVec 8)) (_ : bs2.length ≤ cap2) (w : World) (hw : Gt w) (hb0 : BytesAt w e0 bs0) (hb1 : BytesAt w e1 bs1) (hb2 : BytesAt w e2 bs2) :
    Calls Tryz.prog 8 [.slice e0 bs0.length cap0, .slice e1 bs1.length cap1, .slice e2 bs2.length cap2].toArray w (fun r w' => r = .returned (.bool true) ∧ Grow w w') := by
  have hGF : BOk Gt (pl w) := gt_low.plain hw
  by_cases hL : ∀ v ∈ [(e0, bs0.length, cap0), (e1, bs1.length, cap1)], v.2.1 ≤ 100
  · skip
    have hl0 : bs0.length ≤ 100 := hL (e0, bs0.length, cap0) (by simp)
    have hl1 : bs1.length ≤ 100 := hL (e1, bs1.length, cap1) (by simp)
    by_cases g2 : bs2.length ≤ 8
    · skip
      refine calls_of_X (G := Gt) Tryz.func8 rfl rfl (Hp (pl w) []) (hp_refl (pl w) trivial rides_true) (good_hp hGF) ?_
      refine xs_plain (E := EE []) ?_
      refine lx_assign rfl rfl rfl ?_
      refine lx_nil ?_
      refine x_seq ?_
      refine xs_plain (E := EE []) ?_
      refine lx_callB true rfl rfl ent10 (known8) (rfl) rfl rfl ?_
      refine lx_un rfl (fun _ => un_not _) rfl rfl ?_
      refine lx_nil ?_
      refine x_false rfl ?_
      refine x_skip ?_
      refine x_seq ?_
      refine xs_plain (E := EE []) ?_
      refine lx_move rfl rfl rfl ?_
      refine lx_move rfl rfl rfl ?_
      refine lx_bslV 940 (SVl [(e0, bs0.length, cap0), (e1, bs1.length, cap1)]) hGF rfl rfl rfl (by decide) (by decide) Tryz.underlying82 Tryz.sizeOf22 Tryz.zeroValue22 rfl rfl rfl ?_
      intro b940
      refine lx_callC rfl rfl ent11 (fun w' hC hG => light_t b940 2 [(e0, bs0.length, cap0), (e1, bs1.length, cap1)] rfl (by decide) hL w' hG (hp_row (n := 940) rfl w' hC)) rfl rfl ?_
      refine lx_un rfl (fun _ => un_not _) rfl rfl ?_
      refine lx_move rfl rfl rfl ?_
      refine lx_move rfl rfl rfl ?_
      refine lx_len rfl (fun _ => len_slice Tryz.underlying22 _ _ _ _) rfl rfl ?_
      refine lx_binB false rfl rfl (fun _ => rfl) (fun _ => bin_gtr_i _ _ _) (decide_eq_false (by omega)) rfl rfl ?_
      refine lx_pick rfl rfl rfl rfl rfl ?_
      refine lx_nil ?_
      refine x_false rfl ?_
      refine x_skip ?_
      refine xs_plain (E := EE []) ?_
      refine lx_call rfl rfl ent38 (gen_p) rfl rfl ?_
      refine lx_move rfl rfl rfl ?_
      refine lx_callC rfl rfl ent36 (fun w' hC hG => mul_c _ e2 cap2 bs2 (by omega) w' hG (hb2.grow (hp_below hC))) rfl rfl ?_
      refine lx_allocr 7 hGF zv33 rfl rfl ?_
      intro b7
      refine lx_storea 7 hGF rfl rfl rfl Tryz.sizeOf33 (by simp) (by simp) (one_u64 _) rfl ?_
      refine lx_nil ?_
      refine xs_plain (E := EE []) ?_
      refine lx_move rfl rfl rfl ?_
      refine lx_callC rfl rfl ent39 (fun w' hC hG => qwide_calls e0 cap0 bs0 (by omega) hcap0 w' hG (hb0.grow (hp_below hC))) rfl rfl ?_
      refine lx_move rfl rfl rfl ?_
      refine lx_callC rfl rfl ent39 (fun w' hC hG => qwide_calls e1 cap1 bs1 (by omega) hcap1 w' hG (hb1.grow (hp_below hC))) rfl rfl ?_
      refine lx_allocr 8 hGF zv70 rfl rfl ?_
      intro b8
      refine lx_allocr 9 hGF zv70 rfl rfl ?_
      intro b9
      refine lx_storea 8 hGF rfl rfl rfl Tryz.sizeOf70 (by simp) (by simp) (one_u64 _) rfl ?_
      refine lx_storea 9 hGF rfl rfl rfl Tryz.sizeOf70 (by simp) (by simp) (one_u64 _) rfl ?_
      refine lx_nil ?_
      refine xs_plain (E := EE []) ?_
      refine lx_loada 8 rfl rfl Tryz.isAgg70 Tryz.sizeOf70 (by simp) rfl rfl ?_
      refine lx_call rfl rfl ent40 (qbytes_pure _) rfl rfl ?_
      refine lx_allocr 10 hGF zv72 rfl rfl ?_
      intro b10
      refine lx_storea 10 hGF rfl rfl rfl Tryz.sizeOf72 (by simp) (by simp) (one_u8 _) rfl ?_
      refine lx_nil ?_
      refine xs_drawnT (E := EE []) [(33, [7], []), (34, [8], []), (35, [32, 33], [0, 1]), (36, [7], []), (37, [10], []), (38, [35, 36], [3, 4, 2]), (39, [34, 37], [2, 5, 5]), (40, [38], [6, 6]), (41, [7, 39], [7]), (42, [8, 39], [7]), (43, [9, 39], [7]), (44, [41, 42, 39], [9, 10, 7, 7]), (45, [40, 43, 39], [8, 11, 11, 7]), (46, [7, 39], [7]), (47, [8, 39], [7]), (48, [45, 46, 39], [13, 14, 12, 7]), (49, [7, 39], [7]), (50, [9, 39], [7]), (51, [48, 49, 39], [16, 17, 15, 7]), (52, [47, 50, 39], [15, 18, 18, 7]), (53, [44, 51, 39], [12, 19, 19, 7]), (54, [39, 52], [7, 20]), (55, [53], [21, 20]), (56, [7, 54], [22]), (57, [8, 54], [22]), (58, [9, 54], [22]), (59, [56, 57, 54], [24, 25, 22, 22]), (60, [55, 58, 54], [23, 26, 26, 22]), (61, [7, 54], [22]), (62, [8, 54], [22]), (63, [60, 61, 54], [28, 29, 27, 22]), (64, [9, 54], [22]), (65, [62, 63, 54], [30, 31, 30, 22]), (66, [59, 64, 54], [27, 32, 32, 22]), (67, [54, 65], [22, 33]), (68, [66], [34, 33]), (69, [7, 67], [35]), (70, [8, 67], [35]), (71, [69, 67], [37, 35, 35]), (72, [68, 70, 67], [36, 38, 38, 35]), (73, [7, 67], [35]), (74, [8, 67], [35]), (75, [72, 73, 67], [40, 41, 39, 35]), (76, [74, 67], [42, 42, 35]), (77, [71, 75, 67], [39, 43, 43, 35]), (78, [67, 76], [35, 44]), (79, [77], [45, 44]), (80, [7, 78], [46]), (81, [78], [46]), (82, [79, 80, 78], [47, 48, 46, 46]), (83, [81, 78], [49, 49, 46]), (84, [78, 82], [46, 50]), (85, [83], [51, 50]), (86, [7, 84], [52]), (87, [84], [52, 52]), (88, [85, 86, 84], [53, 54, 54, 52]), (89, [7, 84], [52]), (90, [87, 88, 84], [55, 56, 55, 52]), (91, [84, 89], [52, 57]), (7, [90], [58, 57, 0, 1, 2, 3, 4, 5, 6, 7, 8, 9, 10, 11, 12, 13, 14, 15, 16, 17, 18, 19, 20, 21, 22, 23, 24, 25, 26, 27, 28, 29, 30, 31, 32, 33, 34, 35, 36, 37, 38, 39, 40, 41, 42, 43, 44, 45, 46, 47, 48, 49, 50, 51, 52, 53, 54, 55, 56, 57, 58])] mixed (by kernel_rfl) (by kernel_rfl) (by kernel_rfl) (by kernel_rfl) (by kernel_rfl) ?_
      refine lx_loada 7 rfl rfl Tryz.isAgg33 Tryz.sizeOf33 (by simp) rfl rfl ?_
      refine lx_loada 8 rfl rfl Tryz.isAgg70 Tryz.sizeOf70 (by simp) rfl rfl ?_
      refine lx_call rfl rfl ent41 (mulfr_p _ _) rfl rfl ?_
      refine lx_loada 7 rfl rfl Tryz.isAgg33 Tryz.sizeOf33 (by simp) rfl rfl ?_
      refine lx_slarr1 (l := 0) (h' := 32) rfl Tryz.underlying72 Tryz.sizeOf5 rfl rfl (by decide) (by decide) rfl rfl ?_
      refine lx_callC rfl rfl ent36 (fun w' hC hG => mul_len _ _ _ (by32 (QB bs0)) 32 (by32_len _) (by decide) w' hG (BytesAt.range (hp_row (n := 10) rfl w' hC))) rfl rfl ?_
      refine lx_callB true rfl rfl ent23 (equal_p _ _) (decide_eq_true (s_bytes _ _)) rfl rfl ?_
      refine lx_move rfl rfl rfl ?_
      refine lx_loada 7 rfl rfl Tryz.isAgg33 Tryz.sizeOf33 (by simp) rfl rfl ?_
      refine lx_loada 8 rfl rfl Tryz.isAgg70 Tryz.sizeOf70 (by simp) rfl rfl ?_
      refine lx_loada 9 rfl rfl Tryz.isAgg70 Tryz.sizeOf70 (by simp) rfl rfl ?_
      refine lx_call rfl rfl ent42 (qadd_pure _ _) rfl rfl ?_
      refine lx_call rfl rfl ent41 (mulfr_p _ _) rfl rfl ?_
      refine lx_loada 7 rfl rfl Tryz.isAgg33 Tryz.sizeOf33 (by simp) rfl rfl ?_
      refine lx_loada 8 rfl rfl Tryz.isAgg70 Tryz.sizeOf70 (by simp) rfl rfl ?_
      refine lx_call rfl rfl ent41 (mulfr_p _ _) rfl rfl ?_
      refine lx_loada 7 rfl rfl Tryz.isAgg33 Tryz.sizeOf33 (by simp) rfl rfl ?_
      refine lx_loada 9 rfl rfl Tryz.isAgg70 Tryz.sizeOf70 (by simp) rfl rfl ?_
      refine lx_call rfl rfl ent41 (mulfr_p _ _) rfl rfl ?_
      refine lx_call rfl rfl ent26 (add_p _ _) rfl rfl ?_
      refine lx_callB true rfl rfl ent23 (equal_p _ _) (decide_eq_true (s_add (s_ord bs2) _ _)) rfl rfl ?_
      refine lx_pick rfl rfl rfl rfl rfl ?_
      refine lx_move rfl rfl rfl ?_
      refine lx_loada 7 rfl rfl Tryz.isAgg33 Tryz.sizeOf33 (by simp) rfl rfl ?_
      refine lx_loada 8 rfl rfl Tryz.isAgg70 Tryz.sizeOf70 (by simp) rfl rfl ?_
      refine lx_loada 9 rfl rfl Tryz.isAgg70 Tryz.sizeOf70 (by simp) rfl rfl ?_
      refine lx_call rfl rfl ent43 (qmul_pure _ _) rfl rfl ?_
      refine lx_call rfl rfl ent41 (mulfr_p _ _) rfl rfl ?_
      refine lx_loada 7 rfl rfl Tryz.isAgg33 Tryz.sizeOf33 (by simp) rfl rfl ?_
      refine lx_loada 8 rfl rfl Tryz.isAgg70 Tryz.sizeOf70 (by simp) rfl rfl ?_
      refine lx_call rfl rfl ent41 (mulfr_p _ _) rfl rfl ?_
      refine lx_loada 9 rfl rfl Tryz.isAgg70 Tryz.sizeOf70 (by simp) rfl rfl ?_
      refine lx_call rfl rfl ent41 (mulfr_p _ _) rfl rfl ?_
      refine lx_callB true rfl rfl ent23 (equal_p _ _) (decide_eq_true (s_mul (s_ord bs2) _ _)) rfl rfl ?_
      refine lx_pick rfl rfl rfl rfl rfl ?_
      refine lx_move rfl rfl rfl ?_
      refine lx_loada 7 rfl rfl Tryz.isAgg33 Tryz.sizeOf33 (by simp) rfl rfl ?_
      refine lx_loada 8 rfl rfl Tryz.isAgg70 Tryz.sizeOf70 (by simp) rfl rfl ?_
      refine lx_call rfl rfl ent44 (qneg_pure _) rfl rfl ?_
      refine lx_call rfl rfl ent41 (mulfr_p _ _) rfl rfl ?_
      refine lx_loada 7 rfl rfl Tryz.isAgg33 Tryz.sizeOf33 (by simp) rfl rfl ?_
      refine lx_loada 8 rfl rfl Tryz.isAgg70 Tryz.sizeOf70 (by simp) rfl rfl ?_
      refine lx_call rfl rfl ent41 (mulfr_p _ _) rfl rfl ?_
      refine lx_call rfl rfl ent24 (neg_p _) rfl rfl ?_
      refine lx_callB true rfl rfl ent23 (equal_p _ _) (decide_eq_true (s_neg (s_ord bs2) _)) rfl rfl ?_
      refine lx_pick rfl rfl rfl rfl rfl ?_
      refine lx_move rfl rfl rfl ?_
      refine lx_loada 7 rfl rfl Tryz.isAgg33 Tryz.sizeOf33 (by simp) rfl rfl ?_
      refine lx_builds zv70 Tryz.underlying70 (bm_one Tryz.sizeOf26) rfl rfl ?_
      refine lx_call rfl rfl ent41 (mulfr0 _) rfl rfl ?_
      refine lx_callB true rfl rfl ent16 (isInf_p _) (decide_eq_true (s_zero _)) rfl rfl ?_
      refine lx_pick rfl rfl rfl rfl rfl ?_
      refine lx_move rfl rfl rfl ?_
      refine lx_loada 7 rfl rfl Tryz.isAgg33 Tryz.sizeOf33 (by simp) rfl rfl ?_
      refine lx_call rfl rfl ent45 (qof1) rfl rfl ?_
      refine lx_call rfl rfl ent41 (mulfr_p _ 1) rfl rfl ?_
      refine lx_loada 7 rfl rfl Tryz.isAgg33 Tryz.sizeOf33 (by simp) rfl rfl ?_
      refine lx_callB true rfl rfl ent23 (equal_p _ _) (decide_eq_true (s_one _)) rfl rfl ?_
      refine lx_pick rfl rfl rfl rfl rfl ?_
      refine lx_assign rfl rfl rfl ?_
      refine lx_nil ?_
      refine x_ret ?_
      repeat (first | refine kseq_ret ?_ | refine kblk_ret ?_)
      exact kret_tmp rfl rfl (fun w hw => ⟨rfl, hp_below hw⟩)
    · skip
      refine calls_of_X (G := Gt) Tryz.func8 rfl rfl (Hp (pl w) []) (hp_refl (pl w) trivial rides_true) (good_hp hGF) ?_
      refine xs_plain (E := EE []) ?_
      refine lx_assign rfl rfl rfl ?_
      refine lx_nil ?_
      refine x_seq ?_
      refine xs_plain (E := EE []) ?_
      refine lx_callB true rfl rfl ent10 (known8) (rfl) rfl rfl ?_
      refine lx_un rfl (fun _ => un_not _) rfl rfl ?_
      refine lx_nil ?_
      refine x_false rfl ?_
      refine x_skip ?_
      refine x_seq ?_
      refine xs_plain (E := EE []) ?_
      refine lx_move rfl rfl rfl ?_
      refine lx_move rfl rfl rfl ?_
      refine lx_bslV 940 (SVl [(e0, bs0.length, cap0), (e1, bs1.length, cap1)]) hGF rfl rfl rfl (by decide) (by decide) Tryz.underlying82 Tryz.sizeOf22 Tryz.zeroValue22 rfl rfl rfl ?_
      intro b940
      refine lx_callC rfl rfl ent11 (fun w' hC hG => light_t b940 2 [(e0, bs0.length, cap0), (e1, bs1.length, cap1)] rfl (by decide) hL w' hG (hp_row (n := 940) rfl w' hC)) rfl rfl ?_
      refine lx_un rfl (fun _ => un_not _) rfl rfl ?_
      refine lx_move rfl rfl rfl ?_
      refine lx_move rfl rfl rfl ?_
      refine lx_len rfl (fun _ => len_slice Tryz.underlying22 _ _ _ _) rfl rfl ?_
      refine lx_binB true rfl rfl (fun _ => rfl) (fun _ => bin_gtr_i _ _ _) (decide_eq_true (by omega)) rfl rfl ?_
      refine lx_pick rfl rfl rfl rfl rfl ?_
      refine lx_nil ?_
      refine x_true rfl ?_
      refine xs_plain (E := EE []) ?_
      refine lx_assign rfl rfl rfl ?_
      refine lx_nil ?_
      refine x_ret ?_
      repeat (first | refine kseq_ret ?_ | refine kblk_ret ?_)
      exact kret_tmp rfl rfl (fun w hw => ⟨rfl, hp_below hw⟩)
  · skip
    refine calls_of_X (G := Gt) Tryz.func8 rfl rfl (Hp (pl w) []) (hp_refl (pl w) trivial rides_true) (good_hp hGF) ?_
    refine xs_plain (E := EE []) ?_
    refine lx_assign rfl rfl rfl ?_
    refine lx_nil ?_
    refine x_seq ?_
    refine xs_plain (E := EE []) ?_
    refine lx_callB true rfl rfl ent10 (known8) (rfl) rfl rfl ?_
    refine lx_un rfl (fun _ => un_not _) rfl rfl ?_
    refine lx_nil ?_
    refine x_false rfl ?_
    refine x_skip ?_
    refine x_seq ?_
    refine xs_plain (E := EE []) ?_
    refine lx_move rfl rfl rfl ?_
    refine lx_move rfl rfl rfl ?_
    refine lx_bslV 940 (SVl [(e0, bs0.length, cap0), (e1, bs1.length, cap1)]) hGF rfl rfl rfl (by decide) (by decide) Tryz.underlying82 Tryz.sizeOf22 Tryz.zeroValue22 rfl rfl rfl ?_
    intro b940
    refine lx_callC rfl rfl ent11 (fun w' hC hG => light_f b940 2 [(e0, bs0.length, cap0), (e1, bs1.length, cap1)] rfl (by decide) hL w' hG (hp_row (n := 940) rfl w' hC)) rfl rfl ?_
    refine lx_un rfl (fun _ => un_not _) rfl rfl ?_
    refine lx_move rfl rfl rfl ?_
    refine lx_skip rfl rfl rfl ?_
    refine lx_skip rfl rfl rfl ?_
    refine lx_skip rfl rfl rfl ?_
    refine lx_pick rfl rfl rfl rfl rfl ?_
    refine lx_nil ?_
    refine x_true rfl ?_
    refine xs_plain (E := EE []) ?_
    refine lx_assign rfl rfl rfl ?_
    refine lx_nil ?_
    refine x_ret ?_
    repeat (first | refine kseq_ret ?_ | refine kblk_ret ?_)
    exact kret_tmp rfl rfl (fun w hw => ⟨rfl, hp_below hw⟩)
end Go.Proofs.YtfknmeefbccflaaGreatDoor
