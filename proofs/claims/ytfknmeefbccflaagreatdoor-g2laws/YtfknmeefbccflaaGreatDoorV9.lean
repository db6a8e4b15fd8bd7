/-
  The law G2Laws.
-/
import Derived.Test.YtfknmeefbccflaaGreatDoorV6
import Derived.Test.YtfknmeefbccflaaGreatDoorX3
namespace Go.Proofs.YtfknmeefbccflaaGreatDoor
open Go.RowKit
set_option maxRecDepth 100000
set_option maxHeartbeats 1000000
attribute [local simp] fe_len nm_len AS_len SS_len MONT_len RM_len FRs_len BYs_len by48_len PLl TWOl ONEl N1l IVPl HFPl RTPl FL_len SP_len fe2_len SP2_len FM_len GL_len

theorem bin_add_w {w : World} (t : TypeId) (a b : Int) : (binOp .add t (I a) (I b)).run Tryz.prog w = .ok (I (IntKind.wrap .i64 (a + b))) w := by
  show (Op.intArith .add .i64 a b).run Tryz.prog w = _
  simp only [Op.intArith, Sem.run_pure]
def f3 (p q r : GP) : Nat → GP
  | 0 => p
  | 1 => q
  | _ => r
theorem l_comm (p q : GP) : (gAdd p q).P = (gAdd q p).P := E2w.ad_comm p.on q.on
theorem l_assoc (p q r : GP) : (gAdd p (gAdd q r)).P = (gAdd (gAdd p q) r).P := (E2w.ad_assoc p.on q.on r.on).symm
theorem l_inf (p : GP) : (gAdd p gInf).P = p.P := E2w.ad_nr p.P
theorem l_back (p q : GP) : (gAdd (gAdd p q) (gNeg q)).P = p.P := by
  show E2w.ad (E2w.ad p.P q.P) (E2w.ne q.P) = p.P
  rw [E2w.ad_assoc p.on q.on (E2w.ne_on q.on), E2w.ad_ne, E2w.ad_nr]
theorem l_nn (p : GP) : (gNeg (gNeg p)).P = p.P := E2w.ne_ne p.P
theorem l_sum (p q r : GP) : (gSum (f3 p q r) 3).P = (gAdd (gAdd r q) p).P := by
  show E2w.ad (E2w.ad (E2w.ad none p.P) q.P) r.P = E2w.ad (E2w.ad r.P q.P) p.P
  rw [E2w.ad_nl, E2w.ad_comm (E2w.ad_on p.on q.on) r.on, E2w.ad_comm p.on q.on, E2w.ad_assoc r.on q.on p.on]
theorem l_none (f : Nat → GP) : (gSum f 0).P = none := rfl
theorem laws8 (e0 : Option Addr) (cap0 : Nat) (bs0 : List (BitVec 8)) (_ : bs0.length ≤ cap0) (e1 : Option Addr) (cap1 : Nat) (bs1 : List (BitVec 8)) (_ : bs1.length ≤ cap1) (e2 : Option Addr) (cap2 : Nat) (bs2 : List (BitVec 8)) (_ : bs2.length ≤ cap2) (e3 : Option Addr) (cap3 : Nat) (bs3 : List (BitVec 8)) (hcap3 : bs3.length ≤ cap3) (n4 : Int) (w : World) (hw : Gt w) (hb0 : BytesAt w e0 bs0) (hb1 : BytesAt w e1 bs1) (hb2 : BytesAt w e2 bs2) (hb3 : BytesAt w e3 bs3) :
    Calls Tryz.prog 6 [.slice e0 bs0.length cap0, .slice e1 bs1.length cap1, .slice e2 bs2.length cap2, .slice e3 bs3.length cap3, I n4].toArray w (fun r w' => r = .returned (.bool true) ∧ Grow w w') := by
  have hGF : BOk Gt (pl w) := gt_low.plain hw
  by_cases hL : ∀ v ∈ [(e3, bs3.length, cap3)], v.2.1 ≤ 100
  · skip
    have hl3 : bs3.length ≤ 100 := hL (e3, bs3.length, cap3) (by simp)
    by_cases g0 : bs0.length ≤ 8
    · skip
      by_cases g1 : bs1.length ≤ 8
      · skip
        by_cases g2 : bs2.length ≤ 8
        · skip
          obtain ⟨p, hp⟩ := point_ex bs0 bs3 n4 (by omega) (by omega)
          obtain ⟨q, hq⟩ := point_ex bs1 bs3 (IntKind.wrap .i64 (n4 + 1)) (by omega) (by omega)
          obtain ⟨r, hr⟩ := point_ex bs2 bs3 (IntKind.wrap .i64 (n4 + 2)) (by omega) (by omega)
          refine calls_of_X (G := Gt) Tryz.func6 rfl rfl (Hp (pl w) []) (hp_refl (pl w) trivial rides_true) (good_hp hGF) ?_
          refine xs_plain (E := EE []) ?_
          refine lx_assign rfl rfl rfl ?_
          refine lx_nil ?_
          refine x_seq ?_
          refine xs_plain (E := EE []) ?_
          refine lx_callB true rfl rfl ent10 (known8) (rfl) rfl rfl ?_
          refine lx_un rfl (fun _ => un_not _) rfl rfl ?_
          refine lx_nil ?_
          refine x_false rfl ?_
          refine x_skip ?_
          refine x_seq ?_
          refine xs_plain (E := EE []) ?_
          refine lx_move rfl rfl rfl ?_
          refine lx_bslV 940 (SVl [(e3, bs3.length, cap3)]) hGF rfl rfl rfl (by decide) (by decide) Tryz.underlying82 Tryz.sizeOf22 Tryz.zeroValue22 rfl rfl rfl ?_
          intro b940
          refine lx_callC rfl rfl ent11 (fun w' hC hG => light_t b940 1 [(e3, bs3.length, cap3)] rfl (by decide) hL w' hG (hp_row (n := 940) rfl w' hC)) rfl rfl ?_
          refine lx_un rfl (fun _ => un_not _) rfl rfl ?_
          refine lx_move rfl rfl rfl ?_
          refine lx_move rfl rfl rfl ?_
          refine lx_len rfl (fun _ => len_slice Tryz.underlying22 _ _ _ _) rfl rfl ?_
          refine lx_binB false rfl rfl (fun _ => rfl) (fun _ => bin_gtr_i _ _ _) (decide_eq_false (by omega)) rfl rfl ?_
          refine lx_pick rfl rfl rfl rfl rfl ?_
          refine lx_move rfl rfl rfl ?_
          refine lx_move rfl rfl rfl ?_
          refine lx_len rfl (fun _ => len_slice Tryz.underlying22 _ _ _ _) rfl rfl ?_
          refine lx_binB false rfl rfl (fun _ => rfl) (fun _ => bin_gtr_i _ _ _) (decide_eq_false (by omega)) rfl rfl ?_
          refine lx_pick rfl rfl rfl rfl rfl ?_
          refine lx_move rfl rfl rfl ?_
          refine lx_move rfl rfl rfl ?_
          refine lx_len rfl (fun _ => len_slice Tryz.underlying22 _ _ _ _) rfl rfl ?_
          refine lx_binB false rfl rfl (fun _ => rfl) (fun _ => bin_gtr_i _ _ _) (decide_eq_false (by omega)) rfl rfl ?_
          refine lx_pick rfl rfl rfl rfl rfl ?_
          refine lx_nil ?_
          refine x_false rfl ?_
          refine x_skip ?_
          refine xs_plain (E := EE []) ?_
          refine lx_move rfl rfl rfl ?_
          refine lx_move rfl rfl rfl ?_
          refine lx_move rfl rfl rfl ?_
          refine lx_callC rfl rfl ent25 (fun w' hC hG => hp e0 cap0 e3 cap3 hcap3 w' hG (hb0.grow (hp_below hC)) (hb3.grow (hp_below hC))) rfl rfl ?_
          refine lx_move rfl rfl rfl ?_
          refine lx_move rfl rfl rfl ?_
          refine lx_move rfl rfl rfl ?_
          refine lx_bin rfl rfl (fun _ => rfl) (fun _ => bin_add_w _ _ _) rfl rfl ?_
          refine lx_callC rfl rfl ent25 (fun w' hC hG => hq e1 cap1 e3 cap3 hcap3 w' hG (hb1.grow (hp_below hC)) (hb3.grow (hp_below hC))) rfl rfl ?_
          refine lx_move rfl rfl rfl ?_
          refine lx_move rfl rfl rfl ?_
          refine lx_move rfl rfl rfl ?_
          refine lx_bin rfl rfl (fun _ => rfl) (fun _ => bin_add_w _ _ _) rfl rfl ?_
          refine lx_callC rfl rfl ent25 (fun w' hC hG => hr e2 cap2 e3 cap3 hcap3 w' hG (hb2.grow (hp_below hC)) (hb3.grow (hp_below hC))) rfl rfl ?_
          refine lx_allocr 11 hGF zv33 rfl rfl ?_
          intro b11
          refine lx_allocr 12 hGF zv33 rfl rfl ?_
          intro b12
          refine lx_allocr 13 hGF zv33 rfl rfl ?_
          intro b13
          refine lx_storea 11 hGF rfl rfl rfl Tryz.sizeOf33 (by simp) (by simp) (one_u64 _) rfl ?_
          refine lx_storea 12 hGF rfl rfl rfl Tryz.sizeOf33 (by simp) (by simp) (one_u64 _) rfl ?_
          refine lx_storea 13 hGF rfl rfl rfl Tryz.sizeOf33 (by simp) (by simp) (one_u64 _) rfl ?_
          refine lx_nil ?_
          refine xs_tree (EE [2999997, 2999998]) mixed (by kernel_rfl) (by kernel_rfl) ?_
          refine tr_pre (m := 0) [0, 1, 2, 3, 4, 5, 6, 7, 8, 9, 10, 11, 12, 13, 14, 15, 16, 17, 18, 19, 20, 21, 22, 23, 24, 25, 26, 27, 28, 29, 30, 31, 32, 33, 34, 35, 36, 37, 38, 39, 40, 41, 42, 43, 44, 45, 46, 47, 48, 49, 50, 51, 52, 53, 54, 57, 58, 60, 55, 56, 59, 61, 62, 63, 64, 65, 66, 67, 68] (by kernel_rfl) ?_
          refine lx_loada 11 rfl rfl Tryz.isAgg33 Tryz.sizeOf33 (by simp) rfl rfl ?_
          refine lx_loada 12 rfl rfl Tryz.isAgg33 Tryz.sizeOf33 (by simp) rfl rfl ?_
          refine lx_call rfl rfl ent26 (add_p _ _) rfl rfl ?_
          refine lx_loada 12 rfl rfl Tryz.isAgg33 Tryz.sizeOf33 (by simp) rfl rfl ?_
          refine lx_loada 11 rfl rfl Tryz.isAgg33 Tryz.sizeOf33 (by simp) rfl rfl ?_
          refine lx_call rfl rfl ent26 (add_p _ _) rfl rfl ?_
          refine lx_callB true rfl rfl ent23 (equal_p _ _) (decide_eq_true (l_comm _ _)) rfl rfl ?_
          refine lx_move rfl rfl rfl ?_
          refine lx_loada 11 rfl rfl Tryz.isAgg33 Tryz.sizeOf33 (by simp) rfl rfl ?_
          refine lx_loada 12 rfl rfl Tryz.isAgg33 Tryz.sizeOf33 (by simp) rfl rfl ?_
          refine lx_loada 13 rfl rfl Tryz.isAgg33 Tryz.sizeOf33 (by simp) rfl rfl ?_
          refine lx_call rfl rfl ent26 (add_p _ _) rfl rfl ?_
          refine lx_call rfl rfl ent26 (add_p _ _) rfl rfl ?_
          refine lx_loada 11 rfl rfl Tryz.isAgg33 Tryz.sizeOf33 (by simp) rfl rfl ?_
          refine lx_loada 12 rfl rfl Tryz.isAgg33 Tryz.sizeOf33 (by simp) rfl rfl ?_
          refine lx_call rfl rfl ent26 (add_p _ _) rfl rfl ?_
          refine lx_loada 13 rfl rfl Tryz.isAgg33 Tryz.sizeOf33 (by simp) rfl rfl ?_
          refine lx_call rfl rfl ent26 (add_p _ _) rfl rfl ?_
          refine lx_callB true rfl rfl ent23 (equal_p _ _) (decide_eq_true (l_assoc _ _ _)) rfl rfl ?_
          refine lx_pick rfl rfl rfl rfl rfl ?_
          refine lx_move rfl rfl rfl ?_
          refine lx_loada 11 rfl rfl Tryz.isAgg33 Tryz.sizeOf33 (by simp) rfl rfl ?_
          refine lx_call rfl rfl ent27 (inf_p) rfl rfl ?_
          refine lx_call rfl rfl ent26 (add_p _ _) rfl rfl ?_
          refine lx_loada 11 rfl rfl Tryz.isAgg33 Tryz.sizeOf33 (by simp) rfl rfl ?_
          refine lx_callB true rfl rfl ent23 (equal_p _ _) (decide_eq_true (l_inf _)) rfl rfl ?_
          refine lx_pick rfl rfl rfl rfl rfl ?_
          refine lx_move rfl rfl rfl ?_
          refine lx_loada 11 rfl rfl Tryz.isAgg33 Tryz.sizeOf33 (by simp) rfl rfl ?_
          refine lx_loada 11 rfl rfl Tryz.isAgg33 Tryz.sizeOf33 (by simp) rfl rfl ?_
          refine lx_call rfl rfl ent24 (neg_p _) rfl rfl ?_
          refine lx_call rfl rfl ent26 (add_p _ _) rfl rfl ?_
          refine lx_callB true rfl rfl ent16 (isInf_p _) (decide_eq_true (k_und _)) rfl rfl ?_
          refine lx_pick rfl rfl rfl rfl rfl ?_
          refine lx_move rfl rfl rfl ?_
          refine lx_loada 11 rfl rfl Tryz.isAgg33 Tryz.sizeOf33 (by simp) rfl rfl ?_
          refine lx_loada 12 rfl rfl Tryz.isAgg33 Tryz.sizeOf33 (by simp) rfl rfl ?_
          refine lx_call rfl rfl ent26 (add_p _ _) rfl rfl ?_
          refine lx_loada 12 rfl rfl Tryz.isAgg33 Tryz.sizeOf33 (by simp) rfl rfl ?_
          refine lx_call rfl rfl ent24 (neg_p _) rfl rfl ?_
          refine lx_call rfl rfl ent26 (add_p _ _) rfl rfl ?_
          refine lx_loada 11 rfl rfl Tryz.isAgg33 Tryz.sizeOf33 (by simp) rfl rfl ?_
          refine lx_callB true rfl rfl ent23 (equal_p _ _) (decide_eq_true (l_back _ _)) rfl rfl ?_
          refine lx_pick rfl rfl rfl rfl rfl ?_
          refine lx_move rfl rfl rfl ?_
          refine lx_loada 11 rfl rfl Tryz.isAgg33 Tryz.sizeOf33 (by simp) rfl rfl ?_
          refine lx_call rfl rfl ent24 (neg_p _) rfl rfl ?_
          refine lx_call rfl rfl ent24 (neg_p _) rfl rfl ?_
          refine lx_loada 11 rfl rfl Tryz.isAgg33 Tryz.sizeOf33 (by simp) rfl rfl ?_
          refine lx_callB true rfl rfl ent23 (equal_p _ _) (decide_eq_true (l_nn _)) rfl rfl ?_
          refine lx_pick rfl rfl rfl rfl rfl ?_
          refine lx_move rfl rfl rfl ?_
          refine lx_loada 11 rfl rfl Tryz.isAgg33 Tryz.sizeOf33 (by simp) rfl rfl ?_
          refine lx_loada 12 rfl rfl Tryz.isAgg33 Tryz.sizeOf33 (by simp) rfl rfl ?_
          refine lx_loada 13 rfl rfl Tryz.isAgg33 Tryz.sizeOf33 (by simp) rfl rfl ?_
          refine lx_loada 13 rfl rfl Tryz.isAgg33 Tryz.sizeOf33 (by simp) rfl rfl ?_
          refine lx_loada 12 rfl rfl Tryz.isAgg33 Tryz.sizeOf33 (by simp) rfl rfl ?_
          refine lx_loada 11 rfl rfl Tryz.isAgg33 Tryz.sizeOf33 (by simp) rfl rfl ?_
          refine lx_bslWG (s := 36) 104 (fun i => GL (f3 p q r i)) (GL gInf) hGF rfl rfl rfl (fun i _ => GL_len _) (by decide) (by decide) Tryz.underlying64 Tryz.sizeOf33 (GL_len _) zv33 rfl rfl ?_
          intro b104
          refine lx_callC rfl rfl ent35 (fun w' hC hG => sum_c 3 (f3 p q r) _ _ (by decide) w' hG (hp_row (n := 104) rfl w' hC)) rfl rfl ?_
          refine lx_call rfl rfl ent26 (add_p _ _) rfl rfl ?_
          refine lx_call rfl rfl ent26 (add_p _ _) rfl rfl ?_
          refine lx_callB true rfl rfl ent23 (equal_p _ _) (decide_eq_true (l_sum _ _ _)) rfl rfl ?_
          refine lx_pick rfl rfl rfl rfl rfl ?_
          refine lx_move rfl rfl rfl ?_
          refine lx_callC rfl rfl ent35 (fun w' hC hG => sum_nil (f3 p q r) w' hG) rfl rfl ?_
          refine lx_callB true rfl rfl ent16 (isInf_p _) (decide_eq_true (l_none _)) rfl rfl ?_
          refine lx_pick rfl rfl rfl rfl rfl ?_
          refine lx_assign rfl rfl rfl ?_
          refine lx_nil ?_
          refine tr_nil (by kernel_rfl) ?_
          refine kseq_n ?_
          refine x_ret ?_
          repeat (first | refine kseq_ret ?_ | refine kblk_ret ?_)
          exact kret_tmp rfl rfl (fun w hw => ⟨rfl, hp_below hw⟩)
        · skip
          refine calls_of_X (G := Gt) Tryz.func6 rfl rfl (Hp (pl w) []) (hp_refl (pl w) trivial rides_true) (good_hp hGF) ?_
          refine xs_plain (E := EE []) ?_
          refine lx_assign rfl rfl rfl ?_
          refine lx_nil ?_
          refine x_seq ?_
          refine xs_plain (E := EE []) ?_
          refine lx_callB true rfl rfl ent10 (known8) (rfl) rfl rfl ?_
          refine lx_un rfl (fun _ => un_not _) rfl rfl ?_
          refine lx_nil ?_
          refine x_false rfl ?_
          refine x_skip ?_
          refine x_seq ?_
          refine xs_plain (E := EE []) ?_
          refine lx_move rfl rfl rfl ?_
          refine lx_bslV 940 (SVl [(e3, bs3.length, cap3)]) hGF rfl rfl rfl (by decide) (by decide) Tryz.underlying82 Tryz.sizeOf22 Tryz.zeroValue22 rfl rfl rfl ?_
          intro b940
          refine lx_callC rfl rfl ent11 (fun w' hC hG => light_t b940 1 [(e3, bs3.length, cap3)] rfl (by decide) hL w' hG (hp_row (n := 940) rfl w' hC)) rfl rfl ?_
          refine lx_un rfl (fun _ => un_not _) rfl rfl ?_
          refine lx_move rfl rfl rfl ?_
          refine lx_move rfl rfl rfl ?_
          refine lx_len rfl (fun _ => len_slice Tryz.underlying22 _ _ _ _) rfl rfl ?_
          refine lx_binB false rfl rfl (fun _ => rfl) (fun _ => bin_gtr_i _ _ _) (decide_eq_false (by omega)) rfl rfl ?_
          refine lx_pick rfl rfl rfl rfl rfl ?_
          refine lx_move rfl rfl rfl ?_
          refine lx_move rfl rfl rfl ?_
          refine lx_len rfl (fun _ => len_slice Tryz.underlying22 _ _ _ _) rfl rfl ?_
          refine lx_binB false rfl rfl (fun _ => rfl) (fun _ => bin_gtr_i _ _ _) (decide_eq_false (by omega)) rfl rfl ?_
          refine lx_pick rfl rfl rfl rfl rfl ?_
          refine lx_move rfl rfl rfl ?_
          refine lx_move rfl rfl rfl ?_
          refine lx_len rfl (fun _ => len_slice Tryz.underlying22 _ _ _ _) rfl rfl ?_
          refine lx_binB true rfl rfl (fun _ => rfl) (fun _ => bin_gtr_i _ _ _) (decide_eq_true (by omega)) rfl rfl ?_
          refine lx_pick rfl rfl rfl rfl rfl ?_
          refine lx_nil ?_
          refine x_true rfl ?_
          refine xs_plain (E := EE []) ?_
          refine lx_assign rfl rfl rfl ?_
          refine lx_nil ?_
          refine x_ret ?_
          repeat (first | refine kseq_ret ?_ | refine kblk_ret ?_)
          exact kret_tmp rfl rfl (fun w hw => ⟨rfl, hp_below hw⟩)
      · skip
        refine calls_of_X (G := Gt) Tryz.func6 rfl rfl (Hp (pl w) []) (hp_refl (pl w) trivial rides_true) (good_hp hGF) ?_
        refine xs_plain (E := EE []) ?_
        refine lx_assign rfl rfl rfl ?_
        refine lx_nil ?_
        refine x_seq ?_
        refine xs_plain (E := EE []) ?_
        refine lx_callB true rfl rfl ent10 (known8) (rfl) rfl rfl ?_
        refine lx_un rfl (fun _ => un_not _) rfl rfl ?_
        refine lx_nil ?_
        refine x_false rfl ?_
        refine x_skip ?_
        refine x_seq ?_
        refine xs_plain (E := EE []) ?_
        refine lx_move rfl rfl rfl ?_
        refine lx_bslV 940 (SVl [(e3, bs3.length, cap3)]) hGF rfl rfl rfl (by decide) (by decide) Tryz.underlying82 Tryz.sizeOf22 Tryz.zeroValue22 rfl rfl rfl ?_
        intro b940
        refine lx_callC rfl rfl ent11 (fun w' hC hG => light_t b940 1 [(e3, bs3.length, cap3)] rfl (by decide) hL w' hG (hp_row (n := 940) rfl w' hC)) rfl rfl ?_
        refine lx_un rfl (fun _ => un_not _) rfl rfl ?_
        refine lx_move rfl rfl rfl ?_
        refine lx_move rfl rfl rfl ?_
        refine lx_len rfl (fun _ => len_slice Tryz.underlying22 _ _ _ _) rfl rfl ?_
        refine lx_binB false rfl rfl (fun _ => rfl) (fun _ => bin_gtr_i _ _ _) (decide_eq_false (by omega)) rfl rfl ?_
        refine lx_pick rfl rfl rfl rfl rfl ?_
        refine lx_move rfl rfl rfl ?_
        refine lx_move rfl rfl rfl ?_
        refine lx_len rfl (fun _ => len_slice Tryz.underlying22 _ _ _ _) rfl rfl ?_
        refine lx_binB true rfl rfl (fun _ => rfl) (fun _ => bin_gtr_i _ _ _) (decide_eq_true (by omega)) rfl rfl ?_
        refine lx_pick rfl rfl rfl rfl rfl ?_
        refine lx_move rfl rfl rfl ?_
        refine lx_skip rfl rfl rfl ?_
        refine lx_skip rfl rfl rfl ?_
        refine lx_skip rfl rfl rfl ?_
        refine lx_pick rfl rfl rfl rfl rfl ?_
        refine lx_nil ?_
        refine x_true rfl ?_
        refine xs_plain (E := EE []) ?_
        refine lx_assign rfl rfl rfl ?_
        refine lx_nil ?_
        refine x_ret ?_
        repeat (first | refine kseq_ret ?_ | refine kblk_ret ?_)
        exact kret_tmp rfl rfl (fun w hw => ⟨rfl, hp_below hw⟩)
    · skip
      refine calls_of_X (G := Gt) Tryz.func6 rfl rfl (Hp (pl w) []) (hp_refl (pl w) trivial rides_true) (good_hp hGF) ?_
      refine xs_plain (E := EE []) ?_
      refine lx_assign rfl rfl rfl ?_
      refine lx_nil ?_
      refine x_seq ?_
      refine xs_plain (E := EE []) ?_
      refine lx_callB true rfl rfl ent10 (known8) (rfl) rfl rfl ?_
      refine lx_un rfl (fun _ => un_not _) rfl rfl ?_
      refine lx_nil ?_
      refine x_false rfl ?_
      refine x_skip ?_
      refine x_seq ?_
      refine xs_plain (E := EE []) ?_
      refine lx_move rfl rfl rfl ?_
      refine lx_bslV 940 (SVl [(e3, bs3.length, cap3)]) hGF rfl rfl rfl (by decide) (by decide) Tryz.underlying82 Tryz.sizeOf22 Tryz.zeroValue22 rfl rfl rfl ?_
      intro b940
      refine lx_callC rfl rfl ent11 (fun w' hC hG => light_t b940 1 [(e3, bs3.length, cap3)] rfl (by decide) hL w' hG (hp_row (n := 940) rfl w' hC)) rfl rfl ?_
      refine lx_un rfl (fun _ => un_not _) rfl rfl ?_
      refine lx_move rfl rfl rfl ?_
      refine lx_move rfl rfl rfl ?_
      refine lx_len rfl (fun _ => len_slice Tryz.underlying22 _ _ _ _) rfl rfl ?_
      refine lx_binB true rfl rfl (fun _ => rfl) (fun _ => bin_gtr_i _ _ _) (decide_eq_true (by omega)) rfl rfl ?_
      refine lx_pick rfl rfl rfl rfl rfl ?_
      refine lx_move rfl rfl rfl ?_
      refine lx_skip rfl rfl rfl ?_
      refine lx_skip rfl rfl rfl ?_
      refine lx_skip rfl rfl rfl ?_
      refine lx_pick rfl rfl rfl rfl rfl ?_
      refine lx_move rfl rfl rfl ?_
      refine lx_skip rfl rfl rfl ?_
      refine lx_skip rfl rfl rfl ?_
      refine lx_skip rfl rfl rfl ?_
      refine lx_pick rfl rfl rfl rfl rfl ?_
      refine lx_nil ?_
      refine x_true rfl ?_
      refine xs_plain (E := EE []) ?_
      refine lx_assign rfl rfl rfl ?_
      refine lx_nil ?_
      refine x_ret ?_
      repeat (first | refine kseq_ret ?_ | refine kblk_ret ?_)
      exact kret_tmp rfl rfl (fun w hw => ⟨rfl, hp_below hw⟩)
  · skip
    refine calls_of_X (G := Gt) Tryz.func6 rfl rfl (Hp (pl w) []) (hp_refl (pl w) trivial rides_true) (good_hp hGF) ?_
    refine xs_plain (E := EE []) ?_
    refine lx_assign rfl rfl rfl ?_
    refine lx_nil ?_
    refine x_seq ?_
    refine xs_plain (E := EE []) ?_
    refine lx_callB true rfl rfl ent10 (known8) (rfl) rfl rfl ?_
    refine lx_un rfl (fun _ => un_not _) rfl rfl ?_
    refine lx_nil ?_
    refine x_false rfl ?_
    refine x_skip ?_
    refine x_seq ?_
    refine xs_plain (E := EE []) ?_
    refine lx_move rfl rfl rfl ?_
    refine lx_bslV 940 (SVl [(e3, bs3.length, cap3)]) hGF rfl rfl rfl (by decide) (by decide) Tryz.underlying82 Tryz.sizeOf22 Tryz.zeroValue22 rfl rfl rfl ?_
    intro b940
    refine lx_callC rfl rfl ent11 (fun w' hC hG => light_f b940 1 [(e3, bs3.length, cap3)] rfl (by decide) hL w' hG (hp_row (n := 940) rfl w' hC)) rfl rfl ?_
    refine lx_un rfl (fun _ => un_not _) rfl rfl ?_
    refine lx_move rfl rfl rfl ?_
    refine lx_skip rfl rfl rfl ?_
    refine lx_skip rfl rfl rfl ?_
    refine lx_skip rfl rfl rfl ?_
    refine lx_pick rfl rfl rfl rfl rfl ?_
    refine lx_move rfl rfl rfl ?_
    refine lx_skip rfl rfl rfl ?_
    refine lx_skip rfl rfl rfl ?_
    refine lx_skip rfl rfl rfl ?_
    refine lx_pick rfl rfl rfl rfl rfl ?_
    refine lx_move rfl rfl rfl ?_
    refine lx_skip rfl rfl rfl ?_
    refine lx_skip rfl rfl rfl ?_
    refine lx_skip rfl rfl rfl ?_
    refine lx_pick rfl rfl rfl rfl rfl ?_
    refine lx_nil ?_
    refine x_true rfl ?_
    refine xs_plain (E := EE []) ?_
    refine lx_assign rfl rfl rfl ?_
    refine lx_nil ?_
    refine x_ret ?_
    repeat (first | refine kseq_ret ?_ | refine kblk_ret ?_)
    exact kret_tmp rfl rfl (fun w hw => ⟨rfl, hp_below hw⟩)
end Go.Proofs.YtfknmeefbccflaaGreatDoor
