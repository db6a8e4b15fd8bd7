/-
  What the laws of layer 9 share: points of bytes.
-/
import Derived.Test.YtfknmeefbccflaaGreatDoorV4
namespace Go.Proofs.YtfknmeefbccflaaGreatDoor
open Go.RowKit
set_option maxRecDepth 100000
set_option maxHeartbeats 1000000
attribute [local simp] fe_len nm_len AS_len SS_len MONT_len RM_len FRs_len BYs_len by48_len PLl TWOl ONEl N1l IVPl HFPl RTPl FL_len SP_len fe2_len SP2_len FM_len GL_len

theorem place4 (k : Int) : Pure Tryz.prog Gt 70 [I k, I 4] (I (k % 4)) := place8 k 4 (by decide) (by decide)
def aI (a : W2) : Nat → W2
  | 0 => a
  | i + 1 => ad2 (aI a i) on2
theorem aI_s (a : W2) (i : Nat) : aI a (i + 1) = ad2 (aI a i) on2 := rfl
theorem point_a (e0 : Option Addr) (cap0 : Nat) (bs0 : List (BitVec 8)) (h0 : bs0.length ≤ 1000) (e1 : Option Addr) (cap1 : Nat) (bs1 : List (BitVec 8)) (_ : bs1.length ≤ 1000) (_ : bs1.length ≤ cap1) (kind : Int) (k0 : (kind % 4 == 0) = true) (w : World) (hw : Gt w) (hb0 : BytesAt w e0 bs0) (_ : BytesAt w e1 bs1) :
    Calls Tryz.prog 25 [.slice e0 bs0.length cap0, .slice e1 bs1.length cap1, I kind].toArray w (fun r w' => r = .returned (PtV (gMul gGen bs0)) ∧ Grow w w') := by
  have hGF : BOk Gt (pl w) := gt_low.plain hw
  refine calls_of_X (G := Gt) Tryz.func25 rfl rfl (Hp (pl w) []) (hp_refl (pl w) trivial rides_true) (good_hp hGF) ?_
  refine xs_plain (E := EE []) ?_
  refine lx_allocr 6 hGF zv33 rfl rfl ?_
  intro b6
  refine lx_nil ?_
  refine x_seq ?_
  refine xs_plain (E := EE []) ?_
  refine lx_move rfl rfl rfl ?_
  refine lx_call rfl rfl ent70 (place4 kind) rfl rfl ?_
  refine lx_nil ?_
  refine x_block ?_
  refine xs_plain (E := EE []) ?_
  refine lx_binB true rfl rfl (fun _ => rfl) (fun _ => bin_eql_i _ _ _) (k0) rfl rfl ?_
  refine lx_assign rfl rfl rfl ?_
  refine lx_nil ?_
  refine x_true rfl ?_
  refine xs_plain (E := EE []) ?_
  refine lx_call rfl rfl ent38 (gen_p) rfl rfl ?_
  refine lx_move rfl rfl rfl ?_
  refine lx_callC rfl rfl ent36 (fun w' hC hG => mul_c _ _ _ bs0 h0 w' hG (hb0.grow (hp_below hC))) rfl rfl ?_
  refine lx_storea 6 hGF rfl rfl rfl Tryz.sizeOf33 (by simp) (by simp) (one_u64 _) rfl ?_
  refine lx_nil ?_
  refine x_ret ?_
  repeat (first | refine kseq_ret ?_ | refine kblk_ret ?_)
  exact kret_own 6 rfl rfl rfl Tryz.isAgg33 Tryz.sizeOf33 (by simp) (fun w hw => ⟨rfl, hp_below hw⟩)
theorem point_b (e0 : Option Addr) (cap0 : Nat) (bs0 : List (BitVec 8)) (_ : bs0.length ≤ 1000) (e1 : Option Addr) (cap1 : Nat) (bs1 : List (BitVec 8)) (_ : bs1.length ≤ 1000) (_ : bs1.length ≤ cap1) (kind : Int) (k0 : (kind % 4 == 0) = false) (k1 : (kind % 4 == 1) = true) (hl : (0 : Int) < (bs0.length : Int)) (hz : (bs0.getD 0 0 == 0#8) = true) (w : World) (hw : Gt w) (hb0 : BytesAt w e0 bs0) (_ : BytesAt w e1 bs1) :
    Calls Tryz.prog 25 [.slice e0 bs0.length cap0, .slice e1 bs1.length cap1, I kind].toArray w (fun r w' => r = .returned (PtV (gInf)) ∧ Grow w w') := by
  have hGF : BOk Gt (pl w) := gt_low.plain hw
  refine calls_of_X (G := Gt) Tryz.func25 rfl rfl (Hp (pl w) []) (hp_refl (pl w) trivial rides_true) (good_hp hGF) ?_
  refine xs_plain (E := EE []) ?_
  refine lx_allocr 6 hGF zv33 rfl rfl ?_
  intro b6
  refine lx_nil ?_
  refine x_seq ?_
  refine xs_plain (E := EE []) ?_
  refine lx_move rfl rfl rfl ?_
  refine lx_call rfl rfl ent70 (place4 kind) rfl rfl ?_
  refine lx_nil ?_
  refine x_block ?_
  refine xs_plain (E := EE []) ?_
  refine lx_binB false rfl rfl (fun _ => rfl) (fun _ => bin_eql_i _ _ _) (k0) rfl rfl ?_
  refine lx_assign rfl rfl rfl ?_
  refine lx_nil ?_
  refine x_false rfl ?_
  refine xs_plain (E := EE []) ?_
  refine lx_binB true rfl rfl (fun _ => rfl) (fun _ => bin_eql_i _ _ _) (k1) rfl rfl ?_
  refine lx_assign rfl rfl rfl ?_
  refine lx_nil ?_
  refine x_true rfl ?_
  refine x_seq ?_
  refine xs_plain (E := EE []) ?_
  refine lx_move rfl rfl rfl ?_
  refine lx_len rfl (fun _ => len_slice Tryz.underlying22 _ _ _ _) rfl rfl ?_
  refine lx_binB true rfl rfl (fun _ => rfl) (fun _ => bin_gtr_i _ _ _) (decide_eq_true hl) rfl rfl ?_
  refine lx_move rfl rfl rfl ?_
  refine lx_move rfl rfl rfl ?_
  obtain ⟨ad, rfl, _⟩ := hb0 0 _ (gm U8 bs0 0 0 (by omega))
  refine lx_isA 0 rfl rfl Tryz.underlying22 Tryz.sizeOf5 rfl (by omega) rfl rfl ?_
  refine lx_load rfl Tryz.isAgg5 (fun w' h => by obtain ⟨ad', e', hc'⟩ := (hb0.grow (hp_below h)) 0 _ (gm U8 bs0 0 0 (by omega)); cases e'; exact hc') rfl rfl ?_
  refine lx_binB true rfl rfl (fun _ => rfl) (fun _ => bin_eql_u8 _ _ _) (hz) rfl rfl ?_
  refine lx_pick rfl rfl rfl rfl rfl ?_
  refine lx_nil ?_
  refine x_true rfl ?_
  refine xs_plain (E := EE []) ?_
  refine lx_call rfl rfl ent27 (inf_p) rfl rfl ?_
  refine lx_storea 6 hGF rfl rfl rfl Tryz.sizeOf33 (by simp) (by simp) (one_u64 _) rfl ?_
  refine lx_nil ?_
  refine x_ret ?_
  repeat (first | refine kseq_ret ?_ | refine kblk_ret ?_)
  exact kret_own 6 rfl rfl rfl Tryz.isAgg33 Tryz.sizeOf33 (by simp) (fun w hw => ⟨rfl, hp_below hw⟩)
theorem point_m (e0 : Option Addr) (cap0 : Nat) (bs0 : List (BitVec 8)) (h0 : bs0.length ≤ 1000) (e1 : Option Addr) (cap1 : Nat) (bs1 : List (BitVec 8)) (_ : bs1.length ≤ 1000) (_ : bs1.length ≤ cap1) (kind : Int) (k0 : (kind % 4 == 0) = false) (k1 : (kind % 4 == 1) = true) (hl : (0 : Int) < (bs0.length : Int)) (hz : (bs0.getD 0 0 == 0#8) = false) (w : World) (hw : Gt w) (hb0 : BytesAt w e0 bs0) (_ : BytesAt w e1 bs1) :
    Calls Tryz.prog 25 [.slice e0 bs0.length cap0, .slice e1 bs1.length cap1, I kind].toArray w (fun r w' => r = .returned (PtV (gNeg (gMul gGen bs0))) ∧ Grow w w') := by
  have hGF : BOk Gt (pl w) := gt_low.plain hw
  refine calls_of_X (G := Gt) Tryz.func25 rfl rfl (Hp (pl w) []) (hp_refl (pl w) trivial rides_true) (good_hp hGF) ?_
  refine xs_plain (E := EE []) ?_
  refine lx_allocr 6 hGF zv33 rfl rfl ?_
  intro b6
  refine lx_nil ?_
  refine x_seq ?_
  refine xs_plain (E := EE []) ?_
  refine lx_move rfl rfl rfl ?_
  refine lx_call rfl rfl ent70 (place4 kind) rfl rfl ?_
  refine lx_nil ?_
  refine x_block ?_
  refine xs_plain (E := EE []) ?_
  refine lx_binB false rfl rfl (fun _ => rfl) (fun _ => bin_eql_i _ _ _) (k0) rfl rfl ?_
  refine lx_assign rfl rfl rfl ?_
  refine lx_nil ?_
  refine x_false rfl ?_
  refine xs_plain (E := EE []) ?_
  refine lx_binB true rfl rfl (fun _ => rfl) (fun _ => bin_eql_i _ _ _) (k1) rfl rfl ?_
  refine lx_assign rfl rfl rfl ?_
  refine lx_nil ?_
  refine x_true rfl ?_
  refine x_seq ?_
  refine xs_plain (E := EE []) ?_
  refine lx_move rfl rfl rfl ?_
  refine lx_len rfl (fun _ => len_slice Tryz.underlying22 _ _ _ _) rfl rfl ?_
  refine lx_binB true rfl rfl (fun _ => rfl) (fun _ => bin_gtr_i _ _ _) (decide_eq_true hl) rfl rfl ?_
  refine lx_move rfl rfl rfl ?_
  refine lx_move rfl rfl rfl ?_
  obtain ⟨ad, rfl, _⟩ := hb0 0 _ (gm U8 bs0 0 0 (by omega))
  refine lx_isA 0 rfl rfl Tryz.underlying22 Tryz.sizeOf5 rfl (by omega) rfl rfl ?_
  refine lx_load rfl Tryz.isAgg5 (fun w' h => by obtain ⟨ad', e', hc'⟩ := (hb0.grow (hp_below h)) 0 _ (gm U8 bs0 0 0 (by omega)); cases e'; exact hc') rfl rfl ?_
  refine lx_binB false rfl rfl (fun _ => rfl) (fun _ => bin_eql_u8 _ _ _) (hz) rfl rfl ?_
  refine lx_pick rfl rfl rfl rfl rfl ?_
  refine lx_nil ?_
  refine x_false rfl ?_
  refine x_skip ?_
  refine xs_plain (E := EE []) ?_
  refine lx_call rfl rfl ent38 (gen_p) rfl rfl ?_
  refine lx_move rfl rfl rfl ?_
  refine lx_callC rfl rfl ent36 (fun w' hC hG => mul_c _ _ _ bs0 h0 w' hG (hb0.grow (hp_below hC))) rfl rfl ?_
  refine lx_call rfl rfl ent24 (neg_p _) rfl rfl ?_
  refine lx_storea 6 hGF rfl rfl rfl Tryz.sizeOf33 (by simp) (by simp) (one_u64 _) rfl ?_
  refine lx_nil ?_
  refine x_ret ?_
  repeat (first | refine kseq_ret ?_ | refine kblk_ret ?_)
  exact kret_own 6 rfl rfl rfl Tryz.isAgg33 Tryz.sizeOf33 (by simp) (fun w hw => ⟨rfl, hp_below hw⟩)
theorem point_n (e0 : Option Addr) (cap0 : Nat) (bs0 : List (BitVec 8)) (h0 : bs0.length ≤ 1000) (e1 : Option Addr) (cap1 : Nat) (bs1 : List (BitVec 8)) (_ : bs1.length ≤ 1000) (_ : bs1.length ≤ cap1) (kind : Int) (k0 : (kind % 4 == 0) = false) (k1 : (kind % 4 == 1) = true) (hl : ¬ (0 : Int) < (bs0.length : Int)) (w : World) (hw : Gt w) (hb0 : BytesAt w e0 bs0) (_ : BytesAt w e1 bs1) :
    Calls Tryz.prog 25 [.slice e0 bs0.length cap0, .slice e1 bs1.length cap1, I kind].toArray w (fun r w' => r = .returned (PtV (gNeg (gMul gGen bs0))) ∧ Grow w w') := by
  have hGF : BOk Gt (pl w) := gt_low.plain hw
  refine calls_of_X (G := Gt) Tryz.func25 rfl rfl (Hp (pl w) []) (hp_refl (pl w) trivial rides_true) (good_hp hGF) ?_
  refine xs_plain (E := EE []) ?_
  refine lx_allocr 6 hGF zv33 rfl rfl ?_
  intro b6
  refine lx_nil ?_
  refine x_seq ?_
  refine xs_plain (E := EE []) ?_
  refine lx_move rfl rfl rfl ?_
  refine lx_call rfl rfl ent70 (place4 kind) rfl rfl ?_
  refine lx_nil ?_
  refine x_block ?_
  refine xs_plain (E := EE []) ?_
  refine lx_binB false rfl rfl (fun _ => rfl) (fun _ => bin_eql_i _ _ _) (k0) rfl rfl ?_
  refine lx_assign rfl rfl rfl ?_
  refine lx_nil ?_
  refine x_false rfl ?_
  refine xs_plain (E := EE []) ?_
  refine lx_binB true rfl rfl (fun _ => rfl) (fun _ => bin_eql_i _ _ _) (k1) rfl rfl ?_
  refine lx_assign rfl rfl rfl ?_
  refine lx_nil ?_
  refine x_true rfl ?_
  refine x_seq ?_
  refine xs_plain (E := EE []) ?_
  refine lx_move rfl rfl rfl ?_
  refine lx_len rfl (fun _ => len_slice Tryz.underlying22 _ _ _ _) rfl rfl ?_
  refine lx_binB false rfl rfl (fun _ => rfl) (fun _ => bin_gtr_i _ _ _) (decide_eq_false hl) rfl rfl ?_
  refine lx_move rfl rfl rfl ?_
  refine lx_skip rfl rfl rfl ?_
  refine lx_skip rfl rfl rfl ?_
  refine lx_skip rfl rfl rfl ?_
  refine lx_skip rfl rfl rfl ?_
  refine lx_pick rfl rfl rfl rfl rfl ?_
  refine lx_nil ?_
  refine x_false rfl ?_
  refine x_skip ?_
  refine xs_plain (E := EE []) ?_
  refine lx_call rfl rfl ent38 (gen_p) rfl rfl ?_
  refine lx_move rfl rfl rfl ?_
  refine lx_callC rfl rfl ent36 (fun w' hC hG => mul_c _ _ _ bs0 h0 w' hG (hb0.grow (hp_below hC))) rfl rfl ?_
  refine lx_call rfl rfl ent24 (neg_p _) rfl rfl ?_
  refine lx_storea 6 hGF rfl rfl rfl Tryz.sizeOf33 (by simp) (by simp) (one_u64 _) rfl ?_
  refine lx_nil ?_
  refine x_ret ?_
  repeat (first | refine kseq_ret ?_ | refine kblk_ret ?_)
  exact kret_own 6 rfl rfl rfl Tryz.isAgg33 Tryz.sizeOf33 (by simp) (fun w hw => ⟨rfl, hp_below hw⟩)
theorem point_c (e0 : Option Addr) (cap0 : Nat) (bs0 : List (BitVec 8)) (_ : bs0.length ≤ 1000) (e1 : Option Addr) (cap1 : Nat) (bs1 : List (BitVec 8)) (h1 : bs1.length ≤ 1000) (hcap1 : bs1.length ≤ cap1) (kind : Int) (k0 : (kind % 4 == 0) = false) (k1 : (kind % 4 == 1) = false) (N : Nat) (hN20 : N < 20) (rt : W2) (hr : ml2 rt rt = RS4 (aI (NUM bs1) N)) (hl : LG2 rt = false) (hlt : ∀ j, j < N → ¬ LQ (aI (NUM bs1) j)) (w : World) (hw : Gt w) (_ : BytesAt w e0 bs0) (hb1 : BytesAt w e1 bs1) :
    Calls Tryz.prog 25 [.slice e0 bs0.length cap0, .slice e1 bs1.length cap1, I kind].toArray w (fun r w' => r = .returned (PtV (gRt (aI (NUM bs1) N) rt hr (kind.tmod 3 == 0))) ∧ Grow w w') := by
  have hGF : BOk Gt (pl w) := gt_low.plain hw
  refine calls_of_X (G := Gt) Tryz.func25 rfl rfl (Hp (pl w) []) (hp_refl (pl w) trivial rides_true) (good_hp hGF) ?_
  refine xs_plain (E := EE []) ?_
  refine lx_allocr 6 hGF zv33 rfl rfl ?_
  intro b6
  refine lx_nil ?_
  refine x_seq ?_
  refine xs_plain (E := EE []) ?_
  refine lx_move rfl rfl rfl ?_
  refine lx_call rfl rfl ent70 (place4 kind) rfl rfl ?_
  refine lx_nil ?_
  refine x_block ?_
  refine xs_plain (E := EE []) ?_
  refine lx_binB false rfl rfl (fun _ => rfl) (fun _ => bin_eql_i _ _ _) (k0) rfl rfl ?_
  refine lx_assign rfl rfl rfl ?_
  refine lx_nil ?_
  refine x_false rfl ?_
  refine xs_plain (E := EE []) ?_
  refine lx_binB false rfl rfl (fun _ => rfl) (fun _ => bin_eql_i _ _ _) (k1) rfl rfl ?_
  refine lx_assign rfl rfl rfl ?_
  refine lx_nil ?_
  refine x_false rfl ?_
  refine x_skip ?_
  refine xs_plain (E := EE []) ?_
  refine lx_move rfl rfl rfl ?_
  refine lx_callC rfl rfl ent12 (fun w' hC hG => num_calls e1 cap1 bs1 h1 hcap1 w' hG (hb1.grow (hp_below hC))) rfl rfl ?_
  refine lx_allocr 7 hGF zv30 rfl rfl ?_
  intro b7
  refine lx_storea 7 hGF rfl rfl rfl Tryz.sizeOf30 (by simp) (by simp) (one_u64 _) rfl ?_
  refine lx_nil ?_
  refine x_seq ?_
  refine xs_plain (E := EE []) ?_
  refine lx_assign rfl rfl rfl ?_
  refine lx_nil ?_
  refine x_block ?_
  refine x_for (ι := { i : Nat // i ≤ N }) (fun y => [(0, .slice e0 bs0.length cap0), (1, .slice e1 bs1.length cap1), (2, I kind), (6, .pointer (some ⟨b6, 0, none⟩)), (7, .pointer (some ⟨b7, 0, none⟩)), (8, I (y.1 : Int))]) (fun y => [(6, b6, (GL gInf).map U64, 33), (7, b7, (fe (aI (NUM bs1) y.1).1 ++ fe (aI (NUM bs1) y.1).2).map U64, 30)]) (fun y => N - y.1) ⟨0, Nat.zero_le _⟩ hGF ⟨rfl, rfl, rfl, rfl, rfl, rfl, trivial⟩ ⟨rfl, rfl, trivial⟩ ?_
  rintro ⟨i, hi⟩
  dsimp only
  by_cases hq : i = N
  · skip
    subst hq
    refine x_seq ?_
    refine xs_plain (E := EE []) ?_
    refine lx_move rfl rfl rfl ?_
    refine lx_binB true rfl rfl (fun _ => rfl) (fun _ => bin_lss_i _ _ _) (decide_eq_true (by omega)) rfl rfl ?_
    refine lx_nil ?_
    refine x_true rfl ?_
    refine x_skip ?_
    refine x_seq ?_
    refine x_block ?_
    refine x_seq ?_
    refine xs_plain (E := EE []) ?_
    refine lx_loada 7 rfl rfl Tryz.isAgg30 Tryz.sizeOf30 (by simp) rfl rfl ?_
    refine lx_move rfl rfl rfl ?_
    refine lx_bin (v := I (kind.tmod 3)) rfl rfl (fun _ => rfl) (fun _ => bin_rem_i _ _ _ (by decide)) rfl rfl ?_
    refine lx_bin (v := .bool (kind.tmod 3 == 0)) rfl rfl (fun _ => rfl) (fun _ => bin_eql_i _ _ _) rfl rfl ?_
    refine lx_call rfl rfl ent20 (lift_y _ rt hr hl _) rfl rfl ?_
    refine lx_move rfl rfl rfl ?_
    refine lx_ext rfl rfl rfl rfl ?_
    refine lx_ext rfl rfl rfl rfl ?_
    refine lx_allocr 9 hGF zv33 rfl rfl ?_
    intro b9
    refine lx_storea 9 hGF rfl rfl rfl Tryz.sizeOf33 (by simp) (by simp) (one_u64 _) rfl ?_
    refine lx_assign rfl rfl rfl ?_
    refine lx_nil ?_
    refine xs_plain (E := EE []) ?_
    refine lx_move rfl rfl rfl ?_
    refine lx_nil ?_
    refine x_true rfl ?_
    refine xs_plain (E := EE []) ?_
    refine lx_loada 9 rfl rfl Tryz.isAgg33 Tryz.sizeOf33 (by simp) rfl rfl ?_
    refine lx_storea 6 hGF rfl rfl rfl Tryz.sizeOf33 (by simp) (by simp) (one_u64 _) rfl ?_
    refine lx_nil ?_
    refine x_ret ?_
    repeat (first | refine kseq_ret ?_ | refine kblk_ret ?_)
    exact kret_own 6 rfl rfl rfl Tryz.isAgg33 Tryz.sizeOf33 (by simp) (fun w hw => ⟨rfl, hp_below hw⟩)
  · skip
    refine x_seq ?_
    refine xs_plain (E := EE []) ?_
    refine lx_move rfl rfl rfl ?_
    refine lx_binB true rfl rfl (fun _ => rfl) (fun _ => bin_lss_i _ _ _) (decide_eq_true (by omega)) rfl rfl ?_
    refine lx_nil ?_
    refine x_true rfl ?_
    refine x_skip ?_
    refine x_seq ?_
    refine x_block ?_
    refine x_seq ?_
    refine xs_plain (E := EE []) ?_
    refine lx_loada 7 rfl rfl Tryz.isAgg30 Tryz.sizeOf30 (by simp) rfl rfl ?_
    refine lx_move rfl rfl rfl ?_
    refine lx_bin (v := I (kind.tmod 3)) rfl rfl (fun _ => rfl) (fun _ => bin_rem_i _ _ _ (by decide)) rfl rfl ?_
    refine lx_bin (v := .bool (kind.tmod 3 == 0)) rfl rfl (fun _ => rfl) (fun _ => bin_eql_i _ _ _) rfl rfl ?_
    refine lx_call rfl rfl ent20 (lift_n _ _ (hlt i (by omega))) rfl rfl ?_
    refine lx_move rfl rfl rfl ?_
    refine lx_ext rfl rfl rfl rfl ?_
    refine lx_ext rfl rfl rfl rfl ?_
    refine lx_allocr 9 hGF zv33 rfl rfl ?_
    intro b9
    refine lx_storea 9 hGF rfl rfl rfl Tryz.sizeOf33 (by simp) (by simp) (one_u64 _) rfl ?_
    refine lx_assign rfl rfl rfl ?_
    refine lx_nil ?_
    refine xs_plain (E := EE []) ?_
    refine lx_move rfl rfl rfl ?_
    refine lx_nil ?_
    refine x_false rfl ?_
    refine x_skip ?_
    refine x_drawn (E := EE []) mixed (by kernel_rfl) (by kernel_rfl) (by kernel_rfl) ?_
    refine lx_loada 7 rfl rfl Tryz.isAgg30 Tryz.sizeOf30 (by simp) rfl rfl ?_
    refine lx_call rfl rfl ent72 (e2one) rfl rfl ?_
    refine lx_call rfl rfl ent71 (e2add _ _) rfl rfl ?_
    refine lx_storea 7 hGF rfl rfl rfl Tryz.sizeOf30 (by simp) (by simp) (one_u64 _) rfl ?_
    refine lx_nil ?_
    refine x_plain (E := EE []) ?_
    refine lx_move rfl rfl rfl ?_
    refine lx_bin rfl rfl (fun _ => rfl) (fun _ => bin_add_i _ _ _ (by unfold inI; omega)) rfl rfl ?_
    refine lx_assign rfl rfl rfl ?_
    refine lx_nil ?_
    repeat (refine kblk_n ?_)
    refine kseq_n ?_
    exact ⟨rfl, ⟨i + 1, by omega⟩, _, by show N - (i + 1) < N - i; omega, rfl, ⟨rfl, rfl, rfl, rfl, rfl, rfl, trivial⟩, ⟨rfl, by rw [aI_s]; rfl, trivial⟩⟩
theorem point_d (e0 : Option Addr) (cap0 : Nat) (bs0 : List (BitVec 8)) (_ : bs0.length ≤ 1000) (e1 : Option Addr) (cap1 : Nat) (bs1 : List (BitVec 8)) (h1 : bs1.length ≤ 1000) (hcap1 : bs1.length ≤ cap1) (kind : Int) (k0 : (kind % 4 == 0) = false) (k1 : (kind % 4 == 1) = false) (hlt : ∀ j, j < 20 → ¬ LQ (aI (NUM bs1) j)) (w : World) (hw : Gt w) (_ : BytesAt w e0 bs0) (hb1 : BytesAt w e1 bs1) :
    Calls Tryz.prog 25 [.slice e0 bs0.length cap0, .slice e1 bs1.length cap1, I kind].toArray w (fun r w' => r = .returned (PtV (gGen)) ∧ Grow w w') := by
  have hGF : BOk Gt (pl w) := gt_low.plain hw
  refine calls_of_X (G := Gt) Tryz.func25 rfl rfl (Hp (pl w) []) (hp_refl (pl w) trivial rides_true) (good_hp hGF) ?_
  refine xs_plain (E := EE []) ?_
  refine lx_allocr 6 hGF zv33 rfl rfl ?_
  intro b6
  refine lx_nil ?_
  refine x_seq ?_
  refine xs_plain (E := EE []) ?_
  refine lx_move rfl rfl rfl ?_
  refine lx_call rfl rfl ent70 (place4 kind) rfl rfl ?_
  refine lx_nil ?_
  refine x_block ?_
  refine xs_plain (E := EE []) ?_
  refine lx_binB false rfl rfl (fun _ => rfl) (fun _ => bin_eql_i _ _ _) (k0) rfl rfl ?_
  refine lx_assign rfl rfl rfl ?_
  refine lx_nil ?_
  refine x_false rfl ?_
  refine xs_plain (E := EE []) ?_
  refine lx_binB false rfl rfl (fun _ => rfl) (fun _ => bin_eql_i _ _ _) (k1) rfl rfl ?_
  refine lx_assign rfl rfl rfl ?_
  refine lx_nil ?_
  refine x_false rfl ?_
  refine x_skip ?_
  refine xs_plain (E := EE []) ?_
  refine lx_move rfl rfl rfl ?_
  refine lx_callC rfl rfl ent12 (fun w' hC hG => num_calls e1 cap1 bs1 h1 hcap1 w' hG (hb1.grow (hp_below hC))) rfl rfl ?_
  refine lx_allocr 7 hGF zv30 rfl rfl ?_
  intro b7
  refine lx_storea 7 hGF rfl rfl rfl Tryz.sizeOf30 (by simp) (by simp) (one_u64 _) rfl ?_
  refine lx_nil ?_
  refine x_seq ?_
  refine xs_plain (E := EE []) ?_
  refine lx_assign rfl rfl rfl ?_
  refine lx_nil ?_
  refine x_block ?_
  refine x_for (ι := { i : Nat // i ≤ 20 }) (fun y => [(0, .slice e0 bs0.length cap0), (1, .slice e1 bs1.length cap1), (2, I kind), (6, .pointer (some ⟨b6, 0, none⟩)), (7, .pointer (some ⟨b7, 0, none⟩)), (8, I (y.1 : Int))]) (fun y => [(6, b6, (GL gInf).map U64, 33), (7, b7, (fe (aI (NUM bs1) y.1).1 ++ fe (aI (NUM bs1) y.1).2).map U64, 30)]) (fun y => 20 - y.1) ⟨0, Nat.zero_le _⟩ hGF ⟨rfl, rfl, rfl, rfl, rfl, rfl, trivial⟩ ⟨rfl, rfl, trivial⟩ ?_
  rintro ⟨i, hi⟩
  dsimp only
  by_cases hq : i = 20
  · skip
    subst hq
    refine x_seq ?_
    refine xs_plain (E := EE []) ?_
    refine lx_move rfl rfl rfl ?_
    refine lx_binB false rfl rfl (fun _ => rfl) (fun _ => bin_lss_i _ _ _) (decide_eq_false (by omega)) rfl rfl ?_
    refine lx_nil ?_
    refine x_false rfl ?_
    refine x_exit ?_
    refine xs_plain (E := EE []) ?_
    refine lx_call rfl rfl ent38 (gen_p) rfl rfl ?_
    refine lx_storea 6 hGF rfl rfl rfl Tryz.sizeOf33 (by simp) (by simp) (one_u64 _) rfl ?_
    refine lx_nil ?_
    refine x_ret ?_
    repeat (first | refine kseq_ret ?_ | refine kblk_ret ?_)
    exact kret_own 6 rfl rfl rfl Tryz.isAgg33 Tryz.sizeOf33 (by simp) (fun w hw => ⟨rfl, hp_below hw⟩)
  · skip
    refine x_seq ?_
    refine xs_plain (E := EE []) ?_
    refine lx_move rfl rfl rfl ?_
    refine lx_binB true rfl rfl (fun _ => rfl) (fun _ => bin_lss_i _ _ _) (decide_eq_true (by omega)) rfl rfl ?_
    refine lx_nil ?_
    refine x_true rfl ?_
    refine x_skip ?_
    refine x_seq ?_
    refine x_block ?_
    refine x_seq ?_
    refine xs_plain (E := EE []) ?_
    refine lx_loada 7 rfl rfl Tryz.isAgg30 Tryz.sizeOf30 (by simp) rfl rfl ?_
    refine lx_move rfl rfl rfl ?_
    refine lx_bin (v := I (kind.tmod 3)) rfl rfl (fun _ => rfl) (fun _ => bin_rem_i _ _ _ (by decide)) rfl rfl ?_
    refine lx_bin (v := .bool (kind.tmod 3 == 0)) rfl rfl (fun _ => rfl) (fun _ => bin_eql_i _ _ _) rfl rfl ?_
    refine lx_call rfl rfl ent20 (lift_n _ _ (hlt i (by omega))) rfl rfl ?_
    refine lx_move rfl rfl rfl ?_
    refine lx_ext rfl rfl rfl rfl ?_
    refine lx_ext rfl rfl rfl rfl ?_
    refine lx_allocr 9 hGF zv33 rfl rfl ?_
    intro b9
    refine lx_storea 9 hGF rfl rfl rfl Tryz.sizeOf33 (by simp) (by simp) (one_u64 _) rfl ?_
    refine lx_assign rfl rfl rfl ?_
    refine lx_nil ?_
    refine xs_plain (E := EE []) ?_
    refine lx_move rfl rfl rfl ?_
    refine lx_nil ?_
    refine x_false rfl ?_
    refine x_skip ?_
    refine x_drawn (E := EE []) mixed (by kernel_rfl) (by kernel_rfl) (by kernel_rfl) ?_
    refine lx_loada 7 rfl rfl Tryz.isAgg30 Tryz.sizeOf30 (by simp) rfl rfl ?_
    refine lx_call rfl rfl ent72 (e2one) rfl rfl ?_
    refine lx_call rfl rfl ent71 (e2add _ _) rfl rfl ?_
    refine lx_storea 7 hGF rfl rfl rfl Tryz.sizeOf30 (by simp) (by simp) (one_u64 _) rfl ?_
    refine lx_nil ?_
    refine x_plain (E := EE []) ?_
    refine lx_move rfl rfl rfl ?_
    refine lx_bin rfl rfl (fun _ => rfl) (fun _ => bin_add_i _ _ _ (by unfold inI; omega)) rfl rfl ?_
    refine lx_assign rfl rfl rfl ?_
    refine lx_nil ?_
    repeat (refine kblk_n ?_)
    refine kseq_n ?_
    exact ⟨rfl, ⟨i + 1, by omega⟩, _, by show 20 - (i + 1) < 20 - i; omega, rfl, ⟨rfl, rfl, rfl, rfl, rfl, rfl, trivial⟩, ⟨rfl, by rw [aI_s]; rfl, trivial⟩⟩
/-- What is asked of a point of bytes. -/
abbrev PtOk (bs0 bs1 : List (BitVec 8)) (kind : Int) (p : GP) : Prop := ∀ (e0 : Option Addr) (cap0 : Nat) (e1 : Option Addr) (cap1 : Nat), bs1.length ≤ cap1 → ∀ w, Gt w → BytesAt w e0 bs0 → BytesAt w e1 bs1 → Calls Tryz.prog 25 [.slice e0 bs0.length cap0, .slice e1 bs1.length cap1, I kind].toArray w (fun r w' => r = .returned (PtV p) ∧ Grow w w')
theorem first_or (Q : Nat → Prop) : ∀ m, (∃ N, N < m ∧ Q N ∧ ∀ j, j < N → ¬ Q j) ∨ ∀ j, j < m → ¬ Q j
  | 0 => .inr fun _ h => absurd h (Nat.not_lt_zero _)
  | m + 1 => by
    rcases first_or Q m with ⟨N, h1, h2⟩ | h
    · exact .inl ⟨N, Nat.lt_succ_of_lt h1, h2⟩
    · rcases Classical.em (Q m) with hq | hq
      · exact .inl ⟨m, Nat.lt_succ_self m, hq, h⟩
      · refine .inr fun j hj => ?_
        rcases Nat.lt_or_ge j m with h' | h'
        · exact h j h'
        · obtain rfl : j = m := by omega
          exact hq
theorem point_ex (bs0 bs1 : List (BitVec 8)) (kind : Int) (h0 : bs0.length ≤ 1000) (h1 : bs1.length ≤ 1000) : ∃ p : GP, PtOk bs0 bs1 kind p := by
  cases k0 : (kind % 4 == 0) with
  | true => exact ⟨_, fun e0 cap0 e1 cap1 hc w hw hb0 hb1 => point_a e0 cap0 bs0 h0 e1 cap1 bs1 h1 hc kind k0 w hw hb0 hb1⟩
  | false =>
    cases k1 : (kind % 4 == 1) with
    | true =>
      by_cases hl : (0 : Int) < (bs0.length : Int)
      · cases hz : (bs0.getD 0 0 == 0#8) with
        | true => exact ⟨_, fun e0 cap0 e1 cap1 hc w hw hb0 hb1 => point_b e0 cap0 bs0 h0 e1 cap1 bs1 h1 hc kind k0 k1 hl hz w hw hb0 hb1⟩
        | false => exact ⟨_, fun e0 cap0 e1 cap1 hc w hw hb0 hb1 => point_m e0 cap0 bs0 h0 e1 cap1 bs1 h1 hc kind k0 k1 hl hz w hw hb0 hb1⟩
      · exact ⟨_, fun e0 cap0 e1 cap1 hc w hw hb0 hb1 => point_n e0 cap0 bs0 h0 e1 cap1 bs1 h1 hc kind k0 k1 hl w hw hb0 hb1⟩
    | false =>
      rcases first_or (fun N => LQ (aI (NUM bs1) N)) 20 with ⟨N, hN, hq, hlt⟩ | hlt
      · obtain ⟨r, hr, hl⟩ := root_ex hq
        exact ⟨_, fun e0 cap0 e1 cap1 hc w hw hb0 hb1 => point_c e0 cap0 bs0 h0 e1 cap1 bs1 h1 hc kind k0 k1 N hN r hr hl hlt w hw hb0 hb1⟩
      · exact ⟨_, fun e0 cap0 e1 cap1 hc w hw hb0 hb1 => point_d e0 cap0 bs0 h0 e1 cap1 bs1 h1 hc kind k0 k1 hlt w hw hb0 hb1⟩
end Go.Proofs.YtfknmeefbccflaaGreatDoor
