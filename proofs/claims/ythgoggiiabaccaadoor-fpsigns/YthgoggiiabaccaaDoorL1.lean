/-
  The laws FpSigns, FpReckons, FpLaws.
-/
import Derived.Test.YthgoggiiabaccaaDoorX9
import Derived.Test.YthgoggiiabaccaaDoorX5
namespace Go.Proofs.YthgoggiiabaccaaDoor
open Go.RowKit
set_option maxRecDepth 100000
set_option maxHeartbeats 1000000
attribute [local simp] fe_len nm_len AS_len SS_len MONT_len RM_len FRs_len BYs_len by48_len PLl TWOl ONEl N1l IVPl HFPl RTPl FL_len SP_len

theorem signs_law (e0 : Option Addr) (cap0 : Nat) (bs0 : List (BitVec 8)) (hcap0 : bs0.length ≤ cap0) (w : World) (hw : Gt w) (hb0 : BytesAt w e0 bs0) :
    Calls Tryd.prog 8 [.slice e0 bs0.length cap0].toArray w (fun r w' => r = .returned (.bool true) ∧ Grow w w') := by
  have hGF : BOk Gt (pl w) := gt_low.plain hw
  refine calls_of_X (G := Gt) Tryd.func8 rfl rfl (Hp (pl w) []) (hp_refl (pl w) trivial rides_true) (good_hp hGF) ?_
  refine xs_plain (E := EE []) ?_
  refine lx_assign rfl rfl rfl ?_
  refine lx_nil ?_
  refine x_seq ?_
  refine xs_plain (E := EE []) ?_
  refine lx_callB true rfl rfl ent11 (known_pure) (rfl) rfl rfl ?_
  refine lx_un rfl (fun _ => un_not _) rfl rfl ?_
  refine lx_nil ?_
  refine x_false rfl ?_
  refine x_skip ?_
  refine x_seq ?_
  refine xs_plain (E := EE []) ?_
  refine lx_move rfl rfl rfl ?_
  refine lx_bslV 40 (SVl [(e0, bs0.length, cap0)]) hGF rfl rfl rfl (by decide) (by decide) Tryd.underlying63 Tryd.sizeOf22 Tryd.zeroValue22 rfl rfl rfl ?_
  intro b40
  refine lx_callC rfl rfl ent12 (fun w' hC hG => light_calls b40 1 [(e0, bs0.length, cap0)] rfl (by decide) w' hG (hp_row (n := 40) rfl w' hC)) rfl rfl ?_
  refine lx_un rfl (fun _ => un_not _) rfl rfl ?_
  refine lx_nil ?_
  refine x_if rfl (fun hc => ?_) (fun hc => ?_)
  · skip
    refine xs_plain (E := EE []) ?_
    refine lx_assign rfl rfl rfl ?_
    refine lx_nil ?_
    refine x_ret ?_
    repeat (first | refine kseq_ret ?_ | refine kblk_ret ?_)
    exact kret_tmp rfl rfl (fun w hw => ⟨rfl, hp_below hw⟩)
  · have hl : ∀ v ∈ [(e0, bs0.length, cap0)], v.2.1 ≤ 128 := by simpa using hc
    have hl0 : bs0.length ≤ 128 := hl (e0, bs0.length, cap0) (by simp)
    clear hc hl
    refine x_skip ?_
    refine xs_plain (E := EE []) ?_
    refine lx_move rfl rfl rfl ?_
    refine lx_callC rfl rfl ent21 (fun w' hC hG => fwide_calls e0 cap0 bs0 (by omega) hcap0 w' hG (hb0.grow (hp_below hC))) rfl rfl ?_
    refine lx_allocr 3 hGF zv28 rfl rfl ?_
    intro b3
    refine lx_storea 3 hGF rfl rfl rfl Tryd.sizeOf28 (by simp) (by simp) (one_u64 _) rfl ?_
    refine lx_nil ?_
    refine x_seq ?_
    refine xs_drawn (E := EE []) mixed (by kernel_rfl) (by kernel_rfl) (by kernel_rfl) ?_
    refine lx_loada 3 rfl rfl Tryd.isAgg28 Tryd.sizeOf28 (by simp) rfl rfl ?_
    refine lx_call rfl rfl ent48 (fodd_pure _) rfl rfl ?_
    refine lx_loada 3 rfl rfl Tryd.isAgg28 Tryd.sizeOf28 (by simp) rfl rfl ?_
    refine lx_call rfl rfl ent26 (ref_pure _) rfl rfl ?_
    refine lx_call rfl rfl ent49 (roddE _) rfl rfl ?_
    refine lx_binB false rfl rfl (fun _ => rfl) (fun w => bin_neq_bool 4 Tryd.underlying4 _ _ w) (bne_self_eq_false _) rfl rfl ?_
    refine lx_move rfl rfl rfl ?_
    refine lx_loada 3 rfl rfl Tryd.isAgg28 Tryd.sizeOf28 (by simp) rfl rfl ?_
    refine lx_call rfl rfl ent47 (flarge_pure _) rfl rfl ?_
    refine lx_loada 3 rfl rfl Tryd.isAgg28 Tryd.sizeOf28 (by simp) rfl rfl ?_
    refine lx_call rfl rfl ent26 (ref_pure _) rfl rfl ?_
    refine lx_call rfl rfl ent50 (rlargeE _) rfl rfl ?_
    refine lx_binB false rfl rfl (fun _ => rfl) (fun w => bin_neq_bool 4 Tryd.underlying4 _ _ w) (bne_self_eq_false _) rfl rfl ?_
    refine lx_pick rfl rfl rfl rfl rfl ?_
    refine lx_nil ?_
    refine x_false rfl ?_
    refine x_skip ?_
    refine x_seq ?_
    refine xs_plain (E := EE []) ?_
    refine lx_loada 3 rfl rfl Tryd.isAgg28 Tryd.sizeOf28 (by simp) rfl rfl ?_
    refine lx_call rfl rfl ent17 (fisZero_pure _) rfl rfl ?_
    refine lx_nil ?_
    refine x_if rfl (fun hc => ?_) (fun hc => ?_)
    · have hz : ZB bs0 = 0 := by simpa using hc
      refine xs_plain (E := EE []) ?_
      refine lx_loada 3 rfl rfl Tryd.isAgg28 Tryd.sizeOf28 (by simp) rfl rfl ?_
      refine lx_callB false rfl rfl ent48 (fodd_pure _) (odd_0 hz) rfl rfl ?_
      refine lx_un rfl (fun _ => un_not _) rfl rfl ?_
      refine lx_move rfl rfl rfl ?_
      refine lx_loada 3 rfl rfl Tryd.isAgg28 Tryd.sizeOf28 (by simp) rfl rfl ?_
      refine lx_callB false rfl rfl ent47 (flarge_pure _) (large_0 hz) rfl rfl ?_
      refine lx_un rfl (fun _ => un_not _) rfl rfl ?_
      refine lx_pick rfl rfl rfl rfl rfl ?_
      refine lx_assign rfl rfl rfl ?_
      refine lx_nil ?_
      refine x_ret ?_
      repeat (first | refine kseq_ret ?_ | refine kblk_ret ?_)
      exact kret_tmp rfl rfl (fun w hw => ⟨rfl, hp_below hw⟩)
    · have hz : ¬ ZB bs0 = 0 := by simpa using hc
      refine x_skip ?_
      refine xs_drawn (E := EE []) mixed (by kernel_rfl) (by kernel_rfl) (by kernel_rfl) ?_
      refine lx_loada 3 rfl rfl Tryd.isAgg28 Tryd.sizeOf28 (by simp) rfl rfl ?_
      refine lx_call rfl rfl ent48 (fodd_pure _) rfl rfl ?_
      refine lx_loada 3 rfl rfl Tryd.isAgg28 Tryd.sizeOf28 (by simp) rfl rfl ?_
      refine lx_call rfl rfl ent34 (fneg_pure _) rfl rfl ?_
      refine lx_call rfl rfl ent48 (fodd_pure _) rfl rfl ?_
      refine lx_binB true rfl rfl (fun _ => rfl) (fun w => bin_neq_bool 4 Tryd.underlying4 _ _ w) (sgn_odd hz) rfl rfl ?_
      refine lx_move rfl rfl rfl ?_
      refine lx_loada 3 rfl rfl Tryd.isAgg28 Tryd.sizeOf28 (by simp) rfl rfl ?_
      refine lx_call rfl rfl ent47 (flarge_pure _) rfl rfl ?_
      refine lx_loada 3 rfl rfl Tryd.isAgg28 Tryd.sizeOf28 (by simp) rfl rfl ?_
      refine lx_call rfl rfl ent34 (fneg_pure _) rfl rfl ?_
      refine lx_call rfl rfl ent47 (flarge_pure _) rfl rfl ?_
      refine lx_binB true rfl rfl (fun _ => rfl) (fun w => bin_neq_bool 4 Tryd.underlying4 _ _ w) (sgn_large hz) rfl rfl ?_
      refine lx_pick rfl rfl rfl rfl rfl ?_
      refine lx_assign rfl rfl rfl ?_
      refine lx_nil ?_
      refine x_ret ?_
      repeat (first | refine kseq_ret ?_ | refine kblk_ret ?_)
      exact kret_tmp rfl rfl (fun w hw => ⟨rfl, hp_below hw⟩)
theorem zero_isZero : Pure Tryd.prog Gt 17 [NV (List.replicate 6 0#64)] (.bool true) := by
  have h := fisZero_pure 0
  rw [decide_eq_true rfl] at h
  rw [← fe_0]
  exact h
theorem zero_inv : Pure Tryd.prog Gt 36 [NV (List.replicate 6 0#64)] (EV 0) := by
  have h := finv_pure 0
  rw [inv_0] at h
  rw [← fe_0]
  exact h
theorem reckons_law (e0 : Option Addr) (cap0 : Nat) (bs0 : List (BitVec 8)) (hcap0 : bs0.length ≤ cap0) (e1 : Option Addr) (cap1 : Nat) (bs1 : List (BitVec 8)) (hcap1 : bs1.length ≤ cap1) (w : World) (hw : Gt w) (hb0 : BytesAt w e0 bs0) (hb1 : BytesAt w e1 bs1) :
    Calls Tryd.prog 4 [.slice e0 bs0.length cap0, .slice e1 bs1.length cap1].toArray w (fun r w' => r = .returned (.bool true) ∧ Grow w w') := by
  have hGF : BOk Gt (pl w) := gt_low.plain hw
  refine calls_of_X (G := Gt) Tryd.func4 rfl rfl (Hp (pl w) []) (hp_refl (pl w) trivial rides_true) (good_hp hGF) ?_
  refine xs_plain (E := EE []) ?_
  refine lx_assign rfl rfl rfl ?_
  refine lx_nil ?_
  refine x_seq ?_
  refine xs_plain (E := EE []) ?_
  refine lx_callB true rfl rfl ent11 (known_pure) (rfl) rfl rfl ?_
  refine lx_un rfl (fun _ => un_not _) rfl rfl ?_
  refine lx_nil ?_
  refine x_false rfl ?_
  refine x_skip ?_
  refine x_seq ?_
  refine xs_plain (E := EE []) ?_
  refine lx_move rfl rfl rfl ?_
  refine lx_move rfl rfl rfl ?_
  refine lx_bslV 40 (SVl [(e0, bs0.length, cap0), (e1, bs1.length, cap1)]) hGF rfl rfl rfl (by decide) (by decide) Tryd.underlying63 Tryd.sizeOf22 Tryd.zeroValue22 rfl rfl rfl ?_
  intro b40
  refine lx_callC rfl rfl ent12 (fun w' hC hG => light_calls b40 2 [(e0, bs0.length, cap0), (e1, bs1.length, cap1)] rfl (by decide) w' hG (hp_row (n := 40) rfl w' hC)) rfl rfl ?_
  refine lx_un rfl (fun _ => un_not _) rfl rfl ?_
  refine lx_nil ?_
  refine x_if rfl (fun hc => ?_) (fun hc => ?_)
  · skip
    refine xs_plain (E := EE []) ?_
    refine lx_assign rfl rfl rfl ?_
    refine lx_nil ?_
    refine x_ret ?_
    repeat (first | refine kseq_ret ?_ | refine kblk_ret ?_)
    exact kret_tmp rfl rfl (fun w hw => ⟨rfl, hp_below hw⟩)
  · have hl : ∀ v ∈ [(e0, bs0.length, cap0), (e1, bs1.length, cap1)], v.2.1 ≤ 128 := by simpa using hc
    have hl0 : bs0.length ≤ 128 := hl (e0, bs0.length, cap0) (by simp)
    have hl1 : bs1.length ≤ 128 := hl (e1, bs1.length, cap1) (by simp)
    clear hc hl
    refine x_skip ?_
    refine xs_plain (E := EE []) ?_
    refine lx_move rfl rfl rfl ?_
    refine lx_callC rfl rfl ent21 (fun w' hC hG => fwide_calls e0 cap0 bs0 (by omega) hcap0 w' hG (hb0.grow (hp_below hC))) rfl rfl ?_
    refine lx_move rfl rfl rfl ?_
    refine lx_callC rfl rfl ent21 (fun w' hC hG => fwide_calls e1 cap1 bs1 (by omega) hcap1 w' hG (hb1.grow (hp_below hC))) rfl rfl ?_
    refine lx_allocr 5 hGF zv28 rfl rfl ?_
    intro b5
    refine lx_allocr 6 hGF zv28 rfl rfl ?_
    intro b6
    refine lx_storea 5 hGF rfl rfl rfl Tryd.sizeOf28 (by simp) (by simp) (one_u64 _) rfl ?_
    refine lx_storea 6 hGF rfl rfl rfl Tryd.sizeOf28 (by simp) (by simp) (one_u64 _) rfl ?_
    refine lx_nil ?_
    refine xs_drawA (E := EE [2999999]) [0, 1, 2, 3] [⟨4, 7, 42, (List.replicate 6 0#64).map U64⟩, ⟨5, 8, 42, (List.replicate 6 0#64).map U64⟩] [6, 7] mixed rfl (by kernel_rfl) (by kernel_rfl) (by kernel_rfl) (by kernel_rfl) (by kernel_rfl) (by kernel_rfl) (by decide) (by intro x hx; simp only [List.mem_cons, List.not_mem_nil, or_false] at hx; rcases hx with rfl | rfl <;> exact isAlloc_mk rfl zv42 rfl) ?_
    refine lx_loada 5 rfl rfl Tryd.isAgg28 Tryd.sizeOf28 (by simp) rfl rfl ?_
    refine lx_call rfl rfl ent26 (ref_pure _) rfl rfl ?_
    refine lx_loada 6 rfl rfl Tryd.isAgg28 Tryd.sizeOf28 (by simp) rfl rfl ?_
    refine lx_call rfl rfl ent26 (ref_pure _) rfl rfl ?_
    refine lx_nil ?_
    refine ⟨_, _, rfl, hGF, by intro x hx; simp only [List.mem_cons, List.not_mem_nil, or_false] at hx; rcases hx with rfl | rfl <;> rfl, by intro x hx; simp only [List.mem_cons, List.not_mem_nil, or_false] at hx; rcases hx with rfl | rfl <;> rfl, fun adr => ?_⟩
    refine lx_storea 7 hGF rfl rfl rfl Tryd.sizeOf42 (by simp) (by simp) (one_u64 _) rfl ?_
    refine lx_storea 8 hGF rfl rfl rfl Tryd.sizeOf42 (by simp) (by simp) (one_u64 _) rfl ?_
    refine lx_nil ?_
    refine xs_plain (E := EE []) ?_
    refine lx_allocr 9 hGF zv28 rfl rfl ?_
    intro b9
    refine lx_nil ?_
    refine xs_drawn (E := EE []) mixed (by kernel_rfl) (by kernel_rfl) (by kernel_rfl) ?_
    refine lx_loada 5 rfl rfl Tryd.isAgg28 Tryd.sizeOf28 (by simp) rfl rfl ?_
    refine lx_loada 6 rfl rfl Tryd.isAgg28 Tryd.sizeOf28 (by simp) rfl rfl ?_
    refine lx_call rfl rfl ent27 (fadd_pure _ _) rfl rfl ?_
    refine lx_loada 7 rfl rfl Tryd.isAgg42 Tryd.sizeOf42 (by simp) rfl rfl ?_
    refine lx_loada 8 rfl rfl Tryd.isAgg42 Tryd.sizeOf42 (by simp) rfl rfl ?_
    refine lx_call rfl rfl ent28 (raddE _ _) rfl rfl ?_
    refine lx_callB true rfl rfl ent20 (same_pure _ _) (decide_eq_true rfl) rfl rfl ?_
    refine lx_move rfl rfl rfl ?_
    refine lx_loada 5 rfl rfl Tryd.isAgg28 Tryd.sizeOf28 (by simp) rfl rfl ?_
    refine lx_loada 6 rfl rfl Tryd.isAgg28 Tryd.sizeOf28 (by simp) rfl rfl ?_
    refine lx_call rfl rfl ent29 (fsub_pure _ _) rfl rfl ?_
    refine lx_loada 7 rfl rfl Tryd.isAgg42 Tryd.sizeOf42 (by simp) rfl rfl ?_
    refine lx_loada 8 rfl rfl Tryd.isAgg42 Tryd.sizeOf42 (by simp) rfl rfl ?_
    refine lx_call rfl rfl ent30 (rsubE _ _) rfl rfl ?_
    refine lx_callB true rfl rfl ent20 (same_pure _ _) (decide_eq_true rfl) rfl rfl ?_
    refine lx_pick rfl rfl rfl rfl rfl ?_
    refine lx_move rfl rfl rfl ?_
    refine lx_loada 5 rfl rfl Tryd.isAgg28 Tryd.sizeOf28 (by simp) rfl rfl ?_
    refine lx_loada 6 rfl rfl Tryd.isAgg28 Tryd.sizeOf28 (by simp) rfl rfl ?_
    refine lx_call rfl rfl ent31 (fmul_pure _ _) rfl rfl ?_
    refine lx_loada 7 rfl rfl Tryd.isAgg42 Tryd.sizeOf42 (by simp) rfl rfl ?_
    refine lx_loada 8 rfl rfl Tryd.isAgg42 Tryd.sizeOf42 (by simp) rfl rfl ?_
    refine lx_call rfl rfl ent32 (rmulE _ _) rfl rfl ?_
    refine lx_callB true rfl rfl ent20 (same_pure _ _) (decide_eq_true rfl) rfl rfl ?_
    refine lx_pick rfl rfl rfl rfl rfl ?_
    refine lx_move rfl rfl rfl ?_
    refine lx_loada 5 rfl rfl Tryd.isAgg28 Tryd.sizeOf28 (by simp) rfl rfl ?_
    refine lx_call rfl rfl ent33 (fsquare_pure _) rfl rfl ?_
    refine lx_loada 7 rfl rfl Tryd.isAgg42 Tryd.sizeOf42 (by simp) rfl rfl ?_
    refine lx_loada 7 rfl rfl Tryd.isAgg42 Tryd.sizeOf42 (by simp) rfl rfl ?_
    refine lx_call rfl rfl ent32 (rmulE _ _) rfl rfl ?_
    refine lx_callB true rfl rfl ent20 (same_pure _ _) (decide_eq_true rfl) rfl rfl ?_
    refine lx_pick rfl rfl rfl rfl rfl ?_
    refine lx_move rfl rfl rfl ?_
    refine lx_loada 5 rfl rfl Tryd.isAgg28 Tryd.sizeOf28 (by simp) rfl rfl ?_
    refine lx_call rfl rfl ent34 (fneg_pure _) rfl rfl ?_
    refine lx_loada 7 rfl rfl Tryd.isAgg42 Tryd.sizeOf42 (by simp) rfl rfl ?_
    refine lx_call rfl rfl ent35 (rnegE _) rfl rfl ?_
    refine lx_callB true rfl rfl ent20 (same_pure _ _) (decide_eq_true rfl) rfl rfl ?_
    refine lx_pick rfl rfl rfl rfl rfl ?_
    refine lx_move rfl rfl rfl ?_
    refine lx_loada 5 rfl rfl Tryd.isAgg28 Tryd.sizeOf28 (by simp) rfl rfl ?_
    refine lx_call rfl rfl ent36 (finv_pure _) rfl rfl ?_
    refine lx_loada 7 rfl rfl Tryd.isAgg42 Tryd.sizeOf42 (by simp) rfl rfl ?_
    refine lx_call rfl rfl ent37 (rinvE _) rfl rfl ?_
    refine lx_callB true rfl rfl ent20 (same_pure _ _) (decide_eq_true rfl) rfl rfl ?_
    refine lx_pick rfl rfl rfl rfl rfl ?_
    refine lx_move rfl rfl rfl ?_
    refine lx_loada 5 rfl rfl Tryd.isAgg28 Tryd.sizeOf28 (by simp) rfl rfl ?_
    refine lx_loada 6 rfl rfl Tryd.isAgg28 Tryd.sizeOf28 (by simp) rfl rfl ?_
    refine lx_call rfl rfl ent38 (fequal_pure _ _) rfl rfl ?_
    refine lx_loada 7 rfl rfl Tryd.isAgg42 Tryd.sizeOf42 (by simp) rfl rfl ?_
    refine lx_loada 8 rfl rfl Tryd.isAgg42 Tryd.sizeOf42 (by simp) rfl rfl ?_
    refine lx_bin rfl rfl (fun _ => eqg42 _ _ _ _ _ _) (fun w => eqv42 _ _ (by simp) (by simp) w) rfl rfl ?_
    refine lx_binB true rfl rfl (fun _ => rfl) (fun w => bin_eql_bool 4 Tryd.underlying4 _ _ w) (by rw [decide_fe]; exact beq_self_eq_true _) rfl rfl ?_
    refine lx_pick rfl rfl rfl rfl rfl ?_
    refine lx_move rfl rfl rfl ?_
    refine lx_loada 5 rfl rfl Tryd.isAgg28 Tryd.sizeOf28 (by simp) rfl rfl ?_
    refine lx_call rfl rfl ent17 (fisZero_pure _) rfl rfl ?_
    refine lx_loada 7 rfl rfl Tryd.isAgg42 Tryd.sizeOf42 (by simp) rfl rfl ?_
    refine lx_call rfl rfl ent39 (risZeroE _) rfl rfl ?_
    refine lx_binB true rfl rfl (fun _ => rfl) (fun w => bin_eql_bool 4 Tryd.underlying4 _ _ w) (beq_self_eq_true _) rfl rfl ?_
    refine lx_pick rfl rfl rfl rfl rfl ?_
    refine lx_move rfl rfl rfl ?_
    refine lx_loada 9 rfl rfl Tryd.isAgg28 Tryd.sizeOf28 (by simp) rfl rfl ?_
    refine lx_call rfl rfl ent17 zero_isZero rfl rfl ?_
    refine lx_pick rfl rfl rfl rfl rfl ?_
    refine lx_move rfl rfl rfl ?_
    refine lx_loada 9 rfl rfl Tryd.isAgg28 Tryd.sizeOf28 (by simp) rfl rfl ?_
    refine lx_call rfl rfl ent36 (zero_inv) rfl rfl ?_
    refine lx_callB true rfl rfl ent17 (fisZero_pure _) (decide_eq_true rfl) rfl rfl ?_
    refine lx_pick rfl rfl rfl rfl rfl ?_
    refine lx_assign rfl rfl rfl ?_
    refine lx_nil ?_
    refine x_ret ?_
    repeat (first | refine kseq_ret ?_ | refine kblk_ret ?_)
    exact kret_tmp rfl rfl (fun w hw => ⟨rfl, hp_below hw⟩)
theorem laws_law (e0 : Option Addr) (cap0 : Nat) (bs0 : List (BitVec 8)) (hcap0 : bs0.length ≤ cap0) (e1 : Option Addr) (cap1 : Nat) (bs1 : List (BitVec 8)) (hcap1 : bs1.length ≤ cap1) (e2 : Option Addr) (cap2 : Nat) (bs2 : List (BitVec 8)) (hcap2 : bs2.length ≤ cap2) (w : World) (hw : Gt w) (hb0 : BytesAt w e0 bs0) (hb1 : BytesAt w e1 bs1) (hb2 : BytesAt w e2 bs2) :
    Calls Tryd.prog 5 [.slice e0 bs0.length cap0, .slice e1 bs1.length cap1, .slice e2 bs2.length cap2].toArray w (fun r w' => r = .returned (.bool true) ∧ Grow w w') := by
  have hGF : BOk Gt (pl w) := gt_low.plain hw
  by_cases h0 : ZB bs0 = 0
  · skip
    refine calls_of_X (G := Gt) Tryd.func5 rfl rfl (Hp (pl w) []) (hp_refl (pl w) trivial rides_true) (good_hp hGF) ?_
    refine xs_plain (E := EE []) ?_
    refine lx_assign rfl rfl rfl ?_
    refine lx_nil ?_
    refine x_seq ?_
    refine xs_plain (E := EE []) ?_
    refine lx_callB true rfl rfl ent11 (known_pure) (rfl) rfl rfl ?_
    refine lx_un rfl (fun _ => un_not _) rfl rfl ?_
    refine lx_nil ?_
    refine x_false rfl ?_
    refine x_skip ?_
    refine x_seq ?_
    refine xs_plain (E := EE []) ?_
    refine lx_move rfl rfl rfl ?_
    refine lx_move rfl rfl rfl ?_
    refine lx_move rfl rfl rfl ?_
    refine lx_bslV 40 (SVl [(e0, bs0.length, cap0), (e1, bs1.length, cap1), (e2, bs2.length, cap2)]) hGF rfl rfl rfl (by decide) (by decide) Tryd.underlying63 Tryd.sizeOf22 Tryd.zeroValue22 rfl rfl rfl ?_
    intro b40
    refine lx_callC rfl rfl ent12 (fun w' hC hG => light_calls b40 3 [(e0, bs0.length, cap0), (e1, bs1.length, cap1), (e2, bs2.length, cap2)] rfl (by decide) w' hG (hp_row (n := 40) rfl w' hC)) rfl rfl ?_
    refine lx_un rfl (fun _ => un_not _) rfl rfl ?_
    refine lx_nil ?_
    refine x_if rfl (fun hc => ?_) (fun hc => ?_)
    · skip
      refine xs_plain (E := EE []) ?_
      refine lx_assign rfl rfl rfl ?_
      refine lx_nil ?_
      refine x_ret ?_
      repeat (first | refine kseq_ret ?_ | refine kblk_ret ?_)
      exact kret_tmp rfl rfl (fun w hw => ⟨rfl, hp_below hw⟩)
    · have hl : ∀ v ∈ [(e0, bs0.length, cap0), (e1, bs1.length, cap1), (e2, bs2.length, cap2)], v.2.1 ≤ 128 := by simpa using hc
      have hl0 : bs0.length ≤ 128 := hl (e0, bs0.length, cap0) (by simp)
      have hl1 : bs1.length ≤ 128 := hl (e1, bs1.length, cap1) (by simp)
      have hl2 : bs2.length ≤ 128 := hl (e2, bs2.length, cap2) (by simp)
      clear hc hl
      refine x_skip ?_
      refine xs_plain (E := EE []) ?_
      refine lx_move rfl rfl rfl ?_
      refine lx_callC rfl rfl ent21 (fun w' hC hG => fwide_calls e0 cap0 bs0 (by omega) hcap0 w' hG (hb0.grow (hp_below hC))) rfl rfl ?_
      refine lx_move rfl rfl rfl ?_
      refine lx_callC rfl rfl ent21 (fun w' hC hG => fwide_calls e1 cap1 bs1 (by omega) hcap1 w' hG (hb1.grow (hp_below hC))) rfl rfl ?_
      refine lx_move rfl rfl rfl ?_
      refine lx_callC rfl rfl ent21 (fun w' hC hG => fwide_calls e2 cap2 bs2 (by omega) hcap2 w' hG (hb2.grow (hp_below hC))) rfl rfl ?_
      refine lx_allocr 7 hGF zv28 rfl rfl ?_
      intro b7
      refine lx_allocr 8 hGF zv28 rfl rfl ?_
      intro b8
      refine lx_allocr 9 hGF zv28 rfl rfl ?_
      intro b9
      refine lx_storea 7 hGF rfl rfl rfl Tryd.sizeOf28 (by simp) (by simp) (one_u64 _) rfl ?_
      refine lx_storea 8 hGF rfl rfl rfl Tryd.sizeOf28 (by simp) (by simp) (one_u64 _) rfl ?_
      refine lx_storea 9 hGF rfl rfl rfl Tryd.sizeOf28 (by simp) (by simp) (one_u64 _) rfl ?_
      refine lx_nil ?_
      refine xs_plain (E := EE []) ?_
      refine lx_call rfl rfl ent24 (fof_pure _) rfl rfl ?_
      refine lx_allocr 10 hGF zv28 rfl rfl ?_
      intro b10
      refine lx_storea 10 hGF rfl rfl rfl Tryd.sizeOf28 (by simp) (by simp) (one_u64 _) rfl ?_
      refine lx_nil ?_
      refine xs_drawn (E := EE []) mixed (by kernel_rfl) (by kernel_rfl) (by kernel_rfl) ?_
      refine lx_loada 7 rfl rfl Tryd.isAgg28 Tryd.sizeOf28 (by simp) rfl rfl ?_
      refine lx_loada 8 rfl rfl Tryd.isAgg28 Tryd.sizeOf28 (by simp) rfl rfl ?_
      refine lx_call rfl rfl ent27 (fadd_pure _ _) rfl rfl ?_
      refine lx_loada 8 rfl rfl Tryd.isAgg28 Tryd.sizeOf28 (by simp) rfl rfl ?_
      refine lx_loada 7 rfl rfl Tryd.isAgg28 Tryd.sizeOf28 (by simp) rfl rfl ?_
      refine lx_call rfl rfl ent27 (fadd_pure _ _) rfl rfl ?_
      refine lx_callB true rfl rfl ent38 (fequal_pure _ _) (decide_eq_true (by grind)) rfl rfl ?_
      refine lx_move rfl rfl rfl ?_
      refine lx_loada 7 rfl rfl Tryd.isAgg28 Tryd.sizeOf28 (by simp) rfl rfl ?_
      refine lx_loada 8 rfl rfl Tryd.isAgg28 Tryd.sizeOf28 (by simp) rfl rfl ?_
      refine lx_call rfl rfl ent31 (fmul_pure _ _) rfl rfl ?_
      refine lx_loada 8 rfl rfl Tryd.isAgg28 Tryd.sizeOf28 (by simp) rfl rfl ?_
      refine lx_loada 7 rfl rfl Tryd.isAgg28 Tryd.sizeOf28 (by simp) rfl rfl ?_
      refine lx_call rfl rfl ent31 (fmul_pure _ _) rfl rfl ?_
      refine lx_callB true rfl rfl ent38 (fequal_pure _ _) (decide_eq_true (by grind)) rfl rfl ?_
      refine lx_pick rfl rfl rfl rfl rfl ?_
      refine lx_move rfl rfl rfl ?_
      refine lx_loada 7 rfl rfl Tryd.isAgg28 Tryd.sizeOf28 (by simp) rfl rfl ?_
      refine lx_loada 8 rfl rfl Tryd.isAgg28 Tryd.sizeOf28 (by simp) rfl rfl ?_
      refine lx_loada 9 rfl rfl Tryd.isAgg28 Tryd.sizeOf28 (by simp) rfl rfl ?_
      refine lx_call rfl rfl ent27 (fadd_pure _ _) rfl rfl ?_
      refine lx_call rfl rfl ent27 (fadd_pure _ _) rfl rfl ?_
      refine lx_loada 7 rfl rfl Tryd.isAgg28 Tryd.sizeOf28 (by simp) rfl rfl ?_
      refine lx_loada 8 rfl rfl Tryd.isAgg28 Tryd.sizeOf28 (by simp) rfl rfl ?_
      refine lx_call rfl rfl ent27 (fadd_pure _ _) rfl rfl ?_
      refine lx_loada 9 rfl rfl Tryd.isAgg28 Tryd.sizeOf28 (by simp) rfl rfl ?_
      refine lx_call rfl rfl ent27 (fadd_pure _ _) rfl rfl ?_
      refine lx_callB true rfl rfl ent38 (fequal_pure _ _) (decide_eq_true (by grind)) rfl rfl ?_
      refine lx_pick rfl rfl rfl rfl rfl ?_
      refine lx_move rfl rfl rfl ?_
      refine lx_loada 7 rfl rfl Tryd.isAgg28 Tryd.sizeOf28 (by simp) rfl rfl ?_
      refine lx_loada 8 rfl rfl Tryd.isAgg28 Tryd.sizeOf28 (by simp) rfl rfl ?_
      refine lx_loada 9 rfl rfl Tryd.isAgg28 Tryd.sizeOf28 (by simp) rfl rfl ?_
      refine lx_call rfl rfl ent31 (fmul_pure _ _) rfl rfl ?_
      refine lx_call rfl rfl ent31 (fmul_pure _ _) rfl rfl ?_
      refine lx_loada 7 rfl rfl Tryd.isAgg28 Tryd.sizeOf28 (by simp) rfl rfl ?_
      refine lx_loada 8 rfl rfl Tryd.isAgg28 Tryd.sizeOf28 (by simp) rfl rfl ?_
      refine lx_call rfl rfl ent31 (fmul_pure _ _) rfl rfl ?_
      refine lx_loada 9 rfl rfl Tryd.isAgg28 Tryd.sizeOf28 (by simp) rfl rfl ?_
      refine lx_call rfl rfl ent31 (fmul_pure _ _) rfl rfl ?_
      refine lx_callB true rfl rfl ent38 (fequal_pure _ _) (decide_eq_true (by grind)) rfl rfl ?_
      refine lx_pick rfl rfl rfl rfl rfl ?_
      refine lx_move rfl rfl rfl ?_
      refine lx_loada 7 rfl rfl Tryd.isAgg28 Tryd.sizeOf28 (by simp) rfl rfl ?_
      refine lx_loada 8 rfl rfl Tryd.isAgg28 Tryd.sizeOf28 (by simp) rfl rfl ?_
      refine lx_loada 9 rfl rfl Tryd.isAgg28 Tryd.sizeOf28 (by simp) rfl rfl ?_
      refine lx_call rfl rfl ent27 (fadd_pure _ _) rfl rfl ?_
      refine lx_call rfl rfl ent31 (fmul_pure _ _) rfl rfl ?_
      refine lx_loada 7 rfl rfl Tryd.isAgg28 Tryd.sizeOf28 (by simp) rfl rfl ?_
      refine lx_loada 8 rfl rfl Tryd.isAgg28 Tryd.sizeOf28 (by simp) rfl rfl ?_
      refine lx_call rfl rfl ent31 (fmul_pure _ _) rfl rfl ?_
      refine lx_loada 7 rfl rfl Tryd.isAgg28 Tryd.sizeOf28 (by simp) rfl rfl ?_
      refine lx_loada 9 rfl rfl Tryd.isAgg28 Tryd.sizeOf28 (by simp) rfl rfl ?_
      refine lx_call rfl rfl ent31 (fmul_pure _ _) rfl rfl ?_
      refine lx_call rfl rfl ent27 (fadd_pure _ _) rfl rfl ?_
      refine lx_callB true rfl rfl ent38 (fequal_pure _ _) (decide_eq_true (by grind)) rfl rfl ?_
      refine lx_pick rfl rfl rfl rfl rfl ?_
      refine lx_move rfl rfl rfl ?_
      refine lx_loada 7 rfl rfl Tryd.isAgg28 Tryd.sizeOf28 (by simp) rfl rfl ?_
      refine lx_loada 8 rfl rfl Tryd.isAgg28 Tryd.sizeOf28 (by simp) rfl rfl ?_
      refine lx_call rfl rfl ent29 (fsub_pure _ _) rfl rfl ?_
      refine lx_loada 8 rfl rfl Tryd.isAgg28 Tryd.sizeOf28 (by simp) rfl rfl ?_
      refine lx_call rfl rfl ent27 (fadd_pure _ _) rfl rfl ?_
      refine lx_loada 7 rfl rfl Tryd.isAgg28 Tryd.sizeOf28 (by simp) rfl rfl ?_
      refine lx_callB true rfl rfl ent38 (fequal_pure _ _) (decide_eq_true (by grind)) rfl rfl ?_
      refine lx_pick rfl rfl rfl rfl rfl ?_
      refine lx_move rfl rfl rfl ?_
      refine lx_loada 7 rfl rfl Tryd.isAgg28 Tryd.sizeOf28 (by simp) rfl rfl ?_
      refine lx_loada 7 rfl rfl Tryd.isAgg28 Tryd.sizeOf28 (by simp) rfl rfl ?_
      refine lx_call rfl rfl ent34 (fneg_pure _) rfl rfl ?_
      refine lx_call rfl rfl ent27 (fadd_pure _ _) rfl rfl ?_
      refine lx_callB true rfl rfl ent17 (fisZero_pure _) (decide_eq_true (by grind)) rfl rfl ?_
      refine lx_pick rfl rfl rfl rfl rfl ?_
      refine lx_move rfl rfl rfl ?_
      refine lx_loada 7 rfl rfl Tryd.isAgg28 Tryd.sizeOf28 (by simp) rfl rfl ?_
      refine lx_loada 10 rfl rfl Tryd.isAgg28 Tryd.sizeOf28 (by simp) rfl rfl ?_
      refine lx_call rfl rfl ent31 (fmul_pure _ _) rfl rfl ?_
      refine lx_loada 7 rfl rfl Tryd.isAgg28 Tryd.sizeOf28 (by simp) rfl rfl ?_
      refine lx_callB true rfl rfl ent38 (fequal_pure _ _) (decide_eq_true (by rw [show zp (1#64).toNat = 1 from rfl]; grind)) rfl rfl ?_
      refine lx_pick rfl rfl rfl rfl rfl ?_
      refine lx_assign rfl rfl rfl ?_
      refine lx_nil ?_
      refine xs_drawn (E := EE []) mixed (by kernel_rfl) (by kernel_rfl) (by kernel_rfl) ?_
      refine lx_move rfl rfl rfl ?_
      refine lx_move rfl rfl rfl ?_
      refine lx_loada 7 rfl rfl Tryd.isAgg28 Tryd.sizeOf28 (by simp) rfl rfl ?_
      refine lx_callB true rfl rfl ent17 (fisZero_pure _) (decide_eq_true h0) rfl rfl ?_
      refine lx_move rfl rfl rfl ?_
      refine lx_skip rfl rfl rfl ?_
      refine lx_skip rfl rfl rfl ?_
      refine lx_skip rfl rfl rfl ?_
      refine lx_skip rfl rfl rfl ?_
      refine lx_skip rfl rfl rfl ?_
      refine lx_skip rfl rfl rfl ?_
      refine lx_pick rfl rfl rfl rfl rfl ?_
      refine lx_pick rfl rfl rfl rfl rfl ?_
      refine lx_move rfl rfl rfl ?_
      refine lx_loada 7 rfl rfl Tryd.isAgg28 Tryd.sizeOf28 (by simp) rfl rfl ?_
      refine lx_loada 8 rfl rfl Tryd.isAgg28 Tryd.sizeOf28 (by simp) rfl rfl ?_
      refine lx_call rfl rfl ent31 (fmul_pure _ _) rfl rfl ?_
      refine lx_callB true rfl rfl ent17 (fisZero_pure _) (decide_eq_true (by rw [h0]; grind)) rfl rfl ?_
      refine lx_loada 7 rfl rfl Tryd.isAgg28 Tryd.sizeOf28 (by simp) rfl rfl ?_
      refine lx_callB true rfl rfl ent17 (fisZero_pure _) (decide_eq_true h0) rfl rfl ?_
      refine lx_move rfl rfl rfl ?_
      refine lx_skip rfl rfl rfl ?_
      refine lx_skip rfl rfl rfl ?_
      refine lx_pick rfl rfl rfl rfl rfl ?_
      refine lx_binB true rfl rfl (fun _ => rfl) (fun w => bin_eql_bool 4 Tryd.underlying4 _ _ w) (rfl) rfl rfl ?_
      refine lx_pick rfl rfl rfl rfl rfl ?_
      refine lx_assign rfl rfl rfl ?_
      refine lx_nil ?_
      refine x_ret ?_
      repeat (first | refine kseq_ret ?_ | refine kblk_ret ?_)
      exact kret_tmp rfl rfl (fun w hw => ⟨rfl, hp_below hw⟩)
  · by_cases h1 : ZB bs1 = 0
    · skip
      refine calls_of_X (G := Gt) Tryd.func5 rfl rfl (Hp (pl w) []) (hp_refl (pl w) trivial rides_true) (good_hp hGF) ?_
      refine xs_plain (E := EE []) ?_
      refine lx_assign rfl rfl rfl ?_
      refine lx_nil ?_
      refine x_seq ?_
      refine xs_plain (E := EE []) ?_
      refine lx_callB true rfl rfl ent11 (known_pure) (rfl) rfl rfl ?_
      refine lx_un rfl (fun _ => un_not _) rfl rfl ?_
      refine lx_nil ?_
      refine x_false rfl ?_
      refine x_skip ?_
      refine x_seq ?_
      refine xs_plain (E := EE []) ?_
      refine lx_move rfl rfl rfl ?_
      refine lx_move rfl rfl rfl ?_
      refine lx_move rfl rfl rfl ?_
      refine lx_bslV 40 (SVl [(e0, bs0.length, cap0), (e1, bs1.length, cap1), (e2, bs2.length, cap2)]) hGF rfl rfl rfl (by decide) (by decide) Tryd.underlying63 Tryd.sizeOf22 Tryd.zeroValue22 rfl rfl rfl ?_
      intro b40
      refine lx_callC rfl rfl ent12 (fun w' hC hG => light_calls b40 3 [(e0, bs0.length, cap0), (e1, bs1.length, cap1), (e2, bs2.length, cap2)] rfl (by decide) w' hG (hp_row (n := 40) rfl w' hC)) rfl rfl ?_
      refine lx_un rfl (fun _ => un_not _) rfl rfl ?_
      refine lx_nil ?_
      refine x_if rfl (fun hc => ?_) (fun hc => ?_)
      · skip
        refine xs_plain (E := EE []) ?_
        refine lx_assign rfl rfl rfl ?_
        refine lx_nil ?_
        refine x_ret ?_
        repeat (first | refine kseq_ret ?_ | refine kblk_ret ?_)
        exact kret_tmp rfl rfl (fun w hw => ⟨rfl, hp_below hw⟩)
      · have hl : ∀ v ∈ [(e0, bs0.length, cap0), (e1, bs1.length, cap1), (e2, bs2.length, cap2)], v.2.1 ≤ 128 := by simpa using hc
        have hl0 : bs0.length ≤ 128 := hl (e0, bs0.length, cap0) (by simp)
        have hl1 : bs1.length ≤ 128 := hl (e1, bs1.length, cap1) (by simp)
        have hl2 : bs2.length ≤ 128 := hl (e2, bs2.length, cap2) (by simp)
        clear hc hl
        refine x_skip ?_
        refine xs_plain (E := EE []) ?_
        refine lx_move rfl rfl rfl ?_
        refine lx_callC rfl rfl ent21 (fun w' hC hG => fwide_calls e0 cap0 bs0 (by omega) hcap0 w' hG (hb0.grow (hp_below hC))) rfl rfl ?_
        refine lx_move rfl rfl rfl ?_
        refine lx_callC rfl rfl ent21 (fun w' hC hG => fwide_calls e1 cap1 bs1 (by omega) hcap1 w' hG (hb1.grow (hp_below hC))) rfl rfl ?_
        refine lx_move rfl rfl rfl ?_
        refine lx_callC rfl rfl ent21 (fun w' hC hG => fwide_calls e2 cap2 bs2 (by omega) hcap2 w' hG (hb2.grow (hp_below hC))) rfl rfl ?_
        refine lx_allocr 7 hGF zv28 rfl rfl ?_
        intro b7
        refine lx_allocr 8 hGF zv28 rfl rfl ?_
        intro b8
        refine lx_allocr 9 hGF zv28 rfl rfl ?_
        intro b9
        refine lx_storea 7 hGF rfl rfl rfl Tryd.sizeOf28 (by simp) (by simp) (one_u64 _) rfl ?_
        refine lx_storea 8 hGF rfl rfl rfl Tryd.sizeOf28 (by simp) (by simp) (one_u64 _) rfl ?_
        refine lx_storea 9 hGF rfl rfl rfl Tryd.sizeOf28 (by simp) (by simp) (one_u64 _) rfl ?_
        refine lx_nil ?_
        refine xs_plain (E := EE []) ?_
        refine lx_call rfl rfl ent24 (fof_pure _) rfl rfl ?_
        refine lx_allocr 10 hGF zv28 rfl rfl ?_
        intro b10
        refine lx_storea 10 hGF rfl rfl rfl Tryd.sizeOf28 (by simp) (by simp) (one_u64 _) rfl ?_
        refine lx_nil ?_
        refine xs_drawn (E := EE []) mixed (by kernel_rfl) (by kernel_rfl) (by kernel_rfl) ?_
        refine lx_loada 7 rfl rfl Tryd.isAgg28 Tryd.sizeOf28 (by simp) rfl rfl ?_
        refine lx_loada 8 rfl rfl Tryd.isAgg28 Tryd.sizeOf28 (by simp) rfl rfl ?_
        refine lx_call rfl rfl ent27 (fadd_pure _ _) rfl rfl ?_
        refine lx_loada 8 rfl rfl Tryd.isAgg28 Tryd.sizeOf28 (by simp) rfl rfl ?_
        refine lx_loada 7 rfl rfl Tryd.isAgg28 Tryd.sizeOf28 (by simp) rfl rfl ?_
        refine lx_call rfl rfl ent27 (fadd_pure _ _) rfl rfl ?_
        refine lx_callB true rfl rfl ent38 (fequal_pure _ _) (decide_eq_true (by grind)) rfl rfl ?_
        refine lx_move rfl rfl rfl ?_
        refine lx_loada 7 rfl rfl Tryd.isAgg28 Tryd.sizeOf28 (by simp) rfl rfl ?_
        refine lx_loada 8 rfl rfl Tryd.isAgg28 Tryd.sizeOf28 (by simp) rfl rfl ?_
        refine lx_call rfl rfl ent31 (fmul_pure _ _) rfl rfl ?_
        refine lx_loada 8 rfl rfl Tryd.isAgg28 Tryd.sizeOf28 (by simp) rfl rfl ?_
        refine lx_loada 7 rfl rfl Tryd.isAgg28 Tryd.sizeOf28 (by simp) rfl rfl ?_
        refine lx_call rfl rfl ent31 (fmul_pure _ _) rfl rfl ?_
        refine lx_callB true rfl rfl ent38 (fequal_pure _ _) (decide_eq_true (by grind)) rfl rfl ?_
        refine lx_pick rfl rfl rfl rfl rfl ?_
        refine lx_move rfl rfl rfl ?_
        refine lx_loada 7 rfl rfl Tryd.isAgg28 Tryd.sizeOf28 (by simp) rfl rfl ?_
        refine lx_loada 8 rfl rfl Tryd.isAgg28 Tryd.sizeOf28 (by simp) rfl rfl ?_
        refine lx_loada 9 rfl rfl Tryd.isAgg28 Tryd.sizeOf28 (by simp) rfl rfl ?_
        refine lx_call rfl rfl ent27 (fadd_pure _ _) rfl rfl ?_
        refine lx_call rfl rfl ent27 (fadd_pure _ _) rfl rfl ?_
        refine lx_loada 7 rfl rfl Tryd.isAgg28 Tryd.sizeOf28 (by simp) rfl rfl ?_
        refine lx_loada 8 rfl rfl Tryd.isAgg28 Tryd.sizeOf28 (by simp) rfl rfl ?_
        refine lx_call rfl rfl ent27 (fadd_pure _ _) rfl rfl ?_
        refine lx_loada 9 rfl rfl Tryd.isAgg28 Tryd.sizeOf28 (by simp) rfl rfl ?_
        refine lx_call rfl rfl ent27 (fadd_pure _ _) rfl rfl ?_
        refine lx_callB true rfl rfl ent38 (fequal_pure _ _) (decide_eq_true (by grind)) rfl rfl ?_
        refine lx_pick rfl rfl rfl rfl rfl ?_
        refine lx_move rfl rfl rfl ?_
        refine lx_loada 7 rfl rfl Tryd.isAgg28 Tryd.sizeOf28 (by simp) rfl rfl ?_
        refine lx_loada 8 rfl rfl Tryd.isAgg28 Tryd.sizeOf28 (by simp) rfl rfl ?_
        refine lx_loada 9 rfl rfl Tryd.isAgg28 Tryd.sizeOf28 (by simp) rfl rfl ?_
        refine lx_call rfl rfl ent31 (fmul_pure _ _) rfl rfl ?_
        refine lx_call rfl rfl ent31 (fmul_pure _ _) rfl rfl ?_
        refine lx_loada 7 rfl rfl Tryd.isAgg28 Tryd.sizeOf28 (by simp) rfl rfl ?_
        refine lx_loada 8 rfl rfl Tryd.isAgg28 Tryd.sizeOf28 (by simp) rfl rfl ?_
        refine lx_call rfl rfl ent31 (fmul_pure _ _) rfl rfl ?_
        refine lx_loada 9 rfl rfl Tryd.isAgg28 Tryd.sizeOf28 (by simp) rfl rfl ?_
        refine lx_call rfl rfl ent31 (fmul_pure _ _) rfl rfl ?_
        refine lx_callB true rfl rfl ent38 (fequal_pure _ _) (decide_eq_true (by grind)) rfl rfl ?_
        refine lx_pick rfl rfl rfl rfl rfl ?_
        refine lx_move rfl rfl rfl ?_
        refine lx_loada 7 rfl rfl Tryd.isAgg28 Tryd.sizeOf28 (by simp) rfl rfl ?_
        refine lx_loada 8 rfl rfl Tryd.isAgg28 Tryd.sizeOf28 (by simp) rfl rfl ?_
        refine lx_loada 9 rfl rfl Tryd.isAgg28 Tryd.sizeOf28 (by simp) rfl rfl ?_
        refine lx_call rfl rfl ent27 (fadd_pure _ _) rfl rfl ?_
        refine lx_call rfl rfl ent31 (fmul_pure _ _) rfl rfl ?_
        refine lx_loada 7 rfl rfl Tryd.isAgg28 Tryd.sizeOf28 (by simp) rfl rfl ?_
        refine lx_loada 8 rfl rfl Tryd.isAgg28 Tryd.sizeOf28 (by simp) rfl rfl ?_
        refine lx_call rfl rfl ent31 (fmul_pure _ _) rfl rfl ?_
        refine lx_loada 7 rfl rfl Tryd.isAgg28 Tryd.sizeOf28 (by simp) rfl rfl ?_
        refine lx_loada 9 rfl rfl Tryd.isAgg28 Tryd.sizeOf28 (by simp) rfl rfl ?_
        refine lx_call rfl rfl ent31 (fmul_pure _ _) rfl rfl ?_
        refine lx_call rfl rfl ent27 (fadd_pure _ _) rfl rfl ?_
        refine lx_callB true rfl rfl ent38 (fequal_pure _ _) (decide_eq_true (by grind)) rfl rfl ?_
        refine lx_pick rfl rfl rfl rfl rfl ?_
        refine lx_move rfl rfl rfl ?_
        refine lx_loada 7 rfl rfl Tryd.isAgg28 Tryd.sizeOf28 (by simp) rfl rfl ?_
        refine lx_loada 8 rfl rfl Tryd.isAgg28 Tryd.sizeOf28 (by simp) rfl rfl ?_
        refine lx_call rfl rfl ent29 (fsub_pure _ _) rfl rfl ?_
        refine lx_loada 8 rfl rfl Tryd.isAgg28 Tryd.sizeOf28 (by simp) rfl rfl ?_
        refine lx_call rfl rfl ent27 (fadd_pure _ _) rfl rfl ?_
        refine lx_loada 7 rfl rfl Tryd.isAgg28 Tryd.sizeOf28 (by simp) rfl rfl ?_
        refine lx_callB true rfl rfl ent38 (fequal_pure _ _) (decide_eq_true (by grind)) rfl rfl ?_
        refine lx_pick rfl rfl rfl rfl rfl ?_
        refine lx_move rfl rfl rfl ?_
        refine lx_loada 7 rfl rfl Tryd.isAgg28 Tryd.sizeOf28 (by simp) rfl rfl ?_
        refine lx_loada 7 rfl rfl Tryd.isAgg28 Tryd.sizeOf28 (by simp) rfl rfl ?_
        refine lx_call rfl rfl ent34 (fneg_pure _) rfl rfl ?_
        refine lx_call rfl rfl ent27 (fadd_pure _ _) rfl rfl ?_
        refine lx_callB true rfl rfl ent17 (fisZero_pure _) (decide_eq_true (by grind)) rfl rfl ?_
        refine lx_pick rfl rfl rfl rfl rfl ?_
        refine lx_move rfl rfl rfl ?_
        refine lx_loada 7 rfl rfl Tryd.isAgg28 Tryd.sizeOf28 (by simp) rfl rfl ?_
        refine lx_loada 10 rfl rfl Tryd.isAgg28 Tryd.sizeOf28 (by simp) rfl rfl ?_
        refine lx_call rfl rfl ent31 (fmul_pure _ _) rfl rfl ?_
        refine lx_loada 7 rfl rfl Tryd.isAgg28 Tryd.sizeOf28 (by simp) rfl rfl ?_
        refine lx_callB true rfl rfl ent38 (fequal_pure _ _) (decide_eq_true (by rw [show zp (1#64).toNat = 1 from rfl]; grind)) rfl rfl ?_
        refine lx_pick rfl rfl rfl rfl rfl ?_
        refine lx_assign rfl rfl rfl ?_
        refine lx_nil ?_
        refine xs_drawn (E := EE []) mixed (by kernel_rfl) (by kernel_rfl) (by kernel_rfl) ?_
        refine lx_move rfl rfl rfl ?_
        refine lx_move rfl rfl rfl ?_
        refine lx_loada 7 rfl rfl Tryd.isAgg28 Tryd.sizeOf28 (by simp) rfl rfl ?_
        refine lx_callB false rfl rfl ent17 (fisZero_pure _) (decide_eq_false h0) rfl rfl ?_
        refine lx_move rfl rfl rfl ?_
        refine lx_loada 7 rfl rfl Tryd.isAgg28 Tryd.sizeOf28 (by simp) rfl rfl ?_
        refine lx_loada 7 rfl rfl Tryd.isAgg28 Tryd.sizeOf28 (by simp) rfl rfl ?_
        refine lx_call rfl rfl ent36 (finv_pure _) rfl rfl ?_
        refine lx_call rfl rfl ent31 (fmul_pure _ _) rfl rfl ?_
        refine lx_loada 10 rfl rfl Tryd.isAgg28 Tryd.sizeOf28 (by simp) rfl rfl ?_
        refine lx_callB true rfl rfl ent38 (fequal_pure _ _) (decide_eq_true (zinv h0)) rfl rfl ?_
        refine lx_pick rfl rfl rfl rfl rfl ?_
        refine lx_pick rfl rfl rfl rfl rfl ?_
        refine lx_move rfl rfl rfl ?_
        refine lx_loada 7 rfl rfl Tryd.isAgg28 Tryd.sizeOf28 (by simp) rfl rfl ?_
        refine lx_loada 8 rfl rfl Tryd.isAgg28 Tryd.sizeOf28 (by simp) rfl rfl ?_
        refine lx_call rfl rfl ent31 (fmul_pure _ _) rfl rfl ?_
        refine lx_callB true rfl rfl ent17 (fisZero_pure _) (decide_eq_true (by rw [h1]; grind)) rfl rfl ?_
        refine lx_loada 7 rfl rfl Tryd.isAgg28 Tryd.sizeOf28 (by simp) rfl rfl ?_
        refine lx_callB false rfl rfl ent17 (fisZero_pure _) (decide_eq_false h0) rfl rfl ?_
        refine lx_move rfl rfl rfl ?_
        refine lx_loada 8 rfl rfl Tryd.isAgg28 Tryd.sizeOf28 (by simp) rfl rfl ?_
        refine lx_callB true rfl rfl ent17 (fisZero_pure _) (decide_eq_true h1) rfl rfl ?_
        refine lx_pick rfl rfl rfl rfl rfl ?_
        refine lx_binB true rfl rfl (fun _ => rfl) (fun w => bin_eql_bool 4 Tryd.underlying4 _ _ w) (rfl) rfl rfl ?_
        refine lx_pick rfl rfl rfl rfl rfl ?_
        refine lx_assign rfl rfl rfl ?_
        refine lx_nil ?_
        refine x_ret ?_
        repeat (first | refine kseq_ret ?_ | refine kblk_ret ?_)
        exact kret_tmp rfl rfl (fun w hw => ⟨rfl, hp_below hw⟩)
    · skip
      refine calls_of_X (G := Gt) Tryd.func5 rfl rfl (Hp (pl w) []) (hp_refl (pl w) trivial rides_true) (good_hp hGF) ?_
      refine xs_plain (E := EE []) ?_
      refine lx_assign rfl rfl rfl ?_
      refine lx_nil ?_
      refine x_seq ?_
      refine xs_plain (E := EE []) ?_
      refine lx_callB true rfl rfl ent11 (known_pure) (rfl) rfl rfl ?_
      refine lx_un rfl (fun _ => un_not _) rfl rfl ?_
      refine lx_nil ?_
      refine x_false rfl ?_
      refine x_skip ?_
      refine x_seq ?_
      refine xs_plain (E := EE []) ?_
      refine lx_move rfl rfl rfl ?_
      refine lx_move rfl rfl rfl ?_
      refine lx_move rfl rfl rfl ?_
      refine lx_bslV 40 (SVl [(e0, bs0.length, cap0), (e1, bs1.length, cap1), (e2, bs2.length, cap2)]) hGF rfl rfl rfl (by decide) (by decide) Tryd.underlying63 Tryd.sizeOf22 Tryd.zeroValue22 rfl rfl rfl ?_
      intro b40
      refine lx_callC rfl rfl ent12 (fun w' hC hG => light_calls b40 3 [(e0, bs0.length, cap0), (e1, bs1.length, cap1), (e2, bs2.length, cap2)] rfl (by decide) w' hG (hp_row (n := 40) rfl w' hC)) rfl rfl ?_
      refine lx_un rfl (fun _ => un_not _) rfl rfl ?_
      refine lx_nil ?_
      refine x_if rfl (fun hc => ?_) (fun hc => ?_)
      · skip
        refine xs_plain (E := EE []) ?_
        refine lx_assign rfl rfl rfl ?_
        refine lx_nil ?_
        refine x_ret ?_
        repeat (first | refine kseq_ret ?_ | refine kblk_ret ?_)
        exact kret_tmp rfl rfl (fun w hw => ⟨rfl, hp_below hw⟩)
      · have hl : ∀ v ∈ [(e0, bs0.length, cap0), (e1, bs1.length, cap1), (e2, bs2.length, cap2)], v.2.1 ≤ 128 := by simpa using hc
        have hl0 : bs0.length ≤ 128 := hl (e0, bs0.length, cap0) (by simp)
        have hl1 : bs1.length ≤ 128 := hl (e1, bs1.length, cap1) (by simp)
        have hl2 : bs2.length ≤ 128 := hl (e2, bs2.length, cap2) (by simp)
        clear hc hl
        refine x_skip ?_
        refine xs_plain (E := EE []) ?_
        refine lx_move rfl rfl rfl ?_
        refine lx_callC rfl rfl ent21 (fun w' hC hG => fwide_calls e0 cap0 bs0 (by omega) hcap0 w' hG (hb0.grow (hp_below hC))) rfl rfl ?_
        refine lx_move rfl rfl rfl ?_
        refine lx_callC rfl rfl ent21 (fun w' hC hG => fwide_calls e1 cap1 bs1 (by omega) hcap1 w' hG (hb1.grow (hp_below hC))) rfl rfl ?_
        refine lx_move rfl rfl rfl ?_
        refine lx_callC rfl rfl ent21 (fun w' hC hG => fwide_calls e2 cap2 bs2 (by omega) hcap2 w' hG (hb2.grow (hp_below hC))) rfl rfl ?_
        refine lx_allocr 7 hGF zv28 rfl rfl ?_
        intro b7
        refine lx_allocr 8 hGF zv28 rfl rfl ?_
        intro b8
        refine lx_allocr 9 hGF zv28 rfl rfl ?_
        intro b9
        refine lx_storea 7 hGF rfl rfl rfl Tryd.sizeOf28 (by simp) (by simp) (one_u64 _) rfl ?_
        refine lx_storea 8 hGF rfl rfl rfl Tryd.sizeOf28 (by simp) (by simp) (one_u64 _) rfl ?_
        refine lx_storea 9 hGF rfl rfl rfl Tryd.sizeOf28 (by simp) (by simp) (one_u64 _) rfl ?_
        refine lx_nil ?_
        refine xs_plain (E := EE []) ?_
        refine lx_call rfl rfl ent24 (fof_pure _) rfl rfl ?_
        refine lx_allocr 10 hGF zv28 rfl rfl ?_
        intro b10
        refine lx_storea 10 hGF rfl rfl rfl Tryd.sizeOf28 (by simp) (by simp) (one_u64 _) rfl ?_
        refine lx_nil ?_
        refine xs_drawn (E := EE []) mixed (by kernel_rfl) (by kernel_rfl) (by kernel_rfl) ?_
        refine lx_loada 7 rfl rfl Tryd.isAgg28 Tryd.sizeOf28 (by simp) rfl rfl ?_
        refine lx_loada 8 rfl rfl Tryd.isAgg28 Tryd.sizeOf28 (by simp) rfl rfl ?_
        refine lx_call rfl rfl ent27 (fadd_pure _ _) rfl rfl ?_
        refine lx_loada 8 rfl rfl Tryd.isAgg28 Tryd.sizeOf28 (by simp) rfl rfl ?_
        refine lx_loada 7 rfl rfl Tryd.isAgg28 Tryd.sizeOf28 (by simp) rfl rfl ?_
        refine lx_call rfl rfl ent27 (fadd_pure _ _) rfl rfl ?_
        refine lx_callB true rfl rfl ent38 (fequal_pure _ _) (decide_eq_true (by grind)) rfl rfl ?_
        refine lx_move rfl rfl rfl ?_
        refine lx_loada 7 rfl rfl Tryd.isAgg28 Tryd.sizeOf28 (by simp) rfl rfl ?_
        refine lx_loada 8 rfl rfl Tryd.isAgg28 Tryd.sizeOf28 (by simp) rfl rfl ?_
        refine lx_call rfl rfl ent31 (fmul_pure _ _) rfl rfl ?_
        refine lx_loada 8 rfl rfl Tryd.isAgg28 Tryd.sizeOf28 (by simp) rfl rfl ?_
        refine lx_loada 7 rfl rfl Tryd.isAgg28 Tryd.sizeOf28 (by simp) rfl rfl ?_
        refine lx_call rfl rfl ent31 (fmul_pure _ _) rfl rfl ?_
        refine lx_callB true rfl rfl ent38 (fequal_pure _ _) (decide_eq_true (by grind)) rfl rfl ?_
        refine lx_pick rfl rfl rfl rfl rfl ?_
        refine lx_move rfl rfl rfl ?_
        refine lx_loada 7 rfl rfl Tryd.isAgg28 Tryd.sizeOf28 (by simp) rfl rfl ?_
        refine lx_loada 8 rfl rfl Tryd.isAgg28 Tryd.sizeOf28 (by simp) rfl rfl ?_
        refine lx_loada 9 rfl rfl Tryd.isAgg28 Tryd.sizeOf28 (by simp) rfl rfl ?_
        refine lx_call rfl rfl ent27 (fadd_pure _ _) rfl rfl ?_
        refine lx_call rfl rfl ent27 (fadd_pure _ _) rfl rfl ?_
        refine lx_loada 7 rfl rfl Tryd.isAgg28 Tryd.sizeOf28 (by simp) rfl rfl ?_
        refine lx_loada 8 rfl rfl Tryd.isAgg28 Tryd.sizeOf28 (by simp) rfl rfl ?_
        refine lx_call rfl rfl ent27 (fadd_pure _ _) rfl rfl ?_
        refine lx_loada 9 rfl rfl Tryd.isAgg28 Tryd.sizeOf28 (by simp) rfl rfl ?_
        refine lx_call rfl rfl ent27 (fadd_pure _ _) rfl rfl ?_
        refine lx_callB true rfl rfl ent38 (fequal_pure _ _) (decide_eq_true (by grind)) rfl rfl ?_
        refine lx_pick rfl rfl rfl rfl rfl ?_
        refine lx_move rfl rfl rfl ?_
        refine lx_loada 7 rfl rfl Tryd.isAgg28 Tryd.sizeOf28 (by simp) rfl rfl ?_
        refine lx_loada 8 rfl rfl Tryd.isAgg28 Tryd.sizeOf28 (by simp) rfl rfl ?_
        refine lx_loada 9 rfl rfl Tryd.isAgg28 Tryd.sizeOf28 (by simp) rfl rfl ?_
        refine lx_call rfl rfl ent31 (fmul_pure _ _) rfl rfl ?_
        refine lx_call rfl rfl ent31 (fmul_pure _ _) rfl rfl ?_
        refine lx_loada 7 rfl rfl Tryd.isAgg28 Tryd.sizeOf28 (by simp) rfl rfl ?_
        refine lx_loada 8 rfl rfl Tryd.isAgg28 Tryd.sizeOf28 (by simp) rfl rfl ?_
        refine lx_call rfl rfl ent31 (fmul_pure _ _) rfl rfl ?_
        refine lx_loada 9 rfl rfl Tryd.isAgg28 Tryd.sizeOf28 (by simp) rfl rfl ?_
        refine lx_call rfl rfl ent31 (fmul_pure _ _) rfl rfl ?_
        refine lx_callB true rfl rfl ent38 (fequal_pure _ _) (decide_eq_true (by grind)) rfl rfl ?_
        refine lx_pick rfl rfl rfl rfl rfl ?_
        refine lx_move rfl rfl rfl ?_
        refine lx_loada 7 rfl rfl Tryd.isAgg28 Tryd.sizeOf28 (by simp) rfl rfl ?_
        refine lx_loada 8 rfl rfl Tryd.isAgg28 Tryd.sizeOf28 (by simp) rfl rfl ?_
        refine lx_loada 9 rfl rfl Tryd.isAgg28 Tryd.sizeOf28 (by simp) rfl rfl ?_
        refine lx_call rfl rfl ent27 (fadd_pure _ _) rfl rfl ?_
        refine lx_call rfl rfl ent31 (fmul_pure _ _) rfl rfl ?_
        refine lx_loada 7 rfl rfl Tryd.isAgg28 Tryd.sizeOf28 (by simp) rfl rfl ?_
        refine lx_loada 8 rfl rfl Tryd.isAgg28 Tryd.sizeOf28 (by simp) rfl rfl ?_
        refine lx_call rfl rfl ent31 (fmul_pure _ _) rfl rfl ?_
        refine lx_loada 7 rfl rfl Tryd.isAgg28 Tryd.sizeOf28 (by simp) rfl rfl ?_
        refine lx_loada 9 rfl rfl Tryd.isAgg28 Tryd.sizeOf28 (by simp) rfl rfl ?_
        refine lx_call rfl rfl ent31 (fmul_pure _ _) rfl rfl ?_
        refine lx_call rfl rfl ent27 (fadd_pure _ _) rfl rfl ?_
        refine lx_callB true rfl rfl ent38 (fequal_pure _ _) (decide_eq_true (by grind)) rfl rfl ?_
        refine lx_pick rfl rfl rfl rfl rfl ?_
        refine lx_move rfl rfl rfl ?_
        refine lx_loada 7 rfl rfl Tryd.isAgg28 Tryd.sizeOf28 (by simp) rfl rfl ?_
        refine lx_loada 8 rfl rfl Tryd.isAgg28 Tryd.sizeOf28 (by simp) rfl rfl ?_
        refine lx_call rfl rfl ent29 (fsub_pure _ _) rfl rfl ?_
        refine lx_loada 8 rfl rfl Tryd.isAgg28 Tryd.sizeOf28 (by simp) rfl rfl ?_
        refine lx_call rfl rfl ent27 (fadd_pure _ _) rfl rfl ?_
        refine lx_loada 7 rfl rfl Tryd.isAgg28 Tryd.sizeOf28 (by simp) rfl rfl ?_
        refine lx_callB true rfl rfl ent38 (fequal_pure _ _) (decide_eq_true (by grind)) rfl rfl ?_
        refine lx_pick rfl rfl rfl rfl rfl ?_
        refine lx_move rfl rfl rfl ?_
        refine lx_loada 7 rfl rfl Tryd.isAgg28 Tryd.sizeOf28 (by simp) rfl rfl ?_
        refine lx_loada 7 rfl rfl Tryd.isAgg28 Tryd.sizeOf28 (by simp) rfl rfl ?_
        refine lx_call rfl rfl ent34 (fneg_pure _) rfl rfl ?_
        refine lx_call rfl rfl ent27 (fadd_pure _ _) rfl rfl ?_
        refine lx_callB true rfl rfl ent17 (fisZero_pure _) (decide_eq_true (by grind)) rfl rfl ?_
        refine lx_pick rfl rfl rfl rfl rfl ?_
        refine lx_move rfl rfl rfl ?_
        refine lx_loada 7 rfl rfl Tryd.isAgg28 Tryd.sizeOf28 (by simp) rfl rfl ?_
        refine lx_loada 10 rfl rfl Tryd.isAgg28 Tryd.sizeOf28 (by simp) rfl rfl ?_
        refine lx_call rfl rfl ent31 (fmul_pure _ _) rfl rfl ?_
        refine lx_loada 7 rfl rfl Tryd.isAgg28 Tryd.sizeOf28 (by simp) rfl rfl ?_
        refine lx_callB true rfl rfl ent38 (fequal_pure _ _) (decide_eq_true (by rw [show zp (1#64).toNat = 1 from rfl]; grind)) rfl rfl ?_
        refine lx_pick rfl rfl rfl rfl rfl ?_
        refine lx_assign rfl rfl rfl ?_
        refine lx_nil ?_
        refine xs_drawn (E := EE []) mixed (by kernel_rfl) (by kernel_rfl) (by kernel_rfl) ?_
        refine lx_move rfl rfl rfl ?_
        refine lx_move rfl rfl rfl ?_
        refine lx_loada 7 rfl rfl Tryd.isAgg28 Tryd.sizeOf28 (by simp) rfl rfl ?_
        refine lx_callB false rfl rfl ent17 (fisZero_pure _) (decide_eq_false h0) rfl rfl ?_
        refine lx_move rfl rfl rfl ?_
        refine lx_loada 7 rfl rfl Tryd.isAgg28 Tryd.sizeOf28 (by simp) rfl rfl ?_
        refine lx_loada 7 rfl rfl Tryd.isAgg28 Tryd.sizeOf28 (by simp) rfl rfl ?_
        refine lx_call rfl rfl ent36 (finv_pure _) rfl rfl ?_
        refine lx_call rfl rfl ent31 (fmul_pure _ _) rfl rfl ?_
        refine lx_loada 10 rfl rfl Tryd.isAgg28 Tryd.sizeOf28 (by simp) rfl rfl ?_
        refine lx_callB true rfl rfl ent38 (fequal_pure _ _) (decide_eq_true (zinv h0)) rfl rfl ?_
        refine lx_pick rfl rfl rfl rfl rfl ?_
        refine lx_pick rfl rfl rfl rfl rfl ?_
        refine lx_move rfl rfl rfl ?_
        refine lx_loada 7 rfl rfl Tryd.isAgg28 Tryd.sizeOf28 (by simp) rfl rfl ?_
        refine lx_loada 8 rfl rfl Tryd.isAgg28 Tryd.sizeOf28 (by simp) rfl rfl ?_
        refine lx_call rfl rfl ent31 (fmul_pure _ _) rfl rfl ?_
        refine lx_callB false rfl rfl ent17 (fisZero_pure _) (decide_eq_false (fun h => (zmul0 h).elim h0 h1)) rfl rfl ?_
        refine lx_loada 7 rfl rfl Tryd.isAgg28 Tryd.sizeOf28 (by simp) rfl rfl ?_
        refine lx_callB false rfl rfl ent17 (fisZero_pure _) (decide_eq_false h0) rfl rfl ?_
        refine lx_move rfl rfl rfl ?_
        refine lx_loada 8 rfl rfl Tryd.isAgg28 Tryd.sizeOf28 (by simp) rfl rfl ?_
        refine lx_callB false rfl rfl ent17 (fisZero_pure _) (decide_eq_false h1) rfl rfl ?_
        refine lx_pick rfl rfl rfl rfl rfl ?_
        refine lx_binB true rfl rfl (fun _ => rfl) (fun w => bin_eql_bool 4 Tryd.underlying4 _ _ w) (rfl) rfl rfl ?_
        refine lx_pick rfl rfl rfl rfl rfl ?_
        refine lx_assign rfl rfl rfl ?_
        refine lx_nil ?_
        refine x_ret ?_
        repeat (first | refine kseq_ret ?_ | refine kblk_ret ?_)
        exact kret_tmp rfl rfl (fun w hw => ⟨rfl, hp_below hw⟩)
end Go.Proofs.YthgoggiiabaccaaDoor
