/-
  The law G2Affine.
-/
import Derived.Test.YtfknmeefbccflaaGreatDoorV4
namespace Go.Proofs.YtfknmeefbccflaaGreatDoor
open Go.RowKit
set_option maxRecDepth 100000
set_option maxHeartbeats 1000000
attribute [local simp] fe_len nm_len AS_len SS_len MONT_len RM_len FRs_len BYs_len by48_len PLl TWOl ONEl N1l IVPl HFPl RTPl FL_len SP_len fe2_len SP2_len FM_len GL_len

theorem on_y {a b : W2} (h : ml2 b b = RS4 a) : decide (ml2 b b = ad2 (ml2 (ml2 a a) a) E2w.b) = true := decide_eq_true h
theorem on_n {a b : W2} (h : ¬ ml2 b b = RS4 a) : decide (ml2 b b = ad2 (ml2 (ml2 a a) a) E2w.b) = false := decide_eq_false h
theorem aff_ne {a b : W2} (h : ml2 b b = RS4 a) : ¬ (gAff a b h).P = none := fun e => by cases e
theorem affine8 (e0 : Option Addr) (cap0 : Nat) (bs0 : List (BitVec 8)) (hcap0 : bs0.length ≤ cap0) (e1 : Option Addr) (cap1 : Nat) (bs1 : List (BitVec 8)) (hcap1 : bs1.length ≤ cap1) (w : World) (hw : Gt w) (hb0 : BytesAt w e0 bs0) (hb1 : BytesAt w e1 bs1) :
    Calls Tryz.prog 3 [.slice e0 bs0.length cap0, .slice e1 bs1.length cap1].toArray w (fun r w' => r = .returned (.bool true) ∧ Grow w w') := by
  have hGF : BOk Gt (pl w) := gt_low.plain hw
  by_cases hL : ∀ v ∈ [(e0, bs0.length, cap0), (e1, bs1.length, cap1)], v.2.1 ≤ 100
  · skip
    have hl0 : bs0.length ≤ 100 := hL (e0, bs0.length, cap0) (by simp)
    have hl1 : bs1.length ≤ 100 := hL (e1, bs1.length, cap1) (by simp)
    by_cases hq : ml2 (NUM bs1) (NUM bs1) = RS4 (NUM bs0)
    · skip
      refine calls_of_X (G := Gt) Tryz.func3 rfl rfl (Hp (pl w) []) (hp_refl (pl w) trivial rides_true) (good_hp hGF) ?_
      refine xs_plain (E := EE []) ?_
      refine lx_assign rfl rfl rfl ?_
      refine lx_nil ?_
      refine x_seq ?_
      refine xs_plain (E := EE []) ?_
      refine lx_callB true rfl rfl ent10 (known8) (rfl) rfl rfl ?_
      refine lx_un rfl (fun _ => un_not _) rfl rfl ?_
      refine lx_nil ?_
      refine x_false rfl ?_
      refine x_skip ?_
      refine x_seq ?_
      refine xs_plain (E := EE []) ?_
      refine lx_move rfl rfl rfl ?_
      refine lx_move rfl rfl rfl ?_
      refine lx_bslV 940 (SVl [(e0, bs0.length, cap0), (e1, bs1.length, cap1)]) hGF rfl rfl rfl (by decide) (by decide) Tryz.underlying82 Tryz.sizeOf22 Tryz.zeroValue22 rfl rfl rfl ?_
      intro b940
      refine lx_callC rfl rfl ent11 (fun w' hC hG => light_t b940 2 [(e0, bs0.length, cap0), (e1, bs1.length, cap1)] rfl (by decide) hL w' hG (hp_row (n := 940) rfl w' hC)) rfl rfl ?_
      refine lx_un rfl (fun _ => un_not _) rfl rfl ?_
      refine lx_nil ?_
      refine x_false rfl ?_
      refine x_skip ?_
      refine xs_plain (E := EE []) ?_
      refine lx_move rfl rfl rfl ?_
      refine lx_callC rfl rfl ent12 (fun w' hC hG => num_calls e0 cap0 bs0 (by omega) hcap0 w' hG (hb0.grow (hp_below hC))) rfl rfl ?_
      refine lx_move rfl rfl rfl ?_
      refine lx_callC rfl rfl ent12 (fun w' hC hG => num_calls e1 cap1 bs1 (by omega) hcap1 w' hG (hb1.grow (hp_below hC))) rfl rfl ?_
      refine lx_allocr 5 hGF zv30 rfl rfl ?_
      intro b5
      refine lx_allocr 6 hGF zv30 rfl rfl ?_
      intro b6
      refine lx_storea 5 hGF rfl rfl rfl Tryz.sizeOf30 (by simp) (by simp) (one_u64 _) rfl ?_
      refine lx_storea 6 hGF rfl rfl rfl Tryz.sizeOf30 (by simp) (by simp) (one_u64 _) rfl ?_
      refine lx_nil ?_
      refine xs_plain (E := EE []) ?_
      refine lx_loada 5 rfl rfl Tryz.isAgg30 Tryz.sizeOf30 (by simp) rfl rfl ?_
      refine lx_loada 6 rfl rfl Tryz.isAgg30 Tryz.sizeOf30 (by simp) rfl rfl ?_
      refine lx_call rfl rfl ent13 (aff_y _ _ hq) rfl rfl ?_
      refine lx_move rfl rfl rfl ?_
      refine lx_ext rfl rfl rfl rfl ?_
      refine lx_ext rfl rfl rfl rfl ?_
      refine lx_allocr 7 hGF zv33 rfl rfl ?_
      intro b7
      refine lx_storea 7 hGF rfl rfl rfl Tryz.sizeOf33 (by simp) (by simp) (one_u64 _) rfl ?_
      refine lx_assign rfl rfl rfl ?_
      refine lx_nil ?_
      refine x_seq ?_
      refine xs_drawn (E := EE []) mixed (by kernel_rfl) (by kernel_rfl) (by kernel_rfl) ?_
      refine lx_move rfl rfl rfl ?_
      refine lx_loada 5 rfl rfl Tryz.isAgg30 Tryz.sizeOf30 (by simp) rfl rfl ?_
      refine lx_call rfl rfl ent15 (ref8 _) rfl rfl ?_
      refine lx_loada 6 rfl rfl Tryz.isAgg30 Tryz.sizeOf30 (by simp) rfl rfl ?_
      refine lx_call rfl rfl ent15 (ref8 _) rfl rfl ?_
      refine lx_callB true rfl rfl ent14 (r9on1 _ _) (on_y hq) rfl rfl ?_
      refine lx_binB false rfl rfl (fun _ => rfl) (fun w => bin_neq_bool 4 Tryz.underlying4 _ _ w) (rfl) rfl rfl ?_
      refine lx_nil ?_
      refine x_false rfl ?_
      refine x_skip ?_
      refine x_seq ?_
      refine xs_plain (E := EE []) ?_
      refine lx_move rfl rfl rfl ?_
      refine lx_un rfl (fun _ => un_not _) rfl rfl ?_
      refine lx_nil ?_
      refine x_false rfl ?_
      refine x_skip ?_
      refine xs_plain (E := EE []) ?_
      refine lx_loada 7 rfl rfl Tryz.isAgg33 Tryz.sizeOf33 (by simp) rfl rfl ?_
      refine lx_call rfl rfl ent17 (xy_s _ (aff_ne hq)) rfl rfl ?_
      refine lx_move rfl rfl rfl ?_
      refine lx_ext rfl rfl rfl rfl ?_
      refine lx_ext rfl rfl rfl rfl ?_
      refine lx_ext rfl rfl rfl rfl ?_
      refine lx_allocr 9 hGF zv30 rfl rfl ?_
      intro b9
      refine lx_allocr 10 hGF zv30 rfl rfl ?_
      intro b10
      refine lx_storea 9 hGF rfl rfl rfl Tryz.sizeOf30 (by simp) (by simp) (one_u64 _) rfl ?_
      refine lx_storea 10 hGF rfl rfl rfl Tryz.sizeOf30 (by simp) (by simp) (one_u64 _) rfl ?_
      refine lx_assign rfl rfl rfl ?_
      refine lx_nil ?_
      refine xs_plain (E := EE []) ?_
      refine lx_move rfl rfl rfl ?_
      refine lx_move rfl rfl rfl ?_
      refine lx_loada 9 rfl rfl Tryz.isAgg30 Tryz.sizeOf30 (by simp) rfl rfl ?_
      refine lx_loada 5 rfl rfl Tryz.isAgg30 Tryz.sizeOf30 (by simp) rfl rfl ?_
      refine lx_callB true rfl rfl ent18 (e2equal _ _) (decide_eq_true rfl) rfl rfl ?_
      refine lx_pick rfl rfl rfl rfl rfl ?_
      refine lx_move rfl rfl rfl ?_
      refine lx_loada 10 rfl rfl Tryz.isAgg30 Tryz.sizeOf30 (by simp) rfl rfl ?_
      refine lx_loada 6 rfl rfl Tryz.isAgg30 Tryz.sizeOf30 (by simp) rfl rfl ?_
      refine lx_callB true rfl rfl ent18 (e2equal _ _) (decide_eq_true rfl) rfl rfl ?_
      refine lx_pick rfl rfl rfl rfl rfl ?_
      refine lx_move rfl rfl rfl ?_
      refine lx_loada 7 rfl rfl Tryz.isAgg33 Tryz.sizeOf33 (by simp) rfl rfl ?_
      refine lx_callB true rfl rfl ent19 (on8 _) (rfl) rfl rfl ?_
      refine lx_pick rfl rfl rfl rfl rfl ?_
      refine lx_assign rfl rfl rfl ?_
      refine lx_nil ?_
      refine x_ret ?_
      repeat (first | refine kseq_ret ?_ | refine kblk_ret ?_)
      exact kret_tmp rfl rfl (fun w hw => ⟨rfl, hp_below hw⟩)
    · skip
      refine calls_of_X (G := Gt) Tryz.func3 rfl rfl (Hp (pl w) []) (hp_refl (pl w) trivial rides_true) (good_hp hGF) ?_
      refine xs_plain (E := EE []) ?_
      refine lx_assign rfl rfl rfl ?_
      refine lx_nil ?_
      refine x_seq ?_
      refine xs_plain (E := EE []) ?_
      refine lx_callB true rfl rfl ent10 (known8) (rfl) rfl rfl ?_
      refine lx_un rfl (fun _ => un_not _) rfl rfl ?_
      refine lx_nil ?_
      refine x_false rfl ?_
      refine x_skip ?_
      refine x_seq ?_
      refine xs_plain (E := EE []) ?_
      refine lx_move rfl rfl rfl ?_
      refine lx_move rfl rfl rfl ?_
      refine lx_bslV 940 (SVl [(e0, bs0.length, cap0), (e1, bs1.length, cap1)]) hGF rfl rfl rfl (by decide) (by decide) Tryz.underlying82 Tryz.sizeOf22 Tryz.zeroValue22 rfl rfl rfl ?_
      intro b940
      refine lx_callC rfl rfl ent11 (fun w' hC hG => light_t b940 2 [(e0, bs0.length, cap0), (e1, bs1.length, cap1)] rfl (by decide) hL w' hG (hp_row (n := 940) rfl w' hC)) rfl rfl ?_
      refine lx_un rfl (fun _ => un_not _) rfl rfl ?_
      refine lx_nil ?_
      refine x_false rfl ?_
      refine x_skip ?_
      refine xs_plain (E := EE []) ?_
      refine lx_move rfl rfl rfl ?_
      refine lx_callC rfl rfl ent12 (fun w' hC hG => num_calls e0 cap0 bs0 (by omega) hcap0 w' hG (hb0.grow (hp_below hC))) rfl rfl ?_
      refine lx_move rfl rfl rfl ?_
      refine lx_callC rfl rfl ent12 (fun w' hC hG => num_calls e1 cap1 bs1 (by omega) hcap1 w' hG (hb1.grow (hp_below hC))) rfl rfl ?_
      refine lx_allocr 5 hGF zv30 rfl rfl ?_
      intro b5
      refine lx_allocr 6 hGF zv30 rfl rfl ?_
      intro b6
      refine lx_storea 5 hGF rfl rfl rfl Tryz.sizeOf30 (by simp) (by simp) (one_u64 _) rfl ?_
      refine lx_storea 6 hGF rfl rfl rfl Tryz.sizeOf30 (by simp) (by simp) (one_u64 _) rfl ?_
      refine lx_nil ?_
      refine xs_plain (E := EE []) ?_
      refine lx_loada 5 rfl rfl Tryz.isAgg30 Tryz.sizeOf30 (by simp) rfl rfl ?_
      refine lx_loada 6 rfl rfl Tryz.isAgg30 Tryz.sizeOf30 (by simp) rfl rfl ?_
      refine lx_call rfl rfl ent13 (aff_n _ _ hq) rfl rfl ?_
      refine lx_move rfl rfl rfl ?_
      refine lx_ext rfl rfl rfl rfl ?_
      refine lx_ext rfl rfl rfl rfl ?_
      refine lx_allocr 7 hGF zv33 rfl rfl ?_
      intro b7
      refine lx_storea 7 hGF rfl rfl rfl Tryz.sizeOf33 (by simp) (by simp) (one_u64 _) rfl ?_
      refine lx_assign rfl rfl rfl ?_
      refine lx_nil ?_
      refine x_seq ?_
      refine xs_drawn (E := EE []) mixed (by kernel_rfl) (by kernel_rfl) (by kernel_rfl) ?_
      refine lx_move rfl rfl rfl ?_
      refine lx_loada 5 rfl rfl Tryz.isAgg30 Tryz.sizeOf30 (by simp) rfl rfl ?_
      refine lx_call rfl rfl ent15 (ref8 _) rfl rfl ?_
      refine lx_loada 6 rfl rfl Tryz.isAgg30 Tryz.sizeOf30 (by simp) rfl rfl ?_
      refine lx_call rfl rfl ent15 (ref8 _) rfl rfl ?_
      refine lx_callB false rfl rfl ent14 (r9on1 _ _) (on_n hq) rfl rfl ?_
      refine lx_binB false rfl rfl (fun _ => rfl) (fun w => bin_neq_bool 4 Tryz.underlying4 _ _ w) (rfl) rfl rfl ?_
      refine lx_nil ?_
      refine x_false rfl ?_
      refine x_skip ?_
      refine x_seq ?_
      refine xs_plain (E := EE []) ?_
      refine lx_move rfl rfl rfl ?_
      refine lx_un rfl (fun _ => un_not _) rfl rfl ?_
      refine lx_nil ?_
      refine x_true rfl ?_
      refine xs_plain (E := EE []) ?_
      refine lx_loada 7 rfl rfl Tryz.isAgg33 Tryz.sizeOf33 (by simp) rfl rfl ?_
      refine lx_callB true rfl rfl ent16 (isInf_p _) (decide_eq_true rfl) rfl rfl ?_
      refine lx_assign rfl rfl rfl ?_
      refine lx_nil ?_
      refine x_ret ?_
      repeat (first | refine kseq_ret ?_ | refine kblk_ret ?_)
      exact kret_tmp rfl rfl (fun w hw => ⟨rfl, hp_below hw⟩)
  · skip
    refine calls_of_X (G := Gt) Tryz.func3 rfl rfl (Hp (pl w) []) (hp_refl (pl w) trivial rides_true) (good_hp hGF) ?_
    refine xs_plain (E := EE []) ?_
    refine lx_assign rfl rfl rfl ?_
    refine lx_nil ?_
    refine x_seq ?_
    refine xs_plain (E := EE []) ?_
    refine lx_callB true rfl rfl ent10 (known8) (rfl) rfl rfl ?_
    refine lx_un rfl (fun _ => un_not _) rfl rfl ?_
    refine lx_nil ?_
    refine x_false rfl ?_
    refine x_skip ?_
    refine x_seq ?_
    refine xs_plain (E := EE []) ?_
    refine lx_move rfl rfl rfl ?_
    refine lx_move rfl rfl rfl ?_
    refine lx_bslV 940 (SVl [(e0, bs0.length, cap0), (e1, bs1.length, cap1)]) hGF rfl rfl rfl (by decide) (by decide) Tryz.underlying82 Tryz.sizeOf22 Tryz.zeroValue22 rfl rfl rfl ?_
    intro b940
    refine lx_callC rfl rfl ent11 (fun w' hC hG => light_f b940 2 [(e0, bs0.length, cap0), (e1, bs1.length, cap1)] rfl (by decide) hL w' hG (hp_row (n := 940) rfl w' hC)) rfl rfl ?_
    refine lx_un rfl (fun _ => un_not _) rfl rfl ?_
    refine lx_nil ?_
    refine x_true rfl ?_
    refine xs_plain (E := EE []) ?_
    refine lx_assign rfl rfl rfl ?_
    refine lx_nil ?_
    refine x_ret ?_
    repeat (first | refine kseq_ret ?_ | refine kblk_ret ?_)
    exact kret_tmp rfl rfl (fun w hw => ⟨rfl, hp_below hw⟩)
end Go.Proofs.YtfknmeefbccflaaGreatDoor
