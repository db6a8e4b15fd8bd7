/-
  The law Fp2Powers.
-/
import Derived.Test.YtceogjapiphokaaDoorXA
import Derived.Test.YtceogjapiphokaaDoorX3
namespace Go.Proofs.YtceogjapiphokaaDoor
open Go.RowKit
set_option maxRecDepth 100000
set_option maxHeartbeats 1000000
attribute [local simp] fe_len nm_len AS_len SS_len MONT_len RM_len FRs_len BYs_len by48_len PLl TWOl ONEl N1l IVPl HFPl RTPl FL_len SP_len fe2_len SP2_len FM_len

/-- The base class, and one variable more. -/
def Gp (b : Nat) (cs : List Value) : Cls := fun w => Gt w ∧ w.rangeAt b 0 cs
theorem gp_le {b : Nat} {cs : List Value} : ∀ w, Gp b cs w → Gt w := fun _ h => h.1
theorem gp_ok {b : Nat} {cs : List Value} {w1 : World} (hw : Gt w1) (h : w1.rangeAt b 0 cs) : BOk (Gp b cs) (pl w1) := ⟨fun L Y w' h' => ⟨(gt_low.plain hw).g L Y w' h', hp_oldrange h (fun h => h) w' h'⟩, rides_true⟩
theorem light1_y (b : Nat) (e : Option Addr) (n c : Nat) (h : n ≤ 200) (w : World) (hw : Gt w) (ho : w.rangeAt b 0 (SVl [(e, n, c)])) :
    Calls Tryd.prog 10 [.slice (some ⟨b, 0, none⟩) 1 1].toArray w (fun r w' => r = .returned (.bool true) ∧ Grow w w') := by
  have h' := light_calls b 1 [(e, n, c)] rfl (by decide) w hw ho
  rw [decide_eq_true (fun v hv => by rw [List.mem_singleton] at hv; rw [hv]; exact h)] at h'
  exact h'
theorem light1_n (b : Nat) (e : Option Addr) (n c : Nat) (h : ¬ n ≤ 200) (w : World) (hw : Gt w) (ho : w.rangeAt b 0 (SVl [(e, n, c)])) :
    Calls Tryd.prog 10 [.slice (some ⟨b, 0, none⟩) 1 1].toArray w (fun r w' => r = .returned (.bool false) ∧ Grow w w') := by
  have h' := light_calls b 1 [(e, n, c)] rfl (by decide) w hw ho
  rw [decide_eq_false (fun hv => h (hv (e, n, c) (by simp)))] at h'
  exact h'
theorem pow_nil (x : W2) (w : World) (hw : Gt w) : Calls Tryd.prog 39 [EV2 x, .slice none 0 0].toArray w (fun r w' => r = .returned (EV2 on2) ∧ Grow w w') := by
  have h := e2pow_calls x none 0 [] (by decide) w hw (bytes_nil _ _)
  rw [show BN [] ([] : List (BitVec 8)).length = 0 from rfl, pw2_0] at h
  exact h
theorem pw2_two (x : W2) : pw2 x 2 = ml2 x x := by
  rw [pw2_s, pw2_s, pw2_0, show ml2 on2 x = x from R2.one_mul x]
theorem pow_two (x : W2) (b c : Nat) (w : World) (hw : Gt w) (h : w.rangeAt b 0 ([2#8].map U8)) : Calls Tryd.prog 39 [EV2 x, .slice (some ⟨b, 0, none⟩) 1 c].toArray w (fun r w' => r = .returned (EV2 (ml2 x x)) ∧ Grow w w') := by
  have h := e2pow_calls x (some ⟨b, 0, none⟩) c [2#8] (by decide) w hw (BytesAt.range h)
  rw [show BN [2#8] ([2#8] : List (BitVec 8)).length = 2 from rfl, pw2_two] at h
  exact h
theorem powers5 (e0 : Option Addr) (cap0 : Nat) (bs0 : List (BitVec 8)) (hcap0 : bs0.length ≤ cap0) (e1 : Option Addr) (cap1 : Nat) (bs1 : List (BitVec 8)) (w : World) (hw : Gt w) (hb0 : BytesAt w e0 bs0) (hb1 : BytesAt w e1 bs1) :
    Calls Tryd.prog 5 [.slice e0 bs0.length cap0, .slice e1 bs1.length cap1].toArray w (fun r w' => r = .returned (.bool true) ∧ Grow w w') := by
  have hGF : BOk Gt (pl w) := gt_low.plain hw
  by_cases h0 : bs0.length ≤ 200
  · by_cases h1 : bs1.length ≤ 60
    · skip
      refine calls_of_X (G := Gt) Tryd.func5 rfl rfl (Hp (pl w) []) (hp_refl (pl w) trivial rides_true) (good_hp hGF) ?_
      refine xs_plain (E := EE []) ?_
      refine lx_assign rfl rfl rfl ?_
      refine lx_nil ?_
      refine x_seq ?_
      refine xs_plain (E := EE []) ?_
      refine lx_callB true rfl rfl ent9 (known5) (rfl) rfl rfl ?_
      refine lx_un rfl (fun _ => un_not _) rfl rfl ?_
      refine lx_nil ?_
      refine x_false rfl ?_
      refine x_skip ?_
      refine x_seq ?_
      refine xs_plain (E := EE []) ?_
      refine lx_move rfl rfl rfl ?_
      refine lx_bslV 940 (SVl [(e0, bs0.length, cap0)]) hGF rfl rfl rfl (by decide) (by decide) Tryd.underlying65 Tryd.sizeOf22 Tryd.zeroValue22 rfl rfl rfl ?_
      intro b940
      refine lx_callC rfl rfl ent10 (fun w' hC hG => light1_y b940 e0 bs0.length cap0 h0 w' hG (hp_row (n := 940) rfl w' hC)) rfl rfl ?_
      refine lx_un rfl (fun _ => un_not _) rfl rfl ?_
      refine lx_move rfl rfl rfl ?_
      refine lx_move rfl rfl rfl ?_
      refine lx_len rfl (fun _ => len_slice Tryd.underlying22 _ _ _ _) rfl rfl ?_
      refine lx_binB false rfl rfl (fun _ => rfl) (fun _ => bin_gtr_i _ _ _) (decide_eq_false (by omega)) rfl rfl ?_
      refine lx_pick rfl rfl rfl rfl rfl ?_
      refine lx_nil ?_
      refine x_false rfl ?_
      refine x_skip ?_
      refine xs_plain (E := EE []) ?_
      refine lx_move rfl rfl rfl ?_
      refine lx_callC rfl rfl ent11 (fun w' hC hG => num_calls e0 cap0 bs0 (by omega) hcap0 w' hG (hb0.grow (hp_below hC))) rfl rfl ?_
      refine lx_allocr 5 hGF zv30 rfl rfl ?_
      intro b5
      refine lx_storea 5 hGF rfl rfl rfl Tryd.sizeOf30 (by simp) (by simp) (one_u64 _) rfl ?_
      refine lx_nil ?_
      refine x_here (G' := Gp b5 ((fe (NUM bs0).1 ++ fe (NUM bs0).2).map U64)) gp_le (fun w1 h1 => gp_ok (hGF.g _ _ _ h1) (hp_row (n := 5) rfl w1 h1)) ?_
      intro w1 hw1
      have hGP : BOk (Gp b5 ((fe (NUM bs0).1 ++ fe (NUM bs0).2).map U64)) (pl w1) := gp_ok (hGF.g _ _ _ hw1) (hp_row (n := 5) rfl w1 hw1)
      have hb1' := hb1.grow (hp_below hw1)
      refine xs_tree (EE []) mixed (by kernel_rfl) (by kernel_rfl) ?_
      refine tr_pre (m := 8) [0, 1, 2, 3, 4, 5, 6, 7, 8, 9, 10, 11, 12, 13, 14] (by kernel_rfl) ?_
      refine lx_loadr rfl Tryd.isAgg30 Tryd.sizeOf30 (by simp) (fun w' h => (hGP.g _ _ w' h).2) rfl rfl ?_
      refine lx_move rfl rfl rfl ?_
      refine lx_callC rfl rfl ent39 (fun w' hC hG => e2pow_calls _ e1 cap1 bs1 (by omega) w' hG.1 (hb1'.grow (hp_below hC))) rfl rfl ?_
      refine lx_loadr rfl Tryd.isAgg30 Tryd.sizeOf30 (by simp) (fun w' h => (hGP.g _ _ w' h).2) rfl rfl ?_
      refine lx_call rfl rfl ent12 (Pure.sub (ref5 _) gp_le) rfl rfl ?_
      refine lx_move rfl rfl rfl ?_
      refine lx_callC rfl rfl ent40 (fun w' hC hG => r5pow_calls _ e1 cap1 bs1 (by omega) w' hG.1 (hb1'.grow (hp_below hC))) rfl rfl ?_
      refine lx_callB true rfl rfl ent15 (Pure.sub (same5 _ _) gp_le) (decide_eq_true rfl) rfl rfl ?_
      refine lx_move rfl rfl rfl ?_
      refine lx_loadr rfl Tryd.isAgg30 Tryd.sizeOf30 (by simp) (fun w' h => (hGP.g _ _ w' h).2) rfl rfl ?_
      refine lx_callC rfl rfl ent39 (fun w' hC hG => pow_nil _ w' hG.1) rfl rfl ?_
      refine lx_call rfl rfl ent38 (Pure.sub (e2one) gp_le) rfl rfl ?_
      refine lx_callB true rfl rfl ent33 (Pure.sub (e2equal _ _) gp_le) (decide_eq_true rfl) rfl rfl ?_
      refine lx_pick rfl rfl rfl rfl rfl ?_
      refine lx_move rfl rfl rfl ?_
      refine lx_nil ?_
      refine tr_read (m := 7) 15 _ rfl rfl (by kernel_rfl) (by kernel_rfl) rfl (yields_row rfl rfl Tryd.isAgg30 Tryd.sizeOf30 (by simp) (fun _ h => h.2) rfl) ?_
      refine tr_read (m := 6) 18 _ rfl rfl (by kernel_rfl) (by kernel_rfl) rfl (yields_row rfl rfl Tryd.isAgg30 Tryd.sizeOf30 (by simp) (fun _ h => h.2) rfl) ?_
      refine tr_pre (m := 0) [16, 17, 19, 20, 21, 22] (by kernel_rfl) ?_
      refine lx_bsl 35 [2#8] hGP rfl rfl rfl (by decide) (by decide) Tryd.underlying22 Tryd.sizeOf5 Tryd.zeroValue5 rfl rfl ?_
      intro b35
      refine lx_callC rfl rfl ent39 (fun w' hC hG => pow_two _ _ _ w' hG.1 (hp_row (n := 35) rfl w' hC)) rfl rfl ?_
      refine lx_call rfl rfl ent26 (Pure.sub (e2square _) gp_le) rfl rfl ?_
      refine lx_callB true rfl rfl ent33 (Pure.sub (e2equal _ _) gp_le) (decide_eq_true rfl) rfl rfl ?_
      refine lx_pick rfl rfl rfl rfl rfl ?_
      refine lx_assign rfl rfl rfl ?_
      refine lx_nil ?_
      refine tr_nil (by kernel_rfl) ?_
      refine kseq_n ?_
      refine x_ret ?_
      repeat (first | refine kseq_ret ?_ | refine kblk_ret ?_)
      exact kret_tmp rfl rfl (fun w hw => ⟨rfl, (hp_below hw1).trans (hp_below hw)⟩)
    · skip
      refine calls_of_X (G := Gt) Tryd.func5 rfl rfl (Hp (pl w) []) (hp_refl (pl w) trivial rides_true) (good_hp hGF) ?_
      refine xs_plain (E := EE []) ?_
      refine lx_assign rfl rfl rfl ?_
      refine lx_nil ?_
      refine x_seq ?_
      refine xs_plain (E := EE []) ?_
      refine lx_callB true rfl rfl ent9 (known5) (rfl) rfl rfl ?_
      refine lx_un rfl (fun _ => un_not _) rfl rfl ?_
      refine lx_nil ?_
      refine x_false rfl ?_
      refine x_skip ?_
      refine x_seq ?_
      refine xs_plain (E := EE []) ?_
      refine lx_move rfl rfl rfl ?_
      refine lx_bslV 940 (SVl [(e0, bs0.length, cap0)]) hGF rfl rfl rfl (by decide) (by decide) Tryd.underlying65 Tryd.sizeOf22 Tryd.zeroValue22 rfl rfl rfl ?_
      intro b940
      refine lx_callC rfl rfl ent10 (fun w' hC hG => light1_y b940 e0 bs0.length cap0 h0 w' hG (hp_row (n := 940) rfl w' hC)) rfl rfl ?_
      refine lx_un rfl (fun _ => un_not _) rfl rfl ?_
      refine lx_move rfl rfl rfl ?_
      refine lx_move rfl rfl rfl ?_
      refine lx_len rfl (fun _ => len_slice Tryd.underlying22 _ _ _ _) rfl rfl ?_
      refine lx_binB true rfl rfl (fun _ => rfl) (fun _ => bin_gtr_i _ _ _) (decide_eq_true (by omega)) rfl rfl ?_
      refine lx_pick rfl rfl rfl rfl rfl ?_
      refine lx_nil ?_
      refine x_true rfl ?_
      refine xs_plain (E := EE []) ?_
      refine lx_assign rfl rfl rfl ?_
      refine lx_nil ?_
      refine x_ret ?_
      repeat (first | refine kseq_ret ?_ | refine kblk_ret ?_)
      exact kret_tmp rfl rfl (fun w hw => ⟨rfl, hp_below hw⟩)
  · skip
    refine calls_of_X (G := Gt) Tryd.func5 rfl rfl (Hp (pl w) []) (hp_refl (pl w) trivial rides_true) (good_hp hGF) ?_
    refine xs_plain (E := EE []) ?_
    refine lx_assign rfl rfl rfl ?_
    refine lx_nil ?_
    refine x_seq ?_
    refine xs_plain (E := EE []) ?_
    refine lx_callB true rfl rfl ent9 (known5) (rfl) rfl rfl ?_
    refine lx_un rfl (fun _ => un_not _) rfl rfl ?_
    refine lx_nil ?_
    refine x_false rfl ?_
    refine x_skip ?_
    refine x_seq ?_
    refine xs_plain (E := EE []) ?_
    refine lx_move rfl rfl rfl ?_
    refine lx_bslV 940 (SVl [(e0, bs0.length, cap0)]) hGF rfl rfl rfl (by decide) (by decide) Tryd.underlying65 Tryd.sizeOf22 Tryd.zeroValue22 rfl rfl rfl ?_
    intro b940
    refine lx_callC rfl rfl ent10 (fun w' hC hG => light1_n b940 e0 bs0.length cap0 h0 w' hG (hp_row (n := 940) rfl w' hC)) rfl rfl ?_
    refine lx_un rfl (fun _ => un_not _) rfl rfl ?_
    refine lx_move rfl rfl rfl ?_
    refine lx_skip rfl rfl rfl ?_
    refine lx_skip rfl rfl rfl ?_
    refine lx_skip rfl rfl rfl ?_
    refine lx_pick rfl rfl rfl rfl rfl ?_
    refine lx_nil ?_
    refine x_true rfl ?_
    refine xs_plain (E := EE []) ?_
    refine lx_assign rfl rfl rfl ?_
    refine lx_nil ?_
    refine x_ret ?_
    repeat (first | refine kseq_ret ?_ | refine kblk_ret ?_)
    exact kret_tmp rfl rfl (fun w hw => ⟨rfl, hp_below hw⟩)
end Go.Proofs.YtceogjapiphokaaDoor
