/-
  The law Fp12Powers.
-/
import Derived.Test.YtbpifgcbkhohbaaGreatDoorW3
import Derived.Test.YtbpifgcbkhohbaaGreatDoorV7
import Derived.Test.YtbpifgcbkhohbaaGreatDoorX3
namespace Go.Proofs.YtbpifgcbkhohbaaGreatDoor
open Go.RowKit
set_option maxRecDepth 100000
set_option maxHeartbeats 1000000
attribute [local simp] fe_len nm_len AS_len SS_len MONT_len RM_len FRs_len BYs_len by48_len PLl TWOl ONEl N1l IVPl HFPl RTPl FL_len SP_len fe2_len SP2_len FM_len FF_len
attribute [local simp] ff_len RW_len

/-- The base class, and one variable more. -/
def Gp (b : Nat) (cs : List Value) : Cls := fun w => Gt w ∧ w.rangeAt b 0 cs
theorem gp_le {b : Nat} {cs : List Value} : ∀ w, Gp b cs w → Gt w := fun _ h => h.1
theorem gp_ok {b : Nat} {cs : List Value} {w1 : World} (hw : Gt w1) (h : w1.rangeAt b 0 cs) : BOk (Gp b cs) (pl w1) := ⟨fun L Y w' h' => ⟨(gt_low.plain hw).g L Y w' h', hp_oldrange h (fun h => h) w' h'⟩, rides_true⟩
theorem light1_y (b : Nat) (e : Option Addr) (n c : Nat) (h : n ≤ 200) (w : World) (hw : Gt w) (ho : w.rangeAt b 0 (SVl [(e, n, c)])) :
    Calls Tryz.prog 7 [.slice (some ⟨b, 0, none⟩) 1 1].toArray w (fun r w' => r = .returned (.bool true) ∧ Grow w w') := by
  have h' := light_calls b 1 [(e, n, c)] rfl (by decide) w hw ho
  rw [decide_eq_true (fun v hv => by rw [List.mem_singleton] at hv; rw [hv]; exact h)] at h'
  exact h'
theorem light1_n (b : Nat) (e : Option Addr) (n c : Nat) (h : ¬ n ≤ 200) (w : World) (hw : Gt w) (ho : w.rangeAt b 0 (SVl [(e, n, c)])) :
    Calls Tryz.prog 7 [.slice (some ⟨b, 0, none⟩) 1 1].toArray w (fun r w' => r = .returned (.bool false) ∧ Grow w w') := by
  have h' := light_calls b 1 [(e, n, c)] rfl (by decide) w hw ho
  rw [decide_eq_false (fun hv => h (hv (e, n, c) (by simp)))] at h'
  exact h'
/-- What is asked of the program's powers. -/
abbrev PowOk : Prop := ∀ (x : W12) (e : Option Addr) (cap : Nat) (bs : List (BitVec 8)), bs.length ≤ 1000 → ∀ w, Gt w → BytesAt w e bs → Calls Tryz.prog 25 [EV12 x, .slice e bs.length cap].toArray w (fun r w' => r = .returned (EV12 (K12.pw x (BN bs bs.length))) ∧ Grow w w')
theorem pow_nil (hP : PowOk) (x : W12) (w : World) (hw : Gt w) : Calls Tryz.prog 25 [EV12 x, .slice none 0 0].toArray w (fun r w' => r = .returned (EV12 K12.one) ∧ Grow w w') := hP x none 0 [] (by decide) w hw (bytes_nil _ _)
theorem pw12_three (x : W12) : K12.pw x 3 = K12.mul (K12.mul x x) x := congrArg (fun y => K12.mul (K12.mul y x) x) (K12.one_mul x)
theorem pow_three (hP : PowOk) (x : W12) (b c : Nat) (w : World) (hw : Gt w) (h : w.rangeAt b 0 ([0#8, 3#8].map U8)) : Calls Tryz.prog 25 [EV12 x, .slice (some ⟨b, 0, none⟩) 2 c].toArray w (fun r w' => r = .returned (EV12 (K12.mul (K12.mul x x) x)) ∧ Grow w w') := by
  have h := hP x (some ⟨b, 0, none⟩) c [0#8, 3#8] (by decide) w hw (BytesAt.range h)
  rw [show BN [0#8, 3#8] ([0#8, 3#8] : List (BitVec 8)).length = 3 from rfl, pw12_three] at h
  exact h
theorem q_pow (x : W12) (bs : List (BitVec 8)) : decide (FM (FF (p12 (K12.pw x (BN bs bs.length)))) 6 = FM (FF (RPT (p12 x) bs (8 * bs.length))) 6) = true := eqT (tq_RPTn (p12 x) bs bs.length).symm
theorem powers7 (e0 : Option Addr) (cap0 : Nat) (bs0 : List (BitVec 8)) (hcap0 : bs0.length ≤ cap0) (e1 : Option Addr) (cap1 : Nat) (bs1 : List (BitVec 8)) (hP : PowOk) (w : World) (hw : Gt w) (hb0 : BytesAt w e0 bs0) (hb1 : BytesAt w e1 bs1) :
    Calls Tryz.prog 5 [.slice e0 bs0.length cap0, .slice e1 bs1.length cap1].toArray w (fun r w' => r = .returned (.bool true) ∧ Grow w w') := by
  have hGF : BOk Gt (pl w) := gt_low.plain hw
  by_cases h0 : bs0.length ≤ 200
  · by_cases h1 : bs1.length ≤ 40
    · skip
      refine calls_of_X (G := Gt) Tryz.func5 rfl rfl (Hp (pl w) []) (hp_refl (pl w) trivial rides_true) (good_hp hGF) ?_
      refine xs_plain (E := EE []) ?_
      refine lx_assign rfl rfl rfl ?_
      refine lx_nil ?_
      refine x_seq ?_
      refine xs_plain (E := EE []) ?_
      refine lx_callB true rfl rfl ent6 (known7) (rfl) rfl rfl ?_
      refine lx_un rfl (fun _ => un_not _) rfl rfl ?_
      refine lx_nil ?_
      refine x_false rfl ?_
      refine x_skip ?_
      refine x_seq ?_
      refine xs_plain (E := EE []) ?_
      refine lx_move rfl rfl rfl ?_
      refine lx_bslV 940 (SVl [(e0, bs0.length, cap0)]) hGF rfl rfl rfl (by decide) (by decide) Tryz.underlying58 Tryz.sizeOf22 Tryz.zeroValue22 rfl rfl rfl ?_
      intro b940
      refine lx_callC rfl rfl ent7 (fun w' hC hG => light1_y b940 e0 bs0.length cap0 h0 w' hG (hp_row (n := 940) rfl w' hC)) rfl rfl ?_
      refine lx_un rfl (fun _ => un_not _) rfl rfl ?_
      refine lx_move rfl rfl rfl ?_
      refine lx_move rfl rfl rfl ?_
      refine lx_len rfl (fun _ => len_slice Tryz.underlying22 _ _ _ _) rfl rfl ?_
      refine lx_binB false rfl rfl (fun _ => rfl) (fun _ => bin_gtr_i _ _ _) (decide_eq_false (by omega)) rfl rfl ?_
      refine lx_pick rfl rfl rfl rfl rfl ?_
      refine lx_nil ?_
      refine x_false rfl ?_
      refine x_skip ?_
      refine xs_plain (E := EE []) ?_
      refine lx_move rfl rfl rfl ?_
      refine lx_callC rfl rfl ent8 (fun w' hC hG => twelve_calls e0 cap0 bs0 (by omega) hcap0 w' hG (hb0.grow (hp_below hC))) rfl rfl ?_
      refine lx_allocr 5 hGF zv34 rfl rfl ?_
      intro b5
      refine lx_storea 5 hGF rfl rfl rfl Tryz.sizeOf34 (by simp) (by simp) (one_u64 _) rfl ?_
      refine lx_nil ?_
      refine x_here (G' := Gp b5 ((((fe ((TWV bs0).1.1).1 ++ fe ((TWV bs0).1.1).2) ++ ((fe ((TWV bs0).1.2.1).1 ++ fe ((TWV bs0).1.2.1).2) ++ (fe ((TWV bs0).1.2.2).1 ++ fe ((TWV bs0).1.2.2).2))) ++ ((fe ((TWV bs0).2.1).1 ++ fe ((TWV bs0).2.1).2) ++ ((fe ((TWV bs0).2.2.1).1 ++ fe ((TWV bs0).2.2.1).2) ++ (fe ((TWV bs0).2.2.2).1 ++ fe ((TWV bs0).2.2.2).2)))).map U64)) gp_le (fun w1 h1 => gp_ok (hGF.g _ _ _ h1) (hp_row (n := 5) rfl w1 h1)) ?_
      intro w1 hw1
      have hGP : BOk (Gp b5 ((((fe ((TWV bs0).1.1).1 ++ fe ((TWV bs0).1.1).2) ++ ((fe ((TWV bs0).1.2.1).1 ++ fe ((TWV bs0).1.2.1).2) ++ (fe ((TWV bs0).1.2.2).1 ++ fe ((TWV bs0).1.2.2).2))) ++ ((fe ((TWV bs0).2.1).1 ++ fe ((TWV bs0).2.1).2) ++ ((fe ((TWV bs0).2.2.1).1 ++ fe ((TWV bs0).2.2.1).2) ++ (fe ((TWV bs0).2.2.2).1 ++ fe ((TWV bs0).2.2.2).2)))).map U64)) (pl w1) := gp_ok (hGF.g _ _ _ hw1) (hp_row (n := 5) rfl w1 hw1)
      have hb1' := hb1.grow (hp_below hw1)
      refine xs_tree (EE []) mixed (by kernel_rfl) (by kernel_rfl) ?_
      refine tr_pre (m := 10) [0, 1, 2, 3, 4, 5, 6, 7, 8, 9, 10, 11, 12, 13, 14, 15] (by kernel_rfl) ?_
      refine lx_loadr rfl Tryz.isAgg34 Tryz.sizeOf34 (by simp) (fun w' h => (hGP.g _ _ w' h).2) rfl rfl ?_
      refine lx_move rfl rfl rfl ?_
      refine lx_callC rfl rfl ent25 (fun w' hC hG => hP _ e1 cap1 bs1 (by omega) w' hG.1 (hb1'.grow (hp_below hC))) rfl rfl ?_
      refine lx_call rfl rfl ent9 (Pure.sub (refs12 _) gp_le) rfl rfl ?_
      refine lx_loadr rfl Tryz.isAgg34 Tryz.sizeOf34 (by simp) (fun w' h => (hGP.g _ _ w' h).2) rfl rfl ?_
      refine lx_call rfl rfl ent9 (Pure.sub (refs12 _) gp_le) rfl rfl ?_
      refine lx_move rfl rfl rfl ?_
      refine lx_callC rfl rfl ent26 (fun w' hC hG => t5pow_calls _ e1 cap1 bs1 (by omega) w' hG.1 (hb1'.grow (hp_below hC))) rfl rfl ?_
      refine lx_binB true rfl rfl (fun _ => eqg42 _ _ _ _ _ _) (fun w => eqv42 _ _ (by simp) (by simp) w) (q_pow _ _) rfl rfl ?_
      refine lx_move rfl rfl rfl ?_
      refine lx_loadr rfl Tryz.isAgg34 Tryz.sizeOf34 (by simp) (fun w' h => (hGP.g _ _ w' h).2) rfl rfl ?_
      refine lx_callC rfl rfl ent25 (fun w' hC hG => pow_nil hP _ w' hG.1) rfl rfl ?_
      refine lx_call rfl rfl ent27 (Pure.sub (k12one) gp_le) rfl rfl ?_
      refine lx_callB true rfl rfl ent21 (Pure.sub (k12equal _ _) gp_le) (decide_eq_true rfl) rfl rfl ?_
      refine lx_pick rfl rfl rfl rfl rfl ?_
      refine lx_move rfl rfl rfl ?_
      refine lx_nil ?_
      refine tr_read (m := 9) 16 _ rfl rfl (by kernel_rfl) (by kernel_rfl) rfl (yields_row rfl rfl Tryz.isAgg34 Tryz.sizeOf34 (by simp) (fun _ h => h.2) rfl) ?_
      refine tr_read (m := 8) 19 _ rfl rfl (by kernel_rfl) (by kernel_rfl) rfl (yields_row rfl rfl Tryz.isAgg34 Tryz.sizeOf34 (by simp) (fun _ h => h.2) rfl) ?_
      refine tr_read (m := 7) 21 _ rfl rfl (by kernel_rfl) (by kernel_rfl) rfl (yields_row rfl rfl Tryz.isAgg34 Tryz.sizeOf34 (by simp) (fun _ h => h.2) rfl) ?_
      refine tr_pre (m := 0) [17, 18, 20, 22, 23, 24, 25] (by kernel_rfl) ?_
      refine lx_bsl 36 [0#8, 3#8] hGP rfl rfl rfl (by decide) (by decide) Tryz.underlying22 Tryz.sizeOf5 Tryz.zeroValue5 rfl rfl ?_
      intro b36
      refine lx_callC rfl rfl ent25 (fun w' hC hG => pow_three hP _ _ _ w' hG.1 (hp_row (n := 36) rfl w' hC)) rfl rfl ?_
      refine lx_call rfl rfl ent16 (Pure.sub (k12square _) gp_le) rfl rfl ?_
      refine lx_call rfl rfl ent14 (Pure.sub (k12mul _ _) gp_le) rfl rfl ?_
      refine lx_callB true rfl rfl ent21 (Pure.sub (k12equal _ _) gp_le) (decide_eq_true rfl) rfl rfl ?_
      refine lx_pick rfl rfl rfl rfl rfl ?_
      refine lx_assign rfl rfl rfl ?_
      refine lx_nil ?_
      refine tr_nil (by kernel_rfl) ?_
      refine kseq_n ?_
      refine x_ret ?_
      repeat (first | refine kseq_ret ?_ | refine kblk_ret ?_)
      exact kret_tmp rfl rfl (fun w hw => ⟨rfl, (hp_below hw1).trans (hp_below hw)⟩)
    · skip
      refine calls_of_X (G := Gt) Tryz.func5 rfl rfl (Hp (pl w) []) (hp_refl (pl w) trivial rides_true) (good_hp hGF) ?_
      refine xs_plain (E := EE []) ?_
      refine lx_assign rfl rfl rfl ?_
      refine lx_nil ?_
      refine x_seq ?_
      refine xs_plain (E := EE []) ?_
      refine lx_callB true rfl rfl ent6 (known7) (rfl) rfl rfl ?_
      refine lx_un rfl (fun _ => un_not _) rfl rfl ?_
      refine lx_nil ?_
      refine x_false rfl ?_
      refine x_skip ?_
      refine x_seq ?_
      refine xs_plain (E := EE []) ?_
      refine lx_move rfl rfl rfl ?_
      refine lx_bslV 940 (SVl [(e0, bs0.length, cap0)]) hGF rfl rfl rfl (by decide) (by decide) Tryz.underlying58 Tryz.sizeOf22 Tryz.zeroValue22 rfl rfl rfl ?_
      intro b940
      refine lx_callC rfl rfl ent7 (fun w' hC hG => light1_y b940 e0 bs0.length cap0 h0 w' hG (hp_row (n := 940) rfl w' hC)) rfl rfl ?_
      refine lx_un rfl (fun _ => un_not _) rfl rfl ?_
      refine lx_move rfl rfl rfl ?_
      refine lx_move rfl rfl rfl ?_
      refine lx_len rfl (fun _ => len_slice Tryz.underlying22 _ _ _ _) rfl rfl ?_
      refine lx_binB true rfl rfl (fun _ => rfl) (fun _ => bin_gtr_i _ _ _) (decide_eq_true (by omega)) rfl rfl ?_
      refine lx_pick rfl rfl rfl rfl rfl ?_
      refine lx_nil ?_
      refine x_true rfl ?_
      refine xs_plain (E := EE []) ?_
      refine lx_assign rfl rfl rfl ?_
      refine lx_nil ?_
      refine x_ret ?_
      repeat (first | refine kseq_ret ?_ | refine kblk_ret ?_)
      exact kret_tmp rfl rfl (fun w hw => ⟨rfl, hp_below hw⟩)
  · skip
    refine calls_of_X (G := Gt) Tryz.func5 rfl rfl (Hp (pl w) []) (hp_refl (pl w) trivial rides_true) (good_hp hGF) ?_
    refine xs_plain (E := EE []) ?_
    refine lx_assign rfl rfl rfl ?_
    refine lx_nil ?_
    refine x_seq ?_
    refine xs_plain (E := EE []) ?_
    refine lx_callB true rfl rfl ent6 (known7) (rfl) rfl rfl ?_
    refine lx_un rfl (fun _ => un_not _) rfl rfl ?_
    refine lx_nil ?_
    refine x_false rfl ?_
    refine x_skip ?_
    refine x_seq ?_
    refine xs_plain (E := EE []) ?_
    refine lx_move rfl rfl rfl ?_
    refine lx_bslV 940 (SVl [(e0, bs0.length, cap0)]) hGF rfl rfl rfl (by decide) (by decide) Tryz.underlying58 Tryz.sizeOf22 Tryz.zeroValue22 rfl rfl rfl ?_
    intro b940
    refine lx_callC rfl rfl ent7 (fun w' hC hG => light1_n b940 e0 bs0.length cap0 h0 w' hG (hp_row (n := 940) rfl w' hC)) rfl rfl ?_
    refine lx_un rfl (fun _ => un_not _) rfl rfl ?_
    refine lx_move rfl rfl rfl ?_
    refine lx_skip rfl rfl rfl ?_
    refine lx_skip rfl rfl rfl ?_
    refine lx_skip rfl rfl rfl ?_
    refine lx_pick rfl rfl rfl rfl rfl ?_
    refine lx_nil ?_
    refine x_true rfl ?_
    refine xs_plain (E := EE []) ?_
    refine lx_assign rfl rfl rfl ?_
    refine lx_nil ?_
    refine x_ret ?_
    repeat (first | refine kseq_ret ?_ | refine kblk_ret ?_)
    exact kret_tmp rfl rfl (fun w hw => ⟨rfl, hp_below hw⟩)
end Go.Proofs.YtbpifgcbkhohbaaGreatDoor
