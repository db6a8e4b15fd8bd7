/-
  The laws Fp2Signs, Fp2Roots.
-/
import Derived.Test.YtceogjapiphokaaDoorXA
namespace Go.Proofs.YtceogjapiphokaaDoor
open Go.RowKit
set_option maxRecDepth 100000
set_option maxHeartbeats 1000000
attribute [local simp] fe_len nm_len AS_len SS_len MONT_len RM_len FRs_len BYs_len by48_len PLl TWOl ONEl N1l IVPl HFPl RTPl FL_len SP_len fe2_len SP2_len FM_len

theorem lk_pair {L : Hl} {n b : Nat} {t : TypeId} {p q : Zp} (h : lkB L n = some (b, (fe p ++ fe q).map U64, t)) : lkB L n = some (b, (fe ((p, q) : W2).1 ++ fe ((p, q) : W2).2).map U64, t) := h
theorem sg_inI (a : W2) : inI (SG2 a + SG2 (ng2 a)) := by
  rcases SG2_in a with h | h <;> rcases SG2_in (ng2 a) with h' | h' <;> rw [h, h'] <;> unfold inI <;> decide
theorem lg_ne {a : W2} (h : ¬ a = ze2) : (LG2 a != LG2 (ng2 a)) = true := by
  rw [LG2_neg h]; cases LG2 a <;> rfl
theorem NL_or (a : W2) : NL a = a ∨ NL a = ng2 a := by
  unfold NL
  split
  · exact .inr rfl
  · exact .inl rfl
theorem signs5 (e0 : Option Addr) (cap0 : Nat) (bs0 : List (BitVec 8)) (hcap0 : bs0.length ≤ cap0) (real turned : Bool) (w : World) (hw : Gt w) (hb0 : BytesAt w e0 bs0) :
    Calls Tryd.prog 7 [.slice e0 bs0.length cap0, .bool real, .bool turned].toArray w (fun r w' => r = .returned (.bool true) ∧ Grow w w') := by
  have hGF : BOk Gt (pl w) := gt_low.plain hw
  refine calls_of_X (G := Gt) Tryd.func7 rfl rfl (Hp (pl w) []) (hp_refl (pl w) trivial rides_true) (good_hp hGF) ?_
  refine xs_plain (E := EE []) ?_
  refine lx_assign rfl rfl rfl ?_
  refine lx_nil ?_
  refine x_seq ?_
  refine xs_plain (E := EE []) ?_
  refine lx_callB true rfl rfl ent9 (known5) (rfl) rfl rfl ?_
  refine lx_un rfl (fun _ => un_not _) rfl rfl ?_
  refine lx_nil ?_
  refine x_false rfl ?_
  refine x_skip ?_
  refine x_seq ?_
  refine xs_plain (E := EE []) ?_
  refine lx_move rfl rfl rfl ?_
  refine lx_bslV 940 (SVl [(e0, bs0.length, cap0)]) hGF rfl rfl rfl (by decide) (by decide) Tryd.underlying65 Tryd.sizeOf22 Tryd.zeroValue22 rfl rfl rfl ?_
  intro b940
  refine lx_callC rfl rfl ent10 (fun w' hC hG => light_calls b940 1 [(e0, bs0.length, cap0)] rfl (by decide) w' hG (hp_row (n := 940) rfl w' hC)) rfl rfl ?_
  refine lx_un rfl (fun _ => un_not _) rfl rfl ?_
  refine lx_nil ?_
  refine x_if rfl (fun hc => ?_) (fun hc => ?_)
  · skip
    refine xs_plain (E := EE []) ?_
    refine lx_assign rfl rfl rfl ?_
    refine lx_nil ?_
    refine x_ret ?_
    repeat (first | refine kseq_ret ?_ | refine kblk_ret ?_)
    exact kret_tmp rfl rfl (fun w hw => ⟨rfl, hp_below hw⟩)
  · have hl : ∀ v ∈ [(e0, bs0.length, cap0)], v.2.1 ≤ 200 := by simpa using hc
    have hl0 : bs0.length ≤ 200 := hl (e0, bs0.length, cap0) (by simp)
    clear hc hl
    refine x_skip ?_
    refine xs_plain (E := EE []) ?_
    refine lx_move rfl rfl rfl ?_
    refine lx_callC rfl rfl ent11 (fun w' hC hG => num_calls e0 cap0 bs0 (by omega) hcap0 w' hG (hb0.grow (hp_below hC))) rfl rfl ?_
    refine lx_allocr 7 hGF zv30 rfl rfl ?_
    intro b7
    refine lx_storea 7 hGF rfl rfl rfl Tryd.sizeOf30 (by simp) (by simp) (one_u64 _) rfl ?_
    refine lx_nil ?_
    refine x_join (ι := W2) (fun a => [(2, .bool turned), (7, .pointer (some ⟨b7, 0, none⟩))]) (fun a => [(7, b7, (fe a.1 ++ fe a.2).map U64, 30)]) hGF ?_ ?_
    · skip
      refine xs_plain (E := EE []) ?_
      refine lx_move rfl rfl rfl ?_
      refine lx_nil ?_
      refine x_if rfl (fun hc => ?_) (fun hc => ?_)
      · clear hc
        refine x_plain (E := EE []) ?_
        refine lx_builds zf28 Tryd.underlying28 (bm_one Tryd.sizeOf26) rfl rfl ?_
        refine lx_fak 6 rfl Tryd.underlying30 rfl Tryd.sizeOf28 (by decide) rfl rfl rfl ?_
        refine lx_storeo 7 _ hGF rfl rfl rfl Tryd.sizeOf28 (by simp) (one_u64 _) (by simp) (lay_r (by simp) (by simp)) rfl ?_
        refine lx_nil ?_
        refine kseq_n ?_
        exact ⟨rfl, (_, _), _, rfl, ⟨rfl, rfl, trivial⟩, ⟨lk_pair rfl, trivial⟩⟩
      · clear hc
        refine x_skip ?_
        refine kseq_n ?_
        exact ⟨rfl, NUM bs0, _, rfl, ⟨rfl, rfl, trivial⟩, ⟨rfl, trivial⟩⟩
    · intro a
      refine x_join (ι := W2) (fun a => [(7, .pointer (some ⟨b7, 0, none⟩))]) (fun a => [(7, b7, (fe a.1 ++ fe a.2).map U64, 30)]) hGF ?_ ?_
      · skip
        refine xs_plain (E := EE []) ?_
        refine lx_move rfl rfl rfl ?_
        refine lx_nil ?_
        refine x_if rfl (fun hc => ?_) (fun hc => ?_)
        · clear hc
          refine x_plain (E := EE []) ?_
          refine lx_fak 6 rfl Tryd.underlying30 rfl Tryd.sizeOf28 (by decide) rfl rfl rfl ?_
          refine lx_loado 7 _ rfl rfl Tryd.isAgg28 Tryd.sizeOf28 (by simp) (ld_r (by simp)) rfl rfl ?_
          refine lx_fak 0 rfl Tryd.underlying30 rfl Tryd.sizeOf28 (by decide) rfl rfl rfl ?_
          refine lx_loado 7 _ rfl rfl Tryd.isAgg28 Tryd.sizeOf28 (by simp) ld_l rfl rfl ?_
          refine lx_fak 0 rfl Tryd.underlying30 rfl Tryd.sizeOf28 (by decide) rfl rfl rfl ?_
          refine lx_storeo 7 _ hGF rfl rfl rfl Tryd.sizeOf28 (by simp) (one_u64 _) (by simp) (lay_l (by simp)) rfl ?_
          refine lx_fak 6 rfl Tryd.underlying30 rfl Tryd.sizeOf28 (by decide) rfl rfl rfl ?_
          refine lx_storeo 7 _ hGF rfl rfl rfl Tryd.sizeOf28 (by simp) (one_u64 _) (by simp) (lay_r (by simp) (by simp)) rfl ?_
          refine lx_nil ?_
          refine kseq_n ?_
          exact ⟨rfl, (_, _), _, rfl, ⟨rfl, trivial⟩, ⟨lk_pair rfl, trivial⟩⟩
        · clear hc
          refine x_skip ?_
          refine kseq_n ?_
          exact ⟨rfl, a, _, rfl, ⟨rfl, trivial⟩, ⟨rfl, trivial⟩⟩
      · clear a
        intro a
        by_cases hz : a = ze2
        · skip
          refine x_seq ?_
          refine xs_drawn (E := EE []) mixed (by kernel_rfl) (by kernel_rfl) (by kernel_rfl) ?_
          refine lx_loada 7 rfl rfl Tryd.isAgg30 Tryd.sizeOf30 (by simp) rfl rfl ?_
          refine lx_call rfl rfl ent45 (e2sgn _) rfl rfl ?_
          refine lx_loada 7 rfl rfl Tryd.isAgg30 Tryd.sizeOf30 (by simp) rfl rfl ?_
          refine lx_call rfl rfl ent12 (ref5 _) rfl rfl ?_
          refine lx_call rfl rfl ent46 (r5sgn _) rfl rfl ?_
          refine lx_binB false rfl rfl (fun _ => rfl) (fun _ => bin_neq_i _ _ _) (bne_self_eq_false _) rfl rfl ?_
          refine lx_move rfl rfl rfl ?_
          refine lx_loada 7 rfl rfl Tryd.isAgg30 Tryd.sizeOf30 (by simp) rfl rfl ?_
          refine lx_call rfl rfl ent44 (e2large _) rfl rfl ?_
          refine lx_loada 7 rfl rfl Tryd.isAgg30 Tryd.sizeOf30 (by simp) rfl rfl ?_
          refine lx_call rfl rfl ent12 (ref5 _) rfl rfl ?_
          refine lx_call rfl rfl ent47 (r5large _) rfl rfl ?_
          refine lx_binB false rfl rfl (fun _ => rfl) (fun w => bin_neq_bool 4 Tryd.underlying4 _ _ w) (bne_self_eq_false _) rfl rfl ?_
          refine lx_pick rfl rfl rfl rfl rfl ?_
          refine lx_nil ?_
          refine x_false rfl ?_
          refine x_skip ?_
          refine x_seq ?_
          refine xs_plain (E := EE []) ?_
          refine lx_loada 7 rfl rfl Tryd.isAgg30 Tryd.sizeOf30 (by simp) rfl rfl ?_
          refine lx_callB true rfl rfl ent34 (e2isZero _) (decide_eq_true (hz)) rfl rfl ?_
          refine lx_nil ?_
          refine x_true rfl ?_
          refine xs_plain (E := EE []) ?_
          refine lx_loada 7 rfl rfl Tryd.isAgg30 Tryd.sizeOf30 (by simp) rfl rfl ?_
          refine lx_call rfl rfl ent45 (e2sgn _) rfl rfl ?_
          refine lx_binB true rfl rfl (fun _ => rfl) (fun _ => bin_eql_i _ _ _) (by rw [hz, SG2_ze]; rfl) rfl rfl ?_
          refine lx_move rfl rfl rfl ?_
          refine lx_loada 7 rfl rfl Tryd.isAgg30 Tryd.sizeOf30 (by simp) rfl rfl ?_
          refine lx_callB false rfl rfl ent44 (e2large _) (by rw [hz, LG2_ze]) rfl rfl ?_
          refine lx_un rfl (fun _ => un_not _) rfl rfl ?_
          refine lx_pick rfl rfl rfl rfl rfl ?_
          refine lx_assign rfl rfl rfl ?_
          refine lx_nil ?_
          refine x_ret ?_
          repeat (first | refine kseq_ret ?_ | refine kblk_ret ?_)
          exact kret_tmp rfl rfl (fun w hw => ⟨rfl, hp_below hw⟩)
        · skip
          refine x_seq ?_
          refine xs_drawn (E := EE []) mixed (by kernel_rfl) (by kernel_rfl) (by kernel_rfl) ?_
          refine lx_loada 7 rfl rfl Tryd.isAgg30 Tryd.sizeOf30 (by simp) rfl rfl ?_
          refine lx_call rfl rfl ent45 (e2sgn _) rfl rfl ?_
          refine lx_loada 7 rfl rfl Tryd.isAgg30 Tryd.sizeOf30 (by simp) rfl rfl ?_
          refine lx_call rfl rfl ent12 (ref5 _) rfl rfl ?_
          refine lx_call rfl rfl ent46 (r5sgn _) rfl rfl ?_
          refine lx_binB false rfl rfl (fun _ => rfl) (fun _ => bin_neq_i _ _ _) (bne_self_eq_false _) rfl rfl ?_
          refine lx_move rfl rfl rfl ?_
          refine lx_loada 7 rfl rfl Tryd.isAgg30 Tryd.sizeOf30 (by simp) rfl rfl ?_
          refine lx_call rfl rfl ent44 (e2large _) rfl rfl ?_
          refine lx_loada 7 rfl rfl Tryd.isAgg30 Tryd.sizeOf30 (by simp) rfl rfl ?_
          refine lx_call rfl rfl ent12 (ref5 _) rfl rfl ?_
          refine lx_call rfl rfl ent47 (r5large _) rfl rfl ?_
          refine lx_binB false rfl rfl (fun _ => rfl) (fun w => bin_neq_bool 4 Tryd.underlying4 _ _ w) (bne_self_eq_false _) rfl rfl ?_
          refine lx_pick rfl rfl rfl rfl rfl ?_
          refine lx_nil ?_
          refine x_false rfl ?_
          refine x_skip ?_
          refine x_seq ?_
          refine xs_plain (E := EE []) ?_
          refine lx_loada 7 rfl rfl Tryd.isAgg30 Tryd.sizeOf30 (by simp) rfl rfl ?_
          refine lx_callB false rfl rfl ent34 (e2isZero _) (decide_eq_false (hz)) rfl rfl ?_
          refine lx_nil ?_
          refine x_false rfl ?_
          refine x_skip ?_
          refine xs_drawn (E := EE []) mixed (by kernel_rfl) (by kernel_rfl) (by kernel_rfl) ?_
          refine lx_loada 7 rfl rfl Tryd.isAgg30 Tryd.sizeOf30 (by simp) rfl rfl ?_
          refine lx_call rfl rfl ent44 (e2large _) rfl rfl ?_
          refine lx_loada 7 rfl rfl Tryd.isAgg30 Tryd.sizeOf30 (by simp) rfl rfl ?_
          refine lx_call rfl rfl ent20 (e2neg _) rfl rfl ?_
          refine lx_call rfl rfl ent44 (e2large _) rfl rfl ?_
          refine lx_binB true rfl rfl (fun _ => rfl) (fun w => bin_neq_bool 4 Tryd.underlying4 _ _ w) (lg_ne hz) rfl rfl ?_
          refine lx_move rfl rfl rfl ?_
          refine lx_loada 7 rfl rfl Tryd.isAgg30 Tryd.sizeOf30 (by simp) rfl rfl ?_
          refine lx_call rfl rfl ent45 (e2sgn _) rfl rfl ?_
          refine lx_loada 7 rfl rfl Tryd.isAgg30 Tryd.sizeOf30 (by simp) rfl rfl ?_
          refine lx_call rfl rfl ent20 (e2neg _) rfl rfl ?_
          refine lx_call rfl rfl ent45 (e2sgn _) rfl rfl ?_
          refine lx_bin rfl rfl (fun _ => rfl) (fun _ => bin_add_i _ _ _ (sg_inI a)) rfl rfl ?_
          refine lx_binB true rfl rfl (fun _ => rfl) (fun _ => bin_eql_i _ _ _) (by rw [SG2_neg hz]; rfl) rfl rfl ?_
          refine lx_pick rfl rfl rfl rfl rfl ?_
          refine lx_assign rfl rfl rfl ?_
          refine lx_nil ?_
          refine x_ret ?_
          repeat (first | refine kseq_ret ?_ | refine kblk_ret ?_)
          exact kret_tmp rfl rfl (fun w hw => ⟨rfl, hp_below hw⟩)
theorem roots5 (e0 : Option Addr) (cap0 : Nat) (bs0 : List (BitVec 8)) (hcap0 : bs0.length ≤ cap0) (real turned : Bool) (w : World) (hw : Gt w) (hb0 : BytesAt w e0 bs0) :
    Calls Tryd.prog 6 [.slice e0 bs0.length cap0, .bool real, .bool turned].toArray w (fun r w' => r = .returned (.bool true) ∧ Grow w w') := by
  have hGF : BOk Gt (pl w) := gt_low.plain hw
  refine calls_of_X (G := Gt) Tryd.func6 rfl rfl (Hp (pl w) []) (hp_refl (pl w) trivial rides_true) (good_hp hGF) ?_
  refine xs_plain (E := EE []) ?_
  refine lx_assign rfl rfl rfl ?_
  refine lx_nil ?_
  refine x_seq ?_
  refine xs_plain (E := EE []) ?_
  refine lx_callB true rfl rfl ent9 (known5) (rfl) rfl rfl ?_
  refine lx_un rfl (fun _ => un_not _) rfl rfl ?_
  refine lx_nil ?_
  refine x_false rfl ?_
  refine x_skip ?_
  refine x_seq ?_
  refine xs_plain (E := EE []) ?_
  refine lx_move rfl rfl rfl ?_
  refine lx_bslV 940 (SVl [(e0, bs0.length, cap0)]) hGF rfl rfl rfl (by decide) (by decide) Tryd.underlying65 Tryd.sizeOf22 Tryd.zeroValue22 rfl rfl rfl ?_
  intro b940
  refine lx_callC rfl rfl ent10 (fun w' hC hG => light_calls b940 1 [(e0, bs0.length, cap0)] rfl (by decide) w' hG (hp_row (n := 940) rfl w' hC)) rfl rfl ?_
  refine lx_un rfl (fun _ => un_not _) rfl rfl ?_
  refine lx_nil ?_
  refine x_if rfl (fun hc => ?_) (fun hc => ?_)
  · skip
    refine xs_plain (E := EE []) ?_
    refine lx_assign rfl rfl rfl ?_
    refine lx_nil ?_
    refine x_ret ?_
    repeat (first | refine kseq_ret ?_ | refine kblk_ret ?_)
    exact kret_tmp rfl rfl (fun w hw => ⟨rfl, hp_below hw⟩)
  · have hl : ∀ v ∈ [(e0, bs0.length, cap0)], v.2.1 ≤ 200 := by simpa using hc
    have hl0 : bs0.length ≤ 200 := hl (e0, bs0.length, cap0) (by simp)
    clear hc hl
    refine x_skip ?_
    refine xs_plain (E := EE []) ?_
    refine lx_move rfl rfl rfl ?_
    refine lx_callC rfl rfl ent11 (fun w' hC hG => num_calls e0 cap0 bs0 (by omega) hcap0 w' hG (hb0.grow (hp_below hC))) rfl rfl ?_
    refine lx_allocr 7 hGF zv30 rfl rfl ?_
    intro b7
    refine lx_storea 7 hGF rfl rfl rfl Tryd.sizeOf30 (by simp) (by simp) (one_u64 _) rfl ?_
    refine lx_nil ?_
    refine x_join (ι := W2) (fun a => [(2, .bool turned), (7, .pointer (some ⟨b7, 0, none⟩))]) (fun a => [(7, b7, (fe a.1 ++ fe a.2).map U64, 30)]) hGF ?_ ?_
    · skip
      refine xs_plain (E := EE []) ?_
      refine lx_move rfl rfl rfl ?_
      refine lx_nil ?_
      refine x_if rfl (fun hc => ?_) (fun hc => ?_)
      · clear hc
        refine x_plain (E := EE []) ?_
        refine lx_builds zf28 Tryd.underlying28 (bm_one Tryd.sizeOf26) rfl rfl ?_
        refine lx_fak 6 rfl Tryd.underlying30 rfl Tryd.sizeOf28 (by decide) rfl rfl rfl ?_
        refine lx_storeo 7 _ hGF rfl rfl rfl Tryd.sizeOf28 (by simp) (one_u64 _) (by simp) (lay_r (by simp) (by simp)) rfl ?_
        refine lx_nil ?_
        refine kseq_n ?_
        exact ⟨rfl, (_, _), _, rfl, ⟨rfl, rfl, trivial⟩, ⟨lk_pair rfl, trivial⟩⟩
      · clear hc
        refine x_skip ?_
        refine kseq_n ?_
        exact ⟨rfl, NUM bs0, _, rfl, ⟨rfl, rfl, trivial⟩, ⟨rfl, trivial⟩⟩
    · intro a
      refine x_join (ι := W2) (fun a => [(7, .pointer (some ⟨b7, 0, none⟩))]) (fun a => [(7, b7, (fe a.1 ++ fe a.2).map U64, 30)]) hGF ?_ ?_
      · skip
        refine xs_plain (E := EE []) ?_
        refine lx_move rfl rfl rfl ?_
        refine lx_nil ?_
        refine x_if rfl (fun hc => ?_) (fun hc => ?_)
        · clear hc
          refine x_plain (E := EE []) ?_
          refine lx_fak 6 rfl Tryd.underlying30 rfl Tryd.sizeOf28 (by decide) rfl rfl rfl ?_
          refine lx_loado 7 _ rfl rfl Tryd.isAgg28 Tryd.sizeOf28 (by simp) (ld_r (by simp)) rfl rfl ?_
          refine lx_fak 0 rfl Tryd.underlying30 rfl Tryd.sizeOf28 (by decide) rfl rfl rfl ?_
          refine lx_loado 7 _ rfl rfl Tryd.isAgg28 Tryd.sizeOf28 (by simp) ld_l rfl rfl ?_
          refine lx_fak 0 rfl Tryd.underlying30 rfl Tryd.sizeOf28 (by decide) rfl rfl rfl ?_
          refine lx_storeo 7 _ hGF rfl rfl rfl Tryd.sizeOf28 (by simp) (one_u64 _) (by simp) (lay_l (by simp)) rfl ?_
          refine lx_fak 6 rfl Tryd.underlying30 rfl Tryd.sizeOf28 (by decide) rfl rfl rfl ?_
          refine lx_storeo 7 _ hGF rfl rfl rfl Tryd.sizeOf28 (by simp) (one_u64 _) (by simp) (lay_r (by simp) (by simp)) rfl ?_
          refine lx_nil ?_
          refine kseq_n ?_
          exact ⟨rfl, (_, _), _, rfl, ⟨rfl, trivial⟩, ⟨lk_pair rfl, trivial⟩⟩
        · clear hc
          refine x_skip ?_
          refine kseq_n ?_
          exact ⟨rfl, a, _, rfl, ⟨rfl, trivial⟩, ⟨rfl, trivial⟩⟩
      · clear a
        intro a
        by_cases q : SQr (nm2 a) * SQr (nm2 a) = nm2 a
        · skip
          obtain ⟨r, hr, hl⟩ := root_has q
          by_cases h2 : NL a = a
          · skip
            refine xs_plain (E := EE []) ?_
            refine lx_loada 7 rfl rfl Tryd.isAgg30 Tryd.sizeOf30 (by simp) rfl rfl ?_
            refine lx_call rfl rfl ent41 (e2sqrtY a r hr hl) rfl rfl ?_
            refine lx_move rfl rfl rfl ?_
            refine lx_ext rfl rfl rfl rfl ?_
            refine lx_ext rfl rfl rfl rfl ?_
            refine lx_allocr 8 hGF zv30 rfl rfl ?_
            intro b8
            refine lx_storea 8 hGF rfl rfl rfl Tryd.sizeOf30 (by simp) (by simp) (one_u64 _) rfl ?_
            refine lx_assign rfl rfl rfl ?_
            refine lx_nil ?_
            refine xs_plain (E := EE []) ?_
            refine lx_loada 7 rfl rfl Tryd.isAgg30 Tryd.sizeOf30 (by simp) rfl rfl ?_
            refine lx_call rfl rfl ent12 (ref5 _) rfl rfl ?_
            refine lx_call rfl rfl ent42 (r5sqrtY a r hr hl) rfl rfl ?_
            refine lx_move rfl rfl rfl ?_
            refine lx_ext rfl rfl rfl rfl ?_
            refine lx_ext rfl rfl rfl rfl ?_
            refine lx_allocr 10 hGF zv36 rfl rfl ?_
            intro b10
            refine lx_storea 10 hGF rfl rfl rfl Tryd.sizeOf36 (by simp) (by simp) (one_u64 _) rfl ?_
            refine lx_assign rfl rfl rfl ?_
            refine lx_nil ?_
            refine x_seq ?_
            refine xs_drawn (E := EE []) mixed (by kernel_rfl) (by kernel_rfl) (by kernel_rfl) ?_
            refine lx_move rfl rfl rfl ?_
            refine lx_move rfl rfl rfl ?_
            refine lx_binB false rfl rfl (fun _ => rfl) (fun w => bin_neq_bool 4 Tryd.underlying4 _ _ w) (rfl) rfl rfl ?_
            refine lx_move rfl rfl rfl ?_
            refine lx_loada 8 rfl rfl Tryd.isAgg30 Tryd.sizeOf30 (by simp) rfl rfl ?_
            refine lx_loada 10 rfl rfl Tryd.isAgg36 Tryd.sizeOf36 (by simp) rfl rfl ?_
            refine lx_callB true rfl rfl ent15 (same5 _ _) (decide_eq_true (rfl)) rfl rfl ?_
            refine lx_un rfl (fun _ => un_not _) rfl rfl ?_
            refine lx_pick rfl rfl rfl rfl rfl ?_
            refine lx_move rfl rfl rfl ?_
            refine lx_loada 7 rfl rfl Tryd.isAgg30 Tryd.sizeOf30 (by simp) rfl rfl ?_
            refine lx_callB true rfl rfl ent43 (e2isSquare _) (decide_eq_true ((root_iff _).1 q)) rfl rfl ?_
            refine lx_move rfl rfl rfl ?_
            refine lx_binB false rfl rfl (fun _ => rfl) (fun w => bin_neq_bool 4 Tryd.underlying4 _ _ w) (rfl) rfl rfl ?_
            refine lx_pick rfl rfl rfl rfl rfl ?_
            refine lx_move rfl rfl rfl ?_
            refine lx_move rfl rfl rfl ?_
            refine lx_move rfl rfl rfl ?_
            refine lx_loada 8 rfl rfl Tryd.isAgg30 Tryd.sizeOf30 (by simp) rfl rfl ?_
            refine lx_call rfl rfl ent26 (e2square _) rfl rfl ?_
            refine lx_loada 7 rfl rfl Tryd.isAgg30 Tryd.sizeOf30 (by simp) rfl rfl ?_
            refine lx_callB true rfl rfl ent33 (e2equal _ _) (decide_eq_true (hr)) rfl rfl ?_
            refine lx_un rfl (fun _ => un_not _) rfl rfl ?_
            refine lx_move rfl rfl rfl ?_
            refine lx_loada 8 rfl rfl Tryd.isAgg30 Tryd.sizeOf30 (by simp) rfl rfl ?_
            refine lx_callB false rfl rfl ent44 (e2large _) (hl) rfl rfl ?_
            refine lx_pick rfl rfl rfl rfl rfl ?_
            refine lx_pick rfl rfl rfl rfl rfl ?_
            refine lx_pick rfl rfl rfl rfl rfl ?_
            refine lx_nil ?_
            refine x_false rfl ?_
            refine x_skip ?_
            refine xs_plain (E := EE []) ?_
            refine lx_loada 7 rfl rfl Tryd.isAgg30 Tryd.sizeOf30 (by simp) rfl rfl ?_
            refine lx_call rfl rfl ent26 (e2square _) rfl rfl ?_
            refine lx_call rfl rfl ent41 (e2sqrtY (ml2 a a) (NL a) (NL_sq a) (NL_small a)) rfl rfl ?_
            refine lx_move rfl rfl rfl ?_
            refine lx_ext rfl rfl rfl rfl ?_
            refine lx_ext rfl rfl rfl rfl ?_
            refine lx_allocr 12 hGF zv30 rfl rfl ?_
            intro b12
            refine lx_storea 12 hGF rfl rfl rfl Tryd.sizeOf30 (by simp) (by simp) (one_u64 _) rfl ?_
            refine lx_assign rfl rfl rfl ?_
            refine lx_nil ?_
            refine xs_drawn (E := EE []) mixed (by kernel_rfl) (by kernel_rfl) (by kernel_rfl) ?_
            refine lx_move rfl rfl rfl ?_
            refine lx_move rfl rfl rfl ?_
            refine lx_loada 12 rfl rfl Tryd.isAgg30 Tryd.sizeOf30 (by simp) rfl rfl ?_
            refine lx_loada 7 rfl rfl Tryd.isAgg30 Tryd.sizeOf30 (by simp) rfl rfl ?_
            refine lx_callB true rfl rfl ent33 (e2equal _ _) (decide_eq_true (h2)) rfl rfl ?_
            refine lx_move rfl rfl rfl ?_
            refine lx_skip rfl rfl rfl ?_
            refine lx_skip rfl rfl rfl ?_
            refine lx_skip rfl rfl rfl ?_
            refine lx_skip rfl rfl rfl ?_
            refine lx_pick rfl rfl rfl rfl rfl ?_
            refine lx_pick rfl rfl rfl rfl rfl ?_
            refine lx_move rfl rfl rfl ?_
            refine lx_loada 7 rfl rfl Tryd.isAgg30 Tryd.sizeOf30 (by simp) rfl rfl ?_
            refine lx_call rfl rfl ent26 (e2square _) rfl rfl ?_
            refine lx_callB true rfl rfl ent43 (e2isSquare _) (decide_eq_true ((root_iff _).1 (nm2_sq rfl))) rfl rfl ?_
            refine lx_pick rfl rfl rfl rfl rfl ?_
            refine lx_assign rfl rfl rfl ?_
            refine lx_nil ?_
            refine x_ret ?_
            repeat (first | refine kseq_ret ?_ | refine kblk_ret ?_)
            exact kret_tmp rfl rfl (fun w hw => ⟨rfl, hp_below hw⟩)
          · skip
            refine xs_plain (E := EE []) ?_
            refine lx_loada 7 rfl rfl Tryd.isAgg30 Tryd.sizeOf30 (by simp) rfl rfl ?_
            refine lx_call rfl rfl ent41 (e2sqrtY a r hr hl) rfl rfl ?_
            refine lx_move rfl rfl rfl ?_
            refine lx_ext rfl rfl rfl rfl ?_
            refine lx_ext rfl rfl rfl rfl ?_
            refine lx_allocr 8 hGF zv30 rfl rfl ?_
            intro b8
            refine lx_storea 8 hGF rfl rfl rfl Tryd.sizeOf30 (by simp) (by simp) (one_u64 _) rfl ?_
            refine lx_assign rfl rfl rfl ?_
            refine lx_nil ?_
            refine xs_plain (E := EE []) ?_
            refine lx_loada 7 rfl rfl Tryd.isAgg30 Tryd.sizeOf30 (by simp) rfl rfl ?_
            refine lx_call rfl rfl ent12 (ref5 _) rfl rfl ?_
            refine lx_call rfl rfl ent42 (r5sqrtY a r hr hl) rfl rfl ?_
            refine lx_move rfl rfl rfl ?_
            refine lx_ext rfl rfl rfl rfl ?_
            refine lx_ext rfl rfl rfl rfl ?_
            refine lx_allocr 10 hGF zv36 rfl rfl ?_
            intro b10
            refine lx_storea 10 hGF rfl rfl rfl Tryd.sizeOf36 (by simp) (by simp) (one_u64 _) rfl ?_
            refine lx_assign rfl rfl rfl ?_
            refine lx_nil ?_
            refine x_seq ?_
            refine xs_drawn (E := EE []) mixed (by kernel_rfl) (by kernel_rfl) (by kernel_rfl) ?_
            refine lx_move rfl rfl rfl ?_
            refine lx_move rfl rfl rfl ?_
            refine lx_binB false rfl rfl (fun _ => rfl) (fun w => bin_neq_bool 4 Tryd.underlying4 _ _ w) (rfl) rfl rfl ?_
            refine lx_move rfl rfl rfl ?_
            refine lx_loada 8 rfl rfl Tryd.isAgg30 Tryd.sizeOf30 (by simp) rfl rfl ?_
            refine lx_loada 10 rfl rfl Tryd.isAgg36 Tryd.sizeOf36 (by simp) rfl rfl ?_
            refine lx_callB true rfl rfl ent15 (same5 _ _) (decide_eq_true (rfl)) rfl rfl ?_
            refine lx_un rfl (fun _ => un_not _) rfl rfl ?_
            refine lx_pick rfl rfl rfl rfl rfl ?_
            refine lx_move rfl rfl rfl ?_
            refine lx_loada 7 rfl rfl Tryd.isAgg30 Tryd.sizeOf30 (by simp) rfl rfl ?_
            refine lx_callB true rfl rfl ent43 (e2isSquare _) (decide_eq_true ((root_iff _).1 q)) rfl rfl ?_
            refine lx_move rfl rfl rfl ?_
            refine lx_binB false rfl rfl (fun _ => rfl) (fun w => bin_neq_bool 4 Tryd.underlying4 _ _ w) (rfl) rfl rfl ?_
            refine lx_pick rfl rfl rfl rfl rfl ?_
            refine lx_move rfl rfl rfl ?_
            refine lx_move rfl rfl rfl ?_
            refine lx_move rfl rfl rfl ?_
            refine lx_loada 8 rfl rfl Tryd.isAgg30 Tryd.sizeOf30 (by simp) rfl rfl ?_
            refine lx_call rfl rfl ent26 (e2square _) rfl rfl ?_
            refine lx_loada 7 rfl rfl Tryd.isAgg30 Tryd.sizeOf30 (by simp) rfl rfl ?_
            refine lx_callB true rfl rfl ent33 (e2equal _ _) (decide_eq_true (hr)) rfl rfl ?_
            refine lx_un rfl (fun _ => un_not _) rfl rfl ?_
            refine lx_move rfl rfl rfl ?_
            refine lx_loada 8 rfl rfl Tryd.isAgg30 Tryd.sizeOf30 (by simp) rfl rfl ?_
            refine lx_callB false rfl rfl ent44 (e2large _) (hl) rfl rfl ?_
            refine lx_pick rfl rfl rfl rfl rfl ?_
            refine lx_pick rfl rfl rfl rfl rfl ?_
            refine lx_pick rfl rfl rfl rfl rfl ?_
            refine lx_nil ?_
            refine x_false rfl ?_
            refine x_skip ?_
            refine xs_plain (E := EE []) ?_
            refine lx_loada 7 rfl rfl Tryd.isAgg30 Tryd.sizeOf30 (by simp) rfl rfl ?_
            refine lx_call rfl rfl ent26 (e2square _) rfl rfl ?_
            refine lx_call rfl rfl ent41 (e2sqrtY (ml2 a a) (NL a) (NL_sq a) (NL_small a)) rfl rfl ?_
            refine lx_move rfl rfl rfl ?_
            refine lx_ext rfl rfl rfl rfl ?_
            refine lx_ext rfl rfl rfl rfl ?_
            refine lx_allocr 12 hGF zv30 rfl rfl ?_
            intro b12
            refine lx_storea 12 hGF rfl rfl rfl Tryd.sizeOf30 (by simp) (by simp) (one_u64 _) rfl ?_
            refine lx_assign rfl rfl rfl ?_
            refine lx_nil ?_
            refine xs_drawn (E := EE []) mixed (by kernel_rfl) (by kernel_rfl) (by kernel_rfl) ?_
            refine lx_move rfl rfl rfl ?_
            refine lx_move rfl rfl rfl ?_
            refine lx_loada 12 rfl rfl Tryd.isAgg30 Tryd.sizeOf30 (by simp) rfl rfl ?_
            refine lx_loada 7 rfl rfl Tryd.isAgg30 Tryd.sizeOf30 (by simp) rfl rfl ?_
            refine lx_callB false rfl rfl ent33 (e2equal _ _) (decide_eq_false (h2)) rfl rfl ?_
            refine lx_move rfl rfl rfl ?_
            refine lx_loada 12 rfl rfl Tryd.isAgg30 Tryd.sizeOf30 (by simp) rfl rfl ?_
            refine lx_loada 7 rfl rfl Tryd.isAgg30 Tryd.sizeOf30 (by simp) rfl rfl ?_
            refine lx_call rfl rfl ent20 (e2neg _) rfl rfl ?_
            refine lx_callB true rfl rfl ent33 (e2equal _ _) (decide_eq_true ((NL_or a).resolve_left h2)) rfl rfl ?_
            refine lx_pick rfl rfl rfl rfl rfl ?_
            refine lx_pick rfl rfl rfl rfl rfl ?_
            refine lx_move rfl rfl rfl ?_
            refine lx_loada 7 rfl rfl Tryd.isAgg30 Tryd.sizeOf30 (by simp) rfl rfl ?_
            refine lx_call rfl rfl ent26 (e2square _) rfl rfl ?_
            refine lx_callB true rfl rfl ent43 (e2isSquare _) (decide_eq_true ((root_iff _).1 (nm2_sq rfl))) rfl rfl ?_
            refine lx_pick rfl rfl rfl rfl rfl ?_
            refine lx_assign rfl rfl rfl ?_
            refine lx_nil ?_
            refine x_ret ?_
            repeat (first | refine kseq_ret ?_ | refine kblk_ret ?_)
            exact kret_tmp rfl rfl (fun w hw => ⟨rfl, hp_below hw⟩)
        · skip
          by_cases h2 : NL a = a
          · skip
            refine xs_plain (E := EE []) ?_
            refine lx_loada 7 rfl rfl Tryd.isAgg30 Tryd.sizeOf30 (by simp) rfl rfl ?_
            refine lx_call rfl rfl ent41 (e2sqrtN a q) rfl rfl ?_
            refine lx_move rfl rfl rfl ?_
            refine lx_ext rfl rfl rfl rfl ?_
            refine lx_ext rfl rfl rfl rfl ?_
            refine lx_allocr 8 hGF zv30 rfl rfl ?_
            intro b8
            refine lx_storea 8 hGF rfl rfl rfl Tryd.sizeOf30 (by simp) (by simp) (one_u64 _) rfl ?_
            refine lx_assign rfl rfl rfl ?_
            refine lx_nil ?_
            refine xs_plain (E := EE []) ?_
            refine lx_loada 7 rfl rfl Tryd.isAgg30 Tryd.sizeOf30 (by simp) rfl rfl ?_
            refine lx_call rfl rfl ent12 (ref5 _) rfl rfl ?_
            refine lx_call rfl rfl ent42 (r5sqrtN a q) rfl rfl ?_
            refine lx_move rfl rfl rfl ?_
            refine lx_ext rfl rfl rfl rfl ?_
            refine lx_ext rfl rfl rfl rfl ?_
            refine lx_allocr 10 hGF zv36 rfl rfl ?_
            intro b10
            refine lx_storea 10 hGF rfl rfl rfl Tryd.sizeOf36 (by simp) (by simp) (one_u64 _) rfl ?_
            refine lx_assign rfl rfl rfl ?_
            refine lx_nil ?_
            refine x_seq ?_
            refine xs_drawn (E := EE []) mixed (by kernel_rfl) (by kernel_rfl) (by kernel_rfl) ?_
            refine lx_move rfl rfl rfl ?_
            refine lx_move rfl rfl rfl ?_
            refine lx_binB false rfl rfl (fun _ => rfl) (fun w => bin_neq_bool 4 Tryd.underlying4 _ _ w) (rfl) rfl rfl ?_
            refine lx_move rfl rfl rfl ?_
            refine lx_loada 8 rfl rfl Tryd.isAgg30 Tryd.sizeOf30 (by simp) rfl rfl ?_
            refine lx_loada 10 rfl rfl Tryd.isAgg36 Tryd.sizeOf36 (by simp) rfl rfl ?_
            refine lx_callB true rfl rfl ent15 (same5 _ _) (decide_eq_true (rfl)) rfl rfl ?_
            refine lx_un rfl (fun _ => un_not _) rfl rfl ?_
            refine lx_pick rfl rfl rfl rfl rfl ?_
            refine lx_move rfl rfl rfl ?_
            refine lx_loada 7 rfl rfl Tryd.isAgg30 Tryd.sizeOf30 (by simp) rfl rfl ?_
            refine lx_callB false rfl rfl ent43 (e2isSquare _) (decide_eq_false (fun h => q ((root_iff _).2 h))) rfl rfl ?_
            refine lx_move rfl rfl rfl ?_
            refine lx_binB false rfl rfl (fun _ => rfl) (fun w => bin_neq_bool 4 Tryd.underlying4 _ _ w) (rfl) rfl rfl ?_
            refine lx_pick rfl rfl rfl rfl rfl ?_
            refine lx_move rfl rfl rfl ?_
            refine lx_move rfl rfl rfl ?_
            refine lx_move rfl rfl rfl ?_
            refine lx_skip rfl rfl rfl ?_
            refine lx_skip rfl rfl rfl ?_
            refine lx_skip rfl rfl rfl ?_
            refine lx_skip rfl rfl rfl ?_
            refine lx_skip rfl rfl rfl ?_
            refine lx_skip rfl rfl rfl ?_
            refine lx_skip rfl rfl rfl ?_
            refine lx_skip rfl rfl rfl ?_
            refine lx_skip rfl rfl rfl ?_
            refine lx_pick rfl rfl rfl rfl rfl ?_
            refine lx_pick rfl rfl rfl rfl rfl ?_
            refine lx_nil ?_
            refine x_false rfl ?_
            refine x_skip ?_
            refine xs_plain (E := EE []) ?_
            refine lx_loada 7 rfl rfl Tryd.isAgg30 Tryd.sizeOf30 (by simp) rfl rfl ?_
            refine lx_call rfl rfl ent26 (e2square _) rfl rfl ?_
            refine lx_call rfl rfl ent41 (e2sqrtY (ml2 a a) (NL a) (NL_sq a) (NL_small a)) rfl rfl ?_
            refine lx_move rfl rfl rfl ?_
            refine lx_ext rfl rfl rfl rfl ?_
            refine lx_ext rfl rfl rfl rfl ?_
            refine lx_allocr 12 hGF zv30 rfl rfl ?_
            intro b12
            refine lx_storea 12 hGF rfl rfl rfl Tryd.sizeOf30 (by simp) (by simp) (one_u64 _) rfl ?_
            refine lx_assign rfl rfl rfl ?_
            refine lx_nil ?_
            refine xs_drawn (E := EE []) mixed (by kernel_rfl) (by kernel_rfl) (by kernel_rfl) ?_
            refine lx_move rfl rfl rfl ?_
            refine lx_move rfl rfl rfl ?_
            refine lx_loada 12 rfl rfl Tryd.isAgg30 Tryd.sizeOf30 (by simp) rfl rfl ?_
            refine lx_loada 7 rfl rfl Tryd.isAgg30 Tryd.sizeOf30 (by simp) rfl rfl ?_
            refine lx_callB true rfl rfl ent33 (e2equal _ _) (decide_eq_true (h2)) rfl rfl ?_
            refine lx_move rfl rfl rfl ?_
            refine lx_skip rfl rfl rfl ?_
            refine lx_skip rfl rfl rfl ?_
            refine lx_skip rfl rfl rfl ?_
            refine lx_skip rfl rfl rfl ?_
            refine lx_pick rfl rfl rfl rfl rfl ?_
            refine lx_pick rfl rfl rfl rfl rfl ?_
            refine lx_move rfl rfl rfl ?_
            refine lx_loada 7 rfl rfl Tryd.isAgg30 Tryd.sizeOf30 (by simp) rfl rfl ?_
            refine lx_call rfl rfl ent26 (e2square _) rfl rfl ?_
            refine lx_callB true rfl rfl ent43 (e2isSquare _) (decide_eq_true ((root_iff _).1 (nm2_sq rfl))) rfl rfl ?_
            refine lx_pick rfl rfl rfl rfl rfl ?_
            refine lx_assign rfl rfl rfl ?_
            refine lx_nil ?_
            refine x_ret ?_
            repeat (first | refine kseq_ret ?_ | refine kblk_ret ?_)
            exact kret_tmp rfl rfl (fun w hw => ⟨rfl, hp_below hw⟩)
          · skip
            refine xs_plain (E := EE []) ?_
            refine lx_loada 7 rfl rfl Tryd.isAgg30 Tryd.sizeOf30 (by simp) rfl rfl ?_
            refine lx_call rfl rfl ent41 (e2sqrtN a q) rfl rfl ?_
            refine lx_move rfl rfl rfl ?_
            refine lx_ext rfl rfl rfl rfl ?_
            refine lx_ext rfl rfl rfl rfl ?_
            refine lx_allocr 8 hGF zv30 rfl rfl ?_
            intro b8
            refine lx_storea 8 hGF rfl rfl rfl Tryd.sizeOf30 (by simp) (by simp) (one_u64 _) rfl ?_
            refine lx_assign rfl rfl rfl ?_
            refine lx_nil ?_
            refine xs_plain (E := EE []) ?_
            refine lx_loada 7 rfl rfl Tryd.isAgg30 Tryd.sizeOf30 (by simp) rfl rfl ?_
            refine lx_call rfl rfl ent12 (ref5 _) rfl rfl ?_
            refine lx_call rfl rfl ent42 (r5sqrtN a q) rfl rfl ?_
            refine lx_move rfl rfl rfl ?_
            refine lx_ext rfl rfl rfl rfl ?_
            refine lx_ext rfl rfl rfl rfl ?_
            refine lx_allocr 10 hGF zv36 rfl rfl ?_
            intro b10
            refine lx_storea 10 hGF rfl rfl rfl Tryd.sizeOf36 (by simp) (by simp) (one_u64 _) rfl ?_
            refine lx_assign rfl rfl rfl ?_
            refine lx_nil ?_
            refine x_seq ?_
            refine xs_drawn (E := EE []) mixed (by kernel_rfl) (by kernel_rfl) (by kernel_rfl) ?_
            refine lx_move rfl rfl rfl ?_
            refine lx_move rfl rfl rfl ?_
            refine lx_binB false rfl rfl (fun _ => rfl) (fun w => bin_neq_bool 4 Tryd.underlying4 _ _ w) (rfl) rfl rfl ?_
            refine lx_move rfl rfl rfl ?_
            refine lx_loada 8 rfl rfl Tryd.isAgg30 Tryd.sizeOf30 (by simp) rfl rfl ?_
            refine lx_loada 10 rfl rfl Tryd.isAgg36 Tryd.sizeOf36 (by simp) rfl rfl ?_
            refine lx_callB true rfl rfl ent15 (same5 _ _) (decide_eq_true (rfl)) rfl rfl ?_
            refine lx_un rfl (fun _ => un_not _) rfl rfl ?_
            refine lx_pick rfl rfl rfl rfl rfl ?_
            refine lx_move rfl rfl rfl ?_
            refine lx_loada 7 rfl rfl Tryd.isAgg30 Tryd.sizeOf30 (by simp) rfl rfl ?_
            refine lx_callB false rfl rfl ent43 (e2isSquare _) (decide_eq_false (fun h => q ((root_iff _).2 h))) rfl rfl ?_
            refine lx_move rfl rfl rfl ?_
            refine lx_binB false rfl rfl (fun _ => rfl) (fun w => bin_neq_bool 4 Tryd.underlying4 _ _ w) (rfl) rfl rfl ?_
            refine lx_pick rfl rfl rfl rfl rfl ?_
            refine lx_move rfl rfl rfl ?_
            refine lx_move rfl rfl rfl ?_
            refine lx_move rfl rfl rfl ?_
            refine lx_skip rfl rfl rfl ?_
            refine lx_skip rfl rfl rfl ?_
            refine lx_skip rfl rfl rfl ?_
            refine lx_skip rfl rfl rfl ?_
            refine lx_skip rfl rfl rfl ?_
            refine lx_skip rfl rfl rfl ?_
            refine lx_skip rfl rfl rfl ?_
            refine lx_skip rfl rfl rfl ?_
            refine lx_skip rfl rfl rfl ?_
            refine lx_pick rfl rfl rfl rfl rfl ?_
            refine lx_pick rfl rfl rfl rfl rfl ?_
            refine lx_nil ?_
            refine x_false rfl ?_
            refine x_skip ?_
            refine xs_plain (E := EE []) ?_
            refine lx_loada 7 rfl rfl Tryd.isAgg30 Tryd.sizeOf30 (by simp) rfl rfl ?_
            refine lx_call rfl rfl ent26 (e2square _) rfl rfl ?_
            refine lx_call rfl rfl ent41 (e2sqrtY (ml2 a a) (NL a) (NL_sq a) (NL_small a)) rfl rfl ?_
            refine lx_move rfl rfl rfl ?_
            refine lx_ext rfl rfl rfl rfl ?_
            refine lx_ext rfl rfl rfl rfl ?_
            refine lx_allocr 12 hGF zv30 rfl rfl ?_
            intro b12
            refine lx_storea 12 hGF rfl rfl rfl Tryd.sizeOf30 (by simp) (by simp) (one_u64 _) rfl ?_
            refine lx_assign rfl rfl rfl ?_
            refine lx_nil ?_
            refine xs_drawn (E := EE []) mixed (by kernel_rfl) (by kernel_rfl) (by kernel_rfl) ?_
            refine lx_move rfl rfl rfl ?_
            refine lx_move rfl rfl rfl ?_
            refine lx_loada 12 rfl rfl Tryd.isAgg30 Tryd.sizeOf30 (by simp) rfl rfl ?_
            refine lx_loada 7 rfl rfl Tryd.isAgg30 Tryd.sizeOf30 (by simp) rfl rfl ?_
            refine lx_callB false rfl rfl ent33 (e2equal _ _) (decide_eq_false (h2)) rfl rfl ?_
            refine lx_move rfl rfl rfl ?_
            refine lx_loada 12 rfl rfl Tryd.isAgg30 Tryd.sizeOf30 (by simp) rfl rfl ?_
            refine lx_loada 7 rfl rfl Tryd.isAgg30 Tryd.sizeOf30 (by simp) rfl rfl ?_
            refine lx_call rfl rfl ent20 (e2neg _) rfl rfl ?_
            refine lx_callB true rfl rfl ent33 (e2equal _ _) (decide_eq_true ((NL_or a).resolve_left h2)) rfl rfl ?_
            refine lx_pick rfl rfl rfl rfl rfl ?_
            refine lx_pick rfl rfl rfl rfl rfl ?_
            refine lx_move rfl rfl rfl ?_
            refine lx_loada 7 rfl rfl Tryd.isAgg30 Tryd.sizeOf30 (by simp) rfl rfl ?_
            refine lx_call rfl rfl ent26 (e2square _) rfl rfl ?_
            refine lx_callB true rfl rfl ent43 (e2isSquare _) (decide_eq_true ((root_iff _).1 (nm2_sq rfl))) rfl rfl ?_
            refine lx_pick rfl rfl rfl rfl rfl ?_
            refine lx_assign rfl rfl rfl ?_
            refine lx_nil ?_
            refine x_ret ?_
            repeat (first | refine kseq_ret ?_ | refine kblk_ret ?_)
            exact kret_tmp rfl rfl (fun w hw => ⟨rfl, hp_below hw⟩)
end Go.Proofs.YtceogjapiphokaaDoor
