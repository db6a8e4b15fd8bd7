/-
  The law PointsOutside.
-/
import Derived.Test.YtamddkjccmhgaaaGreatDoorV13
namespace Go.Proofs.YtamddkjccmhgaaaGreatDoor
open Go.RowKit
set_option maxRecDepth 100000
set_option maxHeartbeats 1000000
attribute [local simp] fe_len nm_len AS_len SS_len MONT_len RM_len FRs_len BYs_len by48_len PLl TWOl ONEl N1l IVPl HFPl RTPl FL_len SP_len fe2_len SP2_len FM_len J1.GL_len J2.GL_len MK_len OR0_len EN1_len EN2_len

theorem out_big0 (e0 : Option Addr) (cap0 : Nat) (bs0 : List (BitVec 8)) (e1 : Option Addr) (cap1 : Nat) (bs1 : List (BitVec 8)) (l : Bool) (hL0 : ¬ bs0.length ≤ 60) (w : World) (hw : Gt w) : Calls Tryz.prog 7 [.slice e0 bs0.length cap0, .slice e1 bs1.length cap1, .bool l].toArray w (fun r w' => r = .returned (.bool true) ∧ Grow w w') := by
  have hGF : BOk Gt (pl w) := gt_low.plain hw
  refine calls_of_X (G := Gt) Tryz.func7 rfl rfl (Hp (pl w) []) (hp_refl (pl w) trivial rides_true) (good_hp hGF) ?_
  refine xs_plain (E := EE [27, 2000027]) ?_
  refine lx_assign rfl rfl rfl ?_
  refine lx_nil ?_
  refine x_seq ?_
  refine xs_plain (E := EE [27, 2000027]) ?_
  refine lx_call rfl rfl ent8 known10 rfl rfl ?_
  refine lx_un rfl (fun _ => un_not _) rfl rfl ?_
  refine lx_nil ?_
  refine x_false rfl ?_
  refine x_skip ?_
  refine x_seq ?_
  refine xs_plain (E := EE [27, 2000027]) ?_
  refine lx_move rfl rfl rfl ?_
  refine lx_len rfl (fun _ => len_slice Tryz.underlying22 _ _ _ _) rfl rfl ?_
  refine lx_binB true rfl rfl (fun _ => rfl) (fun _ => bin_gtr_i _ _ _) (decide_eq_true (by omega)) rfl rfl ?_
  refine lx_move rfl rfl rfl ?_
  refine lx_skip rfl rfl rfl ?_
  refine lx_skip rfl rfl rfl ?_
  refine lx_skip rfl rfl rfl ?_
  refine lx_pick rfl rfl rfl rfl rfl ?_
  refine lx_nil ?_
  refine x_true rfl ?_
  refine xs_plain (E := EE [27, 2000027]) ?_
  refine lx_assign rfl rfl rfl ?_
  refine lx_nil ?_
  refine x_ret ?_
  repeat (first | refine kseq_ret ?_ | refine kblk_ret ?_)
  exact kret_tmp rfl rfl (fun w hw => ⟨rfl, hp_below hw⟩)
theorem out_big1 (e0 : Option Addr) (cap0 : Nat) (bs0 : List (BitVec 8)) (e1 : Option Addr) (cap1 : Nat) (bs1 : List (BitVec 8)) (l : Bool) (hL0 : bs0.length ≤ 60) (hL1 : ¬ bs1.length ≤ 60) (w : World) (hw : Gt w) : Calls Tryz.prog 7 [.slice e0 bs0.length cap0, .slice e1 bs1.length cap1, .bool l].toArray w (fun r w' => r = .returned (.bool true) ∧ Grow w w') := by
  have hGF : BOk Gt (pl w) := gt_low.plain hw
  refine calls_of_X (G := Gt) Tryz.func7 rfl rfl (Hp (pl w) []) (hp_refl (pl w) trivial rides_true) (good_hp hGF) ?_
  refine xs_plain (E := EE [27, 2000027]) ?_
  refine lx_assign rfl rfl rfl ?_
  refine lx_nil ?_
  refine x_seq ?_
  refine xs_plain (E := EE [27, 2000027]) ?_
  refine lx_call rfl rfl ent8 known10 rfl rfl ?_
  refine lx_un rfl (fun _ => un_not _) rfl rfl ?_
  refine lx_nil ?_
  refine x_false rfl ?_
  refine x_skip ?_
  refine x_seq ?_
  refine xs_plain (E := EE [27, 2000027]) ?_
  refine lx_move rfl rfl rfl ?_
  refine lx_len rfl (fun _ => len_slice Tryz.underlying22 _ _ _ _) rfl rfl ?_
  refine lx_binB false rfl rfl (fun _ => rfl) (fun _ => bin_gtr_i _ _ _) (decide_eq_false (by omega)) rfl rfl ?_
  refine lx_move rfl rfl rfl ?_
  refine lx_move rfl rfl rfl ?_
  refine lx_len rfl (fun _ => len_slice Tryz.underlying22 _ _ _ _) rfl rfl ?_
  refine lx_binB true rfl rfl (fun _ => rfl) (fun _ => bin_gtr_i _ _ _) (decide_eq_true (by omega)) rfl rfl ?_
  refine lx_pick rfl rfl rfl rfl rfl ?_
  refine lx_nil ?_
  refine x_true rfl ?_
  refine xs_plain (E := EE [27, 2000027]) ?_
  refine lx_assign rfl rfl rfl ?_
  refine lx_nil ?_
  refine x_ret ?_
  repeat (first | refine kseq_ret ?_ | refine kblk_ret ?_)
  exact kret_tmp rfl rfl (fun w hw => ⟨rfl, hp_below hw⟩)
theorem out_ok (e0 : Option Addr) (cap0 : Nat) (bs0 : List (BitVec 8)) (hc0 : bs0.length ≤ cap0) (e1 : Option Addr) (cap1 : Nat) (bs1 : List (BitVec 8)) (hc1 : bs1.length ≤ cap1) (l : Bool) (hL0 : bs0.length ≤ 60) (hL1 : bs1.length ≤ 60) (w : World) (hw : Gt w) (hb0 : BytesAt w e0 bs0) (hb1 : BytesAt w e1 bs1) : Calls Tryz.prog 7 [.slice e0 bs0.length cap0, .slice e1 bs1.length cap1, .bool l].toArray w (fun r w' => r = .returned (.bool true) ∧ Grow w w') := by
  have hGF : BOk Gt (pl w) := gt_low.plain hw
  refine calls_of_X (G := Gt) Tryz.func7 rfl rfl (Hp (pl w) []) (hp_refl (pl w) trivial rides_true) (good_hp hGF) ?_
  refine xs_plain (E := EE [27, 2000027]) ?_
  refine lx_assign rfl rfl rfl ?_
  refine lx_nil ?_
  refine x_seq ?_
  refine xs_plain (E := EE [27, 2000027]) ?_
  refine lx_call rfl rfl ent8 known10 rfl rfl ?_
  refine lx_un rfl (fun _ => un_not _) rfl rfl ?_
  refine lx_nil ?_
  refine x_false rfl ?_
  refine x_skip ?_
  refine x_seq ?_
  refine xs_plain (E := EE [27, 2000027]) ?_
  refine lx_move rfl rfl rfl ?_
  refine lx_len rfl (fun _ => len_slice Tryz.underlying22 _ _ _ _) rfl rfl ?_
  refine lx_binB false rfl rfl (fun _ => rfl) (fun _ => bin_gtr_i _ _ _) (decide_eq_false (by omega)) rfl rfl ?_
  refine lx_move rfl rfl rfl ?_
  refine lx_move rfl rfl rfl ?_
  refine lx_len rfl (fun _ => len_slice Tryz.underlying22 _ _ _ _) rfl rfl ?_
  refine lx_binB false rfl rfl (fun _ => rfl) (fun _ => bin_gtr_i _ _ _) (decide_eq_false (by omega)) rfl rfl ?_
  refine lx_pick rfl rfl rfl rfl rfl ?_
  refine lx_nil ?_
  refine x_false rfl ?_
  refine x_skip ?_
  refine xs_plain (E := EE [27, 2000027]) ?_
  refine lx_move rfl rfl rfl ?_
  refine lx_callC rfl rfl ent29 (fun w' hC hG => fwide_calls e0 cap0 bs0 (by omega) hc0 w' hG (hb0.grow (hp_below hC))) rfl rfl ?_
  refine lx_move rfl rfl rfl ?_
  refine lx_callC rfl rfl ent29 (fun w' hC hG => fwide_calls e0 cap0 bs0 (by omega) hc0 w' hG (hb0.grow (hp_below hC))) rfl rfl ?_
  refine lx_move rfl rfl rfl ?_
  refine lx_callC rfl rfl ent29 (fun w' hC hG => fwide_calls e1 cap1 bs1 (by omega) hc1 w' hG (hb1.grow (hp_below hC))) rfl rfl ?_
  refine lx_two two50 rfl rfl (by simp) (by simp) rfl rfl ?_
  refine lx_allocr 7 hGF zv28 rfl rfl ?_
  intro b7
  refine lx_allocr 8 hGF zv50 rfl rfl ?_
  intro b8
  refine lx_storea 7 hGF rfl rfl rfl Tryz.sizeOf28 (by simp) (by simp) (one_u64 _) rfl ?_
  refine lx_storea 8 hGF rfl rfl rfl Tryz.sizeOf50 (by simp) (by simp) (one_u64 _) rfl ?_
  refine lx_nil ?_
  refine x_join (ι := Unit) (fun _ => [(2, .bool l), (8, .pointer (some ⟨b8, 0, none⟩))]) (fun _ => [(8, b8, (fe (ZB bs0) ++ fe (ZB bs1)).map U64, 50)]) hGF ?_ ?_
  · skip
    by_cases hq : J1.LQ (ZB bs0)
    · skip
      obtain ⟨p, hF⟩ : ∃ p : J1.GP, Pure Tryz.prog Gt 30 [EV (ZB bs0), .bool l] (.tuple #[J1.PtV p, .bool true]) := ⟨_, J1.lift_y _ l hq⟩
      by_cases hg : E1.times p.P ORD = none
      · skip
        refine xs_plain (E := EE [27, 2000027]) ?_
        refine lx_loada 7 rfl rfl Tryz.isAgg28 Tryz.sizeOf28 (by simp) rfl rfl ?_
        refine lx_move rfl rfl rfl ?_
        refine lx_call rfl rfl ent30 (hF) rfl rfl ?_
        refine lx_move rfl rfl rfl ?_
        refine lx_ext rfl rfl rfl rfl ?_
        refine lx_ext rfl rfl rfl rfl ?_
        refine lx_allocr 9 hGF J1.zv30 rfl rfl ?_
        intro b9
        refine lx_storea 9 hGF rfl rfl rfl Tryz.sizeOf30 (by simp) (by simp) (one_u64 _) rfl ?_
        refine lx_assign rfl rfl rfl ?_
        refine lx_nil ?_
        refine xs_plain (E := EE [27, 2000027]) ?_
        refine lx_move rfl rfl rfl ?_
        refine lx_nil ?_
        refine x_true rfl ?_
        refine xs_plain (E := EE [27, 2000027]) ?_
        refine lx_loada 9 rfl rfl Tryz.isAgg30 Tryz.sizeOf30 (by simp) rfl rfl ?_
        refine lx_call rfl rfl ent15 (enc1_p p) rfl rfl ?_
        refine lx_allocr 11 hGF zv46 rfl rfl ?_
        intro b11
        refine lx_storea 11 hGF rfl rfl rfl Tryz.sizeOf46 (by simp) (by simp) (one_u8 _) rfl ?_
        refine lx_nil ?_
        refine xs_plain (E := EE [27, 2000027]) ?_
        refine lx_slarr1 (l := 0) (h' := 48) rfl Tryz.underlying46 Tryz.sizeOf5 rfl rfl (by decide) (by decide) rfl rfl ?_
        refine lx_callC rfl rfl ent10 (fun w' hC hG => dec1_p _ 48 48 (EN1 p.P) (EN1_len _) 0 p.P (D1_in p.on hg) (by decide) w' hG (BytesAt.range (hp_row (n := 11) rfl w' hC))) rfl rfl ?_
        refine lx_move rfl rfl rfl ?_
        refine lx_ext rfl rfl rfl rfl ?_
        refine lx_ext rfl rfl rfl rfl ?_
        refine lx_allocr 12 hGF J1.zv30 rfl rfl ?_
        intro b12
        refine lx_storea 12 hGF rfl rfl rfl Tryz.sizeOf30 (by simp) (by simp) (one_u64 _) rfl ?_
        refine lx_assign rfl rfl rfl ?_
        refine lx_nil ?_
        refine xs_drawn (E := EE [27, 2000027]) mixed (by kernel_rfl) (by kernel_rfl) (by kernel_rfl) ?_
        refine lx_slarr1 (l := 0) (h' := 48) rfl Tryz.underlying46 Tryz.sizeOf5 rfl rfl (by decide) (by decide) rfl rfl ?_
        refine lx_loada 9 rfl rfl Tryz.isAgg30 Tryz.sizeOf30 (by simp) rfl rfl ?_
        refine lx_call rfl rfl ent13 (J1.refs8 p) rfl rfl ?_
        refine lx_callG rfl rfl ent27 rfl rfl (fun w' hw' => (r9enc1_c p.P w' (hGF.g _ _ _ hw')).mono fun e' w'' h => ?_)
        obtain ⟨b933, rfl, hg, hb, hob⟩ := h
        refine ⟨_, _, rfl, good_hp hGF, hw'.news rides_true hg [(933, b933, (EN1 p.P).map U8, 5)] ?_ inj_one, hp_fresh rides_true rfl, ?_⟩
        · intro n' b' c' t' hl
          rcases lkB_cons hl with ⟨_, e⟩ | ⟨_, hl⟩
          · cases e; exact ⟨hb, hob⟩
          · cases hl
        clear hw' hg hb hob
        refine lx_callC rfl rfl ent12 (fun w' hC hG => bytes_same (EN1 p.P) _ 48 _ _ 48 _ (EN1_len _) (EN1_len _) w' hG (BytesAt.range (hp_row (n := 11) rfl w' hC)) (BytesAt.range (hp_row (n := 933) rfl w' hC))) rfl rfl ?_
        refine lx_un rfl (fun _ => un_not _) rfl rfl ?_
        refine lx_move rfl rfl rfl ?_
        refine lx_move rfl rfl rfl ?_
        refine lx_binB true rfl rfl (fun _ => rfl) (fun _ => bin_eql_i _ _ _) (rfl) rfl rfl ?_
        refine lx_loada 9 rfl rfl Tryz.isAgg30 Tryz.sizeOf30 (by simp) rfl rfl ?_
        refine lx_callB true rfl rfl ent31 (J1.inGroup_p p) (decide_eq_true hg) rfl rfl ?_
        refine lx_binB false rfl rfl (fun _ => rfl) (fun w => bin_neq_bool 4 Tryz.underlying4 _ _ w) (rfl) rfl rfl ?_
        refine lx_pick rfl rfl rfl rfl rfl ?_
        refine lx_move rfl rfl rfl ?_
        refine lx_move rfl rfl rfl ?_
        refine lx_binB true rfl rfl (fun _ => rfl) (fun _ => bin_eql_i _ _ _) (rfl) rfl rfl ?_
        refine lx_move rfl rfl rfl ?_
        refine lx_loada 12 rfl rfl Tryz.isAgg30 Tryz.sizeOf30 (by simp) rfl rfl ?_
        refine lx_loada 9 rfl rfl Tryz.isAgg30 Tryz.sizeOf30 (by simp) rfl rfl ?_
        refine lx_callB true rfl rfl ent25 (J1.equal_p _ _) (decide_eq_true rfl) rfl rfl ?_
        refine lx_un rfl (fun _ => un_not _) rfl rfl ?_
        refine lx_pick rfl rfl rfl rfl rfl ?_
        refine lx_pick rfl rfl rfl rfl rfl ?_
        refine lx_move rfl rfl rfl ?_
        refine lx_move rfl rfl rfl ?_
        refine lx_binB false rfl rfl (fun _ => rfl) (fun _ => bin_neq_i _ _ _) (rfl) rfl rfl ?_
        refine lx_move rfl rfl rfl ?_
        refine lx_skip rfl rfl rfl ?_
        refine lx_skip rfl rfl rfl ?_
        refine lx_pick rfl rfl rfl rfl rfl ?_
        refine lx_pick rfl rfl rfl rfl rfl ?_
        refine lx_nil ?_
        refine x_false rfl ?_
        refine x_skip ?_
        refine kseq_n ?_
        exact ⟨rfl, (), _, rfl, ⟨rfl, rfl, trivial⟩, ⟨rfl, trivial⟩⟩
      · skip
        refine xs_plain (E := EE [27, 2000027]) ?_
        refine lx_loada 7 rfl rfl Tryz.isAgg28 Tryz.sizeOf28 (by simp) rfl rfl ?_
        refine lx_move rfl rfl rfl ?_
        refine lx_call rfl rfl ent30 (hF) rfl rfl ?_
        refine lx_move rfl rfl rfl ?_
        refine lx_ext rfl rfl rfl rfl ?_
        refine lx_ext rfl rfl rfl rfl ?_
        refine lx_allocr 9 hGF J1.zv30 rfl rfl ?_
        intro b9
        refine lx_storea 9 hGF rfl rfl rfl Tryz.sizeOf30 (by simp) (by simp) (one_u64 _) rfl ?_
        refine lx_assign rfl rfl rfl ?_
        refine lx_nil ?_
        refine xs_plain (E := EE [27, 2000027]) ?_
        refine lx_move rfl rfl rfl ?_
        refine lx_nil ?_
        refine x_true rfl ?_
        refine xs_plain (E := EE [27, 2000027]) ?_
        refine lx_loada 9 rfl rfl Tryz.isAgg30 Tryz.sizeOf30 (by simp) rfl rfl ?_
        refine lx_call rfl rfl ent15 (enc1_p p) rfl rfl ?_
        refine lx_allocr 11 hGF zv46 rfl rfl ?_
        intro b11
        refine lx_storea 11 hGF rfl rfl rfl Tryz.sizeOf46 (by simp) (by simp) (one_u8 _) rfl ?_
        refine lx_nil ?_
        refine xs_plain (E := EE [27, 2000027]) ?_
        refine lx_slarr1 (l := 0) (h' := 48) rfl Tryz.underlying46 Tryz.sizeOf5 rfl rfl (by decide) (by decide) rfl rfl ?_
        refine lx_callC rfl rfl ent10 (fun w' hC hG => dec1_p _ 48 48 (EN1 p.P) (EN1_len _) 104 none (D1_out p.on hg) (by decide) w' hG (BytesAt.range (hp_row (n := 11) rfl w' hC))) rfl rfl ?_
        refine lx_move rfl rfl rfl ?_
        refine lx_ext rfl rfl rfl rfl ?_
        refine lx_ext rfl rfl rfl rfl ?_
        refine lx_allocr 12 hGF J1.zv30 rfl rfl ?_
        intro b12
        refine lx_storea 12 hGF rfl rfl rfl Tryz.sizeOf30 (by simp) (by simp) (one_u64 _) rfl ?_
        refine lx_assign rfl rfl rfl ?_
        refine lx_nil ?_
        refine xs_drawn (E := EE [27, 2000027]) mixed (by kernel_rfl) (by kernel_rfl) (by kernel_rfl) ?_
        refine lx_slarr1 (l := 0) (h' := 48) rfl Tryz.underlying46 Tryz.sizeOf5 rfl rfl (by decide) (by decide) rfl rfl ?_
        refine lx_loada 9 rfl rfl Tryz.isAgg30 Tryz.sizeOf30 (by simp) rfl rfl ?_
        refine lx_call rfl rfl ent13 (J1.refs8 p) rfl rfl ?_
        refine lx_callG rfl rfl ent27 rfl rfl (fun w' hw' => (r9enc1_c p.P w' (hGF.g _ _ _ hw')).mono fun e' w'' h => ?_)
        obtain ⟨b933, rfl, hg, hb, hob⟩ := h
        refine ⟨_, _, rfl, good_hp hGF, hw'.news rides_true hg [(933, b933, (EN1 p.P).map U8, 5)] ?_ inj_one, hp_fresh rides_true rfl, ?_⟩
        · intro n' b' c' t' hl
          rcases lkB_cons hl with ⟨_, e⟩ | ⟨_, hl⟩
          · cases e; exact ⟨hb, hob⟩
          · cases hl
        clear hw' hg hb hob
        refine lx_callC rfl rfl ent12 (fun w' hC hG => bytes_same (EN1 p.P) _ 48 _ _ 48 _ (EN1_len _) (EN1_len _) w' hG (BytesAt.range (hp_row (n := 11) rfl w' hC)) (BytesAt.range (hp_row (n := 933) rfl w' hC))) rfl rfl ?_
        refine lx_un rfl (fun _ => un_not _) rfl rfl ?_
        refine lx_move rfl rfl rfl ?_
        refine lx_move rfl rfl rfl ?_
        refine lx_binB false rfl rfl (fun _ => rfl) (fun _ => bin_eql_i _ _ _) (rfl) rfl rfl ?_
        refine lx_loada 9 rfl rfl Tryz.isAgg30 Tryz.sizeOf30 (by simp) rfl rfl ?_
        refine lx_callB false rfl rfl ent31 (J1.inGroup_p p) (decide_eq_false hg) rfl rfl ?_
        refine lx_binB false rfl rfl (fun _ => rfl) (fun w => bin_neq_bool 4 Tryz.underlying4 _ _ w) (rfl) rfl rfl ?_
        refine lx_pick rfl rfl rfl rfl rfl ?_
        refine lx_move rfl rfl rfl ?_
        refine lx_move rfl rfl rfl ?_
        refine lx_binB false rfl rfl (fun _ => rfl) (fun _ => bin_eql_i _ _ _) (rfl) rfl rfl ?_
        refine lx_move rfl rfl rfl ?_
        refine lx_skip rfl rfl rfl ?_
        refine lx_skip rfl rfl rfl ?_
        refine lx_skip rfl rfl rfl ?_
        refine lx_skip rfl rfl rfl ?_
        refine lx_pick rfl rfl rfl rfl rfl ?_
        refine lx_pick rfl rfl rfl rfl rfl ?_
        refine lx_move rfl rfl rfl ?_
        refine lx_move rfl rfl rfl ?_
        refine lx_binB true rfl rfl (fun _ => rfl) (fun _ => bin_neq_i _ _ _) (rfl) rfl rfl ?_
        refine lx_move rfl rfl rfl ?_
        refine lx_move rfl rfl rfl ?_
        refine lx_binB false rfl rfl (fun _ => rfl) (fun _ => bin_neq_i _ _ _) (rfl) rfl rfl ?_
        refine lx_pick rfl rfl rfl rfl rfl ?_
        refine lx_pick rfl rfl rfl rfl rfl ?_
        refine lx_nil ?_
        refine x_false rfl ?_
        refine x_skip ?_
        refine kseq_n ?_
        exact ⟨rfl, (), _, rfl, ⟨rfl, rfl, trivial⟩, ⟨rfl, trivial⟩⟩
    · skip
      refine xs_plain (E := EE [27, 2000027]) ?_
      refine lx_loada 7 rfl rfl Tryz.isAgg28 Tryz.sizeOf28 (by simp) rfl rfl ?_
      refine lx_move rfl rfl rfl ?_
      refine lx_call rfl rfl ent30 (J1.lift_n _ _ hq) rfl rfl ?_
      refine lx_move rfl rfl rfl ?_
      refine lx_ext rfl rfl rfl rfl ?_
      refine lx_ext rfl rfl rfl rfl ?_
      refine lx_allocr 9 hGF J1.zv30 rfl rfl ?_
      intro b9
      refine lx_storea 9 hGF rfl rfl rfl Tryz.sizeOf30 (by simp) (by simp) (one_u64 _) rfl ?_
      refine lx_assign rfl rfl rfl ?_
      refine lx_nil ?_
      refine xs_plain (E := EE [27, 2000027]) ?_
      refine lx_move rfl rfl rfl ?_
      refine lx_nil ?_
      refine x_false rfl ?_
      refine x_skip ?_
      refine kseq_n ?_
      exact ⟨rfl, (), _, rfl, ⟨rfl, rfl, trivial⟩, ⟨rfl, trivial⟩⟩
  · intro _
    by_cases hq : J2.LQ (ZB bs0, ZB bs1)
    · skip
      obtain ⟨p, hF⟩ : ∃ p : J2.GP, Pure Tryz.prog Gt 32 [EV2 (ZB bs0, ZB bs1), .bool l] (.tuple #[J2.PtV p, .bool true]) := by obtain ⟨r, hr, hl⟩ := J2.root_ex hq; exact ⟨_, J2.lift_y _ r hr hl l⟩
      by_cases hg : E2w.times p.P ORD = none
      · skip
        refine x_seq ?_
        refine xs_plain (E := EE [27, 2000027]) ?_
        refine lx_loada 8 rfl rfl Tryz.isAgg50 Tryz.sizeOf50 (by simp) rfl rfl ?_
        refine lx_move rfl rfl rfl ?_
        refine lx_call rfl rfl ent32 (hF) rfl rfl ?_
        refine lx_move rfl rfl rfl ?_
        refine lx_ext rfl rfl rfl rfl ?_
        refine lx_ext rfl rfl rfl rfl ?_
        refine lx_allocr 14 hGF J2.zv52 rfl rfl ?_
        intro b14
        refine lx_storea 14 hGF rfl rfl rfl Tryz.sizeOf52 (by simp) (by simp) (one_u64 _) rfl ?_
        refine lx_assign rfl rfl rfl ?_
        refine lx_nil ?_
        refine xs_plain (E := EE [27, 2000027]) ?_
        refine lx_move rfl rfl rfl ?_
        refine lx_nil ?_
        refine x_true rfl ?_
        refine xs_plain (E := EE [27, 2000027]) ?_
        refine lx_loada 14 rfl rfl Tryz.isAgg52 Tryz.sizeOf52 (by simp) rfl rfl ?_
        refine lx_call rfl rfl ent18 (enc2_p p) rfl rfl ?_
        refine lx_allocr 16 hGF zv56 rfl rfl ?_
        intro b16
        refine lx_storea 16 hGF rfl rfl rfl Tryz.sizeOf56 (by simp) (by simp) (one_u8 _) rfl ?_
        refine lx_nil ?_
        refine xs_plain (E := EE [27, 2000027]) ?_
        refine lx_slarr1 (l := 0) (h' := 96) rfl Tryz.underlying56 Tryz.sizeOf5 rfl rfl (by decide) (by decide) rfl rfl ?_
        refine lx_callC rfl rfl ent16 (fun w' hC hG => dec2_p _ 96 96 (EN2 p.P) (EN2_len _) 0 p.P (D2_in p.on hg) (by decide) w' hG (BytesAt.range (hp_row (n := 16) rfl w' hC))) rfl rfl ?_
        refine lx_move rfl rfl rfl ?_
        refine lx_ext rfl rfl rfl rfl ?_
        refine lx_ext rfl rfl rfl rfl ?_
        refine lx_allocr 17 hGF J2.zv52 rfl rfl ?_
        intro b17
        refine lx_storea 17 hGF rfl rfl rfl Tryz.sizeOf52 (by simp) (by simp) (one_u64 _) rfl ?_
        refine lx_assign rfl rfl rfl ?_
        refine lx_nil ?_
        refine xs_drawn (E := EE [27, 2000027]) mixed (by kernel_rfl) (by kernel_rfl) (by kernel_rfl) ?_
        refine lx_slarr1 (l := 0) (h' := 96) rfl Tryz.underlying56 Tryz.sizeOf5 rfl rfl (by decide) (by decide) rfl rfl ?_
        refine lx_loada 14 rfl rfl Tryz.isAgg52 Tryz.sizeOf52 (by simp) rfl rfl ?_
        refine lx_call rfl rfl ent17 (J2.refs8 p) rfl rfl ?_
        refine lx_callG rfl rfl ent27 rfl rfl (fun w' hw' => (r9enc2_c p.P w' (hGF.g _ _ _ hw')).mono fun e' w'' h => ?_)
        obtain ⟨b934, rfl, hg, hb, hob⟩ := h
        refine ⟨_, _, rfl, good_hp hGF, hw'.news rides_true hg [(934, b934, (EN2 p.P).map U8, 5)] ?_ inj_one, hp_fresh rides_true rfl, ?_⟩
        · intro n' b' c' t' hl
          rcases lkB_cons hl with ⟨_, e⟩ | ⟨_, hl⟩
          · cases e; exact ⟨hb, hob⟩
          · cases hl
        clear hw' hg hb hob
        refine lx_callC rfl rfl ent12 (fun w' hC hG => bytes_same (EN2 p.P) _ 96 _ _ 96 _ (EN2_len _) (EN2_len _) w' hG (BytesAt.range (hp_row (n := 16) rfl w' hC)) (BytesAt.range (hp_row (n := 934) rfl w' hC))) rfl rfl ?_
        refine lx_move rfl rfl rfl ?_
        refine lx_move rfl rfl rfl ?_
        refine lx_binB true rfl rfl (fun _ => rfl) (fun _ => bin_eql_i _ _ _) (rfl) rfl rfl ?_
        refine lx_loada 14 rfl rfl Tryz.isAgg52 Tryz.sizeOf52 (by simp) rfl rfl ?_
        refine lx_callB true rfl rfl ent33 (J2.inGroup_p p) (decide_eq_true hg) rfl rfl ?_
        refine lx_binB true rfl rfl (fun _ => rfl) (fun w => bin_eql_bool 4 Tryz.underlying4 _ _ w) (rfl) rfl rfl ?_
        refine lx_pick rfl rfl rfl rfl rfl ?_
        refine lx_move rfl rfl rfl ?_
        refine lx_move rfl rfl rfl ?_
        refine lx_binB false rfl rfl (fun _ => rfl) (fun _ => bin_neq_i _ _ _) (rfl) rfl rfl ?_
        refine lx_move rfl rfl rfl ?_
        refine lx_loada 17 rfl rfl Tryz.isAgg52 Tryz.sizeOf52 (by simp) rfl rfl ?_
        refine lx_loada 14 rfl rfl Tryz.isAgg52 Tryz.sizeOf52 (by simp) rfl rfl ?_
        refine lx_callB true rfl rfl ent26 (J2.equal_p _ _) (decide_eq_true rfl) rfl rfl ?_
        refine lx_pick rfl rfl rfl rfl rfl ?_
        refine lx_pick rfl rfl rfl rfl rfl ?_
        refine lx_move rfl rfl rfl ?_
        refine lx_move rfl rfl rfl ?_
        refine lx_binB true rfl rfl (fun _ => rfl) (fun _ => bin_eql_i _ _ _) (rfl) rfl rfl ?_
        refine lx_move rfl rfl rfl ?_
        refine lx_skip rfl rfl rfl ?_
        refine lx_skip rfl rfl rfl ?_
        refine lx_pick rfl rfl rfl rfl rfl ?_
        refine lx_pick rfl rfl rfl rfl rfl ?_
        refine lx_assign rfl rfl rfl ?_
        refine lx_nil ?_
        refine x_ret ?_
        repeat (first | refine kseq_ret ?_ | refine kblk_ret ?_)
        exact kret_tmp rfl rfl (fun w hw => ⟨rfl, hp_below hw⟩)
      · skip
        refine x_seq ?_
        refine xs_plain (E := EE [27, 2000027]) ?_
        refine lx_loada 8 rfl rfl Tryz.isAgg50 Tryz.sizeOf50 (by simp) rfl rfl ?_
        refine lx_move rfl rfl rfl ?_
        refine lx_call rfl rfl ent32 (hF) rfl rfl ?_
        refine lx_move rfl rfl rfl ?_
        refine lx_ext rfl rfl rfl rfl ?_
        refine lx_ext rfl rfl rfl rfl ?_
        refine lx_allocr 14 hGF J2.zv52 rfl rfl ?_
        intro b14
        refine lx_storea 14 hGF rfl rfl rfl Tryz.sizeOf52 (by simp) (by simp) (one_u64 _) rfl ?_
        refine lx_assign rfl rfl rfl ?_
        refine lx_nil ?_
        refine xs_plain (E := EE [27, 2000027]) ?_
        refine lx_move rfl rfl rfl ?_
        refine lx_nil ?_
        refine x_true rfl ?_
        refine xs_plain (E := EE [27, 2000027]) ?_
        refine lx_loada 14 rfl rfl Tryz.isAgg52 Tryz.sizeOf52 (by simp) rfl rfl ?_
        refine lx_call rfl rfl ent18 (enc2_p p) rfl rfl ?_
        refine lx_allocr 16 hGF zv56 rfl rfl ?_
        intro b16
        refine lx_storea 16 hGF rfl rfl rfl Tryz.sizeOf56 (by simp) (by simp) (one_u8 _) rfl ?_
        refine lx_nil ?_
        refine xs_plain (E := EE [27, 2000027]) ?_
        refine lx_slarr1 (l := 0) (h' := 96) rfl Tryz.underlying56 Tryz.sizeOf5 rfl rfl (by decide) (by decide) rfl rfl ?_
        refine lx_callC rfl rfl ent16 (fun w' hC hG => dec2_p _ 96 96 (EN2 p.P) (EN2_len _) 104 none (D2_out p.on hg) (by decide) w' hG (BytesAt.range (hp_row (n := 16) rfl w' hC))) rfl rfl ?_
        refine lx_move rfl rfl rfl ?_
        refine lx_ext rfl rfl rfl rfl ?_
        refine lx_ext rfl rfl rfl rfl ?_
        refine lx_allocr 17 hGF J2.zv52 rfl rfl ?_
        intro b17
        refine lx_storea 17 hGF rfl rfl rfl Tryz.sizeOf52 (by simp) (by simp) (one_u64 _) rfl ?_
        refine lx_assign rfl rfl rfl ?_
        refine lx_nil ?_
        refine xs_drawn (E := EE [27, 2000027]) mixed (by kernel_rfl) (by kernel_rfl) (by kernel_rfl) ?_
        refine lx_slarr1 (l := 0) (h' := 96) rfl Tryz.underlying56 Tryz.sizeOf5 rfl rfl (by decide) (by decide) rfl rfl ?_
        refine lx_loada 14 rfl rfl Tryz.isAgg52 Tryz.sizeOf52 (by simp) rfl rfl ?_
        refine lx_call rfl rfl ent17 (J2.refs8 p) rfl rfl ?_
        refine lx_callG rfl rfl ent27 rfl rfl (fun w' hw' => (r9enc2_c p.P w' (hGF.g _ _ _ hw')).mono fun e' w'' h => ?_)
        obtain ⟨b934, rfl, hg, hb, hob⟩ := h
        refine ⟨_, _, rfl, good_hp hGF, hw'.news rides_true hg [(934, b934, (EN2 p.P).map U8, 5)] ?_ inj_one, hp_fresh rides_true rfl, ?_⟩
        · intro n' b' c' t' hl
          rcases lkB_cons hl with ⟨_, e⟩ | ⟨_, hl⟩
          · cases e; exact ⟨hb, hob⟩
          · cases hl
        clear hw' hg hb hob
        refine lx_callC rfl rfl ent12 (fun w' hC hG => bytes_same (EN2 p.P) _ 96 _ _ 96 _ (EN2_len _) (EN2_len _) w' hG (BytesAt.range (hp_row (n := 16) rfl w' hC)) (BytesAt.range (hp_row (n := 934) rfl w' hC))) rfl rfl ?_
        refine lx_move rfl rfl rfl ?_
        refine lx_move rfl rfl rfl ?_
        refine lx_binB false rfl rfl (fun _ => rfl) (fun _ => bin_eql_i _ _ _) (rfl) rfl rfl ?_
        refine lx_loada 14 rfl rfl Tryz.isAgg52 Tryz.sizeOf52 (by simp) rfl rfl ?_
        refine lx_callB false rfl rfl ent33 (J2.inGroup_p p) (decide_eq_false hg) rfl rfl ?_
        refine lx_binB true rfl rfl (fun _ => rfl) (fun w => bin_eql_bool 4 Tryz.underlying4 _ _ w) (rfl) rfl rfl ?_
        refine lx_pick rfl rfl rfl rfl rfl ?_
        refine lx_move rfl rfl rfl ?_
        refine lx_move rfl rfl rfl ?_
        refine lx_binB true rfl rfl (fun _ => rfl) (fun _ => bin_neq_i _ _ _) (rfl) rfl rfl ?_
        refine lx_move rfl rfl rfl ?_
        refine lx_skip rfl rfl rfl ?_
        refine lx_skip rfl rfl rfl ?_
        refine lx_skip rfl rfl rfl ?_
        refine lx_pick rfl rfl rfl rfl rfl ?_
        refine lx_pick rfl rfl rfl rfl rfl ?_
        refine lx_move rfl rfl rfl ?_
        refine lx_move rfl rfl rfl ?_
        refine lx_binB false rfl rfl (fun _ => rfl) (fun _ => bin_eql_i _ _ _) (rfl) rfl rfl ?_
        refine lx_move rfl rfl rfl ?_
        refine lx_move rfl rfl rfl ?_
        refine lx_binB true rfl rfl (fun _ => rfl) (fun _ => bin_eql_i _ _ _) (rfl) rfl rfl ?_
        refine lx_pick rfl rfl rfl rfl rfl ?_
        refine lx_pick rfl rfl rfl rfl rfl ?_
        refine lx_assign rfl rfl rfl ?_
        refine lx_nil ?_
        refine x_ret ?_
        repeat (first | refine kseq_ret ?_ | refine kblk_ret ?_)
        exact kret_tmp rfl rfl (fun w hw => ⟨rfl, hp_below hw⟩)
    · skip
      refine x_seq ?_
      refine xs_plain (E := EE [27, 2000027]) ?_
      refine lx_loada 8 rfl rfl Tryz.isAgg50 Tryz.sizeOf50 (by simp) rfl rfl ?_
      refine lx_move rfl rfl rfl ?_
      refine lx_call rfl rfl ent32 (J2.lift_n (ZB bs0, ZB bs1) _ hq) rfl rfl ?_
      refine lx_move rfl rfl rfl ?_
      refine lx_ext rfl rfl rfl rfl ?_
      refine lx_ext rfl rfl rfl rfl ?_
      refine lx_allocr 14 hGF J2.zv52 rfl rfl ?_
      intro b14
      refine lx_storea 14 hGF rfl rfl rfl Tryz.sizeOf52 (by simp) (by simp) (one_u64 _) rfl ?_
      refine lx_assign rfl rfl rfl ?_
      refine lx_nil ?_
      refine xs_plain (E := EE [27, 2000027]) ?_
      refine lx_move rfl rfl rfl ?_
      refine lx_nil ?_
      refine x_false rfl ?_
      refine x_skip ?_
      refine xs_plain (E := EE [27, 2000027]) ?_
      refine lx_assign rfl rfl rfl ?_
      refine lx_nil ?_
      refine x_ret ?_
      repeat (first | refine kseq_ret ?_ | refine kblk_ret ?_)
      exact kret_tmp rfl rfl (fun w hw => ⟨rfl, hp_below hw⟩)
theorem out_law (e0 : Option Addr) (cap0 : Nat) (bs0 : List (BitVec 8)) (hc0 : bs0.length ≤ cap0) (e1 : Option Addr) (cap1 : Nat) (bs1 : List (BitVec 8)) (hc1 : bs1.length ≤ cap1) (l : Bool) (w : World) (hw : Gt w) (hb0 : BytesAt w e0 bs0) (hb1 : BytesAt w e1 bs1) : Calls Tryz.prog 7 [.slice e0 bs0.length cap0, .slice e1 bs1.length cap1, .bool l].toArray w (fun r w' => r = .returned (.bool true) ∧ Grow w w') := by
  by_cases h0 : bs0.length ≤ 60
  · by_cases h1 : bs1.length ≤ 60
    · exact out_ok e0 cap0 bs0 hc0 e1 cap1 bs1 hc1 l h0 h1 w hw hb0 hb1
    · exact out_big1 e0 cap0 bs0 e1 cap1 bs1 l h0 h1 w hw
  · exact out_big0 e0 cap0 bs0 e1 cap1 bs1 l h0 w hw
end Go.Proofs.YtamddkjccmhgaaaGreatDoor
