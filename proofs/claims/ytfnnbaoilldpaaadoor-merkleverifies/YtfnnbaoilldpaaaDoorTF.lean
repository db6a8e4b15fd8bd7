/-
  The laws of roots and of proving.
-/
import Derived.Test.YtfnnbaoilldpaaaDoorTE
namespace Go.Proofs.YtfnnbaoilldpaaaDoor
open Go.RowKit
set_option maxRecDepth 100000
set_option maxHeartbeats 1000000
open Sh
theorem ver_g (hM : MerkleP) (v0 : Rt) (a : Option Addr) (cap : Nat) (l : List Rt) (x0 : BitVec 64) (root : Rt) (rg : Bool) (hlt : ¬ l.length ≤ 70) (w : World) (hw : Gt w) : Calls Tryd.prog 5 [.agg (v0.map U8).toArray, .slice a l.length cap, U64 x0, .agg (root.map U8).toArray, .bool rg].toArray w (fun e w' => e = .returned (.bool true) ∧ Grow w w') := by
  have hGF : BOk Gt (pl w) := gt_low.plain hw
  refine calls_of_X (G := Gt) Tryd.func5 rfl rfl (Hp (pl w) []) (hp_refl (pl w) trivial rides_true) (good_hp hGF) ?_
  refine xs_plain (E := EE [12]) ?_
  refine lx_boxr 5 hGF rfl rfl rfl ?_
  intro b5
  refine lx_boxr 8 hGF rfl rfl rfl ?_
  intro b8
  refine lx_assign rfl rfl rfl ?_
  refine lx_nil ?_
  refine x_seq ?_
  refine xs_plain (E := EE [12]) ?_
  refine lx_callC rfl rfl ent10 (fun w1 _ hG => known18 hM w1 hG) rfl rfl ?_
  refine lx_un rfl (fun _ => un_not _) rfl rfl ?_
  refine lx_nil ?_
  refine x_false rfl ?_
  refine x_skip ?_
  refine x_seq ?_
  refine xs_plain (E := EE [12]) ?_
  refine lx_move rfl rfl rfl ?_
  refine lx_len rfl (fun _ => len_slice Tryd.underlying22 _ _ _ _) rfl rfl ?_
  refine lx_binB true rfl rfl (fun _ => rfl) (fun _ => bin_gtr_i _ _ _) (by simp; omega) rfl rfl ?_
  refine lx_nil ?_
  refine x_true rfl ?_
  refine xs_plain (E := EE [12]) ?_
  refine lx_assign rfl rfl rfl ?_
  refine lx_nil ?_
  refine x_ret ?_
  repeat (first | refine kseq_ret ?_ | refine kblk_ret ?_)
  exact kret_tmp rfl rfl (fun w' hw' => ⟨rfl, hp_below hw'⟩)
theorem ver_t (hM : MerkleP) (v0 : Rt) (hv0 : v0.length = 32) (a : Option Addr) (cap : Nat) (l : List Rt) (hl : AllR l) (hc : l.length ≤ cap) (x0 : BitVec 64) (root : Rt) (hroot : root.length = 32) (hlt : l.length ≤ 70) (w : World) (hw : Gt w) (hr : RtsAt w a l) : Calls Tryd.prog 5 [.agg (v0.map U8).toArray, .slice a l.length cap, U64 x0, .agg (root.map U8).toArray, .bool true].toArray w (fun e w' => e = .returned (.bool true) ∧ Grow w w') := by
  have hGF : BOk Gt (pl w) := gt_low.plain hw
  refine calls_of_X (G := Gt) Tryd.func5 rfl rfl (Hp (pl w) []) (hp_refl (pl w) trivial rides_true) (good_hp hGF) ?_
  refine xs_plain (E := EE [12]) ?_
  refine lx_boxr 5 hGF rfl rfl rfl ?_
  intro b5
  refine lx_boxr 8 hGF rfl rfl rfl ?_
  intro b8
  refine lx_assign rfl rfl rfl ?_
  refine lx_nil ?_
  refine x_seq ?_
  refine xs_plain (E := EE [12]) ?_
  refine lx_callC rfl rfl ent10 (fun w1 _ hG => known18 hM w1 hG) rfl rfl ?_
  refine lx_un rfl (fun _ => un_not _) rfl rfl ?_
  refine lx_nil ?_
  refine x_false rfl ?_
  refine x_skip ?_
  refine x_seq ?_
  refine xs_plain (E := EE [12]) ?_
  refine lx_move rfl rfl rfl ?_
  refine lx_len rfl (fun _ => len_slice Tryd.underlying22 _ _ _ _) rfl rfl ?_
  refine lx_binB false rfl rfl (fun _ => rfl) (fun _ => bin_gtr_i _ _ _) (by simp; omega) rfl rfl ?_
  refine lx_nil ?_
  refine x_false rfl ?_
  refine x_skip ?_
  refine xs_plain (E := EE [12]) ?_
  refine lx_callE rfl rfl ent12 rfl rfl (fun w1 hC => (hnew_calls w1 (hGF.g _ _ _ hC)).mono fun e1 w2 h => ?_)
  obtain ⟨bm, rfl, hg, hbm, hob⟩ := h
  refine ⟨_, _, rfl, good_hp hGF, hC.news rides_true hg [(17, bm, MK.map U32, 69)] ?_ inj_one, ?_⟩
  · intro n' b' c' t' hl
    rcases lkB_cons hl with ⟨_, e⟩ | ⟨_, hl⟩
    · cases e; exact ⟨hbm, hob⟩
    · cases hl
  clear hC hg hbm hob
  refine lx_allocr 11 hGF zvH rfl rfl ?_
  intro b11
  refine lx_storea 11 hGF rfl rfl rfl Tryd.sizeOf27 rfl rfl (by rfl) rfl ?_
  refine lx_nil ?_
  refine x_seq ?_
  refine xs_plain (E := EE [12]) ?_
  refine lx_move rfl rfl rfl ?_
  refine lx_nil ?_
  refine x_true rfl ?_
  refine x_plain (E := EE [12]) ?_
  refine lx_loada 11 rfl rfl Tryd.isAgg27 Tryd.sizeOf27 rfl rfl rfl ?_
  refine lx_loada 5 rfl rfl Tryd.isAgg29 Tryd.sizeOf29 (by rw [List.length_map]; exact hv0) rfl rfl ?_
  refine lx_move rfl rfl rfl ?_
  refine lx_move rfl rfl rfl ?_
  refine lx_callC rfl rfl ent23 (fun w' hw' hG => fold_calls bm v0 hv0 l hl a cap x0 (by omega) w' hG (hw'.own 17 _ _ _ rfl).1 (hr.grow (hp_below hw'))) rfl rfl ?_
  refine lx_storea 8 hGF rfl rfl rfl Tryd.sizeOf29 (by rw [List.length_map]; exact fldL _ _ _ hv0) (by rw [List.length_map]; exact hroot) (one_u8 _) rfl ?_
  refine lx_nil ?_
  refine xs_drawn (E := EE [12]) mixed (by kernel_rfl) (by kernel_rfl) (by kernel_rfl) ?_
  refine lx_loada 5 rfl rfl Tryd.isAgg29 Tryd.sizeOf29 (by rw [List.length_map]; exact hv0) rfl rfl ?_
  refine lx_move rfl rfl rfl ?_
  refine lx_move rfl rfl rfl ?_
  refine lx_loada 8 rfl rfl Tryd.isAgg29 Tryd.sizeOf29 (by rw [List.length_map]; exact fldL _ _ _ hv0) rfl rfl ?_
  refine lx_callC rfl rfl ent22 (fun w' hw' hG => hM.ver v0 hv0 l hl _ rfl (by omega) a cap hc x0 (fld P2 x0.toNat 0 v0 l) (fldL _ _ _ hv0) w' hG (hr.grow (hp_below hw'))) rfl rfl ?_
  refine lx_loada 11 rfl rfl Tryd.isAgg27 Tryd.sizeOf27 rfl rfl rfl ?_
  refine lx_loada 5 rfl rfl Tryd.isAgg29 Tryd.sizeOf29 (by rw [List.length_map]; exact hv0) rfl rfl ?_
  refine lx_move rfl rfl rfl ?_
  refine lx_move rfl rfl rfl ?_
  refine lx_loada 8 rfl rfl Tryd.isAgg29 Tryd.sizeOf29 (by rw [List.length_map]; exact fldL _ _ _ hv0) rfl rfl ?_
  refine lx_callC rfl rfl ent24 (fun w' hw' hG => hver_calls bm v0 hv0 l hl a cap x0 (fld P2 x0.toNat 0 v0 l) (fldL _ _ _ hv0) (by omega) w' hG (hw'.own 17 _ _ _ rfl).1 (hr.grow (hp_below hw'))) rfl rfl ?_
  refine lx_binB true rfl rfl (fun _ => rfl) (fun w => bin_eql_bool 4 Tryd.underlying4 _ _ w) (by simp) rfl rfl ?_
  refine lx_assign rfl rfl rfl ?_
  refine lx_nil ?_
  refine x_ret ?_
  repeat (first | refine kseq_ret ?_ | refine kblk_ret ?_)
  exact kret_tmp rfl rfl (fun w' hw' => ⟨rfl, hp_below hw'⟩)
theorem ver_f (hM : MerkleP) (v0 : Rt) (hv0 : v0.length = 32) (a : Option Addr) (cap : Nat) (l : List Rt) (hl : AllR l) (hc : l.length ≤ cap) (x0 : BitVec 64) (root : Rt) (hroot : root.length = 32) (hlt : l.length ≤ 70) (w : World) (hw : Gt w) (hr : RtsAt w a l) : Calls Tryd.prog 5 [.agg (v0.map U8).toArray, .slice a l.length cap, U64 x0, .agg (root.map U8).toArray, .bool false].toArray w (fun e w' => e = .returned (.bool true) ∧ Grow w w') := by
  have hGF : BOk Gt (pl w) := gt_low.plain hw
  refine calls_of_X (G := Gt) Tryd.func5 rfl rfl (Hp (pl w) []) (hp_refl (pl w) trivial rides_true) (good_hp hGF) ?_
  refine xs_plain (E := EE [12]) ?_
  refine lx_boxr 5 hGF rfl rfl rfl ?_
  intro b5
  refine lx_boxr 8 hGF rfl rfl rfl ?_
  intro b8
  refine lx_assign rfl rfl rfl ?_
  refine lx_nil ?_
  refine x_seq ?_
  refine xs_plain (E := EE [12]) ?_
  refine lx_callC rfl rfl ent10 (fun w1 _ hG => known18 hM w1 hG) rfl rfl ?_
  refine lx_un rfl (fun _ => un_not _) rfl rfl ?_
  refine lx_nil ?_
  refine x_false rfl ?_
  refine x_skip ?_
  refine x_seq ?_
  refine xs_plain (E := EE [12]) ?_
  refine lx_move rfl rfl rfl ?_
  refine lx_len rfl (fun _ => len_slice Tryd.underlying22 _ _ _ _) rfl rfl ?_
  refine lx_binB false rfl rfl (fun _ => rfl) (fun _ => bin_gtr_i _ _ _) (by simp; omega) rfl rfl ?_
  refine lx_nil ?_
  refine x_false rfl ?_
  refine x_skip ?_
  refine xs_plain (E := EE [12]) ?_
  refine lx_callE rfl rfl ent12 rfl rfl (fun w1 hC => (hnew_calls w1 (hGF.g _ _ _ hC)).mono fun e1 w2 h => ?_)
  obtain ⟨bm, rfl, hg, hbm, hob⟩ := h
  refine ⟨_, _, rfl, good_hp hGF, hC.news rides_true hg [(17, bm, MK.map U32, 69)] ?_ inj_one, ?_⟩
  · intro n' b' c' t' hl
    rcases lkB_cons hl with ⟨_, e⟩ | ⟨_, hl⟩
    · cases e; exact ⟨hbm, hob⟩
    · cases hl
  clear hC hg hbm hob
  refine lx_allocr 11 hGF zvH rfl rfl ?_
  intro b11
  refine lx_storea 11 hGF rfl rfl rfl Tryd.sizeOf27 rfl rfl (by rfl) rfl ?_
  refine lx_nil ?_
  refine x_seq ?_
  refine xs_plain (E := EE [12]) ?_
  refine lx_move rfl rfl rfl ?_
  refine lx_nil ?_
  refine x_false rfl ?_
  refine x_skip ?_
  refine xs_drawn (E := EE [12]) mixed (by kernel_rfl) (by kernel_rfl) (by kernel_rfl) ?_
  refine lx_loada 5 rfl rfl Tryd.isAgg29 Tryd.sizeOf29 (by rw [List.length_map]; exact hv0) rfl rfl ?_
  refine lx_move rfl rfl rfl ?_
  refine lx_move rfl rfl rfl ?_
  refine lx_loada 8 rfl rfl Tryd.isAgg29 Tryd.sizeOf29 (by rw [List.length_map]; exact hroot) rfl rfl ?_
  refine lx_callC rfl rfl ent22 (fun w' hw' hG => hM.ver v0 hv0 l hl _ rfl (by omega) a cap hc x0 root (hroot) w' hG (hr.grow (hp_below hw'))) rfl rfl ?_
  refine lx_loada 11 rfl rfl Tryd.isAgg27 Tryd.sizeOf27 rfl rfl rfl ?_
  refine lx_loada 5 rfl rfl Tryd.isAgg29 Tryd.sizeOf29 (by rw [List.length_map]; exact hv0) rfl rfl ?_
  refine lx_move rfl rfl rfl ?_
  refine lx_move rfl rfl rfl ?_
  refine lx_loada 8 rfl rfl Tryd.isAgg29 Tryd.sizeOf29 (by rw [List.length_map]; exact hroot) rfl rfl ?_
  refine lx_callC rfl rfl ent24 (fun w' hw' hG => hver_calls bm v0 hv0 l hl a cap x0 root (hroot) (by omega) w' hG (hw'.own 17 _ _ _ rfl).1 (hr.grow (hp_below hw'))) rfl rfl ?_
  refine lx_binB true rfl rfl (fun _ => rfl) (fun w => bin_eql_bool 4 Tryd.underlying4 _ _ w) (by simp) rfl rfl ?_
  refine lx_assign rfl rfl rfl ?_
  refine lx_nil ?_
  refine x_ret ?_
  repeat (first | refine kseq_ret ?_ | refine kblk_ret ?_)
  exact kret_tmp rfl rfl (fun w' hw' => ⟨rfl, hp_below hw'⟩)
theorem ver_law (hM : MerkleP) (v0 : Rt) (hv0 : v0.length = 32) (a : Option Addr) (cap : Nat) (l : List Rt) (hl : AllR l) (hc : l.length ≤ cap) (x0 : BitVec 64) (root : Rt) (hroot : root.length = 32) (rg : Bool) (w : World) (hw : Gt w) (hr : RtsAt w a l) : Calls Tryd.prog 5 [.agg (v0.map U8).toArray, .slice a l.length cap, U64 x0, .agg (root.map U8).toArray, .bool rg].toArray w (fun e w' => e = .returned (.bool true) ∧ Grow w w') := by
  by_cases hlt : l.length ≤ 70
  · cases rg
    · exact ver_f hM v0 hv0 a cap l hl hc x0 root hroot hlt w hw hr
    · exact ver_t hM v0 hv0 a cap l hl hc x0 root hroot hlt w hw hr
  · exact ver_g hM v0 a cap l x0 root rg hlt w hw
end Go.Proofs.YtfnnbaoilldpaaaDoor
