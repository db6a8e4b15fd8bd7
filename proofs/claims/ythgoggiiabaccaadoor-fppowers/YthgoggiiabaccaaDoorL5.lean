/-
  The law FpPowers.
-/
import Derived.Test.YthgoggiiabaccaaDoorX9
import Derived.Test.YthgoggiiabaccaaDoorX5
import Derived.Test.YthgoggiiabaccaaDoorE33
namespace Go.Proofs.YthgoggiiabaccaaDoor
open Go.RowKit
set_option maxRecDepth 100000
set_option maxHeartbeats 1000000
attribute [local simp] fe_len nm_len AS_len SS_len MONT_len RM_len FRs_len BYs_len by48_len PLl TWOl ONEl N1l IVPl HFPl RTPl FL_len SP_len

theorem ti5 : TI Tryd.prog 5 (.int .u8 0) 1 1 := ti_mk (by kernel_rfl)
/-- The base class, and one variable more. -/
def Gp (b : Nat) (cs : List Value) : Cls := fun w => Gt w ∧ w.rangeAt b 0 cs
theorem gp_le {b : Nat} {cs : List Value} : ∀ w, Gp b cs w → Gt w := fun _ h => h.1
theorem gp_ok {b : Nat} {cs : List Value} {w1 : World} (hw : Gt w1) (h : w1.rangeAt b 0 cs) : BOk (Gp b cs) (pl w1) := ⟨fun L Y w' h' => ⟨(gt_low.plain hw).g L Y w' h', hp_oldrange h (fun h => h) w' h'⟩, rides_true⟩
theorem light1_y (b : Nat) (e : Option Addr) (n c : Nat) (h : n ≤ 128) (w : World) (hw : Gt w) (ho : w.rangeAt b 0 (SVl [(e, n, c)])) :
    Calls Tryd.prog 12 [.slice (some ⟨b, 0, none⟩) 1 1].toArray w (fun r w' => r = .returned (.bool true) ∧ Grow w w') := by
  have h' := light_calls b 1 [(e, n, c)] rfl (by decide) w hw ho
  rw [decide_eq_true (fun v hv => by rw [List.mem_singleton] at hv; rw [hv]; exact h)] at h'
  exact h'
theorem light1_n (b : Nat) (e : Option Addr) (n c : Nat) (h : ¬ n ≤ 128) (w : World) (hw : Gt w) (ho : w.rangeAt b 0 (SVl [(e, n, c)])) :
    Calls Tryd.prog 12 [.slice (some ⟨b, 0, none⟩) 1 1].toArray w (fun r w' => r = .returned (.bool false) ∧ Grow w w') := by
  have h' := light_calls b 1 [(e, n, c)] rfl (by decide) w hw ho
  rw [decide_eq_false (fun hv => h (hv (e, n, c) (by simp)))] at h'
  exact h'
theorem fpow_nil (x : Zp) (w : World) (hw : Gt w) : Calls Tryd.prog 40 [EV x, .slice none 0 0].toArray w (fun r w' => r = .returned (EV 1) ∧ Grow w w') := by
  have h := fpow_calls x none 0 [] (by decide) w hw (bytes_nil _ _)
  rw [show BN [] ([] : List (BitVec 8)).length = 0 from rfl, p0] at h
  exact h
theorem BN_app (xs ys : List (BitVec 8)) : BN (xs ++ ys) (xs ++ ys).length = BN xs xs.length * 256 ^ ys.length + BN ys ys.length := by
  rw [List.length_append, BN_add]
  congr 1
  · congr 1
    refine BN_congr _ fun i hi => ?_
    rw [List.getD_eq_getElem?_getD, List.getD_eq_getElem?_getD, List.getElem?_append_left hi]
  · rw [List.drop_left]
theorem BN_zero (bs : List (BitVec 8)) : BN ([0#8] ++ bs) ([0#8] ++ bs).length = BN bs bs.length := by
  rw [BN_app, show BN [0#8] [0#8].length = 0 from rfl, Nat.zero_mul, Nat.zero_add]
theorem pow_app (x : Zp) {xs ys zs : List (BitVec 8)} (h : zs = xs ++ ys) : x ^ BN zs zs.length = (x ^ BN xs xs.length) ^ (2 ^ (8 * ys.length)) * x ^ BN ys ys.length := by
  rw [h, BN_app, padd, pmul, pow256]
theorem pow_turn (x : Zp) (m n : Nat) : (x ^ m) ^ n = (x ^ n) ^ m := by rw [← pmul, ← pmul, Nat.mul_comm]
theorem powers_law (e0 : Option Addr) (cap0 : Nat) (bs0 : List (BitVec 8)) (hcap0 : bs0.length ≤ cap0) (e1 : Option Addr) (cap1 : Nat) (bs1 : List (BitVec 8)) (e2 : Option Addr) (cap2 : Nat) (bs2 : List (BitVec 8)) (w : World) (hw : Gt w) (hb0 : BytesAt w e0 bs0) (hb1 : BytesAt w e1 bs1) (hb2 : BytesAt w e2 bs2) :
    Calls Tryd.prog 6 [.slice e0 bs0.length cap0, .slice e1 bs1.length cap1, .slice e2 bs2.length cap2].toArray w (fun r w' => r = .returned (.bool true) ∧ Grow w w') := by
  have hGF : BOk Gt (pl w) := gt_low.plain hw
  by_cases h0 : bs0.length ≤ 128
  · by_cases h1 : bs1.length ≤ 60
    · by_cases h2 : bs2.length ≤ 60
      · skip
        refine calls_of_X (G := Gt) Tryd.func6 rfl rfl (Hp (pl w) []) (hp_refl (pl w) trivial rides_true) (good_hp hGF) ?_
        refine xs_plain (E := EE []) ?_
        refine lx_assign rfl rfl rfl ?_
        refine lx_nil ?_
        refine x_seq ?_
        refine xs_plain (E := EE []) ?_
        refine lx_callB true rfl rfl ent11 (known_pure) (rfl) rfl rfl ?_
        refine lx_un rfl (fun _ => un_not _) rfl rfl ?_
        refine lx_nil ?_
        refine x_false rfl ?_
        refine x_skip ?_
        refine x_seq ?_
        refine xs_plain (E := EE []) ?_
        refine lx_move rfl rfl rfl ?_
        refine lx_bslV 40 (SVl [(e0, bs0.length, cap0)]) hGF rfl rfl rfl (by decide) (by decide) Tryd.underlying63 Tryd.sizeOf22 Tryd.zeroValue22 rfl rfl rfl ?_
        intro b40
        refine lx_callC rfl rfl ent12 (fun w' hC hG => light1_y b40 e0 bs0.length cap0 h0 w' hG (hp_row (n := 40) rfl w' hC)) rfl rfl ?_
        refine lx_un rfl (fun _ => un_not _) rfl rfl ?_
        refine lx_move rfl rfl rfl ?_
        refine lx_move rfl rfl rfl ?_
        refine lx_len rfl (fun _ => len_slice Tryd.underlying22 _ _ _ _) rfl rfl ?_
        refine lx_binB false rfl rfl (fun _ => rfl) (fun _ => bin_gtr_i _ _ _) (decide_eq_false (by omega)) rfl rfl ?_
        refine lx_pick rfl rfl rfl rfl rfl ?_
        refine lx_move rfl rfl rfl ?_
        refine lx_move rfl rfl rfl ?_
        refine lx_len rfl (fun _ => len_slice Tryd.underlying22 _ _ _ _) rfl rfl ?_
        refine lx_binB false rfl rfl (fun _ => rfl) (fun _ => bin_gtr_i _ _ _) (decide_eq_false (by omega)) rfl rfl ?_
        refine lx_pick rfl rfl rfl rfl rfl ?_
        refine lx_nil ?_
        refine x_false rfl ?_
        refine x_skip ?_
        refine xs_plain (E := EE []) ?_
        refine lx_move rfl rfl rfl ?_
        refine lx_callC rfl rfl ent21 (fun w' hC hG => fwide_calls e0 cap0 bs0 (by omega) hcap0 w' hG (hb0.grow (hp_below hC))) rfl rfl ?_
        refine lx_allocr 7 hGF zv28 rfl rfl ?_
        intro b7
        refine lx_storea 7 hGF rfl rfl rfl Tryd.sizeOf28 (by simp) (by simp) (one_u64 _) rfl ?_
        refine lx_nil ?_
        refine x_seq ?_
        refine x_here (G' := Gp b7 ((fe (ZB bs0)).map U64)) gp_le (fun w1 h1 => gp_ok (hGF.g _ _ _ h1) (hp_row (n := 7) rfl w1 h1)) ?_
        intro w1 hw1
        have hGP : BOk (Gp b7 ((fe (ZB bs0)).map U64)) (pl w1) := gp_ok (hGF.g _ _ _ hw1) (hp_row (n := 7) rfl w1 hw1)
        have hb1' := hb1.grow (hp_below hw1)
        have hb2' := hb2.grow (hp_below hw1)
        refine xs_tree (EE []) mixed (by kernel_rfl) (by kernel_rfl) ?_
        refine tr_pre (m := 11) [0, 1, 2, 3, 4, 5, 6, 7, 8, 9, 10, 11, 12, 13, 14, 15, 16] (by kernel_rfl) ?_
        refine lx_loadr rfl Tryd.isAgg28 Tryd.sizeOf28 (by simp) (fun w' h => (hGP.g _ _ w' h).2) rfl rfl ?_
        refine lx_move rfl rfl rfl ?_
        refine lx_callC rfl rfl ent40 (fun w' hC hG => fpow_calls _ e1 cap1 bs1 (by omega) w' hG.1 (hb1'.grow (hp_below hC))) rfl rfl ?_
        refine lx_loadr rfl Tryd.isAgg28 Tryd.sizeOf28 (by simp) (fun w' h => (hGP.g _ _ w' h).2) rfl rfl ?_
        refine lx_call rfl rfl ent26 (Pure.sub (ref_pure _) gp_le) rfl rfl ?_
        refine lx_move rfl rfl rfl ?_
        refine lx_callC rfl rfl ent41 (fun w' hC hG => rpowE _ e1 cap1 bs1 (by omega) w' hG.1 (hb1'.grow (hp_below hC))) rfl rfl ?_
        refine lx_callB true rfl rfl ent20 (Pure.sub (same_pure _ _) gp_le) (decide_eq_true rfl) rfl rfl ?_
        refine lx_un rfl (fun _ => un_not _) rfl rfl ?_
        refine lx_move rfl rfl rfl ?_
        refine lx_loadr rfl Tryd.isAgg28 Tryd.sizeOf28 (by simp) (fun w' h => (hGP.g _ _ w' h).2) rfl rfl ?_
        refine lx_callC rfl rfl ent40 (fun w' hC hG => fpow_nil _ w' hG.1) rfl rfl ?_
        refine lx_call rfl rfl ent24 (Pure.sub (fof_pure _) gp_le) rfl rfl ?_
        refine lx_callB true rfl rfl ent38 (Pure.sub (fequal_pure _ _) gp_le) (decide_eq_true rfl) rfl rfl ?_
        refine lx_un rfl (fun _ => un_not _) rfl rfl ?_
        refine lx_pick rfl rfl rfl rfl rfl ?_
        refine lx_move rfl rfl rfl ?_
        refine lx_nil ?_
        refine tr_pre (m := 9) [19, 23] (by kernel_rfl) ?_
        refine lx_move rfl rfl rfl ?_
        refine lx_move rfl rfl rfl ?_
        refine lx_nil ?_
        refine tr_read (m := 8) 17 _ rfl rfl (by kernel_rfl) (by kernel_rfl) rfl (yields_row rfl rfl Tryd.isAgg28 Tryd.sizeOf28 (by simp) (fun _ h => h.2) rfl) ?_
        refine tr_read (m := 7) 22 _ rfl rfl (by kernel_rfl) (by kernel_rfl) rfl (yields_row rfl rfl Tryd.isAgg28 Tryd.sizeOf28 (by simp) (fun _ h => h.2) rfl) ?_
        refine tr_pre (m := 0) [18, 20, 21, 24, 25, 26, 27] (by kernel_rfl) ?_
        refine lx_bsl 44 [0#8] hGP rfl rfl rfl (by decide) (by decide) Tryd.underlying22 Tryd.sizeOf5 Tryd.zeroValue5 rfl rfl ?_
        intro b44
        refine lx_append (xs := [0#8]) (ys := bs1) 44 hGP rfl rfl Tryd.underlying22 Tryd.underlying22 ti5 (.inr ⟨b44, _, rfl, rfl, rfl, by decide, rfl⟩) (fun w' h => hb1'.grow (hp_below h)) (by simp; omega) rfl rfl (fun h0 => absurd h0 (by simp)) (fun b46 c46 cap46 e46 l46 t46 => ?_)
        refine lx_callC rfl rfl ent40 (fun w' hC hG => fpow_calls _ _ _ ([0#8] ++ bs1) (by simp; omega) w' hG.1 (OwnSl.bytes (n := 44) (e := 5) (.inr ⟨b46, c46, rfl, rfl, e46, l46, t46⟩) w' hC)) rfl rfl ?_
        refine lx_callC rfl rfl ent40 (fun w' hC hG => fpow_calls _ e1 cap1 bs1 (by omega) w' hG.1 (hb1'.grow (hp_below hC))) rfl rfl ?_
        refine lx_callB true rfl rfl ent38 (Pure.sub (fequal_pure _ _) gp_le) (decide_eq_true (by rw [BN_zero])) rfl rfl ?_
        refine lx_un rfl (fun _ => un_not _) rfl rfl ?_
        refine lx_pick rfl rfl rfl rfl rfl ?_
        refine lx_nil ?_
        refine tr_nil (by kernel_rfl) ?_
        refine kseq_n ?_
        refine x_false rfl ?_
        refine x_skip ?_
        refine x_base gp_le (good_hp hGP) ?_
        refine xs_tree (EE []) mixed (by kernel_rfl) (by kernel_rfl) ?_
        refine tr_pre (m := 19) [0, 1, 2, 3, 4, 5, 6, 7, 8, 9, 10, 11] (by kernel_rfl) ?_
        refine lx_loadr rfl Tryd.isAgg28 Tryd.sizeOf28 (by simp) (fun w' h => (hGP.g _ _ w' h).2) rfl rfl ?_
        refine lx_move rfl rfl rfl ?_
        refine lx_callC rfl rfl ent40 (fun w' hC hG => fpow_calls _ e1 cap1 bs1 (by omega) w' hG.1 (hb1'.grow (hp_below hC))) rfl rfl ?_
        refine lx_move rfl rfl rfl ?_
        refine lx_callC rfl rfl ent40 (fun w' hC hG => fpow_calls _ e2 cap2 bs2 (by omega) w' hG.1 (hb2'.grow (hp_below hC))) rfl rfl ?_
        refine lx_loadr rfl Tryd.isAgg28 Tryd.sizeOf28 (by simp) (fun w' h => (hGP.g _ _ w' h).2) rfl rfl ?_
        refine lx_move rfl rfl rfl ?_
        refine lx_callC rfl rfl ent40 (fun w' hC hG => fpow_calls _ e2 cap2 bs2 (by omega) w' hG.1 (hb2'.grow (hp_below hC))) rfl rfl ?_
        refine lx_move rfl rfl rfl ?_
        refine lx_callC rfl rfl ent40 (fun w' hC hG => fpow_calls _ e1 cap1 bs1 (by omega) w' hG.1 (hb1'.grow (hp_below hC))) rfl rfl ?_
        refine lx_callB true rfl rfl ent38 (Pure.sub (fequal_pure _ _) gp_le) (decide_eq_true (pow_turn _ _ _)) rfl rfl ?_
        refine lx_move rfl rfl rfl ?_
        refine lx_nil ?_
        refine tr_pre (m := 13) [13, 15, 19, 21, 22, 25] (by kernel_rfl) ?_
        refine lx_move rfl rfl rfl ?_
        refine lx_move rfl rfl rfl ?_
        refine lx_move rfl rfl rfl ?_
        refine lx_move rfl rfl rfl ?_
        refine lx_len rfl (fun _ => len_slice Tryd.underlying22 _ _ _ _) rfl rfl ?_
        refine lx_move rfl rfl rfl ?_
        refine lx_nil ?_
        refine tr_read (m := 12) 12 _ rfl rfl (by kernel_rfl) (by kernel_rfl) rfl (yields_row rfl rfl Tryd.isAgg28 Tryd.sizeOf28 (by simp) (fun _ h => h.2) rfl) ?_
        refine tr_read (m := 11) 18 _ rfl rfl (by kernel_rfl) (by kernel_rfl) rfl (yields_row rfl rfl Tryd.isAgg28 Tryd.sizeOf28 (by simp) (fun _ h => h.2) rfl) ?_
        refine tr_read (m := 10) 24 _ rfl rfl (by kernel_rfl) (by kernel_rfl) rfl (yields_row rfl rfl Tryd.isAgg28 Tryd.sizeOf28 (by simp) (fun _ h => h.2) rfl) ?_
        refine tr_pre (m := 0) [14, 16, 17, 20, 23, 26, 27, 28, 29, 30] (by kernel_rfl) ?_
        refine lx_append (xs := []) (ys := bs1) 68 hGP rfl rfl Tryd.underlying22 Tryd.underlying22 ti5 (ownSl_nil _ _ _) (fun w' h => hb1'.grow (hp_below h)) (by simp; omega) rfl rfl (fun h68 => ?_) (fun b68 c68 cap68 e68 l68 t68 => ?_)
        · skip
          refine lx_append (xs := []) (ys := bs2) 68 hGP rfl rfl Tryd.underlying22 Tryd.underlying22 ti5 (ownSl_nil _ _ _) (fun w' h => hb2'.grow (hp_below h)) (by simp; omega) rfl rfl (fun h70 => ?_) (fun b70 c70 cap70 e70 l70 t70 => ?_)
          · skip
            have hx1 : bs1 = [] := by simpa using h68
            have hx2 := h70
            have hXX : [] = bs1 ++ bs2 := by rw [hx1]; exact h70.symm
            refine lx_callC rfl rfl ent40 (fun w' hC hG => fpow_calls _ _ _ ([]) (by decide) w' hG.1 (bytes_nil _ _)) rfl rfl ?_
            refine lx_callC rfl rfl ent40 (fun w' hC hG => fpow_calls _ e1 cap1 bs1 (by omega) w' hG.1 (hb1'.grow (hp_below hC))) rfl rfl ?_
            refine lx_call rfl rfl ent42 (Pure.sub (shift_pure _ bs2.length (by omega)) gp_le) rfl rfl ?_
            refine lx_callC rfl rfl ent40 (fun w' hC hG => fpow_calls _ e2 cap2 bs2 (by omega) w' hG.1 (hb2'.grow (hp_below hC))) rfl rfl ?_
            refine lx_call rfl rfl ent31 (Pure.sub (fmul_pure _ _) gp_le) rfl rfl ?_
            refine lx_callB true rfl rfl ent38 (Pure.sub (fequal_pure _ _) gp_le) (decide_eq_true (pow_app _ hXX)) rfl rfl ?_
            refine lx_pick rfl rfl rfl rfl rfl ?_
            refine lx_assign rfl rfl rfl ?_
            refine lx_nil ?_
            refine tr_nil (by kernel_rfl) ?_
            refine kseq_n ?_
            refine x_ret ?_
            repeat (first | refine kseq_ret ?_ | refine kblk_ret ?_)
            exact kret_tmp rfl rfl (fun w hw => ⟨rfl, (hp_below hw1).trans (hp_below hw)⟩)
          · skip
            have hx1 : bs1 = [] := by simpa using h68
            have hXX : [] ++ bs2 = bs1 ++ bs2 := by rw [hx1]
            refine lx_callC rfl rfl ent40 (fun w' hC hG => fpow_calls _ _ _ ([] ++ bs2) (by simp; omega) w' hG.1 (OwnSl.bytes (n := 68) (e := 5) (.inr ⟨b70, c70, rfl, rfl, e70, l70, t70⟩) w' hC)) rfl rfl ?_
            refine lx_callC rfl rfl ent40 (fun w' hC hG => fpow_calls _ e1 cap1 bs1 (by omega) w' hG.1 (hb1'.grow (hp_below hC))) rfl rfl ?_
            refine lx_call rfl rfl ent42 (Pure.sub (shift_pure _ bs2.length (by omega)) gp_le) rfl rfl ?_
            refine lx_callC rfl rfl ent40 (fun w' hC hG => fpow_calls _ e2 cap2 bs2 (by omega) w' hG.1 (hb2'.grow (hp_below hC))) rfl rfl ?_
            refine lx_call rfl rfl ent31 (Pure.sub (fmul_pure _ _) gp_le) rfl rfl ?_
            refine lx_callB true rfl rfl ent38 (Pure.sub (fequal_pure _ _) gp_le) (decide_eq_true (pow_app _ hXX)) rfl rfl ?_
            refine lx_pick rfl rfl rfl rfl rfl ?_
            refine lx_assign rfl rfl rfl ?_
            refine lx_nil ?_
            refine tr_nil (by kernel_rfl) ?_
            refine kseq_n ?_
            refine x_ret ?_
            repeat (first | refine kseq_ret ?_ | refine kblk_ret ?_)
            exact kret_tmp rfl rfl (fun w hw => ⟨rfl, (hp_below hw1).trans (hp_below hw)⟩)
        · skip
          refine lx_append (xs := ([] ++ bs1)) (ys := bs2) 68 hGP rfl rfl Tryd.underlying22 Tryd.underlying22 ti5 (.inr ⟨b68, c68, rfl, rfl, e68, l68, t68⟩) (fun w' h => hb2'.grow (hp_below h)) (by simp; omega) rfl rfl (fun h70 => ?_) (fun b70 c70 cap70 e70 l70 t70 => ?_)
          · skip
            have hx2 := h70
            have hXX : [] = bs1 ++ bs2 := h70.symm
            refine lx_callC rfl rfl ent40 (fun w' hC hG => fpow_calls _ _ _ ([]) (by decide) w' hG.1 (bytes_nil _ _)) rfl rfl ?_
            refine lx_callC rfl rfl ent40 (fun w' hC hG => fpow_calls _ e1 cap1 bs1 (by omega) w' hG.1 (hb1'.grow (hp_below hC))) rfl rfl ?_
            refine lx_call rfl rfl ent42 (Pure.sub (shift_pure _ bs2.length (by omega)) gp_le) rfl rfl ?_
            refine lx_callC rfl rfl ent40 (fun w' hC hG => fpow_calls _ e2 cap2 bs2 (by omega) w' hG.1 (hb2'.grow (hp_below hC))) rfl rfl ?_
            refine lx_call rfl rfl ent31 (Pure.sub (fmul_pure _ _) gp_le) rfl rfl ?_
            refine lx_callB true rfl rfl ent38 (Pure.sub (fequal_pure _ _) gp_le) (decide_eq_true (pow_app _ hXX)) rfl rfl ?_
            refine lx_pick rfl rfl rfl rfl rfl ?_
            refine lx_assign rfl rfl rfl ?_
            refine lx_nil ?_
            refine tr_nil (by kernel_rfl) ?_
            refine kseq_n ?_
            refine x_ret ?_
            repeat (first | refine kseq_ret ?_ | refine kblk_ret ?_)
            exact kret_tmp rfl rfl (fun w hw => ⟨rfl, (hp_below hw1).trans (hp_below hw)⟩)
          · skip
            have hXX : ([] ++ bs1) ++ bs2 = bs1 ++ bs2 := rfl
            refine lx_callC rfl rfl ent40 (fun w' hC hG => fpow_calls _ _ _ (([] ++ bs1) ++ bs2) (by simp; omega) w' hG.1 (OwnSl.bytes (n := 68) (e := 5) (.inr ⟨b70, c70, rfl, rfl, e70, l70, t70⟩) w' hC)) rfl rfl ?_
            refine lx_callC rfl rfl ent40 (fun w' hC hG => fpow_calls _ e1 cap1 bs1 (by omega) w' hG.1 (hb1'.grow (hp_below hC))) rfl rfl ?_
            refine lx_call rfl rfl ent42 (Pure.sub (shift_pure _ bs2.length (by omega)) gp_le) rfl rfl ?_
            refine lx_callC rfl rfl ent40 (fun w' hC hG => fpow_calls _ e2 cap2 bs2 (by omega) w' hG.1 (hb2'.grow (hp_below hC))) rfl rfl ?_
            refine lx_call rfl rfl ent31 (Pure.sub (fmul_pure _ _) gp_le) rfl rfl ?_
            refine lx_callB true rfl rfl ent38 (Pure.sub (fequal_pure _ _) gp_le) (decide_eq_true (pow_app _ hXX)) rfl rfl ?_
            refine lx_pick rfl rfl rfl rfl rfl ?_
            refine lx_assign rfl rfl rfl ?_
            refine lx_nil ?_
            refine tr_nil (by kernel_rfl) ?_
            refine kseq_n ?_
            refine x_ret ?_
            repeat (first | refine kseq_ret ?_ | refine kblk_ret ?_)
            exact kret_tmp rfl rfl (fun w hw => ⟨rfl, (hp_below hw1).trans (hp_below hw)⟩)
      · skip
        refine calls_of_X (G := Gt) Tryd.func6 rfl rfl (Hp (pl w) []) (hp_refl (pl w) trivial rides_true) (good_hp hGF) ?_
        refine xs_plain (E := EE []) ?_
        refine lx_assign rfl rfl rfl ?_
        refine lx_nil ?_
        refine x_seq ?_
        refine xs_plain (E := EE []) ?_
        refine lx_callB true rfl rfl ent11 (known_pure) (rfl) rfl rfl ?_
        refine lx_un rfl (fun _ => un_not _) rfl rfl ?_
        refine lx_nil ?_
        refine x_false rfl ?_
        refine x_skip ?_
        refine x_seq ?_
        refine xs_plain (E := EE []) ?_
        refine lx_move rfl rfl rfl ?_
        refine lx_bslV 40 (SVl [(e0, bs0.length, cap0)]) hGF rfl rfl rfl (by decide) (by decide) Tryd.underlying63 Tryd.sizeOf22 Tryd.zeroValue22 rfl rfl rfl ?_
        intro b40
        refine lx_callC rfl rfl ent12 (fun w' hC hG => light1_y b40 e0 bs0.length cap0 h0 w' hG (hp_row (n := 40) rfl w' hC)) rfl rfl ?_
        refine lx_un rfl (fun _ => un_not _) rfl rfl ?_
        refine lx_move rfl rfl rfl ?_
        refine lx_move rfl rfl rfl ?_
        refine lx_len rfl (fun _ => len_slice Tryd.underlying22 _ _ _ _) rfl rfl ?_
        refine lx_binB false rfl rfl (fun _ => rfl) (fun _ => bin_gtr_i _ _ _) (decide_eq_false (by omega)) rfl rfl ?_
        refine lx_pick rfl rfl rfl rfl rfl ?_
        refine lx_move rfl rfl rfl ?_
        refine lx_move rfl rfl rfl ?_
        refine lx_len rfl (fun _ => len_slice Tryd.underlying22 _ _ _ _) rfl rfl ?_
        refine lx_binB true rfl rfl (fun _ => rfl) (fun _ => bin_gtr_i _ _ _) (decide_eq_true (by omega)) rfl rfl ?_
        refine lx_pick rfl rfl rfl rfl rfl ?_
        refine lx_nil ?_
        refine x_true rfl ?_
        refine xs_plain (E := EE []) ?_
        refine lx_assign rfl rfl rfl ?_
        refine lx_nil ?_
        refine x_ret ?_
        repeat (first | refine kseq_ret ?_ | refine kblk_ret ?_)
        exact kret_tmp rfl rfl (fun w hw => ⟨rfl, hp_below hw⟩)
    · skip
      refine calls_of_X (G := Gt) Tryd.func6 rfl rfl (Hp (pl w) []) (hp_refl (pl w) trivial rides_true) (good_hp hGF) ?_
      refine xs_plain (E := EE []) ?_
      refine lx_assign rfl rfl rfl ?_
      refine lx_nil ?_
      refine x_seq ?_
      refine xs_plain (E := EE []) ?_
      refine lx_callB true rfl rfl ent11 (known_pure) (rfl) rfl rfl ?_
      refine lx_un rfl (fun _ => un_not _) rfl rfl ?_
      refine lx_nil ?_
      refine x_false rfl ?_
      refine x_skip ?_
      refine x_seq ?_
      refine xs_plain (E := EE []) ?_
      refine lx_move rfl rfl rfl ?_
      refine lx_bslV 40 (SVl [(e0, bs0.length, cap0)]) hGF rfl rfl rfl (by decide) (by decide) Tryd.underlying63 Tryd.sizeOf22 Tryd.zeroValue22 rfl rfl rfl ?_
      intro b40
      refine lx_callC rfl rfl ent12 (fun w' hC hG => light1_y b40 e0 bs0.length cap0 h0 w' hG (hp_row (n := 40) rfl w' hC)) rfl rfl ?_
      refine lx_un rfl (fun _ => un_not _) rfl rfl ?_
      refine lx_move rfl rfl rfl ?_
      refine lx_move rfl rfl rfl ?_
      refine lx_len rfl (fun _ => len_slice Tryd.underlying22 _ _ _ _) rfl rfl ?_
      refine lx_binB true rfl rfl (fun _ => rfl) (fun _ => bin_gtr_i _ _ _) (decide_eq_true (by omega)) rfl rfl ?_
      refine lx_pick rfl rfl rfl rfl rfl ?_
      refine lx_move rfl rfl rfl ?_
      refine lx_skip rfl rfl rfl ?_
      refine lx_skip rfl rfl rfl ?_
      refine lx_skip rfl rfl rfl ?_
      refine lx_pick rfl rfl rfl rfl rfl ?_
      refine lx_nil ?_
      refine x_true rfl ?_
      refine xs_plain (E := EE []) ?_
      refine lx_assign rfl rfl rfl ?_
      refine lx_nil ?_
      refine x_ret ?_
      repeat (first | refine kseq_ret ?_ | refine kblk_ret ?_)
      exact kret_tmp rfl rfl (fun w hw => ⟨rfl, hp_below hw⟩)
  · skip
    refine calls_of_X (G := Gt) Tryd.func6 rfl rfl (Hp (pl w) []) (hp_refl (pl w) trivial rides_true) (good_hp hGF) ?_
    refine xs_plain (E := EE []) ?_
    refine lx_assign rfl rfl rfl ?_
    refine lx_nil ?_
    refine x_seq ?_
    refine xs_plain (E := EE []) ?_
    refine lx_callB true rfl rfl ent11 (known_pure) (rfl) rfl rfl ?_
    refine lx_un rfl (fun _ => un_not _) rfl rfl ?_
    refine lx_nil ?_
    refine x_false rfl ?_
    refine x_skip ?_
    refine x_seq ?_
    refine xs_plain (E := EE []) ?_
    refine lx_move rfl rfl rfl ?_
    refine lx_bslV 40 (SVl [(e0, bs0.length, cap0)]) hGF rfl rfl rfl (by decide) (by decide) Tryd.underlying63 Tryd.sizeOf22 Tryd.zeroValue22 rfl rfl rfl ?_
    intro b40
    refine lx_callC rfl rfl ent12 (fun w' hC hG => light1_n b40 e0 bs0.length cap0 h0 w' hG (hp_row (n := 40) rfl w' hC)) rfl rfl ?_
    refine lx_un rfl (fun _ => un_not _) rfl rfl ?_
    refine lx_move rfl rfl rfl ?_
    refine lx_skip rfl rfl rfl ?_
    refine lx_skip rfl rfl rfl ?_
    refine lx_skip rfl rfl rfl ?_
    refine lx_pick rfl rfl rfl rfl rfl ?_
    refine lx_move rfl rfl rfl ?_
    refine lx_skip rfl rfl rfl ?_
    refine lx_skip rfl rfl rfl ?_
    refine lx_skip rfl rfl rfl ?_
    refine lx_pick rfl rfl rfl rfl rfl ?_
    refine lx_nil ?_
    refine x_true rfl ?_
    refine xs_plain (E := EE []) ?_
    refine lx_assign rfl rfl rfl ?_
    refine lx_nil ?_
    refine x_ret ?_
    repeat (first | refine kseq_ret ?_ | refine kblk_ret ?_)
    exact kret_tmp rfl rfl (fun w hw => ⟨rfl, hp_below hw⟩)
end Go.Proofs.YthgoggiiabaccaaDoor
