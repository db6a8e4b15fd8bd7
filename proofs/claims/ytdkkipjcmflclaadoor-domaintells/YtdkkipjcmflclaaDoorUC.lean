/-
  The program's trees, roots and noughts.
-/
import Derived.Test.YtdkkipjcmflclaaDoorUB
namespace Go.Proofs.YtdkkipjcmflclaaDoor
open Go.RowKit
set_option maxRecDepth 100000
set_option maxHeartbeats 1000000
open Sh
/-- How high the program has come. -/
structure TopS (w : World) (l : List Rt) (D b4 b5 : Nat) where
  (h : Nat) (a : Option Addr) (cap : Nat) (own : Hl)
  hD : h ≤ D
  hR : ∀ w', Hp (pl w) ((4, b4, Z0.map U8, 22) :: (5, b5, LC a (lev P2 Z0 h l).length cap (zrT P2 Z0 h), 79) :: own) w' → RtsAt w' a (lev P2 Z0 h l)
theorem row1 {n b : Nat} {c : List Value} {t : TypeId} {w w' : World} (h1 : w.heap.size ≤ b) (h2 : OwnB w' b c t) : ∀ n' b' c' t', lkB [(n, b, c, t)] n' = some (b', c', t') → w.heap.size ≤ b' ∧ OwnB w' b' c' t' := fun n' b' c' t' hl => by
  rcases lkB_cons hl with ⟨_, e⟩ | ⟨_, hl⟩
  · cases e; exact ⟨h1, h2⟩
  · cases hl
theorem lev_s (h : Nat) (l : List Rt) : lev P2 Z0 (h + 1) l = upL P2 (zrT P2 Z0 h) (lev P2 Z0 h l) := rfl
theorem zrT_s (h : Nat) : zrT P2 Z0 (h + 1) = P2 (zrT P2 Z0 h) (zrT P2 Z0 h) := rfl
theorem top_calls (D : Nat) (hD64 : D ≤ 64) (l : List Rt) (hl : AllR l) (hn : l.length ≤ 65536) (a : Option Addr) (cap : Nat) (w : World) (hw : Gt w) (ha : RtsAt w a l) : Calls Tryd.prog 34 [.slice a l.length cap, I (D : Int)].toArray w (fun e w' => e = .returned (.agg ((tre P2 Z0 D l).map U8).toArray) ∧ Grow w w') := by
  have hGF : BOk Gt (pl w) := gt_low.plain hw
  refine calls_of_X (G := Gt) Tryd.func34 rfl rfl (Hp (pl w) []) (hp_refl (pl w) trivial rides_true) (good_hp hGF) ?_
  refine xs_plain (E := EE [41]) ?_
  refine lx_allocr 4 hGF zv22 rfl rfl ?_
  intro b4
  refine lx_nil ?_
  refine xs_plain (E := EE [41]) ?_
  refine lx_move rfl rfl rfl ?_
  refine lx_build (ps := [(0, .tmp 6)]) (vs := [.slice a l.length cap]) rfl (fun w => bldL1 _ _ _ w) rfl rfl ?_
  refine lx_allocr 5 hGF zvL rfl rfl ?_
  intro b5
  refine lx_storea 5 hGF rfl rfl rfl Tryd.sizeOf79 (LC_len (Z0_len)) (LC_len (Z0_len)) (LC_one _ _ _ _) rfl ?_
  refine lx_nil ?_
  refine x_seq ?_
  refine xs_plain (E := EE [41]) ?_
  refine lx_move rfl rfl rfl ?_
  refine lx_move rfl rfl rfl ?_
  refine lx_nil ?_
  refine x_block ?_
  refine x_for (ι := TopS w l D b4 b5) (fun x => [(4, .pointer (some ⟨b4, 0, none⟩)), (5, .pointer (some ⟨b5, 0, none⟩)), (8, I (D : Int)), (9, I (x.h : Int))]) (fun x => (4, b4, Z0.map U8, 22) :: (5, b5, LC x.a (lev P2 Z0 x.h l).length x.cap (zrT P2 Z0 x.h), 79) :: x.own) (fun x => D - x.h) ⟨0, a, cap, [], Nat.zero_le _, fun w' hw' => ha.grow (hp_below hw')⟩ hGF ⟨rfl, rfl, rfl, rfl, trivial⟩ ⟨rfl, rfl, trivial⟩ ?_
  rintro ⟨h, a, cap, own, hD, hR⟩
  dsimp only
  refine xs_plain (E := EE [41]) ?_
  rcases Nat.lt_or_ge h D with hlt | hge
  · skip
    refine lx_binB true rfl rfl (fun _ => rfl) (fun _ => bin_lss_i _ _ _) (by simp; omega) rfl rfl ?_
    refine lx_nil ?_
    refine x_seq ?_
    refine x_true rfl ?_
    refine x_skip ?_
    refine x_seq ?_
    refine x_block ?_
    refine x_plain (E := EE [41]) ?_
    refine lx_loada 5 rfl rfl Tryd.isAgg79 Tryd.sizeOf79 (LC_len (zr_len _)) rfl rfl ?_
    refine lx_callE rfl rfl ent41 rfl rfl (fun w' hw' => (up_calls _ (lev_all hl h) (Nat.le_trans (lev_len P2 Z0 h l) hn) _ (zr_len h) _ _ w' (hGF.g _ _ _ hw') (hR w' hw')).mono fun e1 w2 h9 => ?_)
    obtain ⟨_, rfl, hg, b9, c9, cap9, rfl, hb9, ho9, ht9⟩ := h9
    rw [← lev_s] at ht9 ⊢
    rw [← zrT_s]
    refine ⟨_, _, rfl, good_hp hGF, hw'.news rides_true hg [(12, b9, c9, 22)] (row1 hb9 ho9) inj_one, ?_⟩
    clear hw' hg hb9 ho9
    refine lx_storea 5 hGF rfl rfl rfl Tryd.sizeOf79 (LC_len (zr_len _)) (LC_len (zr_len _)) (LC_one _ _ _ _) rfl ?_
    refine lx_nil ?_
    refine x_plain (E := EE [41]) ?_
    refine lx_bin (v := I (((h + 1 : Nat) : Int))) rfl rfl (fun _ => rfl) (fun _ => (bin_add_i _ _ _ (by unfold inI; omega)).trans (by rfl)) rfl rfl ?_
    refine lx_move rfl rfl rfl ?_
    refine lx_nil ?_
    repeat (refine kblk_n ?_)
    refine kseq_n ?_
    exact ⟨rfl, ⟨h + 1, some ⟨b9, 0, none⟩, cap9, [(12, b9, c9, 22)], hlt, fun w' hw' => rts_own (lev_all hl (h + 1)) (hp_row (n := 12) rfl w' hw') ht9⟩, _, by show D - (h + 1) < D - h; omega, rfl, ⟨rfl, rfl, rfl, rfl, trivial⟩, ⟨rfl, rfl, rfl, trivial⟩⟩
  · skip
    obtain rfl : h = D := by omega
    refine lx_binB false rfl rfl (fun _ => rfl) (fun _ => bin_lss_i _ _ _) (by rw [decide_eq_false_iff_not]; omega) rfl rfl ?_
    refine lx_nil ?_
    refine x_seq ?_
    refine x_false rfl ?_
    refine x_exit ?_
    refine xs_plain (E := EE [41]) ?_
    refine lx_loada 5 rfl rfl Tryd.isAgg79 Tryd.sizeOf79 (LC_len (zr_len _)) rfl rfl ?_
    refine lx_callC rfl rfl ent42 (fun w' hw' hG => at_calls _ (lev_all hl h) (Nat.le_trans (lev_len P2 Z0 h l) hn) _ (zr_len h) _ _ 0#64 w' hG (hR w' hw')) rfl rfl ?_
    rw [show (0#64).toNat = 0 from rfl, lev_top]
    refine lx_storea 4 hGF rfl rfl rfl Tryd.sizeOf22 (by rw [List.length_map]; exact tre_len hl _) (by rw [List.length_map]; exact Z0_len) (one_u8 _) rfl ?_
    refine lx_nil ?_
    refine x_ret ?_
    repeat (first | refine kseq_ret ?_ | refine kblk_ret ?_)
    exact kret_own 4 rfl rfl rfl Tryd.isAgg22 Tryd.sizeOf22 (by rw [List.length_map]; exact tre_len hl _) (fun w' hw' => ⟨rfl, hp_below hw'⟩)
theorem mroot_y (n : Int) (h63 : n < 9223372036854775808) (l : List Rt) (hl : AllR l) (len : Nat) (hlen : l.length = len) (hln : len ≤ 65536) (a : Option Addr) (cap : Nat) (hn : ¬ n.toNat < len) (w : World) (hw : Gt w) (hr : RtsAt w a l) : Calls Tryd.prog 25 [.slice a len cap, I n].toArray w (fun e w' => e = .returned (.tuple #[.agg ((tre P2 Z0 (dep n.toNat) l).map U8).toArray, I 0]) ∧ Grow w w') := by
  have hGF : BOk Gt (pl w) := gt_low.plain hw
  refine calls_of_X (G := Gt) Tryd.func25 rfl rfl (Hp (pl w) []) (hp_refl (pl w) trivial rides_true) (good_hp hGF) ?_
  refine xs_plain (E := EE []) ?_
  refine lx_allocr 4 hGF zv22 rfl rfl ?_
  intro b4
  refine lx_assign rfl rfl rfl ?_
  refine lx_nil ?_
  refine xs_plain (E := EE []) ?_
  refine lx_move rfl rfl rfl ?_
  refine lx_max (z := (if n < 0 then (0 : Int) else n)) rfl rfl rfl rfl rfl ?_
  refine lx_assign rfl rfl rfl ?_
  refine lx_nil ?_
  refine x_seq ?_
  refine xs_plain (E := EE []) ?_
  refine lx_move rfl rfl rfl ?_
  refine lx_len rfl (fun _ => len_slice Tryd.underlying57 _ _ _ _) rfl rfl ?_
  refine lx_move rfl rfl rfl ?_
  refine lx_binB false rfl rfl (fun _ => rfl) (fun _ => bin_gtr_i _ _ _) (by rw [decide_eq_false_iff_not]; split <;> omega) rfl rfl ?_
  refine lx_nil ?_
  refine x_false rfl ?_
  refine x_skip ?_
  refine xs_plain (E := EE []) ?_
  refine lx_move rfl rfl rfl ?_
  refine lx_move rfl rfl rfl ?_
  refine lx_callC rfl rfl ent35 (fun w' _ hG => depfor_calls (if n < 0 then (0 : Int) else n) (by split <;> omega) w' hG) rfl rfl ?_
  rw [show (if n < 0 then (0 : Int) else n).toNat = n.toNat from by split <;> omega]
  refine lx_callC rfl rfl ent34 (fun w' hw' hG => by have := top_calls (dep n.toNat) (by have := (dep_is n.toNat).1; omega) l hl (by omega) a cap w' hG (hr.grow (hp_below hw')); rw [hlen] at this; exact this) rfl rfl ?_
  refine lx_storea 4 hGF rfl rfl rfl Tryd.sizeOf22 (by rw [List.length_map]; exact tre_len hl _) (by rw [List.length_map]; exact Z0_len) (one_u8 _) rfl ?_
  refine lx_assign rfl rfl rfl ?_
  refine lx_nil ?_
  refine x_ret ?_
  repeat (first | refine kseq_ret ?_ | refine kblk_ret ?_)
  exact kret_ct 4 rfl rfl rfl rfl Tryd.isAgg22 Tryd.sizeOf22 (by rw [List.length_map]; exact tre_len hl _) (fun w' hw' => ⟨rfl, hp_below hw'⟩)
end Go.Proofs.YtdkkipjcmflclaaDoor
