/-
  The document's noughts, depths, trees and roots.
-/
import Derived.Test.YtdkkipjcmflclaaDoorTA
namespace Go.Proofs.YtdkkipjcmflclaaDoor
open Go.RowKit
set_option maxRecDepth 100000
set_option maxHeartbeats 1000000
open Sh
theorem shl1_i (t : TypeId) (k : Nat) (hk : k ≤ 62) (w : World) : (binOp .shl t (I 1) (I (k : Int))).run Tryd.prog w = .ok (I ((2 ^ k : Nat) : Int)) w := by
  have hlt : 2 ^ k ≤ 2 ^ 62 := Nat.pow_le_pow_right (by decide) hk
  have h62 : 2 ^ 62 = 4611686018427387904 := by decide
  show (Op.shift .shl .i64 (1 : Int) .i64 (k : Int)).run Tryd.prog w = _
  unfold Op.shift
  rw [if_neg (by omega)]
  show Result.ok (Value.int .i64 (IntKind.wrap .i64 ((1 : Int) * 2 ^ (min (k : Int).toNat 64)))) w = _
  rw [Int.toNat_natCast, Nat.min_eq_left (by omega), Int.one_mul]
  have e : (2 : Int) ^ k = ((2 ^ k : Nat) : Int) := by simp
  have hpos := Nat.two_pow_pos k
  rw [e, wrap_i64 _ (by unfold inI; omega)]
theorem hzero_calls (bm : Nat) (d : Int) (w : World) (hw : Gt w) (ho : MkAt w bm) : Calls Tryd.prog 36 [.agg [.pointer (some ⟨bm, 0, none⟩)].toArray, I d].toArray w (fun e w' => e = .returned (.agg ((zrT P2 Z0 (min d.toNat 64)).map U8).toArray) ∧ Grow w w') := by
  have hGF : BOk Gt (pl w) := gt_low.plain hw
  refine calls_of_X (G := Gt) Tryd.func36 rfl rfl (Hp (pl w) []) (hp_refl (pl w) trivial rides_true) (good_hp hGF) ?_
  refine xs_plain (E := EE []) ?_
  refine lx_boxr 2 hGF rfl rfl rfl ?_
  intro b2
  refine lx_allocr 4 hGF zv22 rfl rfl ?_
  intro b4
  refine lx_nil ?_
  refine xs_plain (E := EE []) ?_
  refine lx_allocr 5 hGF zv22 rfl rfl ?_
  intro b5
  refine lx_nil ?_
  refine x_seq ?_
  refine xs_plain (E := EE []) ?_
  refine lx_assign rfl rfl rfl ?_
  refine lx_nil ?_
  refine x_block ?_
  refine x_for (ι := { i : Nat // i ≤ min d.toNat 64 }) (fun x => [(1, I d), (2, .pointer (some ⟨b2, 0, none⟩)), (4, .pointer (some ⟨b4, 0, none⟩)), (5, .pointer (some ⟨b5, 0, none⟩)), (6, I (x.1 : Int))]) (fun x => [(2, b2, [.pointer (some ⟨bm, 0, none⟩)], 33), (4, b4, Z0.map U8, 22), (5, b5, (zrT P2 Z0 x.1).map U8, 22)]) (fun x => min d.toNat 64 - x.1) ⟨0, Nat.zero_le _⟩ hGF ⟨rfl, rfl, rfl, rfl, rfl, trivial⟩ ⟨rfl, rfl, rfl, trivial⟩ ?_
  rintro ⟨k, hk⟩
  dsimp only
  refine x_seq ?_
  refine xs_plain (E := EE []) ?_
  refine lx_move rfl rfl rfl ?_
  refine lx_move rfl rfl rfl ?_
  refine lx_min (z := (if (64 : Int) < d then 64 else d)) rfl rfl rfl rfl rfl ?_
  rcases Nat.lt_or_ge k (min d.toNat 64) with hlt | hge
  · skip
    refine lx_binB true rfl rfl (fun _ => rfl) (fun _ => bin_lss_i _ _ _) (by rw [decide_eq_true_eq]; split <;> omega) rfl rfl ?_
    refine lx_nil ?_
    refine x_true rfl ?_
    refine x_skip ?_
    refine x_seq ?_
    refine x_block ?_
    refine x_plain (E := EE []) ?_
    refine lx_fak 0 rfl Tryd.underlying33 rfl Tryd.sizeOf31 (by decide) rfl rfl rfl ?_
    refine lx_loadl 2 rfl rfl rfl Tryd.isAgg31 rfl rfl ?_
    refine lx_loada 5 rfl rfl Tryd.isAgg22 Tryd.sizeOf22 (by rw [List.length_map]; exact zr_len _) rfl rfl ?_
    refine lx_loada 5 rfl rfl Tryd.isAgg22 Tryd.sizeOf22 (by rw [List.length_map]; exact zr_len _) rfl rfl ?_
    refine lx_callC rfl rfl ent37 (fun w' hw' hG => mpair_calls bm _ _ (zr_len k) (zr_len k) w' hG (ho.of_same ((hp_below hw').block _ ho.lt))) rfl rfl ?_
    refine lx_storea 5 hGF rfl rfl rfl Tryd.sizeOf22 (by rw [List.length_map]; exact P2_len _ _) (by rw [List.length_map]; exact zr_len _) (one_u8 _) rfl ?_
    refine lx_nil ?_
    refine x_plain (E := EE []) ?_
    refine lx_move rfl rfl rfl ?_
    refine lx_bin (v := I (((k + 1 : Nat) : Int))) rfl rfl (fun _ => rfl) (fun _ => (bin_add_i _ _ _ (by unfold inI; omega)).trans (by rfl)) rfl rfl ?_
    refine lx_assign rfl rfl rfl ?_
    refine lx_nil ?_
    repeat (refine kblk_n ?_)
    refine kseq_n ?_
    exact ⟨rfl, ⟨k + 1, hlt⟩, _, by show min d.toNat 64 - (k + 1) < min d.toNat 64 - k; omega, rfl, ⟨rfl, rfl, rfl, rfl, rfl, trivial⟩, ⟨rfl, rfl, rfl, trivial⟩⟩
  · skip
    obtain rfl : k = min d.toNat 64 := by omega
    refine lx_binB false rfl rfl (fun _ => rfl) (fun _ => bin_lss_i _ _ _) (by rw [decide_eq_false_iff_not]; split <;> omega) rfl rfl ?_
    refine lx_nil ?_
    refine x_false rfl ?_
    refine x_exit ?_
    refine xs_plain (E := EE []) ?_
    refine lx_loada 5 rfl rfl Tryd.isAgg22 Tryd.sizeOf22 (by rw [List.length_map]; exact zr_len _) rfl rfl ?_
    refine lx_storea 4 hGF rfl rfl rfl Tryd.sizeOf22 (by rw [List.length_map]; exact zr_len _) (by rw [List.length_map]; exact Z0_len) (one_u8 _) rfl ?_
    refine lx_nil ?_
    refine x_ret ?_
    repeat (first | refine kseq_ret ?_ | refine kblk_ret ?_)
    exact kret_own 4 rfl rfl rfl Tryd.isAgg22 Tryd.sizeOf22 (by rw [List.length_map]; exact zr_len _) (fun w' hw' => ⟨rfl, hp_below hw'⟩)
theorem hdepth_calls (n : Int) (w : World) (hw : Gt w) : Calls Tryd.prog 27 [I n].toArray w (fun e w' => e = .returned (I (dep n.toNat : Nat)) ∧ Grow w w') := by
  have hGF : BOk Gt (pl w) := gt_low.plain hw
  refine calls_of_X (G := Gt) Tryd.func27 rfl rfl (Hp (pl w) []) (hp_refl (pl w) trivial rides_true) (good_hp hGF) ?_
  refine xs_plain (E := EE []) ?_
  refine lx_assign rfl rfl rfl ?_
  refine lx_nil ?_
  refine xs_plain (E := EE []) ?_
  refine lx_assign rfl rfl rfl ?_
  refine lx_nil ?_
  refine x_seq ?_
  refine x_block ?_
  refine x_for (ι := { i : Nat // i ≤ 62 ∧ ∀ e, e < i → 2 ^ e < n.toNat }) (fun x => [(0, I n), (3, I (x.1 : Int))]) (fun x => []) (fun x => 62 - x.1) ⟨0, by omega, fun e he => by omega⟩ hGF ⟨rfl, rfl, trivial⟩ trivial ?_
  rintro ⟨k, hk, hlo⟩
  dsimp only
  refine x_seq ?_
  refine xs_plain (E := EE []) ?_
  refine lx_move rfl rfl rfl ?_
  rcases Nat.lt_or_ge k 62 with hlt | hge
  · skip
    refine lx_binB true rfl rfl (fun _ => rfl) (fun _ => bin_lss_i _ _ _) (by simp; omega) rfl rfl ?_
    refine lx_move rfl rfl rfl ?_
    refine lx_move rfl rfl rfl ?_
    refine lx_bin (v := I (((2 ^ k : Nat) : Int))) rfl rfl (fun _ => rfl) (fun _ => shl1_i _ k (by omega) _) rfl rfl ?_
    refine lx_move rfl rfl rfl ?_
    rcases Nat.lt_or_ge (2 ^ k) n.toNat with hl2 | hl2
    · skip
      refine lx_binB true rfl rfl (fun _ => rfl) (fun _ => bin_lss_i _ _ _) (by rw [decide_eq_true_eq]; have := Nat.two_pow_pos k; omega) rfl rfl ?_
      refine lx_pick rfl rfl rfl rfl rfl ?_
      refine lx_nil ?_
      refine x_true rfl ?_
      refine x_skip ?_
      refine x_block ?_
      refine x_plain (E := EE []) ?_
      refine lx_move rfl rfl rfl ?_
      refine lx_bin (v := I (((k + 1 : Nat) : Int))) rfl rfl (fun _ => rfl) (fun _ => (bin_add_i _ _ _ (by unfold inI; omega)).trans (by rfl)) rfl rfl ?_
      refine lx_assign rfl rfl rfl ?_
      refine lx_nil ?_
      repeat (refine kblk_n ?_)
      refine kseq_n ?_
      exact ⟨rfl, ⟨k + 1, hlt, fun e he => (Nat.lt_or_ge e k).elim (hlo e) (fun h => by (obtain rfl : e = k := (by omega)); exact hl2)⟩, _, by show 62 - (k + 1) < 62 - k; omega, rfl, ⟨rfl, rfl, trivial⟩, trivial⟩
    · skip
      have hfin : k = 62 ∨ n.toNat ≤ 2 ^ k := .inr hl2
      refine lx_binB false rfl rfl (fun _ => rfl) (fun _ => bin_lss_i _ _ _) (by rw [decide_eq_false_iff_not]; have := Nat.two_pow_pos k; omega) rfl rfl ?_
      refine lx_pick rfl rfl rfl rfl rfl ?_
      refine lx_nil ?_
      refine x_false rfl ?_
      refine x_exit ?_
      refine xs_plain (E := EE []) ?_
      refine lx_move rfl rfl rfl ?_
      refine lx_assign rfl rfl rfl ?_
      refine lx_nil ?_
      refine x_ret ?_
      repeat (first | refine kseq_ret ?_ | refine kblk_ret ?_)
      exact kret_tmp rfl rfl (fun w' hw' => ⟨by rw [dep_of hk hfin hlo], hp_below hw'⟩)
  · skip
    have hfin : k = 62 ∨ n.toNat ≤ 2 ^ k := .inl (by omega)
    refine lx_binB false rfl rfl (fun _ => rfl) (fun _ => bin_lss_i _ _ _) (by simp; omega) rfl rfl ?_
    refine lx_move rfl rfl rfl ?_
    refine lx_skip rfl rfl rfl ?_
    refine lx_skip rfl rfl rfl ?_
    refine lx_skip rfl rfl rfl ?_
    refine lx_skip rfl rfl rfl ?_
    refine lx_pick rfl rfl rfl rfl rfl ?_
    refine lx_nil ?_
    refine x_false rfl ?_
    refine x_exit ?_
    refine xs_plain (E := EE []) ?_
    refine lx_move rfl rfl rfl ?_
    refine lx_assign rfl rfl rfl ?_
    refine lx_nil ?_
    refine x_ret ?_
    repeat (first | refine kseq_ret ?_ | refine kblk_ret ?_)
    exact kret_tmp rfl rfl (fun w' hw' => ⟨by rw [dep_of hk hfin hlo], hp_below hw'⟩)
theorem htree_n (bm d : Nat) (a : Option Addr) (cap : Nat) (w : World) (hw : Gt w) (ho : MkAt w bm) : Calls Tryd.prog 26 [.agg [.pointer (some ⟨bm, 0, none⟩)].toArray, .slice a 0 cap, I (d : Int)].toArray w (fun e w' => e = .returned (.agg ((zrT P2 Z0 (min (d : Int).toNat 64)).map U8).toArray) ∧ Grow w w') := by
  have hGF : BOk Gt (pl w) := gt_low.plain hw
  refine calls_of_X (G := Gt) Tryd.func26 rfl rfl (Hp (pl w) []) (hp_refl (pl w) trivial rides_true) (good_hp hGF) ?_
  refine xs_plain (E := EE []) ?_
  refine lx_boxr 3 hGF rfl rfl rfl ?_
  intro b3
  refine lx_allocr 6 hGF zv22 rfl rfl ?_
  intro b6
  refine lx_nil ?_
  refine x_seq ?_
  refine xs_plain (E := EE []) ?_
  refine lx_move rfl rfl rfl ?_
  refine lx_len rfl (fun _ => len_slice Tryd.underlying57 _ _ _ _) rfl rfl ?_
  refine lx_binB true rfl rfl (fun _ => rfl) (fun _ => bin_eql_i _ _ _) (by simp) rfl rfl ?_
  refine lx_nil ?_
  refine x_true rfl ?_
  refine xs_plain (E := EE []) ?_
  refine lx_loada 3 rfl rfl Tryd.isAgg33 Tryd.sizeOf33 rfl rfl rfl ?_
  refine lx_move rfl rfl rfl ?_
  refine lx_callC rfl rfl ent36 (fun w' hw' hG => hzero_calls bm (d : Int) w' hG (ho.of_same ((hp_below hw').block _ ho.lt))) rfl rfl ?_
  refine lx_storea 6 hGF rfl rfl rfl Tryd.sizeOf22 (by rw [List.length_map]; exact zr_len _) (by rw [List.length_map]; exact Z0_len) (one_u8 _) rfl ?_
  refine lx_nil ?_
  refine x_ret ?_
  repeat (first | refine kseq_ret ?_ | refine kblk_ret ?_)
  exact kret_own 6 rfl rfl rfl Tryd.isAgg22 Tryd.sizeOf22 (by rw [List.length_map]; exact zr_len _) (fun w' hw' => ⟨rfl, hp_below hw'⟩)
theorem htree_0 (bm : Nat) (x : Rt) (hx : x.length = 32) (ad : Addr) (len cap : Nat) (hlen : 0 < len) (w : World) (hw : Gt w) (hc : ∀ j v, (x.map U8)[j]? = some v → w.cell? ((ad.add (0 * 32)).add j) = some v) : Calls Tryd.prog 26 [.agg [.pointer (some ⟨bm, 0, none⟩)].toArray, .slice (some ad) len cap, I 0].toArray w (fun e w' => e = .returned (.agg ((x).map U8).toArray) ∧ Grow w w') := by
  have hGF : BOk Gt (pl w) := gt_low.plain hw
  refine calls_of_X (G := Gt) Tryd.func26 rfl rfl (Hp (pl w) []) (hp_refl (pl w) trivial rides_true) (good_hp hGF) ?_
  refine xs_plain (E := EE []) ?_
  refine lx_boxr 3 hGF rfl rfl rfl ?_
  intro b3
  refine lx_allocr 6 hGF zv22 rfl rfl ?_
  intro b6
  refine lx_nil ?_
  refine x_seq ?_
  refine xs_plain (E := EE []) ?_
  refine lx_move rfl rfl rfl ?_
  refine lx_len rfl (fun _ => len_slice Tryd.underlying57 _ _ _ _) rfl rfl ?_
  refine lx_binB false rfl rfl (fun _ => rfl) (fun _ => bin_eql_i _ _ _) (by simp; omega) rfl rfl ?_
  refine lx_nil ?_
  refine x_false rfl ?_
  refine x_skip ?_
  refine x_seq ?_
  refine xs_plain (E := EE []) ?_
  refine lx_move rfl rfl rfl ?_
  refine lx_binB true rfl rfl (fun _ => rfl) (fun _ => bin_eql_i _ _ _) (by simp) rfl rfl ?_
  refine lx_nil ?_
  refine x_true rfl ?_
  refine xs_plain (E := EE []) ?_
  refine lx_move rfl rfl rfl ?_
  refine lx_isAW 0 32 rfl rfl Tryd.underlying57 Tryd.sizeOf22 rfl (by omega) rfl rfl ?_
  refine lx_loadA (cs := x.map U8) rfl Tryd.isAgg22 Tryd.sizeOf22 (by rw [List.length_map]; exact hx) (fun w' h j v hv => ((hp_below h).cell (block_lt_of_cell (hc j v hv))).trans (hc j v hv)) rfl rfl ?_
  refine lx_storea 6 hGF rfl rfl rfl Tryd.sizeOf22 (by rw [List.length_map]; exact hx) (by rw [List.length_map]; exact Z0_len) (one_u8 _) rfl ?_
  refine lx_nil ?_
  refine x_ret ?_
  repeat (first | refine kseq_ret ?_ | refine kblk_ret ?_)
  exact kret_own 6 rfl rfl rfl Tryd.isAgg22 Tryd.sizeOf22 (by rw [List.length_map]; exact hx) (fun w' hw' => ⟨rfl, hp_below hw'⟩)
/-- The document's tree of this depth. -/
def HTree (bm d : Nat) : Prop := ∀ (l : List Rt), AllR l → ∀ (len : Nat), l.length = len → len ≤ 1000000 → ∀ (a : Option Addr) (cap : Nat), len ≤ cap → ∀ (w : World), Gt w → MkAt w bm → RtsAt w a l → Calls Tryd.prog 26 [.agg [.pointer (some ⟨bm, 0, none⟩)].toArray, .slice a len cap, I (d : Int)].toArray w (fun e w' => e = .returned (.agg ((tre P2 Z0 d l).map U8).toArray) ∧ Grow w w')
theorem htree_s (bm d : Nat) (hd : d + 1 < 63) (l : List Rt) (hl : AllR l) (len : Nat) (hlen : l.length = len) (hln : len ≤ 1000000) (h0 : 0 < len) (a : Option Addr) (cap : Nat) (hc : len ≤ cap) (ih : HTree bm d) (w : World) (hw : Gt w) (ho : MkAt w bm) (hr : RtsAt w a l) : Calls Tryd.prog 26 [.agg [.pointer (some ⟨bm, 0, none⟩)].toArray, .slice a len cap, I ((d + 1 : Nat) : Int)].toArray w (fun e w' => e = .returned (.agg ((P2 (tre P2 Z0 d (l.take (min len (2 ^ d)))) (tre P2 Z0 d (l.drop (min len (2 ^ d))))).map U8).toArray) ∧ Grow w w') := by
  have hpos := Nat.two_pow_pos d
  have hGF : BOk Gt (pl w) := gt_low.plain hw
  refine calls_of_X (G := Gt) Tryd.func26 rfl rfl (Hp (pl w) []) (hp_refl (pl w) trivial rides_true) (good_hp hGF) ?_
  refine xs_plain (E := EE []) ?_
  refine lx_boxr 3 hGF rfl rfl rfl ?_
  intro b3
  refine lx_allocr 6 hGF zv22 rfl rfl ?_
  intro b6
  refine lx_nil ?_
  refine x_seq ?_
  refine xs_plain (E := EE []) ?_
  refine lx_move rfl rfl rfl ?_
  refine lx_len rfl (fun _ => len_slice Tryd.underlying57 _ _ _ _) rfl rfl ?_
  refine lx_binB false rfl rfl (fun _ => rfl) (fun _ => bin_eql_i _ _ _) (by simp; omega) rfl rfl ?_
  refine lx_nil ?_
  refine x_false rfl ?_
  refine x_skip ?_
  refine x_seq ?_
  refine xs_plain (E := EE []) ?_
  refine lx_move rfl rfl rfl ?_
  refine lx_binB false rfl rfl (fun _ => rfl) (fun _ => bin_eql_i _ _ _) (by simp; omega) rfl rfl ?_
  refine lx_nil ?_
  refine x_false rfl ?_
  refine x_skip ?_
  refine xs_plain (E := EE []) ?_
  refine lx_move rfl rfl rfl ?_
  refine lx_len rfl (fun _ => len_slice Tryd.underlying57 _ _ _ _) rfl rfl ?_
  refine lx_assign rfl rfl rfl ?_
  refine lx_nil ?_
  refine x_seq ?_
  refine xs_plain (E := EE []) ?_
  refine lx_move rfl rfl rfl ?_
  refine lx_binB true rfl rfl (fun _ => rfl) (fun _ => bin_lss_i _ _ _) (by simp; omega) rfl rfl ?_
  refine lx_nil ?_
  refine x_true rfl ?_
  refine x_plain (E := EE []) ?_
  refine lx_move rfl rfl rfl ?_
  refine lx_move rfl rfl rfl ?_
  refine lx_bin (v := I (((d : Nat) : Int))) rfl rfl (fun _ => rfl) (fun _ => (bin_sub_i _ _ _ (by unfold inI; omega)).trans (by congr 2; omega)) rfl rfl ?_
  refine lx_bin (v := I (((2 ^ d : Nat) : Int))) rfl rfl (fun _ => rfl) (fun _ => shl1_i _ d (by omega) _) rfl rfl ?_
  refine lx_min (z := (((min len (2 ^ d)) : Nat) : Int)) rfl rfl (by split <;> omega) rfl rfl ?_
  refine lx_assign rfl rfl rfl ?_
  refine lx_nil ?_
  refine xs_drawn (E := EE []) mixed (by kernel_rfl) (by kernel_rfl) (by kernel_rfl) ?_
  refine lx_fak 0 rfl Tryd.underlying33 rfl Tryd.sizeOf31 (by decide) rfl rfl rfl ?_
  refine lx_loadl 3 rfl rfl rfl Tryd.isAgg31 rfl rfl ?_
  refine lx_loada 3 rfl rfl Tryd.isAgg33 Tryd.sizeOf33 rfl rfl rfl ?_
  refine lx_move rfl rfl rfl ?_
  refine lx_move rfl rfl rfl ?_
  refine lx_slsl (l := 0) (h' := (min len (2 ^ d))) rfl Tryd.underlying57 Tryd.sizeOf22 rfl rfl ⟨Nat.zero_le _, by omega⟩ rfl rfl ?_
  rw [cutR0, Nat.sub_zero, Nat.sub_zero]
  refine lx_move rfl rfl rfl ?_
  refine lx_bin (v := I (((d : Nat) : Int))) rfl rfl (fun _ => rfl) (fun _ => (bin_sub_i _ _ _ (by unfold inI; omega)).trans (by congr 2; omega)) rfl rfl ?_
  refine lx_callC rfl rfl ent26 (fun w' hw' hG => ih (l.take (min len (2 ^ d))) (hl.take _) _ (by rw [List.length_take]; omega) (by omega) a cap (by omega) w' hG (ho.of_same ((hp_below hw').block _ ho.lt)) ((hr.grow (hp_below hw')).take _)) rfl rfl ?_
  refine lx_loada 3 rfl rfl Tryd.isAgg33 Tryd.sizeOf33 rfl rfl rfl ?_
  refine lx_move rfl rfl rfl ?_
  refine lx_move rfl rfl rfl ?_
  refine lx_slsl (l := (min len (2 ^ d))) (h' := len) rfl Tryd.underlying57 Tryd.sizeOf22 rfl rfl ⟨by omega, by omega⟩ rfl rfl ?_
  rw [show (if cap = (min len (2 ^ d)) then a else a.map (·.add ((min len (2 ^ d)) * 32))) = cutR a cap (min len (2 ^ d)) from rfl]
  refine lx_move rfl rfl rfl ?_
  refine lx_bin (v := I (((d : Nat) : Int))) rfl rfl (fun _ => rfl) (fun _ => (bin_sub_i _ _ _ (by unfold inI; omega)).trans (by congr 2; omega)) rfl rfl ?_
  refine lx_callC rfl rfl ent26 (fun w' hw' hG => ih (l.drop (min len (2 ^ d))) (hl.drop _) _ (by rw [List.length_drop]; omega) (by omega) (cutR a cap (min len (2 ^ d))) (cap - (min len (2 ^ d))) (by omega) w' hG (ho.of_same ((hp_below hw').block _ ho.lt)) ((hr.grow (hp_below hw')).drop (by omega) _)) rfl rfl ?_
  refine lx_callC rfl rfl ent37 (fun w' hw' hG => mpair_calls bm _ _ (tre_len (hl.take _) d) (tre_len (hl.drop _) d) w' hG (ho.of_same ((hp_below hw').block _ ho.lt))) rfl rfl ?_
  refine lx_storea 6 hGF rfl rfl rfl Tryd.sizeOf22 (by rw [List.length_map]; exact P2_len _ _) (by rw [List.length_map]; exact Z0_len) (one_u8 _) rfl ?_
  refine lx_nil ?_
  refine x_ret ?_
  repeat (first | refine kseq_ret ?_ | refine kblk_ret ?_)
  exact kret_own 6 rfl rfl rfl Tryd.isAgg22 Tryd.sizeOf22 (by rw [List.length_map]; exact P2_len _ _) (fun w' hw' => ⟨rfl, hp_below hw'⟩)
theorem htree_calls (bm : Nat) : ∀ d, d < 63 → HTree bm d
  | d, hd => fun l hl len hlen hln a cap hc w hw ho hr => by
    rcases Nat.eq_zero_or_pos len with h0 | h0
    · have hnil : l = [] := List.eq_nil_of_length_eq_zero (by omega)
      subst h0
      subst hnil
      have := htree_n bm d a cap w hw ho
      rw [Int.toNat_natCast, Nat.min_eq_left (by omega), ← tre_nil] at this
      exact this
    · match d, hd with
      | 0, _ =>
        obtain ⟨x, r, rfl⟩ : ∃ x r, l = x :: r := by
          cases l with
          | nil => simp at hlen; omega
          | cons x r => exact ⟨x, r, rfl⟩
        obtain ⟨ad, rfl, h1⟩ := hr 0 x rfl
        exact htree_0 bm x (hl x (List.mem_cons_self ..)) ad len cap h0 w hw h1
      | d + 1, hd =>
        have := htree_s bm d hd l hl len hlen hln h0 a cap hc (htree_calls bm d (by omega)) w hw ho hr
        have e1 : l.take (min len (2 ^ d)) = l.take (2 ^ d) := by
          rcases Nat.le_total len (2 ^ d) with h | h
          · rw [Nat.min_eq_left h, List.take_of_length_le (by omega), List.take_of_length_le (by omega)]
          · rw [Nat.min_eq_right h]
        have e2 : l.drop (min len (2 ^ d)) = l.drop (2 ^ d) := by
          rcases Nat.le_total len (2 ^ d) with h | h
          · rw [Nat.min_eq_left h, List.drop_of_length_le (by omega), List.drop_of_length_le (by omega)]
          · rw [Nat.min_eq_right h]
        rw [e1, e2] at this
        exact this
end Go.Proofs.YtdkkipjcmflclaaDoor
