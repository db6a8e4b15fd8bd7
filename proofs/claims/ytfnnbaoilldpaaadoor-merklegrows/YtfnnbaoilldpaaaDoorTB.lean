/-
  The document's noughts, depths, trees and roots.
-/
import Derived.Test.YtfnnbaoilldpaaaDoorTA
namespace Go.Proofs.YtfnnbaoilldpaaaDoor
open Go.RowKit
set_option maxRecDepth 100000
set_option maxHeartbeats 1000000
open Sh
theorem shl1_i (t : TypeId) (k : Nat) (hk : k ≤ 62) (w : World) : (binOp .shl t (I 1) (I (k : Int))).run Tryd.prog w = .ok (I ((2 ^ k : Nat) : Int)) w := by
  have hlt : 2 ^ k ≤ 2 ^ 62 := Nat.pow_le_pow_right (by decide) hk
  have h62 : 2 ^ 62 = 4611686018427387904 := by decide
  show (Op.shift .shl .i64 (1 : Int) .i64 (k : Int)).run Tryd.prog w = _
  unfold Op.shift
  rw [if_neg (by omega)]
  show Result.ok (Value.int .i64 (IntKind.wrap .i64 ((1 : Int) * 2 ^ (min (k : Int).toNat 64)))) w = _
  rw [Int.toNat_natCast, Nat.min_eq_left (by omega), Int.one_mul]
  have e : (2 : Int) ^ k = ((2 ^ k : Nat) : Int) := by simp
  have hpos := Nat.two_pow_pos k
  rw [e, wrap_i64 _ (by unfold inI; omega)]
theorem hzero_calls (bm : Nat) (d : Int) (w : World) (hw : Gt w) (ho : MkAt w bm) : Calls Tryd.prog 16 [.agg [.pointer (some ⟨bm, 0, none⟩)].toArray, I d].toArray w (fun e w' => e = .returned (.agg ((zrT P2 Z0 (min d.toNat 64)).map U8).toArray) ∧ Grow w w') := by
  have hGF : BOk Gt (pl w) := gt_low.plain hw
  refine calls_of_X (G := Gt) Tryd.func16 rfl rfl (Hp (pl w) []) (hp_refl (pl w) trivial rides_true) (good_hp hGF) ?_
  refine xs_plain (E := EE []) ?_
  refine lx_boxr 2 hGF rfl rfl rfl ?_
  intro b2
  refine lx_allocr 4 hGF zv29 rfl rfl ?_
  intro b4
  refine lx_nil ?_
  refine xs_plain (E := EE []) ?_
  refine lx_allocr 5 hGF zv29 rfl rfl ?_
  intro b5
  refine lx_nil ?_
  refine x_seq ?_
  refine xs_plain (E := EE []) ?_
  refine lx_assign rfl rfl rfl ?_
  refine lx_nil ?_
  refine x_block ?_
  refine x_for (ι := { i : Nat // i ≤ min d.toNat 64 }) (fun x => [(1, I d), (2, .pointer (some ⟨b2, 0, none⟩)), (4, .pointer (some ⟨b4, 0, none⟩)), (5, .pointer (some ⟨b5, 0, none⟩)), (6, I (x.1 : Int))]) (fun x => [(2, b2, [.pointer (some ⟨bm, 0, none⟩)], 27), (4, b4, Z0.map U8, 29), (5, b5, (zrT P2 Z0 x.1).map U8, 29)]) (fun x => min d.toNat 64 - x.1) ⟨0, Nat.zero_le _⟩ hGF ⟨rfl, rfl, rfl, rfl, rfl, trivial⟩ ⟨rfl, rfl, rfl, trivial⟩ ?_
  rintro ⟨k, hk⟩
  dsimp only
  refine x_seq ?_
  refine xs_plain (E := EE []) ?_
  refine lx_move rfl rfl rfl ?_
  refine lx_move rfl rfl rfl ?_
  refine lx_min (z := (if (64 : Int) < d then 64 else d)) rfl rfl rfl rfl rfl ?_
  rcases Nat.lt_or_ge k (min d.toNat 64) with hlt | hge
  · skip
    refine lx_binB true rfl rfl (fun _ => rfl) (fun _ => bin_lss_i _ _ _) (by rw [decide_eq_true_eq]; split <;> omega) rfl rfl ?_
    refine lx_nil ?_
    refine x_true rfl ?_
    refine x_skip ?_
    refine x_seq ?_
    refine x_block ?_
    refine x_plain (E := EE []) ?_
    refine lx_fak 0 rfl Tryd.underlying27 rfl Tryd.sizeOf25 (by decide) rfl rfl rfl ?_
    refine lx_loadl 2 rfl rfl rfl Tryd.isAgg25 rfl rfl ?_
    refine lx_loada 5 rfl rfl Tryd.isAgg29 Tryd.sizeOf29 (by rw [List.length_map]; exact zr_len _) rfl rfl ?_
    refine lx_loada 5 rfl rfl Tryd.isAgg29 Tryd.sizeOf29 (by rw [List.length_map]; exact zr_len _) rfl rfl ?_
    refine lx_callC rfl rfl ent28 (fun w' hw' hG => mpair_calls bm _ _ (zr_len k) (zr_len k) w' hG (ho.of_same ((hp_below hw').block _ ho.lt))) rfl rfl ?_
    refine lx_storea 5 hGF rfl rfl rfl Tryd.sizeOf29 (by rw [List.length_map]; exact P2_len _ _) (by rw [List.length_map]; exact zr_len _) (one_u8 _) rfl ?_
    refine lx_nil ?_
    refine x_plain (E := EE []) ?_
    refine lx_move rfl rfl rfl ?_
    refine lx_bin (v := I (((k + 1 : Nat) : Int))) rfl rfl (fun _ => rfl) (fun _ => (bin_add_i _ _ _ (by unfold inI; omega)).trans (by rfl)) rfl rfl ?_
    refine lx_assign rfl rfl rfl ?_
    refine lx_nil ?_
    repeat (refine kblk_n ?_)
    refine kseq_n ?_
    exact ⟨rfl, ⟨k + 1, hlt⟩, _, by show min d.toNat 64 - (k + 1) < min d.toNat 64 - k; omega, rfl, ⟨rfl, rfl, rfl, rfl, rfl, trivial⟩, ⟨rfl, rfl, rfl, trivial⟩⟩
  · skip
    obtain rfl : k = min d.toNat 64 := by omega
    refine lx_binB false rfl rfl (fun _ => rfl) (fun _ => bin_lss_i _ _ _) (by rw [decide_eq_false_iff_not]; split <;> omega) rfl rfl ?_
    refine lx_nil ?_
    refine x_false rfl ?_
    refine x_exit ?_
    refine xs_plain (E := EE []) ?_
    refine lx_loada 5 rfl rfl Tryd.isAgg29 Tryd.sizeOf29 (by rw [List.length_map]; exact zr_len _) rfl rfl ?_
    refine lx_storea 4 hGF rfl rfl rfl Tryd.sizeOf29 (by rw [List.length_map]; exact zr_len _) (by rw [List.length_map]; exact Z0_len) (one_u8 _) rfl ?_
    refine lx_nil ?_
    refine x_ret ?_
    repeat (first | refine kseq_ret ?_ | refine kblk_ret ?_)
    exact kret_own 4 rfl rfl rfl Tryd.isAgg29 Tryd.sizeOf29 (by rw [List.length_map]; exact zr_len _) (fun w' hw' => ⟨rfl, hp_below hw'⟩)
theorem hdepth_calls (n : Int) (w : World) (hw : Gt w) : Calls Tryd.prog 27 [I n].toArray w (fun e w' => e = .returned (I (dep n.toNat : Nat)) ∧ Grow w w') := by
  have hGF : BOk Gt (pl w) := gt_low.plain hw
  refine calls_of_X (G := Gt) Tryd.func27 rfl rfl (Hp (pl w) []) (hp_refl (pl w) trivial rides_true) (good_hp hGF) ?_
  refine xs_plain (E := EE []) ?_
  refine lx_assign rfl rfl rfl ?_
  refine lx_nil ?_
  refine xs_plain (E := EE []) ?_
  refine lx_assign rfl rfl rfl ?_
  refine lx_nil ?_
  refine x_seq ?_
  refine x_block ?_
  refine x_for (ι := { i : Nat // i ≤ 62 ∧ ∀ e, e < i → 2 ^ e < n.toNat }) (fun x => [(0, I n), (3, I (x.1 : Int))]) (fun x => []) (fun x => 62 - x.1) ⟨0, by omega, fun e he => by omega⟩ hGF ⟨rfl, rfl, trivial⟩ trivial ?_
  rintro ⟨k, hk, hlo⟩
  dsimp only
  refine x_seq ?_
  refine xs_plain (E := EE []) ?_
  refine lx_move rfl rfl rfl ?_
  rcases Nat.lt_or_ge k 62 with hlt | hge
  · skip
    refine lx_binB true rfl rfl (fun _ => rfl) (fun _ => bin_lss_i _ _ _) (by simp; omega) rfl rfl ?_
    refine lx_move rfl rfl rfl ?_
    refine lx_move rfl rfl rfl ?_
    refine lx_bin (v := I (((2 ^ k : Nat) : Int))) rfl rfl (fun _ => rfl) (fun _ => shl1_i _ k (by omega) _) rfl rfl ?_
    refine lx_move rfl rfl rfl ?_
    rcases Nat.lt_or_ge (2 ^ k) n.toNat with hl2 | hl2
    · skip
      refine lx_binB true rfl rfl (fun _ => rfl) (fun _ => bin_lss_i _ _ _) (by rw [decide_eq_true_eq]; have := Nat.two_pow_pos k; omega) rfl rfl ?_
      refine lx_pick rfl rfl rfl rfl rfl ?_
      refine lx_nil ?_
      refine x_true rfl ?_
      refine x_skip ?_
      refine x_block ?_
      refine x_plain (E := EE []) ?_
      refine lx_move rfl rfl rfl ?_
      refine lx_bin (v := I (((k + 1 : Nat) : Int))) rfl rfl (fun _ => rfl) (fun _ => (bin_add_i _ _ _ (by unfold inI; omega)).trans (by rfl)) rfl rfl ?_
      refine lx_assign rfl rfl rfl ?_
      refine lx_nil ?_
      repeat (refine kblk_n ?_)
      refine kseq_n ?_
      exact ⟨rfl, ⟨k + 1, hlt, fun e he => (Nat.lt_or_ge e k).elim (hlo e) (fun h => by (obtain rfl : e = k := (by omega)); exact hl2)⟩, _, by show 62 - (k + 1) < 62 - k; omega, rfl, ⟨rfl, rfl, trivial⟩, trivial⟩
    · skip
      have hfin : k = 62 ∨ n.toNat ≤ 2 ^ k := .inr hl2
      refine lx_binB false rfl rfl (fun _ => rfl) (fun _ => bin_lss_i _ _ _) (by rw [decide_eq_false_iff_not]; have := Nat.two_pow_pos k; omega) rfl rfl ?_
      refine lx_pick rfl rfl rfl rfl rfl ?_
      refine lx_nil ?_
      refine x_false rfl ?_
      refine x_exit ?_
      refine xs_plain (E := EE []) ?_
      refine lx_move rfl rfl rfl ?_
      refine lx_assign rfl rfl rfl ?_
      refine lx_nil ?_
      refine x_ret ?_
      repeat (first | refine kseq_ret ?_ | refine kblk_ret ?_)
      exact kret_tmp rfl rfl (fun w' hw' => ⟨by rw [dep_of hk hfin hlo], hp_below hw'⟩)
  · skip
    have hfin : k = 62 ∨ n.toNat ≤ 2 ^ k := .inl (by omega)
    refine lx_binB false rfl rfl (fun _ => rfl) (fun _ => bin_lss_i _ _ _) (by simp; omega) rfl rfl ?_
    refine lx_move rfl rfl rfl ?_
    refine lx_skip rfl rfl rfl ?_
    refine lx_skip rfl rfl rfl ?_
    refine lx_skip rfl rfl rfl ?_
    refine lx_skip rfl rfl rfl ?_
    refine lx_pick rfl rfl rfl rfl rfl ?_
    refine lx_nil ?_
    refine x_false rfl ?_
    refine x_exit ?_
    refine xs_plain (E := EE []) ?_
    refine lx_move rfl rfl rfl ?_
    refine lx_assign rfl rfl rfl ?_
    refine lx_nil ?_
    refine x_ret ?_
    repeat (first | refine kseq_ret ?_ | refine kblk_ret ?_)
    exact kret_tmp rfl rfl (fun w' hw' => ⟨by rw [dep_of hk hfin hlo], hp_below hw'⟩)
end Go.Proofs.YtfnnbaoilldpaaaDoor
