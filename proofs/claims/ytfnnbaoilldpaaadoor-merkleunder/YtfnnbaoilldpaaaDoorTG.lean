/-
  Places; lists of roots held against one another; the law of branches.
-/
import Derived.Test.YtfnnbaoilldpaaaDoorTF
namespace Go.Proofs.YtfnnbaoilldpaaaDoor
open Go.RowKit
set_option maxRecDepth 100000
set_option maxHeartbeats 1000000
open Sh
theorem plc_calls (i : Int) (m : Nat) (h0 : 0 < m) (hm : m ≤ 1000000) (w : World) (hw : Gt w) : Calls Tryd.prog 17 [I i, I (m : Int)].toArray w (fun e w' => ∃ k : Nat, e = .returned (I (k : Int)) ∧ k < m ∧ Grow w w') := by
  have h1 := Int.tmod_lt_of_pos i (b := (m : Int)) (by omega)
  have h2 := Int.lt_tmod_of_pos i (b := (m : Int)) (by omega)
  have hGF : BOk Gt (pl w) := gt_low.plain hw
  refine calls_of_X (G := Gt) Tryd.func17 rfl rfl (Hp (pl w) []) (hp_refl (pl w) trivial rides_true) (good_hp hGF) ?_
  refine xs_plain (E := EE []) ?_
  refine lx_assign rfl rfl rfl ?_
  refine lx_nil ?_
  refine xs_plain (E := EE []) ?_
  refine lx_move rfl rfl rfl ?_
  refine lx_move rfl rfl rfl ?_
  refine lx_bin (v := I (i.tmod (m : Int))) rfl rfl (fun _ => rfl) (fun _ => bin_rem_i _ _ _ (by omega)) rfl rfl ?_
  refine lx_assign rfl rfl rfl ?_
  refine lx_nil ?_
  refine x_seq ?_
  refine xs_plain (E := EE []) ?_
  refine lx_move rfl rfl rfl ?_
  refine lx_bin rfl rfl (fun _ => rfl) (fun _ => bin_lss_i _ _ _) rfl rfl ?_
  refine lx_nil ?_
  refine x_if rfl (fun hc => ?_) (fun hc => ?_)
  · simp only [decide_eq_true_eq] at hc
    refine x_plain (E := EE []) ?_
    refine lx_move rfl rfl rfl ?_
    refine lx_move rfl rfl rfl ?_
    refine lx_bin (v := I (i.tmod (m : Int) + m)) rfl rfl (fun _ => rfl) (fun _ => bin_add_i _ _ _ (by unfold inI; omega)) rfl rfl ?_
    refine lx_assign rfl rfl rfl ?_
    refine lx_nil ?_
    refine xs_plain (E := EE []) ?_
    refine lx_move rfl rfl rfl ?_
    refine lx_assign rfl rfl rfl ?_
    refine lx_nil ?_
    refine x_ret ?_
    repeat (first | refine kseq_ret ?_ | refine kblk_ret ?_)
    exact kret_tmp rfl rfl (fun w' hw' => ⟨(if i.tmod (m : Int) < 0 then i.tmod (m : Int) + m else i.tmod (m : Int)).toNat, by congr 2; split <;> omega, by split <;> omega, hp_below hw'⟩)
  · simp only [decide_eq_false_iff_not] at hc
    refine x_skip ?_
    refine xs_plain (E := EE []) ?_
    refine lx_move rfl rfl rfl ?_
    refine lx_assign rfl rfl rfl ?_
    refine lx_nil ?_
    refine x_ret ?_
    repeat (first | refine kseq_ret ?_ | refine kblk_ret ?_)
    exact kret_tmp rfl rfl (fun w' hw' => ⟨(if i.tmod (m : Int) < 0 then i.tmod (m : Int) + m else i.tmod (m : Int)).toNat, by congr 2; split <;> omega, by split <;> omega, hp_below hw'⟩)
theorem rtl_calls (l : List Rt) (hl : AllR l) (len : Nat) (hlen : l.length = len) (hln : len ≤ 1000000) (a1 : Option Addr) (c1 : Nat) (a2 : Option Addr) (c2 : Nat) (w : World) (hw : Gt w) (h1 : RtsAt w a1 l) (h2 : RtsAt w a2 l) : Calls Tryd.prog 19 [.slice a1 len c1, .slice a2 len c2].toArray w (fun e w' => e = .returned (.bool true) ∧ Grow w w') := by
  have hGF : BOk Gt (pl w) := gt_low.plain hw
  refine calls_of_X (G := Gt) Tryd.func19 rfl rfl (Hp (pl w) []) (hp_refl (pl w) trivial rides_true) (good_hp hGF) ?_
  refine xs_plain (E := EE []) ?_
  refine lx_assign rfl rfl rfl ?_
  refine lx_nil ?_
  refine x_seq ?_
  refine xs_plain (E := EE []) ?_
  refine lx_move rfl rfl rfl ?_
  refine lx_len rfl (fun _ => len_slice Tryd.underlying22 _ _ _ _) rfl rfl ?_
  refine lx_move rfl rfl rfl ?_
  refine lx_len rfl (fun _ => len_slice Tryd.underlying22 _ _ _ _) rfl rfl ?_
  refine lx_binB false rfl rfl (fun _ => rfl) (fun _ => bin_neq_i _ _ _) (by simp) rfl rfl ?_
  refine lx_nil ?_
  refine x_false rfl ?_
  refine x_skip ?_
  refine x_seq ?_
  refine xs_plain (E := EE []) ?_
  refine lx_assign rfl rfl rfl ?_
  refine lx_nil ?_
  refine x_block ?_
  refine x_for (ι := { i : Nat // i ≤ len }) (fun y => [(0, .slice a1 len c1), (1, .slice a2 len c2), (5, I (y.1 : Int))]) (fun y => []) (fun y => len - y.1) ⟨0, Nat.zero_le _⟩ hGF ⟨rfl, rfl, rfl, trivial⟩ trivial ?_
  rintro ⟨k, hk⟩
  dsimp only
  refine x_seq ?_
  refine xs_plain (E := EE []) ?_
  refine lx_move rfl rfl rfl ?_
  refine lx_move rfl rfl rfl ?_
  refine lx_len rfl (fun _ => len_slice Tryd.underlying22 _ _ _ _) rfl rfl ?_
  rcases Nat.lt_or_ge k len with hlt | hge
  · skip
    obtain ⟨x, hbx⟩ : ∃ x, l[k]? = some x := ⟨_, List.getElem?_eq_getElem (by omega)⟩
    have hx : x.length = 32 := hl x (List.mem_of_getElem? hbx)
    obtain ⟨ad1, rfl, hx1⟩ := h1 k x hbx
    obtain ⟨ad2, rfl, hx2⟩ := h2 k x hbx
    refine lx_binB true rfl rfl (fun _ => rfl) (fun _ => bin_lss_i _ _ _) (by simp; omega) rfl rfl ?_
    refine lx_nil ?_
    refine x_true rfl ?_
    refine x_skip ?_
    refine x_seq ?_
    refine x_block ?_
    refine xs_drawn (E := EE []) mixed (by kernel_rfl) (by kernel_rfl) (by kernel_rfl) ?_
    refine lx_move rfl rfl rfl ?_
    refine lx_move rfl rfl rfl ?_
    refine lx_isAW k 32 rfl rfl Tryd.underlying22 Tryd.sizeOf29 rfl (by omega) rfl rfl ?_
    refine lx_loadA (cs := x.map U8) rfl Tryd.isAgg29 Tryd.sizeOf29 (by rw [List.length_map]; exact hx) (fun w' h j v hv => ((hp_below h).cell (block_lt_of_cell (hx1 j v hv))).trans (hx1 j v hv)) rfl rfl ?_
    refine lx_move rfl rfl rfl ?_
    refine lx_move rfl rfl rfl ?_
    refine lx_isAW k 32 rfl rfl Tryd.underlying22 Tryd.sizeOf29 rfl (by omega) rfl rfl ?_
    refine lx_loadA (cs := x.map U8) rfl Tryd.isAgg29 Tryd.sizeOf29 (by rw [List.length_map]; exact hx) (fun w' h j v hv => ((hp_below h).cell (block_lt_of_cell (hx2 j v hv))).trans (hx2 j v hv)) rfl rfl ?_
    refine lx_bin rfl rfl (fun w' => eqg29 _ _ _ _ _ w') (fun w' => bin_ne_row Tryd.underlying29 Tryd.underlying5 Tryd.sizeOf5 Tryd.isAgg5 _ hx w') rfl rfl ?_
    refine lx_nil ?_
    refine x_false rfl ?_
    refine x_skip ?_
    refine x_plain (E := EE []) ?_
    refine lx_move rfl rfl rfl ?_
    refine lx_bin (v := I (((k + 1 : Nat) : Int))) rfl rfl (fun _ => rfl) (fun _ => (bin_add_i _ _ _ (by unfold inI; omega)).trans (by rfl)) rfl rfl ?_
    refine lx_assign rfl rfl rfl ?_
    refine lx_nil ?_
    repeat (refine kblk_n ?_)
    refine kseq_n ?_
    exact ⟨rfl, ⟨k + 1, hlt⟩, _, by show len - (k + 1) < len - k; omega, rfl, ⟨rfl, rfl, rfl, trivial⟩, trivial⟩
  · skip
    refine lx_binB false rfl rfl (fun _ => rfl) (fun _ => bin_lss_i _ _ _) (by simp; omega) rfl rfl ?_
    refine lx_nil ?_
    refine x_false rfl ?_
    refine x_exit ?_
    refine xs_plain (E := EE []) ?_
    refine lx_assign rfl rfl rfl ?_
    refine lx_nil ?_
    refine x_ret ?_
    repeat (first | refine kseq_ret ?_ | refine kblk_ret ?_)
    exact kret_tmp rfl rfl (fun w' hw' => ⟨rfl, hp_below hw'⟩)
theorem SlW.le {e : TypeId} {s : Nat} {w : World} {a : Option Addr} {cap nx : Nat} {xs : List Value} (h : SlW e s w a cap nx xs) : nx ≤ cap := by
  rcases h with ⟨_, _, h, _⟩ | ⟨_, _, _, _, _, h, _⟩
  · omega
  · exact h
theorem len64 {n : Nat} (h : n ≤ 1000000) : (BitVec.ofInt 64 (n : Int)).toNat = n := by
  rw [BitVec.toNat_ofInt]; omega
end Go.Proofs.YtfnnbaoilldpaaaDoor
