/-
  The walk of pharoshelp.Spoil.
-/
import Derived.Test.YtkfnadpdcgcffaaDoorK3
namespace Go.Proofs.YtkfnadpdcgcffaaDoor
open Go.RowKit
set_option maxRecDepth 100000
theorem set_front (xs : List (BitVec 8)) (tail : List Value) (i : Nat) (v : BitVec 8) (h : i < xs.length) : (xs.map U8 ++ tail).set i (U8 v) = (xs.set i v).map U8 ++ tail := by
  rw [List.set_append_left _ _ (by simpa using h), List.map_set]
theorem get_front (xs : List (BitVec 8)) (tail : List Value) (i : Nat) (h : i < xs.length) : (xs.map U8 ++ tail)[i]? = some (U8 (xs.getD i 0)) := by
  rw [List.getElem?_append_left (by simpa using h)]
  exact gm U8 xs 0 i h

theorem spoil_calls (bb len cap : Nat) (xs : List (BitVec 8)) (tail : List Value) (hx : xs.length = len) (hlen : len < 9223372036854775807) (w : World) (hw : Gt w) (hbb : 1 ≤ bb) (ho : OwnB w bb (xs.map U8 ++ tail) 5) :
    Calls Tryd.prog 20 [.slice (some ⟨bb, 0, none⟩) len cap].toArray w (fun e w' => e = .returned (.tuple #[]) ∧ Mod bb w w' ∧ ∃ c', OwnB w' bb c' 5) := by
  have hGF : BOk Gt (plM w (fun k => k = bb)) := (gt_low.from (M := fun k => k = bb) hw (fun m hm => by subst hm; exact hbb)).ok (B := plM w (fun k => k = bb)) rides_true
  refine calls_of_X (G := Gt) Tryd.func20 rfl rfl (Hp (plM w (fun k => k = bb)) [(0, bb, xs.map U8 ++ tail, 5)]) (hp_one ho) (good_hp hGF) ?_
  refine xs_plain (E := EE []) ?_
  refine lx_assign rfl rfl rfl ?_
  refine lx_nil ?_
  refine x_block ?_
  refine x_for (ι := Nat × { l : List (BitVec 8) // l.length = len }) (fun x => [(0, .slice (some ⟨bb, 0, none⟩) len cap), (2, I x.1)]) (fun x => [(0, bb, x.2.1.map U8 ++ tail, 5)]) (fun x => len - x.1) ⟨0, xs, hx⟩ hGF ⟨rfl, rfl, trivial⟩ ⟨rfl, trivial⟩ ?_
  rintro x
  refine x_seq ?_
  refine xs_plain (E := EE []) ?_
  refine lx_move rfl rfl rfl ?_
  refine lx_move rfl rfl rfl ?_
  refine lx_len rfl (fun _ => len_slice Tryd.underlying22 _ _ _ _) rfl rfl ?_
  refine lx_bin rfl rfl (fun _ => rfl) (fun _ => bin_lss_i _ _ _) rfl rfl ?_
  refine lx_nil ?_
  refine x_if rfl (fun hc => ?_) (fun hc => ?_)
  · simp only [decide_eq_true_eq] at hc
    refine x_skip ?_
    refine x_seq ?_
    refine x_block ?_
    refine x_plain (E := EE []) ?_
    refine lx_move rfl rfl rfl ?_
    refine lx_move rfl rfl rfl ?_
    refine lx_move rfl rfl rfl ?_
    refine lx_move rfl rfl rfl ?_
    refine lx_is1 x.1 rfl rfl Tryd.underlying22 Tryd.sizeOf5 rfl (by omega) rfl rfl ?_
    rw [Nat.zero_add]
    refine lx_loadl 0 rfl rfl (get_front x.2.1 tail x.1 (by rw [x.2.2]; omega)) Tryd.isAgg5 rfl rfl ?_
    refine lx_bin rfl rfl (fun _ => rfl) (fun _ => bin_xor_u8 _ _ _) rfl rfl ?_
    refine lx_is1 x.1 rfl rfl Tryd.underlying22 Tryd.sizeOf5 rfl (by omega) rfl rfl ?_
    rw [Nat.zero_add]
    refine lx_store 0 hGF rfl rfl rfl Tryd.sizeOf5 rfl (by simp [x.2.2]; omega) rfl ?_
    rw [set_front x.2.1 tail x.1 _ (by rw [x.2.2]; omega)]
    refine lx_nil ?_
    refine x_plain (E := EE []) ?_
    refine lx_move rfl rfl rfl ?_
    refine lx_bin rfl rfl (fun _ => rfl) (fun _ => bin_add_i _ _ _ (by unfold inI; omega)) rfl rfl ?_
    refine lx_assign rfl rfl rfl ?_
    refine lx_nil ?_
    repeat (refine kblk_n ?_)
    refine kseq_n ?_
    exact ⟨rfl, ⟨x.1 + 1, _, by rw [List.length_set]; exact x.2.2⟩, _, by show len - (x.1 + 1) < len - x.1; omega, rfl, ⟨rfl, rfl, trivial⟩, ⟨rfl, trivial⟩⟩
  · simp only [decide_eq_false_iff_not] at hc
    refine x_exit ?_
    repeat (refine kseq_x ?_)
    refine kblk_x ?_
    exact kend_none rfl (fun w' hw' => ⟨rfl, hp_mod hw', _, (hw'.own 0 _ _ _ rfl).1⟩)
theorem spoil_nil (w : World) (hw : Gt w) : Calls Tryd.prog 20 [.slice none 0 0].toArray w (fun e w' => e = .returned (.tuple #[]) ∧ Grow w w') := by
  have hGF : BOk Gt (pl w) := gt_low.plain hw
  refine calls_of_X (G := Gt) Tryd.func20 rfl rfl (Hp (pl w) []) (hp_refl (pl w) trivial rides_true) (good_hp hGF) ?_
  refine xs_plain (E := EE []) ?_
  refine lx_assign rfl rfl rfl ?_
  refine lx_nil ?_
  refine x_block ?_
  refine x_for (ι := Unit) (fun x => [(0, .slice none 0 0), (2, I 0)]) (fun x => []) (fun x => 0) () hGF ⟨rfl, rfl, trivial⟩ trivial ?_
  rintro x
  refine x_seq ?_
  refine xs_plain (E := EE []) ?_
  refine lx_move rfl rfl rfl ?_
  refine lx_move rfl rfl rfl ?_
  refine lx_len rfl (fun _ => len_slice Tryd.underlying22 _ _ _ _) rfl rfl ?_
  refine lx_bin rfl rfl (fun _ => rfl) (fun _ => bin_lss_i _ _ _) rfl rfl ?_
  refine lx_nil ?_
  refine x_false rfl ?_
  refine x_exit ?_
  repeat (refine kseq_x ?_)
  refine kblk_x ?_
  exact kend_none rfl (fun w' hw' => ⟨rfl, hp_below hw'⟩)
end Go.Proofs.YtkfnadpdcgcffaaDoor
