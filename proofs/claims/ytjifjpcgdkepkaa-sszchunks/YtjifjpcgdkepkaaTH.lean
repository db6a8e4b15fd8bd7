/-
  The laws of chunks and of bits.
-/
import Derived.Test.YtjifjpcgdkepkaaTG
import Derived.Test.YtjifjpcgdkepkaaTM
namespace Go.Proofs.Ytjifjpcgdkepkaa
open Go.RowKit
set_option maxRecDepth 100000
set_option maxHeartbeats 1000000

theorem chunks_g (bs : List (BitVec 8)) (a : Option Addr) (cap : Nat) (nn : BitVec 64) (hl : 2000 < bs.length) (w : World) (hw : Gt w) : Calls Try.prog 7 [.slice a bs.length cap, U64 nn].toArray w (fun e w' => e = .returned (.bool true) ∧ Grow w w') := by
  have hGF : BOk Gt (pl w) := gt_low.plain hw
  refine calls_of_X (G := Gt) Try.func7 rfl rfl (Hp (pl w) []) (hp_refl (pl w) trivial rides_true) (good_hp hGF) ?_
  refine xs_plain (E := EE [31, 32]) ?_
  refine lx_assign rfl rfl rfl ?_
  refine lx_nil ?_
  refine x_seq ?_
  refine xs_plain (E := EE [31, 32]) ?_
  refine lx_callC rfl rfl ent8 (fun w1 _ hG => known17 w1 hG) rfl rfl ?_
  refine lx_un rfl (fun _ => un_not _) rfl rfl ?_
  refine lx_nil ?_
  refine x_false rfl ?_
  refine x_skip ?_
  refine x_seq ?_
  refine xs_plain (E := EE [31, 32]) ?_
  refine lx_move rfl rfl rfl ?_
  refine lx_len rfl (fun _ => len_slice Try.underlying28 _ _ _ _) rfl rfl ?_
  refine lx_binB true rfl rfl (fun _ => rfl) (fun _ => bin_gtr_i _ _ _) (by simp; omega) rfl rfl ?_
  refine lx_nil ?_
  refine x_true rfl ?_
  refine xs_plain (E := EE [31, 32]) ?_
  refine lx_assign rfl rfl rfl ?_
  refine lx_nil ?_
  refine x_ret ?_
  repeat (first | refine kseq_ret ?_ | refine kblk_ret ?_)
  exact kret_tmp rfl rfl (fun w' hw' => ⟨rfl, hp_below hw'⟩)
theorem chunks_s (bs : List (BitVec 8)) (a : Option Addr) (cap : Nat) (nn : BitVec 64) (hl : ¬ 2000 < bs.length) (hc : bs.length ≤ cap) (w : World) (hw : Gt w) (hb : BytesAt w a bs) : Calls Try.prog 7 [.slice a bs.length cap, U64 nn].toArray w (fun e w' => e = .returned (.bool true) ∧ Grow w w') := by
  have hGF : BOk Gt (pl w) := gt_low.plain hw
  refine calls_of_X (G := Gt) Try.func7 rfl rfl (Hp (pl w) []) (hp_refl (pl w) trivial rides_true) (good_hp hGF) ?_
  refine xs_plain (E := EE [31, 32]) ?_
  refine lx_assign rfl rfl rfl ?_
  refine lx_nil ?_
  refine x_seq ?_
  refine xs_plain (E := EE [31, 32]) ?_
  refine lx_callC rfl rfl ent8 (fun w1 _ hG => known17 w1 hG) rfl rfl ?_
  refine lx_un rfl (fun _ => un_not _) rfl rfl ?_
  refine lx_nil ?_
  refine x_false rfl ?_
  refine x_skip ?_
  refine x_seq ?_
  refine xs_plain (E := EE [31, 32]) ?_
  refine lx_move rfl rfl rfl ?_
  refine lx_len rfl (fun _ => len_slice Try.underlying28 _ _ _ _) rfl rfl ?_
  refine lx_binB false rfl rfl (fun _ => rfl) (fun _ => bin_gtr_i _ _ _) (by simp; omega) rfl rfl ?_
  refine lx_nil ?_
  refine x_false rfl ?_
  refine x_skip ?_
  refine xs_plain (E := EE [31, 32]) ?_
  refine lx_move rfl rfl rfl ?_
  refine lx_callW gt_low (M := fun _ => False) (fun k h => h.elim) rfl rfl ent31 rfl rfl hGF (Q := fun w1 w2 v => FrR w1 w2 v (cks bs) (ck bs)) (fun w1 h1 g1 => (pck_calls bs a cap (by omega) hc w1 g1 (hb.grow h1)).mono fun e w2 ⟨v, h1, h2, h3⟩ => ⟨v, h1, grow_mm h2, h3⟩) (fun w11a w11 v hg11 hm11 gg11 hq => ?_)
  have hGF := gt_low.plain gg11
  have hr11 := hg11.trans (hm11.grow (fun _ _ h => h))
  obtain ⟨a1, c1, rfl, hs1, _⟩ := hq
  refine lx_move rfl rfl rfl ?_
  refine lx_callW gt_low (M := fun _ => False) (fun k h => h.elim) rfl rfl ent32 rfl rfl hGF (Q := fun w1 w2 v => FrR w1 w2 v (cks bs) (ck bs)) (fun w1 h1 g1 => (rpk_calls bs a cap (by omega) hc w1 g1 (hb.grow (hr11.trans h1))).mono fun e w2 ⟨v, h1, h2, h3⟩ => ⟨v, h1, grow_mm h2, h3⟩) (fun w13a w13 v hg13 hm13 gg13 hq => ?_)
  have hGF := gt_low.plain gg13
  have hr13 := hg13.trans (hm13.grow (fun _ _ h => h))
  obtain ⟨a2, c2, rfl, hs2, _⟩ := hq
  refine lx_callC rfl rfl ent30 (fun w1 hC hG => rts_calls (cks bs) (by unfold cks; omega) (ck bs) (fun i _ => ck_len bs i) a1 c1 a2 c2 w1 hG (hs1.grow (hr13.trans (hp_below hC))) (hs2.grow (hp_below hC))) rfl rfl ?_
  refine lx_move rfl rfl rfl ?_
  refine lx_move rfl rfl rfl ?_
  refine lx_callC rfl rfl ent33 (fun w1 _ hG => chn_calls nn w1 hG) rfl rfl ?_
  refine lx_move rfl rfl rfl ?_
  refine lx_callC rfl rfl ent34 (fun w1 _ hG => rch_calls nn w1 hG) rfl rfl ?_
  refine lx_binB true rfl rfl (fun w' => eqg59 _ _ _ _ _ w') (fun w' => eqv59 _ _ (pad_len (by rw [le8_len]; omega)) (pad_len (by rw [le8_len]; omega)) w') (by simp) rfl rfl ?_
  refine lx_pick rfl rfl rfl rfl rfl ?_
  refine lx_assign rfl rfl rfl ?_
  refine lx_nil ?_
  refine x_ret ?_
  repeat (first | refine kseq_ret ?_ | refine kblk_ret ?_)
  exact kret_tmp rfl rfl (fun w' hw' => ⟨rfl, (hr11.trans hr13).trans (hp_below hw')⟩)
theorem chunks_law (a : Option Addr) (cap : Nat) (bs : List (BitVec 8)) (nn : BitVec 64) (hc : bs.length ≤ cap) (w : World) (hw : Gt w) (hb : BytesAt w a bs) : Calls Try.prog 7 [.slice a bs.length cap, U64 nn].toArray w (fun e w' => e = .returned (.bool true) ∧ Grow w w') := by
  by_cases hl : 2000 < bs.length
  · exact chunks_g bs a cap nn hl w hw
  · exact chunks_s bs a cap nn hl hc w hw hb
end Go.Proofs.Ytjifjpcgdkepkaa
