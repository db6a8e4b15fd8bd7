/-
  The walk of sha.Blocks.
-/
import Derived.Test.YtkfnadpdcgcffaaDoorK1
namespace Go.Proofs.YtkfnadpdcgcffaaDoor
open Go.RowKit
set_option maxRecDepth 100000
theorem Cln.grow {w w' w'' : World} {bs : List (BitVec 8)} {sv : Value} (h : Cln w w' bs sv) (hg : Grow w' w'') : Cln w w'' bs sv := by
  rcases h with h | ⟨b, c, cap1, h1, h2, h3, h4⟩
  · exact .inl h
  · exact .inr ⟨b, c, cap1, h1, h2, h3.of_same (hg.block b h3.lt), h4⟩
theorem Cln.lower {w0 w w' : World} {bs : List (BitVec 8)} {sv : Value} (h : Cln w w' bs sv) (hs : w0.heap.size ≤ w.heap.size) : Cln w0 w' bs sv := by
  rcases h with h | ⟨b, c, cap1, h1, h2, h3, h4⟩
  · exact .inl h
  · exact .inr ⟨b, c, cap1, h1, Nat.le_trans hs h2, h3, h4⟩

theorem blocks22_calls (a : Option Addr) (cap : Nat) (bs : List (BitVec 8)) (hl : bs.length ≤ 70368744177664) (w : World) (hw : Gt w) (hby : BytesAt w a bs) :
    Calls Tryd.prog 22 [.slice a bs.length cap].toArray w (fun e w' => ∃ c1 sv, e = .returned (.func (.func 33) #[] #[.pointer (some ⟨c1, 0, none⟩)]) ∧ Grow w w' ∧ w.heap.size ≤ c1 ∧ OwnB w' c1 [sv] 22 ∧ Cln w w' bs sv) := by
  have hGF : BOk Gt (pl w) := gt_low.plain hw
  refine calls_of_X (G := Gt) Tryd.func22 rfl rfl (Hp (pl w) []) (hp_refl (pl w) trivial rides_true) (good_hp hGF) ?_
  refine xs_plain (E := EE [26, 32]) ?_
  refine lx_assign rfl rfl rfl ?_
  refine lx_nil ?_
  refine xs_plain (E := EE [26, 32]) ?_
  refine lx_move rfl rfl rfl ?_
  refine lx_callE rfl rfl ent32 rfl rfl (fun w' hw' => (clone_calls a cap bs hl w' (hGF.g _ _ _ hw') (hby.grow (hp_below hw'))).mono fun e w'' h => ?_)
  obtain ⟨sv, rfl, hg, hcl⟩ := h
  have hcs := hcl.cells
  refine ⟨_, fun W => Hp (pl w) [] W ∧ Cln w W bs sv, rfl, ⟨fun _ _ h g => ⟨h.1.grow rides_true g, h.2.grow g⟩, fun _ h => hGF.g _ _ _ h.1⟩, ⟨hw'.grow rides_true hg, hcl.lower (hp_below hw').size⟩, ?_⟩
  clear hcl hg hw'
  refine lx_callE rfl rfl ent26 rfl rfl (fun w' hw' => (blocks_calls sv hcs w' (hGF.g _ _ _ hw'.1)).mono fun e w'' h => ?_)
  obtain ⟨c1, rfl, hg, h1, ho⟩ := h
  have hlo := Nat.le_trans (hp_below hw'.1).size h1
  refine ⟨_, fun W => Hp (pl w) [] W ∧ Cln w W bs sv ∧ OwnB W c1 [sv] 22, rfl, ⟨fun _ _ h g => ⟨h.1.grow rides_true g, h.2.1.grow g, h.2.2.of_same (g.block c1 h.2.2.lt)⟩, fun _ h => hGF.g _ _ _ h.1⟩, ⟨hw'.1.grow rides_true hg, hw'.2.grow hg, ho⟩, ?_⟩
  refine lx_assign rfl rfl rfl ?_
  refine lx_nil ?_
  refine x_ret ?_
  repeat (first | refine kseq_ret ?_ | refine kblk_ret ?_)
  exact kret_tmp rfl rfl (fun w hw => ⟨c1, sv, rfl, hp_below hw.1, hlo, hw.2.2, hw.2.1⟩)
end Go.Proofs.YtkfnadpdcgcffaaDoor
