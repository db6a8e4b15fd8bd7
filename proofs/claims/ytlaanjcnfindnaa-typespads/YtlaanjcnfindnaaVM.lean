/-
  Committees, updates, bootstraps held against one another: the same ones.
-/
import Derived.Test.YtlaanjcnfindnaaVL
import Derived.Test.YtlaanjcnfindnaaX3
namespace Go.Proofs.Ytlaanjcnfindnaa
open Go.RowKit
set_option maxRecDepth 100000
set_option maxHeartbeats 1000000

theorem rg_at {w : World} {b o : Nat} {cs ds : List Value} (h : w.rangeAt b 0 cs) (hc : ∀ j v, ds[j]? = some v → cs[o + j]? = some v) : w.rangeAt b o ds := fun j v hv => by
  have := h _ v (hc j v hv)
  rw [Nat.zero_add] at this
  exact this
theorem Up.at_sig {u : Up} (k : u.Ok) : ∀ j v, (u.sy.sig.map U8)[j]? = some v → u.cs[598 + j]? = some v := at_trans (o := 597) (p := 1) (Up.at_sy k) Ag.at_sig
theorem hbi_calls (l : List Bool) (hn : l.length ≤ 100000) (a1 : Option Addr) (c1 : Nat) (a2 : Option Addr) (c2 : Nat) (w : World) (hw : Gt w) (h1 : CellsAt w a1 (l.map .bool)) (h2 : CellsAt w a2 (l.map .bool)) : Calls Try.prog 32 [.slice a1 l.length c1, .slice a2 l.length c2].toArray w (fun e w' => e = .returned (.bool true) ∧ Grow w w') := by
  have hGF : BOk Gt (pl w) := gt_low.plain hw
  refine calls_of_X (G := Gt) Try.func32 rfl rfl (Hp (pl w) []) (hp_refl (pl w) trivial rides_true) (good_hp hGF) ?_
  refine xs_plain (E := EE []) ?_
  refine lx_assign rfl rfl rfl ?_
  refine lx_nil ?_
  refine x_seq ?_
  refine xs_plain (E := EE []) ?_
  refine lx_move rfl rfl rfl ?_
  refine lx_len rfl (fun _ => len_slice Try.underlying34 _ _ _ _) rfl rfl ?_
  refine lx_move rfl rfl rfl ?_
  refine lx_len rfl (fun _ => len_slice Try.underlying34 _ _ _ _) rfl rfl ?_
  refine lx_binB false rfl rfl (fun _ => rfl) (fun _ => bin_neq_i _ _ _) (bne_self_eq_false _) rfl rfl ?_
  refine lx_nil ?_
  refine x_false rfl ?_
  refine x_skip ?_
  refine x_seq ?_
  refine xs_plain (E := EE []) ?_
  refine lx_assign rfl rfl rfl ?_
  refine lx_nil ?_
  refine x_block ?_
  refine x_for (ι := { i : Nat // i ≤ l.length }) (fun y => [(0, .slice a1 l.length c1), (1, .slice a2 l.length c2), (5, I (y.1 : Int))]) (fun y => []) (fun y => l.length - y.1) ⟨0, Nat.zero_le _⟩ hGF ⟨rfl, rfl, rfl, trivial⟩ trivial ?_
  rintro ⟨i, hi⟩
  dsimp only
  refine x_seq ?_
  refine xs_plain (E := EE []) ?_
  refine lx_move rfl rfl rfl ?_
  refine lx_move rfl rfl rfl ?_
  refine lx_len rfl (fun _ => len_slice Try.underlying34 _ _ _ _) rfl rfl ?_
  rcases Nat.lt_or_ge i l.length with hlt | hge
  · skip
    have hiy : (l.map Value.bool)[i]? = some (.bool l[i]) := by rw [List.getElem?_map, List.getElem?_eq_getElem hlt]; rfl
    obtain ⟨ad1, ea1, hc1⟩ := h1 i _ hiy
    obtain ⟨ad2, ea2, hc2⟩ := h2 i _ hiy
    refine lx_binB true rfl rfl (fun _ => rfl) (fun _ => bin_lss_i _ _ _) (by simp; omega) rfl rfl ?_
    refine lx_nil ?_
    refine x_true rfl ?_
    refine x_skip ?_
    refine x_seq ?_
    refine x_block ?_
    refine xs_drawn (E := EE []) mixed (by kernel_rfl) (by kernel_rfl) (by kernel_rfl) ?_
    refine lx_move rfl rfl rfl ?_
    refine lx_move rfl rfl rfl ?_
    refine lx_isA (ad := ad1) i (by rw [← ea1]; rfl) rfl Try.underlying34 Try.sizeOf4 rfl hlt rfl rfl ?_
    refine lx_load (v := .bool l[i]) rfl Try.isAgg4 (fun w' h => ((hp_below h).cell (block_lt_of_cell hc1)).trans hc1) rfl rfl ?_
    refine lx_move rfl rfl rfl ?_
    refine lx_move rfl rfl rfl ?_
    refine lx_isA (ad := ad2) i (by rw [← ea2]; rfl) rfl Try.underlying34 Try.sizeOf4 rfl hlt rfl rfl ?_
    refine lx_load (v := .bool l[i]) rfl Try.isAgg4 (fun w' h => ((hp_below h).cell (block_lt_of_cell hc2)).trans hc2) rfl rfl ?_
    refine lx_binB false rfl rfl (fun _ => rfl) (fun w => bin_neq_bool 4 Try.underlying4 _ _ w) (bne_self_eq_false _) rfl rfl ?_
    refine lx_nil ?_
    refine x_false rfl ?_
    refine x_skip ?_
    refine x_plain (E := EE []) ?_
    refine lx_move rfl rfl rfl ?_
    refine lx_bin (v := I (((i + 1 : Nat) : Int))) rfl rfl (fun _ => rfl) (fun _ => (bin_add_i _ _ _ (by unfold inI; omega)).trans (by rfl)) rfl rfl ?_
    refine lx_assign rfl rfl rfl ?_
    refine lx_nil ?_
    repeat (refine kblk_n ?_)
    refine kseq_n ?_
    exact ⟨rfl, ⟨i + 1, hlt⟩, _, by show l.length - (i + 1) < l.length - i; omega, rfl, ⟨rfl, rfl, rfl, trivial⟩, trivial⟩
  · skip
    refine lx_binB false rfl rfl (fun _ => rfl) (fun _ => bin_lss_i _ _ _) (by rw [decide_eq_false_iff_not]; omega) rfl rfl ?_
    refine lx_nil ?_
    refine x_false rfl ?_
    refine x_exit ?_
    refine xs_plain (E := EE []) ?_
    refine lx_assign rfl rfl rfl ?_
    refine lx_nil ?_
    refine x_ret ?_
    repeat (first | refine kseq_ret ?_ | refine kblk_ret ?_)
    exact kret_tmp rfl rfl (fun w' hw' => ⟨rfl, hp_below hw'⟩)
theorem one_at {cs : List Value} {o : Nat} {v : Value} (h : cs[o]? = some v) : ∀ j u, [v][j]? = some u → cs[o + j]? = some u := fun j u hu => by
  cases j with
  | zero => cases hu; exact h
  | succ j => simp at hu
end Go.Proofs.Ytlaanjcnfindnaa
