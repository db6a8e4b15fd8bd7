/-
  Steps that came in; whether they are light.
-/
import Derived.Test.YtjifjpcgdkepkaaTH
import Derived.Test.YtjifjpcgdkepkaaX3
namespace Go.Proofs.Ytjifjpcgdkepkaa
open Go.RowKit
set_option maxRecDepth 100000
set_option maxHeartbeats 1000000

/-- A step that came in: its numbers, its bytes, its bits and where they lie. -/
structure Stp where
  (what k : Int) (n : BitVec 64) (ba : Option Addr) (bc : Nat) (bs : List (BitVec 8)) (la : Option Addr) (lc : Nat) (ls : List Bool)
def Stp.cs (s : Stp) : List Value := [I s.what, I s.k, U64 s.n, .slice s.ba s.bs.length s.bc, .slice s.la s.ls.length s.lc]
structure StepAt (w : World) (ad : Addr) (i : Nat) (s : Stp) : Prop where
  c : ∀ j v, s.cs[j]? = some v → w.cell? ((ad.add (i * 5)).add j) = some v
  b : BytesAt w s.ba s.bs
  l : CellsAt w s.la (s.ls.map .bool)
theorem StepAt.grow {w w' : World} {ad : Addr} {i : Nat} {s : Stp} (h : StepAt w ad i s) (hg : Grow w w') : StepAt w' ad i s where
  c := fun j v hv => (hg.cell (block_lt_of_cell (h.c j v hv))).trans (h.c j v hv)
  b := h.b.grow hg
  l := h.l.grow hg
structure StepOk (s : Stp) : Prop where
  bl : s.bs.length ≤ 140737488355328
  ll : s.ls.length ≤ 140737488355328
  bc : s.bs.length ≤ s.bc
  k : s.k.toNat < 9223372036854775808
def StepsAt (w : World) (a : Option Addr) (ss : List Stp) : Prop := ∀ i s, ss[i]? = some s → StepOk s ∧ ∃ ad, a = some ad ∧ StepAt w ad i s
theorem StepsAt.grow {w w' : World} {a : Option Addr} {ss : List Stp} (h : StepsAt w a ss) (hg : Grow w w') : StepsAt w' a ss := fun i s hs => let ⟨x, ad, e, y⟩ := h i s hs; ⟨x, ad, e, y.grow hg⟩
/-- How much the first steps weigh. -/
def stw (ss : List Stp) (i : Nat) : Nat := match ss[i]? with
  | some s => 1 + s.bs.length + s.ls.length
  | none => 0
def sm (ss : List Stp) : Nat → Nat
  | 0 => 0
  | i + 1 => sm ss i + stw ss i
theorem stw_s {ss : List Stp} {i : Nat} {s : Stp} (h : ss[i]? = some s) : stw ss i = 1 + s.bs.length + s.ls.length := by simp [stw, h]
theorem sm_ge (ss : List Stp) : ∀ i, i ≤ ss.length → i ≤ sm ss i
  | 0, _ => Nat.zero_le _
  | i + 1, h => by
    have := sm_ge ss i (by omega)
    rw [sm, stw_s (List.getElem?_eq_getElem (show i < ss.length by omega))]
    omega
theorem sm_mono (ss : List Stp) {i : Nat} : ∀ j, i ≤ j → sm ss i ≤ sm ss j
  | 0, h => by obtain rfl : i = 0 := by omega
               exact Nat.le_refl _
  | j + 1, h => by
    by_cases e : i = j + 1
    · subst e; exact Nat.le_refl _
    · have := sm_mono ss (i := i) j (by omega)
      rw [sm]; omega
theorem light_calls (ss : List Stp) (a : Option Addr) (cap : Nat) (w : World) (hw : Gt w) (hst : StepsAt w a ss) : Calls Try.prog 9 [.slice a ss.length cap].toArray w (fun e w' => ∃ r, e = .returned (.bool r) ∧ Grow w w' ∧ (r = true → ss.length ≤ 100 ∧ sm ss ss.length ≤ 5000)) := by
  have hGF : BOk Gt (pl w) := gt_low.plain hw
  refine calls_of_X (G := Gt) Try.func9 rfl rfl (Hp (pl w) []) (hp_refl (pl w) trivial rides_true) (good_hp hGF) ?_
  refine xs_plain (E := EE []) ?_
  refine lx_assign rfl rfl rfl ?_
  refine lx_nil ?_
  refine xs_plain (E := EE []) ?_
  refine lx_assign rfl rfl rfl ?_
  refine lx_nil ?_
  refine x_seq ?_
  refine xs_plain (E := EE []) ?_
  refine lx_assign rfl rfl rfl ?_
  refine lx_nil ?_
  refine x_block ?_
  refine x_for (ι := { i : Nat // i ≤ ss.length ∧ sm ss i ≤ 300000000000000 }) (fun x => [(0, .slice a ss.length cap), (3, I (sm ss x.1 : Int)), (4, I (x.1 : Int))]) (fun x => []) (fun x => ss.length - x.1) ⟨0, Nat.zero_le _, by simp [sm]⟩ hGF ⟨rfl, rfl, rfl, trivial⟩ trivial ?_
  rintro ⟨k, hk, hsm⟩
  dsimp only
  have hge := sm_ge ss k hk
  refine x_seq ?_
  refine xs_plain (E := EE []) ?_
  refine lx_move rfl rfl rfl ?_
  refine lx_move rfl rfl rfl ?_
  refine lx_len rfl (fun _ => len_slice Try.underlying22 _ _ _ _) rfl rfl ?_
  rcases Nat.lt_or_ge k ss.length with hlt | hge2
  · skip
    obtain ⟨s, hss⟩ : ∃ s, ss[k]? = some s := ⟨_, List.getElem?_eq_getElem hlt⟩
    obtain ⟨hok, ad, rfl, hat⟩ := hst k s hss
    have hnx : sm ss (k + 1) = sm ss k + 1 + s.bs.length + s.ls.length := by rw [sm, stw_s hss]; omega
    have h1 := hok.bl
    have h2 := hok.ll
    refine lx_binB true rfl rfl (fun _ => rfl) (fun _ => bin_lss_i _ _ _) (by simp; omega) rfl rfl ?_
    refine lx_move rfl rfl rfl ?_
    refine lx_move rfl rfl rfl ?_
    rcases Nat.lt_or_ge 5000 (sm ss k) with h5 | h5
    · skip
      refine lx_binB false rfl rfl (fun _ => rfl) (fun _ => bin_leq_i _ _ _) (by simp; omega) rfl rfl ?_
      refine lx_pick rfl rfl rfl rfl rfl ?_
      refine lx_nil ?_
      refine x_false rfl ?_
      refine x_exit ?_
      refine xs_plain (E := EE []) ?_
      refine lx_move rfl rfl rfl ?_
      refine lx_len rfl (fun _ => len_slice Try.underlying22 _ _ _ _) rfl rfl ?_
      by_cases hl1 : ss.length ≤ 100
      · skip
        refine lx_binB true rfl rfl (fun _ => rfl) (fun _ => bin_leq_i _ _ _) (by simp; omega) rfl rfl ?_
        refine lx_move rfl rfl rfl ?_
        refine lx_move rfl rfl rfl ?_
        rcases Nat.lt_or_ge 5000 (sm ss k) with h6 | h6
        · skip
          refine lx_binB false rfl rfl (fun _ => rfl) (fun _ => bin_leq_i _ _ _) (by simp; omega) rfl rfl ?_
          refine lx_pick rfl rfl rfl rfl rfl ?_
          refine lx_assign rfl rfl rfl ?_
          refine lx_nil ?_
          refine x_ret ?_
          repeat (first | refine kseq_ret ?_ | refine kblk_ret ?_)
          exact kret_tmp rfl rfl (fun w' hw' => ⟨_, rfl, hp_below hw', fun h => by first | exact absurd h (by decide) | (exfalso; omega) | exact ⟨by omega, by rw [← hke]; omega⟩⟩)
        · skip
          refine lx_binB true rfl rfl (fun _ => rfl) (fun _ => bin_leq_i _ _ _) (by simp; omega) rfl rfl ?_
          refine lx_pick rfl rfl rfl rfl rfl ?_
          refine lx_assign rfl rfl rfl ?_
          refine lx_nil ?_
          refine x_ret ?_
          repeat (first | refine kseq_ret ?_ | refine kblk_ret ?_)
          exact kret_tmp rfl rfl (fun w' hw' => ⟨_, rfl, hp_below hw', fun h => by first | exact absurd h (by decide) | (exfalso; omega) | exact ⟨by omega, by rw [← hke]; omega⟩⟩)
      · skip
        refine lx_binB false rfl rfl (fun _ => rfl) (fun _ => bin_leq_i _ _ _) (by simp; omega) rfl rfl ?_
        refine lx_move rfl rfl rfl ?_
        refine lx_skip rfl rfl rfl ?_
        refine lx_skip rfl rfl rfl ?_
        refine lx_pick rfl rfl rfl rfl rfl ?_
        refine lx_assign rfl rfl rfl ?_
        refine lx_nil ?_
        refine x_ret ?_
        repeat (first | refine kseq_ret ?_ | refine kblk_ret ?_)
        exact kret_tmp rfl rfl (fun w' hw' => ⟨_, rfl, hp_below hw', fun h => by first | exact absurd h (by decide) | (exfalso; omega) | exact ⟨by omega, by rw [← hke]; omega⟩⟩)
    · skip
      refine lx_binB true rfl rfl (fun _ => rfl) (fun _ => bin_leq_i _ _ _) (by simp; omega) rfl rfl ?_
      refine lx_pick rfl rfl rfl rfl rfl ?_
      refine lx_nil ?_
      refine x_true rfl ?_
      refine x_skip ?_
      refine x_seq ?_
      refine x_block ?_
      refine x_drawn (E := EE []) mixed (by kernel_rfl) (by kernel_rfl) (by kernel_rfl) ?_
      refine lx_move rfl rfl rfl ?_
      refine lx_bin (v := I (((((sm ss k) + 1) : Nat) : Int))) rfl rfl (fun _ => rfl) (fun _ => (bin_add_i _ _ _ (by unfold inI; omega)).trans (by rfl)) rfl rfl ?_
      refine lx_move rfl rfl rfl ?_
      refine lx_move rfl rfl rfl ?_
      refine lx_isAW k 5 rfl rfl Try.underlying22 Try.sizeOf32 rfl (by omega) rfl rfl ?_
      refine lx_faA rfl Try.underlying32 rfl Try.sizeOf28 (by decide) rfl rfl ?_
      refine lx_load rfl Try.isAgg28 (fun w' h => (hat.grow (hp_below h)).c 3 _ rfl) rfl rfl ?_
      refine lx_len rfl (fun _ => len_slice Try.underlying28 _ _ _ _) rfl rfl ?_
      refine lx_bin (v := I (((((sm ss k) + 1 + s.bs.length) : Nat) : Int))) rfl rfl (fun _ => rfl) (fun _ => (bin_add_i _ _ _ (by unfold inI; omega)).trans (by rfl)) rfl rfl ?_
      refine lx_move rfl rfl rfl ?_
      refine lx_move rfl rfl rfl ?_
      refine lx_isAW k 5 rfl rfl Try.underlying22 Try.sizeOf32 rfl (by omega) rfl rfl ?_
      refine lx_faA rfl Try.underlying32 rfl Try.sizeOf30 (by decide) rfl rfl ?_
      refine lx_load rfl Try.isAgg30 (fun w' h => (hat.grow (hp_below h)).c 4 _ rfl) rfl rfl ?_
      refine lx_len rfl (fun _ => len_slice Try.underlying30 _ _ _ _) rfl rfl ?_
      refine lx_bin (v := I (((((sm ss k) + 1 + s.bs.length + s.ls.length) : Nat) : Int))) rfl rfl (fun _ => rfl) (fun _ => (bin_add_i _ _ _ (by unfold inI; omega)).trans (by rfl)) rfl rfl ?_
      refine lx_assign rfl rfl rfl ?_
      refine lx_nil ?_
      refine x_plain (E := EE []) ?_
      refine lx_move rfl rfl rfl ?_
      refine lx_bin (v := I (((k + 1 : Nat) : Int))) rfl rfl (fun _ => rfl) (fun _ => (bin_add_i _ _ _ (by unfold inI; omega)).trans (by rfl)) rfl rfl ?_
      refine lx_assign rfl rfl rfl ?_
      refine lx_nil ?_
      repeat (refine kblk_n ?_)
      refine kseq_n ?_
      exact ⟨rfl, ⟨k + 1, hlt, by rw [hnx]; omega⟩, _, by show ss.length - (k + 1) < ss.length - k; omega, rfl, ⟨rfl, by rw [hnx]; rfl, rfl, trivial⟩, trivial⟩
  · skip
    have hke : k = ss.length := by omega
    refine lx_binB false rfl rfl (fun _ => rfl) (fun _ => bin_lss_i _ _ _) (by simp; omega) rfl rfl ?_
    refine lx_move rfl rfl rfl ?_
    refine lx_skip rfl rfl rfl ?_
    rcases Nat.lt_or_ge 5000 (sm ss k) with h5 | h5
    · skip
      refine lx_skip rfl rfl rfl ?_
      refine lx_pick rfl rfl rfl rfl rfl ?_
      refine lx_nil ?_
      refine x_false rfl ?_
      refine x_exit ?_
      refine xs_plain (E := EE []) ?_
      refine lx_move rfl rfl rfl ?_
      refine lx_len rfl (fun _ => len_slice Try.underlying22 _ _ _ _) rfl rfl ?_
      by_cases hl1 : ss.length ≤ 100
      · skip
        refine lx_binB true rfl rfl (fun _ => rfl) (fun _ => bin_leq_i _ _ _) (by simp; omega) rfl rfl ?_
        refine lx_move rfl rfl rfl ?_
        refine lx_move rfl rfl rfl ?_
        rcases Nat.lt_or_ge 5000 (sm ss k) with h6 | h6
        · skip
          refine lx_binB false rfl rfl (fun _ => rfl) (fun _ => bin_leq_i _ _ _) (by simp; omega) rfl rfl ?_
          refine lx_pick rfl rfl rfl rfl rfl ?_
          refine lx_assign rfl rfl rfl ?_
          refine lx_nil ?_
          refine x_ret ?_
          repeat (first | refine kseq_ret ?_ | refine kblk_ret ?_)
          exact kret_tmp rfl rfl (fun w' hw' => ⟨_, rfl, hp_below hw', fun h => by first | exact absurd h (by decide) | (exfalso; omega) | exact ⟨by omega, by rw [← hke]; omega⟩⟩)
        · skip
          refine lx_binB true rfl rfl (fun _ => rfl) (fun _ => bin_leq_i _ _ _) (by simp; omega) rfl rfl ?_
          refine lx_pick rfl rfl rfl rfl rfl ?_
          refine lx_assign rfl rfl rfl ?_
          refine lx_nil ?_
          refine x_ret ?_
          repeat (first | refine kseq_ret ?_ | refine kblk_ret ?_)
          exact kret_tmp rfl rfl (fun w' hw' => ⟨_, rfl, hp_below hw', fun h => by first | exact absurd h (by decide) | (exfalso; omega) | exact ⟨by omega, by rw [← hke]; omega⟩⟩)
      · skip
        refine lx_binB false rfl rfl (fun _ => rfl) (fun _ => bin_leq_i _ _ _) (by simp; omega) rfl rfl ?_
        refine lx_move rfl rfl rfl ?_
        refine lx_skip rfl rfl rfl ?_
        refine lx_skip rfl rfl rfl ?_
        refine lx_pick rfl rfl rfl rfl rfl ?_
        refine lx_assign rfl rfl rfl ?_
        refine lx_nil ?_
        refine x_ret ?_
        repeat (first | refine kseq_ret ?_ | refine kblk_ret ?_)
        exact kret_tmp rfl rfl (fun w' hw' => ⟨_, rfl, hp_below hw', fun h => by first | exact absurd h (by decide) | (exfalso; omega) | exact ⟨by omega, by rw [← hke]; omega⟩⟩)
    · skip
      refine lx_skip rfl rfl rfl ?_
      refine lx_pick rfl rfl rfl rfl rfl ?_
      refine lx_nil ?_
      refine x_false rfl ?_
      refine x_exit ?_
      refine xs_plain (E := EE []) ?_
      refine lx_move rfl rfl rfl ?_
      refine lx_len rfl (fun _ => len_slice Try.underlying22 _ _ _ _) rfl rfl ?_
      by_cases hl1 : ss.length ≤ 100
      · skip
        refine lx_binB true rfl rfl (fun _ => rfl) (fun _ => bin_leq_i _ _ _) (by simp; omega) rfl rfl ?_
        refine lx_move rfl rfl rfl ?_
        refine lx_move rfl rfl rfl ?_
        rcases Nat.lt_or_ge 5000 (sm ss k) with h6 | h6
        · skip
          refine lx_binB false rfl rfl (fun _ => rfl) (fun _ => bin_leq_i _ _ _) (by simp; omega) rfl rfl ?_
          refine lx_pick rfl rfl rfl rfl rfl ?_
          refine lx_assign rfl rfl rfl ?_
          refine lx_nil ?_
          refine x_ret ?_
          repeat (first | refine kseq_ret ?_ | refine kblk_ret ?_)
          exact kret_tmp rfl rfl (fun w' hw' => ⟨_, rfl, hp_below hw', fun h => by first | exact absurd h (by decide) | (exfalso; omega) | exact ⟨by omega, by rw [← hke]; omega⟩⟩)
        · skip
          refine lx_binB true rfl rfl (fun _ => rfl) (fun _ => bin_leq_i _ _ _) (by simp; omega) rfl rfl ?_
          refine lx_pick rfl rfl rfl rfl rfl ?_
          refine lx_assign rfl rfl rfl ?_
          refine lx_nil ?_
          refine x_ret ?_
          repeat (first | refine kseq_ret ?_ | refine kblk_ret ?_)
          exact kret_tmp rfl rfl (fun w' hw' => ⟨_, rfl, hp_below hw', fun h => by first | exact absurd h (by decide) | (exfalso; omega) | exact ⟨by omega, by rw [← hke]; omega⟩⟩)
      · skip
        refine lx_binB false rfl rfl (fun _ => rfl) (fun _ => bin_leq_i _ _ _) (by simp; omega) rfl rfl ?_
        refine lx_move rfl rfl rfl ?_
        refine lx_skip rfl rfl rfl ?_
        refine lx_skip rfl rfl rfl ?_
        refine lx_pick rfl rfl rfl rfl rfl ?_
        refine lx_assign rfl rfl rfl ?_
        refine lx_nil ?_
        refine x_ret ?_
        repeat (first | refine kseq_ret ?_ | refine kblk_ret ?_)
        exact kret_tmp rfl rfl (fun w' hw' => ⟨_, rfl, hp_below hw', fun h => by first | exact absurd h (by decide) | (exfalso; omega) | exact ⟨by omega, by rw [← hke]; omega⟩⟩)
end Go.Proofs.Ytjifjpcgdkepkaa
