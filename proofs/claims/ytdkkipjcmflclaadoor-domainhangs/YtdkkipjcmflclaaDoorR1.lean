/-
  The walk of pharosref1.Pad.
-/
import Derived.Test.YtdkkipjcmflclaaDoorH4
import Derived.Test.YtdkkipjcmflclaaDoorX2
namespace Go.Proofs.YtdkkipjcmflclaaDoor
open Go.RowKit
set_option maxRecDepth 100000
set_option maxHeartbeats 1000000
namespace Sh
/-- The text, the mark, so many noughts. -/
def PD (bs : List (BitVec 8)) (k : Nat) : List (BitVec 8) := bs ++ ([128#8] ++ List.replicate k 0#8)
theorem PD_succ (bs : List (BitVec 8)) (k : Nat) : PD bs k ++ [0#8] = PD bs (k + 1) := by
  simp [PD, List.replicate_succ']
theorem PD_len (bs : List (BitVec 8)) (k : Nat) : (PD bs k).length = bs.length + 1 + k := by simp [PD]; omega
/-- How many noughts. -/
def nz (bs : List (BitVec 8)) : Nat := (120 - (bs.length + 1) % 64) % 64
def nb (n : BitVec 64) (j : Nat) : BitVec 8 := (n >>> (8 * (7 - (j : Int))).toNat).setWidth 8
def PE (bs : List (BitVec 8)) (n : BitVec 64) : Nat → List (BitVec 8)
  | 0 => PD bs (nz bs)
  | j + 1 => PE bs n j ++ [nb n j]
theorem PE_len (bs : List (BitVec 8)) (n : BitVec 64) : ∀ j, (PE bs n j).length = bs.length + 1 + nz bs + j
  | 0 => PD_len bs _
  | j + 1 => by rw [PE, List.length_append, PE_len bs n j]; rfl
def PAD (bs : List (BitVec 8)) : List (BitVec 8) := PE bs (BitVec.ofInt 64 bs.length * 8#64) 8
structure PdSt (bs : List (BitVec 8)) where
  (k b : Nat) (c : List Value)
  hk : k + (120 - (bs.length + 1 + k) % 64) % 64 = nz bs
  h1 : (PD bs k).length ≤ c.length
  h2 : c.take (PD bs k).length = (PD bs k).map U8
structure PeSt (bs : List (BitVec 8)) (n : BitVec 64) where
  (j b : Nat) (c : List Value)
  hj : j ≤ 8
  h1 : (PE bs n j).length ≤ c.length
  h2 : c.take (PE bs n j).length = (PE bs n j).map U8

theorem pad_calls (a : Option Addr) (cap : Nat) (bs : List (BitVec 8)) (hl : bs.length ≤ 70368744170000) (w : World) (hw : Gt w) (hby : BytesAt w a bs) :
    Calls Tryd.prog 46 [.slice a bs.length cap].toArray w (fun e w' => ∃ sv, e = .returned sv ∧ Grow w w' ∧ Cln w w' (PAD bs) sv) := by
  have hGF : BOk Gt (pl w) := gt_low.plain hw
  refine calls_of_X (G := Gt) Tryd.func46 rfl rfl (Hp (pl w) []) (hp_refl (pl w) trivial rides_true) (good_hp hGF) ?_
  refine xs_plain (E := EE []) ?_
  refine lx_assign rfl rfl rfl ?_
  refine lx_nil ?_
  refine xs_plain (E := EE []) ?_
  refine lx_move rfl rfl rfl ?_
  refine lx_append (xs := []) (ys := bs) 3 hGF rfl rfl Tryd.underlying39 Tryd.underlying39 ti5 (ownSl_nil _ _ _) (fun w' h => hby.grow (hp_below h)) (by simpa using Nat.le_trans hl (by decide)) rfl rfl (fun h0 => ?_) (fun b7 c7 cap7 e7 l7 t7 => ?_)
  · skip
    have hbs : bs = [] := h0
    subst hbs
    clear h0
    refine lx_bsl 8 [128#8] hGF rfl rfl rfl (by decide) (by decide) Tryd.underlying39 Tryd.sizeOf5 Tryd.zeroValue5 rfl rfl ?_
    intro b8
    refine lx_append (xs := []) (ys := [128#8]) 3 hGF rfl rfl Tryd.underlying39 Tryd.underlying39 ti5 (ownSl_nil _ _ _) (fun w' h => BytesAt.range (hp_row (n := 8) rfl w' h)) (by decide) rfl rfl (fun h0 => ?_) (fun b9 c9 cap9 e9 l9 t9 => ?_)
    · simp at h0
    subst e9
    refine lx_assign rfl rfl rfl ?_
    refine lx_nil ?_
    refine x_seq ?_
    refine x_block ?_
    refine x_for (ι := PdSt ([] : List (BitVec 8))) (fun x => [(0, .slice a (List.length ([] : List (BitVec 8))) cap), (3, .slice (some ⟨x.b, 0, none⟩) (PD ([] : List (BitVec 8)) x.k).length x.c.length)]) (fun x => [(3, x.b, x.c, 5)]) (fun x => nz ([] : List (BitVec 8)) - x.k) ⟨0, b9, c9, by unfold nz; rw [Nat.zero_add, Nat.add_zero], l9, t9⟩ hGF ⟨rfl, rfl, trivial⟩ ⟨rfl, trivial⟩ ?_
    intro x
    have hk := x.hk
    have hln := PD_len ([] : List (BitVec 8)) x.k
    clear l9 t9
    refine x_seq ?_
    refine xs_plain (E := EE []) ?_
    refine lx_move rfl rfl rfl ?_
    refine lx_len rfl (fun _ => len_slice Tryd.underlying39 _ _ _ _) rfl rfl ?_
    refine lx_bin (v := I (((PD ([] : List (BitVec 8)) x.k).length % 64 : Nat) : Int)) rfl rfl (fun _ => rfl) (fun _ => bin_rem_i _ _ _ (by decide)) rfl rfl ?_
    refine lx_bin rfl rfl (fun _ => rfl) (fun _ => bin_neq_i _ _ _) rfl rfl ?_
    refine lx_nil ?_
    refine x_if rfl (fun hc => ?_) (fun hc => ?_)
    · have hne : (PD ([] : List (BitVec 8)) x.k).length % 64 ≠ 56 := by have := bne_iff_ne.1 hc; omega
      refine x_skip ?_
      refine x_block ?_
      refine x_plain (E := EE []) ?_
      refine lx_move rfl rfl rfl ?_
      refine lx_bsl 15 [0#8] hGF rfl rfl rfl (by decide) (by decide) Tryd.underlying39 Tryd.sizeOf5 Tryd.zeroValue5 rfl rfl ?_
      intro b15
      refine lx_append (xs := PD ([] : List (BitVec 8)) x.k) (ys := [0#8]) 3 hGF rfl rfl Tryd.underlying39 Tryd.underlying39 ti5 (.inr ⟨x.b, x.c, rfl, rfl, rfl, x.h1, x.h2⟩) (fun w' h => BytesAt.range (hp_row (n := 15) rfl w' h)) (by show (PD ([] : List (BitVec 8)) x.k).length + 1 ≤ _; rw [hln]; unfold nz at hk; omega) rfl rfl (fun h0 => ?_) (fun b16 c16 cap16 e16 l16 t16 => ?_)
      · simp at h0
      subst e16
      rw [PD_succ] at l16 t16 ⊢
      refine lx_assign rfl rfl rfl ?_
      refine lx_nil ?_
      repeat (refine kblk_n ?_)
      refine kseq_n ?_
      exact ⟨rfl, ⟨x.k + 1, b16, c16, by unfold nz at hk ⊢; omega, l16, t16⟩, _, by show nz ([] : List (BitVec 8)) - (x.k + 1) < nz ([] : List (BitVec 8)) - x.k; unfold nz at hk ⊢; omega, rfl, ⟨rfl, rfl, trivial⟩, ⟨rfl, trivial⟩⟩
    · obtain ⟨k, bb, cc, hk', h1, h2⟩ := x
      dsimp only at hc hk hln ⊢
      obtain rfl : k = nz ([] : List (BitVec 8)) := by
        have := bne_eq_false_iff_eq.1 hc
        unfold nz at hk ⊢
        omega
      clear hc hk hln hk'
      refine x_exit ?_
      refine xs_plain (E := EE []) ?_
      refine lx_move rfl rfl rfl ?_
      refine lx_len rfl (fun _ => len_slice Tryd.underlying39 _ _ _ _) rfl rfl ?_
      refine lx_conv rfl rfl (fun _ => conv_i_u64 Tryd.underlying3 Tryd.underlying25 _) rfl rfl ?_
      refine lx_bin rfl rfl (fun _ => rfl) (fun _ => bin_mul_u64 _ _ _) rfl rfl ?_
      refine lx_assign rfl rfl rfl ?_
      refine lx_nil ?_
      refine x_seq ?_
      refine xs_plain (E := EE []) ?_
      refine lx_assign rfl rfl rfl ?_
      refine lx_nil ?_
      refine x_block ?_
      refine x_for (ι := PeSt ([] : List (BitVec 8)) (BitVec.ofInt 64 (List.length ([] : List (BitVec 8))) * 8#64)) (fun y => [(3, .slice (some ⟨y.b, 0, none⟩) (PE ([] : List (BitVec 8)) (BitVec.ofInt 64 (List.length ([] : List (BitVec 8))) * 8#64) y.j).length y.c.length), (4, U64 (BitVec.ofInt 64 (List.length ([] : List (BitVec 8))) * 8#64)), (5, I (7 - (y.j : Int)))]) (fun y => [(3, y.b, y.c, 5)]) (fun y => 8 - y.j) ⟨0, bb, cc, by decide, h1, h2⟩ hGF ⟨rfl, rfl, rfl, trivial⟩ ⟨rfl, trivial⟩ ?_
      clear h1 h2
      intro x
      have hj := x.hj
      refine x_seq ?_
      refine xs_plain (E := EE []) ?_
      refine lx_move rfl rfl rfl ?_
      refine lx_bin rfl rfl (fun _ => rfl) (fun _ => bin_geq_i _ _ _) rfl rfl ?_
      refine lx_nil ?_
      refine x_if rfl (fun hc => ?_) (fun hc => ?_)
      · simp only [decide_eq_true_eq] at hc
        refine x_skip ?_
        refine x_seq ?_
        refine x_block ?_
        refine x_plain (E := EE []) ?_
        refine lx_move rfl rfl rfl ?_
        refine lx_move rfl rfl rfl ?_
        refine lx_move rfl rfl rfl ?_
        refine lx_bin rfl rfl (fun _ => rfl) (fun _ => bin_mul_i _ _ _ (by unfold inI; omega)) rfl rfl ?_
        refine lx_bin rfl rfl (fun _ => rfl) (fun _ => bin_shr_i_u64 _ _ _ (by omega)) rfl rfl ?_
        refine lx_conv rfl rfl (fun _ => conv_u64_u8 Tryd.underlying25 Tryd.underlying5 _) rfl rfl ?_
        refine lx_bsl 31 [nb (BitVec.ofInt 64 (List.length ([] : List (BitVec 8))) * 8#64) x.j] hGF rfl rfl rfl (by decide) (by decide) Tryd.underlying39 Tryd.sizeOf5 Tryd.zeroValue5 rfl rfl ?_
        intro b31
        refine lx_append (xs := PE ([] : List (BitVec 8)) (BitVec.ofInt 64 (List.length ([] : List (BitVec 8))) * 8#64) x.j) (ys := [nb (BitVec.ofInt 64 (List.length ([] : List (BitVec 8))) * 8#64) x.j]) 3 hGF rfl rfl Tryd.underlying39 Tryd.underlying39 ti5 (.inr ⟨x.b, x.c, rfl, rfl, rfl, x.h1, x.h2⟩) (fun w' h => BytesAt.range (hp_row (n := 31) rfl w' h)) (by show (PE ([] : List (BitVec 8)) (BitVec.ofInt 64 (List.length ([] : List (BitVec 8))) * 8#64) x.j).length + 1 ≤ _; rw [PE_len]; unfold nz; omega) rfl rfl (fun h0 => ?_) (fun b32 c32 cap32 e32 l32 t32 => ?_)
        · simp at h0
        subst e32
        refine lx_assign rfl rfl rfl ?_
        refine lx_nil ?_
        refine x_plain (E := EE []) ?_
        refine lx_move rfl rfl rfl ?_
        refine lx_bin rfl rfl (fun _ => rfl) (fun _ => bin_sub_i _ _ _ (by unfold inI; omega)) rfl rfl ?_
        refine lx_assign rfl rfl rfl ?_
        refine lx_nil ?_
        repeat (refine kblk_n ?_)
        refine kseq_n ?_
        exact ⟨rfl, ⟨x.j + 1, b32, c32, by omega, l32, t32⟩, _, by show 8 - (x.j + 1) < 8 - x.j; omega, rfl, ⟨rfl, rfl, congrArg (fun z => some (I z)) (by show 7 - (x.j : Int) - 1 = 7 - ((x.j + 1 : Nat) : Int); omega), trivial⟩, ⟨rfl, trivial⟩⟩
      · simp only [decide_eq_false_iff_not] at hc
        refine x_exit ?_
        refine xs_plain (E := EE []) ?_
        refine lx_move rfl rfl rfl ?_
        refine lx_assign rfl rfl rfl ?_
        refine lx_nil ?_
        refine x_ret ?_
        repeat (first | refine kseq_ret ?_ | refine kblk_ret ?_)
        have h8 : x.j = 8 := by omega
        obtain ⟨j, b, c, hj', h1, h2⟩ := x
        dsimp only at h8
        subst h8
        exact kret_tmp rfl rfl (fun w hw => ⟨_, rfl, hp_below hw, .inr ⟨b, c, _, rfl, (hw.own 3 b _ _ rfl).2.elim id False.elim, (hw.own 3 b _ _ rfl).1, rfl, h1, h2⟩⟩)
  · skip
    subst e7
    refine lx_bsl 8 [128#8] hGF rfl rfl rfl (by decide) (by decide) Tryd.underlying39 Tryd.sizeOf5 Tryd.zeroValue5 rfl rfl ?_
    intro b8
    refine lx_append (xs := bs) (ys := [128#8]) 3 hGF rfl rfl Tryd.underlying39 Tryd.underlying39 ti5 (.inr ⟨b7, c7, rfl, rfl, rfl, l7, t7⟩) (fun w' h => BytesAt.range (hp_row (n := 8) rfl w' h)) (by show bs.length + 1 ≤ _; omega) rfl rfl (fun h0 => ?_) (fun b9 c9 cap9 e9 l9 t9 => ?_)
    · simp at h0
    subst e9
    refine lx_assign rfl rfl rfl ?_
    refine lx_nil ?_
    refine x_seq ?_
    refine x_block ?_
    refine x_for (ι := PdSt bs) (fun x => [(0, .slice a (List.length bs) cap), (3, .slice (some ⟨x.b, 0, none⟩) (PD bs x.k).length x.c.length)]) (fun x => [(3, x.b, x.c, 5)]) (fun x => nz bs - x.k) ⟨0, b9, c9, by unfold nz; rw [Nat.zero_add, Nat.add_zero], l9, t9⟩ hGF ⟨rfl, rfl, trivial⟩ ⟨rfl, trivial⟩ ?_
    intro x
    have hk := x.hk
    have hln := PD_len bs x.k
    clear l9 t9
    refine x_seq ?_
    refine xs_plain (E := EE []) ?_
    refine lx_move rfl rfl rfl ?_
    refine lx_len rfl (fun _ => len_slice Tryd.underlying39 _ _ _ _) rfl rfl ?_
    refine lx_bin (v := I (((PD bs x.k).length % 64 : Nat) : Int)) rfl rfl (fun _ => rfl) (fun _ => bin_rem_i _ _ _ (by decide)) rfl rfl ?_
    refine lx_bin rfl rfl (fun _ => rfl) (fun _ => bin_neq_i _ _ _) rfl rfl ?_
    refine lx_nil ?_
    refine x_if rfl (fun hc => ?_) (fun hc => ?_)
    · have hne : (PD bs x.k).length % 64 ≠ 56 := by have := bne_iff_ne.1 hc; omega
      refine x_skip ?_
      refine x_block ?_
      refine x_plain (E := EE []) ?_
      refine lx_move rfl rfl rfl ?_
      refine lx_bsl 15 [0#8] hGF rfl rfl rfl (by decide) (by decide) Tryd.underlying39 Tryd.sizeOf5 Tryd.zeroValue5 rfl rfl ?_
      intro b15
      refine lx_append (xs := PD bs x.k) (ys := [0#8]) 3 hGF rfl rfl Tryd.underlying39 Tryd.underlying39 ti5 (.inr ⟨x.b, x.c, rfl, rfl, rfl, x.h1, x.h2⟩) (fun w' h => BytesAt.range (hp_row (n := 15) rfl w' h)) (by show (PD bs x.k).length + 1 ≤ _; rw [hln]; unfold nz at hk; omega) rfl rfl (fun h0 => ?_) (fun b16 c16 cap16 e16 l16 t16 => ?_)
      · simp at h0
      subst e16
      rw [PD_succ] at l16 t16 ⊢
      refine lx_assign rfl rfl rfl ?_
      refine lx_nil ?_
      repeat (refine kblk_n ?_)
      refine kseq_n ?_
      exact ⟨rfl, ⟨x.k + 1, b16, c16, by unfold nz at hk ⊢; omega, l16, t16⟩, _, by show nz bs - (x.k + 1) < nz bs - x.k; unfold nz at hk ⊢; omega, rfl, ⟨rfl, rfl, trivial⟩, ⟨rfl, trivial⟩⟩
    · obtain ⟨k, bb, cc, hk', h1, h2⟩ := x
      dsimp only at hc hk hln ⊢
      obtain rfl : k = nz bs := by
        have := bne_eq_false_iff_eq.1 hc
        unfold nz at hk ⊢
        omega
      clear hc hk hln hk'
      refine x_exit ?_
      refine xs_plain (E := EE []) ?_
      refine lx_move rfl rfl rfl ?_
      refine lx_len rfl (fun _ => len_slice Tryd.underlying39 _ _ _ _) rfl rfl ?_
      refine lx_conv rfl rfl (fun _ => conv_i_u64 Tryd.underlying3 Tryd.underlying25 _) rfl rfl ?_
      refine lx_bin rfl rfl (fun _ => rfl) (fun _ => bin_mul_u64 _ _ _) rfl rfl ?_
      refine lx_assign rfl rfl rfl ?_
      refine lx_nil ?_
      refine x_seq ?_
      refine xs_plain (E := EE []) ?_
      refine lx_assign rfl rfl rfl ?_
      refine lx_nil ?_
      refine x_block ?_
      refine x_for (ι := PeSt bs (BitVec.ofInt 64 bs.length * 8#64)) (fun y => [(3, .slice (some ⟨y.b, 0, none⟩) (PE bs (BitVec.ofInt 64 bs.length * 8#64) y.j).length y.c.length), (4, U64 (BitVec.ofInt 64 bs.length * 8#64)), (5, I (7 - (y.j : Int)))]) (fun y => [(3, y.b, y.c, 5)]) (fun y => 8 - y.j) ⟨0, bb, cc, by decide, h1, h2⟩ hGF ⟨rfl, rfl, rfl, trivial⟩ ⟨rfl, trivial⟩ ?_
      clear h1 h2
      intro x
      have hj := x.hj
      refine x_seq ?_
      refine xs_plain (E := EE []) ?_
      refine lx_move rfl rfl rfl ?_
      refine lx_bin rfl rfl (fun _ => rfl) (fun _ => bin_geq_i _ _ _) rfl rfl ?_
      refine lx_nil ?_
      refine x_if rfl (fun hc => ?_) (fun hc => ?_)
      · simp only [decide_eq_true_eq] at hc
        refine x_skip ?_
        refine x_seq ?_
        refine x_block ?_
        refine x_plain (E := EE []) ?_
        refine lx_move rfl rfl rfl ?_
        refine lx_move rfl rfl rfl ?_
        refine lx_move rfl rfl rfl ?_
        refine lx_bin rfl rfl (fun _ => rfl) (fun _ => bin_mul_i _ _ _ (by unfold inI; omega)) rfl rfl ?_
        refine lx_bin rfl rfl (fun _ => rfl) (fun _ => bin_shr_i_u64 _ _ _ (by omega)) rfl rfl ?_
        refine lx_conv rfl rfl (fun _ => conv_u64_u8 Tryd.underlying25 Tryd.underlying5 _) rfl rfl ?_
        refine lx_bsl 31 [nb (BitVec.ofInt 64 bs.length * 8#64) x.j] hGF rfl rfl rfl (by decide) (by decide) Tryd.underlying39 Tryd.sizeOf5 Tryd.zeroValue5 rfl rfl ?_
        intro b31
        refine lx_append (xs := PE bs (BitVec.ofInt 64 bs.length * 8#64) x.j) (ys := [nb (BitVec.ofInt 64 bs.length * 8#64) x.j]) 3 hGF rfl rfl Tryd.underlying39 Tryd.underlying39 ti5 (.inr ⟨x.b, x.c, rfl, rfl, rfl, x.h1, x.h2⟩) (fun w' h => BytesAt.range (hp_row (n := 31) rfl w' h)) (by show (PE bs (BitVec.ofInt 64 bs.length * 8#64) x.j).length + 1 ≤ _; rw [PE_len]; unfold nz; omega) rfl rfl (fun h0 => ?_) (fun b32 c32 cap32 e32 l32 t32 => ?_)
        · simp at h0
        subst e32
        refine lx_assign rfl rfl rfl ?_
        refine lx_nil ?_
        refine x_plain (E := EE []) ?_
        refine lx_move rfl rfl rfl ?_
        refine lx_bin rfl rfl (fun _ => rfl) (fun _ => bin_sub_i _ _ _ (by unfold inI; omega)) rfl rfl ?_
        refine lx_assign rfl rfl rfl ?_
        refine lx_nil ?_
        repeat (refine kblk_n ?_)
        refine kseq_n ?_
        exact ⟨rfl, ⟨x.j + 1, b32, c32, by omega, l32, t32⟩, _, by show 8 - (x.j + 1) < 8 - x.j; omega, rfl, ⟨rfl, rfl, congrArg (fun z => some (I z)) (by show 7 - (x.j : Int) - 1 = 7 - ((x.j + 1 : Nat) : Int); omega), trivial⟩, ⟨rfl, trivial⟩⟩
      · simp only [decide_eq_false_iff_not] at hc
        refine x_exit ?_
        refine xs_plain (E := EE []) ?_
        refine lx_move rfl rfl rfl ?_
        refine lx_assign rfl rfl rfl ?_
        refine lx_nil ?_
        refine x_ret ?_
        repeat (first | refine kseq_ret ?_ | refine kblk_ret ?_)
        have h8 : x.j = 8 := by omega
        obtain ⟨j, b, c, hj', h1, h2⟩ := x
        dsimp only at h8
        subst h8
        exact kret_tmp rfl rfl (fun w hw => ⟨_, rfl, hp_below hw, .inr ⟨b, c, _, rfl, (hw.own 3 b _ _ rfl).2.elim id False.elim, (hw.own 3 b _ _ rfl).1, rfl, h1, h2⟩⟩)
end Sh
end Go.Proofs.YtdkkipjcmflclaaDoor
