/-
  The walk of pharosref1.Pad.
  The walks of pharosref1.Table and pharosref1.New.
  The walk of Maker.Sum.
  The document's sum is SHA: the reference's words, rounds and blocks against the program's.
-/
import Derived.Test.YtlimfhjjadbjgaaDoorQ2
import Derived.Test.YtlimfhjjadbjgaaDoorX2
namespace Go.Proofs.YtlimfhjjadbjgaaDoor
open Go.RowKit
set_option maxRecDepth 100000
set_option maxHeartbeats 1000000
namespace Sh
/-- The text, the mark, so many noughts. -/
def PD (bs : List (BitVec 8)) (k : Nat) : List (BitVec 8) := bs ++ ([128#8] ++ List.replicate k 0#8)
theorem PD_succ (bs : List (BitVec 8)) (k : Nat) : PD bs k ++ [0#8] = PD bs (k + 1) := by
  simp [PD, List.replicate_succ']
theorem PD_len (bs : List (BitVec 8)) (k : Nat) : (PD bs k).length = bs.length + 1 + k := by simp [PD]; omega
/-- How many noughts. -/
def nz (bs : List (BitVec 8)) : Nat := (120 - (bs.length + 1) % 64) % 64
def nb (n : BitVec 64) (j : Nat) : BitVec 8 := (n >>> (8 * (7 - (j : Int))).toNat).setWidth 8
def PE (bs : List (BitVec 8)) (n : BitVec 64) : Nat → List (BitVec 8)
  | 0 => PD bs (nz bs)
  | j + 1 => PE bs n j ++ [nb n j]
theorem PE_len (bs : List (BitVec 8)) (n : BitVec 64) : ∀ j, (PE bs n j).length = bs.length + 1 + nz bs + j
  | 0 => PD_len bs _
  | j + 1 => by rw [PE, List.length_append, PE_len bs n j]; rfl
def PAD (bs : List (BitVec 8)) : List (BitVec 8) := PE bs (BitVec.ofInt 64 bs.length * 8#64) 8
structure PdSt (bs : List (BitVec 8)) where
  (k b : Nat) (c : List Value)
  hk : k + (120 - (bs.length + 1 + k) % 64) % 64 = nz bs
  h1 : (PD bs k).length ≤ c.length
  h2 : c.take (PD bs k).length = (PD bs k).map U8
structure PeSt (bs : List (BitVec 8)) (n : BitVec 64) where
  (j b : Nat) (c : List Value)
  hj : j ≤ 8
  h1 : (PE bs n j).length ≤ c.length
  h2 : c.take (PE bs n j).length = (PE bs n j).map U8

theorem pad_calls (a : Option Addr) (cap : Nat) (bs : List (BitVec 8)) (hl : bs.length ≤ 70368744170000) (w : World) (hw : Gt w) (hby : BytesAt w a bs) :
    Calls Tryd.prog 30 [.slice a bs.length cap].toArray w (fun e w' => ∃ sv, e = .returned sv ∧ Grow w w' ∧ Cln w w' (PAD bs) sv) := by
  have hGF : BOk Gt (pl w) := gt_low.plain hw
  refine calls_of_X (G := Gt) Tryd.func30 rfl rfl (Hp (pl w) []) (hp_refl (pl w) trivial rides_true) (good_hp hGF) ?_
  refine xs_plain (E := EE []) ?_
  refine lx_assign rfl rfl rfl ?_
  refine lx_nil ?_
  refine xs_plain (E := EE []) ?_
  refine lx_move rfl rfl rfl ?_
  refine lx_append (xs := []) (ys := bs) 3 hGF rfl rfl Tryd.underlying22 Tryd.underlying22 ti5 (ownSl_nil _ _ _) (fun w' h => hby.grow (hp_below h)) (by simpa using Nat.le_trans hl (by decide)) rfl rfl (fun h0 => ?_) (fun b7 c7 cap7 e7 l7 t7 => ?_)
  · skip
    have hbs : bs = [] := h0
    subst hbs
    clear h0
    refine lx_bsl 8 [128#8] hGF rfl rfl rfl (by decide) (by decide) Tryd.underlying22 Tryd.sizeOf5 Tryd.zeroValue5 rfl rfl ?_
    intro b8
    refine lx_append (xs := []) (ys := [128#8]) 3 hGF rfl rfl Tryd.underlying22 Tryd.underlying22 ti5 (ownSl_nil _ _ _) (fun w' h => BytesAt.range (hp_row (n := 8) rfl w' h)) (by decide) rfl rfl (fun h0 => ?_) (fun b9 c9 cap9 e9 l9 t9 => ?_)
    · simp at h0
    subst e9
    refine lx_assign rfl rfl rfl ?_
    refine lx_nil ?_
    refine x_seq ?_
    refine x_block ?_
    refine x_for (ι := PdSt ([] : List (BitVec 8))) (fun x => [(0, .slice a (List.length ([] : List (BitVec 8))) cap), (3, .slice (some ⟨x.b, 0, none⟩) (PD ([] : List (BitVec 8)) x.k).length x.c.length)]) (fun x => [(3, x.b, x.c, 5)]) (fun x => nz ([] : List (BitVec 8)) - x.k) ⟨0, b9, c9, by unfold nz; rw [Nat.zero_add, Nat.add_zero], l9, t9⟩ hGF ⟨rfl, rfl, trivial⟩ ⟨rfl, trivial⟩ ?_
    intro x
    have hk := x.hk
    have hln := PD_len ([] : List (BitVec 8)) x.k
    clear l9 t9
    refine x_seq ?_
    refine xs_plain (E := EE []) ?_
    refine lx_move rfl rfl rfl ?_
    refine lx_len rfl (fun _ => len_slice Tryd.underlying22 _ _ _ _) rfl rfl ?_
    refine lx_bin (v := I (((PD ([] : List (BitVec 8)) x.k).length % 64 : Nat) : Int)) rfl rfl (fun _ => rfl) (fun _ => bin_rem_i _ _ _ (by decide)) rfl rfl ?_
    refine lx_bin rfl rfl (fun _ => rfl) (fun _ => bin_neq_i _ _ _) rfl rfl ?_
    refine lx_nil ?_
    refine x_if rfl (fun hc => ?_) (fun hc => ?_)
    · have hne : (PD ([] : List (BitVec 8)) x.k).length % 64 ≠ 56 := by have := bne_iff_ne.1 hc; omega
      refine x_skip ?_
      refine x_block ?_
      refine x_plain (E := EE []) ?_
      refine lx_move rfl rfl rfl ?_
      refine lx_bsl 15 [0#8] hGF rfl rfl rfl (by decide) (by decide) Tryd.underlying22 Tryd.sizeOf5 Tryd.zeroValue5 rfl rfl ?_
      intro b15
      refine lx_append (xs := PD ([] : List (BitVec 8)) x.k) (ys := [0#8]) 3 hGF rfl rfl Tryd.underlying22 Tryd.underlying22 ti5 (.inr ⟨x.b, x.c, rfl, rfl, rfl, x.h1, x.h2⟩) (fun w' h => BytesAt.range (hp_row (n := 15) rfl w' h)) (by show (PD ([] : List (BitVec 8)) x.k).length + 1 ≤ _; rw [hln]; unfold nz at hk; omega) rfl rfl (fun h0 => ?_) (fun b16 c16 cap16 e16 l16 t16 => ?_)
      · simp at h0
      subst e16
      rw [PD_succ] at l16 t16 ⊢
      refine lx_assign rfl rfl rfl ?_
      refine lx_nil ?_
      repeat (refine kblk_n ?_)
      refine kseq_n ?_
      exact ⟨rfl, ⟨x.k + 1, b16, c16, by unfold nz at hk ⊢; omega, l16, t16⟩, _, by show nz ([] : List (BitVec 8)) - (x.k + 1) < nz ([] : List (BitVec 8)) - x.k; unfold nz at hk ⊢; omega, rfl, ⟨rfl, rfl, trivial⟩, ⟨rfl, trivial⟩⟩
    · obtain ⟨k, bb, cc, hk', h1, h2⟩ := x
      dsimp only at hc hk hln ⊢
      obtain rfl : k = nz ([] : List (BitVec 8)) := by
        have := bne_eq_false_iff_eq.1 hc
        unfold nz at hk ⊢
        omega
      clear hc hk hln hk'
      refine x_exit ?_
      refine xs_plain (E := EE []) ?_
      refine lx_move rfl rfl rfl ?_
      refine lx_len rfl (fun _ => len_slice Tryd.underlying22 _ _ _ _) rfl rfl ?_
      refine lx_conv rfl rfl (fun _ => conv_i_u64 Tryd.underlying3 Tryd.underlying41 _) rfl rfl ?_
      refine lx_bin rfl rfl (fun _ => rfl) (fun _ => bin_mul_u64 _ _ _) rfl rfl ?_
      refine lx_assign rfl rfl rfl ?_
      refine lx_nil ?_
      refine x_seq ?_
      refine xs_plain (E := EE []) ?_
      refine lx_assign rfl rfl rfl ?_
      refine lx_nil ?_
      refine x_block ?_
      refine x_for (ι := PeSt ([] : List (BitVec 8)) (BitVec.ofInt 64 (List.length ([] : List (BitVec 8))) * 8#64)) (fun y => [(3, .slice (some ⟨y.b, 0, none⟩) (PE ([] : List (BitVec 8)) (BitVec.ofInt 64 (List.length ([] : List (BitVec 8))) * 8#64) y.j).length y.c.length), (4, U64 (BitVec.ofInt 64 (List.length ([] : List (BitVec 8))) * 8#64)), (5, I (7 - (y.j : Int)))]) (fun y => [(3, y.b, y.c, 5)]) (fun y => 8 - y.j) ⟨0, bb, cc, by decide, h1, h2⟩ hGF ⟨rfl, rfl, rfl, trivial⟩ ⟨rfl, trivial⟩ ?_
      clear h1 h2
      intro x
      have hj := x.hj
      refine x_seq ?_
      refine xs_plain (E := EE []) ?_
      refine lx_move rfl rfl rfl ?_
      refine lx_bin rfl rfl (fun _ => rfl) (fun _ => bin_geq_i _ _ _) rfl rfl ?_
      refine lx_nil ?_
      refine x_if rfl (fun hc => ?_) (fun hc => ?_)
      · simp only [decide_eq_true_eq] at hc
        refine x_skip ?_
        refine x_seq ?_
        refine x_block ?_
        refine x_plain (E := EE []) ?_
        refine lx_move rfl rfl rfl ?_
        refine lx_move rfl rfl rfl ?_
        refine lx_move rfl rfl rfl ?_
        refine lx_bin rfl rfl (fun _ => rfl) (fun _ => bin_mul_i _ _ _ (by unfold inI; omega)) rfl rfl ?_
        refine lx_bin rfl rfl (fun _ => rfl) (fun _ => bin_shr_i_u64 _ _ _ (by omega)) rfl rfl ?_
        refine lx_conv rfl rfl (fun _ => conv_u64_u8 Tryd.underlying41 Tryd.underlying5 _) rfl rfl ?_
        refine lx_bsl 31 [nb (BitVec.ofInt 64 (List.length ([] : List (BitVec 8))) * 8#64) x.j] hGF rfl rfl rfl (by decide) (by decide) Tryd.underlying22 Tryd.sizeOf5 Tryd.zeroValue5 rfl rfl ?_
        intro b31
        refine lx_append (xs := PE ([] : List (BitVec 8)) (BitVec.ofInt 64 (List.length ([] : List (BitVec 8))) * 8#64) x.j) (ys := [nb (BitVec.ofInt 64 (List.length ([] : List (BitVec 8))) * 8#64) x.j]) 3 hGF rfl rfl Tryd.underlying22 Tryd.underlying22 ti5 (.inr ⟨x.b, x.c, rfl, rfl, rfl, x.h1, x.h2⟩) (fun w' h => BytesAt.range (hp_row (n := 31) rfl w' h)) (by show (PE ([] : List (BitVec 8)) (BitVec.ofInt 64 (List.length ([] : List (BitVec 8))) * 8#64) x.j).length + 1 ≤ _; rw [PE_len]; unfold nz; omega) rfl rfl (fun h0 => ?_) (fun b32 c32 cap32 e32 l32 t32 => ?_)
        · simp at h0
        subst e32
        refine lx_assign rfl rfl rfl ?_
        refine lx_nil ?_
        refine x_plain (E := EE []) ?_
        refine lx_move rfl rfl rfl ?_
        refine lx_bin rfl rfl (fun _ => rfl) (fun _ => bin_sub_i _ _ _ (by unfold inI; omega)) rfl rfl ?_
        refine lx_assign rfl rfl rfl ?_
        refine lx_nil ?_
        repeat (refine kblk_n ?_)
        refine kseq_n ?_
        exact ⟨rfl, ⟨x.j + 1, b32, c32, by omega, l32, t32⟩, _, by show 8 - (x.j + 1) < 8 - x.j; omega, rfl, ⟨rfl, rfl, congrArg (fun z => some (I z)) (by show 7 - (x.j : Int) - 1 = 7 - ((x.j + 1 : Nat) : Int); omega), trivial⟩, ⟨rfl, trivial⟩⟩
      · simp only [decide_eq_false_iff_not] at hc
        refine x_exit ?_
        refine xs_plain (E := EE []) ?_
        refine lx_move rfl rfl rfl ?_
        refine lx_assign rfl rfl rfl ?_
        refine lx_nil ?_
        refine x_ret ?_
        repeat (first | refine kseq_ret ?_ | refine kblk_ret ?_)
        have h8 : x.j = 8 := by omega
        obtain ⟨j, b, c, hj', h1, h2⟩ := x
        dsimp only at h8
        subst h8
        exact kret_tmp rfl rfl (fun w hw => ⟨_, rfl, hp_below hw, .inr ⟨b, c, _, rfl, (hw.own 3 b _ _ rfl).2.elim id False.elim, (hw.own 3 b _ _ rfl).1, rfl, h1, h2⟩⟩)
  · skip
    subst e7
    refine lx_bsl 8 [128#8] hGF rfl rfl rfl (by decide) (by decide) Tryd.underlying22 Tryd.sizeOf5 Tryd.zeroValue5 rfl rfl ?_
    intro b8
    refine lx_append (xs := bs) (ys := [128#8]) 3 hGF rfl rfl Tryd.underlying22 Tryd.underlying22 ti5 (.inr ⟨b7, c7, rfl, rfl, rfl, l7, t7⟩) (fun w' h => BytesAt.range (hp_row (n := 8) rfl w' h)) (by show bs.length + 1 ≤ _; omega) rfl rfl (fun h0 => ?_) (fun b9 c9 cap9 e9 l9 t9 => ?_)
    · simp at h0
    subst e9
    refine lx_assign rfl rfl rfl ?_
    refine lx_nil ?_
    refine x_seq ?_
    refine x_block ?_
    refine x_for (ι := PdSt bs) (fun x => [(0, .slice a (List.length bs) cap), (3, .slice (some ⟨x.b, 0, none⟩) (PD bs x.k).length x.c.length)]) (fun x => [(3, x.b, x.c, 5)]) (fun x => nz bs - x.k) ⟨0, b9, c9, by unfold nz; rw [Nat.zero_add, Nat.add_zero], l9, t9⟩ hGF ⟨rfl, rfl, trivial⟩ ⟨rfl, trivial⟩ ?_
    intro x
    have hk := x.hk
    have hln := PD_len bs x.k
    clear l9 t9
    refine x_seq ?_
    refine xs_plain (E := EE []) ?_
    refine lx_move rfl rfl rfl ?_
    refine lx_len rfl (fun _ => len_slice Tryd.underlying22 _ _ _ _) rfl rfl ?_
    refine lx_bin (v := I (((PD bs x.k).length % 64 : Nat) : Int)) rfl rfl (fun _ => rfl) (fun _ => bin_rem_i _ _ _ (by decide)) rfl rfl ?_
    refine lx_bin rfl rfl (fun _ => rfl) (fun _ => bin_neq_i _ _ _) rfl rfl ?_
    refine lx_nil ?_
    refine x_if rfl (fun hc => ?_) (fun hc => ?_)
    · have hne : (PD bs x.k).length % 64 ≠ 56 := by have := bne_iff_ne.1 hc; omega
      refine x_skip ?_
      refine x_block ?_
      refine x_plain (E := EE []) ?_
      refine lx_move rfl rfl rfl ?_
      refine lx_bsl 15 [0#8] hGF rfl rfl rfl (by decide) (by decide) Tryd.underlying22 Tryd.sizeOf5 Tryd.zeroValue5 rfl rfl ?_
      intro b15
      refine lx_append (xs := PD bs x.k) (ys := [0#8]) 3 hGF rfl rfl Tryd.underlying22 Tryd.underlying22 ti5 (.inr ⟨x.b, x.c, rfl, rfl, rfl, x.h1, x.h2⟩) (fun w' h => BytesAt.range (hp_row (n := 15) rfl w' h)) (by show (PD bs x.k).length + 1 ≤ _; rw [hln]; unfold nz at hk; omega) rfl rfl (fun h0 => ?_) (fun b16 c16 cap16 e16 l16 t16 => ?_)
      · simp at h0
      subst e16
      rw [PD_succ] at l16 t16 ⊢
      refine lx_assign rfl rfl rfl ?_
      refine lx_nil ?_
      repeat (refine kblk_n ?_)
      refine kseq_n ?_
      exact ⟨rfl, ⟨x.k + 1, b16, c16, by unfold nz at hk ⊢; omega, l16, t16⟩, _, by show nz bs - (x.k + 1) < nz bs - x.k; unfold nz at hk ⊢; omega, rfl, ⟨rfl, rfl, trivial⟩, ⟨rfl, trivial⟩⟩
    · obtain ⟨k, bb, cc, hk', h1, h2⟩ := x
      dsimp only at hc hk hln ⊢
      obtain rfl : k = nz bs := by
        have := bne_eq_false_iff_eq.1 hc
        unfold nz at hk ⊢
        omega
      clear hc hk hln hk'
      refine x_exit ?_
      refine xs_plain (E := EE []) ?_
      refine lx_move rfl rfl rfl ?_
      refine lx_len rfl (fun _ => len_slice Tryd.underlying22 _ _ _ _) rfl rfl ?_
      refine lx_conv rfl rfl (fun _ => conv_i_u64 Tryd.underlying3 Tryd.underlying41 _) rfl rfl ?_
      refine lx_bin rfl rfl (fun _ => rfl) (fun _ => bin_mul_u64 _ _ _) rfl rfl ?_
      refine lx_assign rfl rfl rfl ?_
      refine lx_nil ?_
      refine x_seq ?_
      refine xs_plain (E := EE []) ?_
      refine lx_assign rfl rfl rfl ?_
      refine lx_nil ?_
      refine x_block ?_
      refine x_for (ι := PeSt bs (BitVec.ofInt 64 bs.length * 8#64)) (fun y => [(3, .slice (some ⟨y.b, 0, none⟩) (PE bs (BitVec.ofInt 64 bs.length * 8#64) y.j).length y.c.length), (4, U64 (BitVec.ofInt 64 bs.length * 8#64)), (5, I (7 - (y.j : Int)))]) (fun y => [(3, y.b, y.c, 5)]) (fun y => 8 - y.j) ⟨0, bb, cc, by decide, h1, h2⟩ hGF ⟨rfl, rfl, rfl, trivial⟩ ⟨rfl, trivial⟩ ?_
      clear h1 h2
      intro x
      have hj := x.hj
      refine x_seq ?_
      refine xs_plain (E := EE []) ?_
      refine lx_move rfl rfl rfl ?_
      refine lx_bin rfl rfl (fun _ => rfl) (fun _ => bin_geq_i _ _ _) rfl rfl ?_
      refine lx_nil ?_
      refine x_if rfl (fun hc => ?_) (fun hc => ?_)
      · simp only [decide_eq_true_eq] at hc
        refine x_skip ?_
        refine x_seq ?_
        refine x_block ?_
        refine x_plain (E := EE []) ?_
        refine lx_move rfl rfl rfl ?_
        refine lx_move rfl rfl rfl ?_
        refine lx_move rfl rfl rfl ?_
        refine lx_bin rfl rfl (fun _ => rfl) (fun _ => bin_mul_i _ _ _ (by unfold inI; omega)) rfl rfl ?_
        refine lx_bin rfl rfl (fun _ => rfl) (fun _ => bin_shr_i_u64 _ _ _ (by omega)) rfl rfl ?_
        refine lx_conv rfl rfl (fun _ => conv_u64_u8 Tryd.underlying41 Tryd.underlying5 _) rfl rfl ?_
        refine lx_bsl 31 [nb (BitVec.ofInt 64 bs.length * 8#64) x.j] hGF rfl rfl rfl (by decide) (by decide) Tryd.underlying22 Tryd.sizeOf5 Tryd.zeroValue5 rfl rfl ?_
        intro b31
        refine lx_append (xs := PE bs (BitVec.ofInt 64 bs.length * 8#64) x.j) (ys := [nb (BitVec.ofInt 64 bs.length * 8#64) x.j]) 3 hGF rfl rfl Tryd.underlying22 Tryd.underlying22 ti5 (.inr ⟨x.b, x.c, rfl, rfl, rfl, x.h1, x.h2⟩) (fun w' h => BytesAt.range (hp_row (n := 31) rfl w' h)) (by show (PE bs (BitVec.ofInt 64 bs.length * 8#64) x.j).length + 1 ≤ _; rw [PE_len]; unfold nz; omega) rfl rfl (fun h0 => ?_) (fun b32 c32 cap32 e32 l32 t32 => ?_)
        · simp at h0
        subst e32
        refine lx_assign rfl rfl rfl ?_
        refine lx_nil ?_
        refine x_plain (E := EE []) ?_
        refine lx_move rfl rfl rfl ?_
        refine lx_bin rfl rfl (fun _ => rfl) (fun _ => bin_sub_i _ _ _ (by unfold inI; omega)) rfl rfl ?_
        refine lx_assign rfl rfl rfl ?_
        refine lx_nil ?_
        repeat (refine kblk_n ?_)
        refine kseq_n ?_
        exact ⟨rfl, ⟨x.j + 1, b32, c32, by omega, l32, t32⟩, _, by show 8 - (x.j + 1) < 8 - x.j; omega, rfl, ⟨rfl, rfl, congrArg (fun z => some (I z)) (by show 7 - (x.j : Int) - 1 = 7 - ((x.j + 1 : Nat) : Int); omega), trivial⟩, ⟨rfl, trivial⟩⟩
      · simp only [decide_eq_false_iff_not] at hc
        refine x_exit ?_
        refine xs_plain (E := EE []) ?_
        refine lx_move rfl rfl rfl ?_
        refine lx_assign rfl rfl rfl ?_
        refine lx_nil ?_
        refine x_ret ?_
        repeat (first | refine kseq_ret ?_ | refine kblk_ret ?_)
        have h8 : x.j = 8 := by omega
        obtain ⟨j, b, c, hj', h1, h2⟩ := x
        dsimp only at h8
        subst h8
        exact kret_tmp rfl rfl (fun w hw => ⟨_, rfl, hp_below hw, .inr ⟨b, c, _, rfl, (hw.own 3 b _ _ rfl).2.elim id False.elim, (hw.own 3 b _ _ rfl).1, rfl, h1, h2⟩⟩)
end Sh
end Go.Proofs.YtlimfhjjadbjgaaDoor

namespace Go.Proofs.YtlimfhjjadbjgaaDoor
open Go.RowKit
set_option maxRecDepth 100000
namespace Sh
theorem zv64 : ∀ w, (zeroValue 64).run Tryd.prog w = .ok (.agg ((List.replicate 72 0#32).map U32).toArray) w := fun _ => by kernel_rfl
/-- What a Maker holds. -/
def MK : List (BitVec 32) := IV ++ KW

theorem table_pure : Pure Tryd.prog Gt 20 [] (.tuple #[.agg (IV.map U32).toArray, .agg (KW.map U32).toArray]) := by
  intro w hw
  have hGF : BOk Gt (pl w) := gt_low.plain hw
  refine calls_of_X (G := Gt) Tryd.func20 rfl rfl (Hp (pl w) []) (hp_refl (pl w) trivial rides_true) (good_hp hGF) ?_
  refine xs_plain (E := EE []) ?_
  refine lx_allocr 0 hGF zv61 rfl rfl ?_
  intro b0
  refine lx_allocr 1 hGF zv62 rfl rfl ?_
  intro b1
  refine lx_nil ?_
  refine xs_plain (E := EE []) ?_
  refine lx_buildr (n := 8) rfl rfl Tryd.underlying61 Tryd.sizeOf60 Tryd.zeroValue61 rfl rfl rfl rfl ?_
  refine lx_buildr (n := 64) rfl rfl Tryd.underlying62 Tryd.sizeOf60 Tryd.zeroValue62 rfl rfl rfl rfl ?_
  refine lx_storea (vs := IV.map U32) 0 hGF rfl rfl rfl Tryd.sizeOf61 rfl (by rw [List.length_map, List.length_replicate]) (one_u32 _) rfl ?_
  refine lx_storea (vs := KW.map U32) 1 hGF rfl rfl rfl Tryd.sizeOf62 rfl (by rw [List.length_map, List.length_replicate]) (one_u32 _) rfl ?_
  refine lx_nil ?_
  refine x_ret ?_
  repeat (first | refine kseq_ret ?_ | refine kblk_ret ?_)
  exact kret_two (c1 := IV.map U32) (c2 := KW.map U32) 0 1 rfl rfl rfl rfl rfl Tryd.isAgg61 Tryd.sizeOf61 rfl Tryd.isAgg62 Tryd.sizeOf62 rfl (fun w hw => ⟨rfl, hp_below hw⟩)
theorem new_calls (w : World) (hw : Gt w) : Calls Tryd.prog 9 [].toArray w (fun e w' => ∃ bm, e = .returned (.pointer (some ⟨bm, 0, none⟩)) ∧ Grow w w' ∧ w.heap.size ≤ bm ∧ OwnB w' bm (MK.map U32) 64) := by
  have hGF : BOk Gt (pl w) := gt_low.plain hw
  refine calls_of_X (G := Gt) Tryd.func9 rfl rfl (Hp (pl w) []) (hp_refl (pl w) trivial rides_true) (good_hp hGF) ?_
  refine xs_plain (E := EE []) ?_
  refine lx_assign rfl rfl rfl ?_
  refine lx_nil ?_
  refine xs_plain (E := EE []) ?_
  refine lx_builds zv64 Tryd.underlying64 (fun _ => ⟨#[(0, 8), (8, 64)], by kernel_rfl⟩) rfl rfl ?_
  refine lx_boxr 3 hGF rfl rfl rfl ?_
  intro b3
  refine lx_assign rfl rfl rfl ?_
  refine lx_nil ?_
  refine xs_plain (E := EE []) ?_
  refine lx_move rfl rfl rfl ?_
  refine lx_move rfl rfl rfl ?_
  refine lx_call rfl rfl ent20 (table_pure) rfl rfl ?_
  refine lx_move rfl rfl rfl ?_
  refine lx_ext rfl rfl rfl rfl ?_
  refine lx_ext rfl rfl rfl rfl ?_
  refine lx_nilc rfl rfl rfl ?_
  refine lx_fak 0 rfl Tryd.underlying64 rfl Tryd.sizeOf61 (by decide) rfl rfl rfl ?_
  refine lx_storer (vs := IV.map U32) 3 hGF rfl rfl rfl Tryd.sizeOf61 rfl (one_u32 _) (by decide) rfl ?_
  refine lx_nilc rfl rfl rfl ?_
  refine lx_fak 8 rfl Tryd.underlying64 rfl Tryd.sizeOf62 (by decide) rfl rfl rfl ?_
  refine lx_storer (vs := KW.map U32) 3 hGF rfl rfl rfl Tryd.sizeOf62 rfl (one_u32 _) (by decide) rfl ?_
  rw [show lay 8 (KW.map U32) (lay 0 (IV.map U32) ((List.replicate 72 0#32).map U32)) = MK.map U32 from rfl]
  refine lx_nil ?_
  refine xs_plain (E := EE []) ?_
  refine lx_move rfl rfl rfl ?_
  refine lx_assign rfl rfl rfl ?_
  refine lx_nil ?_
  refine x_ret ?_
  repeat (first | refine kseq_ret ?_ | refine kblk_ret ?_)
  exact kret_tmp rfl rfl (fun w hw => ⟨b3, rfl, hp_below hw, (hw.own 3 b3 _ _ rfl).2.elim id False.elim, (hw.own 3 b3 _ _ rfl).1⟩)
end Sh
end Go.Proofs.YtlimfhjjadbjgaaDoor

namespace Go.Proofs.YtlimfhjjadbjgaaDoor
open Go.RowKit
set_option maxRecDepth 100000
set_option maxHeartbeats 2000000
namespace Sh
theorem get_front (xs : List (BitVec 8)) (tail : List Value) (i : Nat) (h : i < xs.length) : (xs.map U8 ++ tail)[i]? = some (U8 (xs.getD i 0)) := by
  rw [List.getElem?_append_left (by simpa using h)]
  exact gm U8 xs 0 i h
def wk (p : List (BitVec 8)) (o : Nat) (x : BitVec 32) : Nat → BitVec 32
  | 0 => x
  | k + 1 => (wk p o x k <<< 8) ||| (p.getD (o + k) 0).setWidth 32
def V1 (p : List (BitVec 8)) (q : Nat) : Nat → List (BitVec 32)
  | 0 => List.replicate 64 0#32
  | i + 1 => (V1 p q i).set i (wk p (q + 4 * i) ((V1 p q i).getD i 0) 4)
theorem V1_len (p : List (BitVec 8)) (q : Nat) : ∀ i, (V1 p q i).length = 64
  | 0 => by simp [V1]
  | i + 1 => by simp [V1, V1_len p q i]
theorem set_same (l : List (BitVec 32)) (i : Nat) (h : i < l.length) : l = l.set i (l.getD i 0) := by
  have e : l.getD i 0 = l[i] := by simp [h]
  rw [e, List.set_getElem_self]
theorem getD_set (l : List (BitVec 32)) (i : Nat) (x : BitVec 32) (h : i < l.length) : (l.set i x).getD i 0 = x := by simp [h]
def r0 (x : BitVec 32) : BitVec 32 := turn x 7 ^^^ turn x 18 ^^^ (x >>> 3)
def r1 (x : BitVec 32) : BitVec 32 := turn x 17 ^^^ turn x 19 ^^^ (x >>> 10)
def r5 (ws : List (BitVec 32)) (i : Nat) : BitVec 32 := ws.getD (i - 16) 0 + r0 (ws.getD (i - 15) 0) + ws.getD (i - 7) 0 + r1 (ws.getD (i - 2) 0)
def V2 (p : List (BitVec 8)) (q : Nat) : Nat → List (BitVec 32)
  | 0 => V1 p q 16
  | j + 1 => (V2 p q j).set (16 + j) (r5 (V2 p q j) (16 + j))
theorem V2_len (p : List (BitVec 8)) (q : Nat) : ∀ j, (V2 p q j).length = 64
  | 0 => V1_len p q 16
  | j + 1 => by simp [V2, V2_len p q j]
def rt (v : List (BitVec 32)) (k w : BitVec 32) : BitVec 32 := v.getD 7 0 + (turn (v.getD 4 0) 6 ^^^ turn (v.getD 4 0) 11 ^^^ turn (v.getD 4 0) 25) + ((v.getD 4 0 &&& v.getD 5 0) ^^^ (~~~(v.getD 4 0) &&& v.getD 6 0)) + k + w
def ru (v : List (BitVec 32)) : BitVec 32 := (turn (v.getD 0 0) 2 ^^^ turn (v.getD 0 0) 13 ^^^ turn (v.getD 0 0) 22) + ((v.getD 0 0 &&& v.getD 1 0) ^^^ (v.getD 0 0 &&& v.getD 2 0) ^^^ (v.getD 1 0 &&& v.getD 2 0))
def rr (v : List (BitVec 32)) (k w : BitVec 32) : List (BitVec 32) := [rt v k w + ru v, v.getD 0 0, v.getD 1 0, v.getD 2 0, v.getD 3 0 + rt v k w, v.getD 4 0, v.getD 5 0, v.getD 6 0]
def RRs (h ws : List (BitVec 32)) : Nat → List (BitVec 32)
  | 0 => h
  | j + 1 => rr (RRs h ws j) (MK.getD (8 + j) 0) (ws.getD j 0)
theorem RRs_len (h ws : List (BitVec 32)) (hh : h.length = 8) : ∀ j, (RRs h ws j).length = 8
  | 0 => hh
  | _ + 1 => rfl
def HAs (h v : List (BitVec 32)) : Nat → List (BitVec 32)
  | 0 => h
  | i + 1 => (HAs h v i).set i ((HAs h v i).getD i 0 + v.getD i 0)
theorem HAs_len (h v : List (BitVec 32)) : ∀ j, (HAs h v j).length = h.length
  | 0 => rfl
  | i + 1 => by simp [HAs, HAs_len h v i]
def RK (p : List (BitVec 8)) : Nat → List (BitVec 32)
  | 0 => IV
  | k + 1 => HAs (RK p k) (RRs (RK p k) (V2 p (64 * k) 48) 64) 8
theorem RK_len (p : List (BitVec 8)) : ∀ k, (RK p k).length = 8
  | 0 => rfl
  | k + 1 => by rw [RK, HAs_len, RK_len p k]
def OD (h : List (BitVec 32)) : Nat → List (BitVec 8)
  | 0 => List.replicate 32 0#8
  | i + 1 => (OD h i).set i ((h.getD (i / 4) 0 >>> (24 - 8 * ((i % 4 : Nat) : Int)).toNat).setWidth 8)
theorem OD_len (h : List (BitVec 32)) : ∀ j, (OD h j).length = 32
  | 0 => by simp [OD]
  | i + 1 => by simp [OD, OD_len h i]
def MSUM (bs : List (BitVec 8)) : List (BitVec 8) := OD (RK (PAD bs) ((PAD bs).length / 64)) 32
theorem MK_len : MK.length = 72 := rfl
theorem pad_mod (bs : List (BitVec 8)) : (PAD bs).length % 64 = 0 := by
  rw [PAD, PE_len]
  unfold nz
  omega

theorem msum_calls (bm : Nat) (a : Option Addr) (cap : Nat) (bs : List (BitVec 8)) (hl : bs.length ≤ 70368744170000) (w : World) (hw : Gt w) (ho : OwnB w bm (MK.map U32) 64) (hby : BytesAt w a bs) :
    Calls Tryd.prog 19 [.pointer (some ⟨bm, 0, none⟩), .slice a bs.length cap].toArray w (fun e w' => e = .returned (.agg ((MSUM bs).map U8).toArray) ∧ Grow w w') := by
  have hGF : BOk Gt (pl w) := gt_low.plain hw
  refine calls_of_X (G := Gt) Tryd.func19 rfl rfl (Hp (pl w) []) (hp_refl (pl w) trivial rides_true) (good_hp hGF) ?_
  refine xs_plain (E := EE [30]) ?_
  refine lx_allocr 4 hGF zv55 rfl rfl ?_
  intro b4
  refine lx_nil ?_
  refine xs_plain (E := EE [30]) ?_
  refine lx_move rfl rfl rfl ?_
  refine lx_nilc rfl rfl rfl ?_
  refine lx_fak 0 rfl Tryd.underlying64 rfl Tryd.sizeOf61 (by decide) rfl rfl rfl ?_
  refine lx_loadr rfl Tryd.isAgg61 Tryd.sizeOf61 (cs := IV.map U32) rfl (hp_oldrange (B := pl w) (own_range ho (fun j v hv => by rw [Nat.zero_add]; show (MK.map U32)[j]? = some v; rw [MK, List.map_append, List.getElem?_append_left (by rcases Nat.lt_or_ge j (IV.map U32).length with h | h; exact h; rw [List.getElem?_eq_none h] at hv; cases hv)]; exact hv)) (fun h => h)) rfl rfl ?_
  refine lx_allocr 5 hGF zv61 rfl rfl ?_
  intro b5
  refine lx_storea (vs := IV.map U32) 5 hGF rfl rfl rfl Tryd.sizeOf61 rfl (by rw [List.length_map, List.length_replicate]) (one_u32 _) rfl ?_
  refine lx_nil ?_
  refine xs_plain (E := EE [30]) ?_
  refine lx_move rfl rfl rfl ?_
  refine lx_callE rfl rfl ent30 rfl rfl (fun w' hw' => (pad_calls _ _ bs hl w' (hGF.g _ _ _ hw') (hby.grow (hp_below hw'))).mono fun e w'' h => ?_)
  obtain ⟨sv, rfl, hg, hcl⟩ := h
  rcases hcl with ⟨h0, _⟩ | ⟨b6, c, cap6, rfl, hb6, hob, hcc, hle, htk⟩
  · exact absurd (congrArg List.length h0) (by rw [PAD, PE_len]; simp)
  have hm64 := pad_mod bs
  have hpl : (PAD bs).length ≤ bs.length + 200 := by rw [PAD, PE_len]; unfold nz; omega
  rw [show MSUM bs = OD (RK (PAD bs) ((PAD bs).length / 64)) 32 from rfl]
  generalize PAD bs = p at hle htk hm64 hpl ⊢
  refine ⟨_, _, rfl, good_hp hGF, hw'.news rides_true hg [(6, b6, c, 5)] ?_ inj_one, ?_⟩
  · intro n' b' c' t' hl
    rcases lkB_cons hl with ⟨_, e⟩ | ⟨_, hl⟩
    · cases e; exact ⟨hb6, hob⟩
    · cases hl
  obtain ⟨tail, rfl⟩ : ∃ tail, c = p.map U8 ++ tail := ⟨c.drop p.length, by rw [← htk, List.take_append_drop]⟩
  clear hw' hg hb6 hob hcc htk
  refine lx_assign rfl rfl rfl ?_
  refine lx_nil ?_
  refine x_seq ?_
  refine xs_plain (E := EE [30]) ?_
  refine lx_assign rfl rfl rfl ?_
  refine lx_nil ?_
  refine x_block ?_
  refine x_for (ι := { k : Nat // 64 * k ≤ p.length }) (fun x => [(0, .pointer (some ⟨bm, 0, none⟩)), (4, .pointer (some ⟨b4, 0, none⟩)), (5, .pointer (some ⟨b5, 0, none⟩)), (6, .slice (some ⟨b6, 0, none⟩) p.length cap6), (7, I ((64 * x.1 : Nat) : Int))]) (fun x => [(4, b4, (List.replicate 32 0#8).map U8, 55), (6, b6, p.map U8 ++ tail, 5), (5, b5, (RK p x.1).map U32, 61)]) (fun x => p.length - x.1) ⟨0, by omega⟩ hGF ⟨rfl, rfl, rfl, rfl, rfl, trivial⟩ ⟨rfl, rfl, rfl, trivial⟩ ?_
  rintro ⟨k, hk⟩
  dsimp only
  refine x_seq ?_
  refine xs_plain (E := EE [30]) ?_
  refine lx_move rfl rfl rfl ?_
  refine lx_move rfl rfl rfl ?_
  refine lx_len rfl (fun _ => len_slice Tryd.underlying22 _ _ _ _) rfl rfl ?_
  refine lx_bin rfl rfl (fun _ => rfl) (fun _ => bin_lss_i _ _ _) rfl rfl ?_
  refine lx_nil ?_
  refine x_if rfl (fun hc => ?_) (fun hc => ?_)
  · simp only [decide_eq_true_eq] at hc
    have hk64 : 64 * k + 64 ≤ p.length := by omega
    refine x_skip ?_
    refine x_seq ?_
    refine x_block ?_
    refine xs_plain (E := EE [30]) ?_
    refine lx_allocr 8 hGF zv62 rfl rfl ?_
    intro b8
    refine lx_nil ?_
    refine x_seq ?_
    refine xs_plain (E := EE [30]) ?_
    refine lx_assign rfl rfl rfl ?_
    refine lx_nil ?_
    refine x_block ?_
    refine x_for (ι := { i : Nat // i ≤ 16 }) (fun x => [(0, .pointer (some ⟨bm, 0, none⟩)), (4, .pointer (some ⟨b4, 0, none⟩)), (5, .pointer (some ⟨b5, 0, none⟩)), (6, .slice (some ⟨b6, 0, none⟩) p.length cap6), (7, I ((64 * k : Nat) : Int)), (8, .pointer (some ⟨b8, 0, none⟩)), (9, I (x.1 : Int))]) (fun x => [(4, b4, (List.replicate 32 0#8).map U8, 55), (6, b6, p.map U8 ++ tail, 5), (5, b5, (RK p k).map U32, 61), (8, b8, (V1 p (64 * k) x.1).map U32, 62)]) (fun x => 16 - x.1) ⟨0, by omega⟩ hGF ⟨rfl, rfl, rfl, rfl, rfl, rfl, rfl, trivial⟩ ⟨rfl, rfl, rfl, rfl, trivial⟩ ?_
    rintro ⟨i, hi⟩
    dsimp only
    refine x_seq ?_
    refine xs_plain (E := EE [30]) ?_
    refine lx_move rfl rfl rfl ?_
    refine lx_bin rfl rfl (fun _ => rfl) (fun _ => bin_lss_i _ _ _) rfl rfl ?_
    refine lx_nil ?_
    refine x_if rfl (fun hc => ?_) (fun hc => ?_)
    · simp only [decide_eq_true_eq] at hc
      refine x_skip ?_
      refine x_seq ?_
      refine x_block ?_
      refine xs_plain (E := EE [30]) ?_
      refine lx_assign rfl rfl rfl ?_
      refine lx_nil ?_
      refine x_block ?_
      refine x_for (ι := { m : Nat // m ≤ 4 }) (fun x => [(0, .pointer (some ⟨bm, 0, none⟩)), (4, .pointer (some ⟨b4, 0, none⟩)), (5, .pointer (some ⟨b5, 0, none⟩)), (6, .slice (some ⟨b6, 0, none⟩) p.length cap6), (7, I ((64 * k : Nat) : Int)), (8, .pointer (some ⟨b8, 0, none⟩)), (9, I (i : Int)), (10, I (x.1 : Int))]) (fun x => [(4, b4, (List.replicate 32 0#8).map U8, 55), (6, b6, p.map U8 ++ tail, 5), (5, b5, (RK p k).map U32, 61), (8, b8, ((V1 p (64 * k) i).set i (wk p (64 * k + 4 * i) ((V1 p (64 * k) i).getD i 0) x.1)).map U32, 62)]) (fun x => 4 - x.1) ⟨0, by omega⟩ hGF ⟨rfl, rfl, rfl, rfl, rfl, rfl, rfl, rfl, trivial⟩ ⟨rfl, rfl, rfl, congrArg (fun l => some (b8, List.map U32 l, 62)) (set_same _ i (by rw [V1_len]; omega)), trivial⟩ ?_
      rintro ⟨m, hm⟩
      dsimp only
      refine x_seq ?_
      refine xs_plain (E := EE [30]) ?_
      refine lx_move rfl rfl rfl ?_
      refine lx_bin rfl rfl (fun _ => rfl) (fun _ => bin_lss_i _ _ _) rfl rfl ?_
      refine lx_nil ?_
      refine x_if rfl (fun hc => ?_) (fun hc => ?_)
      · simp only [decide_eq_true_eq] at hc
        have hq : 64 * k + 4 * i + m < p.length := by omega
        refine x_skip ?_
        refine x_seq ?_
        refine x_block ?_
        refine x_drawn (E := EE [30]) mixed (by kernel_rfl) (by kernel_rfl) (by kernel_rfl) ?_
        refine lx_move rfl rfl rfl ?_
        refine lx_move rfl rfl rfl ?_
        refine lx_ia0 (i) rfl rfl Tryd.underlying62 Tryd.sizeOf60 (by omega) (by omega) rfl rfl ?_
        refine lx_loadm 8 U32 0 rfl rfl Tryd.isAgg60 (by rw [List.length_set, V1_len]; omega) rfl rfl ?_
        rw [getD_set _ _ _ (by rw [V1_len]; omega)]
        refine lx_bin rfl rfl (fun _ => rfl) (fun _ => bin_shl_u32 _ _ _) rfl rfl ?_
        refine lx_move rfl rfl rfl ?_
        refine lx_move rfl rfl rfl ?_
        refine lx_move rfl rfl rfl ?_
        refine lx_bin rfl rfl (fun _ => rfl) (fun _ => bin_mul_i _ _ _ (by unfold inI; omega)) rfl rfl ?_
        refine lx_bin rfl rfl (fun _ => rfl) (fun _ => bin_add_i _ _ _ (by unfold inI; omega)) rfl rfl ?_
        refine lx_move rfl rfl rfl ?_
        refine lx_bin rfl rfl (fun _ => rfl) (fun _ => bin_add_i _ _ _ (by unfold inI; omega)) rfl rfl ?_
        refine lx_is1 (64 * k + 4 * i + m) rfl rfl Tryd.underlying22 Tryd.sizeOf5 (by omega) hq rfl rfl ?_
        rw [Nat.zero_add]
        refine lx_loadl 6 rfl rfl (get_front p tail (64 * k + 4 * i + m) hq) Tryd.isAgg5 rfl rfl ?_
        refine lx_conv rfl rfl (fun _ => conv_u8_u32 Tryd.underlying5 Tryd.underlying60 _) rfl rfl ?_
        refine lx_bin rfl rfl (fun _ => rfl) (fun _ => bin_or_u32 _ _ _) rfl rfl ?_
        refine lx_ia0 (i) rfl rfl Tryd.underlying62 Tryd.sizeOf60 (by omega) (by omega) rfl rfl ?_
        refine lx_storem 8 U32 hGF rfl rfl rfl Tryd.sizeOf60 rfl (by rw [List.length_set, V1_len]; omega) rfl ?_
        rw [List.set_set]
        refine lx_nil ?_
        refine x_plain (E := EE [30]) ?_
        refine lx_move rfl rfl rfl ?_
        refine lx_bin rfl rfl (fun _ => rfl) (fun _ => bin_add_i _ _ _ (by unfold inI; omega)) rfl rfl ?_
        refine lx_assign rfl rfl rfl ?_
        refine lx_nil ?_
        repeat (refine kblk_n ?_)
        refine kseq_n ?_
        exact ⟨rfl, ⟨m + 1, by omega⟩, _, by show 4 - (m + 1) < 4 - m; omega, rfl, ⟨rfl, rfl, rfl, rfl, rfl, rfl, rfl, rfl, trivial⟩, ⟨rfl, rfl, rfl, rfl, trivial⟩⟩
      · obtain rfl : m = 4 := by simp at hc; omega
        refine x_exit ?_
        refine x_plain (E := EE [30]) ?_
        refine lx_move rfl rfl rfl ?_
        refine lx_bin rfl rfl (fun _ => rfl) (fun _ => bin_add_i _ _ _ (by unfold inI; omega)) rfl rfl ?_
        refine lx_assign rfl rfl rfl ?_
        refine lx_nil ?_
        repeat (refine kblk_n ?_)
        refine kseq_n ?_
        exact ⟨rfl, ⟨i + 1, by omega⟩, _, by show 16 - (i + 1) < 16 - i; omega, rfl, ⟨rfl, rfl, rfl, rfl, rfl, rfl, rfl, trivial⟩, ⟨rfl, rfl, rfl, rfl, trivial⟩⟩
    · obtain rfl : i = 16 := by simp at hc; omega
      refine x_exit ?_
      refine x_seq ?_
      refine xs_plain (E := EE [30]) ?_
      refine lx_assign rfl rfl rfl ?_
      refine lx_nil ?_
      refine x_block ?_
      refine x_for (ι := { j : Nat // j ≤ 48 }) (fun x => [(0, .pointer (some ⟨bm, 0, none⟩)), (4, .pointer (some ⟨b4, 0, none⟩)), (5, .pointer (some ⟨b5, 0, none⟩)), (6, .slice (some ⟨b6, 0, none⟩) p.length cap6), (7, I ((64 * k : Nat) : Int)), (8, .pointer (some ⟨b8, 0, none⟩)), (11, I ((16 + x.1 : Nat) : Int))]) (fun x => [(4, b4, (List.replicate 32 0#8).map U8, 55), (6, b6, p.map U8 ++ tail, 5), (5, b5, (RK p k).map U32, 61), (8, b8, (V2 p (64 * k) x.1).map U32, 62)]) (fun x => 48 - x.1) ⟨0, by omega⟩ hGF ⟨rfl, rfl, rfl, rfl, rfl, rfl, rfl, trivial⟩ ⟨rfl, rfl, rfl, rfl, trivial⟩ ?_
      rintro ⟨j, hj⟩
      dsimp only
      refine x_seq ?_
      refine xs_plain (E := EE [30]) ?_
      refine lx_move rfl rfl rfl ?_
      refine lx_bin rfl rfl (fun _ => rfl) (fun _ => bin_lss_i _ _ _) rfl rfl ?_
      refine lx_nil ?_
      refine x_if rfl (fun hc => ?_) (fun hc => ?_)
      · simp only [decide_eq_true_eq] at hc
        refine x_skip ?_
        refine x_seq ?_
        refine x_block ?_
        refine xs_drawn (E := EE [30]) mixed (by kernel_rfl) (by kernel_rfl) (by kernel_rfl) ?_
        refine lx_move rfl rfl rfl ?_
        refine lx_bin rfl rfl (fun _ => rfl) (fun _ => bin_sub_i _ _ _ (by unfold inI; omega)) rfl rfl ?_
        refine lx_ia0 (((16 + j) - 15)) rfl rfl Tryd.underlying62 Tryd.sizeOf60 (by omega) (by omega) rfl rfl ?_
        refine lx_loadm 8 U32 0 rfl rfl Tryd.isAgg60 (by rw [V2_len]; omega) rfl rfl ?_
        refine lx_move rfl rfl rfl ?_
        refine lx_bin rfl rfl (fun _ => rfl) (fun _ => bin_sub_i _ _ _ (by unfold inI; omega)) rfl rfl ?_
        refine lx_ia0 (((16 + j) - 2)) rfl rfl Tryd.underlying62 Tryd.sizeOf60 (by omega) (by omega) rfl rfl ?_
        refine lx_loadm 8 U32 0 rfl rfl Tryd.isAgg60 (by rw [V2_len]; omega) rfl rfl ?_
        refine lx_assign rfl rfl rfl ?_
        refine lx_assign rfl rfl rfl ?_
        refine lx_nil ?_
        refine x_drawn (E := EE [30]) mixed (by kernel_rfl) (by kernel_rfl) (by kernel_rfl) ?_
        refine lx_move rfl rfl rfl ?_
        refine lx_move rfl rfl rfl ?_
        refine lx_bin rfl rfl (fun _ => rfl) (fun _ => bin_sub_i _ _ _ (by unfold inI; omega)) rfl rfl ?_
        refine lx_ia0 (((16 + j) - 16)) rfl rfl Tryd.underlying62 Tryd.sizeOf60 (by omega) (by omega) rfl rfl ?_
        refine lx_loadm 8 U32 0 rfl rfl Tryd.isAgg60 (by rw [V2_len]; omega) rfl rfl ?_
        refine lx_move rfl rfl rfl ?_
        refine lx_call rfl rfl ent31 (turn_pure _ _ (by omega) (by omega)) rfl rfl ?_
        refine lx_move rfl rfl rfl ?_
        refine lx_call rfl rfl ent31 (turn_pure _ _ (by omega) (by omega)) rfl rfl ?_
        refine lx_bin rfl rfl (fun _ => rfl) (fun _ => bin_xor_u32 _ _ _) rfl rfl ?_
        refine lx_move rfl rfl rfl ?_
        refine lx_bin rfl rfl (fun _ => rfl) (fun _ => bin_shr_u32 _ _ _) rfl rfl ?_
        refine lx_bin rfl rfl (fun _ => rfl) (fun _ => bin_xor_u32 _ _ _) rfl rfl ?_
        refine lx_bin rfl rfl (fun _ => rfl) (fun _ => bin_add_u32 _ _ _) rfl rfl ?_
        refine lx_move rfl rfl rfl ?_
        refine lx_bin rfl rfl (fun _ => rfl) (fun _ => bin_sub_i _ _ _ (by unfold inI; omega)) rfl rfl ?_
        refine lx_ia0 (((16 + j) - 7)) rfl rfl Tryd.underlying62 Tryd.sizeOf60 (by omega) (by omega) rfl rfl ?_
        refine lx_loadm 8 U32 0 rfl rfl Tryd.isAgg60 (by rw [V2_len]; omega) rfl rfl ?_
        refine lx_bin rfl rfl (fun _ => rfl) (fun _ => bin_add_u32 _ _ _) rfl rfl ?_
        refine lx_move rfl rfl rfl ?_
        refine lx_call rfl rfl ent31 (turn_pure _ _ (by omega) (by omega)) rfl rfl ?_
        refine lx_move rfl rfl rfl ?_
        refine lx_call rfl rfl ent31 (turn_pure _ _ (by omega) (by omega)) rfl rfl ?_
        refine lx_bin rfl rfl (fun _ => rfl) (fun _ => bin_xor_u32 _ _ _) rfl rfl ?_
        refine lx_move rfl rfl rfl ?_
        refine lx_bin rfl rfl (fun _ => rfl) (fun _ => bin_shr_u32 _ _ _) rfl rfl ?_
        refine lx_bin rfl rfl (fun _ => rfl) (fun _ => bin_xor_u32 _ _ _) rfl rfl ?_
        refine lx_bin rfl rfl (fun _ => rfl) (fun _ => bin_add_u32 _ _ _) rfl rfl ?_
        refine lx_ia0 ((16 + j)) rfl rfl Tryd.underlying62 Tryd.sizeOf60 (by omega) (by omega) rfl rfl ?_
        refine lx_storem 8 U32 hGF rfl rfl rfl Tryd.sizeOf60 rfl (by rw [V2_len]; omega) rfl ?_
        refine lx_nil ?_
        refine x_plain (E := EE [30]) ?_
        refine lx_move rfl rfl rfl ?_
        refine lx_bin rfl rfl (fun _ => rfl) (fun _ => bin_add_i _ _ _ (by unfold inI; omega)) rfl rfl ?_
        refine lx_assign rfl rfl rfl ?_
        refine lx_nil ?_
        repeat (refine kblk_n ?_)
        refine kseq_n ?_
        exact ⟨rfl, ⟨j + 1, by omega⟩, _, by show 48 - (j + 1) < 48 - j; omega, rfl, ⟨rfl, rfl, rfl, rfl, rfl, rfl, rfl, trivial⟩, ⟨rfl, rfl, rfl, rfl, trivial⟩⟩
      · obtain rfl : j = 48 := by simp at hc; omega
        refine x_exit ?_
        refine xs_plain (E := EE [30]) ?_
        refine lx_loada 5 rfl rfl Tryd.isAgg61 Tryd.sizeOf61 (by rw [List.length_map, RK_len]) rfl rfl ?_
        refine lx_allocr 14 hGF zv61 rfl rfl ?_
        intro b14
        refine lx_storea 14 hGF rfl rfl rfl Tryd.sizeOf61 (by rw [List.length_map, RK_len p k]) (by rw [List.length_map, List.length_replicate]) (one_u32 _) rfl ?_
        refine lx_nil ?_
        refine x_seq ?_
        refine xs_plain (E := EE [30]) ?_
        refine lx_assign rfl rfl rfl ?_
        refine lx_nil ?_
        refine x_block ?_
        refine x_for (ι := { r : Nat // r ≤ 64 }) (fun x => [(0, .pointer (some ⟨bm, 0, none⟩)), (4, .pointer (some ⟨b4, 0, none⟩)), (5, .pointer (some ⟨b5, 0, none⟩)), (6, .slice (some ⟨b6, 0, none⟩) p.length cap6), (7, I ((64 * k : Nat) : Int)), (8, .pointer (some ⟨b8, 0, none⟩)), (14, .pointer (some ⟨b14, 0, none⟩)), (15, I (x.1 : Int))]) (fun x => [(4, b4, (List.replicate 32 0#8).map U8, 55), (6, b6, p.map U8 ++ tail, 5), (5, b5, (RK p k).map U32, 61), (8, b8, (V2 p (64 * k) 48).map U32, 62), (14, b14, (RRs (RK p k) (V2 p (64 * k) 48) x.1).map U32, 61)]) (fun x => 64 - x.1) ⟨0, by omega⟩ hGF ⟨rfl, rfl, rfl, rfl, rfl, rfl, rfl, rfl, trivial⟩ ⟨rfl, rfl, rfl, rfl, rfl, trivial⟩ ?_
        rintro ⟨r, hr⟩
        dsimp only
        refine x_seq ?_
        refine xs_plain (E := EE [30]) ?_
        refine lx_move rfl rfl rfl ?_
        refine lx_bin rfl rfl (fun _ => rfl) (fun _ => bin_lss_i _ _ _) rfl rfl ?_
        refine lx_nil ?_
        refine x_if rfl (fun hc => ?_) (fun hc => ?_)
        · simp only [decide_eq_true_eq] at hc
          refine x_skip ?_
          refine x_seq ?_
          refine x_block ?_
          refine xs_drawn (E := EE [30]) mixed (by kernel_rfl) (by kernel_rfl) (by kernel_rfl) ?_
          refine lx_ia0 (4) rfl rfl Tryd.underlying61 Tryd.sizeOf60 (by omega) (by omega) rfl rfl ?_
          refine lx_loadm 14 U32 0 rfl rfl Tryd.isAgg60 (by rw [RRs_len _ _ (RK_len p k)]; omega) rfl rfl ?_
          refine lx_ia0 (0) rfl rfl Tryd.underlying61 Tryd.sizeOf60 (by omega) (by omega) rfl rfl ?_
          refine lx_loadm 14 U32 0 rfl rfl Tryd.isAgg60 (by rw [RRs_len _ _ (RK_len p k)]; omega) rfl rfl ?_
          refine lx_assign rfl rfl rfl ?_
          refine lx_assign rfl rfl rfl ?_
          refine lx_nil ?_
          refine xs_drawn (E := EE [30]) mixed (by kernel_rfl) (by kernel_rfl) (by kernel_rfl) ?_
          refine lx_ia0 (7) rfl rfl Tryd.underlying61 Tryd.sizeOf60 (by omega) (by omega) rfl rfl ?_
          refine lx_loadm 14 U32 0 rfl rfl Tryd.isAgg60 (by rw [RRs_len _ _ (RK_len p k)]; omega) rfl rfl ?_
          refine lx_move rfl rfl rfl ?_
          refine lx_call rfl rfl ent31 (turn_pure _ _ (by omega) (by omega)) rfl rfl ?_
          refine lx_move rfl rfl rfl ?_
          refine lx_call rfl rfl ent31 (turn_pure _ _ (by omega) (by omega)) rfl rfl ?_
          refine lx_bin rfl rfl (fun _ => rfl) (fun _ => bin_xor_u32 _ _ _) rfl rfl ?_
          refine lx_move rfl rfl rfl ?_
          refine lx_call rfl rfl ent31 (turn_pure _ _ (by omega) (by omega)) rfl rfl ?_
          refine lx_bin rfl rfl (fun _ => rfl) (fun _ => bin_xor_u32 _ _ _) rfl rfl ?_
          refine lx_bin rfl rfl (fun _ => rfl) (fun _ => bin_add_u32 _ _ _) rfl rfl ?_
          refine lx_move rfl rfl rfl ?_
          refine lx_ia0 (5) rfl rfl Tryd.underlying61 Tryd.sizeOf60 (by omega) (by omega) rfl rfl ?_
          refine lx_loadm 14 U32 0 rfl rfl Tryd.isAgg60 (by rw [RRs_len _ _ (RK_len p k)]; omega) rfl rfl ?_
          refine lx_bin rfl rfl (fun _ => rfl) (fun _ => bin_and_u32 _ _ _) rfl rfl ?_
          refine lx_move rfl rfl rfl ?_
          refine lx_un rfl (fun _ => un_xor_u32 _) rfl rfl ?_
          refine lx_ia0 (6) rfl rfl Tryd.underlying61 Tryd.sizeOf60 (by omega) (by omega) rfl rfl ?_
          refine lx_loadm 14 U32 0 rfl rfl Tryd.isAgg60 (by rw [RRs_len _ _ (RK_len p k)]; omega) rfl rfl ?_
          refine lx_bin rfl rfl (fun _ => rfl) (fun _ => bin_and_u32 _ _ _) rfl rfl ?_
          refine lx_bin rfl rfl (fun _ => rfl) (fun _ => bin_xor_u32 _ _ _) rfl rfl ?_
          refine lx_bin rfl rfl (fun _ => rfl) (fun _ => bin_add_u32 _ _ _) rfl rfl ?_
          refine lx_move rfl rfl rfl ?_
          refine lx_move rfl rfl rfl ?_
          refine lx_nilc rfl rfl rfl ?_
          refine lx_fak 8 rfl Tryd.underlying64 rfl Tryd.sizeOf62 (by decide) rfl rfl rfl ?_
          refine lx_ia1 (r) rfl rfl Tryd.underlying62 Tryd.sizeOf60 (by omega) (by omega) rfl rfl ?_
          refine lx_load rfl Tryd.isAgg60 (hp_old (B := pl w) ((ho.cell (8 + r)).trans (gm U32 MK 0 (8 + r) (by rw [MK_len]; omega))) (fun h => h)) rfl rfl ?_
          refine lx_bin rfl rfl (fun _ => rfl) (fun _ => bin_add_u32 _ _ _) rfl rfl ?_
          refine lx_move rfl rfl rfl ?_
          refine lx_ia0 (r) rfl rfl Tryd.underlying62 Tryd.sizeOf60 (by omega) (by omega) rfl rfl ?_
          refine lx_loadm 8 U32 0 rfl rfl Tryd.isAgg60 (by rw [V2_len]; omega) rfl rfl ?_
          refine lx_bin rfl rfl (fun _ => rfl) (fun _ => bin_add_u32 _ _ _) rfl rfl ?_
          refine lx_assign rfl rfl rfl ?_
          refine lx_nil ?_
          refine xs_drawn (E := EE [30]) mixed (by kernel_rfl) (by kernel_rfl) (by kernel_rfl) ?_
          refine lx_move rfl rfl rfl ?_
          refine lx_call rfl rfl ent31 (turn_pure _ _ (by omega) (by omega)) rfl rfl ?_
          refine lx_move rfl rfl rfl ?_
          refine lx_call rfl rfl ent31 (turn_pure _ _ (by omega) (by omega)) rfl rfl ?_
          refine lx_bin rfl rfl (fun _ => rfl) (fun _ => bin_xor_u32 _ _ _) rfl rfl ?_
          refine lx_move rfl rfl rfl ?_
          refine lx_call rfl rfl ent31 (turn_pure _ _ (by omega) (by omega)) rfl rfl ?_
          refine lx_bin rfl rfl (fun _ => rfl) (fun _ => bin_xor_u32 _ _ _) rfl rfl ?_
          refine lx_move rfl rfl rfl ?_
          refine lx_ia0 (1) rfl rfl Tryd.underlying61 Tryd.sizeOf60 (by omega) (by omega) rfl rfl ?_
          refine lx_loadm 14 U32 0 rfl rfl Tryd.isAgg60 (by rw [RRs_len _ _ (RK_len p k)]; omega) rfl rfl ?_
          refine lx_bin rfl rfl (fun _ => rfl) (fun _ => bin_and_u32 _ _ _) rfl rfl ?_
          refine lx_move rfl rfl rfl ?_
          refine lx_ia0 (2) rfl rfl Tryd.underlying61 Tryd.sizeOf60 (by omega) (by omega) rfl rfl ?_
          refine lx_loadm 14 U32 0 rfl rfl Tryd.isAgg60 (by rw [RRs_len _ _ (RK_len p k)]; omega) rfl rfl ?_
          refine lx_bin rfl rfl (fun _ => rfl) (fun _ => bin_and_u32 _ _ _) rfl rfl ?_
          refine lx_bin rfl rfl (fun _ => rfl) (fun _ => bin_xor_u32 _ _ _) rfl rfl ?_
          refine lx_ia0 (1) rfl rfl Tryd.underlying61 Tryd.sizeOf60 (by omega) (by omega) rfl rfl ?_
          refine lx_loadm 14 U32 0 rfl rfl Tryd.isAgg60 (by rw [RRs_len _ _ (RK_len p k)]; omega) rfl rfl ?_
          refine lx_ia0 (2) rfl rfl Tryd.underlying61 Tryd.sizeOf60 (by omega) (by omega) rfl rfl ?_
          refine lx_loadm 14 U32 0 rfl rfl Tryd.isAgg60 (by rw [RRs_len _ _ (RK_len p k)]; omega) rfl rfl ?_
          refine lx_bin rfl rfl (fun _ => rfl) (fun _ => bin_and_u32 _ _ _) rfl rfl ?_
          refine lx_bin rfl rfl (fun _ => rfl) (fun _ => bin_xor_u32 _ _ _) rfl rfl ?_
          refine lx_bin rfl rfl (fun _ => rfl) (fun _ => bin_add_u32 _ _ _) rfl rfl ?_
          refine lx_assign rfl rfl rfl ?_
          refine lx_nil ?_
          refine x_plain (E := EE [30]) ?_
          refine lx_move rfl rfl rfl ?_
          refine lx_move rfl rfl rfl ?_
          refine lx_bin rfl rfl (fun _ => rfl) (fun _ => bin_add_u32 _ _ _) rfl rfl ?_
          refine lx_ia0 (0) rfl rfl Tryd.underlying61 Tryd.sizeOf60 (by omega) (by omega) rfl rfl ?_
          refine lx_loadm 14 U32 0 rfl rfl Tryd.isAgg60 (by rw [RRs_len _ _ (RK_len p k)]; omega) rfl rfl ?_
          refine lx_ia0 (1) rfl rfl Tryd.underlying61 Tryd.sizeOf60 (by omega) (by omega) rfl rfl ?_
          refine lx_loadm 14 U32 0 rfl rfl Tryd.isAgg60 (by rw [RRs_len _ _ (RK_len p k)]; omega) rfl rfl ?_
          refine lx_ia0 (2) rfl rfl Tryd.underlying61 Tryd.sizeOf60 (by omega) (by omega) rfl rfl ?_
          refine lx_loadm 14 U32 0 rfl rfl Tryd.isAgg60 (by rw [RRs_len _ _ (RK_len p k)]; omega) rfl rfl ?_
          refine lx_ia0 (3) rfl rfl Tryd.underlying61 Tryd.sizeOf60 (by omega) (by omega) rfl rfl ?_
          refine lx_loadm 14 U32 0 rfl rfl Tryd.isAgg60 (by rw [RRs_len _ _ (RK_len p k)]; omega) rfl rfl ?_
          refine lx_move rfl rfl rfl ?_
          refine lx_bin rfl rfl (fun _ => rfl) (fun _ => bin_add_u32 _ _ _) rfl rfl ?_
          refine lx_ia0 (4) rfl rfl Tryd.underlying61 Tryd.sizeOf60 (by omega) (by omega) rfl rfl ?_
          refine lx_loadm 14 U32 0 rfl rfl Tryd.isAgg60 (by rw [RRs_len _ _ (RK_len p k)]; omega) rfl rfl ?_
          refine lx_ia0 (5) rfl rfl Tryd.underlying61 Tryd.sizeOf60 (by omega) (by omega) rfl rfl ?_
          refine lx_loadm 14 U32 0 rfl rfl Tryd.isAgg60 (by rw [RRs_len _ _ (RK_len p k)]; omega) rfl rfl ?_
          refine lx_ia0 (6) rfl rfl Tryd.underlying61 Tryd.sizeOf60 (by omega) (by omega) rfl rfl ?_
          refine lx_loadm 14 U32 0 rfl rfl Tryd.isAgg60 (by rw [RRs_len _ _ (RK_len p k)]; omega) rfl rfl ?_
          refine lx_buildr (n := 8) rfl rfl Tryd.underlying61 Tryd.sizeOf60 Tryd.zeroValue61 rfl rfl rfl rfl ?_
          refine lx_storea 14 hGF rfl rfl rfl Tryd.sizeOf61 rfl (by rw [List.length_map, RRs_len _ _ (RK_len p k)]) rfl rfl ?_
          refine lx_nil ?_
          refine x_plain (E := EE [30]) ?_
          refine lx_move rfl rfl rfl ?_
          refine lx_bin rfl rfl (fun _ => rfl) (fun _ => bin_add_i _ _ _ (by unfold inI; omega)) rfl rfl ?_
          refine lx_assign rfl rfl rfl ?_
          refine lx_nil ?_
          repeat (refine kblk_n ?_)
          refine kseq_n ?_
          exact ⟨rfl, ⟨r + 1, by omega⟩, _, by show 64 - (r + 1) < 64 - r; omega, rfl, ⟨rfl, rfl, rfl, rfl, rfl, rfl, rfl, rfl, trivial⟩, ⟨rfl, rfl, rfl, rfl, rfl, trivial⟩⟩
        · obtain rfl : r = 64 := by simp at hc; omega
          refine x_exit ?_
          refine xs_plain (E := EE [30]) ?_
          refine lx_assign rfl rfl rfl ?_
          refine lx_nil ?_
          refine x_block ?_
          refine x_for (ι := { t : Nat // t ≤ 8 }) (fun x => [(0, .pointer (some ⟨bm, 0, none⟩)), (4, .pointer (some ⟨b4, 0, none⟩)), (5, .pointer (some ⟨b5, 0, none⟩)), (6, .slice (some ⟨b6, 0, none⟩) p.length cap6), (7, I ((64 * k : Nat) : Int)), (8, .pointer (some ⟨b8, 0, none⟩)), (14, .pointer (some ⟨b14, 0, none⟩)), (20, I (x.1 : Int))]) (fun x => [(4, b4, (List.replicate 32 0#8).map U8, 55), (6, b6, p.map U8 ++ tail, 5), (5, b5, (HAs (RK p k) (RRs (RK p k) (V2 p (64 * k) 48) 64) x.1).map U32, 61), (14, b14, (RRs (RK p k) (V2 p (64 * k) 48) 64).map U32, 61)]) (fun x => 8 - x.1) ⟨0, by omega⟩ hGF ⟨rfl, rfl, rfl, rfl, rfl, rfl, rfl, rfl, trivial⟩ ⟨rfl, rfl, rfl, rfl, trivial⟩ ?_
          rintro ⟨t, ht⟩
          dsimp only
          refine x_seq ?_
          refine xs_plain (E := EE [30]) ?_
          refine lx_move rfl rfl rfl ?_
          refine lx_bin rfl rfl (fun _ => rfl) (fun _ => bin_lss_i _ _ _) rfl rfl ?_
          refine lx_nil ?_
          refine x_if rfl (fun hc => ?_) (fun hc => ?_)
          · simp only [decide_eq_true_eq] at hc
            refine x_skip ?_
            refine x_seq ?_
            refine x_block ?_
            refine x_drawn (E := EE [30]) mixed (by kernel_rfl) (by kernel_rfl) (by kernel_rfl) ?_
            refine lx_move rfl rfl rfl ?_
            refine lx_ia0 (t) rfl rfl Tryd.underlying61 Tryd.sizeOf60 (by omega) (by omega) rfl rfl ?_
            refine lx_loadm 5 U32 0 rfl rfl Tryd.isAgg60 (by rw [HAs_len, RK_len]; omega) rfl rfl ?_
            refine lx_move rfl rfl rfl ?_
            refine lx_ia0 (t) rfl rfl Tryd.underlying61 Tryd.sizeOf60 (by omega) (by omega) rfl rfl ?_
            refine lx_loadm 14 U32 0 rfl rfl Tryd.isAgg60 (by rw [RRs_len _ _ (RK_len p k)]; omega) rfl rfl ?_
            refine lx_bin rfl rfl (fun _ => rfl) (fun _ => bin_add_u32 _ _ _) rfl rfl ?_
            refine lx_ia0 (t) rfl rfl Tryd.underlying61 Tryd.sizeOf60 (by omega) (by omega) rfl rfl ?_
            refine lx_storem 5 U32 hGF rfl rfl rfl Tryd.sizeOf60 rfl (by rw [HAs_len, RK_len]; omega) rfl ?_
            refine lx_nil ?_
            refine x_plain (E := EE [30]) ?_
            refine lx_move rfl rfl rfl ?_
            refine lx_bin rfl rfl (fun _ => rfl) (fun _ => bin_add_i _ _ _ (by unfold inI; omega)) rfl rfl ?_
            refine lx_assign rfl rfl rfl ?_
            refine lx_nil ?_
            repeat (refine kblk_n ?_)
            refine kseq_n ?_
            exact ⟨rfl, ⟨t + 1, by omega⟩, _, by show 8 - (t + 1) < 8 - t; omega, rfl, ⟨rfl, rfl, rfl, rfl, rfl, rfl, rfl, rfl, trivial⟩, ⟨rfl, rfl, rfl, rfl, trivial⟩⟩
          · obtain rfl : t = 8 := by simp at hc; omega
            refine x_exit ?_
            refine x_plain (E := EE [30]) ?_
            refine lx_move rfl rfl rfl ?_
            refine lx_bin rfl rfl (fun _ => rfl) (fun _ => bin_add_i _ _ _ (by unfold inI; omega)) rfl rfl ?_
            refine lx_assign rfl rfl rfl ?_
            refine lx_nil ?_
            repeat (refine kblk_n ?_)
            refine kseq_n ?_
            exact ⟨rfl, ⟨k + 1, by omega⟩, _, by show p.length - (k + 1) < p.length - k; omega, rfl, ⟨rfl, rfl, rfl, rfl, rfl, trivial⟩, ⟨rfl, rfl, rfl, trivial⟩⟩
  · simp only [decide_eq_false_iff_not] at hc
    obtain rfl : k = p.length / 64 := by omega
    clear hc hk
    refine x_exit ?_
    refine xs_plain (E := EE [30]) ?_
    refine lx_allocr 21 hGF zv55 rfl rfl ?_
    intro b21
    refine lx_nil ?_
    refine x_seq ?_
    refine xs_plain (E := EE [30]) ?_
    refine lx_assign rfl rfl rfl ?_
    refine lx_nil ?_
    refine x_block ?_
    refine x_for (ι := { i : Nat // i ≤ 32 }) (fun x => [(4, .pointer (some ⟨b4, 0, none⟩)), (5, .pointer (some ⟨b5, 0, none⟩)), (21, .pointer (some ⟨b21, 0, none⟩)), (22, I (x.1 : Int))]) (fun x => [(4, b4, (List.replicate 32 0#8).map U8, 55), (5, b5, (RK p (p.length / 64)).map U32, 61), (21, b21, (OD (RK p (p.length / 64)) x.1).map U8, 55)]) (fun x => 32 - x.1) ⟨0, by omega⟩ hGF ⟨rfl, rfl, rfl, rfl, trivial⟩ ⟨rfl, rfl, rfl, trivial⟩ ?_
    rintro ⟨i, hi⟩
    dsimp only
    refine x_seq ?_
    refine xs_plain (E := EE [30]) ?_
    refine lx_move rfl rfl rfl ?_
    refine lx_bin rfl rfl (fun _ => rfl) (fun _ => bin_lss_i _ _ _) rfl rfl ?_
    refine lx_nil ?_
    refine x_if rfl (fun hc => ?_) (fun hc => ?_)
    · simp only [decide_eq_true_eq] at hc
      refine x_skip ?_
      refine x_seq ?_
      refine x_block ?_
      refine x_plain (E := EE [30]) ?_
      refine lx_move rfl rfl rfl ?_
      refine lx_move rfl rfl rfl ?_
      refine lx_bin (v := I ((i / 4 : Nat) : Int)) rfl rfl (fun _ => rfl) (fun _ => bin_quo_i _ _ _ (by decide) (show inI ((i / 4 : Nat) : Int) by unfold inI; omega)) rfl rfl ?_
      refine lx_ia0 ((i / 4)) rfl rfl Tryd.underlying61 Tryd.sizeOf60 (by omega) (by omega) rfl rfl ?_
      refine lx_loadm 5 U32 0 rfl rfl Tryd.isAgg60 (by rw [RK_len]; omega) rfl rfl ?_
      refine lx_move rfl rfl rfl ?_
      refine lx_bin (v := I ((i % 4 : Nat) : Int)) rfl rfl (fun _ => rfl) (fun _ => bin_rem_i _ _ _ (by decide)) rfl rfl ?_
      refine lx_bin rfl rfl (fun _ => rfl) (fun _ => bin_mul_i _ _ _ (by unfold inI; omega)) rfl rfl ?_
      refine lx_bin rfl rfl (fun _ => rfl) (fun _ => bin_sub_i _ _ _ (by unfold inI; omega)) rfl rfl ?_
      refine lx_bin rfl rfl (fun _ => rfl) (fun _ => bin_shr_i_u32 _ _ _ (by omega)) rfl rfl ?_
      refine lx_conv rfl rfl (fun _ => conv_u32_u8 Tryd.underlying60 Tryd.underlying5 _) rfl rfl ?_
      refine lx_ia0 (i) rfl rfl Tryd.underlying55 Tryd.sizeOf5 (by omega) (by omega) rfl rfl ?_
      refine lx_storem 21 U8 hGF rfl rfl rfl Tryd.sizeOf5 rfl (by rw [OD_len]; omega) rfl ?_
      refine lx_nil ?_
      refine x_plain (E := EE [30]) ?_
      refine lx_move rfl rfl rfl ?_
      refine lx_bin rfl rfl (fun _ => rfl) (fun _ => bin_add_i _ _ _ (by unfold inI; omega)) rfl rfl ?_
      refine lx_assign rfl rfl rfl ?_
      refine lx_nil ?_
      repeat (refine kblk_n ?_)
      refine kseq_n ?_
      exact ⟨rfl, ⟨i + 1, by omega⟩, _, by show 32 - (i + 1) < 32 - i; omega, rfl, ⟨rfl, rfl, rfl, rfl, trivial⟩, ⟨rfl, rfl, rfl, trivial⟩⟩
    · obtain rfl : i = 32 := by simp at hc; omega
      refine x_exit ?_
      refine xs_plain (E := EE [30]) ?_
      refine lx_loada 21 rfl rfl Tryd.isAgg55 Tryd.sizeOf55 (by rw [List.length_map, OD_len]) rfl rfl ?_
      refine lx_storea 4 hGF rfl rfl rfl Tryd.sizeOf55 (by rw [List.length_map, OD_len]) (by rw [List.length_map, List.length_replicate]) (one_u8 _) rfl ?_
      refine lx_nil ?_
      refine x_ret ?_
      repeat (first | refine kseq_ret ?_ | refine kblk_ret ?_)
      exact kret_own 4 rfl rfl rfl Tryd.isAgg55 Tryd.sizeOf55 (by rw [List.length_map, OD_len]) (fun w hw => ⟨rfl, hp_below hw⟩)
end Sh
end Go.Proofs.YtlimfhjjadbjgaaDoor

namespace Go.Proofs.YtlimfhjjadbjgaaDoor
open Go.RowKit
set_option maxRecDepth 100000

namespace Sh
theorem w4_wk (p : List (BitVec 8)) (o : Nat) : wk p o 0 4 = ((p.getD o 0).setWidth 32 <<< 24) ||| ((p.getD (o + 1) 0).setWidth 32 <<< 16) ||| ((p.getD (o + 2) 0).setWidth 32 <<< 8) ||| (p.getD (o + 3) 0).setWidth 32 := by
  simp only [wk, BitVec.shiftLeft_or_distrib, ← BitVec.shiftLeft_add, Nat.add_zero, Nat.reduceAdd]
  simp
def bk (p : List (BitVec 8)) (k : Nat) : List (BitVec 8) := (p.drop (64 * k)).take 64
theorem bk_getD (p : List (BitVec 8)) (k i : Nat) (h : i < 64) : (bk p k).getD i 0 = p.getD (64 * k + i) 0 := by
  simp [bk, List.getD_eq_getElem?_getD, h, List.getElem?_drop]
theorem V1_zero (p : List (BitVec 8)) (q : Nat) : ∀ i j, i ≤ j → (V1 p q i).getD j 0 = 0
  | 0, j, _ => by
    simp only [V1, List.getD_eq_getElem?_getD, List.getElem?_replicate]
    split <;> rfl
  | i + 1, j, h => by
    have := V1_zero p q i j (by omega)
    rw [List.getD_eq_getElem?_getD] at this ⊢
    rw [V1, List.getElem?_set_ne (by omega)]
    exact this
theorem V1_W1 (p : List (BitVec 8)) (k : Nat) : ∀ i, i ≤ 16 → V1 p (64 * k) i = W1 (bk p k) i
  | 0, _ => rfl
  | i + 1, h => by
    rw [V1, V1_zero p _ i i (Nat.le_refl _), w4_wk, V1_W1 p k i (by omega), W1, w4, bk_getD _ _ _ (by omega), bk_getD _ _ _ (by omega), bk_getD _ _ _ (by omega), bk_getD _ _ _ (by omega)]
    rfl
theorem rot_turn (x : BitVec 32) (k : Int) (m : Nat) (h1 : (BitVec.ofInt 64 k &&& 31#64).toNat = 32 - m) (h2 : (32#64 - (BitVec.ofInt 64 k &&& 31#64)).toNat = m) : rotl x k = turn x m := by
  rw [rotl, turn, h1, h2, BitVec.or_comm]
theorem low0_r0 (x : BitVec 32) : low0 x = r0 x := by
  rw [low0, r0, rot_turn x (-7) 7 (by decide) (by decide), rot_turn x (-18) 18 (by decide) (by decide)]
theorem low1_r1 (x : BitVec 32) : low1 x = r1 x := by
  rw [low1, r1, rot_turn x (-17) 17 (by decide) (by decide), rot_turn x (-19) 19 (by decide) (by decide)]
theorem sig0_t (x : BitVec 32) : sig0 x = turn x 2 ^^^ turn x 13 ^^^ turn x 22 := by
  rw [sig0, rot_turn x (-2) 2 (by decide) (by decide), rot_turn x (-13) 13 (by decide) (by decide), rot_turn x (-22) 22 (by decide) (by decide)]
theorem sig1_t (x : BitVec 32) : sig1 x = turn x 6 ^^^ turn x 11 ^^^ turn x 25 := by
  rw [sig1, rot_turn x (-6) 6 (by decide) (by decide), rot_turn x (-11) 11 (by decide) (by decide), rot_turn x (-25) 25 (by decide) (by decide)]
theorem r5_w5 (ws : List (BitVec 32)) (i : Nat) : r5 ws i = w5 ws i := by
  rw [r5, w5, low0_r0, low1_r1]
  ac_rfl
theorem V2_W2 (p : List (BitVec 8)) (k : Nat) : ∀ j, V2 p (64 * k) j = W2 (bk p k) j
  | 0 => V1_W1 p k 16 (by omega)
  | j + 1 => by rw [V2, W2, V2_W2 p k j, r5_w5]
def toL (v : V8) : List (BitVec 32) := [v.a, v.b, v.c, v.d, v.e, v.f, v.g, v.h]
theorem rr_rnd (v : V8) (k w : BitVec 32) : rr (toL v) k w = toL (rnd v k w) := by
  have e1 : rt (toL v) k w = v.h + sig1 v.e + (v.e &&& v.f ^^^ ~~~v.e &&& v.g) + k + w := by rw [sig1_t]; rfl
  have e2 : ru (toL v) = sig0 v.a + (v.a &&& v.b ^^^ v.a &&& v.c ^^^ v.b &&& v.c) := by rw [sig0_t]; rfl
  rw [rr, e1, e2]
  rfl
theorem mk_kw (j : Nat) : MK.getD (8 + j) 0 = KW.getD j 0 := by
  rw [MK, List.getD_eq_getElem?_getD, List.getElem?_append_right (by show 8 ≤ 8 + j; omega), show 8 + j - IV.length = j from by show 8 + j - 8 = j; omega, ← List.getD_eq_getElem?_getD]
theorem toL_v8 (h : List (BitVec 32)) (hh : h.length = 8) : toL (v8 h) = h := by
  match h, hh with
  | [_, _, _, _, _, _, _, _], _ => rfl
theorem RRs_rnds (h ws : List (BitVec 32)) (hh : h.length = 8) : ∀ j, RRs h ws j = toL (rnds (v8 h) ws j)
  | 0 => (toL_v8 h hh).symm
  | j + 1 => by rw [RRs, RRs_rnds h ws hh j, rr_rnd, mk_kw, rnds]
theorem HAs_addV (h : List (BitVec 32)) (v : V8) (hh : h.length = 8) : HAs h (toL v) 8 = addV h v := by
  match h, hh with
  | [_, _, _, _, _, _, _, _], _ => rfl
theorem RK_comp (p : List (BitVec 8)) (k : Nat) : RK p (k + 1) = comp (RK p k) (bk p k) := by
  rw [RK, comp, RRs_rnds _ _ (RK_len p k), HAs_addV _ _ (RK_len p k), V2_W2]
theorem OD_DG (h : List (BitVec 32)) (hh : h.length = 8) : OD h 32 = DG h 8 := by
  match h, hh with
  | [a, b, c, d, e, f, g, i], _ =>
    have z : ∀ x : BitVec 32, x >>> (0 : Nat) = x := fun x => by simp
    simp only [OD, DG, List.replicate, List.set, List.getD, Nat.reduceDiv, Nat.reduceMod, Nat.reduceMul, Nat.reduceAdd]
    simp
theorem RK_mixK (p : List (BitVec 8)) (L : List (List (BitVec 8))) : ∀ k, k ≤ L.length → (∀ i, i < L.length → bk p i = L.getD i []) → RK p k = mixK IV L k
  | 0, _, _ => rfl
  | k + 1, h, hb => by rw [RK_comp, mixK, RK_mixK p L k (by omega) hb, hb k (by omega)]
theorem flat_len (L : List (List (BitVec 8))) (h : ∀ l ∈ L, l.length = 64) : L.flatten.length = 64 * L.length := by
  induction L with
  | nil => rfl
  | cons x r ih =>
    rw [List.flatten_cons, List.length_append, ih (fun l hl => h l (by simp [hl])), h x (by simp), List.length_cons]
    omega
theorem bk_flat (L : List (List (BitVec 8))) (h : ∀ l ∈ L, l.length = 64) : ∀ i, i < L.length → bk L.flatten i = L.getD i [] := by
  induction L with
  | nil => intro i hi; simp at hi
  | cons x r ih =>
    intro i hi
    have hx : x.length = 64 := h x (by simp)
    cases i with
    | zero => simp [bk, hx]
    | succ i =>
      have e := ih (fun l hl => h l (by simp [hl])) i (by simpa using hi)
      rw [List.getD_cons_succ, ← e, bk, bk, List.flatten_cons, show 64 * (i + 1) = x.length + 64 * i from by omega, List.drop_append, List.drop_eq_nil_of_le (by omega : x.length ≤ x.length + 64 * i), List.nil_append, Nat.add_sub_cancel_left]
theorem flat_fulls (bs : List (BitVec 8)) : ∀ m, 64 * m ≤ bs.length → ((List.range m).map fun k => (bs.drop (64 * k)).take 64).flatten = bs.take (64 * m)
  | 0, _ => by simp
  | m + 1, h => by
    rw [List.range_succ, List.map_append, List.flatten_append, flat_fulls bs m (by omega)]
    simp only [List.map_cons, List.map_nil, List.flatten_cons, List.flatten_nil, List.append_nil]
    rw [show 64 * (m + 1) = 64 * m + 64 from by omega, List.take_add]
theorem e1_eq (rs : List (BitVec 8)) (h : rs.length < 64) : e1 rs = rs ++ ([128#8] ++ List.replicate (63 - rs.length) 0#8) := by
  rw [e1, List.set_append_right _ _ (Nat.le_refl _), Nat.sub_self, show 64 - rs.length = (63 - rs.length) + 1 from by omega, List.replicate_succ]
  rfl
def b8s (n : BitVec 64) : Nat → List (BitVec 8)
  | 0 => []
  | k + 1 => b8s n k ++ [((8#64 * n) >>> (56 - 8 * (k : Int)).toNat).setWidth 8]
theorem b8s_len (n : BitVec 64) : ∀ k, (b8s n k).length = k
  | 0 => rfl
  | k + 1 => by rw [b8s, List.length_append, b8s_len n k]; rfl
theorem LB_eq (bl : List (BitVec 8)) (n : BitVec 64) (h : bl.length = 64) : ∀ k, k ≤ 8 → LB bl n k = bl.take 56 ++ (b8s n k ++ bl.drop (56 + k))
  | 0, _ => by simp [LB, b8s]
  | k + 1, hk => by
    have hd : bl.drop (56 + k) = bl[56 + k] :: bl.drop (56 + (k + 1)) := by rw [List.drop_eq_getElem_cons (by omega)]; rfl
    rw [LB, LB_eq bl n h k (by omega), hd, List.set_append_right _ _ (by simp [h]), List.set_append_right _ _ (by simp [h, b8s_len]), b8s]
    simp [h, b8s_len]
theorem PE_eq (bs : List (BitVec 8)) (n : BitVec 64) : ∀ j, j ≤ 8 → PE bs (n * 8#64) j = PD bs (nz bs) ++ b8s n j
  | 0, _ => by simp [PE, b8s]
  | j + 1, h => by
    rw [PE, PE_eq bs n j (by omega), b8s, nb, BitVec.mul_comm, show (8 * (7 - (j : Int))).toNat = (56 - 8 * (j : Int)).toNat from by omega, List.append_assoc]
theorem pad_flat (bs : List (BitVec 8)) : PAD bs = (blks bs).flatten := by
  rw [PAD, PE_eq bs _ 8 (Nat.le_refl _), blks, List.flatten_append, fulls, flat_fulls bs _ (by omega), PD]
  have hr := rest_len bs
  have hrl : (bs.drop (64 * (bs.length / 64))).length = bs.length % 64 := by rw [List.length_drop]; omega
  generalize hrs : bs.drop (64 * (bs.length / 64)) = rs at hr hrl
  have hbs : bs = bs.take (64 * (bs.length / 64)) ++ rs := by rw [← hrs, List.take_append_drop]
  generalize hn : BitVec.ofInt 64 (bs.length : Int) = n
  have key : (eblocks rs n).flatten = rs ++ ([128#8] ++ (List.replicate (nz bs) 0#8 ++ b8s n 8)) := by
    unfold eblocks
    split
    · rename_i h56
      have hz : nz bs = 55 - rs.length := by unfold nz; omega
      rw [List.flatten_cons, List.flatten_nil, List.append_nil, LB_eq _ _ (e1_len rs (by omega)) 8 (Nat.le_refl _), e1_eq rs hr, hz]
      rw [List.drop_eq_nil_of_le (by simp; omega), List.append_nil, List.take_append, List.take_of_length_le (by omega : rs.length ≤ 56)]
      rw [List.take_append, List.take_of_length_le (by simp; omega), List.take_replicate]
      simp only [List.append_assoc, List.length_cons, List.length_nil]
      rw [show min (56 - rs.length - (0 + 1)) (63 - rs.length) = 55 - rs.length from by omega]
    · rename_i h56
      have hz : nz bs = (63 - rs.length) + 56 := by unfold nz; omega
      rw [List.flatten_cons, List.flatten_cons, List.flatten_nil, List.append_nil, LB_eq _ _ (by simp) 8 (Nat.le_refl _), e1_eq rs hr, hz, ← List.replicate_append_replicate]
      simp
  rw [key]
  conv => lhs; lhs; lhs; rw [hbs]
  simp only [List.append_assoc]
theorem msum_sha (bs : List (BitVec 8)) : MSUM bs = SHA bs := by
  have hb := blks_len bs
  have hl := flat_len (blks bs) hb
  rw [MSUM, SHA, pad_flat, hl, Nat.mul_div_cancel_left _ (by decide), RK_mixK _ (blks bs) _ (Nat.le_refl _) (bk_flat _ hb), OD_DG _ (mixK_len _ _ rfl _)]
end Sh
end Go.Proofs.YtlimfhjjadbjgaaDoor
