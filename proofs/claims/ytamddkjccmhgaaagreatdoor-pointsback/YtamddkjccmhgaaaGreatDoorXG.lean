/-
  The program's points as bytes: flags, the bytes without them, what is found of a point; Encode.
  The program's Decode.
-/
import Derived.Test.YtamddkjccmhgaaaGreatDoorXF
import Derived.Test.YtamddkjccmhgaaaGreatDoorX3
namespace Go.Proofs.YtamddkjccmhgaaaGreatDoor
open Go.RowKit
set_option maxRecDepth 100000
set_option maxHeartbeats 1000000
attribute [local simp] fe_len nm_len AS_len SS_len MONT_len RM_len FRs_len BYs_len by48_len PLl TWOl ONEl N1l IVPl HFPl RTPl FL_len SP_len fe2_len SP2_len FM_len J1.GL_len J2.GL_len MK_len OR0_len

theorem ent53 : Enters Tryz.prog 53 := fun _ _ => by kernel_rfl
theorem ent37 : Enters Tryz.prog 37 := fun _ _ => by kernel_rfl
theorem ent90 : Enters Tryz.prog 90 := fun _ _ => by kernel_rfl
theorem ent35 : Enters Tryz.prog 35 := fun _ _ => by kernel_rfl
theorem ent15 : Enters Tryz.prog 15 := fun _ _ => by kernel_rfl
theorem ent18 : Enters Tryz.prog 18 := fun _ _ => by kernel_rfl
theorem ent10 : Enters Tryz.prog 10 := fun _ _ => by kernel_rfl
theorem ent16 : Enters Tryz.prog 16 := fun _ _ => by kernel_rfl
theorem ent38 : Enters Tryz.prog 38 := fun _ _ => by kernel_rfl
theorem ent56 : Enters Tryz.prog 56 := fun _ _ => by kernel_rfl
theorem flg_n (h : Bool) : Pure Tryz.prog Gt 53 [.bool false, .bool h] (U8 192#8) := by
  intro w hw
  have hGF : BOk Gt (pl w) := gt_low.plain hw
  refine calls_of_X (G := Gt) Tryz.func53 rfl rfl (Hp (pl w) []) (hp_refl (pl w) trivial rides_true) (good_hp hGF) ?_
  refine xs_plain (E := EE []) ?_
  refine lx_assign rfl rfl rfl ?_
  refine lx_nil ?_
  refine x_seq ?_
  refine x_block ?_
  refine xs_plain (E := EE []) ?_
  refine lx_move rfl rfl rfl ?_
  refine lx_un rfl (fun _ => un_not _) rfl rfl ?_
  refine lx_assign rfl rfl rfl ?_
  refine lx_nil ?_
  refine x_true rfl ?_
  refine xs_plain (E := EE []) ?_
  refine lx_assign rfl rfl rfl ?_
  refine lx_nil ?_
  refine x_ret ?_
  repeat (first | refine kseq_ret ?_ | refine kblk_ret ?_)
  exact kret_tmp rfl rfl (fun w hw => ⟨rfl, hp_below hw⟩)
theorem flg_t  : Pure Tryz.prog Gt 53 [.bool true, .bool true] (U8 160#8) := by
  intro w hw
  have hGF : BOk Gt (pl w) := gt_low.plain hw
  refine calls_of_X (G := Gt) Tryz.func53 rfl rfl (Hp (pl w) []) (hp_refl (pl w) trivial rides_true) (good_hp hGF) ?_
  refine xs_plain (E := EE []) ?_
  refine lx_assign rfl rfl rfl ?_
  refine lx_nil ?_
  refine x_seq ?_
  refine x_block ?_
  refine xs_plain (E := EE []) ?_
  refine lx_move rfl rfl rfl ?_
  refine lx_un rfl (fun _ => un_not _) rfl rfl ?_
  refine lx_assign rfl rfl rfl ?_
  refine lx_nil ?_
  refine x_false rfl ?_
  refine xs_plain (E := EE []) ?_
  refine lx_move rfl rfl rfl ?_
  refine lx_assign rfl rfl rfl ?_
  refine lx_nil ?_
  refine x_true rfl ?_
  refine xs_plain (E := EE []) ?_
  refine lx_assign rfl rfl rfl ?_
  refine lx_nil ?_
  refine x_ret ?_
  repeat (first | refine kseq_ret ?_ | refine kblk_ret ?_)
  exact kret_tmp rfl rfl (fun w hw => ⟨rfl, hp_below hw⟩)
theorem flg_f  : Pure Tryz.prog Gt 53 [.bool true, .bool false] (U8 128#8) := by
  intro w hw
  have hGF : BOk Gt (pl w) := gt_low.plain hw
  refine calls_of_X (G := Gt) Tryz.func53 rfl rfl (Hp (pl w) []) (hp_refl (pl w) trivial rides_true) (good_hp hGF) ?_
  refine xs_plain (E := EE []) ?_
  refine lx_assign rfl rfl rfl ?_
  refine lx_nil ?_
  refine x_seq ?_
  refine x_block ?_
  refine xs_plain (E := EE []) ?_
  refine lx_move rfl rfl rfl ?_
  refine lx_un rfl (fun _ => un_not _) rfl rfl ?_
  refine lx_assign rfl rfl rfl ?_
  refine lx_nil ?_
  refine x_false rfl ?_
  refine xs_plain (E := EE []) ?_
  refine lx_move rfl rfl rfl ?_
  refine lx_assign rfl rfl rfl ?_
  refine lx_nil ?_
  refine x_false rfl ?_
  refine x_skip ?_
  refine xs_plain (E := EE []) ?_
  refine lx_assign rfl rfl rfl ?_
  refine lx_nil ?_
  refine x_ret ?_
  repeat (first | refine kseq_ret ?_ | refine kblk_ret ?_)
  exact kret_tmp rfl rfl (fun w hw => ⟨rfl, hp_below hw⟩)
theorem mk_eq {bs : List (BitVec 8)} (h : 0 < bs.length) : [bs.getD 0 0 &&& 31#8] ++ bs.drop 1 = MK bs := by
  cases bs with
  | nil => cases h
  | cons a r => rfl
theorem BytesAt.cut3 {w : World} {a : Option Addr} {rs : List (BitVec 8)} (h : BytesAt w a rs) (l k m : Nat) (hm : ¬ m = l) : BytesAt w (if m = l then a else a.map (·.add (l * 1))) ((rs.drop l).take k) := by
  have e := h.cut (cap := rs.length + l + 1) l k (by omega)
  rw [if_neg (by omega)] at e
  rw [if_neg hm]
  exact e
theorem BytesAt.tail {w : World} {a : Option Addr} {rs : List (BitVec 8)} (h : BytesAt w a rs) : BytesAt w (if rs.length = 1 then a else a.map (·.add (1 * 1))) (rs.drop 1) := by
  have e := h.cut (cap := rs.length) 1 rs.length (Nat.le_refl _)
  rw [List.take_of_length_le (by rw [List.length_drop]; omega)] at e
  exact e
theorem bare_s (e : Option Addr) (cap : Nat) (bs : List (BitVec 8)) (h0 : 0 < bs.length) (hl : bs.length ≤ 1000) (hcap : bs.length ≤ cap) (w : World) (hw : Gt w) (hby : BytesAt w e bs) : Calls Tryz.prog 37 [.slice e bs.length cap].toArray w (fun r w' => ∃ b7 c7 k7, r = .returned (.slice (some ⟨b7, 0, none⟩) bs.length k7) ∧ Grow w w' ∧ w.heap.size ≤ b7 ∧ OwnB w' b7 c7 5 ∧ c7.take bs.length = (MK bs).map U8 ∧ bs.length ≤ k7) := by
  have hGF : BOk Gt (pl w) := gt_low.plain hw
  refine calls_of_X (G := Gt) Tryz.func37 rfl rfl (Hp (pl w) []) (hp_refl (pl w) trivial rides_true) (good_hp hGF) ?_
  refine xs_plain (E := EE []) ?_
  refine lx_assign rfl rfl rfl ?_
  refine lx_nil ?_
  refine xs_draws (E := EE []) [0, 1, 2, 3, 5, 6, 7, 8, 9, 10, 4, 11, 12] mixed rfl (by kernel_rfl) (by kernel_rfl) (by kernel_rfl) ?_
  refine lx_move rfl rfl rfl ?_
  obtain ⟨ad, rfl, _⟩ := hby 0 _ (gm U8 bs 0 0 (by omega))
  refine lx_isA 0 rfl rfl Tryz.underlying22 Tryz.sizeOf5 rfl (by omega) rfl rfl ?_
  refine lx_load rfl Tryz.isAgg5 (fun w' h => by obtain ⟨ad', e, hc⟩ := (hby.grow (hp_below h)) 0 _ (gm U8 bs 0 0 (by omega)); cases e; exact hc) rfl rfl ?_
  refine lx_bin (v := U8 (bs.getD 0 0 &&& 31#8)) rfl rfl (fun _ => rfl) (fun _ => bin_andNot_u8 _ _ 224#8) rfl rfl ?_
  refine lx_move rfl rfl rfl ?_
  refine lx_move rfl rfl rfl ?_
  refine lx_len rfl (fun _ => len_slice Tryz.underlying22 _ _ _ _) rfl rfl ?_
  refine lx_move rfl rfl rfl ?_
  refine lx_len rfl (fun _ => len_slice Tryz.underlying22 _ _ _ _) rfl rfl ?_
  refine lx_slsl3 (l := 1) (h' := bs.length) (m := bs.length) rfl Tryz.underlying22 Tryz.sizeOf5 rfl rfl rfl ⟨by omega, Nat.le_refl _, hcap⟩ rfl rfl ?_
  refine lx_bsl 7 [bs.getD 0 0 &&& 31#8] hGF rfl rfl rfl (by decide) (by decide) Tryz.underlying22 Tryz.sizeOf5 Tryz.zeroValue5 rfl rfl ?_
  intro b7
  refine lx_append (xs := [bs.getD 0 0 &&& 31#8]) (ys := bs.drop 1) 7 hGF rfl (by rw [List.length_drop]; rfl) Tryz.underlying22 Tryz.underlying22 ti5 (.inr ⟨b7, _, rfl, rfl, rfl, Nat.le_refl _, rfl⟩) (fun w' h => (hby.grow (hp_below h)).tail) (by simp; omega) rfl rfl (fun h0 => absurd h0 (List.cons_ne_nil _ _)) (fun b8 c8 k8 q1 q2 q3 => ?_)
  rw [mk_eq h0] at q2 q3
  rw [MK_len] at q2 q3
  refine lx_assign rfl rfl rfl ?_
  refine lx_nil ?_
  refine x_ret ?_
  repeat (first | refine kseq_ret ?_ | refine kblk_ret ?_)
  exact kret_tmp rfl rfl (fun w hw => ⟨b8, c8, k8, by rw [mk_eq h0, MK_len], hp_below hw, (hw.own 7 b8 _ _ rfl).2.elim id False.elim, (hw.own 7 b8 _ _ rfl).1, q3, q2⟩)
def NQ (bs : List (BitVec 8)) : Bool := decide (∀ j, j < bs.length → bs.getD j 0 = 0#8)
theorem NQ_t {bs : List (BitVec 8)} (h : ∀ j, j < bs.length → bs.getD j 0 = 0#8) : NQ bs = true := decide_eq_true h
theorem NQ_f {bs : List (BitVec 8)} {i : Nat} (hi : i < bs.length) (h : ¬ bs.getD i 0 = 0#8) : NQ bs = false := decide_eq_false (fun k => h (k i hi))
theorem nought_c (e : Option Addr) (cap : Nat) (bs : List (BitVec 8)) (hL : bs.length ≤ 1000) (w : World) (hw : Gt w) (hby : BytesAt w e bs) : Calls Tryz.prog 90 [.slice e bs.length cap].toArray w (fun r w' => r = .returned (.bool (NQ bs)) ∧ Grow w w') := by
  have hGF : BOk Gt (pl w) := gt_low.plain hw
  refine calls_of_X (G := Gt) Tryz.func90 rfl rfl (Hp (pl w) []) (hp_refl (pl w) trivial rides_true) (good_hp hGF) ?_
  refine xs_plain (E := EE []) ?_
  refine lx_assign rfl rfl rfl ?_
  refine lx_nil ?_
  refine x_seq ?_
  refine xs_plain (E := EE []) ?_
  refine lx_move rfl rfl rfl ?_
  refine lx_len rfl (fun _ => len_slice Tryz.underlying22 _ _ _ _) rfl rfl ?_
  refine lx_move rfl rfl rfl ?_
  refine lx_nil ?_
  refine x_block ?_
  refine x_for (ι := { i : Nat // i ≤ bs.length ∧ ∀ j, j < i → bs.getD j 0 = 0#8 }) (fun y => [(5, .slice e bs.length cap), (6, I (bs.length : Int)), (7, I (y.1 : Int))]) (fun y => []) (fun y => bs.length - y.1) ⟨0, Nat.zero_le _, fun _ h => absurd h (Nat.not_lt_zero _)⟩ hGF ⟨rfl, rfl, rfl, trivial⟩ trivial ?_
  rintro ⟨i, hi, hall⟩
  dsimp only
  by_cases hz : bs.getD i 0 = 0#8
  · skip
    refine xs_plain (E := EE []) ?_
    refine lx_bin rfl rfl (fun _ => rfl) (fun _ => bin_lss_i _ _ _) rfl rfl ?_
    refine lx_nil ?_
    refine x_seq ?_
    refine x_if rfl (fun hc => ?_) (fun hc => ?_)
    · have hi2 : i < bs.length := by simp at hc; omega
      refine x_skip ?_
      refine x_seq ?_
      refine x_block ?_
      refine xs_plain (E := EE []) ?_
      obtain ⟨ad, rfl, _⟩ := hby i _ (gm U8 bs 0 i (by omega))
      refine lx_isA i rfl rfl Tryz.underlying22 Tryz.sizeOf5 rfl (by omega) rfl rfl ?_
      refine lx_load (v := U8 (bs.getD i 0)) rfl Tryz.isAgg5 (fun w' h => by obtain ⟨ad', e, hc⟩ := (hby.grow (hp_below h)) i _ (gm U8 bs 0 i (by omega)); cases e; exact hc) rfl rfl ?_
      refine lx_assign rfl rfl rfl ?_
      refine lx_nil ?_
      refine xs_plain (E := EE []) ?_
      refine lx_move rfl rfl rfl ?_
      refine lx_binB false rfl rfl (fun _ => rfl) (fun _ => bin_neq_u8 _ _ 0#8) (bne_eq_false_iff_eq.2 hz) rfl rfl ?_
      refine lx_nil ?_
      refine x_false rfl ?_
      refine x_skip ?_
      refine x_plain (E := EE []) ?_
      refine lx_bin rfl rfl (fun _ => rfl) (fun _ => bin_add_i _ _ _ (by unfold inI; omega)) rfl rfl ?_
      refine lx_move rfl rfl rfl ?_
      refine lx_nil ?_
      repeat (refine kblk_n ?_)
      refine kseq_n ?_
      have hall' : ∀ j, j < i + 1 → bs.getD j 0 = 0#8 := fun j hj => by
        rcases Nat.lt_or_ge j i with h | h
        · exact hall j h
        · obtain rfl : j = i := by omega
          exact hz
      exact ⟨rfl, ⟨i + 1, by omega, hall'⟩, _, by show bs.length - (i + 1) < bs.length - i; omega, rfl, ⟨rfl, rfl, rfl, trivial⟩, trivial⟩
    · obtain rfl : i = bs.length := by simp at hc; omega
      refine x_exit ?_
      refine xs_plain (E := EE []) ?_
      refine lx_assign rfl rfl rfl ?_
      refine lx_nil ?_
      refine x_ret ?_
      repeat (first | refine kseq_ret ?_ | refine kblk_ret ?_)
      exact kret_tmp rfl rfl (fun w hw => ⟨by rw [NQ_t hall]; rfl, hp_below hw⟩)
  · skip
    refine xs_plain (E := EE []) ?_
    refine lx_bin rfl rfl (fun _ => rfl) (fun _ => bin_lss_i _ _ _) rfl rfl ?_
    refine lx_nil ?_
    refine x_seq ?_
    refine x_if rfl (fun hc => ?_) (fun hc => ?_)
    · have hi2 : i < bs.length := by simp at hc; omega
      refine x_skip ?_
      refine x_seq ?_
      refine x_block ?_
      refine xs_plain (E := EE []) ?_
      obtain ⟨ad, rfl, _⟩ := hby i _ (gm U8 bs 0 i (by omega))
      refine lx_isA i rfl rfl Tryz.underlying22 Tryz.sizeOf5 rfl (by omega) rfl rfl ?_
      refine lx_load (v := U8 (bs.getD i 0)) rfl Tryz.isAgg5 (fun w' h => by obtain ⟨ad', e, hc⟩ := (hby.grow (hp_below h)) i _ (gm U8 bs 0 i (by omega)); cases e; exact hc) rfl rfl ?_
      refine lx_assign rfl rfl rfl ?_
      refine lx_nil ?_
      refine xs_plain (E := EE []) ?_
      refine lx_move rfl rfl rfl ?_
      refine lx_binB true rfl rfl (fun _ => rfl) (fun _ => bin_neq_u8 _ _ 0#8) (bne_iff_ne.2 hz) rfl rfl ?_
      refine lx_nil ?_
      refine x_true rfl ?_
      refine xs_plain (E := EE []) ?_
      refine lx_assign rfl rfl rfl ?_
      refine lx_nil ?_
      refine x_ret ?_
      repeat (first | refine kseq_ret ?_ | refine kblk_ret ?_)
      exact kret_tmp rfl rfl (fun w hw => ⟨by rw [NQ_f hi2 hz]; rfl, hp_below hw⟩)
    · obtain rfl : i = bs.length := by simp at hc; omega
      refine x_exit ?_
      refine xs_plain (E := EE []) ?_
      refine lx_assign rfl rfl rfl ?_
      refine lx_nil ?_
      refine x_ret ?_
      repeat (first | refine kseq_ret ?_ | refine kblk_ret ?_)
      exact kret_tmp rfl rfl (fun w hw => ⟨by rw [NQ_t hall]; rfl, hp_below hw⟩)
theorem nought_k (b k len : Nat) (c : List Value) (bs : List (BitVec 8)) (hn : bs.length = len) (hL : len ≤ 1000) (q : Bool) (hq : NQ bs = q) (w : World) (hw : Gt w) (h : w.rangeAt b 0 c) (ht : c.take bs.length = bs.map U8) : Calls Tryz.prog 90 [.slice (some ⟨b, 0, none⟩) len k].toArray w (fun r w' => r = .returned (.bool q) ∧ Grow w w') := by
  subst hn; subst hq
  exact nought_c _ k bs hL w hw (bytes_pre h ht)
theorem read_len (e : Option Addr) (cap N : Nat) (bs : List (BitVec 8)) (hN : ¬ bs.length = N) (w : World) (hw : Gt w) :
    Calls Tryz.prog 35 [.slice e bs.length cap, I (N : Int)].toArray w (fun r w' => r = .returned (.tuple #[U8 0#8, I 100]) ∧ Grow w w') := by
  have hGF : BOk Gt (pl w) := gt_low.plain hw
  refine calls_of_X (G := Gt) Tryz.func35 rfl rfl (Hp (pl w) []) (hp_refl (pl w) trivial rides_true) (good_hp hGF) ?_
  refine xs_plain (E := EE [37, 2000037]) ?_
  refine lx_assign rfl rfl rfl ?_
  refine lx_assign rfl rfl rfl ?_
  refine lx_nil ?_
  refine x_seq ?_
  refine xs_plain (E := EE [37, 2000037]) ?_
  refine lx_move rfl rfl rfl ?_
  refine lx_len rfl (fun _ => len_slice Tryz.underlying22 _ _ _ _) rfl rfl ?_
  refine lx_move rfl rfl rfl ?_
  refine lx_binB true rfl rfl (fun _ => rfl) (fun _ => bin_neq_i _ _ _) (bne_iff_ne.2 (by omega)) rfl rfl ?_
  refine lx_nil ?_
  refine x_true rfl ?_
  refine xs_plain (E := EE [37, 2000037]) ?_
  refine lx_assign rfl rfl rfl ?_
  refine lx_assign rfl rfl rfl ?_
  refine lx_nil ?_
  refine x_ret ?_
  repeat (first | refine kseq_ret ?_ | refine kblk_ret ?_)
  exact kret_tt rfl rfl rfl (fun w hw => ⟨rfl, hp_below hw⟩)
theorem read_a (e : Option Addr) (cap N : Nat) (bs : List (BitVec 8)) (hN : bs.length = N) (h0 : 0 < N) (hL : N ≤ 1000) (hf : FG bs = 128#8) (w : World) (hw : Gt w) (hby : BytesAt w e bs) :
    Calls Tryz.prog 35 [.slice e bs.length cap, I (N : Int)].toArray w (fun r w' => r = .returned (.tuple #[U8 (FG bs), I 0]) ∧ Grow w w') := by
  have hGF : BOk Gt (pl w) := gt_low.plain hw
  refine calls_of_X (G := Gt) Tryz.func35 rfl rfl (Hp (pl w) []) (hp_refl (pl w) trivial rides_true) (good_hp hGF) ?_
  refine xs_plain (E := EE [37, 2000037]) ?_
  refine lx_assign rfl rfl rfl ?_
  refine lx_assign rfl rfl rfl ?_
  refine lx_nil ?_
  refine x_seq ?_
  refine xs_plain (E := EE [37, 2000037]) ?_
  refine lx_move rfl rfl rfl ?_
  refine lx_len rfl (fun _ => len_slice Tryz.underlying22 _ _ _ _) rfl rfl ?_
  refine lx_move rfl rfl rfl ?_
  refine lx_binB false rfl rfl (fun _ => rfl) (fun _ => bin_neq_i _ _ _) (bne_eq_false_iff_eq.2 (by omega)) rfl rfl ?_
  refine lx_nil ?_
  refine x_false rfl ?_
  refine x_skip ?_
  refine x_seq ?_
  refine xs_plain (E := EE [37, 2000037]) ?_
  refine lx_move rfl rfl rfl ?_
  obtain ⟨ad, he, _⟩ := hby 0 _ (gm U8 bs 0 0 (by omega))
  refine lx_isA (ad := ad) 0 (by rw [← he]; rfl) rfl Tryz.underlying22 Tryz.sizeOf5 rfl (by omega) rfl rfl ?_
  refine lx_load (v := U8 (bs.getD 0 0)) rfl Tryz.isAgg5 (fun w' h => by obtain ⟨ad', e', hc⟩ := (hby.grow (hp_below h)) 0 _ (gm U8 bs 0 0 (by omega)); rw [he] at e'; cases e'; exact hc) rfl rfl ?_
  refine lx_bin (v := U8 (FG bs)) rfl rfl (fun _ => rfl) (fun _ => bin_and_u8 _ _ 224#8) rfl rfl ?_
  refine lx_assign rfl rfl rfl ?_
  refine lx_nil ?_
  refine xs_plain (E := EE [37, 2000037]) ?_
  refine lx_move rfl rfl rfl ?_
  refine lx_nil ?_
  refine x_block ?_
  refine x_seq ?_
  refine xs_plain (E := EE [37, 2000037]) ?_
  refine lx_binB true rfl rfl (fun _ => rfl) (fun _ => bin_eql_u8 _ _ 128#8) (beq_iff_eq.2 hf) rfl rfl ?_
  refine lx_assign rfl rfl rfl ?_
  refine lx_nil ?_
  refine x_true rfl ?_
  refine x_skip ?_
  refine x_true rfl ?_
  refine xs_plain (E := EE [37, 2000037]) ?_
  refine lx_move rfl rfl rfl ?_
  refine lx_assign rfl rfl rfl ?_
  refine lx_assign rfl rfl rfl ?_
  refine lx_nil ?_
  refine x_ret ?_
  repeat (first | refine kseq_ret ?_ | refine kblk_ret ?_)
  exact kret_tt rfl rfl rfl (fun w hw => ⟨rfl, hp_below hw⟩)
theorem read_b (e : Option Addr) (cap N : Nat) (bs : List (BitVec 8)) (hN : bs.length = N) (h0 : 0 < N) (hL : N ≤ 1000) (h128 : ¬ FG bs = 128#8) (hf : FG bs = 160#8) (w : World) (hw : Gt w) (hby : BytesAt w e bs) :
    Calls Tryz.prog 35 [.slice e bs.length cap, I (N : Int)].toArray w (fun r w' => r = .returned (.tuple #[U8 (FG bs), I 0]) ∧ Grow w w') := by
  have hGF : BOk Gt (pl w) := gt_low.plain hw
  refine calls_of_X (G := Gt) Tryz.func35 rfl rfl (Hp (pl w) []) (hp_refl (pl w) trivial rides_true) (good_hp hGF) ?_
  refine xs_plain (E := EE [37, 2000037]) ?_
  refine lx_assign rfl rfl rfl ?_
  refine lx_assign rfl rfl rfl ?_
  refine lx_nil ?_
  refine x_seq ?_
  refine xs_plain (E := EE [37, 2000037]) ?_
  refine lx_move rfl rfl rfl ?_
  refine lx_len rfl (fun _ => len_slice Tryz.underlying22 _ _ _ _) rfl rfl ?_
  refine lx_move rfl rfl rfl ?_
  refine lx_binB false rfl rfl (fun _ => rfl) (fun _ => bin_neq_i _ _ _) (bne_eq_false_iff_eq.2 (by omega)) rfl rfl ?_
  refine lx_nil ?_
  refine x_false rfl ?_
  refine x_skip ?_
  refine x_seq ?_
  refine xs_plain (E := EE [37, 2000037]) ?_
  refine lx_move rfl rfl rfl ?_
  obtain ⟨ad, he, _⟩ := hby 0 _ (gm U8 bs 0 0 (by omega))
  refine lx_isA (ad := ad) 0 (by rw [← he]; rfl) rfl Tryz.underlying22 Tryz.sizeOf5 rfl (by omega) rfl rfl ?_
  refine lx_load (v := U8 (bs.getD 0 0)) rfl Tryz.isAgg5 (fun w' h => by obtain ⟨ad', e', hc⟩ := (hby.grow (hp_below h)) 0 _ (gm U8 bs 0 0 (by omega)); rw [he] at e'; cases e'; exact hc) rfl rfl ?_
  refine lx_bin (v := U8 (FG bs)) rfl rfl (fun _ => rfl) (fun _ => bin_and_u8 _ _ 224#8) rfl rfl ?_
  refine lx_assign rfl rfl rfl ?_
  refine lx_nil ?_
  refine xs_plain (E := EE [37, 2000037]) ?_
  refine lx_move rfl rfl rfl ?_
  refine lx_nil ?_
  refine x_block ?_
  refine x_seq ?_
  refine xs_plain (E := EE [37, 2000037]) ?_
  refine lx_binB false rfl rfl (fun _ => rfl) (fun _ => bin_eql_u8 _ _ 128#8) (beq_eq_false_iff_ne.2 h128) rfl rfl ?_
  refine lx_assign rfl rfl rfl ?_
  refine lx_nil ?_
  refine x_false rfl ?_
  refine x_plain (E := EE [37, 2000037]) ?_
  refine lx_binB true rfl rfl (fun _ => rfl) (fun _ => bin_eql_u8 _ _ 160#8) (beq_iff_eq.2 hf) rfl rfl ?_
  refine lx_assign rfl rfl rfl ?_
  refine lx_nil ?_
  refine x_true rfl ?_
  refine xs_plain (E := EE [37, 2000037]) ?_
  refine lx_move rfl rfl rfl ?_
  refine lx_assign rfl rfl rfl ?_
  refine lx_assign rfl rfl rfl ?_
  refine lx_nil ?_
  refine x_ret ?_
  repeat (first | refine kseq_ret ?_ | refine kblk_ret ?_)
  exact kret_tt rfl rfl rfl (fun w hw => ⟨rfl, hp_below hw⟩)
theorem read_inf (e : Option Addr) (cap N : Nat) (bs : List (BitVec 8)) (hN : bs.length = N) (h0 : 0 < N) (hL : N ≤ 1000) (hcap : bs.length ≤ cap) (h128 : ¬ FG bs = 128#8) (h160 : ¬ FG bs = 160#8) (hf : FG bs = 192#8) (hq : NQ (MK bs) = true) (w : World) (hw : Gt w) (hby : BytesAt w e bs) :
    Calls Tryz.prog 35 [.slice e bs.length cap, I (N : Int)].toArray w (fun r w' => r = .returned (.tuple #[U8 (FG bs), I 0]) ∧ Grow w w') := by
  have hGF : BOk Gt (pl w) := gt_low.plain hw
  refine calls_of_X (G := Gt) Tryz.func35 rfl rfl (Hp (pl w) []) (hp_refl (pl w) trivial rides_true) (good_hp hGF) ?_
  refine xs_plain (E := EE [37, 2000037]) ?_
  refine lx_assign rfl rfl rfl ?_
  refine lx_assign rfl rfl rfl ?_
  refine lx_nil ?_
  refine x_seq ?_
  refine xs_plain (E := EE [37, 2000037]) ?_
  refine lx_move rfl rfl rfl ?_
  refine lx_len rfl (fun _ => len_slice Tryz.underlying22 _ _ _ _) rfl rfl ?_
  refine lx_move rfl rfl rfl ?_
  refine lx_binB false rfl rfl (fun _ => rfl) (fun _ => bin_neq_i _ _ _) (bne_eq_false_iff_eq.2 (by omega)) rfl rfl ?_
  refine lx_nil ?_
  refine x_false rfl ?_
  refine x_skip ?_
  refine x_seq ?_
  refine xs_plain (E := EE [37, 2000037]) ?_
  refine lx_move rfl rfl rfl ?_
  obtain ⟨ad, he, _⟩ := hby 0 _ (gm U8 bs 0 0 (by omega))
  refine lx_isA (ad := ad) 0 (by rw [← he]; rfl) rfl Tryz.underlying22 Tryz.sizeOf5 rfl (by omega) rfl rfl ?_
  refine lx_load (v := U8 (bs.getD 0 0)) rfl Tryz.isAgg5 (fun w' h => by obtain ⟨ad', e', hc⟩ := (hby.grow (hp_below h)) 0 _ (gm U8 bs 0 0 (by omega)); rw [he] at e'; cases e'; exact hc) rfl rfl ?_
  refine lx_bin (v := U8 (FG bs)) rfl rfl (fun _ => rfl) (fun _ => bin_and_u8 _ _ 224#8) rfl rfl ?_
  refine lx_assign rfl rfl rfl ?_
  refine lx_nil ?_
  refine xs_plain (E := EE [37, 2000037]) ?_
  refine lx_move rfl rfl rfl ?_
  refine lx_nil ?_
  refine x_block ?_
  refine x_seq ?_
  refine xs_plain (E := EE [37, 2000037]) ?_
  refine lx_binB false rfl rfl (fun _ => rfl) (fun _ => bin_eql_u8 _ _ 128#8) (beq_eq_false_iff_ne.2 h128) rfl rfl ?_
  refine lx_assign rfl rfl rfl ?_
  refine lx_nil ?_
  refine x_false rfl ?_
  refine x_plain (E := EE [37, 2000037]) ?_
  refine lx_binB false rfl rfl (fun _ => rfl) (fun _ => bin_eql_u8 _ _ 160#8) (beq_eq_false_iff_ne.2 h160) rfl rfl ?_
  refine lx_assign rfl rfl rfl ?_
  refine lx_nil ?_
  refine x_false rfl ?_
  refine xs_plain (E := EE [37, 2000037]) ?_
  refine lx_binB true rfl rfl (fun _ => rfl) (fun _ => bin_eql_u8 _ _ 192#8) (beq_iff_eq.2 hf) rfl rfl ?_
  refine lx_assign rfl rfl rfl ?_
  refine lx_nil ?_
  refine x_true rfl ?_
  refine xs_plain (E := EE [37, 2000037]) ?_
  refine lx_move rfl rfl rfl ?_
  refine lx_callG rfl rfl ent37 rfl rfl (fun w' hw' => (bare_s e cap bs (by omega) (by omega) hcap w' (hGF.g _ _ _ hw') (hby.grow (hp_below hw'))).mono fun e' w'' h => ?_)
  obtain ⟨b7, c7, k7, rfl, hg, hb7, hob, q3, q2⟩ := h
  refine ⟨_, _, rfl, good_hp hGF, hw'.news rides_true hg [(33, b7, c7, 5)] ?_ inj_one, hp_fresh rides_true rfl, ?_⟩
  · intro n' b' c' t' hl
    rcases lkB_cons hl with ⟨_, e⟩ | ⟨_, hl⟩
    · cases e; exact ⟨hb7, hob⟩
    · cases hl
  clear hw' hg hb7 hob
  refine lx_callC rfl rfl ent90 (fun w' hC hG => nought_k b7 k7 bs.length c7 (MK bs) (MK_len bs) (by omega) true hq w' hG (hp_row (n := 33) rfl w' hC) (by rw [MK_len]; exact q3)) rfl rfl ?_
  refine lx_nil ?_
  refine x_true rfl ?_
  refine xs_plain (E := EE [37, 2000037]) ?_
  refine lx_move rfl rfl rfl ?_
  refine lx_assign rfl rfl rfl ?_
  refine lx_assign rfl rfl rfl ?_
  refine lx_nil ?_
  refine x_ret ?_
  repeat (first | refine kseq_ret ?_ | refine kblk_ret ?_)
  exact kret_tt rfl rfl rfl (fun w hw => ⟨rfl, hp_below hw⟩)
theorem read_bad2 (e : Option Addr) (cap N : Nat) (bs : List (BitVec 8)) (hN : bs.length = N) (h0 : 0 < N) (hL : N ≤ 1000) (hcap : bs.length ≤ cap) (h128 : ¬ FG bs = 128#8) (h160 : ¬ FG bs = 160#8) (hf : FG bs = 192#8) (hq : NQ (MK bs) = false) (w : World) (hw : Gt w) (hby : BytesAt w e bs) :
    Calls Tryz.prog 35 [.slice e bs.length cap, I (N : Int)].toArray w (fun r w' => r = .returned (.tuple #[U8 0#8, I 101]) ∧ Grow w w') := by
  have hGF : BOk Gt (pl w) := gt_low.plain hw
  refine calls_of_X (G := Gt) Tryz.func35 rfl rfl (Hp (pl w) []) (hp_refl (pl w) trivial rides_true) (good_hp hGF) ?_
  refine xs_plain (E := EE [37, 2000037]) ?_
  refine lx_assign rfl rfl rfl ?_
  refine lx_assign rfl rfl rfl ?_
  refine lx_nil ?_
  refine x_seq ?_
  refine xs_plain (E := EE [37, 2000037]) ?_
  refine lx_move rfl rfl rfl ?_
  refine lx_len rfl (fun _ => len_slice Tryz.underlying22 _ _ _ _) rfl rfl ?_
  refine lx_move rfl rfl rfl ?_
  refine lx_binB false rfl rfl (fun _ => rfl) (fun _ => bin_neq_i _ _ _) (bne_eq_false_iff_eq.2 (by omega)) rfl rfl ?_
  refine lx_nil ?_
  refine x_false rfl ?_
  refine x_skip ?_
  refine x_seq ?_
  refine xs_plain (E := EE [37, 2000037]) ?_
  refine lx_move rfl rfl rfl ?_
  obtain ⟨ad, he, _⟩ := hby 0 _ (gm U8 bs 0 0 (by omega))
  refine lx_isA (ad := ad) 0 (by rw [← he]; rfl) rfl Tryz.underlying22 Tryz.sizeOf5 rfl (by omega) rfl rfl ?_
  refine lx_load (v := U8 (bs.getD 0 0)) rfl Tryz.isAgg5 (fun w' h => by obtain ⟨ad', e', hc⟩ := (hby.grow (hp_below h)) 0 _ (gm U8 bs 0 0 (by omega)); rw [he] at e'; cases e'; exact hc) rfl rfl ?_
  refine lx_bin (v := U8 (FG bs)) rfl rfl (fun _ => rfl) (fun _ => bin_and_u8 _ _ 224#8) rfl rfl ?_
  refine lx_assign rfl rfl rfl ?_
  refine lx_nil ?_
  refine xs_plain (E := EE [37, 2000037]) ?_
  refine lx_move rfl rfl rfl ?_
  refine lx_nil ?_
  refine x_block ?_
  refine x_seq ?_
  refine xs_plain (E := EE [37, 2000037]) ?_
  refine lx_binB false rfl rfl (fun _ => rfl) (fun _ => bin_eql_u8 _ _ 128#8) (beq_eq_false_iff_ne.2 h128) rfl rfl ?_
  refine lx_assign rfl rfl rfl ?_
  refine lx_nil ?_
  refine x_false rfl ?_
  refine x_plain (E := EE [37, 2000037]) ?_
  refine lx_binB false rfl rfl (fun _ => rfl) (fun _ => bin_eql_u8 _ _ 160#8) (beq_eq_false_iff_ne.2 h160) rfl rfl ?_
  refine lx_assign rfl rfl rfl ?_
  refine lx_nil ?_
  refine x_false rfl ?_
  refine xs_plain (E := EE [37, 2000037]) ?_
  refine lx_binB true rfl rfl (fun _ => rfl) (fun _ => bin_eql_u8 _ _ 192#8) (beq_iff_eq.2 hf) rfl rfl ?_
  refine lx_assign rfl rfl rfl ?_
  refine lx_nil ?_
  refine x_true rfl ?_
  refine xs_plain (E := EE [37, 2000037]) ?_
  refine lx_move rfl rfl rfl ?_
  refine lx_callG rfl rfl ent37 rfl rfl (fun w' hw' => (bare_s e cap bs (by omega) (by omega) hcap w' (hGF.g _ _ _ hw') (hby.grow (hp_below hw'))).mono fun e' w'' h => ?_)
  obtain ⟨b7, c7, k7, rfl, hg, hb7, hob, q3, q2⟩ := h
  refine ⟨_, _, rfl, good_hp hGF, hw'.news rides_true hg [(33, b7, c7, 5)] ?_ inj_one, hp_fresh rides_true rfl, ?_⟩
  · intro n' b' c' t' hl
    rcases lkB_cons hl with ⟨_, e⟩ | ⟨_, hl⟩
    · cases e; exact ⟨hb7, hob⟩
    · cases hl
  clear hw' hg hb7 hob
  refine lx_callC rfl rfl ent90 (fun w' hC hG => nought_k b7 k7 bs.length c7 (MK bs) (MK_len bs) (by omega) false hq w' hG (hp_row (n := 33) rfl w' hC) (by rw [MK_len]; exact q3)) rfl rfl ?_
  refine lx_nil ?_
  refine x_false rfl ?_
  refine x_skip ?_
  refine xs_plain (E := EE [37, 2000037]) ?_
  refine lx_assign rfl rfl rfl ?_
  refine lx_assign rfl rfl rfl ?_
  refine lx_nil ?_
  refine x_ret ?_
  repeat (first | refine kseq_ret ?_ | refine kblk_ret ?_)
  exact kret_tt rfl rfl rfl (fun w hw => ⟨rfl, hp_below hw⟩)
theorem read_bad (e : Option Addr) (cap N : Nat) (bs : List (BitVec 8)) (hN : bs.length = N) (h0 : 0 < N) (hL : N ≤ 1000) (h128 : ¬ FG bs = 128#8) (h160 : ¬ FG bs = 160#8) (h192 : ¬ FG bs = 192#8) (w : World) (hw : Gt w) (hby : BytesAt w e bs) :
    Calls Tryz.prog 35 [.slice e bs.length cap, I (N : Int)].toArray w (fun r w' => r = .returned (.tuple #[U8 0#8, I 101]) ∧ Grow w w') := by
  have hGF : BOk Gt (pl w) := gt_low.plain hw
  refine calls_of_X (G := Gt) Tryz.func35 rfl rfl (Hp (pl w) []) (hp_refl (pl w) trivial rides_true) (good_hp hGF) ?_
  refine xs_plain (E := EE [37, 2000037]) ?_
  refine lx_assign rfl rfl rfl ?_
  refine lx_assign rfl rfl rfl ?_
  refine lx_nil ?_
  refine x_seq ?_
  refine xs_plain (E := EE [37, 2000037]) ?_
  refine lx_move rfl rfl rfl ?_
  refine lx_len rfl (fun _ => len_slice Tryz.underlying22 _ _ _ _) rfl rfl ?_
  refine lx_move rfl rfl rfl ?_
  refine lx_binB false rfl rfl (fun _ => rfl) (fun _ => bin_neq_i _ _ _) (bne_eq_false_iff_eq.2 (by omega)) rfl rfl ?_
  refine lx_nil ?_
  refine x_false rfl ?_
  refine x_skip ?_
  refine x_seq ?_
  refine xs_plain (E := EE [37, 2000037]) ?_
  refine lx_move rfl rfl rfl ?_
  obtain ⟨ad, he, _⟩ := hby 0 _ (gm U8 bs 0 0 (by omega))
  refine lx_isA (ad := ad) 0 (by rw [← he]; rfl) rfl Tryz.underlying22 Tryz.sizeOf5 rfl (by omega) rfl rfl ?_
  refine lx_load (v := U8 (bs.getD 0 0)) rfl Tryz.isAgg5 (fun w' h => by obtain ⟨ad', e', hc⟩ := (hby.grow (hp_below h)) 0 _ (gm U8 bs 0 0 (by omega)); rw [he] at e'; cases e'; exact hc) rfl rfl ?_
  refine lx_bin (v := U8 (FG bs)) rfl rfl (fun _ => rfl) (fun _ => bin_and_u8 _ _ 224#8) rfl rfl ?_
  refine lx_assign rfl rfl rfl ?_
  refine lx_nil ?_
  refine xs_plain (E := EE [37, 2000037]) ?_
  refine lx_move rfl rfl rfl ?_
  refine lx_nil ?_
  refine x_block ?_
  refine x_seq ?_
  refine xs_plain (E := EE [37, 2000037]) ?_
  refine lx_binB false rfl rfl (fun _ => rfl) (fun _ => bin_eql_u8 _ _ 128#8) (beq_eq_false_iff_ne.2 h128) rfl rfl ?_
  refine lx_assign rfl rfl rfl ?_
  refine lx_nil ?_
  refine x_false rfl ?_
  refine x_plain (E := EE [37, 2000037]) ?_
  refine lx_binB false rfl rfl (fun _ => rfl) (fun _ => bin_eql_u8 _ _ 160#8) (beq_eq_false_iff_ne.2 h160) rfl rfl ?_
  refine lx_assign rfl rfl rfl ?_
  refine lx_nil ?_
  refine x_false rfl ?_
  refine xs_plain (E := EE [37, 2000037]) ?_
  refine lx_binB false rfl rfl (fun _ => rfl) (fun _ => bin_eql_u8 _ _ 192#8) (beq_eq_false_iff_ne.2 h192) rfl rfl ?_
  refine lx_assign rfl rfl rfl ?_
  refine lx_nil ?_
  refine x_false rfl ?_
  refine x_skip ?_
  refine xs_plain (E := EE [37, 2000037]) ?_
  refine lx_assign rfl rfl rfl ?_
  refine lx_assign rfl rfl rfl ?_
  refine lx_nil ?_
  refine x_ret ?_
  repeat (first | refine kseq_ret ?_ | refine kblk_ret ?_)
  exact kret_tt rfl rfl rfl (fun w hw => ⟨rfl, hp_below hw⟩)
theorem meant1_Neg : Meant Tryz.prog 30 "Neg" 23 := fun _ _ => by kernel_rfl
theorem meant1_Equal : Meant Tryz.prog 30 "Equal" 25 := fun _ _ => by kernel_rfl
theorem meant1_InGroup : Meant Tryz.prog 30 "InGroup" 31 := fun _ _ => by kernel_rfl
theorem set1_n (p : J1.GP) (f : BitVec 8)  : Pure Tryz.prog Gt 38 [J1.PtV p, .bool false, U8 f] (.tuple #[J1.PtV J1.gInf, I 103]) := by
  intro w hw
  have hGF : BOk Gt (pl w) := gt_low.plain hw
  refine calls_of_X (G := Gt) Tryz.func38 rfl rfl (Hp (pl w) []) (hp_refl (pl w) trivial rides_true) (good_hp hGF) ?_
  refine xs_plain (E := EE []) ?_
  refine lx_boxr 3 hGF rfl rfl rfl ?_
  intro b3
  refine lx_allocr 6 hGF J1.zv30 rfl rfl ?_
  intro b6
  refine lx_assign rfl rfl rfl ?_
  refine lx_nil ?_
  refine xs_plain (E := EE []) ?_
  refine lx_allocr 8 hGF J1.zv30 rfl rfl ?_
  intro b8
  refine lx_nil ?_
  refine x_seq ?_
  refine x_block ?_
  refine xs_plain (E := EE []) ?_
  refine lx_move rfl rfl rfl ?_
  refine lx_un rfl (fun _ => un_not _) rfl rfl ?_
  refine lx_assign rfl rfl rfl ?_
  refine lx_nil ?_
  refine x_true rfl ?_
  refine xs_plain (E := EE []) ?_
  refine lx_loada 8 rfl rfl Tryz.isAgg30 Tryz.sizeOf30 (by simp) rfl rfl ?_
  refine lx_storea 6 hGF rfl rfl rfl Tryz.sizeOf30 (by simp) (by simp) (one_u64 _) rfl ?_
  refine lx_assign rfl rfl rfl ?_
  refine lx_nil ?_
  refine x_ret ?_
  repeat (first | refine kseq_ret ?_ | refine kblk_ret ?_)
  exact kret_ct 6 rfl rfl rfl rfl Tryz.isAgg30 Tryz.sizeOf30 (by simp) (fun w hw => ⟨rfl, hp_below hw⟩)
theorem set1_z (p : J1.GP) (f : BitVec 8) (hf : ¬ f &&& 32#8 = 0#8) (he : p.P = (J1.gNeg p).P) : Pure Tryz.prog Gt 38 [J1.PtV p, .bool true, U8 f] (.tuple #[J1.PtV J1.gInf, I 103]) := by
  intro w hw
  have hGF : BOk Gt (pl w) := gt_low.plain hw
  refine calls_of_X (G := Gt) Tryz.func38 rfl rfl (Hp (pl w) []) (hp_refl (pl w) trivial rides_true) (good_hp hGF) ?_
  refine xs_plain (E := EE []) ?_
  refine lx_boxr 3 hGF rfl rfl rfl ?_
  intro b3
  refine lx_allocr 6 hGF J1.zv30 rfl rfl ?_
  intro b6
  refine lx_assign rfl rfl rfl ?_
  refine lx_nil ?_
  refine xs_plain (E := EE []) ?_
  refine lx_allocr 8 hGF J1.zv30 rfl rfl ?_
  intro b8
  refine lx_nil ?_
  refine x_seq ?_
  refine x_block ?_
  refine xs_plain (E := EE []) ?_
  refine lx_move rfl rfl rfl ?_
  refine lx_un rfl (fun _ => un_not _) rfl rfl ?_
  refine lx_assign rfl rfl rfl ?_
  refine lx_nil ?_
  refine x_false rfl ?_
  refine xs_drawn (E := EE []) mixed (by kernel_rfl) (by kernel_rfl) (by kernel_rfl) ?_
  refine lx_move rfl rfl rfl ?_
  refine lx_bin (v := U8 (f &&& 32#8)) rfl rfl (fun _ => rfl) (fun _ => bin_and_u8 _ _ 32#8) rfl rfl ?_
  refine lx_binB true rfl rfl (fun _ => rfl) (fun _ => bin_neq_u8 _ _ 0#8) (bne_iff_ne.2 hf) rfl rfl ?_
  refine lx_move rfl rfl rfl ?_
  refine lx_loada 3 rfl rfl Tryz.isAgg30 Tryz.sizeOf30 (by simp) rfl rfl ?_
  refine lx_mkif rfl Tryz.underlying30 rfl rfl ?_
  refine lx_loada 3 rfl rfl Tryz.isAgg30 Tryz.sizeOf30 (by simp) rfl rfl ?_
  refine lx_mkif rfl Tryz.underlying30 rfl rfl ?_
  refine lx_inv rfl rfl meant1_Neg rfl ent23 (J1.neg_p p) rfl rfl ?_
  refine lx_invB true rfl rfl meant1_Equal rfl ent25 (J1.equal_p p (J1.gNeg p)) (decide_eq_true he) rfl rfl ?_
  refine lx_pick rfl rfl rfl rfl rfl ?_
  refine lx_assign rfl rfl rfl ?_
  refine lx_nil ?_
  refine x_true rfl ?_
  refine xs_plain (E := EE []) ?_
  refine lx_loada 8 rfl rfl Tryz.isAgg30 Tryz.sizeOf30 (by simp) rfl rfl ?_
  refine lx_storea 6 hGF rfl rfl rfl Tryz.sizeOf30 (by simp) (by simp) (one_u64 _) rfl ?_
  refine lx_assign rfl rfl rfl ?_
  refine lx_nil ?_
  refine x_ret ?_
  repeat (first | refine kseq_ret ?_ | refine kblk_ret ?_)
  exact kret_ct 6 rfl rfl rfl rfl Tryz.isAgg30 Tryz.sizeOf30 (by simp) (fun w hw => ⟨rfl, hp_below hw⟩)
theorem set1_to (p : J1.GP) (f : BitVec 8) (hf : ¬ f &&& 32#8 = 0#8) (he : ¬ p.P = (J1.gNeg p).P) (hg : ¬ E1.times p.P ORD = none) : Pure Tryz.prog Gt 38 [J1.PtV p, .bool true, U8 f] (.tuple #[J1.PtV J1.gInf, I 104]) := by
  intro w hw
  have hGF : BOk Gt (pl w) := gt_low.plain hw
  refine calls_of_X (G := Gt) Tryz.func38 rfl rfl (Hp (pl w) []) (hp_refl (pl w) trivial rides_true) (good_hp hGF) ?_
  refine xs_plain (E := EE []) ?_
  refine lx_boxr 3 hGF rfl rfl rfl ?_
  intro b3
  refine lx_allocr 6 hGF J1.zv30 rfl rfl ?_
  intro b6
  refine lx_assign rfl rfl rfl ?_
  refine lx_nil ?_
  refine xs_plain (E := EE []) ?_
  refine lx_allocr 8 hGF J1.zv30 rfl rfl ?_
  intro b8
  refine lx_nil ?_
  refine x_seq ?_
  refine x_block ?_
  refine xs_plain (E := EE []) ?_
  refine lx_move rfl rfl rfl ?_
  refine lx_un rfl (fun _ => un_not _) rfl rfl ?_
  refine lx_assign rfl rfl rfl ?_
  refine lx_nil ?_
  refine x_false rfl ?_
  refine xs_drawn (E := EE []) mixed (by kernel_rfl) (by kernel_rfl) (by kernel_rfl) ?_
  refine lx_move rfl rfl rfl ?_
  refine lx_bin (v := U8 (f &&& 32#8)) rfl rfl (fun _ => rfl) (fun _ => bin_and_u8 _ _ 32#8) rfl rfl ?_
  refine lx_binB true rfl rfl (fun _ => rfl) (fun _ => bin_neq_u8 _ _ 0#8) (bne_iff_ne.2 hf) rfl rfl ?_
  refine lx_move rfl rfl rfl ?_
  refine lx_loada 3 rfl rfl Tryz.isAgg30 Tryz.sizeOf30 (by simp) rfl rfl ?_
  refine lx_mkif rfl Tryz.underlying30 rfl rfl ?_
  refine lx_loada 3 rfl rfl Tryz.isAgg30 Tryz.sizeOf30 (by simp) rfl rfl ?_
  refine lx_mkif rfl Tryz.underlying30 rfl rfl ?_
  refine lx_inv rfl rfl meant1_Neg rfl ent23 (J1.neg_p p) rfl rfl ?_
  refine lx_invB false rfl rfl meant1_Equal rfl ent25 (J1.equal_p p (J1.gNeg p)) (decide_eq_false he) rfl rfl ?_
  refine lx_pick rfl rfl rfl rfl rfl ?_
  refine lx_assign rfl rfl rfl ?_
  refine lx_nil ?_
  refine x_false rfl ?_
  refine xs_plain (E := EE []) ?_
  refine lx_loada 3 rfl rfl Tryz.isAgg30 Tryz.sizeOf30 (by simp) rfl rfl ?_
  refine lx_mkif rfl Tryz.underlying30 rfl rfl ?_
  refine lx_invB false rfl rfl meant1_InGroup rfl ent31 (J1.inGroup_p p) (decide_eq_false hg) rfl rfl ?_
  refine lx_un rfl (fun _ => un_not _) rfl rfl ?_
  refine lx_assign rfl rfl rfl ?_
  refine lx_nil ?_
  refine x_true rfl ?_
  refine xs_plain (E := EE []) ?_
  refine lx_loada 8 rfl rfl Tryz.isAgg30 Tryz.sizeOf30 (by simp) rfl rfl ?_
  refine lx_storea 6 hGF rfl rfl rfl Tryz.sizeOf30 (by simp) (by simp) (one_u64 _) rfl ?_
  refine lx_assign rfl rfl rfl ?_
  refine lx_nil ?_
  refine x_ret ?_
  repeat (first | refine kseq_ret ?_ | refine kblk_ret ?_)
  exact kret_ct 6 rfl rfl rfl rfl Tryz.isAgg30 Tryz.sizeOf30 (by simp) (fun w hw => ⟨rfl, hp_below hw⟩)
theorem set1_ty (p : J1.GP) (f : BitVec 8) (hf : ¬ f &&& 32#8 = 0#8) (he : ¬ p.P = (J1.gNeg p).P) (hg : E1.times p.P ORD = none) : Pure Tryz.prog Gt 38 [J1.PtV p, .bool true, U8 f] (.tuple #[J1.PtV p, I 0]) := by
  intro w hw
  have hGF : BOk Gt (pl w) := gt_low.plain hw
  refine calls_of_X (G := Gt) Tryz.func38 rfl rfl (Hp (pl w) []) (hp_refl (pl w) trivial rides_true) (good_hp hGF) ?_
  refine xs_plain (E := EE []) ?_
  refine lx_boxr 3 hGF rfl rfl rfl ?_
  intro b3
  refine lx_allocr 6 hGF J1.zv30 rfl rfl ?_
  intro b6
  refine lx_assign rfl rfl rfl ?_
  refine lx_nil ?_
  refine xs_plain (E := EE []) ?_
  refine lx_allocr 8 hGF J1.zv30 rfl rfl ?_
  intro b8
  refine lx_nil ?_
  refine x_seq ?_
  refine x_block ?_
  refine xs_plain (E := EE []) ?_
  refine lx_move rfl rfl rfl ?_
  refine lx_un rfl (fun _ => un_not _) rfl rfl ?_
  refine lx_assign rfl rfl rfl ?_
  refine lx_nil ?_
  refine x_false rfl ?_
  refine xs_drawn (E := EE []) mixed (by kernel_rfl) (by kernel_rfl) (by kernel_rfl) ?_
  refine lx_move rfl rfl rfl ?_
  refine lx_bin (v := U8 (f &&& 32#8)) rfl rfl (fun _ => rfl) (fun _ => bin_and_u8 _ _ 32#8) rfl rfl ?_
  refine lx_binB true rfl rfl (fun _ => rfl) (fun _ => bin_neq_u8 _ _ 0#8) (bne_iff_ne.2 hf) rfl rfl ?_
  refine lx_move rfl rfl rfl ?_
  refine lx_loada 3 rfl rfl Tryz.isAgg30 Tryz.sizeOf30 (by simp) rfl rfl ?_
  refine lx_mkif rfl Tryz.underlying30 rfl rfl ?_
  refine lx_loada 3 rfl rfl Tryz.isAgg30 Tryz.sizeOf30 (by simp) rfl rfl ?_
  refine lx_mkif rfl Tryz.underlying30 rfl rfl ?_
  refine lx_inv rfl rfl meant1_Neg rfl ent23 (J1.neg_p p) rfl rfl ?_
  refine lx_invB false rfl rfl meant1_Equal rfl ent25 (J1.equal_p p (J1.gNeg p)) (decide_eq_false he) rfl rfl ?_
  refine lx_pick rfl rfl rfl rfl rfl ?_
  refine lx_assign rfl rfl rfl ?_
  refine lx_nil ?_
  refine x_false rfl ?_
  refine xs_plain (E := EE []) ?_
  refine lx_loada 3 rfl rfl Tryz.isAgg30 Tryz.sizeOf30 (by simp) rfl rfl ?_
  refine lx_mkif rfl Tryz.underlying30 rfl rfl ?_
  refine lx_invB true rfl rfl meant1_InGroup rfl ent31 (J1.inGroup_p p) (decide_eq_true hg) rfl rfl ?_
  refine lx_un rfl (fun _ => un_not _) rfl rfl ?_
  refine lx_assign rfl rfl rfl ?_
  refine lx_nil ?_
  refine x_false rfl ?_
  refine x_skip ?_
  refine xs_plain (E := EE []) ?_
  refine lx_loada 3 rfl rfl Tryz.isAgg30 Tryz.sizeOf30 (by simp) rfl rfl ?_
  refine lx_storea 6 hGF rfl rfl rfl Tryz.sizeOf30 (by simp) (by simp) (one_u64 _) rfl ?_
  refine lx_assign rfl rfl rfl ?_
  refine lx_nil ?_
  refine x_ret ?_
  repeat (first | refine kseq_ret ?_ | refine kblk_ret ?_)
  exact kret_ct 6 rfl rfl rfl rfl Tryz.isAgg30 Tryz.sizeOf30 (by simp) (fun w hw => ⟨rfl, hp_below hw⟩)
theorem set1_fo (p : J1.GP) (f : BitVec 8) (hf : f &&& 32#8 = 0#8) (hg : ¬ E1.times p.P ORD = none) : Pure Tryz.prog Gt 38 [J1.PtV p, .bool true, U8 f] (.tuple #[J1.PtV J1.gInf, I 104]) := by
  intro w hw
  have hGF : BOk Gt (pl w) := gt_low.plain hw
  refine calls_of_X (G := Gt) Tryz.func38 rfl rfl (Hp (pl w) []) (hp_refl (pl w) trivial rides_true) (good_hp hGF) ?_
  refine xs_plain (E := EE []) ?_
  refine lx_boxr 3 hGF rfl rfl rfl ?_
  intro b3
  refine lx_allocr 6 hGF J1.zv30 rfl rfl ?_
  intro b6
  refine lx_assign rfl rfl rfl ?_
  refine lx_nil ?_
  refine xs_plain (E := EE []) ?_
  refine lx_allocr 8 hGF J1.zv30 rfl rfl ?_
  intro b8
  refine lx_nil ?_
  refine x_seq ?_
  refine x_block ?_
  refine xs_plain (E := EE []) ?_
  refine lx_move rfl rfl rfl ?_
  refine lx_un rfl (fun _ => un_not _) rfl rfl ?_
  refine lx_assign rfl rfl rfl ?_
  refine lx_nil ?_
  refine x_false rfl ?_
  refine xs_drawn (E := EE []) mixed (by kernel_rfl) (by kernel_rfl) (by kernel_rfl) ?_
  refine lx_move rfl rfl rfl ?_
  refine lx_bin (v := U8 (f &&& 32#8)) rfl rfl (fun _ => rfl) (fun _ => bin_and_u8 _ _ 32#8) rfl rfl ?_
  refine lx_binB false rfl rfl (fun _ => rfl) (fun _ => bin_neq_u8 _ _ 0#8) (bne_eq_false_iff_eq.2 hf) rfl rfl ?_
  refine lx_move rfl rfl rfl ?_
  refine lx_skip rfl rfl rfl ?_
  refine lx_skip rfl rfl rfl ?_
  refine lx_skip rfl rfl rfl ?_
  refine lx_skip rfl rfl rfl ?_
  refine lx_skip rfl rfl rfl ?_
  refine lx_skip rfl rfl rfl ?_
  refine lx_pick rfl rfl rfl rfl rfl ?_
  refine lx_assign rfl rfl rfl ?_
  refine lx_nil ?_
  refine x_false rfl ?_
  refine xs_plain (E := EE []) ?_
  refine lx_loada 3 rfl rfl Tryz.isAgg30 Tryz.sizeOf30 (by simp) rfl rfl ?_
  refine lx_mkif rfl Tryz.underlying30 rfl rfl ?_
  refine lx_invB false rfl rfl meant1_InGroup rfl ent31 (J1.inGroup_p p) (decide_eq_false hg) rfl rfl ?_
  refine lx_un rfl (fun _ => un_not _) rfl rfl ?_
  refine lx_assign rfl rfl rfl ?_
  refine lx_nil ?_
  refine x_true rfl ?_
  refine xs_plain (E := EE []) ?_
  refine lx_loada 8 rfl rfl Tryz.isAgg30 Tryz.sizeOf30 (by simp) rfl rfl ?_
  refine lx_storea 6 hGF rfl rfl rfl Tryz.sizeOf30 (by simp) (by simp) (one_u64 _) rfl ?_
  refine lx_assign rfl rfl rfl ?_
  refine lx_nil ?_
  refine x_ret ?_
  repeat (first | refine kseq_ret ?_ | refine kblk_ret ?_)
  exact kret_ct 6 rfl rfl rfl rfl Tryz.isAgg30 Tryz.sizeOf30 (by simp) (fun w hw => ⟨rfl, hp_below hw⟩)
theorem set1_fy (p : J1.GP) (f : BitVec 8) (hf : f &&& 32#8 = 0#8) (hg : E1.times p.P ORD = none) : Pure Tryz.prog Gt 38 [J1.PtV p, .bool true, U8 f] (.tuple #[J1.PtV p, I 0]) := by
  intro w hw
  have hGF : BOk Gt (pl w) := gt_low.plain hw
  refine calls_of_X (G := Gt) Tryz.func38 rfl rfl (Hp (pl w) []) (hp_refl (pl w) trivial rides_true) (good_hp hGF) ?_
  refine xs_plain (E := EE []) ?_
  refine lx_boxr 3 hGF rfl rfl rfl ?_
  intro b3
  refine lx_allocr 6 hGF J1.zv30 rfl rfl ?_
  intro b6
  refine lx_assign rfl rfl rfl ?_
  refine lx_nil ?_
  refine xs_plain (E := EE []) ?_
  refine lx_allocr 8 hGF J1.zv30 rfl rfl ?_
  intro b8
  refine lx_nil ?_
  refine x_seq ?_
  refine x_block ?_
  refine xs_plain (E := EE []) ?_
  refine lx_move rfl rfl rfl ?_
  refine lx_un rfl (fun _ => un_not _) rfl rfl ?_
  refine lx_assign rfl rfl rfl ?_
  refine lx_nil ?_
  refine x_false rfl ?_
  refine xs_drawn (E := EE []) mixed (by kernel_rfl) (by kernel_rfl) (by kernel_rfl) ?_
  refine lx_move rfl rfl rfl ?_
  refine lx_bin (v := U8 (f &&& 32#8)) rfl rfl (fun _ => rfl) (fun _ => bin_and_u8 _ _ 32#8) rfl rfl ?_
  refine lx_binB false rfl rfl (fun _ => rfl) (fun _ => bin_neq_u8 _ _ 0#8) (bne_eq_false_iff_eq.2 hf) rfl rfl ?_
  refine lx_move rfl rfl rfl ?_
  refine lx_skip rfl rfl rfl ?_
  refine lx_skip rfl rfl rfl ?_
  refine lx_skip rfl rfl rfl ?_
  refine lx_skip rfl rfl rfl ?_
  refine lx_skip rfl rfl rfl ?_
  refine lx_skip rfl rfl rfl ?_
  refine lx_pick rfl rfl rfl rfl rfl ?_
  refine lx_assign rfl rfl rfl ?_
  refine lx_nil ?_
  refine x_false rfl ?_
  refine xs_plain (E := EE []) ?_
  refine lx_loada 3 rfl rfl Tryz.isAgg30 Tryz.sizeOf30 (by simp) rfl rfl ?_
  refine lx_mkif rfl Tryz.underlying30 rfl rfl ?_
  refine lx_invB true rfl rfl meant1_InGroup rfl ent31 (J1.inGroup_p p) (decide_eq_true hg) rfl rfl ?_
  refine lx_un rfl (fun _ => un_not _) rfl rfl ?_
  refine lx_assign rfl rfl rfl ?_
  refine lx_nil ?_
  refine x_false rfl ?_
  refine x_skip ?_
  refine xs_plain (E := EE []) ?_
  refine lx_loada 3 rfl rfl Tryz.isAgg30 Tryz.sizeOf30 (by simp) rfl rfl ?_
  refine lx_storea 6 hGF rfl rfl rfl Tryz.sizeOf30 (by simp) (by simp) (one_u64 _) rfl ?_
  refine lx_assign rfl rfl rfl ?_
  refine lx_nil ?_
  refine x_ret ?_
  repeat (first | refine kseq_ret ?_ | refine kblk_ret ?_)
  exact kret_ct 6 rfl rfl rfl rfl Tryz.isAgg30 Tryz.sizeOf30 (by simp) (fun w hw => ⟨rfl, hp_below hw⟩)
theorem meant2_Neg : Meant Tryz.prog 52 "Neg" 24 := fun _ _ => by kernel_rfl
theorem meant2_Equal : Meant Tryz.prog 52 "Equal" 26 := fun _ _ => by kernel_rfl
theorem meant2_InGroup : Meant Tryz.prog 52 "InGroup" 33 := fun _ _ => by kernel_rfl
theorem set2_n (p : J2.GP) (f : BitVec 8)  : Pure Tryz.prog Gt 56 [J2.PtV p, .bool false, U8 f] (.tuple #[J2.PtV J2.gInf, I 103]) := by
  intro w hw
  have hGF : BOk Gt (pl w) := gt_low.plain hw
  refine calls_of_X (G := Gt) Tryz.func56 rfl rfl (Hp (pl w) []) (hp_refl (pl w) trivial rides_true) (good_hp hGF) ?_
  refine xs_plain (E := EE []) ?_
  refine lx_boxr 3 hGF rfl rfl rfl ?_
  intro b3
  refine lx_allocr 6 hGF J2.zv52 rfl rfl ?_
  intro b6
  refine lx_assign rfl rfl rfl ?_
  refine lx_nil ?_
  refine xs_plain (E := EE []) ?_
  refine lx_allocr 8 hGF J2.zv52 rfl rfl ?_
  intro b8
  refine lx_nil ?_
  refine x_seq ?_
  refine x_block ?_
  refine xs_plain (E := EE []) ?_
  refine lx_move rfl rfl rfl ?_
  refine lx_un rfl (fun _ => un_not _) rfl rfl ?_
  refine lx_assign rfl rfl rfl ?_
  refine lx_nil ?_
  refine x_true rfl ?_
  refine xs_plain (E := EE []) ?_
  refine lx_loada 8 rfl rfl Tryz.isAgg52 Tryz.sizeOf52 (by simp) rfl rfl ?_
  refine lx_storea 6 hGF rfl rfl rfl Tryz.sizeOf52 (by simp) (by simp) (one_u64 _) rfl ?_
  refine lx_assign rfl rfl rfl ?_
  refine lx_nil ?_
  refine x_ret ?_
  repeat (first | refine kseq_ret ?_ | refine kblk_ret ?_)
  exact kret_ct 6 rfl rfl rfl rfl Tryz.isAgg52 Tryz.sizeOf52 (by simp) (fun w hw => ⟨rfl, hp_below hw⟩)
theorem set2_z (p : J2.GP) (f : BitVec 8) (hf : ¬ f &&& 32#8 = 0#8) (he : p.P = (J2.gNeg p).P) : Pure Tryz.prog Gt 56 [J2.PtV p, .bool true, U8 f] (.tuple #[J2.PtV J2.gInf, I 103]) := by
  intro w hw
  have hGF : BOk Gt (pl w) := gt_low.plain hw
  refine calls_of_X (G := Gt) Tryz.func56 rfl rfl (Hp (pl w) []) (hp_refl (pl w) trivial rides_true) (good_hp hGF) ?_
  refine xs_plain (E := EE []) ?_
  refine lx_boxr 3 hGF rfl rfl rfl ?_
  intro b3
  refine lx_allocr 6 hGF J2.zv52 rfl rfl ?_
  intro b6
  refine lx_assign rfl rfl rfl ?_
  refine lx_nil ?_
  refine xs_plain (E := EE []) ?_
  refine lx_allocr 8 hGF J2.zv52 rfl rfl ?_
  intro b8
  refine lx_nil ?_
  refine x_seq ?_
  refine x_block ?_
  refine xs_plain (E := EE []) ?_
  refine lx_move rfl rfl rfl ?_
  refine lx_un rfl (fun _ => un_not _) rfl rfl ?_
  refine lx_assign rfl rfl rfl ?_
  refine lx_nil ?_
  refine x_false rfl ?_
  refine xs_drawn (E := EE []) mixed (by kernel_rfl) (by kernel_rfl) (by kernel_rfl) ?_
  refine lx_move rfl rfl rfl ?_
  refine lx_bin (v := U8 (f &&& 32#8)) rfl rfl (fun _ => rfl) (fun _ => bin_and_u8 _ _ 32#8) rfl rfl ?_
  refine lx_binB true rfl rfl (fun _ => rfl) (fun _ => bin_neq_u8 _ _ 0#8) (bne_iff_ne.2 hf) rfl rfl ?_
  refine lx_move rfl rfl rfl ?_
  refine lx_loada 3 rfl rfl Tryz.isAgg52 Tryz.sizeOf52 (by simp) rfl rfl ?_
  refine lx_mkif rfl Tryz.underlying52 rfl rfl ?_
  refine lx_loada 3 rfl rfl Tryz.isAgg52 Tryz.sizeOf52 (by simp) rfl rfl ?_
  refine lx_mkif rfl Tryz.underlying52 rfl rfl ?_
  refine lx_inv rfl rfl meant2_Neg rfl ent24 (J2.neg_p p) rfl rfl ?_
  refine lx_invB true rfl rfl meant2_Equal rfl ent26 (J2.equal_p p (J2.gNeg p)) (decide_eq_true he) rfl rfl ?_
  refine lx_pick rfl rfl rfl rfl rfl ?_
  refine lx_assign rfl rfl rfl ?_
  refine lx_nil ?_
  refine x_true rfl ?_
  refine xs_plain (E := EE []) ?_
  refine lx_loada 8 rfl rfl Tryz.isAgg52 Tryz.sizeOf52 (by simp) rfl rfl ?_
  refine lx_storea 6 hGF rfl rfl rfl Tryz.sizeOf52 (by simp) (by simp) (one_u64 _) rfl ?_
  refine lx_assign rfl rfl rfl ?_
  refine lx_nil ?_
  refine x_ret ?_
  repeat (first | refine kseq_ret ?_ | refine kblk_ret ?_)
  exact kret_ct 6 rfl rfl rfl rfl Tryz.isAgg52 Tryz.sizeOf52 (by simp) (fun w hw => ⟨rfl, hp_below hw⟩)
theorem set2_to (p : J2.GP) (f : BitVec 8) (hf : ¬ f &&& 32#8 = 0#8) (he : ¬ p.P = (J2.gNeg p).P) (hg : ¬ E2w.times p.P ORD = none) : Pure Tryz.prog Gt 56 [J2.PtV p, .bool true, U8 f] (.tuple #[J2.PtV J2.gInf, I 104]) := by
  intro w hw
  have hGF : BOk Gt (pl w) := gt_low.plain hw
  refine calls_of_X (G := Gt) Tryz.func56 rfl rfl (Hp (pl w) []) (hp_refl (pl w) trivial rides_true) (good_hp hGF) ?_
  refine xs_plain (E := EE []) ?_
  refine lx_boxr 3 hGF rfl rfl rfl ?_
  intro b3
  refine lx_allocr 6 hGF J2.zv52 rfl rfl ?_
  intro b6
  refine lx_assign rfl rfl rfl ?_
  refine lx_nil ?_
  refine xs_plain (E := EE []) ?_
  refine lx_allocr 8 hGF J2.zv52 rfl rfl ?_
  intro b8
  refine lx_nil ?_
  refine x_seq ?_
  refine x_block ?_
  refine xs_plain (E := EE []) ?_
  refine lx_move rfl rfl rfl ?_
  refine lx_un rfl (fun _ => un_not _) rfl rfl ?_
  refine lx_assign rfl rfl rfl ?_
  refine lx_nil ?_
  refine x_false rfl ?_
  refine xs_drawn (E := EE []) mixed (by kernel_rfl) (by kernel_rfl) (by kernel_rfl) ?_
  refine lx_move rfl rfl rfl ?_
  refine lx_bin (v := U8 (f &&& 32#8)) rfl rfl (fun _ => rfl) (fun _ => bin_and_u8 _ _ 32#8) rfl rfl ?_
  refine lx_binB true rfl rfl (fun _ => rfl) (fun _ => bin_neq_u8 _ _ 0#8) (bne_iff_ne.2 hf) rfl rfl ?_
  refine lx_move rfl rfl rfl ?_
  refine lx_loada 3 rfl rfl Tryz.isAgg52 Tryz.sizeOf52 (by simp) rfl rfl ?_
  refine lx_mkif rfl Tryz.underlying52 rfl rfl ?_
  refine lx_loada 3 rfl rfl Tryz.isAgg52 Tryz.sizeOf52 (by simp) rfl rfl ?_
  refine lx_mkif rfl Tryz.underlying52 rfl rfl ?_
  refine lx_inv rfl rfl meant2_Neg rfl ent24 (J2.neg_p p) rfl rfl ?_
  refine lx_invB false rfl rfl meant2_Equal rfl ent26 (J2.equal_p p (J2.gNeg p)) (decide_eq_false he) rfl rfl ?_
  refine lx_pick rfl rfl rfl rfl rfl ?_
  refine lx_assign rfl rfl rfl ?_
  refine lx_nil ?_
  refine x_false rfl ?_
  refine xs_plain (E := EE []) ?_
  refine lx_loada 3 rfl rfl Tryz.isAgg52 Tryz.sizeOf52 (by simp) rfl rfl ?_
  refine lx_mkif rfl Tryz.underlying52 rfl rfl ?_
  refine lx_invB false rfl rfl meant2_InGroup rfl ent33 (J2.inGroup_p p) (decide_eq_false hg) rfl rfl ?_
  refine lx_un rfl (fun _ => un_not _) rfl rfl ?_
  refine lx_assign rfl rfl rfl ?_
  refine lx_nil ?_
  refine x_true rfl ?_
  refine xs_plain (E := EE []) ?_
  refine lx_loada 8 rfl rfl Tryz.isAgg52 Tryz.sizeOf52 (by simp) rfl rfl ?_
  refine lx_storea 6 hGF rfl rfl rfl Tryz.sizeOf52 (by simp) (by simp) (one_u64 _) rfl ?_
  refine lx_assign rfl rfl rfl ?_
  refine lx_nil ?_
  refine x_ret ?_
  repeat (first | refine kseq_ret ?_ | refine kblk_ret ?_)
  exact kret_ct 6 rfl rfl rfl rfl Tryz.isAgg52 Tryz.sizeOf52 (by simp) (fun w hw => ⟨rfl, hp_below hw⟩)
theorem set2_ty (p : J2.GP) (f : BitVec 8) (hf : ¬ f &&& 32#8 = 0#8) (he : ¬ p.P = (J2.gNeg p).P) (hg : E2w.times p.P ORD = none) : Pure Tryz.prog Gt 56 [J2.PtV p, .bool true, U8 f] (.tuple #[J2.PtV p, I 0]) := by
  intro w hw
  have hGF : BOk Gt (pl w) := gt_low.plain hw
  refine calls_of_X (G := Gt) Tryz.func56 rfl rfl (Hp (pl w) []) (hp_refl (pl w) trivial rides_true) (good_hp hGF) ?_
  refine xs_plain (E := EE []) ?_
  refine lx_boxr 3 hGF rfl rfl rfl ?_
  intro b3
  refine lx_allocr 6 hGF J2.zv52 rfl rfl ?_
  intro b6
  refine lx_assign rfl rfl rfl ?_
  refine lx_nil ?_
  refine xs_plain (E := EE []) ?_
  refine lx_allocr 8 hGF J2.zv52 rfl rfl ?_
  intro b8
  refine lx_nil ?_
  refine x_seq ?_
  refine x_block ?_
  refine xs_plain (E := EE []) ?_
  refine lx_move rfl rfl rfl ?_
  refine lx_un rfl (fun _ => un_not _) rfl rfl ?_
  refine lx_assign rfl rfl rfl ?_
  refine lx_nil ?_
  refine x_false rfl ?_
  refine xs_drawn (E := EE []) mixed (by kernel_rfl) (by kernel_rfl) (by kernel_rfl) ?_
  refine lx_move rfl rfl rfl ?_
  refine lx_bin (v := U8 (f &&& 32#8)) rfl rfl (fun _ => rfl) (fun _ => bin_and_u8 _ _ 32#8) rfl rfl ?_
  refine lx_binB true rfl rfl (fun _ => rfl) (fun _ => bin_neq_u8 _ _ 0#8) (bne_iff_ne.2 hf) rfl rfl ?_
  refine lx_move rfl rfl rfl ?_
  refine lx_loada 3 rfl rfl Tryz.isAgg52 Tryz.sizeOf52 (by simp) rfl rfl ?_
  refine lx_mkif rfl Tryz.underlying52 rfl rfl ?_
  refine lx_loada 3 rfl rfl Tryz.isAgg52 Tryz.sizeOf52 (by simp) rfl rfl ?_
  refine lx_mkif rfl Tryz.underlying52 rfl rfl ?_
  refine lx_inv rfl rfl meant2_Neg rfl ent24 (J2.neg_p p) rfl rfl ?_
  refine lx_invB false rfl rfl meant2_Equal rfl ent26 (J2.equal_p p (J2.gNeg p)) (decide_eq_false he) rfl rfl ?_
  refine lx_pick rfl rfl rfl rfl rfl ?_
  refine lx_assign rfl rfl rfl ?_
  refine lx_nil ?_
  refine x_false rfl ?_
  refine xs_plain (E := EE []) ?_
  refine lx_loada 3 rfl rfl Tryz.isAgg52 Tryz.sizeOf52 (by simp) rfl rfl ?_
  refine lx_mkif rfl Tryz.underlying52 rfl rfl ?_
  refine lx_invB true rfl rfl meant2_InGroup rfl ent33 (J2.inGroup_p p) (decide_eq_true hg) rfl rfl ?_
  refine lx_un rfl (fun _ => un_not _) rfl rfl ?_
  refine lx_assign rfl rfl rfl ?_
  refine lx_nil ?_
  refine x_false rfl ?_
  refine x_skip ?_
  refine xs_plain (E := EE []) ?_
  refine lx_loada 3 rfl rfl Tryz.isAgg52 Tryz.sizeOf52 (by simp) rfl rfl ?_
  refine lx_storea 6 hGF rfl rfl rfl Tryz.sizeOf52 (by simp) (by simp) (one_u64 _) rfl ?_
  refine lx_assign rfl rfl rfl ?_
  refine lx_nil ?_
  refine x_ret ?_
  repeat (first | refine kseq_ret ?_ | refine kblk_ret ?_)
  exact kret_ct 6 rfl rfl rfl rfl Tryz.isAgg52 Tryz.sizeOf52 (by simp) (fun w hw => ⟨rfl, hp_below hw⟩)
theorem set2_fo (p : J2.GP) (f : BitVec 8) (hf : f &&& 32#8 = 0#8) (hg : ¬ E2w.times p.P ORD = none) : Pure Tryz.prog Gt 56 [J2.PtV p, .bool true, U8 f] (.tuple #[J2.PtV J2.gInf, I 104]) := by
  intro w hw
  have hGF : BOk Gt (pl w) := gt_low.plain hw
  refine calls_of_X (G := Gt) Tryz.func56 rfl rfl (Hp (pl w) []) (hp_refl (pl w) trivial rides_true) (good_hp hGF) ?_
  refine xs_plain (E := EE []) ?_
  refine lx_boxr 3 hGF rfl rfl rfl ?_
  intro b3
  refine lx_allocr 6 hGF J2.zv52 rfl rfl ?_
  intro b6
  refine lx_assign rfl rfl rfl ?_
  refine lx_nil ?_
  refine xs_plain (E := EE []) ?_
  refine lx_allocr 8 hGF J2.zv52 rfl rfl ?_
  intro b8
  refine lx_nil ?_
  refine x_seq ?_
  refine x_block ?_
  refine xs_plain (E := EE []) ?_
  refine lx_move rfl rfl rfl ?_
  refine lx_un rfl (fun _ => un_not _) rfl rfl ?_
  refine lx_assign rfl rfl rfl ?_
  refine lx_nil ?_
  refine x_false rfl ?_
  refine xs_drawn (E := EE []) mixed (by kernel_rfl) (by kernel_rfl) (by kernel_rfl) ?_
  refine lx_move rfl rfl rfl ?_
  refine lx_bin (v := U8 (f &&& 32#8)) rfl rfl (fun _ => rfl) (fun _ => bin_and_u8 _ _ 32#8) rfl rfl ?_
  refine lx_binB false rfl rfl (fun _ => rfl) (fun _ => bin_neq_u8 _ _ 0#8) (bne_eq_false_iff_eq.2 hf) rfl rfl ?_
  refine lx_move rfl rfl rfl ?_
  refine lx_skip rfl rfl rfl ?_
  refine lx_skip rfl rfl rfl ?_
  refine lx_skip rfl rfl rfl ?_
  refine lx_skip rfl rfl rfl ?_
  refine lx_skip rfl rfl rfl ?_
  refine lx_skip rfl rfl rfl ?_
  refine lx_pick rfl rfl rfl rfl rfl ?_
  refine lx_assign rfl rfl rfl ?_
  refine lx_nil ?_
  refine x_false rfl ?_
  refine xs_plain (E := EE []) ?_
  refine lx_loada 3 rfl rfl Tryz.isAgg52 Tryz.sizeOf52 (by simp) rfl rfl ?_
  refine lx_mkif rfl Tryz.underlying52 rfl rfl ?_
  refine lx_invB false rfl rfl meant2_InGroup rfl ent33 (J2.inGroup_p p) (decide_eq_false hg) rfl rfl ?_
  refine lx_un rfl (fun _ => un_not _) rfl rfl ?_
  refine lx_assign rfl rfl rfl ?_
  refine lx_nil ?_
  refine x_true rfl ?_
  refine xs_plain (E := EE []) ?_
  refine lx_loada 8 rfl rfl Tryz.isAgg52 Tryz.sizeOf52 (by simp) rfl rfl ?_
  refine lx_storea 6 hGF rfl rfl rfl Tryz.sizeOf52 (by simp) (by simp) (one_u64 _) rfl ?_
  refine lx_assign rfl rfl rfl ?_
  refine lx_nil ?_
  refine x_ret ?_
  repeat (first | refine kseq_ret ?_ | refine kblk_ret ?_)
  exact kret_ct 6 rfl rfl rfl rfl Tryz.isAgg52 Tryz.sizeOf52 (by simp) (fun w hw => ⟨rfl, hp_below hw⟩)
theorem set2_fy (p : J2.GP) (f : BitVec 8) (hf : f &&& 32#8 = 0#8) (hg : E2w.times p.P ORD = none) : Pure Tryz.prog Gt 56 [J2.PtV p, .bool true, U8 f] (.tuple #[J2.PtV p, I 0]) := by
  intro w hw
  have hGF : BOk Gt (pl w) := gt_low.plain hw
  refine calls_of_X (G := Gt) Tryz.func56 rfl rfl (Hp (pl w) []) (hp_refl (pl w) trivial rides_true) (good_hp hGF) ?_
  refine xs_plain (E := EE []) ?_
  refine lx_boxr 3 hGF rfl rfl rfl ?_
  intro b3
  refine lx_allocr 6 hGF J2.zv52 rfl rfl ?_
  intro b6
  refine lx_assign rfl rfl rfl ?_
  refine lx_nil ?_
  refine xs_plain (E := EE []) ?_
  refine lx_allocr 8 hGF J2.zv52 rfl rfl ?_
  intro b8
  refine lx_nil ?_
  refine x_seq ?_
  refine x_block ?_
  refine xs_plain (E := EE []) ?_
  refine lx_move rfl rfl rfl ?_
  refine lx_un rfl (fun _ => un_not _) rfl rfl ?_
  refine lx_assign rfl rfl rfl ?_
  refine lx_nil ?_
  refine x_false rfl ?_
  refine xs_drawn (E := EE []) mixed (by kernel_rfl) (by kernel_rfl) (by kernel_rfl) ?_
  refine lx_move rfl rfl rfl ?_
  refine lx_bin (v := U8 (f &&& 32#8)) rfl rfl (fun _ => rfl) (fun _ => bin_and_u8 _ _ 32#8) rfl rfl ?_
  refine lx_binB false rfl rfl (fun _ => rfl) (fun _ => bin_neq_u8 _ _ 0#8) (bne_eq_false_iff_eq.2 hf) rfl rfl ?_
  refine lx_move rfl rfl rfl ?_
  refine lx_skip rfl rfl rfl ?_
  refine lx_skip rfl rfl rfl ?_
  refine lx_skip rfl rfl rfl ?_
  refine lx_skip rfl rfl rfl ?_
  refine lx_skip rfl rfl rfl ?_
  refine lx_skip rfl rfl rfl ?_
  refine lx_pick rfl rfl rfl rfl rfl ?_
  refine lx_assign rfl rfl rfl ?_
  refine lx_nil ?_
  refine x_false rfl ?_
  refine xs_plain (E := EE []) ?_
  refine lx_loada 3 rfl rfl Tryz.isAgg52 Tryz.sizeOf52 (by simp) rfl rfl ?_
  refine lx_mkif rfl Tryz.underlying52 rfl rfl ?_
  refine lx_invB true rfl rfl meant2_InGroup rfl ent33 (J2.inGroup_p p) (decide_eq_true hg) rfl rfl ?_
  refine lx_un rfl (fun _ => un_not _) rfl rfl ?_
  refine lx_assign rfl rfl rfl ?_
  refine lx_nil ?_
  refine x_false rfl ?_
  refine x_skip ?_
  refine xs_plain (E := EE []) ?_
  refine lx_loada 3 rfl rfl Tryz.isAgg52 Tryz.sizeOf52 (by simp) rfl rfl ?_
  refine lx_storea 6 hGF rfl rfl rfl Tryz.sizeOf52 (by simp) (by simp) (one_u64 _) rfl ?_
  refine lx_assign rfl rfl rfl ?_
  refine lx_nil ?_
  refine x_ret ?_
  repeat (first | refine kseq_ret ?_ | refine kblk_ret ?_)
  exact kret_ct 6 rfl rfl rfl rfl Tryz.isAgg52 Tryz.sizeOf52 (by simp) (fun w hw => ⟨rfl, hp_below hw⟩)
theorem by48_0 : by48 0 = List.replicate 48 0#8 := by decide +kernel
theorem OR0_160 (bs : List (BitVec 8)) : OR0 bs 160#8 = OR0 (OR0 bs 128#8) 32#8 := by
  cases bs with
  | nil => rfl
  | cons a r => show (a ||| 160#8) :: r = ((a ||| 128#8) ||| 32#8) :: r; rw [BitVec.or_assoc]; rfl
theorem zv56 (w : World) : (zeroValue 56).run Tryz.prog w = .ok (.agg ((List.replicate 96 (0#8)).map U8).toArray) w := (Tryz.zeroValue56 w).trans (by rfl)
theorem enc1_n (p : J1.GP) (h : p.P = none) : Pure Tryz.prog Gt 15 [J1.PtV p] (.agg ((OR0 (by48 0) 192#8).map U8).toArray) := by
  intro w hw
  have hGF : BOk Gt (pl w) := gt_low.plain hw
  refine calls_of_X (G := Gt) Tryz.func15 rfl rfl (Hp (pl w) []) (hp_refl (pl w) trivial rides_true) (good_hp hGF) ?_
  refine xs_plain (E := EE []) ?_
  refine lx_boxr 1 hGF rfl rfl rfl ?_
  intro b1
  refine lx_allocr 2 hGF zv46 rfl rfl ?_
  intro b2
  refine lx_nil ?_
  refine xs_plain (E := EE []) ?_
  refine lx_loada 1 rfl rfl Tryz.isAgg30 Tryz.sizeOf30 (by simp) rfl rfl ?_
  refine lx_call rfl rfl ent46 (J1.xy_n p h) rfl rfl ?_
  refine lx_move rfl rfl rfl ?_
  refine lx_ext rfl rfl rfl rfl ?_
  refine lx_ext rfl rfl rfl rfl ?_
  refine lx_ext rfl rfl rfl rfl ?_
  refine lx_allocr 3 hGF zv28 rfl rfl ?_
  intro b3
  refine lx_allocr 4 hGF zv28 rfl rfl ?_
  intro b4
  refine lx_storea 3 hGF rfl rfl rfl Tryz.sizeOf28 (by simp) (by simp) (one_u64 _) rfl ?_
  refine lx_storea 4 hGF rfl rfl rfl Tryz.sizeOf28 (by simp) (by simp) (one_u64 _) rfl ?_
  refine lx_assign rfl rfl rfl ?_
  refine lx_nil ?_
  refine xs_plain (E := EE []) ?_
  refine lx_loada 3 rfl rfl Tryz.isAgg28 Tryz.sizeOf28 (by simp) rfl rfl ?_
  refine lx_call rfl rfl ent52 (fbytes_pure _) rfl rfl ?_
  refine lx_allocr 6 hGF zv46 rfl rfl ?_
  intro b6
  refine lx_storea 6 hGF rfl rfl rfl Tryz.sizeOf46 (by simp) (by simp) (one_u8 _) rfl ?_
  refine lx_nil ?_
  refine xs_drawn (E := EE []) mixed (by kernel_rfl) (by kernel_rfl) (by kernel_rfl) ?_
  refine lx_ia0 0 rfl rfl Tryz.underlying46 Tryz.sizeOf5 (by decide) (by decide) rfl rfl ?_
  refine lx_loadm 6 U8 0 rfl rfl Tryz.isAgg5 (by simp) rfl rfl ?_
  refine lx_move rfl rfl rfl ?_
  refine lx_loada 4 rfl rfl Tryz.isAgg28 Tryz.sizeOf28 (by simp) rfl rfl ?_
  refine lx_call rfl rfl ent54 (flarge_pure _) rfl rfl ?_
  refine lx_call rfl rfl ent53 (flg_n _) rfl rfl ?_
  refine lx_bin (v := U8 ((by48 0).getD 0 0 ||| 192#8)) rfl rfl (fun _ => rfl) (fun _ => bin_or_u8 _ _ 192#8) rfl rfl ?_
  refine lx_ia0 0 rfl rfl Tryz.underlying46 Tryz.sizeOf5 (by decide) (by decide) rfl rfl ?_
  refine lx_storem 6 U8 hGF rfl rfl rfl Tryz.sizeOf5 rfl (by simp) rfl ?_
  refine lx_nil ?_
  refine xs_plain (E := EE []) ?_
  refine lx_loada 6 rfl rfl Tryz.isAgg46 Tryz.sizeOf46 (by simp) rfl rfl ?_
  refine lx_storea 2 hGF rfl rfl rfl Tryz.sizeOf46 (by simp) (by simp) (one_u8 _) rfl ?_
  refine lx_nil ?_
  refine x_ret ?_
  repeat (first | refine kseq_ret ?_ | refine kblk_ret ?_)
  exact kret_own 2 rfl rfl rfl Tryz.isAgg46 Tryz.sizeOf46 (by simp) (fun w hw => ⟨rfl, hp_below hw⟩)
theorem enc1_t (p : J1.GP) (h : ¬ p.P = none) (hl : decide (hf < (J1.PY p.P).val) = true) : Pure Tryz.prog Gt 15 [J1.PtV p] (.agg ((OR0 (by48 (J1.PX p.P)) 160#8).map U8).toArray) := by
  intro w hw
  have hGF : BOk Gt (pl w) := gt_low.plain hw
  refine calls_of_X (G := Gt) Tryz.func15 rfl rfl (Hp (pl w) []) (hp_refl (pl w) trivial rides_true) (good_hp hGF) ?_
  refine xs_plain (E := EE []) ?_
  refine lx_boxr 1 hGF rfl rfl rfl ?_
  intro b1
  refine lx_allocr 2 hGF zv46 rfl rfl ?_
  intro b2
  refine lx_nil ?_
  refine xs_plain (E := EE []) ?_
  refine lx_loada 1 rfl rfl Tryz.isAgg30 Tryz.sizeOf30 (by simp) rfl rfl ?_
  refine lx_call rfl rfl ent46 (J1.xy_s p h) rfl rfl ?_
  refine lx_move rfl rfl rfl ?_
  refine lx_ext rfl rfl rfl rfl ?_
  refine lx_ext rfl rfl rfl rfl ?_
  refine lx_ext rfl rfl rfl rfl ?_
  refine lx_allocr 3 hGF zv28 rfl rfl ?_
  intro b3
  refine lx_allocr 4 hGF zv28 rfl rfl ?_
  intro b4
  refine lx_storea 3 hGF rfl rfl rfl Tryz.sizeOf28 (by simp) (by simp) (one_u64 _) rfl ?_
  refine lx_storea 4 hGF rfl rfl rfl Tryz.sizeOf28 (by simp) (by simp) (one_u64 _) rfl ?_
  refine lx_assign rfl rfl rfl ?_
  refine lx_nil ?_
  refine xs_plain (E := EE []) ?_
  refine lx_loada 3 rfl rfl Tryz.isAgg28 Tryz.sizeOf28 (by simp) rfl rfl ?_
  refine lx_call rfl rfl ent52 (fbytes_pure _) rfl rfl ?_
  refine lx_allocr 6 hGF zv46 rfl rfl ?_
  intro b6
  refine lx_storea 6 hGF rfl rfl rfl Tryz.sizeOf46 (by simp) (by simp) (one_u8 _) rfl ?_
  refine lx_nil ?_
  refine xs_drawn (E := EE []) mixed (by kernel_rfl) (by kernel_rfl) (by kernel_rfl) ?_
  refine lx_ia0 0 rfl rfl Tryz.underlying46 Tryz.sizeOf5 (by decide) (by decide) rfl rfl ?_
  refine lx_loadm 6 U8 0 rfl rfl Tryz.isAgg5 (by simp) rfl rfl ?_
  refine lx_move rfl rfl rfl ?_
  refine lx_loada 4 rfl rfl Tryz.isAgg28 Tryz.sizeOf28 (by simp) rfl rfl ?_
  refine lx_callB true rfl rfl ent54 (flarge_pure _) (hl) rfl rfl ?_
  refine lx_call rfl rfl ent53 (flg_t) rfl rfl ?_
  refine lx_bin (v := U8 ((by48 (J1.PX p.P)).getD 0 0 ||| 160#8)) rfl rfl (fun _ => rfl) (fun _ => bin_or_u8 _ _ 160#8) rfl rfl ?_
  refine lx_ia0 0 rfl rfl Tryz.underlying46 Tryz.sizeOf5 (by decide) (by decide) rfl rfl ?_
  refine lx_storem 6 U8 hGF rfl rfl rfl Tryz.sizeOf5 rfl (by simp) rfl ?_
  refine lx_nil ?_
  refine xs_plain (E := EE []) ?_
  refine lx_loada 6 rfl rfl Tryz.isAgg46 Tryz.sizeOf46 (by simp) rfl rfl ?_
  refine lx_storea 2 hGF rfl rfl rfl Tryz.sizeOf46 (by simp) (by simp) (one_u8 _) rfl ?_
  refine lx_nil ?_
  refine x_ret ?_
  repeat (first | refine kseq_ret ?_ | refine kblk_ret ?_)
  exact kret_own 2 rfl rfl rfl Tryz.isAgg46 Tryz.sizeOf46 (by simp) (fun w hw => ⟨rfl, hp_below hw⟩)
theorem enc1_f (p : J1.GP) (h : ¬ p.P = none) (hl : decide (hf < (J1.PY p.P).val) = false) : Pure Tryz.prog Gt 15 [J1.PtV p] (.agg ((OR0 (by48 (J1.PX p.P)) 128#8).map U8).toArray) := by
  intro w hw
  have hGF : BOk Gt (pl w) := gt_low.plain hw
  refine calls_of_X (G := Gt) Tryz.func15 rfl rfl (Hp (pl w) []) (hp_refl (pl w) trivial rides_true) (good_hp hGF) ?_
  refine xs_plain (E := EE []) ?_
  refine lx_boxr 1 hGF rfl rfl rfl ?_
  intro b1
  refine lx_allocr 2 hGF zv46 rfl rfl ?_
  intro b2
  refine lx_nil ?_
  refine xs_plain (E := EE []) ?_
  refine lx_loada 1 rfl rfl Tryz.isAgg30 Tryz.sizeOf30 (by simp) rfl rfl ?_
  refine lx_call rfl rfl ent46 (J1.xy_s p h) rfl rfl ?_
  refine lx_move rfl rfl rfl ?_
  refine lx_ext rfl rfl rfl rfl ?_
  refine lx_ext rfl rfl rfl rfl ?_
  refine lx_ext rfl rfl rfl rfl ?_
  refine lx_allocr 3 hGF zv28 rfl rfl ?_
  intro b3
  refine lx_allocr 4 hGF zv28 rfl rfl ?_
  intro b4
  refine lx_storea 3 hGF rfl rfl rfl Tryz.sizeOf28 (by simp) (by simp) (one_u64 _) rfl ?_
  refine lx_storea 4 hGF rfl rfl rfl Tryz.sizeOf28 (by simp) (by simp) (one_u64 _) rfl ?_
  refine lx_assign rfl rfl rfl ?_
  refine lx_nil ?_
  refine xs_plain (E := EE []) ?_
  refine lx_loada 3 rfl rfl Tryz.isAgg28 Tryz.sizeOf28 (by simp) rfl rfl ?_
  refine lx_call rfl rfl ent52 (fbytes_pure _) rfl rfl ?_
  refine lx_allocr 6 hGF zv46 rfl rfl ?_
  intro b6
  refine lx_storea 6 hGF rfl rfl rfl Tryz.sizeOf46 (by simp) (by simp) (one_u8 _) rfl ?_
  refine lx_nil ?_
  refine xs_drawn (E := EE []) mixed (by kernel_rfl) (by kernel_rfl) (by kernel_rfl) ?_
  refine lx_ia0 0 rfl rfl Tryz.underlying46 Tryz.sizeOf5 (by decide) (by decide) rfl rfl ?_
  refine lx_loadm 6 U8 0 rfl rfl Tryz.isAgg5 (by simp) rfl rfl ?_
  refine lx_move rfl rfl rfl ?_
  refine lx_loada 4 rfl rfl Tryz.isAgg28 Tryz.sizeOf28 (by simp) rfl rfl ?_
  refine lx_callB false rfl rfl ent54 (flarge_pure _) (hl) rfl rfl ?_
  refine lx_call rfl rfl ent53 (flg_f) rfl rfl ?_
  refine lx_bin (v := U8 ((by48 (J1.PX p.P)).getD 0 0 ||| 128#8)) rfl rfl (fun _ => rfl) (fun _ => bin_or_u8 _ _ 128#8) rfl rfl ?_
  refine lx_ia0 0 rfl rfl Tryz.underlying46 Tryz.sizeOf5 (by decide) (by decide) rfl rfl ?_
  refine lx_storem 6 U8 hGF rfl rfl rfl Tryz.sizeOf5 rfl (by simp) rfl ?_
  refine lx_nil ?_
  refine xs_plain (E := EE []) ?_
  refine lx_loada 6 rfl rfl Tryz.isAgg46 Tryz.sizeOf46 (by simp) rfl rfl ?_
  refine lx_storea 2 hGF rfl rfl rfl Tryz.sizeOf46 (by simp) (by simp) (one_u8 _) rfl ?_
  refine lx_nil ?_
  refine x_ret ?_
  repeat (first | refine kseq_ret ?_ | refine kblk_ret ?_)
  exact kret_own 2 rfl rfl rfl Tryz.isAgg46 Tryz.sizeOf46 (by simp) (fun w hw => ⟨rfl, hp_below hw⟩)
theorem enc2_n (p : J2.GP) (h : p.P = none) : Pure Tryz.prog Gt 18 [J2.PtV p] (.agg ((OR0 (by48 0 ++ by48 0) 192#8).map U8).toArray) := by
  intro w hw
  have hGF : BOk Gt (pl w) := gt_low.plain hw
  refine calls_of_X (G := Gt) Tryz.func18 rfl rfl (Hp (pl w) []) (hp_refl (pl w) trivial rides_true) (good_hp hGF) ?_
  refine xs_plain (E := EE []) ?_
  refine lx_boxr 1 hGF rfl rfl rfl ?_
  intro b1
  refine lx_allocr 2 hGF zv56 rfl rfl ?_
  intro b2
  refine lx_nil ?_
  refine xs_plain (E := EE []) ?_
  refine lx_loada 1 rfl rfl Tryz.isAgg52 Tryz.sizeOf52 (by simp) rfl rfl ?_
  refine lx_call rfl rfl ent57 (J2.xy_n p h) rfl rfl ?_
  refine lx_move rfl rfl rfl ?_
  refine lx_ext rfl rfl rfl rfl ?_
  refine lx_ext rfl rfl rfl rfl ?_
  refine lx_ext rfl rfl rfl rfl ?_
  refine lx_allocr 3 hGF zv50 rfl rfl ?_
  intro b3
  refine lx_allocr 4 hGF zv50 rfl rfl ?_
  intro b4
  refine lx_storea 3 hGF rfl rfl rfl Tryz.sizeOf50 (by simp) (by simp) (one_u64 _) rfl ?_
  refine lx_storea 4 hGF rfl rfl rfl Tryz.sizeOf50 (by simp) (by simp) (one_u64 _) rfl ?_
  refine lx_assign rfl rfl rfl ?_
  refine lx_nil ?_
  refine xs_drawA (E := EE [2999999]) [0, 1, 2, 3, 4, 5] [⟨6, 6, 46, (List.replicate 48 (0#8)).map U8⟩, ⟨7, 7, 46, (List.replicate 48 (0#8)).map U8⟩] [8, 9] mixed rfl (by kernel_rfl) (by kernel_rfl) (by kernel_rfl) (by kernel_rfl) (by kernel_rfl) (by kernel_rfl) (by decide) (by intro x hx; simp only [List.mem_cons, List.not_mem_nil, or_false] at hx; rcases hx with rfl | rfl <;> exact isAlloc_mk rfl zv46 rfl) ?_
  refine lx_fak 6 rfl Tryz.underlying50 rfl Tryz.sizeOf28 (by decide) rfl rfl rfl ?_
  refine lx_loado 3 _ rfl rfl Tryz.isAgg28 Tryz.sizeOf28 (by simp) (ld_r (by simp)) rfl rfl ?_
  refine lx_call rfl rfl ent52 (fbytes_pure _) rfl rfl ?_
  refine lx_fak 0 rfl Tryz.underlying50 rfl Tryz.sizeOf28 (by decide) rfl rfl rfl ?_
  refine lx_loado 3 _ rfl rfl Tryz.isAgg28 Tryz.sizeOf28 (by simp) ld_l rfl rfl ?_
  refine lx_call rfl rfl ent52 (fbytes_pure _) rfl rfl ?_
  refine lx_nil ?_
  refine ⟨_, _, rfl, hGF, by intro x hx; simp only [List.mem_cons, List.not_mem_nil, or_false] at hx; rcases hx with rfl | rfl <;> rfl, by intro x hx; simp only [List.mem_cons, List.not_mem_nil, or_false] at hx; rcases hx with rfl | rfl <;> rfl, fun adr => ?_⟩
  refine lx_storea 6 hGF rfl rfl rfl Tryz.sizeOf46 (by simp) (by simp) (one_u8 _) rfl ?_
  refine lx_storea 7 hGF rfl rfl rfl Tryz.sizeOf46 (by simp) (by simp) (one_u8 _) rfl ?_
  refine lx_nil ?_
  refine xs_plain (E := EE []) ?_
  refine lx_allocr 8 hGF zv56 rfl rfl ?_
  intro b8
  refine lx_nil ?_
  refine xs_drawn (E := EE []) mixed (by kernel_rfl) (by kernel_rfl) (by kernel_rfl) ?_
  refine lx_slarr3 (l := 0) (h' := 48) (m := 48) rfl Tryz.underlying56 Tryz.sizeOf5 rfl rfl rfl (by decide) (by decide) rfl rfl ?_
  refine lx_slarr1 (l := 0) (h' := 48) rfl Tryz.underlying46 Tryz.sizeOf5 rfl rfl (by decide) (by decide) rfl rfl ?_
  refine lx_copys 8 (o := 0) (cs := by48 0) hGF rfl rfl rfl Tryz.underlying22 sz5 (by simp) (fun w' h => BytesAt.range (hp_row (n := 6) rfl w' h)) (by simp) rfl rfl ?_
  rw [lay96a]
  refine lx_nil ?_
  refine xs_drawn (E := EE []) mixed (by kernel_rfl) (by kernel_rfl) (by kernel_rfl) ?_
  refine lx_slarr3 (l := 48) (h' := 96) (m := 96) rfl Tryz.underlying56 Tryz.sizeOf5 rfl rfl rfl (by decide) (by decide) rfl rfl ?_
  refine lx_slarr1 (l := 0) (h' := 48) rfl Tryz.underlying46 Tryz.sizeOf5 rfl rfl (by decide) (by decide) rfl rfl ?_
  refine lx_copys 8 (o := 48) (cs := by48 0) hGF rfl rfl rfl Tryz.underlying22 sz5 (by simp) (fun w' h => BytesAt.range (hp_row (n := 7) rfl w' h)) (by simp) rfl rfl ?_
  rw [lay96b]
  refine lx_nil ?_
  refine xs_drawn (E := EE []) mixed (by kernel_rfl) (by kernel_rfl) (by kernel_rfl) ?_
  refine lx_ia0 0 rfl rfl Tryz.underlying56 Tryz.sizeOf5 (by decide) (by decide) rfl rfl ?_
  refine lx_loadm 8 U8 0 rfl rfl Tryz.isAgg5 (by simp) rfl rfl ?_
  refine lx_move rfl rfl rfl ?_
  refine lx_loada 4 rfl rfl Tryz.isAgg50 Tryz.sizeOf50 (by simp) rfl rfl ?_
  refine lx_call rfl rfl ent58 (e2large _) rfl rfl ?_
  refine lx_call rfl rfl ent53 (flg_n _) rfl rfl ?_
  refine lx_bin (v := U8 ((by48 0 ++ by48 0).getD 0 0 ||| 192#8)) rfl rfl (fun _ => rfl) (fun _ => bin_or_u8 _ _ 192#8) rfl rfl ?_
  refine lx_ia0 0 rfl rfl Tryz.underlying56 Tryz.sizeOf5 (by decide) (by decide) rfl rfl ?_
  refine lx_storem 8 U8 hGF rfl rfl rfl Tryz.sizeOf5 rfl (by simp) rfl ?_
  refine lx_nil ?_
  refine xs_plain (E := EE []) ?_
  refine lx_loada 8 rfl rfl Tryz.isAgg56 Tryz.sizeOf56 (by simp) rfl rfl ?_
  refine lx_storea 2 hGF rfl rfl rfl Tryz.sizeOf56 (by simp) (by simp) (one_u8 _) rfl ?_
  refine lx_nil ?_
  refine x_ret ?_
  repeat (first | refine kseq_ret ?_ | refine kblk_ret ?_)
  exact kret_own 2 rfl rfl rfl Tryz.isAgg56 Tryz.sizeOf56 (by simp) (fun w hw => ⟨rfl, hp_below hw⟩)
theorem enc2_t (p : J2.GP) (h : ¬ p.P = none) (hl : LG2 (J2.PY p.P) = true) : Pure Tryz.prog Gt 18 [J2.PtV p] (.agg ((OR0 (by48 (J2.PX p.P).2 ++ by48 (J2.PX p.P).1) 160#8).map U8).toArray) := by
  intro w hw
  have hGF : BOk Gt (pl w) := gt_low.plain hw
  refine calls_of_X (G := Gt) Tryz.func18 rfl rfl (Hp (pl w) []) (hp_refl (pl w) trivial rides_true) (good_hp hGF) ?_
  refine xs_plain (E := EE []) ?_
  refine lx_boxr 1 hGF rfl rfl rfl ?_
  intro b1
  refine lx_allocr 2 hGF zv56 rfl rfl ?_
  intro b2
  refine lx_nil ?_
  refine xs_plain (E := EE []) ?_
  refine lx_loada 1 rfl rfl Tryz.isAgg52 Tryz.sizeOf52 (by simp) rfl rfl ?_
  refine lx_call rfl rfl ent57 (J2.xy_s p h) rfl rfl ?_
  refine lx_move rfl rfl rfl ?_
  refine lx_ext rfl rfl rfl rfl ?_
  refine lx_ext rfl rfl rfl rfl ?_
  refine lx_ext rfl rfl rfl rfl ?_
  refine lx_allocr 3 hGF zv50 rfl rfl ?_
  intro b3
  refine lx_allocr 4 hGF zv50 rfl rfl ?_
  intro b4
  refine lx_storea 3 hGF rfl rfl rfl Tryz.sizeOf50 (by simp) (by simp) (one_u64 _) rfl ?_
  refine lx_storea 4 hGF rfl rfl rfl Tryz.sizeOf50 (by simp) (by simp) (one_u64 _) rfl ?_
  refine lx_assign rfl rfl rfl ?_
  refine lx_nil ?_
  refine xs_drawA (E := EE [2999999]) [0, 1, 2, 3, 4, 5] [⟨6, 6, 46, (List.replicate 48 (0#8)).map U8⟩, ⟨7, 7, 46, (List.replicate 48 (0#8)).map U8⟩] [8, 9] mixed rfl (by kernel_rfl) (by kernel_rfl) (by kernel_rfl) (by kernel_rfl) (by kernel_rfl) (by kernel_rfl) (by decide) (by intro x hx; simp only [List.mem_cons, List.not_mem_nil, or_false] at hx; rcases hx with rfl | rfl <;> exact isAlloc_mk rfl zv46 rfl) ?_
  refine lx_fak 6 rfl Tryz.underlying50 rfl Tryz.sizeOf28 (by decide) rfl rfl rfl ?_
  refine lx_loado 3 _ rfl rfl Tryz.isAgg28 Tryz.sizeOf28 (by simp) (ld_r (by simp)) rfl rfl ?_
  refine lx_call rfl rfl ent52 (fbytes_pure _) rfl rfl ?_
  refine lx_fak 0 rfl Tryz.underlying50 rfl Tryz.sizeOf28 (by decide) rfl rfl rfl ?_
  refine lx_loado 3 _ rfl rfl Tryz.isAgg28 Tryz.sizeOf28 (by simp) ld_l rfl rfl ?_
  refine lx_call rfl rfl ent52 (fbytes_pure _) rfl rfl ?_
  refine lx_nil ?_
  refine ⟨_, _, rfl, hGF, by intro x hx; simp only [List.mem_cons, List.not_mem_nil, or_false] at hx; rcases hx with rfl | rfl <;> rfl, by intro x hx; simp only [List.mem_cons, List.not_mem_nil, or_false] at hx; rcases hx with rfl | rfl <;> rfl, fun adr => ?_⟩
  refine lx_storea 6 hGF rfl rfl rfl Tryz.sizeOf46 (by simp) (by simp) (one_u8 _) rfl ?_
  refine lx_storea 7 hGF rfl rfl rfl Tryz.sizeOf46 (by simp) (by simp) (one_u8 _) rfl ?_
  refine lx_nil ?_
  refine xs_plain (E := EE []) ?_
  refine lx_allocr 8 hGF zv56 rfl rfl ?_
  intro b8
  refine lx_nil ?_
  refine xs_drawn (E := EE []) mixed (by kernel_rfl) (by kernel_rfl) (by kernel_rfl) ?_
  refine lx_slarr3 (l := 0) (h' := 48) (m := 48) rfl Tryz.underlying56 Tryz.sizeOf5 rfl rfl rfl (by decide) (by decide) rfl rfl ?_
  refine lx_slarr1 (l := 0) (h' := 48) rfl Tryz.underlying46 Tryz.sizeOf5 rfl rfl (by decide) (by decide) rfl rfl ?_
  refine lx_copys 8 (o := 0) (cs := by48 (J2.PX p.P).2) hGF rfl rfl rfl Tryz.underlying22 sz5 (by simp) (fun w' h => BytesAt.range (hp_row (n := 6) rfl w' h)) (by simp) rfl rfl ?_
  rw [lay96a]
  refine lx_nil ?_
  refine xs_drawn (E := EE []) mixed (by kernel_rfl) (by kernel_rfl) (by kernel_rfl) ?_
  refine lx_slarr3 (l := 48) (h' := 96) (m := 96) rfl Tryz.underlying56 Tryz.sizeOf5 rfl rfl rfl (by decide) (by decide) rfl rfl ?_
  refine lx_slarr1 (l := 0) (h' := 48) rfl Tryz.underlying46 Tryz.sizeOf5 rfl rfl (by decide) (by decide) rfl rfl ?_
  refine lx_copys 8 (o := 48) (cs := by48 (J2.PX p.P).1) hGF rfl rfl rfl Tryz.underlying22 sz5 (by simp) (fun w' h => BytesAt.range (hp_row (n := 7) rfl w' h)) (by simp) rfl rfl ?_
  rw [lay96b]
  refine lx_nil ?_
  refine xs_drawn (E := EE []) mixed (by kernel_rfl) (by kernel_rfl) (by kernel_rfl) ?_
  refine lx_ia0 0 rfl rfl Tryz.underlying56 Tryz.sizeOf5 (by decide) (by decide) rfl rfl ?_
  refine lx_loadm 8 U8 0 rfl rfl Tryz.isAgg5 (by simp) rfl rfl ?_
  refine lx_move rfl rfl rfl ?_
  refine lx_loada 4 rfl rfl Tryz.isAgg50 Tryz.sizeOf50 (by simp) rfl rfl ?_
  refine lx_callB true rfl rfl ent58 (e2large _) (hl) rfl rfl ?_
  refine lx_call rfl rfl ent53 (flg_t) rfl rfl ?_
  refine lx_bin (v := U8 ((by48 (J2.PX p.P).2 ++ by48 (J2.PX p.P).1).getD 0 0 ||| 160#8)) rfl rfl (fun _ => rfl) (fun _ => bin_or_u8 _ _ 160#8) rfl rfl ?_
  refine lx_ia0 0 rfl rfl Tryz.underlying56 Tryz.sizeOf5 (by decide) (by decide) rfl rfl ?_
  refine lx_storem 8 U8 hGF rfl rfl rfl Tryz.sizeOf5 rfl (by simp) rfl ?_
  refine lx_nil ?_
  refine xs_plain (E := EE []) ?_
  refine lx_loada 8 rfl rfl Tryz.isAgg56 Tryz.sizeOf56 (by simp) rfl rfl ?_
  refine lx_storea 2 hGF rfl rfl rfl Tryz.sizeOf56 (by simp) (by simp) (one_u8 _) rfl ?_
  refine lx_nil ?_
  refine x_ret ?_
  repeat (first | refine kseq_ret ?_ | refine kblk_ret ?_)
  exact kret_own 2 rfl rfl rfl Tryz.isAgg56 Tryz.sizeOf56 (by simp) (fun w hw => ⟨rfl, hp_below hw⟩)
theorem enc2_f (p : J2.GP) (h : ¬ p.P = none) (hl : LG2 (J2.PY p.P) = false) : Pure Tryz.prog Gt 18 [J2.PtV p] (.agg ((OR0 (by48 (J2.PX p.P).2 ++ by48 (J2.PX p.P).1) 128#8).map U8).toArray) := by
  intro w hw
  have hGF : BOk Gt (pl w) := gt_low.plain hw
  refine calls_of_X (G := Gt) Tryz.func18 rfl rfl (Hp (pl w) []) (hp_refl (pl w) trivial rides_true) (good_hp hGF) ?_
  refine xs_plain (E := EE []) ?_
  refine lx_boxr 1 hGF rfl rfl rfl ?_
  intro b1
  refine lx_allocr 2 hGF zv56 rfl rfl ?_
  intro b2
  refine lx_nil ?_
  refine xs_plain (E := EE []) ?_
  refine lx_loada 1 rfl rfl Tryz.isAgg52 Tryz.sizeOf52 (by simp) rfl rfl ?_
  refine lx_call rfl rfl ent57 (J2.xy_s p h) rfl rfl ?_
  refine lx_move rfl rfl rfl ?_
  refine lx_ext rfl rfl rfl rfl ?_
  refine lx_ext rfl rfl rfl rfl ?_
  refine lx_ext rfl rfl rfl rfl ?_
  refine lx_allocr 3 hGF zv50 rfl rfl ?_
  intro b3
  refine lx_allocr 4 hGF zv50 rfl rfl ?_
  intro b4
  refine lx_storea 3 hGF rfl rfl rfl Tryz.sizeOf50 (by simp) (by simp) (one_u64 _) rfl ?_
  refine lx_storea 4 hGF rfl rfl rfl Tryz.sizeOf50 (by simp) (by simp) (one_u64 _) rfl ?_
  refine lx_assign rfl rfl rfl ?_
  refine lx_nil ?_
  refine xs_drawA (E := EE [2999999]) [0, 1, 2, 3, 4, 5] [⟨6, 6, 46, (List.replicate 48 (0#8)).map U8⟩, ⟨7, 7, 46, (List.replicate 48 (0#8)).map U8⟩] [8, 9] mixed rfl (by kernel_rfl) (by kernel_rfl) (by kernel_rfl) (by kernel_rfl) (by kernel_rfl) (by kernel_rfl) (by decide) (by intro x hx; simp only [List.mem_cons, List.not_mem_nil, or_false] at hx; rcases hx with rfl | rfl <;> exact isAlloc_mk rfl zv46 rfl) ?_
  refine lx_fak 6 rfl Tryz.underlying50 rfl Tryz.sizeOf28 (by decide) rfl rfl rfl ?_
  refine lx_loado 3 _ rfl rfl Tryz.isAgg28 Tryz.sizeOf28 (by simp) (ld_r (by simp)) rfl rfl ?_
  refine lx_call rfl rfl ent52 (fbytes_pure _) rfl rfl ?_
  refine lx_fak 0 rfl Tryz.underlying50 rfl Tryz.sizeOf28 (by decide) rfl rfl rfl ?_
  refine lx_loado 3 _ rfl rfl Tryz.isAgg28 Tryz.sizeOf28 (by simp) ld_l rfl rfl ?_
  refine lx_call rfl rfl ent52 (fbytes_pure _) rfl rfl ?_
  refine lx_nil ?_
  refine ⟨_, _, rfl, hGF, by intro x hx; simp only [List.mem_cons, List.not_mem_nil, or_false] at hx; rcases hx with rfl | rfl <;> rfl, by intro x hx; simp only [List.mem_cons, List.not_mem_nil, or_false] at hx; rcases hx with rfl | rfl <;> rfl, fun adr => ?_⟩
  refine lx_storea 6 hGF rfl rfl rfl Tryz.sizeOf46 (by simp) (by simp) (one_u8 _) rfl ?_
  refine lx_storea 7 hGF rfl rfl rfl Tryz.sizeOf46 (by simp) (by simp) (one_u8 _) rfl ?_
  refine lx_nil ?_
  refine xs_plain (E := EE []) ?_
  refine lx_allocr 8 hGF zv56 rfl rfl ?_
  intro b8
  refine lx_nil ?_
  refine xs_drawn (E := EE []) mixed (by kernel_rfl) (by kernel_rfl) (by kernel_rfl) ?_
  refine lx_slarr3 (l := 0) (h' := 48) (m := 48) rfl Tryz.underlying56 Tryz.sizeOf5 rfl rfl rfl (by decide) (by decide) rfl rfl ?_
  refine lx_slarr1 (l := 0) (h' := 48) rfl Tryz.underlying46 Tryz.sizeOf5 rfl rfl (by decide) (by decide) rfl rfl ?_
  refine lx_copys 8 (o := 0) (cs := by48 (J2.PX p.P).2) hGF rfl rfl rfl Tryz.underlying22 sz5 (by simp) (fun w' h => BytesAt.range (hp_row (n := 6) rfl w' h)) (by simp) rfl rfl ?_
  rw [lay96a]
  refine lx_nil ?_
  refine xs_drawn (E := EE []) mixed (by kernel_rfl) (by kernel_rfl) (by kernel_rfl) ?_
  refine lx_slarr3 (l := 48) (h' := 96) (m := 96) rfl Tryz.underlying56 Tryz.sizeOf5 rfl rfl rfl (by decide) (by decide) rfl rfl ?_
  refine lx_slarr1 (l := 0) (h' := 48) rfl Tryz.underlying46 Tryz.sizeOf5 rfl rfl (by decide) (by decide) rfl rfl ?_
  refine lx_copys 8 (o := 48) (cs := by48 (J2.PX p.P).1) hGF rfl rfl rfl Tryz.underlying22 sz5 (by simp) (fun w' h => BytesAt.range (hp_row (n := 7) rfl w' h)) (by simp) rfl rfl ?_
  rw [lay96b]
  refine lx_nil ?_
  refine xs_drawn (E := EE []) mixed (by kernel_rfl) (by kernel_rfl) (by kernel_rfl) ?_
  refine lx_ia0 0 rfl rfl Tryz.underlying56 Tryz.sizeOf5 (by decide) (by decide) rfl rfl ?_
  refine lx_loadm 8 U8 0 rfl rfl Tryz.isAgg5 (by simp) rfl rfl ?_
  refine lx_move rfl rfl rfl ?_
  refine lx_loada 4 rfl rfl Tryz.isAgg50 Tryz.sizeOf50 (by simp) rfl rfl ?_
  refine lx_callB false rfl rfl ent58 (e2large _) (hl) rfl rfl ?_
  refine lx_call rfl rfl ent53 (flg_f) rfl rfl ?_
  refine lx_bin (v := U8 ((by48 (J2.PX p.P).2 ++ by48 (J2.PX p.P).1).getD 0 0 ||| 128#8)) rfl rfl (fun _ => rfl) (fun _ => bin_or_u8 _ _ 128#8) rfl rfl ?_
  refine lx_ia0 0 rfl rfl Tryz.underlying56 Tryz.sizeOf5 (by decide) (by decide) rfl rfl ?_
  refine lx_storem 8 U8 hGF rfl rfl rfl Tryz.sizeOf5 rfl (by simp) rfl ?_
  refine lx_nil ?_
  refine xs_plain (E := EE []) ?_
  refine lx_loada 8 rfl rfl Tryz.isAgg56 Tryz.sizeOf56 (by simp) rfl rfl ?_
  refine lx_storea 2 hGF rfl rfl rfl Tryz.sizeOf56 (by simp) (by simp) (one_u8 _) rfl ?_
  refine lx_nil ?_
  refine x_ret ?_
  repeat (first | refine kseq_ret ?_ | refine kblk_ret ?_)
  exact kret_own 2 rfl rfl rfl Tryz.isAgg56 Tryz.sizeOf56 (by simp) (fun w hw => ⟨rfl, hp_below hw⟩)
theorem EN1_n : OR0 (by48 0) 192#8 = EN1 none := by rw [by48_0]; rfl
theorem EN2_n : OR0 (by48 0 ++ by48 0) 192#8 = EN2 none := by rw [by48_0]; rfl
theorem enc1_p (p : J1.GP) : Pure Tryz.prog Gt 15 [J1.PtV p] (.agg ((EN1 p.P).map U8).toArray) := by
  by_cases h : p.P = none
  · have k := enc1_n p h
    rw [EN1_n] at k
    rw [h]; exact k
  · obtain ⟨v, hv⟩ : ∃ v, p.P = some v := by
      cases e : p.P with
      | none => exact absurd e h
      | some v => exact ⟨v, rfl⟩
    have ex : J1.PX p.P = v.1 := by rw [hv]; rfl
    have ey : J1.PY p.P = v.2 := by rw [hv]; rfl
    have e1 : EN1 p.P = ENF (by48 v.1) (LG2 (v.2, 0)) := by rw [hv]; rfl
    have lg : decide (hf < v.2.val) = LG2 (v.2, 0) := LG2_t (x := (v.2, 0)) rfl
    cases hl : LG2 (v.2, 0) with
    | true =>
      have k := enc1_t p h (by rw [ey, lg, hl])
      rw [ex, OR0_160] at k
      rw [e1, hl]; exact k
    | false =>
      have k := enc1_f p h (by rw [ey, lg, hl])
      rw [ex] at k
      rw [e1, hl]; exact k
theorem enc2_p (p : J2.GP) : Pure Tryz.prog Gt 18 [J2.PtV p] (.agg ((EN2 p.P).map U8).toArray) := by
  by_cases h : p.P = none
  · have k := enc2_n p h
    rw [EN2_n] at k
    rw [h]; exact k
  · obtain ⟨v, hv⟩ : ∃ v, p.P = some v := by
      cases e : p.P with
      | none => exact absurd e h
      | some v => exact ⟨v, rfl⟩
    have ex : J2.PX p.P = v.1 := by rw [hv]; rfl
    have ey : J2.PY p.P = v.2 := by rw [hv]; rfl
    have e1 : EN2 p.P = ENF (by48 v.1.2 ++ by48 v.1.1) (LG2 v.2) := by rw [hv]; rfl
    cases hl : LG2 v.2 with
    | true =>
      have k := enc2_t p h (by rw [ey, hl])
      rw [ex, OR0_160] at k
      rw [e1, hl]; exact k
    | false =>
      have k := enc2_f p h (by rw [ey, hl])
      rw [ex] at k
      rw [e1, hl]; exact k
end Go.Proofs.YtamddkjccmhgaaaGreatDoor

namespace Go.Proofs.YtamddkjccmhgaaaGreatDoor
open Go.RowKit
set_option maxRecDepth 100000
set_option maxHeartbeats 1000000
attribute [local simp] fe_len nm_len AS_len SS_len MONT_len RM_len FRs_len BYs_len by48_len PLl TWOl ONEl N1l IVPl HFPl RTPl FL_len SP_len fe2_len SP2_len FM_len J1.GL_len J2.GL_len MK_len OR0_len

theorem D1_on {bs : List (BitVec 8)} {c : Int} {P : Pt Zp} (h : D1 bs c P) : E1.onP P := by
  rcases h with ⟨_, _, rfl⟩ | ⟨_, ⟨_, _, rfl⟩ | ⟨_, ⟨_, _, rfl⟩ | ⟨_, ⟨_, _, rfl⟩ | ⟨_, ⟨_, _, rfl⟩ | ⟨q, h⟩⟩⟩⟩⟩
  · exact True.intro
  · exact True.intro
  · exact True.intro
  · exact True.intro
  · exact True.intro
  · rcases h with ⟨_, _, rfl⟩ | ⟨_, ⟨_, _, rfl⟩ | ⟨_, _, rfl⟩⟩
    · exact True.intro
    · exact True.intro
    · exact J1.LY_on q _
theorem D2_on {bs : List (BitVec 8)} {c : Int} {P : Pt W2} (h : D2 bs c P) : E2w.onP P := by
  rcases h with ⟨_, _, rfl⟩ | ⟨_, ⟨_, _, rfl⟩ | ⟨_, ⟨_, _, rfl⟩ | ⟨_, ⟨_, _, rfl⟩ | ⟨_, ⟨_, _, rfl⟩ | ⟨r, hr, _, h⟩⟩⟩⟩⟩
  · exact True.intro
  · exact True.intro
  · exact True.intro
  · exact True.intro
  · exact True.intro
  · rcases h with ⟨_, _, rfl⟩ | ⟨_, ⟨_, _, rfl⟩ | ⟨_, _, rfl⟩⟩
    · exact True.intro
    · exact True.intro
    · exact J2.onP_some (J2.E1_rs.2 (J2.sgY_sq hr _))
/-- A point with z 1. -/
def cA1 (P : Pt Zp) (on : E1.onP P) : J1.GP := ⟨match P with | none => (0, 0, 0) | some p => (p.1, p.2, 1), P, on, by
  cases P with
  | none => rfl
  | some p => exact E1.jr_at p one_ne0⟩
def cA2 (P : Pt W2) (on : E2w.onP P) : J2.GP := ⟨match P with | none => (ze2, ze2, ze2) | some p => (p.1, p.2, on2), P, on, by
  cases P with
  | none => rfl
  | some p => exact jr2_at p⟩
theorem from_y (a : Option Addr) (len k : Nat) (xs : List (BitVec 8)) (h48 : xs.length = 48) (hn : len = 48) (hl : BN xs 48 < PP) (x : Zp) (hx : zp (BN xs 48) = x) (w : World) (hw : Gt w) (hby : BytesAt w a xs) : Calls Tryz.prog 36 [.slice a len k].toArray w (fun r w' => r = .returned (.tuple #[EV x, .bool true]) ∧ Grow w w') := by
  have h := ffrom_calls a k xs w hw hby
  rw [h48, show FV xs = x from (if_pos ⟨h48, hl⟩).trans hx, show FO xs = true from decide_eq_true ⟨h48, hl⟩] at h
  subst hn
  exact h
theorem from_n (a : Option Addr) (len k : Nat) (xs : List (BitVec 8)) (h48 : xs.length = 48) (hn : len = 48) (hl : ¬ BN xs 48 < PP) (w : World) (hw : Gt w) (hby : BytesAt w a xs) : Calls Tryz.prog 36 [.slice a len k].toArray w (fun r w' => r = .returned (.tuple #[EV 0, .bool false]) ∧ Grow w w') := by
  have h := ffrom_calls a k xs w hw hby
  rw [h48, show FV xs = 0 from if_neg (fun e => hl e.2), show FO xs = false from decide_eq_false (fun e => hl e.2)] at h
  subst hn
  exact h
theorem dec1_err (e : Option Addr) (cap : Nat) (bs : List (BitVec 8)) (c : Int) (hR : ∀ w', Gt w' → BytesAt w' e bs → Calls Tryz.prog 35 [.slice e bs.length cap, I 48].toArray w' (fun r w'' => r = .returned (.tuple #[U8 0#8, I c]) ∧ Grow w' w'')) (hc0 : c ≠ 0) (w : World) (hw : Gt w) (hby : BytesAt w e bs) :
    Calls Tryz.prog 10 [.slice e bs.length cap].toArray w (fun r w' => r = .returned (.tuple #[J1.PtV J1.gInf, I c]) ∧ Grow w w') := by
  have hGF : BOk Gt (pl w) := gt_low.plain hw
  refine calls_of_X (G := Gt) Tryz.func10 rfl rfl (Hp (pl w) []) (hp_refl (pl w) trivial rides_true) (good_hp hGF) ?_
  refine xs_plain (E := EE [37, 2000037]) ?_
  refine lx_allocr 2 hGF J1.zv30 rfl rfl ?_
  intro b2
  refine lx_assign rfl rfl rfl ?_
  refine lx_nil ?_
  refine xs_plain (E := EE [37, 2000037]) ?_
  refine lx_move rfl rfl rfl ?_
  refine lx_callC rfl rfl ent35 (fun w' hC hG => hR w' hG (hby.grow (hp_below hC))) rfl rfl ?_
  refine lx_move rfl rfl rfl ?_
  refine lx_ext rfl rfl rfl rfl ?_
  refine lx_ext rfl rfl rfl rfl ?_
  refine lx_assign rfl rfl rfl ?_
  refine lx_assign rfl rfl rfl ?_
  refine lx_nil ?_
  refine x_seq ?_
  refine xs_plain (E := EE [37, 2000037]) ?_
  refine lx_move rfl rfl rfl ?_
  refine lx_binB true rfl rfl (fun _ => rfl) (fun _ => bin_neq_i _ _ _) (bne_iff_ne.2 hc0) rfl rfl ?_
  refine lx_move rfl rfl rfl ?_
  refine lx_skip rfl rfl rfl ?_
  refine lx_skip rfl rfl rfl ?_
  refine lx_skip rfl rfl rfl ?_
  refine lx_pick rfl rfl rfl rfl rfl ?_
  refine lx_nil ?_
  refine x_true rfl ?_
  refine xs_plain (E := EE [37, 2000037]) ?_
  refine lx_call rfl rfl ent34 (J1.inf_p) rfl rfl ?_
  refine lx_move rfl rfl rfl ?_
  refine lx_storea 2 hGF rfl rfl rfl Tryz.sizeOf30 (by simp) (by simp) (one_u64 _) rfl ?_
  refine lx_assign rfl rfl rfl ?_
  refine lx_nil ?_
  refine x_ret ?_
  repeat (first | refine kseq_ret ?_ | refine kblk_ret ?_)
  exact kret_ct 2 rfl rfl rfl rfl Tryz.isAgg30 Tryz.sizeOf30 (by simp) (fun w hw => ⟨rfl, hp_below hw⟩)
theorem dec1_inf (e : Option Addr) (cap : Nat) (bs : List (BitVec 8)) (f : BitVec 8) (hR : ∀ w', Gt w' → BytesAt w' e bs → Calls Tryz.prog 35 [.slice e bs.length cap, I 48].toArray w' (fun r w'' => r = .returned (.tuple #[U8 f, I 0]) ∧ Grow w' w'')) (h6 : ¬ f &&& 64#8 = 0#8) (w : World) (hw : Gt w) (hby : BytesAt w e bs) :
    Calls Tryz.prog 10 [.slice e bs.length cap].toArray w (fun r w' => r = .returned (.tuple #[J1.PtV J1.gInf, I 0]) ∧ Grow w w') := by
  have hGF : BOk Gt (pl w) := gt_low.plain hw
  refine calls_of_X (G := Gt) Tryz.func10 rfl rfl (Hp (pl w) []) (hp_refl (pl w) trivial rides_true) (good_hp hGF) ?_
  refine xs_plain (E := EE [37, 2000037]) ?_
  refine lx_allocr 2 hGF J1.zv30 rfl rfl ?_
  intro b2
  refine lx_assign rfl rfl rfl ?_
  refine lx_nil ?_
  refine xs_plain (E := EE [37, 2000037]) ?_
  refine lx_move rfl rfl rfl ?_
  refine lx_callC rfl rfl ent35 (fun w' hC hG => hR w' hG (hby.grow (hp_below hC))) rfl rfl ?_
  refine lx_move rfl rfl rfl ?_
  refine lx_ext rfl rfl rfl rfl ?_
  refine lx_ext rfl rfl rfl rfl ?_
  refine lx_assign rfl rfl rfl ?_
  refine lx_assign rfl rfl rfl ?_
  refine lx_nil ?_
  refine x_seq ?_
  refine xs_plain (E := EE [37, 2000037]) ?_
  refine lx_move rfl rfl rfl ?_
  refine lx_binB false rfl rfl (fun _ => rfl) (fun _ => bin_neq_i _ _ _) (bne_eq_false_iff_eq.2 rfl) rfl rfl ?_
  refine lx_move rfl rfl rfl ?_
  refine lx_move rfl rfl rfl ?_
  refine lx_bin (v := U8 (f &&& 64#8)) rfl rfl (fun _ => rfl) (fun _ => bin_and_u8 _ _ 64#8) rfl rfl ?_
  refine lx_binB true rfl rfl (fun _ => rfl) (fun _ => bin_neq_u8 _ _ 0#8) (bne_iff_ne.2 h6) rfl rfl ?_
  refine lx_pick rfl rfl rfl rfl rfl ?_
  refine lx_nil ?_
  refine x_true rfl ?_
  refine xs_plain (E := EE [37, 2000037]) ?_
  refine lx_call rfl rfl ent34 (J1.inf_p) rfl rfl ?_
  refine lx_move rfl rfl rfl ?_
  refine lx_storea 2 hGF rfl rfl rfl Tryz.sizeOf30 (by simp) (by simp) (one_u64 _) rfl ?_
  refine lx_assign rfl rfl rfl ?_
  refine lx_nil ?_
  refine x_ret ?_
  repeat (first | refine kseq_ret ?_ | refine kblk_ret ?_)
  exact kret_ct 2 rfl rfl rfl rfl Tryz.isAgg30 Tryz.sizeOf30 (by simp) (fun w hw => ⟨rfl, hp_below hw⟩)
theorem dec1_ra (e : Option Addr) (cap : Nat) (bs : List (BitVec 8)) (f : BitVec 8) (hcap : bs.length ≤ cap) (hR : ∀ w', Gt w' → BytesAt w' e bs → Calls Tryz.prog 35 [.slice e bs.length cap, I 48].toArray w' (fun r w'' => r = .returned (.tuple #[U8 f, I 0]) ∧ Grow w' w'')) (h48 : bs.length = 48) (h6 : f &&& 64#8 = 0#8) (hp : ¬ BN (LO bs 0) 48 < PP) (w : World) (hw : Gt w) (hby : BytesAt w e bs) :
    Calls Tryz.prog 10 [.slice e bs.length cap].toArray w (fun r w' => r = .returned (.tuple #[J1.PtV J1.gInf, I 102]) ∧ Grow w w') := by
  have hGF : BOk Gt (pl w) := gt_low.plain hw
  refine calls_of_X (G := Gt) Tryz.func10 rfl rfl (Hp (pl w) []) (hp_refl (pl w) trivial rides_true) (good_hp hGF) ?_
  refine xs_plain (E := EE [37, 2000037]) ?_
  refine lx_allocr 2 hGF J1.zv30 rfl rfl ?_
  intro b2
  refine lx_assign rfl rfl rfl ?_
  refine lx_nil ?_
  refine xs_plain (E := EE [37, 2000037]) ?_
  refine lx_move rfl rfl rfl ?_
  refine lx_callC rfl rfl ent35 (fun w' hC hG => hR w' hG (hby.grow (hp_below hC))) rfl rfl ?_
  refine lx_move rfl rfl rfl ?_
  refine lx_ext rfl rfl rfl rfl ?_
  refine lx_ext rfl rfl rfl rfl ?_
  refine lx_assign rfl rfl rfl ?_
  refine lx_assign rfl rfl rfl ?_
  refine lx_nil ?_
  refine x_seq ?_
  refine xs_plain (E := EE [37, 2000037]) ?_
  refine lx_move rfl rfl rfl ?_
  refine lx_binB false rfl rfl (fun _ => rfl) (fun _ => bin_neq_i _ _ _) (bne_eq_false_iff_eq.2 rfl) rfl rfl ?_
  refine lx_move rfl rfl rfl ?_
  refine lx_move rfl rfl rfl ?_
  refine lx_bin (v := U8 (f &&& 64#8)) rfl rfl (fun _ => rfl) (fun _ => bin_and_u8 _ _ 64#8) rfl rfl ?_
  refine lx_binB false rfl rfl (fun _ => rfl) (fun _ => bin_neq_u8 _ _ 0#8) (bne_eq_false_iff_eq.2 h6) rfl rfl ?_
  refine lx_pick rfl rfl rfl rfl rfl ?_
  refine lx_nil ?_
  refine x_false rfl ?_
  refine x_skip ?_
  refine xs_plain (E := EE [37, 2000037]) ?_
  refine lx_move rfl rfl rfl ?_
  refine lx_callG rfl rfl ent37 rfl rfl (fun w' hw' => (bare_s e cap bs (by omega) (by omega) hcap w' (hGF.g _ _ _ hw') (hby.grow (hp_below hw'))).mono fun e' w'' h => ?_)
  obtain ⟨b7, c7, k7, rfl, hg, hb7, hob, q3, q2⟩ := h
  refine ⟨_, _, rfl, good_hp hGF, hw'.news rides_true hg [(33, b7, c7, 5)] ?_ inj_one, hp_fresh rides_true rfl, ?_⟩
  · intro n' b' c' t' hl
    rcases lkB_cons hl with ⟨_, e⟩ | ⟨_, hl⟩
    · cases e; exact ⟨hb7, hob⟩
    · cases hl
  clear hw' hg hb7 hob
  refine lx_callC rfl rfl ent36 (fun w' hC hG => from_n _ _ _ (MK bs) (by rw [MK_len]; exact h48) h48 (LO_1 h48 ▸ hp) w' hG (bytes_pre (hp_row (n := 33) rfl w' hC) (by rw [MK_len]; exact q3))) rfl rfl ?_
  refine lx_move rfl rfl rfl ?_
  refine lx_ext rfl rfl rfl rfl ?_
  refine lx_ext rfl rfl rfl rfl ?_
  refine lx_allocr 6 hGF zv28 rfl rfl ?_
  intro b6
  refine lx_storea 6 hGF rfl rfl rfl Tryz.sizeOf28 (by simp) (by simp) (one_u64 _) rfl ?_
  refine lx_assign rfl rfl rfl ?_
  refine lx_nil ?_
  refine x_seq ?_
  refine xs_plain (E := EE [37, 2000037]) ?_
  refine lx_move rfl rfl rfl ?_
  refine lx_un rfl (fun _ => un_not _) rfl rfl ?_
  refine lx_nil ?_
  refine x_true rfl ?_
  refine xs_plain (E := EE [37, 2000037]) ?_
  refine lx_call rfl rfl ent34 (J1.inf_p) rfl rfl ?_
  refine lx_storea 2 hGF rfl rfl rfl Tryz.sizeOf30 (by simp) (by simp) (one_u64 _) rfl ?_
  refine lx_assign rfl rfl rfl ?_
  refine lx_nil ?_
  refine x_ret ?_
  repeat (first | refine kseq_ret ?_ | refine kblk_ret ?_)
  exact kret_ct 2 rfl rfl rfl rfl Tryz.isAgg30 Tryz.sizeOf30 (by simp) (fun w hw => ⟨rfl, hp_below hw⟩)
theorem dec1_ok (e : Option Addr) (cap : Nat) (bs : List (BitVec 8)) (f : BitVec 8) (hcap : bs.length ≤ cap) (hR : ∀ w', Gt w' → BytesAt w' e bs → Calls Tryz.prog 35 [.slice e bs.length cap, I 48].toArray w' (fun r w'' => r = .returned (.tuple #[U8 f, I 0]) ∧ Grow w' w'')) (h48 : bs.length = 48) (h6 : f &&& 64#8 = 0#8) (hp : BN (LO bs 0) 48 < PP) (x : Zp) (hx : zp (BN (LO bs 0) 48) = x) (l : Bool) (hl : (f &&& 32#8 != 0#8) = l) (p : J1.GP) (k : Bool) (hL : Pure Tryz.prog Gt 30 [EV x, .bool l] (.tuple #[J1.PtV p, .bool k])) (t : J1.GP) (c : Int) (hS : Pure Tryz.prog Gt 38 [J1.PtV p, .bool k, U8 f] (.tuple #[J1.PtV t, I c])) (w : World) (hw : Gt w) (hby : BytesAt w e bs) :
    Calls Tryz.prog 10 [.slice e bs.length cap].toArray w (fun r w' => r = .returned (.tuple #[J1.PtV t, I c]) ∧ Grow w w') := by
  have hGF : BOk Gt (pl w) := gt_low.plain hw
  refine calls_of_X (G := Gt) Tryz.func10 rfl rfl (Hp (pl w) []) (hp_refl (pl w) trivial rides_true) (good_hp hGF) ?_
  refine xs_plain (E := EE [37, 2000037]) ?_
  refine lx_allocr 2 hGF J1.zv30 rfl rfl ?_
  intro b2
  refine lx_assign rfl rfl rfl ?_
  refine lx_nil ?_
  refine xs_plain (E := EE [37, 2000037]) ?_
  refine lx_move rfl rfl rfl ?_
  refine lx_callC rfl rfl ent35 (fun w' hC hG => hR w' hG (hby.grow (hp_below hC))) rfl rfl ?_
  refine lx_move rfl rfl rfl ?_
  refine lx_ext rfl rfl rfl rfl ?_
  refine lx_ext rfl rfl rfl rfl ?_
  refine lx_assign rfl rfl rfl ?_
  refine lx_assign rfl rfl rfl ?_
  refine lx_nil ?_
  refine x_seq ?_
  refine xs_plain (E := EE [37, 2000037]) ?_
  refine lx_move rfl rfl rfl ?_
  refine lx_binB false rfl rfl (fun _ => rfl) (fun _ => bin_neq_i _ _ _) (bne_eq_false_iff_eq.2 rfl) rfl rfl ?_
  refine lx_move rfl rfl rfl ?_
  refine lx_move rfl rfl rfl ?_
  refine lx_bin (v := U8 (f &&& 64#8)) rfl rfl (fun _ => rfl) (fun _ => bin_and_u8 _ _ 64#8) rfl rfl ?_
  refine lx_binB false rfl rfl (fun _ => rfl) (fun _ => bin_neq_u8 _ _ 0#8) (bne_eq_false_iff_eq.2 h6) rfl rfl ?_
  refine lx_pick rfl rfl rfl rfl rfl ?_
  refine lx_nil ?_
  refine x_false rfl ?_
  refine x_skip ?_
  refine xs_plain (E := EE [37, 2000037]) ?_
  refine lx_move rfl rfl rfl ?_
  refine lx_callG rfl rfl ent37 rfl rfl (fun w' hw' => (bare_s e cap bs (by omega) (by omega) hcap w' (hGF.g _ _ _ hw') (hby.grow (hp_below hw'))).mono fun e' w'' h => ?_)
  obtain ⟨b7, c7, k7, rfl, hg, hb7, hob, q3, q2⟩ := h
  refine ⟨_, _, rfl, good_hp hGF, hw'.news rides_true hg [(33, b7, c7, 5)] ?_ inj_one, hp_fresh rides_true rfl, ?_⟩
  · intro n' b' c' t' hl
    rcases lkB_cons hl with ⟨_, e⟩ | ⟨_, hl⟩
    · cases e; exact ⟨hb7, hob⟩
    · cases hl
  clear hw' hg hb7 hob
  refine lx_callC rfl rfl ent36 (fun w' hC hG => from_y _ _ _ (MK bs) (by rw [MK_len]; exact h48) h48 (LO_1 h48 ▸ hp) x (by rw [← LO_1 h48]; exact hx) w' hG (bytes_pre (hp_row (n := 33) rfl w' hC) (by rw [MK_len]; exact q3))) rfl rfl ?_
  refine lx_move rfl rfl rfl ?_
  refine lx_ext rfl rfl rfl rfl ?_
  refine lx_ext rfl rfl rfl rfl ?_
  refine lx_allocr 6 hGF zv28 rfl rfl ?_
  intro b6
  refine lx_storea 6 hGF rfl rfl rfl Tryz.sizeOf28 (by simp) (by simp) (one_u64 _) rfl ?_
  refine lx_assign rfl rfl rfl ?_
  refine lx_nil ?_
  refine x_seq ?_
  refine xs_plain (E := EE [37, 2000037]) ?_
  refine lx_move rfl rfl rfl ?_
  refine lx_un rfl (fun _ => un_not _) rfl rfl ?_
  refine lx_nil ?_
  refine x_false rfl ?_
  refine x_skip ?_
  refine xs_plain (E := EE [37, 2000037]) ?_
  refine lx_loada 6 rfl rfl Tryz.isAgg28 Tryz.sizeOf28 (by simp) rfl rfl ?_
  refine lx_move rfl rfl rfl ?_
  refine lx_bin (v := U8 (f &&& 32#8)) rfl rfl (fun _ => rfl) (fun _ => bin_and_u8 _ _ 32#8) rfl rfl ?_
  refine lx_bin (v := .bool l) rfl rfl (fun _ => rfl) (fun _ => (bin_neq_u8 _ _ 0#8).trans (by rw [hl])) rfl rfl ?_
  refine lx_call rfl rfl ent30 (hL) rfl rfl ?_
  refine lx_move rfl rfl rfl ?_
  refine lx_ext rfl rfl rfl rfl ?_
  refine lx_ext rfl rfl rfl rfl ?_
  refine lx_allocr 8 hGF J1.zv30 rfl rfl ?_
  intro b8
  refine lx_storea 8 hGF rfl rfl rfl Tryz.sizeOf30 (by simp) (by simp) (one_u64 _) rfl ?_
  refine lx_assign rfl rfl rfl ?_
  refine lx_nil ?_
  refine xs_plain (E := EE [37, 2000037]) ?_
  refine lx_loada 8 rfl rfl Tryz.isAgg30 Tryz.sizeOf30 (by simp) rfl rfl ?_
  refine lx_move rfl rfl rfl ?_
  refine lx_move rfl rfl rfl ?_
  refine lx_call rfl rfl ent38 (hS) rfl rfl ?_
  refine lx_ext rfl rfl rfl rfl ?_
  refine lx_ext rfl rfl rfl rfl ?_
  refine lx_storea 2 hGF rfl rfl rfl Tryz.sizeOf30 (by simp) (by simp) (one_u64 _) rfl ?_
  refine lx_assign rfl rfl rfl ?_
  refine lx_nil ?_
  refine x_ret ?_
  repeat (first | refine kseq_ret ?_ | refine kblk_ret ?_)
  exact kret_ct 2 rfl rfl rfl rfl Tryz.isAgg30 Tryz.sizeOf30 (by simp) (fun w hw => ⟨rfl, hp_below hw⟩)
theorem dec2_err (e : Option Addr) (cap : Nat) (bs : List (BitVec 8)) (c : Int) (hR : ∀ w', Gt w' → BytesAt w' e bs → Calls Tryz.prog 35 [.slice e bs.length cap, I 96].toArray w' (fun r w'' => r = .returned (.tuple #[U8 0#8, I c]) ∧ Grow w' w'')) (hc0 : c ≠ 0) (w : World) (hw : Gt w) (hby : BytesAt w e bs) :
    Calls Tryz.prog 16 [.slice e bs.length cap].toArray w (fun r w' => r = .returned (.tuple #[J2.PtV J2.gInf, I c]) ∧ Grow w w') := by
  have hGF : BOk Gt (pl w) := gt_low.plain hw
  refine calls_of_X (G := Gt) Tryz.func16 rfl rfl (Hp (pl w) []) (hp_refl (pl w) trivial rides_true) (good_hp hGF) ?_
  refine xs_plain (E := EE [37, 2000037]) ?_
  refine lx_allocr 2 hGF J2.zv52 rfl rfl ?_
  intro b2
  refine lx_assign rfl rfl rfl ?_
  refine lx_nil ?_
  refine xs_plain (E := EE [37, 2000037]) ?_
  refine lx_move rfl rfl rfl ?_
  refine lx_callC rfl rfl ent35 (fun w' hC hG => hR w' hG (hby.grow (hp_below hC))) rfl rfl ?_
  refine lx_move rfl rfl rfl ?_
  refine lx_ext rfl rfl rfl rfl ?_
  refine lx_ext rfl rfl rfl rfl ?_
  refine lx_assign rfl rfl rfl ?_
  refine lx_assign rfl rfl rfl ?_
  refine lx_nil ?_
  refine x_seq ?_
  refine xs_plain (E := EE [37, 2000037]) ?_
  refine lx_move rfl rfl rfl ?_
  refine lx_binB true rfl rfl (fun _ => rfl) (fun _ => bin_neq_i _ _ _) (bne_iff_ne.2 hc0) rfl rfl ?_
  refine lx_move rfl rfl rfl ?_
  refine lx_skip rfl rfl rfl ?_
  refine lx_skip rfl rfl rfl ?_
  refine lx_skip rfl rfl rfl ?_
  refine lx_pick rfl rfl rfl rfl rfl ?_
  refine lx_nil ?_
  refine x_true rfl ?_
  refine xs_plain (E := EE [37, 2000037]) ?_
  refine lx_call rfl rfl ent55 (J2.inf_p) rfl rfl ?_
  refine lx_move rfl rfl rfl ?_
  refine lx_storea 2 hGF rfl rfl rfl Tryz.sizeOf52 (by simp) (by simp) (one_u64 _) rfl ?_
  refine lx_assign rfl rfl rfl ?_
  refine lx_nil ?_
  refine x_ret ?_
  repeat (first | refine kseq_ret ?_ | refine kblk_ret ?_)
  exact kret_ct 2 rfl rfl rfl rfl Tryz.isAgg52 Tryz.sizeOf52 (by simp) (fun w hw => ⟨rfl, hp_below hw⟩)
theorem dec2_inf (e : Option Addr) (cap : Nat) (bs : List (BitVec 8)) (f : BitVec 8) (hR : ∀ w', Gt w' → BytesAt w' e bs → Calls Tryz.prog 35 [.slice e bs.length cap, I 96].toArray w' (fun r w'' => r = .returned (.tuple #[U8 f, I 0]) ∧ Grow w' w'')) (h6 : ¬ f &&& 64#8 = 0#8) (w : World) (hw : Gt w) (hby : BytesAt w e bs) :
    Calls Tryz.prog 16 [.slice e bs.length cap].toArray w (fun r w' => r = .returned (.tuple #[J2.PtV J2.gInf, I 0]) ∧ Grow w w') := by
  have hGF : BOk Gt (pl w) := gt_low.plain hw
  refine calls_of_X (G := Gt) Tryz.func16 rfl rfl (Hp (pl w) []) (hp_refl (pl w) trivial rides_true) (good_hp hGF) ?_
  refine xs_plain (E := EE [37, 2000037]) ?_
  refine lx_allocr 2 hGF J2.zv52 rfl rfl ?_
  intro b2
  refine lx_assign rfl rfl rfl ?_
  refine lx_nil ?_
  refine xs_plain (E := EE [37, 2000037]) ?_
  refine lx_move rfl rfl rfl ?_
  refine lx_callC rfl rfl ent35 (fun w' hC hG => hR w' hG (hby.grow (hp_below hC))) rfl rfl ?_
  refine lx_move rfl rfl rfl ?_
  refine lx_ext rfl rfl rfl rfl ?_
  refine lx_ext rfl rfl rfl rfl ?_
  refine lx_assign rfl rfl rfl ?_
  refine lx_assign rfl rfl rfl ?_
  refine lx_nil ?_
  refine x_seq ?_
  refine xs_plain (E := EE [37, 2000037]) ?_
  refine lx_move rfl rfl rfl ?_
  refine lx_binB false rfl rfl (fun _ => rfl) (fun _ => bin_neq_i _ _ _) (bne_eq_false_iff_eq.2 rfl) rfl rfl ?_
  refine lx_move rfl rfl rfl ?_
  refine lx_move rfl rfl rfl ?_
  refine lx_bin (v := U8 (f &&& 64#8)) rfl rfl (fun _ => rfl) (fun _ => bin_and_u8 _ _ 64#8) rfl rfl ?_
  refine lx_binB true rfl rfl (fun _ => rfl) (fun _ => bin_neq_u8 _ _ 0#8) (bne_iff_ne.2 h6) rfl rfl ?_
  refine lx_pick rfl rfl rfl rfl rfl ?_
  refine lx_nil ?_
  refine x_true rfl ?_
  refine xs_plain (E := EE [37, 2000037]) ?_
  refine lx_call rfl rfl ent55 (J2.inf_p) rfl rfl ?_
  refine lx_move rfl rfl rfl ?_
  refine lx_storea 2 hGF rfl rfl rfl Tryz.sizeOf52 (by simp) (by simp) (one_u64 _) rfl ?_
  refine lx_assign rfl rfl rfl ?_
  refine lx_nil ?_
  refine x_ret ?_
  repeat (first | refine kseq_ret ?_ | refine kblk_ret ?_)
  exact kret_ct 2 rfl rfl rfl rfl Tryz.isAgg52 Tryz.sizeOf52 (by simp) (fun w hw => ⟨rfl, hp_below hw⟩)
theorem dec2_ra (e : Option Addr) (cap : Nat) (bs : List (BitVec 8)) (f : BitVec 8) (hcap : bs.length ≤ cap) (hR : ∀ w', Gt w' → BytesAt w' e bs → Calls Tryz.prog 35 [.slice e bs.length cap, I 96].toArray w' (fun r w'' => r = .returned (.tuple #[U8 f, I 0]) ∧ Grow w' w'')) (h48 : bs.length = 96) (h6 : f &&& 64#8 = 0#8) (hp2 : ¬ BN (LO bs 0) 48 < PP) (hp : BN (LO bs 48) 48 < PP) (x0 : Zp) (hx0 : zp (BN (LO bs 48) 48) = x0)  (w : World) (hw : Gt w) (hby : BytesAt w e bs) :
    Calls Tryz.prog 16 [.slice e bs.length cap].toArray w (fun r w' => r = .returned (.tuple #[J2.PtV J2.gInf, I 102]) ∧ Grow w w') := by
  have hGF : BOk Gt (pl w) := gt_low.plain hw
  refine calls_of_X (G := Gt) Tryz.func16 rfl rfl (Hp (pl w) []) (hp_refl (pl w) trivial rides_true) (good_hp hGF) ?_
  refine xs_plain (E := EE [37, 2000037]) ?_
  refine lx_allocr 2 hGF J2.zv52 rfl rfl ?_
  intro b2
  refine lx_assign rfl rfl rfl ?_
  refine lx_nil ?_
  refine xs_plain (E := EE [37, 2000037]) ?_
  refine lx_move rfl rfl rfl ?_
  refine lx_callC rfl rfl ent35 (fun w' hC hG => hR w' hG (hby.grow (hp_below hC))) rfl rfl ?_
  refine lx_move rfl rfl rfl ?_
  refine lx_ext rfl rfl rfl rfl ?_
  refine lx_ext rfl rfl rfl rfl ?_
  refine lx_assign rfl rfl rfl ?_
  refine lx_assign rfl rfl rfl ?_
  refine lx_nil ?_
  refine x_seq ?_
  refine xs_plain (E := EE [37, 2000037]) ?_
  refine lx_move rfl rfl rfl ?_
  refine lx_binB false rfl rfl (fun _ => rfl) (fun _ => bin_neq_i _ _ _) (bne_eq_false_iff_eq.2 rfl) rfl rfl ?_
  refine lx_move rfl rfl rfl ?_
  refine lx_move rfl rfl rfl ?_
  refine lx_bin (v := U8 (f &&& 64#8)) rfl rfl (fun _ => rfl) (fun _ => bin_and_u8 _ _ 64#8) rfl rfl ?_
  refine lx_binB false rfl rfl (fun _ => rfl) (fun _ => bin_neq_u8 _ _ 0#8) (bne_eq_false_iff_eq.2 h6) rfl rfl ?_
  refine lx_pick rfl rfl rfl rfl rfl ?_
  refine lx_nil ?_
  refine x_false rfl ?_
  refine x_skip ?_
  refine xs_plain (E := EE [37, 2000037]) ?_
  refine lx_move rfl rfl rfl ?_
  refine lx_callG rfl rfl ent37 rfl rfl (fun w' hw' => (bare_s e cap bs (by omega) (by omega) hcap w' (hGF.g _ _ _ hw') (hby.grow (hp_below hw'))).mono fun e' w'' h => ?_)
  obtain ⟨b7, c7, k7, rfl, hg, hb7, hob, q3, q2⟩ := h
  refine ⟨_, _, rfl, good_hp hGF, hw'.news rides_true hg [(33, b7, c7, 5)] ?_ inj_one, hp_fresh rides_true rfl, ?_⟩
  · intro n' b' c' t' hl
    rcases lkB_cons hl with ⟨_, e⟩ | ⟨_, hl⟩
    · cases e; exact ⟨hb7, hob⟩
    · cases hl
  clear hw' hg hb7 hob
  refine lx_assign rfl rfl rfl ?_
  refine lx_nil ?_
  refine xs_plain (E := EE [37, 2000037]) ?_
  refine lx_move rfl rfl rfl ?_
  refine lx_slsl3 (l := 0) (h' := 48) (m := 48) rfl Tryz.underlying22 Tryz.sizeOf5 rfl rfl rfl ⟨by decide, Nat.le_refl _, by omega⟩ rfl rfl ?_
  refine lx_callC rfl rfl ent36 (fun w' hC hG => from_n _ _ _ (LO bs 0) (LO_len (by omega)) rfl hp2 w' hG (BytesAt.cut3 (bytes_pre (hp_row (n := 33) rfl w' hC) (by rw [MK_len]; exact q3)) 0 48 48 (by decide))) rfl rfl ?_
  refine lx_move rfl rfl rfl ?_
  refine lx_ext rfl rfl rfl rfl ?_
  refine lx_ext rfl rfl rfl rfl ?_
  refine lx_allocr 7 hGF zv28 rfl rfl ?_
  intro b7
  refine lx_storea 7 hGF rfl rfl rfl Tryz.sizeOf28 (by simp) (by simp) (one_u64 _) rfl ?_
  refine lx_assign rfl rfl rfl ?_
  refine lx_nil ?_
  refine xs_plain (E := EE [37, 2000037]) ?_
  refine lx_move rfl rfl rfl ?_
  refine lx_slsl3 (l := 48) (h' := 96) (m := 96) rfl Tryz.underlying22 Tryz.sizeOf5 rfl rfl rfl ⟨by decide, Nat.le_refl _, by omega⟩ rfl rfl ?_
  refine lx_callC rfl rfl ent36 (fun w' hC hG => from_y _ _ _ (LO bs 48) (LO_len (by omega)) rfl hp x0 hx0 w' hG (BytesAt.cut3 (bytes_pre (hp_row (n := 33) rfl w' hC) (by rw [MK_len]; exact q3)) 48 48 96 (by decide))) rfl rfl ?_
  refine lx_move rfl rfl rfl ?_
  refine lx_ext rfl rfl rfl rfl ?_
  refine lx_ext rfl rfl rfl rfl ?_
  refine lx_allocr 9 hGF zv28 rfl rfl ?_
  intro b9
  refine lx_storea 9 hGF rfl rfl rfl Tryz.sizeOf28 (by simp) (by simp) (one_u64 _) rfl ?_
  refine lx_assign rfl rfl rfl ?_
  refine lx_nil ?_
  refine x_seq ?_
  refine xs_plain (E := EE [37, 2000037]) ?_
  refine lx_move rfl rfl rfl ?_
  refine lx_un rfl (fun _ => un_not _) rfl rfl ?_
  refine lx_move rfl rfl rfl ?_
  refine lx_skip rfl rfl rfl ?_
  refine lx_skip rfl rfl rfl ?_
  refine lx_pick rfl rfl rfl rfl rfl ?_
  refine lx_nil ?_
  refine x_true rfl ?_
  refine xs_plain (E := EE [37, 2000037]) ?_
  refine lx_call rfl rfl ent55 (J2.inf_p) rfl rfl ?_
  refine lx_storea 2 hGF rfl rfl rfl Tryz.sizeOf52 (by simp) (by simp) (one_u64 _) rfl ?_
  refine lx_assign rfl rfl rfl ?_
  refine lx_nil ?_
  refine x_ret ?_
  repeat (first | refine kseq_ret ?_ | refine kblk_ret ?_)
  exact kret_ct 2 rfl rfl rfl rfl Tryz.isAgg52 Tryz.sizeOf52 (by simp) (fun w hw => ⟨rfl, hp_below hw⟩)
theorem dec2_rb (e : Option Addr) (cap : Nat) (bs : List (BitVec 8)) (f : BitVec 8) (hcap : bs.length ≤ cap) (hR : ∀ w', Gt w' → BytesAt w' e bs → Calls Tryz.prog 35 [.slice e bs.length cap, I 96].toArray w' (fun r w'' => r = .returned (.tuple #[U8 f, I 0]) ∧ Grow w' w'')) (h48 : bs.length = 96) (h6 : f &&& 64#8 = 0#8) (hp2 : BN (LO bs 0) 48 < PP) (hp : ¬ BN (LO bs 48) 48 < PP) (x1 : Zp) (hx1 : zp (BN (LO bs 0) 48) = x1)  (w : World) (hw : Gt w) (hby : BytesAt w e bs) :
    Calls Tryz.prog 16 [.slice e bs.length cap].toArray w (fun r w' => r = .returned (.tuple #[J2.PtV J2.gInf, I 102]) ∧ Grow w w') := by
  have hGF : BOk Gt (pl w) := gt_low.plain hw
  refine calls_of_X (G := Gt) Tryz.func16 rfl rfl (Hp (pl w) []) (hp_refl (pl w) trivial rides_true) (good_hp hGF) ?_
  refine xs_plain (E := EE [37, 2000037]) ?_
  refine lx_allocr 2 hGF J2.zv52 rfl rfl ?_
  intro b2
  refine lx_assign rfl rfl rfl ?_
  refine lx_nil ?_
  refine xs_plain (E := EE [37, 2000037]) ?_
  refine lx_move rfl rfl rfl ?_
  refine lx_callC rfl rfl ent35 (fun w' hC hG => hR w' hG (hby.grow (hp_below hC))) rfl rfl ?_
  refine lx_move rfl rfl rfl ?_
  refine lx_ext rfl rfl rfl rfl ?_
  refine lx_ext rfl rfl rfl rfl ?_
  refine lx_assign rfl rfl rfl ?_
  refine lx_assign rfl rfl rfl ?_
  refine lx_nil ?_
  refine x_seq ?_
  refine xs_plain (E := EE [37, 2000037]) ?_
  refine lx_move rfl rfl rfl ?_
  refine lx_binB false rfl rfl (fun _ => rfl) (fun _ => bin_neq_i _ _ _) (bne_eq_false_iff_eq.2 rfl) rfl rfl ?_
  refine lx_move rfl rfl rfl ?_
  refine lx_move rfl rfl rfl ?_
  refine lx_bin (v := U8 (f &&& 64#8)) rfl rfl (fun _ => rfl) (fun _ => bin_and_u8 _ _ 64#8) rfl rfl ?_
  refine lx_binB false rfl rfl (fun _ => rfl) (fun _ => bin_neq_u8 _ _ 0#8) (bne_eq_false_iff_eq.2 h6) rfl rfl ?_
  refine lx_pick rfl rfl rfl rfl rfl ?_
  refine lx_nil ?_
  refine x_false rfl ?_
  refine x_skip ?_
  refine xs_plain (E := EE [37, 2000037]) ?_
  refine lx_move rfl rfl rfl ?_
  refine lx_callG rfl rfl ent37 rfl rfl (fun w' hw' => (bare_s e cap bs (by omega) (by omega) hcap w' (hGF.g _ _ _ hw') (hby.grow (hp_below hw'))).mono fun e' w'' h => ?_)
  obtain ⟨b7, c7, k7, rfl, hg, hb7, hob, q3, q2⟩ := h
  refine ⟨_, _, rfl, good_hp hGF, hw'.news rides_true hg [(33, b7, c7, 5)] ?_ inj_one, hp_fresh rides_true rfl, ?_⟩
  · intro n' b' c' t' hl
    rcases lkB_cons hl with ⟨_, e⟩ | ⟨_, hl⟩
    · cases e; exact ⟨hb7, hob⟩
    · cases hl
  clear hw' hg hb7 hob
  refine lx_assign rfl rfl rfl ?_
  refine lx_nil ?_
  refine xs_plain (E := EE [37, 2000037]) ?_
  refine lx_move rfl rfl rfl ?_
  refine lx_slsl3 (l := 0) (h' := 48) (m := 48) rfl Tryz.underlying22 Tryz.sizeOf5 rfl rfl rfl ⟨by decide, Nat.le_refl _, by omega⟩ rfl rfl ?_
  refine lx_callC rfl rfl ent36 (fun w' hC hG => from_y _ _ _ (LO bs 0) (LO_len (by omega)) rfl hp2 x1 hx1 w' hG (BytesAt.cut3 (bytes_pre (hp_row (n := 33) rfl w' hC) (by rw [MK_len]; exact q3)) 0 48 48 (by decide))) rfl rfl ?_
  refine lx_move rfl rfl rfl ?_
  refine lx_ext rfl rfl rfl rfl ?_
  refine lx_ext rfl rfl rfl rfl ?_
  refine lx_allocr 7 hGF zv28 rfl rfl ?_
  intro b7
  refine lx_storea 7 hGF rfl rfl rfl Tryz.sizeOf28 (by simp) (by simp) (one_u64 _) rfl ?_
  refine lx_assign rfl rfl rfl ?_
  refine lx_nil ?_
  refine xs_plain (E := EE [37, 2000037]) ?_
  refine lx_move rfl rfl rfl ?_
  refine lx_slsl3 (l := 48) (h' := 96) (m := 96) rfl Tryz.underlying22 Tryz.sizeOf5 rfl rfl rfl ⟨by decide, Nat.le_refl _, by omega⟩ rfl rfl ?_
  refine lx_callC rfl rfl ent36 (fun w' hC hG => from_n _ _ _ (LO bs 48) (LO_len (by omega)) rfl hp w' hG (BytesAt.cut3 (bytes_pre (hp_row (n := 33) rfl w' hC) (by rw [MK_len]; exact q3)) 48 48 96 (by decide))) rfl rfl ?_
  refine lx_move rfl rfl rfl ?_
  refine lx_ext rfl rfl rfl rfl ?_
  refine lx_ext rfl rfl rfl rfl ?_
  refine lx_allocr 9 hGF zv28 rfl rfl ?_
  intro b9
  refine lx_storea 9 hGF rfl rfl rfl Tryz.sizeOf28 (by simp) (by simp) (one_u64 _) rfl ?_
  refine lx_assign rfl rfl rfl ?_
  refine lx_nil ?_
  refine x_seq ?_
  refine xs_plain (E := EE [37, 2000037]) ?_
  refine lx_move rfl rfl rfl ?_
  refine lx_un rfl (fun _ => un_not _) rfl rfl ?_
  refine lx_move rfl rfl rfl ?_
  refine lx_move rfl rfl rfl ?_
  refine lx_un rfl (fun _ => un_not _) rfl rfl ?_
  refine lx_pick rfl rfl rfl rfl rfl ?_
  refine lx_nil ?_
  refine x_true rfl ?_
  refine xs_plain (E := EE [37, 2000037]) ?_
  refine lx_call rfl rfl ent55 (J2.inf_p) rfl rfl ?_
  refine lx_storea 2 hGF rfl rfl rfl Tryz.sizeOf52 (by simp) (by simp) (one_u64 _) rfl ?_
  refine lx_assign rfl rfl rfl ?_
  refine lx_nil ?_
  refine x_ret ?_
  repeat (first | refine kseq_ret ?_ | refine kblk_ret ?_)
  exact kret_ct 2 rfl rfl rfl rfl Tryz.isAgg52 Tryz.sizeOf52 (by simp) (fun w hw => ⟨rfl, hp_below hw⟩)
theorem dec2_rc (e : Option Addr) (cap : Nat) (bs : List (BitVec 8)) (f : BitVec 8) (hcap : bs.length ≤ cap) (hR : ∀ w', Gt w' → BytesAt w' e bs → Calls Tryz.prog 35 [.slice e bs.length cap, I 96].toArray w' (fun r w'' => r = .returned (.tuple #[U8 f, I 0]) ∧ Grow w' w'')) (h48 : bs.length = 96) (h6 : f &&& 64#8 = 0#8) (hp2 : ¬ BN (LO bs 0) 48 < PP) (hp : ¬ BN (LO bs 48) 48 < PP)  (w : World) (hw : Gt w) (hby : BytesAt w e bs) :
    Calls Tryz.prog 16 [.slice e bs.length cap].toArray w (fun r w' => r = .returned (.tuple #[J2.PtV J2.gInf, I 102]) ∧ Grow w w') := by
  have hGF : BOk Gt (pl w) := gt_low.plain hw
  refine calls_of_X (G := Gt) Tryz.func16 rfl rfl (Hp (pl w) []) (hp_refl (pl w) trivial rides_true) (good_hp hGF) ?_
  refine xs_plain (E := EE [37, 2000037]) ?_
  refine lx_allocr 2 hGF J2.zv52 rfl rfl ?_
  intro b2
  refine lx_assign rfl rfl rfl ?_
  refine lx_nil ?_
  refine xs_plain (E := EE [37, 2000037]) ?_
  refine lx_move rfl rfl rfl ?_
  refine lx_callC rfl rfl ent35 (fun w' hC hG => hR w' hG (hby.grow (hp_below hC))) rfl rfl ?_
  refine lx_move rfl rfl rfl ?_
  refine lx_ext rfl rfl rfl rfl ?_
  refine lx_ext rfl rfl rfl rfl ?_
  refine lx_assign rfl rfl rfl ?_
  refine lx_assign rfl rfl rfl ?_
  refine lx_nil ?_
  refine x_seq ?_
  refine xs_plain (E := EE [37, 2000037]) ?_
  refine lx_move rfl rfl rfl ?_
  refine lx_binB false rfl rfl (fun _ => rfl) (fun _ => bin_neq_i _ _ _) (bne_eq_false_iff_eq.2 rfl) rfl rfl ?_
  refine lx_move rfl rfl rfl ?_
  refine lx_move rfl rfl rfl ?_
  refine lx_bin (v := U8 (f &&& 64#8)) rfl rfl (fun _ => rfl) (fun _ => bin_and_u8 _ _ 64#8) rfl rfl ?_
  refine lx_binB false rfl rfl (fun _ => rfl) (fun _ => bin_neq_u8 _ _ 0#8) (bne_eq_false_iff_eq.2 h6) rfl rfl ?_
  refine lx_pick rfl rfl rfl rfl rfl ?_
  refine lx_nil ?_
  refine x_false rfl ?_
  refine x_skip ?_
  refine xs_plain (E := EE [37, 2000037]) ?_
  refine lx_move rfl rfl rfl ?_
  refine lx_callG rfl rfl ent37 rfl rfl (fun w' hw' => (bare_s e cap bs (by omega) (by omega) hcap w' (hGF.g _ _ _ hw') (hby.grow (hp_below hw'))).mono fun e' w'' h => ?_)
  obtain ⟨b7, c7, k7, rfl, hg, hb7, hob, q3, q2⟩ := h
  refine ⟨_, _, rfl, good_hp hGF, hw'.news rides_true hg [(33, b7, c7, 5)] ?_ inj_one, hp_fresh rides_true rfl, ?_⟩
  · intro n' b' c' t' hl
    rcases lkB_cons hl with ⟨_, e⟩ | ⟨_, hl⟩
    · cases e; exact ⟨hb7, hob⟩
    · cases hl
  clear hw' hg hb7 hob
  refine lx_assign rfl rfl rfl ?_
  refine lx_nil ?_
  refine xs_plain (E := EE [37, 2000037]) ?_
  refine lx_move rfl rfl rfl ?_
  refine lx_slsl3 (l := 0) (h' := 48) (m := 48) rfl Tryz.underlying22 Tryz.sizeOf5 rfl rfl rfl ⟨by decide, Nat.le_refl _, by omega⟩ rfl rfl ?_
  refine lx_callC rfl rfl ent36 (fun w' hC hG => from_n _ _ _ (LO bs 0) (LO_len (by omega)) rfl hp2 w' hG (BytesAt.cut3 (bytes_pre (hp_row (n := 33) rfl w' hC) (by rw [MK_len]; exact q3)) 0 48 48 (by decide))) rfl rfl ?_
  refine lx_move rfl rfl rfl ?_
  refine lx_ext rfl rfl rfl rfl ?_
  refine lx_ext rfl rfl rfl rfl ?_
  refine lx_allocr 7 hGF zv28 rfl rfl ?_
  intro b7
  refine lx_storea 7 hGF rfl rfl rfl Tryz.sizeOf28 (by simp) (by simp) (one_u64 _) rfl ?_
  refine lx_assign rfl rfl rfl ?_
  refine lx_nil ?_
  refine xs_plain (E := EE [37, 2000037]) ?_
  refine lx_move rfl rfl rfl ?_
  refine lx_slsl3 (l := 48) (h' := 96) (m := 96) rfl Tryz.underlying22 Tryz.sizeOf5 rfl rfl rfl ⟨by decide, Nat.le_refl _, by omega⟩ rfl rfl ?_
  refine lx_callC rfl rfl ent36 (fun w' hC hG => from_n _ _ _ (LO bs 48) (LO_len (by omega)) rfl hp w' hG (BytesAt.cut3 (bytes_pre (hp_row (n := 33) rfl w' hC) (by rw [MK_len]; exact q3)) 48 48 96 (by decide))) rfl rfl ?_
  refine lx_move rfl rfl rfl ?_
  refine lx_ext rfl rfl rfl rfl ?_
  refine lx_ext rfl rfl rfl rfl ?_
  refine lx_allocr 9 hGF zv28 rfl rfl ?_
  intro b9
  refine lx_storea 9 hGF rfl rfl rfl Tryz.sizeOf28 (by simp) (by simp) (one_u64 _) rfl ?_
  refine lx_assign rfl rfl rfl ?_
  refine lx_nil ?_
  refine x_seq ?_
  refine xs_plain (E := EE [37, 2000037]) ?_
  refine lx_move rfl rfl rfl ?_
  refine lx_un rfl (fun _ => un_not _) rfl rfl ?_
  refine lx_move rfl rfl rfl ?_
  refine lx_skip rfl rfl rfl ?_
  refine lx_skip rfl rfl rfl ?_
  refine lx_pick rfl rfl rfl rfl rfl ?_
  refine lx_nil ?_
  refine x_true rfl ?_
  refine xs_plain (E := EE [37, 2000037]) ?_
  refine lx_call rfl rfl ent55 (J2.inf_p) rfl rfl ?_
  refine lx_storea 2 hGF rfl rfl rfl Tryz.sizeOf52 (by simp) (by simp) (one_u64 _) rfl ?_
  refine lx_assign rfl rfl rfl ?_
  refine lx_nil ?_
  refine x_ret ?_
  repeat (first | refine kseq_ret ?_ | refine kblk_ret ?_)
  exact kret_ct 2 rfl rfl rfl rfl Tryz.isAgg52 Tryz.sizeOf52 (by simp) (fun w hw => ⟨rfl, hp_below hw⟩)
theorem dec2_ok (e : Option Addr) (cap : Nat) (bs : List (BitVec 8)) (f : BitVec 8) (hcap : bs.length ≤ cap) (hR : ∀ w', Gt w' → BytesAt w' e bs → Calls Tryz.prog 35 [.slice e bs.length cap, I 96].toArray w' (fun r w'' => r = .returned (.tuple #[U8 f, I 0]) ∧ Grow w' w'')) (h48 : bs.length = 96) (h6 : f &&& 64#8 = 0#8) (hp2 : BN (LO bs 0) 48 < PP) (hp : BN (LO bs 48) 48 < PP) (x0 : Zp) (hx0 : zp (BN (LO bs 48) 48) = x0) (x1 : Zp) (hx1 : zp (BN (LO bs 0) 48) = x1) (l : Bool) (hl : (f &&& 32#8 != 0#8) = l) (p : J2.GP) (k : Bool) (hL : Pure Tryz.prog Gt 32 [EV2 (x0, x1), .bool l] (.tuple #[J2.PtV p, .bool k])) (t : J2.GP) (c : Int) (hS : Pure Tryz.prog Gt 56 [J2.PtV p, .bool k, U8 f] (.tuple #[J2.PtV t, I c])) (w : World) (hw : Gt w) (hby : BytesAt w e bs) :
    Calls Tryz.prog 16 [.slice e bs.length cap].toArray w (fun r w' => r = .returned (.tuple #[J2.PtV t, I c]) ∧ Grow w w') := by
  have hGF : BOk Gt (pl w) := gt_low.plain hw
  refine calls_of_X (G := Gt) Tryz.func16 rfl rfl (Hp (pl w) []) (hp_refl (pl w) trivial rides_true) (good_hp hGF) ?_
  refine xs_plain (E := EE [37, 2000037]) ?_
  refine lx_allocr 2 hGF J2.zv52 rfl rfl ?_
  intro b2
  refine lx_assign rfl rfl rfl ?_
  refine lx_nil ?_
  refine xs_plain (E := EE [37, 2000037]) ?_
  refine lx_move rfl rfl rfl ?_
  refine lx_callC rfl rfl ent35 (fun w' hC hG => hR w' hG (hby.grow (hp_below hC))) rfl rfl ?_
  refine lx_move rfl rfl rfl ?_
  refine lx_ext rfl rfl rfl rfl ?_
  refine lx_ext rfl rfl rfl rfl ?_
  refine lx_assign rfl rfl rfl ?_
  refine lx_assign rfl rfl rfl ?_
  refine lx_nil ?_
  refine x_seq ?_
  refine xs_plain (E := EE [37, 2000037]) ?_
  refine lx_move rfl rfl rfl ?_
  refine lx_binB false rfl rfl (fun _ => rfl) (fun _ => bin_neq_i _ _ _) (bne_eq_false_iff_eq.2 rfl) rfl rfl ?_
  refine lx_move rfl rfl rfl ?_
  refine lx_move rfl rfl rfl ?_
  refine lx_bin (v := U8 (f &&& 64#8)) rfl rfl (fun _ => rfl) (fun _ => bin_and_u8 _ _ 64#8) rfl rfl ?_
  refine lx_binB false rfl rfl (fun _ => rfl) (fun _ => bin_neq_u8 _ _ 0#8) (bne_eq_false_iff_eq.2 h6) rfl rfl ?_
  refine lx_pick rfl rfl rfl rfl rfl ?_
  refine lx_nil ?_
  refine x_false rfl ?_
  refine x_skip ?_
  refine xs_plain (E := EE [37, 2000037]) ?_
  refine lx_move rfl rfl rfl ?_
  refine lx_callG rfl rfl ent37 rfl rfl (fun w' hw' => (bare_s e cap bs (by omega) (by omega) hcap w' (hGF.g _ _ _ hw') (hby.grow (hp_below hw'))).mono fun e' w'' h => ?_)
  obtain ⟨b7, c7, k7, rfl, hg, hb7, hob, q3, q2⟩ := h
  refine ⟨_, _, rfl, good_hp hGF, hw'.news rides_true hg [(33, b7, c7, 5)] ?_ inj_one, hp_fresh rides_true rfl, ?_⟩
  · intro n' b' c' t' hl
    rcases lkB_cons hl with ⟨_, e⟩ | ⟨_, hl⟩
    · cases e; exact ⟨hb7, hob⟩
    · cases hl
  clear hw' hg hb7 hob
  refine lx_assign rfl rfl rfl ?_
  refine lx_nil ?_
  refine xs_plain (E := EE [37, 2000037]) ?_
  refine lx_move rfl rfl rfl ?_
  refine lx_slsl3 (l := 0) (h' := 48) (m := 48) rfl Tryz.underlying22 Tryz.sizeOf5 rfl rfl rfl ⟨by decide, Nat.le_refl _, by omega⟩ rfl rfl ?_
  refine lx_callC rfl rfl ent36 (fun w' hC hG => from_y _ _ _ (LO bs 0) (LO_len (by omega)) rfl hp2 x1 hx1 w' hG (BytesAt.cut3 (bytes_pre (hp_row (n := 33) rfl w' hC) (by rw [MK_len]; exact q3)) 0 48 48 (by decide))) rfl rfl ?_
  refine lx_move rfl rfl rfl ?_
  refine lx_ext rfl rfl rfl rfl ?_
  refine lx_ext rfl rfl rfl rfl ?_
  refine lx_allocr 7 hGF zv28 rfl rfl ?_
  intro b7
  refine lx_storea 7 hGF rfl rfl rfl Tryz.sizeOf28 (by simp) (by simp) (one_u64 _) rfl ?_
  refine lx_assign rfl rfl rfl ?_
  refine lx_nil ?_
  refine xs_plain (E := EE [37, 2000037]) ?_
  refine lx_move rfl rfl rfl ?_
  refine lx_slsl3 (l := 48) (h' := 96) (m := 96) rfl Tryz.underlying22 Tryz.sizeOf5 rfl rfl rfl ⟨by decide, Nat.le_refl _, by omega⟩ rfl rfl ?_
  refine lx_callC rfl rfl ent36 (fun w' hC hG => from_y _ _ _ (LO bs 48) (LO_len (by omega)) rfl hp x0 hx0 w' hG (BytesAt.cut3 (bytes_pre (hp_row (n := 33) rfl w' hC) (by rw [MK_len]; exact q3)) 48 48 96 (by decide))) rfl rfl ?_
  refine lx_move rfl rfl rfl ?_
  refine lx_ext rfl rfl rfl rfl ?_
  refine lx_ext rfl rfl rfl rfl ?_
  refine lx_allocr 9 hGF zv28 rfl rfl ?_
  intro b9
  refine lx_storea 9 hGF rfl rfl rfl Tryz.sizeOf28 (by simp) (by simp) (one_u64 _) rfl ?_
  refine lx_assign rfl rfl rfl ?_
  refine lx_nil ?_
  refine x_seq ?_
  refine xs_plain (E := EE [37, 2000037]) ?_
  refine lx_move rfl rfl rfl ?_
  refine lx_un rfl (fun _ => un_not _) rfl rfl ?_
  refine lx_move rfl rfl rfl ?_
  refine lx_move rfl rfl rfl ?_
  refine lx_un rfl (fun _ => un_not _) rfl rfl ?_
  refine lx_pick rfl rfl rfl rfl rfl ?_
  refine lx_nil ?_
  refine x_false rfl ?_
  refine x_skip ?_
  refine xs_plain (E := EE [37, 2000037]) ?_
  refine lx_loada 9 rfl rfl Tryz.isAgg28 Tryz.sizeOf28 (by simp) rfl rfl ?_
  refine lx_loada 7 rfl rfl Tryz.isAgg28 Tryz.sizeOf28 (by simp) rfl rfl ?_
  refine lx_two two50 rfl rfl (by simp) (by simp) rfl rfl ?_
  refine lx_move rfl rfl rfl ?_
  refine lx_bin (v := U8 (f &&& 32#8)) rfl rfl (fun _ => rfl) (fun _ => bin_and_u8 _ _ 32#8) rfl rfl ?_
  refine lx_bin (v := .bool l) rfl rfl (fun _ => rfl) (fun _ => (bin_neq_u8 _ _ 0#8).trans (by rw [hl])) rfl rfl ?_
  refine lx_call rfl rfl ent32 (hL) rfl rfl ?_
  refine lx_move rfl rfl rfl ?_
  refine lx_ext rfl rfl rfl rfl ?_
  refine lx_ext rfl rfl rfl rfl ?_
  refine lx_allocr 11 hGF J2.zv52 rfl rfl ?_
  intro b11
  refine lx_storea 11 hGF rfl rfl rfl Tryz.sizeOf52 (by simp) (by simp) (one_u64 _) rfl ?_
  refine lx_assign rfl rfl rfl ?_
  refine lx_nil ?_
  refine xs_plain (E := EE [37, 2000037]) ?_
  refine lx_loada 11 rfl rfl Tryz.isAgg52 Tryz.sizeOf52 (by simp) rfl rfl ?_
  refine lx_move rfl rfl rfl ?_
  refine lx_move rfl rfl rfl ?_
  refine lx_call rfl rfl ent56 (hS) rfl rfl ?_
  refine lx_ext rfl rfl rfl rfl ?_
  refine lx_ext rfl rfl rfl rfl ?_
  refine lx_storea 2 hGF rfl rfl rfl Tryz.sizeOf52 (by simp) (by simp) (one_u64 _) rfl ?_
  refine lx_assign rfl rfl rfl ?_
  refine lx_nil ?_
  refine x_ret ?_
  repeat (first | refine kseq_ret ?_ | refine kblk_ret ?_)
  exact kret_ct 2 rfl rfl rfl rfl Tryz.isAgg52 Tryz.sizeOf52 (by simp) (fun w hw => ⟨rfl, hp_below hw⟩)
theorem Ec.ne_iff {α : Type} (C : Ec α) {x y : α} : (some (x, y) : Pt α) = C.ne (some (x, y)) ↔ y = C.R.zero := by
  constructor
  · intro h
    have e : y = C.R.neg y := congrArg Prod.snd (Option.some.inj h)
    have k := C.R.add_neg y
    rw [← e] at k
    exact C.dbl0 k
  · intro h
    show some (x, y) = some (x, C.R.neg y)
    rw [h, C.R.neg_zero]
theorem J1.ptv_eq {p r : J1.GP} (h : p.J = r.J) : J1.PtV p = J1.PtV r := by rw [J1.PtV, J1.PtV, J1.GL, J1.GL, h]
theorem J2.ptv_eq {p r : J2.GP} (h : p.J = r.J) : J2.PtV p = J2.PtV r := by rw [J2.PtV, J2.PtV, J2.GL, J2.GL, h]
theorem l_t {f : BitVec 8} (h : (f &&& 32#8 != 0#8) = true) : ¬ f &&& 32#8 = 0#8 := bne_iff_ne.1 h
theorem l_f {f : BitVec 8} (h : (f &&& 32#8 != 0#8) = false) : f &&& 32#8 = 0#8 := bne_eq_false_iff_eq.1 h
theorem bv_f1 : ∀ b : BitVec 8, (b &&& 224#8) &&& 128#8 = 0#8 → ¬ b &&& 224#8 = 128#8 ∧ ¬ b &&& 224#8 = 160#8 ∧ ¬ b &&& 224#8 = 192#8 := by decide +kernel
theorem bv_f2 : ∀ b : BitVec 8, ¬ (b &&& 224#8) &&& 128#8 = 0#8 → ¬ (b &&& 224#8) &&& 64#8 = 0#8 → ¬ b &&& 224#8 = 128#8 ∧ ¬ b &&& 224#8 = 160#8 ∧ (b &&& 224#8 = 192#8 ↔ (b &&& 224#8) &&& 32#8 = 0#8) := by decide +kernel
theorem bv_f3 : ∀ b : BitVec 8, ¬ (b &&& 224#8) &&& 128#8 = 0#8 → (b &&& 224#8) &&& 64#8 = 0#8 → b &&& 224#8 = 128#8 ∨ b &&& 224#8 = 160#8 := by decide +kernel
theorem f160 {f : BitVec 8} (h : f = 160#8) : ¬ f = 128#8 := by rw [h]; decide
def RdC (e : Option Addr) (cap : Nat) (bs : List (BitVec 8)) (N : Nat) (f : BitVec 8) (c : Int) : Prop := ∀ w', Gt w' → BytesAt w' e bs → Calls Tryz.prog 35 [.slice e bs.length cap, I (N : Int)].toArray w' (fun r w'' => r = .returned (.tuple #[U8 f, I c]) ∧ Grow w' w'')
theorem rd_num {e : Option Addr} {cap N : Nat} {bs : List (BitVec 8)} (hN : bs.length = N) (h0 : 0 < N) (hL : N ≤ 1000) (f : ¬ FG bs &&& 128#8 = 0#8) (s : FG bs &&& 64#8 = 0#8) : RdC e cap bs N (FG bs) 0 := fun w' hG hB => by
  rcases bv_f3 (bs.getD 0 0) f s with h | h
  · exact read_a e cap N bs hN h0 hL h w' hG hB
  · exact read_b e cap N bs hN h0 hL (f160 h) h w' hG hB
theorem rd_bad {e : Option Addr} {cap N : Nat} {bs : List (BitVec 8)} (hN : bs.length = N) (h0 : 0 < N) (hL : N ≤ 1000) (f : FG bs &&& 128#8 = 0#8) : RdC e cap bs N 0#8 101 := fun w' hG hB => by
  obtain ⟨h1, h2, h3⟩ := bv_f1 (bs.getD 0 0) f
  exact read_bad e cap N bs hN h0 hL h1 h2 h3 w' hG hB
theorem rd_inf {e : Option Addr} {cap N : Nat} {bs : List (BitVec 8)} (hN : bs.length = N) (h0 : 0 < N) (hL : N ≤ 1000) (hcap : bs.length ≤ cap) (f : ¬ FG bs &&& 128#8 = 0#8) (s : ¬ FG bs &&& 64#8 = 0#8) : (INF bs N = 0 ∧ RdC e cap bs N (FG bs) 0) ∨ (INF bs N = 101 ∧ RdC e cap bs N 0#8 101) := by
  obtain ⟨h1, h2, h3⟩ := bv_f2 (bs.getD 0 0) f s
  by_cases k : FG bs &&& 32#8 = 0#8
  · have h4 : FG bs = 192#8 := h3.2 k
    cases q : NQ (MK bs) with
    | true =>
      refine .inl ⟨if_pos ⟨fun j hj => of_decide_eq_true q j (by rw [MK_len]; omega), k⟩, fun w' hG hB => ?_⟩
      exact read_inf e cap N bs hN h0 hL hcap h1 h2 h4 q w' hG hB
    | false =>
      refine .inr ⟨if_neg (fun z => of_decide_eq_false q (fun j hj => z.1 j (by rw [MK_len] at hj; omega))), fun w' hG hB => ?_⟩
      exact read_bad2 e cap N bs hN h0 hL hcap h1 h2 h4 q w' hG hB
  · refine .inr ⟨if_neg (fun z => k z.2), fun w' hG hB => ?_⟩
    exact read_bad e cap N bs hN h0 hL h1 h2 (fun h => k (h3.1 h)) w' hG hB
theorem set1_ny (p : J1.GP) (x y : Zp) (hP : p.P = some (x, y)) (hJ : p.J = (x, y, 1)) (f : BitVec 8) (l : Bool) (hl : (f &&& 32#8 != 0#8) = l) (c : Int) (P : Pt Zp) (h : NY 0 (fun Q => E1.times Q ORD = none) l x y c P) (on : E1.onP P) : Pure Tryz.prog Gt 38 [J1.PtV p, .bool true, U8 f] (.tuple #[J1.PtV (cA1 P on), I c]) := by
  have hne : p.P = (J1.gNeg p).P ↔ y = 0 := by
    show p.P = E1.ne p.P ↔ y = 0
    rw [hP]
    exact Ec.ne_iff E1
  rcases h with ⟨⟨rfl, hy⟩, rfl, rfl⟩ | ⟨hn, ⟨g, rfl, rfl⟩ | ⟨g, rfl, rfl⟩⟩
  · exact set1_z p f (l_t hl) (hne.2 hy)
  · cases l with
    | true => exact set1_to p f (l_t hl) (fun k => hn ⟨rfl, hne.1 k⟩) (by rw [hP]; exact g)
    | false => exact set1_fo p f (l_f hl) (by rw [hP]; exact g)
  · have e : J1.PtV (cA1 (some (x, y)) on) = J1.PtV p := J1.ptv_eq hJ.symm
    rw [e]
    cases l with
    | true => exact set1_ty p f (l_t hl) (fun k => hn ⟨rfl, hne.1 k⟩) (by rw [hP]; exact g)
    | false => exact set1_fy p f (l_f hl) (by rw [hP]; exact g)
theorem dec1_q (e : Option Addr) (cap : Nat) (bs : List (BitVec 8)) (c : Int) (P : Pt Zp) (h : D1 bs c P) (on : E1.onP P) (hc : bs.length ≤ cap) (w : World) (hw : Gt w) (hby : BytesAt w e bs) : Calls Tryz.prog 10 [.slice e bs.length cap].toArray w (fun r w' => r = .returned (.tuple #[J1.PtV (cA1 P on), I c]) ∧ Grow w w') := by
  rcases h with ⟨h48, rfl, rfl⟩ | ⟨h48, ⟨f, rfl, rfl⟩ | ⟨f, ⟨s, rfl, rfl⟩ | ⟨s, ⟨p, rfl, rfl⟩ | ⟨p, ⟨q, rfl, rfl⟩ | ⟨q, h⟩⟩⟩⟩⟩
  · exact dec1_err e cap bs 100 (fun w' hG _ => read_len e cap 48 bs h48 w' hG) (by decide) w hw hby
  · exact dec1_err e cap bs 101 (rd_bad h48 (by decide) (by decide) f) (by decide) w hw hby
  · rcases rd_inf h48 (by decide) (by decide) hc f s with ⟨k, r⟩ | ⟨k, r⟩
    · rw [k]; exact dec1_inf e cap bs (FG bs) r s w hw hby
    · rw [k]; exact dec1_err e cap bs 101 r (by decide) w hw hby
  · skip
    exact dec1_ra e cap bs (FG bs) hc (rd_num h48 (by decide) (by decide) f s) h48 s p w hw hby
  · exact dec1_ok e cap bs (FG bs) hc (rd_num h48 (by decide) (by decide) f s) h48 s p (X1 bs) rfl (LB bs) rfl J1.gInf false (J1.lift_n (X1 bs) (LB bs) q) J1.gInf 103 (set1_n _ _) w hw hby
  · exact dec1_ok e cap bs (FG bs) hc (rd_num h48 (by decide) (by decide) f s) h48 s p (X1 bs) rfl (LB bs) rfl (J1.gLift (X1 bs) (LB bs) q) true (J1.lift_y (X1 bs) (LB bs) q) (cA1 P on) c (set1_ny _ _ _ rfl rfl _ _ rfl c P h on) w hw hby
theorem dec1_p (e : Option Addr) (cap len : Nat) (bs : List (BitVec 8)) (hn : bs.length = len) (c : Int) (P : Pt Zp) (h : D1 bs c P) (hc : len ≤ cap) (w : World) (hw : Gt w) (hby : BytesAt w e bs) : Calls Tryz.prog 10 [.slice e len cap].toArray w (fun r w' => r = .returned (.tuple #[J1.PtV (cA1 P (D1_on h)), I c]) ∧ Grow w w') := by
  subst hn
  exact dec1_q e cap bs c P h (D1_on h) hc w hw hby
theorem set2_ny (p : J2.GP) (x y : W2) (hP : p.P = some (x, y)) (hJ : p.J = (x, y, on2)) (f : BitVec 8) (l : Bool) (hl : (f &&& 32#8 != 0#8) = l) (c : Int) (P : Pt W2) (h : NY ze2 (fun Q => E2w.times Q ORD = none) l x y c P) (on : E2w.onP P) : Pure Tryz.prog Gt 56 [J2.PtV p, .bool true, U8 f] (.tuple #[J2.PtV (cA2 P on), I c]) := by
  have hne : p.P = (J2.gNeg p).P ↔ y = ze2 := by
    show p.P = E2w.ne p.P ↔ y = ze2
    rw [hP]
    exact Ec.ne_iff E2w
  rcases h with ⟨⟨rfl, hy⟩, rfl, rfl⟩ | ⟨hn, ⟨g, rfl, rfl⟩ | ⟨g, rfl, rfl⟩⟩
  · exact set2_z p f (l_t hl) (hne.2 hy)
  · cases l with
    | true => exact set2_to p f (l_t hl) (fun k => hn ⟨rfl, hne.1 k⟩) (by rw [hP]; exact g)
    | false => exact set2_fo p f (l_f hl) (by rw [hP]; exact g)
  · have e : J2.PtV (cA2 (some (x, y)) on) = J2.PtV p := J2.ptv_eq hJ.symm
    rw [e]
    cases l with
    | true => exact set2_ty p f (l_t hl) (fun k => hn ⟨rfl, hne.1 k⟩) (by rw [hP]; exact g)
    | false => exact set2_fy p f (l_f hl) (by rw [hP]; exact g)
theorem dec2_q (e : Option Addr) (cap : Nat) (bs : List (BitVec 8)) (c : Int) (P : Pt W2) (h : D2 bs c P) (on : E2w.onP P) (hc : bs.length ≤ cap) (w : World) (hw : Gt w) (hby : BytesAt w e bs) : Calls Tryz.prog 16 [.slice e bs.length cap].toArray w (fun r w' => r = .returned (.tuple #[J2.PtV (cA2 P on), I c]) ∧ Grow w w') := by
  rcases h with ⟨h48, rfl, rfl⟩ | ⟨h48, ⟨f, rfl, rfl⟩ | ⟨f, ⟨s, rfl, rfl⟩ | ⟨s, ⟨p, rfl, rfl⟩ | ⟨⟨p, p2⟩, ⟨q, rfl, rfl⟩ | ⟨r, hr, hl, h⟩⟩⟩⟩⟩
  · exact dec2_err e cap bs 100 (fun w' hG _ => read_len e cap 96 bs h48 w' hG) (by decide) w hw hby
  · exact dec2_err e cap bs 101 (rd_bad h48 (by decide) (by decide) f) (by decide) w hw hby
  · rcases rd_inf h48 (by decide) (by decide) hc f s with ⟨k, r⟩ | ⟨k, r⟩
    · rw [k]; exact dec2_inf e cap bs (FG bs) r s w hw hby
    · rw [k]; exact dec2_err e cap bs 101 r (by decide) w hw hby
  · skip
    by_cases p2 : BN (LO bs 0) 48 < PP
    · exact dec2_rb e cap bs (FG bs) hc (rd_num h48 (by decide) (by decide) f s) h48 s p2 (fun p1 => p ⟨p1, p2⟩) _ rfl w hw hby
    · by_cases p1 : BN (LO bs 48) 48 < PP
      · exact dec2_ra e cap bs (FG bs) hc (rd_num h48 (by decide) (by decide) f s) h48 s p2 p1 _ rfl w hw hby
      · exact dec2_rc e cap bs (FG bs) hc (rd_num h48 (by decide) (by decide) f s) h48 s p2 p1 w hw hby
  · exact dec2_ok e cap bs (FG bs) hc (rd_num h48 (by decide) (by decide) f s) h48 s p2 p _ rfl _ rfl (LB bs) rfl J2.gInf false (J2.lift_n (X2 bs) (LB bs) q) J2.gInf 103 (set2_n _ _) w hw hby
  · exact dec2_ok e cap bs (FG bs) hc (rd_num h48 (by decide) (by decide) f s) h48 s p2 p _ rfl _ rfl (LB bs) rfl (J2.gRt (X2 bs) r hr (LB bs)) true (J2.lift_y (X2 bs) r hr hl (LB bs)) (cA2 P on) c (set2_ny _ _ _ rfl rfl _ _ rfl c P h on) w hw hby
theorem dec2_p (e : Option Addr) (cap len : Nat) (bs : List (BitVec 8)) (hn : bs.length = len) (c : Int) (P : Pt W2) (h : D2 bs c P) (hc : len ≤ cap) (w : World) (hw : Gt w) (hby : BytesAt w e bs) : Calls Tryz.prog 16 [.slice e len cap].toArray w (fun r w' => r = .returned (.tuple #[J2.PtV (cA2 P (D2_on h)), I c]) ∧ Grow w w') := by
  subst hn
  exact dec2_q e cap bs c P h (D2_on h) hc w hw hby
end Go.Proofs.YtamddkjccmhgaaaGreatDoor
