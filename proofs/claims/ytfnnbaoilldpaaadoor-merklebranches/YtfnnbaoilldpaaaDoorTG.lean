/-
  Places; lists of roots held against one another; the law of branches.
-/
import Derived.Test.YtfnnbaoilldpaaaDoorTF
namespace Go.Proofs.YtfnnbaoilldpaaaDoor
open Go.RowKit
set_option maxRecDepth 100000
set_option maxHeartbeats 1000000
open Sh
theorem plc_calls (i : Int) (m : Nat) (h0 : 0 < m) (hm : m ≤ 1000000) (w : World) (hw : Gt w) : Calls Tryd.prog 17 [I i, I (m : Int)].toArray w (fun e w' => ∃ k : Nat, e = .returned (I (k : Int)) ∧ k < m ∧ Grow w w') := by
  have h1 := Int.tmod_lt_of_pos i (b := (m : Int)) (by omega)
  have h2 := Int.lt_tmod_of_pos i (b := (m : Int)) (by omega)
  have hGF : BOk Gt (pl w) := gt_low.plain hw
  refine calls_of_X (G := Gt) Tryd.func17 rfl rfl (Hp (pl w) []) (hp_refl (pl w) trivial rides_true) (good_hp hGF) ?_
  refine xs_plain (E := EE []) ?_
  refine lx_assign rfl rfl rfl ?_
  refine lx_nil ?_
  refine xs_plain (E := EE []) ?_
  refine lx_move rfl rfl rfl ?_
  refine lx_move rfl rfl rfl ?_
  refine lx_bin (v := I (i.tmod (m : Int))) rfl rfl (fun _ => rfl) (fun _ => bin_rem_i _ _ _ (by omega)) rfl rfl ?_
  refine lx_assign rfl rfl rfl ?_
  refine lx_nil ?_
  refine x_seq ?_
  refine xs_plain (E := EE []) ?_
  refine lx_move rfl rfl rfl ?_
  refine lx_bin rfl rfl (fun _ => rfl) (fun _ => bin_lss_i _ _ _) rfl rfl ?_
  refine lx_nil ?_
  refine x_if rfl (fun hc => ?_) (fun hc => ?_)
  · simp only [decide_eq_true_eq] at hc
    refine x_plain (E := EE []) ?_
    refine lx_move rfl rfl rfl ?_
    refine lx_move rfl rfl rfl ?_
    refine lx_bin (v := I (i.tmod (m : Int) + m)) rfl rfl (fun _ => rfl) (fun _ => bin_add_i _ _ _ (by unfold inI; omega)) rfl rfl ?_
    refine lx_assign rfl rfl rfl ?_
    refine lx_nil ?_
    refine xs_plain (E := EE []) ?_
    refine lx_move rfl rfl rfl ?_
    refine lx_assign rfl rfl rfl ?_
    refine lx_nil ?_
    refine x_ret ?_
    repeat (first | refine kseq_ret ?_ | refine kblk_ret ?_)
    exact kret_tmp rfl rfl (fun w' hw' => ⟨(if i.tmod (m : Int) < 0 then i.tmod (m : Int) + m else i.tmod (m : Int)).toNat, by congr 2; split <;> omega, by split <;> omega, hp_below hw'⟩)
  · simp only [decide_eq_false_iff_not] at hc
    refine x_skip ?_
    refine xs_plain (E := EE []) ?_
    refine lx_move rfl rfl rfl ?_
    refine lx_assign rfl rfl rfl ?_
    refine lx_nil ?_
    refine x_ret ?_
    repeat (first | refine kseq_ret ?_ | refine kblk_ret ?_)
    exact kret_tmp rfl rfl (fun w' hw' => ⟨(if i.tmod (m : Int) < 0 then i.tmod (m : Int) + m else i.tmod (m : Int)).toNat, by congr 2; split <;> omega, by split <;> omega, hp_below hw'⟩)
theorem rtl_calls (l : List Rt) (hl : AllR l) (len : Nat) (hlen : l.length = len) (hln : len ≤ 1000000) (a1 : Option Addr) (c1 : Nat) (a2 : Option Addr) (c2 : Nat) (w : World) (hw : Gt w) (h1 : RtsAt w a1 l) (h2 : RtsAt w a2 l) : Calls Tryd.prog 19 [.slice a1 len c1, .slice a2 len c2].toArray w (fun e w' => e = .returned (.bool true) ∧ Grow w w') := by
  have hGF : BOk Gt (pl w) := gt_low.plain hw
  refine calls_of_X (G := Gt) Tryd.func19 rfl rfl (Hp (pl w) []) (hp_refl (pl w) trivial rides_true) (good_hp hGF) ?_
  refine xs_plain (E := EE []) ?_
  refine lx_assign rfl rfl rfl ?_
  refine lx_nil ?_
  refine x_seq ?_
  refine xs_plain (E := EE []) ?_
  refine lx_move rfl rfl rfl ?_
  refine lx_len rfl (fun _ => len_slice Tryd.underlying22 _ _ _ _) rfl rfl ?_
  refine lx_move rfl rfl rfl ?_
  refine lx_len rfl (fun _ => len_slice Tryd.underlying22 _ _ _ _) rfl rfl ?_
  refine lx_binB false rfl rfl (fun _ => rfl) (fun _ => bin_neq_i _ _ _) (by simp) rfl rfl ?_
  refine lx_nil ?_
  refine x_false rfl ?_
  refine x_skip ?_
  refine x_seq ?_
  refine xs_plain (E := EE []) ?_
  refine lx_assign rfl rfl rfl ?_
  refine lx_nil ?_
  refine x_block ?_
  refine x_for (ι := { i : Nat // i ≤ len }) (fun y => [(0, .slice a1 len c1), (1, .slice a2 len c2), (5, I (y.1 : Int))]) (fun y => []) (fun y => len - y.1) ⟨0, Nat.zero_le _⟩ hGF ⟨rfl, rfl, rfl, trivial⟩ trivial ?_
  rintro ⟨k, hk⟩
  dsimp only
  refine x_seq ?_
  refine xs_plain (E := EE []) ?_
  refine lx_move rfl rfl rfl ?_
  refine lx_move rfl rfl rfl ?_
  refine lx_len rfl (fun _ => len_slice Tryd.underlying22 _ _ _ _) rfl rfl ?_
  rcases Nat.lt_or_ge k len with hlt | hge
  · skip
    obtain ⟨x, hbx⟩ : ∃ x, l[k]? = some x := ⟨_, List.getElem?_eq_getElem (by omega)⟩
    have hx : x.length = 32 := hl x (List.mem_of_getElem? hbx)
    obtain ⟨ad1, rfl, hx1⟩ := h1 k x hbx
    obtain ⟨ad2, rfl, hx2⟩ := h2 k x hbx
    refine lx_binB true rfl rfl (fun _ => rfl) (fun _ => bin_lss_i _ _ _) (by simp; omega) rfl rfl ?_
    refine lx_nil ?_
    refine x_true rfl ?_
    refine x_skip ?_
    refine x_seq ?_
    refine x_block ?_
    refine xs_drawn (E := EE []) mixed (by kernel_rfl) (by kernel_rfl) (by kernel_rfl) ?_
    refine lx_move rfl rfl rfl ?_
    refine lx_move rfl rfl rfl ?_
    refine lx_isAW k 32 rfl rfl Tryd.underlying22 Tryd.sizeOf29 rfl (by omega) rfl rfl ?_
    refine lx_loadA (cs := x.map U8) rfl Tryd.isAgg29 Tryd.sizeOf29 (by rw [List.length_map]; exact hx) (fun w' h j v hv => ((hp_below h).cell (block_lt_of_cell (hx1 j v hv))).trans (hx1 j v hv)) rfl rfl ?_
    refine lx_move rfl rfl rfl ?_
    refine lx_move rfl rfl rfl ?_
    refine lx_isAW k 32 rfl rfl Tryd.underlying22 Tryd.sizeOf29 rfl (by omega) rfl rfl ?_
    refine lx_loadA (cs := x.map U8) rfl Tryd.isAgg29 Tryd.sizeOf29 (by rw [List.length_map]; exact hx) (fun w' h j v hv => ((hp_below h).cell (block_lt_of_cell (hx2 j v hv))).trans (hx2 j v hv)) rfl rfl ?_
    refine lx_bin rfl rfl (fun w' => eqg29 _ _ _ _ _ w') (fun w' => bin_ne_row Tryd.underlying29 Tryd.underlying5 Tryd.sizeOf5 Tryd.isAgg5 _ hx w') rfl rfl ?_
    refine lx_nil ?_
    refine x_false rfl ?_
    refine x_skip ?_
    refine x_plain (E := EE []) ?_
    refine lx_move rfl rfl rfl ?_
    refine lx_bin (v := I (((k + 1 : Nat) : Int))) rfl rfl (fun _ => rfl) (fun _ => (bin_add_i _ _ _ (by unfold inI; omega)).trans (by rfl)) rfl rfl ?_
    refine lx_assign rfl rfl rfl ?_
    refine lx_nil ?_
    repeat (refine kblk_n ?_)
    refine kseq_n ?_
    exact ⟨rfl, ⟨k + 1, hlt⟩, _, by show len - (k + 1) < len - k; omega, rfl, ⟨rfl, rfl, rfl, trivial⟩, trivial⟩
  · skip
    refine lx_binB false rfl rfl (fun _ => rfl) (fun _ => bin_lss_i _ _ _) (by simp; omega) rfl rfl ?_
    refine lx_nil ?_
    refine x_false rfl ?_
    refine x_exit ?_
    refine xs_plain (E := EE []) ?_
    refine lx_assign rfl rfl rfl ?_
    refine lx_nil ?_
    refine x_ret ?_
    repeat (first | refine kseq_ret ?_ | refine kblk_ret ?_)
    exact kret_tmp rfl rfl (fun w' hw' => ⟨rfl, hp_below hw'⟩)
theorem SlW.le {e : TypeId} {s : Nat} {w : World} {a : Option Addr} {cap nx : Nat} {xs : List Value} (h : SlW e s w a cap nx xs) : nx ≤ cap := by
  rcases h with ⟨_, _, h, _⟩ | ⟨_, _, _, _, _, h, _⟩
  · omega
  · exact h
theorem at_mod (x : BitVec 64) {D : Nat} (hD : D < 64) : (x &&& (1#64 <<< D - 1#64)).toNat = x.toNat % 2 ^ D := by
  have hp : 2 ^ D < 2 ^ 64 := Nat.pow_lt_pow_right (by decide) hD
  have hpos := Nat.two_pow_pos D
  have h1 : (1#64 <<< D).toNat = 2 ^ D := by
    rw [BitVec.toNat_shiftLeft, Nat.shiftLeft_eq, show (1#64).toNat = 1 from rfl, Nat.one_mul, Nat.mod_eq_of_lt hp]
  have h2 : (1#64 <<< D - 1#64).toNat = 2 ^ D - 1 := by
    rw [BitVec.toNat_sub_of_le (by rw [BitVec.le_def, h1]; exact hpos), h1]
    rfl
  rw [BitVec.toNat_and, h2, Nat.and_two_pow_sub_one_eq_mod]
theorem bra_v1 {l : List Rt} {D : Nat} (hD : D ≤ 8) (x : BitVec 64) (hl : l.length ≤ 2 ^ D) : vfy (l.getD (x.toNat % 2 ^ D) Z0) (brF P2 Z0 D l x.toNat) (x &&& (1#64 <<< D - 1#64)) (tre P2 Z0 D l) = true := by
  have hm := at_mod x (D := D) (by omega)
  have h1 : fld P2 (x.toNat % 2 ^ D) 0 (l.getD (x.toNat % 2 ^ D) Z0) (brF P2 Z0 D l x.toNat) = tre P2 Z0 D l := by
    rw [← fld_brF P2 Z0 x.toNat D l (by omega) hl]
    refine fld_bits P2 _ _ _ fun m _ hm2 => ?_
    rw [brF_len, Nat.zero_add] at hm2
    rw [Nat.testBit_mod_two_pow]
    simp [hm2]
  unfold vfy
  rw [hm, h1, decide_eq_true rfl, brF_len]
  have h2 : ((x &&& (1#64 <<< D - 1#64)) >>> D == 0#64) = true := by
    rw [beq_iff_eq]
    apply BitVec.eq_of_toNat_eq
    rw [BitVec.toNat_ushiftRight, hm, Nat.shiftRight_eq_div_pow, Nat.div_eq_of_lt (Nat.mod_lt _ (Nat.two_pow_pos D))]
    rfl
  rw [h2, Bool.or_true]; rfl
theorem bra_v2 {l : List Rt} {D : Nat} (hD : D ≤ 8) (x : BitVec 64) (hl : l.length ≤ 2 ^ D) : vfy (l.getD (x.toNat % 2 ^ D) Z0) (brF P2 Z0 D l x.toNat) x (tre P2 Z0 D l) = (x == x &&& (1#64 <<< D - 1#64)) := by
  have hm := at_mod x (D := D) (by omega)
  have h64 : decide (64 ≤ D) = false := decide_eq_false (by omega)
  unfold vfy
  rw [fld_brF P2 Z0 x.toNat D l (by omega) hl, decide_eq_true rfl, brF_len, h64, Bool.true_and, Bool.false_or, Bool.eq_iff_iff, beq_iff_eq, beq_iff_eq]
  have hpos := Nat.two_pow_pos D
  constructor
  · intro h
    apply BitVec.eq_of_toNat_eq
    have h2 := congrArg BitVec.toNat h
    rw [BitVec.toNat_ushiftRight, Nat.shiftRight_eq_div_pow, show (0#64).toNat = 0 from rfl] at h2
    rw [hm, Nat.mod_eq_of_lt]
    rcases Nat.lt_or_ge x.toNat (2 ^ D) with h3 | h3
    · exact h3
    · have := Nat.div_pos h3 hpos
      omega
  · intro h
    apply BitVec.eq_of_toNat_eq
    rw [BitVec.toNat_ushiftRight, Nat.shiftRight_eq_div_pow, h, hm, Nat.div_eq_of_lt (Nat.mod_lt _ hpos)]
    rfl
theorem bran_g (hM : MerkleP) (a : Option Addr) (cap : Nat) (l : List Rt) (d : Int) (x0 : BitVec 64) (hlt : ¬ l.length ≤ 60) (w : World) (hw : Gt w) : Calls Tryd.prog 4 [.slice a l.length cap, I d, U64 x0].toArray w (fun e w' => e = .returned (.bool true) ∧ Grow w w') := by
  have hGF : BOk Gt (pl w) := gt_low.plain hw
  refine calls_of_X (G := Gt) Tryd.func4 rfl rfl (Hp (pl w) []) (hp_refl (pl w) trivial rides_true) (good_hp hGF) ?_
  refine xs_plain (E := EE [17, 12, 18, 20]) ?_
  refine lx_assign rfl rfl rfl ?_
  refine lx_nil ?_
  refine x_seq ?_
  refine xs_plain (E := EE [17, 12, 18, 20]) ?_
  refine lx_callC rfl rfl ent10 (fun w1 _ hG => known18 hM w1 hG) rfl rfl ?_
  refine lx_un rfl (fun _ => un_not _) rfl rfl ?_
  refine lx_nil ?_
  refine x_false rfl ?_
  refine x_skip ?_
  refine x_seq ?_
  refine xs_plain (E := EE [17, 12, 18, 20]) ?_
  refine lx_move rfl rfl rfl ?_
  refine lx_callC rfl rfl ent11 (fun w1 _ hG => lig_calls l.length _ _ w1 hG) rfl rfl ?_
  rw [decide_eq_false (show ¬ l.length ≤ 60 from hlt)]
  refine lx_un rfl (fun _ => un_not _) rfl rfl ?_
  refine lx_nil ?_
  refine x_true rfl ?_
  refine xs_plain (E := EE [17, 12, 18, 20]) ?_
  refine lx_assign rfl rfl rfl ?_
  refine lx_nil ?_
  refine x_ret ?_
  repeat (first | refine kseq_ret ?_ | refine kblk_ret ?_)
  exact kret_tmp rfl rfl (fun w' hw' => ⟨rfl, hp_below hw'⟩)
theorem len64 {n : Nat} (h : n ≤ 1000000) : (BitVec.ofInt 64 (n : Int)).toNat = n := by
  rw [BitVec.toNat_ofInt]; omega
theorem bran_s (hM : MerkleP) (a : Option Addr) (cap : Nat) (l : List Rt) (d : Int) (x0 : BitVec 64) (hl : AllR l) (hc : l.length ≤ cap) (hlt : l.length ≤ 60) (w : World) (hw : Gt w) (hr : RtsAt w a l) : Calls Tryd.prog 4 [.slice a l.length cap, I d, U64 x0].toArray w (fun e w' => e = .returned (.bool true) ∧ Grow w w') := by
  have hGF : BOk Gt (pl w) := gt_low.plain hw
  refine calls_of_X (G := Gt) Tryd.func4 rfl rfl (Hp (pl w) []) (hp_refl (pl w) trivial rides_true) (good_hp hGF) ?_
  refine xs_plain (E := EE [17, 12, 18, 20]) ?_
  refine lx_assign rfl rfl rfl ?_
  refine lx_nil ?_
  refine x_seq ?_
  refine xs_plain (E := EE [17, 12, 18, 20]) ?_
  refine lx_callC rfl rfl ent10 (fun w1 _ hG => known18 hM w1 hG) rfl rfl ?_
  refine lx_un rfl (fun _ => un_not _) rfl rfl ?_
  refine lx_nil ?_
  refine x_false rfl ?_
  refine x_skip ?_
  refine x_seq ?_
  refine xs_plain (E := EE [17, 12, 18, 20]) ?_
  refine lx_move rfl rfl rfl ?_
  refine lx_callC rfl rfl ent11 (fun w1 _ hG => lig_calls l.length _ _ w1 hG) rfl rfl ?_
  rw [decide_eq_true (show l.length ≤ 60 from hlt)]
  refine lx_un rfl (fun _ => un_not _) rfl rfl ?_
  refine lx_nil ?_
  refine x_false rfl ?_
  refine x_skip ?_
  refine xs_plain (E := EE [17, 12, 18, 20]) ?_
  refine lx_move rfl rfl rfl ?_
  refine lx_callW gt_low (M := fun _ => False) (fun k h => h.elim) rfl rfl ent17 rfl rfl hGF (Q := fun w1 w2 v => ∃ k : Nat, v = I (k : Int) ∧ k < 9) (fun w1 h1 g1 => (plc_calls d 9 (by omega) (by omega) w1 g1).mono fun e w2 ⟨k, q1, q2, q3⟩ => ⟨_, q1, grow_mm q3, k, rfl, q2⟩) (fun w18a w18 v hg18 hm18 gg18 hq => ?_)
  have hGF := gt_low.plain gg18
  have hr18 := hg18.trans (hm18.grow (fun _ _ h => h))
  have hW : Grow w w18 := hr18
  obtain ⟨D, rfl, hD⟩ := hq
  have hpD := Nat.two_pow_pos D
  refine lx_assign rfl rfl rfl ?_
  refine lx_nil ?_
  refine xs_plain (E := EE [17, 12, 18, 20]) ?_
  refine lx_callW gt_low (M := fun _ => False) (fun k h => h.elim) rfl rfl ent12 rfl rfl hGF (Q := fun w1 w2 v => ∃ bm, v = .agg [.pointer (some ⟨bm, 0, none⟩)].toArray ∧ w1.heap.size ≤ bm ∧ MkAt w2 bm) (fun w1 h1 g1 => (hnew_calls w1 g1).mono fun e w2 ⟨bm, q1, q2, q3, q4⟩ => ⟨_, q1, grow_mm q2, bm, rfl, q3, q4⟩) (fun w19a w19 v hg19 hm19 gg19 hq => ?_)
  have hGF := gt_low.plain gg19
  have hr19 := hg19.trans (hm19.grow (fun _ _ h => h))
  have hW : Grow w w19 := hW.trans hr19
  obtain ⟨bm, rfl, _, hmk⟩ := hq
  refine lx_allocr 7 hGF zvH rfl rfl ?_
  intro b7
  refine lx_storea 7 hGF rfl rfl rfl Tryd.sizeOf27 rfl rfl (by rfl) rfl ?_
  refine lx_nil ?_
  refine x_now0 gt_low (fun w7 hC g7 => ?_)
  have hGF := gt_low.plain g7
  have hH := (hC.own 7 _ _ _ rfl).1
  have hW : Grow w w7 := hW.trans (hp_below hC)
  have hmk := hmk.grow (hp_below hC)
  clear hC
  refine xs_plain (E := EE [17, 12, 18, 20]) ?_
  refine lx_move rfl rfl rfl ?_
  refine lx_move rfl rfl rfl ?_
  refine lx_move rfl rfl rfl ?_
  refine lx_callW gt_low (M := fun _ => False) (fun k h => h.elim) rfl rfl ent18 rfl rfl hGF (Q := fun w1 w2 v => ∃ a3 c3, v = .slice a3 D c3 ∧ RtsAt w2 a3 (brF P2 Z0 D (l.take (2 ^ D)) x0.toNat) ∧ D ≤ c3) (fun w1 h1 g1 => (hM.bra D (by omega) l hl _ rfl (by omega) a cap hc x0 w1 g1 (hr.grow (hW.trans h1))).mono fun e w2 ⟨v, q1, q2, q3⟩ => ⟨v, q1, grow_mm q2, by obtain ⟨a3, c3, rfl, hs3, _⟩ := q3; exact ⟨a3, c3, by rw [brF_len], SlW.rts (brF_all D _ (hl.take _)) hs3, by have := SlW.le hs3; rw [brF_len] at this; exact this⟩⟩) (fun w23a w23 v hg23 hm23 gg23 hq => ?_)
  have hGF := gt_low.plain gg23
  have hr23 := hg23.trans (hm23.grow (fun _ _ h => h))
  have hW : Grow w w23 := hW.trans hr23
  have hH := hH.grow hr23
  have hmk := hmk.grow hr23
  obtain ⟨a3, c3, rfl, hs3, hc3⟩ := hq
  refine lx_assign rfl rfl rfl ?_
  refine lx_nil ?_
  refine x_seq ?_
  refine xs_plain (E := EE [17, 12, 18, 20]) ?_
  refine lx_move rfl rfl rfl ?_
  refine lx_loadr (cs := [.pointer (some ⟨bm, 0, none⟩)]) rfl Tryd.isAgg27 Tryd.sizeOf27 rfl (fun w' h => (hH.grow (hp_below h)).range) rfl rfl ?_
  refine lx_move rfl rfl rfl ?_
  refine lx_move rfl rfl rfl ?_
  refine lx_move rfl rfl rfl ?_
  refine lx_callW gt_low (M := fun _ => False) (fun k h => h.elim) rfl rfl ent20 rfl rfl hGF (Q := fun w1 w2 v => ∃ a3 c3, v = .slice a3 D c3 ∧ RtsAt w2 a3 (brF P2 Z0 D (l.take (2 ^ D)) x0.toNat) ∧ D ≤ c3) (fun w1 h1 g1 => (hbra_calls bm D (by omega) l hl (by omega) a cap hc x0 w1 g1 (hmk.grow h1) (hr.grow (hW.trans h1))).mono fun e w2 ⟨v, q1, q2, q3⟩ => ⟨v, q1, grow_mm q2, by obtain ⟨a3, c3, rfl, hs3, _⟩ := q3; exact ⟨a3, c3, by rw [brF_len], SlW.rts (brF_all D _ (hl.take _)) hs3, by have := SlW.le hs3; rw [brF_len] at this; exact this⟩⟩) (fun w29a w29 v hg29 hm29 gg29 hq => ?_)
  have hGF := gt_low.plain gg29
  have hr29 := hg29.trans (hm29.grow (fun _ _ h => h))
  have hW : Grow w w29 := hW.trans hr29
  have hH := hH.grow hr29
  have hmk := hmk.grow hr29
  have hs3 := hs3.grow hr29
  obtain ⟨a4, c4, rfl, hs4, _⟩ := hq
  refine lx_callC rfl rfl ent19 (fun w' hw' hG => rtl_calls (brF P2 Z0 D (l.take (2 ^ D)) x0.toNat) (brF_all D _ (hl.take _)) D (brF_len ..) (by omega) a3 c3 a4 c4 w' hG (hs3.grow (hp_below hw')) (hs4.grow (hp_below hw'))) rfl rfl ?_
  refine lx_un rfl (fun _ => un_not _) rfl rfl ?_
  refine lx_move rfl rfl rfl ?_
  refine lx_move rfl rfl rfl ?_
  refine lx_len rfl (fun _ => len_slice Tryd.underlying22 _ _ _ _) rfl rfl ?_
  refine lx_move rfl rfl rfl ?_
  refine lx_binB false rfl rfl (fun _ => rfl) (fun _ => bin_neq_i _ _ _) (by simp) rfl rfl ?_
  refine lx_pick rfl rfl rfl rfl rfl ?_
  refine lx_nil ?_
  refine x_false rfl ?_
  refine x_skip ?_
  refine xs_plain (E := EE [17, 12, 18, 20]) ?_
  refine lx_move rfl rfl rfl ?_
  refine lx_move rfl rfl rfl ?_
  refine lx_bin (v := U64 (1#64 <<< D)) rfl rfl (fun _ => rfl) (fun _ => bin_shl_i_u64 _ _ _ (by omega)) rfl rfl ?_
  refine lx_bin rfl rfl (fun _ => rfl) (fun _ => bin_sub_u64 _ _ _) rfl rfl ?_
  refine lx_bin rfl rfl (fun _ => rfl) (fun _ => bin_and_u64 _ _ _) rfl rfl ?_
  refine lx_assign rfl rfl rfl ?_
  refine lx_nil ?_
  refine xs_plain (E := EE [17, 12, 18, 20]) ?_
  refine lx_move rfl rfl rfl ?_
  refine lx_move rfl rfl rfl ?_
  refine lx_len rfl (fun _ => len_slice Tryd.underlying22 _ _ _ _) rfl rfl ?_
  refine lx_move rfl rfl rfl ?_
  refine lx_bin (v := I (((2 ^ D : Nat) : Int))) rfl rfl (fun _ => rfl) (fun _ => shl1_i _ D (by omega) _) rfl rfl ?_
  refine lx_min (z := (((l.take (2 ^ D)).length : Nat) : Int)) rfl rfl (by rw [List.length_take]; split <;> omega) rfl rfl ?_
  refine lx_slsl (l := 0) (h' := (l.take (2 ^ D)).length) rfl Tryd.underlying22 Tryd.sizeOf29 rfl rfl ⟨Nat.zero_le _, by rw [List.length_take]; omega⟩ rfl rfl ?_
  rw [cutR0, Nat.sub_zero, Nat.sub_zero]
  refine lx_assign rfl rfl rfl ?_
  refine lx_nil ?_
  refine xs_plain (E := EE [17, 12, 18, 20]) ?_
  refine lx_allocr 10 hGF zv29 rfl rfl ?_
  intro b10
  refine lx_nil ?_
  refine x_seq ?_
  refine xs_plain (E := EE [17, 12, 18, 20]) ?_
  refine lx_move rfl rfl rfl ?_
  refine lx_move rfl rfl rfl ?_
  refine lx_len rfl (fun _ => len_slice Tryd.underlying22 _ _ _ _) rfl rfl ?_
  refine lx_conv rfl rfl (fun _ => conv_i_u64 Tryd.underlying3 Tryd.underlying37 _) rfl rfl ?_
  rcases Nat.lt_or_ge (x0.toNat % 2 ^ D) (l.take (2 ^ D)).length with hlA | hlA
  · skip
    obtain ⟨x, hbx⟩ : ∃ x, (l.take (2 ^ D))[x0.toNat % 2 ^ D]? = some x := ⟨_, List.getElem?_eq_getElem hlA⟩
    have hx : x.length = 32 := hl.take _ x (List.mem_of_getElem? hbx)
    have hLF : (l.take (2 ^ D)).getD (x0.toNat % 2 ^ D) Z0 = x := by rw [List.getD_eq_getElem?_getD, hbx]; rfl
    obtain ⟨ad, hae, hxc⟩ := (hr.take (2 ^ D)) _ x hbx
    subst hae
    refine lx_binB true rfl rfl (fun _ => rfl) (fun _ => bin_lss_u64 _ _ _) (by rw [decide_eq_true_eq, BitVec.lt_def, at_mod x0 (by omega), len64 (by rw [List.length_take]; omega)]; exact hlA) rfl rfl ?_
    refine lx_nil ?_
    refine x_true rfl ?_
    refine x_plain (E := EE [17, 12, 18, 20]) ?_
    refine lx_move rfl rfl rfl ?_
    refine lx_move rfl rfl rfl ?_
    refine lx_isAWu 32 rfl rfl Tryd.underlying22 Tryd.sizeOf29 (by rw [at_mod x0 (by omega)]; exact hlA) rfl rfl ?_
    rw [at_mod x0 (by omega)]
    refine lx_loadA (cs := x.map U8) rfl Tryd.isAgg29 Tryd.sizeOf29 (by rw [List.length_map]; exact hx) (fun w' h j v hv => ((hW.trans (hp_below h)).cell (block_lt_of_cell (hxc j v hv))).trans (hxc j v hv)) rfl rfl ?_
    refine lx_storea 10 hGF rfl rfl rfl Tryd.sizeOf29 (by rw [List.length_map]; exact hx) (by rw [List.length_map]; exact Z0_len) (one_u8 _) rfl ?_
    refine lx_nil ?_
    refine xs_plain (E := EE [17, 12, 18, 20]) ?_
    refine lx_loadr (cs := [.pointer (some ⟨bm, 0, none⟩)]) rfl Tryd.isAgg27 Tryd.sizeOf27 rfl (fun w' h => (hH.grow (hp_below h)).range) rfl rfl ?_
    refine lx_move rfl rfl rfl ?_
    refine lx_move rfl rfl rfl ?_
    refine lx_callC rfl rfl ent21 (fun w' hw' hG => htree_calls bm D (by omega) (l.take (2 ^ D)) (hl.take _) _ rfl (by rw [List.length_take]; omega) _ cap (by rw [List.length_take]; omega) w' hG (hmk.grow (hp_below hw')) ((hr.take _).grow (hW.trans (hp_below hw')))) rfl rfl ?_
    refine lx_allocr 11 hGF zv29 rfl rfl ?_
    intro b11
    refine lx_storea 11 hGF rfl rfl rfl Tryd.sizeOf29 (by rw [List.length_map]; exact tre_len (hl.take _) D) (by rw [List.length_map]; exact Z0_len) (one_u8 _) rfl ?_
    refine lx_nil ?_
    refine xs_plain (E := EE [17, 12, 18, 20]) ?_
    refine lx_loada 10 rfl rfl Tryd.isAgg29 Tryd.sizeOf29 (by rw [List.length_map]; exact hx) rfl rfl ?_
    refine lx_move rfl rfl rfl ?_
    refine lx_move rfl rfl rfl ?_
    refine lx_loada 11 rfl rfl Tryd.isAgg29 Tryd.sizeOf29 (by rw [List.length_map]; exact tre_len (hl.take _) D) rfl rfl ?_
    refine lx_callC rfl rfl ent22 (fun w' hw' hG => hM.ver x hx (brF P2 Z0 D (l.take (2 ^ D)) x0.toNat) (brF_all D _ (hl.take _)) D (brF_len ..) (by omega) a3 c3 hc3 (x0 &&& (1#64 <<< D - 1#64)) _ (tre_len (hl.take _) D) w' hG (hs3.grow (hp_below hw'))) rfl rfl ?_
    rw [show vfy x (brF P2 Z0 D (l.take (2 ^ D)) x0.toNat) (x0 &&& (1#64 <<< D - 1#64)) (tre P2 Z0 D (l.take (2 ^ D))) = true from by have h0 := bra_v1 (l := (l.take (2 ^ D))) (D := D) (by omega) x0 (by rw [List.length_take]; omega); rw [hLF] at h0; exact h0]
    refine lx_move rfl rfl rfl ?_
    refine lx_loada 10 rfl rfl Tryd.isAgg29 Tryd.sizeOf29 (by rw [List.length_map]; exact hx) rfl rfl ?_
    refine lx_move rfl rfl rfl ?_
    refine lx_move rfl rfl rfl ?_
    refine lx_loada 11 rfl rfl Tryd.isAgg29 Tryd.sizeOf29 (by rw [List.length_map]; exact tre_len (hl.take _) D) rfl rfl ?_
    refine lx_callC rfl rfl ent22 (fun w' hw' hG => hM.ver x hx (brF P2 Z0 D (l.take (2 ^ D)) x0.toNat) (brF_all D _ (hl.take _)) D (brF_len ..) (by omega) a3 c3 hc3 x0 _ (tre_len (hl.take _) D) w' hG (hs3.grow (hp_below hw'))) rfl rfl ?_
    rw [show vfy x (brF P2 Z0 D (l.take (2 ^ D)) x0.toNat) x0 (tre P2 Z0 D (l.take (2 ^ D))) = (x0 == (x0 &&& (1#64 <<< D - 1#64))) from by have h0 := bra_v2 (l := (l.take (2 ^ D))) (D := D) (by omega) x0 (by rw [List.length_take]; omega); rw [hLF] at h0; exact h0]
    refine lx_move rfl rfl rfl ?_
    refine lx_move rfl rfl rfl ?_
    refine lx_bin rfl rfl (fun _ => rfl) (fun _ => bin_eql_u64 _ _ _) rfl rfl ?_
    refine lx_binB true rfl rfl (fun _ => rfl) (fun w => bin_eql_bool 4 Tryd.underlying4 _ _ w) (by simp) rfl rfl ?_
    refine lx_pick rfl rfl rfl rfl rfl ?_
    refine lx_assign rfl rfl rfl ?_
    refine lx_nil ?_
    refine x_ret ?_
    repeat (first | refine kseq_ret ?_ | refine kblk_ret ?_)
    exact kret_tmp rfl rfl (fun w' hw' => ⟨rfl, hW.trans (hp_below hw')⟩)
  · skip
    have hLF : (l.take (2 ^ D)).getD (x0.toNat % 2 ^ D) Z0 = Z0 := by rw [List.getD_eq_getElem?_getD, List.getElem?_eq_none hlA]; rfl
    refine lx_binB false rfl rfl (fun _ => rfl) (fun _ => bin_lss_u64 _ _ _) (by rw [decide_eq_false_iff_not, BitVec.lt_def, at_mod x0 (by omega), len64 (by rw [List.length_take]; omega)]; omega) rfl rfl ?_
    refine lx_nil ?_
    refine x_false rfl ?_
    refine x_skip ?_
    refine xs_plain (E := EE [17, 12, 18, 20]) ?_
    refine lx_loadr (cs := [.pointer (some ⟨bm, 0, none⟩)]) rfl Tryd.isAgg27 Tryd.sizeOf27 rfl (fun w' h => (hH.grow (hp_below h)).range) rfl rfl ?_
    refine lx_move rfl rfl rfl ?_
    refine lx_move rfl rfl rfl ?_
    refine lx_callC rfl rfl ent21 (fun w' hw' hG => htree_calls bm D (by omega) (l.take (2 ^ D)) (hl.take _) _ rfl (by rw [List.length_take]; omega) _ cap (by rw [List.length_take]; omega) w' hG (hmk.grow (hp_below hw')) ((hr.take _).grow (hW.trans (hp_below hw')))) rfl rfl ?_
    refine lx_allocr 11 hGF zv29 rfl rfl ?_
    intro b11
    refine lx_storea 11 hGF rfl rfl rfl Tryd.sizeOf29 (by rw [List.length_map]; exact tre_len (hl.take _) D) (by rw [List.length_map]; exact Z0_len) (one_u8 _) rfl ?_
    refine lx_nil ?_
    refine xs_plain (E := EE [17, 12, 18, 20]) ?_
    refine lx_loada 10 rfl rfl Tryd.isAgg29 Tryd.sizeOf29 (by rw [List.length_map]; exact Z0_len) rfl rfl ?_
    refine lx_move rfl rfl rfl ?_
    refine lx_move rfl rfl rfl ?_
    refine lx_loada 11 rfl rfl Tryd.isAgg29 Tryd.sizeOf29 (by rw [List.length_map]; exact tre_len (hl.take _) D) rfl rfl ?_
    refine lx_callC rfl rfl ent22 (fun w' hw' hG => hM.ver Z0 Z0_len (brF P2 Z0 D (l.take (2 ^ D)) x0.toNat) (brF_all D _ (hl.take _)) D (brF_len ..) (by omega) a3 c3 hc3 (x0 &&& (1#64 <<< D - 1#64)) _ (tre_len (hl.take _) D) w' hG (hs3.grow (hp_below hw'))) rfl rfl ?_
    rw [show vfy Z0 (brF P2 Z0 D (l.take (2 ^ D)) x0.toNat) (x0 &&& (1#64 <<< D - 1#64)) (tre P2 Z0 D (l.take (2 ^ D))) = true from by have h0 := bra_v1 (l := (l.take (2 ^ D))) (D := D) (by omega) x0 (by rw [List.length_take]; omega); rw [hLF] at h0; exact h0]
    refine lx_move rfl rfl rfl ?_
    refine lx_loada 10 rfl rfl Tryd.isAgg29 Tryd.sizeOf29 (by rw [List.length_map]; exact Z0_len) rfl rfl ?_
    refine lx_move rfl rfl rfl ?_
    refine lx_move rfl rfl rfl ?_
    refine lx_loada 11 rfl rfl Tryd.isAgg29 Tryd.sizeOf29 (by rw [List.length_map]; exact tre_len (hl.take _) D) rfl rfl ?_
    refine lx_callC rfl rfl ent22 (fun w' hw' hG => hM.ver Z0 Z0_len (brF P2 Z0 D (l.take (2 ^ D)) x0.toNat) (brF_all D _ (hl.take _)) D (brF_len ..) (by omega) a3 c3 hc3 x0 _ (tre_len (hl.take _) D) w' hG (hs3.grow (hp_below hw'))) rfl rfl ?_
    rw [show vfy Z0 (brF P2 Z0 D (l.take (2 ^ D)) x0.toNat) x0 (tre P2 Z0 D (l.take (2 ^ D))) = (x0 == (x0 &&& (1#64 <<< D - 1#64))) from by have h0 := bra_v2 (l := (l.take (2 ^ D))) (D := D) (by omega) x0 (by rw [List.length_take]; omega); rw [hLF] at h0; exact h0]
    refine lx_move rfl rfl rfl ?_
    refine lx_move rfl rfl rfl ?_
    refine lx_bin rfl rfl (fun _ => rfl) (fun _ => bin_eql_u64 _ _ _) rfl rfl ?_
    refine lx_binB true rfl rfl (fun _ => rfl) (fun w => bin_eql_bool 4 Tryd.underlying4 _ _ w) (by simp) rfl rfl ?_
    refine lx_pick rfl rfl rfl rfl rfl ?_
    refine lx_assign rfl rfl rfl ?_
    refine lx_nil ?_
    refine x_ret ?_
    repeat (first | refine kseq_ret ?_ | refine kblk_ret ?_)
    exact kret_tmp rfl rfl (fun w' hw' => ⟨rfl, hW.trans (hp_below hw')⟩)
theorem bran_law (hM : MerkleP) (a : Option Addr) (cap : Nat) (l : List Rt) (d : Int) (x0 : BitVec 64) (hl : AllR l) (hc : l.length ≤ cap) (w : World) (hw : Gt w) (hr : RtsAt w a l) : Calls Tryd.prog 4 [.slice a l.length cap, I d, U64 x0].toArray w (fun e w' => e = .returned (.bool true) ∧ Grow w w') := by
  by_cases hlt : l.length ≤ 60
  · exact bran_s hM a cap l d x0 hl hc hlt w hw hr
  · exact bran_g hM a cap l d x0 hlt w hw
end Go.Proofs.YtfnnbaoilldpaaaDoor
