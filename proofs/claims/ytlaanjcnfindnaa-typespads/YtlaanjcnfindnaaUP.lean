/-
  Bits clipped and filled up; noughts behind them, or not.
-/
import Derived.Test.YtlaanjcnfindnaaUN
import Derived.Test.YtlaanjcnfindnaaVP
import Derived.Test.YtlaanjcnfindnaaUA
namespace Go.Proofs.Ytlaanjcnfindnaa
open Go.RowKit
set_option maxRecDepth 100000
set_option maxHeartbeats 1000000

theorem sh_sh (y : BitVec 8) (r : Nat) : ((y >>> r) <<< r) >>> r = y >>> r := byte_ext fun k hk => by
  simp only [BitVec.getLsbD_ushiftRight, BitVec.getLsbD_shiftLeft]
  by_cases h : r + k < 8
  · rw [show r + k - r = k by omega]; simp [h]
  · rw [show (decide (r + k < 8)) = false by simp [h]]
    simp only [Bool.false_and]
    exact (BitVec.getLsbD_of_ge _ _ (by omega)).symm
theorem pad_clean {L : List Bool} {y : BitVec 8} (h8 : L.length % 8 ≠ 0) : cleanB ((pb L L.length).set ((L.length - 1) / 8) ((pb L L.length).getD ((L.length - 1) / 8) 0#8 ||| (y >>> (L.length % 8)) <<< (L.length % 8))) L.length = (y >>> (L.length % 8) == 0#8) := by
  have hc := clean_pb L
  have hq : (L.length - 1) / 8 = L.length / 8 := by omega
  unfold cleanB at hc ⊢
  rw [show decide (L.length % 8 = 0) = false by simp [h8], Bool.false_or] at hc ⊢
  have hc := beq_iff_eq.1 hc
  rw [hq, getD_set_eq, if_pos ⟨rfl, by rw [pb_len]; unfold szB; omega⟩, BitVec.ushiftRight_or_distrib, hc, sh_sh, BitVec.zero_or]
/-- The optimistic update's bytes, its bits' part turned. -/
theorem opt_set {A C : By} {B : By} {q : Nat} (hA : A.length = 112) (hq : q < B.length) (f : BitVec 8 → BitVec 8) : (A ++ (B ++ C)).set (112 + q) (f ((A ++ (B ++ C)).getD (112 + q) 0#8)) = A ++ (B.set q (f (B.getD q 0#8)) ++ C) := by
  have e : (A ++ (B ++ C)).getD (112 + q) 0#8 = B.getD q 0#8 := by
    rw [List.getD_eq_getElem?_getD, List.getD_eq_getElem?_getD, List.getElem?_append_right (by omega), hA, Nat.add_sub_cancel_left, List.getElem?_append_left hq]
  rw [e, List.set_append_right _ _ (by omega), hA, Nat.add_sub_cancel_left, List.set_append_left _ _ hq]
theorem sub_mid {A B C : By} {K n : Nat} (hA : A.length = K) (hB : B.length = n) : sub (A ++ (B ++ C)) K n = B := by
  rw [sub, List.drop_append_of_le_length (by omega), List.drop_of_length_le (by omega), List.nil_append, List.take_append_of_le_length (by omega), List.take_of_length_le (by omega)]
theorem src_cells {P : Program} {w : World} {a : Option Addr} {xs : List Value} {n s c : Nat} {tx e' : TypeId} (hu : P.underlying tx = some (.slice e')) (hs : 0 < s) (hl : xs.length = n * s) (h : CellsAt w a xs) (h1 : ∀ u ∈ xs, u.oneCell' = true) : Src P s tx (.slice a n c) n xs w := by
  cases a with
  | some ad => exact Src.ofSlice w hu ad n c xs hl (fun j u hj => by obtain ⟨ad2, e, hc⟩ := h j u hj; cases e; exact hc) h1
  | none =>
    cases xs with
    | nil =>
      have hn : n = 0 := by
        rcases Nat.eq_zero_or_pos n with h0 | h0
        · exact h0
        · have := Nat.mul_pos h0 hs; rw [← hl] at this; exact absurd this (by simp)
      subst hn
      exact Src.ofNil w hu c
    | cons x r =>
      obtain ⟨ad, e, _⟩ := h 0 x rfl
      cases e
theorem tiB : TI Try.prog 4 (.bool false) 1 1 := ti_mk (by kernel_rfl)
theorem zb_list (m : Nat) : (Builtin.zeroCells (Value.bool false).cells m).toList = List.replicate m (.bool false) := made4 m
theorem zb_one (m : Nat) : ∀ u ∈ (Builtin.zeroCells (Value.bool false).cells m).toList, u.oneCell' = true := fun u hu => by
  rw [zb_list] at hu
  rw [(List.mem_replicate.1 hu).2]; rfl
theorem bools_one (l : List Bool) : ∀ u ∈ l.map Value.bool, u.oneCell' = true := fun u hu => by
  obtain ⟨x, _, rfl⟩ := List.mem_map.1 hu; rfl
theorem slv1 {e : TypeId} {w : World} {a : Option Addr} {cap n : Nat} {xs : List Value} (h : SlW e 1 w a cap n xs) : SlV e w a cap xs := by
  rcases h with ⟨h1, h2, _, h3⟩ | ⟨b, c, h1, h2, h3, h4, h5, h6⟩
  · exact .inl ⟨h1, h2, h3⟩
  · exact .inr ⟨b, c, h1, h2, by rw [h3, Nat.mul_one], by rw [h5, Nat.mul_one]; exact h4, h6⟩
/-- Bits, so many. -/
def clip (l : List Bool) (m : Nat) : List Bool := l.take (min l.length m) ++ List.replicate (m - min l.length m) false
theorem clip_len (l : List Bool) (m : Nat) : (clip l m).length = m := by rw [clip, List.length_append, List.length_take, List.length_replicate]; omega
theorem clip_map (l : List Bool) (m : Nat) : (clip l m).map Value.bool = (l.take (min l.length m)).map .bool ++ List.replicate (m - min l.length m) (.bool false) := by rw [clip, List.map_append, List.map_replicate]
def uz (L : List Bool) (a : Option Addr) (c : Nat) : Up := ⟨Hd0, ⟨[], none, 0, Z48⟩, Zs 160, Hd0, Zs 192, ⟨L, a, c, Z96⟩, 0⟩
theorem uz_ok (L : List Bool) (a : Option Addr) (c : Nat) : (uz L a c).Ok := ⟨Hd0_ok, ⟨fun _ h => (by cases h), rfl, Nat.le_refl _⟩, rfl, Hd0_ok, rfl, ⟨rfl⟩⟩
theorem uz_cs (L : List Bool) (a : Option Addr) (c : Nat) : U0.set 597 (.slice a L.length c) = (uz L a c).cs := U_set U0_ul
theorem uz_opt (L : List Bool) (a : Option Addr) (c : Nat) : (uz L a c).opt = Hd0.by ++ (pb L L.length ++ (Z96 ++ le8 0 8)) := by
  show Hd0.by ++ ((pb L L.length ++ Z96) ++ le8 0 8) = _
  rw [List.append_assoc]
theorem uz_len (L : List Bool) (a : Option Addr) (c : Nat) : (uz L a c).opt.length = szB L.length + 216 := by
  rw [uz_opt, List.length_append, List.length_append, List.length_append, pb_len, Hd.blen Hd0_ok, le8_len]
  show 112 + (szB L.length + (96 + 8)) = _
  omega
/-- What came of the bytes. -/
def padB (L : List Bool) (y : BitVec 8) : By := Hd0.by ++ ((pb L L.length).set ((L.length - 1) / 8) ((pb L L.length).getD ((L.length - 1) / 8) 0#8 ||| (y >>> (L.length % 8)) <<< (L.length % 8)) ++ (Z96 ++ le8 0 8))
theorem pads_set (L : List Bool) (a : Option Addr) (c : Nat) (y : BitVec 8) (h : 1 ≤ L.length) : (uz L a c).opt.set (112 + (L.length - 1) / 8) ((uz L a c).opt.getD (112 + (L.length - 1) / 8) 0#8 ||| (y >>> (L.length % 8)) <<< (L.length % 8)) = padB L y := by
  rw [uz_opt]
  exact opt_set (Hd.blen Hd0_ok) (by rw [pb_len]; unfold szB; omega) (fun x => x ||| (y >>> (L.length % 8)) <<< (L.length % 8))
theorem pads_len (L : List Bool) (y : BitVec 8) : (padB L y).length = sz4 L.length := by
  rw [padB, List.length_append, List.length_append, List.length_append, List.length_set, pb_len, Hd.blen Hd0_ok, le8_len]
  show 112 + (szB L.length + (96 + 8)) = _
  unfold sz4; omega
theorem pad_sub (L : List Bool) (y : BitVec 8) : sub (padB L y) 112 (szB L.length) = (pb L L.length).set ((L.length - 1) / 8) ((pb L L.length).getD ((L.length - 1) / 8) 0#8 ||| (y >>> (L.length % 8)) <<< (L.length % 8)) := sub_mid (Hd.blen Hd0_ok) (by rw [List.length_set, pb_len])
theorem pad_no {L : List Bool} {y : BitVec 8} (hy : y >>> (L.length % 8) ≠ 0#8) (h8 : L.length % 8 ≠ 0) : cleanB (sub (padB L y) 112 (szB L.length)) L.length = false := by
  rw [pad_sub, pad_clean h8]
  exact beq_eq_false_iff_ne.2 hy
theorem pad_yes {L : List Bool} {y : BitVec 8} (hy : y >>> (L.length % 8) = 0#8) : sub (padB L y) 112 (szB L.length) = pb L L.length := by
  rw [pad_sub, hy, BitVec.zero_shiftLeft, BitVec.or_zero]
  refine bytes_ext (by rw [List.length_set]) fun i hi => ?_
  rw [getD_set_eq]
  split
  · rename_i h; rw [h.1]
  · rfl
end Go.Proofs.Ytlaanjcnfindnaa
