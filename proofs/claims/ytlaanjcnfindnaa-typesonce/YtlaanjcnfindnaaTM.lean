/-
  Bits as bytes and back.
-/
import Derived.Test.YtlaanjcnfindnaaTD
namespace Go.Proofs.Ytlaanjcnfindnaa
open Go.RowKit
set_option maxRecDepth 100000
set_option maxHeartbeats 1000000
theorem bit_lsb (x : BitVec 8) (k : Nat) : ((x >>> k) &&& 1#8 == 1#8) = x.getLsbD k := by
  have h : (x >>> k).getLsbD 0 = x.getLsbD k := by simp
  rw [← h, BitVec.and_one_eq_setWidth_ofBool_getLsbD]
  cases (x >>> k).getLsbD 0 <;> decide
theorem shl_one (k j : Nat) (hj : j < 8) : (1#8 <<< k).getLsbD j = decide (j = k) := by
  rw [BitVec.getLsbD_shiftLeft]
  by_cases h : j = k
  · subst h; simp [hj]
  · by_cases h2 : j < k
    · simp [h2, h]
    · have : j - k ≠ 0 := by omega
      simp [h, BitVec.getLsbD_one, this]
theorem getD_set_eq {α : Type} (l : List α) (i j : Nat) (x z : α) : (l.set i x).getD j z = if i = j ∧ i < l.length then x else l.getD j z := by
  rw [List.getD_eq_getElem?_getD, List.getD_eq_getElem?_getD, List.getElem?_set]
  by_cases h : i = j
  · subst h
    by_cases h2 : i < l.length
    · simp [h2]
    · simp [h2]
  · simp [h]
theorem pb_bit (l : List Bool) : ∀ (j i k : Nat), k < 8 → 8 * i + k < 8 * szB l.length → ((pb l j).getD i 0#8).getLsbD k = (decide (8 * i + k < j) && l.getD (8 * i + k) false)
  | 0, i, k, hk, hi => by
    rw [pb, List.getD_eq_getElem?_getD, List.getElem?_replicate]
    split <;> simp
  | j + 1, i, k, hk, hi => by
    have ih := pb_bit l j
    unfold pb
    cases hb : l.getD j false with
    | false =>
      simp only [cond_false]
      rw [ih i k hk hi]
      by_cases h : 8 * i + k = j
      · rw [h, hb]; simp
      · rw [show decide (8 * i + k < j + 1) = decide (8 * i + k < j) from by simp; omega]
    | true =>
      simp only [cond_true]
      rw [getD_set_eq, pb_len]
      by_cases h : j / 8 = i
      · by_cases hs : j / 8 < szB l.length
        · rw [if_pos ⟨h, hs⟩, BitVec.getLsbD_or, shl_one _ _ hk, h, ih i k hk hi]
          by_cases h2 : k = j % 8
          · have e : 8 * i + k = j := by omega
            rw [e, hb]; simp [h2]
          · rw [show decide (8 * i + k < j + 1) = decide (8 * i + k < j) from by simp; omega]
            simp [h2]
        · omega
      · rw [if_neg (fun hh => h hh.1), ih i k hk hi, show decide (8 * i + k < j + 1) = decide (8 * i + k < j) from by simp; omega]
theorem byte_ext {x y : BitVec 8} (h : ∀ k, k < 8 → x.getLsbD k = y.getLsbD k) : x = y := BitVec.eq_of_getLsbD_eq h
theorem bytes_ext {xs ys : List (BitVec 8)} (hl : xs.length = ys.length) (h : ∀ i, i < xs.length → xs.getD i 0#8 = ys.getD i 0#8) : xs = ys := by
  apply List.ext_getElem hl
  intro i h1 h2
  have := h i h1
  rwa [List.getD_eq_getElem?_getD, List.getD_eq_getElem?_getD, List.getElem?_eq_getElem h1, List.getElem?_eq_getElem h2] at this
theorem bt_getD (bs : List (BitVec 8)) (n t : Nat) : (bt bs n).getD t false = (decide (t < n) && bitAt bs t) := by
  unfold bt
  rw [List.getD_eq_getElem?_getD, List.getElem?_map]
  by_cases h : t < n
  · rw [List.getElem?_range h]; simp [h]
  · rw [List.getElem?_eq_none (by simp; omega)]; simp [h]
/-- What is clean is written as it was. -/
theorem pb_bt {bs : List (BitVec 8)} {n : Nat} (hl : bs.length = szB n) (hc : cleanB bs n = true) : pb (bt bs n) n = bs := by
  refine bytes_ext (by rw [pb_len, bt_len, hl]) fun i hi => byte_ext fun k hk => ?_
  rw [pb_len, bt_len] at hi
  rw [pb_bit _ _ _ _ hk (by rw [bt_len]; omega), bt_getD]
  by_cases h : 8 * i + k < n
  · simp only [h, decide_true, Bool.true_and]
    unfold bitAt
    rw [show (8 * i + k) / 8 = i from by omega, show (8 * i + k) % 8 = k from by omega, bit_lsb]
  · simp only [h, decide_false, Bool.false_and]
    unfold cleanB at hc
    have h8 : n % 8 ≠ 0 := by unfold szB at hi; omega
    have hi2 : n / 8 = i := by unfold szB at hi; omega
    simp only [h8, decide_false, Bool.false_or, beq_iff_eq, hi2] at hc
    have := congrArg (fun x => x.getLsbD (k - n % 8)) hc
    simp only [BitVec.getLsbD_ushiftRight, BitVec.getLsbD_zero] at this
    rw [show n % 8 + (k - n % 8) = k from by unfold szB at hi; omega] at this
    exact this.symm
theorem pb_bt' {bs : List (BitVec 8)} {n : Nat} (hl : bs.length = szB n) (hc : cleanB bs n = true) : pb (bt bs n) (bt bs n).length = bs := by rw [bt_len]; exact pb_bt hl hc
end Go.Proofs.Ytlaanjcnfindnaa
