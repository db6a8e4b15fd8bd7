/-
  Bits as bytes and back.
-/
import Derived.Test.YtlaanjcnfindnaaTD
namespace Go.Proofs.Ytlaanjcnfindnaa
open Go.RowKit
set_option maxRecDepth 100000
set_option maxHeartbeats 1000000
theorem bit_lsb (x : BitVec 8) (k : Nat) : ((x >>> k) &&& 1#8 == 1#8) = x.getLsbD k := by
  have h : (x >>> k).getLsbD 0 = x.getLsbD k := by simp
  rw [← h, BitVec.and_one_eq_setWidth_ofBool_getLsbD]
  cases (x >>> k).getLsbD 0 <;> decide
theorem shl_one (k j : Nat) (hj : j < 8) : (1#8 <<< k).getLsbD j = decide (j = k) := by
  rw [BitVec.getLsbD_shiftLeft]
  by_cases h : j = k
  · subst h; simp [hj]
  · by_cases h2 : j < k
    · simp [h2, h]
    · have : j - k ≠ 0 := by omega
      simp [h, BitVec.getLsbD_one, this]
theorem getD_set_eq {α : Type} (l : List α) (i j : Nat) (x z : α) : (l.set i x).getD j z = if i = j ∧ i < l.length then x else l.getD j z := by
  rw [List.getD_eq_getElem?_getD, List.getD_eq_getElem?_getD, List.getElem?_set]
  by_cases h : i = j
  · subst h
    by_cases h2 : i < l.length
    · simp [h2]
    · simp [h2]
  · simp [h]
theorem pb_bit (l : List Bool) : ∀ (j i k : Nat), k < 8 → 8 * i + k < 8 * szB l.length → ((pb l j).getD i 0#8).getLsbD k = (decide (8 * i + k < j) && l.getD (8 * i + k) false)
  | 0, i, k, hk, hi => by
    rw [pb, List.getD_eq_getElem?_getD, List.getElem?_replicate]
    split <;> simp
  | j + 1, i, k, hk, hi => by
    have ih := pb_bit l j
    unfold pb
    cases hb : l.getD j false with
    | false =>
      simp only [cond_false]
      rw [ih i k hk hi]
      by_cases h : 8 * i + k = j
      · rw [h, hb]; simp
      · rw [show decide (8 * i + k < j + 1) = decide (8 * i + k < j) from by simp; omega]
    | true =>
      simp only [cond_true]
      rw [getD_set_eq, pb_len]
      by_cases h : j / 8 = i
      · by_cases hs : j / 8 < szB l.length
        · rw [if_pos ⟨h, hs⟩, BitVec.getLsbD_or, shl_one _ _ hk, h, ih i k hk hi]
          by_cases h2 : k = j % 8
          · have e : 8 * i + k = j := by omega
            rw [e, hb]; simp [h2]
          · rw [show decide (8 * i + k < j + 1) = decide (8 * i + k < j) from by simp; omega]
            simp [h2]
        · omega
      · rw [if_neg (fun hh => h hh.1), ih i k hk hi, show decide (8 * i + k < j + 1) = decide (8 * i + k < j) from by simp; omega]
theorem byte_ext {x y : BitVec 8} (h : ∀ k, k < 8 → x.getLsbD k = y.getLsbD k) : x = y := BitVec.eq_of_getLsbD_eq h
theorem bt_getD (bs : List (BitVec 8)) (n t : Nat) : (bt bs n).getD t false = (decide (t < n) && bitAt bs t) := by
  unfold bt
  rw [List.getD_eq_getElem?_getD, List.getElem?_map]
  by_cases h : t < n
  · rw [List.getElem?_range h]; simp [h]
  · rw [List.getElem?_eq_none (by simp; omega)]; simp [h]
/-- What is written is clean, and read as it was. -/
theorem clean_pb (l : List Bool) : cleanB (pb l l.length) l.length = true := by
  unfold cleanB
  by_cases h8 : l.length % 8 = 0
  · simp [h8]
  · simp only [h8, decide_false, Bool.false_or, beq_iff_eq]
    refine byte_ext fun k hk => ?_
    rw [BitVec.getLsbD_ushiftRight, BitVec.getLsbD_zero]
    by_cases hk2 : l.length % 8 + k < 8
    · rw [pb_bit _ _ _ _ hk2 (by unfold szB; omega)]
      rw [show decide (8 * (l.length / 8) + (l.length % 8 + k) < l.length) = false from by simp; omega]
      rfl
    · exact BitVec.getLsbD_of_ge _ _ (by omega)
theorem bt_pb (l : List Bool) : bt (pb l l.length) l.length = l := by
  apply List.ext_getElem (by rw [bt_len])
  intro t h1 h2
  have := bt_getD (pb l l.length) l.length t
  rw [List.getD_eq_getElem?_getD, List.getElem?_eq_getElem h1] at this
  simp only [Option.getD_some, h2, decide_true, Bool.true_and] at this
  rw [this]
  unfold bitAt
  rw [bit_lsb, pb_bit _ _ _ _ (by omega) (by unfold szB; omega), show 8 * (t / 8) + t % 8 = t from by omega]
  simp only [h2, decide_true, Bool.true_and]
  rw [List.getD_eq_getElem?_getD, List.getElem?_eq_getElem h2]
  rfl
end Go.Proofs.Ytlaanjcnfindnaa
