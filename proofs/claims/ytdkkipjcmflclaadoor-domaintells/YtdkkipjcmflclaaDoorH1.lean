/-
  A Hash's cells; what a Hash holds of the text that was written.
-/
import Derived.Test.YtdkkipjcmflclaaDoorS5
import Derived.Test.YtdkkipjcmflclaaDoorX2
namespace Go.Proofs.YtdkkipjcmflclaaDoor
open Go.RowKit

namespace Sh
def hc (st : List (BitVec 32)) (rs : List (BitVec 8)) (n : BitVec 64) : List Value := st.map U32 ++ (rs.map U8 ++ [U64 n])
section
variable {st st' : List (BitVec 32)} {rs rs' : List (BitVec 8)} {n m : BitVec 64}
end

/-- Where the text's last, unfilled block begins. -/
def tl (T : List (BitVec 8)) : List (BitVec 8) := T.drop (64 * (T.length / 64))
theorem tl_len (T : List (BitVec 8)) : (tl T).length = T.length % 64 := by simp [tl]; omega
def pad64 (rs : List (BitVec 8)) : List (BitVec 8) := rs ++ List.replicate (64 - rs.length) 0#8
/-- The state behind the text's full blocks. -/
def full (T : List (BitVec 8)) : List (BitVec 32) := mixK IV (fulls T) (T.length / 64)
/-- What a Hash holds when T has been written. -/
structure HInv (T : List (BitVec 8)) (st : List (BitVec 32)) (rs : List (BitVec 8)) (n : BitVec 64) : Prop where
  len : T.length < 9223372036854775808
  st8 : st.length = 8
  rest : rs = pad64 (tl T)
  num : n = BitVec.ofNat 64 T.length
  state : 64 ≤ T.length → st = full T
theorem HInv.zero : HInv [] (List.replicate 8 0#32) (List.replicate 64 0#8) 0 := ⟨by simp, by simp, by simp [pad64, tl], rfl, fun h => by simp at h⟩
theorem HInv.toNat {T : List (BitVec 8)} {st : List (BitVec 32)} {rs : List (BitVec 8)} {n : BitVec 64} (h : HInv T st rs n) : n.toNat = T.length := by
  have := h.len
  rw [h.num, BitVec.toNat_ofNat]; omega
theorem mixK_congr (st : List (BitVec 32)) (a b : List (List (BitVec 8))) : ∀ k, (∀ i, i < k → a.getD i [] = b.getD i []) → mixK st a k = mixK st b k
  | 0, _ => rfl
  | k + 1, h => by rw [mixK, mixK, mixK_congr st a b k (fun i hi => h i (by omega)), h k (by omega)]
/-- One piece more that does not fill the block. -/
theorem HInv.part {T : List (BitVec 8)} {st : List (BitVec 32)} {rs : List (BitVec 8)} {n : BitVec 64} (h : HInv T st rs n) (xs : List (BitVec 8)) (hx : T.length % 64 + xs.length < 64) (hl : (T ++ xs).length < 9223372036854775808) :
    HInv (T ++ xs) st (rs.take (T.length % 64) ++ xs ++ rs.drop (T.length % 64 + xs.length)) (n + BitVec.ofInt 64 xs.length) := by
  have hd : (T ++ xs).length / 64 = T.length / 64 := by simp; omega
  have ht : tl (T ++ xs) = tl T ++ xs := by
    unfold tl
    rw [hd, List.drop_append_of_le_length (by omega)]
  refine ⟨hl, h.st8, ?_, ?_, fun h64 => ?_⟩
  · have e := tl_len T
    rw [h.rest, ht, pad64, pad64]
    rw [List.take_append_of_le_length (by omega), List.take_of_length_le (by omega), List.drop_append, List.drop_eq_nil_of_le (by omega)]
    simp only [List.nil_append, List.append_assoc, List.drop_replicate, List.length_append]
    congr 3
    omega
  · apply BitVec.eq_of_toNat_eq
    rw [BitVec.toNat_add, h.toNat, BitVec.ofInt_natCast, BitVec.toNat_ofNat, BitVec.toNat_ofNat]
    simp
  · have h64' : 64 ≤ T.length := by simp at h64; omega
    rw [h.state h64', full, full, hd]
    refine mixK_congr _ _ _ _ (fun i hi => ?_)
    have h1 : i < T.length / 64 := hi
    have h2 : i < (T ++ xs).length / 64 := by omega
    have e1 : (fulls T).getD i [] = (T.drop (64 * i)).take 64 := by simp [fulls, h1]
    have e2 : (fulls (T ++ xs)).getD i [] = ((T ++ xs).drop (64 * i)).take 64 := by
      unfold fulls
      simp [-List.length_append, h2]
    rw [e1, e2, List.drop_append_of_le_length (by omega), List.take_append_of_le_length (by simp; omega)]
/-- One piece more that fills it. -/
theorem HInv.fill {T : List (BitVec 8)} {st : List (BitVec 32)} {rs : List (BitVec 8)} {n : BitVec 64} (h : HInv T st rs n) (xs : List (BitVec 8)) (hx : T.length % 64 + xs.length = 64) (hl : (T ++ xs).length < 9223372036854775808) :
    HInv (T ++ xs) (comp (full T) (rs.take (T.length % 64) ++ xs ++ rs.drop (T.length % 64 + xs.length))) (List.replicate 64 0#8) (n + BitVec.ofInt 64 xs.length) := by
  have hd : (T ++ xs).length / 64 = T.length / 64 + 1 := by simp; omega
  have ht : tl (T ++ xs) = [] := by
    unfold tl
    rw [hd]
    apply List.drop_eq_nil_of_le
    simp; omega
  refine ⟨hl, comp_len _ _, by rw [ht]; rfl, ?_, fun _ => ?_⟩
  · apply BitVec.eq_of_toNat_eq
    rw [BitVec.toNat_add, h.toNat, BitVec.ofInt_natCast, BitVec.toNat_ofNat, BitVec.toNat_ofNat]
    simp
  · rw [full, full, hd, mixK]
    have e2 : ∀ i, i < (T ++ xs).length / 64 → (fulls (T ++ xs)).getD i [] = ((T ++ xs).drop (64 * i)).take 64 := fun i hi => by
      unfold fulls
      simp [-List.length_append, hi]
    congr 1
    · refine mixK_congr _ _ _ _ (fun i hi => ?_)
      have e1 : (fulls T).getD i [] = (T.drop (64 * i)).take 64 := by simp [fulls, hi]
      rw [e1, e2 i (by omega), List.drop_append_of_le_length (by omega), List.take_append_of_le_length (by simp; omega)]
    · have e := tl_len T
      rw [e2 _ (by omega), h.rest, pad64, List.take_append_of_le_length (by omega), List.take_of_length_le (by omega), List.drop_append, List.drop_eq_nil_of_le (by omega)]
      rw [List.drop_append_of_le_length (by omega), show T.drop (64 * (T.length / 64)) = tl T from rfl, List.take_of_length_le (by simp; omega)]
      simp
      omega
end Sh
end Go.Proofs.YtdkkipjcmflclaaDoor
