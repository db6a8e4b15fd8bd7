/-
  A Hash's cells; what a Hash holds of the text that was written.
-/
import Derived.Test.YtkfnadpdcgcffaaDoorS5
import Derived.Test.YtkfnadpdcgcffaaDoorE13
namespace Go.Proofs.YtkfnadpdcgcffaaDoor
open Go.RowKit

def hc (st : List (BitVec 32)) (rs : List (BitVec 8)) (n : BitVec 64) : List Value := st.map U32 ++ (rs.map U8 ++ [U64 n])
section
variable {st st' : List (BitVec 32)} {rs rs' : List (BitVec 8)} {n m : BitVec 64}
theorem hc_len (h1 : st.length = 8) (h2 : rs.length = 64) : (hc st rs n).length = 73 := by simp [hc, h1, h2]
theorem hc_72 (h1 : st.length = 8) (h2 : rs.length = 64) : (hc st rs n)[72]? = some (U64 n) := by
  unfold hc
  rw [List.getElem?_append_right (by simp [h1]), List.getElem?_append_right (by simp [h1, h2])]
  simp [h1, h2]
theorem hc_st : ∀ j v, (st.map U32)[j]? = some v → (hc st rs n)[0 + j]? = some v := fun j v hv => by
  have : j < (st.map U32).length := by
    rcases Nat.lt_or_ge j (st.map U32).length with h | h
    · exact h
    · rw [List.getElem?_eq_none h] at hv; cases hv
  unfold hc
  rw [Nat.zero_add, List.getElem?_append_left this]
  exact hv
theorem hc_rs (h1 : st.length = 8) : ∀ j v, (rs.map U8)[j]? = some v → (hc st rs n)[8 + j]? = some v := fun j v hv => by
  have : j < (rs.map U8).length := by
    rcases Nat.lt_or_ge j (rs.map U8).length with h | h
    · exact h
    · rw [List.getElem?_eq_none h] at hv; cases hv
  unfold hc
  rw [List.getElem?_append_right (by simp [h1]), List.getElem?_append_left (by simpa [h1] using this)]
  simpa [h1] using hv
theorem lay_st (h1 : st.length = 8) (h1' : st'.length = 8) : lay 0 (st'.map U32) (hc st rs n) = hc st' rs n := by
  rw [lay_eq _ _ _ (by simp [hc, h1, h1'])]
  simp [hc, h1', h1]
theorem lay_part (h1 : st.length = 8) (o : Nat) (xs : List (BitVec 8)) (h : o + xs.length ≤ rs.length) : lay (8 + o) (xs.map U8) (hc st rs n) = hc st (rs.take o ++ xs ++ rs.drop (o + xs.length)) n := by
  rw [lay_eq _ _ _ (by simp [hc, h1]; omega)]
  simp only [hc, List.take_append, List.drop_append, List.length_map, h1, List.map_append, List.map_take, List.map_drop]
  rw [List.take_of_length_le (by simp [h1]), List.drop_eq_nil_of_le (by simp [h1]; omega)]
  rw [show 8 + o - 8 = o from by omega, show o - rs.length = 0 from by omega, show 8 + o + xs.length - 8 = o + xs.length from by omega, show o + xs.length - rs.length = 0 from by omega]
  simp
theorem lay_rs (h1 : st.length = 8) (h2 : rs.length = 64) (h2' : rs'.length = 64) : lay 8 (rs'.map U8) (hc st rs n) = hc st rs' n := by
  have := lay_part (rs := rs) (n := n) h1 0 rs' (by omega)
  rw [Nat.add_zero] at this
  rw [this, Nat.zero_add, List.drop_eq_nil_of_le (by omega)]
  simp
theorem set_72 (h1 : st.length = 8) (h2 : rs.length = 64) : (hc st rs n).set 72 (U64 m) = hc st rs m := by
  unfold hc
  rw [List.set_append_right _ _ (by simp [h1]), List.set_append_right _ _ (by simp [h1, h2])]
  simp [h1, h2]
end

/-- Where the text's last, unfilled block begins. -/
def tl (T : List (BitVec 8)) : List (BitVec 8) := T.drop (64 * (T.length / 64))
theorem tl_len (T : List (BitVec 8)) : (tl T).length = T.length % 64 := by simp [tl]; omega
def pad64 (rs : List (BitVec 8)) : List (BitVec 8) := rs ++ List.replicate (64 - rs.length) 0#8
theorem pad64_len (rs : List (BitVec 8)) (h : rs.length ≤ 64) : (pad64 rs).length = 64 := by simp [pad64]; omega
/-- The state behind the text's full blocks. -/
def full (T : List (BitVec 8)) : List (BitVec 32) := mixK IV (fulls T) (T.length / 64)
theorem full_len (T : List (BitVec 8)) : (full T).length = 8 := mixK_len _ _ rfl _
/-- What a Hash holds when T has been written. -/
structure HInv (T : List (BitVec 8)) (st : List (BitVec 32)) (rs : List (BitVec 8)) (n : BitVec 64) : Prop where
  len : T.length < 9223372036854775808
  st8 : st.length = 8
  rest : rs = pad64 (tl T)
  num : n = BitVec.ofNat 64 T.length
  state : 64 ≤ T.length → st = full T
theorem HInv.zero : HInv [] (List.replicate 8 0#32) (List.replicate 64 0#8) 0 := ⟨by simp, by simp, by simp [pad64, tl], rfl, fun h => by simp at h⟩
theorem HInv.rs64 {T : List (BitVec 8)} {st : List (BitVec 32)} {rs : List (BitVec 8)} {n : BitVec 64} (h : HInv T st rs n) : rs.length = 64 := by rw [h.rest]; exact pad64_len _ (by rw [tl_len]; omega)
theorem HInv.toNat {T : List (BitVec 8)} {st : List (BitVec 32)} {rs : List (BitVec 8)} {n : BitVec 64} (h : HInv T st rs n) : n.toNat = T.length := by
  have := h.len
  rw [h.num, BitVec.toNat_ofNat]; omega
/-- What 'reached' answers. -/
def rch (st : List (BitVec 32)) (n : BitVec 64) : List (BitVec 32) := if n < 64#64 then IV else st
theorem HInv.rch {T : List (BitVec 8)} {st : List (BitVec 32)} {rs : List (BitVec 8)} {n : BitVec 64} (h : HInv T st rs n) : rch st n = full T := by
  unfold YtkfnadpdcgcffaaDoor.rch
  by_cases hlt : n < 64#64
  · have : T.length < 64 := by have h1 := BitVec.lt_def.1 hlt; rw [h.toNat] at h1; simpa using h1
    rw [if_pos hlt, full, Nat.div_eq_of_lt this]; rfl
  · have : ¬ T.length < 64 := fun h' => hlt (BitVec.lt_def.2 (by rw [h.toNat]; simpa using h'))
    rw [if_neg hlt]; exact h.state (by omega)
theorem rch_len {st : List (BitVec 32)} {n : BitVec 64} (h : st.length = 8) : (rch st n).length = 8 := by unfold rch; split; rfl; exact h

theorem mixK_congr (st : List (BitVec 32)) (a b : List (List (BitVec 8))) : ∀ k, (∀ i, i < k → a.getD i [] = b.getD i []) → mixK st a k = mixK st b k
  | 0, _ => rfl
  | k + 1, h => by rw [mixK, mixK, mixK_congr st a b k (fun i hi => h i (by omega)), h k (by omega)]
theorem mixK_append (st : List (BitVec 32)) (a b : List (List (BitVec 8))) : ∀ k, mixK st (a ++ b) (a.length + k) = mixK (mixK st a a.length) b k
  | 0 => by
    show mixK st (a ++ b) a.length = mixK st a a.length
    exact mixK_congr st _ _ _ (fun i hi => by simp [List.getElem?_append_left hi])
  | k + 1 => by
    rw [← Nat.add_assoc, mixK, mixK_append st a b k, mixK]
    congr 1
    simp only [List.getD_eq_getElem?_getD]
    rw [List.getElem?_append_right (by omega), Nat.add_sub_cancel_left]
/-- The sum, by the state behind the full blocks. -/
theorem sha_full (T : List (BitVec 8)) : SHA T = DG (mixK (full T) (eblocks (tl T) (BitVec.ofInt 64 T.length)) (eblocks (tl T) (BitVec.ofInt 64 T.length)).length) 8 := by
  have := mixK_append IV (fulls T) (eblocks (tl T) (BitVec.ofInt 64 T.length)) (eblocks (tl T) (BitVec.ofInt 64 T.length)).length
  unfold SHA
  rw [show blks T = fulls T ++ eblocks (tl T) (BitVec.ofInt 64 T.length) from rfl, List.length_append, this, fulls_len]
  rfl
/-- One piece more that does not fill the block. -/
theorem HInv.part {T : List (BitVec 8)} {st : List (BitVec 32)} {rs : List (BitVec 8)} {n : BitVec 64} (h : HInv T st rs n) (xs : List (BitVec 8)) (hx : T.length % 64 + xs.length < 64) (hl : (T ++ xs).length < 9223372036854775808) :
    HInv (T ++ xs) st (rs.take (T.length % 64) ++ xs ++ rs.drop (T.length % 64 + xs.length)) (n + BitVec.ofInt 64 xs.length) := by
  have hd : (T ++ xs).length / 64 = T.length / 64 := by simp; omega
  have ht : tl (T ++ xs) = tl T ++ xs := by
    unfold tl
    rw [hd, List.drop_append_of_le_length (by omega)]
  refine ⟨hl, h.st8, ?_, ?_, fun h64 => ?_⟩
  · have e := tl_len T
    rw [h.rest, ht, pad64, pad64]
    rw [List.take_append_of_le_length (by omega), List.take_of_length_le (by omega), List.drop_append, List.drop_eq_nil_of_le (by omega)]
    simp only [List.nil_append, List.append_assoc, List.drop_replicate, List.length_append]
    congr 3
    omega
  · apply BitVec.eq_of_toNat_eq
    rw [BitVec.toNat_add, h.toNat, BitVec.ofInt_natCast, BitVec.toNat_ofNat, BitVec.toNat_ofNat]
    simp
  · have h64' : 64 ≤ T.length := by simp at h64; omega
    rw [h.state h64', full, full, hd]
    refine mixK_congr _ _ _ _ (fun i hi => ?_)
    have h1 : i < T.length / 64 := hi
    have h2 : i < (T ++ xs).length / 64 := by omega
    have e1 : (fulls T).getD i [] = (T.drop (64 * i)).take 64 := by simp [fulls, h1]
    have e2 : (fulls (T ++ xs)).getD i [] = ((T ++ xs).drop (64 * i)).take 64 := by
      unfold fulls
      simp [-List.length_append, h2]
    rw [e1, e2, List.drop_append_of_le_length (by omega), List.take_append_of_le_length (by simp; omega)]
/-- One piece more that fills it. -/
theorem HInv.fill {T : List (BitVec 8)} {st : List (BitVec 32)} {rs : List (BitVec 8)} {n : BitVec 64} (h : HInv T st rs n) (xs : List (BitVec 8)) (hx : T.length % 64 + xs.length = 64) (hl : (T ++ xs).length < 9223372036854775808) :
    HInv (T ++ xs) (comp (full T) (rs.take (T.length % 64) ++ xs ++ rs.drop (T.length % 64 + xs.length))) (List.replicate 64 0#8) (n + BitVec.ofInt 64 xs.length) := by
  have hd : (T ++ xs).length / 64 = T.length / 64 + 1 := by simp; omega
  have ht : tl (T ++ xs) = [] := by
    unfold tl
    rw [hd]
    apply List.drop_eq_nil_of_le
    simp; omega
  refine ⟨hl, comp_len _ _, by rw [ht]; rfl, ?_, fun _ => ?_⟩
  · apply BitVec.eq_of_toNat_eq
    rw [BitVec.toNat_add, h.toNat, BitVec.ofInt_natCast, BitVec.toNat_ofNat, BitVec.toNat_ofNat]
    simp
  · rw [full, full, hd, mixK]
    have e2 : ∀ i, i < (T ++ xs).length / 64 → (fulls (T ++ xs)).getD i [] = ((T ++ xs).drop (64 * i)).take 64 := fun i hi => by
      unfold fulls
      simp [-List.length_append, hi]
    congr 1
    · refine mixK_congr _ _ _ _ (fun i hi => ?_)
      have e1 : (fulls T).getD i [] = (T.drop (64 * i)).take 64 := by simp [fulls, hi]
      rw [e1, e2 i (by omega), List.drop_append_of_le_length (by omega), List.take_append_of_le_length (by simp; omega)]
    · have e := tl_len T
      rw [e2 _ (by omega), h.rest, pad64, List.take_append_of_le_length (by omega), List.take_of_length_le (by omega), List.drop_append, List.drop_eq_nil_of_le (by omega)]
      rw [List.drop_append_of_le_length (by omega), show T.drop (64 * (T.length / 64)) = tl T from rfl, List.take_of_length_le (by simp; omega)]
      simp
      omega
end Go.Proofs.YtkfnadpdcgcffaaDoor
