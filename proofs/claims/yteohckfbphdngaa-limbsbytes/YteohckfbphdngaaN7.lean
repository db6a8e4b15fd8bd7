/-
  Bytes and bits of numbers. Nothing here names a program.
-/
import Derived.Test.YteohckfbphdngaaN2
namespace Go.Proofs.Yteohckfbphdngaa
set_option maxRecDepth 100000
def FRs (bs : List (BitVec 8)) : Nat → List (BitVec 64)
  | 0 => List.replicate 6 0
  | i + 1 => (FRs bs i).set ((bs.length - 1 - i) / 8) ((FRs bs i).getD ((bs.length - 1 - i) / 8) 0 ||| ((bs.getD i 0).setWidth 64 <<< (8 * ((bs.length - 1 - i) % 8))))
theorem FRs_len (bs : List (BitVec 8)) : ∀ i, (FRs bs i).length = 6
  | 0 => rfl
  | i + 1 => by simp [FRs, FRs_len bs i]
def BYs (a : List (BitVec 64)) : Nat → List (BitVec 8)
  | 0 => List.replicate 48 0
  | i + 1 => (BYs a i).set i ((a.getD ((47 - i) / 8) 0 >>> (8 * ((47 - i) % 8))).setWidth 8)
theorem BYs_len (a : List (BitVec 64)) : ∀ i, (BYs a i).length = 48
  | 0 => rfl
  | i + 1 => by simp [BYs, BYs_len a i]
theorem getD8_set_self (l : List (BitVec 8)) (k : Nat) (x : BitVec 8) (hk : k < l.length) : (l.set k x).getD k 0 = x := by simp [List.getD_eq_getElem?_getD, hk]
theorem getD8_set_ne (l : List (BitVec 8)) (k i : Nat) (x : BitVec 8) (h : i ≠ k) : (l.set k x).getD i 0 = l.getD i 0 := by
  simp only [List.getD_eq_getElem?_getD, List.getElem?_set_ne (Ne.symm h)]
theorem BYs_get (a : List (BitVec 64)) (j : Nat) (hj : j < 48) : ∀ i, j < i → (BYs a i).getD j 0 = (a.getD ((47 - j) / 8) 0 >>> (8 * ((47 - j) % 8))).setWidth 8
  | 0, h => by omega
  | i + 1, h => by
    rw [BYs]
    rcases Nat.lt_or_ge j i with h' | h'
    · rw [getD8_set_ne _ _ _ _ (by omega), BYs_get a j hj i h']
    · obtain rfl : j = i := by omega
      rw [getD8_set_self _ _ _ (by rw [BYs_len]; exact hj)]
/-- Which bit of the bytes a bit of the number is. -/
theorem FRs_bit (bs : List (BitVec 8)) (hl : bs.length ≤ 48) : ∀ i, i ≤ bs.length → ∀ n, n < 384 →
    ((FRs bs i).getD (n / 64) 0).getLsbD (n % 64) = (decide (n / 8 < bs.length ∧ bs.length ≤ n / 8 + i) && (bs.getD (bs.length - 1 - n / 8) 0).getLsbD (n % 8))
  | 0, _, n, _ => by
    have : (List.replicate 6 (0 : BitVec 64)).getD (n / 64) 0 = 0 := by
      rw [List.getD_eq_getElem?_getD, List.getElem?_replicate]
      split <;> rfl
    rw [FRs, this, decide_eq_false (by omega)]
    simp
  | i + 1, hi, n, hn => by
    have ih := FRs_bit bs hl i (by omega) n hn
    rw [FRs]
    by_cases hq : n / 64 = (bs.length - 1 - i) / 8
    · rw [hq, getD_set_self _ _ _ (by rw [FRs_len]; omega)]
      rw [hq] at ih
      rw [BitVec.getLsbD_or, ih, BitVec.getLsbD_shiftLeft, BitVec.getLsbD_setWidth]
      by_cases hk : n / 8 = bs.length - 1 - i
      · rw [decide_eq_false (by omega), decide_eq_true (by omega : n / 8 < bs.length ∧ bs.length ≤ n / 8 + (i + 1)), decide_eq_true (by omega : n % 64 < 64), decide_eq_false (by omega : ¬ n % 64 < 8 * ((bs.length - 1 - i) % 8)), decide_eq_true (by omega : n % 64 - 8 * ((bs.length - 1 - i) % 8) < 64),
          show n % 64 - 8 * ((bs.length - 1 - i) % 8) = n % 8 by omega, show bs.length - 1 - n / 8 = i by omega]
        simp
      · have hz : ((!decide (n % 64 < 8 * ((bs.length - 1 - i) % 8))) && (bs.getD i 0).getLsbD (n % 64 - 8 * ((bs.length - 1 - i) % 8))) = false := by
          by_cases h1 : n % 64 < 8 * ((bs.length - 1 - i) % 8)
          · rw [decide_eq_true h1]; rfl
          · rw [BitVec.getLsbD_of_ge _ _ (by omega)]; simp
        have hd : decide (n / 8 < bs.length ∧ bs.length ≤ n / 8 + i) = decide (n / 8 < bs.length ∧ bs.length ≤ n / 8 + (i + 1)) := by
          congr 1
          apply propext
          omega
        rw [hd]
        generalize decide (n / 8 < bs.length ∧ bs.length ≤ n / 8 + (i + 1)) = D
        generalize (bs.getD (bs.length - 1 - n / 8) 0).getLsbD (n % 8) = E
        generalize decide (n % 64 < 8 * ((bs.length - 1 - i) % 8)) = A at *
        generalize (bs.getD i 0).getLsbD (n % 64 - 8 * ((bs.length - 1 - i) % 8)) = X at *
        generalize decide (n % 64 < 64) = Y
        generalize decide (n % 64 - 8 * ((bs.length - 1 - i) % 8) < 64) = Z
        cases A <;> cases X <;> simp at hz <;> simp
    · rw [getD_set_ne' _ _ _ _ hq, ih]
      have hd : decide (n / 8 < bs.length ∧ bs.length ≤ n / 8 + i) = decide (n / 8 < bs.length ∧ bs.length ≤ n / 8 + (i + 1)) := by
        congr 1
        apply propext
        omega
      rw [hd]
theorem getD_get (l : List (BitVec 64)) (q : Nat) (h : q < l.length) : l[q] = l.getD q 0 := by simp [List.getD_eq_getElem?_getD, h]
theorem getD8_get (l : List (BitVec 8)) (q : Nat) (h : q < l.length) : l[q] = l.getD q 0 := by simp [List.getD_eq_getElem?_getD, h]
theorem from_bytes (a : List (BitVec 64)) (ha : a.length = 6) (n : Nat) (hn : n = 48) : FRs (BYs a n) n = a := by
  have hb := BYs_len a n
  have hg : ∀ j, j < 48 → (BYs a n).getD j 0 = (a.getD ((47 - j) / 8) 0 >>> (8 * ((47 - j) % 8))).setWidth 8 := fun j hj => BYs_get a j hj n (by omega)
  generalize BYs a n = B at *
  have hfb := FRs_bit B (by omega) n (by omega)
  have hfl := FRs_len B n
  generalize FRs B n = f at *
  apply List.ext_getElem (by omega)
  intro q h1 h2
  rw [getD_get f q h1, getD_get a q h2]
  apply BitVec.eq_of_getLsbD_eq
  intro r hr
  have h := hfb (64 * q + r) (by omega)
  rw [show (64 * q + r) / 64 = q by omega, show (64 * q + r) % 64 = r by omega, hb, decide_eq_true (by omega), Bool.true_and, hg _ (by omega)] at h
  rw [h, BitVec.getLsbD_setWidth, BitVec.getLsbD_ushiftRight, decide_eq_true (by omega), Bool.true_and, show (47 - (48 - 1 - (64 * q + r) / 8)) / 8 = q by omega, show 8 * ((47 - (48 - 1 - (64 * q + r) / 8)) % 8) + (64 * q + r) % 8 = r by omega]
theorem bytes_from (bs : List (BitVec 8)) (hl : bs.length ≤ 48) (n : Nat) (hn : n = 48) : (BYs (FRs bs bs.length) n).drop (48 - bs.length) = bs := by
  have hfb := FRs_bit bs hl bs.length (Nat.le_refl _)
  generalize FRs bs bs.length = f at *
  have hb := BYs_len f n
  have hg : ∀ j, j < 48 → (BYs f n).getD j 0 = (f.getD ((47 - j) / 8) 0 >>> (8 * ((47 - j) % 8))).setWidth 8 := fun j hj => BYs_get f j hj n (by omega)
  generalize BYs f n = B at *
  apply List.ext_getElem (by rw [List.length_drop]; omega)
  intro j h1 h2
  rw [List.getElem_drop, getD8_get B _ (by omega), getD8_get bs j h2, hg _ (by omega)]
  apply BitVec.eq_of_getLsbD_eq
  intro t ht
  have hb := hfb (8 * (47 - (48 - bs.length + j)) + t) (by omega)
  rw [BitVec.getLsbD_setWidth, BitVec.getLsbD_ushiftRight, decide_eq_true (by omega), Bool.true_and]
  rw [show (8 * (47 - (48 - bs.length + j)) + t) / 64 = (47 - (48 - bs.length + j)) / 8 by omega, show (8 * (47 - (48 - bs.length + j)) + t) % 64 = 8 * ((47 - (48 - bs.length + j)) % 8) + t by omega, decide_eq_true (by omega), Bool.true_and,
    show bs.length - 1 - (8 * (47 - (48 - bs.length + j)) + t) / 8 = j by omega, show (8 * (47 - (48 - bs.length + j)) + t) % 8 = t by omega] at hb
  exact hb
/-! ### The bits that are set, the highest first -/
def ones (a : List (BitVec 64)) : Nat → List Nat
  | 0 => []
  | k + 1 => if dig a (383 - k) = 1 then ones a k ++ [383 - k] else ones a k
theorem ones_pre (a : List (BitVec 64)) (k : Nat) : ∀ n, k ≤ n → ∃ r, ones a n = ones a k ++ r
  | 0, h => ⟨[], by obtain rfl : k = 0 := by omega
                    simp⟩
  | n + 1, h => by
    rcases Nat.lt_or_ge k (n + 1) with h' | h'
    · obtain ⟨r, hr⟩ := ones_pre a k n (by omega)
      rw [ones]
      split
      · exact ⟨r ++ [383 - n], by rw [hr, List.append_assoc]⟩
      · exact ⟨r, hr⟩
    · obtain rfl : k = n + 1 := by omega
      exact ⟨[], by simp⟩
theorem ones_at (a : List (BitVec 64)) (k : Nat) (hk : k < 384) (h : dig a (383 - k) = 1) : (ones a 384)[(ones a k).length]? = some (383 - k) := by
  obtain ⟨r, hr⟩ := ones_pre a (k + 1) 384 (by omega)
  rw [hr, ones, if_pos h]
  simp
theorem ones_le (a : List (BitVec 64)) : ∀ k, (ones a k).length ≤ k
  | 0 => Nat.le_refl _
  | k + 1 => by
    have := ones_le a k
    rw [ones]
    split
    · rw [List.length_append]; simp; omega
    · omega
theorem dig_not (a : List (BitVec 64)) (n : Nat) (h : ¬ dig a n = 1) : dig a n = 0 := by
  rcases bit_cases _ (dig_le a n) with e | e
  · exact e.1
  · exact absurd e.1 h
end Go.Proofs.Yteohckfbphdngaa
