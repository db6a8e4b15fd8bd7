/-
  Numbers modulo a number, bit by bit. Nothing here names a program.
-/
import Derived.Test.YteohckfbphdngaaN0
namespace Go.Proofs.Yteohckfbphdngaa
set_option maxRecDepth 100000
/-! ### Bits of a number -/
theorem V_high (l : List (BitVec 64)) (q : Nat) : ∀ n, q ≤ n → ∃ k, V l n = V l q + 2 ^ (64 * q) * k
  | 0, h => ⟨0, by obtain rfl : q = 0 := by omega
                   simp⟩
  | n + 1, h => by
    rcases Nat.lt_or_ge q (n + 1) with h' | h'
    · obtain ⟨k, hk⟩ := V_high l q n (by omega)
      refine ⟨k + (l.getD n 0).toNat * 2 ^ (64 * (n - q)), ?_⟩
      rw [V, hk, Nat.mul_add, Nat.add_assoc, ← Nat.mul_assoc, Nat.mul_comm (2 ^ (64 * q)) (l.getD n 0).toNat, Nat.mul_assoc, ← Nat.pow_add, ← Nat.mul_add, show q + (n - q) = n by omega]
    · obtain rfl : q = n + 1 := by omega
      exact ⟨0, by simp⟩
def dig (a : List (BitVec 64)) (n : Nat) : BitVec 64 := (a.getD (n / 64) 0 >>> (n % 64)) &&& 1#64
theorem dig_at (a : List (BitVec 64)) (q s : Nat) (hs : s < 64) : (a.getD q 0 >>> s) &&& 1#64 = dig a (64 * q + s) := by
  rw [dig, show (64 * q + s) / 64 = q by omega, show (64 * q + s) % 64 = s by omega]
theorem half (x k r : Nat) (hr : r < 64) : (x + 18446744073709551616 * k) / 2 ^ r % 2 = x / 2 ^ r % 2 := by
  have e : (18446744073709551616 : Nat) = 2 ^ r * (2 ^ (63 - r) * 2) := by
    rw [← Nat.pow_succ, ← Nat.pow_add, show r + (63 - r).succ = 64 by omega]
  rw [e, Nat.mul_assoc, Nat.add_mul_div_left _ _ (Nat.two_pow_pos r), Nat.mul_right_comm, Nat.add_mul_mod_self_right]
theorem dig_val (a : List (BitVec 64)) (N n : Nat) (h : n < 64 * N) : (dig a n).toNat = V a N / 2 ^ n % 2 := by
  obtain ⟨k, hk⟩ := V_high a (n / 64 + 1) N (by omega)
  have h1 : V a N / 2 ^ (64 * (n / 64)) = (a.getD (n / 64) 0).toNat + 18446744073709551616 * k := by
    rw [hk, pow64, Nat.mul_assoc, Nat.add_mul_div_left _ _ (Nat.two_pow_pos _), V_div]
  have h2 : 2 ^ n = 2 ^ (64 * (n / 64)) * 2 ^ (n % 64) := by rw [← Nat.pow_add, Nat.div_add_mod]
  rw [h2, ← Nat.div_div_eq_div_mul, h1, half _ _ _ (Nat.mod_lt _ (by decide))]
  rw [dig, BitVec.toNat_and, BitVec.toNat_ushiftRight, Nat.shiftRight_eq_div_pow]
  exact Nat.and_one_is_mod _
theorem dig_le (a : List (BitVec 64)) (n : Nat) : (dig a n).toNat ≤ 1 := by
  rw [dig, BitVec.toNat_and]
  have := Nat.and_one_is_mod (a.getD (n / 64) 0 >>> (n % 64)).toNat
  show (a.getD (n / 64) 0 >>> (n % 64)).toNat &&& 1 ≤ 1
  omega
/-- 2^384. -/
def R6 : Nat := 2 ^ (64 * 6)
theorem R6_def : R6 = 2 ^ (64 * 6) := by rw [R6]
theorem V_lt6 (l : List (BitVec 64)) : V l 6 < R6 := by rw [R6_def]; exact V_lt l 6
theorem AS_val6 (a b : List (BitVec 64)) : V (AS a b 6).1 6 + (AS a b 6).2.toNat * R6 = V a 6 + V b 6 := by rw [R6_def]; exact AS_val a b 6 (Nat.le_refl _)
theorem SS_val6 (a b : List (BitVec 64)) : V (SS a b 6).1 6 + V b 6 = V a 6 + (SS a b 6).2.toNat * R6 := by rw [R6_def]; exact SS_val a b 6 (Nat.le_refl _)
/-! ### What is left of a number below twice the modulus -/
def RED (a : List (BitVec 64)) (top : BitVec 64) (m : List (BitVec 64)) : List (BitVec 64) := if top = 0 ∧ (SS a m 6).2 = 1 then a else (SS a m 6).1
theorem RED_len (a : List (BitVec 64)) (top : BitVec 64) (m : List (BitVec 64)) (ha : a.length = 6) : (RED a top m).length = 6 := by
  unfold RED
  split
  · exact ha
  · exact SS_len _ _ _
theorem bit_cases (x : BitVec 64) (h : x.toNat ≤ 1) : x = 0 ∧ x.toNat = 0 ∨ x = 1 ∧ x.toNat = 1 := by
  have : x.toNat = 0 ∨ x.toNat = 1 := by omega
  rcases this with h | h
  · exact .inl ⟨BitVec.eq_of_toNat_eq h, h⟩
  · exact .inr ⟨BitVec.eq_of_toNat_eq h, h⟩
theorem mod_below {x m : Nat} (h : m ≤ x) (h' : x < 2 * m) : x % m = x - m := by
  rw [Nat.mod_eq_sub_mod h, Nat.mod_eq_of_lt (by omega)]
theorem one_ne : ¬ (1 : BitVec 64) = 0 := by decide
theorem zero_ne : ¬ (0 : BitVec 64) = 1 := by decide
theorem RED_val (a : List (BitVec 64)) (top : BitVec 64) (m : List (BitVec 64)) (ht : top.toNat ≤ 1) (hA : V a 6 + top.toNat * R6 < 2 * V m 6) : V (RED a top m) 6 = (V a 6 + top.toNat * R6) % V m 6 := by
  have hs := SS_val6 a m
  have h1 := V_lt6 (SS a m 6).1
  have h2 := V_lt6 m
  have h3 := V_lt6 a
  unfold RED
  rcases bit_cases top ht with ⟨e1, e2⟩ | ⟨e1, e2⟩ <;> rcases bit_cases _ (SS_c a m 6) with ⟨f1, f2⟩ | ⟨f1, f2⟩
  · rw [if_neg (by rw [f1]; exact fun h => zero_ne h.2)]
    rw [e2] at hA ⊢
    rw [f2] at hs
    rw [Nat.zero_mul, Nat.add_zero] at *
    rw [mod_below (by omega) hA]
    omega
  · rw [if_pos ⟨e1, f1⟩]
    rw [e2] at hA ⊢
    rw [f2] at hs
    rw [Nat.zero_mul, Nat.add_zero] at *
    rw [Nat.mod_eq_of_lt (by omega)]
  · rw [if_neg (by rw [e1]; exact fun h => one_ne h.1)]
    rw [e2] at hA ⊢
    rw [f2] at hs
    rw [Nat.one_mul] at *
    omega
  · rw [if_neg (by rw [e1]; exact fun h => one_ne h.1)]
    rw [e2] at hA ⊢
    rw [f2] at hs
    rw [Nat.one_mul] at *
    rw [mod_below (by omega) hA]
    omega
/-! ### Bit by bit -/
def TW (l : List (BitVec 64)) (d : BitVec 64) : List (BitVec 64) := (AS l l 6).1.set 0 ((AS l l 6).1.getD 0 0 ||| d)
theorem TW_len (l : List (BitVec 64)) (d : BitVec 64) : (TW l d).length = 6 := by rw [TW, List.length_set, AS_len]
theorem or_bit (x d : BitVec 64) (hx : x.toNat % 2 = 0) (hd : d.toNat ≤ 1) : (x ||| d).toNat = x.toNat + d.toNat := by
  rw [BitVec.toNat_or]
  have h := Nat.two_pow_add_eq_or_of_lt (i := 1) (b := d.toNat) (by omega) (x.toNat / 2)
  rw [show 2 ^ 1 * (x.toNat / 2) = x.toNat by omega] at h
  exact h.symm
theorem AS_low (l : List (BitVec 64)) : ∀ i, (AS l l (i + 1)).1.getD 0 0 = (ADC (l.getD 0 0) (l.getD 0 0) 0).1
  | 0 => by rw [AS]; exact getD_set_self _ _ _ (by rw [AS_len]; omega)
  | i + 1 => by rw [AS, getD_set_ne' _ _ _ _ (by omega), AS_low l i]
theorem TW_val (l : List (BitVec 64)) (d : BitVec 64) (hd : d.toNat ≤ 1) : V (TW l d) 6 + (AS l l 6).2.toNat * R6 = 2 * V l 6 + d.toNat := by
  have h1 := AS_val6 l l
  have h2 := V_set (AS l l 6).1 0 ((AS l l 6).1.getD 0 0 ||| d) (by rw [AS_len]; omega) 6 (by omega)
  have h4 : ((AS l l 6).1.getD 0 0).toNat % 2 = 0 := by
    rw [AS_low l 5, ADC]
    simp only [BitVec.toNat_ofNat]
    rw [show (0 : BitVec 64).toNat = 0 from rfl]
    omega
  rw [or_bit _ _ h4 hd, show 2 ^ (64 * 0) = 1 from rfl, Nat.mul_one, Nat.mul_one] at h2
  rw [TW]
  omega
def MDs (t m : List (BitVec 64)) : Nat → List (BitVec 64)
  | 0 => List.replicate 6 0
  | j + 1 => RED (TW (MDs t m j) (dig t (767 - j))) (AS (MDs t m j) (MDs t m j) 6).2 m
theorem MDs_len (t m : List (BitVec 64)) : ∀ j, (MDs t m j).length = 6
  | 0 => rfl
  | _ + 1 => RED_len _ _ _ (TW_len _ _)
theorem step_bit (E X j : Nat) (hE : E = 768) (hj : j < 768) : X / 2 ^ (E - (j + 1)) = 2 * (X / 2 ^ (E - j)) + X / 2 ^ (767 - j) % 2 := by
  rw [show E - (j + 1) = 767 - j by omega, show E - j = (767 - j) + 1 by omega, Nat.pow_succ, ← Nat.div_div_eq_div_mul]
  omega
theorem mod_step {x m : Nat} (d : Nat) : (2 * (x % m) + d) % m = (2 * x + d) % m := by
  rw [Nat.add_mod, Nat.mul_mod, Nat.mod_mod, ← Nat.mul_mod, ← Nat.add_mod]
theorem MDs_below (t m : List (BitVec 64)) (hm : 0 < V m 6) (E : Nat) (hE : E = 768) : ∀ j, j ≤ 768 → V (MDs t m j) 6 = V t 12 / 2 ^ (E - j) % V m 6
  | 0, _ => by
    rw [MDs, show V (List.replicate 6 0) 6 = 0 from V_zero 6 6, show E - 0 = 64 * 12 by omega, Nat.div_eq_of_lt (V_lt t 12), Nat.zero_mod]
  | j + 1, h => by
    have ih := MDs_below t m hm E hE j (by omega)
    have hd := dig_val t 12 (767 - j) (by omega)
    have hle := dig_le t (767 - j)
    have ht := TW_val (MDs t m j) (dig t (767 - j)) hle
    have hlt := Nat.mod_lt (V t 12 / 2 ^ (E - j)) hm
    rw [MDs, RED_val _ _ _ (AS_c _ _ _) (by rw [ht, ih]; omega), ht, ih, hd, mod_step, ← step_bit E _ _ hE (by omega)]
theorem V_pos (m : List (BitVec 64)) (h : m.length = 6) (hm : m ≠ List.replicate 6 0) : 0 < V m 6 := by
  rcases Nat.eq_zero_or_pos (V m 6) with h0 | h0
  · exact absurd (V_inj 6 h (by simp) (h0.trans (V_zero 6 6).symm)) hm
  · exact h0
def MOD (t m : List (BitVec 64)) : List (BitVec 64) := if m = List.replicate 6 0 then List.replicate 6 0 else MDs t m 768
theorem MOD_len (t m : List (BitVec 64)) : (MOD t m).length = 6 := by
  unfold MOD
  split
  · rfl
  · exact MDs_len _ _ _
theorem MOD_val (t m : List (BitVec 64)) (h : m.length = 6) (hm : m ≠ List.replicate 6 0) : V (MOD t m) 6 = V t 12 % V m 6 := by
  obtain ⟨E, hE⟩ : ∃ E, E = 768 := ⟨768, rfl⟩
  rw [MOD, if_neg hm, MDs_below t m (V_pos m h hm) E hE 768 (Nat.le_refl _), show E - 768 = 0 by omega, Nat.pow_zero, Nat.div_one]
/-! ### The same by shifts -/
def SHs (l : List (BitVec 64)) : Nat → List (BitVec 64)
  | 0 => l
  | s + 1 => (SHs l s).set (5 - s) (((SHs l s).getD (5 - s) 0 <<< 1) ||| ((SHs l s).getD (4 - s) 0 >>> 63))
theorem SHs_len (l : List (BitVec 64)) (h : l.length = 6) : ∀ s, (SHs l s).length = 6
  | 0 => h
  | s + 1 => by simp [SHs, SHs_len l h s]
theorem SHs_low (l : List (BitVec 64)) (k : Nat) : ∀ s, k + s ≤ 5 → (SHs l s).getD k 0 = l.getD k 0
  | 0, _ => rfl
  | s + 1, h => by rw [SHs, getD_set_ne' _ _ _ _ (by omega), SHs_low l k s (by omega)]
theorem shl_or (x y : BitVec 64) : ((x <<< 1) ||| (y >>> 63)).toNat + (x.toNat / 9223372036854775808) * 18446744073709551616 = 2 * x.toNat + y.toNat / 9223372036854775808 := by
  have hx := x.isLt
  have hy := y.isLt
  have e2 : (y >>> 63).toNat = y.toNat / 9223372036854775808 := by rw [BitVec.toNat_ushiftRight, Nat.shiftRight_eq_div_pow]
  have e1 : (x <<< 1).toNat = 2 * x.toNat % 18446744073709551616 := by rw [BitVec.toNat_shiftLeft, Nat.shiftLeft_eq, Nat.mul_comm]
  rw [or_bit _ _ (by rw [e1]; omega) (by rw [e2]; omega), e1, e2]
  omega
theorem shl_or_d (x d : BitVec 64) (hd : d.toNat ≤ 1) : ((x <<< 1) ||| d).toNat + (x.toNat / 9223372036854775808) * 18446744073709551616 = 2 * x.toNat + d.toNat := by
  have hx := x.isLt
  have e1 : (x <<< 1).toNat = 2 * x.toNat % 18446744073709551616 := by rw [BitVec.toNat_shiftLeft, Nat.shiftLeft_eq, Nat.mul_comm]
  rw [or_bit _ _ (by rw [e1]; omega) hd, e1]
  omega
theorem SHs_val (l : List (BitVec 64)) (h : l.length = 6) : ∀ s, s ≤ 5 → V (SHs l s) 6 + ((l.getD 5 0).toNat / 9223372036854775808) * R6 + V l (6 - s) = 2 * V l 6 + ((l.getD (5 - s) 0).toNat / 9223372036854775808) * 2 ^ (64 * (6 - s))
  | 0, _ => by
    rw [SHs, Nat.sub_zero, Nat.sub_zero, ← R6_def]
    omega
  | s + 1, hs => by
    have ih := SHs_val l h s (by omega)
    have h2 := V_set (SHs l s) (5 - s) (((SHs l s).getD (5 - s) 0 <<< 1) ||| ((SHs l s).getD (4 - s) 0 >>> 63)) (by rw [SHs_len l h]; omega) 6 (by omega)
    rw [SHs_low l (5 - s) s (by omega), SHs_low l (4 - s) s (by omega)] at h2
    have h3 := shl_or (l.getD (5 - s) 0) (l.getD (4 - s) 0)
    rw [SHs, SHs_low l (5 - s) s (by omega), SHs_low l (4 - s) s (by omega), show 6 - (s + 1) = 5 - s by omega, show 5 - (s + 1) = 4 - s by omega]
    rw [show 6 - s = (5 - s) + 1 by omega, show V l ((5 - s) + 1) = V l (5 - s) + (l.getD (5 - s) 0).toNat * 2 ^ (64 * (5 - s)) from rfl, pow64] at ih
    generalize (SHs l s).set (5 - s) ((l.getD (5 - s) 0 <<< 1) ||| (l.getD (4 - s) 0 >>> 63)) = nl at *
    generalize ((l.getD (5 - s) 0 <<< 1) ||| (l.getD (4 - s) 0 >>> 63)).toNat = nw at *
    generalize (l.getD (5 - s) 0).toNat = old at *
    generalize (l.getD (4 - s) 0).toNat / 9223372036854775808 = tb at *
    generalize old / 9223372036854775808 = ta at *
    generalize 2 ^ (64 * (5 - s)) = q at *
    have e1 : ta * (q * 18446744073709551616) = ta * 18446744073709551616 * q := by rw [Nat.mul_comm q, Nat.mul_assoc]
    have e2 : (nw + ta * 18446744073709551616) * q = (2 * old + tb) * q := by rw [h3]
    rw [Nat.add_mul, Nat.add_mul, Nat.mul_assoc 2] at e2
    omega
def RN (l : List (BitVec 64)) (d : BitVec 64) : List (BitVec 64) := (SHs l 5).set 0 (((SHs l 5).getD 0 0 <<< 1) ||| d)
theorem RN_len (l : List (BitVec 64)) (d : BitVec 64) (h : l.length = 6) : (RN l d).length = 6 := by rw [RN, List.length_set, SHs_len l h]
theorem RN_val (l : List (BitVec 64)) (h : l.length = 6) (d : BitVec 64) (hd : d.toNat ≤ 1) : V (RN l d) 6 + (l.getD 5 0 >>> 63).toNat * R6 = 2 * V l 6 + d.toNat := by
  have ih := SHs_val l h 5 (Nat.le_refl _)
  have h2 := V_set (SHs l 5) 0 (((SHs l 5).getD 0 0 <<< 1) ||| d) (by rw [SHs_len l h]; omega) 6 (by omega)
  rw [SHs_low l 0 5 (by omega)] at h2
  have h3 := shl_or_d (l.getD 0 0) d hd
  have e2 : (l.getD 5 0 >>> 63).toNat = (l.getD 5 0).toNat / 9223372036854775808 := by rw [BitVec.toNat_ushiftRight, Nat.shiftRight_eq_div_pow]
  rw [RN, SHs_low l 0 5 (by omega), e2]
  rw [show 6 - 5 = 1 from rfl, show 5 - 5 = 0 from rfl, show V l 1 = 0 + (l.getD 0 0).toNat * 2 ^ (64 * 0) from rfl, show 2 ^ (64 * 0) = 1 from rfl, show 2 ^ (64 * 1) = 18446744073709551616 from rfl] at ih
  rw [show 2 ^ (64 * 0) = 1 from rfl] at h2
  omega
theorem RN_eq (l : List (BitVec 64)) (h : l.length = 6) (d : BitVec 64) (hd : d.toNat ≤ 1) : RN l d = TW l d ∧ l.getD 5 0 >>> 63 = (AS l l 6).2 := by
  have h1 := RN_val l h d hd
  have h2 := TW_val l d hd
  have h3 := V_lt6 (RN l d)
  have h4 := V_lt6 (TW l d)
  have h5 := AS_c l l 6
  have h6 : (l.getD 5 0 >>> 63).toNat ≤ 1 := by
    have := (l.getD 5 0).isLt
    rw [BitVec.toNat_ushiftRight, Nat.shiftRight_eq_div_pow]
    omega
  rcases bit_cases _ h5 with ⟨e1, e2⟩ | ⟨e1, e2⟩ <;> rcases bit_cases _ h6 with ⟨f1, f2⟩ | ⟨f1, f2⟩ <;> rw [e2] at h2 <;> rw [f2] at h1
  · exact ⟨V_inj 6 (RN_len l d h) (TW_len l d) (by omega), by rw [e1, f1]⟩
  · omega
  · omega
  · exact ⟨V_inj 6 (RN_len l d h) (TW_len l d) (by omega), by rw [e1, f1]⟩
theorem MDs_take (t m : List (BitVec 64)) (j : Nat) (h : (MDs t m j).getD 5 0 >>> 63 = 1 ∨ (SS (RN (MDs t m j) (dig t (767 - j))) m 6).2 = 0) : MDs t m (j + 1) = (SS (RN (MDs t m j) (dig t (767 - j))) m 6).1 := by
  obtain ⟨e1, e2⟩ := RN_eq (MDs t m j) (MDs_len t m j) (dig t (767 - j)) (dig_le _ _)
  rw [e1, e2] at h
  rw [MDs, RED, e1, if_neg]
  rintro ⟨h1, h2⟩
  rcases h with h | h
  · rw [h] at h1; exact one_ne h1
  · rw [h] at h2; exact zero_ne h2
theorem MDs_leave (t m : List (BitVec 64)) (j : Nat) (h : ¬ (MDs t m j).getD 5 0 >>> 63 = 1) (h' : ¬ (SS (RN (MDs t m j) (dig t (767 - j))) m 6).2 = 0) : MDs t m (j + 1) = RN (MDs t m j) (dig t (767 - j)) := by
  obtain ⟨e1, e2⟩ := RN_eq (MDs t m j) (MDs_len t m j) (dig t (767 - j)) (dig_le _ _)
  rw [e1] at h'
  rw [e2] at h
  rw [MDs, RED, e1, if_pos]
  constructor
  · rcases bit_cases _ (AS_c (MDs t m j) (MDs t m j) 6) with e | e
    · exact e.1
    · exact absurd e.1 h
  · rcases bit_cases _ (SS_c (TW (MDs t m j) (dig t (767 - j))) m 6) with e | e
    · exact absurd e.1 h'
    · exact e.1
end Go.Proofs.Yteohckfbphdngaa
