/-
  Numbers as parts of 64 bits: sums, differences, order, products. Nothing here names a program.
-/
import Derived.Test.YteohckfbphdngaaE21
namespace Go.Proofs.Yteohckfbphdngaa
set_option maxRecDepth 100000
/-- What the first n parts are worth. -/
def V (l : List (BitVec 64)) : Nat → Nat
  | 0 => 0
  | i + 1 => V l i + (l.getD i 0).toNat * 2 ^ (64 * i)
theorem pow64 (i : Nat) : 2 ^ (64 * (i + 1)) = 2 ^ (64 * i) * 18446744073709551616 := by rw [Nat.mul_add, Nat.pow_add]
theorem getD_set_self (l : List (BitVec 64)) (k : Nat) (x : BitVec 64) (hk : k < l.length) : (l.set k x).getD k 0 = x := by simp [List.getD_eq_getElem?_getD, hk]
theorem getD_set_ne' (l : List (BitVec 64)) (k i : Nat) (x : BitVec 64) (h : i ≠ k) : (l.set k x).getD i 0 = l.getD i 0 := by
  simp only [List.getD_eq_getElem?_getD, List.getElem?_set_ne (Ne.symm h)]
theorem V_set_le (l : List (BitVec 64)) (k : Nat) (x : BitVec 64) : ∀ i, i ≤ k → V (l.set k x) i = V l i
  | 0, _ => rfl
  | i + 1, h => by rw [V, V, V_set_le l k x i (by omega), getD_set_ne' l k i x (by omega)]
theorem V_set (l : List (BitVec 64)) (k : Nat) (x : BitVec 64) (hk : k < l.length) : ∀ n, k < n → V (l.set k x) n + (l.getD k 0).toNat * 2 ^ (64 * k) = V l n + x.toNat * 2 ^ (64 * k)
  | 0, h => by omega
  | n + 1, h => by
    rcases Nat.lt_or_ge k n with h' | h'
    · have := V_set l k x hk n h'
      rw [V, V, getD_set_ne' l k n x (by omega)]
      omega
    · obtain rfl : k = n := by omega
      rw [V, V, V_set_le l k x k (Nat.le_refl _), getD_set_self l k x hk]
      omega
theorem V_lt (l : List (BitVec 64)) : ∀ i, V l i < 2 ^ (64 * i)
  | 0 => by simp [V]
  | i + 1 => by
    have h1 := V_lt l i
    have h2 := (l.getD i 0).isLt
    rw [V, pow64]
    have h3 : (l.getD i 0).toNat * 2 ^ (64 * i) ≤ 18446744073709551615 * 2 ^ (64 * i) := Nat.mul_le_mul_right _ (by omega)
    omega
theorem V_mod (l : List (BitVec 64)) (i : Nat) : V l (i + 1) % 2 ^ (64 * i) = V l i := by
  rw [V, Nat.add_mul_mod_self_right, Nat.mod_eq_of_lt (V_lt l i)]
theorem V_div (l : List (BitVec 64)) (i : Nat) : V l (i + 1) / 2 ^ (64 * i) = (l.getD i 0).toNat := by
  rw [V, Nat.add_mul_div_right _ _ (Nat.two_pow_pos _), Nat.div_eq_of_lt (V_lt l i), Nat.zero_add]
theorem V_pre {l l' : List (BitVec 64)} : ∀ (n : Nat), V l n = V l' n → ∀ i, i < n → l.getD i 0 = l'.getD i 0
  | 0, _, _, h => by omega
  | n + 1, e, i, h => by
    have h1 : V l n = V l' n := by rw [← V_mod l n, ← V_mod l' n, e]
    rcases Nat.lt_or_ge i n with h' | h'
    · exact V_pre n h1 i h'
    · obtain rfl : i = n := by omega
      apply BitVec.eq_of_toNat_eq
      rw [← V_div l i, ← V_div l' i, e]
theorem V_inj {l l' : List (BitVec 64)} (n : Nat) (h : l.length = n) (h' : l'.length = n) (e : V l n = V l' n) : l = l' := by
  apply List.ext_getElem (by omega)
  intro i h1 h2
  have := V_pre n e i (by omega)
  simpa [List.getD_eq_getElem?_getD, h1, h2] using this
theorem V_zero (k : Nat) : ∀ n, V (List.replicate k 0#64) n = 0
  | 0 => rfl
  | n + 1 => by
    have : ((List.replicate k 0#64).getD n 0).toNat = 0 := by
      rw [List.getD_eq_getElem?_getD, List.getElem?_replicate]
      split <;> rfl
    rw [V, V_zero k n, this]; simp

/-! ### Sums -/
def ADC (x y c : BitVec 64) : BitVec 64 × BitVec 64 := (BitVec.ofNat 64 (x.toNat + y.toNat + c.toNat), BitVec.ofNat 64 ((x.toNat + y.toNat + c.toNat) / 18446744073709551616))
theorem ADC_val (x y c : BitVec 64) : (ADC x y c).1.toNat + (ADC x y c).2.toNat * 18446744073709551616 = x.toNat + y.toNat + c.toNat := by
  simp only [ADC, BitVec.toNat_ofNat]
  omega
theorem ADC_c (x y c : BitVec 64) (h : c.toNat ≤ 1) : (ADC x y c).2.toNat ≤ 1 := by
  have := x.isLt; have := y.isLt
  simp only [ADC, BitVec.toNat_ofNat]
  omega
def AS (a b : List (BitVec 64)) : Nat → List (BitVec 64) × BitVec 64
  | 0 => (List.replicate 6 0, 0)
  | i + 1 => ((AS a b i).1.set i (ADC (a.getD i 0) (b.getD i 0) (AS a b i).2).1, (ADC (a.getD i 0) (b.getD i 0) (AS a b i).2).2)
theorem AS_len (a b : List (BitVec 64)) : ∀ i, (AS a b i).1.length = 6
  | 0 => rfl
  | i + 1 => by simp [AS, AS_len a b i]
theorem AS_c (a b : List (BitVec 64)) : ∀ i, (AS a b i).2.toNat ≤ 1
  | 0 => by show (0 : BitVec 64).toNat ≤ 1; decide
  | i + 1 => ADC_c _ _ _ (AS_c a b i)
theorem AS_val (a b : List (BitVec 64)) : ∀ i, i ≤ 6 → V (AS a b i).1 i + (AS a b i).2.toNat * 2 ^ (64 * i) = V a i + V b i
  | 0, _ => by simp [V, AS]
  | i + 1, h => by
    have ih := AS_val a b i (by omega)
    have hv := ADC_val (a.getD i 0) (b.getD i 0) (AS a b i).2
    rw [V, V, V, AS, V_set_le _ _ _ i (Nat.le_refl _), getD_set_self _ _ _ (by rw [AS_len]; omega), pow64]
    generalize (ADC (a.getD i 0) (b.getD i 0) (AS a b i).2).1.toNat = s at *
    generalize (ADC (a.getD i 0) (b.getD i 0) (AS a b i).2).2.toNat = c at *
    generalize 2 ^ (64 * i) = q at *
    have e : s * q + c * (q * 18446744073709551616) = (s + c * 18446744073709551616) * q := by rw [Nat.add_mul, Nat.mul_comm q, ← Nat.mul_assoc]
    have e2 : ((a.getD i 0).toNat + (b.getD i 0).toNat + (AS a b i).2.toNat) * q = (a.getD i 0).toNat * q + (b.getD i 0).toNat * q + (AS a b i).2.toNat * q := by rw [Nat.add_mul, Nat.add_mul]
    rw [hv, e2] at e
    omega
/-! ### Differences -/
def SBB (x y b : BitVec 64) : BitVec 64 × BitVec 64 := (BitVec.ofNat 64 (x.toNat + 18446744073709551616 - y.toNat - b.toNat), if x.toNat < y.toNat + b.toNat then 1 else 0)
theorem SBB_val (x y b : BitVec 64) (h : b.toNat ≤ 1) : (SBB x y b).1.toNat + y.toNat + b.toNat = x.toNat + (SBB x y b).2.toNat * 18446744073709551616 := by
  have := x.isLt; have := y.isLt
  simp only [SBB, BitVec.toNat_ofNat]
  split
  · rw [show (1 : BitVec 64).toNat = 1 from rfl]; omega
  · rw [show (0 : BitVec 64).toNat = 0 from rfl]; omega
theorem SBB_c (x y b : BitVec 64) : (SBB x y b).2.toNat ≤ 1 := by
  simp only [SBB]
  split <;> decide
def SS (a b : List (BitVec 64)) : Nat → List (BitVec 64) × BitVec 64
  | 0 => (List.replicate 6 0, 0)
  | i + 1 => ((SS a b i).1.set i (SBB (a.getD i 0) (b.getD i 0) (SS a b i).2).1, (SBB (a.getD i 0) (b.getD i 0) (SS a b i).2).2)
theorem SS_len (a b : List (BitVec 64)) : ∀ i, (SS a b i).1.length = 6
  | 0 => rfl
  | i + 1 => by simp [SS, SS_len a b i]
theorem SS_c (a b : List (BitVec 64)) : ∀ i, (SS a b i).2.toNat ≤ 1
  | 0 => by show (0 : BitVec 64).toNat ≤ 1; decide
  | i + 1 => SBB_c _ _ _
theorem SS_val (a b : List (BitVec 64)) : ∀ i, i ≤ 6 → V (SS a b i).1 i + V b i = V a i + (SS a b i).2.toNat * 2 ^ (64 * i)
  | 0, _ => by simp [V, SS]
  | i + 1, h => by
    have ih := SS_val a b i (by omega)
    have hv := SBB_val (a.getD i 0) (b.getD i 0) (SS a b i).2 (SS_c a b i)
    rw [V, V, V, SS, V_set_le _ _ _ i (Nat.le_refl _), getD_set_self _ _ _ (by rw [SS_len]; omega), pow64]
    generalize (SBB (a.getD i 0) (b.getD i 0) (SS a b i).2).1.toNat = s at *
    generalize (SBB (a.getD i 0) (b.getD i 0) (SS a b i).2).2.toNat = c at *
    generalize 2 ^ (64 * i) = q at *
    have e : (a.getD i 0).toNat * q + c * (q * 18446744073709551616) = ((a.getD i 0).toNat + c * 18446744073709551616) * q := by rw [Nat.add_mul, Nat.mul_comm q, ← Nat.mul_assoc]
    have e2 : (s + (b.getD i 0).toNat + (SS a b i).2.toNat) * q = s * q + (b.getD i 0).toNat * q + (SS a b i).2.toNat * q := by rw [Nat.add_mul, Nat.add_mul]
    rw [← hv, e2] at e
    omega
/-! ### Order -/
def LT (a b : List (BitVec 64)) : Nat → Bool
  | 0 => false
  | i + 1 => if a.getD i 0 < b.getD i 0 then true else if a.getD i 0 > b.getD i 0 then false else LT a b i
theorem LT_val (a b : List (BitVec 64)) : ∀ i, LT a b i = decide (V a i < V b i)
  | 0 => by simp [LT, V]
  | i + 1 => by
    have ih := LT_val a b i
    have h1 := V_lt a i
    have h2 := V_lt b i
    rw [LT, V, V]
    generalize 2 ^ (64 * i) = q at *
    simp only [gt_iff_lt, BitVec.lt_def]
    generalize (a.getD i 0).toNat = x at *
    generalize (b.getD i 0).toNat = y at *
    rcases Nat.lt_trichotomy x y with h | h | h
    · have : (x + 1) * q ≤ y * q := Nat.mul_le_mul_right _ h
      rw [Nat.add_mul] at this
      rw [if_pos h, decide_eq_true (by omega)]
    · subst h
      rw [if_neg (by omega), if_neg (by omega), ih]
      congr 1
      apply propext
      omega
    · have : (y + 1) * q ≤ x * q := Nat.mul_le_mul_right _ h
      rw [Nat.add_mul] at this
      rw [if_neg (by omega), if_pos h, decide_eq_false (by omega)]
/-! ### Products -/
theorem mul_split (x y : Nat) : x * y = (x / 4294967296) * (y / 4294967296) * 18446744073709551616 + ((x / 4294967296) * (y % 4294967296) + (x % 4294967296) * (y / 4294967296)) * 4294967296 + (x % 4294967296) * (y % 4294967296) := by
  conv => lhs; rw [← Nat.div_add_mod x 4294967296, ← Nat.div_add_mod y 4294967296]
  generalize x / 4294967296 = a
  generalize x % 4294967296 = b
  generalize y / 4294967296 = c
  generalize y % 4294967296 = d
  rw [Nat.add_mul, Nat.mul_add, Nat.mul_add, Nat.mul_mul_mul_comm 4294967296 a 4294967296 c, Nat.mul_assoc 4294967296 a d, ← Nat.mul_assoc b 4294967296 c, Nat.mul_comm b 4294967296, Nat.mul_assoc 4294967296 b c]
  omega
def MH (x y : BitVec 64) : BitVec 64 := BitVec.ofNat 64 (x.toNat * y.toNat / 18446744073709551616)
def MLo (x y : BitVec 64) : BitVec 64 := BitVec.ofNat 64 (x.toNat * y.toNat)
theorem mul_lt {x y : Nat} (hx : x < 18446744073709551616) (hy : y < 18446744073709551616) : x * y ≤ 340282366920938463426481119284349108225 := (Nat.mul_le_mul (by omega : x ≤ 18446744073709551615) (by omega : y ≤ 18446744073709551615))
theorem MH_val (x y : BitVec 64) : (MLo x y).toNat + (MH x y).toNat * 18446744073709551616 = x.toNat * y.toNat := by
  have := mul_lt x.isLt y.isLt
  simp only [MH, MLo, BitVec.toNat_ofNat]
  omega
theorem MH_eq (x y : BitVec 64) : (x >>> 32) * (y >>> 32) + (((x >>> 32) * (y &&& 4294967295#64) + ((x &&& 4294967295#64) * (y &&& 4294967295#64)) >>> 32) >>> 32) +
    ((((x >>> 32) * (y &&& 4294967295#64) + ((x &&& 4294967295#64) * (y &&& 4294967295#64)) >>> 32) &&& 4294967295#64) + (x &&& 4294967295#64) * (y >>> 32)) >>> 32 = MH x y := by
  have hx := x.isLt
  have hy := y.isLt
  have m32 : ∀ n : Nat, n &&& 4294967295 = n % 4294967296 := fun n => Nat.and_two_pow_sub_one_eq_mod n 32
  have s32 : ∀ n : Nat, n >>> 32 = n / 4294967296 := fun n => Nat.shiftRight_eq_div_pow n 32
  apply BitVec.eq_of_toNat_eq
  simp only [MH, BitVec.toNat_ofNat, BitVec.toNat_add, BitVec.toNat_mul, BitVec.toNat_ushiftRight, BitVec.toNat_and, m32, s32, Nat.reduceMod, Nat.reducePow]
  rw [mul_split x.toNat y.toNat]
  have a1 : x.toNat / 4294967296 ≤ 4294967295 := by omega
  have a2 : x.toNat % 4294967296 ≤ 4294967295 := by omega
  have a3 : y.toNat / 4294967296 ≤ 4294967295 := by omega
  have a4 : y.toNat % 4294967296 ≤ 4294967295 := by omega
  generalize x.toNat / 4294967296 = a at *
  generalize x.toNat % 4294967296 = b at *
  generalize y.toNat / 4294967296 = c at *
  generalize y.toNat % 4294967296 = d at *
  have b1 : a * c ≤ 4294967295 * 4294967295 := Nat.mul_le_mul a1 a3
  have b2 : a * d ≤ 4294967295 * 4294967295 := Nat.mul_le_mul a1 a4
  have b3 : b * c ≤ 4294967295 * 4294967295 := Nat.mul_le_mul a2 a3
  have b4 : b * d ≤ 4294967295 * 4294967295 := Nat.mul_le_mul a2 a4
  generalize a * c = p at *
  generalize a * d = q at *
  generalize b * c = r at *
  generalize b * d = s at *
  omega
theorem MLo_eq (x y : BitVec 64) : x * y = MLo x y := by
  apply BitVec.eq_of_toNat_eq
  simp [MLo, BitVec.toNat_mul]
def MA (x y c d : BitVec 64) : BitVec 64 × BitVec 64 := ((ADC (ADC (MLo x y) c 0).1 d 0).1, MH x y + (ADC (MLo x y) c 0).2 + (ADC (ADC (MLo x y) c 0).1 d 0).2)
theorem ADC_val0 (x y : BitVec 64) : (ADC x y 0).1.toNat + (ADC x y 0).2.toNat * 18446744073709551616 = x.toNat + y.toNat := by
  have h := ADC_val x y 0
  rw [show (0 : BitVec 64).toNat = 0 from rfl, Nat.add_zero] at h
  exact h
theorem ma_aux {l2 c2 l1 c1 hi lo p c d : Nat} (h1 : lo + hi * 18446744073709551616 = p) (h2 : l1 + c1 * 18446744073709551616 = lo + c) (h3 : l2 + c2 * 18446744073709551616 = l1 + d) (h4 : p ≤ 340282366920938463426481119284349108225)
    (h5 : c < 18446744073709551616) (h6 : d < 18446744073709551616) (_h7 : l2 < 18446744073709551616) : l2 + ((hi + c1) % 18446744073709551616 + c2) % 18446744073709551616 * 18446744073709551616 = p + c + d := by
  have e0 : (hi + c1 + c2) * 18446744073709551616 + l2 = p + c + d := by omega
  have e1 : hi + c1 + c2 < 18446744073709551616 := by
    clear h1 h2 h3
    omega
  rw [Nat.mod_eq_of_lt (Nat.lt_of_le_of_lt (Nat.le_add_right _ c2) e1), Nat.mod_eq_of_lt e1]
  exact (Nat.add_comm _ _).trans e0
theorem MA_val (x y c d : BitVec 64) : (MA x y c d).1.toNat + (MA x y c d).2.toNat * 18446744073709551616 = x.toNat * y.toNat + c.toNat + d.toNat :=
  ma_aux (MH_val x y) (ADC_val0 (MLo x y) c) (ADC_val0 (ADC (MLo x y) c 0).1 d) (mul_lt x.isLt y.isLt) c.isLt d.isLt (ADC (ADC (MLo x y) c 0).1 d 0).1.isLt
/-- A row of the product. -/
def MI (x : BitVec 64) (b : List (BitVec 64)) (i : Nat) (p : List (BitVec 64)) : Nat → List (BitVec 64) × BitVec 64
  | 0 => (p, 0)
  | j + 1 => ((MI x b i p j).1.set (i + j) (MA x (b.getD j 0) ((MI x b i p j).1.getD (i + j) 0) (MI x b i p j).2).1, (MA x (b.getD j 0) ((MI x b i p j).1.getD (i + j) 0) (MI x b i p j).2).2)
theorem MI_len (x : BitVec 64) (b : List (BitVec 64)) (i : Nat) (p : List (BitVec 64)) : ∀ j, (MI x b i p j).1.length = p.length
  | 0 => rfl
  | j + 1 => by simp [MI, MI_len x b i p j]
theorem MI_far (x : BitVec 64) (b : List (BitVec 64)) (i : Nat) (p : List (BitVec 64)) (k : Nat) : ∀ j, i + j ≤ k → (MI x b i p j).1.getD k 0 = p.getD k 0
  | 0, _ => rfl
  | j + 1, h => by rw [MI, getD_set_ne' _ _ _ _ (by omega), MI_far x b i p k j (by omega)]
theorem MI_val (x : BitVec 64) (b : List (BitVec 64)) (i n : Nat) (p : List (BitVec 64)) (hp : p.length = n) : ∀ j, i + j ≤ n → V (MI x b i p j).1 n + (MI x b i p j).2.toNat * 2 ^ (64 * (i + j)) = V p n + x.toNat * V b j * 2 ^ (64 * i)
  | 0, _ => by simp [MI, V]
  | j + 1, h => by
    have ih := MI_val x b i n p hp j (by omega)
    have hs := V_set (MI x b i p j).1 (i + j) (MA x (b.getD j 0) ((MI x b i p j).1.getD (i + j) 0) (MI x b i p j).2).1 (by rw [MI_len]; omega) n (by omega)
    have hv := MA_val x (b.getD j 0) ((MI x b i p j).1.getD (i + j) 0) (MI x b i p j).2
    rw [MI, V, ← Nat.add_assoc i j 1, pow64]
    dsimp only
    have e0 : x.toNat * (V b j + (b.getD j 0).toNat * 2 ^ (64 * j)) * 2 ^ (64 * i) = x.toNat * V b j * 2 ^ (64 * i) + x.toNat * (b.getD j 0).toNat * 2 ^ (64 * (i + j)) := by
      rw [Nat.mul_add x.toNat, Nat.add_mul, ← Nat.mul_assoc x.toNat, Nat.mul_assoc (x.toNat * (b.getD j 0).toNat), ← Nat.pow_add, Nat.mul_add 64 i j, Nat.add_comm (64 * j)]
    rw [e0]
    generalize (MA x (b.getD j 0) ((MI x b i p j).1.getD (i + j) 0) (MI x b i p j).2).1 = lo at *
    generalize (MA x (b.getD j 0) ((MI x b i p j).1.getD (i + j) 0) (MI x b i p j).2).2.toNat = hi at *
    generalize 2 ^ (64 * (i + j)) = q at *
    generalize x.toNat * (b.getD j 0).toNat = xy at *
    have e1 : lo.toNat * q + hi * (q * 18446744073709551616) = (lo.toNat + hi * 18446744073709551616) * q := by rw [Nat.add_mul, Nat.mul_comm q, ← Nat.mul_assoc]
    rw [hv, Nat.add_mul, Nat.add_mul] at e1
    omega
def MU (a b : List (BitVec 64)) : Nat → List (BitVec 64)
  | 0 => List.replicate 12 0
  | i + 1 => (MI (a.getD i 0) b i (MU a b i) 6).1.set (i + 6) (MI (a.getD i 0) b i (MU a b i) 6).2
theorem MU_len (a b : List (BitVec 64)) : ∀ i, (MU a b i).length = 12
  | 0 => rfl
  | i + 1 => by simp [MU, MI_len, MU_len a b i]
theorem MU_far (a b : List (BitVec 64)) (k : Nat) : ∀ i, i + 6 ≤ k → (MU a b i).getD k 0 = 0
  | 0, _ => by
    rw [MU, List.getD_eq_getElem?_getD, List.getElem?_replicate]
    split <;> rfl
  | i + 1, h => by rw [MU, getD_set_ne' _ _ _ _ (by omega), MI_far _ _ _ _ _ _ (by omega), MU_far a b k i (by omega)]
theorem MU_val (a b : List (BitVec 64)) : ∀ i, i ≤ 6 → V (MU a b i) 12 = V a i * V b 6
  | 0, _ => by rw [MU, V, Nat.zero_mul]; exact V_zero 12 12
  | i + 1, h => by
    have ih := MU_val a b i (by omega)
    have h1 := MI_val (a.getD i 0) b i 12 (MU a b i) (MU_len a b i) 6 (by omega)
    have h2 := V_set (MI (a.getD i 0) b i (MU a b i) 6).1 (i + 6) (MI (a.getD i 0) b i (MU a b i) 6).2 (by rw [MI_len, MU_len]; omega) 12 (by omega)
    rw [MI_far _ _ _ _ _ _ (Nat.le_refl _), MU_far a b (i + 6) i (Nat.le_refl _), show (0 : BitVec 64).toNat = 0 from rfl, Nat.zero_mul, Nat.add_zero] at h2
    rw [MU, h2, h1, ih, show V a (i + 1) = V a i + (a.getD i 0).toNat * 2 ^ (64 * i) from rfl, Nat.add_mul (V a i), Nat.mul_assoc (a.getD i 0).toNat (V b 6), Nat.mul_comm (V b 6) (2 ^ (64 * i)), ← Nat.mul_assoc]
theorem mu_comm (a b : List (BitVec 64)) : MU a b 6 = MU b a 6 := V_inj 12 (MU_len _ _ _) (MU_len _ _ _) (by rw [MU_val a b 6 (Nat.le_refl _), MU_val b a 6 (Nat.le_refl _), Nat.mul_comm])
end Go.Proofs.Yteohckfbphdngaa
