/-
  Montgomery's product. Nothing here names a program.
-/
import Derived.Test.YteohckfbphdngaaN2
namespace Go.Proofs.Yteohckfbphdngaa
set_option maxRecDepth 100000
/-! ### The inverse of an odd part -/
def IV (n : BitVec 64) : Nat → BitVec 64
  | 0 => n
  | k + 1 => IV n k * (2#64 - n * IV n k)
def IW (n : BitVec 64) : Nat → BitVec 64
  | 0 => n * n - 1
  | k + 1 => IW n k * IW n k
theorem IV_w (n : BitVec 64) : ∀ k, n * IV n k - 1 = IW n k ∨ n * IV n k - 1 = - IW n k
  | 0 => .inl rfl
  | k + 1 => by
    right
    have h : n * (IV n k * (2#64 - n * IV n k)) - 1 = - ((n * IV n k - 1) * (n * IV n k - 1)) := by grind
    rw [IV, IW, h]
    rcases IV_w n k with e | e
    · rw [e]
    · rw [e]; grind
theorem odd_sq (n : BitVec 64) (h : n.toNat % 2 = 1) : ∃ z : BitVec 64, n * n - 1 = 8#64 * z := by
  refine ⟨(n * n - 1) >>> 3, ?_⟩
  have h1 : (n * n - 1).toNat % 8 = 0 := by
    have e : (n * n).toNat = n.toNat * n.toNat % 18446744073709551616 := BitVec.toNat_mul n n
    have e1 : n.toNat * n.toNat % 8 = 1 := by
      have : n.toNat % 8 = 1 ∨ n.toNat % 8 = 3 ∨ n.toNat % 8 = 5 ∨ n.toNat % 8 = 7 := by omega
      rw [Nat.mul_mod]
      rcases this with h | h | h | h <;> rw [h]
    rw [BitVec.toNat_sub, e, show (1 : BitVec 64).toNat = 1 from rfl]
    omega
  apply BitVec.eq_of_toNat_eq
  rw [BitVec.toNat_mul, BitVec.toNat_ushiftRight, Nat.shiftRight_eq_div_pow, show (8#64).toNat = 8 from rfl]
  have := (n * n - 1).isLt
  omega
theorem IW_zero (n : BitVec 64) (h : n.toNat % 2 = 1) : IW n 5 = 0 := by
  obtain ⟨z, hz⟩ := odd_sq n h
  have h1 : IW n 1 = 64#64 * (z * z) := by rw [IW, IW, hz]; grind
  have h2 : IW n 2 = 4096#64 * ((z * z) * (z * z)) := by rw [show IW n 2 = IW n 1 * IW n 1 from rfl, h1]; grind
  have h3 : IW n 3 = 16777216#64 * (((z * z) * (z * z)) * ((z * z) * (z * z))) := by rw [show IW n 3 = IW n 2 * IW n 2 from rfl, h2]; generalize (z * z) * (z * z) = y; grind
  generalize ((z * z) * (z * z)) * ((z * z) * (z * z)) = y at h3
  have h4 : IW n 4 = 281474976710656#64 * (y * y) := by rw [show IW n 4 = IW n 3 * IW n 3 from rfl, h3]; grind
  rw [show IW n 5 = IW n 4 * IW n 4 from rfl, h4]
  generalize y * y = x
  have : 281474976710656#64 * x * (281474976710656#64 * x) = (281474976710656#64 * 281474976710656#64) * (x * x) := by grind
  rw [this, show 281474976710656#64 * 281474976710656#64 = 0#64 from by decide]
  exact BitVec.zero_mul
theorem IV_inv (n : BitVec 64) (h : n.toNat % 2 = 1) : n * IV n 5 = 1 := by
  have h0 := IW_zero n h
  rcases IV_w n 5 with e | e <;> rw [h0] at e
  · have : n * IV n 5 = (n * IV n 5 - 1) + 1 := by grind
    rw [this, e]; rfl
  · have : n * IV n 5 = (n * IV n 5 - 1) + 1 := by grind
    rw [this, e]; rfl
/-! ### One row -/
def MJ (x : BitVec 64) (b : List (BitVec 64)) (p : List (BitVec 64)) : Nat → List (BitVec 64) × BitVec 64
  | 0 => (p, 0)
  | j + 1 => ((MJ x b p j).1.set j (MA x (b.getD j 0) ((MJ x b p j).1.getD j 0) (MJ x b p j).2).1, (MA x (b.getD j 0) ((MJ x b p j).1.getD j 0) (MJ x b p j).2).2)
theorem MJ_eq (x : BitVec 64) (b p : List (BitVec 64)) : ∀ j, MJ x b p j = MI x b 0 p j
  | 0 => rfl
  | j + 1 => by rw [MJ, MI, MJ_eq x b p j, Nat.zero_add]
theorem MJ_len (x : BitVec 64) (b p : List (BitVec 64)) (j : Nat) : (MJ x b p j).1.length = p.length := by rw [MJ_eq, MI_len]
theorem MJ_val (x : BitVec 64) (b p : List (BitVec 64)) (hp : p.length = 6) : V (MJ x b p 6).1 6 + (MJ x b p 6).2.toNat * R6 = V p 6 + x.toNat * V b 6 := by
  have h := MI_val x b 0 6 p hp 6 (by omega)
  rw [← MJ_eq, Nat.zero_add, ← R6_def, Nat.mul_zero, Nat.pow_zero, Nat.mul_one] at h
  exact h
def MR (t : BitVec 64) (m s : List (BitVec 64)) : Nat → List (BitVec 64) × BitVec 64
  | 0 => (s, (MA t (m.getD 0 0) (s.getD 0 0) 0).2)
  | j + 1 => ((MR t m s j).1.set j (MA t (m.getD (j + 1) 0) ((MR t m s j).1.getD (j + 1) 0) (MR t m s j).2).1, (MA t (m.getD (j + 1) 0) ((MR t m s j).1.getD (j + 1) 0) (MR t m s j).2).2)
theorem MR_len (t : BitVec 64) (m s : List (BitVec 64)) : ∀ j, (MR t m s j).1.length = s.length
  | 0 => rfl
  | j + 1 => by simp [MR, MR_len t m s j]
theorem MR_far (t : BitVec 64) (m s : List (BitVec 64)) (k : Nat) : ∀ j, j ≤ k → (MR t m s j).1.getD k 0 = s.getD k 0
  | 0, _ => rfl
  | j + 1, h => by rw [MR, getD_set_ne' _ _ _ _ (by omega), MR_far t m s k j (by omega)]
theorem mr_aux {Vj c Z X1 X2 s t1 t2 : Nat} (B : Nat) (h : (Vj + c) * B = Z + t2) (e : X1 + X2 = t1 + s + c) : (Vj + X1 + X2) * B = Z + s * B + (t2 + t1 * B) := by
  rw [Nat.add_assoc, e, Nat.add_mul, Nat.add_mul, Nat.add_mul]
  rw [Nat.add_mul] at h
  omega
theorem MR_val (t : BitVec 64) (m s : List (BitVec 64)) (hs : s.length = 6) (h0 : (MA t (m.getD 0 0) (s.getD 0 0) 0).1 = 0) : ∀ j, j ≤ 5 → (V (MR t m s j).1 j + (MR t m s j).2.toNat * 2 ^ (64 * j)) * 18446744073709551616 = V s (j + 1) + t.toNat * V m (j + 1)
  | 0, _ => by
    have h := MA_val t (m.getD 0 0) (s.getD 0 0) 0
    rw [h0, show (0 : BitVec 64).toNat = 0 from rfl] at h
    rw [V, V, V, V, V, show 2 ^ (64 * 0) = 1 from rfl, MR]
    simp only [Nat.zero_add, Nat.mul_one]
    omega
  | j + 1, h => by
    have ih := MR_val t m s hs h0 j (by omega)
    have hv := MA_val t (m.getD (j + 1) 0) ((MR t m s j).1.getD (j + 1) 0) (MR t m s j).2
    rw [show V s (j + 1 + 1) = V s (j + 1) + (s.getD (j + 1) 0).toNat * 2 ^ (64 * (j + 1)) from rfl, show V m (j + 1 + 1) = V m (j + 1) + (m.getD (j + 1) 0).toNat * 2 ^ (64 * (j + 1)) from rfl]
    rw [MR, V, V_set_le _ _ _ j (Nat.le_refl _), getD_set_self _ _ _ (by rw [MR_len]; omega)]
    dsimp only
    rw [MR_far t m s (j + 1) j (by omega)] at hv ⊢
    rw [pow64]
    generalize (MA t (m.getD (j + 1) 0) (s.getD (j + 1) 0) (MR t m s j).2).1.toNat = lo at *
    generalize (MA t (m.getD (j + 1) 0) (s.getD (j + 1) 0) (MR t m s j).2).2.toNat = hi at *
    generalize 2 ^ (64 * j) = q at *
    have e1 : lo * q + hi * (q * 18446744073709551616) = (lo + hi * 18446744073709551616) * q := by rw [Nat.add_mul, Nat.mul_comm q, ← Nat.mul_assoc]
    rw [hv, Nat.add_mul, Nat.add_mul] at e1
    have e2 : t.toNat * (V m (j + 1) + (m.getD (j + 1) 0).toNat * (q * 18446744073709551616)) = t.toNat * V m (j + 1) + t.toNat * (m.getD (j + 1) 0).toNat * q * 18446744073709551616 := by
      rw [Nat.mul_add, ← Nat.mul_assoc t.toNat (m.getD (j + 1) 0).toNat, ← Nat.mul_assoc (t.toNat * (m.getD (j + 1) 0).toNat) q]
    have e3 : (s.getD (j + 1) 0).toNat * (q * 18446744073709551616) = (s.getD (j + 1) 0).toNat * q * 18446744073709551616 := by rw [← Nat.mul_assoc]
    rw [e2, e3]
    clear h0 hv e2 e3
    exact mr_aux _ ih e1
theorem V_succ (l : List (BitVec 64)) (i : Nat) : V l (i + 1) = V l i + (l.getD i 0).toNat * 2 ^ (64 * i) := rfl
/-- The state behind i rows: the sum, and its highest part. -/
def MO (a b m : List (BitVec 64)) (cl : BitVec 64) : Nat → List (BitVec 64) × BitVec 64
  | 0 => (List.replicate 6 0, 0)
  | i + 1 =>
    let s := MJ (a.getD i 0) b (MO a b m cl i).1 6
    let p := ADC (MO a b m cl i).2 s.2 0
    let r := MR (s.1.getD 0 0 * cl) m s.1 5
    let q := ADC p.1 r.2 0
    (r.1.set 5 q.1, p.2 + q.2)
theorem MO_succ (a b m : List (BitVec 64)) (cl : BitVec 64) (i : Nat) {s r : List (BitVec 64) × BitVec 64} (hs : MJ (a.getD i 0) b (MO a b m cl i).1 6 = s) (hr : MR (s.1.getD 0 0 * cl) m s.1 5 = r) :
    MO a b m cl (i + 1) = (r.1.set 5 (ADC (ADC (MO a b m cl i).2 s.2 0).1 r.2 0).1, (ADC (MO a b m cl i).2 s.2 0).2 + (ADC (ADC (MO a b m cl i).2 s.2 0).1 r.2 0).2) := by
  subst hs
  subst hr
  rw [MO]
theorem MO_len (a b m : List (BitVec 64)) (cl : BitVec 64) : ∀ i, (MO a b m cl i).1.length = 6
  | 0 => rfl
  | i + 1 => by simp [MO, MR_len, MJ_len, MO_len a b m cl i]
theorem low_aux {lo hi p s : Nat} (h : lo + hi * 18446744073709551616 = p + s + 0) (h1 : lo < 18446744073709551616) (h2 : (p + s) % 18446744073709551616 = 0) : lo = 0 := by omega
theorem low_zero (s0 m0 cl : BitVec 64) (h : m0 * cl = -1) : (MA (s0 * cl) m0 s0 0).1 = 0 := by
  have hv := MA_val (s0 * cl) m0 s0 0
  have hlt := (MA (s0 * cl) m0 s0 0).1.isLt
  have e : s0 * cl * m0 + s0 = 0 := by
    have : s0 * cl * m0 + s0 = s0 * (m0 * cl) + s0 := by grind
    rw [this, h]; grind
  have e2 := congrArg BitVec.toNat e
  rw [BitVec.toNat_add, BitVec.toNat_mul] at e2
  rw [show (0 : BitVec 64).toNat = 0 from rfl] at e2 hv
  apply BitVec.eq_of_toNat_eq
  rw [show (0 : BitVec 64).toNat = 0 from rfl]
  rw [Nat.add_mod, Nat.mod_mod, ← Nat.add_mod] at e2
  exact low_aux hv hlt e2
theorem mo_aux {q5 V0 V1 V5 s0 c p1 p2 r x5 q2 B M t top R : Nat} (W : Nat) (hR : R = q5 * W)
    (h1 : V1 + c * R = V0 + s0 * B) (h2 : p1 + p2 * W = top + c) (h3 : (V5 + r * q5) * W = V1 + t * M) (h4 : x5 + q2 * W = p1 + r) :
    (V5 + x5 * q5 + (p2 + q2) * R) * W = V0 + top * R + s0 * B + t * M := by
  have e4 : (x5 + q2 * W) * R = (p1 + r) * R := by rw [h4]
  have e2 : (p1 + p2 * W) * R = (top + c) * R := by rw [h2]
  have e3 : V5 * W + r * R = V1 + t * M := by rw [← h3, Nat.add_mul, Nat.mul_assoc, ← hR]
  have eg : (V5 + x5 * q5 + (p2 + q2) * R) * W = V5 * W + x5 * R + (p2 * W * R + q2 * W * R) := by
    rw [Nat.add_mul, Nat.add_mul, Nat.mul_assoc x5, ← hR, Nat.add_mul, Nat.add_mul, Nat.mul_right_comm, Nat.mul_right_comm q2]
  rw [Nat.add_mul, Nat.add_mul] at e4 e2
  rw [eg]
  omega
theorem pow_gen (n : Nat) (h : n = 5 + 1) : 2 ^ (64 * n) = 2 ^ (64 * 5) * 18446744073709551616 := by rw [h]; exact pow64 5
theorem R6_pow : R6 = 2 ^ (64 * 5) * 18446744073709551616 := by rw [R6_def]; exact pow_gen 6 rfl
theorem MO_step (a b m : List (BitVec 64)) (cl : BitVec 64) (hcl : m.getD 0 0 * cl = -1) (i : Nat) :
    ∃ t, t < 18446744073709551616 ∧ (V (MO a b m cl (i + 1)).1 6 + (MO a b m cl (i + 1)).2.toNat * R6) * 18446744073709551616 = V (MO a b m cl i).1 6 + (MO a b m cl i).2.toNat * R6 + (a.getD i 0).toNat * V b 6 + t * V m 6 := by
  have h1 := MJ_val (a.getD i 0) b (MO a b m cl i).1 (MO_len a b m cl i)
  have hl : (MJ (a.getD i 0) b (MO a b m cl i).1 6).1.length = 6 := by rw [MJ_len, MO_len]
  rw [MO]
  dsimp only
  generalize MJ (a.getD i 0) b (MO a b m cl i).1 6 = s at *
  have h2 := ADC_val0 (MO a b m cl i).2 s.2
  have hp := ADC_c (MO a b m cl i).2 s.2 0 (by decide)
  generalize ADC (MO a b m cl i).2 s.2 0 = p at *
  have h3 := MR_val (s.1.getD 0 0 * cl) m s.1 hl (low_zero _ _ _ hcl) 5 (Nat.le_refl _)
  have hl2 : (MR (s.1.getD 0 0 * cl) m s.1 5).1.length = 6 := by rw [MR_len, hl]
  refine ⟨(s.1.getD 0 0 * cl).toNat, (s.1.getD 0 0 * cl).isLt, ?_⟩
  generalize s.1.getD 0 0 * cl = t at *
  generalize MR t m s.1 5 = r at *
  have h4 := ADC_val0 p.1 r.2
  have hq := ADC_c p.1 r.2 0 (by decide)
  generalize ADC p.1 r.2 0 = q at *
  have e : V (r.1.set 5 q.1) 6 = V r.1 5 + q.1.toNat * 2 ^ (64 * 5) := by
    refine (V_succ _ 5).trans ?_
    rw [V_set_le _ _ _ 5 (Nat.le_refl _), getD_set_self _ _ _ (by omega)]
  have e2 : (p.2 + q.2).toNat = p.2.toNat + q.2.toNat := by rw [BitVec.toNat_add]; omega
  rw [e, e2]
  exact mo_aux _ R6_pow h1 h2 h3 h4
theorem MO_val (a b m : List (BitVec 64)) (cl : BitVec 64) (hcl : m.getD 0 0 * cl = -1) : ∀ i, ∃ Q, Q < 2 ^ (64 * i) ∧ (V (MO a b m cl i).1 6 + (MO a b m cl i).2.toNat * R6) * 2 ^ (64 * i) = V a i * V b 6 + Q * V m 6
  | 0 => ⟨0, by decide, by
      rw [MO, show V (List.replicate 6 0) 6 = 0 from V_zero 6 6, show (0 : BitVec 64).toNat = 0 from rfl, V]
      simp⟩
  | i + 1 => by
    obtain ⟨Q, hQ, ih⟩ := MO_val a b m cl hcl i
    obtain ⟨t, ht, hs⟩ := MO_step a b m cl hcl i
    refine ⟨Q + t * 2 ^ (64 * i), ?_, ?_⟩
    · rw [pow64]
      have : t * 2 ^ (64 * i) ≤ 18446744073709551615 * 2 ^ (64 * i) := Nat.mul_le_mul_right _ (by omega)
      omega
    · rw [pow64, Nat.mul_comm (2 ^ (64 * i)), ← Nat.mul_assoc, hs, show V a (i + 1) = V a i + (a.getD i 0).toNat * 2 ^ (64 * i) from rfl]
      generalize V (MO a b m cl i).1 6 + (MO a b m cl i).2.toNat * R6 = S at *
      generalize 2 ^ (64 * i) = q at *
      rw [Nat.add_mul, Nat.add_mul, ih, Nat.add_mul, Nat.add_mul, Nat.mul_right_comm (a.getD i 0).toNat, Nat.mul_right_comm t]
      omega
/-! ### The product -/
def MN (a b m : List (BitVec 64)) : List (BitVec 64) := RED (MO a b m (-(IV (m.getD 0 0) 5)) 6).1 (MO a b m (-(IV (m.getD 0 0) 5)) 6).2 m
def MONT (a b m : List (BitVec 64)) : List (BitVec 64) :=
  if m.getD 0 0 % 2 = 0 then List.replicate 6 0 else if LT a m 6 then MN a b m else MN (MOD (a ++ List.replicate 6 0) m) b m
theorem MN_len (a b m : List (BitVec 64)) : (MN a b m).length = 6 := RED_len _ _ _ (MO_len _ _ _ _ _)
theorem R6_pos : 0 < R6 := Nat.lt_of_le_of_lt (Nat.zero_le _) (V_lt6 [])
theorem MN_val (a b m : List (BitVec 64)) (hm : (m.getD 0 0).toNat % 2 = 1) (ha : V a 6 < V m 6) : V (MN a b m) 6 < V m 6 ∧ V (MN a b m) 6 * R6 % V m 6 = V a 6 * V b 6 % V m 6 := by
  have hcl : m.getD 0 0 * -(IV (m.getD 0 0) 5) = -1 := by
    have h := IV_inv _ hm
    have : m.getD 0 0 * -(IV (m.getD 0 0) 5) = -(m.getD 0 0 * IV (m.getD 0 0) 5) := by grind
    rw [this, h]
  obtain ⟨Q, hQ, h⟩ := MO_val a b m _ hcl 6
  rw [← R6_def] at hQ h
  have hR := R6_pos
  have hb := V_lt6 b
  have hml := V_lt6 m
  unfold MN
  generalize MO a b m (-(IV (m.getD 0 0) 5)) 6 = s at *
  have hS : V s.1 6 + s.2.toNat * R6 < 2 * V m 6 := by
    have b1 : V a 6 * V b 6 ≤ V m 6 * R6 := Nat.mul_le_mul (Nat.le_of_lt ha) (Nat.le_of_lt hb)
    have b2 : Q * V m 6 < R6 * V m 6 := (Nat.mul_lt_mul_right (by omega)).2 hQ
    have b3 : (V s.1 6 + s.2.toNat * R6) * R6 < 2 * V m 6 * R6 := by
      rw [h, Nat.mul_assoc, Nat.mul_comm R6] at *
      omega
    exact Nat.lt_of_mul_lt_mul_right b3
  have ht : s.2.toNat ≤ 1 := by
    rcases Nat.lt_or_ge s.2.toNat 2 with h' | h'
    · omega
    · have : 2 * R6 ≤ s.2.toNat * R6 := Nat.mul_le_mul_right _ h'
      omega
  rw [RED_val _ _ _ ht hS]
  refine ⟨Nat.mod_lt _ (by omega), ?_⟩
  rw [Nat.mul_mod, Nat.mod_mod, ← Nat.mul_mod, h, Nat.add_mul_mod_self_right]
theorem V_app (a : List (BitVec 64)) (h : a.length = 6) : V (a ++ List.replicate 6 0) 12 = V a 6 := by
  have key : ∀ k, k ≤ 6 → V (a ++ List.replicate 6 0) k = V a k := fun k => by
    induction k with
    | zero => intro _; rfl
    | succ k ih =>
      intro hk
      rw [V, V, ih (by omega)]
      simp only [List.getD_eq_getElem?_getD]
      rw [List.getElem?_append_left (by omega)]
  have z : ∀ k, 6 ≤ k → (a ++ List.replicate 6 0).getD k 0 = 0 := fun k hk => by
    rw [List.getD_eq_getElem?_getD, List.getElem?_append_right (by omega), List.getElem?_replicate]
    split <;> rfl
  have key2 : ∀ k, V (a ++ List.replicate 6 0) (6 + k) = V a 6 := fun k => by
    induction k with
    | zero => exact key 6 (Nat.le_refl _)
    | succ k ih =>
      rw [← Nat.add_assoc, V, ih, z _ (by omega), show (0 : BitVec 64).toNat = 0 from rfl, Nat.zero_mul, Nat.add_zero]
  exact key2 6
theorem odd_ne (m : List (BitVec 64)) (h : ¬ m.getD 0 0 % 2 = 0) : (m.getD 0 0).toNat % 2 = 1 := by
  have h1 : ¬ (m.getD 0 0).toNat % 2 = 0 := fun e => h (by
    apply BitVec.eq_of_toNat_eq
    rw [BitVec.toNat_umod]
    exact e)
  omega
theorem odd_nz (m : List (BitVec 64)) (h : (m.getD 0 0).toNat % 2 = 1) : m ≠ List.replicate 6 0 := fun e => by
  rw [e] at h
  exact absurd h (by decide)
theorem MONT_len (a b m : List (BitVec 64)) : (MONT a b m).length = 6 := by
  unfold MONT
  split
  · rfl
  · split <;> exact MN_len _ _ _
theorem MONT_val (a b m : List (BitVec 64)) (hal : a.length = 6) (hml : m.length = 6) (h : ¬ m.getD 0 0 % 2 = 0) : V (MONT a b m) 6 < V m 6 ∧ V (MONT a b m) 6 * R6 % V m 6 = V a 6 * V b 6 % V m 6 := by
  have ho := odd_ne m h
  have hnz := odd_nz m ho
  have hpos := V_pos m hml hnz
  rw [MONT, if_neg h]
  by_cases hl : LT a m 6 = true
  · rw [if_pos hl]
    rw [LT_val] at hl
    exact MN_val a b m ho (of_decide_eq_true hl)
  · rw [if_neg hl]
    have hv := MOD_val (a ++ List.replicate 6 0) m hml hnz
    rw [V_app a hal] at hv
    have h1 := MN_val (MOD (a ++ List.replicate 6 0) m) b m ho (by rw [hv]; exact Nat.mod_lt _ hpos)
    refine ⟨h1.1, h1.2.trans ?_⟩
    rw [hv, Nat.mul_mod, Nat.mod_mod, ← Nat.mul_mod]
end Go.Proofs.Yteohckfbphdngaa
