/-
  Levels of a tree from the leaves up; branches sister by sister: no program is named.
-/
import Derived.Test.YtfnnbaoilldpaaaDoorMT
namespace Go.Proofs.YtfnnbaoilldpaaaDoor
section
variable {α : Type} (p : α → α → α) (z : α)
/-- The first nodes of the level above. -/
def UpK (r : α) (l : List α) (k : Nat) : List α := (List.range k).map fun i => p (l.getD (2 * i) r) (l.getD (2 * i + 1) r)
theorem UpK_len (r : α) (l : List α) (k : Nat) : (UpK p r l k).length = k := by rw [UpK, List.length_map, List.length_range]
theorem UpK_succ (r : α) (l : List α) (k : Nat) : UpK p r l (k + 1) = UpK p r l k ++ [p (l.getD (2 * k) r) (l.getD (2 * k + 1) r)] := by
  rw [UpK, List.range_succ, List.map_append]; rfl
def upL (r : α) (l : List α) : List α := UpK p r l ((l.length + 1) / 2)
theorem getD_ge {l : List α} {i : Nat} (r : α) (h : l.length ≤ i) : l.getD i r = r := by
  rw [List.getD_eq_getElem?_getD, List.getElem?_eq_none h]; rfl
theorem upL_getD (r : α) (l : List α) (i : Nat) : (upL p r l).getD i (p r r) = p (l.getD (2 * i) r) (l.getD (2 * i + 1) r) := by
  rcases Nat.lt_or_ge i ((l.length + 1) / 2) with h | h
  · rw [upL, UpK, List.getD_eq_getElem?_getD, List.getElem?_map, List.getElem?_range h]; rfl
  · rw [getD_ge _ (by rw [upL, UpK_len]; exact h), getD_ge r (show l.length ≤ 2 * i by omega), getD_ge r (show l.length ≤ 2 * i + 1 by omega)]
theorem upL_mem {Q : α → Prop} (hp : ∀ x y, Q (p x y)) (r : α) (l : List α) (k : Nat) : ∀ x ∈ UpK p r l k, Q x := fun x hx => by
  obtain ⟨i, _, rfl⟩ := List.mem_map.1 hx
  exact hp _ _
/-- The level so high. -/
def lev : Nat → List α → List α
  | 0, l => l
  | h + 1, l => upL p (zrT p z h) (lev h l)
theorem lev_getD : ∀ (h : Nat) (l : List α) (i : Nat), (lev p z h l).getD i (zrT p z h) = tre p z h (l.drop (i * 2 ^ h))
  | 0, l, i => by
    rw [lev, zrT, tre, Nat.pow_zero, Nat.mul_one, List.getD_eq_getElem?_getD, List.headD_eq_head?_getD, List.head?_drop]
  | h + 1, l, i => by
    rw [lev, zrT, upL_getD, lev_getD h, lev_getD h, tre, tre_take, List.drop_drop]
    rw [show 2 * i * 2 ^ h = i * 2 ^ (h + 1) from by rw [Nat.pow_succ, Nat.mul_comm 2 i, Nat.mul_assoc, Nat.mul_comm 2], show (2 * i + 1) * 2 ^ h = i * 2 ^ (h + 1) + 2 ^ h from by rw [Nat.add_mul, Nat.pow_succ, Nat.mul_comm 2 i, Nat.mul_assoc, Nat.mul_comm 2, Nat.one_mul]]
theorem lev_top (h : Nat) (l : List α) : (lev p z h l).getD 0 (zrT p z h) = tre p z h l := by rw [lev_getD, Nat.zero_mul]; rfl
theorem lev_len : ∀ (h : Nat) (l : List α), (lev p z h l).length ≤ l.length
  | 0, _ => Nat.le_refl _
  | h + 1, l => by rw [lev, upL, UpK_len]; have := lev_len h l; omega
theorem tre_drop_take (d h s : Nat) (l : List α) (hs : s * 2 ^ h + 2 ^ h ≤ 2 ^ d) : tre p z h ((l.take (2 ^ d)).drop (s * 2 ^ h)) = tre p z h (l.drop (s * 2 ^ h)) := by
  rw [List.drop_take, ← tre_take, List.take_take, Nat.min_eq_left (by omega), tre_take]
/-- The sister's place. -/
def sis (q : Nat) : Nat := bif q.testBit 0 then q - 1 else q + 1
theorem sis_add (q m : Nat) : sis (2 * m + q) = 2 * m + sis q := by
  unfold sis
  have e : (2 * m + q).testBit 0 = q.testBit 0 := by simp [Nat.testBit_zero]
  rw [e]
  cases hb : q.testBit 0
  · simp only [cond_false]; omega
  · have : q % 2 = 1 := by simpa [Nat.testBit_zero] using hb
    simp only [cond_true]; omega
theorem sis_lt {q m : Nat} (h : q < 2 * m) : sis q < 2 * m := by
  unfold sis
  cases hb : q.testBit 0
  · have : q % 2 = 0 := by simpa [Nat.testBit_zero] using hb
    simp only [cond_false]; omega
  · simp only [cond_true]; omega
theorem brF_get (i : Nat) : ∀ (d : Nat) (l : List α) (h : Nat), h < d → (brF p z d l i)[h]? = some (tre p z h (l.drop (sis (i % 2 ^ d / 2 ^ h) * 2 ^ h)))
  | 0, _, _, hh => by omega
  | d + 1, l, h, hh => by
    have hp : 2 ^ (d + 1) = 2 ^ d + 2 ^ d := by rw [Nat.pow_succ]; omega
    have hpos : 0 < 2 ^ d := Nat.two_pow_pos d
    have hlt : i % 2 ^ d < 2 ^ d := Nat.mod_lt _ hpos
    have hm : i % 2 ^ (d + 1) = (i.testBit d).toNat * 2 ^ d + i % 2 ^ d := by
      rw [Nat.pow_succ, Nat.mod_mul, Nat.testBit_eq_decide_div_mod_eq, Nat.add_comm, Nat.mul_comm]
      congr 2
      have := Nat.mod_lt (i / 2 ^ d) (show 0 < 2 by decide)
      by_cases h : i / 2 ^ d % 2 = 1
      · simp [h]
      · simp [h]; omega
    rw [brF]
    rcases Nat.lt_or_ge h d with hd | hd
    · obtain ⟨e, rfl⟩ : ∃ e, d = h + 1 + e := ⟨d - (h + 1), by omega⟩
      have h2 : 2 ^ (h + 1 + e) = 2 * 2 ^ e * 2 ^ h := by rw [Nat.pow_add, Nat.pow_succ, Nat.mul_comm (2 ^ h) 2, Nat.mul_assoc, Nat.mul_assoc, Nat.mul_comm (2 ^ e)]
      have hq : i % 2 ^ (h + 1 + e) / 2 ^ h < 2 * 2 ^ e := by
        rw [Nat.div_lt_iff_lt_mul (Nat.two_pow_pos h), ← h2]; exact hlt
      cases hb : i.testBit (h + 1 + e) with
      | true =>
        rw [cond_true, List.getElem?_append_left (by rw [brF_len]; omega), brF_get i _ _ h hd, hm, hb, List.drop_drop]
        have e1 : (Bool.toNat true * 2 ^ (h + 1 + e) + i % 2 ^ (h + 1 + e)) / 2 ^ h = 2 * 2 ^ e + i % 2 ^ (h + 1 + e) / 2 ^ h := by
          rw [Bool.toNat_true, Nat.one_mul, h2, Nat.add_comm, Nat.add_mul_div_right _ _ (Nat.two_pow_pos h), Nat.add_comm]
        rw [e1, sis_add, Nat.add_mul, ← h2]
      | false =>
        rw [cond_false, List.getElem?_append_left (by rw [brF_len]; omega), brF_get i _ _ h hd, hm, hb]
        have e1 : Bool.toNat false * 2 ^ (h + 1 + e) + i % 2 ^ (h + 1 + e) = i % 2 ^ (h + 1 + e) := by simp
        rw [e1, tre_drop_take]
        have hs := sis_lt hq
        have h3 := Nat.mul_le_mul_right (2 ^ h) (Nat.succ_le_of_lt hs)
        rw [← h2, Nat.succ_mul] at h3
        exact h3
    · obtain rfl : h = d := by omega
      have hz : i % 2 ^ h / 2 ^ h = 0 := Nat.div_eq_of_lt hlt
      cases hb : i.testBit h with
      | true =>
        rw [cond_true, List.getElem?_append_right (by rw [brF_len]; exact Nat.le_refl _), brF_len, Nat.sub_self, hm, hb, Bool.toNat_true, Nat.one_mul, Nat.add_comm, Nat.add_div_right _ hpos, hz, tre_take]
        show some _ = some (tre p z h (l.drop (0 * 2 ^ h)))
        rw [Nat.zero_mul]; rfl
      | false =>
        rw [cond_false, List.getElem?_append_right (by rw [brF_len]; exact Nat.le_refl _), brF_len, Nat.sub_self, hm, hb, Bool.toNat_false, Nat.zero_mul, Nat.zero_add, hz]
        show some _ = some (tre p z h (l.drop (1 * 2 ^ h)))
        rw [Nat.one_mul]
/-- The branch, from the leaf up, so far. -/
theorem brF_take (i d : Nat) (l : List α) (h : Nat) (hh : h < d) : (brF p z d l i).take (h + 1) = (brF p z d l i).take h ++ [(lev p z h l).getD (sis (i % 2 ^ d / 2 ^ h)) (zrT p z h)] := by
  rw [List.take_add_one, brF_get p z i d l h hh, lev_getD]; rfl
end
end Go.Proofs.YtfnnbaoilldpaaaDoor
