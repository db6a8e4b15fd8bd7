/-
  Levels of a tree from the leaves up; branches sister by sister: no program is named.
-/
import Derived.Test.YtdkkipjcmflclaaDoorMT
namespace Go.Proofs.YtdkkipjcmflclaaDoor
section
variable {α : Type} (p : α → α → α) (z : α)
/-- The first nodes of the level above. -/
def UpK (r : α) (l : List α) (k : Nat) : List α := (List.range k).map fun i => p (l.getD (2 * i) r) (l.getD (2 * i + 1) r)
theorem UpK_len (r : α) (l : List α) (k : Nat) : (UpK p r l k).length = k := by rw [UpK, List.length_map, List.length_range]
theorem UpK_succ (r : α) (l : List α) (k : Nat) : UpK p r l (k + 1) = UpK p r l k ++ [p (l.getD (2 * k) r) (l.getD (2 * k + 1) r)] := by
  rw [UpK, List.range_succ, List.map_append]; rfl
def upL (r : α) (l : List α) : List α := UpK p r l ((l.length + 1) / 2)
theorem getD_ge {l : List α} {i : Nat} (r : α) (h : l.length ≤ i) : l.getD i r = r := by
  rw [List.getD_eq_getElem?_getD, List.getElem?_eq_none h]; rfl
theorem upL_getD (r : α) (l : List α) (i : Nat) : (upL p r l).getD i (p r r) = p (l.getD (2 * i) r) (l.getD (2 * i + 1) r) := by
  rcases Nat.lt_or_ge i ((l.length + 1) / 2) with h | h
  · rw [upL, UpK, List.getD_eq_getElem?_getD, List.getElem?_map, List.getElem?_range h]; rfl
  · rw [getD_ge _ (by rw [upL, UpK_len]; exact h), getD_ge r (show l.length ≤ 2 * i by omega), getD_ge r (show l.length ≤ 2 * i + 1 by omega)]
theorem upL_mem {Q : α → Prop} (hp : ∀ x y, Q (p x y)) (r : α) (l : List α) (k : Nat) : ∀ x ∈ UpK p r l k, Q x := fun x hx => by
  obtain ⟨i, _, rfl⟩ := List.mem_map.1 hx
  exact hp _ _
/-- The level so high. -/
def lev : Nat → List α → List α
  | 0, l => l
  | h + 1, l => upL p (zrT p z h) (lev h l)
theorem lev_getD : ∀ (h : Nat) (l : List α) (i : Nat), (lev p z h l).getD i (zrT p z h) = tre p z h (l.drop (i * 2 ^ h))
  | 0, l, i => by
    rw [lev, zrT, tre, Nat.pow_zero, Nat.mul_one, List.getD_eq_getElem?_getD, List.headD_eq_head?_getD, List.head?_drop]
  | h + 1, l, i => by
    rw [lev, zrT, upL_getD, lev_getD h, lev_getD h, tre, tre_take, List.drop_drop]
    rw [show 2 * i * 2 ^ h = i * 2 ^ (h + 1) from by rw [Nat.pow_succ, Nat.mul_comm 2 i, Nat.mul_assoc, Nat.mul_comm 2], show (2 * i + 1) * 2 ^ h = i * 2 ^ (h + 1) + 2 ^ h from by rw [Nat.add_mul, Nat.pow_succ, Nat.mul_comm 2 i, Nat.mul_assoc, Nat.mul_comm 2, Nat.one_mul]]
theorem lev_top (h : Nat) (l : List α) : (lev p z h l).getD 0 (zrT p z h) = tre p z h l := by rw [lev_getD, Nat.zero_mul]; rfl
theorem lev_len : ∀ (h : Nat) (l : List α), (lev p z h l).length ≤ l.length
  | 0, _ => Nat.le_refl _
  | h + 1, l => by rw [lev, upL, UpK_len]; have := lev_len h l; omega
end
end Go.Proofs.YtdkkipjcmflclaaDoor
