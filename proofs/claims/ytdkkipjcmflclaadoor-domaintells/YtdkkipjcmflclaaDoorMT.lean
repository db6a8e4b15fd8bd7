/-
  Trees of roots, branches, what a branch comes to: no program is named.
-/
import Derived.Test.YtdkkipjcmflclaaDoorX1
namespace Go.Proofs.YtdkkipjcmflclaaDoor
section
variable {α : Type} (p : α → α → α) (z : α)
/-- The root of a tree of noughts. -/
def zrT : Nat → α
  | 0 => z
  | d + 1 => p (zrT d) (zrT d)
/-- The root of a tree so deep over chunks. -/
def tre : Nat → List α → α
  | 0, l => l.headD z
  | d + 1, l => p (tre d (l.take (2 ^ d))) (tre d (l.drop (2 ^ d)))
theorem tre_nil : ∀ d, tre p z d [] = zrT p z d
  | 0 => rfl
  | d + 1 => by rw [tre, List.take_nil, List.drop_nil, tre_nil d, zrT]
theorem tre_take (d : Nat) (l : List α) : tre p z d (l.take (2 ^ d)) = tre p z d l := by
  induction d generalizing l with
  | zero => cases l <;> rfl
  | succ d ih =>
    have hp : 2 ^ (d + 1) = 2 ^ d + 2 ^ d := by rw [Nat.pow_succ]; omega
    have hpos : 0 < 2 ^ d := Nat.two_pow_pos d
    rw [tre, tre, List.take_take, Nat.min_eq_left (by rw [hp]; exact Nat.le_add_right _ _), List.drop_take, show 2 ^ (d + 1) - 2 ^ d = 2 ^ d from by rw [hp, Nat.add_sub_cancel], ih (l.drop (2 ^ d))]
end
/-- The depth of a limit. -/
def depG (n : Nat) : Nat → Nat
  | 0 => 62
  | f + 1 => if n ≤ 2 ^ (61 - f) then 61 - f else depG n f
def dep (n : Nat) : Nat := depG n 62
theorem depG_is (n : Nat) : ∀ f, f ≤ 62 → (∀ e, e < 62 - f → 2 ^ e < n) → depG n f ≤ 62 ∧ (depG n f = 62 ∨ n ≤ 2 ^ depG n f) ∧ ∀ e, e < depG n f → 2 ^ e < n
  | 0, _, h => ⟨Nat.le_refl _, .inl rfl, h⟩
  | f + 1, hf, h => by
    rw [depG]
    split
    · rename_i hn
      exact ⟨by omega, .inr hn, fun e he => h e (by omega)⟩
    · rename_i hn
      refine depG_is n f (by omega) fun e he => ?_
      by_cases e1 : e = 61 - f
      · subst e1; omega
      · exact h e (by omega)
theorem dep_is (n : Nat) : dep n ≤ 62 ∧ (dep n = 62 ∨ n ≤ 2 ^ dep n) ∧ ∀ e, e < dep n → 2 ^ e < n := depG_is n 62 (Nat.le_refl _) (fun e he => by omega)
theorem dep_of {n d : Nat} (h0 : d ≤ 62) (h1 : d = 62 ∨ n ≤ 2 ^ d) (h2 : ∀ e, e < d → 2 ^ e < n) : d = dep n := by
  obtain ⟨k0, k1, k2⟩ := dep_is n
  rcases Nat.lt_trichotomy d (dep n) with h | h | h
  · have := k2 d h
    rcases h1 with h1 | h1
    · omega
    · omega
  · exact h
  · have := h2 _ h
    rcases k1 with k1 | k1
    · omega
    · omega
end Go.Proofs.YtdkkipjcmflclaaDoor
