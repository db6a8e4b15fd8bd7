/-
  Trees of roots, branches, what a branch comes to: no program is named.
-/
import Derived.Test.YtfnnbaoilldpaaaDoorX1
namespace Go.Proofs.YtfnnbaoilldpaaaDoor
section
variable {α : Type} (p : α → α → α) (z : α)
/-- The root of a tree of noughts. -/
def zrT : Nat → α
  | 0 => z
  | d + 1 => p (zrT d) (zrT d)
/-- The root of a tree so deep over chunks. -/
def tre : Nat → List α → α
  | 0, l => l.headD z
  | d + 1, l => p (tre d (l.take (2 ^ d))) (tre d (l.drop (2 ^ d)))
theorem tre_nil : ∀ d, tre p z d [] = zrT p z d
  | 0 => rfl
  | d + 1 => by rw [tre, List.take_nil, List.drop_nil, tre_nil d, zrT]
/-- The sisters from the leaf up. -/
def brF : Nat → List α → Nat → List α
  | 0, _, _ => []
  | d + 1, l, i => bif i.testBit d then brF d (l.drop (2 ^ d)) i ++ [tre p z d (l.take (2 ^ d))] else brF d (l.take (2 ^ d)) i ++ [tre p z d (l.drop (2 ^ d))]
theorem brF_len : ∀ (d : Nat) (l : List α) (i : Nat), (brF p z d l i).length = d
  | 0, _, _ => rfl
  | d + 1, l, i => by
    rw [brF]
    cases i.testBit d <;> simp [brF_len d]
/-- What a branch comes to. -/
def stp (i k : Nat) (v x : α) : α := bif decide (k < 64) && i.testBit k then p x v else p v x
def fld (i : Nat) : Nat → α → List α → α
  | _, v, [] => v
  | k, v, x :: r => fld i (k + 1) (stp p i k v x) r
theorem fld_app (i : Nat) : ∀ (l : List α) (k : Nat) (v : α) (x : α), fld p i k v (l ++ [x]) = stp p i (k + l.length) (fld p i k v l) x
  | [], k, v, x => rfl
  | y :: l, k, v, x => by rw [List.cons_append, fld, fld_app i l, fld, List.length_cons]; congr 1; omega
theorem fld_take {i k : Nat} {b : List α} {x : α} (v : α) (h : b[k]? = some x) : fld p i 0 v (b.take (k + 1)) = stp p i k (fld p i 0 v (b.take k)) x := by
  have hk := (List.getElem?_eq_some_iff.1 h).1
  rw [List.take_add_one, h]
  show fld p i 0 v (b.take k ++ [x]) = _
  rw [fld_app, List.length_take, Nat.min_eq_left (by omega), Nat.zero_add]
theorem stp_t {i k : Nat} (v x : α) (hk : k < 64) (hb : i.testBit k = true) : stp p i k v x = p x v := by unfold stp; rw [decide_eq_true hk, hb]; rfl
theorem stp_f {i k : Nat} (v x : α) (hb : i.testBit k = false) : stp p i k v x = p v x := by unfold stp; rw [hb, Bool.and_false]; rfl
theorem stp_or (i k : Nat) (v x : α) : stp p i k v x = p x v ∨ stp p i k v x = p v x := by
  unfold stp
  cases decide (k < 64) && i.testBit k
  · exact .inr rfl
  · exact .inl rfl
theorem fld_len {Q : α → Prop} (hp : ∀ x y, Q (p x y)) {i : Nat} : ∀ (l : List α) (k : Nat) (v : α), Q v → Q (fld p i k v l)
  | [], _, _, h => h
  | x :: l, k, v, _ => by
    rw [fld]
    refine fld_len hp l _ _ ?_
    rcases stp_or p i k v x with h | h
    · rw [h]; exact hp _ _
    · rw [h]; exact hp _ _
theorem tre_take (d : Nat) (l : List α) : tre p z d (l.take (2 ^ d)) = tre p z d l := by
  induction d generalizing l with
  | zero => cases l <;> rfl
  | succ d ih =>
    have hp : 2 ^ (d + 1) = 2 ^ d + 2 ^ d := by rw [Nat.pow_succ]; omega
    have hpos : 0 < 2 ^ d := Nat.two_pow_pos d
    rw [tre, tre, List.take_take, Nat.min_eq_left (by rw [hp]; exact Nat.le_add_right _ _), List.drop_take, show 2 ^ (d + 1) - 2 ^ d = 2 ^ d from by rw [hp, Nat.add_sub_cancel], ih (l.drop (2 ^ d))]
end
/-- The depth of a limit. -/
def depG (n : Nat) : Nat → Nat
  | 0 => 62
  | f + 1 => if n ≤ 2 ^ (61 - f) then 61 - f else depG n f
def dep (n : Nat) : Nat := depG n 62
theorem depG_is (n : Nat) : ∀ f, f ≤ 62 → (∀ e, e < 62 - f → 2 ^ e < n) → depG n f ≤ 62 ∧ (depG n f = 62 ∨ n ≤ 2 ^ depG n f) ∧ ∀ e, e < depG n f → 2 ^ e < n
  | 0, _, h => ⟨Nat.le_refl _, .inl rfl, h⟩
  | f + 1, hf, h => by
    rw [depG]
    split
    · rename_i hn
      exact ⟨by omega, .inr hn, fun e he => h e (by omega)⟩
    · rename_i hn
      refine depG_is n f (by omega) fun e he => ?_
      by_cases e1 : e = 61 - f
      · subst e1; omega
      · exact h e (by omega)
theorem dep_is (n : Nat) : dep n ≤ 62 ∧ (dep n = 62 ∨ n ≤ 2 ^ dep n) ∧ ∀ e, e < dep n → 2 ^ e < n := depG_is n 62 (Nat.le_refl _) (fun e he => by omega)
theorem dep_of {n d : Nat} (h0 : d ≤ 62) (h1 : d = 62 ∨ n ≤ 2 ^ d) (h2 : ∀ e, e < d → 2 ^ e < n) : d = dep n := by
  obtain ⟨k0, k1, k2⟩ := dep_is n
  rcases Nat.lt_trichotomy d (dep n) with h | h | h
  · have := k2 d h
    rcases h1 with h1 | h1
    · omega
    · omega
  · exact h
  · have := h2 _ h
    rcases k1 with k1 | k1
    · omega
    · omega
end Go.Proofs.YtfnnbaoilldpaaaDoor
