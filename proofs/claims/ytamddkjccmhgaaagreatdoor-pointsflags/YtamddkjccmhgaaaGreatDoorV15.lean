/-
  Other settings of the flags of a right encoding.
-/
import Derived.Test.YtamddkjccmhgaaaGreatDoorV13
namespace Go.Proofs.YtamddkjccmhgaaaGreatDoor
open Go.RowKit
set_option maxRecDepth 100000
theorem x0_sl (y : Zp) : E1.Sl (0, y) (0, y) 0 := by
  constructor
  · show (0 : Zp) * (0 + -0) = y + -y
    rw [z_0m]; grind
  · show (0 : Zp) * (y + y) = 0 * 0 + 0 * 0 + 0 * 0
    rw [z_0m, z_0m, z_00, z_00]
theorem x0_th (y : Zp) : E1.th (0, y) (0, y) 0 = (0, -y) := by
  refine Prod.ext ?_ ?_
  · show (0 : Zp) * 0 + -0 + -0 = 0
    rw [z_0m, z_n0', z_00, z_00]
  · show (0 : Zp) * (0 + -(0 * 0 + -0 + -0)) + -y = -y
    rw [z_0m]; grind
theorem t1 {α : Type} [DecidableEq α] (C : Ec α) (P : Pt α) : C.times P 1 = P := by cases P <;> rfl
theorem t2 {α : Type} [DecidableEq α] (C : Ec α) {P : Pt α} (hP : C.onP P) : C.times P 2 = C.ad P P := by
  rw [show 2 = 1 + 1 from rfl, C.times_add hP, t1]
/-- A point of which so few times are none is none of an order that leaves 1. -/
theorem t_left {α : Type} [DecidableEq α] (C : Ec α) {P : Pt α} (hP : C.onP P) {d m k : Nat} (hd : C.times P d = none) (hk : k = d * m + 1) : C.times P k = P := by
  rw [hk, C.times_add hP, C.times_mul hP, hd, C.times_none, t1]; rfl
theorem ORD_3 : ORD = 3 * (ORD / 3) + 1 := by decide +kernel
theorem ORD_2 : ORD = 2 * (ORD / 2) + 1 := by decide +kernel
theorem y_ne0 {x y : Zp} (on : E1.on (x, y)) (g : E1.times (some (x, y)) ORD = none) : y ≠ 0 := by
  intro h
  have hP : E1.onP (some (x, y)) := on
  have hd : E1.times (some (x, y)) 2 = none := by
    rw [t2 E1 hP]
    exact E1.ad_opp ⟨rfl, by show y + y = (0 : Zp); rw [h]; exact z_00⟩
  have e := t_left E1 hP hd ORD_2
  rw [g] at e
  cases e
theorem x0_out {y : Zp} (on : E1.on (0, y)) (hy : y ≠ 0) : ¬ E1.times (some (0, y)) ORD = none := by
  intro g
  have hP : E1.onP (some (0, y)) := on
  have ho : ¬ E1.opp (0, y) (0, y) := fun h => hy (E1.dbl0 h.2)
  have h2 : E1.times (some (0, y)) 2 = E1.ne (some (0, y)) := by
    rw [t2 E1 hP, E1.ad_sl on on ho (x0_sl y), x0_th]; rfl
  have h3 : E1.times (some (0, y)) 3 = none := by
    rw [show 3 = 1 + 2 from rfl, E1.times_add hP, t1, h2]
    exact E1.ad_ne _
  have e := t_left E1 hP h3 ORD_3
  rw [g] at e
  cases e
theorem x_ne0 {x y : Zp} (on : E1.on (x, y)) (g : E1.times (some (x, y)) ORD = none) : x ≠ 0 := by
  intro h
  have hy := y_ne0 on g
  subst h
  exact x0_out on hy g
/-- What other flags come to. -/
def FlgR (P : Pt Zp) (b0 b : BitVec 8) (c : Int) (Q : Pt Zp) : Prop :=
  (b = b0 ∧ c = 0 ∧ Q = P) ∨ (¬ b = b0 ∧ b = b0 ^^^ 32#8 ∧ ¬ P = none ∧ c = 0 ∧ Q = E1.ne P) ∨ (¬ b = b0 ∧ ¬ b = b0 ^^^ 32#8 ∧ c = 101) ∨ (¬ b = b0 ∧ b = b0 ^^^ 32#8 ∧ P = none ∧ c = 101) ∨ (¬ b = b0 ∧ ¬ b = b0 ^^^ 32#8 ∧ P = none ∧ b &&& 192#8 = 128#8 ∧ c = 104)
theorem bv8 : ∀ f : BitVec 8, f &&& 224#8 = 0#8 ∨ f &&& 224#8 = 32#8 ∨ f &&& 224#8 = 64#8 ∨ f &&& 224#8 = 96#8 ∨ f &&& 224#8 = 128#8 ∨ f &&& 224#8 = 160#8 ∨ f &&& 224#8 = 192#8 ∨ f &&& 224#8 = 224#8 := by decide +kernel
def Z48 (b : BitVec 8) : List (BitVec 8) := (List.replicate 48 0#8).set 0 b
theorem on_2 : E1.on (0, zp 2) := by show zp 2 * zp 2 = 0 * (0 * 0) + zp 4; decide +kernel
theorem on_m2 : E1.on (0, -zp 2) := by show -zp 2 * -zp 2 = 0 * (0 * 0) + zp 4; decide +kernel
theorem Z_128 : EN1 (some (0, zp 2)) = Z48 128#8 := by rw [EN1_s, by48_0, show LG2 (zp 2, 0) = false from by decide +kernel]; rfl
theorem Z_160 : EN1 (some (0, -zp 2)) = Z48 160#8 := by rw [EN1_s, by48_0, show LG2 (-zp 2, 0) = true from by decide +kernel]; rfl
theorem dz {b : BitVec 8} (h : (b &&& 224#8) &&& 128#8 = 0#8) : D1 (Z48 b) 101 none := .inr ⟨by simp [Z48], .inl ⟨h, rfl, rfl⟩⟩
theorem dz224 : D1 (Z48 224#8) 101 none := .inr ⟨by decide, .inr ⟨by decide, .inl ⟨by decide, by decide +kernel, rfl⟩⟩⟩
theorem flg_none (f : BitVec 8) : ∃ c Q, D1 (Z48 (f &&& 224#8)) c Q ∧ FlgR none 192#8 (f &&& 224#8) c Q := by
  rcases bv8 f with h | h | h | h | h | h | h | h <;> rw [h]
  · exact ⟨101, none, dz (by decide), .inr (.inr (.inl ⟨by decide, by decide, rfl⟩))⟩
  · exact ⟨101, none, dz (by decide), .inr (.inr (.inl ⟨by decide, by decide, rfl⟩))⟩
  · exact ⟨101, none, dz (by decide), .inr (.inr (.inl ⟨by decide, by decide, rfl⟩))⟩
  · exact ⟨101, none, dz (by decide), .inr (.inr (.inl ⟨by decide, by decide, rfl⟩))⟩
  · exact ⟨104, none, Z_128 ▸ D1_out (P := some (0, zp 2)) on_2 (x0_out on_2 (by decide +kernel)), .inr (.inr (.inr (.inr ⟨by decide, by decide, rfl, by decide, rfl⟩)))⟩
  · exact ⟨104, none, Z_160 ▸ D1_out (P := some (0, -zp 2)) on_m2 (x0_out on_m2 (by decide +kernel)), .inr (.inr (.inr (.inr ⟨by decide, by decide, rfl, by decide, rfl⟩)))⟩
  · exact ⟨0, none, D1_none, .inl ⟨rfl, rfl, rfl⟩⟩
  · exact ⟨101, none, dz224, .inr (.inr (.inr (.inl ⟨by decide, by decide, rfl, rfl⟩)))⟩
def B0 (t : BitVec 8) (l : Bool) : BitVec 8 := bif l then (t ||| 128#8) ||| 32#8 else t ||| 128#8
theorem ENF_B0 (t : BitVec 8) (r : List (BitVec 8)) (l : Bool) : ENF (t :: r) l = B0 t l :: r := by cases l <;> rfl
theorem B0_31 : ∀ t : BitVec 8, t &&& 224#8 = 0#8 → ∀ l : Bool, B0 t l &&& 31#8 = t := by decide +kernel
theorem B0_not : ∀ t : BitVec 8, t &&& 224#8 = 0#8 → ∀ l : Bool, ¬ B0 t (!l) = B0 t l ∧ B0 t (!l) = B0 t l ^^^ 32#8 := by decide +kernel
theorem B0_160 : ∀ t : BitVec 8, t ||| 160#8 = B0 t true := by decide +kernel
theorem B0_ne : ∀ t : BitVec 8, t &&& 224#8 = 0#8 → ∀ l : Bool, ∀ g ∈ [0#8, 32#8, 64#8, 96#8, 192#8, 224#8], ¬ t ||| g = B0 t l ∧ ¬ t ||| g = B0 t l ^^^ 32#8 := by decide +kernel
theorem g_low : ∀ t : BitVec 8, t &&& 224#8 = 0#8 → ∀ g ∈ [0#8, 32#8, 64#8, 96#8], ((t ||| g) &&& 224#8) &&& 128#8 = 0#8 := by decide +kernel
theorem g_high : ∀ t : BitVec 8, t &&& 224#8 = 0#8 → ∀ g ∈ [192#8, 224#8], ¬ ((t ||| g) &&& 224#8) &&& 128#8 = 0#8 ∧ ¬ ((t ||| g) &&& 224#8) &&& 64#8 = 0#8 ∧ (t ||| g) &&& 31#8 = t ∧ (g = 224#8 → ¬ ((t ||| g) &&& 224#8) &&& 32#8 = 0#8) := by decide +kernel
theorem by48_nz {x : Zp} (hx : x ≠ 0) : ¬ ∀ j, j < 48 → (by48 x).getD j 0 = 0#8 := fun h => by
  apply hx
  apply by48_inj.1
  rw [by48_0]
  refine List.eq_replicate_iff.2 ⟨by48_len x, fun b hb => ?_⟩
  obtain ⟨i, hi, e⟩ := List.getElem_of_mem hb
  have hi' : i < 48 := by rw [by48_len] at hi; exact hi
  have k := h i hi'
  rw [List.getD_eq_getElem?_getD, List.getElem?_eq_getElem hi] at k
  rw [← e]; exact k
theorem flg_low {t g : BitVec 8} {r : List (BitVec 8)} (hr : (t :: r).length = 48) (h : ((t ||| g) &&& 224#8) &&& 128#8 = 0#8) : D1 ((t ||| g) :: r) 101 none := .inr ⟨hr, .inl ⟨h, rfl, rfl⟩⟩
theorem flg_high {t g : BitVec 8} {r : List (BitVec 8)} (hr : (t :: r).length = 48) (h1 : ¬ ((t ||| g) &&& 224#8) &&& 128#8 = 0#8) (h2 : ¬ ((t ||| g) &&& 224#8) &&& 64#8 = 0#8) (h3 : (t ||| g) &&& 31#8 = t) (h4 : (∀ j, j < 48 → (t :: r).getD j 0 = 0#8) → ¬ ((t ||| g) &&& 224#8) &&& 32#8 = 0#8) : D1 ((t ||| g) :: r) 101 none := by
  refine .inr ⟨hr, .inr ⟨h1, .inl ⟨h2, ?_, rfl⟩⟩⟩
  have e : MK ((t ||| g) :: r) = t :: r := by rw [MK_c, h3]
  symm
  refine if_neg fun h => ?_
  rw [e] at h
  exact h4 h.1 h.2
theorem flg_some {x y : Zp} (on : E1.on (x, y)) (hg : E1.times (some (x, y)) ORD = none) (f : BitVec 8) : ∃ c Q, D1 ((EN1 (some (x, y))).set 0 (((EN1 (some (x, y))).getD 0 0 &&& 31#8) ||| (f &&& 224#8))) c Q ∧ FlgR (some (x, y)) ((EN1 (some (x, y))).getD 0 0) (((EN1 (some (x, y))).getD 0 0 &&& 31#8) ||| (f &&& 224#8)) c Q := by
  have hx := x_ne0 on hg
  have hy := y_ne0 on hg
  have htop := by48_top x
  have hlen := by48_len x
  have hnz := by48_nz hx
  have hin := D1_in (P := some (x, y)) on hg
  have hin' := D1_in (P := E1.ne (some (x, y))) (E1.ne_on (P := some (x, y)) on) (ord1_neg (p := cA1 (some (x, y)) on) hg)
  have e1 : EN1 (some (x, y)) = ENF (by48 x) (LG2 (y, 0)) := rfl
  have e2 : EN1 (E1.ne (some (x, y))) = ENF (by48 x) (LG2 (-y, 0)) := rfl
  rw [LG_negr hy] at e2
  revert e1 e2 hin hin'
  generalize EN1 (E1.ne (some (x, y))) = A2
  generalize EN1 (some (x, y)) = A
  generalize LG2 (y, 0) = l
  revert htop hlen hnz
  generalize by48 x = B
  intro htop hlen hnz hin hin' e1 e2
  cases B with
  | nil => cases hlen
  | cons t r =>
    have ht : t &&& 224#8 = 0#8 := htop.lt
    rw [ENF_B0] at e1 e2
    subst e1
    subst e2
    show ∃ c Q, D1 (((B0 t l &&& 31#8) ||| (f &&& 224#8)) :: r) c Q ∧ FlgR (some (x, y)) (B0 t l) ((B0 t l &&& 31#8) ||| (f &&& 224#8)) c Q
    rw [B0_31 t ht l]
    have low : ∀ g ∈ [0#8, 32#8, 64#8, 96#8], ∃ c Q, D1 ((t ||| g) :: r) c Q ∧ FlgR (some (x, y)) (B0 t l) (t ||| g) c Q := fun g hgm => by
      have k := B0_ne t ht l g (by
        simp only [List.mem_cons, List.not_mem_nil, or_false] at hgm ⊢
        rcases hgm with h | h | h | h
        · exact .inl h
        · exact .inr (.inl h)
        · exact .inr (.inr (.inl h))
        · exact .inr (.inr (.inr (.inl h))))
      exact ⟨101, none, flg_low hlen (g_low t ht g hgm), .inr (.inr (.inl ⟨k.1, k.2, rfl⟩))⟩
    have same : ∀ l', ∃ c Q, D1 (B0 t l' :: r) c Q ∧ FlgR (some (x, y)) (B0 t l) (B0 t l') c Q := fun l' => by
      by_cases h : l' = l
      · rw [h]; exact ⟨0, _, hin, .inl ⟨rfl, rfl, rfl⟩⟩
      · have h : l' = !l := by cases l <;> cases l' <;> first | rfl | exact absurd rfl h
        rw [h]
        have k := B0_not t ht l
        exact ⟨0, _, hin', .inr (.inl ⟨k.1, k.2, (fun h => by cases h), rfl, rfl⟩)⟩
    have hi : ∀ g ∈ [192#8, 224#8], ∃ c Q, D1 ((t ||| g) :: r) c Q ∧ FlgR (some (x, y)) (B0 t l) (t ||| g) c Q := fun g hgm => by
      have k := B0_ne t ht l g (by
        simp only [List.mem_cons, List.not_mem_nil, or_false] at hgm ⊢
        rcases hgm with h | h
        · exact .inr (.inr (.inr (.inr (.inl h))))
        · exact .inr (.inr (.inr (.inr (.inr h)))))
      obtain ⟨h1, h2, h3, h4⟩ := g_high t ht g hgm
      exact ⟨101, none, flg_high hlen h1 h2 h3 (fun h => absurd h hnz), .inr (.inr (.inl ⟨k.1, k.2, rfl⟩))⟩
    rcases bv8 f with h | h | h | h | h | h | h | h <;> rw [h]
    · exact low _ (by decide)
    · exact low _ (by decide)
    · exact low _ (by decide)
    · exact low _ (by decide)
    · exact same false
    · rw [B0_160]; exact same true
    · exact hi _ (by decide)
    · exact hi _ (by decide)
theorem flg_all {P : Pt Zp} (on : E1.onP P) (hg : E1.times P ORD = none) (f : BitVec 8) : ∃ c Q, D1 ((EN1 P).set 0 (((EN1 P).getD 0 0 &&& 31#8) ||| (f &&& 224#8))) c Q ∧ FlgR P ((EN1 P).getD 0 0) (((EN1 P).getD 0 0 &&& 31#8) ||| (f &&& 224#8)) c Q := by
  cases P with
  | none =>
    have e : ((EN1 none).getD 0 0 &&& 31#8) ||| (f &&& 224#8) = f &&& 224#8 := by
      rw [show (EN1 none).getD 0 0 &&& 31#8 = 0#8 from by decide, BitVec.zero_or]
    rw [e]
    exact flg_none f
  | some p => exact flg_some (x := p.1) (y := p.2) on hg f
end Go.Proofs.YtamddkjccmhgaaaGreatDoor
