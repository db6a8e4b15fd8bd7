/-
  The document's numbers as bytes, and its reader.
-/
import Derived.Test.YtlaanjcnfindnaaTC
namespace Go.Proofs.Ytlaanjcnfindnaa
open Go.RowKit
set_option maxRecDepth 100000
set_option maxHeartbeats 1000000

/-- What is known of a slice that was appended to, from a world on. -/
structure Ap8 (w0 : World) (a0 : Option Addr) (w : World) (a : Option Addr) (cap : Nat) (xs : List (BitVec 8)) : Prop where
  g : Gt w
  m : MM (Of a0) w0 w
  s : SlV 5 w a cap (xs.map U8)
  o : ∀ k, Of a k → Of a0 k ∨ w0.heap.size ≤ k
theorem Ap8.low {w0 w : World} {a0 a : Option Addr} {cap : Nat} {xs : List (BitVec 8)} (h : Ap8 w0 a0 w a cap xs) (hl : ∀ k, Of a0 k → 0 ≤ k) (hw : Gt w0) : ∀ k, Of a k → 0 ≤ k := fun k hk => by
  rcases h.o k hk with h1 | h1
  · exact hl k h1
  · exact Nat.le_trans (gt_low.size w0 hw) h1
theorem Ap8.grow {w0 w w1 : World} {a0 a : Option Addr} {cap : Nat} {xs : List (BitVec 8)} (h : Ap8 w0 a0 w a cap xs) (hg : Grow w w1) : Ap8 w0 a0 w1 a cap xs := ⟨gt_low.grow h.g hg, h.m.trans (grow_mm hg), h.s.grow hg, h.o⟩
theorem Ap8.next {w0 w w1 w2 : World} {a0 a a1 : Option Addr} {cap cap1 : Nat} {xs ys : List (BitVec 8)} (h : Ap8 w0 a0 w a cap xs) (hg : Grow w w1) (g2 : Gt w2) (hm : MM (Of a) w1 w2) (hs : SlV 5 w2 a1 cap1 (ys.map U8)) (ho : ∀ k, Of a1 k → Of a k ∨ w1.heap.size ≤ k) : Ap8 w0 a0 w2 a1 cap1 ys where
  g := g2
  m := (h.m.trans (grow_mm hg)).trans' hm fun k hk hl => (h.o k hk).resolve_right (by omega)
  s := hs
  o := fun k hk => by
    rcases ho k hk with h1 | h1
    · exact h.o k h1
    · exact .inr (Nat.le_trans h.m.size (Nat.le_trans hg.size h1))
theorem le_bit (n : BitVec 64) (k i : Nat) (hi : i < 64) : ((((n >>> (8 * k)).setWidth 8).setWidth 64) <<< (8 * k)).getLsbD i = (decide (8 * k ≤ i ∧ i < 8 * k + 8) && n.getLsbD i) := by
  simp only [BitVec.getLsbD_shiftLeft, BitVec.getLsbD_setWidth, BitVec.getLsbD_ushiftRight]
  by_cases h1 : i < 8 * k
  · simp [h1]; omega
  · by_cases h2 : i < 8 * k + 8
    · rw [show 8 * k + (i - 8 * k) = i from by omega]
      simp [hi, h1, h2, show i - 8 * k < 8 from by omega, show 8 * k ≤ i from by omega, show i - 8 * k < 64 from by omega]
    · simp [hi, h1, h2]
      omega
theorem le_pn' (n : BitVec 64) : ∀ (k : Nat), k ≤ 8 → ∀ i, i < 64 → (pn (le8 n 8) k).getLsbD i = (decide (i < 8 * k) && n.getLsbD i)
  | 0, _, i, hi => by simp [pn]
  | k + 1, hk, i, hi => by
    have e : (le8 n 8).getD k 0#8 = (n >>> (8 * k)).setWidth 8 := by simp [le8, List.getD_eq_getElem?_getD]; rw [List.getElem?_range (by omega)]; rfl
    rw [pn, BitVec.getLsbD_or, le_pn' n k (by omega) i hi, e, le_bit n k i hi]
    by_cases h1 : i < 8 * k <;> by_cases h2 : i < 8 * (k + 1) <;> cases n.getLsbD i <;> simp [h1, h2] <;> omega
theorem le_pn (n : BitVec 64) : pn (le8 n 8) 8 = n := BitVec.eq_of_getLsbD_eq fun i hi => by rw [le_pn' n 8 (by omega) i hi]; simp; omega
theorem got_le (bs : List (BitVec 8)) (e : Int) (m : Nat) : (got bs e m).length ≤ m := by
  unfold got
  split
  · rw [List.length_take]; omega
  · exact Nat.zero_le _
/-- Bits that were appended, from a world on. -/
structure ApB (w0 w : World) (a : Option Addr) (cap : Nat) (xs : List Bool) : Prop where
  g : Gt w
  m : Grow w0 w
  s : SlV 4 w a cap (xs.map .bool)
  o : New w0 a
theorem ApB.low {w0 w : World} {a : Option Addr} {cap : Nat} {xs : List Bool} (h : ApB w0 w a cap xs) (hw : Gt w0) : ∀ k, Of a k → 0 ≤ k := fun k ⟨ad, e, hk⟩ => by
  subst hk; exact Nat.le_trans (gt_low.size w0 hw) (h.o ad e)
theorem ApB.next {w0 w w1 w2 : World} {a a1 : Option Addr} {cap cap1 : Nat} {xs ys : List Bool} (h : ApB w0 w a cap xs) (hg : Grow w w1) (g2 : Gt w2) (hm : MM (Of a) w1 w2) (hs : SlV 4 w2 a1 cap1 (ys.map .bool)) (ho : ∀ k, Of a1 k → Of a k ∨ w1.heap.size ≤ k) : ApB w0 w2 a1 cap1 ys where
  g := g2
  m := hm.grow0 (h.m.trans hg) fun k ⟨ad, e, hk⟩ => by subst hk; exact h.o ad e
  s := hs
  o := fun ad e => by
    rcases ho ad.block ⟨ad, e, rfl⟩ with ⟨ad2, e2, e3⟩ | h1
    · rw [e3]; exact h.o ad2 e2
    · exact Nat.le_trans h.m.size (Nat.le_trans hg.size h1)
end Go.Proofs.Ytlaanjcnfindnaa
