/-
  The law of writing.
-/
import Derived.Test.YtjifjpcgdkepkaaTI
namespace Go.Proofs.Ytjifjpcgdkepkaa
open Go.RowKit
set_option maxRecDepth 100000
set_option maxHeartbeats 1000000

/-- A writer none of whose pieces lie where T says. -/
def WrX (T : Nat → Prop) (w : World) (b : Nat) (xs : List (BitVec 8)) : Prop := ∃ S, WrAt S w b xs ∧ (∀ k, S k → k < w.heap.size) ∧ ∀ k, T k → ¬ S k
theorem WrX.lt {T : Nat → Prop} {w : World} {b : Nat} {xs : List (BitVec 8)} (h : WrX T w b xs) : b < w.heap.size := by
  obtain ⟨S, h1, _⟩ := h
  exact h1.lt
theorem WrX.mm {T M : Nat → Prop} {w w' : World} {b : Nat} {xs : List (BitVec 8)} (h : WrX T w b xs) (hm : MM M w w') (hb : ¬ M b) (hM : ∀ k, M k → T k) : WrX T w' b xs := by
  obtain ⟨S, h1, h2, h3⟩ := h
  exact ⟨S, h1.mm hm hb (fun k hk => ⟨fun h => h3 k (hM k h) hk, hk⟩) h1.out, fun k hk => Nat.lt_of_lt_of_le (h2 k hk) hm.size, h3⟩
theorem WrX.grow {T : Nat → Prop} {w w' : World} {b : Nat} {xs : List (BitVec 8)} (h : WrX T w b xs) (hg : Grow w w') : WrX T w' b xs := h.mm (M := fun _ => False) (grow_mm hg) id (fun _ h => h.elim)
theorem WrX.sub {T T' : Nat → Prop} {w : World} {b : Nat} {xs : List (BitVec 8)} (h : WrX T w b xs) (hT : ∀ k, T' k → T k ∨ w.heap.size ≤ k) : WrX T' w b xs := by
  obtain ⟨S, h1, h2, h3⟩ := h
  exact ⟨S, h1, h2, fun k hk hs => (hT k hk).elim (fun h => h3 k h hs) (fun h => by have := h2 k hs; omega)⟩
theorem wuX (T : Nat → Prop) (b : Nat) (xs : List (BitVec 8)) (n : BitVec 64) (hl : xs.length ≤ 1000000) (w : World) (hw : Gt w) (hbl : 0 ≤ b) (hr : WrX T w b xs) (hT : ∀ k, T k → k < w.heap.size)  : Calls Try.prog 10 [.pointer (some ⟨b, 0, none⟩), U64 n].toArray w (fun r w' => ∃ v, r = .returned v ∧ MM (fun k => k = b) w w' ∧ WrX T w' b (xs ++ le8 n 8)) := by
  obtain ⟨S, h1, h2, h3⟩ := hr
  exact (wu_calls S b xs n hl w hw hbl h1).mono fun r w' ⟨q1, q2, q3⟩ => ⟨_, q1, q2, _, q3, fun k hk => hk.elim (fun h => Nat.lt_of_lt_of_le (h2 k h) q2.size) (fun h => h.2), fun k hk hs => hs.elim (h3 k hk) (fun h => by have := hT k hk; omega)⟩
theorem wtX (T : Nat → Prop) (b : Nat) (xs : List (BitVec 8)) (l : List Bool) (a : Option Addr) (cap : Nat) (hll : l.length ≤ 1000000) (hl : xs.length ≤ 1000000) (w : World) (hw : Gt w) (hbl : 0 ≤ b) (hr : WrX T w b xs) (hT : ∀ k, T k → k < w.heap.size) (hb : CellsAt w a (l.map .bool)) : Calls Try.prog 15 [.pointer (some ⟨b, 0, none⟩), .slice a l.length cap].toArray w (fun r w' => ∃ v, r = .returned v ∧ MM (fun k => k = b) w w' ∧ WrX T w' b (xs ++ pb l l.length)) := by
  obtain ⟨S, h1, h2, h3⟩ := hr
  exact (wt_calls S b xs l a cap hll hl w hw hbl h1 hb).mono fun r w' ⟨q1, q2, q3⟩ => ⟨_, q1, q2, _, q3, fun k hk => hk.elim (fun h => Nat.lt_of_lt_of_le (h2 k h) q2.size) (fun h => h.2), fun k hk hs => hs.elim (h3 k hk) (fun h => by have := hT k hk; omega)⟩
theorem wbX (T : Nat → Prop) (b : Nat) (xs : List (BitVec 8)) (ys : List (BitVec 8)) (a : Option Addr) (cap : Nat) (hll : ys.length ≤ 1000000) (hl : xs.length ≤ 1000000) (w : World) (hw : Gt w) (hbl : 0 ≤ b) (hr : WrX T w b xs) (hT : ∀ k, T k → k < w.heap.size) (hb : BytesAt w a ys) : Calls Try.prog 13 [.pointer (some ⟨b, 0, none⟩), .slice a ys.length cap].toArray w (fun r w' => ∃ v, r = .returned v ∧ MM (fun k => k = b) w w' ∧ WrX T w' b (xs ++ ys)) := by
  obtain ⟨S, h1, h2, h3⟩ := hr
  exact (wb_calls S b xs ys a cap hl hll w hw hbl h1 hb).mono fun r w' ⟨q1, q2, q3⟩ => ⟨_, q1, q2, _, q3, fun k hk => hk.elim (fun h => Nat.lt_of_lt_of_le (h2 k h) q2.size) (fun h => h.2), fun k hk hs => hs.elim (h3 k hk) (fun h => by have := hT k hk; omega)⟩
theorem walX (T : Nat → Prop) (b : Nat) (xs : List (BitVec 8)) (hl : xs.length ≤ 1000000) (w : World) (hw : Gt w) (hr : WrX T w b xs) : Calls Try.prog 17 [.pointer (some ⟨b, 0, none⟩)].toArray w (fun e w' => ∃ v, e = .returned v ∧ MM (fun _ => False) w w' ∧ Fr8 w w' v xs) := by
  obtain ⟨S, h1, _⟩ := hr
  exact (wal_calls S b xs hl w hw h1).mono fun r w' ⟨v, h3, h4, h5⟩ => ⟨v, h3, grow_mm h4, h5⟩
theorem bytes_lt {w : World} {a : Option Addr} {ys : List (BitVec 8)} (h : BytesAt w a ys) (hy : ys ≠ []) : ∀ ad, a = some ad → ad.block < w.heap.size := fun ad e => by
  obtain ⟨y, r, rfl⟩ : ∃ y r, ys = y :: r := by
    cases ys with
    | nil => exact absurd rfl hy
    | cons y r => exact ⟨y, r, rfl⟩
  obtain ⟨ad2, e2, hc⟩ := h 0 _ rfl
  rw [e] at e2
  cases e2
  have := block_lt_of_cell hc
  rwa [block_add] at this
theorem Of.lt {e : TypeId} {w : World} {a : Option Addr} {cap : Nat} {xs : List Value} (h : SlV e w a cap xs) : ∀ k, Of a k → k < w.heap.size := fun _ ⟨ad, e, hk⟩ => hk ▸ h.lt ad e
theorem Of.new {w : World} {a : Option Addr} (h : New w a) : ∀ k, Of a k → w.heap.size ≤ k := fun _ ⟨ad, e, hk⟩ => hk ▸ h ad e
end Go.Proofs.Ytjifjpcgdkepkaa
