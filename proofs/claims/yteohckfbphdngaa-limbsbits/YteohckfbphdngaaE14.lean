/-
  Arrays of bytes held against one another; a function held against nil.
-/
import Derived.Test.YteohckfbphdngaaE13
import Derived.Laws.StructEq
namespace Go.Proofs.Yteohckfbphdngaa
open Go.RowKit
section
variable {P : Program}
theorem eq_row {t e : TypeId} {n : Nat} (hu : P.underlying t = some (.array n e)) (he : P.underlying e = some (.int .u8)) (hs : ∀ w, (sizeOf e).run P w = .ok 1 w) (hag : ∀ w, (isAgg e).run P w = .ok false w) (xs : List (BitVec 8)) (hl : xs.length = n) (d : Nat) (w : World) :
    (Op.equalIn (d + 2) t (.agg (xs.map U8).toArray) (.agg (xs.map U8).toArray)).run P w = .ok true w := by
  simp only [Op.equalIn, Sem.run_bind, run_underlying hu, Result.andThen_ok, hs]
  rw [Std.Legacy.Range.forIn_eq_forIn_range']
  have key : ∀ is : List Nat, (∀ i ∈ is, i < xs.length) → ∀ {β : Type} (f : Nat → β → Sem (ForInStep β)) (b : β), (∀ i, i < xs.length → (f i b).run P w = .ok (.yield b) w) → (forIn is b f).run P w = .ok b w := by
    intro is
    induction is with
    | nil => intro _ β f b _; simp
    | cons i r ih =>
      intro hi β f b hf
      rw [List.forIn_cons, Sem.run_bind, hf i (hi i (by simp)), Result.andThen_ok]
      exact ih (fun j hj => hi j (by simp [hj])) f b hf
  rw [key _ (by intro i hi; simp at hi; omega) _ _ ?_]
  · simp
  · intro i hi
    have hg : (xs.map U8).toArray[i * 1]? = some (U8 xs[i]) := by simp [hi]
    have hp : (part e (xs.map U8).toArray (i * 1)).run P w = .ok (U8 xs[i]) w := by
      simp only [part, Sem.run_bind, hag, Result.andThen_ok, Bool.false_eq_true, if_false, hg, Sem.run_pure]
    simp only [Sem.run_bind, hp, Result.andThen_ok]
    simp [run_underlying he, U8]
theorem bin_eq_row {t e : TypeId} {n : Nat} (hu : P.underlying t = some (.array n e)) (he : P.underlying e = some (.int .u8)) (hs : ∀ w, (sizeOf e).run P w = .ok 1 w) (hag : ∀ w, (isAgg e).run P w = .ok false w) (xs : List (BitVec 8)) (hl : xs.length = n) (w : World) :
    (binOp .eql t (.agg (xs.map U8).toArray) (.agg (xs.map U8).toArray)).run P w = .ok (.bool true) w := by
  rw [run_eql_struct, eq_row hu he hs hag xs hl 9998 w]; rfl
theorem bin_ne_row {t e : TypeId} {n : Nat} (hu : P.underlying t = some (.array n e)) (he : P.underlying e = some (.int .u8)) (hs : ∀ w, (sizeOf e).run P w = .ok 1 w) (hag : ∀ w, (isAgg e).run P w = .ok false w) (xs : List (BitVec 8)) (hl : xs.length = n) (w : World) :
    (binOp .neq t (.agg (xs.map U8).toArray) (.agg (xs.map U8).toArray)).run P w = .ok (.bool false) w := by
  rw [run_neq_struct, eq_row hu he hs hag xs hl 9998 w]; rfl
theorem bin_eq_fn {t : TypeId} {a b : Array TypeId} {v : Bool} (hu : P.underlying t = some (.func a b v)) (f : Fn) (x y : Array Value) (w : World) : (binOp .eql t (.func f x y) .nilFunc).run P w = .ok (.bool false) w := by
  have h : ∀ d : Nat, (Op.equalIn (d + 1) t (.func f x y) .nilFunc).run P w = .ok false w := fun d => by
    simp [Op.equalIn, run_underlying hu]
  simp only [binOp]
  simp [Op.equal, Op.maxDepth, h 9999]
end
end Go.Proofs.Yteohckfbphdngaa
