/-
  The engine, part 18: a region that draws its order, walked in an order of our choice.
-/
import Derived.Test.YtkfnadpdcgcffaaDoorE17
namespace Go.Proofs.YtkfnadpdcgcffaaDoor
open Go.RowKit
def nthL : List Oper → Nat → Option Oper
  | [], _ => none
  | x :: _, 0 => some x
  | _ :: r, n + 1 => nthL r n
def pickL : List Nat → List Oper → List Oper
  | [], _ => []
  | k :: σ, l => match nthL l k with
    | some o => o :: pickL σ l
    | none => pickL σ l
theorem nthL_eq : ∀ (l : List Oper) (k : Nat), nthL l k = l[k]?
  | [], _ => rfl
  | _ :: _, 0 => rfl
  | _ :: r, k + 1 => nthL_eq r k
theorem pickL_eq (l : List Oper) : ∀ σ : List Nat, σ.filterMap (l.toArray[·]?) = pickL σ l
  | [] => rfl
  | k :: σ => by
    have ih := pickL_eq l σ
    simp only [List.getElem?_toArray] at ih
    simp only [List.filterMap_cons, pickL, nthL_eq, List.getElem?_toArray]
    cases l[k]? with
    | none => exact ih
    | some o => simp only [ih]
section
variable {P : Program} {G : Cls} {ro : Option Nat} {N : Nat} {ds : List Deferred} {F : Fr} {C : Cls} {K : KK}
theorem x_draws {id : Nat} {l : List Oper} {E : Oper → Bool} (σ : List Nat) (hm : P.follows .mixedOrders = true) (hlen : σ.length = l.length) (hsel : Region.noSelect l.toArray = true) (hdef : noDefer l.toArray = true)
    (hok : okFrom .any l.toArray E σ (Array.replicate l.toArray.size false) = true) (h : Lx P G ro l.toArray N ds E (K .normal ds) (pickL σ l) F C) : X P G ro N ds (.region id l.toArray true) F C K :=
  x_draw σ hm hlen hsel hdef hok (by rw [pickL_eq]; exact h)
theorem xs_draws {id : Nat} {l : List Oper} {E : Oper → Bool} {y : Code} (σ : List Nat) (hm : P.follows .mixedOrders = true) (hlen : σ.length = l.length) (hsel : Region.noSelect l.toArray = true) (hdef : noDefer l.toArray = true)
    (hok : okFrom .any l.toArray E σ (Array.replicate l.toArray.size false) = true) (h : Lx P G ro l.toArray N ds E (fun F' C' => X P G ro N ds y F' C' K) (pickL σ l) F C) : X P G ro N ds (.seq (.region id l.toArray true) y) F C K :=
  x_seq (x_draws σ hm hlen hsel hdef hok h)
end
/-- A class with one block more says more. -/
theorem hp_fresh {B : Bs} {L : Hl} {Y : Nat → Prop} {n : Nat} {x : Nat × List Value × TypeId} (hr : Rides B.J) (hn : lkB L n = none) : ∀ w, Hq B ([(n, x)] ++ L) Y w → Hq B L Y w := fun _ h => h.less hr fun m y hy => by
  show (bif Nat.beq n m then some x else lkB L m) = some y
  cases hb : Nat.beq n m with
  | false => exact hy
  | true =>
    have := Nat.eq_of_beq_eq_true hb
    subst this
    rw [hn] at hy
    cases hy
end Go.Proofs.YtkfnadpdcgcffaaDoor
