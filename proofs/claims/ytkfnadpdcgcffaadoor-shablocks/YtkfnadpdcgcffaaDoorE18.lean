/-
  The engine, part 18: a region that draws its order, walked in an order of our choice.
-/
import Derived.Test.YtkfnadpdcgcffaaDoorE17
namespace Go.Proofs.YtkfnadpdcgcffaaDoor
open Go.RowKit
def nthL : List Oper → Nat → Option Oper
  | [], _ => none
  | x :: _, 0 => some x
  | _ :: r, n + 1 => nthL r n
def pickL : List Nat → List Oper → List Oper
  | [], _ => []
  | k :: σ, l => match nthL l k with
    | some o => o :: pickL σ l
    | none => pickL σ l
theorem nthL_eq : ∀ (l : List Oper) (k : Nat), nthL l k = l[k]?
  | [], _ => rfl
  | _ :: _, 0 => rfl
  | _ :: r, k + 1 => nthL_eq r k
theorem pickL_eq (l : List Oper) : ∀ σ : List Nat, σ.filterMap (l.toArray[·]?) = pickL σ l
  | [] => rfl
  | k :: σ => by
    have ih := pickL_eq l σ
    simp only [List.getElem?_toArray] at ih
    simp only [List.filterMap_cons, pickL, nthL_eq, List.getElem?_toArray]
    cases l[k]? with
    | none => exact ih
    | some o => simp only [ih]
section
variable {P : Program} {G : Cls} {ro : Option Nat} {N : Nat} {ds : List Deferred} {F : Fr} {C : Cls} {K : KK}
theorem x_draws {id : Nat} {l : List Oper} {E : Oper → Bool} (σ : List Nat) (hm : P.follows .mixedOrders = true) (hlen : σ.length = l.length) (hsel : Region.noSelect l.toArray = true) (hdef : noDefer l.toArray = true)
    (hok : okFrom .any l.toArray E σ (Array.replicate l.toArray.size false) = true) (h : Lx P G ro l.toArray N ds E (K .normal ds) (pickL σ l) F C) : X P G ro N ds (.region id l.toArray true) F C K :=
  x_draw σ hm hlen hsel hdef hok (by rw [pickL_eq]; exact h)
theorem xs_draws {id : Nat} {l : List Oper} {E : Oper → Bool} {y : Code} (σ : List Nat) (hm : P.follows .mixedOrders = true) (hlen : σ.length = l.length) (hsel : Region.noSelect l.toArray = true) (hdef : noDefer l.toArray = true)
    (hok : okFrom .any l.toArray E σ (Array.replicate l.toArray.size false) = true) (h : Lx P G ro l.toArray N ds E (fun F' C' => X P G ro N ds y F' C' K) (pickL σ l) F C) : X P G ro N ds (.seq (.region id l.toArray true) y) F C K :=
  x_seq (x_draws σ hm hlen hsel hdef hok h)
end
/-- A class with one block more says more. -/
theorem hp_fresh {B : Bs} {L : Hl} {Y : Nat → Prop} {n : Nat} {x : Nat × List Value × TypeId} (hr : Rides B.J) (hn : lkB L n = none) : ∀ w, Hq B ([(n, x)] ++ L) Y w → Hq B L Y w := fun _ h => h.less hr fun m y hy => by
  show (bif Nat.beq n m then some x else lkB L m) = some y
  cases hb : Nat.beq n m with
  | false => exact hy
  | true =>
    have := Nat.eq_of_beq_eq_true hb
    subst this
    rw [hn] at hy
    cases hy
section
variable {P : Program} {G : Cls} {ro : Option Nat} {ops : Array Oper} {N : Nat} {ds : List Deferred} {fs : List Nat} {Z : Fr → Cls → Prop} {F : Fr} {C : Cls} {rest : List Oper}
variable {d : Nat} {ty : TypeId} {pos : String} {af : Array Edge} {gd : Option (Nat × Bool)} {B : Bs} {L : Hl}
/-- Bytes appended to a slice that has no room: a new block. -/
theorem lx_appendF (n : Nat) {t tx e e' : TypeId} {x y : Operand} {a0 sa : Option Addr} {cap sc : Nat} {xs ys : List (BitVec 8)} (hB : BOk G B) (hx : evF F x = some (.slice a0 xs.length cap)) (hy : evF F y = some (.slice sa ys.length sc))
    (hu : P.underlying t = some (.slice e)) (hux : P.underlying tx = some (.slice e')) (hi : TI P e (.int .u8 0) 1 1) (hold : ∀ w, Hp B L w → BytesAt w a0 xs) (hsrc : ∀ w, Hp B L w → BytesAt w sa ys) (hlen : xs.length + ys.length ≤ 70368744177664) (hg : cap < xs.length + ys.length)
    (hw : wantF ops F ⟨some d, .call { callee := .builtin .append, args := #[x, y], argTypes := #[t, tx] }, ty, pos, af, gd⟩ = some true) (hd : Nat.blt d N = true)
    (h : ∀ b c cap1, c.length = cap1 → (xs ++ ys).length ≤ cap1 → c.take (xs ++ ys).length = (xs ++ ys).map U8 → Lx P G ro ops N ds (EE fs) Z rest ((d, .slice (some ⟨b, 0, none⟩) (xs ++ ys).length cap1) :: F) (Hp B ((n, b, c, e) :: L))) :
    Lx P G ro ops N ds (EE fs) Z (⟨some d, .call { callee := .builtin .append, args := #[x, y], argTypes := #[t, tx] }, ty, pos, af, gd⟩ :: rest) F (Hp B L) := by
  obtain ⟨i, hi, hz, hsz, hby⟩ := hi
  refine lx_run rfl hw hd (fun _ h => by cases h) fun a w ha hC => ?_
  have hs : Src P i.size tx (.slice sa ys.length sc) ys.length (ys.map U8) w := by rw [hsz]; exact src_bytes hux (hsrc w hC)
  have run : ∀ {v : Value} {w' : World}, (Builtin.append_ #[t, tx] ty #[.slice a0 xs.length cap, .slice sa ys.length sc]).run P w = .ok v w' →
      (execOp a.eval ⟨some d, .call { callee := .builtin .append, args := #[x, y], argTypes := #[t, tx] }, ty, pos, af, gd⟩).run P w = .ok (.value v) w' := fun {v w'} hr => by
    simp only [execOp, resolve, invoke, builtin, Sem.run_bind, Sem.run_pure, Result.andThen_ok, List.map_toArray, List.map_cons, List.map_nil, ha.ev hx, ha.ev hy, hr]
  have len1 : (xs ++ ys).length = xs.length + ys.length := by simp
  have hold : (Builtin.firstCells i.size xs.length (.slice a0 xs.length cap)).run P w.drew = .ok (xs.map U8).toArray w.drew := by
    have hb := hold w hC
    cases a0 with
    | none =>
      have : xs = [] := by
        cases xs with
        | nil => rfl
        | cons x r => obtain ⟨_, e, _⟩ := hb 0 (U8 x) (by simp); cases e
      subst this
      exact run_firstCells_none _ _ _ _ _
    | some ad =>
      refine run_firstCells_some _ _ _ _ _ _ _ (by simp [hsz]) (fun j v hv => ?_)
      obtain ⟨ad', e, hc⟩ := hb j v hv
      cases e
      exact hc
  have hr := run_append_grow_src (P := P) w t tx ty e i (.int .u8 0) hu hi hz a0 xs.length cap (xs.map U8) hold (.slice sa ys.length sc) ys.length (ys.map U8) hs hg (by omega) (by rw [hby]; exact growslice_fits hg (by omega))
  have hge := grownCap_ge w (xs.length + ys.length) cap e
  obtain ⟨cc, hcc⟩ : ∃ cc, (xs ++ ys).map U8 ++ (Builtin.zeroCells (Value.int .u8 0).cells (grownCap w (xs.length + ys.length) cap e - (xs.length + ys.length))).toList = cc := ⟨_, rfl⟩
  have hcl : cc.length = grownCap w (xs.length + ys.length) cap e := by
    rw [← hcc]
    simp only [List.length_append, List.length_map, Array.length_toList, size_zeroCells]
    show _ + _ * 1 = _
    omega
  have hct : cc.take (xs ++ ys).length = (xs ++ ys).map U8 := by rw [← hcc, List.take_append_of_le_length (by simp), List.take_of_length_le (by simp)]
  have harr : (xs.map U8 ++ ys.map U8).toArray ++ Builtin.zeroCells (Value.int .u8 0).cells (grownCap w (xs.length + ys.length) cap e - (xs.length + ys.length)) = cc.toArray := by
    rw [← hcc]
    apply Array.ext'
    simp
  rw [harr] at hr
  have hk := h w.heap.size cc _ hcl (by rw [len1]; exact hge) hct
  rw [len1] at hk
  exact ⟨_, _, _, .inl (run hr), good_hp hB, (hC.grow hB.r ((Below.refl _ w).drew)).alloc hB.r n cc e, hk⟩
end
end Go.Proofs.YtkfnadpdcgcffaaDoor
