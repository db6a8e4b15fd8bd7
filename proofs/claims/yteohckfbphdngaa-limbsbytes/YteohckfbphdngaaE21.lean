/-
  The engine, part 21: labels; calls that run here and now; two results; arrays of numbers held against one another.
-/
import Derived.Test.YteohckfbphdngaaE20
import Derived.Scope
import Derived.Laws.Externs
namespace Go.Proofs.Yteohckfbphdngaa
open Go.RowKit
def Kng (K : KK) : KK
  | .goto _ => fun _ _ _ => False
  | e => K e
section
variable {P : Program} {G : Cls} {ro : Option Nat} {N : Nat} {ds : List Deferred} {F : Fr} {C : Cls} {K : KK}
theorem kng_n (h : K .normal ds F C) : Kng K .normal ds F C := h
theorem kng_ret (h : K .ret ds F C) : Kng K .ret ds F C := h
theorem kng_x {i : Nat} (h : K (.exit i) ds F C) : Kng K (.exit i) ds F C := h
theorem kblk_p {id i : Nat} (hi : Nat.beq i id = false) (h : K (.exit i) ds F C) : Kblk id K (.exit i) ds F C := by
  simp only [Kblk, hi, cond_false]
  exact h
theorem x_label {l : Nat} (h : K .normal ds F C) : X P G ro N ds (.label l) F C K := fun hS _ _ ha hw => wpIn_label ⟨ds, F, C, hS, ha, hw, h⟩
theorem x_scope {c : Code} (h : X P G none N ds c F C (Kng K)) : X P G none N ds (.scope c) F C K := fun hS a w ha hw => by
  refine wpIn_wide.2 (wp_scope_straight (wpIn_wide.1 (wpIn_mono (h hS a w ha hw) fun e a' w' hq => ?_)))
  cases e with
  | goto l => obtain ⟨_, _, _, _, _, _, h⟩ := hq; exact h.elim
  | _ => exact hq
end
section
variable {P : Program} {G : Cls} {ro : Option Nat} {ops : Array Oper} {N : Nat} {ds : List Deferred} {fs : List Nat} {Z : Fr → Cls → Prop} {F : Fr} {C : Cls} {rest : List Oper}
variable {d : Nat} {ty : TypeId} {pos : String} {af : Array Edge} {gd : Option (Nat × Bool)} {B : Bs} {L : Hl}
/-- A call that the model runs here and now. -/
theorem lx_ext1 {f : Nat} {al : List Operand} {at' : Array TypeId} {vs : List Value} {v : Value} (hf : fs.any (Nat.beq f) = false) (ha : evL F al = some vs) (hr : ∀ w, (callFunc f vs.toArray).run P w = .ok (.value v) w)
    (hw : wantF ops F ⟨some d, .call { callee := .value (.func f), args := al.toArray, argTypes := at' }, ty, pos, af, gd⟩ = some true) (hd : Nat.blt d N = true)
    (h : Lx P G ro ops N ds (EE fs) Z rest ((d, v) :: F) C) : Lx P G ro ops N ds (EE fs) Z (⟨some d, .call { callee := .value (.func f), args := al.toArray, argTypes := at' }, ty, pos, af, gd⟩ :: rest) F C :=
  lx_val (v := v) (by simpa [EE] using hf) hw hd (fun _ h => by cases h) (fun a w hA _ => by
    have e := hA.evL ha
    simp only [execOp, resolve, invoke, Sem.run_bind, Sem.run_pure, Result.andThen_ok, List.map_toArray, e, Act.eval, Deferred.ofValue]
    simp [hr w]) h
/-- Results: a variable, a slot. -/
theorem kret_ct (n : Nat) {fn : Func} {R : Ending → World → Prop} {t1 t2 : Nat} {T et : TypeId} {b m : Nat} {c : List Value} {v : Value} (hr : fn.results = #[.cell t1 T, .tmp t2])
    (hv1 : lk F t1 = some (.pointer (some ⟨b, 0, none⟩))) (hv2 : lk F t2 = some v) (hl : lkB L n = some (b, c, et))
    (hag : ∀ w, (isAgg T).run P w = .ok true w) (hs : ∀ w, (sizeOf T).run P w = .ok m w) (hm : c.length = m)
    (h : ∀ w, Hp B L w → R (.returned (.tuple #[.agg c.toArray, v])) w) : Kret P fn R .ret [] F (Hp B L) :=
  ⟨rfl, fun a w ha hC => ⟨.tuple #[.agg c.toArray, v], by
    have e1 := run_loadCells_list (P := P) w ⟨b, 0, none⟩ c (fun j v hv => by rw [Addr.add_mid]; exact hp_row (n := n) hl w hC j v hv)
    rw [hm] at e1
    simp [results, hr, ha.get t1 _ hv1, ha.get t2 _ hv2, asAddr, loadVar, hag, hs, e1], h w hC⟩⟩
/-- Results: two slots. -/
theorem kret_tt {fn : Func} {R : Ending → World → Prop} {t1 t2 : Nat} {v1 v2 : Value} (hr : fn.results = #[.tmp t1, .tmp t2]) (hv1 : lk F t1 = some v1) (hv2 : lk F t2 = some v2)
    (h : ∀ w, C w → R (.returned (.tuple #[v1, v2])) w) : Kret P fn R .ret [] F C :=
  ⟨rfl, fun a w ha hC => ⟨.tuple #[v1, v2], by simp [results, hr, ha.get t1 _ hv1, ha.get t2 _ hv2], h w hC⟩⟩
end
section
variable {P : Program}
theorem eq_all {α : Type} [DecidableEq α] (xs ys : List α) (hl : xs.length = ys.length) : (List.range' 0 xs.length).all (fun i => xs[i]? == ys[i]?) = decide (xs = ys) := by
  by_cases h : xs = ys
  · subst h; simp
  · rw [decide_eq_false h]
    cases hb : (List.range' 0 xs.length).all (fun i => xs[i]? == ys[i]?) with
    | false => rfl
    | true =>
      exfalso
      apply h
      apply List.ext_getElem? 
      intro i
      rcases Nat.lt_or_ge i xs.length with hi | hi
      · have := List.all_eq_true.1 hb i (by simp [List.mem_range'_1]; exact hi)
        simpa using this
      · rw [List.getElem?_eq_none hi, List.getElem?_eq_none (by omega)]
theorem eq64 {t e : TypeId} {n : Nat} (hu : P.underlying t = some (.array n e)) (he : P.underlying e = some (.int .u64)) (hs : ∀ w, (sizeOf e).run P w = .ok 1 w) (hag : ∀ w, (isAgg e).run P w = .ok false w) (xs ys : List (BitVec 64)) (hl : xs.length = n) (hl' : ys.length = n) (d : Nat) (w : World) :
    (Op.equalIn (d + 2) t (.agg (xs.map U64).toArray) (.agg (ys.map U64).toArray)).run P w = .ok (decide (xs = ys)) w := by
  simp only [Op.equalIn, Sem.run_bind, run_underlying hu, Result.andThen_ok, hs]
  rw [Std.Legacy.Range.forIn_eq_forIn_range']
  have key : ∀ is : List Nat, (∀ i ∈ is, i < xs.length) → ∀ {β : Type} (f : Nat → β → Sem (ForInStep β)) (b b1 : β), (∀ i, i < xs.length → (f i b).run P w = .ok (if xs[i]? == ys[i]? then .yield b else .done b1) w) → (forIn is b f).run P w = .ok (if is.all (fun i => xs[i]? == ys[i]?) then b else b1) w := by
    intro is
    induction is with
    | nil => intro _ β f b b1 _; simp
    | cons i r ih =>
      intro hi β f b b1 hf
      rw [List.forIn_cons, Sem.run_bind, hf i (hi i (by simp)), Result.andThen_ok, List.all_cons]
      cases hb : (xs[i]? == ys[i]?) with
      | true => simpa using ih (fun j hj => hi j (by simp [hj])) f b b1 hf
      | false => simp
  rw [key _ (by intro i hi; simp at hi; omega) _ _ ⟨some false, ()⟩ ?_]
  · have hr : (List.range' 0 n 1) = List.range' 0 xs.length := by rw [hl]
    have := eq_all xs ys (by omega)
    simp only [Std.Legacy.Range.size, Nat.sub_zero, Nat.add_sub_cancel, Nat.div_one] at *
    rw [hr, this]
    cases decide (xs = ys) <;> simp
  · intro i hi
    have hi' : i < ys.length := by omega
    have hg : (xs.map U64).toArray[i * 1]? = some (U64 xs[i]) := by simp [hi]
    have hg' : (ys.map U64).toArray[i * 1]? = some (U64 ys[i]) := by simp [hi']
    have hp : (part e (xs.map U64).toArray (i * 1)).run P w = .ok (U64 xs[i]) w := by
      simp only [part, Sem.run_bind, hag, Result.andThen_ok, Bool.false_eq_true, if_false, hg, Sem.run_pure]
    have hp' : (part e (ys.map U64).toArray (i * 1)).run P w = .ok (U64 ys[i]) w := by
      simp only [part, Sem.run_bind, hag, Result.andThen_ok, Bool.false_eq_true, if_false, hg', Sem.run_pure]
    have hb : (xs[i]? == ys[i]?) = (((xs[i].toNat : Int)) == ((ys[i].toNat : Int))) := by
      rw [List.getElem?_eq_getElem hi, List.getElem?_eq_getElem hi']
      by_cases h : xs[i] = ys[i]
      · simp [h]
      · have h2 : ¬ ((xs[i].toNat : Int)) = ((ys[i].toNat : Int)) := fun e => h (BitVec.eq_of_toNat_eq (by omega))
        rw [beq_eq_false_iff_ne.2 h2]
        simpa using h
    rw [hb]
    simp only [Sem.run_bind, hp, hp', Result.andThen_ok]
    simp only [run_underlying he, U64, Result.andThen_ok]
    cases ((xs[i].toNat : Int)) == ((ys[i].toNat : Int)) <;> simp
theorem bin_eq64 {t e : TypeId} {n : Nat} (hu : P.underlying t = some (.array n e)) (he : P.underlying e = some (.int .u64)) (hs : ∀ w, (sizeOf e).run P w = .ok 1 w) (hag : ∀ w, (isAgg e).run P w = .ok false w) (xs ys : List (BitVec 64)) (hl : xs.length = n) (hl' : ys.length = n) (w : World) :
    (binOp .eql t (.agg (xs.map U64).toArray) (.agg (ys.map U64).toArray)).run P w = .ok (.bool (decide (xs = ys))) w := by
  rw [run_eql_struct, eq64 hu he hs hag xs ys hl hl' 9998 w]; rfl
theorem bin_ne64 {t e : TypeId} {n : Nat} (hu : P.underlying t = some (.array n e)) (he : P.underlying e = some (.int .u64)) (hs : ∀ w, (sizeOf e).run P w = .ok 1 w) (hag : ∀ w, (isAgg e).run P w = .ok false w) (xs ys : List (BitVec 64)) (hl : xs.length = n) (hl' : ys.length = n) (w : World) :
    (binOp .neq t (.agg (xs.map U64).toArray) (.agg (ys.map U64).toArray)).run P w = .ok (.bool (!decide (xs = ys))) w := by
  rw [run_neq_struct, eq64 hu he hs hag xs ys hl hl' 9998 w]; rfl
end
end Go.Proofs.Yteohckfbphdngaa
