/-
  Things held against one another: the same ones.
-/
import Derived.Test.YtlaanjcnfindnaaVJ
import Derived.Test.YtlaanjcnfindnaaX3
import Derived.Laws.StructEq
namespace Go.Proofs.Ytlaanjcnfindnaa
open Go.RowKit
set_option maxRecDepth 100000
set_option maxHeartbeats 1000000

theorem ent67 : Enters Try.prog 67 := fun _ _ => by kernel_rfl
theorem ent52 : Enters Try.prog 52 := fun _ _ => by kernel_rfl
theorem ent28 : Enters Try.prog 28 := fun _ _ => by kernel_rfl
theorem ent27 : Enters Try.prog 27 := fun _ _ => by kernel_rfl
section
variable {P : Program}
theorem part_agg {t : TypeId} {m o : Nat} (hag : ∀ w, (isAgg t).run P w = .ok true w) (hs : ∀ w, (sizeOf t).run P w = .ok m w) {cs ds : List Value} (h : ∀ j v, ds[j]? = some v → cs[o + j]? = some v) (hl : ds.length = m) (w : World) : (part t cs.toArray o).run P w = .ok (.agg ds.toArray) w := by
  simp only [part, Sem.run_bind, hag, hs, Result.andThen_ok, if_true, Sem.run_pure]
  have e : (cs.drop o).take m = ds := by
    apply List.ext_getElem?
    intro j
    rw [List.getElem?_take]
    by_cases hj : j < m
    · rw [if_pos hj, List.getElem?_drop, h j _ (List.getElem?_eq_getElem (by omega)), List.getElem?_eq_getElem (by omega)]
    · rw [if_neg hj, List.getElem?_eq_none (by omega)]
  congr 2
  rw [← e]
  simp [List.extract_toArray]
theorem part_one {t : TypeId} {o : Nat} {v : Value} (hag : ∀ w, (isAgg t).run P w = .ok false w) {cs : List Value} (h : cs[o]? = some v) (w : World) : (part t cs.toArray o).run P w = .ok v w := by
  simp [part, Sem.run_bind, hag, h]
/-- A thing is the same as itself. -/
def Self (P : Program) (t : TypeId) (d0 : Nat) (vs : List Value) : Prop := ∀ (d : Nat) (w : World), (Op.equalIn (d + d0) t (.agg vs.toArray) (.agg vs.toArray)).run P w = .ok true w
theorem self_8 {t e : TypeId} {n : Nat} (hu : P.underlying t = some (.array n e)) (he : P.underlying e = some (.int .u8)) (hs : ∀ w, (sizeOf e).run P w = .ok 1 w) (hag : ∀ w, (isAgg e).run P w = .ok false w) {xs : By} (hl : xs.length = n) : Self P t 2 (xs.map U8) := fun d w => by
  rw [eq8 hu he hs hag xs xs hl hl d w, decide_eq_true rfl]
theorem self_arr {t e : TypeId} {k n d0 : Nat} (hu : P.underlying t = some (.array k e)) (hag : ∀ w, (isAgg e).run P w = .ok true w) (hs : ∀ w, (sizeOf e).run P w = .ok n w) {vs : List Value} (f : Nat → List Value) (hf : ∀ i, i < k → (∀ j v, (f i)[j]? = some v → vs[i * n + j]? = some v) ∧ (f i).length = n ∧ Self P e d0 (f i)) : Self P t (d0 + 1) vs := fun d w => by
  rw [show d + (d0 + 1) = (d + d0) + 1 from rfl, Op.equalIn]
  simp only [Sem.run_bind, run_underlying hu, Result.andThen_ok, hs]
  rw [Std.Legacy.Range.forIn_eq_forIn_range']
  have key : ∀ is : List Nat, (∀ i ∈ is, i < k) → ∀ {β : Type} (f : Nat → β → Sem (ForInStep β)) (b : β), (∀ i, i < k → (f i b).run P w = .ok (.yield b) w) → (forIn is b f).run P w = .ok b w := by
    intro is
    induction is with
    | nil => intro _ β f b _; simp
    | cons i r ih =>
      intro hi β f b hf
      rw [List.forIn_cons, Sem.run_bind, hf i (hi i (by simp)), Result.andThen_ok]
      simpa using ih (fun j hj => hi j (by simp [hj])) f b hf
  rw [key _ (by intro i hi; simp at hi; omega) _ _ ?_]
  · rfl
  · intro i hi
    obtain ⟨h1, h2, h3⟩ := hf i hi
    have p1 := part_agg (o := i * n) hag hs h1 h2 w
    have e1 := h3 d w
    simp only [Sem.run_bind, p1, e1, Result.andThen_ok]
    simp
theorem bin_self {t : TypeId} {d0 : Nat} {vs : List Value} (he : Self P t d0 vs) (hd : d0 ≤ 100) (w : World) : (binOp .eql t (.agg vs.toArray) (.agg vs.toArray)).run P w = .ok (.bool true) w := by
  rw [run_eql_struct, show (10000 : Nat) = (10000 - d0) + d0 by omega, he (10000 - d0) w]; rfl
end
theorem eqg_26 (op : BinOp) (x y : Operand) (xs ys : Array Value) (w : World) : (eqGuard op 26 x y (.agg xs) (.agg ys)).run Try.prog w = .ok () w := run_eqGuard_agg w op 26 x y xs ys (by kernel_rfl)
theorem eqg_29 (op : BinOp) (x y : Operand) (xs ys : Array Value) (w : World) : (eqGuard op 29 x y (.agg xs) (.agg ys)).run Try.prog w = .ok () w := run_eqGuard_agg w op 29 x y xs ys (by kernel_rfl)
theorem eqg_36 (op : BinOp) (x y : Operand) (xs ys : Array Value) (w : World) : (eqGuard op 36 x y (.agg xs) (.agg ys)).run Try.prog w = .ok () w := run_eqGuard_agg w op 36 x y xs ys (by kernel_rfl)
theorem eqg_32 (op : BinOp) (x y : Operand) (xs ys : Array Value) (w : World) : (eqGuard op 32 x y (.agg xs) (.agg ys)).run Try.prog w = .ok () w := run_eqGuard_agg w op 32 x y xs ys (by kernel_rfl)
theorem eqg_33 (op : BinOp) (x y : Operand) (xs ys : Array Value) (w : World) : (eqGuard op 33 x y (.agg xs) (.agg ys)).run Try.prog w = .ok () w := run_eqGuard_agg w op 33 x y xs ys (by kernel_rfl)
theorem s32 {xs : By} (h : xs.length = 32) : Self Try.prog 24 2 (xs.map U8) := self_8 Try.underlying24 Try.underlying5 Try.sizeOf5 Try.isAgg5 h
theorem s48 {xs : By} (h : xs.length = 48) : Self Try.prog 29 2 (xs.map U8) := self_8 Try.underlying29 Try.underlying5 Try.sizeOf5 Try.isAgg5 h
theorem s96 {xs : By} (h : xs.length = 96) : Self Try.prog 36 2 (xs.map U8) := self_8 Try.underlying36 Try.underlying5 Try.sizeOf5 Try.isAgg5 h
theorem pieceV {l : By} {i n : Nat} : ∀ j v, (((l.drop (i * n)).take n).map U8)[j]? = some v → (l.map U8)[i * n + j]? = some v := fun j v hv => by
  rw [List.getElem?_map, Option.map_eq_some_iff] at hv ⊢
  obtain ⟨x, hx, rfl⟩ := hv
  rw [List.getElem?_take] at hx
  split at hx
  · rw [List.getElem?_drop] at hx; exact ⟨x, hx, rfl⟩
  · cases hx
theorem s5 {l : By} (h : l.length = 160) : Self Try.prog 32 3 (l.map U8) := self_arr Try.underlying32 Try.isAgg24 Try.sizeOf24 (fun i => ((l.drop (i * 32)).take 32).map U8) fun i hi => ⟨pieceV, by rw [List.length_map, List.length_take, List.length_drop]; omega, s32 (by rw [List.length_take, List.length_drop]; omega)⟩
theorem s6 {l : By} (h : l.length = 192) : Self Try.prog 33 3 (l.map U8) := self_arr Try.underlying33 Try.isAgg24 Try.sizeOf24 (fun i => ((l.drop (i * 32)).take 32).map U8) fun i hi => ⟨pieceV, by rw [List.length_map, List.length_take, List.length_drop]; omega, s32 (by rw [List.length_take, List.length_drop]; omega)⟩
theorem eqF_step {P : Program} {d : Nat} {xs : Array Value} {f : Field} {fs : List Field} {v : Value} {w : World} (hn : f.name ≠ "_") (hp : (part f.type xs f.offset).run P w = .ok v w) (he : (Op.equalIn d f.type v v).run P w = .ok true w) (hr : (Op.eqFields d xs xs fs).run P w = .ok true w) : (Op.eqFields d xs xs (f :: fs)).run P w = .ok true w := by
  simp [Op.eqFields, hn, hp, he, hr]
theorem int_self (d : Nat) (x : BitVec 64) (w : World) : (Op.equalIn (d + 1) 22 (U64 x) (U64 x)).run Try.prog w = .ok true w := by rw [U64, run_equalIn_int w d 22 .u64 .u64 _ _ Try.underlying22]; simp
theorem sHd {h : Hd} (k : h.Ok) : Self Try.prog 26 3 h.cs := fun d w => by
  rw [show d + 3 = (d + 2) + 1 from rfl, run_equalIn_struct w (d + 2) 26 _ _ Try.underlying26 (by kernel_rfl)]
  refine eqF_step (v := U64 h.s) (by decide) (part_one Try.isAgg22 rfl w) (int_self (d + 1) _ w) ?_
  refine eqF_step (v := U64 h.p) (by decide) (part_one Try.isAgg22 rfl w) (int_self (d + 1) _ w) ?_
  refine eqF_step (by decide) (part_agg Try.isAgg24 Try.sizeOf24 (Hd.at_a (h := h)) (by rw [List.length_map, k.a]) w) (s32 k.a d w) ?_
  refine eqF_step (by decide) (part_agg Try.isAgg24 Try.sizeOf24 (Hd.at_b k) (by rw [List.length_map, k.b]) w) (s32 k.b d w) ?_
  refine eqF_step (by decide) (part_agg Try.isAgg24 Try.sizeOf24 (Hd.at_c k) (by rw [List.length_map, k.c]) w) (s32 k.c d w) ?_
  simp [Op.eqFields]
end Go.Proofs.Ytlaanjcnfindnaa
