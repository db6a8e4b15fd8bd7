/-
  The engine, part 11: more steps: loops whose base turns; bytes; slices; calls that make memory.
  The engine, part 12: append; slices that are made.
  The engine, part 13: blocks of a caller's that a call turns; slices by unsigned bounds.
  Arrays of bytes held against one another; a function held against nil.
  More on bytes that lie wherever; the builtin min.
  Two results; a struct of zeros.
  Bytes as a string; strings held against one another.
  The engine, part 18: a region that draws its order, walked in an order of our choice.
  The engine, part 19: arrays of numbers that come in.
  The engine, part 20: 'for .. := range f' where the rounds' state is one of many.
  The engine, part 21: labels; calls that run here and now; two results; arrays of numbers held against one another.
  The engine, part 22: slices of values of one cell each: literals, append; blocks of a callee's that have no name of their own.
  The engine, part 23: variables that are made in any order.
  The engine, part 24: a region that draws its order, where a store and a read of another variable may come in either order.
-/
import Derived.Test.YtdkgiilmanhpbaaX1
import Derived.Laws.IdiomCopy
import Derived.Deep.AppendSrc
import Derived.Laws.StructEq
import Derived.Laws.BytesString
import Derived.Laws.Strings
import Derived.OpenShut
import Derived.Scope
import Derived.Laws.Externs
namespace Go.Proofs.Ytdkgiilmanhpbaa
open Go.RowKit

section
variable {P : Program} {G : Cls} {ro : Option Nat} {N : Nat} {ds : List Deferred} {F : Fr} {K : KK} {B : Bs} {L : Hl}
end

/-- Bytes that lie somewhere. -/
def BytesAt (w : World) (a : Option Addr) (rs : List (BitVec 8)) : Prop := ∀ j v, (rs.map U8)[j]? = some v → ∃ ad, a = some ad ∧ w.cell? (ad.add j) = some v
theorem bytes_nil (w : World) (a : Option Addr) : BytesAt w a [] := fun j v h => by simp at h
theorem add_add (a : Addr) (k j : Nat) (hk : k ≠ 0) : (a.add k).add j = a.add (k + j) := by
  unfold Addr.add
  rw [if_neg hk, if_neg (show ¬ k + j = 0 by omega)]
  by_cases hj : j = 0
  · subst hj; simp
  · rw [if_neg hj]; simp; omega
theorem BytesAt.drop {w : World} {a : Option Addr} {rs : List (BitVec 8)} (h : BytesAt w a rs) {cap l : Nat} (hc : rs.length ≤ cap) (hl : l ≠ 0) : BytesAt w (if cap = l then a else a.map (·.add (l * 1))) (rs.drop l) := fun j v hv => by
  rw [List.map_drop, List.getElem?_drop] at hv
  obtain ⟨ad, rfl, hc'⟩ := h (l + j) v hv
  have hlt : l + j < rs.length := by
    rcases Nat.lt_or_ge (l + j) rs.length with h' | h'
    · exact h'
    · rw [List.getElem?_eq_none (by simpa using h')] at hv; cases hv
  rw [if_neg (by omega)]
  exact ⟨ad.add (l * 1), rfl, by rw [Nat.mul_one, add_add ad l j hl]; exact hc'⟩
theorem BytesAt.take {w : World} {a : Option Addr} {rs : List (BitVec 8)} (h : BytesAt w a rs) (n : Nat) : BytesAt w a (rs.take n) := fun j v hv => by
  rw [List.map_take, List.getElem?_take] at hv
  split at hv
  · exact h j v hv
  · cases hv
theorem BytesAt.of_same {w w' : World} {a : Option Addr} {rs : List (BitVec 8)} (h : BytesAt w a rs) (hs : ∀ ad v, w.cell? ad = some v → a = some ad ∨ (∃ b, a = some b ∧ b.block = ad.block) → w'.cell? ad = some v) : BytesAt w' a rs := fun j v hv => by
  obtain ⟨ad, rfl, hc⟩ := h j v hv
  refine ⟨ad, rfl, hs _ v hc (.inr ⟨ad, rfl, ?_⟩)⟩
  unfold Addr.add
  split <;> rfl
theorem BytesAt.grow {w w' : World} {a : Option Addr} {rs : List (BitVec 8)} (h : BytesAt w a rs) (hg : Grow w w') : BytesAt w' a rs :=
  h.of_same fun _ _ hc _ => (hg.cell (block_lt_of_cell hc)).trans hc
theorem BytesAt.turn {w w' : World} {a : Option Addr} {rs : List (BitVec 8)} (h : BytesAt w a rs) {b : Nat} (ht : TurnAt b w w') (hb : ∀ ad, a = some ad → ad.block ≠ b) : BytesAt w' a rs :=
  h.of_same fun ad v hc ho => by
    have : ad.block ≠ b := by
      rcases ho with rfl | ⟨x, rfl, e⟩
      · exact hb ad rfl
      · exact e ▸ hb x rfl
    rw [World.cell?_of_block (w := w) (ht.other ad.block this)]
    exact hc
theorem BytesAt.range {w : World} {b o : Nat} {rs : List (BitVec 8)} (h : w.rangeAt b o (rs.map U8)) : BytesAt w (some ⟨b, o, none⟩) rs := fun j v hv => ⟨_, rfl, by rw [Addr.add_mid]; exact h j v hv⟩

section
variable {P : Program} {G : Cls} {ro : Option Nat} {ops : Array Oper} {N : Nat} {ds : List Deferred} {fs : List Nat} {Z : Fr → Cls → Prop} {F : Fr} {C : Cls} {rest : List Oper}
variable {d : Nat} {ty : TypeId} {pos : String} {af : Array Edge} {gd : Option (Nat × Bool)} {B : Bs} {L : Hl}
end

end Go.Proofs.Ytdkgiilmanhpbaa

namespace Go.Proofs.Ytdkgiilmanhpbaa
open Go.RowKit

/-- A slice of bytes of our own, or nil. -/
def OwnSl (L : Hl) (n : Nat) (e : TypeId) (a0 : Option Addr) (cap : Nat) (xs : List (BitVec 8)) : Prop :=
  (a0 = none ∧ xs = [] ∧ cap = 0) ∨ ∃ b c, a0 = some ⟨b, 0, none⟩ ∧ lkB L n = some (b, c, e) ∧ c.length = cap ∧ xs.length ≤ cap ∧ c.take xs.length = xs.map U8
section
variable {P : Program} {G : Cls} {ro : Option Nat} {ops : Array Oper} {N : Nat} {ds : List Deferred} {fs : List Nat} {Z : Fr → Cls → Prop} {F : Fr} {C : Cls} {rest : List Oper}
variable {d : Nat} {ty : TypeId} {pos : String} {af : Array Edge} {gd : Option (Nat × Bool)} {B : Bs} {L : Hl}

/-- A slice of our own reads as its bytes. -/
theorem OwnSl.bytes {n : Nat} {e : TypeId} {a0 : Option Addr} {cap : Nat} {xs : List (BitVec 8)} (h : OwnSl L n e a0 cap xs) {Y : Nat → Prop} : ∀ w, Hq B L Y w → BytesAt w a0 xs := fun w hC => by
  rcases h with ⟨rfl, rfl, rfl⟩ | ⟨b, c, rfl, hl, hc, hle, ht⟩
  · exact bytes_nil w none
  · refine BytesAt.range fun j v hv => ?_
    rw [Nat.zero_add]
    have hcj : c[j]? = some v := by
      have : (c.take xs.length)[j]? = some v := by rw [ht]; exact hv
      rw [List.getElem?_take] at this
      split at this
      · exact this
      · cases this
    exact hp_cell hl hcj w hC
end
end Go.Proofs.Ytdkgiilmanhpbaa

namespace Go.Proofs.Ytdkgiilmanhpbaa
open Go.RowKit

theorem block_add (ad : Addr) (k : Nat) : (ad.add k).block = ad.block := by unfold Addr.add; split <;> rfl

section
variable {P : Program} {G : Cls} {ro : Option Nat} {ops : Array Oper} {N : Nat} {ds : List Deferred} {fs : List Nat} {Z : Fr → Cls → Prop} {F : Fr} {C : Cls} {rest : List Oper}
variable {d : Nat} {ty : TypeId} {pos : String} {af : Array Edge} {gd : Option (Nat × Bool)} {B : Bs} {L : Hl}
/-- A field's place, told. -/
theorem lx_fak (k : Nat) {t : TypeId} {fields : Array Field} {f : Nat} {fd : Field} {sz : Nat} {x : Operand} {b o : Nat} (hx : evF F x = some (.pointer (some ⟨b, o, none⟩))) (hu : P.underlying t = some (.struct fields)) (hf : fields[f]? = some fd)
    (hs : ∀ w, (sizeOf fd.type).run P w = .ok sz w) (hz : sz ≠ 0) (hk : o + fd.offset = k) (hw : wantF ops F ⟨some d, .fieldAddr t x f, ty, pos, af, gd⟩ = some true) (hd : Nat.blt d N = true)
    (h : Lx P G ro ops N ds (EE fs) Z rest ((d, .pointer (some ⟨b, k, none⟩)) :: F) C) : Lx P G ro ops N ds (EE fs) Z (⟨some d, .fieldAddr t x f, ty, pos, af, gd⟩ :: rest) F C :=
  lx_fa hx hu hf hs hz hw hd (by rw [hk]; exact h)
end
section
variable {K : KK} {ds : List Deferred} {F : Fr}
end
end Go.Proofs.Ytdkgiilmanhpbaa

namespace Go.Proofs.Ytdkgiilmanhpbaa
open Go.RowKit
section
variable {P : Program}
end
end Go.Proofs.Ytdkgiilmanhpbaa

namespace Go.Proofs.Ytdkgiilmanhpbaa
open Go.RowKit
theorem BytesAt.lt {w : World} {a : Option Addr} {rs : List (BitVec 8)} (h : BytesAt w a rs) (hn : rs ≠ []) : ∀ ad, a = some ad → ad.block < w.heap.size := by
  intro ad e
  subst e
  cases rs with
  | nil => exact (hn rfl).elim
  | cons x r =>
    obtain ⟨ad', e, hc⟩ := h 0 (U8 x) rfl
    cases e
    rcases Nat.lt_or_ge ad.block w.heap.size with h' | h'
    · exact h'
    · have : w.heap[(ad.add 0).block]? = none := Array.getElem?_eq_none (by rw [block_add]; exact h')
      simp [World.cell?, this] at hc
section
variable {P : Program} {G : Cls} {ro : Option Nat} {ops : Array Oper} {N : Nat} {ds : List Deferred} {fs : List Nat} {Z : Fr → Cls → Prop} {F : Fr} {C : Cls} {rest : List Oper}
variable {d : Nat} {ty : TypeId} {pos : String} {af : Array Edge} {gd : Option (Nat × Bool)}
/-- A place in a slice, wherever it lies. -/
theorem lx_isA (k : Nat) {t e : TypeId} {len cap : Nat} {x ix : Operand} {ad : Addr} {i : Int} (hx : evF F x = some (.slice (some ad) len cap)) (hi : evF F ix = some (I i)) (hu : P.underlying t = some (.slice e))
    (hs : ∀ w, (sizeOf e).run P w = .ok 1 w) (hk : i = (k : Int)) (hb : k < len) (hw : wantF ops F ⟨some d, .indexAddr t x ix, ty, pos, af, gd⟩ = some true) (hd : Nat.blt d N = true)
    (h : Lx P G ro ops N ds (EE fs) Z rest ((d, .pointer (some (ad.add k))) :: F) C) : Lx P G ro ops N ds (EE fs) Z (⟨some d, .indexAddr t x ix, ty, pos, af, gd⟩ :: rest) F C :=
  lx_val (v := .pointer (some (ad.add k))) rfl hw hd (fun _ h => by cases h) (fun a w ha _ => by
    subst hk
    have h1 : ¬ len ≤ k := by omega
    simp only [execOp, ha.ev hx, ha.ev hi]
    simp [Instr.indexAt, asIntOf, run_underlying hu, hs, h1]) h
end
end Go.Proofs.Ytdkgiilmanhpbaa

namespace Go.Proofs.Ytdkgiilmanhpbaa
open Go.RowKit
section
variable {P : Program} {G : Cls} {ro : Option Nat} {ops : Array Oper} {N : Nat} {ds : List Deferred} {fs : List Nat} {Z : Fr → Cls → Prop} {F : Fr} {C : Cls} {rest : List Oper}
variable {d : Nat} {ty : TypeId} {pos : String} {af : Array Edge} {gd : Option (Nat × Bool)} {B : Bs} {L : Hl}
end
end Go.Proofs.Ytdkgiilmanhpbaa

namespace Go.Proofs.Ytdkgiilmanhpbaa
open Go.RowKit
section
variable {P : Program}
end
end Go.Proofs.Ytdkgiilmanhpbaa

namespace Go.Proofs.Ytdkgiilmanhpbaa
open Go.RowKit
section
variable {P : Program} {G : Cls} {ro : Option Nat} {N : Nat} {ds : List Deferred} {F : Fr} {C : Cls} {K : KK}
end
section
variable {P : Program} {G : Cls} {ro : Option Nat} {ops : Array Oper} {N : Nat} {ds : List Deferred} {fs : List Nat} {Z : Fr → Cls → Prop} {F : Fr} {C : Cls} {rest : List Oper}
variable {d : Nat} {ty : TypeId} {pos : String} {af : Array Edge} {gd : Option (Nat × Bool)} {B : Bs} {L : Hl}
end
end Go.Proofs.Ytdkgiilmanhpbaa

namespace Go.Proofs.Ytdkgiilmanhpbaa
open Go.RowKit Go.WideShapes
end Go.Proofs.Ytdkgiilmanhpbaa

namespace Go.Proofs.Ytdkgiilmanhpbaa
open Go.RowKit
section
variable {P : Program} {G : Cls} {N : Nat} {ds : List Deferred} {F : Fr} {B : Bs} {L : Hl} {K : KK}
end
end Go.Proofs.Ytdkgiilmanhpbaa

namespace Go.Proofs.Ytdkgiilmanhpbaa
open Go.RowKit
def Kng (K : KK) : KK
  | .goto _ => fun _ _ _ => False
  | e => K e
section
variable {P : Program} {G : Cls} {ro : Option Nat} {N : Nat} {ds : List Deferred} {F : Fr} {C : Cls} {K : KK}
theorem kng_ret (h : K .ret ds F C) : Kng K .ret ds F C := h
theorem x_label {l : Nat} (h : K .normal ds F C) : X P G ro N ds (.label l) F C K := fun hS _ _ ha hw => wpIn_label ⟨ds, F, C, hS, ha, hw, h⟩
theorem x_scope {c : Code} (h : X P G none N ds c F C (Kng K)) : X P G none N ds (.scope c) F C K := fun hS a w ha hw => by
  refine wpIn_wide.2 (wp_scope_straight (wpIn_wide.1 (wpIn_mono (h hS a w ha hw) fun e a' w' hq => ?_)))
  cases e with
  | goto l => obtain ⟨_, _, _, _, _, _, h⟩ := hq; exact h.elim
  | _ => exact hq
end
section
variable {P : Program} {G : Cls} {ro : Option Nat} {ops : Array Oper} {N : Nat} {ds : List Deferred} {fs : List Nat} {Z : Fr → Cls → Prop} {F : Fr} {C : Cls} {rest : List Oper}
variable {d : Nat} {ty : TypeId} {pos : String} {af : Array Edge} {gd : Option (Nat × Bool)} {B : Bs} {L : Hl}
/-- A call that the model runs here and now. -/
theorem lx_ext1 {f : Nat} {al : List Operand} {at' : Array TypeId} {vs : List Value} {v : Value} (hf : fs.any (Nat.beq f) = false) (ha : evL F al = some vs) (hr : ∀ w, (callFunc f vs.toArray).run P w = .ok (.value v) w)
    (hw : wantF ops F ⟨some d, .call { callee := .value (.func f), args := al.toArray, argTypes := at' }, ty, pos, af, gd⟩ = some true) (hd : Nat.blt d N = true)
    (h : Lx P G ro ops N ds (EE fs) Z rest ((d, v) :: F) C) : Lx P G ro ops N ds (EE fs) Z (⟨some d, .call { callee := .value (.func f), args := al.toArray, argTypes := at' }, ty, pos, af, gd⟩ :: rest) F C :=
  lx_val (v := v) (by simpa [EE] using hf) hw hd (fun _ h => by cases h) (fun a w hA _ => by
    have e := hA.evL ha
    simp only [execOp, resolve, invoke, Sem.run_bind, Sem.run_pure, Result.andThen_ok, List.map_toArray, e, Act.eval, Deferred.ofValue]
    simp [hr w]) h
/-- Results: two slots. -/
theorem kret_tt {fn : Func} {R : Ending → World → Prop} {t1 t2 : Nat} {v1 v2 : Value} (hr : fn.results = #[.tmp t1, .tmp t2]) (hv1 : lk F t1 = some v1) (hv2 : lk F t2 = some v2)
    (h : ∀ w, C w → R (.returned (.tuple #[v1, v2])) w) : Kret P fn R .ret [] F C :=
  ⟨rfl, fun a w ha hC => ⟨.tuple #[v1, v2], by simp [results, hr, ha.get t1 _ hv1, ha.get t2 _ hv2], h w hC⟩⟩
end
section
variable {P : Program}
end
end Go.Proofs.Ytdkgiilmanhpbaa

namespace Go.Proofs.Ytdkgiilmanhpbaa
open Go.RowKit
/-- The cells lie there. -/
def CellsAt (w : World) (a : Option Addr) (cs : List Value) : Prop := ∀ j v, cs[j]? = some v → ∃ ad, a = some ad ∧ w.cell? (ad.add j) = some v
theorem CellsAt.grow {w w' : World} {a : Option Addr} {cs : List Value} (h : CellsAt w a cs) (hg : Grow w w') : CellsAt w' a cs := fun j v hv => by
  obtain ⟨ad, e, hc⟩ := h j v hv
  refine ⟨ad, e, ?_⟩
  have hlt : (ad.add j).block < w.heap.size := block_lt_of_cell hc
  rw [World.cell?_of_block (w := w) (hg.block _ hlt)]
  exact hc
theorem CellsAt.range {w : World} {b o : Nat} {cs : List Value} (h : w.rangeAt b o cs) : CellsAt w (some ⟨b, o, none⟩) cs := fun j v hv => ⟨_, rfl, by rw [Addr.add_mid]; exact h j v hv⟩
theorem CellsAt.take {w : World} {a : Option Addr} {cs : List Value} (h : CellsAt w a cs) (n : Nat) : CellsAt w a (cs.take n) := fun j v hv => h j v (by
  rw [List.getElem?_take] at hv
  split at hv
  · exact hv
  · cases hv)
theorem cells_nil (w : World) (a : Option Addr) : CellsAt w a [] := fun _ _ h => by cases h
def OwnV (L : Hl) (n : Nat) (e : TypeId) (a0 : Option Addr) (cap : Nat) (xs : List Value) : Prop :=
  (a0 = none ∧ xs = [] ∧ cap = 0) ∨ ∃ b c, a0 = some ⟨b, 0, none⟩ ∧ lkB L n = some (b, c, e) ∧ c.length = cap ∧ xs.length ≤ cap ∧ c.take xs.length = xs
theorem OwnV.cells {B : Bs} {L : Hl} {n : Nat} {e : TypeId} {a0 : Option Addr} {cap : Nat} {xs : List Value} (h : OwnV L n e a0 cap xs) {Y : Nat → Prop} : ∀ w, Hq B L Y w → CellsAt w a0 xs := fun w hC => by
  rcases h with ⟨rfl, rfl, rfl⟩ | ⟨b, c, rfl, hl, hc, hle, ht⟩
  · exact cells_nil w none
  · refine CellsAt.range fun j v hv => ?_
    rw [Nat.zero_add]
    have hcj : c[j]? = some v := by
      have : (c.take xs.length)[j]? = some v := by rw [ht]; exact hv
      rw [List.getElem?_take] at this
      split at this
      · exact this
      · cases this
    exact hp_cell hl hcj w hC
section
variable {P : Program} {G : Cls} {ro : Option Nat} {ops : Array Oper} {N : Nat} {ds : List Deferred} {fs : List Nat} {Z : Fr → Cls → Prop} {F : Fr} {C : Cls} {rest : List Oper}
variable {d : Nat} {ty : TypeId} {pos : String} {af : Array Edge} {gd : Option (Nat × Bool)} {B : Bs} {L : Hl}
/-- A slice literal. -/
theorem lx_bslV (n : Nat) (xs : List Value) {t e : TypeId} {len : Nat} {z : Value} {ps : List (Nat × Operand)} (hB : BOk G B) (hx : evL F (ps.map (·.2)) = some xs) (hi : ps.map (·.1) = List.range len) (hn : xs.length = len) (hl : len ≤ 16777216) (h0 : len ≠ 0) (hu : P.underlying t = some (.slice e))
    (hs : ∀ w, (sizeOf e).run P w = .ok 1 w) (hz : ∀ w, (zeroValue e).run P w = .ok z w) (hone : xs.all (·.oneCell') = true) (hw : wantF ops F ⟨some d, .buildSlice t len ps.toArray, ty, pos, af, gd⟩ = some true) (hd : Nat.blt d N = true)
    (h : ∀ b, Lx P G ro ops N ds (EE fs) Z rest ((d, .slice (some ⟨b, 0, none⟩) xs.length xs.length) :: F) (Hp B ((n, b, xs, e) :: L)))
    (hgr : fs.any (Nat.beq 2999998) = false := by rfl) : Lx P G ro ops N ds (EE fs) Z (⟨some d, .buildSlice t len ps.toArray, ty, pos, af, gd⟩ :: rest) F (Hp B L) := by
  refine lx_run (hgr := hgr) rfl hw hd (fun _ h => by cases h) fun a w ha hC => ?_
  refine ⟨.slice (some ⟨w.heap.size, 0, none⟩) xs.length xs.length, w.alloc (.cells xs.toArray e), _, .inl ?_, good_hp hB, hC.alloc hB.r n xs e, h w.heap.size⟩
  have e1 : (ps.toArray.map fun (i, x) => (i, a.eval x)) = ((List.range len).zip xs).toArray := by
    rw [← hi, ← ha.evL hx, List.map_toArray, List.map_map, List.zip_map']
    rfl
  have hf := fill_row xs 0 ((Array.range (len * 1)).map (z.cells[· % z.cells.size]!)).toList (by simp [hn]) hone
  rw [lay_all _ _ (by simp [hn]), ← List.range_eq_range', hn] at hf
  simp only [Array.toArray_toList] at hf
  have hlt : ¬ (len * 1 > 2 ^ 24) := by omega
  show ((do pure (.value (← Instr.buildSlice t len (ps.toArray.map fun (i, x) => (i, a.eval x)))) : Sem Next)).run P w = _
  rw [e1]
  have hb : (Instr.buildSlice t len ((List.range len).zip xs).toArray).run P w = .ok (.slice (some ⟨w.heap.size, 0, none⟩) len len) (w.alloc (.cells xs.toArray e)) := by
    have h00 : ¬ (len * 1 = 0) := by omega
    simp only [Instr.buildSlice, Sem.run_bind, run_underlying hu, Result.andThen_ok, hs, if_neg hlt, if_neg h00, hz, Sem.run_pure, hf]
    simp [newRow]
  rw [hn]
  simp only [Sem.run_bind, hb, Result.andThen_ok]; rfl
end
end Go.Proofs.Ytdkgiilmanhpbaa

namespace Go.Proofs.Ytdkgiilmanhpbaa
open Go.RowKit
section
variable {P : Program} {G : Cls} {ro : Option Nat} {md : Region.Mode} {ops : Array Oper} {N : Nat} {ds : List Deferred} {E : Oper → Bool} {Q : Exit → Act → World → Prop}
theorem Has.free {F : Fr} {a : Act} (h : Has N ds F a) {d : Nat} (hd : lk F d = none) (v : Value) : Has N ds F (a.put (some d) v) :=
  ⟨by simp [Act.put, h.size], by simp [Act.put, h.defers], fun t u hu => by
    have hne : d ≠ t := fun e => by subst e; rw [hd] at hu; cases hu
    simp only [Act.put, Array.getElem?_setIfInBounds_ne hne]
    exact h.get t u hu⟩
end
section
variable {P : Program} {G : Cls} {ro : Option Nat} {N : Nat} {ds : List Deferred} {F : Fr} {C : Cls} {K : KK}
end
end Go.Proofs.Ytdkgiilmanhpbaa

namespace Go.Proofs.Ytdkgiilmanhpbaa
open Go.RowKit
section
variable {P : Program} {G : Cls} {ro : Option Nat} {md : Region.Mode} {ops : Array Oper} {N : Nat} {ds : List Deferred} {E : Oper → Bool} {Q : Exit → Act → World → Prop} {KK' : Cls → Prop} {mk rk : Oper → Bool}
end
section
variable {P : Program} {G : Cls} {ro : Option Nat} {N : Nat} {ds : List Deferred} {F : Fr} {C : Cls} {K : KK}
end
end Go.Proofs.Ytdkgiilmanhpbaa
