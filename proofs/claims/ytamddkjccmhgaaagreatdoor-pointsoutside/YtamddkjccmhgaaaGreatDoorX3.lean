/-
  A struct whose one field fills it; an array of which only the first element is named. Nothing here names a program.
  Structs whose one field fills them, compared. Nothing here names a program.
  The engine, part 27: rows inside blocks; calls whose answer is known. Nothing here names a program.
  The engine, part 28: arrays of bytes compared; bools compared. Nothing here names a program.
  The engine, part 29: parts laid into what is built; rows of rows. Nothing here names a program.
  The engine, part 30: a plain region walked in two parts, the second as it suits. Nothing here names a program.
  The engine, part 31: a region that draws its order, by the tree of its orders where memory grows in several ways at once. Nothing here names a program.
  The engine, part 32: a slice of bytes made; a choice behind what was passed by. Nothing here names a program.
  The engine, part 33: reads of what no step of a region can turn; the base moved. Nothing here names a program.
  The engine, part 34: slices from a place on; slices as arrays. Nothing here names a program.
  The engine, part 35: structs of two rows: built, read, compared. Nothing here names a program.
  The engine, part 36: rows of rows of twelve. Nothing here names a program.
  The engine, part 37: two ways that meet again. Nothing here names a program.
  The engine, part 38: a large region that draws its order and makes nothing: its check by a table. Nothing here names a program.
  The engine, part 39: structs of three rows: built, read, written; arrays of rows compared. Nothing here names a program.
  The engine, part 40: arrays of rows of twelve, built of some; three results. Nothing here names a program.
  The engine, part 41: arrays of rows of twelve, made and read; rounds that carry a fact; a single value handed back. Nothing here names a program.
  The engine, part 42: rows of rows of any width; parts of rows within rows. Nothing here names a program.
  The engine, part 43: slices of values of several cells: a literal of one, append. Nothing here names a program.
  The engine, part 44: slices made, and bytes appended, where the class is only narrowed (marks 2999998 and 2999997).
  The engine, part 45: slice literals of values of several cells; the class is only narrowed.
  The engine, part 46: bytes made bytes again, beside other steps. Nothing here names a program.
  The engine, part 47: two variables handed back.
  Values held in interfaces, their methods called; parts of slices with three indices.
-/
import Derived.Test.YtamddkjccmhgaaaGreatDoorX2
import Derived.Laws.MakeOwn
import Derived.Deep.AppendSrc
namespace Go.Proofs.YtamddkjccmhgaaaGreatDoor
open Go.RowKit
set_option maxRecDepth 100000
section
variable {P : Program} {G : Cls} {ro : Option Nat} {ops : Array Oper} {N : Nat} {ds : List Deferred} {fs : List Nat} {Z : Fr → Cls → Prop} {rest : List Oper} {F : Fr} {C : Cls} {d : Nat} {ty : TypeId} {pos : String} {af : Array Edge} {gd : Option (Nat × Bool)}
theorem run_buildS {t : TypeId} {f : Field} {l : List (BitVec 64)} (hl : l.length = 6) (hu : P.underlying t = some (.struct #[f])) (h0 : f.offset = 0) (hs : ∀ w, (sizeOf f.type).run P w = .ok 6 w)
    (hz : ∀ w, (zeroValue t).run P w = .ok (.agg ((List.replicate 6 0#64).map U64).toArray) w) (w : World) : (Instr.build t #[(0, .agg (l.map U64).toArray)]).run P w = .ok (.agg (l.map U64).toArray) w := by
  match l, hl with
  | [_, _, _, _, _, _], _ => simp [Instr.build, hz, run_underlying hu, hs, h0, Value.cells, Instr.fill, List.replicate]
theorem lx_buildS {t : TypeId} {f : Field} {x : Operand} {l : List (BitVec 64)} (hx : evF F x = some (.agg (l.map U64).toArray)) (hl : l.length = 6) (hu : P.underlying t = some (.struct #[f])) (h0 : f.offset = 0) (hs : ∀ w, (sizeOf f.type).run P w = .ok 6 w)
    (hz : ∀ w, (zeroValue t).run P w = .ok (.agg ((List.replicate 6 0#64).map U64).toArray) w) (hw : wantF ops F ⟨some d, .build t #[(0, x)], ty, pos, af, gd⟩ = some true) (hd : Nat.blt d N = true)
    (h : Lx P G ro ops N ds (EE fs) Z rest ((d, .agg (l.map U64).toArray) :: F) C) : Lx P G ro ops N ds (EE fs) Z (⟨some d, .build t #[(0, x)], ty, pos, af, gd⟩ :: rest) F C :=
  lx_build (ps := [(0, x)]) (vs := [.agg (l.map U64).toArray]) (by simp [evL, hx]) (fun w => run_buildS hl hu h0 hs hz w) hw hd h
theorem run_build1 {t e : TypeId} {n : BitVec 64} (hu : P.underlying t = some (.array 6 e)) (hs : ∀ w, (sizeOf e).run P w = .ok 1 w)
    (hz : ∀ w, (zeroValue t).run P w = .ok (.agg ((List.replicate 6 0#64).map U64).toArray) w) (w : World) : (Instr.build t #[(0, U64 n)]).run P w = .ok (.agg ((n :: List.replicate 5 0).map U64).toArray) w := by
  simp [Instr.build, hz, run_underlying hu, hs, Value.cells, Instr.fill, List.replicate, U64]
theorem lx_build1 {t e : TypeId} {x : Operand} (n : BitVec 64) (hx : evF F x = some (U64 n)) (hu : P.underlying t = some (.array 6 e)) (hs : ∀ w, (sizeOf e).run P w = .ok 1 w)
    (hz : ∀ w, (zeroValue t).run P w = .ok (.agg ((List.replicate 6 0#64).map U64).toArray) w) (hw : wantF ops F ⟨some d, .build t #[(0, x)], ty, pos, af, gd⟩ = some true) (hd : Nat.blt d N = true)
    (h : Lx P G ro ops N ds (EE fs) Z rest ((d, .agg ((n :: List.replicate 5 0).map U64).toArray) :: F) C) : Lx P G ro ops N ds (EE fs) Z (⟨some d, .build t #[(0, x)], ty, pos, af, gd⟩ :: rest) F C :=
  lx_build (ps := [(0, x)]) (vs := [U64 n]) (by simp [evL, hx]) (fun w => run_build1 hu hs hz w) hw hd h
end
end Go.Proofs.YtamddkjccmhgaaaGreatDoor

namespace Go.Proofs.YtamddkjccmhgaaaGreatDoor
open Go.RowKit
set_option maxRecDepth 100000
section
variable {P : Program}
theorem OwnB.range {w : World} {b : Nat} {c : List Value} {t : TypeId} (h : OwnB w b c t) : w.rangeAt b 0 c := by
  obtain ⟨fz, h, _⟩ := h
  intro j v hj
  simp [World.cell?, h, hj]
end
end Go.Proofs.YtamddkjccmhgaaaGreatDoor

namespace Go.Proofs.YtamddkjccmhgaaaGreatDoor
open Go.RowKit
set_option maxRecDepth 100000
section
variable {P : Program} {G : Cls} {ro : Option Nat} {ops : Array Oper} {N : Nat} {ds : List Deferred} {fs : List Nat} {Z : Fr → Cls → Prop} {F : Fr} {C : Cls} {rest : List Oper}
variable {d : Nat} {ty : TypeId} {pos : String} {af : Array Edge} {gd : Option (Nat × Bool)}
variable {B : Bs} {L : Hl}
/-- A call that answers yes or no, where it is known which. -/
theorem lx_callB {f : Nat} {al : List Operand} {at' : Array TypeId} {vs : List Value} {b : Bool} (b' : Bool) (hf : fs.any (Nat.beq f) = false) (ha : evL F al = some vs) (he : Enters P f) (hp : Pure P G f vs (.bool b)) (hb : b = b')
    (hw : wantF ops F ⟨some d, .call { callee := .value (.func f), args := al.toArray, argTypes := at' }, ty, pos, af, gd⟩ = some true) (hd : Nat.blt d N = true)
    (h : Lx P G ro ops N ds (EE fs) Z rest ((d, .bool b') :: F) C) : Lx P G ro ops N ds (EE fs) Z (⟨some d, .call { callee := .value (.func f), args := al.toArray, argTypes := at' }, ty, pos, af, gd⟩ :: rest) F C :=
  lx_call hf ha he (hb ▸ hp) hw hd h
theorem lx_binB {op : BinOp} {t yt : TypeId} {x y : Operand} {vx vy : Value} {b : Bool} (b' : Bool) (hx : evF F x = some vx) (hy : evF F y = some vy) (hg : ∀ w, (eqGuard op t x y vx vy).run P w = .ok () w)
    (hr : ∀ w, (binOp op t vx vy).run P w = .ok (.bool b) w) (hb : b = b') (hw : wantF ops F ⟨some d, .binOp op t x y yt, ty, pos, af, gd⟩ = some true) (hd : Nat.blt d N = true)
    (h : Lx P G ro ops N ds (EE fs) Z rest ((d, .bool b') :: F) C) : Lx P G ro ops N ds (EE fs) Z (⟨some d, .binOp op t x y yt, ty, pos, af, gd⟩ :: rest) F C :=
  lx_bin hx hy hg (hb ▸ hr) hw hd h
/-- A package-level row read. -/
theorem lx_gl {t : TypeId} {g m : Nat} {cs : List Value} (hG : BOk G B) (hag : ∀ w, (isAgg t).run P w = .ok true w) (hs : ∀ w, (sizeOf t).run P w = .ok m w) (hm : cs.length = m) (hc : ∀ w, G w → w.rangeAt g 0 cs)
    (hw : wantF ops F ⟨some d, .load t (.global g), ty, pos, af, gd⟩ = some true) (hd : Nat.blt d N = true)
    (h : Lx P G ro ops N ds (EE fs) Z rest ((d, .agg cs.toArray) :: F) (Hp B L)) : Lx P G ro ops N ds (EE fs) Z (⟨some d, .load t (.global g), ty, pos, af, gd⟩ :: rest) F (Hp B L) :=
  lx_loadr rfl hag hs hm (fun w hw => hc w (hG.g _ _ w hw)) hw hd h
/-- A row read out of a block of ours. -/
theorem lx_loado (n : Nat) {t et : TypeId} {x : Operand} {b o m : Nat} {c : List Value} (cs : List Value) (hx : evF F x = some (.pointer (some ⟨b, o, none⟩))) (hl : lkB L n = some (b, c, et)) (hag : ∀ w, (isAgg t).run P w = .ok true w) (hs : ∀ w, (sizeOf t).run P w = .ok m w)
    (hm : cs.length = m) (hv : ∀ j v, cs[j]? = some v → c[o + j]? = some v) (hw : wantF ops F ⟨some d, .load t x, ty, pos, af, gd⟩ = some true) (hd : Nat.blt d N = true)
    (h : Lx P G ro ops N ds (EE fs) Z rest ((d, .agg cs.toArray) :: F) (Hp B L)) : Lx P G ro ops N ds (EE fs) Z (⟨some d, .load t x, ty, pos, af, gd⟩ :: rest) F (Hp B L) :=
  lx_loadr hx hag hs hm (hp_range (n := n) hl hv) hw hd h
/-- A row written into a block of ours, to a known end. -/
theorem lx_storeo (n : Nat) {t et : TypeId} {x y : Operand} {b o m : Nat} {c : List Value} {vs : List Value} (c' : List Value) (hG : BOk G B) (hx : evF F x = some (.pointer (some ⟨b, o, none⟩))) (hy : evF F y = some (.agg vs.toArray)) (hl : lkB L n = some (b, c, et))
    (hs : ∀ w, (sizeOf t).run P w = .ok m w) (hm : vs.length = m) (hv : vs.all (·.oneCell') = true) (ho : o + vs.length ≤ c.length) (he : lay o vs c = c') (hw : wantF ops F ⟨none, .store t x y, ty, pos, af, gd⟩ = some true)
    (h : Lx P G ro ops N ds (EE fs) Z rest F (Hp B ((n, b, c', et) :: L))) : Lx P G ro ops N ds (EE fs) Z (⟨none, .store t x y, ty, pos, af, gd⟩ :: rest) F (Hp B L) :=
  lx_storer n hG hx hy hl hs hm hv ho hw (he ▸ h)
/-- A place in an array of rows. -/
theorem lx_iak {t e : TypeId} {len sz : Nat} (k o' : Nat) {x ix : Operand} {b o : Nat} {i : Int} (hx : evF F x = some (.pointer (some ⟨b, o, none⟩))) (hi : evF F ix = some (I i)) (hu : P.underlying t = some (.array len e))
    (hs : ∀ w, (sizeOf e).run P w = .ok sz w) (hk : i = (k : Int)) (hb : k < len) (ho : o + k * sz = o') (hw : wantF ops F ⟨some d, .indexAddr t x ix, ty, pos, af, gd⟩ = some true) (hd : Nat.blt d N = true)
    (h : Lx P G ro ops N ds (EE fs) Z rest ((d, .pointer (some ⟨b, o', none⟩)) :: F) C) : Lx P G ro ops N ds (EE fs) Z (⟨some d, .indexAddr t x ix, ty, pos, af, gd⟩ :: rest) F C :=
  lx_ia hx hi hu hs (by omega) hw hd (by rw [show i.toNat = k by omega, ho]; exact h)
end
end Go.Proofs.YtamddkjccmhgaaaGreatDoor

namespace Go.Proofs.YtamddkjccmhgaaaGreatDoor
open Go.RowKit
set_option maxRecDepth 100000
section
variable {P : Program}
theorem bm_one {f : Field} {n : Nat} (hs : ∀ w, (sizeOf f.type).run P w = .ok n w) (w : World) : ∃ a, (Array.mapM (fun f : Field => Prod.mk f.offset <$> sizeOf f.type) #[f] : Sem _).run P w = .ok a w := ⟨#[(f.offset, n)], by simp [hs]⟩
theorem bin_eql_bool (t : TypeId) (hu : P.underlying t = some .bool) (a b : Bool) (w : World) : (binOp .eql t (.bool a) (.bool b)).run P w = .ok (.bool (a == b)) w := by
  have h : ∀ d : Nat, (Op.equalIn (d + 1) t (.bool a) (.bool b)).run P w = .ok (a == b) w := fun d => by simp [Op.equalIn, run_underlying hu]
  simp only [binOp]
  simp [Op.equal, Op.maxDepth, h 9999]
theorem bin_neq_bool (t : TypeId) (hu : P.underlying t = some .bool) (a b : Bool) (w : World) : (binOp .neq t (.bool a) (.bool b)).run P w = .ok (.bool (a != b)) w := by
  have h : ∀ d : Nat, (Op.equalIn (d + 1) t (.bool a) (.bool b)).run P w = .ok (a == b) w := fun d => by simp [Op.equalIn, run_underlying hu]
  simp only [binOp]
  simp [Op.equal, Op.maxDepth, h 9999, bne]
end
end Go.Proofs.YtamddkjccmhgaaaGreatDoor

namespace Go.Proofs.YtamddkjccmhgaaaGreatDoor
open Go.RowKit
set_option maxRecDepth 100000
theorem fold_lay (o : Nat) : ∀ (vs : List Value) (k : Nat) (c : List Value), (vs.zipIdx k).foldl (fun (cs : Array Value) (p : Value × Nat) => cs.setIfInBounds (o + p.2) p.1) c.toArray = (lay (o + k) vs c).toArray
  | [], _, _ => rfl
  | v :: r, k, c => by
    have ih := fold_lay o r (k + 1) (c.set (o + k) v)
    rw [List.zipIdx_cons, List.foldl_cons, lay]
    simp only [List.setIfInBounds_toArray]
    rw [ih, Nat.add_assoc]
theorem fill_one {place : Nat → Option (Nat × Nat)} {i off size : Nat} {vs c : List Value} (hp : place i = some (off, size)) (hs : vs.length = size) (ho : off + vs.length ≤ c.length) (rest : List (Nat × Value)) :
    Instr.fill place c.toArray ((i, .agg vs.toArray) :: rest) = Instr.fill place (lay off vs c).toArray rest := by
  have h := fold_lay off vs 0 c
  have hn : ¬ ((decide ((Value.agg vs.toArray).cells.size ≠ size) || decide (off + (Value.agg vs.toArray).cells.size > c.toArray.size)) = true) := by
    simp [Value.cells, hs]; omega
  have e : (Value.agg vs.toArray).cells.zipIdx.foldl (fun (cs : Array Value) (p : Value × Nat) => cs.setIfInBounds (off + p.2) p.1) c.toArray = (lay off vs c).toArray := by
    rw [← Array.foldl_toList, Array.toList_zipIdx]
    exact h
  rw [Instr.fill, hp]
  show (if (decide ((Value.agg vs.toArray).cells.size ≠ size) || decide (off + (Value.agg vs.toArray).cells.size > c.toArray.size)) = true then none else _) = _
  rw [if_neg hn, ← e]
/-! ### Rows of six -/
def FL (f : Nat → List (BitVec 64)) (n : Nat) : List (BitVec 64) := (List.range (6 * n)).map fun m => (f (m / 6)).getD (m % 6) 0
theorem FL_len (f : Nat → List (BitVec 64)) (n : Nat) : (FL f n).length = 6 * n := by rw [FL, List.length_map, List.length_range]
theorem FL_get (f : Nat → List (BitVec 64)) (n m : Nat) (h : m < 6 * n) : (FL f n)[m]? = some ((f (m / 6)).getD (m % 6) 0) := by
  rw [FL, List.getElem?_map, List.getElem?_range h]; rfl
theorem FL_load (f : Nat → List (BitVec 64)) (n k : Nat) (hk : k < n) (hf : (f k).length = 6) (o : Nat) (ho : o = 6 * k) : ∀ j v, ((f k).map U64)[j]? = some v → ((FL f n).map U64)[o + j]? = some v := fun j v hv => by
  have hj : j < 6 := by
    rcases Nat.lt_or_ge j 6 with h | h
    · exact h
    · rw [List.getElem?_eq_none (by rw [List.length_map, hf]; exact h)] at hv; cases hv
  rw [List.getElem?_map] at hv ⊢
  rw [FL_get f n (o + j) (by omega), show (o + j) / 6 = k by omega, show (o + j) % 6 = j by omega]
  rw [List.getElem?_eq_getElem (by omega)] at hv
  rw [← hv, List.getD_eq_getElem?_getD, List.getElem?_eq_getElem (by omega)]
  rfl
theorem FL_congr {f g : Nat → List (BitVec 64)} {n : Nat} (h : ∀ i, i < n → f i = g i) : FL f n = FL g n := by
  unfold FL
  refine List.map_congr_left fun m hm => ?_
  rw [List.mem_range] at hm
  rw [h (m / 6) (by omega)]
theorem FL_lay (f : Nat → List (BitVec 64)) (n k : Nat) (g : List (BitVec 64)) (hk : k < n) (hg : g.length = 6) (o : Nat) (ho : o = 6 * k) : lay o (g.map U64) ((FL f n).map U64) = (FL (fun i => if i = k then g else f i) n).map U64 := by
  apply List.ext_getElem?
  intro m
  rw [lay_get _ _ _ _ (by rw [List.length_map, List.length_map, FL_len, hg]; omega)]
  rw [List.length_map, hg, List.getElem?_map (l := FL (fun i => if i = k then g else f i) n)]
  by_cases hm : m < 6 * n
  · rw [FL_get _ n m hm]
    by_cases h : o ≤ m ∧ m < o + 6
    · rw [if_pos h, if_pos (by omega), List.getElem?_map, List.getElem?_eq_getElem (by omega), List.getD_eq_getElem?_getD, show m % 6 = m - o by omega, List.getElem?_eq_getElem (by omega)]
      rfl
    · rw [if_neg h, if_neg (by omega), List.getElem?_map, FL_get f n m hm]
  · rw [if_neg (by omega), List.getElem?_map, List.getElem?_eq_none (by rw [FL_len]; omega), List.getElem?_eq_none (by rw [FL_len]; omega)]
section
variable {P : Program} {G : Cls} {ro : Option Nat} {ops : Array Oper} {N : Nat} {ds : List Deferred} {fs : List Nat} {Z : Fr → Cls → Prop} {F : Fr} {C : Cls} {rest : List Oper}
variable {d : Nat} {ty : TypeId} {pos : String} {af : Array Edge} {gd : Option (Nat × Bool)}
theorem run_buildA {t e : TypeId} {n : Nat} {l : List (BitVec 64)} {z : Nat → List (BitVec 64)} (hl : l.length = 6) (hn : 0 < n) (hu : P.underlying t = some (.array n e)) (hs : ∀ w, (sizeOf e).run P w = .ok 6 w)
    (hz : ∀ w, (zeroValue t).run P w = .ok (.agg ((FL z n).map U64).toArray) w) (w : World) : (Instr.build t #[(0, .agg (l.map U64).toArray)]).run P w = .ok (.agg ((FL (fun i => if i = 0 then l else z i) n).map U64).toArray) w := by
  have h := fill_one (place := fun i => some (i * 6, 6)) (i := 0) (off := 0) (vs := l.map U64) (c := (FL z n).map U64) rfl (by rw [List.length_map, hl]) (by rw [List.length_map, List.length_map, FL_len, hl]; omega) []
  rw [FL_lay z n 0 l hn hl 0 rfl] at h
  simp only [Instr.build, hz, run_underlying hu, hs, Sem.run_bind, Result.andThen_ok]
  rw [show (Value.agg (List.map U64 (FL z n)).toArray).cells = (List.map U64 (FL z n)).toArray from rfl, h]
  rfl
theorem lx_buildA {t e : TypeId} {n : Nat} {x : Operand} {l : List (BitVec 64)} {z : Nat → List (BitVec 64)} (hx : evF F x = some (.agg (l.map U64).toArray)) (hl : l.length = 6) (hn : 0 < n) (hu : P.underlying t = some (.array n e)) (hs : ∀ w, (sizeOf e).run P w = .ok 6 w)
    (hz : ∀ w, (zeroValue t).run P w = .ok (.agg ((FL z n).map U64).toArray) w) (hw : wantF ops F ⟨some d, .build t #[(0, x)], ty, pos, af, gd⟩ = some true) (hd : Nat.blt d N = true)
    (h : Lx P G ro ops N ds (EE fs) Z rest ((d, .agg ((FL (fun i => if i = 0 then l else z i) n).map U64).toArray) :: F) C) : Lx P G ro ops N ds (EE fs) Z (⟨some d, .build t #[(0, x)], ty, pos, af, gd⟩ :: rest) F C :=
  lx_build (ps := [(0, x)]) (vs := [.agg (l.map U64).toArray]) (by simp [evL, hx]) (fun w => run_buildA hl hn hu hs hz w) hw hd h
end
end Go.Proofs.YtamddkjccmhgaaaGreatDoor

namespace Go.Proofs.YtamddkjccmhgaaaGreatDoor
open Go.RowKit
set_option maxRecDepth 100000
section
variable {P : Program} {G : Cls} {ro : Option Nat} {ops : Array Oper} {N : Nat} {ds : List Deferred} {E : Oper → Bool} {Q : Exit → Act → World → Prop}
theorem wpListIn_cut {Z : Fr → Cls → Prop} (hZ : ∀ F C, Good G C → Z F C → After N ds Q .normal F C) (l2 : List Oper) : ∀ (l : List Oper) (F : Fr) (C : Cls), Good G C →
    Lx P G ro ops N ds E (fun F' C' => ∃ E', Lx P G ro ops N ds E' Z l2 F' C') l F C → ∀ a w, Has N ds F a → C w → wpListIn (FW ro) 0 P ops Q (l ++ l2) a w
  | [], F, C, hS, h, a, w, ha, hw => by
    obtain ⟨E', h⟩ := h
    exact wpListIn_of_Lx hZ l2 F C hS h a w ha hw
  | o :: rest, F, C, hS, h, a, w, ha, hw => by
    rw [List.cons_append]
    unfold wpListIn
    unfold Lx at h
    cases hE : E o with
    | true =>
      rw [hE] at h
      obtain ⟨hwant, hwp⟩ := h a w ha hw
      rw [if_pos hwant]
      refine Oper.wpIn_exits (Oper.wpIn_mono (fun a' w' hk => ?_) hwp)
      obtain ⟨F', C', ha', hS', hw', _, hk⟩ := hk
      exact wpListIn_cut hZ l2 rest F' C' hS' hk a' w' ha' hw'
    | false =>
      rw [hE] at h
      obtain ⟨v, ⟨hd, hy⟩, hk⟩ := h
      have hcls : clsOf G o C w := clsOf_of hS hw
      rcases hy a ha with ⟨hwant, hy⟩ | ⟨hwant, rfl⟩
      · rw [if_pos hwant]
        exact hy.wpIn hcls fun w' hg => wpListIn_cut hZ l2 rest _ C hS hk _ w' (ha.putF hd v) (hS.1 _ _ hw hg)
      · rw [if_neg (by simp [hwant])]
        exact ⟨fun f _ => fence_fn ro f, wpListIn_cut hZ l2 rest _ C hS hk _ w (ha.putF hd _) hw⟩
end
section
variable {P : Program} {G : Cls} {ro : Option Nat} {ops : Array Oper} {N : Nat} {ds : List Deferred} {fs : List Nat} {Z : Fr → Cls → Prop} {F : Fr} {C : Cls} {rest : List Oper}
variable {d : Nat} {ty : TypeId} {pos : String} {af : Array Edge} {gd : Option (Nat × Bool)}
/-- A place in an array of rows, by a byte. -/
theorem lx_iak8 {t e : TypeId} {len sz : Nat} (o' : Nat) {x ix : Operand} {b o : Nat} {i : BitVec 8} (hx : evF F x = some (.pointer (some ⟨b, o, none⟩))) (hi : evF F ix = some (U8 i)) (hu : P.underlying t = some (.array len e))
    (hs : ∀ w, (sizeOf e).run P w = .ok sz w) (hb : i.toNat < len) (ho : o + i.toNat * sz = o') (hw : wantF ops F ⟨some d, .indexAddr t x ix, ty, pos, af, gd⟩ = some true) (hd : Nat.blt d N = true)
    (h : Lx P G ro ops N ds (EE fs) Z rest ((d, .pointer (some ⟨b, o', none⟩)) :: F) C) : Lx P G ro ops N ds (EE fs) Z (⟨some d, .indexAddr t x ix, ty, pos, af, gd⟩ :: rest) F C :=
  lx_val (v := .pointer (some ⟨b, o', none⟩)) rfl hw hd (fun _ h => by cases h) (fun a w ha _ => by
    have h1 : ¬ len ≤ i.toNat := by omega
    simp only [execOp, ha.ev hx, ha.ev hi, U8]
    simp [Instr.indexAt, asIntOf, run_underlying hu, Instr.sureAddr, h1, hs, Addr.add_mid, ho]) h
end
section
variable {P : Program} {G : Cls} {ro : Option Nat} {N : Nat} {ds : List Deferred} {F : Fr} {C : Cls} {K : KK}
theorem x_plainC {id : Nat} {l : List Oper} {E : Oper → Bool} (n : Nat) (h : Lx P G ro l.toArray N ds E (fun F' C' => ∃ E', Lx P G ro l.toArray N ds E' (K .normal ds) (l.drop n) F' C') (l.take n) F C) : X P G ro N ds (.region id l.toArray false) F C K := fun hS a w ha hw => by
  have key := wpListIn_cut (Q := fun e a' w' => ∃ ds' F' C', Good G C' ∧ Has N ds' F' a' ∧ C' w' ∧ K e ds' F' C') (fun F' C' hS' hk a' w' ha' hw' => ⟨ds, F', C', hS', ha', hw', hk⟩) (l.drop n) (l.take n) F C hS h a w ha hw
  rw [List.take_append_drop] at key
  exact wpIn_region_lit key
theorem xs_plainC {id : Nat} {l : List Oper} {E : Oper → Bool} {y : Code} (n : Nat) (h : Lx P G ro l.toArray N ds E (fun F' C' => ∃ E', Lx P G ro l.toArray N ds E' (fun F' C' => X P G ro N ds y F' C' K) (l.drop n) F' C') (l.take n) F C) : X P G ro N ds (.seq (.region id l.toArray false) y) F C K := x_seq (x_plainC n h)
end
end Go.Proofs.YtamddkjccmhgaaaGreatDoor

namespace Go.Proofs.YtamddkjccmhgaaaGreatDoor
open Go.RowKit
set_option maxRecDepth 100000
section
variable {P : Program} {G : Cls} {ro : Option Nat} {N : Nat} {ds : List Deferred} {l : List Oper} {E : Oper → Bool} {K : KK} {F : Fr} {C : Cls}
def lst0 (l : List Oper) (σ : List Nat) : Array Bool := lstd σ (Array.replicate l.toArray.size false)
/-- What is left of the region, 'σ' being done. -/
def TR (P : Program) (G : Cls) (ro : Option Nat) (N : Nat) (ds : List Deferred) (l : List Oper) (E : Oper → Bool) (K : KK) (m : Nat) (σ : List Nat) (F : Fr) (C : Cls) : Prop :=
  Region.noSelect l.toArray = true → noDefer l.toArray = true → Closed .any l.toArray (lst0 l σ) → Good G C → ∀ a, Has N ds F a →
    TreeC P G ro .any l.toArray (fun e a' w' => ∃ ds' F' C', Good G C' ∧ Has N ds' F' a' ∧ C' w' ∧ K e ds' F' C') E m (lst0 l σ) a C
theorem lst0_app (σ τ : List Nat) : lst0 l (σ ++ τ) = lstd τ (lst0 l σ) := by unfold lst0 lstd; rw [List.foldl_append]
/-- Steps that may be taken first. -/
theorem tr_pre {m : Nat} {σ : List Nat} (τ : List Nat) (hok : okPre .any l.toArray E τ (lst0 l σ) = true) (h : Lx P G ro l.toArray N ds E (fun F' C' => TR P G ro N ds l E K m (σ ++ τ) F' C') (pickL τ l) F C) :
    TR P G ro N ds l E K (τ.length + m) σ F C := fun hsel hdef hc hS a ha => by
  rw [← pickL_eq] at h
  refine tree_pre (Z := fun F' C' => TR P G ro N ds l E K m (σ ++ τ) F' C') hsel hdef τ _ F C a hc hok ha hS (fun F' C' a' hc' ha' hS' hZ => ?_) h
  have hZ : TR P G ro N ds l E K m (σ ++ τ) F' C' := hZ
  rw [← lst0_app] at hc' ⊢
  exact hZ hsel hdef hc' hS' a' ha'
/-- Whichever of those that may turn memory comes next. -/
theorem tr_any {m : Nat} {σ : List Nat} (R : List Nat) (hR : Region.ready .any l.toArray (lst0 l σ) = R) (hE : R.all (fun i => (l.toArray[i]?).any E) = true) (hne : R ≠ [])
    (h : ∀ i ∈ R, Lx P G ro l.toArray N ds E (fun F' C' => TR P G ro N ds l E K m (σ ++ [i]) F' C') (pickL [i] l) F C) : TR P G ro N ds l E K (m + 1) σ F C := fun hsel hdef hc hS a ha => by
  refine ⟨fun h0 => absurd (hR.symm.trans h0) hne, fun i hi oi hoi => ?_⟩
  have hiR : i ∈ R := by rw [← hR]; exact hi
  have hEi : E oi = true := by have := List.all_eq_true.1 hE i hiR; rw [hoi] at this; exact this
  have hx := h i hiR
  rw [← pickL_eq] at hx
  have hl : [i].filterMap (l.toArray[·]?) = [oi] := by simp only [List.filterMap_cons, hoi, List.filterMap_nil]
  rw [hl] at hx
  unfold Lx at hx
  rw [hEi] at hx ⊢
  intro w hw
  obtain ⟨hwant, hwp⟩ := hx a w ha hw
  refine ⟨hwant, Oper.wpIn_mono (fun a' w' hk => ?_) hwp⟩
  obtain ⟨F', C', ha', hS', hw', hgr, hk⟩ := hk
  refine ⟨C', hS', hw', hgr, ?_⟩
  have hk : TR P G ro N ds l E K m (σ ++ [i]) F' C' := hk
  have hc' := hc.set hi
  have e : lst0 l (σ ++ [i]) = (lst0 l σ).setIfInBounds i true := lst0_app σ [i]
  rw [← e] at hc' ⊢
  exact hk hsel hdef hc' hS' a' ha'
theorem tr_nil {σ : List Nat} (hR : Region.ready .any l.toArray (lst0 l σ) = []) (h : K .normal ds F C) : TR P G ro N ds l E K 0 σ F C := fun _ _ _ hS _ ha => ⟨hR, fun _ hw => ⟨ds, F, C, hS, ha, hw, h⟩⟩
theorem x_tree {id : Nat} (E : Oper → Bool) (hm : P.follows .mixedOrders = true) (hsel : Region.noSelect l.toArray = true) (hdef : noDefer l.toArray = true) (h : TR P G ro N ds l E K l.length [] F C) : X P G ro N ds (.region id l.toArray true) F C K := fun hS a w ha hw => by
  refine wpIn_region_any hm ?_
  have hc : Closed .any l.toArray (lst0 l []) := fun j i _ hj => by
    rcases Nat.lt_or_ge j l.toArray.size with h' | h'
    · simp at h'; simp [lst0, lstd, h'] at hj
    · simp at h'; simp [lst0, lstd, h'] at hj
  exact wpAnyIn_of_tree _ _ _ C _ hS (hS.1 w _ hw ((Below.refl _ w).drew)) (h hsel hdef hc hS a ha)
theorem xs_tree {id : Nat} {y : Code} (E : Oper → Bool) (hm : P.follows .mixedOrders = true) (hsel : Region.noSelect l.toArray = true) (hdef : noDefer l.toArray = true) (h : TR P G ro N ds l E (Kseq (fun ds' F' C' => X P G ro N ds' y F' C' K) K) l.length [] F C) : X P G ro N ds (.seq (.region id l.toArray true) y) F C K :=
  x_seq (x_tree E hm hsel hdef h)
end
section
variable {P : Program} {G : Cls} {ro : Option Nat} {ops : Array Oper} {N : Nat} {ds : List Deferred} {fs : List Nat} {Z : Fr → Cls → Prop} {F : Fr} {rest : List Oper}
variable {d : Nat} {ty : TypeId} {pos : String} {af : Array Edge} {gd : Option (Nat × Bool)}
variable {B : Bs} {L : Hl}
end
end Go.Proofs.YtamddkjccmhgaaaGreatDoor

namespace Go.Proofs.YtamddkjccmhgaaaGreatDoor
open Go.RowKit
set_option maxRecDepth 100000
section
variable {P : Program} {G : Cls} {ro : Option Nat} {ops : Array Oper} {N : Nat} {ds : List Deferred} {fs : List Nat} {Z : Fr → Cls → Prop} {F : Fr} {C : Cls} {rest : List Oper}
variable {d : Nat} {ty : TypeId} {pos : String} {af : Array Edge} {gd : Option (Nat × Bool)}
variable {B : Bs} {L : Hl}
/-- A slice made, of noughts. -/
theorem lx_mksl (n : Nat) {t e : TypeId} {x y : Operand} {m : Nat} {i : TypeInfo} {z : Value} {c : List Value} (hB : BOk G B) (hx : evF F x = some (I (m : Int))) (hy : evF F y = some (I (m : Int))) (hu : P.underlying t = some (.slice e)) (hi : P.info? e = some i) (hz : i.zero = some z)
    (hm : m * i.size ≤ 16777216 ∧ i.bytes * m ≤ 281474976710656 ∧ m ≤ 1000000) (hc : (madeCells z.cells (m * i.size)).toList = c) (hw : wantF ops F ⟨some d, .makeSlice t x y, ty, pos, af, gd⟩ = some true) (hd : Nat.blt d N = true)
    (h : ∀ b, Lx P G ro ops N ds (EE fs) Z rest ((d, .slice (some ⟨b, 0, none⟩) m m) :: F) (Hp B ((n, b, c, e) :: L))) : Lx P G ro ops N ds (EE fs) Z (⟨some d, .makeSlice t x y, ty, pos, af, gd⟩ :: rest) F (Hp B L) :=
  lx_run rfl hw hd (fun _ h => by cases h) fun a w ha hC => by
    have hr := run_makeSlice (P := P) (w := w) t e i z hu hi hz .i64 .i64 (m : Int) (m : Int) (by omega) (Int.le_refl _) (by rw [Int.toNat_natCast]; exact hm.1) (by have := Int.ofNat_le.2 hm.2.1; rw [Int.natCast_mul] at this; exact this) (by omega)
    simp only [Int.toNat_natCast] at hr
    refine ⟨.slice (some ⟨w.heap.size, 0, none⟩) m m, w.alloc (.cells c.toArray e), _, .inl ?_, good_hp hB, hC.alloc hB.r n c e, h w.heap.size⟩
    subst hc
    simp only [execOp, ha.ev hx, ha.ev hy, I, Sem.run_bind, hr, Result.andThen_ok]
    simp
end
end Go.Proofs.YtamddkjccmhgaaaGreatDoor

namespace Go.Proofs.YtamddkjccmhgaaaGreatDoor
open Go.RowKit
set_option maxRecDepth 100000
section
variable {P : Program} {G : Cls} {ro : Option Nat} {md : Region.Mode} {ops : Array Oper} {N : Nat} {ds : List Deferred} {E : Oper → Bool} {Q : Exit → Act → World → Prop}
end
section
variable {P : Program} {G : Cls} {ro : Option Nat} {N : Nat} {ds : List Deferred} {l : List Oper} {E : Oper → Bool} {K : KK} {F : Fr} {C : Cls}
theorem Pure.sub {G' : Cls} {f : FuncId} {vs : List Value} {v : Value} (h : Pure P G f vs v) (hle : ∀ w, G' w → G w) : Pure P G' f vs v := fun w hw => h w (hle w hw)
end
end Go.Proofs.YtamddkjccmhgaaaGreatDoor

namespace Go.Proofs.YtamddkjccmhgaaaGreatDoor
open Go.RowKit
set_option maxRecDepth 100000
section
variable {P : Program} {G : Cls} {ro : Option Nat} {ops : Array Oper} {N : Nat} {ds : List Deferred} {fs : List Nat} {Z : Fr → Cls → Prop} {F : Fr} {C : Cls} {rest : List Oper}
variable {d : Nat} {ty : TypeId} {pos : String} {af : Array Edge} {gd : Option (Nat × Bool)}
end
end Go.Proofs.YtamddkjccmhgaaaGreatDoor

namespace Go.Proofs.YtamddkjccmhgaaaGreatDoor
open Go.RowKit
set_option maxRecDepth 100000
section
variable {P : Program}
/-! ### Compared -/
/-- Values of this type are rows of n numbers, and are compared as such. -/
def EqF (P : Program) (t : TypeId) (n d0 : Nat) : Prop := ∀ xs ys : List (BitVec 64), xs.length = n → ys.length = n → ∀ (d : Nat) (w : World), (Op.equalIn (d + d0) t (.agg (xs.map U64).toArray) (.agg (ys.map U64).toArray)).run P w = .ok (decide (xs = ys)) w
theorem eqf_arr {t e : TypeId} {n : Nat} (hu : P.underlying t = some (.array n e)) (he : P.underlying e = some (.int .u64)) (hs : ∀ w, (sizeOf e).run P w = .ok 1 w) (hag : ∀ w, (isAgg e).run P w = .ok false w) : EqF P t n 2 :=
  fun xs ys hl hl' d w => eq64 hu he hs hag xs ys hl hl' d w
theorem part_cut {t : TypeId} {m o : Nat} (hag : ∀ w, (isAgg t).run P w = .ok true w) (hs : ∀ w, (sizeOf t).run P w = .ok m w) (xs : List (BitVec 64)) (w : World) : (part t (xs.map U64).toArray o).run P w = .ok (.agg (((xs.drop o).take m).map U64).toArray) w := by
  simp only [part, Sem.run_bind, hag, hs, Result.andThen_ok, if_true, Sem.run_pure]
  congr 2
  simp [List.extract_toArray, List.map_take, List.map_drop]
theorem two_iff {xs ys : List (BitVec 64)} {m n : Nat} (hx : xs.length = m + n) (hy : ys.length = m + n) : xs = ys ↔ ((xs.drop 0).take m = (ys.drop 0).take m ∧ (xs.drop m).take n = (ys.drop m).take n) := by
  constructor
  · intro h; rw [h]; exact ⟨rfl, rfl⟩
  · rintro ⟨h1, h2⟩
    rw [List.drop_zero, List.drop_zero] at h1
    rw [List.take_of_length_le (by rw [List.length_drop]; omega), List.take_of_length_le (by rw [List.length_drop]; omega)] at h2
    rw [← List.take_append_drop m xs, ← List.take_append_drop m ys, h1, h2]
theorem eqf_one {t : TypeId} {f : Field} {n d0 : Nat} (hu : P.underlying t = some (.struct #[f])) (h0 : f.offset = 0) (hn : f.name ≠ "_") (hsi : P.stoodInHeld t = false) (hag : ∀ w, (isAgg f.type).run P w = .ok true w) (hs : ∀ w, (sizeOf f.type).run P w = .ok n w) (he : EqF P f.type n d0) : EqF P t n (d0 + 1) := by
  intro xs ys hx hy d w
  rw [show d + (d0 + 1) = (d + d0) + 1 from rfl, Op.equalIn]
  simp only [Sem.run_bind, run_underlying hu, Result.andThen_ok]
  have p1 := part_cut (o := 0) hag hs xs w
  have p2 := part_cut (o := 0) hag hs ys w
  rw [List.drop_zero, List.take_of_length_le (by omega)] at p1 p2
  have e := he xs ys hx hy d w
  simp [hsi, hn, h0, p1, p2, e]
  by_cases h : xs = ys <;> simp [h]
theorem eqf_two {t : TypeId} {f g : Field} {m n d0 : Nat} (hu : P.underlying t = some (.struct #[f, g])) (h0 : f.offset = 0) (h1 : g.offset = m) (hn : f.name ≠ "_") (hn' : g.name ≠ "_") (hsi : P.stoodInHeld t = false)
    (hag : ∀ w, (isAgg f.type).run P w = .ok true w) (hs : ∀ w, (sizeOf f.type).run P w = .ok m w) (he : EqF P f.type m d0) (hag' : ∀ w, (isAgg g.type).run P w = .ok true w) (hs' : ∀ w, (sizeOf g.type).run P w = .ok n w) (he' : EqF P g.type n d0) : EqF P t (m + n) (d0 + 1) := by
  intro xs ys hx hy d w
  rw [show d + (d0 + 1) = (d + d0) + 1 from rfl, Op.equalIn]
  simp only [Sem.run_bind, run_underlying hu, Result.andThen_ok]
  have p1 := part_cut (o := 0) hag hs xs w
  have p2 := part_cut (o := 0) hag hs ys w
  have p3 := part_cut (o := m) hag' hs' xs w
  have p4 := part_cut (o := m) hag' hs' ys w
  have e1 := he ((xs.drop 0).take m) ((ys.drop 0).take m) (by rw [List.drop_zero, List.length_take]; omega) (by rw [List.drop_zero, List.length_take]; omega) d w
  have e2 := he' ((xs.drop m).take n) ((ys.drop m).take n) (by rw [List.length_take, List.length_drop]; omega) (by rw [List.length_take, List.length_drop]; omega) d w
  have i := two_iff hx hy
  generalize (xs.drop 0).take m = a1 at *
  generalize (ys.drop 0).take m = a2 at *
  generalize (xs.drop m).take n = b1 at *
  generalize (ys.drop m).take n = b2 at *
  simp [hsi, hn, hn', h0, h1, p1, p2, p3, p4, e1, e2]
  by_cases ha : a1 = a2
  · by_cases hb : b1 = b2
    · simp [ha, hb, i.2 ⟨ha, hb⟩]
    · simp [ha, hb, show ¬ xs = ys from fun h => hb (i.1 h).2]
  · simp [ha, show ¬ xs = ys from fun h => ha (i.1 h).1]
theorem bin_eqf {t : TypeId} {n d0 : Nat} (he : EqF P t n d0) (hd : d0 ≤ 100) (xs ys : List (BitVec 64)) (hl : xs.length = n) (hl' : ys.length = n) (w : World) : (binOp .eql t (.agg (xs.map U64).toArray) (.agg (ys.map U64).toArray)).run P w = .ok (.bool (decide (xs = ys))) w := by
  rw [run_eql_struct, show (10000 : Nat) = (10000 - d0) + d0 by omega, he xs ys hl hl' (10000 - d0) w]; rfl
/-! ### Read -/
theorem ld_l {a b : List (BitVec 64)} : ∀ j v, (a.map U64)[j]? = some v → ((a ++ b).map U64)[0 + j]? = some v := fun j v h => by
  have hj : j < (a.map U64).length := by
    rcases Nat.lt_or_ge j (a.map U64).length with h' | h'
    · exact h'
    · rw [List.getElem?_eq_none h'] at h; cases h
  rw [Nat.zero_add, List.map_append, List.getElem?_append_left hj]; exact h
theorem ld_r {a b : List (BitVec 64)} {m : Nat} (hm : a.length = m) : ∀ j v, (b.map U64)[j]? = some v → ((a ++ b).map U64)[m + j]? = some v := fun j v h => by
  rw [List.map_append, List.getElem?_append_right (by rw [List.length_map]; omega), List.length_map, hm, Nat.add_sub_cancel_left]; exact h
theorem lay_l {a b c : List (BitVec 64)} (h : c.length = a.length) : lay 0 (c.map U64) ((a ++ b).map U64) = (c ++ b).map U64 := by
  apply List.ext_getElem?
  intro m
  rw [lay_get _ _ _ _ (by simp; omega)]
  simp only [List.map_append, List.getElem?_append, List.length_map, Nat.zero_le, true_and, Nat.zero_add, Nat.sub_zero, h]
  by_cases hm : m < a.length
  · simp [hm]
  · simp [hm]
theorem lay_r {a b c : List (BitVec 64)} {m : Nat} (hm : a.length = m) (h : c.length = b.length) : lay m (c.map U64) ((a ++ b).map U64) = (a ++ c).map U64 := by
  apply List.ext_getElem?
  intro k
  rw [lay_get _ _ _ _ (by simp; omega)]
  simp only [List.map_append, List.getElem?_append, List.length_map, h, hm]
  by_cases hk : k < m
  · simp [hk, show ¬ m ≤ k by omega]
  · by_cases hk2 : k < m + b.length
    · simp [hk, hk2, show m ≤ k by omega]
    · rw [if_neg (by omega), if_neg hk, if_neg hk, List.getElem?_eq_none (by simp; omega), List.getElem?_eq_none (by simp; omega)]
/-! ### Built -/
theorem run_buildP {t : TypeId} {fields : Array Field} {ps : Array (Nat × Nat)} {c out : List Value} (hz : ∀ w, (zeroValue t).run P w = .ok (.agg c.toArray) w) (hu : P.underlying t = some (.struct fields))
    (hm : ∀ w, (Array.mapM (fun f => Prod.mk f.offset <$> sizeOf f.type) fields : Sem _).run P w = .ok ps w) (parts : List (Nat × Value)) (hf : Instr.fill (fun i => ps[i]?) c.toArray parts = some out.toArray) (w : World) :
    (Instr.build t parts.toArray).run P w = .ok (.agg out.toArray) w := by
  have hm' : (Array.mapM (fun f => do let x ← sizeOf f.type; pure (f.offset, x)) fields : Sem _).run P w = .ok ps w := hm w
  simp only [Instr.build, hz, run_underlying hu, Sem.run_bind, Result.andThen_ok]
  rw [hm', Result.andThen_ok]
  rw [show (Value.agg c.toArray).cells = c.toArray from rfl, hf]
  rfl
theorem mapM_two {f g : Field} {m n : Nat} (h0 : f.offset = 0) (h1 : g.offset = m) (hs : ∀ w, (sizeOf f.type).run P w = .ok m w) (hs' : ∀ w, (sizeOf g.type).run P w = .ok n w) (w : World) :
    (Array.mapM (fun f => Prod.mk f.offset <$> sizeOf f.type) #[f, g] : Sem _).run P w = .ok #[(0, m), (m, n)] w := by
  simp [hs, hs', h0, h1]
section
variable {t : TypeId} {f g : Field} {m n : Nat} {za zb : List (BitVec 64)}
theorem run_two (h0 : f.offset = 0) (h1 : g.offset = m) (hs : ∀ w, (sizeOf f.type).run P w = .ok m w) (hs' : ∀ w, (sizeOf g.type).run P w = .ok n w) (hu : P.underlying t = some (.struct #[f, g]))
    (hz : ∀ w, (zeroValue t).run P w = .ok (.agg ((za ++ zb).map U64).toArray) w) (hza : za.length = m) (hzb : zb.length = n) {a b : List (BitVec 64)} (ha : a.length = m) (hb : b.length = n) (w : World) :
    (Instr.build t #[(0, .agg (a.map U64).toArray), (1, .agg (b.map U64).toArray)]).run P w = .ok (.agg ((a ++ b).map U64).toArray) w :=
  run_buildP (c := (za ++ zb).map U64) hz hu (mapM_two h0 h1 hs hs') [(0, .agg (a.map U64).toArray), (1, .agg (b.map U64).toArray)] (by
    rw [fill_one (off := 0) (size := m) (vs := a.map U64) rfl (by simp [ha]) (by simp; omega), lay_l (by omega), fill_one (off := m) (size := n) (vs := b.map U64) rfl (by simp [hb]) (by simp; omega), lay_r ha (by omega)]
    rfl) w
theorem run_twoA (h0 : f.offset = 0) (h1 : g.offset = m) (hs : ∀ w, (sizeOf f.type).run P w = .ok m w) (hs' : ∀ w, (sizeOf g.type).run P w = .ok n w) (hu : P.underlying t = some (.struct #[f, g]))
    (hz : ∀ w, (zeroValue t).run P w = .ok (.agg ((za ++ zb).map U64).toArray) w) (hza : za.length = m) (hzb : zb.length = n) {a : List (BitVec 64)} (ha : a.length = m) (w : World) :
    (Instr.build t #[(0, .agg (a.map U64).toArray)]).run P w = .ok (.agg ((a ++ zb).map U64).toArray) w :=
  run_buildP (c := (za ++ zb).map U64) hz hu (mapM_two h0 h1 hs hs') [(0, .agg (a.map U64).toArray)] (by
    rw [fill_one (off := 0) (size := m) (vs := a.map U64) rfl (by simp [ha]) (by simp; omega), lay_l (by omega)]
    rfl) w
theorem run_twoB (h0 : f.offset = 0) (h1 : g.offset = m) (hs : ∀ w, (sizeOf f.type).run P w = .ok m w) (hs' : ∀ w, (sizeOf g.type).run P w = .ok n w) (hu : P.underlying t = some (.struct #[f, g]))
    (hz : ∀ w, (zeroValue t).run P w = .ok (.agg ((za ++ zb).map U64).toArray) w) (hza : za.length = m) (hzb : zb.length = n) {b : List (BitVec 64)} (hb : b.length = n) (w : World) :
    (Instr.build t #[(1, .agg (b.map U64).toArray)]).run P w = .ok (.agg ((za ++ b).map U64).toArray) w :=
  run_buildP (c := (za ++ zb).map U64) hz hu (mapM_two h0 h1 hs hs') [(1, .agg (b.map U64).toArray)] (by
    rw [fill_one (off := m) (size := n) (vs := b.map U64) rfl (by simp [hb]) (by simp; omega), lay_r hza (by omega)]
    rfl) w
variable {G : Cls} {ro : Option Nat} {ops : Array Oper} {N : Nat} {ds : List Deferred} {fs : List Nat} {Z : Fr → Cls → Prop} {rest : List Oper} {F : Fr} {C : Cls} {d : Nat} {ty : TypeId} {pos : String} {af : Array Edge} {gd : Option (Nat × Bool)}
/-- What is known of a struct of two rows. -/
structure Two (P : Program) (t : TypeId) (f g : Field) (m n : Nat) (za zb : List (BitVec 64)) : Prop where
  u : P.underlying t = some (.struct #[f, g])
  h0 : f.offset = 0
  h1 : g.offset = m
  s0 : ∀ w, (sizeOf f.type).run P w = .ok m w
  s1 : ∀ w, (sizeOf g.type).run P w = .ok n w
  z : ∀ w, (zeroValue t).run P w = .ok (.agg ((za ++ zb).map U64).toArray) w
  la : za.length = m
  lb : zb.length = n
theorem lx_two (q : Two P t f g m n za zb) {x y : Operand} {a b : List (BitVec 64)} (hx : evF F x = some (.agg (a.map U64).toArray)) (hy : evF F y = some (.agg (b.map U64).toArray)) (ha : a.length = m) (hb : b.length = n)
    (hw : wantF ops F ⟨some d, .build t #[(0, x), (1, y)], ty, pos, af, gd⟩ = some true) (hd : Nat.blt d N = true)
    (h : Lx P G ro ops N ds (EE fs) Z rest ((d, .agg ((a ++ b).map U64).toArray) :: F) C) : Lx P G ro ops N ds (EE fs) Z (⟨some d, .build t #[(0, x), (1, y)], ty, pos, af, gd⟩ :: rest) F C :=
  lx_build (ps := [(0, x), (1, y)]) (vs := [.agg (a.map U64).toArray, .agg (b.map U64).toArray]) (by simp [evL, hx, hy]) (fun w => run_two q.h0 q.h1 q.s0 q.s1 q.u q.z q.la q.lb ha hb w) hw hd h
theorem lx_twoA (q : Two P t f g m n za zb) {x : Operand} {a : List (BitVec 64)} (hx : evF F x = some (.agg (a.map U64).toArray)) (ha : a.length = m)
    (hw : wantF ops F ⟨some d, .build t #[(0, x)], ty, pos, af, gd⟩ = some true) (hd : Nat.blt d N = true)
    (h : Lx P G ro ops N ds (EE fs) Z rest ((d, .agg ((a ++ zb).map U64).toArray) :: F) C) : Lx P G ro ops N ds (EE fs) Z (⟨some d, .build t #[(0, x)], ty, pos, af, gd⟩ :: rest) F C :=
  lx_build (ps := [(0, x)]) (vs := [.agg (a.map U64).toArray]) (by simp [evL, hx]) (fun w => run_twoA q.h0 q.h1 q.s0 q.s1 q.u q.z q.la q.lb ha w) hw hd h
theorem lx_twoB (q : Two P t f g m n za zb) {y : Operand} {b : List (BitVec 64)} (hy : evF F y = some (.agg (b.map U64).toArray)) (hb : b.length = n)
    (hw : wantF ops F ⟨some d, .build t #[(1, y)], ty, pos, af, gd⟩ = some true) (hd : Nat.blt d N = true)
    (h : Lx P G ro ops N ds (EE fs) Z rest ((d, .agg ((za ++ b).map U64).toArray) :: F) C) : Lx P G ro ops N ds (EE fs) Z (⟨some d, .build t #[(1, y)], ty, pos, af, gd⟩ :: rest) F C :=
  lx_build (ps := [(1, y)]) (vs := [.agg (b.map U64).toArray]) (by simp [evL, hy]) (fun w => run_twoB q.h0 q.h1 q.s0 q.s1 q.u q.z q.la q.lb hb w) hw hd h
theorem lx_two0 (q : Two P t f g m n za zb) (hw : wantF ops F ⟨some d, .build t #[], ty, pos, af, gd⟩ = some true) (hd : Nat.blt d N = true)
    (h : Lx P G ro ops N ds (EE fs) Z rest ((d, .agg ((za ++ zb).map U64).toArray) :: F) C) : Lx P G ro ops N ds (EE fs) Z (⟨some d, .build t #[], ty, pos, af, gd⟩ :: rest) F C :=
  lx_builds q.z q.u (fun w => ⟨_, mapM_two q.h0 q.h1 q.s0 q.s1 w⟩) hw hd h
end
end
end Go.Proofs.YtamddkjccmhgaaaGreatDoor

namespace Go.Proofs.YtamddkjccmhgaaaGreatDoor
open Go.RowKit
set_option maxRecDepth 100000
/-! ### Rows of twelve -/
def FM (f : Nat → List (BitVec 64)) (n : Nat) : List (BitVec 64) := (List.range (12 * n)).map fun m => (f (m / 12)).getD (m % 12) 0
theorem FM_len (f : Nat → List (BitVec 64)) (n : Nat) : (FM f n).length = 12 * n := by rw [FM, List.length_map, List.length_range]
section
variable {P : Program} {G : Cls} {ro : Option Nat} {ops : Array Oper} {N : Nat} {ds : List Deferred} {fs : List Nat} {Z : Fr → Cls → Prop} {F : Fr} {C : Cls} {rest : List Oper}
variable {d : Nat} {ty : TypeId} {pos : String} {af : Array Edge} {gd : Option (Nat × Bool)}
end
end Go.Proofs.YtamddkjccmhgaaaGreatDoor

namespace Go.Proofs.YtamddkjccmhgaaaGreatDoor
open Go.RowKit
section
variable {P : Program} {G : Cls} {ro : Option Nat} {N : Nat} {ds : List Deferred} {F : Fr} {C : Cls} {K : KK} {B : Bs}
theorem x_join {x y : Code} {ι : Type} (Fm : ι → Fr) (Lm : ι → Hl) (hG : BOk G B)
    (h1 : X P G ro N ds x F C (Kseq (fun ds' F' C' => ds' = ds ∧ ∃ j L', C' = Hp B L' ∧ SubF F' (Fm j) ∧ SubB L' (Lm j)) K))
    (h2 : ∀ j, X P G ro N ds y (Fm j) (Hp B (Lm j)) K) : X P G ro N ds (.seq x y) F C K :=
  x_seq (h1.mono fun e ds' F' C' hk => by
    cases e with
    | normal =>
      obtain ⟨rfl, j, L', rfl, a, b⟩ := hk
      exact x_cut (Fm j) (Lm j) hG a b (h2 j)
    | _ => exact hk)
end
end Go.Proofs.YtamddkjccmhgaaaGreatDoor

namespace Go.Proofs.YtamddkjccmhgaaaGreatDoor
open Go.RowKit
set_option maxRecDepth 100000
/-- What an operation writes (0: nothing), what it looks at, for what it waits. -/
abbrev Trow := Nat × List Nat × List Nat
def trow (ops : Array Oper) (o : Oper) : Trow := ((match o.dst with | some d => d + 1 | none => 0), o.looksAt ops, (o.after.toList.filter (Region.binds .any)).map (·.on))
def apT (x y : Trow) : Bool :=
  (match x.1 with | 0 => true | d + 1 => !(y.2.1.any (Nat.beq d)) && !(Nat.beq y.1 (d + 1))) && (match y.1 with | 0 => true | d + 1 => !(x.2.1.any (Nat.beq d)))
def okT : Nat → List Trow → Bool
  | _, [] => true
  | k, r :: rs => r.2.2.all (fun e => Nat.blt e k) && rs.all (fun s => s.2.2.any (Nat.beq k) || apT r s) && okT (k + 1) rs
theorem okT_at : ∀ (T : List Trow) (k i : Nat) (r : Trow), okT k T = true → T[i]? = some r → (∀ e ∈ r.2.2, e < k + i) ∧ ∀ j s, i < j → T[j]? = some s → (k + i) ∈ s.2.2 ∨ apT r s = true
  | [], _, _, _, _, h => by simp at h
  | t :: T, k, 0, r, h, hr => by
    simp only [okT, Bool.and_eq_true] at h
    simp at hr
    subst hr
    refine ⟨fun e he => ?_, fun j s hj hs => ?_⟩
    · have := List.all_eq_true.1 h.1.1 e he
      simpa using this
    · obtain ⟨m, rfl⟩ : ∃ m, j = m + 1 := ⟨j - 1, by omega⟩
      simp at hs
      have := List.all_eq_true.1 h.1.2 s (List.mem_of_getElem? hs)
      rcases Bool.or_eq_true _ _ ▸ this with h1 | h1
      · obtain ⟨e, he, hb⟩ := List.any_eq_true.1 h1
        left
        rw [Nat.add_zero, Nat.eq_of_beq_eq_true hb]
        exact he
      · exact .inr h1
  | t :: T, k, i + 1, r, h, hr => by
    simp only [okT, Bool.and_eq_true] at h
    simp at hr
    have ih := okT_at T (k + 1) i r h.2 hr
    refine ⟨fun e he => by have := ih.1 e he; omega, fun j s hj hs => ?_⟩
    obtain ⟨m, rfl⟩ : ∃ m, j = m + 1 := ⟨j - 1, by omega⟩
    simp at hs
    have := ih.2 m s (by omega) hs
    rw [show k + 1 + i = k + (i + 1) by omega] at this
    exact this
theorem apT_apart {ops : Array Oper} {x y : Oper} (h : apT (trow ops x) (trow ops y) = true) : x.apart ops y = true := by
  simp only [apT, trow, Bool.and_eq_true] at h
  unfold Oper.apart
  rw [Bool.and_eq_true]
  refine ⟨?_, ?_⟩
  · cases hx : x.dst with
    | none => rfl
    | some d =>
      have h1 := h.1
      simp only [hx, Bool.and_eq_true, Bool.not_eq_true'] at h1
      simp only [Bool.and_eq_true, Bool.not_eq_true', bne_iff_ne]
      refine ⟨?_, fun e => ?_⟩
      · rw [Bool.eq_false_iff]
        intro hc
        have hm : d ∈ y.looksAt ops := by simpa using hc
        have := List.any_eq_true.2 ⟨d, hm, Nat.beq_refl d⟩
        rw [h1.1] at this
        cases this
      · rw [e] at h1
        simp at h1
  · cases hy : y.dst with
    | none => rfl
    | some d =>
      have h1 := h.2
      simp only [hy, Bool.not_eq_true'] at h1
      simp only [Bool.not_eq_true']
      rw [Bool.eq_false_iff]
      intro hc
      have hm : d ∈ x.looksAt ops := by simpa using hc
      have := List.any_eq_true.2 ⟨d, hm, Nat.beq_refl d⟩
      rw [h1] at this
      cases this
section
variable {l : List Oper} {E : Oper → Bool} {T : List Trow}
theorem okFrom_flat (hE : (l.all fun o => !E o) = true) (hT : l.map (trow l.toArray) = T) (hok : okT 0 T = true) : ∀ (m k : Nat) (listed : Array Bool), k + m = l.length → (∀ i, i < l.length → ∀ b, listed.getD i b = decide (i < k)) → listed.size = l.length →
    okFrom .any l.toArray E (List.range' k m) listed = true
  | 0, k, listed, hk, hl, hs => by
    simp only [List.range'_zero, okFrom, Region.ready, List.isEmpty_iff]
    rw [List.filter_eq_nil_iff]
    intro i hi
    have hi' : i < l.length := by simpa using hi
    rw [hl i hi' true, decide_eq_true (by omega)]
    simp
  | m + 1, k, listed, hk, hl, hs => by
    have hkl : k < l.length := by omega
    have hget : l.toArray[k]? = some l[k] := by simp [hkl]
    have hTk : T[k]? = some (trow l.toArray l[k]) := by rw [← hT, List.getElem?_map, List.getElem?_eq_getElem hkl]; rfl
    obtain ⟨h1, h2⟩ := okT_at T 0 k _ hok hTk
    rw [Nat.zero_add] at h1 h2
    have hEk : E l[k] = false := by
      have := List.all_eq_true.1 hE l[k] (List.getElem_mem hkl)
      simpa using this
    rw [show List.range' k (m + 1) = k :: List.range' (k + 1) m from rfl, okFrom]
    simp only [hget, hEk, cond_false, Bool.and_eq_true]
    refine ⟨⟨?_, ?_, ?_⟩, okFrom_flat hE hT hok m (k + 1) _ (by omega) ?_ (by simp [hs])⟩
    · rw [List.contains_iff_mem, Region.ready, List.mem_filter]
      refine ⟨by simpa using hkl, ?_⟩
      rw [hl k hkl true, decide_eq_false (by omega), hget]
      simp only [Option.map_some, Option.getD_some, Bool.not_false, Bool.true_and]
      rw [Array.all_eq_true_iff_forall_mem]
      intro e he
      cases hb : Region.binds .any e with
      | false => rfl
      | true =>
        have : e.on < k := h1 e.on (by
          simp only [trow, List.mem_map, List.mem_filter]
          exact ⟨e, ⟨by simpa using he, hb⟩, rfl⟩)
        rw [hl e.on (by omega) false, decide_eq_true this]
        rfl
    · rw [Region.free, hget]
      simp only [List.all_eq_true, List.mem_range, List.size_toArray]
      intro j hj
      have hgj : l.toArray[j]? = some l[j] := by simp [hj]
      rw [hl j hj true, hgj]
      rcases Nat.lt_trichotomy j k with h | h | h
      · rw [decide_eq_true h]; simp
      · subst h; simp
      · have hTj : T[j]? = some (trow l.toArray l[j]) := by rw [← hT, List.getElem?_map, List.getElem?_eq_getElem hj]; rfl
        have := h2 j _ h hTj
        simp only [Bool.or_eq_true]
        right
        rcases this with h3 | h3
        · left
          simp only [trow, List.mem_map, List.mem_filter] at h3
          obtain ⟨e, ⟨he, hb⟩, ho⟩ := h3
          rw [← Array.any_toList]
          exact List.any_eq_true.2 ⟨e, he, by rw [hb, ho]; simp⟩
        · exact .inr (apT_apart h3)
    · rw [Bool.or_eq_true]
      right
      rw [List.all_eq_true]
      intro j hj
      have hj' : j < l.length := by simpa using hj
      have hgj : l.toArray[j]? = some l[j] := by simp [hj']
      have hEj : E l[j] = false := by
        have := List.all_eq_true.1 hE l[j] (List.getElem_mem hj')
        simpa using this
      rw [hgj]
      simp [hEj]
    · intro i hi b
      by_cases h : i = k
      · subst h
        rw [decide_eq_true (by omega)]
        simp [Array.getD_eq_getD_getElem?, hs, hi]
      · have := hl i hi b
        rw [Array.getD_eq_getD_getElem?] at this ⊢
        rw [Array.getElem?_setIfInBounds_ne (fun e => h e.symm), this]
        exact decide_eq_decide.2 (by omega)
theorem ok_table (T : List Trow) (hE : (l.all fun o => !E o) = true) (hT : l.map (trow l.toArray) = T) (hok : okT 0 T = true) : okFrom .any l.toArray E (List.range l.length) (Array.replicate l.toArray.size false) = true := by
  rw [List.range_eq_range']
  refine okFrom_flat hE hT hok l.length 0 _ (by omega) (fun i hi b => ?_) (by simp)
  rw [Array.getD_eq_getD_getElem?]
  simp [hi]
end
section
variable {P : Program} {G : Cls} {ro : Option Nat} {N : Nat} {ds : List Deferred} {F : Fr} {C : Cls} {K : KK}
theorem xs_drawnT {id : Nat} {l : List Oper} {E : Oper → Bool} {y : Code} (T : List Trow) (hm : P.follows .mixedOrders = true) (hsel : Region.noSelect l.toArray = true) (hdef : noDefer l.toArray = true)
    (hE : (l.all fun o => !E o) = true) (hT : l.map (trow l.toArray) = T) (hok : okT 0 T = true) (h : Lx P G ro l.toArray N ds E (fun F' C' => X P G ro N ds y F' C' K) l F C) : X P G ro N ds (.seq (.region id l.toArray true) y) F C K :=
  xs_drawn hm hsel hdef (ok_table T hE hT hok) h
end
end Go.Proofs.YtamddkjccmhgaaaGreatDoor

namespace Go.Proofs.YtamddkjccmhgaaaGreatDoor
open Go.RowKit
set_option maxRecDepth 100000
section
variable {P : Program}
/-! ### Read, written -/
theorem ld_m {a b c : List (BitVec 64)} {m : Nat} (hm : a.length = m) : ∀ j v, (b.map U64)[j]? = some v → ((a ++ (b ++ c)).map U64)[m + j]? = some v := fun j v h => ld_r hm j v (by have := ld_l (b := c) j v h; rw [Nat.zero_add] at this; exact this)
theorem ld_rr {a b c : List (BitVec 64)} {m n k : Nat} (hm : a.length = m) (hn : b.length = n) (hk : m + n = k) : ∀ j v, (c.map U64)[j]? = some v → ((a ++ (b ++ c)).map U64)[k + j]? = some v := fun j v h => by
  rw [← hk, Nat.add_assoc]
  exact ld_r hm (n + j) v (ld_r hn j v h)
theorem lay_m {a b c d : List (BitVec 64)} {m : Nat} (hm : a.length = m) (h : d.length = b.length) : lay m (d.map U64) ((a ++ (b ++ c)).map U64) = (a ++ (d ++ c)).map U64 := by
  apply List.ext_getElem?
  intro k
  rw [lay_get _ _ _ _ (by simp; omega)]
  simp only [List.map_append, List.getElem?_append, List.length_map, h, hm]
  by_cases hk : k < m
  · simp [hk, show ¬ m ≤ k by omega]
  · by_cases hk2 : k < m + b.length
    · simp [hk, hk2, show m ≤ k by omega, show k - m < b.length by omega]
    · rw [if_neg (by omega), if_neg hk, if_neg hk, if_neg (by omega), if_neg (by omega)]
theorem lay_rr {a b c d : List (BitVec 64)} {m n k : Nat} (hm : a.length = m) (hn : b.length = n) (hk : m + n = k) (h : d.length = c.length) : lay k (d.map U64) ((a ++ (b ++ c)).map U64) = (a ++ (b ++ d)).map U64 := by
  have e := lay_r (a := a ++ b) (b := c) (c := d) (m := k) (by rw [List.length_append, hm, hn, hk]) h
  rw [List.append_assoc, List.append_assoc] at e
  exact e
/-! ### Built -/
theorem mapM_three {f g h : Field} {m : Nat} (h0 : f.offset = 0) (h1 : g.offset = m) (h2 : h.offset = m + m) (hs : ∀ w, (sizeOf f.type).run P w = .ok m w) (hs' : ∀ w, (sizeOf g.type).run P w = .ok m w) (hs'' : ∀ w, (sizeOf h.type).run P w = .ok m w) (w : World) :
    (Array.mapM (fun f => Prod.mk f.offset <$> sizeOf f.type) #[f, g, h] : Sem _).run P w = .ok #[(0, m), (m, m), (m + m, m)] w := by
  simp [hs, hs', hs'', h0, h1, h2]
/-- What is known of a struct of three rows. -/
structure Three (P : Program) (t : TypeId) (f g h : Field) (m : Nat) (za zb zc : List (BitVec 64)) : Prop where
  u : P.underlying t = some (.struct #[f, g, h])
  h0 : f.offset = 0
  h1 : g.offset = m
  h2 : h.offset = m + m
  s0 : ∀ w, (sizeOf f.type).run P w = .ok m w
  s1 : ∀ w, (sizeOf g.type).run P w = .ok m w
  s2 : ∀ w, (sizeOf h.type).run P w = .ok m w
  z : ∀ w, (zeroValue t).run P w = .ok (.agg ((za ++ (zb ++ zc)).map U64).toArray) w
  la : za.length = m
  lb : zb.length = m
  lc : zc.length = m
section
variable {t : TypeId} {f g h : Field} {m : Nat} {za zb zc : List (BitVec 64)}
variable {G : Cls} {ro : Option Nat} {ops : Array Oper} {N : Nat} {ds : List Deferred} {fs : List Nat} {Z : Fr → Cls → Prop} {rest : List Oper} {F : Fr} {C : Cls} {d : Nat} {ty : TypeId} {pos : String} {af : Array Edge} {gd : Option (Nat × Bool)}
theorem lx_threeN (q : Three P t f g h m za zb zc) (hw : wantF ops F ⟨some d, .build t #[], ty, pos, af, gd⟩ = some true) (hd : Nat.blt d N = true)
    (k : Lx P G ro ops N ds (EE fs) Z rest ((d, .agg ((za ++ (zb ++ zc)).map U64).toArray) :: F) C) : Lx P G ro ops N ds (EE fs) Z (⟨some d, .build t #[], ty, pos, af, gd⟩ :: rest) F C :=
  lx_builds q.z q.u (fun w => ⟨_, mapM_three q.h0 q.h1 q.h2 q.s0 q.s1 q.s2 w⟩) hw hd k
theorem run_three012 (q : Three P t f g h m za zb zc) {a : List (BitVec 64)} (ha : a.length = m) {b : List (BitVec 64)} (hb : b.length = m) {c : List (BitVec 64)} (hc : c.length = m) (w : World) : (Instr.build t [(0, .agg (a.map U64).toArray), (1, .agg (b.map U64).toArray), (2, .agg (c.map U64).toArray)].toArray).run P w = .ok (.agg ((a ++ (b ++ c)).map U64).toArray) w :=
  run_buildP (c := (za ++ (zb ++ zc)).map U64) q.z q.u (mapM_three q.h0 q.h1 q.h2 q.s0 q.s1 q.s2) [(0, .agg (a.map U64).toArray), (1, .agg (b.map U64).toArray), (2, .agg (c.map U64).toArray)] (by
    rw [fill_one (off := 0) (size := m) (vs := a.map U64) rfl (by simp [ha]) (by simp [q.la, q.lb, q.lc, ha]; try omega), lay_l (by rw [q.la, ha]), fill_one (off := m) (size := m) (vs := b.map U64) rfl (by simp [hb]) (by simp [ha, q.lb, q.lc, hb]; try omega), lay_m ha (by rw [q.lb, hb]), fill_one (off := m + m) (size := m) (vs := c.map U64) rfl (by simp [hc]) (by simp [ha, hb, q.lc, hc]; try omega), lay_rr ha hb rfl (by rw [q.lc, hc])]
    rfl) w
theorem lx_three012 (q : Three P t f g h m za zb zc) {x0 x1 x2 : Operand} {a b c : List (BitVec 64)} (hx0 : evF F x0 = some (.agg (a.map U64).toArray)) (hx1 : evF F x1 = some (.agg (b.map U64).toArray)) (hx2 : evF F x2 = some (.agg (c.map U64).toArray)) (ha : a.length = m) (hb : b.length = m) (hc : c.length = m)
    (hw : wantF ops F ⟨some d, .build t #[(0, x0), (1, x1), (2, x2)], ty, pos, af, gd⟩ = some true) (hd : Nat.blt d N = true)
    (k : Lx P G ro ops N ds (EE fs) Z rest ((d, .agg ((a ++ (b ++ c)).map U64).toArray) :: F) C) : Lx P G ro ops N ds (EE fs) Z (⟨some d, .build t #[(0, x0), (1, x1), (2, x2)], ty, pos, af, gd⟩ :: rest) F C :=
  lx_build (ps := [(0, x0), (1, x1), (2, x2)]) (vs := [.agg (a.map U64).toArray, .agg (b.map U64).toArray, .agg (c.map U64).toArray]) (by simp [evL, hx0, hx1, hx2]) (fun w => run_three012 q ha hb hc w) hw hd k
end
/-! ### Arrays of rows, compared -/
end
end Go.Proofs.YtamddkjccmhgaaaGreatDoor

namespace Go.Proofs.YtamddkjccmhgaaaGreatDoor
open Go.RowKit
set_option maxRecDepth 100000
section
variable {P : Program} {G : Cls} {ro : Option Nat} {ops : Array Oper} {N : Nat} {ds : List Deferred} {fs : List Nat} {Z : Fr → Cls → Prop} {F : Fr} {C : Cls} {rest : List Oper}
variable {d : Nat} {ty : TypeId} {pos : String} {af : Array Edge} {gd : Option (Nat × Bool)} {B : Bs} {L : Hl}
end
end Go.Proofs.YtamddkjccmhgaaaGreatDoor

namespace Go.Proofs.YtamddkjccmhgaaaGreatDoor
open Go.RowKit
set_option maxRecDepth 100000
section
variable {P : Program} {G : Cls} {ro : Option Nat} {ops : Array Oper} {N : Nat} {ds : List Deferred} {fs : List Nat} {Z : Fr → Cls → Prop} {F : Fr} {C : Cls} {rest : List Oper}
variable {d : Nat} {ty : TypeId} {pos : String} {af : Array Edge} {gd : Option (Nat × Bool)}
end
section
variable {P : Program} {G : Cls} {N : Nat} {ds : List Deferred} {F : Fr} {B : Bs} {L : Hl} {K : KK}
end
end Go.Proofs.YtamddkjccmhgaaaGreatDoor

namespace Go.Proofs.YtamddkjccmhgaaaGreatDoor
open Go.RowKit
set_option maxRecDepth 100000
/-! ### Rows of any width -/
section
variable {s : Nat}
/-! ### Made -/
end
section
variable {P : Program} {G : Cls} {ro : Option Nat} {ops : Array Oper} {N : Nat} {ds : List Deferred} {fs : List Nat} {Z : Fr → Cls → Prop} {F : Fr} {C : Cls} {rest : List Oper}
variable {d : Nat} {ty : TypeId} {pos : String} {af : Array Edge} {gd : Option (Nat × Bool)} {s : Nat}
end
/-! ### Rows within rows -/
end Go.Proofs.YtamddkjccmhgaaaGreatDoor

namespace Go.Proofs.YtamddkjccmhgaaaGreatDoor
open Go.RowKit
set_option maxRecDepth 100000
def OwnW (L : Hl) (n : Nat) (e : TypeId) (s : Nat) (a0 : Option Addr) (cap nx : Nat) (xs : List Value) : Prop :=
  (a0 = none ∧ xs = [] ∧ nx = 0 ∧ cap = 0) ∨ ∃ b c, a0 = some ⟨b, 0, none⟩ ∧ lkB L n = some (b, c, e) ∧ c.length = cap * s ∧ nx ≤ cap ∧ xs.length = nx * s ∧ c.take xs.length = xs
theorem OwnW.len {L : Hl} {n : Nat} {e : TypeId} {s : Nat} {a0 : Option Addr} {cap nx : Nat} {xs : List Value} (h : OwnW L n e s a0 cap nx xs) : xs.length = nx * s := by
  rcases h with ⟨_, rfl, rfl, _⟩ | ⟨_, _, _, _, _, _, h, _⟩
  · simp
  · exact h
section
variable {P : Program} {G : Cls} {ro : Option Nat} {ops : Array Oper} {N : Nat} {ds : List Deferred} {fs : List Nat} {Z : Fr → Cls → Prop} {F : Fr} {C : Cls} {rest : List Oper}
variable {d : Nat} {ty : TypeId} {pos : String} {af : Array Edge} {gd : Option (Nat × Bool)} {B : Bs} {L : Hl}
end
end Go.Proofs.YtamddkjccmhgaaaGreatDoor

namespace Go.Proofs.YtamddkjccmhgaaaGreatDoor
open Go.RowKit
set_option maxRecDepth 100000
section
variable {P : Program} {G : Cls} {ro : Option Nat} {ops : Array Oper} {N : Nat} {ds : List Deferred} {fs : List Nat} {Z : Fr → Cls → Prop} {F : Fr} {C : Cls} {rest : List Oper}
variable {d : Nat} {ty : TypeId} {pos : String} {af : Array Edge} {gd : Option (Nat × Bool)}
variable {B : Bs} {L : Hl}
theorem lx_runG {E : Oper → Bool} {o : Oper} (hE : E o = true) (hw : wantF ops F o = some true) (hd : fitsD N o.dst = true) (hnd : ∀ c, o.op ≠ .defer c)
    (h : ∀ a w, Has N ds F a → C w → ∃ v w' C', ((execOp a.eval o).run P w = .ok (.value v) w' ∨ ((execOp a.eval o).run P w = .ok .skip w' ∧ v = undef)) ∧ Good G C' ∧ C' w' ∧ (∀ w, C' w → C w) ∧ Lx P G ro ops N ds E Z rest (putF o.dst v F) C') :
    Lx P G ro ops N ds E Z (o :: rest) F C := by
  unfold Lx
  rw [hE]
  intro a w ha hC
  obtain ⟨v, w', C', hr, hS, hw', hn, hk⟩ := h a w ha hC
  refine ⟨ha.want hw, fun f _ => fence_fn ro f, ?_⟩
  rw [show (FW ro).round = ro from rfl, Oper.semAt_eq _ _ _ hnd]
  rcases hr with hr | ⟨hr, rfl⟩
  · rw [hr]; exact ⟨_, C', ha.putF hd v, hS, hw', fun _ => hn, hk⟩
  · rw [hr]; exact ⟨_, C', ha.putF hd _, hS, hw', fun _ => hn, hk⟩
/-- A slice of bytes; the class is only narrowed. -/
theorem lx_bslG (n : Nat) (xs : List (BitVec 8)) {t e : TypeId} {len : Nat} {ps : List (Nat × Operand)} (hB : BOk G B) (hfr : lkB L n = none) (hx : evL F (ps.map (·.2)) = some (xs.map U8)) (hi : ps.map (·.1) = List.range len) (hn : xs.length = len) (hl : len ≤ 16777216) (h0 : len ≠ 0) (hu : P.underlying t = some (.slice e))
    (hs : ∀ w, (sizeOf e).run P w = .ok 1 w) (hz : ∀ w, (zeroValue e).run P w = .ok (.int .u8 0) w) (hw : wantF ops F ⟨some d, .buildSlice t len ps.toArray, ty, pos, af, gd⟩ = some true) (hd : Nat.blt d N = true)
    (h : ∀ b, Lx P G ro ops N ds (EE fs) Z rest ((d, .slice (some ⟨b, 0, none⟩) xs.length xs.length) :: F) (Hp B ((n, b, xs.map U8, e) :: L))) : Lx P G ro ops N ds (EE fs) Z (⟨some d, .buildSlice t len ps.toArray, ty, pos, af, gd⟩ :: rest) F (Hp B L) := by
  refine lx_runG rfl hw hd (fun _ h => by cases h) fun a w ha hC => ?_
  refine ⟨.slice (some ⟨w.heap.size, 0, none⟩) xs.length xs.length, w.alloc (.cells (xs.map U8).toArray e), _, .inl ?_, good_hp hB, hC.alloc hB.r n (xs.map U8) e, hp_fresh hB.r hfr, h w.heap.size⟩
  have e1 : (ps.toArray.map fun (i, x) => (i, a.eval x)) = ((List.range len).zip (xs.map U8)).toArray := by
    rw [← hi, ← ha.evL hx, List.map_toArray, List.map_map, List.zip_map']
    rfl
  have hz1 : (Value.int .u8 0).cells = #[Value.int .u8 0] := rfl
  have hf := fill_row (xs.map U8) 0 ((Array.range (len * 1)).map ((Value.int .u8 0).cells[· % (Value.int .u8 0).cells.size]!)).toList (by simp [hn]) (one_u8 xs)
  rw [lay_all _ _ (by simp [hn]), ← List.range_eq_range', List.length_map, hn] at hf
  simp only [Array.toArray_toList] at hf
  have hlt : ¬ (len * 1 > 2 ^ 24) := by omega
  show ((do pure (.value (← Instr.buildSlice t len (ps.toArray.map fun (i, x) => (i, a.eval x)))) : Sem Next)).run P w = _
  rw [e1]
  have hb : (Instr.buildSlice t len ((List.range len).zip (xs.map U8)).toArray).run P w = .ok (.slice (some ⟨w.heap.size, 0, none⟩) len len) (w.alloc (.cells (xs.map U8).toArray e)) := by
    have h00 : ¬ (len * 1 = 0) := by omega
    simp only [Instr.buildSlice, Sem.run_bind, run_underlying hu, Result.andThen_ok, hs, if_neg hlt, if_neg h00, hz, Sem.run_pure, hf]
    simp [newRow]
  rw [hn]
  simp only [Sem.run_bind, hb, Result.andThen_ok]; rfl
end
end Go.Proofs.YtamddkjccmhgaaaGreatDoor

namespace Go.Proofs.YtamddkjccmhgaaaGreatDoor
open Go.RowKit
set_option maxRecDepth 100000
section
variable {P : Program} {G : Cls} {ro : Option Nat} {ops : Array Oper} {N : Nat} {ds : List Deferred} {fs : List Nat} {Z : Fr → Cls → Prop} {F : Fr} {C : Cls} {rest : List Oper}
variable {d : Nat} {ty : TypeId} {pos : String} {af : Array Edge} {gd : Option (Nat × Bool)} {s : Nat}
variable {B : Bs} {L : Hl}
/-- Results: two variables, a slot. -/
theorem kret_cct (n1 n2 : Nat) {fn : Func} {R : Ending → World → Prop} {t1 t2 t3 : Nat} {T et1 et2 : TypeId} {b1 b2 m : Nat} {c1 c2 : List Value} {v : Value} (hr : fn.results = #[.cell t1 T, .cell t2 T, .tmp t3])
    (hv1 : lk F t1 = some (.pointer (some ⟨b1, 0, none⟩))) (hv2 : lk F t2 = some (.pointer (some ⟨b2, 0, none⟩))) (hv3 : lk F t3 = some v)
    (hl1 : lkB L n1 = some (b1, c1, et1)) (hl2 : lkB L n2 = some (b2, c2, et2)) (hag : ∀ w, (isAgg T).run P w = .ok true w) (hs : ∀ w, (sizeOf T).run P w = .ok m w) (hm1 : c1.length = m) (hm2 : c2.length = m)
    (h : ∀ w, Hp B L w → R (.returned (.tuple #[.agg c1.toArray, .agg c2.toArray, v])) w) : Kret P fn R .ret [] F (Hp B L) :=
  ⟨rfl, fun a w ha hC => ⟨.tuple #[.agg c1.toArray, .agg c2.toArray, v], by
    have e1 := run_loadCells_list (P := P) w ⟨b1, 0, none⟩ c1 (fun j v hv => by rw [Addr.add_mid]; exact hp_row (n := n1) hl1 w hC j v hv)
    have e2 := run_loadCells_list (P := P) w ⟨b2, 0, none⟩ c2 (fun j v hv => by rw [Addr.add_mid]; exact hp_row (n := n2) hl2 w hC j v hv)
    rw [hm1] at e1
    rw [hm2] at e2
    simp [results, hr, ha.get t1 _ hv1, ha.get t2 _ hv2, ha.get t3 _ hv3, asAddr, loadVar, hag, hs, e1, e2], h w hC⟩⟩
end
end Go.Proofs.YtamddkjccmhgaaaGreatDoor

namespace Go.Proofs.YtamddkjccmhgaaaGreatDoor
open Go.RowKit
set_option maxRecDepth 100000
section
variable {P : Program} {G : Cls} {ro : Option Nat} {ops : Array Oper} {N : Nat} {ds : List Deferred} {fs : List Nat} {Z : Fr → Cls → Prop} {F : Fr} {C : Cls} {rest : List Oper}
variable {d : Nat} {ty : TypeId} {pos : String} {af : Array Edge} {gd : Option (Nat × Bool)}
variable {B : Bs} {L : Hl}
/-- Bytes that are made bytes: the class stays. -/
theorem lx_cvsG (n : Nat) {t e : TypeId} {x : Operand} {b len cap : Nat} {c : List Value} (hf : fs.any (Nat.beq (1000000 + t)) = true) (hB : BOk G B) (hx : evF F x = some (.slice (some ⟨b, 0, none⟩) len cap)) (hl : lkB L n = some (b, c, e)) (hu : P.underlying t = some (.slice e)) (hue : P.underlying e = some (.int .u8))
    (hw : wantF ops F ⟨some d, .convert t t x, ty, pos, af, gd⟩ = some true) (hd : Nat.blt d N = true)
    (h : Lx P G ro ops N ds (EE fs) Z rest ((d, .slice (some ⟨b, 0, none⟩) len cap) :: F) (Hp B L)) : Lx P G ro ops N ds (EE fs) Z (⟨some d, .convert t t x, ty, pos, af, gd⟩ :: rest) F (Hp B L) := by
  refine lx_runG hf hw hd (fun _ h => by cases h) fun a w ha hC => ?_
  obtain ⟨fz, h1, h2⟩ := (hC.own n b c e hl).1
  have ht : TurnAt b w (w.freeze ⟨b, c.length, none⟩ 1) := ⟨rfl, rfl, rfl, by simp [World.freeze], fun k hk => by simp [World.freeze, Array.getElem?_modify, Ne.symm hk]⟩
  have ho : OwnB (w.freeze ⟨b, c.length, none⟩ 1) b c e := ⟨if fz.1 == fz.2 then (c.length, c.length + 1) else (min fz.1 c.length, max fz.2 (c.length + 1)), by
    rw [World.freeze, if_neg (by decide)]
    show (Array.modify w.heap b _)[b]? = _
    rw [Array.getElem?_modify, if_pos rfl, h1]
    simp, by
    right
    rcases h2 with rfl | h2
    · simp
    · split
      · exact Nat.le_refl _
      · show c.length ≤ min fz.1 c.length
        omega⟩
  have hw2 := hC.turn hB.r hl c ht ho
  refine ⟨_, _, _, .inl ?_, good_hp hB, hw2.less hB.r ?_, fun _ h => h, h⟩
  · have hsh : w.shape? b = some (e, c.length) := by simp only [World.shape?, h1]; simp
    simp only [execOp, ha.ev hx, convert, Sem.run_bind, run_underlying hu, run_underlying hue, Result.andThen_ok]
    simp [markStringish, hsh]
  · intro m y hy
    by_cases hm : m = n
    · subst hm
      rw [hl] at hy
      cases hy
      simp [lkB]
    · have hb : Nat.beq n m = false := by
        cases hb : Nat.beq n m with
        | false => rfl
        | true => exact absurd (Nat.eq_of_beq_eq_true hb).symm hm
      simp [lkB, hb, hy]
end
end Go.Proofs.YtamddkjccmhgaaaGreatDoor

namespace Go.Proofs.YtamddkjccmhgaaaGreatDoor
open Go.RowKit
set_option maxRecDepth 100000
section
variable {P : Program} {F : Fr} {B : Bs} {L : Hl}
/-- Results: two variables. -/
theorem kret_cc (n1 n2 : Nat) {fn : Func} {R : Ending → World → Prop} {t1 t2 : Nat} {T et1 et2 : TypeId} {b1 b2 m : Nat} {c1 c2 : List Value} (hr : fn.results = #[.cell t1 T, .cell t2 T])
    (hv1 : lk F t1 = some (.pointer (some ⟨b1, 0, none⟩))) (hv2 : lk F t2 = some (.pointer (some ⟨b2, 0, none⟩)))
    (hl1 : lkB L n1 = some (b1, c1, et1)) (hl2 : lkB L n2 = some (b2, c2, et2)) (hag : ∀ w, (isAgg T).run P w = .ok true w) (hs : ∀ w, (sizeOf T).run P w = .ok m w) (hm1 : c1.length = m) (hm2 : c2.length = m)
    (h : ∀ w, Hp B L w → R (.returned (.tuple #[.agg c1.toArray, .agg c2.toArray])) w) : Kret P fn R .ret [] F (Hp B L) :=
  ⟨rfl, fun a w ha hC => ⟨.tuple #[.agg c1.toArray, .agg c2.toArray], by
    have e1 := run_loadCells_list (P := P) w ⟨b1, 0, none⟩ c1 (fun j v hv => by rw [Addr.add_mid]; exact hp_row (n := n1) hl1 w hC j v hv)
    have e2 := run_loadCells_list (P := P) w ⟨b2, 0, none⟩ c2 (fun j v hv => by rw [Addr.add_mid]; exact hp_row (n := n2) hl2 w hC j v hv)
    rw [hm1] at e1
    rw [hm2] at e2
    simp [results, hr, ha.get t1 _ hv1, ha.get t2 _ hv2, asAddr, loadVar, hag, hs, e1, e2], h w hC⟩⟩
end
end Go.Proofs.YtamddkjccmhgaaaGreatDoor

namespace Go.Proofs.YtamddkjccmhgaaaGreatDoor
open Go.RowKit
set_option maxRecDepth 100000
section
variable {P : Program} {G : Cls} {ro : Option Nat} {ops : Array Oper} {N : Nat} {ds : List Deferred} {fs : List Nat} {Z : Fr → Cls → Prop} {F : Fr} {C : Cls} {rest : List Oper}
variable {d : Nat} {ty : TypeId} {pos : String} {af : Array Edge} {gd : Option (Nat × Bool)}
/-- A value of a struct type, held in an interface. -/
theorem lx_mkif {t : TypeId} {x : Operand} {v : Value} {fl : Array Field} (hx : evF F x = some v) (hu : P.underlying t = some (.struct fl))
    (hw : wantF ops F ⟨some d, .makeInterface t x, ty, pos, af, gd⟩ = some true) (hd : Nat.blt d N = true)
    (h : Lx P G ro ops N ds (EE fs) Z rest ((d, .iface t v) :: F) C) : Lx P G ro ops N ds (EE fs) Z (⟨some d, .makeInterface t x, ty, pos, af, gd⟩ :: rest) F C :=
  lx_val (v := .iface t v) rfl hw hd (fun _ h => by cases h) (fun a w ha _ => by
    simp only [execOp, ha.ev hx]
    simp [Instr.makeInterface, run_underlying hu]) h
/-- The method that is meant by a name. -/
def Meant (P : Program) (t : TypeId) (name : String) (f : FuncId) : Prop := ∀ v w, (method (P.types.size + Made.depth) t v name).run P w = .ok (f, v) w
/-- A method called by its name. -/
theorem lx_inv {f : Nat} {t : TypeId} {name : String} {x : Operand} {rv : Value} {al : List Operand} {at' : Array TypeId} {vs : List Value} {v : Value} (hf : fs.any (Nat.beq 3000001) = false) (hx : evF F x = some (.iface t rv)) (hm : Meant P t name f) (ha : evL F al = some vs) (he : Enters P f) (hp : Pure P G f (rv :: vs) v)
    (hw : wantF ops F ⟨some d, .call { callee := .invoke x name, args := al.toArray, argTypes := at' }, ty, pos, af, gd⟩ = some true) (hd : Nat.blt d N = true)
    (h : Lx P G ro ops N ds (EE fs) Z rest ((d, v) :: F) C) : Lx P G ro ops N ds (EE fs) Z (⟨some d, .call { callee := .invoke x name, args := al.toArray, argTypes := at' }, ty, pos, af, gd⟩ :: rest) F C :=
  lx_callv (v := v) (by simpa [EE] using hf) hw hd (fun _ h => by cases h) (fun a w hA hC => ⟨f, (rv :: vs).toArray, by
    have e := hA.evL ha
    have e2 := hA.ev hx
    simp only [execOp, resolve, invoke, Sem.run_bind, Sem.run_pure, Result.andThen_ok, List.map_toArray, e, e2]
    simp [callMethod, hm rv w, he _ w], callsIn_any (hp w hC)⟩) h
theorem lx_invB {f : Nat} {t : TypeId} {name : String} {x : Operand} {rv : Value} {al : List Operand} {at' : Array TypeId} {vs : List Value} {q : Bool} (b : Bool) (hf : fs.any (Nat.beq 3000001) = false) (hx : evF F x = some (.iface t rv)) (hm : Meant P t name f) (ha : evL F al = some vs) (he : Enters P f) (hp : Pure P G f (rv :: vs) (.bool q)) (hq : q = b)
    (hw : wantF ops F ⟨some d, .call { callee := .invoke x name, args := al.toArray, argTypes := at' }, ty, pos, af, gd⟩ = some true) (hd : Nat.blt d N = true)
    (h : Lx P G ro ops N ds (EE fs) Z rest ((d, .bool b) :: F) C) : Lx P G ro ops N ds (EE fs) Z (⟨some d, .call { callee := .invoke x name, args := al.toArray, argTypes := at' }, ty, pos, af, gd⟩ :: rest) F C := by
  subst hq
  exact lx_inv hf hx hm ha he hp hw hd h
/-- A part of a slice, with three indices. -/
theorem lx_slsl3 {t e : TypeId} {sz : Nat} {x y z : Operand} {lo : Option Operand} {a0 : Option Addr} {len cap l h' m : Nat} (hx : evF F x = some (.slice a0 len cap)) (hu : P.underlying t = some (.slice e)) (hs : ∀ w, (sizeOf e).run P w = .ok sz w)
    (hl : (lo.map (evF F)).getD (some (I 0)) = some (I l)) (hh : evF F y = some (I h')) (hm : evF F z = some (I m)) (hb : l ≤ h' ∧ h' ≤ m ∧ m ≤ cap)
    (hw : wantF ops F ⟨some d, .slice t x lo (some y) (some z), ty, pos, af, gd⟩ = some true) (hd : Nat.blt d N = true)
    (h : Lx P G ro ops N ds (EE fs) Z rest ((d, .slice (if m = l then a0 else a0.map (·.add (l * sz))) (h' - l) (m - l)) :: F) C) : Lx P G ro ops N ds (EE fs) Z (⟨some d, .slice t x lo (some y) (some z), ty, pos, af, gd⟩ :: rest) F C :=
  lx_val (v := .slice (if m = l then a0 else a0.map (·.add (l * sz))) (h' - l) (m - l)) rfl hw hd (fun _ h => by cases h) (fun a w ha _ => by
    have hy := ha.ev hh
    have hz := ha.ev hm
    have hb1 := hb.1
    have hb2 := hb.2.1
    have hb3 := hb.2.2
    simp only [execOp, ha.ev hx]
    cases lo with
    | none =>
      simp at hl
      have hl0 : l = 0 := by omega
      subst hl0
      simp [Instr.sliceAt, Instr.slice, run_underlying hu, Instr.sliceBounds, Instr.sliceBound, asIntOf, hy, hz, hs, hb2, hb3]
    | some q =>
      have hq := ha.ev (x := q) (v := I l) (by simpa using hl)
      simp [Instr.sliceAt, Instr.slice, run_underlying hu, Instr.sliceBounds, Instr.sliceBound, asIntOf, hy, hz, hq, hs, hb1, hb2, hb3]) h
/-- A part of an array variable, with three indices. -/
theorem lx_slarr3 {t e : TypeId} {n : Nat} {x y z : Operand} {lo : Option Operand} {b l h' m : Nat} (hx : evF F x = some (.pointer (some ⟨b, 0, none⟩))) (hu : P.underlying t = some (.array n e)) (hs : ∀ w, (sizeOf e).run P w = .ok 1 w)
    (hl : (lo.map (evF F)).getD (some (I 0)) = some (I l)) (hh : evF F y = some (I h')) (hm : evF F z = some (I m)) (hb : l ≤ h' ∧ h' ≤ m ∧ m ≤ n) (hne : l ≠ m)
    (hw : wantF ops F ⟨some d, .slice t x lo (some y) (some z), ty, pos, af, gd⟩ = some true) (hd : Nat.blt d N = true)
    (h : Lx P G ro ops N ds (EE fs) Z rest ((d, .slice (some ⟨b, l, none⟩) (h' - l) (m - l)) :: F) C) : Lx P G ro ops N ds (EE fs) Z (⟨some d, .slice t x lo (some y) (some z), ty, pos, af, gd⟩ :: rest) F C :=
  lx_val (v := .slice (some ⟨b, l, none⟩) (h' - l) (m - l)) rfl hw hd (fun _ h => by cases h) (fun a w ha _ => by
    have hy := ha.ev hh
    have hz := ha.ev hm
    have hb1 := hb.1
    have hb2 := hb.2.1
    have hb3 := hb.2.2
    have hne' : ¬ m = l := fun e => hne e.symm
    simp only [execOp, ha.ev hx]
    cases lo with
    | none =>
      simp at hl
      have hl0 : l = 0 := by omega
      subst hl0
      simp [Instr.sliceAt, run_underlying hu, Instr.sureAddr, Instr.sliceBounds, Instr.sliceBound, asIntOf, hy, hz, hs, hb2, hb3, Addr.add_mid]
    | some q =>
      have hq := ha.ev (x := q) (v := I l) (by simpa using hl)
      simp [Instr.sliceAt, run_underlying hu, Instr.sureAddr, Instr.sliceBounds, Instr.sliceBound, asIntOf, hy, hz, hq, hs, hb1, hb2, hb3, Addr.add_mid, hne']) h
end
end Go.Proofs.YtamddkjccmhgaaaGreatDoor
