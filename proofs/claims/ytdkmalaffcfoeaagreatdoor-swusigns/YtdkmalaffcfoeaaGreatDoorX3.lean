/-
  A struct whose one field fills it; an array of which only the first element is named. Nothing here names a program.
  Structs whose one field fills them, compared. Nothing here names a program.
  The engine, part 27: rows inside blocks; calls whose answer is known. Nothing here names a program.
  The engine, part 28: arrays of bytes compared; bools compared. Nothing here names a program.
  The engine, part 29: parts laid into what is built; rows of rows. Nothing here names a program.
  The engine, part 30: a plain region walked in two parts, the second as it suits. Nothing here names a program.
  The engine, part 31: a region that draws its order, by the tree of its orders where memory grows in several ways at once. Nothing here names a program.
  The engine, part 32: a slice of bytes made; a choice behind what was passed by. Nothing here names a program.
  The engine, part 33: reads of what no step of a region can turn; the base moved. Nothing here names a program.
  The engine, part 34: slices from a place on; slices as arrays. Nothing here names a program.
  The engine, part 35: structs of two rows: built, read, compared. Nothing here names a program.
  The engine, part 36: rows of rows of twelve. Nothing here names a program.
  The engine, part 37: two ways that meet again. Nothing here names a program.
  The engine, part 38: a large region that draws its order and makes nothing: its check by a table. Nothing here names a program.
  The engine, part 39: structs of three rows: built, read, written; arrays of rows compared. Nothing here names a program.
  The engine, part 40: arrays of rows of twelve, built of some; three results. Nothing here names a program.
  The engine, part 41: arrays of rows of twelve, made and read; rounds that carry a fact; a single value handed back. Nothing here names a program.
  The engine, part 42: rows of rows of any width; parts of rows within rows. Nothing here names a program.
  The engine, part 43: slices of values of several cells: a literal of one, append. Nothing here names a program.
  The engine, part 44: slices made, and bytes appended, where the class is only narrowed (marks 2999998 and 2999997).
  The engine, part 45: slice literals of values of several cells; the class is only narrowed.
  The engine, part 46: bytes made bytes again, beside other steps. Nothing here names a program.
  The engine, part 47: two variables handed back.
  Values held in interfaces, their methods called; parts of slices with three indices.
  The engine, part 52: slices made with room, of any size. Nothing here names a program.
-/
import Derived.Test.YtdkmalaffcfoeaaGreatDoorX2
import Derived.Laws.MakeOwn
import Derived.Deep.AppendSrc
namespace Go.Proofs.YtdkmalaffcfoeaaGreatDoor
open Go.RowKit
set_option maxRecDepth 100000
section
variable {P : Program} {G : Cls} {ro : Option Nat} {ops : Array Oper} {N : Nat} {ds : List Deferred} {fs : List Nat} {Z : Fr → Cls → Prop} {rest : List Oper} {F : Fr} {C : Cls} {d : Nat} {ty : TypeId} {pos : String} {af : Array Edge} {gd : Option (Nat × Bool)}
theorem run_buildS {t : TypeId} {f : Field} {l : List (BitVec 64)} (hl : l.length = 6) (hu : P.underlying t = some (.struct #[f])) (h0 : f.offset = 0) (hs : ∀ w, (sizeOf f.type).run P w = .ok 6 w)
    (hz : ∀ w, (zeroValue t).run P w = .ok (.agg ((List.replicate 6 0#64).map U64).toArray) w) (w : World) : (Instr.build t #[(0, .agg (l.map U64).toArray)]).run P w = .ok (.agg (l.map U64).toArray) w := by
  match l, hl with
  | [_, _, _, _, _, _], _ => simp [Instr.build, hz, run_underlying hu, hs, h0, Value.cells, Instr.fill, List.replicate]
theorem lx_buildS {t : TypeId} {f : Field} {x : Operand} {l : List (BitVec 64)} (hx : evF F x = some (.agg (l.map U64).toArray)) (hl : l.length = 6) (hu : P.underlying t = some (.struct #[f])) (h0 : f.offset = 0) (hs : ∀ w, (sizeOf f.type).run P w = .ok 6 w)
    (hz : ∀ w, (zeroValue t).run P w = .ok (.agg ((List.replicate 6 0#64).map U64).toArray) w) (hw : wantF ops F ⟨some d, .build t #[(0, x)], ty, pos, af, gd⟩ = some true) (hd : Nat.blt d N = true)
    (h : Lx P G ro ops N ds (EE fs) Z rest ((d, .agg (l.map U64).toArray) :: F) C) : Lx P G ro ops N ds (EE fs) Z (⟨some d, .build t #[(0, x)], ty, pos, af, gd⟩ :: rest) F C :=
  lx_build (ps := [(0, x)]) (vs := [.agg (l.map U64).toArray]) (by simp [evL, hx]) (fun w => run_buildS hl hu h0 hs hz w) hw hd h
theorem run_build1 {t e : TypeId} {n : BitVec 64} (hu : P.underlying t = some (.array 6 e)) (hs : ∀ w, (sizeOf e).run P w = .ok 1 w)
    (hz : ∀ w, (zeroValue t).run P w = .ok (.agg ((List.replicate 6 0#64).map U64).toArray) w) (w : World) : (Instr.build t #[(0, U64 n)]).run P w = .ok (.agg ((n :: List.replicate 5 0).map U64).toArray) w := by
  simp [Instr.build, hz, run_underlying hu, hs, Value.cells, Instr.fill, List.replicate, U64]
theorem lx_build1 {t e : TypeId} {x : Operand} (n : BitVec 64) (hx : evF F x = some (U64 n)) (hu : P.underlying t = some (.array 6 e)) (hs : ∀ w, (sizeOf e).run P w = .ok 1 w)
    (hz : ∀ w, (zeroValue t).run P w = .ok (.agg ((List.replicate 6 0#64).map U64).toArray) w) (hw : wantF ops F ⟨some d, .build t #[(0, x)], ty, pos, af, gd⟩ = some true) (hd : Nat.blt d N = true)
    (h : Lx P G ro ops N ds (EE fs) Z rest ((d, .agg ((n :: List.replicate 5 0).map U64).toArray) :: F) C) : Lx P G ro ops N ds (EE fs) Z (⟨some d, .build t #[(0, x)], ty, pos, af, gd⟩ :: rest) F C :=
  lx_build (ps := [(0, x)]) (vs := [U64 n]) (by simp [evL, hx]) (fun w => run_build1 hu hs hz w) hw hd h
end
end Go.Proofs.YtdkmalaffcfoeaaGreatDoor

namespace Go.Proofs.YtdkmalaffcfoeaaGreatDoor
open Go.RowKit
set_option maxRecDepth 100000
section
variable {P : Program}
theorem OwnB.range {w : World} {b : Nat} {c : List Value} {t : TypeId} (h : OwnB w b c t) : w.rangeAt b 0 c := by
  obtain ⟨fz, h, _⟩ := h
  intro j v hj
  simp [World.cell?, h, hj]
theorem part_all {t : TypeId} (hag : ∀ w, (isAgg t).run P w = .ok true w) (hs : ∀ w, (sizeOf t).run P w = .ok 6 w) (xs : List (BitVec 64)) (hl : xs.length = 6) (w : World) : (part t (xs.map U64).toArray 0).run P w = .ok (.agg (xs.map U64).toArray) w := by
  simp only [part, Sem.run_bind, hag, hs, Result.andThen_ok, if_true, Sem.run_pure, Nat.zero_add]
  congr 2
  have : (xs.map U64).length = 6 := by rw [List.length_map, hl]
  simp [List.extract_toArray, this, List.take_of_length_le]
theorem eqS {t e : TypeId} {f : Field} (hu : P.underlying t = some (.struct #[f])) (h0 : f.offset = 0) (hn : f.name ≠ "_") (hsi : P.stoodInHeld t = false) (hag : ∀ w, (isAgg f.type).run P w = .ok true w) (hs : ∀ w, (sizeOf f.type).run P w = .ok 6 w)
    (hua : P.underlying f.type = some (.array 6 e)) (he : P.underlying e = some (.int .u64)) (hse : ∀ w, (sizeOf e).run P w = .ok 1 w) (hae : ∀ w, (isAgg e).run P w = .ok false w) (xs ys : List (BitVec 64)) (hl : xs.length = 6) (hl' : ys.length = 6) (d : Nat) (w : World) :
    (Op.equalIn (d + 3) t (.agg (xs.map U64).toArray) (.agg (ys.map U64).toArray)).run P w = .ok (decide (xs = ys)) w := by
  rw [show d + 3 = (d + 2) + 1 from rfl, Op.equalIn]
  simp only [Sem.run_bind, run_underlying hu, Result.andThen_ok]
  simp [hsi, hn, h0, part_all hag hs xs hl, part_all hag hs ys hl', eq64 hua he hse hae xs ys hl hl' d]
  by_cases h : xs = ys <;> simp [h]
theorem bin_neS {t e : TypeId} {f : Field} (hu : P.underlying t = some (.struct #[f])) (h0 : f.offset = 0) (hn : f.name ≠ "_") (hsi : P.stoodInHeld t = false) (hag : ∀ w, (isAgg f.type).run P w = .ok true w) (hs : ∀ w, (sizeOf f.type).run P w = .ok 6 w)
    (hua : P.underlying f.type = some (.array 6 e)) (he : P.underlying e = some (.int .u64)) (hse : ∀ w, (sizeOf e).run P w = .ok 1 w) (hae : ∀ w, (isAgg e).run P w = .ok false w) (xs ys : List (BitVec 64)) (hl : xs.length = 6) (hl' : ys.length = 6) (w : World) :
    (binOp .neq t (.agg (xs.map U64).toArray) (.agg (ys.map U64).toArray)).run P w = .ok (.bool (!decide (xs = ys))) w := by
  rw [run_neq_struct, eqS hu h0 hn hsi hag hs hua he hse hae xs ys hl hl' 9997 w]; rfl
end
end Go.Proofs.YtdkmalaffcfoeaaGreatDoor

namespace Go.Proofs.YtdkmalaffcfoeaaGreatDoor
open Go.RowKit
set_option maxRecDepth 100000
section
variable {P : Program} {G : Cls} {ro : Option Nat} {ops : Array Oper} {N : Nat} {ds : List Deferred} {fs : List Nat} {Z : Fr → Cls → Prop} {F : Fr} {C : Cls} {rest : List Oper}
variable {d : Nat} {ty : TypeId} {pos : String} {af : Array Edge} {gd : Option (Nat × Bool)}
variable {B : Bs} {L : Hl}
/-- A call that answers yes or no, where it is known which. -/
theorem lx_callB {f : Nat} {al : List Operand} {at' : Array TypeId} {vs : List Value} {b : Bool} (b' : Bool) (hf : fs.any (Nat.beq f) = false) (ha : evL F al = some vs) (he : Enters P f) (hp : Pure P G f vs (.bool b)) (hb : b = b')
    (hw : wantF ops F ⟨some d, .call { callee := .value (.func f), args := al.toArray, argTypes := at' }, ty, pos, af, gd⟩ = some true) (hd : Nat.blt d N = true)
    (h : Lx P G ro ops N ds (EE fs) Z rest ((d, .bool b') :: F) C) : Lx P G ro ops N ds (EE fs) Z (⟨some d, .call { callee := .value (.func f), args := al.toArray, argTypes := at' }, ty, pos, af, gd⟩ :: rest) F C :=
  lx_call hf ha he (hb ▸ hp) hw hd h
theorem lx_binB {op : BinOp} {t yt : TypeId} {x y : Operand} {vx vy : Value} {b : Bool} (b' : Bool) (hx : evF F x = some vx) (hy : evF F y = some vy) (hg : ∀ w, (eqGuard op t x y vx vy).run P w = .ok () w)
    (hr : ∀ w, (binOp op t vx vy).run P w = .ok (.bool b) w) (hb : b = b') (hw : wantF ops F ⟨some d, .binOp op t x y yt, ty, pos, af, gd⟩ = some true) (hd : Nat.blt d N = true)
    (h : Lx P G ro ops N ds (EE fs) Z rest ((d, .bool b') :: F) C) : Lx P G ro ops N ds (EE fs) Z (⟨some d, .binOp op t x y yt, ty, pos, af, gd⟩ :: rest) F C :=
  lx_bin hx hy hg (hb ▸ hr) hw hd h
/-- A package-level row read. -/
theorem lx_gl {t : TypeId} {g m : Nat} {cs : List Value} (hG : BOk G B) (hag : ∀ w, (isAgg t).run P w = .ok true w) (hs : ∀ w, (sizeOf t).run P w = .ok m w) (hm : cs.length = m) (hc : ∀ w, G w → w.rangeAt g 0 cs)
    (hw : wantF ops F ⟨some d, .load t (.global g), ty, pos, af, gd⟩ = some true) (hd : Nat.blt d N = true)
    (h : Lx P G ro ops N ds (EE fs) Z rest ((d, .agg cs.toArray) :: F) (Hp B L)) : Lx P G ro ops N ds (EE fs) Z (⟨some d, .load t (.global g), ty, pos, af, gd⟩ :: rest) F (Hp B L) :=
  lx_loadr rfl hag hs hm (fun w hw => hc w (hG.g _ _ w hw)) hw hd h
/-- A row read out of a block of ours. -/
theorem lx_loado (n : Nat) {t et : TypeId} {x : Operand} {b o m : Nat} {c : List Value} (cs : List Value) (hx : evF F x = some (.pointer (some ⟨b, o, none⟩))) (hl : lkB L n = some (b, c, et)) (hag : ∀ w, (isAgg t).run P w = .ok true w) (hs : ∀ w, (sizeOf t).run P w = .ok m w)
    (hm : cs.length = m) (hv : ∀ j v, cs[j]? = some v → c[o + j]? = some v) (hw : wantF ops F ⟨some d, .load t x, ty, pos, af, gd⟩ = some true) (hd : Nat.blt d N = true)
    (h : Lx P G ro ops N ds (EE fs) Z rest ((d, .agg cs.toArray) :: F) (Hp B L)) : Lx P G ro ops N ds (EE fs) Z (⟨some d, .load t x, ty, pos, af, gd⟩ :: rest) F (Hp B L) :=
  lx_loadr hx hag hs hm (hp_range (n := n) hl hv) hw hd h
/-- A row written into a block of ours, to a known end. -/
theorem lx_storeo (n : Nat) {t et : TypeId} {x y : Operand} {b o m : Nat} {c : List Value} {vs : List Value} (c' : List Value) (hG : BOk G B) (hx : evF F x = some (.pointer (some ⟨b, o, none⟩))) (hy : evF F y = some (.agg vs.toArray)) (hl : lkB L n = some (b, c, et))
    (hs : ∀ w, (sizeOf t).run P w = .ok m w) (hm : vs.length = m) (hv : vs.all (·.oneCell') = true) (ho : o + vs.length ≤ c.length) (he : lay o vs c = c') (hw : wantF ops F ⟨none, .store t x y, ty, pos, af, gd⟩ = some true)
    (h : Lx P G ro ops N ds (EE fs) Z rest F (Hp B ((n, b, c', et) :: L))) : Lx P G ro ops N ds (EE fs) Z (⟨none, .store t x y, ty, pos, af, gd⟩ :: rest) F (Hp B L) :=
  lx_storer n hG hx hy hl hs hm hv ho hw (he ▸ h)
/-- A place in an array of rows. -/
theorem lx_iak {t e : TypeId} {len sz : Nat} (k o' : Nat) {x ix : Operand} {b o : Nat} {i : Int} (hx : evF F x = some (.pointer (some ⟨b, o, none⟩))) (hi : evF F ix = some (I i)) (hu : P.underlying t = some (.array len e))
    (hs : ∀ w, (sizeOf e).run P w = .ok sz w) (hk : i = (k : Int)) (hb : k < len) (ho : o + k * sz = o') (hw : wantF ops F ⟨some d, .indexAddr t x ix, ty, pos, af, gd⟩ = some true) (hd : Nat.blt d N = true)
    (h : Lx P G ro ops N ds (EE fs) Z rest ((d, .pointer (some ⟨b, o', none⟩)) :: F) C) : Lx P G ro ops N ds (EE fs) Z (⟨some d, .indexAddr t x ix, ty, pos, af, gd⟩ :: rest) F C :=
  lx_ia hx hi hu hs (by omega) hw hd (by rw [show i.toNat = k by omega, ho]; exact h)
end
end Go.Proofs.YtdkmalaffcfoeaaGreatDoor

namespace Go.Proofs.YtdkmalaffcfoeaaGreatDoor
open Go.RowKit
set_option maxRecDepth 100000
section
variable {P : Program}
theorem bm_one {f : Field} {n : Nat} (hs : ∀ w, (sizeOf f.type).run P w = .ok n w) (w : World) : ∃ a, (Array.mapM (fun f : Field => Prod.mk f.offset <$> sizeOf f.type) #[f] : Sem _).run P w = .ok a w := ⟨#[(f.offset, n)], by simp [hs]⟩
theorem bin_eql_bool (t : TypeId) (hu : P.underlying t = some .bool) (a b : Bool) (w : World) : (binOp .eql t (.bool a) (.bool b)).run P w = .ok (.bool (a == b)) w := by
  have h : ∀ d : Nat, (Op.equalIn (d + 1) t (.bool a) (.bool b)).run P w = .ok (a == b) w := fun d => by simp [Op.equalIn, run_underlying hu]
  simp only [binOp]
  simp [Op.equal, Op.maxDepth, h 9999]
theorem bin_neq_bool (t : TypeId) (hu : P.underlying t = some .bool) (a b : Bool) (w : World) : (binOp .neq t (.bool a) (.bool b)).run P w = .ok (.bool (a != b)) w := by
  have h : ∀ d : Nat, (Op.equalIn (d + 1) t (.bool a) (.bool b)).run P w = .ok (a == b) w := fun d => by simp [Op.equalIn, run_underlying hu]
  simp only [binOp]
  simp [Op.equal, Op.maxDepth, h 9999, bne]
end
end Go.Proofs.YtdkmalaffcfoeaaGreatDoor

namespace Go.Proofs.YtdkmalaffcfoeaaGreatDoor
open Go.RowKit
set_option maxRecDepth 100000
theorem fold_lay (o : Nat) : ∀ (vs : List Value) (k : Nat) (c : List Value), (vs.zipIdx k).foldl (fun (cs : Array Value) (p : Value × Nat) => cs.setIfInBounds (o + p.2) p.1) c.toArray = (lay (o + k) vs c).toArray
  | [], _, _ => rfl
  | v :: r, k, c => by
    have ih := fold_lay o r (k + 1) (c.set (o + k) v)
    rw [List.zipIdx_cons, List.foldl_cons, lay]
    simp only [List.setIfInBounds_toArray]
    rw [ih, Nat.add_assoc]
theorem fill_one {place : Nat → Option (Nat × Nat)} {i off size : Nat} {vs c : List Value} (hp : place i = some (off, size)) (hs : vs.length = size) (ho : off + vs.length ≤ c.length) (rest : List (Nat × Value)) :
    Instr.fill place c.toArray ((i, .agg vs.toArray) :: rest) = Instr.fill place (lay off vs c).toArray rest := by
  have h := fold_lay off vs 0 c
  have hn : ¬ ((decide ((Value.agg vs.toArray).cells.size ≠ size) || decide (off + (Value.agg vs.toArray).cells.size > c.toArray.size)) = true) := by
    simp [Value.cells, hs]; omega
  have e : (Value.agg vs.toArray).cells.zipIdx.foldl (fun (cs : Array Value) (p : Value × Nat) => cs.setIfInBounds (off + p.2) p.1) c.toArray = (lay off vs c).toArray := by
    rw [← Array.foldl_toList, Array.toList_zipIdx]
    exact h
  rw [Instr.fill, hp]
  show (if (decide ((Value.agg vs.toArray).cells.size ≠ size) || decide (off + (Value.agg vs.toArray).cells.size > c.toArray.size)) = true then none else _) = _
  rw [if_neg hn, ← e]
/-! ### Rows of six -/
def FL (f : Nat → List (BitVec 64)) (n : Nat) : List (BitVec 64) := (List.range (6 * n)).map fun m => (f (m / 6)).getD (m % 6) 0
theorem FL_len (f : Nat → List (BitVec 64)) (n : Nat) : (FL f n).length = 6 * n := by rw [FL, List.length_map, List.length_range]
theorem FL_get (f : Nat → List (BitVec 64)) (n m : Nat) (h : m < 6 * n) : (FL f n)[m]? = some ((f (m / 6)).getD (m % 6) 0) := by
  rw [FL, List.getElem?_map, List.getElem?_range h]; rfl
theorem FL_load (f : Nat → List (BitVec 64)) (n k : Nat) (hk : k < n) (hf : (f k).length = 6) (o : Nat) (ho : o = 6 * k) : ∀ j v, ((f k).map U64)[j]? = some v → ((FL f n).map U64)[o + j]? = some v := fun j v hv => by
  have hj : j < 6 := by
    rcases Nat.lt_or_ge j 6 with h | h
    · exact h
    · rw [List.getElem?_eq_none (by rw [List.length_map, hf]; exact h)] at hv; cases hv
  rw [List.getElem?_map] at hv ⊢
  rw [FL_get f n (o + j) (by omega), show (o + j) / 6 = k by omega, show (o + j) % 6 = j by omega]
  rw [List.getElem?_eq_getElem (by omega)] at hv
  rw [← hv, List.getD_eq_getElem?_getD, List.getElem?_eq_getElem (by omega)]
  rfl
theorem FL_congr {f g : Nat → List (BitVec 64)} {n : Nat} (h : ∀ i, i < n → f i = g i) : FL f n = FL g n := by
  unfold FL
  refine List.map_congr_left fun m hm => ?_
  rw [List.mem_range] at hm
  rw [h (m / 6) (by omega)]
theorem FL_lay (f : Nat → List (BitVec 64)) (n k : Nat) (g : List (BitVec 64)) (hk : k < n) (hg : g.length = 6) (o : Nat) (ho : o = 6 * k) : lay o (g.map U64) ((FL f n).map U64) = (FL (fun i => if i = k then g else f i) n).map U64 := by
  apply List.ext_getElem?
  intro m
  rw [lay_get _ _ _ _ (by rw [List.length_map, List.length_map, FL_len, hg]; omega)]
  rw [List.length_map, hg, List.getElem?_map (l := FL (fun i => if i = k then g else f i) n)]
  by_cases hm : m < 6 * n
  · rw [FL_get _ n m hm]
    by_cases h : o ≤ m ∧ m < o + 6
    · rw [if_pos h, if_pos (by omega), List.getElem?_map, List.getElem?_eq_getElem (by omega), List.getD_eq_getElem?_getD, show m % 6 = m - o by omega, List.getElem?_eq_getElem (by omega)]
      rfl
    · rw [if_neg h, if_neg (by omega), List.getElem?_map, FL_get f n m hm]
  · rw [if_neg (by omega), List.getElem?_map, List.getElem?_eq_none (by rw [FL_len]; omega), List.getElem?_eq_none (by rw [FL_len]; omega)]
section
variable {P : Program} {G : Cls} {ro : Option Nat} {ops : Array Oper} {N : Nat} {ds : List Deferred} {fs : List Nat} {Z : Fr → Cls → Prop} {F : Fr} {C : Cls} {rest : List Oper}
variable {d : Nat} {ty : TypeId} {pos : String} {af : Array Edge} {gd : Option (Nat × Bool)}
theorem run_buildA {t e : TypeId} {n : Nat} {l : List (BitVec 64)} {z : Nat → List (BitVec 64)} (hl : l.length = 6) (hn : 0 < n) (hu : P.underlying t = some (.array n e)) (hs : ∀ w, (sizeOf e).run P w = .ok 6 w)
    (hz : ∀ w, (zeroValue t).run P w = .ok (.agg ((FL z n).map U64).toArray) w) (w : World) : (Instr.build t #[(0, .agg (l.map U64).toArray)]).run P w = .ok (.agg ((FL (fun i => if i = 0 then l else z i) n).map U64).toArray) w := by
  have h := fill_one (place := fun i => some (i * 6, 6)) (i := 0) (off := 0) (vs := l.map U64) (c := (FL z n).map U64) rfl (by rw [List.length_map, hl]) (by rw [List.length_map, List.length_map, FL_len, hl]; omega) []
  rw [FL_lay z n 0 l hn hl 0 rfl] at h
  simp only [Instr.build, hz, run_underlying hu, hs, Sem.run_bind, Result.andThen_ok]
  rw [show (Value.agg (List.map U64 (FL z n)).toArray).cells = (List.map U64 (FL z n)).toArray from rfl, h]
  rfl
theorem lx_buildA {t e : TypeId} {n : Nat} {x : Operand} {l : List (BitVec 64)} {z : Nat → List (BitVec 64)} (hx : evF F x = some (.agg (l.map U64).toArray)) (hl : l.length = 6) (hn : 0 < n) (hu : P.underlying t = some (.array n e)) (hs : ∀ w, (sizeOf e).run P w = .ok 6 w)
    (hz : ∀ w, (zeroValue t).run P w = .ok (.agg ((FL z n).map U64).toArray) w) (hw : wantF ops F ⟨some d, .build t #[(0, x)], ty, pos, af, gd⟩ = some true) (hd : Nat.blt d N = true)
    (h : Lx P G ro ops N ds (EE fs) Z rest ((d, .agg ((FL (fun i => if i = 0 then l else z i) n).map U64).toArray) :: F) C) : Lx P G ro ops N ds (EE fs) Z (⟨some d, .build t #[(0, x)], ty, pos, af, gd⟩ :: rest) F C :=
  lx_build (ps := [(0, x)]) (vs := [.agg (l.map U64).toArray]) (by simp [evL, hx]) (fun w => run_buildA hl hn hu hs hz w) hw hd h
end
end Go.Proofs.YtdkmalaffcfoeaaGreatDoor

namespace Go.Proofs.YtdkmalaffcfoeaaGreatDoor
open Go.RowKit
set_option maxRecDepth 100000
section
variable {P : Program} {G : Cls} {ro : Option Nat} {ops : Array Oper} {N : Nat} {ds : List Deferred} {E : Oper → Bool} {Q : Exit → Act → World → Prop}
theorem wpListIn_cut {Z : Fr → Cls → Prop} (hZ : ∀ F C, Good G C → Z F C → After N ds Q .normal F C) (l2 : List Oper) : ∀ (l : List Oper) (F : Fr) (C : Cls), Good G C →
    Lx P G ro ops N ds E (fun F' C' => ∃ E', Lx P G ro ops N ds E' Z l2 F' C') l F C → ∀ a w, Has N ds F a → C w → wpListIn (FW ro) 0 P ops Q (l ++ l2) a w
  | [], F, C, hS, h, a, w, ha, hw => by
    obtain ⟨E', h⟩ := h
    exact wpListIn_of_Lx hZ l2 F C hS h a w ha hw
  | o :: rest, F, C, hS, h, a, w, ha, hw => by
    rw [List.cons_append]
    unfold wpListIn
    unfold Lx at h
    cases hE : E o with
    | true =>
      rw [hE] at h
      obtain ⟨hwant, hwp⟩ := h a w ha hw
      rw [if_pos hwant]
      refine Oper.wpIn_exits (Oper.wpIn_mono (fun a' w' hk => ?_) hwp)
      obtain ⟨F', C', ha', hS', hw', _, hk⟩ := hk
      exact wpListIn_cut hZ l2 rest F' C' hS' hk a' w' ha' hw'
    | false =>
      rw [hE] at h
      obtain ⟨v, ⟨hd, hy⟩, hk⟩ := h
      have hcls : clsOf G o C w := clsOf_of hS hw
      rcases hy a ha with ⟨hwant, hy⟩ | ⟨hwant, rfl⟩
      · rw [if_pos hwant]
        exact hy.wpIn hcls fun w' hg => wpListIn_cut hZ l2 rest _ C hS hk _ w' (ha.putF hd v) (hS.1 _ _ hw hg)
      · rw [if_neg (by simp [hwant])]
        exact ⟨fun f _ => fence_fn ro f, wpListIn_cut hZ l2 rest _ C hS hk _ w (ha.putF hd _) hw⟩
end
section
variable {P : Program} {G : Cls} {ro : Option Nat} {ops : Array Oper} {N : Nat} {ds : List Deferred} {fs : List Nat} {Z : Fr → Cls → Prop} {F : Fr} {C : Cls} {rest : List Oper}
variable {d : Nat} {ty : TypeId} {pos : String} {af : Array Edge} {gd : Option (Nat × Bool)}
/-- A place in an array of rows, by a byte. -/
theorem lx_iak8 {t e : TypeId} {len sz : Nat} (o' : Nat) {x ix : Operand} {b o : Nat} {i : BitVec 8} (hx : evF F x = some (.pointer (some ⟨b, o, none⟩))) (hi : evF F ix = some (U8 i)) (hu : P.underlying t = some (.array len e))
    (hs : ∀ w, (sizeOf e).run P w = .ok sz w) (hb : i.toNat < len) (ho : o + i.toNat * sz = o') (hw : wantF ops F ⟨some d, .indexAddr t x ix, ty, pos, af, gd⟩ = some true) (hd : Nat.blt d N = true)
    (h : Lx P G ro ops N ds (EE fs) Z rest ((d, .pointer (some ⟨b, o', none⟩)) :: F) C) : Lx P G ro ops N ds (EE fs) Z (⟨some d, .indexAddr t x ix, ty, pos, af, gd⟩ :: rest) F C :=
  lx_val (v := .pointer (some ⟨b, o', none⟩)) rfl hw hd (fun _ h => by cases h) (fun a w ha _ => by
    have h1 : ¬ len ≤ i.toNat := by omega
    simp only [execOp, ha.ev hx, ha.ev hi, U8]
    simp [Instr.indexAt, asIntOf, run_underlying hu, Instr.sureAddr, h1, hs, Addr.add_mid, ho]) h
end
section
variable {P : Program} {G : Cls} {ro : Option Nat} {N : Nat} {ds : List Deferred} {F : Fr} {C : Cls} {K : KK}
theorem x_plainC {id : Nat} {l : List Oper} {E : Oper → Bool} (n : Nat) (h : Lx P G ro l.toArray N ds E (fun F' C' => ∃ E', Lx P G ro l.toArray N ds E' (K .normal ds) (l.drop n) F' C') (l.take n) F C) : X P G ro N ds (.region id l.toArray false) F C K := fun hS a w ha hw => by
  have key := wpListIn_cut (Q := fun e a' w' => ∃ ds' F' C', Good G C' ∧ Has N ds' F' a' ∧ C' w' ∧ K e ds' F' C') (fun F' C' hS' hk a' w' ha' hw' => ⟨ds, F', C', hS', ha', hw', hk⟩) (l.drop n) (l.take n) F C hS h a w ha hw
  rw [List.take_append_drop] at key
  exact wpIn_region_lit key
theorem xs_plainC {id : Nat} {l : List Oper} {E : Oper → Bool} {y : Code} (n : Nat) (h : Lx P G ro l.toArray N ds E (fun F' C' => ∃ E', Lx P G ro l.toArray N ds E' (fun F' C' => X P G ro N ds y F' C' K) (l.drop n) F' C') (l.take n) F C) : X P G ro N ds (.seq (.region id l.toArray false) y) F C K := x_seq (x_plainC n h)
end
end Go.Proofs.YtdkmalaffcfoeaaGreatDoor

namespace Go.Proofs.YtdkmalaffcfoeaaGreatDoor
open Go.RowKit
set_option maxRecDepth 100000
section
variable {P : Program} {G : Cls} {ro : Option Nat} {N : Nat} {ds : List Deferred} {l : List Oper} {E : Oper → Bool} {K : KK} {F : Fr} {C : Cls}
def lst0 (l : List Oper) (σ : List Nat) : Array Bool := lstd σ (Array.replicate l.toArray.size false)
/-- What is left of the region, 'σ' being done. -/
def TR (P : Program) (G : Cls) (ro : Option Nat) (N : Nat) (ds : List Deferred) (l : List Oper) (E : Oper → Bool) (K : KK) (m : Nat) (σ : List Nat) (F : Fr) (C : Cls) : Prop :=
  Region.noSelect l.toArray = true → noDefer l.toArray = true → Closed .any l.toArray (lst0 l σ) → Good G C → ∀ a, Has N ds F a →
    TreeC P G ro .any l.toArray (fun e a' w' => ∃ ds' F' C', Good G C' ∧ Has N ds' F' a' ∧ C' w' ∧ K e ds' F' C') E m (lst0 l σ) a C
theorem lst0_app (σ τ : List Nat) : lst0 l (σ ++ τ) = lstd τ (lst0 l σ) := by unfold lst0 lstd; rw [List.foldl_append]
/-- Steps that may be taken first. -/
theorem tr_pre {m : Nat} {σ : List Nat} (τ : List Nat) (hok : okPre .any l.toArray E τ (lst0 l σ) = true) (h : Lx P G ro l.toArray N ds E (fun F' C' => TR P G ro N ds l E K m (σ ++ τ) F' C') (pickL τ l) F C) :
    TR P G ro N ds l E K (τ.length + m) σ F C := fun hsel hdef hc hS a ha => by
  rw [← pickL_eq] at h
  refine tree_pre (Z := fun F' C' => TR P G ro N ds l E K m (σ ++ τ) F' C') hsel hdef τ _ F C a hc hok ha hS (fun F' C' a' hc' ha' hS' hZ => ?_) h
  have hZ : TR P G ro N ds l E K m (σ ++ τ) F' C' := hZ
  rw [← lst0_app] at hc' ⊢
  exact hZ hsel hdef hc' hS' a' ha'
/-- Whichever of those that may turn memory comes next. -/
theorem tr_any {m : Nat} {σ : List Nat} (R : List Nat) (hR : Region.ready .any l.toArray (lst0 l σ) = R) (hE : R.all (fun i => (l.toArray[i]?).any E) = true) (hne : R ≠ [])
    (h : ∀ i ∈ R, Lx P G ro l.toArray N ds E (fun F' C' => TR P G ro N ds l E K m (σ ++ [i]) F' C') (pickL [i] l) F C) : TR P G ro N ds l E K (m + 1) σ F C := fun hsel hdef hc hS a ha => by
  refine ⟨fun h0 => absurd (hR.symm.trans h0) hne, fun i hi oi hoi => ?_⟩
  have hiR : i ∈ R := by rw [← hR]; exact hi
  have hEi : E oi = true := by have := List.all_eq_true.1 hE i hiR; rw [hoi] at this; exact this
  have hx := h i hiR
  rw [← pickL_eq] at hx
  have hl : [i].filterMap (l.toArray[·]?) = [oi] := by simp only [List.filterMap_cons, hoi, List.filterMap_nil]
  rw [hl] at hx
  unfold Lx at hx
  rw [hEi] at hx ⊢
  intro w hw
  obtain ⟨hwant, hwp⟩ := hx a w ha hw
  refine ⟨hwant, Oper.wpIn_mono (fun a' w' hk => ?_) hwp⟩
  obtain ⟨F', C', ha', hS', hw', hgr, hk⟩ := hk
  refine ⟨C', hS', hw', hgr, ?_⟩
  have hk : TR P G ro N ds l E K m (σ ++ [i]) F' C' := hk
  have hc' := hc.set hi
  have e : lst0 l (σ ++ [i]) = (lst0 l σ).setIfInBounds i true := lst0_app σ [i]
  rw [← e] at hc' ⊢
  exact hk hsel hdef hc' hS' a' ha'
theorem tr_nil {σ : List Nat} (hR : Region.ready .any l.toArray (lst0 l σ) = []) (h : K .normal ds F C) : TR P G ro N ds l E K 0 σ F C := fun _ _ _ hS _ ha => ⟨hR, fun _ hw => ⟨ds, F, C, hS, ha, hw, h⟩⟩
theorem x_tree {id : Nat} (E : Oper → Bool) (hm : P.follows .mixedOrders = true) (hsel : Region.noSelect l.toArray = true) (hdef : noDefer l.toArray = true) (h : TR P G ro N ds l E K l.length [] F C) : X P G ro N ds (.region id l.toArray true) F C K := fun hS a w ha hw => by
  refine wpIn_region_any hm ?_
  have hc : Closed .any l.toArray (lst0 l []) := fun j i _ hj => by
    rcases Nat.lt_or_ge j l.toArray.size with h' | h'
    · simp at h'; simp [lst0, lstd, h'] at hj
    · simp at h'; simp [lst0, lstd, h'] at hj
  exact wpAnyIn_of_tree _ _ _ C _ hS (hS.1 w _ hw ((Below.refl _ w).drew)) (h hsel hdef hc hS a ha)
theorem xs_tree {id : Nat} {y : Code} (E : Oper → Bool) (hm : P.follows .mixedOrders = true) (hsel : Region.noSelect l.toArray = true) (hdef : noDefer l.toArray = true) (h : TR P G ro N ds l E (Kseq (fun ds' F' C' => X P G ro N ds' y F' C' K) K) l.length [] F C) : X P G ro N ds (.seq (.region id l.toArray true) y) F C K :=
  x_seq (x_tree E hm hsel hdef h)
end
section
variable {P : Program} {G : Cls} {ro : Option Nat} {ops : Array Oper} {N : Nat} {ds : List Deferred} {fs : List Nat} {Z : Fr → Cls → Prop} {F : Fr} {rest : List Oper}
variable {d : Nat} {ty : TypeId} {pos : String} {af : Array Edge} {gd : Option (Nat × Bool)}
variable {B : Bs} {L : Hl}
/-- A new variable, zero: the class is narrowed. -/
theorem lx_allocG (n : Nat) {t : TypeId} {l : List Value} (hG : BOk G B) (hz : ∀ w, (zeroValue t).run P w = .ok (.agg l.toArray) w) (hn : lkB L n = none) (hw : wantF ops F ⟨some d, .alloc t, ty, pos, af, gd⟩ = some true) (hd : Nat.blt d N = true)
    (h : ∀ b, Lx P G ro ops N ds (EE fs) Z rest ((d, .pointer (some ⟨b, 0, none⟩)) :: F) (Hp B ((n, b, l, t) :: L))) : Lx P G ro ops N ds (EE fs) Z (⟨some d, .alloc t, ty, pos, af, gd⟩ :: rest) F (Hp B L) := by
  unfold Lx
  rw [show EE fs ⟨some d, .alloc t, ty, pos, af, gd⟩ = true from rfl]
  intro a w ha hC
  refine ⟨ha.want hw, fun f _ => fence_fn ro f, ?_⟩
  rw [show (FW ro).round = ro from rfl, Oper.semAt_eq _ _ _ (fun _ h => by cases h)]
  have e : (execOp a.eval ⟨some d, .alloc t, ty, pos, af, gd⟩).run P w = .ok (.value (.pointer (some ⟨w.heap.size, 0, none⟩))) (w.alloc (.cells l.toArray t)) := by
    simp only [execOp, Instr.alloc, Sem.run_bind, hz, Result.andThen_ok]
    rfl
  rw [e]
  exact ⟨_, Hp B ((n, w.heap.size, l, t) :: L), ha.putF (d := some d) hd _, good_hp hG, hC.alloc hG.r n l t, fun _ => hp_fresh hG.r hn, h w.heap.size⟩
end
end Go.Proofs.YtdkmalaffcfoeaaGreatDoor

namespace Go.Proofs.YtdkmalaffcfoeaaGreatDoor
open Go.RowKit
set_option maxRecDepth 100000
section
variable {P : Program} {G : Cls} {ro : Option Nat} {ops : Array Oper} {N : Nat} {ds : List Deferred} {fs : List Nat} {Z : Fr → Cls → Prop} {F : Fr} {C : Cls} {rest : List Oper}
variable {d : Nat} {ty : TypeId} {pos : String} {af : Array Edge} {gd : Option (Nat × Bool)}
variable {B : Bs} {L : Hl}
end
end Go.Proofs.YtdkmalaffcfoeaaGreatDoor

namespace Go.Proofs.YtdkmalaffcfoeaaGreatDoor
open Go.RowKit
set_option maxRecDepth 100000
section
variable {P : Program} {G : Cls} {ro : Option Nat} {md : Region.Mode} {ops : Array Oper} {N : Nat} {ds : List Deferred} {E : Oper → Bool} {Q : Exit → Act → World → Prop}
end
section
variable {P : Program} {G : Cls} {ro : Option Nat} {N : Nat} {ds : List Deferred} {l : List Oper} {E : Oper → Bool} {K : KK} {F : Fr} {C : Cls}
theorem Pure.sub {G' : Cls} {f : FuncId} {vs : List Value} {v : Value} (h : Pure P G f vs v) (hle : ∀ w, G' w → G w) : Pure P G' f vs v := fun w hw => h w (hle w hw)
end
end Go.Proofs.YtdkmalaffcfoeaaGreatDoor

namespace Go.Proofs.YtdkmalaffcfoeaaGreatDoor
open Go.RowKit
set_option maxRecDepth 100000
section
variable {P : Program} {G : Cls} {ro : Option Nat} {ops : Array Oper} {N : Nat} {ds : List Deferred} {fs : List Nat} {Z : Fr → Cls → Prop} {F : Fr} {C : Cls} {rest : List Oper}
variable {d : Nat} {ty : TypeId} {pos : String} {af : Array Edge} {gd : Option (Nat × Bool)}
end
end Go.Proofs.YtdkmalaffcfoeaaGreatDoor

namespace Go.Proofs.YtdkmalaffcfoeaaGreatDoor
open Go.RowKit
set_option maxRecDepth 100000
section
variable {P : Program}
/-! ### Compared -/
/-- Values of this type are rows of n numbers, and are compared as such. -/
def EqF (P : Program) (t : TypeId) (n d0 : Nat) : Prop := ∀ xs ys : List (BitVec 64), xs.length = n → ys.length = n → ∀ (d : Nat) (w : World), (Op.equalIn (d + d0) t (.agg (xs.map U64).toArray) (.agg (ys.map U64).toArray)).run P w = .ok (decide (xs = ys)) w
theorem eqf_arr {t e : TypeId} {n : Nat} (hu : P.underlying t = some (.array n e)) (he : P.underlying e = some (.int .u64)) (hs : ∀ w, (sizeOf e).run P w = .ok 1 w) (hag : ∀ w, (isAgg e).run P w = .ok false w) : EqF P t n 2 :=
  fun xs ys hl hl' d w => eq64 hu he hs hag xs ys hl hl' d w
theorem part_cut {t : TypeId} {m o : Nat} (hag : ∀ w, (isAgg t).run P w = .ok true w) (hs : ∀ w, (sizeOf t).run P w = .ok m w) (xs : List (BitVec 64)) (w : World) : (part t (xs.map U64).toArray o).run P w = .ok (.agg (((xs.drop o).take m).map U64).toArray) w := by
  simp only [part, Sem.run_bind, hag, hs, Result.andThen_ok, if_true, Sem.run_pure]
  congr 2
  simp [List.extract_toArray, List.map_take, List.map_drop]
theorem two_iff {xs ys : List (BitVec 64)} {m n : Nat} (hx : xs.length = m + n) (hy : ys.length = m + n) : xs = ys ↔ ((xs.drop 0).take m = (ys.drop 0).take m ∧ (xs.drop m).take n = (ys.drop m).take n) := by
  constructor
  · intro h; rw [h]; exact ⟨rfl, rfl⟩
  · rintro ⟨h1, h2⟩
    rw [List.drop_zero, List.drop_zero] at h1
    rw [List.take_of_length_le (by rw [List.length_drop]; omega), List.take_of_length_le (by rw [List.length_drop]; omega)] at h2
    rw [← List.take_append_drop m xs, ← List.take_append_drop m ys, h1, h2]
theorem eqf_one {t : TypeId} {f : Field} {n d0 : Nat} (hu : P.underlying t = some (.struct #[f])) (h0 : f.offset = 0) (hn : f.name ≠ "_") (hsi : P.stoodInHeld t = false) (hag : ∀ w, (isAgg f.type).run P w = .ok true w) (hs : ∀ w, (sizeOf f.type).run P w = .ok n w) (he : EqF P f.type n d0) : EqF P t n (d0 + 1) := by
  intro xs ys hx hy d w
  rw [show d + (d0 + 1) = (d + d0) + 1 from rfl, Op.equalIn]
  simp only [Sem.run_bind, run_underlying hu, Result.andThen_ok]
  have p1 := part_cut (o := 0) hag hs xs w
  have p2 := part_cut (o := 0) hag hs ys w
  rw [List.drop_zero, List.take_of_length_le (by omega)] at p1 p2
  have e := he xs ys hx hy d w
  simp [hsi, hn, h0, p1, p2, e]
  by_cases h : xs = ys <;> simp [h]
theorem eqf_two {t : TypeId} {f g : Field} {m n d0 : Nat} (hu : P.underlying t = some (.struct #[f, g])) (h0 : f.offset = 0) (h1 : g.offset = m) (hn : f.name ≠ "_") (hn' : g.name ≠ "_") (hsi : P.stoodInHeld t = false)
    (hag : ∀ w, (isAgg f.type).run P w = .ok true w) (hs : ∀ w, (sizeOf f.type).run P w = .ok m w) (he : EqF P f.type m d0) (hag' : ∀ w, (isAgg g.type).run P w = .ok true w) (hs' : ∀ w, (sizeOf g.type).run P w = .ok n w) (he' : EqF P g.type n d0) : EqF P t (m + n) (d0 + 1) := by
  intro xs ys hx hy d w
  rw [show d + (d0 + 1) = (d + d0) + 1 from rfl, Op.equalIn]
  simp only [Sem.run_bind, run_underlying hu, Result.andThen_ok]
  have p1 := part_cut (o := 0) hag hs xs w
  have p2 := part_cut (o := 0) hag hs ys w
  have p3 := part_cut (o := m) hag' hs' xs w
  have p4 := part_cut (o := m) hag' hs' ys w
  have e1 := he ((xs.drop 0).take m) ((ys.drop 0).take m) (by rw [List.drop_zero, List.length_take]; omega) (by rw [List.drop_zero, List.length_take]; omega) d w
  have e2 := he' ((xs.drop m).take n) ((ys.drop m).take n) (by rw [List.length_take, List.length_drop]; omega) (by rw [List.length_take, List.length_drop]; omega) d w
  have i := two_iff hx hy
  generalize (xs.drop 0).take m = a1 at *
  generalize (ys.drop 0).take m = a2 at *
  generalize (xs.drop m).take n = b1 at *
  generalize (ys.drop m).take n = b2 at *
  simp [hsi, hn, hn', h0, h1, p1, p2, p3, p4, e1, e2]
  by_cases ha : a1 = a2
  · by_cases hb : b1 = b2
    · simp [ha, hb, i.2 ⟨ha, hb⟩]
    · simp [ha, hb, show ¬ xs = ys from fun h => hb (i.1 h).2]
  · simp [ha, show ¬ xs = ys from fun h => ha (i.1 h).1]
theorem bin_eqf {t : TypeId} {n d0 : Nat} (he : EqF P t n d0) (hd : d0 ≤ 100) (xs ys : List (BitVec 64)) (hl : xs.length = n) (hl' : ys.length = n) (w : World) : (binOp .eql t (.agg (xs.map U64).toArray) (.agg (ys.map U64).toArray)).run P w = .ok (.bool (decide (xs = ys))) w := by
  rw [run_eql_struct, show (10000 : Nat) = (10000 - d0) + d0 by omega, he xs ys hl hl' (10000 - d0) w]; rfl
theorem bin_nef {t : TypeId} {n d0 : Nat} (he : EqF P t n d0) (hd : d0 ≤ 100) (xs ys : List (BitVec 64)) (hl : xs.length = n) (hl' : ys.length = n) (w : World) : (binOp .neq t (.agg (xs.map U64).toArray) (.agg (ys.map U64).toArray)).run P w = .ok (.bool (!decide (xs = ys))) w := by
  rw [run_neq_struct, show (10000 : Nat) = (10000 - d0) + d0 by omega, he xs ys hl hl' (10000 - d0) w]; rfl
/-! ### Read -/
theorem ld_l {a b : List (BitVec 64)} : ∀ j v, (a.map U64)[j]? = some v → ((a ++ b).map U64)[0 + j]? = some v := fun j v h => by
  have hj : j < (a.map U64).length := by
    rcases Nat.lt_or_ge j (a.map U64).length with h' | h'
    · exact h'
    · rw [List.getElem?_eq_none h'] at h; cases h
  rw [Nat.zero_add, List.map_append, List.getElem?_append_left hj]; exact h
theorem ld_r {a b : List (BitVec 64)} {m : Nat} (hm : a.length = m) : ∀ j v, (b.map U64)[j]? = some v → ((a ++ b).map U64)[m + j]? = some v := fun j v h => by
  rw [List.map_append, List.getElem?_append_right (by rw [List.length_map]; omega), List.length_map, hm, Nat.add_sub_cancel_left]; exact h
theorem lay_l {a b c : List (BitVec 64)} (h : c.length = a.length) : lay 0 (c.map U64) ((a ++ b).map U64) = (c ++ b).map U64 := by
  apply List.ext_getElem?
  intro m
  rw [lay_get _ _ _ _ (by simp; omega)]
  simp only [List.map_append, List.getElem?_append, List.length_map, Nat.zero_le, true_and, Nat.zero_add, Nat.sub_zero, h]
  by_cases hm : m < a.length
  · simp [hm]
  · simp [hm]
theorem lay_r {a b c : List (BitVec 64)} {m : Nat} (hm : a.length = m) (h : c.length = b.length) : lay m (c.map U64) ((a ++ b).map U64) = (a ++ c).map U64 := by
  apply List.ext_getElem?
  intro k
  rw [lay_get _ _ _ _ (by simp; omega)]
  simp only [List.map_append, List.getElem?_append, List.length_map, h, hm]
  by_cases hk : k < m
  · simp [hk, show ¬ m ≤ k by omega]
  · by_cases hk2 : k < m + b.length
    · simp [hk, hk2, show m ≤ k by omega]
    · rw [if_neg (by omega), if_neg hk, if_neg hk, List.getElem?_eq_none (by simp; omega), List.getElem?_eq_none (by simp; omega)]
/-! ### Built -/
theorem run_buildP {t : TypeId} {fields : Array Field} {ps : Array (Nat × Nat)} {c out : List Value} (hz : ∀ w, (zeroValue t).run P w = .ok (.agg c.toArray) w) (hu : P.underlying t = some (.struct fields))
    (hm : ∀ w, (Array.mapM (fun f => Prod.mk f.offset <$> sizeOf f.type) fields : Sem _).run P w = .ok ps w) (parts : List (Nat × Value)) (hf : Instr.fill (fun i => ps[i]?) c.toArray parts = some out.toArray) (w : World) :
    (Instr.build t parts.toArray).run P w = .ok (.agg out.toArray) w := by
  have hm' : (Array.mapM (fun f => do let x ← sizeOf f.type; pure (f.offset, x)) fields : Sem _).run P w = .ok ps w := hm w
  simp only [Instr.build, hz, run_underlying hu, Sem.run_bind, Result.andThen_ok]
  rw [hm', Result.andThen_ok]
  rw [show (Value.agg c.toArray).cells = c.toArray from rfl, hf]
  rfl
theorem mapM_two {f g : Field} {m n : Nat} (h0 : f.offset = 0) (h1 : g.offset = m) (hs : ∀ w, (sizeOf f.type).run P w = .ok m w) (hs' : ∀ w, (sizeOf g.type).run P w = .ok n w) (w : World) :
    (Array.mapM (fun f => Prod.mk f.offset <$> sizeOf f.type) #[f, g] : Sem _).run P w = .ok #[(0, m), (m, n)] w := by
  simp [hs, hs', h0, h1]
section
variable {t : TypeId} {f g : Field} {m n : Nat} {za zb : List (BitVec 64)}
theorem run_two (h0 : f.offset = 0) (h1 : g.offset = m) (hs : ∀ w, (sizeOf f.type).run P w = .ok m w) (hs' : ∀ w, (sizeOf g.type).run P w = .ok n w) (hu : P.underlying t = some (.struct #[f, g]))
    (hz : ∀ w, (zeroValue t).run P w = .ok (.agg ((za ++ zb).map U64).toArray) w) (hza : za.length = m) (hzb : zb.length = n) {a b : List (BitVec 64)} (ha : a.length = m) (hb : b.length = n) (w : World) :
    (Instr.build t #[(0, .agg (a.map U64).toArray), (1, .agg (b.map U64).toArray)]).run P w = .ok (.agg ((a ++ b).map U64).toArray) w :=
  run_buildP (c := (za ++ zb).map U64) hz hu (mapM_two h0 h1 hs hs') [(0, .agg (a.map U64).toArray), (1, .agg (b.map U64).toArray)] (by
    rw [fill_one (off := 0) (size := m) (vs := a.map U64) rfl (by simp [ha]) (by simp; omega), lay_l (by omega), fill_one (off := m) (size := n) (vs := b.map U64) rfl (by simp [hb]) (by simp; omega), lay_r ha (by omega)]
    rfl) w
theorem run_twoA (h0 : f.offset = 0) (h1 : g.offset = m) (hs : ∀ w, (sizeOf f.type).run P w = .ok m w) (hs' : ∀ w, (sizeOf g.type).run P w = .ok n w) (hu : P.underlying t = some (.struct #[f, g]))
    (hz : ∀ w, (zeroValue t).run P w = .ok (.agg ((za ++ zb).map U64).toArray) w) (hza : za.length = m) (hzb : zb.length = n) {a : List (BitVec 64)} (ha : a.length = m) (w : World) :
    (Instr.build t #[(0, .agg (a.map U64).toArray)]).run P w = .ok (.agg ((a ++ zb).map U64).toArray) w :=
  run_buildP (c := (za ++ zb).map U64) hz hu (mapM_two h0 h1 hs hs') [(0, .agg (a.map U64).toArray)] (by
    rw [fill_one (off := 0) (size := m) (vs := a.map U64) rfl (by simp [ha]) (by simp; omega), lay_l (by omega)]
    rfl) w
theorem run_twoB (h0 : f.offset = 0) (h1 : g.offset = m) (hs : ∀ w, (sizeOf f.type).run P w = .ok m w) (hs' : ∀ w, (sizeOf g.type).run P w = .ok n w) (hu : P.underlying t = some (.struct #[f, g]))
    (hz : ∀ w, (zeroValue t).run P w = .ok (.agg ((za ++ zb).map U64).toArray) w) (hza : za.length = m) (hzb : zb.length = n) {b : List (BitVec 64)} (hb : b.length = n) (w : World) :
    (Instr.build t #[(1, .agg (b.map U64).toArray)]).run P w = .ok (.agg ((za ++ b).map U64).toArray) w :=
  run_buildP (c := (za ++ zb).map U64) hz hu (mapM_two h0 h1 hs hs') [(1, .agg (b.map U64).toArray)] (by
    rw [fill_one (off := m) (size := n) (vs := b.map U64) rfl (by simp [hb]) (by simp; omega), lay_r hza (by omega)]
    rfl) w
variable {G : Cls} {ro : Option Nat} {ops : Array Oper} {N : Nat} {ds : List Deferred} {fs : List Nat} {Z : Fr → Cls → Prop} {rest : List Oper} {F : Fr} {C : Cls} {d : Nat} {ty : TypeId} {pos : String} {af : Array Edge} {gd : Option (Nat × Bool)}
/-- What is known of a struct of two rows. -/
structure Two (P : Program) (t : TypeId) (f g : Field) (m n : Nat) (za zb : List (BitVec 64)) : Prop where
  u : P.underlying t = some (.struct #[f, g])
  h0 : f.offset = 0
  h1 : g.offset = m
  s0 : ∀ w, (sizeOf f.type).run P w = .ok m w
  s1 : ∀ w, (sizeOf g.type).run P w = .ok n w
  z : ∀ w, (zeroValue t).run P w = .ok (.agg ((za ++ zb).map U64).toArray) w
  la : za.length = m
  lb : zb.length = n
theorem lx_two (q : Two P t f g m n za zb) {x y : Operand} {a b : List (BitVec 64)} (hx : evF F x = some (.agg (a.map U64).toArray)) (hy : evF F y = some (.agg (b.map U64).toArray)) (ha : a.length = m) (hb : b.length = n)
    (hw : wantF ops F ⟨some d, .build t #[(0, x), (1, y)], ty, pos, af, gd⟩ = some true) (hd : Nat.blt d N = true)
    (h : Lx P G ro ops N ds (EE fs) Z rest ((d, .agg ((a ++ b).map U64).toArray) :: F) C) : Lx P G ro ops N ds (EE fs) Z (⟨some d, .build t #[(0, x), (1, y)], ty, pos, af, gd⟩ :: rest) F C :=
  lx_build (ps := [(0, x), (1, y)]) (vs := [.agg (a.map U64).toArray, .agg (b.map U64).toArray]) (by simp [evL, hx, hy]) (fun w => run_two q.h0 q.h1 q.s0 q.s1 q.u q.z q.la q.lb ha hb w) hw hd h
theorem lx_twoA (q : Two P t f g m n za zb) {x : Operand} {a : List (BitVec 64)} (hx : evF F x = some (.agg (a.map U64).toArray)) (ha : a.length = m)
    (hw : wantF ops F ⟨some d, .build t #[(0, x)], ty, pos, af, gd⟩ = some true) (hd : Nat.blt d N = true)
    (h : Lx P G ro ops N ds (EE fs) Z rest ((d, .agg ((a ++ zb).map U64).toArray) :: F) C) : Lx P G ro ops N ds (EE fs) Z (⟨some d, .build t #[(0, x)], ty, pos, af, gd⟩ :: rest) F C :=
  lx_build (ps := [(0, x)]) (vs := [.agg (a.map U64).toArray]) (by simp [evL, hx]) (fun w => run_twoA q.h0 q.h1 q.s0 q.s1 q.u q.z q.la q.lb ha w) hw hd h
theorem lx_twoB (q : Two P t f g m n za zb) {y : Operand} {b : List (BitVec 64)} (hy : evF F y = some (.agg (b.map U64).toArray)) (hb : b.length = n)
    (hw : wantF ops F ⟨some d, .build t #[(1, y)], ty, pos, af, gd⟩ = some true) (hd : Nat.blt d N = true)
    (h : Lx P G ro ops N ds (EE fs) Z rest ((d, .agg ((za ++ b).map U64).toArray) :: F) C) : Lx P G ro ops N ds (EE fs) Z (⟨some d, .build t #[(1, y)], ty, pos, af, gd⟩ :: rest) F C :=
  lx_build (ps := [(1, y)]) (vs := [.agg (b.map U64).toArray]) (by simp [evL, hy]) (fun w => run_twoB q.h0 q.h1 q.s0 q.s1 q.u q.z q.la q.lb hb w) hw hd h
theorem lx_two0 (q : Two P t f g m n za zb) (hw : wantF ops F ⟨some d, .build t #[], ty, pos, af, gd⟩ = some true) (hd : Nat.blt d N = true)
    (h : Lx P G ro ops N ds (EE fs) Z rest ((d, .agg ((za ++ zb).map U64).toArray) :: F) C) : Lx P G ro ops N ds (EE fs) Z (⟨some d, .build t #[], ty, pos, af, gd⟩ :: rest) F C :=
  lx_builds q.z q.u (fun w => ⟨_, mapM_two q.h0 q.h1 q.s0 q.s1 w⟩) hw hd h
end
end
end Go.Proofs.YtdkmalaffcfoeaaGreatDoor

namespace Go.Proofs.YtdkmalaffcfoeaaGreatDoor
open Go.RowKit
set_option maxRecDepth 100000
/-! ### Rows of twelve -/
def FM (f : Nat → List (BitVec 64)) (n : Nat) : List (BitVec 64) := (List.range (12 * n)).map fun m => (f (m / 12)).getD (m % 12) 0
theorem FM_len (f : Nat → List (BitVec 64)) (n : Nat) : (FM f n).length = 12 * n := by rw [FM, List.length_map, List.length_range]
section
variable {P : Program} {G : Cls} {ro : Option Nat} {ops : Array Oper} {N : Nat} {ds : List Deferred} {fs : List Nat} {Z : Fr → Cls → Prop} {F : Fr} {C : Cls} {rest : List Oper}
variable {d : Nat} {ty : TypeId} {pos : String} {af : Array Edge} {gd : Option (Nat × Bool)}
end
end Go.Proofs.YtdkmalaffcfoeaaGreatDoor

namespace Go.Proofs.YtdkmalaffcfoeaaGreatDoor
open Go.RowKit
section
variable {P : Program} {G : Cls} {ro : Option Nat} {N : Nat} {ds : List Deferred} {F : Fr} {C : Cls} {K : KK} {B : Bs}
theorem x_join {x y : Code} {ι : Type} (Fm : ι → Fr) (Lm : ι → Hl) (hG : BOk G B)
    (h1 : X P G ro N ds x F C (Kseq (fun ds' F' C' => ds' = ds ∧ ∃ j L', C' = Hp B L' ∧ SubF F' (Fm j) ∧ SubB L' (Lm j)) K))
    (h2 : ∀ j, X P G ro N ds y (Fm j) (Hp B (Lm j)) K) : X P G ro N ds (.seq x y) F C K :=
  x_seq (h1.mono fun e ds' F' C' hk => by
    cases e with
    | normal =>
      obtain ⟨rfl, j, L', rfl, a, b⟩ := hk
      exact x_cut (Fm j) (Lm j) hG a b (h2 j)
    | _ => exact hk)
end
end Go.Proofs.YtdkmalaffcfoeaaGreatDoor

namespace Go.Proofs.YtdkmalaffcfoeaaGreatDoor
open Go.RowKit
set_option maxRecDepth 100000
/-- What an operation writes (0: nothing), what it looks at, for what it waits. -/
abbrev Trow := Nat × List Nat × List Nat
def trow (ops : Array Oper) (o : Oper) : Trow := ((match o.dst with | some d => d + 1 | none => 0), o.looksAt ops, (o.after.toList.filter (Region.binds .any)).map (·.on))
def apT (x y : Trow) : Bool :=
  (match x.1 with | 0 => true | d + 1 => !(y.2.1.any (Nat.beq d)) && !(Nat.beq y.1 (d + 1))) && (match y.1 with | 0 => true | d + 1 => !(x.2.1.any (Nat.beq d)))
def okT : Nat → List Trow → Bool
  | _, [] => true
  | k, r :: rs => r.2.2.all (fun e => Nat.blt e k) && rs.all (fun s => s.2.2.any (Nat.beq k) || apT r s) && okT (k + 1) rs
theorem okT_at : ∀ (T : List Trow) (k i : Nat) (r : Trow), okT k T = true → T[i]? = some r → (∀ e ∈ r.2.2, e < k + i) ∧ ∀ j s, i < j → T[j]? = some s → (k + i) ∈ s.2.2 ∨ apT r s = true
  | [], _, _, _, _, h => by simp at h
  | t :: T, k, 0, r, h, hr => by
    simp only [okT, Bool.and_eq_true] at h
    simp at hr
    subst hr
    refine ⟨fun e he => ?_, fun j s hj hs => ?_⟩
    · have := List.all_eq_true.1 h.1.1 e he
      simpa using this
    · obtain ⟨m, rfl⟩ : ∃ m, j = m + 1 := ⟨j - 1, by omega⟩
      simp at hs
      have := List.all_eq_true.1 h.1.2 s (List.mem_of_getElem? hs)
      rcases Bool.or_eq_true _ _ ▸ this with h1 | h1
      · obtain ⟨e, he, hb⟩ := List.any_eq_true.1 h1
        left
        rw [Nat.add_zero, Nat.eq_of_beq_eq_true hb]
        exact he
      · exact .inr h1
  | t :: T, k, i + 1, r, h, hr => by
    simp only [okT, Bool.and_eq_true] at h
    simp at hr
    have ih := okT_at T (k + 1) i r h.2 hr
    refine ⟨fun e he => by have := ih.1 e he; omega, fun j s hj hs => ?_⟩
    obtain ⟨m, rfl⟩ : ∃ m, j = m + 1 := ⟨j - 1, by omega⟩
    simp at hs
    have := ih.2 m s (by omega) hs
    rw [show k + 1 + i = k + (i + 1) by omega] at this
    exact this
theorem apT_apart {ops : Array Oper} {x y : Oper} (h : apT (trow ops x) (trow ops y) = true) : x.apart ops y = true := by
  simp only [apT, trow, Bool.and_eq_true] at h
  unfold Oper.apart
  rw [Bool.and_eq_true]
  refine ⟨?_, ?_⟩
  · cases hx : x.dst with
    | none => rfl
    | some d =>
      have h1 := h.1
      simp only [hx, Bool.and_eq_true, Bool.not_eq_true'] at h1
      simp only [Bool.and_eq_true, Bool.not_eq_true', bne_iff_ne]
      refine ⟨?_, fun e => ?_⟩
      · rw [Bool.eq_false_iff]
        intro hc
        have hm : d ∈ y.looksAt ops := by simpa using hc
        have := List.any_eq_true.2 ⟨d, hm, Nat.beq_refl d⟩
        rw [h1.1] at this
        cases this
      · rw [e] at h1
        simp at h1
  · cases hy : y.dst with
    | none => rfl
    | some d =>
      have h1 := h.2
      simp only [hy, Bool.not_eq_true'] at h1
      simp only [Bool.not_eq_true']
      rw [Bool.eq_false_iff]
      intro hc
      have hm : d ∈ x.looksAt ops := by simpa using hc
      have := List.any_eq_true.2 ⟨d, hm, Nat.beq_refl d⟩
      rw [h1] at this
      cases this
section
variable {l : List Oper} {E : Oper → Bool} {T : List Trow}
theorem okFrom_flat (hE : (l.all fun o => !E o) = true) (hT : l.map (trow l.toArray) = T) (hok : okT 0 T = true) : ∀ (m k : Nat) (listed : Array Bool), k + m = l.length → (∀ i, i < l.length → ∀ b, listed.getD i b = decide (i < k)) → listed.size = l.length →
    okFrom .any l.toArray E (List.range' k m) listed = true
  | 0, k, listed, hk, hl, hs => by
    simp only [List.range'_zero, okFrom, Region.ready, List.isEmpty_iff]
    rw [List.filter_eq_nil_iff]
    intro i hi
    have hi' : i < l.length := by simpa using hi
    rw [hl i hi' true, decide_eq_true (by omega)]
    simp
  | m + 1, k, listed, hk, hl, hs => by
    have hkl : k < l.length := by omega
    have hget : l.toArray[k]? = some l[k] := by simp [hkl]
    have hTk : T[k]? = some (trow l.toArray l[k]) := by rw [← hT, List.getElem?_map, List.getElem?_eq_getElem hkl]; rfl
    obtain ⟨h1, h2⟩ := okT_at T 0 k _ hok hTk
    rw [Nat.zero_add] at h1 h2
    have hEk : E l[k] = false := by
      have := List.all_eq_true.1 hE l[k] (List.getElem_mem hkl)
      simpa using this
    rw [show List.range' k (m + 1) = k :: List.range' (k + 1) m from rfl, okFrom]
    simp only [hget, hEk, cond_false, Bool.and_eq_true]
    refine ⟨⟨?_, ?_, ?_⟩, okFrom_flat hE hT hok m (k + 1) _ (by omega) ?_ (by simp [hs])⟩
    · rw [List.contains_iff_mem, Region.ready, List.mem_filter]
      refine ⟨by simpa using hkl, ?_⟩
      rw [hl k hkl true, decide_eq_false (by omega), hget]
      simp only [Option.map_some, Option.getD_some, Bool.not_false, Bool.true_and]
      rw [Array.all_eq_true_iff_forall_mem]
      intro e he
      cases hb : Region.binds .any e with
      | false => rfl
      | true =>
        have : e.on < k := h1 e.on (by
          simp only [trow, List.mem_map, List.mem_filter]
          exact ⟨e, ⟨by simpa using he, hb⟩, rfl⟩)
        rw [hl e.on (by omega) false, decide_eq_true this]
        rfl
    · rw [Region.free, hget]
      simp only [List.all_eq_true, List.mem_range, List.size_toArray]
      intro j hj
      have hgj : l.toArray[j]? = some l[j] := by simp [hj]
      rw [hl j hj true, hgj]
      rcases Nat.lt_trichotomy j k with h | h | h
      · rw [decide_eq_true h]; simp
      · subst h; simp
      · have hTj : T[j]? = some (trow l.toArray l[j]) := by rw [← hT, List.getElem?_map, List.getElem?_eq_getElem hj]; rfl
        have := h2 j _ h hTj
        simp only [Bool.or_eq_true]
        right
        rcases this with h3 | h3
        · left
          simp only [trow, List.mem_map, List.mem_filter] at h3
          obtain ⟨e, ⟨he, hb⟩, ho⟩ := h3
          rw [← Array.any_toList]
          exact List.any_eq_true.2 ⟨e, he, by rw [hb, ho]; simp⟩
        · exact .inr (apT_apart h3)
    · rw [Bool.or_eq_true]
      right
      rw [List.all_eq_true]
      intro j hj
      have hj' : j < l.length := by simpa using hj
      have hgj : l.toArray[j]? = some l[j] := by simp [hj']
      have hEj : E l[j] = false := by
        have := List.all_eq_true.1 hE l[j] (List.getElem_mem hj')
        simpa using this
      rw [hgj]
      simp [hEj]
    · intro i hi b
      by_cases h : i = k
      · subst h
        rw [decide_eq_true (by omega)]
        simp [Array.getD_eq_getD_getElem?, hs, hi]
      · have := hl i hi b
        rw [Array.getD_eq_getD_getElem?] at this ⊢
        rw [Array.getElem?_setIfInBounds_ne (fun e => h e.symm), this]
        exact decide_eq_decide.2 (by omega)
theorem ok_table (T : List Trow) (hE : (l.all fun o => !E o) = true) (hT : l.map (trow l.toArray) = T) (hok : okT 0 T = true) : okFrom .any l.toArray E (List.range l.length) (Array.replicate l.toArray.size false) = true := by
  rw [List.range_eq_range']
  refine okFrom_flat hE hT hok l.length 0 _ (by omega) (fun i hi b => ?_) (by simp)
  rw [Array.getD_eq_getD_getElem?]
  simp [hi]
end
section
variable {P : Program} {G : Cls} {ro : Option Nat} {N : Nat} {ds : List Deferred} {F : Fr} {C : Cls} {K : KK}
theorem xs_drawnT {id : Nat} {l : List Oper} {E : Oper → Bool} {y : Code} (T : List Trow) (hm : P.follows .mixedOrders = true) (hsel : Region.noSelect l.toArray = true) (hdef : noDefer l.toArray = true)
    (hE : (l.all fun o => !E o) = true) (hT : l.map (trow l.toArray) = T) (hok : okT 0 T = true) (h : Lx P G ro l.toArray N ds E (fun F' C' => X P G ro N ds y F' C' K) l F C) : X P G ro N ds (.seq (.region id l.toArray true) y) F C K :=
  xs_drawn hm hsel hdef (ok_table T hE hT hok) h
end
end Go.Proofs.YtdkmalaffcfoeaaGreatDoor

namespace Go.Proofs.YtdkmalaffcfoeaaGreatDoor
open Go.RowKit
set_option maxRecDepth 100000
section
variable {P : Program}
/-! ### Read, written -/
/-! ### Built -/
theorem mapM_three {f g h : Field} {m : Nat} (h0 : f.offset = 0) (h1 : g.offset = m) (h2 : h.offset = m + m) (hs : ∀ w, (sizeOf f.type).run P w = .ok m w) (hs' : ∀ w, (sizeOf g.type).run P w = .ok m w) (hs'' : ∀ w, (sizeOf h.type).run P w = .ok m w) (w : World) :
    (Array.mapM (fun f => Prod.mk f.offset <$> sizeOf f.type) #[f, g, h] : Sem _).run P w = .ok #[(0, m), (m, m), (m + m, m)] w := by
  simp [hs, hs', hs'', h0, h1, h2]
/-- What is known of a struct of three rows. -/
structure Three (P : Program) (t : TypeId) (f g h : Field) (m : Nat) (za zb zc : List (BitVec 64)) : Prop where
  u : P.underlying t = some (.struct #[f, g, h])
  h0 : f.offset = 0
  h1 : g.offset = m
  h2 : h.offset = m + m
  s0 : ∀ w, (sizeOf f.type).run P w = .ok m w
  s1 : ∀ w, (sizeOf g.type).run P w = .ok m w
  s2 : ∀ w, (sizeOf h.type).run P w = .ok m w
  z : ∀ w, (zeroValue t).run P w = .ok (.agg ((za ++ (zb ++ zc)).map U64).toArray) w
  la : za.length = m
  lb : zb.length = m
  lc : zc.length = m
section
variable {t : TypeId} {f g h : Field} {m : Nat} {za zb zc : List (BitVec 64)}
variable {G : Cls} {ro : Option Nat} {ops : Array Oper} {N : Nat} {ds : List Deferred} {fs : List Nat} {Z : Fr → Cls → Prop} {rest : List Oper} {F : Fr} {C : Cls} {d : Nat} {ty : TypeId} {pos : String} {af : Array Edge} {gd : Option (Nat × Bool)}
theorem lx_threeN (q : Three P t f g h m za zb zc) (hw : wantF ops F ⟨some d, .build t #[], ty, pos, af, gd⟩ = some true) (hd : Nat.blt d N = true)
    (k : Lx P G ro ops N ds (EE fs) Z rest ((d, .agg ((za ++ (zb ++ zc)).map U64).toArray) :: F) C) : Lx P G ro ops N ds (EE fs) Z (⟨some d, .build t #[], ty, pos, af, gd⟩ :: rest) F C :=
  lx_builds q.z q.u (fun w => ⟨_, mapM_three q.h0 q.h1 q.h2 q.s0 q.s1 q.s2 w⟩) hw hd k
end
/-! ### Arrays of rows, compared -/
theorem cut_all {xs ys : List (BitVec 64)} {n : Nat} (hn : 0 < n) : ∀ (k : Nat), xs.length = k * n → ys.length = k * n → ((List.range' 0 k).all (fun i => decide ((xs.drop (i * n)).take n = (ys.drop (i * n)).take n)) = decide (xs = ys)) := by
  intro k hx hy
  by_cases h : xs = ys
  · subst h; simp
  · rw [decide_eq_false h]
    cases hb : (List.range' 0 k).all (fun i => decide ((xs.drop (i * n)).take n = (ys.drop (i * n)).take n)) with
    | false => rfl
    | true =>
      exfalso
      apply h
      apply List.ext_getElem?
      intro j
      rcases Nat.lt_or_ge j (k * n) with hj | hj
      · have hi : j / n < k := Nat.div_lt_of_lt_mul (by rw [Nat.mul_comm]; exact hj)
        have := of_decide_eq_true (List.all_eq_true.1 hb (j / n) (by simp [List.mem_range'_1]; exact hi))
        have e := congrArg (fun l => l[j % n]?) this
        have hm := Nat.mod_lt j hn
        simp only [List.getElem?_take, hm, if_true, List.getElem?_drop] at e
        rw [Nat.mul_comm, Nat.div_add_mod] at e
        exact e
      · rw [List.getElem?_eq_none (by omega), List.getElem?_eq_none (by omega)]
theorem eqf_arrF {t e : TypeId} {k n d0 : Nat} (hn : 0 < n) (hu : P.underlying t = some (.array k e)) (hag : ∀ w, (isAgg e).run P w = .ok true w) (hs : ∀ w, (sizeOf e).run P w = .ok n w) (he : EqF P e n d0) : EqF P t (k * n) (d0 + 1) := by
  intro xs ys hl hl' d w
  rw [show d + (d0 + 1) = (d + d0) + 1 from rfl, Op.equalIn]
  simp only [Sem.run_bind, run_underlying hu, Result.andThen_ok, hs]
  rw [Std.Legacy.Range.forIn_eq_forIn_range']
  have key : ∀ is : List Nat, (∀ i ∈ is, i < k) → ∀ {β : Type} (f : Nat → β → Sem (ForInStep β)) (b b1 : β), (∀ i, i < k → (f i b).run P w = .ok (if decide ((xs.drop (i * n)).take n = (ys.drop (i * n)).take n) then .yield b else .done b1) w) → (forIn is b f).run P w = .ok (if is.all (fun i => decide ((xs.drop (i * n)).take n = (ys.drop (i * n)).take n)) then b else b1) w := by
    intro is
    induction is with
    | nil => intro _ β f b b1 _; simp
    | cons i r ih =>
      intro hi β f b b1 hf
      rw [List.forIn_cons, Sem.run_bind, hf i (hi i (by simp)), Result.andThen_ok, List.all_cons]
      cases hb : decide ((xs.drop (i * n)).take n = (ys.drop (i * n)).take n) with
      | true => simpa using ih (fun j hj => hi j (by simp [hj])) f b b1 hf
      | false => simp
  rw [key _ (by intro i hi; simp at hi; omega) _ _ ⟨some false, ()⟩ ?_]
  · have := cut_all hn k hl hl'
    simp only [Std.Legacy.Range.size, Nat.sub_zero, Nat.add_sub_cancel, Nat.div_one] at *
    rw [this]
    cases decide (xs = ys) <;> simp
  · intro i hi
    have hle : i * n + n ≤ k * n := by have := Nat.mul_le_mul_right n hi; rw [Nat.succ_mul] at this; exact this
    have p1 := part_cut (o := i * n) hag hs xs w
    have p2 := part_cut (o := i * n) hag hs ys w
    have e1 := he ((xs.drop (i * n)).take n) ((ys.drop (i * n)).take n) (by rw [List.length_take, List.length_drop]; omega) (by rw [List.length_take, List.length_drop]; omega) d w
    simp only [Sem.run_bind, p1, p2, e1, Result.andThen_ok]
    cases decide ((xs.drop (i * n)).take n = (ys.drop (i * n)).take n) <;> simp
end
end Go.Proofs.YtdkmalaffcfoeaaGreatDoor

namespace Go.Proofs.YtdkmalaffcfoeaaGreatDoor
open Go.RowKit
set_option maxRecDepth 100000
section
variable {P : Program} {G : Cls} {ro : Option Nat} {ops : Array Oper} {N : Nat} {ds : List Deferred} {fs : List Nat} {Z : Fr → Cls → Prop} {F : Fr} {C : Cls} {rest : List Oper}
variable {d : Nat} {ty : TypeId} {pos : String} {af : Array Edge} {gd : Option (Nat × Bool)} {B : Bs} {L : Hl}
end
end Go.Proofs.YtdkmalaffcfoeaaGreatDoor

namespace Go.Proofs.YtdkmalaffcfoeaaGreatDoor
open Go.RowKit
set_option maxRecDepth 100000
section
variable {P : Program} {G : Cls} {ro : Option Nat} {ops : Array Oper} {N : Nat} {ds : List Deferred} {fs : List Nat} {Z : Fr → Cls → Prop} {F : Fr} {C : Cls} {rest : List Oper}
variable {d : Nat} {ty : TypeId} {pos : String} {af : Array Edge} {gd : Option (Nat × Bool)}
end
section
variable {P : Program} {G : Cls} {N : Nat} {ds : List Deferred} {F : Fr} {B : Bs} {L : Hl} {K : KK}
end
end Go.Proofs.YtdkmalaffcfoeaaGreatDoor

namespace Go.Proofs.YtdkmalaffcfoeaaGreatDoor
open Go.RowKit
set_option maxRecDepth 100000
/-! ### Rows of any width -/
def RW (s : Nat) (f : Nat → List (BitVec 64)) (n : Nat) : List (BitVec 64) := (List.range (s * n)).map fun m => (f (m / s)).getD (m % s) 0
section
variable {s : Nat}
theorem RW_len (f : Nat → List (BitVec 64)) (n : Nat) : (RW s f n).length = s * n := by rw [RW, List.length_map, List.length_range]
theorem RW_get (f : Nat → List (BitVec 64)) (n m : Nat) (h : m < s * n) : (RW s f n)[m]? = some ((f (m / s)).getD (m % s) 0) := by
  rw [RW, List.getElem?_map, List.getElem?_range h]; rfl
theorem row_in {k n j : Nat} (hk : k < n) (hj : j < s) : s * k + j < s * n := by
  have h1 : s * (k + 1) ≤ s * n := Nat.mul_le_mul_left s hk
  rw [Nat.mul_succ] at h1
  omega
theorem row_div {k j : Nat} (hj : j < s) : (s * k + j) / s = k := by
  rw [Nat.mul_add_div (by omega), Nat.div_eq_of_lt hj, Nat.add_zero]
theorem row_mod {k j : Nat} (hj : j < s) : (s * k + j) % s = j := by rw [Nat.mul_add_mod, Nat.mod_eq_of_lt hj]
theorem RW_load (f : Nat → List (BitVec 64)) (n k : Nat) (hk : k < n) (hf : (f k).length = s) (o : Nat) (ho : o = s * k) : ∀ j v, ((f k).map U64)[j]? = some v → ((RW s f n).map U64)[o + j]? = some v := fun j v hv => by
  have hj : j < s := by
    rcases Nat.lt_or_ge j s with h | h
    · exact h
    · rw [List.getElem?_eq_none (by rw [List.length_map, hf]; exact h)] at hv; cases hv
  rw [List.getElem?_map] at hv ⊢
  rw [ho, RW_get f n (s * k + j) (row_in hk hj), row_div hj, row_mod hj]
  rw [List.getElem?_eq_getElem (by omega)] at hv
  rw [← hv, List.getD_eq_getElem?_getD, List.getElem?_eq_getElem (by omega)]
  rfl
theorem RW_congr {f g : Nat → List (BitVec 64)} {n : Nat} (h : ∀ i, i < n → f i = g i) : RW s f n = RW s g n := by
  unfold RW
  refine List.map_congr_left fun m hm => ?_
  rw [List.mem_range] at hm
  rw [h (m / s) (Nat.div_lt_of_lt_mul hm)]
theorem RW_lay (f : Nat → List (BitVec 64)) (n k : Nat) (g : List (BitVec 64)) (hk : k < n) (hg : g.length = s) (o : Nat) (ho : o = s * k) : lay o (g.map U64) ((RW s f n).map U64) = (RW s (fun i => if i = k then g else f i) n).map U64 := by
  have hin : s * k + s ≤ s * n := by rw [← Nat.mul_succ]; exact Nat.mul_le_mul_left s hk
  apply List.ext_getElem?
  intro m
  rw [lay_get _ _ _ _ (by rw [List.length_map, List.length_map, RW_len, hg]; omega)]
  rw [List.length_map, hg, List.getElem?_map (l := RW s (fun i => if i = k then g else f i) n)]
  by_cases hm : m < s * n
  · rw [RW_get _ n m hm]
    by_cases h : o ≤ m ∧ m < o + s
    · have e : m = s * k + (m - o) := by omega
      have hj : m - o < s := by omega
      have e1 : m / s = k := by rw [e]; exact row_div hj
      have e2 : m % s = m - o := by
        have := row_mod (k := k) hj
        rw [← e] at this; exact this
      rw [if_pos h, e1, if_pos rfl, e2, List.getElem?_map, List.getElem?_eq_getElem (by omega), List.getD_eq_getElem?_getD, List.getElem?_eq_getElem (by omega)]
      rfl
    · have e1 : ¬ m / s = k := fun e => by
        have h0 : 0 < s := by
          rcases Nat.eq_zero_or_pos s with h0 | h0
          · subst h0; omega
          · exact h0
        have h1 := Nat.div_add_mod m s
        have h2 := Nat.mod_lt m h0
        rw [e] at h1
        omega
      rw [if_neg h, if_neg e1, List.getElem?_map, RW_get f n m hm]
  · rw [if_neg (by omega), List.getElem?_map, List.getElem?_eq_none (by rw [RW_len]; omega), List.getElem?_eq_none (by rw [RW_len]; omega)]
theorem RW_cut (f : Nat → List (BitVec 64)) (n k : Nat) (hk : k < n) (hf : (f k).length = s) : ((RW s f n).map U64).toArray.extract (k * s) (k * s + s) = ((f k).map U64).toArray := by
  have hin : k * s + s ≤ s * n := by rw [Nat.mul_comm k, ← Nat.mul_succ]; exact Nat.mul_le_mul_left s hk
  apply Array.ext_getElem?
  intro j
  rw [Array.getElem?_extract, List.size_toArray, List.length_map, RW_len]
  rcases Nat.lt_or_ge j s with hj | hj
  · rw [if_pos (by omega), List.getElem?_toArray, List.getElem?_toArray]
    have h := RW_load f n k hk hf (k * s) (Nat.mul_comm _ _) j (U64 (f k)[j]) (by rw [List.getElem?_map, List.getElem?_eq_getElem (by omega)]; rfl)
    rw [h, List.getElem?_map, List.getElem?_eq_getElem (by omega)]; rfl
  · rw [if_neg (by omega), List.getElem?_toArray, List.getElem?_eq_none (by rw [List.length_map]; omega)]
/-! ### Made -/
def updR (f : Nat → List (BitVec 64)) : List Nat → (Nat → List (BitVec 64)) → Nat → List (BitVec 64)
  | [], g => g
  | i :: r, g => updR f r (fun j => if j = i then f i else g j)
theorem updR_at (f : Nat → List (BitVec 64)) : ∀ (is : List Nat) (g : Nat → List (BitVec 64)) (j : Nat), j ∈ is ∨ g j = f j → updR f is g j = f j
  | [], _, _, h => h.elim (fun h => by cases h) id
  | i :: r, g, j, h => by
    refine updR_at f r _ j ?_
    by_cases hj : j = i
    · right; rw [if_pos hj, hj]
    · rcases h with h | h
      · left
        rcases List.mem_cons.1 h with h | h
        · exact absurd h hj
        · exact h
      · right; rw [if_neg hj, h]
theorem fillW (f : Nat → List (BitVec 64)) (n : Nat) (hf : ∀ i, i < n → (f i).length = s) : ∀ (is : List Nat) (g : Nat → List (BitVec 64)), (∀ i ∈ is, i < n) →
    Instr.fill (fun i => some (i * s, s)) ((RW s g n).map U64).toArray (is.map fun i => (i, .agg ((f i).map U64).toArray)) = some ((RW s (updR f is g) n).map U64).toArray
  | [], _, _ => rfl
  | i :: r, g, h => by
    have hi := h i (by simp)
    have hin : s * i + s ≤ s * n := by rw [← Nat.mul_succ]; exact Nat.mul_le_mul_left s hi
    rw [List.map_cons, fill_one (off := i * s) (size := s) (vs := (f i).map U64) rfl (by rw [List.length_map, hf i hi]) (by rw [List.length_map, List.length_map, RW_len, hf i hi, Nat.mul_comm i]; omega), RW_lay g n i (f i) hi (hf i hi) (i * s) (Nat.mul_comm _ _)]
    exact fillW f n hf r _ fun j hj => h j (by simp [hj])
end
section
variable {P : Program} {G : Cls} {ro : Option Nat} {ops : Array Oper} {N : Nat} {ds : List Deferred} {fs : List Nat} {Z : Fr → Cls → Prop} {F : Fr} {C : Cls} {rest : List Oper}
variable {d : Nat} {ty : TypeId} {pos : String} {af : Array Edge} {gd : Option (Nat × Bool)} {s : Nat}
theorem runW {t e : TypeId} {n : Nat} {f z : Nat → List (BitVec 64)} (is : List Nat) (his : ∀ i ∈ is, i < n) (hf : ∀ i, i < n → (f i).length = s) (hu : P.underlying t = some (.array n e)) (hs : ∀ w, (sizeOf e).run P w = .ok s w)
    (hz : ∀ w, (zeroValue t).run P w = .ok (.agg ((RW s z n).map U64).toArray) w) (w : World) : (Instr.build t (is.map fun i => (i, .agg ((f i).map U64).toArray)).toArray).run P w = .ok (.agg ((RW s (updR f is z) n).map U64).toArray) w := by
  have h := fillW (s := s) f n hf is z his
  simp only [Instr.build, hz, run_underlying hu, hs, Sem.run_bind, Result.andThen_ok]
  rw [show (Value.agg (List.map U64 (RW s z n)).toArray).cells = (List.map U64 (RW s z n)).toArray from rfl, h]
  rfl
/-- An array of rows, made of some of them; the rest is its zero. -/
theorem lx_rowsW (f h' : Nat → List (BitVec 64)) (is : List Nat) {t e : TypeId} {n : Nat} {z : Nat → List (BitVec 64)} {ps : List (Nat × Operand)} (hx : evL F (ps.map (·.2)) = some (is.map fun i => .agg ((f i).map U64).toArray)) (hi : ps.map (·.1) = is) (his : is.all (Nat.blt · n) = true)
    (hf : ∀ i, i < n → (f i).length = s) (hu : P.underlying t = some (.array n e)) (hs : ∀ w, (sizeOf e).run P w = .ok s w) (hz : ∀ w, (zeroValue t).run P w = .ok (.agg ((RW s z n).map U64).toArray) w) (hh : ∀ i, i < n → updR f is z i = h' i)
    (hw : wantF ops F ⟨some d, .build t ps.toArray, ty, pos, af, gd⟩ = some true) (hd : Nat.blt d N = true)
    (h : Lx P G ro ops N ds (EE fs) Z rest ((d, .agg ((RW s h' n).map U64).toArray) :: F) C) : Lx P G ro ops N ds (EE fs) Z (⟨some d, .build t ps.toArray, ty, pos, af, gd⟩ :: rest) F C :=
  lx_build hx (fun w => by
    have hlt : ∀ i ∈ is, i < n := fun i hi => Nat.le_of_ble_eq_true (List.all_eq_true.1 his i hi)
    have e := runW (s := s) (f := f) is hlt hf hu hs hz w
    rw [RW_congr hh] at e
    rw [hi, show is.zip (is.map fun i => Value.agg ((f i).map U64).toArray) = is.map fun i => (i, .agg ((f i).map U64).toArray) from (by
      clear hx hi his hh e hlt
      induction is with
      | nil => rfl
      | cons a r ih => rw [List.map_cons, List.zip_cons_cons, ih]; rfl)]
    exact e) hw hd h
/-- A row of an array value. -/
theorem lx_idxW (f : Nat → List (BitVec 64)) (k : Nat) {t e : TypeId} {n : Nat} {x ix : Operand} {i : Int} (hx : evF F x = some (.agg ((RW s f n).map U64).toArray)) (hi : evF F ix = some (I i)) (hu : P.underlying t = some (.array n e))
    (hs : ∀ w, (sizeOf e).run P w = .ok s w) (hag : ∀ w, (isAgg e).run P w = .ok true w) (hk : i = (k : Int)) (hb : k < n) (hf : (f k).length = s) (hw : wantF ops F ⟨some d, .index t x ix, ty, pos, af, gd⟩ = some true) (hd : Nat.blt d N = true)
    (h : Lx P G ro ops N ds (EE fs) Z rest ((d, .agg ((f k).map U64).toArray) :: F) C) : Lx P G ro ops N ds (EE fs) Z (⟨some d, .index t x ix, ty, pos, af, gd⟩ :: rest) F C :=
  lx_val (v := .agg ((f k).map U64).toArray) rfl hw hd (fun _ h => by cases h) (fun a w ha _ => by
    simp only [execOp, ha.ev hx, ha.ev hi]
    have hb' : 0 ≤ i ∧ i < (n : Int) := by omega
    have e : i.toNat = k := by omega
    have e2 := RW_cut f n k hb hf
    simp only [Instr.index, asIntOf, run_underlying hu, part, Sem.run_bind, Sem.run_pure, Result.andThen_ok]
    rw [if_pos hb']
    simp only [Sem.run_bind, Sem.run_pure, Result.andThen_ok, hs, hag, if_true, e, e2]) h
end
/-! ### Rows within rows -/
end Go.Proofs.YtdkmalaffcfoeaaGreatDoor

namespace Go.Proofs.YtdkmalaffcfoeaaGreatDoor
open Go.RowKit
set_option maxRecDepth 100000
def OwnW (L : Hl) (n : Nat) (e : TypeId) (s : Nat) (a0 : Option Addr) (cap nx : Nat) (xs : List Value) : Prop :=
  (a0 = none ∧ xs = [] ∧ nx = 0 ∧ cap = 0) ∨ ∃ b c, a0 = some ⟨b, 0, none⟩ ∧ lkB L n = some (b, c, e) ∧ c.length = cap * s ∧ nx ≤ cap ∧ xs.length = nx * s ∧ c.take xs.length = xs
theorem OwnW.len {L : Hl} {n : Nat} {e : TypeId} {s : Nat} {a0 : Option Addr} {cap nx : Nat} {xs : List Value} (h : OwnW L n e s a0 cap nx xs) : xs.length = nx * s := by
  rcases h with ⟨_, rfl, rfl, _⟩ | ⟨_, _, _, _, _, _, h, _⟩
  · simp
  · exact h
section
variable {P : Program} {G : Cls} {ro : Option Nat} {ops : Array Oper} {N : Nat} {ds : List Deferred} {fs : List Nat} {Z : Fr → Cls → Prop} {F : Fr} {C : Cls} {rest : List Oper}
variable {d : Nat} {ty : TypeId} {pos : String} {af : Array Edge} {gd : Option (Nat × Bool)} {B : Bs} {L : Hl}
end
end Go.Proofs.YtdkmalaffcfoeaaGreatDoor

namespace Go.Proofs.YtdkmalaffcfoeaaGreatDoor
open Go.RowKit
set_option maxRecDepth 100000
section
variable {P : Program} {G : Cls} {ro : Option Nat} {ops : Array Oper} {N : Nat} {ds : List Deferred} {fs : List Nat} {Z : Fr → Cls → Prop} {F : Fr} {C : Cls} {rest : List Oper}
variable {d : Nat} {ty : TypeId} {pos : String} {af : Array Edge} {gd : Option (Nat × Bool)}
variable {B : Bs} {L : Hl}
theorem lx_runG {E : Oper → Bool} {o : Oper} (hE : E o = true) (hw : wantF ops F o = some true) (hd : fitsD N o.dst = true) (hnd : ∀ c, o.op ≠ .defer c)
    (h : ∀ a w, Has N ds F a → C w → ∃ v w' C', ((execOp a.eval o).run P w = .ok (.value v) w' ∨ ((execOp a.eval o).run P w = .ok .skip w' ∧ v = undef)) ∧ Good G C' ∧ C' w' ∧ (∀ w, C' w → C w) ∧ Lx P G ro ops N ds E Z rest (putF o.dst v F) C') :
    Lx P G ro ops N ds E Z (o :: rest) F C := by
  unfold Lx
  rw [hE]
  intro a w ha hC
  obtain ⟨v, w', C', hr, hS, hw', hn, hk⟩ := h a w ha hC
  refine ⟨ha.want hw, fun f _ => fence_fn ro f, ?_⟩
  rw [show (FW ro).round = ro from rfl, Oper.semAt_eq _ _ _ hnd]
  rcases hr with hr | ⟨hr, rfl⟩
  · rw [hr]; exact ⟨_, C', ha.putF hd v, hS, hw', fun _ => hn, hk⟩
  · rw [hr]; exact ⟨_, C', ha.putF hd _, hS, hw', fun _ => hn, hk⟩
end
end Go.Proofs.YtdkmalaffcfoeaaGreatDoor

namespace Go.Proofs.YtdkmalaffcfoeaaGreatDoor
open Go.RowKit
set_option maxRecDepth 100000
section
variable {P : Program} {G : Cls} {ro : Option Nat} {ops : Array Oper} {N : Nat} {ds : List Deferred} {fs : List Nat} {Z : Fr → Cls → Prop} {F : Fr} {C : Cls} {rest : List Oper}
variable {d : Nat} {ty : TypeId} {pos : String} {af : Array Edge} {gd : Option (Nat × Bool)} {s : Nat}
variable {B : Bs} {L : Hl}
theorem zerosW (zr : List (BitVec 64)) (hz : zr.length = s) (n : Nat) : ((Array.range (n * s)).map ((Value.agg (zr.map U64).toArray).cells[· % (Value.agg (zr.map U64).toArray).cells.size]!)) = ((RW s (fun _ => zr) n).map U64).toArray := by
  have e : (Value.agg (zr.map U64).toArray).cells = (zr.map U64).toArray := rfl
  rw [e]
  apply Array.ext
  · simp [RW_len, Nat.mul_comm]
  · intro i h1 h2
    have hi : i < n * s := by simpa using h1
    have hs : 0 < s := by
      rcases Nat.eq_zero_or_pos s with h | h
      · subst h; simp at hi
      · exact h
    have hm : i % s < zr.length := by rw [hz]; exact Nat.mod_lt _ hs
    have hg : (RW s (fun _ => zr) n)[i]? = some (zr.getD (i % s) 0) := RW_get _ n i (by rw [Nat.mul_comm]; exact hi)
    have hg2 : ((RW s (fun _ => zr) n).map U64)[i]? = some (U64 (zr.getD (i % s) 0)) := by rw [List.getElem?_map, hg]; rfl
    have hr : ((RW s (fun _ => zr) n).map U64).toArray[i] = U64 (zr.getD (i % s) 0) := by
      have := List.getElem?_eq_some_iff.1 hg2
      obtain ⟨hl, he⟩ := this
      simpa using he
    rw [hr]
    have hl : ((zr.map U64).toArray)[i % s]! = U64 (zr.getD (i % s) 0) := by
      simp [hm]
    simp only [Array.getElem_map, Array.getElem_range]
    rw [show ((zr.map U64).toArray).size = s by simp [hz]]
    exact hl
/-- A slice literal of values of several cells. -/
theorem lx_bslWG (n : Nat) (f : Nat → List (BitVec 64)) (zr : List (BitVec 64)) {t e : TypeId} {len : Nat} {ps : List (Nat × Operand)} (hB : BOk G B) (hfr : lkB L n = none) (hx : evL F (ps.map (·.2)) = some ((List.range len).map fun i => .agg ((f i).map U64).toArray)) (hi : ps.map (·.1) = List.range len)
    (hf : ∀ i, i < len → (f i).length = s) (h0 : 0 < len * s) (hl : len * s ≤ 16777216) (hu : P.underlying t = some (.slice e)) (hs : ∀ w, (sizeOf e).run P w = .ok s w) (hzl : zr.length = s) (hz : ∀ w, (zeroValue e).run P w = .ok (.agg (zr.map U64).toArray) w)
    (hw : wantF ops F ⟨some d, .buildSlice t len ps.toArray, ty, pos, af, gd⟩ = some true) (hd : Nat.blt d N = true)
    (h : ∀ b, Lx P G ro ops N ds (EE fs) Z rest ((d, .slice (some ⟨b, 0, none⟩) len len) :: F) (Hp B ((n, b, (RW s f len).map U64, e) :: L))) : Lx P G ro ops N ds (EE fs) Z (⟨some d, .buildSlice t len ps.toArray, ty, pos, af, gd⟩ :: rest) F (Hp B L) := by
  refine lx_runG rfl hw hd (fun _ h => by cases h) fun a w ha hC => ?_
  refine ⟨.slice (some ⟨w.heap.size, 0, none⟩) len len, w.alloc (.cells ((RW s f len).map U64).toArray e), _, .inl ?_, good_hp hB, hC.alloc hB.r n _ e, hp_fresh hB.r hfr, h w.heap.size⟩
  have e1 : (ps.toArray.map fun (i, x) => (i, a.eval x)) = ((List.range len).map fun i => (i, Value.agg ((f i).map U64).toArray)).toArray := by
    have : ps.map (fun (p : Nat × Operand) => (p.1, a.eval p.2)) = (ps.map (·.1)).zip ((ps.map (·.2)).map a.eval) := by rw [List.map_map, List.zip_map']; rfl
    rw [List.map_toArray, this, hi, ha.evL hx]
    congr 1
    rw [List.zip_eq_zipWith, List.zipWith_map_right, List.zipWith_self]
  have hfl := fillW (s := s) f len hf (List.range len) (fun _ => zr) (fun i hi => List.mem_range.1 hi)
  rw [RW_congr (g := f) (fun i hi => updR_at f (List.range len) _ i (.inl (List.mem_range.2 hi)))] at hfl
  have hlt : ¬ (len * s > 2 ^ 24) := by omega
  have h00 : ¬ (len * s = 0) := by omega
  show ((do pure (.value (← Instr.buildSlice t len (ps.toArray.map fun (i, x) => (i, a.eval x)))) : Sem Next)).run P w = _
  rw [e1]
  have hb : (Instr.buildSlice t len ((List.range len).map fun i => (i, Value.agg ((f i).map U64).toArray)).toArray).run P w = .ok (.slice (some ⟨w.heap.size, 0, none⟩) len len) (w.alloc (.cells ((RW s f len).map U64).toArray e)) := by
    simp only [Instr.buildSlice, Sem.run_bind, run_underlying hu, Result.andThen_ok, hs, if_neg hlt, if_neg h00, hz, Sem.run_pure, zerosW zr hzl len, hfl]
    simp [newRow]
  simp only [Sem.run_bind, hb, Result.andThen_ok]; rfl
/-- The place of a slice's value of several cells. -/
theorem lx_isW (k : Nat) {t e : TypeId} {len cap : Nat} {x ix : Operand} {b o : Nat} {i : Int} (hx : evF F x = some (.slice (some ⟨b, o, none⟩) len cap)) (hi : evF F ix = some (I i)) (hu : P.underlying t = some (.slice e))
    (hs : ∀ w, (sizeOf e).run P w = .ok s w) (hk : i = (k : Int)) (hb : k < len) (hw : wantF ops F ⟨some d, .indexAddr t x ix, ty, pos, af, gd⟩ = some true) (hd : Nat.blt d N = true)
    (h : Lx P G ro ops N ds (EE fs) Z rest ((d, .pointer (some ⟨b, o + s * k, none⟩)) :: F) C) : Lx P G ro ops N ds (EE fs) Z (⟨some d, .indexAddr t x ix, ty, pos, af, gd⟩ :: rest) F C :=
  lx_is hx hi hu hs (by omega) hw hd (by
    rw [show o + i.toNat * s = o + s * k from by rw [Nat.mul_comm s k, hk]; rfl]; exact h)
/-- A row of rows in memory. -/
theorem range_row {w : World} {b n k : Nat} {f : Nat → List (BitVec 64)} (h : w.rangeAt b 0 ((RW s f n).map U64)) (hk : k < n) (hf : (f k).length = s) : w.rangeAt b (0 + s * k) ((f k).map U64) := fun j v hv => by
  have := h (s * k + j) v (RW_load f n k hk hf (s * k) rfl j v hv)
  rw [Nat.zero_add] at this
  rw [Nat.zero_add]
  exact this
end
end Go.Proofs.YtdkmalaffcfoeaaGreatDoor

namespace Go.Proofs.YtdkmalaffcfoeaaGreatDoor
open Go.RowKit
set_option maxRecDepth 100000
section
variable {P : Program} {G : Cls} {ro : Option Nat} {ops : Array Oper} {N : Nat} {ds : List Deferred} {fs : List Nat} {Z : Fr → Cls → Prop} {F : Fr} {C : Cls} {rest : List Oper}
variable {d : Nat} {ty : TypeId} {pos : String} {af : Array Edge} {gd : Option (Nat × Bool)}
variable {B : Bs} {L : Hl}
end
end Go.Proofs.YtdkmalaffcfoeaaGreatDoor

namespace Go.Proofs.YtdkmalaffcfoeaaGreatDoor
open Go.RowKit
set_option maxRecDepth 100000
section
variable {P : Program} {F : Fr} {B : Bs} {L : Hl}
/-- Results: two variables. -/
theorem kret_cc (n1 n2 : Nat) {fn : Func} {R : Ending → World → Prop} {t1 t2 : Nat} {T et1 et2 : TypeId} {b1 b2 m : Nat} {c1 c2 : List Value} (hr : fn.results = #[.cell t1 T, .cell t2 T])
    (hv1 : lk F t1 = some (.pointer (some ⟨b1, 0, none⟩))) (hv2 : lk F t2 = some (.pointer (some ⟨b2, 0, none⟩)))
    (hl1 : lkB L n1 = some (b1, c1, et1)) (hl2 : lkB L n2 = some (b2, c2, et2)) (hag : ∀ w, (isAgg T).run P w = .ok true w) (hs : ∀ w, (sizeOf T).run P w = .ok m w) (hm1 : c1.length = m) (hm2 : c2.length = m)
    (h : ∀ w, Hp B L w → R (.returned (.tuple #[.agg c1.toArray, .agg c2.toArray])) w) : Kret P fn R .ret [] F (Hp B L) :=
  ⟨rfl, fun a w ha hC => ⟨.tuple #[.agg c1.toArray, .agg c2.toArray], by
    have e1 := run_loadCells_list (P := P) w ⟨b1, 0, none⟩ c1 (fun j v hv => by rw [Addr.add_mid]; exact hp_row (n := n1) hl1 w hC j v hv)
    have e2 := run_loadCells_list (P := P) w ⟨b2, 0, none⟩ c2 (fun j v hv => by rw [Addr.add_mid]; exact hp_row (n := n2) hl2 w hC j v hv)
    rw [hm1] at e1
    rw [hm2] at e2
    simp [results, hr, ha.get t1 _ hv1, ha.get t2 _ hv2, asAddr, loadVar, hag, hs, e1, e2], h w hC⟩⟩
end
end Go.Proofs.YtdkmalaffcfoeaaGreatDoor

namespace Go.Proofs.YtdkmalaffcfoeaaGreatDoor
open Go.RowKit
set_option maxRecDepth 100000
section
variable {P : Program} {G : Cls} {ro : Option Nat} {ops : Array Oper} {N : Nat} {ds : List Deferred} {fs : List Nat} {Z : Fr → Cls → Prop} {F : Fr} {C : Cls} {rest : List Oper}
variable {d : Nat} {ty : TypeId} {pos : String} {af : Array Edge} {gd : Option (Nat × Bool)}
end
end Go.Proofs.YtdkmalaffcfoeaaGreatDoor

namespace Go.Proofs.YtdkmalaffcfoeaaGreatDoor
open Go.RowKit
set_option maxRecDepth 100000
section
variable {P : Program} {G : Cls} {ro : Option Nat} {ops : Array Oper} {N : Nat} {ds : List Deferred} {fs : List Nat} {Z : Fr → Cls → Prop} {F : Fr} {C : Cls} {rest : List Oper}
variable {d : Nat} {ty : TypeId} {pos : String} {af : Array Edge} {gd : Option (Nat × Bool)} {B : Bs} {L : Hl}
end
end Go.Proofs.YtdkmalaffcfoeaaGreatDoor
