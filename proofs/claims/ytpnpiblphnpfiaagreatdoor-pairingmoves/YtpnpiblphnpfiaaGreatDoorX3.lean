/-
 A struct whose one field fills it; an array of which only the first element is named. Nothing here names a program.
 Structs whose one field fills them, compared. Nothing here names a program.
 The engine, part 27: rows inside blocks; calls whose answer is known. Nothing here names a program.
 The engine, part 28: arrays of bytes compared; bools compared. Nothing here names a program.
 The engine, part 29: parts laid into what is built; rows of rows. Nothing here names a program.
 The engine, part 30: a plain region walked in two parts, the second as it suits. Nothing here names a program.
 The engine, part 31: a region that draws its order, by the tree of its orders where memory grows in several ways at once. Nothing here names a program.
 The engine, part 32: a slice of bytes made; a choice behind what was passed by. Nothing here names a program.
 The engine, part 33: reads of what no step of a region can turn; the base moved. Nothing here names a program.
 The engine, part 34: slices from a place on; slices as arrays. Nothing here names a program.
 The engine, part 35: structs of two rows: built, read, compared. Nothing here names a program.
 The engine, part 36: rows of rows of twelve. Nothing here names a program.
 The engine, part 37: two ways that meet again. Nothing here names a program.
 The engine, part 38: a large region that draws its order and makes nothing: its check by a table. Nothing here names a program.
 The engine, part 39: structs of three rows: built, read, written; arrays of rows compared. Nothing here names a program.
 The engine, part 40: arrays of rows of twelve, built of some; three results. Nothing here names a program.
 The engine, part 41: arrays of rows of twelve, made and read; rounds that carry a fact; a single value handed back. Nothing here names a program.
 The engine, part 42: rows of rows of any width; parts of rows within rows. Nothing here names a program.
 The engine, part 43: slices of values of several cells: a literal of one, append. Nothing here names a program.
 The engine, part 44: slices made, and bytes appended, where the class is only narrowed (marks 2999998 and 2999997).
 The engine, part 45: slice literals of values of several cells; the class is only narrowed.
 The engine, part 46: bytes made bytes again, beside other steps. Nothing here names a program.
 The engine, part 47: two variables handed back.
 Values held in interfaces, their methods called; parts of slices with three indices.
 The engine, part 49: a byte of a string. Nothing here names a program.
-/
import Derived.Test.YtpnpiblphnpfiaaGreatDoorX2
import Derived.Laws.MakeOwn
import Derived.Deep.AppendSrc
import Derived.Laws.Strings
set_option maxRecDepth 100000
set_option maxHeartbeats 1000000
namespace Go.Proofs.YtpnpiblphnpfiaaGreatDoor
section
open Go.RowKit
section
variable {P : Program} {G : Cls} {ro : Option Nat} {ops : Array Oper} {N : Nat} {ds : List Deferred} {fs : List Nat} {Z : Fr → Cls → Prop} {rest : List Oper} {F : Fr} {C : Cls} {d : Nat} {ty : TypeId} {pos : String} {af : Array Edge} {gd : Option (Nat × Bool)}
theorem p5 {t : TypeId} {f : Field} {l : List (BitVec 64)} (hl : l.length = 6) (hu : P.underlying t = some (.struct #[f])) (h0 : f.offset = 0) (hs : ∀ w, (sizeOf f.type).run P w = .ok 6 w)
  (hz : ∀ w, (zeroValue t).run P w = .ok (.agg ((List.replicate 6 0#64).map U64).toArray) w) (w : World) : (Instr.build t #[(0, .agg (l.map U64).toArray)]).run P w = .ok (.agg (l.map U64).toArray) w := by
 match l, hl with
 | [_, _, _, _, _, _], _ => simp [Instr.build, hz, run_underlying hu, hs, h0, Value.cells, Instr.fill, List.replicate]
theorem cG {t : TypeId} {f : Field} {x : Operand} {l : List (BitVec 64)} (hx : evF F x = some (.agg (l.map U64).toArray)) (hl : l.length = 6) (hu : P.underlying t = some (.struct #[f])) (h0 : f.offset = 0) (hs : ∀ w, (sizeOf f.type).run P w = .ok 6 w)
  (hz : ∀ w, (zeroValue t).run P w = .ok (.agg ((List.replicate 6 0#64).map U64).toArray) w) (hw : aq ops F ⟨some d, .build t #[(0, x)], ty, pos, af, gd⟩ = some true) (hd : Nat.blt d N = true)
  (h : Lx P G ro ops N ds (EE fs) Z rest ((d, .agg (l.map U64).toArray) :: F) C) : Lx P G ro ops N ds (EE fs) Z (⟨some d, .build t #[(0, x)], ty, pos, af, gd⟩ :: rest) F C :=
 dr (ps := [(0, x)]) (vs := [.agg (l.map U64).toArray]) (by simp [evL, hx]) (fun w => p5 hl hu h0 hs hz w) hw hd h
theorem qv {t e : TypeId} {n : BitVec 64} (hu : P.underlying t = some (.array 6 e)) (hs : ∀ w, (sizeOf e).run P w = .ok 1 w)
  (hz : ∀ w, (zeroValue t).run P w = .ok (.agg ((List.replicate 6 0#64).map U64).toArray) w) (w : World) : (Instr.build t #[(0, U64 n)]).run P w = .ok (.agg ((n :: List.replicate 5 0).map U64).toArray) w := by
 simp [Instr.build, hz, run_underlying hu, hs, Value.cells, Instr.fill, List.replicate, U64]
theorem lv {t e : TypeId} {x : Operand} (n : BitVec 64) (hx : evF F x = some (U64 n)) (hu : P.underlying t = some (.array 6 e)) (hs : ∀ w, (sizeOf e).run P w = .ok 1 w)
  (hz : ∀ w, (zeroValue t).run P w = .ok (.agg ((List.replicate 6 0#64).map U64).toArray) w) (hw : aq ops F ⟨some d, .build t #[(0, x)], ty, pos, af, gd⟩ = some true) (hd : Nat.blt d N = true)
  (h : Lx P G ro ops N ds (EE fs) Z rest ((d, .agg ((n :: List.replicate 5 0).map U64).toArray) :: F) C) : Lx P G ro ops N ds (EE fs) Z (⟨some d, .build t #[(0, x)], ty, pos, af, gd⟩ :: rest) F C :=
 dr (ps := [(0, x)]) (vs := [U64 n]) (by simp [evL, hx]) (fun w => qv hu hs hz w) hw hd h
end
end
section
open Go.RowKit
section
variable {P : Program}
theorem OwnB.range {w : World} {b : Nat} {c : List Value} {t : TypeId} (h : OwnB w b c t) : w.rangeAt b 0 c := by
 obtain ⟨fz, h, _⟩ := h
 intro j v hj
 simp [World.cell?, h, hj]
end
end
section
open Go.RowKit
section
variable {P : Program} {G : Cls} {ro : Option Nat} {ops : Array Oper} {N : Nat} {ds : List Deferred} {fs : List Nat} {Z : Fr → Cls → Prop} {F : Fr} {C : Cls} {rest : List Oper}
variable {d : Nat} {ty : TypeId} {pos : String} {af : Array Edge} {gd : Option (Nat × Bool)}
variable {B : Bs} {L : Hl}
theorem cF {f : Nat} {al : List Operand} {at' : Array TypeId} {vs : List Value} {b : Bool} (b' : Bool) (hf : fs.any (Nat.beq f) = false) (ha : evL F al = some vs) (he : ae P f) (hp : Pure P G f vs (.bool b)) (hb : b = b')
  (hw : aq ops F ⟨some d, .call { callee := .value (.func f), args := al.toArray, argTypes := at' }, ty, pos, af, gd⟩ = some true) (hd : Nat.blt d N = true)
  (h : Lx P G ro ops N ds (EE fs) Z rest ((d, .bool b') :: F) C) : Lx P G ro ops N ds (EE fs) Z (⟨some d, .call { callee := .value (.func f), args := al.toArray, argTypes := at' }, ty, pos, af, gd⟩ :: rest) F C :=
 aG hf ha he (hb ▸ hp) hw hd h
theorem bD {op : BinOp} {t yt : TypeId} {x y : Operand} {vx vy : Value} {b : Bool} (b' : Bool) (hx : evF F x = some vx) (hy : evF F y = some vy) (hg : ∀ w, (eqGuard op t x y vx vy).run P w = .ok () w)
  (hr : ∀ w, (binOp op t vx vy).run P w = .ok (.bool b) w) (hb : b = b') (hw : aq ops F ⟨some d, .binOp op t x y yt, ty, pos, af, gd⟩ = some true) (hd : Nat.blt d N = true)
  (h : Lx P G ro ops N ds (EE fs) Z rest ((d, .bool b') :: F) C) : Lx P G ro ops N ds (EE fs) Z (⟨some d, .binOp op t x y yt, ty, pos, af, gd⟩ :: rest) F C :=
 ac hx hy hg (hb ▸ hr) hw hd h
theorem fg {t : TypeId} {g m : Nat} {cs : List Value} (hG : BOk G B) (hag : ∀ w, (isAgg t).run P w = .ok true w) (hs : ∀ w, (sizeOf t).run P w = .ok m w) (hm : cs.length = m) (hc : ∀ w, G w → w.rangeAt g 0 cs)
  (hw : aq ops F ⟨some d, .load t (.global g), ty, pos, af, gd⟩ = some true) (hd : Nat.blt d N = true)
  (h : Lx P G ro ops N ds (EE fs) Z rest ((d, .agg cs.toArray) :: F) (Hp B L)) : Lx P G ro ops N ds (EE fs) Z (⟨some d, .load t (.global g), ty, pos, af, gd⟩ :: rest) F (Hp B L) :=
 dM rfl hag hs hm (fun w hw => hc w (hG.g _ _ w hw)) hw hd h
theorem a7 (n : Nat) {t et : TypeId} {x : Operand} {b o m : Nat} {c : List Value} (cs : List Value) (hx : evF F x = some (.pointer (some ⟨b, o, none⟩))) (hl : lkB L n = some (b, c, et)) (hag : ∀ w, (isAgg t).run P w = .ok true w) (hs : ∀ w, (sizeOf t).run P w = .ok m w)
  (hm : cs.length = m) (hv : ∀ j v, cs[j]? = some v → c[o + j]? = some v) (hw : aq ops F ⟨some d, .load t x, ty, pos, af, gd⟩ = some true) (hd : Nat.blt d N = true)
  (h : Lx P G ro ops N ds (EE fs) Z rest ((d, .agg cs.toArray) :: F) (Hp B L)) : Lx P G ro ops N ds (EE fs) Z (⟨some d, .load t x, ty, pos, af, gd⟩ :: rest) F (Hp B L) :=
 dM hx hag hs hm (nq (n := n) hl hv) hw hd h
theorem gI (n : Nat) {t et : TypeId} {x y : Operand} {b o m : Nat} {c : List Value} {vs : List Value} (c' : List Value) (hG : BOk G B) (hx : evF F x = some (.pointer (some ⟨b, o, none⟩))) (hy : evF F y = some (.agg vs.toArray)) (hl : lkB L n = some (b, c, et))
  (hs : ∀ w, (sizeOf t).run P w = .ok m w) (hm : vs.length = m) (hv : vs.all (·.oneCell') = true) (ho : o + vs.length ≤ c.length) (he : lay o vs c = c') (hw : aq ops F ⟨none, .store t x y, ty, pos, af, gd⟩ = some true)
  (h : Lx P G ro ops N ds (EE fs) Z rest F (Hp B ((n, b, c', et) :: L))) : Lx P G ro ops N ds (EE fs) Z (⟨none, .store t x y, ty, pos, af, gd⟩ :: rest) F (Hp B L) :=
 iU n hG hx hy hl hs hm hv ho hw (he ▸ h)
theorem cX {t e : TypeId} {len sz : Nat} (k o' : Nat) {x ix : Operand} {b o : Nat} {i : Int} (hx : evF F x = some (.pointer (some ⟨b, o, none⟩))) (hi : evF F ix = some (I i)) (hu : P.underlying t = some (.array len e))
  (hs : ∀ w, (sizeOf e).run P w = .ok sz w) (hk : i = (k : Int)) (hb : k < len) (ho : o + k * sz = o') (hw : aq ops F ⟨some d, .indexAddr t x ix, ty, pos, af, gd⟩ = some true) (hd : Nat.blt d N = true)
  (h : Lx P G ro ops N ds (EE fs) Z rest ((d, .pointer (some ⟨b, o', none⟩)) :: F) C) : Lx P G ro ops N ds (EE fs) Z (⟨some d, .indexAddr t x ix, ty, pos, af, gd⟩ :: rest) F C :=
 zK hx hi hu hs (by omega) hw hd (by rw [show i.toNat = k by omega, ho]; exact h)
end
end
section
open Go.RowKit
section
variable {P : Program}
theorem pR {f : Field} {n : Nat} (hs : ∀ w, (sizeOf f.type).run P w = .ok n w) (w : World) : ∃ a, (Array.mapM (fun f : Field => Prod.mk f.offset <$> sizeOf f.type) #[f] : Sem _).run P w = .ok a w := ⟨#[(f.offset, n)], by simp [hs]⟩
theorem dY (t : TypeId) (hu : P.underlying t = some .bool) (a b : Bool) (w : World) : (binOp .eql t (.bool a) (.bool b)).run P w = .ok (.bool (a == b)) w := by
 have h : ∀ d : Nat, (Op.equalIn (d + 1) t (.bool a) (.bool b)).run P w = .ok (a == b) w := fun d => by simp [Op.equalIn, run_underlying hu]
 simp only [binOp]
 simp [Op.equal, Op.maxDepth, h 9999]
theorem mJ (t : TypeId) (hu : P.underlying t = some .bool) (a b : Bool) (w : World) : (binOp .neq t (.bool a) (.bool b)).run P w = .ok (.bool (a != b)) w := by
 have h : ∀ d : Nat, (Op.equalIn (d + 1) t (.bool a) (.bool b)).run P w = .ok (a == b) w := fun d => by simp [Op.equalIn, run_underlying hu]
 simp only [binOp]
 simp [Op.equal, Op.maxDepth, h 9999, bne]
end
end
section
open Go.RowKit
theorem nz (o : Nat) : ∀ (vs : List Value) (k : Nat) (c : List Value), (vs.zipIdx k).foldl (fun (cs : Array Value) (p : Value × Nat) => cs.setIfInBounds (o + p.2) p.1) c.toArray = (lay (o + k) vs c).toArray
 | [], _, _ => rfl
 | v :: r, k, c => by
  have ih := nz o r (k + 1) (c.set (o + k) v)
  rw [List.zipIdx_cons, List.foldl_cons, lay]
  simp only [List.setIfInBounds_toArray]
  rw [ih, Nat.add_assoc]
theorem cu {place : Nat → Option (Nat × Nat)} {i off size : Nat} {vs c : List Value} (hp : place i = some (off, size)) (hs : vs.length = size) (ho : off + vs.length ≤ c.length) (rest : List (Nat × Value)) :
  Instr.fill place c.toArray ((i, .agg vs.toArray) :: rest) = Instr.fill place (lay off vs c).toArray rest := by
 have h := nz off vs 0 c
 have hn : ¬ ((decide ((Value.agg vs.toArray).cells.size ≠ size) || decide (off + (Value.agg vs.toArray).cells.size > c.toArray.size)) = true) := by
  simp [Value.cells, hs]; omega
 have e : (Value.agg vs.toArray).cells.zipIdx.foldl (fun (cs : Array Value) (p : Value × Nat) => cs.setIfInBounds (off + p.2) p.1) c.toArray = (lay off vs c).toArray := by
  rw [← Array.foldl_toList, Array.toList_zipIdx]
  exact h
 rw [Instr.fill, hp]
 show (if (decide ((Value.agg vs.toArray).cells.size ≠ size) || decide (off + (Value.agg vs.toArray).cells.size > c.toArray.size)) = true then none else _) = _
 rw [if_neg hn, ← e]
/-! ### Rows of six -/
def FL (f : Nat → List (BitVec 64)) (n : Nat) : List (BitVec 64) := (List.range (6 * n)).map fun m => (f (m / 6)).getD (m % 6) 0
theorem aP (f : Nat → List (BitVec 64)) (n : Nat) : (FL f n).length = 6 * n := by rw [FL, List.length_map, List.length_range]
theorem py (f : Nat → List (BitVec 64)) (n m : Nat) (h : m < 6 * n) : (FL f n)[m]? = some ((f (m / 6)).getD (m % 6) 0) := by
 rw [FL, List.getElem?_map, List.getElem?_range h]; rfl
theorem xP (f : Nat → List (BitVec 64)) (n k : Nat) (hk : k < n) (hf : (f k).length = 6) (o : Nat) (ho : o = 6 * k) : ∀ j v, ((f k).map U64)[j]? = some v → ((FL f n).map U64)[o + j]? = some v := fun j v hv => by
 have hj : j < 6 := by
  rcases Nat.lt_or_ge j 6 with h | h
  ·exact h
  ·rw [List.getElem?_eq_none (by rw [List.length_map, hf]; exact h)] at hv; cases hv
 rw [List.getElem?_map] at hv ⊢
 rw [py f n (o + j) (by omega), show (o + j) / 6 = k by omega, show (o + j) % 6 = j by omega]
 rw [List.getElem?_eq_getElem (by omega)] at hv
 rw [← hv, List.getD_eq_getElem?_getD, List.getElem?_eq_getElem (by omega)]
 rfl
theorem nF {f g : Nat → List (BitVec 64)} {n : Nat} (h : ∀ i, i < n → f i = g i) : FL f n = FL g n := by
 unfold FL
 refine List.map_congr_left fun m hm => ?_
 rw [List.mem_range] at hm
 rw [h (m / 6) (by omega)]
theorem tJ (f : Nat → List (BitVec 64)) (n k : Nat) (g : List (BitVec 64)) (hk : k < n) (hg : g.length = 6) (o : Nat) (ho : o = 6 * k) : lay o (g.map U64) ((FL f n).map U64) = (FL (fun i => if i = k then g else f i) n).map U64 := by
 apply List.ext_getElem?
 intro m
 rw [d7 _ _ _ _ (by rw [List.length_map, List.length_map, aP, hg]; omega)]
 rw [List.length_map, hg, List.getElem?_map (l := FL (fun i => if i = k then g else f i) n)]
 by_cases hm : m < 6 * n
 ·rw [py _ n m hm]
  by_cases h : o ≤ m ∧ m < o + 6
  ·rw [if_pos h, if_pos (by omega), List.getElem?_map, List.getElem?_eq_getElem (by omega), List.getD_eq_getElem?_getD, show m % 6 = m - o by omega, List.getElem?_eq_getElem (by omega)]
   rfl
  ·rw [if_neg h, if_neg (by omega), List.getElem?_map, py f n m hm]
 ·rw [if_neg (by omega), List.getElem?_map, List.getElem?_eq_none (by rw [aP]; omega), List.getElem?_eq_none (by rw [aP]; omega)]
section
variable {P : Program} {G : Cls} {ro : Option Nat} {ops : Array Oper} {N : Nat} {ds : List Deferred} {fs : List Nat} {Z : Fr → Cls → Prop} {F : Fr} {C : Cls} {rest : List Oper}
variable {d : Nat} {ty : TypeId} {pos : String} {af : Array Edge} {gd : Option (Nat × Bool)}
theorem pD {t e : TypeId} {n : Nat} {l : List (BitVec 64)} {z : Nat → List (BitVec 64)} (hl : l.length = 6) (hn : 0 < n) (hu : P.underlying t = some (.array n e)) (hs : ∀ w, (sizeOf e).run P w = .ok 6 w)
  (hz : ∀ w, (zeroValue t).run P w = .ok (.agg ((FL z n).map U64).toArray) w) (w : World) : (Instr.build t #[(0, .agg (l.map U64).toArray)]).run P w = .ok (.agg ((FL (fun i => if i = 0 then l else z i) n).map U64).toArray) w := by
 have h := cu (place := fun i => some (i * 6, 6)) (i := 0) (off := 0) (vs := l.map U64) (c := (FL z n).map U64) rfl (by rw [List.length_map, hl]) (by rw [List.length_map, List.length_map, aP, hl]; omega) []
 rw [tJ z n 0 l hn hl 0 rfl] at h
 simp only [Instr.build, hz, run_underlying hu, hs, Sem.run_bind, Result.andThen_ok]
 rw [show (Value.agg (List.map U64 (FL z n)).toArray).cells = (List.map U64 (FL z n)).toArray from rfl, h]
 rfl
theorem sN {t e : TypeId} {n : Nat} {x : Operand} {l : List (BitVec 64)} {z : Nat → List (BitVec 64)} (hx : evF F x = some (.agg (l.map U64).toArray)) (hl : l.length = 6) (hn : 0 < n) (hu : P.underlying t = some (.array n e)) (hs : ∀ w, (sizeOf e).run P w = .ok 6 w)
  (hz : ∀ w, (zeroValue t).run P w = .ok (.agg ((FL z n).map U64).toArray) w) (hw : aq ops F ⟨some d, .build t #[(0, x)], ty, pos, af, gd⟩ = some true) (hd : Nat.blt d N = true)
  (h : Lx P G ro ops N ds (EE fs) Z rest ((d, .agg ((FL (fun i => if i = 0 then l else z i) n).map U64).toArray) :: F) C) : Lx P G ro ops N ds (EE fs) Z (⟨some d, .build t #[(0, x)], ty, pos, af, gd⟩ :: rest) F C :=
 dr (ps := [(0, x)]) (vs := [.agg (l.map U64).toArray]) (by simp [evL, hx]) (fun w => pD hl hn hu hs hz w) hw hd h
end
end
section
open Go.RowKit
section
variable {P : Program} {G : Cls} {ro : Option Nat} {ops : Array Oper} {N : Nat} {ds : List Deferred} {E : Oper → Bool} {Q : Exit → Act → World → Prop}
theorem d8 {Z : Fr → Cls → Prop} (hZ : ∀ F C, cz G C → Z F C → lh N ds Q .normal F C) (l2 : List Oper) : ∀ (l : List Oper) (F : Fr) (C : Cls), cz G C →
  Lx P G ro ops N ds E (fun F' C' => ∃ E', Lx P G ro ops N ds E' Z l2 F' C') l F C → ∀ a w, Has N ds F a → C w → wpListIn (FW ro) 0 P ops Q (l ++ l2) a w
 | [], F, C, hS, h, a, w, ha, hw => by
  obtain ⟨E', h⟩ := h
  exact cK hZ l2 F C hS h a w ha hw
 | o :: rest, F, C, hS, h, a, w, ha, hw => by
  rw [List.cons_append]
  unfold wpListIn
  unfold Lx at h
  cases hE : E o with
  | true =>
   rw [hE] at h
   obtain ⟨hwant, hwp⟩ := h a w ha hw
   rw [if_pos hwant]
   refine Oper.wpIn_exits (Oper.wpIn_mono (fun a' w' hk => ?_) hwp)
   obtain ⟨F', C', ha', hS', hw', _, hk⟩ := hk
   exact d8 hZ l2 rest F' C' hS' hk a' w' ha' hw'
  | false =>
   rw [hE] at h
   obtain ⟨v, ⟨hd, hy⟩, hk⟩ := h
   have hcls : dV G o C w := jL hS hw
   rcases hy a ha with ⟨hwant, hy⟩ | ⟨hwant, rfl⟩
   ·rw [if_pos hwant]
    exact hy.wpIn hcls fun w' hg => d8 hZ l2 rest _ C hS hk _ w' (ha.putF hd v) (hS.1 _ _ hw hg)
   ·rw [if_neg (by simp [hwant])]
    exact ⟨fun f _ => cE ro f, d8 hZ l2 rest _ C hS hk _ w (ha.putF hd _) hw⟩
end
section
variable {P : Program} {G : Cls} {ro : Option Nat} {ops : Array Oper} {N : Nat} {ds : List Deferred} {fs : List Nat} {Z : Fr → Cls → Prop} {F : Fr} {C : Cls} {rest : List Oper}
variable {d : Nat} {ty : TypeId} {pos : String} {af : Array Edge} {gd : Option (Nat × Bool)}
theorem yd {t e : TypeId} {len sz : Nat} (o' : Nat) {x ix : Operand} {b o : Nat} {i : BitVec 8} (hx : evF F x = some (.pointer (some ⟨b, o, none⟩))) (hi : evF F ix = some (U8 i)) (hu : P.underlying t = some (.array len e))
  (hs : ∀ w, (sizeOf e).run P w = .ok sz w) (hb : i.toNat < len) (ho : o + i.toNat * sz = o') (hw : aq ops F ⟨some d, .indexAddr t x ix, ty, pos, af, gd⟩ = some true) (hd : Nat.blt d N = true)
  (h : Lx P G ro ops N ds (EE fs) Z rest ((d, .pointer (some ⟨b, o', none⟩)) :: F) C) : Lx P G ro ops N ds (EE fs) Z (⟨some d, .indexAddr t x ix, ty, pos, af, gd⟩ :: rest) F C :=
 bP (v := .pointer (some ⟨b, o', none⟩)) rfl hw hd (fun _ h => by cases h) (fun a w ha _ => by
  have h1 : ¬ len ≤ i.toNat := by omega
  simp only [execOp, ha.ev hx, ha.ev hi, U8]
  simp [Instr.indexAt, asIntOf, run_underlying hu, Instr.sureAddr, h1, hs, Addr.add_mid, ho]) h
end
section
variable {P : Program} {G : Cls} {ro : Option Nat} {N : Nat} {ds : List Deferred} {F : Fr} {C : Cls} {K : KK}
theorem wz {id : Nat} {l : List Oper} {E : Oper → Bool} (n : Nat) (h : Lx P G ro l.toArray N ds E (fun F' C' => ∃ E', Lx P G ro l.toArray N ds E' (K .normal ds) (l.drop n) F' C') (l.take n) F C) : X P G ro N ds (.region id l.toArray false) F C K := fun hS a w ha hw => by
 have key := d8 (Q := fun e a' w' => ∃ ds' F' C', cz G C' ∧ Has N ds' F' a' ∧ C' w' ∧ K e ds' F' C') (fun F' C' hS' hk a' w' ha' hw' => ⟨ds, F', C', hS', ha', hw', hk⟩) (l.drop n) (l.take n) F C hS h a w ha hw
 rw [List.take_append_drop] at key
 exact wpIn_region_lit key
theorem sA {id : Nat} {l : List Oper} {E : Oper → Bool} {y : Code} (n : Nat) (h : Lx P G ro l.toArray N ds E (fun F' C' => ∃ E', Lx P G ro l.toArray N ds E' (fun F' C' => X P G ro N ds y F' C' K) (l.drop n) F' C') (l.take n) F C) : X P G ro N ds (.seq (.region id l.toArray false) y) F C K := am (wz n h)
end
end
section
open Go.RowKit
section
variable {P : Program} {G : Cls} {ro : Option Nat} {N : Nat} {ds : List Deferred} {l : List Oper} {E : Oper → Bool} {K : KK} {F : Fr} {C : Cls}
end
section
variable {P : Program} {G : Cls} {ro : Option Nat} {ops : Array Oper} {N : Nat} {ds : List Deferred} {fs : List Nat} {Z : Fr → Cls → Prop} {F : Fr} {rest : List Oper}
variable {d : Nat} {ty : TypeId} {pos : String} {af : Array Edge} {gd : Option (Nat × Bool)}
variable {B : Bs} {L : Hl}
end
end
section
open Go.RowKit
section
variable {P : Program} {G : Cls} {ro : Option Nat} {ops : Array Oper} {N : Nat} {ds : List Deferred} {fs : List Nat} {Z : Fr → Cls → Prop} {F : Fr} {C : Cls} {rest : List Oper}
variable {d : Nat} {ty : TypeId} {pos : String} {af : Array Edge} {gd : Option (Nat × Bool)}
variable {B : Bs} {L : Hl}
end
end
section
open Go.RowKit
section
variable {P : Program} {G : Cls} {ro : Option Nat} {md : Region.Mode} {ops : Array Oper} {N : Nat} {ds : List Deferred} {E : Oper → Bool} {Q : Exit → Act → World → Prop}
end
section
variable {P : Program} {G : Cls} {ro : Option Nat} {N : Nat} {ds : List Deferred} {l : List Oper} {E : Oper → Bool} {K : KK} {F : Fr} {C : Cls}
theorem Pure.sub {G' : Cls} {f : FuncId} {vs : List Value} {v : Value} (h : Pure P G f vs v) (hle : ∀ w, G' w → G w) : Pure P G' f vs v := fun w hw => h w (hle w hw)
end
end
section
open Go.RowKit
section
variable {P : Program} {G : Cls} {ro : Option Nat} {ops : Array Oper} {N : Nat} {ds : List Deferred} {fs : List Nat} {Z : Fr → Cls → Prop} {F : Fr} {C : Cls} {rest : List Oper}
variable {d : Nat} {ty : TypeId} {pos : String} {af : Array Edge} {gd : Option (Nat × Bool)}
end
end
section
open Go.RowKit
section
variable {P : Program}
/-! ### Compared -/
def EqF (P : Program) (t : TypeId) (n d0 : Nat) : Prop := ∀ xs ys : List (BitVec 64), xs.length = n → ys.length = n → ∀ (d : Nat) (w : World), (Op.equalIn (d + d0) t (.agg (xs.map U64).toArray) (.agg (ys.map U64).toArray)).run P w = .ok (decide (xs = ys)) w
theorem bY {t e : TypeId} {n : Nat} (hu : P.underlying t = some (.array n e)) (he : P.underlying e = some (.int .u64)) (hs : ∀ w, (sizeOf e).run P w = .ok 1 w) (hag : ∀ w, (isAgg e).run P w = .ok false w) : EqF P t n 2 :=
 fun xs ys hl hl' d w => GB hu he hs hag xs ys hl hl' d w
theorem dQ {t : TypeId} {m o : Nat} (hag : ∀ w, (isAgg t).run P w = .ok true w) (hs : ∀ w, (sizeOf t).run P w = .ok m w) (xs : List (BitVec 64)) (w : World) : (part t (xs.map U64).toArray o).run P w = .ok (.agg (((xs.drop o).take m).map U64).toArray) w := by
 simp only [part, Sem.run_bind, hag, hs, Result.andThen_ok, if_true, Sem.run_pure]
 congr 2
 simp [List.extract_toArray, List.map_take, List.map_drop]
theorem ye {xs ys : List (BitVec 64)} {m n : Nat} (hx : xs.length = m + n) (hy : ys.length = m + n) : xs = ys ↔ ((xs.drop 0).take m = (ys.drop 0).take m ∧ (xs.drop m).take n = (ys.drop m).take n) := by
 constructor
 ·intro h; rw [h]; exact ⟨rfl, rfl⟩
 ·rintro ⟨h1, h2⟩
  rw [List.drop_zero, List.drop_zero] at h1
  rw [List.take_of_length_le (by rw [List.length_drop]; omega), List.take_of_length_le (by rw [List.length_drop]; omega)] at h2
  rw [← List.take_append_drop m xs, ← List.take_append_drop m ys, h1, h2]
theorem ck {t : TypeId} {f : Field} {n d0 : Nat} (hu : P.underlying t = some (.struct #[f])) (h0 : f.offset = 0) (hn : f.name ≠ "_") (hsi : P.stoodInHeld t = false) (hag : ∀ w, (isAgg f.type).run P w = .ok true w) (hs : ∀ w, (sizeOf f.type).run P w = .ok n w) (he : EqF P f.type n d0) : EqF P t n (d0 + 1) := by
 intro xs ys hx hy d w
 rw [show d + (d0 + 1) = (d + d0) + 1 from rfl, Op.equalIn]
 simp only [Sem.run_bind, run_underlying hu, Result.andThen_ok]
 have p1 := dQ (o := 0) hag hs xs w
 have p2 := dQ (o := 0) hag hs ys w
 rw [List.drop_zero, List.take_of_length_le (by omega)] at p1 p2
 have e := he xs ys hx hy d w
 simp [hsi, hn, h0, p1, p2, e]
 by_cases h : xs = ys <;> simp [h]
theorem gy {t : TypeId} {f g : Field} {m n d0 : Nat} (hu : P.underlying t = some (.struct #[f, g])) (h0 : f.offset = 0) (h1 : g.offset = m) (hn : f.name ≠ "_") (hn' : g.name ≠ "_") (hsi : P.stoodInHeld t = false)
  (hag : ∀ w, (isAgg f.type).run P w = .ok true w) (hs : ∀ w, (sizeOf f.type).run P w = .ok m w) (he : EqF P f.type m d0) (hag' : ∀ w, (isAgg g.type).run P w = .ok true w) (hs' : ∀ w, (sizeOf g.type).run P w = .ok n w) (he' : EqF P g.type n d0) : EqF P t (m + n) (d0 + 1) := by
 intro xs ys hx hy d w
 rw [show d + (d0 + 1) = (d + d0) + 1 from rfl, Op.equalIn]
 simp only [Sem.run_bind, run_underlying hu, Result.andThen_ok]
 have p1 := dQ (o := 0) hag hs xs w
 have p2 := dQ (o := 0) hag hs ys w
 have p3 := dQ (o := m) hag' hs' xs w
 have p4 := dQ (o := m) hag' hs' ys w
 have e1 := he ((xs.drop 0).take m) ((ys.drop 0).take m) (by rw [List.drop_zero, List.length_take]; omega) (by rw [List.drop_zero, List.length_take]; omega) d w
 have e2 := he' ((xs.drop m).take n) ((ys.drop m).take n) (by rw [List.length_take, List.length_drop]; omega) (by rw [List.length_take, List.length_drop]; omega) d w
 have i := ye hx hy
 generalize (xs.drop 0).take m = a1 at *
 generalize (ys.drop 0).take m = a2 at *
 generalize (xs.drop m).take n = b1 at *
 generalize (ys.drop m).take n = b2 at *
 simp [hsi, hn, hn', h0, h1, p1, p2, p3, p4, e1, e2]
 by_cases ha : a1 = a2
 ·by_cases hb : b1 = b2
  ·simp [ha, hb, i.2 ⟨ha, hb⟩]
  ·simp [ha, hb, show ¬ xs = ys from fun h => hb (i.1 h).2]
 ·simp [ha, show ¬ xs = ys from fun h => ha (i.1 h).1]
theorem yi {t : TypeId} {n d0 : Nat} (he : EqF P t n d0) (hd : d0 ≤ 100) (xs ys : List (BitVec 64)) (hl : xs.length = n) (hl' : ys.length = n) (w : World) : (binOp .eql t (.agg (xs.map U64).toArray) (.agg (ys.map U64).toArray)).run P w = .ok (.bool (decide (xs = ys))) w := by
 rw [run_eql_struct, show (10000 : Nat) = (10000 - d0) + d0 by omega, he xs ys hl hl' (10000 - d0) w]; rfl
theorem xA {t : TypeId} {n d0 : Nat} (he : EqF P t n d0) (hd : d0 ≤ 100) (xs ys : List (BitVec 64)) (hl : xs.length = n) (hl' : ys.length = n) (w : World) : (binOp .neq t (.agg (xs.map U64).toArray) (.agg (ys.map U64).toArray)).run P w = .ok (.bool (!decide (xs = ys))) w := by
 rw [run_neq_struct, show (10000 : Nat) = (10000 - d0) + d0 by omega, he xs ys hl hl' (10000 - d0) w]; rfl
/-! ### Read -/
theorem mu {a b : List (BitVec 64)} : ∀ j v, (a.map U64)[j]? = some v → ((a ++ b).map U64)[0 + j]? = some v := fun j v h => by
 have hj : j < (a.map U64).length := by
  rcases Nat.lt_or_ge j (a.map U64).length with h' | h'
  ·exact h'
  ·rw [List.getElem?_eq_none h'] at h; cases h
 rw [Nat.zero_add, List.map_append, List.getElem?_append_left hj]; exact h
theorem oZ {a b : List (BitVec 64)} {m : Nat} (hm : a.length = m) : ∀ j v, (b.map U64)[j]? = some v → ((a ++ b).map U64)[m + j]? = some v := fun j v h => by
 rw [List.map_append, List.getElem?_append_right (by rw [List.length_map]; omega), List.length_map, hm, Nat.add_sub_cancel_left]; exact h
theorem Ay {a b c : List (BitVec 64)} (h : c.length = a.length) : lay 0 (c.map U64) ((a ++ b).map U64) = (c ++ b).map U64 := by
 apply List.ext_getElem?
 intro m
 rw [d7 _ _ _ _ (by simp; omega)]
 simp only [List.map_append, List.getElem?_append, List.length_map, Nat.zero_le, true_and, Nat.zero_add, Nat.sub_zero, h]
 by_cases hm : m < a.length
 ·simp [hm]
 ·simp [hm]
theorem zM {a b c : List (BitVec 64)} {m : Nat} (hm : a.length = m) (h : c.length = b.length) : lay m (c.map U64) ((a ++ b).map U64) = (a ++ c).map U64 := by
 apply List.ext_getElem?
 intro k
 rw [d7 _ _ _ _ (by simp; omega)]
 simp only [List.map_append, List.getElem?_append, List.length_map, h, hm]
 by_cases hk : k < m
 ·simp [hk, show ¬ m ≤ k by omega]
 ·by_cases hk2 : k < m + b.length
  ·simp [hk, hk2, show m ≤ k by omega]
  ·rw [if_neg (by omega), if_neg hk, if_neg hk, List.getElem?_eq_none (by simp; omega), List.getElem?_eq_none (by simp; omega)]
/-! ### Built -/
theorem fH {t : TypeId} {fields : Array Field} {ps : Array (Nat × Nat)} {c out : List Value} (hz : ∀ w, (zeroValue t).run P w = .ok (.agg c.toArray) w) (hu : P.underlying t = some (.struct fields))
  (hm : ∀ w, (Array.mapM (fun f => Prod.mk f.offset <$> sizeOf f.type) fields : Sem _).run P w = .ok ps w) (parts : List (Nat × Value)) (hf : Instr.fill (fun i => ps[i]?) c.toArray parts = some out.toArray) (w : World) :
  (Instr.build t parts.toArray).run P w = .ok (.agg out.toArray) w := by
 have hm' : (Array.mapM (fun f => do let x ← sizeOf f.type; pure (f.offset, x)) fields : Sem _).run P w = .ok ps w := hm w
 simp only [Instr.build, hz, run_underlying hu, Sem.run_bind, Result.andThen_ok]
 rw [hm', Result.andThen_ok]
 rw [show (Value.agg c.toArray).cells = c.toArray from rfl, hf]
 rfl
theorem wh {f g : Field} {m n : Nat} (h0 : f.offset = 0) (h1 : g.offset = m) (hs : ∀ w, (sizeOf f.type).run P w = .ok m w) (hs' : ∀ w, (sizeOf g.type).run P w = .ok n w) (w : World) :
  (Array.mapM (fun f => Prod.mk f.offset <$> sizeOf f.type) #[f, g] : Sem _).run P w = .ok #[(0, m), (m, n)] w := by
 simp [hs, hs', h0, h1]
section
variable {t : TypeId} {f g : Field} {m n : Nat} {za zb : List (BitVec 64)}
theorem xH (h0 : f.offset = 0) (h1 : g.offset = m) (hs : ∀ w, (sizeOf f.type).run P w = .ok m w) (hs' : ∀ w, (sizeOf g.type).run P w = .ok n w) (hu : P.underlying t = some (.struct #[f, g]))
  (hz : ∀ w, (zeroValue t).run P w = .ok (.agg ((za ++ zb).map U64).toArray) w) (hza : za.length = m) (hzb : zb.length = n) {a b : List (BitVec 64)} (ha : a.length = m) (hb : b.length = n) (w : World) :
  (Instr.build t #[(0, .agg (a.map U64).toArray), (1, .agg (b.map U64).toArray)]).run P w = .ok (.agg ((a ++ b).map U64).toArray) w :=
 fH (c := (za ++ zb).map U64) hz hu (wh h0 h1 hs hs') [(0, .agg (a.map U64).toArray), (1, .agg (b.map U64).toArray)] (by
  rw [cu (off := 0) (size := m) (vs := a.map U64) rfl (by simp [ha]) (by simp; omega), Ay (by omega), cu (off := m) (size := n) (vs := b.map U64) rfl (by simp [hb]) (by simp; omega), zM ha (by omega)]
  rfl) w
variable {G : Cls} {ro : Option Nat} {ops : Array Oper} {N : Nat} {ds : List Deferred} {fs : List Nat} {Z : Fr → Cls → Prop} {rest : List Oper} {F : Fr} {C : Cls} {d : Nat} {ty : TypeId} {pos : String} {af : Array Edge} {gd : Option (Nat × Bool)}
structure Two (P : Program) (t : TypeId) (f g : Field) (m n : Nat) (za zb : List (BitVec 64)) : Prop where
 u : P.underlying t = some (.struct #[f, g])
 h0 : f.offset = 0
 h1 : g.offset = m
 s0 : ∀ w, (sizeOf f.type).run P w = .ok m w
 s1 : ∀ w, (sizeOf g.type).run P w = .ok n w
 z : ∀ w, (zeroValue t).run P w = .ok (.agg ((za ++ zb).map U64).toArray) w
 la : za.length = m
 lb : zb.length = n
theorem dd (q : Two P t f g m n za zb) {x y : Operand} {a b : List (BitVec 64)} (hx : evF F x = some (.agg (a.map U64).toArray)) (hy : evF F y = some (.agg (b.map U64).toArray)) (ha : a.length = m) (hb : b.length = n)
  (hw : aq ops F ⟨some d, .build t #[(0, x), (1, y)], ty, pos, af, gd⟩ = some true) (hd : Nat.blt d N = true)
  (h : Lx P G ro ops N ds (EE fs) Z rest ((d, .agg ((a ++ b).map U64).toArray) :: F) C) : Lx P G ro ops N ds (EE fs) Z (⟨some d, .build t #[(0, x), (1, y)], ty, pos, af, gd⟩ :: rest) F C :=
 dr (ps := [(0, x), (1, y)]) (vs := [.agg (a.map U64).toArray, .agg (b.map U64).toArray]) (by simp [evL, hx, hy]) (fun w => xH q.h0 q.h1 q.s0 q.s1 q.u q.z q.la q.lb ha hb w) hw hd h
end
end
end
section
open Go.RowKit
/-! ### Rows of twelve -/
def FM (f : Nat → List (BitVec 64)) (n : Nat) : List (BitVec 64) := (List.range (12 * n)).map fun m => (f (m / 12)).getD (m % 12) 0
theorem aV (f : Nat → List (BitVec 64)) (n : Nat) : (FM f n).length = 12 * n := by rw [FM, List.length_map, List.length_range]
theorem pS (f : Nat → List (BitVec 64)) (n m : Nat) (h : m < 12 * n) : (FM f n)[m]? = some ((f (m / 12)).getD (m % 12) 0) := by
 rw [FM, List.getElem?_map, List.getElem?_range h]; rfl
theorem qL (f : Nat → List (BitVec 64)) (n k : Nat) (hk : k < n) (hf : (f k).length = 12) (o : Nat) (ho : o = 12 * k) : ∀ j v, ((f k).map U64)[j]? = some v → ((FM f n).map U64)[o + j]? = some v := fun j v hv => by
 have hj : j < 12 := by
  rcases Nat.lt_or_ge j 12 with h | h
  ·exact h
  ·rw [List.getElem?_eq_none (by rw [List.length_map, hf]; exact h)] at hv; cases hv
 rw [List.getElem?_map] at hv ⊢
 rw [pS f n (o + j) (by omega), show (o + j) / 12 = k by omega, show (o + j) % 12 = j by omega]
 rw [List.getElem?_eq_getElem (by omega)] at hv
 rw [← hv, List.getD_eq_getElem?_getD, List.getElem?_eq_getElem (by omega)]
 rfl
theorem g7 {f g : Nat → List (BitVec 64)} {n : Nat} (h : ∀ i, i < n → f i = g i) : FM f n = FM g n := by
 unfold FM
 refine List.map_congr_left fun m hm => ?_
 rw [List.mem_range] at hm
 rw [h (m / 12) (by omega)]
theorem mM (f : Nat → List (BitVec 64)) (n k : Nat) (g : List (BitVec 64)) (hk : k < n) (hg : g.length = 12) (o : Nat) (ho : o = 12 * k) : lay o (g.map U64) ((FM f n).map U64) = (FM (fun i => if i = k then g else f i) n).map U64 := by
 apply List.ext_getElem?
 intro m
 rw [d7 _ _ _ _ (by rw [List.length_map, List.length_map, aV, hg]; omega)]
 rw [List.length_map, hg, List.getElem?_map (l := FM (fun i => if i = k then g else f i) n)]
 by_cases hm : m < 12 * n
 ·rw [pS _ n m hm]
  by_cases h : o ≤ m ∧ m < o + 12
  ·rw [if_pos h, if_pos (by omega), List.getElem?_map, List.getElem?_eq_getElem (by omega), List.getD_eq_getElem?_getD, show m % 12 = m - o by omega, List.getElem?_eq_getElem (by omega)]
   rfl
  ·rw [if_neg h, if_neg (by omega), List.getElem?_map, pS f n m hm]
 ·rw [if_neg (by omega), List.getElem?_map, List.getElem?_eq_none (by rw [aV]; omega), List.getElem?_eq_none (by rw [aV]; omega)]
section
variable {P : Program} {G : Cls} {ro : Option Nat} {ops : Array Oper} {N : Nat} {ds : List Deferred} {fs : List Nat} {Z : Fr → Cls → Prop} {F : Fr} {C : Cls} {rest : List Oper}
variable {d : Nat} {ty : TypeId} {pos : String} {af : Array Edge} {gd : Option (Nat × Bool)}
end
end
section
open Go.RowKit
section
variable {P : Program} {G : Cls} {ro : Option Nat} {N : Nat} {ds : List Deferred} {F : Fr} {C : Cls} {K : KK} {B : Bs}
end
end
section
open Go.RowKit
abbrev Trow := Nat × List Nat × List Nat
section
variable {l : List Oper} {E : Oper → Bool} {T : List Trow}
end
section
variable {P : Program} {G : Cls} {ro : Option Nat} {N : Nat} {ds : List Deferred} {F : Fr} {C : Cls} {K : KK}
end
end
section
open Go.RowKit
section
variable {P : Program}
/-! ### Read, written -/
theorem BZ {a b c : List (BitVec 64)} {m : Nat} (hm : a.length = m) : ∀ j v, (b.map U64)[j]? = some v → ((a ++ (b ++ c)).map U64)[m + j]? = some v := fun j v h => oZ hm j v (by have := mu (b := c) j v h; rw [Nat.zero_add] at this; exact this)
theorem uN {a b c : List (BitVec 64)} {m n k : Nat} (hm : a.length = m) (hn : b.length = n) (hk : m + n = k) : ∀ j v, (c.map U64)[j]? = some v → ((a ++ (b ++ c)).map U64)[k + j]? = some v := fun j v h => by
 rw [← hk, Nat.add_assoc]
 exact oZ hm (n + j) v (oZ hn j v h)
theorem Ht {a b c d : List (BitVec 64)} {m : Nat} (hm : a.length = m) (h : d.length = b.length) : lay m (d.map U64) ((a ++ (b ++ c)).map U64) = (a ++ (d ++ c)).map U64 := by
 apply List.ext_getElem?
 intro k
 rw [d7 _ _ _ _ (by simp; omega)]
 simp only [List.map_append, List.getElem?_append, List.length_map, h, hm]
 by_cases hk : k < m
 ·simp [hk, show ¬ m ≤ k by omega]
 ·by_cases hk2 : k < m + b.length
  ·simp [hk, hk2, show m ≤ k by omega, show k - m < b.length by omega]
  ·rw [if_neg (by omega), if_neg hk, if_neg hk, if_neg (by omega), if_neg (by omega)]
theorem Ck {a b c d : List (BitVec 64)} {m n k : Nat} (hm : a.length = m) (hn : b.length = n) (hk : m + n = k) (h : d.length = c.length) : lay k (d.map U64) ((a ++ (b ++ c)).map U64) = (a ++ (b ++ d)).map U64 := by
 have e := zM (a := a ++ b) (b := c) (c := d) (m := k) (by rw [List.length_append, hm, hn, hk]) h
 rw [List.append_assoc, List.append_assoc] at e
 exact e
/-! ### Built -/
theorem pL {f g h : Field} {m : Nat} (h0 : f.offset = 0) (h1 : g.offset = m) (h2 : h.offset = m + m) (hs : ∀ w, (sizeOf f.type).run P w = .ok m w) (hs' : ∀ w, (sizeOf g.type).run P w = .ok m w) (hs'' : ∀ w, (sizeOf h.type).run P w = .ok m w) (w : World) :
  (Array.mapM (fun f => Prod.mk f.offset <$> sizeOf f.type) #[f, g, h] : Sem _).run P w = .ok #[(0, m), (m, m), (m + m, m)] w := by
 simp [hs, hs', hs'', h0, h1, h2]
structure Three (P : Program) (t : TypeId) (f g h : Field) (m : Nat) (za zb zc : List (BitVec 64)) : Prop where
 u : P.underlying t = some (.struct #[f, g, h])
 h0 : f.offset = 0
 h1 : g.offset = m
 h2 : h.offset = m + m
 s0 : ∀ w, (sizeOf f.type).run P w = .ok m w
 s1 : ∀ w, (sizeOf g.type).run P w = .ok m w
 s2 : ∀ w, (sizeOf h.type).run P w = .ok m w
 z : ∀ w, (zeroValue t).run P w = .ok (.agg ((za ++ (zb ++ zc)).map U64).toArray) w
 la : za.length = m
 lb : zb.length = m
 lc : zc.length = m
section
variable {t : TypeId} {f g h : Field} {m : Nat} {za zb zc : List (BitVec 64)}
variable {G : Cls} {ro : Option Nat} {ops : Array Oper} {N : Nat} {ds : List Deferred} {fs : List Nat} {Z : Fr → Cls → Prop} {rest : List Oper} {F : Fr} {C : Cls} {d : Nat} {ty : TypeId} {pos : String} {af : Array Edge} {gd : Option (Nat × Bool)}
theorem mG (q : Three P t f g h m za zb zc) {a : List (BitVec 64)} (ha : a.length = m) {b : List (BitVec 64)} (hb : b.length = m) {c : List (BitVec 64)} (hc : c.length = m) (w : World) : (Instr.build t [(0, .agg (a.map U64).toArray), (1, .agg (b.map U64).toArray), (2, .agg (c.map U64).toArray)].toArray).run P w = .ok (.agg ((a ++ (b ++ c)).map U64).toArray) w :=
 fH (c := (za ++ (zb ++ zc)).map U64) q.z q.u (pL q.h0 q.h1 q.h2 q.s0 q.s1 q.s2) [(0, .agg (a.map U64).toArray), (1, .agg (b.map U64).toArray), (2, .agg (c.map U64).toArray)] (by
  rw [cu (off := 0) (size := m) (vs := a.map U64) rfl (by simp [ha]) (by simp [q.la, q.lb, q.lc, ha]; try omega), Ay (by rw [q.la, ha]), cu (off := m) (size := m) (vs := b.map U64) rfl (by simp [hb]) (by simp [ha, q.lb, q.lc, hb]; try omega), Ht ha (by rw [q.lb, hb]), cu (off := m + m) (size := m) (vs := c.map U64) rfl (by simp [hc]) (by simp [ha, hb, q.lc, hc]; try omega), Ck ha hb rfl (by rw [q.lc, hc])]
  rfl) w
theorem dR (q : Three P t f g h m za zb zc) {x0 x1 x2 : Operand} {a b c : List (BitVec 64)} (hx0 : evF F x0 = some (.agg (a.map U64).toArray)) (hx1 : evF F x1 = some (.agg (b.map U64).toArray)) (hx2 : evF F x2 = some (.agg (c.map U64).toArray)) (ha : a.length = m) (hb : b.length = m) (hc : c.length = m)
  (hw : aq ops F ⟨some d, .build t #[(0, x0), (1, x1), (2, x2)], ty, pos, af, gd⟩ = some true) (hd : Nat.blt d N = true)
  (k : Lx P G ro ops N ds (EE fs) Z rest ((d, .agg ((a ++ (b ++ c)).map U64).toArray) :: F) C) : Lx P G ro ops N ds (EE fs) Z (⟨some d, .build t #[(0, x0), (1, x1), (2, x2)], ty, pos, af, gd⟩ :: rest) F C :=
 dr (ps := [(0, x0), (1, x1), (2, x2)]) (vs := [.agg (a.map U64).toArray, .agg (b.map U64).toArray, .agg (c.map U64).toArray]) (by simp [evL, hx0, hx1, hx2]) (fun w => mG q ha hb hc w) hw hd k
end
/-! ### Arrays of rows, compared -/
theorem yc {xs ys : List (BitVec 64)} {n : Nat} (hn : 0 < n) : ∀ (k : Nat), xs.length = k * n → ys.length = k * n → ((List.range' 0 k).all (fun i => decide ((xs.drop (i * n)).take n = (ys.drop (i * n)).take n)) = decide (xs = ys)) := by
 intro k hx hy
 by_cases h : xs = ys
 ·subst h; simp
 ·rw [decide_eq_false h]
  cases hb : (List.range' 0 k).all (fun i => decide ((xs.drop (i * n)).take n = (ys.drop (i * n)).take n)) with
  | false => rfl
  | true =>
   exfalso
   apply h
   apply List.ext_getElem?
   intro j
   rcases Nat.lt_or_ge j (k * n) with hj | hj
   ·have hi : j / n < k := Nat.div_lt_of_lt_mul (by rw [Nat.mul_comm]; exact hj)
    have := of_decide_eq_true (List.all_eq_true.1 hb (j / n) (by simp [List.mem_range'_1]; exact hi))
    have e := congrArg (fun l => l[j % n]?) this
    have hm := Nat.mod_lt j hn
    simp only [List.getElem?_take, hm, if_true, List.getElem?_drop] at e
    rw [Nat.mul_comm, Nat.div_add_mod] at e
    exact e
   ·rw [List.getElem?_eq_none (by omega), List.getElem?_eq_none (by omega)]
theorem ge {t e : TypeId} {k n d0 : Nat} (hn : 0 < n) (hu : P.underlying t = some (.array k e)) (hag : ∀ w, (isAgg e).run P w = .ok true w) (hs : ∀ w, (sizeOf e).run P w = .ok n w) (he : EqF P e n d0) : EqF P t (k * n) (d0 + 1) := by
 intro xs ys hl hl' d w
 rw [show d + (d0 + 1) = (d + d0) + 1 from rfl, Op.equalIn]
 simp only [Sem.run_bind, run_underlying hu, Result.andThen_ok, hs]
 rw [Std.Legacy.Range.forIn_eq_forIn_range']
 have key : ∀ is : List Nat, (∀ i ∈ is, i < k) → ∀ {β : Type} (f : Nat → β → Sem (ForInStep β)) (b b1 : β), (∀ i, i < k → (f i b).run P w = .ok (if decide ((xs.drop (i * n)).take n = (ys.drop (i * n)).take n) then .yield b else .done b1) w) → (forIn is b f).run P w = .ok (if is.all (fun i => decide ((xs.drop (i * n)).take n = (ys.drop (i * n)).take n)) then b else b1) w := by
  intro is
  induction is with
  | nil => intro _ β f b b1 _; simp
  | cons i r ih =>
   intro hi β f b b1 hf
   rw [List.forIn_cons, Sem.run_bind, hf i (hi i (by simp)), Result.andThen_ok, List.all_cons]
   cases hb : decide ((xs.drop (i * n)).take n = (ys.drop (i * n)).take n) with
   | true => simpa using ih (fun j hj => hi j (by simp [hj])) f b b1 hf
   | false => simp
 rw [key _ (by intro i hi; simp at hi; omega) _ _ ⟨some false, ()⟩ ?_]
 ·have := yc hn k hl hl'
  simp only [Std.Legacy.Range.size, Nat.sub_zero, Nat.add_sub_cancel, Nat.div_one] at *
  rw [this]
  cases decide (xs = ys) <;> simp
 ·intro i hi
  have hle : i * n + n ≤ k * n := by have := Nat.mul_le_mul_right n hi; rw [Nat.succ_mul] at this; exact this
  have p1 := dQ (o := i * n) hag hs xs w
  have p2 := dQ (o := i * n) hag hs ys w
  have e1 := he ((xs.drop (i * n)).take n) ((ys.drop (i * n)).take n) (by rw [List.length_take, List.length_drop]; omega) (by rw [List.length_take, List.length_drop]; omega) d w
  simp only [Sem.run_bind, p1, p2, e1, Result.andThen_ok]
  cases decide ((xs.drop (i * n)).take n = (ys.drop (i * n)).take n) <;> simp
end
end
section
open Go.RowKit
section
variable {P : Program} {G : Cls} {ro : Option Nat} {ops : Array Oper} {N : Nat} {ds : List Deferred} {fs : List Nat} {Z : Fr → Cls → Prop} {F : Fr} {C : Cls} {rest : List Oper}
variable {d : Nat} {ty : TypeId} {pos : String} {af : Array Edge} {gd : Option (Nat × Bool)} {B : Bs} {L : Hl}
end
end
section
open Go.RowKit
theorem CD (f : Nat → List (BitVec 64)) (n k : Nat) (hk : k < n) (hf : (f k).length = 12) : ((FM f n).map U64).toArray.extract (k * 12) (k * 12 + 12) = ((f k).map U64).toArray := by
 apply Array.ext_getElem?
 intro j
 rw [Array.getElem?_extract, List.size_toArray, List.length_map, aV]
 rcases Nat.lt_or_ge j 12 with hj | hj
 ·rw [if_pos (by omega), List.getElem?_toArray, List.getElem?_toArray]
  have h := qL f n k hk hf (k * 12) (Nat.mul_comm _ _) j (U64 (f k)[j]) (by rw [List.getElem?_map, List.getElem?_eq_getElem (by omega)]; rfl)
  rw [h, List.getElem?_map, List.getElem?_eq_getElem (by omega)]; rfl
 ·rw [if_neg (by omega), List.getElem?_toArray, List.getElem?_eq_none (by rw [List.length_map]; omega)]
section
variable {P : Program} {G : Cls} {ro : Option Nat} {ops : Array Oper} {N : Nat} {ds : List Deferred} {fs : List Nat} {Z : Fr → Cls → Prop} {F : Fr} {C : Cls} {rest : List Oper}
variable {d : Nat} {ty : TypeId} {pos : String} {af : Array Edge} {gd : Option (Nat × Bool)}
theorem rx (f : Nat → List (BitVec 64)) (k : Nat) {t e : TypeId} {n : Nat} {x ix : Operand} {i : Int} (hx : evF F x = some (.agg ((FM f n).map U64).toArray)) (hi : evF F ix = some (I i)) (hu : P.underlying t = some (.array n e))
  (hs : ∀ w, (sizeOf e).run P w = .ok 12 w) (hag : ∀ w, (isAgg e).run P w = .ok true w) (hk : i = (k : Int)) (hb : k < n) (hf : (f k).length = 12) (hw : aq ops F ⟨some d, .index t x ix, ty, pos, af, gd⟩ = some true) (hd : Nat.blt d N = true)
  (h : Lx P G ro ops N ds (EE fs) Z rest ((d, .agg ((f k).map U64).toArray) :: F) C) : Lx P G ro ops N ds (EE fs) Z (⟨some d, .index t x ix, ty, pos, af, gd⟩ :: rest) F C :=
 bP (v := .agg ((f k).map U64).toArray) rfl hw hd (fun _ h => by cases h) (fun a w ha _ => by
  simp only [execOp, ha.ev hx, ha.ev hi]
  have hb' : 0 ≤ i ∧ i < (n : Int) := by omega
  have e : i.toNat = k := by omega
  have e2 := CD f n k hb hf
  simp only [Instr.index, asIntOf, run_underlying hu, part, Sem.run_bind, Sem.run_pure, Result.andThen_ok]
  rw [if_pos hb']
  simp only [Sem.run_bind, Sem.run_pure, Result.andThen_ok, hs, hag, if_true, e, e2]) h
theorem ve {t e : TypeId} {f z : Nat → List (BitVec 64)} (hu : P.underlying t = some (.array 3 e)) (hs : ∀ w, (sizeOf e).run P w = .ok 12 w) (hz : ∀ w, (zeroValue t).run P w = .ok (.agg ((FM z 3).map U64).toArray) w) (h0 : (f 0).length = 12) (h1 : (f 1).length = 12) (h2 : (f 2).length = 12) (w : World) :
  (Instr.build t [(0, .agg ((f 0).map U64).toArray), (1, .agg ((f 1).map U64).toArray), (2, .agg ((f 2).map U64).toArray)].toArray).run P w = .ok (.agg ((FM f 3).map U64).toArray) w := by
 have g0 := fun c hc r => cu (place := fun i => some (i * 12, 12)) (i := 0) (off := 0) (vs := (f 0).map U64) (c := c) rfl (by rw [List.length_map, h0]) hc r
 have g1 := fun c hc r => cu (place := fun i => some (i * 12, 12)) (i := 1) (off := 12) (vs := (f 1).map U64) (c := c) rfl (by rw [List.length_map, h1]) hc r
 have g2 := fun c hc r => cu (place := fun i => some (i * 12, 12)) (i := 2) (off := 24) (vs := (f 2).map U64) (c := c) rfl (by rw [List.length_map, h2]) hc r
 simp only [Instr.build, hz, run_underlying hu, hs, Sem.run_bind, Result.andThen_ok]
 rw [show (Value.agg (List.map U64 (FM z 3)).toArray).cells = (List.map U64 (FM z 3)).toArray from rfl,
  g0 _ (by rw [List.length_map, List.length_map, aV, h0]; decide), mM z 3 0 (f 0) (by decide) h0 0 rfl,
  g1 _ (by rw [List.length_map, List.length_map, aV, h1]; decide), mM _ 3 1 (f 1) (by decide) h1 12 rfl,
  g2 _ (by rw [List.length_map, List.length_map, aV, h2]; decide), mM _ 3 2 (f 2) (by decide) h2 24 rfl]
 rw [g7 (f := fun i => if i = 2 then f 2 else if i = 1 then f 1 else if i = 0 then f 0 else z i) (g := f) (n := 3) (fun i hi => by
  match i, hi with
  | 0, _ => rfl
  | 1, _ => rfl
  | 2, _ => rfl)]
 rfl
theorem zn (f : Nat → List (BitVec 64)) {t e : TypeId} {z : Nat → List (BitVec 64)} {x0 x1 x2 : Operand} (hx0 : evF F x0 = some (.agg ((f 0).map U64).toArray)) (hx1 : evF F x1 = some (.agg ((f 1).map U64).toArray)) (hx2 : evF F x2 = some (.agg ((f 2).map U64).toArray))
  (hu : P.underlying t = some (.array 3 e)) (hs : ∀ w, (sizeOf e).run P w = .ok 12 w) (hz : ∀ w, (zeroValue t).run P w = .ok (.agg ((FM z 3).map U64).toArray) w) (h0 : (f 0).length = 12) (h1 : (f 1).length = 12) (h2 : (f 2).length = 12)
  (hw : aq ops F ⟨some d, .build t #[(0, x0), (1, x1), (2, x2)], ty, pos, af, gd⟩ = some true) (hd : Nat.blt d N = true)
  (h : Lx P G ro ops N ds (EE fs) Z rest ((d, .agg ((FM f 3).map U64).toArray) :: F) C) : Lx P G ro ops N ds (EE fs) Z (⟨some d, .build t #[(0, x0), (1, x1), (2, x2)], ty, pos, af, gd⟩ :: rest) F C :=
 dr (ps := [(0, x0), (1, x1), (2, x2)]) (vs := [.agg ((f 0).map U64).toArray, .agg ((f 1).map U64).toArray, .agg ((f 2).map U64).toArray]) (by simp [evL, hx0, hx1, hx2]) (fun w => ve hu hs hz h0 h1 h2 w) hw hd h
end
section
variable {P : Program} {G : Cls} {N : Nat} {ds : List Deferred} {F : Fr} {B : Bs} {L : Hl} {K : KK}
theorem gv (n : Nat) {fn : Func} {R : Ending → World → Prop} {t : Nat} {T et : TypeId} {b : Nat} {v : Value} (hr : fn.results = #[.cell t T]) (hv : lk F t = some (.pointer (some ⟨b, 0, none⟩))) (hl : lkB L n = some (b, [v], et))
  (hag : ∀ w, (isAgg T).run P w = .ok false w) (h : ∀ w, Hp B L w → R (.returned v) w) : jb P fn R .ret [] F (Hp B L) :=
 ⟨rfl, fun a w ha hC => ⟨v, by
  have hc := cB (n := n) (o := 0) hl rfl w hC
  simp [results, hr, ha.get t _ hv, asAddr, loadVar, hag, load, Sem.run, hc], h w hC⟩⟩
theorem ox {C : Cls} (h : K .ret ds F C) : Cz K .ret ds F C := h
def sU : Hl := [(0, 0, [], 0), (1, 0, [], 0)]
theorem qk {Y : Nat → Prop} {w : World} (h : Hq B sU Y w) : False := by
 have := h.inj 0 1 0 [] 0 [] 0 rfl rfl
 omega
theorem kJ {ro : Option Nat} {c : Code} (h : ∀ w, Hp B L w → False) : X P G ro N ds c F (Hp B L) K := fun _ _ w _ hC => (h w hC).elim
def LkQ (Q : Nat → Prop) [DecidablePred Q] (Lk : Nat → Hl) (k : Nat) : Hl := if Q k then Lk k else sU
theorem DF {Q : Nat → Prop} [DecidablePred Q] {Lk : Nat → Hl} {k : Nat} (h : Q k) (hs : gP L (Lk k)) : gP L (LkQ Q Lk k) := by rw [LkQ, if_pos h]; exact hs
theorem nV (Q : Nat → Prop) [DecidablePred Q] {g : Operand} {ps : List Nat} {assign body : Code} {gf : Nat} {caps : List Value} {xs : List (List Value)} {Rd : Cls} (Bk : Nat → Bs) (Be : Code → Nat → Bs) (hBk : ∀ k, BOk G (Bk k)) (hBe : ∀ c k, BOk G (Be c k)) (hw0 : ∀ k, (Bk k).w0 = B.w0) (hwe : ∀ c k, (Be c k).w0 = B.w0)
  (hBB : Bk 0 = B) (hg : evF F g = some (.func (.func gf) #[] caps.toArray)) (he : ae P gf) (hseq : eO P G gf caps xs Rd)
  (hps : ∀ x ∈ xs, x.length = ps.length) (hpN : ps.all (Nat.blt · N) = true) (Lk : Nat → Hl) (Ext : Code → Nat → Hl → Prop) (hq0 : Q 0) (h0 : gP L (Lk 0)) (hRd : ∀ k Y w, Hq (Bk k) (Lk k) Y w → Rd w)
  (hround : ∀ (k : Nat) (x : List Value), xs[k]? = some x → Q k → ∀ R : Rnd, R.Ok G B.w0 → X P G (some R.l) N [] assign (eX ps x F) (Hp (R.a (Bk k)) (Lk k)) (Gx P G N body R Bk Be (LkQ Q Lk) Ext k))
  (hdone : Q xs.length → ∀ D, BOk G (B2 (Bk xs.length) D) → K .normal (mkD D :: ds) F (Hp (B2 (Bk xs.length) D) (Lk xs.length)))
  (hbad : ∀ D, (∀ w, Hp (B2 (Bk xs.length) D) sU w → False) → K .normal (mkD D :: ds) F (Hp (B2 (Bk xs.length) D) sU))
  (hleave : ∀ D c k L', BOk G (B2 (Be c k) D) → Ext c k L' → Cz K c (mkD D :: ds) F (Hp (B2 (Be c k) D) L')) : X P G none N ds (.rangeFunc g ps.toArray assign body) F (Hp B L) K := by
 refine da Bk Be hBk hBe hw0 hwe hBB hg he hseq hps hpN (LkQ Q Lk) Ext (DF hq0 h0) (fun k Y w h => ?_) (fun k x hx R hR => ?_) (fun D hD => ?_) hleave
 ·rw [LkQ] at h
  by_cases hq : Q k
  ·rw [if_pos hq] at h; exact hRd k Y w h
  ·rw [if_neg hq] at h; exact (qk h).elim
 ·by_cases hq : Q k
  ·rw [show LkQ Q Lk k = Lk k from if_pos hq]; exact hround k x hx hq R hR
  ·rw [show LkQ Q Lk k = sU from if_neg hq]; exact kJ fun w h => qk h
 ·by_cases hq : Q xs.length
  ·rw [show LkQ Q Lk xs.length = Lk xs.length from if_pos hq]; exact hdone hq D hD
  ·rw [show LkQ Q Lk xs.length = sU from if_neg hq]; exact hbad D fun w h => qk h
end
end
section
open Go.RowKit
/-! ### Rows of any width -/
def RW (s : Nat) (f : Nat → List (BitVec 64)) (n : Nat) : List (BitVec 64) := (List.range (s * n)).map fun m => (f (m / s)).getD (m % s) 0
section
variable {s : Nat}
theorem ez (f : Nat → List (BitVec 64)) (n : Nat) : (RW s f n).length = s * n := by rw [RW, List.length_map, List.length_range]
theorem jP (f : Nat → List (BitVec 64)) (n m : Nat) (h : m < s * n) : (RW s f n)[m]? = some ((f (m / s)).getD (m % s) 0) := by
 rw [RW, List.getElem?_map, List.getElem?_range h]; rfl
theorem D6 {k n j : Nat} (hk : k < n) (hj : j < s) : s * k + j < s * n := by
 have h1 : s * (k + 1) ≤ s * n := Nat.mul_le_mul_left s hk
 rw [Nat.mul_succ] at h1
 omega
theorem ru {k j : Nat} (hj : j < s) : (s * k + j) / s = k := by
 rw [Nat.mul_add_div (by omega), Nat.div_eq_of_lt hj, Nat.add_zero]
theorem qz {k j : Nat} (hj : j < s) : (s * k + j) % s = j := by rw [Nat.mul_add_mod, Nat.mod_eq_of_lt hj]
theorem zv (f : Nat → List (BitVec 64)) (n k : Nat) (hk : k < n) (hf : (f k).length = s) (o : Nat) (ho : o = s * k) : ∀ j v, ((f k).map U64)[j]? = some v → ((RW s f n).map U64)[o + j]? = some v := fun j v hv => by
 have hj : j < s := by
  rcases Nat.lt_or_ge j s with h | h
  ·exact h
  ·rw [List.getElem?_eq_none (by rw [List.length_map, hf]; exact h)] at hv; cases hv
 rw [List.getElem?_map] at hv ⊢
 rw [ho, jP f n (s * k + j) (D6 hk hj), ru hj, qz hj]
 rw [List.getElem?_eq_getElem (by omega)] at hv
 rw [← hv, List.getD_eq_getElem?_getD, List.getElem?_eq_getElem (by omega)]
 rfl
theorem m9 {f g : Nat → List (BitVec 64)} {n : Nat} (h : ∀ i, i < n → f i = g i) : RW s f n = RW s g n := by
 unfold RW
 refine List.map_congr_left fun m hm => ?_
 rw [List.mem_range] at hm
 rw [h (m / s) (Nat.div_lt_of_lt_mul hm)]
theorem Dm (f : Nat → List (BitVec 64)) (n k : Nat) (g : List (BitVec 64)) (hk : k < n) (hg : g.length = s) (o : Nat) (ho : o = s * k) : lay o (g.map U64) ((RW s f n).map U64) = (RW s (fun i => if i = k then g else f i) n).map U64 := by
 have hin : s * k + s ≤ s * n := by rw [← Nat.mul_succ]; exact Nat.mul_le_mul_left s hk
 apply List.ext_getElem?
 intro m
 rw [d7 _ _ _ _ (by rw [List.length_map, List.length_map, ez, hg]; omega)]
 rw [List.length_map, hg, List.getElem?_map (l := RW s (fun i => if i = k then g else f i) n)]
 by_cases hm : m < s * n
 ·rw [jP _ n m hm]
  by_cases h : o ≤ m ∧ m < o + s
  ·have e : m = s * k + (m - o) := by omega
   have hj : m - o < s := by omega
   have e1 : m / s = k := by rw [e]; exact ru hj
   have e2 : m % s = m - o := by
    have := qz (k := k) hj
    rw [← e] at this; exact this
   rw [if_pos h, e1, if_pos rfl, e2, List.getElem?_map, List.getElem?_eq_getElem (by omega), List.getD_eq_getElem?_getD, List.getElem?_eq_getElem (by omega)]
   rfl
  ·have e1 : ¬ m / s = k := fun e => by
    have h0 : 0 < s := by
     rcases Nat.eq_zero_or_pos s with h0 | h0
     ·subst h0; omega
     ·exact h0
    have h1 := Nat.div_add_mod m s
    have h2 := Nat.mod_lt m h0
    rw [e] at h1
    omega
   rw [if_neg h, if_neg e1, List.getElem?_map, jP f n m hm]
 ·rw [if_neg (by omega), List.getElem?_map, List.getElem?_eq_none (by rw [ez]; omega), List.getElem?_eq_none (by rw [ez]; omega)]
/-! ### Made -/
def su (f : Nat → List (BitVec 64)) : List Nat → (Nat → List (BitVec 64)) → Nat → List (BitVec 64)
 | [], g => g
 | i :: r, g => su f r (fun j => if j = i then f i else g j)
theorem l4 (f : Nat → List (BitVec 64)) : ∀ (is : List Nat) (g : Nat → List (BitVec 64)) (j : Nat), j ∈ is ∨ g j = f j → su f is g j = f j
 | [], _, _, h => h.elim (fun h => by cases h) id
 | i :: r, g, j, h => by
  refine l4 f r _ j ?_
  by_cases hj : j = i
  ·right; rw [if_pos hj, hj]
  ·rcases h with h | h
   ·left
    rcases List.mem_cons.1 h with h | h
    ·exact absurd h hj
    ·exact h
   ·right; rw [if_neg hj, h]
theorem xh (f : Nat → List (BitVec 64)) (n : Nat) (hf : ∀ i, i < n → (f i).length = s) : ∀ (is : List Nat) (g : Nat → List (BitVec 64)), (∀ i ∈ is, i < n) →
  Instr.fill (fun i => some (i * s, s)) ((RW s g n).map U64).toArray (is.map fun i => (i, .agg ((f i).map U64).toArray)) = some ((RW s (su f is g) n).map U64).toArray
 | [], _, _ => rfl
 | i :: r, g, h => by
  have hi := h i (by simp)
  have hin : s * i + s ≤ s * n := by rw [← Nat.mul_succ]; exact Nat.mul_le_mul_left s hi
  rw [List.map_cons, cu (off := i * s) (size := s) (vs := (f i).map U64) rfl (by rw [List.length_map, hf i hi]) (by rw [List.length_map, List.length_map, ez, hf i hi, Nat.mul_comm i]; omega), Dm g n i (f i) hi (hf i hi) (i * s) (Nat.mul_comm _ _)]
  exact xh f n hf r _ fun j hj => h j (by simp [hj])
end
section
variable {P : Program} {G : Cls} {ro : Option Nat} {ops : Array Oper} {N : Nat} {ds : List Deferred} {fs : List Nat} {Z : Fr → Cls → Prop} {F : Fr} {C : Cls} {rest : List Oper}
variable {d : Nat} {ty : TypeId} {pos : String} {af : Array Edge} {gd : Option (Nat × Bool)} {s : Nat}
theorem runW {t e : TypeId} {n : Nat} {f z : Nat → List (BitVec 64)} (is : List Nat) (his : ∀ i ∈ is, i < n) (hf : ∀ i, i < n → (f i).length = s) (hu : P.underlying t = some (.array n e)) (hs : ∀ w, (sizeOf e).run P w = .ok s w)
  (hz : ∀ w, (zeroValue t).run P w = .ok (.agg ((RW s z n).map U64).toArray) w) (w : World) : (Instr.build t (is.map fun i => (i, .agg ((f i).map U64).toArray)).toArray).run P w = .ok (.agg ((RW s (su f is z) n).map U64).toArray) w := by
 have h := xh (s := s) f n hf is z his
 simp only [Instr.build, hz, run_underlying hu, hs, Sem.run_bind, Result.andThen_ok]
 rw [show (Value.agg (List.map U64 (RW s z n)).toArray).cells = (List.map U64 (RW s z n)).toArray from rfl, h]
 rfl
theorem wd (f h' : Nat → List (BitVec 64)) (is : List Nat) {t e : TypeId} {n : Nat} {z : Nat → List (BitVec 64)} {ps : List (Nat × Operand)} (hx : evL F (ps.map (·.2)) = some (is.map fun i => .agg ((f i).map U64).toArray)) (hi : ps.map (·.1) = is) (his : is.all (Nat.blt · n) = true)
  (hf : ∀ i, i < n → (f i).length = s) (hu : P.underlying t = some (.array n e)) (hs : ∀ w, (sizeOf e).run P w = .ok s w) (hz : ∀ w, (zeroValue t).run P w = .ok (.agg ((RW s z n).map U64).toArray) w) (hh : ∀ i, i < n → su f is z i = h' i)
  (hw : aq ops F ⟨some d, .build t ps.toArray, ty, pos, af, gd⟩ = some true) (hd : Nat.blt d N = true)
  (h : Lx P G ro ops N ds (EE fs) Z rest ((d, .agg ((RW s h' n).map U64).toArray) :: F) C) : Lx P G ro ops N ds (EE fs) Z (⟨some d, .build t ps.toArray, ty, pos, af, gd⟩ :: rest) F C :=
 dr hx (fun w => by
  have hlt : ∀ i ∈ is, i < n := fun i hi => Nat.le_of_ble_eq_true (List.all_eq_true.1 his i hi)
  have e := runW (s := s) (f := f) is hlt hf hu hs hz w
  rw [m9 hh] at e
  rw [hi, show is.zip (is.map fun i => Value.agg ((f i).map U64).toArray) = is.map fun i => (i, .agg ((f i).map U64).toArray) from (by
   clear hx hi his hh e hlt
   induction is with
   | nil => rfl
   | cons a r ih => rw [List.map_cons, List.zip_cons_cons, ih]; rfl)]
  exact e) hw hd h
end
/-! ### Rows within rows -/
theorem wq {a b x : List (BitVec 64)} {o : Nat} (h : ∀ (j : Nat) v, (x.map U64)[j]? = some v → (a.map U64)[o + j]? = some v) : ∀ (j : Nat) v, (x.map U64)[j]? = some v → ((a ++ b).map U64)[o + j]? = some v := fun j v hv => by
 have h1 := mu (b := b) (o + j) v (h j v hv)
 rw [Nat.zero_add] at h1
 exact h1
theorem pH {a b x : List (BitVec 64)} {m o k : Nat} (hm : a.length = m) (hk : m + o = k) (h : ∀ (j : Nat) v, (x.map U64)[j]? = some v → (b.map U64)[o + j]? = some v) : ∀ (j : Nat) v, (x.map U64)[j]? = some v → ((a ++ b).map U64)[k + j]? = some v := fun j v hv => by
 rw [← hk, Nat.add_assoc]
 exact oZ hm (o + j) v (h j v hv)
end
section
open Go.RowKit
def OwnW (L : Hl) (n : Nat) (e : TypeId) (s : Nat) (a0 : Option Addr) (cap nx : Nat) (xs : List Value) : Prop :=
 (a0 = none ∧ xs = [] ∧ nx = 0 ∧ cap = 0) ∨ ∃ b c, a0 = some ⟨b, 0, none⟩ ∧ lkB L n = some (b, c, e) ∧ c.length = cap * s ∧ nx ≤ cap ∧ xs.length = nx * s ∧ c.take xs.length = xs
theorem ww (L : Hl) (n : Nat) (e : TypeId) (s : Nat) : OwnW L n e s none 0 0 [] := .inl ⟨rfl, rfl, rfl, rfl⟩
theorem OwnW.len {L : Hl} {n : Nat} {e : TypeId} {s : Nat} {a0 : Option Addr} {cap nx : Nat} {xs : List Value} (h : OwnW L n e s a0 cap nx xs) : xs.length = nx * s := by
 rcases h with ⟨_, rfl, rfl, _⟩ | ⟨_, _, _, _, _, _, h, _⟩
 ·simp
 ·exact h
section
variable {P : Program} {G : Cls} {ro : Option Nat} {ops : Array Oper} {N : Nat} {ds : List Deferred} {fs : List Nat} {Z : Fr → Cls → Prop} {F : Fr} {C : Cls} {rest : List Oper}
variable {d : Nat} {ty : TypeId} {pos : String} {af : Array Edge} {gd : Option (Nat × Bool)} {B : Bs} {L : Hl}
theorem pI (n : Nat) {t tx e e' : TypeId} {x y : Operand} {a0 : Option Addr} {s cap nx ny sb so sc by_ : Nat} {xs ys : List Value} {z : Value} (hB : BOk G B) (hx : evF F x = some (.slice a0 nx cap)) (hy : evF F y = some (.slice (some ⟨sb, so, none⟩) ny sc))
  (hu : P.underlying t = some (.slice e)) (hux : P.underlying tx = some (.slice e')) (hi : TI P e z s by_) (hz1 : z.cells.size = s) (hown : OwnW L n e s a0 cap nx xs) (hly : ys.length = ny * s) (hsrc : ∀ w, Hp B L w → w.rangeAt sb so ys) (hone : ys.all (·.oneCell') = true) (hne : 0 < ny) (hlen : (nx + ny) * by_ ≤ 140737488355328) (h63 : nx + ny ≤ 4611686018427387904)
  (hw : aq ops F ⟨some d, .call { callee := .builtin .append, args := #[x, y], argTypes := #[t, tx] }, ty, pos, af, gd⟩ = some true) (hd : Nat.blt d N = true)
  (h : ∀ b c cap1, c.length = cap1 * s → nx + ny ≤ cap1 → c.take (xs ++ ys).length = xs ++ ys → Lx P G ro ops N ds (EE fs) Z rest ((d, .slice (some ⟨b, 0, none⟩) (nx + ny) cap1) :: F) (Hp B ((n, b, c, e) :: L)))
  (hgr : fs.any (Nat.beq 2999997) = false := by rfl) :
  Lx P G ro ops N ds (EE fs) Z (⟨some d, .call { callee := .builtin .append, args := #[x, y], argTypes := #[t, tx] }, ty, pos, af, gd⟩ :: rest) F (Hp B L) := by
 have hlx := hown.len
 obtain ⟨i, hi, hz, hsz, hby⟩ := hi
 refine fb (hgr := hgr) rfl hw hd (fun _ h => by cases h) fun a w ha hC => ?_
 have hs : Src P i.size tx (.slice (some ⟨sb, so, none⟩) ny sc) ny ys w := by
  rw [hsz]
  exact Src.ofSlice w hux ⟨sb, so, none⟩ ny sc ys hly (fun j u hu => by rw [Addr.add_mid]; exact hsrc w hC j u hu) (fun u hu => List.all_eq_true.1 hone u hu)
 have run : ∀ {v : Value} {w' : World}, (Builtin.append_ #[t, tx] ty #[.slice a0 nx cap, .slice (some ⟨sb, so, none⟩) ny sc]).run P w = .ok v w' →
   (execOp a.eval ⟨some d, .call { callee := .builtin .append, args := #[x, y], argTypes := #[t, tx] }, ty, pos, af, gd⟩).run P w = .ok (.value v) w' := fun {v w'} hr => by
  simp only [execOp, resolve, invoke, builtin, Sem.run_bind, Sem.run_pure, Result.andThen_ok, List.map_toArray, List.map_cons, List.map_nil, ha.ev hx, ha.ev hy, hr]
 have len1 : (xs ++ ys).length = (nx + ny) * s := by rw [List.length_append, hlx, hly, Nat.add_mul]
 rcases Nat.lt_or_ge cap (nx + ny) with hg | hroom
 ·have hold : (Builtin.firstCells i.size nx (.slice a0 nx cap)).run P w.drew = .ok xs.toArray w.drew := by
   rcases hown with ⟨rfl, rfl, rfl, rfl⟩ | ⟨b, c, rfl, hl, hc, hle, _, ht⟩
   ·exact run_firstCells_none _ _ _ _ _
   ·refine run_firstCells_some _ _ _ _ _ _ _ (by rw [hsz]; exact hlx) (fun j v hv => ?_)
    rw [Addr.add_mid, Nat.zero_add]
    have hcj : c[j]? = some v := by
     have : (c.take xs.length)[j]? = some v := by rw [ht]; exact hv
     rw [List.getElem?_take] at this
     split at this
     ·exact this
     ·cases this
    exact cB hl hcj w hC
  have hr := run_append_grow_src (P := P) w t tx ty e i z hu hi hz a0 nx cap xs hold (.slice (some ⟨sb, so, none⟩) ny sc) ny ys hs hg (by omega) (by rw [hby]; exact growslice_fits hg hlen)
  have hge := grownCap_ge w (nx + ny) cap e
  obtain ⟨cc, hcc⟩ : ∃ cc, xs ++ ys ++ (Builtin.zeroCells z.cells (grownCap w (nx + ny) cap e - (nx + ny))).toList = cc := ⟨_, rfl⟩
  have hcl : cc.length = grownCap w (nx + ny) cap e * s := by
   rw [← hcc, List.length_append, len1, Array.length_toList, size_zeroCells, hz1]
   obtain ⟨r, hr⟩ := Nat.exists_eq_add_of_le hge
   rw [hr, Nat.add_sub_cancel_left, Nat.add_mul (nx + ny)]
  have hct : cc.take (xs ++ ys).length = xs ++ ys := by rw [← hcc, List.take_append_of_le_length (by simp), List.take_of_length_le (by simp)]
  have harr : (xs ++ ys).toArray ++ Builtin.zeroCells z.cells (grownCap w (nx + ny) cap e - (nx + ny)) = cc.toArray := by
   rw [← hcc]
   apply Array.ext'
   simp
  rw [harr] at hr
  exact ⟨_, _, _, .inl (run hr), ap hB, (hC.grow hB.r ((Below.refl _ w).drew)).alloc hB.r n cc e, h w.heap.size cc _ hcl hge hct⟩
 ·rcases hown with ⟨rfl, rfl, rfl, rfl⟩ | ⟨b, c, rfl, hl, hc, hle, _, ht⟩
  ·exfalso; omega
  ·have hb := (hC.own n b c e hl).1
   have hin : nx * s + ys.length ≤ c.length := by rw [hly, hc, ← Nat.add_mul]; exact Nat.mul_le_mul_right s hroom
   have hr := run_append_room_src (P := P) w t tx ty e i hu hi b 0 nx cap (.slice (some ⟨sb, so, none⟩) ny sc) ny ys hs hroom
    (fun j hj => by rw [cB hl (List.getElem?_eq_getElem (by rw [hsz]; omega)) w hC]; rfl) (fun j hj => hb.frozen (by rw [hsz]; omega))
   rw [hsz, show 0 + nx * s = xs.length from by rw [hlx, Nat.zero_add]] at hr
   refine ⟨_, _, _, .inl (run hr), ap hB, Hq.lays hB.r ys hC hl xs.length, ?_⟩
   exact h b (lay xs.length ys c) cap (by rw [kt]; exact hc) hroom (by rw [List.length_append]; exact sE xs ys c (by rw [hlx]; exact hin) ht)
theorem kL (n : Nat) (row : List Value) {t e : TypeId} {s : Nat} {z : Value} {x : Operand} (hB : BOk G B) (hx : evF F x = some (.agg row.toArray)) (hr : row.length = s) (h0 : 0 < s) (hl : s ≤ 16777216) (hu : P.underlying t = some (.slice e))
  (hs : ∀ w, (sizeOf e).run P w = .ok s w) (hz : ∀ w, (zeroValue e).run P w = .ok z w) (hw : aq ops F ⟨some d, .buildSlice t 1 #[(0, x)], ty, pos, af, gd⟩ = some true) (hd : Nat.blt d N = true)
  (h : ∀ b, Lx P G ro ops N ds (EE fs) Z rest ((d, .slice (some ⟨b, 0, none⟩) 1 1) :: F) (Hp B ((n, b, row, e) :: L)))
  (hgr : fs.any (Nat.beq 2999998) = false := by rfl) : Lx P G ro ops N ds (EE fs) Z (⟨some d, .buildSlice t 1 #[(0, x)], ty, pos, af, gd⟩ :: rest) F (Hp B L) := by
 refine fb (hgr := hgr) rfl hw hd (fun _ h => by cases h) fun a w ha hC => ?_
 refine ⟨.slice (some ⟨w.heap.size, 0, none⟩) 1 1, w.alloc (.cells row.toArray e), _, .inl ?_, ap hB, hC.alloc hB.r n row e, h w.heap.size⟩
 have e1 : ((#[(0, x)] : Array (Nat × Operand)).map fun (i, x) => (i, a.eval x)) = #[(0, .agg row.toArray)] := by simp [ha.ev hx]
 have hf := cu (place := fun i => some (i * s, s)) (i := 0) (off := 0) (size := s) (vs := row) (c := ((Array.range (1 * s)).map (z.cells[· % z.cells.size]!)).toList) (by simp) hr (by simp [hr]) []
 rw [me _ _ (by simp [hr]), Array.toArray_toList] at hf
 have hlt : ¬ (1 * s > 2 ^ 24) := by omega
 have h00 : ¬ (1 * s = 0) := by omega
 show ((do pure (.value (← Instr.buildSlice t 1 ((#[(0, x)] : Array (Nat × Operand)).map fun (i, x) => (i, a.eval x)))) : Sem Next)).run P w = _
 rw [e1]
 have hb : (Instr.buildSlice t 1 #[(0, .agg row.toArray)]).run P w = .ok (.slice (some ⟨w.heap.size, 0, none⟩) 1 1) (w.alloc (.cells row.toArray e)) := by
  simp only [Instr.buildSlice, Sem.run_bind, run_underlying hu, Result.andThen_ok, hs, if_neg hlt, if_neg h00, hz, Sem.run_pure, hf]
  simp [newRow, Instr.fill]
 simp only [Sem.run_bind, hb, Result.andThen_ok]; rfl
end
end
section
open Go.RowKit
section
variable {P : Program} {G : Cls} {ro : Option Nat} {ops : Array Oper} {N : Nat} {ds : List Deferred} {fs : List Nat} {Z : Fr → Cls → Prop} {F : Fr} {C : Cls} {rest : List Oper}
variable {d : Nat} {ty : TypeId} {pos : String} {af : Array Edge} {gd : Option (Nat × Bool)}
variable {B : Bs} {L : Hl}
theorem yy {E : Oper → Bool} {o : Oper} (hE : E o = true) (hw : aq ops F o = some true) (hd : gO N o.dst = true) (hnd : ∀ c, o.op ≠ .defer c)
  (h : ∀ a w, Has N ds F a → C w → ∃ v w' C', ((execOp a.eval o).run P w = .ok (.value v) w' ∨ ((execOp a.eval o).run P w = .ok .skip w' ∧ v = undef)) ∧ cz G C' ∧ C' w' ∧ (∀ w, C' w → C w) ∧ Lx P G ro ops N ds E Z rest (putF o.dst v F) C') :
  Lx P G ro ops N ds E Z (o :: rest) F C := by
 unfold Lx
 rw [hE]
 intro a w ha hC
 obtain ⟨v, w', C', hr, hS, hw', hn, hk⟩ := h a w ha hC
 refine ⟨ha.want hw, fun f _ => cE ro f, ?_⟩
 rw [show (FW ro).round = ro from rfl, Oper.semAt_eq _ _ _ hnd]
 rcases hr with hr | ⟨hr, rfl⟩
 ·rw [hr]; exact ⟨_, C', ha.putF hd v, hS, hw', fun _ => hn, hk⟩
 ·rw [hr]; exact ⟨_, C', ha.putF hd _, hS, hw', fun _ => hn, hk⟩
end
end
section
open Go.RowKit
section
variable {P : Program} {G : Cls} {ro : Option Nat} {ops : Array Oper} {N : Nat} {ds : List Deferred} {fs : List Nat} {Z : Fr → Cls → Prop} {F : Fr} {C : Cls} {rest : List Oper}
variable {d : Nat} {ty : TypeId} {pos : String} {af : Array Edge} {gd : Option (Nat × Bool)} {s : Nat}
variable {B : Bs} {L : Hl}
theorem Dv (zr : List (BitVec 64)) (hz : zr.length = s) (n : Nat) : ((Array.range (n * s)).map ((Value.agg (zr.map U64).toArray).cells[· % (Value.agg (zr.map U64).toArray).cells.size]!)) = ((RW s (fun _ => zr) n).map U64).toArray := by
 have e : (Value.agg (zr.map U64).toArray).cells = (zr.map U64).toArray := rfl
 rw [e]
 apply Array.ext
 ·simp [ez, Nat.mul_comm]
 ·intro i h1 h2
  have hi : i < n * s := by simpa using h1
  have hs : 0 < s := by
   rcases Nat.eq_zero_or_pos s with h | h
   ·subst h; simp at hi
   ·exact h
  have hm : i % s < zr.length := by rw [hz]; exact Nat.mod_lt _ hs
  have hg : (RW s (fun _ => zr) n)[i]? = some (zr.getD (i % s) 0) := jP _ n i (by rw [Nat.mul_comm]; exact hi)
  have hg2 : ((RW s (fun _ => zr) n).map U64)[i]? = some (U64 (zr.getD (i % s) 0)) := by rw [List.getElem?_map, hg]; rfl
  have hr : ((RW s (fun _ => zr) n).map U64).toArray[i] = U64 (zr.getD (i % s) 0) := by
   have := List.getElem?_eq_some_iff.1 hg2
   obtain ⟨hl, he⟩ := this
   simpa using he
  rw [hr]
  have hl : ((zr.map U64).toArray)[i % s]! = U64 (zr.getD (i % s) 0) := by
   simp [hm]
  simp only [Array.getElem_map, Array.getElem_range]
  rw [show ((zr.map U64).toArray).size = s by simp [hz]]
  exact hl
theorem kl (n : Nat) (f : Nat → List (BitVec 64)) (zr : List (BitVec 64)) {t e : TypeId} {len : Nat} {ps : List (Nat × Operand)} (hB : BOk G B) (hfr : lkB L n = none) (hx : evL F (ps.map (·.2)) = some ((List.range len).map fun i => .agg ((f i).map U64).toArray)) (hi : ps.map (·.1) = List.range len)
  (hf : ∀ i, i < len → (f i).length = s) (h0 : 0 < len * s) (hl : len * s ≤ 16777216) (hu : P.underlying t = some (.slice e)) (hs : ∀ w, (sizeOf e).run P w = .ok s w) (hzl : zr.length = s) (hz : ∀ w, (zeroValue e).run P w = .ok (.agg (zr.map U64).toArray) w)
  (hw : aq ops F ⟨some d, .buildSlice t len ps.toArray, ty, pos, af, gd⟩ = some true) (hd : Nat.blt d N = true)
  (h : ∀ b, Lx P G ro ops N ds (EE fs) Z rest ((d, .slice (some ⟨b, 0, none⟩) len len) :: F) (Hp B ((n, b, (RW s f len).map U64, e) :: L))) : Lx P G ro ops N ds (EE fs) Z (⟨some d, .buildSlice t len ps.toArray, ty, pos, af, gd⟩ :: rest) F (Hp B L) := by
 refine yy rfl hw hd (fun _ h => by cases h) fun a w ha hC => ?_
 refine ⟨.slice (some ⟨w.heap.size, 0, none⟩) len len, w.alloc (.cells ((RW s f len).map U64).toArray e), _, .inl ?_, ap hB, hC.alloc hB.r n _ e, fZ hB.r hfr, h w.heap.size⟩
 have e1 : (ps.toArray.map fun (i, x) => (i, a.eval x)) = ((List.range len).map fun i => (i, Value.agg ((f i).map U64).toArray)).toArray := by
  have : ps.map (fun (p : Nat × Operand) => (p.1, a.eval p.2)) = (ps.map (·.1)).zip ((ps.map (·.2)).map a.eval) := by rw [List.map_map, List.zip_map']; rfl
  rw [List.map_toArray, this, hi, ha.evL hx]
  congr 1
  rw [List.zip_eq_zipWith, List.zipWith_map_right, List.zipWith_self]
 have hfl := xh (s := s) f len hf (List.range len) (fun _ => zr) (fun i hi => List.mem_range.1 hi)
 rw [m9 (g := f) (fun i hi => l4 f (List.range len) _ i (.inl (List.mem_range.2 hi)))] at hfl
 have hlt : ¬ (len * s > 2 ^ 24) := by omega
 have h00 : ¬ (len * s = 0) := by omega
 show ((do pure (.value (← Instr.buildSlice t len (ps.toArray.map fun (i, x) => (i, a.eval x)))) : Sem Next)).run P w = _
 rw [e1]
 have hb : (Instr.buildSlice t len ((List.range len).map fun i => (i, Value.agg ((f i).map U64).toArray)).toArray).run P w = .ok (.slice (some ⟨w.heap.size, 0, none⟩) len len) (w.alloc (.cells ((RW s f len).map U64).toArray e)) := by
  simp only [Instr.buildSlice, Sem.run_bind, run_underlying hu, Result.andThen_ok, hs, if_neg hlt, if_neg h00, hz, Sem.run_pure, Dv zr hzl len, hfl]
  simp [newRow]
 simp only [Sem.run_bind, hb, Result.andThen_ok]; rfl
theorem k6 (k : Nat) {t e : TypeId} {len cap : Nat} {x ix : Operand} {b o : Nat} {i : Int} (hx : evF F x = some (.slice (some ⟨b, o, none⟩) len cap)) (hi : evF F ix = some (I i)) (hu : P.underlying t = some (.slice e))
  (hs : ∀ w, (sizeOf e).run P w = .ok s w) (hk : i = (k : Int)) (hb : k < len) (hw : aq ops F ⟨some d, .indexAddr t x ix, ty, pos, af, gd⟩ = some true) (hd : Nat.blt d N = true)
  (h : Lx P G ro ops N ds (EE fs) Z rest ((d, .pointer (some ⟨b, o + s * k, none⟩)) :: F) C) : Lx P G ro ops N ds (EE fs) Z (⟨some d, .indexAddr t x ix, ty, pos, af, gd⟩ :: rest) F C :=
 AF hx hi hu hs (by omega) hw hd (by
  rw [show o + i.toNat * s = o + s * k from by rw [Nat.mul_comm s k, hk]; rfl]; exact h)
theorem iH {w : World} {b n k : Nat} {f : Nat → List (BitVec 64)} (h : w.rangeAt b 0 ((RW s f n).map U64)) (hk : k < n) (hf : (f k).length = s) : w.rangeAt b (0 + s * k) ((f k).map U64) := fun j v hv => by
 have := h (s * k + j) v (zv f n k hk hf (s * k) rfl j v hv)
 rw [Nat.zero_add] at this
 rw [Nat.zero_add]
 exact this
end
end
section
open Go.RowKit
section
variable {P : Program} {G : Cls} {ro : Option Nat} {ops : Array Oper} {N : Nat} {ds : List Deferred} {fs : List Nat} {Z : Fr → Cls → Prop} {F : Fr} {C : Cls} {rest : List Oper}
variable {d : Nat} {ty : TypeId} {pos : String} {af : Array Edge} {gd : Option (Nat × Bool)}
variable {B : Bs} {L : Hl}
end
end
section
open Go.RowKit
section
variable {P : Program} {F : Fr} {B : Bs} {L : Hl}
end
end
section
open Go.RowKit
section
variable {P : Program} {G : Cls} {ro : Option Nat} {ops : Array Oper} {N : Nat} {ds : List Deferred} {fs : List Nat} {Z : Fr → Cls → Prop} {F : Fr} {C : Cls} {rest : List Oper}
variable {d : Nat} {ty : TypeId} {pos : String} {af : Array Edge} {gd : Option (Nat × Bool)}
end
end
section
open Go.RowKit
section
variable {P : Program} {G : Cls} {ro : Option Nat} {ops : Array Oper} {N : Nat} {ds : List Deferred} {fs : List Nat} {Z : Fr → Cls → Prop} {F : Fr} {C : Cls} {rest : List Oper}
variable {d : Nat} {ty : TypeId} {pos : String} {af : Array Edge} {gd : Option (Nat × Bool)}
theorem xo {t : TypeId} {x ix : Operand} {s : ByteArray} {k : IntKind} {i : Int} {n : BitVec 8} (hx : evF F x = some (.string s)) (hi : evF F ix = some (.int k i)) (hu : P.underlying t = some .string) (h0 : 0 ≤ i) (hv : s.data[i.toNat]? = some (UInt8.ofBitVec n))
  (hw : aq ops F ⟨some d, .index t x ix, ty, pos, af, gd⟩ = some true) (hd : Nat.blt d N = true) (h : Lx P G ro ops N ds (EE fs) Z rest ((d, U8 n) :: F) C) : Lx P G ro ops N ds (EE fs) Z (⟨some d, .index t x ix, ty, pos, af, gd⟩ :: rest) F C :=
 bP (v := U8 n) rfl hw hd (fun _ h => by cases h) (fun a w ha _ => by
  have hlt : i.toNat < s.size := (Array.getElem?_eq_some_iff.1 hv).1
  have hg : s[i.toNat] = UInt8.ofBitVec n := (Array.getElem?_eq_some_iff.1 hv).2
  have hr := run_index_string (P := P) w t s k i hu
  rw [dif_pos ⟨h0, by omega⟩] at hr
  simp only [execOp, ha.ev hx, ha.ev hi, Sem.run_bind, hr, Result.andThen_ok, hg]
  rfl) h
end
end
end Go.Proofs.YtpnpiblphnpfiaaGreatDoor
