/-
  A struct whose one field fills it; an array of which only the first element is named. Nothing here names a program.
  Structs whose one field fills them, compared. Nothing here names a program.
  The engine, part 27: rows inside blocks; calls whose answer is known. Nothing here names a program.
  The engine, part 28: arrays of bytes compared; bools compared. Nothing here names a program.
  The engine, part 29: parts laid into what is built; rows of rows. Nothing here names a program.
  The engine, part 30: a plain region walked in two parts, the second as it suits. Nothing here names a program.
  The engine, part 31: a region that draws its order, by the tree of its orders where memory grows in several ways at once. Nothing here names a program.
  The engine, part 32: a slice of bytes made; a choice behind what was passed by. Nothing here names a program.
  The engine, part 33: reads of what no step of a region can turn; the base moved. Nothing here names a program.
  The engine, part 34: slices from a place on; slices as arrays. Nothing here names a program.
  The engine, part 35: structs of two rows: built, read, compared. Nothing here names a program.
  The engine, part 36: rows of rows of twelve. Nothing here names a program.
  The engine, part 37: two ways that meet again. Nothing here names a program.
  The engine, part 38: a large region that draws its order and makes nothing: its check by a table. Nothing here names a program.
  The engine, part 39: structs of three rows: built, read, written; arrays of rows compared. Nothing here names a program.
  The engine, part 40: arrays of rows of twelve, built of some; three results. Nothing here names a program.
  The engine, part 41: arrays of rows of twelve, made and read; rounds that carry a fact; a single value handed back. Nothing here names a program.
  The engine, part 42: rows of rows of any width; parts of rows within rows. Nothing here names a program.
  The engine, part 43: slices of values of several cells: a literal of one, append. Nothing here names a program.
  The engine, part 44: slices made, and bytes appended, where the class is only narrowed (marks 2999998 and 2999997).
  The engine, part 45: slice literals of values of several cells; the class is only narrowed.
  The engine, part 46: bytes made bytes again, beside other steps. Nothing here names a program.
  The engine, part 47: two variables handed back.
  Values held in interfaces, their methods called; parts of slices with three indices.
  The engine, part 49: a byte of a string. Nothing here names a program.
  The engine, part 50: numbers moved by eight; slices of bytes of our own wherever they are kept. Nothing here names a program.
  The engine, part 51: a call behind which all that lies in memory is old. Nothing here names a program.
  The engine, part 52: slices made with room, of any size. Nothing here names a program.
-/
import Derived.Test.YtlimfhjjadbjgaaDoorX2
import Derived.Laws.MakeOwn
import Derived.Deep.AppendSrc
import Derived.Laws.Strings
namespace Go.Proofs.YtlimfhjjadbjgaaDoor
open Go.RowKit
set_option maxRecDepth 100000
section
variable {P : Program} {G : Cls} {ro : Option Nat} {ops : Array Oper} {N : Nat} {ds : List Deferred} {fs : List Nat} {Z : Fr → Cls → Prop} {rest : List Oper} {F : Fr} {C : Cls} {d : Nat} {ty : TypeId} {pos : String} {af : Array Edge} {gd : Option (Nat × Bool)}
theorem run_buildS {t : TypeId} {f : Field} {l : List (BitVec 64)} (hl : l.length = 6) (hu : P.underlying t = some (.struct #[f])) (h0 : f.offset = 0) (hs : ∀ w, (sizeOf f.type).run P w = .ok 6 w)
    (hz : ∀ w, (zeroValue t).run P w = .ok (.agg ((List.replicate 6 0#64).map U64).toArray) w) (w : World) : (Instr.build t #[(0, .agg (l.map U64).toArray)]).run P w = .ok (.agg (l.map U64).toArray) w := by
  match l, hl with
  | [_, _, _, _, _, _], _ => simp [Instr.build, hz, run_underlying hu, hs, h0, Value.cells, Instr.fill, List.replicate]
theorem lx_buildS {t : TypeId} {f : Field} {x : Operand} {l : List (BitVec 64)} (hx : evF F x = some (.agg (l.map U64).toArray)) (hl : l.length = 6) (hu : P.underlying t = some (.struct #[f])) (h0 : f.offset = 0) (hs : ∀ w, (sizeOf f.type).run P w = .ok 6 w)
    (hz : ∀ w, (zeroValue t).run P w = .ok (.agg ((List.replicate 6 0#64).map U64).toArray) w) (hw : wantF ops F ⟨some d, .build t #[(0, x)], ty, pos, af, gd⟩ = some true) (hd : Nat.blt d N = true)
    (h : Lx P G ro ops N ds (EE fs) Z rest ((d, .agg (l.map U64).toArray) :: F) C) : Lx P G ro ops N ds (EE fs) Z (⟨some d, .build t #[(0, x)], ty, pos, af, gd⟩ :: rest) F C :=
  lx_build (ps := [(0, x)]) (vs := [.agg (l.map U64).toArray]) (by simp [evL, hx]) (fun w => run_buildS hl hu h0 hs hz w) hw hd h
end
end Go.Proofs.YtlimfhjjadbjgaaDoor

namespace Go.Proofs.YtlimfhjjadbjgaaDoor
open Go.RowKit
set_option maxRecDepth 100000
section
variable {P : Program}
theorem OwnB.range {w : World} {b : Nat} {c : List Value} {t : TypeId} (h : OwnB w b c t) : w.rangeAt b 0 c := by
  obtain ⟨fz, h, _⟩ := h
  intro j v hj
  simp [World.cell?, h, hj]
end
end Go.Proofs.YtlimfhjjadbjgaaDoor

namespace Go.Proofs.YtlimfhjjadbjgaaDoor
open Go.RowKit
set_option maxRecDepth 100000
section
variable {P : Program} {G : Cls} {ro : Option Nat} {ops : Array Oper} {N : Nat} {ds : List Deferred} {fs : List Nat} {Z : Fr → Cls → Prop} {F : Fr} {C : Cls} {rest : List Oper}
variable {d : Nat} {ty : TypeId} {pos : String} {af : Array Edge} {gd : Option (Nat × Bool)}
variable {B : Bs} {L : Hl}
/-- A call that answers yes or no, where it is known which. -/
theorem lx_callB {f : Nat} {al : List Operand} {at' : Array TypeId} {vs : List Value} {b : Bool} (b' : Bool) (hf : fs.any (Nat.beq f) = false) (ha : evL F al = some vs) (he : Enters P f) (hp : Pure P G f vs (.bool b)) (hb : b = b')
    (hw : wantF ops F ⟨some d, .call { callee := .value (.func f), args := al.toArray, argTypes := at' }, ty, pos, af, gd⟩ = some true) (hd : Nat.blt d N = true)
    (h : Lx P G ro ops N ds (EE fs) Z rest ((d, .bool b') :: F) C) : Lx P G ro ops N ds (EE fs) Z (⟨some d, .call { callee := .value (.func f), args := al.toArray, argTypes := at' }, ty, pos, af, gd⟩ :: rest) F C :=
  lx_call hf ha he (hb ▸ hp) hw hd h
theorem lx_binB {op : BinOp} {t yt : TypeId} {x y : Operand} {vx vy : Value} {b : Bool} (b' : Bool) (hx : evF F x = some vx) (hy : evF F y = some vy) (hg : ∀ w, (eqGuard op t x y vx vy).run P w = .ok () w)
    (hr : ∀ w, (binOp op t vx vy).run P w = .ok (.bool b) w) (hb : b = b') (hw : wantF ops F ⟨some d, .binOp op t x y yt, ty, pos, af, gd⟩ = some true) (hd : Nat.blt d N = true)
    (h : Lx P G ro ops N ds (EE fs) Z rest ((d, .bool b') :: F) C) : Lx P G ro ops N ds (EE fs) Z (⟨some d, .binOp op t x y yt, ty, pos, af, gd⟩ :: rest) F C :=
  lx_bin hx hy hg (hb ▸ hr) hw hd h
/-- A package-level row read. -/
theorem lx_gl {t : TypeId} {g m : Nat} {cs : List Value} (hG : BOk G B) (hag : ∀ w, (isAgg t).run P w = .ok true w) (hs : ∀ w, (sizeOf t).run P w = .ok m w) (hm : cs.length = m) (hc : ∀ w, G w → w.rangeAt g 0 cs)
    (hw : wantF ops F ⟨some d, .load t (.global g), ty, pos, af, gd⟩ = some true) (hd : Nat.blt d N = true)
    (h : Lx P G ro ops N ds (EE fs) Z rest ((d, .agg cs.toArray) :: F) (Hp B L)) : Lx P G ro ops N ds (EE fs) Z (⟨some d, .load t (.global g), ty, pos, af, gd⟩ :: rest) F (Hp B L) :=
  lx_loadr rfl hag hs hm (fun w hw => hc w (hG.g _ _ w hw)) hw hd h
/-- A row read out of a block of ours. -/
theorem lx_loado (n : Nat) {t et : TypeId} {x : Operand} {b o m : Nat} {c : List Value} (cs : List Value) (hx : evF F x = some (.pointer (some ⟨b, o, none⟩))) (hl : lkB L n = some (b, c, et)) (hag : ∀ w, (isAgg t).run P w = .ok true w) (hs : ∀ w, (sizeOf t).run P w = .ok m w)
    (hm : cs.length = m) (hv : ∀ j v, cs[j]? = some v → c[o + j]? = some v) (hw : wantF ops F ⟨some d, .load t x, ty, pos, af, gd⟩ = some true) (hd : Nat.blt d N = true)
    (h : Lx P G ro ops N ds (EE fs) Z rest ((d, .agg cs.toArray) :: F) (Hp B L)) : Lx P G ro ops N ds (EE fs) Z (⟨some d, .load t x, ty, pos, af, gd⟩ :: rest) F (Hp B L) :=
  lx_loadr hx hag hs hm (hp_range (n := n) hl hv) hw hd h
end
end Go.Proofs.YtlimfhjjadbjgaaDoor

namespace Go.Proofs.YtlimfhjjadbjgaaDoor
open Go.RowKit
set_option maxRecDepth 100000
section
variable {P : Program}
end
end Go.Proofs.YtlimfhjjadbjgaaDoor

namespace Go.Proofs.YtlimfhjjadbjgaaDoor
open Go.RowKit
set_option maxRecDepth 100000
theorem fold_lay (o : Nat) : ∀ (vs : List Value) (k : Nat) (c : List Value), (vs.zipIdx k).foldl (fun (cs : Array Value) (p : Value × Nat) => cs.setIfInBounds (o + p.2) p.1) c.toArray = (lay (o + k) vs c).toArray
  | [], _, _ => rfl
  | v :: r, k, c => by
    have ih := fold_lay o r (k + 1) (c.set (o + k) v)
    rw [List.zipIdx_cons, List.foldl_cons, lay]
    simp only [List.setIfInBounds_toArray]
    rw [ih, Nat.add_assoc]
theorem fill_one {place : Nat → Option (Nat × Nat)} {i off size : Nat} {vs c : List Value} (hp : place i = some (off, size)) (hs : vs.length = size) (ho : off + vs.length ≤ c.length) (rest : List (Nat × Value)) :
    Instr.fill place c.toArray ((i, .agg vs.toArray) :: rest) = Instr.fill place (lay off vs c).toArray rest := by
  have h := fold_lay off vs 0 c
  have hn : ¬ ((decide ((Value.agg vs.toArray).cells.size ≠ size) || decide (off + (Value.agg vs.toArray).cells.size > c.toArray.size)) = true) := by
    simp [Value.cells, hs]; omega
  have e : (Value.agg vs.toArray).cells.zipIdx.foldl (fun (cs : Array Value) (p : Value × Nat) => cs.setIfInBounds (off + p.2) p.1) c.toArray = (lay off vs c).toArray := by
    rw [← Array.foldl_toList, Array.toList_zipIdx]
    exact h
  rw [Instr.fill, hp]
  show (if (decide ((Value.agg vs.toArray).cells.size ≠ size) || decide (off + (Value.agg vs.toArray).cells.size > c.toArray.size)) = true then none else _) = _
  rw [if_neg hn, ← e]
/-! ### Rows of six -/
section
variable {P : Program} {G : Cls} {ro : Option Nat} {ops : Array Oper} {N : Nat} {ds : List Deferred} {fs : List Nat} {Z : Fr → Cls → Prop} {F : Fr} {C : Cls} {rest : List Oper}
variable {d : Nat} {ty : TypeId} {pos : String} {af : Array Edge} {gd : Option (Nat × Bool)}
end
end Go.Proofs.YtlimfhjjadbjgaaDoor

namespace Go.Proofs.YtlimfhjjadbjgaaDoor
open Go.RowKit
set_option maxRecDepth 100000
section
variable {P : Program} {G : Cls} {ro : Option Nat} {ops : Array Oper} {N : Nat} {ds : List Deferred} {E : Oper → Bool} {Q : Exit → Act → World → Prop}
end
section
variable {P : Program} {G : Cls} {ro : Option Nat} {ops : Array Oper} {N : Nat} {ds : List Deferred} {fs : List Nat} {Z : Fr → Cls → Prop} {F : Fr} {C : Cls} {rest : List Oper}
variable {d : Nat} {ty : TypeId} {pos : String} {af : Array Edge} {gd : Option (Nat × Bool)}
end
section
variable {P : Program} {G : Cls} {ro : Option Nat} {N : Nat} {ds : List Deferred} {F : Fr} {C : Cls} {K : KK}
end
end Go.Proofs.YtlimfhjjadbjgaaDoor

namespace Go.Proofs.YtlimfhjjadbjgaaDoor
open Go.RowKit
set_option maxRecDepth 100000
section
variable {P : Program} {G : Cls} {ro : Option Nat} {N : Nat} {ds : List Deferred} {l : List Oper} {E : Oper → Bool} {K : KK} {F : Fr} {C : Cls}
end
section
variable {P : Program} {G : Cls} {ro : Option Nat} {ops : Array Oper} {N : Nat} {ds : List Deferred} {fs : List Nat} {Z : Fr → Cls → Prop} {F : Fr} {rest : List Oper}
variable {d : Nat} {ty : TypeId} {pos : String} {af : Array Edge} {gd : Option (Nat × Bool)}
variable {B : Bs} {L : Hl}
end
end Go.Proofs.YtlimfhjjadbjgaaDoor

namespace Go.Proofs.YtlimfhjjadbjgaaDoor
open Go.RowKit
set_option maxRecDepth 100000
section
variable {P : Program} {G : Cls} {ro : Option Nat} {ops : Array Oper} {N : Nat} {ds : List Deferred} {fs : List Nat} {Z : Fr → Cls → Prop} {F : Fr} {C : Cls} {rest : List Oper}
variable {d : Nat} {ty : TypeId} {pos : String} {af : Array Edge} {gd : Option (Nat × Bool)}
variable {B : Bs} {L : Hl}
/-- A slice made, of noughts. -/
theorem lx_mksl (n : Nat) {t e : TypeId} {x y : Operand} {m : Nat} {i : TypeInfo} {z : Value} {c : List Value} (hB : BOk G B) (hx : evF F x = some (I (m : Int))) (hy : evF F y = some (I (m : Int))) (hu : P.underlying t = some (.slice e)) (hi : P.info? e = some i) (hz : i.zero = some z)
    (hm : m * i.size ≤ 16777216 ∧ i.bytes * m ≤ 281474976710656 ∧ m ≤ 1000000) (hc : (madeCells z.cells (m * i.size)).toList = c) (hw : wantF ops F ⟨some d, .makeSlice t x y, ty, pos, af, gd⟩ = some true) (hd : Nat.blt d N = true)
    (h : ∀ b, Lx P G ro ops N ds (EE fs) Z rest ((d, .slice (some ⟨b, 0, none⟩) m m) :: F) (Hp B ((n, b, c, e) :: L))) : Lx P G ro ops N ds (EE fs) Z (⟨some d, .makeSlice t x y, ty, pos, af, gd⟩ :: rest) F (Hp B L) :=
  lx_run rfl hw hd (fun _ h => by cases h) fun a w ha hC => by
    have hr := run_makeSlice (P := P) (w := w) t e i z hu hi hz .i64 .i64 (m : Int) (m : Int) (by omega) (Int.le_refl _) (by rw [Int.toNat_natCast]; exact hm.1) (by have := Int.ofNat_le.2 hm.2.1; rw [Int.natCast_mul] at this; exact this) (by omega)
    simp only [Int.toNat_natCast] at hr
    refine ⟨.slice (some ⟨w.heap.size, 0, none⟩) m m, w.alloc (.cells c.toArray e), _, .inl ?_, good_hp hB, hC.alloc hB.r n c e, h w.heap.size⟩
    subst hc
    simp only [execOp, ha.ev hx, ha.ev hy, I, Sem.run_bind, hr, Result.andThen_ok]
    simp
end
end Go.Proofs.YtlimfhjjadbjgaaDoor

namespace Go.Proofs.YtlimfhjjadbjgaaDoor
open Go.RowKit
set_option maxRecDepth 100000
section
variable {P : Program} {G : Cls} {ro : Option Nat} {md : Region.Mode} {ops : Array Oper} {N : Nat} {ds : List Deferred} {E : Oper → Bool} {Q : Exit → Act → World → Prop}
end
section
variable {P : Program} {G : Cls} {ro : Option Nat} {N : Nat} {ds : List Deferred} {l : List Oper} {E : Oper → Bool} {K : KK} {F : Fr} {C : Cls}
theorem Pure.sub {G' : Cls} {f : FuncId} {vs : List Value} {v : Value} (h : Pure P G f vs v) (hle : ∀ w, G' w → G w) : Pure P G' f vs v := fun w hw => h w (hle w hw)
end
end Go.Proofs.YtlimfhjjadbjgaaDoor

namespace Go.Proofs.YtlimfhjjadbjgaaDoor
open Go.RowKit
set_option maxRecDepth 100000
section
variable {P : Program} {G : Cls} {ro : Option Nat} {ops : Array Oper} {N : Nat} {ds : List Deferred} {fs : List Nat} {Z : Fr → Cls → Prop} {F : Fr} {C : Cls} {rest : List Oper}
variable {d : Nat} {ty : TypeId} {pos : String} {af : Array Edge} {gd : Option (Nat × Bool)}
end
end Go.Proofs.YtlimfhjjadbjgaaDoor

namespace Go.Proofs.YtlimfhjjadbjgaaDoor
open Go.RowKit
set_option maxRecDepth 100000
section
variable {P : Program}
/-! ### Compared -/
/-! ### Read -/
theorem ld_l {a b : List (BitVec 64)} : ∀ j v, (a.map U64)[j]? = some v → ((a ++ b).map U64)[0 + j]? = some v := fun j v h => by
  have hj : j < (a.map U64).length := by
    rcases Nat.lt_or_ge j (a.map U64).length with h' | h'
    · exact h'
    · rw [List.getElem?_eq_none h'] at h; cases h
  rw [Nat.zero_add, List.map_append, List.getElem?_append_left hj]; exact h
theorem lay_l {a b c : List (BitVec 64)} (h : c.length = a.length) : lay 0 (c.map U64) ((a ++ b).map U64) = (c ++ b).map U64 := by
  apply List.ext_getElem?
  intro m
  rw [lay_get _ _ _ _ (by simp; omega)]
  simp only [List.map_append, List.getElem?_append, List.length_map, Nat.zero_le, true_and, Nat.zero_add, Nat.sub_zero, h]
  by_cases hm : m < a.length
  · simp [hm]
  · simp [hm]
theorem lay_r {a b c : List (BitVec 64)} {m : Nat} (hm : a.length = m) (h : c.length = b.length) : lay m (c.map U64) ((a ++ b).map U64) = (a ++ c).map U64 := by
  apply List.ext_getElem?
  intro k
  rw [lay_get _ _ _ _ (by simp; omega)]
  simp only [List.map_append, List.getElem?_append, List.length_map, h, hm]
  by_cases hk : k < m
  · simp [hk, show ¬ m ≤ k by omega]
  · by_cases hk2 : k < m + b.length
    · simp [hk, hk2, show m ≤ k by omega]
    · rw [if_neg (by omega), if_neg hk, if_neg hk, List.getElem?_eq_none (by simp; omega), List.getElem?_eq_none (by simp; omega)]
/-! ### Built -/
theorem run_buildP {t : TypeId} {fields : Array Field} {ps : Array (Nat × Nat)} {c out : List Value} (hz : ∀ w, (zeroValue t).run P w = .ok (.agg c.toArray) w) (hu : P.underlying t = some (.struct fields))
    (hm : ∀ w, (Array.mapM (fun f => Prod.mk f.offset <$> sizeOf f.type) fields : Sem _).run P w = .ok ps w) (parts : List (Nat × Value)) (hf : Instr.fill (fun i => ps[i]?) c.toArray parts = some out.toArray) (w : World) :
    (Instr.build t parts.toArray).run P w = .ok (.agg out.toArray) w := by
  have hm' : (Array.mapM (fun f => do let x ← sizeOf f.type; pure (f.offset, x)) fields : Sem _).run P w = .ok ps w := hm w
  simp only [Instr.build, hz, run_underlying hu, Sem.run_bind, Result.andThen_ok]
  rw [hm', Result.andThen_ok]
  rw [show (Value.agg c.toArray).cells = c.toArray from rfl, hf]
  rfl
theorem mapM_two {f g : Field} {m n : Nat} (h0 : f.offset = 0) (h1 : g.offset = m) (hs : ∀ w, (sizeOf f.type).run P w = .ok m w) (hs' : ∀ w, (sizeOf g.type).run P w = .ok n w) (w : World) :
    (Array.mapM (fun f => Prod.mk f.offset <$> sizeOf f.type) #[f, g] : Sem _).run P w = .ok #[(0, m), (m, n)] w := by
  simp [hs, hs', h0, h1]
section
variable {t : TypeId} {f g : Field} {m n : Nat} {za zb : List (BitVec 64)}
theorem run_two (h0 : f.offset = 0) (h1 : g.offset = m) (hs : ∀ w, (sizeOf f.type).run P w = .ok m w) (hs' : ∀ w, (sizeOf g.type).run P w = .ok n w) (hu : P.underlying t = some (.struct #[f, g]))
    (hz : ∀ w, (zeroValue t).run P w = .ok (.agg ((za ++ zb).map U64).toArray) w) (hza : za.length = m) (hzb : zb.length = n) {a b : List (BitVec 64)} (ha : a.length = m) (hb : b.length = n) (w : World) :
    (Instr.build t #[(0, .agg (a.map U64).toArray), (1, .agg (b.map U64).toArray)]).run P w = .ok (.agg ((a ++ b).map U64).toArray) w :=
  run_buildP (c := (za ++ zb).map U64) hz hu (mapM_two h0 h1 hs hs') [(0, .agg (a.map U64).toArray), (1, .agg (b.map U64).toArray)] (by
    rw [fill_one (off := 0) (size := m) (vs := a.map U64) rfl (by simp [ha]) (by simp; omega), lay_l (by omega), fill_one (off := m) (size := n) (vs := b.map U64) rfl (by simp [hb]) (by simp; omega), lay_r ha (by omega)]
    rfl) w
variable {G : Cls} {ro : Option Nat} {ops : Array Oper} {N : Nat} {ds : List Deferred} {fs : List Nat} {Z : Fr → Cls → Prop} {rest : List Oper} {F : Fr} {C : Cls} {d : Nat} {ty : TypeId} {pos : String} {af : Array Edge} {gd : Option (Nat × Bool)}
/-- What is known of a struct of two rows. -/
structure Two (P : Program) (t : TypeId) (f g : Field) (m n : Nat) (za zb : List (BitVec 64)) : Prop where
  u : P.underlying t = some (.struct #[f, g])
  h0 : f.offset = 0
  h1 : g.offset = m
  s0 : ∀ w, (sizeOf f.type).run P w = .ok m w
  s1 : ∀ w, (sizeOf g.type).run P w = .ok n w
  z : ∀ w, (zeroValue t).run P w = .ok (.agg ((za ++ zb).map U64).toArray) w
  la : za.length = m
  lb : zb.length = n
theorem lx_two (q : Two P t f g m n za zb) {x y : Operand} {a b : List (BitVec 64)} (hx : evF F x = some (.agg (a.map U64).toArray)) (hy : evF F y = some (.agg (b.map U64).toArray)) (ha : a.length = m) (hb : b.length = n)
    (hw : wantF ops F ⟨some d, .build t #[(0, x), (1, y)], ty, pos, af, gd⟩ = some true) (hd : Nat.blt d N = true)
    (h : Lx P G ro ops N ds (EE fs) Z rest ((d, .agg ((a ++ b).map U64).toArray) :: F) C) : Lx P G ro ops N ds (EE fs) Z (⟨some d, .build t #[(0, x), (1, y)], ty, pos, af, gd⟩ :: rest) F C :=
  lx_build (ps := [(0, x), (1, y)]) (vs := [.agg (a.map U64).toArray, .agg (b.map U64).toArray]) (by simp [evL, hx, hy]) (fun w => run_two q.h0 q.h1 q.s0 q.s1 q.u q.z q.la q.lb ha hb w) hw hd h
end
end
end Go.Proofs.YtlimfhjjadbjgaaDoor

namespace Go.Proofs.YtlimfhjjadbjgaaDoor
open Go.RowKit
set_option maxRecDepth 100000
/-! ### Rows of twelve -/
section
variable {P : Program} {G : Cls} {ro : Option Nat} {ops : Array Oper} {N : Nat} {ds : List Deferred} {fs : List Nat} {Z : Fr → Cls → Prop} {F : Fr} {C : Cls} {rest : List Oper}
variable {d : Nat} {ty : TypeId} {pos : String} {af : Array Edge} {gd : Option (Nat × Bool)}
end
end Go.Proofs.YtlimfhjjadbjgaaDoor

namespace Go.Proofs.YtlimfhjjadbjgaaDoor
open Go.RowKit
section
variable {P : Program} {G : Cls} {ro : Option Nat} {N : Nat} {ds : List Deferred} {F : Fr} {C : Cls} {K : KK} {B : Bs}
theorem x_join {x y : Code} {ι : Type} (Fm : ι → Fr) (Lm : ι → Hl) (hG : BOk G B)
    (h1 : X P G ro N ds x F C (Kseq (fun ds' F' C' => ds' = ds ∧ ∃ j L', C' = Hp B L' ∧ SubF F' (Fm j) ∧ SubB L' (Lm j)) K))
    (h2 : ∀ j, X P G ro N ds y (Fm j) (Hp B (Lm j)) K) : X P G ro N ds (.seq x y) F C K :=
  x_seq (h1.mono fun e ds' F' C' hk => by
    cases e with
    | normal =>
      obtain ⟨rfl, j, L', rfl, a, b⟩ := hk
      exact x_cut (Fm j) (Lm j) hG a b (h2 j)
    | _ => exact hk)
end
end Go.Proofs.YtlimfhjjadbjgaaDoor

namespace Go.Proofs.YtlimfhjjadbjgaaDoor
open Go.RowKit
set_option maxRecDepth 100000
/-- What an operation writes (0: nothing), what it looks at, for what it waits. -/
abbrev Trow := Nat × List Nat × List Nat
section
variable {l : List Oper} {E : Oper → Bool} {T : List Trow}
end
section
variable {P : Program} {G : Cls} {ro : Option Nat} {N : Nat} {ds : List Deferred} {F : Fr} {C : Cls} {K : KK}
end
end Go.Proofs.YtlimfhjjadbjgaaDoor

namespace Go.Proofs.YtlimfhjjadbjgaaDoor
open Go.RowKit
set_option maxRecDepth 100000
section
variable {P : Program}
/-! ### Read, written -/
/-! ### Built -/
section
variable {t : TypeId} {f g h : Field} {m : Nat} {za zb zc : List (BitVec 64)}
variable {G : Cls} {ro : Option Nat} {ops : Array Oper} {N : Nat} {ds : List Deferred} {fs : List Nat} {Z : Fr → Cls → Prop} {rest : List Oper} {F : Fr} {C : Cls} {d : Nat} {ty : TypeId} {pos : String} {af : Array Edge} {gd : Option (Nat × Bool)}
end
/-! ### Arrays of rows, compared -/
end
end Go.Proofs.YtlimfhjjadbjgaaDoor

namespace Go.Proofs.YtlimfhjjadbjgaaDoor
open Go.RowKit
set_option maxRecDepth 100000
section
variable {P : Program} {G : Cls} {ro : Option Nat} {ops : Array Oper} {N : Nat} {ds : List Deferred} {fs : List Nat} {Z : Fr → Cls → Prop} {F : Fr} {C : Cls} {rest : List Oper}
variable {d : Nat} {ty : TypeId} {pos : String} {af : Array Edge} {gd : Option (Nat × Bool)} {B : Bs} {L : Hl}
end
end Go.Proofs.YtlimfhjjadbjgaaDoor

namespace Go.Proofs.YtlimfhjjadbjgaaDoor
open Go.RowKit
set_option maxRecDepth 100000
section
variable {P : Program} {G : Cls} {ro : Option Nat} {ops : Array Oper} {N : Nat} {ds : List Deferred} {fs : List Nat} {Z : Fr → Cls → Prop} {F : Fr} {C : Cls} {rest : List Oper}
variable {d : Nat} {ty : TypeId} {pos : String} {af : Array Edge} {gd : Option (Nat × Bool)}
end
section
variable {P : Program} {G : Cls} {N : Nat} {ds : List Deferred} {F : Fr} {B : Bs} {L : Hl} {K : KK}
end
end Go.Proofs.YtlimfhjjadbjgaaDoor

namespace Go.Proofs.YtlimfhjjadbjgaaDoor
open Go.RowKit
set_option maxRecDepth 100000
/-! ### Rows of any width -/
def RW (s : Nat) (f : Nat → List (BitVec 64)) (n : Nat) : List (BitVec 64) := (List.range (s * n)).map fun m => (f (m / s)).getD (m % s) 0
section
variable {s : Nat}
theorem RW_len (f : Nat → List (BitVec 64)) (n : Nat) : (RW s f n).length = s * n := by rw [RW, List.length_map, List.length_range]
theorem RW_get (f : Nat → List (BitVec 64)) (n m : Nat) (h : m < s * n) : (RW s f n)[m]? = some ((f (m / s)).getD (m % s) 0) := by
  rw [RW, List.getElem?_map, List.getElem?_range h]; rfl
theorem row_in {k n j : Nat} (hk : k < n) (hj : j < s) : s * k + j < s * n := by
  have h1 : s * (k + 1) ≤ s * n := Nat.mul_le_mul_left s hk
  rw [Nat.mul_succ] at h1
  omega
theorem row_div {k j : Nat} (hj : j < s) : (s * k + j) / s = k := by
  rw [Nat.mul_add_div (by omega), Nat.div_eq_of_lt hj, Nat.add_zero]
theorem row_mod {k j : Nat} (hj : j < s) : (s * k + j) % s = j := by rw [Nat.mul_add_mod, Nat.mod_eq_of_lt hj]
theorem RW_load (f : Nat → List (BitVec 64)) (n k : Nat) (hk : k < n) (hf : (f k).length = s) (o : Nat) (ho : o = s * k) : ∀ j v, ((f k).map U64)[j]? = some v → ((RW s f n).map U64)[o + j]? = some v := fun j v hv => by
  have hj : j < s := by
    rcases Nat.lt_or_ge j s with h | h
    · exact h
    · rw [List.getElem?_eq_none (by rw [List.length_map, hf]; exact h)] at hv; cases hv
  rw [List.getElem?_map] at hv ⊢
  rw [ho, RW_get f n (s * k + j) (row_in hk hj), row_div hj, row_mod hj]
  rw [List.getElem?_eq_getElem (by omega)] at hv
  rw [← hv, List.getD_eq_getElem?_getD, List.getElem?_eq_getElem (by omega)]
  rfl
theorem RW_congr {f g : Nat → List (BitVec 64)} {n : Nat} (h : ∀ i, i < n → f i = g i) : RW s f n = RW s g n := by
  unfold RW
  refine List.map_congr_left fun m hm => ?_
  rw [List.mem_range] at hm
  rw [h (m / s) (Nat.div_lt_of_lt_mul hm)]
theorem RW_lay (f : Nat → List (BitVec 64)) (n k : Nat) (g : List (BitVec 64)) (hk : k < n) (hg : g.length = s) (o : Nat) (ho : o = s * k) : lay o (g.map U64) ((RW s f n).map U64) = (RW s (fun i => if i = k then g else f i) n).map U64 := by
  have hin : s * k + s ≤ s * n := by rw [← Nat.mul_succ]; exact Nat.mul_le_mul_left s hk
  apply List.ext_getElem?
  intro m
  rw [lay_get _ _ _ _ (by rw [List.length_map, List.length_map, RW_len, hg]; omega)]
  rw [List.length_map, hg, List.getElem?_map (l := RW s (fun i => if i = k then g else f i) n)]
  by_cases hm : m < s * n
  · rw [RW_get _ n m hm]
    by_cases h : o ≤ m ∧ m < o + s
    · have e : m = s * k + (m - o) := by omega
      have hj : m - o < s := by omega
      have e1 : m / s = k := by rw [e]; exact row_div hj
      have e2 : m % s = m - o := by
        have := row_mod (k := k) hj
        rw [← e] at this; exact this
      rw [if_pos h, e1, if_pos rfl, e2, List.getElem?_map, List.getElem?_eq_getElem (by omega), List.getD_eq_getElem?_getD, List.getElem?_eq_getElem (by omega)]
      rfl
    · have e1 : ¬ m / s = k := fun e => by
        have h0 : 0 < s := by
          rcases Nat.eq_zero_or_pos s with h0 | h0
          · subst h0; omega
          · exact h0
        have h1 := Nat.div_add_mod m s
        have h2 := Nat.mod_lt m h0
        rw [e] at h1
        omega
      rw [if_neg h, if_neg e1, List.getElem?_map, RW_get f n m hm]
  · rw [if_neg (by omega), List.getElem?_map, List.getElem?_eq_none (by rw [RW_len]; omega), List.getElem?_eq_none (by rw [RW_len]; omega)]
/-! ### Made -/
end
section
variable {P : Program} {G : Cls} {ro : Option Nat} {ops : Array Oper} {N : Nat} {ds : List Deferred} {fs : List Nat} {Z : Fr → Cls → Prop} {F : Fr} {C : Cls} {rest : List Oper}
variable {d : Nat} {ty : TypeId} {pos : String} {af : Array Edge} {gd : Option (Nat × Bool)} {s : Nat}
end
/-! ### Rows within rows -/
end Go.Proofs.YtlimfhjjadbjgaaDoor

namespace Go.Proofs.YtlimfhjjadbjgaaDoor
open Go.RowKit
set_option maxRecDepth 100000
def OwnW (L : Hl) (n : Nat) (e : TypeId) (s : Nat) (a0 : Option Addr) (cap nx : Nat) (xs : List Value) : Prop :=
  (a0 = none ∧ xs = [] ∧ nx = 0 ∧ cap = 0) ∨ ∃ b c, a0 = some ⟨b, 0, none⟩ ∧ lkB L n = some (b, c, e) ∧ c.length = cap * s ∧ nx ≤ cap ∧ xs.length = nx * s ∧ c.take xs.length = xs
theorem OwnW.len {L : Hl} {n : Nat} {e : TypeId} {s : Nat} {a0 : Option Addr} {cap nx : Nat} {xs : List Value} (h : OwnW L n e s a0 cap nx xs) : xs.length = nx * s := by
  rcases h with ⟨_, rfl, rfl, _⟩ | ⟨_, _, _, _, _, _, h, _⟩
  · simp
  · exact h
section
variable {P : Program} {G : Cls} {ro : Option Nat} {ops : Array Oper} {N : Nat} {ds : List Deferred} {fs : List Nat} {Z : Fr → Cls → Prop} {F : Fr} {C : Cls} {rest : List Oper}
variable {d : Nat} {ty : TypeId} {pos : String} {af : Array Edge} {gd : Option (Nat × Bool)} {B : Bs} {L : Hl}
end
end Go.Proofs.YtlimfhjjadbjgaaDoor

namespace Go.Proofs.YtlimfhjjadbjgaaDoor
open Go.RowKit
set_option maxRecDepth 100000
section
variable {P : Program} {G : Cls} {ro : Option Nat} {ops : Array Oper} {N : Nat} {ds : List Deferred} {fs : List Nat} {Z : Fr → Cls → Prop} {F : Fr} {C : Cls} {rest : List Oper}
variable {d : Nat} {ty : TypeId} {pos : String} {af : Array Edge} {gd : Option (Nat × Bool)}
variable {B : Bs} {L : Hl}
end
end Go.Proofs.YtlimfhjjadbjgaaDoor

namespace Go.Proofs.YtlimfhjjadbjgaaDoor
open Go.RowKit
set_option maxRecDepth 100000
section
variable {P : Program} {G : Cls} {ro : Option Nat} {ops : Array Oper} {N : Nat} {ds : List Deferred} {fs : List Nat} {Z : Fr → Cls → Prop} {F : Fr} {C : Cls} {rest : List Oper}
variable {d : Nat} {ty : TypeId} {pos : String} {af : Array Edge} {gd : Option (Nat × Bool)} {s : Nat}
variable {B : Bs} {L : Hl}
theorem zerosW (zr : List (BitVec 64)) (hz : zr.length = s) (n : Nat) : ((Array.range (n * s)).map ((Value.agg (zr.map U64).toArray).cells[· % (Value.agg (zr.map U64).toArray).cells.size]!)) = ((RW s (fun _ => zr) n).map U64).toArray := by
  have e : (Value.agg (zr.map U64).toArray).cells = (zr.map U64).toArray := rfl
  rw [e]
  apply Array.ext
  · simp [RW_len, Nat.mul_comm]
  · intro i h1 h2
    have hi : i < n * s := by simpa using h1
    have hs : 0 < s := by
      rcases Nat.eq_zero_or_pos s with h | h
      · subst h; simp at hi
      · exact h
    have hm : i % s < zr.length := by rw [hz]; exact Nat.mod_lt _ hs
    have hg : (RW s (fun _ => zr) n)[i]? = some (zr.getD (i % s) 0) := RW_get _ n i (by rw [Nat.mul_comm]; exact hi)
    have hg2 : ((RW s (fun _ => zr) n).map U64)[i]? = some (U64 (zr.getD (i % s) 0)) := by rw [List.getElem?_map, hg]; rfl
    have hr : ((RW s (fun _ => zr) n).map U64).toArray[i] = U64 (zr.getD (i % s) 0) := by
      have := List.getElem?_eq_some_iff.1 hg2
      obtain ⟨hl, he⟩ := this
      simpa using he
    rw [hr]
    have hl : ((zr.map U64).toArray)[i % s]! = U64 (zr.getD (i % s) 0) := by
      simp [hm]
    simp only [Array.getElem_map, Array.getElem_range]
    rw [show ((zr.map U64).toArray).size = s by simp [hz]]
    exact hl
/-- The place of a slice's value of several cells. -/
theorem lx_isW (k : Nat) {t e : TypeId} {len cap : Nat} {x ix : Operand} {b o : Nat} {i : Int} (hx : evF F x = some (.slice (some ⟨b, o, none⟩) len cap)) (hi : evF F ix = some (I i)) (hu : P.underlying t = some (.slice e))
    (hs : ∀ w, (sizeOf e).run P w = .ok s w) (hk : i = (k : Int)) (hb : k < len) (hw : wantF ops F ⟨some d, .indexAddr t x ix, ty, pos, af, gd⟩ = some true) (hd : Nat.blt d N = true)
    (h : Lx P G ro ops N ds (EE fs) Z rest ((d, .pointer (some ⟨b, o + s * k, none⟩)) :: F) C) : Lx P G ro ops N ds (EE fs) Z (⟨some d, .indexAddr t x ix, ty, pos, af, gd⟩ :: rest) F C :=
  lx_is hx hi hu hs (by omega) hw hd (by
    rw [show o + i.toNat * s = o + s * k from by rw [Nat.mul_comm s k, hk]; rfl]; exact h)
/-- A row of rows in memory. -/
theorem range_row {w : World} {b n k : Nat} {f : Nat → List (BitVec 64)} (h : w.rangeAt b 0 ((RW s f n).map U64)) (hk : k < n) (hf : (f k).length = s) : w.rangeAt b (0 + s * k) ((f k).map U64) := fun j v hv => by
  have := h (s * k + j) v (RW_load f n k hk hf (s * k) rfl j v hv)
  rw [Nat.zero_add] at this
  rw [Nat.zero_add]
  exact this
end
end Go.Proofs.YtlimfhjjadbjgaaDoor

namespace Go.Proofs.YtlimfhjjadbjgaaDoor
open Go.RowKit
set_option maxRecDepth 100000
section
variable {P : Program} {G : Cls} {ro : Option Nat} {ops : Array Oper} {N : Nat} {ds : List Deferred} {fs : List Nat} {Z : Fr → Cls → Prop} {F : Fr} {C : Cls} {rest : List Oper}
variable {d : Nat} {ty : TypeId} {pos : String} {af : Array Edge} {gd : Option (Nat × Bool)}
variable {B : Bs} {L : Hl}
end
end Go.Proofs.YtlimfhjjadbjgaaDoor

namespace Go.Proofs.YtlimfhjjadbjgaaDoor
open Go.RowKit
set_option maxRecDepth 100000
section
variable {P : Program} {F : Fr} {B : Bs} {L : Hl}
end
end Go.Proofs.YtlimfhjjadbjgaaDoor

namespace Go.Proofs.YtlimfhjjadbjgaaDoor
open Go.RowKit
set_option maxRecDepth 100000
section
variable {P : Program} {G : Cls} {ro : Option Nat} {ops : Array Oper} {N : Nat} {ds : List Deferred} {fs : List Nat} {Z : Fr → Cls → Prop} {F : Fr} {C : Cls} {rest : List Oper}
variable {d : Nat} {ty : TypeId} {pos : String} {af : Array Edge} {gd : Option (Nat × Bool)}
/-- A part of a slice, with three indices. -/
theorem lx_slsl3 {t e : TypeId} {sz : Nat} {x y z : Operand} {lo : Option Operand} {a0 : Option Addr} {len cap l h' m : Nat} (hx : evF F x = some (.slice a0 len cap)) (hu : P.underlying t = some (.slice e)) (hs : ∀ w, (sizeOf e).run P w = .ok sz w)
    (hl : (lo.map (evF F)).getD (some (I 0)) = some (I l)) (hh : evF F y = some (I h')) (hm : evF F z = some (I m)) (hb : l ≤ h' ∧ h' ≤ m ∧ m ≤ cap)
    (hw : wantF ops F ⟨some d, .slice t x lo (some y) (some z), ty, pos, af, gd⟩ = some true) (hd : Nat.blt d N = true)
    (h : Lx P G ro ops N ds (EE fs) Z rest ((d, .slice (if m = l then a0 else a0.map (·.add (l * sz))) (h' - l) (m - l)) :: F) C) : Lx P G ro ops N ds (EE fs) Z (⟨some d, .slice t x lo (some y) (some z), ty, pos, af, gd⟩ :: rest) F C :=
  lx_val (v := .slice (if m = l then a0 else a0.map (·.add (l * sz))) (h' - l) (m - l)) rfl hw hd (fun _ h => by cases h) (fun a w ha _ => by
    have hy := ha.ev hh
    have hz := ha.ev hm
    have hb1 := hb.1
    have hb2 := hb.2.1
    have hb3 := hb.2.2
    simp only [execOp, ha.ev hx]
    cases lo with
    | none =>
      simp at hl
      have hl0 : l = 0 := by omega
      subst hl0
      simp [Instr.sliceAt, Instr.slice, run_underlying hu, Instr.sliceBounds, Instr.sliceBound, asIntOf, hy, hz, hs, hb2, hb3]
    | some q =>
      have hq := ha.ev (x := q) (v := I l) (by simpa using hl)
      simp [Instr.sliceAt, Instr.slice, run_underlying hu, Instr.sliceBounds, Instr.sliceBound, asIntOf, hy, hz, hq, hs, hb1, hb2, hb3]) h
end
end Go.Proofs.YtlimfhjjadbjgaaDoor

namespace Go.Proofs.YtlimfhjjadbjgaaDoor
open Go.RowKit
set_option maxRecDepth 100000
section
variable {P : Program} {G : Cls} {ro : Option Nat} {ops : Array Oper} {N : Nat} {ds : List Deferred} {fs : List Nat} {Z : Fr → Cls → Prop} {F : Fr} {C : Cls} {rest : List Oper}
variable {d : Nat} {ty : TypeId} {pos : String} {af : Array Edge} {gd : Option (Nat × Bool)}
end
end Go.Proofs.YtlimfhjjadbjgaaDoor

namespace Go.Proofs.YtlimfhjjadbjgaaDoor
open Go.RowKit
theorem bin_shr8 {P : Program} {w : World} (t : TypeId) (n : Nat) : (binOp .shr t (I (n : Int)) (U64 8#64)).run P w = .ok (I ((n / 256 : Nat) : Int)) w := by
  have e : (n : Int).fdiv (2 ^ (min 8 64)) = ((n / 256 : Nat) : Int) := by
    rw [Int.fdiv_eq_ediv_of_nonneg _ (by decide)]
    rfl
  show (Op.shift .shr .i64 (n : Int) .u64 ((8 : Nat) : Int)).run P w = _
  unfold Op.shift
  rw [if_neg (by omega)]
  show Result.ok (Value.int .i64 ((n : Int).fdiv (2 ^ (min ((8 : Nat) : Int).toNat 64)))) w = _
  rw [Int.toNat_natCast, e]
theorem OwnSl.of {own L : Hl} {n : Nat} {e : TypeId} {a0 : Option Addr} {cap : Nat} {xs : List (BitVec 8)} (h : OwnSl own n e a0 cap xs) (hl : lkB L n = lkB own n) : OwnSl L n e a0 cap xs := by
  unfold OwnSl at *
  rw [hl]
  exact h
end Go.Proofs.YtlimfhjjadbjgaaDoor

namespace Go.Proofs.YtlimfhjjadbjgaaDoor
open Go.RowKit
section
variable {P : Program} {G : Cls} {ro : Option Nat} {ops : Array Oper} {N : Nat} {ds : List Deferred} {fs : List Nat} {Z : Fr → Cls → Prop} {F : Fr} {C : Cls} {rest : List Oper}
variable {ty : TypeId} {pos : String} {af : Array Edge} {gd : Option (Nat × Bool)}
theorem lx_callH {f : Nat} {al : List Operand} {at' : Array TypeId} {vs : List Value} {dst : Option Nat} {low : Nat} {Q : World → Value → Prop} (hf : fs.any (Nat.beq f) = true) (ha : evL F al = some vs) (he : Enters P f)
    (hw : wantF ops F ⟨dst, .call { callee := .value (.func f), args := al.toArray, argTypes := at' }, ty, pos, af, gd⟩ = some true) (hd : fitsD N dst = true) (hl : GLow G low) (hS : Good G C)
    (hp : ∀ w, C w → G w → Calls P f vs.toArray w (fun e w' => ∃ v, e = .returned v ∧ Grow w w' ∧ Q w' v))
    (h : ∀ w0 w1 v, C w0 → Grow w0 w1 → G w1 → Q w1 v → Lx P G ro ops N ds (EE fs) Z rest (putF dst v F) (Hp (pl w1) []))
    (hgr : fs.any (Nat.beq (f + 2000000)) = false := by rfl) :
    Lx P G ro ops N ds (EE fs) Z (⟨dst, .call { callee := .value (.func f), args := al.toArray, argTypes := at' }, ty, pos, af, gd⟩ :: rest) F C :=
  lx_callE hf ha he hw hd (fun w hC => (hp w hC (hS.2 w hC)).mono fun e w' ⟨v, he', hg, hq⟩ => by
    have hG1 : G w' := hl.grow (hS.2 w hC) hg
    exact ⟨v, Hp (pl w') [], he', good_hp (hl.plain hG1), hp_refl (pl w') trivial rides_true, h w w' v hC hg hG1 hq⟩) hgr
end
end Go.Proofs.YtlimfhjjadbjgaaDoor

namespace Go.Proofs.YtlimfhjjadbjgaaDoor
open Go.RowKit
set_option maxRecDepth 100000
theorem made8 (m : Nat) : (madeCells (Value.int .u8 0).cells m).toList = (List.replicate m 0#8).map U8 := by
  have hz : (Value.int .u8 0).cells = #[Value.int .u8 0] := rfl
  rw [hz, madeCells, List.map_replicate]
  refine List.ext_getElem (by simp) fun i h1 h2 => ?_
  simp [Nat.mod_one]
  rfl
theorem madeW {s : Nat} (zr : List (BitVec 64)) (hz : zr.length = s) (n : Nat) : (madeCells (Value.agg (zr.map U64).toArray).cells (n * s)).toList = (RW s (fun _ => zr) n).map U64 := by
  rw [madeCells, zerosW zr hz n]
section
variable {P : Program} {G : Cls} {ro : Option Nat} {ops : Array Oper} {N : Nat} {ds : List Deferred} {fs : List Nat} {Z : Fr → Cls → Prop} {F : Fr} {C : Cls} {rest : List Oper}
variable {d : Nat} {ty : TypeId} {pos : String} {af : Array Edge} {gd : Option (Nat × Bool)} {B : Bs} {L : Hl}
/-- A slice made, of noughts, with room behind it. -/
theorem lx_mkslC (n : Nat) {t e : TypeId} {x y : Operand} {l m : Nat} {z : Value} {sz by_ : Nat} {c : List Value} (hB : BOk G B) (hx : evF F x = some (I (l : Int))) (hy : evF F y = some (I (m : Int))) (hlm : l ≤ m) (hu : P.underlying t = some (.slice e)) (hi : TI P e z sz by_)
    (hm : m * sz ≤ 16777216 ∧ by_ * m ≤ 281474976710656 ∧ m ≤ 1000000) (hc : (madeCells z.cells (m * sz)).toList = c) (hw : wantF ops F ⟨some d, .makeSlice t x y, ty, pos, af, gd⟩ = some true) (hd : Nat.blt d N = true)
    (h : ∀ b, Lx P G ro ops N ds (EE fs) Z rest ((d, .slice (some ⟨b, 0, none⟩) l m) :: F) (Hp B ((n, b, c, e) :: L))) : Lx P G ro ops N ds (EE fs) Z (⟨some d, .makeSlice t x y, ty, pos, af, gd⟩ :: rest) F (Hp B L) :=
  lx_run rfl hw hd (fun _ h => by cases h) fun a w ha hC => by
    obtain ⟨i, hi, hz, rfl, rfl⟩ := hi
    have hr := run_makeSlice (P := P) (w := w) t e i z hu hi hz .i64 .i64 (l : Int) (m : Int) (by omega) (by omega) (by rw [Int.toNat_natCast]; exact hm.1) (by have := Int.ofNat_le.2 hm.2.1; rw [Int.natCast_mul] at this; exact this) (by omega)
    simp only [Int.toNat_natCast] at hr
    refine ⟨.slice (some ⟨w.heap.size, 0, none⟩) l m, w.alloc (.cells c.toArray e), _, .inl ?_, good_hp hB, hC.alloc hB.r n c e, h w.heap.size⟩
    subst hc
    simp only [execOp, ha.ev hx, ha.ev hy, I, Sem.run_bind, hr, Result.andThen_ok]
    simp
end
end Go.Proofs.YtlimfhjjadbjgaaDoor
