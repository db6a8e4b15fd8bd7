/-
  A struct whose one field fills it; an array of which only the first element is named. Nothing here names a program.
  Structs whose one field fills them, compared. Nothing here names a program.
  The engine, part 27: rows inside blocks; calls whose answer is known. Nothing here names a program.
  The engine, part 28: arrays of bytes compared; bools compared. Nothing here names a program.
  The engine, part 29: parts laid into what is built; rows of rows. Nothing here names a program.
  The engine, part 30: a plain region walked in two parts, the second as it suits. Nothing here names a program.
  The engine, part 31: a region that draws its order, by the tree of its orders where memory grows in several ways at once. Nothing here names a program.
  The engine, part 32: a slice of bytes made; a choice behind what was passed by. Nothing here names a program.
  The engine, part 33: reads of what no step of a region can turn; the base moved. Nothing here names a program.
  The engine, part 34: slices from a place on; slices as arrays. Nothing here names a program.
  The engine, part 35: structs of two rows: built, read, compared. Nothing here names a program.
  The engine, part 36: rows of rows of twelve. Nothing here names a program.
  The engine, part 37: two ways that meet again. Nothing here names a program.
  The engine, part 38: a large region that draws its order and makes nothing: its check by a table. Nothing here names a program.
  The engine, part 39: structs of three rows: built, read, written; arrays of rows compared. Nothing here names a program.
  The engine, part 40: arrays of rows of twelve, built of some; three results. Nothing here names a program.
  The engine, part 41: arrays of rows of twelve, made and read; rounds that carry a fact; a single value handed back. Nothing here names a program.
  The engine, part 42: rows of rows of any width; parts of rows within rows. Nothing here names a program.
  The engine, part 43: slices of values of several cells: a literal of one, append. Nothing here names a program.
  The engine, part 44: slices made, and bytes appended, where the class is only narrowed (marks 2999998 and 2999997).
  The engine, part 45: slice literals of values of several cells; the class is only narrowed.
  The engine, part 46: bytes made bytes again, beside other steps. Nothing here names a program.
  The engine, part 47: two variables handed back.
  Values held in interfaces, their methods called; parts of slices with three indices.
  The engine, part 49: a byte of a string. Nothing here names a program.
  The engine, part 50: numbers moved by eight; slices of bytes of our own wherever they are kept. Nothing here names a program.
  The engine, part 51: a call behind which all that lies in memory is old. Nothing here names a program.
  The engine, part 52: slices made with room, of any size. Nothing here names a program.
  The engine, part 53: what a callee has made is carried along. Nothing here names a program.
  The engine, part 54: a function that is handed on as a value, called. Nothing here names a program.
  The engine, part 55: one world behind another: what a call may turn, slices of our own told of a world alone. Nothing here names a program.
  The engine, part 56: places in slices of structs, wherever they lie.
  The engine, part 57: rows read wherever they lie.
  The engine, part 58: values of several cells appended to a slice of our own: from wherever, or noughts.
  The engine, part 59: a slice made, its room a word, beside reads in any order.
  The engine, part 60: a whole array as a slice, wherever it lies in a thing.
  The engine, part 61: one's own blocks told of a world alone: stores, copies, results.
  The engine, part 63: rows copied into a block of one's own.
  The engine, part 66: strings of bytes compared. Nothing here names a program.
  The engine, part 67: the tree of a region's orders where reads may come late: behind what turns other variables. Nothing here names a program.
-/
import Derived.Test.YtdkkipjcmflclaaDoorX2
import Derived.Laws.MakeOwn
import Derived.Deep.AppendSrc
import Derived.Laws.Strings
import Derived.ChangeArms
namespace Go.Proofs.YtdkkipjcmflclaaDoor
open Go.RowKit
set_option maxRecDepth 100000
section
variable {P : Program} {G : Cls} {ro : Option Nat} {ops : Array Oper} {N : Nat} {ds : List Deferred} {fs : List Nat} {Z : Fr → Cls → Prop} {rest : List Oper} {F : Fr} {C : Cls} {d : Nat} {ty : TypeId} {pos : String} {af : Array Edge} {gd : Option (Nat × Bool)}
end
end Go.Proofs.YtdkkipjcmflclaaDoor

namespace Go.Proofs.YtdkkipjcmflclaaDoor
open Go.RowKit
set_option maxRecDepth 100000
section
variable {P : Program}
theorem OwnB.range {w : World} {b : Nat} {c : List Value} {t : TypeId} (h : OwnB w b c t) : w.rangeAt b 0 c := by
  obtain ⟨fz, h, _⟩ := h
  intro j v hj
  simp [World.cell?, h, hj]
end
end Go.Proofs.YtdkkipjcmflclaaDoor

namespace Go.Proofs.YtdkkipjcmflclaaDoor
open Go.RowKit
set_option maxRecDepth 100000
section
variable {P : Program} {G : Cls} {ro : Option Nat} {ops : Array Oper} {N : Nat} {ds : List Deferred} {fs : List Nat} {Z : Fr → Cls → Prop} {F : Fr} {C : Cls} {rest : List Oper}
variable {d : Nat} {ty : TypeId} {pos : String} {af : Array Edge} {gd : Option (Nat × Bool)}
variable {B : Bs} {L : Hl}
theorem lx_binB {op : BinOp} {t yt : TypeId} {x y : Operand} {vx vy : Value} {b : Bool} (b' : Bool) (hx : evF F x = some vx) (hy : evF F y = some vy) (hg : ∀ w, (eqGuard op t x y vx vy).run P w = .ok () w)
    (hr : ∀ w, (binOp op t vx vy).run P w = .ok (.bool b) w) (hb : b = b') (hw : wantF ops F ⟨some d, .binOp op t x y yt, ty, pos, af, gd⟩ = some true) (hd : Nat.blt d N = true)
    (h : Lx P G ro ops N ds (EE fs) Z rest ((d, .bool b') :: F) C) : Lx P G ro ops N ds (EE fs) Z (⟨some d, .binOp op t x y yt, ty, pos, af, gd⟩ :: rest) F C :=
  lx_bin hx hy hg (hb ▸ hr) hw hd h
end
end Go.Proofs.YtdkkipjcmflclaaDoor

namespace Go.Proofs.YtdkkipjcmflclaaDoor
open Go.RowKit
set_option maxRecDepth 100000
section
variable {P : Program}
theorem bin_eql_bool (t : TypeId) (hu : P.underlying t = some .bool) (a b : Bool) (w : World) : (binOp .eql t (.bool a) (.bool b)).run P w = .ok (.bool (a == b)) w := by
  have h : ∀ d : Nat, (Op.equalIn (d + 1) t (.bool a) (.bool b)).run P w = .ok (a == b) w := fun d => by simp [Op.equalIn, run_underlying hu]
  simp only [binOp]
  simp [Op.equal, Op.maxDepth, h 9999]
end
end Go.Proofs.YtdkkipjcmflclaaDoor

namespace Go.Proofs.YtdkkipjcmflclaaDoor
open Go.RowKit
set_option maxRecDepth 100000
theorem fold_lay (o : Nat) : ∀ (vs : List Value) (k : Nat) (c : List Value), (vs.zipIdx k).foldl (fun (cs : Array Value) (p : Value × Nat) => cs.setIfInBounds (o + p.2) p.1) c.toArray = (lay (o + k) vs c).toArray
  | [], _, _ => rfl
  | v :: r, k, c => by
    have ih := fold_lay o r (k + 1) (c.set (o + k) v)
    rw [List.zipIdx_cons, List.foldl_cons, lay]
    simp only [List.setIfInBounds_toArray]
    rw [ih, Nat.add_assoc]
theorem fill_one {place : Nat → Option (Nat × Nat)} {i off size : Nat} {vs c : List Value} (hp : place i = some (off, size)) (hs : vs.length = size) (ho : off + vs.length ≤ c.length) (rest : List (Nat × Value)) :
    Instr.fill place c.toArray ((i, .agg vs.toArray) :: rest) = Instr.fill place (lay off vs c).toArray rest := by
  have h := fold_lay off vs 0 c
  have hn : ¬ ((decide ((Value.agg vs.toArray).cells.size ≠ size) || decide (off + (Value.agg vs.toArray).cells.size > c.toArray.size)) = true) := by
    simp [Value.cells, hs]; omega
  have e : (Value.agg vs.toArray).cells.zipIdx.foldl (fun (cs : Array Value) (p : Value × Nat) => cs.setIfInBounds (off + p.2) p.1) c.toArray = (lay off vs c).toArray := by
    rw [← Array.foldl_toList, Array.toList_zipIdx]
    exact h
  rw [Instr.fill, hp]
  show (if (decide ((Value.agg vs.toArray).cells.size ≠ size) || decide (off + (Value.agg vs.toArray).cells.size > c.toArray.size)) = true then none else _) = _
  rw [if_neg hn, ← e]
/-! ### Rows of six -/
section
variable {P : Program} {G : Cls} {ro : Option Nat} {ops : Array Oper} {N : Nat} {ds : List Deferred} {fs : List Nat} {Z : Fr → Cls → Prop} {F : Fr} {C : Cls} {rest : List Oper}
variable {d : Nat} {ty : TypeId} {pos : String} {af : Array Edge} {gd : Option (Nat × Bool)}
end
end Go.Proofs.YtdkkipjcmflclaaDoor

namespace Go.Proofs.YtdkkipjcmflclaaDoor
open Go.RowKit
set_option maxRecDepth 100000
section
variable {P : Program} {G : Cls} {ro : Option Nat} {ops : Array Oper} {N : Nat} {ds : List Deferred} {E : Oper → Bool} {Q : Exit → Act → World → Prop}
end
section
variable {P : Program} {G : Cls} {ro : Option Nat} {ops : Array Oper} {N : Nat} {ds : List Deferred} {fs : List Nat} {Z : Fr → Cls → Prop} {F : Fr} {C : Cls} {rest : List Oper}
variable {d : Nat} {ty : TypeId} {pos : String} {af : Array Edge} {gd : Option (Nat × Bool)}
end
section
variable {P : Program} {G : Cls} {ro : Option Nat} {N : Nat} {ds : List Deferred} {F : Fr} {C : Cls} {K : KK}
end
end Go.Proofs.YtdkkipjcmflclaaDoor

namespace Go.Proofs.YtdkkipjcmflclaaDoor
open Go.RowKit
set_option maxRecDepth 100000
section
variable {P : Program} {G : Cls} {ro : Option Nat} {N : Nat} {ds : List Deferred} {l : List Oper} {E : Oper → Bool} {K : KK} {F : Fr} {C : Cls}
def lst0 (l : List Oper) (σ : List Nat) : Array Bool := lstd σ (Array.replicate l.toArray.size false)
/-- What is left of the region, 'σ' being done. -/
def TR (P : Program) (G : Cls) (ro : Option Nat) (N : Nat) (ds : List Deferred) (l : List Oper) (E : Oper → Bool) (K : KK) (m : Nat) (σ : List Nat) (F : Fr) (C : Cls) : Prop :=
  Region.noSelect l.toArray = true → noDefer l.toArray = true → Closed .any l.toArray (lst0 l σ) → Good G C → ∀ a, Has N ds F a →
    TreeC P G ro .any l.toArray (fun e a' w' => ∃ ds' F' C', Good G C' ∧ Has N ds' F' a' ∧ C' w' ∧ K e ds' F' C') E m (lst0 l σ) a C
theorem lst0_app (σ τ : List Nat) : lst0 l (σ ++ τ) = lstd τ (lst0 l σ) := by unfold lst0 lstd; rw [List.foldl_append]
/-- Steps that may be taken first. -/
theorem tr_pre {m : Nat} {σ : List Nat} (τ : List Nat) (hok : okPre .any l.toArray E τ (lst0 l σ) = true) (h : Lx P G ro l.toArray N ds E (fun F' C' => TR P G ro N ds l E K m (σ ++ τ) F' C') (pickL τ l) F C) :
    TR P G ro N ds l E K (τ.length + m) σ F C := fun hsel hdef hc hS a ha => by
  rw [← pickL_eq] at h
  refine tree_pre (Z := fun F' C' => TR P G ro N ds l E K m (σ ++ τ) F' C') hsel hdef τ _ F C a hc hok ha hS (fun F' C' a' hc' ha' hS' hZ => ?_) h
  have hZ : TR P G ro N ds l E K m (σ ++ τ) F' C' := hZ
  rw [← lst0_app] at hc' ⊢
  exact hZ hsel hdef hc' hS' a' ha'
/-- Whichever of those that may turn memory comes next. -/
theorem tr_any {m : Nat} {σ : List Nat} (R : List Nat) (hR : Region.ready .any l.toArray (lst0 l σ) = R) (hE : R.all (fun i => (l.toArray[i]?).any E) = true) (hne : R ≠ [])
    (h : ∀ i ∈ R, Lx P G ro l.toArray N ds E (fun F' C' => TR P G ro N ds l E K m (σ ++ [i]) F' C') (pickL [i] l) F C) : TR P G ro N ds l E K (m + 1) σ F C := fun hsel hdef hc hS a ha => by
  refine ⟨fun h0 => absurd (hR.symm.trans h0) hne, fun i hi oi hoi => ?_⟩
  have hiR : i ∈ R := by rw [← hR]; exact hi
  have hEi : E oi = true := by have := List.all_eq_true.1 hE i hiR; rw [hoi] at this; exact this
  have hx := h i hiR
  rw [← pickL_eq] at hx
  have hl : [i].filterMap (l.toArray[·]?) = [oi] := by simp only [List.filterMap_cons, hoi, List.filterMap_nil]
  rw [hl] at hx
  unfold Lx at hx
  rw [hEi] at hx ⊢
  intro w hw
  obtain ⟨hwant, hwp⟩ := hx a w ha hw
  refine ⟨hwant, Oper.wpIn_mono (fun a' w' hk => ?_) hwp⟩
  obtain ⟨F', C', ha', hS', hw', hgr, hk⟩ := hk
  refine ⟨C', hS', hw', hgr, ?_⟩
  have hk : TR P G ro N ds l E K m (σ ++ [i]) F' C' := hk
  have hc' := hc.set hi
  have e : lst0 l (σ ++ [i]) = (lst0 l σ).setIfInBounds i true := lst0_app σ [i]
  rw [← e] at hc' ⊢
  exact hk hsel hdef hc' hS' a' ha'
theorem tr_nil {σ : List Nat} (hR : Region.ready .any l.toArray (lst0 l σ) = []) (h : K .normal ds F C) : TR P G ro N ds l E K 0 σ F C := fun _ _ _ hS _ ha => ⟨hR, fun _ hw => ⟨ds, F, C, hS, ha, hw, h⟩⟩
theorem x_tree {id : Nat} (E : Oper → Bool) (hm : P.follows .mixedOrders = true) (hsel : Region.noSelect l.toArray = true) (hdef : noDefer l.toArray = true) (h : TR P G ro N ds l E K l.length [] F C) : X P G ro N ds (.region id l.toArray true) F C K := fun hS a w ha hw => by
  refine wpIn_region_any hm ?_
  have hc : Closed .any l.toArray (lst0 l []) := fun j i _ hj => by
    rcases Nat.lt_or_ge j l.toArray.size with h' | h'
    · simp at h'; simp [lst0, lstd, h'] at hj
    · simp at h'; simp [lst0, lstd, h'] at hj
  exact wpAnyIn_of_tree _ _ _ C _ hS (hS.1 w _ hw ((Below.refl _ w).drew)) (h hsel hdef hc hS a ha)
theorem xs_tree {id : Nat} {y : Code} (E : Oper → Bool) (hm : P.follows .mixedOrders = true) (hsel : Region.noSelect l.toArray = true) (hdef : noDefer l.toArray = true) (h : TR P G ro N ds l E (Kseq (fun ds' F' C' => X P G ro N ds' y F' C' K) K) l.length [] F C) : X P G ro N ds (.seq (.region id l.toArray true) y) F C K :=
  x_seq (x_tree E hm hsel hdef h)
end
section
variable {P : Program} {G : Cls} {ro : Option Nat} {ops : Array Oper} {N : Nat} {ds : List Deferred} {fs : List Nat} {Z : Fr → Cls → Prop} {F : Fr} {rest : List Oper}
variable {d : Nat} {ty : TypeId} {pos : String} {af : Array Edge} {gd : Option (Nat × Bool)}
variable {B : Bs} {L : Hl}
/-- A new variable, zero: the class is narrowed. -/
theorem lx_allocG (n : Nat) {t : TypeId} {l : List Value} (hG : BOk G B) (hz : ∀ w, (zeroValue t).run P w = .ok (.agg l.toArray) w) (hn : lkB L n = none) (hw : wantF ops F ⟨some d, .alloc t, ty, pos, af, gd⟩ = some true) (hd : Nat.blt d N = true)
    (h : ∀ b, Lx P G ro ops N ds (EE fs) Z rest ((d, .pointer (some ⟨b, 0, none⟩)) :: F) (Hp B ((n, b, l, t) :: L))) : Lx P G ro ops N ds (EE fs) Z (⟨some d, .alloc t, ty, pos, af, gd⟩ :: rest) F (Hp B L) := by
  unfold Lx
  rw [show EE fs ⟨some d, .alloc t, ty, pos, af, gd⟩ = true from rfl]
  intro a w ha hC
  refine ⟨ha.want hw, fun f _ => fence_fn ro f, ?_⟩
  rw [show (FW ro).round = ro from rfl, Oper.semAt_eq _ _ _ (fun _ h => by cases h)]
  have e : (execOp a.eval ⟨some d, .alloc t, ty, pos, af, gd⟩).run P w = .ok (.value (.pointer (some ⟨w.heap.size, 0, none⟩))) (w.alloc (.cells l.toArray t)) := by
    simp only [execOp, Instr.alloc, Sem.run_bind, hz, Result.andThen_ok]
    rfl
  rw [e]
  exact ⟨_, Hp B ((n, w.heap.size, l, t) :: L), ha.putF (d := some d) hd _, good_hp hG, hC.alloc hG.r n l t, fun _ => hp_fresh hG.r hn, h w.heap.size⟩
end
end Go.Proofs.YtdkkipjcmflclaaDoor

namespace Go.Proofs.YtdkkipjcmflclaaDoor
open Go.RowKit
set_option maxRecDepth 100000
section
variable {P : Program} {G : Cls} {ro : Option Nat} {ops : Array Oper} {N : Nat} {ds : List Deferred} {fs : List Nat} {Z : Fr → Cls → Prop} {F : Fr} {C : Cls} {rest : List Oper}
variable {d : Nat} {ty : TypeId} {pos : String} {af : Array Edge} {gd : Option (Nat × Bool)}
variable {B : Bs} {L : Hl}
end
end Go.Proofs.YtdkkipjcmflclaaDoor

namespace Go.Proofs.YtdkkipjcmflclaaDoor
open Go.RowKit
set_option maxRecDepth 100000
section
variable {P : Program} {G : Cls} {ro : Option Nat} {md : Region.Mode} {ops : Array Oper} {N : Nat} {ds : List Deferred} {E : Oper → Bool} {Q : Exit → Act → World → Prop}
end
section
variable {P : Program} {G : Cls} {ro : Option Nat} {N : Nat} {ds : List Deferred} {l : List Oper} {E : Oper → Bool} {K : KK} {F : Fr} {C : Cls}
theorem Pure.sub {G' : Cls} {f : FuncId} {vs : List Value} {v : Value} (h : Pure P G f vs v) (hle : ∀ w, G' w → G w) : Pure P G' f vs v := fun w hw => h w (hle w hw)
end
end Go.Proofs.YtdkkipjcmflclaaDoor

namespace Go.Proofs.YtdkkipjcmflclaaDoor
open Go.RowKit
set_option maxRecDepth 100000
section
variable {P : Program} {G : Cls} {ro : Option Nat} {ops : Array Oper} {N : Nat} {ds : List Deferred} {fs : List Nat} {Z : Fr → Cls → Prop} {F : Fr} {C : Cls} {rest : List Oper}
variable {d : Nat} {ty : TypeId} {pos : String} {af : Array Edge} {gd : Option (Nat × Bool)}
theorem lx_s2a {t e : TypeId} {n m cap : Nat} {x : Operand} {ad : Option Addr} (hx : evF F x = some (.slice ad m cap)) (hu : P.underlying t = some (.array n e)) (hn : n ≤ m)
    (hw : wantF ops F ⟨some d, .sliceToArrayPointer t x, ty, pos, af, gd⟩ = some true) (hd : Nat.blt d N = true)
    (h : Lx P G ro ops N ds (EE fs) Z rest ((d, .pointer ad) :: F) C) : Lx P G ro ops N ds (EE fs) Z (⟨some d, .sliceToArrayPointer t x, ty, pos, af, gd⟩ :: rest) F C :=
  lx_val (v := .pointer ad) rfl hw hd (fun _ h => by cases h) (fun a w ha _ => by
    simp only [execOp, ha.ev hx]
    simp [Instr.arrayAt, run_underlying hu, Nat.not_lt.2 hn]) h
end
end Go.Proofs.YtdkkipjcmflclaaDoor

namespace Go.Proofs.YtdkkipjcmflclaaDoor
open Go.RowKit
set_option maxRecDepth 100000
section
variable {P : Program}
/-! ### Compared -/
/-! ### Read -/
/-! ### Built -/
theorem run_buildP {t : TypeId} {fields : Array Field} {ps : Array (Nat × Nat)} {c out : List Value} (hz : ∀ w, (zeroValue t).run P w = .ok (.agg c.toArray) w) (hu : P.underlying t = some (.struct fields))
    (hm : ∀ w, (Array.mapM (fun f => Prod.mk f.offset <$> sizeOf f.type) fields : Sem _).run P w = .ok ps w) (parts : List (Nat × Value)) (hf : Instr.fill (fun i => ps[i]?) c.toArray parts = some out.toArray) (w : World) :
    (Instr.build t parts.toArray).run P w = .ok (.agg out.toArray) w := by
  have hm' : (Array.mapM (fun f => do let x ← sizeOf f.type; pure (f.offset, x)) fields : Sem _).run P w = .ok ps w := hm w
  simp only [Instr.build, hz, run_underlying hu, Sem.run_bind, Result.andThen_ok]
  rw [hm', Result.andThen_ok]
  rw [show (Value.agg c.toArray).cells = c.toArray from rfl, hf]
  rfl
theorem mapM_two {f g : Field} {m n : Nat} (h0 : f.offset = 0) (h1 : g.offset = m) (hs : ∀ w, (sizeOf f.type).run P w = .ok m w) (hs' : ∀ w, (sizeOf g.type).run P w = .ok n w) (w : World) :
    (Array.mapM (fun f => Prod.mk f.offset <$> sizeOf f.type) #[f, g] : Sem _).run P w = .ok #[(0, m), (m, n)] w := by
  simp [hs, hs', h0, h1]
section
variable {t : TypeId} {f g : Field} {m n : Nat} {za zb : List (BitVec 64)}
variable {G : Cls} {ro : Option Nat} {ops : Array Oper} {N : Nat} {ds : List Deferred} {fs : List Nat} {Z : Fr → Cls → Prop} {rest : List Oper} {F : Fr} {C : Cls} {d : Nat} {ty : TypeId} {pos : String} {af : Array Edge} {gd : Option (Nat × Bool)}
/-- What is known of a struct of two rows. -/
structure Two (P : Program) (t : TypeId) (f g : Field) (m n : Nat) (za zb : List (BitVec 64)) : Prop where
  u : P.underlying t = some (.struct #[f, g])
  h0 : f.offset = 0
  h1 : g.offset = m
  s0 : ∀ w, (sizeOf f.type).run P w = .ok m w
  s1 : ∀ w, (sizeOf g.type).run P w = .ok n w
  z : ∀ w, (zeroValue t).run P w = .ok (.agg ((za ++ zb).map U64).toArray) w
  la : za.length = m
  lb : zb.length = n
end
end
end Go.Proofs.YtdkkipjcmflclaaDoor

namespace Go.Proofs.YtdkkipjcmflclaaDoor
open Go.RowKit
set_option maxRecDepth 100000
/-! ### Rows of twelve -/
section
variable {P : Program} {G : Cls} {ro : Option Nat} {ops : Array Oper} {N : Nat} {ds : List Deferred} {fs : List Nat} {Z : Fr → Cls → Prop} {F : Fr} {C : Cls} {rest : List Oper}
variable {d : Nat} {ty : TypeId} {pos : String} {af : Array Edge} {gd : Option (Nat × Bool)}
end
end Go.Proofs.YtdkkipjcmflclaaDoor

namespace Go.Proofs.YtdkkipjcmflclaaDoor
open Go.RowKit
section
variable {P : Program} {G : Cls} {ro : Option Nat} {N : Nat} {ds : List Deferred} {F : Fr} {C : Cls} {K : KK} {B : Bs}
theorem x_join {x y : Code} {ι : Type} (Fm : ι → Fr) (Lm : ι → Hl) (hG : BOk G B)
    (h1 : X P G ro N ds x F C (Kseq (fun ds' F' C' => ds' = ds ∧ ∃ j L', C' = Hp B L' ∧ SubF F' (Fm j) ∧ SubB L' (Lm j)) K))
    (h2 : ∀ j, X P G ro N ds y (Fm j) (Hp B (Lm j)) K) : X P G ro N ds (.seq x y) F C K :=
  x_seq (h1.mono fun e ds' F' C' hk => by
    cases e with
    | normal =>
      obtain ⟨rfl, j, L', rfl, a, b⟩ := hk
      exact x_cut (Fm j) (Lm j) hG a b (h2 j)
    | _ => exact hk)
end
end Go.Proofs.YtdkkipjcmflclaaDoor

namespace Go.Proofs.YtdkkipjcmflclaaDoor
open Go.RowKit
set_option maxRecDepth 100000
/-- What an operation writes (0: nothing), what it looks at, for what it waits. -/
abbrev Trow := Nat × List Nat × List Nat
section
variable {l : List Oper} {E : Oper → Bool} {T : List Trow}
end
section
variable {P : Program} {G : Cls} {ro : Option Nat} {N : Nat} {ds : List Deferred} {F : Fr} {C : Cls} {K : KK}
end
end Go.Proofs.YtdkkipjcmflclaaDoor

namespace Go.Proofs.YtdkkipjcmflclaaDoor
open Go.RowKit
set_option maxRecDepth 100000
section
variable {P : Program}
/-! ### Read, written -/
/-! ### Built -/
section
variable {t : TypeId} {f g h : Field} {m : Nat} {za zb zc : List (BitVec 64)}
variable {G : Cls} {ro : Option Nat} {ops : Array Oper} {N : Nat} {ds : List Deferred} {fs : List Nat} {Z : Fr → Cls → Prop} {rest : List Oper} {F : Fr} {C : Cls} {d : Nat} {ty : TypeId} {pos : String} {af : Array Edge} {gd : Option (Nat × Bool)}
end
/-! ### Arrays of rows, compared -/
end
end Go.Proofs.YtdkkipjcmflclaaDoor

namespace Go.Proofs.YtdkkipjcmflclaaDoor
open Go.RowKit
set_option maxRecDepth 100000
section
variable {P : Program} {G : Cls} {ro : Option Nat} {ops : Array Oper} {N : Nat} {ds : List Deferred} {fs : List Nat} {Z : Fr → Cls → Prop} {F : Fr} {C : Cls} {rest : List Oper}
variable {d : Nat} {ty : TypeId} {pos : String} {af : Array Edge} {gd : Option (Nat × Bool)} {B : Bs} {L : Hl}
end
end Go.Proofs.YtdkkipjcmflclaaDoor

namespace Go.Proofs.YtdkkipjcmflclaaDoor
open Go.RowKit
set_option maxRecDepth 100000
section
variable {P : Program} {G : Cls} {ro : Option Nat} {ops : Array Oper} {N : Nat} {ds : List Deferred} {fs : List Nat} {Z : Fr → Cls → Prop} {F : Fr} {C : Cls} {rest : List Oper}
variable {d : Nat} {ty : TypeId} {pos : String} {af : Array Edge} {gd : Option (Nat × Bool)}
end
section
variable {P : Program} {G : Cls} {N : Nat} {ds : List Deferred} {F : Fr} {B : Bs} {L : Hl} {K : KK}
end
end Go.Proofs.YtdkkipjcmflclaaDoor

namespace Go.Proofs.YtdkkipjcmflclaaDoor
open Go.RowKit
set_option maxRecDepth 100000
/-! ### Rows of any width -/
def RW {bw : Nat} (s : Nat) (f : Nat → List (BitVec bw)) (n : Nat) : List (BitVec bw) := (List.range (s * n)).map fun m => (f (m / s)).getD (m % s) 0
section
variable {s bw : Nat} {uf : BitVec bw → Value}
theorem RW_len (f : Nat → List (BitVec bw)) (n : Nat) : (RW s f n).length = s * n := by rw [RW, List.length_map, List.length_range]
theorem RW_get (f : Nat → List (BitVec bw)) (n m : Nat) (h : m < s * n) : (RW s f n)[m]? = some ((f (m / s)).getD (m % s) 0) := by
  rw [RW, List.getElem?_map, List.getElem?_range h]; rfl
theorem row_div {k j : Nat} (hj : j < s) : (s * k + j) / s = k := by
  rw [Nat.mul_add_div (by omega), Nat.div_eq_of_lt hj, Nat.add_zero]
theorem row_mod {k j : Nat} (hj : j < s) : (s * k + j) % s = j := by rw [Nat.mul_add_mod, Nat.mod_eq_of_lt hj]
theorem RW_congr {f g : Nat → List (BitVec bw)} {n : Nat} (h : ∀ i, i < n → f i = g i) : RW s f n = RW s g n := by
  unfold RW
  refine List.map_congr_left fun m hm => ?_
  rw [List.mem_range] at hm
  rw [h (m / s) (Nat.div_lt_of_lt_mul hm)]
theorem RW_lay (f : Nat → List (BitVec bw)) (n k : Nat) (g : List (BitVec bw)) (hk : k < n) (hg : g.length = s) (o : Nat) (ho : o = s * k) : lay o (g.map uf) ((RW s f n).map uf) = (RW s (fun i => if i = k then g else f i) n).map uf := by
  have hin : s * k + s ≤ s * n := by rw [← Nat.mul_succ]; exact Nat.mul_le_mul_left s hk
  apply List.ext_getElem?
  intro m
  rw [lay_get _ _ _ _ (by rw [List.length_map, List.length_map, RW_len, hg]; omega)]
  rw [List.length_map, hg, List.getElem?_map (l := RW s (fun i => if i = k then g else f i) n)]
  by_cases hm : m < s * n
  · rw [RW_get _ n m hm]
    by_cases h : o ≤ m ∧ m < o + s
    · have e : m = s * k + (m - o) := by omega
      have hj : m - o < s := by omega
      have e1 : m / s = k := by rw [e]; exact row_div hj
      have e2 : m % s = m - o := by
        have := row_mod (k := k) hj
        rw [← e] at this; exact this
      rw [if_pos h, e1, if_pos rfl, e2, List.getElem?_map, List.getElem?_eq_getElem (by omega), List.getD_eq_getElem?_getD, List.getElem?_eq_getElem (by omega)]
      rfl
    · have e1 : ¬ m / s = k := fun e => by
        have h0 : 0 < s := by
          rcases Nat.eq_zero_or_pos s with h0 | h0
          · subst h0; omega
          · exact h0
        have h1 := Nat.div_add_mod m s
        have h2 := Nat.mod_lt m h0
        rw [e] at h1
        omega
      rw [if_neg h, if_neg e1, List.getElem?_map, RW_get f n m hm]
  · rw [if_neg (by omega), List.getElem?_map, List.getElem?_eq_none (by rw [RW_len]; omega), List.getElem?_eq_none (by rw [RW_len]; omega)]
/-! ### Made -/
def updR (f : Nat → List (BitVec bw)) : List Nat → (Nat → List (BitVec bw)) → Nat → List (BitVec bw)
  | [], g => g
  | i :: r, g => updR f r (fun j => if j = i then f i else g j)
theorem updR_at (f : Nat → List (BitVec bw)) : ∀ (is : List Nat) (g : Nat → List (BitVec bw)) (j : Nat), j ∈ is ∨ g j = f j → updR f is g j = f j
  | [], _, _, h => h.elim (fun h => by cases h) id
  | i :: r, g, j, h => by
    refine updR_at f r _ j ?_
    by_cases hj : j = i
    · right; rw [if_pos hj, hj]
    · rcases h with h | h
      · left
        rcases List.mem_cons.1 h with h | h
        · exact absurd h hj
        · exact h
      · right; rw [if_neg hj, h]
theorem fillW (f : Nat → List (BitVec bw)) (n : Nat) (hf : ∀ i, i < n → (f i).length = s) : ∀ (is : List Nat) (g : Nat → List (BitVec bw)), (∀ i ∈ is, i < n) →
    Instr.fill (fun i => some (i * s, s)) ((RW s g n).map uf).toArray (is.map fun i => (i, .agg ((f i).map uf).toArray)) = some ((RW s (updR f is g) n).map uf).toArray
  | [], _, _ => rfl
  | i :: r, g, h => by
    have hi := h i (by simp)
    have hin : s * i + s ≤ s * n := by rw [← Nat.mul_succ]; exact Nat.mul_le_mul_left s hi
    rw [List.map_cons, fill_one (off := i * s) (size := s) (vs := (f i).map uf) rfl (by rw [List.length_map, hf i hi]) (by rw [List.length_map, List.length_map, RW_len, hf i hi, Nat.mul_comm i]; omega), RW_lay g n i (f i) hi (hf i hi) (i * s) (Nat.mul_comm _ _)]
    exact fillW f n hf r _ fun j hj => h j (by simp [hj])
end
section
variable {P : Program} {G : Cls} {ro : Option Nat} {ops : Array Oper} {N : Nat} {ds : List Deferred} {fs : List Nat} {Z : Fr → Cls → Prop} {F : Fr} {C : Cls} {rest : List Oper}
variable {d : Nat} {ty : TypeId} {pos : String} {af : Array Edge} {gd : Option (Nat × Bool)} {s bw : Nat} {uf : BitVec bw → Value}
end
/-! ### Rows within rows -/
end Go.Proofs.YtdkkipjcmflclaaDoor

namespace Go.Proofs.YtdkkipjcmflclaaDoor
open Go.RowKit
set_option maxRecDepth 100000
def OwnW (L : Hl) (n : Nat) (e : TypeId) (s : Nat) (a0 : Option Addr) (cap nx : Nat) (xs : List Value) : Prop :=
  (a0 = none ∧ xs = [] ∧ nx = 0 ∧ cap = 0) ∨ ∃ b c, a0 = some ⟨b, 0, none⟩ ∧ lkB L n = some (b, c, e) ∧ c.length = cap * s ∧ nx ≤ cap ∧ xs.length = nx * s ∧ c.take xs.length = xs
theorem ownW_nil (L : Hl) (n : Nat) (e : TypeId) (s : Nat) : OwnW L n e s none 0 0 [] := .inl ⟨rfl, rfl, rfl, rfl⟩
theorem OwnW.len {L : Hl} {n : Nat} {e : TypeId} {s : Nat} {a0 : Option Addr} {cap nx : Nat} {xs : List Value} (h : OwnW L n e s a0 cap nx xs) : xs.length = nx * s := by
  rcases h with ⟨_, rfl, rfl, _⟩ | ⟨_, _, _, _, _, _, h, _⟩
  · simp
  · exact h
section
variable {P : Program} {G : Cls} {ro : Option Nat} {ops : Array Oper} {N : Nat} {ds : List Deferred} {fs : List Nat} {Z : Fr → Cls → Prop} {F : Fr} {C : Cls} {rest : List Oper}
variable {d : Nat} {ty : TypeId} {pos : String} {af : Array Edge} {gd : Option (Nat × Bool)} {B : Bs} {L : Hl}
/-- Values appended to a slice of our own. -/
theorem lx_appendW (n : Nat) {t tx e e' : TypeId} {x y : Operand} {a0 : Option Addr} {s cap nx ny sb so sc by_ : Nat} {xs ys : List Value} {z : Value} (hB : BOk G B) (hx : evF F x = some (.slice a0 nx cap)) (hy : evF F y = some (.slice (some ⟨sb, so, none⟩) ny sc))
    (hu : P.underlying t = some (.slice e)) (hux : P.underlying tx = some (.slice e')) (hi : TI P e z s by_) (hz1 : z.cells.size = s) (hown : OwnW L n e s a0 cap nx xs) (hly : ys.length = ny * s) (hsrc : ∀ w, Hp B L w → w.rangeAt sb so ys) (hone : ys.all (·.oneCell') = true) (hne : 0 < ny) (hlen : (nx + ny) * by_ ≤ 140737488355328) (h63 : nx + ny ≤ 4611686018427387904)
    (hw : wantF ops F ⟨some d, .call { callee := .builtin .append, args := #[x, y], argTypes := #[t, tx] }, ty, pos, af, gd⟩ = some true) (hd : Nat.blt d N = true)
    (h : ∀ b c cap1, c.length = cap1 * s → nx + ny ≤ cap1 → c.take (xs ++ ys).length = xs ++ ys → Lx P G ro ops N ds (EE fs) Z rest ((d, .slice (some ⟨b, 0, none⟩) (nx + ny) cap1) :: F) (Hp B ((n, b, c, e) :: L)))
    (hgr : fs.any (Nat.beq 2999997) = false := by rfl) :
    Lx P G ro ops N ds (EE fs) Z (⟨some d, .call { callee := .builtin .append, args := #[x, y], argTypes := #[t, tx] }, ty, pos, af, gd⟩ :: rest) F (Hp B L) := by
  have hlx := hown.len
  obtain ⟨i, hi, hz, hsz, hby⟩ := hi
  refine lx_run (hgr := hgr) rfl hw hd (fun _ h => by cases h) fun a w ha hC => ?_
  have hs : Src P i.size tx (.slice (some ⟨sb, so, none⟩) ny sc) ny ys w := by
    rw [hsz]
    exact Src.ofSlice w hux ⟨sb, so, none⟩ ny sc ys hly (fun j u hu => by rw [Addr.add_mid]; exact hsrc w hC j u hu) (fun u hu => List.all_eq_true.1 hone u hu)
  have run : ∀ {v : Value} {w' : World}, (Builtin.append_ #[t, tx] ty #[.slice a0 nx cap, .slice (some ⟨sb, so, none⟩) ny sc]).run P w = .ok v w' →
      (execOp a.eval ⟨some d, .call { callee := .builtin .append, args := #[x, y], argTypes := #[t, tx] }, ty, pos, af, gd⟩).run P w = .ok (.value v) w' := fun {v w'} hr => by
    simp only [execOp, resolve, invoke, builtin, Sem.run_bind, Sem.run_pure, Result.andThen_ok, List.map_toArray, List.map_cons, List.map_nil, ha.ev hx, ha.ev hy, hr]
  have len1 : (xs ++ ys).length = (nx + ny) * s := by rw [List.length_append, hlx, hly, Nat.add_mul]
  rcases Nat.lt_or_ge cap (nx + ny) with hg | hroom
  · have hold : (Builtin.firstCells i.size nx (.slice a0 nx cap)).run P w.drew = .ok xs.toArray w.drew := by
      rcases hown with ⟨rfl, rfl, rfl, rfl⟩ | ⟨b, c, rfl, hl, hc, hle, _, ht⟩
      · exact run_firstCells_none _ _ _ _ _
      · refine run_firstCells_some _ _ _ _ _ _ _ (by rw [hsz]; exact hlx) (fun j v hv => ?_)
        rw [Addr.add_mid, Nat.zero_add]
        have hcj : c[j]? = some v := by
          have : (c.take xs.length)[j]? = some v := by rw [ht]; exact hv
          rw [List.getElem?_take] at this
          split at this
          · exact this
          · cases this
        exact hp_cell hl hcj w hC
    have hr := run_append_grow_src (P := P) w t tx ty e i z hu hi hz a0 nx cap xs hold (.slice (some ⟨sb, so, none⟩) ny sc) ny ys hs hg (by omega) (by rw [hby]; exact growslice_fits hg hlen)
    have hge := grownCap_ge w (nx + ny) cap e
    obtain ⟨cc, hcc⟩ : ∃ cc, xs ++ ys ++ (Builtin.zeroCells z.cells (grownCap w (nx + ny) cap e - (nx + ny))).toList = cc := ⟨_, rfl⟩
    have hcl : cc.length = grownCap w (nx + ny) cap e * s := by
      rw [← hcc, List.length_append, len1, Array.length_toList, size_zeroCells, hz1]
      obtain ⟨r, hr⟩ := Nat.exists_eq_add_of_le hge
      rw [hr, Nat.add_sub_cancel_left, Nat.add_mul (nx + ny)]
    have hct : cc.take (xs ++ ys).length = xs ++ ys := by rw [← hcc, List.take_append_of_le_length (by simp), List.take_of_length_le (by simp)]
    have harr : (xs ++ ys).toArray ++ Builtin.zeroCells z.cells (grownCap w (nx + ny) cap e - (nx + ny)) = cc.toArray := by
      rw [← hcc]
      apply Array.ext'
      simp
    rw [harr] at hr
    exact ⟨_, _, _, .inl (run hr), good_hp hB, (hC.grow hB.r ((Below.refl _ w).drew)).alloc hB.r n cc e, h w.heap.size cc _ hcl hge hct⟩
  · rcases hown with ⟨rfl, rfl, rfl, rfl⟩ | ⟨b, c, rfl, hl, hc, hle, _, ht⟩
    · exfalso; omega
    · have hb := (hC.own n b c e hl).1
      have hin : nx * s + ys.length ≤ c.length := by rw [hly, hc, ← Nat.add_mul]; exact Nat.mul_le_mul_right s hroom
      have hr := run_append_room_src (P := P) w t tx ty e i hu hi b 0 nx cap (.slice (some ⟨sb, so, none⟩) ny sc) ny ys hs hroom
        (fun j hj => by rw [hp_cell hl (List.getElem?_eq_getElem (by rw [hsz]; omega)) w hC]; rfl) (fun j hj => hb.frozen (by rw [hsz]; omega))
      rw [hsz, show 0 + nx * s = xs.length from by rw [hlx, Nat.zero_add]] at hr
      refine ⟨_, _, _, .inl (run hr), good_hp hB, Hq.lays hB.r ys hC hl xs.length, ?_⟩
      exact h b (lay xs.length ys c) cap (by rw [lay_length]; exact hc) hroom (by rw [List.length_append]; exact take_layV xs ys c (by rw [hlx]; exact hin) ht)
/-- A slice literal of one value of several cells. -/
theorem lx_bslW1 (n : Nat) (row : List Value) {t e : TypeId} {s : Nat} {z : Value} {x : Operand} (hB : BOk G B) (hx : evF F x = some (.agg row.toArray)) (hr : row.length = s) (h0 : 0 < s) (hl : s ≤ 16777216) (hu : P.underlying t = some (.slice e))
    (hs : ∀ w, (sizeOf e).run P w = .ok s w) (hz : ∀ w, (zeroValue e).run P w = .ok z w) (hw : wantF ops F ⟨some d, .buildSlice t 1 #[(0, x)], ty, pos, af, gd⟩ = some true) (hd : Nat.blt d N = true)
    (h : ∀ b, Lx P G ro ops N ds (EE fs) Z rest ((d, .slice (some ⟨b, 0, none⟩) 1 1) :: F) (Hp B ((n, b, row, e) :: L)))
    (hgr : fs.any (Nat.beq 2999998) = false := by rfl) : Lx P G ro ops N ds (EE fs) Z (⟨some d, .buildSlice t 1 #[(0, x)], ty, pos, af, gd⟩ :: rest) F (Hp B L) := by
  refine lx_run (hgr := hgr) rfl hw hd (fun _ h => by cases h) fun a w ha hC => ?_
  refine ⟨.slice (some ⟨w.heap.size, 0, none⟩) 1 1, w.alloc (.cells row.toArray e), _, .inl ?_, good_hp hB, hC.alloc hB.r n row e, h w.heap.size⟩
  have e1 : ((#[(0, x)] : Array (Nat × Operand)).map fun (i, x) => (i, a.eval x)) = #[(0, .agg row.toArray)] := by simp [ha.ev hx]
  have hf := fill_one (place := fun i => some (i * s, s)) (i := 0) (off := 0) (size := s) (vs := row) (c := ((Array.range (1 * s)).map (z.cells[· % z.cells.size]!)).toList) (by simp) hr (by simp [hr]) []
  rw [lay_all _ _ (by simp [hr]), Array.toArray_toList] at hf
  have hlt : ¬ (1 * s > 2 ^ 24) := by omega
  have h00 : ¬ (1 * s = 0) := by omega
  show ((do pure (.value (← Instr.buildSlice t 1 ((#[(0, x)] : Array (Nat × Operand)).map fun (i, x) => (i, a.eval x)))) : Sem Next)).run P w = _
  rw [e1]
  have hb : (Instr.buildSlice t 1 #[(0, .agg row.toArray)]).run P w = .ok (.slice (some ⟨w.heap.size, 0, none⟩) 1 1) (w.alloc (.cells row.toArray e)) := by
    simp only [Instr.buildSlice, Sem.run_bind, run_underlying hu, Result.andThen_ok, hs, if_neg hlt, if_neg h00, hz, Sem.run_pure, hf]
    simp [newRow, Instr.fill]
  simp only [Sem.run_bind, hb, Result.andThen_ok]; rfl
end
end Go.Proofs.YtdkkipjcmflclaaDoor

namespace Go.Proofs.YtdkkipjcmflclaaDoor
open Go.RowKit
set_option maxRecDepth 100000
section
variable {P : Program} {G : Cls} {ro : Option Nat} {ops : Array Oper} {N : Nat} {ds : List Deferred} {fs : List Nat} {Z : Fr → Cls → Prop} {F : Fr} {C : Cls} {rest : List Oper}
variable {d : Nat} {ty : TypeId} {pos : String} {af : Array Edge} {gd : Option (Nat × Bool)}
variable {B : Bs} {L : Hl}
theorem lx_runG {E : Oper → Bool} {o : Oper} (hE : E o = true) (hw : wantF ops F o = some true) (hd : fitsD N o.dst = true) (hnd : ∀ c, o.op ≠ .defer c)
    (h : ∀ a w, Has N ds F a → C w → ∃ v w' C', ((execOp a.eval o).run P w = .ok (.value v) w' ∨ ((execOp a.eval o).run P w = .ok .skip w' ∧ v = undef)) ∧ Good G C' ∧ C' w' ∧ (∀ w, C' w → C w) ∧ Lx P G ro ops N ds E Z rest (putF o.dst v F) C') :
    Lx P G ro ops N ds E Z (o :: rest) F C := by
  unfold Lx
  rw [hE]
  intro a w ha hC
  obtain ⟨v, w', C', hr, hS, hw', hn, hk⟩ := h a w ha hC
  refine ⟨ha.want hw, fun f _ => fence_fn ro f, ?_⟩
  rw [show (FW ro).round = ro from rfl, Oper.semAt_eq _ _ _ hnd]
  rcases hr with hr | ⟨hr, rfl⟩
  · rw [hr]; exact ⟨_, C', ha.putF hd v, hS, hw', fun _ => hn, hk⟩
  · rw [hr]; exact ⟨_, C', ha.putF hd _, hS, hw', fun _ => hn, hk⟩
end
end Go.Proofs.YtdkkipjcmflclaaDoor

namespace Go.Proofs.YtdkkipjcmflclaaDoor
open Go.RowKit
set_option maxRecDepth 100000
section
variable {P : Program} {G : Cls} {ro : Option Nat} {ops : Array Oper} {N : Nat} {ds : List Deferred} {fs : List Nat} {Z : Fr → Cls → Prop} {F : Fr} {C : Cls} {rest : List Oper}
variable {d : Nat} {ty : TypeId} {pos : String} {af : Array Edge} {gd : Option (Nat × Bool)} {s bw : Nat} {uf : BitVec bw → Value}
variable {B : Bs} {L : Hl}
theorem zerosW (zr : List (BitVec bw)) (hz : zr.length = s) (n : Nat) : ((Array.range (n * s)).map ((Value.agg (zr.map uf).toArray).cells[· % (Value.agg (zr.map uf).toArray).cells.size]!)) = ((RW s (fun _ => zr) n).map uf).toArray := by
  have e : (Value.agg (zr.map uf).toArray).cells = (zr.map uf).toArray := rfl
  rw [e]
  apply Array.ext
  · simp [RW_len, Nat.mul_comm]
  · intro i h1 h2
    have hi : i < n * s := by simpa using h1
    have hs : 0 < s := by
      rcases Nat.eq_zero_or_pos s with h | h
      · subst h; simp at hi
      · exact h
    have hm : i % s < zr.length := by rw [hz]; exact Nat.mod_lt _ hs
    have hg : (RW s (fun _ => zr) n)[i]? = some (zr.getD (i % s) 0) := RW_get _ n i (by rw [Nat.mul_comm]; exact hi)
    have hg2 : ((RW s (fun _ => zr) n).map uf)[i]? = some (uf (zr.getD (i % s) 0)) := by rw [List.getElem?_map, hg]; rfl
    have hr : ((RW s (fun _ => zr) n).map uf).toArray[i] = uf (zr.getD (i % s) 0) := by
      have := List.getElem?_eq_some_iff.1 hg2
      obtain ⟨hl, he⟩ := this
      simpa using he
    rw [hr]
    have hl : ((zr.map uf).toArray)[i % s]! = uf (zr.getD (i % s) 0) := by
      simp [hm]
    simp only [Array.getElem_map, Array.getElem_range]
    rw [show ((zr.map uf).toArray).size = s by simp [hz]]
    exact hl
/-- A slice literal of values of several cells. -/
theorem lx_bslWG (n : Nat) (f : Nat → List (BitVec bw)) (zr : List (BitVec bw)) {t e : TypeId} {len : Nat} {ps : List (Nat × Operand)} (hB : BOk G B) (hfr : lkB L n = none) (hx : evL F (ps.map (·.2)) = some ((List.range len).map fun i => .agg ((f i).map uf).toArray)) (hi : ps.map (·.1) = List.range len)
    (hf : ∀ i, i < len → (f i).length = s) (h0 : 0 < len * s) (hl : len * s ≤ 16777216) (hu : P.underlying t = some (.slice e)) (hs : ∀ w, (sizeOf e).run P w = .ok s w) (hzl : zr.length = s) (hz : ∀ w, (zeroValue e).run P w = .ok (.agg (zr.map uf).toArray) w)
    (hw : wantF ops F ⟨some d, .buildSlice t len ps.toArray, ty, pos, af, gd⟩ = some true) (hd : Nat.blt d N = true)
    (h : ∀ b, Lx P G ro ops N ds (EE fs) Z rest ((d, .slice (some ⟨b, 0, none⟩) len len) :: F) (Hp B ((n, b, (RW s f len).map uf, e) :: L))) : Lx P G ro ops N ds (EE fs) Z (⟨some d, .buildSlice t len ps.toArray, ty, pos, af, gd⟩ :: rest) F (Hp B L) := by
  refine lx_runG rfl hw hd (fun _ h => by cases h) fun a w ha hC => ?_
  refine ⟨.slice (some ⟨w.heap.size, 0, none⟩) len len, w.alloc (.cells ((RW s f len).map uf).toArray e), _, .inl ?_, good_hp hB, hC.alloc hB.r n _ e, hp_fresh hB.r hfr, h w.heap.size⟩
  have e1 : (ps.toArray.map fun (i, x) => (i, a.eval x)) = ((List.range len).map fun i => (i, Value.agg ((f i).map uf).toArray)).toArray := by
    have : ps.map (fun (p : Nat × Operand) => (p.1, a.eval p.2)) = (ps.map (·.1)).zip ((ps.map (·.2)).map a.eval) := by rw [List.map_map, List.zip_map']; rfl
    rw [List.map_toArray, this, hi, ha.evL hx]
    congr 1
    rw [List.zip_eq_zipWith, List.zipWith_map_right, List.zipWith_self]
  have hfl := fillW (s := s) (uf := uf) f len hf (List.range len) (fun _ => zr) (fun i hi => List.mem_range.1 hi)
  rw [RW_congr (g := f) (fun i hi => updR_at f (List.range len) _ i (.inl (List.mem_range.2 hi)))] at hfl
  have hlt : ¬ (len * s > 2 ^ 24) := by omega
  have h00 : ¬ (len * s = 0) := by omega
  show ((do pure (.value (← Instr.buildSlice t len (ps.toArray.map fun (i, x) => (i, a.eval x)))) : Sem Next)).run P w = _
  rw [e1]
  have hb : (Instr.buildSlice t len ((List.range len).map fun i => (i, Value.agg ((f i).map uf).toArray)).toArray).run P w = .ok (.slice (some ⟨w.heap.size, 0, none⟩) len len) (w.alloc (.cells ((RW s f len).map uf).toArray e)) := by
    simp only [Instr.buildSlice, Sem.run_bind, run_underlying hu, Result.andThen_ok, hs, if_neg hlt, if_neg h00, hz, Sem.run_pure, zerosW zr hzl len, hfl]
    simp [newRow]
  simp only [Sem.run_bind, hb, Result.andThen_ok]; rfl
end
end Go.Proofs.YtdkkipjcmflclaaDoor

namespace Go.Proofs.YtdkkipjcmflclaaDoor
open Go.RowKit
set_option maxRecDepth 100000
section
variable {P : Program} {G : Cls} {ro : Option Nat} {ops : Array Oper} {N : Nat} {ds : List Deferred} {fs : List Nat} {Z : Fr → Cls → Prop} {F : Fr} {C : Cls} {rest : List Oper}
variable {d : Nat} {ty : TypeId} {pos : String} {af : Array Edge} {gd : Option (Nat × Bool)}
variable {B : Bs} {L : Hl}
end
end Go.Proofs.YtdkkipjcmflclaaDoor

namespace Go.Proofs.YtdkkipjcmflclaaDoor
open Go.RowKit
set_option maxRecDepth 100000
section
variable {P : Program} {F : Fr} {B : Bs} {L : Hl}
end
end Go.Proofs.YtdkkipjcmflclaaDoor

namespace Go.Proofs.YtdkkipjcmflclaaDoor
open Go.RowKit
set_option maxRecDepth 100000
section
variable {P : Program} {G : Cls} {ro : Option Nat} {ops : Array Oper} {N : Nat} {ds : List Deferred} {fs : List Nat} {Z : Fr → Cls → Prop} {F : Fr} {C : Cls} {rest : List Oper}
variable {d : Nat} {ty : TypeId} {pos : String} {af : Array Edge} {gd : Option (Nat × Bool)}
/-- A part of a slice, with three indices. -/
theorem lx_slsl3 {t e : TypeId} {sz : Nat} {x y z : Operand} {lo : Option Operand} {a0 : Option Addr} {len cap l h' m : Nat} (hx : evF F x = some (.slice a0 len cap)) (hu : P.underlying t = some (.slice e)) (hs : ∀ w, (sizeOf e).run P w = .ok sz w)
    (hl : (lo.map (evF F)).getD (some (I 0)) = some (I l)) (hh : evF F y = some (I h')) (hm : evF F z = some (I m)) (hb : l ≤ h' ∧ h' ≤ m ∧ m ≤ cap)
    (hw : wantF ops F ⟨some d, .slice t x lo (some y) (some z), ty, pos, af, gd⟩ = some true) (hd : Nat.blt d N = true)
    (h : Lx P G ro ops N ds (EE fs) Z rest ((d, .slice (if m = l then a0 else a0.map (·.add (l * sz))) (h' - l) (m - l)) :: F) C) : Lx P G ro ops N ds (EE fs) Z (⟨some d, .slice t x lo (some y) (some z), ty, pos, af, gd⟩ :: rest) F C :=
  lx_val (v := .slice (if m = l then a0 else a0.map (·.add (l * sz))) (h' - l) (m - l)) rfl hw hd (fun _ h => by cases h) (fun a w ha _ => by
    have hy := ha.ev hh
    have hz := ha.ev hm
    have hb1 := hb.1
    have hb2 := hb.2.1
    have hb3 := hb.2.2
    simp only [execOp, ha.ev hx]
    cases lo with
    | none =>
      simp at hl
      have hl0 : l = 0 := by omega
      subst hl0
      simp [Instr.sliceAt, Instr.slice, run_underlying hu, Instr.sliceBounds, Instr.sliceBound, asIntOf, hy, hz, hs, hb2, hb3]
    | some q =>
      have hq := ha.ev (x := q) (v := I l) (by simpa using hl)
      simp [Instr.sliceAt, Instr.slice, run_underlying hu, Instr.sliceBounds, Instr.sliceBound, asIntOf, hy, hz, hq, hs, hb1, hb2, hb3]) h
end
end Go.Proofs.YtdkkipjcmflclaaDoor

namespace Go.Proofs.YtdkkipjcmflclaaDoor
open Go.RowKit
set_option maxRecDepth 100000
section
variable {P : Program} {G : Cls} {ro : Option Nat} {ops : Array Oper} {N : Nat} {ds : List Deferred} {fs : List Nat} {Z : Fr → Cls → Prop} {F : Fr} {C : Cls} {rest : List Oper}
variable {d : Nat} {ty : TypeId} {pos : String} {af : Array Edge} {gd : Option (Nat × Bool)}
theorem lx_idxs {t : TypeId} {x ix : Operand} {s : ByteArray} {k : IntKind} {i : Int} {n : BitVec 8} (hx : evF F x = some (.string s)) (hi : evF F ix = some (.int k i)) (hu : P.underlying t = some .string) (h0 : 0 ≤ i) (hv : s.data[i.toNat]? = some (UInt8.ofBitVec n))
    (hw : wantF ops F ⟨some d, .index t x ix, ty, pos, af, gd⟩ = some true) (hd : Nat.blt d N = true) (h : Lx P G ro ops N ds (EE fs) Z rest ((d, U8 n) :: F) C) : Lx P G ro ops N ds (EE fs) Z (⟨some d, .index t x ix, ty, pos, af, gd⟩ :: rest) F C :=
  lx_val (v := U8 n) rfl hw hd (fun _ h => by cases h) (fun a w ha _ => by
    have hlt : i.toNat < s.size := (Array.getElem?_eq_some_iff.1 hv).1
    have hg : s[i.toNat] = UInt8.ofBitVec n := (Array.getElem?_eq_some_iff.1 hv).2
    have hr := run_index_string (P := P) w t s k i hu
    rw [dif_pos ⟨h0, by omega⟩] at hr
    simp only [execOp, ha.ev hx, ha.ev hi, Sem.run_bind, hr, Result.andThen_ok, hg]
    rfl) h
end
end Go.Proofs.YtdkkipjcmflclaaDoor

namespace Go.Proofs.YtdkkipjcmflclaaDoor
open Go.RowKit
theorem OwnSl.of {own L : Hl} {n : Nat} {e : TypeId} {a0 : Option Addr} {cap : Nat} {xs : List (BitVec 8)} (h : OwnSl own n e a0 cap xs) (hl : lkB L n = lkB own n) : OwnSl L n e a0 cap xs := by
  unfold OwnSl at *
  rw [hl]
  exact h
end Go.Proofs.YtdkkipjcmflclaaDoor

namespace Go.Proofs.YtdkkipjcmflclaaDoor
open Go.RowKit
section
variable {P : Program} {G : Cls} {ro : Option Nat} {ops : Array Oper} {N : Nat} {ds : List Deferred} {fs : List Nat} {Z : Fr → Cls → Prop} {F : Fr} {C : Cls} {rest : List Oper}
variable {ty : TypeId} {pos : String} {af : Array Edge} {gd : Option (Nat × Bool)}
end
end Go.Proofs.YtdkkipjcmflclaaDoor

namespace Go.Proofs.YtdkkipjcmflclaaDoor
open Go.RowKit
set_option maxRecDepth 100000
theorem made8 (m : Nat) : (madeCells (Value.int .u8 0).cells m).toList = (List.replicate m 0#8).map U8 := by
  have hz : (Value.int .u8 0).cells = #[Value.int .u8 0] := rfl
  rw [hz, madeCells, List.map_replicate]
  refine List.ext_getElem (by simp) fun i h1 h2 => ?_
  simp [Nat.mod_one]
  rfl
section
variable {P : Program} {G : Cls} {ro : Option Nat} {ops : Array Oper} {N : Nat} {ds : List Deferred} {fs : List Nat} {Z : Fr → Cls → Prop} {F : Fr} {C : Cls} {rest : List Oper}
variable {d : Nat} {ty : TypeId} {pos : String} {af : Array Edge} {gd : Option (Nat × Bool)} {B : Bs} {L : Hl}
/-- A slice made, of noughts, with room behind it. -/
theorem lx_mkslC (n : Nat) {t e : TypeId} {x y : Operand} {l m : Nat} {z : Value} {sz by_ : Nat} {c : List Value} (hB : BOk G B) (hx : evF F x = some (I (l : Int))) (hy : evF F y = some (I (m : Int))) (hlm : l ≤ m) (hu : P.underlying t = some (.slice e)) (hi : TI P e z sz by_)
    (hm : m * sz ≤ 16777216 ∧ by_ * m ≤ 281474976710656 ∧ m ≤ 1000000) (hc : (madeCells z.cells (m * sz)).toList = c) (hw : wantF ops F ⟨some d, .makeSlice t x y, ty, pos, af, gd⟩ = some true) (hd : Nat.blt d N = true)
    (h : ∀ b, Lx P G ro ops N ds (EE fs) Z rest ((d, .slice (some ⟨b, 0, none⟩) l m) :: F) (Hp B ((n, b, c, e) :: L))) (hgr : fs.any (Nat.beq 2999995) = false := by rfl) : Lx P G ro ops N ds (EE fs) Z (⟨some d, .makeSlice t x y, ty, pos, af, gd⟩ :: rest) F (Hp B L) :=
  lx_run (hgr := hgr) rfl hw hd (fun _ h => by cases h) fun a w ha hC => by
    obtain ⟨i, hi, hz, rfl, rfl⟩ := hi
    have hr := run_makeSlice (P := P) (w := w) t e i z hu hi hz .i64 .i64 (l : Int) (m : Int) (by omega) (by omega) (by rw [Int.toNat_natCast]; exact hm.1) (by have := Int.ofNat_le.2 hm.2.1; rw [Int.natCast_mul] at this; exact this) (by omega)
    simp only [Int.toNat_natCast] at hr
    refine ⟨.slice (some ⟨w.heap.size, 0, none⟩) l m, w.alloc (.cells c.toArray e), _, .inl ?_, good_hp hB, hC.alloc hB.r n c e, h w.heap.size⟩
    subst hc
    simp only [execOp, ha.ev hx, ha.ev hy, I, Sem.run_bind, hr, Result.andThen_ok]
    simp
end
end Go.Proofs.YtdkkipjcmflclaaDoor

namespace Go.Proofs.YtdkkipjcmflclaaDoor
open Go.RowKit
section
variable {P : Program} {G : Cls} {B : Bs} {L : Hl} {Y : Nat → Prop} {w w' : World} {b : Nat} {cs : List Value}
theorem range_up {o : Nat} (h : w.rangeAt b o cs) (hg : Grow w w') : w'.rangeAt b o cs := fun j v hv => (hg.cell (block_lt_of_cell (h j v hv))).trans (h j v hv)
/-- The base, and that block b reads so. -/
def pj (B : Bs) (b : Nat) (cs : List Value) : Bs := ⟨B.w0, B.M, fun Y w => B.J Y w ∧ ¬ Y b ∧ b < w.heap.size ∧ w.rangeAt b 0 cs⟩
theorem rides_pj (hr : Rides B.J) : Rides (pj B b cs).J where
  grow := fun Y w w' h hg => ⟨hr.grow _ _ _ h.1 hg, h.2.1, Nat.lt_of_lt_of_le h.2.2.1 hg.size, range_up h.2.2.2 hg⟩
  new := fun Y w w' S h hg hS => ⟨hr.new _ _ _ S h.1 hg hS, fun e => e.elim (fun e => by have := (hS b e).1; have := h.2.2.1; omega) h.2.1, Nat.lt_of_lt_of_le h.2.2.1 hg.size, range_up h.2.2.2 hg⟩
  turn := fun Y w w' k hk h ht => ⟨hr.turn _ _ _ k hk h.1 ht, h.2.1, by rw [ht.size]; exact h.2.2.1, fun j v hv => by
    have e := World.cell?_of_block (w := w) (w' := w') (a := ⟨b, 0 + j, none⟩) (ht.other b (fun e => h.2.1 (e ▸ hk)))
    exact e.trans (h.2.2.2 j v hv)⟩
  less := fun Y Y' w hs h => ⟨hr.less _ _ _ hs h.1, fun e => h.2.1 (hs _ e), h.2.2⟩
theorem hq_of_pj (h : Hq (pj B b cs) L Y w) : Hq B L Y w := ⟨h.os, h.tape, h.output, h.size, h.keep, h.own, h.inj, h.apart, h.high, h.lt, h.rid.1⟩
theorem ok_pj (h : BOk G B) : BOk G (pj B b cs) := ⟨fun _ _ _ hq => h.g _ _ _ (hq_of_pj hq), rides_pj h.r⟩
theorem hq_pj (h : Hq B L Y w) (hr : Rides B.J) (hg : Grow w w') (hb : w.heap.size ≤ b) (hb' : b < w'.heap.size) (hc : w'.rangeAt b 0 cs) : Hq (pj B b cs) L Y w' := by
  have k := h.grow hr hg
  refine ⟨k.os, k.tape, k.output, k.size, k.keep, k.own, k.inj, k.apart, k.high, k.lt, k.rid, fun e => ?_, hb', hc⟩
  rcases e with e | e
  · have := h.ownlt e; omega
  · have := h.lt _ e; omega
theorem pj_at (h : Hq (pj B b cs) L Y w) : w.rangeAt b 0 cs := h.rid.2.2.2
theorem hbl (h : Hp B L w) (hM : ∀ k, ¬ B.M k := by exact fun _ h => h) : Grow B.w0 w := h.below hM
end
end Go.Proofs.YtdkkipjcmflclaaDoor

namespace Go.Proofs.YtdkkipjcmflclaaDoor
open Go.RowKit
set_option maxRecDepth 100000
section
variable {P : Program} {G : Cls} {ro : Option Nat} {ops : Array Oper} {N : Nat} {ds : List Deferred} {fs : List Nat} {Z : Fr → Cls → Prop} {F : Fr} {C : Cls} {rest : List Oper}
variable {d : Nat} {ty : TypeId} {pos : String} {af : Array Edge} {gd : Option (Nat × Bool)} {B : Bs} {L : Hl}
end
end Go.Proofs.YtdkkipjcmflclaaDoor

namespace Go.Proofs.YtdkkipjcmflclaaDoor
open Go.RowKit
set_option maxRecDepth 100000

/-- The world has grown; of what was there only blocks in M may have turned. -/
structure MM (M : Nat → Prop) (w w' : World) : Prop where
  os : w'.os = w.os
  tape : w'.tape = w.tape
  output : w'.output = w.output
  size : w.heap.size ≤ w'.heap.size
  keep : ∀ k, k < w.heap.size → ¬ M k → w'.heap[k]? = w.heap[k]?
theorem grow_mm {M : Nat → Prop} {w w' : World} (h : Grow w w') : MM M w w' := ⟨h.os, h.tape, h.output, h.size, fun k hk _ => h.block k hk⟩
theorem MM.grow {M : Nat → Prop} {w w' : World} (h : MM M w w') (hM : ∀ k, k < w.heap.size → ¬ M k) : Grow w w' := ⟨h.os, h.tape, h.output, h.size, fun k hk => h.keep k hk (hM k hk)⟩
theorem MM.mono {M M' : Nat → Prop} {w w' : World} (h : MM M w w') (hM : ∀ k, k < w.heap.size → M k → M' k) : MM M' w w' := ⟨h.os, h.tape, h.output, h.size, fun k hk hn => h.keep k hk fun hm => hn (hM k hk hm)⟩
theorem MM.trans {M : Nat → Prop} {a b c : World} (h : MM M a b) (k : MM M b c) : MM M a c :=
  ⟨k.os.trans h.os, k.tape.trans h.tape, k.output.trans h.output, Nat.le_trans h.size k.size, fun i hi hn => (k.keep i (Nat.lt_of_lt_of_le hi h.size) hn).trans (h.keep i hi hn)⟩
theorem MM.trans' {M M' : Nat → Prop} {a b c : World} (h : MM M a b) (k : MM M' b c) (hM : ∀ i, M' i → i < a.heap.size → M i) : MM M a c :=
  ⟨k.os.trans h.os, k.tape.trans h.tape, k.output.trans h.output, Nat.le_trans h.size k.size, fun i hi hn => (k.keep i (Nat.lt_of_lt_of_le hi h.size) fun hm => hn (hM i hm hi)).trans (h.keep i hi hn)⟩
/-- Behind growth from a world to which all of M is new: still growth. -/
theorem MM.grow0 {M : Nat → Prop} {w0 w w' : World} (h : MM M w w') (hg : Grow w0 w) (hM : ∀ k, M k → w0.heap.size ≤ k) : Grow w0 w' :=
  ((grow_mm hg).trans h).grow fun k hk hm => by have := hM k hm; omega
theorem hq_mm {w w' : World} {M : Nat → Prop} {L : Hl} {Y : Nat → Prop} (h : Hq (plM w M) L Y w') : MM M w w' := ⟨h.os, h.tape, h.output, h.size, h.keep⟩
theorem MM.own {M : Nat → Prop} {w w' : World} {b : Nat} {c : List Value} {t : TypeId} (h : MM M w w') (ho : OwnB w b c t) (hb : ¬ M b) : OwnB w' b c t := ho.of_same (h.keep b ho.lt hb)
theorem MM.bytes {M : Nat → Prop} {w w' : World} {a : Option Addr} {xs : List (BitVec 8)} (h : MM M w w') (hb : BytesAt w a xs) (ha : ∀ ad, a = some ad → ¬ M ad.block) : BytesAt w' a xs := fun j v hv => by
  obtain ⟨ad, e, hc⟩ := hb j v hv
  refine ⟨ad, e, ?_⟩
  have hl := block_lt_of_cell hc
  have e2 : (ad.add j).block = ad.block := block_add ad j
  rw [World.cell?_of_block (w := w) (h.keep _ hl (by rw [e2]; exact ha ad e))]
  exact hc
theorem MM.range {M : Nat → Prop} {w w' : World} {b o : Nat} {cs : List Value} (h : MM M w w') (hb : w.rangeAt b o cs) (ha : ¬ M b) : w'.rangeAt b o cs := fun j v hv => by
  have hc := hb j v hv
  rw [World.cell?_of_block (w := w) (h.keep b (block_lt_of_cell hc) ha)]
  exact hc
theorem MM.cells {M : Nat → Prop} {w w' : World} {a : Option Addr} {xs : List Value} (h : MM M w w') (hb : CellsAt w a xs) (ha : ∀ ad, a = some ad → ¬ M ad.block) : CellsAt w' a xs := fun j v hv => by
  obtain ⟨ad, e, hc⟩ := hb j v hv
  refine ⟨ad, e, ?_⟩
  have hl := block_lt_of_cell hc
  have e2 : (ad.add j).block = ad.block := block_add ad j
  rw [World.cell?_of_block (w := w) (h.keep _ hl (by rw [e2]; exact ha ad e))]
  exact hc
theorem OwnB.grow {w w' : World} {b : Nat} {c : List Value} {t : TypeId} (h : OwnB w b c t) (hg : Grow w w') : OwnB w' b c t := h.of_same (hg.block b h.lt)
theorem hp_one' {w : World} {M : Nat → Prop} {n b : Nat} {c : List Value} {t : TypeId} (h : OwnB w b c t) (hb : M b) : Hp (plM w M) [(n, b, c, t)] w := by
  have e : ∀ m x, lkB [(n, b, c, t)] m = some x → m = n ∧ x = (b, c, t) := fun m x hx => by
    simp only [lkB] at hx
    cases hb : Nat.beq n m with
    | true => rw [hb] at hx; simp at hx; exact ⟨(Nat.eq_of_beq_eq_true hb).symm, hx.symm⟩
    | false => rw [hb] at hx; simp at hx
  refine ⟨rfl, rfl, rfl, Nat.le_refl _, fun _ _ _ => rfl, fun m b' c' t' hx => ?_, fun m k b' c1 t1 c2 t2 h1 h2 => (e _ _ h1).1.trans (e _ _ h2).1.symm, fun _ h => h.elim, fun _ h => h.elim, fun _ h => h.elim, trivial⟩
  obtain ⟨_, h2⟩ := e _ _ hx
  cases h2
  exact ⟨h, .inr hb⟩
theorem ok_plM {G : Cls} {low : Nat} (hl : GLow G low) {w : World} (hw : G w) {M : Nat → Prop} (hM : ∀ m, M m → low ≤ m) : BOk G (plM w M) := (hl.from hw hM).ok rides_true

/-- A slice of cells of our own, or nil. -/
def SlV (e : TypeId) (w : World) (a : Option Addr) (cap : Nat) (xs : List Value) : Prop :=
  (a = none ∧ xs = [] ∧ cap = 0) ∨ ∃ b c, a = some ⟨b, 0, none⟩ ∧ OwnB w b c e ∧ c.length = cap ∧ xs.length ≤ cap ∧ c.take xs.length = xs
theorem SlV.cells {e : TypeId} {w : World} {a : Option Addr} {cap : Nat} {xs : List Value} (h : SlV e w a cap xs) : CellsAt w a xs := by
  rcases h with ⟨_, rfl, _⟩ | ⟨b, c, rfl, ho, _, _, ht⟩
  · exact cells_nil _ _
  · rw [← ht]; exact (CellsAt.range ho.range).take _
theorem SlV.bytes {e : TypeId} {w : World} {a : Option Addr} {cap : Nat} {xs : List (BitVec 8)} (h : SlV e w a cap (xs.map U8)) : BytesAt w a xs := h.cells
theorem SlV.grow {e : TypeId} {w w' : World} {a : Option Addr} {cap : Nat} {xs : List Value} (h : SlV e w a cap xs) (hg : Grow w w') : SlV e w' a cap xs := by
  rcases h with h | ⟨b, c, h1, h2, h3⟩
  · exact .inl h
  · exact .inr ⟨b, c, h1, h2.grow hg, h3⟩
theorem SlV.mm {M : Nat → Prop} {e : TypeId} {w w' : World} {a : Option Addr} {cap : Nat} {xs : List Value} (h : SlV e w a cap xs) (hm : MM M w w') (hb : ∀ ad, a = some ad → ¬ M ad.block) : SlV e w' a cap xs := by
  rcases h with h | ⟨b, c, h1, h2, h3⟩
  · exact .inl h
  · exact .inr ⟨b, c, h1, hm.own h2 (hb _ h1), h3⟩
theorem SlV.lt {e : TypeId} {w : World} {a : Option Addr} {cap : Nat} {xs : List Value} (h : SlV e w a cap xs) : ∀ ad, a = some ad → ad.block < w.heap.size := fun ad e => by
  rcases h with ⟨rfl, _⟩ | ⟨b, c, rfl, ho, _⟩
  · cases e
  · cases e; exact ho.lt
/-- Where a slice lies, new to a world. -/
def New (w : World) (a : Option Addr) : Prop := ∀ ad, a = some ad → w.heap.size ≤ ad.block
section
variable {P : Program} {G : Cls} {ro : Option Nat} {ops : Array Oper} {N : Nat} {ds : List Deferred} {fs : List Nat} {Z : Fr → Cls → Prop} {F : Fr} {C : Cls} {rest : List Oper}
variable {ty : TypeId} {pos : String} {af : Array Edge} {gd : Option (Nat × Bool)}
/-- A call behind which we stand in a world of which we know what we were told. -/
theorem lx_callW {f : Nat} {al : List Operand} {at' : Array TypeId} {vs : List Value} {dst : Option Nat} {low : Nat} {w0 : World} {M : Nat → Prop} {Q : World → World → Value → Prop} (hl : GLow G low) (hM : ∀ k, M k → low ≤ k) (hf : fs.any (Nat.beq f) = true) (ha : evL F al = some vs) (he : Enters P f)
    (hw : wantF ops F ⟨dst, .call { callee := .value (.func f), args := al.toArray, argTypes := at' }, ty, pos, af, gd⟩ = some true) (hd : fitsD N dst = true) (hB : BOk G (pl w0))
    (hp : ∀ w, Grow w0 w → G w → Calls P f vs.toArray w (fun e w' => ∃ v, e = .returned v ∧ MM M w w' ∧ Q w w' v))
    (h : ∀ w w' v, Grow w0 w → MM M w w' → G w' → Q w w' v → Lx P G ro ops N ds (EE fs) Z rest (putF dst v F) (Hp (pl w') []))
    (hgr : fs.any (Nat.beq (f + 2000000)) = false := by rfl) :
    Lx P G ro ops N ds (EE fs) Z (⟨dst, .call { callee := .value (.func f), args := al.toArray, argTypes := at' }, ty, pos, af, gd⟩ :: rest) F (Hp (pl w0) []) :=
  lx_callE hf ha he hw hd (fun w hC => by
    have g := hB.g _ _ _ hC
    refine (hp w (hp_below hC) g).mono fun e w' ⟨v, he', hm, hq⟩ => ?_
    have g' : G w' := hl.same w w' (fun k hk => hm.keep k (Nat.lt_of_lt_of_le hk (hl.size w g)) fun h => by have := hM k h; omega) g
    exact ⟨v, _, he', good_hp (hl.plain g'), hp_refl (pl w') trivial rides_true, h w w' v (hp_below hC) hm g' hq⟩) hgr
end
section
variable {P : Program} {G : Cls} {ro : Option Nat} {N : Nat} {ds : List Deferred} {F : Fr} {C : Cls} {K : KK}
theorem x_now0 {c : Code} {low : Nat} (hl : GLow G low) (h : ∀ w, C w → G w → X P G ro N ds c F (Hp (pl w) []) K) : X P G ro N ds c F C K := fun hG a w ha hw =>
  h w hw (hG.2 w hw) (good_hp (hl.plain (hG.2 w hw))) a w ha (hp_refl (pl w) trivial rides_true)
/-- A loop whose rounds go from world to world. -/
theorem x_forW {c : Code} {low : Nat} (hl : GLow G low) {ι : Type} (Fm : ι → Fr) (Wm : ι → World) (m : ι → Nat) (i0 : ι) {w0 : World} (hG : ∀ i, G (Wm i)) (hB : Wm i0 = w0) (hF : SubF F (Fm i0))
    (hr : ∀ i, X P G ro N ds c (Fm i) (Hp (pl (Wm i)) []) (Kseq (fun ds' F' C' => ds' = ds ∧ ∃ j, m j < m i ∧ C' = Hp (pl (Wm j)) [] ∧ SubF F' (Fm j)) K)) : X P G ro N ds (.loop c) F (Hp (pl w0) []) K :=
  x_forB Fm (fun i => pl (Wm i)) (fun _ => []) m i0 (fun i => hl.plain (hG i)) (by rw [hB]) hF trivial fun i => (hr i).mono fun e ds' F' C' hk => by
    cases e with
    | normal =>
      obtain ⟨h1, j, hj, h2, h3⟩ := hk
      exact ⟨h1, j, [], hj, h2, h3, trivial⟩
    | _ => exact hk
end
section
variable {P : Program}
theorem bin_ne_pn {t e : TypeId} (hu : P.underlying t = some (.pointer e)) (a : Option Addr) (w : World) : (binOp .neq t (.pointer a) (.pointer none)).run P w = .ok (.bool (!a.isNone)) w := by
  have h : ∀ d : Nat, (Op.equalIn (d + 1) t (.pointer a) (.pointer none)).run P w = .ok a.isNone w := fun d => by
    cases a <;> simp [Op.equalIn, run_underlying hu]
  simp only [binOp]
  simp [Op.equal, Op.maxDepth, h 9999]
end
section
variable {P : Program} {G : Cls} {ro : Option Nat} {ops : Array Oper} {N : Nat} {ds : List Deferred} {fs : List Nat} {Z : Fr → Cls → Prop} {F : Fr} {C : Cls} {rest : List Oper}
variable {d : Nat} {ty : TypeId} {pos : String} {af : Array Edge} {gd : Option (Nat × Bool)} {B : Bs} {L : Hl}
/-- Bytes appended to a slice of our own; whatever came of it is one. -/
theorem lx_appendS (n : Nat) {t tx e e' : TypeId} {x y : Operand} {a0 sa : Option Addr} {cap sc : Nat} {xs ys : List (BitVec 8)} (hB : BOk G B) (hx : evF F x = some (.slice a0 xs.length cap)) (hy : evF F y = some (.slice sa ys.length sc))
    (hu : P.underlying t = some (.slice e)) (hux : P.underlying tx = some (.slice e')) (hi : TI P e (.int .u8 0) 1 1) (hown : OwnSl L n e a0 cap xs) (hsrc : ∀ w, Hp B L w → BytesAt w sa ys) (hlen : xs.length + ys.length ≤ 70368744177664)
    (hw : wantF ops F ⟨some d, .call { callee := .builtin .append, args := #[x, y], argTypes := #[t, tx] }, ty, pos, af, gd⟩ = some true) (hd : Nat.blt d N = true)
    (h : ∀ a1 cap1 L1, OwnSl L1 n e a1 cap1 (xs ++ ys) → (∀ m, m ≠ n → lkB L1 m = lkB L m) → Lx P G ro ops N ds (EE fs) Z rest ((d, .slice a1 (xs ++ ys).length cap1) :: F) (Hp B L1))
    (hgr : fs.any (Nat.beq 2999997) = false := by rfl) :
    Lx P G ro ops N ds (EE fs) Z (⟨some d, .call { callee := .builtin .append, args := #[x, y], argTypes := #[t, tx] }, ty, pos, af, gd⟩ :: rest) F (Hp B L) := by
  refine lx_append n hB hx hy hu hux hi hown hsrc hlen hw hd (fun h0 => ?_) (fun b c cap1 e1 h1 h2 => ?_) hgr
  · have := h none 0 L (.inl ⟨rfl, h0, rfl⟩) (fun _ _ => rfl)
    rw [h0] at this
    exact this
  · exact h _ _ _ (.inr ⟨b, c, rfl, by simp [lkB], e1, h1, h2⟩) fun m hm => by
      have : Nat.beq n m = false := by
        cases hb : Nat.beq n m with
        | false => rfl
        | true => exact absurd (Nat.eq_of_beq_eq_true hb).symm hm
      simp [lkB, this]
theorem OwnSl.slv {Y : Nat → Prop} {w : World} {n : Nat} {e : TypeId} {a0 : Option Addr} {cap : Nat} {xs : List (BitVec 8)} (h : OwnSl L n e a0 cap xs) (hp : Hq B L Y w) : SlV e w a0 cap (xs.map U8) := by
  rcases h with ⟨rfl, rfl, rfl⟩ | ⟨b, c, rfl, hl, h1, h2, h3⟩
  · exact .inl ⟨rfl, rfl, rfl⟩
  · exact .inr ⟨b, c, rfl, (hp.own n b c e hl).1, h1, by simpa using h2, by simpa using h3⟩
theorem OwnSl.new {Y : Nat → Prop} {w0 w : World} {M : Nat → Prop} {n : Nat} {e : TypeId} {a0 : Option Addr} {cap : Nat} {xs : List (BitVec 8)} (h : OwnSl L n e a0 cap xs) (hp : Hq (plM w0 M) L Y w) : ∀ ad, a0 = some ad → w0.heap.size ≤ ad.block ∨ M ad.block := fun ad e => by
  rcases h with ⟨rfl, rfl, rfl⟩ | ⟨b, c, rfl, hl, h1, h2, h3⟩
  · cases e
  · cases e; exact (hp.own n b c _ hl).2
/-- The same of values of one cell each. -/
theorem OwnV.slv {Y : Nat → Prop} {w : World} {n : Nat} {e : TypeId} {a0 : Option Addr} {cap : Nat} {xs : List Value} (h : OwnV L n e a0 cap xs) (hp : Hq B L Y w) : SlV e w a0 cap xs := by
  rcases h with ⟨rfl, rfl, rfl⟩ | ⟨b, c, rfl, hl, h1, h2, h3⟩
  · exact .inl ⟨rfl, rfl, rfl⟩
  · exact .inr ⟨b, c, rfl, (hp.own n b c e hl).1, h1, h2, h3⟩
theorem OwnV.new {Y : Nat → Prop} {w0 w : World} {M : Nat → Prop} {n : Nat} {e : TypeId} {a0 : Option Addr} {cap : Nat} {xs : List Value} (h : OwnV L n e a0 cap xs) (hp : Hq (plM w0 M) L Y w) : ∀ ad, a0 = some ad → w0.heap.size ≤ ad.block ∨ M ad.block := fun ad e => by
  rcases h with ⟨rfl, rfl, rfl⟩ | ⟨b, c, rfl, hl, h1, h2, h3⟩
  · cases e
  · cases e; exact (hp.own n b c _ hl).2
/-- The builtin max, of two. -/
theorem lx_max {a1 a2 : TypeId} {x y : Operand} {i j z : Int} (hx : evF F x = some (I i)) (hy : evF F y = some (I j)) (hz : (if i < j then j else i) = z)
    (hw : wantF ops F ⟨some d, .call { callee := .builtin .max, args := #[x, y], argTypes := #[a1, a2] }, ty, pos, af, gd⟩ = some true) (hd : Nat.blt d N = true)
    (h : Lx P G ro ops N ds (EE fs) Z rest ((d, I z) :: F) C) : Lx P G ro ops N ds (EE fs) Z (⟨some d, .call { callee := .builtin .max, args := #[x, y], argTypes := #[a1, a2] }, ty, pos, af, gd⟩ :: rest) F C :=
  lx_val (v := I z) rfl hw hd (fun _ h => by cases h) (fun a w ha _ => by
    have := run_max_int2 (P := P) w #[a1, a2] ty .i64 .i64 i j
    rw [hz] at this
    simp only [execOp, resolve, invoke, builtin, Sem.run_bind, Sem.run_pure, Result.andThen_ok, List.map_toArray, List.map_cons, List.map_nil, ha.ev hx, ha.ev hy, I, this]) h
end
/-- The block of a slice. -/
def Of (a : Option Addr) (k : Nat) : Prop := ∃ ad, a = some ad ∧ k = ad.block
section
variable {P : Program} {G : Cls} {ro : Option Nat} {ops : Array Oper} {N : Nat} {ds : List Deferred} {fs : List Nat} {Z : Fr → Cls → Prop} {F : Fr} {C : Cls} {rest : List Oper}
variable {d : Nat} {ty : TypeId} {pos : String} {af : Array Edge} {gd : Option (Nat × Bool)}
/-- One step in one world; behind it we stand in one world. -/
theorem lx_one {o : Oper} {low : Nat} (hl : GLow G low) (hE : EE fs o = true) (hgr : EE fs (growOf o) = false) (hS : ∀ w, C w → G w) (Z' : World → Fr → Cls → Prop) (h : ∀ w, C w → G w → ∃ C1, C1 w ∧ Lx P G ro ops N ds (EE fs) (Z' w) [o] F C1)
    (h2 : ∀ w w' F' C', C w → G w' → C' w' → Z' w F' C' → Lx P G ro ops N ds (EE fs) Z rest F' (Hp (pl w') [])) : Lx P G ro ops N ds (EE fs) Z (o :: rest) F C := by
  unfold Lx
  rw [hE]
  intro a w ha hC
  obtain ⟨C1, h1, hx⟩ := h w hC (hS w hC)
  unfold Lx at hx
  rw [hE] at hx
  obtain ⟨hw, hp⟩ := hx a w ha h1
  refine ⟨hw, Oper.wpIn_mono (fun a' w' hk => ?_) hp⟩
  obtain ⟨F', C', ha', hg', hw', _, hz⟩ := hk
  have g' := hg'.2 w' hw'
  exact ⟨F', Hp (pl w') [], ha', good_hp (hl.plain g'), hp_refl (pl w') trivial rides_true, fun h => (by rw [hgr] at h; cases h), h2 w w' F' C' hC g' hw' hz⟩
/-- Bytes appended to a slice of our own. -/
theorem lx_app8 {low : Nat} (hl : GLow G low) {t tx e e' : TypeId} {x y : Operand} {a0 sa : Option Addr} {cap sc : Nat} {xs ys : List (BitVec 8)} (hS : ∀ w, C w → G w) (hx : evF F x = some (.slice a0 xs.length cap)) (hy : evF F y = some (.slice sa ys.length sc))
    (hu : P.underlying t = some (.slice e)) (hux : P.underlying tx = some (.slice e')) (hi : TI P e (.int .u8 0) 1 1) (hown : ∀ w, C w → SlV e w a0 cap (xs.map U8)) (hlow : ∀ k, Of a0 k → low ≤ k) (hsrc : ∀ w, C w → BytesAt w sa ys) (hne : ∀ w, C w → ys ≠ [] → ∀ ad, sa = some ad → ¬ Of a0 ad.block) (hlen : xs.length + ys.length ≤ 70368744177664)
    (hw : wantF ops F ⟨some d, .call { callee := .builtin .append, args := #[x, y], argTypes := #[t, tx] }, ty, pos, af, gd⟩ = some true) (hd : Nat.blt d N = true)
    (h : ∀ w w2 a1 cap1, C w → G w2 → MM (Of a0) w w2 → SlV e w2 a1 cap1 ((xs ++ ys).map U8) → (∀ k, Of a1 k → Of a0 k ∨ w.heap.size ≤ k) → Lx P G ro ops N ds (EE fs) Z rest ((d, .slice a1 (xs ++ ys).length cap1) :: F) (Hp (pl w2) []))
    (hgr : fs.any (Nat.beq 2999997) = false := by rfl) :
    Lx P G ro ops N ds (EE fs) Z (⟨some d, .call { callee := .builtin .append, args := #[x, y], argTypes := #[t, tx] }, ty, pos, af, gd⟩ :: rest) F C := by
  refine lx_one hl rfl hgr hS (fun w F' C' => ∃ a1 cap1 L1, OwnSl L1 0 e a1 cap1 (xs ++ ys) ∧ F' = (d, .slice a1 (xs ++ ys).length cap1) :: F ∧ C' = Hp (plM w (Of a0)) L1) (fun w hC hG => ?_) (fun w w' F' C' hC hG' hC' hz => ?_)
  · have hB : BOk G (plM w (Of a0)) := ok_plM hl hG hlow
    have src : ∀ L w', Hp (plM w (Of a0)) L w' → BytesAt w' sa ys := fun L w' h' => by
      by_cases h0 : ys = []
      · subst h0; exact bytes_nil _ _
      · exact (hq_mm h').bytes (hsrc w hC) (hne w hC h0)
    rcases hown w hC with ⟨rfl, hx0, rfl⟩ | ⟨b, c, rfl, ho, h1, h2, h3⟩
    · refine ⟨Hp (plM w (Of none)) [], hp_refl _ trivial rides_true, ?_⟩
      obtain rfl : xs = [] := by simpa using hx0
      exact lx_appendS 0 hB hx hy hu hux hi (ownSl_nil _ _ _) (src []) hlen hw hd (fun a1 cap1 L1 o1 _ => lx_nil ⟨a1, cap1, L1, o1, rfl, rfl⟩) hgr
    · refine ⟨Hp (plM w (Of (some ⟨b, 0, none⟩))) [(0, b, c, e)], hp_one' ho ⟨_, rfl, rfl⟩, ?_⟩
      exact lx_appendS 0 hB hx hy hu hux hi (.inr ⟨b, c, rfl, rfl, h1, by simpa using h2, by simpa using h3⟩) (src _) hlen hw hd (fun a1 cap1 L1 o1 _ => lx_nil ⟨a1, cap1, L1, o1, rfl, rfl⟩) hgr
  · obtain ⟨a1, cap1, L1, o1, rfl, rfl⟩ := hz
    exact h w w' a1 cap1 hC hG' (hq_mm hC') (o1.slv hC') (fun k ⟨ad, e, hk⟩ => by
      subst hk
      exact (o1.new hC' ad e).symm)
end
/-- A slice of values of s cells each of our own, or nil. -/
def SlW (e : TypeId) (s : Nat) (w : World) (a : Option Addr) (cap nx : Nat) (xs : List Value) : Prop :=
  (a = none ∧ xs = [] ∧ nx = 0 ∧ cap = 0) ∨ ∃ b c, a = some ⟨b, 0, none⟩ ∧ OwnB w b c e ∧ c.length = cap * s ∧ nx ≤ cap ∧ xs.length = nx * s ∧ c.take xs.length = xs
theorem SlW.grow {e : TypeId} {s : Nat} {w w' : World} {a : Option Addr} {cap nx : Nat} {xs : List Value} (h : SlW e s w a cap nx xs) (hg : Grow w w') : SlW e s w' a cap nx xs := by
  rcases h with h | ⟨b, c, h1, h2, h3⟩
  · exact .inl h
  · exact .inr ⟨b, c, h1, h2.grow hg, h3⟩
theorem SlW.mm {M : Nat → Prop} {e : TypeId} {s : Nat} {w w' : World} {a : Option Addr} {cap nx : Nat} {xs : List Value} (h : SlW e s w a cap nx xs) (hm : MM M w w') (hb : ∀ k, Of a k → ¬ M k) : SlW e s w' a cap nx xs := by
  rcases h with h | ⟨b, c, h1, h2, h3⟩
  · exact .inl h
  · exact .inr ⟨b, c, h1, hm.own h2 (hb _ ⟨_, h1, rfl⟩), h3⟩
theorem SlW.lt {e : TypeId} {s : Nat} {w : World} {a : Option Addr} {cap nx : Nat} {xs : List Value} (h : SlW e s w a cap nx xs) : ∀ k, Of a k → k < w.heap.size := fun k ⟨ad, e, hk⟩ => by
  rcases h with ⟨rfl, _⟩ | ⟨b, c, rfl, ho, _⟩
  · cases e
  · cases e; subst hk; exact ho.lt
theorem SlW.at {e : TypeId} {s : Nat} {w : World} {a : Option Addr} {cap nx : Nat} {xs : List Value} (h : SlW e s w a cap nx xs) (hx : xs ≠ []) : ∃ b, a = some ⟨b, 0, none⟩ ∧ w.rangeAt b 0 xs := by
  rcases h with ⟨_, h, _⟩ | ⟨b, c, h1, h2, _, _, _, h6⟩
  · exact absurd h hx
  · refine ⟨b, h1, fun j v hv => h2.range j v ?_⟩
    rw [← h6, List.getElem?_take] at hv
    split at hv
    · exact hv
    · cases hv
theorem SlV.at {e : TypeId} {w : World} {a : Option Addr} {cap : Nat} {xs : List Value} (h : SlV e w a cap xs) (hx : xs ≠ []) : ∃ b, a = some ⟨b, 0, none⟩ ∧ b < w.heap.size ∧ w.rangeAt b 0 xs := by
  rcases h with ⟨_, h, _⟩ | ⟨b, c, h1, h2, _, _, h6⟩
  · exact absurd h hx
  · refine ⟨b, h1, h2.lt, fun j v hv => h2.range j v ?_⟩
    rw [← h6, List.getElem?_take] at hv
    split at hv
    · exact hv
    · cases hv
theorem RW_succ {bw s : Nat} (f : Nat → List (BitVec bw)) (n : Nat) (hf : (f n).length = s) : RW s f (n + 1) = RW s f n ++ f n := by
  unfold RW
  rw [Nat.mul_succ, List.range_add, List.map_append, List.map_map]
  congr 1
  apply List.ext_getElem?
  intro i
  by_cases hi : i < s
  · rw [List.getElem?_map, List.getElem?_range hi]
    simp only [Option.map_some, Function.comp]
    rw [row_div hi, row_mod hi, List.getD_eq_getElem?_getD, List.getElem?_eq_getElem (by omega)]
    rfl
  · rw [List.getElem?_eq_none (by simp; omega), List.getElem?_eq_none (by omega)]
section
variable {P : Program} {G : Cls} {ro : Option Nat} {ops : Array Oper} {N : Nat} {ds : List Deferred} {fs : List Nat} {Z : Fr → Cls → Prop} {F : Fr} {C : Cls} {rest : List Oper}
variable {d : Nat} {ty : TypeId} {pos : String} {af : Array Edge} {gd : Option (Nat × Bool)}
/-- One value of several cells appended to a slice of our own. -/
theorem lx_appW {low : Nat} (hl : GLow G low) {t tx e e' : TypeId} {x y : Operand} {a0 : Option Addr} {s cap nx sb sc by_ : Nat} {xs ys : List Value} {z : Value} (hS : ∀ w, C w → G w) (hx : evF F x = some (.slice a0 nx cap)) (hy : evF F y = some (.slice (some ⟨sb, 0, none⟩) 1 sc))
    (hu : P.underlying t = some (.slice e)) (hux : P.underlying tx = some (.slice e')) (hi : TI P e z s by_) (hz1 : z.cells.size = s) (hown : ∀ w, C w → SlW e s w a0 cap nx xs) (hlow : ∀ k, Of a0 k → low ≤ k) (hly : ys.length = s) (hsrc : ∀ w, C w → w.rangeAt sb 0 ys) (hone : ys.all (·.oneCell') = true) (hne : ∀ w, C w → ¬ Of a0 sb) (hlen : (nx + 1) * by_ ≤ 140737488355328) (h63 : nx + 1 ≤ 4611686018427387904)
    (hw : wantF ops F ⟨some d, .call { callee := .builtin .append, args := #[x, y], argTypes := #[t, tx] }, ty, pos, af, gd⟩ = some true) (hd : Nat.blt d N = true)
    (h : ∀ w w2 a1 cap1, C w → G w2 → MM (Of a0) w w2 → SlW e s w2 a1 cap1 (nx + 1) (xs ++ ys) → (∀ k, Of a1 k → Of a0 k ∨ w.heap.size ≤ k) → Lx P G ro ops N ds (EE fs) Z rest ((d, .slice a1 (nx + 1) cap1) :: F) (Hp (pl w2) []))
    (hgr : fs.any (Nat.beq 2999997) = false := by rfl) :
    Lx P G ro ops N ds (EE fs) Z (⟨some d, .call { callee := .builtin .append, args := #[x, y], argTypes := #[t, tx] }, ty, pos, af, gd⟩ :: rest) F C := by
  refine lx_one hl rfl hgr hS (fun w F' C' => ∃ b c cap1 L1, lkB L1 0 = some (b, c, e) ∧ c.length = cap1 * s ∧ nx + 1 ≤ cap1 ∧ c.take (xs ++ ys).length = xs ++ ys ∧ xs.length = nx * s ∧ F' = (d, .slice (some ⟨b, 0, none⟩) (nx + 1) cap1) :: F ∧ C' = Hp (plM w (Of a0)) L1) (fun w hC hG => ?_) (fun w w' F' C' hC hG' hC' hz => ?_)
  · have hB : BOk G (plM w (Of a0)) := ok_plM hl hG hlow
    have src : ∀ L w', Hp (plM w (Of a0)) L w' → w'.rangeAt sb 0 ys := fun L w' h' => (hq_mm h').range (hsrc w hC) (hne w hC)
    rcases hown w hC with ⟨rfl, rfl, rfl, rfl⟩ | ⟨b, c, rfl, ho, h1, h2, h3, h4⟩
    · refine ⟨Hp (plM w (Of none)) [], hp_refl _ trivial rides_true, ?_⟩
      exact lx_appendW 0 hB hx hy hu hux hi hz1 (ownW_nil _ _ _ _) (by rw [Nat.one_mul]; exact hly) (src []) hone (by decide) hlen h63 hw hd (fun b c cap1 e1 e2 e3 => lx_nil ⟨b, c, cap1, _, rfl, e1, e2, e3, by simp, rfl, rfl⟩) hgr
    · refine ⟨Hp (plM w (Of (some ⟨b, 0, none⟩))) [(0, b, c, e)], hp_one' ho ⟨_, rfl, rfl⟩, ?_⟩
      exact lx_appendW 0 hB hx hy hu hux hi hz1 (.inr ⟨b, c, rfl, rfl, h1, h2, h3, h4⟩) (by rw [Nat.one_mul]; exact hly) (src _) hone (by decide) hlen h63 hw hd (fun b c cap1 e1 e2 e3 => lx_nil ⟨b, c, cap1, _, rfl, e1, e2, e3, h3, rfl, rfl⟩) hgr
  · obtain ⟨b, c, cap1, L1, hl1, e1, e2, e3, e4, rfl, rfl⟩ := hz
    have ho := hC'.own 0 b c e hl1
    refine h w w' _ cap1 hC hG' (hq_mm hC') (.inr ⟨b, c, rfl, ho.1, e1, e2, by rw [List.length_append, e4, hly, Nat.add_mul, Nat.one_mul], e3⟩) (fun k ⟨ad, e, hk⟩ => ?_)
    cases e
    subst hk
    exact ho.2.symm
end
end Go.Proofs.YtdkkipjcmflclaaDoor

namespace Go.Proofs.YtdkkipjcmflclaaDoor
open Go.RowKit
section
variable {P : Program} {G : Cls} {ro : Option Nat} {ops : Array Oper} {N : Nat} {ds : List Deferred} {fs : List Nat} {Z : Fr → Cls → Prop} {F : Fr} {C : Cls} {rest : List Oper}
variable {d : Nat} {ty : TypeId} {pos : String} {af : Array Edge} {gd : Option (Nat × Bool)}
/-- A place in a slice of values of several cells. -/
theorem lx_isAW (k s : Nat) {t e : TypeId} {len cap : Nat} {x ix : Operand} {ad : Addr} {i : Int} (hx : evF F x = some (.slice (some ad) len cap)) (hi : evF F ix = some (I i)) (hu : P.underlying t = some (.slice e))
    (hs : ∀ w, (sizeOf e).run P w = .ok s w) (hk : i = (k : Int)) (hb : k < len) (hw : wantF ops F ⟨some d, .indexAddr t x ix, ty, pos, af, gd⟩ = some true) (hd : Nat.blt d N = true)
    (h : Lx P G ro ops N ds (EE fs) Z rest ((d, .pointer (some (ad.add (k * s)))) :: F) C) : Lx P G ro ops N ds (EE fs) Z (⟨some d, .indexAddr t x ix, ty, pos, af, gd⟩ :: rest) F C :=
  lx_val (v := .pointer (some (ad.add (k * s)))) rfl hw hd (fun _ h => by cases h) (fun a w ha _ => by
    subst hk
    have h1 : ¬ len ≤ k := by omega
    simp only [execOp, ha.ev hx, ha.ev hi]
    simp [Instr.indexAt, asIntOf, run_underlying hu, hs, h1]) h
end
end Go.Proofs.YtdkkipjcmflclaaDoor

namespace Go.Proofs.YtdkkipjcmflclaaDoor
open Go.RowKit
section
variable {P : Program} {G : Cls} {ro : Option Nat} {ops : Array Oper} {N : Nat} {ds : List Deferred} {fs : List Nat} {Z : Fr → Cls → Prop} {F : Fr} {C : Cls} {rest : List Oper}
variable {d : Nat} {ty : TypeId} {pos : String} {af : Array Edge} {gd : Option (Nat × Bool)}
theorem lx_loadA {t : TypeId} {x : Operand} {ad : Addr} {n : Nat} {cs : List Value} (hx : evF F x = some (.pointer (some ad))) (hag : ∀ w, (isAgg t).run P w = .ok true w) (hs : ∀ w, (sizeOf t).run P w = .ok n w) (hn : cs.length = n)
    (hc : ∀ w, C w → ∀ j v, cs[j]? = some v → w.cell? (ad.add j) = some v) (hw : wantF ops F ⟨some d, .load t x, ty, pos, af, gd⟩ = some true) (hd : Nat.blt d N = true)
    (h : Lx P G ro ops N ds (EE fs) Z rest ((d, .agg cs.toArray) :: F) C) : Lx P G ro ops N ds (EE fs) Z (⟨some d, .load t x, ty, pos, af, gd⟩ :: rest) F C :=
  lx_val (v := .agg cs.toArray) rfl hw hd (fun _ h => by cases h) (fun a w ha hC => by
    have hl := run_loadCells_list (P := P) w ad cs (fun j v hv => hc w hC.1 j v hv)
    rw [hn] at hl
    simp only [execOp, ha.ev hx]
    simp [Instr.loadAt, Instr.sureAddr, loadVar, hag, hs, hl]) h
/-- A place in a slice of values of several cells, by an unsigned number. -/
theorem lx_isAWu (s : Nat) {t e : TypeId} {len cap : Nat} {x ix : Operand} {ad : Addr} {i : BitVec 64} (hx : evF F x = some (.slice (some ad) len cap)) (hi : evF F ix = some (U64 i)) (hu : P.underlying t = some (.slice e))
    (hs : ∀ w, (sizeOf e).run P w = .ok s w) (hb : i.toNat < len) (hw : wantF ops F ⟨some d, .indexAddr t x ix, ty, pos, af, gd⟩ = some true) (hd : Nat.blt d N = true)
    (h : Lx P G ro ops N ds (EE fs) Z rest ((d, .pointer (some (ad.add (i.toNat * s)))) :: F) C) : Lx P G ro ops N ds (EE fs) Z (⟨some d, .indexAddr t x ix, ty, pos, af, gd⟩ :: rest) F C :=
  lx_val (v := .pointer (some (ad.add (i.toNat * s)))) rfl hw hd (fun _ h => by cases h) (fun a w ha _ => by
    have h1 : ¬ len ≤ i.toNat := by omega
    simp only [execOp, ha.ev hx, ha.ev hi]
    simp [Instr.indexAt, asIntOf, U64, run_underlying hu, hs, h1]) h
end
end Go.Proofs.YtdkkipjcmflclaaDoor

namespace Go.Proofs.YtdkkipjcmflclaaDoor
open Go.RowKit
/-- What is appended, in both ways: where there is room, where there is none. -/
structure ASrc (P : Program) (t tx e : TypeId) (i : TypeInfo) (z v : Value) (n : Nat) (ys : List Value) (w : World) : Prop where
  room : ∀ (ty : TypeId) (b sLen sCap : Nat), sLen + n ≤ sCap → (∀ j, j < ys.length → (w.cell? ⟨b, 0 + sLen * i.size + j, none⟩).isSome = true) → (∀ j, j < ys.length → w.frozen? ⟨b, 0 + sLen * i.size + j, none⟩ = false) →
    (Builtin.append_ #[t, tx] ty #[.slice (some ⟨b, 0, none⟩) sLen sCap, v]).run P w = .ok (.slice (some ⟨b, 0, none⟩) (sLen + n) sCap) (w.setCells b (0 + sLen * i.size) ys)
  nil : n = 0 → ∀ ty : TypeId, (Builtin.append_ #[t, tx] ty #[.slice none 0 0, v]).run P w = .ok (.slice none 0 0) w
  grow : ∀ (ty : TypeId) (base : Option Addr) (sLen sCap : Nat) (olds : List Value), (Builtin.firstCells i.size sLen (.slice base sLen sCap)).run P w.drew = .ok olds.toArray w.drew → sCap < sLen + n → ((sLen + n : Nat) : Int) ≤ 9223372036854775807 → Builtin.nextslicecap (sLen + n) sCap * i.bytes ≤ 281474976710656 →
    (Builtin.append_ #[t, tx] ty #[.slice base sLen sCap, v]).run P w = .ok (.slice (some ⟨w.heap.size, 0, none⟩) (sLen + n) (grownCap w (sLen + n) sCap e)) (w.drew.alloc (.cells ((olds ++ ys).toArray ++ Builtin.zeroCells z.cells (grownCap w (sLen + n) sCap e - (sLen + n))) e))
  len : ys.length = n * i.size
  one : ∀ u ∈ ys, u.oneCell' = true
theorem ASrc.of {P : Program} {t tx e : TypeId} {i : TypeInfo} {z v : Value} {n : Nat} {ys : List Value} {w : World} (ht : P.underlying t = some (.slice e)) (hi : P.info? e = some i) (hz : i.zero = some z) (hs : Src P i.size tx v n ys w) : ASrc P t tx e i z v n ys w where
  room := fun ty b sLen sCap h hc hf => run_append_room_src w t tx ty e i ht hi b 0 sLen sCap v n ys hs h hc hf
  nil := fun h0 ty => by
    subst h0
    rcases hs.kind with ⟨e', hk⟩ | hk <;> simp [Builtin.append_, run_underlying ht, run_underlying hk, sizeOf, typeInfo, hi, hs.len, hs.cells]
  grow := fun ty base sLen sCap olds hold hg h63 hfit => run_append_grow_src w t tx ty e i z ht hi hz base sLen sCap olds hold v n ys hs hg h63 hfit
  len := hs.newsLen
  one := hs.one
theorem wrap_nat {n : Nat} (h : n ≤ 1000000) : IntKind.i64.wrap (n : Int) = n := wrap_i64 _ (by unfold inI; omega)
theorem hw0 : IntKind.i64.wrap (0 : Int) = 0 := wrap_i64 _ (by unfold inI; omega)
/-- Noughts. -/
theorem ASrc.zeros {P : Program} {t tx e : TypeId} {i : TypeInfo} {z : Value} {n : Nat} {w : World} {kn : IntKind} (ht : P.underlying t = some (.slice e)) (htx : P.underlying tx = some (.int kn)) (hi : P.info? e = some i) (hz : i.zero = some z) (hzs : z.cells.size = i.size) (hsp : 0 < i.size)
    (hz1 : ∀ u ∈ (Builtin.zeroCells z.cells n).toList, u.oneCell' = true) (hn : n ≤ 1000000) (hb : n * i.bytes ≤ 281474976710656) : ASrc P t tx e i z (I (n : Int)) n (Builtin.zeroCells z.cells n).toList w where
  room := fun ty b sLen sCap h hc hf => by
    have hw := wrap_nat hn
    have hneg : ¬ ((n : Int) < 0) := by omega
    have h48 : ¬ (281474976710656 < (n : Int) * (i.bytes : Int)) := by rw [← Int.natCast_mul]; omega
    have hst := run_storeCells_cells (P := P) b (0 + sLen * i.size) (Builtin.zeroCells z.cells n).toList 0 w (by simpa using hc) (by simpa using hf) hz1
    simp only [Nat.add_zero, Nat.zero_add] at hst
    by_cases h0 : n = 0
    · subst h0
      have he : Builtin.zeroCells z.cells 0 = #[] := by simp [Builtin.zeroCells]
      have h' : sLen ≤ sCap := by omega
      rw [he] at hst ⊢
      simp [Builtin.append_, run_underlying ht, run_underlying htx, sizeOf, typeInfo, hi, asInt, asIntOf, I, hw0, h', Addr.add_lit] at hst ⊢
      rw [hst]; rfl
    · have hns : ¬ n * i.size = 0 := by rw [Nat.mul_eq_zero]; omega
      simp [Builtin.append_, run_underlying ht, run_underlying htx, sizeOf, typeInfo, zeroValue, hi, hz, asInt, asIntOf, I, hw, hneg, h48, h, hns, Addr.add_lit, hst]
  nil := fun h0 ty => by
    subst h0
    simp [Builtin.append_, run_underlying ht, run_underlying htx, sizeOf, typeInfo, hi, asInt, asIntOf, I, hw0]
  grow := fun ty base sLen sCap olds hold hg h63 hfit => by
    have hw := wrap_nat hn
    have hneg : ¬ ((n : Int) < 0) := by omega
    have h48 : ¬ (281474976710656 < (n : Int) * (i.bytes : Int)) := by rw [← Int.natCast_mul]; omega
    have hnr : ¬ (sLen + n ≤ sCap) := by omega
    have h63' : ¬ (9223372036854775807 < ((sLen : Int) + (n : Int))) := by omega
    have h48' : ¬ (281474976710656 < Builtin.nextslicecap (sLen + n) sCap * i.bytes) := by omega
    by_cases h0 : n = 0
    · subst h0
      have he : Builtin.zeroCells z.cells 0 = #[] := by simp [Builtin.zeroCells]
      have hnr' : ¬ (sLen ≤ sCap) := by omega
      have h63n : ¬ (9223372036854775807 < (sLen : Int)) := by omega
      rw [Nat.add_zero] at h48' ⊢
      simp [Builtin.append_, run_underlying ht, run_underlying htx, sizeOf, typeInfo, zeroValue, hi, hz, asInt, asIntOf, I, hw0, hnr', h63n, h48', Question.forced, hold, newRow, grownCap, he]
    · have hns : ¬ n * i.size = 0 := by rw [Nat.mul_eq_zero]; omega
      simp [Builtin.append_, run_underlying ht, run_underlying htx, sizeOf, typeInfo, zeroValue, hi, hz, asInt, asIntOf, I, hw, hneg, h48, hnr, h63', h48', hns, Question.forced, hold, newRow, grownCap]
      congr 2
      apply Array.ext'
      simp [List.append_assoc]
  len := by rw [Array.length_toList, size_zeroCells, hzs]
  one := hz1
section
variable {P : Program} {G : Cls} {ro : Option Nat} {ops : Array Oper} {N : Nat} {ds : List Deferred} {fs : List Nat} {Z : Fr → Cls → Prop} {F : Fr} {C : Cls} {rest : List Oper}
variable {d : Nat} {ty : TypeId} {pos : String} {af : Array Edge} {gd : Option (Nat × Bool)}
end
end Go.Proofs.YtdkkipjcmflclaaDoor

namespace Go.Proofs.YtdkkipjcmflclaaDoor
open Go.RowKit
section
variable {P : Program} {G : Cls} {ro : Option Nat} {ops : Array Oper} {N : Nat} {ds : List Deferred} {fs : List Nat} {Z : Fr → Cls → Prop} {F : Fr} {rest : List Oper}
variable {d : Nat} {ty : TypeId} {pos : String} {af : Array Edge} {gd : Option (Nat × Bool)} {B : Bs} {L : Hl}
theorem lx_mkslG (n : Nat) {t e : TypeId} {x y : Operand} {l m : Nat} {q : BitVec 64} {z : Value} {sz by_ : Nat} {c : List Value} (hB : BOk G B) (hfr : lkB L n = none) (hx : evF F x = some (I (l : Int))) (hy : evF F y = some (U64 q)) (hq : q.toNat = m) (hlm : l ≤ m) (hu : P.underlying t = some (.slice e)) (hi : TI P e z sz by_)
    (hm : m * sz ≤ 16777216 ∧ by_ * m ≤ 281474976710656 ∧ m ≤ 1000000) (hc : (madeCells z.cells (m * sz)).toList = c) (hw : wantF ops F ⟨some d, .makeSlice t x y, ty, pos, af, gd⟩ = some true) (hd : Nat.blt d N = true)
    (h : ∀ b, Lx P G ro ops N ds (EE fs) Z rest ((d, .slice (some ⟨b, 0, none⟩) l m) :: F) (Hp B ((n, b, c, e) :: L))) : Lx P G ro ops N ds (EE fs) Z (⟨some d, .makeSlice t x y, ty, pos, af, gd⟩ :: rest) F (Hp B L) :=
  lx_runG rfl hw hd (fun _ h => by cases h) fun a w ha hC => by
    subst hq
    obtain ⟨i, hi, hz, rfl, rfl⟩ := hi
    have hr := run_makeSlice (P := P) (w := w) t e i z hu hi hz .i64 .u64 (l : Int) (q.toNat : Int) (by omega) (by omega) (by rw [Int.toNat_natCast]; exact hm.1) (by have := Int.ofNat_le.2 hm.2.1; rw [Int.natCast_mul] at this; exact this) (by omega)
    simp only [Int.toNat_natCast] at hr
    refine ⟨.slice (some ⟨w.heap.size, 0, none⟩) l q.toNat, w.alloc (.cells c.toArray e), _, .inl ?_, good_hp hB, hC.alloc hB.r n c e, fun w' h' => hp_fresh hB.r hfr w' h', h w.heap.size⟩
    subst hc
    simp only [execOp, ha.ev hx, ha.ev hy, I, U64, Sem.run_bind, hr, Result.andThen_ok]
    simp
/-- The cells of a part that is laid into what is built. -/
theorem fill_mid {place : Nat → Option (Nat × Nat)} {i off size : Nat} {v : Value} {vs c : List Value} (hp : place i = some (off, size)) (hv : v.cells = vs.toArray) (hs : vs.length = size) (ho : off + vs.length ≤ c.length) (rest : List (Nat × Value)) :
    Instr.fill place c.toArray ((i, v) :: rest) = Instr.fill place (c.take off ++ vs ++ c.drop (off + vs.length)).toArray rest := by
  have h := fold_lay off vs 0 c
  have hn : ¬ ((decide (v.cells.size ≠ size) || decide (off + v.cells.size > c.toArray.size)) = true) := by
    simp [hv, hs]; omega
  have e : v.cells.zipIdx.foldl (fun (cs : Array Value) (p : Value × Nat) => cs.setIfInBounds (off + p.2) p.1) c.toArray = (lay off vs c).toArray := by
    rw [hv, ← Array.foldl_toList, Array.toList_zipIdx]
    exact h
  rw [Instr.fill, hp]
  show (if (decide (v.cells.size ≠ size) || decide (off + v.cells.size > c.toArray.size)) = true then none else _) = _
  rw [if_neg hn, ← lay_eq _ _ _ ho, ← e]
end
/-! ### How many bits a number has -/
def IsL (n k : Nat) : Prop := n < 2 ^ k ∧ ∀ e, e < k → 2 ^ e ≤ n
theorem IsL.shift {n k : Nat} (s : Nat) (h : IsL (n / 2 ^ s) k) (hn : 2 ^ s ≤ n) : IsL n (k + s) := by
  refine ⟨by rw [Nat.pow_add]; exact (Nat.div_lt_iff_lt_mul (Nat.two_pow_pos s)).1 h.1, fun e he => ?_⟩
  rcases Nat.lt_or_ge e s with h1 | h1
  · exact Nat.le_trans (Nat.pow_le_pow_right (by decide) (Nat.le_of_lt h1)) hn
  · obtain ⟨e', rfl⟩ := Nat.exists_eq_add_of_le h1
    rw [Nat.add_comm, Nat.pow_add]
    exact (Nat.le_div_iff_mul_le (Nat.two_pow_pos s)).1 (h.2 e' (by omega))
def ln (n : Nat) : Nat := if n = 0 then 0 else n.log2 + 1
theorem IsL.eq {n k : Nat} (h : IsL n k) : ln n = k := by
  unfold ln
  by_cases h0 : n = 0
  · rw [if_pos h0]
    rcases Nat.eq_zero_or_pos k with hk | hk
    · exact hk.symm
    · have := h.2 0 hk; omega
  · rw [if_neg h0]
    have h1 := (Nat.log2_lt h0).2 h.1
    have h2 := (Nat.le_log2 h0).2 (h.2 (k - 1) (by omega))
    omega
def bitTab (s : ByteArray) : Bool := (List.range 256).all fun i => match s.data[i]? with
  | some b => Nat.blt i (2 ^ b.toNat) && (b.toNat == 0 || Nat.ble (2 ^ (b.toNat - 1)) i)
  | none => false
theorem bitTab_at {s : ByteArray} (h : bitTab s = true) {i : Nat} (hi : i < 256) : ∃ b : BitVec 8, s.data[i]? = some (UInt8.ofBitVec b) ∧ IsL i b.toNat := by
  have h1 := List.all_eq_true.1 h i (List.mem_range.2 hi)
  cases hb : s.data[i]? with
  | none => simp [hb] at h1
  | some b =>
    simp only [hb, Bool.and_eq_true, Bool.or_eq_true] at h1
    refine ⟨b.toBitVec, rfl, of_decide_eq_true (by rw [decide_eq_true_eq]; exact Nat.le_of_ble_eq_true h1.1), fun e he => ?_⟩
    rcases h1.2 with h2 | h2
    · have : b.toNat = 0 := by simpa using h2
      have he' : e < b.toNat := he
      omega
    · exact Nat.le_trans (Nat.pow_le_pow_right (by decide) (by have he' : e < b.toNat := he; omega)) (Nat.le_of_ble_eq_true h2)
end Go.Proofs.YtdkkipjcmflclaaDoor

namespace Go.Proofs.YtdkkipjcmflclaaDoor
open Go.RowKit
section
variable {P : Program} {G : Cls} {ro : Option Nat} {ops : Array Oper} {N : Nat} {ds : List Deferred} {fs : List Nat} {Z : Fr → Cls → Prop} {F : Fr} {C : Cls} {rest : List Oper}
variable {d : Nat} {ty : TypeId} {pos : String} {af : Array Edge} {gd : Option (Nat × Bool)}
theorem lx_slarr0 {t e : TypeId} {n sz : Nat} {x : Operand} {b o : Nat} (hx : evF F x = some (.pointer (some ⟨b, o, none⟩))) (hu : P.underlying t = some (.array n e)) (hs : ∀ w, (sizeOf e).run P w = .ok sz w) (hne : n ≠ 0)
    (hw : wantF ops F ⟨some d, .slice t x none none none, ty, pos, af, gd⟩ = some true) (hd : Nat.blt d N = true)
    (h : Lx P G ro ops N ds (EE fs) Z rest ((d, .slice (some ⟨b, o, none⟩) n n) :: F) C) : Lx P G ro ops N ds (EE fs) Z (⟨some d, .slice t x none none none, ty, pos, af, gd⟩ :: rest) F C :=
  lx_slarr (l := 0) (h' := n) hx hu hs rfl rfl ⟨Nat.zero_le _, Nat.le_refl _⟩ (fun h => hne h.symm) hw hd (by rw [Nat.zero_mul, Nat.add_zero, Nat.sub_zero]; exact h)
end
end Go.Proofs.YtdkkipjcmflclaaDoor

namespace Go.Proofs.YtdkkipjcmflclaaDoor
open Go.RowKit
section
variable {P : Program} {G : Cls} {ro : Option Nat} {ops : Array Oper} {N : Nat} {ds : List Deferred} {fs : List Nat} {Z : Fr → Cls → Prop} {F : Fr} {C : Cls} {rest : List Oper}
variable {d : Nat} {ty : TypeId} {pos : String} {af : Array Edge} {gd : Option (Nat × Bool)}
/-- Several cells written into a block of one's own. -/
theorem lx_stW {low : Nat} (hl : GLow G low) {t et : TypeId} {x y : Operand} {b o m : Nat} {c vs : List Value} (hS : ∀ w, C w → G w) (hown : ∀ w, C w → OwnB w b c et) (hlow : low ≤ b) (hx : evF F x = some (.pointer (some ⟨b, o, none⟩))) (hy : evF F y = some (.agg vs.toArray))
    (hs : ∀ w, (sizeOf t).run P w = .ok m w) (hm : vs.length = m) (hv : vs.all (·.oneCell') = true) (ho : o + vs.length ≤ c.length) (hw : wantF ops F ⟨none, .store t x y, ty, pos, af, gd⟩ = some true)
    (h : ∀ w w2, C w → G w2 → MM (fun k => k = b) w w2 → OwnB w2 b (lay o vs c) et → Lx P G ro ops N ds (EE fs) Z rest F (Hp (pl w2) [])) : Lx P G ro ops N ds (EE fs) Z (⟨none, .store t x y, ty, pos, af, gd⟩ :: rest) F C := by
  refine lx_one hl rfl rfl hS (fun w F' C' => F' = F ∧ C' = Hp (plM w (fun k => k = b)) [(0, b, lay o vs c, et), (0, b, c, et)]) (fun w hC hG => ?_) (fun w w' F' C' hC hG' hC' hz => ?_)
  · exact ⟨Hp (plM w (fun k => k = b)) [(0, b, c, et)], hp_one' (hown w hC) rfl, lx_storer 0 (ok_plM hl hG (fun m hm => by subst hm; exact hlow)) hx hy rfl hs hm hv ho hw (lx_nil ⟨rfl, rfl⟩)⟩
  · obtain ⟨rfl, rfl⟩ := hz
    exact h w w' hC hG' (hq_mm hC') (hC'.own 0 _ _ _ rfl).1
end
section
variable {P : Program} {F : Fr} {C : Cls}
end
end Go.Proofs.YtdkkipjcmflclaaDoor

namespace Go.Proofs.YtdkkipjcmflclaaDoor
open Go.RowKit
section
variable {P : Program}
end
section
variable {P : Program} {G : Cls} {ro : Option Nat} {ops : Array Oper} {N : Nat} {ds : List Deferred} {fs : List Nat} {Z : Fr → Cls → Prop} {F : Fr} {C : Cls} {rest : List Oper}
variable {d : Nat} {ty : TypeId} {pos : String} {af : Array Edge} {gd : Option (Nat × Bool)} {B : Bs} {L : Hl}
end
end Go.Proofs.YtdkkipjcmflclaaDoor

namespace Go.Proofs.YtdkkipjcmflclaaDoor
open Go.RowKit
set_option maxRecDepth 100000
section
variable {P : Program}
theorem strB_fold (l : List Int) (r : ByteArray) : (l.foldl (fun r n => r.push (UInt8.ofNat n.toNat)) r).data.toList = r.data.toList ++ l.map fun n => UInt8.ofNat n.toNat := by
  induction l generalizing r with
  | nil => simp
  | cons x l ih =>
    rw [List.foldl_cons, ih, List.map_cons]
    simp [ByteArray.push]
theorem strB_list (xs : List (BitVec 8)) : (strB xs).data.toList = xs.map fun b => UInt8.ofNat b.toNat := by
  rw [strB, strB_fold, List.map_map]
  rfl
theorem strB_inj {xs ys : List (BitVec 8)} (h : strB xs = strB ys) : xs = ys := by
  have h1 := congrArg (fun s : ByteArray => s.data.toList) h
  simp only [strB_list] at h1
  have h2 := congrArg (List.map fun u : UInt8 => u.toBitVec) h1
  rw [List.map_map, List.map_map] at h2
  have h3 : ∀ l : List (BitVec 8), l.map ((fun u : UInt8 => u.toBitVec) ∘ fun b => UInt8.ofNat b.toNat) = l := fun l => by
    conv => rhs; rw [← List.map_id l]
    refine List.map_congr_left fun b _ => ?_
    show (UInt8.ofNat b.toNat).toBitVec = b
    apply BitVec.eq_of_toNat_eq
    simp
  rw [h3, h3] at h2
  exact h2
theorem bin_eq_strs (t : TypeId) (xs ys : List (BitVec 8)) (w : World) : (binOp .eql t (.string (strB xs)) (.string (strB ys))).run P w = .ok (.bool (decide (xs = ys))) w := by
  rw [binOp_string_eql, ByteArray.toList_eq, ByteArray.toList_eq]
  show Result.ok (Value.bool _) w = _
  congr 2
  by_cases h : xs = ys
  · subst h; simp
  · rw [decide_eq_false h]
    exact beq_eq_false_iff_ne.2 fun h' => h (strB_inj (by
      have := Array.toList_inj.1 h'
      cases hx : strB xs
      cases hy : strB ys
      rw [hx, hy] at this
      simp only at this
      rw [this]))
end
end Go.Proofs.YtdkkipjcmflclaaDoor

namespace Go.Proofs.YtdkkipjcmflclaaDoor
open Go.RowKit
set_option maxRecDepth 100000
section
variable {P : Program} {G : Cls} {ro : Option Nat} {N : Nat} {ds : List Deferred} {l : List Oper} {E : Oper → Bool} {KK' : Cls → Prop} {mk rk : Oper → Bool} {K : KK} {F : Fr} {C : Cls}
/-- Makings of variables. -/
def mkA (o : Oper) : Bool := match o.op with
  | .alloc _ => true
  | _ => false
/-- What is left of the region, 'σ' being done. -/
def TRK (P : Program) (G : Cls) (ro : Option Nat) (N : Nat) (ds : List Deferred) (l : List Oper) (E : Oper → Bool) (KK' : Cls → Prop) (mk _rk : Oper → Bool) (K : KK) (m : Nat) (σ : List Nat) (F : Fr) (C : Cls) : Prop :=
  Region.noSelect l.toArray = true → noDefer l.toArray = true → Closed .any l.toArray (lst0 l σ) → Good G C → ∀ a, Has N ds F a →
    TreeK P G ro .any l.toArray (fun e a' w' => ∃ ds' F' C', Good G C' ∧ Has N ds' F' a' ∧ C' w' ∧ K e ds' F' C') E KK' mk m (lst0 l σ) a C
def okQ (ops : Array Oper) (E mk rk : Oper → Bool) (k : Nat) (listed : Array Bool) : Bool :=
  match ops[k]? with
  | none => false
  | some o => (Region.ready .any ops listed).contains k && (bif E o then false
       else Region.free .any ops listed k && (!isRead o || (List.range ops.size).all fun j => listed.getD j true || !((ops[j]?).any E) || (rk o && (ops[j]?).any mk) || reachB .any ops j k) && (!rk o || isRead o))
/-- A step that leaves memory alone may be taken first. -/
theorem trk_q {m : Nat} {σ : List Nat} (k : Nat) (hok : okQ l.toArray E mk rk k (lst0 l σ) = true) (h : LxK P G ro l.toArray N ds E KK' mk rk (fun F' C' => TRK P G ro N ds l E KK' mk rk K m (σ ++ [k]) F' C') (pickL [k] l) F C) :
    TRK P G ro N ds l E KK' mk rk K (m + 1) σ F C := fun hsel hdef hc hS a ha => by
  rw [← pickL_eq] at h
  unfold okQ at hok
  cases ho : l.toArray[k]? with
  | none => simp [ho] at hok
  | some o =>
    simp only [ho, Bool.and_eq_true] at hok
    obtain ⟨hr, hcase⟩ := hok
    have hr' : k ∈ Region.ready .any l.toArray (lst0 l σ) := by simpa using hr
    have hl : [k].filterMap (l.toArray[·]?) = [o] := by simp only [List.filterMap_cons, ho, List.filterMap_nil]
    rw [hl] at h
    unfold LxK at h
    cases hE : E o with
    | true => rw [hE] at hcase; cases hcase
    | false =>
      rw [hE] at h hcase
      simp only [cond_false, Bool.and_eq_true, Bool.or_eq_true, Bool.not_eq_true'] at hcase
      obtain ⟨⟨hfr, hrd0⟩, hrk⟩ := hcase
      obtain ⟨X, v, hX, hKX, ⟨hd, hy⟩, hk⟩ := h
      have hk : TRK P G ro N ds l E KK' mk rk K m (σ ++ [k]) (putF o.dst v F) C := hk
      have hc' := hc.set hr'
      have e : lst0 l (σ ++ [k]) = (lst0 l σ).setIfInBounds k true := lst0_app σ [k]
      refine tree_firstK (rk := rk) ho hE (fun h0 => by rcases hrk with h1 | h1; rw [h0] at h1; cases h1; exact h1) (Region.noSelect_spec hsel) (noDefer_spec hdef) m _ a C X hc (Region.free_spec ho hfr) (fun hrd j oj hoj hEj hun => ?_) hKX hX hr' (hy a ha) ?_
      · rcases hrd0 with h0 | h0
        · rw [hrd] at h0; cases h0
        · have := List.all_eq_true.1 h0 j (List.mem_range.2 (Array.getElem?_eq_some_iff.1 hoj).1)
          simp [hun, hoj, hEj] at this
          rcases this with h1 | h1
          · exact .inl h1
          · exact .inr (reachB_spec h1)
      · rw [← e] at hc' ⊢
        exact hk hsel hdef hc' hS _ (ha.putF hd v)
/-- Whichever of those that may turn memory comes next. -/
theorem trk_any {m : Nat} {σ : List Nat} (R : List Nat) (hR : Region.ready .any l.toArray (lst0 l σ) = R) (hE : R.all (fun i => (l.toArray[i]?).any E) = true) (hne : R ≠ [])
    (h : ∀ i ∈ R, LxK P G ro l.toArray N ds E KK' mk rk (fun F' C' => TRK P G ro N ds l E KK' mk rk K m (σ ++ [i]) F' C') (pickL [i] l) F C) : TRK P G ro N ds l E KK' mk rk K (m + 1) σ F C := fun hsel hdef hc hS a ha => by
  refine ⟨fun h0 => absurd (hR.symm.trans h0) hne, fun i hi oi hoi => ?_⟩
  have hiR : i ∈ R := by rw [← hR]; exact hi
  have hEi : E oi = true := by have := List.all_eq_true.1 hE i hiR; rw [hoi] at this; exact this
  have hx := h i hiR
  rw [← pickL_eq] at hx
  have hl : [i].filterMap (l.toArray[·]?) = [oi] := by simp only [List.filterMap_cons, hoi, List.filterMap_nil]
  rw [hl] at hx
  unfold LxK at hx
  rw [hEi] at hx ⊢
  intro w hw
  obtain ⟨hwant, hwp⟩ := hx a w ha hw
  refine ⟨hwant, Oper.wpIn_mono (fun a' w' hk => ?_) hwp⟩
  obtain ⟨F', C', ha', hS', hw', hgr, hk⟩ := hk
  refine ⟨C', hS', hw', hgr, ?_⟩
  have hk : TRK P G ro N ds l E KK' mk rk K m (σ ++ [i]) F' C' := hk
  have hc' := hc.set hi
  have e : lst0 l (σ ++ [i]) = (lst0 l σ).setIfInBounds i true := lst0_app σ [i]
  rw [← e] at hc' ⊢
  exact hk hsel hdef hc' hS' a' ha'
theorem trk_nil {σ : List Nat} (hR : Region.ready .any l.toArray (lst0 l σ) = []) (h : K .normal ds F C) : TRK P G ro N ds l E KK' mk rk K 0 σ F C := fun _ _ _ hS _ ha => ⟨hR, fun _ hw => ⟨ds, F, C, hS, ha, hw, h⟩⟩
theorem x_treeK {id : Nat} (E : Oper → Bool) (KK' : Cls → Prop) (mk rk : Oper → Bool) (hm : P.follows .mixedOrders = true) (hsel : Region.noSelect l.toArray = true) (hdef : noDefer l.toArray = true) (h : TRK P G ro N ds l E KK' mk rk K l.length [] F C) : X P G ro N ds (.region id l.toArray true) F C K := fun hS a w ha hw => by
  refine wpIn_region_any hm ?_
  have hc : Closed .any l.toArray (lst0 l []) := fun j i _ hj => by
    rcases Nat.lt_or_ge j l.toArray.size with h' | h'
    · simp at h'; simp [lst0, lstd, h'] at hj
    · simp at h'; simp [lst0, lstd, h'] at hj
  exact wpAnyIn_of_treeK _ _ _ C _ hS (hS.1 w _ hw ((Below.refl _ w).drew)) (h hsel hdef hc hS a ha)
end
end Go.Proofs.YtdkkipjcmflclaaDoor
