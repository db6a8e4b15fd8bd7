/-
 Walks by reckoning, part 1: rows of elements, values and blocks with names; what one operation does to them. Nothing here names a program.
 Walks by reckoning, part 2: one operation.
 Walks by reckoning, part 3: regions, code, functions.
 Walks by reckoning, part 4: functions; contracts laid into the table.
 Walks by reckoning, part 5: contracts by the forms of their arguments.
 Walks by reckoning, part 6: functions that turn a row of their caller's.
 The table of the types that are rows of elements.
-/
import Derived.Test.YtpnpiblphnpfiaaGreatDoorX3
import Derived.Test.YtpnpiblphnpfiaaGreatDoorX2
import Derived.Test.YtpnpiblphnpfiaaGreatDoorX4
import Derived.Test.YtpnpiblphnpfiaaGreatDoorX5
set_option maxRecDepth 100000
set_option maxHeartbeats 1000000
namespace Go.Proofs.YtpnpiblphnpfiaaGreatDoor
section
open Go.RowKit
/-! ### Rows of elements -/
def cel : List Zp → List (BitVec 64)
 | [] => []
 | [x] => fe x
 | x :: y :: r => fe x ++ cel (y :: r)
theorem fc (x : Zp) (r : List Zp) : cel (x :: r) = fe x ++ cel r := by
 cases r with
 | nil => exact (List.append_nil _).symm
 | cons y r => rfl
theorem zd (a b : List Zp) : cel (a ++ b) = cel a ++ cel b := by
 induction a with
 | nil => rfl
 | cons x a ih => rw [List.cons_append, fc, fc, ih, List.append_assoc]
theorem ie (l : List Zp) : (cel l).length = 6 * l.length := by
 induction l with
 | nil => rfl
 | cons x a ih => rw [fc, List.length_append, aL, ih, List.length_cons]; omega
abbrev clv (l : List Zp) : List Value := (cel l).map U64
theorem bI (l : List Zp) : (clv l).length = 6 * l.length := by rw [List.length_map, ie]
theorem eP (a b : List Zp) : clv (a ++ b) = clv a ++ clv b := by rw [clv, zd, List.map_append]
theorem yX (l : List Zp) (o k : Nat) (h : o + k ≤ l.length) (j : Nat) (v : Value) (hv : (clv ((l.drop o).take k))[j]? = some v) : (clv l)[6 * o + j]? = some v := by
 have e : l = l.take o ++ ((l.drop o).take k ++ (l.drop o).drop k) := by rw [List.take_append_drop, List.take_append_drop]
 have ho : (clv (l.take o)).length = 6 * o := by rw [bI, List.length_take]; omega
 rw [e, eP, eP, List.getElem?_append_right (by rw [ho]; omega), ho, show 6 * o + j - 6 * o = j by omega]
 rw [List.getElem?_append_left]
 ·exact hv
 ·exact (List.getElem?_eq_some_iff.1 hv).1
def u4 (o : Nat) (x l : List Zp) : List Zp := l.take o ++ (x ++ l.drop (o + x.length))
theorem mi {o : Nat} {x l : List Zp} (h : o + x.length ≤ l.length) : lay (6 * o) (clv x) (clv l) = clv (u4 o x l) := by
 rw [kf _ _ _ (by rw [bI, bI]; omega), u4, eP, eP, List.append_assoc]
 have e : l = l.take o ++ l.drop o := (List.take_append_drop o l).symm
 have e2 : l = l.take (o + x.length) ++ l.drop (o + x.length) := (List.take_append_drop _ l).symm
 have h1 : (clv l).take (6 * o) = clv (l.take o) := by
  conv => lhs; rw [e, eP]
  exact List.take_left' (by rw [bI, List.length_take]; omega)
 have h2 : (clv l).drop (6 * o + (clv x).length) = clv (l.drop (o + x.length)) := by
  conv => lhs; rw [e2, eP]
  exact List.drop_left' (by rw [bI, bI, List.length_take]; omega)
 rw [h1, h2]
theorem qx (l : List Zp) : (clv l).all (·.oneCell') = true := ak _
theorem rD : ∀ {a b : List Zp}, a.length = b.length → cel a = cel b → a = b
 | [], [], _, _ => rfl
 | [], _ :: _, h, _ => by cases h
 | _ :: _, [], h, _ => by cases h
 | x :: a, y :: b, h, e => by
  rw [fc, fc] at e
  have k := List.append_inj e (by rw [aL, aL])
  rw [tp.1 k.1, rD (Nat.succ.inj h) k.2]
theorem qO {a b : List Zp} (h : a.length = b.length) : decide (cel a = cel b) = decide (a = b) := by
 by_cases e : a = b
 ·rw [e, decide_eq_true rfl, decide_eq_true rfl]
 ·rw [decide_eq_false e, decide_eq_false (fun k => e (rD h k))]
/-! ### Values and blocks with names -/
abbrev S0 := List Zp ⊕ (Bool ⊕ (Value ⊕ (Nat × Nat)))
abbrev S1 := S0 ⊕ List S0
abbrev SF := List (Nat × S1)
abbrev SL := List (Nat × List Zp × TypeId)
abbrev St := SF × SL
abbrev Vw := Nat × Option (List Value × List Value)
def vof (v : Vw) (o : Nat) : Nat := match v.2 with
 | none => o
 | some q => q.1.length + o
def gJ (v : Vw) (c : List Value) : List Value := match v.2 with
 | none => c
 | some q => q.1 ++ (c ++ q.2)
theorem mu (v : Vw) (a b : Nat) : vof v a + b = vof v (a + b) := by
 obtain ⟨b0, _ | q⟩ := v
 ·rfl
 ·exact Nat.add_assoc _ _ _
theorem rB (v : Vw) {c : List Value} {o : Nat} {u : Value} (h : c[o]? = some u) : (gJ v c)[vof v o]? = some u := by
 obtain ⟨b0, _ | q⟩ := v
 ·exact h
 ·show (q.1 ++ (c ++ q.2))[q.1.length + o]? = some u
  rw [List.getElem?_append_right (Nat.le_add_right _ _), Nat.add_sub_cancel_left, List.getElem?_append_left (List.getElem?_eq_some_iff.1 h).1]
  exact h
theorem te (v : Vw) (c : List Value) {o k : Nat} (h : o + k ≤ c.length) : vof v o + k ≤ (gJ v c).length := by
 obtain ⟨b0, _ | q⟩ := v
 ·exact h
 ·show q.1.length + o + k ≤ (q.1 ++ (c ++ q.2)).length
  rw [List.length_append, List.length_append]; omega
theorem va (v : Vw) (x c : List Value) (o : Nat) (h : o + x.length ≤ c.length) : lay (vof v o) x (gJ v c) = gJ v (lay o x c) := by
 obtain ⟨b0, _ | q⟩ := v
 ·rfl
 ·show lay (q.1.length + o) x (q.1 ++ (c ++ q.2)) = q.1 ++ (lay o x c ++ q.2)
  rw [kf _ _ _ (by rw [List.length_append, List.length_append]; omega), kf _ _ _ h, List.take_length_add_append, show q.1.length + o + x.length = q.1.length + (o + x.length) from Nat.add_assoc _ _ _, List.drop_length_add_append, List.take_append_of_le_length (by omega), List.drop_append_of_le_length h]
  simp only [List.append_assoc]
def rid : Nat → Vw := fun n => (n, none)
def dn (r : Nat → Vw) : S0 → Value
 | .inl l => .agg (clv l).toArray
 | .inr (.inl b) => .bool b
 | .inr (.inr (.inl v)) => v
 | .inr (.inr (.inr p)) => .pointer (some ⟨(r p.1).1, vof (r p.1) (6 * p.2), none⟩)
def dn1 (r : Nat → Vw) : S1 → Value
 | .inl s => dn r s
 | .inr l => .tuple (l.map (dn r)).toArray
def dF (r : Nat → Vw) (F : SF) : Fr := F.map fun e => (e.1, dn1 r e.2)
def dL (r : Nat → Vw) (L : SL) : Hl := L.map fun e => (e.1, (r e.1).1, gJ (r e.1) (clv e.2.1), e.2.2)
def lkS : SF → Nat → Option S1
 | [], _ => none
 | (d, v) :: F, t => bif Nat.beq d t then some v else lkS F t
def lkL : SL → Nat → Option (List Zp × TypeId)
 | [], _ => none
 | (d, v) :: F, t => bif Nat.beq d t then some v else lkL F t
theorem ll (r : Nat → Vw) (t : Nat) : ∀ F : SF, lk (dF r F) t = (lkS F t).map (dn1 r)
 | [] => rfl
 | (d, v) :: F => by
  show (bif Nat.beq d t then some (dn1 r v) else lk (dF r F) t) = (bif Nat.beq d t then some v else lkS F t).map (dn1 r)
  cases Nat.beq d t with
  | true => rfl
  | false => exact ll r t F
theorem jK (r : Nat → Vw) (t : Nat) : ∀ L : SL, lkB (dL r L) t = (lkL L t).map (fun c => ((r t).1, gJ (r t) (clv c.1), c.2))
 | [] => rfl
 | (d, v) :: L => by
  show (bif Nat.beq d t then some ((r d).1, gJ (r d) (clv v.1), v.2) else lkB (dL r L) t) = (bif Nat.beq d t then some v else lkL L t).map (fun c => ((r t).1, gJ (r t) (clv c.1), c.2))
  cases hb : Nat.beq d t with
  | true => rw [Nat.eq_of_beq_eq_true hb]; rfl
  | false => exact jK r t L
def cst : Value → S0
 | .bool b => .inr (.inl b)
 | v => .inr (.inr (.inl (nrm v)))
theorem Dh (r : Nat → Vw) (v : Value) : dn r (cst v) = nrm v := by
 cases v <;> rfl
def evS (F : SF) : Operand → Option S1
 | .tmp t => lkS F t
 | .const v => some (.inl (cst v))
 | _ => none
theorem cM {r : Nat → Vw} {F : SF} {x : Operand} {v : S1} (h : evS F x = some v) : evF (dF r F) x = some (dn1 r v) := by
 cases x with
 | tmp t => show lk (dF r F) t = _; rw [ll, show lkS F t = some v from h]; rfl
 | const u =>
  have e : v = .inl (cst u) := (Option.some.inj h).symm
  rw [e]
  show some (nrm u) = some (dn r (cst u))
  rw [Dh]
 | global g => cases h
 | func f => cases h
/-! ### Names that are new -/
def up (r : Nat → Vw) (d b : Nat) : Nat → Vw := fun n => bif Nat.beq n d then (b, none) else r n
theorem Aa (r : Nat → Vw) (d b : Nat) : up r d b d = (b, none) := by rw [up, Nat.beq_refl]; rfl
theorem vh {r : Nat → Vw} {d b n : Nat} (h : Nat.beq n d = false) : up r d b n = r n := by rw [up, h]; rfl
def Sm (N : Nat) (r0 r : Nat → Vw) : Prop := ∀ n, N ≤ n → r n = r0 n
theorem Sm.rfl' {N : Nat} {r : Nat → Vw} : Sm N r r := fun _ _ => rfl
theorem Sm.up {N : Nat} {r0 r : Nat → Vw} (h : Sm N r0 r) {d : Nat} (hd : Nat.blt d N = true) (b : Nat) : Sm N r0 (up r d b) := fun n hn => by
 have h1 : d < N := by simpa using hd
 rw [vh (by cases hb : Nat.beq n d with
  | false => rfl
  | true => have := Nat.eq_of_beq_eq_true hb; omega)]
 exact h n hn
def noS (d : Nat) : S0 → Bool
 | .inr (.inr (.inr p)) => !Nat.beq p.1 d
 | _ => true
def x6 (d : Nat) : S1 → Bool
 | .inl s => noS d s
 | .inr l => l.all (noS d)
def eO (d : Nat) (s : St) : Bool := s.1.all (fun e => x6 d e.2) && s.2.all (fun e => !Nat.beq e.1 d)
theorem zn {r : Nat → Vw} {d b : Nat} {s : S0} (h : noS d s = true) : dn (up r d b) s = dn r s := by
 rcases s with l | c | v | p
 ·rfl
 ·rfl
 ·rfl
 ·have h : (!Nat.beq p.1 d) = true := h
  show Value.pointer (some ⟨(up r d b p.1).1, vof (up r d b p.1) (6 * p.2), none⟩) = .pointer (some ⟨(r p.1).1, vof (r p.1) (6 * p.2), none⟩)
  rw [vh (by cases hb : Nat.beq p.1 d <;> rw [hb] at h <;> first | rfl | cases h)]
theorem A3 {r : Nat → Vw} {d b : Nat} {s : S1} (h : x6 d s = true) : dn1 (up r d b) s = dn1 r s := by
 rcases s with s | l
 ·exact zn h
 ·show Value.tuple (l.map (dn (up r d b))).toArray = .tuple (l.map (dn r)).toArray
  rw [List.map_congr_left (fun x hx => zn (List.all_eq_true.1 h x hx))]
theorem zX {r : Nat → Vw} {d b : Nat} {F : SF} (h : F.all (fun e => x6 d e.2) = true) : dF (up r d b) F = dF r F :=
 List.map_congr_left fun e he => by rw [A3 (List.all_eq_true.1 h e he)]
theorem zC {r : Nat → Vw} {d b : Nat} {L : SL} (h : L.all (fun e => !Nat.beq e.1 d) = true) : dL (up r d b) L = dL r L :=
 List.map_congr_left fun e he => by
  have h := List.all_eq_true.1 h e he
  rw [vh (by cases hb : Nat.beq e.1 d <;> rw [hb] at h <;> first | rfl | cases h)]
/-! ### What is known of the program -/
structure Snd (P : Program) (G : Cls) (f : Nat) (c : List S0 → Option S1) : Prop where
 en : ae P f
 ok : ∀ a v r, c a = some v → Pure P G f (a.map (dn r)) (dn1 r v)
structure Tb (P : Program) (G : Cls) where
 sz : TypeId → Option Nat
 fs : TypeId → Option (List (Nat × Nat))
 ct : List (Nat × (List S0 → Option S1))
 hsz : ∀ t k, sz t = some k → (∀ w, (isAgg t).run P w = .ok true w) ∧ (∀ w, (sizeOf t).run P w = .ok (6 * k) w) ∧ ∀ w, (zeroValue t).run P w = .ok (.agg (clv (List.replicate k 0)).toArray) w
 hfs : ∀ t l, fs t = some l → ∃ fields, P.underlying t = some (.struct fields) ∧ (∀ w, (Array.mapM (fun f => Prod.mk f.offset <$> sizeOf f.type) fields : Sem _).run P w = .ok (l.map (fun p => (6 * p.1, 6 * p.2))).toArray w) ∧ ∀ (i : Nat) (p : Nat × Nat), l[i]? = some p → ∃ (fd : Field) (m : Nat), fields[i]? = some fd ∧ fd.offset = 6 * p.1 ∧ m ≠ 0 ∧ ∀ w, (sizeOf fd.type).run P w = .ok m w
 hct : ∀ e ∈ ct, Snd P G e.1 e.2
 eq : TypeId → Bool
 heq : ∀ t k, eq t = true → sz t = some k → (∀ (op : BinOp) (x y : Operand) (xs ys : Array Value) (w : World), (eqGuard op t x y (.agg xs) (.agg ys)).run P w = .ok () w) ∧ ∃ d0, d0 ≤ 100 ∧ EqF P t (6 * k) d0
 ar : TypeId → Option Nat
 har : ∀ t m, ar t = some m → ∃ n e, P.underlying t = some (.array n e) ∧ ∀ w, (sizeOf e).run P w = .ok (6 * m) w
 bo : TypeId → Bool
 hbo : ∀ t, bo t = true → P.underlying t = some .bool
def ji {α : Type} : List (Nat × α) → Nat → Option α
 | [], _ => none
 | (d, v) :: F, t => bif Nat.beq d t then some v else ji F t
theorem fU {α : Type} {t : Nat} {v : α} : ∀ {l : List (Nat × α)}, ji l t = some v → (t, v) ∈ l
 | [], h => by cases h
 | (d, u) :: l, h => by
  unfold ji at h
  cases hb : Nat.beq d t with
  | true =>
   rw [hb] at h
   have e := Nat.eq_of_beq_eq_true hb
   have e2 : u = v := Option.some.inj h
   rw [← e, ← e2]; exact List.mem_cons_self
  | false => rw [hb] at h; exact List.mem_cons_of_mem _ (fU h)
def ug : List (Nat × (List S0 → Option S1)) → Nat → List S0 → Option S1
 | [], _, _ => none
 | (g, c) :: r, f, a => bif Nat.beq g f then (match c a with
  | some v => some v
  | none => ug r f a) else ug r f a
theorem kA {f : Nat} {a : List S0} {v : S1} : ∀ {l : List (Nat × (List S0 → Option S1))}, ug l f a = some v → ∃ c, (f, c) ∈ l ∧ c a = some v
 | [], h => by cases h
 | (g, c) :: l, h => by
  unfold ug at h
  cases hb : Nat.beq g f with
  | true =>
   rw [hb] at h
   have e := Nat.eq_of_beq_eq_true hb
   cases hc : c a with
   | some u =>
    simp only [hc, cond_true] at h
    cases h
    exact ⟨c, by rw [e]; exact List.mem_cons_self, hc⟩
   | none =>
    simp only [hc, cond_true] at h
    obtain ⟨d, hd, k⟩ := kA h
    exact ⟨d, List.mem_cons_of_mem _ hd, k⟩
  | false =>
   rw [hb] at h
   obtain ⟨d, hd, k⟩ := kA h
   exact ⟨d, List.mem_cons_of_mem _ hd, k⟩
end
section
open Go.RowKit
def rI : S1 → Option (List Zp)
 | .inl (.inl l) => some l
 | _ => none
def i5 : S1 → Option (Nat × Nat)
 | .inl (.inr (.inr (.inr p))) => some p
 | _ => none
def mI : S1 → Option Bool
 | .inl (.inr (.inl b)) => some b
 | _ => none
def zm : S1 → Option (List S0)
 | .inr l => some l
 | _ => none
def re : S1 → Option S0
 | .inl s => some s
 | _ => none
theorem kE {v : S1} {l : List Zp} (h : rI v = some l) : v = .inl (.inl l) := by
 rcases v with (x | x | x | x) | x <;> first | (cases h; done) | (cases h; rfl)
theorem gg {v : S1} {l : Nat × Nat} (h : i5 v = some l) : v = .inl (.inr (.inr (.inr l))) := by
 rcases v with (x | x | x | x) | x <;> first | (cases h; done) | (cases h; rfl)
theorem iW {v : S1} {l : Bool} (h : mI v = some l) : v = .inl (.inr (.inl l)) := by
 rcases v with (x | x | x | x) | x <;> first | (cases h; done) | (cases h; rfl)
theorem we {v : S1} {l : List S0} (h : zm v = some l) : v = .inr l := by
 rcases v with x | x <;> first | (cases h; done) | (cases h; rfl)
theorem kU {v : S1} {l : S0} (h : re v = some l) : v = .inl l := by
 rcases v with x | x <;> first | (cases h; done) | (cases h; rfl)
def evA (F : SF) : List Operand → Option (List S0)
 | [] => some []
 | x :: r => (evS F x).bind fun v => (re v).bind fun s => (evA F r).bind fun l => some (s :: l)
theorem wY {r : Nat → Vw} {F : SF} : ∀ {l : List Operand} {vs : List S0}, evA F l = some vs → evL (dF r F) l = some (vs.map (dn r))
 | [], vs, h => by cases h; rfl
 | x :: l, vs, h => by
  obtain ⟨v, hv, h⟩ := Option.bind_eq_some_iff.1 h
  obtain ⟨s, hs, h⟩ := Option.bind_eq_some_iff.1 h
  obtain ⟨q, hq, h⟩ := Option.bind_eq_some_iff.1 h
  cases h
  rw [kU hs] at hv
  have e := cM (r := r) hv
  have e2 := wY (r := r) hq
  simp only [evL, e, e2, List.map_cons, dn1]
def evP (F : SF) : List (Nat × Operand) → Option (List (Nat × List Zp))
 | [] => some []
 | x :: r => (evS F x.2).bind fun v => (rI v).bind fun s => (evP F r).bind fun l => some ((x.1, s) :: l)
theorem uZ {r : Nat → Vw} {F : SF} : ∀ {l : List (Nat × Operand)} {vs : List (Nat × List Zp)}, evP F l = some vs → evL (dF r F) (l.map (·.2)) = some (vs.map (fun p => .agg (clv p.2).toArray)) ∧ l.map (·.1) = vs.map (·.1)
 | [], vs, h => by cases h; exact ⟨rfl, rfl⟩
 | x :: l, vs, h => by
  obtain ⟨v, hv, h⟩ := Option.bind_eq_some_iff.1 h
  obtain ⟨s, hs, h⟩ := Option.bind_eq_some_iff.1 h
  obtain ⟨q, hq, h⟩ := Option.bind_eq_some_iff.1 h
  cases h
  rw [kE hs] at hv
  have e := cM (r := r) hv
  obtain ⟨e2, e3⟩ := uZ (r := r) hq
  refine ⟨?_, ?_⟩
  ·simp only [List.map_cons, evL, e, e2, dn1, dn]
  ·rw [List.map_cons, List.map_cons, e3]
def gW (N : Nat) (d : Nat) (v : S1) (s : St) : Option St := bif Nat.blt d N then some ((d, v) :: s.1, s.2) else none
theorem cV {N d : Nat} {v : S1} {s s' : St} (h : gW N d v s = some s') : Nat.blt d N = true ∧ s' = ((d, v) :: s.1, s.2) := by
 unfold gW at h
 cases hb : Nat.blt d N with
 | true => rw [hb] at h; cases h; exact ⟨rfl, rfl⟩
 | false => rw [hb] at h; cases h
def nh (ops : Array Oper) (F : SF) (o : Oper) : Option Bool :=
 match o.guard with
 | none => some true
 | some (j, want) =>
  match (ops[j]?).bind (·.dst) with
  | none => some false
  | some d =>
   match lkS F d with
   | some (.inl (.inr (.inl b))) => some (b == want)
   | some (.inr _) => some false
   | _ => none
theorem rL {ops : Array Oper} {r : Nat → Vw} {F : SF} {o : Oper} {b : Bool} (h : nh ops F o = some b) : aq ops (dF r F) o = some b := by
 unfold nh at h
 unfold aq
 cases hg : o.guard with
 | none => simp [hg] at h; simp [h]
 | some p =>
  obtain ⟨j, want⟩ := p
  simp only [hg] at h ⊢
  cases hd : (ops[j]?).bind (·.dst) with
  | none => simp only [hd] at h ⊢; exact h
  | some d =>
   simp only [hd] at h ⊢
   rw [ll]
   cases hl : lkS F d with
   | none => simp [hl] at h
   | some v =>
    rw [hl] at h
    rcases v with (x | x | x | x) | x
    ·simp at h
    ·exact h
    ·simp at h
    ·simp at h
    ·exact h
def tY (l : List (Nat × Nat)) (c : List Zp) : List (Nat × List Zp) → Option (List Zp)
 | [] => some c
 | (i, x) :: r => (l[i]?).bind fun p => bif Nat.beq x.length p.2 && Nat.ble (p.1 + x.length) c.length then tY l (u4 p.1 x c) r else none
theorem kw {l : List (Nat × Nat)} {out : List Zp} : ∀ {ps : List (Nat × List Zp)} {c : List Zp}, tY l c ps = some out → Instr.fill (fun i => (l.map (fun p => (6 * p.1, 6 * p.2))).toArray[i]?) (clv c).toArray (ps.map fun p => (p.1, .agg (clv p.2).toArray)) = some (clv out).toArray
 | [], c, h => by cases h; rfl
 | (i, x) :: ps, c, h => by
  obtain ⟨p, hp, h⟩ := Option.bind_eq_some_iff.1 h
  cases h1 : Nat.beq x.length p.2 with
  | false => rw [h1] at h; cases h
  | true =>
   cases h2 : Nat.ble (p.1 + x.length) c.length with
   | false => rw [h1, h2] at h; cases h
   | true =>
    rw [h1, h2] at h
    have e1 := Nat.eq_of_beq_eq_true h1
    have e2 := Nat.le_of_ble_eq_true h2
    have e3 := kw (ps := ps) h
    rw [List.map_cons, cy (off := 6 * p.1) (size := 6 * p.2) (vs := clv x) (by simp [hp]) (by rw [bI, e1]) (by rw [bI, bI]; omega), mi e2]
    exact e3
def qW (m : Nat) (c : List Zp) : List (Nat × List Zp) → Option (List Zp)
 | [] => some c
 | (i, x) :: r => bif Nat.beq x.length m && Nat.ble (i * m + x.length) c.length then qW m (u4 (i * m) x c) r else none
theorem oz {m : Nat} {out : List Zp} : ∀ {ps : List (Nat × List Zp)} {c : List Zp}, qW m c ps = some out → Instr.fill (fun i => some (i * (6 * m), 6 * m)) (clv c).toArray (ps.map fun p => (p.1, .agg (clv p.2).toArray)) = some (clv out).toArray
 | [], c, h => by cases h; rfl
 | (i, x) :: ps, c, h => by
  unfold qW at h
  cases h1 : Nat.beq x.length m with
  | false => rw [h1] at h; cases h
  | true =>
   cases h2 : Nat.ble (i * m + x.length) c.length with
   | false => rw [h1, h2] at h; cases h
   | true =>
    rw [h1, h2] at h
    have e1 := Nat.eq_of_beq_eq_true h1
    have e2 := Nat.le_of_ble_eq_true h2
    have e3 := oz (ps := ps) h
    have e4 : i * (6 * m) = 6 * (i * m) := Nat.mul_left_comm _ _ _
    rw [List.map_cons, cy (off := i * (6 * m)) (size := 6 * m) (vs := clv x) rfl (by rw [bI, e1]) (by rw [bI, bI, e4]; omega), e4, mi e2]
    exact e3
def DE {P : Program} {G : Cls} (T : Tb P G) (fs : List Nat) (N : Nat) (s : St) (dst : Option Nat) (op : Op) : Option St :=
 match dst with
 | none =>
  match op with
  | .store t x y => (evS s.1 x).bind fun u => (i5 u).bind fun p => (evS s.1 y).bind fun v => (rI v).bind fun l => (lkL s.2 p.1).bind fun c => (T.sz t).bind fun k =>
    bif Nat.beq l.length k && Nat.ble (p.2 + k) c.1.length then some (s.1, (p.1, u4 p.2 l c.1, c.2) :: s.2) else none
  | _ => none
 | some d =>
  match op with
  | .move x => (evS s.1 x).bind fun v => gW N d v s
  | .assign x => (evS s.1 x).bind fun v => gW N d v s
  | .extract x i => (evS s.1 x).bind fun u => (zm u).bind fun l => (l[i]?).bind fun v => gW N d (.inl v) s
  | .load t x => (evS s.1 x).bind fun u => (i5 u).bind fun p => (lkL s.2 p.1).bind fun c => (T.sz t).bind fun k =>
    bif Nat.ble (p.2 + k) c.1.length then gW N d (.inl (.inl ((c.1.drop p.2).take k))) s else none
  | .fieldAddr t x f => (evS s.1 x).bind fun u => (i5 u).bind fun p => (T.fs t).bind fun l => (l[f]?).bind fun q => gW N d (.inl (.inr (.inr (.inr (p.1, p.2 + q.1))))) s
  | .alloc t => (T.sz t).bind fun k => bif eO d s && !fs.any (Nat.beq 2999999) then gW N d (.inl (.inr (.inr (.inr (d, 0))))) (s.1, (d, List.replicate k 0, t) :: s.2) else none
  | .box t x => (evS s.1 x).bind fun v => (rI v).bind fun l => bif eO d s then gW N d (.inl (.inr (.inr (.inr (d, 0))))) (s.1, (d, l, t) :: s.2) else none
  | .build t ps => (T.sz t).bind fun k => (evP s.1 ps.toList).bind fun q => (match T.fs t with
    | some l => tY l (List.replicate k 0) q
    | none => (T.ar t).bind fun m => qW m (List.replicate k 0) q).bind fun o => gW N d (.inl (.inl o)) s
  | .pick c x y => (evS s.1 c).bind fun u => (mI u).bind fun b => (evS s.1 x).bind fun v => (evS s.1 y).bind fun z => gW N d (bif b then v else z) s
  | .unOp .not _ x => (evS s.1 x).bind fun u => (mI u).bind fun b => gW N d (.inl (.inr (.inl (!b)))) s
  | .nilCheck x => (evS s.1 x).bind fun u => (i5 u).bind fun p => gW N d (.inl (.inr (.inr (.inr p)))) s
  | _ => none
abbrev Pa := List (Option Bool)
abbrev CB := List (Bool × Bool)
def rs0 : S0 → Pa → S0 × Pa × CB
 | .inr (.inl b), some q :: p => (.inr (.inl q), p, [(b, q)])
 | .inr (.inl b), none :: p => (.inr (.inl b), p, [])
 | s, p => (s, p, [])
def rsL : List S0 → Pa → List S0 × Pa × CB
 | [], p => ([], p, [])
 | s :: l, p => ((rs0 s p).1 :: (rsL l (rs0 s p).2.1).1, (rsL l (rs0 s p).2.1).2.1, (rs0 s p).2.2 ++ (rsL l (rs0 s p).2.1).2.2)
def rs1 : S1 → Pa → S1 × Pa × CB
 | .inl s, p => (.inl (rs0 s p).1, (rs0 s p).2.1, (rs0 s p).2.2)
 | .inr l, p => (.inr (rsL l p).1, (rsL l p).2.1, (rsL l p).2.2)
def Ok (c : CB) : Prop := ∀ x ∈ c, x.1 = x.2
theorem Ok.l {a b : CB} (h : Ok (a ++ b)) : Ok a := fun x hx => h x (List.mem_append_left _ hx)
theorem Ok.r {a b : CB} (h : Ok (a ++ b)) : Ok b := fun x hx => h x (List.mem_append_right _ hx)
theorem vL (r : Nat → Vw) (s : S0) (p : Pa) (h : Ok (rs0 s p).2.2) : dn r (rs0 s p).1 = dn r s := by
 rcases s with l | b | v | q
 ·rfl
 ·rcases p with _ | ⟨_ | q, p⟩
  ·rfl
  ·rfl
  ·have e : b = q := h (b, q) (List.mem_singleton.2 rfl)
   show Value.bool q = .bool b
   rw [e]
 ·rfl
 ·rfl
theorem wX (r : Nat → Vw) : ∀ (l : List S0) (p : Pa), Ok (rsL l p).2.2 → (rsL l p).1.map (dn r) = l.map (dn r)
 | [], _, _ => rfl
 | s :: l, p, h => by
  show dn r (rs0 s p).1 :: _ = dn r s :: _
  rw [vL r s p h.l, wX r l _ h.r]
theorem AJ (r : Nat → Vw) (s : S1) (p : Pa) (h : Ok (rs1 s p).2.2) : dn1 r (rs1 s p).1 = dn1 r s := by
 rcases s with s | l
 ·exact vL r s p h
 ·show Value.tuple ((rsL l p).1.map (dn r)).toArray = .tuple (l.map (dn r)).toArray
  rw [wX r l p h]
def EL {P : Program} {G : Cls} (T : Tb P G) (fs : List Nat) (s : St) : Op → Option S1
 | .call c =>
  match c.callee with
  | .value (.func f) => bif !fs.any (Nat.beq f) then (evA s.1 c.args.toList).bind fun a => ug T.ct f a else none
  | _ => none
 | .binOp op t x y _ => (evS s.1 x).bind fun u => (evS s.1 y).bind fun v =>
  match u, v with
  | .inl (.inl a), .inl (.inl b) => (T.sz t).bind fun k => bif T.eq t && (Nat.beq a.length k && Nat.beq b.length k) then (match op with
   | .eql => some (.inl (.inr (.inl (decide (a = b)))))
   | .neq => some (.inl (.inr (.inl (!decide (a = b)))))
   | _ => none) else none
  | .inl (.inr (.inl a)), .inl (.inr (.inl b)) => bif T.bo t then (match op with
   | .eql => some (.inl (.inr (.inl (a == b))))
   | .neq => some (.inl (.inr (.inl (a != b))))
   | _ => none) else none
  | _, _ => none
 | _ => none
def isV : Op → Bool
 | .call _ => true
 | .binOp .. => true
 | _ => false
def G2 {P : Program} {G : Cls} (T : Tb P G) (fs : List Nat) (N : Nat) (s : St) (p : Pa) (d : Nat) (op : Op) : Option (St × Pa × CB) :=
 (EL T fs s op).bind fun v => (gW N d (rs1 v p).1 s).map fun s' => (s', (rs1 v p).2)
def stp {P : Program} {G : Cls} (T : Tb P G) (fs : List Nat) (N : Nat) (ops : Array Oper) (o : Oper) (s : St) (p : Pa) : Option (St × Pa × CB) :=
 match nh ops s.1 o with
 | none => none
 | some false => match o.dst with
  | some d => bif EE fs o then none else (gW N d (.inr []) s).map fun s' => (s', p, [])
  | none => none
 | some true =>
  bif isV o.op then (match o.dst with
   | some d => G2 T fs N s p d o.op
   | none => none)
  else (DE T fs N s o.dst o.op).map fun s' => (s', p, [])
section
variable {P : Program} {G : Cls} {ro : Option Nat} {ops : Array Oper} {fs : List Nat} {N : Nat} {ds : List Deferred} {Z : Fr → Cls → Prop} {rest : List Oper} {B : Bs}
theorem fG {a b : Bool} {α : Type} {x : Option α} {y : α} (h : (bif a && b then x else none) = some y) : a = true ∧ b = true ∧ x = some y := by
 cases a with
 | false => cases h
 | true => cases b with
  | false => cases h
  | true => exact ⟨rfl, rfl, h⟩
theorem cX {a : Bool} {α : Type} {x : Option α} {y : α} (h : (bif a then x else none) = some y) : a = true ∧ x = some y := by
 cases a with
 | false => cases h
 | true => exact ⟨rfl, h⟩
def mks : Op → Bool
 | .alloc _ => true
 | .box _ _ => true
 | _ => false
theorem zk (T : Tb P G) (hB : BOk G B) {dst : Option Nat} {op : Op} {ty : TypeId} {pos : String} {af : Array Edge} {gd : Option (Nat × Bool)} {s s' : St} {r : Nat → Vw} (h : DE T fs N s dst op = some s') (hw' : aq ops (dF r s.1) ⟨dst, op, ty, pos, af, gd⟩ = some true) (hk : ∀ r', (mks op = false → r' = r) → Sm N r r' → Lx P G ro ops N ds (EE fs) Z rest (dF r' s'.1) (Hp B (dL r' s'.2))) :
  Lx P G ro ops N ds (EE fs) Z (⟨dst, op, ty, pos, af, gd⟩ :: rest) (dF r s.1) (Hp B (dL r s.2)) := by
 cases dst with
 | none =>
  cases op with
  | store t x y =>
   obtain ⟨u, hu, h⟩ := Option.bind_eq_some_iff.1 h
   obtain ⟨p, hp, h⟩ := Option.bind_eq_some_iff.1 h
   obtain ⟨v, hv, h⟩ := Option.bind_eq_some_iff.1 h
   obtain ⟨l, hl, h⟩ := Option.bind_eq_some_iff.1 h
   obtain ⟨c, hc, h⟩ := Option.bind_eq_some_iff.1 h
   obtain ⟨k, hz, h⟩ := Option.bind_eq_some_iff.1 h
   obtain ⟨h1, h2, h⟩ := fG h
   cases h
   rw [gg hp] at hu
   rw [kE hl] at hv
   have e1 := Nat.eq_of_beq_eq_true h1
   have e2 := Nat.le_of_ble_eq_true h2
   have hb : lkB (dL r s.2) p.1 = some ((r p.1).1, gJ (r p.1) (clv c.1), c.2) := by rw [jK, hc]; rfl
   refine iE p.1 hB (cM hu) (cM hv) hb (T.hsz t k hz).2.1 (by rw [bI, e1]) (qx l) (te _ _ (by rw [bI, bI]; omega)) hw' ?_
   rw [va _ _ _ _ (by rw [bI, bI]; omega), mi (by omega)]
   exact hk r (fun _ => rfl) Sm.rfl'
  | _ => cases h
 | some d =>
  cases op with
  | move x =>
   obtain ⟨v, hv, h⟩ := Option.bind_eq_some_iff.1 h
   obtain ⟨h1, rfl⟩ := cV h
   exact aC (cM hv) hw' h1 (hk r (fun _ => rfl) Sm.rfl')
  | assign x =>
   obtain ⟨v, hv, h⟩ := Option.bind_eq_some_iff.1 h
   obtain ⟨h1, rfl⟩ := cV h
   exact aK (cM hv) hw' h1 (hk r (fun _ => rfl) Sm.rfl')
  | extract x i =>
   obtain ⟨u, hu, h⟩ := Option.bind_eq_some_iff.1 h
   obtain ⟨l, hl, h⟩ := Option.bind_eq_some_iff.1 h
   obtain ⟨v, hv, h⟩ := Option.bind_eq_some_iff.1 h
   obtain ⟨h1, rfl⟩ := cV h
   rw [we hl] at hu
   exact ch (v := dn r v) (cM hu) (by simp [hv]) hw' h1 (hk r (fun _ => rfl) Sm.rfl')
  | load t x =>
   obtain ⟨u, hu, h⟩ := Option.bind_eq_some_iff.1 h
   obtain ⟨p, hp, h⟩ := Option.bind_eq_some_iff.1 h
   obtain ⟨c, hc, h⟩ := Option.bind_eq_some_iff.1 h
   obtain ⟨k, hz, h⟩ := Option.bind_eq_some_iff.1 h
   obtain ⟨h2, h⟩ := cX h
   obtain ⟨h1, rfl⟩ := cV h
   rw [gg hp] at hu
   have e2 := Nat.le_of_ble_eq_true h2
   have hb : lkB (dL r s.2) p.1 = some ((r p.1).1, gJ (r p.1) (clv c.1), c.2) := by rw [jK, hc]; rfl
   have hz' := T.hsz t k hz
   exact a8 p.1 (clv ((c.1.drop p.2).take k)) (cM hu) hb hz'.1 hz'.2.1 (by rw [bI, List.length_take, List.length_drop]; omega) (fun j u hj => by rw [mu]; exact rB _ (yX c.1 p.2 k e2 j u hj)) hw' h1 (hk r (fun _ => rfl) Sm.rfl')
  | fieldAddr t x f =>
   obtain ⟨u, hu, h⟩ := Option.bind_eq_some_iff.1 h
   obtain ⟨p, hp, h⟩ := Option.bind_eq_some_iff.1 h
   obtain ⟨l, hl, h⟩ := Option.bind_eq_some_iff.1 h
   obtain ⟨q, hq, h⟩ := Option.bind_eq_some_iff.1 h
   obtain ⟨h1, rfl⟩ := cV h
   rw [gg hp] at hu
   obtain ⟨fields, hf, _, hi⟩ := T.hfs t l hl
   obtain ⟨fd, m, g1, g2, g3, g4⟩ := hi f q hq
   exact bR (vof (r p.1) (6 * (p.2 + q.1))) (cM hu) hf g1 g4 g3 (by rw [g2, mu, Nat.mul_add]) hw' h1 (hk r (fun _ => rfl) Sm.rfl')
  | alloc t =>
   obtain ⟨k, hz, h⟩ := Option.bind_eq_some_iff.1 h
   obtain ⟨h2, h3, h⟩ := fG h
   obtain ⟨h1, rfl⟩ := cV h
   rw [eO, Bool.and_eq_true] at h2
   refine bM d hB (T.hsz t k hz).2.2 hw' h1 (fun b => ?_) (by cases hq : fs.any (Nat.beq 2999999) <;> rw [hq] at h3 <;> first | rfl | cases h3)
   have e := hk (up r d b) (fun h => by cases h) (Sm.rfl'.up h1 b)
   rw [show dF (up r d b) ((d, Sum.inl (.inr (.inr (.inr (d, 0))))) :: s.1) = (d, .pointer (some ⟨(up r d b d).1, vof (up r d b d) 0, none⟩)) :: dF (up r d b) s.1 from rfl, show dL (up r d b) ((d, List.replicate k 0, t) :: s.2) = (d, (up r d b d).1, gJ (up r d b d) (clv (List.replicate k 0)), t) :: dL (up r d b) s.2 from rfl, Aa, zX h2.1, zC h2.2] at e
   exact e
  | box t x =>
   obtain ⟨v, hv, h⟩ := Option.bind_eq_some_iff.1 h
   obtain ⟨l, hl, h⟩ := Option.bind_eq_some_iff.1 h
   obtain ⟨h2, h⟩ := cX h
   obtain ⟨h1, rfl⟩ := cV h
   rw [kE hl] at hv
   rw [eO, Bool.and_eq_true] at h2
   refine dj d hB (cM hv) hw' h1 (fun b => ?_)
   have e := hk (up r d b) (fun h => by cases h) (Sm.rfl'.up h1 b)
   rw [show dF (up r d b) ((d, Sum.inl (.inr (.inr (.inr (d, 0))))) :: s.1) = (d, .pointer (some ⟨(up r d b d).1, vof (up r d b d) 0, none⟩)) :: dF (up r d b) s.1 from rfl, show dL (up r d b) ((d, l, t) :: s.2) = (d, (up r d b d).1, gJ (up r d b d) (clv l), t) :: dL (up r d b) s.2 from rfl, Aa, zX h2.1, zC h2.2] at e
   exact e
  | build t ps =>
   obtain ⟨k, hz, h⟩ := Option.bind_eq_some_iff.1 h
   obtain ⟨q, hq, h⟩ := Option.bind_eq_some_iff.1 h
   obtain ⟨o, ho, h⟩ := Option.bind_eq_some_iff.1 h
   obtain ⟨h1, rfl⟩ := cV h
   obtain ⟨pl⟩ := ps
   obtain ⟨e1, e2⟩ := uZ (r := r) (l := pl) hq
   refine dk (ps := pl) e1 (v := .agg (clv o).toArray) (fun w => ?_) hw' h1 (hk r (fun _ => rfl) Sm.rfl')
   rw [e2, List.zip_map']
   cases hl : T.fs t with
   | some l =>
    rw [hl] at ho
    obtain ⟨fields, hf, hm, _⟩ := T.hfs t l hl
    exact fC (T.hsz t k hz).2.2 hf hm _ (kw ho) w
   | none =>
    rw [hl] at ho
    obtain ⟨m, hm, ho⟩ := Option.bind_eq_some_iff.1 ho
    obtain ⟨n, e, hu, hs⟩ := T.har t m hm
    have hf := oz ho
    simp only [Instr.build, (T.hsz t k hz).2.2, run_underlying hu, hs, Sem.run_bind, Result.andThen_ok]
    rw [show (Value.agg (clv (List.replicate k 0)).toArray).cells = (clv (List.replicate k 0)).toArray from rfl, hf]
    rfl
  | pick c x y =>
   obtain ⟨u, hu, h⟩ := Option.bind_eq_some_iff.1 h
   obtain ⟨b, hb, h⟩ := Option.bind_eq_some_iff.1 h
   obtain ⟨v, hv, h⟩ := Option.bind_eq_some_iff.1 h
   obtain ⟨z, hz, h⟩ := Option.bind_eq_some_iff.1 h
   obtain ⟨h1, rfl⟩ := cV h
   rw [iW hb] at hu
   have e := hk r (fun _ => rfl) Sm.rfl'
   refine rT (b := b) (cM hu) (cM hv) (cM hz) hw' h1 ?_
   cases b with
   | true => exact e
   | false => exact e
  | unOp op t x =>
   cases op with
   | not =>
    obtain ⟨u, hu, h⟩ := Option.bind_eq_some_iff.1 h
    obtain ⟨b, hb, h⟩ := Option.bind_eq_some_iff.1 h
    obtain ⟨h1, rfl⟩ := cV h
    rw [iW hb] at hu
    exact bH (cM hu) (fun _ => bt _) hw' h1 (hk r (fun _ => rfl) Sm.rfl')
   | _ => cases h
  | nilCheck x =>
   obtain ⟨u, hu, h⟩ := Option.bind_eq_some_iff.1 h
   obtain ⟨p, hp, h⟩ := Option.bind_eq_some_iff.1 h
   obtain ⟨h1, rfl⟩ := cV h
   rw [gg hp] at hu
   exact yJ (cM hu) hw' h1 (hk r (fun _ => rfl) Sm.rfl')
  | _ => cases h
theorem yo (T : Tb P G) {d : Nat} {op : Op} {ty : TypeId} {pos : String} {af : Array Edge} {gd : Option (Nat × Bool)} {s : St} {r : Nat → Vw} {v : S1} {C : Cls} (h : EL T fs s op = some v) (hw' : aq ops (dF r s.1) ⟨some d, op, ty, pos, af, gd⟩ = some true) (h1 : Nat.blt d N = true) (hk : Lx P G ro ops N ds (EE fs) Z rest ((d, dn1 r v) :: dF r s.1) C) :
  Lx P G ro ops N ds (EE fs) Z (⟨some d, op, ty, pos, af, gd⟩ :: rest) (dF r s.1) C := by
 cases op with
 | call c =>
  obtain ⟨cal, args, at'⟩ := c
  cases cal with
  | value x =>
   cases x with
   | func f =>
    obtain ⟨h3, h⟩ := cX h
    obtain ⟨a, ha, h⟩ := Option.bind_eq_some_iff.1 h
    obtain ⟨g, hg, hv⟩ := kA h
    obtain ⟨al⟩ := args
    have hs := T.hct _ hg
    exact az (al := al) (by cases hq : fs.any (Nat.beq f) <;> rw [hq] at h3 <;> first | rfl | cases h3) (wY ha) hs.en (hs.ok a v r hv) hw' h1 hk
   | _ => cases h
  | _ => cases h
 | binOp op t x y yt =>
  obtain ⟨u, hu, h⟩ := Option.bind_eq_some_iff.1 h
  obtain ⟨z, hz, h⟩ := Option.bind_eq_some_iff.1 h
  rcases u with (a | a | a | a) | a <;> rcases z with (b | b | b | b) | b <;> first | (cases h; done) | skip
  ·obtain ⟨k, hs, h⟩ := Option.bind_eq_some_iff.1 h
   obtain ⟨h3, h⟩ := cX h
   simp only [Bool.and_eq_true] at h3
   obtain ⟨h3, h4, h5⟩ := h3
   have e4 := Nat.eq_of_beq_eq_true h4
   have e5 := Nat.eq_of_beq_eq_true h5
   obtain ⟨g, d0, hd0, he⟩ := T.heq t k h3 hs
   cases op with
   | eql =>
    cases h
    refine ah (cM hu) (cM hz) (fun w => g .eql x y _ _ w) (fun w => (xk he hd0 (cel a) (cel b) (by rw [ie, e4]) (by rw [ie, e5]) w).trans ?_) hw' h1 hk
    rw [qO (by rw [e4, e5])]; rfl
   | neq =>
    cases h
    refine ah (cM hu) (cM hz) (fun w => g .neq x y _ _ w) (fun w => (xo he hd0 (cel a) (cel b) (by rw [ie, e4]) (by rw [ie, e5]) w).trans ?_) hw' h1 hk
    rw [qO (by rw [e4, e5])]; rfl
   | _ => cases h
  ·obtain ⟨h3, h⟩ := cX h
   have hb := T.hbo t h3
   cases op with
   | eql =>
    cases h
    exact ah (cM hu) (cM hz) (fun _ => rfl) (fun w => df t hb a b w) hw' h1 hk
   | neq =>
    cases h
    exact ah (cM hu) (cM hz) (fun _ => rfl) (fun w => mF t hb a b w) hw' h1 hk
   | _ => cases h
 | _ => cases h
theorem yj (T : Tb P G) {d : Nat} {op : Op} {ty : TypeId} {pos : String} {af : Array Edge} {gd : Option (Nat × Bool)} {s s' : St} {p p' : Pa} {cs : CB} {r : Nat → Vw} (h : G2 T fs N s p d op = some (s', p', cs)) (hc : Ok cs) (hw' : aq ops (dF r s.1) ⟨some d, op, ty, pos, af, gd⟩ = some true) (hk : Lx P G ro ops N ds (EE fs) Z rest (dF r s'.1) (Hp B (dL r s'.2))) :
  Lx P G ro ops N ds (EE fs) Z (⟨some d, op, ty, pos, af, gd⟩ :: rest) (dF r s.1) (Hp B (dL r s.2)) := by
 obtain ⟨v, hv, h⟩ := Option.bind_eq_some_iff.1 h
 obtain ⟨s1, hs1, h⟩ := Option.map_eq_some_iff.1 h
 have e1 : s1 = s' := congrArg Prod.fst h
 have e2 : (rs1 v p).2.2 = cs := congrArg (fun z => z.2.2) h
 obtain ⟨h1, e3⟩ := cV hs1
 have hk' := hk
 rw [← e1, e3] at hk'
 refine yo T hv hw' h1 ?_
 rw [← AJ r v p (by rw [e2]; exact hc)]
 exact hk'
theorem ql (T : Tb P G) (hB : BOk G B) {o : Oper} {s s' : St} {p p' : Pa} {cs : CB} (h : stp T fs N ops o s p = some (s', p', cs)) (hc : Ok cs) (r : Nat → Vw) (hk : ∀ r', (mks o.op = false → r' = r) → Sm N r r' → Lx P G ro ops N ds (EE fs) Z rest (dF r' s'.1) (Hp B (dL r' s'.2))) :
  Lx P G ro ops N ds (EE fs) Z (o :: rest) (dF r s.1) (Hp B (dL r s.2)) := by
 unfold stp at h
 cases hw : nh ops s.1 o with
 | none => rw [hw] at h; cases h
 | some q =>
  rw [hw] at h
  cases q with
  | false =>
   cases hd : o.dst with
   | none => simp only [hd] at h; cases h
   | some d =>
    simp only [hd] at h
    cases hE : EE fs o with
    | true => rw [hE] at h; cases h
    | false =>
     rw [hE] at h
     obtain ⟨s1, hs1, h⟩ := Option.map_eq_some_iff.1 h
     have e1 : s1 = s' := congrArg Prod.fst h
     obtain ⟨h1, e3⟩ := cV hs1
     have hk' := hk r (fun _ => rfl) Sm.rfl'
     rw [← e1, e3] at hk'
     refine aU hE (rL hw) (by rw [hd]; exact h1) ?_
     rw [hd]
     exact hk'
  | true =>
   have hw' := rL (r := r) hw
   obtain ⟨dst, op, ty, pos, af, gd⟩ := o
   cases hv : isV op with
   | true =>
    simp only [hv, cond_true] at h
    cases dst with
    | none => cases h
    | some d => exact yj T h hc hw' (hk r (fun _ => rfl) Sm.rfl')
   | false =>
    simp only [hv, cond_false] at h
    obtain ⟨s1, hs1, h⟩ := Option.map_eq_some_iff.1 h
    have e1 : s1 = s' := congrArg Prod.fst h
    subst e1
    exact zk T hB hs1 hw' hk
end
end
section
open Go.RowKit
abbrev RS := Option (S1 × CB)
def xZ (c : CB) : RS → RS := fun r => r.map fun v => (v.1, c ++ v.2)
theorem l9 {c : CB} {r : RS} {v : S1} {cs : CB} (h : xZ c r = some (v, cs)) : ∃ cs', r = some (v, cs') ∧ cs = c ++ cs' := by
 cases r with
 | none => cases h
 | some q => cases h; exact ⟨q.2, rfl, rfl⟩
/-! ### Lists of operations -/
def xO {P : Program} {G : Cls} (T : Tb P G) (fs : List Nat) (N : Nat) (ops : Array Oper) : List Oper → St → Pa → (St → Pa → RS) → RS
 | [], s, p, k => k s p
 | o :: r, s, p, k => (stp T fs N ops o s p).bind fun q => xZ q.2.2 (xO T fs N ops r q.1 q.2.1 k)
section
variable {P : Program} {G : Cls} {ro : Option Nat} {ops : Array Oper} {fs : List Nat} {N : Nat} {ds : List Deferred} {B : Bs}
theorem nb (T : Tb P G) (hB : BOk G B) {Z : Fr → Cls → Prop} {v : S1} {k : St → Pa → RS} {r0 : Nat → Vw} (hk : ∀ s' p' cs' r, Sm N r0 r → k s' p' = some (v, cs') → Ok cs' → Z (dF r s'.1) (Hp B (dL r s'.2))) : ∀ {l : List Oper} {s : St} {p : Pa} {cs : CB}, xO T fs N ops l s p k = some (v, cs) → Ok cs → ∀ r, Sm N r0 r → Lx P G ro ops N ds (EE fs) Z l (dF r s.1) (Hp B (dL r s.2))
 | [], s, p, cs, h, hc, r, hr => aa (hk s p cs r hr h hc)
 | o :: l, s, p, cs, h, hc, r, hr => by
  obtain ⟨q, h1, h⟩ := Option.bind_eq_some_iff.1 h
  obtain ⟨cs', h2, e⟩ := l9 h
  rw [e] at hc
  exact ql T hB (s' := q.1) (p' := q.2.1) (cs := q.2.2) h1 hc.l r (fun r' _ hr' => nb T hB hk h2 hc.r r' (fun n hn => (hr' n hn).trans (hr n hn)))
end
/-! ### Stores beside reads of other variables -/
def ltS (ms : List Nat) : SL → SL
 | [] => []
 | e :: L => bif ms.any (Nat.beq e.1) then ltS ms L else e :: ltS ms L
theorem pL {ms : List Nat} {n : Nat} {x : List Zp × TypeId} : ∀ {L : SL}, lkL (ltS ms L) n = some x → lkL L n = some x ∧ ms.any (Nat.beq n) = false
 | [], h => by cases h
 | (d, v) :: L, h => by
  unfold ltS at h
  cases hm : ms.any (Nat.beq d) with
  | true =>
   simp only [hm, cond_true] at h
   obtain ⟨h1, h2⟩ := pL h
   refine ⟨?_, h2⟩
   show (bif Nat.beq d n then some v else lkL L n) = some x
   cases hb : Nat.beq d n with
   | true => rw [Nat.eq_of_beq_eq_true hb, h2] at hm; cases hm
   | false => exact h1
  | false =>
   simp only [hm, cond_false] at h
   have h : (bif Nat.beq d n then some v else lkL (ltS ms L) n) = some x := h
   show (bif Nat.beq d n then some v else lkL L n) = some x ∧ _
   cases hb : Nat.beq d n with
   | true =>
    rw [hb] at h
    exact ⟨h, by rw [← Nat.eq_of_beq_eq_true hb]; exact hm⟩
   | false =>
    rw [hb] at h
    exact pL h
def E7 (s : SF) (o : Oper) : Option Nat :=
 match o with
 | ⟨none, .store _ x _, _, _, _, _⟩ => (evS s x).bind fun u => (i5 u).map (·.1)
 | _ => none
def rP (l : List Oper) (F : SF) : Nat → Operand → Option Nat
 | 0, _ => none
 | n + 1, x => match (evS F x).bind i5 with
  | some p => some p.1
  | none => match x with
   | .tmp t => (l.find? fun o => match o.dst with
     | some d => Nat.beq d t
     | none => false).bind fun o => match o.op with
     | .fieldAddr _ y _ => rP l F n y
     | .nilCheck y => rP l F n y
     | .move y => rP l F n y
     | _ => none
   | _ => none
def stoR (l : List Oper) (F : SF) (o : Oper) : Option Nat :=
 match o with
 | ⟨none, .store _ x _, _, _, _, _⟩ => rP l F 5 x
 | _ => none
def xQ {P : Program} {G : Cls} (T : Tb P G) (N : Nat) (ops : Array Oper) (ms : List Nat) : List Oper → St → Pa → (St → Pa → RS) → RS
 | [], s, p, k => k s p
 | o :: r, s, p, k =>
  bif EE [] o then
   (E7 s.1 o).bind fun b => bif ms.any (Nat.beq b) then (stp T [] N ops o s p).bind fun q => xZ q.2.2 (xQ T N ops ms r q.1 q.2.1 k) else none
  else (stp T [] N ops o (s.1, ltS ms s.2) p).bind fun q => xZ q.2.2 (xQ T N ops ms r (q.1.1, s.2) q.2.1 k)
section
variable {P : Program} {G : Cls} {ro : Option Nat} {ops : Array Oper} {N : Nat} {ds : List Deferred} {B : Bs}
theorem tD (hB : BOk G B) (ms : List Nat) (r : Nat → Vw) (L : SL) : ∀ w, Hp B (dL r L) w → Hp B (dL r (ltS ms L)) w := fun w hw => hw.less hB.r fun n x h => by
 rw [jK] at h ⊢
 obtain ⟨c, hc, e⟩ := Option.map_eq_some_iff.1 h
 rw [(pL hc).1]
 exact congrArg some e
theorem GJ (T : Tb P G) {o : Oper} {s s' : St} {p p' : Pa} {cs : CB} {b : Nat} {ms : List Nat} (hb : E7 s.1 o = some b) (hm : ms.any (Nat.beq b) = true) (h : stp T [] N ops o s p = some (s', p', cs)) : ltS ms s'.2 = ltS ms s.2 := by
 obtain ⟨dst, op, ty, pos, af, gd⟩ := o
 cases dst with
 | some d => cases hb
 | none =>
  cases op with
  | store t x y =>
   obtain ⟨u, hu, hb⟩ := Option.bind_eq_some_iff.1 hb
   obtain ⟨q, hq, e⟩ := Option.map_eq_some_iff.1 hb
   unfold stp at h
   cases hw : nh ops s.1 ⟨none, .store t x y, ty, pos, af, gd⟩ with
   | none => rw [hw] at h; cases h
   | some g =>
    rw [hw] at h
    cases g with
    | false => cases h
    | true =>
     obtain ⟨s1, h0, e1⟩ := Option.map_eq_some_iff.1 (show (DE T [] N s none (.store t x y)).map (fun s' => (s', p, ([] : CB))) = some (s', p', cs) from h)
     clear h
     have h := h0
     have e1 : s1 = s' := congrArg Prod.fst e1
     subst e1
     obtain ⟨u', hu', h⟩ := Option.bind_eq_some_iff.1 h
     obtain ⟨q', hq', h⟩ := Option.bind_eq_some_iff.1 h
     obtain ⟨v, hv, h⟩ := Option.bind_eq_some_iff.1 h
     obtain ⟨l, hl, h⟩ := Option.bind_eq_some_iff.1 h
     obtain ⟨c, hc, h⟩ := Option.bind_eq_some_iff.1 h
     obtain ⟨k, hz, h⟩ := Option.bind_eq_some_iff.1 h
     obtain ⟨h1, h2, h⟩ := fG h
     cases h
     cases hu.symm.trans hu'
     cases hq.symm.trans hq'
     show (bif ms.any (Nat.beq q.1) then ltS ms s.2 else _) = ltS ms s.2
     rw [show q.1 = b from e, hm]
     rfl
  | _ => cases hb
theorem Gd {o : Oper} (h : EE [] o = false) : mks o.op = false := by
 obtain ⟨dst, op, ty, pos, af, gd⟩ := o
 cases op <;> first | rfl | cases h
theorem uz (T : Tb P G) (hB : BOk G B) {Z : Fr → Cls → Prop} {v : S1} {k : St → Pa → RS} {ms : List Nat} {L0 : SL} {r : Nat → Vw} (hk : ∀ s' p' cs', k s' p' = some (v, cs') → Ok cs' → Z (dF r s'.1) (Hp B (dL r s'.2))) : ∀ {l : List Oper} {s : St} {p : Pa} {cs : CB}, xQ T N ops ms l s p k = some (v, cs) → Ok cs → ltS ms s.2 = L0 → LxK P G ro ops N ds (EE []) (fun X => X = Hp B (dL r L0)) (fun _ => true) cN Z l (dF r s.1) (Hp B (dL r s.2))
 | [], s, p, cs, h, hc, _ => mz (hk s p cs h hc)
 | o :: l, s, p, cs, h, hc, hL => by
  unfold xQ at h
  cases hE : EE [] o with
  | true =>
   rw [hE] at h
   obtain ⟨b, hb, h⟩ := Option.bind_eq_some_iff.1 h
   obtain ⟨hm, h⟩ := cX h
   obtain ⟨q, h1, h⟩ := Option.bind_eq_some_iff.1 h
   obtain ⟨cs', h2, e⟩ := l9 h
   rw [e] at hc
   have hL' : ltS ms q.1.2 = L0 := (GJ T (s' := q.1) (p' := q.2.1) (cs := q.2.2) hb hm h1).trans hL
   refine nL hE (ql T hB (s' := q.1) (p' := q.2.1) (cs := q.2.2) h1 hc.l r fun r' hr _ => aa ?_)
   have hr : r' = r := hr (by
    obtain ⟨dst, op, ty, pos, af, gd⟩ := o
    cases dst with
    | some d => cases hb
    | none => cases op <;> first | rfl | cases hb)
   subst hr
   refine ⟨fun _ X hX _ => ?_, uz T hB hk h2 hc.r hL'⟩
   rw [hX, ← hL']
   exact tD hB ms r' q.1.2
  | false =>
   rw [hE] at h
   obtain ⟨q, h1, h⟩ := Option.bind_eq_some_iff.1 h
   obtain ⟨cs', h2, e⟩ := l9 h
   rw [e] at hc
   refine ry (X := Hp B (dL r (ltS ms s.2))) hE (tD hB ms r s.2) (fun _ => by rw [hL]) (ql T hB (s := (s.1, ltS ms s.2)) (s' := q.1) (p' := q.2.1) (cs := q.2.2) h1 hc.l r fun r' hr _ => aa ?_)
   have hr : r' = r := hr (Gd hE)
   subst hr
   exact uz T hB hk (s := (q.1.1, s.2)) h2 hc.r hL
end
/-! ### Regions that draw their order -/
def grd (ops : Array Oper) : Nat → Array Bool → List Nat
 | 0, _ => []
 | n + 1, listed =>
  let R := Region.ready .any ops listed
  match (R.find? fun i => (ops[i]?).any fun o => !EE [] o).orElse (fun _ => R.head?) with
  | none => []
  | some i => i :: grd ops n (listed.setIfInBounds i true)
def alS {P : Program} {G : Cls} (T : Tb P G) (N : Nat) : Nat → List Oper → Option (List (Nat × Nat × TypeId × Nat))
 | _, [] => some []
 | k, o :: r => (alS T N (k + 1) r).bind fun q =>
  match o with
  | ⟨some d, .alloc t, _, _, _, none⟩ => (T.sz t).bind fun m => bif Nat.blt d N then some ((k, d, t, m) :: q) else none
  | ⟨_, .alloc _, _, _, _, _⟩ => none
  | ⟨_, .box _ _, _, _, _, _⟩ => none
  | _ => some q
def E4 (ops : Array Oper) : List Nat → List Nat → List Nat
 | dep, [] => dep
 | dep, i :: r => E4 ops (bif !dep.any (Nat.beq i) && dep.any (fun j => waits .any ops i j) then i :: dep else dep) r
def AlS (a : Nat × Nat × TypeId × Nat) : AL := ⟨a.1, a.2.1, a.2.2.1, clv (List.replicate a.2.2.2 0)⟩
def mkF (a : Nat × Nat × TypeId × Nat) : Nat × S1 := (a.2.1, .inl (.inr (.inr (.inr (a.2.1, 0)))))
def mkL (a : Nat × Nat × TypeId × Nat) : Nat × List Zp × TypeId := (a.2.1, List.replicate a.2.2.2 0, a.2.2.1)
def xR {P : Program} {G : Cls} (T : Tb P G) (N : Nat) (l : List Oper) (draw : Bool) (s : St) (p : Pa) (k : St → Pa → RS) : RS :=
 bif draw then
  bif Region.noSelect l.toArray && cS l.toArray then
   (alS T N 0 l).bind fun As =>
    match As with
    | [] =>
     let σ := grd l.toArray l.length (Array.replicate l.toArray.size false)
     bif Nat.beq σ.length l.length && du .any l.toArray (EE []) σ (Array.replicate l.toArray.size false) then xO T [] N l.toArray (eM σ l) s p k else
     bif Nat.beq σ.length l.length && gF .any l.toArray (EE []) (fun _ => true) cN σ (Array.replicate l.toArray.size false) then xQ T N l.toArray (l.filterMap (stoR l s.1)) (eM σ l) s p k else none
    | A :: As =>
     let ks := (A :: As).map (·.1)
     let dep := E4 l.toArray ks (List.range l.length)
     let σ1 := (List.range l.length).filter fun i => !dep.any (Nat.beq i)
     let σ2 := (List.range l.length).filter fun i => dep.any (Nat.beq i) && !ks.any (Nat.beq i)
     let l0 := Array.replicate l.toArray.size false
     let l1 := fw ks (fw σ1 l0)
     bif Nat.beq (σ1.length + (ks.length + σ2.length)) l.length && lO .any l.toArray (EE [2999999]) σ1 l0 && kh .any l.toArray l1 ks.length ks (fw σ1 l0) && jA .any l.toArray l1 && du .any l.toArray (EE [2999999]) σ2 l1 && decide (((A :: As).map (·.2.1)).Nodup) then
      xO T [2999999] N l.toArray (eM σ1 l) s p fun s1 p1 =>
       bif (A :: As).all (fun a => eO a.2.1 s1 && (lkS s1.1 a.2.1).isNone && (lkL s1.2 a.2.1).isNone) then xO T [2999999] N l.toArray (eM σ2 l) ((A :: As).map mkF ++ s1.1, (A :: As).map mkL ++ s1.2) p1 k else none
     else none
  else none
 else xO T [] N l.toArray l s p k
def ups (ds : List Nat) (adr : Nat → Nat) (r : Nat → Vw) : Nat → Vw := fun n => bif ds.any (Nat.beq n) then (adr n, none) else r n
theorem Sm.ups {N : Nat} {r0 r : Nat → Vw} (h : Sm N r0 r) {ds : List Nat} (hd : ∀ d ∈ ds, Nat.blt d N = true) (adr : Nat → Nat) : Sm N r0 (ups ds adr r) := fun n hn => by
 have k : ds.any (Nat.beq n) = false := by
  rw [List.any_eq_false]
  intro d hd' hb
  have h1 : d < N := by simpa using hd d hd'
  have := Nat.eq_of_beq_eq_true hb
  omega
 rw [YtpnpiblphnpfiaaGreatDoor.ups, k]
 exact h n hn
theorem u1 {ds : List Nat} {adr : Nat → Nat} {r : Nat → Vw} {s : S0} (h : ∀ d ∈ ds, noS d s = true) : dn (ups ds adr r) s = dn r s := by
 rcases s with l | c | v | p
 ·rfl
 ·rfl
 ·rfl
 ·show Value.pointer (some ⟨(ups ds adr r p.1).1, vof (ups ds adr r p.1) (6 * p.2), none⟩) = .pointer (some ⟨(r p.1).1, vof (r p.1) (6 * p.2), none⟩)
  have e : ds.any (Nat.beq p.1) = false := by
   rw [List.any_eq_false]
   intro d hd
   have h : (!Nat.beq p.1 d) = true := h d hd
   cases hb : Nat.beq p.1 d <;> rw [hb] at h <;> first | exact Bool.false_ne_true | cases h
  rw [ups, e]; rfl
theorem yS {ds : List Nat} {adr : Nat → Nat} {r : Nat → Vw} {s : S1} (h : ∀ d ∈ ds, x6 d s = true) : dn1 (ups ds adr r) s = dn1 r s := by
 rcases s with s | l
 ·exact u1 h
 ·show Value.tuple (l.map (dn (ups ds adr r))).toArray = .tuple (l.map (dn r)).toArray
  rw [List.map_congr_left (fun x hx => u1 (fun d hd => List.all_eq_true.1 (h d hd) x hx))]
theorem C7 {ds : List Nat} {adr : Nat → Nat} {r : Nat → Vw} {s : St} (h : ∀ d ∈ ds, eO d s = true) : dF (ups ds adr r) s.1 = dF r s.1 :=
 List.map_congr_left fun e he => by
  rw [yS (fun d hd => ?_)]
  have := h d hd
  rw [eO, Bool.and_eq_true] at this
  exact List.all_eq_true.1 this.1 e he
theorem Dk {ds : List Nat} {adr : Nat → Nat} {r : Nat → Vw} {s : St} (h : ∀ d ∈ ds, eO d s = true) : dL (ups ds adr r) s.2 = dL r s.2 :=
 List.map_congr_left fun e he => by
  have k : ds.any (Nat.beq e.1) = false := by
   rw [List.any_eq_false]
   intro d hd
   have := h d hd
   rw [eO, Bool.and_eq_true] at this
   have h := List.all_eq_true.1 this.2 e he
   cases hb : Nat.beq e.1 d <;> rw [hb] at h <;> first | exact Bool.false_ne_true | cases h
  rw [show ups ds adr r e.1 = r e.1 from by rw [ups, k]; rfl]
theorem vB {ds : List Nat} {adr : Nat → Nat} {r : Nat → Vw} {n : Nat} (h : n ∈ ds) : ups ds adr r n = (adr n, none) := by
 have e : ds.any (Nat.beq n) = true := List.any_eq_true.2 ⟨n, h, Nat.beq_refl n⟩
 rw [ups, e]; rfl
section
variable {P : Program} {G : Cls} {ro : Option Nat} {N : Nat} {ds : List Deferred} {B : Bs} {K : KK}
theorem B1 {a : Bool} {α : Type} {x y : Option α} {z : α} (h : (bif a then x else y) = some z) : (a = true ∧ x = some z) ∨ y = some z := by
 cases a with
 | true => exact .inl ⟨rfl, h⟩
 | false => exact .inr h
theorem vX (T : Tb P G) {ro : Option Nat} {l0 : List Oper} : ∀ {l : List Oper} {k : Nat} {As : List (Nat × Nat × TypeId × Nat)}, (∀ i o, l[i]? = some o → l0.toArray[k + i]? = some o) → alS T N k l = some As → ∀ x ∈ As.map AlS, ij P ro l0.toArray (EE [2999999]) N x
 | [], k, As, _, h, x, hx => by cases h; cases hx
 | o :: l, k, As, hl, h, x, hx => by
  obtain ⟨q, hq, h⟩ := Option.bind_eq_some_iff.1 h
  have ih := vX T (ro := ro) (l0 := l0) (l := l) (k := k + 1) (fun i o' ho => by rw [show k + 1 + i = k + (i + 1) by omega]; exact hl (i + 1) o' ho) hq
  have h0 := hl 0 o rfl
  rw [Nat.add_zero] at h0
  split at h
  ·obtain ⟨m, hm, h⟩ := Option.bind_eq_some_iff.1 h
   obtain ⟨hd, h⟩ := cX h
   cases h
   rw [List.map_cons, List.mem_cons] at hx
   rcases hx with rfl | hx
   ·exact bB h0 (T.hsz _ m hm).2.2 hd
   ·exact ih x hx
  ·cases h
  ·cases h
  ·cases h; exact ih x hx
theorem uk (T : Tb P G) : ∀ {l : List Oper} {k : Nat} {As : List (Nat × Nat × TypeId × Nat)}, alS T N k l = some As → ∀ a ∈ As, Nat.blt a.2.1 N = true
 | [], k, As, h, x, hx => by cases h; cases hx
 | o :: l, k, As, h, x, hx => by
  obtain ⟨q, hq, h⟩ := Option.bind_eq_some_iff.1 h
  have ih := uk T (l := l) (k := k + 1) hq
  split at h
  ·obtain ⟨m, hm, h⟩ := Option.bind_eq_some_iff.1 h
   obtain ⟨hd, h⟩ := cX h
   cases h
   rcases List.mem_cons.1 hx with rfl | hx
   ·exact hd
   ·exact ih x hx
  ·cases h
  ·cases h
  ·cases h; exact ih x hx
theorem EN (As : List (Nat × Nat × TypeId × Nat)) : (As.map AlS).map (·.d) = As.map (·.2.1) := by rw [List.map_map]; rfl
theorem wL (As : List (Nat × Nat × TypeId × Nat)) : (As.map AlS).map (·.k) = As.map (·.1) := by rw [List.map_map]; rfl
theorem G0 {As : List (Nat × Nat × TypeId × Nat)} {adr : Nat → Nat} {r : Nat → Vw} {s : St} (h : ∀ a ∈ As, eO a.2.1 s = true) : FS (As.map AlS) adr (dF r s.1) = dF (ups (As.map (·.2.1)) adr r) (As.map mkF ++ s.1) := by
 have hd : ∀ d ∈ As.map (·.2.1), eO d s = true := fun d hd => by
  obtain ⟨a, ha, rfl⟩ := List.mem_map.1 hd
  exact h a ha
 show (As.map AlS).map _ ++ dF r s.1 = List.map _ (As.map mkF ++ s.1)
 rw [List.map_append, List.map_map, List.map_map]
 refine congr (congrArg _ (List.map_congr_left fun a ha => ?_)) (C7 hd).symm
 show (a.2.1, Value.pointer (some ⟨adr a.2.1, 0, none⟩)) = (a.2.1, Value.pointer (some ⟨(ups (As.map (·.2.1)) adr r a.2.1).1, vof (ups (As.map (·.2.1)) adr r a.2.1) (6 * 0), none⟩))
 rw [vB (List.mem_map.2 ⟨a, ha, rfl⟩)]; rfl
theorem Gx {As : List (Nat × Nat × TypeId × Nat)} {adr : Nat → Nat} {r : Nat → Vw} {s : St} (h : ∀ a ∈ As, eO a.2.1 s = true) : LS (As.map AlS) adr (dL r s.2) = dL (ups (As.map (·.2.1)) adr r) (As.map mkL ++ s.2) := by
 have hd : ∀ d ∈ As.map (·.2.1), eO d s = true := fun d hd => by
  obtain ⟨a, ha, rfl⟩ := List.mem_map.1 hd
  exact h a ha
 show (As.map AlS).map _ ++ dL r s.2 = List.map _ (As.map mkL ++ s.2)
 rw [List.map_append, List.map_map, List.map_map]
 refine congr (congrArg _ (List.map_congr_left fun a ha => ?_)) (Dk hd).symm
 show (a.2.1, adr a.2.1, clv (List.replicate a.2.2.2 0), a.2.2.1) = (a.2.1, (ups (As.map (·.2.1)) adr r a.2.1).1, gJ (ups (As.map (·.2.1)) adr r a.2.1) (clv (List.replicate a.2.2.2 0)), a.2.2.1)
 rw [vB (List.mem_map.2 ⟨a, ha, rfl⟩)]; rfl
theorem xR_X (T : Tb P G) (hm : P.follows .mixedOrders = true) (hB : BOk G B) {id : Nat} {l : List Oper} {draw : Bool} {s : St} {p : Pa} {k : St → Pa → RS} {v : S1} {cs : CB} (h : xR T N l draw s p k = some (v, cs)) (hc : Ok cs) {r0 : Nat → Vw} (hk : ∀ s' p' cs' r, Sm N r0 r → k s' p' = some (v, cs') → Ok cs' → K .normal ds (dF r s'.1) (Hp B (dL r s'.2))) (r : Nat → Vw) (hr : Sm N r0 r) :
  X P G ro N ds (.region id l.toArray draw) (dF r s.1) (Hp B (dL r s.2)) K := by
 cases draw with
 | false => exact av (nb T hB (Z := K .normal ds) hk h hc r hr)
 | true =>
  obtain ⟨hs, hd, h⟩ := fG h
  obtain ⟨As, hA, h⟩ := Option.bind_eq_some_iff.1 h
  cases As with
  | nil =>
   rcases B1 h with ⟨h1, h⟩ | h
   ·rw [Bool.and_eq_true] at h1
    exact xK _ hm (Nat.eq_of_beq_eq_true h1.1) hs hd h1.2 (nb T hB (Z := K .normal ds) hk h hc r hr)
   ·obtain ⟨h1, h2, h⟩ := fG h
    exact mT _ _ _ _ hm (Nat.eq_of_beq_eq_true h1) hs hd h2 (uz T hB (Z := K .normal ds) (fun s' p' cs' => hk s' p' cs' r hr) h hc rfl)
  | cons A As =>
   obtain ⟨h1, h⟩ := cX h
   generalize hq : A :: As = AA at hA h h1
   simp only [Bool.and_eq_true] at h1
   obtain ⟨⟨⟨⟨⟨c1, c2⟩, c3⟩, c4⟩, c5⟩, c6⟩ := h1
   refine rC _ (AA.map AlS) _ hm (by rw [List.length_map]; have := Nat.eq_of_beq_eq_true c1; rw [List.length_map] at this; exact this) hs hd c2 (by rw [wL, List.length_map]; rw [List.length_map] at c3; exact c3) (by rw [wL]; exact c4) (by rw [wL]; exact c5) (by rw [EN]; exact of_decide_eq_true c6) (vX T (l0 := l) (fun i o ho => by rw [Nat.zero_add, List.getElem?_toArray]; exact ho) hA) ?_
   refine nb T hB (r0 := r0) (fun s1 p1 cs1 r' hr' h hc => ?_) h hc r hr
   obtain ⟨hf, h⟩ := cX h
   have hf' : ∀ a ∈ AA, eO a.2.1 s1 = true ∧ lkS s1.1 a.2.1 = none ∧ lkL s1.2 a.2.1 = none := fun a ha => by
    have := List.all_eq_true.1 hf a ha
    simp only [Bool.and_eq_true, Option.isNone_iff_eq_none] at this
    exact ⟨this.1.1, this.1.2, this.2⟩
   refine ⟨B, dL r' s1.2, rfl, hB, fun x hx => ?_, fun x hx => ?_, fun adr => ?_⟩
   ·obtain ⟨a, ha, rfl⟩ := List.mem_map.1 hx
    show lk (dF r' s1.1) a.2.1 = none
    rw [ll, (hf' a ha).2.1]; rfl
   ·obtain ⟨a, ha, rfl⟩ := List.mem_map.1 hx
    show lkB (dL r' s1.2) a.2.1 = none
    rw [jK, (hf' a ha).2.2]; rfl
   ·rw [G0 (fun a ha => (hf' a ha).1), Gx (fun a ha => (hf' a ha).1)]
    exact nb T hB (Z := K .normal ds) hk h hc _ (hr'.ups (fun d hd => by
     obtain ⟨a, ha, rfl⟩ := List.mem_map.1 hd
     exact uk T hA a ha) adr)
end
/-! ### Code -/
abbrev KS := St → Pa → RS
def xC {P : Program} {G : Cls} (T : Tb P G) (N : Nat) : Code → St → Pa → KS → (Nat → KS) → KS → RS
 | .skip, s, p, kn, _, _ => kn s p
 | .region _ ops draw, s, p, kn, _, _ => xR T N ops.toList draw s p kn
 | .seq a b, s, p, kn, ke, kr => xC T N a s p (fun s' p' => xC T N b s' p' kn ke kr) ke kr
 | .cond c a b, s, p, kn, ke, kr => (evS s.1 c).bind fun u => (mI u).bind fun q => bif q then xC T N a s p kn ke kr else xC T N b s p kn ke kr
 | .block id c, s, p, kn, ke, kr => xC T N c s p kn (fun i s' p' => bif Nat.beq i id then kn s' p' else ke i s' p') kr
 | .exit id, s, p, _, ke, _ => ke id s p
 | .ret, s, p, _, _, kr => kr s p
 | _, _, _, _, _, _ => none
section
variable {P : Program} {G : Cls} {N : Nat} {B : Bs}
abbrev KOk (N : Nat) (r0 : Nat → Vw) (B : Bs) (v : S1) (k : KS) (K : List Deferred → Fr → Cls → Prop) : Prop := ∀ s' p' cs' r, Sm N r0 r → k s' p' = some (v, cs') → Ok cs' → K [] (dF r s'.1) (Hp B (dL r s'.2))
theorem qe (T : Tb P G) (hm : P.follows .mixedOrders = true) (hB : BOk G B) {v : S1} {r0 : Nat → Vw} : ∀ (c : Code) {s : St} {p : Pa} {kn : KS} {ke : Nat → KS} {kr : KS} {cs : CB} {K : KK}, xC T N c s p kn ke kr = some (v, cs) → Ok cs →
  KOk N r0 B v kn (K .normal) → (∀ i, KOk N r0 B v (ke i) (K (.exit i))) → KOk N r0 B v kr (K .ret) → ∀ r, Sm N r0 r → X P G none N [] c (dF r s.1) (Hp B (dL r s.2)) K
 | .skip, s, p, kn, ke, kr, cs, K, h, hc, h1, h2, h3, r, hr => aD (h1 s p cs r hr h hc)
 | .region id ops draw, s, p, kn, ke, kr, cs, K, h, hc, h1, h2, h3, r, hr => by
  obtain ⟨l⟩ := ops
  exact xR_X (l := l) T hm hB h hc h1 r hr
 | .seq a b, s, p, kn, ke, kr, cs, K, h, hc, h1, h2, h3, r, hr => aj (qe T hm hB a (K := nW (fun ds' F' C' => X P G none N ds' b F' C' K) K) (kn := fun s' p' => xC T N b s' p' kn ke kr) (ke := ke) (kr := kr) h hc (fun s' p' cs' r' hr' hk hc' => qe T hm hB b hk hc' h1 h2 h3 r' hr') (fun i => h2 i) h3 r hr)
 | .cond c a b, s, p, kn, ke, kr, cs, K, h, hc, h1, h2, h3, r, hr => by
  obtain ⟨u, hu, h⟩ := Option.bind_eq_some_iff.1 h
  obtain ⟨q, hq, h⟩ := Option.bind_eq_some_iff.1 h
  rw [iW hq] at hu
  refine bZ (cM hu) (fun e => ?_) (fun e => ?_)
  ·rw [e] at h; exact qe T hm hB a h hc h1 h2 h3 r hr
  ·rw [e] at h; exact qe T hm hB b h hc h1 h2 h3 r hr
 | .block id c, s, p, kn, ke, kr, cs, K, h, hc, h1, h2, h3, r, hr => am (qe T hm hB c (K := mx id K) (kn := kn) (ke := fun i s' p' => bif Nat.beq i id then kn s' p' else ke i s' p') (kr := kr) h hc h1 (fun i s' p' cs' r' hr' hk hc' => by
   show (bif Nat.beq i id then K .normal else K (.exit i)) [] _ _
   cases hb : Nat.beq i id with
   | true => rw [hb] at hk; exact h1 s' p' cs' r' hr' hk hc'
   | false => rw [hb] at hk; exact h2 i s' p' cs' r' hr' hk hc') h3 r hr)
 | .exit id, s, p, kn, ke, kr, cs, K, h, hc, h1, h2, h3, r, hr => bf (h2 id s p cs r hr h hc)
 | .ret, s, p, kn, ke, kr, cs, K, h, hc, h1, h2, h3, r, hr => cG (h3 s p cs r hr h hc)
 | .loop _, _, _, _, _, _, _, _, h, _, _, _, _, _, _ => by cases h
 | .rangeFunc _ _ _ _, _, _, _, _, _, _, _, h, _, _, _, _, _, _ => by cases h
 | .scope _, _, _, _, _, _, _, _, h, _, _, _, _, _, _ => by cases h
 | .label _, _, _, _, _, _, _, _, h, _, _, _, _, _, _ => by cases h
 | .goto _, _, _, _, _, _, _, _, h, _, _, _, _, _, _ => by cases h
end
end
section
open Go.RowKit
/-! ### Results -/
def tr {P : Program} {G : Cls} (T : Tb P G) (s : St) : ResultVar → Option S0
 | .tmp t => (lkS s.1 t).bind re
 | .cell t ty => (lkS s.1 t).bind fun u => (i5 u).bind fun p => (lkL s.2 p.1).bind fun c => (T.sz ty).bind fun k => bif Nat.beq p.2 0 && Nat.beq c.1.length k then some (.inl c.1) else none
def pD {P : Program} {G : Cls} (T : Tb P G) (s : St) : List ResultVar → Option (List S0)
 | [] => some []
 | x :: r => (tr T s x).bind fun v => (pD T s r).bind fun l => some (v :: l)
def npS : S0 → Bool
 | .inr (.inr (.inr _)) => false
 | _ => true
theorem Ay {s : S0} (h : npS s = true) (r r' : Nat → Vw) : dn r s = dn r' s := by
 rcases s with l | c | v | p
 ·rfl
 ·rfl
 ·rfl
 ·cases h
def AZ {P : Program} {G : Cls} (T : Tb P G) (rs : List ResultVar) (s : St) : Option S1 := (pD T s rs).bind fun l => bif !l.all npS then none else
 match l with
 | [v] => some (.inl v)
 | l => some (.inr l)
section
variable {P : Program} {G : Cls} {N : Nat} {B : Bs} {ds : List Deferred}
def rv (tmps : Array Value) : ResultVar → Sem Value
 | .tmp t => Sem.pure (tmps.getD t undef)
 | .cell a t => do loadVar t (← asAddr (tmps.getD a undef))
theorem qk (fn : Func) (tmps : Array Value) : results fn tmps = (fn.results.mapM (rv tmps)).bind fun vs => Sem.pure (if h : vs.size = 1 then vs[0] else .tuple vs) := by
 unfold results
 refine congrArg (fun g : ResultVar → Sem Value => (fn.results.mapM g).bind fun vs : Array Value => Sem.pure (if h : vs.size = 1 then vs[0] else Value.tuple vs)) ?_
 funext x
 cases x <;> rfl
theorem o7 (T : Tb P G) {s : St} {r : Nat → Vw} {x : ResultVar} {v : S0} (h : tr T s x = some v) {a : Act} {w : World} (ha : Has N ds (dF r s.1) a) (hC : Hp B (dL r s.2) w) : (rv a.tmps x).run P w = .ok (dn r v) w := by
 cases x with
 | tmp t =>
  obtain ⟨u, hu, h⟩ := Option.bind_eq_some_iff.1 h
  rw [kU h] at hu
  have e := ha.get t (dn r v) (by rw [ll, hu]; rfl)
  show (Sem.pure (a.tmps.getD t undef)).run P w = _
  rw [Array.getD_eq_getD_getElem?, e]
  rfl
 | cell t ty =>
  obtain ⟨u, hu, h⟩ := Option.bind_eq_some_iff.1 h
  obtain ⟨p, hp, h⟩ := Option.bind_eq_some_iff.1 h
  obtain ⟨c, hc, h⟩ := Option.bind_eq_some_iff.1 h
  obtain ⟨k, hk, h⟩ := Option.bind_eq_some_iff.1 h
  obtain ⟨h1, h2, h⟩ := fG h
  cases h
  rw [gg hp] at hu
  have e1 := Nat.eq_of_beq_eq_true h1
  have e2 := Nat.eq_of_beq_eq_true h2
  have e := ha.get t (.pointer (some ⟨(r p.1).1, vof (r p.1) 0, none⟩)) (by rw [ll, hu]; show some (Value.pointer (some ⟨(r p.1).1, vof (r p.1) (6 * p.2), none⟩)) = _; rw [e1])
  have hb : lkB (dL r s.2) p.1 = some ((r p.1).1, gJ (r p.1) (clv c.1), c.2) := by rw [jK, hc]; rfl
  have hl := run_loadCells_list (P := P) w ⟨(r p.1).1, vof (r p.1) 0, none⟩ (clv c.1) (fun j v hv => by
   rw [Addr.add_mid, mu, Nat.zero_add]
   have k := cx (n := p.1) hb w hC (vof (r p.1) j) v (rB _ hv)
   rw [Nat.zero_add] at k
   exact k)
  rw [bI, e2] at hl
  have hz := T.hsz ty k hk
  simp [rv, e, asAddr, loadVar, hz.1, hz.2.1, hl, dn]
theorem kk (T : Tb P G) {s : St} {r : Nat → Vw} {a : Act} {w : World} (ha : Has N ds (dF r s.1) a) (hC : Hp B (dL r s.2) w) : ∀ {l : List ResultVar} {vs : List S0}, pD T s l = some vs → (l.mapM (rv a.tmps)).run P w = .ok (vs.map (dn r)) w
 | [], vs, h => by cases h; rfl
 | x :: l, vs, h => by
  obtain ⟨v, hv, h⟩ := Option.bind_eq_some_iff.1 h
  obtain ⟨q, hq, h⟩ := Option.bind_eq_some_iff.1 h
  cases h
  have e1 := o7 T hv ha hC
  have e2 := kk T ha hC hq
  rw [List.mapM_cons]
  simp only [Sem.run_bind, e1, Result.andThen_ok, e2, Sem.run_pure]
  rfl
theorem i6 (T : Tb P G) {fn : Func} {s : St} {r : Nat → Vw} {a : Act} {w : World} {v : S1} (h : AZ T fn.results.toList s = some v) (ha : Has N ds (dF r s.1) a) (hC : Hp B (dL r s.2) w) (r' : Nat → Vw) : (results fn a.tmps).run P w = .ok (dn1 r' v) w := by
 obtain ⟨vs, hv, h⟩ := Option.bind_eq_some_iff.1 h
 have e := kk T ha hC hv
 cases hn : vs.all npS with
 | false => rw [hn] at h; cases h
 | true =>
  rw [hn] at h
  rw [List.map_congr_left (fun x hx => Ay (List.all_eq_true.1 hn x hx) r r')] at e
  have e2 : (fn.results.mapM (rv a.tmps)).run P w = .ok (vs.map (dn r')).toArray w := by
   rw [Array.mapM_eq_mapM_toList]
   simp [e]
  rw [qk]
  show ((fn.results.mapM (rv a.tmps)) >>= fun vs => Sem.pure (if h : vs.size = 1 then vs[0] else .tuple vs)).run P w = _
  rw [Sem.run_bind, e2]
  rcases vs with _ | ⟨x, _ | ⟨y, t⟩⟩
  ·cases h; rfl
  ·cases h; rfl
  ·cases h
   simp only [Result.andThen_ok]
   rw [dif_neg (by simp)]
   rfl
end
/-! ### Functions -/
def enS : Nat → List S0 → SF
 | _, [] => []
 | k, v :: r => (k, .inl v) :: enS (k + 1) r
theorem pQ (r : Nat → Vw) : ∀ (k : Nat) (l : List S0), dF r (enS k l) = f9 k (l.map (dn r))
 | _, [] => rfl
 | k, v :: l => by
  show (k, dn r v) :: dF r (enS (k + 1) l) = (k, dn r v) :: f9 (k + 1) (l.map (dn r))
  rw [pQ r (k + 1) l]
def D1 {P : Program} {G : Cls} (T : Tb P G) (rs : List ResultVar) : KS := fun s _ => (AZ T rs s).map fun v => (v, [])
def xF {P : Program} {G : Cls} (T : Tb P G) (fn : Func) (c : Code) (a : List S0) (p : Pa) : RS := xC T fn.ntmps c (enS 0 a, []) p (D1 T fn.results.toList) (fun _ _ _ => none) (D1 T fn.results.toList)
theorem Bw {P : Program} {G : Cls} (T : Tb P G) (hm : P.follows .mixedOrders = true) (hG : ∀ w, G w → BOk G (pl w)) {f : FuncId} {fn : Func} (hf : P.funcs[f]? = some fn) {c : Code} (hb : fn.body = some c) {a : List S0} {v : S1} {p : Pa} {cs : CB} (h : xF T fn c a p = some (v, cs)) (hc : Ok cs) (hn : Nat.ble a.length fn.ntmps = true) (r : Nat → Vw) :
  Pure P G f (a.map (dn r)) (dn1 r v) := fun w hw => by
 refine aN (G := G) hf hb (by rw [List.length_map]; exact hn) (Hp (pl w) []) (aZ (pl w) trivial ai) (ap (hG w hw)) ?_
 rw [← pQ]
 have K0 : ∀ s' p' cs' r', Sm fn.ntmps r r' → D1 T fn.results.toList s' p' = some (v, cs') → Ok cs' → ([] : List Deferred) = [] ∧ ∀ a w1, Has fn.ntmps [] (dF r' s'.1) a → Hp (pl w) (dL r' s'.2) w1 → ∃ u, (results fn a.tmps).run P w1 = .ok u w1 ∧ ((Ending.returned u) = .returned (dn1 r v) ∧ Grow w w1) := fun s' p' cs' r' _ hk _ => by
  obtain ⟨u, hu, e⟩ := Option.map_eq_some_iff.1 hk
  have e : u = v := congrArg Prod.fst e
  rw [e] at hu
  exact ⟨rfl, fun a w1 ha hC => ⟨_, i6 T hu ha hC r, rfl, ac hC⟩⟩
 exact qe T hm (hG w hw) c (s := (enS 0 a, [])) h hc (fun s' p' cs' r' hr hk hc' => K0 s' p' cs' r' hr hk hc') (fun _ _ _ _ _ _ hk => by cases hk) (fun s' p' cs' r' hr hk hc' => K0 s' p' cs' r' hr hk hc') r Sm.rfl'
theorem aT : Ok [] := fun _ h => by cases h
theorem aY {a b : Bool} {c : CB} (h : a = b) (k : Ok c) : Ok ((a, b) :: c) := fun x hx => by
 rcases List.mem_cons.1 hx with rfl | hx
 ·exact h
 ·exact k x hx
end
section
open Go.RowKit
structure Ag (α : Type) where
 of : S0 → Option α
 dn : α → Value
 ok : ∀ s x r, of s = some x → YtpnpiblphnpfiaaGreatDoor.dn r s = dn x
structure Rd (β : Type) where
 to : β → S1
 dn : β → Value
 ok : ∀ y r, dn1 r (to y) = dn y
def c0 {γ : Type} (R : Rd γ) (g : γ) : List S0 → Option S1
 | [] => some (R.to g)
 | _ => none
def c1 {α γ : Type} (A : Ag α) (R : Rd γ) (g : α → γ) : List S0 → Option S1
 | [x] => (A.of x).bind fun a => some (R.to (g a))
 | _ => none
def c2 {α β γ : Type} (A : Ag α) (B : Ag β) (R : Rd γ) (g : α → β → γ) : List S0 → Option S1
 | [x, y] => (A.of x).bind fun a => (B.of y).bind fun b => some (R.to (g a b))
 | _ => none
def c3 {α β δ γ : Type} (A : Ag α) (B : Ag β) (D : Ag δ) (R : Rd γ) (g : α → β → δ → γ) : List S0 → Option S1
 | [x, y, z] => (A.of x).bind fun a => (B.of y).bind fun b => (D.of z).bind fun d => some (R.to (g a b d))
 | _ => none
def c4 {α β δ ε γ : Type} (A : Ag α) (B : Ag β) (D : Ag δ) (E : Ag ε) (R : Rd γ) (g : α → β → δ → ε → γ) : List S0 → Option S1
 | [x, y, z, u] => (A.of x).bind fun a => (B.of y).bind fun b => (D.of z).bind fun d => (E.of u).bind fun e => some (R.to (g a b d e))
 | _ => none
def c5 {α β δ ε ζ γ : Type} (A : Ag α) (B : Ag β) (D : Ag δ) (E : Ag ε) (F : Ag ζ) (R : Rd γ) (g : α → β → δ → ε → ζ → γ) : List S0 → Option S1
 | [x, y, z, u, t] => (A.of x).bind fun a => (B.of y).bind fun b => (D.of z).bind fun d => (E.of u).bind fun e => (F.of t).bind fun f => some (R.to (g a b d e f))
 | _ => none
section
variable {P : Program} {G : Cls} {f : Nat} {α β δ ε ζ γ : Type}
theorem GK (A : Ag α) (B : Ag β) (D : Ag δ) (E : Ag ε) (F : Ag ζ) (R : Rd γ) {g : α → β → δ → ε → ζ → γ} (en : ae P f) (h : ∀ a b d e t, Pure P G f [A.dn a, B.dn b, D.dn d, E.dn e, F.dn t] (R.dn (g a b d e t))) : Snd P G f (c5 A B D E F R g) := ⟨en, fun a v r e => by
 unfold c5 at e
 split at e
 ·obtain ⟨x, hx, e⟩ := Option.bind_eq_some_iff.1 e
  obtain ⟨y, hy, e⟩ := Option.bind_eq_some_iff.1 e
  obtain ⟨z, hz, e⟩ := Option.bind_eq_some_iff.1 e
  obtain ⟨u, hu, e⟩ := Option.bind_eq_some_iff.1 e
  obtain ⟨t, ht, e⟩ := Option.bind_eq_some_iff.1 e
  cases e
  rw [R.ok, List.map_cons, List.map_cons, List.map_cons, List.map_cons, List.map_cons, A.ok _ _ r hx, B.ok _ _ r hy, D.ok _ _ r hz, E.ok _ _ r hu, F.ok _ _ r ht]; exact h x y z u t
 ·cases e⟩
theorem nf (R : Rd γ) {g : γ} (en : ae P f) (h : Pure P G f [] (R.dn g)) : Snd P G f (c0 R g) := ⟨en, fun a v r e => by
 unfold c0 at e
 split at e
 ·cases e; rw [R.ok]; exact h
 ·cases e⟩
theorem ei (A : Ag α) (R : Rd γ) {g : α → γ} (en : ae P f) (h : ∀ a, Pure P G f [A.dn a] (R.dn (g a))) : Snd P G f (c1 A R g) := ⟨en, fun a v r e => by
 unfold c1 at e
 split at e
 ·obtain ⟨x, hx, e⟩ := Option.bind_eq_some_iff.1 e
  cases e
  rw [R.ok, List.map_cons, A.ok _ _ r hx]; exact h x
 ·cases e⟩
theorem dJ (A : Ag α) (B : Ag β) (R : Rd γ) {g : α → β → γ} (en : ae P f) (h : ∀ a b, Pure P G f [A.dn a, B.dn b] (R.dn (g a b))) : Snd P G f (c2 A B R g) := ⟨en, fun a v r e => by
 unfold c2 at e
 split at e
 ·obtain ⟨x, hx, e⟩ := Option.bind_eq_some_iff.1 e
  obtain ⟨y, hy, e⟩ := Option.bind_eq_some_iff.1 e
  cases e
  rw [R.ok, List.map_cons, List.map_cons, A.ok _ _ r hx, B.ok _ _ r hy]; exact h x y
 ·cases e⟩
theorem EQ (A : Ag α) (B : Ag β) (D : Ag δ) (R : Rd γ) {g : α → β → δ → γ} (en : ae P f) (h : ∀ a b d, Pure P G f [A.dn a, B.dn b, D.dn d] (R.dn (g a b d))) : Snd P G f (c3 A B D R g) := ⟨en, fun a v r e => by
 unfold c3 at e
 split at e
 ·obtain ⟨x, hx, e⟩ := Option.bind_eq_some_iff.1 e
  obtain ⟨y, hy, e⟩ := Option.bind_eq_some_iff.1 e
  obtain ⟨z, hz, e⟩ := Option.bind_eq_some_iff.1 e
  cases e
  rw [R.ok, List.map_cons, List.map_cons, List.map_cons, A.ok _ _ r hx, B.ok _ _ r hy, D.ok _ _ r hz]; exact h x y z
 ·cases e⟩
end
/-! ### Forms -/
structure Sh (α : Type) where
 of : List Zp → Option α
 to : α → List Zp
 ok : ∀ l x, of l = some x → to x = l
def Sh.ag {α : Type} (s : Sh α) : Ag α where
 of := fun v => match v with
  | .inl l => s.of l
  | _ => none
 dn := fun x => .agg (clv (s.to x)).toArray
 ok := fun v x r h => by
  rcases v with l | b | u | p
  ·rw [s.ok l x h]; rfl
  ·cases h
  ·cases h
  ·cases h
def Sh.rd {α : Type} (s : Sh α) : Rd α where
 to := fun x => .inl (.inl (s.to x))
 dn := fun x => .agg (clv (s.to x)).toArray
 ok := fun _ _ => rfl
def agU : Ag (BitVec 64) where
 of := fun v => match v with
  | .inr (.inr (.inl (.int .u64 (.ofNat n)))) => bif Nat.blt n 18446744073709551616 then some (BitVec.ofNat 64 n) else none
  | _ => none
 dn := fun b => U64 b
 ok := fun v x r h => by
  split at h
  ·rename_i n
   obtain ⟨h1, h⟩ := cX h
   cases h
   have h1 : n < 18446744073709551616 := by simpa using h1
   show Value.int .u64 (Int.ofNat n) = U64 (BitVec.ofNat 64 n)
   simp [U64, BitVec.toNat_ofNat]
   omega
  ·cases h
def agL (m : Nat) : Ag Unit where
 of := fun v => match v with
  | .inr (.inr (.inl (.int .u64 (.ofNat n)))) => bif Nat.beq n m && Nat.blt m 18446744073709551616 then some () else none
  | _ => none
 dn := fun _ => U64 (BitVec.ofNat 64 m)
 ok := fun v x r h => by
  split at h
  ·rename_i n
   obtain ⟨h1, h2, _⟩ := fG h
   have e := Nat.eq_of_beq_eq_true h1
   have h2 : m < 18446744073709551616 := by simpa using h2
   show Value.int .u64 (Int.ofNat n) = U64 (BitVec.ofNat 64 m)
   rw [e]
   simp [U64, BitVec.toNat_ofNat]
   omega
  ·cases h
def rdB : Rd Bool := ⟨fun b => .inl (.inr (.inl b)), fun b => .bool b, fun _ _ => rfl⟩
def Sh.rdB {α : Type} (s : Sh α) : Rd (α × Bool) := ⟨fun x => .inr [.inl (s.to x.1), .inr (.inl x.2)], fun x => .tuple #[.agg (clv (s.to x.1)).toArray, .bool x.2], fun _ _ => rfl⟩
def Sh.rdBB {α : Type} (s : Sh α) : Rd (α × α × Bool) := ⟨fun x => .inr [.inl (s.to x.1), .inl (s.to x.2.1), .inr (.inl x.2.2)], fun x => .tuple #[.agg (clv (s.to x.1)).toArray, .agg (clv (s.to x.2.1)).toArray, .bool x.2.2], fun _ _ => rfl⟩
def Sh.rd2 {α : Type} (s : Sh α) : Rd (α × α) := ⟨fun x => .inr [.inl (s.to x.1), .inl (s.to x.2)], fun x => .tuple #[.agg (clv (s.to x.1)).toArray, .agg (clv (s.to x.2)).toArray], fun _ _ => rfl⟩
def q1 : Sh Zp where
 of := fun l => match l with
  | [x] => some x
  | _ => none
 to := fun x => [x]
 ok := fun l x h => by
  split at h
  ·cases h; rfl
  ·cases h
def Sh.two {α β : Type} (s : Sh α) (t : Sh β) (n : Nat) : Sh (α × β) where
 of := fun l => (s.of (l.take n)).bind fun x => (t.of (l.drop n)).bind fun y => some (x, y)
 to := fun x => s.to x.1 ++ t.to x.2
 ok := fun l x h => by
  obtain ⟨a, ha, h⟩ := Option.bind_eq_some_iff.1 h
  obtain ⟨b, hb, h⟩ := Option.bind_eq_some_iff.1 h
  cases h
  rw [s.ok _ _ ha, t.ok _ _ hb, List.take_append_drop]
def q2 : Sh (Zp × Zp) := q1.two q1 1
end
section
open Go.RowKit
def B4 {P : Program} {G : Cls} (T : Tb P G) (rs : List ResultVar) (t : TypeId) : KS := fun s _ => (AZ T rs s).bind fun v => (re v).bind fun u => (lkL s.2 1000000).bind fun c => bif Nat.beq c.2 t then some (.inr [u, .inl c.1], []) else none
def xM {P : Program} {G : Cls} (T : Tb P G) (fn : Func) (c : Code) (a : List S0) (l : List Zp) (t : TypeId) (p : Pa) : RS := xC T fn.ntmps c (enS 0 (.inr (.inr (.inr (1000000, 0))) :: a), [(1000000, l, t)]) p (B4 T fn.results.toList t) (fun _ _ _ => none) (B4 T fn.results.toList t)
theorem yB {P : Program} {G : Cls} (T : Tb P G) (hm : P.follows .mixedOrders = true) {f : FuncId} {fn : Func} (hf : P.funcs[f]? = some fn) {c : Code} (hb : fn.body = some c) {a : List S0} {l l' : List Zp} {t : TypeId} {u : S0} {p : Pa} {cs : CB} (h : xM T fn c a l t p = some (.inr [u, .inl l'], cs)) (hc : Ok cs) (hn : Nat.ble (a.length + 1) fn.ntmps = true) (hN : Nat.ble fn.ntmps 1000000 = true) (ha : a.all npS = true)
  {b : Nat} {pre post : List Value} {w : World} (hG : BOk G (plM w (fun k => k = b))) (ho : OwnB w b (pre ++ (clv l ++ post)) t) :
  Calls P f (.pointer (some ⟨b, pre.length, none⟩) :: a.map (dn rid)).toArray w (fun e w' => e = .returned (dn rid u) ∧ Mod b w w' ∧ OwnB w' b (pre ++ (clv l' ++ post)) t) := by
 obtain ⟨r0, hr0⟩ : ∃ r0 : Nat → Vw, r0 = fun n => bif Nat.beq n 1000000 then (b, some (pre, post)) else (n, none) := ⟨_, rfl⟩
 have e0 : r0 1000000 = (b, some (pre, post)) := by rw [hr0]; rfl
 refine aN (G := G) hf hb (by rw [List.length_cons, List.length_map]; exact hn) (Hp (plM w (fun k => k = b)) [(1000000, b, pre ++ (clv l ++ post), t)]) (Cq ho) (ap hG) ?_
 have eF : f9 0 (.pointer (some ⟨b, pre.length, none⟩) :: a.map (dn rid)) = dF r0 (enS 0 (.inr (.inr (.inr (1000000, 0))) :: a)) := by
  rw [pQ, List.map_cons, List.map_congr_left (fun x hx => Ay (List.all_eq_true.1 ha x hx) r0 rid)]
  show _ = f9 0 (.pointer (some ⟨(r0 1000000).1, vof (r0 1000000) (6 * 0), none⟩) :: _)
  rw [e0]; rfl
 have eL : ([(1000000, b, pre ++ (clv l ++ post), t)] : Hl) = dL r0 [(1000000, l, t)] := by
  show _ = [(1000000, (r0 1000000).1, gJ (r0 1000000) (clv l), t)]
  rw [e0]; rfl
 rw [eF, eL]
 have K0 : ∀ s' p' cs' r', Sm fn.ntmps r0 r' → B4 T fn.results.toList t s' p' = some (.inr [u, .inl l'], cs') → Ok cs' → ([] : List Deferred) = [] ∧ ∀ a w1, Has fn.ntmps [] (dF r' s'.1) a → Hp (plM w (fun k => k = b)) (dL r' s'.2) w1 → ∃ z, (results fn a.tmps).run P w1 = .ok z w1 ∧ ((Ending.returned z) = .returned (dn rid u) ∧ Mod b w w1 ∧ OwnB w1 b (pre ++ (clv l' ++ post)) t) := fun s' p' cs' r' hr hk _ => by
  obtain ⟨v, hv, hk⟩ := Option.bind_eq_some_iff.1 hk
  obtain ⟨z, hz, hk⟩ := Option.bind_eq_some_iff.1 hk
  obtain ⟨d, hd, hk⟩ := Option.bind_eq_some_iff.1 hk
  obtain ⟨ht, hk⟩ := cX hk
  have hk := congrArg Prod.fst (Option.some.inj hk)
  have e2 : z = u ∧ d.1 = l' := by
   have q := Sum.inr.inj hk
   have q1 := (List.cons.inj q).1
   have q2 := (List.cons.inj (List.cons.inj q).2).1
   exact ⟨q1, Sum.inl.inj q2⟩
  have e3 : v = .inl u := by rw [kU hz, e2.1]
  rw [e3] at hv
  have er : r' 1000000 = (b, some (pre, post)) := (hr 1000000 (Nat.le_of_ble_eq_true hN)).trans e0
  refine ⟨rfl, fun a w1 ha hC => ⟨_, i6 T hv ha hC rid, rfl, BL hC, ?_⟩⟩
  have hl : lkB (dL r' s'.2) 1000000 = some (b, pre ++ (clv l' ++ post), t) := by
   rw [jK, hd, ← e2.2, ← Nat.eq_of_beq_eq_true ht]
   show some ((r' 1000000).1, gJ (r' 1000000) (clv d.1), d.2) = _
   rw [er]; rfl
  exact (hC.own 1000000 _ _ _ hl).1
 exact qe T hm hG c (r0 := r0) (s := (enS 0 (.inr (.inr (.inr (1000000, 0))) :: a), [(1000000, l, t)])) h hc (fun s' p' cs' r' hr hk hc' => K0 s' p' cs' r' hr hk hc') (fun _ _ _ _ _ _ hk => by cases hk) (fun s' p' cs' r' hr hk hc' => K0 s' p' cs' r' hr hk hc') r0 Sm.rfl'
end
section
open Go.RowKit
theorem jZ : ∀ k, cel (List.replicate k 0) = List.replicate (6 * k) 0#64
 | 0 => rfl
 | k + 1 => by rw [List.replicate_succ, fc, jZ k, kF, List.replicate_append_replicate]; congr 1; omega
theorem e9 {t k : Nat} (h : ∀ w, (zeroValue t).run Tryz.prog w = .ok (.agg ((List.replicate (6 * k) 0#64).map U64).toArray) w) : ∀ w, (zeroValue t).run Tryz.prog w = .ok (.agg (clv (List.replicate k 0)).toArray) w := fun w => by rw [clv, jZ]; exact h w
def szL : List (Nat × Nat) := [(25, 1), (27, 1), (29, 3), (33, 2), (35, 6), (38, 1), (40, 1), (42, 2), (44, 12), (47, 6), (49, 12), (53, 6), (63, 1), (77, 9), (139, 6), (141, 12), (162, 22), (168, 2), (178, 6), (192, 12), (209, 16)]
def fsL : List (Nat × List (Nat × Nat)) := [(27, [(0, 1)]), (29, [(0, 1), (1, 1), (2, 1)]), (33, [(0, 1), (1, 1)]), (35, [(0, 2), (2, 2), (4, 2)]), (40, [(0, 1)]), (42, [(0, 1), (1, 1)]), (47, [(0, 2), (2, 2), (4, 2)]), (49, [(0, 6), (6, 6)]), (53, [(0, 2), (2, 2), (4, 2)]), (63, [(0, 1)]), (77, [(0, 3), (3, 6)]), (139, [(0, 2), (2, 2), (4, 2)]), (141, [(0, 1), (1, 1), (2, 2), (4, 2), (6, 2), (8, 2), (10, 2)])]
abbrev eH (t k : Nat) : Prop := (∀ w, (isAgg t).run Tryz.prog w = .ok true w) ∧ (∀ w, (sizeOf t).run Tryz.prog w = .ok (6 * k) w) ∧ ∀ w, (zeroValue t).run Tryz.prog w = .ok (.agg (clv (List.replicate k 0)).toArray) w
theorem sz25 : eH 25 1 := ⟨Tryz.isAgg25, Tryz.sizeOf25, e9 fun w => (Tryz.zeroValue25 w).trans (by rfl)⟩
theorem sz27 : eH 27 1 := ⟨Tryz.isAgg27, Tryz.sizeOf27, e9 fun w => (Tryz.zeroValue27 w).trans (by rfl)⟩
theorem sz29 : eH 29 3 := ⟨Tryz.isAgg29, Tryz.sizeOf29, e9 fun w => (Tryz.zeroValue29 w).trans (by rfl)⟩
theorem sz33 : eH 33 2 := ⟨Tryz.isAgg33, Tryz.sizeOf33, e9 fun w => (Tryz.zeroValue33 w).trans (by rfl)⟩
theorem sz35 : eH 35 6 := ⟨Tryz.isAgg35, Tryz.sizeOf35, e9 fun w => (Tryz.zeroValue35 w).trans (by rfl)⟩
theorem sz38 : eH 38 1 := ⟨Tryz.isAgg38, Tryz.sizeOf38, e9 fun w => (Tryz.zeroValue38 w).trans (by rfl)⟩
theorem sz40 : eH 40 1 := ⟨Tryz.isAgg40, Tryz.sizeOf40, e9 fun w => (Tryz.zeroValue40 w).trans (by rfl)⟩
theorem sz42 : eH 42 2 := ⟨Tryz.isAgg42, Tryz.sizeOf42, e9 fun w => (Tryz.zeroValue42 w).trans (by rfl)⟩
theorem sz44 : eH 44 12 := ⟨Tryz.isAgg44, Tryz.sizeOf44, e9 fun w => (Tryz.zeroValue44 w).trans (by rfl)⟩
theorem sz47 : eH 47 6 := ⟨Tryz.isAgg47, Tryz.sizeOf47, e9 fun w => (Tryz.zeroValue47 w).trans (by rfl)⟩
theorem sz49 : eH 49 12 := ⟨Tryz.isAgg49, Tryz.sizeOf49, e9 fun w => (Tryz.zeroValue49 w).trans (by rfl)⟩
theorem sz53 : eH 53 6 := ⟨Tryz.isAgg53, Tryz.sizeOf53, e9 fun w => (Tryz.zeroValue53 w).trans (by rfl)⟩
theorem sz63 : eH 63 1 := ⟨Tryz.isAgg63, Tryz.sizeOf63, e9 fun w => (Tryz.zeroValue63 w).trans (by rfl)⟩
theorem sz77 : eH 77 9 := ⟨Tryz.isAgg77, Tryz.sizeOf77, e9 fun w => (Tryz.zeroValue77 w).trans (by rfl)⟩
theorem EU : eH 139 6 := ⟨Tryz.isAgg139, Tryz.sizeOf139, e9 fun w => (Tryz.zeroValue139 w).trans (by rfl)⟩
theorem G8 : eH 141 12 := ⟨Tryz.isAgg141, Tryz.sizeOf141, e9 fun w => (Tryz.zeroValue141 w).trans (by rfl)⟩
theorem Ef : eH 162 22 := ⟨Tryz.isAgg162, Tryz.sizeOf162, e9 fun w => (Tryz.zeroValue162 w).trans (by rfl)⟩
theorem ET : eH 168 2 := ⟨Tryz.isAgg168, Tryz.sizeOf168, e9 fun w => (Tryz.zeroValue168 w).trans (by rfl)⟩
theorem Ge : eH 178 6 := ⟨Tryz.isAgg178, Tryz.sizeOf178, e9 fun w => (Tryz.zeroValue178 w).trans (by rfl)⟩
theorem Gw : eH 192 12 := ⟨Tryz.isAgg192, Tryz.sizeOf192, e9 fun w => (Tryz.zeroValue192 w).trans (by rfl)⟩
theorem GN : eH 209 16 := ⟨Tryz.isAgg209, Tryz.sizeOf209, e9 fun w => (Tryz.zeroValue209 w).trans (by rfl)⟩
theorem szOk (t k : Nat) (h : ji szL t = some k) : eH t k := by
 have h := fU h
 simp only [szL, List.mem_cons, List.not_mem_nil, or_false, Prod.mk.injEq] at h
 rcases h with ⟨rfl, rfl⟩ | ⟨rfl, rfl⟩ | ⟨rfl, rfl⟩ | ⟨rfl, rfl⟩ | ⟨rfl, rfl⟩ | ⟨rfl, rfl⟩ | ⟨rfl, rfl⟩ | ⟨rfl, rfl⟩ | ⟨rfl, rfl⟩ | ⟨rfl, rfl⟩ | ⟨rfl, rfl⟩ | ⟨rfl, rfl⟩ | ⟨rfl, rfl⟩ | ⟨rfl, rfl⟩ | ⟨rfl, rfl⟩ | ⟨rfl, rfl⟩ | ⟨rfl, rfl⟩ | ⟨rfl, rfl⟩ | ⟨rfl, rfl⟩ | ⟨rfl, rfl⟩ | ⟨rfl, rfl⟩
 ·exact sz25
 ·exact sz27
 ·exact sz29
 ·exact sz33
 ·exact sz35
 ·exact sz38
 ·exact sz40
 ·exact sz42
 ·exact sz44
 ·exact sz47
 ·exact sz49
 ·exact sz53
 ·exact sz63
 ·exact sz77
 ·exact EU
 ·exact G8
 ·exact Ef
 ·exact ET
 ·exact Ge
 ·exact Gw
 ·exact GN
abbrev ia (t : Nat) (l : List (Nat × Nat)) : Prop := ∃ fields, Tryz.prog.underlying t = some (.struct fields) ∧ (∀ w, (Array.mapM (fun f => Prod.mk f.offset <$> sizeOf f.type) fields : Sem _).run Tryz.prog w = .ok (l.map (fun p => (6 * p.1, 6 * p.2))).toArray w) ∧ ∀ (i : Nat) (p : Nat × Nat), l[i]? = some p → ∃ (fd : Field) (m : Nat), fields[i]? = some fd ∧ fd.offset = 6 * p.1 ∧ m ≠ 0 ∧ ∀ w, (sizeOf fd.type).run Tryz.prog w = .ok m w
theorem fs27 : ia 27 [(0, 1)] := by
 refine ⟨_, Tryz.underlying27, fun w => by simp [Tryz.sizeOf25], fun i p h => ?_⟩
 match i, h with
 | 0, h => cases h; exact ⟨_, 6, rfl, rfl, by decide, Tryz.sizeOf25⟩
 | n + 1, h => simp at h
theorem fs29 : ia 29 [(0, 1), (1, 1), (2, 1)] := by
 refine ⟨_, Tryz.underlying29, fun w => by simp [Tryz.sizeOf27], fun i p h => ?_⟩
 match i, h with
 | 0, h => cases h; exact ⟨_, 6, rfl, rfl, by decide, Tryz.sizeOf27⟩
 | 1, h => cases h; exact ⟨_, 6, rfl, rfl, by decide, Tryz.sizeOf27⟩
 | 2, h => cases h; exact ⟨_, 6, rfl, rfl, by decide, Tryz.sizeOf27⟩
 | n + 3, h => simp at h
theorem fs33 : ia 33 [(0, 1), (1, 1)] := by
 refine ⟨_, Tryz.underlying33, fun w => by simp [Tryz.sizeOf27], fun i p h => ?_⟩
 match i, h with
 | 0, h => cases h; exact ⟨_, 6, rfl, rfl, by decide, Tryz.sizeOf27⟩
 | 1, h => cases h; exact ⟨_, 6, rfl, rfl, by decide, Tryz.sizeOf27⟩
 | n + 2, h => simp at h
theorem fs35 : ia 35 [(0, 2), (2, 2), (4, 2)] := by
 refine ⟨_, Tryz.underlying35, fun w => by simp [Tryz.sizeOf33], fun i p h => ?_⟩
 match i, h with
 | 0, h => cases h; exact ⟨_, 12, rfl, rfl, by decide, Tryz.sizeOf33⟩
 | 1, h => cases h; exact ⟨_, 12, rfl, rfl, by decide, Tryz.sizeOf33⟩
 | 2, h => cases h; exact ⟨_, 12, rfl, rfl, by decide, Tryz.sizeOf33⟩
 | n + 3, h => simp at h
theorem fs40 : ia 40 [(0, 1)] := by
 refine ⟨_, Tryz.underlying40, fun w => by simp [Tryz.sizeOf38], fun i p h => ?_⟩
 match i, h with
 | 0, h => cases h; exact ⟨_, 6, rfl, rfl, by decide, Tryz.sizeOf38⟩
 | n + 1, h => simp at h
theorem fs42 : ia 42 [(0, 1), (1, 1)] := by
 refine ⟨_, Tryz.underlying42, fun w => by simp [Tryz.sizeOf40], fun i p h => ?_⟩
 match i, h with
 | 0, h => cases h; exact ⟨_, 6, rfl, rfl, by decide, Tryz.sizeOf40⟩
 | 1, h => cases h; exact ⟨_, 6, rfl, rfl, by decide, Tryz.sizeOf40⟩
 | n + 2, h => simp at h
theorem fs47 : ia 47 [(0, 2), (2, 2), (4, 2)] := by
 refine ⟨_, Tryz.underlying47, fun w => by simp [Tryz.sizeOf33], fun i p h => ?_⟩
 match i, h with
 | 0, h => cases h; exact ⟨_, 12, rfl, rfl, by decide, Tryz.sizeOf33⟩
 | 1, h => cases h; exact ⟨_, 12, rfl, rfl, by decide, Tryz.sizeOf33⟩
 | 2, h => cases h; exact ⟨_, 12, rfl, rfl, by decide, Tryz.sizeOf33⟩
 | n + 3, h => simp at h
theorem fs49 : ia 49 [(0, 6), (6, 6)] := by
 refine ⟨_, Tryz.underlying49, fun w => by simp [Tryz.sizeOf47], fun i p h => ?_⟩
 match i, h with
 | 0, h => cases h; exact ⟨_, 36, rfl, rfl, by decide, Tryz.sizeOf47⟩
 | 1, h => cases h; exact ⟨_, 36, rfl, rfl, by decide, Tryz.sizeOf47⟩
 | n + 2, h => simp at h
theorem fs53 : ia 53 [(0, 2), (2, 2), (4, 2)] := by
 refine ⟨_, Tryz.underlying53, fun w => by simp [Tryz.sizeOf42], fun i p h => ?_⟩
 match i, h with
 | 0, h => cases h; exact ⟨_, 12, rfl, rfl, by decide, Tryz.sizeOf42⟩
 | 1, h => cases h; exact ⟨_, 12, rfl, rfl, by decide, Tryz.sizeOf42⟩
 | 2, h => cases h; exact ⟨_, 12, rfl, rfl, by decide, Tryz.sizeOf42⟩
 | n + 3, h => simp at h
theorem fs63 : ia 63 [(0, 1)] := by
 refine ⟨_, Tryz.underlying63, fun w => by simp [Tryz.sizeOf25], fun i p h => ?_⟩
 match i, h with
 | 0, h => cases h; exact ⟨_, 6, rfl, rfl, by decide, Tryz.sizeOf25⟩
 | n + 1, h => simp at h
theorem fs77 : ia 77 [(0, 3), (3, 6)] := by
 refine ⟨_, Tryz.underlying77, fun w => by simp [Tryz.sizeOf29, Tryz.sizeOf35], fun i p h => ?_⟩
 match i, h with
 | 0, h => cases h; exact ⟨_, 18, rfl, rfl, by decide, Tryz.sizeOf29⟩
 | 1, h => cases h; exact ⟨_, 36, rfl, rfl, by decide, Tryz.sizeOf35⟩
 | n + 2, h => simp at h
theorem GC : ia 139 [(0, 2), (2, 2), (4, 2)] := by
 refine ⟨_, Tryz.underlying139, fun w => by simp [Tryz.sizeOf33], fun i p h => ?_⟩
 match i, h with
 | 0, h => cases h; exact ⟨_, 12, rfl, rfl, by decide, Tryz.sizeOf33⟩
 | 1, h => cases h; exact ⟨_, 12, rfl, rfl, by decide, Tryz.sizeOf33⟩
 | 2, h => cases h; exact ⟨_, 12, rfl, rfl, by decide, Tryz.sizeOf33⟩
 | n + 3, h => simp at h
theorem Fs : ia 141 [(0, 1), (1, 1), (2, 2), (4, 2), (6, 2), (8, 2), (10, 2)] := by
 refine ⟨_, Tryz.underlying141, fun w => by simp [Tryz.sizeOf27, Tryz.sizeOf33], fun i p h => ?_⟩
 match i, h with
 | 0, h => cases h; exact ⟨_, 6, rfl, rfl, by decide, Tryz.sizeOf27⟩
 | 1, h => cases h; exact ⟨_, 6, rfl, rfl, by decide, Tryz.sizeOf27⟩
 | 2, h => cases h; exact ⟨_, 12, rfl, rfl, by decide, Tryz.sizeOf33⟩
 | 3, h => cases h; exact ⟨_, 12, rfl, rfl, by decide, Tryz.sizeOf33⟩
 | 4, h => cases h; exact ⟨_, 12, rfl, rfl, by decide, Tryz.sizeOf33⟩
 | 5, h => cases h; exact ⟨_, 12, rfl, rfl, by decide, Tryz.sizeOf33⟩
 | 6, h => cases h; exact ⟨_, 12, rfl, rfl, by decide, Tryz.sizeOf33⟩
 | n + 7, h => simp at h
theorem fsOk (t : Nat) (l : List (Nat × Nat)) (h : ji fsL t = some l) : ia t l := by
 have h := fU h
 simp only [fsL, List.mem_cons, List.not_mem_nil, or_false, Prod.mk.injEq] at h
 rcases h with ⟨rfl, rfl⟩ | ⟨rfl, rfl⟩ | ⟨rfl, rfl⟩ | ⟨rfl, rfl⟩ | ⟨rfl, rfl⟩ | ⟨rfl, rfl⟩ | ⟨rfl, rfl⟩ | ⟨rfl, rfl⟩ | ⟨rfl, rfl⟩ | ⟨rfl, rfl⟩ | ⟨rfl, rfl⟩ | ⟨rfl, rfl⟩ | ⟨rfl, rfl⟩
 ·exact fs27
 ·exact fs29
 ·exact fs33
 ·exact fs35
 ·exact fs40
 ·exact fs42
 ·exact fs47
 ·exact fs49
 ·exact fs53
 ·exact fs63
 ·exact fs77
 ·exact GC
 ·exact Fs
abbrev h8 (t k : Nat) : Prop := (∀ (op : BinOp) (x y : Operand) (xs ys : Array Value) (w : World), (eqGuard op t x y (.agg xs) (.agg ys)).run Tryz.prog w = .ok () w) ∧ ∃ d0, d0 ≤ 100 ∧ EqF Tryz.prog t (6 * k) d0
theorem Fv : h8 25 1 := ⟨fun op x y xs ys w => run_eqGuard_agg w op 25 x y xs ys (by kernel_rfl), 2, by decide, (bU Tryz.underlying25 Tryz.underlying24 Tryz.sizeOf24 Tryz.isAgg24)⟩
theorem Gp : h8 27 1 := ⟨fun op x y xs ys w => run_eqGuard_agg w op 27 x y xs ys (by kernel_rfl), 3, by decide, (cq Tryz.underlying27 rfl (by decide) (by kernel_rfl) Tryz.isAgg25 Tryz.sizeOf25 (bU Tryz.underlying25 Tryz.underlying24 Tryz.sizeOf24 Tryz.isAgg24))⟩
theorem EC : h8 33 2 := ⟨fun op x y xs ys w => run_eqGuard_agg w op 33 x y xs ys (by kernel_rfl), 4, by decide, (gA (m := 6) (n := 6) Tryz.underlying33 rfl rfl (by decide) (by decide) (by kernel_rfl) Tryz.isAgg27 Tryz.sizeOf27 (cq Tryz.underlying27 rfl (by decide) (by kernel_rfl) Tryz.isAgg25 Tryz.sizeOf25 (bU Tryz.underlying25 Tryz.underlying24 Tryz.sizeOf24 Tryz.isAgg24)) Tryz.isAgg27 Tryz.sizeOf27 (cq Tryz.underlying27 rfl (by decide) (by kernel_rfl) Tryz.isAgg25 Tryz.sizeOf25 (bU Tryz.underlying25 Tryz.underlying24 Tryz.sizeOf24 Tryz.isAgg24)))⟩
theorem Hc : h8 38 1 := ⟨fun op x y xs ys w => run_eqGuard_agg w op 38 x y xs ys (by kernel_rfl), 2, by decide, (bU Tryz.underlying38 Tryz.underlying24 Tryz.sizeOf24 Tryz.isAgg24)⟩
theorem GF : h8 40 1 := ⟨fun op x y xs ys w => run_eqGuard_agg w op 40 x y xs ys (by kernel_rfl), 3, by decide, (cq Tryz.underlying40 rfl (by decide) (by kernel_rfl) Tryz.isAgg38 Tryz.sizeOf38 (bU Tryz.underlying38 Tryz.underlying24 Tryz.sizeOf24 Tryz.isAgg24))⟩
theorem E8 : h8 42 2 := ⟨fun op x y xs ys w => run_eqGuard_agg w op 42 x y xs ys (by kernel_rfl), 4, by decide, (gA (m := 6) (n := 6) Tryz.underlying42 rfl rfl (by decide) (by decide) (by kernel_rfl) Tryz.isAgg40 Tryz.sizeOf40 (cq Tryz.underlying40 rfl (by decide) (by kernel_rfl) Tryz.isAgg38 Tryz.sizeOf38 (bU Tryz.underlying38 Tryz.underlying24 Tryz.sizeOf24 Tryz.isAgg24)) Tryz.isAgg40 Tryz.sizeOf40 (cq Tryz.underlying40 rfl (by decide) (by kernel_rfl) Tryz.isAgg38 Tryz.sizeOf38 (bU Tryz.underlying38 Tryz.underlying24 Tryz.sizeOf24 Tryz.isAgg24)))⟩
theorem Hf : h8 44 12 := ⟨fun op x y xs ys w => run_eqGuard_agg w op 44 x y xs ys (by kernel_rfl), 5, by decide, (f8 (k := 6) (n := 12) (by decide) Tryz.underlying44 Tryz.isAgg42 Tryz.sizeOf42 (gA (m := 6) (n := 6) Tryz.underlying42 rfl rfl (by decide) (by decide) (by kernel_rfl) Tryz.isAgg40 Tryz.sizeOf40 (cq Tryz.underlying40 rfl (by decide) (by kernel_rfl) Tryz.isAgg38 Tryz.sizeOf38 (bU Tryz.underlying38 Tryz.underlying24 Tryz.sizeOf24 Tryz.isAgg24)) Tryz.isAgg40 Tryz.sizeOf40 (cq Tryz.underlying40 rfl (by decide) (by kernel_rfl) Tryz.isAgg38 Tryz.sizeOf38 (bU Tryz.underlying38 Tryz.underlying24 Tryz.sizeOf24 Tryz.isAgg24))))⟩
theorem Gr : h8 63 1 := ⟨fun op x y xs ys w => run_eqGuard_agg w op 63 x y xs ys (by kernel_rfl), 3, by decide, (cq Tryz.underlying63 rfl (by decide) (by kernel_rfl) Tryz.isAgg25 Tryz.sizeOf25 (bU Tryz.underlying25 Tryz.underlying24 Tryz.sizeOf24 Tryz.isAgg24))⟩
theorem Dl : h8 162 22 := ⟨fun op x y xs ys w => run_eqGuard_agg w op 162 x y xs ys (by kernel_rfl), 5, by decide, (f8 (k := 11) (n := 12) (by decide) Tryz.underlying162 Tryz.isAgg42 Tryz.sizeOf42 (gA (m := 6) (n := 6) Tryz.underlying42 rfl rfl (by decide) (by decide) (by kernel_rfl) Tryz.isAgg40 Tryz.sizeOf40 (cq Tryz.underlying40 rfl (by decide) (by kernel_rfl) Tryz.isAgg38 Tryz.sizeOf38 (bU Tryz.underlying38 Tryz.underlying24 Tryz.sizeOf24 Tryz.isAgg24)) Tryz.isAgg40 Tryz.sizeOf40 (cq Tryz.underlying40 rfl (by decide) (by kernel_rfl) Tryz.isAgg38 Tryz.sizeOf38 (bU Tryz.underlying38 Tryz.underlying24 Tryz.sizeOf24 Tryz.isAgg24))))⟩
theorem BH : h8 168 2 := ⟨fun op x y xs ys w => run_eqGuard_agg w op 168 x y xs ys (by kernel_rfl), 2, by decide, (bU Tryz.underlying168 Tryz.underlying24 Tryz.sizeOf24 Tryz.isAgg24)⟩
theorem CP : h8 178 6 := ⟨fun op x y xs ys w => run_eqGuard_agg w op 178 x y xs ys (by kernel_rfl), 5, by decide, (f8 (k := 3) (n := 12) (by decide) Tryz.underlying178 Tryz.isAgg33 Tryz.sizeOf33 (gA (m := 6) (n := 6) Tryz.underlying33 rfl rfl (by decide) (by decide) (by kernel_rfl) Tryz.isAgg27 Tryz.sizeOf27 (cq Tryz.underlying27 rfl (by decide) (by kernel_rfl) Tryz.isAgg25 Tryz.sizeOf25 (bU Tryz.underlying25 Tryz.underlying24 Tryz.sizeOf24 Tryz.isAgg24)) Tryz.isAgg27 Tryz.sizeOf27 (cq Tryz.underlying27 rfl (by decide) (by kernel_rfl) Tryz.isAgg25 Tryz.sizeOf25 (bU Tryz.underlying25 Tryz.underlying24 Tryz.sizeOf24 Tryz.isAgg24))))⟩
theorem CT : h8 192 12 := ⟨fun op x y xs ys w => run_eqGuard_agg w op 192 x y xs ys (by kernel_rfl), 5, by decide, (f8 (k := 6) (n := 12) (by decide) Tryz.underlying192 Tryz.isAgg33 Tryz.sizeOf33 (gA (m := 6) (n := 6) Tryz.underlying33 rfl rfl (by decide) (by decide) (by kernel_rfl) Tryz.isAgg27 Tryz.sizeOf27 (cq Tryz.underlying27 rfl (by decide) (by kernel_rfl) Tryz.isAgg25 Tryz.sizeOf25 (bU Tryz.underlying25 Tryz.underlying24 Tryz.sizeOf24 Tryz.isAgg24)) Tryz.isAgg27 Tryz.sizeOf27 (cq Tryz.underlying27 rfl (by decide) (by kernel_rfl) Tryz.isAgg25 Tryz.sizeOf25 (bU Tryz.underlying25 Tryz.underlying24 Tryz.sizeOf24 Tryz.isAgg24))))⟩
theorem B8 : h8 209 16 := ⟨fun op x y xs ys w => run_eqGuard_agg w op 209 x y xs ys (by kernel_rfl), 4, by decide, (f8 (k := 16) (n := 6) (by decide) Tryz.underlying209 Tryz.isAgg27 Tryz.sizeOf27 (cq Tryz.underlying27 rfl (by decide) (by kernel_rfl) Tryz.isAgg25 Tryz.sizeOf25 (bU Tryz.underlying25 Tryz.underlying24 Tryz.sizeOf24 Tryz.isAgg24)))⟩
def eqL : List (Nat × Nat) := [(25, 1), (27, 1), (33, 2), (38, 1), (40, 1), (42, 2), (44, 12), (63, 1), (162, 22), (168, 2), (178, 6), (192, 12), (209, 16)]
theorem eqOk (t k : Nat) (h : (ji eqL t).isSome = true) (hk : ji szL t = some k) : h8 t k := by
 obtain ⟨q, hq⟩ := Option.isSome_iff_exists.1 h
 have h := fU hq
 simp only [eqL, List.mem_cons, List.not_mem_nil, or_false, Prod.mk.injEq] at h
 rcases h with ⟨rfl, rfl⟩ | ⟨rfl, rfl⟩ | ⟨rfl, rfl⟩ | ⟨rfl, rfl⟩ | ⟨rfl, rfl⟩ | ⟨rfl, rfl⟩ | ⟨rfl, rfl⟩ | ⟨rfl, rfl⟩ | ⟨rfl, rfl⟩ | ⟨rfl, rfl⟩ | ⟨rfl, rfl⟩ | ⟨rfl, rfl⟩ | ⟨rfl, rfl⟩
 ·cases hk; exact Fv
 ·cases hk; exact Gp
 ·cases hk; exact EC
 ·cases hk; exact Hc
 ·cases hk; exact GF
 ·cases hk; exact E8
 ·cases hk; exact Hf
 ·cases hk; exact Gr
 ·cases hk; exact Dl
 ·cases hk; exact BH
 ·cases hk; exact CP
 ·cases hk; exact CT
 ·cases hk; exact B8
def arL : List (Nat × Nat) := [(44, 2), (162, 2), (178, 2), (192, 2), (209, 1)]
theorem arOk (t m : Nat) (h : ji arL t = some m) : ∃ n e, Tryz.prog.underlying t = some (.array n e) ∧ ∀ w, (sizeOf e).run Tryz.prog w = .ok (6 * m) w := by
 have h := fU h
 simp only [arL, List.mem_cons, List.not_mem_nil, or_false, Prod.mk.injEq] at h
 rcases h with ⟨rfl, rfl⟩ | ⟨rfl, rfl⟩ | ⟨rfl, rfl⟩ | ⟨rfl, rfl⟩ | ⟨rfl, rfl⟩
 ·exact ⟨_, 42, Tryz.underlying44, Tryz.sizeOf42⟩
 ·exact ⟨_, 42, Tryz.underlying162, Tryz.sizeOf42⟩
 ·exact ⟨_, 33, Tryz.underlying178, Tryz.sizeOf33⟩
 ·exact ⟨_, 33, Tryz.underlying192, Tryz.sizeOf33⟩
 ·exact ⟨_, 27, Tryz.underlying209, Tryz.sizeOf27⟩
theorem boOk (t : Nat) (h : [4].any (Nat.beq t) = true) : Tryz.prog.underlying t = some .bool := by
 simp only [List.any_cons, List.any_nil, Bool.or_false] at h
 rw [Nat.eq_of_beq_eq_true h]; exact Tryz.underlying4
def TB : Tb Tryz.prog Gt := ⟨ji szL, ji fsL, [], szOk, fsOk, (fun _ h => by cases h), fun t => (ji eqL t).isSome, eqOk, ji arL, arOk, fun t => [4].any (Nat.beq t), boOk⟩
theorem CD {P : Program} {G : Cls} (T : Tb P G) {f : Nat} {c : List S0 → Option S1} (h : Snd P G f c) : ∀ e ∈ (f, c) :: T.ct, Snd P G e.1 e.2 := fun e he => by
 rcases List.mem_cons.1 he with rfl | he
 ·exact h
 ·exact T.hct e he
def Tb.add {P : Program} {G : Cls} (T : Tb P G) {f : Nat} {c : List S0 → Option S1} (h : Snd P G f c) : Tb P G := { T with ct := (f, c) :: T.ct, hct := CD T h }
theorem gtS (w : World) (h : Gt w) : BOk Gt (pl w) := gt_low.plain h
end
end Go.Proofs.YtpnpiblphnpfiaaGreatDoor
