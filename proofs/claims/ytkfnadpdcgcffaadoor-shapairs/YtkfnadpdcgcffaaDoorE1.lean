/-
  The engine, part 1: a walk of Go code over a CLASS of worlds. Nothing here names a program: it is laid under this seat's name to be imported by its walks.
-/
import Derived.OrdersIn
import Derived.TacticsIn
import Derived.Below
namespace Go.Proofs.YtkfnadpdcgcffaaDoor
open Go.RowKit

/-- The fence that lets every call by, of an activation of a function (none) or of a round of a range over a function (some l). -/
def FW (ro : Option Nat) : Fence := { Fence.wide with round := ro }
theorem FW_none : FW none = Fence.wide := rfl
theorem FW_some (l : Nat) : FW (some l) = Fence.wide.inRound l := rfl

/-! ### Frames: what is known of some slots -/
abbrev Fr := List (Nat × Value)
def lk : Fr → Nat → Option Value
  | [], _ => none
  | (d, v) :: r, t => bif Nat.beq d t then some v else lk r t

structure Has (N : Nat) (ds : List Deferred) (F : Fr) (a : Act) : Prop where
  size : a.tmps.size = N
  defers : a.defers = ds
  get : ∀ t v, lk F t = some v → a.tmps[t]? = some v

theorem Has.put {N : Nat} {ds : List Deferred} {F : Fr} {a : Act} (h : Has N ds F a) {d : Nat} (hd : d < N) (v : Value) : Has N ds ((d, v) :: F) (a.put (some d) v) := by
  refine ⟨by simp [Act.put, h.size], by simp [Act.put, h.defers], fun t u hu => ?_⟩
  simp only [lk] at hu
  by_cases e : d = t
  · subst e
    simp at hu
    subst hu
    simp [Act.put, h.size, hd]
  · have : Nat.beq d t = false := by
      cases hb : Nat.beq d t with
      | false => rfl
      | true => exact absurd (Nat.eq_of_beq_eq_true hb) e
    rw [this] at hu
    simp only [cond_false] at hu
    simp only [Act.put, Array.getElem?_setIfInBounds_ne e]
    exact h.get t u hu

theorem Has.less {N : Nat} {ds : List Deferred} {F F' : Fr} {a : Act} (h : Has N ds F a) (hs : ∀ t v, lk F' t = some v → lk F t = some v) : Has N ds F' a :=
  ⟨h.size, h.defers, fun t v hv => h.get t v (hs t v hv)⟩

/-- Where a value is put: a slot, or nowhere. -/
def putF : Option Nat → Value → Fr → Fr
  | some d, v, F => (d, v) :: F
  | none, _, F => F
def fitsD (N : Nat) : Option Nat → Bool
  | some d => Nat.blt d N
  | none => true
theorem Has.putF {N : Nat} {ds : List Deferred} {F : Fr} {a : Act} (h : Has N ds F a) {d : Option Nat} (hd : fitsD N d = true) (v : Value) : Has N ds (putF d v F) (a.put d v) := by
  cases d with
  | none => exact h
  | some d => exact h.put (by simpa [fitsD] using hd) v

/-! ### Operands -/
def U8 (x : BitVec 8) : Value := .int .u8 (x.toNat : Int)
def U32 (x : BitVec 32) : Value := .int .u32 (x.toNat : Int)
def U64 (x : BitVec 64) : Value := .int .u64 (x.toNat : Int)
abbrev I (n : Int) : Value := .int .i64 n

/-- A constant in the typed form. -/
def nrm : Value → Value
  | .int .u8 (.ofNat n) => bif Nat.blt n 256 then U8 (BitVec.ofNat 8 n) else .int .u8 (.ofNat n)
  | .int .u32 (.ofNat n) => bif Nat.blt n 4294967296 then U32 (BitVec.ofNat 32 n) else .int .u32 (.ofNat n)
  | .int .u64 (.ofNat n) => bif Nat.blt n 18446744073709551616 then U64 (BitVec.ofNat 64 n) else .int .u64 (.ofNat n)
  | v => v
theorem nrm_eq (v : Value) : nrm v = v := by
  unfold nrm
  split
  · rename_i n
    cases h : Nat.blt n 256 with
    | false => rfl
    | true => simp at h; simp [U8, BitVec.toNat_ofNat]; omega
  · rename_i n
    cases h : Nat.blt n 4294967296 with
    | false => rfl
    | true => simp at h; simp [U32, BitVec.toNat_ofNat]; omega
  · rename_i n
    cases h : Nat.blt n 18446744073709551616 with
    | false => rfl
    | true => simp at h; simp [U64, BitVec.toNat_ofNat]; omega
  · rfl

def evF (F : Fr) : Operand → Option Value
  | .tmp t => lk F t
  | .const v => some (nrm v)
  | .global g => some (.pointer (some ⟨g, 0, none⟩))
  | .func f => some (.func (.func f) #[] #[])
theorem Has.ev {N : Nat} {ds : List Deferred} {F : Fr} {a : Act} (h : Has N ds F a) {x : Operand} {v : Value} (hv : evF F x = some v) : a.eval x = v := by
  cases x with
  | tmp t => simp [Act.eval, h.get t v hv]
  | const u => simp [evF, nrm_eq] at hv; simp [Act.eval, hv]
  | global g => simp [evF] at hv; simp [Act.eval, hv]
  | func f => simp [evF] at hv; simp [Act.eval, hv]

/-! ### Classes of worlds -/
abbrev Cls := World → Prop
/-- What lies in old blocks is as it was. -/
abbrev Grow (w w' : World) : Prop := Below w.heap.size w w'
theorem Grow.refl (w : World) : Grow w w := Below.refl _ _
theorem Grow.trans {a b c : World} (h : Grow a b) (k : Grow b c) : Grow a c := Below.trans h (k.mono h.size)
/-- A class that abides growth, inside the base class 'G' (what is known of package-level variables). -/
def Good (G C : Cls) : Prop := (∀ w w', C w → Grow w w' → C w') ∧ ∀ w, C w → G w

/-! ### One operation -/
/-- Is the operation carried out? -/
def wantF (ops : Array Oper) (F : Fr) (o : Oper) : Option Bool :=
  match o.guard with
  | none => some true
  | some (j, want) =>
    match (ops[j]?).bind (·.dst) with
    | none => some false
    | some d =>
      match lk F d with
      | some (.bool b) => some (b == want)
      | some (.tuple _) => some false
      | _ => none
theorem Has.want {N : Nat} {ds : List Deferred} {F : Fr} {a : Act} (h : Has N ds F a) {ops : Array Oper} {o : Oper} {b : Bool} (hb : wantF ops F o = some b) :
    Region.wanted o (yielded ops a.tmps) = b := by
  unfold wantF at hb
  unfold Region.wanted
  cases hg : o.guard with
  | none => simp [hg] at hb; simp [← hb]
  | some p =>
    obtain ⟨j, want⟩ := p
    simp only [hg] at hb ⊢
    unfold yielded
    cases hd : (ops[j]?).bind (·.dst) with
    | none => simp [hd] at hb; simp [← hb]
    | some d =>
      simp only [hd] at hb ⊢
      simp only [Option.bind_some]
      cases hl : lk F d with
      | none => simp [hl] at hb
      | some v =>
        rw [h.get d v hl]
        simp only [hl] at hb
        cases v <;> simp at hb <;> simp [← hb]

/-- The operation yields 'v' in this state, in every world of the class, and leaves a world that has only grown. -/
def YieldsC (P : Program) (ro : Option Nat) (C : Cls) (o : Oper) (v : Value) (a : Act) : Prop :=
  ∀ w, C w → (o.semAt ro a.eval).run P w = .ok (.value v) w ∨
    ∃ f args, (o.semAt ro a.eval).run P w = .ok (.enter f args) w ∧ CallsIn (FW ro) 0 P f args w (fun e w' => e = .returned v ∧ Grow w w')
def YieldsW (P : Program) (ro : Option Nat) (ops : Array Oper) (C : Cls) (o : Oper) (v : Value) (a : Act) : Prop :=
  (Region.wanted o (yielded ops a.tmps) = true ∧ YieldsC P ro C o v a) ∨ (Region.wanted o (yielded ops a.tmps) = false ∧ v = undef)

/-- Does the operation read memory? -/
def isRead (o : Oper) : Bool :=
  match o.op with
  | .load .. | .convert .. | .range .. | .next .. | .entry .. | .lookup .. | .waits _ | .call { callee := .value _, .. } => true
  | _ => false
def clsOf (G : Cls) (o : Oper) (C : Cls) : Cls := if isRead o then (fun w => C w ∧ G w) else G
theorem clsOf_of {G : Cls} {o : Oper} {C : Cls} {w : World} (hS : Good G C) (h : C w) : clsOf G o C w := by unfold clsOf; split <;> first | exact ⟨h, hS.2 w h⟩ | exact hS.2 w h

/-- A step that leaves the class alone. -/
def QStep (P : Program) (G : Cls) (ro : Option Nat) (ops : Array Oper) (N : Nat) (ds : List Deferred) (o : Oper) (F : Fr) (C : Cls) (v : Value) : Prop :=
  fitsD N o.dst = true ∧ ∀ a, Has N ds F a → YieldsW P ro ops (clsOf G o C) o v a
/-- A step that may turn the class. -/
def EStep (P : Program) (G : Cls) (ro : Option Nat) (ops : Array Oper) (N : Nat) (ds : List Deferred) (o : Oper) (F : Fr) (C : Cls) (K : Fr → Cls → Prop) : Prop :=
  ∀ a w, Has N ds F a → C w → Region.wanted o (yielded ops a.tmps) = true ∧
    o.wpIn (FW ro) 0 P a w (fun a' w' => ∃ F' C', Has N ds F' a' ∧ Good G C' ∧ C' w' ∧ K F' C') (fun _ _ _ => False)

/-- The mark that a step which may turn the class only narrows it: 'E' is asked at the function's number and two million more. -/
def growOf (o : Oper) : Oper :=
  match o.op with
  | .call { callee := .value (.func f), .. } => { o with op := .call { callee := .value (.func (f + 2000000)), args := #[], argTypes := #[] } }
  | _ => { o with op := .move (.const undef) }

/-- The walk of a list of operations; 'E': which of them may turn the class. -/
def Lx (P : Program) (G : Cls) (ro : Option Nat) (ops : Array Oper) (N : Nat) (ds : List Deferred) (E : Oper → Bool) (Z : Fr → Cls → Prop) : List Oper → Fr → Cls → Prop
  | [], F, C => Z F C
  | o :: rest, F, C =>
    bif E o then EStep P G ro ops N ds o F C (fun F' C' => (E (growOf o) = true → ∀ w, C' w → C w) ∧ Lx P G ro ops N ds E Z rest F' C')
    else ∃ v, QStep P G ro ops N ds o F C v ∧ Lx P G ro ops N ds E Z rest (putF o.dst v F) C

/-- What is asked behind a piece of code. -/
def After (N : Nat) (ds : List Deferred) (Q : Exit → Act → World → Prop) (e : Exit) : Fr → Cls → Prop :=
  fun F C => ∀ a w, Has N ds F a → C w → Q e a w

variable {P : Program} {G : Cls} {ro : Option Nat} {ops : Array Oper} {N : Nat} {ds : List Deferred} {E : Oper → Bool} {Q : Exit → Act → World → Prop}

theorem fence_fn (ro : Option Nat) (f : FuncId) : (FW ro).fn f := trivial

theorem YieldsC.wpIn {C : Cls} {o : Oper} {v : Value} {a : Act} {w : World} {K : Act → World → Prop} {Q' : Exit → Act → World → Prop} (h : YieldsC P ro C o v a) (hC : C w)
    (hK : ∀ w', Grow w w' → K (a.put o.dst v) w') : o.wpIn (FW ro) 0 P a w K Q' := by
  refine ⟨fun f _ => fence_fn ro f, ?_⟩
  show o.uponIn (FW ro) 0 P a K Q' ((o.semAt ro a.eval).run P w)
  rcases h w hC with h | ⟨f, args, h, hc⟩
  · rw [h]; exact hK w (Grow.refl w)
  · rw [h]
    refine ⟨fun h => (by cases h), ?_⟩
    refine CallsIn.mono hc fun e w' he => ?_
    obtain ⟨rfl, hg⟩ := he
    exact hK w' hg

theorem Oper.wpIn_exits {o : Oper} {a : Act} {w : World} {K : Act → World → Prop} {Q' : Exit → Act → World → Prop} (h : o.wpIn (FW ro) 0 P a w K (fun _ _ _ => False)) : o.wpIn (FW ro) 0 P a w K Q' := by
  unfold Oper.wpIn at *
  refine ⟨h.1, ?_⟩
  have hh := h.2
  generalize (o.semAt (FW ro).round a.eval).run P w = r at *
  cases r with
  | ok x w' =>
    cases x <;> simp only [Oper.uponIn] at hh ⊢ <;>
      first
        | exact hh
        | exact ⟨hh.1, CallsIn.mono hh.2 (fun e w'' he => by cases e <;> first | exact he | exact he.elim | (obtain ⟨_, _, x⟩ := he; exact x.elim))⟩
        | exact ⟨hh.1, RowsIn.mono hh.2 (fun _ _ he => he)⟩
        | exact ⟨hh.1, RoundIn.mono hh.2 (fun e w'' he => by cases e <;> first | exact he | exact he.elim | (obtain ⟨_, _, x⟩ := he; exact x.elim))⟩
  | halt x w' => cases x <;> simp only [Oper.uponIn] at hh ⊢

/-- A plain region, by its walk. -/
theorem wpListIn_of_Lx {Z : Fr → Cls → Prop} (hZ : ∀ F C, Good G C → Z F C → After N ds Q .normal F C) : ∀ (l : List Oper) (F : Fr) (C : Cls), Good G C → Lx P G ro ops N ds E Z l F C → ∀ a w, Has N ds F a → C w → wpListIn (FW ro) 0 P ops Q l a w
  | [], F, C, hS, h, a, w, ha, hw => hZ F C hS h a w ha hw
  | o :: rest, F, C, hS, h, a, w, ha, hw => by
    unfold wpListIn
    unfold Lx at h
    cases hE : E o with
    | true =>
      rw [hE] at h
      obtain ⟨hwant, hwp⟩ := h a w ha hw
      rw [if_pos hwant]
      refine Oper.wpIn_exits (Oper.wpIn_mono (fun a' w' hk => ?_) hwp)
      obtain ⟨F', C', ha', hS', hw', _, hk⟩ := hk
      exact wpListIn_of_Lx hZ rest F' C' hS' hk a' w' ha' hw'
    | false =>
      rw [hE] at h
      obtain ⟨v, ⟨hd, hy⟩, hk⟩ := h
      have hcls : clsOf G o C w := clsOf_of hS hw
      rcases hy a ha with ⟨hwant, hy⟩ | ⟨hwant, rfl⟩
      · rw [if_pos hwant]
        exact hy.wpIn hcls fun w' hg => wpListIn_of_Lx hZ rest _ C hS hk _ w' (ha.putF hd v) (hS.1 _ _ hw hg)
      · rw [if_neg (by simp [hwant])]
        exact ⟨fun f _ => fence_fn ro f, wpListIn_of_Lx hZ rest _ C hS hk _ w (ha.putF hd _) hw⟩

end Go.Proofs.YtkfnadpdcgcffaaDoor
