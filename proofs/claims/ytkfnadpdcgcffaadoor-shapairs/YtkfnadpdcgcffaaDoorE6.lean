/-
  The engine, part 6: blocks of the call's own; the steps that turn memory; calls.
-/
import Derived.Test.YtkfnadpdcgcffaaDoorE5
namespace Go.Proofs.YtkfnadpdcgcffaaDoor
open Go.RowKit

/-- Blocks that are known: a name of ours, the block, its cells, their type. -/
abbrev Hl := List (Nat × Nat × List Value × TypeId)
def lkB : Hl → Nat → Option (Nat × List Value × TypeId)
  | [], _ => none
  | (m, x) :: r, n => bif Nat.beq m n then some x else lkB r n

/-- The blocks that are named. -/
def Yof (L : Hl) : Nat → Prop := fun b => ∃ n c t, lkB L n = some (b, c, t)
/-- Only block b may have turned. -/
structure TurnAt (b : Nat) (w w' : World) : Prop where
  os : w'.os = w.os
  tape : w'.tape = w.tape
  output : w'.output = w.output
  size : w'.heap.size = w.heap.size
  other : ∀ k, k ≠ b → w'.heap[k]? = w.heap[k]?
/-- Where a walk stands: the world in which it began; which of its blocks may turn; what is carried along besides (of the blocks that the walk has made, Y, it says nothing). -/
structure Bs where
  w0 : World
  M : Nat → Prop
  J : (Nat → Prop) → World → Prop
/-- What is carried along abides all that a walk does to blocks of its own. -/
structure Rides (J : (Nat → Prop) → World → Prop) : Prop where
  grow : ∀ Y w w', J Y w → Grow w w' → J Y w'
  new : ∀ Y w w' (S : Nat → Prop), J Y w → Grow w w' → (∀ b, S b → w.heap.size ≤ b ∧ b < w'.heap.size) → J (fun k => S k ∨ Y k) w'
  turn : ∀ Y w w' b, Y b → J Y w → TurnAt b w w' → J Y w'
  less : ∀ Y Y' w, (∀ b, Y' b → Y b) → J Y w → J Y' w
theorem rides_true : Rides (fun _ _ => True) := ⟨fun _ _ _ _ _ => trivial, fun _ _ _ _ _ _ _ => trivial, fun _ _ _ _ _ _ _ => trivial, fun _ _ _ _ _ => trivial⟩
def pl (w0 : World) : Bs := ⟨w0, fun _ => False, fun _ _ => True⟩
def plM (w0 : World) (M : Nat → Prop) : Bs := ⟨w0, M, fun _ _ => True⟩

/-- The block holds these cells; none of them is frozen. -/
def OwnB (w : World) (b : Nat) (c : List Value) (t : TypeId) : Prop := ∃ fz : Nat × Nat, w.heap[b]? = some (.cells c.toArray t fz) ∧ (fz = (0, 0) ∨ c.length ≤ fz.1)
theorem ownB_mk {w : World} {b : Nat} {c : List Value} {t : TypeId} (h : w.heap[b]? = some (.cells c.toArray t (0, 0))) : OwnB w b c t := ⟨(0, 0), h, .inl rfl⟩
theorem OwnB.lt {w : World} {b : Nat} {c : List Value} {t : TypeId} (h : OwnB w b c t) : b < w.heap.size := by
  obtain ⟨_, h, _⟩ := h
  exact (Array.getElem?_eq_some_iff.1 h).1
theorem OwnB.of_same {w w' : World} {b : Nat} {c : List Value} {t : TypeId} (e : w'.heap[b]? = w.heap[b]?) (h : OwnB w b c t) : OwnB w' b c t := by
  obtain ⟨fz, h1, h2⟩ := h
  exact ⟨fz, e.trans h1, h2⟩
theorem OwnB.frozen {w : World} {b : Nat} {c : List Value} {t : TypeId} (h : OwnB w b c t) {o : Nat} (ho : o < c.length) : w.frozen? ⟨b, o, none⟩ = false := by
  obtain ⟨fz, h1, h2⟩ := h
  simp only [World.frozen?, h1]
  rcases h2 with rfl | h2
  · simp
  · simp; omega
theorem OwnB.cell {w : World} {b : Nat} {c : List Value} {t : TypeId} (h : OwnB w b c t) (o : Nat) : w.cell? ⟨b, o, none⟩ = c[o]? := by
  obtain ⟨fz, h1, _⟩ := h
  rw [cell_of_row w b o c.toArray t fz h1]; simp
theorem OwnB.set {w : World} {b : Nat} {c : List Value} {t : TypeId} (h : OwnB w b c t) (o : Nat) (v : Value) : OwnB (w.setCell ⟨b, o, none⟩ v) b (c.set o v) t := by
  obtain ⟨fz, h1, h2⟩ := h
  refine ⟨fz, ?_, by simpa using h2⟩
  obtain ⟨hlt, h1'⟩ := Array.getElem?_eq_some_iff.1 h1
  simp only [World.setCell, Array.getElem?_modify, if_pos, h1]
  simp

/-- The world has grown; of its old blocks only those in M may have turned; the blocks of L hold what L says; blocks in Y are a stranger's. -/
structure Hq (B : Bs) (L : Hl) (Y : Nat → Prop) (w : World) : Prop where
  os : w.os = B.w0.os
  tape : w.tape = B.w0.tape
  output : w.output = B.w0.output
  size : B.w0.heap.size ≤ w.heap.size
  keep : ∀ k, k < B.w0.heap.size → ¬ B.M k → w.heap[k]? = B.w0.heap[k]?
  own : ∀ n b c t, lkB L n = some (b, c, t) → OwnB w b c t ∧ (B.w0.heap.size ≤ b ∨ B.M b)
  inj : ∀ n m b c t c' t', lkB L n = some (b, c, t) → lkB L m = some (b, c', t') → n = m
  apart : ∀ b, Y b → ¬ Yof L b
  high : ∀ b, Y b → B.w0.heap.size ≤ b
  lt : ∀ b, Y b → b < w.heap.size
  rid : B.J (fun k => Yof L k ∨ Y k) w
abbrev Hp (B : Bs) (L : Hl) : Cls := Hq B L (fun _ => False)

def GFrom (G : Cls) (w0 : World) (M : Nat → Prop) : Prop := ∀ w : World, w0.heap.size ≤ w.heap.size → (∀ k, k < w0.heap.size → ¬ M k → w.heap[k]? = w0.heap[k]?) → G w
structure BOk (G : Cls) (B : Bs) : Prop where
  g : ∀ L Y w, Hq B L Y w → G w
  r : Rides B.J
theorem GFrom.ok {G : Cls} {B : Bs} (h : GFrom G B.w0 B.M) (hr : Rides B.J) : BOk G B := ⟨fun _ _ w hw => h w hw.size hw.keep, hr⟩

section
variable {B : Bs} {w : World} {L : Hl} {G : Cls} {Y : Nat → Prop}

theorem hp_refl (B : Bs) (h : B.J (fun _ => False) B.w0) (hr : Rides B.J) : Hp B [] B.w0 :=
  ⟨rfl, rfl, rfl, Nat.le_refl _, fun _ _ _ => rfl, fun _ _ _ _ h => (by cases h), fun _ _ _ _ _ _ _ h => (by cases h), fun _ h => h.elim, fun _ h => h.elim, fun _ h => h.elim, hr.less _ _ _ (fun _ hb => by rcases hb with ⟨_, _, _, h⟩ | h <;> cases h) h⟩
theorem Hq.grow (h : Hq B L Y w) (hr : Rides B.J) {w' : World} (g : Grow w w') : Hq B L Y w' := by
  refine ⟨g.os.trans h.os, g.tape.trans h.tape, g.output.trans h.output, Nat.le_trans h.size g.size, fun k hk hm => (g.block k (Nat.lt_of_lt_of_le hk h.size)).trans (h.keep k hk hm), fun n b c t hl => ?_, h.inj, h.apart, h.high, fun b hb => Nat.lt_of_lt_of_le (h.lt b hb) g.size, hr.grow _ _ _ h.rid g⟩
  obtain ⟨h1, h2⟩ := h.own n b c t hl
  exact ⟨h1.of_same (g.block b h1.lt), h2⟩
theorem good_hp (hB : BOk G B) : Good G (Hp B L) := ⟨fun _ _ h g => h.grow hB.r g, fun w h => hB.g _ _ w h⟩
theorem Hq.below (h : Hq B L Y w) (hM : ∀ k, ¬ B.M k) : Grow B.w0 w := ⟨h.os, h.tape, h.output, h.size, fun k hk => h.keep k hk (hM k)⟩
theorem hp_below {w0 : World} (h : Hp (pl w0) L w) : Grow w0 w := h.below (fun _ h => h)
theorem Hq.less {L' : Hl} (h : Hq B L Y w) (hr : Rides B.J) (hs : ∀ n x, lkB L' n = some x → lkB L n = some x) : Hq B L' Y w :=
  ⟨h.os, h.tape, h.output, h.size, h.keep, fun n b c t hl => h.own n b c t (hs _ _ hl), fun n m b c t c' t' h1 h2 => h.inj n m b c t c' t' (hs _ _ h1) (hs _ _ h2),
   fun b hb ⟨n, c, t, hl⟩ => h.apart b hb ⟨n, c, t, hs _ _ hl⟩, h.high, h.lt, hr.less _ _ _ (fun _ hb => hb.imp (fun ⟨n, c, t, hl⟩ => ⟨n, c, t, hs _ _ hl⟩) id) h.rid⟩
theorem Hq.ownlt (h : Hq B L Y w) {b : Nat} (hb : Yof L b) : b < w.heap.size := by
  obtain ⟨n, c, t, hl⟩ := hb
  exact (h.own n b c t hl).1.lt

theorem lkB_cons {m n : Nat} {x y : Nat × List Value × TypeId} (h : lkB ((m, x) :: L) n = some y) : (n = m ∧ y = x) ∨ (n ≠ m ∧ lkB L n = some y) := by
  unfold lkB at h
  cases hb : Nat.beq m n with
  | true => rw [hb] at h; simp at h; exact .inl ⟨(Nat.eq_of_beq_eq_true hb).symm, h.symm⟩
  | false => rw [hb] at h; exact .inr ⟨fun e => by subst e; simp at hb, h⟩

theorem Hq.alloc (h : Hq B L Y w) (hr : Rides B.J) (n : Nat) (c : List Value) (t : TypeId) : Hq B ((n, w.heap.size, c, t) :: L) Y (w.alloc (.cells c.toArray t)) := by
  have hg : Grow w (w.alloc (.cells c.toArray t)) := (Below.refl _ w).alloc (Nat.le_refl _) _
  have h' := h.grow hr hg
  refine ⟨h'.os, h'.tape, h'.output, h'.size, h'.keep, fun m b c' t' hl => ?_, fun m k b c1 t1 c2 t2 h1 h2 => ?_, fun b hb ⟨m, c', t', hl⟩ => ?_, h'.high, h'.lt, ?_⟩
  · rcases lkB_cons hl with ⟨_, e⟩ | ⟨_, hl⟩
    · cases e; exact ⟨ownB_mk (heap_alloc_new w _), .inl h.size⟩
    · exact h'.own m b c' t' hl
  · have hlt : ∀ k c t, lkB L k = some (w.heap.size, c, t) → False := fun k c t hk => by
      have := (h.own k _ c t hk).1.lt
      omega
    rcases lkB_cons h1 with ⟨e1, e⟩ | ⟨_, h1⟩ <;> rcases lkB_cons h2 with ⟨e2, e'⟩ | ⟨_, h2⟩
    · exact e1.trans e2.symm
    · cases e; exact (hlt _ _ _ h2).elim
    · cases e'; exact (hlt _ _ _ h1).elim
    · exact h.inj m k b c1 t1 c2 t2 h1 h2
  · rcases lkB_cons hl with ⟨_, e⟩ | ⟨_, hl⟩
    · cases e; have := h.lt _ hb; omega
    · exact h.apart b hb ⟨m, c', t', hl⟩
  · refine hr.less _ _ _ (fun b hb => ?_) (hr.new _ w _ (fun k => k = w.heap.size) h.rid hg (fun b hb => by subst hb; exact ⟨Nat.le_refl _, by simp⟩))
    rcases hb with ⟨m, c', t', hl⟩ | hb
    · rcases lkB_cons hl with ⟨_, e⟩ | ⟨_, hl⟩
      · cases e; exact .inl rfl
      · exact .inr (.inl ⟨m, c', t', hl⟩)
    · exact .inr (.inr hb)
/-- A block of ours turned to other cells. -/
theorem Hq.turn (h : Hq B L Y w) (hr : Rides B.J) {n b : Nat} {c : List Value} {t : TypeId} (hl : lkB L n = some (b, c, t)) {w' : World} (c' : List Value) (ht : TurnAt b w w') (hb : OwnB w' b c' t) : Hq B ((n, b, c', t) :: L) Y w' := by
  have hw := (h.own n b c t hl).2
  have hY : ∀ x, Yof ((n, b, c', t) :: L) x → Yof L x := fun x ⟨m, c1, t1, h1⟩ => by
    rcases lkB_cons h1 with ⟨_, e⟩ | ⟨_, h1⟩
    · cases e; exact ⟨n, c, t, hl⟩
    · exact ⟨m, c1, t1, h1⟩
  refine ⟨ht.os.trans h.os, ht.tape.trans h.tape, ht.output.trans h.output, by rw [ht.size]; exact h.size, fun k hlt hm => ?_, fun m b' c1 t1 h1 => ?_, fun m k b' c1 t1 c2 t2 h1 h2 => ?_, fun x hx hy => h.apart x hx (hY x hy), h.high, fun x hx => by rw [ht.size]; exact h.lt x hx, ?_⟩
  · have : k ≠ b := fun e => by
      subst e
      rcases hw with hw | hw
      · omega
      · exact hm hw
    exact (ht.other k this).trans (h.keep k hlt hm)
  · rcases lkB_cons h1 with ⟨_, e⟩ | ⟨hne, h3⟩
    · cases e; exact ⟨hb, hw⟩
    · have hb' : b' ≠ b := fun e => hne (h.inj m n b' c1 t1 c t h3 (by rw [e]; exact hl))
      exact ⟨(h.own m b' c1 t1 h3).1.of_same (ht.other b' hb'), (h.own m b' c1 t1 h3).2⟩
  · rcases lkB_cons h1 with ⟨e1, e⟩ | ⟨n1, h1⟩ <;> rcases lkB_cons h2 with ⟨e2, e'⟩ | ⟨n2, h2⟩
    · exact e1.trans e2.symm
    · cases e; exact (n2 (h.inj k n _ _ _ _ _ h2 hl)).elim
    · cases e'; exact (n1 (h.inj m n _ _ _ _ _ h1 hl)).elim
    · exact h.inj m k b' c1 t1 c2 t2 h1 h2
  · exact hr.less _ _ _ (fun x hx => hx.imp (hY x) id) (hr.turn _ w w' b (.inl ⟨n, c, t, hl⟩) h.rid ht)
theorem turn_setCell (w : World) (b o : Nat) (v : Value) : TurnAt b w (w.setCell ⟨b, o, none⟩ v) := ⟨rfl, rfl, rfl, by simp [World.setCell], fun k hk => heap_setCell_other w _ k v hk⟩
theorem Hq.store (h : Hq B L Y w) (hr : Rides B.J) {n b : Nat} {c : List Value} {t : TypeId} (hl : lkB L n = some (b, c, t)) (o : Nat) (v : Value) : Hq B ((n, b, c.set o v, t) :: L) Y (w.setCell ⟨b, o, none⟩ v) := by
  exact h.turn hr hl (c.set o v) (turn_setCell w b o v) ((h.own n b c t hl).1.set o v)
/-- What a row holds when 'vs' has been laid over it from 'o' on. -/
def lay : Nat → List Value → List Value → List Value
  | _, [], c => c
  | o, v :: r, c => lay (o + 1) r (c.set o v)
theorem lay_length : ∀ (vs : List Value) (o : Nat) (c : List Value), (lay o vs c).length = c.length
  | [], _, _ => rfl
  | v :: r, o, c => by rw [lay, lay_length r]; simp
theorem lay_get : ∀ (vs : List Value) (o : Nat) (c : List Value) (i : Nat), o + vs.length ≤ c.length → (lay o vs c)[i]? = if o ≤ i ∧ i < o + vs.length then vs[i - o]? else c[i]?
  | [], o, c, i, _ => by simp [lay]; omega
  | v :: r, o, c, i, h => by
    simp at h
    rw [lay, lay_get r (o + 1) (c.set o v) i (by simp; omega)]
    by_cases h1 : o + 1 ≤ i ∧ i < o + 1 + r.length
    · rw [if_pos h1, if_pos (by simp; omega), show i - o = (i - (o + 1)) + 1 from by omega]
      simp
    · rw [if_neg h1]
      by_cases h2 : i = o
      · subst h2
        rw [if_pos (by simp), List.getElem?_set_self (by omega)]
        simp
      · rw [if_neg (by simp; omega), List.getElem?_set_ne (by omega)]
theorem lay_all (vs c : List Value) (h : vs.length = c.length) : lay 0 vs c = vs := by
  apply List.ext_getElem?
  intro i
  rw [lay_get vs 0 c i (by omega)]
  by_cases h1 : i < vs.length
  · rw [if_pos (by omega)]; simp
  · rw [if_neg (by omega), List.getElem?_eq_none (by omega), List.getElem?_eq_none (by omega)]
theorem lay_eq (o : Nat) (vs c : List Value) (h : o + vs.length ≤ c.length) : lay o vs c = c.take o ++ vs ++ c.drop (o + vs.length) := by
  apply List.ext_getElem?
  intro i
  rw [lay_get vs o c i h]
  by_cases h1 : i < o
  · rw [if_neg (by omega), List.append_assoc, List.getElem?_append_left (by simp; omega), List.getElem?_take, if_pos h1]
  · by_cases h2 : i < o + vs.length
    · rw [if_pos (by omega), List.append_assoc, List.getElem?_append_right (by simp; omega), List.getElem?_append_left (by simp; omega)]
      congr 1
      simp; omega
    · rw [if_neg (by omega), List.getElem?_append_right (by simp; omega), List.getElem?_drop]
      congr 1
      simp; omega
theorem Hq.lays (hr : Rides B.J) : ∀ (vs : List Value) {L : Hl} {w : World} (_ : Hq B L Y w) {n b : Nat} {c : List Value} {t : TypeId} (_ : lkB L n = some (b, c, t)) (o : Nat), Hq B ((n, b, lay o vs c, t) :: L) Y (w.setCells b o vs)
  | [], L, w, h, n, b, c, t, hl, o => h.less hr fun m x hx => by
      rcases lkB_cons hx with ⟨rfl, rfl⟩ | ⟨_, hx⟩
      · exact hl
      · exact hx
  | v :: r, L, w, h, n, b, c, t, hl, o => by
    have h1 := h.store hr hl o v
    have h2 := Hq.lays hr r h1 (n := n) (b := b) (c := c.set o v) (t := t) (by simp [lkB]) (o + 1)
    refine h2.less hr fun m x hx => ?_
    rcases lkB_cons hx with ⟨rfl, rfl⟩ | ⟨hne, hx⟩
    · simp [lkB, lay]
    · have hb : Nat.beq n m = false := by
        cases hb : Nat.beq n m with
        | false => rfl
        | true => exact absurd (Nat.eq_of_beq_eq_true hb).symm hne
      simp only [lkB, hb, cond_false]
      exact hx

theorem hp_cell {n b o : Nat} {c : List Value} {t : TypeId} {v : Value} (hl : lkB L n = some (b, c, t)) (hv : c[o]? = some v) : ∀ w, Hq B L Y w → w.cell? ⟨b, o, none⟩ = some v := fun w h => by
  rw [(h.own n b c t hl).1.cell o]
  exact hv
theorem hp_range {n b o : Nat} {c cs : List Value} {t : TypeId} (hl : lkB L n = some (b, c, t)) (hv : ∀ j v, cs[j]? = some v → c[o + j]? = some v) : ∀ w, Hq B L Y w → w.rangeAt b o cs := fun w h j v hj =>
  hp_cell hl (hv j v hj) w h
theorem hp_row {n b : Nat} {c : List Value} {t : TypeId} (hl : lkB L n = some (b, c, t)) : ∀ w, Hq B L Y w → w.rangeAt b 0 c := hp_range hl (fun j v h => by simpa using h)
theorem hp_old {ad : Addr} {v : Value} (h : B.w0.cell? ad = some v) (hm : ¬ B.M ad.block) : ∀ w, Hq B L Y w → w.cell? ad = some v := fun w hw => by
  have hlt : ad.block < B.w0.heap.size := block_lt_of_cell h
  rw [World.cell?_of_block (w := B.w0) (hw.keep ad.block hlt hm)]
  exact h
theorem hp_oldrange {b o : Nat} {cs : List Value} (h : B.w0.rangeAt b o cs) (hm : ¬ B.M b) : ∀ w, Hq B L Y w → w.rangeAt b o cs := fun w hw j v hj => hp_old (h j v hj) hm w hw
end

section
variable {P : Program} {G : Cls} {ro : Option Nat} {ops : Array Oper} {N : Nat} {ds : List Deferred} {fs : List Nat} {Z : Fr → Cls → Prop} {F : Fr} {C : Cls} {rest : List Oper}
variable {d : Nat} {ty : TypeId} {pos : String} {af : Array Edge} {gd : Option (Nat × Bool)}
variable {B : Bs} {L : Hl}

theorem lx_run {E : Oper → Bool} {o : Oper} (hE : E o = true) (hw : wantF ops F o = some true) (hd : fitsD N o.dst = true) (hnd : ∀ c, o.op ≠ .defer c)
    (h : ∀ a w, Has N ds F a → C w → ∃ v w' C', ((execOp a.eval o).run P w = .ok (.value v) w' ∨ ((execOp a.eval o).run P w = .ok .skip w' ∧ v = undef)) ∧ Good G C' ∧ C' w' ∧ Lx P G ro ops N ds E Z rest (putF o.dst v F) C')
    (hgr : E (growOf o) = false := by rfl) : Lx P G ro ops N ds E Z (o :: rest) F C := by
  unfold Lx
  rw [hE]
  intro a w ha hC
  have hgr : ∀ C' : Cls, E (growOf o) = true → ∀ w, C' w → C w := fun _ h => by rw [hgr] at h; cases h
  obtain ⟨v, w', C', hr, hS, hw', hk⟩ := h a w ha hC
  refine ⟨ha.want hw, fun f _ => fence_fn ro f, ?_⟩
  rw [show (FW ro).round = ro from rfl, Oper.semAt_eq _ _ _ hnd]
  rcases hr with hr | ⟨hr, rfl⟩
  · rw [hr]; exact ⟨_, C', ha.putF hd v, hS, hw', hgr C', hk⟩
  · rw [hr]; exact ⟨_, C', ha.putF hd _, hS, hw', hgr C', hk⟩

/-- A new variable, zero. -/
theorem lx_alloc (n : Nat) {t : TypeId} {z : Value} (hG : BOk G B) (hz : ∀ w, (zeroValue t).run P w = .ok z w) (hw : wantF ops F ⟨some d, .alloc t, ty, pos, af, gd⟩ = some true) (hd : Nat.blt d N = true)
    (h : ∀ b, Lx P G ro ops N ds (EE fs) Z rest ((d, .pointer (some ⟨b, 0, none⟩)) :: F) (Hp B ((n, b, z.cells.toList, t) :: L))) : Lx P G ro ops N ds (EE fs) Z (⟨some d, .alloc t, ty, pos, af, gd⟩ :: rest) F (Hp B L) :=
  lx_run rfl hw hd (fun _ h => by cases h) fun a w ha hC => by
    refine ⟨.pointer (some ⟨w.heap.size, 0, none⟩), w.alloc (.cells z.cells t), _, .inl ?_, good_hp hG, ?_, h w.heap.size⟩
    · simp only [execOp, Instr.alloc, Sem.run_bind, hz, Result.andThen_ok]
      rfl
    · have := hC.alloc hG.r n z.cells.toList t
      simpa using this
/-- A new variable that holds a value. -/
theorem lx_box (n : Nat) {t : TypeId} {x : Operand} {v : Value} (hG : BOk G B) (hx : evF F x = some v) (hw : wantF ops F ⟨some d, .box t x, ty, pos, af, gd⟩ = some true) (hd : Nat.blt d N = true)
    (h : ∀ b, Lx P G ro ops N ds (EE fs) Z rest ((d, .pointer (some ⟨b, 0, none⟩)) :: F) (Hp B ((n, b, v.cells.toList, t) :: L))) : Lx P G ro ops N ds (EE fs) Z (⟨some d, .box t x, ty, pos, af, gd⟩ :: rest) F (Hp B L) :=
  lx_run rfl hw hd (fun _ h => by cases h) fun a w ha hC => by
    refine ⟨.pointer (some ⟨w.heap.size, 0, none⟩), w.alloc (.cells v.cells t), _, .inl ?_, good_hp hG, ?_, h w.heap.size⟩
    · simp only [execOp, ha.ev hx]
      rfl
    · have := hC.alloc hG.r n v.cells.toList t
      simpa using this
/-- One cell written. -/
theorem lx_store (n : Nat) {t et : TypeId} {x y : Operand} {b o : Nat} {c : List Value} {v : Value} (hG : BOk G B) (hx : evF F x = some (.pointer (some ⟨b, o, none⟩))) (hy : evF F y = some v) (hl : lkB L n = some (b, c, et))
    (hs : ∀ w, (sizeOf t).run P w = .ok 1 w) (hv : v.oneCell' = true) (ho : o < c.length) (hw : wantF ops F ⟨none, .store t x y, ty, pos, af, gd⟩ = some true)
    (h : Lx P G ro ops N ds (EE fs) Z rest F (Hp B ((n, b, c.set o v, et) :: L))) : Lx P G ro ops N ds (EE fs) Z (⟨none, .store t x y, ty, pos, af, gd⟩ :: rest) F (Hp B L) :=
  lx_run rfl hw rfl (fun _ h => by cases h) fun a w ha hC => by
    have hb := (hC.own n b c et hl).1
    have hcell : w.cell? ⟨b, o, none⟩ = some c[o] := hp_cell hl (List.getElem?_eq_getElem ho) w hC
    have hfz := hb.frozen ho
    have hst := run_storeCells_cells (P := P) b o [v] 0 w (by simp [hcell]) (by simp [hfz]) (by simpa using hv)
    refine ⟨undef, w.setCell ⟨b, o, none⟩ v, _, .inr ⟨?_, rfl⟩, good_hp hG, hC.store hG.r hl o v, h⟩
    have hcs : v.cells = #[v] := by cases v <;> first | rfl | simp [Value.oneCell'] at hv
    simp only [execOp, ha.ev hx, ha.ev hy]
    simp only [World.setCells, Nat.add_zero] at hst
    simp [Instr.storeAt, Instr.sureAddr, storeVar, hs, hcs, hst]
/-- A row of cells written. -/
theorem lx_storer (n : Nat) {t et : TypeId} {x y : Operand} {b o m : Nat} {c : List Value} {vs : List Value} (hG : BOk G B) (hx : evF F x = some (.pointer (some ⟨b, o, none⟩))) (hy : evF F y = some (.agg vs.toArray)) (hl : lkB L n = some (b, c, et))
    (hs : ∀ w, (sizeOf t).run P w = .ok m w) (hm : vs.length = m) (hv : vs.all (·.oneCell') = true) (ho : o + vs.length ≤ c.length) (hw : wantF ops F ⟨none, .store t x y, ty, pos, af, gd⟩ = some true)
    (h : Lx P G ro ops N ds (EE fs) Z rest F (Hp B ((n, b, lay o vs c, et) :: L))) : Lx P G ro ops N ds (EE fs) Z (⟨none, .store t x y, ty, pos, af, gd⟩ :: rest) F (Hp B L) :=
  lx_run rfl hw rfl (fun _ h => by cases h) fun a w ha hC => by
    have hb := (hC.own n b c et hl).1
    have hst := run_storeCells_cells (P := P) b o vs 0 w (fun j hj => by rw [hp_cell hl (List.getElem?_eq_getElem (by omega)) w hC]; rfl) (fun j hj => hb.frozen (by omega)) (fun v hv' => List.all_eq_true.1 hv v hv')
    refine ⟨undef, w.setCells b o vs, _, .inr ⟨?_, rfl⟩, good_hp hG, Hq.lays hG.r vs hC hl o, h⟩
    simp only [execOp, ha.ev hx, ha.ev hy]
    simp only [Nat.add_zero] at hst
    simp [Instr.storeAt, Instr.sureAddr, storeVar, hs, Value.cells, hm, hst]
/-- The builtin copy, into a block of ours. -/
theorem lx_copy (n : Nat) {dT sT e et : TypeId} {x y : Operand} {b o dl dc : Nat} {sa : Addr} {sl sc : Nat} {c cs : List Value} (hG : BOk G B) (hx : evF F x = some (.slice (some ⟨b, o, none⟩) dl dc)) (hy : evF F y = some (.slice (some sa) sl sc))
    (hl : lkB L n = some (b, c, et)) (hu : P.underlying dT = some (.slice e)) (hs : (P.info? e).map (·.size) = some 1) (hn : cs.length = Nat.min sl dl) (hsrc : ∀ w, Hp B L w → ∀ j v, cs[j]? = some v → w.cell? (sa.add j) = some v)
    (hv : cs.all (·.oneCell') = true) (ho : o + cs.length ≤ c.length) (hw : wantF ops F ⟨some d, .call { callee := .builtin .copy, args := #[x, y], argTypes := #[dT, sT] }, ty, pos, af, gd⟩ = some true) (hd : Nat.blt d N = true)
    (h : Lx P G ro ops N ds (EE fs) Z rest ((d, I cs.length) :: F) (Hp B ((n, b, lay o cs c, et) :: L))) :
    Lx P G ro ops N ds (EE fs) Z (⟨some d, .call { callee := .builtin .copy, args := #[x, y], argTypes := #[dT, sT] }, ty, pos, af, gd⟩ :: rest) F (Hp B L) :=
  lx_run rfl hw hd (fun _ h => by cases h) fun a w ha hC => by
    have hb := (hC.own n b c et hl).1
    have hr := run_copy_cells (P := P) w dT sT ty e b o dl dc sa sl sc cs hu hs hn (hsrc w hC) (fun j hj => by rw [hp_cell hl (List.getElem?_eq_getElem (by omega)) w hC]; rfl) (fun j hj => hb.frozen (by omega)) (fun v hv' => List.all_eq_true.1 hv v hv')
    refine ⟨I cs.length, w.setCells b o cs, _, .inl ?_, good_hp hG, Hq.lays hG.r cs hC hl o, h⟩
    simp only [execOp, resolve, invoke, builtin, Sem.run_bind, Sem.run_pure, Result.andThen_ok, List.map_toArray, List.map_cons, List.map_nil, ha.ev hx, ha.ev hy, hr]
    rfl

/-! ### Calls -/
/-- The call hands back v; nothing old has turned. -/
def Pure (P : Program) (G : Cls) (f : FuncId) (args : List Value) (v : Value) : Prop := ∀ w, G w → Calls P f args.toArray w (fun e w' => e = .returned v ∧ Grow w w')
def Enters (P : Program) (f : FuncId) : Prop := ∀ args w, (callFunc f args).run P w = .ok (.enter f args) w
theorem callsIn_any {f : FuncId} {args : Array Value} {w : World} {R : Ending → World → Prop} (h : Calls P f args w R) : CallsIn (FW ro) 0 P f args w R := by
  have h0 : CallsIn (FW none) 0 P f args w R := (callsIn_wide (n := 0)).2 h
  cases ro with
  | none => exact h0
  | some l => exact h0
/-- A call that hands back one value, whatever the world of the class. -/
theorem lx_callC {f : Nat} {al : List Operand} {at' : Array TypeId} {vs : List Value} {v : Value} (hf : fs.any (Nat.beq f) = false) (ha : evL F al = some vs) (he : Enters P f) (hp : ∀ w, C w → G w → Calls P f vs.toArray w (fun e w' => e = .returned v ∧ Grow w w'))
    (hw : wantF ops F ⟨some d, .call { callee := .value (.func f), args := al.toArray, argTypes := at' }, ty, pos, af, gd⟩ = some true) (hd : Nat.blt d N = true)
    (h : Lx P G ro ops N ds (EE fs) Z rest ((d, v) :: F) C) : Lx P G ro ops N ds (EE fs) Z (⟨some d, .call { callee := .value (.func f), args := al.toArray, argTypes := at' }, ty, pos, af, gd⟩ :: rest) F C :=
  lx_callv (v := v) (by simpa [EE] using hf) hw hd (fun _ h => by cases h) (fun a w hA hC => ⟨f, vs.toArray, by
    have e := hA.evL ha
    simp only [execOp, resolve, invoke, Sem.run_bind, Sem.run_pure, Result.andThen_ok, List.map_toArray, e, Act.eval, Deferred.ofValue]
    simp [he _ w], callsIn_any (hp w hC.1 hC.2)⟩) h
theorem lx_call {f : Nat} {al : List Operand} {at' : Array TypeId} {vs : List Value} {v : Value} (hf : fs.any (Nat.beq f) = false) (ha : evL F al = some vs) (he : Enters P f) (hp : Pure P G f vs v)
    (hw : wantF ops F ⟨some d, .call { callee := .value (.func f), args := al.toArray, argTypes := at' }, ty, pos, af, gd⟩ = some true) (hd : Nat.blt d N = true)
    (h : Lx P G ro ops N ds (EE fs) Z rest ((d, v) :: F) C) : Lx P G ro ops N ds (EE fs) Z (⟨some d, .call { callee := .value (.func f), args := al.toArray, argTypes := at' }, ty, pos, af, gd⟩ :: rest) F C :=
  lx_callC hf ha he (fun w _ hG => hp w hG) hw hd h
end
end Go.Proofs.YtkfnadpdcgcffaaDoor
