/-
  The engine, part 11: more steps: loops whose base turns; bytes; slices; calls that make memory.
  The engine, part 12: append; slices that are made.
  The engine, part 13: blocks of a caller's that a call turns; slices by unsigned bounds.
  Arrays of bytes held against one another; a function held against nil.
  More on bytes that lie wherever; the builtin min.
  Two results; a struct of zeros.
  Bytes as a string; strings held against one another.
  The engine, part 18: a region that draws its order, walked in an order of our choice.
  The engine, part 19: arrays of numbers that come in.
  The engine, part 20: 'for .. := range f' where the rounds' state is one of many.
  The engine, part 21: labels; calls that run here and now; two results; arrays of numbers held against one another.
  The engine, part 22: slices of values of one cell each: literals, append; blocks of a callee's that have no name of their own.
  The engine, part 23: variables that are made in any order.
  The engine, part 24: a region that draws its order, where a store and a read of another variable may come in either order.
-/
import Derived.Test.YtdkkipjcmflclaaDoorX1
import Derived.Laws.IdiomCopy
import Derived.Deep.AppendSrc
import Derived.Laws.StructEq
import Derived.Laws.BytesString
import Derived.Laws.Strings
import Derived.OpenShut
import Derived.Scope
import Derived.Laws.Externs
namespace Go.Proofs.YtdkkipjcmflclaaDoor
open Go.RowKit

section
variable {P : Program} {G : Cls} {ro : Option Nat} {N : Nat} {ds : List Deferred} {F : Fr} {K : KK} {B : Bs} {L : Hl}
/-- A loop over a family of states, the base turning with it. -/
theorem x_forB {c : Code} {ι : Type} (Fm : ι → Fr) (Bm : ι → Bs) (Lm : ι → Hl) (m : ι → Nat) (i0 : ι) (hG : ∀ i, BOk G (Bm i)) (hB : Bm i0 = B) (hF : SubF F (Fm i0)) (hL : SubB L (Lm i0))
    (hr : ∀ i, X P G ro N ds c (Fm i) (Hp (Bm i) (Lm i)) (Kseq (fun ds' F' C' => ds' = ds ∧ ∃ j L', m j < m i ∧ C' = Hp (Bm j) L' ∧ SubF F' (Fm j) ∧ SubB L' (Lm j)) K)) : X P G ro N ds (.loop c) F (Hp B L) K := by
  subst hB
  exact x_loop Fm (fun i => Hp (Bm i) (Lm i)) m i0 (fun _ => good_hp (hG i0)) (has_sub hF) (hp_sub (hG i0).r hL) fun i => (hr i).mono fun e ds' F' C' hk => by
    cases e with
    | normal =>
      obtain ⟨rfl, j, L', hj, rfl, h1, h2⟩ := hk
      exact ⟨rfl, j, hj, fun _ => good_hp (hG j), has_sub h1, hp_sub (hG j).r h2⟩
    | _ => exact hk
end

/-- Bytes that lie somewhere. -/
def BytesAt (w : World) (a : Option Addr) (rs : List (BitVec 8)) : Prop := ∀ j v, (rs.map U8)[j]? = some v → ∃ ad, a = some ad ∧ w.cell? (ad.add j) = some v
theorem bytes_nil (w : World) (a : Option Addr) : BytesAt w a [] := fun j v h => by simp at h
theorem add_add (a : Addr) (k j : Nat) (hk : k ≠ 0) : (a.add k).add j = a.add (k + j) := by
  unfold Addr.add
  rw [if_neg hk, if_neg (show ¬ k + j = 0 by omega)]
  by_cases hj : j = 0
  · subst hj; simp
  · rw [if_neg hj]; simp; omega
theorem BytesAt.drop {w : World} {a : Option Addr} {rs : List (BitVec 8)} (h : BytesAt w a rs) {cap l : Nat} (hc : rs.length ≤ cap) (hl : l ≠ 0) : BytesAt w (if cap = l then a else a.map (·.add (l * 1))) (rs.drop l) := fun j v hv => by
  rw [List.map_drop, List.getElem?_drop] at hv
  obtain ⟨ad, rfl, hc'⟩ := h (l + j) v hv
  have hlt : l + j < rs.length := by
    rcases Nat.lt_or_ge (l + j) rs.length with h' | h'
    · exact h'
    · rw [List.getElem?_eq_none (by simpa using h')] at hv; cases hv
  rw [if_neg (by omega)]
  exact ⟨ad.add (l * 1), rfl, by rw [Nat.mul_one, add_add ad l j hl]; exact hc'⟩
theorem BytesAt.take {w : World} {a : Option Addr} {rs : List (BitVec 8)} (h : BytesAt w a rs) (n : Nat) : BytesAt w a (rs.take n) := fun j v hv => by
  rw [List.map_take, List.getElem?_take] at hv
  split at hv
  · exact h j v hv
  · cases hv
theorem BytesAt.of_same {w w' : World} {a : Option Addr} {rs : List (BitVec 8)} (h : BytesAt w a rs) (hs : ∀ ad v, w.cell? ad = some v → a = some ad ∨ (∃ b, a = some b ∧ b.block = ad.block) → w'.cell? ad = some v) : BytesAt w' a rs := fun j v hv => by
  obtain ⟨ad, rfl, hc⟩ := h j v hv
  refine ⟨ad, rfl, hs _ v hc (.inr ⟨ad, rfl, ?_⟩)⟩
  unfold Addr.add
  split <;> rfl
theorem BytesAt.grow {w w' : World} {a : Option Addr} {rs : List (BitVec 8)} (h : BytesAt w a rs) (hg : Grow w w') : BytesAt w' a rs :=
  h.of_same fun _ _ hc _ => (hg.cell (block_lt_of_cell hc)).trans hc
theorem BytesAt.turn {w w' : World} {a : Option Addr} {rs : List (BitVec 8)} (h : BytesAt w a rs) {b : Nat} (ht : TurnAt b w w') (hb : ∀ ad, a = some ad → ad.block ≠ b) : BytesAt w' a rs :=
  h.of_same fun ad v hc ho => by
    have : ad.block ≠ b := by
      rcases ho with rfl | ⟨x, rfl, e⟩
      · exact hb ad rfl
      · exact e ▸ hb x rfl
    rw [World.cell?_of_block (w := w) (ht.other ad.block this)]
    exact hc
theorem BytesAt.range {w : World} {b o : Nat} {rs : List (BitVec 8)} (h : w.rangeAt b o (rs.map U8)) : BytesAt w (some ⟨b, o, none⟩) rs := fun j v hv => ⟨_, rfl, by rw [Addr.add_mid]; exact h j v hv⟩

section
variable {P : Program} {G : Cls} {ro : Option Nat} {ops : Array Oper} {N : Nat} {ds : List Deferred} {fs : List Nat} {Z : Fr → Cls → Prop} {F : Fr} {C : Cls} {rest : List Oper}
variable {d : Nat} {ty : TypeId} {pos : String} {af : Array Edge} {gd : Option (Nat × Bool)} {B : Bs} {L : Hl}
/-- The builtin copy, from bytes that lie wherever. -/
theorem lx_copys (n : Nat) {dT sT e et : TypeId} {x y : Operand} {b o dl dc : Nat} {sa : Option Addr} {sl sc : Nat} {c : List Value} {cs : List (BitVec 8)} (hG : BOk G B) (hx : evF F x = some (.slice (some ⟨b, o, none⟩) dl dc)) (hy : evF F y = some (.slice sa sl sc))
    (hl : lkB L n = some (b, c, et)) (hu : P.underlying dT = some (.slice e)) (hs : (P.info? e).map (·.size) = some 1) (hn : cs.length = Nat.min sl dl) (hsrc : ∀ w, Hp B L w → BytesAt w sa cs)
    (ho : o + cs.length ≤ c.length) (hw : wantF ops F ⟨some d, .call { callee := .builtin .copy, args := #[x, y], argTypes := #[dT, sT] }, ty, pos, af, gd⟩ = some true) (hd : Nat.blt d N = true)
    (h : Lx P G ro ops N ds (EE fs) Z rest ((d, I cs.length) :: F) (Hp B ((n, b, lay o (cs.map U8) c, et) :: L))) :
    Lx P G ro ops N ds (EE fs) Z (⟨some d, .call { callee := .builtin .copy, args := #[x, y], argTypes := #[dT, sT] }, ty, pos, af, gd⟩ :: rest) F (Hp B L) := by
  cases sa with
  | some ad =>
    have := lx_copy (P := P) (ro := ro) (ops := ops) (N := N) (ds := ds) (fs := fs) (Z := Z) (rest := rest) (d := d) (ty := ty) (pos := pos) (af := af) (gd := gd) (cs := cs.map U8) n hG hx hy hl hu hs (by simpa using hn)
      (fun w hw j v hv => by obtain ⟨ad', e, hc⟩ := hsrc w hw j v hv; cases e; exact hc) (one_u8 cs) (by simpa using ho) hw hd (by simpa using h)
    exact this
  | none =>
    refine lx_run rfl hw hd (fun _ h => by cases h) fun a w ha hC => ?_
    have h0 : cs = [] := by
      cases cs with
      | nil => rfl
      | cons x r =>
        obtain ⟨_, e, _⟩ := hsrc w hC 0 (U8 x) (by simp)
        cases e
    subst h0
    have hr := run_copy_none (P := P) w dT sT ty e (some ⟨b, o, none⟩) none dl dc sl sc hu hs (by simpa using hn.symm)
    refine ⟨I 0, w, _, .inl ?_, good_hp hG, ?_, h⟩
    · simp only [execOp, resolve, invoke, builtin, Sem.run_bind, Sem.run_pure, Result.andThen_ok, List.map_toArray, List.map_cons, List.map_nil, ha.ev hx, ha.ev hy, hr]
      rfl
    · refine hC.less hG.r fun m y hy => ?_
      rcases lkB_cons hy with ⟨rfl, rfl⟩ | ⟨_, hy⟩
      · exact hl
      · exact hy
/-- A part of an array variable that begins at its block's first cell. -/
theorem lx_slarr1 {t e : TypeId} {n : Nat} {x : Operand} {lo hi : Option Operand} {b l h' : Nat} (hx : evF F x = some (.pointer (some ⟨b, 0, none⟩))) (hu : P.underlying t = some (.array n e)) (hs : ∀ w, (sizeOf e).run P w = .ok 1 w)
    (hl : (lo.map (evF F)).getD (some (I 0)) = some (I l)) (hh : (hi.map (evF F)).getD (some (I n)) = some (I h')) (hb : l ≤ h' ∧ h' ≤ n) (hne : l ≠ n)
    (hw : wantF ops F ⟨some d, .slice t x lo hi none, ty, pos, af, gd⟩ = some true) (hd : Nat.blt d N = true)
    (h : Lx P G ro ops N ds (EE fs) Z rest ((d, .slice (some ⟨b, l, none⟩) (h' - l) (n - l)) :: F) C) : Lx P G ro ops N ds (EE fs) Z (⟨some d, .slice t x lo hi none, ty, pos, af, gd⟩ :: rest) F C :=
  lx_slarr hx hu hs hl hh hb hne hw hd (by rw [show 0 + l * 1 = l from by omega]; exact h)
/-- An array of zeros. -/
theorem lx_buildz {t e : TypeId} {len sz : Nat} {l : List Value} (hz : ∀ w, (zeroValue t).run P w = .ok (.agg l.toArray) w) (hu : P.underlying t = some (.array len e)) (hs : ∀ w, (sizeOf e).run P w = .ok sz w)
    (hw : wantF ops F ⟨some d, .build t #[], ty, pos, af, gd⟩ = some true) (hd : Nat.blt d N = true)
    (h : Lx P G ro ops N ds (EE fs) Z rest ((d, .agg l.toArray) :: F) C) : Lx P G ro ops N ds (EE fs) Z (⟨some d, .build t #[], ty, pos, af, gd⟩ :: rest) F C :=
  lx_val (v := .agg l.toArray) rfl hw hd (fun _ h => by cases h) (fun a w _ _ => by
    simp [execOp, Instr.build, hz, run_underlying hu, hs, Value.cells, Instr.fill]) h
theorem lay_pad (rs : List (BitVec 8)) (n : Nat) (h : rs.length ≤ n) : lay 0 (rs.map U8) ((List.replicate n (0#8)).map U8) = (rs ++ List.replicate (n - rs.length) (0#8)).map U8 := by
  rw [lay_eq 0 _ _ (by simpa using h)]
  simp [List.map_append]
/-- A part of a slice. -/
theorem lx_slsl {t e : TypeId} {sz : Nat} {x : Operand} {lo hi : Option Operand} {a0 : Option Addr} {len cap l h' : Nat} (hx : evF F x = some (.slice a0 len cap)) (hu : P.underlying t = some (.slice e)) (hs : ∀ w, (sizeOf e).run P w = .ok sz w)
    (hl : (lo.map (evF F)).getD (some (I 0)) = some (I l)) (hh : (hi.map (evF F)).getD (some (I len)) = some (I h')) (hb : l ≤ h' ∧ h' ≤ cap)
    (hw : wantF ops F ⟨some d, .slice t x lo hi none, ty, pos, af, gd⟩ = some true) (hd : Nat.blt d N = true)
    (h : Lx P G ro ops N ds (EE fs) Z rest ((d, .slice (if cap = l then a0 else a0.map (·.add (l * sz))) (h' - l) (cap - l)) :: F) C) : Lx P G ro ops N ds (EE fs) Z (⟨some d, .slice t x lo hi none, ty, pos, af, gd⟩ :: rest) F C :=
  lx_val (v := .slice (if cap = l then a0 else a0.map (·.add (l * sz))) (h' - l) (cap - l)) rfl hw hd (fun _ h => by cases h) (fun a w ha _ => by
    simp only [execOp, ha.ev hx]
    cases lo with
    | none =>
      simp at hl
      have hl0 : l = 0 := by omega
      subst hl0
      cases hi with
      | none =>
        simp at hh
        have : h' = len := by omega
        subst this
        simp [Instr.sliceAt, Instr.slice, run_underlying hu, Instr.sliceBounds, hs]
      | some y =>
        have hy := ha.ev (x := y) (v := I h') (by simpa using hh)
        have hb2 : h' ≤ cap := hb.2
        simp [Instr.sliceAt, Instr.slice, run_underlying hu, Instr.sliceBounds, Instr.sliceBound, asIntOf, hy, hs, hb2]
    | some z =>
      have hz := ha.ev (x := z) (v := I l) (by simpa using hl)
      have hb1 : l ≤ h' := hb.1
      cases hi with
      | none =>
        simp at hh
        have : h' = len := by omega
        subst this
        simp [Instr.sliceAt, Instr.slice, run_underlying hu, Instr.sliceBounds, Instr.sliceBound, asIntOf, hz, hs, hb1]
      | some y =>
        have hy := ha.ev (x := y) (v := I h') (by simpa using hh)
        have hb2 : h' ≤ cap := hb.2
        simp [Instr.sliceAt, Instr.slice, run_underlying hu, Instr.sliceBounds, Instr.sliceBound, asIntOf, hy, hz, hs, hb1, hb2]) h

/-- A call that makes memory, or turns it. -/
theorem lx_callE {f : Nat} {al : List Operand} {at' : Array TypeId} {vs : List Value} {dst : Option Nat} (hf : fs.any (Nat.beq f) = true) (ha : evL F al = some vs) (he : Enters P f)
    (hw : wantF ops F ⟨dst, .call { callee := .value (.func f), args := al.toArray, argTypes := at' }, ty, pos, af, gd⟩ = some true) (hd : fitsD N dst = true)
    (hp : ∀ w, C w → Calls P f vs.toArray w (fun e w' => ∃ v C', e = .returned v ∧ Good G C' ∧ C' w' ∧ Lx P G ro ops N ds (EE fs) Z rest (putF dst v F) C'))
    (hgr : fs.any (Nat.beq (f + 2000000)) = false := by rfl) :
    Lx P G ro ops N ds (EE fs) Z (⟨dst, .call { callee := .value (.func f), args := al.toArray, argTypes := at' }, ty, pos, af, gd⟩ :: rest) F C := by
  unfold Lx
  rw [show EE fs ⟨dst, .call { callee := .value (.func f), args := al.toArray, argTypes := at' }, ty, pos, af, gd⟩ = true from hf]
  intro a w hA hC
  refine ⟨hA.want hw, fun f _ => fence_fn ro f, ?_⟩
  rw [show (FW ro).round = ro from rfl, Oper.semAt_eq _ _ _ (fun _ h => by cases h)]
  have e : (execOp a.eval ⟨dst, .call { callee := .value (.func f), args := al.toArray, argTypes := at' }, ty, pos, af, gd⟩).run P w = .ok (.enter f vs.toArray) w := by
    have e := hA.evL ha
    simp only [execOp, resolve, invoke, Sem.run_bind, Sem.run_pure, Result.andThen_ok, List.map_toArray, e, Act.eval, Deferred.ofValue]
    simp [he _ w]
  rw [e]
  refine ⟨fun h => (by cases h), CallsIn.mono (callsIn_any (hp w hC)) fun e w' ⟨v, C', he', hS, hw', hk⟩ => ?_⟩
  subst he'
  exact ⟨_, C', hA.putF hd v, hS, hw', fun h => (by rw [show EE fs (growOf ⟨dst, .call { callee := .value (.func f), args := al.toArray, argTypes := at' }, ty, pos, af, gd⟩) = false from hgr] at h; cases h), hk⟩
/-- A call that makes memory, and only narrows the class. -/
theorem lx_callG {f : Nat} {al : List Operand} {at' : Array TypeId} {vs : List Value} {dst : Option Nat} (hf : fs.any (Nat.beq f) = true) (ha : evL F al = some vs) (he : Enters P f)
    (hw : wantF ops F ⟨dst, .call { callee := .value (.func f), args := al.toArray, argTypes := at' }, ty, pos, af, gd⟩ = some true) (hd : fitsD N dst = true)
    (hp : ∀ w, C w → Calls P f vs.toArray w (fun e w' => ∃ v C', e = .returned v ∧ Good G C' ∧ C' w' ∧ (∀ w, C' w → C w) ∧ Lx P G ro ops N ds (EE fs) Z rest (putF dst v F) C')) :
    Lx P G ro ops N ds (EE fs) Z (⟨dst, .call { callee := .value (.func f), args := al.toArray, argTypes := at' }, ty, pos, af, gd⟩ :: rest) F C := by
  unfold Lx
  rw [show EE fs ⟨dst, .call { callee := .value (.func f), args := al.toArray, argTypes := at' }, ty, pos, af, gd⟩ = true from hf]
  intro a w hA hC
  refine ⟨hA.want hw, fun f _ => fence_fn ro f, ?_⟩
  rw [show (FW ro).round = ro from rfl, Oper.semAt_eq _ _ _ (fun _ h => by cases h)]
  have e : (execOp a.eval ⟨dst, .call { callee := .value (.func f), args := al.toArray, argTypes := at' }, ty, pos, af, gd⟩).run P w = .ok (.enter f vs.toArray) w := by
    have e := hA.evL ha
    simp only [execOp, resolve, invoke, Sem.run_bind, Sem.run_pure, Result.andThen_ok, List.map_toArray, e, Act.eval, Deferred.ofValue]
    simp [he _ w]
  rw [e]
  refine ⟨fun h => (by cases h), CallsIn.mono (callsIn_any (hp w hC)) fun e w' ⟨v, C', he', hS, hw', hgr, hk⟩ => ?_⟩
  subst he'
  exact ⟨_, C', hA.putF hd v, hS, hw', fun _ => hgr, hk⟩
end

theorem lkB_append : ∀ (A L : Hl) (n : Nat), lkB (A ++ L) n = match lkB A n with | some x => some x | none => lkB L n
  | [], _, _ => rfl
  | (m, x) :: r, L, n => by
    show (bif Nat.beq m n then some x else lkB (r ++ L) n) = match (bif Nat.beq m n then some x else lkB r n) with | some x => some x | none => lkB L n
    cases Nat.beq m n with
    | true => rfl
    | false => exact lkB_append r L n
/-- Blocks that a callee has made. -/
theorem Hq.news {B : Bs} {L : Hl} {Y : Nat → Prop} {w w' : World} (h : Hq B L Y w) (hr : Rides B.J) (hg : Grow w w') (A : Hl) (hA : ∀ n b c t, lkB A n = some (b, c, t) → w.heap.size ≤ b ∧ OwnB w' b c t)
    (hi : ∀ n m b c t c' t', lkB A n = some (b, c, t) → lkB A m = some (b, c', t') → n = m) : Hq B (A ++ L) Y w' := by
  have h' := h.grow hr hg
  have key : ∀ n x, lkB (A ++ L) n = some x → lkB A n = some x ∨ lkB L n = some x := fun n x hx => by
    rw [lkB_append] at hx
    cases hA' : lkB A n with
    | none => rw [hA'] at hx; exact .inr hx
    | some y => rw [hA'] at hx; exact .inl hx
  refine ⟨h'.os, h'.tape, h'.output, h'.size, h'.keep, fun n b c t hl => ?_, fun n m b c t c' t' h1 h2 => ?_, fun b hb ⟨n, c, t, hl⟩ => ?_, h'.high, h'.lt, ?_⟩
  · rcases key n _ hl with hl | hl
    · exact ⟨(hA n b c t hl).2, .inl (Nat.le_trans h.size (hA n b c t hl).1)⟩
    · exact h'.own n b c t hl
  · rcases key n _ h1 with h1 | h1 <;> rcases key m _ h2 with h2 | h2
    · exact hi n m b c t c' t' h1 h2
    · have := (hA n b c t h1).1; have := h.ownlt ⟨m, c', t', h2⟩; omega
    · have := (hA m b c' t' h2).1; have := h.ownlt ⟨n, c, t, h1⟩; omega
    · exact h.inj n m b c t c' t' h1 h2
  · rcases key n _ hl with hl | hl
    · have := (hA n b c t hl).1; have := h.lt b hb; omega
    · exact h.apart b hb ⟨n, c, t, hl⟩
  · refine hr.less _ _ _ (fun b hb => ?_) (hr.new _ w w' (Yof A) h.rid hg (fun b ⟨n, c, t, hl⟩ => ⟨(hA n b c t hl).1, (hA n b c t hl).2.lt⟩))
    rcases hb with ⟨n, c, t, hl⟩ | hb
    · rcases key n _ hl with hl | hl
      · exact .inl ⟨n, c, t, hl⟩
      · exact .inr (.inl ⟨n, c, t, hl⟩)
    · exact .inr (.inr hb)
end Go.Proofs.YtdkkipjcmflclaaDoor

namespace Go.Proofs.YtdkkipjcmflclaaDoor
open Go.RowKit

/-- What is known of a type. -/
def TI (P : Program) (e : TypeId) (z : Value) (size bytes : Nat) : Prop := ∃ i, P.info? e = some i ∧ i.zero = some z ∧ i.size = size ∧ i.bytes = bytes
theorem ti_mk {P : Program} {e : TypeId} {z : Value} {size bytes : Nat} (h : (P.info? e).map (fun i => (i.zero, i.size, i.bytes)) = some (some z, size, bytes)) : TI P e z size bytes := by
  cases hq : P.info? e with
  | none => simp [hq] at h
  | some i => simp [hq] at h; exact ⟨i, hq ▸ rfl, h.1, h.2.1, h.2.2⟩

/-- A slice of bytes of our own, or nil. -/
def OwnSl (L : Hl) (n : Nat) (e : TypeId) (a0 : Option Addr) (cap : Nat) (xs : List (BitVec 8)) : Prop :=
  (a0 = none ∧ xs = [] ∧ cap = 0) ∨ ∃ b c, a0 = some ⟨b, 0, none⟩ ∧ lkB L n = some (b, c, e) ∧ c.length = cap ∧ xs.length ≤ cap ∧ c.take xs.length = xs.map U8
theorem ownSl_nil (L : Hl) (n : Nat) (e : TypeId) : OwnSl L n e none 0 [] := .inl ⟨rfl, rfl, rfl⟩

theorem take_lay (xs ys : List (BitVec 8)) (c : List Value) (h : xs.length + ys.length ≤ c.length) (hc : c.take xs.length = xs.map U8) : (lay xs.length (ys.map U8) c).take (xs.length + ys.length) = (xs ++ ys).map U8 := by
  rw [lay_eq _ _ _ (by simpa using h), List.map_append, List.take_append_of_le_length (by simp; omega), List.take_of_length_le (by simp; omega), hc]

section
variable {P : Program} {G : Cls} {ro : Option Nat} {ops : Array Oper} {N : Nat} {ds : List Deferred} {fs : List Nat} {Z : Fr → Cls → Prop} {F : Fr} {C : Cls} {rest : List Oper}
variable {d : Nat} {ty : TypeId} {pos : String} {af : Array Edge} {gd : Option (Nat × Bool)} {B : Bs} {L : Hl}

theorem src_bytes {w : World} {tx e' : TypeId} (hk : P.underlying tx = some (.slice e')) {sa : Option Addr} {sc : Nat} {ys : List (BitVec 8)} (h : BytesAt w sa ys) : Src P 1 tx (.slice sa ys.length sc) ys.length (ys.map U8) w := by
  cases sa with
  | some ad => exact Src.ofSlice w hk ad ys.length sc (ys.map U8) (by simp) (fun j u hu => by obtain ⟨ad', e, hc⟩ := h j u hu; cases e; exact hc) (fun u hu => by
      obtain ⟨x, _, rfl⟩ := List.mem_map.1 hu
      rfl)
  | none =>
    have : ys = [] := by
      cases ys with
      | nil => rfl
      | cons x r => obtain ⟨_, e, _⟩ := h 0 (U8 x) (by simp); cases e
    subst this
    exact Src.ofNil w hk sc

/-- Bytes appended to a slice of our own. -/
theorem lx_append (n : Nat) {t tx e e' : TypeId} {x y : Operand} {a0 sa : Option Addr} {cap sc : Nat} {xs ys : List (BitVec 8)} (hB : BOk G B) (hx : evF F x = some (.slice a0 xs.length cap)) (hy : evF F y = some (.slice sa ys.length sc))
    (hu : P.underlying t = some (.slice e)) (hux : P.underlying tx = some (.slice e')) (hi : TI P e (.int .u8 0) 1 1) (hown : OwnSl L n e a0 cap xs) (hsrc : ∀ w, Hp B L w → BytesAt w sa ys) (hlen : xs.length + ys.length ≤ 70368744177664)
    (hw : wantF ops F ⟨some d, .call { callee := .builtin .append, args := #[x, y], argTypes := #[t, tx] }, ty, pos, af, gd⟩ = some true) (hd : Nat.blt d N = true)
    (h0 : xs ++ ys = [] → Lx P G ro ops N ds (EE fs) Z rest ((d, .slice none 0 0) :: F) (Hp B L))
    (h : ∀ b c cap1, c.length = cap1 → (xs ++ ys).length ≤ cap1 → c.take (xs ++ ys).length = (xs ++ ys).map U8 → Lx P G ro ops N ds (EE fs) Z rest ((d, .slice (some ⟨b, 0, none⟩) (xs ++ ys).length cap1) :: F) (Hp B ((n, b, c, e) :: L)))
    (hgr : fs.any (Nat.beq 2999997) = false := by rfl) :
    Lx P G ro ops N ds (EE fs) Z (⟨some d, .call { callee := .builtin .append, args := #[x, y], argTypes := #[t, tx] }, ty, pos, af, gd⟩ :: rest) F (Hp B L) := by
  obtain ⟨i, hi, hz, hsz, hby⟩ := hi
  refine lx_run (hgr := hgr) rfl hw hd (fun _ h => by cases h) fun a w ha hC => ?_
  have hs : Src P i.size tx (.slice sa ys.length sc) ys.length (ys.map U8) w := by rw [hsz]; exact src_bytes hux (hsrc w hC)
  have run : ∀ {v : Value} {w' : World}, (Builtin.append_ #[t, tx] ty #[.slice a0 xs.length cap, .slice sa ys.length sc]).run P w = .ok v w' →
      (execOp a.eval ⟨some d, .call { callee := .builtin .append, args := #[x, y], argTypes := #[t, tx] }, ty, pos, af, gd⟩).run P w = .ok (.value v) w' := fun {v w'} hr => by
    simp only [execOp, resolve, invoke, builtin, Sem.run_bind, Sem.run_pure, Result.andThen_ok, List.map_toArray, List.map_cons, List.map_nil, ha.ev hx, ha.ev hy, hr]
  have len1 : (xs ++ ys).length = xs.length + ys.length := by simp
  rcases Nat.lt_or_ge cap (xs.length + ys.length) with hg | hroom
  · have hold : (Builtin.firstCells i.size xs.length (.slice a0 xs.length cap)).run P w.drew = .ok (xs.map U8).toArray w.drew := by
      rcases hown with ⟨rfl, rfl, rfl⟩ | ⟨b, c, rfl, hl, hc, hle, ht⟩
      · exact run_firstCells_none _ _ _ _ _
      · refine run_firstCells_some _ _ _ _ _ _ _ (by simp [hsz]) (fun j v hv => ?_)
        rw [Addr.add_mid, Nat.zero_add]
        have hcj : c[j]? = some v := by
          have : (c.take xs.length)[j]? = some v := by rw [ht]; exact hv
          rw [List.getElem?_take] at this
          split at this
          · exact this
          · cases this
        exact hp_cell hl hcj w hC
    have hr := run_append_grow_src (P := P) w t tx ty e i (.int .u8 0) hu hi hz a0 xs.length cap (xs.map U8) hold (.slice sa ys.length sc) ys.length (ys.map U8) hs hg (by omega) (by rw [hby]; exact growslice_fits hg (by omega))
    have hge := grownCap_ge w (xs.length + ys.length) cap e
    obtain ⟨cc, hcc⟩ : ∃ cc, (xs ++ ys).map U8 ++ (Builtin.zeroCells (Value.int .u8 0).cells (grownCap w (xs.length + ys.length) cap e - (xs.length + ys.length))).toList = cc := ⟨_, rfl⟩
    have hcl : cc.length = grownCap w (xs.length + ys.length) cap e := by
      rw [← hcc]
      simp only [List.length_append, List.length_map, Array.length_toList, size_zeroCells]
      show _ + _ * 1 = _
      omega
    have hct : cc.take (xs ++ ys).length = (xs ++ ys).map U8 := by rw [← hcc, List.take_append_of_le_length (by simp), List.take_of_length_le (by simp)]
    have harr : (xs.map U8 ++ ys.map U8).toArray ++ Builtin.zeroCells (Value.int .u8 0).cells (grownCap w (xs.length + ys.length) cap e - (xs.length + ys.length)) = cc.toArray := by
      rw [← hcc]
      apply Array.ext'
      simp
    rw [harr] at hr
    have hk := h w.heap.size cc _ hcl (by rw [len1]; exact hge) hct
    rw [len1] at hk
    exact ⟨_, _, _, .inl (run hr), good_hp hB, (hC.grow hB.r ((Below.refl _ w).drew)).alloc hB.r n cc e, hk⟩
  · rcases hown with ⟨rfl, rfl, rfl⟩ | ⟨b, c, rfl, hl, hc, hle, ht⟩
    · have hy0 : ys = [] := by
        cases ys with
        | nil => rfl
        | cons y r => simp at hroom
      subst hy0
      have hr : (Builtin.append_ #[t, tx] ty #[.slice none 0 0, .slice sa 0 sc]).run P w = .ok (.slice none 0 0) w := by
        have hl0 := hs.len w
        have hc0 := hs.cells
        simp at hl0 hc0
        simp [Builtin.append_, run_underlying hu, run_underlying hux, sizeOf, typeInfo, hi, hl0, hc0]
      exact ⟨_, _, _, .inl (run hr), good_hp hB, hC, h0 rfl⟩
    · have hb := (hC.own n b c e hl).1
      have hr := run_append_room_src (P := P) w t tx ty e i hu hi b 0 xs.length cap (.slice sa ys.length sc) ys.length (ys.map U8) hs hroom
        (fun j hj => by rw [hp_cell hl (List.getElem?_eq_getElem (by simp at hj; rw [hsz]; omega)) w hC]; rfl) (fun j hj => hb.frozen (by simp at hj; rw [hsz]; omega))
      rw [hsz, show 0 + xs.length * 1 = xs.length from by omega] at hr
      refine ⟨_, _, _, .inl (run hr), good_hp hB, Hq.lays hB.r (ys.map U8) hC hl xs.length, ?_⟩
      have hk := h b (lay xs.length (ys.map U8) c) cap (by rw [lay_length]; exact hc) (by rw [len1]; exact hroom) (by rw [len1]; exact take_lay xs ys c (by omega) ht)
      rw [len1] at hk
      exact hk
/-- A slice of our own reads as its bytes. -/
theorem OwnSl.bytes {n : Nat} {e : TypeId} {a0 : Option Addr} {cap : Nat} {xs : List (BitVec 8)} (h : OwnSl L n e a0 cap xs) {Y : Nat → Prop} : ∀ w, Hq B L Y w → BytesAt w a0 xs := fun w hC => by
  rcases h with ⟨rfl, rfl, rfl⟩ | ⟨b, c, rfl, hl, hc, hle, ht⟩
  · exact bytes_nil w none
  · refine BytesAt.range fun j v hv => ?_
    rw [Nat.zero_add]
    have hcj : c[j]? = some v := by
      have : (c.take xs.length)[j]? = some v := by rw [ht]; exact hv
      rw [List.getElem?_take] at this
      split at this
      · exact this
      · cases this
    exact hp_cell hl hcj w hC
/-- A slice literal. -/
theorem lx_bsl (n : Nat) (xs : List (BitVec 8)) {t e : TypeId} {len : Nat} {ps : List (Nat × Operand)} (hB : BOk G B) (hx : evL F (ps.map (·.2)) = some (xs.map U8)) (hi : ps.map (·.1) = List.range len) (hn : xs.length = len) (hl : len ≤ 16777216) (h0 : len ≠ 0) (hu : P.underlying t = some (.slice e))
    (hs : ∀ w, (sizeOf e).run P w = .ok 1 w) (hz : ∀ w, (zeroValue e).run P w = .ok (.int .u8 0) w) (hw : wantF ops F ⟨some d, .buildSlice t len ps.toArray, ty, pos, af, gd⟩ = some true) (hd : Nat.blt d N = true)
    (h : ∀ b, Lx P G ro ops N ds (EE fs) Z rest ((d, .slice (some ⟨b, 0, none⟩) xs.length xs.length) :: F) (Hp B ((n, b, xs.map U8, e) :: L)))
    (hgr : fs.any (Nat.beq 2999998) = false := by rfl) : Lx P G ro ops N ds (EE fs) Z (⟨some d, .buildSlice t len ps.toArray, ty, pos, af, gd⟩ :: rest) F (Hp B L) := by
  refine lx_run (hgr := hgr) rfl hw hd (fun _ h => by cases h) fun a w ha hC => ?_
  refine ⟨.slice (some ⟨w.heap.size, 0, none⟩) xs.length xs.length, w.alloc (.cells (xs.map U8).toArray e), _, .inl ?_, good_hp hB, hC.alloc hB.r n (xs.map U8) e, h w.heap.size⟩
  have e1 : (ps.toArray.map fun (i, x) => (i, a.eval x)) = ((List.range len).zip (xs.map U8)).toArray := by
    rw [← hi, ← ha.evL hx, List.map_toArray, List.map_map, List.zip_map']
    rfl
  have hz1 : (Value.int .u8 0).cells = #[Value.int .u8 0] := rfl
  have hf := fill_row (xs.map U8) 0 ((Array.range (len * 1)).map ((Value.int .u8 0).cells[· % (Value.int .u8 0).cells.size]!)).toList (by simp [hn]) (one_u8 xs)
  rw [lay_all _ _ (by simp [hn]), ← List.range_eq_range', List.length_map, hn] at hf
  simp only [Array.toArray_toList] at hf
  have hlt : ¬ (len * 1 > 2 ^ 24) := by omega
  show ((do pure (.value (← Instr.buildSlice t len (ps.toArray.map fun (i, x) => (i, a.eval x)))) : Sem Next)).run P w = _
  rw [e1]
  have hb : (Instr.buildSlice t len ((List.range len).zip (xs.map U8)).toArray).run P w = .ok (.slice (some ⟨w.heap.size, 0, none⟩) len len) (w.alloc (.cells (xs.map U8).toArray e)) := by
    have h00 : ¬ (len * 1 = 0) := by omega
    simp only [Instr.buildSlice, Sem.run_bind, run_underlying hu, Result.andThen_ok, hs, if_neg hlt, if_neg h00, hz, Sem.run_pure, hf]
    simp [newRow]
  rw [hn]
  simp only [Sem.run_bind, hb, Result.andThen_ok]; rfl
/-- A slice of bytes of our own is taken for a string's. -/
theorem lx_cvs (n : Nat) {t e : TypeId} {x : Operand} {b len cap : Nat} {c : List Value} (hf : fs.any (Nat.beq (1000000 + t)) = true) (hB : BOk G B) (hx : evF F x = some (.slice (some ⟨b, 0, none⟩) len cap)) (hl : lkB L n = some (b, c, e)) (hu : P.underlying t = some (.slice e)) (hue : P.underlying e = some (.int .u8))
    (hw : wantF ops F ⟨some d, .convert t t x, ty, pos, af, gd⟩ = some true) (hd : Nat.blt d N = true)
    (h : Lx P G ro ops N ds (EE fs) Z rest ((d, .slice (some ⟨b, 0, none⟩) len cap) :: F) (Hp B L))
    (hgr : fs.any (Nat.beq 2999996) = false := by rfl) : Lx P G ro ops N ds (EE fs) Z (⟨some d, .convert t t x, ty, pos, af, gd⟩ :: rest) F (Hp B L) := by
  refine lx_run (hgr := hgr) hf hw hd (fun _ h => by cases h) fun a w ha hC => ?_
  obtain ⟨fz, h1, h2⟩ := (hC.own n b c e hl).1
  have ht : TurnAt b w (w.freeze ⟨b, c.length, none⟩ 1) := ⟨rfl, rfl, rfl, by simp [World.freeze], fun k hk => by simp [World.freeze, Array.getElem?_modify, Ne.symm hk]⟩
  have ho : OwnB (w.freeze ⟨b, c.length, none⟩ 1) b c e := ⟨if fz.1 == fz.2 then (c.length, c.length + 1) else (min fz.1 c.length, max fz.2 (c.length + 1)), by
    rw [World.freeze, if_neg (by decide)]
    show (Array.modify w.heap b _)[b]? = _
    rw [Array.getElem?_modify, if_pos rfl, h1]
    simp, by
    right
    rcases h2 with rfl | h2
    · simp
    · split
      · exact Nat.le_refl _
      · show c.length ≤ min fz.1 c.length
        omega⟩
  have hw2 := hC.turn hB.r hl c ht ho
  refine ⟨_, _, _, .inl ?_, good_hp hB, hw2.less hB.r ?_, h⟩
  · have hsh : w.shape? b = some (e, c.length) := by simp only [World.shape?, h1]; simp
    simp only [execOp, ha.ev hx, convert, Sem.run_bind, run_underlying hu, run_underlying hue, Result.andThen_ok]
    simp [markStringish, hsh]
  · intro m y hy
    by_cases hm : m = n
    · subst hm
      rw [hl] at hy
      cases hy
      simp [lkB]
    · have hb : Nat.beq n m = false := by
        cases hb : Nat.beq n m with
        | false => rfl
        | true => exact absurd (Nat.eq_of_beq_eq_true hb).symm hm
      simp [lkB, hb, hy]
end
end Go.Proofs.YtdkkipjcmflclaaDoor

namespace Go.Proofs.YtdkkipjcmflclaaDoor
open Go.RowKit

/-- The call has turned block b alone of what was there. -/
structure Mod (b : Nat) (w w' : World) : Prop where
  os : w'.os = w.os
  tape : w'.tape = w.tape
  output : w'.output = w.output
  size : w.heap.size ≤ w'.heap.size
  other : ∀ k, k < w.heap.size → k ≠ b → w'.heap[k]? = w.heap[k]?
theorem Hq.mod {B : Bs} {L : Hl} {Y : Nat → Prop} {w w' : World} (h : Hq B L Y w) (hr : Rides B.J) {n b : Nat} {c : List Value} {t : TypeId} (hl : lkB L n = some (b, c, t)) (hm : Mod b w w') {c' : List Value} (ho : OwnB w' b c' t) : Hq B ((n, b, c', t) :: L) Y w' := by
  have hlt := (h.own n b c t hl).1.lt
  obtain ⟨fz, h1, h2⟩ := ho
  have hp : (w.putObj b (.cells c'.toArray t fz)).heap[b]? = some (.cells c'.toArray t fz) := World.putObj_heap_same hlt
  have ht := h.turn hr hl c' (turn_putObj w b (.cells c'.toArray t fz)) ⟨fz, hp, h2⟩
  refine ht.grow hr ⟨hm.os, hm.tape, hm.output, by simpa using hm.size, fun k hk => ?_⟩
  by_cases e : k = b
  · subst e; exact h1.trans hp.symm
  · rw [World.putObj_heap_other e]
    exact hm.other k (by simpa using hk) e
theorem block_add (ad : Addr) (k : Nat) : (ad.add k).block = ad.block := by unfold Addr.add; split <;> rfl

section
variable {P : Program} {G : Cls} {ro : Option Nat} {ops : Array Oper} {N : Nat} {ds : List Deferred} {fs : List Nat} {Z : Fr → Cls → Prop} {F : Fr} {C : Cls} {rest : List Oper}
variable {d : Nat} {ty : TypeId} {pos : String} {af : Array Edge} {gd : Option (Nat × Bool)} {B : Bs} {L : Hl}
/-- A field's place, told. -/
theorem lx_fak (k : Nat) {t : TypeId} {fields : Array Field} {f : Nat} {fd : Field} {sz : Nat} {x : Operand} {b o : Nat} (hx : evF F x = some (.pointer (some ⟨b, o, none⟩))) (hu : P.underlying t = some (.struct fields)) (hf : fields[f]? = some fd)
    (hs : ∀ w, (sizeOf fd.type).run P w = .ok sz w) (hz : sz ≠ 0) (hk : o + fd.offset = k) (hw : wantF ops F ⟨some d, .fieldAddr t x f, ty, pos, af, gd⟩ = some true) (hd : Nat.blt d N = true)
    (h : Lx P G ro ops N ds (EE fs) Z rest ((d, .pointer (some ⟨b, k, none⟩)) :: F) C) : Lx P G ro ops N ds (EE fs) Z (⟨some d, .fieldAddr t x f, ty, pos, af, gd⟩ :: rest) F C :=
  lx_fa hx hu hf hs hz hw hd (by rw [hk]; exact h)
end
section
variable {K : KK} {ds : List Deferred} {F : Fr}
end
end Go.Proofs.YtdkkipjcmflclaaDoor

namespace Go.Proofs.YtdkkipjcmflclaaDoor
open Go.RowKit
section
variable {P : Program}
end
end Go.Proofs.YtdkkipjcmflclaaDoor

namespace Go.Proofs.YtdkkipjcmflclaaDoor
open Go.RowKit
theorem BytesAt.cut {w : World} {a : Option Addr} {rs : List (BitVec 8)} (h : BytesAt w a rs) {cap : Nat} (l k : Nat) (hc : rs.length ≤ cap) : BytesAt w (if cap = l then a else a.map (·.add (l * 1))) ((rs.drop l).take k) := by
  rcases Nat.eq_zero_or_pos l with rfl | hl
  · have e : (if cap = 0 then a else a.map (·.add (0 * 1))) = a := by
      cases a with
      | none => simp
      | some ad => simp [Addr.add]
    rw [e]; exact h.take k
  · exact (h.drop hc (by omega)).take k
theorem BytesAt.lt {w : World} {a : Option Addr} {rs : List (BitVec 8)} (h : BytesAt w a rs) (hn : rs ≠ []) : ∀ ad, a = some ad → ad.block < w.heap.size := by
  intro ad e
  subst e
  cases rs with
  | nil => exact (hn rfl).elim
  | cons x r =>
    obtain ⟨ad', e, hc⟩ := h 0 (U8 x) rfl
    cases e
    rcases Nat.lt_or_ge ad.block w.heap.size with h' | h'
    · exact h'
    · have : w.heap[(ad.add 0).block]? = none := Array.getElem?_eq_none (by rw [block_add]; exact h')
      simp [World.cell?, this] at hc
section
variable {P : Program} {G : Cls} {ro : Option Nat} {ops : Array Oper} {N : Nat} {ds : List Deferred} {fs : List Nat} {Z : Fr → Cls → Prop} {F : Fr} {C : Cls} {rest : List Oper}
variable {d : Nat} {ty : TypeId} {pos : String} {af : Array Edge} {gd : Option (Nat × Bool)}
/-- A place in a slice, wherever it lies. -/
theorem lx_isA (k : Nat) {t e : TypeId} {len cap : Nat} {x ix : Operand} {ad : Addr} {i : Int} (hx : evF F x = some (.slice (some ad) len cap)) (hi : evF F ix = some (I i)) (hu : P.underlying t = some (.slice e))
    (hs : ∀ w, (sizeOf e).run P w = .ok 1 w) (hk : i = (k : Int)) (hb : k < len) (hw : wantF ops F ⟨some d, .indexAddr t x ix, ty, pos, af, gd⟩ = some true) (hd : Nat.blt d N = true)
    (h : Lx P G ro ops N ds (EE fs) Z rest ((d, .pointer (some (ad.add k))) :: F) C) : Lx P G ro ops N ds (EE fs) Z (⟨some d, .indexAddr t x ix, ty, pos, af, gd⟩ :: rest) F C :=
  lx_val (v := .pointer (some (ad.add k))) rfl hw hd (fun _ h => by cases h) (fun a w ha _ => by
    subst hk
    have h1 : ¬ len ≤ k := by omega
    simp only [execOp, ha.ev hx, ha.ev hi]
    simp [Instr.indexAt, asIntOf, run_underlying hu, hs, h1]) h
/-- The builtin min, of two. -/
theorem lx_min {a1 a2 : TypeId} {x y : Operand} {i j z : Int} (hx : evF F x = some (I i)) (hy : evF F y = some (I j)) (hz : (if j < i then j else i) = z)
    (hw : wantF ops F ⟨some d, .call { callee := .builtin .min, args := #[x, y], argTypes := #[a1, a2] }, ty, pos, af, gd⟩ = some true) (hd : Nat.blt d N = true)
    (h : Lx P G ro ops N ds (EE fs) Z rest ((d, I z) :: F) C) : Lx P G ro ops N ds (EE fs) Z (⟨some d, .call { callee := .builtin .min, args := #[x, y], argTypes := #[a1, a2] }, ty, pos, af, gd⟩ :: rest) F C :=
  lx_val (v := I z) rfl hw hd (fun _ h => by cases h) (fun a w ha _ => by
    have := run_min_int2 (P := P) w #[a1, a2] ty .i64 .i64 i j
    rw [hz] at this
    simp only [execOp, resolve, invoke, builtin, Sem.run_bind, Sem.run_pure, Result.andThen_ok, List.map_toArray, List.map_cons, List.map_nil, ha.ev hx, ha.ev hy, I, this]) h
end
end Go.Proofs.YtdkkipjcmflclaaDoor

namespace Go.Proofs.YtdkkipjcmflclaaDoor
open Go.RowKit
section
variable {P : Program} {G : Cls} {ro : Option Nat} {ops : Array Oper} {N : Nat} {ds : List Deferred} {fs : List Nat} {Z : Fr → Cls → Prop} {F : Fr} {C : Cls} {rest : List Oper}
variable {d : Nat} {ty : TypeId} {pos : String} {af : Array Edge} {gd : Option (Nat × Bool)} {B : Bs} {L : Hl}
theorem lx_builds {t : TypeId} {l : List Value} {fields : Array Field} (hz : ∀ w, (zeroValue t).run P w = .ok (.agg l.toArray) w) (hu : P.underlying t = some (.struct fields)) (hm : ∀ w, ∃ a, (Array.mapM (fun f => Prod.mk f.offset <$> sizeOf f.type) fields : Sem _).run P w = .ok a w)
    (hw : wantF ops F ⟨some d, .build t #[], ty, pos, af, gd⟩ = some true) (hd : Nat.blt d N = true)
    (h : Lx P G ro ops N ds (EE fs) Z rest ((d, .agg l.toArray) :: F) C) : Lx P G ro ops N ds (EE fs) Z (⟨some d, .build t #[], ty, pos, af, gd⟩ :: rest) F C :=
  lx_val (v := .agg l.toArray) rfl hw hd (fun _ h => by cases h) (fun a w _ _ => by
    obtain ⟨q, hq⟩ := hm w
    simp [execOp, Instr.build, hz, run_underlying hu, Value.cells, hq, Instr.fill]) h
theorem kret_two (n1 n2 : Nat) {fn : Func} {R : Ending → World → Prop} {t1 t2 : Nat} {T1 T2 et1 et2 : TypeId} {b1 b2 m1 m2 : Nat} {c1 c2 : List Value} (hr : fn.results = #[.cell t1 T1, .cell t2 T2])
    (hv1 : lk F t1 = some (.pointer (some ⟨b1, 0, none⟩))) (hv2 : lk F t2 = some (.pointer (some ⟨b2, 0, none⟩))) (hl1 : lkB L n1 = some (b1, c1, et1)) (hl2 : lkB L n2 = some (b2, c2, et2))
    (hag1 : ∀ w, (isAgg T1).run P w = .ok true w) (hs1 : ∀ w, (sizeOf T1).run P w = .ok m1 w) (hm1 : c1.length = m1) (hag2 : ∀ w, (isAgg T2).run P w = .ok true w) (hs2 : ∀ w, (sizeOf T2).run P w = .ok m2 w) (hm2 : c2.length = m2)
    (h : ∀ w, Hp B L w → R (.returned (.tuple #[.agg c1.toArray, .agg c2.toArray])) w) : Kret P fn R .ret [] F (Hp B L) :=
  ⟨rfl, fun a w ha hC => ⟨.tuple #[.agg c1.toArray, .agg c2.toArray], by
    have e1 := run_loadCells_list (P := P) w ⟨b1, 0, none⟩ c1 (fun j v hv => by rw [Addr.add_mid]; exact hp_row (n := n1) hl1 w hC j v hv)
    have e2 := run_loadCells_list (P := P) w ⟨b2, 0, none⟩ c2 (fun j v hv => by rw [Addr.add_mid]; exact hp_row (n := n2) hl2 w hC j v hv)
    rw [hm1] at e1
    rw [hm2] at e2
    simp [results, hr, ha.get t1 _ hv1, ha.get t2 _ hv2, asAddr, loadVar, hag1, hs1, hag2, hs2, e1, e2], h w hC⟩⟩
end
end Go.Proofs.YtdkkipjcmflclaaDoor

namespace Go.Proofs.YtdkkipjcmflclaaDoor
open Go.RowKit
def strB (xs : List (BitVec 8)) : ByteArray := (xs.map fun b => (b.toNat : Int)).foldl (fun r n => r.push (UInt8.ofNat n.toNat)) ByteArray.empty
section
variable {P : Program}
theorem conv_str {src dst e : TypeId} (hs : P.underlying src = some (.slice e)) (he : P.underlying e = some (.int .u8)) (hd : P.underlying dst = some .string) {w : World} {a : Option Addr} {xs : List (BitVec 8)} (h : BytesAt w a xs) (len cap : Nat) (hl : xs.length = len) :
    (convert src dst (.slice a len cap)).run P w = .ok (.string (strB xs)) w := by
  subst hl
  rw [run_convert_bytes_string w src dst e a _ cap hs he hd]
  cases a with
  | none =>
    have h0 : xs = [] := by
      cases xs with
      | nil => rfl
      | cons x r => obtain ⟨ad, e, _⟩ := h 0 (U8 x) rfl; cases e
    subst h0
    simp only [Conv.bytesToString, Sem.run_pure]
    rfl
  | some ad =>
    have hc := run_loadCells_list (P := P) w ad (xs.map U8) (fun j v hv => by obtain ⟨ad', e, hc⟩ := h j v hv; cases e; exact hc)
    rw [List.length_map] at hc
    exact run_bytesToString w ad _ cap (xs.map fun b => (b.toNat : Int)) (by rw [hc, List.map_map]; rfl)
end
end Go.Proofs.YtdkkipjcmflclaaDoor

namespace Go.Proofs.YtdkkipjcmflclaaDoor
open Go.RowKit
def nthL : List Oper → Nat → Option Oper
  | [], _ => none
  | x :: _, 0 => some x
  | _ :: r, n + 1 => nthL r n
def pickL : List Nat → List Oper → List Oper
  | [], _ => []
  | k :: σ, l => match nthL l k with
    | some o => o :: pickL σ l
    | none => pickL σ l
theorem nthL_eq : ∀ (l : List Oper) (k : Nat), nthL l k = l[k]?
  | [], _ => rfl
  | _ :: _, 0 => rfl
  | _ :: r, k + 1 => nthL_eq r k
theorem pickL_eq (l : List Oper) : ∀ σ : List Nat, σ.filterMap (l.toArray[·]?) = pickL σ l
  | [] => rfl
  | k :: σ => by
    have ih := pickL_eq l σ
    simp only [List.getElem?_toArray] at ih
    simp only [List.filterMap_cons, pickL, nthL_eq, List.getElem?_toArray]
    cases l[k]? with
    | none => exact ih
    | some o => simp only [ih]
section
variable {P : Program} {G : Cls} {ro : Option Nat} {N : Nat} {ds : List Deferred} {F : Fr} {C : Cls} {K : KK}
theorem x_draws {id : Nat} {l : List Oper} {E : Oper → Bool} (σ : List Nat) (hm : P.follows .mixedOrders = true) (hlen : σ.length = l.length) (hsel : Region.noSelect l.toArray = true) (hdef : noDefer l.toArray = true)
    (hok : okFrom .any l.toArray E σ (Array.replicate l.toArray.size false) = true) (h : Lx P G ro l.toArray N ds E (K .normal ds) (pickL σ l) F C) : X P G ro N ds (.region id l.toArray true) F C K :=
  x_draw σ hm hlen hsel hdef hok (by rw [pickL_eq]; exact h)
theorem xs_draws {id : Nat} {l : List Oper} {E : Oper → Bool} {y : Code} (σ : List Nat) (hm : P.follows .mixedOrders = true) (hlen : σ.length = l.length) (hsel : Region.noSelect l.toArray = true) (hdef : noDefer l.toArray = true)
    (hok : okFrom .any l.toArray E σ (Array.replicate l.toArray.size false) = true) (h : Lx P G ro l.toArray N ds E (fun F' C' => X P G ro N ds y F' C' K) (pickL σ l) F C) : X P G ro N ds (.seq (.region id l.toArray true) y) F C K :=
  x_seq (x_draws σ hm hlen hsel hdef hok h)
end
/-- A class with one block more says more. -/
theorem hp_fresh {B : Bs} {L : Hl} {Y : Nat → Prop} {n : Nat} {x : Nat × List Value × TypeId} (hr : Rides B.J) (hn : lkB L n = none) : ∀ w, Hq B ([(n, x)] ++ L) Y w → Hq B L Y w := fun _ h => h.less hr fun m y hy => by
  show (bif Nat.beq n m then some x else lkB L m) = some y
  cases hb : Nat.beq n m with
  | false => exact hy
  | true =>
    have := Nat.eq_of_beq_eq_true hb
    subst this
    rw [hn] at hy
    cases hy
section
variable {P : Program} {G : Cls} {ro : Option Nat} {ops : Array Oper} {N : Nat} {ds : List Deferred} {fs : List Nat} {Z : Fr → Cls → Prop} {F : Fr} {C : Cls} {rest : List Oper}
variable {d : Nat} {ty : TypeId} {pos : String} {af : Array Edge} {gd : Option (Nat × Bool)} {B : Bs} {L : Hl}
end
end Go.Proofs.YtdkkipjcmflclaaDoor

namespace Go.Proofs.YtdkkipjcmflclaaDoor
open Go.RowKit Go.WideShapes
theorem inI_of_wf {n : Int} (h : (Lit.int .i64 n).wf = true) : inI n := by
  simp only [Lit.wf, Bool.and_eq_true, decide_eq_true_eq] at h
  rw [show IntKind.i64.min = -9223372036854775808 from rfl, show IntKind.i64.max = 9223372036854775807 from rfl] at h
  exact h
end Go.Proofs.YtdkkipjcmflclaaDoor

namespace Go.Proofs.YtdkkipjcmflclaaDoor
open Go.RowKit
section
variable {P : Program} {G : Cls} {N : Nat} {ds : List Deferred} {F : Fr} {B : Bs} {L : Hl} {K : KK}
end
end Go.Proofs.YtdkkipjcmflclaaDoor

namespace Go.Proofs.YtdkkipjcmflclaaDoor
open Go.RowKit
section
variable {P : Program} {G : Cls} {ro : Option Nat} {N : Nat} {ds : List Deferred} {F : Fr} {C : Cls} {K : KK}
end
section
variable {P : Program} {G : Cls} {ro : Option Nat} {ops : Array Oper} {N : Nat} {ds : List Deferred} {fs : List Nat} {Z : Fr → Cls → Prop} {F : Fr} {C : Cls} {rest : List Oper}
variable {d : Nat} {ty : TypeId} {pos : String} {af : Array Edge} {gd : Option (Nat × Bool)} {B : Bs} {L : Hl}
/-- Results: a variable, a slot. -/
theorem kret_ct (n : Nat) {fn : Func} {R : Ending → World → Prop} {t1 t2 : Nat} {T et : TypeId} {b m : Nat} {c : List Value} {v : Value} (hr : fn.results = #[.cell t1 T, .tmp t2])
    (hv1 : lk F t1 = some (.pointer (some ⟨b, 0, none⟩))) (hv2 : lk F t2 = some v) (hl : lkB L n = some (b, c, et))
    (hag : ∀ w, (isAgg T).run P w = .ok true w) (hs : ∀ w, (sizeOf T).run P w = .ok m w) (hm : c.length = m)
    (h : ∀ w, Hp B L w → R (.returned (.tuple #[.agg c.toArray, v])) w) : Kret P fn R .ret [] F (Hp B L) :=
  ⟨rfl, fun a w ha hC => ⟨.tuple #[.agg c.toArray, v], by
    have e1 := run_loadCells_list (P := P) w ⟨b, 0, none⟩ c (fun j v hv => by rw [Addr.add_mid]; exact hp_row (n := n) hl w hC j v hv)
    rw [hm] at e1
    simp [results, hr, ha.get t1 _ hv1, ha.get t2 _ hv2, asAddr, loadVar, hag, hs, e1], h w hC⟩⟩
end
section
variable {P : Program}
end
end Go.Proofs.YtdkkipjcmflclaaDoor

namespace Go.Proofs.YtdkkipjcmflclaaDoor
open Go.RowKit
/-- The cells lie there. -/
def CellsAt (w : World) (a : Option Addr) (cs : List Value) : Prop := ∀ j v, cs[j]? = some v → ∃ ad, a = some ad ∧ w.cell? (ad.add j) = some v
theorem CellsAt.grow {w w' : World} {a : Option Addr} {cs : List Value} (h : CellsAt w a cs) (hg : Grow w w') : CellsAt w' a cs := fun j v hv => by
  obtain ⟨ad, e, hc⟩ := h j v hv
  refine ⟨ad, e, ?_⟩
  have hlt : (ad.add j).block < w.heap.size := block_lt_of_cell hc
  rw [World.cell?_of_block (w := w) (hg.block _ hlt)]
  exact hc
theorem CellsAt.range {w : World} {b o : Nat} {cs : List Value} (h : w.rangeAt b o cs) : CellsAt w (some ⟨b, o, none⟩) cs := fun j v hv => ⟨_, rfl, by rw [Addr.add_mid]; exact h j v hv⟩
theorem CellsAt.take {w : World} {a : Option Addr} {cs : List Value} (h : CellsAt w a cs) (n : Nat) : CellsAt w a (cs.take n) := fun j v hv => h j v (by
  rw [List.getElem?_take] at hv
  split at hv
  · exact hv
  · cases hv)
theorem cells_nil (w : World) (a : Option Addr) : CellsAt w a [] := fun _ _ h => by cases h
def OwnV (L : Hl) (n : Nat) (e : TypeId) (a0 : Option Addr) (cap : Nat) (xs : List Value) : Prop :=
  (a0 = none ∧ xs = [] ∧ cap = 0) ∨ ∃ b c, a0 = some ⟨b, 0, none⟩ ∧ lkB L n = some (b, c, e) ∧ c.length = cap ∧ xs.length ≤ cap ∧ c.take xs.length = xs
theorem OwnV.cells {B : Bs} {L : Hl} {n : Nat} {e : TypeId} {a0 : Option Addr} {cap : Nat} {xs : List Value} (h : OwnV L n e a0 cap xs) {Y : Nat → Prop} : ∀ w, Hq B L Y w → CellsAt w a0 xs := fun w hC => by
  rcases h with ⟨rfl, rfl, rfl⟩ | ⟨b, c, rfl, hl, hc, hle, ht⟩
  · exact cells_nil w none
  · refine CellsAt.range fun j v hv => ?_
    rw [Nat.zero_add]
    have hcj : c[j]? = some v := by
      have : (c.take xs.length)[j]? = some v := by rw [ht]; exact hv
      rw [List.getElem?_take] at this
      split at this
      · exact this
      · cases this
    exact hp_cell hl hcj w hC
section
variable {P : Program} {G : Cls} {ro : Option Nat} {ops : Array Oper} {N : Nat} {ds : List Deferred} {fs : List Nat} {Z : Fr → Cls → Prop} {F : Fr} {C : Cls} {rest : List Oper}
variable {d : Nat} {ty : TypeId} {pos : String} {af : Array Edge} {gd : Option (Nat × Bool)} {B : Bs} {L : Hl}
theorem take_layV (xs ys c : List Value) (h : xs.length + ys.length ≤ c.length) (hc : c.take xs.length = xs) : (lay xs.length ys c).take (xs.length + ys.length) = xs ++ ys := by
  have h1 : (c.take xs.length).length = xs.length := by rw [hc]
  rw [lay_eq _ _ _ h, List.take_append_of_le_length (by simp; omega), List.take_of_length_le (by simp; omega), hc]
/-- A slice literal. -/
theorem lx_bslV (n : Nat) (xs : List Value) {t e : TypeId} {len : Nat} {z : Value} {ps : List (Nat × Operand)} (hB : BOk G B) (hx : evL F (ps.map (·.2)) = some xs) (hi : ps.map (·.1) = List.range len) (hn : xs.length = len) (hl : len ≤ 16777216) (h0 : len ≠ 0) (hu : P.underlying t = some (.slice e))
    (hs : ∀ w, (sizeOf e).run P w = .ok 1 w) (hz : ∀ w, (zeroValue e).run P w = .ok z w) (hone : xs.all (·.oneCell') = true) (hw : wantF ops F ⟨some d, .buildSlice t len ps.toArray, ty, pos, af, gd⟩ = some true) (hd : Nat.blt d N = true)
    (h : ∀ b, Lx P G ro ops N ds (EE fs) Z rest ((d, .slice (some ⟨b, 0, none⟩) xs.length xs.length) :: F) (Hp B ((n, b, xs, e) :: L)))
    (hgr : fs.any (Nat.beq 2999998) = false := by rfl) : Lx P G ro ops N ds (EE fs) Z (⟨some d, .buildSlice t len ps.toArray, ty, pos, af, gd⟩ :: rest) F (Hp B L) := by
  refine lx_run (hgr := hgr) rfl hw hd (fun _ h => by cases h) fun a w ha hC => ?_
  refine ⟨.slice (some ⟨w.heap.size, 0, none⟩) xs.length xs.length, w.alloc (.cells xs.toArray e), _, .inl ?_, good_hp hB, hC.alloc hB.r n xs e, h w.heap.size⟩
  have e1 : (ps.toArray.map fun (i, x) => (i, a.eval x)) = ((List.range len).zip xs).toArray := by
    rw [← hi, ← ha.evL hx, List.map_toArray, List.map_map, List.zip_map']
    rfl
  have hf := fill_row xs 0 ((Array.range (len * 1)).map (z.cells[· % z.cells.size]!)).toList (by simp [hn]) hone
  rw [lay_all _ _ (by simp [hn]), ← List.range_eq_range', hn] at hf
  simp only [Array.toArray_toList] at hf
  have hlt : ¬ (len * 1 > 2 ^ 24) := by omega
  show ((do pure (.value (← Instr.buildSlice t len (ps.toArray.map fun (i, x) => (i, a.eval x)))) : Sem Next)).run P w = _
  rw [e1]
  have hb : (Instr.buildSlice t len ((List.range len).zip xs).toArray).run P w = .ok (.slice (some ⟨w.heap.size, 0, none⟩) len len) (w.alloc (.cells xs.toArray e)) := by
    have h00 : ¬ (len * 1 = 0) := by omega
    simp only [Instr.buildSlice, Sem.run_bind, run_underlying hu, Result.andThen_ok, hs, if_neg hlt, if_neg h00, hz, Sem.run_pure, hf]
    simp [newRow]
  rw [hn]
  simp only [Sem.run_bind, hb, Result.andThen_ok]; rfl
end
end Go.Proofs.YtdkkipjcmflclaaDoor

namespace Go.Proofs.YtdkkipjcmflclaaDoor
open Go.RowKit
section
variable {P : Program} {G : Cls} {ro : Option Nat} {md : Region.Mode} {ops : Array Oper} {N : Nat} {ds : List Deferred} {E : Oper → Bool} {Q : Exit → Act → World → Prop}
def lstd (σ : List Nat) (listed : Array Bool) : Array Bool := σ.foldl (fun l k => l.setIfInBounds k true) listed
def okPre (md : Region.Mode) (ops : Array Oper) (E : Oper → Bool) : List Nat → Array Bool → Bool
  | [], _ => true
  | k :: σ, listed =>
    match ops[k]? with
    | none => false
    | some o =>
      (Region.ready md ops listed).contains k &&
      (bif E o then decide (Region.ready md ops listed = [k])
       else Region.free md ops listed k && (!isRead o || (List.range ops.size).all fun j => listed.getD j true || !((ops[j]?).any E) || (ops[j]?).any (fun oj => E (growOf oj)) || reachB md ops j k)) &&
      okPre md ops E σ (listed.setIfInBounds k true)
/-- The first part of a walk, whatever follows. -/
theorem tree_pre {Z : Fr → Cls → Prop} {m : Nat} (hsel : Region.noSelect ops = true) (hdef : noDefer ops = true) :
    ∀ (σ : List Nat) (listed : Array Bool) (F : Fr) (C : Cls) (a : Act), Closed md ops listed → okPre md ops E σ listed = true → Has N ds F a → Good G C →
      (∀ F' C' a', Closed md ops (lstd σ listed) → Has N ds F' a' → Good G C' → Z F' C' → TreeC P G ro md ops Q E m (lstd σ listed) a' C') →
      Lx P G ro ops N ds E Z (σ.filterMap (ops[·]?)) F C → TreeC P G ro md ops Q E (σ.length + m) listed a C
  | [], listed, F, C, a, hc, _, ha, hS, hb, h => by rw [List.length_nil, Nat.zero_add]; exact hb F C a hc ha hS h
  | k :: σ, listed, F, C, a, hc, hok, ha, hS, hb, h => by
    unfold okPre at hok
    cases ho : ops[k]? with
    | none => simp [ho] at hok
    | some o =>
      simp only [ho, Bool.and_eq_true] at hok
      obtain ⟨⟨hr, hcase⟩, hok'⟩ := hok
      have hr' : k ∈ Region.ready md ops listed := by simpa using hr
      have hl : (k :: σ).filterMap (ops[·]?) = o :: σ.filterMap (ops[·]?) := by simp [ho]
      rw [hl] at h
      rw [List.length_cons, Nat.add_right_comm]
      unfold Lx at h
      cases hE : E o with
      | true =>
        rw [hE] at h hcase
        have hone : Region.ready md ops listed = [k] := by simpa using hcase
        refine ⟨fun h0 => (by rw [h0] at hone; cases hone), fun i hi oi hoi => ?_⟩
        rw [hone] at hi
        have : i = k := by simpa using hi
        subst this
        cases ho.symm.trans hoi
        rw [hE]
        intro w hw
        obtain ⟨hwant, hwp⟩ := h a w ha hw
        refine ⟨hwant, Oper.wpIn_mono (fun a' w' hk => ?_) hwp⟩
        obtain ⟨F', C', ha', hS', hw', hgr, hk⟩ := hk
        exact ⟨C', hS', hw', hgr, tree_pre hsel hdef σ _ F' C' a' (hc.set hr') hok' ha' hS' hb hk⟩
      | false =>
        rw [hE] at h hcase
        simp only [cond_false, Bool.and_eq_true, Bool.or_eq_true, Bool.not_eq_true'] at hcase
        obtain ⟨v, ⟨hd, hy⟩, hk⟩ := h
        refine tree_first ho hE (Region.noSelect_spec hsel) (noDefer_spec hdef) (σ.length + m) listed a C hc (Region.free_spec ho hcase.1) (fun hrd j oj hoj hEj hun => ?_) hr' (hy a ha)
          (tree_pre hsel hdef σ _ _ C _ (hc.set hr') hok' (ha.putF hd v) hS hb hk)
        rcases hcase.2 with h0 | h0
        · rw [hrd] at h0; cases h0
        · have := List.all_eq_true.1 h0 j (List.mem_range.2 (Array.getElem?_eq_some_iff.1 hoj).1)
          simp [hun, hoj, hEj] at this
          rcases this with h1 | h1
          · exact .inl h1
          · exact .inr (reachB_spec h1)

theorem Has.free {F : Fr} {a : Act} (h : Has N ds F a) {d : Nat} (hd : lk F d = none) (v : Value) : Has N ds F (a.put (some d) v) :=
  ⟨by simp [Act.put, h.size], by simp [Act.put, h.defers], fun t u hu => by
    have hne : d ≠ t := fun e => by subst e; rw [hd] at hu; cases hu
    simp only [Act.put, Array.getElem?_setIfInBounds_ne hne]
    exact h.get t u hu⟩
end
section
variable {P : Program} {G : Cls} {ro : Option Nat} {N : Nat} {ds : List Deferred} {F : Fr} {C : Cls} {K : KK}
end
end Go.Proofs.YtdkkipjcmflclaaDoor

namespace Go.Proofs.YtdkkipjcmflclaaDoor
open Go.RowKit
section
variable {P : Program} {G : Cls} {ro : Option Nat} {md : Region.Mode} {ops : Array Oper} {N : Nat} {ds : List Deferred} {E : Oper → Bool} {Q : Exit → Act → World → Prop} {KK' : Cls → Prop} {mk rk : Oper → Bool}
def TreeK (P : Program) (G : Cls) (ro : Option Nat) (md : Region.Mode) (ops : Array Oper) (Q : Exit → Act → World → Prop) (E : Oper → Bool) (KK' : Cls → Prop) (mk : Oper → Bool) : Nat → Array Bool → Act → Cls → Prop
  | 0, listed, a, C => Region.ready md ops listed = [] ∧ ∀ w, C w → Q .normal a w
  | f + 1, listed, a, C => (Region.ready md ops listed = [] → ∀ w, C w → Q .normal a w) ∧
      ∀ i ∈ Region.ready md ops listed, ∀ o, ops[i]? = some o →
        bif E o then ∀ w, C w → Region.wanted o (yielded ops a.tmps) = true ∧
          o.wpIn (FW ro) 0 P a w (fun a' w' => ∃ C', Good G C' ∧ C' w' ∧ (mk o = true → ∀ X, KK' X → (∀ w, C w → X w) → ∀ w, C' w → X w) ∧ TreeK P G ro md ops Q E KK' mk f (listed.setIfInBounds i true) a' C') (fun _ _ _ => False)
        else ∃ v X, (∀ w, C w → X w) ∧ YieldsW P ro ops (clsOf G o X) o v a ∧ TreeK P G ro md ops Q E KK' mk f (listed.setIfInBounds i true) (a.put o.dst v) C
theorem clsOf_up {o : Oper} {C X : Cls} {w : World} (hS : Good G C) (hX : ∀ w, C w → X w) (h : C w) : clsOf G o X w := by
  unfold clsOf
  split
  · exact ⟨hX w h, hS.2 w h⟩
  · exact hS.2 w h
theorem wpAnyIn_of_treeK : ∀ (f : Nat) (listed : Array Bool) (a : Act) (C : Cls) (w : World), Good G C → C w → TreeK P G ro md ops Q E KK' mk f listed a C → wpAnyIn (FW ro) 0 P md ops Q f listed a w
  | 0, _, _, _, w, _, hw, h => ⟨h.1, h.2 w hw⟩
  | f + 1, listed, a, C, w, hS, hw, h => by
    refine ⟨fun h0 => h.1 h0 w hw, fun i hi => ?_⟩
    obtain ⟨_, o, ho, _⟩ := mem_ready.1 hi
    have h1 := h.2 i hi o ho
    unfold wpOpIn
    simp only [ho]
    cases hE : E o with
    | true =>
      rw [hE] at h1
      obtain ⟨hwant, hwp⟩ := h1 w hw
      rw [if_pos hwant]
      refine Oper.wpIn_exits (Oper.wpIn_mono (fun a' w' hk => ?_) hwp)
      obtain ⟨C', hS', hw', _, hk⟩ := hk
      exact wpAnyIn_of_treeK f _ _ C' w' hS' hw' hk
    | false =>
      rw [hE] at h1
      obtain ⟨v, X, hX, hy, hk⟩ := h1
      rcases hy with ⟨hwant, hy⟩ | ⟨hwant, rfl⟩
      · rw [if_pos hwant]
        exact hy.wpIn (clsOf_up hS hX hw) fun w' hg => wpAnyIn_of_treeK f _ _ C w' hS (hS.1 _ _ hw hg) hk
      · rw [if_neg (by simp [hwant])]
        exact ⟨fun f _ => fence_fn ro f, wpAnyIn_of_treeK f _ _ C w hS hw hk⟩
/-- An operation that leaves the class alone may be taken first. -/
theorem tree_firstK {i : Nat} {oi : Oper} {v : Value} (hi : ops[i]? = some oi) (hEi : E oi = false) (hrr : rk oi = true → isRead oi = true) (hsel : ∀ (j : Nat) (o : Oper) cs b, ops[j]? = some o → o.op ≠ .select cs b)
    (hdef : ∀ (j : Nat) (o : Oper) c, ops[j]? = some o → o.op ≠ .defer c) :
    ∀ (f : Nat) (listed : Array Bool) (a : Act) (C X : Cls), Closed md ops listed →
      (∀ j oj, ops[j]? = some oj → j ≠ i → listed.getD j true = false → (∀ e ∈ oj.after, Region.binds md e = true → e.on ≠ i) → oi.apart ops oj = true) →
      (isRead oi = true → ∀ j oj, ops[j]? = some oj → E oj = true → listed.getD j true = false → (rk oi = true ∧ mk oj = true) ∨ Reach md ops j i) → (rk oi = true → KK' X) → (∀ w, C w → X w) →
      i ∈ Region.ready md ops listed → YieldsW P ro ops (clsOf G oi X) oi v a →
      TreeK P G ro md ops Q E KK' mk f (listed.setIfInBounds i true) (a.put oi.dst v) C → TreeK P G ro md ops Q E KK' mk (f + 1) listed a C := by
  intro f
  induction f with
  | zero =>
    intro listed a C X _ _ _ _ hX hr hy H
    refine ⟨fun h => (by rw [h] at hr; cases hr), fun j hj o ho => ?_⟩
    by_cases hji : j = i
    · subst hji
      cases hi.symm.trans ho
      rw [hEi]
      exact ⟨v, X, hX, hy, H⟩
    · have := ready_mono hj hji
      rw [H.1] at this
      cases this
  | succ f ih =>
    intro listed a C X hc hfree hblk hKX hX hr hy H
    refine ⟨fun h => (by rw [h] at hr; cases hr), fun j hj oj hoj => ?_⟩
    by_cases hji : j = i
    · subst hji
      cases hi.symm.trans hoj
      rw [hEi]
      exact ⟨v, X, hX, hy, H⟩
    have h1 := H.2 j (ready_mono hj hji) oj hoj
    obtain ⟨hjun, _, hoj', hall⟩ := mem_ready.1 hj
    cases hoj.symm.trans hoj'
    have hiun := getD_unlisted (mem_ready.1 hr).1
    have hnot : ∀ e ∈ oj.after, Region.binds md e = true → e.on ≠ i := fun e he hb heq => by
      have h1 := hall e he hb
      rw [heq, hiun] at h1; cases h1
    have hap := hfree j oj hoj hji hjun hnot
    have hfree' : ∀ k ok, ops[k]? = some ok → k ≠ i → (listed.setIfInBounds j true).getD k true = false →
        (∀ e ∈ ok.after, Region.binds md e = true → e.on ≠ i) → oi.apart ops ok = true := fun k ok hk hki hun hno => by
      refine hfree k ok hk hki ?_ hno
      by_cases hjk : j = k
      · subst hjk; exact hjun
      · rw [getD_set_ne true hjk] at hun; exact hun
    have hblk' : isRead oi = true → ∀ k ok, ops[k]? = some ok → E ok = true → (listed.setIfInBounds j true).getD k true = false → (rk oi = true ∧ mk ok = true) ∨ Reach md ops k i := fun hrd k ok hk hEk hun => by
      refine hblk hrd k ok hk hEk ?_
      by_cases hjk : j = k
      · subst hjk; exact hjun
      · rw [getD_set_ne true hjk] at hun; exact hun
    cases hE : E oj with
    | true =>
      rw [hE] at h1
      have hnr : isRead oi = false ∨ (rk oi = true ∧ mk oj = true) := by
        cases hrd : isRead oi with
        | false => exact .inl rfl
        | true =>
          rcases hblk hrd j oj hoj hE hjun with h0 | h0
          · exact .inr h0
          · exact absurd hj (reach_out hc hiun h0).2
      intro w hw
      obtain ⟨hwant, hwp⟩ := h1 w hw
      obtain ⟨p1, p2, p3⟩ := Oper.apart_spec hap
      refine ⟨by rw [wanted_put oj a oi.dst v p1] at hwant; exact hwant, ?_⟩
      refine Oper.wpIn_mono (fun a' w' hk => ?_) (wpIn_put hap (fun cs b => hsel i oi cs b hi) (fun cs b => hsel j oj cs b hoj) (fun c => hdef i oi c hi) (fun c => hdef j oj c hoj) hwp)
      obtain ⟨hsame, C', hS', hw', hgr, hk⟩ := hk
      rcases hnr with hnr | ⟨hr1, hr2⟩
      · refine ⟨C', hS', hw', hgr, ih (listed.setIfInBounds j true) a' C' (fun w => C' w ∨ X w) (hc.set hj) hfree' hblk' (fun h => ?_) (fun _ h => .inl h) (ready_mono hr (Ne.symm hji)) (hsame.yields ?_) ?_⟩
        · exact absurd (hrr h) (by rw [hnr]; decide)
        · refine hy.mono fun w0 h0 => ?_
          unfold clsOf at h0 ⊢; rw [hnr] at h0 ⊢; exact h0
        · rw [Array.setIfInBounds_comm _ _ hji]; exact hk
      · refine ⟨C', hS', hw', hgr, ih (listed.setIfInBounds j true) a' C' X (hc.set hj) hfree' hblk' hKX (hgr hr2 X (hKX hr1) hX) (ready_mono hr (Ne.symm hji)) (hsame.yields hy) ?_⟩
        rw [Array.setIfInBounds_comm _ _ hji]; exact hk
    | false =>
      rw [hE] at h1
      obtain ⟨u, Xj, hXj, hyu, hk⟩ := h1
      obtain ⟨p1, p2, p3⟩ := Oper.apart_spec hap
      have hsi := fun cs b => hsel i oi cs b hi
      have hsj := fun cs b => hsel j oj cs b hoj
      have hdi := fun c => hdef i oi c hi
      have hdj := fun c => hdef j oj c hoj
      have s1 : SameAt ro ops oj (a.put oi.dst v) a := ⟨(semAt_put hsj hdj a oi.dst v p1).symm, (wanted_put oj a oi.dst v p1).symm⟩
      have s2 : SameAt ro ops oi a (a.put oj.dst u) := ⟨semAt_put hsi hdi a oj.dst u p3, wanted_put oi a oj.dst u p3⟩
      refine ⟨u, Xj, hXj, s1.yields hyu, ih (listed.setIfInBounds j true) _ C X (hc.set hj) hfree' hblk' hKX hX (ready_mono hr (Ne.symm hji)) (s2.yields hy) ?_⟩
      rw [Array.setIfInBounds_comm _ _ hji, ← Act.put_comm a v u p2]
      exact hk

def LxK (P : Program) (G : Cls) (ro : Option Nat) (ops : Array Oper) (N : Nat) (ds : List Deferred) (E : Oper → Bool) (KK' : Cls → Prop) (mk rk : Oper → Bool) (Z : Fr → Cls → Prop) : List Oper → Fr → Cls → Prop
  | [], F, C => Z F C
  | o :: rest, F, C =>
    bif E o then EStep P G ro ops N ds o F C (fun F' C' => (mk o = true → ∀ X, KK' X → (∀ w, C w → X w) → ∀ w, C' w → X w) ∧ LxK P G ro ops N ds E KK' mk rk Z rest F' C')
    else ∃ X v, (∀ w, C w → X w) ∧ (rk o = true → KK' X) ∧ QStep P G ro ops N ds o F X v ∧ LxK P G ro ops N ds E KK' mk rk Z rest (putF o.dst v F) C
theorem lxk_nil {Z : Fr → Cls → Prop} {F : Fr} {C : Cls} (h : Z F C) : LxK P G ro ops N ds E KK' mk rk Z [] F C := h
theorem lxk_q {Z : Fr → Cls → Prop} {o : Oper} {rest : List Oper} {F : Fr} {C X : Cls} (hE : E o = false) (hX : ∀ w, C w → X w) (hk : rk o = true → KK' X) (h : Lx P G ro ops N ds E (fun F' _ => LxK P G ro ops N ds E KK' mk rk Z rest F' C) [o] F X) : LxK P G ro ops N ds E KK' mk rk Z (o :: rest) F C := by
  unfold LxK
  unfold Lx at h
  rw [hE] at h ⊢
  obtain ⟨v, hq, hr⟩ := h
  exact ⟨X, v, hX, hk, hq, hr⟩
/-- In the class itself, where no store may come ahead of it. -/
theorem lxk_s {Z : Fr → Cls → Prop} {o : Oper} {rest : List Oper} {F : Fr} {C : Cls} (hE : E o = false) (hk : rk o = false) (h : Lx P G ro ops N ds E (fun F' _ => LxK P G ro ops N ds E KK' mk rk Z rest F' C) [o] F C) : LxK P G ro ops N ds E KK' mk rk Z (o :: rest) F C :=
  lxk_q hE (fun _ h => h) (fun h => by rw [hk] at h; cases h) h
theorem lxk_e {Z : Fr → Cls → Prop} {o : Oper} {rest : List Oper} {F : Fr} {C : Cls} (hE : E o = true) (h : Lx P G ro ops N ds E (fun F' C' => (mk o = true → ∀ X, KK' X → (∀ w, C w → X w) → ∀ w, C' w → X w) ∧ LxK P G ro ops N ds E KK' mk rk Z rest F' C') [o] F C) : LxK P G ro ops N ds E KK' mk rk Z (o :: rest) F C := by
  unfold LxK
  unfold Lx at h
  rw [hE] at h ⊢
  intro a w ha hw
  obtain ⟨h1, h2⟩ := h a w ha hw
  exact ⟨h1, Oper.wpIn_mono (fun a' w' ⟨F', C', x1, x2, x3, _, x4⟩ => ⟨F', C', x1, x2, x3, x4⟩) h2⟩
def okFromK (md : Region.Mode) (ops : Array Oper) (E mk rk : Oper → Bool) : List Nat → Array Bool → Bool
  | [], listed => (Region.ready md ops listed).isEmpty
  | k :: σ, listed =>
    match ops[k]? with
    | none => false
    | some o =>
      (Region.ready md ops listed).contains k &&
      (bif E o then decide (Region.ready md ops listed = [k])
       else Region.free md ops listed k && (!isRead o || (List.range ops.size).all fun j => listed.getD j true || !((ops[j]?).any E) || (rk o && (ops[j]?).any mk) || reachB md ops j k) && (!rk o || isRead o)) &&
      okFromK md ops E mk rk σ (listed.setIfInBounds k true)
theorem tree_of_LxK {Z : Fr → Cls → Prop} (hZ : ∀ F C, Good G C → Z F C → After N ds Q .normal F C) (hsel : Region.noSelect ops = true) (hdef : noDefer ops = true) :
    ∀ (σ : List Nat) (listed : Array Bool) (F : Fr) (C : Cls) (a : Act), Closed md ops listed → okFromK md ops E mk rk σ listed = true → Has N ds F a → Good G C →
      LxK P G ro ops N ds E KK' mk rk Z (σ.filterMap (ops[·]?)) F C → TreeK P G ro md ops Q E KK' mk σ.length listed a C
  | [], listed, F, C, a, _, hok, ha, hS, h => ⟨by simpa [okFromK] using hok, fun w hw => hZ F C hS h a w ha hw⟩
  | k :: σ, listed, F, C, a, hc, hok, ha, hS, h => by
    unfold okFromK at hok
    cases ho : ops[k]? with
    | none => simp [ho] at hok
    | some o =>
      simp only [ho, Bool.and_eq_true] at hok
      obtain ⟨⟨hr, hcase⟩, hok'⟩ := hok
      have hr' : k ∈ Region.ready md ops listed := by simpa using hr
      have hl : (k :: σ).filterMap (ops[·]?) = o :: σ.filterMap (ops[·]?) := by simp [ho]
      rw [hl] at h
      unfold LxK at h
      cases hE : E o with
      | true =>
        rw [hE] at h hcase
        have hone : Region.ready md ops listed = [k] := by simpa using hcase
        refine ⟨fun h0 => (by rw [h0] at hone; cases hone), fun i hi oi hoi => ?_⟩
        rw [hone] at hi
        have : i = k := by simpa using hi
        subst this
        cases ho.symm.trans hoi
        rw [hE]
        intro w hw
        obtain ⟨hwant, hwp⟩ := h a w ha hw
        refine ⟨hwant, Oper.wpIn_mono (fun a' w' hk => ?_) hwp⟩
        obtain ⟨F', C', ha', hS', hw', hgr, hk⟩ := hk
        exact ⟨C', hS', hw', hgr, tree_of_LxK hZ hsel hdef σ _ F' C' a' (hc.set hr') hok' ha' hS' hk⟩
      | false =>
        rw [hE] at h hcase
        simp only [cond_false, Bool.and_eq_true, Bool.or_eq_true, Bool.not_eq_true'] at hcase
        obtain ⟨⟨hfr, hrd0⟩, hrk⟩ := hcase
        obtain ⟨X, v, hX, hKX, ⟨hd, hy⟩, hk⟩ := h
        refine tree_firstK (rk := rk) ho hE (fun h0 => by rcases hrk with h1 | h1; rw [h0] at h1; cases h1; exact h1) (Region.noSelect_spec hsel) (noDefer_spec hdef) σ.length listed a C X hc (Region.free_spec ho hfr) (fun hrd j oj hoj hEj hun => ?_) hKX hX hr' (hy a ha)
          (tree_of_LxK hZ hsel hdef σ _ _ C _ (hc.set hr') hok' (ha.putF hd v) hS hk)
        rcases hrd0 with h0 | h0
        · rw [hrd] at h0; cases h0
        · have := List.all_eq_true.1 h0 j (List.mem_range.2 (Array.getElem?_eq_some_iff.1 hoj).1)
          simp [hun, hoj, hEj] at this
          rcases this with h1 | h1
          · exact .inl h1
          · exact .inr (reachB_spec h1)
end
section
variable {P : Program} {G : Cls} {ro : Option Nat} {N : Nat} {ds : List Deferred} {F : Fr} {C : Cls} {K : KK}
theorem x_drawK {id : Nat} {l : List Oper} {E : Oper → Bool} (KK' : Cls → Prop) (mk rk : Oper → Bool) (σ : List Nat) (hm : P.follows .mixedOrders = true) (hlen : σ.length = l.length) (hsel : Region.noSelect l.toArray = true) (hdef : noDefer l.toArray = true)
    (hok : okFromK .any l.toArray E mk rk σ (Array.replicate l.toArray.size false) = true) (h : LxK P G ro l.toArray N ds E KK' mk rk (K .normal ds) (pickL σ l) F C) : X P G ro N ds (.region id l.toArray true) F C K := fun hS a w ha hw => by
  refine wpIn_region_any hm ?_
  have hc : Closed .any l.toArray (Array.replicate l.toArray.size false) := fun j i _ hj => by
    rcases Nat.lt_or_ge j l.toArray.size with h' | h'
    · simp at h'; simp [h'] at hj
    · simp at h'; simp [h'] at hj
  have key := tree_of_LxK (P := P) (G := G) (ro := ro) (md := .any) (N := N) (ds := ds) (E := E) (Q := fun e a' w' => ∃ ds' F' C', Good G C' ∧ Has N ds' F' a' ∧ C' w' ∧ K e ds' F' C') (Z := K .normal ds) (fun F' C' hS' hk a' w' ha' hw' => ⟨ds, F', C', hS', ha', hw', hk⟩) hsel hdef σ _ F C a hc hok ha hS (by rw [pickL_eq]; exact h)
  rw [hlen] at key
  exact wpAnyIn_of_treeK _ _ _ C _ hS (hS.1 w _ hw ((Below.refl _ w).drew)) key
theorem xs_drawK {id : Nat} {l : List Oper} {E : Oper → Bool} {y : Code} (KK' : Cls → Prop) (mk rk : Oper → Bool) (σ : List Nat) (hm : P.follows .mixedOrders = true) (hlen : σ.length = l.length) (hsel : Region.noSelect l.toArray = true) (hdef : noDefer l.toArray = true)
    (hok : okFromK .any l.toArray E mk rk σ (Array.replicate l.toArray.size false) = true) (h : LxK P G ro l.toArray N ds E KK' mk rk (fun F' C' => X P G ro N ds y F' C' K) (pickL σ l) F C) : X P G ro N ds (.seq (.region id l.toArray true) y) F C K :=
  x_seq (x_drawK KK' mk rk σ hm hlen hsel hdef hok h)
end
def rkB (rs : List Nat) (o : Oper) : Bool := match o.dst with
  | some d => rs.any (Nat.beq d)
  | none => false
def mkB (ms : List Nat) (o : Oper) : Bool := match o.op with
  | .store _ (.tmp t) _ => ms.any (Nat.beq t)
  | _ => false
end Go.Proofs.YtdkkipjcmflclaaDoor
