/-
  The engine, part 11: more steps: loops whose base turns; bytes; slices; calls that make memory.
-/
import Derived.Test.YteohckfbphdngaaE10
import Derived.Laws.IdiomCopy
namespace Go.Proofs.Yteohckfbphdngaa
open Go.RowKit

section
variable {P : Program} {G : Cls} {ro : Option Nat} {N : Nat} {ds : List Deferred} {F : Fr} {K : KK} {B : Bs} {L : Hl}
/-- A loop over a family of states, the base turning with it. -/
theorem x_forB {c : Code} {ι : Type} (Fm : ι → Fr) (Bm : ι → Bs) (Lm : ι → Hl) (m : ι → Nat) (i0 : ι) (hG : ∀ i, BOk G (Bm i)) (hB : Bm i0 = B) (hF : SubF F (Fm i0)) (hL : SubB L (Lm i0))
    (hr : ∀ i, X P G ro N ds c (Fm i) (Hp (Bm i) (Lm i)) (Kseq (fun ds' F' C' => ds' = ds ∧ ∃ j L', m j < m i ∧ C' = Hp (Bm j) L' ∧ SubF F' (Fm j) ∧ SubB L' (Lm j)) K)) : X P G ro N ds (.loop c) F (Hp B L) K := by
  subst hB
  exact x_loop Fm (fun i => Hp (Bm i) (Lm i)) m i0 (fun _ => good_hp (hG i0)) (has_sub hF) (hp_sub (hG i0).r hL) fun i => (hr i).mono fun e ds' F' C' hk => by
    cases e with
    | normal =>
      obtain ⟨rfl, j, L', hj, rfl, h1, h2⟩ := hk
      exact ⟨rfl, j, hj, fun _ => good_hp (hG j), has_sub h1, hp_sub (hG j).r h2⟩
    | _ => exact hk
end

/-- Bytes that lie somewhere. -/
def BytesAt (w : World) (a : Option Addr) (rs : List (BitVec 8)) : Prop := ∀ j v, (rs.map U8)[j]? = some v → ∃ ad, a = some ad ∧ w.cell? (ad.add j) = some v
theorem bytes_nil (w : World) (a : Option Addr) : BytesAt w a [] := fun j v h => by simp at h
theorem add_add (a : Addr) (k j : Nat) (hk : k ≠ 0) : (a.add k).add j = a.add (k + j) := by
  unfold Addr.add
  rw [if_neg hk, if_neg (show ¬ k + j = 0 by omega)]
  by_cases hj : j = 0
  · subst hj; simp
  · rw [if_neg hj]; simp; omega
theorem BytesAt.drop {w : World} {a : Option Addr} {rs : List (BitVec 8)} (h : BytesAt w a rs) {cap l : Nat} (hc : rs.length ≤ cap) (hl : l ≠ 0) : BytesAt w (if cap = l then a else a.map (·.add (l * 1))) (rs.drop l) := fun j v hv => by
  rw [List.map_drop, List.getElem?_drop] at hv
  obtain ⟨ad, rfl, hc'⟩ := h (l + j) v hv
  have hlt : l + j < rs.length := by
    rcases Nat.lt_or_ge (l + j) rs.length with h' | h'
    · exact h'
    · rw [List.getElem?_eq_none (by simpa using h')] at hv; cases hv
  rw [if_neg (by omega)]
  exact ⟨ad.add (l * 1), rfl, by rw [Nat.mul_one, add_add ad l j hl]; exact hc'⟩
theorem BytesAt.take {w : World} {a : Option Addr} {rs : List (BitVec 8)} (h : BytesAt w a rs) (n : Nat) : BytesAt w a (rs.take n) := fun j v hv => by
  rw [List.map_take, List.getElem?_take] at hv
  split at hv
  · exact h j v hv
  · cases hv
theorem BytesAt.of_same {w w' : World} {a : Option Addr} {rs : List (BitVec 8)} (h : BytesAt w a rs) (hs : ∀ ad v, w.cell? ad = some v → a = some ad ∨ (∃ b, a = some b ∧ b.block = ad.block) → w'.cell? ad = some v) : BytesAt w' a rs := fun j v hv => by
  obtain ⟨ad, rfl, hc⟩ := h j v hv
  refine ⟨ad, rfl, hs _ v hc (.inr ⟨ad, rfl, ?_⟩)⟩
  unfold Addr.add
  split <;> rfl
theorem BytesAt.grow {w w' : World} {a : Option Addr} {rs : List (BitVec 8)} (h : BytesAt w a rs) (hg : Grow w w') : BytesAt w' a rs :=
  h.of_same fun _ _ hc _ => (hg.cell (block_lt_of_cell hc)).trans hc
theorem BytesAt.turn {w w' : World} {a : Option Addr} {rs : List (BitVec 8)} (h : BytesAt w a rs) {b : Nat} (ht : TurnAt b w w') (hb : ∀ ad, a = some ad → ad.block ≠ b) : BytesAt w' a rs :=
  h.of_same fun ad v hc ho => by
    have : ad.block ≠ b := by
      rcases ho with rfl | ⟨x, rfl, e⟩
      · exact hb ad rfl
      · exact e ▸ hb x rfl
    rw [World.cell?_of_block (w := w) (ht.other ad.block this)]
    exact hc
theorem BytesAt.range {w : World} {b o : Nat} {rs : List (BitVec 8)} (h : w.rangeAt b o (rs.map U8)) : BytesAt w (some ⟨b, o, none⟩) rs := fun j v hv => ⟨_, rfl, by rw [Addr.add_mid]; exact h j v hv⟩

section
variable {P : Program} {G : Cls} {ro : Option Nat} {ops : Array Oper} {N : Nat} {ds : List Deferred} {fs : List Nat} {Z : Fr → Cls → Prop} {F : Fr} {C : Cls} {rest : List Oper}
variable {d : Nat} {ty : TypeId} {pos : String} {af : Array Edge} {gd : Option (Nat × Bool)} {B : Bs} {L : Hl}
/-- The builtin copy, from bytes that lie wherever. -/
theorem lx_copys (n : Nat) {dT sT e et : TypeId} {x y : Operand} {b o dl dc : Nat} {sa : Option Addr} {sl sc : Nat} {c : List Value} {cs : List (BitVec 8)} (hG : BOk G B) (hx : evF F x = some (.slice (some ⟨b, o, none⟩) dl dc)) (hy : evF F y = some (.slice sa sl sc))
    (hl : lkB L n = some (b, c, et)) (hu : P.underlying dT = some (.slice e)) (hs : (P.info? e).map (·.size) = some 1) (hn : cs.length = Nat.min sl dl) (hsrc : ∀ w, Hp B L w → BytesAt w sa cs)
    (ho : o + cs.length ≤ c.length) (hw : wantF ops F ⟨some d, .call { callee := .builtin .copy, args := #[x, y], argTypes := #[dT, sT] }, ty, pos, af, gd⟩ = some true) (hd : Nat.blt d N = true)
    (h : Lx P G ro ops N ds (EE fs) Z rest ((d, I cs.length) :: F) (Hp B ((n, b, lay o (cs.map U8) c, et) :: L))) :
    Lx P G ro ops N ds (EE fs) Z (⟨some d, .call { callee := .builtin .copy, args := #[x, y], argTypes := #[dT, sT] }, ty, pos, af, gd⟩ :: rest) F (Hp B L) := by
  cases sa with
  | some ad =>
    have := lx_copy (P := P) (ro := ro) (ops := ops) (N := N) (ds := ds) (fs := fs) (Z := Z) (rest := rest) (d := d) (ty := ty) (pos := pos) (af := af) (gd := gd) (cs := cs.map U8) n hG hx hy hl hu hs (by simpa using hn)
      (fun w hw j v hv => by obtain ⟨ad', e, hc⟩ := hsrc w hw j v hv; cases e; exact hc) (one_u8 cs) (by simpa using ho) hw hd (by simpa using h)
    exact this
  | none =>
    refine lx_run rfl hw hd (fun _ h => by cases h) fun a w ha hC => ?_
    have h0 : cs = [] := by
      cases cs with
      | nil => rfl
      | cons x r =>
        obtain ⟨_, e, _⟩ := hsrc w hC 0 (U8 x) (by simp)
        cases e
    subst h0
    have hr := run_copy_none (P := P) w dT sT ty e (some ⟨b, o, none⟩) none dl dc sl sc hu hs (by simpa using hn.symm)
    refine ⟨I 0, w, _, .inl ?_, good_hp hG, ?_, h⟩
    · simp only [execOp, resolve, invoke, builtin, Sem.run_bind, Sem.run_pure, Result.andThen_ok, List.map_toArray, List.map_cons, List.map_nil, ha.ev hx, ha.ev hy, hr]
      rfl
    · refine hC.less hG.r fun m y hy => ?_
      rcases lkB_cons hy with ⟨rfl, rfl⟩ | ⟨_, hy⟩
      · exact hl
      · exact hy
/-- A part of an array variable that begins at its block's first cell. -/
theorem lx_slarr1 {t e : TypeId} {n : Nat} {x : Operand} {lo hi : Option Operand} {b l h' : Nat} (hx : evF F x = some (.pointer (some ⟨b, 0, none⟩))) (hu : P.underlying t = some (.array n e)) (hs : ∀ w, (sizeOf e).run P w = .ok 1 w)
    (hl : (lo.map (evF F)).getD (some (I 0)) = some (I l)) (hh : (hi.map (evF F)).getD (some (I n)) = some (I h')) (hb : l ≤ h' ∧ h' ≤ n) (hne : l ≠ n)
    (hw : wantF ops F ⟨some d, .slice t x lo hi none, ty, pos, af, gd⟩ = some true) (hd : Nat.blt d N = true)
    (h : Lx P G ro ops N ds (EE fs) Z rest ((d, .slice (some ⟨b, l, none⟩) (h' - l) (n - l)) :: F) C) : Lx P G ro ops N ds (EE fs) Z (⟨some d, .slice t x lo hi none, ty, pos, af, gd⟩ :: rest) F C :=
  lx_slarr hx hu hs hl hh hb hne hw hd (by rw [show 0 + l * 1 = l from by omega]; exact h)
/-- An array of zeros. -/
theorem lx_buildz {t e : TypeId} {len sz : Nat} {l : List Value} (hz : ∀ w, (zeroValue t).run P w = .ok (.agg l.toArray) w) (hu : P.underlying t = some (.array len e)) (hs : ∀ w, (sizeOf e).run P w = .ok sz w)
    (hw : wantF ops F ⟨some d, .build t #[], ty, pos, af, gd⟩ = some true) (hd : Nat.blt d N = true)
    (h : Lx P G ro ops N ds (EE fs) Z rest ((d, .agg l.toArray) :: F) C) : Lx P G ro ops N ds (EE fs) Z (⟨some d, .build t #[], ty, pos, af, gd⟩ :: rest) F C :=
  lx_val (v := .agg l.toArray) rfl hw hd (fun _ h => by cases h) (fun a w _ _ => by
    simp [execOp, Instr.build, hz, run_underlying hu, hs, Value.cells, Instr.fill]) h
theorem lay_pad (rs : List (BitVec 8)) (n : Nat) (h : rs.length ≤ n) : lay 0 (rs.map U8) ((List.replicate n (0#8)).map U8) = (rs ++ List.replicate (n - rs.length) (0#8)).map U8 := by
  rw [lay_eq 0 _ _ (by simpa using h)]
  simp [List.map_append]
/-- A part of a slice. -/
theorem lx_slsl {t e : TypeId} {sz : Nat} {x : Operand} {lo hi : Option Operand} {a0 : Option Addr} {len cap l h' : Nat} (hx : evF F x = some (.slice a0 len cap)) (hu : P.underlying t = some (.slice e)) (hs : ∀ w, (sizeOf e).run P w = .ok sz w)
    (hl : (lo.map (evF F)).getD (some (I 0)) = some (I l)) (hh : (hi.map (evF F)).getD (some (I len)) = some (I h')) (hb : l ≤ h' ∧ h' ≤ cap)
    (hw : wantF ops F ⟨some d, .slice t x lo hi none, ty, pos, af, gd⟩ = some true) (hd : Nat.blt d N = true)
    (h : Lx P G ro ops N ds (EE fs) Z rest ((d, .slice (if cap = l then a0 else a0.map (·.add (l * sz))) (h' - l) (cap - l)) :: F) C) : Lx P G ro ops N ds (EE fs) Z (⟨some d, .slice t x lo hi none, ty, pos, af, gd⟩ :: rest) F C :=
  lx_val (v := .slice (if cap = l then a0 else a0.map (·.add (l * sz))) (h' - l) (cap - l)) rfl hw hd (fun _ h => by cases h) (fun a w ha _ => by
    simp only [execOp, ha.ev hx]
    cases lo with
    | none =>
      simp at hl
      have hl0 : l = 0 := by omega
      subst hl0
      cases hi with
      | none =>
        simp at hh
        have : h' = len := by omega
        subst this
        simp [Instr.sliceAt, Instr.slice, run_underlying hu, Instr.sliceBounds, hs]
      | some y =>
        have hy := ha.ev (x := y) (v := I h') (by simpa using hh)
        have hb2 : h' ≤ cap := hb.2
        simp [Instr.sliceAt, Instr.slice, run_underlying hu, Instr.sliceBounds, Instr.sliceBound, asIntOf, hy, hs, hb2]
    | some z =>
      have hz := ha.ev (x := z) (v := I l) (by simpa using hl)
      have hb1 : l ≤ h' := hb.1
      cases hi with
      | none =>
        simp at hh
        have : h' = len := by omega
        subst this
        simp [Instr.sliceAt, Instr.slice, run_underlying hu, Instr.sliceBounds, Instr.sliceBound, asIntOf, hz, hs, hb1]
      | some y =>
        have hy := ha.ev (x := y) (v := I h') (by simpa using hh)
        have hb2 : h' ≤ cap := hb.2
        simp [Instr.sliceAt, Instr.slice, run_underlying hu, Instr.sliceBounds, Instr.sliceBound, asIntOf, hy, hz, hs, hb1, hb2]) h

/-- A call that makes memory, or turns it. -/
theorem lx_callE {f : Nat} {al : List Operand} {at' : Array TypeId} {vs : List Value} {dst : Option Nat} (hf : fs.any (Nat.beq f) = true) (ha : evL F al = some vs) (he : Enters P f)
    (hw : wantF ops F ⟨dst, .call { callee := .value (.func f), args := al.toArray, argTypes := at' }, ty, pos, af, gd⟩ = some true) (hd : fitsD N dst = true)
    (hp : ∀ w, C w → Calls P f vs.toArray w (fun e w' => ∃ v C', e = .returned v ∧ Good G C' ∧ C' w' ∧ Lx P G ro ops N ds (EE fs) Z rest (putF dst v F) C'))
    (hgr : fs.any (Nat.beq (f + 2000000)) = false := by rfl) :
    Lx P G ro ops N ds (EE fs) Z (⟨dst, .call { callee := .value (.func f), args := al.toArray, argTypes := at' }, ty, pos, af, gd⟩ :: rest) F C := by
  unfold Lx
  rw [show EE fs ⟨dst, .call { callee := .value (.func f), args := al.toArray, argTypes := at' }, ty, pos, af, gd⟩ = true from hf]
  intro a w hA hC
  refine ⟨hA.want hw, fun f _ => fence_fn ro f, ?_⟩
  rw [show (FW ro).round = ro from rfl, Oper.semAt_eq _ _ _ (fun _ h => by cases h)]
  have e : (execOp a.eval ⟨dst, .call { callee := .value (.func f), args := al.toArray, argTypes := at' }, ty, pos, af, gd⟩).run P w = .ok (.enter f vs.toArray) w := by
    have e := hA.evL ha
    simp only [execOp, resolve, invoke, Sem.run_bind, Sem.run_pure, Result.andThen_ok, List.map_toArray, e, Act.eval, Deferred.ofValue]
    simp [he _ w]
  rw [e]
  refine ⟨fun h => (by cases h), CallsIn.mono (callsIn_any (hp w hC)) fun e w' ⟨v, C', he', hS, hw', hk⟩ => ?_⟩
  subst he'
  exact ⟨_, C', hA.putF hd v, hS, hw', fun h => (by rw [show EE fs (growOf ⟨dst, .call { callee := .value (.func f), args := al.toArray, argTypes := at' }, ty, pos, af, gd⟩) = false from hgr] at h; cases h), hk⟩
/-- A call that makes memory, and only narrows the class. -/
theorem lx_callG {f : Nat} {al : List Operand} {at' : Array TypeId} {vs : List Value} {dst : Option Nat} (hf : fs.any (Nat.beq f) = true) (ha : evL F al = some vs) (he : Enters P f)
    (hw : wantF ops F ⟨dst, .call { callee := .value (.func f), args := al.toArray, argTypes := at' }, ty, pos, af, gd⟩ = some true) (hd : fitsD N dst = true)
    (hp : ∀ w, C w → Calls P f vs.toArray w (fun e w' => ∃ v C', e = .returned v ∧ Good G C' ∧ C' w' ∧ (∀ w, C' w → C w) ∧ Lx P G ro ops N ds (EE fs) Z rest (putF dst v F) C')) :
    Lx P G ro ops N ds (EE fs) Z (⟨dst, .call { callee := .value (.func f), args := al.toArray, argTypes := at' }, ty, pos, af, gd⟩ :: rest) F C := by
  unfold Lx
  rw [show EE fs ⟨dst, .call { callee := .value (.func f), args := al.toArray, argTypes := at' }, ty, pos, af, gd⟩ = true from hf]
  intro a w hA hC
  refine ⟨hA.want hw, fun f _ => fence_fn ro f, ?_⟩
  rw [show (FW ro).round = ro from rfl, Oper.semAt_eq _ _ _ (fun _ h => by cases h)]
  have e : (execOp a.eval ⟨dst, .call { callee := .value (.func f), args := al.toArray, argTypes := at' }, ty, pos, af, gd⟩).run P w = .ok (.enter f vs.toArray) w := by
    have e := hA.evL ha
    simp only [execOp, resolve, invoke, Sem.run_bind, Sem.run_pure, Result.andThen_ok, List.map_toArray, e, Act.eval, Deferred.ofValue]
    simp [he _ w]
  rw [e]
  refine ⟨fun h => (by cases h), CallsIn.mono (callsIn_any (hp w hC)) fun e w' ⟨v, C', he', hS, hw', hgr, hk⟩ => ?_⟩
  subst he'
  exact ⟨_, C', hA.putF hd v, hS, hw', fun _ => hgr, hk⟩
end

theorem lkB_append : ∀ (A L : Hl) (n : Nat), lkB (A ++ L) n = match lkB A n with | some x => some x | none => lkB L n
  | [], _, _ => rfl
  | (m, x) :: r, L, n => by
    show (bif Nat.beq m n then some x else lkB (r ++ L) n) = match (bif Nat.beq m n then some x else lkB r n) with | some x => some x | none => lkB L n
    cases Nat.beq m n with
    | true => rfl
    | false => exact lkB_append r L n
/-- Blocks that a callee has made. -/
theorem Hq.news {B : Bs} {L : Hl} {Y : Nat → Prop} {w w' : World} (h : Hq B L Y w) (hr : Rides B.J) (hg : Grow w w') (A : Hl) (hA : ∀ n b c t, lkB A n = some (b, c, t) → w.heap.size ≤ b ∧ OwnB w' b c t)
    (hi : ∀ n m b c t c' t', lkB A n = some (b, c, t) → lkB A m = some (b, c', t') → n = m) : Hq B (A ++ L) Y w' := by
  have h' := h.grow hr hg
  have key : ∀ n x, lkB (A ++ L) n = some x → lkB A n = some x ∨ lkB L n = some x := fun n x hx => by
    rw [lkB_append] at hx
    cases hA' : lkB A n with
    | none => rw [hA'] at hx; exact .inr hx
    | some y => rw [hA'] at hx; exact .inl hx
  refine ⟨h'.os, h'.tape, h'.output, h'.size, h'.keep, fun n b c t hl => ?_, fun n m b c t c' t' h1 h2 => ?_, fun b hb ⟨n, c, t, hl⟩ => ?_, h'.high, h'.lt, ?_⟩
  · rcases key n _ hl with hl | hl
    · exact ⟨(hA n b c t hl).2, .inl (Nat.le_trans h.size (hA n b c t hl).1)⟩
    · exact h'.own n b c t hl
  · rcases key n _ h1 with h1 | h1 <;> rcases key m _ h2 with h2 | h2
    · exact hi n m b c t c' t' h1 h2
    · have := (hA n b c t h1).1; have := h.ownlt ⟨m, c', t', h2⟩; omega
    · have := (hA m b c' t' h2).1; have := h.ownlt ⟨n, c, t, h1⟩; omega
    · exact h.inj n m b c t c' t' h1 h2
  · rcases key n _ hl with hl | hl
    · have := (hA n b c t hl).1; have := h.lt b hb; omega
    · exact h.apart b hb ⟨n, c, t, hl⟩
  · refine hr.less _ _ _ (fun b hb => ?_) (hr.new _ w w' (Yof A) h.rid hg (fun b ⟨n, c, t, hl⟩ => ⟨(hA n b c t hl).1, (hA n b c t hl).2.lt⟩))
    rcases hb with ⟨n, c, t, hl⟩ | hb
    · rcases key n _ hl with hl | hl
      · exact .inl ⟨n, c, t, hl⟩
      · exact .inr (.inl ⟨n, c, t, hl⟩)
    · exact .inr (.inr hb)
end Go.Proofs.Yteohckfbphdngaa
