/-
  The engine, part 9: functions that are ranged over.
-/
import Derived.Test.YtkfnadpdcgcffaaDoorE8
import Derived.RangeFuncRecord
import Derived.RangeFuncLeaves
namespace Go.Proofs.YtkfnadpdcgcffaaDoor
open Go.RowKit

/-- A stranger's blocks are as they were. -/
structure Keeps (Y : Nat → Prop) (w w' : World) : Prop where
  os : w'.os = w.os
  tape : w'.tape = w.tape
  output : w'.output = w.output
  size : w.heap.size ≤ w'.heap.size
  same : ∀ k, Y k → w'.heap[k]? = w.heap[k]?
theorem Keeps.refl (Y : Nat → Prop) (w : World) : Keeps Y w w := ⟨rfl, rfl, rfl, Nat.le_refl _, fun _ _ => rfl⟩
theorem Keeps.turn {Y : Nat → Prop} {w w' w'' : World} (h : Keeps Y w w') {b : Nat} (ht : TurnAt b w' w'') (hb : ¬ Y b) : Keeps Y w w'' :=
  ⟨ht.os.trans h.os, ht.tape.trans h.tape, ht.output.trans h.output, by rw [ht.size]; exact h.size, fun k hk => (ht.other k (fun e => hb (e ▸ hk))).trans (h.same k hk)⟩
theorem Keeps.grow {Y : Nat → Prop} {w w' w'' : World} (h : Keeps Y w w') (hg : Grow w' w'') (hlt : ∀ b, Y b → b < w.heap.size) : Keeps Y w w'' :=
  ⟨hg.os.trans h.os, hg.tape.trans h.tape, hg.output.trans h.output, Nat.le_trans h.size hg.size, fun k hk => (hg.block k (Nat.lt_of_lt_of_le (hlt k hk) h.size)).trans (h.same k hk)⟩

abbrev YJ := (Nat → Prop) → Nat → World → Prop
/-- What yield does: it is handed the k-th; J: so many have come; Jx: the round has said 'no more'. -/
def YieldC (P : Program) (l : Nat) (xs : List (List Value)) (J Jx : YJ) : Prop :=
  ∀ Y k x W, xs[k]? = some x → J Y k W → ∃ fn tmps assign body, (Instr.yield l x.toArray).run P W = .ok (.round l fn tmps assign body) W ∧
    RoundIn (FW none) 0 P l fn tmps assign body W (fun e W' => Keeps Y W W' ∧ ((e = .returned (.bool true) ∧ J Y (k + 1) W') ∨ (e = .returned (.bool false) ∧ Jx Y (k + 1) W')))
/-- The function yields xs, one by one, till it is told 'no more'. -/
def SeqOk (P : Program) (G : Cls) (gf : FuncId) (caps : List Value) (xs : List (List Value)) (Rd : Cls) : Prop :=
  ∀ (l : Nat) (J Jx : YJ), (∀ k, Rides (fun Y => J Y k)) → (∀ k, Rides (fun Y => Jx Y k)) → (∀ Y k W, J Y k W → G W ∧ Rd W) → (∀ Y k W, Jx Y k W → G W) → YieldC P l xs J Jx → ∀ w, J (fun _ => False) 0 w →
    Calls P gf (.func (.yield l) #[] #[] :: caps).toArray w (fun e w' => (∃ v, e = .returned v) ∧ (J (fun _ => False) xs.length w' ∨ ∃ k, Jx (fun _ => False) k w'))

/-- The base of an iterator's walk. -/
def Bi (w0 : World) (J : (Nat → Prop) → World → Prop) : Bs := ⟨w0, fun _ => True, J⟩

section
variable {P : Program} {G : Cls} {ro : Option Nat} {ops : Array Oper} {N : Nat} {ds : List Deferred} {fs : List Nat} {Z : Fr → Cls → Prop} {F : Fr} {rest : List Oper}
variable {d : Nat} {ty : TypeId} {pos : String} {af : Array Edge} {gd : Option (Nat × Bool)} {L : Hl}

theorem round_any {l : Nat} {fn : FuncId} {tmps : Array Value} {assign body : Code} {w : World} {R : Ending → World → Prop} (h : RoundIn (FW none) 0 P l fn tmps assign body w R) : RoundIn (FW ro) 0 P l fn tmps assign body w R := by
  cases ro with
  | none => exact h
  | some l' => exact h
/-- What a call of yield with 'v' does to what is carried along: from B to Bt, or, where the round says 'no more', to Bf. -/
def YieldB (P : Program) (l : Nat) (v : List Value) (B Bt Bf : Bs) : Prop :=
  Bt.w0 = B.w0 ∧ Bf.w0 = B.w0 ∧ (∀ k, B.M k) ∧ (∀ k, Bt.M k) ∧ (∀ k, Bf.M k) ∧ ∀ Y W, B.J Y W → ∃ fn tmps assign body, (Instr.yield l v.toArray).run P W = .ok (.round l fn tmps assign body) W ∧
    RoundIn (FW none) 0 P l fn tmps assign body W (fun e W' => Keeps Y W W' ∧ ((e = .returned (.bool true) ∧ Bt.J Y W') ∨ (e = .returned (.bool false) ∧ Bf.J Y W')))
theorem YieldC.b {l k : Nat} {xs : List (List Value)} {J Jx : YJ} {v : List Value} (h : YieldC P l xs J Jx) (hv : xs[k]? = some v) (w0 : World) : YieldB P l v (Bi w0 (fun Y => J Y k)) (Bi w0 (fun Y => J Y (k + 1))) (Bi w0 (fun Y => Jx Y (k + 1))) :=
  ⟨rfl, rfl, fun _ => trivial, fun _ => trivial, fun _ => trivial, fun Y W hj => h Y k v W hv hj⟩
/-- A call of yield. -/
theorem lx_yield {B Bt Bf : Bs} {l : Nat} {x : Operand} {al : List Operand} {at' : Array TypeId} {v : List Value} (hy : YieldB P l v B Bt Bf) (hBt : BOk G Bt) (hBf : BOk G Bf)
    (hx : evF F x = some (.func (.yield l) #[] #[])) (ha : evL F al = some v) (hw : wantF ops F ⟨some d, .call { callee := .value x, args := al.toArray, argTypes := at' }, ty, pos, af, gd⟩ = some true) (hd : Nat.blt d N = true) (hE : EE fs ⟨some d, .call { callee := .value x, args := al.toArray, argTypes := at' }, ty, pos, af, gd⟩ = true)
    (h1 : Lx P G ro ops N ds (EE fs) Z rest ((d, .bool true) :: F) (Hp Bt L)) (h2 : Lx P G ro ops N ds (EE fs) Z rest ((d, .bool false) :: F) (Hp Bf L))
    (hgr : EE fs (growOf ⟨some d, .call { callee := .value x, args := al.toArray, argTypes := at' }, ty, pos, af, gd⟩) = false := by rfl) :
    Lx P G ro ops N ds (EE fs) Z (⟨some d, .call { callee := .value x, args := al.toArray, argTypes := at' }, ty, pos, af, gd⟩ :: rest) F (Hp B L) := by
  obtain ⟨e1, e2, m0, m1, m2, hy⟩ := hy
  unfold Lx
  rw [hE]
  intro a w hA hC
  refine ⟨hA.want hw, fun f _ => fence_fn ro f, ?_⟩
  rw [show (FW ro).round = ro from rfl, Oper.semAt_eq _ _ _ (fun _ h => by cases h)]
  obtain ⟨fn, tmps, assign, body, hr, hR⟩ := hy _ w hC.rid
  have e : (execOp a.eval ⟨some d, .call { callee := .value x, args := al.toArray, argTypes := at' }, ty, pos, af, gd⟩).run P w = .ok (.round l fn tmps assign body) w := by
    have e := hA.evL ha
    simp only [execOp, resolve, invoke, Sem.run_bind, Sem.run_pure, Result.andThen_ok, List.map_toArray, e, hA.ev hx, Deferred.ofValue]
    simpa using hr
  rw [e]
  refine ⟨fun h => (by cases h), ?_⟩
  refine RoundIn.mono (round_any hR) fun e W' ⟨hk, hcase⟩ => ?_
  have mk : ∀ (Bn : Bs), Bn.w0 = B.w0 → (∀ k, Bn.M k) → Bn.J (fun b => Yof L b ∨ False) W' → Hp Bn L W' := fun Bn en mn hj =>
    ⟨by rw [en]; exact hk.os.trans hC.os, by rw [en]; exact hk.tape.trans hC.tape, by rw [en]; exact hk.output.trans hC.output, by rw [en]; exact Nat.le_trans hC.size hk.size, fun k _ h => (h (mn k)).elim,
     fun n b c t hl => ⟨(hC.own n b c t hl).1.of_same (hk.same b (.inl ⟨n, c, t, hl⟩)), .inr (mn b)⟩, hC.inj, fun _ h => h.elim, fun _ h => h.elim, fun _ h => h.elim, hj⟩
  rcases hcase with ⟨rfl, hj⟩ | ⟨rfl, hj⟩
  · exact ⟨_, _, hA.put (by simpa using hd) _, good_hp hBt, mk Bt e1 m1 hj, fun h => (by rw [hgr] at h; cases h), h1⟩
  · exact ⟨_, _, hA.put (by simpa using hd) _, good_hp hBf, mk Bf e2 m2 hj, fun h => (by rw [hgr] at h; cases h), h2⟩
end

/-! ### The caller -/
section
variable {B : Bs} {L : Hl} {Y : Nat → Prop} {w w' : World}
theorem Hq.newS (h : Hq B L Y w) (hr : Rides B.J) (hg : Grow w w') {S : Nat → Prop} (hS : ∀ b, S b → w.heap.size ≤ b ∧ b < w'.heap.size) : Hq B L (fun k => S k ∨ Y k) w' := by
  have h' := h.grow hr hg
  refine ⟨h'.os, h'.tape, h'.output, h'.size, h'.keep, h'.own, h'.inj, fun x hx hy => ?_, fun x hx => ?_, fun x hx => ?_, ?_⟩
  · rcases hx with hx | hx
    · have := h.ownlt hy; have := (hS x hx).1; omega
    · exact h.apart x hx hy
  · rcases hx with hx | hx
    · exact Nat.le_trans h.size (hS x hx).1
    · exact h.high x hx
  · rcases hx with hx | hx
    · exact (hS x hx).2
    · exact h'.lt x hx
  · refine hr.less _ _ _ (fun x hx => ?_) (hr.new _ w w' S h.rid hg hS)
    rcases hx with hx | hx | hx
    · exact .inr (.inl hx)
    · exact .inl hx
    · exact .inr (.inr hx)
theorem Hq.newY (h : Hq B L Y w) (hr : Rides B.J) (hg : Grow w w') {b : Nat} (hb : w.heap.size ≤ b) (hb' : b < w'.heap.size) : Hq B L (fun k => k = b ∨ Y k) w' :=
  h.newS hr hg (S := fun k => k = b) (fun x hx => by subst hx; exact ⟨hb, hb'⟩)
theorem Hq.turnY (h : Hq B L Y w) (hr : Rides B.J) {b : Nat} (hb : Y b) (ht : TurnAt b w w') : Hq B L Y w' := by
  refine ⟨ht.os.trans h.os, ht.tape.trans h.tape, ht.output.trans h.output, by rw [ht.size]; exact h.size, fun k hk hm => ?_, fun n b' c t hl => ?_, h.inj, h.apart, h.high, fun x hx => by rw [ht.size]; exact h.lt x hx, hr.turn _ w w' b (.inr hb) h.rid ht⟩
  · have : k ≠ b := fun e => by have := h.high b hb; omega
    exact (ht.other k this).trans (h.keep k hk hm)
  · have : b' ≠ b := fun e => by subst e; exact h.apart _ hb ⟨n, c, t, hl⟩
    exact ⟨(h.own n b' c t hl).1.of_same (ht.other b' this), (h.own n b' c t hl).2⟩
theorem Hq.lessY {Y' : Nat → Prop} (h : Hq B L Y w) (hr : Rides B.J) (hs : ∀ b, Y' b → Y b) : Hq B L Y' w :=
  ⟨h.os, h.tape, h.output, h.size, h.keep, h.own, h.inj, fun b hb => h.apart b (hs b hb), fun b hb => h.high b (hs b hb), fun b hb => h.lt b (hs b hb), hr.less _ _ _ (fun _ hb => hb.imp id (hs _)) h.rid⟩
theorem turn_putObj (w : World) (b : Nat) (o : Obj) : TurnAt b w (w.putObj b o) := ⟨rfl, rfl, rfl, by simp, fun _ hk => World.putObj_heap_other hk⟩

/-- What is carried along of the loop's record and of the block for deferred calls. -/
structure Rec (l D : Nat) (r : Loop) (Y : Nat → Prop) (w : World) : Prop where
  loop : w.heap[l]? = some (.loop r)
  dfr : w.heap[D]? = some (.deferred (some []))
  ne : l ≠ D
  nl : ¬ Y l
  nD : ¬ Y D
theorem Rec.grow {l D : Nat} {r : Loop} (h : Rec l D r Y w) (hg : Grow w w') : Rec l D r Y w' :=
  ⟨(hg.block l (Array.getElem?_eq_some_iff.1 h.loop).1).trans h.loop, (hg.block D (Array.getElem?_eq_some_iff.1 h.dfr).1).trans h.dfr, h.ne, h.nl, h.nD⟩
theorem Rec.new {l D : Nat} {r : Loop} (h : Rec l D r Y w) (hg : Grow w w') {S : Nat → Prop} (hS : ∀ b, S b → w.heap.size ≤ b ∧ b < w'.heap.size) : Rec l D r (fun k => S k ∨ Y k) w' :=
  ⟨(h.grow hg).loop, (h.grow hg).dfr, h.ne, fun e => e.elim (fun e => by have := (Array.getElem?_eq_some_iff.1 h.loop).1; have := (hS _ e).1; omega) h.nl, fun e => e.elim (fun e => by have := (Array.getElem?_eq_some_iff.1 h.dfr).1; have := (hS _ e).1; omega) h.nD⟩
theorem Rec.turn {l D : Nat} {r : Loop} (h : Rec l D r Y w) {b : Nat} (hb : Y b) (ht : TurnAt b w w') : Rec l D r Y w' :=
  ⟨(ht.other l (fun e => h.nl (e ▸ hb))).trans h.loop, (ht.other D (fun e => h.nD (e ▸ hb))).trans h.dfr, h.ne, h.nl, h.nD⟩
theorem Rec.less {l D : Nat} {r : Loop} (h : Rec l D r Y w) {Y' : Nat → Prop} (hs : ∀ b, Y' b → Y b) : Rec l D r Y' w := ⟨h.loop, h.dfr, h.ne, fun e => h.nl (hs _ e), fun e => h.nD (hs _ e)⟩
theorem Rec.put {l D : Nat} {r : Loop} (h : Rec l D r Y w) (r' : Loop) : Rec l D r' Y (w.putObj l (.loop r')) :=
  ⟨World.putObj_heap_same (Array.getElem?_eq_some_iff.1 h.loop).1, (World.putObj_heap_other (Ne.symm h.ne)).trans h.dfr, h.ne, h.nl, h.nD⟩

/-- What the iterator carries for its caller. -/
def JC (B : Nat → Bs) (l D : Nat) (r : Loop) (Lk : Nat → Hl) : YJ := fun Y k W => Hq (B k) (Lk k) (fun b => Y b ∨ b = D ∨ b = l) W ∧ Rec l D r Y W
def JX (B : Code → Nat → Bs) (l D : Nat) (r : Code → Loop) (Ext : Code → Nat → Hl → Prop) : YJ := fun Y k W => ∃ c L', Ext c k L' ∧ Hq (B c k) L' (fun b => Y b ∨ b = D ∨ b = l) W ∧ Rec l D (r c) Y W
theorem rides_hq (hr : Rides B.J) (L : Hl) (l D : Nat) (r : Loop) : Rides (fun Y W => Hq B L (fun b => Y b ∨ b = D ∨ b = l) W ∧ Rec l D r Y W) where
  grow := fun Y w w' h hg => ⟨h.1.grow hr hg, h.2.grow hg⟩
  new := fun Y w w' S h hg hS => ⟨(h.1.newS hr hg hS).lessY hr (fun x hx => by rcases hx with (hx | hx) | hx; exact .inl hx; exact .inr (.inl hx); exact .inr (.inr hx)), h.2.new hg hS⟩
  turn := fun Y w w' b hb h ht => ⟨h.1.turnY hr (.inl hb) ht, h.2.turn hb ht⟩
  less := fun Y Y' w hs h => ⟨h.1.lessY hr (fun _ hx => hx.imp (hs _) id), h.2.less hs⟩
theorem rides_JC {Bk : Nat → Bs} (hr : ∀ k, Rides (Bk k).J) (l D : Nat) (r : Loop) (Lk : Nat → Hl) (k : Nat) : Rides (fun Y => JC Bk l D r Lk Y k) := rides_hq (hr k) (Lk k) l D r
theorem rides_JX {Be : Code → Nat → Bs} (hr : ∀ c k, Rides (Be c k).J) (l D : Nat) (r : Code → Loop) (Ext : Code → Nat → Hl → Prop) (k : Nat) : Rides (fun Y => JX Be l D r Ext Y k) where
  grow := fun Y w w' ⟨c, L', hE, h⟩ hg => ⟨c, L', hE, (rides_hq (hr c k) L' l D (r c)).grow Y w w' h hg⟩
  new := fun Y w w' S ⟨c, L', hE, h⟩ hg hS => ⟨c, L', hE, (rides_hq (hr c k) L' l D (r c)).new Y w w' S h hg hS⟩
  turn := fun Y w w' b hb ⟨c, L', hE, h⟩ ht => ⟨c, L', hE, (rides_hq (hr c k) L' l D (r c)).turn Y w w' b hb h ht⟩
  less := fun Y Y' w hs ⟨c, L', hE, h⟩ => ⟨c, L', hE, (rides_hq (hr c k) L' l D (r c)).less Y Y' w hs h⟩

/-- The base of a round's walk: W0: where the round began; Y: the iterator's blocks. -/
def Br (B : Bs) (l D : Nat) (r : Loop) (Y : Nat → Prop) (W0 : World) : Bs :=
  ⟨B.w0, B.M, fun Y' W => Keeps Y W0 W ∧ Rec l D r Y' W ∧ (∀ b, Y' b → ¬ Y b) ∧ B.J (fun b => Y' b ∨ Y b ∨ b = D ∨ b = l) W⟩
theorem rides_br (hr : Rides B.J) {l D : Nat} {r : Loop} {W0 : World} (hlt : ∀ b, Y b → b < W0.heap.size) : Rides (Br B l D r Y W0).J where
  grow := fun Y' w w' ⟨h1, h2, h3, h4⟩ hg => ⟨h1.grow hg hlt, h2.grow hg, h3, hr.grow _ _ _ h4 hg⟩
  new := fun Y' w w' S ⟨h1, h2, h3, h4⟩ hg hS => ⟨h1.grow hg hlt, h2.new hg hS, fun x hx hy => by
      rcases hx with hx | hx
      · have := hlt x hy; have := h1.size; have := (hS x hx).1; omega
      · exact h3 x hx hy, hr.less _ _ _ (fun x hx => by rcases hx with (hx | hx) | hx; exact .inl hx; exact .inr (.inl hx); exact .inr (.inr hx)) (hr.new _ w w' S h4 hg hS)⟩
  turn := fun Y' w w' b hb ⟨h1, h2, h3, h4⟩ ht => ⟨h1.turn ht (h3 b hb), h2.turn hb ht, h3, hr.turn _ w w' b (.inl hb) h4 ht⟩
  less := fun Y1 Y' w hs ⟨h1, h2, h3, h4⟩ => ⟨h1, h2.less hs, fun b hb => h3 b (hs b hb), hr.less _ _ _ (fun x hx => hx.imp (hs x) id) h4⟩
theorem hp_br {l D : Nat} {r : Loop} (hr : Rides B.J) (h : Hq B L (fun b => Y b ∨ b = D ∨ b = l) w) (hc : Rec l D r Y w) : Hp (Br B l D r Y w) L w :=
  ⟨h.os, h.tape, h.output, h.size, h.keep, h.own, h.inj, fun _ h => h.elim, fun _ h => h.elim, fun _ h => h.elim, Keeps.refl _ _,
   ⟨hc.loop, hc.dfr, hc.ne, fun e => e.elim (h.apart l (.inr (.inr rfl))) id, fun e => e.elim (h.apart D (.inr (.inl rfl))) id⟩,
   fun b hb hy => hb.elim (h.apart b (.inl hy)) id, hr.less _ _ _ (fun x hx => by rcases hx with (hx | hx) | hx; exact .inl hx; exact hx.elim; exact .inr hx) h.rid⟩
theorem hp_br_put {l D : Nat} {r : Loop} {W0 : World} (hr : Rides B.J) (hhi : B.w0.heap.size ≤ l) (hY : ¬ Y l) (r' : Loop) (h : Hp (Br B l D r Y W0) L w) : Hp (Br B l D r' Y W0) L (w.putObj l (.loop r')) := by
  have ht := turn_putObj w l (.loop r')
  obtain ⟨h1, h2, h3, h4⟩ := h.rid
  refine ⟨ht.os.trans h.os, ht.tape.trans h.tape, ht.output.trans h.output, by rw [ht.size]; exact h.size, fun k hk hm => ?_, fun n b c t hl => ?_, h.inj, fun _ h => h.elim, fun _ h => h.elim, fun _ h => h.elim, h1.turn ht hY, h2.put r', h3, hr.turn _ _ _ l (.inr (.inr (.inr rfl))) h4 ht⟩
  · have hk' : k < B.w0.heap.size := hk
    exact (ht.other k (fun e => by omega)).trans (h.keep k hk hm)
  · exact ⟨(h.own n b c t hl).1.of_same (ht.other b (fun e => h2.nl (by rw [← e]; exact .inl ⟨n, c, t, hl⟩))), (h.own n b c t hl).2⟩
theorem hq_of_br {l D : Nat} {r : Loop} {W0 : World} {Y' : Nat → Prop} (hr : Rides B.J) (hhi : ∀ b, Y b ∨ b = D ∨ b = l → B.w0.heap.size ≤ b) (hlt : ∀ b, Y b → b < W0.heap.size) (h : Hq (Br B l D r Y W0) L Y' w) :
    Hq B L (fun b => Y' b ∨ Y b ∨ b = D ∨ b = l) w := by
  obtain ⟨h1, h2, h3, h4⟩ := h.rid
  refine ⟨h.os, h.tape, h.output, h.size, h.keep, h.own, h.inj, fun b hb hy => ?_, fun b hb => hb.elim (h.high b) (hhi b), fun b hb => ?_, hr.less _ _ _ (fun x hx => by rcases hx with hx | hx | hx; exact .inl (.inl hx); exact .inl (.inr hx); exact .inr hx) h4⟩
  · rcases hb with hb | hb | rfl | rfl
    · exact h.apart b hb hy
    · exact h3 b (.inl hy) hb
    · exact h2.nD (.inl hy)
    · exact h2.nl (.inl hy)
  · rcases hb with hb | hb | rfl | rfl
    · exact h.lt b hb
    · exact Nat.lt_of_lt_of_le (hlt b hb) h1.size
    · exact (Array.getElem?_eq_some_iff.1 h2.dfr).1
    · exact (Array.getElem?_eq_some_iff.1 h2.loop).1
theorem jc_of_br {l D : Nat} {r : Loop} {W0 : World} (hr : Rides B.J) (hhi : ∀ b, Y b ∨ b = D ∨ b = l → B.w0.heap.size ≤ b) (hlt : ∀ b, Y b → b < W0.heap.size) (hnl : ¬ Y l) (hnD : ¬ Y D) (h : Hp (Br B l D r Y W0) L w) :
    Hq B L (fun b => Y b ∨ b = D ∨ b = l) w ∧ Rec l D r Y w ∧ Keeps Y W0 w := by
  have h' := hq_of_br hr hhi hlt h
  obtain ⟨h1, h2, h3, h4⟩ := h.rid
  exact ⟨h'.lessY hr (fun _ hb => .inr hb), ⟨h2.loop, h2.dfr, h2.ne, hnl, hnD⟩, h1⟩

/-- A call of an outer yield in the body of an inner loop. -/
theorem YieldB.br {P : Program} {lo : Nat} {v : List Value} {B Bt Bf : Bs} (h : YieldB P lo v B Bt Bf) (l D : Nat) (r : Loop) (Y0 : Nat → Prop) (W0 : World) : YieldB P lo v (Br B l D r Y0 W0) (Br Bt l D r Y0 W0) (Br Bf l D r Y0 W0) := by
  obtain ⟨e1, e2, m0, m1, m2, h⟩ := h
  refine ⟨e1, e2, m0, m1, m2, fun Y W ⟨h1, h2, h3, h4⟩ => ?_⟩
  obtain ⟨fn, tmps, assign, body, hr, hR⟩ := h _ W h4
  refine ⟨fn, tmps, assign, body, hr, RoundIn.mono hR fun e W' ⟨hk, hc⟩ => ?_⟩
  have k1 : Keeps Y0 W0 W' := ⟨hk.os.trans h1.os, hk.tape.trans h1.tape, hk.output.trans h1.output, Nat.le_trans h1.size hk.size, fun k hy => (hk.same k (.inr (.inl hy))).trans (h1.same k hy)⟩
  have k2 : Rec l D r Y W' := ⟨(hk.same l (.inr (.inr (.inr rfl)))).trans h2.loop, (hk.same D (.inr (.inr (.inl rfl)))).trans h2.dfr, h2.ne, h2.nl, h2.nD⟩
  exact ⟨⟨hk.os, hk.tape, hk.output, hk.size, fun k hy => hk.same k (.inl hy)⟩, hc.imp (fun ⟨e, hj⟩ => ⟨e, k1, k2, h3, hj⟩) (fun ⟨e, hj⟩ => ⟨e, k1, k2, h3, hj⟩)⟩

/-- The base behind the loop: the block for deferred calls is carried along. -/
def B2 (B : Bs) (D : Nat) : Bs := ⟨B.w0, B.M, fun Y W => W.heap[D]? = some (.deferred (some [])) ∧ ¬ Y D ∧ B.w0.heap.size ≤ D ∧ B.J (fun b => Y b ∨ b = D) W⟩
theorem rides_b2 (hr : Rides B.J) (D : Nat) : Rides (B2 B D).J where
  grow := fun Y w w' ⟨h1, h2, h3, h4⟩ hg => ⟨(hg.block D (Array.getElem?_eq_some_iff.1 h1).1).trans h1, h2, h3, hr.grow _ _ _ h4 hg⟩
  new := fun Y w w' S ⟨h1, h2, h3, h4⟩ hg hS => ⟨(hg.block D (Array.getElem?_eq_some_iff.1 h1).1).trans h1, fun e => e.elim (fun e => by have := (Array.getElem?_eq_some_iff.1 h1).1; have := (hS _ e).1; omega) h2, h3,
      hr.less _ _ _ (fun x hx => by rcases hx with (hx | hx) | hx; exact .inl hx; exact .inr (.inl hx); exact .inr (.inr hx)) (hr.new _ w w' S h4 hg hS)⟩
  turn := fun Y w w' b hb ⟨h1, h2, h3, h4⟩ ht => ⟨(ht.other D (fun e => h2 (e ▸ hb))).trans h1, h2, h3, hr.turn _ w w' b (.inl hb) h4 ht⟩
  less := fun Y Y' w hs ⟨h1, h2, h3, h4⟩ => ⟨h1, fun e => h2 (hs _ e), h3, hr.less _ _ _ (fun x hx => hx.imp (hs x) id) h4⟩
theorem hq_b2 {D : Nat} (hr : Rides B.J) (h : Hq (B2 B D) L Y w) : Hq B L (fun b => Y b ∨ b = D) w := by
  obtain ⟨h1, h2, h3, h4⟩ := h.rid
  exact ⟨h.os, h.tape, h.output, h.size, h.keep, h.own, h.inj, fun b hb hy => hb.elim (fun hb => h.apart b hb hy) (fun e => by subst e; exact h2 (.inl hy)), fun b hb => hb.elim (h.high b) (fun e => by subst e; exact h3),
    fun b hb => hb.elim (h.lt b) (fun e => by subst e; exact (Array.getElem?_eq_some_iff.1 h1).1), hr.less _ _ _ (fun x hx => by rcases hx with hx | hx | hx; exact .inl (.inl hx); exact .inl (.inr hx); exact .inr hx) h4⟩
theorem ok_b2 {G : Cls} (hB : BOk G B) (D : Nat) : BOk G (B2 B D) := ⟨fun _ _ _ h => hB.g _ _ _ (hq_b2 hB.r h), rides_b2 hB.r D⟩
/-- Where the mark has been taken up. -/
theorem hp_fin {D : Nat} (hr : Rides B.J) (h : Hp (B2 B D) L w) : Hp B L (w.putObj D (.deferred none)) := ((hq_b2 hr h).turnY hr (.inr rfl) (turn_putObj w D _)).lessY hr (fun _ h => h.elim)
end
end Go.Proofs.YtkfnadpdcgcffaaDoor
