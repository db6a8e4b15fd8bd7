/-
  The engine, part 20: 'for .. := range f' where the rounds' state is one of many.
-/
import Derived.Test.YtkfnadpdcgcffaaDoorE19
namespace Go.Proofs.YtkfnadpdcgcffaaDoor
open Go.RowKit
section
variable {P : Program} {G : Cls} {N : Nat} {ds : List Deferred} {F : Fr} {B : Bs} {L : Hl} {K : KK}
def JCS {ι : Type} (B : Nat → Bs) (l D : Nat) (r : Loop) (S : Nat → ι → Prop) (Lk : ι → Hl) : YJ := fun Y k W => ∃ s, S k s ∧ Hq (B k) (Lk s) (fun b => Y b ∨ b = D ∨ b = l) W ∧ Rec l D r Y W
theorem rides_JCS {ι : Type} {Bk : Nat → Bs} (hr : ∀ k, Rides (Bk k).J) (l D : Nat) (r : Loop) (S : Nat → ι → Prop) (Lk : ι → Hl) (k : Nat) : Rides (fun Y => JCS Bk l D r S Lk Y k) where
  grow := fun Y w w' ⟨s, hs, h⟩ hg => ⟨s, hs, (rides_hq (hr k) (Lk s) l D r).grow Y w w' h hg⟩
  new := fun Y w w' T ⟨s, hs, h⟩ hg hS => ⟨s, hs, (rides_hq (hr k) (Lk s) l D r).new Y w w' T h hg hS⟩
  turn := fun Y w w' b hb ⟨s, hs, h⟩ ht => ⟨s, hs, (rides_hq (hr k) (Lk s) l D r).turn Y w w' b hb h ht⟩
  less := fun Y Y' w hY ⟨s, hs, h⟩ => ⟨s, hs, (rides_hq (hr k) (Lk s) l D r).less Y Y' w hY h⟩
/-- How a round may end. -/
def KrndS {ι : Type} (R : Rnd) (Bk : Nat → Bs) (Be : Code → Nat → Bs) (S : Nat → ι → Prop) (Lk : ι → Hl) (Ext : Code → Nat → Hl → Prop) (k : Nat) : KK := fun e _ _ C' => ∃ L', match e with
  | .normal => C' = Hp (R.b (Bk (k + 1))) L' ∧ ∃ s, S (k + 1) s ∧ SubB L' (Lk s)
  | .ret => C' = Hp (R.b (Be .ret (k + 1))) L' ∧ Ext .ret (k + 1) L'
  | .exit id => C' = Hp (R.b (Be (.exit id) (k + 1))) L' ∧ Ext (.exit id) (k + 1) L'
  | _ => False
def KasgS {ι : Type} (P : Program) (G : Cls) (N : Nat) (body : Code) (R : Rnd) (Bk : Nat → Bs) (Be : Code → Nat → Bs) (S : Nat → ι → Prop) (Lk : ι → Hl) (Ext : Code → Nat → Hl → Prop) (k : Nat) : KK
  | .normal, ds', F', C' => ds' = [] ∧ ∃ L', C' = Hp (R.a (Bk k)) L' ∧ X P G (some R.l) N [] body F' (Hp (R.b (Bk k)) L') (KrndS R Bk Be S Lk Ext k)
  | _, _, _, _ => False

theorem x_rangeS {ι : Type} {g : Operand} {ps : List Nat} {assign body : Code} {gf : Nat} {caps : List Value} {xs : List (List Value)} {Rd : Cls} (Bk : Nat → Bs) (Be : Code → Nat → Bs) (hBk : ∀ k, BOk G (Bk k)) (hBe : ∀ c k, BOk G (Be c k)) (hw0 : ∀ k, (Bk k).w0 = B.w0) (hwe : ∀ c k, (Be c k).w0 = B.w0)
    (hBB : Bk 0 = B) (hg : evF F g = some (.func (.func gf) #[] caps.toArray)) (he : Enters P gf) (hseq : SeqOk P G gf caps xs Rd)
    (hps : ∀ x ∈ xs, x.length = ps.length) (hpN : ps.all (Nat.blt · N) = true) (S : Nat → ι → Prop) (Lk : ι → Hl) (Ext : Code → Nat → Hl → Prop) (s0 : ι) (hs0 : S 0 s0) (h0 : SubB L (Lk s0)) (hRd : ∀ k s Y w, S k s → Hq (Bk k) (Lk s) Y w → Rd w)
    (hround : ∀ (k : Nat) (x : List Value), xs[k]? = some x → ∀ s, S k s → ∀ R : Rnd, R.Ok G B.w0 → X P G (some R.l) N [] assign (putAll ps x F) (Hp (R.a (Bk k)) (Lk s)) (KasgS P G N body R Bk Be S Lk Ext k))
    (hdone : ∀ D s, S xs.length s → BOk G (B2 (Bk xs.length) D) → K .normal (mkD D :: ds) F (Hp (B2 (Bk xs.length) D) (Lk s)))
    (hleave : ∀ D c k L', BOk G (B2 (Be c k) D) → Ext c k L' → Kout K c (mkD D :: ds) F (Hp (B2 (Be c k) D) L')) : X P G none N ds (.rangeFunc g ps.toArray assign body) F (Hp B L) K := fun _ a w ha hw => by
  refine wpIn_rangeFunc ?_
  intro fn _
  obtain ⟨rec, hrec⟩ : ∃ rec : LoopState → Option Code → Loop, rec = fun st pe => { state := st, pending := pe, fn, tmps := a.tmps, params := ps.toArray, assign, body, defers := w.heap.size } := ⟨_, rfl⟩
  obtain ⟨W1, hW1⟩ : ∃ W1, (w.alloc (.deferred (some []))).alloc (.loop (rec .ready none)) = W1 := ⟨_, rfl⟩
  obtain ⟨D, hD⟩ : ∃ D, w.heap.size = D := ⟨_, rfl⟩
  obtain ⟨l, hl⟩ : ∃ l, w.heap.size + 1 = l := ⟨_, rfl⟩
  have g1 : Grow w (w.alloc (.deferred (some []))) := (Below.refl _ w).alloc (Nat.le_refl _) _
  have g2 : Grow (w.alloc (.deferred (some []))) W1 := by rw [← hW1]; exact (Below.refl _ _).alloc (Nat.le_refl _) _
  have hL1 : W1.heap[l]? = some (.loop (rec .ready none)) := by
    rw [← hW1, ← hl]; have := World.alloc_heap_new (w.alloc (.deferred (some []))) (.loop (rec .ready none)); rwa [World.size_alloc] at this
  have hK1 : W1.heap[D]? = some (.deferred (some [])) := by
    rw [← hD]; exact (g2.block _ (by simp)).trans (World.alloc_heap_new w _)
  have hs1 : W1.heap.size = w.heap.size + 2 := by rw [← hW1]; simp
  have hB : BOk G B := hBB ▸ hBk 0
  have hq1 : Hq (Bk 0) (Lk s0) (fun b => b = l ∨ b = D ∨ False) W1 := by
    rw [hBB]
    have h1 := (hp_sub hB.r h0 w hw).newY hB.r (b := D) g1 (by omega) (by simp; omega)
    exact h1.newY hB.r (b := l) g2 (by simp; omega) (by omega)
  have hrec1 : Rec l D (rec .ready none) (fun _ => False) W1 := ⟨hL1, hK1, by omega, fun h => h, fun h => h⟩
  have hJ0 : JCS Bk l D (rec .ready none) S Lk (fun _ => False) 0 W1 := ⟨s0, hs0, hq1.lessY (hBk 0).r (fun b hb => by rcases hb with h | h | h; exact h.elim; exact .inr (.inl h); exact .inl h), hrec1⟩
  have hhD : B.w0.heap.size ≤ D := by have := hw.size; omega
  have hhl : B.w0.heap.size ≤ l := by have := hw.size; omega
  refine ⟨l, [mkD D], W1, { target := .fn (.func gf) caps.toArray, args := #[.func (.yield l) #[] #[]] }, W1, gf, (.func (.yield l) #[] #[] :: caps).toArray, W1, ?_, ?_, ?_, ?_, fun h => (by cases h), ?_⟩
  · rw [← hW1, hrec, ← hl, ← hD]; exact run_enterLoop_outer _ _ _ _ _
  · have hev := ha.ev hg
    simp only [resolve, hev]
    simp [Deferred.ofValue, Act.eval]
  · intro f' _; trivial
  · have : (callFunc gf (#[Value.func (.yield l) #[] #[]] ++ caps.toArray)).run P W1 = _ := he _ W1
    simpa [invoke] using this
  have hcall := hseq l (JCS Bk l D (rec .ready none) S Lk) (JX Be l D (fun c => rec .done (some c)) Ext) (rides_JCS (fun k => (hBk k).r) l D _ S Lk) (rides_JX (fun c k => (hBe c k).r) l D _ Ext) (fun Y k W ⟨s, hs, h⟩ => ⟨(hBk k).g _ _ _ h.1, hRd k s _ W hs h.1⟩)
    (fun Y k W ⟨c, L', _, h, _⟩ => (hBe c k).g _ _ _ h) ?_ W1 hJ0
  · refine CallsIn.mono (callsIn_any (ro := none) hcall) fun e w3 hpost => ?_
    obtain ⟨⟨v, rfl⟩, hpost⟩ := hpost
    rcases hpost with ⟨s, hs, hq, hrc⟩ | ⟨k, c, L', hE, hq, hrc⟩
    · have hend := run_endLoop (P := P) hrc.loop (by rw [hrec]; simp)
      have pend : (rec .ready none).pending = none := by rw [hrec]
      refine ⟨none, _, hend.trans (congrArg (fun p => Result.ok p (w3.putObj l (.loop { rec .ready none with state := .exhausted }))) pend), ?_⟩
      have hq2 : Hq (Bk xs.length) (Lk s) (fun b => False ∨ b = D ∨ b = l) (w3.putObj l (.loop { rec .ready none with state := .exhausted })) := hq.turnY (hBk _).r (.inr (.inr rfl)) (turn_putObj _ _ _)
      refine ⟨_, F, _, good_hp (ok_b2 (hBk _) D), ⟨ha.size, by show [mkD D] ++ a.defers = _; rw [ha.defers]; rfl, ha.get⟩, ?_, hdone D s hs (ok_b2 (hBk _) D)⟩
      have hD3 : (w3.putObj l (.loop { rec .ready none with state := .exhausted })).heap[D]? = some (.deferred (some [])) := (World.putObj_heap_other (Ne.symm hrc.ne)).trans hrc.dfr
      exact ⟨hq2.os, hq2.tape, hq2.output, hq2.size, hq2.keep, hq2.own, hq2.inj, fun _ h => h.elim, fun _ h => h.elim, fun _ h => h.elim, hD3, fun e => e.elim (hq2.apart D (.inr (.inl rfl))) id, by rw [hw0]; exact hhD,
        (hBk _).r.less _ _ _ (fun x hx => by rcases hx with (hx | hx) | hx; exact .inl hx; exact hx.elim; exact .inr (.inr (.inl hx))) hq2.rid⟩
    · have hend := run_endLoop (P := P) hrc.loop (by rw [hrec]; simp)
      have pend : (rec .done (some c)).pending = some c := by rw [hrec]
      refine ⟨some c, _, hend.trans (congrArg (fun p => Result.ok p (w3.putObj l (.loop { rec .done (some c) with state := .exhausted }))) pend), ?_⟩
      have hq2 : Hq (Be c k) L' (fun b => False ∨ b = D ∨ b = l) (w3.putObj l (.loop { rec .done (some c) with state := .exhausted })) := hq.turnY (hBe c k).r (.inr (.inr rfl)) (turn_putObj _ _ _)
      have hD3 : (w3.putObj l (.loop { rec .done (some c) with state := .exhausted })).heap[D]? = some (.deferred (some [])) := (World.putObj_heap_other (Ne.symm hrc.ne)).trans hrc.dfr
      have hp2 : Hp (B2 (Be c k) D) L' (w3.putObj l (.loop { rec .done (some c) with state := .exhausted })) :=
        ⟨hq2.os, hq2.tape, hq2.output, hq2.size, hq2.keep, hq2.own, hq2.inj, fun _ h => h.elim, fun _ h => h.elim, fun _ h => h.elim, hD3, fun e => e.elim (hq2.apart D (.inr (.inl rfl))) id, by rw [hwe]; exact hhD,
          (hBe c k).r.less _ _ _ (fun x hx => by rcases hx with (hx | hx) | hx; exact .inl hx; exact hx.elim; exact .inr (.inr (.inl hx))) hq2.rid⟩
      have hout := hleave D c k L' (ok_b2 (hBe c k) D) hE
      have hha : Has N (mkD D :: ds) F { a with defers := [mkD D] ++ a.defers } := ⟨ha.size, by show [mkD D] ++ a.defers = _; rw [ha.defers]; rfl, ha.get⟩
      cases c with
      | ret => exact wpIn_ret ⟨_, F, _, good_hp (ok_b2 (hBe .ret k) D), hha, hp2, hout⟩
      | exit id => exact wpIn_exit ⟨_, F, _, good_hp (ok_b2 (hBe (.exit id) k) D), hha, hp2, hout⟩
      | _ => exact hout.elim
  · intro Y k x W hx ⟨s, hs, hq, hrc⟩
    have hy := run_yield (P := P) (args := x.toArray) hrc.loop (by rw [hrec]; simpa using hps x (List.mem_of_getElem? hx))
    rw [hrec] at hy
    refine ⟨fn, _, assign, body, hy, ?_⟩
    have hhi : ∀ b, Y b ∨ b = D ∨ b = l → B.w0.heap.size ≤ b := fun b hb => by rw [← hw0 k]; exact hq.high b hb
    have hlt : ∀ b, Y b → b < W.heap.size := fun b hb => hq.lt b (.inl hb)
    have hhi' : ∀ (B' : Bs), B'.w0 = B.w0 → ∀ b, Y b ∨ b = D ∨ b = l → B'.w0.heap.size ≤ b := fun B' e b hb => by rw [e]; exact hhi b hb
    have okr : ∀ (B' : Bs), B'.w0 = B.w0 → BOk G B' → ∀ r, BOk G (Br B' l D r Y W) := fun B' e hB' r => ⟨fun L' Y' w' h => hB'.g _ _ _ (hq_of_br hB'.r (hhi' B' e) hlt h), rides_br hB'.r hlt⟩
    refine roundIn_of_wpIn trivial ?_
    have hX := hround k x hx s hs ⟨l, D, rec .ready none, rec .busy none, Y, W⟩ (fun B' e hB' => ⟨okr B' e hB' _, okr B' e hB' _, fun L' Y' w' h => ⟨_, hq_of_br hB'.r (hhi' B' e) hlt h⟩⟩)
    have hhas : Has N [] (putAll ps x F) { tmps := (ps.toArray.zip x.toArray).foldl (fun t (p, v) => t.setIfInBounds p v) a.tmps, defers := [] } := by
      have := has_putAll ps x F { a with defers := [] } hpN ⟨ha.size, rfl, ha.get⟩
      simpa using this
    refine wpIn_mono (hX (good_hp (okr _ (hw0 k) (hBk k) _)) _ W hhas (hp_br (hBk k).r hq hrc)) fun e a1 w1 ⟨ds1, F1, C1, _, ha1, hw1, hk1⟩ => ?_
    cases e with
    | normal =>
      obtain ⟨rfl, L1, rfl, hXb⟩ := hk1
      have hrc1 := hw1.rid.2.1
      have hbr := run_beginRound (P := P) hrc1.loop (by rw [hrec])
      refine ⟨_, hbr, ?_⟩
      have hw2 : Hp (Br (Bk k) l D (rec .busy none) Y W) L1 (w1.putObj l (.loop (rec .busy none))) := hp_br_put (hBk k).r (by rw [hw0]; exact hhl) hrc.nl (rec .busy none) hw1
      have hw2' : w1.putObj l (.loop { rec .ready none with state := .busy }) = w1.putObj l (.loop (rec .busy none)) := by rw [hrec]
      rw [hw2']
      refine wpIn_mono (hXb (good_hp (okr _ (hw0 k) (hBk k) _)) a1 _ ha1 hw2) fun e a3 w3 ⟨ds3, F3, C3, _, _, hw3, hk3⟩ => ?_
      obtain ⟨L3, hk3⟩ := hk3
      have fin : ∀ (B' : Bs), B'.w0 = B.w0 → BOk G B' → Hp (Br B' l D (rec .busy none) Y W) L3 w3 → ∀ jump : Option Code, ∃ W4, (Instr.endRound l jump).run P w3 = .ok (.bool jump.isNone) W4 ∧
          Hq B' L3 (fun b => Y b ∨ b = D ∨ b = l) W4 ∧ Rec l D (rec (if jump.isNone then .ready else .done) jump) Y W4 ∧ Keeps Y W W4 := fun B' e hB' hw3 jump => by
        have hrc3 := hw3.rid.2.1
        have := run_endRound (P := P) jump hrc3.loop
        refine ⟨w3.putObj l (.loop (rec (if jump.isNone then .ready else .done) jump)), ?_, jc_of_br hB'.r (hhi' B' e) hlt hrc.nl hrc.nD (hp_br_put hB'.r (by rw [e]; exact hhl) hrc.nl _ hw3)⟩
        rw [hrec] at this ⊢
        exact this
      cases e with
      | normal =>
        obtain ⟨rfl, s', hs', hk3⟩ := hk3
        obtain ⟨W4, q0, q1, q2, q3⟩ := fin _ (hw0 _) (hBk _) hw3 none
        exact ⟨_, W4, q0, q3, .inl ⟨rfl, s', hs', hp_sub (hBk _).r hk3 _ q1, q2⟩⟩
      | ret =>
        obtain ⟨rfl, hk3⟩ := hk3
        obtain ⟨W4, q0, q1, q2, q3⟩ := fin _ (hwe _ _) (hBe _ _) hw3 (some .ret)
        exact ⟨_, W4, q0, q3, .inr ⟨rfl, .ret, L3, hk3, q1, q2⟩⟩
      | exit id =>
        obtain ⟨rfl, hk3⟩ := hk3
        obtain ⟨W4, q0, q1, q2, q3⟩ := fin _ (hwe _ _) (hBe _ _) hw3 (some (.exit id))
        exact ⟨_, W4, q0, q3, .inr ⟨rfl, .exit id, L3, hk3, q1, q2⟩⟩
      | _ => exact hk3.elim
    | _ => exact hk1.elim

end
end Go.Proofs.YtkfnadpdcgcffaaDoor
