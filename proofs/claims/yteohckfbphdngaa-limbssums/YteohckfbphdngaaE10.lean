/-
  The engine, part 10: the statement 'for .. := range f'.
-/
import Derived.Test.YteohckfbphdngaaE9
namespace Go.Proofs.Yteohckfbphdngaa
open Go.RowKit

def mkD (D : Nat) : Deferred := { target := .collected D, args := #[] }
def putAll : List Nat → List Value → Fr → Fr
  | p :: ps, v :: vs, F => putAll ps vs ((p, v) :: F)
  | _, _, F => F
theorem has_putAll {N : Nat} : ∀ (ps : List Nat) (vs : List Value) (F : Fr) (a : Act), ps.all (Nat.blt · N) = true → Has N [] F a → Has N [] (putAll ps vs F) { tmps := (ps.zip vs).foldl (fun t (p, v) => t.setIfInBounds p v) a.tmps, defers := [] }
  | [], vs, F, a, _, h => ⟨by simpa [putAll] using h.size, rfl, by simpa [putAll] using h.get⟩
  | p :: ps, [], F, a, _, h => ⟨by simpa [putAll] using h.size, rfl, by simpa [putAll] using h.get⟩
  | p :: ps, v :: vs, F, a, hp, h => by
    simp only [List.all_cons, Bool.and_eq_true] at hp
    have := has_putAll ps vs ((p, v) :: F) (a.put (some p) v) hp.2 (h.put (by simpa using hp.1) v)
    simpa [putAll, Act.put] using this

section
variable {P : Program} {G : Cls} {N : Nat} {ds : List Deferred} {F : Fr} {B : Bs} {L : Hl} {K : KK}

/-- Where a round is walked. -/
structure Rnd where
  (l D : Nat) (ra rb : Loop) (Y : Nat → Prop) (W : World)
def Rnd.a (R : Rnd) (B : Bs) : Bs := Br B R.l R.D R.ra R.Y R.W
def Rnd.b (R : Rnd) (B : Bs) : Bs := Br B R.l R.D R.rb R.Y R.W
def Rnd.Ok (R : Rnd) (G : Cls) (w0 : World) : Prop := ∀ B : Bs, B.w0 = w0 → BOk G B → BOk G (R.a B) ∧ BOk G (R.b B) ∧ (∀ L Y w, Hq (R.b B) L Y w → ∃ Y', Hq B L Y' w)
/-- How a round may end. -/
def Krnd (R : Rnd) (Bk : Nat → Bs) (Be : Code → Nat → Bs) (Lk : Nat → Hl) (Ext : Code → Nat → Hl → Prop) (k : Nat) : KK := fun e _ _ C' => ∃ L', match e with
  | .normal => C' = Hp (R.b (Bk (k + 1))) L' ∧ SubB L' (Lk (k + 1))
  | .ret => C' = Hp (R.b (Be .ret (k + 1))) L' ∧ Ext .ret (k + 1) L'
  | .exit id => C' = Hp (R.b (Be (.exit id) (k + 1))) L' ∧ Ext (.exit id) (k + 1) L'
  | _ => False
def Kasg (P : Program) (G : Cls) (N : Nat) (body : Code) (R : Rnd) (Bk : Nat → Bs) (Be : Code → Nat → Bs) (Lk : Nat → Hl) (Ext : Code → Nat → Hl → Prop) (k : Nat) : KK
  | .normal, ds', F', C' => ds' = [] ∧ ∃ L', C' = Hp (R.a (Bk k)) L' ∧ X P G (some R.l) N [] body F' (Hp (R.b (Bk k)) L') (Krnd R Bk Be Lk Ext k)
  | _, _, _, _ => False
def Kout (K : KK) : Code → List Deferred → Fr → Cls → Prop
  | .ret => K .ret
  | .exit id => K (.exit id)
  | _ => fun _ _ _ => False

theorem x_range {g : Operand} {ps : List Nat} {assign body : Code} {gf : Nat} {caps : List Value} {xs : List (List Value)} {Rd : Cls} (Bk : Nat → Bs) (Be : Code → Nat → Bs) (hBk : ∀ k, BOk G (Bk k)) (hBe : ∀ c k, BOk G (Be c k)) (hw0 : ∀ k, (Bk k).w0 = B.w0) (hwe : ∀ c k, (Be c k).w0 = B.w0)
    (hBB : Bk 0 = B) (hg : evF F g = some (.func (.func gf) #[] caps.toArray)) (he : Enters P gf) (hseq : SeqOk P G gf caps xs Rd)
    (hps : ∀ x ∈ xs, x.length = ps.length) (hpN : ps.all (Nat.blt · N) = true) (Lk : Nat → Hl) (Ext : Code → Nat → Hl → Prop) (h0 : SubB L (Lk 0)) (hRd : ∀ k Y w, Hq (Bk k) (Lk k) Y w → Rd w)
    (hround : ∀ (k : Nat) (x : List Value), xs[k]? = some x → ∀ R : Rnd, R.Ok G B.w0 → X P G (some R.l) N [] assign (putAll ps x F) (Hp (R.a (Bk k)) (Lk k)) (Kasg P G N body R Bk Be Lk Ext k))
    (hdone : ∀ D, BOk G (B2 (Bk xs.length) D) → K .normal (mkD D :: ds) F (Hp (B2 (Bk xs.length) D) (Lk xs.length)))
    (hleave : ∀ D c k L', BOk G (B2 (Be c k) D) → Ext c k L' → Kout K c (mkD D :: ds) F (Hp (B2 (Be c k) D) L')) : X P G none N ds (.rangeFunc g ps.toArray assign body) F (Hp B L) K := fun _ a w ha hw => by
  refine wpIn_rangeFunc ?_
  intro fn _
  obtain ⟨rec, hrec⟩ : ∃ rec : LoopState → Option Code → Loop, rec = fun st pe => { state := st, pending := pe, fn, tmps := a.tmps, params := ps.toArray, assign, body, defers := w.heap.size } := ⟨_, rfl⟩
  obtain ⟨W1, hW1⟩ : ∃ W1, (w.alloc (.deferred (some []))).alloc (.loop (rec .ready none)) = W1 := ⟨_, rfl⟩
  obtain ⟨D, hD⟩ : ∃ D, w.heap.size = D := ⟨_, rfl⟩
  obtain ⟨l, hl⟩ : ∃ l, w.heap.size + 1 = l := ⟨_, rfl⟩
  have g1 : Grow w (w.alloc (.deferred (some []))) := (Below.refl _ w).alloc (Nat.le_refl _) _
  have g2 : Grow (w.alloc (.deferred (some []))) W1 := by rw [← hW1]; exact (Below.refl _ _).alloc (Nat.le_refl _) _
  have hL1 : W1.heap[l]? = some (.loop (rec .ready none)) := by
    rw [← hW1, ← hl]; have := World.alloc_heap_new (w.alloc (.deferred (some []))) (.loop (rec .ready none)); rwa [World.size_alloc] at this
  have hK1 : W1.heap[D]? = some (.deferred (some [])) := by
    rw [← hD]; exact (g2.block _ (by simp)).trans (World.alloc_heap_new w _)
  have hs1 : W1.heap.size = w.heap.size + 2 := by rw [← hW1]; simp
  have hB : BOk G B := hBB ▸ hBk 0
  have hq1 : Hq (Bk 0) (Lk 0) (fun b => b = l ∨ b = D ∨ False) W1 := by
    rw [hBB]
    have h1 := (hp_sub hB.r h0 w hw).newY hB.r (b := D) g1 (by omega) (by simp; omega)
    exact h1.newY hB.r (b := l) g2 (by simp; omega) (by omega)
  have hrec1 : Rec l D (rec .ready none) (fun _ => False) W1 := ⟨hL1, hK1, by omega, fun h => h, fun h => h⟩
  have hJ0 : JC Bk l D (rec .ready none) Lk (fun _ => False) 0 W1 := ⟨hq1.lessY (hBk 0).r (fun b hb => by rcases hb with h | h | h; exact h.elim; exact .inr (.inl h); exact .inl h), hrec1⟩
  have hhD : B.w0.heap.size ≤ D := by have := hw.size; omega
  have hhl : B.w0.heap.size ≤ l := by have := hw.size; omega
  refine ⟨l, [mkD D], W1, { target := .fn (.func gf) caps.toArray, args := #[.func (.yield l) #[] #[]] }, W1, gf, (.func (.yield l) #[] #[] :: caps).toArray, W1, ?_, ?_, ?_, ?_, fun h => (by cases h), ?_⟩
  · rw [← hW1, hrec, ← hl, ← hD]; exact run_enterLoop_outer _ _ _ _ _
  · have hev := ha.ev hg
    simp only [resolve, hev]
    simp [Deferred.ofValue, Act.eval]
  · intro f' _; trivial
  · have : (callFunc gf (#[Value.func (.yield l) #[] #[]] ++ caps.toArray)).run P W1 = _ := he _ W1
    simpa [invoke] using this
  have hcall := hseq l (JC Bk l D (rec .ready none) Lk) (JX Be l D (fun c => rec .done (some c)) Ext) (rides_JC (fun k => (hBk k).r) l D _ Lk) (rides_JX (fun c k => (hBe c k).r) l D _ Ext) (fun Y k W h => ⟨(hBk k).g _ _ _ h.1, hRd k _ W h.1⟩)
    (fun Y k W ⟨c, L', _, h, _⟩ => (hBe c k).g _ _ _ h) ?_ W1 hJ0
  · refine CallsIn.mono (callsIn_any (ro := none) hcall) fun e w3 hpost => ?_
    obtain ⟨⟨v, rfl⟩, hpost⟩ := hpost
    rcases hpost with ⟨hq, hrc⟩ | ⟨k, c, L', hE, hq, hrc⟩
    · have hend := run_endLoop (P := P) hrc.loop (by rw [hrec]; simp)
      have pend : (rec .ready none).pending = none := by rw [hrec]
      refine ⟨none, _, hend.trans (congrArg (fun p => Result.ok p (w3.putObj l (.loop { rec .ready none with state := .exhausted }))) pend), ?_⟩
      have hq2 : Hq (Bk xs.length) (Lk xs.length) (fun b => False ∨ b = D ∨ b = l) (w3.putObj l (.loop { rec .ready none with state := .exhausted })) := hq.turnY (hBk _).r (.inr (.inr rfl)) (turn_putObj _ _ _)
      refine ⟨_, F, _, good_hp (ok_b2 (hBk _) D), ⟨ha.size, by show [mkD D] ++ a.defers = _; rw [ha.defers]; rfl, ha.get⟩, ?_, hdone D (ok_b2 (hBk _) D)⟩
      have hD3 : (w3.putObj l (.loop { rec .ready none with state := .exhausted })).heap[D]? = some (.deferred (some [])) := (World.putObj_heap_other (Ne.symm hrc.ne)).trans hrc.dfr
      exact ⟨hq2.os, hq2.tape, hq2.output, hq2.size, hq2.keep, hq2.own, hq2.inj, fun _ h => h.elim, fun _ h => h.elim, fun _ h => h.elim, hD3, fun e => e.elim (hq2.apart D (.inr (.inl rfl))) id, by rw [hw0]; exact hhD,
        (hBk _).r.less _ _ _ (fun x hx => by rcases hx with (hx | hx) | hx; exact .inl hx; exact hx.elim; exact .inr (.inr (.inl hx))) hq2.rid⟩
    · have hend := run_endLoop (P := P) hrc.loop (by rw [hrec]; simp)
      have pend : (rec .done (some c)).pending = some c := by rw [hrec]
      refine ⟨some c, _, hend.trans (congrArg (fun p => Result.ok p (w3.putObj l (.loop { rec .done (some c) with state := .exhausted }))) pend), ?_⟩
      have hq2 : Hq (Be c k) L' (fun b => False ∨ b = D ∨ b = l) (w3.putObj l (.loop { rec .done (some c) with state := .exhausted })) := hq.turnY (hBe c k).r (.inr (.inr rfl)) (turn_putObj _ _ _)
      have hD3 : (w3.putObj l (.loop { rec .done (some c) with state := .exhausted })).heap[D]? = some (.deferred (some [])) := (World.putObj_heap_other (Ne.symm hrc.ne)).trans hrc.dfr
      have hp2 : Hp (B2 (Be c k) D) L' (w3.putObj l (.loop { rec .done (some c) with state := .exhausted })) :=
        ⟨hq2.os, hq2.tape, hq2.output, hq2.size, hq2.keep, hq2.own, hq2.inj, fun _ h => h.elim, fun _ h => h.elim, fun _ h => h.elim, hD3, fun e => e.elim (hq2.apart D (.inr (.inl rfl))) id, by rw [hwe]; exact hhD,
          (hBe c k).r.less _ _ _ (fun x hx => by rcases hx with (hx | hx) | hx; exact .inl hx; exact hx.elim; exact .inr (.inr (.inl hx))) hq2.rid⟩
      have hout := hleave D c k L' (ok_b2 (hBe c k) D) hE
      have hha : Has N (mkD D :: ds) F { a with defers := [mkD D] ++ a.defers } := ⟨ha.size, by show [mkD D] ++ a.defers = _; rw [ha.defers]; rfl, ha.get⟩
      cases c with
      | ret => exact wpIn_ret ⟨_, F, _, good_hp (ok_b2 (hBe .ret k) D), hha, hp2, hout⟩
      | exit id => exact wpIn_exit ⟨_, F, _, good_hp (ok_b2 (hBe (.exit id) k) D), hha, hp2, hout⟩
      | _ => exact hout.elim
  · intro Y k x W hx ⟨hq, hrc⟩
    have hy := run_yield (P := P) (args := x.toArray) hrc.loop (by rw [hrec]; simpa using hps x (List.mem_of_getElem? hx))
    rw [hrec] at hy
    refine ⟨fn, _, assign, body, hy, ?_⟩
    have hhi : ∀ b, Y b ∨ b = D ∨ b = l → B.w0.heap.size ≤ b := fun b hb => by rw [← hw0 k]; exact hq.high b hb
    have hlt : ∀ b, Y b → b < W.heap.size := fun b hb => hq.lt b (.inl hb)
    have hhi' : ∀ (B' : Bs), B'.w0 = B.w0 → ∀ b, Y b ∨ b = D ∨ b = l → B'.w0.heap.size ≤ b := fun B' e b hb => by rw [e]; exact hhi b hb
    have okr : ∀ (B' : Bs), B'.w0 = B.w0 → BOk G B' → ∀ r, BOk G (Br B' l D r Y W) := fun B' e hB' r => ⟨fun L' Y' w' h => hB'.g _ _ _ (hq_of_br hB'.r (hhi' B' e) hlt h), rides_br hB'.r hlt⟩
    refine roundIn_of_wpIn trivial ?_
    have hX := hround k x hx ⟨l, D, rec .ready none, rec .busy none, Y, W⟩ (fun B' e hB' => ⟨okr B' e hB' _, okr B' e hB' _, fun L' Y' w' h => ⟨_, hq_of_br hB'.r (hhi' B' e) hlt h⟩⟩)
    have hhas : Has N [] (putAll ps x F) { tmps := (ps.toArray.zip x.toArray).foldl (fun t (p, v) => t.setIfInBounds p v) a.tmps, defers := [] } := by
      have := has_putAll ps x F { a with defers := [] } hpN ⟨ha.size, rfl, ha.get⟩
      simpa using this
    refine wpIn_mono (hX (good_hp (okr _ (hw0 k) (hBk k) _)) _ W hhas (hp_br (hBk k).r hq hrc)) fun e a1 w1 ⟨ds1, F1, C1, _, ha1, hw1, hk1⟩ => ?_
    cases e with
    | normal =>
      obtain ⟨rfl, L1, rfl, hXb⟩ := hk1
      have hrc1 := hw1.rid.2.1
      have hbr := run_beginRound (P := P) hrc1.loop (by rw [hrec])
      refine ⟨_, hbr, ?_⟩
      have hw2 : Hp (Br (Bk k) l D (rec .busy none) Y W) L1 (w1.putObj l (.loop (rec .busy none))) := hp_br_put (hBk k).r (by rw [hw0]; exact hhl) hrc.nl (rec .busy none) hw1
      have hw2' : w1.putObj l (.loop { rec .ready none with state := .busy }) = w1.putObj l (.loop (rec .busy none)) := by rw [hrec]
      rw [hw2']
      refine wpIn_mono (hXb (good_hp (okr _ (hw0 k) (hBk k) _)) a1 _ ha1 hw2) fun e a3 w3 ⟨ds3, F3, C3, _, _, hw3, hk3⟩ => ?_
      obtain ⟨L3, hk3⟩ := hk3
      have fin : ∀ (B' : Bs), B'.w0 = B.w0 → BOk G B' → Hp (Br B' l D (rec .busy none) Y W) L3 w3 → ∀ jump : Option Code, ∃ W4, (Instr.endRound l jump).run P w3 = .ok (.bool jump.isNone) W4 ∧
          Hq B' L3 (fun b => Y b ∨ b = D ∨ b = l) W4 ∧ Rec l D (rec (if jump.isNone then .ready else .done) jump) Y W4 ∧ Keeps Y W W4 := fun B' e hB' hw3 jump => by
        have hrc3 := hw3.rid.2.1
        have := run_endRound (P := P) jump hrc3.loop
        refine ⟨w3.putObj l (.loop (rec (if jump.isNone then .ready else .done) jump)), ?_, jc_of_br hB'.r (hhi' B' e) hlt hrc.nl hrc.nD (hp_br_put hB'.r (by rw [e]; exact hhl) hrc.nl _ hw3)⟩
        rw [hrec] at this ⊢
        exact this
      cases e with
      | normal =>
        obtain ⟨rfl, hk3⟩ := hk3
        obtain ⟨W4, q0, q1, q2, q3⟩ := fin _ (hw0 _) (hBk _) hw3 none
        exact ⟨_, W4, q0, q3, .inl ⟨rfl, hp_sub (hBk _).r hk3 _ q1, q2⟩⟩
      | ret =>
        obtain ⟨rfl, hk3⟩ := hk3
        obtain ⟨W4, q0, q1, q2, q3⟩ := fin _ (hwe _ _) (hBe _ _) hw3 (some .ret)
        exact ⟨_, W4, q0, q3, .inr ⟨rfl, .ret, L3, hk3, q1, q2⟩⟩
      | exit id =>
        obtain ⟨rfl, hk3⟩ := hk3
        obtain ⟨W4, q0, q1, q2, q3⟩ := fin _ (hwe _ _) (hBe _ _) hw3 (some (.exit id))
        exact ⟨_, W4, q0, q3, .inr ⟨rfl, .exit id, L3, hk3, q1, q2⟩⟩
      | _ => exact hk3.elim
    | _ => exact hk1.elim

/-! ### A function with such a loop -/
def KretM (P : Program) (fn : Func) (R : Ending → World → Prop) : KK
  | .normal, ds, F, C | .ret, ds, F, C => ∀ a w, Has fn.ntmps ds F a → C w → LeavesInM Fence.wide 0 P fn a.tmps R ds .returning w
  | _, _, _, _ => False
theorem calls_of_XM {f : FuncId} {fn : Func} {c : Code} {args : List Value} {w : World} {R : Ending → World → Prop} (hf : P.funcs[f]? = some fn) (hb : fn.body = some c) (hn : Nat.ble args.length fn.ntmps = true)
    (C0 : Cls) (hC : C0 w) (hG : Good G C0) (h : X P G none fn.ntmps [] c (enumF 0 args) C0 (KretM P fn R)) : Calls P f args.toArray w R := by
  refine (callsIn_wide (n := 0)).1 (callsIn_of_wp_marks hf hb trivial ?_)
  refine wpIn_mono (h hG _ w (has_args args _ (Nat.le_of_ble_eq_true hn)) hC) fun e a' w' ⟨ds', F', C', g', ha', hw', hk⟩ => ?_
  cases e with
  | normal => have := hk a' w' ha' hw'; rw [← ha'.defers] at this; exact this
  | ret => have := hk a' w' ha' hw'; rw [← ha'.defers] at this; exact this
  | _ => exact hk.elim
theorem leaves_ret {fn : Func} {tmps : Array Value} {R : Ending → World → Prop} {w : World} {v : Value} (h : (results fn tmps).run P w = .ok v w) (hR : R (.returned v) w) : LeavesInM Fence.wide 0 P fn tmps R [] .returning w := ⟨v, h, hR⟩
theorem kretM_0 {fn : Func} {R : Ending → World → Prop} {C : Cls} {e : Exit} (he : e = .ret ∨ e = .normal) (h : Kret P fn R .ret [] F C) : KretM P fn R e [] F C := by
  have key : ∀ a w, Has fn.ntmps [] F a → C w → LeavesInM Fence.wide 0 P fn a.tmps R [] .returning w := fun a w ha hC => by
    obtain ⟨v, h1, h2⟩ := h.2 a w ha hC
    exact leaves_ret h1 h2
  rcases he with rfl | rfl <;> exact key
theorem kretM_1 {fn : Func} {R : Ending → World → Prop} {e : Exit} {D : Nat} (he : e = .ret ∨ e = .normal) (hr : Rides B.J) (h : Kret P fn R .ret [] F (Hp B L)) : KretM P fn R e [mkD D] F (Hp (B2 B D) L) := by
  have key : ∀ a w, Has fn.ntmps [mkD D] F a → Hp (B2 B D) L w → LeavesInM Fence.wide 0 P fn a.tmps R [mkD D] .returning w := fun a w ha hC => by
    refine ⟨by simp, .inl ⟨D, _, rfl, run_takeDeferred hC.rid.1, ?_⟩⟩
    obtain ⟨v, h1, h2⟩ := h.2 { a with defers := [] } _ ⟨ha.size, rfl, ha.get⟩ (hp_fin hr hC)
    exact leaves_ret h1 h2
  rcases he with rfl | rfl <;> exact key
end
end Go.Proofs.Yteohckfbphdngaa
