/-
  The engine, part 3: code; functions; the class of worlds of a function that works in blocks of its own.
-/
import Derived.Test.YtkfnadpdcgcffaaDoorE2
import Derived.Carry
namespace Go.Proofs.YtkfnadpdcgcffaaDoor
open Go.RowKit

abbrev KK := Exit → List Deferred → Fr → Cls → Prop
/-- From every state that has F, in every world of C, the code is left in a way that K takes. -/
def X (P : Program) (G : Cls) (ro : Option Nat) (N : Nat) (ds : List Deferred) (c : Code) (F : Fr) (C : Cls) (K : KK) : Prop :=
  Good G C → ∀ a w, Has N ds F a → C w → c.wpIn (FW ro) 0 P (fun e a' w' => ∃ ds' F' C', Good G C' ∧ Has N ds' F' a' ∧ C' w' ∧ K e ds' F' C') a w

def Kseq (Z : List Deferred → Fr → Cls → Prop) (K : KK) : KK
  | .normal => Z
  | e => K e
def Kblk (id : Nat) (K : KK) : KK
  | .exit id' => bif Nat.beq id' id then K .normal else K (.exit id')
  | e => K e

section
variable {P : Program} {G : Cls} {ro : Option Nat} {N : Nat} {ds : List Deferred} {F : Fr} {C : Cls} {K : KK}

theorem X.mono {c : Code} {K' : KK} (h : X P G ro N ds c F C K) (hk : ∀ e ds F C, K e ds F C → K' e ds F C) : X P G ro N ds c F C K' :=
  fun hS a w ha hw => wpIn_mono (h hS a w ha hw) fun _ _ _ ⟨ds', F', C', g, ha', hw', hk'⟩ => ⟨ds', F', C', g, ha', hw', hk _ _ _ _ hk'⟩
/-- Less is known from here on. -/
theorem x_less {c : Code} {F' : Fr} {C' : Cls} (h : X P G ro N ds c F' C' K) (hF : ∀ a, Has N ds F a → Has N ds F' a) (hC : ∀ w, C w → C' w) (hG : Good G C → Good G C') : X P G ro N ds c F C K :=
  fun hS a w ha hw => h (hG hS) a w (hF a ha) (hC w hw)

theorem x_seq {x y : Code} (h : X P G ro N ds x F C (Kseq (fun ds' F' C' => X P G ro N ds' y F' C' K) K)) : X P G ro N ds (.seq x y) F C K := fun hS a w ha hw => by
  refine wpIn_seq (wpIn_mono (h hS a w ha hw) fun e a' w' ⟨ds', F', C', g, ha', hw', hk⟩ => ?_)
  cases e with
  | normal => exact hk g a' w' ha' hw'
  | _ => exact ⟨ds', F', C', g, ha', hw', hk⟩
theorem x_skip (h : K .normal ds F C) : X P G ro N ds .skip F C K := fun hS _ _ ha hw => wpIn_skip ⟨ds, F, C, hS, ha, hw, h⟩
theorem x_ret (h : K .ret ds F C) : X P G ro N ds .ret F C K := fun hS _ _ ha hw => wpIn_ret ⟨ds, F, C, hS, ha, hw, h⟩
theorem x_exit {id : Nat} (h : K (.exit id) ds F C) : X P G ro N ds (.exit id) F C K := fun hS _ _ ha hw => wpIn_exit ⟨ds, F, C, hS, ha, hw, h⟩
theorem x_block {id : Nat} {c : Code} (h : X P G ro N ds c F C (Kblk id K)) : X P G ro N ds (.block id c) F C K := fun hS a w ha hw => by
  refine wpIn_block (wpIn_mono (h hS a w ha hw) fun e a' w' ⟨ds', F', C', g, ha', hw', hk⟩ => ?_)
  cases e with
  | exit id' =>
    show if id' = id then _ else _
    by_cases he : id' = id
    · subst he
      rw [if_pos rfl]
      simp only [Kblk, Nat.beq_refl, cond_true] at hk
      exact ⟨ds', F', C', g, ha', hw', hk⟩
    · rw [if_neg he]
      have hb : Nat.beq id' id = false := by
        cases hb : Nat.beq id' id with
        | false => rfl
        | true => exact absurd (Nat.eq_of_beq_eq_true hb) he
      simp only [Kblk, hb, cond_false] at hk
      exact ⟨ds', F', C', g, ha', hw', hk⟩
  | _ => exact ⟨ds', F', C', g, ha', hw', hk⟩
theorem x_if {c : Operand} {x y : Code} {b : Bool} (hc : evF F c = some (.bool b)) (ht : b = true → X P G ro N ds x F C K) (hf : b = false → X P G ro N ds y F C K) : X P G ro N ds (.cond c x y) F C K := fun hS a w ha hw =>
  wpIn_cond_split (ha.ev hc) (fun h => ht h hS a w ha hw) (fun h => hf h hS a w ha hw)
theorem x_true {c : Operand} {x y : Code} (hc : evF F c = some (.bool true)) (h : X P G ro N ds x F C K) : X P G ro N ds (.cond c x y) F C K := x_if hc (fun _ => h) (fun h => by cases h)
theorem x_false {c : Operand} {x y : Code} (hc : evF F c = some (.bool false)) (h : X P G ro N ds y F C K) : X P G ro N ds (.cond c x y) F C K := x_if hc (fun h => by cases h) (fun _ => h)

theorem x_plain {id : Nat} {l : List Oper} {E : Oper → Bool} (h : Lx P G ro l.toArray N ds E (K .normal ds) l F C) : X P G ro N ds (.region id l.toArray false) F C K := fun hS _ _ ha hw =>
  wpIn_plain (fun F' C' hS' hk _ _ ha' hw' => ⟨ds, F', C', hS', ha', hw', hk⟩) h hS ha hw
theorem x_draw {id : Nat} {l : List Oper} {E : Oper → Bool} (σ : List Nat) (hm : P.follows .mixedOrders = true) (hlen : σ.length = l.length) (hsel : Region.noSelect l.toArray = true) (hdef : noDefer l.toArray = true)
    (hok : okFrom .any l.toArray E σ (Array.replicate l.toArray.size false) = true) (h : Lx P G ro l.toArray N ds E (K .normal ds) (σ.filterMap (l.toArray[·]?)) F C) : X P G ro N ds (.region id l.toArray true) F C K := fun hS _ _ ha hw =>
  wpIn_draw σ hm hlen hsel hdef hok (fun F' C' hS' hk _ _ ha' hw' => ⟨ds, F', C', hS', ha', hw', hk⟩) h hS ha hw
/-- In the order of the text. -/
theorem x_drawn {id : Nat} {l : List Oper} {E : Oper → Bool} (hm : P.follows .mixedOrders = true) (hsel : Region.noSelect l.toArray = true) (hdef : noDefer l.toArray = true)
    (hok : okFrom .any l.toArray E (List.range l.length) (Array.replicate l.toArray.size false) = true) (h : Lx P G ro l.toArray N ds E (K .normal ds) l F C) : X P G ro N ds (.region id l.toArray true) F C K := by
  refine x_draw (List.range l.length) hm (by simp) hsel hdef hok ?_
  have : (List.range l.length).filterMap (l.toArray[·]?) = l := by
    simp only [List.getElem?_toArray]
    apply List.ext_getElem?
    intro i
    clear h hok hdef hsel
    induction l generalizing i with
    | nil => simp
    | cons x xs ih =>
      rw [List.length_cons, List.range_succ_eq_map]
      simp only [List.filterMap_cons, List.getElem?_cons_zero, List.filterMap_map]
      cases i with
      | zero => rfl
      | succ i =>
        simp only [List.getElem?_cons_succ]
        exact ih i
  rw [this]; exact h

theorem xs_plain {id : Nat} {l : List Oper} {E : Oper → Bool} {y : Code} (h : Lx P G ro l.toArray N ds E (fun F' C' => X P G ro N ds y F' C' K) l F C) : X P G ro N ds (.seq (.region id l.toArray false) y) F C K := x_seq (x_plain h)
theorem xs_drawn {id : Nat} {l : List Oper} {E : Oper → Bool} {y : Code} (hm : P.follows .mixedOrders = true) (hsel : Region.noSelect l.toArray = true) (hdef : noDefer l.toArray = true)
    (hok : okFrom .any l.toArray E (List.range l.length) (Array.replicate l.toArray.size false) = true) (h : Lx P G ro l.toArray N ds E (fun F' C' => X P G ro N ds y F' C' K) l F C) : X P G ro N ds (.seq (.region id l.toArray true) y) F C K := x_seq (x_drawn hm hsel hdef hok h)
/-! ### A loop: a family of states, with a measure -/
def Fits (G : Cls) (N : Nat) (ds : List Deferred) {ι : Type} (Fm : ι → Fr) (Cm : ι → Cls) (i : ι) (a : Act) (w : World) : Prop := Good G (Cm i) ∧ Has N ds (Fm i) a ∧ Cm i w

theorem exists_least (p : Nat → Prop) (h : ∃ n, p n) : ∃ n, p n ∧ ∀ m, p m → n ≤ m := by
  obtain ⟨n, hn⟩ := h
  induction n using Nat.strongRecOn with
  | _ n ih =>
    by_cases h : ∃ k, k < n ∧ p k
    · obtain ⟨k, hk, hp⟩ := h
      exact ih k hk hp
    · exact ⟨n, hn, fun m hm => Nat.le_of_not_lt fun hlt => h ⟨m, hlt, hm⟩⟩
theorem x_loop {c : Code} {ι : Type} (Fm : ι → Fr) (Cm : ι → Cls) (m : ι → Nat) (i0 : ι) (h0 : Good G C → Good G (Cm i0)) (hF : ∀ a, Has N ds F a → Has N ds (Fm i0) a) (hC : ∀ w, C w → Cm i0 w)
    (hr : ∀ i, X P G ro N ds c (Fm i) (Cm i) (Kseq (fun ds' F' C' => ds' = ds ∧ ∃ j, m j < m i ∧ (Good G C' → Good G (Cm j)) ∧ (∀ a, Has N ds F' a → Has N ds (Fm j) a) ∧ ∀ w, C' w → Cm j w) K)) : X P G ro N ds (.loop c) F C K := fun hS a w ha hw => by
  have hl : ∀ a w, ∃ n, (∃ i, Fits G N ds Fm Cm i a w) → (∃ i, Fits G N ds Fm Cm i a w ∧ m i = n) ∧ ∀ i, Fits G N ds Fm Cm i a w → n ≤ m i := fun a w => by
    by_cases h : ∃ i, Fits G N ds Fm Cm i a w
    · obtain ⟨n, ⟨i, hi, hn⟩, hmin⟩ := exists_least (fun n => ∃ i, Fits G N ds Fm Cm i a w ∧ m i = n) (by obtain ⟨i, hi⟩ := h; exact ⟨m i, i, hi, rfl⟩)
      exact ⟨n, fun _ => ⟨⟨i, hi, hn⟩, fun j hj => hmin (m j) ⟨j, hj, rfl⟩⟩⟩
    · exact ⟨0, fun h' => absurd h' h⟩
  let μ : Act → World → Nat := fun a w => Classical.choose (hl a w)
  have hμ : ∀ i a w, Fits G N ds Fm Cm i a w → μ a w ≤ m i := fun i a w hf => (Classical.choose_spec (hl a w) ⟨i, hf⟩).2 i hf
  have hμ' : ∀ a w, (∃ i, Fits G N ds Fm Cm i a w) → ∃ i, Fits G N ds Fm Cm i a w ∧ m i = μ a w := fun a w h => (Classical.choose_spec (hl a w) h).1
  refine wpIn_loop (fun a w => ∃ i, Fits G N ds Fm Cm i a w) μ ⟨i0, h0 hS, hF a ha, hC w hw⟩ fun a w hI => ?_
  obtain ⟨i, ⟨g, ha, hw⟩, hm⟩ := hμ' a w hI
  refine wpIn_mono (hr i g a w ha hw) fun e a' w' ⟨ds', F', C', g', ha', hw', hk⟩ => ?_
  cases e with
  | normal =>
    obtain ⟨rfl, j, hj, hg, hFj, hCj⟩ := hk
    have hf : Fits G N ds' Fm Cm j a' w' := ⟨hg g', hFj a' ha', hCj w' hw'⟩
    exact ⟨⟨j, hf⟩, Nat.lt_of_le_of_lt (hμ j a' w' hf) (by omega)⟩
  | _ => exact ⟨ds', F', C', g', ha', hw', hk⟩

/-! ### A function -/
def Kret (P : Program) (fn : Func) (R : Ending → World → Prop) : KK
  | .normal, ds, F, C | .ret, ds, F, C => ds = [] ∧ ∀ a w, Has fn.ntmps ds F a → C w → ∃ v, (results fn a.tmps).run P w = .ok v w ∧ R (.returned v) w
  | _, _, _, _ => False

def enumF : Nat → List Value → Fr
  | _, [] => []
  | k, v :: r => (k, v) :: enumF (k + 1) r
theorem lk_enumF : ∀ (l : List Value) (k t : Nat) (v : Value), lk (enumF k l) t = some v → k ≤ t ∧ l[t - k]? = some v
  | [], _, _, _, h => by cases h
  | x :: r, k, t, v, h => by
    unfold enumF lk at h
    cases hb : Nat.beq k t with
    | true =>
      rw [hb] at h
      cases Nat.eq_of_beq_eq_true hb
      simp only [cond_true, Option.some.injEq] at h
      subst h
      simp
    | false =>
      rw [hb] at h
      obtain ⟨h1, h2⟩ := lk_enumF r (k + 1) t v h
      refine ⟨by omega, ?_⟩
      rw [show t - k = (t - (k + 1)) + 1 from by omega]
      simpa using h2
theorem has_args (args : List Value) (n : Nat) (hn : args.length ≤ n) : Has n [] (enumF 0 args) { tmps := args.toArray ++ Array.replicate (n - args.toArray.size) undef, defers := [] } := by
  refine ⟨by simp; omega, rfl, fun t v h => ?_⟩
  obtain ⟨_, h2⟩ := lk_enumF args 0 t v h
  simp only [Nat.sub_zero] at h2
  have : t < args.length := by
    rcases Nat.lt_or_ge t args.length with h' | h'
    · exact h'
    · rw [List.getElem?_eq_none h'] at h2; cases h2
  rw [Array.getElem?_append_left (by simpa using this)]
  simpa using h2

theorem calls_of_X {f : FuncId} {fn : Func} {c : Code} {args : List Value} {w : World} {R : Ending → World → Prop} (hf : P.funcs[f]? = some fn) (hb : fn.body = some c) (hn : Nat.ble args.length fn.ntmps = true)
    (C0 : Cls) (hC : C0 w) (hG : Good G C0) (h : X P G none fn.ntmps [] c (enumF 0 args) C0 (Kret P fn R)) : Calls P f args.toArray w R := by
  refine (callsIn_wide (n := 0)).1 (callsIn_of_wp hf hb trivial ?_)
  refine wpIn_mono (h hG _ w (has_args args _ (Nat.le_of_ble_eq_true hn)) hC) fun e a' w' ⟨ds', F', C', g', ha', hw', hk⟩ => ?_
  cases e with
  | normal => obtain ⟨rfl, hk⟩ := hk; exact ⟨ha'.defers, hk a' w' ha' hw'⟩
  | ret => obtain ⟨rfl, hk⟩ := hk; exact ⟨ha'.defers, hk a' w' ha' hw'⟩
  | _ => exact hk.elim
end
end Go.Proofs.YtkfnadpdcgcffaaDoor
