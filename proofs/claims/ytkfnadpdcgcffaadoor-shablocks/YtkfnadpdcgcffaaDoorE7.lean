/-
  The engine, part 7: small helps of the walks.
-/
import Derived.Test.YtkfnadpdcgcffaaDoorE6
namespace Go.Proofs.YtkfnadpdcgcffaaDoor
open Go.RowKit

def SubF (F : Fr) : Fr → Prop
  | [] => True
  | (t, v) :: r => lk F t = some v ∧ SubF F r
theorem subF_spec {F : Fr} : ∀ {F' : Fr}, SubF F F' → ∀ t v, lk F' t = some v → lk F t = some v
  | [], _, _, _, h => by cases h
  | (s, u) :: r, hs, t, v, h => by
    unfold lk at h
    cases hb : Nat.beq s t with
    | true => rw [hb] at h; cases Nat.eq_of_beq_eq_true hb; simp at h; subst h; exact hs.1
    | false => rw [hb] at h; exact subF_spec hs.2 t v h
theorem has_sub {N : Nat} {ds : List Deferred} {F F' : Fr} (h : SubF F F') : ∀ a, Has N ds F a → Has N ds F' a := fun _ ha => ha.less (subF_spec h)
def SubB (L : Hl) : Hl → Prop
  | [] => True
  | (n, x) :: r => lkB L n = some x ∧ SubB L r
theorem subB_spec {L : Hl} : ∀ {L' : Hl}, SubB L L' → ∀ n x, lkB L' n = some x → lkB L n = some x
  | [], _, _, _, h => by cases h
  | (s, u) :: r, hs, t, v, h => by
    rcases lkB_cons h with ⟨rfl, rfl⟩ | ⟨_, h⟩
    · exact hs.1
    · exact subB_spec hs.2 t v h
theorem hp_sub {B : Bs} {L L' : Hl} {Y : Nat → Prop} (hr : Rides B.J) (h : SubB L L') : ∀ w, Hq B L Y w → Hq B L' Y w := fun _ hw => hw.less hr (subB_spec h)

section
variable {P : Program} {G : Cls} {ro : Option Nat} {N : Nat} {ds : List Deferred} {F : Fr} {K : KK} {B : Bs} {L : Hl}
/-- Forget what is not needed from here on. -/
theorem x_cut {c : Code} (F' : Fr) (L' : Hl) (hG : BOk G B) (hF : SubF F F') (hL : SubB L L') (h : X P G ro N ds c F' (Hp B L') K) : X P G ro N ds c F (Hp B L) K :=
  x_less h (has_sub hF) (hp_sub hG.r hL) (fun _ => good_hp hG)
/-- A loop over a family of states. -/
theorem x_for {c : Code} {ι : Type} (Fm : ι → Fr) (Lm : ι → Hl) (m : ι → Nat) (i0 : ι) (hG : BOk G B) (hF : SubF F (Fm i0)) (hL : SubB L (Lm i0))
    (hr : ∀ i, X P G ro N ds c (Fm i) (Hp B (Lm i)) (Kseq (fun ds' F' C' => ds' = ds ∧ ∃ j L', m j < m i ∧ C' = Hp B L' ∧ SubF F' (Fm j) ∧ SubB L' (Lm j)) K)) : X P G ro N ds (.loop c) F (Hp B L) K :=
  x_loop Fm (fun i => Hp B (Lm i)) m i0 (fun _ => good_hp hG) (has_sub hF) (hp_sub hG.r hL) fun i => (hr i).mono fun e ds' F' C' hk => by
    cases e with
    | normal =>
      obtain ⟨rfl, j, L', hj, rfl, h1, h2⟩ := hk
      exact ⟨rfl, j, hj, fun _ => good_hp hG, has_sub h1, hp_sub hG.r h2⟩
    | _ => exact hk
theorem x_next {ι : Type} {Fm : ι → Fr} {Lm : ι → Hl} {m : ι → Nat} {i : ι} (j : ι) (hj : m j < m i) (h1 : SubF F (Fm j)) (h2 : SubB L (Lm j)) :
    Kseq (fun ds' F' C' => ds' = ds ∧ ∃ j L', m j < m i ∧ C' = Hp B L' ∧ SubF F' (Fm j) ∧ SubB L' (Lm j)) K .normal ds F (Hp B L) := ⟨rfl, j, L, hj, rfl, h1, h2⟩

theorem kseq_n {Z : List Deferred → Fr → Cls → Prop} {C : Cls} (h : Z ds F C) : Kseq Z K .normal ds F C := h
theorem kblk_n {id : Nat} {C : Cls} (h : K .normal ds F C) : Kblk id K .normal ds F C := h
theorem kseq_ret {Z : List Deferred → Fr → Cls → Prop} {C : Cls} (h : K .ret ds F C) : Kseq Z K .ret ds F C := h
theorem kblk_ret {id : Nat} {C : Cls} (h : K .ret ds F C) : Kblk id K .ret ds F C := h
theorem kret_tmp {fn : Func} {R : Ending → World → Prop} {t : Nat} {v : Value} {C : Cls} (hr : fn.results = #[.tmp t]) (hv : lk F t = some v) (h : ∀ w, C w → R (.returned v) w) : Kret P fn R .ret [] F C :=
  ⟨rfl, fun a w ha hC => ⟨v, by simp [results, hr, ha.get t v hv], h w hC⟩⟩
theorem kret_none {fn : Func} {R : Ending → World → Prop} {C : Cls} (hr : fn.results = #[]) (h : ∀ w, C w → R (.returned (.tuple #[])) w) : Kret P fn R .ret [] F C :=
  ⟨rfl, fun a w _ hC => ⟨_, results_none hr a.tmps P w, h w hC⟩⟩
theorem kend_none {fn : Func} {R : Ending → World → Prop} {C : Cls} (hr : fn.results = #[]) (h : ∀ w, C w → R (.returned (.tuple #[])) w) : Kret P fn R .normal [] F C :=
  ⟨rfl, fun a w _ hC => ⟨_, results_none hr a.tmps P w, h w hC⟩⟩
theorem kret_cell {fn : Func} {R : Ending → World → Prop} {t : Nat} {T : TypeId} {b n : Nat} {cs : List Value} {C : Cls} (hr : fn.results = #[.cell t T]) (hv : lk F t = some (.pointer (some ⟨b, 0, none⟩))) (hag : ∀ w, (isAgg T).run P w = .ok true w)
    (hs : ∀ w, (sizeOf T).run P w = .ok n w) (hn : cs.length = n) (hc : ∀ w, C w → w.rangeAt b 0 cs) (h : ∀ w, C w → R (.returned (.agg cs.toArray)) w) : Kret P fn R .ret [] F C :=
  ⟨rfl, fun a w ha hC => ⟨.agg cs.toArray, by
    have hl := run_loadCells_list (P := P) w ⟨b, 0, none⟩ cs (fun j v hv => by rw [Addr.add_mid]; exact hc w hC j v hv)
    rw [hn] at hl
    simp [results, hr, ha.get t _ hv, asAddr, loadVar, hag, hs, hl], h w hC⟩⟩
end

/-- The element's place, the block's first cell at 0, one cell an element. -/
theorem lx_ia0 {P : Program} {G : Cls} {ro : Option Nat} {ops : Array Oper} {N : Nat} {ds : List Deferred} {fs : List Nat} {Z : Fr → Cls → Prop} {F : Fr} {C : Cls} {rest : List Oper} {d : Nat} {ty : TypeId} {pos : String} {af : Array Edge} {gd : Option (Nat × Bool)}
    (k : Nat) {t e : TypeId} {len : Nat} {x ix : Operand} {b : Nat} {i : Int} (hx : evF F x = some (.pointer (some ⟨b, 0, none⟩))) (hi : evF F ix = some (I i)) (hu : P.underlying t = some (.array len e))
    (hs : ∀ w, (sizeOf e).run P w = .ok 1 w) (hk : i = (k : Int)) (hb : k < len) (hw : wantF ops F ⟨some d, .indexAddr t x ix, ty, pos, af, gd⟩ = some true) (hd : Nat.blt d N = true)
    (h : Lx P G ro ops N ds (EE fs) Z rest ((d, .pointer (some ⟨b, k, none⟩)) :: F) C) : Lx P G ro ops N ds (EE fs) Z (⟨some d, .indexAddr t x ix, ty, pos, af, gd⟩ :: rest) F C :=
  lx_ia hx hi hu hs (by omega) hw hd (by
    rw [show 0 + i.toNat * 1 = k from by omega]; exact h)
/-- The element's place anywhere, one cell an element. -/
theorem lx_ia1 {P : Program} {G : Cls} {ro : Option Nat} {ops : Array Oper} {N : Nat} {ds : List Deferred} {fs : List Nat} {Z : Fr → Cls → Prop} {F : Fr} {C : Cls} {rest : List Oper} {d : Nat} {ty : TypeId} {pos : String} {af : Array Edge} {gd : Option (Nat × Bool)}
    (k : Nat) {t e : TypeId} {len : Nat} {x ix : Operand} {b o : Nat} {i : Int} (hx : evF F x = some (.pointer (some ⟨b, o, none⟩))) (hi : evF F ix = some (I i)) (hu : P.underlying t = some (.array len e))
    (hs : ∀ w, (sizeOf e).run P w = .ok 1 w) (hk : i = (k : Int)) (hb : k < len) (hw : wantF ops F ⟨some d, .indexAddr t x ix, ty, pos, af, gd⟩ = some true) (hd : Nat.blt d N = true)
    (h : Lx P G ro ops N ds (EE fs) Z rest ((d, .pointer (some ⟨b, o + k, none⟩)) :: F) C) : Lx P G ro ops N ds (EE fs) Z (⟨some d, .indexAddr t x ix, ty, pos, af, gd⟩ :: rest) F C :=
  lx_ia hx hi hu hs (by omega) hw hd (by
    rw [show o + i.toNat * 1 = o + k from by omega]; exact h)
theorem lx_is1 {P : Program} {G : Cls} {ro : Option Nat} {ops : Array Oper} {N : Nat} {ds : List Deferred} {fs : List Nat} {Z : Fr → Cls → Prop} {F : Fr} {C : Cls} {rest : List Oper} {d : Nat} {ty : TypeId} {pos : String} {af : Array Edge} {gd : Option (Nat × Bool)}
    (k : Nat) {t e : TypeId} {len cap : Nat} {x ix : Operand} {b o : Nat} {i : Int} (hx : evF F x = some (.slice (some ⟨b, o, none⟩) len cap)) (hi : evF F ix = some (I i)) (hu : P.underlying t = some (.slice e))
    (hs : ∀ w, (sizeOf e).run P w = .ok 1 w) (hk : i = (k : Int)) (hb : k < len) (hw : wantF ops F ⟨some d, .indexAddr t x ix, ty, pos, af, gd⟩ = some true) (hd : Nat.blt d N = true)
    (h : Lx P G ro ops N ds (EE fs) Z rest ((d, .pointer (some ⟨b, o + k, none⟩)) :: F) C) : Lx P G ro ops N ds (EE fs) Z (⟨some d, .indexAddr t x ix, ty, pos, af, gd⟩ :: rest) F C :=
  lx_is hx hi hu hs (by omega) hw hd (by
    rw [show o + i.toNat * 1 = o + k from by omega]; exact h)
/-- An element of a row of encoded numbers. -/
theorem gm {α : Type} (f : α → Value) (xs : List α) (z : α) (k : Nat) (h : k < xs.length) : (xs.map f)[k]? = some (f (xs.getD k z)) := by
  simp [h]
theorem gma {α : Type} (f : α → Value) (xs : List α) (z : α) (k : Nat) (h : k < xs.length) : (xs.map f).toArray[k]? = some (f (xs.getD k z)) := by
  simp [h]
theorem set_map {α : Type} (f : α → Value) (xs : List α) (k : Nat) (x : α) : (xs.map f).set k (f x) = (xs.set k x).map f := by
  rw [List.map_set]
theorem one_u8 (l : List (BitVec 8)) : (l.map U8).all (·.oneCell') = true := by simp [U8, Value.oneCell']
theorem one_u32 (l : List (BitVec 32)) : (l.map U32).all (·.oneCell') = true := by simp [U32, Value.oneCell']
theorem one_u64 (l : List (BitVec 64)) : (l.map U64).all (·.oneCell') = true := by simp [U64, Value.oneCell']
/-- What G says hangs on the first 'low' blocks alone. -/
structure GLow (G : Cls) (low : Nat) : Prop where
  size : ∀ w, G w → low ≤ w.heap.size
  same : ∀ w w' : World, (∀ k, k < low → w'.heap[k]? = w.heap[k]?) → G w → G w'
theorem GLow.from {G : Cls} {low : Nat} (h : GLow G low) {w : World} (hw : G w) {M : Nat → Prop} (hM : ∀ m, M m → low ≤ m) : GFrom G w M := fun w' _ hk =>
  h.same w w' (fun k hlt => hk k (Nat.lt_of_lt_of_le hlt (h.size w hw)) (fun hm => by have := hM k hm; omega)) hw
theorem GLow.plain {G : Cls} {low : Nat} (h : GLow G low) {w : World} (hw : G w) : BOk G (pl w) := (h.from (M := fun _ => False) hw (fun _ h => h.elim)).ok (B := pl w) rides_true
theorem GLow.grow {G : Cls} {low : Nat} (h : GLow G low) {w w' : World} (hw : G w) (hg : Grow w w') : G w' := h.same w w' (fun k hk => hg.block k (Nat.lt_of_lt_of_le hk (h.size w hw))) hw
end Go.Proofs.YtkfnadpdcgcffaaDoor
