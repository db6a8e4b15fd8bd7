/-
  The engine, part 22: slices of values of one cell each: literals, append; blocks of a callee's that have no name of their own.
-/
import Derived.Test.YteohckfbphdngaaE21
namespace Go.Proofs.Yteohckfbphdngaa
open Go.RowKit
/-- The cells lie there. -/
def CellsAt (w : World) (a : Option Addr) (cs : List Value) : Prop := ∀ j v, cs[j]? = some v → ∃ ad, a = some ad ∧ w.cell? (ad.add j) = some v
theorem CellsAt.grow {w w' : World} {a : Option Addr} {cs : List Value} (h : CellsAt w a cs) (hg : Grow w w') : CellsAt w' a cs := fun j v hv => by
  obtain ⟨ad, e, hc⟩ := h j v hv
  refine ⟨ad, e, ?_⟩
  have hlt : (ad.add j).block < w.heap.size := block_lt_of_cell hc
  rw [World.cell?_of_block (w := w) (hg.block _ hlt)]
  exact hc
theorem CellsAt.range {w : World} {b o : Nat} {cs : List Value} (h : w.rangeAt b o cs) : CellsAt w (some ⟨b, o, none⟩) cs := fun j v hv => ⟨_, rfl, by rw [Addr.add_mid]; exact h j v hv⟩
theorem CellsAt.take {w : World} {a : Option Addr} {cs : List Value} (h : CellsAt w a cs) (n : Nat) : CellsAt w a (cs.take n) := fun j v hv => h j v (by
  rw [List.getElem?_take] at hv
  split at hv
  · exact hv
  · cases hv)
theorem cells_nil (w : World) (a : Option Addr) : CellsAt w a [] := fun _ _ h => by cases h
def OwnV (L : Hl) (n : Nat) (e : TypeId) (a0 : Option Addr) (cap : Nat) (xs : List Value) : Prop :=
  (a0 = none ∧ xs = [] ∧ cap = 0) ∨ ∃ b c, a0 = some ⟨b, 0, none⟩ ∧ lkB L n = some (b, c, e) ∧ c.length = cap ∧ xs.length ≤ cap ∧ c.take xs.length = xs
theorem ownV_nil (L : Hl) (n : Nat) (e : TypeId) : OwnV L n e none 0 [] := .inl ⟨rfl, rfl, rfl⟩
theorem OwnV.le {L : Hl} {n : Nat} {e : TypeId} {a0 : Option Addr} {cap : Nat} {xs : List Value} (h : OwnV L n e a0 cap xs) : xs.length ≤ cap := by
  rcases h with ⟨_, rfl, rfl⟩ | ⟨_, _, _, _, _, h, _⟩
  · exact Nat.le_refl _
  · exact h
theorem OwnV.cells {B : Bs} {L : Hl} {n : Nat} {e : TypeId} {a0 : Option Addr} {cap : Nat} {xs : List Value} (h : OwnV L n e a0 cap xs) {Y : Nat → Prop} : ∀ w, Hq B L Y w → CellsAt w a0 xs := fun w hC => by
  rcases h with ⟨rfl, rfl, rfl⟩ | ⟨b, c, rfl, hl, hc, hle, ht⟩
  · exact cells_nil w none
  · refine CellsAt.range fun j v hv => ?_
    rw [Nat.zero_add]
    have hcj : c[j]? = some v := by
      have : (c.take xs.length)[j]? = some v := by rw [ht]; exact hv
      rw [List.getElem?_take] at this
      split at this
      · exact this
      · cases this
    exact hp_cell hl hcj w hC
/-- What a callee hands back: a slice of its own making, or nil. -/
def ClnV (e : TypeId) (w w' : World) (xs : List Value) (a0 : Option Addr) (cap : Nat) : Prop :=
  (xs = [] ∧ a0 = none ∧ cap = 0) ∨ ∃ b c, a0 = some ⟨b, 0, none⟩ ∧ w.heap.size ≤ b ∧ OwnB w' b c e ∧ c.length = cap ∧ xs.length ≤ cap ∧ c.take xs.length = xs
theorem OwnV.cln {w w' : World} {L : Hl} {n : Nat} {e : TypeId} {a0 : Option Addr} {cap : Nat} {xs : List Value} (h : OwnV L n e a0 cap xs) (hp : Hp (pl w) L w') : ClnV e w w' xs a0 cap := by
  rcases h with ⟨rfl, rfl, rfl⟩ | ⟨b, c, rfl, hl, hc, hle, ht⟩
  · exact .inl ⟨rfl, rfl, rfl⟩
  · exact .inr ⟨b, c, rfl, (hp.own n b c e hl).2.elim id False.elim, (hp.own n b c e hl).1, hc, hle, ht⟩
/-- It is one more block, behind those that we name. -/
theorem cln_news {B : Bs} {L : Hl} {Y : Nat → Prop} {e : TypeId} {w w' : World} {xs : List Value} {a0 : Option Addr} {cap : Nat} (n : Nat) (h : Hq B L Y w) (hr : Rides B.J) (hg : Grow w w') (hc : ClnV e w w' xs a0 cap) (hn : lkB L n = none) :
    ∃ A : Hl, Hq B (L ++ A) Y w' ∧ (∀ Y' w2, Hq B (L ++ A) Y' w2 → CellsAt w2 a0 xs) ∧ ∀ m, m ≠ n → lkB A m = none := by
  rcases hc with ⟨rfl, rfl, rfl⟩ | ⟨b, c, rfl, hb, hob, hcc, hle, ht⟩
  · exact ⟨[], by rw [List.append_nil]; exact h.grow hr hg, fun _ w2 _ => cells_nil w2 none, fun _ _ => rfl⟩
  · have hA : Hq B ([(n, b, c, e)] ++ L) Y w' := h.news hr hg [(n, b, c, e)] (fun n' b' c' t' hl => by
        rcases lkB_cons hl with ⟨_, e⟩ | ⟨_, hl⟩
        · cases e; exact ⟨hb, hob⟩
        · cases hl) (fun i j b1 c1 t1 c2 t2 h1 h2 => by
        rcases lkB_cons h1 with ⟨e1, _⟩ | ⟨_, h1⟩
        · rcases lkB_cons h2 with ⟨e2, _⟩ | ⟨_, h2⟩
          · exact e1.trans e2.symm
          · cases h2
        · cases h1)
    have hk : lkB (L ++ [(n, b, c, e)]) n = some (b, c, e) := by rw [lkB_append, hn]; simp [lkB]
    refine ⟨[(n, b, c, e)], hA.less hr fun m x hx => ?_, fun Y' w2 h2 => ?_, fun m hm => ?_⟩
    · rw [lkB_append] at hx ⊢
      cases hm : lkB L m with
      | none =>
        rw [hm] at hx
        have hx : lkB [(n, b, c, e)] m = some x := hx
        rw [hx]
      | some y =>
        rw [hm] at hx
        have hne : Nat.beq n m = false := by
          cases hb : Nat.beq n m with
          | false => rfl
          | true => rw [Nat.eq_of_beq_eq_true hb] at hn; rw [hn] at hm; cases hm
        simp [lkB, hne, hx]
    · have : OwnV (L ++ [(n, b, c, e)]) n e (some ⟨b, 0, none⟩) cap xs := .inr ⟨b, c, rfl, hk, hcc, hle, ht⟩
      exact this.cells w2 h2
    · have hne : Nat.beq n m = false := by
        cases hb : Nat.beq n m with
        | false => rfl
        | true => exact absurd (Nat.eq_of_beq_eq_true hb).symm hm
      simp [lkB, hne]
section
variable {P : Program} {G : Cls} {ro : Option Nat} {ops : Array Oper} {N : Nat} {ds : List Deferred} {fs : List Nat} {Z : Fr → Cls → Prop} {F : Fr} {C : Cls} {rest : List Oper}
variable {d : Nat} {ty : TypeId} {pos : String} {af : Array Edge} {gd : Option (Nat × Bool)} {B : Bs} {L : Hl}
theorem take_layV (xs ys c : List Value) (h : xs.length + ys.length ≤ c.length) (hc : c.take xs.length = xs) : (lay xs.length ys c).take (xs.length + ys.length) = xs ++ ys := by
  have h1 : (c.take xs.length).length = xs.length := by rw [hc]
  rw [lay_eq _ _ _ h, List.take_append_of_le_length (by simp; omega), List.take_of_length_le (by simp; omega), hc]
/-- Values appended to a slice of our own. -/
theorem lx_appendV (n : Nat) {t tx e e' : TypeId} {x y : Operand} {a0 : Option Addr} {cap sb so sc by_ : Nat} {xs ys : List Value} {z : Value} (hB : BOk G B) (hx : evF F x = some (.slice a0 xs.length cap)) (hy : evF F y = some (.slice (some ⟨sb, so, none⟩) ys.length sc))
    (hu : P.underlying t = some (.slice e)) (hux : P.underlying tx = some (.slice e')) (hi : TI P e z 1 by_) (hz1 : z.cells.size = 1) (hown : OwnV L n e a0 cap xs) (hsrc : ∀ w, Hp B L w → w.rangeAt sb so ys) (hone : ys.all (·.oneCell') = true) (hne : ys ≠ []) (hlen : (xs.length + ys.length) * by_ ≤ 140737488355328) (h63 : xs.length + ys.length ≤ 4611686018427387904)
    (hw : wantF ops F ⟨some d, .call { callee := .builtin .append, args := #[x, y], argTypes := #[t, tx] }, ty, pos, af, gd⟩ = some true) (hd : Nat.blt d N = true)
    (h : ∀ b c cap1, c.length = cap1 → (xs ++ ys).length ≤ cap1 → c.take (xs ++ ys).length = xs ++ ys → Lx P G ro ops N ds (EE fs) Z rest ((d, .slice (some ⟨b, 0, none⟩) (xs ++ ys).length cap1) :: F) (Hp B ((n, b, c, e) :: L))) :
    Lx P G ro ops N ds (EE fs) Z (⟨some d, .call { callee := .builtin .append, args := #[x, y], argTypes := #[t, tx] }, ty, pos, af, gd⟩ :: rest) F (Hp B L) := by
  obtain ⟨i, hi, hz, hsz, hby⟩ := hi
  refine lx_run rfl hw hd (fun _ h => by cases h) fun a w ha hC => ?_
  have hs : Src P i.size tx (.slice (some ⟨sb, so, none⟩) ys.length sc) ys.length ys w := by
    rw [hsz]
    exact Src.ofSlice w hux ⟨sb, so, none⟩ ys.length sc ys (by simp) (fun j u hu => by rw [Addr.add_mid]; exact hsrc w hC j u hu) (fun u hu => List.all_eq_true.1 hone u hu)
  have run : ∀ {v : Value} {w' : World}, (Builtin.append_ #[t, tx] ty #[.slice a0 xs.length cap, .slice (some ⟨sb, so, none⟩) ys.length sc]).run P w = .ok v w' →
      (execOp a.eval ⟨some d, .call { callee := .builtin .append, args := #[x, y], argTypes := #[t, tx] }, ty, pos, af, gd⟩).run P w = .ok (.value v) w' := fun {v w'} hr => by
    simp only [execOp, resolve, invoke, builtin, Sem.run_bind, Sem.run_pure, Result.andThen_ok, List.map_toArray, List.map_cons, List.map_nil, ha.ev hx, ha.ev hy, hr]
  have len1 : (xs ++ ys).length = xs.length + ys.length := by simp
  rcases Nat.lt_or_ge cap (xs.length + ys.length) with hg | hroom
  · have hold : (Builtin.firstCells i.size xs.length (.slice a0 xs.length cap)).run P w.drew = .ok xs.toArray w.drew := by
      rcases hown with ⟨rfl, rfl, rfl⟩ | ⟨b, c, rfl, hl, hc, hle, ht⟩
      · exact run_firstCells_none _ _ _ _ _
      · refine run_firstCells_some _ _ _ _ _ _ _ (by simp [hsz]) (fun j v hv => ?_)
        rw [Addr.add_mid, Nat.zero_add]
        have hcj : c[j]? = some v := by
          have : (c.take xs.length)[j]? = some v := by rw [ht]; exact hv
          rw [List.getElem?_take] at this
          split at this
          · exact this
          · cases this
        exact hp_cell hl hcj w hC
    have hr := run_append_grow_src (P := P) w t tx ty e i z hu hi hz a0 xs.length cap xs hold (.slice (some ⟨sb, so, none⟩) ys.length sc) ys.length ys hs hg (by omega) (by rw [hby]; exact growslice_fits hg hlen)
    have hge := grownCap_ge w (xs.length + ys.length) cap e
    obtain ⟨cc, hcc⟩ : ∃ cc, xs ++ ys ++ (Builtin.zeroCells z.cells (grownCap w (xs.length + ys.length) cap e - (xs.length + ys.length))).toList = cc := ⟨_, rfl⟩
    have hcl : cc.length = grownCap w (xs.length + ys.length) cap e := by
      rw [← hcc]
      simp only [List.length_append, Array.length_toList, size_zeroCells, hz1]
      omega
    have hct : cc.take (xs ++ ys).length = xs ++ ys := by rw [← hcc, List.take_append_of_le_length (by simp), List.take_of_length_le (by simp)]
    have harr : (xs ++ ys).toArray ++ Builtin.zeroCells z.cells (grownCap w (xs.length + ys.length) cap e - (xs.length + ys.length)) = cc.toArray := by
      rw [← hcc]
      apply Array.ext'
      simp
    rw [harr] at hr
    have hk := h w.heap.size cc _ hcl (by rw [len1]; exact hge) hct
    rw [len1] at hk
    exact ⟨_, _, _, .inl (run hr), good_hp hB, (hC.grow hB.r ((Below.refl _ w).drew)).alloc hB.r n cc e, hk⟩
  · rcases hown with ⟨rfl, rfl, rfl⟩ | ⟨b, c, rfl, hl, hc, hle, ht⟩
    · exfalso
      cases ys with
      | nil => exact hne rfl
      | cons y r => simp at hroom
    · have hb := (hC.own n b c e hl).1
      have hr := run_append_room_src (P := P) w t tx ty e i hu hi b 0 xs.length cap (.slice (some ⟨sb, so, none⟩) ys.length sc) ys.length ys hs hroom
        (fun j hj => by rw [hp_cell hl (List.getElem?_eq_getElem (by rw [hsz]; omega)) w hC]; rfl) (fun j hj => hb.frozen (by rw [hsz]; omega))
      rw [hsz, show 0 + xs.length * 1 = xs.length from by omega] at hr
      refine ⟨_, _, _, .inl (run hr), good_hp hB, Hq.lays hB.r ys hC hl xs.length, ?_⟩
      have hk := h b (lay xs.length ys c) cap (by rw [lay_length]; exact hc) (by rw [len1]; exact hroom) (by rw [len1]; exact take_layV xs ys c (by omega) ht)
      rw [len1] at hk
      exact hk
/-- A slice literal. -/
theorem lx_bslV (n : Nat) (xs : List Value) {t e : TypeId} {len : Nat} {z : Value} {ps : List (Nat × Operand)} (hB : BOk G B) (hx : evL F (ps.map (·.2)) = some xs) (hi : ps.map (·.1) = List.range len) (hn : xs.length = len) (hl : len ≤ 16777216) (h0 : len ≠ 0) (hu : P.underlying t = some (.slice e))
    (hs : ∀ w, (sizeOf e).run P w = .ok 1 w) (hz : ∀ w, (zeroValue e).run P w = .ok z w) (hone : xs.all (·.oneCell') = true) (hw : wantF ops F ⟨some d, .buildSlice t len ps.toArray, ty, pos, af, gd⟩ = some true) (hd : Nat.blt d N = true)
    (h : ∀ b, Lx P G ro ops N ds (EE fs) Z rest ((d, .slice (some ⟨b, 0, none⟩) xs.length xs.length) :: F) (Hp B ((n, b, xs, e) :: L))) : Lx P G ro ops N ds (EE fs) Z (⟨some d, .buildSlice t len ps.toArray, ty, pos, af, gd⟩ :: rest) F (Hp B L) := by
  refine lx_run rfl hw hd (fun _ h => by cases h) fun a w ha hC => ?_
  refine ⟨.slice (some ⟨w.heap.size, 0, none⟩) xs.length xs.length, w.alloc (.cells xs.toArray e), _, .inl ?_, good_hp hB, hC.alloc hB.r n xs e, h w.heap.size⟩
  have e1 : (ps.toArray.map fun (i, x) => (i, a.eval x)) = ((List.range len).zip xs).toArray := by
    rw [← hi, ← ha.evL hx, List.map_toArray, List.map_map, List.zip_map']
    rfl
  have hf := fill_row xs 0 ((Array.range (len * 1)).map (z.cells[· % z.cells.size]!)).toList (by simp [hn]) hone
  rw [lay_all _ _ (by simp [hn]), ← List.range_eq_range', hn] at hf
  simp only [Array.toArray_toList] at hf
  have hlt : ¬ (len * 1 > 2 ^ 24) := by omega
  show ((do pure (.value (← Instr.buildSlice t len (ps.toArray.map fun (i, x) => (i, a.eval x)))) : Sem Next)).run P w = _
  rw [e1]
  have hb : (Instr.buildSlice t len ((List.range len).zip xs).toArray).run P w = .ok (.slice (some ⟨w.heap.size, 0, none⟩) len len) (w.alloc (.cells xs.toArray e)) := by
    have h00 : ¬ (len * 1 = 0) := by omega
    simp only [Instr.buildSlice, Sem.run_bind, run_underlying hu, Result.andThen_ok, hs, if_neg hlt, if_neg h00, hz, Sem.run_pure, hf]
    simp [newRow]
  rw [hn]
  simp only [Sem.run_bind, hb, Result.andThen_ok]; rfl
end
end Go.Proofs.Yteohckfbphdngaa
