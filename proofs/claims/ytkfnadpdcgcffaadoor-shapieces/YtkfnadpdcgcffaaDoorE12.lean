/-
  The engine, part 12: append; slices that are made.
-/
import Derived.Test.YtkfnadpdcgcffaaDoorE11
import Derived.Deep.AppendSrc
namespace Go.Proofs.YtkfnadpdcgcffaaDoor
open Go.RowKit

/-- What is known of a type. -/
def TI (P : Program) (e : TypeId) (z : Value) (size bytes : Nat) : Prop := ∃ i, P.info? e = some i ∧ i.zero = some z ∧ i.size = size ∧ i.bytes = bytes
theorem ti_mk {P : Program} {e : TypeId} {z : Value} {size bytes : Nat} (h : (P.info? e).map (fun i => (i.zero, i.size, i.bytes)) = some (some z, size, bytes)) : TI P e z size bytes := by
  cases hq : P.info? e with
  | none => simp [hq] at h
  | some i => simp [hq] at h; exact ⟨i, hq ▸ rfl, h.1, h.2.1, h.2.2⟩

/-- A slice of bytes of our own, or nil. -/
def OwnSl (L : Hl) (n : Nat) (e : TypeId) (a0 : Option Addr) (cap : Nat) (xs : List (BitVec 8)) : Prop :=
  (a0 = none ∧ xs = [] ∧ cap = 0) ∨ ∃ b c, a0 = some ⟨b, 0, none⟩ ∧ lkB L n = some (b, c, e) ∧ c.length = cap ∧ xs.length ≤ cap ∧ c.take xs.length = xs.map U8
theorem ownSl_nil (L : Hl) (n : Nat) (e : TypeId) : OwnSl L n e none 0 [] := .inl ⟨rfl, rfl, rfl⟩

theorem take_lay (xs ys : List (BitVec 8)) (c : List Value) (h : xs.length + ys.length ≤ c.length) (hc : c.take xs.length = xs.map U8) : (lay xs.length (ys.map U8) c).take (xs.length + ys.length) = (xs ++ ys).map U8 := by
  rw [lay_eq _ _ _ (by simpa using h), List.map_append, List.take_append_of_le_length (by simp; omega), List.take_of_length_le (by simp; omega), hc]

section
variable {P : Program} {G : Cls} {ro : Option Nat} {ops : Array Oper} {N : Nat} {ds : List Deferred} {fs : List Nat} {Z : Fr → Cls → Prop} {F : Fr} {C : Cls} {rest : List Oper}
variable {d : Nat} {ty : TypeId} {pos : String} {af : Array Edge} {gd : Option (Nat × Bool)} {B : Bs} {L : Hl}

theorem src_bytes {w : World} {tx e' : TypeId} (hk : P.underlying tx = some (.slice e')) {sa : Option Addr} {sc : Nat} {ys : List (BitVec 8)} (h : BytesAt w sa ys) : Src P 1 tx (.slice sa ys.length sc) ys.length (ys.map U8) w := by
  cases sa with
  | some ad => exact Src.ofSlice w hk ad ys.length sc (ys.map U8) (by simp) (fun j u hu => by obtain ⟨ad', e, hc⟩ := h j u hu; cases e; exact hc) (fun u hu => by
      obtain ⟨x, _, rfl⟩ := List.mem_map.1 hu
      rfl)
  | none =>
    have : ys = [] := by
      cases ys with
      | nil => rfl
      | cons x r => obtain ⟨_, e, _⟩ := h 0 (U8 x) (by simp); cases e
    subst this
    exact Src.ofNil w hk sc

/-- Bytes appended to a slice of our own. -/
theorem lx_append (n : Nat) {t tx e e' : TypeId} {x y : Operand} {a0 sa : Option Addr} {cap sc : Nat} {xs ys : List (BitVec 8)} (hB : BOk G B) (hx : evF F x = some (.slice a0 xs.length cap)) (hy : evF F y = some (.slice sa ys.length sc))
    (hu : P.underlying t = some (.slice e)) (hux : P.underlying tx = some (.slice e')) (hi : TI P e (.int .u8 0) 1 1) (hown : OwnSl L n e a0 cap xs) (hsrc : ∀ w, Hp B L w → BytesAt w sa ys) (hlen : xs.length + ys.length ≤ 70368744177664)
    (hw : wantF ops F ⟨some d, .call { callee := .builtin .append, args := #[x, y], argTypes := #[t, tx] }, ty, pos, af, gd⟩ = some true) (hd : Nat.blt d N = true)
    (h0 : xs ++ ys = [] → Lx P G ro ops N ds (EE fs) Z rest ((d, .slice none 0 0) :: F) (Hp B L))
    (h : ∀ b c cap1, c.length = cap1 → (xs ++ ys).length ≤ cap1 → c.take (xs ++ ys).length = (xs ++ ys).map U8 → Lx P G ro ops N ds (EE fs) Z rest ((d, .slice (some ⟨b, 0, none⟩) (xs ++ ys).length cap1) :: F) (Hp B ((n, b, c, e) :: L))) :
    Lx P G ro ops N ds (EE fs) Z (⟨some d, .call { callee := .builtin .append, args := #[x, y], argTypes := #[t, tx] }, ty, pos, af, gd⟩ :: rest) F (Hp B L) := by
  obtain ⟨i, hi, hz, hsz, hby⟩ := hi
  refine lx_run rfl hw hd (fun _ h => by cases h) fun a w ha hC => ?_
  have hs : Src P i.size tx (.slice sa ys.length sc) ys.length (ys.map U8) w := by rw [hsz]; exact src_bytes hux (hsrc w hC)
  have run : ∀ {v : Value} {w' : World}, (Builtin.append_ #[t, tx] ty #[.slice a0 xs.length cap, .slice sa ys.length sc]).run P w = .ok v w' →
      (execOp a.eval ⟨some d, .call { callee := .builtin .append, args := #[x, y], argTypes := #[t, tx] }, ty, pos, af, gd⟩).run P w = .ok (.value v) w' := fun {v w'} hr => by
    simp only [execOp, resolve, invoke, builtin, Sem.run_bind, Sem.run_pure, Result.andThen_ok, List.map_toArray, List.map_cons, List.map_nil, ha.ev hx, ha.ev hy, hr]
  have len1 : (xs ++ ys).length = xs.length + ys.length := by simp
  rcases Nat.lt_or_ge cap (xs.length + ys.length) with hg | hroom
  · have hold : (Builtin.firstCells i.size xs.length (.slice a0 xs.length cap)).run P w.drew = .ok (xs.map U8).toArray w.drew := by
      rcases hown with ⟨rfl, rfl, rfl⟩ | ⟨b, c, rfl, hl, hc, hle, ht⟩
      · exact run_firstCells_none _ _ _ _ _
      · refine run_firstCells_some _ _ _ _ _ _ _ (by simp [hsz]) (fun j v hv => ?_)
        rw [Addr.add_mid, Nat.zero_add]
        have hcj : c[j]? = some v := by
          have : (c.take xs.length)[j]? = some v := by rw [ht]; exact hv
          rw [List.getElem?_take] at this
          split at this
          · exact this
          · cases this
        exact hp_cell hl hcj w hC
    have hr := run_append_grow_src (P := P) w t tx ty e i (.int .u8 0) hu hi hz a0 xs.length cap (xs.map U8) hold (.slice sa ys.length sc) ys.length (ys.map U8) hs hg (by omega) (by rw [hby]; exact growslice_fits hg (by omega))
    have hge := grownCap_ge w (xs.length + ys.length) cap e
    obtain ⟨cc, hcc⟩ : ∃ cc, (xs ++ ys).map U8 ++ (Builtin.zeroCells (Value.int .u8 0).cells (grownCap w (xs.length + ys.length) cap e - (xs.length + ys.length))).toList = cc := ⟨_, rfl⟩
    have hcl : cc.length = grownCap w (xs.length + ys.length) cap e := by
      rw [← hcc]
      simp only [List.length_append, List.length_map, Array.length_toList, size_zeroCells]
      show _ + _ * 1 = _
      omega
    have hct : cc.take (xs ++ ys).length = (xs ++ ys).map U8 := by rw [← hcc, List.take_append_of_le_length (by simp), List.take_of_length_le (by simp)]
    have harr : (xs.map U8 ++ ys.map U8).toArray ++ Builtin.zeroCells (Value.int .u8 0).cells (grownCap w (xs.length + ys.length) cap e - (xs.length + ys.length)) = cc.toArray := by
      rw [← hcc]
      apply Array.ext'
      simp
    rw [harr] at hr
    have hk := h w.heap.size cc _ hcl (by rw [len1]; exact hge) hct
    rw [len1] at hk
    exact ⟨_, _, _, .inl (run hr), good_hp hB, (hC.grow hB.r ((Below.refl _ w).drew)).alloc hB.r n cc e, hk⟩
  · rcases hown with ⟨rfl, rfl, rfl⟩ | ⟨b, c, rfl, hl, hc, hle, ht⟩
    · have hy0 : ys = [] := by
        cases ys with
        | nil => rfl
        | cons y r => simp at hroom
      subst hy0
      have hr : (Builtin.append_ #[t, tx] ty #[.slice none 0 0, .slice sa 0 sc]).run P w = .ok (.slice none 0 0) w := by
        have hl0 := hs.len w
        have hc0 := hs.cells
        simp at hl0 hc0
        simp [Builtin.append_, run_underlying hu, run_underlying hux, sizeOf, typeInfo, hi, hl0, hc0]
      exact ⟨_, _, _, .inl (run hr), good_hp hB, hC, h0 rfl⟩
    · have hb := (hC.own n b c e hl).1
      have hr := run_append_room_src (P := P) w t tx ty e i hu hi b 0 xs.length cap (.slice sa ys.length sc) ys.length (ys.map U8) hs hroom
        (fun j hj => by rw [hp_cell hl (List.getElem?_eq_getElem (by simp at hj; rw [hsz]; omega)) w hC]; rfl) (fun j hj => hb.frozen (by simp at hj; rw [hsz]; omega))
      rw [hsz, show 0 + xs.length * 1 = xs.length from by omega] at hr
      refine ⟨_, _, _, .inl (run hr), good_hp hB, Hq.lays hB.r (ys.map U8) hC hl xs.length, ?_⟩
      have hk := h b (lay xs.length (ys.map U8) c) cap (by rw [lay_length]; exact hc) (by rw [len1]; exact hroom) (by rw [len1]; exact take_lay xs ys c (by omega) ht)
      rw [len1] at hk
      exact hk
/-- A slice of our own reads as its bytes. -/
theorem OwnSl.bytes {n : Nat} {e : TypeId} {a0 : Option Addr} {cap : Nat} {xs : List (BitVec 8)} (h : OwnSl L n e a0 cap xs) {Y : Nat → Prop} : ∀ w, Hq B L Y w → BytesAt w a0 xs := fun w hC => by
  rcases h with ⟨rfl, rfl, rfl⟩ | ⟨b, c, rfl, hl, hc, hle, ht⟩
  · exact bytes_nil w none
  · refine BytesAt.range fun j v hv => ?_
    rw [Nat.zero_add]
    have hcj : c[j]? = some v := by
      have : (c.take xs.length)[j]? = some v := by rw [ht]; exact hv
      rw [List.getElem?_take] at this
      split at this
      · exact this
      · cases this
    exact hp_cell hl hcj w hC
theorem OwnSl.le {n : Nat} {e : TypeId} {a0 : Option Addr} {cap : Nat} {xs : List (BitVec 8)} (h : OwnSl L n e a0 cap xs) : xs.length ≤ cap := by
  rcases h with ⟨rfl, rfl, rfl⟩ | ⟨_, _, _, _, _, h, _⟩
  · exact Nat.le_refl _
  · exact h
/-- An empty slice literal. -/
theorem lx_bs0 (n : Nat) {t e : TypeId} (hB : BOk G B) (hu : P.underlying t = some (.slice e)) (hs : ∀ w, (sizeOf e).run P w = .ok 1 w)
    (hw : wantF ops F ⟨some d, .buildSlice t 0 #[], ty, pos, af, gd⟩ = some true) (hd : Nat.blt d N = true)
    (h : ∀ b, Lx P G ro ops N ds (EE fs) Z rest ((d, .slice (some ⟨b, 0, none⟩) 0 0) :: F) (Hp B ((n, b, [], e) :: L))) : Lx P G ro ops N ds (EE fs) Z (⟨some d, .buildSlice t 0 #[], ty, pos, af, gd⟩ :: rest) F (Hp B L) := by
  refine lx_run rfl hw hd (fun _ h => by cases h) fun a w _ hC => ?_
  refine ⟨.slice (some ⟨w.heap.size, 0, none⟩) 0 0, w.alloc (.cells #[] e), _, .inl ?_, good_hp hB, hC.alloc hB.r n [] e, h w.heap.size⟩
  simp only [execOp, List.map_toArray, List.map_nil]
  simp [Instr.buildSlice, run_underlying hu, hs, Instr.fill, newRow, Array.range]
/-- The bytes of a constant string. -/
theorem lx_str (n : Nat) {s t e : TypeId} {x : Operand} {st : ByteArray} {xs : List (BitVec 8)} (hf : fs.any (Nat.beq (1000000 + t)) = true) (hB : BOk G B) (hx : evF F x = some (.string st)) (hus : P.underlying s = some .string) (hu : P.underlying t = some (.slice e)) (hue : P.underlying e = some (.int .u8))
    (hst : st.data.toList = xs.map (fun x => UInt8.ofBitVec x))
    (hw : wantF ops F ⟨some d, .convert s t x, ty, pos, af, gd⟩ = some true) (hd : Nat.blt d N = true)
    (h : ∀ b c cap, c.length = cap → xs.length ≤ cap → c.take xs.length = xs.map U8 → Lx P G ro ops N ds (EE fs) Z rest ((d, .slice (some ⟨b, 0, none⟩) xs.length cap) :: F) (Hp B ((n, b, c, e) :: L))) : Lx P G ro ops N ds (EE fs) Z (⟨some d, .convert s t x, ty, pos, af, gd⟩ :: rest) F (Hp B L) := by
  refine lx_run hf hw hd (fun _ h => by cases h) fun a w ha hC => ?_
  have hge := grownCap_ge w st.size 0 e
  have hsz : st.size = xs.length := by
    have : st.data.toList.length = xs.length := by rw [hst, List.length_map]
    rw [← this, Array.length_toList]; rfl
  obtain ⟨cc, hcc⟩ : ∃ cc, xs.map U8 ++ List.replicate (grownCap w st.size 0 e - st.size) (Value.int .u8 0) = cc := ⟨_, rfl⟩
  have hcl : cc.length = grownCap w st.size 0 e := by
    rw [← hcc]; simp; omega
  have hct : cc.take xs.length = xs.map U8 := by rw [← hcc, List.take_append_of_le_length (by simp), List.take_of_length_le (by simp)]
  have harr : (st.data.map fun b => Value.int .u8 b.toNat) ++ Array.replicate (grownCap w st.size 0 e - st.size) (Value.int .u8 0) = cc.toArray := by
    rw [← hcc]
    apply Array.ext'
    simp only [Array.toList_append, Array.toList_map, hst, List.map_map, Array.toList_replicate]
    rfl
  have hk := h w.heap.size cc _ hcl (by omega) hct
  have hw1 : Hp B ((n, w.heap.size, cc, e) :: L) (w.drew.alloc (.cells cc.toArray e)) := (hC.grow hB.r ((Below.refl _ w).drew)).alloc hB.r n cc e
  have hh : (w.drew.alloc (.cells cc.toArray e)).heap[w.heap.size]? = some (.cells cc.toArray e) := heap_alloc_new w.drew _
  have ht : TurnAt w.heap.size (w.drew.alloc (.cells cc.toArray e)) ((w.drew.alloc (.cells cc.toArray e)).freeze ⟨w.heap.size, cc.length, none⟩ 1) := ⟨rfl, rfl, rfl, by simp [World.freeze], fun k hk => by simp [World.freeze, Array.getElem?_modify, Ne.symm hk]⟩
  have ho : OwnB ((w.drew.alloc (.cells cc.toArray e)).freeze ⟨w.heap.size, cc.length, none⟩ 1) w.heap.size cc e := ⟨(cc.length, cc.length + 1), by
    rw [World.freeze, if_neg (by decide)]
    show (Array.modify (w.drew.alloc (.cells cc.toArray e)).heap w.heap.size _)[w.heap.size]? = _
    rw [Array.getElem?_modify, if_pos rfl, hh]
    simp, .inr (Nat.le_refl _)⟩
  have hw2 := hw1.turn hB.r (n := n) (b := w.heap.size) (c := cc) (t := e) (by simp [lkB]) cc ht ho
  refine ⟨.slice (some ⟨w.heap.size, 0, none⟩) xs.length (grownCap w st.size 0 e), _, _, .inl ?_, good_hp hB, hw2.less hB.r ?_, hk⟩
  · simp only [execOp, ha.ev hx, convert, Sem.run_bind, run_underlying hus, run_underlying hu, run_underlying hue, Result.andThen_ok]
    have hsh : (w.drew.alloc (.cells cc.toArray e)).shape? w.heap.size = some (e, cc.length) := by simp only [World.shape?, hh]; simp
    have e1 : (Question.appendCap st.size 0 e).cut (w.tape w.drawn (.appendCap st.size 0 e)) = grownCap w st.size 0 e := rfl
    rw [← hsz]
    simp [Conv.stringToBytes, Question.forced, newRow, e1, harr, markStringish, hsh]
  · intro m y hy
    rcases lkB_cons hy with ⟨rfl, rfl⟩ | ⟨hne, hy⟩
    · simp [lkB]
    · have hb : Nat.beq n m = false := by
        cases hb : Nat.beq n m with
        | false => rfl
        | true => exact absurd (Nat.eq_of_beq_eq_true hb).symm hne
      simp [lkB, hb, hy]
/-- A slice literal. -/
theorem lx_bsl (n : Nat) (xs : List (BitVec 8)) {t e : TypeId} {len : Nat} {ps : List (Nat × Operand)} (hB : BOk G B) (hx : evL F (ps.map (·.2)) = some (xs.map U8)) (hi : ps.map (·.1) = List.range len) (hn : xs.length = len) (hl : len ≤ 16777216) (h0 : len ≠ 0) (hu : P.underlying t = some (.slice e))
    (hs : ∀ w, (sizeOf e).run P w = .ok 1 w) (hz : ∀ w, (zeroValue e).run P w = .ok (.int .u8 0) w) (hw : wantF ops F ⟨some d, .buildSlice t len ps.toArray, ty, pos, af, gd⟩ = some true) (hd : Nat.blt d N = true)
    (h : ∀ b, Lx P G ro ops N ds (EE fs) Z rest ((d, .slice (some ⟨b, 0, none⟩) xs.length xs.length) :: F) (Hp B ((n, b, xs.map U8, e) :: L))) : Lx P G ro ops N ds (EE fs) Z (⟨some d, .buildSlice t len ps.toArray, ty, pos, af, gd⟩ :: rest) F (Hp B L) := by
  refine lx_run rfl hw hd (fun _ h => by cases h) fun a w ha hC => ?_
  refine ⟨.slice (some ⟨w.heap.size, 0, none⟩) xs.length xs.length, w.alloc (.cells (xs.map U8).toArray e), _, .inl ?_, good_hp hB, hC.alloc hB.r n (xs.map U8) e, h w.heap.size⟩
  have e1 : (ps.toArray.map fun (i, x) => (i, a.eval x)) = ((List.range len).zip (xs.map U8)).toArray := by
    rw [← hi, ← ha.evL hx, List.map_toArray, List.map_map, List.zip_map']
    rfl
  have hz1 : (Value.int .u8 0).cells = #[Value.int .u8 0] := rfl
  have hf := fill_row (xs.map U8) 0 ((Array.range (len * 1)).map ((Value.int .u8 0).cells[· % (Value.int .u8 0).cells.size]!)).toList (by simp [hn]) (one_u8 xs)
  rw [lay_all _ _ (by simp [hn]), ← List.range_eq_range', List.length_map, hn] at hf
  simp only [Array.toArray_toList] at hf
  have hlt : ¬ (len * 1 > 2 ^ 24) := by omega
  show ((do pure (.value (← Instr.buildSlice t len (ps.toArray.map fun (i, x) => (i, a.eval x)))) : Sem Next)).run P w = _
  rw [e1]
  have hb : (Instr.buildSlice t len ((List.range len).zip (xs.map U8)).toArray).run P w = .ok (.slice (some ⟨w.heap.size, 0, none⟩) len len) (w.alloc (.cells (xs.map U8).toArray e)) := by
    have h00 : ¬ (len * 1 = 0) := by omega
    simp only [Instr.buildSlice, Sem.run_bind, run_underlying hu, Result.andThen_ok, hs, if_neg hlt, if_neg h00, hz, Sem.run_pure, hf]
    simp [newRow]
  rw [hn]
  simp only [Sem.run_bind, hb, Result.andThen_ok]; rfl
/-- A slice of bytes of our own is taken for a string's. -/
theorem lx_cvs (n : Nat) {t e : TypeId} {x : Operand} {b len cap : Nat} {c : List Value} (hf : fs.any (Nat.beq (1000000 + t)) = true) (hB : BOk G B) (hx : evF F x = some (.slice (some ⟨b, 0, none⟩) len cap)) (hl : lkB L n = some (b, c, e)) (hu : P.underlying t = some (.slice e)) (hue : P.underlying e = some (.int .u8))
    (hw : wantF ops F ⟨some d, .convert t t x, ty, pos, af, gd⟩ = some true) (hd : Nat.blt d N = true)
    (h : Lx P G ro ops N ds (EE fs) Z rest ((d, .slice (some ⟨b, 0, none⟩) len cap) :: F) (Hp B L)) : Lx P G ro ops N ds (EE fs) Z (⟨some d, .convert t t x, ty, pos, af, gd⟩ :: rest) F (Hp B L) := by
  refine lx_run hf hw hd (fun _ h => by cases h) fun a w ha hC => ?_
  obtain ⟨fz, h1, h2⟩ := (hC.own n b c e hl).1
  have ht : TurnAt b w (w.freeze ⟨b, c.length, none⟩ 1) := ⟨rfl, rfl, rfl, by simp [World.freeze], fun k hk => by simp [World.freeze, Array.getElem?_modify, Ne.symm hk]⟩
  have ho : OwnB (w.freeze ⟨b, c.length, none⟩ 1) b c e := ⟨if fz.1 == fz.2 then (c.length, c.length + 1) else (min fz.1 c.length, max fz.2 (c.length + 1)), by
    rw [World.freeze, if_neg (by decide)]
    show (Array.modify w.heap b _)[b]? = _
    rw [Array.getElem?_modify, if_pos rfl, h1]
    simp, by
    right
    rcases h2 with rfl | h2
    · simp
    · split
      · exact Nat.le_refl _
      · show c.length ≤ min fz.1 c.length
        omega⟩
  have hw2 := hC.turn hB.r hl c ht ho
  refine ⟨_, _, _, .inl ?_, good_hp hB, hw2.less hB.r ?_, h⟩
  · have hsh : w.shape? b = some (e, c.length) := by simp only [World.shape?, h1]; simp
    simp only [execOp, ha.ev hx, convert, Sem.run_bind, run_underlying hu, run_underlying hue, Result.andThen_ok]
    simp [markStringish, hsh]
  · intro m y hy
    by_cases hm : m = n
    · subst hm
      rw [hl] at hy
      cases hy
      simp [lkB]
    · have hb : Nat.beq n m = false := by
        cases hb : Nat.beq n m with
        | false => rfl
        | true => exact absurd (Nat.eq_of_beq_eq_true hb).symm hm
      simp [lkB, hb, hy]
end
end Go.Proofs.YtkfnadpdcgcffaaDoor
