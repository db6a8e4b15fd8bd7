/-
  The engine, part 8: rows in a short form.
-/
import Derived.Test.YtkfnadpdcgcffaaDoorE7
namespace Go.Proofs.YtkfnadpdcgcffaaDoor
open Go.RowKit
section
variable {P : Program} {G : Cls} {ro : Option Nat} {ops : Array Oper} {N : Nat} {ds : List Deferred} {fs : List Nat} {Z : Fr → Cls → Prop} {F : Fr} {C : Cls} {rest : List Oper}
variable {d : Nat} {ty : TypeId} {pos : String} {af : Array Edge} {gd : Option (Nat × Bool)}
variable {B : Bs} {L : Hl}
theorem lx_allocr (n : Nat) {t : TypeId} {l : List Value} (hG : BOk G B) (hz : ∀ w, (zeroValue t).run P w = .ok (.agg l.toArray) w) (hw : wantF ops F ⟨some d, .alloc t, ty, pos, af, gd⟩ = some true) (hd : Nat.blt d N = true)
    (h : ∀ b, Lx P G ro ops N ds (EE fs) Z rest ((d, .pointer (some ⟨b, 0, none⟩)) :: F) (Hp B ((n, b, l, t) :: L))) : Lx P G ro ops N ds (EE fs) Z (⟨some d, .alloc t, ty, pos, af, gd⟩ :: rest) F (Hp B L) :=
  lx_alloc n hG hz hw hd h
theorem lx_boxr (n : Nat) {t : TypeId} {x : Operand} {l : List Value} (hG : BOk G B) (hx : evF F x = some (.agg l.toArray)) (hw : wantF ops F ⟨some d, .box t x, ty, pos, af, gd⟩ = some true) (hd : Nat.blt d N = true)
    (h : ∀ b, Lx P G ro ops N ds (EE fs) Z rest ((d, .pointer (some ⟨b, 0, none⟩)) :: F) (Hp B ((n, b, l, t) :: L))) : Lx P G ro ops N ds (EE fs) Z (⟨some d, .box t x, ty, pos, af, gd⟩ :: rest) F (Hp B L) :=
  lx_box n hG hx hw hd h
/-- A whole variable written. -/
theorem lx_storea (n : Nat) {t et : TypeId} {x y : Operand} {b m : Nat} {c : List Value} {vs : List Value} (hG : BOk G B) (hx : evF F x = some (.pointer (some ⟨b, 0, none⟩))) (hy : evF F y = some (.agg vs.toArray)) (hl : lkB L n = some (b, c, et))
    (hs : ∀ w, (sizeOf t).run P w = .ok m w) (hm : vs.length = m) (hc : c.length = m) (hv : vs.all (·.oneCell') = true) (hw : wantF ops F ⟨none, .store t x y, ty, pos, af, gd⟩ = some true)
    (h : Lx P G ro ops N ds (EE fs) Z rest F (Hp B ((n, b, vs, et) :: L))) : Lx P G ro ops N ds (EE fs) Z (⟨none, .store t x y, ty, pos, af, gd⟩ :: rest) F (Hp B L) :=
  lx_storer n hG hx hy hl hs hm hv (by omega) hw (by rw [lay_all vs c (by omega)]; exact h)
/-- One number written into a row of encoded numbers. -/
theorem lx_storem (n : Nat) {α : Type} (f : α → Value) {t et : TypeId} {x y : Operand} {b o : Nat} {xs : List α} {v : α} (hG : BOk G B) (hx : evF F x = some (.pointer (some ⟨b, o, none⟩))) (hy : evF F y = some (f v)) (hl : lkB L n = some (b, xs.map f, et))
    (hs : ∀ w, (sizeOf t).run P w = .ok 1 w) (hv : (f v).oneCell' = true) (ho : o < xs.length) (hw : wantF ops F ⟨none, .store t x y, ty, pos, af, gd⟩ = some true)
    (h : Lx P G ro ops N ds (EE fs) Z rest F (Hp B ((n, b, (xs.set o v).map f, et) :: L))) : Lx P G ro ops N ds (EE fs) Z (⟨none, .store t x y, ty, pos, af, gd⟩ :: rest) F (Hp B L) :=
  lx_store n hG hx hy hl hs hv (by simpa using ho) hw (by rw [set_map]; exact h)
/-- One number read out of a row of encoded numbers. -/
theorem lx_loadm (n : Nat) {α : Type} (f : α → Value) (z : α) {t et : TypeId} {x : Operand} {b o : Nat} {xs : List α} (hx : evF F x = some (.pointer (some ⟨b, o, none⟩))) (hl : lkB L n = some (b, xs.map f, et)) (hag : ∀ w, (isAgg t).run P w = .ok false w) (ho : o < xs.length)
    (hw : wantF ops F ⟨some d, .load t x, ty, pos, af, gd⟩ = some true) (hd : Nat.blt d N = true)
    (h : Lx P G ro ops N ds (EE fs) Z rest ((d, f (xs.getD o z)) :: F) (Hp B L)) : Lx P G ro ops N ds (EE fs) Z (⟨some d, .load t x, ty, pos, af, gd⟩ :: rest) F (Hp B L) :=
  lx_load hx hag (hp_cell (n := n) hl (gm f xs z o ho)) hw hd h
theorem lx_loadl (n : Nat) {t et : TypeId} {x : Operand} {b o : Nat} {c : List Value} {v : Value} (hx : evF F x = some (.pointer (some ⟨b, o, none⟩))) (hl : lkB L n = some (b, c, et)) (hv : c[o]? = some v) (hag : ∀ w, (isAgg t).run P w = .ok false w)
    (hw : wantF ops F ⟨some d, .load t x, ty, pos, af, gd⟩ = some true) (hd : Nat.blt d N = true)
    (h : Lx P G ro ops N ds (EE fs) Z rest ((d, v) :: F) (Hp B L)) : Lx P G ro ops N ds (EE fs) Z (⟨some d, .load t x, ty, pos, af, gd⟩ :: rest) F (Hp B L) :=
  lx_load hx hag (hp_cell (n := n) hl hv) hw hd h
/-- A whole variable read. -/
theorem lx_loada (n : Nat) {t et : TypeId} {x : Operand} {b m : Nat} {c : List Value} (hx : evF F x = some (.pointer (some ⟨b, 0, none⟩))) (hl : lkB L n = some (b, c, et)) (hag : ∀ w, (isAgg t).run P w = .ok true w) (hs : ∀ w, (sizeOf t).run P w = .ok m w) (hm : c.length = m)
    (hw : wantF ops F ⟨some d, .load t x, ty, pos, af, gd⟩ = some true) (hd : Nat.blt d N = true)
    (h : Lx P G ro ops N ds (EE fs) Z rest ((d, .agg c.toArray) :: F) (Hp B L)) : Lx P G ro ops N ds (EE fs) Z (⟨some d, .load t x, ty, pos, af, gd⟩ :: rest) F (Hp B L) :=
  lx_loadr hx hag hs hm (hp_row (n := n) hl) hw hd h
/-- An element of an array value of encoded numbers. -/
theorem lx_idxm {α : Type} (f : α → Value) (z : α) (k : Nat) {t e : TypeId} {len : Nat} {x ix : Operand} {xs : List α} {i : Int} (hx : evF F x = some (.agg (xs.map f).toArray)) (hi : evF F ix = some (I i)) (hu : P.underlying t = some (.array len e))
    (hs : ∀ w, (sizeOf e).run P w = .ok 1 w) (hag : ∀ w, (isAgg e).run P w = .ok false w) (hk : i = (k : Int)) (hb : k < len) (hl : xs.length = len) (hw : wantF ops F ⟨some d, .index t x ix, ty, pos, af, gd⟩ = some true) (hd : Nat.blt d N = true)
    (h : Lx P G ro ops N ds (EE fs) Z rest ((d, f (xs.getD k z)) :: F) C) : Lx P G ro ops N ds (EE fs) Z (⟨some d, .index t x ix, ty, pos, af, gd⟩ :: rest) F C :=
  lx_idx hx hi hu hs hag (by omega) (by rw [show i.toNat = k from by omega]; exact gma f xs z k (by omega)) hw hd h
theorem fill_row : ∀ (vs : List Value) (k : Nat) (c : List Value), k + vs.length ≤ c.length → vs.all (·.oneCell') = true → Instr.fill (fun i => some (i * 1, 1)) c.toArray ((List.range' k vs.length).zip vs) = some (lay k vs c).toArray
  | [], _, _, _, _ => by simp [Instr.fill, lay]
  | v :: r, k, c, h, hv => by
    simp only [List.all_cons, Bool.and_eq_true] at hv
    simp at h
    have hcs : v.cells = #[v] := by cases v <;> first | rfl | simp [Value.oneCell'] at hv
    have ih := fill_row r (k + 1) (c.set k v) (by simp; omega) hv.2
    simp only [List.length_cons, List.range'_succ, List.zip_cons_cons, Instr.fill, hcs, lay]
    rw [if_neg (by simp; omega)]
    rw [← ih]
    congr 1
    simp
theorem run_build_row {t e : TypeId} {n len : Nat} {z : List Value} (hu : P.underlying t = some (.array len e)) (hs : ∀ w, (sizeOf e).run P w = .ok 1 w) (hz : ∀ w, (zeroValue t).run P w = .ok (.agg z.toArray) w) (vs : List Value) (hn : vs.length = n) (hl : z.length = n)
    (hv : vs.all (·.oneCell') = true) (w : World) : (Instr.build t ((List.range n).zip vs).toArray).run P w = .ok (.agg vs.toArray) w := by
  have h := fill_row vs 0 z (by omega) hv
  rw [lay_all vs z (by omega), ← List.range_eq_range', hn] at h
  simp only [Nat.mul_one] at h
  simp [Instr.build, hz, run_underlying hu, hs, Value.cells, h]
/-- An array made of its elements. -/
theorem lx_buildr {t e : TypeId} {n len : Nat} {z : List Value} {ps : List (Nat × Operand)} {vs : List Value} (hx : evL F (ps.map (·.2)) = some vs) (hi : ps.map (·.1) = List.range n) (hu : P.underlying t = some (.array len e)) (hs : ∀ w, (sizeOf e).run P w = .ok 1 w)
    (hz : ∀ w, (zeroValue t).run P w = .ok (.agg z.toArray) w) (hn : (Nat.beq vs.length n && Nat.beq z.length n) = true) (hv : vs.all (·.oneCell') = true)
    (hw : wantF ops F ⟨some d, .build t ps.toArray, ty, pos, af, gd⟩ = some true) (hd : Nat.blt d N = true)
    (h : Lx P G ro ops N ds (EE fs) Z rest ((d, .agg vs.toArray) :: F) C) : Lx P G ro ops N ds (EE fs) Z (⟨some d, .build t ps.toArray, ty, pos, af, gd⟩ :: rest) F C := by
  simp only [Bool.and_eq_true] at hn
  exact lx_build hx (fun w => by rw [hi]; exact run_build_row hu hs hz vs (Nat.eq_of_beq_eq_true hn.1) (Nat.eq_of_beq_eq_true hn.2) hv w) hw hd h
theorem kret_own (n : Nat) {fn : Func} {R : Ending → World → Prop} {t : Nat} {T et : TypeId} {b m : Nat} {c : List Value} (hr : fn.results = #[.cell t T]) (hv : lk F t = some (.pointer (some ⟨b, 0, none⟩))) (hl : lkB L n = some (b, c, et))
    (hag : ∀ w, (isAgg T).run P w = .ok true w) (hs : ∀ w, (sizeOf T).run P w = .ok m w) (hm : c.length = m) (h : ∀ w, Hp B L w → R (.returned (.agg c.toArray)) w) : Kret P fn R .ret [] F (Hp B L) :=
  kret_cell hr hv hag hs hm (hp_row (n := n) hl) h
end
end Go.Proofs.YtkfnadpdcgcffaaDoor
