/-
  More on bytes that lie wherever; the builtin min.
-/
import Derived.Test.YteohckfbphdngaaE14
namespace Go.Proofs.Yteohckfbphdngaa
open Go.RowKit
theorem BytesAt.cut {w : World} {a : Option Addr} {rs : List (BitVec 8)} (h : BytesAt w a rs) {cap : Nat} (l k : Nat) (hc : rs.length ≤ cap) : BytesAt w (if cap = l then a else a.map (·.add (l * 1))) ((rs.drop l).take k) := by
  rcases Nat.eq_zero_or_pos l with rfl | hl
  · have e : (if cap = 0 then a else a.map (·.add (0 * 1))) = a := by
      cases a with
      | none => simp
      | some ad => simp [Addr.add]
    rw [e]; exact h.take k
  · exact (h.drop hc (by omega)).take k
theorem BytesAt.lt {w : World} {a : Option Addr} {rs : List (BitVec 8)} (h : BytesAt w a rs) (hn : rs ≠ []) : ∀ ad, a = some ad → ad.block < w.heap.size := by
  intro ad e
  subst e
  cases rs with
  | nil => exact (hn rfl).elim
  | cons x r =>
    obtain ⟨ad', e, hc⟩ := h 0 (U8 x) rfl
    cases e
    rcases Nat.lt_or_ge ad.block w.heap.size with h' | h'
    · exact h'
    · have : w.heap[(ad.add 0).block]? = none := Array.getElem?_eq_none (by rw [block_add]; exact h')
      simp [World.cell?, this] at hc
section
variable {P : Program} {G : Cls} {ro : Option Nat} {ops : Array Oper} {N : Nat} {ds : List Deferred} {fs : List Nat} {Z : Fr → Cls → Prop} {F : Fr} {C : Cls} {rest : List Oper}
variable {d : Nat} {ty : TypeId} {pos : String} {af : Array Edge} {gd : Option (Nat × Bool)}
/-- A place in a slice, wherever it lies. -/
theorem lx_isA (k : Nat) {t e : TypeId} {len cap : Nat} {x ix : Operand} {ad : Addr} {i : Int} (hx : evF F x = some (.slice (some ad) len cap)) (hi : evF F ix = some (I i)) (hu : P.underlying t = some (.slice e))
    (hs : ∀ w, (sizeOf e).run P w = .ok 1 w) (hk : i = (k : Int)) (hb : k < len) (hw : wantF ops F ⟨some d, .indexAddr t x ix, ty, pos, af, gd⟩ = some true) (hd : Nat.blt d N = true)
    (h : Lx P G ro ops N ds (EE fs) Z rest ((d, .pointer (some (ad.add k))) :: F) C) : Lx P G ro ops N ds (EE fs) Z (⟨some d, .indexAddr t x ix, ty, pos, af, gd⟩ :: rest) F C :=
  lx_val (v := .pointer (some (ad.add k))) rfl hw hd (fun _ h => by cases h) (fun a w ha _ => by
    subst hk
    have h1 : ¬ len ≤ k := by omega
    simp only [execOp, ha.ev hx, ha.ev hi]
    simp [Instr.indexAt, asIntOf, run_underlying hu, hs, h1]) h
/-- The builtin min, of two. -/
theorem lx_min {a1 a2 : TypeId} {x y : Operand} {i j z : Int} (hx : evF F x = some (I i)) (hy : evF F y = some (I j)) (hz : (if j < i then j else i) = z)
    (hw : wantF ops F ⟨some d, .call { callee := .builtin .min, args := #[x, y], argTypes := #[a1, a2] }, ty, pos, af, gd⟩ = some true) (hd : Nat.blt d N = true)
    (h : Lx P G ro ops N ds (EE fs) Z rest ((d, I z) :: F) C) : Lx P G ro ops N ds (EE fs) Z (⟨some d, .call { callee := .builtin .min, args := #[x, y], argTypes := #[a1, a2] }, ty, pos, af, gd⟩ :: rest) F C :=
  lx_val (v := I z) rfl hw hd (fun _ h => by cases h) (fun a w ha _ => by
    have := run_min_int2 (P := P) w #[a1, a2] ty .i64 .i64 i j
    rw [hz] at this
    simp only [execOp, resolve, invoke, builtin, Sem.run_bind, Sem.run_pure, Result.andThen_ok, List.map_toArray, List.map_cons, List.map_nil, ha.ev hx, ha.ev hy, I, this]) h
end
end Go.Proofs.Yteohckfbphdngaa
