/-
  The engine, part 32: a slice of bytes made; a choice behind what was passed by. Nothing here names a program.
-/
import Derived.Test.YthgoggiiabaccaaDoorX3
import Derived.Laws.MakeOwn
namespace Go.Proofs.YthgoggiiabaccaaDoor
open Go.RowKit
set_option maxRecDepth 100000
section
variable {P : Program} {G : Cls} {ro : Option Nat} {ops : Array Oper} {N : Nat} {ds : List Deferred} {fs : List Nat} {Z : Fr → Cls → Prop} {F : Fr} {C : Cls} {rest : List Oper}
variable {d : Nat} {ty : TypeId} {pos : String} {af : Array Edge} {gd : Option (Nat × Bool)}
variable {B : Bs} {L : Hl}
theorem lx_pickG {E : Oper → Bool} {c x y : Operand} {b : Bool} {vx vy : Value} (hE : E ⟨some d, .pick c x y, ty, pos, af, gd⟩ = false) (hc : evF F c = some (.bool b)) (hx : evF F x = some vx) (hy : evF F y = some vy) (hw : wantF ops F ⟨some d, .pick c x y, ty, pos, af, gd⟩ = some true) (hd : Nat.blt d N = true)
    (h : Lx P G ro ops N ds E Z rest ((d, if b then vx else vy) :: F) C) : Lx P G ro ops N ds E Z (⟨some d, .pick c x y, ty, pos, af, gd⟩ :: rest) F C :=
  lx_val (v := if b then vx else vy) hE hw hd (fun _ h => by cases h) (fun a w ha _ => by simp only [execOp, ha.ev hx, ha.ev hy, ha.ev hc]; rfl) h
/-- A slice made, of noughts. -/
theorem lx_mksl (n : Nat) {t e : TypeId} {x y : Operand} {m : Nat} {i : TypeInfo} {z : Value} {c : List Value} (hB : BOk G B) (hx : evF F x = some (I (m : Int))) (hy : evF F y = some (I (m : Int))) (hu : P.underlying t = some (.slice e)) (hi : P.info? e = some i) (hz : i.zero = some z)
    (hm : m * i.size ≤ 16777216 ∧ i.bytes * m ≤ 281474976710656 ∧ m ≤ 1000000) (hc : (madeCells z.cells (m * i.size)).toList = c) (hw : wantF ops F ⟨some d, .makeSlice t x y, ty, pos, af, gd⟩ = some true) (hd : Nat.blt d N = true)
    (h : ∀ b, Lx P G ro ops N ds (EE fs) Z rest ((d, .slice (some ⟨b, 0, none⟩) m m) :: F) (Hp B ((n, b, c, e) :: L))) : Lx P G ro ops N ds (EE fs) Z (⟨some d, .makeSlice t x y, ty, pos, af, gd⟩ :: rest) F (Hp B L) :=
  lx_run rfl hw hd (fun _ h => by cases h) fun a w ha hC => by
    have hr := run_makeSlice (P := P) (w := w) t e i z hu hi hz .i64 .i64 (m : Int) (m : Int) (by omega) (Int.le_refl _) (by rw [Int.toNat_natCast]; exact hm.1) (by have := Int.ofNat_le.2 hm.2.1; rw [Int.natCast_mul] at this; exact this) (by omega)
    simp only [Int.toNat_natCast] at hr
    refine ⟨.slice (some ⟨w.heap.size, 0, none⟩) m m, w.alloc (.cells c.toArray e), _, .inl ?_, good_hp hB, hC.alloc hB.r n c e, h w.heap.size⟩
    subst hc
    simp only [execOp, ha.ev hx, ha.ev hy, I, Sem.run_bind, hr, Result.andThen_ok]
    simp
end
end Go.Proofs.YthgoggiiabaccaaDoor
