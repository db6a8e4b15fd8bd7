/-
  Two results; a struct of zeros.
-/
import Derived.Test.YteohckfbphdngaaE15
namespace Go.Proofs.Yteohckfbphdngaa
open Go.RowKit
section
variable {P : Program} {G : Cls} {ro : Option Nat} {ops : Array Oper} {N : Nat} {ds : List Deferred} {fs : List Nat} {Z : Fr → Cls → Prop} {F : Fr} {C : Cls} {rest : List Oper}
variable {d : Nat} {ty : TypeId} {pos : String} {af : Array Edge} {gd : Option (Nat × Bool)} {B : Bs} {L : Hl}
theorem lx_builds {t : TypeId} {l : List Value} {fields : Array Field} (hz : ∀ w, (zeroValue t).run P w = .ok (.agg l.toArray) w) (hu : P.underlying t = some (.struct fields)) (hm : ∀ w, ∃ a, (Array.mapM (fun f => Prod.mk f.offset <$> sizeOf f.type) fields : Sem _).run P w = .ok a w)
    (hw : wantF ops F ⟨some d, .build t #[], ty, pos, af, gd⟩ = some true) (hd : Nat.blt d N = true)
    (h : Lx P G ro ops N ds (EE fs) Z rest ((d, .agg l.toArray) :: F) C) : Lx P G ro ops N ds (EE fs) Z (⟨some d, .build t #[], ty, pos, af, gd⟩ :: rest) F C :=
  lx_val (v := .agg l.toArray) rfl hw hd (fun _ h => by cases h) (fun a w _ _ => by
    obtain ⟨q, hq⟩ := hm w
    simp [execOp, Instr.build, hz, run_underlying hu, Value.cells, hq, Instr.fill]) h
theorem kret_two (n1 n2 : Nat) {fn : Func} {R : Ending → World → Prop} {t1 t2 : Nat} {T1 T2 et1 et2 : TypeId} {b1 b2 m1 m2 : Nat} {c1 c2 : List Value} (hr : fn.results = #[.cell t1 T1, .cell t2 T2])
    (hv1 : lk F t1 = some (.pointer (some ⟨b1, 0, none⟩))) (hv2 : lk F t2 = some (.pointer (some ⟨b2, 0, none⟩))) (hl1 : lkB L n1 = some (b1, c1, et1)) (hl2 : lkB L n2 = some (b2, c2, et2))
    (hag1 : ∀ w, (isAgg T1).run P w = .ok true w) (hs1 : ∀ w, (sizeOf T1).run P w = .ok m1 w) (hm1 : c1.length = m1) (hag2 : ∀ w, (isAgg T2).run P w = .ok true w) (hs2 : ∀ w, (sizeOf T2).run P w = .ok m2 w) (hm2 : c2.length = m2)
    (h : ∀ w, Hp B L w → R (.returned (.tuple #[.agg c1.toArray, .agg c2.toArray])) w) : Kret P fn R .ret [] F (Hp B L) :=
  ⟨rfl, fun a w ha hC => ⟨.tuple #[.agg c1.toArray, .agg c2.toArray], by
    have e1 := run_loadCells_list (P := P) w ⟨b1, 0, none⟩ c1 (fun j v hv => by rw [Addr.add_mid]; exact hp_row (n := n1) hl1 w hC j v hv)
    have e2 := run_loadCells_list (P := P) w ⟨b2, 0, none⟩ c2 (fun j v hv => by rw [Addr.add_mid]; exact hp_row (n := n2) hl2 w hC j v hv)
    rw [hm1] at e1
    rw [hm2] at e2
    simp [results, hr, ha.get t1 _ hv1, ha.get t2 _ hv2, asAddr, loadVar, hag1, hs1, hag2, hs2, e1, e2], h w hC⟩⟩
end
end Go.Proofs.Yteohckfbphdngaa
