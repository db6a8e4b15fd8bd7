/-
  The program's points.
  The program's points.
-/
import Derived.Test.YtamddkjccmhgaaaGreatDoorXC
import Derived.Test.YtamddkjccmhgaaaGreatDoorX5
import Derived.Test.YtamddkjccmhgaaaGreatDoorX4
import Derived.Test.YtamddkjccmhgaaaGreatDoorX3
namespace Go.Proofs.YtamddkjccmhgaaaGreatDoor
open Go.RowKit
set_option maxRecDepth 100000
set_option maxHeartbeats 1000000
theorem ent72 : Enters Tryz.prog 72 := fun _ _ => by kernel_rfl
theorem ent64 : Enters Tryz.prog 64 := fun _ _ => by kernel_rfl
theorem ent74 : Enters Tryz.prog 74 := fun _ _ => by kernel_rfl
theorem ent26 : Enters Tryz.prog 26 := fun _ _ => by kernel_rfl
theorem ent146 : Enters Tryz.prog 146 := fun _ _ => by kernel_rfl
theorem ent55 : Enters Tryz.prog 55 := fun _ _ => by kernel_rfl
theorem ent57 : Enters Tryz.prog 57 := fun _ _ => by kernel_rfl
theorem ent22 : Enters Tryz.prog 22 := fun _ _ => by kernel_rfl
theorem ent116 : Enters Tryz.prog 116 := fun _ _ => by kernel_rfl
theorem ent62 : Enters Tryz.prog 62 := fun _ _ => by kernel_rfl
theorem ent21 : Enters Tryz.prog 21 := fun _ _ => by kernel_rfl
theorem ent87 : Enters Tryz.prog 87 := fun _ _ => by kernel_rfl
theorem ent115 : Enters Tryz.prog 115 := fun _ _ => by kernel_rfl
theorem ent63 : Enters Tryz.prog 63 := fun _ _ => by kernel_rfl
theorem ent33 : Enters Tryz.prog 33 := fun _ _ => by kernel_rfl
theorem ent89 : Enters Tryz.prog 89 := fun _ _ => by kernel_rfl
theorem ent65 : Enters Tryz.prog 65 := fun _ _ => by kernel_rfl
theorem ent24 : Enters Tryz.prog 24 := fun _ _ => by kernel_rfl
theorem ent32 : Enters Tryz.prog 32 := fun _ _ => by kernel_rfl
namespace J2
attribute [local simp] fe_len nm_len AS_len SS_len MONT_len RM_len FRs_len BYs_len by48_len PLl TWOl ONEl N1l IVPl HFPl RTPl FL_len SP_len fe2_len SP2_len FM_len
theorem rI4 {Q P : Prop} (k : Q) (h : Q → P := by intro k; (refine LY.run ?_); (repeat (first | refine y_move rfl rfl rfl ?_ | refine y_assign rfl rfl rfl ?_ | ((refine fl52_0L rfl rfl ?_ rfl rfl rfl rfl ?_); (· simp)) | ((refine fl52_1M rfl rfl ?_ ?_ rfl rfl rfl rfl ?_); (· simp); (· simp)) | ((refine fl52_2S rfl rfl ?_ ?_ ?_ rfl rfl rfl rfl ?_); (· simp); (· simp); (· simp)) | ((refine ra50 rfl rfl ?_ rfl rfl ?_); (· simp)) | ((refine ra52 rfl rfl ?_ rfl rfl ?_); (· simp)) | ((refine ra28 rfl rfl ?_ rfl rfl ?_); (· simp)) | ((refine sa50 hGF rfl rfl rfl ?_ ?_ (one_u64 _) rfl ?_); (· simp); (· simp)) | ((refine sa52 hGF rfl rfl rfl ?_ ?_ (one_u64 _) rfl ?_); (· simp); (· simp)) | ((refine sa28 hGF rfl rfl rfl ?_ ?_ (one_u64 _) rfl ?_); (· simp); (· simp)) | refine y_ext rfl rfl rfl rfl ?_ | refine y_call (f := 73) rfl rfl ent73 (e2mul _ _) rfl rfl ?_ | refine y_call (f := 75) rfl rfl ent75 (e2square _) rfl rfl ?_ | refine y_call (f := 88) rfl rfl ent88 (hs) rfl rfl ?_ | refine y_call (f := 67) rfl rfl ent67 (e2neg _) rfl rfl ?_ | refine y_pick rfl rfl rfl rfl rfl ?_)); (first | refine y_nil ?_ | refine LY.mk ?_); exact k) : P := h k
theorem pI4 {Q P : Prop} (k : Q) (h : Q → P := by intro k; (refine xp ?_); (refine rI4 ?_); exact k) : P := h k

/-- A point of the program: three numbers that stand for a point of the curve. -/
structure GP where
  J : W6
  P : Pt W2
  on : E2w.onP P
  jr : E2w.jr J P
/-- Its cells. -/
def GL (p : GP) : List (BitVec 64) := ((fe p.J.1.1 ++ fe p.J.1.2) ++ ((fe p.J.2.1.1 ++ fe p.J.2.1.2) ++ (fe p.J.2.2.1 ++ fe p.J.2.2.2)))
theorem GL_len (p : GP) : (GL p).length = 36 := by simp [GL]
attribute [local simp] GL_len
/-- A point of the program as a value. -/
abbrev PtV (p : GP) : Value := .agg ((GL p).map U64).toArray
def PX : Pt W2 → W2
  | none => ze2
  | some p => p.1
def PY : Pt W2 → W2
  | none => ze2
  | some p => p.2
/-- The right side of the curve's equation; is it a square? -/
def RS4 (x : W2) : W2 := ad2 (ml2 (ml2 x x) x) E2w.b
abbrev LQ (x : W2) : Prop := IsQ (nm2 (RS4 x))
theorem E1_rs {x y : W2} : E2w.on (x, y) ↔ ml2 y y = RS4 x := by
  show ml2 y y = ad2 (ml2 x (ml2 x x)) E2w.b ↔ ml2 y y = ad2 (ml2 (ml2 x x) x) E2w.b
  rw [show ml2 x (ml2 x x) = ml2 (ml2 x x) x from R2.mul_comm _ _]
theorem onP_some {p : W2 × W2} (h : E2w.on p) : E2w.onP (some p) := h
/-- The y that is asked for, of a root that isn't large. -/
def sgY (r : W2) : Bool → W2
  | true => ng2 r
  | false => r
theorem ng_sq (r : W2) : ml2 (ng2 r) (ng2 r) = ml2 r r := Rg.same (R := R2) (ρ := ev R2 [r]) (tm (tn (tv 0)) (tn (tv 0))) (tm (tv 0) (tv 0)) (by kernel_rfl)
theorem sgY_sq {x r : W2} (hr : ml2 r r = RS4 x) (l : Bool) : ml2 (sgY r l) (sgY r l) = RS4 x := by
  cases l with
  | true => exact (ng_sq r).trans hr
  | false => exact hr
theorem zj52 (w : World) : (zeroValue 52).run Tryz.prog w = .ok (.agg (((fe 0 ++ fe 0) ++ ((fe 0 ++ fe 0) ++ (fe 0 ++ fe 0))).map U64).toArray) w := by rw [fe_0]; exact (Tryz.zeroValue52 w).trans (by rfl)
theorem three52 : Three Tryz.prog 52 ⟨ "x", 50, 0, false, "", "pharos/g2", 0⟩ ⟨ "y", 50, 12, false, "", "pharos/g2", 96⟩ ⟨ "z", 50, 24, false, "", "pharos/g2", 192⟩ 12 (fe 0 ++ fe 0) (fe 0 ++ fe 0) (fe 0 ++ fe 0) := ⟨Tryz.underlying52, rfl, rfl, rfl, Tryz.sizeOf50, Tryz.sizeOf50, Tryz.sizeOf50, zj52, by simp, by simp, by simp⟩
theorem e2subE (x y : W2) : Pure Tryz.prog Gt 147 [EV2 x, EV2 y] (EV2 (E2w.sub x y)) := by
  have h := e2sub x y
  rw [sb2_eq] at h
  exact h
theorem jisInf (x : W6) : Pure Tryz.prog Gt 72 [EV6 x] (.bool (decide (x.2.2 = ze2))) := by
  refine pure_X Tryz.func72 fun w hw hGF => ?_
  refine xp ?_
  refine lb fun b1 => ?_
  refine rI4 ?_
  refine pI4 ?_
  refine lc ent120 (e2isZero _) ?_
  refine rI4 ?_
  refine rt ?_
  exact kret_tmp rfl rfl (fun w hw => ⟨rfl, hp_below hw⟩)
theorem jneg (x : W6) : Pure Tryz.prog Gt 24 [EV6 x] (EV6 (x.1, ng2 x.2.1, x.2.2)) := by
  refine pure_X Tryz.func24 fun w hw hGF => ?_
  refine xp ?_
  refine lb fun b1 => ?_
  refine la zj52 fun b2 => ?_
  refine lx_nil ?_
  refine xs_drawn (E := EE []) mixed (by kernel_rfl) (by kernel_rfl) (by kernel_rfl) ?_
  refine rI4 ?_
  refine lx_three012 three52 rfl rfl rfl (by simp) (by simp) (by simp) rfl rfl ?_
  refine rI4 ?_
  refine rt ?_
  exact kret_own 2 rfl rfl rfl Tryz.isAgg52 Tryz.sizeOf52 (by simp) (fun w hw => ⟨rfl, hp_below hw⟩)
theorem jinf  : Pure Tryz.prog Gt 55 [] (EV6 (ze2, ze2, ze2)) := by
  refine pure_X Tryz.func55 fun w hw hGF => ?_
  refine xp ?_
  refine la zj52 fun b0 => ?_
  refine lx_nil ?_
  refine xp ?_
  refine lx_threeN three52 rfl rfl ?_
  refine rI4 ?_
  refine rt ?_
  exact kret_own 0 rfl rfl rfl Tryz.isAgg52 Tryz.sizeOf52 (by simp) (fun w hw => ⟨rfl, hp_below hw⟩)
theorem jcube (a : W2) : Pure Tryz.prog Gt 74 [EV2 a] (EV2 (ml2 (ml2 a a) a)) := by
  refine pure_X Tryz.func74 fun w hw hGF => ?_
  refine xp ?_
  refine lb fun b1 => ?_
  refine la zv50 fun b2 => ?_
  refine lx_nil ?_
  refine xs_drawn (E := EE []) mixed (by kernel_rfl) (by kernel_rfl) (by kernel_rfl) ?_
  refine rI4 ?_
  refine rt ?_
  exact kret_own 2 rfl rfl rfl Tryz.isAgg50 Tryz.sizeOf50 (by simp) (fun w hw => ⟨rfl, hp_below hw⟩)
theorem jdbl (x : W6) : Pure Tryz.prog Gt 146 [EV6 x] (EV6 (E2w.dbA x)) := by
  refine pure_X Tryz.func146 fun w hw hGF => ?_
  refine xp ?_
  refine lb fun b1 => ?_
  refine la zj52 fun b2 => ?_
  refine lx_nil ?_
  refine xs_drawA (E := EE [2999999]) [0, 1, 2, 3, 4, 5, 6, 7] [⟨8, 3, 50, (fe 0 ++ fe 0).map U64⟩, ⟨9, 4, 50, (fe 0 ++ fe 0).map U64⟩] [10, 11] mixed rfl (by kernel_rfl) (by kernel_rfl) (by kernel_rfl) (by kernel_rfl) (by kernel_rfl) (by kernel_rfl) (by decide) (by intro x hx; simp only [List.mem_cons, List.not_mem_nil, or_false] at hx; rcases hx with rfl | rfl <;> exact isAlloc_mk rfl zv50 rfl) ?_
  refine rI4 ?_
  refine lc ent127 (e2add _ _) ?_
  refine rI4 ?_
  refine ⟨_, _, rfl, hGF, by intro x hx; simp only [List.mem_cons, List.not_mem_nil, or_false] at hx; rcases hx with rfl | rfl <;> rfl, by intro x hx; simp only [List.mem_cons, List.not_mem_nil, or_false] at hx; rcases hx with rfl | rfl <;> rfl, fun adr => ?_⟩
  refine rI4 ?_
  refine xs_drawA (E := EE [2999999]) [0, 1, 2, 3, 4] [⟨5, 5, 50, (fe 0 ++ fe 0).map U64⟩] [6] mixed rfl (by kernel_rfl) (by kernel_rfl) (by kernel_rfl) (by kernel_rfl) (by kernel_rfl) (by kernel_rfl) (by decide) (by intro x hx; simp only [List.mem_cons, List.not_mem_nil, or_false] at hx; subst hx; exact isAlloc_mk rfl zv50 rfl) ?_
  refine rI4 ?_
  refine lc ent127 (e2add _ _) ?_
  refine rI4 ?_
  refine lc ent127 (e2add _ _) ?_
  refine lx_nil ?_
  refine ⟨_, _, rfl, hGF, by intro x hx; simp only [List.mem_cons, List.not_mem_nil, or_false] at hx; subst hx; rfl, by intro x hx; simp only [List.mem_cons, List.not_mem_nil, or_false] at hx; subst hx; rfl, fun adr => ?_⟩
  refine rI4 ?_
  refine pI4 ?_
  refine la zv50 fun b6 => ?_
  refine rI4 ?_
  refine pI4 ?_
  refine la zv50 fun b7 => ?_
  refine rI4 ?_
  refine xs_drawA (E := EE [2999999]) [0, 1, 2, 3, 4, 5] [⟨6, 8, 50, (fe 0 ++ fe 0).map U64⟩] [7] mixed rfl (by kernel_rfl) (by kernel_rfl) (by kernel_rfl) (by kernel_rfl) (by kernel_rfl) (by kernel_rfl) (by decide) (by intro x hx; simp only [List.mem_cons, List.not_mem_nil, or_false] at hx; subst hx; exact isAlloc_mk rfl zv50 rfl) ?_
  refine rI4 ?_
  refine lc ent147 (e2subE _ _) ?_
  refine rI4 ?_
  refine lc ent147 (e2subE _ _) ?_
  refine lx_nil ?_
  refine ⟨_, _, rfl, hGF, by intro x hx; simp only [List.mem_cons, List.not_mem_nil, or_false] at hx; subst hx; rfl, by intro x hx; simp only [List.mem_cons, List.not_mem_nil, or_false] at hx; subst hx; rfl, fun adr => ?_⟩
  refine rI4 ?_
  refine xs_drawA (E := EE [2999999]) [0, 1, 2, 3, 4, 5, 6, 7, 8, 9, 10, 11] [⟨12, 9, 50, (fe 0 ++ fe 0).map U64⟩] [13] mixed rfl (by kernel_rfl) (by kernel_rfl) (by kernel_rfl) (by kernel_rfl) (by kernel_rfl) (by kernel_rfl) (by decide) (by intro x hx; simp only [List.mem_cons, List.not_mem_nil, or_false] at hx; subst hx; exact isAlloc_mk rfl zv50 rfl) ?_
  refine rI4 ?_
  refine lc ent147 (e2subE _ _) ?_
  refine rI4 ?_
  refine lc ent147 (e2subE _ _) ?_
  refine lx_nil ?_
  refine ⟨_, _, rfl, hGF, by intro x hx; simp only [List.mem_cons, List.not_mem_nil, or_false] at hx; subst hx; rfl, by intro x hx; simp only [List.mem_cons, List.not_mem_nil, or_false] at hx; subst hx; rfl, fun adr => ?_⟩
  refine rI4 ?_
  refine xs_drawn (E := EE []) mixed (by kernel_rfl) (by kernel_rfl) (by kernel_rfl) ?_
  refine rI4 ?_
  refine lx_three012 three52 rfl rfl rfl (by simp) (by simp) (by simp) rfl rfl ?_
  refine rI4 ?_
  refine rt ?_
  exact kret_own 2 rfl rfl rfl Tryz.isAgg52 Tryz.sizeOf52 (by simp) (fun w hw => ⟨rfl, hp_below hw⟩)
theorem jadd (x y : W6) : Pure Tryz.prog Gt 116 [EV6 x, EV6 y] (EV6 (E2w.adA x y)) := by
  intro w hw
  have hGF : BOk Gt (pl w) := gt_low.plain hw
  by_cases h1 : x.2.2 = ze2
  · skip
    rw [show E2w.adA x y = y from if_pos h1]
    refine calls_of_X (G := Gt) Tryz.func116 rfl rfl (Hp (pl w) []) (hp_refl (pl w) trivial rides_true) (good_hp hGF) ?_
    refine xp ?_
    refine lb fun b2 => ?_
    refine lb fun b3 => ?_
    refine la zj52 fun b4 => ?_
    refine lx_nil ?_
    refine x_seq ?_
    refine pI4 ?_
    refine lx_callB true rfl rfl ent72 (jisInf _) (decide_eq_true h1) rfl rfl ?_
    refine lx_nil ?_
    refine x_true rfl ?_
    refine pI4 ?_
    refine rt ?_
    exact kret_own 4 rfl rfl rfl Tryz.isAgg52 Tryz.sizeOf52 (by simp) (fun w hw => ⟨rfl, hp_below hw⟩)
  · skip
    by_cases h2 : y.2.2 = ze2
    · skip
      rw [show E2w.adA x y = x from (if_neg h1).trans (if_pos h2)]
      refine calls_of_X (G := Gt) Tryz.func116 rfl rfl (Hp (pl w) []) (hp_refl (pl w) trivial rides_true) (good_hp hGF) ?_
      refine xp ?_
      refine lb fun b2 => ?_
      refine lb fun b3 => ?_
      refine la zj52 fun b4 => ?_
      refine lx_nil ?_
      refine x_seq ?_
      refine pI4 ?_
      refine lx_callB false rfl rfl ent72 (jisInf _) (decide_eq_false h1) rfl rfl ?_
      refine lx_nil ?_
      refine x_false rfl ?_
      refine x_skip ?_
      refine x_seq ?_
      refine pI4 ?_
      refine lx_callB true rfl rfl ent72 (jisInf _) (decide_eq_true h2) rfl rfl ?_
      refine lx_nil ?_
      refine x_true rfl ?_
      refine pI4 ?_
      refine rt ?_
      exact kret_own 4 rfl rfl rfl Tryz.isAgg52 Tryz.sizeOf52 (by simp) (fun w hw => ⟨rfl, hp_below hw⟩)
    · skip
      by_cases h3 : E2w.jh x.1 x.2.2 y.1 y.2.2 = ze2
      · skip
        by_cases h4 : E2w.jq x.2.1 x.2.2 y.2.1 y.2.2 = ze2
        · skip
          rw [show E2w.adA x y = E2w.dbA x from (if_neg h1).trans ((if_neg h2).trans ((if_pos h3).trans (if_pos h4)))]
          refine calls_of_X (G := Gt) Tryz.func116 rfl rfl (Hp (pl w) []) (hp_refl (pl w) trivial rides_true) (good_hp hGF) ?_
          refine xp ?_
          refine lb fun b2 => ?_
          refine lb fun b3 => ?_
          refine la zj52 fun b4 => ?_
          refine lx_nil ?_
          refine x_seq ?_
          refine pI4 ?_
          refine lx_callB false rfl rfl ent72 (jisInf _) (decide_eq_false h1) rfl rfl ?_
          refine lx_nil ?_
          refine x_false rfl ?_
          refine x_skip ?_
          refine x_seq ?_
          refine pI4 ?_
          refine lx_callB false rfl rfl ent72 (jisInf _) (decide_eq_false h2) rfl rfl ?_
          refine lx_nil ?_
          refine x_false rfl ?_
          refine x_skip ?_
          refine xs_drawA (E := EE [2999999]) [0, 1, 2, 3, 4, 5] [⟨6, 5, 50, (fe 0 ++ fe 0).map U64⟩, ⟨7, 6, 50, (fe 0 ++ fe 0).map U64⟩] [8, 9] mixed rfl (by kernel_rfl) (by kernel_rfl) (by kernel_rfl) (by kernel_rfl) (by kernel_rfl) (by kernel_rfl) (by decide) (by intro x hx; simp only [List.mem_cons, List.not_mem_nil, or_false] at hx; rcases hx with rfl | rfl <;> exact isAlloc_mk rfl zv50 rfl) ?_
          refine rI4 ?_
          refine ⟨_, _, rfl, hGF, by intro x hx; simp only [List.mem_cons, List.not_mem_nil, or_false] at hx; rcases hx with rfl | rfl <;> rfl, by intro x hx; simp only [List.mem_cons, List.not_mem_nil, or_false] at hx; rcases hx with rfl | rfl <;> rfl, fun adr => ?_⟩
          refine rI4 ?_
          refine xs_drawA (E := EE [2999999]) [0, 1, 2, 3, 4, 5, 6, 7, 8, 9, 10] [⟨11, 7, 50, (fe 0 ++ fe 0).map U64⟩, ⟨12, 8, 50, (fe 0 ++ fe 0).map U64⟩] [13, 14] mixed rfl (by kernel_rfl) (by kernel_rfl) (by kernel_rfl) (by kernel_rfl) (by kernel_rfl) (by kernel_rfl) (by decide) (by intro x hx; simp only [List.mem_cons, List.not_mem_nil, or_false] at hx; rcases hx with rfl | rfl <;> exact isAlloc_mk rfl zv50 rfl) ?_
          refine rI4 ?_
          refine ⟨_, _, rfl, hGF, by intro x hx; simp only [List.mem_cons, List.not_mem_nil, or_false] at hx; rcases hx with rfl | rfl <;> rfl, by intro x hx; simp only [List.mem_cons, List.not_mem_nil, or_false] at hx; rcases hx with rfl | rfl <;> rfl, fun adr => ?_⟩
          refine rI4 ?_
          refine xs_drawA (E := EE [2999999]) [0, 1, 2, 3, 4, 5] [⟨6, 9, 50, (fe 0 ++ fe 0).map U64⟩] [7] mixed rfl (by kernel_rfl) (by kernel_rfl) (by kernel_rfl) (by kernel_rfl) (by kernel_rfl) (by kernel_rfl) (by decide) (by intro x hx; simp only [List.mem_cons, List.not_mem_nil, or_false] at hx; subst hx; exact isAlloc_mk rfl zv50 rfl) ?_
          refine rI4 ?_
          refine lc ent147 (e2subE _ _) ?_
          refine lx_nil ?_
          refine ⟨_, _, rfl, hGF, by intro x hx; simp only [List.mem_cons, List.not_mem_nil, or_false] at hx; subst hx; rfl, by intro x hx; simp only [List.mem_cons, List.not_mem_nil, or_false] at hx; subst hx; rfl, fun adr => ?_⟩
          refine rI4 ?_
          refine xs_drawA (E := EE [2999999]) [0, 1, 2, 3, 4, 5, 6, 7, 8] [⟨9, 10, 50, (fe 0 ++ fe 0).map U64⟩] [10] mixed rfl (by kernel_rfl) (by kernel_rfl) (by kernel_rfl) (by kernel_rfl) (by kernel_rfl) (by kernel_rfl) (by decide) (by intro x hx; simp only [List.mem_cons, List.not_mem_nil, or_false] at hx; subst hx; exact isAlloc_mk rfl zv50 rfl) ?_
          refine rI4 ?_
          refine lc ent147 (e2subE _ _) ?_
          refine lx_nil ?_
          refine ⟨_, _, rfl, hGF, by intro x hx; simp only [List.mem_cons, List.not_mem_nil, or_false] at hx; subst hx; rfl, by intro x hx; simp only [List.mem_cons, List.not_mem_nil, or_false] at hx; subst hx; rfl, fun adr => ?_⟩
          refine rI4 ?_
          refine x_seq ?_
          refine pI4 ?_
          refine lx_callB true rfl rfl ent120 (e2isZero _) (decide_eq_true h3) rfl rfl ?_
          refine rI4 ?_
          refine lx_callB true rfl rfl ent120 (e2isZero _) (decide_eq_true h4) rfl rfl ?_
          refine rI4 ?_
          refine x_true rfl ?_
          refine pI4 ?_
          refine lc ent146 (jdbl _) ?_
          refine rI4 ?_
          refine rt ?_
          exact kret_own 4 rfl rfl rfl Tryz.isAgg52 Tryz.sizeOf52 (by simp) (fun w hw => ⟨rfl, hp_below hw⟩)
        · skip
          rw [show E2w.adA x y = (ze2, ze2, ze2) from (if_neg h1).trans ((if_neg h2).trans ((if_pos h3).trans (if_neg h4)))]
          refine calls_of_X (G := Gt) Tryz.func116 rfl rfl (Hp (pl w) []) (hp_refl (pl w) trivial rides_true) (good_hp hGF) ?_
          refine xp ?_
          refine lb fun b2 => ?_
          refine lb fun b3 => ?_
          refine la zj52 fun b4 => ?_
          refine lx_nil ?_
          refine x_seq ?_
          refine pI4 ?_
          refine lx_callB false rfl rfl ent72 (jisInf _) (decide_eq_false h1) rfl rfl ?_
          refine lx_nil ?_
          refine x_false rfl ?_
          refine x_skip ?_
          refine x_seq ?_
          refine pI4 ?_
          refine lx_callB false rfl rfl ent72 (jisInf _) (decide_eq_false h2) rfl rfl ?_
          refine lx_nil ?_
          refine x_false rfl ?_
          refine x_skip ?_
          refine xs_drawA (E := EE [2999999]) [0, 1, 2, 3, 4, 5] [⟨6, 5, 50, (fe 0 ++ fe 0).map U64⟩, ⟨7, 6, 50, (fe 0 ++ fe 0).map U64⟩] [8, 9] mixed rfl (by kernel_rfl) (by kernel_rfl) (by kernel_rfl) (by kernel_rfl) (by kernel_rfl) (by kernel_rfl) (by decide) (by intro x hx; simp only [List.mem_cons, List.not_mem_nil, or_false] at hx; rcases hx with rfl | rfl <;> exact isAlloc_mk rfl zv50 rfl) ?_
          refine rI4 ?_
          refine ⟨_, _, rfl, hGF, by intro x hx; simp only [List.mem_cons, List.not_mem_nil, or_false] at hx; rcases hx with rfl | rfl <;> rfl, by intro x hx; simp only [List.mem_cons, List.not_mem_nil, or_false] at hx; rcases hx with rfl | rfl <;> rfl, fun adr => ?_⟩
          refine rI4 ?_
          refine xs_drawA (E := EE [2999999]) [0, 1, 2, 3, 4, 5, 6, 7, 8, 9, 10] [⟨11, 7, 50, (fe 0 ++ fe 0).map U64⟩, ⟨12, 8, 50, (fe 0 ++ fe 0).map U64⟩] [13, 14] mixed rfl (by kernel_rfl) (by kernel_rfl) (by kernel_rfl) (by kernel_rfl) (by kernel_rfl) (by kernel_rfl) (by decide) (by intro x hx; simp only [List.mem_cons, List.not_mem_nil, or_false] at hx; rcases hx with rfl | rfl <;> exact isAlloc_mk rfl zv50 rfl) ?_
          refine rI4 ?_
          refine ⟨_, _, rfl, hGF, by intro x hx; simp only [List.mem_cons, List.not_mem_nil, or_false] at hx; rcases hx with rfl | rfl <;> rfl, by intro x hx; simp only [List.mem_cons, List.not_mem_nil, or_false] at hx; rcases hx with rfl | rfl <;> rfl, fun adr => ?_⟩
          refine rI4 ?_
          refine xs_drawA (E := EE [2999999]) [0, 1, 2, 3, 4, 5] [⟨6, 9, 50, (fe 0 ++ fe 0).map U64⟩] [7] mixed rfl (by kernel_rfl) (by kernel_rfl) (by kernel_rfl) (by kernel_rfl) (by kernel_rfl) (by kernel_rfl) (by decide) (by intro x hx; simp only [List.mem_cons, List.not_mem_nil, or_false] at hx; subst hx; exact isAlloc_mk rfl zv50 rfl) ?_
          refine rI4 ?_
          refine lc ent147 (e2subE _ _) ?_
          refine lx_nil ?_
          refine ⟨_, _, rfl, hGF, by intro x hx; simp only [List.mem_cons, List.not_mem_nil, or_false] at hx; subst hx; rfl, by intro x hx; simp only [List.mem_cons, List.not_mem_nil, or_false] at hx; subst hx; rfl, fun adr => ?_⟩
          refine rI4 ?_
          refine xs_drawA (E := EE [2999999]) [0, 1, 2, 3, 4, 5, 6, 7, 8] [⟨9, 10, 50, (fe 0 ++ fe 0).map U64⟩] [10] mixed rfl (by kernel_rfl) (by kernel_rfl) (by kernel_rfl) (by kernel_rfl) (by kernel_rfl) (by kernel_rfl) (by decide) (by intro x hx; simp only [List.mem_cons, List.not_mem_nil, or_false] at hx; subst hx; exact isAlloc_mk rfl zv50 rfl) ?_
          refine rI4 ?_
          refine lc ent147 (e2subE _ _) ?_
          refine lx_nil ?_
          refine ⟨_, _, rfl, hGF, by intro x hx; simp only [List.mem_cons, List.not_mem_nil, or_false] at hx; subst hx; rfl, by intro x hx; simp only [List.mem_cons, List.not_mem_nil, or_false] at hx; subst hx; rfl, fun adr => ?_⟩
          refine rI4 ?_
          refine x_seq ?_
          refine pI4 ?_
          refine lx_callB true rfl rfl ent120 (e2isZero _) (decide_eq_true h3) rfl rfl ?_
          refine rI4 ?_
          refine lx_callB false rfl rfl ent120 (e2isZero _) (decide_eq_false h4) rfl rfl ?_
          refine rI4 ?_
          refine x_false rfl ?_
          refine x_skip ?_
          refine x_seq ?_
          refine pI4 ?_
          refine lx_callB true rfl rfl ent120 (e2isZero _) (decide_eq_true h3) rfl rfl ?_
          refine lx_nil ?_
          refine x_true rfl ?_
          refine xp ?_
          refine lx_threeN three52 rfl rfl ?_
          refine rI4 ?_
          refine rt ?_
          exact kret_own 4 rfl rfl rfl Tryz.isAgg52 Tryz.sizeOf52 (by simp) (fun w hw => ⟨rfl, hp_below hw⟩)
      · skip
        rw [show E2w.adA x y = E2w.adG x y from (if_neg h1).trans ((if_neg h2).trans (if_neg h3))]
        refine calls_of_X (G := Gt) Tryz.func116 rfl rfl (Hp (pl w) []) (hp_refl (pl w) trivial rides_true) (good_hp hGF) ?_
        refine xp ?_
        refine lb fun b2 => ?_
        refine lb fun b3 => ?_
        refine la zj52 fun b4 => ?_
        refine lx_nil ?_
        refine x_seq ?_
        refine pI4 ?_
        refine lx_callB false rfl rfl ent72 (jisInf _) (decide_eq_false h1) rfl rfl ?_
        refine lx_nil ?_
        refine x_false rfl ?_
        refine x_skip ?_
        refine x_seq ?_
        refine pI4 ?_
        refine lx_callB false rfl rfl ent72 (jisInf _) (decide_eq_false h2) rfl rfl ?_
        refine lx_nil ?_
        refine x_false rfl ?_
        refine x_skip ?_
        refine xs_drawA (E := EE [2999999]) [0, 1, 2, 3, 4, 5] [⟨6, 5, 50, (fe 0 ++ fe 0).map U64⟩, ⟨7, 6, 50, (fe 0 ++ fe 0).map U64⟩] [8, 9] mixed rfl (by kernel_rfl) (by kernel_rfl) (by kernel_rfl) (by kernel_rfl) (by kernel_rfl) (by kernel_rfl) (by decide) (by intro x hx; simp only [List.mem_cons, List.not_mem_nil, or_false] at hx; rcases hx with rfl | rfl <;> exact isAlloc_mk rfl zv50 rfl) ?_
        refine rI4 ?_
        refine ⟨_, _, rfl, hGF, by intro x hx; simp only [List.mem_cons, List.not_mem_nil, or_false] at hx; rcases hx with rfl | rfl <;> rfl, by intro x hx; simp only [List.mem_cons, List.not_mem_nil, or_false] at hx; rcases hx with rfl | rfl <;> rfl, fun adr => ?_⟩
        refine rI4 ?_
        refine xs_drawA (E := EE [2999999]) [0, 1, 2, 3, 4, 5, 6, 7, 8, 9, 10] [⟨11, 7, 50, (fe 0 ++ fe 0).map U64⟩, ⟨12, 8, 50, (fe 0 ++ fe 0).map U64⟩] [13, 14] mixed rfl (by kernel_rfl) (by kernel_rfl) (by kernel_rfl) (by kernel_rfl) (by kernel_rfl) (by kernel_rfl) (by decide) (by intro x hx; simp only [List.mem_cons, List.not_mem_nil, or_false] at hx; rcases hx with rfl | rfl <;> exact isAlloc_mk rfl zv50 rfl) ?_
        refine rI4 ?_
        refine ⟨_, _, rfl, hGF, by intro x hx; simp only [List.mem_cons, List.not_mem_nil, or_false] at hx; rcases hx with rfl | rfl <;> rfl, by intro x hx; simp only [List.mem_cons, List.not_mem_nil, or_false] at hx; rcases hx with rfl | rfl <;> rfl, fun adr => ?_⟩
        refine rI4 ?_
        refine xs_drawA (E := EE [2999999]) [0, 1, 2, 3, 4, 5] [⟨6, 9, 50, (fe 0 ++ fe 0).map U64⟩] [7] mixed rfl (by kernel_rfl) (by kernel_rfl) (by kernel_rfl) (by kernel_rfl) (by kernel_rfl) (by kernel_rfl) (by decide) (by intro x hx; simp only [List.mem_cons, List.not_mem_nil, or_false] at hx; subst hx; exact isAlloc_mk rfl zv50 rfl) ?_
        refine rI4 ?_
        refine lc ent147 (e2subE _ _) ?_
        refine lx_nil ?_
        refine ⟨_, _, rfl, hGF, by intro x hx; simp only [List.mem_cons, List.not_mem_nil, or_false] at hx; subst hx; rfl, by intro x hx; simp only [List.mem_cons, List.not_mem_nil, or_false] at hx; subst hx; rfl, fun adr => ?_⟩
        refine rI4 ?_
        refine xs_drawA (E := EE [2999999]) [0, 1, 2, 3, 4, 5, 6, 7, 8] [⟨9, 10, 50, (fe 0 ++ fe 0).map U64⟩] [10] mixed rfl (by kernel_rfl) (by kernel_rfl) (by kernel_rfl) (by kernel_rfl) (by kernel_rfl) (by kernel_rfl) (by decide) (by intro x hx; simp only [List.mem_cons, List.not_mem_nil, or_false] at hx; subst hx; exact isAlloc_mk rfl zv50 rfl) ?_
        refine rI4 ?_
        refine lc ent147 (e2subE _ _) ?_
        refine lx_nil ?_
        refine ⟨_, _, rfl, hGF, by intro x hx; simp only [List.mem_cons, List.not_mem_nil, or_false] at hx; subst hx; rfl, by intro x hx; simp only [List.mem_cons, List.not_mem_nil, or_false] at hx; subst hx; rfl, fun adr => ?_⟩
        refine rI4 ?_
        refine x_seq ?_
        refine pI4 ?_
        refine lx_callB false rfl rfl ent120 (e2isZero _) (decide_eq_false h3) rfl rfl ?_
        refine rI4 ?_
        refine lx_skip rfl rfl rfl ?_
        refine lx_skip rfl rfl rfl ?_
        refine rI4 ?_
        refine x_false rfl ?_
        refine x_skip ?_
        refine x_seq ?_
        refine pI4 ?_
        refine lx_callB false rfl rfl ent120 (e2isZero _) (decide_eq_false h3) rfl rfl ?_
        refine lx_nil ?_
        refine x_false rfl ?_
        refine x_skip ?_
        refine pI4 ?_
        refine la zv50 fun b11 => ?_
        refine rI4 ?_
        refine xs_drawA (E := EE [2999999]) [0, 1, 2, 3, 4, 5] [⟨6, 12, 50, (fe 0 ++ fe 0).map U64⟩, ⟨7, 13, 50, (fe 0 ++ fe 0).map U64⟩] [8, 9] mixed rfl (by kernel_rfl) (by kernel_rfl) (by kernel_rfl) (by kernel_rfl) (by kernel_rfl) (by kernel_rfl) (by decide) (by intro x hx; simp only [List.mem_cons, List.not_mem_nil, or_false] at hx; rcases hx with rfl | rfl <;> exact isAlloc_mk rfl zv50 rfl) ?_
        refine rI4 ?_
        refine ⟨_, _, rfl, hGF, by intro x hx; simp only [List.mem_cons, List.not_mem_nil, or_false] at hx; rcases hx with rfl | rfl <;> rfl, by intro x hx; simp only [List.mem_cons, List.not_mem_nil, or_false] at hx; rcases hx with rfl | rfl <;> rfl, fun adr => ?_⟩
        refine rI4 ?_
        refine xs_drawn (E := EE []) mixed (by kernel_rfl) (by kernel_rfl) (by kernel_rfl) ?_
        refine rI4 ?_
        refine lc ent147 (e2subE _ _) ?_
        refine rI4 ?_
        refine lc ent147 (e2subE _ _) ?_
        refine rI4 ?_
        refine lc ent147 (e2subE _ _) ?_
        refine rI4 ?_
        refine xs_drawn (E := EE []) mixed (by kernel_rfl) (by kernel_rfl) (by kernel_rfl) ?_
        refine rI4 ?_
        refine lc ent147 (e2subE _ _) ?_
        refine rI4 ?_
        refine lc ent147 (e2subE _ _) ?_
        refine rI4 ?_
        refine xs_drawn (E := EE []) mixed (by kernel_rfl) (by kernel_rfl) (by kernel_rfl) ?_
        refine rI4 ?_
        refine lx_three012 three52 rfl rfl rfl (by simp) (by simp) (by simp) rfl rfl ?_
        refine rI4 ?_
        refine rt ?_
        exact kret_own 4 rfl rfl rfl Tryz.isAgg52 Tryz.sizeOf52 (by simp) (fun w hw => ⟨rfl, hp_below hw⟩)
theorem jequal (x y : W6) (hd : Decidable (E2w.eqJ x y)) (b : Bool) (hb : b = decide (E2w.eqJ x y)) : Pure Tryz.prog Gt 26 [EV6 x, EV6 y] (.bool b) := by
  intro w hw
  have hGF : BOk Gt (pl w) := gt_low.plain hw
  by_cases h1 : x.2.2 = ze2
  · skip
    by_cases h2 : y.2.2 = ze2
    · skip
      obtain rfl : b = true := hb.trans (decide_eq_true (.inl ⟨h1, h2⟩))
      refine calls_of_X (G := Gt) Tryz.func26 rfl rfl (Hp (pl w) []) (hp_refl (pl w) trivial rides_true) (good_hp hGF) ?_
      refine xp ?_
      refine lb fun b2 => ?_
      refine lb fun b3 => ?_
      refine rI4 ?_
      refine x_seq ?_
      refine pI4 ?_
      refine lx_callB true rfl rfl ent72 (jisInf _) (decide_eq_true h1) rfl rfl ?_
      refine rI4 ?_
      refine lx_skip rfl rfl rfl ?_
      refine lx_skip rfl rfl rfl ?_
      refine rI4 ?_
      refine x_true rfl ?_
      refine pI4 ?_
      refine lx_callB true rfl rfl ent72 (jisInf _) (decide_eq_true h1) rfl rfl ?_
      refine rI4 ?_
      refine lx_callB true rfl rfl ent72 (jisInf _) (decide_eq_true h2) rfl rfl ?_
      refine rI4 ?_
      refine rt ?_
      exact kret_tmp rfl rfl (fun w hw => ⟨rfl, hp_below hw⟩)
    · skip
      obtain rfl : b = false := hb.trans (decide_eq_false (fun e => e.elim (fun e => h2 e.2) (fun e => e.1 h1)))
      refine calls_of_X (G := Gt) Tryz.func26 rfl rfl (Hp (pl w) []) (hp_refl (pl w) trivial rides_true) (good_hp hGF) ?_
      refine xp ?_
      refine lb fun b2 => ?_
      refine lb fun b3 => ?_
      refine rI4 ?_
      refine x_seq ?_
      refine pI4 ?_
      refine lx_callB true rfl rfl ent72 (jisInf _) (decide_eq_true h1) rfl rfl ?_
      refine rI4 ?_
      refine lx_skip rfl rfl rfl ?_
      refine lx_skip rfl rfl rfl ?_
      refine rI4 ?_
      refine x_true rfl ?_
      refine pI4 ?_
      refine lx_callB true rfl rfl ent72 (jisInf _) (decide_eq_true h1) rfl rfl ?_
      refine rI4 ?_
      refine lx_callB false rfl rfl ent72 (jisInf _) (decide_eq_false h2) rfl rfl ?_
      refine rI4 ?_
      refine rt ?_
      exact kret_tmp rfl rfl (fun w hw => ⟨rfl, hp_below hw⟩)
  · skip
    by_cases h2 : y.2.2 = ze2
    · skip
      obtain rfl : b = false := hb.trans (decide_eq_false (fun e => e.elim (fun e => h1 e.1) (fun e => e.2.1 h2)))
      refine calls_of_X (G := Gt) Tryz.func26 rfl rfl (Hp (pl w) []) (hp_refl (pl w) trivial rides_true) (good_hp hGF) ?_
      refine xp ?_
      refine lb fun b2 => ?_
      refine lb fun b3 => ?_
      refine rI4 ?_
      refine x_seq ?_
      refine pI4 ?_
      refine lx_callB false rfl rfl ent72 (jisInf _) (decide_eq_false h1) rfl rfl ?_
      refine rI4 ?_
      refine lx_callB true rfl rfl ent72 (jisInf _) (decide_eq_true h2) rfl rfl ?_
      refine rI4 ?_
      refine x_true rfl ?_
      refine pI4 ?_
      refine lx_callB false rfl rfl ent72 (jisInf _) (decide_eq_false h1) rfl rfl ?_
      refine rI4 ?_
      refine lx_skip rfl rfl rfl ?_
      refine lx_skip rfl rfl rfl ?_
      refine rI4 ?_
      refine rt ?_
      exact kret_tmp rfl rfl (fun w hw => ⟨rfl, hp_below hw⟩)
    · skip
      by_cases h3 : ml2 x.1 (ml2 y.2.2 y.2.2) = ml2 y.1 (ml2 x.2.2 x.2.2)
      · skip
        by_cases h4 : ml2 x.2.1 (ml2 (ml2 y.2.2 y.2.2) y.2.2) = ml2 y.2.1 (ml2 (ml2 x.2.2 x.2.2) x.2.2)
        · skip
          obtain rfl : b = true := hb.trans (decide_eq_true (.inr ⟨h1, h2, h3, h4⟩))
          refine calls_of_X (G := Gt) Tryz.func26 rfl rfl (Hp (pl w) []) (hp_refl (pl w) trivial rides_true) (good_hp hGF) ?_
          refine xp ?_
          refine lb fun b2 => ?_
          refine lb fun b3 => ?_
          refine rI4 ?_
          refine x_seq ?_
          refine pI4 ?_
          refine lx_callB false rfl rfl ent72 (jisInf _) (decide_eq_false h1) rfl rfl ?_
          refine rI4 ?_
          refine lx_callB false rfl rfl ent72 (jisInf _) (decide_eq_false h2) rfl rfl ?_
          refine rI4 ?_
          refine x_false rfl ?_
          refine x_skip ?_
          refine xs_drawA (E := EE [2999999]) [0, 1, 2, 3, 4, 5, 6, 7, 8, 9, 10, 11] [⟨12, 5, 50, (fe 0 ++ fe 0).map U64⟩, ⟨13, 6, 50, (fe 0 ++ fe 0).map U64⟩] [14, 15] mixed rfl (by kernel_rfl) (by kernel_rfl) (by kernel_rfl) (by kernel_rfl) (by kernel_rfl) (by kernel_rfl) (by decide) (by intro x hx; simp only [List.mem_cons, List.not_mem_nil, or_false] at hx; rcases hx with rfl | rfl <;> exact isAlloc_mk rfl zv50 rfl) ?_
          refine rI4 ?_
          refine lc ent74 (jcube _) ?_
          refine rI4 ?_
          refine lc ent74 (jcube _) ?_
          refine rI4 ?_
          refine ⟨_, _, rfl, hGF, by intro x hx; simp only [List.mem_cons, List.not_mem_nil, or_false] at hx; rcases hx with rfl | rfl <;> rfl, by intro x hx; simp only [List.mem_cons, List.not_mem_nil, or_false] at hx; rcases hx with rfl | rfl <;> rfl, fun adr => ?_⟩
          refine rI4 ?_
          refine xs_drawn (E := EE []) mixed (by kernel_rfl) (by kernel_rfl) (by kernel_rfl) ?_
          refine rI4 ?_
          refine lx_callB true rfl rfl ent76 (e2equal _ _) (decide_eq_true h3) rfl rfl ?_
          refine rI4 ?_
          refine lx_callB true rfl rfl ent76 (e2equal _ _) (decide_eq_true h4) rfl rfl ?_
          refine rI4 ?_
          refine rt ?_
          exact kret_tmp rfl rfl (fun w hw => ⟨rfl, hp_below hw⟩)
        · skip
          obtain rfl : b = false := hb.trans (decide_eq_false (fun e => e.elim (fun e => h1 e.1) (fun e => h4 e.2.2.2)))
          refine calls_of_X (G := Gt) Tryz.func26 rfl rfl (Hp (pl w) []) (hp_refl (pl w) trivial rides_true) (good_hp hGF) ?_
          refine xp ?_
          refine lb fun b2 => ?_
          refine lb fun b3 => ?_
          refine rI4 ?_
          refine x_seq ?_
          refine pI4 ?_
          refine lx_callB false rfl rfl ent72 (jisInf _) (decide_eq_false h1) rfl rfl ?_
          refine rI4 ?_
          refine lx_callB false rfl rfl ent72 (jisInf _) (decide_eq_false h2) rfl rfl ?_
          refine rI4 ?_
          refine x_false rfl ?_
          refine x_skip ?_
          refine xs_drawA (E := EE [2999999]) [0, 1, 2, 3, 4, 5, 6, 7, 8, 9, 10, 11] [⟨12, 5, 50, (fe 0 ++ fe 0).map U64⟩, ⟨13, 6, 50, (fe 0 ++ fe 0).map U64⟩] [14, 15] mixed rfl (by kernel_rfl) (by kernel_rfl) (by kernel_rfl) (by kernel_rfl) (by kernel_rfl) (by kernel_rfl) (by decide) (by intro x hx; simp only [List.mem_cons, List.not_mem_nil, or_false] at hx; rcases hx with rfl | rfl <;> exact isAlloc_mk rfl zv50 rfl) ?_
          refine rI4 ?_
          refine lc ent74 (jcube _) ?_
          refine rI4 ?_
          refine lc ent74 (jcube _) ?_
          refine rI4 ?_
          refine ⟨_, _, rfl, hGF, by intro x hx; simp only [List.mem_cons, List.not_mem_nil, or_false] at hx; rcases hx with rfl | rfl <;> rfl, by intro x hx; simp only [List.mem_cons, List.not_mem_nil, or_false] at hx; rcases hx with rfl | rfl <;> rfl, fun adr => ?_⟩
          refine rI4 ?_
          refine xs_drawn (E := EE []) mixed (by kernel_rfl) (by kernel_rfl) (by kernel_rfl) ?_
          refine rI4 ?_
          refine lx_callB true rfl rfl ent76 (e2equal _ _) (decide_eq_true h3) rfl rfl ?_
          refine rI4 ?_
          refine lx_callB false rfl rfl ent76 (e2equal _ _) (decide_eq_false h4) rfl rfl ?_
          refine rI4 ?_
          refine rt ?_
          exact kret_tmp rfl rfl (fun w hw => ⟨rfl, hp_below hw⟩)
      · skip
        obtain rfl : b = false := hb.trans (decide_eq_false (fun e => e.elim (fun e => h1 e.1) (fun e => h3 e.2.2.1)))
        refine calls_of_X (G := Gt) Tryz.func26 rfl rfl (Hp (pl w) []) (hp_refl (pl w) trivial rides_true) (good_hp hGF) ?_
        refine xp ?_
        refine lb fun b2 => ?_
        refine lb fun b3 => ?_
        refine rI4 ?_
        refine x_seq ?_
        refine pI4 ?_
        refine lx_callB false rfl rfl ent72 (jisInf _) (decide_eq_false h1) rfl rfl ?_
        refine rI4 ?_
        refine lx_callB false rfl rfl ent72 (jisInf _) (decide_eq_false h2) rfl rfl ?_
        refine rI4 ?_
        refine x_false rfl ?_
        refine x_skip ?_
        refine xs_drawA (E := EE [2999999]) [0, 1, 2, 3, 4, 5, 6, 7, 8, 9, 10, 11] [⟨12, 5, 50, (fe 0 ++ fe 0).map U64⟩, ⟨13, 6, 50, (fe 0 ++ fe 0).map U64⟩] [14, 15] mixed rfl (by kernel_rfl) (by kernel_rfl) (by kernel_rfl) (by kernel_rfl) (by kernel_rfl) (by kernel_rfl) (by decide) (by intro x hx; simp only [List.mem_cons, List.not_mem_nil, or_false] at hx; rcases hx with rfl | rfl <;> exact isAlloc_mk rfl zv50 rfl) ?_
        refine rI4 ?_
        refine lc ent74 (jcube _) ?_
        refine rI4 ?_
        refine lc ent74 (jcube _) ?_
        refine rI4 ?_
        refine ⟨_, _, rfl, hGF, by intro x hx; simp only [List.mem_cons, List.not_mem_nil, or_false] at hx; rcases hx with rfl | rfl <;> rfl, by intro x hx; simp only [List.mem_cons, List.not_mem_nil, or_false] at hx; rcases hx with rfl | rfl <;> rfl, fun adr => ?_⟩
        refine rI4 ?_
        refine xs_drawn (E := EE []) mixed (by kernel_rfl) (by kernel_rfl) (by kernel_rfl) ?_
        refine rI4 ?_
        refine lx_callB false rfl rfl ent76 (e2equal _ _) (decide_eq_false h3) rfl rfl ?_
        refine rI4 ?_
        refine lx_skip rfl rfl rfl ?_
        refine lx_skip rfl rfl rfl ?_
        refine lx_skip rfl rfl rfl ?_
        refine rI4 ?_
        refine rt ?_
        exact kret_tmp rfl rfl (fun w hw => ⟨rfl, hp_below hw⟩)
theorem jxy_n (x : W6) (h : x.2.2 = ze2) : Pure Tryz.prog Gt 57 [EV6 x] (.tuple #[EV2 ze2, EV2 ze2, .bool false]) := by
  refine pure_X Tryz.func57 fun w hw hGF => ?_
  refine xp ?_
  refine lb fun b1 => ?_
  refine la zv50 fun b2 => ?_
  refine la zv50 fun b3 => ?_
  refine rI4 ?_
  refine x_seq ?_
  refine pI4 ?_
  refine lx_callB true rfl rfl ent72 (jisInf _) (decide_eq_true h) rfl rfl ?_
  refine lx_nil ?_
  refine x_true rfl ?_
  refine xp ?_
  refine lx_two0 two50 rfl rfl ?_
  refine lx_two0 two50 rfl rfl ?_
  refine rI4 ?_
  refine rt ?_
  exact kret_cct 2 3 rfl rfl rfl rfl rfl rfl Tryz.isAgg50 Tryz.sizeOf50 (by simp) (by simp) (fun w hw => ⟨rfl, hp_below hw⟩)
theorem jxy_s (x : W6) (h : ¬ x.2.2 = ze2) : Pure Tryz.prog Gt 57 [EV6 x] (.tuple #[EV2 (ml2 x.1 (ml2 (iv2 x.2.2) (iv2 x.2.2))), EV2 (ml2 x.2.1 (ml2 (ml2 (iv2 x.2.2) (iv2 x.2.2)) (iv2 x.2.2))), .bool true]) := by
  refine pure_X Tryz.func57 fun w hw hGF => ?_
  refine xp ?_
  refine lb fun b1 => ?_
  refine la zv50 fun b2 => ?_
  refine la zv50 fun b3 => ?_
  refine rI4 ?_
  refine x_seq ?_
  refine pI4 ?_
  refine lx_callB false rfl rfl ent72 (jisInf _) (decide_eq_false h) rfl rfl ?_
  refine lx_nil ?_
  refine x_false rfl ?_
  refine x_skip ?_
  refine pI4 ?_
  refine lc ent109 (e2inv _) ?_
  refine la zv50 fun b5 => ?_
  refine rI4 ?_
  refine pI4 ?_
  refine la zv50 fun b6 => ?_
  refine rI4 ?_
  refine xs_drawn (E := EE []) mixed (by kernel_rfl) (by kernel_rfl) (by kernel_rfl) ?_
  refine rI4 ?_
  refine rt ?_
  exact kret_cct 2 3 rfl rfl rfl rfl rfl rfl Tryz.isAgg50 Tryz.sizeOf50 (by simp) (by simp) (fun w hw => ⟨rfl, hp_below hw⟩)
theorem jfin (a b : W2) : Pure Tryz.prog Gt 63 [EV2 a, EV2 b] (EV6 (a, b, on2)) := by
  refine pure_X Tryz.func63 fun w hw hGF => ?_
  refine xp ?_
  refine lb fun b2 => ?_
  refine lb fun b3 => ?_
  refine la zj52 fun b4 => ?_
  refine lx_nil ?_
  refine xs_drawn (E := EE []) mixed (by kernel_rfl) (by kernel_rfl) (by kernel_rfl) ?_
  refine rI4 ?_
  refine lc ent114 (e2one) ?_
  refine lx_three012 three52 rfl rfl rfl (by simp) (by simp) (by simp) rfl rfl ?_
  refine rI4 ?_
  refine rt ?_
  exact kret_own 4 rfl rfl rfl Tryz.isAgg52 Tryz.sizeOf52 (by simp) (fun w hw => ⟨rfl, hp_below hw⟩)
theorem of4 : Pure Tryz.prog Gt 110 [U64 4#64] (EV (zp 4)) := fof_pure 4#64
theorem jright (a : W2) : Pure Tryz.prog Gt 87 [EV2 a] (EV2 (RS4 a)) := by
  refine pure_X Tryz.func87 fun w hw hGF => ?_
  refine xp ?_
  refine lb fun b1 => ?_
  refine la zv50 fun b2 => ?_
  refine lx_nil ?_
  refine pI4 ?_
  refine lc ent74 (jcube _) ?_
  refine lc ent110 (of4) ?_
  refine lc ent110 (of4) ?_
  refine lx_two two50 rfl rfl (by simp) (by simp) rfl rfl ?_
  refine lx_call rfl rfl ent127 (e2add _ (zp 4, zp 4)) rfl rfl ?_
  refine rI4 ?_
  refine rt ?_
  exact kret_own 2 rfl rfl rfl Tryz.isAgg50 Tryz.sizeOf50 (by simp) (fun w hw => ⟨rfl, hp_below hw⟩)
theorem jlift_yt (a s : W2) (hs : Pure Tryz.prog Gt 88 [EV2 (RS4 a)] (.tuple #[EV2 s, .bool true])) : Pure Tryz.prog Gt 32 [EV2 a, .bool true] (.tuple #[EV6 (a, ng2 s, on2), .bool true]) := by
  refine pure_X Tryz.func32 fun w hw hGF => ?_
  refine xp ?_
  refine lb fun b2 => ?_
  refine la zj52 fun b4 => ?_
  refine rI4 ?_
  refine pI4 ?_
  refine lc ent87 (jright _) ?_
  refine rI4 ?_
  refine la zv50 fun b6 => ?_
  refine rI4 ?_
  refine x_seq ?_
  refine pI4 ?_
  refine lx_un rfl (fun _ => un_not _) rfl rfl ?_
  refine lx_nil ?_
  refine x_false rfl ?_
  refine x_skip ?_
  refine x_seq ?_
  refine pI4 ?_
  refine x_true rfl ?_
  refine x_plain (E := EE []) ?_
  refine rI4 ?_
  refine pI4 ?_
  refine lc ent63 (jfin _ _) ?_
  refine rI4 ?_
  refine rt ?_
  exact kret_ct 4 rfl rfl rfl rfl Tryz.isAgg52 Tryz.sizeOf52 (by simp) (fun w hw => ⟨rfl, hp_below hw⟩)
theorem jlift_nt (a s : W2) (hs : Pure Tryz.prog Gt 88 [EV2 (RS4 a)] (.tuple #[EV2 s, .bool false])) : Pure Tryz.prog Gt 32 [EV2 a, .bool true] (.tuple #[EV6 (ze2, ze2, ze2), .bool false]) := by
  refine pure_X Tryz.func32 fun w hw hGF => ?_
  refine xp ?_
  refine lb fun b2 => ?_
  refine la zj52 fun b4 => ?_
  refine rI4 ?_
  refine pI4 ?_
  refine lc ent87 (jright _) ?_
  refine rI4 ?_
  refine la zv50 fun b6 => ?_
  refine rI4 ?_
  refine x_seq ?_
  refine pI4 ?_
  refine lx_un rfl (fun _ => un_not _) rfl rfl ?_
  refine lx_nil ?_
  refine x_true rfl ?_
  refine xp ?_
  refine lx_threeN three52 rfl rfl ?_
  refine rI4 ?_
  refine rt ?_
  exact kret_ct 4 rfl rfl rfl rfl Tryz.isAgg52 Tryz.sizeOf52 (by simp) (fun w hw => ⟨rfl, hp_below hw⟩)
theorem jlift_yf (a s : W2) (hs : Pure Tryz.prog Gt 88 [EV2 (RS4 a)] (.tuple #[EV2 s, .bool true])) : Pure Tryz.prog Gt 32 [EV2 a, .bool false] (.tuple #[EV6 (a, s, on2), .bool true]) := by
  refine pure_X Tryz.func32 fun w hw hGF => ?_
  refine xp ?_
  refine lb fun b2 => ?_
  refine la zj52 fun b4 => ?_
  refine rI4 ?_
  refine pI4 ?_
  refine lc ent87 (jright _) ?_
  refine rI4 ?_
  refine la zv50 fun b6 => ?_
  refine rI4 ?_
  refine x_seq ?_
  refine pI4 ?_
  refine lx_un rfl (fun _ => un_not _) rfl rfl ?_
  refine lx_nil ?_
  refine x_false rfl ?_
  refine x_skip ?_
  refine x_seq ?_
  refine pI4 ?_
  refine x_false rfl ?_
  refine x_skip ?_
  refine pI4 ?_
  refine lc ent63 (jfin _ _) ?_
  refine rI4 ?_
  refine rt ?_
  exact kret_ct 4 rfl rfl rfl rfl Tryz.isAgg52 Tryz.sizeOf52 (by simp) (fun w hw => ⟨rfl, hp_below hw⟩)
theorem jlift_nf (a s : W2) (hs : Pure Tryz.prog Gt 88 [EV2 (RS4 a)] (.tuple #[EV2 s, .bool false])) : Pure Tryz.prog Gt 32 [EV2 a, .bool false] (.tuple #[EV6 (ze2, ze2, ze2), .bool false]) := by
  refine pure_X Tryz.func32 fun w hw hGF => ?_
  refine xp ?_
  refine lb fun b2 => ?_
  refine la zj52 fun b4 => ?_
  refine rI4 ?_
  refine pI4 ?_
  refine lc ent87 (jright _) ?_
  refine rI4 ?_
  refine la zv50 fun b6 => ?_
  refine rI4 ?_
  refine x_seq ?_
  refine pI4 ?_
  refine lx_un rfl (fun _ => un_not _) rfl rfl ?_
  refine lx_nil ?_
  refine x_true rfl ?_
  refine xp ?_
  refine lx_threeN three52 rfl rfl ?_
  refine rI4 ?_
  refine rt ?_
  exact kret_ct 4 rfl rfl rfl rfl Tryz.isAgg52 Tryz.sizeOf52 (by simp) (fun w hw => ⟨rfl, hp_below hw⟩)
theorem bytes_pre {w : World} {b : Nat} {c : List Value} {xs : List (BitVec 8)} (h : w.rangeAt b 0 c) (ht : c.take xs.length = xs.map U8) : BytesAt w (some ⟨b, 0, none⟩) xs := by
  refine BytesAt.range fun j v hv => h j v ?_
  rw [← ht, List.getElem?_take] at hv
  split at hv
  · exact hv
  · cases hv
theorem jpart (s0 : ByteArray) (xs : List (BitVec 8)) (h0 : s0.data.toList = xs.map (fun x => UInt8.ofBitVec x)) : Pure Tryz.prog Gt 62 [.string s0] (EV (FV xs)) := by
  refine pure_X Tryz.func62 fun w hw hGF => ?_
  refine xs_plain (E := EE [1000022]) ?_
  refine la zv28 fun b2 => ?_
  refine lx_nil ?_
  refine xs_plain (E := EE [1000022]) ?_
  refine rI4 ?_
  refine lx_str 7 (xs := xs) rfl hGF rfl Tryz.underlying9 Tryz.underlying22 Tryz.underlying5 h0 rfl rfl (fun b7 c7 k7 e7 l7 t7 => ?_)
  refine lx_callC rfl rfl ent36 (fun w' hC hG => ffrom_calls _ _ xs w' hG (bytes_pre (hp_row (n := 7) rfl w' hC) t7)) rfl rfl ?_
  refine rI4 ?_
  refine la zv28 fun b3 => ?_
  refine rI4 ?_
  refine xs_plain (E := EE [1000022]) ?_
  refine rI4 ?_
  refine rt ?_
  exact kret_own 2 rfl rfl rfl Tryz.isAgg28 Tryz.sizeOf28 (by simp) (fun w hw => ⟨rfl, hp_below hw⟩)
def GX0 : List (BitVec 8) := [2#8, 74#8, 162#8, 178#8, 240#8, 143#8, 10#8, 145#8, 38#8, 8#8, 5#8, 39#8, 45#8, 197#8, 16#8, 81#8, 198#8, 228#8, 122#8, 212#8, 250#8, 64#8, 59#8, 2#8, 180#8, 81#8, 11#8, 100#8, 122#8, 227#8, 209#8, 119#8, 11#8, 172#8, 3#8, 38#8, 168#8, 5#8, 187#8, 239#8, 212#8, 128#8, 86#8, 200#8, 193#8, 33#8, 189#8, 184#8]
theorem GX0_v : FV GX0 = G2p.1.1 := by rw [FV, if_pos ⟨rfl, by decide +kernel⟩]; decide +kernel
theorem GX0_e {a : Zp} (ha : G2p.1.1 = a) (s0 : ByteArray) (h0 : s0.data.toList = GX0.map (fun x => UInt8.ofBitVec x)) : Pure Tryz.prog Gt 62 [.string s0] (EV a) := by
  have h := jpart s0 GX0 h0
  rw [GX0_v, ha] at h
  exact h
def GX1 : List (BitVec 8) := [19#8, 224#8, 43#8, 96#8, 82#8, 113#8, 159#8, 96#8, 125#8, 172#8, 211#8, 160#8, 136#8, 39#8, 79#8, 101#8, 89#8, 107#8, 208#8, 208#8, 153#8, 32#8, 182#8, 26#8, 181#8, 218#8, 97#8, 187#8, 220#8, 127#8, 80#8, 73#8, 51#8, 76#8, 241#8, 18#8, 19#8, 148#8, 93#8, 87#8, 229#8, 172#8, 125#8, 5#8, 93#8, 4#8, 43#8, 126#8]
theorem GX1_v : FV GX1 = G2p.1.2 := by rw [FV, if_pos ⟨rfl, by decide +kernel⟩]; decide +kernel
theorem GX1_e {a : Zp} (ha : G2p.1.2 = a) (s0 : ByteArray) (h0 : s0.data.toList = GX1.map (fun x => UInt8.ofBitVec x)) : Pure Tryz.prog Gt 62 [.string s0] (EV a) := by
  have h := jpart s0 GX1 h0
  rw [GX1_v, ha] at h
  exact h
def GY0 : List (BitVec 8) := [12#8, 229#8, 213#8, 39#8, 114#8, 125#8, 110#8, 17#8, 140#8, 201#8, 205#8, 198#8, 218#8, 46#8, 53#8, 26#8, 173#8, 253#8, 155#8, 170#8, 140#8, 189#8, 211#8, 167#8, 109#8, 66#8, 154#8, 105#8, 81#8, 96#8, 209#8, 44#8, 146#8, 58#8, 201#8, 204#8, 59#8, 172#8, 162#8, 137#8, 225#8, 147#8, 84#8, 134#8, 8#8, 184#8, 40#8, 1#8]
theorem GY0_v : FV GY0 = G2p.2.1 := by rw [FV, if_pos ⟨rfl, by decide +kernel⟩]; decide +kernel
theorem GY0_e {a : Zp} (ha : G2p.2.1 = a) (s0 : ByteArray) (h0 : s0.data.toList = GY0.map (fun x => UInt8.ofBitVec x)) : Pure Tryz.prog Gt 62 [.string s0] (EV a) := by
  have h := jpart s0 GY0 h0
  rw [GY0_v, ha] at h
  exact h
def GY1 : List (BitVec 8) := [6#8, 6#8, 196#8, 160#8, 46#8, 167#8, 52#8, 204#8, 50#8, 172#8, 210#8, 176#8, 43#8, 194#8, 139#8, 153#8, 203#8, 62#8, 40#8, 126#8, 133#8, 167#8, 99#8, 175#8, 38#8, 116#8, 146#8, 171#8, 87#8, 46#8, 153#8, 171#8, 63#8, 55#8, 13#8, 39#8, 92#8, 236#8, 29#8, 161#8, 170#8, 169#8, 7#8, 95#8, 240#8, 95#8, 121#8, 190#8]
theorem GY1_v : FV GY1 = G2p.2.2 := by rw [FV, if_pos ⟨rfl, by decide +kernel⟩]; decide +kernel
theorem GY1_e {a : Zp} (ha : G2p.2.2 = a) (s0 : ByteArray) (h0 : s0.data.toList = GY1.map (fun x => UInt8.ofBitVec x)) : Pure Tryz.prog Gt 62 [.string s0] (EV a) := by
  have h := jpart s0 GY1 h0
  rw [GY1_v, ha] at h
  exact h
theorem jgenL {a b c d : Zp} (ha : G2p.1.1 = a) (hb : G2p.1.2 = b) (hc : G2p.2.1 = c) (hd : G2p.2.2 = d) : Pure Tryz.prog Gt 21 [] (EV6 ((a, b), (c, d), on2)) := by
  refine pure_X Tryz.func21 fun w hw hGF => ?_
  refine xp ?_
  refine la zj52 fun b0 => ?_
  refine lx_nil ?_
  refine xp ?_
  refine lc ent62 (GX0_e ha _ rfl) ?_
  refine lc ent62 (GX1_e hb _ rfl) ?_
  refine lx_two two50 rfl rfl (by simp) (by simp) rfl rfl ?_
  refine la zv50 fun b1 => ?_
  refine rI4 ?_
  refine xp ?_
  refine lc ent62 (GY0_e hc _ rfl) ?_
  refine lc ent62 (GY1_e hd _ rfl) ?_
  refine lx_two two50 rfl rfl (by simp) (by simp) rfl rfl ?_
  refine la zv50 fun b2 => ?_
  refine rI4 ?_
  refine pI4 ?_
  refine lx_call rfl rfl ent63 (jfin (a, b) (c, d)) rfl rfl ?_
  refine rI4 ?_
  refine rt ?_
  exact kret_own 0 rfl rfl rfl Tryz.isAgg52 Tryz.sizeOf52 (by simp) (fun w hw => ⟨rfl, hp_below hw⟩)
theorem jgen : Pure Tryz.prog Gt 21 [] (EV6 (G2p.1, G2p.2, on2)) := jgenL rfl rfl rfl rfl
end J2
end Go.Proofs.YtamddkjccmhgaaaGreatDoor

namespace Go.Proofs.YtamddkjccmhgaaaGreatDoor
open Go.RowKit
set_option maxRecDepth 100000
set_option maxHeartbeats 1000000
theorem ent117 : Enters Tryz.prog 117 := fun _ _ => by kernel_rfl
namespace J2
attribute [local simp] fe_len nm_len AS_len SS_len MONT_len RM_len FRs_len BYs_len by48_len PLl TWOl ONEl N1l IVPl HFPl RTPl FL_len SP_len fe2_len SP2_len FM_len
theorem rI6 {Q P : Prop} (k : Q) (h : Q → P := by intro k; (refine LY.run ?_); (repeat (first | refine y_move rfl rfl rfl ?_ | refine y_assign rfl rfl rfl ?_ | ((refine fl52_0L rfl rfl ?_ rfl rfl rfl rfl ?_); (· simp)) | ((refine fl52_1M rfl rfl ?_ ?_ rfl rfl rfl rfl ?_); (· simp); (· simp)) | ((refine fl52_2S rfl rfl ?_ ?_ ?_ rfl rfl rfl rfl ?_); (· simp); (· simp); (· simp)) | ((refine ra52 rfl rfl ?_ rfl rfl ?_); (· simp)) | ((refine ra28 rfl rfl ?_ rfl rfl ?_); (· simp)) | ((refine sa52 hGF rfl rfl rfl ?_ ?_ (one_u64 _) rfl ?_); (· simp); (· simp)) | ((refine sa28 hGF rfl rfl rfl ?_ ?_ (one_u64 _) rfl ?_); (· simp); (· simp)) | refine y_call (f := 131) rfl rfl ent131 (e2conj _) rfl rfl ?_ | refine y_pick rfl rfl rfl rfl rfl ?_)); (first | refine y_nil ?_ | refine LY.mk ?_); exact k) : P := h k
theorem pI6 {Q P : Prop} (k : Q) (h : Q → P := by intro k; (refine xp ?_); (refine rI6 ?_); exact k) : P := h k
attribute [local simp] GL_len

/-- Is the bit set? the highest is the first. -/
def pb (bs : List (BitVec 8)) (m : Nat) : Bool := decide (pbit bs m = 1#8)
abbrev oB (bs : List (BitVec 8)) (m : Nat) : List Nat := oL (pb bs) (8 * bs.length) m
/-- The places as values. -/
def NLs (l : List Nat) : List (List Value) := l.map fun n : Nat => [I (n : Int)]
theorem NLs_len (l : List Nat) : (NLs l).length = l.length := by simp [NLs]
theorem pb_at (bs : List (BitVec 8)) (i j : Nat) (hj : j < 8) : bs.getD i 0 >>> (7 - j) &&& 1#8 = pbit bs (8 * i + j) := by
  rw [pbit, show (8 * i + j) / 8 = i by omega, show (8 * i + j) % 8 = j by omega]
theorem pb_y {bs : List (BitVec 8)} {m : Nat} (h : pbit bs m = 1#8) : pb bs m = true := decide_eq_true h
theorem pb_n {bs : List (BitVec 8)} {m : Nat} (h : ¬ pbit bs m = 1#8) : ¬ pb bs m = true := fun e => h (of_decide_eq_true e)
theorem oB_at {bs : List (BitVec 8)} {m : Nat} (hm : m < 8 * bs.length) (h : pbit bs m = 1#8) : (NLs (oB bs (8 * bs.length)))[(oB bs m).length]? = some [I ((8 * bs.length - 1 - m : Nat) : Int)] := by
  rw [NLs, List.getElem?_map, oL_at hm (pb_y h)]
  rfl
theorem oB_y {bs : List (BitVec 8)} {m : Nat} (h : pbit bs m = 1#8) : (oB bs (m + 1)).length = (oB bs m).length + 1 := oL_ly (pb_y h)
theorem oB_n {bs : List (BitVec 8)} {m : Nat} (h : ¬ pbit bs m = 1#8) : (oB bs (m + 1)).length = (oB bs m).length := oL_ln (pb_n h)
theorem vN_B (bs : List (BitVec 8)) : ∀ m, vN (pb bs) m = BTn bs m
  | 0 => rfl
  | m + 1 => by
    rw [vN, vN_B bs m, BTn]
    rcases bit_one bs m with ⟨h, e⟩ | ⟨h, e⟩
    · rw [if_pos (pb_y h), e]
    · rw [if_neg (pb_n h), e]
theorem oB_sum (bs : List (BitVec 8)) : SOg (oB bs (8 * bs.length)) = BN bs bs.length := by rw [oL_all, vN_B, BTn_eight]
theorem RdD_grow {bb : Nat} {e : Option Addr} {cap : Nat} {bs : List (BitVec 8)} {w w' : World} (h : RdD bb e cap bs w) (hg : Grow w w') : RdD bb e cap bs w' := ⟨(hg.cell (block_lt_of_cell h.1)).trans h.1, h.2.grow hg⟩
theorem g1bits_calls (sv : Value) (hs : sv.cells = #[sv]) (w : World) (hw : Gt w) : Calls Tryz.prog 65 [sv].toArray w (fun e w' => ∃ b1, e = .returned (.func (.func 117) #[] #[.pointer (some ⟨b1, 0, none⟩)]) ∧ Grow w w' ∧ w.heap.size ≤ b1 ∧ OwnB w' b1 [sv] 22) := by
  have hGF : BOk Gt (pl w) := gt_low.plain hw
  refine calls_of_X (G := Gt) Tryz.func65 rfl rfl (Hp (pl w) []) (hp_refl (pl w) trivial rides_true) (good_hp hGF) ?_
  refine xp ?_
  refine lx_box 1 hGF rfl rfl rfl ?_
  intro b1
  refine rI6 ?_
  refine xp ?_
  refine lx_func rfl rfl rfl rfl ?_
  refine rI6 ?_
  refine rt ?_
  exact kret_tmp rfl rfl (fun w hw => ⟨b1, rfl, hp_below hw, (hw.own 1 b1 _ _ rfl).2.elim id False.elim, (by have := (hw.own 1 b1 _ _ rfl).1; rw [hs] at this; exact this)⟩)
theorem g1bits_seq (bb : Nat) (e : Option Addr) (cap : Nat) (bs : List (BitVec 8)) (hlen : bs.length ≤ 1000000) : SeqOk Tryz.prog Gt 117 [.pointer (some ⟨bb, 0, none⟩)] (NLs (oB bs (8 * bs.length))) (RdD bb e cap bs) := by
  intro l J Jx hJ hJx hRd hGx hY w hj
  have okJ : ∀ k, BOk Gt (Bi w (fun Y => J Y k)) := fun k => ⟨fun _ _ _ h => (hRd _ _ _ h.rid).1, hJ k⟩
  have okX : ∀ k, BOk Gt (Bi w (fun Y => Jx Y k)) := fun k => ⟨fun _ _ _ h => hGx _ _ _ h.rid, hJx k⟩
  have c1 : ∀ k L w', Hp (Bi w (fun Y => J Y k)) L w' → RdD bb e cap bs w' := fun k L w' h => (hRd _ _ _ h.rid).2
  have hby := (hRd _ _ _ hj).2.2
  refine calls_of_X (G := Gt) Tryz.func117 rfl rfl (Hp (Bi w (fun Y => J Y 0)) []) (hp_refl (Bi w _) hj (hJ 0)) (good_hp (okJ 0)) ?_
  refine xp ?_
  refine lx_load rfl Tryz.isAgg22 (fun w h => (c1 _ _ w h).1) rfl rfl ?_
  refine lx_len rfl (fun _ => len_slice Tryz.underlying22 _ _ _ _) rfl rfl ?_
  refine rI6 ?_
  refine x_block ?_
  refine x_forB (ι := { i : Nat // i ≤ bs.length }) (fun x => [(0, .func (.yield l) #[] #[]), (1, .pointer (some ⟨bb, 0, none⟩)), (6, .slice e bs.length cap), (7, I (bs.length : Int)), (8, I (x.1 : Int))]) (fun x => Bi w (fun Y => J Y (oB bs (8 * x.1)).length)) (fun x => []) (fun x => bs.length - x.1) ⟨0, Nat.zero_le _⟩ (fun _ => okJ _) rfl ⟨rfl, rfl, rfl, rfl, rfl, trivial⟩ trivial ?_
  rintro ⟨i, hi⟩
  dsimp only
  refine xp ?_
  refine lx_bin rfl rfl (fun _ => rfl) (fun _ => bin_lss_i _ _ _) rfl rfl ?_
  refine lx_nil ?_
  refine x_seq ?_
  refine x_if rfl (fun hc => ?_) (fun hc => ?_)
  · have hi2 : i < bs.length := by simp at hc; omega
    refine x_skip ?_
    refine x_seq ?_
    refine x_block ?_
    refine pI6 ?_
    obtain ⟨ad, rfl, _⟩ := hby i _ (gm U8 bs 0 i (by omega))
    refine lx_isA i rfl rfl Tryz.underlying22 Tryz.sizeOf5 rfl (by omega) rfl rfl ?_
    refine lx_load rfl Tryz.isAgg5 (fun w' h => by obtain ⟨ad', e', hc'⟩ := (c1 _ _ w' h).2 i _ (gm U8 bs 0 i (by omega)); cases e'; exact hc') rfl rfl ?_
    refine rI6 ?_
    refine pI6 ?_
    refine x_block ?_
    refine x_forB (ι := { j : Nat // j ≤ 8 }) (fun x => [(0, .func (.yield l) #[] #[]), (1, .pointer (some ⟨bb, 0, none⟩)), (6, .slice (some ad) bs.length cap), (7, I (bs.length : Int)), (8, I (i : Int)), (3, I (i : Int)), (4, U8 (bs.getD i 0)), (5, I (7 - (x.1 : Int)))]) (fun x => Bi w (fun Y => J Y (oB bs (8 * i + x.1)).length)) (fun x => []) (fun x => 8 - x.1) ⟨0, Nat.zero_le _⟩ (fun _ => okJ _) rfl ⟨rfl, rfl, rfl, rfl, rfl, rfl, rfl, rfl, trivial⟩ trivial ?_
    rintro ⟨j, hj⟩
    dsimp only
    by_cases h1 : pbit bs (8 * i + j) = 1#8
    · skip
      refine x_seq ?_
      refine pI6 ?_
      refine lx_bin (v := .bool (decide (j < 8))) rfl rfl (fun _ => rfl) (fun _ => (bin_geq_i _ _ _).trans (by rw [show decide ((7 - (j : Int)) ≥ 0) = decide (j < 8) from decide_eq_decide.2 (by omega)])) rfl rfl ?_
      refine lx_nil ?_
      refine x_if rfl (fun hc => ?_) (fun hc => ?_)
      · have hj2 : j < 8 := by simpa using hc
        refine x_skip ?_
        refine x_seq ?_
        refine x_block ?_
        refine pI6 ?_
        refine lx_bin (v := U8 (bs.getD i 0 >>> (7 - j))) rfl rfl (fun _ => rfl) (fun _ => (bin_shr_i_u8 _ _ _ (by omega)).trans (by rw [show (7 - (j : Int)).toNat = 7 - j by omega])) rfl rfl ?_
        refine lx_bin (v := U8 (pbit bs (8 * i + j))) rfl rfl (fun _ => rfl) (fun _ => (bin_and_u8 _ _ 1#8).trans (by rw [pb_at bs i j hj2])) rfl rfl ?_
        refine lx_bin (v := .bool true) rfl rfl (fun _ => rfl) (fun w => (bin_eql_u8 _ _ _).trans (congrArg (fun b => Result.ok (Value.bool b) w) (beq_iff_eq.2 h1))) rfl rfl ?_
        refine rI6 ?_
        refine lx_load rfl Tryz.isAgg22 (fun w h => (c1 _ _ w h).1) rfl rfl ?_
        refine lx_len rfl (fun _ => len_slice Tryz.underlying22 _ _ _ _) rfl rfl ?_
        refine lx_bin (v := I ((bs.length : Int) - 1)) rfl rfl (fun _ => rfl) (fun _ => bin_sub_i _ _ _ (by unfold inI; omega)) rfl rfl ?_
        refine rI6 ?_
        refine lx_bin (v := I ((bs.length - 1 - i : Nat) : Int)) rfl rfl (fun _ => rfl) (fun _ => (bin_sub_i _ _ _ (by unfold inI; omega)).trans (by rw [show (bs.length : Int) - 1 - (i : Int) = ((bs.length - 1 - i : Nat) : Int) by omega])) rfl rfl ?_
        refine lx_bin (v := I ((8 * (bs.length - 1 - i) : Nat) : Int)) rfl rfl (fun _ => rfl) (fun _ => (bin_mul_i _ _ _ (by unfold inI; omega)).trans (by rw [show (8 : Int) * ((bs.length - 1 - i : Nat) : Int) = ((8 * (bs.length - 1 - i) : Nat) : Int) by omega])) rfl rfl ?_
        refine rI6 ?_
        refine lx_bin (v := I ((8 * bs.length - 1 - (8 * i + j) : Nat) : Int)) rfl rfl (fun _ => rfl) (fun _ => (bin_add_i _ _ _ (by unfold inI; omega)).trans (by rw [show ((8 * (bs.length - 1 - i) : Nat) : Int) + (7 - (j : Int)) = ((8 * bs.length - 1 - (8 * i + j) : Nat) : Int) by omega])) rfl rfl ?_
        refine lx_yield (hY.b (k := (oB bs (8 * i + j)).length) (oB_at (by omega) h1) w) (okJ _) (okX _) rfl rfl rfl rfl rfl ?_ ?_
        · skip
          refine lx_un rfl (fun _ => un_not _) rfl rfl ?_
          refine rI6 ?_
          refine x_false rfl ?_
          refine x_skip ?_
          refine x_plain (E := EE []) ?_
          refine rI6 ?_
          refine lx_bin (v := I (7 - ((j + 1 : Nat) : Int))) rfl rfl (fun _ => rfl) (fun _ => (bin_sub_i _ _ _ (by unfold inI; omega)).trans (by rw [show 7 - (j : Int) - 1 = 7 - ((j + 1 : Nat) : Int) by omega])) rfl rfl ?_
          refine rI6 ?_
          repeat (refine kblk_n ?_)
          refine kseq_n ?_
          rw [← oB_y h1]
          exact ⟨rfl, ⟨j + 1, by omega⟩, _, by show 8 - (j + 1) < 8 - j; omega, rfl, ⟨rfl, rfl, rfl, rfl, rfl, rfl, rfl, rfl, trivial⟩, trivial⟩
        · skip
          refine lx_un rfl (fun _ => un_not _) rfl rfl ?_
          refine rI6 ?_
          refine x_true rfl ?_
          refine rt ?_
          repeat (first | refine kseq_x ?_ | refine kblk_x ?_ | refine kblk_p rfl ?_ | refine kseq_ret ?_ | refine kblk_ret ?_)
          exact kret_none rfl (fun w hw => ⟨⟨_, rfl⟩, .inr ⟨_, drop_yof (hJx _) hw.rid⟩⟩)
      · obtain rfl : j = 8 := by simp at hc; omega
        refine x_exit ?_
        refine x_plain (E := EE []) ?_
        refine lx_bin rfl rfl (fun _ => rfl) (fun _ => bin_add_i _ _ _ (by unfold inI; omega)) rfl rfl ?_
        refine rI6 ?_
        repeat (refine kblk_n ?_)
        refine kseq_n ?_
        exact ⟨rfl, ⟨i + 1, by omega⟩, _, by show bs.length - (i + 1) < bs.length - i; omega, rfl, ⟨rfl, rfl, rfl, rfl, rfl, trivial⟩, trivial⟩
    · skip
      refine x_seq ?_
      refine xs_plain (E := EE [3000000]) ?_
      refine rI6 ?_
      refine lx_bin (v := .bool (decide (j < 8))) rfl rfl (fun _ => rfl) (fun _ => (bin_geq_i _ _ _).trans (by rw [show decide ((7 - (j : Int)) ≥ 0) = decide (j < 8) from decide_eq_decide.2 (by omega)])) rfl rfl ?_
      refine lx_nil ?_
      refine x_if rfl (fun hc => ?_) (fun hc => ?_)
      · have hj2 : j < 8 := by simpa using hc
        refine x_skip ?_
        refine x_seq ?_
        refine x_block ?_
        refine xs_plain (E := EE [3000000]) ?_
        refine rI6 ?_
        refine lx_bin (v := U8 (bs.getD i 0 >>> (7 - j))) rfl rfl (fun _ => rfl) (fun _ => (bin_shr_i_u8 _ _ _ (by omega)).trans (by rw [show (7 - (j : Int)).toNat = 7 - j by omega])) rfl rfl ?_
        refine lx_bin (v := U8 (pbit bs (8 * i + j))) rfl rfl (fun _ => rfl) (fun _ => (bin_and_u8 _ _ 1#8).trans (by rw [pb_at bs i j hj2])) rfl rfl ?_
        refine lx_bin (v := .bool false) rfl rfl (fun _ => rfl) (fun w => (bin_eql_u8 _ _ _).trans (congrArg (fun b => Result.ok (Value.bool b) w) (beq_eq_false_iff_ne.2 h1))) rfl rfl ?_
        refine rI6 ?_
        refine lx_skip rfl rfl rfl ?_
        refine lx_skip rfl rfl rfl ?_
        refine lx_skip rfl rfl rfl ?_
        refine lx_skip rfl rfl rfl ?_
        refine lx_skip rfl rfl rfl ?_
        refine lx_skip rfl rfl rfl ?_
        refine lx_skip rfl rfl rfl ?_
        refine lx_skip rfl rfl rfl ?_
        refine lx_skip rfl rfl rfl ?_
        refine lx_skip rfl rfl rfl ?_
        refine lx_skip rfl rfl rfl ?_
        refine rI6 ?_
        refine x_false rfl ?_
        refine x_skip ?_
        refine x_plain (E := EE [3000000]) ?_
        refine rI6 ?_
        refine lx_bin (v := I (7 - ((j + 1 : Nat) : Int))) rfl rfl (fun _ => rfl) (fun _ => (bin_sub_i _ _ _ (by unfold inI; omega)).trans (by rw [show 7 - (j : Int) - 1 = 7 - ((j + 1 : Nat) : Int) by omega])) rfl rfl ?_
        refine rI6 ?_
        repeat (refine kblk_n ?_)
        refine kseq_n ?_
        rw [← oB_n h1]
        exact ⟨rfl, ⟨j + 1, by omega⟩, _, by show 8 - (j + 1) < 8 - j; omega, rfl, ⟨rfl, rfl, rfl, rfl, rfl, rfl, rfl, rfl, trivial⟩, trivial⟩
      · obtain rfl : j = 8 := by simp at hc; omega
        refine x_exit ?_
        refine x_plain (E := EE [3000000]) ?_
        refine lx_bin rfl rfl (fun _ => rfl) (fun _ => bin_add_i _ _ _ (by unfold inI; omega)) rfl rfl ?_
        refine rI6 ?_
        repeat (refine kblk_n ?_)
        refine kseq_n ?_
        exact ⟨rfl, ⟨i + 1, by omega⟩, _, by show bs.length - (i + 1) < bs.length - i; omega, rfl, ⟨rfl, rfl, rfl, rfl, rfl, trivial⟩, trivial⟩
  · obtain rfl : i = bs.length := by simp at hc; omega
    refine x_exit ?_
    repeat (first | refine kseq_x ?_ | refine kblk_x ?_ | refine kblk_p rfl ?_ | refine kseq_ret ?_ | refine kblk_ret ?_)
    refine kend_none rfl (fun w hw => ⟨⟨_, rfl⟩, .inl ?_⟩)
    have := drop_yof (hJ _) hw.rid
    rw [NLs_len]
    exact this
theorem jdoubled (x : W6) (n : Int) (hn : n ≤ 1000000000) : Pure Tryz.prog Gt 115 [EV6 x, I n] (EV6 (E2w.dbN x n.toNat)) := by
  refine pure_X Tryz.func115 fun w hw hGF => ?_
  refine xp ?_
  refine lb fun b2 => ?_
  refine la zj52 fun b4 => ?_
  refine lx_nil ?_
  refine x_seq ?_
  refine pI6 ?_
  refine x_block ?_
  refine x_for (ι := { i : Nat // i ≤ n.toNat }) (fun y => [(2, .pointer (some ⟨b2, 0, none⟩)), (4, .pointer (some ⟨b4, 0, none⟩)), (5, I n), (6, I (y.1 : Int))]) (fun y => [(2, b2, ((fe ((E2w.dbN x y.1).1).1 ++ fe ((E2w.dbN x y.1).1).2) ++ ((fe ((E2w.dbN x y.1).2.1).1 ++ fe ((E2w.dbN x y.1).2.1).2) ++ (fe ((E2w.dbN x y.1).2.2).1 ++ fe ((E2w.dbN x y.1).2.2).2))).map U64, 52), (4, b4, ((fe 0 ++ fe 0) ++ ((fe 0 ++ fe 0) ++ (fe 0 ++ fe 0))).map U64, 52)]) (fun y => n.toNat - y.1) ⟨0, Nat.zero_le _⟩ hGF ⟨rfl, rfl, rfl, rfl, trivial⟩ ⟨rfl, rfl, trivial⟩ ?_
  rintro ⟨i, hi⟩
  dsimp only
  refine xp ?_
  refine lx_bin (v := .bool (decide ((i : Int) < n))) rfl rfl (fun _ => rfl) (fun _ => bin_lss_i _ _ _) rfl rfl ?_
  refine lx_nil ?_
  refine x_seq ?_
  refine x_if rfl (fun hc => ?_) (fun hc => ?_)
  · have hi2 : i < n.toNat := by simp at hc; omega
    refine x_skip ?_
    refine x_seq ?_
    refine x_block ?_
    refine x_plain (E := EE []) ?_
    refine rI6 ?_
    refine lx_call rfl rfl ent146 (jdbl (E2w.dbN x i)) rfl rfl ?_
    refine rI6 ?_
    refine x_plain (E := EE []) ?_
    refine lx_bin rfl rfl (fun _ => rfl) (fun _ => bin_add_i _ _ _ (by unfold inI; omega)) rfl rfl ?_
    refine rI6 ?_
    repeat (refine kblk_n ?_)
    refine kseq_n ?_
    exact ⟨rfl, ⟨i + 1, by omega⟩, _, by show n.toNat - (i + 1) < n.toNat - i; omega, rfl, ⟨rfl, rfl, rfl, rfl, trivial⟩, ⟨rfl, rfl, trivial⟩⟩
  · obtain rfl : i = n.toNat := by simp at hc; omega
    refine x_exit ?_
    refine pI6 ?_
    refine rt ?_
    exact kret_own 4 rfl rfl rfl Tryz.isAgg52 Tryz.sizeOf52 (by simp) (fun w hw => ⟨rfl, hp_below hw⟩)
theorem jdbN (x : W6) (a : Nat) (ha : a < 100000000) : Pure Tryz.prog Gt 115 [EV6 x, I (a : Int)] (EV6 (E2w.dbN x a)) := by
  have h := jdoubled x (a : Int) (by omega)
  rw [Int.toNat_natCast] at h
  exact h
theorem jdbS (x : W6) (a b : Nat) (ha : a < 100000000) : Pure Tryz.prog Gt 115 [EV6 x, I ((a : Int) - (b : Int))] (EV6 (E2w.dbN x (a - b))) := by
  have h := jdoubled x ((a : Int) - (b : Int)) (by omega)
  rw [Int.toNat_sub] at h
  exact h
theorem NLs_get {L : List Nat} {k : Nat} {v : List Value} (h : (NLs L)[k]? = some v) : ∃ n : Nat, L[k]? = some n ∧ [I (n : Int)] = v := by
  rw [NLs, List.getElem?_map] at h
  cases e : L[k]? with
  | none => rw [e] at h; cases h
  | some y => rw [e] at h; exact ⟨y, rfl, Option.some.inj h⟩
theorem jtimes_calls (x : W6) (gf : Nat) (caps : List Value) (L : List Nat) (Rd : Cls) (he : Enters Tryz.prog gf) (hseq : SeqOk Tryz.prog Gt gf caps (NLs L) Rd) (hL : ∀ b ∈ L, b < 100000000) (w : World) (hw : Gt w) (hRs : ∀ w', Grow w w' → Rd w') :
    Calls Tryz.prog 64 [EV6 x, .func (.func gf) #[] caps.toArray].toArray w (fun r w' => r = .returned (EV6 (E2w.tmF x L)) ∧ Grow w w') := by
  have hGF : BOk Gt (pl w) := gt_low.plain hw
  refine calls_of_XM (G := Gt) Tryz.func64 rfl rfl (Hp (pl w) []) (hp_refl (pl w) trivial rides_true) (good_hp hGF) ?_
  refine xp ?_
  refine lb fun b2 => ?_
  refine la zj52 fun b4 => ?_
  refine lx_nil ?_
  refine xp ?_
  refine la zj52 fun b5 => ?_
  refine lx_nil ?_
  refine xp ?_
  refine lx_alloc 6 hGF Tryz.zeroValue3 rfl rfl ?_
  intro b6
  refine lx_store 6 hGF rfl rfl rfl Tryz.sizeOf3 rfl (by first | decide | simp) rfl ?_
  refine lx_nil ?_
  refine x_seq ?_
  refine pI6 ?_
  refine x_block ?_
  refine x_range (fun _ => pl w) (fun _ _ => pl w) (fun _ => hGF) (fun _ _ => hGF) (fun _ => rfl) (fun _ _ => rfl) rfl rfl he hseq (fun x hx => by obtain ⟨k, hk, rfl⟩ := List.mem_map.1 hx; rfl) rfl (fun k => [(2, b2, ((fe ((x).1).1 ++ fe ((x).1).2) ++ ((fe ((x).2.1).1 ++ fe ((x).2.1).2) ++ (fe ((x).2.2).1 ++ fe ((x).2.2).2))).map U64, 52), (4, b4, ((fe 0 ++ fe 0) ++ ((fe 0 ++ fe 0) ++ (fe 0 ++ fe 0))).map U64, 52), (5, b5, ((fe (((E2w.stK x L k).1).1).1 ++ fe (((E2w.stK x L k).1).1).2) ++ ((fe (((E2w.stK x L k).1).2.1).1 ++ fe (((E2w.stK x L k).1).2.1).2) ++ (fe (((E2w.stK x L k).1).2.2).1 ++ fe (((E2w.stK x L k).1).2.2).2))).map U64, 52), (6, b6, [I ((E2w.stK x L k).2 : Int)], 3)]) (fun _ _ _ => False) ⟨rfl, rfl, rfl, rfl, trivial⟩ (fun k _ w' h => hRs w' (h.below (fun _ h => h))) ?_ ?_ (fun _ _ _ _ _ h => h.elim)
  · intro k v hx R hR
    obtain ⟨n, hn, rfl⟩ := NLs_get hx
    have hk : k < L.length := (List.getElem?_eq_some_iff.1 hn).1
    have hb := E2w.stK_lt x (by omega) hL k (Nat.le_of_lt hk)
    have hn2 := hL n (List.mem_of_getElem? hn)
    refine x_plain (E := EE []) ?_
    refine rI6 ?_
    refine ⟨rfl, _, rfl, ?_⟩
    refine x_block ?_
    refine xs_drawn (E := EE []) mixed (by kernel_rfl) (by kernel_rfl) (by kernel_rfl) ?_
    refine rI6 ?_
    refine lx_loadl 6 rfl rfl rfl Tryz.isAgg3 rfl rfl ?_
    refine rI6 ?_
    refine lx_bin (v := I (((E2w.stK x L k).2 : Int) - (n : Int))) rfl rfl (fun _ => rfl) (fun _ => bin_sub_i _ _ _ (by unfold inI; omega)) rfl rfl ?_
    refine lx_call rfl rfl ent115 (jdbS (E2w.stK x L k).1 (E2w.stK x L k).2 n hb) rfl rfl ?_
    refine rI6 ?_
    refine lc ent116 (jadd _ _) ?_
    refine lx_storea 5 (hR (pl w) rfl hGF).2.1 rfl rfl rfl Tryz.sizeOf52 (by simp) (by simp) (one_u64 _) rfl ?_
    refine lx_nil ?_
    refine x_plain (E := EE []) ?_
    refine rI6 ?_
    refine lx_store 6 (hR (pl w) rfl hGF).2.1 rfl rfl rfl Tryz.sizeOf3 rfl (by first | decide | simp) rfl ?_
    refine lx_nil ?_
    repeat (refine kblk_n ?_)
    exact ⟨_, rfl, ⟨rfl, rfl, by rw [E2w.stK_1 x hn]; rfl, by rw [E2w.stK_2 x hn]; rfl, trivial⟩⟩
  · intro D hD
    have hb := E2w.stK_lt x (by omega) hL L.length (Nat.le_refl _)
    rw [NLs_len]
    refine pI6 ?_
    refine lx_loadl 6 rfl rfl rfl Tryz.isAgg3 rfl rfl ?_
    refine lx_call rfl rfl ent115 (jdbN (E2w.stK x L L.length).1 (E2w.stK x L L.length).2 hb) rfl rfl ?_
    refine lx_storea 4 hD rfl rfl rfl Tryz.sizeOf52 (by simp) (by simp) (one_u64 _) rfl ?_
    refine lx_nil ?_
    refine rt ?_
    exact kretM_1 (.inl rfl) rides_true (kret_own 4 rfl rfl rfl Tryz.isAgg52 Tryz.sizeOf52 (by simp) (fun w hw => ⟨rfl, hp_below hw⟩))
def mlB (x : W6) (bs : List (BitVec 8)) : W6 := E2w.tmF x (oB bs (8 * bs.length))
theorem mlB_jr {x : W6} {P : Pt W2} (hP : E2w.onP P) (hx : E2w.jr x P) {bs : List (BitVec 8)} {m : Nat} (hm : BN bs bs.length = m) : E2w.jr (mlB x bs) (E2w.times P m) := by
  subst hm
  rw [← oB_sum]; exact E2w.tmF_jr hP hx (oL_pw _ _ _ (Nat.le_refl _))
theorem jmul_calls (x : W6) (e : Option Addr) (cap : Nat) (bs : List (BitVec 8)) (hlen : bs.length ≤ 1000000) (w : World) (hw : Gt w) (hby : BytesAt w e bs) :
    Calls Tryz.prog 22 [EV6 x, .slice e bs.length cap].toArray w (fun r w' => r = .returned (EV6 (mlB x bs)) ∧ Grow w w') := by
  have hGF : BOk Gt (pl w) := gt_low.plain hw
  refine calls_of_X (G := Gt) Tryz.func22 rfl rfl (Hp (pl w) []) (hp_refl (pl w) trivial rides_true) (good_hp hGF) ?_
  refine xs_plain (E := EE [65, 2000065]) ?_
  refine lb fun b2 => ?_
  refine la zj52 fun b4 => ?_
  refine lx_nil ?_
  refine xs_drawn (E := EE [65, 2000065]) mixed (by kernel_rfl) (by kernel_rfl) (by kernel_rfl) ?_
  refine rI6 ?_
  refine lx_callG rfl rfl ent65 rfl rfl (fun w' hw' => (g1bits_calls _ rfl w' (hGF.g _ _ _ hw')).mono fun e' w'' h => ?_)
  obtain ⟨c1, rfl, hg, h1, ho⟩ := h
  refine ⟨_, _, rfl, good_hp hGF, hw'.news rides_true hg [(33, c1, [.slice e bs.length cap], 22)] ?_ inj_one, hp_fresh rides_true rfl, ?_⟩
  · intro n' b' c' t' hl
    rcases lkB_cons hl with ⟨_, e⟩ | ⟨_, hl⟩
    · cases e; exact ⟨h1, ho⟩
    · cases hl
  clear hw' hg h1 ho
  refine lx_callC rfl rfl ent64 (fun w' hC hG => jtimes_calls x 117 [.pointer (some ⟨c1, 0, none⟩)] (oB bs (8 * bs.length)) (RdD c1 e cap bs) ent117 (g1bits_seq c1 e cap bs (by omega)) (fun b hb => by have := oL_lt hb (Nat.le_refl _); omega) w' hG (fun w'' hg => RdD_grow ⟨hp_cell (n := 33) rfl rfl w' hC, hby.grow (hC.below (fun _ h => h))⟩ hg)) rfl rfl ?_
  refine rI6 ?_
  refine rt ?_
  exact kret_own 4 rfl rfl rfl Tryz.isAgg52 Tryz.sizeOf52 (by simp) (fun w hw => ⟨rfl, hp_below hw⟩)
def TBX : List (BitVec 8) := [26#8, 1#8, 17#8, 234#8, 57#8, 127#8, 230#8, 153#8, 236#8, 2#8, 64#8, 134#8, 99#8, 212#8, 222#8, 133#8, 170#8, 13#8, 133#8, 125#8, 137#8, 117#8, 154#8, 212#8, 137#8, 125#8, 41#8, 101#8, 15#8, 184#8, 95#8, 155#8, 64#8, 148#8, 39#8, 235#8, 79#8, 73#8, 255#8, 253#8, 139#8, 253#8, 0#8, 0#8, 0#8, 0#8, 170#8, 173#8]
theorem TBX_v : FV TBX = TX2.2 := by rw [FV, if_pos ⟨rfl, by decide +kernel⟩]; decide +kernel
theorem TBX_e {a : Zp} (ha : TX2.2 = a) (s0 : ByteArray) (h0 : s0.data.toList = TBX.map (fun x => UInt8.ofBitVec x)) : Pure Tryz.prog Gt 62 [.string s0] (EV a) := by
  have h := jpart s0 TBX h0
  rw [TBX_v, ha] at h
  exact h
def TBY : List (BitVec 8) := [19#8, 82#8, 3#8, 230#8, 1#8, 128#8, 166#8, 142#8, 226#8, 233#8, 196#8, 72#8, 215#8, 122#8, 44#8, 217#8, 28#8, 61#8, 237#8, 217#8, 48#8, 177#8, 207#8, 96#8, 239#8, 57#8, 100#8, 137#8, 246#8, 30#8, 180#8, 94#8, 48#8, 68#8, 102#8, 207#8, 62#8, 103#8, 250#8, 10#8, 241#8, 238#8, 123#8, 4#8, 18#8, 27#8, 222#8, 162#8]
theorem TBY_v : FV TBY = TY2.1 := by rw [FV, if_pos ⟨rfl, by decide +kernel⟩]; decide +kernel
theorem TBY_e {a : Zp} (ha : TY2.1 = a) (s0 : ByteArray) (h0 : s0.data.toList = TBY.map (fun x => UInt8.ofBitVec x)) : Pure Tryz.prog Gt 62 [.string s0] (EV a) := by
  have h := jpart s0 TBY h0
  rw [TBY_v, ha] at h
  exact h
def UB8 : List (BitVec 8) := [210#8, 1#8, 0#8, 0#8, 0#8, 1#8, 0#8, 0#8]
theorem UB8_n : BN UB8 UB8.length = UG := by decide +kernel
theorem jmulU {f : W6 → W6} (hf : ∀ x, mlB x UB8 = f x) (x : W6) (b c : Nat) (w : World) (hw : Gt w) (h : w.rangeAt b 0 (UB8.map U8)) : Calls Tryz.prog 22 [EV6 x, .slice (some ⟨b, 0, none⟩) UB8.length c].toArray w (fun r w' => r = .returned (EV6 (f x)) ∧ Grow w w') := by
  have k := jmul_calls x (some ⟨b, 0, none⟩) c UB8 (by decide) w hw (BytesAt.range h)
  rw [hf] at k
  exact k
/-- Conjugates, turned. -/
def tuJ (c d : W2) (x : W6) : W6 := (ml2 (cj2 x.1) c, ml2 (cj2 x.2.1) d, cj2 x.2.2)
theorem tu_jr {c d : W2} {x : W6} {p : W2 × W2} (hx : E2w.jr x (some p)) : E2w.jr (tuJ c d x) (some (ml2 c (cj2 p.1), ml2 d (cj2 p.2))) := by
  have h1 : x.1 = ml2 p.1 (ml2 x.2.2 x.2.2) := hx.2.1
  have h2 : x.2.1 = ml2 p.2 (ml2 (ml2 x.2.2 x.2.2) x.2.2) := hx.2.2
  refine ⟨fun e => hx.1 (cj2_inj0 e), ?_, ?_⟩
  · show ml2 (cj2 x.1) c = ml2 (ml2 c (cj2 p.1)) (ml2 (cj2 x.2.2) (cj2 x.2.2))
    rw [h1, cj2_mul, cj2_mul]
    generalize cj2 p.1 = a
    generalize cj2 x.2.2 = z
    exact Rg.same (R := R2) (ρ := ev R2 [a, z, c]) (tm (tm (tv 0) (tm (tv 1) (tv 1))) (tv 2)) (tm (tm (tv 2) (tv 0)) (tm (tv 1) (tv 1))) (by kernel_rfl)
  · show ml2 (cj2 x.2.1) d = ml2 (ml2 d (cj2 p.2)) (ml2 (ml2 (cj2 x.2.2) (cj2 x.2.2)) (cj2 x.2.2))
    rw [h2, cj2_mul, cj2_mul, cj2_mul]
    generalize cj2 p.2 = a
    generalize cj2 x.2.2 = z
    exact Rg.same (R := R2) (ρ := ev R2 [a, z, d]) (tm (tm (tv 0) (tm (tm (tv 1) (tv 1)) (tv 1))) (tv 2)) (tm (tm (tv 2) (tv 0)) (tm (tm (tv 1) (tv 1)) (tv 1))) (by kernel_rfl)
theorem tu_none {c d : W2} {x : W6} (hx : E2w.jr x none) : E2w.jr (tuJ c d x) none := by
  have h : x.2.2 = ze2 := hx
  show cj2 x.2.2 = ze2
  rw [h]; exact TW2.f0
theorem TW2_some (p : W2 × W2) : TW2.p (some p) = some (ml2 TX2 (cj2 p.1), ml2 TY2 (cj2 p.2)) := congrArg some (TW2_m p)
theorem tuJ_jr {x : W6} {P : Pt W2} (hx : E2w.jr x P) : E2w.jr (tuJ TX2 TY2 x) (TW2.p P) := by
  cases P with
  | none => exact tu_none hx
  | some p => rw [TW2_some]; exact tu_jr hx
abbrev ngJ (x : W6) : W6 := (x.1, ng2 x.2.1, x.2.2)
theorem ing_G {bs : List (BitVec 8)} {m : Nat} (hm : BN bs bs.length = m) {x : W6} {P : Pt W2} (hP : E2w.onP P) (hx : E2w.jr x P) : E2w.eqJ (ngJ (mlB x bs)) (tuJ TX2 TY2 x) ↔ E2w.ne (E2w.times P m) = TW2.p P := E2w.eqJ_iff (E2w.jr_n (mlB_jr hP hx hm)) (tuJ_jr hx)
theorem ing_iff {x : W6} {P : Pt W2} (hP : E2w.onP P) (hx : E2w.jr x P) : E2w.eqJ (ngJ (mlB x UB8)) (tuJ TX2 TY2 x) ↔ E2w.times P ORD = none := (ing_G UB8_n hP hx).trans (g2_in hP)
theorem jmovedL {c d : Zp} (hc : TX2.2 = c) (hd : TY2.1 = d) (x : W6) : Pure Tryz.prog Gt 89 [EV6 x] (EV6 (tuJ (0, c) (d, -d) x)) := by
  refine pure_X Tryz.func89 fun w hw hGF => ?_
  refine xp ?_
  refine lb fun b1 => ?_
  refine la zj52 fun b2 => ?_
  refine lx_nil ?_
  refine xp ?_
  refine lc ent62 (TBX_e hc _ rfl) ?_
  refine lc ent62 (TBY_e hd _ rfl) ?_
  refine la zv28 fun b3 => ?_
  refine la zv28 fun b4 => ?_
  refine rI6 ?_
  refine xs_drawn (E := EE []) mixed (by kernel_rfl) (by kernel_rfl) (by kernel_rfl) ?_
  refine rI6 ?_
  refine lx_twoB two50 rfl (by simp) rfl rfl ?_
  refine lx_call rfl rfl ent73 (e2mul _ (0, c)) rfl rfl ?_
  refine rI6 ?_
  refine lc ent66 (fneg_pure _) ?_
  refine lx_two two50 rfl rfl (by simp) (by simp) rfl rfl ?_
  refine lx_call rfl rfl ent73 (e2mul _ (d, -d)) rfl rfl ?_
  refine rI6 ?_
  refine lx_three012 three52 rfl rfl rfl (by simp) (by simp) (by simp) rfl rfl ?_
  refine rI6 ?_
  refine rt ?_
  exact kret_own 2 rfl rfl rfl Tryz.isAgg52 Tryz.sizeOf52 (by simp) (fun w hw => ⟨rfl, hp_below hw⟩)
theorem TX2_eq : ((0 : Zp), TX2.2) = TX2 := rfl
theorem TY2_eq : (TY2.1, -TY2.1) = TY2 := by decide +kernel
theorem jmoved {t : W6 → W6} (ht : ∀ x, tuJ TX2 TY2 x = t x) (x : W6) : Pure Tryz.prog Gt 89 [EV6 x] (EV6 (t x)) := by
  have h := jmovedL rfl rfl x
  rw [TX2_eq, TY2_eq, ht] at h
  exact h
theorem jing {f : W6 → W6} (hf : ∀ x, mlB x UB8 = f x) {t : W6 → W6} (ht : ∀ x, tuJ TX2 TY2 x = t x) (x : W6) (hd : Decidable (E2w.eqJ (ngJ (f x)) (t x))) (b : Bool) (hb : b = decide (E2w.eqJ (ngJ (f x)) (t x))) : Pure Tryz.prog Gt 33 [EV6 x] (.bool b) := by
  refine pure_X Tryz.func33 fun w hw hGF => ?_
  refine xs_plain (E := EE [1000022]) ?_
  refine lb fun b1 => ?_
  refine rI6 ?_
  refine xs_tree (EE [2999998, 2999996, 1000022]) mixed (by kernel_rfl) (by kernel_rfl) ?_
  refine tr_pre (m := 7) [0, 5] (by kernel_rfl) ?_
  refine rI6 ?_
  refine tr_pre (m := 6) [1] (by kernel_rfl) ?_
  refine lx_bslG 4 UB8 hGF rfl rfl rfl rfl (by decide) (by decide) Tryz.underlying22 Tryz.sizeOf5 Tryz.zeroValue5 rfl rfl ?_
  intro b4
  refine lx_nil ?_
  refine tr_pre (m := 5) [2] (by kernel_rfl) ?_
  refine lx_cvsG 4 rfl hGF rfl rfl Tryz.underlying22 Tryz.underlying5 rfl rfl ?_
  refine lx_nil ?_
  refine tr_pre (m := 0) [3, 4, 6, 7, 8] (by kernel_rfl) ?_
  refine lx_callC rfl rfl ent22 (fun w' hC hG => jmulU hf _ _ _ w' hG (hp_row (n := 4) rfl w' hC)) rfl rfl ?_
  refine lc ent24 (jneg _) ?_
  refine lc ent89 (jmoved ht x) ?_
  refine lc ent26 (jequal _ _ hd b hb) ?_
  refine rI6 ?_
  refine tr_nil (by kernel_rfl) ?_
  refine kseq_n ?_
  refine rt ?_
  exact kret_tmp rfl rfl (fun w hw => ⟨rfl, hp_below hw⟩)
def gInf : GP := ⟨(ze2, ze2, ze2), none, True.intro, rfl⟩
def gGen : GP := ⟨(G2p.1, G2p.2, on2), some G2p, onP_some G2_on, g2_jr⟩
def gNeg (p : GP) : GP := ⟨(p.J.1, ng2 p.J.2.1, p.J.2.2), E2w.ne p.P, E2w.ne_on p.on, E2w.jr_n p.jr⟩
def gAff (x y : W2) (h : ml2 y y = RS4 x) : GP := ⟨(x, y, on2), some (x, y), onP_some (E1_rs.2 h), jr2_at (x, y)⟩
def gRt (x r : W2) (hr : ml2 r r = RS4 x) (l : Bool) : GP := gAff x (sgY r l) (sgY_sq hr l)
theorem zv52 (w : World) : (zeroValue 52).run Tryz.prog w = .ok (PtV gInf) w := zj52 w
theorem xy_eq {J : W6} {P : Pt W2} (h : E2w.jr J P) (hn : ¬ P = none) : ml2 J.1 (ml2 (iv2 J.2.2) (iv2 J.2.2)) = PX P ∧ ml2 J.2.1 (ml2 (ml2 (iv2 J.2.2) (iv2 J.2.2)) (iv2 J.2.2)) = PY P := by
  cases P with
  | none => exact absurd rfl hn
  | some p => exact E2w.xy_w h (E2w.hi _ h.1)
theorem gen_p  : Pure Tryz.prog Gt 21 [] (PtV gGen) := jgen
theorem inf_p  : Pure Tryz.prog Gt 55 [] (PtV gInf) := jinf
theorem isInf_p (p : GP) : Pure Tryz.prog Gt 72 [PtV p] (.bool (decide (p.P = none))) := by
  have h := jisInf p.J
  rw [show decide (p.J.2.2 = ze2) = decide (p.P = none) from decide_eq_decide.2 (E2w.jr_zI p.jr)] at h
  exact h
theorem equal_p (p q : GP) : Pure Tryz.prog Gt 26 [PtV p, PtV q] (.bool (decide (p.P = q.P))) := 
  have hd : Decidable (E2w.eqJ p.J q.J) := decidable_of_iff _ (E2w.eqJ_iff p.jr q.jr).symm
  jequal p.J q.J hd _ (decide_eq_decide.2 (E2w.eqJ_iff p.jr q.jr).symm)
theorem neg_p (p : GP) : Pure Tryz.prog Gt 24 [PtV p] (PtV (gNeg p)) := jneg p.J
theorem xy_n (p : GP) (h : p.P = none) : Pure Tryz.prog Gt 57 [PtV p] (.tuple #[EV2 ze2, EV2 ze2, .bool false]) := jxy_n p.J ((E2w.jr_zI p.jr).2 h)
theorem xy_s (p : GP) (h : ¬ p.P = none) : Pure Tryz.prog Gt 57 [PtV p] (.tuple #[EV2 (PX p.P), EV2 (PY p.P), .bool true]) := by
  have k := jxy_s p.J (fun e => h ((E2w.jr_zI p.jr).1 e))
  have e := xy_eq p.jr h
  rw [e.1, e.2] at k
  exact k
theorem lift_y (x r : W2) (hr : ml2 r r = RS4 x) (hl : LG2 r = false) (l : Bool) : Pure Tryz.prog Gt 32 [EV2 x, .bool l] (.tuple #[PtV (gRt x r hr l), .bool true]) := by
  cases l with
  | true => exact jlift_yt x r (e2sqrtY _ r hr hl)
  | false => exact jlift_yf x r (e2sqrtY _ r hr hl)
theorem lift_n (x : W2) (l : Bool) (h : ¬ LQ x) : Pure Tryz.prog Gt 32 [EV2 x, .bool l] (.tuple #[PtV gInf, .bool false]) := by
  cases l with
  | true => exact jlift_nt x _ (e2sqrtN _ h)
  | false => exact jlift_nf x _ (e2sqrtN _ h)
theorem inGroup_p (p : GP) : Pure Tryz.prog Gt 33 [PtV p] (.bool (decide (E2w.times p.P ORD = none))) := 
  have hd : Decidable (E2w.eqJ (ngJ (mlB p.J UB8)) (tuJ TX2 TY2 p.J)) := decidable_of_iff _ (ing_iff p.on p.jr).symm
  jing (fun _ => rfl) (fun _ => rfl) p.J hd _ (decide_eq_decide.2 (ing_iff p.on p.jr).symm)
end J2
end Go.Proofs.YtamddkjccmhgaaaGreatDoor
