/-
  The program's points.
  The program's points.
-/
import Derived.Test.YtamddkjccmhgaaaGreatDoorXB
import Derived.Test.YtamddkjccmhgaaaGreatDoorX5
import Derived.Test.YtamddkjccmhgaaaGreatDoorX4
import Derived.Test.YtamddkjccmhgaaaGreatDoorX3
namespace Go.Proofs.YtamddkjccmhgaaaGreatDoor
open Go.RowKit
set_option maxRecDepth 100000
set_option maxHeartbeats 1000000
theorem ent69 : Enters Tryz.prog 69 := fun _ _ => by kernel_rfl
theorem ent59 : Enters Tryz.prog 59 := fun _ _ => by kernel_rfl
theorem ent112 : Enters Tryz.prog 112 := fun _ _ => by kernel_rfl
theorem ent145 : Enters Tryz.prog 145 := fun _ _ => by kernel_rfl
theorem ent34 : Enters Tryz.prog 34 := fun _ _ => by kernel_rfl
theorem ent46 : Enters Tryz.prog 46 := fun _ _ => by kernel_rfl
theorem ent31 : Enters Tryz.prog 31 := fun _ _ => by kernel_rfl
theorem ent19 : Enters Tryz.prog 19 := fun _ _ => by kernel_rfl
theorem ent111 : Enters Tryz.prog 111 := fun _ _ => by kernel_rfl
theorem ent30 : Enters Tryz.prog 30 := fun _ _ => by kernel_rfl
theorem ent61 : Enters Tryz.prog 61 := fun _ _ => by kernel_rfl
theorem ent23 : Enters Tryz.prog 23 := fun _ _ => by kernel_rfl
theorem ent25 : Enters Tryz.prog 25 := fun _ _ => by kernel_rfl
theorem ent28 : Enters Tryz.prog 28 := fun _ _ => by kernel_rfl
theorem ent60 : Enters Tryz.prog 60 := fun _ _ => by kernel_rfl
theorem ent20 : Enters Tryz.prog 20 := fun _ _ => by kernel_rfl
theorem ent85 : Enters Tryz.prog 85 := fun _ _ => by kernel_rfl
namespace J1
attribute [local simp] fe_len nm_len AS_len SS_len MONT_len RM_len FRs_len BYs_len by48_len PLl TWOl ONEl N1l IVPl HFPl RTPl FL_len SP_len fe2_len SP2_len FM_len

/-- A point of the program: three numbers that stand for a point of the curve. -/
structure GP where
  J : Zp × Zp × Zp
  P : Pt Zp
  on : E1.onP P
  jr : E1.jr J P
/-- Its cells. -/
def GL (p : GP) : List (BitVec 64) := fe p.J.1 ++ (fe p.J.2.1 ++ fe p.J.2.2)
theorem GL_len (p : GP) : (GL p).length = 18 := by simp [GL]
attribute [local simp] GL_len
/-- A point of the program as a value. -/
abbrev PtV (p : GP) : Value := .agg ((GL p).map U64).toArray
def PX : Pt Zp → Zp
  | none => 0
  | some p => p.1
def PY : Pt Zp → Zp
  | none => 0
  | some p => p.2
/-- The right side of the curve's equation; is it a square? -/
def RS4 (x : Zp) : Zp := x * x * x + zp 4
abbrev LQ (x : Zp) : Prop := SQr (RS4 x) * SQr (RS4 x) = RS4 x
/-- The y that is asked for. -/
def LY (x : Zp) (l : Bool) : Zp := if decide (hf < (SQ (RS4 x)).val) = l then SQ (RS4 x) else -(SQ (RS4 x))
theorem E1_rs {x y : Zp} : E1.on (x, y) ↔ y * y = RS4 x := by
  show y * y = x * (x * x) + zp 4 ↔ y * y = x * x * x + zp 4
  rw [show x * (x * x) = x * x * x from by grind]
theorem neg_sq (a : Zp) : -a * -a = a * a := by grind
theorem LY_or (x : Zp) (l : Bool) : LY x l = SQ (RS4 x) ∨ LY x l = -(SQ (RS4 x)) := by
  rw [LY]
  generalize SQ (RS4 x) = s
  by_cases h : decide (hf < s.val) = l
  · exact .inl (if_pos h)
  · exact .inr (if_neg h)
theorem LY_sq {x : Zp} (h : LQ x) (l : Bool) : LY x l * LY x l = RS4 x := by
  have e := SQ_sq h
  rcases LY_or x l with k | k
  · rw [k, e]
  · rw [k, neg_sq, e]
theorem onP_some {p : Zp × Zp} (h : E1.on p) : E1.onP (some p) := h
theorem LY_f {a : Zp} (h : LQ a) : LY a false = SQ (RS4 a) := if_pos (decide_eq_false (SQ_small h))
theorem LY_t {a : Zp} (h : LQ a) : LY a true = -(SQ (RS4 a)) := if_neg (by rw [decide_eq_false (SQ_small h)]; exact Bool.false_ne_true)
theorem LY_on {x : Zp} (h : LQ x) (l : Bool) : E1.onP (some (x, LY x l)) := onP_some (E1_rs.2 (LY_sq h l))
/-- Three numbers as a value. -/
abbrev JV (J : Zp × Zp × Zp) : Value := .agg ((fe (J.1) ++ (fe (J.2.1) ++ fe (J.2.2))).map U64).toArray
theorem zj30 (w : World) : (zeroValue 30).run Tryz.prog w = .ok (.agg ((fe 0 ++ (fe 0 ++ fe 0)).map U64).toArray) w := by rw [fe_0]; exact (Tryz.zeroValue30 w).trans (by rfl)
theorem three30 : Three Tryz.prog 30 ⟨ "x", 28, 0, false, "", "pharos/g1", 0⟩ ⟨ "y", 28, 6, false, "", "pharos/g1", 48⟩ ⟨ "z", 28, 12, false, "", "pharos/g1", 96⟩ 6 (fe 0) (fe 0) (fe 0) := ⟨Tryz.underlying30, rfl, rfl, rfl, Tryz.sizeOf28, Tryz.sizeOf28, Tryz.sizeOf28, zj30, by simp, by simp, by simp⟩
theorem jsub (a b : Zp) : a - b = E1.sub a b := by show a - b = a + -b; grind
theorem fsubE (x y : Zp) : Pure Tryz.prog Gt 118 [EV x, EV y] (EV (E1.sub x y)) := by
  have h := fsub_pure x y
  rw [jsub] at h
  exact h
theorem jisInf (x : Zp × Zp × Zp) : Pure Tryz.prog Gt 28 [JV x] (.bool (decide (x.2.2 = 0))) := by
  intro w hw
  have hGF : BOk Gt (pl w) := gt_low.plain hw
  refine calls_of_X (G := Gt) Tryz.func28 rfl rfl (Hp (pl w) []) (hp_refl (pl w) trivial rides_true) (good_hp hGF) ?_
  refine xs_plain (E := EE []) ?_
  refine lx_boxr 1 hGF rfl rfl rfl ?_
  intro b1
  refine lx_assign rfl rfl rfl ?_
  refine lx_nil ?_
  refine xs_plain (E := EE []) ?_
  refine lx_fak 12 rfl Tryz.underlying30 rfl Tryz.sizeOf28 (by decide) rfl rfl rfl ?_
  refine lx_loado 1 _ rfl rfl Tryz.isAgg28 Tryz.sizeOf28 (by simp) (ld_rr (m := 6) (n := 6) (by simp) (by simp) rfl) rfl rfl ?_
  refine lx_call rfl rfl ent81 (fisZero_pure _) rfl rfl ?_
  refine lx_assign rfl rfl rfl ?_
  refine lx_nil ?_
  refine x_ret ?_
  repeat (first | refine kseq_ret ?_ | refine kblk_ret ?_)
  exact kret_tmp rfl rfl (fun w hw => ⟨rfl, hp_below hw⟩)
theorem jneg (x : Zp × Zp × Zp) : Pure Tryz.prog Gt 23 [JV x] (JV (x.1, -x.2.1, x.2.2)) := by
  intro w hw
  have hGF : BOk Gt (pl w) := gt_low.plain hw
  refine calls_of_X (G := Gt) Tryz.func23 rfl rfl (Hp (pl w) []) (hp_refl (pl w) trivial rides_true) (good_hp hGF) ?_
  refine xs_plain (E := EE []) ?_
  refine lx_boxr 1 hGF rfl rfl rfl ?_
  intro b1
  refine lx_allocr 2 hGF zj30 rfl rfl ?_
  intro b2
  refine lx_nil ?_
  refine xs_drawn (E := EE []) mixed (by kernel_rfl) (by kernel_rfl) (by kernel_rfl) ?_
  refine lx_fak 0 rfl Tryz.underlying30 rfl Tryz.sizeOf28 (by decide) rfl rfl rfl ?_
  refine lx_loado 1 _ rfl rfl Tryz.isAgg28 Tryz.sizeOf28 (by simp) ld_l rfl rfl ?_
  refine lx_fak 6 rfl Tryz.underlying30 rfl Tryz.sizeOf28 (by decide) rfl rfl rfl ?_
  refine lx_loado 1 _ rfl rfl Tryz.isAgg28 Tryz.sizeOf28 (by simp) (ld_m (by simp)) rfl rfl ?_
  refine lx_call rfl rfl ent66 (fneg_pure _) rfl rfl ?_
  refine lx_fak 12 rfl Tryz.underlying30 rfl Tryz.sizeOf28 (by decide) rfl rfl rfl ?_
  refine lx_loado 1 _ rfl rfl Tryz.isAgg28 Tryz.sizeOf28 (by simp) (ld_rr (m := 6) (n := 6) (by simp) (by simp) rfl) rfl rfl ?_
  refine lx_three012 three30 rfl rfl rfl (by simp) (by simp) (by simp) rfl rfl ?_
  refine lx_storea 2 hGF rfl rfl rfl Tryz.sizeOf30 (by simp) (by simp) (one_u64 _) rfl ?_
  refine lx_nil ?_
  refine x_ret ?_
  repeat (first | refine kseq_ret ?_ | refine kblk_ret ?_)
  exact kret_own 2 rfl rfl rfl Tryz.isAgg30 Tryz.sizeOf30 (by simp) (fun w hw => ⟨rfl, hp_below hw⟩)
theorem jinf  : Pure Tryz.prog Gt 34 [] (JV (0, 0, 0)) := by
  intro w hw
  have hGF : BOk Gt (pl w) := gt_low.plain hw
  refine calls_of_X (G := Gt) Tryz.func34 rfl rfl (Hp (pl w) []) (hp_refl (pl w) trivial rides_true) (good_hp hGF) ?_
  refine xs_plain (E := EE []) ?_
  refine lx_allocr 0 hGF zj30 rfl rfl ?_
  intro b0
  refine lx_nil ?_
  refine xs_plain (E := EE []) ?_
  refine lx_threeN three30 rfl rfl ?_
  refine lx_storea 0 hGF rfl rfl rfl Tryz.sizeOf30 (by simp) (by simp) (one_u64 _) rfl ?_
  refine lx_nil ?_
  refine x_ret ?_
  repeat (first | refine kseq_ret ?_ | refine kblk_ret ?_)
  exact kret_own 0 rfl rfl rfl Tryz.isAgg30 Tryz.sizeOf30 (by simp) (fun w hw => ⟨rfl, hp_below hw⟩)
theorem jcube (a : Zp) : Pure Tryz.prog Gt 69 [EV a] (EV (a * a * a)) := by
  intro w hw
  have hGF : BOk Gt (pl w) := gt_low.plain hw
  refine calls_of_X (G := Gt) Tryz.func69 rfl rfl (Hp (pl w) []) (hp_refl (pl w) trivial rides_true) (good_hp hGF) ?_
  refine xs_plain (E := EE []) ?_
  refine lx_boxr 1 hGF rfl rfl rfl ?_
  intro b1
  refine lx_allocr 2 hGF zv28 rfl rfl ?_
  intro b2
  refine lx_nil ?_
  refine xs_drawn (E := EE []) mixed (by kernel_rfl) (by kernel_rfl) (by kernel_rfl) ?_
  refine lx_loada 1 rfl rfl Tryz.isAgg28 Tryz.sizeOf28 (by simp) rfl rfl ?_
  refine lx_call rfl rfl ent70 (fsquare_pure _) rfl rfl ?_
  refine lx_loada 1 rfl rfl Tryz.isAgg28 Tryz.sizeOf28 (by simp) rfl rfl ?_
  refine lx_call rfl rfl ent68 (fmul_pure _ _) rfl rfl ?_
  refine lx_storea 2 hGF rfl rfl rfl Tryz.sizeOf28 (by simp) (by simp) (one_u64 _) rfl ?_
  refine lx_nil ?_
  refine x_ret ?_
  repeat (first | refine kseq_ret ?_ | refine kblk_ret ?_)
  exact kret_own 2 rfl rfl rfl Tryz.isAgg28 Tryz.sizeOf28 (by simp) (fun w hw => ⟨rfl, hp_below hw⟩)
/-- Doubled, as the program doubles. -/
def dbF (x : Zp × Zp × Zp) : Zp × Zp × Zp :=
  let a := x.2.1 + x.2.1
  let s := x.1 * x.1
  let u := s + s + s
  let h := a * a
  let b := h * x.1
  let X := E1.sub (E1.sub (u * u) b) b
  (X, E1.sub (u * E1.sub b X) (h * a * x.2.1), x.2.2 * a)
theorem jdbl (x : Zp × Zp × Zp) : Pure Tryz.prog Gt 145 [JV x] (JV (dbF x)) := by
  intro w hw
  have hGF : BOk Gt (pl w) := gt_low.plain hw
  refine calls_of_X (G := Gt) Tryz.func145 rfl rfl (Hp (pl w) []) (hp_refl (pl w) trivial rides_true) (good_hp hGF) ?_
  refine xs_plain (E := EE []) ?_
  refine lx_boxr 1 hGF rfl rfl rfl ?_
  intro b1
  refine lx_allocr 2 hGF zj30 rfl rfl ?_
  intro b2
  refine lx_nil ?_
  refine xs_drawA (E := EE [2999999]) [0, 1, 2, 3, 4, 5, 6, 7] [⟨8, 3, 28, (List.replicate 6 0#64).map U64⟩, ⟨9, 4, 28, (List.replicate 6 0#64).map U64⟩] [10, 11] mixed rfl (by kernel_rfl) (by kernel_rfl) (by kernel_rfl) (by kernel_rfl) (by kernel_rfl) (by kernel_rfl) (by decide) (by intro x hx; simp only [List.mem_cons, List.not_mem_nil, or_false] at hx; rcases hx with rfl | rfl <;> exact isAlloc_mk rfl zv28 rfl) ?_
  refine lx_fak 6 rfl Tryz.underlying30 rfl Tryz.sizeOf28 (by decide) rfl rfl rfl ?_
  refine lx_loado 1 _ rfl rfl Tryz.isAgg28 Tryz.sizeOf28 (by simp) (ld_m (by simp)) rfl rfl ?_
  refine lx_fak 6 rfl Tryz.underlying30 rfl Tryz.sizeOf28 (by decide) rfl rfl rfl ?_
  refine lx_loado 1 _ rfl rfl Tryz.isAgg28 Tryz.sizeOf28 (by simp) (ld_m (by simp)) rfl rfl ?_
  refine lx_call rfl rfl ent83 (fadd_pure _ _) rfl rfl ?_
  refine lx_fak 0 rfl Tryz.underlying30 rfl Tryz.sizeOf28 (by decide) rfl rfl rfl ?_
  refine lx_loado 1 _ rfl rfl Tryz.isAgg28 Tryz.sizeOf28 (by simp) ld_l rfl rfl ?_
  refine lx_call rfl rfl ent70 (fsquare_pure _) rfl rfl ?_
  refine lx_nil ?_
  refine ⟨_, _, rfl, hGF, by intro x hx; simp only [List.mem_cons, List.not_mem_nil, or_false] at hx; rcases hx with rfl | rfl <;> rfl, by intro x hx; simp only [List.mem_cons, List.not_mem_nil, or_false] at hx; rcases hx with rfl | rfl <;> rfl, fun adr => ?_⟩
  refine lx_storea 3 hGF rfl rfl rfl Tryz.sizeOf28 (by simp) (by simp) (one_u64 _) rfl ?_
  refine lx_storea 4 hGF rfl rfl rfl Tryz.sizeOf28 (by simp) (by simp) (one_u64 _) rfl ?_
  refine lx_nil ?_
  refine xs_drawA (E := EE [2999999]) [0, 1, 2, 3, 4] [⟨5, 5, 28, (List.replicate 6 0#64).map U64⟩] [6] mixed rfl (by kernel_rfl) (by kernel_rfl) (by kernel_rfl) (by kernel_rfl) (by kernel_rfl) (by kernel_rfl) (by decide) (by intro x hx; simp only [List.mem_cons, List.not_mem_nil, or_false] at hx; subst hx; exact isAlloc_mk rfl zv28 rfl) ?_
  refine lx_loada 4 rfl rfl Tryz.isAgg28 Tryz.sizeOf28 (by simp) rfl rfl ?_
  refine lx_loada 4 rfl rfl Tryz.isAgg28 Tryz.sizeOf28 (by simp) rfl rfl ?_
  refine lx_call rfl rfl ent83 (fadd_pure _ _) rfl rfl ?_
  refine lx_loada 4 rfl rfl Tryz.isAgg28 Tryz.sizeOf28 (by simp) rfl rfl ?_
  refine lx_call rfl rfl ent83 (fadd_pure _ _) rfl rfl ?_
  refine lx_nil ?_
  refine ⟨_, _, rfl, hGF, by intro x hx; simp only [List.mem_cons, List.not_mem_nil, or_false] at hx; subst hx; rfl, by intro x hx; simp only [List.mem_cons, List.not_mem_nil, or_false] at hx; subst hx; rfl, fun adr => ?_⟩
  refine lx_storea 5 hGF rfl rfl rfl Tryz.sizeOf28 (by simp) (by simp) (one_u64 _) rfl ?_
  refine lx_nil ?_
  refine xs_plain (E := EE []) ?_
  refine lx_loada 3 rfl rfl Tryz.isAgg28 Tryz.sizeOf28 (by simp) rfl rfl ?_
  refine lx_call rfl rfl ent70 (fsquare_pure _) rfl rfl ?_
  refine lx_allocr 6 hGF zv28 rfl rfl ?_
  intro b6
  refine lx_storea 6 hGF rfl rfl rfl Tryz.sizeOf28 (by simp) (by simp) (one_u64 _) rfl ?_
  refine lx_nil ?_
  refine xs_plain (E := EE []) ?_
  refine lx_loada 6 rfl rfl Tryz.isAgg28 Tryz.sizeOf28 (by simp) rfl rfl ?_
  refine lx_fak 0 rfl Tryz.underlying30 rfl Tryz.sizeOf28 (by decide) rfl rfl rfl ?_
  refine lx_loado 1 _ rfl rfl Tryz.isAgg28 Tryz.sizeOf28 (by simp) ld_l rfl rfl ?_
  refine lx_call rfl rfl ent68 (fmul_pure _ _) rfl rfl ?_
  refine lx_allocr 7 hGF zv28 rfl rfl ?_
  intro b7
  refine lx_storea 7 hGF rfl rfl rfl Tryz.sizeOf28 (by simp) (by simp) (one_u64 _) rfl ?_
  refine lx_nil ?_
  refine xs_drawA (E := EE [2999999]) [0, 1, 2, 3, 4, 5] [⟨6, 8, 28, (List.replicate 6 0#64).map U64⟩] [7] mixed rfl (by kernel_rfl) (by kernel_rfl) (by kernel_rfl) (by kernel_rfl) (by kernel_rfl) (by kernel_rfl) (by decide) (by intro x hx; simp only [List.mem_cons, List.not_mem_nil, or_false] at hx; subst hx; exact isAlloc_mk rfl zv28 rfl) ?_
  refine lx_loada 5 rfl rfl Tryz.isAgg28 Tryz.sizeOf28 (by simp) rfl rfl ?_
  refine lx_call rfl rfl ent70 (fsquare_pure _) rfl rfl ?_
  refine lx_loada 7 rfl rfl Tryz.isAgg28 Tryz.sizeOf28 (by simp) rfl rfl ?_
  refine lx_call rfl rfl ent118 (fsubE _ _) rfl rfl ?_
  refine lx_loada 7 rfl rfl Tryz.isAgg28 Tryz.sizeOf28 (by simp) rfl rfl ?_
  refine lx_call rfl rfl ent118 (fsubE _ _) rfl rfl ?_
  refine lx_nil ?_
  refine ⟨_, _, rfl, hGF, by intro x hx; simp only [List.mem_cons, List.not_mem_nil, or_false] at hx; subst hx; rfl, by intro x hx; simp only [List.mem_cons, List.not_mem_nil, or_false] at hx; subst hx; rfl, fun adr => ?_⟩
  refine lx_storea 8 hGF rfl rfl rfl Tryz.sizeOf28 (by simp) (by simp) (one_u64 _) rfl ?_
  refine lx_nil ?_
  refine xs_drawA (E := EE [2999999]) [0, 1, 2, 3, 4, 5, 6, 7, 8, 9, 10, 11] [⟨12, 9, 28, (List.replicate 6 0#64).map U64⟩] [13] mixed rfl (by kernel_rfl) (by kernel_rfl) (by kernel_rfl) (by kernel_rfl) (by kernel_rfl) (by kernel_rfl) (by decide) (by intro x hx; simp only [List.mem_cons, List.not_mem_nil, or_false] at hx; subst hx; exact isAlloc_mk rfl zv28 rfl) ?_
  refine lx_loada 5 rfl rfl Tryz.isAgg28 Tryz.sizeOf28 (by simp) rfl rfl ?_
  refine lx_loada 7 rfl rfl Tryz.isAgg28 Tryz.sizeOf28 (by simp) rfl rfl ?_
  refine lx_loada 8 rfl rfl Tryz.isAgg28 Tryz.sizeOf28 (by simp) rfl rfl ?_
  refine lx_call rfl rfl ent118 (fsubE _ _) rfl rfl ?_
  refine lx_call rfl rfl ent68 (fmul_pure _ _) rfl rfl ?_
  refine lx_loada 6 rfl rfl Tryz.isAgg28 Tryz.sizeOf28 (by simp) rfl rfl ?_
  refine lx_loada 3 rfl rfl Tryz.isAgg28 Tryz.sizeOf28 (by simp) rfl rfl ?_
  refine lx_call rfl rfl ent68 (fmul_pure _ _) rfl rfl ?_
  refine lx_fak 6 rfl Tryz.underlying30 rfl Tryz.sizeOf28 (by decide) rfl rfl rfl ?_
  refine lx_loado 1 _ rfl rfl Tryz.isAgg28 Tryz.sizeOf28 (by simp) (ld_m (by simp)) rfl rfl ?_
  refine lx_call rfl rfl ent68 (fmul_pure _ _) rfl rfl ?_
  refine lx_call rfl rfl ent118 (fsubE _ _) rfl rfl ?_
  refine lx_nil ?_
  refine ⟨_, _, rfl, hGF, by intro x hx; simp only [List.mem_cons, List.not_mem_nil, or_false] at hx; subst hx; rfl, by intro x hx; simp only [List.mem_cons, List.not_mem_nil, or_false] at hx; subst hx; rfl, fun adr => ?_⟩
  refine lx_storea 9 hGF rfl rfl rfl Tryz.sizeOf28 (by simp) (by simp) (one_u64 _) rfl ?_
  refine lx_nil ?_
  refine xs_drawn (E := EE []) mixed (by kernel_rfl) (by kernel_rfl) (by kernel_rfl) ?_
  refine lx_loada 8 rfl rfl Tryz.isAgg28 Tryz.sizeOf28 (by simp) rfl rfl ?_
  refine lx_loada 9 rfl rfl Tryz.isAgg28 Tryz.sizeOf28 (by simp) rfl rfl ?_
  refine lx_fak 12 rfl Tryz.underlying30 rfl Tryz.sizeOf28 (by decide) rfl rfl rfl ?_
  refine lx_loado 1 _ rfl rfl Tryz.isAgg28 Tryz.sizeOf28 (by simp) (ld_rr (m := 6) (n := 6) (by simp) (by simp) rfl) rfl rfl ?_
  refine lx_loada 3 rfl rfl Tryz.isAgg28 Tryz.sizeOf28 (by simp) rfl rfl ?_
  refine lx_call rfl rfl ent68 (fmul_pure _ _) rfl rfl ?_
  refine lx_three012 three30 rfl rfl rfl (by simp) (by simp) (by simp) rfl rfl ?_
  refine lx_storea 2 hGF rfl rfl rfl Tryz.sizeOf30 (by simp) (by simp) (one_u64 _) rfl ?_
  refine lx_nil ?_
  refine x_ret ?_
  repeat (first | refine kseq_ret ?_ | refine kblk_ret ?_)
  exact kret_own 2 rfl rfl rfl Tryz.isAgg30 Tryz.sizeOf30 (by simp) (fun w hw => ⟨rfl, hp_below hw⟩)
theorem db_s (x y : Zp) : (y + y) * (y + y) * x = (x * (y * y) + x * (y * y)) + (x * (y * y) + x * (y * y)) := by grind
theorem db_c (y : Zp) : (y + y) * (y + y) * (y + y) * y = (((y * y) * (y * y) + (y * y) * (y * y)) + ((y * y) * (y * y) + (y * y) * (y * y))) + (((y * y) * (y * y) + (y * y) * (y * y)) + ((y * y) * (y * y) + (y * y) * (y * y))) := by grind
theorem db_z (y z : Zp) : z * (y + y) = y * z + y * z := by grind
theorem dbl_ext (m : Zp) {s s' c c' z z' : Zp} (hs : s = s') (hc : c = c') (hz : z = z') : (E1.sub (E1.sub (m * m) s) s, E1.sub (m * E1.sub s (E1.sub (E1.sub (m * m) s) s)) c, z) = (E1.sub (E1.sub (m * m) s') s', E1.sub (m * E1.sub s' (E1.sub (E1.sub (m * m) s') s')) c', z') := by rw [hs, hc, hz]
theorem dbF_jd (x : Zp × Zp × Zp) : dbF x = E1.jd x.1 x.2.1 x.2.2 := dbl_ext (x.1 * x.1 + x.1 * x.1 + x.1 * x.1) (db_s x.1 x.2.1) (db_c x.2.1) (db_z x.2.1 x.2.2)
theorem dbF_jr {x : Zp × Zp × Zp} {P : Pt Zp} (hP : E1.onP P) (h : E1.jr x P) : E1.jr (dbF x) (E1.ad P P) := by
  have k := E1.jr_d hP h
  by_cases hz : x.2.2 = E1.R.zero ∨ x.2.1 = E1.R.zero
  · rw [show E1.jdF x = (E1.R.zero, E1.R.zero, E1.R.zero) from if_pos hz] at k
    rw [(E1.jr_z k).1 rfl]
    show x.2.2 * (x.2.1 + x.2.1) = (0 : Zp)
    rcases hz with e | e
    · rw [show x.2.2 = (0 : Zp) from e, z_0m]
    · rw [show x.2.1 = (0 : Zp) from e, z_a0', z_m0]
  · rw [show E1.jdF x = E1.jd x.1 x.2.1 x.2.2 from if_neg hz, ← dbF_jd] at k
    exact k
/-- Added, as the program adds. -/
def adG (x y : Zp × Zp × Zp) : Zp × Zp × Zp :=
  let u := x.1 * (y.2.2 * y.2.2)
  let s := x.2.1 * (y.2.2 * y.2.2) * y.2.2
  let h := E1.sub (y.1 * (x.2.2 * x.2.2)) u
  let r := E1.sub (y.2.1 * (x.2.2 * x.2.2) * x.2.2) s
  let q := h * h
  let c := q * h
  let w := q * u
  let X := E1.sub (E1.sub (E1.sub (r * r) c) w) w
  (X, E1.sub (r * E1.sub w X) (c * s), x.2.2 * y.2.2 * h)
def adF (x y : Zp × Zp × Zp) : Zp × Zp × Zp := if x.2.2 = 0 then y else if y.2.2 = 0 then x else if E1.jh x.1 x.2.2 y.1 y.2.2 = 0 then (if E1.jq x.2.1 x.2.2 y.2.1 y.2.2 = 0 then dbF x else (0, 0, 0)) else adG x y
theorem z_comm (a b : Zp) : a * b = b * a := by grind
theorem add_ext {a w w' r k k' z : Zp} (hw : w = w') (hk : k = k') : (E1.sub (E1.sub a w) w, E1.sub (r * E1.sub w (E1.sub (E1.sub a w) w)) k, z) = (E1.sub (E1.sub a w') w', E1.sub (r * E1.sub w' (E1.sub (E1.sub a w') w')) k', z) := by rw [hw, hk]
theorem adG_ja (x y : Zp × Zp × Zp) : adG x y = E1.ja x.1 x.2.1 x.2.2 y.1 y.2.1 y.2.2 := add_ext (z_comm _ _) (z_comm _ _)
theorem same_iff {p q : Zp × Zp} {x y : Zp × Zp × Zp} (h : E1.jr x (some p)) (k : E1.jr y (some q)) : (x.1 * (y.2.2 * y.2.2) = y.1 * (x.2.2 * x.2.2) ↔ p.1 = q.1) ∧ (x.2.1 * (y.2.2 * y.2.2) * y.2.2 = y.2.1 * (x.2.2 * x.2.2) * x.2.2 ↔ p.2 = q.2) := by
  have hx : x.1 = p.1 * (x.2.2 * x.2.2) := h.2.1
  have hy : x.2.1 = p.2 * (x.2.2 * x.2.2 * x.2.2) := h.2.2
  have kx : y.1 = q.1 * (y.2.2 * y.2.2) := k.2.1
  have ky : y.2.1 = q.2 * (y.2.2 * y.2.2 * y.2.2) := k.2.2
  have n2 := E1.mul_ne (E1.z2_ne h.1) (E1.z2_ne k.1)
  have n3 := E1.mul_ne (E1.z3_ne h.1) (E1.z3_ne k.1)
  obtain ⟨z, hz⟩ : ∃ z, x.2.2 = z := ⟨_, rfl⟩
  obtain ⟨v, hv⟩ : ∃ v, y.2.2 = v := ⟨_, rfl⟩
  rw [hz] at hx hy n2 n3
  rw [hv] at kx ky n2 n3
  rw [hx, hy, kx, ky, hz, hv]
  refine ⟨⟨fun e => E1.mul_can n2 ?_, fun e => by rw [e]; grind⟩, ⟨fun e => E1.mul_can n3 ?_, fun e => by rw [e]; grind⟩⟩
  · show p.1 * (z * z * (v * v)) = q.1 * (z * z * (v * v))
    grind
  · show p.2 * (z * z * z * (v * v * v)) = q.2 * (z * z * z * (v * v * v))
    grind
theorem adF_same {x y : Zp × Zp × Zp} {P Q : Pt Zp} (_ : E1.onP P) (_ : E1.onP Q) (h : E1.jr x P) (k : E1.jr y Q) (h1 : ¬ x.2.2 = 0) (h2 : ¬ y.2.2 = 0) (h3 : E1.jh x.1 x.2.2 y.1 y.2.2 = 0) (h4 : E1.jq x.2.1 x.2.2 y.2.1 y.2.2 = 0) : Q = P := by
  cases P with
  | none => exact absurd h h1
  | some p =>
    cases Q with
    | none => exact absurd k h2
    | some q =>
      have s := same_iff h k
      exact congrArg some (Prod.ext (s.1.1 (E1.sub0 h3).symm).symm (s.2.1 (E1.sub0 h4).symm).symm)
theorem adF_jr {x y : Zp × Zp × Zp} {P Q : Pt Zp} (hP : E1.onP P) (hQ : E1.onP Q) (h : E1.jr x P) (k : E1.jr y Q) : E1.jr (adF x y) (E1.ad P Q) := by
  have j := E1.jr_a hP hQ h k
  by_cases h1 : x.2.2 = 0
  · rw [show E1.jaF x y = y from if_pos h1] at j
    rw [show adF x y = y from if_pos h1]; exact j
  by_cases h2 : y.2.2 = 0
  · rw [show E1.jaF x y = x from (if_neg h1).trans (if_pos h2)] at j
    rw [show adF x y = x from (if_neg h1).trans (if_pos h2)]; exact j
  by_cases h3 : E1.jh x.1 x.2.2 y.1 y.2.2 = 0
  · by_cases h4 : E1.jq x.2.1 x.2.2 y.2.1 y.2.2 = 0
    · rw [show adF x y = dbF x from (if_neg h1).trans ((if_neg h2).trans ((if_pos h3).trans (if_pos h4)))]
      have e : Q = P := adF_same hP hQ h k h1 h2 h3 h4
      rw [e]; exact dbF_jr hP h
    · rw [show E1.jaF x y = (E1.R.zero, E1.R.zero, E1.R.zero) from (if_neg h1).trans ((if_neg h2).trans ((if_pos h3).trans (if_neg h4)))] at j
      rw [show adF x y = (0, 0, 0) from (if_neg h1).trans ((if_neg h2).trans ((if_pos h3).trans (if_neg h4)))]; exact j
  · rw [show E1.jaF x y = E1.ja x.1 x.2.1 x.2.2 y.1 y.2.1 y.2.2 from (if_neg h1).trans ((if_neg h2).trans (if_neg h3)), ← adG_ja] at j
    rw [show adF x y = adG x y from (if_neg h1).trans ((if_neg h2).trans (if_neg h3))]; exact j
theorem jadd (x y : Zp × Zp × Zp) : Pure Tryz.prog Gt 112 [JV x, JV y] (JV (adF x y)) := by
  intro w hw
  have hGF : BOk Gt (pl w) := gt_low.plain hw
  by_cases h1 : x.2.2 = 0
  · skip
    rw [show adF x y = y from if_pos h1]
    refine calls_of_X (G := Gt) Tryz.func112 rfl rfl (Hp (pl w) []) (hp_refl (pl w) trivial rides_true) (good_hp hGF) ?_
    refine xs_plain (E := EE []) ?_
    refine lx_boxr 2 hGF rfl rfl rfl ?_
    intro b2
    refine lx_boxr 3 hGF rfl rfl rfl ?_
    intro b3
    refine lx_allocr 4 hGF zj30 rfl rfl ?_
    intro b4
    refine lx_nil ?_
    refine x_seq ?_
    refine xs_plain (E := EE []) ?_
    refine lx_loada 2 rfl rfl Tryz.isAgg30 Tryz.sizeOf30 (by simp) rfl rfl ?_
    refine lx_callB true rfl rfl ent28 (jisInf _) (decide_eq_true h1) rfl rfl ?_
    refine lx_nil ?_
    refine x_true rfl ?_
    refine xs_plain (E := EE []) ?_
    refine lx_loada 3 rfl rfl Tryz.isAgg30 Tryz.sizeOf30 (by simp) rfl rfl ?_
    refine lx_storea 4 hGF rfl rfl rfl Tryz.sizeOf30 (by simp) (by simp) (one_u64 _) rfl ?_
    refine lx_nil ?_
    refine x_ret ?_
    repeat (first | refine kseq_ret ?_ | refine kblk_ret ?_)
    exact kret_own 4 rfl rfl rfl Tryz.isAgg30 Tryz.sizeOf30 (by simp) (fun w hw => ⟨rfl, hp_below hw⟩)
  · skip
    by_cases h2 : y.2.2 = 0
    · skip
      rw [show adF x y = x from (if_neg h1).trans (if_pos h2)]
      refine calls_of_X (G := Gt) Tryz.func112 rfl rfl (Hp (pl w) []) (hp_refl (pl w) trivial rides_true) (good_hp hGF) ?_
      refine xs_plain (E := EE []) ?_
      refine lx_boxr 2 hGF rfl rfl rfl ?_
      intro b2
      refine lx_boxr 3 hGF rfl rfl rfl ?_
      intro b3
      refine lx_allocr 4 hGF zj30 rfl rfl ?_
      intro b4
      refine lx_nil ?_
      refine x_seq ?_
      refine xs_plain (E := EE []) ?_
      refine lx_loada 2 rfl rfl Tryz.isAgg30 Tryz.sizeOf30 (by simp) rfl rfl ?_
      refine lx_callB false rfl rfl ent28 (jisInf _) (decide_eq_false h1) rfl rfl ?_
      refine lx_nil ?_
      refine x_false rfl ?_
      refine x_skip ?_
      refine x_seq ?_
      refine xs_plain (E := EE []) ?_
      refine lx_loada 3 rfl rfl Tryz.isAgg30 Tryz.sizeOf30 (by simp) rfl rfl ?_
      refine lx_callB true rfl rfl ent28 (jisInf _) (decide_eq_true h2) rfl rfl ?_
      refine lx_nil ?_
      refine x_true rfl ?_
      refine xs_plain (E := EE []) ?_
      refine lx_loada 2 rfl rfl Tryz.isAgg30 Tryz.sizeOf30 (by simp) rfl rfl ?_
      refine lx_storea 4 hGF rfl rfl rfl Tryz.sizeOf30 (by simp) (by simp) (one_u64 _) rfl ?_
      refine lx_nil ?_
      refine x_ret ?_
      repeat (first | refine kseq_ret ?_ | refine kblk_ret ?_)
      exact kret_own 4 rfl rfl rfl Tryz.isAgg30 Tryz.sizeOf30 (by simp) (fun w hw => ⟨rfl, hp_below hw⟩)
    · skip
      by_cases h3 : E1.jh x.1 x.2.2 y.1 y.2.2 = 0
      · skip
        by_cases h4 : E1.jq x.2.1 x.2.2 y.2.1 y.2.2 = 0
        · skip
          rw [show adF x y = dbF x from (if_neg h1).trans ((if_neg h2).trans ((if_pos h3).trans (if_pos h4)))]
          refine calls_of_X (G := Gt) Tryz.func112 rfl rfl (Hp (pl w) []) (hp_refl (pl w) trivial rides_true) (good_hp hGF) ?_
          refine xs_plain (E := EE []) ?_
          refine lx_boxr 2 hGF rfl rfl rfl ?_
          intro b2
          refine lx_boxr 3 hGF rfl rfl rfl ?_
          intro b3
          refine lx_allocr 4 hGF zj30 rfl rfl ?_
          intro b4
          refine lx_nil ?_
          refine x_seq ?_
          refine xs_plain (E := EE []) ?_
          refine lx_loada 2 rfl rfl Tryz.isAgg30 Tryz.sizeOf30 (by simp) rfl rfl ?_
          refine lx_callB false rfl rfl ent28 (jisInf _) (decide_eq_false h1) rfl rfl ?_
          refine lx_nil ?_
          refine x_false rfl ?_
          refine x_skip ?_
          refine x_seq ?_
          refine xs_plain (E := EE []) ?_
          refine lx_loada 3 rfl rfl Tryz.isAgg30 Tryz.sizeOf30 (by simp) rfl rfl ?_
          refine lx_callB false rfl rfl ent28 (jisInf _) (decide_eq_false h2) rfl rfl ?_
          refine lx_nil ?_
          refine x_false rfl ?_
          refine x_skip ?_
          refine xs_drawA (E := EE [2999999]) [0, 1, 2, 3, 4, 5] [⟨6, 5, 28, (List.replicate 6 0#64).map U64⟩, ⟨7, 6, 28, (List.replicate 6 0#64).map U64⟩] [8, 9] mixed rfl (by kernel_rfl) (by kernel_rfl) (by kernel_rfl) (by kernel_rfl) (by kernel_rfl) (by kernel_rfl) (by decide) (by intro x hx; simp only [List.mem_cons, List.not_mem_nil, or_false] at hx; rcases hx with rfl | rfl <;> exact isAlloc_mk rfl zv28 rfl) ?_
          refine lx_fak 12 rfl Tryz.underlying30 rfl Tryz.sizeOf28 (by decide) rfl rfl rfl ?_
          refine lx_loado 2 _ rfl rfl Tryz.isAgg28 Tryz.sizeOf28 (by simp) (ld_rr (m := 6) (n := 6) (by simp) (by simp) rfl) rfl rfl ?_
          refine lx_call rfl rfl ent70 (fsquare_pure _) rfl rfl ?_
          refine lx_fak 12 rfl Tryz.underlying30 rfl Tryz.sizeOf28 (by decide) rfl rfl rfl ?_
          refine lx_loado 3 _ rfl rfl Tryz.isAgg28 Tryz.sizeOf28 (by simp) (ld_rr (m := 6) (n := 6) (by simp) (by simp) rfl) rfl rfl ?_
          refine lx_call rfl rfl ent70 (fsquare_pure _) rfl rfl ?_
          refine lx_nil ?_
          refine ⟨_, _, rfl, hGF, by intro x hx; simp only [List.mem_cons, List.not_mem_nil, or_false] at hx; rcases hx with rfl | rfl <;> rfl, by intro x hx; simp only [List.mem_cons, List.not_mem_nil, or_false] at hx; rcases hx with rfl | rfl <;> rfl, fun adr => ?_⟩
          refine lx_storea 5 hGF rfl rfl rfl Tryz.sizeOf28 (by simp) (by simp) (one_u64 _) rfl ?_
          refine lx_storea 6 hGF rfl rfl rfl Tryz.sizeOf28 (by simp) (by simp) (one_u64 _) rfl ?_
          refine lx_nil ?_
          refine xs_drawA (E := EE [2999999]) [0, 1, 2, 3, 4, 5, 6, 7, 8, 9, 10] [⟨11, 7, 28, (List.replicate 6 0#64).map U64⟩, ⟨12, 8, 28, (List.replicate 6 0#64).map U64⟩] [13, 14] mixed rfl (by kernel_rfl) (by kernel_rfl) (by kernel_rfl) (by kernel_rfl) (by kernel_rfl) (by kernel_rfl) (by decide) (by intro x hx; simp only [List.mem_cons, List.not_mem_nil, or_false] at hx; rcases hx with rfl | rfl <;> exact isAlloc_mk rfl zv28 rfl) ?_
          refine lx_fak 0 rfl Tryz.underlying30 rfl Tryz.sizeOf28 (by decide) rfl rfl rfl ?_
          refine lx_loado 2 _ rfl rfl Tryz.isAgg28 Tryz.sizeOf28 (by simp) ld_l rfl rfl ?_
          refine lx_loada 6 rfl rfl Tryz.isAgg28 Tryz.sizeOf28 (by simp) rfl rfl ?_
          refine lx_call rfl rfl ent68 (fmul_pure _ _) rfl rfl ?_
          refine lx_fak 6 rfl Tryz.underlying30 rfl Tryz.sizeOf28 (by decide) rfl rfl rfl ?_
          refine lx_loado 2 _ rfl rfl Tryz.isAgg28 Tryz.sizeOf28 (by simp) (ld_m (by simp)) rfl rfl ?_
          refine lx_loada 6 rfl rfl Tryz.isAgg28 Tryz.sizeOf28 (by simp) rfl rfl ?_
          refine lx_call rfl rfl ent68 (fmul_pure _ _) rfl rfl ?_
          refine lx_fak 12 rfl Tryz.underlying30 rfl Tryz.sizeOf28 (by decide) rfl rfl rfl ?_
          refine lx_loado 3 _ rfl rfl Tryz.isAgg28 Tryz.sizeOf28 (by simp) (ld_rr (m := 6) (n := 6) (by simp) (by simp) rfl) rfl rfl ?_
          refine lx_call rfl rfl ent68 (fmul_pure _ _) rfl rfl ?_
          refine lx_nil ?_
          refine ⟨_, _, rfl, hGF, by intro x hx; simp only [List.mem_cons, List.not_mem_nil, or_false] at hx; rcases hx with rfl | rfl <;> rfl, by intro x hx; simp only [List.mem_cons, List.not_mem_nil, or_false] at hx; rcases hx with rfl | rfl <;> rfl, fun adr => ?_⟩
          refine lx_storea 7 hGF rfl rfl rfl Tryz.sizeOf28 (by simp) (by simp) (one_u64 _) rfl ?_
          refine lx_storea 8 hGF rfl rfl rfl Tryz.sizeOf28 (by simp) (by simp) (one_u64 _) rfl ?_
          refine lx_nil ?_
          refine xs_drawA (E := EE [2999999]) [0, 1, 2, 3, 4, 5] [⟨6, 9, 28, (List.replicate 6 0#64).map U64⟩] [7] mixed rfl (by kernel_rfl) (by kernel_rfl) (by kernel_rfl) (by kernel_rfl) (by kernel_rfl) (by kernel_rfl) (by decide) (by intro x hx; simp only [List.mem_cons, List.not_mem_nil, or_false] at hx; subst hx; exact isAlloc_mk rfl zv28 rfl) ?_
          refine lx_fak 0 rfl Tryz.underlying30 rfl Tryz.sizeOf28 (by decide) rfl rfl rfl ?_
          refine lx_loado 3 _ rfl rfl Tryz.isAgg28 Tryz.sizeOf28 (by simp) ld_l rfl rfl ?_
          refine lx_loada 5 rfl rfl Tryz.isAgg28 Tryz.sizeOf28 (by simp) rfl rfl ?_
          refine lx_call rfl rfl ent68 (fmul_pure _ _) rfl rfl ?_
          refine lx_loada 7 rfl rfl Tryz.isAgg28 Tryz.sizeOf28 (by simp) rfl rfl ?_
          refine lx_call rfl rfl ent118 (fsubE _ _) rfl rfl ?_
          refine lx_nil ?_
          refine ⟨_, _, rfl, hGF, by intro x hx; simp only [List.mem_cons, List.not_mem_nil, or_false] at hx; subst hx; rfl, by intro x hx; simp only [List.mem_cons, List.not_mem_nil, or_false] at hx; subst hx; rfl, fun adr => ?_⟩
          refine lx_storea 9 hGF rfl rfl rfl Tryz.sizeOf28 (by simp) (by simp) (one_u64 _) rfl ?_
          refine lx_nil ?_
          refine xs_drawA (E := EE [2999999]) [0, 1, 2, 3, 4, 5, 6, 7, 8] [⟨9, 10, 28, (List.replicate 6 0#64).map U64⟩] [10] mixed rfl (by kernel_rfl) (by kernel_rfl) (by kernel_rfl) (by kernel_rfl) (by kernel_rfl) (by kernel_rfl) (by decide) (by intro x hx; simp only [List.mem_cons, List.not_mem_nil, or_false] at hx; subst hx; exact isAlloc_mk rfl zv28 rfl) ?_
          refine lx_fak 6 rfl Tryz.underlying30 rfl Tryz.sizeOf28 (by decide) rfl rfl rfl ?_
          refine lx_loado 3 _ rfl rfl Tryz.isAgg28 Tryz.sizeOf28 (by simp) (ld_m (by simp)) rfl rfl ?_
          refine lx_loada 5 rfl rfl Tryz.isAgg28 Tryz.sizeOf28 (by simp) rfl rfl ?_
          refine lx_call rfl rfl ent68 (fmul_pure _ _) rfl rfl ?_
          refine lx_fak 12 rfl Tryz.underlying30 rfl Tryz.sizeOf28 (by decide) rfl rfl rfl ?_
          refine lx_loado 2 _ rfl rfl Tryz.isAgg28 Tryz.sizeOf28 (by simp) (ld_rr (m := 6) (n := 6) (by simp) (by simp) rfl) rfl rfl ?_
          refine lx_call rfl rfl ent68 (fmul_pure _ _) rfl rfl ?_
          refine lx_loada 8 rfl rfl Tryz.isAgg28 Tryz.sizeOf28 (by simp) rfl rfl ?_
          refine lx_call rfl rfl ent118 (fsubE _ _) rfl rfl ?_
          refine lx_nil ?_
          refine ⟨_, _, rfl, hGF, by intro x hx; simp only [List.mem_cons, List.not_mem_nil, or_false] at hx; subst hx; rfl, by intro x hx; simp only [List.mem_cons, List.not_mem_nil, or_false] at hx; subst hx; rfl, fun adr => ?_⟩
          refine lx_storea 10 hGF rfl rfl rfl Tryz.sizeOf28 (by simp) (by simp) (one_u64 _) rfl ?_
          refine lx_nil ?_
          refine x_seq ?_
          refine xs_plain (E := EE []) ?_
          refine lx_loada 9 rfl rfl Tryz.isAgg28 Tryz.sizeOf28 (by simp) rfl rfl ?_
          refine lx_callB true rfl rfl ent81 (fisZero_pure _) (decide_eq_true h3) rfl rfl ?_
          refine lx_move rfl rfl rfl ?_
          refine lx_loada 10 rfl rfl Tryz.isAgg28 Tryz.sizeOf28 (by simp) rfl rfl ?_
          refine lx_callB true rfl rfl ent81 (fisZero_pure _) (decide_eq_true h4) rfl rfl ?_
          refine lx_pick rfl rfl rfl rfl rfl ?_
          refine lx_nil ?_
          refine x_true rfl ?_
          refine xs_plain (E := EE []) ?_
          refine lx_loada 2 rfl rfl Tryz.isAgg30 Tryz.sizeOf30 (by simp) rfl rfl ?_
          refine lx_call rfl rfl ent145 (jdbl _) rfl rfl ?_
          refine lx_storea 4 hGF rfl rfl rfl Tryz.sizeOf30 (by simp) (by simp) (one_u64 _) rfl ?_
          refine lx_nil ?_
          refine x_ret ?_
          repeat (first | refine kseq_ret ?_ | refine kblk_ret ?_)
          exact kret_own 4 rfl rfl rfl Tryz.isAgg30 Tryz.sizeOf30 (by simp) (fun w hw => ⟨rfl, hp_below hw⟩)
        · skip
          rw [show adF x y = (0, 0, 0) from (if_neg h1).trans ((if_neg h2).trans ((if_pos h3).trans (if_neg h4)))]
          refine calls_of_X (G := Gt) Tryz.func112 rfl rfl (Hp (pl w) []) (hp_refl (pl w) trivial rides_true) (good_hp hGF) ?_
          refine xs_plain (E := EE []) ?_
          refine lx_boxr 2 hGF rfl rfl rfl ?_
          intro b2
          refine lx_boxr 3 hGF rfl rfl rfl ?_
          intro b3
          refine lx_allocr 4 hGF zj30 rfl rfl ?_
          intro b4
          refine lx_nil ?_
          refine x_seq ?_
          refine xs_plain (E := EE []) ?_
          refine lx_loada 2 rfl rfl Tryz.isAgg30 Tryz.sizeOf30 (by simp) rfl rfl ?_
          refine lx_callB false rfl rfl ent28 (jisInf _) (decide_eq_false h1) rfl rfl ?_
          refine lx_nil ?_
          refine x_false rfl ?_
          refine x_skip ?_
          refine x_seq ?_
          refine xs_plain (E := EE []) ?_
          refine lx_loada 3 rfl rfl Tryz.isAgg30 Tryz.sizeOf30 (by simp) rfl rfl ?_
          refine lx_callB false rfl rfl ent28 (jisInf _) (decide_eq_false h2) rfl rfl ?_
          refine lx_nil ?_
          refine x_false rfl ?_
          refine x_skip ?_
          refine xs_drawA (E := EE [2999999]) [0, 1, 2, 3, 4, 5] [⟨6, 5, 28, (List.replicate 6 0#64).map U64⟩, ⟨7, 6, 28, (List.replicate 6 0#64).map U64⟩] [8, 9] mixed rfl (by kernel_rfl) (by kernel_rfl) (by kernel_rfl) (by kernel_rfl) (by kernel_rfl) (by kernel_rfl) (by decide) (by intro x hx; simp only [List.mem_cons, List.not_mem_nil, or_false] at hx; rcases hx with rfl | rfl <;> exact isAlloc_mk rfl zv28 rfl) ?_
          refine lx_fak 12 rfl Tryz.underlying30 rfl Tryz.sizeOf28 (by decide) rfl rfl rfl ?_
          refine lx_loado 2 _ rfl rfl Tryz.isAgg28 Tryz.sizeOf28 (by simp) (ld_rr (m := 6) (n := 6) (by simp) (by simp) rfl) rfl rfl ?_
          refine lx_call rfl rfl ent70 (fsquare_pure _) rfl rfl ?_
          refine lx_fak 12 rfl Tryz.underlying30 rfl Tryz.sizeOf28 (by decide) rfl rfl rfl ?_
          refine lx_loado 3 _ rfl rfl Tryz.isAgg28 Tryz.sizeOf28 (by simp) (ld_rr (m := 6) (n := 6) (by simp) (by simp) rfl) rfl rfl ?_
          refine lx_call rfl rfl ent70 (fsquare_pure _) rfl rfl ?_
          refine lx_nil ?_
          refine ⟨_, _, rfl, hGF, by intro x hx; simp only [List.mem_cons, List.not_mem_nil, or_false] at hx; rcases hx with rfl | rfl <;> rfl, by intro x hx; simp only [List.mem_cons, List.not_mem_nil, or_false] at hx; rcases hx with rfl | rfl <;> rfl, fun adr => ?_⟩
          refine lx_storea 5 hGF rfl rfl rfl Tryz.sizeOf28 (by simp) (by simp) (one_u64 _) rfl ?_
          refine lx_storea 6 hGF rfl rfl rfl Tryz.sizeOf28 (by simp) (by simp) (one_u64 _) rfl ?_
          refine lx_nil ?_
          refine xs_drawA (E := EE [2999999]) [0, 1, 2, 3, 4, 5, 6, 7, 8, 9, 10] [⟨11, 7, 28, (List.replicate 6 0#64).map U64⟩, ⟨12, 8, 28, (List.replicate 6 0#64).map U64⟩] [13, 14] mixed rfl (by kernel_rfl) (by kernel_rfl) (by kernel_rfl) (by kernel_rfl) (by kernel_rfl) (by kernel_rfl) (by decide) (by intro x hx; simp only [List.mem_cons, List.not_mem_nil, or_false] at hx; rcases hx with rfl | rfl <;> exact isAlloc_mk rfl zv28 rfl) ?_
          refine lx_fak 0 rfl Tryz.underlying30 rfl Tryz.sizeOf28 (by decide) rfl rfl rfl ?_
          refine lx_loado 2 _ rfl rfl Tryz.isAgg28 Tryz.sizeOf28 (by simp) ld_l rfl rfl ?_
          refine lx_loada 6 rfl rfl Tryz.isAgg28 Tryz.sizeOf28 (by simp) rfl rfl ?_
          refine lx_call rfl rfl ent68 (fmul_pure _ _) rfl rfl ?_
          refine lx_fak 6 rfl Tryz.underlying30 rfl Tryz.sizeOf28 (by decide) rfl rfl rfl ?_
          refine lx_loado 2 _ rfl rfl Tryz.isAgg28 Tryz.sizeOf28 (by simp) (ld_m (by simp)) rfl rfl ?_
          refine lx_loada 6 rfl rfl Tryz.isAgg28 Tryz.sizeOf28 (by simp) rfl rfl ?_
          refine lx_call rfl rfl ent68 (fmul_pure _ _) rfl rfl ?_
          refine lx_fak 12 rfl Tryz.underlying30 rfl Tryz.sizeOf28 (by decide) rfl rfl rfl ?_
          refine lx_loado 3 _ rfl rfl Tryz.isAgg28 Tryz.sizeOf28 (by simp) (ld_rr (m := 6) (n := 6) (by simp) (by simp) rfl) rfl rfl ?_
          refine lx_call rfl rfl ent68 (fmul_pure _ _) rfl rfl ?_
          refine lx_nil ?_
          refine ⟨_, _, rfl, hGF, by intro x hx; simp only [List.mem_cons, List.not_mem_nil, or_false] at hx; rcases hx with rfl | rfl <;> rfl, by intro x hx; simp only [List.mem_cons, List.not_mem_nil, or_false] at hx; rcases hx with rfl | rfl <;> rfl, fun adr => ?_⟩
          refine lx_storea 7 hGF rfl rfl rfl Tryz.sizeOf28 (by simp) (by simp) (one_u64 _) rfl ?_
          refine lx_storea 8 hGF rfl rfl rfl Tryz.sizeOf28 (by simp) (by simp) (one_u64 _) rfl ?_
          refine lx_nil ?_
          refine xs_drawA (E := EE [2999999]) [0, 1, 2, 3, 4, 5] [⟨6, 9, 28, (List.replicate 6 0#64).map U64⟩] [7] mixed rfl (by kernel_rfl) (by kernel_rfl) (by kernel_rfl) (by kernel_rfl) (by kernel_rfl) (by kernel_rfl) (by decide) (by intro x hx; simp only [List.mem_cons, List.not_mem_nil, or_false] at hx; subst hx; exact isAlloc_mk rfl zv28 rfl) ?_
          refine lx_fak 0 rfl Tryz.underlying30 rfl Tryz.sizeOf28 (by decide) rfl rfl rfl ?_
          refine lx_loado 3 _ rfl rfl Tryz.isAgg28 Tryz.sizeOf28 (by simp) ld_l rfl rfl ?_
          refine lx_loada 5 rfl rfl Tryz.isAgg28 Tryz.sizeOf28 (by simp) rfl rfl ?_
          refine lx_call rfl rfl ent68 (fmul_pure _ _) rfl rfl ?_
          refine lx_loada 7 rfl rfl Tryz.isAgg28 Tryz.sizeOf28 (by simp) rfl rfl ?_
          refine lx_call rfl rfl ent118 (fsubE _ _) rfl rfl ?_
          refine lx_nil ?_
          refine ⟨_, _, rfl, hGF, by intro x hx; simp only [List.mem_cons, List.not_mem_nil, or_false] at hx; subst hx; rfl, by intro x hx; simp only [List.mem_cons, List.not_mem_nil, or_false] at hx; subst hx; rfl, fun adr => ?_⟩
          refine lx_storea 9 hGF rfl rfl rfl Tryz.sizeOf28 (by simp) (by simp) (one_u64 _) rfl ?_
          refine lx_nil ?_
          refine xs_drawA (E := EE [2999999]) [0, 1, 2, 3, 4, 5, 6, 7, 8] [⟨9, 10, 28, (List.replicate 6 0#64).map U64⟩] [10] mixed rfl (by kernel_rfl) (by kernel_rfl) (by kernel_rfl) (by kernel_rfl) (by kernel_rfl) (by kernel_rfl) (by decide) (by intro x hx; simp only [List.mem_cons, List.not_mem_nil, or_false] at hx; subst hx; exact isAlloc_mk rfl zv28 rfl) ?_
          refine lx_fak 6 rfl Tryz.underlying30 rfl Tryz.sizeOf28 (by decide) rfl rfl rfl ?_
          refine lx_loado 3 _ rfl rfl Tryz.isAgg28 Tryz.sizeOf28 (by simp) (ld_m (by simp)) rfl rfl ?_
          refine lx_loada 5 rfl rfl Tryz.isAgg28 Tryz.sizeOf28 (by simp) rfl rfl ?_
          refine lx_call rfl rfl ent68 (fmul_pure _ _) rfl rfl ?_
          refine lx_fak 12 rfl Tryz.underlying30 rfl Tryz.sizeOf28 (by decide) rfl rfl rfl ?_
          refine lx_loado 2 _ rfl rfl Tryz.isAgg28 Tryz.sizeOf28 (by simp) (ld_rr (m := 6) (n := 6) (by simp) (by simp) rfl) rfl rfl ?_
          refine lx_call rfl rfl ent68 (fmul_pure _ _) rfl rfl ?_
          refine lx_loada 8 rfl rfl Tryz.isAgg28 Tryz.sizeOf28 (by simp) rfl rfl ?_
          refine lx_call rfl rfl ent118 (fsubE _ _) rfl rfl ?_
          refine lx_nil ?_
          refine ⟨_, _, rfl, hGF, by intro x hx; simp only [List.mem_cons, List.not_mem_nil, or_false] at hx; subst hx; rfl, by intro x hx; simp only [List.mem_cons, List.not_mem_nil, or_false] at hx; subst hx; rfl, fun adr => ?_⟩
          refine lx_storea 10 hGF rfl rfl rfl Tryz.sizeOf28 (by simp) (by simp) (one_u64 _) rfl ?_
          refine lx_nil ?_
          refine x_seq ?_
          refine xs_plain (E := EE []) ?_
          refine lx_loada 9 rfl rfl Tryz.isAgg28 Tryz.sizeOf28 (by simp) rfl rfl ?_
          refine lx_callB true rfl rfl ent81 (fisZero_pure _) (decide_eq_true h3) rfl rfl ?_
          refine lx_move rfl rfl rfl ?_
          refine lx_loada 10 rfl rfl Tryz.isAgg28 Tryz.sizeOf28 (by simp) rfl rfl ?_
          refine lx_callB false rfl rfl ent81 (fisZero_pure _) (decide_eq_false h4) rfl rfl ?_
          refine lx_pick rfl rfl rfl rfl rfl ?_
          refine lx_nil ?_
          refine x_false rfl ?_
          refine x_skip ?_
          refine x_seq ?_
          refine xs_plain (E := EE []) ?_
          refine lx_loada 9 rfl rfl Tryz.isAgg28 Tryz.sizeOf28 (by simp) rfl rfl ?_
          refine lx_callB true rfl rfl ent81 (fisZero_pure _) (decide_eq_true h3) rfl rfl ?_
          refine lx_nil ?_
          refine x_true rfl ?_
          refine xs_plain (E := EE []) ?_
          refine lx_threeN three30 rfl rfl ?_
          refine lx_storea 4 hGF rfl rfl rfl Tryz.sizeOf30 (by simp) (by simp) (one_u64 _) rfl ?_
          refine lx_nil ?_
          refine x_ret ?_
          repeat (first | refine kseq_ret ?_ | refine kblk_ret ?_)
          exact kret_own 4 rfl rfl rfl Tryz.isAgg30 Tryz.sizeOf30 (by simp) (fun w hw => ⟨rfl, hp_below hw⟩)
      · skip
        rw [show adF x y = adG x y from (if_neg h1).trans ((if_neg h2).trans (if_neg h3))]
        refine calls_of_X (G := Gt) Tryz.func112 rfl rfl (Hp (pl w) []) (hp_refl (pl w) trivial rides_true) (good_hp hGF) ?_
        refine xs_plain (E := EE []) ?_
        refine lx_boxr 2 hGF rfl rfl rfl ?_
        intro b2
        refine lx_boxr 3 hGF rfl rfl rfl ?_
        intro b3
        refine lx_allocr 4 hGF zj30 rfl rfl ?_
        intro b4
        refine lx_nil ?_
        refine x_seq ?_
        refine xs_plain (E := EE []) ?_
        refine lx_loada 2 rfl rfl Tryz.isAgg30 Tryz.sizeOf30 (by simp) rfl rfl ?_
        refine lx_callB false rfl rfl ent28 (jisInf _) (decide_eq_false h1) rfl rfl ?_
        refine lx_nil ?_
        refine x_false rfl ?_
        refine x_skip ?_
        refine x_seq ?_
        refine xs_plain (E := EE []) ?_
        refine lx_loada 3 rfl rfl Tryz.isAgg30 Tryz.sizeOf30 (by simp) rfl rfl ?_
        refine lx_callB false rfl rfl ent28 (jisInf _) (decide_eq_false h2) rfl rfl ?_
        refine lx_nil ?_
        refine x_false rfl ?_
        refine x_skip ?_
        refine xs_drawA (E := EE [2999999]) [0, 1, 2, 3, 4, 5] [⟨6, 5, 28, (List.replicate 6 0#64).map U64⟩, ⟨7, 6, 28, (List.replicate 6 0#64).map U64⟩] [8, 9] mixed rfl (by kernel_rfl) (by kernel_rfl) (by kernel_rfl) (by kernel_rfl) (by kernel_rfl) (by kernel_rfl) (by decide) (by intro x hx; simp only [List.mem_cons, List.not_mem_nil, or_false] at hx; rcases hx with rfl | rfl <;> exact isAlloc_mk rfl zv28 rfl) ?_
        refine lx_fak 12 rfl Tryz.underlying30 rfl Tryz.sizeOf28 (by decide) rfl rfl rfl ?_
        refine lx_loado 2 _ rfl rfl Tryz.isAgg28 Tryz.sizeOf28 (by simp) (ld_rr (m := 6) (n := 6) (by simp) (by simp) rfl) rfl rfl ?_
        refine lx_call rfl rfl ent70 (fsquare_pure _) rfl rfl ?_
        refine lx_fak 12 rfl Tryz.underlying30 rfl Tryz.sizeOf28 (by decide) rfl rfl rfl ?_
        refine lx_loado 3 _ rfl rfl Tryz.isAgg28 Tryz.sizeOf28 (by simp) (ld_rr (m := 6) (n := 6) (by simp) (by simp) rfl) rfl rfl ?_
        refine lx_call rfl rfl ent70 (fsquare_pure _) rfl rfl ?_
        refine lx_nil ?_
        refine ⟨_, _, rfl, hGF, by intro x hx; simp only [List.mem_cons, List.not_mem_nil, or_false] at hx; rcases hx with rfl | rfl <;> rfl, by intro x hx; simp only [List.mem_cons, List.not_mem_nil, or_false] at hx; rcases hx with rfl | rfl <;> rfl, fun adr => ?_⟩
        refine lx_storea 5 hGF rfl rfl rfl Tryz.sizeOf28 (by simp) (by simp) (one_u64 _) rfl ?_
        refine lx_storea 6 hGF rfl rfl rfl Tryz.sizeOf28 (by simp) (by simp) (one_u64 _) rfl ?_
        refine lx_nil ?_
        refine xs_drawA (E := EE [2999999]) [0, 1, 2, 3, 4, 5, 6, 7, 8, 9, 10] [⟨11, 7, 28, (List.replicate 6 0#64).map U64⟩, ⟨12, 8, 28, (List.replicate 6 0#64).map U64⟩] [13, 14] mixed rfl (by kernel_rfl) (by kernel_rfl) (by kernel_rfl) (by kernel_rfl) (by kernel_rfl) (by kernel_rfl) (by decide) (by intro x hx; simp only [List.mem_cons, List.not_mem_nil, or_false] at hx; rcases hx with rfl | rfl <;> exact isAlloc_mk rfl zv28 rfl) ?_
        refine lx_fak 0 rfl Tryz.underlying30 rfl Tryz.sizeOf28 (by decide) rfl rfl rfl ?_
        refine lx_loado 2 _ rfl rfl Tryz.isAgg28 Tryz.sizeOf28 (by simp) ld_l rfl rfl ?_
        refine lx_loada 6 rfl rfl Tryz.isAgg28 Tryz.sizeOf28 (by simp) rfl rfl ?_
        refine lx_call rfl rfl ent68 (fmul_pure _ _) rfl rfl ?_
        refine lx_fak 6 rfl Tryz.underlying30 rfl Tryz.sizeOf28 (by decide) rfl rfl rfl ?_
        refine lx_loado 2 _ rfl rfl Tryz.isAgg28 Tryz.sizeOf28 (by simp) (ld_m (by simp)) rfl rfl ?_
        refine lx_loada 6 rfl rfl Tryz.isAgg28 Tryz.sizeOf28 (by simp) rfl rfl ?_
        refine lx_call rfl rfl ent68 (fmul_pure _ _) rfl rfl ?_
        refine lx_fak 12 rfl Tryz.underlying30 rfl Tryz.sizeOf28 (by decide) rfl rfl rfl ?_
        refine lx_loado 3 _ rfl rfl Tryz.isAgg28 Tryz.sizeOf28 (by simp) (ld_rr (m := 6) (n := 6) (by simp) (by simp) rfl) rfl rfl ?_
        refine lx_call rfl rfl ent68 (fmul_pure _ _) rfl rfl ?_
        refine lx_nil ?_
        refine ⟨_, _, rfl, hGF, by intro x hx; simp only [List.mem_cons, List.not_mem_nil, or_false] at hx; rcases hx with rfl | rfl <;> rfl, by intro x hx; simp only [List.mem_cons, List.not_mem_nil, or_false] at hx; rcases hx with rfl | rfl <;> rfl, fun adr => ?_⟩
        refine lx_storea 7 hGF rfl rfl rfl Tryz.sizeOf28 (by simp) (by simp) (one_u64 _) rfl ?_
        refine lx_storea 8 hGF rfl rfl rfl Tryz.sizeOf28 (by simp) (by simp) (one_u64 _) rfl ?_
        refine lx_nil ?_
        refine xs_drawA (E := EE [2999999]) [0, 1, 2, 3, 4, 5] [⟨6, 9, 28, (List.replicate 6 0#64).map U64⟩] [7] mixed rfl (by kernel_rfl) (by kernel_rfl) (by kernel_rfl) (by kernel_rfl) (by kernel_rfl) (by kernel_rfl) (by decide) (by intro x hx; simp only [List.mem_cons, List.not_mem_nil, or_false] at hx; subst hx; exact isAlloc_mk rfl zv28 rfl) ?_
        refine lx_fak 0 rfl Tryz.underlying30 rfl Tryz.sizeOf28 (by decide) rfl rfl rfl ?_
        refine lx_loado 3 _ rfl rfl Tryz.isAgg28 Tryz.sizeOf28 (by simp) ld_l rfl rfl ?_
        refine lx_loada 5 rfl rfl Tryz.isAgg28 Tryz.sizeOf28 (by simp) rfl rfl ?_
        refine lx_call rfl rfl ent68 (fmul_pure _ _) rfl rfl ?_
        refine lx_loada 7 rfl rfl Tryz.isAgg28 Tryz.sizeOf28 (by simp) rfl rfl ?_
        refine lx_call rfl rfl ent118 (fsubE _ _) rfl rfl ?_
        refine lx_nil ?_
        refine ⟨_, _, rfl, hGF, by intro x hx; simp only [List.mem_cons, List.not_mem_nil, or_false] at hx; subst hx; rfl, by intro x hx; simp only [List.mem_cons, List.not_mem_nil, or_false] at hx; subst hx; rfl, fun adr => ?_⟩
        refine lx_storea 9 hGF rfl rfl rfl Tryz.sizeOf28 (by simp) (by simp) (one_u64 _) rfl ?_
        refine lx_nil ?_
        refine xs_drawA (E := EE [2999999]) [0, 1, 2, 3, 4, 5, 6, 7, 8] [⟨9, 10, 28, (List.replicate 6 0#64).map U64⟩] [10] mixed rfl (by kernel_rfl) (by kernel_rfl) (by kernel_rfl) (by kernel_rfl) (by kernel_rfl) (by kernel_rfl) (by decide) (by intro x hx; simp only [List.mem_cons, List.not_mem_nil, or_false] at hx; subst hx; exact isAlloc_mk rfl zv28 rfl) ?_
        refine lx_fak 6 rfl Tryz.underlying30 rfl Tryz.sizeOf28 (by decide) rfl rfl rfl ?_
        refine lx_loado 3 _ rfl rfl Tryz.isAgg28 Tryz.sizeOf28 (by simp) (ld_m (by simp)) rfl rfl ?_
        refine lx_loada 5 rfl rfl Tryz.isAgg28 Tryz.sizeOf28 (by simp) rfl rfl ?_
        refine lx_call rfl rfl ent68 (fmul_pure _ _) rfl rfl ?_
        refine lx_fak 12 rfl Tryz.underlying30 rfl Tryz.sizeOf28 (by decide) rfl rfl rfl ?_
        refine lx_loado 2 _ rfl rfl Tryz.isAgg28 Tryz.sizeOf28 (by simp) (ld_rr (m := 6) (n := 6) (by simp) (by simp) rfl) rfl rfl ?_
        refine lx_call rfl rfl ent68 (fmul_pure _ _) rfl rfl ?_
        refine lx_loada 8 rfl rfl Tryz.isAgg28 Tryz.sizeOf28 (by simp) rfl rfl ?_
        refine lx_call rfl rfl ent118 (fsubE _ _) rfl rfl ?_
        refine lx_nil ?_
        refine ⟨_, _, rfl, hGF, by intro x hx; simp only [List.mem_cons, List.not_mem_nil, or_false] at hx; subst hx; rfl, by intro x hx; simp only [List.mem_cons, List.not_mem_nil, or_false] at hx; subst hx; rfl, fun adr => ?_⟩
        refine lx_storea 10 hGF rfl rfl rfl Tryz.sizeOf28 (by simp) (by simp) (one_u64 _) rfl ?_
        refine lx_nil ?_
        refine x_seq ?_
        refine xs_plain (E := EE []) ?_
        refine lx_loada 9 rfl rfl Tryz.isAgg28 Tryz.sizeOf28 (by simp) rfl rfl ?_
        refine lx_callB false rfl rfl ent81 (fisZero_pure _) (decide_eq_false h3) rfl rfl ?_
        refine lx_move rfl rfl rfl ?_
        refine lx_skip rfl rfl rfl ?_
        refine lx_skip rfl rfl rfl ?_
        refine lx_pick rfl rfl rfl rfl rfl ?_
        refine lx_nil ?_
        refine x_false rfl ?_
        refine x_skip ?_
        refine x_seq ?_
        refine xs_plain (E := EE []) ?_
        refine lx_loada 9 rfl rfl Tryz.isAgg28 Tryz.sizeOf28 (by simp) rfl rfl ?_
        refine lx_callB false rfl rfl ent81 (fisZero_pure _) (decide_eq_false h3) rfl rfl ?_
        refine lx_nil ?_
        refine x_false rfl ?_
        refine x_skip ?_
        refine xs_plain (E := EE []) ?_
        refine lx_loada 9 rfl rfl Tryz.isAgg28 Tryz.sizeOf28 (by simp) rfl rfl ?_
        refine lx_call rfl rfl ent70 (fsquare_pure _) rfl rfl ?_
        refine lx_allocr 11 hGF zv28 rfl rfl ?_
        intro b11
        refine lx_storea 11 hGF rfl rfl rfl Tryz.sizeOf28 (by simp) (by simp) (one_u64 _) rfl ?_
        refine lx_nil ?_
        refine xs_drawA (E := EE [2999999]) [0, 1, 2, 3, 4, 5] [⟨6, 12, 28, (List.replicate 6 0#64).map U64⟩, ⟨7, 13, 28, (List.replicate 6 0#64).map U64⟩] [8, 9] mixed rfl (by kernel_rfl) (by kernel_rfl) (by kernel_rfl) (by kernel_rfl) (by kernel_rfl) (by kernel_rfl) (by decide) (by intro x hx; simp only [List.mem_cons, List.not_mem_nil, or_false] at hx; rcases hx with rfl | rfl <;> exact isAlloc_mk rfl zv28 rfl) ?_
        refine lx_loada 11 rfl rfl Tryz.isAgg28 Tryz.sizeOf28 (by simp) rfl rfl ?_
        refine lx_loada 9 rfl rfl Tryz.isAgg28 Tryz.sizeOf28 (by simp) rfl rfl ?_
        refine lx_call rfl rfl ent68 (fmul_pure _ _) rfl rfl ?_
        refine lx_loada 11 rfl rfl Tryz.isAgg28 Tryz.sizeOf28 (by simp) rfl rfl ?_
        refine lx_loada 7 rfl rfl Tryz.isAgg28 Tryz.sizeOf28 (by simp) rfl rfl ?_
        refine lx_call rfl rfl ent68 (fmul_pure _ _) rfl rfl ?_
        refine lx_nil ?_
        refine ⟨_, _, rfl, hGF, by intro x hx; simp only [List.mem_cons, List.not_mem_nil, or_false] at hx; rcases hx with rfl | rfl <;> rfl, by intro x hx; simp only [List.mem_cons, List.not_mem_nil, or_false] at hx; rcases hx with rfl | rfl <;> rfl, fun adr => ?_⟩
        refine lx_storea 12 hGF rfl rfl rfl Tryz.sizeOf28 (by simp) (by simp) (one_u64 _) rfl ?_
        refine lx_storea 13 hGF rfl rfl rfl Tryz.sizeOf28 (by simp) (by simp) (one_u64 _) rfl ?_
        refine lx_nil ?_
        refine xs_drawn (E := EE []) mixed (by kernel_rfl) (by kernel_rfl) (by kernel_rfl) ?_
        refine lx_loada 10 rfl rfl Tryz.isAgg28 Tryz.sizeOf28 (by simp) rfl rfl ?_
        refine lx_call rfl rfl ent70 (fsquare_pure _) rfl rfl ?_
        refine lx_loada 12 rfl rfl Tryz.isAgg28 Tryz.sizeOf28 (by simp) rfl rfl ?_
        refine lx_call rfl rfl ent118 (fsubE _ _) rfl rfl ?_
        refine lx_loada 13 rfl rfl Tryz.isAgg28 Tryz.sizeOf28 (by simp) rfl rfl ?_
        refine lx_call rfl rfl ent118 (fsubE _ _) rfl rfl ?_
        refine lx_loada 13 rfl rfl Tryz.isAgg28 Tryz.sizeOf28 (by simp) rfl rfl ?_
        refine lx_call rfl rfl ent118 (fsubE _ _) rfl rfl ?_
        refine lx_storea 7 hGF rfl rfl rfl Tryz.sizeOf28 (by simp) (by simp) (one_u64 _) rfl ?_
        refine lx_nil ?_
        refine xs_drawn (E := EE []) mixed (by kernel_rfl) (by kernel_rfl) (by kernel_rfl) ?_
        refine lx_loada 10 rfl rfl Tryz.isAgg28 Tryz.sizeOf28 (by simp) rfl rfl ?_
        refine lx_loada 13 rfl rfl Tryz.isAgg28 Tryz.sizeOf28 (by simp) rfl rfl ?_
        refine lx_loada 7 rfl rfl Tryz.isAgg28 Tryz.sizeOf28 (by simp) rfl rfl ?_
        refine lx_call rfl rfl ent118 (fsubE _ _) rfl rfl ?_
        refine lx_call rfl rfl ent68 (fmul_pure _ _) rfl rfl ?_
        refine lx_loada 12 rfl rfl Tryz.isAgg28 Tryz.sizeOf28 (by simp) rfl rfl ?_
        refine lx_loada 8 rfl rfl Tryz.isAgg28 Tryz.sizeOf28 (by simp) rfl rfl ?_
        refine lx_call rfl rfl ent68 (fmul_pure _ _) rfl rfl ?_
        refine lx_call rfl rfl ent118 (fsubE _ _) rfl rfl ?_
        refine lx_storea 8 hGF rfl rfl rfl Tryz.sizeOf28 (by simp) (by simp) (one_u64 _) rfl ?_
        refine lx_nil ?_
        refine xs_drawn (E := EE []) mixed (by kernel_rfl) (by kernel_rfl) (by kernel_rfl) ?_
        refine lx_loada 7 rfl rfl Tryz.isAgg28 Tryz.sizeOf28 (by simp) rfl rfl ?_
        refine lx_loada 8 rfl rfl Tryz.isAgg28 Tryz.sizeOf28 (by simp) rfl rfl ?_
        refine lx_fak 12 rfl Tryz.underlying30 rfl Tryz.sizeOf28 (by decide) rfl rfl rfl ?_
        refine lx_loado 2 _ rfl rfl Tryz.isAgg28 Tryz.sizeOf28 (by simp) (ld_rr (m := 6) (n := 6) (by simp) (by simp) rfl) rfl rfl ?_
        refine lx_fak 12 rfl Tryz.underlying30 rfl Tryz.sizeOf28 (by decide) rfl rfl rfl ?_
        refine lx_loado 3 _ rfl rfl Tryz.isAgg28 Tryz.sizeOf28 (by simp) (ld_rr (m := 6) (n := 6) (by simp) (by simp) rfl) rfl rfl ?_
        refine lx_call rfl rfl ent68 (fmul_pure _ _) rfl rfl ?_
        refine lx_loada 9 rfl rfl Tryz.isAgg28 Tryz.sizeOf28 (by simp) rfl rfl ?_
        refine lx_call rfl rfl ent68 (fmul_pure _ _) rfl rfl ?_
        refine lx_three012 three30 rfl rfl rfl (by simp) (by simp) (by simp) rfl rfl ?_
        refine lx_storea 4 hGF rfl rfl rfl Tryz.sizeOf30 (by simp) (by simp) (one_u64 _) rfl ?_
        refine lx_nil ?_
        refine x_ret ?_
        repeat (first | refine kseq_ret ?_ | refine kblk_ret ?_)
        exact kret_own 4 rfl rfl rfl Tryz.isAgg30 Tryz.sizeOf30 (by simp) (fun w hw => ⟨rfl, hp_below hw⟩)
theorem z_assoc3 (a b : Zp) : a * (b * b) * b = a * (b * b * b) := by grind
/-- Are they one point? as the program asks. -/
def eqJ (x y : Zp × Zp × Zp) : Prop := (x.2.2 = 0 ∧ y.2.2 = 0) ∨ (¬ x.2.2 = 0 ∧ ¬ y.2.2 = 0 ∧ x.1 * (y.2.2 * y.2.2) = y.1 * (x.2.2 * x.2.2) ∧ x.2.1 * (y.2.2 * y.2.2 * y.2.2) = y.2.1 * (x.2.2 * x.2.2 * x.2.2))
theorem same_iff' {p q : Zp × Zp} {x y : Zp × Zp × Zp} (h : E1.jr x (some p)) (k : E1.jr y (some q)) : (x.1 * (y.2.2 * y.2.2) = y.1 * (x.2.2 * x.2.2) ↔ p.1 = q.1) ∧ (x.2.1 * (y.2.2 * y.2.2 * y.2.2) = y.2.1 * (x.2.2 * x.2.2 * x.2.2) ↔ p.2 = q.2) := by
  have s := same_iff h k
  rw [z_assoc3, z_assoc3] at s
  exact s
theorem eqJ_iff {x y : Zp × Zp × Zp} {P Q : Pt Zp} (h : E1.jr x P) (k : E1.jr y Q) : eqJ x y ↔ P = Q := by
  cases P with
  | none =>
    cases Q with
    | none => exact ⟨fun _ => rfl, fun _ => .inl ⟨h, k⟩⟩
    | some q => exact ⟨fun e => e.elim (fun e => absurd e.2 k.1) (fun e => absurd h e.1), fun e => by cases e⟩
  | some p =>
    cases Q with
    | none => exact ⟨fun e => e.elim (fun e => absurd e.1 h.1) (fun e => absurd k e.2.1), fun e => by cases e⟩
    | some q =>
      have s := same_iff' h k
      exact ⟨fun e => e.elim (fun e => absurd e.1 h.1) (fun e => congrArg some (Prod.ext (s.1.1 e.2.2.1) (s.2.1 e.2.2.2))), fun e => .inr ⟨h.1, k.1, s.1.2 (congrArg Prod.fst (Option.some.inj e)), s.2.2 (congrArg Prod.snd (Option.some.inj e))⟩⟩
theorem jequal (x y : Zp × Zp × Zp) (hd : Decidable (eqJ x y)) (b : Bool) (hb : b = decide (eqJ x y)) : Pure Tryz.prog Gt 25 [JV x, JV y] (.bool b) := by
  intro w hw
  have hGF : BOk Gt (pl w) := gt_low.plain hw
  by_cases h1 : x.2.2 = 0
  · skip
    by_cases h2 : y.2.2 = 0
    · skip
      obtain rfl : b = true := hb.trans (decide_eq_true (.inl ⟨h1, h2⟩))
      refine calls_of_X (G := Gt) Tryz.func25 rfl rfl (Hp (pl w) []) (hp_refl (pl w) trivial rides_true) (good_hp hGF) ?_
      refine xs_plain (E := EE []) ?_
      refine lx_boxr 2 hGF rfl rfl rfl ?_
      intro b2
      refine lx_boxr 3 hGF rfl rfl rfl ?_
      intro b3
      refine lx_assign rfl rfl rfl ?_
      refine lx_nil ?_
      refine x_seq ?_
      refine xs_plain (E := EE []) ?_
      refine lx_loada 2 rfl rfl Tryz.isAgg30 Tryz.sizeOf30 (by simp) rfl rfl ?_
      refine lx_callB true rfl rfl ent28 (jisInf _) (decide_eq_true h1) rfl rfl ?_
      refine lx_move rfl rfl rfl ?_
      refine lx_skip rfl rfl rfl ?_
      refine lx_skip rfl rfl rfl ?_
      refine lx_pick rfl rfl rfl rfl rfl ?_
      refine lx_nil ?_
      refine x_true rfl ?_
      refine xs_plain (E := EE []) ?_
      refine lx_loada 2 rfl rfl Tryz.isAgg30 Tryz.sizeOf30 (by simp) rfl rfl ?_
      refine lx_callB true rfl rfl ent28 (jisInf _) (decide_eq_true h1) rfl rfl ?_
      refine lx_move rfl rfl rfl ?_
      refine lx_loada 3 rfl rfl Tryz.isAgg30 Tryz.sizeOf30 (by simp) rfl rfl ?_
      refine lx_callB true rfl rfl ent28 (jisInf _) (decide_eq_true h2) rfl rfl ?_
      refine lx_pick rfl rfl rfl rfl rfl ?_
      refine lx_assign rfl rfl rfl ?_
      refine lx_nil ?_
      refine x_ret ?_
      repeat (first | refine kseq_ret ?_ | refine kblk_ret ?_)
      exact kret_tmp rfl rfl (fun w hw => ⟨rfl, hp_below hw⟩)
    · skip
      obtain rfl : b = false := hb.trans (decide_eq_false (fun e => e.elim (fun e => h2 e.2) (fun e => e.1 h1)))
      refine calls_of_X (G := Gt) Tryz.func25 rfl rfl (Hp (pl w) []) (hp_refl (pl w) trivial rides_true) (good_hp hGF) ?_
      refine xs_plain (E := EE []) ?_
      refine lx_boxr 2 hGF rfl rfl rfl ?_
      intro b2
      refine lx_boxr 3 hGF rfl rfl rfl ?_
      intro b3
      refine lx_assign rfl rfl rfl ?_
      refine lx_nil ?_
      refine x_seq ?_
      refine xs_plain (E := EE []) ?_
      refine lx_loada 2 rfl rfl Tryz.isAgg30 Tryz.sizeOf30 (by simp) rfl rfl ?_
      refine lx_callB true rfl rfl ent28 (jisInf _) (decide_eq_true h1) rfl rfl ?_
      refine lx_move rfl rfl rfl ?_
      refine lx_skip rfl rfl rfl ?_
      refine lx_skip rfl rfl rfl ?_
      refine lx_pick rfl rfl rfl rfl rfl ?_
      refine lx_nil ?_
      refine x_true rfl ?_
      refine xs_plain (E := EE []) ?_
      refine lx_loada 2 rfl rfl Tryz.isAgg30 Tryz.sizeOf30 (by simp) rfl rfl ?_
      refine lx_callB true rfl rfl ent28 (jisInf _) (decide_eq_true h1) rfl rfl ?_
      refine lx_move rfl rfl rfl ?_
      refine lx_loada 3 rfl rfl Tryz.isAgg30 Tryz.sizeOf30 (by simp) rfl rfl ?_
      refine lx_callB false rfl rfl ent28 (jisInf _) (decide_eq_false h2) rfl rfl ?_
      refine lx_pick rfl rfl rfl rfl rfl ?_
      refine lx_assign rfl rfl rfl ?_
      refine lx_nil ?_
      refine x_ret ?_
      repeat (first | refine kseq_ret ?_ | refine kblk_ret ?_)
      exact kret_tmp rfl rfl (fun w hw => ⟨rfl, hp_below hw⟩)
  · skip
    by_cases h2 : y.2.2 = 0
    · skip
      obtain rfl : b = false := hb.trans (decide_eq_false (fun e => e.elim (fun e => h1 e.1) (fun e => e.2.1 h2)))
      refine calls_of_X (G := Gt) Tryz.func25 rfl rfl (Hp (pl w) []) (hp_refl (pl w) trivial rides_true) (good_hp hGF) ?_
      refine xs_plain (E := EE []) ?_
      refine lx_boxr 2 hGF rfl rfl rfl ?_
      intro b2
      refine lx_boxr 3 hGF rfl rfl rfl ?_
      intro b3
      refine lx_assign rfl rfl rfl ?_
      refine lx_nil ?_
      refine x_seq ?_
      refine xs_plain (E := EE []) ?_
      refine lx_loada 2 rfl rfl Tryz.isAgg30 Tryz.sizeOf30 (by simp) rfl rfl ?_
      refine lx_callB false rfl rfl ent28 (jisInf _) (decide_eq_false h1) rfl rfl ?_
      refine lx_move rfl rfl rfl ?_
      refine lx_loada 3 rfl rfl Tryz.isAgg30 Tryz.sizeOf30 (by simp) rfl rfl ?_
      refine lx_callB true rfl rfl ent28 (jisInf _) (decide_eq_true h2) rfl rfl ?_
      refine lx_pick rfl rfl rfl rfl rfl ?_
      refine lx_nil ?_
      refine x_true rfl ?_
      refine xs_plain (E := EE []) ?_
      refine lx_loada 2 rfl rfl Tryz.isAgg30 Tryz.sizeOf30 (by simp) rfl rfl ?_
      refine lx_callB false rfl rfl ent28 (jisInf _) (decide_eq_false h1) rfl rfl ?_
      refine lx_move rfl rfl rfl ?_
      refine lx_skip rfl rfl rfl ?_
      refine lx_skip rfl rfl rfl ?_
      refine lx_pick rfl rfl rfl rfl rfl ?_
      refine lx_assign rfl rfl rfl ?_
      refine lx_nil ?_
      refine x_ret ?_
      repeat (first | refine kseq_ret ?_ | refine kblk_ret ?_)
      exact kret_tmp rfl rfl (fun w hw => ⟨rfl, hp_below hw⟩)
    · skip
      by_cases h3 : x.1 * (y.2.2 * y.2.2) = y.1 * (x.2.2 * x.2.2)
      · skip
        by_cases h4 : x.2.1 * (y.2.2 * y.2.2 * y.2.2) = y.2.1 * (x.2.2 * x.2.2 * x.2.2)
        · skip
          obtain rfl : b = true := hb.trans (decide_eq_true (.inr ⟨h1, h2, h3, h4⟩))
          refine calls_of_X (G := Gt) Tryz.func25 rfl rfl (Hp (pl w) []) (hp_refl (pl w) trivial rides_true) (good_hp hGF) ?_
          refine xs_plain (E := EE []) ?_
          refine lx_boxr 2 hGF rfl rfl rfl ?_
          intro b2
          refine lx_boxr 3 hGF rfl rfl rfl ?_
          intro b3
          refine lx_assign rfl rfl rfl ?_
          refine lx_nil ?_
          refine x_seq ?_
          refine xs_plain (E := EE []) ?_
          refine lx_loada 2 rfl rfl Tryz.isAgg30 Tryz.sizeOf30 (by simp) rfl rfl ?_
          refine lx_callB false rfl rfl ent28 (jisInf _) (decide_eq_false h1) rfl rfl ?_
          refine lx_move rfl rfl rfl ?_
          refine lx_loada 3 rfl rfl Tryz.isAgg30 Tryz.sizeOf30 (by simp) rfl rfl ?_
          refine lx_callB false rfl rfl ent28 (jisInf _) (decide_eq_false h2) rfl rfl ?_
          refine lx_pick rfl rfl rfl rfl rfl ?_
          refine lx_nil ?_
          refine x_false rfl ?_
          refine x_skip ?_
          refine xs_drawA (E := EE [2999999]) [0, 1, 2, 3, 4, 5, 6, 7, 8, 9, 10, 11] [⟨12, 5, 28, (List.replicate 6 0#64).map U64⟩, ⟨13, 6, 28, (List.replicate 6 0#64).map U64⟩] [14, 15] mixed rfl (by kernel_rfl) (by kernel_rfl) (by kernel_rfl) (by kernel_rfl) (by kernel_rfl) (by kernel_rfl) (by decide) (by intro x hx; simp only [List.mem_cons, List.not_mem_nil, or_false] at hx; rcases hx with rfl | rfl <;> exact isAlloc_mk rfl zv28 rfl) ?_
          refine lx_fak 6 rfl Tryz.underlying30 rfl Tryz.sizeOf28 (by decide) rfl rfl rfl ?_
          refine lx_loado 2 _ rfl rfl Tryz.isAgg28 Tryz.sizeOf28 (by simp) (ld_m (by simp)) rfl rfl ?_
          refine lx_fak 12 rfl Tryz.underlying30 rfl Tryz.sizeOf28 (by decide) rfl rfl rfl ?_
          refine lx_loado 3 _ rfl rfl Tryz.isAgg28 Tryz.sizeOf28 (by simp) (ld_rr (m := 6) (n := 6) (by simp) (by simp) rfl) rfl rfl ?_
          refine lx_call rfl rfl ent69 (jcube _) rfl rfl ?_
          refine lx_call rfl rfl ent68 (fmul_pure _ _) rfl rfl ?_
          refine lx_fak 6 rfl Tryz.underlying30 rfl Tryz.sizeOf28 (by decide) rfl rfl rfl ?_
          refine lx_loado 3 _ rfl rfl Tryz.isAgg28 Tryz.sizeOf28 (by simp) (ld_m (by simp)) rfl rfl ?_
          refine lx_fak 12 rfl Tryz.underlying30 rfl Tryz.sizeOf28 (by decide) rfl rfl rfl ?_
          refine lx_loado 2 _ rfl rfl Tryz.isAgg28 Tryz.sizeOf28 (by simp) (ld_rr (m := 6) (n := 6) (by simp) (by simp) rfl) rfl rfl ?_
          refine lx_call rfl rfl ent69 (jcube _) rfl rfl ?_
          refine lx_call rfl rfl ent68 (fmul_pure _ _) rfl rfl ?_
          refine lx_nil ?_
          refine ⟨_, _, rfl, hGF, by intro x hx; simp only [List.mem_cons, List.not_mem_nil, or_false] at hx; rcases hx with rfl | rfl <;> rfl, by intro x hx; simp only [List.mem_cons, List.not_mem_nil, or_false] at hx; rcases hx with rfl | rfl <;> rfl, fun adr => ?_⟩
          refine lx_storea 5 hGF rfl rfl rfl Tryz.sizeOf28 (by simp) (by simp) (one_u64 _) rfl ?_
          refine lx_storea 6 hGF rfl rfl rfl Tryz.sizeOf28 (by simp) (by simp) (one_u64 _) rfl ?_
          refine lx_nil ?_
          refine xs_drawn (E := EE []) mixed (by kernel_rfl) (by kernel_rfl) (by kernel_rfl) ?_
          refine lx_fak 0 rfl Tryz.underlying30 rfl Tryz.sizeOf28 (by decide) rfl rfl rfl ?_
          refine lx_loado 2 _ rfl rfl Tryz.isAgg28 Tryz.sizeOf28 (by simp) ld_l rfl rfl ?_
          refine lx_fak 12 rfl Tryz.underlying30 rfl Tryz.sizeOf28 (by decide) rfl rfl rfl ?_
          refine lx_loado 3 _ rfl rfl Tryz.isAgg28 Tryz.sizeOf28 (by simp) (ld_rr (m := 6) (n := 6) (by simp) (by simp) rfl) rfl rfl ?_
          refine lx_call rfl rfl ent70 (fsquare_pure _) rfl rfl ?_
          refine lx_call rfl rfl ent68 (fmul_pure _ _) rfl rfl ?_
          refine lx_fak 0 rfl Tryz.underlying30 rfl Tryz.sizeOf28 (by decide) rfl rfl rfl ?_
          refine lx_loado 3 _ rfl rfl Tryz.isAgg28 Tryz.sizeOf28 (by simp) ld_l rfl rfl ?_
          refine lx_fak 12 rfl Tryz.underlying30 rfl Tryz.sizeOf28 (by decide) rfl rfl rfl ?_
          refine lx_loado 2 _ rfl rfl Tryz.isAgg28 Tryz.sizeOf28 (by simp) (ld_rr (m := 6) (n := 6) (by simp) (by simp) rfl) rfl rfl ?_
          refine lx_call rfl rfl ent70 (fsquare_pure _) rfl rfl ?_
          refine lx_call rfl rfl ent68 (fmul_pure _ _) rfl rfl ?_
          refine lx_callB true rfl rfl ent71 (fequal_pure _ _) (decide_eq_true h3) rfl rfl ?_
          refine lx_move rfl rfl rfl ?_
          refine lx_loada 5 rfl rfl Tryz.isAgg28 Tryz.sizeOf28 (by simp) rfl rfl ?_
          refine lx_loada 6 rfl rfl Tryz.isAgg28 Tryz.sizeOf28 (by simp) rfl rfl ?_
          refine lx_callB true rfl rfl ent71 (fequal_pure _ _) (decide_eq_true h4) rfl rfl ?_
          refine lx_pick rfl rfl rfl rfl rfl ?_
          refine lx_assign rfl rfl rfl ?_
          refine lx_nil ?_
          refine x_ret ?_
          repeat (first | refine kseq_ret ?_ | refine kblk_ret ?_)
          exact kret_tmp rfl rfl (fun w hw => ⟨rfl, hp_below hw⟩)
        · skip
          obtain rfl : b = false := hb.trans (decide_eq_false (fun e => e.elim (fun e => h1 e.1) (fun e => h4 e.2.2.2)))
          refine calls_of_X (G := Gt) Tryz.func25 rfl rfl (Hp (pl w) []) (hp_refl (pl w) trivial rides_true) (good_hp hGF) ?_
          refine xs_plain (E := EE []) ?_
          refine lx_boxr 2 hGF rfl rfl rfl ?_
          intro b2
          refine lx_boxr 3 hGF rfl rfl rfl ?_
          intro b3
          refine lx_assign rfl rfl rfl ?_
          refine lx_nil ?_
          refine x_seq ?_
          refine xs_plain (E := EE []) ?_
          refine lx_loada 2 rfl rfl Tryz.isAgg30 Tryz.sizeOf30 (by simp) rfl rfl ?_
          refine lx_callB false rfl rfl ent28 (jisInf _) (decide_eq_false h1) rfl rfl ?_
          refine lx_move rfl rfl rfl ?_
          refine lx_loada 3 rfl rfl Tryz.isAgg30 Tryz.sizeOf30 (by simp) rfl rfl ?_
          refine lx_callB false rfl rfl ent28 (jisInf _) (decide_eq_false h2) rfl rfl ?_
          refine lx_pick rfl rfl rfl rfl rfl ?_
          refine lx_nil ?_
          refine x_false rfl ?_
          refine x_skip ?_
          refine xs_drawA (E := EE [2999999]) [0, 1, 2, 3, 4, 5, 6, 7, 8, 9, 10, 11] [⟨12, 5, 28, (List.replicate 6 0#64).map U64⟩, ⟨13, 6, 28, (List.replicate 6 0#64).map U64⟩] [14, 15] mixed rfl (by kernel_rfl) (by kernel_rfl) (by kernel_rfl) (by kernel_rfl) (by kernel_rfl) (by kernel_rfl) (by decide) (by intro x hx; simp only [List.mem_cons, List.not_mem_nil, or_false] at hx; rcases hx with rfl | rfl <;> exact isAlloc_mk rfl zv28 rfl) ?_
          refine lx_fak 6 rfl Tryz.underlying30 rfl Tryz.sizeOf28 (by decide) rfl rfl rfl ?_
          refine lx_loado 2 _ rfl rfl Tryz.isAgg28 Tryz.sizeOf28 (by simp) (ld_m (by simp)) rfl rfl ?_
          refine lx_fak 12 rfl Tryz.underlying30 rfl Tryz.sizeOf28 (by decide) rfl rfl rfl ?_
          refine lx_loado 3 _ rfl rfl Tryz.isAgg28 Tryz.sizeOf28 (by simp) (ld_rr (m := 6) (n := 6) (by simp) (by simp) rfl) rfl rfl ?_
          refine lx_call rfl rfl ent69 (jcube _) rfl rfl ?_
          refine lx_call rfl rfl ent68 (fmul_pure _ _) rfl rfl ?_
          refine lx_fak 6 rfl Tryz.underlying30 rfl Tryz.sizeOf28 (by decide) rfl rfl rfl ?_
          refine lx_loado 3 _ rfl rfl Tryz.isAgg28 Tryz.sizeOf28 (by simp) (ld_m (by simp)) rfl rfl ?_
          refine lx_fak 12 rfl Tryz.underlying30 rfl Tryz.sizeOf28 (by decide) rfl rfl rfl ?_
          refine lx_loado 2 _ rfl rfl Tryz.isAgg28 Tryz.sizeOf28 (by simp) (ld_rr (m := 6) (n := 6) (by simp) (by simp) rfl) rfl rfl ?_
          refine lx_call rfl rfl ent69 (jcube _) rfl rfl ?_
          refine lx_call rfl rfl ent68 (fmul_pure _ _) rfl rfl ?_
          refine lx_nil ?_
          refine ⟨_, _, rfl, hGF, by intro x hx; simp only [List.mem_cons, List.not_mem_nil, or_false] at hx; rcases hx with rfl | rfl <;> rfl, by intro x hx; simp only [List.mem_cons, List.not_mem_nil, or_false] at hx; rcases hx with rfl | rfl <;> rfl, fun adr => ?_⟩
          refine lx_storea 5 hGF rfl rfl rfl Tryz.sizeOf28 (by simp) (by simp) (one_u64 _) rfl ?_
          refine lx_storea 6 hGF rfl rfl rfl Tryz.sizeOf28 (by simp) (by simp) (one_u64 _) rfl ?_
          refine lx_nil ?_
          refine xs_drawn (E := EE []) mixed (by kernel_rfl) (by kernel_rfl) (by kernel_rfl) ?_
          refine lx_fak 0 rfl Tryz.underlying30 rfl Tryz.sizeOf28 (by decide) rfl rfl rfl ?_
          refine lx_loado 2 _ rfl rfl Tryz.isAgg28 Tryz.sizeOf28 (by simp) ld_l rfl rfl ?_
          refine lx_fak 12 rfl Tryz.underlying30 rfl Tryz.sizeOf28 (by decide) rfl rfl rfl ?_
          refine lx_loado 3 _ rfl rfl Tryz.isAgg28 Tryz.sizeOf28 (by simp) (ld_rr (m := 6) (n := 6) (by simp) (by simp) rfl) rfl rfl ?_
          refine lx_call rfl rfl ent70 (fsquare_pure _) rfl rfl ?_
          refine lx_call rfl rfl ent68 (fmul_pure _ _) rfl rfl ?_
          refine lx_fak 0 rfl Tryz.underlying30 rfl Tryz.sizeOf28 (by decide) rfl rfl rfl ?_
          refine lx_loado 3 _ rfl rfl Tryz.isAgg28 Tryz.sizeOf28 (by simp) ld_l rfl rfl ?_
          refine lx_fak 12 rfl Tryz.underlying30 rfl Tryz.sizeOf28 (by decide) rfl rfl rfl ?_
          refine lx_loado 2 _ rfl rfl Tryz.isAgg28 Tryz.sizeOf28 (by simp) (ld_rr (m := 6) (n := 6) (by simp) (by simp) rfl) rfl rfl ?_
          refine lx_call rfl rfl ent70 (fsquare_pure _) rfl rfl ?_
          refine lx_call rfl rfl ent68 (fmul_pure _ _) rfl rfl ?_
          refine lx_callB true rfl rfl ent71 (fequal_pure _ _) (decide_eq_true h3) rfl rfl ?_
          refine lx_move rfl rfl rfl ?_
          refine lx_loada 5 rfl rfl Tryz.isAgg28 Tryz.sizeOf28 (by simp) rfl rfl ?_
          refine lx_loada 6 rfl rfl Tryz.isAgg28 Tryz.sizeOf28 (by simp) rfl rfl ?_
          refine lx_callB false rfl rfl ent71 (fequal_pure _ _) (decide_eq_false h4) rfl rfl ?_
          refine lx_pick rfl rfl rfl rfl rfl ?_
          refine lx_assign rfl rfl rfl ?_
          refine lx_nil ?_
          refine x_ret ?_
          repeat (first | refine kseq_ret ?_ | refine kblk_ret ?_)
          exact kret_tmp rfl rfl (fun w hw => ⟨rfl, hp_below hw⟩)
      · skip
        obtain rfl : b = false := hb.trans (decide_eq_false (fun e => e.elim (fun e => h1 e.1) (fun e => h3 e.2.2.1)))
        refine calls_of_X (G := Gt) Tryz.func25 rfl rfl (Hp (pl w) []) (hp_refl (pl w) trivial rides_true) (good_hp hGF) ?_
        refine xs_plain (E := EE []) ?_
        refine lx_boxr 2 hGF rfl rfl rfl ?_
        intro b2
        refine lx_boxr 3 hGF rfl rfl rfl ?_
        intro b3
        refine lx_assign rfl rfl rfl ?_
        refine lx_nil ?_
        refine x_seq ?_
        refine xs_plain (E := EE []) ?_
        refine lx_loada 2 rfl rfl Tryz.isAgg30 Tryz.sizeOf30 (by simp) rfl rfl ?_
        refine lx_callB false rfl rfl ent28 (jisInf _) (decide_eq_false h1) rfl rfl ?_
        refine lx_move rfl rfl rfl ?_
        refine lx_loada 3 rfl rfl Tryz.isAgg30 Tryz.sizeOf30 (by simp) rfl rfl ?_
        refine lx_callB false rfl rfl ent28 (jisInf _) (decide_eq_false h2) rfl rfl ?_
        refine lx_pick rfl rfl rfl rfl rfl ?_
        refine lx_nil ?_
        refine x_false rfl ?_
        refine x_skip ?_
        refine xs_drawA (E := EE [2999999]) [0, 1, 2, 3, 4, 5, 6, 7, 8, 9, 10, 11] [⟨12, 5, 28, (List.replicate 6 0#64).map U64⟩, ⟨13, 6, 28, (List.replicate 6 0#64).map U64⟩] [14, 15] mixed rfl (by kernel_rfl) (by kernel_rfl) (by kernel_rfl) (by kernel_rfl) (by kernel_rfl) (by kernel_rfl) (by decide) (by intro x hx; simp only [List.mem_cons, List.not_mem_nil, or_false] at hx; rcases hx with rfl | rfl <;> exact isAlloc_mk rfl zv28 rfl) ?_
        refine lx_fak 6 rfl Tryz.underlying30 rfl Tryz.sizeOf28 (by decide) rfl rfl rfl ?_
        refine lx_loado 2 _ rfl rfl Tryz.isAgg28 Tryz.sizeOf28 (by simp) (ld_m (by simp)) rfl rfl ?_
        refine lx_fak 12 rfl Tryz.underlying30 rfl Tryz.sizeOf28 (by decide) rfl rfl rfl ?_
        refine lx_loado 3 _ rfl rfl Tryz.isAgg28 Tryz.sizeOf28 (by simp) (ld_rr (m := 6) (n := 6) (by simp) (by simp) rfl) rfl rfl ?_
        refine lx_call rfl rfl ent69 (jcube _) rfl rfl ?_
        refine lx_call rfl rfl ent68 (fmul_pure _ _) rfl rfl ?_
        refine lx_fak 6 rfl Tryz.underlying30 rfl Tryz.sizeOf28 (by decide) rfl rfl rfl ?_
        refine lx_loado 3 _ rfl rfl Tryz.isAgg28 Tryz.sizeOf28 (by simp) (ld_m (by simp)) rfl rfl ?_
        refine lx_fak 12 rfl Tryz.underlying30 rfl Tryz.sizeOf28 (by decide) rfl rfl rfl ?_
        refine lx_loado 2 _ rfl rfl Tryz.isAgg28 Tryz.sizeOf28 (by simp) (ld_rr (m := 6) (n := 6) (by simp) (by simp) rfl) rfl rfl ?_
        refine lx_call rfl rfl ent69 (jcube _) rfl rfl ?_
        refine lx_call rfl rfl ent68 (fmul_pure _ _) rfl rfl ?_
        refine lx_nil ?_
        refine ⟨_, _, rfl, hGF, by intro x hx; simp only [List.mem_cons, List.not_mem_nil, or_false] at hx; rcases hx with rfl | rfl <;> rfl, by intro x hx; simp only [List.mem_cons, List.not_mem_nil, or_false] at hx; rcases hx with rfl | rfl <;> rfl, fun adr => ?_⟩
        refine lx_storea 5 hGF rfl rfl rfl Tryz.sizeOf28 (by simp) (by simp) (one_u64 _) rfl ?_
        refine lx_storea 6 hGF rfl rfl rfl Tryz.sizeOf28 (by simp) (by simp) (one_u64 _) rfl ?_
        refine lx_nil ?_
        refine xs_drawn (E := EE []) mixed (by kernel_rfl) (by kernel_rfl) (by kernel_rfl) ?_
        refine lx_fak 0 rfl Tryz.underlying30 rfl Tryz.sizeOf28 (by decide) rfl rfl rfl ?_
        refine lx_loado 2 _ rfl rfl Tryz.isAgg28 Tryz.sizeOf28 (by simp) ld_l rfl rfl ?_
        refine lx_fak 12 rfl Tryz.underlying30 rfl Tryz.sizeOf28 (by decide) rfl rfl rfl ?_
        refine lx_loado 3 _ rfl rfl Tryz.isAgg28 Tryz.sizeOf28 (by simp) (ld_rr (m := 6) (n := 6) (by simp) (by simp) rfl) rfl rfl ?_
        refine lx_call rfl rfl ent70 (fsquare_pure _) rfl rfl ?_
        refine lx_call rfl rfl ent68 (fmul_pure _ _) rfl rfl ?_
        refine lx_fak 0 rfl Tryz.underlying30 rfl Tryz.sizeOf28 (by decide) rfl rfl rfl ?_
        refine lx_loado 3 _ rfl rfl Tryz.isAgg28 Tryz.sizeOf28 (by simp) ld_l rfl rfl ?_
        refine lx_fak 12 rfl Tryz.underlying30 rfl Tryz.sizeOf28 (by decide) rfl rfl rfl ?_
        refine lx_loado 2 _ rfl rfl Tryz.isAgg28 Tryz.sizeOf28 (by simp) (ld_rr (m := 6) (n := 6) (by simp) (by simp) rfl) rfl rfl ?_
        refine lx_call rfl rfl ent70 (fsquare_pure _) rfl rfl ?_
        refine lx_call rfl rfl ent68 (fmul_pure _ _) rfl rfl ?_
        refine lx_callB false rfl rfl ent71 (fequal_pure _ _) (decide_eq_false h3) rfl rfl ?_
        refine lx_move rfl rfl rfl ?_
        refine lx_skip rfl rfl rfl ?_
        refine lx_skip rfl rfl rfl ?_
        refine lx_skip rfl rfl rfl ?_
        refine lx_pick rfl rfl rfl rfl rfl ?_
        refine lx_assign rfl rfl rfl ?_
        refine lx_nil ?_
        refine x_ret ?_
        repeat (first | refine kseq_ret ?_ | refine kblk_ret ?_)
        exact kret_tmp rfl rfl (fun w hw => ⟨rfl, hp_below hw⟩)
theorem jxy_n (x : Zp × Zp × Zp) (h : x.2.2 = 0) : Pure Tryz.prog Gt 46 [JV x] (.tuple #[EV 0, EV 0, .bool false]) := by
  intro w hw
  have hGF : BOk Gt (pl w) := gt_low.plain hw
  refine calls_of_X (G := Gt) Tryz.func46 rfl rfl (Hp (pl w) []) (hp_refl (pl w) trivial rides_true) (good_hp hGF) ?_
  refine xs_plain (E := EE []) ?_
  refine lx_boxr 1 hGF rfl rfl rfl ?_
  intro b1
  refine lx_allocr 2 hGF zv28 rfl rfl ?_
  intro b2
  refine lx_allocr 3 hGF zv28 rfl rfl ?_
  intro b3
  refine lx_assign rfl rfl rfl ?_
  refine lx_nil ?_
  refine x_seq ?_
  refine xs_plain (E := EE []) ?_
  refine lx_loada 1 rfl rfl Tryz.isAgg30 Tryz.sizeOf30 (by simp) rfl rfl ?_
  refine lx_callB true rfl rfl ent28 (jisInf _) (decide_eq_true h) rfl rfl ?_
  refine lx_nil ?_
  refine x_true rfl ?_
  refine xs_plain (E := EE []) ?_
  refine lx_builds zf28 Tryz.underlying28 (bm_one Tryz.sizeOf26) rfl rfl ?_
  refine lx_builds zf28 Tryz.underlying28 (bm_one Tryz.sizeOf26) rfl rfl ?_
  refine lx_storea 2 hGF rfl rfl rfl Tryz.sizeOf28 (by simp) (by simp) (one_u64 _) rfl ?_
  refine lx_storea 3 hGF rfl rfl rfl Tryz.sizeOf28 (by simp) (by simp) (one_u64 _) rfl ?_
  refine lx_assign rfl rfl rfl ?_
  refine lx_nil ?_
  refine x_ret ?_
  repeat (first | refine kseq_ret ?_ | refine kblk_ret ?_)
  exact kret_cct 2 3 rfl rfl rfl rfl rfl rfl Tryz.isAgg28 Tryz.sizeOf28 (by simp) (by simp) (fun w hw => ⟨rfl, hp_below hw⟩)
theorem jxy_s (x : Zp × Zp × Zp) (h : ¬ x.2.2 = 0) : Pure Tryz.prog Gt 46 [JV x] (.tuple #[EV (x.1 * (x.2.2 ^ (PP - 2) * x.2.2 ^ (PP - 2))), EV (x.2.1 * (x.2.2 ^ (PP - 2) * x.2.2 ^ (PP - 2) * x.2.2 ^ (PP - 2))), .bool true]) := by
  intro w hw
  have hGF : BOk Gt (pl w) := gt_low.plain hw
  refine calls_of_X (G := Gt) Tryz.func46 rfl rfl (Hp (pl w) []) (hp_refl (pl w) trivial rides_true) (good_hp hGF) ?_
  refine xs_plain (E := EE []) ?_
  refine lx_boxr 1 hGF rfl rfl rfl ?_
  intro b1
  refine lx_allocr 2 hGF zv28 rfl rfl ?_
  intro b2
  refine lx_allocr 3 hGF zv28 rfl rfl ?_
  intro b3
  refine lx_assign rfl rfl rfl ?_
  refine lx_nil ?_
  refine x_seq ?_
  refine xs_plain (E := EE []) ?_
  refine lx_loada 1 rfl rfl Tryz.isAgg30 Tryz.sizeOf30 (by simp) rfl rfl ?_
  refine lx_callB false rfl rfl ent28 (jisInf _) (decide_eq_false h) rfl rfl ?_
  refine lx_nil ?_
  refine x_false rfl ?_
  refine x_skip ?_
  refine xs_plain (E := EE []) ?_
  refine lx_fak 12 rfl Tryz.underlying30 rfl Tryz.sizeOf28 (by decide) rfl rfl rfl ?_
  refine lx_loado 1 _ rfl rfl Tryz.isAgg28 Tryz.sizeOf28 (by simp) (ld_rr (m := 6) (n := 6) (by simp) (by simp) rfl) rfl rfl ?_
  refine lx_call rfl rfl ent102 (finv_pure _) rfl rfl ?_
  refine lx_allocr 5 hGF zv28 rfl rfl ?_
  intro b5
  refine lx_storea 5 hGF rfl rfl rfl Tryz.sizeOf28 (by simp) (by simp) (one_u64 _) rfl ?_
  refine lx_nil ?_
  refine xs_plain (E := EE []) ?_
  refine lx_loada 5 rfl rfl Tryz.isAgg28 Tryz.sizeOf28 (by simp) rfl rfl ?_
  refine lx_call rfl rfl ent70 (fsquare_pure _) rfl rfl ?_
  refine lx_allocr 6 hGF zv28 rfl rfl ?_
  intro b6
  refine lx_storea 6 hGF rfl rfl rfl Tryz.sizeOf28 (by simp) (by simp) (one_u64 _) rfl ?_
  refine lx_nil ?_
  refine xs_drawn (E := EE []) mixed (by kernel_rfl) (by kernel_rfl) (by kernel_rfl) ?_
  refine lx_fak 0 rfl Tryz.underlying30 rfl Tryz.sizeOf28 (by decide) rfl rfl rfl ?_
  refine lx_loado 1 _ rfl rfl Tryz.isAgg28 Tryz.sizeOf28 (by simp) ld_l rfl rfl ?_
  refine lx_loada 6 rfl rfl Tryz.isAgg28 Tryz.sizeOf28 (by simp) rfl rfl ?_
  refine lx_call rfl rfl ent68 (fmul_pure _ _) rfl rfl ?_
  refine lx_fak 6 rfl Tryz.underlying30 rfl Tryz.sizeOf28 (by decide) rfl rfl rfl ?_
  refine lx_loado 1 _ rfl rfl Tryz.isAgg28 Tryz.sizeOf28 (by simp) (ld_m (by simp)) rfl rfl ?_
  refine lx_loada 6 rfl rfl Tryz.isAgg28 Tryz.sizeOf28 (by simp) rfl rfl ?_
  refine lx_loada 5 rfl rfl Tryz.isAgg28 Tryz.sizeOf28 (by simp) rfl rfl ?_
  refine lx_call rfl rfl ent68 (fmul_pure _ _) rfl rfl ?_
  refine lx_call rfl rfl ent68 (fmul_pure _ _) rfl rfl ?_
  refine lx_storea 2 hGF rfl rfl rfl Tryz.sizeOf28 (by simp) (by simp) (one_u64 _) rfl ?_
  refine lx_storea 3 hGF rfl rfl rfl Tryz.sizeOf28 (by simp) (by simp) (one_u64 _) rfl ?_
  refine lx_assign rfl rfl rfl ?_
  refine lx_nil ?_
  refine x_ret ?_
  repeat (first | refine kseq_ret ?_ | refine kblk_ret ?_)
  exact kret_cct 2 3 rfl rfl rfl rfl rfl rfl Tryz.isAgg28 Tryz.sizeOf28 (by simp) (by simp) (fun w hw => ⟨rfl, hp_below hw⟩)
theorem jfin (a b : Zp) : Pure Tryz.prog Gt 59 [EV a, EV b] (JV (a, b, 1)) := by
  intro w hw
  have hGF : BOk Gt (pl w) := gt_low.plain hw
  refine calls_of_X (G := Gt) Tryz.func59 rfl rfl (Hp (pl w) []) (hp_refl (pl w) trivial rides_true) (good_hp hGF) ?_
  refine xs_plain (E := EE []) ?_
  refine lx_boxr 2 hGF rfl rfl rfl ?_
  intro b2
  refine lx_boxr 3 hGF rfl rfl rfl ?_
  intro b3
  refine lx_allocr 4 hGF zj30 rfl rfl ?_
  intro b4
  refine lx_nil ?_
  refine xs_drawn (E := EE []) mixed (by kernel_rfl) (by kernel_rfl) (by kernel_rfl) ?_
  refine lx_loada 2 rfl rfl Tryz.isAgg28 Tryz.sizeOf28 (by simp) rfl rfl ?_
  refine lx_loada 3 rfl rfl Tryz.isAgg28 Tryz.sizeOf28 (by simp) rfl rfl ?_
  refine lx_call rfl rfl ent110 (fof1_pure) rfl rfl ?_
  refine lx_three012 three30 rfl rfl rfl (by simp) (by simp) (by simp) rfl rfl ?_
  refine lx_storea 4 hGF rfl rfl rfl Tryz.sizeOf30 (by simp) (by simp) (one_u64 _) rfl ?_
  refine lx_nil ?_
  refine x_ret ?_
  repeat (first | refine kseq_ret ?_ | refine kblk_ret ?_)
  exact kret_own 4 rfl rfl rfl Tryz.isAgg30 Tryz.sizeOf30 (by simp) (fun w hw => ⟨rfl, hp_below hw⟩)
theorem of4 : Pure Tryz.prog Gt 110 [U64 4#64] (EV (zp 4)) := fof_pure 4#64
theorem jright (a : Zp) : Pure Tryz.prog Gt 85 [EV a] (EV (RS4 a)) := by
  intro w hw
  have hGF : BOk Gt (pl w) := gt_low.plain hw
  refine calls_of_X (G := Gt) Tryz.func85 rfl rfl (Hp (pl w) []) (hp_refl (pl w) trivial rides_true) (good_hp hGF) ?_
  refine xs_plain (E := EE []) ?_
  refine lx_boxr 1 hGF rfl rfl rfl ?_
  intro b1
  refine lx_allocr 2 hGF zv28 rfl rfl ?_
  intro b2
  refine lx_nil ?_
  refine xs_plain (E := EE []) ?_
  refine lx_loada 1 rfl rfl Tryz.isAgg28 Tryz.sizeOf28 (by simp) rfl rfl ?_
  refine lx_call rfl rfl ent69 (jcube _) rfl rfl ?_
  refine lx_call rfl rfl ent110 (of4) rfl rfl ?_
  refine lx_call rfl rfl ent83 (fadd_pure _ _) rfl rfl ?_
  refine lx_storea 2 hGF rfl rfl rfl Tryz.sizeOf28 (by simp) (by simp) (one_u64 _) rfl ?_
  refine lx_nil ?_
  refine x_ret ?_
  repeat (first | refine kseq_ret ?_ | refine kblk_ret ?_)
  exact kret_own 2 rfl rfl rfl Tryz.isAgg28 Tryz.sizeOf28 (by simp) (fun w hw => ⟨rfl, hp_below hw⟩)
theorem jlift_yt (a s : Zp) (hs : Pure Tryz.prog Gt 86 [EV (RS4 a)] (.tuple #[EV s, .bool true])) : Pure Tryz.prog Gt 30 [EV a, .bool true] (.tuple #[JV (a, -s, 1), .bool true]) := by
  intro w hw
  have hGF : BOk Gt (pl w) := gt_low.plain hw
  refine calls_of_X (G := Gt) Tryz.func30 rfl rfl (Hp (pl w) []) (hp_refl (pl w) trivial rides_true) (good_hp hGF) ?_
  refine xs_plain (E := EE []) ?_
  refine lx_boxr 2 hGF rfl rfl rfl ?_
  intro b2
  refine lx_allocr 4 hGF zj30 rfl rfl ?_
  intro b4
  refine lx_assign rfl rfl rfl ?_
  refine lx_nil ?_
  refine xs_plain (E := EE []) ?_
  refine lx_loada 2 rfl rfl Tryz.isAgg28 Tryz.sizeOf28 (by simp) rfl rfl ?_
  refine lx_call rfl rfl ent85 (jright _) rfl rfl ?_
  refine lx_call rfl rfl ent86 (hs) rfl rfl ?_
  refine lx_move rfl rfl rfl ?_
  refine lx_ext rfl rfl rfl rfl ?_
  refine lx_ext rfl rfl rfl rfl ?_
  refine lx_allocr 6 hGF zv28 rfl rfl ?_
  intro b6
  refine lx_storea 6 hGF rfl rfl rfl Tryz.sizeOf28 (by simp) (by simp) (one_u64 _) rfl ?_
  refine lx_assign rfl rfl rfl ?_
  refine lx_nil ?_
  refine x_seq ?_
  refine xs_plain (E := EE []) ?_
  refine lx_move rfl rfl rfl ?_
  refine lx_un rfl (fun _ => un_not _) rfl rfl ?_
  refine lx_nil ?_
  refine x_false rfl ?_
  refine x_skip ?_
  refine x_seq ?_
  refine xs_plain (E := EE []) ?_
  refine lx_move rfl rfl rfl ?_
  refine lx_nil ?_
  refine x_true rfl ?_
  refine x_plain (E := EE []) ?_
  refine lx_loada 6 rfl rfl Tryz.isAgg28 Tryz.sizeOf28 (by simp) rfl rfl ?_
  refine lx_call rfl rfl ent66 (fneg_pure _) rfl rfl ?_
  refine lx_storea 6 hGF rfl rfl rfl Tryz.sizeOf28 (by simp) (by simp) (one_u64 _) rfl ?_
  refine lx_nil ?_
  refine xs_plain (E := EE []) ?_
  refine lx_loada 2 rfl rfl Tryz.isAgg28 Tryz.sizeOf28 (by simp) rfl rfl ?_
  refine lx_loada 6 rfl rfl Tryz.isAgg28 Tryz.sizeOf28 (by simp) rfl rfl ?_
  refine lx_call rfl rfl ent59 (jfin _ _) rfl rfl ?_
  refine lx_storea 4 hGF rfl rfl rfl Tryz.sizeOf30 (by simp) (by simp) (one_u64 _) rfl ?_
  refine lx_assign rfl rfl rfl ?_
  refine lx_nil ?_
  refine x_ret ?_
  repeat (first | refine kseq_ret ?_ | refine kblk_ret ?_)
  exact kret_ct 4 rfl rfl rfl rfl Tryz.isAgg30 Tryz.sizeOf30 (by simp) (fun w hw => ⟨rfl, hp_below hw⟩)
theorem jlift_nt (a s : Zp) (hs : Pure Tryz.prog Gt 86 [EV (RS4 a)] (.tuple #[EV s, .bool false])) : Pure Tryz.prog Gt 30 [EV a, .bool true] (.tuple #[JV (0, 0, 0), .bool false]) := by
  intro w hw
  have hGF : BOk Gt (pl w) := gt_low.plain hw
  refine calls_of_X (G := Gt) Tryz.func30 rfl rfl (Hp (pl w) []) (hp_refl (pl w) trivial rides_true) (good_hp hGF) ?_
  refine xs_plain (E := EE []) ?_
  refine lx_boxr 2 hGF rfl rfl rfl ?_
  intro b2
  refine lx_allocr 4 hGF zj30 rfl rfl ?_
  intro b4
  refine lx_assign rfl rfl rfl ?_
  refine lx_nil ?_
  refine xs_plain (E := EE []) ?_
  refine lx_loada 2 rfl rfl Tryz.isAgg28 Tryz.sizeOf28 (by simp) rfl rfl ?_
  refine lx_call rfl rfl ent85 (jright _) rfl rfl ?_
  refine lx_call rfl rfl ent86 (hs) rfl rfl ?_
  refine lx_move rfl rfl rfl ?_
  refine lx_ext rfl rfl rfl rfl ?_
  refine lx_ext rfl rfl rfl rfl ?_
  refine lx_allocr 6 hGF zv28 rfl rfl ?_
  intro b6
  refine lx_storea 6 hGF rfl rfl rfl Tryz.sizeOf28 (by simp) (by simp) (one_u64 _) rfl ?_
  refine lx_assign rfl rfl rfl ?_
  refine lx_nil ?_
  refine x_seq ?_
  refine xs_plain (E := EE []) ?_
  refine lx_move rfl rfl rfl ?_
  refine lx_un rfl (fun _ => un_not _) rfl rfl ?_
  refine lx_nil ?_
  refine x_true rfl ?_
  refine xs_plain (E := EE []) ?_
  refine lx_threeN three30 rfl rfl ?_
  refine lx_storea 4 hGF rfl rfl rfl Tryz.sizeOf30 (by simp) (by simp) (one_u64 _) rfl ?_
  refine lx_assign rfl rfl rfl ?_
  refine lx_nil ?_
  refine x_ret ?_
  repeat (first | refine kseq_ret ?_ | refine kblk_ret ?_)
  exact kret_ct 4 rfl rfl rfl rfl Tryz.isAgg30 Tryz.sizeOf30 (by simp) (fun w hw => ⟨rfl, hp_below hw⟩)
theorem jlift_yf (a s : Zp) (hs : Pure Tryz.prog Gt 86 [EV (RS4 a)] (.tuple #[EV s, .bool true])) : Pure Tryz.prog Gt 30 [EV a, .bool false] (.tuple #[JV (a, s, 1), .bool true]) := by
  intro w hw
  have hGF : BOk Gt (pl w) := gt_low.plain hw
  refine calls_of_X (G := Gt) Tryz.func30 rfl rfl (Hp (pl w) []) (hp_refl (pl w) trivial rides_true) (good_hp hGF) ?_
  refine xs_plain (E := EE []) ?_
  refine lx_boxr 2 hGF rfl rfl rfl ?_
  intro b2
  refine lx_allocr 4 hGF zj30 rfl rfl ?_
  intro b4
  refine lx_assign rfl rfl rfl ?_
  refine lx_nil ?_
  refine xs_plain (E := EE []) ?_
  refine lx_loada 2 rfl rfl Tryz.isAgg28 Tryz.sizeOf28 (by simp) rfl rfl ?_
  refine lx_call rfl rfl ent85 (jright _) rfl rfl ?_
  refine lx_call rfl rfl ent86 (hs) rfl rfl ?_
  refine lx_move rfl rfl rfl ?_
  refine lx_ext rfl rfl rfl rfl ?_
  refine lx_ext rfl rfl rfl rfl ?_
  refine lx_allocr 6 hGF zv28 rfl rfl ?_
  intro b6
  refine lx_storea 6 hGF rfl rfl rfl Tryz.sizeOf28 (by simp) (by simp) (one_u64 _) rfl ?_
  refine lx_assign rfl rfl rfl ?_
  refine lx_nil ?_
  refine x_seq ?_
  refine xs_plain (E := EE []) ?_
  refine lx_move rfl rfl rfl ?_
  refine lx_un rfl (fun _ => un_not _) rfl rfl ?_
  refine lx_nil ?_
  refine x_false rfl ?_
  refine x_skip ?_
  refine x_seq ?_
  refine xs_plain (E := EE []) ?_
  refine lx_move rfl rfl rfl ?_
  refine lx_nil ?_
  refine x_false rfl ?_
  refine x_skip ?_
  refine xs_plain (E := EE []) ?_
  refine lx_loada 2 rfl rfl Tryz.isAgg28 Tryz.sizeOf28 (by simp) rfl rfl ?_
  refine lx_loada 6 rfl rfl Tryz.isAgg28 Tryz.sizeOf28 (by simp) rfl rfl ?_
  refine lx_call rfl rfl ent59 (jfin _ _) rfl rfl ?_
  refine lx_storea 4 hGF rfl rfl rfl Tryz.sizeOf30 (by simp) (by simp) (one_u64 _) rfl ?_
  refine lx_assign rfl rfl rfl ?_
  refine lx_nil ?_
  refine x_ret ?_
  repeat (first | refine kseq_ret ?_ | refine kblk_ret ?_)
  exact kret_ct 4 rfl rfl rfl rfl Tryz.isAgg30 Tryz.sizeOf30 (by simp) (fun w hw => ⟨rfl, hp_below hw⟩)
theorem jlift_nf (a s : Zp) (hs : Pure Tryz.prog Gt 86 [EV (RS4 a)] (.tuple #[EV s, .bool false])) : Pure Tryz.prog Gt 30 [EV a, .bool false] (.tuple #[JV (0, 0, 0), .bool false]) := by
  intro w hw
  have hGF : BOk Gt (pl w) := gt_low.plain hw
  refine calls_of_X (G := Gt) Tryz.func30 rfl rfl (Hp (pl w) []) (hp_refl (pl w) trivial rides_true) (good_hp hGF) ?_
  refine xs_plain (E := EE []) ?_
  refine lx_boxr 2 hGF rfl rfl rfl ?_
  intro b2
  refine lx_allocr 4 hGF zj30 rfl rfl ?_
  intro b4
  refine lx_assign rfl rfl rfl ?_
  refine lx_nil ?_
  refine xs_plain (E := EE []) ?_
  refine lx_loada 2 rfl rfl Tryz.isAgg28 Tryz.sizeOf28 (by simp) rfl rfl ?_
  refine lx_call rfl rfl ent85 (jright _) rfl rfl ?_
  refine lx_call rfl rfl ent86 (hs) rfl rfl ?_
  refine lx_move rfl rfl rfl ?_
  refine lx_ext rfl rfl rfl rfl ?_
  refine lx_ext rfl rfl rfl rfl ?_
  refine lx_allocr 6 hGF zv28 rfl rfl ?_
  intro b6
  refine lx_storea 6 hGF rfl rfl rfl Tryz.sizeOf28 (by simp) (by simp) (one_u64 _) rfl ?_
  refine lx_assign rfl rfl rfl ?_
  refine lx_nil ?_
  refine x_seq ?_
  refine xs_plain (E := EE []) ?_
  refine lx_move rfl rfl rfl ?_
  refine lx_un rfl (fun _ => un_not _) rfl rfl ?_
  refine lx_nil ?_
  refine x_true rfl ?_
  refine xs_plain (E := EE []) ?_
  refine lx_threeN three30 rfl rfl ?_
  refine lx_storea 4 hGF rfl rfl rfl Tryz.sizeOf30 (by simp) (by simp) (one_u64 _) rfl ?_
  refine lx_assign rfl rfl rfl ?_
  refine lx_nil ?_
  refine x_ret ?_
  repeat (first | refine kseq_ret ?_ | refine kblk_ret ?_)
  exact kret_ct 4 rfl rfl rfl rfl Tryz.isAgg30 Tryz.sizeOf30 (by simp) (fun w hw => ⟨rfl, hp_below hw⟩)
def GXB : List (BitVec 8) := [23#8, 241#8, 211#8, 167#8, 49#8, 151#8, 215#8, 148#8, 38#8, 149#8, 99#8, 140#8, 79#8, 169#8, 172#8, 15#8, 195#8, 104#8, 140#8, 79#8, 151#8, 116#8, 185#8, 5#8, 161#8, 78#8, 58#8, 63#8, 23#8, 27#8, 172#8, 88#8, 108#8, 85#8, 232#8, 63#8, 249#8, 122#8, 26#8, 239#8, 251#8, 58#8, 240#8, 10#8, 219#8, 34#8, 198#8, 187#8]
def GYB : List (BitVec 8) := [8#8, 179#8, 244#8, 129#8, 227#8, 170#8, 160#8, 241#8, 160#8, 158#8, 48#8, 237#8, 116#8, 29#8, 138#8, 228#8, 252#8, 245#8, 224#8, 149#8, 213#8, 208#8, 10#8, 246#8, 0#8, 219#8, 24#8, 203#8, 44#8, 4#8, 179#8, 237#8, 208#8, 60#8, 199#8, 68#8, 162#8, 136#8, 138#8, 228#8, 12#8, 170#8, 35#8, 41#8, 70#8, 197#8, 231#8, 225#8]
theorem FV_gx : FV GXB = zp G1x := by rw [FV, if_pos ⟨rfl, by decide +kernel⟩, show BN GXB 48 = G1x by decide +kernel]
theorem FV_gy : FV GYB = zp G1y := by rw [FV, if_pos ⟨rfl, by decide +kernel⟩, show BN GYB 48 = G1y by decide +kernel]
theorem gx_calls (e : Option Addr) (cap : Nat) (w : World) (hw : Gt w) (hby : BytesAt w e GXB) : Calls Tryz.prog 36 [.slice e GXB.length cap].toArray w (fun r w' => r = .returned (.tuple #[EV (zp G1x), .bool (FO GXB)]) ∧ Grow w w') := by
  have h := ffrom_calls e cap GXB w hw hby
  rw [FV_gx] at h
  exact h
theorem gy_calls (e : Option Addr) (cap : Nat) (w : World) (hw : Gt w) (hby : BytesAt w e GYB) : Calls Tryz.prog 36 [.slice e GYB.length cap].toArray w (fun r w' => r = .returned (.tuple #[EV (zp G1y), .bool (FO GYB)]) ∧ Grow w w') := by
  have h := ffrom_calls e cap GYB w hw hby
  rw [FV_gy] at h
  exact h
theorem jgen : Pure Tryz.prog Gt 19 [] (JV (zp G1x, zp G1y, 1)) := by
  intro w hw
  have hGF : BOk Gt (pl w) := gt_low.plain hw
  refine calls_of_X (G := Gt) Tryz.func19 rfl rfl (Hp (pl w) []) (hp_refl (pl w) trivial rides_true) (good_hp hGF) ?_
  refine xs_plain (E := EE [1000022]) ?_
  refine lx_allocr 0 hGF zj30 rfl rfl ?_
  intro b0
  refine lx_nil ?_
  refine xs_plain (E := EE [1000022]) ?_
  refine lx_bsl 6 GXB hGF rfl rfl rfl (by decide) (by decide) Tryz.underlying22 Tryz.sizeOf5 Tryz.zeroValue5 rfl rfl ?_
  intro b6
  refine lx_cvs 6 rfl hGF rfl rfl Tryz.underlying22 Tryz.underlying5 rfl rfl ?_
  refine lx_callC rfl rfl ent36 (fun w' hC hG => gx_calls _ _ w' hG (BytesAt.range (hC.own 6 b6 _ _ rfl).1.range)) rfl rfl ?_
  refine lx_move rfl rfl rfl ?_
  refine lx_ext rfl rfl rfl rfl ?_
  refine lx_ext rfl rfl rfl rfl ?_
  refine lx_allocr 1 hGF zv28 rfl rfl ?_
  intro b1
  refine lx_storea 1 hGF rfl rfl rfl Tryz.sizeOf28 (by simp) (by simp) (one_u64 _) rfl ?_
  refine lx_assign rfl rfl rfl ?_
  refine lx_nil ?_
  refine xs_plain (E := EE [1000022]) ?_
  refine lx_bsl 12 GYB hGF rfl rfl rfl (by decide) (by decide) Tryz.underlying22 Tryz.sizeOf5 Tryz.zeroValue5 rfl rfl ?_
  intro b12
  refine lx_cvs 12 rfl hGF rfl rfl Tryz.underlying22 Tryz.underlying5 rfl rfl ?_
  refine lx_callC rfl rfl ent36 (fun w' hC hG => gy_calls _ _ w' hG (BytesAt.range (hC.own 12 b12 _ _ rfl).1.range)) rfl rfl ?_
  refine lx_move rfl rfl rfl ?_
  refine lx_ext rfl rfl rfl rfl ?_
  refine lx_ext rfl rfl rfl rfl ?_
  refine lx_allocr 3 hGF zv28 rfl rfl ?_
  intro b3
  refine lx_storea 3 hGF rfl rfl rfl Tryz.sizeOf28 (by simp) (by simp) (one_u64 _) rfl ?_
  refine lx_assign rfl rfl rfl ?_
  refine lx_nil ?_
  refine xs_plain (E := EE [1000022]) ?_
  refine lx_loada 1 rfl rfl Tryz.isAgg28 Tryz.sizeOf28 (by simp) rfl rfl ?_
  refine lx_loada 3 rfl rfl Tryz.isAgg28 Tryz.sizeOf28 (by simp) rfl rfl ?_
  refine lx_call rfl rfl ent59 (jfin _ _) rfl rfl ?_
  refine lx_storea 0 hGF rfl rfl rfl Tryz.sizeOf30 (by simp) (by simp) (one_u64 _) rfl ?_
  refine lx_nil ?_
  refine x_ret ?_
  repeat (first | refine kseq_ret ?_ | refine kblk_ret ?_)
  exact kret_own 0 rfl rfl rfl Tryz.isAgg30 Tryz.sizeOf30 (by simp) (fun w hw => ⟨rfl, hp_below hw⟩)
end J1
end Go.Proofs.YtamddkjccmhgaaaGreatDoor

namespace Go.Proofs.YtamddkjccmhgaaaGreatDoor
open Go.RowKit
set_option maxRecDepth 100000
set_option maxHeartbeats 1000000
theorem ent113 : Enters Tryz.prog 113 := fun _ _ => by kernel_rfl
namespace J1
attribute [local simp] fe_len nm_len AS_len SS_len MONT_len RM_len FRs_len BYs_len by48_len PLl TWOl ONEl N1l IVPl HFPl RTPl FL_len SP_len fe2_len SP2_len FM_len
attribute [local simp] GL_len

/-- Is the bit set? the highest is the first. -/
def pb (bs : List (BitVec 8)) (m : Nat) : Bool := decide (pbit bs m = 1#8)
abbrev oB (bs : List (BitVec 8)) (m : Nat) : List Nat := oL (pb bs) (8 * bs.length) m
/-- The places as values. -/
def NLs (l : List Nat) : List (List Value) := l.map fun n : Nat => [I (n : Int)]
theorem NLs_len (l : List Nat) : (NLs l).length = l.length := by simp [NLs]
theorem pb_at (bs : List (BitVec 8)) (i j : Nat) (hj : j < 8) : bs.getD i 0 >>> (7 - j) &&& 1#8 = pbit bs (8 * i + j) := by
  rw [pbit, show (8 * i + j) / 8 = i by omega, show (8 * i + j) % 8 = j by omega]
theorem pb_y {bs : List (BitVec 8)} {m : Nat} (h : pbit bs m = 1#8) : pb bs m = true := decide_eq_true h
theorem pb_n {bs : List (BitVec 8)} {m : Nat} (h : ¬ pbit bs m = 1#8) : ¬ pb bs m = true := fun e => h (of_decide_eq_true e)
theorem oB_at {bs : List (BitVec 8)} {m : Nat} (hm : m < 8 * bs.length) (h : pbit bs m = 1#8) : (NLs (oB bs (8 * bs.length)))[(oB bs m).length]? = some [I ((8 * bs.length - 1 - m : Nat) : Int)] := by
  rw [NLs, List.getElem?_map, oL_at hm (pb_y h)]
  rfl
theorem oB_y {bs : List (BitVec 8)} {m : Nat} (h : pbit bs m = 1#8) : (oB bs (m + 1)).length = (oB bs m).length + 1 := oL_ly (pb_y h)
theorem oB_n {bs : List (BitVec 8)} {m : Nat} (h : ¬ pbit bs m = 1#8) : (oB bs (m + 1)).length = (oB bs m).length := oL_ln (pb_n h)
theorem vN_B (bs : List (BitVec 8)) : ∀ m, vN (pb bs) m = BTn bs m
  | 0 => rfl
  | m + 1 => by
    rw [vN, vN_B bs m, BTn]
    rcases bit_one bs m with ⟨h, e⟩ | ⟨h, e⟩
    · rw [if_pos (pb_y h), e]
    · rw [if_neg (pb_n h), e]
theorem oB_sum (bs : List (BitVec 8)) : SOg (oB bs (8 * bs.length)) = BN bs bs.length := by rw [oL_all, vN_B, BTn_eight]
theorem RdD_grow {bb : Nat} {e : Option Addr} {cap : Nat} {bs : List (BitVec 8)} {w w' : World} (h : RdD bb e cap bs w) (hg : Grow w w') : RdD bb e cap bs w' := ⟨(hg.cell (block_lt_of_cell h.1)).trans h.1, h.2.grow hg⟩
theorem g1bits_calls (sv : Value) (hs : sv.cells = #[sv]) (w : World) (hw : Gt w) : Calls Tryz.prog 61 [sv].toArray w (fun e w' => ∃ b1, e = .returned (.func (.func 113) #[] #[.pointer (some ⟨b1, 0, none⟩)]) ∧ Grow w w' ∧ w.heap.size ≤ b1 ∧ OwnB w' b1 [sv] 22) := by
  have hGF : BOk Gt (pl w) := gt_low.plain hw
  refine calls_of_X (G := Gt) Tryz.func61 rfl rfl (Hp (pl w) []) (hp_refl (pl w) trivial rides_true) (good_hp hGF) ?_
  refine xs_plain (E := EE []) ?_
  refine lx_box 1 hGF rfl rfl rfl ?_
  intro b1
  refine lx_assign rfl rfl rfl ?_
  refine lx_nil ?_
  refine xs_plain (E := EE []) ?_
  refine lx_func rfl rfl rfl rfl ?_
  refine lx_assign rfl rfl rfl ?_
  refine lx_nil ?_
  refine x_ret ?_
  repeat (first | refine kseq_ret ?_ | refine kblk_ret ?_)
  exact kret_tmp rfl rfl (fun w hw => ⟨b1, rfl, hp_below hw, (hw.own 1 b1 _ _ rfl).2.elim id False.elim, (by have := (hw.own 1 b1 _ _ rfl).1; rw [hs] at this; exact this)⟩)
theorem g1bits_seq (bb : Nat) (e : Option Addr) (cap : Nat) (bs : List (BitVec 8)) (hlen : bs.length ≤ 1000000) : SeqOk Tryz.prog Gt 113 [.pointer (some ⟨bb, 0, none⟩)] (NLs (oB bs (8 * bs.length))) (RdD bb e cap bs) := by
  intro l J Jx hJ hJx hRd hGx hY w hj
  have okJ : ∀ k, BOk Gt (Bi w (fun Y => J Y k)) := fun k => ⟨fun _ _ _ h => (hRd _ _ _ h.rid).1, hJ k⟩
  have okX : ∀ k, BOk Gt (Bi w (fun Y => Jx Y k)) := fun k => ⟨fun _ _ _ h => hGx _ _ _ h.rid, hJx k⟩
  have c1 : ∀ k L w', Hp (Bi w (fun Y => J Y k)) L w' → RdD bb e cap bs w' := fun k L w' h => (hRd _ _ _ h.rid).2
  have hby := (hRd _ _ _ hj).2.2
  refine calls_of_X (G := Gt) Tryz.func113 rfl rfl (Hp (Bi w (fun Y => J Y 0)) []) (hp_refl (Bi w _) hj (hJ 0)) (good_hp (okJ 0)) ?_
  refine xs_plain (E := EE []) ?_
  refine lx_load rfl Tryz.isAgg22 (fun w h => (c1 _ _ w h).1) rfl rfl ?_
  refine lx_len rfl (fun _ => len_slice Tryz.underlying22 _ _ _ _) rfl rfl ?_
  refine lx_move rfl rfl rfl ?_
  refine lx_nil ?_
  refine x_block ?_
  refine x_forB (ι := { i : Nat // i ≤ bs.length }) (fun x => [(0, .func (.yield l) #[] #[]), (1, .pointer (some ⟨bb, 0, none⟩)), (6, .slice e bs.length cap), (7, I (bs.length : Int)), (8, I (x.1 : Int))]) (fun x => Bi w (fun Y => J Y (oB bs (8 * x.1)).length)) (fun x => []) (fun x => bs.length - x.1) ⟨0, Nat.zero_le _⟩ (fun _ => okJ _) rfl ⟨rfl, rfl, rfl, rfl, rfl, trivial⟩ trivial ?_
  rintro ⟨i, hi⟩
  dsimp only
  refine xs_plain (E := EE []) ?_
  refine lx_bin rfl rfl (fun _ => rfl) (fun _ => bin_lss_i _ _ _) rfl rfl ?_
  refine lx_nil ?_
  refine x_seq ?_
  refine x_if rfl (fun hc => ?_) (fun hc => ?_)
  · have hi2 : i < bs.length := by simp at hc; omega
    refine x_skip ?_
    refine x_seq ?_
    refine x_block ?_
    refine xs_plain (E := EE []) ?_
    refine lx_move rfl rfl rfl ?_
    obtain ⟨ad, rfl, _⟩ := hby i _ (gm U8 bs 0 i (by omega))
    refine lx_isA i rfl rfl Tryz.underlying22 Tryz.sizeOf5 rfl (by omega) rfl rfl ?_
    refine lx_load rfl Tryz.isAgg5 (fun w' h => by obtain ⟨ad', e', hc'⟩ := (c1 _ _ w' h).2 i _ (gm U8 bs 0 i (by omega)); cases e'; exact hc') rfl rfl ?_
    refine lx_assign rfl rfl rfl ?_
    refine lx_assign rfl rfl rfl ?_
    refine lx_nil ?_
    refine xs_plain (E := EE []) ?_
    refine lx_assign rfl rfl rfl ?_
    refine lx_nil ?_
    refine x_block ?_
    refine x_forB (ι := { j : Nat // j ≤ 8 }) (fun x => [(0, .func (.yield l) #[] #[]), (1, .pointer (some ⟨bb, 0, none⟩)), (6, .slice (some ad) bs.length cap), (7, I (bs.length : Int)), (8, I (i : Int)), (3, I (i : Int)), (4, U8 (bs.getD i 0)), (5, I (7 - (x.1 : Int)))]) (fun x => Bi w (fun Y => J Y (oB bs (8 * i + x.1)).length)) (fun x => []) (fun x => 8 - x.1) ⟨0, Nat.zero_le _⟩ (fun _ => okJ _) rfl ⟨rfl, rfl, rfl, rfl, rfl, rfl, rfl, rfl, trivial⟩ trivial ?_
    rintro ⟨j, hj⟩
    dsimp only
    by_cases h1 : pbit bs (8 * i + j) = 1#8
    · skip
      refine x_seq ?_
      refine xs_plain (E := EE []) ?_
      refine lx_move rfl rfl rfl ?_
      refine lx_bin (v := .bool (decide (j < 8))) rfl rfl (fun _ => rfl) (fun _ => (bin_geq_i _ _ _).trans (by rw [show decide ((7 - (j : Int)) ≥ 0) = decide (j < 8) from decide_eq_decide.2 (by omega)])) rfl rfl ?_
      refine lx_nil ?_
      refine x_if rfl (fun hc => ?_) (fun hc => ?_)
      · have hj2 : j < 8 := by simpa using hc
        refine x_skip ?_
        refine x_seq ?_
        refine x_block ?_
        refine xs_plain (E := EE []) ?_
        refine lx_move rfl rfl rfl ?_
        refine lx_move rfl rfl rfl ?_
        refine lx_bin (v := U8 (bs.getD i 0 >>> (7 - j))) rfl rfl (fun _ => rfl) (fun _ => (bin_shr_i_u8 _ _ _ (by omega)).trans (by rw [show (7 - (j : Int)).toNat = 7 - j by omega])) rfl rfl ?_
        refine lx_bin (v := U8 (pbit bs (8 * i + j))) rfl rfl (fun _ => rfl) (fun _ => (bin_and_u8 _ _ 1#8).trans (by rw [pb_at bs i j hj2])) rfl rfl ?_
        refine lx_bin (v := .bool true) rfl rfl (fun _ => rfl) (fun w => (bin_eql_u8 _ _ _).trans (congrArg (fun b => Result.ok (Value.bool b) w) (beq_iff_eq.2 h1))) rfl rfl ?_
        refine lx_move rfl rfl rfl ?_
        refine lx_move rfl rfl rfl ?_
        refine lx_load rfl Tryz.isAgg22 (fun w h => (c1 _ _ w h).1) rfl rfl ?_
        refine lx_len rfl (fun _ => len_slice Tryz.underlying22 _ _ _ _) rfl rfl ?_
        refine lx_bin (v := I ((bs.length : Int) - 1)) rfl rfl (fun _ => rfl) (fun _ => bin_sub_i _ _ _ (by unfold inI; omega)) rfl rfl ?_
        refine lx_move rfl rfl rfl ?_
        refine lx_bin (v := I ((bs.length - 1 - i : Nat) : Int)) rfl rfl (fun _ => rfl) (fun _ => (bin_sub_i _ _ _ (by unfold inI; omega)).trans (by rw [show (bs.length : Int) - 1 - (i : Int) = ((bs.length - 1 - i : Nat) : Int) by omega])) rfl rfl ?_
        refine lx_bin (v := I ((8 * (bs.length - 1 - i) : Nat) : Int)) rfl rfl (fun _ => rfl) (fun _ => (bin_mul_i _ _ _ (by unfold inI; omega)).trans (by rw [show (8 : Int) * ((bs.length - 1 - i : Nat) : Int) = ((8 * (bs.length - 1 - i) : Nat) : Int) by omega])) rfl rfl ?_
        refine lx_move rfl rfl rfl ?_
        refine lx_bin (v := I ((8 * bs.length - 1 - (8 * i + j) : Nat) : Int)) rfl rfl (fun _ => rfl) (fun _ => (bin_add_i _ _ _ (by unfold inI; omega)).trans (by rw [show ((8 * (bs.length - 1 - i) : Nat) : Int) + (7 - (j : Int)) = ((8 * bs.length - 1 - (8 * i + j) : Nat) : Int) by omega])) rfl rfl ?_
        refine lx_yield (hY.b (k := (oB bs (8 * i + j)).length) (oB_at (by omega) h1) w) (okJ _) (okX _) rfl rfl rfl rfl rfl ?_ ?_
        · skip
          refine lx_un rfl (fun _ => un_not _) rfl rfl ?_
          refine lx_pick rfl rfl rfl rfl rfl ?_
          refine lx_nil ?_
          refine x_false rfl ?_
          refine x_skip ?_
          refine x_plain (E := EE []) ?_
          refine lx_move rfl rfl rfl ?_
          refine lx_bin (v := I (7 - ((j + 1 : Nat) : Int))) rfl rfl (fun _ => rfl) (fun _ => (bin_sub_i _ _ _ (by unfold inI; omega)).trans (by rw [show 7 - (j : Int) - 1 = 7 - ((j + 1 : Nat) : Int) by omega])) rfl rfl ?_
          refine lx_assign rfl rfl rfl ?_
          refine lx_nil ?_
          repeat (refine kblk_n ?_)
          refine kseq_n ?_
          rw [← oB_y h1]
          exact ⟨rfl, ⟨j + 1, by omega⟩, _, by show 8 - (j + 1) < 8 - j; omega, rfl, ⟨rfl, rfl, rfl, rfl, rfl, rfl, rfl, rfl, trivial⟩, trivial⟩
        · skip
          refine lx_un rfl (fun _ => un_not _) rfl rfl ?_
          refine lx_pick rfl rfl rfl rfl rfl ?_
          refine lx_nil ?_
          refine x_true rfl ?_
          refine x_ret ?_
          repeat (first | refine kseq_ret ?_ | refine kblk_ret ?_)
          repeat (first | refine kseq_x ?_ | refine kblk_x ?_ | refine kblk_p rfl ?_ | refine kseq_ret ?_ | refine kblk_ret ?_)
          exact kret_none rfl (fun w hw => ⟨⟨_, rfl⟩, .inr ⟨_, drop_yof (hJx _) hw.rid⟩⟩)
      · obtain rfl : j = 8 := by simp at hc; omega
        refine x_exit ?_
        refine x_plain (E := EE []) ?_
        refine lx_bin rfl rfl (fun _ => rfl) (fun _ => bin_add_i _ _ _ (by unfold inI; omega)) rfl rfl ?_
        refine lx_move rfl rfl rfl ?_
        refine lx_nil ?_
        repeat (refine kblk_n ?_)
        refine kseq_n ?_
        exact ⟨rfl, ⟨i + 1, by omega⟩, _, by show bs.length - (i + 1) < bs.length - i; omega, rfl, ⟨rfl, rfl, rfl, rfl, rfl, trivial⟩, trivial⟩
    · skip
      refine x_seq ?_
      refine xs_plain (E := EE [3000000]) ?_
      refine lx_move rfl rfl rfl ?_
      refine lx_bin (v := .bool (decide (j < 8))) rfl rfl (fun _ => rfl) (fun _ => (bin_geq_i _ _ _).trans (by rw [show decide ((7 - (j : Int)) ≥ 0) = decide (j < 8) from decide_eq_decide.2 (by omega)])) rfl rfl ?_
      refine lx_nil ?_
      refine x_if rfl (fun hc => ?_) (fun hc => ?_)
      · have hj2 : j < 8 := by simpa using hc
        refine x_skip ?_
        refine x_seq ?_
        refine x_block ?_
        refine xs_plain (E := EE [3000000]) ?_
        refine lx_move rfl rfl rfl ?_
        refine lx_move rfl rfl rfl ?_
        refine lx_bin (v := U8 (bs.getD i 0 >>> (7 - j))) rfl rfl (fun _ => rfl) (fun _ => (bin_shr_i_u8 _ _ _ (by omega)).trans (by rw [show (7 - (j : Int)).toNat = 7 - j by omega])) rfl rfl ?_
        refine lx_bin (v := U8 (pbit bs (8 * i + j))) rfl rfl (fun _ => rfl) (fun _ => (bin_and_u8 _ _ 1#8).trans (by rw [pb_at bs i j hj2])) rfl rfl ?_
        refine lx_bin (v := .bool false) rfl rfl (fun _ => rfl) (fun w => (bin_eql_u8 _ _ _).trans (congrArg (fun b => Result.ok (Value.bool b) w) (beq_eq_false_iff_ne.2 h1))) rfl rfl ?_
        refine lx_move rfl rfl rfl ?_
        refine lx_skip rfl rfl rfl ?_
        refine lx_skip rfl rfl rfl ?_
        refine lx_skip rfl rfl rfl ?_
        refine lx_skip rfl rfl rfl ?_
        refine lx_skip rfl rfl rfl ?_
        refine lx_skip rfl rfl rfl ?_
        refine lx_skip rfl rfl rfl ?_
        refine lx_skip rfl rfl rfl ?_
        refine lx_skip rfl rfl rfl ?_
        refine lx_skip rfl rfl rfl ?_
        refine lx_skip rfl rfl rfl ?_
        refine lx_pick rfl rfl rfl rfl rfl ?_
        refine lx_nil ?_
        refine x_false rfl ?_
        refine x_skip ?_
        refine x_plain (E := EE [3000000]) ?_
        refine lx_move rfl rfl rfl ?_
        refine lx_bin (v := I (7 - ((j + 1 : Nat) : Int))) rfl rfl (fun _ => rfl) (fun _ => (bin_sub_i _ _ _ (by unfold inI; omega)).trans (by rw [show 7 - (j : Int) - 1 = 7 - ((j + 1 : Nat) : Int) by omega])) rfl rfl ?_
        refine lx_assign rfl rfl rfl ?_
        refine lx_nil ?_
        repeat (refine kblk_n ?_)
        refine kseq_n ?_
        rw [← oB_n h1]
        exact ⟨rfl, ⟨j + 1, by omega⟩, _, by show 8 - (j + 1) < 8 - j; omega, rfl, ⟨rfl, rfl, rfl, rfl, rfl, rfl, rfl, rfl, trivial⟩, trivial⟩
      · obtain rfl : j = 8 := by simp at hc; omega
        refine x_exit ?_
        refine x_plain (E := EE [3000000]) ?_
        refine lx_bin rfl rfl (fun _ => rfl) (fun _ => bin_add_i _ _ _ (by unfold inI; omega)) rfl rfl ?_
        refine lx_move rfl rfl rfl ?_
        refine lx_nil ?_
        repeat (refine kblk_n ?_)
        refine kseq_n ?_
        exact ⟨rfl, ⟨i + 1, by omega⟩, _, by show bs.length - (i + 1) < bs.length - i; omega, rfl, ⟨rfl, rfl, rfl, rfl, rfl, trivial⟩, trivial⟩
  · obtain rfl : i = bs.length := by simp at hc; omega
    refine x_exit ?_
    repeat (first | refine kseq_x ?_ | refine kblk_x ?_ | refine kblk_p rfl ?_ | refine kseq_ret ?_ | refine kblk_ret ?_)
    refine kend_none rfl (fun w hw => ⟨⟨_, rfl⟩, .inl ?_⟩)
    have := drop_yof (hJ _) hw.rid
    rw [NLs_len]
    exact this
def dbN (x : Zp × Zp × Zp) : Nat → Zp × Zp × Zp
  | 0 => x
  | n + 1 => dbF (dbN x n)
theorem dbN_jr {x : Zp × Zp × Zp} {P : Pt Zp} (hP : E1.onP P) {q : Nat} (hx : E1.jr x (E1.times P q)) : ∀ n, E1.jr (dbN x n) (E1.times P (q * 2 ^ n))
  | 0 => by rw [Nat.pow_zero, Nat.mul_one]; exact hx
  | n + 1 => by
    have hd := dbF_jr (E1.times_on hP _) (dbN_jr hP hx n)
    rw [E1.dbl_times hP, Nat.mul_left_comm, ← Nat.pow_succ'] at hd
    exact hd
theorem jdoubled (x : Zp × Zp × Zp) (n : Int) (hn : n ≤ 1000000000) : Pure Tryz.prog Gt 111 [JV x, I n] (JV (dbN x n.toNat)) := by
  intro w hw
  have hGF : BOk Gt (pl w) := gt_low.plain hw
  refine calls_of_X (G := Gt) Tryz.func111 rfl rfl (Hp (pl w) []) (hp_refl (pl w) trivial rides_true) (good_hp hGF) ?_
  refine xs_plain (E := EE []) ?_
  refine lx_boxr 2 hGF rfl rfl rfl ?_
  intro b2
  refine lx_allocr 4 hGF zj30 rfl rfl ?_
  intro b4
  refine lx_nil ?_
  refine x_seq ?_
  refine xs_plain (E := EE []) ?_
  refine lx_move rfl rfl rfl ?_
  refine lx_move rfl rfl rfl ?_
  refine lx_nil ?_
  refine x_block ?_
  refine x_for (ι := { i : Nat // i ≤ n.toNat }) (fun y => [(2, .pointer (some ⟨b2, 0, none⟩)), (4, .pointer (some ⟨b4, 0, none⟩)), (5, I n), (6, I (y.1 : Int))]) (fun y => [(2, b2, (fe ((dbN x y.1).1) ++ (fe ((dbN x y.1).2.1) ++ fe ((dbN x y.1).2.2))).map U64, 30), (4, b4, (fe 0 ++ (fe 0 ++ fe 0)).map U64, 30)]) (fun y => n.toNat - y.1) ⟨0, Nat.zero_le _⟩ hGF ⟨rfl, rfl, rfl, rfl, trivial⟩ ⟨rfl, rfl, trivial⟩ ?_
  rintro ⟨i, hi⟩
  dsimp only
  refine xs_plain (E := EE []) ?_
  refine lx_bin (v := .bool (decide ((i : Int) < n))) rfl rfl (fun _ => rfl) (fun _ => bin_lss_i _ _ _) rfl rfl ?_
  refine lx_nil ?_
  refine x_seq ?_
  refine x_if rfl (fun hc => ?_) (fun hc => ?_)
  · have hi2 : i < n.toNat := by simp at hc; omega
    refine x_skip ?_
    refine x_seq ?_
    refine x_block ?_
    refine x_plain (E := EE []) ?_
    refine lx_loada 2 rfl rfl Tryz.isAgg30 Tryz.sizeOf30 (by simp) rfl rfl ?_
    refine lx_call rfl rfl ent145 (jdbl (dbN x i)) rfl rfl ?_
    refine lx_storea 2 hGF rfl rfl rfl Tryz.sizeOf30 (by simp) (by simp) (one_u64 _) rfl ?_
    refine lx_nil ?_
    refine x_plain (E := EE []) ?_
    refine lx_bin rfl rfl (fun _ => rfl) (fun _ => bin_add_i _ _ _ (by unfold inI; omega)) rfl rfl ?_
    refine lx_move rfl rfl rfl ?_
    refine lx_nil ?_
    repeat (refine kblk_n ?_)
    refine kseq_n ?_
    exact ⟨rfl, ⟨i + 1, by omega⟩, _, by show n.toNat - (i + 1) < n.toNat - i; omega, rfl, ⟨rfl, rfl, rfl, rfl, trivial⟩, ⟨rfl, rfl, trivial⟩⟩
  · obtain rfl : i = n.toNat := by simp at hc; omega
    refine x_exit ?_
    refine xs_plain (E := EE []) ?_
    refine lx_loada 2 rfl rfl Tryz.isAgg30 Tryz.sizeOf30 (by simp) rfl rfl ?_
    refine lx_storea 4 hGF rfl rfl rfl Tryz.sizeOf30 (by simp) (by simp) (one_u64 _) rfl ?_
    refine lx_nil ?_
    refine x_ret ?_
    repeat (first | refine kseq_ret ?_ | refine kblk_ret ?_)
    exact kret_own 4 rfl rfl rfl Tryz.isAgg30 Tryz.sizeOf30 (by simp) (fun w hw => ⟨rfl, hp_below hw⟩)
theorem jdbN (x : Zp × Zp × Zp) (a : Nat) (ha : a < 100000000) : Pure Tryz.prog Gt 111 [JV x, I (a : Int)] (JV (dbN x a)) := by
  have h := jdoubled x (a : Int) (by omega)
  rw [Int.toNat_natCast] at h
  exact h
theorem jdbS (x : Zp × Zp × Zp) (a b : Nat) (ha : a < 100000000) : Pure Tryz.prog Gt 111 [JV x, I ((a : Int) - (b : Int))] (JV (dbN x (a - b))) := by
  have h := jdoubled x ((a : Int) - (b : Int)) (by omega)
  rw [Int.toNat_sub] at h
  exact h
/-- A bit more: its place, and what is summed up to it. -/
def stp (x : Zp × Zp × Zp) (A : (Zp × Zp × Zp) × Nat) (b : Nat) : (Zp × Zp × Zp) × Nat := (adF (dbN A.1 (A.2 - b)) x, b)
def stK (x : Zp × Zp × Zp) (L : List Nat) (k : Nat) : (Zp × Zp × Zp) × Nat := (L.take k).foldl (stp x) ((0, 0, 0), 0)
theorem stK_step (x : Zp × Zp × Zp) {L : List Nat} {k n : Nat} (h : L[k]? = some n) : stK x L (k + 1) = stp x (stK x L k) n := by
  rw [stK, List.take_add_one, h, List.foldl_append]
  rfl
theorem stK_1 (x : Zp × Zp × Zp) {L : List Nat} {k n : Nat} (h : L[k]? = some n) : (stK x L (k + 1)).1 = adF (dbN (stK x L k).1 ((stK x L k).2 - n)) x := by rw [stK_step x h]; rfl
theorem stK_2 (x : Zp × Zp × Zp) {L : List Nat} {k n : Nat} (h : L[k]? = some n) : (stK x L (k + 1)).2 = n := by rw [stK_step x h]; rfl
theorem stK_lt (x : Zp × Zp × Zp) {L : List Nat} {B : Nat} (h0 : 0 < B) (hL : ∀ b ∈ L, b < B) : ∀ k, k ≤ L.length → (stK x L k).2 < B
  | 0, _ => h0
  | k + 1, hk => by
    obtain ⟨n, hn⟩ : ∃ n, L[k]? = some n := ⟨L[k]'(by omega), List.getElem?_eq_getElem (by omega)⟩
    rw [stK_2 x hn]
    exact hL n (List.mem_of_getElem? hn)
/-- So many times as the places say. -/
def tmF (x : Zp × Zp × Zp) (L : List Nat) : Zp × Zp × Zp := dbN (stK x L L.length).1 (stK x L L.length).2
theorem stp_jr {x : Zp × Zp × Zp} {P : Pt Zp} (hP : E1.onP P) (hx : E1.jr x P) : ∀ (L : List Nat) (A : (Zp × Zp × Zp) × Nat) (q : Nat), L.Pairwise (fun a b => b ≤ a) → E1.jr A.1 (E1.times P q) → (q = 0 ∨ ∀ b ∈ L, b ≤ A.2) → ∃ q', E1.jr (L.foldl (stp x) A).1 (E1.times P q') ∧ q' * 2 ^ (L.foldl (stp x) A).2 = q * 2 ^ A.2 + SOg L
  | [], A, q, _, hA, _ => ⟨q, hA, rfl⟩
  | b :: L, A, q, hp, hA, hq => by
    rw [List.pairwise_cons] at hp
    have hd := dbN_jr hP hA (A.2 - b)
    have ha := adF_jr (E1.times_on hP _) hP hd hx
    obtain ⟨q', h1, h2⟩ := stp_jr hP hx L (stp x A b) (q * 2 ^ (A.2 - b) + 1) hp.2 ha (.inr hp.1)
    refine ⟨q', h1, h2.trans ?_⟩
    show (q * 2 ^ (A.2 - b) + 1) * 2 ^ b + SOg L = q * 2 ^ A.2 + (2 ^ b + SOg L)
    rcases hq with rfl | hq
    · rw [Nat.zero_mul, Nat.zero_mul]; omega
    · have hb := hq b List.mem_cons_self
      rw [Nat.add_mul, Nat.mul_assoc, ← Nat.pow_add, show A.2 - b + b = A.2 from by omega]
      omega
theorem tmF_jr {x : Zp × Zp × Zp} {P : Pt Zp} (hP : E1.onP P) (hx : E1.jr x P) {L : List Nat} (hL : L.Pairwise (fun a b => b ≤ a)) : E1.jr (tmF x L) (E1.times P (SOg L)) := by
  obtain ⟨q, h1, h2⟩ := stp_jr hP hx L ((0, 0, 0), 0) 0 hL rfl (.inl rfl)
  have e : stK x L L.length = L.foldl (stp x) ((0, 0, 0), 0) := by rw [stK, List.take_length]
  rw [Nat.zero_mul, Nat.zero_add] at h2
  have h := dbN_jr hP h1 (L.foldl (stp x) ((0, 0, 0), 0)).2
  rw [h2] at h
  rw [tmF, e]
  exact h
theorem NLs_get {L : List Nat} {k : Nat} {v : List Value} (h : (NLs L)[k]? = some v) : ∃ n : Nat, L[k]? = some n ∧ [I (n : Int)] = v := by
  rw [NLs, List.getElem?_map] at h
  cases e : L[k]? with
  | none => rw [e] at h; cases h
  | some y => rw [e] at h; exact ⟨y, rfl, Option.some.inj h⟩
theorem jtimes_calls (x : Zp × Zp × Zp) (gf : Nat) (caps : List Value) (L : List Nat) (Rd : Cls) (he : Enters Tryz.prog gf) (hseq : SeqOk Tryz.prog Gt gf caps (NLs L) Rd) (hL : ∀ b ∈ L, b < 100000000) (w : World) (hw : Gt w) (hRs : ∀ w', Grow w w' → Rd w') :
    Calls Tryz.prog 60 [JV x, .func (.func gf) #[] caps.toArray].toArray w (fun r w' => r = .returned (JV (tmF x L)) ∧ Grow w w') := by
  have hGF : BOk Gt (pl w) := gt_low.plain hw
  refine calls_of_XM (G := Gt) Tryz.func60 rfl rfl (Hp (pl w) []) (hp_refl (pl w) trivial rides_true) (good_hp hGF) ?_
  refine xs_plain (E := EE []) ?_
  refine lx_boxr 2 hGF rfl rfl rfl ?_
  intro b2
  refine lx_allocr 4 hGF zj30 rfl rfl ?_
  intro b4
  refine lx_nil ?_
  refine xs_plain (E := EE []) ?_
  refine lx_allocr 5 hGF zj30 rfl rfl ?_
  intro b5
  refine lx_nil ?_
  refine xs_plain (E := EE []) ?_
  refine lx_alloc 6 hGF Tryz.zeroValue3 rfl rfl ?_
  intro b6
  refine lx_store 6 hGF rfl rfl rfl Tryz.sizeOf3 rfl (by first | decide | simp) rfl ?_
  refine lx_nil ?_
  refine x_seq ?_
  refine xs_plain (E := EE []) ?_
  refine lx_move rfl rfl rfl ?_
  refine lx_nil ?_
  refine x_block ?_
  refine x_range (fun _ => pl w) (fun _ _ => pl w) (fun _ => hGF) (fun _ _ => hGF) (fun _ => rfl) (fun _ _ => rfl) rfl rfl he hseq (fun x hx => by obtain ⟨k, hk, rfl⟩ := List.mem_map.1 hx; rfl) rfl (fun k => [(2, b2, (fe ((x).1) ++ (fe ((x).2.1) ++ fe ((x).2.2))).map U64, 30), (4, b4, (fe 0 ++ (fe 0 ++ fe 0)).map U64, 30), (5, b5, (fe (((stK x L k).1).1) ++ (fe (((stK x L k).1).2.1) ++ fe (((stK x L k).1).2.2))).map U64, 30), (6, b6, [I ((stK x L k).2 : Int)], 3)]) (fun _ _ _ => False) ⟨rfl, rfl, rfl, rfl, trivial⟩ (fun k _ w' h => hRs w' (h.below (fun _ h => h))) ?_ ?_ (fun _ _ _ _ _ h => h.elim)
  · intro k v hx R hR
    obtain ⟨n, hn, rfl⟩ := NLs_get hx
    have hk : k < L.length := (List.getElem?_eq_some_iff.1 hn).1
    have hb := stK_lt x (by omega) hL k (Nat.le_of_lt hk)
    have hn2 := hL n (List.mem_of_getElem? hn)
    refine x_plain (E := EE []) ?_
    refine lx_assign rfl rfl rfl ?_
    refine lx_nil ?_
    refine ⟨rfl, _, rfl, ?_⟩
    refine x_block ?_
    refine xs_drawn (E := EE []) mixed (by kernel_rfl) (by kernel_rfl) (by kernel_rfl) ?_
    refine lx_loada 5 rfl rfl Tryz.isAgg30 Tryz.sizeOf30 (by simp) rfl rfl ?_
    refine lx_loadl 6 rfl rfl rfl Tryz.isAgg3 rfl rfl ?_
    refine lx_move rfl rfl rfl ?_
    refine lx_bin (v := I (((stK x L k).2 : Int) - (n : Int))) rfl rfl (fun _ => rfl) (fun _ => bin_sub_i _ _ _ (by unfold inI; omega)) rfl rfl ?_
    refine lx_call rfl rfl ent111 (jdbS (stK x L k).1 (stK x L k).2 n hb) rfl rfl ?_
    refine lx_loada 2 rfl rfl Tryz.isAgg30 Tryz.sizeOf30 (by simp) rfl rfl ?_
    refine lx_call rfl rfl ent112 (jadd _ _) rfl rfl ?_
    refine lx_storea 5 (hR (pl w) rfl hGF).2.1 rfl rfl rfl Tryz.sizeOf30 (by simp) (by simp) (one_u64 _) rfl ?_
    refine lx_nil ?_
    refine x_plain (E := EE []) ?_
    refine lx_move rfl rfl rfl ?_
    refine lx_store 6 (hR (pl w) rfl hGF).2.1 rfl rfl rfl Tryz.sizeOf3 rfl (by first | decide | simp) rfl ?_
    refine lx_nil ?_
    repeat (refine kblk_n ?_)
    exact ⟨_, rfl, ⟨rfl, rfl, by rw [stK_1 x hn]; rfl, by rw [stK_2 x hn]; rfl, trivial⟩⟩
  · intro D hD
    have hb := stK_lt x (by omega) hL L.length (Nat.le_refl _)
    rw [NLs_len]
    refine xs_plain (E := EE []) ?_
    refine lx_loada 5 rfl rfl Tryz.isAgg30 Tryz.sizeOf30 (by simp) rfl rfl ?_
    refine lx_loadl 6 rfl rfl rfl Tryz.isAgg3 rfl rfl ?_
    refine lx_call rfl rfl ent111 (jdbN (stK x L L.length).1 (stK x L L.length).2 hb) rfl rfl ?_
    refine lx_storea 4 hD rfl rfl rfl Tryz.sizeOf30 (by simp) (by simp) (one_u64 _) rfl ?_
    refine lx_nil ?_
    refine x_ret ?_
    repeat (first | refine kseq_ret ?_ | refine kblk_ret ?_)
    exact kretM_1 (.inl rfl) rides_true (kret_own 4 rfl rfl rfl Tryz.isAgg30 Tryz.sizeOf30 (by simp) (fun w hw => ⟨rfl, hp_below hw⟩))
def mlB (x : Zp × Zp × Zp) (bs : List (BitVec 8)) : Zp × Zp × Zp := tmF x (oB bs (8 * bs.length))
theorem mlB_jr {x : Zp × Zp × Zp} {P : Pt Zp} (hP : E1.onP P) (hx : E1.jr x P) {bs : List (BitVec 8)} {m : Nat} (hm : BN bs bs.length = m) : E1.jr (mlB x bs) (E1.times P m) := by
  subst hm
  rw [← oB_sum]; exact tmF_jr hP hx (oL_pw _ _ _ (Nat.le_refl _))
theorem jmul_calls (x : Zp × Zp × Zp) (e : Option Addr) (cap : Nat) (bs : List (BitVec 8)) (hlen : bs.length ≤ 1000000) (w : World) (hw : Gt w) (hby : BytesAt w e bs) :
    Calls Tryz.prog 20 [JV x, .slice e bs.length cap].toArray w (fun r w' => r = .returned (JV (mlB x bs)) ∧ Grow w w') := by
  have hGF : BOk Gt (pl w) := gt_low.plain hw
  refine calls_of_X (G := Gt) Tryz.func20 rfl rfl (Hp (pl w) []) (hp_refl (pl w) trivial rides_true) (good_hp hGF) ?_
  refine xs_plain (E := EE [61, 2000061]) ?_
  refine lx_boxr 2 hGF rfl rfl rfl ?_
  intro b2
  refine lx_allocr 4 hGF zj30 rfl rfl ?_
  intro b4
  refine lx_nil ?_
  refine xs_drawn (E := EE [61, 2000061]) mixed (by kernel_rfl) (by kernel_rfl) (by kernel_rfl) ?_
  refine lx_loada 2 rfl rfl Tryz.isAgg30 Tryz.sizeOf30 (by simp) rfl rfl ?_
  refine lx_move rfl rfl rfl ?_
  refine lx_callG rfl rfl ent61 rfl rfl (fun w' hw' => (g1bits_calls _ rfl w' (hGF.g _ _ _ hw')).mono fun e' w'' h => ?_)
  obtain ⟨c1, rfl, hg, h1, ho⟩ := h
  refine ⟨_, _, rfl, good_hp hGF, hw'.news rides_true hg [(33, c1, [.slice e bs.length cap], 22)] ?_ inj_one, hp_fresh rides_true rfl, ?_⟩
  · intro n' b' c' t' hl
    rcases lkB_cons hl with ⟨_, e⟩ | ⟨_, hl⟩
    · cases e; exact ⟨h1, ho⟩
    · cases hl
  clear hw' hg h1 ho
  refine lx_callC rfl rfl ent60 (fun w' hC hG => jtimes_calls x 113 [.pointer (some ⟨c1, 0, none⟩)] (oB bs (8 * bs.length)) (RdD c1 e cap bs) ent113 (g1bits_seq c1 e cap bs (by omega)) (fun b hb => by have := oL_lt hb (Nat.le_refl _); omega) w' hG (fun w'' hg => RdD_grow ⟨hp_cell (n := 33) rfl rfl w' hC, hby.grow (hC.below (fun _ h => h))⟩ hg)) rfl rfl ?_
  refine lx_storea 4 hGF rfl rfl rfl Tryz.sizeOf30 (by simp) (by simp) (one_u64 _) rfl ?_
  refine lx_nil ?_
  refine x_ret ?_
  repeat (first | refine kseq_ret ?_ | refine kblk_ret ?_)
  exact kret_own 4 rfl rfl rfl Tryz.isAgg30 Tryz.sizeOf30 (by simp) (fun w hw => ⟨rfl, hp_below hw⟩)
def TRB : List (BitVec 8) := [0#8, 0#8, 0#8, 0#8, 0#8, 0#8, 0#8, 0#8, 95#8, 25#8, 103#8, 47#8, 223#8, 118#8, 206#8, 81#8, 186#8, 105#8, 198#8, 7#8, 106#8, 15#8, 119#8, 234#8, 221#8, 179#8, 169#8, 59#8, 230#8, 248#8, 150#8, 136#8, 222#8, 23#8, 216#8, 19#8, 98#8, 10#8, 0#8, 2#8, 46#8, 1#8, 255#8, 255#8, 255#8, 254#8, 255#8, 254#8]
theorem FV_tr : FV TRB = zp TRN := by rw [FV, if_pos ⟨rfl, by decide +kernel⟩, show BN TRB 48 = TRN by decide +kernel]
theorem tr_calls {c : Zp} (hc : zp TRN = c) (e : Option Addr) (cap : Nat) (w : World) (hw : Gt w) (hby : BytesAt w e TRB) : Calls Tryz.prog 36 [.slice e TRB.length cap].toArray w (fun r w' => r = .returned (.tuple #[EV c, .bool (FO TRB)]) ∧ Grow w w') := by
  have h := ffrom_calls e cap TRB w hw hby
  rw [FV_tr, hc] at h
  exact h
def UB8 : List (BitVec 8) := [210#8, 1#8, 0#8, 0#8, 0#8, 1#8, 0#8, 0#8]
theorem UB8_n : BN UB8 UB8.length = UG := by decide +kernel
theorem jmulU {f : Zp × Zp × Zp → Zp × Zp × Zp} (hf : ∀ x, mlB x UB8 = f x) (x : Zp × Zp × Zp) (b c : Nat) (w : World) (hw : Gt w) (h : w.rangeAt b 0 (UB8.map U8)) : Calls Tryz.prog 20 [JV x, .slice (some ⟨b, 0, none⟩) UB8.length c].toArray w (fun r w' => r = .returned (JV (f x)) ∧ Grow w w') := by
  have k := jmul_calls x (some ⟨b, 0, none⟩) c UB8 (by decide) w hw (BytesAt.range h)
  rw [hf] at k
  exact k
/-- Turned. -/
def tuJ (c : Zp) (x : Zp × Zp × Zp) : Zp × Zp × Zp := (x.1 * c, x.2.1, x.2.2)
theorem tu_z (c x z : Zp) : x * (z * z) * c = c * x * (z * z) := by grind
theorem tu_jr {c : Zp} {x : Zp × Zp × Zp} {p : Zp × Zp} (hx : E1.jr x (some p)) : E1.jr (tuJ c x) (some (c * p.1, p.2)) := by
  refine ⟨hx.1, ?_, hx.2.2⟩
  have h1 : x.1 = p.1 * (x.2.2 * x.2.2) := hx.2.1
  show x.1 * c = c * p.1 * (x.2.2 * x.2.2)
  rw [h1]
  exact tu_z _ _ _
theorem tu_none {c : Zp} {x : Zp × Zp × Zp} (hx : E1.jr x none) : E1.jr (tuJ c x) none := show x.2.2 = E1.R.zero from hx
theorem TW1_some (p : Zp × Zp) : TW1.p (some p) = some (zp TRN * p.1, p.2) := congrArg some (TW1_m p)
theorem tuJ_jr {x : Zp × Zp × Zp} {P : Pt Zp} (hx : E1.jr x P) : E1.jr (tuJ (zp TRN) x) (TW1.p P) := by
  cases P with
  | none => exact tu_none hx
  | some p => rw [TW1_some]; exact tu_jr hx
abbrev ngJ (x : Zp × Zp × Zp) : Zp × Zp × Zp := (x.1, -x.2.1, x.2.2)
theorem ing_G {bs : List (BitVec 8)} {m : Nat} (hm : BN bs bs.length = m) {x : Zp × Zp × Zp} {P : Pt Zp} (hP : E1.onP P) (hx : E1.jr x P) : eqJ (ngJ (mlB (mlB x bs) bs)) (tuJ (zp TRN) x) ↔ E1.ne (E1.times (E1.times P m) m) = TW1.p P := eqJ_iff (E1.jr_n (mlB_jr (E1.times_on hP m) (mlB_jr hP hx hm) hm)) (tuJ_jr hx)
theorem ing_iff {x : Zp × Zp × Zp} {P : Pt Zp} (hP : E1.onP P) (hx : E1.jr x P) : eqJ (ngJ (mlB (mlB x UB8) UB8)) (tuJ (zp TRN) x) ↔ E1.times P ORD = none := (ing_G UB8_n hP hx).trans (g1_in hP)
theorem jing {f : Zp × Zp × Zp → Zp × Zp × Zp} (hf : ∀ x, mlB x UB8 = f x) {c : Zp} (hc : zp TRN = c) (x : Zp × Zp × Zp) (hd : Decidable (eqJ (ngJ (f (f x))) (tuJ c x))) (b : Bool) (hb : b = decide (eqJ (ngJ (f (f x))) (tuJ c x))) : Pure Tryz.prog Gt 31 [JV x] (.bool b) := by
  intro w hw
  have hGF : BOk Gt (pl w) := gt_low.plain hw
  refine calls_of_X (G := Gt) Tryz.func31 rfl rfl (Hp (pl w) []) (hp_refl (pl w) trivial rides_true) (good_hp hGF) ?_
  refine xs_plain (E := EE [1000022]) ?_
  refine lx_boxr 1 hGF rfl rfl rfl ?_
  intro b1
  refine lx_assign rfl rfl rfl ?_
  refine lx_nil ?_
  refine xs_plain (E := EE [1000022]) ?_
  refine lx_bsl 7 TRB hGF rfl rfl rfl (by decide) (by decide) Tryz.underlying22 Tryz.sizeOf5 Tryz.zeroValue5 rfl rfl ?_
  intro b7
  refine lx_cvs 7 rfl hGF rfl rfl Tryz.underlying22 Tryz.underlying5 rfl rfl ?_
  refine lx_callC rfl rfl ent36 (fun w' hC hG => tr_calls hc _ _ w' hG (BytesAt.range (hC.own 7 b7 _ _ rfl).1.range)) rfl rfl ?_
  refine lx_move rfl rfl rfl ?_
  refine lx_ext rfl rfl rfl rfl ?_
  refine lx_ext rfl rfl rfl rfl ?_
  refine lx_allocr 3 hGF zv28 rfl rfl ?_
  intro b3
  refine lx_storea 3 hGF rfl rfl rfl Tryz.sizeOf28 (by simp) (by simp) (one_u64 _) rfl ?_
  refine lx_assign rfl rfl rfl ?_
  refine lx_nil ?_
  refine xs_drawA (E := EE [1000022, 2999999]) [0, 1, 2, 3, 4, 5, 6, 7, 8] [⟨9, 5, 30, (fe 0 ++ (fe 0 ++ fe 0)).map U64⟩] [10] mixed rfl (by kernel_rfl) (by kernel_rfl) (by kernel_rfl) (by kernel_rfl) (by kernel_rfl) (by kernel_rfl) (by decide) (by intro x hx; simp only [List.mem_cons, List.not_mem_nil, or_false] at hx; subst hx; exact isAlloc_mk rfl zj30 rfl) ?_
  refine lx_fak 0 rfl Tryz.underlying30 rfl Tryz.sizeOf28 (by decide) rfl rfl rfl ?_
  refine lx_loado 1 _ rfl rfl Tryz.isAgg28 Tryz.sizeOf28 (by simp) ld_l rfl rfl ?_
  refine lx_loada 3 rfl rfl Tryz.isAgg28 Tryz.sizeOf28 (by simp) rfl rfl ?_
  refine lx_call rfl rfl ent68 (fmul_pure _ _) rfl rfl ?_
  refine lx_fak 6 rfl Tryz.underlying30 rfl Tryz.sizeOf28 (by decide) rfl rfl rfl ?_
  refine lx_loado 1 _ rfl rfl Tryz.isAgg28 Tryz.sizeOf28 (by simp) (ld_m (by simp)) rfl rfl ?_
  refine lx_fak 12 rfl Tryz.underlying30 rfl Tryz.sizeOf28 (by decide) rfl rfl rfl ?_
  refine lx_loado 1 _ rfl rfl Tryz.isAgg28 Tryz.sizeOf28 (by simp) (ld_rr (m := 6) (n := 6) (by simp) (by simp) rfl) rfl rfl ?_
  refine lx_three012 three30 rfl rfl rfl (by simp) (by simp) (by simp) rfl rfl ?_
  refine lx_nil ?_
  refine ⟨_, _, rfl, hGF, by intro x hx; simp only [List.mem_cons, List.not_mem_nil, or_false] at hx; subst hx; rfl, by intro x hx; simp only [List.mem_cons, List.not_mem_nil, or_false] at hx; subst hx; rfl, fun adr => ?_⟩
  refine lx_storea 5 hGF rfl rfl rfl Tryz.sizeOf30 (by simp) (by simp) (one_u64 _) rfl ?_
  refine lx_nil ?_
  refine xs_tree (EE [2999998, 2999996, 1000022]) mixed (by kernel_rfl) (by kernel_rfl) ?_
  refine tr_pre (m := 9) [0, 8] (by kernel_rfl) ?_
  refine lx_loada 1 rfl rfl Tryz.isAgg30 Tryz.sizeOf30 (by simp) rfl rfl ?_
  refine lx_loada 5 rfl rfl Tryz.isAgg30 Tryz.sizeOf30 (by simp) rfl rfl ?_
  refine lx_nil ?_
  refine tr_any (m := 8) [1, 4] (by kernel_rfl) (by kernel_rfl) (by decide) ?_
  intro i hi
  simp only [List.mem_cons, List.not_mem_nil, or_false] at hi
  rcases hi with rfl | rfl
  · skip
    refine lx_bslG 22 UB8 hGF rfl rfl rfl rfl (by decide) (by decide) Tryz.underlying22 Tryz.sizeOf5 Tryz.zeroValue5 rfl rfl ?_
    intro b22
    refine lx_nil ?_
    refine tr_any (m := 7) [2, 4] (by kernel_rfl) (by kernel_rfl) (by decide) ?_
    intro i hi
    simp only [List.mem_cons, List.not_mem_nil, or_false] at hi
    rcases hi with rfl | rfl
    · skip
      refine lx_cvsG 22 rfl hGF rfl rfl Tryz.underlying22 Tryz.underlying5 rfl rfl ?_
      refine lx_nil ?_
      refine tr_pre (m := 6) [3] (by kernel_rfl) ?_
      refine lx_callC rfl rfl ent20 (fun w' hC hG => jmulU hf _ _ _ w' hG (hp_row (n := 22) rfl w' hC)) rfl rfl ?_
      refine lx_nil ?_
      refine tr_pre (m := 5) [4] (by kernel_rfl) ?_
      refine lx_bslG 25 UB8 hGF rfl rfl rfl rfl (by decide) (by decide) Tryz.underlying22 Tryz.sizeOf5 Tryz.zeroValue5 rfl rfl ?_
      intro b25
      refine lx_nil ?_
      refine tr_pre (m := 4) [5] (by kernel_rfl) ?_
      refine lx_cvsG 25 rfl hGF rfl rfl Tryz.underlying22 Tryz.underlying5 rfl rfl ?_
      refine lx_nil ?_
      refine tr_pre (m := 0) [6, 7, 9, 10] (by kernel_rfl) ?_
      refine lx_callC rfl rfl ent20 (fun w' hC hG => jmulU hf _ _ _ w' hG (hp_row (n := 25) rfl w' hC)) rfl rfl ?_
      refine lx_call rfl rfl ent23 (jneg _) rfl rfl ?_
      refine lx_call rfl rfl ent25 (jequal _ _ hd b hb) rfl rfl ?_
      refine lx_assign rfl rfl rfl ?_
      refine lx_nil ?_
      refine tr_nil (by kernel_rfl) ?_
      refine kseq_n ?_
      refine x_ret ?_
      repeat (first | refine kseq_ret ?_ | refine kblk_ret ?_)
      exact kret_tmp rfl rfl (fun w hw => ⟨rfl, hp_below hw⟩)
    · skip
      refine lx_bslG 25 UB8 hGF rfl rfl rfl rfl (by decide) (by decide) Tryz.underlying22 Tryz.sizeOf5 Tryz.zeroValue5 rfl rfl ?_
      intro b25
      refine lx_nil ?_
      refine tr_any (m := 6) [2, 5] (by kernel_rfl) (by kernel_rfl) (by decide) ?_
      intro i hi
      simp only [List.mem_cons, List.not_mem_nil, or_false] at hi
      rcases hi with rfl | rfl
      · skip
        refine lx_cvsG 22 rfl hGF rfl rfl Tryz.underlying22 Tryz.underlying5 rfl rfl ?_
        refine lx_nil ?_
        refine tr_pre (m := 5) [3] (by kernel_rfl) ?_
        refine lx_callC rfl rfl ent20 (fun w' hC hG => jmulU hf _ _ _ w' hG (hp_row (n := 22) rfl w' hC)) rfl rfl ?_
        refine lx_nil ?_
        refine tr_pre (m := 4) [5] (by kernel_rfl) ?_
        refine lx_cvsG 25 rfl hGF rfl rfl Tryz.underlying22 Tryz.underlying5 rfl rfl ?_
        refine lx_nil ?_
        refine tr_pre (m := 0) [6, 7, 9, 10] (by kernel_rfl) ?_
        refine lx_callC rfl rfl ent20 (fun w' hC hG => jmulU hf _ _ _ w' hG (hp_row (n := 25) rfl w' hC)) rfl rfl ?_
        refine lx_call rfl rfl ent23 (jneg _) rfl rfl ?_
        refine lx_call rfl rfl ent25 (jequal _ _ hd b hb) rfl rfl ?_
        refine lx_assign rfl rfl rfl ?_
        refine lx_nil ?_
        refine tr_nil (by kernel_rfl) ?_
        refine kseq_n ?_
        refine x_ret ?_
        repeat (first | refine kseq_ret ?_ | refine kblk_ret ?_)
        exact kret_tmp rfl rfl (fun w hw => ⟨rfl, hp_below hw⟩)
      · skip
        refine lx_cvsG 25 rfl hGF rfl rfl Tryz.underlying22 Tryz.underlying5 rfl rfl ?_
        refine lx_nil ?_
        refine tr_pre (m := 5) [2] (by kernel_rfl) ?_
        refine lx_cvsG 22 rfl hGF rfl rfl Tryz.underlying22 Tryz.underlying5 rfl rfl ?_
        refine lx_nil ?_
        refine tr_pre (m := 0) [3, 6, 7, 9, 10] (by kernel_rfl) ?_
        refine lx_callC rfl rfl ent20 (fun w' hC hG => jmulU hf _ _ _ w' hG (hp_row (n := 22) rfl w' hC)) rfl rfl ?_
        refine lx_callC rfl rfl ent20 (fun w' hC hG => jmulU hf _ _ _ w' hG (hp_row (n := 25) rfl w' hC)) rfl rfl ?_
        refine lx_call rfl rfl ent23 (jneg _) rfl rfl ?_
        refine lx_call rfl rfl ent25 (jequal _ _ hd b hb) rfl rfl ?_
        refine lx_assign rfl rfl rfl ?_
        refine lx_nil ?_
        refine tr_nil (by kernel_rfl) ?_
        refine kseq_n ?_
        refine x_ret ?_
        repeat (first | refine kseq_ret ?_ | refine kblk_ret ?_)
        exact kret_tmp rfl rfl (fun w hw => ⟨rfl, hp_below hw⟩)
  · skip
    refine lx_bslG 25 UB8 hGF rfl rfl rfl rfl (by decide) (by decide) Tryz.underlying22 Tryz.sizeOf5 Tryz.zeroValue5 rfl rfl ?_
    intro b25
    refine lx_nil ?_
    refine tr_any (m := 7) [1, 5] (by kernel_rfl) (by kernel_rfl) (by decide) ?_
    intro i hi
    simp only [List.mem_cons, List.not_mem_nil, or_false] at hi
    rcases hi with rfl | rfl
    · skip
      refine lx_bslG 22 UB8 hGF rfl rfl rfl rfl (by decide) (by decide) Tryz.underlying22 Tryz.sizeOf5 Tryz.zeroValue5 rfl rfl ?_
      intro b22
      refine lx_nil ?_
      refine tr_any (m := 6) [2, 5] (by kernel_rfl) (by kernel_rfl) (by decide) ?_
      intro i hi
      simp only [List.mem_cons, List.not_mem_nil, or_false] at hi
      rcases hi with rfl | rfl
      · skip
        refine lx_cvsG 22 rfl hGF rfl rfl Tryz.underlying22 Tryz.underlying5 rfl rfl ?_
        refine lx_nil ?_
        refine tr_pre (m := 5) [3] (by kernel_rfl) ?_
        refine lx_callC rfl rfl ent20 (fun w' hC hG => jmulU hf _ _ _ w' hG (hp_row (n := 22) rfl w' hC)) rfl rfl ?_
        refine lx_nil ?_
        refine tr_pre (m := 4) [5] (by kernel_rfl) ?_
        refine lx_cvsG 25 rfl hGF rfl rfl Tryz.underlying22 Tryz.underlying5 rfl rfl ?_
        refine lx_nil ?_
        refine tr_pre (m := 0) [6, 7, 9, 10] (by kernel_rfl) ?_
        refine lx_callC rfl rfl ent20 (fun w' hC hG => jmulU hf _ _ _ w' hG (hp_row (n := 25) rfl w' hC)) rfl rfl ?_
        refine lx_call rfl rfl ent23 (jneg _) rfl rfl ?_
        refine lx_call rfl rfl ent25 (jequal _ _ hd b hb) rfl rfl ?_
        refine lx_assign rfl rfl rfl ?_
        refine lx_nil ?_
        refine tr_nil (by kernel_rfl) ?_
        refine kseq_n ?_
        refine x_ret ?_
        repeat (first | refine kseq_ret ?_ | refine kblk_ret ?_)
        exact kret_tmp rfl rfl (fun w hw => ⟨rfl, hp_below hw⟩)
      · skip
        refine lx_cvsG 25 rfl hGF rfl rfl Tryz.underlying22 Tryz.underlying5 rfl rfl ?_
        refine lx_nil ?_
        refine tr_pre (m := 5) [2] (by kernel_rfl) ?_
        refine lx_cvsG 22 rfl hGF rfl rfl Tryz.underlying22 Tryz.underlying5 rfl rfl ?_
        refine lx_nil ?_
        refine tr_pre (m := 0) [3, 6, 7, 9, 10] (by kernel_rfl) ?_
        refine lx_callC rfl rfl ent20 (fun w' hC hG => jmulU hf _ _ _ w' hG (hp_row (n := 22) rfl w' hC)) rfl rfl ?_
        refine lx_callC rfl rfl ent20 (fun w' hC hG => jmulU hf _ _ _ w' hG (hp_row (n := 25) rfl w' hC)) rfl rfl ?_
        refine lx_call rfl rfl ent23 (jneg _) rfl rfl ?_
        refine lx_call rfl rfl ent25 (jequal _ _ hd b hb) rfl rfl ?_
        refine lx_assign rfl rfl rfl ?_
        refine lx_nil ?_
        refine tr_nil (by kernel_rfl) ?_
        refine kseq_n ?_
        refine x_ret ?_
        repeat (first | refine kseq_ret ?_ | refine kblk_ret ?_)
        exact kret_tmp rfl rfl (fun w hw => ⟨rfl, hp_below hw⟩)
    · skip
      refine lx_cvsG 25 rfl hGF rfl rfl Tryz.underlying22 Tryz.underlying5 rfl rfl ?_
      refine lx_nil ?_
      refine tr_pre (m := 6) [1] (by kernel_rfl) ?_
      refine lx_bslG 22 UB8 hGF rfl rfl rfl rfl (by decide) (by decide) Tryz.underlying22 Tryz.sizeOf5 Tryz.zeroValue5 rfl rfl ?_
      intro b22
      refine lx_nil ?_
      refine tr_pre (m := 5) [2] (by kernel_rfl) ?_
      refine lx_cvsG 22 rfl hGF rfl rfl Tryz.underlying22 Tryz.underlying5 rfl rfl ?_
      refine lx_nil ?_
      refine tr_pre (m := 0) [3, 6, 7, 9, 10] (by kernel_rfl) ?_
      refine lx_callC rfl rfl ent20 (fun w' hC hG => jmulU hf _ _ _ w' hG (hp_row (n := 22) rfl w' hC)) rfl rfl ?_
      refine lx_callC rfl rfl ent20 (fun w' hC hG => jmulU hf _ _ _ w' hG (hp_row (n := 25) rfl w' hC)) rfl rfl ?_
      refine lx_call rfl rfl ent23 (jneg _) rfl rfl ?_
      refine lx_call rfl rfl ent25 (jequal _ _ hd b hb) rfl rfl ?_
      refine lx_assign rfl rfl rfl ?_
      refine lx_nil ?_
      refine tr_nil (by kernel_rfl) ?_
      refine kseq_n ?_
      refine x_ret ?_
      repeat (first | refine kseq_ret ?_ | refine kblk_ret ?_)
      exact kret_tmp rfl rfl (fun w hw => ⟨rfl, hp_below hw⟩)
def gInf : GP := ⟨(0, 0, 0), none, True.intro, rfl⟩
def gGen : GP := ⟨(zp G1x, zp G1y, 1), some G1p, onP_some G1_on, g1_jr⟩
def gNeg (p : GP) : GP := ⟨(p.J.1, -p.J.2.1, p.J.2.2), E1.ne p.P, E1.ne_on p.on, E1.jr_n p.jr⟩
def gMul (p : GP) (bs : List (BitVec 8)) : GP := ⟨mlB p.J bs, E1.times p.P (BN bs bs.length), E1.times_on p.on _, mlB_jr p.on p.jr rfl⟩
theorem jr_pt (x y : Zp) : E1.jr (x, y, 1) (some (x, y)) := E1.jr_at (x, y) one_ne0
def gLift (x : Zp) (l : Bool) (h : LQ x) : GP := ⟨(x, LY x l, 1), some (x, LY x l), LY_on h l, jr_pt x (LY x l)⟩
def gAff (x y : Zp) (h : y * y = RS4 x) : GP := ⟨(x, y, 1), some (x, y), onP_some (E1_rs.2 h), jr_pt x y⟩
theorem zv30 (w : World) : (zeroValue 30).run Tryz.prog w = .ok (PtV gInf) w := zj30 w
theorem xy_w {J : Zp × Zp × Zp} {p : Zp × Zp} (h : E1.jr J (some p)) {v : Zp} (hv : J.2.2 * v = 1) : J.1 * (v * v) = p.1 ∧ J.2.1 * (v * v * v) = p.2 := by
  have hx : J.1 = p.1 * (J.2.2 * J.2.2) := h.2.1
  have hy : J.2.1 = p.2 * (J.2.2 * J.2.2 * J.2.2) := h.2.2
  obtain ⟨z, hz⟩ : ∃ z, J.2.2 = z := ⟨_, rfl⟩
  rw [hz] at hx hy hv
  refine ⟨?_, ?_⟩
  · rw [hx, show p.1 * (z * z) * (v * v) = p.1 * ((z * v) * (z * v)) from by grind, hv, z_11, z_m1]
  · rw [hy, show p.2 * (z * z * z) * (v * v * v) = p.2 * ((z * v) * ((z * v) * (z * v))) from by grind, hv, z_11, z_11, z_m1]
theorem xy_eq {J : Zp × Zp × Zp} {P : Pt Zp} (h : E1.jr J P) (hn : ¬ P = none) {v : Zp} (hv : ¬ J.2.2 = 0 → J.2.2 * v = 1) : J.1 * (v * v) = PX P ∧ J.2.1 * (v * v * v) = PY P := by
  cases P with
  | none => exact absurd rfl hn
  | some p => exact xy_w h (hv h.1)
theorem gen_p  : Pure Tryz.prog Gt 19 [] (PtV gGen) := jgen
theorem inf_p  : Pure Tryz.prog Gt 34 [] (PtV gInf) := jinf
theorem isInf_p (p : GP) : Pure Tryz.prog Gt 28 [PtV p] (.bool (decide (p.P = none))) := by
  have h := jisInf p.J
  rw [show decide (p.J.2.2 = 0) = decide (p.P = none) from decide_eq_decide.2 (E1.jr_z p.jr)] at h
  exact h
theorem equal_p (p q : GP) : Pure Tryz.prog Gt 25 [PtV p, PtV q] (.bool (decide (p.P = q.P))) := 
  have hd : Decidable (eqJ p.J q.J) := decidable_of_iff _ (eqJ_iff p.jr q.jr).symm
  jequal p.J q.J hd _ (decide_eq_decide.2 (eqJ_iff p.jr q.jr).symm)
theorem neg_p (p : GP) : Pure Tryz.prog Gt 23 [PtV p] (PtV (gNeg p)) := jneg p.J
theorem xy_n (p : GP) (h : p.P = none) : Pure Tryz.prog Gt 46 [PtV p] (.tuple #[EV 0, EV 0, .bool false]) := jxy_n p.J ((E1.jr_z p.jr).2 h)
theorem xy_s (p : GP) (h : ¬ p.P = none) : Pure Tryz.prog Gt 46 [PtV p] (.tuple #[EV (PX p.P), EV (PY p.P), .bool true]) := by
  have k := jxy_s p.J (fun e => h ((E1.jr_z p.jr).1 e))
  have e := xy_eq p.jr h (v := p.J.2.2 ^ (PP - 2)) (fun h => zinv h)
  rw [e.1, e.2] at k
  exact k
theorem sqrtY {a : Zp} (h : LQ a) : Pure Tryz.prog Gt 86 [EV (RS4 a)] (.tuple #[EV (SQ (RS4 a)), .bool true]) := decide_eq_true h ▸ fsqrt_pure (RS4 a)
theorem lift_of {x y : Zp} {l : Bool} (h : LQ x) (e : LY x l = y) (k : Pure Tryz.prog Gt 30 [EV x, .bool l] (.tuple #[JV (x, y, 1), .bool true])) : Pure Tryz.prog Gt 30 [EV x, .bool l] (.tuple #[PtV (gLift x l h), .bool true]) := by
  subst e
  exact k
theorem sqrtN {a : Zp} (h : ¬ LQ a) : Pure Tryz.prog Gt 86 [EV (RS4 a)] (.tuple #[EV (SQ (RS4 a)), .bool false]) := decide_eq_false h ▸ fsqrt_pure (RS4 a)
theorem lift_y (x : Zp) (l : Bool) (h : LQ x) : Pure Tryz.prog Gt 30 [EV x, .bool l] (.tuple #[PtV (gLift x l h), .bool true]) := by
  cases l with
  | true => exact lift_of h (LY_t h) (jlift_yt x _ (sqrtY h))
  | false => exact lift_of h (LY_f h) (jlift_yf x _ (sqrtY h))
theorem lift_n (x : Zp) (l : Bool) (h : ¬ LQ x) : Pure Tryz.prog Gt 30 [EV x, .bool l] (.tuple #[PtV gInf, .bool false]) := by
  cases l with
  | true => exact jlift_nt x _ (sqrtN h)
  | false => exact jlift_nf x _ (sqrtN h)
theorem inGroup_p (p : GP) : Pure Tryz.prog Gt 31 [PtV p] (.bool (decide (E1.times p.P ORD = none))) := 
  have hd : Decidable (eqJ (ngJ (mlB (mlB p.J UB8) UB8)) (tuJ (zp TRN) p.J)) := decidable_of_iff _ (ing_iff p.on p.jr).symm
  jing (fun _ => rfl) rfl p.J hd _ (decide_eq_decide.2 (ing_iff p.on p.jr).symm)
theorem mul_c (p : GP) (e : Option Addr) (cap : Nat) (bs : List (BitVec 8)) (hlen : bs.length ≤ 1000) (w : World) (hw : Gt w) (hby : BytesAt w e bs) : Calls Tryz.prog 20 [PtV p, .slice e bs.length cap].toArray w (fun r w' => r = .returned (PtV (gMul p bs)) ∧ Grow w w') := jmul_calls p.J e cap bs (by omega) w hw hby
end J1
end Go.Proofs.YtamddkjccmhgaaaGreatDoor
