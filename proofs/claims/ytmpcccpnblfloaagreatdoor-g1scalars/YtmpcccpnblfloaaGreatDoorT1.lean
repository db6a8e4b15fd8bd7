/-
  The program's points.
-/
import Derived.Test.YtmpcccpnblfloaaGreatDoorXB
import Derived.Test.YtmpcccpnblfloaaGreatDoorX5
import Derived.Test.YtmpcccpnblfloaaGreatDoorX4
import Derived.Test.YtmpcccpnblfloaaGreatDoorX3
namespace Go.Proofs.YtmpcccpnblfloaaGreatDoor
open Go.RowKit
set_option maxRecDepth 100000
set_option maxHeartbeats 1000000
attribute [local simp] fe_len nm_len AS_len SS_len MONT_len RM_len FRs_len BYs_len by48_len PLl TWOl ONEl N1l IVPl HFPl RTPl FL_len SP_len fe2_len SP2_len FM_len

theorem ent29 : Enters Tryz.prog 29 := fun _ _ => by kernel_rfl
theorem ent15 : Enters Tryz.prog 15 := fun _ _ => by kernel_rfl
theorem ent34 : Enters Tryz.prog 34 := fun _ _ => by kernel_rfl
theorem ent64 : Enters Tryz.prog 64 := fun _ _ => by kernel_rfl
theorem ent19 : Enters Tryz.prog 19 := fun _ _ => by kernel_rfl
theorem ent26 : Enters Tryz.prog 26 := fun _ _ => by kernel_rfl
theorem ent22 : Enters Tryz.prog 22 := fun _ _ => by kernel_rfl
theorem ent101 : Enters Tryz.prog 101 := fun _ _ => by kernel_rfl
theorem ent16 : Enters Tryz.prog 16 := fun _ _ => by kernel_rfl
theorem ent25 : Enters Tryz.prog 25 := fun _ _ => by kernel_rfl
theorem ent17 : Enters Tryz.prog 17 := fun _ _ => by kernel_rfl
theorem ent63 : Enters Tryz.prog 63 := fun _ _ => by kernel_rfl
theorem ent42 : Enters Tryz.prog 42 := fun _ _ => by kernel_rfl
theorem ent56 : Enters Tryz.prog 56 := fun _ _ => by kernel_rfl
theorem ent20 : Enters Tryz.prog 20 := fun _ _ => by kernel_rfl
theorem ent65 : Enters Tryz.prog 65 := fun _ _ => by kernel_rfl
/-- A point of the program: three numbers that stand for a point of the curve. -/
structure GP where
  J : Zp × Zp × Zp
  P : Pt Zp
  on : E1.onP P
  jr : E1.jr J P
/-- Its cells. -/
def GL (p : GP) : List (BitVec 64) := fe p.J.1 ++ (fe p.J.2.1 ++ fe p.J.2.2)
theorem GL_len (p : GP) : (GL p).length = 18 := by simp [GL]
attribute [local simp] GL_len
/-- A point of the program as a value. -/
abbrev PtV (p : GP) : Value := .agg ((GL p).map U64).toArray
def PX : Pt Zp → Zp
  | none => 0
  | some p => p.1
def PY : Pt Zp → Zp
  | none => 0
  | some p => p.2
theorem onP_some {p : Zp × Zp} (h : E1.on p) : E1.onP (some p) := h
/-- Three numbers as a value. -/
abbrev JV (J : Zp × Zp × Zp) : Value := .agg ((fe (J.1) ++ (fe (J.2.1) ++ fe (J.2.2))).map U64).toArray
theorem zj31 (w : World) : (zeroValue 31).run Tryz.prog w = .ok (.agg ((fe 0 ++ (fe 0 ++ fe 0)).map U64).toArray) w := by rw [fe_0]; exact (Tryz.zeroValue31 w).trans (by rfl)
theorem three31 : Three Tryz.prog 31 ⟨ "x", 28, 0, false, "", "pharos/g1", 0⟩ ⟨ "y", 28, 6, false, "", "pharos/g1", 48⟩ ⟨ "z", 28, 12, false, "", "pharos/g1", 96⟩ 6 (fe 0) (fe 0) (fe 0) := ⟨Tryz.underlying31, rfl, rfl, rfl, Tryz.sizeOf28, Tryz.sizeOf28, Tryz.sizeOf28, zj31, by simp, by simp, by simp⟩
theorem jsub (a b : Zp) : a - b = E1.sub a b := by show a - b = a + -b; grind
theorem fsubE (x y : Zp) : Pure Tryz.prog Gt 62 [EV x, EV y] (EV (E1.sub x y)) := by
  have h := fsub_pure x y
  rw [jsub] at h
  exact h
theorem jisInf (x : Zp × Zp × Zp) : Pure Tryz.prog Gt 15 [JV x] (.bool (decide (x.2.2 = 0))) := by
  intro w hw
  have hGF : BOk Gt (pl w) := gt_low.plain hw
  refine calls_of_X (G := Gt) Tryz.func15 rfl rfl (Hp (pl w) []) (hp_refl (pl w) trivial rides_true) (good_hp hGF) ?_
  refine xs_plain (E := EE []) ?_
  refine lx_boxr 1 hGF rfl rfl rfl ?_
  intro b1
  refine lx_assign rfl rfl rfl ?_
  refine lx_nil ?_
  refine xs_plain (E := EE []) ?_
  refine lx_fak 12 rfl Tryz.underlying31 rfl Tryz.sizeOf28 (by decide) rfl rfl rfl ?_
  refine lx_loado 1 _ rfl rfl Tryz.isAgg28 Tryz.sizeOf28 (by simp) (ld_rr (m := 6) (n := 6) (by simp) (by simp) rfl) rfl rfl ?_
  refine lx_call rfl rfl ent54 (fisZero_pure _) rfl rfl ?_
  refine lx_assign rfl rfl rfl ?_
  refine lx_nil ?_
  refine x_ret ?_
  repeat (first | refine kseq_ret ?_ | refine kblk_ret ?_)
  exact kret_tmp rfl rfl (fun w hw => ⟨rfl, hp_below hw⟩)
theorem jneg (x : Zp × Zp × Zp) : Pure Tryz.prog Gt 17 [JV x] (JV (x.1, -x.2.1, x.2.2)) := by
  intro w hw
  have hGF : BOk Gt (pl w) := gt_low.plain hw
  refine calls_of_X (G := Gt) Tryz.func17 rfl rfl (Hp (pl w) []) (hp_refl (pl w) trivial rides_true) (good_hp hGF) ?_
  refine xs_plain (E := EE []) ?_
  refine lx_boxr 1 hGF rfl rfl rfl ?_
  intro b1
  refine lx_allocr 2 hGF zj31 rfl rfl ?_
  intro b2
  refine lx_nil ?_
  refine xs_drawn (E := EE []) mixed (by kernel_rfl) (by kernel_rfl) (by kernel_rfl) ?_
  refine lx_fak 0 rfl Tryz.underlying31 rfl Tryz.sizeOf28 (by decide) rfl rfl rfl ?_
  refine lx_loado 1 _ rfl rfl Tryz.isAgg28 Tryz.sizeOf28 (by simp) ld_l rfl rfl ?_
  refine lx_fak 6 rfl Tryz.underlying31 rfl Tryz.sizeOf28 (by decide) rfl rfl rfl ?_
  refine lx_loado 1 _ rfl rfl Tryz.isAgg28 Tryz.sizeOf28 (by simp) (ld_m (by simp)) rfl rfl ?_
  refine lx_call rfl rfl ent41 (fneg_pure _) rfl rfl ?_
  refine lx_fak 12 rfl Tryz.underlying31 rfl Tryz.sizeOf28 (by decide) rfl rfl rfl ?_
  refine lx_loado 1 _ rfl rfl Tryz.isAgg28 Tryz.sizeOf28 (by simp) (ld_rr (m := 6) (n := 6) (by simp) (by simp) rfl) rfl rfl ?_
  refine lx_three012 three31 rfl rfl rfl (by simp) (by simp) (by simp) rfl rfl ?_
  refine lx_storea 2 hGF rfl rfl rfl Tryz.sizeOf31 (by simp) (by simp) (one_u64 _) rfl ?_
  refine lx_nil ?_
  refine x_ret ?_
  repeat (first | refine kseq_ret ?_ | refine kblk_ret ?_)
  exact kret_own 2 rfl rfl rfl Tryz.isAgg31 Tryz.sizeOf31 (by simp) (fun w hw => ⟨rfl, hp_below hw⟩)
theorem jinf  : Pure Tryz.prog Gt 20 [] (JV (0, 0, 0)) := by
  intro w hw
  have hGF : BOk Gt (pl w) := gt_low.plain hw
  refine calls_of_X (G := Gt) Tryz.func20 rfl rfl (Hp (pl w) []) (hp_refl (pl w) trivial rides_true) (good_hp hGF) ?_
  refine xs_plain (E := EE []) ?_
  refine lx_allocr 0 hGF zj31 rfl rfl ?_
  intro b0
  refine lx_nil ?_
  refine xs_plain (E := EE []) ?_
  refine lx_threeN three31 rfl rfl ?_
  refine lx_storea 0 hGF rfl rfl rfl Tryz.sizeOf31 (by simp) (by simp) (one_u64 _) rfl ?_
  refine lx_nil ?_
  refine x_ret ?_
  repeat (first | refine kseq_ret ?_ | refine kblk_ret ?_)
  exact kret_own 0 rfl rfl rfl Tryz.isAgg31 Tryz.sizeOf31 (by simp) (fun w hw => ⟨rfl, hp_below hw⟩)
theorem jcube (a : Zp) : Pure Tryz.prog Gt 56 [EV a] (EV (a * a * a)) := by
  intro w hw
  have hGF : BOk Gt (pl w) := gt_low.plain hw
  refine calls_of_X (G := Gt) Tryz.func56 rfl rfl (Hp (pl w) []) (hp_refl (pl w) trivial rides_true) (good_hp hGF) ?_
  refine xs_plain (E := EE []) ?_
  refine lx_boxr 1 hGF rfl rfl rfl ?_
  intro b1
  refine lx_allocr 2 hGF zv28 rfl rfl ?_
  intro b2
  refine lx_nil ?_
  refine xs_drawn (E := EE []) mixed (by kernel_rfl) (by kernel_rfl) (by kernel_rfl) ?_
  refine lx_loada 1 rfl rfl Tryz.isAgg28 Tryz.sizeOf28 (by simp) rfl rfl ?_
  refine lx_call rfl rfl ent57 (fsquare_pure _) rfl rfl ?_
  refine lx_loada 1 rfl rfl Tryz.isAgg28 Tryz.sizeOf28 (by simp) rfl rfl ?_
  refine lx_call rfl rfl ent55 (fmul_pure _ _) rfl rfl ?_
  refine lx_storea 2 hGF rfl rfl rfl Tryz.sizeOf28 (by simp) (by simp) (one_u64 _) rfl ?_
  refine lx_nil ?_
  refine x_ret ?_
  repeat (first | refine kseq_ret ?_ | refine kblk_ret ?_)
  exact kret_own 2 rfl rfl rfl Tryz.isAgg28 Tryz.sizeOf28 (by simp) (fun w hw => ⟨rfl, hp_below hw⟩)
/-- Doubled, as the program doubles. -/
def dbF (x : Zp × Zp × Zp) : Zp × Zp × Zp :=
  let a := x.2.1 + x.2.1
  let s := x.1 * x.1
  let u := s + s + s
  let h := a * a
  let b := h * x.1
  let X := E1.sub (E1.sub (u * u) b) b
  (X, E1.sub (u * E1.sub b X) (h * a * x.2.1), x.2.2 * a)
theorem jdbl (x : Zp × Zp × Zp) : Pure Tryz.prog Gt 25 [JV x] (JV (dbF x)) := by
  intro w hw
  have hGF : BOk Gt (pl w) := gt_low.plain hw
  refine calls_of_X (G := Gt) Tryz.func25 rfl rfl (Hp (pl w) []) (hp_refl (pl w) trivial rides_true) (good_hp hGF) ?_
  refine xs_plain (E := EE []) ?_
  refine lx_boxr 1 hGF rfl rfl rfl ?_
  intro b1
  refine lx_allocr 2 hGF zj31 rfl rfl ?_
  intro b2
  refine lx_nil ?_
  refine xs_drawA (E := EE [2999999]) [0, 1, 2, 3, 4, 5, 6, 7] [⟨8, 3, 28, (List.replicate 6 0#64).map U64⟩, ⟨9, 4, 28, (List.replicate 6 0#64).map U64⟩] [10, 11] mixed rfl (by kernel_rfl) (by kernel_rfl) (by kernel_rfl) (by kernel_rfl) (by kernel_rfl) (by kernel_rfl) (by decide) (by intro x hx; simp only [List.mem_cons, List.not_mem_nil, or_false] at hx; rcases hx with rfl | rfl <;> exact isAlloc_mk rfl zv28 rfl) ?_
  refine lx_fak 6 rfl Tryz.underlying31 rfl Tryz.sizeOf28 (by decide) rfl rfl rfl ?_
  refine lx_loado 1 _ rfl rfl Tryz.isAgg28 Tryz.sizeOf28 (by simp) (ld_m (by simp)) rfl rfl ?_
  refine lx_fak 6 rfl Tryz.underlying31 rfl Tryz.sizeOf28 (by decide) rfl rfl rfl ?_
  refine lx_loado 1 _ rfl rfl Tryz.isAgg28 Tryz.sizeOf28 (by simp) (ld_m (by simp)) rfl rfl ?_
  refine lx_call rfl rfl ent60 (fadd_pure _ _) rfl rfl ?_
  refine lx_fak 0 rfl Tryz.underlying31 rfl Tryz.sizeOf28 (by decide) rfl rfl rfl ?_
  refine lx_loado 1 _ rfl rfl Tryz.isAgg28 Tryz.sizeOf28 (by simp) ld_l rfl rfl ?_
  refine lx_call rfl rfl ent57 (fsquare_pure _) rfl rfl ?_
  refine lx_nil ?_
  refine ⟨_, _, rfl, hGF, by intro x hx; simp only [List.mem_cons, List.not_mem_nil, or_false] at hx; rcases hx with rfl | rfl <;> rfl, by intro x hx; simp only [List.mem_cons, List.not_mem_nil, or_false] at hx; rcases hx with rfl | rfl <;> rfl, fun adr => ?_⟩
  refine lx_storea 3 hGF rfl rfl rfl Tryz.sizeOf28 (by simp) (by simp) (one_u64 _) rfl ?_
  refine lx_storea 4 hGF rfl rfl rfl Tryz.sizeOf28 (by simp) (by simp) (one_u64 _) rfl ?_
  refine lx_nil ?_
  refine xs_drawA (E := EE [2999999]) [0, 1, 2, 3, 4] [⟨5, 5, 28, (List.replicate 6 0#64).map U64⟩] [6] mixed rfl (by kernel_rfl) (by kernel_rfl) (by kernel_rfl) (by kernel_rfl) (by kernel_rfl) (by kernel_rfl) (by decide) (by intro x hx; simp only [List.mem_cons, List.not_mem_nil, or_false] at hx; subst hx; exact isAlloc_mk rfl zv28 rfl) ?_
  refine lx_loada 4 rfl rfl Tryz.isAgg28 Tryz.sizeOf28 (by simp) rfl rfl ?_
  refine lx_loada 4 rfl rfl Tryz.isAgg28 Tryz.sizeOf28 (by simp) rfl rfl ?_
  refine lx_call rfl rfl ent60 (fadd_pure _ _) rfl rfl ?_
  refine lx_loada 4 rfl rfl Tryz.isAgg28 Tryz.sizeOf28 (by simp) rfl rfl ?_
  refine lx_call rfl rfl ent60 (fadd_pure _ _) rfl rfl ?_
  refine lx_nil ?_
  refine ⟨_, _, rfl, hGF, by intro x hx; simp only [List.mem_cons, List.not_mem_nil, or_false] at hx; subst hx; rfl, by intro x hx; simp only [List.mem_cons, List.not_mem_nil, or_false] at hx; subst hx; rfl, fun adr => ?_⟩
  refine lx_storea 5 hGF rfl rfl rfl Tryz.sizeOf28 (by simp) (by simp) (one_u64 _) rfl ?_
  refine lx_nil ?_
  refine xs_plain (E := EE []) ?_
  refine lx_loada 3 rfl rfl Tryz.isAgg28 Tryz.sizeOf28 (by simp) rfl rfl ?_
  refine lx_call rfl rfl ent57 (fsquare_pure _) rfl rfl ?_
  refine lx_allocr 6 hGF zv28 rfl rfl ?_
  intro b6
  refine lx_storea 6 hGF rfl rfl rfl Tryz.sizeOf28 (by simp) (by simp) (one_u64 _) rfl ?_
  refine lx_nil ?_
  refine xs_plain (E := EE []) ?_
  refine lx_loada 6 rfl rfl Tryz.isAgg28 Tryz.sizeOf28 (by simp) rfl rfl ?_
  refine lx_fak 0 rfl Tryz.underlying31 rfl Tryz.sizeOf28 (by decide) rfl rfl rfl ?_
  refine lx_loado 1 _ rfl rfl Tryz.isAgg28 Tryz.sizeOf28 (by simp) ld_l rfl rfl ?_
  refine lx_call rfl rfl ent55 (fmul_pure _ _) rfl rfl ?_
  refine lx_allocr 7 hGF zv28 rfl rfl ?_
  intro b7
  refine lx_storea 7 hGF rfl rfl rfl Tryz.sizeOf28 (by simp) (by simp) (one_u64 _) rfl ?_
  refine lx_nil ?_
  refine xs_drawA (E := EE [2999999]) [0, 1, 2, 3, 4, 5] [⟨6, 8, 28, (List.replicate 6 0#64).map U64⟩] [7] mixed rfl (by kernel_rfl) (by kernel_rfl) (by kernel_rfl) (by kernel_rfl) (by kernel_rfl) (by kernel_rfl) (by decide) (by intro x hx; simp only [List.mem_cons, List.not_mem_nil, or_false] at hx; subst hx; exact isAlloc_mk rfl zv28 rfl) ?_
  refine lx_loada 5 rfl rfl Tryz.isAgg28 Tryz.sizeOf28 (by simp) rfl rfl ?_
  refine lx_call rfl rfl ent57 (fsquare_pure _) rfl rfl ?_
  refine lx_loada 7 rfl rfl Tryz.isAgg28 Tryz.sizeOf28 (by simp) rfl rfl ?_
  refine lx_call rfl rfl ent62 (fsubE _ _) rfl rfl ?_
  refine lx_loada 7 rfl rfl Tryz.isAgg28 Tryz.sizeOf28 (by simp) rfl rfl ?_
  refine lx_call rfl rfl ent62 (fsubE _ _) rfl rfl ?_
  refine lx_nil ?_
  refine ⟨_, _, rfl, hGF, by intro x hx; simp only [List.mem_cons, List.not_mem_nil, or_false] at hx; subst hx; rfl, by intro x hx; simp only [List.mem_cons, List.not_mem_nil, or_false] at hx; subst hx; rfl, fun adr => ?_⟩
  refine lx_storea 8 hGF rfl rfl rfl Tryz.sizeOf28 (by simp) (by simp) (one_u64 _) rfl ?_
  refine lx_nil ?_
  refine xs_drawA (E := EE [2999999]) [0, 1, 2, 3, 4, 5, 6, 7, 8, 9, 10, 11] [⟨12, 9, 28, (List.replicate 6 0#64).map U64⟩] [13] mixed rfl (by kernel_rfl) (by kernel_rfl) (by kernel_rfl) (by kernel_rfl) (by kernel_rfl) (by kernel_rfl) (by decide) (by intro x hx; simp only [List.mem_cons, List.not_mem_nil, or_false] at hx; subst hx; exact isAlloc_mk rfl zv28 rfl) ?_
  refine lx_loada 5 rfl rfl Tryz.isAgg28 Tryz.sizeOf28 (by simp) rfl rfl ?_
  refine lx_loada 7 rfl rfl Tryz.isAgg28 Tryz.sizeOf28 (by simp) rfl rfl ?_
  refine lx_loada 8 rfl rfl Tryz.isAgg28 Tryz.sizeOf28 (by simp) rfl rfl ?_
  refine lx_call rfl rfl ent62 (fsubE _ _) rfl rfl ?_
  refine lx_call rfl rfl ent55 (fmul_pure _ _) rfl rfl ?_
  refine lx_loada 6 rfl rfl Tryz.isAgg28 Tryz.sizeOf28 (by simp) rfl rfl ?_
  refine lx_loada 3 rfl rfl Tryz.isAgg28 Tryz.sizeOf28 (by simp) rfl rfl ?_
  refine lx_call rfl rfl ent55 (fmul_pure _ _) rfl rfl ?_
  refine lx_fak 6 rfl Tryz.underlying31 rfl Tryz.sizeOf28 (by decide) rfl rfl rfl ?_
  refine lx_loado 1 _ rfl rfl Tryz.isAgg28 Tryz.sizeOf28 (by simp) (ld_m (by simp)) rfl rfl ?_
  refine lx_call rfl rfl ent55 (fmul_pure _ _) rfl rfl ?_
  refine lx_call rfl rfl ent62 (fsubE _ _) rfl rfl ?_
  refine lx_nil ?_
  refine ⟨_, _, rfl, hGF, by intro x hx; simp only [List.mem_cons, List.not_mem_nil, or_false] at hx; subst hx; rfl, by intro x hx; simp only [List.mem_cons, List.not_mem_nil, or_false] at hx; subst hx; rfl, fun adr => ?_⟩
  refine lx_storea 9 hGF rfl rfl rfl Tryz.sizeOf28 (by simp) (by simp) (one_u64 _) rfl ?_
  refine lx_nil ?_
  refine xs_drawn (E := EE []) mixed (by kernel_rfl) (by kernel_rfl) (by kernel_rfl) ?_
  refine lx_loada 8 rfl rfl Tryz.isAgg28 Tryz.sizeOf28 (by simp) rfl rfl ?_
  refine lx_loada 9 rfl rfl Tryz.isAgg28 Tryz.sizeOf28 (by simp) rfl rfl ?_
  refine lx_fak 12 rfl Tryz.underlying31 rfl Tryz.sizeOf28 (by decide) rfl rfl rfl ?_
  refine lx_loado 1 _ rfl rfl Tryz.isAgg28 Tryz.sizeOf28 (by simp) (ld_rr (m := 6) (n := 6) (by simp) (by simp) rfl) rfl rfl ?_
  refine lx_loada 3 rfl rfl Tryz.isAgg28 Tryz.sizeOf28 (by simp) rfl rfl ?_
  refine lx_call rfl rfl ent55 (fmul_pure _ _) rfl rfl ?_
  refine lx_three012 three31 rfl rfl rfl (by simp) (by simp) (by simp) rfl rfl ?_
  refine lx_storea 2 hGF rfl rfl rfl Tryz.sizeOf31 (by simp) (by simp) (one_u64 _) rfl ?_
  refine lx_nil ?_
  refine x_ret ?_
  repeat (first | refine kseq_ret ?_ | refine kblk_ret ?_)
  exact kret_own 2 rfl rfl rfl Tryz.isAgg31 Tryz.sizeOf31 (by simp) (fun w hw => ⟨rfl, hp_below hw⟩)
theorem db_s (x y : Zp) : (y + y) * (y + y) * x = (x * (y * y) + x * (y * y)) + (x * (y * y) + x * (y * y)) := by grind
theorem db_c (y : Zp) : (y + y) * (y + y) * (y + y) * y = (((y * y) * (y * y) + (y * y) * (y * y)) + ((y * y) * (y * y) + (y * y) * (y * y))) + (((y * y) * (y * y) + (y * y) * (y * y)) + ((y * y) * (y * y) + (y * y) * (y * y))) := by grind
theorem db_z (y z : Zp) : z * (y + y) = y * z + y * z := by grind
theorem dbl_ext (m : Zp) {s s' c c' z z' : Zp} (hs : s = s') (hc : c = c') (hz : z = z') : (E1.sub (E1.sub (m * m) s) s, E1.sub (m * E1.sub s (E1.sub (E1.sub (m * m) s) s)) c, z) = (E1.sub (E1.sub (m * m) s') s', E1.sub (m * E1.sub s' (E1.sub (E1.sub (m * m) s') s')) c', z') := by rw [hs, hc, hz]
theorem dbF_jd (x : Zp × Zp × Zp) : dbF x = E1.jd x.1 x.2.1 x.2.2 := dbl_ext (x.1 * x.1 + x.1 * x.1 + x.1 * x.1) (db_s x.1 x.2.1) (db_c x.2.1) (db_z x.2.1 x.2.2)
theorem dbF_jr {x : Zp × Zp × Zp} {P : Pt Zp} (hP : E1.onP P) (h : E1.jr x P) : E1.jr (dbF x) (E1.ad P P) := by
  have k := E1.jr_d hP h
  by_cases hz : x.2.2 = E1.R.zero ∨ x.2.1 = E1.R.zero
  · rw [show E1.jdF x = (E1.R.zero, E1.R.zero, E1.R.zero) from if_pos hz] at k
    rw [(E1.jr_z k).1 rfl]
    show x.2.2 * (x.2.1 + x.2.1) = (0 : Zp)
    rcases hz with e | e
    · rw [show x.2.2 = (0 : Zp) from e, z_0m]
    · rw [show x.2.1 = (0 : Zp) from e, z_a0', z_m0]
  · rw [show E1.jdF x = E1.jd x.1 x.2.1 x.2.2 from if_neg hz, ← dbF_jd] at k
    exact k
/-- Added, as the program adds. -/
def adG (x y : Zp × Zp × Zp) : Zp × Zp × Zp :=
  let u := x.1 * (y.2.2 * y.2.2)
  let s := x.2.1 * (y.2.2 * y.2.2) * y.2.2
  let h := E1.sub (y.1 * (x.2.2 * x.2.2)) u
  let r := E1.sub (y.2.1 * (x.2.2 * x.2.2) * x.2.2) s
  let q := h * h
  let c := q * h
  let w := q * u
  let X := E1.sub (E1.sub (E1.sub (r * r) c) w) w
  (X, E1.sub (r * E1.sub w X) (c * s), x.2.2 * y.2.2 * h)
def adF (x y : Zp × Zp × Zp) : Zp × Zp × Zp := if x.2.2 = 0 then y else if y.2.2 = 0 then x else if E1.jh x.1 x.2.2 y.1 y.2.2 = 0 then (if E1.jq x.2.1 x.2.2 y.2.1 y.2.2 = 0 then dbF x else (0, 0, 0)) else adG x y
theorem z_comm (a b : Zp) : a * b = b * a := by grind
theorem add_ext {a w w' r k k' z : Zp} (hw : w = w') (hk : k = k') : (E1.sub (E1.sub a w) w, E1.sub (r * E1.sub w (E1.sub (E1.sub a w) w)) k, z) = (E1.sub (E1.sub a w') w', E1.sub (r * E1.sub w' (E1.sub (E1.sub a w') w')) k', z) := by rw [hw, hk]
theorem adG_ja (x y : Zp × Zp × Zp) : adG x y = E1.ja x.1 x.2.1 x.2.2 y.1 y.2.1 y.2.2 := add_ext (z_comm _ _) (z_comm _ _)
theorem same_iff {p q : Zp × Zp} {x y : Zp × Zp × Zp} (h : E1.jr x (some p)) (k : E1.jr y (some q)) : (x.1 * (y.2.2 * y.2.2) = y.1 * (x.2.2 * x.2.2) ↔ p.1 = q.1) ∧ (x.2.1 * (y.2.2 * y.2.2) * y.2.2 = y.2.1 * (x.2.2 * x.2.2) * x.2.2 ↔ p.2 = q.2) := by
  have hx : x.1 = p.1 * (x.2.2 * x.2.2) := h.2.1
  have hy : x.2.1 = p.2 * (x.2.2 * x.2.2 * x.2.2) := h.2.2
  have kx : y.1 = q.1 * (y.2.2 * y.2.2) := k.2.1
  have ky : y.2.1 = q.2 * (y.2.2 * y.2.2 * y.2.2) := k.2.2
  have n2 := E1.mul_ne (E1.z2_ne h.1) (E1.z2_ne k.1)
  have n3 := E1.mul_ne (E1.z3_ne h.1) (E1.z3_ne k.1)
  obtain ⟨z, hz⟩ : ∃ z, x.2.2 = z := ⟨_, rfl⟩
  obtain ⟨v, hv⟩ : ∃ v, y.2.2 = v := ⟨_, rfl⟩
  rw [hz] at hx hy n2 n3
  rw [hv] at kx ky n2 n3
  rw [hx, hy, kx, ky, hz, hv]
  refine ⟨⟨fun e => E1.mul_can n2 ?_, fun e => by rw [e]; grind⟩, ⟨fun e => E1.mul_can n3 ?_, fun e => by rw [e]; grind⟩⟩
  · show p.1 * (z * z * (v * v)) = q.1 * (z * z * (v * v))
    grind
  · show p.2 * (z * z * z * (v * v * v)) = q.2 * (z * z * z * (v * v * v))
    grind
theorem adF_same {x y : Zp × Zp × Zp} {P Q : Pt Zp} (_ : E1.onP P) (_ : E1.onP Q) (h : E1.jr x P) (k : E1.jr y Q) (h1 : ¬ x.2.2 = 0) (h2 : ¬ y.2.2 = 0) (h3 : E1.jh x.1 x.2.2 y.1 y.2.2 = 0) (h4 : E1.jq x.2.1 x.2.2 y.2.1 y.2.2 = 0) : Q = P := by
  cases P with
  | none => exact absurd h h1
  | some p =>
    cases Q with
    | none => exact absurd k h2
    | some q =>
      have s := same_iff h k
      exact congrArg some (Prod.ext (s.1.1 (E1.sub0 h3).symm).symm (s.2.1 (E1.sub0 h4).symm).symm)
theorem adF_jr {x y : Zp × Zp × Zp} {P Q : Pt Zp} (hP : E1.onP P) (hQ : E1.onP Q) (h : E1.jr x P) (k : E1.jr y Q) : E1.jr (adF x y) (E1.ad P Q) := by
  have j := E1.jr_a hP hQ h k
  by_cases h1 : x.2.2 = 0
  · rw [show E1.jaF x y = y from if_pos h1] at j
    rw [show adF x y = y from if_pos h1]; exact j
  by_cases h2 : y.2.2 = 0
  · rw [show E1.jaF x y = x from (if_neg h1).trans (if_pos h2)] at j
    rw [show adF x y = x from (if_neg h1).trans (if_pos h2)]; exact j
  by_cases h3 : E1.jh x.1 x.2.2 y.1 y.2.2 = 0
  · by_cases h4 : E1.jq x.2.1 x.2.2 y.2.1 y.2.2 = 0
    · rw [show adF x y = dbF x from (if_neg h1).trans ((if_neg h2).trans ((if_pos h3).trans (if_pos h4)))]
      have e : Q = P := adF_same hP hQ h k h1 h2 h3 h4
      rw [e]; exact dbF_jr hP h
    · rw [show E1.jaF x y = (E1.R.zero, E1.R.zero, E1.R.zero) from (if_neg h1).trans ((if_neg h2).trans ((if_pos h3).trans (if_neg h4)))] at j
      rw [show adF x y = (0, 0, 0) from (if_neg h1).trans ((if_neg h2).trans ((if_pos h3).trans (if_neg h4)))]; exact j
  · rw [show E1.jaF x y = E1.ja x.1 x.2.1 x.2.2 y.1 y.2.1 y.2.2 from (if_neg h1).trans ((if_neg h2).trans (if_neg h3)), ← adG_ja] at j
    rw [show adF x y = adG x y from (if_neg h1).trans ((if_neg h2).trans (if_neg h3))]; exact j
theorem jadd (x y : Zp × Zp × Zp) : Pure Tryz.prog Gt 19 [JV x, JV y] (JV (adF x y)) := by
  intro w hw
  have hGF : BOk Gt (pl w) := gt_low.plain hw
  by_cases h1 : x.2.2 = 0
  · skip
    rw [show adF x y = y from if_pos h1]
    refine calls_of_X (G := Gt) Tryz.func19 rfl rfl (Hp (pl w) []) (hp_refl (pl w) trivial rides_true) (good_hp hGF) ?_
    refine xs_plain (E := EE []) ?_
    refine lx_boxr 2 hGF rfl rfl rfl ?_
    intro b2
    refine lx_boxr 3 hGF rfl rfl rfl ?_
    intro b3
    refine lx_allocr 4 hGF zj31 rfl rfl ?_
    intro b4
    refine lx_nil ?_
    refine x_seq ?_
    refine xs_plain (E := EE []) ?_
    refine lx_loada 2 rfl rfl Tryz.isAgg31 Tryz.sizeOf31 (by simp) rfl rfl ?_
    refine lx_callB true rfl rfl ent15 (jisInf _) (decide_eq_true h1) rfl rfl ?_
    refine lx_nil ?_
    refine x_true rfl ?_
    refine xs_plain (E := EE []) ?_
    refine lx_loada 3 rfl rfl Tryz.isAgg31 Tryz.sizeOf31 (by simp) rfl rfl ?_
    refine lx_storea 4 hGF rfl rfl rfl Tryz.sizeOf31 (by simp) (by simp) (one_u64 _) rfl ?_
    refine lx_nil ?_
    refine x_ret ?_
    repeat (first | refine kseq_ret ?_ | refine kblk_ret ?_)
    exact kret_own 4 rfl rfl rfl Tryz.isAgg31 Tryz.sizeOf31 (by simp) (fun w hw => ⟨rfl, hp_below hw⟩)
  · skip
    by_cases h2 : y.2.2 = 0
    · skip
      rw [show adF x y = x from (if_neg h1).trans (if_pos h2)]
      refine calls_of_X (G := Gt) Tryz.func19 rfl rfl (Hp (pl w) []) (hp_refl (pl w) trivial rides_true) (good_hp hGF) ?_
      refine xs_plain (E := EE []) ?_
      refine lx_boxr 2 hGF rfl rfl rfl ?_
      intro b2
      refine lx_boxr 3 hGF rfl rfl rfl ?_
      intro b3
      refine lx_allocr 4 hGF zj31 rfl rfl ?_
      intro b4
      refine lx_nil ?_
      refine x_seq ?_
      refine xs_plain (E := EE []) ?_
      refine lx_loada 2 rfl rfl Tryz.isAgg31 Tryz.sizeOf31 (by simp) rfl rfl ?_
      refine lx_callB false rfl rfl ent15 (jisInf _) (decide_eq_false h1) rfl rfl ?_
      refine lx_nil ?_
      refine x_false rfl ?_
      refine x_skip ?_
      refine x_seq ?_
      refine xs_plain (E := EE []) ?_
      refine lx_loada 3 rfl rfl Tryz.isAgg31 Tryz.sizeOf31 (by simp) rfl rfl ?_
      refine lx_callB true rfl rfl ent15 (jisInf _) (decide_eq_true h2) rfl rfl ?_
      refine lx_nil ?_
      refine x_true rfl ?_
      refine xs_plain (E := EE []) ?_
      refine lx_loada 2 rfl rfl Tryz.isAgg31 Tryz.sizeOf31 (by simp) rfl rfl ?_
      refine lx_storea 4 hGF rfl rfl rfl Tryz.sizeOf31 (by simp) (by simp) (one_u64 _) rfl ?_
      refine lx_nil ?_
      refine x_ret ?_
      repeat (first | refine kseq_ret ?_ | refine kblk_ret ?_)
      exact kret_own 4 rfl rfl rfl Tryz.isAgg31 Tryz.sizeOf31 (by simp) (fun w hw => ⟨rfl, hp_below hw⟩)
    · skip
      by_cases h3 : E1.jh x.1 x.2.2 y.1 y.2.2 = 0
      · skip
        by_cases h4 : E1.jq x.2.1 x.2.2 y.2.1 y.2.2 = 0
        · skip
          rw [show adF x y = dbF x from (if_neg h1).trans ((if_neg h2).trans ((if_pos h3).trans (if_pos h4)))]
          refine calls_of_X (G := Gt) Tryz.func19 rfl rfl (Hp (pl w) []) (hp_refl (pl w) trivial rides_true) (good_hp hGF) ?_
          refine xs_plain (E := EE []) ?_
          refine lx_boxr 2 hGF rfl rfl rfl ?_
          intro b2
          refine lx_boxr 3 hGF rfl rfl rfl ?_
          intro b3
          refine lx_allocr 4 hGF zj31 rfl rfl ?_
          intro b4
          refine lx_nil ?_
          refine x_seq ?_
          refine xs_plain (E := EE []) ?_
          refine lx_loada 2 rfl rfl Tryz.isAgg31 Tryz.sizeOf31 (by simp) rfl rfl ?_
          refine lx_callB false rfl rfl ent15 (jisInf _) (decide_eq_false h1) rfl rfl ?_
          refine lx_nil ?_
          refine x_false rfl ?_
          refine x_skip ?_
          refine x_seq ?_
          refine xs_plain (E := EE []) ?_
          refine lx_loada 3 rfl rfl Tryz.isAgg31 Tryz.sizeOf31 (by simp) rfl rfl ?_
          refine lx_callB false rfl rfl ent15 (jisInf _) (decide_eq_false h2) rfl rfl ?_
          refine lx_nil ?_
          refine x_false rfl ?_
          refine x_skip ?_
          refine xs_drawA (E := EE [2999999]) [0, 1, 2, 3, 4, 5] [⟨6, 5, 28, (List.replicate 6 0#64).map U64⟩, ⟨7, 6, 28, (List.replicate 6 0#64).map U64⟩] [8, 9] mixed rfl (by kernel_rfl) (by kernel_rfl) (by kernel_rfl) (by kernel_rfl) (by kernel_rfl) (by kernel_rfl) (by decide) (by intro x hx; simp only [List.mem_cons, List.not_mem_nil, or_false] at hx; rcases hx with rfl | rfl <;> exact isAlloc_mk rfl zv28 rfl) ?_
          refine lx_fak 12 rfl Tryz.underlying31 rfl Tryz.sizeOf28 (by decide) rfl rfl rfl ?_
          refine lx_loado 2 _ rfl rfl Tryz.isAgg28 Tryz.sizeOf28 (by simp) (ld_rr (m := 6) (n := 6) (by simp) (by simp) rfl) rfl rfl ?_
          refine lx_call rfl rfl ent57 (fsquare_pure _) rfl rfl ?_
          refine lx_fak 12 rfl Tryz.underlying31 rfl Tryz.sizeOf28 (by decide) rfl rfl rfl ?_
          refine lx_loado 3 _ rfl rfl Tryz.isAgg28 Tryz.sizeOf28 (by simp) (ld_rr (m := 6) (n := 6) (by simp) (by simp) rfl) rfl rfl ?_
          refine lx_call rfl rfl ent57 (fsquare_pure _) rfl rfl ?_
          refine lx_nil ?_
          refine ⟨_, _, rfl, hGF, by intro x hx; simp only [List.mem_cons, List.not_mem_nil, or_false] at hx; rcases hx with rfl | rfl <;> rfl, by intro x hx; simp only [List.mem_cons, List.not_mem_nil, or_false] at hx; rcases hx with rfl | rfl <;> rfl, fun adr => ?_⟩
          refine lx_storea 5 hGF rfl rfl rfl Tryz.sizeOf28 (by simp) (by simp) (one_u64 _) rfl ?_
          refine lx_storea 6 hGF rfl rfl rfl Tryz.sizeOf28 (by simp) (by simp) (one_u64 _) rfl ?_
          refine lx_nil ?_
          refine xs_drawA (E := EE [2999999]) [0, 1, 2, 3, 4, 5, 6, 7, 8, 9, 10] [⟨11, 7, 28, (List.replicate 6 0#64).map U64⟩, ⟨12, 8, 28, (List.replicate 6 0#64).map U64⟩] [13, 14] mixed rfl (by kernel_rfl) (by kernel_rfl) (by kernel_rfl) (by kernel_rfl) (by kernel_rfl) (by kernel_rfl) (by decide) (by intro x hx; simp only [List.mem_cons, List.not_mem_nil, or_false] at hx; rcases hx with rfl | rfl <;> exact isAlloc_mk rfl zv28 rfl) ?_
          refine lx_fak 0 rfl Tryz.underlying31 rfl Tryz.sizeOf28 (by decide) rfl rfl rfl ?_
          refine lx_loado 2 _ rfl rfl Tryz.isAgg28 Tryz.sizeOf28 (by simp) ld_l rfl rfl ?_
          refine lx_loada 6 rfl rfl Tryz.isAgg28 Tryz.sizeOf28 (by simp) rfl rfl ?_
          refine lx_call rfl rfl ent55 (fmul_pure _ _) rfl rfl ?_
          refine lx_fak 6 rfl Tryz.underlying31 rfl Tryz.sizeOf28 (by decide) rfl rfl rfl ?_
          refine lx_loado 2 _ rfl rfl Tryz.isAgg28 Tryz.sizeOf28 (by simp) (ld_m (by simp)) rfl rfl ?_
          refine lx_loada 6 rfl rfl Tryz.isAgg28 Tryz.sizeOf28 (by simp) rfl rfl ?_
          refine lx_call rfl rfl ent55 (fmul_pure _ _) rfl rfl ?_
          refine lx_fak 12 rfl Tryz.underlying31 rfl Tryz.sizeOf28 (by decide) rfl rfl rfl ?_
          refine lx_loado 3 _ rfl rfl Tryz.isAgg28 Tryz.sizeOf28 (by simp) (ld_rr (m := 6) (n := 6) (by simp) (by simp) rfl) rfl rfl ?_
          refine lx_call rfl rfl ent55 (fmul_pure _ _) rfl rfl ?_
          refine lx_nil ?_
          refine ⟨_, _, rfl, hGF, by intro x hx; simp only [List.mem_cons, List.not_mem_nil, or_false] at hx; rcases hx with rfl | rfl <;> rfl, by intro x hx; simp only [List.mem_cons, List.not_mem_nil, or_false] at hx; rcases hx with rfl | rfl <;> rfl, fun adr => ?_⟩
          refine lx_storea 7 hGF rfl rfl rfl Tryz.sizeOf28 (by simp) (by simp) (one_u64 _) rfl ?_
          refine lx_storea 8 hGF rfl rfl rfl Tryz.sizeOf28 (by simp) (by simp) (one_u64 _) rfl ?_
          refine lx_nil ?_
          refine xs_drawA (E := EE [2999999]) [0, 1, 2, 3, 4, 5] [⟨6, 9, 28, (List.replicate 6 0#64).map U64⟩] [7] mixed rfl (by kernel_rfl) (by kernel_rfl) (by kernel_rfl) (by kernel_rfl) (by kernel_rfl) (by kernel_rfl) (by decide) (by intro x hx; simp only [List.mem_cons, List.not_mem_nil, or_false] at hx; subst hx; exact isAlloc_mk rfl zv28 rfl) ?_
          refine lx_fak 0 rfl Tryz.underlying31 rfl Tryz.sizeOf28 (by decide) rfl rfl rfl ?_
          refine lx_loado 3 _ rfl rfl Tryz.isAgg28 Tryz.sizeOf28 (by simp) ld_l rfl rfl ?_
          refine lx_loada 5 rfl rfl Tryz.isAgg28 Tryz.sizeOf28 (by simp) rfl rfl ?_
          refine lx_call rfl rfl ent55 (fmul_pure _ _) rfl rfl ?_
          refine lx_loada 7 rfl rfl Tryz.isAgg28 Tryz.sizeOf28 (by simp) rfl rfl ?_
          refine lx_call rfl rfl ent62 (fsubE _ _) rfl rfl ?_
          refine lx_nil ?_
          refine ⟨_, _, rfl, hGF, by intro x hx; simp only [List.mem_cons, List.not_mem_nil, or_false] at hx; subst hx; rfl, by intro x hx; simp only [List.mem_cons, List.not_mem_nil, or_false] at hx; subst hx; rfl, fun adr => ?_⟩
          refine lx_storea 9 hGF rfl rfl rfl Tryz.sizeOf28 (by simp) (by simp) (one_u64 _) rfl ?_
          refine lx_nil ?_
          refine xs_drawA (E := EE [2999999]) [0, 1, 2, 3, 4, 5, 6, 7, 8] [⟨9, 10, 28, (List.replicate 6 0#64).map U64⟩] [10] mixed rfl (by kernel_rfl) (by kernel_rfl) (by kernel_rfl) (by kernel_rfl) (by kernel_rfl) (by kernel_rfl) (by decide) (by intro x hx; simp only [List.mem_cons, List.not_mem_nil, or_false] at hx; subst hx; exact isAlloc_mk rfl zv28 rfl) ?_
          refine lx_fak 6 rfl Tryz.underlying31 rfl Tryz.sizeOf28 (by decide) rfl rfl rfl ?_
          refine lx_loado 3 _ rfl rfl Tryz.isAgg28 Tryz.sizeOf28 (by simp) (ld_m (by simp)) rfl rfl ?_
          refine lx_loada 5 rfl rfl Tryz.isAgg28 Tryz.sizeOf28 (by simp) rfl rfl ?_
          refine lx_call rfl rfl ent55 (fmul_pure _ _) rfl rfl ?_
          refine lx_fak 12 rfl Tryz.underlying31 rfl Tryz.sizeOf28 (by decide) rfl rfl rfl ?_
          refine lx_loado 2 _ rfl rfl Tryz.isAgg28 Tryz.sizeOf28 (by simp) (ld_rr (m := 6) (n := 6) (by simp) (by simp) rfl) rfl rfl ?_
          refine lx_call rfl rfl ent55 (fmul_pure _ _) rfl rfl ?_
          refine lx_loada 8 rfl rfl Tryz.isAgg28 Tryz.sizeOf28 (by simp) rfl rfl ?_
          refine lx_call rfl rfl ent62 (fsubE _ _) rfl rfl ?_
          refine lx_nil ?_
          refine ⟨_, _, rfl, hGF, by intro x hx; simp only [List.mem_cons, List.not_mem_nil, or_false] at hx; subst hx; rfl, by intro x hx; simp only [List.mem_cons, List.not_mem_nil, or_false] at hx; subst hx; rfl, fun adr => ?_⟩
          refine lx_storea 10 hGF rfl rfl rfl Tryz.sizeOf28 (by simp) (by simp) (one_u64 _) rfl ?_
          refine lx_nil ?_
          refine x_seq ?_
          refine xs_plain (E := EE []) ?_
          refine lx_loada 9 rfl rfl Tryz.isAgg28 Tryz.sizeOf28 (by simp) rfl rfl ?_
          refine lx_callB true rfl rfl ent54 (fisZero_pure _) (decide_eq_true h3) rfl rfl ?_
          refine lx_move rfl rfl rfl ?_
          refine lx_loada 10 rfl rfl Tryz.isAgg28 Tryz.sizeOf28 (by simp) rfl rfl ?_
          refine lx_callB true rfl rfl ent54 (fisZero_pure _) (decide_eq_true h4) rfl rfl ?_
          refine lx_pick rfl rfl rfl rfl rfl ?_
          refine lx_nil ?_
          refine x_true rfl ?_
          refine xs_plain (E := EE []) ?_
          refine lx_loada 2 rfl rfl Tryz.isAgg31 Tryz.sizeOf31 (by simp) rfl rfl ?_
          refine lx_call rfl rfl ent25 (jdbl _) rfl rfl ?_
          refine lx_storea 4 hGF rfl rfl rfl Tryz.sizeOf31 (by simp) (by simp) (one_u64 _) rfl ?_
          refine lx_nil ?_
          refine x_ret ?_
          repeat (first | refine kseq_ret ?_ | refine kblk_ret ?_)
          exact kret_own 4 rfl rfl rfl Tryz.isAgg31 Tryz.sizeOf31 (by simp) (fun w hw => ⟨rfl, hp_below hw⟩)
        · skip
          rw [show adF x y = (0, 0, 0) from (if_neg h1).trans ((if_neg h2).trans ((if_pos h3).trans (if_neg h4)))]
          refine calls_of_X (G := Gt) Tryz.func19 rfl rfl (Hp (pl w) []) (hp_refl (pl w) trivial rides_true) (good_hp hGF) ?_
          refine xs_plain (E := EE []) ?_
          refine lx_boxr 2 hGF rfl rfl rfl ?_
          intro b2
          refine lx_boxr 3 hGF rfl rfl rfl ?_
          intro b3
          refine lx_allocr 4 hGF zj31 rfl rfl ?_
          intro b4
          refine lx_nil ?_
          refine x_seq ?_
          refine xs_plain (E := EE []) ?_
          refine lx_loada 2 rfl rfl Tryz.isAgg31 Tryz.sizeOf31 (by simp) rfl rfl ?_
          refine lx_callB false rfl rfl ent15 (jisInf _) (decide_eq_false h1) rfl rfl ?_
          refine lx_nil ?_
          refine x_false rfl ?_
          refine x_skip ?_
          refine x_seq ?_
          refine xs_plain (E := EE []) ?_
          refine lx_loada 3 rfl rfl Tryz.isAgg31 Tryz.sizeOf31 (by simp) rfl rfl ?_
          refine lx_callB false rfl rfl ent15 (jisInf _) (decide_eq_false h2) rfl rfl ?_
          refine lx_nil ?_
          refine x_false rfl ?_
          refine x_skip ?_
          refine xs_drawA (E := EE [2999999]) [0, 1, 2, 3, 4, 5] [⟨6, 5, 28, (List.replicate 6 0#64).map U64⟩, ⟨7, 6, 28, (List.replicate 6 0#64).map U64⟩] [8, 9] mixed rfl (by kernel_rfl) (by kernel_rfl) (by kernel_rfl) (by kernel_rfl) (by kernel_rfl) (by kernel_rfl) (by decide) (by intro x hx; simp only [List.mem_cons, List.not_mem_nil, or_false] at hx; rcases hx with rfl | rfl <;> exact isAlloc_mk rfl zv28 rfl) ?_
          refine lx_fak 12 rfl Tryz.underlying31 rfl Tryz.sizeOf28 (by decide) rfl rfl rfl ?_
          refine lx_loado 2 _ rfl rfl Tryz.isAgg28 Tryz.sizeOf28 (by simp) (ld_rr (m := 6) (n := 6) (by simp) (by simp) rfl) rfl rfl ?_
          refine lx_call rfl rfl ent57 (fsquare_pure _) rfl rfl ?_
          refine lx_fak 12 rfl Tryz.underlying31 rfl Tryz.sizeOf28 (by decide) rfl rfl rfl ?_
          refine lx_loado 3 _ rfl rfl Tryz.isAgg28 Tryz.sizeOf28 (by simp) (ld_rr (m := 6) (n := 6) (by simp) (by simp) rfl) rfl rfl ?_
          refine lx_call rfl rfl ent57 (fsquare_pure _) rfl rfl ?_
          refine lx_nil ?_
          refine ⟨_, _, rfl, hGF, by intro x hx; simp only [List.mem_cons, List.not_mem_nil, or_false] at hx; rcases hx with rfl | rfl <;> rfl, by intro x hx; simp only [List.mem_cons, List.not_mem_nil, or_false] at hx; rcases hx with rfl | rfl <;> rfl, fun adr => ?_⟩
          refine lx_storea 5 hGF rfl rfl rfl Tryz.sizeOf28 (by simp) (by simp) (one_u64 _) rfl ?_
          refine lx_storea 6 hGF rfl rfl rfl Tryz.sizeOf28 (by simp) (by simp) (one_u64 _) rfl ?_
          refine lx_nil ?_
          refine xs_drawA (E := EE [2999999]) [0, 1, 2, 3, 4, 5, 6, 7, 8, 9, 10] [⟨11, 7, 28, (List.replicate 6 0#64).map U64⟩, ⟨12, 8, 28, (List.replicate 6 0#64).map U64⟩] [13, 14] mixed rfl (by kernel_rfl) (by kernel_rfl) (by kernel_rfl) (by kernel_rfl) (by kernel_rfl) (by kernel_rfl) (by decide) (by intro x hx; simp only [List.mem_cons, List.not_mem_nil, or_false] at hx; rcases hx with rfl | rfl <;> exact isAlloc_mk rfl zv28 rfl) ?_
          refine lx_fak 0 rfl Tryz.underlying31 rfl Tryz.sizeOf28 (by decide) rfl rfl rfl ?_
          refine lx_loado 2 _ rfl rfl Tryz.isAgg28 Tryz.sizeOf28 (by simp) ld_l rfl rfl ?_
          refine lx_loada 6 rfl rfl Tryz.isAgg28 Tryz.sizeOf28 (by simp) rfl rfl ?_
          refine lx_call rfl rfl ent55 (fmul_pure _ _) rfl rfl ?_
          refine lx_fak 6 rfl Tryz.underlying31 rfl Tryz.sizeOf28 (by decide) rfl rfl rfl ?_
          refine lx_loado 2 _ rfl rfl Tryz.isAgg28 Tryz.sizeOf28 (by simp) (ld_m (by simp)) rfl rfl ?_
          refine lx_loada 6 rfl rfl Tryz.isAgg28 Tryz.sizeOf28 (by simp) rfl rfl ?_
          refine lx_call rfl rfl ent55 (fmul_pure _ _) rfl rfl ?_
          refine lx_fak 12 rfl Tryz.underlying31 rfl Tryz.sizeOf28 (by decide) rfl rfl rfl ?_
          refine lx_loado 3 _ rfl rfl Tryz.isAgg28 Tryz.sizeOf28 (by simp) (ld_rr (m := 6) (n := 6) (by simp) (by simp) rfl) rfl rfl ?_
          refine lx_call rfl rfl ent55 (fmul_pure _ _) rfl rfl ?_
          refine lx_nil ?_
          refine ⟨_, _, rfl, hGF, by intro x hx; simp only [List.mem_cons, List.not_mem_nil, or_false] at hx; rcases hx with rfl | rfl <;> rfl, by intro x hx; simp only [List.mem_cons, List.not_mem_nil, or_false] at hx; rcases hx with rfl | rfl <;> rfl, fun adr => ?_⟩
          refine lx_storea 7 hGF rfl rfl rfl Tryz.sizeOf28 (by simp) (by simp) (one_u64 _) rfl ?_
          refine lx_storea 8 hGF rfl rfl rfl Tryz.sizeOf28 (by simp) (by simp) (one_u64 _) rfl ?_
          refine lx_nil ?_
          refine xs_drawA (E := EE [2999999]) [0, 1, 2, 3, 4, 5] [⟨6, 9, 28, (List.replicate 6 0#64).map U64⟩] [7] mixed rfl (by kernel_rfl) (by kernel_rfl) (by kernel_rfl) (by kernel_rfl) (by kernel_rfl) (by kernel_rfl) (by decide) (by intro x hx; simp only [List.mem_cons, List.not_mem_nil, or_false] at hx; subst hx; exact isAlloc_mk rfl zv28 rfl) ?_
          refine lx_fak 0 rfl Tryz.underlying31 rfl Tryz.sizeOf28 (by decide) rfl rfl rfl ?_
          refine lx_loado 3 _ rfl rfl Tryz.isAgg28 Tryz.sizeOf28 (by simp) ld_l rfl rfl ?_
          refine lx_loada 5 rfl rfl Tryz.isAgg28 Tryz.sizeOf28 (by simp) rfl rfl ?_
          refine lx_call rfl rfl ent55 (fmul_pure _ _) rfl rfl ?_
          refine lx_loada 7 rfl rfl Tryz.isAgg28 Tryz.sizeOf28 (by simp) rfl rfl ?_
          refine lx_call rfl rfl ent62 (fsubE _ _) rfl rfl ?_
          refine lx_nil ?_
          refine ⟨_, _, rfl, hGF, by intro x hx; simp only [List.mem_cons, List.not_mem_nil, or_false] at hx; subst hx; rfl, by intro x hx; simp only [List.mem_cons, List.not_mem_nil, or_false] at hx; subst hx; rfl, fun adr => ?_⟩
          refine lx_storea 9 hGF rfl rfl rfl Tryz.sizeOf28 (by simp) (by simp) (one_u64 _) rfl ?_
          refine lx_nil ?_
          refine xs_drawA (E := EE [2999999]) [0, 1, 2, 3, 4, 5, 6, 7, 8] [⟨9, 10, 28, (List.replicate 6 0#64).map U64⟩] [10] mixed rfl (by kernel_rfl) (by kernel_rfl) (by kernel_rfl) (by kernel_rfl) (by kernel_rfl) (by kernel_rfl) (by decide) (by intro x hx; simp only [List.mem_cons, List.not_mem_nil, or_false] at hx; subst hx; exact isAlloc_mk rfl zv28 rfl) ?_
          refine lx_fak 6 rfl Tryz.underlying31 rfl Tryz.sizeOf28 (by decide) rfl rfl rfl ?_
          refine lx_loado 3 _ rfl rfl Tryz.isAgg28 Tryz.sizeOf28 (by simp) (ld_m (by simp)) rfl rfl ?_
          refine lx_loada 5 rfl rfl Tryz.isAgg28 Tryz.sizeOf28 (by simp) rfl rfl ?_
          refine lx_call rfl rfl ent55 (fmul_pure _ _) rfl rfl ?_
          refine lx_fak 12 rfl Tryz.underlying31 rfl Tryz.sizeOf28 (by decide) rfl rfl rfl ?_
          refine lx_loado 2 _ rfl rfl Tryz.isAgg28 Tryz.sizeOf28 (by simp) (ld_rr (m := 6) (n := 6) (by simp) (by simp) rfl) rfl rfl ?_
          refine lx_call rfl rfl ent55 (fmul_pure _ _) rfl rfl ?_
          refine lx_loada 8 rfl rfl Tryz.isAgg28 Tryz.sizeOf28 (by simp) rfl rfl ?_
          refine lx_call rfl rfl ent62 (fsubE _ _) rfl rfl ?_
          refine lx_nil ?_
          refine ⟨_, _, rfl, hGF, by intro x hx; simp only [List.mem_cons, List.not_mem_nil, or_false] at hx; subst hx; rfl, by intro x hx; simp only [List.mem_cons, List.not_mem_nil, or_false] at hx; subst hx; rfl, fun adr => ?_⟩
          refine lx_storea 10 hGF rfl rfl rfl Tryz.sizeOf28 (by simp) (by simp) (one_u64 _) rfl ?_
          refine lx_nil ?_
          refine x_seq ?_
          refine xs_plain (E := EE []) ?_
          refine lx_loada 9 rfl rfl Tryz.isAgg28 Tryz.sizeOf28 (by simp) rfl rfl ?_
          refine lx_callB true rfl rfl ent54 (fisZero_pure _) (decide_eq_true h3) rfl rfl ?_
          refine lx_move rfl rfl rfl ?_
          refine lx_loada 10 rfl rfl Tryz.isAgg28 Tryz.sizeOf28 (by simp) rfl rfl ?_
          refine lx_callB false rfl rfl ent54 (fisZero_pure _) (decide_eq_false h4) rfl rfl ?_
          refine lx_pick rfl rfl rfl rfl rfl ?_
          refine lx_nil ?_
          refine x_false rfl ?_
          refine x_skip ?_
          refine x_seq ?_
          refine xs_plain (E := EE []) ?_
          refine lx_loada 9 rfl rfl Tryz.isAgg28 Tryz.sizeOf28 (by simp) rfl rfl ?_
          refine lx_callB true rfl rfl ent54 (fisZero_pure _) (decide_eq_true h3) rfl rfl ?_
          refine lx_nil ?_
          refine x_true rfl ?_
          refine xs_plain (E := EE []) ?_
          refine lx_threeN three31 rfl rfl ?_
          refine lx_storea 4 hGF rfl rfl rfl Tryz.sizeOf31 (by simp) (by simp) (one_u64 _) rfl ?_
          refine lx_nil ?_
          refine x_ret ?_
          repeat (first | refine kseq_ret ?_ | refine kblk_ret ?_)
          exact kret_own 4 rfl rfl rfl Tryz.isAgg31 Tryz.sizeOf31 (by simp) (fun w hw => ⟨rfl, hp_below hw⟩)
      · skip
        rw [show adF x y = adG x y from (if_neg h1).trans ((if_neg h2).trans (if_neg h3))]
        refine calls_of_X (G := Gt) Tryz.func19 rfl rfl (Hp (pl w) []) (hp_refl (pl w) trivial rides_true) (good_hp hGF) ?_
        refine xs_plain (E := EE []) ?_
        refine lx_boxr 2 hGF rfl rfl rfl ?_
        intro b2
        refine lx_boxr 3 hGF rfl rfl rfl ?_
        intro b3
        refine lx_allocr 4 hGF zj31 rfl rfl ?_
        intro b4
        refine lx_nil ?_
        refine x_seq ?_
        refine xs_plain (E := EE []) ?_
        refine lx_loada 2 rfl rfl Tryz.isAgg31 Tryz.sizeOf31 (by simp) rfl rfl ?_
        refine lx_callB false rfl rfl ent15 (jisInf _) (decide_eq_false h1) rfl rfl ?_
        refine lx_nil ?_
        refine x_false rfl ?_
        refine x_skip ?_
        refine x_seq ?_
        refine xs_plain (E := EE []) ?_
        refine lx_loada 3 rfl rfl Tryz.isAgg31 Tryz.sizeOf31 (by simp) rfl rfl ?_
        refine lx_callB false rfl rfl ent15 (jisInf _) (decide_eq_false h2) rfl rfl ?_
        refine lx_nil ?_
        refine x_false rfl ?_
        refine x_skip ?_
        refine xs_drawA (E := EE [2999999]) [0, 1, 2, 3, 4, 5] [⟨6, 5, 28, (List.replicate 6 0#64).map U64⟩, ⟨7, 6, 28, (List.replicate 6 0#64).map U64⟩] [8, 9] mixed rfl (by kernel_rfl) (by kernel_rfl) (by kernel_rfl) (by kernel_rfl) (by kernel_rfl) (by kernel_rfl) (by decide) (by intro x hx; simp only [List.mem_cons, List.not_mem_nil, or_false] at hx; rcases hx with rfl | rfl <;> exact isAlloc_mk rfl zv28 rfl) ?_
        refine lx_fak 12 rfl Tryz.underlying31 rfl Tryz.sizeOf28 (by decide) rfl rfl rfl ?_
        refine lx_loado 2 _ rfl rfl Tryz.isAgg28 Tryz.sizeOf28 (by simp) (ld_rr (m := 6) (n := 6) (by simp) (by simp) rfl) rfl rfl ?_
        refine lx_call rfl rfl ent57 (fsquare_pure _) rfl rfl ?_
        refine lx_fak 12 rfl Tryz.underlying31 rfl Tryz.sizeOf28 (by decide) rfl rfl rfl ?_
        refine lx_loado 3 _ rfl rfl Tryz.isAgg28 Tryz.sizeOf28 (by simp) (ld_rr (m := 6) (n := 6) (by simp) (by simp) rfl) rfl rfl ?_
        refine lx_call rfl rfl ent57 (fsquare_pure _) rfl rfl ?_
        refine lx_nil ?_
        refine ⟨_, _, rfl, hGF, by intro x hx; simp only [List.mem_cons, List.not_mem_nil, or_false] at hx; rcases hx with rfl | rfl <;> rfl, by intro x hx; simp only [List.mem_cons, List.not_mem_nil, or_false] at hx; rcases hx with rfl | rfl <;> rfl, fun adr => ?_⟩
        refine lx_storea 5 hGF rfl rfl rfl Tryz.sizeOf28 (by simp) (by simp) (one_u64 _) rfl ?_
        refine lx_storea 6 hGF rfl rfl rfl Tryz.sizeOf28 (by simp) (by simp) (one_u64 _) rfl ?_
        refine lx_nil ?_
        refine xs_drawA (E := EE [2999999]) [0, 1, 2, 3, 4, 5, 6, 7, 8, 9, 10] [⟨11, 7, 28, (List.replicate 6 0#64).map U64⟩, ⟨12, 8, 28, (List.replicate 6 0#64).map U64⟩] [13, 14] mixed rfl (by kernel_rfl) (by kernel_rfl) (by kernel_rfl) (by kernel_rfl) (by kernel_rfl) (by kernel_rfl) (by decide) (by intro x hx; simp only [List.mem_cons, List.not_mem_nil, or_false] at hx; rcases hx with rfl | rfl <;> exact isAlloc_mk rfl zv28 rfl) ?_
        refine lx_fak 0 rfl Tryz.underlying31 rfl Tryz.sizeOf28 (by decide) rfl rfl rfl ?_
        refine lx_loado 2 _ rfl rfl Tryz.isAgg28 Tryz.sizeOf28 (by simp) ld_l rfl rfl ?_
        refine lx_loada 6 rfl rfl Tryz.isAgg28 Tryz.sizeOf28 (by simp) rfl rfl ?_
        refine lx_call rfl rfl ent55 (fmul_pure _ _) rfl rfl ?_
        refine lx_fak 6 rfl Tryz.underlying31 rfl Tryz.sizeOf28 (by decide) rfl rfl rfl ?_
        refine lx_loado 2 _ rfl rfl Tryz.isAgg28 Tryz.sizeOf28 (by simp) (ld_m (by simp)) rfl rfl ?_
        refine lx_loada 6 rfl rfl Tryz.isAgg28 Tryz.sizeOf28 (by simp) rfl rfl ?_
        refine lx_call rfl rfl ent55 (fmul_pure _ _) rfl rfl ?_
        refine lx_fak 12 rfl Tryz.underlying31 rfl Tryz.sizeOf28 (by decide) rfl rfl rfl ?_
        refine lx_loado 3 _ rfl rfl Tryz.isAgg28 Tryz.sizeOf28 (by simp) (ld_rr (m := 6) (n := 6) (by simp) (by simp) rfl) rfl rfl ?_
        refine lx_call rfl rfl ent55 (fmul_pure _ _) rfl rfl ?_
        refine lx_nil ?_
        refine ⟨_, _, rfl, hGF, by intro x hx; simp only [List.mem_cons, List.not_mem_nil, or_false] at hx; rcases hx with rfl | rfl <;> rfl, by intro x hx; simp only [List.mem_cons, List.not_mem_nil, or_false] at hx; rcases hx with rfl | rfl <;> rfl, fun adr => ?_⟩
        refine lx_storea 7 hGF rfl rfl rfl Tryz.sizeOf28 (by simp) (by simp) (one_u64 _) rfl ?_
        refine lx_storea 8 hGF rfl rfl rfl Tryz.sizeOf28 (by simp) (by simp) (one_u64 _) rfl ?_
        refine lx_nil ?_
        refine xs_drawA (E := EE [2999999]) [0, 1, 2, 3, 4, 5] [⟨6, 9, 28, (List.replicate 6 0#64).map U64⟩] [7] mixed rfl (by kernel_rfl) (by kernel_rfl) (by kernel_rfl) (by kernel_rfl) (by kernel_rfl) (by kernel_rfl) (by decide) (by intro x hx; simp only [List.mem_cons, List.not_mem_nil, or_false] at hx; subst hx; exact isAlloc_mk rfl zv28 rfl) ?_
        refine lx_fak 0 rfl Tryz.underlying31 rfl Tryz.sizeOf28 (by decide) rfl rfl rfl ?_
        refine lx_loado 3 _ rfl rfl Tryz.isAgg28 Tryz.sizeOf28 (by simp) ld_l rfl rfl ?_
        refine lx_loada 5 rfl rfl Tryz.isAgg28 Tryz.sizeOf28 (by simp) rfl rfl ?_
        refine lx_call rfl rfl ent55 (fmul_pure _ _) rfl rfl ?_
        refine lx_loada 7 rfl rfl Tryz.isAgg28 Tryz.sizeOf28 (by simp) rfl rfl ?_
        refine lx_call rfl rfl ent62 (fsubE _ _) rfl rfl ?_
        refine lx_nil ?_
        refine ⟨_, _, rfl, hGF, by intro x hx; simp only [List.mem_cons, List.not_mem_nil, or_false] at hx; subst hx; rfl, by intro x hx; simp only [List.mem_cons, List.not_mem_nil, or_false] at hx; subst hx; rfl, fun adr => ?_⟩
        refine lx_storea 9 hGF rfl rfl rfl Tryz.sizeOf28 (by simp) (by simp) (one_u64 _) rfl ?_
        refine lx_nil ?_
        refine xs_drawA (E := EE [2999999]) [0, 1, 2, 3, 4, 5, 6, 7, 8] [⟨9, 10, 28, (List.replicate 6 0#64).map U64⟩] [10] mixed rfl (by kernel_rfl) (by kernel_rfl) (by kernel_rfl) (by kernel_rfl) (by kernel_rfl) (by kernel_rfl) (by decide) (by intro x hx; simp only [List.mem_cons, List.not_mem_nil, or_false] at hx; subst hx; exact isAlloc_mk rfl zv28 rfl) ?_
        refine lx_fak 6 rfl Tryz.underlying31 rfl Tryz.sizeOf28 (by decide) rfl rfl rfl ?_
        refine lx_loado 3 _ rfl rfl Tryz.isAgg28 Tryz.sizeOf28 (by simp) (ld_m (by simp)) rfl rfl ?_
        refine lx_loada 5 rfl rfl Tryz.isAgg28 Tryz.sizeOf28 (by simp) rfl rfl ?_
        refine lx_call rfl rfl ent55 (fmul_pure _ _) rfl rfl ?_
        refine lx_fak 12 rfl Tryz.underlying31 rfl Tryz.sizeOf28 (by decide) rfl rfl rfl ?_
        refine lx_loado 2 _ rfl rfl Tryz.isAgg28 Tryz.sizeOf28 (by simp) (ld_rr (m := 6) (n := 6) (by simp) (by simp) rfl) rfl rfl ?_
        refine lx_call rfl rfl ent55 (fmul_pure _ _) rfl rfl ?_
        refine lx_loada 8 rfl rfl Tryz.isAgg28 Tryz.sizeOf28 (by simp) rfl rfl ?_
        refine lx_call rfl rfl ent62 (fsubE _ _) rfl rfl ?_
        refine lx_nil ?_
        refine ⟨_, _, rfl, hGF, by intro x hx; simp only [List.mem_cons, List.not_mem_nil, or_false] at hx; subst hx; rfl, by intro x hx; simp only [List.mem_cons, List.not_mem_nil, or_false] at hx; subst hx; rfl, fun adr => ?_⟩
        refine lx_storea 10 hGF rfl rfl rfl Tryz.sizeOf28 (by simp) (by simp) (one_u64 _) rfl ?_
        refine lx_nil ?_
        refine x_seq ?_
        refine xs_plain (E := EE []) ?_
        refine lx_loada 9 rfl rfl Tryz.isAgg28 Tryz.sizeOf28 (by simp) rfl rfl ?_
        refine lx_callB false rfl rfl ent54 (fisZero_pure _) (decide_eq_false h3) rfl rfl ?_
        refine lx_move rfl rfl rfl ?_
        refine lx_skip rfl rfl rfl ?_
        refine lx_skip rfl rfl rfl ?_
        refine lx_pick rfl rfl rfl rfl rfl ?_
        refine lx_nil ?_
        refine x_false rfl ?_
        refine x_skip ?_
        refine x_seq ?_
        refine xs_plain (E := EE []) ?_
        refine lx_loada 9 rfl rfl Tryz.isAgg28 Tryz.sizeOf28 (by simp) rfl rfl ?_
        refine lx_callB false rfl rfl ent54 (fisZero_pure _) (decide_eq_false h3) rfl rfl ?_
        refine lx_nil ?_
        refine x_false rfl ?_
        refine x_skip ?_
        refine xs_plain (E := EE []) ?_
        refine lx_loada 9 rfl rfl Tryz.isAgg28 Tryz.sizeOf28 (by simp) rfl rfl ?_
        refine lx_call rfl rfl ent57 (fsquare_pure _) rfl rfl ?_
        refine lx_allocr 11 hGF zv28 rfl rfl ?_
        intro b11
        refine lx_storea 11 hGF rfl rfl rfl Tryz.sizeOf28 (by simp) (by simp) (one_u64 _) rfl ?_
        refine lx_nil ?_
        refine xs_drawA (E := EE [2999999]) [0, 1, 2, 3, 4, 5] [⟨6, 12, 28, (List.replicate 6 0#64).map U64⟩, ⟨7, 13, 28, (List.replicate 6 0#64).map U64⟩] [8, 9] mixed rfl (by kernel_rfl) (by kernel_rfl) (by kernel_rfl) (by kernel_rfl) (by kernel_rfl) (by kernel_rfl) (by decide) (by intro x hx; simp only [List.mem_cons, List.not_mem_nil, or_false] at hx; rcases hx with rfl | rfl <;> exact isAlloc_mk rfl zv28 rfl) ?_
        refine lx_loada 11 rfl rfl Tryz.isAgg28 Tryz.sizeOf28 (by simp) rfl rfl ?_
        refine lx_loada 9 rfl rfl Tryz.isAgg28 Tryz.sizeOf28 (by simp) rfl rfl ?_
        refine lx_call rfl rfl ent55 (fmul_pure _ _) rfl rfl ?_
        refine lx_loada 11 rfl rfl Tryz.isAgg28 Tryz.sizeOf28 (by simp) rfl rfl ?_
        refine lx_loada 7 rfl rfl Tryz.isAgg28 Tryz.sizeOf28 (by simp) rfl rfl ?_
        refine lx_call rfl rfl ent55 (fmul_pure _ _) rfl rfl ?_
        refine lx_nil ?_
        refine ⟨_, _, rfl, hGF, by intro x hx; simp only [List.mem_cons, List.not_mem_nil, or_false] at hx; rcases hx with rfl | rfl <;> rfl, by intro x hx; simp only [List.mem_cons, List.not_mem_nil, or_false] at hx; rcases hx with rfl | rfl <;> rfl, fun adr => ?_⟩
        refine lx_storea 12 hGF rfl rfl rfl Tryz.sizeOf28 (by simp) (by simp) (one_u64 _) rfl ?_
        refine lx_storea 13 hGF rfl rfl rfl Tryz.sizeOf28 (by simp) (by simp) (one_u64 _) rfl ?_
        refine lx_nil ?_
        refine xs_drawn (E := EE []) mixed (by kernel_rfl) (by kernel_rfl) (by kernel_rfl) ?_
        refine lx_loada 10 rfl rfl Tryz.isAgg28 Tryz.sizeOf28 (by simp) rfl rfl ?_
        refine lx_call rfl rfl ent57 (fsquare_pure _) rfl rfl ?_
        refine lx_loada 12 rfl rfl Tryz.isAgg28 Tryz.sizeOf28 (by simp) rfl rfl ?_
        refine lx_call rfl rfl ent62 (fsubE _ _) rfl rfl ?_
        refine lx_loada 13 rfl rfl Tryz.isAgg28 Tryz.sizeOf28 (by simp) rfl rfl ?_
        refine lx_call rfl rfl ent62 (fsubE _ _) rfl rfl ?_
        refine lx_loada 13 rfl rfl Tryz.isAgg28 Tryz.sizeOf28 (by simp) rfl rfl ?_
        refine lx_call rfl rfl ent62 (fsubE _ _) rfl rfl ?_
        refine lx_storea 7 hGF rfl rfl rfl Tryz.sizeOf28 (by simp) (by simp) (one_u64 _) rfl ?_
        refine lx_nil ?_
        refine xs_drawn (E := EE []) mixed (by kernel_rfl) (by kernel_rfl) (by kernel_rfl) ?_
        refine lx_loada 10 rfl rfl Tryz.isAgg28 Tryz.sizeOf28 (by simp) rfl rfl ?_
        refine lx_loada 13 rfl rfl Tryz.isAgg28 Tryz.sizeOf28 (by simp) rfl rfl ?_
        refine lx_loada 7 rfl rfl Tryz.isAgg28 Tryz.sizeOf28 (by simp) rfl rfl ?_
        refine lx_call rfl rfl ent62 (fsubE _ _) rfl rfl ?_
        refine lx_call rfl rfl ent55 (fmul_pure _ _) rfl rfl ?_
        refine lx_loada 12 rfl rfl Tryz.isAgg28 Tryz.sizeOf28 (by simp) rfl rfl ?_
        refine lx_loada 8 rfl rfl Tryz.isAgg28 Tryz.sizeOf28 (by simp) rfl rfl ?_
        refine lx_call rfl rfl ent55 (fmul_pure _ _) rfl rfl ?_
        refine lx_call rfl rfl ent62 (fsubE _ _) rfl rfl ?_
        refine lx_storea 8 hGF rfl rfl rfl Tryz.sizeOf28 (by simp) (by simp) (one_u64 _) rfl ?_
        refine lx_nil ?_
        refine xs_drawn (E := EE []) mixed (by kernel_rfl) (by kernel_rfl) (by kernel_rfl) ?_
        refine lx_loada 7 rfl rfl Tryz.isAgg28 Tryz.sizeOf28 (by simp) rfl rfl ?_
        refine lx_loada 8 rfl rfl Tryz.isAgg28 Tryz.sizeOf28 (by simp) rfl rfl ?_
        refine lx_fak 12 rfl Tryz.underlying31 rfl Tryz.sizeOf28 (by decide) rfl rfl rfl ?_
        refine lx_loado 2 _ rfl rfl Tryz.isAgg28 Tryz.sizeOf28 (by simp) (ld_rr (m := 6) (n := 6) (by simp) (by simp) rfl) rfl rfl ?_
        refine lx_fak 12 rfl Tryz.underlying31 rfl Tryz.sizeOf28 (by decide) rfl rfl rfl ?_
        refine lx_loado 3 _ rfl rfl Tryz.isAgg28 Tryz.sizeOf28 (by simp) (ld_rr (m := 6) (n := 6) (by simp) (by simp) rfl) rfl rfl ?_
        refine lx_call rfl rfl ent55 (fmul_pure _ _) rfl rfl ?_
        refine lx_loada 9 rfl rfl Tryz.isAgg28 Tryz.sizeOf28 (by simp) rfl rfl ?_
        refine lx_call rfl rfl ent55 (fmul_pure _ _) rfl rfl ?_
        refine lx_three012 three31 rfl rfl rfl (by simp) (by simp) (by simp) rfl rfl ?_
        refine lx_storea 4 hGF rfl rfl rfl Tryz.sizeOf31 (by simp) (by simp) (one_u64 _) rfl ?_
        refine lx_nil ?_
        refine x_ret ?_
        repeat (first | refine kseq_ret ?_ | refine kblk_ret ?_)
        exact kret_own 4 rfl rfl rfl Tryz.isAgg31 Tryz.sizeOf31 (by simp) (fun w hw => ⟨rfl, hp_below hw⟩)
theorem z_assoc3 (a b : Zp) : a * (b * b) * b = a * (b * b * b) := by grind
/-- Are they one point? as the program asks. -/
def eqJ (x y : Zp × Zp × Zp) : Prop := (x.2.2 = 0 ∧ y.2.2 = 0) ∨ (¬ x.2.2 = 0 ∧ ¬ y.2.2 = 0 ∧ x.1 * (y.2.2 * y.2.2) = y.1 * (x.2.2 * x.2.2) ∧ x.2.1 * (y.2.2 * y.2.2 * y.2.2) = y.2.1 * (x.2.2 * x.2.2 * x.2.2))
theorem same_iff' {p q : Zp × Zp} {x y : Zp × Zp × Zp} (h : E1.jr x (some p)) (k : E1.jr y (some q)) : (x.1 * (y.2.2 * y.2.2) = y.1 * (x.2.2 * x.2.2) ↔ p.1 = q.1) ∧ (x.2.1 * (y.2.2 * y.2.2 * y.2.2) = y.2.1 * (x.2.2 * x.2.2 * x.2.2) ↔ p.2 = q.2) := by
  have s := same_iff h k
  rw [z_assoc3, z_assoc3] at s
  exact s
theorem eqJ_iff {x y : Zp × Zp × Zp} {P Q : Pt Zp} (h : E1.jr x P) (k : E1.jr y Q) : eqJ x y ↔ P = Q := by
  cases P with
  | none =>
    cases Q with
    | none => exact ⟨fun _ => rfl, fun _ => .inl ⟨h, k⟩⟩
    | some q => exact ⟨fun e => e.elim (fun e => absurd e.2 k.1) (fun e => absurd h e.1), fun e => by cases e⟩
  | some p =>
    cases Q with
    | none => exact ⟨fun e => e.elim (fun e => absurd e.1 h.1) (fun e => absurd k e.2.1), fun e => by cases e⟩
    | some q =>
      have s := same_iff' h k
      exact ⟨fun e => e.elim (fun e => absurd e.1 h.1) (fun e => congrArg some (Prod.ext (s.1.1 e.2.2.1) (s.2.1 e.2.2.2))), fun e => .inr ⟨h.1, k.1, s.1.2 (congrArg Prod.fst (Option.some.inj e)), s.2.2 (congrArg Prod.snd (Option.some.inj e))⟩⟩
theorem jequal (x y : Zp × Zp × Zp) (hd : Decidable (eqJ x y)) (b : Bool) (hb : b = decide (eqJ x y)) : Pure Tryz.prog Gt 16 [JV x, JV y] (.bool b) := by
  intro w hw
  have hGF : BOk Gt (pl w) := gt_low.plain hw
  by_cases h1 : x.2.2 = 0
  · skip
    by_cases h2 : y.2.2 = 0
    · skip
      obtain rfl : b = true := hb.trans (decide_eq_true (.inl ⟨h1, h2⟩))
      refine calls_of_X (G := Gt) Tryz.func16 rfl rfl (Hp (pl w) []) (hp_refl (pl w) trivial rides_true) (good_hp hGF) ?_
      refine xs_plain (E := EE []) ?_
      refine lx_boxr 2 hGF rfl rfl rfl ?_
      intro b2
      refine lx_boxr 3 hGF rfl rfl rfl ?_
      intro b3
      refine lx_assign rfl rfl rfl ?_
      refine lx_nil ?_
      refine x_seq ?_
      refine xs_plain (E := EE []) ?_
      refine lx_loada 2 rfl rfl Tryz.isAgg31 Tryz.sizeOf31 (by simp) rfl rfl ?_
      refine lx_callB true rfl rfl ent15 (jisInf _) (decide_eq_true h1) rfl rfl ?_
      refine lx_move rfl rfl rfl ?_
      refine lx_skip rfl rfl rfl ?_
      refine lx_skip rfl rfl rfl ?_
      refine lx_pick rfl rfl rfl rfl rfl ?_
      refine lx_nil ?_
      refine x_true rfl ?_
      refine xs_plain (E := EE []) ?_
      refine lx_loada 2 rfl rfl Tryz.isAgg31 Tryz.sizeOf31 (by simp) rfl rfl ?_
      refine lx_callB true rfl rfl ent15 (jisInf _) (decide_eq_true h1) rfl rfl ?_
      refine lx_move rfl rfl rfl ?_
      refine lx_loada 3 rfl rfl Tryz.isAgg31 Tryz.sizeOf31 (by simp) rfl rfl ?_
      refine lx_callB true rfl rfl ent15 (jisInf _) (decide_eq_true h2) rfl rfl ?_
      refine lx_pick rfl rfl rfl rfl rfl ?_
      refine lx_assign rfl rfl rfl ?_
      refine lx_nil ?_
      refine x_ret ?_
      repeat (first | refine kseq_ret ?_ | refine kblk_ret ?_)
      exact kret_tmp rfl rfl (fun w hw => ⟨rfl, hp_below hw⟩)
    · skip
      obtain rfl : b = false := hb.trans (decide_eq_false (fun e => e.elim (fun e => h2 e.2) (fun e => e.1 h1)))
      refine calls_of_X (G := Gt) Tryz.func16 rfl rfl (Hp (pl w) []) (hp_refl (pl w) trivial rides_true) (good_hp hGF) ?_
      refine xs_plain (E := EE []) ?_
      refine lx_boxr 2 hGF rfl rfl rfl ?_
      intro b2
      refine lx_boxr 3 hGF rfl rfl rfl ?_
      intro b3
      refine lx_assign rfl rfl rfl ?_
      refine lx_nil ?_
      refine x_seq ?_
      refine xs_plain (E := EE []) ?_
      refine lx_loada 2 rfl rfl Tryz.isAgg31 Tryz.sizeOf31 (by simp) rfl rfl ?_
      refine lx_callB true rfl rfl ent15 (jisInf _) (decide_eq_true h1) rfl rfl ?_
      refine lx_move rfl rfl rfl ?_
      refine lx_skip rfl rfl rfl ?_
      refine lx_skip rfl rfl rfl ?_
      refine lx_pick rfl rfl rfl rfl rfl ?_
      refine lx_nil ?_
      refine x_true rfl ?_
      refine xs_plain (E := EE []) ?_
      refine lx_loada 2 rfl rfl Tryz.isAgg31 Tryz.sizeOf31 (by simp) rfl rfl ?_
      refine lx_callB true rfl rfl ent15 (jisInf _) (decide_eq_true h1) rfl rfl ?_
      refine lx_move rfl rfl rfl ?_
      refine lx_loada 3 rfl rfl Tryz.isAgg31 Tryz.sizeOf31 (by simp) rfl rfl ?_
      refine lx_callB false rfl rfl ent15 (jisInf _) (decide_eq_false h2) rfl rfl ?_
      refine lx_pick rfl rfl rfl rfl rfl ?_
      refine lx_assign rfl rfl rfl ?_
      refine lx_nil ?_
      refine x_ret ?_
      repeat (first | refine kseq_ret ?_ | refine kblk_ret ?_)
      exact kret_tmp rfl rfl (fun w hw => ⟨rfl, hp_below hw⟩)
  · skip
    by_cases h2 : y.2.2 = 0
    · skip
      obtain rfl : b = false := hb.trans (decide_eq_false (fun e => e.elim (fun e => h1 e.1) (fun e => e.2.1 h2)))
      refine calls_of_X (G := Gt) Tryz.func16 rfl rfl (Hp (pl w) []) (hp_refl (pl w) trivial rides_true) (good_hp hGF) ?_
      refine xs_plain (E := EE []) ?_
      refine lx_boxr 2 hGF rfl rfl rfl ?_
      intro b2
      refine lx_boxr 3 hGF rfl rfl rfl ?_
      intro b3
      refine lx_assign rfl rfl rfl ?_
      refine lx_nil ?_
      refine x_seq ?_
      refine xs_plain (E := EE []) ?_
      refine lx_loada 2 rfl rfl Tryz.isAgg31 Tryz.sizeOf31 (by simp) rfl rfl ?_
      refine lx_callB false rfl rfl ent15 (jisInf _) (decide_eq_false h1) rfl rfl ?_
      refine lx_move rfl rfl rfl ?_
      refine lx_loada 3 rfl rfl Tryz.isAgg31 Tryz.sizeOf31 (by simp) rfl rfl ?_
      refine lx_callB true rfl rfl ent15 (jisInf _) (decide_eq_true h2) rfl rfl ?_
      refine lx_pick rfl rfl rfl rfl rfl ?_
      refine lx_nil ?_
      refine x_true rfl ?_
      refine xs_plain (E := EE []) ?_
      refine lx_loada 2 rfl rfl Tryz.isAgg31 Tryz.sizeOf31 (by simp) rfl rfl ?_
      refine lx_callB false rfl rfl ent15 (jisInf _) (decide_eq_false h1) rfl rfl ?_
      refine lx_move rfl rfl rfl ?_
      refine lx_skip rfl rfl rfl ?_
      refine lx_skip rfl rfl rfl ?_
      refine lx_pick rfl rfl rfl rfl rfl ?_
      refine lx_assign rfl rfl rfl ?_
      refine lx_nil ?_
      refine x_ret ?_
      repeat (first | refine kseq_ret ?_ | refine kblk_ret ?_)
      exact kret_tmp rfl rfl (fun w hw => ⟨rfl, hp_below hw⟩)
    · skip
      by_cases h3 : x.1 * (y.2.2 * y.2.2) = y.1 * (x.2.2 * x.2.2)
      · skip
        by_cases h4 : x.2.1 * (y.2.2 * y.2.2 * y.2.2) = y.2.1 * (x.2.2 * x.2.2 * x.2.2)
        · skip
          obtain rfl : b = true := hb.trans (decide_eq_true (.inr ⟨h1, h2, h3, h4⟩))
          refine calls_of_X (G := Gt) Tryz.func16 rfl rfl (Hp (pl w) []) (hp_refl (pl w) trivial rides_true) (good_hp hGF) ?_
          refine xs_plain (E := EE []) ?_
          refine lx_boxr 2 hGF rfl rfl rfl ?_
          intro b2
          refine lx_boxr 3 hGF rfl rfl rfl ?_
          intro b3
          refine lx_assign rfl rfl rfl ?_
          refine lx_nil ?_
          refine x_seq ?_
          refine xs_plain (E := EE []) ?_
          refine lx_loada 2 rfl rfl Tryz.isAgg31 Tryz.sizeOf31 (by simp) rfl rfl ?_
          refine lx_callB false rfl rfl ent15 (jisInf _) (decide_eq_false h1) rfl rfl ?_
          refine lx_move rfl rfl rfl ?_
          refine lx_loada 3 rfl rfl Tryz.isAgg31 Tryz.sizeOf31 (by simp) rfl rfl ?_
          refine lx_callB false rfl rfl ent15 (jisInf _) (decide_eq_false h2) rfl rfl ?_
          refine lx_pick rfl rfl rfl rfl rfl ?_
          refine lx_nil ?_
          refine x_false rfl ?_
          refine x_skip ?_
          refine xs_drawA (E := EE [2999999]) [0, 1, 2, 3, 4, 5, 6, 7, 8, 9, 10, 11] [⟨12, 5, 28, (List.replicate 6 0#64).map U64⟩, ⟨13, 6, 28, (List.replicate 6 0#64).map U64⟩] [14, 15] mixed rfl (by kernel_rfl) (by kernel_rfl) (by kernel_rfl) (by kernel_rfl) (by kernel_rfl) (by kernel_rfl) (by decide) (by intro x hx; simp only [List.mem_cons, List.not_mem_nil, or_false] at hx; rcases hx with rfl | rfl <;> exact isAlloc_mk rfl zv28 rfl) ?_
          refine lx_fak 6 rfl Tryz.underlying31 rfl Tryz.sizeOf28 (by decide) rfl rfl rfl ?_
          refine lx_loado 2 _ rfl rfl Tryz.isAgg28 Tryz.sizeOf28 (by simp) (ld_m (by simp)) rfl rfl ?_
          refine lx_fak 12 rfl Tryz.underlying31 rfl Tryz.sizeOf28 (by decide) rfl rfl rfl ?_
          refine lx_loado 3 _ rfl rfl Tryz.isAgg28 Tryz.sizeOf28 (by simp) (ld_rr (m := 6) (n := 6) (by simp) (by simp) rfl) rfl rfl ?_
          refine lx_call rfl rfl ent56 (jcube _) rfl rfl ?_
          refine lx_call rfl rfl ent55 (fmul_pure _ _) rfl rfl ?_
          refine lx_fak 6 rfl Tryz.underlying31 rfl Tryz.sizeOf28 (by decide) rfl rfl rfl ?_
          refine lx_loado 3 _ rfl rfl Tryz.isAgg28 Tryz.sizeOf28 (by simp) (ld_m (by simp)) rfl rfl ?_
          refine lx_fak 12 rfl Tryz.underlying31 rfl Tryz.sizeOf28 (by decide) rfl rfl rfl ?_
          refine lx_loado 2 _ rfl rfl Tryz.isAgg28 Tryz.sizeOf28 (by simp) (ld_rr (m := 6) (n := 6) (by simp) (by simp) rfl) rfl rfl ?_
          refine lx_call rfl rfl ent56 (jcube _) rfl rfl ?_
          refine lx_call rfl rfl ent55 (fmul_pure _ _) rfl rfl ?_
          refine lx_nil ?_
          refine ⟨_, _, rfl, hGF, by intro x hx; simp only [List.mem_cons, List.not_mem_nil, or_false] at hx; rcases hx with rfl | rfl <;> rfl, by intro x hx; simp only [List.mem_cons, List.not_mem_nil, or_false] at hx; rcases hx with rfl | rfl <;> rfl, fun adr => ?_⟩
          refine lx_storea 5 hGF rfl rfl rfl Tryz.sizeOf28 (by simp) (by simp) (one_u64 _) rfl ?_
          refine lx_storea 6 hGF rfl rfl rfl Tryz.sizeOf28 (by simp) (by simp) (one_u64 _) rfl ?_
          refine lx_nil ?_
          refine xs_drawn (E := EE []) mixed (by kernel_rfl) (by kernel_rfl) (by kernel_rfl) ?_
          refine lx_fak 0 rfl Tryz.underlying31 rfl Tryz.sizeOf28 (by decide) rfl rfl rfl ?_
          refine lx_loado 2 _ rfl rfl Tryz.isAgg28 Tryz.sizeOf28 (by simp) ld_l rfl rfl ?_
          refine lx_fak 12 rfl Tryz.underlying31 rfl Tryz.sizeOf28 (by decide) rfl rfl rfl ?_
          refine lx_loado 3 _ rfl rfl Tryz.isAgg28 Tryz.sizeOf28 (by simp) (ld_rr (m := 6) (n := 6) (by simp) (by simp) rfl) rfl rfl ?_
          refine lx_call rfl rfl ent57 (fsquare_pure _) rfl rfl ?_
          refine lx_call rfl rfl ent55 (fmul_pure _ _) rfl rfl ?_
          refine lx_fak 0 rfl Tryz.underlying31 rfl Tryz.sizeOf28 (by decide) rfl rfl rfl ?_
          refine lx_loado 3 _ rfl rfl Tryz.isAgg28 Tryz.sizeOf28 (by simp) ld_l rfl rfl ?_
          refine lx_fak 12 rfl Tryz.underlying31 rfl Tryz.sizeOf28 (by decide) rfl rfl rfl ?_
          refine lx_loado 2 _ rfl rfl Tryz.isAgg28 Tryz.sizeOf28 (by simp) (ld_rr (m := 6) (n := 6) (by simp) (by simp) rfl) rfl rfl ?_
          refine lx_call rfl rfl ent57 (fsquare_pure _) rfl rfl ?_
          refine lx_call rfl rfl ent55 (fmul_pure _ _) rfl rfl ?_
          refine lx_callB true rfl rfl ent58 (fequal_pure _ _) (decide_eq_true h3) rfl rfl ?_
          refine lx_move rfl rfl rfl ?_
          refine lx_loada 5 rfl rfl Tryz.isAgg28 Tryz.sizeOf28 (by simp) rfl rfl ?_
          refine lx_loada 6 rfl rfl Tryz.isAgg28 Tryz.sizeOf28 (by simp) rfl rfl ?_
          refine lx_callB true rfl rfl ent58 (fequal_pure _ _) (decide_eq_true h4) rfl rfl ?_
          refine lx_pick rfl rfl rfl rfl rfl ?_
          refine lx_assign rfl rfl rfl ?_
          refine lx_nil ?_
          refine x_ret ?_
          repeat (first | refine kseq_ret ?_ | refine kblk_ret ?_)
          exact kret_tmp rfl rfl (fun w hw => ⟨rfl, hp_below hw⟩)
        · skip
          obtain rfl : b = false := hb.trans (decide_eq_false (fun e => e.elim (fun e => h1 e.1) (fun e => h4 e.2.2.2)))
          refine calls_of_X (G := Gt) Tryz.func16 rfl rfl (Hp (pl w) []) (hp_refl (pl w) trivial rides_true) (good_hp hGF) ?_
          refine xs_plain (E := EE []) ?_
          refine lx_boxr 2 hGF rfl rfl rfl ?_
          intro b2
          refine lx_boxr 3 hGF rfl rfl rfl ?_
          intro b3
          refine lx_assign rfl rfl rfl ?_
          refine lx_nil ?_
          refine x_seq ?_
          refine xs_plain (E := EE []) ?_
          refine lx_loada 2 rfl rfl Tryz.isAgg31 Tryz.sizeOf31 (by simp) rfl rfl ?_
          refine lx_callB false rfl rfl ent15 (jisInf _) (decide_eq_false h1) rfl rfl ?_
          refine lx_move rfl rfl rfl ?_
          refine lx_loada 3 rfl rfl Tryz.isAgg31 Tryz.sizeOf31 (by simp) rfl rfl ?_
          refine lx_callB false rfl rfl ent15 (jisInf _) (decide_eq_false h2) rfl rfl ?_
          refine lx_pick rfl rfl rfl rfl rfl ?_
          refine lx_nil ?_
          refine x_false rfl ?_
          refine x_skip ?_
          refine xs_drawA (E := EE [2999999]) [0, 1, 2, 3, 4, 5, 6, 7, 8, 9, 10, 11] [⟨12, 5, 28, (List.replicate 6 0#64).map U64⟩, ⟨13, 6, 28, (List.replicate 6 0#64).map U64⟩] [14, 15] mixed rfl (by kernel_rfl) (by kernel_rfl) (by kernel_rfl) (by kernel_rfl) (by kernel_rfl) (by kernel_rfl) (by decide) (by intro x hx; simp only [List.mem_cons, List.not_mem_nil, or_false] at hx; rcases hx with rfl | rfl <;> exact isAlloc_mk rfl zv28 rfl) ?_
          refine lx_fak 6 rfl Tryz.underlying31 rfl Tryz.sizeOf28 (by decide) rfl rfl rfl ?_
          refine lx_loado 2 _ rfl rfl Tryz.isAgg28 Tryz.sizeOf28 (by simp) (ld_m (by simp)) rfl rfl ?_
          refine lx_fak 12 rfl Tryz.underlying31 rfl Tryz.sizeOf28 (by decide) rfl rfl rfl ?_
          refine lx_loado 3 _ rfl rfl Tryz.isAgg28 Tryz.sizeOf28 (by simp) (ld_rr (m := 6) (n := 6) (by simp) (by simp) rfl) rfl rfl ?_
          refine lx_call rfl rfl ent56 (jcube _) rfl rfl ?_
          refine lx_call rfl rfl ent55 (fmul_pure _ _) rfl rfl ?_
          refine lx_fak 6 rfl Tryz.underlying31 rfl Tryz.sizeOf28 (by decide) rfl rfl rfl ?_
          refine lx_loado 3 _ rfl rfl Tryz.isAgg28 Tryz.sizeOf28 (by simp) (ld_m (by simp)) rfl rfl ?_
          refine lx_fak 12 rfl Tryz.underlying31 rfl Tryz.sizeOf28 (by decide) rfl rfl rfl ?_
          refine lx_loado 2 _ rfl rfl Tryz.isAgg28 Tryz.sizeOf28 (by simp) (ld_rr (m := 6) (n := 6) (by simp) (by simp) rfl) rfl rfl ?_
          refine lx_call rfl rfl ent56 (jcube _) rfl rfl ?_
          refine lx_call rfl rfl ent55 (fmul_pure _ _) rfl rfl ?_
          refine lx_nil ?_
          refine ⟨_, _, rfl, hGF, by intro x hx; simp only [List.mem_cons, List.not_mem_nil, or_false] at hx; rcases hx with rfl | rfl <;> rfl, by intro x hx; simp only [List.mem_cons, List.not_mem_nil, or_false] at hx; rcases hx with rfl | rfl <;> rfl, fun adr => ?_⟩
          refine lx_storea 5 hGF rfl rfl rfl Tryz.sizeOf28 (by simp) (by simp) (one_u64 _) rfl ?_
          refine lx_storea 6 hGF rfl rfl rfl Tryz.sizeOf28 (by simp) (by simp) (one_u64 _) rfl ?_
          refine lx_nil ?_
          refine xs_drawn (E := EE []) mixed (by kernel_rfl) (by kernel_rfl) (by kernel_rfl) ?_
          refine lx_fak 0 rfl Tryz.underlying31 rfl Tryz.sizeOf28 (by decide) rfl rfl rfl ?_
          refine lx_loado 2 _ rfl rfl Tryz.isAgg28 Tryz.sizeOf28 (by simp) ld_l rfl rfl ?_
          refine lx_fak 12 rfl Tryz.underlying31 rfl Tryz.sizeOf28 (by decide) rfl rfl rfl ?_
          refine lx_loado 3 _ rfl rfl Tryz.isAgg28 Tryz.sizeOf28 (by simp) (ld_rr (m := 6) (n := 6) (by simp) (by simp) rfl) rfl rfl ?_
          refine lx_call rfl rfl ent57 (fsquare_pure _) rfl rfl ?_
          refine lx_call rfl rfl ent55 (fmul_pure _ _) rfl rfl ?_
          refine lx_fak 0 rfl Tryz.underlying31 rfl Tryz.sizeOf28 (by decide) rfl rfl rfl ?_
          refine lx_loado 3 _ rfl rfl Tryz.isAgg28 Tryz.sizeOf28 (by simp) ld_l rfl rfl ?_
          refine lx_fak 12 rfl Tryz.underlying31 rfl Tryz.sizeOf28 (by decide) rfl rfl rfl ?_
          refine lx_loado 2 _ rfl rfl Tryz.isAgg28 Tryz.sizeOf28 (by simp) (ld_rr (m := 6) (n := 6) (by simp) (by simp) rfl) rfl rfl ?_
          refine lx_call rfl rfl ent57 (fsquare_pure _) rfl rfl ?_
          refine lx_call rfl rfl ent55 (fmul_pure _ _) rfl rfl ?_
          refine lx_callB true rfl rfl ent58 (fequal_pure _ _) (decide_eq_true h3) rfl rfl ?_
          refine lx_move rfl rfl rfl ?_
          refine lx_loada 5 rfl rfl Tryz.isAgg28 Tryz.sizeOf28 (by simp) rfl rfl ?_
          refine lx_loada 6 rfl rfl Tryz.isAgg28 Tryz.sizeOf28 (by simp) rfl rfl ?_
          refine lx_callB false rfl rfl ent58 (fequal_pure _ _) (decide_eq_false h4) rfl rfl ?_
          refine lx_pick rfl rfl rfl rfl rfl ?_
          refine lx_assign rfl rfl rfl ?_
          refine lx_nil ?_
          refine x_ret ?_
          repeat (first | refine kseq_ret ?_ | refine kblk_ret ?_)
          exact kret_tmp rfl rfl (fun w hw => ⟨rfl, hp_below hw⟩)
      · skip
        obtain rfl : b = false := hb.trans (decide_eq_false (fun e => e.elim (fun e => h1 e.1) (fun e => h3 e.2.2.1)))
        refine calls_of_X (G := Gt) Tryz.func16 rfl rfl (Hp (pl w) []) (hp_refl (pl w) trivial rides_true) (good_hp hGF) ?_
        refine xs_plain (E := EE []) ?_
        refine lx_boxr 2 hGF rfl rfl rfl ?_
        intro b2
        refine lx_boxr 3 hGF rfl rfl rfl ?_
        intro b3
        refine lx_assign rfl rfl rfl ?_
        refine lx_nil ?_
        refine x_seq ?_
        refine xs_plain (E := EE []) ?_
        refine lx_loada 2 rfl rfl Tryz.isAgg31 Tryz.sizeOf31 (by simp) rfl rfl ?_
        refine lx_callB false rfl rfl ent15 (jisInf _) (decide_eq_false h1) rfl rfl ?_
        refine lx_move rfl rfl rfl ?_
        refine lx_loada 3 rfl rfl Tryz.isAgg31 Tryz.sizeOf31 (by simp) rfl rfl ?_
        refine lx_callB false rfl rfl ent15 (jisInf _) (decide_eq_false h2) rfl rfl ?_
        refine lx_pick rfl rfl rfl rfl rfl ?_
        refine lx_nil ?_
        refine x_false rfl ?_
        refine x_skip ?_
        refine xs_drawA (E := EE [2999999]) [0, 1, 2, 3, 4, 5, 6, 7, 8, 9, 10, 11] [⟨12, 5, 28, (List.replicate 6 0#64).map U64⟩, ⟨13, 6, 28, (List.replicate 6 0#64).map U64⟩] [14, 15] mixed rfl (by kernel_rfl) (by kernel_rfl) (by kernel_rfl) (by kernel_rfl) (by kernel_rfl) (by kernel_rfl) (by decide) (by intro x hx; simp only [List.mem_cons, List.not_mem_nil, or_false] at hx; rcases hx with rfl | rfl <;> exact isAlloc_mk rfl zv28 rfl) ?_
        refine lx_fak 6 rfl Tryz.underlying31 rfl Tryz.sizeOf28 (by decide) rfl rfl rfl ?_
        refine lx_loado 2 _ rfl rfl Tryz.isAgg28 Tryz.sizeOf28 (by simp) (ld_m (by simp)) rfl rfl ?_
        refine lx_fak 12 rfl Tryz.underlying31 rfl Tryz.sizeOf28 (by decide) rfl rfl rfl ?_
        refine lx_loado 3 _ rfl rfl Tryz.isAgg28 Tryz.sizeOf28 (by simp) (ld_rr (m := 6) (n := 6) (by simp) (by simp) rfl) rfl rfl ?_
        refine lx_call rfl rfl ent56 (jcube _) rfl rfl ?_
        refine lx_call rfl rfl ent55 (fmul_pure _ _) rfl rfl ?_
        refine lx_fak 6 rfl Tryz.underlying31 rfl Tryz.sizeOf28 (by decide) rfl rfl rfl ?_
        refine lx_loado 3 _ rfl rfl Tryz.isAgg28 Tryz.sizeOf28 (by simp) (ld_m (by simp)) rfl rfl ?_
        refine lx_fak 12 rfl Tryz.underlying31 rfl Tryz.sizeOf28 (by decide) rfl rfl rfl ?_
        refine lx_loado 2 _ rfl rfl Tryz.isAgg28 Tryz.sizeOf28 (by simp) (ld_rr (m := 6) (n := 6) (by simp) (by simp) rfl) rfl rfl ?_
        refine lx_call rfl rfl ent56 (jcube _) rfl rfl ?_
        refine lx_call rfl rfl ent55 (fmul_pure _ _) rfl rfl ?_
        refine lx_nil ?_
        refine ⟨_, _, rfl, hGF, by intro x hx; simp only [List.mem_cons, List.not_mem_nil, or_false] at hx; rcases hx with rfl | rfl <;> rfl, by intro x hx; simp only [List.mem_cons, List.not_mem_nil, or_false] at hx; rcases hx with rfl | rfl <;> rfl, fun adr => ?_⟩
        refine lx_storea 5 hGF rfl rfl rfl Tryz.sizeOf28 (by simp) (by simp) (one_u64 _) rfl ?_
        refine lx_storea 6 hGF rfl rfl rfl Tryz.sizeOf28 (by simp) (by simp) (one_u64 _) rfl ?_
        refine lx_nil ?_
        refine xs_drawn (E := EE []) mixed (by kernel_rfl) (by kernel_rfl) (by kernel_rfl) ?_
        refine lx_fak 0 rfl Tryz.underlying31 rfl Tryz.sizeOf28 (by decide) rfl rfl rfl ?_
        refine lx_loado 2 _ rfl rfl Tryz.isAgg28 Tryz.sizeOf28 (by simp) ld_l rfl rfl ?_
        refine lx_fak 12 rfl Tryz.underlying31 rfl Tryz.sizeOf28 (by decide) rfl rfl rfl ?_
        refine lx_loado 3 _ rfl rfl Tryz.isAgg28 Tryz.sizeOf28 (by simp) (ld_rr (m := 6) (n := 6) (by simp) (by simp) rfl) rfl rfl ?_
        refine lx_call rfl rfl ent57 (fsquare_pure _) rfl rfl ?_
        refine lx_call rfl rfl ent55 (fmul_pure _ _) rfl rfl ?_
        refine lx_fak 0 rfl Tryz.underlying31 rfl Tryz.sizeOf28 (by decide) rfl rfl rfl ?_
        refine lx_loado 3 _ rfl rfl Tryz.isAgg28 Tryz.sizeOf28 (by simp) ld_l rfl rfl ?_
        refine lx_fak 12 rfl Tryz.underlying31 rfl Tryz.sizeOf28 (by decide) rfl rfl rfl ?_
        refine lx_loado 2 _ rfl rfl Tryz.isAgg28 Tryz.sizeOf28 (by simp) (ld_rr (m := 6) (n := 6) (by simp) (by simp) rfl) rfl rfl ?_
        refine lx_call rfl rfl ent57 (fsquare_pure _) rfl rfl ?_
        refine lx_call rfl rfl ent55 (fmul_pure _ _) rfl rfl ?_
        refine lx_callB false rfl rfl ent58 (fequal_pure _ _) (decide_eq_false h3) rfl rfl ?_
        refine lx_move rfl rfl rfl ?_
        refine lx_skip rfl rfl rfl ?_
        refine lx_skip rfl rfl rfl ?_
        refine lx_skip rfl rfl rfl ?_
        refine lx_pick rfl rfl rfl rfl rfl ?_
        refine lx_assign rfl rfl rfl ?_
        refine lx_nil ?_
        refine x_ret ?_
        repeat (first | refine kseq_ret ?_ | refine kblk_ret ?_)
        exact kret_tmp rfl rfl (fun w hw => ⟨rfl, hp_below hw⟩)
theorem jxy_n (x : Zp × Zp × Zp) (h : x.2.2 = 0) : Pure Tryz.prog Gt 65 [JV x] (.tuple #[EV 0, EV 0, .bool false]) := by
  intro w hw
  have hGF : BOk Gt (pl w) := gt_low.plain hw
  refine calls_of_X (G := Gt) Tryz.func65 rfl rfl (Hp (pl w) []) (hp_refl (pl w) trivial rides_true) (good_hp hGF) ?_
  refine xs_plain (E := EE []) ?_
  refine lx_boxr 1 hGF rfl rfl rfl ?_
  intro b1
  refine lx_allocr 2 hGF zv28 rfl rfl ?_
  intro b2
  refine lx_allocr 3 hGF zv28 rfl rfl ?_
  intro b3
  refine lx_assign rfl rfl rfl ?_
  refine lx_nil ?_
  refine x_seq ?_
  refine xs_plain (E := EE []) ?_
  refine lx_loada 1 rfl rfl Tryz.isAgg31 Tryz.sizeOf31 (by simp) rfl rfl ?_
  refine lx_callB true rfl rfl ent15 (jisInf _) (decide_eq_true h) rfl rfl ?_
  refine lx_nil ?_
  refine x_true rfl ?_
  refine xs_plain (E := EE []) ?_
  refine lx_builds zf28 Tryz.underlying28 (bm_one Tryz.sizeOf26) rfl rfl ?_
  refine lx_builds zf28 Tryz.underlying28 (bm_one Tryz.sizeOf26) rfl rfl ?_
  refine lx_storea 2 hGF rfl rfl rfl Tryz.sizeOf28 (by simp) (by simp) (one_u64 _) rfl ?_
  refine lx_storea 3 hGF rfl rfl rfl Tryz.sizeOf28 (by simp) (by simp) (one_u64 _) rfl ?_
  refine lx_assign rfl rfl rfl ?_
  refine lx_nil ?_
  refine x_ret ?_
  repeat (first | refine kseq_ret ?_ | refine kblk_ret ?_)
  exact kret_cct 2 3 rfl rfl rfl rfl rfl rfl Tryz.isAgg28 Tryz.sizeOf28 (by simp) (by simp) (fun w hw => ⟨rfl, hp_below hw⟩)
theorem jxy_s (x : Zp × Zp × Zp) (h : ¬ x.2.2 = 0) : Pure Tryz.prog Gt 65 [JV x] (.tuple #[EV (x.1 * (x.2.2 ^ (PP - 2) * x.2.2 ^ (PP - 2))), EV (x.2.1 * (x.2.2 ^ (PP - 2) * x.2.2 ^ (PP - 2) * x.2.2 ^ (PP - 2))), .bool true]) := by
  intro w hw
  have hGF : BOk Gt (pl w) := gt_low.plain hw
  refine calls_of_X (G := Gt) Tryz.func65 rfl rfl (Hp (pl w) []) (hp_refl (pl w) trivial rides_true) (good_hp hGF) ?_
  refine xs_plain (E := EE []) ?_
  refine lx_boxr 1 hGF rfl rfl rfl ?_
  intro b1
  refine lx_allocr 2 hGF zv28 rfl rfl ?_
  intro b2
  refine lx_allocr 3 hGF zv28 rfl rfl ?_
  intro b3
  refine lx_assign rfl rfl rfl ?_
  refine lx_nil ?_
  refine x_seq ?_
  refine xs_plain (E := EE []) ?_
  refine lx_loada 1 rfl rfl Tryz.isAgg31 Tryz.sizeOf31 (by simp) rfl rfl ?_
  refine lx_callB false rfl rfl ent15 (jisInf _) (decide_eq_false h) rfl rfl ?_
  refine lx_nil ?_
  refine x_false rfl ?_
  refine x_skip ?_
  refine xs_plain (E := EE []) ?_
  refine lx_fak 12 rfl Tryz.underlying31 rfl Tryz.sizeOf28 (by decide) rfl rfl rfl ?_
  refine lx_loado 1 _ rfl rfl Tryz.isAgg28 Tryz.sizeOf28 (by simp) (ld_rr (m := 6) (n := 6) (by simp) (by simp) rfl) rfl rfl ?_
  refine lx_call rfl rfl ent103 (finv_pure _) rfl rfl ?_
  refine lx_allocr 5 hGF zv28 rfl rfl ?_
  intro b5
  refine lx_storea 5 hGF rfl rfl rfl Tryz.sizeOf28 (by simp) (by simp) (one_u64 _) rfl ?_
  refine lx_nil ?_
  refine xs_plain (E := EE []) ?_
  refine lx_loada 5 rfl rfl Tryz.isAgg28 Tryz.sizeOf28 (by simp) rfl rfl ?_
  refine lx_call rfl rfl ent57 (fsquare_pure _) rfl rfl ?_
  refine lx_allocr 6 hGF zv28 rfl rfl ?_
  intro b6
  refine lx_storea 6 hGF rfl rfl rfl Tryz.sizeOf28 (by simp) (by simp) (one_u64 _) rfl ?_
  refine lx_nil ?_
  refine xs_drawn (E := EE []) mixed (by kernel_rfl) (by kernel_rfl) (by kernel_rfl) ?_
  refine lx_fak 0 rfl Tryz.underlying31 rfl Tryz.sizeOf28 (by decide) rfl rfl rfl ?_
  refine lx_loado 1 _ rfl rfl Tryz.isAgg28 Tryz.sizeOf28 (by simp) ld_l rfl rfl ?_
  refine lx_loada 6 rfl rfl Tryz.isAgg28 Tryz.sizeOf28 (by simp) rfl rfl ?_
  refine lx_call rfl rfl ent55 (fmul_pure _ _) rfl rfl ?_
  refine lx_fak 6 rfl Tryz.underlying31 rfl Tryz.sizeOf28 (by decide) rfl rfl rfl ?_
  refine lx_loado 1 _ rfl rfl Tryz.isAgg28 Tryz.sizeOf28 (by simp) (ld_m (by simp)) rfl rfl ?_
  refine lx_loada 6 rfl rfl Tryz.isAgg28 Tryz.sizeOf28 (by simp) rfl rfl ?_
  refine lx_loada 5 rfl rfl Tryz.isAgg28 Tryz.sizeOf28 (by simp) rfl rfl ?_
  refine lx_call rfl rfl ent55 (fmul_pure _ _) rfl rfl ?_
  refine lx_call rfl rfl ent55 (fmul_pure _ _) rfl rfl ?_
  refine lx_storea 2 hGF rfl rfl rfl Tryz.sizeOf28 (by simp) (by simp) (one_u64 _) rfl ?_
  refine lx_storea 3 hGF rfl rfl rfl Tryz.sizeOf28 (by simp) (by simp) (one_u64 _) rfl ?_
  refine lx_assign rfl rfl rfl ?_
  refine lx_nil ?_
  refine x_ret ?_
  repeat (first | refine kseq_ret ?_ | refine kblk_ret ?_)
  exact kret_cct 2 3 rfl rfl rfl rfl rfl rfl Tryz.isAgg28 Tryz.sizeOf28 (by simp) (by simp) (fun w hw => ⟨rfl, hp_below hw⟩)
theorem jfin (a b : Zp) : Pure Tryz.prog Gt 42 [EV a, EV b] (JV (a, b, 1)) := by
  intro w hw
  have hGF : BOk Gt (pl w) := gt_low.plain hw
  refine calls_of_X (G := Gt) Tryz.func42 rfl rfl (Hp (pl w) []) (hp_refl (pl w) trivial rides_true) (good_hp hGF) ?_
  refine xs_plain (E := EE []) ?_
  refine lx_boxr 2 hGF rfl rfl rfl ?_
  intro b2
  refine lx_boxr 3 hGF rfl rfl rfl ?_
  intro b3
  refine lx_allocr 4 hGF zj31 rfl rfl ?_
  intro b4
  refine lx_nil ?_
  refine xs_drawn (E := EE []) mixed (by kernel_rfl) (by kernel_rfl) (by kernel_rfl) ?_
  refine lx_loada 2 rfl rfl Tryz.isAgg28 Tryz.sizeOf28 (by simp) rfl rfl ?_
  refine lx_loada 3 rfl rfl Tryz.isAgg28 Tryz.sizeOf28 (by simp) rfl rfl ?_
  refine lx_call rfl rfl ent61 (fof1_pure) rfl rfl ?_
  refine lx_three012 three31 rfl rfl rfl (by simp) (by simp) (by simp) rfl rfl ?_
  refine lx_storea 4 hGF rfl rfl rfl Tryz.sizeOf31 (by simp) (by simp) (one_u64 _) rfl ?_
  refine lx_nil ?_
  refine x_ret ?_
  repeat (first | refine kseq_ret ?_ | refine kblk_ret ?_)
  exact kret_own 4 rfl rfl rfl Tryz.isAgg31 Tryz.sizeOf31 (by simp) (fun w hw => ⟨rfl, hp_below hw⟩)
def GXB : List (BitVec 8) := [23#8, 241#8, 211#8, 167#8, 49#8, 151#8, 215#8, 148#8, 38#8, 149#8, 99#8, 140#8, 79#8, 169#8, 172#8, 15#8, 195#8, 104#8, 140#8, 79#8, 151#8, 116#8, 185#8, 5#8, 161#8, 78#8, 58#8, 63#8, 23#8, 27#8, 172#8, 88#8, 108#8, 85#8, 232#8, 63#8, 249#8, 122#8, 26#8, 239#8, 251#8, 58#8, 240#8, 10#8, 219#8, 34#8, 198#8, 187#8]
def GYB : List (BitVec 8) := [8#8, 179#8, 244#8, 129#8, 227#8, 170#8, 160#8, 241#8, 160#8, 158#8, 48#8, 237#8, 116#8, 29#8, 138#8, 228#8, 252#8, 245#8, 224#8, 149#8, 213#8, 208#8, 10#8, 246#8, 0#8, 219#8, 24#8, 203#8, 44#8, 4#8, 179#8, 237#8, 208#8, 60#8, 199#8, 68#8, 162#8, 136#8, 138#8, 228#8, 12#8, 170#8, 35#8, 41#8, 70#8, 197#8, 231#8, 225#8]
theorem FV_gx : FV GXB = zp G1x := by rw [FV, if_pos ⟨rfl, by decide +kernel⟩, show BN GXB 48 = G1x by decide +kernel]
theorem FV_gy : FV GYB = zp G1y := by rw [FV, if_pos ⟨rfl, by decide +kernel⟩, show BN GYB 48 = G1y by decide +kernel]
theorem gx_calls (e : Option Addr) (cap : Nat) (w : World) (hw : Gt w) (hby : BytesAt w e GXB) : Calls Tryz.prog 68 [.slice e GXB.length cap].toArray w (fun r w' => r = .returned (.tuple #[EV (zp G1x), .bool (FO GXB)]) ∧ Grow w w') := by
  have h := ffrom_calls e cap GXB w hw hby
  rw [FV_gx] at h
  exact h
theorem gy_calls (e : Option Addr) (cap : Nat) (w : World) (hw : Gt w) (hby : BytesAt w e GYB) : Calls Tryz.prog 68 [.slice e GYB.length cap].toArray w (fun r w' => r = .returned (.tuple #[EV (zp G1y), .bool (FO GYB)]) ∧ Grow w w') := by
  have h := ffrom_calls e cap GYB w hw hby
  rw [FV_gy] at h
  exact h
theorem jgen : Pure Tryz.prog Gt 26 [] (JV (zp G1x, zp G1y, 1)) := by
  intro w hw
  have hGF : BOk Gt (pl w) := gt_low.plain hw
  refine calls_of_X (G := Gt) Tryz.func26 rfl rfl (Hp (pl w) []) (hp_refl (pl w) trivial rides_true) (good_hp hGF) ?_
  refine xs_plain (E := EE [1000022]) ?_
  refine lx_allocr 0 hGF zj31 rfl rfl ?_
  intro b0
  refine lx_nil ?_
  refine xs_plain (E := EE [1000022]) ?_
  refine lx_bsl 6 GXB hGF rfl rfl rfl (by decide) (by decide) Tryz.underlying22 Tryz.sizeOf5 Tryz.zeroValue5 rfl rfl ?_
  intro b6
  refine lx_cvs 6 rfl hGF rfl rfl Tryz.underlying22 Tryz.underlying5 rfl rfl ?_
  refine lx_callC rfl rfl ent68 (fun w' hC hG => gx_calls _ _ w' hG (BytesAt.range (hC.own 6 b6 _ _ rfl).1.range)) rfl rfl ?_
  refine lx_move rfl rfl rfl ?_
  refine lx_ext rfl rfl rfl rfl ?_
  refine lx_ext rfl rfl rfl rfl ?_
  refine lx_allocr 1 hGF zv28 rfl rfl ?_
  intro b1
  refine lx_storea 1 hGF rfl rfl rfl Tryz.sizeOf28 (by simp) (by simp) (one_u64 _) rfl ?_
  refine lx_assign rfl rfl rfl ?_
  refine lx_nil ?_
  refine xs_plain (E := EE [1000022]) ?_
  refine lx_bsl 12 GYB hGF rfl rfl rfl (by decide) (by decide) Tryz.underlying22 Tryz.sizeOf5 Tryz.zeroValue5 rfl rfl ?_
  intro b12
  refine lx_cvs 12 rfl hGF rfl rfl Tryz.underlying22 Tryz.underlying5 rfl rfl ?_
  refine lx_callC rfl rfl ent68 (fun w' hC hG => gy_calls _ _ w' hG (BytesAt.range (hC.own 12 b12 _ _ rfl).1.range)) rfl rfl ?_
  refine lx_move rfl rfl rfl ?_
  refine lx_ext rfl rfl rfl rfl ?_
  refine lx_ext rfl rfl rfl rfl ?_
  refine lx_allocr 3 hGF zv28 rfl rfl ?_
  intro b3
  refine lx_storea 3 hGF rfl rfl rfl Tryz.sizeOf28 (by simp) (by simp) (one_u64 _) rfl ?_
  refine lx_assign rfl rfl rfl ?_
  refine lx_nil ?_
  refine xs_plain (E := EE [1000022]) ?_
  refine lx_loada 1 rfl rfl Tryz.isAgg28 Tryz.sizeOf28 (by simp) rfl rfl ?_
  refine lx_loada 3 rfl rfl Tryz.isAgg28 Tryz.sizeOf28 (by simp) rfl rfl ?_
  refine lx_call rfl rfl ent42 (jfin _ _) rfl rfl ?_
  refine lx_storea 0 hGF rfl rfl rfl Tryz.sizeOf31 (by simp) (by simp) (one_u64 _) rfl ?_
  refine lx_nil ?_
  refine x_ret ?_
  repeat (first | refine kseq_ret ?_ | refine kblk_ret ?_)
  exact kret_own 0 rfl rfl rfl Tryz.isAgg31 Tryz.sizeOf31 (by simp) (fun w hw => ⟨rfl, hp_below hw⟩)
end Go.Proofs.YtmpcccpnblfloaaGreatDoor
