/-
  The program's points.
-/
import Derived.Test.YtfknmeefbccflaaGreatDoorXB
import Derived.Test.YtfknmeefbccflaaGreatDoorX5
import Derived.Test.YtfknmeefbccflaaGreatDoorX4
import Derived.Test.YtfknmeefbccflaaGreatDoorX3
namespace Go.Proofs.YtfknmeefbccflaaGreatDoor
open Go.RowKit
set_option maxRecDepth 100000
set_option maxHeartbeats 1000000
attribute [local simp] fe_len nm_len AS_len SS_len MONT_len RM_len FRs_len BYs_len by48_len PLl TWOl ONEl N1l IVPl HFPl RTPl FL_len SP_len fe2_len SP2_len FM_len

theorem ent121 : Enters Tryz.prog 121 := fun _ _ => by kernel_rfl
theorem ent88 : Enters Tryz.prog 88 := fun _ _ => by kernel_rfl
theorem ent69 : Enters Tryz.prog 69 := fun _ _ => by kernel_rfl
theorem ent77 : Enters Tryz.prog 77 := fun _ _ => by kernel_rfl
theorem ent46 : Enters Tryz.prog 46 := fun _ _ => by kernel_rfl
theorem ent26 : Enters Tryz.prog 26 := fun _ _ => by kernel_rfl
theorem ent30 : Enters Tryz.prog 30 := fun _ _ => by kernel_rfl
theorem ent16 : Enters Tryz.prog 16 := fun _ _ => by kernel_rfl
theorem ent78 : Enters Tryz.prog 78 := fun _ _ => by kernel_rfl
theorem ent23 : Enters Tryz.prog 23 := fun _ _ => by kernel_rfl
theorem ent36 : Enters Tryz.prog 36 := fun _ _ => by kernel_rfl
theorem ent17 : Enters Tryz.prog 17 := fun _ _ => by kernel_rfl
theorem ent52 : Enters Tryz.prog 52 := fun _ _ => by kernel_rfl
theorem ent53 : Enters Tryz.prog 53 := fun _ _ => by kernel_rfl
theorem ent27 : Enters Tryz.prog 27 := fun _ _ => by kernel_rfl
theorem ent76 : Enters Tryz.prog 76 := fun _ _ => by kernel_rfl
theorem ent38 : Enters Tryz.prog 38 := fun _ _ => by kernel_rfl
theorem ent13 : Enters Tryz.prog 13 := fun _ _ => by kernel_rfl
theorem ent24 : Enters Tryz.prog 24 := fun _ _ => by kernel_rfl
/-- A point of the program: three numbers that stand for a point of the curve. -/
structure GP where
  J : W6
  P : Pt W2
  on : E2w.onP P
  jr : E2w.jr J P
/-- Its cells. -/
def GL (p : GP) : List (BitVec 64) := ((fe p.J.1.1 ++ fe p.J.1.2) ++ ((fe p.J.2.1.1 ++ fe p.J.2.1.2) ++ (fe p.J.2.2.1 ++ fe p.J.2.2.2)))
theorem GL_len (p : GP) : (GL p).length = 36 := by simp [GL]
attribute [local simp] GL_len
/-- A point of the program as a value. -/
abbrev PtV (p : GP) : Value := .agg ((GL p).map U64).toArray
def PX : Pt W2 → W2
  | none => ze2
  | some p => p.1
def PY : Pt W2 → W2
  | none => ze2
  | some p => p.2
/-- The right side of the curve's equation; is it a square? -/
def RS4 (x : W2) : W2 := ad2 (ml2 (ml2 x x) x) E2w.b
theorem E1_rs {x y : W2} : E2w.on (x, y) ↔ ml2 y y = RS4 x := by
  show ml2 y y = ad2 (ml2 x (ml2 x x)) E2w.b ↔ ml2 y y = ad2 (ml2 (ml2 x x) x) E2w.b
  rw [show ml2 x (ml2 x x) = ml2 (ml2 x x) x from R2.mul_comm _ _]
theorem onP_some {p : W2 × W2} (h : E2w.on p) : E2w.onP (some p) := h
theorem zj33 (w : World) : (zeroValue 33).run Tryz.prog w = .ok (.agg (((fe 0 ++ fe 0) ++ ((fe 0 ++ fe 0) ++ (fe 0 ++ fe 0))).map U64).toArray) w := by rw [fe_0]; exact (Tryz.zeroValue33 w).trans (by rfl)
theorem three33 : Three Tryz.prog 33 ⟨ "x", 30, 0, false, "", "pharos/g2", 0⟩ ⟨ "y", 30, 12, false, "", "pharos/g2", 96⟩ ⟨ "z", 30, 24, false, "", "pharos/g2", 192⟩ 12 (fe 0 ++ fe 0) (fe 0 ++ fe 0) (fe 0 ++ fe 0) := ⟨Tryz.underlying33, rfl, rfl, rfl, Tryz.sizeOf30, Tryz.sizeOf30, Tryz.sizeOf30, zj33, by simp, by simp, by simp⟩
theorem e2subE (x y : W2) : Pure Tryz.prog Gt 73 [EV2 x, EV2 y] (EV2 (E2w.sub x y)) := by
  have h := e2sub x y
  rw [sb2_eq] at h
  exact h
theorem jisInf (x : W6) : Pure Tryz.prog Gt 16 [EV6 x] (.bool (decide (x.2.2 = ze2))) := by
  intro w hw
  have hGF : BOk Gt (pl w) := gt_low.plain hw
  refine calls_of_X (G := Gt) Tryz.func16 rfl rfl (Hp (pl w) []) (hp_refl (pl w) trivial rides_true) (good_hp hGF) ?_
  refine xs_plain (E := EE []) ?_
  refine lx_boxr 1 hGF rfl rfl rfl ?_
  intro b1
  refine lx_assign rfl rfl rfl ?_
  refine lx_nil ?_
  refine xs_plain (E := EE []) ?_
  refine lx_fak 24 rfl Tryz.underlying33 rfl Tryz.sizeOf30 (by decide) rfl rfl rfl ?_
  refine lx_loado 1 _ rfl rfl Tryz.isAgg30 Tryz.sizeOf30 (by simp) (ld_rr (m := 12) (n := 12) (by simp) (by simp) rfl) rfl rfl ?_
  refine lx_call rfl rfl ent58 (e2isZero _) rfl rfl ?_
  refine lx_assign rfl rfl rfl ?_
  refine lx_nil ?_
  refine x_ret ?_
  repeat (first | refine kseq_ret ?_ | refine kblk_ret ?_)
  exact kret_tmp rfl rfl (fun w hw => ⟨rfl, hp_below hw⟩)
theorem jneg (x : W6) : Pure Tryz.prog Gt 24 [EV6 x] (EV6 (x.1, ng2 x.2.1, x.2.2)) := by
  intro w hw
  have hGF : BOk Gt (pl w) := gt_low.plain hw
  refine calls_of_X (G := Gt) Tryz.func24 rfl rfl (Hp (pl w) []) (hp_refl (pl w) trivial rides_true) (good_hp hGF) ?_
  refine xs_plain (E := EE []) ?_
  refine lx_boxr 1 hGF rfl rfl rfl ?_
  intro b1
  refine lx_allocr 2 hGF zj33 rfl rfl ?_
  intro b2
  refine lx_nil ?_
  refine xs_drawn (E := EE []) mixed (by kernel_rfl) (by kernel_rfl) (by kernel_rfl) ?_
  refine lx_fak 0 rfl Tryz.underlying33 rfl Tryz.sizeOf30 (by decide) rfl rfl rfl ?_
  refine lx_loado 1 _ rfl rfl Tryz.isAgg30 Tryz.sizeOf30 (by simp) ld_l rfl rfl ?_
  refine lx_fak 12 rfl Tryz.underlying33 rfl Tryz.sizeOf30 (by decide) rfl rfl rfl ?_
  refine lx_loado 1 _ rfl rfl Tryz.isAgg30 Tryz.sizeOf30 (by simp) (ld_m (by simp)) rfl rfl ?_
  refine lx_call rfl rfl ent63 (e2neg _) rfl rfl ?_
  refine lx_fak 24 rfl Tryz.underlying33 rfl Tryz.sizeOf30 (by decide) rfl rfl rfl ?_
  refine lx_loado 1 _ rfl rfl Tryz.isAgg30 Tryz.sizeOf30 (by simp) (ld_rr (m := 12) (n := 12) (by simp) (by simp) rfl) rfl rfl ?_
  refine lx_three012 three33 rfl rfl rfl (by simp) (by simp) (by simp) rfl rfl ?_
  refine lx_storea 2 hGF rfl rfl rfl Tryz.sizeOf33 (by simp) (by simp) (one_u64 _) rfl ?_
  refine lx_nil ?_
  refine x_ret ?_
  repeat (first | refine kseq_ret ?_ | refine kblk_ret ?_)
  exact kret_own 2 rfl rfl rfl Tryz.isAgg33 Tryz.sizeOf33 (by simp) (fun w hw => ⟨rfl, hp_below hw⟩)
theorem jinf  : Pure Tryz.prog Gt 27 [] (EV6 (ze2, ze2, ze2)) := by
  intro w hw
  have hGF : BOk Gt (pl w) := gt_low.plain hw
  refine calls_of_X (G := Gt) Tryz.func27 rfl rfl (Hp (pl w) []) (hp_refl (pl w) trivial rides_true) (good_hp hGF) ?_
  refine xs_plain (E := EE []) ?_
  refine lx_allocr 0 hGF zj33 rfl rfl ?_
  intro b0
  refine lx_nil ?_
  refine xs_plain (E := EE []) ?_
  refine lx_threeN three33 rfl rfl ?_
  refine lx_storea 0 hGF rfl rfl rfl Tryz.sizeOf33 (by simp) (by simp) (one_u64 _) rfl ?_
  refine lx_nil ?_
  refine x_ret ?_
  repeat (first | refine kseq_ret ?_ | refine kblk_ret ?_)
  exact kret_own 0 rfl rfl rfl Tryz.isAgg33 Tryz.sizeOf33 (by simp) (fun w hw => ⟨rfl, hp_below hw⟩)
theorem jcube (a : W2) : Pure Tryz.prog Gt 69 [EV2 a] (EV2 (ml2 (ml2 a a) a)) := by
  intro w hw
  have hGF : BOk Gt (pl w) := gt_low.plain hw
  refine calls_of_X (G := Gt) Tryz.func69 rfl rfl (Hp (pl w) []) (hp_refl (pl w) trivial rides_true) (good_hp hGF) ?_
  refine xs_plain (E := EE []) ?_
  refine lx_boxr 1 hGF rfl rfl rfl ?_
  intro b1
  refine lx_allocr 2 hGF zv30 rfl rfl ?_
  intro b2
  refine lx_nil ?_
  refine xs_drawn (E := EE []) mixed (by kernel_rfl) (by kernel_rfl) (by kernel_rfl) ?_
  refine lx_loada 1 rfl rfl Tryz.isAgg30 Tryz.sizeOf30 (by simp) rfl rfl ?_
  refine lx_call rfl rfl ent51 (e2square _) rfl rfl ?_
  refine lx_loada 1 rfl rfl Tryz.isAgg30 Tryz.sizeOf30 (by simp) rfl rfl ?_
  refine lx_call rfl rfl ent60 (e2mul _ _) rfl rfl ?_
  refine lx_storea 2 hGF rfl rfl rfl Tryz.sizeOf30 (by simp) (by simp) (one_u64 _) rfl ?_
  refine lx_nil ?_
  refine x_ret ?_
  repeat (first | refine kseq_ret ?_ | refine kblk_ret ?_)
  exact kret_own 2 rfl rfl rfl Tryz.isAgg30 Tryz.sizeOf30 (by simp) (fun w hw => ⟨rfl, hp_below hw⟩)
theorem jdbl (x : W6) : Pure Tryz.prog Gt 30 [EV6 x] (EV6 (E2w.dbA x)) := by
  intro w hw
  have hGF : BOk Gt (pl w) := gt_low.plain hw
  refine calls_of_X (G := Gt) Tryz.func30 rfl rfl (Hp (pl w) []) (hp_refl (pl w) trivial rides_true) (good_hp hGF) ?_
  refine xs_plain (E := EE []) ?_
  refine lx_boxr 1 hGF rfl rfl rfl ?_
  intro b1
  refine lx_allocr 2 hGF zj33 rfl rfl ?_
  intro b2
  refine lx_nil ?_
  refine xs_drawA (E := EE [2999999]) [0, 1, 2, 3, 4, 5, 6, 7] [⟨8, 3, 30, (fe 0 ++ fe 0).map U64⟩, ⟨9, 4, 30, (fe 0 ++ fe 0).map U64⟩] [10, 11] mixed rfl (by kernel_rfl) (by kernel_rfl) (by kernel_rfl) (by kernel_rfl) (by kernel_rfl) (by kernel_rfl) (by decide) (by intro x hx; simp only [List.mem_cons, List.not_mem_nil, or_false] at hx; rcases hx with rfl | rfl <;> exact isAlloc_mk rfl zv30 rfl) ?_
  refine lx_fak 12 rfl Tryz.underlying33 rfl Tryz.sizeOf30 (by decide) rfl rfl rfl ?_
  refine lx_loado 1 _ rfl rfl Tryz.isAgg30 Tryz.sizeOf30 (by simp) (ld_m (by simp)) rfl rfl ?_
  refine lx_fak 12 rfl Tryz.underlying33 rfl Tryz.sizeOf30 (by decide) rfl rfl rfl ?_
  refine lx_loado 1 _ rfl rfl Tryz.isAgg30 Tryz.sizeOf30 (by simp) (ld_m (by simp)) rfl rfl ?_
  refine lx_call rfl rfl ent71 (e2add _ _) rfl rfl ?_
  refine lx_fak 0 rfl Tryz.underlying33 rfl Tryz.sizeOf30 (by decide) rfl rfl rfl ?_
  refine lx_loado 1 _ rfl rfl Tryz.isAgg30 Tryz.sizeOf30 (by simp) ld_l rfl rfl ?_
  refine lx_call rfl rfl ent51 (e2square _) rfl rfl ?_
  refine lx_nil ?_
  refine ⟨_, _, rfl, hGF, by intro x hx; simp only [List.mem_cons, List.not_mem_nil, or_false] at hx; rcases hx with rfl | rfl <;> rfl, by intro x hx; simp only [List.mem_cons, List.not_mem_nil, or_false] at hx; rcases hx with rfl | rfl <;> rfl, fun adr => ?_⟩
  refine lx_storea 3 hGF rfl rfl rfl Tryz.sizeOf30 (by simp) (by simp) (one_u64 _) rfl ?_
  refine lx_storea 4 hGF rfl rfl rfl Tryz.sizeOf30 (by simp) (by simp) (one_u64 _) rfl ?_
  refine lx_nil ?_
  refine xs_drawA (E := EE [2999999]) [0, 1, 2, 3, 4] [⟨5, 5, 30, (fe 0 ++ fe 0).map U64⟩] [6] mixed rfl (by kernel_rfl) (by kernel_rfl) (by kernel_rfl) (by kernel_rfl) (by kernel_rfl) (by kernel_rfl) (by decide) (by intro x hx; simp only [List.mem_cons, List.not_mem_nil, or_false] at hx; subst hx; exact isAlloc_mk rfl zv30 rfl) ?_
  refine lx_loada 4 rfl rfl Tryz.isAgg30 Tryz.sizeOf30 (by simp) rfl rfl ?_
  refine lx_loada 4 rfl rfl Tryz.isAgg30 Tryz.sizeOf30 (by simp) rfl rfl ?_
  refine lx_call rfl rfl ent71 (e2add _ _) rfl rfl ?_
  refine lx_loada 4 rfl rfl Tryz.isAgg30 Tryz.sizeOf30 (by simp) rfl rfl ?_
  refine lx_call rfl rfl ent71 (e2add _ _) rfl rfl ?_
  refine lx_nil ?_
  refine ⟨_, _, rfl, hGF, by intro x hx; simp only [List.mem_cons, List.not_mem_nil, or_false] at hx; subst hx; rfl, by intro x hx; simp only [List.mem_cons, List.not_mem_nil, or_false] at hx; subst hx; rfl, fun adr => ?_⟩
  refine lx_storea 5 hGF rfl rfl rfl Tryz.sizeOf30 (by simp) (by simp) (one_u64 _) rfl ?_
  refine lx_nil ?_
  refine xs_plain (E := EE []) ?_
  refine lx_loada 3 rfl rfl Tryz.isAgg30 Tryz.sizeOf30 (by simp) rfl rfl ?_
  refine lx_call rfl rfl ent51 (e2square _) rfl rfl ?_
  refine lx_allocr 6 hGF zv30 rfl rfl ?_
  intro b6
  refine lx_storea 6 hGF rfl rfl rfl Tryz.sizeOf30 (by simp) (by simp) (one_u64 _) rfl ?_
  refine lx_nil ?_
  refine xs_plain (E := EE []) ?_
  refine lx_loada 6 rfl rfl Tryz.isAgg30 Tryz.sizeOf30 (by simp) rfl rfl ?_
  refine lx_fak 0 rfl Tryz.underlying33 rfl Tryz.sizeOf30 (by decide) rfl rfl rfl ?_
  refine lx_loado 1 _ rfl rfl Tryz.isAgg30 Tryz.sizeOf30 (by simp) ld_l rfl rfl ?_
  refine lx_call rfl rfl ent60 (e2mul _ _) rfl rfl ?_
  refine lx_allocr 7 hGF zv30 rfl rfl ?_
  intro b7
  refine lx_storea 7 hGF rfl rfl rfl Tryz.sizeOf30 (by simp) (by simp) (one_u64 _) rfl ?_
  refine lx_nil ?_
  refine xs_drawA (E := EE [2999999]) [0, 1, 2, 3, 4, 5] [⟨6, 8, 30, (fe 0 ++ fe 0).map U64⟩] [7] mixed rfl (by kernel_rfl) (by kernel_rfl) (by kernel_rfl) (by kernel_rfl) (by kernel_rfl) (by kernel_rfl) (by decide) (by intro x hx; simp only [List.mem_cons, List.not_mem_nil, or_false] at hx; subst hx; exact isAlloc_mk rfl zv30 rfl) ?_
  refine lx_loada 5 rfl rfl Tryz.isAgg30 Tryz.sizeOf30 (by simp) rfl rfl ?_
  refine lx_call rfl rfl ent51 (e2square _) rfl rfl ?_
  refine lx_loada 7 rfl rfl Tryz.isAgg30 Tryz.sizeOf30 (by simp) rfl rfl ?_
  refine lx_call rfl rfl ent73 (e2subE _ _) rfl rfl ?_
  refine lx_loada 7 rfl rfl Tryz.isAgg30 Tryz.sizeOf30 (by simp) rfl rfl ?_
  refine lx_call rfl rfl ent73 (e2subE _ _) rfl rfl ?_
  refine lx_nil ?_
  refine ⟨_, _, rfl, hGF, by intro x hx; simp only [List.mem_cons, List.not_mem_nil, or_false] at hx; subst hx; rfl, by intro x hx; simp only [List.mem_cons, List.not_mem_nil, or_false] at hx; subst hx; rfl, fun adr => ?_⟩
  refine lx_storea 8 hGF rfl rfl rfl Tryz.sizeOf30 (by simp) (by simp) (one_u64 _) rfl ?_
  refine lx_nil ?_
  refine xs_drawA (E := EE [2999999]) [0, 1, 2, 3, 4, 5, 6, 7, 8, 9, 10, 11] [⟨12, 9, 30, (fe 0 ++ fe 0).map U64⟩] [13] mixed rfl (by kernel_rfl) (by kernel_rfl) (by kernel_rfl) (by kernel_rfl) (by kernel_rfl) (by kernel_rfl) (by decide) (by intro x hx; simp only [List.mem_cons, List.not_mem_nil, or_false] at hx; subst hx; exact isAlloc_mk rfl zv30 rfl) ?_
  refine lx_loada 5 rfl rfl Tryz.isAgg30 Tryz.sizeOf30 (by simp) rfl rfl ?_
  refine lx_loada 7 rfl rfl Tryz.isAgg30 Tryz.sizeOf30 (by simp) rfl rfl ?_
  refine lx_loada 8 rfl rfl Tryz.isAgg30 Tryz.sizeOf30 (by simp) rfl rfl ?_
  refine lx_call rfl rfl ent73 (e2subE _ _) rfl rfl ?_
  refine lx_call rfl rfl ent60 (e2mul _ _) rfl rfl ?_
  refine lx_loada 6 rfl rfl Tryz.isAgg30 Tryz.sizeOf30 (by simp) rfl rfl ?_
  refine lx_loada 3 rfl rfl Tryz.isAgg30 Tryz.sizeOf30 (by simp) rfl rfl ?_
  refine lx_call rfl rfl ent60 (e2mul _ _) rfl rfl ?_
  refine lx_fak 12 rfl Tryz.underlying33 rfl Tryz.sizeOf30 (by decide) rfl rfl rfl ?_
  refine lx_loado 1 _ rfl rfl Tryz.isAgg30 Tryz.sizeOf30 (by simp) (ld_m (by simp)) rfl rfl ?_
  refine lx_call rfl rfl ent60 (e2mul _ _) rfl rfl ?_
  refine lx_call rfl rfl ent73 (e2subE _ _) rfl rfl ?_
  refine lx_nil ?_
  refine ⟨_, _, rfl, hGF, by intro x hx; simp only [List.mem_cons, List.not_mem_nil, or_false] at hx; subst hx; rfl, by intro x hx; simp only [List.mem_cons, List.not_mem_nil, or_false] at hx; subst hx; rfl, fun adr => ?_⟩
  refine lx_storea 9 hGF rfl rfl rfl Tryz.sizeOf30 (by simp) (by simp) (one_u64 _) rfl ?_
  refine lx_nil ?_
  refine xs_drawn (E := EE []) mixed (by kernel_rfl) (by kernel_rfl) (by kernel_rfl) ?_
  refine lx_loada 8 rfl rfl Tryz.isAgg30 Tryz.sizeOf30 (by simp) rfl rfl ?_
  refine lx_loada 9 rfl rfl Tryz.isAgg30 Tryz.sizeOf30 (by simp) rfl rfl ?_
  refine lx_fak 24 rfl Tryz.underlying33 rfl Tryz.sizeOf30 (by decide) rfl rfl rfl ?_
  refine lx_loado 1 _ rfl rfl Tryz.isAgg30 Tryz.sizeOf30 (by simp) (ld_rr (m := 12) (n := 12) (by simp) (by simp) rfl) rfl rfl ?_
  refine lx_loada 3 rfl rfl Tryz.isAgg30 Tryz.sizeOf30 (by simp) rfl rfl ?_
  refine lx_call rfl rfl ent60 (e2mul _ _) rfl rfl ?_
  refine lx_three012 three33 rfl rfl rfl (by simp) (by simp) (by simp) rfl rfl ?_
  refine lx_storea 2 hGF rfl rfl rfl Tryz.sizeOf33 (by simp) (by simp) (one_u64 _) rfl ?_
  refine lx_nil ?_
  refine x_ret ?_
  repeat (first | refine kseq_ret ?_ | refine kblk_ret ?_)
  exact kret_own 2 rfl rfl rfl Tryz.isAgg33 Tryz.sizeOf33 (by simp) (fun w hw => ⟨rfl, hp_below hw⟩)
theorem jadd (x y : W6) : Pure Tryz.prog Gt 26 [EV6 x, EV6 y] (EV6 (E2w.adA x y)) := by
  intro w hw
  have hGF : BOk Gt (pl w) := gt_low.plain hw
  by_cases h1 : x.2.2 = ze2
  · skip
    rw [show E2w.adA x y = y from if_pos h1]
    refine calls_of_X (G := Gt) Tryz.func26 rfl rfl (Hp (pl w) []) (hp_refl (pl w) trivial rides_true) (good_hp hGF) ?_
    refine xs_plain (E := EE []) ?_
    refine lx_boxr 2 hGF rfl rfl rfl ?_
    intro b2
    refine lx_boxr 3 hGF rfl rfl rfl ?_
    intro b3
    refine lx_allocr 4 hGF zj33 rfl rfl ?_
    intro b4
    refine lx_nil ?_
    refine x_seq ?_
    refine xs_plain (E := EE []) ?_
    refine lx_loada 2 rfl rfl Tryz.isAgg33 Tryz.sizeOf33 (by simp) rfl rfl ?_
    refine lx_callB true rfl rfl ent16 (jisInf _) (decide_eq_true h1) rfl rfl ?_
    refine lx_nil ?_
    refine x_true rfl ?_
    refine xs_plain (E := EE []) ?_
    refine lx_loada 3 rfl rfl Tryz.isAgg33 Tryz.sizeOf33 (by simp) rfl rfl ?_
    refine lx_storea 4 hGF rfl rfl rfl Tryz.sizeOf33 (by simp) (by simp) (one_u64 _) rfl ?_
    refine lx_nil ?_
    refine x_ret ?_
    repeat (first | refine kseq_ret ?_ | refine kblk_ret ?_)
    exact kret_own 4 rfl rfl rfl Tryz.isAgg33 Tryz.sizeOf33 (by simp) (fun w hw => ⟨rfl, hp_below hw⟩)
  · skip
    by_cases h2 : y.2.2 = ze2
    · skip
      rw [show E2w.adA x y = x from (if_neg h1).trans (if_pos h2)]
      refine calls_of_X (G := Gt) Tryz.func26 rfl rfl (Hp (pl w) []) (hp_refl (pl w) trivial rides_true) (good_hp hGF) ?_
      refine xs_plain (E := EE []) ?_
      refine lx_boxr 2 hGF rfl rfl rfl ?_
      intro b2
      refine lx_boxr 3 hGF rfl rfl rfl ?_
      intro b3
      refine lx_allocr 4 hGF zj33 rfl rfl ?_
      intro b4
      refine lx_nil ?_
      refine x_seq ?_
      refine xs_plain (E := EE []) ?_
      refine lx_loada 2 rfl rfl Tryz.isAgg33 Tryz.sizeOf33 (by simp) rfl rfl ?_
      refine lx_callB false rfl rfl ent16 (jisInf _) (decide_eq_false h1) rfl rfl ?_
      refine lx_nil ?_
      refine x_false rfl ?_
      refine x_skip ?_
      refine x_seq ?_
      refine xs_plain (E := EE []) ?_
      refine lx_loada 3 rfl rfl Tryz.isAgg33 Tryz.sizeOf33 (by simp) rfl rfl ?_
      refine lx_callB true rfl rfl ent16 (jisInf _) (decide_eq_true h2) rfl rfl ?_
      refine lx_nil ?_
      refine x_true rfl ?_
      refine xs_plain (E := EE []) ?_
      refine lx_loada 2 rfl rfl Tryz.isAgg33 Tryz.sizeOf33 (by simp) rfl rfl ?_
      refine lx_storea 4 hGF rfl rfl rfl Tryz.sizeOf33 (by simp) (by simp) (one_u64 _) rfl ?_
      refine lx_nil ?_
      refine x_ret ?_
      repeat (first | refine kseq_ret ?_ | refine kblk_ret ?_)
      exact kret_own 4 rfl rfl rfl Tryz.isAgg33 Tryz.sizeOf33 (by simp) (fun w hw => ⟨rfl, hp_below hw⟩)
    · skip
      by_cases h3 : E2w.jh x.1 x.2.2 y.1 y.2.2 = ze2
      · skip
        by_cases h4 : E2w.jq x.2.1 x.2.2 y.2.1 y.2.2 = ze2
        · skip
          rw [show E2w.adA x y = E2w.dbA x from (if_neg h1).trans ((if_neg h2).trans ((if_pos h3).trans (if_pos h4)))]
          refine calls_of_X (G := Gt) Tryz.func26 rfl rfl (Hp (pl w) []) (hp_refl (pl w) trivial rides_true) (good_hp hGF) ?_
          refine xs_plain (E := EE []) ?_
          refine lx_boxr 2 hGF rfl rfl rfl ?_
          intro b2
          refine lx_boxr 3 hGF rfl rfl rfl ?_
          intro b3
          refine lx_allocr 4 hGF zj33 rfl rfl ?_
          intro b4
          refine lx_nil ?_
          refine x_seq ?_
          refine xs_plain (E := EE []) ?_
          refine lx_loada 2 rfl rfl Tryz.isAgg33 Tryz.sizeOf33 (by simp) rfl rfl ?_
          refine lx_callB false rfl rfl ent16 (jisInf _) (decide_eq_false h1) rfl rfl ?_
          refine lx_nil ?_
          refine x_false rfl ?_
          refine x_skip ?_
          refine x_seq ?_
          refine xs_plain (E := EE []) ?_
          refine lx_loada 3 rfl rfl Tryz.isAgg33 Tryz.sizeOf33 (by simp) rfl rfl ?_
          refine lx_callB false rfl rfl ent16 (jisInf _) (decide_eq_false h2) rfl rfl ?_
          refine lx_nil ?_
          refine x_false rfl ?_
          refine x_skip ?_
          refine xs_drawA (E := EE [2999999]) [0, 1, 2, 3, 4, 5] [⟨6, 5, 30, (fe 0 ++ fe 0).map U64⟩, ⟨7, 6, 30, (fe 0 ++ fe 0).map U64⟩] [8, 9] mixed rfl (by kernel_rfl) (by kernel_rfl) (by kernel_rfl) (by kernel_rfl) (by kernel_rfl) (by kernel_rfl) (by decide) (by intro x hx; simp only [List.mem_cons, List.not_mem_nil, or_false] at hx; rcases hx with rfl | rfl <;> exact isAlloc_mk rfl zv30 rfl) ?_
          refine lx_fak 24 rfl Tryz.underlying33 rfl Tryz.sizeOf30 (by decide) rfl rfl rfl ?_
          refine lx_loado 2 _ rfl rfl Tryz.isAgg30 Tryz.sizeOf30 (by simp) (ld_rr (m := 12) (n := 12) (by simp) (by simp) rfl) rfl rfl ?_
          refine lx_call rfl rfl ent51 (e2square _) rfl rfl ?_
          refine lx_fak 24 rfl Tryz.underlying33 rfl Tryz.sizeOf30 (by decide) rfl rfl rfl ?_
          refine lx_loado 3 _ rfl rfl Tryz.isAgg30 Tryz.sizeOf30 (by simp) (ld_rr (m := 12) (n := 12) (by simp) (by simp) rfl) rfl rfl ?_
          refine lx_call rfl rfl ent51 (e2square _) rfl rfl ?_
          refine lx_nil ?_
          refine ⟨_, _, rfl, hGF, by intro x hx; simp only [List.mem_cons, List.not_mem_nil, or_false] at hx; rcases hx with rfl | rfl <;> rfl, by intro x hx; simp only [List.mem_cons, List.not_mem_nil, or_false] at hx; rcases hx with rfl | rfl <;> rfl, fun adr => ?_⟩
          refine lx_storea 5 hGF rfl rfl rfl Tryz.sizeOf30 (by simp) (by simp) (one_u64 _) rfl ?_
          refine lx_storea 6 hGF rfl rfl rfl Tryz.sizeOf30 (by simp) (by simp) (one_u64 _) rfl ?_
          refine lx_nil ?_
          refine xs_drawA (E := EE [2999999]) [0, 1, 2, 3, 4, 5, 6, 7, 8, 9, 10] [⟨11, 7, 30, (fe 0 ++ fe 0).map U64⟩, ⟨12, 8, 30, (fe 0 ++ fe 0).map U64⟩] [13, 14] mixed rfl (by kernel_rfl) (by kernel_rfl) (by kernel_rfl) (by kernel_rfl) (by kernel_rfl) (by kernel_rfl) (by decide) (by intro x hx; simp only [List.mem_cons, List.not_mem_nil, or_false] at hx; rcases hx with rfl | rfl <;> exact isAlloc_mk rfl zv30 rfl) ?_
          refine lx_fak 0 rfl Tryz.underlying33 rfl Tryz.sizeOf30 (by decide) rfl rfl rfl ?_
          refine lx_loado 2 _ rfl rfl Tryz.isAgg30 Tryz.sizeOf30 (by simp) ld_l rfl rfl ?_
          refine lx_loada 6 rfl rfl Tryz.isAgg30 Tryz.sizeOf30 (by simp) rfl rfl ?_
          refine lx_call rfl rfl ent60 (e2mul _ _) rfl rfl ?_
          refine lx_fak 12 rfl Tryz.underlying33 rfl Tryz.sizeOf30 (by decide) rfl rfl rfl ?_
          refine lx_loado 2 _ rfl rfl Tryz.isAgg30 Tryz.sizeOf30 (by simp) (ld_m (by simp)) rfl rfl ?_
          refine lx_loada 6 rfl rfl Tryz.isAgg30 Tryz.sizeOf30 (by simp) rfl rfl ?_
          refine lx_call rfl rfl ent60 (e2mul _ _) rfl rfl ?_
          refine lx_fak 24 rfl Tryz.underlying33 rfl Tryz.sizeOf30 (by decide) rfl rfl rfl ?_
          refine lx_loado 3 _ rfl rfl Tryz.isAgg30 Tryz.sizeOf30 (by simp) (ld_rr (m := 12) (n := 12) (by simp) (by simp) rfl) rfl rfl ?_
          refine lx_call rfl rfl ent60 (e2mul _ _) rfl rfl ?_
          refine lx_nil ?_
          refine ⟨_, _, rfl, hGF, by intro x hx; simp only [List.mem_cons, List.not_mem_nil, or_false] at hx; rcases hx with rfl | rfl <;> rfl, by intro x hx; simp only [List.mem_cons, List.not_mem_nil, or_false] at hx; rcases hx with rfl | rfl <;> rfl, fun adr => ?_⟩
          refine lx_storea 7 hGF rfl rfl rfl Tryz.sizeOf30 (by simp) (by simp) (one_u64 _) rfl ?_
          refine lx_storea 8 hGF rfl rfl rfl Tryz.sizeOf30 (by simp) (by simp) (one_u64 _) rfl ?_
          refine lx_nil ?_
          refine xs_drawA (E := EE [2999999]) [0, 1, 2, 3, 4, 5] [⟨6, 9, 30, (fe 0 ++ fe 0).map U64⟩] [7] mixed rfl (by kernel_rfl) (by kernel_rfl) (by kernel_rfl) (by kernel_rfl) (by kernel_rfl) (by kernel_rfl) (by decide) (by intro x hx; simp only [List.mem_cons, List.not_mem_nil, or_false] at hx; subst hx; exact isAlloc_mk rfl zv30 rfl) ?_
          refine lx_fak 0 rfl Tryz.underlying33 rfl Tryz.sizeOf30 (by decide) rfl rfl rfl ?_
          refine lx_loado 3 _ rfl rfl Tryz.isAgg30 Tryz.sizeOf30 (by simp) ld_l rfl rfl ?_
          refine lx_loada 5 rfl rfl Tryz.isAgg30 Tryz.sizeOf30 (by simp) rfl rfl ?_
          refine lx_call rfl rfl ent60 (e2mul _ _) rfl rfl ?_
          refine lx_loada 7 rfl rfl Tryz.isAgg30 Tryz.sizeOf30 (by simp) rfl rfl ?_
          refine lx_call rfl rfl ent73 (e2subE _ _) rfl rfl ?_
          refine lx_nil ?_
          refine ⟨_, _, rfl, hGF, by intro x hx; simp only [List.mem_cons, List.not_mem_nil, or_false] at hx; subst hx; rfl, by intro x hx; simp only [List.mem_cons, List.not_mem_nil, or_false] at hx; subst hx; rfl, fun adr => ?_⟩
          refine lx_storea 9 hGF rfl rfl rfl Tryz.sizeOf30 (by simp) (by simp) (one_u64 _) rfl ?_
          refine lx_nil ?_
          refine xs_drawA (E := EE [2999999]) [0, 1, 2, 3, 4, 5, 6, 7, 8] [⟨9, 10, 30, (fe 0 ++ fe 0).map U64⟩] [10] mixed rfl (by kernel_rfl) (by kernel_rfl) (by kernel_rfl) (by kernel_rfl) (by kernel_rfl) (by kernel_rfl) (by decide) (by intro x hx; simp only [List.mem_cons, List.not_mem_nil, or_false] at hx; subst hx; exact isAlloc_mk rfl zv30 rfl) ?_
          refine lx_fak 12 rfl Tryz.underlying33 rfl Tryz.sizeOf30 (by decide) rfl rfl rfl ?_
          refine lx_loado 3 _ rfl rfl Tryz.isAgg30 Tryz.sizeOf30 (by simp) (ld_m (by simp)) rfl rfl ?_
          refine lx_loada 5 rfl rfl Tryz.isAgg30 Tryz.sizeOf30 (by simp) rfl rfl ?_
          refine lx_call rfl rfl ent60 (e2mul _ _) rfl rfl ?_
          refine lx_fak 24 rfl Tryz.underlying33 rfl Tryz.sizeOf30 (by decide) rfl rfl rfl ?_
          refine lx_loado 2 _ rfl rfl Tryz.isAgg30 Tryz.sizeOf30 (by simp) (ld_rr (m := 12) (n := 12) (by simp) (by simp) rfl) rfl rfl ?_
          refine lx_call rfl rfl ent60 (e2mul _ _) rfl rfl ?_
          refine lx_loada 8 rfl rfl Tryz.isAgg30 Tryz.sizeOf30 (by simp) rfl rfl ?_
          refine lx_call rfl rfl ent73 (e2subE _ _) rfl rfl ?_
          refine lx_nil ?_
          refine ⟨_, _, rfl, hGF, by intro x hx; simp only [List.mem_cons, List.not_mem_nil, or_false] at hx; subst hx; rfl, by intro x hx; simp only [List.mem_cons, List.not_mem_nil, or_false] at hx; subst hx; rfl, fun adr => ?_⟩
          refine lx_storea 10 hGF rfl rfl rfl Tryz.sizeOf30 (by simp) (by simp) (one_u64 _) rfl ?_
          refine lx_nil ?_
          refine x_seq ?_
          refine xs_plain (E := EE []) ?_
          refine lx_loada 9 rfl rfl Tryz.isAgg30 Tryz.sizeOf30 (by simp) rfl rfl ?_
          refine lx_callB true rfl rfl ent58 (e2isZero _) (decide_eq_true h3) rfl rfl ?_
          refine lx_move rfl rfl rfl ?_
          refine lx_loada 10 rfl rfl Tryz.isAgg30 Tryz.sizeOf30 (by simp) rfl rfl ?_
          refine lx_callB true rfl rfl ent58 (e2isZero _) (decide_eq_true h4) rfl rfl ?_
          refine lx_pick rfl rfl rfl rfl rfl ?_
          refine lx_nil ?_
          refine x_true rfl ?_
          refine xs_plain (E := EE []) ?_
          refine lx_loada 2 rfl rfl Tryz.isAgg33 Tryz.sizeOf33 (by simp) rfl rfl ?_
          refine lx_call rfl rfl ent30 (jdbl _) rfl rfl ?_
          refine lx_storea 4 hGF rfl rfl rfl Tryz.sizeOf33 (by simp) (by simp) (one_u64 _) rfl ?_
          refine lx_nil ?_
          refine x_ret ?_
          repeat (first | refine kseq_ret ?_ | refine kblk_ret ?_)
          exact kret_own 4 rfl rfl rfl Tryz.isAgg33 Tryz.sizeOf33 (by simp) (fun w hw => ⟨rfl, hp_below hw⟩)
        · skip
          rw [show E2w.adA x y = (ze2, ze2, ze2) from (if_neg h1).trans ((if_neg h2).trans ((if_pos h3).trans (if_neg h4)))]
          refine calls_of_X (G := Gt) Tryz.func26 rfl rfl (Hp (pl w) []) (hp_refl (pl w) trivial rides_true) (good_hp hGF) ?_
          refine xs_plain (E := EE []) ?_
          refine lx_boxr 2 hGF rfl rfl rfl ?_
          intro b2
          refine lx_boxr 3 hGF rfl rfl rfl ?_
          intro b3
          refine lx_allocr 4 hGF zj33 rfl rfl ?_
          intro b4
          refine lx_nil ?_
          refine x_seq ?_
          refine xs_plain (E := EE []) ?_
          refine lx_loada 2 rfl rfl Tryz.isAgg33 Tryz.sizeOf33 (by simp) rfl rfl ?_
          refine lx_callB false rfl rfl ent16 (jisInf _) (decide_eq_false h1) rfl rfl ?_
          refine lx_nil ?_
          refine x_false rfl ?_
          refine x_skip ?_
          refine x_seq ?_
          refine xs_plain (E := EE []) ?_
          refine lx_loada 3 rfl rfl Tryz.isAgg33 Tryz.sizeOf33 (by simp) rfl rfl ?_
          refine lx_callB false rfl rfl ent16 (jisInf _) (decide_eq_false h2) rfl rfl ?_
          refine lx_nil ?_
          refine x_false rfl ?_
          refine x_skip ?_
          refine xs_drawA (E := EE [2999999]) [0, 1, 2, 3, 4, 5] [⟨6, 5, 30, (fe 0 ++ fe 0).map U64⟩, ⟨7, 6, 30, (fe 0 ++ fe 0).map U64⟩] [8, 9] mixed rfl (by kernel_rfl) (by kernel_rfl) (by kernel_rfl) (by kernel_rfl) (by kernel_rfl) (by kernel_rfl) (by decide) (by intro x hx; simp only [List.mem_cons, List.not_mem_nil, or_false] at hx; rcases hx with rfl | rfl <;> exact isAlloc_mk rfl zv30 rfl) ?_
          refine lx_fak 24 rfl Tryz.underlying33 rfl Tryz.sizeOf30 (by decide) rfl rfl rfl ?_
          refine lx_loado 2 _ rfl rfl Tryz.isAgg30 Tryz.sizeOf30 (by simp) (ld_rr (m := 12) (n := 12) (by simp) (by simp) rfl) rfl rfl ?_
          refine lx_call rfl rfl ent51 (e2square _) rfl rfl ?_
          refine lx_fak 24 rfl Tryz.underlying33 rfl Tryz.sizeOf30 (by decide) rfl rfl rfl ?_
          refine lx_loado 3 _ rfl rfl Tryz.isAgg30 Tryz.sizeOf30 (by simp) (ld_rr (m := 12) (n := 12) (by simp) (by simp) rfl) rfl rfl ?_
          refine lx_call rfl rfl ent51 (e2square _) rfl rfl ?_
          refine lx_nil ?_
          refine ⟨_, _, rfl, hGF, by intro x hx; simp only [List.mem_cons, List.not_mem_nil, or_false] at hx; rcases hx with rfl | rfl <;> rfl, by intro x hx; simp only [List.mem_cons, List.not_mem_nil, or_false] at hx; rcases hx with rfl | rfl <;> rfl, fun adr => ?_⟩
          refine lx_storea 5 hGF rfl rfl rfl Tryz.sizeOf30 (by simp) (by simp) (one_u64 _) rfl ?_
          refine lx_storea 6 hGF rfl rfl rfl Tryz.sizeOf30 (by simp) (by simp) (one_u64 _) rfl ?_
          refine lx_nil ?_
          refine xs_drawA (E := EE [2999999]) [0, 1, 2, 3, 4, 5, 6, 7, 8, 9, 10] [⟨11, 7, 30, (fe 0 ++ fe 0).map U64⟩, ⟨12, 8, 30, (fe 0 ++ fe 0).map U64⟩] [13, 14] mixed rfl (by kernel_rfl) (by kernel_rfl) (by kernel_rfl) (by kernel_rfl) (by kernel_rfl) (by kernel_rfl) (by decide) (by intro x hx; simp only [List.mem_cons, List.not_mem_nil, or_false] at hx; rcases hx with rfl | rfl <;> exact isAlloc_mk rfl zv30 rfl) ?_
          refine lx_fak 0 rfl Tryz.underlying33 rfl Tryz.sizeOf30 (by decide) rfl rfl rfl ?_
          refine lx_loado 2 _ rfl rfl Tryz.isAgg30 Tryz.sizeOf30 (by simp) ld_l rfl rfl ?_
          refine lx_loada 6 rfl rfl Tryz.isAgg30 Tryz.sizeOf30 (by simp) rfl rfl ?_
          refine lx_call rfl rfl ent60 (e2mul _ _) rfl rfl ?_
          refine lx_fak 12 rfl Tryz.underlying33 rfl Tryz.sizeOf30 (by decide) rfl rfl rfl ?_
          refine lx_loado 2 _ rfl rfl Tryz.isAgg30 Tryz.sizeOf30 (by simp) (ld_m (by simp)) rfl rfl ?_
          refine lx_loada 6 rfl rfl Tryz.isAgg30 Tryz.sizeOf30 (by simp) rfl rfl ?_
          refine lx_call rfl rfl ent60 (e2mul _ _) rfl rfl ?_
          refine lx_fak 24 rfl Tryz.underlying33 rfl Tryz.sizeOf30 (by decide) rfl rfl rfl ?_
          refine lx_loado 3 _ rfl rfl Tryz.isAgg30 Tryz.sizeOf30 (by simp) (ld_rr (m := 12) (n := 12) (by simp) (by simp) rfl) rfl rfl ?_
          refine lx_call rfl rfl ent60 (e2mul _ _) rfl rfl ?_
          refine lx_nil ?_
          refine ⟨_, _, rfl, hGF, by intro x hx; simp only [List.mem_cons, List.not_mem_nil, or_false] at hx; rcases hx with rfl | rfl <;> rfl, by intro x hx; simp only [List.mem_cons, List.not_mem_nil, or_false] at hx; rcases hx with rfl | rfl <;> rfl, fun adr => ?_⟩
          refine lx_storea 7 hGF rfl rfl rfl Tryz.sizeOf30 (by simp) (by simp) (one_u64 _) rfl ?_
          refine lx_storea 8 hGF rfl rfl rfl Tryz.sizeOf30 (by simp) (by simp) (one_u64 _) rfl ?_
          refine lx_nil ?_
          refine xs_drawA (E := EE [2999999]) [0, 1, 2, 3, 4, 5] [⟨6, 9, 30, (fe 0 ++ fe 0).map U64⟩] [7] mixed rfl (by kernel_rfl) (by kernel_rfl) (by kernel_rfl) (by kernel_rfl) (by kernel_rfl) (by kernel_rfl) (by decide) (by intro x hx; simp only [List.mem_cons, List.not_mem_nil, or_false] at hx; subst hx; exact isAlloc_mk rfl zv30 rfl) ?_
          refine lx_fak 0 rfl Tryz.underlying33 rfl Tryz.sizeOf30 (by decide) rfl rfl rfl ?_
          refine lx_loado 3 _ rfl rfl Tryz.isAgg30 Tryz.sizeOf30 (by simp) ld_l rfl rfl ?_
          refine lx_loada 5 rfl rfl Tryz.isAgg30 Tryz.sizeOf30 (by simp) rfl rfl ?_
          refine lx_call rfl rfl ent60 (e2mul _ _) rfl rfl ?_
          refine lx_loada 7 rfl rfl Tryz.isAgg30 Tryz.sizeOf30 (by simp) rfl rfl ?_
          refine lx_call rfl rfl ent73 (e2subE _ _) rfl rfl ?_
          refine lx_nil ?_
          refine ⟨_, _, rfl, hGF, by intro x hx; simp only [List.mem_cons, List.not_mem_nil, or_false] at hx; subst hx; rfl, by intro x hx; simp only [List.mem_cons, List.not_mem_nil, or_false] at hx; subst hx; rfl, fun adr => ?_⟩
          refine lx_storea 9 hGF rfl rfl rfl Tryz.sizeOf30 (by simp) (by simp) (one_u64 _) rfl ?_
          refine lx_nil ?_
          refine xs_drawA (E := EE [2999999]) [0, 1, 2, 3, 4, 5, 6, 7, 8] [⟨9, 10, 30, (fe 0 ++ fe 0).map U64⟩] [10] mixed rfl (by kernel_rfl) (by kernel_rfl) (by kernel_rfl) (by kernel_rfl) (by kernel_rfl) (by kernel_rfl) (by decide) (by intro x hx; simp only [List.mem_cons, List.not_mem_nil, or_false] at hx; subst hx; exact isAlloc_mk rfl zv30 rfl) ?_
          refine lx_fak 12 rfl Tryz.underlying33 rfl Tryz.sizeOf30 (by decide) rfl rfl rfl ?_
          refine lx_loado 3 _ rfl rfl Tryz.isAgg30 Tryz.sizeOf30 (by simp) (ld_m (by simp)) rfl rfl ?_
          refine lx_loada 5 rfl rfl Tryz.isAgg30 Tryz.sizeOf30 (by simp) rfl rfl ?_
          refine lx_call rfl rfl ent60 (e2mul _ _) rfl rfl ?_
          refine lx_fak 24 rfl Tryz.underlying33 rfl Tryz.sizeOf30 (by decide) rfl rfl rfl ?_
          refine lx_loado 2 _ rfl rfl Tryz.isAgg30 Tryz.sizeOf30 (by simp) (ld_rr (m := 12) (n := 12) (by simp) (by simp) rfl) rfl rfl ?_
          refine lx_call rfl rfl ent60 (e2mul _ _) rfl rfl ?_
          refine lx_loada 8 rfl rfl Tryz.isAgg30 Tryz.sizeOf30 (by simp) rfl rfl ?_
          refine lx_call rfl rfl ent73 (e2subE _ _) rfl rfl ?_
          refine lx_nil ?_
          refine ⟨_, _, rfl, hGF, by intro x hx; simp only [List.mem_cons, List.not_mem_nil, or_false] at hx; subst hx; rfl, by intro x hx; simp only [List.mem_cons, List.not_mem_nil, or_false] at hx; subst hx; rfl, fun adr => ?_⟩
          refine lx_storea 10 hGF rfl rfl rfl Tryz.sizeOf30 (by simp) (by simp) (one_u64 _) rfl ?_
          refine lx_nil ?_
          refine x_seq ?_
          refine xs_plain (E := EE []) ?_
          refine lx_loada 9 rfl rfl Tryz.isAgg30 Tryz.sizeOf30 (by simp) rfl rfl ?_
          refine lx_callB true rfl rfl ent58 (e2isZero _) (decide_eq_true h3) rfl rfl ?_
          refine lx_move rfl rfl rfl ?_
          refine lx_loada 10 rfl rfl Tryz.isAgg30 Tryz.sizeOf30 (by simp) rfl rfl ?_
          refine lx_callB false rfl rfl ent58 (e2isZero _) (decide_eq_false h4) rfl rfl ?_
          refine lx_pick rfl rfl rfl rfl rfl ?_
          refine lx_nil ?_
          refine x_false rfl ?_
          refine x_skip ?_
          refine x_seq ?_
          refine xs_plain (E := EE []) ?_
          refine lx_loada 9 rfl rfl Tryz.isAgg30 Tryz.sizeOf30 (by simp) rfl rfl ?_
          refine lx_callB true rfl rfl ent58 (e2isZero _) (decide_eq_true h3) rfl rfl ?_
          refine lx_nil ?_
          refine x_true rfl ?_
          refine xs_plain (E := EE []) ?_
          refine lx_threeN three33 rfl rfl ?_
          refine lx_storea 4 hGF rfl rfl rfl Tryz.sizeOf33 (by simp) (by simp) (one_u64 _) rfl ?_
          refine lx_nil ?_
          refine x_ret ?_
          repeat (first | refine kseq_ret ?_ | refine kblk_ret ?_)
          exact kret_own 4 rfl rfl rfl Tryz.isAgg33 Tryz.sizeOf33 (by simp) (fun w hw => ⟨rfl, hp_below hw⟩)
      · skip
        rw [show E2w.adA x y = E2w.adG x y from (if_neg h1).trans ((if_neg h2).trans (if_neg h3))]
        refine calls_of_X (G := Gt) Tryz.func26 rfl rfl (Hp (pl w) []) (hp_refl (pl w) trivial rides_true) (good_hp hGF) ?_
        refine xs_plain (E := EE []) ?_
        refine lx_boxr 2 hGF rfl rfl rfl ?_
        intro b2
        refine lx_boxr 3 hGF rfl rfl rfl ?_
        intro b3
        refine lx_allocr 4 hGF zj33 rfl rfl ?_
        intro b4
        refine lx_nil ?_
        refine x_seq ?_
        refine xs_plain (E := EE []) ?_
        refine lx_loada 2 rfl rfl Tryz.isAgg33 Tryz.sizeOf33 (by simp) rfl rfl ?_
        refine lx_callB false rfl rfl ent16 (jisInf _) (decide_eq_false h1) rfl rfl ?_
        refine lx_nil ?_
        refine x_false rfl ?_
        refine x_skip ?_
        refine x_seq ?_
        refine xs_plain (E := EE []) ?_
        refine lx_loada 3 rfl rfl Tryz.isAgg33 Tryz.sizeOf33 (by simp) rfl rfl ?_
        refine lx_callB false rfl rfl ent16 (jisInf _) (decide_eq_false h2) rfl rfl ?_
        refine lx_nil ?_
        refine x_false rfl ?_
        refine x_skip ?_
        refine xs_drawA (E := EE [2999999]) [0, 1, 2, 3, 4, 5] [⟨6, 5, 30, (fe 0 ++ fe 0).map U64⟩, ⟨7, 6, 30, (fe 0 ++ fe 0).map U64⟩] [8, 9] mixed rfl (by kernel_rfl) (by kernel_rfl) (by kernel_rfl) (by kernel_rfl) (by kernel_rfl) (by kernel_rfl) (by decide) (by intro x hx; simp only [List.mem_cons, List.not_mem_nil, or_false] at hx; rcases hx with rfl | rfl <;> exact isAlloc_mk rfl zv30 rfl) ?_
        refine lx_fak 24 rfl Tryz.underlying33 rfl Tryz.sizeOf30 (by decide) rfl rfl rfl ?_
        refine lx_loado 2 _ rfl rfl Tryz.isAgg30 Tryz.sizeOf30 (by simp) (ld_rr (m := 12) (n := 12) (by simp) (by simp) rfl) rfl rfl ?_
        refine lx_call rfl rfl ent51 (e2square _) rfl rfl ?_
        refine lx_fak 24 rfl Tryz.underlying33 rfl Tryz.sizeOf30 (by decide) rfl rfl rfl ?_
        refine lx_loado 3 _ rfl rfl Tryz.isAgg30 Tryz.sizeOf30 (by simp) (ld_rr (m := 12) (n := 12) (by simp) (by simp) rfl) rfl rfl ?_
        refine lx_call rfl rfl ent51 (e2square _) rfl rfl ?_
        refine lx_nil ?_
        refine ⟨_, _, rfl, hGF, by intro x hx; simp only [List.mem_cons, List.not_mem_nil, or_false] at hx; rcases hx with rfl | rfl <;> rfl, by intro x hx; simp only [List.mem_cons, List.not_mem_nil, or_false] at hx; rcases hx with rfl | rfl <;> rfl, fun adr => ?_⟩
        refine lx_storea 5 hGF rfl rfl rfl Tryz.sizeOf30 (by simp) (by simp) (one_u64 _) rfl ?_
        refine lx_storea 6 hGF rfl rfl rfl Tryz.sizeOf30 (by simp) (by simp) (one_u64 _) rfl ?_
        refine lx_nil ?_
        refine xs_drawA (E := EE [2999999]) [0, 1, 2, 3, 4, 5, 6, 7, 8, 9, 10] [⟨11, 7, 30, (fe 0 ++ fe 0).map U64⟩, ⟨12, 8, 30, (fe 0 ++ fe 0).map U64⟩] [13, 14] mixed rfl (by kernel_rfl) (by kernel_rfl) (by kernel_rfl) (by kernel_rfl) (by kernel_rfl) (by kernel_rfl) (by decide) (by intro x hx; simp only [List.mem_cons, List.not_mem_nil, or_false] at hx; rcases hx with rfl | rfl <;> exact isAlloc_mk rfl zv30 rfl) ?_
        refine lx_fak 0 rfl Tryz.underlying33 rfl Tryz.sizeOf30 (by decide) rfl rfl rfl ?_
        refine lx_loado 2 _ rfl rfl Tryz.isAgg30 Tryz.sizeOf30 (by simp) ld_l rfl rfl ?_
        refine lx_loada 6 rfl rfl Tryz.isAgg30 Tryz.sizeOf30 (by simp) rfl rfl ?_
        refine lx_call rfl rfl ent60 (e2mul _ _) rfl rfl ?_
        refine lx_fak 12 rfl Tryz.underlying33 rfl Tryz.sizeOf30 (by decide) rfl rfl rfl ?_
        refine lx_loado 2 _ rfl rfl Tryz.isAgg30 Tryz.sizeOf30 (by simp) (ld_m (by simp)) rfl rfl ?_
        refine lx_loada 6 rfl rfl Tryz.isAgg30 Tryz.sizeOf30 (by simp) rfl rfl ?_
        refine lx_call rfl rfl ent60 (e2mul _ _) rfl rfl ?_
        refine lx_fak 24 rfl Tryz.underlying33 rfl Tryz.sizeOf30 (by decide) rfl rfl rfl ?_
        refine lx_loado 3 _ rfl rfl Tryz.isAgg30 Tryz.sizeOf30 (by simp) (ld_rr (m := 12) (n := 12) (by simp) (by simp) rfl) rfl rfl ?_
        refine lx_call rfl rfl ent60 (e2mul _ _) rfl rfl ?_
        refine lx_nil ?_
        refine ⟨_, _, rfl, hGF, by intro x hx; simp only [List.mem_cons, List.not_mem_nil, or_false] at hx; rcases hx with rfl | rfl <;> rfl, by intro x hx; simp only [List.mem_cons, List.not_mem_nil, or_false] at hx; rcases hx with rfl | rfl <;> rfl, fun adr => ?_⟩
        refine lx_storea 7 hGF rfl rfl rfl Tryz.sizeOf30 (by simp) (by simp) (one_u64 _) rfl ?_
        refine lx_storea 8 hGF rfl rfl rfl Tryz.sizeOf30 (by simp) (by simp) (one_u64 _) rfl ?_
        refine lx_nil ?_
        refine xs_drawA (E := EE [2999999]) [0, 1, 2, 3, 4, 5] [⟨6, 9, 30, (fe 0 ++ fe 0).map U64⟩] [7] mixed rfl (by kernel_rfl) (by kernel_rfl) (by kernel_rfl) (by kernel_rfl) (by kernel_rfl) (by kernel_rfl) (by decide) (by intro x hx; simp only [List.mem_cons, List.not_mem_nil, or_false] at hx; subst hx; exact isAlloc_mk rfl zv30 rfl) ?_
        refine lx_fak 0 rfl Tryz.underlying33 rfl Tryz.sizeOf30 (by decide) rfl rfl rfl ?_
        refine lx_loado 3 _ rfl rfl Tryz.isAgg30 Tryz.sizeOf30 (by simp) ld_l rfl rfl ?_
        refine lx_loada 5 rfl rfl Tryz.isAgg30 Tryz.sizeOf30 (by simp) rfl rfl ?_
        refine lx_call rfl rfl ent60 (e2mul _ _) rfl rfl ?_
        refine lx_loada 7 rfl rfl Tryz.isAgg30 Tryz.sizeOf30 (by simp) rfl rfl ?_
        refine lx_call rfl rfl ent73 (e2subE _ _) rfl rfl ?_
        refine lx_nil ?_
        refine ⟨_, _, rfl, hGF, by intro x hx; simp only [List.mem_cons, List.not_mem_nil, or_false] at hx; subst hx; rfl, by intro x hx; simp only [List.mem_cons, List.not_mem_nil, or_false] at hx; subst hx; rfl, fun adr => ?_⟩
        refine lx_storea 9 hGF rfl rfl rfl Tryz.sizeOf30 (by simp) (by simp) (one_u64 _) rfl ?_
        refine lx_nil ?_
        refine xs_drawA (E := EE [2999999]) [0, 1, 2, 3, 4, 5, 6, 7, 8] [⟨9, 10, 30, (fe 0 ++ fe 0).map U64⟩] [10] mixed rfl (by kernel_rfl) (by kernel_rfl) (by kernel_rfl) (by kernel_rfl) (by kernel_rfl) (by kernel_rfl) (by decide) (by intro x hx; simp only [List.mem_cons, List.not_mem_nil, or_false] at hx; subst hx; exact isAlloc_mk rfl zv30 rfl) ?_
        refine lx_fak 12 rfl Tryz.underlying33 rfl Tryz.sizeOf30 (by decide) rfl rfl rfl ?_
        refine lx_loado 3 _ rfl rfl Tryz.isAgg30 Tryz.sizeOf30 (by simp) (ld_m (by simp)) rfl rfl ?_
        refine lx_loada 5 rfl rfl Tryz.isAgg30 Tryz.sizeOf30 (by simp) rfl rfl ?_
        refine lx_call rfl rfl ent60 (e2mul _ _) rfl rfl ?_
        refine lx_fak 24 rfl Tryz.underlying33 rfl Tryz.sizeOf30 (by decide) rfl rfl rfl ?_
        refine lx_loado 2 _ rfl rfl Tryz.isAgg30 Tryz.sizeOf30 (by simp) (ld_rr (m := 12) (n := 12) (by simp) (by simp) rfl) rfl rfl ?_
        refine lx_call rfl rfl ent60 (e2mul _ _) rfl rfl ?_
        refine lx_loada 8 rfl rfl Tryz.isAgg30 Tryz.sizeOf30 (by simp) rfl rfl ?_
        refine lx_call rfl rfl ent73 (e2subE _ _) rfl rfl ?_
        refine lx_nil ?_
        refine ⟨_, _, rfl, hGF, by intro x hx; simp only [List.mem_cons, List.not_mem_nil, or_false] at hx; subst hx; rfl, by intro x hx; simp only [List.mem_cons, List.not_mem_nil, or_false] at hx; subst hx; rfl, fun adr => ?_⟩
        refine lx_storea 10 hGF rfl rfl rfl Tryz.sizeOf30 (by simp) (by simp) (one_u64 _) rfl ?_
        refine lx_nil ?_
        refine x_seq ?_
        refine xs_plain (E := EE []) ?_
        refine lx_loada 9 rfl rfl Tryz.isAgg30 Tryz.sizeOf30 (by simp) rfl rfl ?_
        refine lx_callB false rfl rfl ent58 (e2isZero _) (decide_eq_false h3) rfl rfl ?_
        refine lx_move rfl rfl rfl ?_
        refine lx_skip rfl rfl rfl ?_
        refine lx_skip rfl rfl rfl ?_
        refine lx_pick rfl rfl rfl rfl rfl ?_
        refine lx_nil ?_
        refine x_false rfl ?_
        refine x_skip ?_
        refine x_seq ?_
        refine xs_plain (E := EE []) ?_
        refine lx_loada 9 rfl rfl Tryz.isAgg30 Tryz.sizeOf30 (by simp) rfl rfl ?_
        refine lx_callB false rfl rfl ent58 (e2isZero _) (decide_eq_false h3) rfl rfl ?_
        refine lx_nil ?_
        refine x_false rfl ?_
        refine x_skip ?_
        refine xs_plain (E := EE []) ?_
        refine lx_loada 9 rfl rfl Tryz.isAgg30 Tryz.sizeOf30 (by simp) rfl rfl ?_
        refine lx_call rfl rfl ent51 (e2square _) rfl rfl ?_
        refine lx_allocr 11 hGF zv30 rfl rfl ?_
        intro b11
        refine lx_storea 11 hGF rfl rfl rfl Tryz.sizeOf30 (by simp) (by simp) (one_u64 _) rfl ?_
        refine lx_nil ?_
        refine xs_drawA (E := EE [2999999]) [0, 1, 2, 3, 4, 5] [⟨6, 12, 30, (fe 0 ++ fe 0).map U64⟩, ⟨7, 13, 30, (fe 0 ++ fe 0).map U64⟩] [8, 9] mixed rfl (by kernel_rfl) (by kernel_rfl) (by kernel_rfl) (by kernel_rfl) (by kernel_rfl) (by kernel_rfl) (by decide) (by intro x hx; simp only [List.mem_cons, List.not_mem_nil, or_false] at hx; rcases hx with rfl | rfl <;> exact isAlloc_mk rfl zv30 rfl) ?_
        refine lx_loada 11 rfl rfl Tryz.isAgg30 Tryz.sizeOf30 (by simp) rfl rfl ?_
        refine lx_loada 9 rfl rfl Tryz.isAgg30 Tryz.sizeOf30 (by simp) rfl rfl ?_
        refine lx_call rfl rfl ent60 (e2mul _ _) rfl rfl ?_
        refine lx_loada 11 rfl rfl Tryz.isAgg30 Tryz.sizeOf30 (by simp) rfl rfl ?_
        refine lx_loada 7 rfl rfl Tryz.isAgg30 Tryz.sizeOf30 (by simp) rfl rfl ?_
        refine lx_call rfl rfl ent60 (e2mul _ _) rfl rfl ?_
        refine lx_nil ?_
        refine ⟨_, _, rfl, hGF, by intro x hx; simp only [List.mem_cons, List.not_mem_nil, or_false] at hx; rcases hx with rfl | rfl <;> rfl, by intro x hx; simp only [List.mem_cons, List.not_mem_nil, or_false] at hx; rcases hx with rfl | rfl <;> rfl, fun adr => ?_⟩
        refine lx_storea 12 hGF rfl rfl rfl Tryz.sizeOf30 (by simp) (by simp) (one_u64 _) rfl ?_
        refine lx_storea 13 hGF rfl rfl rfl Tryz.sizeOf30 (by simp) (by simp) (one_u64 _) rfl ?_
        refine lx_nil ?_
        refine xs_drawn (E := EE []) mixed (by kernel_rfl) (by kernel_rfl) (by kernel_rfl) ?_
        refine lx_loada 10 rfl rfl Tryz.isAgg30 Tryz.sizeOf30 (by simp) rfl rfl ?_
        refine lx_call rfl rfl ent51 (e2square _) rfl rfl ?_
        refine lx_loada 12 rfl rfl Tryz.isAgg30 Tryz.sizeOf30 (by simp) rfl rfl ?_
        refine lx_call rfl rfl ent73 (e2subE _ _) rfl rfl ?_
        refine lx_loada 13 rfl rfl Tryz.isAgg30 Tryz.sizeOf30 (by simp) rfl rfl ?_
        refine lx_call rfl rfl ent73 (e2subE _ _) rfl rfl ?_
        refine lx_loada 13 rfl rfl Tryz.isAgg30 Tryz.sizeOf30 (by simp) rfl rfl ?_
        refine lx_call rfl rfl ent73 (e2subE _ _) rfl rfl ?_
        refine lx_storea 7 hGF rfl rfl rfl Tryz.sizeOf30 (by simp) (by simp) (one_u64 _) rfl ?_
        refine lx_nil ?_
        refine xs_drawn (E := EE []) mixed (by kernel_rfl) (by kernel_rfl) (by kernel_rfl) ?_
        refine lx_loada 10 rfl rfl Tryz.isAgg30 Tryz.sizeOf30 (by simp) rfl rfl ?_
        refine lx_loada 13 rfl rfl Tryz.isAgg30 Tryz.sizeOf30 (by simp) rfl rfl ?_
        refine lx_loada 7 rfl rfl Tryz.isAgg30 Tryz.sizeOf30 (by simp) rfl rfl ?_
        refine lx_call rfl rfl ent73 (e2subE _ _) rfl rfl ?_
        refine lx_call rfl rfl ent60 (e2mul _ _) rfl rfl ?_
        refine lx_loada 12 rfl rfl Tryz.isAgg30 Tryz.sizeOf30 (by simp) rfl rfl ?_
        refine lx_loada 8 rfl rfl Tryz.isAgg30 Tryz.sizeOf30 (by simp) rfl rfl ?_
        refine lx_call rfl rfl ent60 (e2mul _ _) rfl rfl ?_
        refine lx_call rfl rfl ent73 (e2subE _ _) rfl rfl ?_
        refine lx_storea 8 hGF rfl rfl rfl Tryz.sizeOf30 (by simp) (by simp) (one_u64 _) rfl ?_
        refine lx_nil ?_
        refine xs_drawn (E := EE []) mixed (by kernel_rfl) (by kernel_rfl) (by kernel_rfl) ?_
        refine lx_loada 7 rfl rfl Tryz.isAgg30 Tryz.sizeOf30 (by simp) rfl rfl ?_
        refine lx_loada 8 rfl rfl Tryz.isAgg30 Tryz.sizeOf30 (by simp) rfl rfl ?_
        refine lx_fak 24 rfl Tryz.underlying33 rfl Tryz.sizeOf30 (by decide) rfl rfl rfl ?_
        refine lx_loado 2 _ rfl rfl Tryz.isAgg30 Tryz.sizeOf30 (by simp) (ld_rr (m := 12) (n := 12) (by simp) (by simp) rfl) rfl rfl ?_
        refine lx_fak 24 rfl Tryz.underlying33 rfl Tryz.sizeOf30 (by decide) rfl rfl rfl ?_
        refine lx_loado 3 _ rfl rfl Tryz.isAgg30 Tryz.sizeOf30 (by simp) (ld_rr (m := 12) (n := 12) (by simp) (by simp) rfl) rfl rfl ?_
        refine lx_call rfl rfl ent60 (e2mul _ _) rfl rfl ?_
        refine lx_loada 9 rfl rfl Tryz.isAgg30 Tryz.sizeOf30 (by simp) rfl rfl ?_
        refine lx_call rfl rfl ent60 (e2mul _ _) rfl rfl ?_
        refine lx_three012 three33 rfl rfl rfl (by simp) (by simp) (by simp) rfl rfl ?_
        refine lx_storea 4 hGF rfl rfl rfl Tryz.sizeOf33 (by simp) (by simp) (one_u64 _) rfl ?_
        refine lx_nil ?_
        refine x_ret ?_
        repeat (first | refine kseq_ret ?_ | refine kblk_ret ?_)
        exact kret_own 4 rfl rfl rfl Tryz.isAgg33 Tryz.sizeOf33 (by simp) (fun w hw => ⟨rfl, hp_below hw⟩)
theorem jequal (x y : W6) (hd : Decidable (E2w.eqJ x y)) (b : Bool) (hb : b = decide (E2w.eqJ x y)) : Pure Tryz.prog Gt 23 [EV6 x, EV6 y] (.bool b) := by
  intro w hw
  have hGF : BOk Gt (pl w) := gt_low.plain hw
  by_cases h1 : x.2.2 = ze2
  · skip
    by_cases h2 : y.2.2 = ze2
    · skip
      obtain rfl : b = true := hb.trans (decide_eq_true (.inl ⟨h1, h2⟩))
      refine calls_of_X (G := Gt) Tryz.func23 rfl rfl (Hp (pl w) []) (hp_refl (pl w) trivial rides_true) (good_hp hGF) ?_
      refine xs_plain (E := EE []) ?_
      refine lx_boxr 2 hGF rfl rfl rfl ?_
      intro b2
      refine lx_boxr 3 hGF rfl rfl rfl ?_
      intro b3
      refine lx_assign rfl rfl rfl ?_
      refine lx_nil ?_
      refine x_seq ?_
      refine xs_plain (E := EE []) ?_
      refine lx_loada 2 rfl rfl Tryz.isAgg33 Tryz.sizeOf33 (by simp) rfl rfl ?_
      refine lx_callB true rfl rfl ent16 (jisInf _) (decide_eq_true h1) rfl rfl ?_
      refine lx_move rfl rfl rfl ?_
      refine lx_skip rfl rfl rfl ?_
      refine lx_skip rfl rfl rfl ?_
      refine lx_pick rfl rfl rfl rfl rfl ?_
      refine lx_nil ?_
      refine x_true rfl ?_
      refine xs_plain (E := EE []) ?_
      refine lx_loada 2 rfl rfl Tryz.isAgg33 Tryz.sizeOf33 (by simp) rfl rfl ?_
      refine lx_callB true rfl rfl ent16 (jisInf _) (decide_eq_true h1) rfl rfl ?_
      refine lx_move rfl rfl rfl ?_
      refine lx_loada 3 rfl rfl Tryz.isAgg33 Tryz.sizeOf33 (by simp) rfl rfl ?_
      refine lx_callB true rfl rfl ent16 (jisInf _) (decide_eq_true h2) rfl rfl ?_
      refine lx_pick rfl rfl rfl rfl rfl ?_
      refine lx_assign rfl rfl rfl ?_
      refine lx_nil ?_
      refine x_ret ?_
      repeat (first | refine kseq_ret ?_ | refine kblk_ret ?_)
      exact kret_tmp rfl rfl (fun w hw => ⟨rfl, hp_below hw⟩)
    · skip
      obtain rfl : b = false := hb.trans (decide_eq_false (fun e => e.elim (fun e => h2 e.2) (fun e => e.1 h1)))
      refine calls_of_X (G := Gt) Tryz.func23 rfl rfl (Hp (pl w) []) (hp_refl (pl w) trivial rides_true) (good_hp hGF) ?_
      refine xs_plain (E := EE []) ?_
      refine lx_boxr 2 hGF rfl rfl rfl ?_
      intro b2
      refine lx_boxr 3 hGF rfl rfl rfl ?_
      intro b3
      refine lx_assign rfl rfl rfl ?_
      refine lx_nil ?_
      refine x_seq ?_
      refine xs_plain (E := EE []) ?_
      refine lx_loada 2 rfl rfl Tryz.isAgg33 Tryz.sizeOf33 (by simp) rfl rfl ?_
      refine lx_callB true rfl rfl ent16 (jisInf _) (decide_eq_true h1) rfl rfl ?_
      refine lx_move rfl rfl rfl ?_
      refine lx_skip rfl rfl rfl ?_
      refine lx_skip rfl rfl rfl ?_
      refine lx_pick rfl rfl rfl rfl rfl ?_
      refine lx_nil ?_
      refine x_true rfl ?_
      refine xs_plain (E := EE []) ?_
      refine lx_loada 2 rfl rfl Tryz.isAgg33 Tryz.sizeOf33 (by simp) rfl rfl ?_
      refine lx_callB true rfl rfl ent16 (jisInf _) (decide_eq_true h1) rfl rfl ?_
      refine lx_move rfl rfl rfl ?_
      refine lx_loada 3 rfl rfl Tryz.isAgg33 Tryz.sizeOf33 (by simp) rfl rfl ?_
      refine lx_callB false rfl rfl ent16 (jisInf _) (decide_eq_false h2) rfl rfl ?_
      refine lx_pick rfl rfl rfl rfl rfl ?_
      refine lx_assign rfl rfl rfl ?_
      refine lx_nil ?_
      refine x_ret ?_
      repeat (first | refine kseq_ret ?_ | refine kblk_ret ?_)
      exact kret_tmp rfl rfl (fun w hw => ⟨rfl, hp_below hw⟩)
  · skip
    by_cases h2 : y.2.2 = ze2
    · skip
      obtain rfl : b = false := hb.trans (decide_eq_false (fun e => e.elim (fun e => h1 e.1) (fun e => e.2.1 h2)))
      refine calls_of_X (G := Gt) Tryz.func23 rfl rfl (Hp (pl w) []) (hp_refl (pl w) trivial rides_true) (good_hp hGF) ?_
      refine xs_plain (E := EE []) ?_
      refine lx_boxr 2 hGF rfl rfl rfl ?_
      intro b2
      refine lx_boxr 3 hGF rfl rfl rfl ?_
      intro b3
      refine lx_assign rfl rfl rfl ?_
      refine lx_nil ?_
      refine x_seq ?_
      refine xs_plain (E := EE []) ?_
      refine lx_loada 2 rfl rfl Tryz.isAgg33 Tryz.sizeOf33 (by simp) rfl rfl ?_
      refine lx_callB false rfl rfl ent16 (jisInf _) (decide_eq_false h1) rfl rfl ?_
      refine lx_move rfl rfl rfl ?_
      refine lx_loada 3 rfl rfl Tryz.isAgg33 Tryz.sizeOf33 (by simp) rfl rfl ?_
      refine lx_callB true rfl rfl ent16 (jisInf _) (decide_eq_true h2) rfl rfl ?_
      refine lx_pick rfl rfl rfl rfl rfl ?_
      refine lx_nil ?_
      refine x_true rfl ?_
      refine xs_plain (E := EE []) ?_
      refine lx_loada 2 rfl rfl Tryz.isAgg33 Tryz.sizeOf33 (by simp) rfl rfl ?_
      refine lx_callB false rfl rfl ent16 (jisInf _) (decide_eq_false h1) rfl rfl ?_
      refine lx_move rfl rfl rfl ?_
      refine lx_skip rfl rfl rfl ?_
      refine lx_skip rfl rfl rfl ?_
      refine lx_pick rfl rfl rfl rfl rfl ?_
      refine lx_assign rfl rfl rfl ?_
      refine lx_nil ?_
      refine x_ret ?_
      repeat (first | refine kseq_ret ?_ | refine kblk_ret ?_)
      exact kret_tmp rfl rfl (fun w hw => ⟨rfl, hp_below hw⟩)
    · skip
      by_cases h3 : ml2 x.1 (ml2 y.2.2 y.2.2) = ml2 y.1 (ml2 x.2.2 x.2.2)
      · skip
        by_cases h4 : ml2 x.2.1 (ml2 (ml2 y.2.2 y.2.2) y.2.2) = ml2 y.2.1 (ml2 (ml2 x.2.2 x.2.2) x.2.2)
        · skip
          obtain rfl : b = true := hb.trans (decide_eq_true (.inr ⟨h1, h2, h3, h4⟩))
          refine calls_of_X (G := Gt) Tryz.func23 rfl rfl (Hp (pl w) []) (hp_refl (pl w) trivial rides_true) (good_hp hGF) ?_
          refine xs_plain (E := EE []) ?_
          refine lx_boxr 2 hGF rfl rfl rfl ?_
          intro b2
          refine lx_boxr 3 hGF rfl rfl rfl ?_
          intro b3
          refine lx_assign rfl rfl rfl ?_
          refine lx_nil ?_
          refine x_seq ?_
          refine xs_plain (E := EE []) ?_
          refine lx_loada 2 rfl rfl Tryz.isAgg33 Tryz.sizeOf33 (by simp) rfl rfl ?_
          refine lx_callB false rfl rfl ent16 (jisInf _) (decide_eq_false h1) rfl rfl ?_
          refine lx_move rfl rfl rfl ?_
          refine lx_loada 3 rfl rfl Tryz.isAgg33 Tryz.sizeOf33 (by simp) rfl rfl ?_
          refine lx_callB false rfl rfl ent16 (jisInf _) (decide_eq_false h2) rfl rfl ?_
          refine lx_pick rfl rfl rfl rfl rfl ?_
          refine lx_nil ?_
          refine x_false rfl ?_
          refine x_skip ?_
          refine xs_drawA (E := EE [2999999]) [0, 1, 2, 3, 4, 5, 6, 7, 8, 9, 10, 11] [⟨12, 5, 30, (fe 0 ++ fe 0).map U64⟩, ⟨13, 6, 30, (fe 0 ++ fe 0).map U64⟩] [14, 15] mixed rfl (by kernel_rfl) (by kernel_rfl) (by kernel_rfl) (by kernel_rfl) (by kernel_rfl) (by kernel_rfl) (by decide) (by intro x hx; simp only [List.mem_cons, List.not_mem_nil, or_false] at hx; rcases hx with rfl | rfl <;> exact isAlloc_mk rfl zv30 rfl) ?_
          refine lx_fak 12 rfl Tryz.underlying33 rfl Tryz.sizeOf30 (by decide) rfl rfl rfl ?_
          refine lx_loado 2 _ rfl rfl Tryz.isAgg30 Tryz.sizeOf30 (by simp) (ld_m (by simp)) rfl rfl ?_
          refine lx_fak 24 rfl Tryz.underlying33 rfl Tryz.sizeOf30 (by decide) rfl rfl rfl ?_
          refine lx_loado 3 _ rfl rfl Tryz.isAgg30 Tryz.sizeOf30 (by simp) (ld_rr (m := 12) (n := 12) (by simp) (by simp) rfl) rfl rfl ?_
          refine lx_call rfl rfl ent69 (jcube _) rfl rfl ?_
          refine lx_call rfl rfl ent60 (e2mul _ _) rfl rfl ?_
          refine lx_fak 12 rfl Tryz.underlying33 rfl Tryz.sizeOf30 (by decide) rfl rfl rfl ?_
          refine lx_loado 3 _ rfl rfl Tryz.isAgg30 Tryz.sizeOf30 (by simp) (ld_m (by simp)) rfl rfl ?_
          refine lx_fak 24 rfl Tryz.underlying33 rfl Tryz.sizeOf30 (by decide) rfl rfl rfl ?_
          refine lx_loado 2 _ rfl rfl Tryz.isAgg30 Tryz.sizeOf30 (by simp) (ld_rr (m := 12) (n := 12) (by simp) (by simp) rfl) rfl rfl ?_
          refine lx_call rfl rfl ent69 (jcube _) rfl rfl ?_
          refine lx_call rfl rfl ent60 (e2mul _ _) rfl rfl ?_
          refine lx_nil ?_
          refine ⟨_, _, rfl, hGF, by intro x hx; simp only [List.mem_cons, List.not_mem_nil, or_false] at hx; rcases hx with rfl | rfl <;> rfl, by intro x hx; simp only [List.mem_cons, List.not_mem_nil, or_false] at hx; rcases hx with rfl | rfl <;> rfl, fun adr => ?_⟩
          refine lx_storea 5 hGF rfl rfl rfl Tryz.sizeOf30 (by simp) (by simp) (one_u64 _) rfl ?_
          refine lx_storea 6 hGF rfl rfl rfl Tryz.sizeOf30 (by simp) (by simp) (one_u64 _) rfl ?_
          refine lx_nil ?_
          refine xs_drawn (E := EE []) mixed (by kernel_rfl) (by kernel_rfl) (by kernel_rfl) ?_
          refine lx_fak 0 rfl Tryz.underlying33 rfl Tryz.sizeOf30 (by decide) rfl rfl rfl ?_
          refine lx_loado 2 _ rfl rfl Tryz.isAgg30 Tryz.sizeOf30 (by simp) ld_l rfl rfl ?_
          refine lx_fak 24 rfl Tryz.underlying33 rfl Tryz.sizeOf30 (by decide) rfl rfl rfl ?_
          refine lx_loado 3 _ rfl rfl Tryz.isAgg30 Tryz.sizeOf30 (by simp) (ld_rr (m := 12) (n := 12) (by simp) (by simp) rfl) rfl rfl ?_
          refine lx_call rfl rfl ent51 (e2square _) rfl rfl ?_
          refine lx_call rfl rfl ent60 (e2mul _ _) rfl rfl ?_
          refine lx_fak 0 rfl Tryz.underlying33 rfl Tryz.sizeOf30 (by decide) rfl rfl rfl ?_
          refine lx_loado 3 _ rfl rfl Tryz.isAgg30 Tryz.sizeOf30 (by simp) ld_l rfl rfl ?_
          refine lx_fak 24 rfl Tryz.underlying33 rfl Tryz.sizeOf30 (by decide) rfl rfl rfl ?_
          refine lx_loado 2 _ rfl rfl Tryz.isAgg30 Tryz.sizeOf30 (by simp) (ld_rr (m := 12) (n := 12) (by simp) (by simp) rfl) rfl rfl ?_
          refine lx_call rfl rfl ent51 (e2square _) rfl rfl ?_
          refine lx_call rfl rfl ent60 (e2mul _ _) rfl rfl ?_
          refine lx_callB true rfl rfl ent18 (e2equal _ _) (decide_eq_true h3) rfl rfl ?_
          refine lx_move rfl rfl rfl ?_
          refine lx_loada 5 rfl rfl Tryz.isAgg30 Tryz.sizeOf30 (by simp) rfl rfl ?_
          refine lx_loada 6 rfl rfl Tryz.isAgg30 Tryz.sizeOf30 (by simp) rfl rfl ?_
          refine lx_callB true rfl rfl ent18 (e2equal _ _) (decide_eq_true h4) rfl rfl ?_
          refine lx_pick rfl rfl rfl rfl rfl ?_
          refine lx_assign rfl rfl rfl ?_
          refine lx_nil ?_
          refine x_ret ?_
          repeat (first | refine kseq_ret ?_ | refine kblk_ret ?_)
          exact kret_tmp rfl rfl (fun w hw => ⟨rfl, hp_below hw⟩)
        · skip
          obtain rfl : b = false := hb.trans (decide_eq_false (fun e => e.elim (fun e => h1 e.1) (fun e => h4 e.2.2.2)))
          refine calls_of_X (G := Gt) Tryz.func23 rfl rfl (Hp (pl w) []) (hp_refl (pl w) trivial rides_true) (good_hp hGF) ?_
          refine xs_plain (E := EE []) ?_
          refine lx_boxr 2 hGF rfl rfl rfl ?_
          intro b2
          refine lx_boxr 3 hGF rfl rfl rfl ?_
          intro b3
          refine lx_assign rfl rfl rfl ?_
          refine lx_nil ?_
          refine x_seq ?_
          refine xs_plain (E := EE []) ?_
          refine lx_loada 2 rfl rfl Tryz.isAgg33 Tryz.sizeOf33 (by simp) rfl rfl ?_
          refine lx_callB false rfl rfl ent16 (jisInf _) (decide_eq_false h1) rfl rfl ?_
          refine lx_move rfl rfl rfl ?_
          refine lx_loada 3 rfl rfl Tryz.isAgg33 Tryz.sizeOf33 (by simp) rfl rfl ?_
          refine lx_callB false rfl rfl ent16 (jisInf _) (decide_eq_false h2) rfl rfl ?_
          refine lx_pick rfl rfl rfl rfl rfl ?_
          refine lx_nil ?_
          refine x_false rfl ?_
          refine x_skip ?_
          refine xs_drawA (E := EE [2999999]) [0, 1, 2, 3, 4, 5, 6, 7, 8, 9, 10, 11] [⟨12, 5, 30, (fe 0 ++ fe 0).map U64⟩, ⟨13, 6, 30, (fe 0 ++ fe 0).map U64⟩] [14, 15] mixed rfl (by kernel_rfl) (by kernel_rfl) (by kernel_rfl) (by kernel_rfl) (by kernel_rfl) (by kernel_rfl) (by decide) (by intro x hx; simp only [List.mem_cons, List.not_mem_nil, or_false] at hx; rcases hx with rfl | rfl <;> exact isAlloc_mk rfl zv30 rfl) ?_
          refine lx_fak 12 rfl Tryz.underlying33 rfl Tryz.sizeOf30 (by decide) rfl rfl rfl ?_
          refine lx_loado 2 _ rfl rfl Tryz.isAgg30 Tryz.sizeOf30 (by simp) (ld_m (by simp)) rfl rfl ?_
          refine lx_fak 24 rfl Tryz.underlying33 rfl Tryz.sizeOf30 (by decide) rfl rfl rfl ?_
          refine lx_loado 3 _ rfl rfl Tryz.isAgg30 Tryz.sizeOf30 (by simp) (ld_rr (m := 12) (n := 12) (by simp) (by simp) rfl) rfl rfl ?_
          refine lx_call rfl rfl ent69 (jcube _) rfl rfl ?_
          refine lx_call rfl rfl ent60 (e2mul _ _) rfl rfl ?_
          refine lx_fak 12 rfl Tryz.underlying33 rfl Tryz.sizeOf30 (by decide) rfl rfl rfl ?_
          refine lx_loado 3 _ rfl rfl Tryz.isAgg30 Tryz.sizeOf30 (by simp) (ld_m (by simp)) rfl rfl ?_
          refine lx_fak 24 rfl Tryz.underlying33 rfl Tryz.sizeOf30 (by decide) rfl rfl rfl ?_
          refine lx_loado 2 _ rfl rfl Tryz.isAgg30 Tryz.sizeOf30 (by simp) (ld_rr (m := 12) (n := 12) (by simp) (by simp) rfl) rfl rfl ?_
          refine lx_call rfl rfl ent69 (jcube _) rfl rfl ?_
          refine lx_call rfl rfl ent60 (e2mul _ _) rfl rfl ?_
          refine lx_nil ?_
          refine ⟨_, _, rfl, hGF, by intro x hx; simp only [List.mem_cons, List.not_mem_nil, or_false] at hx; rcases hx with rfl | rfl <;> rfl, by intro x hx; simp only [List.mem_cons, List.not_mem_nil, or_false] at hx; rcases hx with rfl | rfl <;> rfl, fun adr => ?_⟩
          refine lx_storea 5 hGF rfl rfl rfl Tryz.sizeOf30 (by simp) (by simp) (one_u64 _) rfl ?_
          refine lx_storea 6 hGF rfl rfl rfl Tryz.sizeOf30 (by simp) (by simp) (one_u64 _) rfl ?_
          refine lx_nil ?_
          refine xs_drawn (E := EE []) mixed (by kernel_rfl) (by kernel_rfl) (by kernel_rfl) ?_
          refine lx_fak 0 rfl Tryz.underlying33 rfl Tryz.sizeOf30 (by decide) rfl rfl rfl ?_
          refine lx_loado 2 _ rfl rfl Tryz.isAgg30 Tryz.sizeOf30 (by simp) ld_l rfl rfl ?_
          refine lx_fak 24 rfl Tryz.underlying33 rfl Tryz.sizeOf30 (by decide) rfl rfl rfl ?_
          refine lx_loado 3 _ rfl rfl Tryz.isAgg30 Tryz.sizeOf30 (by simp) (ld_rr (m := 12) (n := 12) (by simp) (by simp) rfl) rfl rfl ?_
          refine lx_call rfl rfl ent51 (e2square _) rfl rfl ?_
          refine lx_call rfl rfl ent60 (e2mul _ _) rfl rfl ?_
          refine lx_fak 0 rfl Tryz.underlying33 rfl Tryz.sizeOf30 (by decide) rfl rfl rfl ?_
          refine lx_loado 3 _ rfl rfl Tryz.isAgg30 Tryz.sizeOf30 (by simp) ld_l rfl rfl ?_
          refine lx_fak 24 rfl Tryz.underlying33 rfl Tryz.sizeOf30 (by decide) rfl rfl rfl ?_
          refine lx_loado 2 _ rfl rfl Tryz.isAgg30 Tryz.sizeOf30 (by simp) (ld_rr (m := 12) (n := 12) (by simp) (by simp) rfl) rfl rfl ?_
          refine lx_call rfl rfl ent51 (e2square _) rfl rfl ?_
          refine lx_call rfl rfl ent60 (e2mul _ _) rfl rfl ?_
          refine lx_callB true rfl rfl ent18 (e2equal _ _) (decide_eq_true h3) rfl rfl ?_
          refine lx_move rfl rfl rfl ?_
          refine lx_loada 5 rfl rfl Tryz.isAgg30 Tryz.sizeOf30 (by simp) rfl rfl ?_
          refine lx_loada 6 rfl rfl Tryz.isAgg30 Tryz.sizeOf30 (by simp) rfl rfl ?_
          refine lx_callB false rfl rfl ent18 (e2equal _ _) (decide_eq_false h4) rfl rfl ?_
          refine lx_pick rfl rfl rfl rfl rfl ?_
          refine lx_assign rfl rfl rfl ?_
          refine lx_nil ?_
          refine x_ret ?_
          repeat (first | refine kseq_ret ?_ | refine kblk_ret ?_)
          exact kret_tmp rfl rfl (fun w hw => ⟨rfl, hp_below hw⟩)
      · skip
        obtain rfl : b = false := hb.trans (decide_eq_false (fun e => e.elim (fun e => h1 e.1) (fun e => h3 e.2.2.1)))
        refine calls_of_X (G := Gt) Tryz.func23 rfl rfl (Hp (pl w) []) (hp_refl (pl w) trivial rides_true) (good_hp hGF) ?_
        refine xs_plain (E := EE []) ?_
        refine lx_boxr 2 hGF rfl rfl rfl ?_
        intro b2
        refine lx_boxr 3 hGF rfl rfl rfl ?_
        intro b3
        refine lx_assign rfl rfl rfl ?_
        refine lx_nil ?_
        refine x_seq ?_
        refine xs_plain (E := EE []) ?_
        refine lx_loada 2 rfl rfl Tryz.isAgg33 Tryz.sizeOf33 (by simp) rfl rfl ?_
        refine lx_callB false rfl rfl ent16 (jisInf _) (decide_eq_false h1) rfl rfl ?_
        refine lx_move rfl rfl rfl ?_
        refine lx_loada 3 rfl rfl Tryz.isAgg33 Tryz.sizeOf33 (by simp) rfl rfl ?_
        refine lx_callB false rfl rfl ent16 (jisInf _) (decide_eq_false h2) rfl rfl ?_
        refine lx_pick rfl rfl rfl rfl rfl ?_
        refine lx_nil ?_
        refine x_false rfl ?_
        refine x_skip ?_
        refine xs_drawA (E := EE [2999999]) [0, 1, 2, 3, 4, 5, 6, 7, 8, 9, 10, 11] [⟨12, 5, 30, (fe 0 ++ fe 0).map U64⟩, ⟨13, 6, 30, (fe 0 ++ fe 0).map U64⟩] [14, 15] mixed rfl (by kernel_rfl) (by kernel_rfl) (by kernel_rfl) (by kernel_rfl) (by kernel_rfl) (by kernel_rfl) (by decide) (by intro x hx; simp only [List.mem_cons, List.not_mem_nil, or_false] at hx; rcases hx with rfl | rfl <;> exact isAlloc_mk rfl zv30 rfl) ?_
        refine lx_fak 12 rfl Tryz.underlying33 rfl Tryz.sizeOf30 (by decide) rfl rfl rfl ?_
        refine lx_loado 2 _ rfl rfl Tryz.isAgg30 Tryz.sizeOf30 (by simp) (ld_m (by simp)) rfl rfl ?_
        refine lx_fak 24 rfl Tryz.underlying33 rfl Tryz.sizeOf30 (by decide) rfl rfl rfl ?_
        refine lx_loado 3 _ rfl rfl Tryz.isAgg30 Tryz.sizeOf30 (by simp) (ld_rr (m := 12) (n := 12) (by simp) (by simp) rfl) rfl rfl ?_
        refine lx_call rfl rfl ent69 (jcube _) rfl rfl ?_
        refine lx_call rfl rfl ent60 (e2mul _ _) rfl rfl ?_
        refine lx_fak 12 rfl Tryz.underlying33 rfl Tryz.sizeOf30 (by decide) rfl rfl rfl ?_
        refine lx_loado 3 _ rfl rfl Tryz.isAgg30 Tryz.sizeOf30 (by simp) (ld_m (by simp)) rfl rfl ?_
        refine lx_fak 24 rfl Tryz.underlying33 rfl Tryz.sizeOf30 (by decide) rfl rfl rfl ?_
        refine lx_loado 2 _ rfl rfl Tryz.isAgg30 Tryz.sizeOf30 (by simp) (ld_rr (m := 12) (n := 12) (by simp) (by simp) rfl) rfl rfl ?_
        refine lx_call rfl rfl ent69 (jcube _) rfl rfl ?_
        refine lx_call rfl rfl ent60 (e2mul _ _) rfl rfl ?_
        refine lx_nil ?_
        refine ⟨_, _, rfl, hGF, by intro x hx; simp only [List.mem_cons, List.not_mem_nil, or_false] at hx; rcases hx with rfl | rfl <;> rfl, by intro x hx; simp only [List.mem_cons, List.not_mem_nil, or_false] at hx; rcases hx with rfl | rfl <;> rfl, fun adr => ?_⟩
        refine lx_storea 5 hGF rfl rfl rfl Tryz.sizeOf30 (by simp) (by simp) (one_u64 _) rfl ?_
        refine lx_storea 6 hGF rfl rfl rfl Tryz.sizeOf30 (by simp) (by simp) (one_u64 _) rfl ?_
        refine lx_nil ?_
        refine xs_drawn (E := EE []) mixed (by kernel_rfl) (by kernel_rfl) (by kernel_rfl) ?_
        refine lx_fak 0 rfl Tryz.underlying33 rfl Tryz.sizeOf30 (by decide) rfl rfl rfl ?_
        refine lx_loado 2 _ rfl rfl Tryz.isAgg30 Tryz.sizeOf30 (by simp) ld_l rfl rfl ?_
        refine lx_fak 24 rfl Tryz.underlying33 rfl Tryz.sizeOf30 (by decide) rfl rfl rfl ?_
        refine lx_loado 3 _ rfl rfl Tryz.isAgg30 Tryz.sizeOf30 (by simp) (ld_rr (m := 12) (n := 12) (by simp) (by simp) rfl) rfl rfl ?_
        refine lx_call rfl rfl ent51 (e2square _) rfl rfl ?_
        refine lx_call rfl rfl ent60 (e2mul _ _) rfl rfl ?_
        refine lx_fak 0 rfl Tryz.underlying33 rfl Tryz.sizeOf30 (by decide) rfl rfl rfl ?_
        refine lx_loado 3 _ rfl rfl Tryz.isAgg30 Tryz.sizeOf30 (by simp) ld_l rfl rfl ?_
        refine lx_fak 24 rfl Tryz.underlying33 rfl Tryz.sizeOf30 (by decide) rfl rfl rfl ?_
        refine lx_loado 2 _ rfl rfl Tryz.isAgg30 Tryz.sizeOf30 (by simp) (ld_rr (m := 12) (n := 12) (by simp) (by simp) rfl) rfl rfl ?_
        refine lx_call rfl rfl ent51 (e2square _) rfl rfl ?_
        refine lx_call rfl rfl ent60 (e2mul _ _) rfl rfl ?_
        refine lx_callB false rfl rfl ent18 (e2equal _ _) (decide_eq_false h3) rfl rfl ?_
        refine lx_move rfl rfl rfl ?_
        refine lx_skip rfl rfl rfl ?_
        refine lx_skip rfl rfl rfl ?_
        refine lx_skip rfl rfl rfl ?_
        refine lx_pick rfl rfl rfl rfl rfl ?_
        refine lx_assign rfl rfl rfl ?_
        refine lx_nil ?_
        refine x_ret ?_
        repeat (first | refine kseq_ret ?_ | refine kblk_ret ?_)
        exact kret_tmp rfl rfl (fun w hw => ⟨rfl, hp_below hw⟩)
theorem jxy_n (x : W6) (h : x.2.2 = ze2) : Pure Tryz.prog Gt 17 [EV6 x] (.tuple #[EV2 ze2, EV2 ze2, .bool false]) := by
  intro w hw
  have hGF : BOk Gt (pl w) := gt_low.plain hw
  refine calls_of_X (G := Gt) Tryz.func17 rfl rfl (Hp (pl w) []) (hp_refl (pl w) trivial rides_true) (good_hp hGF) ?_
  refine xs_plain (E := EE []) ?_
  refine lx_boxr 1 hGF rfl rfl rfl ?_
  intro b1
  refine lx_allocr 2 hGF zv30 rfl rfl ?_
  intro b2
  refine lx_allocr 3 hGF zv30 rfl rfl ?_
  intro b3
  refine lx_assign rfl rfl rfl ?_
  refine lx_nil ?_
  refine x_seq ?_
  refine xs_plain (E := EE []) ?_
  refine lx_loada 1 rfl rfl Tryz.isAgg33 Tryz.sizeOf33 (by simp) rfl rfl ?_
  refine lx_callB true rfl rfl ent16 (jisInf _) (decide_eq_true h) rfl rfl ?_
  refine lx_nil ?_
  refine x_true rfl ?_
  refine xs_plain (E := EE []) ?_
  refine lx_two0 two30 rfl rfl ?_
  refine lx_two0 two30 rfl rfl ?_
  refine lx_storea 2 hGF rfl rfl rfl Tryz.sizeOf30 (by simp) (by simp) (one_u64 _) rfl ?_
  refine lx_storea 3 hGF rfl rfl rfl Tryz.sizeOf30 (by simp) (by simp) (one_u64 _) rfl ?_
  refine lx_assign rfl rfl rfl ?_
  refine lx_nil ?_
  refine x_ret ?_
  repeat (first | refine kseq_ret ?_ | refine kblk_ret ?_)
  exact kret_cct 2 3 rfl rfl rfl rfl rfl rfl Tryz.isAgg30 Tryz.sizeOf30 (by simp) (by simp) (fun w hw => ⟨rfl, hp_below hw⟩)
theorem jxy_s (x : W6) (h : ¬ x.2.2 = ze2) : Pure Tryz.prog Gt 17 [EV6 x] (.tuple #[EV2 (ml2 x.1 (ml2 (iv2 x.2.2) (iv2 x.2.2))), EV2 (ml2 x.2.1 (ml2 (ml2 (iv2 x.2.2) (iv2 x.2.2)) (iv2 x.2.2))), .bool true]) := by
  intro w hw
  have hGF : BOk Gt (pl w) := gt_low.plain hw
  refine calls_of_X (G := Gt) Tryz.func17 rfl rfl (Hp (pl w) []) (hp_refl (pl w) trivial rides_true) (good_hp hGF) ?_
  refine xs_plain (E := EE []) ?_
  refine lx_boxr 1 hGF rfl rfl rfl ?_
  intro b1
  refine lx_allocr 2 hGF zv30 rfl rfl ?_
  intro b2
  refine lx_allocr 3 hGF zv30 rfl rfl ?_
  intro b3
  refine lx_assign rfl rfl rfl ?_
  refine lx_nil ?_
  refine x_seq ?_
  refine xs_plain (E := EE []) ?_
  refine lx_loada 1 rfl rfl Tryz.isAgg33 Tryz.sizeOf33 (by simp) rfl rfl ?_
  refine lx_callB false rfl rfl ent16 (jisInf _) (decide_eq_false h) rfl rfl ?_
  refine lx_nil ?_
  refine x_false rfl ?_
  refine x_skip ?_
  refine xs_plain (E := EE []) ?_
  refine lx_fak 24 rfl Tryz.underlying33 rfl Tryz.sizeOf30 (by decide) rfl rfl rfl ?_
  refine lx_loado 1 _ rfl rfl Tryz.isAgg30 Tryz.sizeOf30 (by simp) (ld_rr (m := 12) (n := 12) (by simp) (by simp) rfl) rfl rfl ?_
  refine lx_call rfl rfl ent59 (e2inv _) rfl rfl ?_
  refine lx_allocr 5 hGF zv30 rfl rfl ?_
  intro b5
  refine lx_storea 5 hGF rfl rfl rfl Tryz.sizeOf30 (by simp) (by simp) (one_u64 _) rfl ?_
  refine lx_nil ?_
  refine xs_plain (E := EE []) ?_
  refine lx_loada 5 rfl rfl Tryz.isAgg30 Tryz.sizeOf30 (by simp) rfl rfl ?_
  refine lx_call rfl rfl ent51 (e2square _) rfl rfl ?_
  refine lx_allocr 6 hGF zv30 rfl rfl ?_
  intro b6
  refine lx_storea 6 hGF rfl rfl rfl Tryz.sizeOf30 (by simp) (by simp) (one_u64 _) rfl ?_
  refine lx_nil ?_
  refine xs_drawn (E := EE []) mixed (by kernel_rfl) (by kernel_rfl) (by kernel_rfl) ?_
  refine lx_fak 0 rfl Tryz.underlying33 rfl Tryz.sizeOf30 (by decide) rfl rfl rfl ?_
  refine lx_loado 1 _ rfl rfl Tryz.isAgg30 Tryz.sizeOf30 (by simp) ld_l rfl rfl ?_
  refine lx_loada 6 rfl rfl Tryz.isAgg30 Tryz.sizeOf30 (by simp) rfl rfl ?_
  refine lx_call rfl rfl ent60 (e2mul _ _) rfl rfl ?_
  refine lx_fak 12 rfl Tryz.underlying33 rfl Tryz.sizeOf30 (by decide) rfl rfl rfl ?_
  refine lx_loado 1 _ rfl rfl Tryz.isAgg30 Tryz.sizeOf30 (by simp) (ld_m (by simp)) rfl rfl ?_
  refine lx_loada 6 rfl rfl Tryz.isAgg30 Tryz.sizeOf30 (by simp) rfl rfl ?_
  refine lx_loada 5 rfl rfl Tryz.isAgg30 Tryz.sizeOf30 (by simp) rfl rfl ?_
  refine lx_call rfl rfl ent60 (e2mul _ _) rfl rfl ?_
  refine lx_call rfl rfl ent60 (e2mul _ _) rfl rfl ?_
  refine lx_storea 2 hGF rfl rfl rfl Tryz.sizeOf30 (by simp) (by simp) (one_u64 _) rfl ?_
  refine lx_storea 3 hGF rfl rfl rfl Tryz.sizeOf30 (by simp) (by simp) (one_u64 _) rfl ?_
  refine lx_assign rfl rfl rfl ?_
  refine lx_nil ?_
  refine x_ret ?_
  repeat (first | refine kseq_ret ?_ | refine kblk_ret ?_)
  exact kret_cct 2 3 rfl rfl rfl rfl rfl rfl Tryz.isAgg30 Tryz.sizeOf30 (by simp) (by simp) (fun w hw => ⟨rfl, hp_below hw⟩)
theorem jfin (a b : W2) : Pure Tryz.prog Gt 53 [EV2 a, EV2 b] (EV6 (a, b, on2)) := by
  intro w hw
  have hGF : BOk Gt (pl w) := gt_low.plain hw
  refine calls_of_X (G := Gt) Tryz.func53 rfl rfl (Hp (pl w) []) (hp_refl (pl w) trivial rides_true) (good_hp hGF) ?_
  refine xs_plain (E := EE []) ?_
  refine lx_boxr 2 hGF rfl rfl rfl ?_
  intro b2
  refine lx_boxr 3 hGF rfl rfl rfl ?_
  intro b3
  refine lx_allocr 4 hGF zj33 rfl rfl ?_
  intro b4
  refine lx_nil ?_
  refine xs_drawn (E := EE []) mixed (by kernel_rfl) (by kernel_rfl) (by kernel_rfl) ?_
  refine lx_loada 2 rfl rfl Tryz.isAgg30 Tryz.sizeOf30 (by simp) rfl rfl ?_
  refine lx_loada 3 rfl rfl Tryz.isAgg30 Tryz.sizeOf30 (by simp) rfl rfl ?_
  refine lx_call rfl rfl ent72 (e2one) rfl rfl ?_
  refine lx_three012 three33 rfl rfl rfl (by simp) (by simp) (by simp) rfl rfl ?_
  refine lx_storea 4 hGF rfl rfl rfl Tryz.sizeOf33 (by simp) (by simp) (one_u64 _) rfl ?_
  refine lx_nil ?_
  refine x_ret ?_
  repeat (first | refine kseq_ret ?_ | refine kblk_ret ?_)
  exact kret_own 4 rfl rfl rfl Tryz.isAgg33 Tryz.sizeOf33 (by simp) (fun w hw => ⟨rfl, hp_below hw⟩)
theorem of4 : Pure Tryz.prog Gt 97 [U64 4#64] (EV (zp 4)) := fof_pure 4#64
theorem jright (a : W2) : Pure Tryz.prog Gt 52 [EV2 a] (EV2 (RS4 a)) := by
  intro w hw
  have hGF : BOk Gt (pl w) := gt_low.plain hw
  refine calls_of_X (G := Gt) Tryz.func52 rfl rfl (Hp (pl w) []) (hp_refl (pl w) trivial rides_true) (good_hp hGF) ?_
  refine xs_plain (E := EE []) ?_
  refine lx_boxr 1 hGF rfl rfl rfl ?_
  intro b1
  refine lx_allocr 2 hGF zv30 rfl rfl ?_
  intro b2
  refine lx_nil ?_
  refine xs_plain (E := EE []) ?_
  refine lx_loada 1 rfl rfl Tryz.isAgg30 Tryz.sizeOf30 (by simp) rfl rfl ?_
  refine lx_call rfl rfl ent69 (jcube _) rfl rfl ?_
  refine lx_call rfl rfl ent97 (of4) rfl rfl ?_
  refine lx_call rfl rfl ent97 (of4) rfl rfl ?_
  refine lx_two two30 rfl rfl (by simp) (by simp) rfl rfl ?_
  refine lx_call rfl rfl ent71 (e2add _ (zp 4, zp 4)) rfl rfl ?_
  refine lx_storea 2 hGF rfl rfl rfl Tryz.sizeOf30 (by simp) (by simp) (one_u64 _) rfl ?_
  refine lx_nil ?_
  refine x_ret ?_
  repeat (first | refine kseq_ret ?_ | refine kblk_ret ?_)
  exact kret_own 2 rfl rfl rfl Tryz.isAgg30 Tryz.sizeOf30 (by simp) (fun w hw => ⟨rfl, hp_below hw⟩)
theorem jaff_y (a b : W2) (h : ml2 b b = RS4 a) : Pure Tryz.prog Gt 13 [EV2 a, EV2 b] (.tuple #[EV6 (a, b, on2), .bool true]) := by
  intro w hw
  have hGF : BOk Gt (pl w) := gt_low.plain hw
  refine calls_of_X (G := Gt) Tryz.func13 rfl rfl (Hp (pl w) []) (hp_refl (pl w) trivial rides_true) (good_hp hGF) ?_
  refine xs_plain (E := EE []) ?_
  refine lx_boxr 2 hGF rfl rfl rfl ?_
  intro b2
  refine lx_boxr 3 hGF rfl rfl rfl ?_
  intro b3
  refine lx_allocr 4 hGF zj33 rfl rfl ?_
  intro b4
  refine lx_assign rfl rfl rfl ?_
  refine lx_nil ?_
  refine x_seq ?_
  refine xs_drawn (E := EE []) mixed (by kernel_rfl) (by kernel_rfl) (by kernel_rfl) ?_
  refine lx_loada 3 rfl rfl Tryz.isAgg30 Tryz.sizeOf30 (by simp) rfl rfl ?_
  refine lx_call rfl rfl ent51 (e2square _) rfl rfl ?_
  refine lx_loada 2 rfl rfl Tryz.isAgg30 Tryz.sizeOf30 (by simp) rfl rfl ?_
  refine lx_call rfl rfl ent52 (jright _) rfl rfl ?_
  refine lx_callB true rfl rfl ent18 (e2equal _ _) (decide_eq_true h) rfl rfl ?_
  refine lx_un rfl (fun _ => un_not _) rfl rfl ?_
  refine lx_nil ?_
  refine x_false rfl ?_
  refine x_skip ?_
  refine xs_plain (E := EE []) ?_
  refine lx_loada 2 rfl rfl Tryz.isAgg30 Tryz.sizeOf30 (by simp) rfl rfl ?_
  refine lx_loada 3 rfl rfl Tryz.isAgg30 Tryz.sizeOf30 (by simp) rfl rfl ?_
  refine lx_call rfl rfl ent53 (jfin _ _) rfl rfl ?_
  refine lx_storea 4 hGF rfl rfl rfl Tryz.sizeOf33 (by simp) (by simp) (one_u64 _) rfl ?_
  refine lx_assign rfl rfl rfl ?_
  refine lx_nil ?_
  refine x_ret ?_
  repeat (first | refine kseq_ret ?_ | refine kblk_ret ?_)
  exact kret_ct 4 rfl rfl rfl rfl Tryz.isAgg33 Tryz.sizeOf33 (by simp) (fun w hw => ⟨rfl, hp_below hw⟩)
theorem jaff_n (a b : W2) (h : ¬ ml2 b b = RS4 a) : Pure Tryz.prog Gt 13 [EV2 a, EV2 b] (.tuple #[EV6 (ze2, ze2, ze2), .bool false]) := by
  intro w hw
  have hGF : BOk Gt (pl w) := gt_low.plain hw
  refine calls_of_X (G := Gt) Tryz.func13 rfl rfl (Hp (pl w) []) (hp_refl (pl w) trivial rides_true) (good_hp hGF) ?_
  refine xs_plain (E := EE []) ?_
  refine lx_boxr 2 hGF rfl rfl rfl ?_
  intro b2
  refine lx_boxr 3 hGF rfl rfl rfl ?_
  intro b3
  refine lx_allocr 4 hGF zj33 rfl rfl ?_
  intro b4
  refine lx_assign rfl rfl rfl ?_
  refine lx_nil ?_
  refine x_seq ?_
  refine xs_drawn (E := EE []) mixed (by kernel_rfl) (by kernel_rfl) (by kernel_rfl) ?_
  refine lx_loada 3 rfl rfl Tryz.isAgg30 Tryz.sizeOf30 (by simp) rfl rfl ?_
  refine lx_call rfl rfl ent51 (e2square _) rfl rfl ?_
  refine lx_loada 2 rfl rfl Tryz.isAgg30 Tryz.sizeOf30 (by simp) rfl rfl ?_
  refine lx_call rfl rfl ent52 (jright _) rfl rfl ?_
  refine lx_callB false rfl rfl ent18 (e2equal _ _) (decide_eq_false h) rfl rfl ?_
  refine lx_un rfl (fun _ => un_not _) rfl rfl ?_
  refine lx_nil ?_
  refine x_true rfl ?_
  refine xs_plain (E := EE []) ?_
  refine lx_threeN three33 rfl rfl ?_
  refine lx_storea 4 hGF rfl rfl rfl Tryz.sizeOf33 (by simp) (by simp) (one_u64 _) rfl ?_
  refine lx_assign rfl rfl rfl ?_
  refine lx_nil ?_
  refine x_ret ?_
  repeat (first | refine kseq_ret ?_ | refine kblk_ret ?_)
  exact kret_ct 4 rfl rfl rfl rfl Tryz.isAgg33 Tryz.sizeOf33 (by simp) (fun w hw => ⟨rfl, hp_below hw⟩)
theorem bytes_pre {w : World} {b : Nat} {c : List Value} {xs : List (BitVec 8)} (h : w.rangeAt b 0 c) (ht : c.take xs.length = xs.map U8) : BytesAt w (some ⟨b, 0, none⟩) xs := by
  refine BytesAt.range fun j v hv => h j v ?_
  rw [← ht, List.getElem?_take] at hv
  split at hv
  · exact hv
  · cases hv
theorem jpart (s0 : ByteArray) (xs : List (BitVec 8)) (h0 : s0.data.toList = xs.map (fun x => UInt8.ofBitVec x)) : Pure Tryz.prog Gt 78 [.string s0] (EV (FV xs)) := by
  intro w hw
  have hGF : BOk Gt (pl w) := gt_low.plain hw
  refine calls_of_X (G := Gt) Tryz.func78 rfl rfl (Hp (pl w) []) (hp_refl (pl w) trivial rides_true) (good_hp hGF) ?_
  refine xs_plain (E := EE [1000022]) ?_
  refine lx_allocr 2 hGF zv28 rfl rfl ?_
  intro b2
  refine lx_nil ?_
  refine xs_plain (E := EE [1000022]) ?_
  refine lx_move rfl rfl rfl ?_
  refine lx_str 7 (xs := xs) rfl hGF rfl Tryz.underlying9 Tryz.underlying22 Tryz.underlying5 h0 rfl rfl (fun b7 c7 k7 e7 l7 t7 => ?_)
  refine lx_callC rfl rfl ent123 (fun w' hC hG => ffrom_calls _ _ xs w' hG (bytes_pre (hp_row (n := 7) rfl w' hC) t7)) rfl rfl ?_
  refine lx_move rfl rfl rfl ?_
  refine lx_ext rfl rfl rfl rfl ?_
  refine lx_ext rfl rfl rfl rfl ?_
  refine lx_allocr 3 hGF zv28 rfl rfl ?_
  intro b3
  refine lx_storea 3 hGF rfl rfl rfl Tryz.sizeOf28 (by simp) (by simp) (one_u64 _) rfl ?_
  refine lx_assign rfl rfl rfl ?_
  refine lx_nil ?_
  refine xs_plain (E := EE [1000022]) ?_
  refine lx_loada 3 rfl rfl Tryz.isAgg28 Tryz.sizeOf28 (by simp) rfl rfl ?_
  refine lx_storea 2 hGF rfl rfl rfl Tryz.sizeOf28 (by simp) (by simp) (one_u64 _) rfl ?_
  refine lx_nil ?_
  refine x_ret ?_
  repeat (first | refine kseq_ret ?_ | refine kblk_ret ?_)
  exact kret_own 2 rfl rfl rfl Tryz.isAgg28 Tryz.sizeOf28 (by simp) (fun w hw => ⟨rfl, hp_below hw⟩)
def GX0 : List (BitVec 8) := [2#8, 74#8, 162#8, 178#8, 240#8, 143#8, 10#8, 145#8, 38#8, 8#8, 5#8, 39#8, 45#8, 197#8, 16#8, 81#8, 198#8, 228#8, 122#8, 212#8, 250#8, 64#8, 59#8, 2#8, 180#8, 81#8, 11#8, 100#8, 122#8, 227#8, 209#8, 119#8, 11#8, 172#8, 3#8, 38#8, 168#8, 5#8, 187#8, 239#8, 212#8, 128#8, 86#8, 200#8, 193#8, 33#8, 189#8, 184#8]
theorem GX0_v : FV GX0 = G2p.1.1 := by rw [FV, if_pos ⟨rfl, by decide +kernel⟩]; decide +kernel
theorem GX0_e {a : Zp} (ha : G2p.1.1 = a) (s0 : ByteArray) (h0 : s0.data.toList = GX0.map (fun x => UInt8.ofBitVec x)) : Pure Tryz.prog Gt 78 [.string s0] (EV a) := by
  have h := jpart s0 GX0 h0
  rw [GX0_v, ha] at h
  exact h
def GX1 : List (BitVec 8) := [19#8, 224#8, 43#8, 96#8, 82#8, 113#8, 159#8, 96#8, 125#8, 172#8, 211#8, 160#8, 136#8, 39#8, 79#8, 101#8, 89#8, 107#8, 208#8, 208#8, 153#8, 32#8, 182#8, 26#8, 181#8, 218#8, 97#8, 187#8, 220#8, 127#8, 80#8, 73#8, 51#8, 76#8, 241#8, 18#8, 19#8, 148#8, 93#8, 87#8, 229#8, 172#8, 125#8, 5#8, 93#8, 4#8, 43#8, 126#8]
theorem GX1_v : FV GX1 = G2p.1.2 := by rw [FV, if_pos ⟨rfl, by decide +kernel⟩]; decide +kernel
theorem GX1_e {a : Zp} (ha : G2p.1.2 = a) (s0 : ByteArray) (h0 : s0.data.toList = GX1.map (fun x => UInt8.ofBitVec x)) : Pure Tryz.prog Gt 78 [.string s0] (EV a) := by
  have h := jpart s0 GX1 h0
  rw [GX1_v, ha] at h
  exact h
def GY0 : List (BitVec 8) := [12#8, 229#8, 213#8, 39#8, 114#8, 125#8, 110#8, 17#8, 140#8, 201#8, 205#8, 198#8, 218#8, 46#8, 53#8, 26#8, 173#8, 253#8, 155#8, 170#8, 140#8, 189#8, 211#8, 167#8, 109#8, 66#8, 154#8, 105#8, 81#8, 96#8, 209#8, 44#8, 146#8, 58#8, 201#8, 204#8, 59#8, 172#8, 162#8, 137#8, 225#8, 147#8, 84#8, 134#8, 8#8, 184#8, 40#8, 1#8]
theorem GY0_v : FV GY0 = G2p.2.1 := by rw [FV, if_pos ⟨rfl, by decide +kernel⟩]; decide +kernel
theorem GY0_e {a : Zp} (ha : G2p.2.1 = a) (s0 : ByteArray) (h0 : s0.data.toList = GY0.map (fun x => UInt8.ofBitVec x)) : Pure Tryz.prog Gt 78 [.string s0] (EV a) := by
  have h := jpart s0 GY0 h0
  rw [GY0_v, ha] at h
  exact h
def GY1 : List (BitVec 8) := [6#8, 6#8, 196#8, 160#8, 46#8, 167#8, 52#8, 204#8, 50#8, 172#8, 210#8, 176#8, 43#8, 194#8, 139#8, 153#8, 203#8, 62#8, 40#8, 126#8, 133#8, 167#8, 99#8, 175#8, 38#8, 116#8, 146#8, 171#8, 87#8, 46#8, 153#8, 171#8, 63#8, 55#8, 13#8, 39#8, 92#8, 236#8, 29#8, 161#8, 170#8, 169#8, 7#8, 95#8, 240#8, 95#8, 121#8, 190#8]
theorem GY1_v : FV GY1 = G2p.2.2 := by rw [FV, if_pos ⟨rfl, by decide +kernel⟩]; decide +kernel
theorem GY1_e {a : Zp} (ha : G2p.2.2 = a) (s0 : ByteArray) (h0 : s0.data.toList = GY1.map (fun x => UInt8.ofBitVec x)) : Pure Tryz.prog Gt 78 [.string s0] (EV a) := by
  have h := jpart s0 GY1 h0
  rw [GY1_v, ha] at h
  exact h
theorem jgenL {a b c d : Zp} (ha : G2p.1.1 = a) (hb : G2p.1.2 = b) (hc : G2p.2.1 = c) (hd : G2p.2.2 = d) : Pure Tryz.prog Gt 38 [] (EV6 ((a, b), (c, d), on2)) := by
  intro w hw
  have hGF : BOk Gt (pl w) := gt_low.plain hw
  refine calls_of_X (G := Gt) Tryz.func38 rfl rfl (Hp (pl w) []) (hp_refl (pl w) trivial rides_true) (good_hp hGF) ?_
  refine xs_plain (E := EE []) ?_
  refine lx_allocr 0 hGF zj33 rfl rfl ?_
  intro b0
  refine lx_nil ?_
  refine xs_plain (E := EE []) ?_
  refine lx_call rfl rfl ent78 (GX0_e ha _ rfl) rfl rfl ?_
  refine lx_call rfl rfl ent78 (GX1_e hb _ rfl) rfl rfl ?_
  refine lx_two two30 rfl rfl (by simp) (by simp) rfl rfl ?_
  refine lx_allocr 1 hGF zv30 rfl rfl ?_
  intro b1
  refine lx_storea 1 hGF rfl rfl rfl Tryz.sizeOf30 (by simp) (by simp) (one_u64 _) rfl ?_
  refine lx_nil ?_
  refine xs_plain (E := EE []) ?_
  refine lx_call rfl rfl ent78 (GY0_e hc _ rfl) rfl rfl ?_
  refine lx_call rfl rfl ent78 (GY1_e hd _ rfl) rfl rfl ?_
  refine lx_two two30 rfl rfl (by simp) (by simp) rfl rfl ?_
  refine lx_allocr 2 hGF zv30 rfl rfl ?_
  intro b2
  refine lx_storea 2 hGF rfl rfl rfl Tryz.sizeOf30 (by simp) (by simp) (one_u64 _) rfl ?_
  refine lx_nil ?_
  refine xs_plain (E := EE []) ?_
  refine lx_loada 1 rfl rfl Tryz.isAgg30 Tryz.sizeOf30 (by simp) rfl rfl ?_
  refine lx_loada 2 rfl rfl Tryz.isAgg30 Tryz.sizeOf30 (by simp) rfl rfl ?_
  refine lx_call rfl rfl ent53 (jfin (a, b) (c, d)) rfl rfl ?_
  refine lx_storea 0 hGF rfl rfl rfl Tryz.sizeOf33 (by simp) (by simp) (one_u64 _) rfl ?_
  refine lx_nil ?_
  refine x_ret ?_
  repeat (first | refine kseq_ret ?_ | refine kblk_ret ?_)
  exact kret_own 0 rfl rfl rfl Tryz.isAgg33 Tryz.sizeOf33 (by simp) (fun w hw => ⟨rfl, hp_below hw⟩)
theorem jgen : Pure Tryz.prog Gt 38 [] (EV6 (G2p.1, G2p.2, on2)) := jgenL rfl rfl rfl rfl
end Go.Proofs.YtfknmeefbccflaaGreatDoor
