/-
  The walks of package fp2: sums and products.
  The walks of package fp2: signs and roots; the reference's elements.
-/
import Derived.Test.YtamddkjccmhgaaaGreatDoorX9
import Derived.Test.YtamddkjccmhgaaaGreatDoorX5
import Derived.Test.YtamddkjccmhgaaaGreatDoorX3
namespace Go.Proofs.YtamddkjccmhgaaaGreatDoor
open Go.RowKit
set_option maxRecDepth 100000
set_option maxHeartbeats 1000000
attribute [local simp] fe_len nm_len AS_len SS_len MONT_len RM_len FRs_len BYs_len by48_len PLl TWOl ONEl N1l IVPl HFPl RTPl FL_len SP_len fe2_len SP2_len FM_len
theorem rU1 {Q P : Prop} (k : Q) (h : Q → P := by intro k; (refine LY.run ?_); (repeat (first | refine y_move rfl rfl rfl ?_ | refine y_assign rfl rfl rfl ?_ | ((refine fl50_0L rfl rfl ?_ rfl rfl rfl rfl ?_); (· simp)) | ((refine fl50_1R rfl rfl ?_ ?_ rfl rfl rfl rfl ?_); (· simp); (· simp)) | ((refine ra28 rfl rfl ?_ rfl rfl ?_); (· simp)) | ((refine ra50 rfl rfl ?_ rfl rfl ?_); (· simp)) | ((refine sa50 hGF rfl rfl rfl ?_ ?_ (one_u64 _) rfl ?_); (· simp); (· simp)) | ((refine sa28 hGF rfl rfl rfl ?_ ?_ (one_u64 _) rfl ?_); (· simp); (· simp)) | refine y_call (f := 68) rfl rfl ent68 (fmul_pure _ _) rfl rfl ?_ | refine y_call (f := 83) rfl rfl ent83 (fadd_pure _ _) rfl rfl ?_ | refine y_call (f := 118) rfl rfl ent118 (fsub_pure _ _) rfl rfl ?_ | refine y_call (f := 66) rfl rfl ent66 (fneg_pure _) rfl rfl ?_ | refine y_call (f := 70) rfl rfl ent70 (fsquare_pure _) rfl rfl ?_ | refine y_pick rfl rfl rfl rfl rfl ?_)); (first | refine y_nil ?_ | refine LY.mk ?_); exact k) : P := h k
theorem pU1 {Q P : Prop} (k : Q) (h : Q → P := by intro k; (refine xp ?_); (refine rU1 ?_); exact k) : P := h k

theorem ent114 : Enters Tryz.prog 114 := fun _ _ => by kernel_rfl
theorem ent76 : Enters Tryz.prog 76 := fun _ _ => by kernel_rfl
theorem ent120 : Enters Tryz.prog 120 := fun _ _ => by kernel_rfl
theorem ent127 : Enters Tryz.prog 127 := fun _ _ => by kernel_rfl
theorem ent147 : Enters Tryz.prog 147 := fun _ _ => by kernel_rfl
theorem ent67 : Enters Tryz.prog 67 := fun _ _ => by kernel_rfl
theorem ent131 : Enters Tryz.prog 131 := fun _ _ => by kernel_rfl
theorem ent73 : Enters Tryz.prog 73 := fun _ _ => by kernel_rfl
theorem ent75 : Enters Tryz.prog 75 := fun _ _ => by kernel_rfl
theorem ent144 : Enters Tryz.prog 144 := fun _ _ => by kernel_rfl
theorem ent109 : Enters Tryz.prog 109 := fun _ _ => by kernel_rfl
theorem ent129 : Enters Tryz.prog 129 := fun _ _ => by kernel_rfl
theorem ent88 : Enters Tryz.prog 88 := fun _ _ => by kernel_rfl
theorem ent128 : Enters Tryz.prog 128 := fun _ _ => by kernel_rfl
theorem ent130 : Enters Tryz.prog 130 := fun _ _ => by kernel_rfl
theorem ent58 : Enters Tryz.prog 58 := fun _ _ => by kernel_rfl
theorem ent103 : Enters Tryz.prog 103 := fun _ _ => by kernel_rfl
theorem ent44 : Enters Tryz.prog 44 := fun _ _ => by kernel_rfl
theorem ent94 : Enters Tryz.prog 94 := fun _ _ => by kernel_rfl
theorem ent105 : Enters Tryz.prog 105 := fun _ _ => by kernel_rfl
theorem ent98 : Enters Tryz.prog 98 := fun _ _ => by kernel_rfl
theorem ent93 : Enters Tryz.prog 93 := fun _ _ => by kernel_rfl
theorem ent139 : Enters Tryz.prog 139 := fun _ _ => by kernel_rfl
theorem ent80 : Enters Tryz.prog 80 := fun _ _ => by kernel_rfl
theorem ent96 : Enters Tryz.prog 96 := fun _ _ => by kernel_rfl
/-- An element of fp2 as a value. -/
abbrev EV2 (x : W2) : Value := .agg ((fe x.1 ++ fe x.2).map U64).toArray
theorem zf28 (w : World) : (zeroValue 28).run Tryz.prog w = .ok (.agg ((fe 0).map U64).toArray) w := by rw [fe_0]; exact (Tryz.zeroValue28 w).trans (by rfl)
theorem zv50 (w : World) : (zeroValue 50).run Tryz.prog w = .ok (.agg ((fe 0 ++ fe 0).map U64).toArray) w := by rw [fe_0]; exact (Tryz.zeroValue50 w).trans (by rfl)
theorem two50 : Two Tryz.prog 50 ⟨ "C0", 28, 0, false, "", "", 0⟩ ⟨ "C1", 28, 6, false, "", "", 48⟩ 6 6 (fe 0) (fe 0) := ⟨Tryz.underlying50, rfl, rfl, Tryz.sizeOf28, Tryz.sizeOf28, zv50, fe_len 0, fe_len 0⟩
theorem zv38 (w : World) : (zeroValue 38).run Tryz.prog w = .ok (.agg ((fe 0 ++ fe 0).map U64).toArray) w := by rw [fe_0]; exact (Tryz.zeroValue38 w).trans (by rfl)
theorem two38 : Two Tryz.prog 38 ⟨ "A", 36, 0, false, "", "", 0⟩ ⟨ "B", 36, 6, false, "", "", 48⟩ 6 6 (fe 0) (fe 0) := ⟨Tryz.underlying38, rfl, rfl, Tryz.sizeOf36, Tryz.sizeOf36, zv38, fe_len 0, fe_len 0⟩
theorem eqf38 : EqF Tryz.prog 38 12 4 :=
  have h : EqF Tryz.prog 36 6 3 := eqf_one Tryz.underlying36 rfl (by decide) (by kernel_rfl) Tryz.isAgg34 Tryz.sizeOf34 (eqf_arr Tryz.underlying34 Tryz.underlying25 Tryz.sizeOf25 Tryz.isAgg25)
  eqf_two Tryz.underlying38 rfl rfl (by decide) (by decide) (by kernel_rfl) Tryz.isAgg36 Tryz.sizeOf36 h Tryz.isAgg36 Tryz.sizeOf36 h
theorem eqg38 (op : BinOp) (x y : Operand) (xs ys : Array Value) (w : World) : (eqGuard op 38 x y (.agg xs) (.agg ys)).run Tryz.prog w = .ok () w := run_eqGuard_agg w op 38 x y xs ys (by kernel_rfl)
theorem nev38 (xs ys : List (BitVec 64)) (h : xs.length = 12) (h' : ys.length = 12) (w : World) : (binOp .neq 38 (.agg (xs.map U64).toArray) (.agg (ys.map U64).toArray)).run Tryz.prog w = .ok (.bool (!decide (xs = ys))) w := bin_nef eqf38 (by decide) xs ys h h' w
theorem e2 {a b c d : Zp} (h1 : a = c) (h2 : b = d) : Ending.returned (.agg ((fe a ++ fe b).map U64).toArray) = .returned (.agg ((fe c ++ fe d).map U64).toArray) := by rw [h1, h2]
theorem rb {a b : Bool} (h : a = b) : Ending.returned (.bool a) = .returned (.bool b) := by rw [h]
theorem e2one  : Pure Tryz.prog Gt 114 [] (EV2 on2) := by
  refine pure_X Tryz.func114 fun w hw hGF => ?_
  refine xp ?_
  refine la zv50 fun b0 => ?_
  refine lx_nil ?_
  refine xp ?_
  refine lc ent110 (fof1_pure) ?_
  refine lx_twoA two50 rfl (by simp) rfl rfl ?_
  refine rU1 ?_
  refine rt ?_
  exact kret_own 0 rfl rfl rfl Tryz.isAgg50 Tryz.sizeOf50 (by simp) (fun w hw => ⟨rfl, hp_below hw⟩)
theorem e2equal (x y : W2) : Pure Tryz.prog Gt 76 [EV2 x, EV2 y] (.bool (decide (x = y))) := by
  intro w hw
  have hGF : BOk Gt (pl w) := gt_low.plain hw
  by_cases h : x.1 = y.1
  · skip
    refine calls_of_X (G := Gt) Tryz.func76 rfl rfl (Hp (pl w) []) (hp_refl (pl w) trivial rides_true) (good_hp hGF) ?_
    refine xp ?_
    refine lb fun b2 => ?_
    refine lb fun b3 => ?_
    refine rU1 ?_
    refine pU1 ?_
    refine lx_callB true rfl rfl ent71 (fequal_pure _ _) (decide_eq_true h) rfl rfl ?_
    refine rU1 ?_
    refine lc ent71 (fequal_pure _ _) ?_
    refine rU1 ?_
    refine rt ?_
    exact kret_tmp rfl rfl (fun w hw => ⟨rb (dec2_t h), hp_below hw⟩)
  · skip
    refine calls_of_X (G := Gt) Tryz.func76 rfl rfl (Hp (pl w) []) (hp_refl (pl w) trivial rides_true) (good_hp hGF) ?_
    refine xp ?_
    refine lb fun b2 => ?_
    refine lb fun b3 => ?_
    refine rU1 ?_
    refine pU1 ?_
    refine lx_callB false rfl rfl ent71 (fequal_pure _ _) (decide_eq_false h) rfl rfl ?_
    refine rU1 ?_
    refine lx_skip rfl rfl rfl ?_
    refine lx_skip rfl rfl rfl ?_
    refine lx_skip rfl rfl rfl ?_
    refine lx_skip rfl rfl rfl ?_
    refine lx_skip rfl rfl rfl ?_
    refine rU1 ?_
    refine rt ?_
    exact kret_tmp rfl rfl (fun w hw => ⟨rb (dec2_f h), hp_below hw⟩)
theorem e2isZero (x : W2) : Pure Tryz.prog Gt 120 [EV2 x] (.bool (decide (x = ze2))) := by
  intro w hw
  have hGF : BOk Gt (pl w) := gt_low.plain hw
  by_cases h : x.1 = 0
  · skip
    refine calls_of_X (G := Gt) Tryz.func120 rfl rfl (Hp (pl w) []) (hp_refl (pl w) trivial rides_true) (good_hp hGF) ?_
    refine xp ?_
    refine lb fun b1 => ?_
    refine rU1 ?_
    refine pU1 ?_
    refine lx_callB true rfl rfl ent81 (fisZero_pure _) (decide_eq_true h) rfl rfl ?_
    refine rU1 ?_
    refine lc ent81 (fisZero_pure _) ?_
    refine rU1 ?_
    refine rt ?_
    exact kret_tmp rfl rfl (fun w hw => ⟨rb (dec2_t (y := ze2) h), hp_below hw⟩)
  · skip
    refine calls_of_X (G := Gt) Tryz.func120 rfl rfl (Hp (pl w) []) (hp_refl (pl w) trivial rides_true) (good_hp hGF) ?_
    refine xp ?_
    refine lb fun b1 => ?_
    refine rU1 ?_
    refine pU1 ?_
    refine lx_callB false rfl rfl ent81 (fisZero_pure _) (decide_eq_false h) rfl rfl ?_
    refine rU1 ?_
    refine lx_skip rfl rfl rfl ?_
    refine lx_skip rfl rfl rfl ?_
    refine lx_skip rfl rfl rfl ?_
    refine rU1 ?_
    refine rt ?_
    exact kret_tmp rfl rfl (fun w hw => ⟨rb (dec2_f (y := ze2) h), hp_below hw⟩)
theorem e2add (x y : W2) : Pure Tryz.prog Gt 127 [EV2 x, EV2 y] (EV2 (ad2 x y)) := by
  refine pure_X Tryz.func127 fun w hw hGF => ?_
  refine xp ?_
  refine lb fun b2 => ?_
  refine lb fun b3 => ?_
  refine la zv50 fun b4 => ?_
  refine lx_nil ?_
  refine xs_drawn (E := EE []) mixed (by kernel_rfl) (by kernel_rfl) (by kernel_rfl) ?_
  refine rU1 ?_
  refine lx_two two50 rfl rfl (by simp) (by simp) rfl rfl ?_
  refine rU1 ?_
  refine rt ?_
  exact kret_own 4 rfl rfl rfl Tryz.isAgg50 Tryz.sizeOf50 (by simp) (fun w hw => ⟨rfl, hp_below hw⟩)
theorem e2sub (x y : W2) : Pure Tryz.prog Gt 147 [EV2 x, EV2 y] (EV2 (sb2 x y)) := by
  refine pure_X Tryz.func147 fun w hw hGF => ?_
  refine xp ?_
  refine lb fun b2 => ?_
  refine lb fun b3 => ?_
  refine la zv50 fun b4 => ?_
  refine lx_nil ?_
  refine xs_drawn (E := EE []) mixed (by kernel_rfl) (by kernel_rfl) (by kernel_rfl) ?_
  refine rU1 ?_
  refine lx_two two50 rfl rfl (by simp) (by simp) rfl rfl ?_
  refine rU1 ?_
  refine rt ?_
  exact kret_own 4 rfl rfl rfl Tryz.isAgg50 Tryz.sizeOf50 (by simp) (fun w hw => ⟨rfl, hp_below hw⟩)
theorem e2neg (x : W2) : Pure Tryz.prog Gt 67 [EV2 x] (EV2 (ng2 x)) := by
  refine pure_X Tryz.func67 fun w hw hGF => ?_
  refine xp ?_
  refine lb fun b1 => ?_
  refine la zv50 fun b2 => ?_
  refine lx_nil ?_
  refine xs_drawn (E := EE []) mixed (by kernel_rfl) (by kernel_rfl) (by kernel_rfl) ?_
  refine rU1 ?_
  refine lx_two two50 rfl rfl (by simp) (by simp) rfl rfl ?_
  refine rU1 ?_
  refine rt ?_
  exact kret_own 2 rfl rfl rfl Tryz.isAgg50 Tryz.sizeOf50 (by simp) (fun w hw => ⟨rfl, hp_below hw⟩)
theorem e2conj (x : W2) : Pure Tryz.prog Gt 131 [EV2 x] (EV2 (cj2 x)) := by
  refine pure_X Tryz.func131 fun w hw hGF => ?_
  refine xp ?_
  refine lb fun b1 => ?_
  refine la zv50 fun b2 => ?_
  refine lx_nil ?_
  refine xs_drawn (E := EE []) mixed (by kernel_rfl) (by kernel_rfl) (by kernel_rfl) ?_
  refine rU1 ?_
  refine lx_two two50 rfl rfl (by simp) (by simp) rfl rfl ?_
  refine rU1 ?_
  refine rt ?_
  exact kret_own 2 rfl rfl rfl Tryz.isAgg50 Tryz.sizeOf50 (by simp) (fun w hw => ⟨rfl, hp_below hw⟩)
theorem e2mul (x y : W2) : Pure Tryz.prog Gt 73 [EV2 x, EV2 y] (EV2 (ml2 x y)) := by
  refine pure_X Tryz.func73 fun w hw hGF => ?_
  refine xp ?_
  refine lb fun b2 => ?_
  refine lb fun b3 => ?_
  refine la zv50 fun b4 => ?_
  refine lx_nil ?_
  refine xs_drawA (E := EE [2999999]) [0, 1, 2, 3, 4, 5, 6, 7, 8, 9] [⟨10, 5, 28, (List.replicate 6 0#64).map U64⟩, ⟨11, 6, 28, (List.replicate 6 0#64).map U64⟩] [12, 13] mixed rfl (by kernel_rfl) (by kernel_rfl) (by kernel_rfl) (by kernel_rfl) (by kernel_rfl) (by kernel_rfl) (by decide) (by intro x hx; simp only [List.mem_cons, List.not_mem_nil, or_false] at hx; rcases hx with rfl | rfl <;> exact isAlloc_mk rfl zv28 rfl) ?_
  refine rU1 ?_
  refine ⟨_, _, rfl, hGF, by intro x hx; simp only [List.mem_cons, List.not_mem_nil, or_false] at hx; rcases hx with rfl | rfl <;> rfl, by intro x hx; simp only [List.mem_cons, List.not_mem_nil, or_false] at hx; rcases hx with rfl | rfl <;> rfl, fun adr => ?_⟩
  refine rU1 ?_
  refine xs_drawA (E := EE [2999999]) [0, 1, 2, 3, 4, 5, 6, 7, 8, 9, 10] [⟨11, 7, 28, (List.replicate 6 0#64).map U64⟩] [12] mixed rfl (by kernel_rfl) (by kernel_rfl) (by kernel_rfl) (by kernel_rfl) (by kernel_rfl) (by kernel_rfl) (by decide) (by intro x hx; simp only [List.mem_cons, List.not_mem_nil, or_false] at hx; subst hx; exact isAlloc_mk rfl zv28 rfl) ?_
  refine rU1 ?_
  refine ⟨_, _, rfl, hGF, by intro x hx; simp only [List.mem_cons, List.not_mem_nil, or_false] at hx; subst hx; rfl, by intro x hx; simp only [List.mem_cons, List.not_mem_nil, or_false] at hx; subst hx; rfl, fun adr => ?_⟩
  refine rU1 ?_
  refine xs_drawn (E := EE []) mixed (by kernel_rfl) (by kernel_rfl) (by kernel_rfl) ?_
  refine rU1 ?_
  refine lx_two two50 rfl rfl (by simp) (by simp) rfl rfl ?_
  refine rU1 ?_
  refine rt ?_
  exact kret_own 4 rfl rfl rfl Tryz.isAgg50 Tryz.sizeOf50 (by simp) (fun w hw => ⟨e2 (by first | (simp only [ml2]; done) | (simp only [ml2]; grind)) (by first | (simp only [ml2]; done) | (simp only [ml2]; grind)), hp_below hw⟩)
theorem e2square (x : W2) : Pure Tryz.prog Gt 75 [EV2 x] (EV2 (ml2 x x)) := by
  refine pure_X Tryz.func75 fun w hw hGF => ?_
  refine xp ?_
  refine lb fun b1 => ?_
  refine la zv50 fun b2 => ?_
  refine lx_nil ?_
  refine pU1 ?_
  refine la zv28 fun b3 => ?_
  refine rU1 ?_
  refine xs_drawn (E := EE []) mixed (by kernel_rfl) (by kernel_rfl) (by kernel_rfl) ?_
  refine rU1 ?_
  refine lx_two two50 rfl rfl (by simp) (by simp) rfl rfl ?_
  refine rU1 ?_
  refine rt ?_
  exact kret_own 2 rfl rfl rfl Tryz.isAgg50 Tryz.sizeOf50 (by simp) (fun w hw => ⟨e2 (by first | (simp only [ml2]; done) | (simp only [ml2]; grind)) (by first | (simp only [ml2]; done) | (simp only [ml2]; grind)), hp_below hw⟩)
theorem e2scale (x : W2) (c : Zp) : Pure Tryz.prog Gt 144 [EV2 x, EV c] (EV2 (sc2 x c)) := by
  refine pure_X Tryz.func144 fun w hw hGF => ?_
  refine xp ?_
  refine lb fun b2 => ?_
  refine lb fun b3 => ?_
  refine la zv50 fun b4 => ?_
  refine lx_nil ?_
  refine xs_drawn (E := EE []) mixed (by kernel_rfl) (by kernel_rfl) (by kernel_rfl) ?_
  refine rU1 ?_
  refine lx_two two50 rfl rfl (by simp) (by simp) rfl rfl ?_
  refine rU1 ?_
  refine rt ?_
  exact kret_own 4 rfl rfl rfl Tryz.isAgg50 Tryz.sizeOf50 (by simp) (fun w hw => ⟨rfl, hp_below hw⟩)
theorem e2norm (x : W2) : Pure Tryz.prog Gt 129 [EV2 x] (EV (nm2 x)) := by
  refine pure_X Tryz.func129 fun w hw hGF => ?_
  refine xp ?_
  refine lb fun b1 => ?_
  refine la zv28 fun b2 => ?_
  refine lx_nil ?_
  refine xs_drawn (E := EE []) mixed (by kernel_rfl) (by kernel_rfl) (by kernel_rfl) ?_
  refine rU1 ?_
  refine rt ?_
  exact kret_own 2 rfl rfl rfl Tryz.isAgg28 Tryz.sizeOf28 (by simp) (fun w hw => ⟨rfl, hp_below hw⟩)
theorem e2inv (x : W2) : Pure Tryz.prog Gt 109 [EV2 x] (EV2 (iv2 x)) := by
  refine pure_X Tryz.func109 fun w hw hGF => ?_
  refine xp ?_
  refine lb fun b1 => ?_
  refine la zv50 fun b2 => ?_
  refine lx_nil ?_
  refine xs_drawn (E := EE []) mixed (by kernel_rfl) (by kernel_rfl) (by kernel_rfl) ?_
  refine rU1 ?_
  refine lc ent131 (e2conj _) ?_
  refine rU1 ?_
  refine lc ent129 (e2norm _) ?_
  refine lc ent102 (finv_pure _) ?_
  refine lc ent144 (e2scale _ _) ?_
  refine rU1 ?_
  refine rt ?_
  exact kret_own 2 rfl rfl rfl Tryz.isAgg50 Tryz.sizeOf50 (by simp) (fun w hw => ⟨rfl, hp_below hw⟩)
end Go.Proofs.YtamddkjccmhgaaaGreatDoor

namespace Go.Proofs.YtamddkjccmhgaaaGreatDoor
open Go.RowKit
set_option maxRecDepth 100000
set_option maxHeartbeats 1000000
attribute [local simp] fe_len nm_len AS_len SS_len MONT_len RM_len FRs_len BYs_len by48_len PLl TWOl ONEl N1l IVPl HFPl RTPl FL_len SP_len fe2_len SP2_len FM_len
theorem rU2 {Q P : Prop} (k : Q) (h : Q → P := by intro k; (refine LY.run ?_); (repeat (first | refine y_move rfl rfl rfl ?_ | refine y_assign rfl rfl rfl ?_ | ((refine fl38_0L rfl rfl ?_ rfl rfl rfl rfl ?_); (· simp)) | ((refine fl50_0L rfl rfl ?_ rfl rfl rfl rfl ?_); (· simp)) | ((refine fl38_1R rfl rfl ?_ ?_ rfl rfl rfl rfl ?_); (· simp); (· simp)) | ((refine fl50_1R rfl rfl ?_ ?_ rfl rfl rfl rfl ?_); (· simp); (· simp)) | ((refine ra38 rfl rfl ?_ rfl rfl ?_); (· simp)) | ((refine ra36 rfl rfl ?_ rfl rfl ?_); (· simp)) | ((refine ra28 rfl rfl ?_ rfl rfl ?_); (· simp)) | ((refine ra50 rfl rfl ?_ rfl rfl ?_); (· simp)) | ((refine sa38 hGF rfl rfl rfl ?_ ?_ (one_u64 _) rfl ?_); (· simp); (· simp)) | ((refine sa36 hGF rfl rfl rfl ?_ ?_ (one_u64 _) rfl ?_); (· simp); (· simp)) | ((refine sa28 hGF rfl rfl rfl ?_ ?_ (one_u64 _) rfl ?_); (· simp); (· simp)) | ((refine sa50 hGF rfl rfl rfl ?_ ?_ (one_u64 _) rfl ?_); (· simp); (· simp)) | refine y_ext rfl rfl rfl rfl ?_ | refine y_call (f := 133) rfl rfl ent133 (rmulE _ _) rfl rfl ?_ | refine y_call (f := 135) rfl rfl ent135 (raddE _ _) rfl rfl ?_ | refine y_call (f := 134) rfl rfl ent134 (rsubE _ _) rfl rfl ?_ | refine y_call (f := 141) rfl rfl ent141 (rinvE _) rfl rfl ?_ | refine y_call (f := 138) rfl rfl ent138 (rnegE _) rfl rfl ?_ | refine y_call (f := 68) rfl rfl ent68 (fmul_pure _ _) rfl rfl ?_ | refine y_call (f := 66) rfl rfl ent66 (fneg_pure _) rfl rfl ?_ | refine y_call (f := 102) rfl rfl ent102 (finv_pure _) rfl rfl ?_ | refine y_call (f := 123) rfl rfl ent123 (rlargeE _) rfl rfl ?_ | refine y_call (f := 83) rfl rfl ent83 (fadd_pure _ _) rfl rfl ?_ | refine y_call (f := 129) rfl rfl ent129 (e2norm _) rfl rfl ?_ | refine y_pick rfl rfl rfl rfl rfl ?_)); (first | refine y_nil ?_ | refine LY.mk ?_); exact k) : P := h k
theorem pU2 {Q P : Prop} (k : Q) (h : Q → P := by intro k; (refine xp ?_); (refine rU2 ?_); exact k) : P := h k

theorem LG2_t {x : W2} (h : x.2 = 0) : decide (hf < x.1.val) = LG2 x := by rw [LG2, if_pos h]
theorem LG2_n {x : W2} (h : ¬ x.2 = 0) : decide (hf < x.2.val) = LG2 x := by rw [LG2, if_neg h]
theorem LG2_a {x : W2} (h : hf < x.2.val) : true = LG2 x := by
  have h0 : ¬ x.2 = 0 := fun e => by rw [e] at h; exact Nat.not_lt_zero _ h
  rw [← LG2_n h0, decide_eq_true h]
theorem LG2_c {x : W2} (h : ¬ hf < x.2.val) (h0 : ¬ x.2 = 0) : false = LG2 x := by rw [← LG2_n h0, decide_eq_false h]
theorem nf {y x : W2} (h : y = x) : (!decide (fe y.1 ++ fe y.2 = fe x.1 ++ fe x.2)) = false := by rw [fe2_dec, decide_eq_true h]; rfl

theorem sqY {a : Zp} (h : SQr a * SQr a = a) : Pure Tryz.prog Gt 86 [EV a] (.tuple #[EV (SQ a), .bool true]) := decide_eq_true h ▸ fsqrt_pure a
theorem sqN {a : Zp} (h : ¬ SQr a * SQr a = a) : Pure Tryz.prog Gt 86 [EV a] (.tuple #[EV (SQ a), .bool false]) := decide_eq_false h ▸ fsqrt_pure a
theorem rsqY {a : Zp} (h : SQr a * SQr a = a) : Pure Tryz.prog Gt 137 [EV a] (.tuple #[EV (SQ a), .bool true]) := decide_eq_true h ▸ rsqrtE a
theorem rsqN {a : Zp} (h : ¬ SQr a * SQr a = a) : Pure Tryz.prog Gt 137 [EV a] (.tuple #[EV (SQ a), .bool false]) := decide_eq_false h ▸ rsqrtE a
theorem rsmall1 : Pure Tryz.prog Gt 140 [U64 1#64] (EV 1) := rsmallE 1#64
theorem rsmall2 : Pure Tryz.prog Gt 140 [U64 2#64] (EV (zp 2)) := rsmallE 2#64
theorem e2large (x : W2) : Pure Tryz.prog Gt 58 [EV2 x] (.bool (LG2 x)) := by
  intro w hw
  have hGF : BOk Gt (pl w) := gt_low.plain hw
  by_cases h : hf < x.2.val
  · skip
    refine calls_of_X (G := Gt) Tryz.func58 rfl rfl (Hp (pl w) []) (hp_refl (pl w) trivial rides_true) (good_hp hGF) ?_
    refine xp ?_
    refine lb fun b1 => ?_
    refine rU2 ?_
    refine pU2 ?_
    refine lx_callB true rfl rfl ent54 (flarge_pure _) (decide_eq_true h) rfl rfl ?_
    refine rU2 ?_
    refine lx_skip rfl rfl rfl ?_
    refine lx_skip rfl rfl rfl ?_
    refine lx_skip rfl rfl rfl ?_
    refine lx_skip rfl rfl rfl ?_
    refine lx_skip rfl rfl rfl ?_
    refine lx_skip rfl rfl rfl ?_
    refine lx_skip rfl rfl rfl ?_
    refine lx_skip rfl rfl rfl ?_
    refine rU2 ?_
    refine rt ?_
    exact kret_tmp rfl rfl (fun w hw => ⟨rb (LG2_a h), hp_below hw⟩)
  · skip
    by_cases h0 : x.2 = 0
    · skip
      refine calls_of_X (G := Gt) Tryz.func58 rfl rfl (Hp (pl w) []) (hp_refl (pl w) trivial rides_true) (good_hp hGF) ?_
      refine xp ?_
      refine lb fun b1 => ?_
      refine rU2 ?_
      refine pU2 ?_
      refine lx_callB false rfl rfl ent54 (flarge_pure _) (decide_eq_false h) rfl rfl ?_
      refine rU2 ?_
      refine lx_callB true rfl rfl ent81 (fisZero_pure _) (decide_eq_true h0) rfl rfl ?_
      refine rU2 ?_
      refine lc ent54 (flarge_pure _) ?_
      refine rU2 ?_
      refine rt ?_
      exact kret_tmp rfl rfl (fun w hw => ⟨rb (LG2_t h0), hp_below hw⟩)
    · skip
      refine calls_of_X (G := Gt) Tryz.func58 rfl rfl (Hp (pl w) []) (hp_refl (pl w) trivial rides_true) (good_hp hGF) ?_
      refine xp ?_
      refine lb fun b1 => ?_
      refine rU2 ?_
      refine pU2 ?_
      refine lx_callB false rfl rfl ent54 (flarge_pure _) (decide_eq_false h) rfl rfl ?_
      refine rU2 ?_
      refine lx_callB false rfl rfl ent81 (fisZero_pure _) (decide_eq_false h0) rfl rfl ?_
      refine rU2 ?_
      refine lx_skip rfl rfl rfl ?_
      refine lx_skip rfl rfl rfl ?_
      refine lx_skip rfl rfl rfl ?_
      refine rU2 ?_
      refine rt ?_
      exact kret_tmp rfl rfl (fun w hw => ⟨rb (LG2_c h h0), hp_below hw⟩)
theorem r5one  : Pure Tryz.prog Gt 103 [] (EV2 on2) := by
  refine pure_X Tryz.func103 fun w hw hGF => ?_
  refine xp ?_
  refine la zv38 fun b0 => ?_
  refine lx_nil ?_
  refine xp ?_
  refine lc ent140 (rsmall1) ?_
  refine lx_twoA two38 rfl (by simp) rfl rfl ?_
  refine rU2 ?_
  refine rt ?_
  exact kret_own 0 rfl rfl rfl Tryz.isAgg38 Tryz.sizeOf38 (by simp) (fun w hw => ⟨rfl, hp_below hw⟩)
theorem r5isZero (x : W2) : Pure Tryz.prog Gt 44 [EV2 x] (.bool (decide (x = ze2))) := by
  intro w hw
  have hGF : BOk Gt (pl w) := gt_low.plain hw
  by_cases h : x.1 = 0
  · skip
    refine calls_of_X (G := Gt) Tryz.func44 rfl rfl (Hp (pl w) []) (hp_refl (pl w) trivial rides_true) (good_hp hGF) ?_
    refine xp ?_
    refine lb fun b1 => ?_
    refine rU2 ?_
    refine pU2 ?_
    refine lx_callB true rfl rfl ent97 (risZeroE _) (decide_eq_true h) rfl rfl ?_
    refine rU2 ?_
    refine lc ent97 (risZeroE _) ?_
    refine rU2 ?_
    refine rt ?_
    exact kret_tmp rfl rfl (fun w hw => ⟨rb (dec2_t (y := ze2) h), hp_below hw⟩)
  · skip
    refine calls_of_X (G := Gt) Tryz.func44 rfl rfl (Hp (pl w) []) (hp_refl (pl w) trivial rides_true) (good_hp hGF) ?_
    refine xp ?_
    refine lb fun b1 => ?_
    refine rU2 ?_
    refine pU2 ?_
    refine lx_callB false rfl rfl ent97 (risZeroE _) (decide_eq_false h) rfl rfl ?_
    refine rU2 ?_
    refine lx_skip rfl rfl rfl ?_
    refine lx_skip rfl rfl rfl ?_
    refine lx_skip rfl rfl rfl ?_
    refine rU2 ?_
    refine rt ?_
    exact kret_tmp rfl rfl (fun w hw => ⟨rb (dec2_f (y := ze2) h), hp_below hw⟩)
theorem r5add (x y : W2) : Pure Tryz.prog Gt 94 [EV2 x, EV2 y] (EV2 (ad2 x y)) := by
  refine pure_X Tryz.func94 fun w hw hGF => ?_
  refine xp ?_
  refine lb fun b2 => ?_
  refine lb fun b3 => ?_
  refine la zv38 fun b4 => ?_
  refine lx_nil ?_
  refine xs_drawn (E := EE []) mixed (by kernel_rfl) (by kernel_rfl) (by kernel_rfl) ?_
  refine rU2 ?_
  refine lx_two two38 rfl rfl (by simp) (by simp) rfl rfl ?_
  refine rU2 ?_
  refine rt ?_
  exact kret_own 4 rfl rfl rfl Tryz.isAgg38 Tryz.sizeOf38 (by simp) (fun w hw => ⟨rfl, hp_below hw⟩)
theorem r5sub (x y : W2) : Pure Tryz.prog Gt 105 [EV2 x, EV2 y] (EV2 (sb2 x y)) := by
  refine pure_X Tryz.func105 fun w hw hGF => ?_
  refine xp ?_
  refine lb fun b2 => ?_
  refine lb fun b3 => ?_
  refine la zv38 fun b4 => ?_
  refine lx_nil ?_
  refine xs_drawn (E := EE []) mixed (by kernel_rfl) (by kernel_rfl) (by kernel_rfl) ?_
  refine rU2 ?_
  refine lx_two two38 rfl rfl (by simp) (by simp) rfl rfl ?_
  refine rU2 ?_
  refine rt ?_
  exact kret_own 4 rfl rfl rfl Tryz.isAgg38 Tryz.sizeOf38 (by simp) (fun w hw => ⟨rfl, hp_below hw⟩)
theorem r5neg (x : W2) : Pure Tryz.prog Gt 98 [EV2 x] (EV2 (ng2 x)) := by
  refine pure_X Tryz.func98 fun w hw hGF => ?_
  refine xp ?_
  refine lb fun b1 => ?_
  refine la zv38 fun b2 => ?_
  refine lx_nil ?_
  refine xs_drawn (E := EE []) mixed (by kernel_rfl) (by kernel_rfl) (by kernel_rfl) ?_
  refine rU2 ?_
  refine lx_two two38 rfl rfl (by simp) (by simp) rfl rfl ?_
  refine rU2 ?_
  refine rt ?_
  exact kret_own 2 rfl rfl rfl Tryz.isAgg38 Tryz.sizeOf38 (by simp) (fun w hw => ⟨rfl, hp_below hw⟩)
theorem r5mul (x y : W2) : Pure Tryz.prog Gt 93 [EV2 x, EV2 y] (EV2 (ml2 x y)) := by
  intro w hw
  have hGF : BOk Gt (pl w) := gt_low.plain hw
  by_cases h : x.2 = 0
  · skip
    by_cases h2 : y.2 = 0
    · skip
      refine calls_of_X (G := Gt) Tryz.func93 rfl rfl (Hp (pl w) []) (hp_refl (pl w) trivial rides_true) (good_hp hGF) ?_
      refine xp ?_
      refine lb fun b2 => ?_
      refine lb fun b3 => ?_
      refine la zv38 fun b4 => ?_
      refine lx_nil ?_
      refine pU2 ?_
      refine la zv36 fun b5 => ?_
      refine rU2 ?_
      refine x_seq ?_
      refine pU2 ?_
      refine lx_callB true rfl rfl ent97 (risZeroE _) (decide_eq_true h) rfl rfl ?_
      refine rU2 ?_
      refine lx_callB true rfl rfl ent97 (risZeroE _) (decide_eq_true h2) rfl rfl ?_
      refine rU2 ?_
      refine x_true rfl ?_
      refine pU2 ?_
      refine lx_twoA two38 rfl (by simp) rfl rfl ?_
      refine rU2 ?_
      refine rt ?_
      exact kret_own 4 rfl rfl rfl Tryz.isAgg38 Tryz.sizeOf38 (by simp) (fun w hw => ⟨e2 (by simp only [ml2]; rw [h]; grind) (by simp only [ml2]; rw [h, h2, z_m0, z_0m, z_00]), hp_below hw⟩)
    · skip
      refine calls_of_X (G := Gt) Tryz.func93 rfl rfl (Hp (pl w) []) (hp_refl (pl w) trivial rides_true) (good_hp hGF) ?_
      refine xp ?_
      refine lb fun b2 => ?_
      refine lb fun b3 => ?_
      refine la zv38 fun b4 => ?_
      refine lx_nil ?_
      refine pU2 ?_
      refine la zv36 fun b5 => ?_
      refine rU2 ?_
      refine x_seq ?_
      refine pU2 ?_
      refine lx_callB true rfl rfl ent97 (risZeroE _) (decide_eq_true h) rfl rfl ?_
      refine rU2 ?_
      refine lx_callB false rfl rfl ent97 (risZeroE _) (decide_eq_false h2) rfl rfl ?_
      refine rU2 ?_
      refine x_false rfl ?_
      refine x_skip ?_
      refine pU2 ?_
      refine la zv36 fun b6 => ?_
      refine rU2 ?_
      refine xs_drawn (E := EE []) mixed (by kernel_rfl) (by kernel_rfl) (by kernel_rfl) ?_
      refine rU2 ?_
      refine lx_two two38 rfl rfl (by simp) (by simp) rfl rfl ?_
      refine rU2 ?_
      refine rt ?_
      exact kret_own 4 rfl rfl rfl Tryz.isAgg38 Tryz.sizeOf38 (by simp) (fun w hw => ⟨e2 (by first | (simp only [ml2]; done) | (simp only [ml2]; grind)) (by first | (simp only [ml2]; done) | (simp only [ml2]; grind)), hp_below hw⟩)
  · skip
    refine calls_of_X (G := Gt) Tryz.func93 rfl rfl (Hp (pl w) []) (hp_refl (pl w) trivial rides_true) (good_hp hGF) ?_
    refine xp ?_
    refine lb fun b2 => ?_
    refine lb fun b3 => ?_
    refine la zv38 fun b4 => ?_
    refine lx_nil ?_
    refine pU2 ?_
    refine la zv36 fun b5 => ?_
    refine rU2 ?_
    refine x_seq ?_
    refine pU2 ?_
    refine lx_callB false rfl rfl ent97 (risZeroE _) (decide_eq_false h) rfl rfl ?_
    refine rU2 ?_
    refine lx_skip rfl rfl rfl ?_
    refine lx_skip rfl rfl rfl ?_
    refine lx_skip rfl rfl rfl ?_
    refine rU2 ?_
    refine x_false rfl ?_
    refine x_skip ?_
    refine pU2 ?_
    refine la zv36 fun b6 => ?_
    refine rU2 ?_
    refine xs_drawn (E := EE []) mixed (by kernel_rfl) (by kernel_rfl) (by kernel_rfl) ?_
    refine rU2 ?_
    refine lx_two two38 rfl rfl (by simp) (by simp) rfl rfl ?_
    refine rU2 ?_
    refine rt ?_
    exact kret_own 4 rfl rfl rfl Tryz.isAgg38 Tryz.sizeOf38 (by simp) (fun w hw => ⟨e2 (by first | (simp only [ml2]; done) | (simp only [ml2]; grind)) (by first | (simp only [ml2]; done) | (simp only [ml2]; grind)), hp_below hw⟩)
theorem r5norm (x : W2) : Pure Tryz.prog Gt 139 [EV2 x] (EV (nm2 x)) := by
  refine pure_X Tryz.func139 fun w hw hGF => ?_
  refine xp ?_
  refine lb fun b1 => ?_
  refine la zv36 fun b2 => ?_
  refine lx_nil ?_
  refine xs_drawn (E := EE []) mixed (by kernel_rfl) (by kernel_rfl) (by kernel_rfl) ?_
  refine rU2 ?_
  refine rt ?_
  exact kret_own 2 rfl rfl rfl Tryz.isAgg36 Tryz.sizeOf36 (by simp) (fun w hw => ⟨rfl, hp_below hw⟩)
theorem r5large (x : W2) : Pure Tryz.prog Gt 80 [EV2 x] (.bool (LG2 x)) := by
  intro w hw
  have hGF : BOk Gt (pl w) := gt_low.plain hw
  by_cases h : x.2 = 0
  · skip
    refine calls_of_X (G := Gt) Tryz.func80 rfl rfl (Hp (pl w) []) (hp_refl (pl w) trivial rides_true) (good_hp hGF) ?_
    refine xp ?_
    refine lb fun b1 => ?_
    refine rU2 ?_
    refine x_seq ?_
    refine pU2 ?_
    refine lx_callB true rfl rfl ent97 (risZeroE _) (decide_eq_true h) rfl rfl ?_
    refine lx_nil ?_
    refine x_true rfl ?_
    refine pU2 ?_
    refine rt ?_
    exact kret_tmp rfl rfl (fun w hw => ⟨rb (LG2_t h), hp_below hw⟩)
  · skip
    refine calls_of_X (G := Gt) Tryz.func80 rfl rfl (Hp (pl w) []) (hp_refl (pl w) trivial rides_true) (good_hp hGF) ?_
    refine xp ?_
    refine lb fun b1 => ?_
    refine rU2 ?_
    refine x_seq ?_
    refine pU2 ?_
    refine lx_callB false rfl rfl ent97 (risZeroE _) (decide_eq_false h) rfl rfl ?_
    refine lx_nil ?_
    refine x_false rfl ?_
    refine x_skip ?_
    refine pU2 ?_
    refine rt ?_
    exact kret_tmp rfl rfl (fun w hw => ⟨rb (LG2_n h), hp_below hw⟩)
theorem e2rootOfReal (c : Zp) : Pure Tryz.prog Gt 128 [EV c] (EV2 (RO c)) := by
  refine pure_X Tryz.func128 fun w hw hGF => ?_
  refine xp ?_
  refine lb fun b1 => ?_
  refine la zv50 fun b2 => ?_
  refine lx_nil ?_
  refine x_seq ?_
  refine pU2 ?_
  refine lc ent86 (fsqrt_pure _) ?_
  refine rU2 ?_
  refine la zv28 fun b3 => ?_
  refine rU2 ?_
  refine pU2 ?_
  refine x_if rfl (fun hc => ?_) (fun hc => ?_)
  · have h : SQr c * SQr c = c := of_decide_eq_true hc
    refine pU2 ?_
    refine lx_twoA two50 rfl (by simp) rfl rfl ?_
    refine rU2 ?_
    refine rt ?_
    exact kret_own 2 rfl rfl rfl Tryz.isAgg50 Tryz.sizeOf50 (by simp) (fun w hw => ⟨by rw [show RO c = (SQ c, 0) from if_pos h] <;> rfl, hp_below hw⟩)
  · have h : ¬ SQr c * SQr c = c := of_decide_eq_false hc
    refine x_skip ?_
    refine pU2 ?_
    refine lc ent86 (fsqrt_pure _) ?_
    refine rU2 ?_
    refine la zv28 fun b5 => ?_
    refine rU2 ?_
    refine pU2 ?_
    refine lx_twoB two50 rfl (by simp) rfl rfl ?_
    refine rU2 ?_
    refine rt ?_
    exact kret_own 2 rfl rfl rfl Tryz.isAgg50 Tryz.sizeOf50 (by simp) (fun w hw => ⟨by rw [show RO c = (0, SQ (-c)) from if_neg h] <;> rfl, hp_below hw⟩)
theorem e2rootBy (x : W2) (n : Zp) : Pure Tryz.prog Gt 130 [EV2 x, EV n] (EV2 (RB x n)) := by
  refine pure_X Tryz.func130 fun w hw hGF => ?_
  refine xp ?_
  refine lb fun b2 => ?_
  refine lb fun b3 => ?_
  refine la zv50 fun b4 => ?_
  refine lx_nil ?_
  refine pU2 ?_
  refine la zv28 fun b5 => ?_
  refine rU2 ?_
  refine pU2 ?_
  refine la zv28 fun b6 => ?_
  refine rU2 ?_
  refine x_seq ?_
  refine pU2 ?_
  refine lc ent86 (fsqrt_pure _) ?_
  refine rU2 ?_
  refine la zv28 fun b7 => ?_
  refine rU2 ?_
  refine pU2 ?_
  refine x_if rfl (fun hc => ?_) (fun hc => ?_)
  · have h : SQr (RBs x n) * SQr (RBs x n) = RBs x n := of_decide_eq_true hc
    refine pU2 ?_
    refine la zv28 fun b9 => ?_
    refine rU2 ?_
    refine xs_drawn (E := EE []) mixed (by kernel_rfl) (by kernel_rfl) (by kernel_rfl) ?_
    refine rU2 ?_
    refine lx_two two50 rfl rfl (by simp) (by simp) rfl rfl ?_
    refine rU2 ?_
    refine rt ?_
    exact kret_own 4 rfl rfl rfl Tryz.isAgg50 Tryz.sizeOf50 (by simp) (fun w hw => ⟨by rw [show RB x n = _ from if_pos h] <;> rfl, hp_below hw⟩)
  · have h : ¬ SQr (RBs x n) * SQr (RBs x n) = RBs x n := of_decide_eq_false hc
    refine x_skip ?_
    refine pU2 ?_
    refine lc ent86 (fsqrt_pure _) ?_
    refine rU2 ?_
    refine la zv28 fun b10 => ?_
    refine rU2 ?_
    refine pU2 ?_
    refine la zv28 fun b12 => ?_
    refine rU2 ?_
    refine xs_drawn (E := EE []) mixed (by kernel_rfl) (by kernel_rfl) (by kernel_rfl) ?_
    refine rU2 ?_
    refine lx_two two50 rfl rfl (by simp) (by simp) rfl rfl ?_
    refine rU2 ?_
    refine rt ?_
    exact kret_own 4 rfl rfl rfl Tryz.isAgg50 Tryz.sizeOf50 (by simp) (fun w hw => ⟨by rw [show RB x n = _ from if_neg h] <;> rfl, hp_below hw⟩)
theorem e2sqrtY (x r : W2) (hr : ml2 r r = x) (hl : LG2 r = false) : Pure Tryz.prog Gt 88 [EV2 x] (.tuple #[EV2 r, .bool true]) := by
  intro w hw
  have hGF : BOk Gt (pl w) := gt_low.plain hw
  by_cases h : x.2 = 0
  · skip
    refine calls_of_X (G := Gt) Tryz.func88 rfl rfl (Hp (pl w) []) (hp_refl (pl w) trivial rides_true) (good_hp hGF) ?_
    refine xp ?_
    refine lb fun b1 => ?_
    refine la zv50 fun b2 => ?_
    refine rU2 ?_
    refine x_seq ?_
    refine pU2 ?_
    refine lx_callB true rfl rfl ent81 (fisZero_pure _) (decide_eq_true h) rfl rfl ?_
    refine lx_nil ?_
    refine x_true rfl ?_
    refine pU2 ?_
    refine lc ent128 (e2rootOfReal _) ?_
    refine rU2 ?_
    refine rt ?_
    exact kret_ct 2 rfl rfl rfl rfl Tryz.isAgg50 Tryz.sizeOf50 (by simp) (fun w hw => ⟨by rw [← root_re hr hl h] <;> rfl, hp_below hw⟩)
  · skip
    refine calls_of_X (G := Gt) Tryz.func88 rfl rfl (Hp (pl w) []) (hp_refl (pl w) trivial rides_true) (good_hp hGF) ?_
    refine xp ?_
    refine lb fun b1 => ?_
    refine la zv50 fun b2 => ?_
    refine rU2 ?_
    refine x_seq ?_
    refine pU2 ?_
    refine lx_callB false rfl rfl ent81 (fisZero_pure _) (decide_eq_false h) rfl rfl ?_
    refine lx_nil ?_
    refine x_false rfl ?_
    refine x_skip ?_
    refine pU2 ?_
    refine lx_call rfl rfl ent86 (sqY (nm2_sq hr)) rfl rfl ?_
    refine rU2 ?_
    refine la zv28 fun b4 => ?_
    refine rU2 ?_
    refine x_seq ?_
    refine pU2 ?_
    refine lx_un rfl (fun _ => un_not _) rfl rfl ?_
    refine lx_nil ?_
    refine x_false rfl ?_
    refine x_skip ?_
    refine pU2 ?_
    refine lc ent130 (e2rootBy _ _) ?_
    refine la zv50 fun b6 => ?_
    refine rU2 ?_
    refine x_seq ?_
    refine pU2 ?_
    refine lc ent58 (e2large _) ?_
    refine lx_nil ?_
    refine x_if rfl (fun hc => ?_) (fun hc => ?_)
    · skip
      refine x_plain (E := EE []) ?_
      refine rU2 ?_
      refine lc ent67 (e2neg _) ?_
      refine rU2 ?_
      refine pU2 ?_
      refine rt ?_
      exact kret_ct 2 rfl rfl rfl rfl Tryz.isAgg50 Tryz.sizeOf50 (by simp) (fun w hw => ⟨by rw [← root_rb hr hl h, NL, if_pos hc] <;> rfl, hp_below hw⟩)
    · skip
      refine x_skip ?_
      refine pU2 ?_
      refine rt ?_
      exact kret_ct 2 rfl rfl rfl rfl Tryz.isAgg50 Tryz.sizeOf50 (by simp) (fun w hw => ⟨by rw [← root_rb hr hl h, NL, if_neg (by rw [hc]; exact Bool.false_ne_true)] <;> rfl, hp_below hw⟩)
theorem e2sqrtN (x : W2) (hq : ¬ IsQ (nm2 x)) : Pure Tryz.prog Gt 88 [EV2 x] (.tuple #[EV2 ze2, .bool false]) := by
  refine pure_X Tryz.func88 fun w hw hGF => ?_
  refine xp ?_
  refine lb fun b1 => ?_
  refine la zv50 fun b2 => ?_
  refine rU2 ?_
  refine x_seq ?_
  refine pU2 ?_
  refine lx_callB false rfl rfl ent81 (fisZero_pure _) (decide_eq_false (no_re hq)) rfl rfl ?_
  refine lx_nil ?_
  refine x_false rfl ?_
  refine x_skip ?_
  refine pU2 ?_
  refine lc ent86 (sqN hq) ?_
  refine rU2 ?_
  refine la zv28 fun b4 => ?_
  refine rU2 ?_
  refine x_seq ?_
  refine pU2 ?_
  refine lx_un rfl (fun _ => un_not _) rfl rfl ?_
  refine lx_nil ?_
  refine x_true rfl ?_
  refine xp ?_
  refine lx_two0 two50 rfl rfl ?_
  refine rU2 ?_
  refine rt ?_
  exact kret_ct 2 rfl rfl rfl rfl Tryz.isAgg50 Tryz.sizeOf50 (by simp) (fun w hw => ⟨rfl, hp_below hw⟩)
theorem r5mulC (a b c d : Zp) : Pure Tryz.prog Gt 93 [.agg ((fe a ++ fe b).map U64).toArray, .agg ((fe c ++ fe d).map U64).toArray] (EV2 (ml2 (a, b) (c, d))) := r5mul (a, b) (c, d)
theorem r5largeC (a b : Zp) : Pure Tryz.prog Gt 80 [.agg ((fe a ++ fe b).map U64).toArray] (.bool (LG2 (a, b))) := r5large (a, b)
theorem r5negC (a b : Zp) : Pure Tryz.prog Gt 98 [.agg ((fe a ++ fe b).map U64).toArray] (EV2 (ng2 (a, b))) := r5neg (a, b)
theorem rp2 {a b : Zp} {r : W2} (h : (a, b) = r) : Ending.returned (.tuple #[.agg ((fe a ++ fe b).map U64).toArray, .bool true]) = .returned (.tuple #[EV2 r, .bool true]) := by subst h; rfl
theorem rq2 {x r : W2} (h : x = r) : Ending.returned (.tuple #[EV2 x, .bool true]) = .returned (.tuple #[EV2 r, .bool true]) := by subst h; rfl
theorem NL_t {x : W2} (h : LG2 x = true) : ng2 x = NL x := by rw [NL, if_pos h]
theorem NL_f {x : W2} (h : LG2 x = false) : x = NL x := by rw [NL, if_neg (by rw [h]; exact Bool.false_ne_true)]
theorem r5sqrtY (x r : W2) (hr : ml2 r r = x) (hl : LG2 r = false) : Pure Tryz.prog Gt 96 [EV2 x] (.tuple #[EV2 r, .bool true]) := by
  intro w hw
  have hGF : BOk Gt (pl w) := gt_low.plain hw
  by_cases h : x.2 = 0
  · skip
    by_cases q : SQr x.1 * SQr x.1 = x.1
    · skip
      have e : r = (SQ x.1, 0) := (root_re hr hl h).symm.trans (if_pos q)
      refine calls_of_X (G := Gt) Tryz.func96 rfl rfl (Hp (pl w) []) (hp_refl (pl w) trivial rides_true) (good_hp hGF) ?_
      refine xp ?_
      refine lb fun b1 => ?_
      refine la zv38 fun b2 => ?_
      refine rU2 ?_
      refine xp ?_
      refine la zv38 fun b4 => ?_
      refine lx_nil ?_
      refine x_seq ?_
      refine pU2 ?_
      refine lx_callB true rfl rfl ent97 (risZeroE _) (decide_eq_true h) rfl rfl ?_
      refine lx_nil ?_
      refine x_true rfl ?_
      refine pU2 ?_
      refine lc ent137 (rsqY q) ?_
      refine rU2 ?_
      refine la zv36 fun b5 => ?_
      refine rU2 ?_
      refine pU2 ?_
      refine lx_fak 0 rfl Tryz.underlying38 rfl Tryz.sizeOf36 (by decide) rfl rfl rfl ?_
      refine lx_storeo 4 _ hGF rfl rfl rfl Tryz.sizeOf36 (by simp) (one_u64 _) (by simp) (lay_l (by simp)) rfl ?_
      refine lx_nil ?_
      refine pU2 ?_
      refine lx_un rfl (fun _ => un_not _) rfl rfl ?_
      refine lx_nil ?_
      refine x_false rfl ?_
      refine x_skip ?_
      refine x_seq ?_
      refine xs_drawn (E := EE []) mixed (by kernel_rfl) (by kernel_rfl) (by kernel_rfl) ?_
      refine rU2 ?_
      refine lc ent93 (r5mulC _ _ _ _) ?_
      refine rU2 ?_
      refine lx_binB false rfl rfl (fun _ => eqg38 _ _ _ _ _ _) (fun w => nev38 _ _ (by simp) (by simp) w) (nf (x := x) (y := ml2 (SQ x.1, 0) (SQ x.1, 0)) (e ▸ hr)) rfl rfl ?_
      refine lx_nil ?_
      refine x_false rfl ?_
      refine x_skip ?_
      refine x_seq ?_
      refine pU2 ?_
      refine lx_callB false rfl rfl ent80 (r5largeC _ _) (e ▸ hl) rfl rfl ?_
      refine lx_nil ?_
      refine x_false rfl ?_
      refine x_skip ?_
      refine pU2 ?_
      refine rt ?_
      exact kret_ct 2 rfl rfl rfl rfl Tryz.isAgg38 Tryz.sizeOf38 (by simp) (fun w hw => ⟨rp2 e.symm, hp_below hw⟩)
    · skip
      have e : r = (0, SQ (-x.1)) := (root_re hr hl h).symm.trans (if_neg q)
      refine calls_of_X (G := Gt) Tryz.func96 rfl rfl (Hp (pl w) []) (hp_refl (pl w) trivial rides_true) (good_hp hGF) ?_
      refine xp ?_
      refine lb fun b1 => ?_
      refine la zv38 fun b2 => ?_
      refine rU2 ?_
      refine xp ?_
      refine la zv38 fun b4 => ?_
      refine lx_nil ?_
      refine x_seq ?_
      refine pU2 ?_
      refine lx_callB true rfl rfl ent97 (risZeroE _) (decide_eq_true h) rfl rfl ?_
      refine lx_nil ?_
      refine x_true rfl ?_
      refine pU2 ?_
      refine lc ent137 (rsqN q) ?_
      refine rU2 ?_
      refine la zv36 fun b5 => ?_
      refine rU2 ?_
      refine pU2 ?_
      refine lx_fak 0 rfl Tryz.underlying38 rfl Tryz.sizeOf36 (by decide) rfl rfl rfl ?_
      refine lx_storeo 4 _ hGF rfl rfl rfl Tryz.sizeOf36 (by simp) (one_u64 _) (by simp) (lay_l (by simp)) rfl ?_
      refine lx_nil ?_
      refine pU2 ?_
      refine lx_un rfl (fun _ => un_not _) rfl rfl ?_
      refine lx_nil ?_
      refine x_true rfl ?_
      refine pU2 ?_
      refine lc ent137 (rsqrtE _) ?_
      refine rU2 ?_
      refine x_plain (E := EE []) ?_
      refine rU2 ?_
      refine lx_twoB two38 rfl (by simp) rfl rfl ?_
      refine rU2 ?_
      refine x_seq ?_
      refine xs_drawn (E := EE []) mixed (by kernel_rfl) (by kernel_rfl) (by kernel_rfl) ?_
      refine rU2 ?_
      refine lc ent93 (r5mulC _ _ _ _) ?_
      refine rU2 ?_
      refine lx_binB false rfl rfl (fun _ => eqg38 _ _ _ _ _ _) (fun w => nev38 _ _ (by simp) (by simp) w) (nf (x := x) (y := ml2 (0, SQ (-x.1)) (0, SQ (-x.1))) (e ▸ hr)) rfl rfl ?_
      refine lx_nil ?_
      refine x_false rfl ?_
      refine x_skip ?_
      refine x_seq ?_
      refine pU2 ?_
      refine lx_callB false rfl rfl ent80 (r5largeC _ _) (e ▸ hl) rfl rfl ?_
      refine lx_nil ?_
      refine x_false rfl ?_
      refine x_skip ?_
      refine pU2 ?_
      refine rt ?_
      exact kret_ct 2 rfl rfl rfl rfl Tryz.isAgg38 Tryz.sizeOf38 (by simp) (fun w hw => ⟨rp2 e.symm, hp_below hw⟩)
  · skip
    by_cases q : SQr ((x.1 + (SQ (nm2 x))) * (zp 2 ^ (PP - 2))) * SQr ((x.1 + (SQ (nm2 x))) * (zp 2 ^ (PP - 2))) = (x.1 + (SQ (nm2 x))) * (zp 2 ^ (PP - 2))
    · skip
      have e1 : RF x (SQ (nm2 x)) (zp 2 ^ (PP - 2)) = (SQ ((x.1 + (SQ (nm2 x))) * (zp 2 ^ (PP - 2))), x.2 * (zp 2 ^ (PP - 2)) * SQ ((x.1 + (SQ (nm2 x))) * (zp 2 ^ (PP - 2))) ^ (PP - 2)) := if_pos q
      have e : NL (SQ ((x.1 + (SQ (nm2 x))) * (zp 2 ^ (PP - 2))), x.2 * (zp 2 ^ (PP - 2)) * SQ ((x.1 + (SQ (nm2 x))) * (zp 2 ^ (PP - 2))) ^ (PP - 2)) = r := e1 ▸ root_rf hr hl half_two h
      have e0 : ml2 (SQ ((x.1 + (SQ (nm2 x))) * (zp 2 ^ (PP - 2))), x.2 * (zp 2 ^ (PP - 2)) * SQ ((x.1 + (SQ (nm2 x))) * (zp 2 ^ (PP - 2))) ^ (PP - 2)) (SQ ((x.1 + (SQ (nm2 x))) * (zp 2 ^ (PP - 2))), x.2 * (zp 2 ^ (PP - 2)) * SQ ((x.1 + (SQ (nm2 x))) * (zp 2 ^ (PP - 2))) ^ (PP - 2)) = x := e1 ▸ RF_sq (SQ_sq (nm2_sq hr)) half_two h
      refine calls_of_X (G := Gt) Tryz.func96 rfl rfl (Hp (pl w) []) (hp_refl (pl w) trivial rides_true) (good_hp hGF) ?_
      refine xp ?_
      refine lb fun b1 => ?_
      refine la zv38 fun b2 => ?_
      refine rU2 ?_
      refine xp ?_
      refine la zv38 fun b4 => ?_
      refine lx_nil ?_
      refine x_seq ?_
      refine pU2 ?_
      refine lx_callB false rfl rfl ent97 (risZeroE _) (decide_eq_false h) rfl rfl ?_
      refine lx_nil ?_
      refine x_false rfl ?_
      refine pU2 ?_
      refine lc ent139 (r5norm _) ?_
      refine lx_call rfl rfl ent137 (rsqY (nm2_sq hr)) rfl rfl ?_
      refine rU2 ?_
      refine la zv36 fun b7 => ?_
      refine rU2 ?_
      refine x_seq ?_
      refine pU2 ?_
      refine lx_un rfl (fun _ => un_not _) rfl rfl ?_
      refine lx_nil ?_
      refine x_false rfl ?_
      refine x_skip ?_
      refine xp ?_
      refine lc ent140 (rsmall2) ?_
      refine rU2 ?_
      refine la zv36 fun b9 => ?_
      refine rU2 ?_
      refine xs_drawA (E := EE [2999999]) [0, 1, 2, 3, 4, 5, 6, 7, 8, 9] [⟨10, 10, 36, (List.replicate 6 0#64).map U64⟩] [11, 12] mixed rfl (by kernel_rfl) (by kernel_rfl) (by kernel_rfl) (by kernel_rfl) (by kernel_rfl) (by kernel_rfl) (by decide) (by intro x hx; simp only [List.mem_cons, List.not_mem_nil, or_false] at hx; subst hx; exact isAlloc_mk rfl zv36 rfl) ?_
      refine rU2 ?_
      refine lc ent137 (rsqY q) ?_
      refine rU2 ?_
      refine ⟨_, _, rfl, hGF, by intro x hx; simp only [List.mem_cons, List.not_mem_nil, or_false] at hx; subst hx; rfl, by intro x hx; simp only [List.mem_cons, List.not_mem_nil, or_false] at hx; subst hx; rfl, fun adr => ?_⟩
      refine rU2 ?_
      refine x_seq ?_
      refine pU2 ?_
      refine lx_un rfl (fun _ => un_not _) rfl rfl ?_
      refine lx_nil ?_
      refine x_false rfl ?_
      refine x_skip ?_
      refine x_drawn (E := EE []) mixed (by kernel_rfl) (by kernel_rfl) (by kernel_rfl) ?_
      refine rU2 ?_
      refine lx_two two38 rfl rfl (by simp) (by simp) rfl rfl ?_
      refine rU2 ?_
      refine x_seq ?_
      refine xs_drawn (E := EE []) mixed (by kernel_rfl) (by kernel_rfl) (by kernel_rfl) ?_
      refine rU2 ?_
      refine lc ent93 (r5mulC _ _ _ _) ?_
      refine rU2 ?_
      refine lx_binB false rfl rfl (fun _ => eqg38 _ _ _ _ _ _) (fun w => nev38 _ _ (by simp) (by simp) w) (nf (x := x) (y := ml2 (SQ ((x.1 + (SQ (nm2 x))) * (zp 2 ^ (PP - 2))), x.2 * (zp 2 ^ (PP - 2)) * SQ ((x.1 + (SQ (nm2 x))) * (zp 2 ^ (PP - 2))) ^ (PP - 2)) (SQ ((x.1 + (SQ (nm2 x))) * (zp 2 ^ (PP - 2))), x.2 * (zp 2 ^ (PP - 2)) * SQ ((x.1 + (SQ (nm2 x))) * (zp 2 ^ (PP - 2))) ^ (PP - 2))) e0) rfl rfl ?_
      refine lx_nil ?_
      refine x_false rfl ?_
      refine x_skip ?_
      refine x_seq ?_
      refine pU2 ?_
      refine lc ent80 (r5largeC _ _) ?_
      refine lx_nil ?_
      refine x_if rfl (fun hc => ?_) (fun hc => ?_)
      · skip
        refine x_plain (E := EE []) ?_
        refine rU2 ?_
        refine lc ent98 (r5negC _ _) ?_
        refine rU2 ?_
        refine pU2 ?_
        refine rt ?_
        exact kret_ct 2 rfl rfl rfl rfl Tryz.isAgg38 Tryz.sizeOf38 (by simp) (fun w hw => ⟨rq2 ((NL_t hc).trans e), hp_below hw⟩)
      · skip
        refine x_skip ?_
        refine pU2 ?_
        refine rt ?_
        exact kret_ct 2 rfl rfl rfl rfl Tryz.isAgg38 Tryz.sizeOf38 (by simp) (fun w hw => ⟨rp2 ((NL_f hc).trans e), hp_below hw⟩)
    · skip
      have e1 : RF x (SQ (nm2 x)) (zp 2 ^ (PP - 2)) = (SQ ((x.1 - (SQ (nm2 x))) * (zp 2 ^ (PP - 2))), x.2 * (zp 2 ^ (PP - 2)) * SQ ((x.1 - (SQ (nm2 x))) * (zp 2 ^ (PP - 2))) ^ (PP - 2)) := if_neg q
      have e : NL (SQ ((x.1 - (SQ (nm2 x))) * (zp 2 ^ (PP - 2))), x.2 * (zp 2 ^ (PP - 2)) * SQ ((x.1 - (SQ (nm2 x))) * (zp 2 ^ (PP - 2))) ^ (PP - 2)) = r := e1 ▸ root_rf hr hl half_two h
      have e0 : ml2 (SQ ((x.1 - (SQ (nm2 x))) * (zp 2 ^ (PP - 2))), x.2 * (zp 2 ^ (PP - 2)) * SQ ((x.1 - (SQ (nm2 x))) * (zp 2 ^ (PP - 2))) ^ (PP - 2)) (SQ ((x.1 - (SQ (nm2 x))) * (zp 2 ^ (PP - 2))), x.2 * (zp 2 ^ (PP - 2)) * SQ ((x.1 - (SQ (nm2 x))) * (zp 2 ^ (PP - 2))) ^ (PP - 2)) = x := e1 ▸ RF_sq (SQ_sq (nm2_sq hr)) half_two h
      refine calls_of_X (G := Gt) Tryz.func96 rfl rfl (Hp (pl w) []) (hp_refl (pl w) trivial rides_true) (good_hp hGF) ?_
      refine xp ?_
      refine lb fun b1 => ?_
      refine la zv38 fun b2 => ?_
      refine rU2 ?_
      refine xp ?_
      refine la zv38 fun b4 => ?_
      refine lx_nil ?_
      refine x_seq ?_
      refine pU2 ?_
      refine lx_callB false rfl rfl ent97 (risZeroE _) (decide_eq_false h) rfl rfl ?_
      refine lx_nil ?_
      refine x_false rfl ?_
      refine pU2 ?_
      refine lc ent139 (r5norm _) ?_
      refine lx_call rfl rfl ent137 (rsqY (nm2_sq hr)) rfl rfl ?_
      refine rU2 ?_
      refine la zv36 fun b7 => ?_
      refine rU2 ?_
      refine x_seq ?_
      refine pU2 ?_
      refine lx_un rfl (fun _ => un_not _) rfl rfl ?_
      refine lx_nil ?_
      refine x_false rfl ?_
      refine x_skip ?_
      refine xp ?_
      refine lc ent140 (rsmall2) ?_
      refine rU2 ?_
      refine la zv36 fun b9 => ?_
      refine rU2 ?_
      refine xs_drawA (E := EE [2999999]) [0, 1, 2, 3, 4, 5, 6, 7, 8, 9] [⟨10, 10, 36, (List.replicate 6 0#64).map U64⟩] [11, 12] mixed rfl (by kernel_rfl) (by kernel_rfl) (by kernel_rfl) (by kernel_rfl) (by kernel_rfl) (by kernel_rfl) (by decide) (by intro x hx; simp only [List.mem_cons, List.not_mem_nil, or_false] at hx; subst hx; exact isAlloc_mk rfl zv36 rfl) ?_
      refine rU2 ?_
      refine lc ent137 (rsqN q) ?_
      refine rU2 ?_
      refine ⟨_, _, rfl, hGF, by intro x hx; simp only [List.mem_cons, List.not_mem_nil, or_false] at hx; subst hx; rfl, by intro x hx; simp only [List.mem_cons, List.not_mem_nil, or_false] at hx; subst hx; rfl, fun adr => ?_⟩
      refine rU2 ?_
      refine x_seq ?_
      refine pU2 ?_
      refine lx_un rfl (fun _ => un_not _) rfl rfl ?_
      refine lx_nil ?_
      refine x_true rfl ?_
      refine x_drawn (E := EE []) mixed (by kernel_rfl) (by kernel_rfl) (by kernel_rfl) ?_
      refine rU2 ?_
      refine lc ent137 (rsqrtE _) ?_
      refine rU2 ?_
      refine x_drawn (E := EE []) mixed (by kernel_rfl) (by kernel_rfl) (by kernel_rfl) ?_
      refine rU2 ?_
      refine lx_two two38 rfl rfl (by simp) (by simp) rfl rfl ?_
      refine rU2 ?_
      refine x_seq ?_
      refine xs_drawn (E := EE []) mixed (by kernel_rfl) (by kernel_rfl) (by kernel_rfl) ?_
      refine rU2 ?_
      refine lc ent93 (r5mulC _ _ _ _) ?_
      refine rU2 ?_
      refine lx_binB false rfl rfl (fun _ => eqg38 _ _ _ _ _ _) (fun w => nev38 _ _ (by simp) (by simp) w) (nf (x := x) (y := ml2 (SQ ((x.1 - (SQ (nm2 x))) * (zp 2 ^ (PP - 2))), x.2 * (zp 2 ^ (PP - 2)) * SQ ((x.1 - (SQ (nm2 x))) * (zp 2 ^ (PP - 2))) ^ (PP - 2)) (SQ ((x.1 - (SQ (nm2 x))) * (zp 2 ^ (PP - 2))), x.2 * (zp 2 ^ (PP - 2)) * SQ ((x.1 - (SQ (nm2 x))) * (zp 2 ^ (PP - 2))) ^ (PP - 2))) e0) rfl rfl ?_
      refine lx_nil ?_
      refine x_false rfl ?_
      refine x_skip ?_
      refine x_seq ?_
      refine pU2 ?_
      refine lc ent80 (r5largeC _ _) ?_
      refine lx_nil ?_
      refine x_if rfl (fun hc => ?_) (fun hc => ?_)
      · skip
        refine x_plain (E := EE []) ?_
        refine rU2 ?_
        refine lc ent98 (r5negC _ _) ?_
        refine rU2 ?_
        refine pU2 ?_
        refine rt ?_
        exact kret_ct 2 rfl rfl rfl rfl Tryz.isAgg38 Tryz.sizeOf38 (by simp) (fun w hw => ⟨rq2 ((NL_t hc).trans e), hp_below hw⟩)
      · skip
        refine x_skip ?_
        refine pU2 ?_
        refine rt ?_
        exact kret_ct 2 rfl rfl rfl rfl Tryz.isAgg38 Tryz.sizeOf38 (by simp) (fun w hw => ⟨rp2 ((NL_f hc).trans e), hp_below hw⟩)
theorem r5sqrtN (x : W2) (hq : ¬ IsQ (nm2 x)) : Pure Tryz.prog Gt 96 [EV2 x] (.tuple #[EV2 ze2, .bool false]) := by
  refine pure_X Tryz.func96 fun w hw hGF => ?_
  refine xp ?_
  refine lb fun b1 => ?_
  refine la zv38 fun b2 => ?_
  refine rU2 ?_
  refine xp ?_
  refine la zv38 fun b4 => ?_
  refine lx_nil ?_
  refine x_seq ?_
  refine pU2 ?_
  refine lx_callB false rfl rfl ent97 (risZeroE _) (decide_eq_false (no_re hq)) rfl rfl ?_
  refine lx_nil ?_
  refine x_false rfl ?_
  refine pU2 ?_
  refine lc ent139 (r5norm _) ?_
  refine lc ent137 (rsqN hq) ?_
  refine rU2 ?_
  refine la zv36 fun b7 => ?_
  refine rU2 ?_
  refine x_seq ?_
  refine pU2 ?_
  refine lx_un rfl (fun _ => un_not _) rfl rfl ?_
  refine lx_nil ?_
  refine x_true rfl ?_
  refine xp ?_
  refine lx_two0 two38 rfl rfl ?_
  refine rU2 ?_
  refine rt ?_
  exact kret_ct 2 rfl rfl rfl rfl Tryz.isAgg38 Tryz.sizeOf38 (by simp) (fun w hw => ⟨rfl, hp_below hw⟩)
end Go.Proofs.YtamddkjccmhgaaaGreatDoor
