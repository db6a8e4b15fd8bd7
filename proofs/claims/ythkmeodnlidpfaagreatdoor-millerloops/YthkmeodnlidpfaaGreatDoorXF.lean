/-
 Elements of fp12 as values; what the laws of layer 7 share.
 The walks of package fp12.
-/
import Derived.Test.YthkmeodnlidpfaaGreatDoorXE
import Derived.Test.YthkmeodnlidpfaaGreatDoorX3
import Derived.Test.YthkmeodnlidpfaaGreatDoorXJ
import Derived.Test.YthkmeodnlidpfaaGreatDoorX5
set_option maxRecDepth 100000
set_option maxHeartbeats 1000000
namespace Go.Proofs.YthkmeodnlidpfaaGreatDoor
section
open Go.RowKit
theorem ent70 : Enters Tryz.prog 70 := fun _ _ => by kernel_rfl
theorem ent28 : Enters Tryz.prog 28 := fun _ _ => by kernel_rfl
theorem ent27 : Enters Tryz.prog 27 := fun _ _ => by kernel_rfl
theorem ent66 : Enters Tryz.prog 66 := fun _ _ => by kernel_rfl
namespace Q6
attribute [local simp] fe_len nm_len AS_len SS_len MONT_len RM_len FRs_len BYs_len by48_len PLl TWOl ONEl N1l IVPl HFPl RTPl FL_len SP_len fe2_len SP2_len FM_len FF_len
attribute [local simp] ff_len RW_len
abbrev EV12 (x : W12) : Value := .agg ((((fe (x.1.1).1 ++ fe (x.1.1).2) ++ ((fe (x.1.2.1).1 ++ fe (x.1.2.1).2) ++ (fe (x.1.2.2).1 ++ fe (x.1.2.2).2))) ++ ((fe (x.2.1).1 ++ fe (x.2.1).2) ++ ((fe (x.2.2.1).1 ++ fe (x.2.2.1).2) ++ (fe (x.2.2.2).1 ++ fe (x.2.2.2).2)))).map U64).toArray
theorem zv39 (w : World) : (zeroValue 39).run Tryz.prog w = .ok (.agg ((((fe 0 ++ fe 0) ++ ((fe 0 ++ fe 0) ++ (fe 0 ++ fe 0))) ++ ((fe 0 ++ fe 0) ++ ((fe 0 ++ fe 0) ++ (fe 0 ++ fe 0)))).map U64).toArray) w := by rw [fe_0]; exact (Tryz.zeroValue39 w).trans (by rfl)
theorem two39 : Two Tryz.prog 39 ⟨ "C0", 37, 0, false, "", "", 0⟩ ⟨ "C1", 37, 36, false, "", "", 288⟩ 36 36 ((fe 0 ++ fe 0) ++ ((fe 0 ++ fe 0) ++ (fe 0 ++ fe 0))) ((fe 0 ++ fe 0) ++ ((fe 0 ++ fe 0) ++ (fe 0 ++ fe 0))) := ⟨Tryz.underlying39, rfl, rfl, Tryz.sizeOf37, Tryz.sizeOf37, zv39, by simp, by simp⟩
theorem e12 {a b a' b' : W6} (h1 : a = a') (h2 : b = b') : Ending.returned (EV12 (a, b)) = .returned (EV12 (a', b')) := by rw [h1, h2]
theorem dec12_t {x y : W12} (h : x.1 = y.1) : decide (x.2 = y.2) = decide (x = y) := decide_eq_decide.2 ⟨fun e => Prod.ext h e, fun e => by rw [e]⟩
theorem dec12_f {x y : W12} (h : ¬ x.1 = y.1) : false = decide (x = y) := (decide_eq_false fun e => h (by rw [e])).symm
def p12 (x : W12) : Nat → W2
 | 0 => x.1.1
 | 1 => x.2.1
 | 2 => x.1.2.1
 | 3 => x.2.2.1
 | 4 => x.1.2.2
 | _ => x.2.2.2
def q12 : Sh W12 := q6.two q6 6
theorem V12 (x : W12) : EV12 x = dn rid (.inl [x.1.1.1, x.1.1.2, x.1.2.1.1, x.1.2.1.2, x.1.2.2.1, x.1.2.2.2, x.2.1.1, x.2.1.2, x.2.2.1.1, x.2.2.1.2, x.2.2.2.1, x.2.2.2.2]) := by
 show Value.agg _ = Value.agg _
 rw [clv, show cel [x.1.1.1, x.1.1.2, x.1.2.1.1, x.1.2.1.2, x.1.2.2.1, x.1.2.2.2, x.2.1.1, x.2.1.2, x.2.2.1.1, x.2.2.1.2, x.2.2.2.1, x.2.2.2.2] = fe x.1.1.1 ++ (fe x.1.1.2 ++ (fe x.1.2.1.1 ++ (fe x.1.2.1.2 ++ (fe x.1.2.2.1 ++ (fe x.1.2.2.2 ++ (fe x.2.1.1 ++ (fe x.2.1.2 ++ (fe x.2.2.1.1 ++ (fe x.2.2.1.2 ++ (fe x.2.2.2.1 ++ fe x.2.2.2.2)))))))))) from rfl]
 simp only [List.append_assoc]
end Q6
end
section
open Go.RowKit
namespace Q6
attribute [local simp] fe_len nm_len AS_len SS_len MONT_len RM_len FRs_len BYs_len by48_len PLl TWOl ONEl N1l IVPl HFPl RTPl FL_len SP_len fe2_len SP2_len FM_len FF_len
theorem rW2 {Q P : Prop} (k : Q) (h : Q → P := by intro k; (refine LY.run ?_); (repeat (first | refine y_move rfl rfl rfl ?_ | refine y_assign rfl rfl rfl ?_ | ((refine fl39_0L rfl rfl ?_ rfl rfl rfl rfl ?_); (· simp)) | ((refine fl39_1R rfl rfl ?_ ?_ rfl rfl rfl rfl ?_); (· simp); (· simp)) | ((refine ra37 rfl rfl ?_ rfl rfl ?_); (· simp)) | ((refine sa37 hGF rfl rfl rfl ?_ ?_ (one_u64 _) rfl ?_); (· simp); (· simp)) | ((refine sa39 hGF rfl rfl rfl ?_ ?_ (one_u64 _) rfl ?_); (· simp); (· simp)) | refine y_call (f := 117) rfl rfl ent117 (k6add _ _) rfl rfl ?_ | refine y_call (f := 119) rfl rfl ent119 (k6sub _ _) rfl rfl ?_ | refine y_call (f := 116) rfl rfl ent116 (k6mul _ _) rfl rfl ?_ | refine y_call (f := 118) rfl rfl ent118 (k6v _) rfl rfl ?_ | refine y_pick rfl rfl rfl rfl rfl ?_)); (first | refine y_nil ?_ | refine LY.mk ?_); exact k) : P := h k
theorem pW2 {Q P : Prop} (k : Q) (h : Q → P := by intro k; (refine xp ?_); (refine rW2 ?_); exact k) : P := h k
attribute [local simp] ff_len RW_len
theorem k12one  : Pure Tryz.prog Gt 28 [] (EV12 K12.one) := (pcast rfl (V12 _) (pE TO48 Tryz.func28 [] (.inl (.inl [K12.one.1.1.1, K12.one.1.1.2, K12.one.1.2.1.1, K12.one.1.2.1.2, K12.one.1.2.2.1, K12.one.1.2.2.2, K12.one.2.1.1, K12.one.2.1.2, K12.one.2.2.1.1, K12.one.2.2.1.2, K12.one.2.2.2.1, K12.one.2.2.2.2])) (let t0 := K6.one; (.inl (.inl [t0.1.1, t0.1.2, t0.2.1.1, t0.2.1.2, t0.2.2.1, t0.2.2.2, 0, 0, 0, 0, 0, 0]), [])) [] (by kernel_rfl) ok_nil rfl))
theorem wq12rd {f : Nat} {g : W12} (en : Enters Tryz.prog f) (h : Pure Tryz.prog Gt f [] (EV12 g)) : Snd Tryz.prog Gt f (c0 q12.rd g) := c0_ok q12.rd en (pcast rfl (V12 _).symm h)
def TO49 : Tb Tryz.prog Gt := TO48.add (wq12rd (g := K12.one) ent28 k12one)
theorem k12equal (x y : W12) : Pure Tryz.prog Gt 27 [EV12 x, EV12 y] (.bool (decide (x = y))) := by
 intro w hw
 have hGF : BOk Gt (pl w) := gt_low.plain hw
 by_cases h : x.1 = y.1
 ·skip
  refine calls_of_X (G := Gt) Tryz.func27 rfl rfl (Hp (pl w) []) (hp_refl (pl w) trivial rides_true) (good_hp hGF) ?_
  refine xp ?_
  refine lb fun b2 => ?_
  refine lb fun b3 => ?_
  refine rW2 ?_
  refine pW2 ?_
  refine lx_callB true rfl rfl ent82 (k6equal _ _) (decide_eq_true h) rfl rfl ?_
  refine rW2 ?_
  refine lc ent82 (k6equal _ _) ?_
  refine rW2 ?_
  refine rt ?_
  exact kret_tmp rfl rfl (fun w hw => ⟨rb (dec12_t h), hp_below hw⟩)
 ·skip
  refine calls_of_X (G := Gt) Tryz.func27 rfl rfl (Hp (pl w) []) (hp_refl (pl w) trivial rides_true) (good_hp hGF) ?_
  refine xp ?_
  refine lb fun b2 => ?_
  refine lb fun b3 => ?_
  refine rW2 ?_
  refine pW2 ?_
  refine lx_callB false rfl rfl ent82 (k6equal _ _) (decide_eq_false h) rfl rfl ?_
  refine rW2 ?_
  refine lx_skip rfl rfl rfl ?_
  refine lx_skip rfl rfl rfl ?_
  refine lx_skip rfl rfl rfl ?_
  refine lx_skip rfl rfl rfl ?_
  refine lx_skip rfl rfl rfl ?_
  refine rW2 ?_
  refine rt ?_
  exact kret_tmp rfl rfl (fun w hw => ⟨rb (dec12_f h), hp_below hw⟩)
theorem wq12ag_q12ag_rdB {f : Nat} {g : W12 → W12 → Bool} (en : Enters Tryz.prog f) (h : ∀ a b, Pure Tryz.prog Gt f [EV12 a, EV12 b] (.bool (g a b))) : Snd Tryz.prog Gt f (c2 q12.ag q12.ag rdB g) := c2_ok q12.ag q12.ag rdB en (fun a b => pcast (l2 (V12 _).symm (V12 _).symm) rfl (h a b))
def TO50 : Tb Tryz.prog Gt := TO49.add (wq12ag_q12ag_rdB (g := fun x y => decide (x = y)) ent27 k12equal)
theorem k12conj (x : W12) : Pure Tryz.prog Gt 70 [EV12 x] (EV12 (cj12 x)) := (pcast (l1 (V12 _)) (V12 _) (pE TO50 Tryz.func70 [.inl [x.1.1.1, x.1.1.2, x.1.2.1.1, x.1.2.1.2, x.1.2.2.1, x.1.2.2.2, x.2.1.1, x.2.1.2, x.2.2.1.1, x.2.2.1.2, x.2.2.2.1, x.2.2.2.2]] (.inl (.inl [(cj12 x).1.1.1, (cj12 x).1.1.2, (cj12 x).1.2.1.1, (cj12 x).1.2.1.2, (cj12 x).1.2.2.1, (cj12 x).1.2.2.2, (cj12 x).2.1.1, (cj12 x).2.1.2, (cj12 x).2.2.1.1, (cj12 x).2.2.1.2, (cj12 x).2.2.2.1, (cj12 x).2.2.2.2])) (let t0 := K6.neg ((x.2.1.1, x.2.1.2), (x.2.2.1.1, x.2.2.1.2), (x.2.2.2.1, x.2.2.2.2)); (.inl (.inl [x.1.1.1, x.1.1.2, x.1.2.1.1, x.1.2.1.2, x.1.2.2.1, x.1.2.2.2, t0.1.1, t0.1.2, t0.2.1.1, t0.2.1.2, t0.2.2.1, t0.2.2.2]), [])) [] (by kernel_rfl) ok_nil rfl))
theorem wq12ag_q12rd {f : Nat} {g : W12 → W12} (en : Enters Tryz.prog f) (h : ∀ a, Pure Tryz.prog Gt f [EV12 a] (EV12 (g a))) : Snd Tryz.prog Gt f (c1 q12.ag q12.rd g) := c1_ok q12.ag q12.rd en (fun a => pcast (l1 (V12 _).symm) (V12 _).symm (h a))
def TO51 : Tb Tryz.prog Gt := TO50.add (wq12ag_q12rd (g := cj12) ent70 k12conj)
theorem k12square (x : W12) : Pure Tryz.prog Gt 66 [EV12 x] (EV12 (K12.mul x x)) := by
 refine pure_X Tryz.func66 fun w hw hGF => ?_
 refine xp ?_
 refine lb fun b1 => ?_
 refine la zv39 fun b2 => ?_
 refine lx_nil ?_
 refine pW2 ?_
 refine la zv37 fun b3 => ?_
 refine rW2 ?_
 refine xs_drawA (E := EE [2999999]) [0, 1, 2, 3, 4, 5, 6, 7, 8, 9, 10, 11] [⟨12, 4, 37, ((fe 0 ++ fe 0) ++ ((fe 0 ++ fe 0) ++ (fe 0 ++ fe 0))).map U64⟩] [13] mixed rfl (by kernel_rfl) (by kernel_rfl) (by kernel_rfl) (by kernel_rfl) (by kernel_rfl) (by kernel_rfl) (by decide) (by intro x hx; simp only [List.mem_cons, List.not_mem_nil, or_false] at hx; subst hx; exact isAlloc_mk rfl zv37 rfl) ?_
 refine rW2 ?_
 refine ⟨_, _, rfl, hGF, by intro x hx; simp only [List.mem_cons, List.not_mem_nil, or_false] at hx; subst hx; rfl, by intro x hx; simp only [List.mem_cons, List.not_mem_nil, or_false] at hx; subst hx; rfl, fun adr => ?_⟩
 refine rW2 ?_
 refine xs_drawn (E := EE []) mixed (by kernel_rfl) (by kernel_rfl) (by kernel_rfl) ?_
 refine rW2 ?_
 refine lx_two two39 rfl rfl (by simp) (by simp) rfl rfl ?_
 refine rW2 ?_
 refine rt ?_
 exact kret_own 2 rfl rfl rfl Tryz.isAgg39 Tryz.sizeOf39 (by simp) (fun w hw => ⟨e12 (zq K6 [x.1, x.2, VV] (tsb6 (tsb6 (tm (ta j0 j1) (ta j0 (tvv 2 j1 rfl))) (tm j0 j1)) (tvv 2 (tm j0 j1) rfl)) (ta (tm j0 j0) (tm j2 (tm j1 j1)))) (zq K6 [x.1, x.2, VV] (ta (tm j0 j1) (tm j0 j1)) (ta (tm j0 j1) (tm j1 j0))), hp_below hw⟩)
def TO52 : Tb Tryz.prog Gt := TO51.add (wq12ag_q12rd (g := fun x => K12.mul x x) ent66 k12square)
end Q6
end
end Go.Proofs.YthkmeodnlidpfaaGreatDoor
