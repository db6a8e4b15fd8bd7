/-
 Elements of fp12 as values; what the laws of layer 7 share.
 The walks of package fp12.
-/
import Derived.Test.YthkmeodnlidpfaaDoorXE
import Derived.Test.YthkmeodnlidpfaaDoorX3
import Derived.Test.YthkmeodnlidpfaaDoorXJ
set_option maxRecDepth 100000
set_option maxHeartbeats 1000000
namespace Go.Proofs.YthkmeodnlidpfaaDoor
section
open Go.RowKit
theorem ent15 : Enters Tryd.prog 15 := fun _ _ => by kernel_rfl
theorem ent16 : Enters Tryd.prog 16 := fun _ _ => by kernel_rfl
namespace Q6
attribute [local simp] fe_len nm_len AS_len SS_len MONT_len RM_len FRs_len BYs_len by48_len PLl TWOl ONEl N1l IVPl HFPl RTPl FL_len SP_len fe2_len SP2_len FM_len FF_len
attribute [local simp] ff_len RW_len
abbrev EV12 (x : W12) : Value := .agg ((((fe (x.1.1).1 ++ fe (x.1.1).2) ++ ((fe (x.1.2.1).1 ++ fe (x.1.2.1).2) ++ (fe (x.1.2.2).1 ++ fe (x.1.2.2).2))) ++ ((fe (x.2.1).1 ++ fe (x.2.1).2) ++ ((fe (x.2.2.1).1 ++ fe (x.2.2.1).2) ++ (fe (x.2.2.2).1 ++ fe (x.2.2.2).2)))).map U64).toArray
theorem zv44 (w : World) : (zeroValue 44).run Tryd.prog w = .ok (.agg ((((fe 0 ++ fe 0) ++ ((fe 0 ++ fe 0) ++ (fe 0 ++ fe 0))) ++ ((fe 0 ++ fe 0) ++ ((fe 0 ++ fe 0) ++ (fe 0 ++ fe 0)))).map U64).toArray) w := by rw [fe_0]; exact (Tryd.zeroValue44 w).trans (by rfl)
theorem dec12_t {x y : W12} (h : x.1 = y.1) : decide (x.2 = y.2) = decide (x = y) := decide_eq_decide.2 ⟨fun e => Prod.ext h e, fun e => by rw [e]⟩
theorem dec12_f {x y : W12} (h : ¬ x.1 = y.1) : false = decide (x = y) := (decide_eq_false fun e => h (by rw [e])).symm
def q12 : Sh W12 := q6.two q6 6
theorem V12 (x : W12) : EV12 x = dn rid (.inl [x.1.1.1, x.1.1.2, x.1.2.1.1, x.1.2.1.2, x.1.2.2.1, x.1.2.2.2, x.2.1.1, x.2.1.2, x.2.2.1.1, x.2.2.1.2, x.2.2.2.1, x.2.2.2.2]) := by
 show Value.agg _ = Value.agg _
 rw [clv, show cel [x.1.1.1, x.1.1.2, x.1.2.1.1, x.1.2.1.2, x.1.2.2.1, x.1.2.2.2, x.2.1.1, x.2.1.2, x.2.2.1.1, x.2.2.1.2, x.2.2.2.1, x.2.2.2.2] = fe x.1.1.1 ++ (fe x.1.1.2 ++ (fe x.1.2.1.1 ++ (fe x.1.2.1.2 ++ (fe x.1.2.2.1 ++ (fe x.1.2.2.2 ++ (fe x.2.1.1 ++ (fe x.2.1.2 ++ (fe x.2.2.1.1 ++ (fe x.2.2.1.2 ++ (fe x.2.2.2.1 ++ fe x.2.2.2.2)))))))))) from rfl]
 simp only [List.append_assoc]
end Q6
end
section
open Go.RowKit
namespace Q6
attribute [local simp] fe_len nm_len AS_len SS_len MONT_len RM_len FRs_len BYs_len by48_len PLl TWOl ONEl N1l IVPl HFPl RTPl FL_len SP_len fe2_len SP2_len FM_len FF_len
attribute [local simp] ff_len RW_len
theorem k12one  : Pure Tryd.prog Gt 16 [] (EV12 K12.one) := (pcast rfl (V12 _) (pE TO23 Tryd.func16 [] (.inl (.inl [K12.one.1.1.1, K12.one.1.1.2, K12.one.1.2.1.1, K12.one.1.2.1.2, K12.one.1.2.2.1, K12.one.1.2.2.2, K12.one.2.1.1, K12.one.2.1.2, K12.one.2.2.1.1, K12.one.2.2.1.2, K12.one.2.2.2.1, K12.one.2.2.2.2])) (let t0 := K6.one; (.inl (.inl [t0.1.1, t0.1.2, t0.2.1.1, t0.2.1.2, t0.2.2.1, t0.2.2.2, 0, 0, 0, 0, 0, 0]), [])) [] (by kernel_rfl) ok_nil rfl))
theorem wq12rd {f : Nat} {g : W12} (en : Enters Tryd.prog f) (h : Pure Tryd.prog Gt f [] (EV12 g)) : Snd Tryd.prog Gt f (c0 q12.rd g) := c0_ok q12.rd en (pcast rfl (V12 _).symm h)
def TO24 : Tb Tryd.prog Gt := TO23.add (wq12rd (g := K12.one) ent16 k12one)
theorem k12equal (x y : W12) : Pure Tryd.prog Gt 15 [EV12 x, EV12 y] (.bool (decide (x = y))) := by
 intro w hw
 have hGF : BOk Gt (pl w) := gt_low.plain hw
 by_cases h : x.1 = y.1
 ·skip
  refine calls_of_X (G := Gt) Tryd.func15 rfl rfl (Hp (pl w) []) (hp_refl (pl w) trivial rides_true) (good_hp hGF) ?_
  refine xs_plain (E := EE []) ?_
  refine lx_boxr 2 hGF rfl rfl rfl ?_
  intro b2
  refine lx_boxr 3 hGF rfl rfl rfl ?_
  intro b3
  refine lx_assign rfl rfl rfl ?_
  refine lx_nil ?_
  refine xs_plain (E := EE []) ?_
  refine lx_fak 0 rfl Tryd.underlying44 rfl Tryd.sizeOf42 (by decide) rfl rfl rfl ?_
  refine lx_loado 2 _ rfl rfl Tryd.isAgg42 Tryd.sizeOf42 (by simp) ld_l rfl rfl ?_
  refine lx_fak 0 rfl Tryd.underlying44 rfl Tryd.sizeOf42 (by decide) rfl rfl rfl ?_
  refine lx_loado 3 _ rfl rfl Tryd.isAgg42 Tryd.sizeOf42 (by simp) ld_l rfl rfl ?_
  refine lx_callB true rfl rfl ent33 (k6equal _ _) (decide_eq_true h) rfl rfl ?_
  refine lx_move rfl rfl rfl ?_
  refine lx_fak 36 rfl Tryd.underlying44 rfl Tryd.sizeOf42 (by decide) rfl rfl rfl ?_
  refine lx_loado 2 _ rfl rfl Tryd.isAgg42 Tryd.sizeOf42 (by simp) (ld_r (by simp)) rfl rfl ?_
  refine lx_fak 36 rfl Tryd.underlying44 rfl Tryd.sizeOf42 (by decide) rfl rfl rfl ?_
  refine lx_loado 3 _ rfl rfl Tryd.isAgg42 Tryd.sizeOf42 (by simp) (ld_r (by simp)) rfl rfl ?_
  refine lx_call rfl rfl ent33 (k6equal _ _) rfl rfl ?_
  refine lx_pick rfl rfl rfl rfl rfl ?_
  refine lx_assign rfl rfl rfl ?_
  refine lx_nil ?_
  refine x_ret ?_
  repeat (first | refine kseq_ret ?_ | refine kblk_ret ?_)
  exact kret_tmp rfl rfl (fun w hw => ⟨rb (dec12_t h), hp_below hw⟩)
 ·skip
  refine calls_of_X (G := Gt) Tryd.func15 rfl rfl (Hp (pl w) []) (hp_refl (pl w) trivial rides_true) (good_hp hGF) ?_
  refine xs_plain (E := EE []) ?_
  refine lx_boxr 2 hGF rfl rfl rfl ?_
  intro b2
  refine lx_boxr 3 hGF rfl rfl rfl ?_
  intro b3
  refine lx_assign rfl rfl rfl ?_
  refine lx_nil ?_
  refine xs_plain (E := EE []) ?_
  refine lx_fak 0 rfl Tryd.underlying44 rfl Tryd.sizeOf42 (by decide) rfl rfl rfl ?_
  refine lx_loado 2 _ rfl rfl Tryd.isAgg42 Tryd.sizeOf42 (by simp) ld_l rfl rfl ?_
  refine lx_fak 0 rfl Tryd.underlying44 rfl Tryd.sizeOf42 (by decide) rfl rfl rfl ?_
  refine lx_loado 3 _ rfl rfl Tryd.isAgg42 Tryd.sizeOf42 (by simp) ld_l rfl rfl ?_
  refine lx_callB false rfl rfl ent33 (k6equal _ _) (decide_eq_false h) rfl rfl ?_
  refine lx_move rfl rfl rfl ?_
  refine lx_skip rfl rfl rfl ?_
  refine lx_skip rfl rfl rfl ?_
  refine lx_skip rfl rfl rfl ?_
  refine lx_skip rfl rfl rfl ?_
  refine lx_skip rfl rfl rfl ?_
  refine lx_pick rfl rfl rfl rfl rfl ?_
  refine lx_assign rfl rfl rfl ?_
  refine lx_nil ?_
  refine x_ret ?_
  repeat (first | refine kseq_ret ?_ | refine kblk_ret ?_)
  exact kret_tmp rfl rfl (fun w hw => ⟨rb (dec12_f h), hp_below hw⟩)
theorem wq12ag_q12ag_rdB {f : Nat} {g : W12 → W12 → Bool} (en : Enters Tryd.prog f) (h : ∀ a b, Pure Tryd.prog Gt f [EV12 a, EV12 b] (.bool (g a b))) : Snd Tryd.prog Gt f (c2 q12.ag q12.ag rdB g) := c2_ok q12.ag q12.ag rdB en (fun a b => pcast (l2 (V12 _).symm (V12 _).symm) rfl (h a b))
def TO25 : Tb Tryd.prog Gt := TO24.add (wq12ag_q12ag_rdB (g := fun x y => decide (x = y)) ent15 k12equal)
end Q6
end
end Go.Proofs.YthkmeodnlidpfaaDoor
