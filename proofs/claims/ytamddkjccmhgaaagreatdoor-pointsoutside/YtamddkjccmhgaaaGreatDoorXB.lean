/-
  The reference's points: sums, doubles, opposites.
  The reference's points: the generator, which numbers are points, times, the order.
-/
import Derived.Test.YtamddkjccmhgaaaGreatDoorXA
import Derived.Test.YtamddkjccmhgaaaGreatDoorX5
import Derived.Test.YtamddkjccmhgaaaGreatDoorX3
namespace Go.Proofs.YtamddkjccmhgaaaGreatDoor
open Go.RowKit
set_option maxRecDepth 100000
set_option maxHeartbeats 1000000
attribute [local simp] fe_len nm_len AS_len SS_len MONT_len RM_len FRs_len BYs_len by48_len PLl TWOl ONEl N1l IVPl HFPl RTPl FL_len SP_len fe2_len SP2_len FM_len

theorem ent51 : Enters Tryz.prog 51 := fun _ _ => by kernel_rfl
theorem ent47 : Enters Tryz.prog 47 := fun _ _ => by kernel_rfl
theorem ent77 : Enters Tryz.prog 77 := fun _ _ => by kernel_rfl
/-- A point of the reference as a value. -/
abbrev EV6 (x : W6) : Value := .agg (((fe (x.1).1 ++ fe (x.1).2) ++ ((fe (x.2.1).1 ++ fe (x.2.1).2) ++ (fe (x.2.2).1 ++ fe (x.2.2).2))).map U64).toArray
theorem zv40 (w : World) : (zeroValue 40).run Tryz.prog w = .ok (.agg (((fe 0 ++ fe 0) ++ ((fe 0 ++ fe 0) ++ (fe 0 ++ fe 0))).map U64).toArray) w := by rw [fe_0]; exact (Tryz.zeroValue40 w).trans (by rfl)
theorem three40 : Three Tryz.prog 40 ⟨ "X", 38, 0, false, "", "", 0⟩ ⟨ "Y", 38, 12, false, "", "", 96⟩ ⟨ "Z", 38, 24, false, "", "", 192⟩ 12 (fe 0 ++ fe 0) (fe 0 ++ fe 0) (fe 0 ++ fe 0) := ⟨Tryz.underlying40, rfl, rfl, rfl, Tryz.sizeOf38, Tryz.sizeOf38, Tryz.sizeOf38, zv40, by simp, by simp, by simp⟩
theorem r9none (x : W6) : Pure Tryz.prog Gt 51 [EV6 x] (.bool (decide (x.2.2 = ze2))) := by
  intro w hw
  have hGF : BOk Gt (pl w) := gt_low.plain hw
  refine calls_of_X (G := Gt) Tryz.func51 rfl rfl (Hp (pl w) []) (hp_refl (pl w) trivial rides_true) (good_hp hGF) ?_
  refine xs_plain (E := EE []) ?_
  refine lx_boxr 1 hGF rfl rfl rfl ?_
  intro b1
  refine lx_assign rfl rfl rfl ?_
  refine lx_nil ?_
  refine xs_plain (E := EE []) ?_
  refine lx_fak 24 rfl Tryz.underlying40 rfl Tryz.sizeOf38 (by decide) rfl rfl rfl ?_
  refine lx_loado 1 _ rfl rfl Tryz.isAgg38 Tryz.sizeOf38 (by simp) (ld_rr (m := 12) (n := 12) (by simp) (by simp) rfl) rfl rfl ?_
  refine lx_call rfl rfl ent44 (r5isZero _) rfl rfl ?_
  refine lx_assign rfl rfl rfl ?_
  refine lx_nil ?_
  refine x_ret ?_
  repeat (first | refine kseq_ret ?_ | refine kblk_ret ?_)
  exact kret_tmp rfl rfl (fun w hw => ⟨rfl, hp_below hw⟩)
theorem r9at (a b : W2) : Pure Tryz.prog Gt 47 [EV2 a, EV2 b] (EV6 (a, b, on2)) := by
  intro w hw
  have hGF : BOk Gt (pl w) := gt_low.plain hw
  refine calls_of_X (G := Gt) Tryz.func47 rfl rfl (Hp (pl w) []) (hp_refl (pl w) trivial rides_true) (good_hp hGF) ?_
  refine xs_plain (E := EE []) ?_
  refine lx_boxr 2 hGF rfl rfl rfl ?_
  intro b2
  refine lx_boxr 3 hGF rfl rfl rfl ?_
  intro b3
  refine lx_allocr 4 hGF zv40 rfl rfl ?_
  intro b4
  refine lx_nil ?_
  refine xs_drawn (E := EE []) mixed (by kernel_rfl) (by kernel_rfl) (by kernel_rfl) ?_
  refine lx_loada 2 rfl rfl Tryz.isAgg38 Tryz.sizeOf38 (by simp) rfl rfl ?_
  refine lx_loada 3 rfl rfl Tryz.isAgg38 Tryz.sizeOf38 (by simp) rfl rfl ?_
  refine lx_call rfl rfl ent103 (r5one) rfl rfl ?_
  refine lx_three012 three40 rfl rfl rfl (by simp) (by simp) (by simp) rfl rfl ?_
  refine lx_storea 4 hGF rfl rfl rfl Tryz.sizeOf40 (by simp) (by simp) (one_u64 _) rfl ?_
  refine lx_nil ?_
  refine x_ret ?_
  repeat (first | refine kseq_ret ?_ | refine kblk_ret ?_)
  exact kret_own 4 rfl rfl rfl Tryz.isAgg40 Tryz.sizeOf40 (by simp) (fun w hw => ⟨rfl, hp_below hw⟩)
end Go.Proofs.YtamddkjccmhgaaaGreatDoor

namespace Go.Proofs.YtamddkjccmhgaaaGreatDoor
open Go.RowKit
set_option maxRecDepth 100000
set_option maxHeartbeats 1000000
attribute [local simp] fe_len nm_len AS_len SS_len MONT_len RM_len FRs_len BYs_len by48_len PLl TWOl ONEl N1l IVPl HFPl RTPl FL_len SP_len fe2_len SP2_len FM_len

/-- r, as numbers and as bytes. -/
def RRL : List (BitVec 64) := [18446744069414584321#64, 6034159408538082302#64, 3691218898639771653#64, 8353516859464449352#64, 0#64, 0#64]
def RB48 : List (BitVec 8) := BYs RRL 48
theorem RB48_len : RB48.length = 48 := by decide +kernel
theorem RRL_len : RRL.length = 6 := rfl
attribute [local simp] RB48_len RRL_len
end Go.Proofs.YtamddkjccmhgaaaGreatDoor
