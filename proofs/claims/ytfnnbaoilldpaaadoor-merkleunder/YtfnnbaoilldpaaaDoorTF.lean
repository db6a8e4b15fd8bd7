/-
  The laws of roots and of proving.
-/
import Derived.Test.YtfnnbaoilldpaaaDoorTE
namespace Go.Proofs.YtfnnbaoilldpaaaDoor
open Go.RowKit
set_option maxRecDepth 100000
set_option maxHeartbeats 1000000
open Sh
theorem le_i60 (len : Nat) (t : TypeId) (w : World) : (binOp .leq t (I (len : Int)) (I 60)).run Tryd.prog w = .ok (.bool (decide (len ≤ 60))) w := by
  rw [bin_leq_i]
  congr 2
  exact decide_eq_decide.2 (by omega)
theorem lig_calls (len : Nat) (a : Option Addr) (cap : Nat) (w : World) (hw : Gt w) : Calls Tryd.prog 11 [.slice a len cap].toArray w (fun e w' => e = .returned (.bool (decide (len ≤ 60))) ∧ Grow w w') := by
  have hGF : BOk Gt (pl w) := gt_low.plain hw
  refine calls_of_X (G := Gt) Tryd.func11 rfl rfl (Hp (pl w) []) (hp_refl (pl w) trivial rides_true) (good_hp hGF) ?_
  refine xs_plain (E := EE []) ?_
  refine lx_assign rfl rfl rfl ?_
  refine lx_nil ?_
  refine xs_plain (E := EE []) ?_
  refine lx_move rfl rfl rfl ?_
  refine lx_len rfl (fun _ => len_slice Tryd.underlying22 _ _ _ _) rfl rfl ?_
  refine lx_bin (v := .bool (decide (len ≤ 60))) rfl rfl (fun _ => rfl) (fun w => le_i60 len _ w) rfl rfl ?_
  refine lx_assign rfl rfl rfl ?_
  refine lx_nil ?_
  refine x_ret ?_
  repeat (first | refine kseq_ret ?_ | refine kblk_ret ?_)
  exact kret_tmp rfl rfl (fun w' hw' => ⟨rfl, hp_below hw'⟩)
end Go.Proofs.YtfnnbaoilldpaaaDoor
