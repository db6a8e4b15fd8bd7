/-
  The walks of package sha's small functions.
-/
import Derived.Test.YtldnceanfncdfaaDoorX1
import Derived.Test.YtldnceanfncdfaaDoorG0
namespace Go.Proofs.YtldnceanfncdfaaDoor
open Go.RowKit
set_option maxRecDepth 100000
theorem ent67 : Enters Tryd.prog 67 := fun _ _ => by kernel_rfl
theorem ent44 : Enters Tryd.prog 44 := fun _ _ => by kernel_rfl
theorem ent56 : Enters Tryd.prog 56 := fun _ _ => by kernel_rfl
theorem ent66 : Enters Tryd.prog 66 := fun _ _ => by kernel_rfl
theorem ent26 : Enters Tryd.prog 26 := fun _ _ => by kernel_rfl
theorem ent68 : Enters Tryd.prog 68 := fun _ _ => by kernel_rfl
theorem ent69 : Enters Tryd.prog 69 := fun _ _ => by kernel_rfl
theorem ent70 : Enters Tryd.prog 70 := fun _ _ => by kernel_rfl
theorem ent71 : Enters Tryd.prog 71 := fun _ _ => by kernel_rfl
theorem ent46 : Enters Tryd.prog 46 := fun _ _ => by kernel_rfl
theorem ent57 : Enters Tryd.prog 57 := fun _ _ => by kernel_rfl
theorem ent72 : Enters Tryd.prog 72 := fun _ _ => by kernel_rfl
theorem ent74 : Enters Tryd.prog 74 := fun _ _ => by kernel_rfl
theorem ent73 : Enters Tryd.prog 73 := fun _ _ => by kernel_rfl
theorem ent75 : Enters Tryd.prog 75 := fun _ _ => by kernel_rfl
theorem ent76 : Enters Tryd.prog 76 := fun _ _ => by kernel_rfl
theorem ent77 : Enters Tryd.prog 77 := fun _ _ => by kernel_rfl
theorem ent78 : Enters Tryd.prog 78 := fun _ _ => by kernel_rfl
theorem ent79 : Enters Tryd.prog 79 := fun _ _ => by kernel_rfl
theorem ent80 : Enters Tryd.prog 80 := fun _ _ => by kernel_rfl
theorem ent81 : Enters Tryd.prog 81 := fun _ _ => by kernel_rfl
theorem ent31 : Enters Tryd.prog 31 := fun _ _ => by kernel_rfl
namespace Sh
theorem zv81 (w : World) : (zeroValue 81).run Tryd.prog w = .ok (.agg ((List.replicate 64 (0#32)).map U32).toArray) w := (Tryd.zeroValue81 w).trans (by rfl)
theorem zv80 (w : World) : (zeroValue 80).run Tryd.prog w = .ok (.agg ((List.replicate 8 (0#32)).map U32).toArray) w := (Tryd.zeroValue80 w).trans (by rfl)
theorem zv109 (w : World) : (zeroValue 109).run Tryd.prog w = .ok (.agg ((List.replicate 64 (0#8)).map U8).toArray) w := (Tryd.zeroValue109 w).trans (by rfl)
theorem zv23 (w : World) : (zeroValue 23).run Tryd.prog w = .ok (.agg ((List.replicate 32 (0#8)).map U8).toArray) w := (Tryd.zeroValue23 w).trans (by rfl)
def rotl (x : BitVec 32) (k : Int) : BitVec 32 := (x <<< (BitVec.ofInt 64 k &&& 31#64).toNat) ||| (x >>> (32#64 - (BitVec.ofInt 64 k &&& 31#64)).toNat)
theorem rotl_pure (x : BitVec 32) (k : Int) : Pure Tryd.prog Gt 81 [U32 x, I k] (U32 (rotl x k)) := by
  intro w hw
  have hGF : BOk Gt (pl w) := gt_low.plain hw
  refine calls_of_X (G := Gt) Tryd.func81 rfl rfl (Hp (pl w) []) (hp_refl (pl w) trivial rides_true) (good_hp hGF) ?_
  refine xs_plain (E := EE []) ?_
  refine lx_assign rfl rfl rfl ?_
  refine lx_nil ?_
  refine xs_plain (E := EE []) ?_
  refine lx_move rfl rfl rfl ?_
  refine lx_conv rfl rfl (fun _ => conv_i_u64 Tryd.underlying3 Tryd.underlying99 _) rfl rfl ?_
  refine lx_bin rfl rfl (fun _ => rfl) (fun _ => bin_and_u64 _ _ _) rfl rfl ?_
  refine lx_assign rfl rfl rfl ?_
  refine lx_nil ?_
  refine xs_plain (E := EE []) ?_
  refine lx_move rfl rfl rfl ?_
  refine lx_move rfl rfl rfl ?_
  refine lx_bin rfl rfl (fun _ => rfl) (fun _ => bin_shl_u32 _ _ _) rfl rfl ?_
  refine lx_move rfl rfl rfl ?_
  refine lx_move rfl rfl rfl ?_
  refine lx_bin rfl rfl (fun _ => rfl) (fun _ => bin_sub_u64 _ _ _) rfl rfl ?_
  refine lx_bin rfl rfl (fun _ => rfl) (fun _ => bin_shr_u32 _ _ _) rfl rfl ?_
  refine lx_bin rfl rfl (fun _ => rfl) (fun _ => bin_or_u32 _ _ _) rfl rfl ?_
  refine lx_assign rfl rfl rfl ?_
  refine lx_nil ?_
  refine x_ret ?_
  repeat (first | refine kseq_ret ?_ | refine kblk_ret ?_)
  exact kret_tmp rfl rfl (fun w hw => ⟨rfl, hp_below hw⟩)
def turn (x : BitVec 32) (n : Nat) : BitVec 32 := (x >>> n) ||| (x <<< (32 - n))
theorem turn_pure (x : BitVec 32) (n : Int) (h0 : 0 ≤ n) (h1 : n ≤ 32) : Pure Tryd.prog Gt 57 [U32 x, I n] (U32 (turn x n.toNat)) := by
  intro w hw
  have hGF : BOk Gt (pl w) := gt_low.plain hw
  refine calls_of_X (G := Gt) Tryd.func57 rfl rfl (Hp (pl w) []) (hp_refl (pl w) trivial rides_true) (good_hp hGF) ?_
  refine xs_plain (E := EE []) ?_
  refine lx_assign rfl rfl rfl ?_
  refine lx_nil ?_
  refine xs_drawn (E := EE []) mixed (by kernel_rfl) (by kernel_rfl) (by kernel_rfl) ?_
  refine lx_move rfl rfl rfl ?_
  refine lx_move rfl rfl rfl ?_
  refine lx_bin rfl rfl (fun _ => rfl) (fun _ => bin_shr_i_u32 _ _ _ (by omega)) rfl rfl ?_
  refine lx_move rfl rfl rfl ?_
  refine lx_move rfl rfl rfl ?_
  refine lx_bin rfl rfl (fun _ => rfl) (fun _ => bin_sub_i _ _ _ (by unfold inI; omega)) rfl rfl ?_
  refine lx_bin rfl rfl (fun _ => rfl) (fun _ => bin_shl_i_u32 _ _ _ (by omega)) rfl rfl ?_
  refine lx_bin rfl rfl (fun _ => rfl) (fun _ => bin_or_u32 _ _ _) rfl rfl ?_
  refine lx_assign rfl rfl rfl ?_
  refine lx_nil ?_
  refine x_ret ?_
  repeat (first | refine kseq_ret ?_ | refine kblk_ret ?_)
  exact kret_tmp rfl rfl (fun w hw => ⟨by rw [show (32 - n).toNat = 32 - n.toNat from by omega]; rfl, hp_below hw⟩)
def sig1 (x : BitVec 32) : BitVec 32 := rotl x (-6) ^^^ rotl x (-11) ^^^ rotl x (-25)
theorem sig1_pure (x : BitVec 32) : Pure Tryd.prog Gt 76 [U32 x] (U32 (sig1 x)) := by
  intro w hw
  have hGF : BOk Gt (pl w) := gt_low.plain hw
  refine calls_of_X (G := Gt) Tryd.func76 rfl rfl (Hp (pl w) []) (hp_refl (pl w) trivial rides_true) (good_hp hGF) ?_
  refine xs_plain (E := EE []) ?_
  refine lx_assign rfl rfl rfl ?_
  refine lx_nil ?_
  refine xs_plain (E := EE []) ?_
  refine lx_move rfl rfl rfl ?_
  refine lx_call rfl rfl ent81 (rotl_pure _ _) rfl rfl ?_
  refine lx_move rfl rfl rfl ?_
  refine lx_call rfl rfl ent81 (rotl_pure _ _) rfl rfl ?_
  refine lx_bin rfl rfl (fun _ => rfl) (fun _ => bin_xor_u32 _ _ _) rfl rfl ?_
  refine lx_move rfl rfl rfl ?_
  refine lx_call rfl rfl ent81 (rotl_pure _ _) rfl rfl ?_
  refine lx_bin rfl rfl (fun _ => rfl) (fun _ => bin_xor_u32 _ _ _) rfl rfl ?_
  refine lx_assign rfl rfl rfl ?_
  refine lx_nil ?_
  refine x_ret ?_
  repeat (first | refine kseq_ret ?_ | refine kblk_ret ?_)
  exact kret_tmp rfl rfl (fun w hw => ⟨rfl, hp_below hw⟩)
def sig0 (x : BitVec 32) : BitVec 32 := rotl x (-2) ^^^ rotl x (-13) ^^^ rotl x (-22)
theorem sig0_pure (x : BitVec 32) : Pure Tryd.prog Gt 77 [U32 x] (U32 (sig0 x)) := by
  intro w hw
  have hGF : BOk Gt (pl w) := gt_low.plain hw
  refine calls_of_X (G := Gt) Tryd.func77 rfl rfl (Hp (pl w) []) (hp_refl (pl w) trivial rides_true) (good_hp hGF) ?_
  refine xs_plain (E := EE []) ?_
  refine lx_assign rfl rfl rfl ?_
  refine lx_nil ?_
  refine xs_plain (E := EE []) ?_
  refine lx_move rfl rfl rfl ?_
  refine lx_call rfl rfl ent81 (rotl_pure _ _) rfl rfl ?_
  refine lx_move rfl rfl rfl ?_
  refine lx_call rfl rfl ent81 (rotl_pure _ _) rfl rfl ?_
  refine lx_bin rfl rfl (fun _ => rfl) (fun _ => bin_xor_u32 _ _ _) rfl rfl ?_
  refine lx_move rfl rfl rfl ?_
  refine lx_call rfl rfl ent81 (rotl_pure _ _) rfl rfl ?_
  refine lx_bin rfl rfl (fun _ => rfl) (fun _ => bin_xor_u32 _ _ _) rfl rfl ?_
  refine lx_assign rfl rfl rfl ?_
  refine lx_nil ?_
  refine x_ret ?_
  repeat (first | refine kseq_ret ?_ | refine kblk_ret ?_)
  exact kret_tmp rfl rfl (fun w hw => ⟨rfl, hp_below hw⟩)
def low0 (x : BitVec 32) : BitVec 32 := rotl x (-7) ^^^ rotl x (-18) ^^^ (x >>> 3)
theorem low0_pure (x : BitVec 32) : Pure Tryd.prog Gt 80 [U32 x] (U32 (low0 x)) := by
  intro w hw
  have hGF : BOk Gt (pl w) := gt_low.plain hw
  refine calls_of_X (G := Gt) Tryd.func80 rfl rfl (Hp (pl w) []) (hp_refl (pl w) trivial rides_true) (good_hp hGF) ?_
  refine xs_plain (E := EE []) ?_
  refine lx_assign rfl rfl rfl ?_
  refine lx_nil ?_
  refine xs_plain (E := EE []) ?_
  refine lx_move rfl rfl rfl ?_
  refine lx_call rfl rfl ent81 (rotl_pure _ _) rfl rfl ?_
  refine lx_move rfl rfl rfl ?_
  refine lx_call rfl rfl ent81 (rotl_pure _ _) rfl rfl ?_
  refine lx_bin rfl rfl (fun _ => rfl) (fun _ => bin_xor_u32 _ _ _) rfl rfl ?_
  refine lx_move rfl rfl rfl ?_
  refine lx_bin rfl rfl (fun _ => rfl) (fun _ => bin_shr_u32 _ _ _) rfl rfl ?_
  refine lx_bin rfl rfl (fun _ => rfl) (fun _ => bin_xor_u32 _ _ _) rfl rfl ?_
  refine lx_assign rfl rfl rfl ?_
  refine lx_nil ?_
  refine x_ret ?_
  repeat (first | refine kseq_ret ?_ | refine kblk_ret ?_)
  exact kret_tmp rfl rfl (fun w hw => ⟨rfl, hp_below hw⟩)
def low1 (x : BitVec 32) : BitVec 32 := rotl x (-17) ^^^ rotl x (-19) ^^^ (x >>> 10)
theorem low1_pure (x : BitVec 32) : Pure Tryd.prog Gt 79 [U32 x] (U32 (low1 x)) := by
  intro w hw
  have hGF : BOk Gt (pl w) := gt_low.plain hw
  refine calls_of_X (G := Gt) Tryd.func79 rfl rfl (Hp (pl w) []) (hp_refl (pl w) trivial rides_true) (good_hp hGF) ?_
  refine xs_plain (E := EE []) ?_
  refine lx_assign rfl rfl rfl ?_
  refine lx_nil ?_
  refine xs_plain (E := EE []) ?_
  refine lx_move rfl rfl rfl ?_
  refine lx_call rfl rfl ent81 (rotl_pure _ _) rfl rfl ?_
  refine lx_move rfl rfl rfl ?_
  refine lx_call rfl rfl ent81 (rotl_pure _ _) rfl rfl ?_
  refine lx_bin rfl rfl (fun _ => rfl) (fun _ => bin_xor_u32 _ _ _) rfl rfl ?_
  refine lx_move rfl rfl rfl ?_
  refine lx_bin rfl rfl (fun _ => rfl) (fun _ => bin_shr_u32 _ _ _) rfl rfl ?_
  refine lx_bin rfl rfl (fun _ => rfl) (fun _ => bin_xor_u32 _ _ _) rfl rfl ?_
  refine lx_assign rfl rfl rfl ?_
  refine lx_nil ?_
  refine x_ret ?_
  repeat (first | refine kseq_ret ?_ | refine kblk_ret ?_)
  exact kret_tmp rfl rfl (fun w hw => ⟨rfl, hp_below hw⟩)
end Sh
end Go.Proofs.YtldnceanfncdfaaDoor
