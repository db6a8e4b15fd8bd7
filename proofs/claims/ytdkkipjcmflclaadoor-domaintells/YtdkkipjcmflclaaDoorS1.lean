/-
  The walks of package sha's small functions.
-/
import Derived.Test.YtdkkipjcmflclaaDoorX1
import Derived.Test.YtdkkipjcmflclaaDoorG0
namespace Go.Proofs.YtdkkipjcmflclaaDoor
open Go.RowKit
set_option maxRecDepth 100000
theorem ent48 : Enters Tryd.prog 48 := fun _ _ => by kernel_rfl
theorem ent44 : Enters Tryd.prog 44 := fun _ _ => by kernel_rfl
theorem ent46 : Enters Tryd.prog 46 := fun _ _ => by kernel_rfl
theorem ent45 : Enters Tryd.prog 45 := fun _ _ => by kernel_rfl
theorem ent37 : Enters Tryd.prog 37 := fun _ _ => by kernel_rfl
theorem ent49 : Enters Tryd.prog 49 := fun _ _ => by kernel_rfl
theorem ent50 : Enters Tryd.prog 50 := fun _ _ => by kernel_rfl
theorem ent51 : Enters Tryd.prog 51 := fun _ _ => by kernel_rfl
theorem ent52 : Enters Tryd.prog 52 := fun _ _ => by kernel_rfl
theorem ent23 : Enters Tryd.prog 23 := fun _ _ => by kernel_rfl
theorem ent47 : Enters Tryd.prog 47 := fun _ _ => by kernel_rfl
theorem ent53 : Enters Tryd.prog 53 := fun _ _ => by kernel_rfl
theorem ent55 : Enters Tryd.prog 55 := fun _ _ => by kernel_rfl
theorem ent54 : Enters Tryd.prog 54 := fun _ _ => by kernel_rfl
theorem ent56 : Enters Tryd.prog 56 := fun _ _ => by kernel_rfl
theorem ent57 : Enters Tryd.prog 57 := fun _ _ => by kernel_rfl
theorem ent58 : Enters Tryd.prog 58 := fun _ _ => by kernel_rfl
theorem ent59 : Enters Tryd.prog 59 := fun _ _ => by kernel_rfl
theorem ent60 : Enters Tryd.prog 60 := fun _ _ => by kernel_rfl
theorem ent61 : Enters Tryd.prog 61 := fun _ _ => by kernel_rfl
theorem ent62 : Enters Tryd.prog 62 := fun _ _ => by kernel_rfl
theorem ent13 : Enters Tryd.prog 13 := fun _ _ => by kernel_rfl
theorem ent17 : Enters Tryd.prog 17 := fun _ _ => by kernel_rfl
namespace Sh
theorem zv51 (w : World) : (zeroValue 51).run Tryd.prog w = .ok (.agg ((List.replicate 64 (0#32)).map U32).toArray) w := (Tryd.zeroValue51 w).trans (by rfl)
theorem zv50 (w : World) : (zeroValue 50).run Tryd.prog w = .ok (.agg ((List.replicate 8 (0#32)).map U32).toArray) w := (Tryd.zeroValue50 w).trans (by rfl)
theorem zv85 (w : World) : (zeroValue 85).run Tryd.prog w = .ok (.agg ((List.replicate 64 (0#8)).map U8).toArray) w := (Tryd.zeroValue85 w).trans (by rfl)
theorem zv22 (w : World) : (zeroValue 22).run Tryd.prog w = .ok (.agg ((List.replicate 32 (0#8)).map U8).toArray) w := (Tryd.zeroValue22 w).trans (by rfl)
def rotl (x : BitVec 32) (k : Int) : BitVec 32 := (x <<< (BitVec.ofInt 64 k &&& 31#64).toNat) ||| (x >>> (32#64 - (BitVec.ofInt 64 k &&& 31#64)).toNat)
theorem rotl_pure (x : BitVec 32) (k : Int) : Pure Tryd.prog Gt 62 [U32 x, I k] (U32 (rotl x k)) := by
  intro w hw
  have hGF : BOk Gt (pl w) := gt_low.plain hw
  refine calls_of_X (G := Gt) Tryd.func62 rfl rfl (Hp (pl w) []) (hp_refl (pl w) trivial rides_true) (good_hp hGF) ?_
  refine xs_plain (E := EE []) ?_
  refine lx_assign rfl rfl rfl ?_
  refine lx_nil ?_
  refine xs_plain (E := EE []) ?_
  refine lx_move rfl rfl rfl ?_
  refine lx_conv rfl rfl (fun _ => conv_i_u64 Tryd.underlying3 Tryd.underlying82 _) rfl rfl ?_
  refine lx_bin rfl rfl (fun _ => rfl) (fun _ => bin_and_u64 _ _ _) rfl rfl ?_
  refine lx_assign rfl rfl rfl ?_
  refine lx_nil ?_
  refine xs_plain (E := EE []) ?_
  refine lx_move rfl rfl rfl ?_
  refine lx_move rfl rfl rfl ?_
  refine lx_bin rfl rfl (fun _ => rfl) (fun _ => bin_shl_u32 _ _ _) rfl rfl ?_
  refine lx_move rfl rfl rfl ?_
  refine lx_move rfl rfl rfl ?_
  refine lx_bin rfl rfl (fun _ => rfl) (fun _ => bin_sub_u64 _ _ _) rfl rfl ?_
  refine lx_bin rfl rfl (fun _ => rfl) (fun _ => bin_shr_u32 _ _ _) rfl rfl ?_
  refine lx_bin rfl rfl (fun _ => rfl) (fun _ => bin_or_u32 _ _ _) rfl rfl ?_
  refine lx_assign rfl rfl rfl ?_
  refine lx_nil ?_
  refine x_ret ?_
  repeat (first | refine kseq_ret ?_ | refine kblk_ret ?_)
  exact kret_tmp rfl rfl (fun w hw => ⟨rfl, hp_below hw⟩)
def turn (x : BitVec 32) (n : Nat) : BitVec 32 := (x >>> n) ||| (x <<< (32 - n))
theorem turn_pure (x : BitVec 32) (n : Int) (h0 : 0 ≤ n) (h1 : n ≤ 32) : Pure Tryd.prog Gt 47 [U32 x, I n] (U32 (turn x n.toNat)) := by
  intro w hw
  have hGF : BOk Gt (pl w) := gt_low.plain hw
  refine calls_of_X (G := Gt) Tryd.func47 rfl rfl (Hp (pl w) []) (hp_refl (pl w) trivial rides_true) (good_hp hGF) ?_
  refine xs_plain (E := EE []) ?_
  refine lx_assign rfl rfl rfl ?_
  refine lx_nil ?_
  refine xs_drawn (E := EE []) mixed (by kernel_rfl) (by kernel_rfl) (by kernel_rfl) ?_
  refine lx_move rfl rfl rfl ?_
  refine lx_move rfl rfl rfl ?_
  refine lx_bin rfl rfl (fun _ => rfl) (fun _ => bin_shr_i_u32 _ _ _ (by omega)) rfl rfl ?_
  refine lx_move rfl rfl rfl ?_
  refine lx_move rfl rfl rfl ?_
  refine lx_bin rfl rfl (fun _ => rfl) (fun _ => bin_sub_i _ _ _ (by unfold inI; omega)) rfl rfl ?_
  refine lx_bin rfl rfl (fun _ => rfl) (fun _ => bin_shl_i_u32 _ _ _ (by omega)) rfl rfl ?_
  refine lx_bin rfl rfl (fun _ => rfl) (fun _ => bin_or_u32 _ _ _) rfl rfl ?_
  refine lx_assign rfl rfl rfl ?_
  refine lx_nil ?_
  refine x_ret ?_
  repeat (first | refine kseq_ret ?_ | refine kblk_ret ?_)
  exact kret_tmp rfl rfl (fun w hw => ⟨by rw [show (32 - n).toNat = 32 - n.toNat from by omega]; rfl, hp_below hw⟩)
def sig1 (x : BitVec 32) : BitVec 32 := rotl x (-6) ^^^ rotl x (-11) ^^^ rotl x (-25)
theorem sig1_pure (x : BitVec 32) : Pure Tryd.prog Gt 57 [U32 x] (U32 (sig1 x)) := by
  intro w hw
  have hGF : BOk Gt (pl w) := gt_low.plain hw
  refine calls_of_X (G := Gt) Tryd.func57 rfl rfl (Hp (pl w) []) (hp_refl (pl w) trivial rides_true) (good_hp hGF) ?_
  refine xs_plain (E := EE []) ?_
  refine lx_assign rfl rfl rfl ?_
  refine lx_nil ?_
  refine xs_plain (E := EE []) ?_
  refine lx_move rfl rfl rfl ?_
  refine lx_call rfl rfl ent62 (rotl_pure _ _) rfl rfl ?_
  refine lx_move rfl rfl rfl ?_
  refine lx_call rfl rfl ent62 (rotl_pure _ _) rfl rfl ?_
  refine lx_bin rfl rfl (fun _ => rfl) (fun _ => bin_xor_u32 _ _ _) rfl rfl ?_
  refine lx_move rfl rfl rfl ?_
  refine lx_call rfl rfl ent62 (rotl_pure _ _) rfl rfl ?_
  refine lx_bin rfl rfl (fun _ => rfl) (fun _ => bin_xor_u32 _ _ _) rfl rfl ?_
  refine lx_assign rfl rfl rfl ?_
  refine lx_nil ?_
  refine x_ret ?_
  repeat (first | refine kseq_ret ?_ | refine kblk_ret ?_)
  exact kret_tmp rfl rfl (fun w hw => ⟨rfl, hp_below hw⟩)
def sig0 (x : BitVec 32) : BitVec 32 := rotl x (-2) ^^^ rotl x (-13) ^^^ rotl x (-22)
theorem sig0_pure (x : BitVec 32) : Pure Tryd.prog Gt 58 [U32 x] (U32 (sig0 x)) := by
  intro w hw
  have hGF : BOk Gt (pl w) := gt_low.plain hw
  refine calls_of_X (G := Gt) Tryd.func58 rfl rfl (Hp (pl w) []) (hp_refl (pl w) trivial rides_true) (good_hp hGF) ?_
  refine xs_plain (E := EE []) ?_
  refine lx_assign rfl rfl rfl ?_
  refine lx_nil ?_
  refine xs_plain (E := EE []) ?_
  refine lx_move rfl rfl rfl ?_
  refine lx_call rfl rfl ent62 (rotl_pure _ _) rfl rfl ?_
  refine lx_move rfl rfl rfl ?_
  refine lx_call rfl rfl ent62 (rotl_pure _ _) rfl rfl ?_
  refine lx_bin rfl rfl (fun _ => rfl) (fun _ => bin_xor_u32 _ _ _) rfl rfl ?_
  refine lx_move rfl rfl rfl ?_
  refine lx_call rfl rfl ent62 (rotl_pure _ _) rfl rfl ?_
  refine lx_bin rfl rfl (fun _ => rfl) (fun _ => bin_xor_u32 _ _ _) rfl rfl ?_
  refine lx_assign rfl rfl rfl ?_
  refine lx_nil ?_
  refine x_ret ?_
  repeat (first | refine kseq_ret ?_ | refine kblk_ret ?_)
  exact kret_tmp rfl rfl (fun w hw => ⟨rfl, hp_below hw⟩)
def low0 (x : BitVec 32) : BitVec 32 := rotl x (-7) ^^^ rotl x (-18) ^^^ (x >>> 3)
theorem low0_pure (x : BitVec 32) : Pure Tryd.prog Gt 61 [U32 x] (U32 (low0 x)) := by
  intro w hw
  have hGF : BOk Gt (pl w) := gt_low.plain hw
  refine calls_of_X (G := Gt) Tryd.func61 rfl rfl (Hp (pl w) []) (hp_refl (pl w) trivial rides_true) (good_hp hGF) ?_
  refine xs_plain (E := EE []) ?_
  refine lx_assign rfl rfl rfl ?_
  refine lx_nil ?_
  refine xs_plain (E := EE []) ?_
  refine lx_move rfl rfl rfl ?_
  refine lx_call rfl rfl ent62 (rotl_pure _ _) rfl rfl ?_
  refine lx_move rfl rfl rfl ?_
  refine lx_call rfl rfl ent62 (rotl_pure _ _) rfl rfl ?_
  refine lx_bin rfl rfl (fun _ => rfl) (fun _ => bin_xor_u32 _ _ _) rfl rfl ?_
  refine lx_move rfl rfl rfl ?_
  refine lx_bin rfl rfl (fun _ => rfl) (fun _ => bin_shr_u32 _ _ _) rfl rfl ?_
  refine lx_bin rfl rfl (fun _ => rfl) (fun _ => bin_xor_u32 _ _ _) rfl rfl ?_
  refine lx_assign rfl rfl rfl ?_
  refine lx_nil ?_
  refine x_ret ?_
  repeat (first | refine kseq_ret ?_ | refine kblk_ret ?_)
  exact kret_tmp rfl rfl (fun w hw => ⟨rfl, hp_below hw⟩)
def low1 (x : BitVec 32) : BitVec 32 := rotl x (-17) ^^^ rotl x (-19) ^^^ (x >>> 10)
theorem low1_pure (x : BitVec 32) : Pure Tryd.prog Gt 60 [U32 x] (U32 (low1 x)) := by
  intro w hw
  have hGF : BOk Gt (pl w) := gt_low.plain hw
  refine calls_of_X (G := Gt) Tryd.func60 rfl rfl (Hp (pl w) []) (hp_refl (pl w) trivial rides_true) (good_hp hGF) ?_
  refine xs_plain (E := EE []) ?_
  refine lx_assign rfl rfl rfl ?_
  refine lx_nil ?_
  refine xs_plain (E := EE []) ?_
  refine lx_move rfl rfl rfl ?_
  refine lx_call rfl rfl ent62 (rotl_pure _ _) rfl rfl ?_
  refine lx_move rfl rfl rfl ?_
  refine lx_call rfl rfl ent62 (rotl_pure _ _) rfl rfl ?_
  refine lx_bin rfl rfl (fun _ => rfl) (fun _ => bin_xor_u32 _ _ _) rfl rfl ?_
  refine lx_move rfl rfl rfl ?_
  refine lx_bin rfl rfl (fun _ => rfl) (fun _ => bin_shr_u32 _ _ _) rfl rfl ?_
  refine lx_bin rfl rfl (fun _ => rfl) (fun _ => bin_xor_u32 _ _ _) rfl rfl ?_
  refine lx_assign rfl rfl rfl ?_
  refine lx_nil ?_
  refine x_ret ?_
  repeat (first | refine kseq_ret ?_ | refine kblk_ret ?_)
  exact kret_tmp rfl rfl (fun w hw => ⟨rfl, hp_below hw⟩)
end Sh
end Go.Proofs.YtdkkipjcmflclaaDoor
