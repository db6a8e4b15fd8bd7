/-
  The walks of package sha's small functions.
  The walks of sha.schedule, sha.compress, sha.start, sha.digest.
  The walk of the last blocks' iterator.
  The walks of sha.ending, sha.blocks and of the iterator over a text's blocks.
  The walks of sha.mix and sha.Sum.
-/
import Derived.Test.YtlimfhjjadbjgaaDoorX1
import Derived.Test.YtlimfhjjadbjgaaDoorX5
import Derived.Test.YtlimfhjjadbjgaaDoorX2
namespace Go.Proofs.YtlimfhjjadbjgaaDoor
open Go.RowKit
set_option maxRecDepth 100000
theorem ent27 : Enters Tryd.prog 27 := fun _ _ => by kernel_rfl
theorem ent28 : Enters Tryd.prog 28 := fun _ _ => by kernel_rfl
theorem ent41 : Enters Tryd.prog 41 := fun _ _ => by kernel_rfl
theorem ent42 : Enters Tryd.prog 42 := fun _ _ => by kernel_rfl
theorem ent54 : Enters Tryd.prog 54 := fun _ _ => by kernel_rfl
theorem ent39 : Enters Tryd.prog 39 := fun _ _ => by kernel_rfl
theorem ent40 : Enters Tryd.prog 40 := fun _ _ => by kernel_rfl
theorem ent43 : Enters Tryd.prog 43 := fun _ _ => by kernel_rfl
theorem ent55 : Enters Tryd.prog 55 := fun _ _ => by kernel_rfl
theorem ent56 : Enters Tryd.prog 56 := fun _ _ => by kernel_rfl
theorem ent57 : Enters Tryd.prog 57 := fun _ _ => by kernel_rfl
theorem ent58 : Enters Tryd.prog 58 := fun _ _ => by kernel_rfl
theorem ent63 : Enters Tryd.prog 63 := fun _ _ => by kernel_rfl
theorem ent64 : Enters Tryd.prog 64 := fun _ _ => by kernel_rfl
theorem ent65 : Enters Tryd.prog 65 := fun _ _ => by kernel_rfl
theorem ent11 : Enters Tryd.prog 11 := fun _ _ => by kernel_rfl
namespace Sh
theorem zv62 (w : World) : (zeroValue 62).run Tryd.prog w = .ok (.agg ((List.replicate 64 (0#32)).map U32).toArray) w := (Tryd.zeroValue62 w).trans (by rfl)
theorem zv61 (w : World) : (zeroValue 61).run Tryd.prog w = .ok (.agg ((List.replicate 8 (0#32)).map U32).toArray) w := (Tryd.zeroValue61 w).trans (by rfl)
theorem zv74 (w : World) : (zeroValue 74).run Tryd.prog w = .ok (.agg ((List.replicate 64 (0#8)).map U8).toArray) w := (Tryd.zeroValue74 w).trans (by rfl)
theorem zv55 (w : World) : (zeroValue 55).run Tryd.prog w = .ok (.agg ((List.replicate 32 (0#8)).map U8).toArray) w := (Tryd.zeroValue55 w).trans (by rfl)
def rotl (x : BitVec 32) (k : Int) : BitVec 32 := (x <<< (BitVec.ofInt 64 k &&& 31#64).toNat) ||| (x >>> (32#64 - (BitVec.ofInt 64 k &&& 31#64)).toNat)
theorem rotl_pure (x : BitVec 32) (k : Int) : Pure Tryd.prog Gt 65 [U32 x, I k] (U32 (rotl x k)) := by
  intro w hw
  have hGF : BOk Gt (pl w) := gt_low.plain hw
  refine calls_of_X (G := Gt) Tryd.func65 rfl rfl (Hp (pl w) []) (hp_refl (pl w) trivial rides_true) (good_hp hGF) ?_
  refine xs_plain (E := EE []) ?_
  refine lx_assign rfl rfl rfl ?_
  refine lx_nil ?_
  refine xs_plain (E := EE []) ?_
  refine lx_move rfl rfl rfl ?_
  refine lx_conv rfl rfl (fun _ => conv_i_u64 Tryd.underlying3 Tryd.underlying57 _) rfl rfl ?_
  refine lx_bin rfl rfl (fun _ => rfl) (fun _ => bin_and_u64 _ _ _) rfl rfl ?_
  refine lx_assign rfl rfl rfl ?_
  refine lx_nil ?_
  refine xs_plain (E := EE []) ?_
  refine lx_move rfl rfl rfl ?_
  refine lx_move rfl rfl rfl ?_
  refine lx_bin rfl rfl (fun _ => rfl) (fun _ => bin_shl_u32 _ _ _) rfl rfl ?_
  refine lx_move rfl rfl rfl ?_
  refine lx_move rfl rfl rfl ?_
  refine lx_bin rfl rfl (fun _ => rfl) (fun _ => bin_sub_u64 _ _ _) rfl rfl ?_
  refine lx_bin rfl rfl (fun _ => rfl) (fun _ => bin_shr_u32 _ _ _) rfl rfl ?_
  refine lx_bin rfl rfl (fun _ => rfl) (fun _ => bin_or_u32 _ _ _) rfl rfl ?_
  refine lx_assign rfl rfl rfl ?_
  refine lx_nil ?_
  refine x_ret ?_
  repeat (first | refine kseq_ret ?_ | refine kblk_ret ?_)
  exact kret_tmp rfl rfl (fun w hw => ⟨rfl, hp_below hw⟩)
def turn (x : BitVec 32) (n : Nat) : BitVec 32 := (x >>> n) ||| (x <<< (32 - n))
def sig1 (x : BitVec 32) : BitVec 32 := rotl x (-6) ^^^ rotl x (-11) ^^^ rotl x (-25)
theorem sig1_pure (x : BitVec 32) : Pure Tryd.prog Gt 56 [U32 x] (U32 (sig1 x)) := by
  intro w hw
  have hGF : BOk Gt (pl w) := gt_low.plain hw
  refine calls_of_X (G := Gt) Tryd.func56 rfl rfl (Hp (pl w) []) (hp_refl (pl w) trivial rides_true) (good_hp hGF) ?_
  refine xs_plain (E := EE []) ?_
  refine lx_assign rfl rfl rfl ?_
  refine lx_nil ?_
  refine xs_plain (E := EE []) ?_
  refine lx_move rfl rfl rfl ?_
  refine lx_call rfl rfl ent65 (rotl_pure _ _) rfl rfl ?_
  refine lx_move rfl rfl rfl ?_
  refine lx_call rfl rfl ent65 (rotl_pure _ _) rfl rfl ?_
  refine lx_bin rfl rfl (fun _ => rfl) (fun _ => bin_xor_u32 _ _ _) rfl rfl ?_
  refine lx_move rfl rfl rfl ?_
  refine lx_call rfl rfl ent65 (rotl_pure _ _) rfl rfl ?_
  refine lx_bin rfl rfl (fun _ => rfl) (fun _ => bin_xor_u32 _ _ _) rfl rfl ?_
  refine lx_assign rfl rfl rfl ?_
  refine lx_nil ?_
  refine x_ret ?_
  repeat (first | refine kseq_ret ?_ | refine kblk_ret ?_)
  exact kret_tmp rfl rfl (fun w hw => ⟨rfl, hp_below hw⟩)
def sig0 (x : BitVec 32) : BitVec 32 := rotl x (-2) ^^^ rotl x (-13) ^^^ rotl x (-22)
theorem sig0_pure (x : BitVec 32) : Pure Tryd.prog Gt 57 [U32 x] (U32 (sig0 x)) := by
  intro w hw
  have hGF : BOk Gt (pl w) := gt_low.plain hw
  refine calls_of_X (G := Gt) Tryd.func57 rfl rfl (Hp (pl w) []) (hp_refl (pl w) trivial rides_true) (good_hp hGF) ?_
  refine xs_plain (E := EE []) ?_
  refine lx_assign rfl rfl rfl ?_
  refine lx_nil ?_
  refine xs_plain (E := EE []) ?_
  refine lx_move rfl rfl rfl ?_
  refine lx_call rfl rfl ent65 (rotl_pure _ _) rfl rfl ?_
  refine lx_move rfl rfl rfl ?_
  refine lx_call rfl rfl ent65 (rotl_pure _ _) rfl rfl ?_
  refine lx_bin rfl rfl (fun _ => rfl) (fun _ => bin_xor_u32 _ _ _) rfl rfl ?_
  refine lx_move rfl rfl rfl ?_
  refine lx_call rfl rfl ent65 (rotl_pure _ _) rfl rfl ?_
  refine lx_bin rfl rfl (fun _ => rfl) (fun _ => bin_xor_u32 _ _ _) rfl rfl ?_
  refine lx_assign rfl rfl rfl ?_
  refine lx_nil ?_
  refine x_ret ?_
  repeat (first | refine kseq_ret ?_ | refine kblk_ret ?_)
  exact kret_tmp rfl rfl (fun w hw => ⟨rfl, hp_below hw⟩)
def low0 (x : BitVec 32) : BitVec 32 := rotl x (-7) ^^^ rotl x (-18) ^^^ (x >>> 3)
theorem low0_pure (x : BitVec 32) : Pure Tryd.prog Gt 64 [U32 x] (U32 (low0 x)) := by
  intro w hw
  have hGF : BOk Gt (pl w) := gt_low.plain hw
  refine calls_of_X (G := Gt) Tryd.func64 rfl rfl (Hp (pl w) []) (hp_refl (pl w) trivial rides_true) (good_hp hGF) ?_
  refine xs_plain (E := EE []) ?_
  refine lx_assign rfl rfl rfl ?_
  refine lx_nil ?_
  refine xs_plain (E := EE []) ?_
  refine lx_move rfl rfl rfl ?_
  refine lx_call rfl rfl ent65 (rotl_pure _ _) rfl rfl ?_
  refine lx_move rfl rfl rfl ?_
  refine lx_call rfl rfl ent65 (rotl_pure _ _) rfl rfl ?_
  refine lx_bin rfl rfl (fun _ => rfl) (fun _ => bin_xor_u32 _ _ _) rfl rfl ?_
  refine lx_move rfl rfl rfl ?_
  refine lx_bin rfl rfl (fun _ => rfl) (fun _ => bin_shr_u32 _ _ _) rfl rfl ?_
  refine lx_bin rfl rfl (fun _ => rfl) (fun _ => bin_xor_u32 _ _ _) rfl rfl ?_
  refine lx_assign rfl rfl rfl ?_
  refine lx_nil ?_
  refine x_ret ?_
  repeat (first | refine kseq_ret ?_ | refine kblk_ret ?_)
  exact kret_tmp rfl rfl (fun w hw => ⟨rfl, hp_below hw⟩)
def low1 (x : BitVec 32) : BitVec 32 := rotl x (-17) ^^^ rotl x (-19) ^^^ (x >>> 10)
theorem low1_pure (x : BitVec 32) : Pure Tryd.prog Gt 63 [U32 x] (U32 (low1 x)) := by
  intro w hw
  have hGF : BOk Gt (pl w) := gt_low.plain hw
  refine calls_of_X (G := Gt) Tryd.func63 rfl rfl (Hp (pl w) []) (hp_refl (pl w) trivial rides_true) (good_hp hGF) ?_
  refine xs_plain (E := EE []) ?_
  refine lx_assign rfl rfl rfl ?_
  refine lx_nil ?_
  refine xs_plain (E := EE []) ?_
  refine lx_move rfl rfl rfl ?_
  refine lx_call rfl rfl ent65 (rotl_pure _ _) rfl rfl ?_
  refine lx_move rfl rfl rfl ?_
  refine lx_call rfl rfl ent65 (rotl_pure _ _) rfl rfl ?_
  refine lx_bin rfl rfl (fun _ => rfl) (fun _ => bin_xor_u32 _ _ _) rfl rfl ?_
  refine lx_move rfl rfl rfl ?_
  refine lx_bin rfl rfl (fun _ => rfl) (fun _ => bin_shr_u32 _ _ _) rfl rfl ?_
  refine lx_bin rfl rfl (fun _ => rfl) (fun _ => bin_xor_u32 _ _ _) rfl rfl ?_
  refine lx_assign rfl rfl rfl ?_
  refine lx_nil ?_
  refine x_ret ?_
  repeat (first | refine kseq_ret ?_ | refine kblk_ret ?_)
  exact kret_tmp rfl rfl (fun w hw => ⟨rfl, hp_below hw⟩)
end Sh
end Go.Proofs.YtlimfhjjadbjgaaDoor

namespace Go.Proofs.YtlimfhjjadbjgaaDoor
open Go.RowKit
set_option maxRecDepth 100000
namespace Sh
/-- A word of a block. -/
def w4 (bl : List (BitVec 8)) (i : Nat) : BitVec 32 := ((bl.getD (4 * i) 0).setWidth 32 <<< 24) ||| ((bl.getD (4 * i + 1) 0).setWidth 32 <<< 16) ||| ((bl.getD (4 * i + 2) 0).setWidth 32 <<< 8) ||| (bl.getD (4 * i + 3) 0).setWidth 32
def W1 (bl : List (BitVec 8)) : Nat → List (BitVec 32)
  | 0 => List.replicate 64 0#32
  | k + 1 => (W1 bl k).set k (w4 bl k)
theorem W1_len (bl : List (BitVec 8)) : ∀ k, (W1 bl k).length = 64
  | 0 => by simp [W1]
  | k + 1 => by simp [W1, W1_len bl k]
def w5 (ws : List (BitVec 32)) (i : Nat) : BitVec 32 := low1 (ws.getD (i - 2) 0) + ws.getD (i - 7) 0 + low0 (ws.getD (i - 15) 0) + ws.getD (i - 16) 0
def W2 (bl : List (BitVec 8)) : Nat → List (BitVec 32)
  | 0 => W1 bl 16
  | k + 1 => (W2 bl k).set (16 + k) (w5 (W2 bl k) (16 + k))
theorem W2_len (bl : List (BitVec 8)) : ∀ k, (W2 bl k).length = 64
  | 0 => W1_len bl 16
  | k + 1 => by simp [W2, W2_len bl k]

theorem sched_pure (bl : List (BitVec 8)) (hb : bl.length = 64) : Pure Tryd.prog Gt 55 [.agg (bl.map U8).toArray] (.agg ((W2 bl 48).map U32).toArray) := by
  intro w hw
  have hGF : BOk Gt (pl w) := gt_low.plain hw
  refine calls_of_X (G := Gt) Tryd.func55 rfl rfl (Hp (pl w) []) (hp_refl (pl w) trivial rides_true) (good_hp hGF) ?_
  refine xs_plain (E := EE []) ?_
  refine lx_boxr 1 hGF rfl rfl rfl ?_
  intro b1
  refine lx_allocr 2 hGF zv62 rfl rfl ?_
  intro b2
  refine lx_nil ?_
  refine xs_plain (E := EE []) ?_
  refine lx_allocr 3 hGF zv62 rfl rfl ?_
  intro b3
  refine lx_nil ?_
  refine x_seq ?_
  refine xs_plain (E := EE []) ?_
  refine lx_move rfl rfl rfl ?_
  refine lx_nil ?_
  refine x_block ?_
  refine x_for (ι := { i : Nat // i ≤ 16 }) (fun x => [(6, I (x.1 : Int)), (1, .pointer (some ⟨b1, 0, none⟩)), (2, .pointer (some ⟨b2, 0, none⟩)), (3, .pointer (some ⟨b3, 0, none⟩))]) (fun x => [(3, b3, (W1 bl x.1).map U32, 62), (2, b2, (List.replicate 64 (0#32)).map U32, 62), (1, b1, bl.map U8, 74)]) (fun x => 16 - x.1) ⟨0, by omega⟩ hGF ⟨rfl, rfl, rfl, rfl, trivial⟩ ⟨rfl, rfl, rfl, trivial⟩ ?_
  rintro ⟨i, hi⟩
  dsimp only
  refine xs_plain (E := EE []) ?_
  refine lx_bin rfl rfl (fun _ => rfl) (fun _ => bin_lss_i _ _ _) rfl rfl ?_
  refine lx_nil ?_
  refine x_seq ?_
  refine x_if rfl (fun hc => ?_) (fun hc => ?_)
  · simp only [decide_eq_true_eq] at hc
    refine x_skip ?_
    refine x_seq ?_
    refine x_block ?_
    refine xs_plain (E := EE []) ?_
    refine lx_move rfl rfl rfl ?_
    refine lx_assign rfl rfl rfl ?_
    refine lx_nil ?_
    refine x_drawn (E := EE []) mixed (by kernel_rfl) (by kernel_rfl) (by kernel_rfl) ?_
    refine lx_move rfl rfl rfl ?_
    refine lx_move rfl rfl rfl ?_
    refine lx_bin rfl rfl (fun _ => rfl) (fun _ => bin_mul_i _ _ _ (by unfold inI; omega)) rfl rfl ?_
    refine lx_ia0 ((4 * i)) rfl rfl Tryd.underlying74 Tryd.sizeOf5 (by omega) (by omega) rfl rfl ?_
    refine lx_loadm 1 U8 0 rfl rfl Tryd.isAgg5 (by rw [hb]; omega) rfl rfl ?_
    refine lx_conv rfl rfl (fun _ => conv_u8_u32 Tryd.underlying5 Tryd.underlying60 _) rfl rfl ?_
    refine lx_bin rfl rfl (fun _ => rfl) (fun _ => bin_shl_u32 _ _ _) rfl rfl ?_
    refine lx_move rfl rfl rfl ?_
    refine lx_bin rfl rfl (fun _ => rfl) (fun _ => bin_mul_i _ _ _ (by unfold inI; omega)) rfl rfl ?_
    refine lx_bin rfl rfl (fun _ => rfl) (fun _ => bin_add_i _ _ _ (by unfold inI; omega)) rfl rfl ?_
    refine lx_ia0 (((4 * i) + 1)) rfl rfl Tryd.underlying74 Tryd.sizeOf5 (by omega) (by omega) rfl rfl ?_
    refine lx_loadm 1 U8 0 rfl rfl Tryd.isAgg5 (by rw [hb]; omega) rfl rfl ?_
    refine lx_conv rfl rfl (fun _ => conv_u8_u32 Tryd.underlying5 Tryd.underlying60 _) rfl rfl ?_
    refine lx_bin rfl rfl (fun _ => rfl) (fun _ => bin_shl_u32 _ _ _) rfl rfl ?_
    refine lx_bin rfl rfl (fun _ => rfl) (fun _ => bin_or_u32 _ _ _) rfl rfl ?_
    refine lx_move rfl rfl rfl ?_
    refine lx_bin rfl rfl (fun _ => rfl) (fun _ => bin_mul_i _ _ _ (by unfold inI; omega)) rfl rfl ?_
    refine lx_bin rfl rfl (fun _ => rfl) (fun _ => bin_add_i _ _ _ (by unfold inI; omega)) rfl rfl ?_
    refine lx_ia0 (((4 * i) + 2)) rfl rfl Tryd.underlying74 Tryd.sizeOf5 (by omega) (by omega) rfl rfl ?_
    refine lx_loadm 1 U8 0 rfl rfl Tryd.isAgg5 (by rw [hb]; omega) rfl rfl ?_
    refine lx_conv rfl rfl (fun _ => conv_u8_u32 Tryd.underlying5 Tryd.underlying60 _) rfl rfl ?_
    refine lx_bin rfl rfl (fun _ => rfl) (fun _ => bin_shl_u32 _ _ _) rfl rfl ?_
    refine lx_bin rfl rfl (fun _ => rfl) (fun _ => bin_or_u32 _ _ _) rfl rfl ?_
    refine lx_move rfl rfl rfl ?_
    refine lx_bin rfl rfl (fun _ => rfl) (fun _ => bin_mul_i _ _ _ (by unfold inI; omega)) rfl rfl ?_
    refine lx_bin rfl rfl (fun _ => rfl) (fun _ => bin_add_i _ _ _ (by unfold inI; omega)) rfl rfl ?_
    refine lx_ia0 (((4 * i) + 3)) rfl rfl Tryd.underlying74 Tryd.sizeOf5 (by omega) (by omega) rfl rfl ?_
    refine lx_loadm 1 U8 0 rfl rfl Tryd.isAgg5 (by rw [hb]; omega) rfl rfl ?_
    refine lx_conv rfl rfl (fun _ => conv_u8_u32 Tryd.underlying5 Tryd.underlying60 _) rfl rfl ?_
    refine lx_bin rfl rfl (fun _ => rfl) (fun _ => bin_or_u32 _ _ _) rfl rfl ?_
    refine lx_ia0 (i) rfl rfl Tryd.underlying62 Tryd.sizeOf60 (by omega) (by omega) rfl rfl ?_
    refine lx_storem 3 U32 hGF rfl rfl rfl Tryd.sizeOf60 rfl (by rw [W1_len]; omega) rfl ?_
    refine lx_nil ?_
    refine x_plain (E := EE []) ?_
    refine lx_bin rfl rfl (fun _ => rfl) (fun _ => bin_add_i _ _ _ (by unfold inI; omega)) rfl rfl ?_
    refine lx_move rfl rfl rfl ?_
    refine lx_nil ?_
    refine kseq_n ?_
    exact ⟨rfl, ⟨i + 1, by omega⟩, _, by show 16 - (i + 1) < 16 - i; omega, rfl, ⟨rfl, rfl, rfl, rfl, trivial⟩, ⟨rfl, rfl, rfl, trivial⟩⟩
  · obtain rfl : i = 16 := by simp at hc; omega
    refine x_exit ?_
    refine x_seq ?_
    refine xs_plain (E := EE []) ?_
    refine lx_assign rfl rfl rfl ?_
    refine lx_nil ?_
    refine x_block ?_
    refine x_for (ι := { i : Nat // i ≤ 48 }) (fun x => [(5, I ((16 + x.1 : Nat) : Int)), (2, .pointer (some ⟨b2, 0, none⟩)), (3, .pointer (some ⟨b3, 0, none⟩))]) (fun x => [(3, b3, (W2 bl x.1).map U32, 62), (2, b2, (List.replicate 64 (0#32)).map U32, 62)]) (fun x => 48 - x.1) ⟨0, by omega⟩ hGF ⟨rfl, rfl, rfl, trivial⟩ ⟨rfl, rfl, trivial⟩ ?_
    rintro ⟨j, hj⟩
    dsimp only
    refine x_seq ?_
    refine xs_plain (E := EE []) ?_
    refine lx_move rfl rfl rfl ?_
    refine lx_bin rfl rfl (fun _ => rfl) (fun _ => bin_lss_i _ _ _) rfl rfl ?_
    refine lx_nil ?_
    refine x_if rfl (fun hc => ?_) (fun hc => ?_)
    · simp only [decide_eq_true_eq] at hc
      refine x_skip ?_
      refine x_seq ?_
      refine x_block ?_
      refine x_drawn (E := EE []) mixed (by kernel_rfl) (by kernel_rfl) (by kernel_rfl) ?_
      refine lx_move rfl rfl rfl ?_
      refine lx_move rfl rfl rfl ?_
      refine lx_bin rfl rfl (fun _ => rfl) (fun _ => bin_sub_i _ _ _ (by unfold inI; omega)) rfl rfl ?_
      refine lx_ia0 (((16 + j) - 2)) rfl rfl Tryd.underlying62 Tryd.sizeOf60 (by omega) (by omega) rfl rfl ?_
      refine lx_loadm 3 U32 0 rfl rfl Tryd.isAgg60 (by rw [W2_len]; omega) rfl rfl ?_
      refine lx_call rfl rfl ent63 (low1_pure _) rfl rfl ?_
      refine lx_move rfl rfl rfl ?_
      refine lx_bin rfl rfl (fun _ => rfl) (fun _ => bin_sub_i _ _ _ (by unfold inI; omega)) rfl rfl ?_
      refine lx_ia0 (((16 + j) - 7)) rfl rfl Tryd.underlying62 Tryd.sizeOf60 (by omega) (by omega) rfl rfl ?_
      refine lx_loadm 3 U32 0 rfl rfl Tryd.isAgg60 (by rw [W2_len]; omega) rfl rfl ?_
      refine lx_bin rfl rfl (fun _ => rfl) (fun _ => bin_add_u32 _ _ _) rfl rfl ?_
      refine lx_move rfl rfl rfl ?_
      refine lx_bin rfl rfl (fun _ => rfl) (fun _ => bin_sub_i _ _ _ (by unfold inI; omega)) rfl rfl ?_
      refine lx_ia0 (((16 + j) - 15)) rfl rfl Tryd.underlying62 Tryd.sizeOf60 (by omega) (by omega) rfl rfl ?_
      refine lx_loadm 3 U32 0 rfl rfl Tryd.isAgg60 (by rw [W2_len]; omega) rfl rfl ?_
      refine lx_call rfl rfl ent64 (low0_pure _) rfl rfl ?_
      refine lx_bin rfl rfl (fun _ => rfl) (fun _ => bin_add_u32 _ _ _) rfl rfl ?_
      refine lx_move rfl rfl rfl ?_
      refine lx_bin rfl rfl (fun _ => rfl) (fun _ => bin_sub_i _ _ _ (by unfold inI; omega)) rfl rfl ?_
      refine lx_ia0 (((16 + j) - 16)) rfl rfl Tryd.underlying62 Tryd.sizeOf60 (by omega) (by omega) rfl rfl ?_
      refine lx_loadm 3 U32 0 rfl rfl Tryd.isAgg60 (by rw [W2_len]; omega) rfl rfl ?_
      refine lx_bin rfl rfl (fun _ => rfl) (fun _ => bin_add_u32 _ _ _) rfl rfl ?_
      refine lx_ia0 ((16 + j)) rfl rfl Tryd.underlying62 Tryd.sizeOf60 (by omega) (by omega) rfl rfl ?_
      refine lx_storem 3 U32 hGF rfl rfl rfl Tryd.sizeOf60 rfl (by rw [W2_len]; omega) rfl ?_
      refine lx_nil ?_
      refine x_plain (E := EE []) ?_
      refine lx_move rfl rfl rfl ?_
      refine lx_bin rfl rfl (fun _ => rfl) (fun _ => bin_add_i _ _ _ (by unfold inI; omega)) rfl rfl ?_
      refine lx_assign rfl rfl rfl ?_
      refine lx_nil ?_
      refine kseq_n ?_
      exact ⟨rfl, ⟨j + 1, by omega⟩, _, by show 48 - (j + 1) < 48 - j; omega, rfl, ⟨rfl, rfl, rfl, trivial⟩, ⟨rfl, rfl, trivial⟩⟩
    · obtain rfl : j = 48 := by simp at hc; omega
      refine x_exit ?_
      refine xs_plain (E := EE []) ?_
      refine lx_loada 3 rfl rfl Tryd.isAgg62 Tryd.sizeOf62 (by rw [List.length_map, W2_len]) rfl rfl ?_
      refine lx_storea 2 hGF rfl rfl rfl Tryd.sizeOf62 (by rw [List.length_map, W2_len]) (by rw [List.length_map, List.length_replicate]) (one_u32 _) rfl ?_
      refine lx_nil ?_
      refine x_ret ?_
      repeat (first | refine kseq_ret ?_ | refine kblk_ret ?_)
      exact kret_own 2 rfl rfl rfl Tryd.isAgg62 Tryd.sizeOf62 (by rw [List.length_map, W2_len]) (fun w hw => ⟨rfl, hp_below hw⟩)
theorem gk {B : Bs} {L : Hl} {Y : Nat → Prop} (hw : Gt B.w0) (hM : ¬ B.M 1) (k : Nat) (hk : k < 64) : ∀ w, Hq B L Y w → w.cell? ⟨1, k, none⟩ = some (U32 (KW.getD k 0)) := by
  have := hw.g1 k _ (gm U32 KW 0 k hk)
  rw [Nat.zero_add] at this
  exact hp_old this hM
structure V8 where
  (a b c d e f g h : BitVec 32)
def rnd (v : V8) (k w : BitVec 32) : V8 :=
  ⟨(v.h + sig1 v.e + (v.e &&& v.f ^^^ ~~~v.e &&& v.g) + k + w) + (sig0 v.a + (v.a &&& v.b ^^^ v.a &&& v.c ^^^ v.b &&& v.c)), v.a, v.b, v.c, v.d + (v.h + sig1 v.e + (v.e &&& v.f ^^^ ~~~v.e &&& v.g) + k + w), v.e, v.f, v.g⟩
def rnds (v : V8) (ws : List (BitVec 32)) : Nat → V8
  | 0 => v
  | k + 1 => rnd (rnds v ws k) (KW.getD k 0) (ws.getD k 0)
def v8 (st : List (BitVec 32)) : V8 := ⟨st.getD 0 0, st.getD 1 0, st.getD 2 0, st.getD 3 0, st.getD 4 0, st.getD 5 0, st.getD 6 0, st.getD 7 0⟩
def addV (st : List (BitVec 32)) (v : V8) : List (BitVec 32) := [st.getD 0 0 + v.a, st.getD 1 0 + v.b, st.getD 2 0 + v.c, st.getD 3 0 + v.d, st.getD 4 0 + v.e, st.getD 5 0 + v.f, st.getD 6 0 + v.g, st.getD 7 0 + v.h]
def comp (st : List (BitVec 32)) (bl : List (BitVec 8)) : List (BitVec 32) := addV st (rnds (v8 st) (W2 bl 48) 64)

theorem comp_pure (st : List (BitVec 32)) (bl : List (BitVec 8)) (hs : st.length = 8) (hb : bl.length = 64) : Pure Tryd.prog Gt 40 [.agg (st.map U32).toArray, .agg (bl.map U8).toArray] (.agg ((comp st bl).map U32).toArray) := by
  intro w hw
  have hGF : BOk Gt (pl w) := gt_low.plain hw
  refine calls_of_X (G := Gt) Tryd.func40 rfl rfl (Hp (pl w) []) (hp_refl (pl w) trivial rides_true) (good_hp hGF) ?_
  refine xs_plain (E := EE []) ?_
  refine lx_boxr 2 hGF rfl rfl rfl ?_
  intro b2
  refine lx_boxr 3 hGF rfl rfl rfl ?_
  intro b3
  refine lx_allocr 4 hGF zv61 rfl rfl ?_
  intro b4
  refine lx_nil ?_
  refine xs_plain (E := EE []) ?_
  refine lx_loada 3 rfl rfl Tryd.isAgg74 Tryd.sizeOf74 (by rw [List.length_map, hb]) rfl rfl ?_
  refine lx_call rfl rfl ent55 (sched_pure _ hb) rfl rfl ?_
  refine lx_allocr 5 hGF zv62 rfl rfl ?_
  intro b5
  refine lx_storea 5 hGF rfl rfl rfl Tryd.sizeOf62 (by rw [List.length_map, W2_len]) (by rw [List.length_map, List.length_replicate]) (one_u32 _) rfl ?_
  refine lx_nil ?_
  refine xs_drawn (E := EE []) mixed (by kernel_rfl) (by kernel_rfl) (by kernel_rfl) ?_
  refine lx_ia0 (0) rfl rfl Tryd.underlying61 Tryd.sizeOf60 (by omega) (by omega) rfl rfl ?_
  refine lx_loadm 2 U32 0 rfl rfl Tryd.isAgg60 (by rw [hs]; omega) rfl rfl ?_
  refine lx_ia0 (1) rfl rfl Tryd.underlying61 Tryd.sizeOf60 (by omega) (by omega) rfl rfl ?_
  refine lx_loadm 2 U32 0 rfl rfl Tryd.isAgg60 (by rw [hs]; omega) rfl rfl ?_
  refine lx_ia0 (2) rfl rfl Tryd.underlying61 Tryd.sizeOf60 (by omega) (by omega) rfl rfl ?_
  refine lx_loadm 2 U32 0 rfl rfl Tryd.isAgg60 (by rw [hs]; omega) rfl rfl ?_
  refine lx_ia0 (3) rfl rfl Tryd.underlying61 Tryd.sizeOf60 (by omega) (by omega) rfl rfl ?_
  refine lx_loadm 2 U32 0 rfl rfl Tryd.isAgg60 (by rw [hs]; omega) rfl rfl ?_
  refine lx_assign rfl rfl rfl ?_
  refine lx_assign rfl rfl rfl ?_
  refine lx_assign rfl rfl rfl ?_
  refine lx_assign rfl rfl rfl ?_
  refine lx_nil ?_
  refine xs_drawn (E := EE []) mixed (by kernel_rfl) (by kernel_rfl) (by kernel_rfl) ?_
  refine lx_ia0 (4) rfl rfl Tryd.underlying61 Tryd.sizeOf60 (by omega) (by omega) rfl rfl ?_
  refine lx_loadm 2 U32 0 rfl rfl Tryd.isAgg60 (by rw [hs]; omega) rfl rfl ?_
  refine lx_ia0 (5) rfl rfl Tryd.underlying61 Tryd.sizeOf60 (by omega) (by omega) rfl rfl ?_
  refine lx_loadm 2 U32 0 rfl rfl Tryd.isAgg60 (by rw [hs]; omega) rfl rfl ?_
  refine lx_ia0 (6) rfl rfl Tryd.underlying61 Tryd.sizeOf60 (by omega) (by omega) rfl rfl ?_
  refine lx_loadm 2 U32 0 rfl rfl Tryd.isAgg60 (by rw [hs]; omega) rfl rfl ?_
  refine lx_ia0 (7) rfl rfl Tryd.underlying61 Tryd.sizeOf60 (by omega) (by omega) rfl rfl ?_
  refine lx_loadm 2 U32 0 rfl rfl Tryd.isAgg60 (by rw [hs]; omega) rfl rfl ?_
  refine lx_assign rfl rfl rfl ?_
  refine lx_assign rfl rfl rfl ?_
  refine lx_assign rfl rfl rfl ?_
  refine lx_assign rfl rfl rfl ?_
  refine lx_nil ?_
  refine x_seq ?_
  refine xs_plain (E := EE []) ?_
  refine lx_loada 5 rfl rfl Tryd.isAgg62 Tryd.sizeOf62 (by rw [List.length_map, W2_len]) rfl rfl ?_
  refine lx_move rfl rfl rfl ?_
  refine lx_nil ?_
  refine x_block ?_
  refine x_for (ι := { i : Nat // i ≤ 64 }) (fun x => [(39, I (x.1 : Int)), (2, .pointer (some ⟨b2, 0, none⟩)), (4, .pointer (some ⟨b4, 0, none⟩)), (6, U32 (rnds (v8 st) (W2 bl 48) x.1).a), (7, U32 (rnds (v8 st) (W2 bl 48) x.1).b), (8, U32 (rnds (v8 st) (W2 bl 48) x.1).c), (9, U32 (rnds (v8 st) (W2 bl 48) x.1).d), (10, U32 (rnds (v8 st) (W2 bl 48) x.1).e), (11, U32 (rnds (v8 st) (W2 bl 48) x.1).f), (12, U32 (rnds (v8 st) (W2 bl 48) x.1).g), (13, U32 (rnds (v8 st) (W2 bl 48) x.1).h), (38, .agg ((W2 bl 48).map U32).toArray)]) (fun x => [(2, b2, st.map U32, 61), (4, b4, (List.replicate 8 (0#32)).map U32, 61)]) (fun x => 64 - x.1) ⟨0, by omega⟩ hGF ⟨rfl, rfl, rfl, rfl, rfl, rfl, rfl, rfl, rfl, rfl, rfl, rfl, trivial⟩ ⟨rfl, rfl, trivial⟩ ?_
  rintro ⟨i, hi⟩
  dsimp only
  refine xs_plain (E := EE []) ?_
  refine lx_bin rfl rfl (fun _ => rfl) (fun _ => bin_lss_i _ _ _) rfl rfl ?_
  refine lx_nil ?_
  refine x_seq ?_
  refine x_if rfl (fun hc => ?_) (fun hc => ?_)
  · simp only [decide_eq_true_eq] at hc
    refine x_skip ?_
    refine x_seq ?_
    refine x_block ?_
    refine xs_plain (E := EE []) ?_
    refine lx_move rfl rfl rfl ?_
    refine lx_idxm U32 0 (i) rfl rfl Tryd.underlying62 Tryd.sizeOf60 Tryd.isAgg60 (by omega) (by omega) (W2_len _ _) rfl rfl ?_
    refine lx_assign rfl rfl rfl ?_
    refine lx_assign rfl rfl rfl ?_
    refine lx_nil ?_
    refine xs_plain (E := EE []) ?_
    refine lx_move rfl rfl rfl ?_
    refine lx_move rfl rfl rfl ?_
    refine lx_bin rfl rfl (fun _ => rfl) (fun _ => bin_and_u32 _ _ _) rfl rfl ?_
    refine lx_move rfl rfl rfl ?_
    refine lx_un rfl (fun _ => un_xor_u32 _) rfl rfl ?_
    refine lx_move rfl rfl rfl ?_
    refine lx_bin rfl rfl (fun _ => rfl) (fun _ => bin_and_u32 _ _ _) rfl rfl ?_
    refine lx_bin rfl rfl (fun _ => rfl) (fun _ => bin_xor_u32 _ _ _) rfl rfl ?_
    refine lx_assign rfl rfl rfl ?_
    refine lx_nil ?_
    refine xs_drawn (E := EE []) mixed (by kernel_rfl) (by kernel_rfl) (by kernel_rfl) ?_
    refine lx_move rfl rfl rfl ?_
    refine lx_move rfl rfl rfl ?_
    refine lx_call rfl rfl ent56 (sig1_pure _) rfl rfl ?_
    refine lx_bin rfl rfl (fun _ => rfl) (fun _ => bin_add_u32 _ _ _) rfl rfl ?_
    refine lx_move rfl rfl rfl ?_
    refine lx_bin rfl rfl (fun _ => rfl) (fun _ => bin_add_u32 _ _ _) rfl rfl ?_
    refine lx_move rfl rfl rfl ?_
    refine lx_ia0 (i) rfl rfl Tryd.underlying62 Tryd.sizeOf60 (by omega) (by omega) rfl rfl ?_
    refine lx_load rfl Tryd.isAgg60 (gk (B := pl w) hw (fun h => h) (i) (by omega)) rfl rfl ?_
    refine lx_bin rfl rfl (fun _ => rfl) (fun _ => bin_add_u32 _ _ _) rfl rfl ?_
    refine lx_move rfl rfl rfl ?_
    refine lx_bin rfl rfl (fun _ => rfl) (fun _ => bin_add_u32 _ _ _) rfl rfl ?_
    refine lx_assign rfl rfl rfl ?_
    refine lx_nil ?_
    refine xs_plain (E := EE []) ?_
    refine lx_move rfl rfl rfl ?_
    refine lx_move rfl rfl rfl ?_
    refine lx_bin rfl rfl (fun _ => rfl) (fun _ => bin_and_u32 _ _ _) rfl rfl ?_
    refine lx_move rfl rfl rfl ?_
    refine lx_move rfl rfl rfl ?_
    refine lx_bin rfl rfl (fun _ => rfl) (fun _ => bin_and_u32 _ _ _) rfl rfl ?_
    refine lx_bin rfl rfl (fun _ => rfl) (fun _ => bin_xor_u32 _ _ _) rfl rfl ?_
    refine lx_move rfl rfl rfl ?_
    refine lx_move rfl rfl rfl ?_
    refine lx_bin rfl rfl (fun _ => rfl) (fun _ => bin_and_u32 _ _ _) rfl rfl ?_
    refine lx_bin rfl rfl (fun _ => rfl) (fun _ => bin_xor_u32 _ _ _) rfl rfl ?_
    refine lx_assign rfl rfl rfl ?_
    refine lx_nil ?_
    refine xs_plain (E := EE []) ?_
    refine lx_move rfl rfl rfl ?_
    refine lx_call rfl rfl ent57 (sig0_pure _) rfl rfl ?_
    refine lx_move rfl rfl rfl ?_
    refine lx_bin rfl rfl (fun _ => rfl) (fun _ => bin_add_u32 _ _ _) rfl rfl ?_
    refine lx_assign rfl rfl rfl ?_
    refine lx_nil ?_
    refine xs_plain (E := EE []) ?_
    refine lx_move rfl rfl rfl ?_
    refine lx_move rfl rfl rfl ?_
    refine lx_move rfl rfl rfl ?_
    refine lx_move rfl rfl rfl ?_
    refine lx_move rfl rfl rfl ?_
    refine lx_bin rfl rfl (fun _ => rfl) (fun _ => bin_add_u32 _ _ _) rfl rfl ?_
    refine lx_assign rfl rfl rfl ?_
    refine lx_assign rfl rfl rfl ?_
    refine lx_assign rfl rfl rfl ?_
    refine lx_assign rfl rfl rfl ?_
    refine lx_nil ?_
    refine x_plain (E := EE []) ?_
    refine lx_move rfl rfl rfl ?_
    refine lx_move rfl rfl rfl ?_
    refine lx_move rfl rfl rfl ?_
    refine lx_move rfl rfl rfl ?_
    refine lx_move rfl rfl rfl ?_
    refine lx_bin rfl rfl (fun _ => rfl) (fun _ => bin_add_u32 _ _ _) rfl rfl ?_
    refine lx_assign rfl rfl rfl ?_
    refine lx_assign rfl rfl rfl ?_
    refine lx_assign rfl rfl rfl ?_
    refine lx_assign rfl rfl rfl ?_
    refine lx_nil ?_
    refine x_plain (E := EE []) ?_
    refine lx_bin rfl rfl (fun _ => rfl) (fun _ => bin_add_i _ _ _ (by unfold inI; omega)) rfl rfl ?_
    refine lx_move rfl rfl rfl ?_
    refine lx_nil ?_
    refine kseq_n ?_
    exact ⟨rfl, ⟨i + 1, by omega⟩, _, by show 64 - (i + 1) < 64 - i; omega, rfl, ⟨rfl, rfl, rfl, rfl, rfl, rfl, rfl, rfl, rfl, rfl, rfl, rfl, trivial⟩, ⟨rfl, rfl, trivial⟩⟩
  · obtain rfl : i = 64 := by simp at hc; omega
    refine x_exit ?_
    refine xs_plain (E := EE []) ?_
    refine lx_ia0 (0) rfl rfl Tryd.underlying61 Tryd.sizeOf60 (by omega) (by omega) rfl rfl ?_
    refine lx_loadm 2 U32 0 rfl rfl Tryd.isAgg60 (by rw [hs]; omega) rfl rfl ?_
    refine lx_move rfl rfl rfl ?_
    refine lx_bin rfl rfl (fun _ => rfl) (fun _ => bin_add_u32 _ _ _) rfl rfl ?_
    refine lx_ia0 (1) rfl rfl Tryd.underlying61 Tryd.sizeOf60 (by omega) (by omega) rfl rfl ?_
    refine lx_loadm 2 U32 0 rfl rfl Tryd.isAgg60 (by rw [hs]; omega) rfl rfl ?_
    refine lx_move rfl rfl rfl ?_
    refine lx_bin rfl rfl (fun _ => rfl) (fun _ => bin_add_u32 _ _ _) rfl rfl ?_
    refine lx_ia0 (2) rfl rfl Tryd.underlying61 Tryd.sizeOf60 (by omega) (by omega) rfl rfl ?_
    refine lx_loadm 2 U32 0 rfl rfl Tryd.isAgg60 (by rw [hs]; omega) rfl rfl ?_
    refine lx_move rfl rfl rfl ?_
    refine lx_bin rfl rfl (fun _ => rfl) (fun _ => bin_add_u32 _ _ _) rfl rfl ?_
    refine lx_ia0 (3) rfl rfl Tryd.underlying61 Tryd.sizeOf60 (by omega) (by omega) rfl rfl ?_
    refine lx_loadm 2 U32 0 rfl rfl Tryd.isAgg60 (by rw [hs]; omega) rfl rfl ?_
    refine lx_move rfl rfl rfl ?_
    refine lx_bin rfl rfl (fun _ => rfl) (fun _ => bin_add_u32 _ _ _) rfl rfl ?_
    refine lx_ia0 (4) rfl rfl Tryd.underlying61 Tryd.sizeOf60 (by omega) (by omega) rfl rfl ?_
    refine lx_loadm 2 U32 0 rfl rfl Tryd.isAgg60 (by rw [hs]; omega) rfl rfl ?_
    refine lx_move rfl rfl rfl ?_
    refine lx_bin rfl rfl (fun _ => rfl) (fun _ => bin_add_u32 _ _ _) rfl rfl ?_
    refine lx_ia0 (5) rfl rfl Tryd.underlying61 Tryd.sizeOf60 (by omega) (by omega) rfl rfl ?_
    refine lx_loadm 2 U32 0 rfl rfl Tryd.isAgg60 (by rw [hs]; omega) rfl rfl ?_
    refine lx_move rfl rfl rfl ?_
    refine lx_bin rfl rfl (fun _ => rfl) (fun _ => bin_add_u32 _ _ _) rfl rfl ?_
    refine lx_ia0 (6) rfl rfl Tryd.underlying61 Tryd.sizeOf60 (by omega) (by omega) rfl rfl ?_
    refine lx_loadm 2 U32 0 rfl rfl Tryd.isAgg60 (by rw [hs]; omega) rfl rfl ?_
    refine lx_move rfl rfl rfl ?_
    refine lx_bin rfl rfl (fun _ => rfl) (fun _ => bin_add_u32 _ _ _) rfl rfl ?_
    refine lx_ia0 (7) rfl rfl Tryd.underlying61 Tryd.sizeOf60 (by omega) (by omega) rfl rfl ?_
    refine lx_loadm 2 U32 0 rfl rfl Tryd.isAgg60 (by rw [hs]; omega) rfl rfl ?_
    refine lx_move rfl rfl rfl ?_
    refine lx_bin rfl rfl (fun _ => rfl) (fun _ => bin_add_u32 _ _ _) rfl rfl ?_
    refine lx_buildr (n := 8) rfl rfl Tryd.underlying61 Tryd.sizeOf60 Tryd.zeroValue61 rfl rfl rfl rfl ?_
    refine lx_storea 4 hGF rfl rfl rfl Tryd.sizeOf61 rfl (by rw [List.length_map, List.length_replicate]) rfl rfl ?_
    refine lx_nil ?_
    refine x_ret ?_
    repeat (first | refine kseq_ret ?_ | refine kblk_ret ?_)
    exact kret_own 4 rfl rfl rfl Tryd.isAgg61 Tryd.sizeOf61 rfl (fun w hw => ⟨rfl, hp_below hw⟩)
def IV : List (BitVec 32) := [0x6a09e667#32, 0xbb67ae85#32, 0x3c6ef372#32, 0xa54ff53a#32, 0x510e527f#32, 0x9b05688c#32, 0x1f83d9ab#32, 0x5be0cd19#32]
theorem start_pure  : Pure Tryd.prog Gt 54 [] (.agg (IV.map U32).toArray) := by
  intro w hw
  have hGF : BOk Gt (pl w) := gt_low.plain hw
  refine calls_of_X (G := Gt) Tryd.func54 rfl rfl (Hp (pl w) []) (hp_refl (pl w) trivial rides_true) (good_hp hGF) ?_
  refine xs_plain (E := EE []) ?_
  refine lx_allocr 0 hGF zv61 rfl rfl ?_
  intro b0
  refine lx_nil ?_
  refine xs_plain (E := EE []) ?_
  refine lx_buildr (n := 8) rfl rfl Tryd.underlying61 Tryd.sizeOf60 Tryd.zeroValue61 rfl rfl rfl rfl ?_
  refine lx_storea 0 hGF rfl rfl rfl Tryd.sizeOf61 rfl (by rw [List.length_map, List.length_replicate]) rfl rfl ?_
  refine lx_nil ?_
  refine x_ret ?_
  repeat (first | refine kseq_ret ?_ | refine kblk_ret ?_)
  exact kret_own 0 rfl rfl rfl Tryd.isAgg61 Tryd.sizeOf61 rfl (fun w hw => ⟨rfl, hp_below hw⟩)
def DG (st : List (BitVec 32)) : Nat → List (BitVec 8)
  | 0 => List.replicate 32 0#8
  | k + 1 => ((((DG st k).set (4 * k) ((st.getD k 0 >>> 24).setWidth 8)).set (4 * k + 1) ((st.getD k 0 >>> 16).setWidth 8)).set (4 * k + 2) ((st.getD k 0 >>> 8).setWidth 8)).set (4 * k + 3) ((st.getD k 0).setWidth 8)
theorem DG_len (st : List (BitVec 32)) : ∀ k, (DG st k).length = 32
  | 0 => by simp [DG]
  | k + 1 => by simp [DG, DG_len st k]

theorem digest_pure (st : List (BitVec 32)) (hs : st.length = 8) : Pure Tryd.prog Gt 41 [.agg (st.map U32).toArray] (.agg ((DG st 8).map U8).toArray) := by
  intro w hw
  have hGF : BOk Gt (pl w) := gt_low.plain hw
  refine calls_of_X (G := Gt) Tryd.func41 rfl rfl (Hp (pl w) []) (hp_refl (pl w) trivial rides_true) (good_hp hGF) ?_
  refine xs_plain (E := EE []) ?_
  refine lx_boxr 1 hGF rfl rfl rfl ?_
  intro b1
  refine lx_allocr 2 hGF zv55 rfl rfl ?_
  intro b2
  refine lx_nil ?_
  refine xs_plain (E := EE []) ?_
  refine lx_allocr 3 hGF zv55 rfl rfl ?_
  intro b3
  refine lx_nil ?_
  refine x_seq ?_
  refine xs_plain (E := EE []) ?_
  refine lx_loada 1 rfl rfl Tryd.isAgg61 Tryd.sizeOf61 (by rw [List.length_map, hs]) rfl rfl ?_
  refine lx_move rfl rfl rfl ?_
  refine lx_nil ?_
  refine x_block ?_
  refine x_for (ι := { i : Nat // i ≤ 8 }) (fun x => [(7, I (x.1 : Int)), (2, .pointer (some ⟨b2, 0, none⟩)), (3, .pointer (some ⟨b3, 0, none⟩)), (6, .agg (st.map U32).toArray)]) (fun x => [(3, b3, (DG st x.1).map U8, 55), (2, b2, (List.replicate 32 (0#8)).map U8, 55)]) (fun x => 8 - x.1) ⟨0, by omega⟩ hGF ⟨rfl, rfl, rfl, rfl, trivial⟩ ⟨rfl, rfl, trivial⟩ ?_
  rintro ⟨i, hi⟩
  dsimp only
  refine xs_plain (E := EE []) ?_
  refine lx_bin rfl rfl (fun _ => rfl) (fun _ => bin_lss_i _ _ _) rfl rfl ?_
  refine lx_nil ?_
  refine x_seq ?_
  refine x_if rfl (fun hc => ?_) (fun hc => ?_)
  · simp only [decide_eq_true_eq] at hc
    refine x_skip ?_
    refine x_seq ?_
    refine x_block ?_
    refine xs_plain (E := EE []) ?_
    refine lx_move rfl rfl rfl ?_
    refine lx_idxm U32 0 (i) rfl rfl Tryd.underlying61 Tryd.sizeOf60 Tryd.isAgg60 (by omega) (by omega) (hs) rfl rfl ?_
    refine lx_assign rfl rfl rfl ?_
    refine lx_assign rfl rfl rfl ?_
    refine lx_nil ?_
    refine xs_plain (E := EE []) ?_
    refine lx_move rfl rfl rfl ?_
    refine lx_bin rfl rfl (fun _ => rfl) (fun _ => bin_mul_i _ _ _ (by unfold inI; omega)) rfl rfl ?_
    refine lx_move rfl rfl rfl ?_
    refine lx_bin rfl rfl (fun _ => rfl) (fun _ => bin_shr_u32 _ _ _) rfl rfl ?_
    refine lx_conv rfl rfl (fun _ => conv_u32_u8 Tryd.underlying60 Tryd.underlying5 _) rfl rfl ?_
    refine lx_ia0 ((4 * i)) rfl rfl Tryd.underlying55 Tryd.sizeOf5 (by omega) (by omega) rfl rfl ?_
    refine lx_storem 3 U8 hGF rfl rfl rfl Tryd.sizeOf5 rfl (by simp [DG_len]; omega) rfl ?_
    refine lx_nil ?_
    refine xs_plain (E := EE []) ?_
    refine lx_move rfl rfl rfl ?_
    refine lx_bin rfl rfl (fun _ => rfl) (fun _ => bin_mul_i _ _ _ (by unfold inI; omega)) rfl rfl ?_
    refine lx_bin rfl rfl (fun _ => rfl) (fun _ => bin_add_i _ _ _ (by unfold inI; omega)) rfl rfl ?_
    refine lx_move rfl rfl rfl ?_
    refine lx_bin rfl rfl (fun _ => rfl) (fun _ => bin_shr_u32 _ _ _) rfl rfl ?_
    refine lx_conv rfl rfl (fun _ => conv_u32_u8 Tryd.underlying60 Tryd.underlying5 _) rfl rfl ?_
    refine lx_ia0 (((4 * i) + 1)) rfl rfl Tryd.underlying55 Tryd.sizeOf5 (by omega) (by omega) rfl rfl ?_
    refine lx_storem 3 U8 hGF rfl rfl rfl Tryd.sizeOf5 rfl (by simp [DG_len]; omega) rfl ?_
    refine lx_nil ?_
    refine xs_plain (E := EE []) ?_
    refine lx_move rfl rfl rfl ?_
    refine lx_bin rfl rfl (fun _ => rfl) (fun _ => bin_mul_i _ _ _ (by unfold inI; omega)) rfl rfl ?_
    refine lx_bin rfl rfl (fun _ => rfl) (fun _ => bin_add_i _ _ _ (by unfold inI; omega)) rfl rfl ?_
    refine lx_move rfl rfl rfl ?_
    refine lx_bin rfl rfl (fun _ => rfl) (fun _ => bin_shr_u32 _ _ _) rfl rfl ?_
    refine lx_conv rfl rfl (fun _ => conv_u32_u8 Tryd.underlying60 Tryd.underlying5 _) rfl rfl ?_
    refine lx_ia0 (((4 * i) + 2)) rfl rfl Tryd.underlying55 Tryd.sizeOf5 (by omega) (by omega) rfl rfl ?_
    refine lx_storem 3 U8 hGF rfl rfl rfl Tryd.sizeOf5 rfl (by simp [DG_len]; omega) rfl ?_
    refine lx_nil ?_
    refine x_plain (E := EE []) ?_
    refine lx_move rfl rfl rfl ?_
    refine lx_bin rfl rfl (fun _ => rfl) (fun _ => bin_mul_i _ _ _ (by unfold inI; omega)) rfl rfl ?_
    refine lx_bin rfl rfl (fun _ => rfl) (fun _ => bin_add_i _ _ _ (by unfold inI; omega)) rfl rfl ?_
    refine lx_move rfl rfl rfl ?_
    refine lx_conv rfl rfl (fun _ => conv_u32_u8 Tryd.underlying60 Tryd.underlying5 _) rfl rfl ?_
    refine lx_ia0 (((4 * i) + 3)) rfl rfl Tryd.underlying55 Tryd.sizeOf5 (by omega) (by omega) rfl rfl ?_
    refine lx_storem 3 U8 hGF rfl rfl rfl Tryd.sizeOf5 rfl (by simp [DG_len]; omega) rfl ?_
    refine lx_nil ?_
    refine x_plain (E := EE []) ?_
    refine lx_bin rfl rfl (fun _ => rfl) (fun _ => bin_add_i _ _ _ (by unfold inI; omega)) rfl rfl ?_
    refine lx_move rfl rfl rfl ?_
    refine lx_nil ?_
    refine kseq_n ?_
    exact ⟨rfl, ⟨i + 1, by omega⟩, _, by show 8 - (i + 1) < 8 - i; omega, rfl, ⟨rfl, rfl, rfl, rfl, trivial⟩, ⟨rfl, rfl, trivial⟩⟩
  · obtain rfl : i = 8 := by simp at hc; omega
    refine x_exit ?_
    refine xs_plain (E := EE []) ?_
    refine lx_loada 3 rfl rfl Tryd.isAgg55 Tryd.sizeOf55 (by rw [List.length_map, DG_len]) rfl rfl ?_
    refine lx_storea 2 hGF rfl rfl rfl Tryd.sizeOf55 (by rw [List.length_map, DG_len]) (by rw [List.length_map, List.length_replicate]) (one_u8 _) rfl ?_
    refine lx_nil ?_
    refine x_ret ?_
    repeat (first | refine kseq_ret ?_ | refine kblk_ret ?_)
    exact kret_own 2 rfl rfl rfl Tryd.isAgg55 Tryd.sizeOf55 (by rw [List.length_map, DG_len]) (fun w hw => ⟨rfl, hp_below hw⟩)
end Sh
end Go.Proofs.YtlimfhjjadbjgaaDoor

namespace Go.Proofs.YtlimfhjjadbjgaaDoor
open Go.RowKit
set_option maxRecDepth 100000
namespace Sh
theorem info5 : (Tryd.prog.info? 5).map (·.size) = some 1 := by kernel_rfl
/-- The block with the text's rest and the mark. -/
def e1 (rs : List (BitVec 8)) : List (BitVec 8) := (rs ++ List.replicate (64 - rs.length) 0#8).set rs.length 128#8
theorem e1_len (rs : List (BitVec 8)) (h : rs.length ≤ 64) : (e1 rs).length = 64 := by simp [e1]; omega
/-- The bits told at a block's end. -/
def LB (bl : List (BitVec 8)) (n : BitVec 64) : Nat → List (BitVec 8)
  | 0 => bl
  | k + 1 => (LB bl n k).set (56 + k) (((8#64 * n) >>> (56 - 8 * (k : Int)).toNat).setWidth 8)
theorem LB_len (bl : List (BitVec 8)) (n : BitVec 64) : ∀ k, (LB bl n k).length = bl.length
  | 0 => rfl
  | k + 1 => by simp [LB, LB_len bl n k]
theorem LBe_len (rs : List (BitVec 8)) (n : BitVec 64) (h : rs.length ≤ 64) (k : Nat) : (LB (e1 rs) n k).length = 64 := by rw [LB_len, e1_len rs h]
theorem LBz_len (n : BitVec 64) (k : Nat) : (LB (List.replicate 64 0#8) n k).length = 64 := by rw [LB_len]; simp
/-- What the iterator over the last blocks reads. -/
def Rd37 (br bn : Nat) (a : Option Addr) (cap : Nat) (rs : List (BitVec 8)) (n : BitVec 64) : Cls := fun W => W.cell? ⟨br, 0, none⟩ = some (.slice a rs.length cap) ∧ W.cell? ⟨bn, 0, none⟩ = some (U64 n) ∧ BytesAt W a rs
def enc (bl : List (BitVec 8)) : List Value := [.agg (bl.map U8).toArray]
theorem drop_yof {J : (Nat → Prop) → World → Prop} (h : Rides J) {L : Hl} {w : World} (hj : J (fun b => Yof L b ∨ False) w) : J (fun _ => False) w := h.less _ _ _ (fun _ h => h.elim) hj

theorem end_short (br bn : Nat) (a : Option Addr) (cap : Nat) (rs : List (BitVec 8)) (n : BitVec 64) (h : rs.length < 56) : SeqOk Tryd.prog Gt 58 [.pointer (some ⟨br, 0, none⟩), .pointer (some ⟨bn, 0, none⟩)] [enc (LB (e1 rs) n 8)] (Rd37 br bn a cap rs n) := by
  intro l J Jx hJ hJx hRd hGx hY w hj
  have okJ : ∀ k, BOk Gt (Bi w (fun Y => J Y k)) := fun k => ⟨fun _ _ _ h => (hRd _ _ _ h.rid).1, hJ k⟩
  have okX : ∀ k, BOk Gt (Bi w (fun Y => Jx Y k)) := fun k => ⟨fun _ _ _ h => hGx _ _ _ h.rid, hJx k⟩
  have c1 : ∀ k L w', Hp (Bi w (fun Y => J Y k)) L w' → Rd37 br bn a cap rs n w' := fun k L w' h => (hRd _ _ _ h.rid).2
  refine calls_of_X (G := Gt) Tryd.func58 rfl rfl (Hp (Bi w (fun Y => J Y 0)) []) (hp_refl (Bi w _) hj (hJ 0)) (good_hp (okJ 0)) ?_
  refine xs_plain (E := EE []) ?_
  refine lx_allocr 4 (okJ _) zv74 rfl rfl ?_
  intro b4
  refine lx_nil ?_
  refine xs_drawn (E := EE []) mixed (by kernel_rfl) (by kernel_rfl) (by kernel_rfl) ?_
  refine lx_slarr1 (l := 0) (h' := 64) rfl Tryd.underlying74 Tryd.sizeOf5 rfl rfl (by omega) (by omega) rfl rfl ?_
  refine lx_load rfl Tryd.isAgg22 (fun w h => (c1 _ _ w h).1) rfl rfl ?_
  refine lx_copys 4 (okJ _) rfl rfl rfl Tryd.underlying22 info5 (by show rs.length = Nat.min rs.length 64; exact (Nat.min_eq_left (by omega)).symm) (fun w h => (c1 _ _ w h).2.2) (by simp; omega) rfl rfl ?_
  rw [lay_pad rs 64 (by omega)]
  refine lx_nil ?_
  refine xs_plain (E := EE []) ?_
  refine lx_load rfl Tryd.isAgg22 (fun w h => (c1 _ _ w h).1) rfl rfl ?_
  refine lx_len rfl (fun _ => len_slice Tryd.underlying22 _ _ _ _) rfl rfl ?_
  refine lx_ia0 (rs.length) rfl rfl Tryd.underlying74 Tryd.sizeOf5 (by omega) (by omega) rfl rfl ?_
  refine lx_storem 4 U8 (okJ _) rfl rfl rfl Tryd.sizeOf5 rfl (by simp; omega) rfl ?_
  refine lx_nil ?_
  refine x_seq ?_
  refine xs_plain (E := EE []) ?_
  refine lx_load rfl Tryd.isAgg22 (fun w h => (c1 _ _ w h).1) rfl rfl ?_
  refine lx_len rfl (fun _ => len_slice Tryd.underlying22 _ _ _ _) rfl rfl ?_
  refine lx_bin rfl rfl (fun _ => rfl) (fun _ => bin_geq_i _ _ _) rfl rfl ?_
  refine lx_nil ?_
  refine x_false (by show some (Value.bool (decide ((rs.length : Int) ≥ 56))) = _; rw [decide_eq_false (by omega)]) ?_
  refine x_skip ?_
  refine xs_plain (E := EE []) ?_
  refine lx_load rfl Tryd.isAgg41 (fun w h => (c1 _ _ w h).2.1) rfl rfl ?_
  refine lx_bin rfl rfl (fun _ => rfl) (fun _ => bin_mul_u64 _ _ _) rfl rfl ?_
  refine lx_assign rfl rfl rfl ?_
  refine lx_nil ?_
  refine x_seq ?_
  refine xs_plain (E := EE []) ?_
  refine lx_move rfl rfl rfl ?_
  refine lx_nil ?_
  refine x_block ?_
  refine x_for (ι := { i : Nat // i ≤ 8 }) (fun x => [(23, I (x.1 : Int)), (0, .func (.yield l) #[] #[]), (4, .pointer (some ⟨b4, 0, none⟩)), (5, U64 (8#64 * n))]) (fun x => [(4, b4, (LB (e1 rs) n x.1).map U8, 74)]) (fun x => 8 - x.1) ⟨0, by omega⟩ (okJ _) ⟨rfl, rfl, rfl, rfl, trivial⟩ ⟨rfl, trivial⟩ ?_
  rintro ⟨i, hi⟩
  dsimp only
  refine xs_plain (E := EE []) ?_
  refine lx_bin rfl rfl (fun _ => rfl) (fun _ => bin_lss_i _ _ _) rfl rfl ?_
  refine lx_nil ?_
  refine x_seq ?_
  refine x_if rfl (fun hc => ?_) (fun hc => ?_)
  · simp only [decide_eq_true_eq] at hc
    refine x_skip ?_
    refine x_seq ?_
    refine x_block ?_
    refine xs_plain (E := EE []) ?_
    refine lx_move rfl rfl rfl ?_
    refine lx_assign rfl rfl rfl ?_
    refine lx_nil ?_
    refine x_plain (E := EE []) ?_
    refine lx_move rfl rfl rfl ?_
    refine lx_bin rfl rfl (fun _ => rfl) (fun _ => bin_add_i _ _ _ (by unfold inI; omega)) rfl rfl ?_
    refine lx_move rfl rfl rfl ?_
    refine lx_move rfl rfl rfl ?_
    refine lx_bin rfl rfl (fun _ => rfl) (fun _ => bin_mul_i _ _ _ (by unfold inI; omega)) rfl rfl ?_
    refine lx_bin rfl rfl (fun _ => rfl) (fun _ => bin_sub_i _ _ _ (by unfold inI; omega)) rfl rfl ?_
    refine lx_bin rfl rfl (fun _ => rfl) (fun _ => bin_shr_i_u64 _ _ _ (by omega)) rfl rfl ?_
    refine lx_conv rfl rfl (fun _ => conv_u64_u8 Tryd.underlying41 Tryd.underlying5 _) rfl rfl ?_
    refine lx_ia0 ((56 + i)) rfl rfl Tryd.underlying74 Tryd.sizeOf5 (by omega) (by omega) rfl rfl ?_
    refine lx_storem 4 U8 (okJ _) rfl rfl rfl Tryd.sizeOf5 rfl (by rw [LBe_len rs n (by omega)]; omega) rfl ?_
    refine lx_nil ?_
    refine x_plain (E := EE []) ?_
    refine lx_bin rfl rfl (fun _ => rfl) (fun _ => bin_add_i _ _ _ (by unfold inI; omega)) rfl rfl ?_
    refine lx_move rfl rfl rfl ?_
    refine lx_nil ?_
    refine kseq_n ?_
    exact ⟨rfl, ⟨i + 1, by omega⟩, _, by show 8 - (i + 1) < 8 - i; omega, rfl, ⟨rfl, rfl, rfl, rfl, trivial⟩, ⟨rfl, trivial⟩⟩
  · obtain rfl : i = 8 := by simp at hc; omega
    refine x_exit ?_
    refine x_plain (E := EE []) ?_
    refine lx_move rfl rfl rfl ?_
    refine lx_loada 4 rfl rfl Tryd.isAgg74 Tryd.sizeOf74 (by rw [List.length_map, LBe_len rs n (by omega)]) rfl rfl ?_
    refine lx_yield (hY.b (k := 0) rfl w) (okJ _) (okX _) rfl rfl rfl rfl rfl ?_ ?_
    · skip
      refine lx_nil ?_
      exact kend_none rfl (fun w hw => ⟨⟨_, rfl⟩, .inl (drop_yof (hJ _) hw.rid)⟩)
    · skip
      refine lx_nil ?_
      exact kend_none rfl (fun w hw => ⟨⟨_, rfl⟩, .inr ⟨_, drop_yof (hJx _) hw.rid⟩⟩)
theorem end_long (br bn : Nat) (a : Option Addr) (cap : Nat) (rs : List (BitVec 8)) (n : BitVec 64) (h : 56 ≤ rs.length) (h2 : rs.length < 64) : SeqOk Tryd.prog Gt 58 [.pointer (some ⟨br, 0, none⟩), .pointer (some ⟨bn, 0, none⟩)] [enc (e1 rs), enc (LB (List.replicate 64 0#8) n 8)] (Rd37 br bn a cap rs n) := by
  intro l J Jx hJ hJx hRd hGx hY w hj
  have okJ : ∀ k, BOk Gt (Bi w (fun Y => J Y k)) := fun k => ⟨fun _ _ _ h => (hRd _ _ _ h.rid).1, hJ k⟩
  have okX : ∀ k, BOk Gt (Bi w (fun Y => Jx Y k)) := fun k => ⟨fun _ _ _ h => hGx _ _ _ h.rid, hJx k⟩
  have c1 : ∀ k L w', Hp (Bi w (fun Y => J Y k)) L w' → Rd37 br bn a cap rs n w' := fun k L w' h => (hRd _ _ _ h.rid).2
  refine calls_of_X (G := Gt) Tryd.func58 rfl rfl (Hp (Bi w (fun Y => J Y 0)) []) (hp_refl (Bi w _) hj (hJ 0)) (good_hp (okJ 0)) ?_
  refine xs_plain (E := EE []) ?_
  refine lx_allocr 4 (okJ _) zv74 rfl rfl ?_
  intro b4
  refine lx_nil ?_
  refine xs_drawn (E := EE []) mixed (by kernel_rfl) (by kernel_rfl) (by kernel_rfl) ?_
  refine lx_slarr1 (l := 0) (h' := 64) rfl Tryd.underlying74 Tryd.sizeOf5 rfl rfl (by omega) (by omega) rfl rfl ?_
  refine lx_load rfl Tryd.isAgg22 (fun w h => (c1 _ _ w h).1) rfl rfl ?_
  refine lx_copys 4 (okJ _) rfl rfl rfl Tryd.underlying22 info5 (by show rs.length = Nat.min rs.length 64; exact (Nat.min_eq_left (by omega)).symm) (fun w h => (c1 _ _ w h).2.2) (by simp; omega) rfl rfl ?_
  rw [lay_pad rs 64 (by omega)]
  refine lx_nil ?_
  refine xs_plain (E := EE []) ?_
  refine lx_load rfl Tryd.isAgg22 (fun w h => (c1 _ _ w h).1) rfl rfl ?_
  refine lx_len rfl (fun _ => len_slice Tryd.underlying22 _ _ _ _) rfl rfl ?_
  refine lx_ia0 (rs.length) rfl rfl Tryd.underlying74 Tryd.sizeOf5 (by omega) (by omega) rfl rfl ?_
  refine lx_storem 4 U8 (okJ _) rfl rfl rfl Tryd.sizeOf5 rfl (by simp; omega) rfl ?_
  refine lx_nil ?_
  refine x_seq ?_
  refine xs_plain (E := EE []) ?_
  refine lx_load rfl Tryd.isAgg22 (fun w h => (c1 _ _ w h).1) rfl rfl ?_
  refine lx_len rfl (fun _ => len_slice Tryd.underlying22 _ _ _ _) rfl rfl ?_
  refine lx_bin rfl rfl (fun _ => rfl) (fun _ => bin_geq_i _ _ _) rfl rfl ?_
  refine lx_nil ?_
  refine x_true (by show some (Value.bool (decide ((rs.length : Int) ≥ 56))) = _; rw [decide_eq_true (by omega)]) ?_
  refine x_seq ?_
  refine xs_plain (E := EE []) ?_
  refine lx_move rfl rfl rfl ?_
  refine lx_loada 4 rfl rfl Tryd.isAgg74 Tryd.sizeOf74 (by simp; omega) rfl rfl ?_
  refine lx_yield (hY.b (k := 0) rfl w) (okJ _) (okX _) rfl rfl rfl rfl rfl ?_ ?_
  · skip
    refine lx_un rfl (fun _ => un_not _) rfl rfl ?_
    refine lx_nil ?_
    refine x_false rfl ?_
    refine x_skip ?_
    refine x_plain (E := EE []) ?_
    refine lx_buildz zv74 Tryd.underlying74 Tryd.sizeOf5 rfl rfl ?_
    refine lx_storea 4 (okJ _) rfl rfl rfl Tryd.sizeOf74 (by rw [List.length_map, List.length_replicate]) (by simp; omega) (one_u8 _) rfl ?_
    refine lx_nil ?_
    refine xs_plain (E := EE []) ?_
    refine lx_load rfl Tryd.isAgg41 (fun w h => (c1 _ _ w h).2.1) rfl rfl ?_
    refine lx_bin rfl rfl (fun _ => rfl) (fun _ => bin_mul_u64 _ _ _) rfl rfl ?_
    refine lx_assign rfl rfl rfl ?_
    refine lx_nil ?_
    refine x_seq ?_
    refine xs_plain (E := EE []) ?_
    refine lx_move rfl rfl rfl ?_
    refine lx_nil ?_
    refine x_block ?_
    refine x_for (ι := { i : Nat // i ≤ 8 }) (fun x => [(23, I (x.1 : Int)), (0, .func (.yield l) #[] #[]), (4, .pointer (some ⟨b4, 0, none⟩)), (5, U64 (8#64 * n))]) (fun x => [(4, b4, (LB (List.replicate 64 0#8) n x.1).map U8, 74)]) (fun x => 8 - x.1) ⟨0, by omega⟩ (okJ _) ⟨rfl, rfl, rfl, rfl, trivial⟩ ⟨rfl, trivial⟩ ?_
    rintro ⟨i, hi⟩
    dsimp only
    refine xs_plain (E := EE []) ?_
    refine lx_bin rfl rfl (fun _ => rfl) (fun _ => bin_lss_i _ _ _) rfl rfl ?_
    refine lx_nil ?_
    refine x_seq ?_
    refine x_if rfl (fun hc => ?_) (fun hc => ?_)
    · simp only [decide_eq_true_eq] at hc
      refine x_skip ?_
      refine x_seq ?_
      refine x_block ?_
      refine xs_plain (E := EE []) ?_
      refine lx_move rfl rfl rfl ?_
      refine lx_assign rfl rfl rfl ?_
      refine lx_nil ?_
      refine x_plain (E := EE []) ?_
      refine lx_move rfl rfl rfl ?_
      refine lx_bin rfl rfl (fun _ => rfl) (fun _ => bin_add_i _ _ _ (by unfold inI; omega)) rfl rfl ?_
      refine lx_move rfl rfl rfl ?_
      refine lx_move rfl rfl rfl ?_
      refine lx_bin rfl rfl (fun _ => rfl) (fun _ => bin_mul_i _ _ _ (by unfold inI; omega)) rfl rfl ?_
      refine lx_bin rfl rfl (fun _ => rfl) (fun _ => bin_sub_i _ _ _ (by unfold inI; omega)) rfl rfl ?_
      refine lx_bin rfl rfl (fun _ => rfl) (fun _ => bin_shr_i_u64 _ _ _ (by omega)) rfl rfl ?_
      refine lx_conv rfl rfl (fun _ => conv_u64_u8 Tryd.underlying41 Tryd.underlying5 _) rfl rfl ?_
      refine lx_ia0 ((56 + i)) rfl rfl Tryd.underlying74 Tryd.sizeOf5 (by omega) (by omega) rfl rfl ?_
      refine lx_storem 4 U8 (okJ _) rfl rfl rfl Tryd.sizeOf5 rfl (by rw [LBz_len]; omega) rfl ?_
      refine lx_nil ?_
      refine x_plain (E := EE []) ?_
      refine lx_bin rfl rfl (fun _ => rfl) (fun _ => bin_add_i _ _ _ (by unfold inI; omega)) rfl rfl ?_
      refine lx_move rfl rfl rfl ?_
      refine lx_nil ?_
      refine kseq_n ?_
      exact ⟨rfl, ⟨i + 1, by omega⟩, _, by show 8 - (i + 1) < 8 - i; omega, rfl, ⟨rfl, rfl, rfl, rfl, trivial⟩, ⟨rfl, trivial⟩⟩
    · obtain rfl : i = 8 := by simp at hc; omega
      refine x_exit ?_
      refine x_plain (E := EE []) ?_
      refine lx_move rfl rfl rfl ?_
      refine lx_loada 4 rfl rfl Tryd.isAgg74 Tryd.sizeOf74 (by rw [List.length_map, LBz_len]) rfl rfl ?_
      refine lx_yield (hY.b (k := 1) rfl w) (okJ _) (okX _) rfl rfl rfl rfl rfl ?_ ?_
      · skip
        refine lx_nil ?_
        exact kend_none rfl (fun w hw => ⟨⟨_, rfl⟩, .inl (drop_yof (hJ _) hw.rid)⟩)
      · skip
        refine lx_nil ?_
        exact kend_none rfl (fun w hw => ⟨⟨_, rfl⟩, .inr ⟨_, drop_yof (hJx _) hw.rid⟩⟩)
  · skip
    refine lx_un rfl (fun _ => un_not _) rfl rfl ?_
    refine lx_nil ?_
    refine x_true rfl ?_
    refine x_ret ?_
    repeat (first | refine kseq_ret ?_ | refine kblk_ret ?_)
    exact kret_none rfl (fun w hw => ⟨⟨_, rfl⟩, .inr ⟨_, drop_yof (hJx _) hw.rid⟩⟩)
end Sh
end Go.Proofs.YtlimfhjjadbjgaaDoor

namespace Go.Proofs.YtlimfhjjadbjgaaDoor
open Go.RowKit
set_option maxRecDepth 100000
namespace Sh
/-- The last blocks. -/
def eblocks (rs : List (BitVec 8)) (n : BitVec 64) : List (List (BitVec 8)) := if rs.length < 56 then [LB (e1 rs) n 8] else [e1 rs, LB (List.replicate 64 0#8) n 8]
theorem eblocks_len (rs : List (BitVec 8)) (n : BitVec 64) (h : rs.length < 64) : ∀ bl ∈ eblocks rs n, bl.length = 64 := by
  unfold eblocks
  split
  · intro bl hbl
    rcases List.mem_singleton.1 hbl with rfl
    exact LBe_len rs n (by omega) 8
  · intro bl hbl
    rcases List.mem_cons.1 hbl with rfl | hbl
    · exact e1_len rs (by omega)
    · rcases List.mem_singleton.1 hbl with rfl
      exact LBz_len n 8
theorem end_seq (br bn : Nat) (a : Option Addr) (cap : Nat) (rs : List (BitVec 8)) (n : BitVec 64) (h : rs.length < 64) : SeqOk Tryd.prog Gt 58 [.pointer (some ⟨br, 0, none⟩), .pointer (some ⟨bn, 0, none⟩)] ((eblocks rs n).map enc) (Rd37 br bn a cap rs n) := by
  unfold eblocks
  split
  · exact end_short br bn a cap rs n (by assumption)
  · exact end_long br bn a cap rs n (by omega) h
def fulls (bs : List (BitVec 8)) : List (List (BitVec 8)) := (List.range (bs.length / 64)).map fun k => (bs.drop (64 * k)).take 64
/-- A text's blocks. -/
def blks (bs : List (BitVec 8)) : List (List (BitVec 8)) := fulls bs ++ eblocks (bs.drop (64 * (bs.length / 64))) (BitVec.ofInt 64 bs.length)
theorem fulls_len (bs : List (BitVec 8)) : (fulls bs).length = bs.length / 64 := by simp [fulls]
theorem ending_calls (sv : Value) (n : BitVec 64) (hs : sv.cells = #[sv]) (w : World) (hw : Gt w) : Calls Tryd.prog 43 [sv, U64 n].toArray w (fun e w' => ∃ b2 b3, e = .returned (.func (.func 58) #[] #[.pointer (some ⟨b2, 0, none⟩), .pointer (some ⟨b3, 0, none⟩)]) ∧ Grow w w' ∧ w.heap.size ≤ b2 ∧ w.heap.size ≤ b3 ∧ b2 ≠ b3 ∧ OwnB w' b2 [sv] 22 ∧ OwnB w' b3 [U64 n] 41) := by
  have hGF : BOk Gt (pl w) := gt_low.plain hw
  refine calls_of_X (G := Gt) Tryd.func43 rfl rfl (Hp (pl w) []) (hp_refl (pl w) trivial rides_true) (good_hp hGF) ?_
  refine xs_plain (E := EE []) ?_
  refine lx_box 2 hGF rfl rfl rfl ?_
  intro b2
  refine lx_box 3 hGF rfl rfl rfl ?_
  intro b3
  refine lx_assign rfl rfl rfl ?_
  refine lx_nil ?_
  refine xs_plain (E := EE []) ?_
  refine lx_func rfl rfl rfl rfl ?_
  refine lx_assign rfl rfl rfl ?_
  refine lx_nil ?_
  refine x_ret ?_
  repeat (first | refine kseq_ret ?_ | refine kblk_ret ?_)
  exact kret_tmp rfl rfl (fun w hw => ⟨b2, b3, rfl, hp_below hw, (hw.own 2 b2 _ _ rfl).2.elim id False.elim, (hw.own 3 b3 _ _ rfl).2.elim id False.elim, (fun e => by subst e; exact absurd (hw.inj 2 3 _ _ _ _ _ rfl rfl) (by decide)), (by have := (hw.own 2 b2 _ _ rfl).1; rw [hs] at this; exact this), (hw.own 3 b3 _ _ rfl).1⟩)
theorem inj_two {n m : Nat} {b1 b2 : Nat} {c1 c2 : List Value} {t1 t2 : TypeId} (hne : b1 ≠ b2) : ∀ i j b c t c' t', lkB [(n, b1, c1, t1), (m, b2, c2, t2)] i = some (b, c, t) → lkB [(n, b1, c1, t1), (m, b2, c2, t2)] j = some (b, c', t') → i = j := by
  intro i j b c t c' t' h1 h2
  rcases lkB_cons h1 with ⟨e1, x1⟩ | ⟨_, h1⟩ <;> rcases lkB_cons h2 with ⟨e2, x2⟩ | ⟨_, h2⟩
  · exact e1.trans e2.symm
  · rcases lkB_cons h2 with ⟨_, x2⟩ | ⟨_, h2⟩
    · cases x1; cases x2; exact (hne rfl).elim
    · cases h2
  · rcases lkB_cons h1 with ⟨_, x1⟩ | ⟨_, h1⟩
    · cases x1; cases x2; exact (hne rfl).elim
    · cases h1
  · rcases lkB_cons h1 with ⟨e1, x1⟩ | ⟨_, h1⟩
    · rcases lkB_cons h2 with ⟨e2, x2⟩ | ⟨_, h2⟩
      · exact e1.trans e2.symm
      · cases h2
    · cases h1
end Sh
end Go.Proofs.YtlimfhjjadbjgaaDoor

namespace Go.Proofs.YtlimfhjjadbjgaaDoor
open Go.RowKit
set_option maxRecDepth 100000
namespace Sh
def mixK (st : List (BitVec 32)) (bls : List (List (BitVec 8))) : Nat → List (BitVec 32)
  | 0 => st
  | k + 1 => comp (mixK st bls k) (bls.getD k [])
theorem comp_len (st : List (BitVec 32)) (bl : List (BitVec 8)) : (comp st bl).length = 8 := rfl
theorem mixK_len (st : List (BitVec 32)) (bls : List (List (BitVec 8))) (h : st.length = 8) : ∀ k, (mixK st bls k).length = 8
  | 0 => h
  | _ + 1 => comp_len _ _

theorem mix_calls (st : List (BitVec 32)) (hs : st.length = 8) (gf : Nat) (caps : List Value) (bls : List (List (BitVec 8))) (hb : ∀ bl ∈ bls, bl.length = 64) (Rd : Cls) (he : Enters Tryd.prog gf) (hseq : SeqOk Tryd.prog Gt gf caps (bls.map enc) Rd) (w : World) (hw : Gt w) (hRs : ∀ w', Grow w w' → Rd w') :
    Calls Tryd.prog 42 [.agg (st.map U32).toArray, .func (.func gf) #[] caps.toArray].toArray w (fun e w' => e = .returned (.agg ((mixK st bls bls.length).map U32).toArray) ∧ Grow w w') := by
  have hGF : BOk Gt (pl w) := gt_low.plain hw
  refine calls_of_XM (G := Gt) Tryd.func42 rfl rfl (Hp (pl w) []) (hp_refl (pl w) trivial rides_true) (good_hp hGF) ?_
  refine xs_plain (E := EE []) ?_
  refine lx_boxr 2 hGF rfl rfl rfl ?_
  intro b2
  refine lx_allocr 4 hGF zv61 rfl rfl ?_
  intro b4
  refine lx_nil ?_
  refine x_seq ?_
  refine xs_plain (E := EE []) ?_
  refine lx_move rfl rfl rfl ?_
  refine lx_nil ?_
  refine x_block ?_
  refine x_range (fun _ => pl w) (fun _ _ => pl w) (fun _ => hGF) (fun _ _ => hGF) (fun _ => rfl) (fun _ _ => rfl) rfl rfl he hseq (by simp [enc]) rfl (fun k => [(2, b2, (mixK st bls k).map U32, 61), (4, b4, (List.replicate 8 0#32).map U32, 61)]) (fun _ _ _ => False) ⟨rfl, rfl, trivial⟩ (fun _ _ w' h => hRs w' (h.below (fun _ h => h))) ?_ ?_ (fun _ _ _ _ _ h => h.elim)
  · intro k x hx R hR
    obtain ⟨hk, rfl⟩ : k < bls.length ∧ enc (bls.getD k []) = x := by
      rw [List.getElem?_map] at hx
      rcases Nat.lt_or_ge k bls.length with h | h
      · simp [h] at hx; exact ⟨h, by simpa [h] using hx⟩
      · simp [h] at hx
    have hb64 : (bls.getD k []).length = 64 := hb _ (by rw [show bls.getD k [] = bls[k] from by simp [hk]]; exact List.getElem_mem hk)
    refine x_plain (E := EE []) ?_
    refine lx_allocr 5 (hR (pl w) rfl hGF).1 zv74 rfl rfl ?_
    intro b5
    refine lx_storea 5 (hR (pl w) rfl hGF).1 rfl rfl rfl Tryd.sizeOf74 (by rw [List.length_map, hb64]) (by rw [List.length_map, List.length_replicate]) (one_u8 _) rfl ?_
    refine lx_nil ?_
    refine ⟨rfl, _, rfl, ?_⟩
    refine x_block ?_
    refine x_plain (E := EE []) ?_
    refine lx_loada 2 rfl rfl Tryd.isAgg61 Tryd.sizeOf61 (by rw [List.length_map, mixK_len st bls hs]) rfl rfl ?_
    refine lx_loada 5 rfl rfl Tryd.isAgg74 Tryd.sizeOf74 (by rw [List.length_map, hb64]) rfl rfl ?_
    refine lx_call rfl rfl ent40 (comp_pure _ _ (mixK_len _ _ hs _) hb64) rfl rfl ?_
    refine lx_storea 2 (hR (pl w) rfl hGF).2.1 rfl rfl rfl Tryd.sizeOf61 (by rw [List.length_map, comp_len]) (by rw [List.length_map, mixK_len st bls hs]) (one_u32 _) rfl ?_
    refine lx_nil ?_
    exact ⟨_, rfl, ⟨rfl, rfl, trivial⟩⟩
  · intro D hD
    refine xs_plain (E := EE []) ?_
    refine lx_loada 2 rfl rfl Tryd.isAgg61 Tryd.sizeOf61 (by rw [List.length_map, mixK_len st bls hs]) rfl rfl ?_
    refine lx_storea 4 hD rfl rfl rfl Tryd.sizeOf61 (by rw [List.length_map, mixK_len st bls hs]) (by rw [List.length_map, List.length_replicate]) (one_u32 _) rfl ?_
    refine lx_nil ?_
    refine x_ret ?_
    repeat (first | refine kseq_ret ?_ | refine kblk_ret ?_)
    refine kretM_1 (.inl rfl) rides_true (kret_own 4 rfl rfl rfl Tryd.isAgg61 Tryd.sizeOf61 (by rw [List.length_map, mixK_len st bls hs]) (fun w hw => ⟨?_, hp_below hw⟩))
    rw [List.length_map]
/-- SHA-256. -/
def SHA (bs : List (BitVec 8)) : List (BitVec 8) := DG (mixK IV (blks bs) (blks bs).length) 8
theorem SHA_len (bs : List (BitVec 8)) : (SHA bs).length = 32 := DG_len _ 8
theorem inj_one {n : Nat} {b1 : Nat} {c1 : List Value} {t1 : TypeId} : ∀ i j b c t c' t', lkB [(n, b1, c1, t1)] i = some (b, c, t) → lkB [(n, b1, c1, t1)] j = some (b, c', t') → i = j := by
  intro i j b c t c' t' h1 h2
  rcases lkB_cons h1 with ⟨e1, x1⟩ | ⟨_, h1⟩
  · rcases lkB_cons h2 with ⟨e2, x2⟩ | ⟨_, h2⟩
    · exact e1.trans e2.symm
    · cases h2
  · cases h1
end Sh
end Go.Proofs.YtlimfhjjadbjgaaDoor
