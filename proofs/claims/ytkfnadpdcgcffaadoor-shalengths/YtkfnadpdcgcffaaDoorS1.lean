/-
  The walks of package sha's small functions.
-/
import Derived.Test.YtkfnadpdcgcffaaDoorE8
import Derived.Test.YtkfnadpdcgcffaaDoorRows
namespace Go.Proofs.YtkfnadpdcgcffaaDoor
open Go.RowKit
set_option maxRecDepth 100000
/-- The constants of the rounds. -/
def KW : List (BitVec 32) := [0x428a2f98#32, 0x71374491#32, 0xb5c0fbcf#32, 0xe9b5dba5#32, 0x3956c25b#32, 0x59f111f1#32, 0x923f82a4#32, 0xab1c5ed5#32, 0xd807aa98#32, 0x12835b01#32, 0x243185be#32, 0x550c7dc3#32, 0x72be5d74#32, 0x80deb1fe#32, 0x9bdc06a7#32, 0xc19bf174#32, 0xe49b69c1#32, 0xefbe4786#32, 0x0fc19dc6#32, 0x240ca1cc#32, 0x2de92c6f#32, 0x4a7484aa#32, 0x5cb0a9dc#32, 0x76f988da#32, 0x983e5152#32, 0xa831c66d#32, 0xb00327c8#32, 0xbf597fc7#32, 0xc6e00bf3#32, 0xd5a79147#32, 0x06ca6351#32, 0x14292967#32, 0x27b70a85#32, 0x2e1b2138#32, 0x4d2c6dfc#32, 0x53380d13#32, 0x650a7354#32, 0x766a0abb#32, 0x81c2c92e#32, 0x92722c85#32, 0xa2bfe8a1#32, 0xa81a664b#32, 0xc24b8b70#32, 0xc76c51a3#32, 0xd192e819#32, 0xd6990624#32, 0xf40e3585#32, 0x106aa070#32, 0x19a4c116#32, 0x1e376c08#32, 0x2748774c#32, 0x34b0bcb5#32, 0x391c0cb3#32, 0x4ed8aa4a#32, 0x5b9cca4f#32, 0x682e6ff3#32, 0x748f82ee#32, 0x78a5636f#32, 0x84c87814#32, 0x8cc70208#32, 0x90befffa#32, 0xa4506ceb#32, 0xbef9a3f7#32, 0xc67178f2#32]
/-- The package-level variable reads as the table. -/
def Gt : Cls := fun w => w.rangeAt 0 0 (KW.map U32)
theorem gt_low : GLow Gt 1 where
  size := fun w h => by
    have := block_lt_of_cell (h 0 _ (by rfl : (KW.map U32)[0]? = some (U32 0x428a2f98#32)))
    exact this
  same := fun w w' hk h j v hv => by
    rw [World.cell?_of_block (w := w) (hk 0 (by omega))]
    exact h j v hv
theorem mixed : Tryd.prog.follows .mixedOrders = true := by kernel_rfl

theorem ent10 : Enters Tryd.prog 10 := fun _ _ => by kernel_rfl
theorem ent12 : Enters Tryd.prog 12 := fun _ _ => by kernel_rfl
theorem ent14 : Enters Tryd.prog 14 := fun _ _ => by kernel_rfl
theorem ent17 : Enters Tryd.prog 17 := fun _ _ => by kernel_rfl
theorem ent18 : Enters Tryd.prog 18 := fun _ _ => by kernel_rfl
theorem ent19 : Enters Tryd.prog 19 := fun _ _ => by kernel_rfl
theorem ent20 : Enters Tryd.prog 20 := fun _ _ => by kernel_rfl
theorem ent21 : Enters Tryd.prog 21 := fun _ _ => by kernel_rfl
theorem ent22 : Enters Tryd.prog 22 := fun _ _ => by kernel_rfl
theorem ent23 : Enters Tryd.prog 23 := fun _ _ => by kernel_rfl
theorem ent24 : Enters Tryd.prog 24 := fun _ _ => by kernel_rfl
theorem ent25 : Enters Tryd.prog 25 := fun _ _ => by kernel_rfl
theorem ent26 : Enters Tryd.prog 26 := fun _ _ => by kernel_rfl
theorem ent27 : Enters Tryd.prog 27 := fun _ _ => by kernel_rfl
theorem ent28 : Enters Tryd.prog 28 := fun _ _ => by kernel_rfl
theorem ent29 : Enters Tryd.prog 29 := fun _ _ => by kernel_rfl
theorem ent30 : Enters Tryd.prog 30 := fun _ _ => by kernel_rfl
theorem ent31 : Enters Tryd.prog 31 := fun _ _ => by kernel_rfl
theorem ent32 : Enters Tryd.prog 32 := fun _ _ => by kernel_rfl
theorem ent33 : Enters Tryd.prog 33 := fun _ _ => by kernel_rfl
theorem ent34 : Enters Tryd.prog 34 := fun _ _ => by kernel_rfl
theorem ent35 : Enters Tryd.prog 35 := fun _ _ => by kernel_rfl
theorem ent36 : Enters Tryd.prog 36 := fun _ _ => by kernel_rfl
theorem ent37 : Enters Tryd.prog 37 := fun _ _ => by kernel_rfl
theorem ent38 : Enters Tryd.prog 38 := fun _ _ => by kernel_rfl
theorem ent39 : Enters Tryd.prog 39 := fun _ _ => by kernel_rfl
theorem ent40 : Enters Tryd.prog 40 := fun _ _ => by kernel_rfl
theorem ent13 : Enters Tryd.prog 13 := fun _ _ => by kernel_rfl
theorem ent15 : Enters Tryd.prog 15 := fun _ _ => by kernel_rfl
theorem ent16 : Enters Tryd.prog 16 := fun _ _ => by kernel_rfl
theorem ent8 : Enters Tryd.prog 8 := fun _ _ => by kernel_rfl
theorem ent9 : Enters Tryd.prog 9 := fun _ _ => by kernel_rfl
theorem ent11 : Enters Tryd.prog 11 := fun _ _ => by kernel_rfl
theorem zv51 (w : World) : (zeroValue 51).run Tryd.prog w = .ok (.agg ((List.replicate 64 (0#32)).map U32).toArray) w := (Tryd.zeroValue51 w).trans (by rfl)
theorem zv37 (w : World) : (zeroValue 37).run Tryd.prog w = .ok (.agg ((List.replicate 8 (0#32)).map U32).toArray) w := (Tryd.zeroValue37 w).trans (by rfl)
theorem zv38 (w : World) : (zeroValue 38).run Tryd.prog w = .ok (.agg ((List.replicate 64 (0#8)).map U8).toArray) w := (Tryd.zeroValue38 w).trans (by rfl)
theorem zv25 (w : World) : (zeroValue 25).run Tryd.prog w = .ok (.agg ((List.replicate 32 (0#8)).map U8).toArray) w := (Tryd.zeroValue25 w).trans (by rfl)
def rotl (x : BitVec 32) (k : Int) : BitVec 32 := (x <<< (BitVec.ofInt 64 k &&& 31#64).toNat) ||| (x >>> (32#64 - (BitVec.ofInt 64 k &&& 31#64)).toNat)
theorem rotl_pure (x : BitVec 32) (k : Int) : Pure Tryd.prog Gt 40 [U32 x, I k] (U32 (rotl x k)) := by
  intro w hw
  have hGF : BOk Gt (pl w) := gt_low.plain hw
  refine calls_of_X (G := Gt) Tryd.func40 rfl rfl (Hp (pl w) []) (hp_refl (pl w) trivial rides_true) (good_hp hGF) ?_
  refine xs_plain (E := EE []) ?_
  refine lx_assign rfl rfl rfl ?_
  refine lx_nil ?_
  refine xs_plain (E := EE []) ?_
  refine lx_move rfl rfl rfl ?_
  refine lx_conv rfl rfl (fun _ => conv_i_u64 Tryd.underlying3 Tryd.underlying56 _) rfl rfl ?_
  refine lx_bin rfl rfl (fun _ => rfl) (fun _ => bin_and_u64 _ _ _) rfl rfl ?_
  refine lx_assign rfl rfl rfl ?_
  refine lx_nil ?_
  refine xs_plain (E := EE []) ?_
  refine lx_move rfl rfl rfl ?_
  refine lx_move rfl rfl rfl ?_
  refine lx_bin rfl rfl (fun _ => rfl) (fun _ => bin_shl_u32 _ _ _) rfl rfl ?_
  refine lx_move rfl rfl rfl ?_
  refine lx_move rfl rfl rfl ?_
  refine lx_bin rfl rfl (fun _ => rfl) (fun _ => bin_sub_u64 _ _ _) rfl rfl ?_
  refine lx_bin rfl rfl (fun _ => rfl) (fun _ => bin_shr_u32 _ _ _) rfl rfl ?_
  refine lx_bin rfl rfl (fun _ => rfl) (fun _ => bin_or_u32 _ _ _) rfl rfl ?_
  refine lx_assign rfl rfl rfl ?_
  refine lx_nil ?_
  refine x_ret ?_
  repeat (first | refine kseq_ret ?_ | refine kblk_ret ?_)
  exact kret_tmp rfl rfl (fun w hw => ⟨rfl, hp_below hw⟩)
def turn (x : BitVec 32) (n : Nat) : BitVec 32 := (x >>> n) ||| (x <<< (32 - n))
theorem turn_pure (x : BitVec 32) (n : Int) (h0 : 0 ≤ n) (h1 : n ≤ 32) : Pure Tryd.prog Gt 28 [U32 x, I n] (U32 (turn x n.toNat)) := by
  intro w hw
  have hGF : BOk Gt (pl w) := gt_low.plain hw
  refine calls_of_X (G := Gt) Tryd.func28 rfl rfl (Hp (pl w) []) (hp_refl (pl w) trivial rides_true) (good_hp hGF) ?_
  refine xs_plain (E := EE []) ?_
  refine lx_assign rfl rfl rfl ?_
  refine lx_nil ?_
  refine xs_drawn (E := EE []) mixed (by kernel_rfl) (by kernel_rfl) (by kernel_rfl) ?_
  refine lx_move rfl rfl rfl ?_
  refine lx_move rfl rfl rfl ?_
  refine lx_bin rfl rfl (fun _ => rfl) (fun _ => bin_shr_i_u32 _ _ _ (by omega)) rfl rfl ?_
  refine lx_move rfl rfl rfl ?_
  refine lx_move rfl rfl rfl ?_
  refine lx_bin rfl rfl (fun _ => rfl) (fun _ => bin_sub_i _ _ _ (by unfold inI; omega)) rfl rfl ?_
  refine lx_bin rfl rfl (fun _ => rfl) (fun _ => bin_shl_i_u32 _ _ _ (by omega)) rfl rfl ?_
  refine lx_bin rfl rfl (fun _ => rfl) (fun _ => bin_or_u32 _ _ _) rfl rfl ?_
  refine lx_assign rfl rfl rfl ?_
  refine lx_nil ?_
  refine x_ret ?_
  repeat (first | refine kseq_ret ?_ | refine kblk_ret ?_)
  exact kret_tmp rfl rfl (fun w hw => ⟨by rw [show (32 - n).toNat = 32 - n.toNat from by omega]; rfl, hp_below hw⟩)
def sig1 (x : BitVec 32) : BitVec 32 := rotl x (-6) ^^^ rotl x (-11) ^^^ rotl x (-25)
theorem sig1_pure (x : BitVec 32) : Pure Tryd.prog Gt 35 [U32 x] (U32 (sig1 x)) := by
  intro w hw
  have hGF : BOk Gt (pl w) := gt_low.plain hw
  refine calls_of_X (G := Gt) Tryd.func35 rfl rfl (Hp (pl w) []) (hp_refl (pl w) trivial rides_true) (good_hp hGF) ?_
  refine xs_plain (E := EE []) ?_
  refine lx_assign rfl rfl rfl ?_
  refine lx_nil ?_
  refine xs_plain (E := EE []) ?_
  refine lx_move rfl rfl rfl ?_
  refine lx_call rfl rfl ent40 (rotl_pure _ _) rfl rfl ?_
  refine lx_move rfl rfl rfl ?_
  refine lx_call rfl rfl ent40 (rotl_pure _ _) rfl rfl ?_
  refine lx_bin rfl rfl (fun _ => rfl) (fun _ => bin_xor_u32 _ _ _) rfl rfl ?_
  refine lx_move rfl rfl rfl ?_
  refine lx_call rfl rfl ent40 (rotl_pure _ _) rfl rfl ?_
  refine lx_bin rfl rfl (fun _ => rfl) (fun _ => bin_xor_u32 _ _ _) rfl rfl ?_
  refine lx_assign rfl rfl rfl ?_
  refine lx_nil ?_
  refine x_ret ?_
  repeat (first | refine kseq_ret ?_ | refine kblk_ret ?_)
  exact kret_tmp rfl rfl (fun w hw => ⟨rfl, hp_below hw⟩)
def sig0 (x : BitVec 32) : BitVec 32 := rotl x (-2) ^^^ rotl x (-13) ^^^ rotl x (-22)
theorem sig0_pure (x : BitVec 32) : Pure Tryd.prog Gt 36 [U32 x] (U32 (sig0 x)) := by
  intro w hw
  have hGF : BOk Gt (pl w) := gt_low.plain hw
  refine calls_of_X (G := Gt) Tryd.func36 rfl rfl (Hp (pl w) []) (hp_refl (pl w) trivial rides_true) (good_hp hGF) ?_
  refine xs_plain (E := EE []) ?_
  refine lx_assign rfl rfl rfl ?_
  refine lx_nil ?_
  refine xs_plain (E := EE []) ?_
  refine lx_move rfl rfl rfl ?_
  refine lx_call rfl rfl ent40 (rotl_pure _ _) rfl rfl ?_
  refine lx_move rfl rfl rfl ?_
  refine lx_call rfl rfl ent40 (rotl_pure _ _) rfl rfl ?_
  refine lx_bin rfl rfl (fun _ => rfl) (fun _ => bin_xor_u32 _ _ _) rfl rfl ?_
  refine lx_move rfl rfl rfl ?_
  refine lx_call rfl rfl ent40 (rotl_pure _ _) rfl rfl ?_
  refine lx_bin rfl rfl (fun _ => rfl) (fun _ => bin_xor_u32 _ _ _) rfl rfl ?_
  refine lx_assign rfl rfl rfl ?_
  refine lx_nil ?_
  refine x_ret ?_
  repeat (first | refine kseq_ret ?_ | refine kblk_ret ?_)
  exact kret_tmp rfl rfl (fun w hw => ⟨rfl, hp_below hw⟩)
def low0 (x : BitVec 32) : BitVec 32 := rotl x (-7) ^^^ rotl x (-18) ^^^ (x >>> 3)
theorem low0_pure (x : BitVec 32) : Pure Tryd.prog Gt 39 [U32 x] (U32 (low0 x)) := by
  intro w hw
  have hGF : BOk Gt (pl w) := gt_low.plain hw
  refine calls_of_X (G := Gt) Tryd.func39 rfl rfl (Hp (pl w) []) (hp_refl (pl w) trivial rides_true) (good_hp hGF) ?_
  refine xs_plain (E := EE []) ?_
  refine lx_assign rfl rfl rfl ?_
  refine lx_nil ?_
  refine xs_plain (E := EE []) ?_
  refine lx_move rfl rfl rfl ?_
  refine lx_call rfl rfl ent40 (rotl_pure _ _) rfl rfl ?_
  refine lx_move rfl rfl rfl ?_
  refine lx_call rfl rfl ent40 (rotl_pure _ _) rfl rfl ?_
  refine lx_bin rfl rfl (fun _ => rfl) (fun _ => bin_xor_u32 _ _ _) rfl rfl ?_
  refine lx_move rfl rfl rfl ?_
  refine lx_bin rfl rfl (fun _ => rfl) (fun _ => bin_shr_u32 _ _ _) rfl rfl ?_
  refine lx_bin rfl rfl (fun _ => rfl) (fun _ => bin_xor_u32 _ _ _) rfl rfl ?_
  refine lx_assign rfl rfl rfl ?_
  refine lx_nil ?_
  refine x_ret ?_
  repeat (first | refine kseq_ret ?_ | refine kblk_ret ?_)
  exact kret_tmp rfl rfl (fun w hw => ⟨rfl, hp_below hw⟩)
def low1 (x : BitVec 32) : BitVec 32 := rotl x (-17) ^^^ rotl x (-19) ^^^ (x >>> 10)
theorem low1_pure (x : BitVec 32) : Pure Tryd.prog Gt 38 [U32 x] (U32 (low1 x)) := by
  intro w hw
  have hGF : BOk Gt (pl w) := gt_low.plain hw
  refine calls_of_X (G := Gt) Tryd.func38 rfl rfl (Hp (pl w) []) (hp_refl (pl w) trivial rides_true) (good_hp hGF) ?_
  refine xs_plain (E := EE []) ?_
  refine lx_assign rfl rfl rfl ?_
  refine lx_nil ?_
  refine xs_plain (E := EE []) ?_
  refine lx_move rfl rfl rfl ?_
  refine lx_call rfl rfl ent40 (rotl_pure _ _) rfl rfl ?_
  refine lx_move rfl rfl rfl ?_
  refine lx_call rfl rfl ent40 (rotl_pure _ _) rfl rfl ?_
  refine lx_bin rfl rfl (fun _ => rfl) (fun _ => bin_xor_u32 _ _ _) rfl rfl ?_
  refine lx_move rfl rfl rfl ?_
  refine lx_bin rfl rfl (fun _ => rfl) (fun _ => bin_shr_u32 _ _ _) rfl rfl ?_
  refine lx_bin rfl rfl (fun _ => rfl) (fun _ => bin_xor_u32 _ _ _) rfl rfl ?_
  refine lx_assign rfl rfl rfl ?_
  refine lx_nil ?_
  refine x_ret ?_
  repeat (first | refine kseq_ret ?_ | refine kblk_ret ?_)
  exact kret_tmp rfl rfl (fun w hw => ⟨rfl, hp_below hw⟩)
end Go.Proofs.YtkfnadpdcgcffaaDoor
