/-
  The walks of sha.schedule, sha.compress, sha.start, sha.digest.
-/
import Derived.Test.YtdkkipjcmflclaaDoorS1
namespace Go.Proofs.YtdkkipjcmflclaaDoor
open Go.RowKit
set_option maxRecDepth 100000
namespace Sh
/-- A word of a block. -/
def w4 (bl : List (BitVec 8)) (i : Nat) : BitVec 32 := ((bl.getD (4 * i) 0).setWidth 32 <<< 24) ||| ((bl.getD (4 * i + 1) 0).setWidth 32 <<< 16) ||| ((bl.getD (4 * i + 2) 0).setWidth 32 <<< 8) ||| (bl.getD (4 * i + 3) 0).setWidth 32
def W1 (bl : List (BitVec 8)) : Nat → List (BitVec 32)
  | 0 => List.replicate 64 0#32
  | k + 1 => (W1 bl k).set k (w4 bl k)
theorem W1_len (bl : List (BitVec 8)) : ∀ k, (W1 bl k).length = 64
  | 0 => by simp [W1]
  | k + 1 => by simp [W1, W1_len bl k]
def w5 (ws : List (BitVec 32)) (i : Nat) : BitVec 32 := low1 (ws.getD (i - 2) 0) + ws.getD (i - 7) 0 + low0 (ws.getD (i - 15) 0) + ws.getD (i - 16) 0
def W2 (bl : List (BitVec 8)) : Nat → List (BitVec 32)
  | 0 => W1 bl 16
  | k + 1 => (W2 bl k).set (16 + k) (w5 (W2 bl k) (16 + k))
theorem W2_len (bl : List (BitVec 8)) : ∀ k, (W2 bl k).length = 64
  | 0 => W1_len bl 16
  | k + 1 => by simp [W2, W2_len bl k]

theorem sched_pure (bl : List (BitVec 8)) (hb : bl.length = 64) : Pure Tryd.prog Gt 56 [.agg (bl.map U8).toArray] (.agg ((W2 bl 48).map U32).toArray) := by
  intro w hw
  have hGF : BOk Gt (pl w) := gt_low.plain hw
  refine calls_of_X (G := Gt) Tryd.func56 rfl rfl (Hp (pl w) []) (hp_refl (pl w) trivial rides_true) (good_hp hGF) ?_
  refine xs_plain (E := EE []) ?_
  refine lx_boxr 1 hGF rfl rfl rfl ?_
  intro b1
  refine lx_allocr 2 hGF zv51 rfl rfl ?_
  intro b2
  refine lx_nil ?_
  refine xs_plain (E := EE []) ?_
  refine lx_allocr 3 hGF zv51 rfl rfl ?_
  intro b3
  refine lx_nil ?_
  refine x_seq ?_
  refine xs_plain (E := EE []) ?_
  refine lx_move rfl rfl rfl ?_
  refine lx_nil ?_
  refine x_block ?_
  refine x_for (ι := { i : Nat // i ≤ 16 }) (fun x => [(6, I (x.1 : Int)), (1, .pointer (some ⟨b1, 0, none⟩)), (2, .pointer (some ⟨b2, 0, none⟩)), (3, .pointer (some ⟨b3, 0, none⟩))]) (fun x => [(3, b3, (W1 bl x.1).map U32, 51), (2, b2, (List.replicate 64 (0#32)).map U32, 51), (1, b1, bl.map U8, 85)]) (fun x => 16 - x.1) ⟨0, by omega⟩ hGF ⟨rfl, rfl, rfl, rfl, trivial⟩ ⟨rfl, rfl, rfl, trivial⟩ ?_
  rintro ⟨i, hi⟩
  dsimp only
  refine xs_plain (E := EE []) ?_
  refine lx_bin rfl rfl (fun _ => rfl) (fun _ => bin_lss_i _ _ _) rfl rfl ?_
  refine lx_nil ?_
  refine x_seq ?_
  refine x_if rfl (fun hc => ?_) (fun hc => ?_)
  · simp only [decide_eq_true_eq] at hc
    refine x_skip ?_
    refine x_seq ?_
    refine x_block ?_
    refine xs_plain (E := EE []) ?_
    refine lx_move rfl rfl rfl ?_
    refine lx_assign rfl rfl rfl ?_
    refine lx_nil ?_
    refine x_drawn (E := EE []) mixed (by kernel_rfl) (by kernel_rfl) (by kernel_rfl) ?_
    refine lx_move rfl rfl rfl ?_
    refine lx_move rfl rfl rfl ?_
    refine lx_bin rfl rfl (fun _ => rfl) (fun _ => bin_mul_i _ _ _ (by unfold inI; omega)) rfl rfl ?_
    refine lx_ia0 ((4 * i)) rfl rfl Tryd.underlying85 Tryd.sizeOf5 (by omega) (by omega) rfl rfl ?_
    refine lx_loadm 1 U8 0 rfl rfl Tryd.isAgg5 (by rw [hb]; omega) rfl rfl ?_
    refine lx_conv rfl rfl (fun _ => conv_u8_u32 Tryd.underlying5 Tryd.underlying49 _) rfl rfl ?_
    refine lx_bin rfl rfl (fun _ => rfl) (fun _ => bin_shl_u32 _ _ _) rfl rfl ?_
    refine lx_move rfl rfl rfl ?_
    refine lx_bin rfl rfl (fun _ => rfl) (fun _ => bin_mul_i _ _ _ (by unfold inI; omega)) rfl rfl ?_
    refine lx_bin rfl rfl (fun _ => rfl) (fun _ => bin_add_i _ _ _ (by unfold inI; omega)) rfl rfl ?_
    refine lx_ia0 (((4 * i) + 1)) rfl rfl Tryd.underlying85 Tryd.sizeOf5 (by omega) (by omega) rfl rfl ?_
    refine lx_loadm 1 U8 0 rfl rfl Tryd.isAgg5 (by rw [hb]; omega) rfl rfl ?_
    refine lx_conv rfl rfl (fun _ => conv_u8_u32 Tryd.underlying5 Tryd.underlying49 _) rfl rfl ?_
    refine lx_bin rfl rfl (fun _ => rfl) (fun _ => bin_shl_u32 _ _ _) rfl rfl ?_
    refine lx_bin rfl rfl (fun _ => rfl) (fun _ => bin_or_u32 _ _ _) rfl rfl ?_
    refine lx_move rfl rfl rfl ?_
    refine lx_bin rfl rfl (fun _ => rfl) (fun _ => bin_mul_i _ _ _ (by unfold inI; omega)) rfl rfl ?_
    refine lx_bin rfl rfl (fun _ => rfl) (fun _ => bin_add_i _ _ _ (by unfold inI; omega)) rfl rfl ?_
    refine lx_ia0 (((4 * i) + 2)) rfl rfl Tryd.underlying85 Tryd.sizeOf5 (by omega) (by omega) rfl rfl ?_
    refine lx_loadm 1 U8 0 rfl rfl Tryd.isAgg5 (by rw [hb]; omega) rfl rfl ?_
    refine lx_conv rfl rfl (fun _ => conv_u8_u32 Tryd.underlying5 Tryd.underlying49 _) rfl rfl ?_
    refine lx_bin rfl rfl (fun _ => rfl) (fun _ => bin_shl_u32 _ _ _) rfl rfl ?_
    refine lx_bin rfl rfl (fun _ => rfl) (fun _ => bin_or_u32 _ _ _) rfl rfl ?_
    refine lx_move rfl rfl rfl ?_
    refine lx_bin rfl rfl (fun _ => rfl) (fun _ => bin_mul_i _ _ _ (by unfold inI; omega)) rfl rfl ?_
    refine lx_bin rfl rfl (fun _ => rfl) (fun _ => bin_add_i _ _ _ (by unfold inI; omega)) rfl rfl ?_
    refine lx_ia0 (((4 * i) + 3)) rfl rfl Tryd.underlying85 Tryd.sizeOf5 (by omega) (by omega) rfl rfl ?_
    refine lx_loadm 1 U8 0 rfl rfl Tryd.isAgg5 (by rw [hb]; omega) rfl rfl ?_
    refine lx_conv rfl rfl (fun _ => conv_u8_u32 Tryd.underlying5 Tryd.underlying49 _) rfl rfl ?_
    refine lx_bin rfl rfl (fun _ => rfl) (fun _ => bin_or_u32 _ _ _) rfl rfl ?_
    refine lx_ia0 (i) rfl rfl Tryd.underlying51 Tryd.sizeOf49 (by omega) (by omega) rfl rfl ?_
    refine lx_storem 3 U32 hGF rfl rfl rfl Tryd.sizeOf49 rfl (by rw [W1_len]; omega) rfl ?_
    refine lx_nil ?_
    refine x_plain (E := EE []) ?_
    refine lx_bin rfl rfl (fun _ => rfl) (fun _ => bin_add_i _ _ _ (by unfold inI; omega)) rfl rfl ?_
    refine lx_move rfl rfl rfl ?_
    refine lx_nil ?_
    refine kseq_n ?_
    exact ⟨rfl, ⟨i + 1, by omega⟩, _, by show 16 - (i + 1) < 16 - i; omega, rfl, ⟨rfl, rfl, rfl, rfl, trivial⟩, ⟨rfl, rfl, rfl, trivial⟩⟩
  · obtain rfl : i = 16 := by simp at hc; omega
    refine x_exit ?_
    refine x_seq ?_
    refine xs_plain (E := EE []) ?_
    refine lx_assign rfl rfl rfl ?_
    refine lx_nil ?_
    refine x_block ?_
    refine x_for (ι := { i : Nat // i ≤ 48 }) (fun x => [(5, I ((16 + x.1 : Nat) : Int)), (2, .pointer (some ⟨b2, 0, none⟩)), (3, .pointer (some ⟨b3, 0, none⟩))]) (fun x => [(3, b3, (W2 bl x.1).map U32, 51), (2, b2, (List.replicate 64 (0#32)).map U32, 51)]) (fun x => 48 - x.1) ⟨0, by omega⟩ hGF ⟨rfl, rfl, rfl, trivial⟩ ⟨rfl, rfl, trivial⟩ ?_
    rintro ⟨j, hj⟩
    dsimp only
    refine x_seq ?_
    refine xs_plain (E := EE []) ?_
    refine lx_move rfl rfl rfl ?_
    refine lx_bin rfl rfl (fun _ => rfl) (fun _ => bin_lss_i _ _ _) rfl rfl ?_
    refine lx_nil ?_
    refine x_if rfl (fun hc => ?_) (fun hc => ?_)
    · simp only [decide_eq_true_eq] at hc
      refine x_skip ?_
      refine x_seq ?_
      refine x_block ?_
      refine x_drawn (E := EE []) mixed (by kernel_rfl) (by kernel_rfl) (by kernel_rfl) ?_
      refine lx_move rfl rfl rfl ?_
      refine lx_move rfl rfl rfl ?_
      refine lx_bin rfl rfl (fun _ => rfl) (fun _ => bin_sub_i _ _ _ (by unfold inI; omega)) rfl rfl ?_
      refine lx_ia0 (((16 + j) - 2)) rfl rfl Tryd.underlying51 Tryd.sizeOf49 (by omega) (by omega) rfl rfl ?_
      refine lx_loadm 3 U32 0 rfl rfl Tryd.isAgg49 (by rw [W2_len]; omega) rfl rfl ?_
      refine lx_call rfl rfl ent60 (low1_pure _) rfl rfl ?_
      refine lx_move rfl rfl rfl ?_
      refine lx_bin rfl rfl (fun _ => rfl) (fun _ => bin_sub_i _ _ _ (by unfold inI; omega)) rfl rfl ?_
      refine lx_ia0 (((16 + j) - 7)) rfl rfl Tryd.underlying51 Tryd.sizeOf49 (by omega) (by omega) rfl rfl ?_
      refine lx_loadm 3 U32 0 rfl rfl Tryd.isAgg49 (by rw [W2_len]; omega) rfl rfl ?_
      refine lx_bin rfl rfl (fun _ => rfl) (fun _ => bin_add_u32 _ _ _) rfl rfl ?_
      refine lx_move rfl rfl rfl ?_
      refine lx_bin rfl rfl (fun _ => rfl) (fun _ => bin_sub_i _ _ _ (by unfold inI; omega)) rfl rfl ?_
      refine lx_ia0 (((16 + j) - 15)) rfl rfl Tryd.underlying51 Tryd.sizeOf49 (by omega) (by omega) rfl rfl ?_
      refine lx_loadm 3 U32 0 rfl rfl Tryd.isAgg49 (by rw [W2_len]; omega) rfl rfl ?_
      refine lx_call rfl rfl ent61 (low0_pure _) rfl rfl ?_
      refine lx_bin rfl rfl (fun _ => rfl) (fun _ => bin_add_u32 _ _ _) rfl rfl ?_
      refine lx_move rfl rfl rfl ?_
      refine lx_bin rfl rfl (fun _ => rfl) (fun _ => bin_sub_i _ _ _ (by unfold inI; omega)) rfl rfl ?_
      refine lx_ia0 (((16 + j) - 16)) rfl rfl Tryd.underlying51 Tryd.sizeOf49 (by omega) (by omega) rfl rfl ?_
      refine lx_loadm 3 U32 0 rfl rfl Tryd.isAgg49 (by rw [W2_len]; omega) rfl rfl ?_
      refine lx_bin rfl rfl (fun _ => rfl) (fun _ => bin_add_u32 _ _ _) rfl rfl ?_
      refine lx_ia0 ((16 + j)) rfl rfl Tryd.underlying51 Tryd.sizeOf49 (by omega) (by omega) rfl rfl ?_
      refine lx_storem 3 U32 hGF rfl rfl rfl Tryd.sizeOf49 rfl (by rw [W2_len]; omega) rfl ?_
      refine lx_nil ?_
      refine x_plain (E := EE []) ?_
      refine lx_move rfl rfl rfl ?_
      refine lx_bin rfl rfl (fun _ => rfl) (fun _ => bin_add_i _ _ _ (by unfold inI; omega)) rfl rfl ?_
      refine lx_assign rfl rfl rfl ?_
      refine lx_nil ?_
      refine kseq_n ?_
      exact ⟨rfl, ⟨j + 1, by omega⟩, _, by show 48 - (j + 1) < 48 - j; omega, rfl, ⟨rfl, rfl, rfl, trivial⟩, ⟨rfl, rfl, trivial⟩⟩
    · obtain rfl : j = 48 := by simp at hc; omega
      refine x_exit ?_
      refine xs_plain (E := EE []) ?_
      refine lx_loada 3 rfl rfl Tryd.isAgg51 Tryd.sizeOf51 (by rw [List.length_map, W2_len]) rfl rfl ?_
      refine lx_storea 2 hGF rfl rfl rfl Tryd.sizeOf51 (by rw [List.length_map, W2_len]) (by rw [List.length_map, List.length_replicate]) (one_u32 _) rfl ?_
      refine lx_nil ?_
      refine x_ret ?_
      repeat (first | refine kseq_ret ?_ | refine kblk_ret ?_)
      exact kret_own 2 rfl rfl rfl Tryd.isAgg51 Tryd.sizeOf51 (by rw [List.length_map, W2_len]) (fun w hw => ⟨rfl, hp_below hw⟩)
theorem gk {B : Bs} {L : Hl} {Y : Nat → Prop} (hw : Gt B.w0) (hM : ¬ B.M 0) (k : Nat) (hk : k < 64) : ∀ w, Hq B L Y w → w.cell? ⟨0, k, none⟩ = some (U32 (KW.getD k 0)) := by
  have := hw.g0 k _ (gm U32 KW 0 k hk)
  rw [Nat.zero_add] at this
  exact hp_old this hM
structure V8 where
  (a b c d e f g h : BitVec 32)
def rnd (v : V8) (k w : BitVec 32) : V8 :=
  ⟨(v.h + sig1 v.e + (v.e &&& v.f ^^^ ~~~v.e &&& v.g) + k + w) + (sig0 v.a + (v.a &&& v.b ^^^ v.a &&& v.c ^^^ v.b &&& v.c)), v.a, v.b, v.c, v.d + (v.h + sig1 v.e + (v.e &&& v.f ^^^ ~~~v.e &&& v.g) + k + w), v.e, v.f, v.g⟩
def rnds (v : V8) (ws : List (BitVec 32)) : Nat → V8
  | 0 => v
  | k + 1 => rnd (rnds v ws k) (KW.getD k 0) (ws.getD k 0)
def v8 (st : List (BitVec 32)) : V8 := ⟨st.getD 0 0, st.getD 1 0, st.getD 2 0, st.getD 3 0, st.getD 4 0, st.getD 5 0, st.getD 6 0, st.getD 7 0⟩
def addV (st : List (BitVec 32)) (v : V8) : List (BitVec 32) := [st.getD 0 0 + v.a, st.getD 1 0 + v.b, st.getD 2 0 + v.c, st.getD 3 0 + v.d, st.getD 4 0 + v.e, st.getD 5 0 + v.f, st.getD 6 0 + v.g, st.getD 7 0 + v.h]
def comp (st : List (BitVec 32)) (bl : List (BitVec 8)) : List (BitVec 32) := addV st (rnds (v8 st) (W2 bl 48) 64)

theorem comp_pure (st : List (BitVec 32)) (bl : List (BitVec 8)) (hs : st.length = 8) (hb : bl.length = 64) : Pure Tryd.prog Gt 53 [.agg (st.map U32).toArray, .agg (bl.map U8).toArray] (.agg ((comp st bl).map U32).toArray) := by
  intro w hw
  have hGF : BOk Gt (pl w) := gt_low.plain hw
  refine calls_of_X (G := Gt) Tryd.func53 rfl rfl (Hp (pl w) []) (hp_refl (pl w) trivial rides_true) (good_hp hGF) ?_
  refine xs_plain (E := EE []) ?_
  refine lx_boxr 2 hGF rfl rfl rfl ?_
  intro b2
  refine lx_boxr 3 hGF rfl rfl rfl ?_
  intro b3
  refine lx_allocr 4 hGF zv50 rfl rfl ?_
  intro b4
  refine lx_nil ?_
  refine xs_plain (E := EE []) ?_
  refine lx_loada 3 rfl rfl Tryd.isAgg85 Tryd.sizeOf85 (by rw [List.length_map, hb]) rfl rfl ?_
  refine lx_call rfl rfl ent56 (sched_pure _ hb) rfl rfl ?_
  refine lx_allocr 5 hGF zv51 rfl rfl ?_
  intro b5
  refine lx_storea 5 hGF rfl rfl rfl Tryd.sizeOf51 (by rw [List.length_map, W2_len]) (by rw [List.length_map, List.length_replicate]) (one_u32 _) rfl ?_
  refine lx_nil ?_
  refine xs_drawn (E := EE []) mixed (by kernel_rfl) (by kernel_rfl) (by kernel_rfl) ?_
  refine lx_ia0 (0) rfl rfl Tryd.underlying50 Tryd.sizeOf49 (by omega) (by omega) rfl rfl ?_
  refine lx_loadm 2 U32 0 rfl rfl Tryd.isAgg49 (by rw [hs]; omega) rfl rfl ?_
  refine lx_ia0 (1) rfl rfl Tryd.underlying50 Tryd.sizeOf49 (by omega) (by omega) rfl rfl ?_
  refine lx_loadm 2 U32 0 rfl rfl Tryd.isAgg49 (by rw [hs]; omega) rfl rfl ?_
  refine lx_ia0 (2) rfl rfl Tryd.underlying50 Tryd.sizeOf49 (by omega) (by omega) rfl rfl ?_
  refine lx_loadm 2 U32 0 rfl rfl Tryd.isAgg49 (by rw [hs]; omega) rfl rfl ?_
  refine lx_ia0 (3) rfl rfl Tryd.underlying50 Tryd.sizeOf49 (by omega) (by omega) rfl rfl ?_
  refine lx_loadm 2 U32 0 rfl rfl Tryd.isAgg49 (by rw [hs]; omega) rfl rfl ?_
  refine lx_assign rfl rfl rfl ?_
  refine lx_assign rfl rfl rfl ?_
  refine lx_assign rfl rfl rfl ?_
  refine lx_assign rfl rfl rfl ?_
  refine lx_nil ?_
  refine xs_drawn (E := EE []) mixed (by kernel_rfl) (by kernel_rfl) (by kernel_rfl) ?_
  refine lx_ia0 (4) rfl rfl Tryd.underlying50 Tryd.sizeOf49 (by omega) (by omega) rfl rfl ?_
  refine lx_loadm 2 U32 0 rfl rfl Tryd.isAgg49 (by rw [hs]; omega) rfl rfl ?_
  refine lx_ia0 (5) rfl rfl Tryd.underlying50 Tryd.sizeOf49 (by omega) (by omega) rfl rfl ?_
  refine lx_loadm 2 U32 0 rfl rfl Tryd.isAgg49 (by rw [hs]; omega) rfl rfl ?_
  refine lx_ia0 (6) rfl rfl Tryd.underlying50 Tryd.sizeOf49 (by omega) (by omega) rfl rfl ?_
  refine lx_loadm 2 U32 0 rfl rfl Tryd.isAgg49 (by rw [hs]; omega) rfl rfl ?_
  refine lx_ia0 (7) rfl rfl Tryd.underlying50 Tryd.sizeOf49 (by omega) (by omega) rfl rfl ?_
  refine lx_loadm 2 U32 0 rfl rfl Tryd.isAgg49 (by rw [hs]; omega) rfl rfl ?_
  refine lx_assign rfl rfl rfl ?_
  refine lx_assign rfl rfl rfl ?_
  refine lx_assign rfl rfl rfl ?_
  refine lx_assign rfl rfl rfl ?_
  refine lx_nil ?_
  refine x_seq ?_
  refine xs_plain (E := EE []) ?_
  refine lx_loada 5 rfl rfl Tryd.isAgg51 Tryd.sizeOf51 (by rw [List.length_map, W2_len]) rfl rfl ?_
  refine lx_move rfl rfl rfl ?_
  refine lx_nil ?_
  refine x_block ?_
  refine x_for (ι := { i : Nat // i ≤ 64 }) (fun x => [(39, I (x.1 : Int)), (2, .pointer (some ⟨b2, 0, none⟩)), (4, .pointer (some ⟨b4, 0, none⟩)), (6, U32 (rnds (v8 st) (W2 bl 48) x.1).a), (7, U32 (rnds (v8 st) (W2 bl 48) x.1).b), (8, U32 (rnds (v8 st) (W2 bl 48) x.1).c), (9, U32 (rnds (v8 st) (W2 bl 48) x.1).d), (10, U32 (rnds (v8 st) (W2 bl 48) x.1).e), (11, U32 (rnds (v8 st) (W2 bl 48) x.1).f), (12, U32 (rnds (v8 st) (W2 bl 48) x.1).g), (13, U32 (rnds (v8 st) (W2 bl 48) x.1).h), (38, .agg ((W2 bl 48).map U32).toArray)]) (fun x => [(2, b2, st.map U32, 50), (4, b4, (List.replicate 8 (0#32)).map U32, 50)]) (fun x => 64 - x.1) ⟨0, by omega⟩ hGF ⟨rfl, rfl, rfl, rfl, rfl, rfl, rfl, rfl, rfl, rfl, rfl, rfl, trivial⟩ ⟨rfl, rfl, trivial⟩ ?_
  rintro ⟨i, hi⟩
  dsimp only
  refine xs_plain (E := EE []) ?_
  refine lx_bin rfl rfl (fun _ => rfl) (fun _ => bin_lss_i _ _ _) rfl rfl ?_
  refine lx_nil ?_
  refine x_seq ?_
  refine x_if rfl (fun hc => ?_) (fun hc => ?_)
  · simp only [decide_eq_true_eq] at hc
    refine x_skip ?_
    refine x_seq ?_
    refine x_block ?_
    refine xs_plain (E := EE []) ?_
    refine lx_move rfl rfl rfl ?_
    refine lx_idxm U32 0 (i) rfl rfl Tryd.underlying51 Tryd.sizeOf49 Tryd.isAgg49 (by omega) (by omega) (W2_len _ _) rfl rfl ?_
    refine lx_assign rfl rfl rfl ?_
    refine lx_assign rfl rfl rfl ?_
    refine lx_nil ?_
    refine xs_plain (E := EE []) ?_
    refine lx_move rfl rfl rfl ?_
    refine lx_move rfl rfl rfl ?_
    refine lx_bin rfl rfl (fun _ => rfl) (fun _ => bin_and_u32 _ _ _) rfl rfl ?_
    refine lx_move rfl rfl rfl ?_
    refine lx_un rfl (fun _ => un_xor_u32 _) rfl rfl ?_
    refine lx_move rfl rfl rfl ?_
    refine lx_bin rfl rfl (fun _ => rfl) (fun _ => bin_and_u32 _ _ _) rfl rfl ?_
    refine lx_bin rfl rfl (fun _ => rfl) (fun _ => bin_xor_u32 _ _ _) rfl rfl ?_
    refine lx_assign rfl rfl rfl ?_
    refine lx_nil ?_
    refine xs_drawn (E := EE []) mixed (by kernel_rfl) (by kernel_rfl) (by kernel_rfl) ?_
    refine lx_move rfl rfl rfl ?_
    refine lx_move rfl rfl rfl ?_
    refine lx_call rfl rfl ent57 (sig1_pure _) rfl rfl ?_
    refine lx_bin rfl rfl (fun _ => rfl) (fun _ => bin_add_u32 _ _ _) rfl rfl ?_
    refine lx_move rfl rfl rfl ?_
    refine lx_bin rfl rfl (fun _ => rfl) (fun _ => bin_add_u32 _ _ _) rfl rfl ?_
    refine lx_move rfl rfl rfl ?_
    refine lx_ia0 (i) rfl rfl Tryd.underlying51 Tryd.sizeOf49 (by omega) (by omega) rfl rfl ?_
    refine lx_load rfl Tryd.isAgg49 (gk (B := pl w) hw (fun h => h) (i) (by omega)) rfl rfl ?_
    refine lx_bin rfl rfl (fun _ => rfl) (fun _ => bin_add_u32 _ _ _) rfl rfl ?_
    refine lx_move rfl rfl rfl ?_
    refine lx_bin rfl rfl (fun _ => rfl) (fun _ => bin_add_u32 _ _ _) rfl rfl ?_
    refine lx_assign rfl rfl rfl ?_
    refine lx_nil ?_
    refine xs_plain (E := EE []) ?_
    refine lx_move rfl rfl rfl ?_
    refine lx_move rfl rfl rfl ?_
    refine lx_bin rfl rfl (fun _ => rfl) (fun _ => bin_and_u32 _ _ _) rfl rfl ?_
    refine lx_move rfl rfl rfl ?_
    refine lx_move rfl rfl rfl ?_
    refine lx_bin rfl rfl (fun _ => rfl) (fun _ => bin_and_u32 _ _ _) rfl rfl ?_
    refine lx_bin rfl rfl (fun _ => rfl) (fun _ => bin_xor_u32 _ _ _) rfl rfl ?_
    refine lx_move rfl rfl rfl ?_
    refine lx_move rfl rfl rfl ?_
    refine lx_bin rfl rfl (fun _ => rfl) (fun _ => bin_and_u32 _ _ _) rfl rfl ?_
    refine lx_bin rfl rfl (fun _ => rfl) (fun _ => bin_xor_u32 _ _ _) rfl rfl ?_
    refine lx_assign rfl rfl rfl ?_
    refine lx_nil ?_
    refine xs_plain (E := EE []) ?_
    refine lx_move rfl rfl rfl ?_
    refine lx_call rfl rfl ent58 (sig0_pure _) rfl rfl ?_
    refine lx_move rfl rfl rfl ?_
    refine lx_bin rfl rfl (fun _ => rfl) (fun _ => bin_add_u32 _ _ _) rfl rfl ?_
    refine lx_assign rfl rfl rfl ?_
    refine lx_nil ?_
    refine xs_plain (E := EE []) ?_
    refine lx_move rfl rfl rfl ?_
    refine lx_move rfl rfl rfl ?_
    refine lx_move rfl rfl rfl ?_
    refine lx_move rfl rfl rfl ?_
    refine lx_move rfl rfl rfl ?_
    refine lx_bin rfl rfl (fun _ => rfl) (fun _ => bin_add_u32 _ _ _) rfl rfl ?_
    refine lx_assign rfl rfl rfl ?_
    refine lx_assign rfl rfl rfl ?_
    refine lx_assign rfl rfl rfl ?_
    refine lx_assign rfl rfl rfl ?_
    refine lx_nil ?_
    refine x_plain (E := EE []) ?_
    refine lx_move rfl rfl rfl ?_
    refine lx_move rfl rfl rfl ?_
    refine lx_move rfl rfl rfl ?_
    refine lx_move rfl rfl rfl ?_
    refine lx_move rfl rfl rfl ?_
    refine lx_bin rfl rfl (fun _ => rfl) (fun _ => bin_add_u32 _ _ _) rfl rfl ?_
    refine lx_assign rfl rfl rfl ?_
    refine lx_assign rfl rfl rfl ?_
    refine lx_assign rfl rfl rfl ?_
    refine lx_assign rfl rfl rfl ?_
    refine lx_nil ?_
    refine x_plain (E := EE []) ?_
    refine lx_bin rfl rfl (fun _ => rfl) (fun _ => bin_add_i _ _ _ (by unfold inI; omega)) rfl rfl ?_
    refine lx_move rfl rfl rfl ?_
    refine lx_nil ?_
    refine kseq_n ?_
    exact ⟨rfl, ⟨i + 1, by omega⟩, _, by show 64 - (i + 1) < 64 - i; omega, rfl, ⟨rfl, rfl, rfl, rfl, rfl, rfl, rfl, rfl, rfl, rfl, rfl, rfl, trivial⟩, ⟨rfl, rfl, trivial⟩⟩
  · obtain rfl : i = 64 := by simp at hc; omega
    refine x_exit ?_
    refine xs_plain (E := EE []) ?_
    refine lx_ia0 (0) rfl rfl Tryd.underlying50 Tryd.sizeOf49 (by omega) (by omega) rfl rfl ?_
    refine lx_loadm 2 U32 0 rfl rfl Tryd.isAgg49 (by rw [hs]; omega) rfl rfl ?_
    refine lx_move rfl rfl rfl ?_
    refine lx_bin rfl rfl (fun _ => rfl) (fun _ => bin_add_u32 _ _ _) rfl rfl ?_
    refine lx_ia0 (1) rfl rfl Tryd.underlying50 Tryd.sizeOf49 (by omega) (by omega) rfl rfl ?_
    refine lx_loadm 2 U32 0 rfl rfl Tryd.isAgg49 (by rw [hs]; omega) rfl rfl ?_
    refine lx_move rfl rfl rfl ?_
    refine lx_bin rfl rfl (fun _ => rfl) (fun _ => bin_add_u32 _ _ _) rfl rfl ?_
    refine lx_ia0 (2) rfl rfl Tryd.underlying50 Tryd.sizeOf49 (by omega) (by omega) rfl rfl ?_
    refine lx_loadm 2 U32 0 rfl rfl Tryd.isAgg49 (by rw [hs]; omega) rfl rfl ?_
    refine lx_move rfl rfl rfl ?_
    refine lx_bin rfl rfl (fun _ => rfl) (fun _ => bin_add_u32 _ _ _) rfl rfl ?_
    refine lx_ia0 (3) rfl rfl Tryd.underlying50 Tryd.sizeOf49 (by omega) (by omega) rfl rfl ?_
    refine lx_loadm 2 U32 0 rfl rfl Tryd.isAgg49 (by rw [hs]; omega) rfl rfl ?_
    refine lx_move rfl rfl rfl ?_
    refine lx_bin rfl rfl (fun _ => rfl) (fun _ => bin_add_u32 _ _ _) rfl rfl ?_
    refine lx_ia0 (4) rfl rfl Tryd.underlying50 Tryd.sizeOf49 (by omega) (by omega) rfl rfl ?_
    refine lx_loadm 2 U32 0 rfl rfl Tryd.isAgg49 (by rw [hs]; omega) rfl rfl ?_
    refine lx_move rfl rfl rfl ?_
    refine lx_bin rfl rfl (fun _ => rfl) (fun _ => bin_add_u32 _ _ _) rfl rfl ?_
    refine lx_ia0 (5) rfl rfl Tryd.underlying50 Tryd.sizeOf49 (by omega) (by omega) rfl rfl ?_
    refine lx_loadm 2 U32 0 rfl rfl Tryd.isAgg49 (by rw [hs]; omega) rfl rfl ?_
    refine lx_move rfl rfl rfl ?_
    refine lx_bin rfl rfl (fun _ => rfl) (fun _ => bin_add_u32 _ _ _) rfl rfl ?_
    refine lx_ia0 (6) rfl rfl Tryd.underlying50 Tryd.sizeOf49 (by omega) (by omega) rfl rfl ?_
    refine lx_loadm 2 U32 0 rfl rfl Tryd.isAgg49 (by rw [hs]; omega) rfl rfl ?_
    refine lx_move rfl rfl rfl ?_
    refine lx_bin rfl rfl (fun _ => rfl) (fun _ => bin_add_u32 _ _ _) rfl rfl ?_
    refine lx_ia0 (7) rfl rfl Tryd.underlying50 Tryd.sizeOf49 (by omega) (by omega) rfl rfl ?_
    refine lx_loadm 2 U32 0 rfl rfl Tryd.isAgg49 (by rw [hs]; omega) rfl rfl ?_
    refine lx_move rfl rfl rfl ?_
    refine lx_bin rfl rfl (fun _ => rfl) (fun _ => bin_add_u32 _ _ _) rfl rfl ?_
    refine lx_buildr (n := 8) rfl rfl Tryd.underlying50 Tryd.sizeOf49 Tryd.zeroValue50 rfl rfl rfl rfl ?_
    refine lx_storea 4 hGF rfl rfl rfl Tryd.sizeOf50 rfl (by rw [List.length_map, List.length_replicate]) rfl rfl ?_
    refine lx_nil ?_
    refine x_ret ?_
    repeat (first | refine kseq_ret ?_ | refine kblk_ret ?_)
    exact kret_own 4 rfl rfl rfl Tryd.isAgg50 Tryd.sizeOf50 rfl (fun w hw => ⟨rfl, hp_below hw⟩)
def IV : List (BitVec 32) := [0x6a09e667#32, 0xbb67ae85#32, 0x3c6ef372#32, 0xa54ff53a#32, 0x510e527f#32, 0x9b05688c#32, 0x1f83d9ab#32, 0x5be0cd19#32]
theorem start_pure  : Pure Tryd.prog Gt 51 [] (.agg (IV.map U32).toArray) := by
  intro w hw
  have hGF : BOk Gt (pl w) := gt_low.plain hw
  refine calls_of_X (G := Gt) Tryd.func51 rfl rfl (Hp (pl w) []) (hp_refl (pl w) trivial rides_true) (good_hp hGF) ?_
  refine xs_plain (E := EE []) ?_
  refine lx_allocr 0 hGF zv50 rfl rfl ?_
  intro b0
  refine lx_nil ?_
  refine xs_plain (E := EE []) ?_
  refine lx_buildr (n := 8) rfl rfl Tryd.underlying50 Tryd.sizeOf49 Tryd.zeroValue50 rfl rfl rfl rfl ?_
  refine lx_storea 0 hGF rfl rfl rfl Tryd.sizeOf50 rfl (by rw [List.length_map, List.length_replicate]) rfl rfl ?_
  refine lx_nil ?_
  refine x_ret ?_
  repeat (first | refine kseq_ret ?_ | refine kblk_ret ?_)
  exact kret_own 0 rfl rfl rfl Tryd.isAgg50 Tryd.sizeOf50 rfl (fun w hw => ⟨rfl, hp_below hw⟩)
def DG (st : List (BitVec 32)) : Nat → List (BitVec 8)
  | 0 => List.replicate 32 0#8
  | k + 1 => ((((DG st k).set (4 * k) ((st.getD k 0 >>> 24).setWidth 8)).set (4 * k + 1) ((st.getD k 0 >>> 16).setWidth 8)).set (4 * k + 2) ((st.getD k 0 >>> 8).setWidth 8)).set (4 * k + 3) ((st.getD k 0).setWidth 8)
theorem DG_len (st : List (BitVec 32)) : ∀ k, (DG st k).length = 32
  | 0 => by simp [DG]
  | k + 1 => by simp [DG, DG_len st k]

theorem digest_pure (st : List (BitVec 32)) (hs : st.length = 8) : Pure Tryd.prog Gt 49 [.agg (st.map U32).toArray] (.agg ((DG st 8).map U8).toArray) := by
  intro w hw
  have hGF : BOk Gt (pl w) := gt_low.plain hw
  refine calls_of_X (G := Gt) Tryd.func49 rfl rfl (Hp (pl w) []) (hp_refl (pl w) trivial rides_true) (good_hp hGF) ?_
  refine xs_plain (E := EE []) ?_
  refine lx_boxr 1 hGF rfl rfl rfl ?_
  intro b1
  refine lx_allocr 2 hGF zv22 rfl rfl ?_
  intro b2
  refine lx_nil ?_
  refine xs_plain (E := EE []) ?_
  refine lx_allocr 3 hGF zv22 rfl rfl ?_
  intro b3
  refine lx_nil ?_
  refine x_seq ?_
  refine xs_plain (E := EE []) ?_
  refine lx_loada 1 rfl rfl Tryd.isAgg50 Tryd.sizeOf50 (by rw [List.length_map, hs]) rfl rfl ?_
  refine lx_move rfl rfl rfl ?_
  refine lx_nil ?_
  refine x_block ?_
  refine x_for (ι := { i : Nat // i ≤ 8 }) (fun x => [(7, I (x.1 : Int)), (2, .pointer (some ⟨b2, 0, none⟩)), (3, .pointer (some ⟨b3, 0, none⟩)), (6, .agg (st.map U32).toArray)]) (fun x => [(3, b3, (DG st x.1).map U8, 22), (2, b2, (List.replicate 32 (0#8)).map U8, 22)]) (fun x => 8 - x.1) ⟨0, by omega⟩ hGF ⟨rfl, rfl, rfl, rfl, trivial⟩ ⟨rfl, rfl, trivial⟩ ?_
  rintro ⟨i, hi⟩
  dsimp only
  refine xs_plain (E := EE []) ?_
  refine lx_bin rfl rfl (fun _ => rfl) (fun _ => bin_lss_i _ _ _) rfl rfl ?_
  refine lx_nil ?_
  refine x_seq ?_
  refine x_if rfl (fun hc => ?_) (fun hc => ?_)
  · simp only [decide_eq_true_eq] at hc
    refine x_skip ?_
    refine x_seq ?_
    refine x_block ?_
    refine xs_plain (E := EE []) ?_
    refine lx_move rfl rfl rfl ?_
    refine lx_idxm U32 0 (i) rfl rfl Tryd.underlying50 Tryd.sizeOf49 Tryd.isAgg49 (by omega) (by omega) (hs) rfl rfl ?_
    refine lx_assign rfl rfl rfl ?_
    refine lx_assign rfl rfl rfl ?_
    refine lx_nil ?_
    refine xs_plain (E := EE []) ?_
    refine lx_move rfl rfl rfl ?_
    refine lx_bin rfl rfl (fun _ => rfl) (fun _ => bin_mul_i _ _ _ (by unfold inI; omega)) rfl rfl ?_
    refine lx_move rfl rfl rfl ?_
    refine lx_bin rfl rfl (fun _ => rfl) (fun _ => bin_shr_u32 _ _ _) rfl rfl ?_
    refine lx_conv rfl rfl (fun _ => conv_u32_u8 Tryd.underlying49 Tryd.underlying5 _) rfl rfl ?_
    refine lx_ia0 ((4 * i)) rfl rfl Tryd.underlying22 Tryd.sizeOf5 (by omega) (by omega) rfl rfl ?_
    refine lx_storem 3 U8 hGF rfl rfl rfl Tryd.sizeOf5 rfl (by simp [DG_len]; omega) rfl ?_
    refine lx_nil ?_
    refine xs_plain (E := EE []) ?_
    refine lx_move rfl rfl rfl ?_
    refine lx_bin rfl rfl (fun _ => rfl) (fun _ => bin_mul_i _ _ _ (by unfold inI; omega)) rfl rfl ?_
    refine lx_bin rfl rfl (fun _ => rfl) (fun _ => bin_add_i _ _ _ (by unfold inI; omega)) rfl rfl ?_
    refine lx_move rfl rfl rfl ?_
    refine lx_bin rfl rfl (fun _ => rfl) (fun _ => bin_shr_u32 _ _ _) rfl rfl ?_
    refine lx_conv rfl rfl (fun _ => conv_u32_u8 Tryd.underlying49 Tryd.underlying5 _) rfl rfl ?_
    refine lx_ia0 (((4 * i) + 1)) rfl rfl Tryd.underlying22 Tryd.sizeOf5 (by omega) (by omega) rfl rfl ?_
    refine lx_storem 3 U8 hGF rfl rfl rfl Tryd.sizeOf5 rfl (by simp [DG_len]; omega) rfl ?_
    refine lx_nil ?_
    refine xs_plain (E := EE []) ?_
    refine lx_move rfl rfl rfl ?_
    refine lx_bin rfl rfl (fun _ => rfl) (fun _ => bin_mul_i _ _ _ (by unfold inI; omega)) rfl rfl ?_
    refine lx_bin rfl rfl (fun _ => rfl) (fun _ => bin_add_i _ _ _ (by unfold inI; omega)) rfl rfl ?_
    refine lx_move rfl rfl rfl ?_
    refine lx_bin rfl rfl (fun _ => rfl) (fun _ => bin_shr_u32 _ _ _) rfl rfl ?_
    refine lx_conv rfl rfl (fun _ => conv_u32_u8 Tryd.underlying49 Tryd.underlying5 _) rfl rfl ?_
    refine lx_ia0 (((4 * i) + 2)) rfl rfl Tryd.underlying22 Tryd.sizeOf5 (by omega) (by omega) rfl rfl ?_
    refine lx_storem 3 U8 hGF rfl rfl rfl Tryd.sizeOf5 rfl (by simp [DG_len]; omega) rfl ?_
    refine lx_nil ?_
    refine x_plain (E := EE []) ?_
    refine lx_move rfl rfl rfl ?_
    refine lx_bin rfl rfl (fun _ => rfl) (fun _ => bin_mul_i _ _ _ (by unfold inI; omega)) rfl rfl ?_
    refine lx_bin rfl rfl (fun _ => rfl) (fun _ => bin_add_i _ _ _ (by unfold inI; omega)) rfl rfl ?_
    refine lx_move rfl rfl rfl ?_
    refine lx_conv rfl rfl (fun _ => conv_u32_u8 Tryd.underlying49 Tryd.underlying5 _) rfl rfl ?_
    refine lx_ia0 (((4 * i) + 3)) rfl rfl Tryd.underlying22 Tryd.sizeOf5 (by omega) (by omega) rfl rfl ?_
    refine lx_storem 3 U8 hGF rfl rfl rfl Tryd.sizeOf5 rfl (by simp [DG_len]; omega) rfl ?_
    refine lx_nil ?_
    refine x_plain (E := EE []) ?_
    refine lx_bin rfl rfl (fun _ => rfl) (fun _ => bin_add_i _ _ _ (by unfold inI; omega)) rfl rfl ?_
    refine lx_move rfl rfl rfl ?_
    refine lx_nil ?_
    refine kseq_n ?_
    exact ⟨rfl, ⟨i + 1, by omega⟩, _, by show 8 - (i + 1) < 8 - i; omega, rfl, ⟨rfl, rfl, rfl, rfl, trivial⟩, ⟨rfl, rfl, trivial⟩⟩
  · obtain rfl : i = 8 := by simp at hc; omega
    refine x_exit ?_
    refine xs_plain (E := EE []) ?_
    refine lx_loada 3 rfl rfl Tryd.isAgg22 Tryd.sizeOf22 (by rw [List.length_map, DG_len]) rfl rfl ?_
    refine lx_storea 2 hGF rfl rfl rfl Tryd.sizeOf22 (by rw [List.length_map, DG_len]) (by rw [List.length_map, List.length_replicate]) (one_u8 _) rfl ?_
    refine lx_nil ?_
    refine x_ret ?_
    repeat (first | refine kseq_ret ?_ | refine kblk_ret ?_)
    exact kret_own 2 rfl rfl rfl Tryd.isAgg22 Tryd.sizeOf22 (by rw [List.length_map, DG_len]) (fun w hw => ⟨rfl, hp_below hw⟩)
end Sh
end Go.Proofs.YtdkkipjcmflclaaDoor
