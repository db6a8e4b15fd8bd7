/-
  The walks of sums, differences, order and products.
  The walks of what is left by a modulus.
  The walks of what is left by a modulus, bit by bit.
  The walks of bytes and bits.
  The walk of Montgomery's product.
-/
import Derived.Test.YtdkmalaffcfoeaaGreatDoorX4
import Derived.Test.YtdkmalaffcfoeaaGreatDoorX5
namespace Go.Proofs.YtdkmalaffcfoeaaGreatDoor
open Go.RowKit
set_option maxRecDepth 100000
set_option maxHeartbeats 1000000
def sub64E : Array Value → Sem Value := fun args => do
  let (x, y, b) ← Extern.MathBitsCarry.three "Sub64" args
  pure (Extern.MathBitsCarry.pair ((x + Extern.MathBitsCarry.m64 - y - b) % Extern.MathBitsCarry.m64) (if x < y + b then 1 else 0))
theorem add64 (x y c : BitVec 64) (hc : c.toNat ≤ 1) (w : World) : (callFunc 124 [U64 x, U64 y, U64 c].toArray).run Tryz.prog w = .ok (.value (.tuple #[U64 (ADC x y c).1, U64 (ADC x y c).2])) w := by
  show (callFunc 124 #[U64 x, U64 y, U64 c]).run Tryz.prog w = _
  rw [run_callFunc_extern Tryz.func124 (by kernel_rfl) (by kernel_rfl) (by kernel_rfl) (e := add64Entry) (by kernel_rfl)]
  simp only [U64]
  rw [run_add64 _ _ _ (by omega) (by omega) (by omega) (by omega)]
  have h1 := x.isLt
  have h2 := y.isLt
  have e1 : ((x.toNat : Int) + (y.toNat : Int) + (c.toNat : Int)) % 18446744073709551616 = ((ADC x y c).1.toNat : Int) := by simp only [ADC, BitVec.toNat_ofNat]; omega
  have e2 : ((x.toNat : Int) + (y.toNat : Int) + (c.toNat : Int)) / 18446744073709551616 = ((ADC x y c).2.toNat : Int) := by simp only [ADC, BitVec.toNat_ofNat]; omega
  rw [e1, e2]
  rfl
theorem sub64 (x y c : BitVec 64) (hc : c.toNat ≤ 1) (w : World) : (callFunc 125 [U64 x, U64 y, U64 c].toArray).run Tryz.prog w = .ok (.value (.tuple #[U64 (SBB x y c).1, U64 (SBB x y c).2])) w := by
  show (callFunc 125 #[U64 x, U64 y, U64 c]).run Tryz.prog w = _
  rw [run_callFunc_extern Tryz.func125 (by kernel_rfl) (by kernel_rfl) (by kernel_rfl) (e := sub64E) (by kernel_rfl)]
  have key : ∀ b : Nat, b ≤ 1 → (sub64E #[.int .u64 (x.toNat : Int), .int .u64 (y.toNat : Int), .int .u64 (b : Int)]).run Tryz.prog w =
      .ok (.tuple #[.int .u64 (((x.toNat + 18446744073709551616 - y.toNat - b) % 18446744073709551616 : Nat) : Int), .int .u64 ((if x.toNat < y.toNat + b then 1 else 0 : Nat) : Int)]) w := fun b hb => by
    have : b = 0 ∨ b = 1 := by omega
    rcases this with rfl | rfl <;> rfl
  simp only [U64]
  rw [key _ hc]
  simp only [Result.andThen, SBB, BitVec.toNat_ofNat]
  congr 5
  split <;> rfl

theorem ent112 : Enters Tryz.prog 112 := fun _ _ => by kernel_rfl
theorem ent113 : Enters Tryz.prog 113 := fun _ _ => by kernel_rfl
theorem ent100 : Enters Tryz.prog 100 := fun _ _ => by kernel_rfl
theorem ent99 : Enters Tryz.prog 99 := fun _ _ => by kernel_rfl
theorem ent128 : Enters Tryz.prog 128 := fun _ _ => by kernel_rfl
theorem ent129 : Enters Tryz.prog 129 := fun _ _ => by kernel_rfl
theorem ent111 : Enters Tryz.prog 111 := fun _ _ => by kernel_rfl
theorem ent73 : Enters Tryz.prog 73 := fun _ _ => by kernel_rfl
theorem ent96 : Enters Tryz.prog 96 := fun _ _ => by kernel_rfl
theorem ent121 : Enters Tryz.prog 121 := fun _ _ => by kernel_rfl
theorem ent135 : Enters Tryz.prog 135 := fun _ _ => by kernel_rfl
theorem ent131 : Enters Tryz.prog 131 := fun _ _ => by kernel_rfl
theorem ent123 : Enters Tryz.prog 123 := fun _ _ => by kernel_rfl
theorem ent137 : Enters Tryz.prog 137 := fun _ _ => by kernel_rfl
theorem ent132 : Enters Tryz.prog 132 := fun _ _ => by kernel_rfl
theorem ent130 : Enters Tryz.prog 130 := fun _ _ => by kernel_rfl
theorem ent140 : Enters Tryz.prog 140 := fun _ _ => by kernel_rfl
theorem zv25 (w : World) : (zeroValue 25).run Tryz.prog w = .ok (.agg ((List.replicate 6 (0#64)).map U64).toArray) w := (Tryz.zeroValue25 w).trans (by rfl)
theorem zv33 (w : World) : (zeroValue 33).run Tryz.prog w = .ok (.agg ((List.replicate 6 (0#64)).map U64).toArray) w := (Tryz.zeroValue33 w).trans (by rfl)
theorem zv127 (w : World) : (zeroValue 127).run Tryz.prog w = .ok (.agg ((List.replicate 12 (0#64)).map U64).toArray) w := (Tryz.zeroValue127 w).trans (by rfl)
theorem zv98 (w : World) : (zeroValue 98).run Tryz.prog w = .ok (.agg ((List.replicate 48 (0#8)).map U8).toArray) w := (Tryz.zeroValue98 w).trans (by rfl)
theorem add_pure (a b : List (BitVec 64)) (ha : a.length = 6) (hb : b.length = 6) : Pure Tryz.prog Gt 112 [.agg ((a).map U64).toArray, .agg ((b).map U64).toArray] (.tuple #[.agg (((AS a b 6).1).map U64).toArray, U64 (AS a b 6).2]) := by
  intro w hw
  have hGF : BOk Gt (pl w) := gt_low.plain hw
  refine calls_of_X (G := Gt) Tryz.func112 rfl rfl (Hp (pl w) []) (hp_refl (pl w) trivial rides_true) (good_hp hGF) ?_
  refine xs_plain (E := EE []) ?_
  refine lx_boxr 2 hGF rfl rfl rfl ?_
  intro b2
  refine lx_boxr 3 hGF rfl rfl rfl ?_
  intro b3
  refine lx_allocr 4 hGF zv25 rfl rfl ?_
  intro b4
  refine lx_assign rfl rfl rfl ?_
  refine lx_nil ?_
  refine xs_plain (E := EE []) ?_
  refine lx_allocr 6 hGF zv25 rfl rfl ?_
  intro b6
  refine lx_nil ?_
  refine xs_plain (E := EE []) ?_
  refine lx_assign rfl rfl rfl ?_
  refine lx_nil ?_
  refine x_seq ?_
  refine xs_plain (E := EE []) ?_
  refine lx_move rfl rfl rfl ?_
  refine lx_nil ?_
  refine x_block ?_
  refine x_for (ι := { i : Nat // i ≤ 6 }) (fun x => [(2, .pointer (some ⟨b2, 0, none⟩)), (3, .pointer (some ⟨b3, 0, none⟩)), (4, .pointer (some ⟨b4, 0, none⟩)), (6, .pointer (some ⟨b6, 0, none⟩)), (7, U64 (AS a b x.1).2), (9, I (x.1 : Int))]) (fun x => [(2, b2, a.map U64, 25), (3, b3, b.map U64, 25), (4, b4, (List.replicate 6 0#64).map U64, 25), (6, b6, (AS a b x.1).1.map U64, 25)]) (fun x => 6 - x.1) ⟨0, by omega⟩ hGF ⟨rfl, rfl, rfl, rfl, rfl, rfl, trivial⟩ ⟨rfl, rfl, rfl, rfl, trivial⟩ ?_
  rintro ⟨i, hi⟩
  dsimp only
  refine xs_plain (E := EE []) ?_
  refine lx_bin rfl rfl (fun _ => rfl) (fun _ => bin_lss_i _ _ _) rfl rfl ?_
  refine lx_nil ?_
  refine x_seq ?_
  refine x_if rfl (fun hc => ?_) (fun hc => ?_)
  · simp only [decide_eq_true_eq] at hc
    refine x_skip ?_
    refine x_seq ?_
    refine x_block ?_
    refine xs_plain (E := EE []) ?_
    refine lx_move rfl rfl rfl ?_
    refine lx_assign rfl rfl rfl ?_
    refine lx_nil ?_
    refine x_drawn (E := EE []) mixed (by kernel_rfl) (by kernel_rfl) (by kernel_rfl) ?_
    refine lx_move rfl rfl rfl ?_
    refine lx_move rfl rfl rfl ?_
    refine lx_ia0 (i) rfl rfl Tryz.underlying25 Tryz.sizeOf24 (by omega) (by omega) rfl rfl ?_
    refine lx_loadm 2 U64 0 rfl rfl Tryz.isAgg24 (by rw [ha]; omega) rfl rfl ?_
    refine lx_move rfl rfl rfl ?_
    refine lx_ia0 (i) rfl rfl Tryz.underlying25 Tryz.sizeOf24 (by omega) (by omega) rfl rfl ?_
    refine lx_loadm 3 U64 0 rfl rfl Tryz.isAgg24 (by rw [hb]; omega) rfl rfl ?_
    refine lx_move rfl rfl rfl ?_
    refine lx_ext1 rfl rfl (fun w => add64 _ _ _ (AS_c a b i) w) rfl rfl ?_
    refine lx_move rfl rfl rfl ?_
    refine lx_ext rfl rfl rfl rfl ?_
    refine lx_ext rfl rfl rfl rfl ?_
    refine lx_ia0 (i) rfl rfl Tryz.underlying25 Tryz.sizeOf24 (by omega) (by omega) rfl rfl ?_
    refine lx_storem 6 U64 hGF rfl rfl rfl Tryz.sizeOf24 rfl (by rw [AS_len]; omega) rfl ?_
    refine lx_assign rfl rfl rfl ?_
    refine lx_nil ?_
    refine x_plain (E := EE []) ?_
    refine lx_bin rfl rfl (fun _ => rfl) (fun _ => bin_add_i _ _ _ (by unfold inI; omega)) rfl rfl ?_
    refine lx_move rfl rfl rfl ?_
    refine lx_nil ?_
    repeat (refine kblk_n ?_)
    refine kseq_n ?_
    exact ⟨rfl, ⟨i + 1, by omega⟩, _, by show 6 - (i + 1) < 6 - i; omega, rfl, ⟨rfl, rfl, rfl, rfl, rfl, rfl, trivial⟩, ⟨rfl, rfl, rfl, rfl, trivial⟩⟩
  · obtain rfl : i = 6 := by simp at hc; omega
    refine x_exit ?_
    refine xs_plain (E := EE []) ?_
    refine lx_loada 6 rfl rfl Tryz.isAgg25 Tryz.sizeOf25 (by rw [List.length_map, AS_len]) rfl rfl ?_
    refine lx_move rfl rfl rfl ?_
    refine lx_storea 4 hGF rfl rfl rfl Tryz.sizeOf25 (by rw [List.length_map, AS_len]) (by rw [List.length_map, List.length_replicate]) (one_u64 _) rfl ?_
    refine lx_assign rfl rfl rfl ?_
    refine lx_nil ?_
    refine x_ret ?_
    repeat (first | refine kseq_ret ?_ | refine kblk_ret ?_)
    exact kret_ct 4 rfl rfl rfl rfl Tryz.isAgg25 Tryz.sizeOf25 (by rw [List.length_map, AS_len]) (fun w hw => ⟨rfl, hp_below hw⟩)
theorem sub_pure (a b : List (BitVec 64)) (ha : a.length = 6) (hb : b.length = 6) : Pure Tryz.prog Gt 113 [.agg ((a).map U64).toArray, .agg ((b).map U64).toArray] (.tuple #[.agg (((SS a b 6).1).map U64).toArray, U64 (SS a b 6).2]) := by
  intro w hw
  have hGF : BOk Gt (pl w) := gt_low.plain hw
  refine calls_of_X (G := Gt) Tryz.func113 rfl rfl (Hp (pl w) []) (hp_refl (pl w) trivial rides_true) (good_hp hGF) ?_
  refine xs_plain (E := EE []) ?_
  refine lx_boxr 2 hGF rfl rfl rfl ?_
  intro b2
  refine lx_boxr 3 hGF rfl rfl rfl ?_
  intro b3
  refine lx_allocr 4 hGF zv25 rfl rfl ?_
  intro b4
  refine lx_assign rfl rfl rfl ?_
  refine lx_nil ?_
  refine xs_plain (E := EE []) ?_
  refine lx_allocr 6 hGF zv25 rfl rfl ?_
  intro b6
  refine lx_nil ?_
  refine xs_plain (E := EE []) ?_
  refine lx_assign rfl rfl rfl ?_
  refine lx_nil ?_
  refine x_seq ?_
  refine xs_plain (E := EE []) ?_
  refine lx_move rfl rfl rfl ?_
  refine lx_nil ?_
  refine x_block ?_
  refine x_for (ι := { i : Nat // i ≤ 6 }) (fun x => [(2, .pointer (some ⟨b2, 0, none⟩)), (3, .pointer (some ⟨b3, 0, none⟩)), (4, .pointer (some ⟨b4, 0, none⟩)), (6, .pointer (some ⟨b6, 0, none⟩)), (7, U64 (SS a b x.1).2), (9, I (x.1 : Int))]) (fun x => [(2, b2, a.map U64, 25), (3, b3, b.map U64, 25), (4, b4, (List.replicate 6 0#64).map U64, 25), (6, b6, (SS a b x.1).1.map U64, 25)]) (fun x => 6 - x.1) ⟨0, by omega⟩ hGF ⟨rfl, rfl, rfl, rfl, rfl, rfl, trivial⟩ ⟨rfl, rfl, rfl, rfl, trivial⟩ ?_
  rintro ⟨i, hi⟩
  dsimp only
  refine xs_plain (E := EE []) ?_
  refine lx_bin rfl rfl (fun _ => rfl) (fun _ => bin_lss_i _ _ _) rfl rfl ?_
  refine lx_nil ?_
  refine x_seq ?_
  refine x_if rfl (fun hc => ?_) (fun hc => ?_)
  · simp only [decide_eq_true_eq] at hc
    refine x_skip ?_
    refine x_seq ?_
    refine x_block ?_
    refine xs_plain (E := EE []) ?_
    refine lx_move rfl rfl rfl ?_
    refine lx_assign rfl rfl rfl ?_
    refine lx_nil ?_
    refine x_drawn (E := EE []) mixed (by kernel_rfl) (by kernel_rfl) (by kernel_rfl) ?_
    refine lx_move rfl rfl rfl ?_
    refine lx_move rfl rfl rfl ?_
    refine lx_ia0 (i) rfl rfl Tryz.underlying25 Tryz.sizeOf24 (by omega) (by omega) rfl rfl ?_
    refine lx_loadm 2 U64 0 rfl rfl Tryz.isAgg24 (by rw [ha]; omega) rfl rfl ?_
    refine lx_move rfl rfl rfl ?_
    refine lx_ia0 (i) rfl rfl Tryz.underlying25 Tryz.sizeOf24 (by omega) (by omega) rfl rfl ?_
    refine lx_loadm 3 U64 0 rfl rfl Tryz.isAgg24 (by rw [hb]; omega) rfl rfl ?_
    refine lx_move rfl rfl rfl ?_
    refine lx_ext1 rfl rfl (fun w => sub64 _ _ _ (SS_c a b i) w) rfl rfl ?_
    refine lx_move rfl rfl rfl ?_
    refine lx_ext rfl rfl rfl rfl ?_
    refine lx_ext rfl rfl rfl rfl ?_
    refine lx_ia0 (i) rfl rfl Tryz.underlying25 Tryz.sizeOf24 (by omega) (by omega) rfl rfl ?_
    refine lx_storem 6 U64 hGF rfl rfl rfl Tryz.sizeOf24 rfl (by rw [SS_len]; omega) rfl ?_
    refine lx_assign rfl rfl rfl ?_
    refine lx_nil ?_
    refine x_plain (E := EE []) ?_
    refine lx_bin rfl rfl (fun _ => rfl) (fun _ => bin_add_i _ _ _ (by unfold inI; omega)) rfl rfl ?_
    refine lx_move rfl rfl rfl ?_
    refine lx_nil ?_
    repeat (refine kblk_n ?_)
    refine kseq_n ?_
    exact ⟨rfl, ⟨i + 1, by omega⟩, _, by show 6 - (i + 1) < 6 - i; omega, rfl, ⟨rfl, rfl, rfl, rfl, rfl, rfl, trivial⟩, ⟨rfl, rfl, rfl, rfl, trivial⟩⟩
  · obtain rfl : i = 6 := by simp at hc; omega
    refine x_exit ?_
    refine xs_plain (E := EE []) ?_
    refine lx_loada 6 rfl rfl Tryz.isAgg25 Tryz.sizeOf25 (by rw [List.length_map, SS_len]) rfl rfl ?_
    refine lx_move rfl rfl rfl ?_
    refine lx_storea 4 hGF rfl rfl rfl Tryz.sizeOf25 (by rw [List.length_map, SS_len]) (by rw [List.length_map, List.length_replicate]) (one_u64 _) rfl ?_
    refine lx_assign rfl rfl rfl ?_
    refine lx_nil ?_
    refine x_ret ?_
    repeat (first | refine kseq_ret ?_ | refine kblk_ret ?_)
    exact kret_ct 4 rfl rfl rfl rfl Tryz.isAgg25 Tryz.sizeOf25 (by rw [List.length_map, SS_len]) (fun w hw => ⟨rfl, hp_below hw⟩)
theorem radd_pure (a b : List (BitVec 64)) (ha : a.length = 6) (hb : b.length = 6) : Pure Tryz.prog Gt 100 [.agg ((a).map U64).toArray, .agg ((b).map U64).toArray] (.tuple #[.agg (((AS a b 6).1).map U64).toArray, U64 (AS a b 6).2]) := by
  intro w hw
  have hGF : BOk Gt (pl w) := gt_low.plain hw
  refine calls_of_X (G := Gt) Tryz.func100 rfl rfl (Hp (pl w) []) (hp_refl (pl w) trivial rides_true) (good_hp hGF) ?_
  refine xs_plain (E := EE []) ?_
  refine lx_boxr 2 hGF rfl rfl rfl ?_
  intro b2
  refine lx_boxr 3 hGF rfl rfl rfl ?_
  intro b3
  refine lx_allocr 4 hGF zv33 rfl rfl ?_
  intro b4
  refine lx_assign rfl rfl rfl ?_
  refine lx_nil ?_
  refine xs_plain (E := EE []) ?_
  refine lx_allocr 6 hGF zv33 rfl rfl ?_
  intro b6
  refine lx_nil ?_
  refine xs_plain (E := EE []) ?_
  refine lx_assign rfl rfl rfl ?_
  refine lx_nil ?_
  refine x_seq ?_
  refine xs_plain (E := EE []) ?_
  refine lx_assign rfl rfl rfl ?_
  refine lx_nil ?_
  refine x_block ?_
  refine x_for (ι := { i : Nat // i ≤ 6 }) (fun x => [(2, .pointer (some ⟨b2, 0, none⟩)), (3, .pointer (some ⟨b3, 0, none⟩)), (4, .pointer (some ⟨b4, 0, none⟩)), (6, .pointer (some ⟨b6, 0, none⟩)), (7, U64 (AS a b x.1).2), (8, I (x.1 : Int))]) (fun x => [(2, b2, a.map U64, 33), (3, b3, b.map U64, 33), (4, b4, (List.replicate 6 0#64).map U64, 33), (6, b6, (AS a b x.1).1.map U64, 33)]) (fun x => 6 - x.1) ⟨0, by omega⟩ hGF ⟨rfl, rfl, rfl, rfl, rfl, rfl, trivial⟩ ⟨rfl, rfl, rfl, rfl, trivial⟩ ?_
  rintro ⟨i, hi⟩
  dsimp only
  refine x_seq ?_
  refine xs_plain (E := EE []) ?_
  refine lx_move rfl rfl rfl ?_
  refine lx_bin rfl rfl (fun _ => rfl) (fun _ => bin_lss_i _ _ _) rfl rfl ?_
  refine lx_nil ?_
  refine x_if rfl (fun hc => ?_) (fun hc => ?_)
  · simp only [decide_eq_true_eq] at hc
    refine x_skip ?_
    refine x_seq ?_
    refine x_block ?_
    refine x_drawn (E := EE []) mixed (by kernel_rfl) (by kernel_rfl) (by kernel_rfl) ?_
    refine lx_move rfl rfl rfl ?_
    refine lx_move rfl rfl rfl ?_
    refine lx_ia0 (i) rfl rfl Tryz.underlying33 Tryz.sizeOf24 (by omega) (by omega) rfl rfl ?_
    refine lx_loadm 2 U64 0 rfl rfl Tryz.isAgg24 (by rw [ha]; omega) rfl rfl ?_
    refine lx_move rfl rfl rfl ?_
    refine lx_ia0 (i) rfl rfl Tryz.underlying33 Tryz.sizeOf24 (by omega) (by omega) rfl rfl ?_
    refine lx_loadm 3 U64 0 rfl rfl Tryz.isAgg24 (by rw [hb]; omega) rfl rfl ?_
    refine lx_move rfl rfl rfl ?_
    refine lx_ext1 rfl rfl (fun w => add64 _ _ _ (AS_c a b i) w) rfl rfl ?_
    refine lx_move rfl rfl rfl ?_
    refine lx_ext rfl rfl rfl rfl ?_
    refine lx_ext rfl rfl rfl rfl ?_
    refine lx_ia0 (i) rfl rfl Tryz.underlying33 Tryz.sizeOf24 (by omega) (by omega) rfl rfl ?_
    refine lx_storem 6 U64 hGF rfl rfl rfl Tryz.sizeOf24 rfl (by rw [AS_len]; omega) rfl ?_
    refine lx_assign rfl rfl rfl ?_
    refine lx_nil ?_
    refine x_plain (E := EE []) ?_
    refine lx_move rfl rfl rfl ?_
    refine lx_bin rfl rfl (fun _ => rfl) (fun _ => bin_add_i _ _ _ (by unfold inI; omega)) rfl rfl ?_
    refine lx_assign rfl rfl rfl ?_
    refine lx_nil ?_
    repeat (refine kblk_n ?_)
    refine kseq_n ?_
    exact ⟨rfl, ⟨i + 1, by omega⟩, _, by show 6 - (i + 1) < 6 - i; omega, rfl, ⟨rfl, rfl, rfl, rfl, rfl, rfl, trivial⟩, ⟨rfl, rfl, rfl, rfl, trivial⟩⟩
  · obtain rfl : i = 6 := by simp at hc; omega
    refine x_exit ?_
    refine xs_plain (E := EE []) ?_
    refine lx_loada 6 rfl rfl Tryz.isAgg33 Tryz.sizeOf33 (by rw [List.length_map, AS_len]) rfl rfl ?_
    refine lx_move rfl rfl rfl ?_
    refine lx_storea 4 hGF rfl rfl rfl Tryz.sizeOf33 (by rw [List.length_map, AS_len]) (by rw [List.length_map, List.length_replicate]) (one_u64 _) rfl ?_
    refine lx_assign rfl rfl rfl ?_
    refine lx_nil ?_
    refine x_ret ?_
    repeat (first | refine kseq_ret ?_ | refine kblk_ret ?_)
    exact kret_ct 4 rfl rfl rfl rfl Tryz.isAgg33 Tryz.sizeOf33 (by rw [List.length_map, AS_len]) (fun w hw => ⟨rfl, hp_below hw⟩)
theorem rsub_pure (a b : List (BitVec 64)) (ha : a.length = 6) (hb : b.length = 6) : Pure Tryz.prog Gt 99 [.agg ((a).map U64).toArray, .agg ((b).map U64).toArray] (.tuple #[.agg (((SS a b 6).1).map U64).toArray, U64 (SS a b 6).2]) := by
  intro w hw
  have hGF : BOk Gt (pl w) := gt_low.plain hw
  refine calls_of_X (G := Gt) Tryz.func99 rfl rfl (Hp (pl w) []) (hp_refl (pl w) trivial rides_true) (good_hp hGF) ?_
  refine xs_plain (E := EE []) ?_
  refine lx_boxr 2 hGF rfl rfl rfl ?_
  intro b2
  refine lx_boxr 3 hGF rfl rfl rfl ?_
  intro b3
  refine lx_allocr 4 hGF zv33 rfl rfl ?_
  intro b4
  refine lx_assign rfl rfl rfl ?_
  refine lx_nil ?_
  refine xs_plain (E := EE []) ?_
  refine lx_allocr 6 hGF zv33 rfl rfl ?_
  intro b6
  refine lx_nil ?_
  refine xs_plain (E := EE []) ?_
  refine lx_assign rfl rfl rfl ?_
  refine lx_nil ?_
  refine x_seq ?_
  refine xs_plain (E := EE []) ?_
  refine lx_assign rfl rfl rfl ?_
  refine lx_nil ?_
  refine x_block ?_
  refine x_for (ι := { i : Nat // i ≤ 6 }) (fun x => [(2, .pointer (some ⟨b2, 0, none⟩)), (3, .pointer (some ⟨b3, 0, none⟩)), (4, .pointer (some ⟨b4, 0, none⟩)), (6, .pointer (some ⟨b6, 0, none⟩)), (7, U64 (SS a b x.1).2), (8, I (x.1 : Int))]) (fun x => [(2, b2, a.map U64, 33), (3, b3, b.map U64, 33), (4, b4, (List.replicate 6 0#64).map U64, 33), (6, b6, (SS a b x.1).1.map U64, 33)]) (fun x => 6 - x.1) ⟨0, by omega⟩ hGF ⟨rfl, rfl, rfl, rfl, rfl, rfl, trivial⟩ ⟨rfl, rfl, rfl, rfl, trivial⟩ ?_
  rintro ⟨i, hi⟩
  dsimp only
  refine x_seq ?_
  refine xs_plain (E := EE []) ?_
  refine lx_move rfl rfl rfl ?_
  refine lx_bin rfl rfl (fun _ => rfl) (fun _ => bin_lss_i _ _ _) rfl rfl ?_
  refine lx_nil ?_
  refine x_if rfl (fun hc => ?_) (fun hc => ?_)
  · simp only [decide_eq_true_eq] at hc
    refine x_skip ?_
    refine x_seq ?_
    refine x_block ?_
    refine x_drawn (E := EE []) mixed (by kernel_rfl) (by kernel_rfl) (by kernel_rfl) ?_
    refine lx_move rfl rfl rfl ?_
    refine lx_move rfl rfl rfl ?_
    refine lx_ia0 (i) rfl rfl Tryz.underlying33 Tryz.sizeOf24 (by omega) (by omega) rfl rfl ?_
    refine lx_loadm 2 U64 0 rfl rfl Tryz.isAgg24 (by rw [ha]; omega) rfl rfl ?_
    refine lx_move rfl rfl rfl ?_
    refine lx_ia0 (i) rfl rfl Tryz.underlying33 Tryz.sizeOf24 (by omega) (by omega) rfl rfl ?_
    refine lx_loadm 3 U64 0 rfl rfl Tryz.isAgg24 (by rw [hb]; omega) rfl rfl ?_
    refine lx_move rfl rfl rfl ?_
    refine lx_ext1 rfl rfl (fun w => sub64 _ _ _ (SS_c a b i) w) rfl rfl ?_
    refine lx_move rfl rfl rfl ?_
    refine lx_ext rfl rfl rfl rfl ?_
    refine lx_ext rfl rfl rfl rfl ?_
    refine lx_ia0 (i) rfl rfl Tryz.underlying33 Tryz.sizeOf24 (by omega) (by omega) rfl rfl ?_
    refine lx_storem 6 U64 hGF rfl rfl rfl Tryz.sizeOf24 rfl (by rw [SS_len]; omega) rfl ?_
    refine lx_assign rfl rfl rfl ?_
    refine lx_nil ?_
    refine x_plain (E := EE []) ?_
    refine lx_move rfl rfl rfl ?_
    refine lx_bin rfl rfl (fun _ => rfl) (fun _ => bin_add_i _ _ _ (by unfold inI; omega)) rfl rfl ?_
    refine lx_assign rfl rfl rfl ?_
    refine lx_nil ?_
    repeat (refine kblk_n ?_)
    refine kseq_n ?_
    exact ⟨rfl, ⟨i + 1, by omega⟩, _, by show 6 - (i + 1) < 6 - i; omega, rfl, ⟨rfl, rfl, rfl, rfl, rfl, rfl, trivial⟩, ⟨rfl, rfl, rfl, rfl, trivial⟩⟩
  · obtain rfl : i = 6 := by simp at hc; omega
    refine x_exit ?_
    refine xs_plain (E := EE []) ?_
    refine lx_loada 6 rfl rfl Tryz.isAgg33 Tryz.sizeOf33 (by rw [List.length_map, SS_len]) rfl rfl ?_
    refine lx_move rfl rfl rfl ?_
    refine lx_storea 4 hGF rfl rfl rfl Tryz.sizeOf33 (by rw [List.length_map, SS_len]) (by rw [List.length_map, List.length_replicate]) (one_u64 _) rfl ?_
    refine lx_assign rfl rfl rfl ?_
    refine lx_nil ?_
    refine x_ret ?_
    repeat (first | refine kseq_ret ?_ | refine kblk_ret ?_)
    exact kret_ct 4 rfl rfl rfl rfl Tryz.isAgg33 Tryz.sizeOf33 (by rw [List.length_map, SS_len]) (fun w hw => ⟨rfl, hp_below hw⟩)
theorem less_pure (a b : List (BitVec 64)) (ha : a.length = 6) (hb : b.length = 6) : Pure Tryz.prog Gt 128 [.agg ((a).map U64).toArray, .agg ((b).map U64).toArray] (.bool (LT a b 6)) := by
  intro w hw
  have hGF : BOk Gt (pl w) := gt_low.plain hw
  refine calls_of_X (G := Gt) Tryz.func128 rfl rfl (Hp (pl w) []) (hp_refl (pl w) trivial rides_true) (good_hp hGF) ?_
  refine xs_plain (E := EE []) ?_
  refine lx_boxr 2 hGF rfl rfl rfl ?_
  intro b2
  refine lx_boxr 3 hGF rfl rfl rfl ?_
  intro b3
  refine lx_assign rfl rfl rfl ?_
  refine lx_nil ?_
  refine x_scope ?_
  refine x_seq ?_
  refine x_label ?_
  refine x_seq ?_
  refine xs_plain (E := EE []) ?_
  refine lx_assign rfl rfl rfl ?_
  refine lx_nil ?_
  refine x_block ?_
  refine x_for (ι := { i : Nat // i ≤ 6 ∧ LT a b 6 = LT a b i }) (fun x => [(2, .pointer (some ⟨b2, 0, none⟩)), (3, .pointer (some ⟨b3, 0, none⟩)), (4, .bool false), (5, I ((x.1 : Int) - 1))]) (fun x => [(2, b2, a.map U64, 25), (3, b3, b.map U64, 25)]) (fun x => x.1) ⟨6, by omega, rfl⟩ hGF ⟨rfl, rfl, rfl, rfl, trivial⟩ ⟨rfl, rfl, trivial⟩ ?_
  rintro ⟨i, hi, hlt⟩
  dsimp only
  refine x_seq ?_
  refine xs_plain (E := EE []) ?_
  refine lx_move rfl rfl rfl ?_
  refine lx_bin rfl rfl (fun _ => rfl) (fun _ => bin_geq_i _ _ _) rfl rfl ?_
  refine lx_nil ?_
  refine x_if rfl (fun hc => ?_) (fun hc => ?_)
  · simp only [decide_eq_true_eq] at hc
    obtain ⟨k, rfl⟩ : ∃ k, i = k + 1 := ⟨i - 1, by omega⟩
    refine x_skip ?_
    refine x_seq ?_
    refine x_block ?_
    refine x_block ?_
    refine xs_drawn (E := EE []) mixed (by kernel_rfl) (by kernel_rfl) (by kernel_rfl) ?_
    refine lx_move rfl rfl rfl ?_
    refine lx_ia0 (k) rfl rfl Tryz.underlying25 Tryz.sizeOf24 (by omega) (by omega) rfl rfl ?_
    refine lx_loadm 2 U64 0 rfl rfl Tryz.isAgg24 (by rw [ha]; omega) rfl rfl ?_
    refine lx_move rfl rfl rfl ?_
    refine lx_ia0 (k) rfl rfl Tryz.underlying25 Tryz.sizeOf24 (by omega) (by omega) rfl rfl ?_
    refine lx_loadm 3 U64 0 rfl rfl Tryz.isAgg24 (by rw [hb]; omega) rfl rfl ?_
    refine lx_bin rfl rfl (fun _ => rfl) (fun _ => bin_lss_u64 _ _ _) rfl rfl ?_
    refine lx_assign rfl rfl rfl ?_
    refine lx_nil ?_
    refine x_if rfl (fun hc => ?_) (fun hc => ?_)
    · simp only [decide_eq_true_eq] at hc
      have hfin : LT a b 6 = true := by rw [hlt, LT, if_pos hc]
      refine xs_plain (E := EE []) ?_
      refine lx_assign rfl rfl rfl ?_
      refine lx_nil ?_
      refine x_ret ?_
      repeat (first | refine kseq_ret ?_ | refine kblk_ret ?_ | refine kng_ret ?_)
      exact kret_tmp rfl rfl (fun w hw => ⟨by rw [hfin]; rfl, hp_below hw⟩)
    · simp only [decide_eq_false_iff_not] at hc
      have hc1 := hc
      refine xs_drawn (E := EE []) mixed (by kernel_rfl) (by kernel_rfl) (by kernel_rfl) ?_
      refine lx_move rfl rfl rfl ?_
      refine lx_ia0 (k) rfl rfl Tryz.underlying25 Tryz.sizeOf24 (by omega) (by omega) rfl rfl ?_
      refine lx_loadm 2 U64 0 rfl rfl Tryz.isAgg24 (by rw [ha]; omega) rfl rfl ?_
      refine lx_move rfl rfl rfl ?_
      refine lx_ia0 (k) rfl rfl Tryz.underlying25 Tryz.sizeOf24 (by omega) (by omega) rfl rfl ?_
      refine lx_loadm 3 U64 0 rfl rfl Tryz.isAgg24 (by rw [hb]; omega) rfl rfl ?_
      refine lx_bin rfl rfl (fun _ => rfl) (fun _ => bin_gtr_u64 _ _ _) rfl rfl ?_
      refine lx_assign rfl rfl rfl ?_
      refine lx_nil ?_
      refine x_if rfl (fun hc => ?_) (fun hc => ?_)
      · simp only [decide_eq_true_eq] at hc
        have hfin : LT a b 6 = false := by rw [hlt, LT, if_neg hc1, if_pos hc]
        refine x_exit ?_
        refine xs_plain (E := EE []) ?_
        refine lx_assign rfl rfl rfl ?_
        refine lx_nil ?_
        refine x_ret ?_
        repeat (first | refine kseq_ret ?_ | refine kblk_ret ?_ | refine kng_ret ?_)
        exact kret_tmp rfl rfl (fun w hw => ⟨by rw [hfin]; rfl, hp_below hw⟩)
      · simp only [decide_eq_false_iff_not] at hc
        refine x_skip ?_
        refine x_plain (E := EE []) ?_
        refine lx_move rfl rfl rfl ?_
        refine lx_bin (v := I ((k : Int) - 1)) rfl rfl (fun _ => rfl) (fun _ => (bin_sub_i _ _ _ (by unfold inI; omega)).trans (by rw [show (((k + 1 : Nat) : Int) - 1) - 1 = (k : Int) - 1 by omega])) rfl rfl ?_
        refine lx_assign rfl rfl rfl ?_
        refine lx_nil ?_
        repeat (refine kblk_n ?_)
        refine kseq_n ?_
        exact ⟨rfl, ⟨k, by omega, by rw [hlt, LT, if_neg hc1, if_neg hc]⟩, _, by show k < k + 1; omega, rfl, ⟨rfl, rfl, rfl, rfl, trivial⟩, ⟨rfl, rfl, trivial⟩⟩
  · simp only [decide_eq_false_iff_not] at hc
    obtain rfl : i = 0 := by omega
    have hfin : LT a b 6 = false := hlt
    refine x_exit ?_
    refine xs_plain (E := EE []) ?_
    refine lx_assign rfl rfl rfl ?_
    refine lx_nil ?_
    refine x_ret ?_
    repeat (first | refine kseq_ret ?_ | refine kblk_ret ?_ | refine kng_ret ?_)
    exact kret_tmp rfl rfl (fun w hw => ⟨by rw [hfin]; rfl, hp_below hw⟩)
theorem mul64_pure (x y : BitVec 64) : Pure Tryz.prog Gt 123 [U64 x, U64 y] (.tuple #[U64 (MH x y), U64 (MLo x y)]) := by
  intro w hw
  have hGF : BOk Gt (pl w) := gt_low.plain hw
  refine calls_of_X (G := Gt) Tryz.func123 rfl rfl (Hp (pl w) []) (hp_refl (pl w) trivial rides_true) (good_hp hGF) ?_
  refine xs_plain (E := EE []) ?_
  refine lx_assign rfl rfl rfl ?_
  refine lx_assign rfl rfl rfl ?_
  refine lx_nil ?_
  refine xs_plain (E := EE []) ?_
  refine lx_move rfl rfl rfl ?_
  refine lx_bin rfl rfl (fun _ => rfl) (fun _ => bin_and_u64 _ _ _) rfl rfl ?_
  refine lx_assign rfl rfl rfl ?_
  refine lx_nil ?_
  refine xs_plain (E := EE []) ?_
  refine lx_move rfl rfl rfl ?_
  refine lx_bin rfl rfl (fun _ => rfl) (fun _ => bin_shr_u64 _ _ _) rfl rfl ?_
  refine lx_assign rfl rfl rfl ?_
  refine lx_nil ?_
  refine xs_plain (E := EE []) ?_
  refine lx_move rfl rfl rfl ?_
  refine lx_bin rfl rfl (fun _ => rfl) (fun _ => bin_and_u64 _ _ _) rfl rfl ?_
  refine lx_assign rfl rfl rfl ?_
  refine lx_nil ?_
  refine xs_plain (E := EE []) ?_
  refine lx_move rfl rfl rfl ?_
  refine lx_bin rfl rfl (fun _ => rfl) (fun _ => bin_shr_u64 _ _ _) rfl rfl ?_
  refine lx_assign rfl rfl rfl ?_
  refine lx_nil ?_
  refine xs_plain (E := EE []) ?_
  refine lx_move rfl rfl rfl ?_
  refine lx_move rfl rfl rfl ?_
  refine lx_bin rfl rfl (fun _ => rfl) (fun _ => bin_mul_u64 _ _ _) rfl rfl ?_
  refine lx_assign rfl rfl rfl ?_
  refine lx_nil ?_
  refine xs_plain (E := EE []) ?_
  refine lx_move rfl rfl rfl ?_
  refine lx_move rfl rfl rfl ?_
  refine lx_bin rfl rfl (fun _ => rfl) (fun _ => bin_mul_u64 _ _ _) rfl rfl ?_
  refine lx_move rfl rfl rfl ?_
  refine lx_bin rfl rfl (fun _ => rfl) (fun _ => bin_shr_u64 _ _ _) rfl rfl ?_
  refine lx_bin rfl rfl (fun _ => rfl) (fun _ => bin_add_u64 _ _ _) rfl rfl ?_
  refine lx_assign rfl rfl rfl ?_
  refine lx_nil ?_
  refine xs_plain (E := EE []) ?_
  refine lx_move rfl rfl rfl ?_
  refine lx_bin rfl rfl (fun _ => rfl) (fun _ => bin_and_u64 _ _ _) rfl rfl ?_
  refine lx_assign rfl rfl rfl ?_
  refine lx_nil ?_
  refine xs_plain (E := EE []) ?_
  refine lx_move rfl rfl rfl ?_
  refine lx_bin rfl rfl (fun _ => rfl) (fun _ => bin_shr_u64 _ _ _) rfl rfl ?_
  refine lx_assign rfl rfl rfl ?_
  refine lx_nil ?_
  refine xs_plain (E := EE []) ?_
  refine lx_move rfl rfl rfl ?_
  refine lx_move rfl rfl rfl ?_
  refine lx_move rfl rfl rfl ?_
  refine lx_bin rfl rfl (fun _ => rfl) (fun _ => bin_mul_u64 _ _ _) rfl rfl ?_
  refine lx_bin rfl rfl (fun _ => rfl) (fun _ => bin_add_u64 _ _ _) rfl rfl ?_
  refine lx_assign rfl rfl rfl ?_
  refine lx_nil ?_
  refine xs_plain (E := EE []) ?_
  refine lx_move rfl rfl rfl ?_
  refine lx_move rfl rfl rfl ?_
  refine lx_bin rfl rfl (fun _ => rfl) (fun _ => bin_mul_u64 _ _ _) rfl rfl ?_
  refine lx_move rfl rfl rfl ?_
  refine lx_bin rfl rfl (fun _ => rfl) (fun _ => bin_add_u64 _ _ _) rfl rfl ?_
  refine lx_move rfl rfl rfl ?_
  refine lx_bin rfl rfl (fun _ => rfl) (fun _ => bin_shr_u64 _ _ _) rfl rfl ?_
  refine lx_bin rfl rfl (fun _ => rfl) (fun _ => bin_add_u64 _ _ _) rfl rfl ?_
  refine lx_assign rfl rfl rfl ?_
  refine lx_nil ?_
  refine xs_plain (E := EE []) ?_
  refine lx_move rfl rfl rfl ?_
  refine lx_move rfl rfl rfl ?_
  refine lx_bin rfl rfl (fun _ => rfl) (fun _ => bin_mul_u64 _ _ _) rfl rfl ?_
  refine lx_assign rfl rfl rfl ?_
  refine lx_nil ?_
  refine x_ret ?_
  repeat (first | refine kseq_ret ?_ | refine kblk_ret ?_)
  exact kret_tt rfl rfl rfl (fun w hw => ⟨by rw [← MH_eq, ← MLo_eq]; rfl, hp_below hw⟩)
theorem mulAdd_pure (x y c d : BitVec 64) : Pure Tryz.prog Gt 131 [U64 x, U64 y, U64 c, U64 d] (.tuple #[U64 (MA x y c d).1, U64 (MA x y c d).2]) := by
  intro w hw
  have hGF : BOk Gt (pl w) := gt_low.plain hw
  refine calls_of_X (G := Gt) Tryz.func131 rfl rfl (Hp (pl w) []) (hp_refl (pl w) trivial rides_true) (good_hp hGF) ?_
  refine xs_plain (E := EE []) ?_
  refine lx_assign rfl rfl rfl ?_
  refine lx_assign rfl rfl rfl ?_
  refine lx_nil ?_
  refine xs_plain (E := EE []) ?_
  refine lx_move rfl rfl rfl ?_
  refine lx_move rfl rfl rfl ?_
  refine lx_call rfl rfl ent123 (mul64_pure _ _) rfl rfl ?_
  refine lx_move rfl rfl rfl ?_
  refine lx_ext rfl rfl rfl rfl ?_
  refine lx_ext rfl rfl rfl rfl ?_
  refine lx_assign rfl rfl rfl ?_
  refine lx_assign rfl rfl rfl ?_
  refine lx_nil ?_
  refine xs_plain (E := EE []) ?_
  refine lx_move rfl rfl rfl ?_
  refine lx_move rfl rfl rfl ?_
  refine lx_ext1 rfl rfl (fun w => add64 _ _ _ (by decide) w) rfl rfl ?_
  refine lx_move rfl rfl rfl ?_
  refine lx_ext rfl rfl rfl rfl ?_
  refine lx_ext rfl rfl rfl rfl ?_
  refine lx_assign rfl rfl rfl ?_
  refine lx_assign rfl rfl rfl ?_
  refine lx_nil ?_
  refine xs_plain (E := EE []) ?_
  refine lx_move rfl rfl rfl ?_
  refine lx_move rfl rfl rfl ?_
  refine lx_bin rfl rfl (fun _ => rfl) (fun _ => bin_add_u64 _ _ _) rfl rfl ?_
  refine lx_assign rfl rfl rfl ?_
  refine lx_nil ?_
  refine xs_plain (E := EE []) ?_
  refine lx_move rfl rfl rfl ?_
  refine lx_move rfl rfl rfl ?_
  refine lx_ext1 rfl rfl (fun w => add64 _ _ _ (by decide) w) rfl rfl ?_
  refine lx_move rfl rfl rfl ?_
  refine lx_ext rfl rfl rfl rfl ?_
  refine lx_ext rfl rfl rfl rfl ?_
  refine lx_assign rfl rfl rfl ?_
  refine lx_assign rfl rfl rfl ?_
  refine lx_nil ?_
  refine xs_plain (E := EE []) ?_
  refine lx_move rfl rfl rfl ?_
  refine lx_move rfl rfl rfl ?_
  refine lx_move rfl rfl rfl ?_
  refine lx_bin rfl rfl (fun _ => rfl) (fun _ => bin_add_u64 _ _ _) rfl rfl ?_
  refine lx_assign rfl rfl rfl ?_
  refine lx_assign rfl rfl rfl ?_
  refine lx_nil ?_
  refine x_ret ?_
  repeat (first | refine kseq_ret ?_ | refine kblk_ret ?_)
  exact kret_tt rfl rfl rfl (fun w hw => ⟨rfl, hp_below hw⟩)
end Go.Proofs.YtdkmalaffcfoeaaGreatDoor

namespace Go.Proofs.YtdkmalaffcfoeaaGreatDoor
open Go.RowKit
set_option maxRecDepth 100000
set_option maxHeartbeats 1000000
theorem eqg (op : BinOp) (x y : Operand) (xs ys : Array Value) (w : World) : (eqGuard op 25 x y (.agg xs) (.agg ys)).run Tryz.prog w = .ok () w := run_eqGuard_agg w op 25 x y xs ys (by kernel_rfl)
theorem eqg27 (op : BinOp) (x y : Operand) (xs ys : Array Value) (w : World) : (eqGuard op 33 x y (.agg xs) (.agg ys)).run Tryz.prog w = .ok () w := run_eqGuard_agg w op 33 x y xs ys (by kernel_rfl)
theorem eq23 (xs ys : List (BitVec 64)) (h : xs.length = 6) (h' : ys.length = 6) (w : World) : (binOp .eql 25 (.agg (xs.map U64).toArray) (.agg (ys.map U64).toArray)).run Tryz.prog w = .ok (.bool (decide (xs = ys))) w := bin_eq64 Tryz.underlying25 Tryz.underlying24 Tryz.sizeOf24 Tryz.isAgg24 xs ys h h' w
theorem eq27 (xs ys : List (BitVec 64)) (h : xs.length = 6) (h' : ys.length = 6) (w : World) : (binOp .eql 33 (.agg (xs.map U64).toArray) (.agg (ys.map U64).toArray)).run Tryz.prog w = .ok (.bool (decide (xs = ys))) w := bin_eq64 Tryz.underlying33 Tryz.underlying24 Tryz.sizeOf24 Tryz.isAgg24 xs ys h h' w
theorem inj_one {n : Nat} {b1 : Nat} {c1 : List Value} {t1 : TypeId} : ∀ i j b c t c' t', lkB [(n, b1, c1, t1)] i = some (b, c, t) → lkB [(n, b1, c1, t1)] j = some (b, c', t') → i = j := by
  intro i j b c t c' t' h1 h2
  rcases lkB_cons h1 with ⟨e1, x1⟩ | ⟨_, h1⟩
  · rcases lkB_cons h2 with ⟨e2, x2⟩ | ⟨_, h2⟩
    · exact e1.trans e2.symm
    · cases h2
  · cases h1
theorem drop_yof {J : (Nat → Prop) → World → Prop} (hr : Rides J) {Y : Nat → Prop} {w : World} (h : J Y w) : J (fun _ => False) w := hr.less _ _ _ (fun _ h => h.elim) h

theorem red_pure (a : List (BitVec 64)) (top : BitVec 64) (m : List (BitVec 64)) (ha : a.length = 6) (hm : m.length = 6) : Pure Tryz.prog Gt 132 [.agg ((a).map U64).toArray, U64 top, .agg ((m).map U64).toArray] (.agg ((RED a top m).map U64).toArray) := by
  intro w hw
  have hGF : BOk Gt (pl w) := gt_low.plain hw
  refine calls_of_X (G := Gt) Tryz.func132 rfl rfl (Hp (pl w) []) (hp_refl (pl w) trivial rides_true) (good_hp hGF) ?_
  by_cases h1 : top = 0
  · by_cases h2 : (SS a m 6).2 = 1
    · skip
      refine xs_plain (E := EE []) ?_
      refine lx_boxr 3 hGF rfl rfl rfl ?_
      intro b3
      refine lx_boxr 5 hGF rfl rfl rfl ?_
      intro b5
      refine lx_allocr 6 hGF zv25 rfl rfl ?_
      intro b6
      refine lx_nil ?_
      refine xs_plain (E := EE []) ?_
      refine lx_loada 3 rfl rfl Tryz.isAgg25 Tryz.sizeOf25 (by rw [List.length_map, ha]) rfl rfl ?_
      refine lx_loada 5 rfl rfl Tryz.isAgg25 Tryz.sizeOf25 (by rw [List.length_map, hm]) rfl rfl ?_
      refine lx_call rfl rfl ent113 (sub_pure a m ha hm) rfl rfl ?_
      refine lx_move rfl rfl rfl ?_
      refine lx_ext rfl rfl rfl rfl ?_
      refine lx_ext rfl rfl rfl rfl ?_
      refine lx_allocr 7 hGF zv25 rfl rfl ?_
      intro b7
      refine lx_storea 7 hGF rfl rfl rfl Tryz.sizeOf25 (by rw [List.length_map, SS_len _ _ _]) (by rw [List.length_map, List.length_replicate]) (one_u64 _) rfl ?_
      refine lx_assign rfl rfl rfl ?_
      refine lx_nil ?_
      refine x_seq ?_
      refine xs_plain (E := EE []) ?_
      refine lx_move rfl rfl rfl ?_
      refine lx_bin (v := .bool true) rfl rfl (fun _ => rfl) (fun w => (bin_eql_u64 _ _ _).trans (congrArg (fun b => Result.ok (Value.bool b) w) (beq_iff_eq.2 h1))) rfl rfl ?_
      refine lx_move rfl rfl rfl ?_
      refine lx_move rfl rfl rfl ?_
      refine lx_bin (v := .bool true) rfl rfl (fun _ => rfl) (fun w => (bin_eql_u64 _ _ _).trans (congrArg (fun b => Result.ok (Value.bool b) w) (beq_iff_eq.2 h2))) rfl rfl ?_
      refine lx_pick rfl rfl rfl rfl rfl ?_
      refine lx_nil ?_
      refine x_true rfl ?_
      refine xs_plain (E := EE []) ?_
      refine lx_loada 3 rfl rfl Tryz.isAgg25 Tryz.sizeOf25 (by rw [List.length_map, ha]) rfl rfl ?_
      refine lx_storea 6 hGF rfl rfl rfl Tryz.sizeOf25 (by rw [List.length_map, ha]) (by rw [List.length_map, List.length_replicate]) (one_u64 _) rfl ?_
      refine lx_nil ?_
      refine x_ret ?_
      repeat (first | refine kseq_ret ?_ | refine kblk_ret ?_)
      exact kret_own 6 rfl rfl rfl Tryz.isAgg25 Tryz.sizeOf25 (by rw [List.length_map, ha]) (fun w hw => ⟨by rw [RED, if_pos (⟨h1, h2⟩)], hp_below hw⟩)
    · skip
      refine xs_plain (E := EE []) ?_
      refine lx_boxr 3 hGF rfl rfl rfl ?_
      intro b3
      refine lx_boxr 5 hGF rfl rfl rfl ?_
      intro b5
      refine lx_allocr 6 hGF zv25 rfl rfl ?_
      intro b6
      refine lx_nil ?_
      refine xs_plain (E := EE []) ?_
      refine lx_loada 3 rfl rfl Tryz.isAgg25 Tryz.sizeOf25 (by rw [List.length_map, ha]) rfl rfl ?_
      refine lx_loada 5 rfl rfl Tryz.isAgg25 Tryz.sizeOf25 (by rw [List.length_map, hm]) rfl rfl ?_
      refine lx_call rfl rfl ent113 (sub_pure a m ha hm) rfl rfl ?_
      refine lx_move rfl rfl rfl ?_
      refine lx_ext rfl rfl rfl rfl ?_
      refine lx_ext rfl rfl rfl rfl ?_
      refine lx_allocr 7 hGF zv25 rfl rfl ?_
      intro b7
      refine lx_storea 7 hGF rfl rfl rfl Tryz.sizeOf25 (by rw [List.length_map, SS_len _ _ _]) (by rw [List.length_map, List.length_replicate]) (one_u64 _) rfl ?_
      refine lx_assign rfl rfl rfl ?_
      refine lx_nil ?_
      refine x_seq ?_
      refine xs_plain (E := EE []) ?_
      refine lx_move rfl rfl rfl ?_
      refine lx_bin (v := .bool true) rfl rfl (fun _ => rfl) (fun w => (bin_eql_u64 _ _ _).trans (congrArg (fun b => Result.ok (Value.bool b) w) (beq_iff_eq.2 h1))) rfl rfl ?_
      refine lx_move rfl rfl rfl ?_
      refine lx_move rfl rfl rfl ?_
      refine lx_bin (v := .bool false) rfl rfl (fun _ => rfl) (fun w => (bin_eql_u64 _ _ _).trans (congrArg (fun b => Result.ok (Value.bool b) w) (beq_eq_false_iff_ne.2 h2))) rfl rfl ?_
      refine lx_pick rfl rfl rfl rfl rfl ?_
      refine lx_nil ?_
      refine x_false rfl ?_
      refine x_skip ?_
      refine xs_plain (E := EE []) ?_
      refine lx_loada 7 rfl rfl Tryz.isAgg25 Tryz.sizeOf25 (by rw [List.length_map, SS_len _ _ _]) rfl rfl ?_
      refine lx_storea 6 hGF rfl rfl rfl Tryz.sizeOf25 (by rw [List.length_map, SS_len _ _ _]) (by rw [List.length_map, List.length_replicate]) (one_u64 _) rfl ?_
      refine lx_nil ?_
      refine x_ret ?_
      repeat (first | refine kseq_ret ?_ | refine kblk_ret ?_)
      exact kret_own 6 rfl rfl rfl Tryz.isAgg25 Tryz.sizeOf25 (by rw [List.length_map, SS_len]) (fun w hw => ⟨by rw [RED, if_neg (fun h => h2 h.2)], hp_below hw⟩)
  · skip
    refine xs_plain (E := EE []) ?_
    refine lx_boxr 3 hGF rfl rfl rfl ?_
    intro b3
    refine lx_boxr 5 hGF rfl rfl rfl ?_
    intro b5
    refine lx_allocr 6 hGF zv25 rfl rfl ?_
    intro b6
    refine lx_nil ?_
    refine xs_plain (E := EE []) ?_
    refine lx_loada 3 rfl rfl Tryz.isAgg25 Tryz.sizeOf25 (by rw [List.length_map, ha]) rfl rfl ?_
    refine lx_loada 5 rfl rfl Tryz.isAgg25 Tryz.sizeOf25 (by rw [List.length_map, hm]) rfl rfl ?_
    refine lx_call rfl rfl ent113 (sub_pure a m ha hm) rfl rfl ?_
    refine lx_move rfl rfl rfl ?_
    refine lx_ext rfl rfl rfl rfl ?_
    refine lx_ext rfl rfl rfl rfl ?_
    refine lx_allocr 7 hGF zv25 rfl rfl ?_
    intro b7
    refine lx_storea 7 hGF rfl rfl rfl Tryz.sizeOf25 (by rw [List.length_map, SS_len _ _ _]) (by rw [List.length_map, List.length_replicate]) (one_u64 _) rfl ?_
    refine lx_assign rfl rfl rfl ?_
    refine lx_nil ?_
    refine x_seq ?_
    refine xs_plain (E := EE []) ?_
    refine lx_move rfl rfl rfl ?_
    refine lx_bin (v := .bool false) rfl rfl (fun _ => rfl) (fun w => (bin_eql_u64 _ _ _).trans (congrArg (fun b => Result.ok (Value.bool b) w) (beq_eq_false_iff_ne.2 h1))) rfl rfl ?_
    refine lx_move rfl rfl rfl ?_
    refine lx_skip rfl rfl rfl ?_
    refine lx_skip rfl rfl rfl ?_
    refine lx_pick rfl rfl rfl rfl rfl ?_
    refine lx_nil ?_
    refine x_false rfl ?_
    refine x_skip ?_
    refine xs_plain (E := EE []) ?_
    refine lx_loada 7 rfl rfl Tryz.isAgg25 Tryz.sizeOf25 (by rw [List.length_map, SS_len _ _ _]) rfl rfl ?_
    refine lx_storea 6 hGF rfl rfl rfl Tryz.sizeOf25 (by rw [List.length_map, SS_len _ _ _]) (by rw [List.length_map, List.length_replicate]) (one_u64 _) rfl ?_
    refine lx_nil ?_
    refine x_ret ?_
    repeat (first | refine kseq_ret ?_ | refine kblk_ret ?_)
    exact kret_own 6 rfl rfl rfl Tryz.isAgg25 Tryz.sizeOf25 (by rw [List.length_map, SS_len]) (fun w hw => ⟨by rw [RED, if_neg (fun h => h1 h.1)], hp_below hw⟩)
/-- What the iterator over the bits reads; what it yields. -/
def Rd37 (bb b : Nat) (a : List (BitVec 64)) (n : Nat) : Cls := fun W => W.cell? ⟨bb, 0, none⟩ = some (.slice (some ⟨b, 0, none⟩) n n) ∧ W.rangeAt b 0 (a.map U64)
def DG (a : List (BitVec 64)) (n : Nat) : List (List Value) := (List.range (64 * n)).map fun j => [I ((64 * n - 1 - j : Nat) : Int), U64 (dig a (64 * n - 1 - j))]
theorem DG_len (a : List (BitVec 64)) (n : Nat) : (DG a n).length = 64 * n := by simp [DG]
theorem DG_get (a : List (BitVec 64)) (n q s : Nat) (hq : q < n) (hs : s < 64) : (DG a n)[64 * (n - (q + 1)) + (64 - (s + 1))]? = some [I ((64 * q + s : Nat) : Int), U64 (dig a (64 * q + s))] := by
  have h : 64 * (n - (q + 1)) + (64 - (s + 1)) < 64 * n := by omega
  rw [DG, List.getElem?_map, List.getElem?_range h]
  simp only [Option.map_some]
  rw [show 64 * n - 1 - (64 * (n - (q + 1)) + (64 - (s + 1))) = 64 * q + s by omega]
theorem DG_at (a : List (BitVec 64)) (n k : Nat) (x : List Value) (h : (DG a n)[k]? = some x) : k < 64 * n ∧ x = [I ((64 * n - 1 - k : Nat) : Int), U64 (dig a (64 * n - 1 - k))] := by
  have hk : k < 64 * n := by
    rcases Nat.lt_or_ge k (64 * n) with h' | h'
    · exact h'
    · rw [List.getElem?_eq_none (by rw [DG_len]; exact h')] at h; cases h
  rw [DG, List.getElem?_map, List.getElem?_range hk] at h
  exact ⟨hk, (Option.some.inj h).symm⟩
theorem digits_calls (sv : Value) (hs : sv.cells = #[sv]) (w : World) (hw : Gt w) : Calls Tryz.prog 137 [sv].toArray w (fun e w' => ∃ b1, e = .returned (.func (.func 140) #[] #[.pointer (some ⟨b1, 0, none⟩)]) ∧ Grow w w' ∧ w.heap.size ≤ b1 ∧ OwnB w' b1 [sv] 128) := by
  have hGF : BOk Gt (pl w) := gt_low.plain hw
  refine calls_of_X (G := Gt) Tryz.func137 rfl rfl (Hp (pl w) []) (hp_refl (pl w) trivial rides_true) (good_hp hGF) ?_
  refine xs_plain (E := EE []) ?_
  refine lx_box 1 hGF rfl rfl rfl ?_
  intro b1
  refine lx_assign rfl rfl rfl ?_
  refine lx_nil ?_
  refine xs_plain (E := EE []) ?_
  refine lx_func rfl rfl rfl rfl ?_
  refine lx_assign rfl rfl rfl ?_
  refine lx_nil ?_
  refine x_ret ?_
  repeat (first | refine kseq_ret ?_ | refine kblk_ret ?_)
  exact kret_tmp rfl rfl (fun w hw => ⟨b1, rfl, hp_below hw, (hw.own 1 b1 _ _ rfl).2.elim id False.elim, (by have := (hw.own 1 b1 _ _ rfl).1; rw [hs] at this; exact this)⟩)
theorem digits_seq (bb b : Nat) (a : List (BitVec 64)) (n : Nat) (hn : n ≤ 100) (ha : a.length = n) : SeqOk Tryz.prog Gt 140 [.pointer (some ⟨bb, 0, none⟩)] (DG a n) (Rd37 bb b a n) := by
  intro l J Jx hJ hJx hRd hGx hY w hj
  have okJ : ∀ k, BOk Gt (Bi w (fun Y => J Y k)) := fun k => ⟨fun _ _ _ h => (hRd _ _ _ h.rid).1, hJ k⟩
  have okX : ∀ k, BOk Gt (Bi w (fun Y => Jx Y k)) := fun k => ⟨fun _ _ _ h => hGx _ _ _ h.rid, hJx k⟩
  have c1 : ∀ k L w', Hp (Bi w (fun Y => J Y k)) L w' → Rd37 bb b a n w' := fun k L w' h => (hRd _ _ _ h.rid).2
  refine calls_of_X (G := Gt) Tryz.func140 rfl rfl (Hp (Bi w (fun Y => J Y 0)) []) (hp_refl (Bi w _) hj (hJ 0)) (good_hp (okJ 0)) ?_
  refine x_scope ?_
  refine x_seq ?_
  refine x_label ?_
  refine xs_plain (E := EE []) ?_
  refine lx_load rfl Tryz.isAgg128 (fun w h => (c1 _ _ w h).1) rfl rfl ?_
  refine lx_len rfl (fun _ => len_slice Tryz.underlying128 _ _ _ _) rfl rfl ?_
  refine lx_bin rfl rfl (fun _ => rfl) (fun _ => bin_sub_i _ _ _ (by unfold inI; omega)) rfl rfl ?_
  refine lx_assign rfl rfl rfl ?_
  refine lx_nil ?_
  refine x_block ?_
  refine x_forB (ι := { i : Nat // i ≤ n }) (fun x => [(0, .func (.yield l) #[] #[]), (1, .pointer (some ⟨bb, 0, none⟩)), (3, I ((x.1 : Int) - 1))]) (fun x => Bi w (fun Y => J Y (64 * (n - x.1)))) (fun x => []) (fun x => x.1) ⟨n, Nat.le_refl _⟩ (fun _ => okJ _) (by rw [Nat.sub_self]) ⟨rfl, rfl, rfl, trivial⟩ trivial ?_
  rintro ⟨i, hi⟩
  dsimp only
  refine x_seq ?_
  refine xs_plain (E := EE []) ?_
  refine lx_move rfl rfl rfl ?_
  refine lx_bin rfl rfl (fun _ => rfl) (fun _ => bin_geq_i _ _ _) rfl rfl ?_
  refine lx_nil ?_
  refine x_if rfl (fun hc => ?_) (fun hc => ?_)
  · simp only [decide_eq_true_eq] at hc
    obtain ⟨q, rfl⟩ : ∃ q, i = q + 1 := ⟨i - 1, by omega⟩
    clear hc
    rw [show ((q + 1 : Nat) : Int) - 1 = (q : Int) by omega]
    refine x_skip ?_
    refine x_seq ?_
    refine x_block ?_
    refine xs_plain (E := EE []) ?_
    refine lx_assign rfl rfl rfl ?_
    refine lx_nil ?_
    refine x_block ?_
    refine x_forB (ι := { r : Nat // r ≤ 64 }) (fun x => [(0, .func (.yield l) #[] #[]), (1, .pointer (some ⟨bb, 0, none⟩)), (3, I (q : Int)), (4, I ((x.1 : Int) - 1))]) (fun x => Bi w (fun Y => J Y (64 * (n - (q + 1)) + (64 - x.1)))) (fun x => []) (fun x => x.1) ⟨64, Nat.le_refl _⟩ (fun _ => okJ _) rfl ⟨rfl, rfl, rfl, rfl, trivial⟩ trivial ?_
    rintro ⟨r, hr⟩
    dsimp only
    refine x_seq ?_
    refine xs_plain (E := EE []) ?_
    refine lx_move rfl rfl rfl ?_
    refine lx_bin rfl rfl (fun _ => rfl) (fun _ => bin_geq_i _ _ _) rfl rfl ?_
    refine lx_nil ?_
    refine x_if rfl (fun hc => ?_) (fun hc => ?_)
    · simp only [decide_eq_true_eq] at hc
      obtain ⟨s, rfl⟩ : ∃ s, r = s + 1 := ⟨r - 1, by omega⟩
      clear hc
      rw [show ((s + 1 : Nat) : Int) - 1 = (s : Int) by omega]
      refine x_skip ?_
      refine x_seq ?_
      refine x_block ?_
      refine xs_plain (E := EE []) ?_
      refine lx_move rfl rfl rfl ?_
      refine lx_move rfl rfl rfl ?_
      refine lx_bin (v := I ((64 * q : Nat) : Int)) rfl rfl (fun _ => rfl) (fun _ => (bin_mul_i _ _ _ (by unfold inI; omega)).trans (by rw [show (64 : Int) * (q : Int) = ((64 * q : Nat) : Int) by omega])) rfl rfl ?_
      refine lx_move rfl rfl rfl ?_
      refine lx_bin (v := I ((64 * q + s : Nat) : Int)) rfl rfl (fun _ => rfl) (fun _ => (bin_add_i _ _ _ (by unfold inI; omega)).trans (by rw [show ((64 * q : Nat) : Int) + (s : Int) = ((64 * q + s : Nat) : Int) by omega])) rfl rfl ?_
      refine lx_load rfl Tryz.isAgg128 (fun w h => (c1 _ _ w h).1) rfl rfl ?_
      refine lx_move rfl rfl rfl ?_
      refine lx_is1 q rfl rfl Tryz.underlying128 Tryz.sizeOf24 (by omega) (by omega) rfl rfl ?_
      refine lx_load rfl Tryz.isAgg24 (fun w h => (c1 _ _ w h).2 q _ (gm U64 a 0 q (by omega))) rfl rfl ?_
      refine lx_move rfl rfl rfl ?_
      refine lx_bin rfl rfl (fun _ => rfl) (fun _ => bin_shr_i_u64 _ _ _ (by omega)) rfl rfl ?_
      refine lx_bin (v := U64 (dig a (64 * q + s))) rfl rfl (fun _ => rfl) (fun _ => (bin_and_u64 _ _ _).trans (by rw [← dig_at a q s (by omega)]; rfl)) rfl rfl ?_
      refine lx_yield (hY.b (k := 64 * (n - (q + 1)) + (64 - (s + 1))) (DG_get a n q s (by omega) (by omega)) w) (okJ _) (okX _) rfl rfl rfl rfl rfl ?_ ?_
      · skip
        refine lx_un rfl (fun _ => un_not _) rfl rfl ?_
        refine lx_nil ?_
        refine x_false rfl ?_
        refine x_skip ?_
        refine x_plain (E := EE []) ?_
        refine lx_move rfl rfl rfl ?_
        refine lx_bin rfl rfl (fun _ => rfl) (fun _ => bin_sub_i _ _ _ (by unfold inI; omega)) rfl rfl ?_
        refine lx_assign rfl rfl rfl ?_
        refine lx_nil ?_
        rw [show 64 * (n - (q + 1)) + (64 - (s + 1)) + 1 = 64 * (n - (q + 1)) + (64 - s) by omega]
        repeat (refine kblk_n ?_)
        refine kseq_n ?_
        exact ⟨rfl, ⟨s, by omega⟩, _, by show s < s + 1; omega, rfl, ⟨rfl, rfl, rfl, rfl, trivial⟩, trivial⟩
      · skip
        refine lx_un rfl (fun _ => un_not _) rfl rfl ?_
        refine lx_nil ?_
        refine x_true rfl ?_
        refine x_exit ?_
        repeat (first | refine kseq_x ?_ | refine kblk_x ?_ | refine kblk_p rfl ?_)
        refine kng_n ?_
        exact kend_none rfl (fun w hw => ⟨⟨_, rfl⟩, .inr ⟨_, drop_yof (hJx _) hw.rid⟩⟩)
    · simp only [decide_eq_false_iff_not] at hc
      obtain rfl : r = 0 := by omega
      clear hc
      rw [show 64 * (n - (q + 1)) + (64 - 0) = 64 * (n - q) by omega]
      refine x_exit ?_
      refine x_plain (E := EE []) ?_
      refine lx_move rfl rfl rfl ?_
      refine lx_bin rfl rfl (fun _ => rfl) (fun _ => bin_sub_i _ _ _ (by unfold inI; omega)) rfl rfl ?_
      refine lx_assign rfl rfl rfl ?_
      refine lx_nil ?_
      repeat (refine kblk_n ?_)
      refine kseq_n ?_
      exact ⟨rfl, ⟨q, by omega⟩, _, by show q < q + 1; omega, rfl, ⟨rfl, rfl, rfl, trivial⟩, trivial⟩
  · simp only [decide_eq_false_iff_not] at hc
    obtain rfl : i = 0 := by omega
    refine x_exit ?_
    repeat (first | refine kseq_x ?_ | refine kblk_x ?_ | refine kblk_p rfl ?_)
    refine kng_n ?_
    refine kend_none rfl (fun w hw => ⟨⟨_, rfl⟩, .inl ?_⟩)
    have := drop_yof (hJ _) hw.rid
    rw [DG_len]
    exact this
end Go.Proofs.YtdkmalaffcfoeaaGreatDoor

namespace Go.Proofs.YtdkmalaffcfoeaaGreatDoor
open Go.RowKit
set_option maxRecDepth 100000
set_option maxHeartbeats 1000000

theorem mod_pure (t m : List (BitVec 64)) (ht : t.length = 12) (hm : m.length = 6) : Pure Tryz.prog Gt 129 [.agg ((t).map U64).toArray, .agg ((m).map U64).toArray] (.agg ((MOD t m).map U64).toArray) := by
  intro w hw
  have hGF : BOk Gt (pl w) := gt_low.plain hw
  refine calls_of_XM (G := Gt) Tryz.func129 rfl rfl (Hp (pl w) []) (hp_refl (pl w) trivial rides_true) (good_hp hGF) ?_
  refine xs_plain (E := EE [137]) ?_
  refine lx_boxr 2 hGF rfl rfl rfl ?_
  intro b2
  refine lx_boxr 3 hGF rfl rfl rfl ?_
  intro b3
  refine lx_allocr 4 hGF zv25 rfl rfl ?_
  intro b4
  refine lx_nil ?_
  refine xs_plain (E := EE [137]) ?_
  refine lx_allocr 5 hGF zv25 rfl rfl ?_
  intro b5
  refine lx_nil ?_
  refine x_seq ?_
  refine xs_plain (E := EE [137]) ?_
  refine lx_loada 3 rfl rfl Tryz.isAgg25 Tryz.sizeOf25 (by rw [List.length_map, hm]) rfl rfl ?_
  refine lx_loada 5 rfl rfl Tryz.isAgg25 Tryz.sizeOf25 (by rw [List.length_map, List.length_replicate]) rfl rfl ?_
  refine lx_bin rfl rfl (fun w => eqg _ _ _ _ _ w) (fun w => eq23 m (List.replicate 6 0) hm rfl w) rfl rfl ?_
  refine lx_nil ?_
  refine x_if rfl (fun hc => ?_) (fun hc => ?_)
  · simp only [decide_eq_true_eq] at hc
    refine xs_plain (E := EE [137]) ?_
    refine lx_loada 5 rfl rfl Tryz.isAgg25 Tryz.sizeOf25 (by rw [List.length_map, List.length_replicate]) rfl rfl ?_
    refine lx_storea 4 hGF rfl rfl rfl Tryz.sizeOf25 (by simp) (by rw [List.length_map, List.length_replicate]) (one_u64 _) rfl ?_
    refine lx_nil ?_
    refine x_ret ?_
    repeat (first | refine kseq_ret ?_ | refine kblk_ret ?_)
    exact kretM_0 (.inl rfl) (kret_own 4 rfl rfl rfl Tryz.isAgg25 Tryz.sizeOf25 (by rw [List.length_map, List.length_replicate]) (fun w hw => ⟨by rw [MOD, if_pos hc]; rfl, hp_below hw⟩))
  · simp only [decide_eq_false_iff_not] at hc
    refine x_skip ?_
    refine x_seq ?_
    refine xs_plain (E := EE [137]) ?_
    refine lx_slarr1 (l := 0) (h' := 12) rfl Tryz.underlying127 Tryz.sizeOf24 rfl rfl (by omega) (by omega) rfl rfl ?_
    refine lx_callE rfl rfl ent137 rfl rfl (fun w' hw' => (digits_calls _ rfl w' (hGF.g _ _ _ hw')).mono fun e w'' h => ?_)
    obtain ⟨c1, rfl, hg, h1, ho⟩ := h
    refine ⟨_, _, rfl, good_hp hGF, hw'.news rides_true hg [(33, c1, [.slice (some ⟨b2, 0, none⟩) 12 12], 128)] ?_ inj_one, ?_⟩
    · intro n' b' c' t' hl
      rcases lkB_cons hl with ⟨_, e⟩ | ⟨_, hl⟩
      · cases e; exact ⟨h1, ho⟩
      · cases hl
    clear hw' hg h1 ho
    refine lx_nil ?_
    refine x_block ?_
    refine x_range (fun _ => pl w) (fun _ _ => pl w) (fun _ => hGF) (fun _ _ => hGF) (fun _ => rfl) (fun _ _ => rfl) rfl rfl ent140 (digits_seq c1 b2 t 12 (by decide) ht) (fun x hx => by obtain ⟨k, hk, rfl⟩ := List.mem_map.1 hx; rfl) rfl (fun k => [(2, b2, t.map U64, 127), (3, b3, m.map U64, 25), (4, b4, (List.replicate 6 0#64).map U64, 25), (5, b5, (MDs t m k).map U64, 25), (33, c1, [.slice (some ⟨b2, 0, none⟩) 12 12], 128)]) (fun _ _ _ => False) ⟨rfl, rfl, rfl, rfl, rfl, trivial⟩ (fun k _ w' h => ⟨hp_cell (n := 33) rfl rfl w' h, hp_row (n := 2) rfl w' h⟩) ?_ ?_ (fun _ _ _ _ _ h => h.elim)
    · intro k x hx R hR
      obtain ⟨hk, rfl⟩ := DG_at t 12 k x hx
      rw [show 64 * 12 - 1 - k = 767 - k from rfl]
      refine x_plain (E := EE [137]) ?_
      refine lx_assign rfl rfl rfl ?_
      refine lx_nil ?_
      refine ⟨rfl, _, rfl, ?_⟩
      refine x_block ?_
      refine xs_plain (E := EE [137]) ?_
      refine lx_loada 5 rfl rfl Tryz.isAgg25 Tryz.sizeOf25 (by rw [List.length_map, MDs_len]) rfl rfl ?_
      refine lx_loada 5 rfl rfl Tryz.isAgg25 Tryz.sizeOf25 (by rw [List.length_map, MDs_len]) rfl rfl ?_
      refine lx_call rfl rfl ent112 (add_pure _ _ (MDs_len t m _) (MDs_len t m _)) rfl rfl ?_
      refine lx_move rfl rfl rfl ?_
      refine lx_ext rfl rfl rfl rfl ?_
      refine lx_ext rfl rfl rfl rfl ?_
      refine lx_allocr 8 (hR (pl w) rfl hGF).2.1 zv25 rfl rfl ?_
      intro b8
      refine lx_storea 8 (hR (pl w) rfl hGF).2.1 rfl rfl rfl Tryz.sizeOf25 (by rw [List.length_map, AS_len]) (by rw [List.length_map, List.length_replicate]) (one_u64 _) rfl ?_
      refine lx_assign rfl rfl rfl ?_
      refine lx_nil ?_
      refine xs_plain (E := EE [137]) ?_
      refine lx_ia0 (0) rfl rfl Tryz.underlying25 Tryz.sizeOf24 (by omega) (by omega) rfl rfl ?_
      refine lx_loadm 8 U64 0 rfl rfl Tryz.isAgg24 (by rw [AS_len]; omega) rfl rfl ?_
      refine lx_move rfl rfl rfl ?_
      refine lx_bin rfl rfl (fun _ => rfl) (fun _ => bin_or_u64 _ _ _) rfl rfl ?_
      refine lx_ia0 (0) rfl rfl Tryz.underlying25 Tryz.sizeOf24 (by omega) (by omega) rfl rfl ?_
      refine lx_storem 8 U64 (hR (pl w) rfl hGF).2.1 rfl rfl rfl Tryz.sizeOf24 rfl (by rw [AS_len]; omega) rfl ?_
      refine lx_nil ?_
      refine x_plain (E := EE [137]) ?_
      refine lx_loada 8 rfl rfl Tryz.isAgg25 Tryz.sizeOf25 (by rw [List.length_map, List.length_set, AS_len]) rfl rfl ?_
      refine lx_move rfl rfl rfl ?_
      refine lx_loada 3 rfl rfl Tryz.isAgg25 Tryz.sizeOf25 (by rw [List.length_map, hm]) rfl rfl ?_
      refine lx_call rfl rfl ent132 (red_pure _ _ _ (TW_len _ _) hm) rfl rfl ?_
      refine lx_storea 5 (hR (pl w) rfl hGF).2.1 rfl rfl rfl Tryz.sizeOf25 (by rw [List.length_map]; exact RED_len _ _ _ (TW_len _ _)) (by rw [List.length_map, MDs_len]) (one_u64 _) rfl ?_
      refine lx_nil ?_
      exact ⟨_, rfl, ⟨rfl, rfl, rfl, rfl, rfl, trivial⟩⟩
    · intro D hD
      rw [DG_len]
      refine xs_plain (E := EE [137]) ?_
      refine lx_loada 5 rfl rfl Tryz.isAgg25 Tryz.sizeOf25 (by rw [List.length_map, MDs_len]) rfl rfl ?_
      refine lx_storea 4 hD rfl rfl rfl Tryz.sizeOf25 (by rw [List.length_map, MDs_len _ _ _]) (by rw [List.length_map, List.length_replicate]) (one_u64 _) rfl ?_
      refine lx_nil ?_
      refine x_ret ?_
      repeat (first | refine kseq_ret ?_ | refine kblk_ret ?_)
      exact kretM_1 (.inl rfl) rides_true (kret_own 4 rfl rfl rfl Tryz.isAgg25 Tryz.sizeOf25 (by rw [List.length_map, MDs_len]) (fun w hw => ⟨by rw [MOD, if_neg hc], hp_below hw⟩))
end Go.Proofs.YtdkmalaffcfoeaaGreatDoor

namespace Go.Proofs.YtdkmalaffcfoeaaGreatDoor
open Go.RowKit
set_option maxRecDepth 100000
set_option maxHeartbeats 1000000

theorem from_calls (a : Option Addr) (cap : Nat) (bs : List (BitVec 8)) (w : World) (hw : Gt w) (hby : BytesAt w a bs) :
    Calls Tryz.prog 73 [.slice a bs.length cap].toArray w (fun e w' => e = .returned (if 48 < bs.length then .tuple #[.agg ((List.replicate 6 0#64).map U64).toArray, .bool false] else .tuple #[.agg ((FRs bs bs.length).map U64).toArray, .bool true]) ∧ Grow w w') := by
  have hGF : BOk Gt (pl w) := gt_low.plain hw
  refine calls_of_X (G := Gt) Tryz.func73 rfl rfl (Hp (pl w) []) (hp_refl (pl w) trivial rides_true) (good_hp hGF) ?_
  by_cases hA : 48 < bs.length
  · skip
    refine xs_plain (E := EE []) ?_
    refine lx_allocr 2 hGF zv25 rfl rfl ?_
    intro b2
    refine lx_assign rfl rfl rfl ?_
    refine lx_nil ?_
    refine xs_plain (E := EE []) ?_
    refine lx_allocr 4 hGF zv25 rfl rfl ?_
    intro b4
    refine lx_nil ?_
    refine x_seq ?_
    refine xs_plain (E := EE []) ?_
    refine lx_move rfl rfl rfl ?_
    refine lx_len rfl (fun _ => len_slice Tryz.underlying22 _ _ _ _) rfl rfl ?_
    refine lx_bin (v := .bool true) rfl rfl (fun _ => rfl) (fun _ => (bin_gtr_i _ _ _).trans (by rw [decide_eq_true (by omega : ((bs.length : Int) > 48))])) rfl rfl ?_
    refine lx_nil ?_
    refine x_true rfl ?_
    refine xs_plain (E := EE []) ?_
    refine lx_loada 4 rfl rfl Tryz.isAgg25 Tryz.sizeOf25 (by rw [List.length_map, List.length_replicate]) rfl rfl ?_
    refine lx_storea 2 hGF rfl rfl rfl Tryz.sizeOf25 (by rw [List.length_map, List.length_replicate]) (by rw [List.length_map, List.length_replicate]) (one_u64 _) rfl ?_
    refine lx_assign rfl rfl rfl ?_
    refine lx_nil ?_
    refine x_ret ?_
    repeat (first | refine kseq_ret ?_ | refine kblk_ret ?_)
    exact kret_ct 2 rfl rfl rfl rfl Tryz.isAgg25 Tryz.sizeOf25 (by rw [List.length_map, List.length_replicate]) (fun w hw => ⟨by rw [if_pos hA]; rfl, hp_below hw⟩)
  · skip
    refine xs_plain (E := EE []) ?_
    refine lx_allocr 2 hGF zv25 rfl rfl ?_
    intro b2
    refine lx_assign rfl rfl rfl ?_
    refine lx_nil ?_
    refine xs_plain (E := EE []) ?_
    refine lx_allocr 4 hGF zv25 rfl rfl ?_
    intro b4
    refine lx_nil ?_
    refine x_seq ?_
    refine xs_plain (E := EE []) ?_
    refine lx_move rfl rfl rfl ?_
    refine lx_len rfl (fun _ => len_slice Tryz.underlying22 _ _ _ _) rfl rfl ?_
    refine lx_bin (v := .bool false) rfl rfl (fun _ => rfl) (fun _ => (bin_gtr_i _ _ _).trans (by rw [decide_eq_false (by omega : ¬ ((bs.length : Int) > 48))])) rfl rfl ?_
    refine lx_nil ?_
    refine x_false rfl ?_
    refine x_skip ?_
    refine x_seq ?_
    refine xs_plain (E := EE []) ?_
    refine lx_move rfl rfl rfl ?_
    refine lx_len rfl (fun _ => len_slice Tryz.underlying22 _ _ _ _) rfl rfl ?_
    refine lx_move rfl rfl rfl ?_
    refine lx_nil ?_
    refine x_block ?_
    refine x_for (ι := { i : Nat // i ≤ bs.length }) (fun x => [(0, .slice a bs.length cap), (2, .pointer (some ⟨b2, 0, none⟩)), (4, .pointer (some ⟨b4, 0, none⟩)), (12, .slice a bs.length cap), (13, I (bs.length : Int)), (14, I (x.1 : Int))]) (fun x => [(2, b2, (List.replicate 6 0#64).map U64, 25), (4, b4, (FRs bs x.1).map U64, 25)]) (fun x => bs.length - x.1) ⟨0, by omega⟩ hGF ⟨rfl, rfl, rfl, rfl, rfl, rfl, trivial⟩ ⟨rfl, rfl, trivial⟩ ?_
    rintro ⟨i, hi⟩
    dsimp only
    refine xs_plain (E := EE []) ?_
    refine lx_bin rfl rfl (fun _ => rfl) (fun _ => bin_lss_i _ _ _) rfl rfl ?_
    refine lx_nil ?_
    refine x_seq ?_
    refine x_if rfl (fun hc => ?_) (fun hc => ?_)
    · simp only [decide_eq_true_eq] at hc
      refine x_skip ?_
      refine x_seq ?_
      refine x_block ?_
      refine xs_plain (E := EE []) ?_
      refine lx_move rfl rfl rfl ?_
      obtain ⟨ad, rfl, _⟩ := hby i _ (gm U8 bs 0 i (by omega))
      refine lx_isA i rfl rfl Tryz.underlying22 Tryz.sizeOf5 rfl (by omega) rfl rfl ?_
      refine lx_load rfl Tryz.isAgg5 (fun w' h => by obtain ⟨ad', e, hc⟩ := (hby.grow (hp_below h)) i _ (gm U8 bs 0 i (by omega)); cases e; exact hc) rfl rfl ?_
      refine lx_assign rfl rfl rfl ?_
      refine lx_assign rfl rfl rfl ?_
      refine lx_nil ?_
      refine xs_plain (E := EE []) ?_
      refine lx_move rfl rfl rfl ?_
      refine lx_len rfl (fun _ => len_slice Tryz.underlying22 _ _ _ _) rfl rfl ?_
      refine lx_bin (v := I ((bs.length : Int) - 1)) rfl rfl (fun _ => rfl) (fun _ => bin_sub_i _ _ _ (by unfold inI; omega)) rfl rfl ?_
      refine lx_move rfl rfl rfl ?_
      refine lx_bin (v := I ((bs.length - 1 - i : Nat) : Int)) rfl rfl (fun _ => rfl) (fun _ => (bin_sub_i _ _ _ (by unfold inI; omega)).trans (by rw [show ((bs.length : Int) - 1 - (i : Int)) = ((bs.length - 1 - i : Nat) : Int) by omega])) rfl rfl ?_
      refine lx_assign rfl rfl rfl ?_
      refine lx_nil ?_
      refine x_drawn (E := EE []) mixed (by kernel_rfl) (by kernel_rfl) (by kernel_rfl) ?_
      refine lx_move rfl rfl rfl ?_
      refine lx_bin (v := I (((bs.length - 1 - i) / 8 : Nat) : Int)) rfl rfl (fun _ => rfl) (fun _ => bin_quo_i _ _ _ (by decide) (show inI (((bs.length - 1 - i) / 8 : Nat) : Int) by unfold inI; omega)) rfl rfl ?_
      refine lx_ia0 (((bs.length - 1 - i) / 8)) rfl rfl Tryz.underlying25 Tryz.sizeOf24 (by omega) (by omega) rfl rfl ?_
      refine lx_loadm 4 U64 0 rfl rfl Tryz.isAgg24 (by rw [FRs_len]; omega) rfl rfl ?_
      refine lx_move rfl rfl rfl ?_
      refine lx_conv rfl rfl (fun _ => conv_u8_u64 Tryz.underlying5 Tryz.underlying24 _) rfl rfl ?_
      refine lx_move rfl rfl rfl ?_
      refine lx_bin (v := I (((bs.length - 1 - i) % 8 : Nat) : Int)) rfl rfl (fun _ => rfl) (fun _ => bin_rem_i _ _ _ (by decide)) rfl rfl ?_
      refine lx_bin (v := I ((8 * ((bs.length - 1 - i) % 8) : Nat) : Int)) rfl rfl (fun _ => rfl) (fun _ => (bin_mul_i _ _ _ (by unfold inI; omega)).trans (by rw [show (8 : Int) * (((bs.length - 1 - i) % 8 : Nat) : Int) = ((8 * ((bs.length - 1 - i) % 8) : Nat) : Int) by omega])) rfl rfl ?_
      refine lx_bin (v := U64 ((bs.getD i 0).setWidth 64 <<< (8 * ((bs.length - 1 - i) % 8)))) rfl rfl (fun _ => rfl) (fun _ => bin_shl_i_u64 _ _ _ (by omega)) rfl rfl ?_
      refine lx_bin rfl rfl (fun _ => rfl) (fun _ => bin_or_u64 _ _ _) rfl rfl ?_
      refine lx_ia0 (((bs.length - 1 - i) / 8)) rfl rfl Tryz.underlying25 Tryz.sizeOf24 (by omega) (by omega) rfl rfl ?_
      refine lx_storem 4 U64 hGF rfl rfl rfl Tryz.sizeOf24 rfl (by rw [FRs_len]; omega) rfl ?_
      refine lx_nil ?_
      refine x_plain (E := EE []) ?_
      refine lx_bin rfl rfl (fun _ => rfl) (fun _ => bin_add_i _ _ _ (by unfold inI; omega)) rfl rfl ?_
      refine lx_move rfl rfl rfl ?_
      refine lx_nil ?_
      repeat (refine kblk_n ?_)
      refine kseq_n ?_
      exact ⟨rfl, ⟨i + 1, by omega⟩, _, by show bs.length - (i + 1) < bs.length - i; omega, rfl, ⟨rfl, rfl, rfl, rfl, rfl, rfl, trivial⟩, ⟨rfl, rfl, trivial⟩⟩
    · obtain rfl : i = bs.length := by simp at hc; omega
      refine x_exit ?_
      refine xs_plain (E := EE []) ?_
      refine lx_loada 4 rfl rfl Tryz.isAgg25 Tryz.sizeOf25 (by rw [List.length_map, FRs_len]) rfl rfl ?_
      refine lx_storea 2 hGF rfl rfl rfl Tryz.sizeOf25 (by rw [List.length_map, FRs_len _ _]) (by rw [List.length_map, List.length_replicate]) (one_u64 _) rfl ?_
      refine lx_assign rfl rfl rfl ?_
      refine lx_nil ?_
      refine x_ret ?_
      repeat (first | refine kseq_ret ?_ | refine kblk_ret ?_)
      exact kret_ct 2 rfl rfl rfl rfl Tryz.isAgg25 Tryz.sizeOf25 (by rw [List.length_map, FRs_len]) (fun w hw => ⟨by rw [if_neg hA]; rfl, hp_below hw⟩)
theorem rfrom_calls (a : Option Addr) (cap : Nat) (bs : List (BitVec 8)) (w : World) (hw : Gt w) (hby : BytesAt w a bs) :
    Calls Tryz.prog 96 [.slice a bs.length cap].toArray w (fun e w' => e = .returned (if 48 < bs.length then .tuple #[.agg ((List.replicate 6 0#64).map U64).toArray, .bool false] else .tuple #[.agg ((FRs bs bs.length).map U64).toArray, .bool true]) ∧ Grow w w') := by
  have hGF : BOk Gt (pl w) := gt_low.plain hw
  refine calls_of_X (G := Gt) Tryz.func96 rfl rfl (Hp (pl w) []) (hp_refl (pl w) trivial rides_true) (good_hp hGF) ?_
  by_cases hA : 48 < bs.length
  · skip
    refine xs_plain (E := EE []) ?_
    refine lx_allocr 2 hGF zv33 rfl rfl ?_
    intro b2
    refine lx_assign rfl rfl rfl ?_
    refine lx_nil ?_
    refine x_seq ?_
    refine xs_plain (E := EE []) ?_
    refine lx_move rfl rfl rfl ?_
    refine lx_len rfl (fun _ => len_slice Tryz.underlying22 _ _ _ _) rfl rfl ?_
    refine lx_bin (v := .bool true) rfl rfl (fun _ => rfl) (fun _ => (bin_gtr_i _ _ _).trans (by rw [decide_eq_true (by omega : ((bs.length : Int) > 48))])) rfl rfl ?_
    refine lx_nil ?_
    refine x_true rfl ?_
    refine xs_plain (E := EE []) ?_
    refine lx_buildz zv33 Tryz.underlying33 Tryz.sizeOf24 rfl rfl ?_
    refine lx_storea 2 hGF rfl rfl rfl Tryz.sizeOf33 (by rw [List.length_map, List.length_replicate]) (by rw [List.length_map, List.length_replicate]) (one_u64 _) rfl ?_
    refine lx_assign rfl rfl rfl ?_
    refine lx_nil ?_
    refine x_ret ?_
    repeat (first | refine kseq_ret ?_ | refine kblk_ret ?_)
    exact kret_ct 2 rfl rfl rfl rfl Tryz.isAgg33 Tryz.sizeOf33 (by rw [List.length_map, List.length_replicate]) (fun w hw => ⟨by rw [if_pos hA]; rfl, hp_below hw⟩)
  · skip
    refine xs_plain (E := EE []) ?_
    refine lx_allocr 2 hGF zv33 rfl rfl ?_
    intro b2
    refine lx_assign rfl rfl rfl ?_
    refine lx_nil ?_
    refine x_seq ?_
    refine xs_plain (E := EE []) ?_
    refine lx_move rfl rfl rfl ?_
    refine lx_len rfl (fun _ => len_slice Tryz.underlying22 _ _ _ _) rfl rfl ?_
    refine lx_bin (v := .bool false) rfl rfl (fun _ => rfl) (fun _ => (bin_gtr_i _ _ _).trans (by rw [decide_eq_false (by omega : ¬ ((bs.length : Int) > 48))])) rfl rfl ?_
    refine lx_nil ?_
    refine x_false rfl ?_
    refine x_skip ?_
    refine xs_plain (E := EE []) ?_
    refine lx_allocr 4 hGF zv33 rfl rfl ?_
    intro b4
    refine lx_nil ?_
    refine x_seq ?_
    refine xs_plain (E := EE []) ?_
    refine lx_assign rfl rfl rfl ?_
    refine lx_nil ?_
    refine x_block ?_
    refine x_for (ι := { i : Nat // i ≤ bs.length }) (fun x => [(0, .slice a bs.length cap), (2, .pointer (some ⟨b2, 0, none⟩)), (4, .pointer (some ⟨b4, 0, none⟩)), (5, I (x.1 : Int))]) (fun x => [(2, b2, (List.replicate 6 0#64).map U64, 33), (4, b4, (FRs bs x.1).map U64, 33)]) (fun x => bs.length - x.1) ⟨0, by omega⟩ hGF ⟨rfl, rfl, rfl, rfl, trivial⟩ ⟨rfl, rfl, trivial⟩ ?_
    rintro ⟨i, hi⟩
    dsimp only
    refine x_seq ?_
    refine xs_plain (E := EE []) ?_
    refine lx_move rfl rfl rfl ?_
    refine lx_move rfl rfl rfl ?_
    refine lx_len rfl (fun _ => len_slice Tryz.underlying22 _ _ _ _) rfl rfl ?_
    refine lx_bin rfl rfl (fun _ => rfl) (fun _ => bin_lss_i _ _ _) rfl rfl ?_
    refine lx_nil ?_
    refine x_if rfl (fun hc => ?_) (fun hc => ?_)
    · simp only [decide_eq_true_eq] at hc
      refine x_skip ?_
      refine x_seq ?_
      refine x_block ?_
      refine xs_plain (E := EE []) ?_
      refine lx_move rfl rfl rfl ?_
      refine lx_len rfl (fun _ => len_slice Tryz.underlying22 _ _ _ _) rfl rfl ?_
      refine lx_bin (v := I ((bs.length : Int) - 1)) rfl rfl (fun _ => rfl) (fun _ => bin_sub_i _ _ _ (by unfold inI; omega)) rfl rfl ?_
      refine lx_move rfl rfl rfl ?_
      refine lx_bin (v := I ((bs.length - 1 - i : Nat) : Int)) rfl rfl (fun _ => rfl) (fun _ => (bin_sub_i _ _ _ (by unfold inI; omega)).trans (by rw [show ((bs.length : Int) - 1 - (i : Int)) = ((bs.length - 1 - i : Nat) : Int) by omega])) rfl rfl ?_
      refine lx_assign rfl rfl rfl ?_
      refine lx_nil ?_
      refine x_drawn (E := EE []) mixed (by kernel_rfl) (by kernel_rfl) (by kernel_rfl) ?_
      refine lx_move rfl rfl rfl ?_
      refine lx_bin (v := I (((bs.length - 1 - i) / 8 : Nat) : Int)) rfl rfl (fun _ => rfl) (fun _ => bin_quo_i _ _ _ (by decide) (show inI (((bs.length - 1 - i) / 8 : Nat) : Int) by unfold inI; omega)) rfl rfl ?_
      refine lx_ia0 (((bs.length - 1 - i) / 8)) rfl rfl Tryz.underlying33 Tryz.sizeOf24 (by omega) (by omega) rfl rfl ?_
      refine lx_loadm 4 U64 0 rfl rfl Tryz.isAgg24 (by rw [FRs_len]; omega) rfl rfl ?_
      refine lx_move rfl rfl rfl ?_
      refine lx_move rfl rfl rfl ?_
      obtain ⟨ad, rfl, _⟩ := hby i _ (gm U8 bs 0 i (by omega))
      refine lx_isA i rfl rfl Tryz.underlying22 Tryz.sizeOf5 rfl (by omega) rfl rfl ?_
      refine lx_load rfl Tryz.isAgg5 (fun w' h => by obtain ⟨ad', e, hc⟩ := (hby.grow (hp_below h)) i _ (gm U8 bs 0 i (by omega)); cases e; exact hc) rfl rfl ?_
      refine lx_conv rfl rfl (fun _ => conv_u8_u64 Tryz.underlying5 Tryz.underlying24 _) rfl rfl ?_
      refine lx_move rfl rfl rfl ?_
      refine lx_bin (v := I (((bs.length - 1 - i) % 8 : Nat) : Int)) rfl rfl (fun _ => rfl) (fun _ => bin_rem_i _ _ _ (by decide)) rfl rfl ?_
      refine lx_bin (v := I ((8 * ((bs.length - 1 - i) % 8) : Nat) : Int)) rfl rfl (fun _ => rfl) (fun _ => (bin_mul_i _ _ _ (by unfold inI; omega)).trans (by rw [show (8 : Int) * (((bs.length - 1 - i) % 8 : Nat) : Int) = ((8 * ((bs.length - 1 - i) % 8) : Nat) : Int) by omega])) rfl rfl ?_
      refine lx_bin (v := U64 ((bs.getD i 0).setWidth 64 <<< (8 * ((bs.length - 1 - i) % 8)))) rfl rfl (fun _ => rfl) (fun _ => bin_shl_i_u64 _ _ _ (by omega)) rfl rfl ?_
      refine lx_bin rfl rfl (fun _ => rfl) (fun _ => bin_or_u64 _ _ _) rfl rfl ?_
      refine lx_ia0 (((bs.length - 1 - i) / 8)) rfl rfl Tryz.underlying33 Tryz.sizeOf24 (by omega) (by omega) rfl rfl ?_
      refine lx_storem 4 U64 hGF rfl rfl rfl Tryz.sizeOf24 rfl (by rw [FRs_len]; omega) rfl ?_
      refine lx_nil ?_
      refine x_plain (E := EE []) ?_
      refine lx_move rfl rfl rfl ?_
      refine lx_bin rfl rfl (fun _ => rfl) (fun _ => bin_add_i _ _ _ (by unfold inI; omega)) rfl rfl ?_
      refine lx_assign rfl rfl rfl ?_
      refine lx_nil ?_
      repeat (refine kblk_n ?_)
      refine kseq_n ?_
      exact ⟨rfl, ⟨i + 1, by omega⟩, _, by show bs.length - (i + 1) < bs.length - i; omega, rfl, ⟨rfl, rfl, rfl, rfl, trivial⟩, ⟨rfl, rfl, trivial⟩⟩
    · obtain rfl : i = bs.length := by simp at hc; omega
      refine x_exit ?_
      refine xs_plain (E := EE []) ?_
      refine lx_loada 4 rfl rfl Tryz.isAgg33 Tryz.sizeOf33 (by rw [List.length_map, FRs_len]) rfl rfl ?_
      refine lx_storea 2 hGF rfl rfl rfl Tryz.sizeOf33 (by rw [List.length_map, FRs_len _ _]) (by rw [List.length_map, List.length_replicate]) (one_u64 _) rfl ?_
      refine lx_assign rfl rfl rfl ?_
      refine lx_nil ?_
      refine x_ret ?_
      repeat (first | refine kseq_ret ?_ | refine kblk_ret ?_)
      exact kret_ct 2 rfl rfl rfl rfl Tryz.isAgg33 Tryz.sizeOf33 (by rw [List.length_map, FRs_len]) (fun w hw => ⟨by rw [if_neg hA]; rfl, hp_below hw⟩)
theorem bytesOf_pure (a : List (BitVec 64)) (ha : a.length = 6) : Pure Tryz.prog Gt 121 [.agg ((a).map U64).toArray] (.agg ((BYs a 48).map U8).toArray) := by
  intro w hw
  have hGF : BOk Gt (pl w) := gt_low.plain hw
  refine calls_of_X (G := Gt) Tryz.func121 rfl rfl (Hp (pl w) []) (hp_refl (pl w) trivial rides_true) (good_hp hGF) ?_
  refine xs_plain (E := EE []) ?_
  refine lx_boxr 1 hGF rfl rfl rfl ?_
  intro b1
  refine lx_allocr 2 hGF zv98 rfl rfl ?_
  intro b2
  refine lx_nil ?_
  refine xs_plain (E := EE []) ?_
  refine lx_allocr 3 hGF zv98 rfl rfl ?_
  intro b3
  refine lx_nil ?_
  refine x_seq ?_
  refine xs_plain (E := EE []) ?_
  refine lx_move rfl rfl rfl ?_
  refine lx_nil ?_
  refine x_block ?_
  refine x_for (ι := { i : Nat // i ≤ 48 }) (fun x => [(1, .pointer (some ⟨b1, 0, none⟩)), (2, .pointer (some ⟨b2, 0, none⟩)), (3, .pointer (some ⟨b3, 0, none⟩)), (6, I (x.1 : Int))]) (fun x => [(1, b1, a.map U64, 25), (2, b2, (List.replicate 48 0#8).map U8, 98), (3, b3, (BYs a x.1).map U8, 98)]) (fun x => 48 - x.1) ⟨0, by omega⟩ hGF ⟨rfl, rfl, rfl, rfl, trivial⟩ ⟨rfl, rfl, rfl, trivial⟩ ?_
  rintro ⟨i, hi⟩
  dsimp only
  refine xs_plain (E := EE []) ?_
  refine lx_bin rfl rfl (fun _ => rfl) (fun _ => bin_lss_i _ _ _) rfl rfl ?_
  refine lx_nil ?_
  refine x_seq ?_
  refine x_if rfl (fun hc => ?_) (fun hc => ?_)
  · simp only [decide_eq_true_eq] at hc
    refine x_skip ?_
    refine x_seq ?_
    refine x_block ?_
    refine xs_plain (E := EE []) ?_
    refine lx_move rfl rfl rfl ?_
    refine lx_assign rfl rfl rfl ?_
    refine lx_nil ?_
    refine xs_plain (E := EE []) ?_
    refine lx_move rfl rfl rfl ?_
    refine lx_bin (v := I ((47 - i : Nat) : Int)) rfl rfl (fun _ => rfl) (fun _ => (bin_sub_i _ _ _ (by unfold inI; omega)).trans (by rw [show ((47 : Int) - (i : Int)) = ((47 - i : Nat) : Int) by omega])) rfl rfl ?_
    refine lx_assign rfl rfl rfl ?_
    refine lx_nil ?_
    refine x_plain (E := EE []) ?_
    refine lx_move rfl rfl rfl ?_
    refine lx_move rfl rfl rfl ?_
    refine lx_bin (v := I (((47 - i) / 8 : Nat) : Int)) rfl rfl (fun _ => rfl) (fun _ => bin_quo_i _ _ _ (by decide) (show inI (((47 - i) / 8 : Nat) : Int) by unfold inI; omega)) rfl rfl ?_
    refine lx_ia0 (((47 - i) / 8)) rfl rfl Tryz.underlying25 Tryz.sizeOf24 (by omega) (by omega) rfl rfl ?_
    refine lx_loadm 1 U64 0 rfl rfl Tryz.isAgg24 (by rw [ha]; omega) rfl rfl ?_
    refine lx_move rfl rfl rfl ?_
    refine lx_bin (v := I (((47 - i) % 8 : Nat) : Int)) rfl rfl (fun _ => rfl) (fun _ => bin_rem_i _ _ _ (by decide)) rfl rfl ?_
    refine lx_bin (v := I ((8 * ((47 - i) % 8) : Nat) : Int)) rfl rfl (fun _ => rfl) (fun _ => (bin_mul_i _ _ _ (by unfold inI; omega)).trans (by rw [show (8 : Int) * (((47 - i) % 8 : Nat) : Int) = ((8 * ((47 - i) % 8) : Nat) : Int) by omega])) rfl rfl ?_
    refine lx_bin (v := U64 (a.getD ((47 - i) / 8) 0 >>> (8 * ((47 - i) % 8)))) rfl rfl (fun _ => rfl) (fun _ => bin_shr_i_u64 _ _ _ (by omega)) rfl rfl ?_
    refine lx_conv rfl rfl (fun _ => conv_u64_u8 Tryz.underlying24 Tryz.underlying5 _) rfl rfl ?_
    refine lx_ia0 (i) rfl rfl Tryz.underlying98 Tryz.sizeOf5 (by omega) (by omega) rfl rfl ?_
    refine lx_storem 3 U8 hGF rfl rfl rfl Tryz.sizeOf5 rfl (by rw [BYs_len]; omega) rfl ?_
    refine lx_nil ?_
    refine x_plain (E := EE []) ?_
    refine lx_bin rfl rfl (fun _ => rfl) (fun _ => bin_add_i _ _ _ (by unfold inI; omega)) rfl rfl ?_
    refine lx_move rfl rfl rfl ?_
    refine lx_nil ?_
    repeat (refine kblk_n ?_)
    refine kseq_n ?_
    exact ⟨rfl, ⟨i + 1, by omega⟩, _, by show 48 - (i + 1) < 48 - i; omega, rfl, ⟨rfl, rfl, rfl, rfl, trivial⟩, ⟨rfl, rfl, rfl, trivial⟩⟩
  · obtain rfl : i = 48 := by simp at hc; omega
    refine x_exit ?_
    refine xs_plain (E := EE []) ?_
    refine lx_loada 3 rfl rfl Tryz.isAgg98 Tryz.sizeOf98 (by rw [List.length_map, BYs_len]) rfl rfl ?_
    refine lx_storea 2 hGF rfl rfl rfl Tryz.sizeOf98 (by rw [List.length_map, BYs_len _ _]) (by rw [List.length_map, List.length_replicate]) (one_u8 _) rfl ?_
    refine lx_nil ?_
    refine x_ret ?_
    repeat (first | refine kseq_ret ?_ | refine kblk_ret ?_)
    exact kret_own 2 rfl rfl rfl Tryz.isAgg98 Tryz.sizeOf98 (by rw [List.length_map, BYs_len]) (fun w hw => ⟨rfl, hp_below hw⟩)
theorem rbytesOf_pure (a : List (BitVec 64)) (ha : a.length = 6) : Pure Tryz.prog Gt 135 [.agg ((a).map U64).toArray] (.agg ((BYs a 48).map U8).toArray) := by
  intro w hw
  have hGF : BOk Gt (pl w) := gt_low.plain hw
  refine calls_of_X (G := Gt) Tryz.func135 rfl rfl (Hp (pl w) []) (hp_refl (pl w) trivial rides_true) (good_hp hGF) ?_
  refine xs_plain (E := EE []) ?_
  refine lx_boxr 1 hGF rfl rfl rfl ?_
  intro b1
  refine lx_allocr 2 hGF zv98 rfl rfl ?_
  intro b2
  refine lx_nil ?_
  refine xs_plain (E := EE []) ?_
  refine lx_allocr 3 hGF zv98 rfl rfl ?_
  intro b3
  refine lx_nil ?_
  refine x_seq ?_
  refine xs_plain (E := EE []) ?_
  refine lx_assign rfl rfl rfl ?_
  refine lx_nil ?_
  refine x_block ?_
  refine x_for (ι := { i : Nat // i ≤ 48 }) (fun x => [(1, .pointer (some ⟨b1, 0, none⟩)), (2, .pointer (some ⟨b2, 0, none⟩)), (3, .pointer (some ⟨b3, 0, none⟩)), (4, I (x.1 : Int))]) (fun x => [(1, b1, a.map U64, 33), (2, b2, (List.replicate 48 0#8).map U8, 98), (3, b3, (BYs a x.1).map U8, 98)]) (fun x => 48 - x.1) ⟨0, by omega⟩ hGF ⟨rfl, rfl, rfl, rfl, trivial⟩ ⟨rfl, rfl, rfl, trivial⟩ ?_
  rintro ⟨i, hi⟩
  dsimp only
  refine x_seq ?_
  refine xs_plain (E := EE []) ?_
  refine lx_move rfl rfl rfl ?_
  refine lx_bin rfl rfl (fun _ => rfl) (fun _ => bin_lss_i _ _ _) rfl rfl ?_
  refine lx_nil ?_
  refine x_if rfl (fun hc => ?_) (fun hc => ?_)
  · simp only [decide_eq_true_eq] at hc
    refine x_skip ?_
    refine x_seq ?_
    refine x_block ?_
    refine xs_plain (E := EE []) ?_
    refine lx_move rfl rfl rfl ?_
    refine lx_bin (v := I ((47 - i : Nat) : Int)) rfl rfl (fun _ => rfl) (fun _ => (bin_sub_i _ _ _ (by unfold inI; omega)).trans (by rw [show ((47 : Int) - (i : Int)) = ((47 - i : Nat) : Int) by omega])) rfl rfl ?_
    refine lx_assign rfl rfl rfl ?_
    refine lx_nil ?_
    refine x_plain (E := EE []) ?_
    refine lx_move rfl rfl rfl ?_
    refine lx_move rfl rfl rfl ?_
    refine lx_bin (v := I (((47 - i) / 8 : Nat) : Int)) rfl rfl (fun _ => rfl) (fun _ => bin_quo_i _ _ _ (by decide) (show inI (((47 - i) / 8 : Nat) : Int) by unfold inI; omega)) rfl rfl ?_
    refine lx_ia0 (((47 - i) / 8)) rfl rfl Tryz.underlying33 Tryz.sizeOf24 (by omega) (by omega) rfl rfl ?_
    refine lx_loadm 1 U64 0 rfl rfl Tryz.isAgg24 (by rw [ha]; omega) rfl rfl ?_
    refine lx_move rfl rfl rfl ?_
    refine lx_bin (v := I (((47 - i) % 8 : Nat) : Int)) rfl rfl (fun _ => rfl) (fun _ => bin_rem_i _ _ _ (by decide)) rfl rfl ?_
    refine lx_bin (v := I ((8 * ((47 - i) % 8) : Nat) : Int)) rfl rfl (fun _ => rfl) (fun _ => (bin_mul_i _ _ _ (by unfold inI; omega)).trans (by rw [show (8 : Int) * (((47 - i) % 8 : Nat) : Int) = ((8 * ((47 - i) % 8) : Nat) : Int) by omega])) rfl rfl ?_
    refine lx_bin (v := U64 (a.getD ((47 - i) / 8) 0 >>> (8 * ((47 - i) % 8)))) rfl rfl (fun _ => rfl) (fun _ => bin_shr_i_u64 _ _ _ (by omega)) rfl rfl ?_
    refine lx_conv rfl rfl (fun _ => conv_u64_u8 Tryz.underlying24 Tryz.underlying5 _) rfl rfl ?_
    refine lx_ia0 (i) rfl rfl Tryz.underlying98 Tryz.sizeOf5 (by omega) (by omega) rfl rfl ?_
    refine lx_storem 3 U8 hGF rfl rfl rfl Tryz.sizeOf5 rfl (by rw [BYs_len]; omega) rfl ?_
    refine lx_nil ?_
    refine x_plain (E := EE []) ?_
    refine lx_move rfl rfl rfl ?_
    refine lx_bin rfl rfl (fun _ => rfl) (fun _ => bin_add_i _ _ _ (by unfold inI; omega)) rfl rfl ?_
    refine lx_assign rfl rfl rfl ?_
    refine lx_nil ?_
    repeat (refine kblk_n ?_)
    refine kseq_n ?_
    exact ⟨rfl, ⟨i + 1, by omega⟩, _, by show 48 - (i + 1) < 48 - i; omega, rfl, ⟨rfl, rfl, rfl, rfl, trivial⟩, ⟨rfl, rfl, rfl, trivial⟩⟩
  · obtain rfl : i = 48 := by simp at hc; omega
    refine x_exit ?_
    refine xs_plain (E := EE []) ?_
    refine lx_loada 3 rfl rfl Tryz.isAgg98 Tryz.sizeOf98 (by rw [List.length_map, BYs_len]) rfl rfl ?_
    refine lx_storea 2 hGF rfl rfl rfl Tryz.sizeOf98 (by rw [List.length_map, BYs_len _ _]) (by rw [List.length_map, List.length_replicate]) (one_u8 _) rfl ?_
    refine lx_nil ?_
    refine x_ret ?_
    repeat (first | refine kseq_ret ?_ | refine kblk_ret ?_)
    exact kret_own 2 rfl rfl rfl Tryz.isAgg98 Tryz.sizeOf98 (by rw [List.length_map, BYs_len]) (fun w hw => ⟨rfl, hp_below hw⟩)
end Go.Proofs.YtdkmalaffcfoeaaGreatDoor

namespace Go.Proofs.YtdkmalaffcfoeaaGreatDoor
open Go.RowKit
set_option maxRecDepth 100000
set_option maxHeartbeats 1000000
theorem un_neg_u64 (a : BitVec 64) {P : Program} {w : World} : (Op.unary .neg (U64 a)).run P w = .ok (U64 (-a)) w := by
  show (Op.intArith .sub .u64 0 (a.toNat : Int)).run P w = _
  simp only [Op.intArith, Sem.run_pure]
  have h := a.isLt
  congr 2
  simp only [BitVec.toNat_neg]
  congr 1
  simp only [IntKind.wrap, IntKind.signed, IntKind.bits, Bool.false_and]
  simp
  omega

theorem inverse_pure (n : BitVec 64) : Pure Tryz.prog Gt 130 [U64 n] (U64 (IV n 5)) := by
  intro w hw
  have hGF : BOk Gt (pl w) := gt_low.plain hw
  refine calls_of_X (G := Gt) Tryz.func130 rfl rfl (Hp (pl w) []) (hp_refl (pl w) trivial rides_true) (good_hp hGF) ?_
  refine xs_plain (E := EE []) ?_
  refine lx_assign rfl rfl rfl ?_
  refine lx_nil ?_
  refine xs_plain (E := EE []) ?_
  refine lx_move rfl rfl rfl ?_
  refine lx_assign rfl rfl rfl ?_
  refine lx_nil ?_
  refine x_seq ?_
  refine xs_plain (E := EE []) ?_
  refine lx_move rfl rfl rfl ?_
  refine lx_nil ?_
  refine x_block ?_
  refine x_for (ι := { i : Nat // i ≤ 5 }) (fun x => [(0, U64 n), (2, U64 0), (3, U64 (IV n x.1)), (5, I (x.1 : Int))]) (fun x => []) (fun x => 5 - x.1) ⟨0, by omega⟩ hGF ⟨rfl, rfl, rfl, rfl, trivial⟩ trivial ?_
  rintro ⟨i, hi⟩
  dsimp only
  refine xs_plain (E := EE []) ?_
  refine lx_bin rfl rfl (fun _ => rfl) (fun _ => bin_lss_i _ _ _) rfl rfl ?_
  refine lx_nil ?_
  refine x_seq ?_
  refine x_if rfl (fun hc => ?_) (fun hc => ?_)
  · simp only [decide_eq_true_eq] at hc
    refine x_skip ?_
    refine x_seq ?_
    refine x_block ?_
    refine x_plain (E := EE []) ?_
    refine lx_move rfl rfl rfl ?_
    refine lx_move rfl rfl rfl ?_
    refine lx_move rfl rfl rfl ?_
    refine lx_bin rfl rfl (fun _ => rfl) (fun _ => bin_mul_u64 _ _ _) rfl rfl ?_
    refine lx_bin rfl rfl (fun _ => rfl) (fun _ => bin_sub_u64 _ _ _) rfl rfl ?_
    refine lx_bin rfl rfl (fun _ => rfl) (fun _ => bin_mul_u64 _ _ _) rfl rfl ?_
    refine lx_assign rfl rfl rfl ?_
    refine lx_nil ?_
    refine x_plain (E := EE []) ?_
    refine lx_bin rfl rfl (fun _ => rfl) (fun _ => bin_add_i _ _ _ (by unfold inI; omega)) rfl rfl ?_
    refine lx_move rfl rfl rfl ?_
    refine lx_nil ?_
    repeat (refine kblk_n ?_)
    refine kseq_n ?_
    exact ⟨rfl, ⟨i + 1, by omega⟩, _, by show 5 - (i + 1) < 5 - i; omega, rfl, ⟨rfl, rfl, rfl, rfl, trivial⟩, trivial⟩
  · obtain rfl : i = 5 := by simp at hc; omega
    refine x_exit ?_
    refine xs_plain (E := EE []) ?_
    refine lx_move rfl rfl rfl ?_
    refine lx_assign rfl rfl rfl ?_
    refine lx_nil ?_
    refine x_ret ?_
    repeat (first | refine kseq_ret ?_ | refine kblk_ret ?_)
    exact kret_tmp rfl rfl (fun w hw => ⟨rfl, hp_below hw⟩)
theorem info22 : (Tryz.prog.info? 24).map (·.size) = some 1 := by kernel_rfl
theorem lay_front (a : List (BitVec 64)) (h : a.length = 6) : lay 0 (a.map U64) ((List.replicate 12 0#64).map U64) = (a ++ List.replicate 6 0).map U64 := by
  rw [lay_eq _ _ _ (by simp [h])]
  simp [h]

theorem mont_pure (a b m : List (BitVec 64)) (ha : a.length = 6) (hb : b.length = 6) (hm : m.length = 6) : Pure Tryz.prog Gt 111 [.agg ((a).map U64).toArray, .agg ((b).map U64).toArray, .agg ((m).map U64).toArray] (.agg ((MONT a b m).map U64).toArray) := by
  intro w hw
  have hGF : BOk Gt (pl w) := gt_low.plain hw
  refine calls_of_X (G := Gt) Tryz.func111 rfl rfl (Hp (pl w) []) (hp_refl (pl w) trivial rides_true) (good_hp hGF) ?_
  by_cases h0 : m.getD 0 0 % 2 = 0
  · skip
    refine xs_plain (E := EE []) ?_
    refine lx_boxr 3 hGF rfl rfl rfl ?_
    intro b3
    refine lx_boxr 4 hGF rfl rfl rfl ?_
    intro b4
    refine lx_boxr 5 hGF rfl rfl rfl ?_
    intro b5
    refine lx_allocr 6 hGF zv25 rfl rfl ?_
    intro b6
    refine lx_nil ?_
    refine x_seq ?_
    refine xs_plain (E := EE []) ?_
    refine lx_ia0 (0) rfl rfl Tryz.underlying25 Tryz.sizeOf24 (by omega) (by omega) rfl rfl ?_
    refine lx_loadm 5 U64 0 rfl rfl Tryz.isAgg24 (by rw [hm]; omega) rfl rfl ?_
    refine lx_bin rfl rfl (fun _ => rfl) (fun _ => bin_rem_u64 _ _ _ (by decide)) rfl rfl ?_
    refine lx_bin (v := .bool true) rfl rfl (fun _ => rfl) (fun w => (bin_eql_u64 _ _ _).trans (congrArg (fun b => Result.ok (Value.bool b) w) (beq_iff_eq.2 h0))) rfl rfl ?_
    refine lx_nil ?_
    refine x_true rfl ?_
    refine xs_plain (E := EE []) ?_
    refine lx_buildz zv25 Tryz.underlying25 Tryz.sizeOf24 rfl rfl ?_
    refine lx_storea 6 hGF rfl rfl rfl Tryz.sizeOf25 (by rw [List.length_map, List.length_replicate]) (by rw [List.length_map, List.length_replicate]) (one_u64 _) rfl ?_
    refine lx_nil ?_
    refine x_ret ?_
    repeat (first | refine kseq_ret ?_ | refine kblk_ret ?_)
    exact kret_own 6 rfl rfl rfl Tryz.isAgg25 Tryz.sizeOf25 (by rw [List.length_map, List.length_replicate]) (fun w hw => ⟨by rw [MONT, if_pos h0]; rfl, hp_below hw⟩)
  cases h1 : LT a m 6 with
  | true =>
    refine xs_plain (E := EE []) ?_
    refine lx_boxr 3 hGF rfl rfl rfl ?_
    intro b3
    refine lx_boxr 4 hGF rfl rfl rfl ?_
    intro b4
    refine lx_boxr 5 hGF rfl rfl rfl ?_
    intro b5
    refine lx_allocr 6 hGF zv25 rfl rfl ?_
    intro b6
    refine lx_nil ?_
    refine x_seq ?_
    refine xs_plain (E := EE []) ?_
    refine lx_ia0 (0) rfl rfl Tryz.underlying25 Tryz.sizeOf24 (by omega) (by omega) rfl rfl ?_
    refine lx_loadm 5 U64 0 rfl rfl Tryz.isAgg24 (by rw [hm]; omega) rfl rfl ?_
    refine lx_bin rfl rfl (fun _ => rfl) (fun _ => bin_rem_u64 _ _ _ (by decide)) rfl rfl ?_
    refine lx_bin (v := .bool false) rfl rfl (fun _ => rfl) (fun w => (bin_eql_u64 _ _ _).trans (congrArg (fun b => Result.ok (Value.bool b) w) (beq_eq_false_iff_ne.2 h0))) rfl rfl ?_
    refine lx_nil ?_
    refine x_false rfl ?_
    refine x_skip ?_
    refine x_seq ?_
    refine xs_plain (E := EE []) ?_
    refine lx_loada 3 rfl rfl Tryz.isAgg25 Tryz.sizeOf25 (by rw [List.length_map, ha]) rfl rfl ?_
    refine lx_loada 5 rfl rfl Tryz.isAgg25 Tryz.sizeOf25 (by rw [List.length_map, hm]) rfl rfl ?_
    refine lx_call rfl rfl ent128 (less_pure a m ha hm) rfl rfl ?_
    refine lx_un (v := .bool false) rfl (fun _ => (un_not _).trans (by rw [h1]; rfl)) rfl rfl ?_
    refine lx_nil ?_
    refine x_false rfl ?_
    refine x_skip ?_
    refine xs_plain (E := EE []) ?_
    refine lx_ia0 (0) rfl rfl Tryz.underlying25 Tryz.sizeOf24 (by omega) (by omega) rfl rfl ?_
    refine lx_loadm 5 U64 0 rfl rfl Tryz.isAgg24 (by rw [hm]; omega) rfl rfl ?_
    refine lx_call rfl rfl ent130 (inverse_pure _) rfl rfl ?_
    refine lx_un rfl (fun _ => un_neg_u64 _) rfl rfl ?_
    refine lx_assign rfl rfl rfl ?_
    generalize hcl : -(IV (m.getD 0 0) 5) = cl
    refine lx_nil ?_
    refine xs_plain (E := EE []) ?_
    refine lx_allocr 9 hGF zv25 rfl rfl ?_
    intro b9
    refine lx_nil ?_
    refine xs_plain (E := EE []) ?_
    refine lx_assign rfl rfl rfl ?_
    refine lx_nil ?_
    refine x_seq ?_
    refine xs_plain (E := EE []) ?_
    refine lx_loada 3 rfl rfl Tryz.isAgg25 Tryz.sizeOf25 (by rw [List.length_map, ha]) rfl rfl ?_
    refine lx_move rfl rfl rfl ?_
    refine lx_nil ?_
    refine x_block ?_
    refine x_for (ι := { i : Nat // i ≤ 6 }) (fun x => [(4, .pointer (some ⟨b4, 0, none⟩)), (5, .pointer (some ⟨b5, 0, none⟩)), (6, .pointer (some ⟨b6, 0, none⟩)), (8, U64 cl), (9, .pointer (some ⟨b9, 0, none⟩)), (10, U64 (MO a b m cl x.1).2), (38, .agg ((a).map U64).toArray), (39, I (x.1 : Int))]) (fun x => [(4, b4, b.map U64, 25), (5, b5, m.map U64, 25), (6, b6, (List.replicate 6 0#64).map U64, 25), (9, b9, (MO a b m cl x.1).1.map U64, 25)]) (fun x => 6 - x.1) ⟨0, by omega⟩ hGF ⟨rfl, rfl, rfl, rfl, rfl, rfl, rfl, rfl, trivial⟩ ⟨rfl, rfl, rfl, rfl, trivial⟩ ?_
    rintro ⟨i, hi⟩
    dsimp only
    refine xs_plain (E := EE []) ?_
    refine lx_bin rfl rfl (fun _ => rfl) (fun _ => bin_lss_i _ _ _) rfl rfl ?_
    refine lx_nil ?_
    refine x_seq ?_
    refine x_if rfl (fun hc => ?_) (fun hc => ?_)
    · simp only [decide_eq_true_eq] at hc
      refine x_skip ?_
      refine x_seq ?_
      refine x_block ?_
      refine xs_plain (E := EE []) ?_
      refine lx_idxm U64 0 (i) rfl rfl Tryz.underlying25 Tryz.sizeOf24 Tryz.isAgg24 (by omega) (by omega) (ha) rfl rfl ?_
      refine lx_assign rfl rfl rfl ?_
      refine lx_nil ?_
      refine xs_plain (E := EE []) ?_
      refine lx_assign rfl rfl rfl ?_
      refine lx_assign rfl rfl rfl ?_
      refine lx_nil ?_
      refine x_seq ?_
      refine xs_plain (E := EE []) ?_
      refine lx_loada 4 rfl rfl Tryz.isAgg25 Tryz.sizeOf25 (by rw [List.length_map, hb]) rfl rfl ?_
      refine lx_move rfl rfl rfl ?_
      refine lx_nil ?_
      refine x_block ?_
      refine x_for (ι := { i : Nat // i ≤ 6 }) (fun x => [(4, .pointer (some ⟨b4, 0, none⟩)), (5, .pointer (some ⟨b5, 0, none⟩)), (6, .pointer (some ⟨b6, 0, none⟩)), (8, U64 cl), (9, .pointer (some ⟨b9, 0, none⟩)), (10, U64 (MO a b m cl i).2), (38, .agg ((a).map U64).toArray), (39, I (i : Int)), (12, U64 (a.getD i 0)), (13, U64 (MJ (a.getD i 0) b (MO a b m cl i).1 x.1).2), (14, U64 0), (42, .agg ((b).map U64).toArray), (43, I (x.1 : Int))]) (fun x => [(4, b4, b.map U64, 25), (5, b5, m.map U64, 25), (6, b6, (List.replicate 6 0#64).map U64, 25), (9, b9, (MJ (a.getD i 0) b (MO a b m cl i).1 x.1).1.map U64, 25)]) (fun x => 6 - x.1) ⟨0, by omega⟩ hGF ⟨rfl, rfl, rfl, rfl, rfl, rfl, rfl, rfl, rfl, rfl, rfl, rfl, rfl, trivial⟩ ⟨rfl, rfl, rfl, rfl, trivial⟩ ?_
      rintro ⟨j, hj⟩
      dsimp only
      refine xs_plain (E := EE []) ?_
      refine lx_bin rfl rfl (fun _ => rfl) (fun _ => bin_lss_i _ _ _) rfl rfl ?_
      refine lx_nil ?_
      refine x_seq ?_
      refine x_if rfl (fun hc => ?_) (fun hc => ?_)
      · simp only [decide_eq_true_eq] at hc
        refine x_skip ?_
        refine x_seq ?_
        refine x_block ?_
        refine xs_plain (E := EE []) ?_
        refine lx_move rfl rfl rfl ?_
        refine lx_idxm U64 0 (j) rfl rfl Tryz.underlying25 Tryz.sizeOf24 Tryz.isAgg24 (by omega) (by omega) (hb) rfl rfl ?_
        refine lx_assign rfl rfl rfl ?_
        refine lx_assign rfl rfl rfl ?_
        refine lx_nil ?_
        refine x_plain (E := EE []) ?_
        refine lx_move rfl rfl rfl ?_
        refine lx_move rfl rfl rfl ?_
        refine lx_move rfl rfl rfl ?_
        refine lx_move rfl rfl rfl ?_
        refine lx_ia0 (j) rfl rfl Tryz.underlying25 Tryz.sizeOf24 (by omega) (by omega) rfl rfl ?_
        refine lx_loadm 9 U64 0 rfl rfl Tryz.isAgg24 (by rw [MJ_len, MO_len]; omega) rfl rfl ?_
        refine lx_move rfl rfl rfl ?_
        refine lx_call rfl rfl ent131 (mulAdd_pure _ _ _ _) rfl rfl ?_
        refine lx_move rfl rfl rfl ?_
        refine lx_ext rfl rfl rfl rfl ?_
        refine lx_ext rfl rfl rfl rfl ?_
        refine lx_ia0 (j) rfl rfl Tryz.underlying25 Tryz.sizeOf24 (by omega) (by omega) rfl rfl ?_
        refine lx_storem 9 U64 hGF rfl rfl rfl Tryz.sizeOf24 rfl (by rw [MJ_len, MO_len]; omega) rfl ?_
        refine lx_assign rfl rfl rfl ?_
        refine lx_nil ?_
        refine x_plain (E := EE []) ?_
        refine lx_bin rfl rfl (fun _ => rfl) (fun _ => bin_add_i _ _ _ (by unfold inI; omega)) rfl rfl ?_
        refine lx_move rfl rfl rfl ?_
        refine lx_nil ?_
        repeat (refine kblk_n ?_)
        refine kseq_n ?_
        exact ⟨rfl, ⟨j + 1, by omega⟩, _, by show 6 - (j + 1) < 6 - j; omega, rfl, ⟨rfl, rfl, rfl, rfl, rfl, rfl, rfl, rfl, rfl, rfl, rfl, rfl, rfl, trivial⟩, ⟨rfl, rfl, rfl, rfl, trivial⟩⟩
      · obtain rfl : j = 6 := by simp at hc; omega
        generalize hS : MJ (a.getD i 0) b (MO a b m cl i).1 6 = S1
        have hSl : S1.1.length = 6 := by rw [← hS, MJ_len, MO_len]
        refine x_exit ?_
        refine xs_plain (E := EE []) ?_
        refine lx_move rfl rfl rfl ?_
        refine lx_move rfl rfl rfl ?_
        refine lx_ext1 rfl rfl (fun w => add64 _ _ _ (by decide) w) rfl rfl ?_
        refine lx_move rfl rfl rfl ?_
        refine lx_ext rfl rfl rfl rfl ?_
        refine lx_ext rfl rfl rfl rfl ?_
        refine lx_assign rfl rfl rfl ?_
        refine lx_assign rfl rfl rfl ?_
        refine lx_nil ?_
        refine xs_plain (E := EE []) ?_
        refine lx_ia0 (0) rfl rfl Tryz.underlying25 Tryz.sizeOf24 (by omega) (by omega) rfl rfl ?_
        refine lx_loadm 9 U64 0 rfl rfl Tryz.isAgg24 (by rw [hSl]; omega) rfl rfl ?_
        refine lx_move rfl rfl rfl ?_
        refine lx_bin rfl rfl (fun _ => rfl) (fun _ => bin_mul_u64 _ _ _) rfl rfl ?_
        refine lx_assign rfl rfl rfl ?_
        refine lx_nil ?_
        refine xs_plain (E := EE []) ?_
        refine lx_move rfl rfl rfl ?_
        refine lx_ia0 (0) rfl rfl Tryz.underlying25 Tryz.sizeOf24 (by omega) (by omega) rfl rfl ?_
        refine lx_loadm 5 U64 0 rfl rfl Tryz.isAgg24 (by rw [hm]; omega) rfl rfl ?_
        refine lx_ia0 (0) rfl rfl Tryz.underlying25 Tryz.sizeOf24 (by omega) (by omega) rfl rfl ?_
        refine lx_loadm 9 U64 0 rfl rfl Tryz.isAgg24 (by rw [hSl]; omega) rfl rfl ?_
        refine lx_call rfl rfl ent131 (mulAdd_pure _ _ _ _) rfl rfl ?_
        refine lx_move rfl rfl rfl ?_
        refine lx_ext rfl rfl rfl rfl ?_
        refine lx_ext rfl rfl rfl rfl ?_
        refine lx_assign rfl rfl rfl ?_
        refine lx_nil ?_
        refine x_seq ?_
        refine xs_plain (E := EE []) ?_
        refine lx_assign rfl rfl rfl ?_
        refine lx_nil ?_
        refine x_block ?_
        refine x_for (ι := { i : Nat // i ≤ 5 }) (fun x => [(4, .pointer (some ⟨b4, 0, none⟩)), (5, .pointer (some ⟨b5, 0, none⟩)), (6, .pointer (some ⟨b6, 0, none⟩)), (8, U64 cl), (9, .pointer (some ⟨b9, 0, none⟩)), (10, U64 (ADC (MO a b m cl i).2 S1.2 0).1), (38, .agg ((a).map U64).toArray), (39, I (i : Int)), (14, U64 (ADC (MO a b m cl i).2 S1.2 0).2), (17, U64 (S1.1.getD 0 0 * cl)), (13, U64 (MR (S1.1.getD 0 0 * cl) m S1.1 x.1).2), (18, I ((x.1 + 1 : Nat) : Int))]) (fun x => [(4, b4, b.map U64, 25), (5, b5, m.map U64, 25), (6, b6, (List.replicate 6 0#64).map U64, 25), (9, b9, (MR (S1.1.getD 0 0 * cl) m S1.1 x.1).1.map U64, 25)]) (fun x => 5 - x.1) ⟨0, by omega⟩ hGF ⟨rfl, rfl, rfl, rfl, rfl, rfl, rfl, rfl, rfl, rfl, rfl, rfl, trivial⟩ ⟨rfl, rfl, rfl, rfl, trivial⟩ ?_
        rintro ⟨r, hr⟩
        dsimp only
        refine x_seq ?_
        refine xs_plain (E := EE []) ?_
        refine lx_move rfl rfl rfl ?_
        refine lx_bin rfl rfl (fun _ => rfl) (fun _ => bin_lss_i _ _ _) rfl rfl ?_
        refine lx_nil ?_
        refine x_if rfl (fun hc => ?_) (fun hc => ?_)
        · simp only [decide_eq_true_eq] at hc
          refine x_skip ?_
          refine x_seq ?_
          refine x_block ?_
          refine x_drawn (E := EE []) mixed (by kernel_rfl) (by kernel_rfl) (by kernel_rfl) ?_
          refine lx_move rfl rfl rfl ?_
          refine lx_bin (v := I (r : Int)) rfl rfl (fun _ => rfl) (fun _ => (bin_sub_i _ _ _ (by unfold inI; omega)).trans (by rw [show (((r + 1 : Nat) : Int) - 1) = (r : Int) by omega])) rfl rfl ?_
          refine lx_move rfl rfl rfl ?_
          refine lx_move rfl rfl rfl ?_
          refine lx_ia0 ((r + 1)) rfl rfl Tryz.underlying25 Tryz.sizeOf24 (by omega) (by omega) rfl rfl ?_
          refine lx_loadm 5 U64 0 rfl rfl Tryz.isAgg24 (by rw [hm]; omega) rfl rfl ?_
          refine lx_move rfl rfl rfl ?_
          refine lx_ia0 ((r + 1)) rfl rfl Tryz.underlying25 Tryz.sizeOf24 (by omega) (by omega) rfl rfl ?_
          refine lx_loadm 9 U64 0 rfl rfl Tryz.isAgg24 (by rw [MR_len, hSl]; omega) rfl rfl ?_
          refine lx_move rfl rfl rfl ?_
          refine lx_call rfl rfl ent131 (mulAdd_pure _ _ _ _) rfl rfl ?_
          refine lx_move rfl rfl rfl ?_
          refine lx_ext rfl rfl rfl rfl ?_
          refine lx_ext rfl rfl rfl rfl ?_
          refine lx_ia0 (r) rfl rfl Tryz.underlying25 Tryz.sizeOf24 (by omega) (by omega) rfl rfl ?_
          refine lx_storem 9 U64 hGF rfl rfl rfl Tryz.sizeOf24 rfl (by rw [MR_len, hSl]; omega) rfl ?_
          refine lx_assign rfl rfl rfl ?_
          refine lx_nil ?_
          refine x_plain (E := EE []) ?_
          refine lx_move rfl rfl rfl ?_
          refine lx_bin rfl rfl (fun _ => rfl) (fun _ => bin_add_i _ _ _ (by unfold inI; omega)) rfl rfl ?_
          refine lx_assign rfl rfl rfl ?_
          refine lx_nil ?_
          repeat (refine kblk_n ?_)
          refine kseq_n ?_
          exact ⟨rfl, ⟨r + 1, by omega⟩, _, by show 5 - (r + 1) < 5 - r; omega, rfl, ⟨rfl, rfl, rfl, rfl, rfl, rfl, rfl, rfl, rfl, rfl, rfl, rfl, trivial⟩, ⟨rfl, rfl, rfl, rfl, trivial⟩⟩
        · obtain rfl : r = 5 := by simp at hc; omega
          generalize hM : MR (S1.1.getD 0 0 * cl) m S1.1 5 = R1
          have hRl : R1.1.length = 6 := by rw [← hM, MR_len, hSl]
          refine x_exit ?_
          refine xs_plain (E := EE []) ?_
          refine lx_move rfl rfl rfl ?_
          refine lx_move rfl rfl rfl ?_
          refine lx_ext1 rfl rfl (fun w => add64 _ _ _ (by decide) w) rfl rfl ?_
          refine lx_move rfl rfl rfl ?_
          refine lx_ext rfl rfl rfl rfl ?_
          refine lx_ext rfl rfl rfl rfl ?_
          refine lx_ia0 (5) rfl rfl Tryz.underlying25 Tryz.sizeOf24 (by omega) (by omega) rfl rfl ?_
          refine lx_storem 9 U64 hGF rfl rfl rfl Tryz.sizeOf24 rfl (by rw [hRl]; omega) rfl ?_
          refine lx_assign rfl rfl rfl ?_
          refine lx_nil ?_
          refine x_plain (E := EE []) ?_
          refine lx_move rfl rfl rfl ?_
          refine lx_move rfl rfl rfl ?_
          refine lx_bin rfl rfl (fun _ => rfl) (fun _ => bin_add_u64 _ _ _) rfl rfl ?_
          refine lx_assign rfl rfl rfl ?_
          refine lx_nil ?_
          refine x_plain (E := EE []) ?_
          refine lx_bin rfl rfl (fun _ => rfl) (fun _ => bin_add_i _ _ _ (by unfold inI; omega)) rfl rfl ?_
          refine lx_move rfl rfl rfl ?_
          refine lx_nil ?_
          repeat (refine kblk_n ?_)
          refine kseq_n ?_
          exact ⟨rfl, ⟨i + 1, by omega⟩, _, by show 6 - (i + 1) < 6 - i; omega, rfl, ⟨rfl, rfl, rfl, rfl, rfl, by rw [MO_succ a b m cl i hS hM]; rfl, rfl, rfl, trivial⟩, ⟨rfl, rfl, rfl, by rw [MO_succ a b m cl i hS hM]; rfl, trivial⟩⟩
    · obtain rfl : i = 6 := by simp at hc; omega
      refine x_exit ?_
      refine xs_plain (E := EE []) ?_
      refine lx_loada 9 rfl rfl Tryz.isAgg25 Tryz.sizeOf25 (by rw [List.length_map, MO_len]) rfl rfl ?_
      refine lx_move rfl rfl rfl ?_
      refine lx_loada 5 rfl rfl Tryz.isAgg25 Tryz.sizeOf25 (by rw [List.length_map, hm]) rfl rfl ?_
      refine lx_call rfl rfl ent132 (red_pure _ _ _ (MO_len _ _ _ _ _) hm) rfl rfl ?_
      refine lx_storea 6 hGF rfl rfl rfl Tryz.sizeOf25 (by rw [List.length_map, RED_len _ _ _ (MO_len _ _ _ _ _)]) (by rw [List.length_map, List.length_replicate]) (one_u64 _) rfl ?_
      refine lx_nil ?_
      refine x_ret ?_
      repeat (first | refine kseq_ret ?_ | refine kblk_ret ?_)
      exact kret_own 6 rfl rfl rfl Tryz.isAgg25 Tryz.sizeOf25 (by rw [List.length_map]; exact RED_len _ _ _ (MO_len _ _ _ _ _)) (fun w hw => ⟨by rw [MONT, if_neg h0, if_pos h1, MN, hcl], hp_below hw⟩)
  | false =>
    refine xs_plain (E := EE []) ?_
    refine lx_boxr 3 hGF rfl rfl rfl ?_
    intro b3
    refine lx_boxr 4 hGF rfl rfl rfl ?_
    intro b4
    refine lx_boxr 5 hGF rfl rfl rfl ?_
    intro b5
    refine lx_allocr 6 hGF zv25 rfl rfl ?_
    intro b6
    refine lx_nil ?_
    refine x_seq ?_
    refine xs_plain (E := EE []) ?_
    refine lx_ia0 (0) rfl rfl Tryz.underlying25 Tryz.sizeOf24 (by omega) (by omega) rfl rfl ?_
    refine lx_loadm 5 U64 0 rfl rfl Tryz.isAgg24 (by rw [hm]; omega) rfl rfl ?_
    refine lx_bin rfl rfl (fun _ => rfl) (fun _ => bin_rem_u64 _ _ _ (by decide)) rfl rfl ?_
    refine lx_bin (v := .bool false) rfl rfl (fun _ => rfl) (fun w => (bin_eql_u64 _ _ _).trans (congrArg (fun b => Result.ok (Value.bool b) w) (beq_eq_false_iff_ne.2 h0))) rfl rfl ?_
    refine lx_nil ?_
    refine x_false rfl ?_
    refine x_skip ?_
    refine x_seq ?_
    refine xs_plain (E := EE []) ?_
    refine lx_loada 3 rfl rfl Tryz.isAgg25 Tryz.sizeOf25 (by rw [List.length_map, ha]) rfl rfl ?_
    refine lx_loada 5 rfl rfl Tryz.isAgg25 Tryz.sizeOf25 (by rw [List.length_map, hm]) rfl rfl ?_
    refine lx_call rfl rfl ent128 (less_pure a m ha hm) rfl rfl ?_
    refine lx_un (v := .bool true) rfl (fun _ => (un_not _).trans (by rw [h1]; rfl)) rfl rfl ?_
    refine lx_nil ?_
    refine x_true rfl ?_
    refine xs_plain (E := EE []) ?_
    refine lx_allocr 7 hGF zv127 rfl rfl ?_
    intro b7
    refine lx_nil ?_
    refine xs_drawn (E := EE []) mixed (by kernel_rfl) (by kernel_rfl) (by kernel_rfl) ?_
    refine lx_slarr1 (l := 0) (h' := 12) rfl Tryz.underlying127 Tryz.sizeOf24 rfl rfl (by omega) (by omega) rfl rfl ?_
    refine lx_slarr1 (l := 0) (h' := 6) rfl Tryz.underlying25 Tryz.sizeOf24 rfl rfl (by omega) (by omega) rfl rfl ?_
    refine lx_copy (cs := a.map U64) 7 hGF rfl rfl rfl Tryz.underlying128 info22 (by rw [List.length_map, ha]; rfl) (fun w' h j v hv => by rw [Addr.add_mid]; exact hp_row (n := 3) rfl w' h j v hv) (one_u64 _) (by rw [List.length_map, List.length_map, ha]; decide) rfl rfl ?_
    rw [lay_front a ha]
    refine lx_nil ?_
    refine x_plain (E := EE []) ?_
    refine lx_loada 7 rfl rfl Tryz.isAgg127 Tryz.sizeOf127 (by rw [List.length_map, List.length_append, ha, List.length_replicate]) rfl rfl ?_
    refine lx_loada 5 rfl rfl Tryz.isAgg25 Tryz.sizeOf25 (by rw [List.length_map, hm]) rfl rfl ?_
    refine lx_call rfl rfl ent129 (mod_pure (a ++ List.replicate 6 0) m (by rw [List.length_append, ha]; rfl) hm) rfl rfl ?_
    refine lx_storea 3 hGF rfl rfl rfl Tryz.sizeOf25 (by rw [List.length_map, MOD_len _ _]) (by rw [List.length_map, ha]) (one_u64 _) rfl ?_
    refine lx_nil ?_
    refine xs_plain (E := EE []) ?_
    refine lx_ia0 (0) rfl rfl Tryz.underlying25 Tryz.sizeOf24 (by omega) (by omega) rfl rfl ?_
    refine lx_loadm 5 U64 0 rfl rfl Tryz.isAgg24 (by rw [hm]; omega) rfl rfl ?_
    refine lx_call rfl rfl ent130 (inverse_pure _) rfl rfl ?_
    refine lx_un rfl (fun _ => un_neg_u64 _) rfl rfl ?_
    refine lx_assign rfl rfl rfl ?_
    generalize hcl : -(IV (m.getD 0 0) 5) = cl
    refine lx_nil ?_
    refine xs_plain (E := EE []) ?_
    refine lx_allocr 9 hGF zv25 rfl rfl ?_
    intro b9
    refine lx_nil ?_
    refine xs_plain (E := EE []) ?_
    refine lx_assign rfl rfl rfl ?_
    refine lx_nil ?_
    refine x_seq ?_
    refine xs_plain (E := EE []) ?_
    refine lx_loada 3 rfl rfl Tryz.isAgg25 Tryz.sizeOf25 (by rw [List.length_map, MOD_len _ _]) rfl rfl ?_
    refine lx_move rfl rfl rfl ?_
    refine lx_nil ?_
    refine x_block ?_
    refine x_for (ι := { i : Nat // i ≤ 6 }) (fun x => [(4, .pointer (some ⟨b4, 0, none⟩)), (5, .pointer (some ⟨b5, 0, none⟩)), (6, .pointer (some ⟨b6, 0, none⟩)), (8, U64 cl), (9, .pointer (some ⟨b9, 0, none⟩)), (10, U64 (MO (MOD (a ++ List.replicate 6 0) m) b m cl x.1).2), (38, .agg (((MOD (a ++ List.replicate 6 0) m)).map U64).toArray), (39, I (x.1 : Int))]) (fun x => [(4, b4, b.map U64, 25), (5, b5, m.map U64, 25), (6, b6, (List.replicate 6 0#64).map U64, 25), (9, b9, (MO (MOD (a ++ List.replicate 6 0) m) b m cl x.1).1.map U64, 25)]) (fun x => 6 - x.1) ⟨0, by omega⟩ hGF ⟨rfl, rfl, rfl, rfl, rfl, rfl, rfl, rfl, trivial⟩ ⟨rfl, rfl, rfl, rfl, trivial⟩ ?_
    rintro ⟨i, hi⟩
    dsimp only
    refine xs_plain (E := EE []) ?_
    refine lx_bin rfl rfl (fun _ => rfl) (fun _ => bin_lss_i _ _ _) rfl rfl ?_
    refine lx_nil ?_
    refine x_seq ?_
    refine x_if rfl (fun hc => ?_) (fun hc => ?_)
    · simp only [decide_eq_true_eq] at hc
      refine x_skip ?_
      refine x_seq ?_
      refine x_block ?_
      refine xs_plain (E := EE []) ?_
      refine lx_idxm U64 0 (i) rfl rfl Tryz.underlying25 Tryz.sizeOf24 Tryz.isAgg24 (by omega) (by omega) (MOD_len _ _) rfl rfl ?_
      refine lx_assign rfl rfl rfl ?_
      refine lx_nil ?_
      refine xs_plain (E := EE []) ?_
      refine lx_assign rfl rfl rfl ?_
      refine lx_assign rfl rfl rfl ?_
      refine lx_nil ?_
      refine x_seq ?_
      refine xs_plain (E := EE []) ?_
      refine lx_loada 4 rfl rfl Tryz.isAgg25 Tryz.sizeOf25 (by rw [List.length_map, hb]) rfl rfl ?_
      refine lx_move rfl rfl rfl ?_
      refine lx_nil ?_
      refine x_block ?_
      refine x_for (ι := { i : Nat // i ≤ 6 }) (fun x => [(4, .pointer (some ⟨b4, 0, none⟩)), (5, .pointer (some ⟨b5, 0, none⟩)), (6, .pointer (some ⟨b6, 0, none⟩)), (8, U64 cl), (9, .pointer (some ⟨b9, 0, none⟩)), (10, U64 (MO (MOD (a ++ List.replicate 6 0) m) b m cl i).2), (38, .agg (((MOD (a ++ List.replicate 6 0) m)).map U64).toArray), (39, I (i : Int)), (12, U64 ((MOD (a ++ List.replicate 6 0) m).getD i 0)), (13, U64 (MJ ((MOD (a ++ List.replicate 6 0) m).getD i 0) b (MO (MOD (a ++ List.replicate 6 0) m) b m cl i).1 x.1).2), (14, U64 0), (42, .agg ((b).map U64).toArray), (43, I (x.1 : Int))]) (fun x => [(4, b4, b.map U64, 25), (5, b5, m.map U64, 25), (6, b6, (List.replicate 6 0#64).map U64, 25), (9, b9, (MJ ((MOD (a ++ List.replicate 6 0) m).getD i 0) b (MO (MOD (a ++ List.replicate 6 0) m) b m cl i).1 x.1).1.map U64, 25)]) (fun x => 6 - x.1) ⟨0, by omega⟩ hGF ⟨rfl, rfl, rfl, rfl, rfl, rfl, rfl, rfl, rfl, rfl, rfl, rfl, rfl, trivial⟩ ⟨rfl, rfl, rfl, rfl, trivial⟩ ?_
      rintro ⟨j, hj⟩
      dsimp only
      refine xs_plain (E := EE []) ?_
      refine lx_bin rfl rfl (fun _ => rfl) (fun _ => bin_lss_i _ _ _) rfl rfl ?_
      refine lx_nil ?_
      refine x_seq ?_
      refine x_if rfl (fun hc => ?_) (fun hc => ?_)
      · simp only [decide_eq_true_eq] at hc
        refine x_skip ?_
        refine x_seq ?_
        refine x_block ?_
        refine xs_plain (E := EE []) ?_
        refine lx_move rfl rfl rfl ?_
        refine lx_idxm U64 0 (j) rfl rfl Tryz.underlying25 Tryz.sizeOf24 Tryz.isAgg24 (by omega) (by omega) (hb) rfl rfl ?_
        refine lx_assign rfl rfl rfl ?_
        refine lx_assign rfl rfl rfl ?_
        refine lx_nil ?_
        refine x_plain (E := EE []) ?_
        refine lx_move rfl rfl rfl ?_
        refine lx_move rfl rfl rfl ?_
        refine lx_move rfl rfl rfl ?_
        refine lx_move rfl rfl rfl ?_
        refine lx_ia0 (j) rfl rfl Tryz.underlying25 Tryz.sizeOf24 (by omega) (by omega) rfl rfl ?_
        refine lx_loadm 9 U64 0 rfl rfl Tryz.isAgg24 (by rw [MJ_len, MO_len]; omega) rfl rfl ?_
        refine lx_move rfl rfl rfl ?_
        refine lx_call rfl rfl ent131 (mulAdd_pure _ _ _ _) rfl rfl ?_
        refine lx_move rfl rfl rfl ?_
        refine lx_ext rfl rfl rfl rfl ?_
        refine lx_ext rfl rfl rfl rfl ?_
        refine lx_ia0 (j) rfl rfl Tryz.underlying25 Tryz.sizeOf24 (by omega) (by omega) rfl rfl ?_
        refine lx_storem 9 U64 hGF rfl rfl rfl Tryz.sizeOf24 rfl (by rw [MJ_len, MO_len]; omega) rfl ?_
        refine lx_assign rfl rfl rfl ?_
        refine lx_nil ?_
        refine x_plain (E := EE []) ?_
        refine lx_bin rfl rfl (fun _ => rfl) (fun _ => bin_add_i _ _ _ (by unfold inI; omega)) rfl rfl ?_
        refine lx_move rfl rfl rfl ?_
        refine lx_nil ?_
        repeat (refine kblk_n ?_)
        refine kseq_n ?_
        exact ⟨rfl, ⟨j + 1, by omega⟩, _, by show 6 - (j + 1) < 6 - j; omega, rfl, ⟨rfl, rfl, rfl, rfl, rfl, rfl, rfl, rfl, rfl, rfl, rfl, rfl, rfl, trivial⟩, ⟨rfl, rfl, rfl, rfl, trivial⟩⟩
      · obtain rfl : j = 6 := by simp at hc; omega
        generalize hS : MJ ((MOD (a ++ List.replicate 6 0) m).getD i 0) b (MO (MOD (a ++ List.replicate 6 0) m) b m cl i).1 6 = S1
        have hSl : S1.1.length = 6 := by rw [← hS, MJ_len, MO_len]
        refine x_exit ?_
        refine xs_plain (E := EE []) ?_
        refine lx_move rfl rfl rfl ?_
        refine lx_move rfl rfl rfl ?_
        refine lx_ext1 rfl rfl (fun w => add64 _ _ _ (by decide) w) rfl rfl ?_
        refine lx_move rfl rfl rfl ?_
        refine lx_ext rfl rfl rfl rfl ?_
        refine lx_ext rfl rfl rfl rfl ?_
        refine lx_assign rfl rfl rfl ?_
        refine lx_assign rfl rfl rfl ?_
        refine lx_nil ?_
        refine xs_plain (E := EE []) ?_
        refine lx_ia0 (0) rfl rfl Tryz.underlying25 Tryz.sizeOf24 (by omega) (by omega) rfl rfl ?_
        refine lx_loadm 9 U64 0 rfl rfl Tryz.isAgg24 (by rw [hSl]; omega) rfl rfl ?_
        refine lx_move rfl rfl rfl ?_
        refine lx_bin rfl rfl (fun _ => rfl) (fun _ => bin_mul_u64 _ _ _) rfl rfl ?_
        refine lx_assign rfl rfl rfl ?_
        refine lx_nil ?_
        refine xs_plain (E := EE []) ?_
        refine lx_move rfl rfl rfl ?_
        refine lx_ia0 (0) rfl rfl Tryz.underlying25 Tryz.sizeOf24 (by omega) (by omega) rfl rfl ?_
        refine lx_loadm 5 U64 0 rfl rfl Tryz.isAgg24 (by rw [hm]; omega) rfl rfl ?_
        refine lx_ia0 (0) rfl rfl Tryz.underlying25 Tryz.sizeOf24 (by omega) (by omega) rfl rfl ?_
        refine lx_loadm 9 U64 0 rfl rfl Tryz.isAgg24 (by rw [hSl]; omega) rfl rfl ?_
        refine lx_call rfl rfl ent131 (mulAdd_pure _ _ _ _) rfl rfl ?_
        refine lx_move rfl rfl rfl ?_
        refine lx_ext rfl rfl rfl rfl ?_
        refine lx_ext rfl rfl rfl rfl ?_
        refine lx_assign rfl rfl rfl ?_
        refine lx_nil ?_
        refine x_seq ?_
        refine xs_plain (E := EE []) ?_
        refine lx_assign rfl rfl rfl ?_
        refine lx_nil ?_
        refine x_block ?_
        refine x_for (ι := { i : Nat // i ≤ 5 }) (fun x => [(4, .pointer (some ⟨b4, 0, none⟩)), (5, .pointer (some ⟨b5, 0, none⟩)), (6, .pointer (some ⟨b6, 0, none⟩)), (8, U64 cl), (9, .pointer (some ⟨b9, 0, none⟩)), (10, U64 (ADC (MO (MOD (a ++ List.replicate 6 0) m) b m cl i).2 S1.2 0).1), (38, .agg (((MOD (a ++ List.replicate 6 0) m)).map U64).toArray), (39, I (i : Int)), (14, U64 (ADC (MO (MOD (a ++ List.replicate 6 0) m) b m cl i).2 S1.2 0).2), (17, U64 (S1.1.getD 0 0 * cl)), (13, U64 (MR (S1.1.getD 0 0 * cl) m S1.1 x.1).2), (18, I ((x.1 + 1 : Nat) : Int))]) (fun x => [(4, b4, b.map U64, 25), (5, b5, m.map U64, 25), (6, b6, (List.replicate 6 0#64).map U64, 25), (9, b9, (MR (S1.1.getD 0 0 * cl) m S1.1 x.1).1.map U64, 25)]) (fun x => 5 - x.1) ⟨0, by omega⟩ hGF ⟨rfl, rfl, rfl, rfl, rfl, rfl, rfl, rfl, rfl, rfl, rfl, rfl, trivial⟩ ⟨rfl, rfl, rfl, rfl, trivial⟩ ?_
        rintro ⟨r, hr⟩
        dsimp only
        refine x_seq ?_
        refine xs_plain (E := EE []) ?_
        refine lx_move rfl rfl rfl ?_
        refine lx_bin rfl rfl (fun _ => rfl) (fun _ => bin_lss_i _ _ _) rfl rfl ?_
        refine lx_nil ?_
        refine x_if rfl (fun hc => ?_) (fun hc => ?_)
        · simp only [decide_eq_true_eq] at hc
          refine x_skip ?_
          refine x_seq ?_
          refine x_block ?_
          refine x_drawn (E := EE []) mixed (by kernel_rfl) (by kernel_rfl) (by kernel_rfl) ?_
          refine lx_move rfl rfl rfl ?_
          refine lx_bin (v := I (r : Int)) rfl rfl (fun _ => rfl) (fun _ => (bin_sub_i _ _ _ (by unfold inI; omega)).trans (by rw [show (((r + 1 : Nat) : Int) - 1) = (r : Int) by omega])) rfl rfl ?_
          refine lx_move rfl rfl rfl ?_
          refine lx_move rfl rfl rfl ?_
          refine lx_ia0 ((r + 1)) rfl rfl Tryz.underlying25 Tryz.sizeOf24 (by omega) (by omega) rfl rfl ?_
          refine lx_loadm 5 U64 0 rfl rfl Tryz.isAgg24 (by rw [hm]; omega) rfl rfl ?_
          refine lx_move rfl rfl rfl ?_
          refine lx_ia0 ((r + 1)) rfl rfl Tryz.underlying25 Tryz.sizeOf24 (by omega) (by omega) rfl rfl ?_
          refine lx_loadm 9 U64 0 rfl rfl Tryz.isAgg24 (by rw [MR_len, hSl]; omega) rfl rfl ?_
          refine lx_move rfl rfl rfl ?_
          refine lx_call rfl rfl ent131 (mulAdd_pure _ _ _ _) rfl rfl ?_
          refine lx_move rfl rfl rfl ?_
          refine lx_ext rfl rfl rfl rfl ?_
          refine lx_ext rfl rfl rfl rfl ?_
          refine lx_ia0 (r) rfl rfl Tryz.underlying25 Tryz.sizeOf24 (by omega) (by omega) rfl rfl ?_
          refine lx_storem 9 U64 hGF rfl rfl rfl Tryz.sizeOf24 rfl (by rw [MR_len, hSl]; omega) rfl ?_
          refine lx_assign rfl rfl rfl ?_
          refine lx_nil ?_
          refine x_plain (E := EE []) ?_
          refine lx_move rfl rfl rfl ?_
          refine lx_bin rfl rfl (fun _ => rfl) (fun _ => bin_add_i _ _ _ (by unfold inI; omega)) rfl rfl ?_
          refine lx_assign rfl rfl rfl ?_
          refine lx_nil ?_
          repeat (refine kblk_n ?_)
          refine kseq_n ?_
          exact ⟨rfl, ⟨r + 1, by omega⟩, _, by show 5 - (r + 1) < 5 - r; omega, rfl, ⟨rfl, rfl, rfl, rfl, rfl, rfl, rfl, rfl, rfl, rfl, rfl, rfl, trivial⟩, ⟨rfl, rfl, rfl, rfl, trivial⟩⟩
        · obtain rfl : r = 5 := by simp at hc; omega
          generalize hM : MR (S1.1.getD 0 0 * cl) m S1.1 5 = R1
          have hRl : R1.1.length = 6 := by rw [← hM, MR_len, hSl]
          refine x_exit ?_
          refine xs_plain (E := EE []) ?_
          refine lx_move rfl rfl rfl ?_
          refine lx_move rfl rfl rfl ?_
          refine lx_ext1 rfl rfl (fun w => add64 _ _ _ (by decide) w) rfl rfl ?_
          refine lx_move rfl rfl rfl ?_
          refine lx_ext rfl rfl rfl rfl ?_
          refine lx_ext rfl rfl rfl rfl ?_
          refine lx_ia0 (5) rfl rfl Tryz.underlying25 Tryz.sizeOf24 (by omega) (by omega) rfl rfl ?_
          refine lx_storem 9 U64 hGF rfl rfl rfl Tryz.sizeOf24 rfl (by rw [hRl]; omega) rfl ?_
          refine lx_assign rfl rfl rfl ?_
          refine lx_nil ?_
          refine x_plain (E := EE []) ?_
          refine lx_move rfl rfl rfl ?_
          refine lx_move rfl rfl rfl ?_
          refine lx_bin rfl rfl (fun _ => rfl) (fun _ => bin_add_u64 _ _ _) rfl rfl ?_
          refine lx_assign rfl rfl rfl ?_
          refine lx_nil ?_
          refine x_plain (E := EE []) ?_
          refine lx_bin rfl rfl (fun _ => rfl) (fun _ => bin_add_i _ _ _ (by unfold inI; omega)) rfl rfl ?_
          refine lx_move rfl rfl rfl ?_
          refine lx_nil ?_
          repeat (refine kblk_n ?_)
          refine kseq_n ?_
          exact ⟨rfl, ⟨i + 1, by omega⟩, _, by show 6 - (i + 1) < 6 - i; omega, rfl, ⟨rfl, rfl, rfl, rfl, rfl, by rw [MO_succ (MOD (a ++ List.replicate 6 0) m) b m cl i hS hM]; rfl, rfl, rfl, trivial⟩, ⟨rfl, rfl, rfl, by rw [MO_succ (MOD (a ++ List.replicate 6 0) m) b m cl i hS hM]; rfl, trivial⟩⟩
    · obtain rfl : i = 6 := by simp at hc; omega
      refine x_exit ?_
      refine xs_plain (E := EE []) ?_
      refine lx_loada 9 rfl rfl Tryz.isAgg25 Tryz.sizeOf25 (by rw [List.length_map, MO_len]) rfl rfl ?_
      refine lx_move rfl rfl rfl ?_
      refine lx_loada 5 rfl rfl Tryz.isAgg25 Tryz.sizeOf25 (by rw [List.length_map, hm]) rfl rfl ?_
      refine lx_call rfl rfl ent132 (red_pure _ _ _ (MO_len _ _ _ _ _) hm) rfl rfl ?_
      refine lx_storea 6 hGF rfl rfl rfl Tryz.sizeOf25 (by rw [List.length_map, RED_len _ _ _ (MO_len _ _ _ _ _)]) (by rw [List.length_map, List.length_replicate]) (one_u64 _) rfl ?_
      refine lx_nil ?_
      refine x_ret ?_
      repeat (first | refine kseq_ret ?_ | refine kblk_ret ?_)
      exact kret_own 6 rfl rfl rfl Tryz.isAgg25 Tryz.sizeOf25 (by rw [List.length_map]; exact RED_len _ _ _ (MO_len _ _ _ _ _)) (fun w hw => ⟨by rw [MONT, if_neg h0, if_neg (by rw [h1]; decide), MN, hcl], hp_below hw⟩)
end Go.Proofs.YtdkmalaffcfoeaaGreatDoor
