/-
  The walks of sums, differences, order and products.
-/
import Derived.Test.YteohckfbphdngaaN0
import Derived.Test.YteohckfbphdngaaRows
namespace Go.Proofs.Yteohckfbphdngaa
open Go.RowKit
set_option maxRecDepth 100000
set_option maxHeartbeats 1000000
/-- No package-level variable is read. -/
def Gt : Cls := fun _ => True
theorem gt_low : GLow Gt 0 where
  size := fun _ _ => Nat.zero_le _
  same := fun _ _ _ _ => trivial
theorem mixed : Try.prog.follows .mixedOrders = true := by kernel_rfl
def sub64E : Array Value → Sem Value := fun args => do
  let (x, y, b) ← Extern.MathBitsCarry.three "Sub64" args
  pure (Extern.MathBitsCarry.pair ((x + Extern.MathBitsCarry.m64 - y - b) % Extern.MathBitsCarry.m64) (if x < y + b then 1 else 0))
theorem add64 (x y c : BitVec 64) (hc : c.toNat ≤ 1) (w : World) : (callFunc 29 [U64 x, U64 y, U64 c].toArray).run Try.prog w = .ok (.value (.tuple #[U64 (ADC x y c).1, U64 (ADC x y c).2])) w := by
  show (callFunc 29 #[U64 x, U64 y, U64 c]).run Try.prog w = _
  rw [run_callFunc_extern Try.func29 (by kernel_rfl) (by kernel_rfl) (by kernel_rfl) (e := add64Entry) (by kernel_rfl)]
  simp only [U64]
  rw [run_add64 _ _ _ (by omega) (by omega) (by omega) (by omega)]
  have h1 := x.isLt
  have h2 := y.isLt
  have e1 : ((x.toNat : Int) + (y.toNat : Int) + (c.toNat : Int)) % 18446744073709551616 = ((ADC x y c).1.toNat : Int) := by simp only [ADC, BitVec.toNat_ofNat]; omega
  have e2 : ((x.toNat : Int) + (y.toNat : Int) + (c.toNat : Int)) / 18446744073709551616 = ((ADC x y c).2.toNat : Int) := by simp only [ADC, BitVec.toNat_ofNat]; omega
  rw [e1, e2]
  rfl
theorem sub64 (x y c : BitVec 64) (hc : c.toNat ≤ 1) (w : World) : (callFunc 30 [U64 x, U64 y, U64 c].toArray).run Try.prog w = .ok (.value (.tuple #[U64 (SBB x y c).1, U64 (SBB x y c).2])) w := by
  show (callFunc 30 #[U64 x, U64 y, U64 c]).run Try.prog w = _
  rw [run_callFunc_extern Try.func30 (by kernel_rfl) (by kernel_rfl) (by kernel_rfl) (e := sub64E) (by kernel_rfl)]
  have key : ∀ b : Nat, b ≤ 1 → (sub64E #[.int .u64 (x.toNat : Int), .int .u64 (y.toNat : Int), .int .u64 (b : Int)]).run Try.prog w =
      .ok (.tuple #[.int .u64 (((x.toNat + 18446744073709551616 - y.toNat - b) % 18446744073709551616 : Nat) : Int), .int .u64 ((if x.toNat < y.toNat + b then 1 else 0 : Nat) : Int)]) w := fun b hb => by
    have : b = 0 ∨ b = 1 := by omega
    rcases this with rfl | rfl <;> rfl
  simp only [U64]
  rw [key _ hc]
  simp only [Result.andThen, SBB, BitVec.toNat_ofNat]
  congr 5
  split <;> rfl

theorem ent9 : Enters Try.prog 9 := fun _ _ => by kernel_rfl
theorem ent10 : Enters Try.prog 10 := fun _ _ => by kernel_rfl
theorem ent11 : Enters Try.prog 11 := fun _ _ => by kernel_rfl
theorem ent12 : Enters Try.prog 12 := fun _ _ => by kernel_rfl
theorem ent13 : Enters Try.prog 13 := fun _ _ => by kernel_rfl
theorem ent14 : Enters Try.prog 14 := fun _ _ => by kernel_rfl
theorem ent15 : Enters Try.prog 15 := fun _ _ => by kernel_rfl
theorem ent16 : Enters Try.prog 16 := fun _ _ => by kernel_rfl
theorem ent17 : Enters Try.prog 17 := fun _ _ => by kernel_rfl
theorem ent18 : Enters Try.prog 18 := fun _ _ => by kernel_rfl
theorem ent19 : Enters Try.prog 19 := fun _ _ => by kernel_rfl
theorem ent20 : Enters Try.prog 20 := fun _ _ => by kernel_rfl
theorem ent21 : Enters Try.prog 21 := fun _ _ => by kernel_rfl
theorem ent22 : Enters Try.prog 22 := fun _ _ => by kernel_rfl
theorem ent23 : Enters Try.prog 23 := fun _ _ => by kernel_rfl
theorem ent24 : Enters Try.prog 24 := fun _ _ => by kernel_rfl
theorem ent25 : Enters Try.prog 25 := fun _ _ => by kernel_rfl
theorem ent26 : Enters Try.prog 26 := fun _ _ => by kernel_rfl
theorem ent27 : Enters Try.prog 27 := fun _ _ => by kernel_rfl
theorem ent28 : Enters Try.prog 28 := fun _ _ => by kernel_rfl
theorem ent31 : Enters Try.prog 31 := fun _ _ => by kernel_rfl
theorem ent32 : Enters Try.prog 32 := fun _ _ => by kernel_rfl
theorem ent33 : Enters Try.prog 33 := fun _ _ => by kernel_rfl
theorem ent34 : Enters Try.prog 34 := fun _ _ => by kernel_rfl
theorem ent35 : Enters Try.prog 35 := fun _ _ => by kernel_rfl
theorem ent36 : Enters Try.prog 36 := fun _ _ => by kernel_rfl
theorem ent37 : Enters Try.prog 37 := fun _ _ => by kernel_rfl
theorem zv23 (w : World) : (zeroValue 23).run Try.prog w = .ok (.agg ((List.replicate 6 (0#64)).map U64).toArray) w := (Try.zeroValue23 w).trans (by rfl)
theorem zv27 (w : World) : (zeroValue 27).run Try.prog w = .ok (.agg ((List.replicate 6 (0#64)).map U64).toArray) w := (Try.zeroValue27 w).trans (by rfl)
theorem zv31 (w : World) : (zeroValue 31).run Try.prog w = .ok (.agg ((List.replicate 12 (0#64)).map U64).toArray) w := (Try.zeroValue31 w).trans (by rfl)
theorem zv46 (w : World) : (zeroValue 46).run Try.prog w = .ok (.agg ((List.replicate 48 (0#8)).map U8).toArray) w := (Try.zeroValue46 w).trans (by rfl)
theorem add_pure (a b : List (BitVec 64)) (ha : a.length = 6) (hb : b.length = 6) : Pure Try.prog Gt 10 [.agg ((a).map U64).toArray, .agg ((b).map U64).toArray] (.tuple #[.agg (((AS a b 6).1).map U64).toArray, U64 (AS a b 6).2]) := by
  intro w hw
  have hGF : BOk Gt (pl w) := gt_low.plain hw
  refine calls_of_X (G := Gt) Try.func10 rfl rfl (Hp (pl w) []) (hp_refl (pl w) trivial rides_true) (good_hp hGF) ?_
  refine xs_plain (E := EE []) ?_
  refine lx_boxr 2 hGF rfl rfl rfl ?_
  intro b2
  refine lx_boxr 3 hGF rfl rfl rfl ?_
  intro b3
  refine lx_allocr 4 hGF zv23 rfl rfl ?_
  intro b4
  refine lx_assign rfl rfl rfl ?_
  refine lx_nil ?_
  refine xs_plain (E := EE []) ?_
  refine lx_allocr 6 hGF zv23 rfl rfl ?_
  intro b6
  refine lx_nil ?_
  refine xs_plain (E := EE []) ?_
  refine lx_assign rfl rfl rfl ?_
  refine lx_nil ?_
  refine x_seq ?_
  refine xs_plain (E := EE []) ?_
  refine lx_move rfl rfl rfl ?_
  refine lx_nil ?_
  refine x_block ?_
  refine x_for (ι := { i : Nat // i ≤ 6 }) (fun x => [(2, .pointer (some ⟨b2, 0, none⟩)), (3, .pointer (some ⟨b3, 0, none⟩)), (4, .pointer (some ⟨b4, 0, none⟩)), (6, .pointer (some ⟨b6, 0, none⟩)), (7, U64 (AS a b x.1).2), (9, I (x.1 : Int))]) (fun x => [(2, b2, a.map U64, 23), (3, b3, b.map U64, 23), (4, b4, (List.replicate 6 0#64).map U64, 23), (6, b6, (AS a b x.1).1.map U64, 23)]) (fun x => 6 - x.1) ⟨0, by omega⟩ hGF ⟨rfl, rfl, rfl, rfl, rfl, rfl, trivial⟩ ⟨rfl, rfl, rfl, rfl, trivial⟩ ?_
  rintro ⟨i, hi⟩
  dsimp only
  refine xs_plain (E := EE []) ?_
  refine lx_bin rfl rfl (fun _ => rfl) (fun _ => bin_lss_i _ _ _) rfl rfl ?_
  refine lx_nil ?_
  refine x_seq ?_
  refine x_if rfl (fun hc => ?_) (fun hc => ?_)
  · simp only [decide_eq_true_eq] at hc
    refine x_skip ?_
    refine x_seq ?_
    refine x_block ?_
    refine xs_plain (E := EE []) ?_
    refine lx_move rfl rfl rfl ?_
    refine lx_assign rfl rfl rfl ?_
    refine lx_nil ?_
    refine x_drawn (E := EE []) mixed (by kernel_rfl) (by kernel_rfl) (by kernel_rfl) ?_
    refine lx_move rfl rfl rfl ?_
    refine lx_move rfl rfl rfl ?_
    refine lx_ia0 (i) rfl rfl Try.underlying23 Try.sizeOf22 (by omega) (by omega) rfl rfl ?_
    refine lx_loadm 2 U64 0 rfl rfl Try.isAgg22 (by rw [ha]; omega) rfl rfl ?_
    refine lx_move rfl rfl rfl ?_
    refine lx_ia0 (i) rfl rfl Try.underlying23 Try.sizeOf22 (by omega) (by omega) rfl rfl ?_
    refine lx_loadm 3 U64 0 rfl rfl Try.isAgg22 (by rw [hb]; omega) rfl rfl ?_
    refine lx_move rfl rfl rfl ?_
    refine lx_ext1 rfl rfl (fun w => add64 _ _ _ (AS_c a b i) w) rfl rfl ?_
    refine lx_move rfl rfl rfl ?_
    refine lx_ext rfl rfl rfl rfl ?_
    refine lx_ext rfl rfl rfl rfl ?_
    refine lx_ia0 (i) rfl rfl Try.underlying23 Try.sizeOf22 (by omega) (by omega) rfl rfl ?_
    refine lx_storem 6 U64 hGF rfl rfl rfl Try.sizeOf22 rfl (by rw [AS_len]; omega) rfl ?_
    refine lx_assign rfl rfl rfl ?_
    refine lx_nil ?_
    refine x_plain (E := EE []) ?_
    refine lx_bin rfl rfl (fun _ => rfl) (fun _ => bin_add_i _ _ _ (by unfold inI; omega)) rfl rfl ?_
    refine lx_move rfl rfl rfl ?_
    refine lx_nil ?_
    repeat (refine kblk_n ?_)
    refine kseq_n ?_
    exact ⟨rfl, ⟨i + 1, by omega⟩, _, by show 6 - (i + 1) < 6 - i; omega, rfl, ⟨rfl, rfl, rfl, rfl, rfl, rfl, trivial⟩, ⟨rfl, rfl, rfl, rfl, trivial⟩⟩
  · obtain rfl : i = 6 := by simp at hc; omega
    refine x_exit ?_
    refine xs_plain (E := EE []) ?_
    refine lx_loada 6 rfl rfl Try.isAgg23 Try.sizeOf23 (by rw [List.length_map, AS_len]) rfl rfl ?_
    refine lx_move rfl rfl rfl ?_
    refine lx_storea 4 hGF rfl rfl rfl Try.sizeOf23 (by rw [List.length_map, AS_len]) (by rw [List.length_map, List.length_replicate]) (one_u64 _) rfl ?_
    refine lx_assign rfl rfl rfl ?_
    refine lx_nil ?_
    refine x_ret ?_
    repeat (first | refine kseq_ret ?_ | refine kblk_ret ?_)
    exact kret_ct 4 rfl rfl rfl rfl Try.isAgg23 Try.sizeOf23 (by rw [List.length_map, AS_len]) (fun w hw => ⟨rfl, hp_below hw⟩)
theorem sub_pure (a b : List (BitVec 64)) (ha : a.length = 6) (hb : b.length = 6) : Pure Try.prog Gt 11 [.agg ((a).map U64).toArray, .agg ((b).map U64).toArray] (.tuple #[.agg (((SS a b 6).1).map U64).toArray, U64 (SS a b 6).2]) := by
  intro w hw
  have hGF : BOk Gt (pl w) := gt_low.plain hw
  refine calls_of_X (G := Gt) Try.func11 rfl rfl (Hp (pl w) []) (hp_refl (pl w) trivial rides_true) (good_hp hGF) ?_
  refine xs_plain (E := EE []) ?_
  refine lx_boxr 2 hGF rfl rfl rfl ?_
  intro b2
  refine lx_boxr 3 hGF rfl rfl rfl ?_
  intro b3
  refine lx_allocr 4 hGF zv23 rfl rfl ?_
  intro b4
  refine lx_assign rfl rfl rfl ?_
  refine lx_nil ?_
  refine xs_plain (E := EE []) ?_
  refine lx_allocr 6 hGF zv23 rfl rfl ?_
  intro b6
  refine lx_nil ?_
  refine xs_plain (E := EE []) ?_
  refine lx_assign rfl rfl rfl ?_
  refine lx_nil ?_
  refine x_seq ?_
  refine xs_plain (E := EE []) ?_
  refine lx_move rfl rfl rfl ?_
  refine lx_nil ?_
  refine x_block ?_
  refine x_for (ι := { i : Nat // i ≤ 6 }) (fun x => [(2, .pointer (some ⟨b2, 0, none⟩)), (3, .pointer (some ⟨b3, 0, none⟩)), (4, .pointer (some ⟨b4, 0, none⟩)), (6, .pointer (some ⟨b6, 0, none⟩)), (7, U64 (SS a b x.1).2), (9, I (x.1 : Int))]) (fun x => [(2, b2, a.map U64, 23), (3, b3, b.map U64, 23), (4, b4, (List.replicate 6 0#64).map U64, 23), (6, b6, (SS a b x.1).1.map U64, 23)]) (fun x => 6 - x.1) ⟨0, by omega⟩ hGF ⟨rfl, rfl, rfl, rfl, rfl, rfl, trivial⟩ ⟨rfl, rfl, rfl, rfl, trivial⟩ ?_
  rintro ⟨i, hi⟩
  dsimp only
  refine xs_plain (E := EE []) ?_
  refine lx_bin rfl rfl (fun _ => rfl) (fun _ => bin_lss_i _ _ _) rfl rfl ?_
  refine lx_nil ?_
  refine x_seq ?_
  refine x_if rfl (fun hc => ?_) (fun hc => ?_)
  · simp only [decide_eq_true_eq] at hc
    refine x_skip ?_
    refine x_seq ?_
    refine x_block ?_
    refine xs_plain (E := EE []) ?_
    refine lx_move rfl rfl rfl ?_
    refine lx_assign rfl rfl rfl ?_
    refine lx_nil ?_
    refine x_drawn (E := EE []) mixed (by kernel_rfl) (by kernel_rfl) (by kernel_rfl) ?_
    refine lx_move rfl rfl rfl ?_
    refine lx_move rfl rfl rfl ?_
    refine lx_ia0 (i) rfl rfl Try.underlying23 Try.sizeOf22 (by omega) (by omega) rfl rfl ?_
    refine lx_loadm 2 U64 0 rfl rfl Try.isAgg22 (by rw [ha]; omega) rfl rfl ?_
    refine lx_move rfl rfl rfl ?_
    refine lx_ia0 (i) rfl rfl Try.underlying23 Try.sizeOf22 (by omega) (by omega) rfl rfl ?_
    refine lx_loadm 3 U64 0 rfl rfl Try.isAgg22 (by rw [hb]; omega) rfl rfl ?_
    refine lx_move rfl rfl rfl ?_
    refine lx_ext1 rfl rfl (fun w => sub64 _ _ _ (SS_c a b i) w) rfl rfl ?_
    refine lx_move rfl rfl rfl ?_
    refine lx_ext rfl rfl rfl rfl ?_
    refine lx_ext rfl rfl rfl rfl ?_
    refine lx_ia0 (i) rfl rfl Try.underlying23 Try.sizeOf22 (by omega) (by omega) rfl rfl ?_
    refine lx_storem 6 U64 hGF rfl rfl rfl Try.sizeOf22 rfl (by rw [SS_len]; omega) rfl ?_
    refine lx_assign rfl rfl rfl ?_
    refine lx_nil ?_
    refine x_plain (E := EE []) ?_
    refine lx_bin rfl rfl (fun _ => rfl) (fun _ => bin_add_i _ _ _ (by unfold inI; omega)) rfl rfl ?_
    refine lx_move rfl rfl rfl ?_
    refine lx_nil ?_
    repeat (refine kblk_n ?_)
    refine kseq_n ?_
    exact ⟨rfl, ⟨i + 1, by omega⟩, _, by show 6 - (i + 1) < 6 - i; omega, rfl, ⟨rfl, rfl, rfl, rfl, rfl, rfl, trivial⟩, ⟨rfl, rfl, rfl, rfl, trivial⟩⟩
  · obtain rfl : i = 6 := by simp at hc; omega
    refine x_exit ?_
    refine xs_plain (E := EE []) ?_
    refine lx_loada 6 rfl rfl Try.isAgg23 Try.sizeOf23 (by rw [List.length_map, SS_len]) rfl rfl ?_
    refine lx_move rfl rfl rfl ?_
    refine lx_storea 4 hGF rfl rfl rfl Try.sizeOf23 (by rw [List.length_map, SS_len]) (by rw [List.length_map, List.length_replicate]) (one_u64 _) rfl ?_
    refine lx_assign rfl rfl rfl ?_
    refine lx_nil ?_
    refine x_ret ?_
    repeat (first | refine kseq_ret ?_ | refine kblk_ret ?_)
    exact kret_ct 4 rfl rfl rfl rfl Try.isAgg23 Try.sizeOf23 (by rw [List.length_map, SS_len]) (fun w hw => ⟨rfl, hp_below hw⟩)
theorem radd_pure (a b : List (BitVec 64)) (ha : a.length = 6) (hb : b.length = 6) : Pure Try.prog Gt 12 [.agg ((a).map U64).toArray, .agg ((b).map U64).toArray] (.tuple #[.agg (((AS a b 6).1).map U64).toArray, U64 (AS a b 6).2]) := by
  intro w hw
  have hGF : BOk Gt (pl w) := gt_low.plain hw
  refine calls_of_X (G := Gt) Try.func12 rfl rfl (Hp (pl w) []) (hp_refl (pl w) trivial rides_true) (good_hp hGF) ?_
  refine xs_plain (E := EE []) ?_
  refine lx_boxr 2 hGF rfl rfl rfl ?_
  intro b2
  refine lx_boxr 3 hGF rfl rfl rfl ?_
  intro b3
  refine lx_allocr 4 hGF zv27 rfl rfl ?_
  intro b4
  refine lx_assign rfl rfl rfl ?_
  refine lx_nil ?_
  refine xs_plain (E := EE []) ?_
  refine lx_allocr 6 hGF zv27 rfl rfl ?_
  intro b6
  refine lx_nil ?_
  refine xs_plain (E := EE []) ?_
  refine lx_assign rfl rfl rfl ?_
  refine lx_nil ?_
  refine x_seq ?_
  refine xs_plain (E := EE []) ?_
  refine lx_assign rfl rfl rfl ?_
  refine lx_nil ?_
  refine x_block ?_
  refine x_for (ι := { i : Nat // i ≤ 6 }) (fun x => [(2, .pointer (some ⟨b2, 0, none⟩)), (3, .pointer (some ⟨b3, 0, none⟩)), (4, .pointer (some ⟨b4, 0, none⟩)), (6, .pointer (some ⟨b6, 0, none⟩)), (7, U64 (AS a b x.1).2), (8, I (x.1 : Int))]) (fun x => [(2, b2, a.map U64, 27), (3, b3, b.map U64, 27), (4, b4, (List.replicate 6 0#64).map U64, 27), (6, b6, (AS a b x.1).1.map U64, 27)]) (fun x => 6 - x.1) ⟨0, by omega⟩ hGF ⟨rfl, rfl, rfl, rfl, rfl, rfl, trivial⟩ ⟨rfl, rfl, rfl, rfl, trivial⟩ ?_
  rintro ⟨i, hi⟩
  dsimp only
  refine x_seq ?_
  refine xs_plain (E := EE []) ?_
  refine lx_move rfl rfl rfl ?_
  refine lx_bin rfl rfl (fun _ => rfl) (fun _ => bin_lss_i _ _ _) rfl rfl ?_
  refine lx_nil ?_
  refine x_if rfl (fun hc => ?_) (fun hc => ?_)
  · simp only [decide_eq_true_eq] at hc
    refine x_skip ?_
    refine x_seq ?_
    refine x_block ?_
    refine x_drawn (E := EE []) mixed (by kernel_rfl) (by kernel_rfl) (by kernel_rfl) ?_
    refine lx_move rfl rfl rfl ?_
    refine lx_move rfl rfl rfl ?_
    refine lx_ia0 (i) rfl rfl Try.underlying27 Try.sizeOf22 (by omega) (by omega) rfl rfl ?_
    refine lx_loadm 2 U64 0 rfl rfl Try.isAgg22 (by rw [ha]; omega) rfl rfl ?_
    refine lx_move rfl rfl rfl ?_
    refine lx_ia0 (i) rfl rfl Try.underlying27 Try.sizeOf22 (by omega) (by omega) rfl rfl ?_
    refine lx_loadm 3 U64 0 rfl rfl Try.isAgg22 (by rw [hb]; omega) rfl rfl ?_
    refine lx_move rfl rfl rfl ?_
    refine lx_ext1 rfl rfl (fun w => add64 _ _ _ (AS_c a b i) w) rfl rfl ?_
    refine lx_move rfl rfl rfl ?_
    refine lx_ext rfl rfl rfl rfl ?_
    refine lx_ext rfl rfl rfl rfl ?_
    refine lx_ia0 (i) rfl rfl Try.underlying27 Try.sizeOf22 (by omega) (by omega) rfl rfl ?_
    refine lx_storem 6 U64 hGF rfl rfl rfl Try.sizeOf22 rfl (by rw [AS_len]; omega) rfl ?_
    refine lx_assign rfl rfl rfl ?_
    refine lx_nil ?_
    refine x_plain (E := EE []) ?_
    refine lx_move rfl rfl rfl ?_
    refine lx_bin rfl rfl (fun _ => rfl) (fun _ => bin_add_i _ _ _ (by unfold inI; omega)) rfl rfl ?_
    refine lx_assign rfl rfl rfl ?_
    refine lx_nil ?_
    repeat (refine kblk_n ?_)
    refine kseq_n ?_
    exact ⟨rfl, ⟨i + 1, by omega⟩, _, by show 6 - (i + 1) < 6 - i; omega, rfl, ⟨rfl, rfl, rfl, rfl, rfl, rfl, trivial⟩, ⟨rfl, rfl, rfl, rfl, trivial⟩⟩
  · obtain rfl : i = 6 := by simp at hc; omega
    refine x_exit ?_
    refine xs_plain (E := EE []) ?_
    refine lx_loada 6 rfl rfl Try.isAgg27 Try.sizeOf27 (by rw [List.length_map, AS_len]) rfl rfl ?_
    refine lx_move rfl rfl rfl ?_
    refine lx_storea 4 hGF rfl rfl rfl Try.sizeOf27 (by rw [List.length_map, AS_len]) (by rw [List.length_map, List.length_replicate]) (one_u64 _) rfl ?_
    refine lx_assign rfl rfl rfl ?_
    refine lx_nil ?_
    refine x_ret ?_
    repeat (first | refine kseq_ret ?_ | refine kblk_ret ?_)
    exact kret_ct 4 rfl rfl rfl rfl Try.isAgg27 Try.sizeOf27 (by rw [List.length_map, AS_len]) (fun w hw => ⟨rfl, hp_below hw⟩)
theorem rsub_pure (a b : List (BitVec 64)) (ha : a.length = 6) (hb : b.length = 6) : Pure Try.prog Gt 13 [.agg ((a).map U64).toArray, .agg ((b).map U64).toArray] (.tuple #[.agg (((SS a b 6).1).map U64).toArray, U64 (SS a b 6).2]) := by
  intro w hw
  have hGF : BOk Gt (pl w) := gt_low.plain hw
  refine calls_of_X (G := Gt) Try.func13 rfl rfl (Hp (pl w) []) (hp_refl (pl w) trivial rides_true) (good_hp hGF) ?_
  refine xs_plain (E := EE []) ?_
  refine lx_boxr 2 hGF rfl rfl rfl ?_
  intro b2
  refine lx_boxr 3 hGF rfl rfl rfl ?_
  intro b3
  refine lx_allocr 4 hGF zv27 rfl rfl ?_
  intro b4
  refine lx_assign rfl rfl rfl ?_
  refine lx_nil ?_
  refine xs_plain (E := EE []) ?_
  refine lx_allocr 6 hGF zv27 rfl rfl ?_
  intro b6
  refine lx_nil ?_
  refine xs_plain (E := EE []) ?_
  refine lx_assign rfl rfl rfl ?_
  refine lx_nil ?_
  refine x_seq ?_
  refine xs_plain (E := EE []) ?_
  refine lx_assign rfl rfl rfl ?_
  refine lx_nil ?_
  refine x_block ?_
  refine x_for (ι := { i : Nat // i ≤ 6 }) (fun x => [(2, .pointer (some ⟨b2, 0, none⟩)), (3, .pointer (some ⟨b3, 0, none⟩)), (4, .pointer (some ⟨b4, 0, none⟩)), (6, .pointer (some ⟨b6, 0, none⟩)), (7, U64 (SS a b x.1).2), (8, I (x.1 : Int))]) (fun x => [(2, b2, a.map U64, 27), (3, b3, b.map U64, 27), (4, b4, (List.replicate 6 0#64).map U64, 27), (6, b6, (SS a b x.1).1.map U64, 27)]) (fun x => 6 - x.1) ⟨0, by omega⟩ hGF ⟨rfl, rfl, rfl, rfl, rfl, rfl, trivial⟩ ⟨rfl, rfl, rfl, rfl, trivial⟩ ?_
  rintro ⟨i, hi⟩
  dsimp only
  refine x_seq ?_
  refine xs_plain (E := EE []) ?_
  refine lx_move rfl rfl rfl ?_
  refine lx_bin rfl rfl (fun _ => rfl) (fun _ => bin_lss_i _ _ _) rfl rfl ?_
  refine lx_nil ?_
  refine x_if rfl (fun hc => ?_) (fun hc => ?_)
  · simp only [decide_eq_true_eq] at hc
    refine x_skip ?_
    refine x_seq ?_
    refine x_block ?_
    refine x_drawn (E := EE []) mixed (by kernel_rfl) (by kernel_rfl) (by kernel_rfl) ?_
    refine lx_move rfl rfl rfl ?_
    refine lx_move rfl rfl rfl ?_
    refine lx_ia0 (i) rfl rfl Try.underlying27 Try.sizeOf22 (by omega) (by omega) rfl rfl ?_
    refine lx_loadm 2 U64 0 rfl rfl Try.isAgg22 (by rw [ha]; omega) rfl rfl ?_
    refine lx_move rfl rfl rfl ?_
    refine lx_ia0 (i) rfl rfl Try.underlying27 Try.sizeOf22 (by omega) (by omega) rfl rfl ?_
    refine lx_loadm 3 U64 0 rfl rfl Try.isAgg22 (by rw [hb]; omega) rfl rfl ?_
    refine lx_move rfl rfl rfl ?_
    refine lx_ext1 rfl rfl (fun w => sub64 _ _ _ (SS_c a b i) w) rfl rfl ?_
    refine lx_move rfl rfl rfl ?_
    refine lx_ext rfl rfl rfl rfl ?_
    refine lx_ext rfl rfl rfl rfl ?_
    refine lx_ia0 (i) rfl rfl Try.underlying27 Try.sizeOf22 (by omega) (by omega) rfl rfl ?_
    refine lx_storem 6 U64 hGF rfl rfl rfl Try.sizeOf22 rfl (by rw [SS_len]; omega) rfl ?_
    refine lx_assign rfl rfl rfl ?_
    refine lx_nil ?_
    refine x_plain (E := EE []) ?_
    refine lx_move rfl rfl rfl ?_
    refine lx_bin rfl rfl (fun _ => rfl) (fun _ => bin_add_i _ _ _ (by unfold inI; omega)) rfl rfl ?_
    refine lx_assign rfl rfl rfl ?_
    refine lx_nil ?_
    repeat (refine kblk_n ?_)
    refine kseq_n ?_
    exact ⟨rfl, ⟨i + 1, by omega⟩, _, by show 6 - (i + 1) < 6 - i; omega, rfl, ⟨rfl, rfl, rfl, rfl, rfl, rfl, trivial⟩, ⟨rfl, rfl, rfl, rfl, trivial⟩⟩
  · obtain rfl : i = 6 := by simp at hc; omega
    refine x_exit ?_
    refine xs_plain (E := EE []) ?_
    refine lx_loada 6 rfl rfl Try.isAgg27 Try.sizeOf27 (by rw [List.length_map, SS_len]) rfl rfl ?_
    refine lx_move rfl rfl rfl ?_
    refine lx_storea 4 hGF rfl rfl rfl Try.sizeOf27 (by rw [List.length_map, SS_len]) (by rw [List.length_map, List.length_replicate]) (one_u64 _) rfl ?_
    refine lx_assign rfl rfl rfl ?_
    refine lx_nil ?_
    refine x_ret ?_
    repeat (first | refine kseq_ret ?_ | refine kblk_ret ?_)
    exact kret_ct 4 rfl rfl rfl rfl Try.isAgg27 Try.sizeOf27 (by rw [List.length_map, SS_len]) (fun w hw => ⟨rfl, hp_below hw⟩)
theorem less_pure (a b : List (BitVec 64)) (ha : a.length = 6) (hb : b.length = 6) : Pure Try.prog Gt 14 [.agg ((a).map U64).toArray, .agg ((b).map U64).toArray] (.bool (LT a b 6)) := by
  intro w hw
  have hGF : BOk Gt (pl w) := gt_low.plain hw
  refine calls_of_X (G := Gt) Try.func14 rfl rfl (Hp (pl w) []) (hp_refl (pl w) trivial rides_true) (good_hp hGF) ?_
  refine xs_plain (E := EE []) ?_
  refine lx_boxr 2 hGF rfl rfl rfl ?_
  intro b2
  refine lx_boxr 3 hGF rfl rfl rfl ?_
  intro b3
  refine lx_assign rfl rfl rfl ?_
  refine lx_nil ?_
  refine x_scope ?_
  refine x_seq ?_
  refine x_label ?_
  refine x_seq ?_
  refine xs_plain (E := EE []) ?_
  refine lx_assign rfl rfl rfl ?_
  refine lx_nil ?_
  refine x_block ?_
  refine x_for (ι := { i : Nat // i ≤ 6 ∧ LT a b 6 = LT a b i }) (fun x => [(2, .pointer (some ⟨b2, 0, none⟩)), (3, .pointer (some ⟨b3, 0, none⟩)), (4, .bool false), (5, I ((x.1 : Int) - 1))]) (fun x => [(2, b2, a.map U64, 23), (3, b3, b.map U64, 23)]) (fun x => x.1) ⟨6, by omega, rfl⟩ hGF ⟨rfl, rfl, rfl, rfl, trivial⟩ ⟨rfl, rfl, trivial⟩ ?_
  rintro ⟨i, hi, hlt⟩
  dsimp only
  refine x_seq ?_
  refine xs_plain (E := EE []) ?_
  refine lx_move rfl rfl rfl ?_
  refine lx_bin rfl rfl (fun _ => rfl) (fun _ => bin_geq_i _ _ _) rfl rfl ?_
  refine lx_nil ?_
  refine x_if rfl (fun hc => ?_) (fun hc => ?_)
  · simp only [decide_eq_true_eq] at hc
    obtain ⟨k, rfl⟩ : ∃ k, i = k + 1 := ⟨i - 1, by omega⟩
    refine x_skip ?_
    refine x_seq ?_
    refine x_block ?_
    refine x_block ?_
    refine xs_drawn (E := EE []) mixed (by kernel_rfl) (by kernel_rfl) (by kernel_rfl) ?_
    refine lx_move rfl rfl rfl ?_
    refine lx_ia0 (k) rfl rfl Try.underlying23 Try.sizeOf22 (by omega) (by omega) rfl rfl ?_
    refine lx_loadm 2 U64 0 rfl rfl Try.isAgg22 (by rw [ha]; omega) rfl rfl ?_
    refine lx_move rfl rfl rfl ?_
    refine lx_ia0 (k) rfl rfl Try.underlying23 Try.sizeOf22 (by omega) (by omega) rfl rfl ?_
    refine lx_loadm 3 U64 0 rfl rfl Try.isAgg22 (by rw [hb]; omega) rfl rfl ?_
    refine lx_bin rfl rfl (fun _ => rfl) (fun _ => bin_lss_u64 _ _ _) rfl rfl ?_
    refine lx_assign rfl rfl rfl ?_
    refine lx_nil ?_
    refine x_if rfl (fun hc => ?_) (fun hc => ?_)
    · simp only [decide_eq_true_eq] at hc
      have hfin : LT a b 6 = true := by rw [hlt, LT, if_pos hc]
      refine xs_plain (E := EE []) ?_
      refine lx_assign rfl rfl rfl ?_
      refine lx_nil ?_
      refine x_ret ?_
      repeat (first | refine kseq_ret ?_ | refine kblk_ret ?_ | refine kng_ret ?_)
      exact kret_tmp rfl rfl (fun w hw => ⟨by rw [hfin]; rfl, hp_below hw⟩)
    · simp only [decide_eq_false_iff_not] at hc
      have hc1 := hc
      refine xs_drawn (E := EE []) mixed (by kernel_rfl) (by kernel_rfl) (by kernel_rfl) ?_
      refine lx_move rfl rfl rfl ?_
      refine lx_ia0 (k) rfl rfl Try.underlying23 Try.sizeOf22 (by omega) (by omega) rfl rfl ?_
      refine lx_loadm 2 U64 0 rfl rfl Try.isAgg22 (by rw [ha]; omega) rfl rfl ?_
      refine lx_move rfl rfl rfl ?_
      refine lx_ia0 (k) rfl rfl Try.underlying23 Try.sizeOf22 (by omega) (by omega) rfl rfl ?_
      refine lx_loadm 3 U64 0 rfl rfl Try.isAgg22 (by rw [hb]; omega) rfl rfl ?_
      refine lx_bin rfl rfl (fun _ => rfl) (fun _ => bin_gtr_u64 _ _ _) rfl rfl ?_
      refine lx_assign rfl rfl rfl ?_
      refine lx_nil ?_
      refine x_if rfl (fun hc => ?_) (fun hc => ?_)
      · simp only [decide_eq_true_eq] at hc
        have hfin : LT a b 6 = false := by rw [hlt, LT, if_neg hc1, if_pos hc]
        refine x_exit ?_
        refine xs_plain (E := EE []) ?_
        refine lx_assign rfl rfl rfl ?_
        refine lx_nil ?_
        refine x_ret ?_
        repeat (first | refine kseq_ret ?_ | refine kblk_ret ?_ | refine kng_ret ?_)
        exact kret_tmp rfl rfl (fun w hw => ⟨by rw [hfin]; rfl, hp_below hw⟩)
      · simp only [decide_eq_false_iff_not] at hc
        refine x_skip ?_
        refine x_plain (E := EE []) ?_
        refine lx_move rfl rfl rfl ?_
        refine lx_bin (v := I ((k : Int) - 1)) rfl rfl (fun _ => rfl) (fun _ => (bin_sub_i _ _ _ (by unfold inI; omega)).trans (by rw [show (((k + 1 : Nat) : Int) - 1) - 1 = (k : Int) - 1 by omega])) rfl rfl ?_
        refine lx_assign rfl rfl rfl ?_
        refine lx_nil ?_
        repeat (refine kblk_n ?_)
        refine kseq_n ?_
        exact ⟨rfl, ⟨k, by omega, by rw [hlt, LT, if_neg hc1, if_neg hc]⟩, _, by show k < k + 1; omega, rfl, ⟨rfl, rfl, rfl, rfl, trivial⟩, ⟨rfl, rfl, trivial⟩⟩
  · simp only [decide_eq_false_iff_not] at hc
    obtain rfl : i = 0 := by omega
    have hfin : LT a b 6 = false := hlt
    refine x_exit ?_
    refine xs_plain (E := EE []) ?_
    refine lx_assign rfl rfl rfl ?_
    refine lx_nil ?_
    refine x_ret ?_
    repeat (first | refine kseq_ret ?_ | refine kblk_ret ?_ | refine kng_ret ?_)
    exact kret_tmp rfl rfl (fun w hw => ⟨by rw [hfin]; rfl, hp_below hw⟩)
theorem mul64_pure (x y : BitVec 64) : Pure Try.prog Gt 32 [U64 x, U64 y] (.tuple #[U64 (MH x y), U64 (MLo x y)]) := by
  intro w hw
  have hGF : BOk Gt (pl w) := gt_low.plain hw
  refine calls_of_X (G := Gt) Try.func32 rfl rfl (Hp (pl w) []) (hp_refl (pl w) trivial rides_true) (good_hp hGF) ?_
  refine xs_plain (E := EE []) ?_
  refine lx_assign rfl rfl rfl ?_
  refine lx_assign rfl rfl rfl ?_
  refine lx_nil ?_
  refine xs_plain (E := EE []) ?_
  refine lx_move rfl rfl rfl ?_
  refine lx_bin rfl rfl (fun _ => rfl) (fun _ => bin_and_u64 _ _ _) rfl rfl ?_
  refine lx_assign rfl rfl rfl ?_
  refine lx_nil ?_
  refine xs_plain (E := EE []) ?_
  refine lx_move rfl rfl rfl ?_
  refine lx_bin rfl rfl (fun _ => rfl) (fun _ => bin_shr_u64 _ _ _) rfl rfl ?_
  refine lx_assign rfl rfl rfl ?_
  refine lx_nil ?_
  refine xs_plain (E := EE []) ?_
  refine lx_move rfl rfl rfl ?_
  refine lx_bin rfl rfl (fun _ => rfl) (fun _ => bin_and_u64 _ _ _) rfl rfl ?_
  refine lx_assign rfl rfl rfl ?_
  refine lx_nil ?_
  refine xs_plain (E := EE []) ?_
  refine lx_move rfl rfl rfl ?_
  refine lx_bin rfl rfl (fun _ => rfl) (fun _ => bin_shr_u64 _ _ _) rfl rfl ?_
  refine lx_assign rfl rfl rfl ?_
  refine lx_nil ?_
  refine xs_plain (E := EE []) ?_
  refine lx_move rfl rfl rfl ?_
  refine lx_move rfl rfl rfl ?_
  refine lx_bin rfl rfl (fun _ => rfl) (fun _ => bin_mul_u64 _ _ _) rfl rfl ?_
  refine lx_assign rfl rfl rfl ?_
  refine lx_nil ?_
  refine xs_plain (E := EE []) ?_
  refine lx_move rfl rfl rfl ?_
  refine lx_move rfl rfl rfl ?_
  refine lx_bin rfl rfl (fun _ => rfl) (fun _ => bin_mul_u64 _ _ _) rfl rfl ?_
  refine lx_move rfl rfl rfl ?_
  refine lx_bin rfl rfl (fun _ => rfl) (fun _ => bin_shr_u64 _ _ _) rfl rfl ?_
  refine lx_bin rfl rfl (fun _ => rfl) (fun _ => bin_add_u64 _ _ _) rfl rfl ?_
  refine lx_assign rfl rfl rfl ?_
  refine lx_nil ?_
  refine xs_plain (E := EE []) ?_
  refine lx_move rfl rfl rfl ?_
  refine lx_bin rfl rfl (fun _ => rfl) (fun _ => bin_and_u64 _ _ _) rfl rfl ?_
  refine lx_assign rfl rfl rfl ?_
  refine lx_nil ?_
  refine xs_plain (E := EE []) ?_
  refine lx_move rfl rfl rfl ?_
  refine lx_bin rfl rfl (fun _ => rfl) (fun _ => bin_shr_u64 _ _ _) rfl rfl ?_
  refine lx_assign rfl rfl rfl ?_
  refine lx_nil ?_
  refine xs_plain (E := EE []) ?_
  refine lx_move rfl rfl rfl ?_
  refine lx_move rfl rfl rfl ?_
  refine lx_move rfl rfl rfl ?_
  refine lx_bin rfl rfl (fun _ => rfl) (fun _ => bin_mul_u64 _ _ _) rfl rfl ?_
  refine lx_bin rfl rfl (fun _ => rfl) (fun _ => bin_add_u64 _ _ _) rfl rfl ?_
  refine lx_assign rfl rfl rfl ?_
  refine lx_nil ?_
  refine xs_plain (E := EE []) ?_
  refine lx_move rfl rfl rfl ?_
  refine lx_move rfl rfl rfl ?_
  refine lx_bin rfl rfl (fun _ => rfl) (fun _ => bin_mul_u64 _ _ _) rfl rfl ?_
  refine lx_move rfl rfl rfl ?_
  refine lx_bin rfl rfl (fun _ => rfl) (fun _ => bin_add_u64 _ _ _) rfl rfl ?_
  refine lx_move rfl rfl rfl ?_
  refine lx_bin rfl rfl (fun _ => rfl) (fun _ => bin_shr_u64 _ _ _) rfl rfl ?_
  refine lx_bin rfl rfl (fun _ => rfl) (fun _ => bin_add_u64 _ _ _) rfl rfl ?_
  refine lx_assign rfl rfl rfl ?_
  refine lx_nil ?_
  refine xs_plain (E := EE []) ?_
  refine lx_move rfl rfl rfl ?_
  refine lx_move rfl rfl rfl ?_
  refine lx_bin rfl rfl (fun _ => rfl) (fun _ => bin_mul_u64 _ _ _) rfl rfl ?_
  refine lx_assign rfl rfl rfl ?_
  refine lx_nil ?_
  refine x_ret ?_
  repeat (first | refine kseq_ret ?_ | refine kblk_ret ?_)
  exact kret_tt rfl rfl rfl (fun w hw => ⟨by rw [← MH_eq, ← MLo_eq]; rfl, hp_below hw⟩)
theorem mulAdd_pure (x y c d : BitVec 64) : Pure Try.prog Gt 31 [U64 x, U64 y, U64 c, U64 d] (.tuple #[U64 (MA x y c d).1, U64 (MA x y c d).2]) := by
  intro w hw
  have hGF : BOk Gt (pl w) := gt_low.plain hw
  refine calls_of_X (G := Gt) Try.func31 rfl rfl (Hp (pl w) []) (hp_refl (pl w) trivial rides_true) (good_hp hGF) ?_
  refine xs_plain (E := EE []) ?_
  refine lx_assign rfl rfl rfl ?_
  refine lx_assign rfl rfl rfl ?_
  refine lx_nil ?_
  refine xs_plain (E := EE []) ?_
  refine lx_move rfl rfl rfl ?_
  refine lx_move rfl rfl rfl ?_
  refine lx_call rfl rfl ent32 (mul64_pure _ _) rfl rfl ?_
  refine lx_move rfl rfl rfl ?_
  refine lx_ext rfl rfl rfl rfl ?_
  refine lx_ext rfl rfl rfl rfl ?_
  refine lx_assign rfl rfl rfl ?_
  refine lx_assign rfl rfl rfl ?_
  refine lx_nil ?_
  refine xs_plain (E := EE []) ?_
  refine lx_move rfl rfl rfl ?_
  refine lx_move rfl rfl rfl ?_
  refine lx_ext1 rfl rfl (fun w => add64 _ _ _ (by decide) w) rfl rfl ?_
  refine lx_move rfl rfl rfl ?_
  refine lx_ext rfl rfl rfl rfl ?_
  refine lx_ext rfl rfl rfl rfl ?_
  refine lx_assign rfl rfl rfl ?_
  refine lx_assign rfl rfl rfl ?_
  refine lx_nil ?_
  refine xs_plain (E := EE []) ?_
  refine lx_move rfl rfl rfl ?_
  refine lx_move rfl rfl rfl ?_
  refine lx_bin rfl rfl (fun _ => rfl) (fun _ => bin_add_u64 _ _ _) rfl rfl ?_
  refine lx_assign rfl rfl rfl ?_
  refine lx_nil ?_
  refine xs_plain (E := EE []) ?_
  refine lx_move rfl rfl rfl ?_
  refine lx_move rfl rfl rfl ?_
  refine lx_ext1 rfl rfl (fun w => add64 _ _ _ (by decide) w) rfl rfl ?_
  refine lx_move rfl rfl rfl ?_
  refine lx_ext rfl rfl rfl rfl ?_
  refine lx_ext rfl rfl rfl rfl ?_
  refine lx_assign rfl rfl rfl ?_
  refine lx_assign rfl rfl rfl ?_
  refine lx_nil ?_
  refine xs_plain (E := EE []) ?_
  refine lx_move rfl rfl rfl ?_
  refine lx_move rfl rfl rfl ?_
  refine lx_move rfl rfl rfl ?_
  refine lx_bin rfl rfl (fun _ => rfl) (fun _ => bin_add_u64 _ _ _) rfl rfl ?_
  refine lx_assign rfl rfl rfl ?_
  refine lx_assign rfl rfl rfl ?_
  refine lx_nil ?_
  refine x_ret ?_
  repeat (first | refine kseq_ret ?_ | refine kblk_ret ?_)
  exact kret_tt rfl rfl rfl (fun w hw => ⟨rfl, hp_below hw⟩)
theorem mul_pure (a b : List (BitVec 64)) (ha : a.length = 6) (hb : b.length = 6) : Pure Try.prog Gt 15 [.agg ((a).map U64).toArray, .agg ((b).map U64).toArray] (.agg ((MU a b 6).map U64).toArray) := by
  intro w hw
  have hGF : BOk Gt (pl w) := gt_low.plain hw
  refine calls_of_X (G := Gt) Try.func15 rfl rfl (Hp (pl w) []) (hp_refl (pl w) trivial rides_true) (good_hp hGF) ?_
  refine xs_plain (E := EE []) ?_
  refine lx_boxr 2 hGF rfl rfl rfl ?_
  intro b2
  refine lx_boxr 3 hGF rfl rfl rfl ?_
  intro b3
  refine lx_allocr 4 hGF zv31 rfl rfl ?_
  intro b4
  refine lx_nil ?_
  refine xs_plain (E := EE []) ?_
  refine lx_allocr 5 hGF zv31 rfl rfl ?_
  intro b5
  refine lx_nil ?_
  refine x_seq ?_
  refine xs_plain (E := EE []) ?_
  refine lx_loada 2 rfl rfl Try.isAgg23 Try.sizeOf23 (by rw [List.length_map, ha]) rfl rfl ?_
  refine lx_move rfl rfl rfl ?_
  refine lx_nil ?_
  refine x_block ?_
  refine x_for (ι := { i : Nat // i ≤ 6 }) (fun x => [(2, .pointer (some ⟨b2, 0, none⟩)), (3, .pointer (some ⟨b3, 0, none⟩)), (4, .pointer (some ⟨b4, 0, none⟩)), (5, .pointer (some ⟨b5, 0, none⟩)), (11, .agg ((a).map U64).toArray), (12, I (x.1 : Int))]) (fun x => [(2, b2, a.map U64, 23), (3, b3, b.map U64, 23), (4, b4, (List.replicate 12 0#64).map U64, 31), (5, b5, (MU a b x.1).map U64, 31)]) (fun x => 6 - x.1) ⟨0, by omega⟩ hGF ⟨rfl, rfl, rfl, rfl, rfl, rfl, trivial⟩ ⟨rfl, rfl, rfl, rfl, trivial⟩ ?_
  rintro ⟨i, hi⟩
  dsimp only
  refine xs_plain (E := EE []) ?_
  refine lx_bin rfl rfl (fun _ => rfl) (fun _ => bin_lss_i _ _ _) rfl rfl ?_
  refine lx_nil ?_
  refine x_seq ?_
  refine x_if rfl (fun hc => ?_) (fun hc => ?_)
  · simp only [decide_eq_true_eq] at hc
    refine x_skip ?_
    refine x_seq ?_
    refine x_block ?_
    refine xs_plain (E := EE []) ?_
    refine lx_move rfl rfl rfl ?_
    refine lx_idxm U64 0 (i) rfl rfl Try.underlying23 Try.sizeOf22 Try.isAgg22 (by omega) (by omega) (ha) rfl rfl ?_
    refine lx_assign rfl rfl rfl ?_
    refine lx_assign rfl rfl rfl ?_
    refine lx_nil ?_
    refine xs_plain (E := EE []) ?_
    refine lx_assign rfl rfl rfl ?_
    refine lx_nil ?_
    refine x_seq ?_
    refine xs_plain (E := EE []) ?_
    refine lx_loada 3 rfl rfl Try.isAgg23 Try.sizeOf23 (by rw [List.length_map, hb]) rfl rfl ?_
    refine lx_move rfl rfl rfl ?_
    refine lx_nil ?_
    refine x_block ?_
    refine x_for (ι := { i : Nat // i ≤ 6 }) (fun x => [(2, .pointer (some ⟨b2, 0, none⟩)), (3, .pointer (some ⟨b3, 0, none⟩)), (4, .pointer (some ⟨b4, 0, none⟩)), (5, .pointer (some ⟨b5, 0, none⟩)), (11, .agg ((a).map U64).toArray), (12, I (i : Int)), (6, I (i : Int)), (7, U64 (a.getD i 0)), (8, U64 (MI (a.getD i 0) b i (MU a b i) x.1).2), (16, .agg ((b).map U64).toArray), (17, I (x.1 : Int))]) (fun x => [(2, b2, a.map U64, 23), (3, b3, b.map U64, 23), (4, b4, (List.replicate 12 0#64).map U64, 31), (5, b5, (MI (a.getD i 0) b i (MU a b i) x.1).1.map U64, 31)]) (fun x => 6 - x.1) ⟨0, by omega⟩ hGF ⟨rfl, rfl, rfl, rfl, rfl, rfl, rfl, rfl, rfl, rfl, rfl, trivial⟩ ⟨rfl, rfl, rfl, rfl, trivial⟩ ?_
    rintro ⟨j, hj⟩
    dsimp only
    refine xs_plain (E := EE []) ?_
    refine lx_bin rfl rfl (fun _ => rfl) (fun _ => bin_lss_i _ _ _) rfl rfl ?_
    refine lx_nil ?_
    refine x_seq ?_
    refine x_if rfl (fun hc => ?_) (fun hc => ?_)
    · simp only [decide_eq_true_eq] at hc
      refine x_skip ?_
      refine x_seq ?_
      refine x_block ?_
      refine xs_plain (E := EE []) ?_
      refine lx_move rfl rfl rfl ?_
      refine lx_idxm U64 0 (j) rfl rfl Try.underlying23 Try.sizeOf22 Try.isAgg22 (by omega) (by omega) (hb) rfl rfl ?_
      refine lx_assign rfl rfl rfl ?_
      refine lx_assign rfl rfl rfl ?_
      refine lx_nil ?_
      refine x_plain (E := EE []) ?_
      refine lx_move rfl rfl rfl ?_
      refine lx_move rfl rfl rfl ?_
      refine lx_bin rfl rfl (fun _ => rfl) (fun _ => bin_add_i _ _ _ (by unfold inI; omega)) rfl rfl ?_
      refine lx_move rfl rfl rfl ?_
      refine lx_move rfl rfl rfl ?_
      refine lx_move rfl rfl rfl ?_
      refine lx_move rfl rfl rfl ?_
      refine lx_bin rfl rfl (fun _ => rfl) (fun _ => bin_add_i _ _ _ (by unfold inI; omega)) rfl rfl ?_
      refine lx_ia0 ((i + j)) rfl rfl Try.underlying31 Try.sizeOf22 (by omega) (by omega) rfl rfl ?_
      refine lx_loadm 5 U64 0 rfl rfl Try.isAgg22 (by rw [MI_len, MU_len]; omega) rfl rfl ?_
      refine lx_move rfl rfl rfl ?_
      refine lx_call rfl rfl ent31 (mulAdd_pure _ _ _ _) rfl rfl ?_
      refine lx_move rfl rfl rfl ?_
      refine lx_ext rfl rfl rfl rfl ?_
      refine lx_ext rfl rfl rfl rfl ?_
      refine lx_ia0 ((i + j)) rfl rfl Try.underlying31 Try.sizeOf22 (by omega) (by omega) rfl rfl ?_
      refine lx_storem 5 U64 hGF rfl rfl rfl Try.sizeOf22 rfl (by rw [MI_len, MU_len]; omega) rfl ?_
      refine lx_assign rfl rfl rfl ?_
      refine lx_nil ?_
      refine x_plain (E := EE []) ?_
      refine lx_bin rfl rfl (fun _ => rfl) (fun _ => bin_add_i _ _ _ (by unfold inI; omega)) rfl rfl ?_
      refine lx_move rfl rfl rfl ?_
      refine lx_nil ?_
      repeat (refine kblk_n ?_)
      refine kseq_n ?_
      exact ⟨rfl, ⟨j + 1, by omega⟩, _, by show 6 - (j + 1) < 6 - j; omega, rfl, ⟨rfl, rfl, rfl, rfl, rfl, rfl, rfl, rfl, rfl, rfl, rfl, trivial⟩, ⟨rfl, rfl, rfl, rfl, trivial⟩⟩
    · obtain rfl : j = 6 := by simp at hc; omega
      refine x_exit ?_
      refine x_plain (E := EE []) ?_
      refine lx_move rfl rfl rfl ?_
      refine lx_bin rfl rfl (fun _ => rfl) (fun _ => bin_add_i _ _ _ (by unfold inI; omega)) rfl rfl ?_
      refine lx_move rfl rfl rfl ?_
      refine lx_ia0 ((i + 6)) rfl rfl Try.underlying31 Try.sizeOf22 (by omega) (by omega) rfl rfl ?_
      refine lx_storem 5 U64 hGF rfl rfl rfl Try.sizeOf22 rfl (by rw [MI_len, MU_len]; omega) rfl ?_
      refine lx_nil ?_
      refine x_plain (E := EE []) ?_
      refine lx_bin rfl rfl (fun _ => rfl) (fun _ => bin_add_i _ _ _ (by unfold inI; omega)) rfl rfl ?_
      refine lx_move rfl rfl rfl ?_
      refine lx_nil ?_
      repeat (refine kblk_n ?_)
      refine kseq_n ?_
      exact ⟨rfl, ⟨i + 1, by omega⟩, _, by show 6 - (i + 1) < 6 - i; omega, rfl, ⟨rfl, rfl, rfl, rfl, rfl, rfl, trivial⟩, ⟨rfl, rfl, rfl, rfl, trivial⟩⟩
  · obtain rfl : i = 6 := by simp at hc; omega
    refine x_exit ?_
    refine xs_plain (E := EE []) ?_
    refine lx_loada 5 rfl rfl Try.isAgg31 Try.sizeOf31 (by rw [List.length_map, MU_len]) rfl rfl ?_
    refine lx_storea 4 hGF rfl rfl rfl Try.sizeOf31 (by rw [List.length_map, MU_len _ _ _]) (by rw [List.length_map, List.length_replicate]) (one_u64 _) rfl ?_
    refine lx_nil ?_
    refine x_ret ?_
    repeat (first | refine kseq_ret ?_ | refine kblk_ret ?_)
    exact kret_own 4 rfl rfl rfl Try.isAgg31 Try.sizeOf31 (by rw [List.length_map, MU_len]) (fun w hw => ⟨rfl, hp_below hw⟩)
theorem times_pure (a b : List (BitVec 64)) (ha : a.length = 6) (hb : b.length = 6) : Pure Try.prog Gt 16 [.agg ((a).map U64).toArray, .agg ((b).map U64).toArray] (.agg ((MU a b 6).map U64).toArray) := by
  intro w hw
  have hGF : BOk Gt (pl w) := gt_low.plain hw
  refine calls_of_X (G := Gt) Try.func16 rfl rfl (Hp (pl w) []) (hp_refl (pl w) trivial rides_true) (good_hp hGF) ?_
  refine xs_plain (E := EE []) ?_
  refine lx_boxr 2 hGF rfl rfl rfl ?_
  intro b2
  refine lx_boxr 3 hGF rfl rfl rfl ?_
  intro b3
  refine lx_allocr 4 hGF zv31 rfl rfl ?_
  intro b4
  refine lx_nil ?_
  refine xs_plain (E := EE []) ?_
  refine lx_allocr 5 hGF zv31 rfl rfl ?_
  intro b5
  refine lx_nil ?_
  refine x_seq ?_
  refine xs_plain (E := EE []) ?_
  refine lx_assign rfl rfl rfl ?_
  refine lx_nil ?_
  refine x_block ?_
  refine x_for (ι := { i : Nat // i ≤ 6 }) (fun x => [(2, .pointer (some ⟨b2, 0, none⟩)), (3, .pointer (some ⟨b3, 0, none⟩)), (4, .pointer (some ⟨b4, 0, none⟩)), (5, .pointer (some ⟨b5, 0, none⟩)), (6, I (x.1 : Int))]) (fun x => [(2, b2, a.map U64, 27), (3, b3, b.map U64, 27), (4, b4, (List.replicate 12 0#64).map U64, 31), (5, b5, (MU a b x.1).map U64, 31)]) (fun x => 6 - x.1) ⟨0, by omega⟩ hGF ⟨rfl, rfl, rfl, rfl, rfl, trivial⟩ ⟨rfl, rfl, rfl, rfl, trivial⟩ ?_
  rintro ⟨i, hi⟩
  dsimp only
  refine x_seq ?_
  refine xs_plain (E := EE []) ?_
  refine lx_move rfl rfl rfl ?_
  refine lx_bin rfl rfl (fun _ => rfl) (fun _ => bin_lss_i _ _ _) rfl rfl ?_
  refine lx_nil ?_
  refine x_if rfl (fun hc => ?_) (fun hc => ?_)
  · simp only [decide_eq_true_eq] at hc
    refine x_skip ?_
    refine x_seq ?_
    refine x_block ?_
    refine xs_plain (E := EE []) ?_
    refine lx_assign rfl rfl rfl ?_
    refine lx_nil ?_
    refine x_seq ?_
    refine xs_plain (E := EE []) ?_
    refine lx_assign rfl rfl rfl ?_
    refine lx_nil ?_
    refine x_block ?_
    refine x_for (ι := { i : Nat // i ≤ 6 }) (fun x => [(2, .pointer (some ⟨b2, 0, none⟩)), (3, .pointer (some ⟨b3, 0, none⟩)), (4, .pointer (some ⟨b4, 0, none⟩)), (5, .pointer (some ⟨b5, 0, none⟩)), (6, I (i : Int)), (7, U64 (MI (a.getD i 0) b i (MU a b i) x.1).2), (8, I (x.1 : Int))]) (fun x => [(2, b2, a.map U64, 27), (3, b3, b.map U64, 27), (4, b4, (List.replicate 12 0#64).map U64, 31), (5, b5, (MI (a.getD i 0) b i (MU a b i) x.1).1.map U64, 31)]) (fun x => 6 - x.1) ⟨0, by omega⟩ hGF ⟨rfl, rfl, rfl, rfl, rfl, rfl, rfl, trivial⟩ ⟨rfl, rfl, rfl, rfl, trivial⟩ ?_
    rintro ⟨j, hj⟩
    dsimp only
    refine x_seq ?_
    refine xs_plain (E := EE []) ?_
    refine lx_move rfl rfl rfl ?_
    refine lx_bin rfl rfl (fun _ => rfl) (fun _ => bin_lss_i _ _ _) rfl rfl ?_
    refine lx_nil ?_
    refine x_if rfl (fun hc => ?_) (fun hc => ?_)
    · simp only [decide_eq_true_eq] at hc
      refine x_skip ?_
      refine x_seq ?_
      refine x_block ?_
      refine xs_drawn (E := EE []) mixed (by kernel_rfl) (by kernel_rfl) (by kernel_rfl) ?_
      refine lx_move rfl rfl rfl ?_
      refine lx_ia0 (i) rfl rfl Try.underlying27 Try.sizeOf22 (by omega) (by omega) rfl rfl ?_
      refine lx_loadm 2 U64 0 rfl rfl Try.isAgg22 (by rw [ha]; omega) rfl rfl ?_
      refine lx_move rfl rfl rfl ?_
      refine lx_ia0 (j) rfl rfl Try.underlying27 Try.sizeOf22 (by omega) (by omega) rfl rfl ?_
      refine lx_loadm 3 U64 0 rfl rfl Try.isAgg22 (by rw [hb]; omega) rfl rfl ?_
      refine lx_call rfl rfl ent32 (mul64_pure _ _) rfl rfl ?_
      refine lx_move rfl rfl rfl ?_
      refine lx_ext rfl rfl rfl rfl ?_
      refine lx_ext rfl rfl rfl rfl ?_
      refine lx_assign rfl rfl rfl ?_
      refine lx_assign rfl rfl rfl ?_
      refine lx_nil ?_
      refine xs_plain (E := EE []) ?_
      refine lx_assign rfl rfl rfl ?_
      refine lx_nil ?_
      refine xs_plain (E := EE []) ?_
      refine lx_move rfl rfl rfl ?_
      refine lx_move rfl rfl rfl ?_
      refine lx_move rfl rfl rfl ?_
      refine lx_bin rfl rfl (fun _ => rfl) (fun _ => bin_add_i _ _ _ (by unfold inI; omega)) rfl rfl ?_
      refine lx_ia0 ((i + j)) rfl rfl Try.underlying31 Try.sizeOf22 (by omega) (by omega) rfl rfl ?_
      refine lx_loadm 5 U64 0 rfl rfl Try.isAgg22 (by rw [MI_len, MU_len]; omega) rfl rfl ?_
      refine lx_ext1 rfl rfl (fun w => add64 _ _ _ (by decide) w) rfl rfl ?_
      refine lx_move rfl rfl rfl ?_
      refine lx_ext rfl rfl rfl rfl ?_
      refine lx_ext rfl rfl rfl rfl ?_
      refine lx_assign rfl rfl rfl ?_
      refine lx_assign rfl rfl rfl ?_
      refine lx_nil ?_
      refine xs_plain (E := EE []) ?_
      refine lx_move rfl rfl rfl ?_
      refine lx_move rfl rfl rfl ?_
      refine lx_bin rfl rfl (fun _ => rfl) (fun _ => bin_add_u64 _ _ _) rfl rfl ?_
      refine lx_assign rfl rfl rfl ?_
      refine lx_nil ?_
      refine xs_plain (E := EE []) ?_
      refine lx_move rfl rfl rfl ?_
      refine lx_move rfl rfl rfl ?_
      refine lx_ext1 rfl rfl (fun w => add64 _ _ _ (by decide) w) rfl rfl ?_
      refine lx_move rfl rfl rfl ?_
      refine lx_ext rfl rfl rfl rfl ?_
      refine lx_ext rfl rfl rfl rfl ?_
      refine lx_assign rfl rfl rfl ?_
      refine lx_assign rfl rfl rfl ?_
      refine lx_nil ?_
      refine xs_plain (E := EE []) ?_
      refine lx_move rfl rfl rfl ?_
      refine lx_move rfl rfl rfl ?_
      refine lx_bin rfl rfl (fun _ => rfl) (fun _ => bin_add_u64 _ _ _) rfl rfl ?_
      refine lx_assign rfl rfl rfl ?_
      refine lx_nil ?_
      refine x_plain (E := EE []) ?_
      refine lx_move rfl rfl rfl ?_
      refine lx_move rfl rfl rfl ?_
      refine lx_bin rfl rfl (fun _ => rfl) (fun _ => bin_add_i _ _ _ (by unfold inI; omega)) rfl rfl ?_
      refine lx_move rfl rfl rfl ?_
      refine lx_move rfl rfl rfl ?_
      refine lx_ia0 ((i + j)) rfl rfl Try.underlying31 Try.sizeOf22 (by omega) (by omega) rfl rfl ?_
      refine lx_storem 5 U64 hGF rfl rfl rfl Try.sizeOf22 rfl (by rw [MI_len, MU_len]; omega) rfl ?_
      refine lx_assign rfl rfl rfl ?_
      refine lx_nil ?_
      refine x_plain (E := EE []) ?_
      refine lx_move rfl rfl rfl ?_
      refine lx_bin rfl rfl (fun _ => rfl) (fun _ => bin_add_i _ _ _ (by unfold inI; omega)) rfl rfl ?_
      refine lx_assign rfl rfl rfl ?_
      refine lx_nil ?_
      repeat (refine kblk_n ?_)
      refine kseq_n ?_
      exact ⟨rfl, ⟨j + 1, by omega⟩, _, by show 6 - (j + 1) < 6 - j; omega, rfl, ⟨rfl, rfl, rfl, rfl, rfl, rfl, rfl, trivial⟩, ⟨rfl, rfl, rfl, rfl, trivial⟩⟩
    · obtain rfl : j = 6 := by simp at hc; omega
      refine x_exit ?_
      refine x_plain (E := EE []) ?_
      refine lx_move rfl rfl rfl ?_
      refine lx_bin rfl rfl (fun _ => rfl) (fun _ => bin_add_i _ _ _ (by unfold inI; omega)) rfl rfl ?_
      refine lx_move rfl rfl rfl ?_
      refine lx_ia0 ((i + 6)) rfl rfl Try.underlying31 Try.sizeOf22 (by omega) (by omega) rfl rfl ?_
      refine lx_storem 5 U64 hGF rfl rfl rfl Try.sizeOf22 rfl (by rw [MI_len, MU_len]; omega) rfl ?_
      refine lx_nil ?_
      refine x_plain (E := EE []) ?_
      refine lx_move rfl rfl rfl ?_
      refine lx_bin rfl rfl (fun _ => rfl) (fun _ => bin_add_i _ _ _ (by unfold inI; omega)) rfl rfl ?_
      refine lx_assign rfl rfl rfl ?_
      refine lx_nil ?_
      repeat (refine kblk_n ?_)
      refine kseq_n ?_
      exact ⟨rfl, ⟨i + 1, by omega⟩, _, by show 6 - (i + 1) < 6 - i; omega, rfl, ⟨rfl, rfl, rfl, rfl, rfl, trivial⟩, ⟨rfl, rfl, rfl, rfl, trivial⟩⟩
  · obtain rfl : i = 6 := by simp at hc; omega
    refine x_exit ?_
    refine xs_plain (E := EE []) ?_
    refine lx_loada 5 rfl rfl Try.isAgg31 Try.sizeOf31 (by rw [List.length_map, MU_len]) rfl rfl ?_
    refine lx_storea 4 hGF rfl rfl rfl Try.sizeOf31 (by rw [List.length_map, MU_len _ _ _]) (by rw [List.length_map, List.length_replicate]) (one_u64 _) rfl ?_
    refine lx_nil ?_
    refine x_ret ?_
    repeat (first | refine kseq_ret ?_ | refine kblk_ret ?_)
    exact kret_own 4 rfl rfl rfl Try.isAgg31 Try.sizeOf31 (by rw [List.length_map, MU_len]) (fun w hw => ⟨rfl, hp_below hw⟩)
end Go.Proofs.Yteohckfbphdngaa
