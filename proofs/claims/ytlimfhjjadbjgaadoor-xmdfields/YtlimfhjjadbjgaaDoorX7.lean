/-
  The walk of the reference's product modulo p.
  The walks of the reference's elements of p: sums, differences, products.
  The walk of the reference's numbers of many bytes.
  The walk of the reference's powers.
  The walk of the reference's exponents: p and a small number, by a power of two.
  The walks of the reference's inverses and signs.
-/
import Derived.Test.YtlimfhjjadbjgaaDoorX6
import Derived.Test.YtlimfhjjadbjgaaDoorX2
import Derived.Test.YtlimfhjjadbjgaaDoorX4
import Derived.Test.YtlimfhjjadbjgaaDoorX3
namespace Go.Proofs.YtlimfhjjadbjgaaDoor
open Go.RowKit
set_option maxRecDepth 100000
set_option maxHeartbeats 1000000

theorem ent24 : Enters Tryd.prog 24 := fun _ _ => by kernel_rfl
theorem ent49 : Enters Tryd.prog 49 := fun _ _ => by kernel_rfl
theorem ent48 : Enters Tryd.prog 48 := fun _ _ => by kernel_rfl
theorem add64k (x y c s : BitVec 64) (hc : c.toNat ≤ 1) (h : (ADC x y c).1 = s) (w : World) : (callFunc 35 [U64 x, U64 y, U64 c].toArray).run Tryd.prog w = .ok (.value (.tuple #[U64 s, U64 (ADC x y c).2])) w := by
  subst h; exact add64 x y c hc w
theorem PL_len : PL.length = 6 := rfl
theorem rp_pure  : Pure Tryd.prog Gt 24 [] (.agg ((PL).map U64).toArray) := by
  intro w hw
  have hGF : BOk Gt (pl w) := gt_low.plain hw
  refine calls_of_X (G := Gt) Tryd.func24 rfl rfl (Hp (pl w) []) (hp_refl (pl w) trivial rides_true) (good_hp hGF) ?_
  refine xs_plain (E := EE []) ?_
  refine lx_allocr 0 hGF zv43 rfl rfl ?_
  intro b0
  refine lx_nil ?_
  refine xs_plain (E := EE []) ?_
  refine lx_buildr (n := 6) (vs := (PL).map U64) rfl rfl Tryd.underlying43 Tryd.sizeOf41 Tryd.zeroValue43 rfl rfl rfl rfl ?_
  refine lx_storea 0 hGF rfl rfl rfl Tryd.sizeOf43 (by rw [List.length_map, PL_len]) (by rw [List.length_map, List.length_replicate]) (one_u64 _) rfl ?_
  refine lx_nil ?_
  refine x_ret ?_
  repeat (first | refine kseq_ret ?_ | refine kblk_ret ?_)
  exact kret_own 0 rfl rfl rfl Tryd.isAgg43 Tryd.sizeOf43 rfl (fun w hw => ⟨rfl, hp_below hw⟩)
theorem rtwo_pure  : Pure Tryd.prog Gt 49 [] (.agg ((TWO).map U64).toArray) := by
  intro w hw
  have hGF : BOk Gt (pl w) := gt_low.plain hw
  refine calls_of_X (G := Gt) Tryd.func49 rfl rfl (Hp (pl w) []) (hp_refl (pl w) trivial rides_true) (good_hp hGF) ?_
  refine xs_plain (E := EE []) ?_
  refine lx_allocr 0 hGF zv43 rfl rfl ?_
  intro b0
  refine lx_nil ?_
  refine xs_plain (E := EE []) ?_
  refine lx_buildr (n := 6) (vs := (TWO).map U64) rfl rfl Tryd.underlying43 Tryd.sizeOf41 Tryd.zeroValue43 rfl rfl rfl rfl ?_
  refine lx_storea 0 hGF rfl rfl rfl Tryd.sizeOf43 (by rw [List.length_map, TWO_len]) (by rw [List.length_map, List.length_replicate]) (one_u64 _) rfl ?_
  refine lx_nil ?_
  refine x_ret ?_
  repeat (first | refine kseq_ret ?_ | refine kblk_ret ?_)
  exact kret_own 0 rfl rfl rfl Tryd.isAgg43 Tryd.sizeOf43 rfl (fun w hw => ⟨rfl, hp_below hw⟩)
theorem rmont_pure (a b : List (BitVec 64)) (ha : a.length = 6) (hb : b.length = 6) : Pure Tryd.prog Gt 48 [.agg ((a).map U64).toArray, .agg ((b).map U64).toArray] (.agg ((RM a b).map U64).toArray) := by
  intro w hw
  have hGF : BOk Gt (pl w) := gt_low.plain hw
  refine calls_of_X (G := Gt) Tryd.func48 rfl rfl (Hp (pl w) []) (hp_refl (pl w) trivial rides_true) (good_hp hGF) ?_
  by_cases h0 : (SS (RT a b 6) PL 6).2 = 0
  · skip
    refine xs_plain (E := EE []) ?_
    refine lx_boxr 2 hGF rfl rfl rfl ?_
    intro b2
    refine lx_boxr 3 hGF rfl rfl rfl ?_
    intro b3
    refine lx_allocr 4 hGF zv43 rfl rfl ?_
    intro b4
    refine lx_nil ?_
    refine xs_plain (E := EE []) ?_
    refine lx_assign rfl rfl rfl ?_
    refine lx_assign rfl rfl rfl ?_
    refine lx_assign rfl rfl rfl ?_
    refine lx_assign rfl rfl rfl ?_
    refine lx_assign rfl rfl rfl ?_
    refine lx_assign rfl rfl rfl ?_
    refine lx_nil ?_
    refine x_seq ?_
    refine xs_plain (E := EE []) ?_
    refine lx_assign rfl rfl rfl ?_
    refine lx_nil ?_
    refine x_block ?_
    refine x_for (ι := { i : Nat // i ≤ 6 }) (fun x => [(2, .pointer (some ⟨b2, 0, none⟩)), (3, .pointer (some ⟨b3, 0, none⟩)), (4, .pointer (some ⟨b4, 0, none⟩)), (5, U64 ((RT a b x.1).getD 0 0)), (6, U64 ((RT a b x.1).getD 1 0)), (7, U64 ((RT a b x.1).getD 2 0)), (8, U64 ((RT a b x.1).getD 3 0)), (9, U64 ((RT a b x.1).getD 4 0)), (10, U64 ((RT a b x.1).getD 5 0)), (11, I (x.1 : Int))]) (fun x => [(2, b2, a.map U64, 43), (3, b3, b.map U64, 43), (4, b4, (List.replicate 6 0#64).map U64, 43)]) (fun x => 6 - x.1) ⟨0, by omega⟩ hGF ⟨rfl, rfl, rfl, rfl, rfl, rfl, rfl, rfl, rfl, rfl, trivial⟩ ⟨rfl, rfl, rfl, trivial⟩ ?_
    rintro ⟨i, hi⟩
    dsimp only
    refine x_seq ?_
    refine xs_plain (E := EE []) ?_
    refine lx_move rfl rfl rfl ?_
    refine lx_bin rfl rfl (fun _ => rfl) (fun _ => bin_lss_i _ _ _) rfl rfl ?_
    refine lx_nil ?_
    refine x_if rfl (fun hc => ?_) (fun hc => ?_)
    · simp only [decide_eq_true_eq] at hc
      refine x_skip ?_
      refine x_seq ?_
      refine x_block ?_
      refine xs_plain (E := EE []) ?_
      refine lx_assign rfl rfl rfl ?_
      refine lx_assign rfl rfl rfl ?_
      refine lx_assign rfl rfl rfl ?_
      refine lx_assign rfl rfl rfl ?_
      refine lx_nil ?_
      refine xs_plain (E := EE []) ?_
      refine lx_move rfl rfl rfl ?_
      refine lx_ia0 (i) rfl rfl Tryd.underlying43 Tryd.sizeOf41 (by omega) (by omega) rfl rfl ?_
      refine lx_loadm 3 U64 0 rfl rfl Tryd.isAgg41 (by rw [hb]; omega) rfl rfl ?_
      refine lx_assign rfl rfl rfl ?_
      refine lx_nil ?_
      refine xs_plain (E := EE []) ?_
      refine lx_ia0 (0) rfl rfl Tryd.underlying43 Tryd.sizeOf41 (by omega) (by omega) rfl rfl ?_
      refine lx_loadm 2 U64 0 rfl rfl Tryd.isAgg41 (by rw [ha]; omega) rfl rfl ?_
      refine lx_move rfl rfl rfl ?_
      refine lx_call rfl rfl ent50 (mul64_pure _ _) rfl rfl ?_
      refine lx_move rfl rfl rfl ?_
      refine lx_ext rfl rfl rfl rfl ?_
      refine lx_ext rfl rfl rfl rfl ?_
      refine lx_assign rfl rfl rfl ?_
      refine lx_assign rfl rfl rfl ?_
      refine lx_nil ?_
      refine xs_plain (E := EE []) ?_
      refine lx_move rfl rfl rfl ?_
      refine lx_move rfl rfl rfl ?_
      refine lx_ext1 rfl rfl (fun w => add64k _ _ 0 _ (by decide) (k1z (b.getD i 0) a (RT a b i)) w) rfl rfl ?_
      refine lx_move rfl rfl rfl ?_
      refine lx_ext rfl rfl rfl rfl ?_
      refine lx_ext rfl rfl rfl rfl ?_
      refine lx_assign rfl rfl rfl ?_
      refine lx_assign rfl rfl rfl ?_
      refine lx_nil ?_
      refine xs_plain (E := EE []) ?_
      refine lx_move rfl rfl rfl ?_
      refine lx_move rfl rfl rfl ?_
      refine lx_bin (v := U64 (KC (b.getD i 0) a (RT a b i) 1)) rfl rfl (fun _ => rfl) (fun w => (bin_add_u64 _ _ _).trans (congrArg (fun z => Result.ok (U64 z) w) (k2z (b.getD i 0) a (RT a b i)))) rfl rfl ?_
      refine lx_assign rfl rfl rfl ?_
      refine lx_nil ?_
      refine xs_plain (E := EE []) ?_
      refine lx_ia0 (1) rfl rfl Tryd.underlying43 Tryd.sizeOf41 (by omega) (by omega) rfl rfl ?_
      refine lx_loadm 2 U64 0 rfl rfl Tryd.isAgg41 (by rw [ha]; omega) rfl rfl ?_
      refine lx_move rfl rfl rfl ?_
      refine lx_call rfl rfl ent50 (mul64_pure _ _) rfl rfl ?_
      refine lx_move rfl rfl rfl ?_
      refine lx_ext rfl rfl rfl rfl ?_
      refine lx_ext rfl rfl rfl rfl ?_
      refine lx_assign rfl rfl rfl ?_
      refine lx_assign rfl rfl rfl ?_
      refine lx_nil ?_
      refine xs_plain (E := EE []) ?_
      refine lx_move rfl rfl rfl ?_
      refine lx_move rfl rfl rfl ?_
      refine lx_ext1 rfl rfl (fun w => add64 _ _ 0 (by decide) w) rfl rfl ?_
      refine lx_move rfl rfl rfl ?_
      refine lx_ext rfl rfl rfl rfl ?_
      refine lx_ext rfl rfl rfl rfl ?_
      refine lx_assign rfl rfl rfl ?_
      refine lx_assign rfl rfl rfl ?_
      refine lx_nil ?_
      refine xs_plain (E := EE []) ?_
      refine lx_move rfl rfl rfl ?_
      refine lx_move rfl rfl rfl ?_
      refine lx_bin rfl rfl (fun _ => rfl) (fun _ => bin_add_u64 _ _ _) rfl rfl ?_
      refine lx_assign rfl rfl rfl ?_
      refine lx_nil ?_
      refine xs_plain (E := EE []) ?_
      refine lx_move rfl rfl rfl ?_
      refine lx_move rfl rfl rfl ?_
      refine lx_ext1 rfl rfl (fun w => add64k _ _ 0 _ (by decide) (k1s (b.getD i 0) a (RT a b i) 1) w) rfl rfl ?_
      refine lx_move rfl rfl rfl ?_
      refine lx_ext rfl rfl rfl rfl ?_
      refine lx_ext rfl rfl rfl rfl ?_
      refine lx_assign rfl rfl rfl ?_
      refine lx_assign rfl rfl rfl ?_
      refine lx_nil ?_
      refine xs_plain (E := EE []) ?_
      refine lx_move rfl rfl rfl ?_
      refine lx_move rfl rfl rfl ?_
      refine lx_bin (v := U64 (KC (b.getD i 0) a (RT a b i) 2)) rfl rfl (fun _ => rfl) (fun w => (bin_add_u64 _ _ _).trans (congrArg (fun z => Result.ok (U64 z) w) (k2s (b.getD i 0) a (RT a b i) 1))) rfl rfl ?_
      refine lx_assign rfl rfl rfl ?_
      refine lx_nil ?_
      refine xs_plain (E := EE []) ?_
      refine lx_ia0 (2) rfl rfl Tryd.underlying43 Tryd.sizeOf41 (by omega) (by omega) rfl rfl ?_
      refine lx_loadm 2 U64 0 rfl rfl Tryd.isAgg41 (by rw [ha]; omega) rfl rfl ?_
      refine lx_move rfl rfl rfl ?_
      refine lx_call rfl rfl ent50 (mul64_pure _ _) rfl rfl ?_
      refine lx_move rfl rfl rfl ?_
      refine lx_ext rfl rfl rfl rfl ?_
      refine lx_ext rfl rfl rfl rfl ?_
      refine lx_assign rfl rfl rfl ?_
      refine lx_assign rfl rfl rfl ?_
      refine lx_nil ?_
      refine xs_plain (E := EE []) ?_
      refine lx_move rfl rfl rfl ?_
      refine lx_move rfl rfl rfl ?_
      refine lx_ext1 rfl rfl (fun w => add64 _ _ 0 (by decide) w) rfl rfl ?_
      refine lx_move rfl rfl rfl ?_
      refine lx_ext rfl rfl rfl rfl ?_
      refine lx_ext rfl rfl rfl rfl ?_
      refine lx_assign rfl rfl rfl ?_
      refine lx_assign rfl rfl rfl ?_
      refine lx_nil ?_
      refine xs_plain (E := EE []) ?_
      refine lx_move rfl rfl rfl ?_
      refine lx_move rfl rfl rfl ?_
      refine lx_bin rfl rfl (fun _ => rfl) (fun _ => bin_add_u64 _ _ _) rfl rfl ?_
      refine lx_assign rfl rfl rfl ?_
      refine lx_nil ?_
      refine xs_plain (E := EE []) ?_
      refine lx_move rfl rfl rfl ?_
      refine lx_move rfl rfl rfl ?_
      refine lx_ext1 rfl rfl (fun w => add64k _ _ 0 _ (by decide) (k1s (b.getD i 0) a (RT a b i) 2) w) rfl rfl ?_
      refine lx_move rfl rfl rfl ?_
      refine lx_ext rfl rfl rfl rfl ?_
      refine lx_ext rfl rfl rfl rfl ?_
      refine lx_assign rfl rfl rfl ?_
      refine lx_assign rfl rfl rfl ?_
      refine lx_nil ?_
      refine xs_plain (E := EE []) ?_
      refine lx_move rfl rfl rfl ?_
      refine lx_move rfl rfl rfl ?_
      refine lx_bin (v := U64 (KC (b.getD i 0) a (RT a b i) 3)) rfl rfl (fun _ => rfl) (fun w => (bin_add_u64 _ _ _).trans (congrArg (fun z => Result.ok (U64 z) w) (k2s (b.getD i 0) a (RT a b i) 2))) rfl rfl ?_
      refine lx_assign rfl rfl rfl ?_
      refine lx_nil ?_
      refine xs_plain (E := EE []) ?_
      refine lx_ia0 (3) rfl rfl Tryd.underlying43 Tryd.sizeOf41 (by omega) (by omega) rfl rfl ?_
      refine lx_loadm 2 U64 0 rfl rfl Tryd.isAgg41 (by rw [ha]; omega) rfl rfl ?_
      refine lx_move rfl rfl rfl ?_
      refine lx_call rfl rfl ent50 (mul64_pure _ _) rfl rfl ?_
      refine lx_move rfl rfl rfl ?_
      refine lx_ext rfl rfl rfl rfl ?_
      refine lx_ext rfl rfl rfl rfl ?_
      refine lx_assign rfl rfl rfl ?_
      refine lx_assign rfl rfl rfl ?_
      refine lx_nil ?_
      refine xs_plain (E := EE []) ?_
      refine lx_move rfl rfl rfl ?_
      refine lx_move rfl rfl rfl ?_
      refine lx_ext1 rfl rfl (fun w => add64 _ _ 0 (by decide) w) rfl rfl ?_
      refine lx_move rfl rfl rfl ?_
      refine lx_ext rfl rfl rfl rfl ?_
      refine lx_ext rfl rfl rfl rfl ?_
      refine lx_assign rfl rfl rfl ?_
      refine lx_assign rfl rfl rfl ?_
      refine lx_nil ?_
      refine xs_plain (E := EE []) ?_
      refine lx_move rfl rfl rfl ?_
      refine lx_move rfl rfl rfl ?_
      refine lx_bin rfl rfl (fun _ => rfl) (fun _ => bin_add_u64 _ _ _) rfl rfl ?_
      refine lx_assign rfl rfl rfl ?_
      refine lx_nil ?_
      refine xs_plain (E := EE []) ?_
      refine lx_move rfl rfl rfl ?_
      refine lx_move rfl rfl rfl ?_
      refine lx_ext1 rfl rfl (fun w => add64k _ _ 0 _ (by decide) (k1s (b.getD i 0) a (RT a b i) 3) w) rfl rfl ?_
      refine lx_move rfl rfl rfl ?_
      refine lx_ext rfl rfl rfl rfl ?_
      refine lx_ext rfl rfl rfl rfl ?_
      refine lx_assign rfl rfl rfl ?_
      refine lx_assign rfl rfl rfl ?_
      refine lx_nil ?_
      refine xs_plain (E := EE []) ?_
      refine lx_move rfl rfl rfl ?_
      refine lx_move rfl rfl rfl ?_
      refine lx_bin (v := U64 (KC (b.getD i 0) a (RT a b i) 4)) rfl rfl (fun _ => rfl) (fun w => (bin_add_u64 _ _ _).trans (congrArg (fun z => Result.ok (U64 z) w) (k2s (b.getD i 0) a (RT a b i) 3))) rfl rfl ?_
      refine lx_assign rfl rfl rfl ?_
      refine lx_nil ?_
      refine xs_plain (E := EE []) ?_
      refine lx_ia0 (4) rfl rfl Tryd.underlying43 Tryd.sizeOf41 (by omega) (by omega) rfl rfl ?_
      refine lx_loadm 2 U64 0 rfl rfl Tryd.isAgg41 (by rw [ha]; omega) rfl rfl ?_
      refine lx_move rfl rfl rfl ?_
      refine lx_call rfl rfl ent50 (mul64_pure _ _) rfl rfl ?_
      refine lx_move rfl rfl rfl ?_
      refine lx_ext rfl rfl rfl rfl ?_
      refine lx_ext rfl rfl rfl rfl ?_
      refine lx_assign rfl rfl rfl ?_
      refine lx_assign rfl rfl rfl ?_
      refine lx_nil ?_
      refine xs_plain (E := EE []) ?_
      refine lx_move rfl rfl rfl ?_
      refine lx_move rfl rfl rfl ?_
      refine lx_ext1 rfl rfl (fun w => add64 _ _ 0 (by decide) w) rfl rfl ?_
      refine lx_move rfl rfl rfl ?_
      refine lx_ext rfl rfl rfl rfl ?_
      refine lx_ext rfl rfl rfl rfl ?_
      refine lx_assign rfl rfl rfl ?_
      refine lx_assign rfl rfl rfl ?_
      refine lx_nil ?_
      refine xs_plain (E := EE []) ?_
      refine lx_move rfl rfl rfl ?_
      refine lx_move rfl rfl rfl ?_
      refine lx_bin rfl rfl (fun _ => rfl) (fun _ => bin_add_u64 _ _ _) rfl rfl ?_
      refine lx_assign rfl rfl rfl ?_
      refine lx_nil ?_
      refine xs_plain (E := EE []) ?_
      refine lx_move rfl rfl rfl ?_
      refine lx_move rfl rfl rfl ?_
      refine lx_ext1 rfl rfl (fun w => add64k _ _ 0 _ (by decide) (k1s (b.getD i 0) a (RT a b i) 4) w) rfl rfl ?_
      refine lx_move rfl rfl rfl ?_
      refine lx_ext rfl rfl rfl rfl ?_
      refine lx_ext rfl rfl rfl rfl ?_
      refine lx_assign rfl rfl rfl ?_
      refine lx_assign rfl rfl rfl ?_
      refine lx_nil ?_
      refine xs_plain (E := EE []) ?_
      refine lx_move rfl rfl rfl ?_
      refine lx_move rfl rfl rfl ?_
      refine lx_bin (v := U64 (KC (b.getD i 0) a (RT a b i) 5)) rfl rfl (fun _ => rfl) (fun w => (bin_add_u64 _ _ _).trans (congrArg (fun z => Result.ok (U64 z) w) (k2s (b.getD i 0) a (RT a b i) 4))) rfl rfl ?_
      refine lx_assign rfl rfl rfl ?_
      refine lx_nil ?_
      refine xs_plain (E := EE []) ?_
      refine lx_ia0 (5) rfl rfl Tryd.underlying43 Tryd.sizeOf41 (by omega) (by omega) rfl rfl ?_
      refine lx_loadm 2 U64 0 rfl rfl Tryd.isAgg41 (by rw [ha]; omega) rfl rfl ?_
      refine lx_move rfl rfl rfl ?_
      refine lx_call rfl rfl ent50 (mul64_pure _ _) rfl rfl ?_
      refine lx_move rfl rfl rfl ?_
      refine lx_ext rfl rfl rfl rfl ?_
      refine lx_ext rfl rfl rfl rfl ?_
      refine lx_assign rfl rfl rfl ?_
      refine lx_assign rfl rfl rfl ?_
      refine lx_nil ?_
      refine xs_plain (E := EE []) ?_
      refine lx_move rfl rfl rfl ?_
      refine lx_move rfl rfl rfl ?_
      refine lx_ext1 rfl rfl (fun w => add64 _ _ 0 (by decide) w) rfl rfl ?_
      refine lx_move rfl rfl rfl ?_
      refine lx_ext rfl rfl rfl rfl ?_
      refine lx_ext rfl rfl rfl rfl ?_
      refine lx_assign rfl rfl rfl ?_
      refine lx_assign rfl rfl rfl ?_
      refine lx_nil ?_
      refine xs_plain (E := EE []) ?_
      refine lx_move rfl rfl rfl ?_
      refine lx_move rfl rfl rfl ?_
      refine lx_bin rfl rfl (fun _ => rfl) (fun _ => bin_add_u64 _ _ _) rfl rfl ?_
      refine lx_assign rfl rfl rfl ?_
      refine lx_nil ?_
      refine xs_plain (E := EE []) ?_
      refine lx_move rfl rfl rfl ?_
      refine lx_move rfl rfl rfl ?_
      refine lx_ext1 rfl rfl (fun w => add64k _ _ 0 _ (by decide) (k1s (b.getD i 0) a (RT a b i) 5) w) rfl rfl ?_
      refine lx_move rfl rfl rfl ?_
      refine lx_ext rfl rfl rfl rfl ?_
      refine lx_ext rfl rfl rfl rfl ?_
      refine lx_assign rfl rfl rfl ?_
      refine lx_assign rfl rfl rfl ?_
      refine lx_nil ?_
      refine xs_plain (E := EE []) ?_
      refine lx_move rfl rfl rfl ?_
      refine lx_move rfl rfl rfl ?_
      refine lx_bin (v := U64 (KC (b.getD i 0) a (RT a b i) 6)) rfl rfl (fun _ => rfl) (fun w => (bin_add_u64 _ _ _).trans (congrArg (fun z => Result.ok (U64 z) w) (k2s (b.getD i 0) a (RT a b i) 5))) rfl rfl ?_
      refine lx_assign rfl rfl rfl ?_
      refine lx_nil ?_
      refine xs_plain (E := EE []) ?_
      refine lx_move rfl rfl rfl ?_
      refine lx_assign rfl rfl rfl ?_
      refine lx_nil ?_
      refine xs_plain (E := EE []) ?_
      refine lx_move rfl rfl rfl ?_
      refine lx_bin (v := U64 (KT (b.getD i 0) a (RT a b i) 0 * INV)) rfl rfl (fun _ => rfl) (fun w => bin_mul_u64 _ _ INV) rfl rfl ?_
      refine lx_assign rfl rfl rfl ?_
      refine lx_nil ?_
      refine xs_plain (E := EE []) ?_
      refine lx_move rfl rfl rfl ?_
      refine lx_call rfl rfl ent50 (mul64_pure _ (PL.getD 0 0)) rfl rfl ?_
      refine lx_move rfl rfl rfl ?_
      refine lx_ext rfl rfl rfl rfl ?_
      refine lx_ext rfl rfl rfl rfl ?_
      refine lx_assign rfl rfl rfl ?_
      refine lx_assign rfl rfl rfl ?_
      refine lx_nil ?_
      refine xs_plain (E := EE []) ?_
      refine lx_move rfl rfl rfl ?_
      refine lx_move rfl rfl rfl ?_
      refine lx_ext1 rfl rfl (fun w => add64 _ _ 0 (by decide) w) rfl rfl ?_
      refine lx_move rfl rfl rfl ?_
      refine lx_ext rfl rfl rfl rfl ?_
      refine lx_ext rfl rfl rfl rfl ?_
      refine lx_assign rfl rfl rfl ?_
      refine lx_nil ?_
      refine xs_plain (E := EE []) ?_
      refine lx_move rfl rfl rfl ?_
      refine lx_move rfl rfl rfl ?_
      refine lx_bin (v := U64 (KD (KT (b.getD i 0) a (RT a b i) 0 * INV) PL (T1 (b.getD i 0) a (RT a b i)) 0)) rfl rfl (fun _ => rfl) (fun w => (bin_add_u64 _ _ _).trans (congrArg (fun z => Result.ok (U64 z) w) (d2z (b.getD i 0) (KT (b.getD i 0) a (RT a b i) 0 * INV) a (RT a b i)))) rfl rfl ?_
      refine lx_assign rfl rfl rfl ?_
      refine lx_nil ?_
      refine xs_plain (E := EE []) ?_
      refine lx_move rfl rfl rfl ?_
      refine lx_call rfl rfl ent50 (mul64_pure _ (PL.getD 1 0)) rfl rfl ?_
      refine lx_move rfl rfl rfl ?_
      refine lx_ext rfl rfl rfl rfl ?_
      refine lx_ext rfl rfl rfl rfl ?_
      refine lx_assign rfl rfl rfl ?_
      refine lx_assign rfl rfl rfl ?_
      refine lx_nil ?_
      refine xs_plain (E := EE []) ?_
      refine lx_move rfl rfl rfl ?_
      refine lx_move rfl rfl rfl ?_
      refine lx_ext1 rfl rfl (fun w => add64 _ _ 0 (by decide) w) rfl rfl ?_
      refine lx_move rfl rfl rfl ?_
      refine lx_ext rfl rfl rfl rfl ?_
      refine lx_ext rfl rfl rfl rfl ?_
      refine lx_assign rfl rfl rfl ?_
      refine lx_assign rfl rfl rfl ?_
      refine lx_nil ?_
      refine xs_plain (E := EE []) ?_
      refine lx_move rfl rfl rfl ?_
      refine lx_move rfl rfl rfl ?_
      refine lx_bin rfl rfl (fun _ => rfl) (fun _ => bin_add_u64 _ _ _) rfl rfl ?_
      refine lx_assign rfl rfl rfl ?_
      refine lx_nil ?_
      refine xs_plain (E := EE []) ?_
      refine lx_move rfl rfl rfl ?_
      refine lx_move rfl rfl rfl ?_
      refine lx_ext1 rfl rfl (fun w => add64k _ _ 0 _ (by decide) (d1s (b.getD i 0) (KT (b.getD i 0) a (RT a b i) 0 * INV) a (RT a b i) 0 (by decide)) w) rfl rfl ?_
      refine lx_move rfl rfl rfl ?_
      refine lx_ext rfl rfl rfl rfl ?_
      refine lx_ext rfl rfl rfl rfl ?_
      refine lx_assign rfl rfl rfl ?_
      refine lx_assign rfl rfl rfl ?_
      refine lx_nil ?_
      refine xs_plain (E := EE []) ?_
      refine lx_move rfl rfl rfl ?_
      refine lx_move rfl rfl rfl ?_
      refine lx_bin (v := U64 (KD (KT (b.getD i 0) a (RT a b i) 0 * INV) PL (T1 (b.getD i 0) a (RT a b i)) 1)) rfl rfl (fun _ => rfl) (fun w => (bin_add_u64 _ _ _).trans (congrArg (fun z => Result.ok (U64 z) w) (d2s (b.getD i 0) (KT (b.getD i 0) a (RT a b i) 0 * INV) a (RT a b i) 0 (by decide)))) rfl rfl ?_
      refine lx_assign rfl rfl rfl ?_
      refine lx_nil ?_
      refine xs_plain (E := EE []) ?_
      refine lx_move rfl rfl rfl ?_
      refine lx_call rfl rfl ent50 (mul64_pure _ (PL.getD 2 0)) rfl rfl ?_
      refine lx_move rfl rfl rfl ?_
      refine lx_ext rfl rfl rfl rfl ?_
      refine lx_ext rfl rfl rfl rfl ?_
      refine lx_assign rfl rfl rfl ?_
      refine lx_assign rfl rfl rfl ?_
      refine lx_nil ?_
      refine xs_plain (E := EE []) ?_
      refine lx_move rfl rfl rfl ?_
      refine lx_move rfl rfl rfl ?_
      refine lx_ext1 rfl rfl (fun w => add64 _ _ 0 (by decide) w) rfl rfl ?_
      refine lx_move rfl rfl rfl ?_
      refine lx_ext rfl rfl rfl rfl ?_
      refine lx_ext rfl rfl rfl rfl ?_
      refine lx_assign rfl rfl rfl ?_
      refine lx_assign rfl rfl rfl ?_
      refine lx_nil ?_
      refine xs_plain (E := EE []) ?_
      refine lx_move rfl rfl rfl ?_
      refine lx_move rfl rfl rfl ?_
      refine lx_bin rfl rfl (fun _ => rfl) (fun _ => bin_add_u64 _ _ _) rfl rfl ?_
      refine lx_assign rfl rfl rfl ?_
      refine lx_nil ?_
      refine xs_plain (E := EE []) ?_
      refine lx_move rfl rfl rfl ?_
      refine lx_move rfl rfl rfl ?_
      refine lx_ext1 rfl rfl (fun w => add64k _ _ 0 _ (by decide) (d1s (b.getD i 0) (KT (b.getD i 0) a (RT a b i) 0 * INV) a (RT a b i) 1 (by decide)) w) rfl rfl ?_
      refine lx_move rfl rfl rfl ?_
      refine lx_ext rfl rfl rfl rfl ?_
      refine lx_ext rfl rfl rfl rfl ?_
      refine lx_assign rfl rfl rfl ?_
      refine lx_assign rfl rfl rfl ?_
      refine lx_nil ?_
      refine xs_plain (E := EE []) ?_
      refine lx_move rfl rfl rfl ?_
      refine lx_move rfl rfl rfl ?_
      refine lx_bin (v := U64 (KD (KT (b.getD i 0) a (RT a b i) 0 * INV) PL (T1 (b.getD i 0) a (RT a b i)) 2)) rfl rfl (fun _ => rfl) (fun w => (bin_add_u64 _ _ _).trans (congrArg (fun z => Result.ok (U64 z) w) (d2s (b.getD i 0) (KT (b.getD i 0) a (RT a b i) 0 * INV) a (RT a b i) 1 (by decide)))) rfl rfl ?_
      refine lx_assign rfl rfl rfl ?_
      refine lx_nil ?_
      refine xs_plain (E := EE []) ?_
      refine lx_move rfl rfl rfl ?_
      refine lx_call rfl rfl ent50 (mul64_pure _ (PL.getD 3 0)) rfl rfl ?_
      refine lx_move rfl rfl rfl ?_
      refine lx_ext rfl rfl rfl rfl ?_
      refine lx_ext rfl rfl rfl rfl ?_
      refine lx_assign rfl rfl rfl ?_
      refine lx_assign rfl rfl rfl ?_
      refine lx_nil ?_
      refine xs_plain (E := EE []) ?_
      refine lx_move rfl rfl rfl ?_
      refine lx_move rfl rfl rfl ?_
      refine lx_ext1 rfl rfl (fun w => add64 _ _ 0 (by decide) w) rfl rfl ?_
      refine lx_move rfl rfl rfl ?_
      refine lx_ext rfl rfl rfl rfl ?_
      refine lx_ext rfl rfl rfl rfl ?_
      refine lx_assign rfl rfl rfl ?_
      refine lx_assign rfl rfl rfl ?_
      refine lx_nil ?_
      refine xs_plain (E := EE []) ?_
      refine lx_move rfl rfl rfl ?_
      refine lx_move rfl rfl rfl ?_
      refine lx_bin rfl rfl (fun _ => rfl) (fun _ => bin_add_u64 _ _ _) rfl rfl ?_
      refine lx_assign rfl rfl rfl ?_
      refine lx_nil ?_
      refine xs_plain (E := EE []) ?_
      refine lx_move rfl rfl rfl ?_
      refine lx_move rfl rfl rfl ?_
      refine lx_ext1 rfl rfl (fun w => add64k _ _ 0 _ (by decide) (d1s (b.getD i 0) (KT (b.getD i 0) a (RT a b i) 0 * INV) a (RT a b i) 2 (by decide)) w) rfl rfl ?_
      refine lx_move rfl rfl rfl ?_
      refine lx_ext rfl rfl rfl rfl ?_
      refine lx_ext rfl rfl rfl rfl ?_
      refine lx_assign rfl rfl rfl ?_
      refine lx_assign rfl rfl rfl ?_
      refine lx_nil ?_
      refine xs_plain (E := EE []) ?_
      refine lx_move rfl rfl rfl ?_
      refine lx_move rfl rfl rfl ?_
      refine lx_bin (v := U64 (KD (KT (b.getD i 0) a (RT a b i) 0 * INV) PL (T1 (b.getD i 0) a (RT a b i)) 3)) rfl rfl (fun _ => rfl) (fun w => (bin_add_u64 _ _ _).trans (congrArg (fun z => Result.ok (U64 z) w) (d2s (b.getD i 0) (KT (b.getD i 0) a (RT a b i) 0 * INV) a (RT a b i) 2 (by decide)))) rfl rfl ?_
      refine lx_assign rfl rfl rfl ?_
      refine lx_nil ?_
      refine xs_plain (E := EE []) ?_
      refine lx_move rfl rfl rfl ?_
      refine lx_call rfl rfl ent50 (mul64_pure _ (PL.getD 4 0)) rfl rfl ?_
      refine lx_move rfl rfl rfl ?_
      refine lx_ext rfl rfl rfl rfl ?_
      refine lx_ext rfl rfl rfl rfl ?_
      refine lx_assign rfl rfl rfl ?_
      refine lx_assign rfl rfl rfl ?_
      refine lx_nil ?_
      refine xs_plain (E := EE []) ?_
      refine lx_move rfl rfl rfl ?_
      refine lx_move rfl rfl rfl ?_
      refine lx_ext1 rfl rfl (fun w => add64 _ _ 0 (by decide) w) rfl rfl ?_
      refine lx_move rfl rfl rfl ?_
      refine lx_ext rfl rfl rfl rfl ?_
      refine lx_ext rfl rfl rfl rfl ?_
      refine lx_assign rfl rfl rfl ?_
      refine lx_assign rfl rfl rfl ?_
      refine lx_nil ?_
      refine xs_plain (E := EE []) ?_
      refine lx_move rfl rfl rfl ?_
      refine lx_move rfl rfl rfl ?_
      refine lx_bin rfl rfl (fun _ => rfl) (fun _ => bin_add_u64 _ _ _) rfl rfl ?_
      refine lx_assign rfl rfl rfl ?_
      refine lx_nil ?_
      refine xs_plain (E := EE []) ?_
      refine lx_move rfl rfl rfl ?_
      refine lx_move rfl rfl rfl ?_
      refine lx_ext1 rfl rfl (fun w => add64k _ _ 0 _ (by decide) (d1s (b.getD i 0) (KT (b.getD i 0) a (RT a b i) 0 * INV) a (RT a b i) 3 (by decide)) w) rfl rfl ?_
      refine lx_move rfl rfl rfl ?_
      refine lx_ext rfl rfl rfl rfl ?_
      refine lx_ext rfl rfl rfl rfl ?_
      refine lx_assign rfl rfl rfl ?_
      refine lx_assign rfl rfl rfl ?_
      refine lx_nil ?_
      refine xs_plain (E := EE []) ?_
      refine lx_move rfl rfl rfl ?_
      refine lx_move rfl rfl rfl ?_
      refine lx_bin (v := U64 (KD (KT (b.getD i 0) a (RT a b i) 0 * INV) PL (T1 (b.getD i 0) a (RT a b i)) 4)) rfl rfl (fun _ => rfl) (fun w => (bin_add_u64 _ _ _).trans (congrArg (fun z => Result.ok (U64 z) w) (d2s (b.getD i 0) (KT (b.getD i 0) a (RT a b i) 0 * INV) a (RT a b i) 3 (by decide)))) rfl rfl ?_
      refine lx_assign rfl rfl rfl ?_
      refine lx_nil ?_
      refine xs_plain (E := EE []) ?_
      refine lx_move rfl rfl rfl ?_
      refine lx_call rfl rfl ent50 (mul64_pure _ (PL.getD 5 0)) rfl rfl ?_
      refine lx_move rfl rfl rfl ?_
      refine lx_ext rfl rfl rfl rfl ?_
      refine lx_ext rfl rfl rfl rfl ?_
      refine lx_assign rfl rfl rfl ?_
      refine lx_assign rfl rfl rfl ?_
      refine lx_nil ?_
      refine xs_plain (E := EE []) ?_
      refine lx_move rfl rfl rfl ?_
      refine lx_move rfl rfl rfl ?_
      refine lx_ext1 rfl rfl (fun w => add64 _ _ 0 (by decide) w) rfl rfl ?_
      refine lx_move rfl rfl rfl ?_
      refine lx_ext rfl rfl rfl rfl ?_
      refine lx_ext rfl rfl rfl rfl ?_
      refine lx_assign rfl rfl rfl ?_
      refine lx_assign rfl rfl rfl ?_
      refine lx_nil ?_
      refine xs_plain (E := EE []) ?_
      refine lx_move rfl rfl rfl ?_
      refine lx_move rfl rfl rfl ?_
      refine lx_bin rfl rfl (fun _ => rfl) (fun _ => bin_add_u64 _ _ _) rfl rfl ?_
      refine lx_assign rfl rfl rfl ?_
      refine lx_nil ?_
      refine xs_plain (E := EE []) ?_
      refine lx_move rfl rfl rfl ?_
      refine lx_move rfl rfl rfl ?_
      refine lx_ext1 rfl rfl (fun w => add64k _ _ 0 _ (by decide) (d1s (b.getD i 0) (KT (b.getD i 0) a (RT a b i) 0 * INV) a (RT a b i) 4 (by decide)) w) rfl rfl ?_
      refine lx_move rfl rfl rfl ?_
      refine lx_ext rfl rfl rfl rfl ?_
      refine lx_ext rfl rfl rfl rfl ?_
      refine lx_assign rfl rfl rfl ?_
      refine lx_assign rfl rfl rfl ?_
      refine lx_nil ?_
      refine xs_plain (E := EE []) ?_
      refine lx_move rfl rfl rfl ?_
      refine lx_move rfl rfl rfl ?_
      refine lx_bin (v := U64 (KD (KT (b.getD i 0) a (RT a b i) 0 * INV) PL (T1 (b.getD i 0) a (RT a b i)) 5)) rfl rfl (fun _ => rfl) (fun w => (bin_add_u64 _ _ _).trans (congrArg (fun z => Result.ok (U64 z) w) (d2s (b.getD i 0) (KT (b.getD i 0) a (RT a b i) 0 * INV) a (RT a b i) 4 (by decide)))) rfl rfl ?_
      refine lx_assign rfl rfl rfl ?_
      refine lx_nil ?_
      refine x_plain (E := EE []) ?_
      refine lx_move rfl rfl rfl ?_
      refine lx_move rfl rfl rfl ?_
      refine lx_bin rfl rfl (fun _ => rfl) (fun _ => bin_add_u64 _ _ _) rfl rfl ?_
      refine lx_assign rfl rfl rfl ?_
      refine lx_nil ?_
      refine x_plain (E := EE []) ?_
      refine lx_move rfl rfl rfl ?_
      refine lx_bin rfl rfl (fun _ => rfl) (fun _ => bin_add_i _ _ _ (by unfold inI; omega)) rfl rfl ?_
      refine lx_assign rfl rfl rfl ?_
      refine lx_nil ?_
      repeat (refine kblk_n ?_)
      refine kseq_n ?_
      exact ⟨rfl, ⟨i + 1, by omega⟩, _, by show 6 - (i + 1) < 6 - i; omega, rfl, ⟨rfl, rfl, rfl, congrArg (fun z => some (U64 z)) (RT_n a b i 0 (by decide)).symm, congrArg (fun z => some (U64 z)) (RT_n a b i 1 (by decide)).symm, congrArg (fun z => some (U64 z)) (RT_n a b i 2 (by decide)).symm, congrArg (fun z => some (U64 z)) (RT_n a b i 3 (by decide)).symm, congrArg (fun z => some (U64 z)) (RT_n a b i 4 (by decide)).symm, congrArg (fun z => some (U64 z)) (RT_top a b i).symm, rfl, trivial⟩, ⟨rfl, rfl, rfl, trivial⟩⟩
    · obtain rfl : i = 6 := by simp at hc; omega
      refine x_exit ?_
      refine xs_plain (E := EE []) ?_
      refine lx_move rfl rfl rfl ?_
      refine lx_move rfl rfl rfl ?_
      refine lx_move rfl rfl rfl ?_
      refine lx_move rfl rfl rfl ?_
      refine lx_move rfl rfl rfl ?_
      refine lx_move rfl rfl rfl ?_
      refine lx_buildr (n := 6) (vs := (RT a b 6).map U64) (congrArg some (six_map (RT a b 6) (RT_len _ _ _))) rfl Tryd.underlying43 Tryd.sizeOf41 Tryd.zeroValue43 (by rw [List.length_map, RT_len]; rfl) (one_u64 _) rfl rfl ?_
      refine lx_allocr 19 hGF zv43 rfl rfl ?_
      intro b19
      refine lx_storea 19 hGF rfl rfl rfl Tryd.sizeOf43 (by rw [List.length_map, RT_len _ _ _]) (by rw [List.length_map, List.length_replicate]) (one_u64 _) rfl ?_
      refine lx_nil ?_
      refine x_seq ?_
      refine xs_drawA (E := EE [2999999]) [0, 1, 2, 3, 4, 5] [⟨6, 20, 43, (List.replicate 6 0#64).map U64⟩] [7, 8] mixed rfl (by kernel_rfl) (by kernel_rfl) (by kernel_rfl) (by kernel_rfl) (by kernel_rfl) (by kernel_rfl) (by decide) (by intro x hx; simp only [List.mem_cons, List.not_mem_nil, or_false] at hx; subst hx; exact isAlloc_mk rfl zv43 rfl) ?_
      refine lx_loada 19 rfl rfl Tryd.isAgg43 Tryd.sizeOf43 (by rw [List.length_map, RT_len _ _ _]) rfl rfl ?_
      refine lx_call rfl rfl ent24 (rp_pure) rfl rfl ?_
      refine lx_call rfl rfl ent51 (rsub_pure _ _ (RT_len _ _ _) rfl) rfl rfl ?_
      refine lx_move rfl rfl rfl ?_
      refine lx_ext rfl rfl rfl rfl ?_
      refine lx_ext rfl rfl rfl rfl ?_
      refine lx_nil ?_
      refine ⟨_, _, rfl, hGF, by intro x hx; simp only [List.mem_cons, List.not_mem_nil, or_false] at hx; subst hx; rfl, by intro x hx; simp only [List.mem_cons, List.not_mem_nil, or_false] at hx; subst hx; rfl, fun adr => ?_⟩
      refine lx_storea 20 hGF rfl rfl rfl Tryd.sizeOf43 (by rw [List.length_map, SS_len _ _ _]) (by rw [List.length_map, List.length_replicate]) (one_u64 _) rfl ?_
      refine lx_assign rfl rfl rfl ?_
      refine lx_nil ?_
      refine xs_plain (E := EE []) ?_
      refine lx_move rfl rfl rfl ?_
      refine lx_bin (v := .bool true) rfl rfl (fun _ => rfl) (fun w => (bin_eql_u64 _ _ _).trans (congrArg (fun b => Result.ok (Value.bool b) w) (beq_iff_eq.2 h0))) rfl rfl ?_
      refine lx_nil ?_
      refine x_true rfl ?_
      refine x_plain (E := EE []) ?_
      refine lx_loada 20 rfl rfl Tryd.isAgg43 Tryd.sizeOf43 (by rw [List.length_map, SS_len _ _ _]) rfl rfl ?_
      refine lx_storea 19 hGF rfl rfl rfl Tryd.sizeOf43 (by rw [List.length_map, SS_len _ _ _]) (by rw [List.length_map, RT_len _ _ _]) (one_u64 _) rfl ?_
      refine lx_nil ?_
      refine xs_plain (E := EE []) ?_
      refine lx_loada 19 rfl rfl Tryd.isAgg43 Tryd.sizeOf43 (by rw [List.length_map, SS_len _ _ _]) rfl rfl ?_
      refine lx_storea 4 hGF rfl rfl rfl Tryd.sizeOf43 (by rw [List.length_map, SS_len _ _ _]) (by rw [List.length_map, List.length_replicate]) (one_u64 _) rfl ?_
      refine lx_nil ?_
      refine x_ret ?_
      repeat (first | refine kseq_ret ?_ | refine kblk_ret ?_)
      exact kret_own 4 rfl rfl rfl Tryd.isAgg43 Tryd.sizeOf43 (by rw [List.length_map, SS_len]) (fun w hw => ⟨by rw [RM, if_pos h0], hp_below hw⟩)
  · skip
    refine xs_plain (E := EE []) ?_
    refine lx_boxr 2 hGF rfl rfl rfl ?_
    intro b2
    refine lx_boxr 3 hGF rfl rfl rfl ?_
    intro b3
    refine lx_allocr 4 hGF zv43 rfl rfl ?_
    intro b4
    refine lx_nil ?_
    refine xs_plain (E := EE []) ?_
    refine lx_assign rfl rfl rfl ?_
    refine lx_assign rfl rfl rfl ?_
    refine lx_assign rfl rfl rfl ?_
    refine lx_assign rfl rfl rfl ?_
    refine lx_assign rfl rfl rfl ?_
    refine lx_assign rfl rfl rfl ?_
    refine lx_nil ?_
    refine x_seq ?_
    refine xs_plain (E := EE []) ?_
    refine lx_assign rfl rfl rfl ?_
    refine lx_nil ?_
    refine x_block ?_
    refine x_for (ι := { i : Nat // i ≤ 6 }) (fun x => [(2, .pointer (some ⟨b2, 0, none⟩)), (3, .pointer (some ⟨b3, 0, none⟩)), (4, .pointer (some ⟨b4, 0, none⟩)), (5, U64 ((RT a b x.1).getD 0 0)), (6, U64 ((RT a b x.1).getD 1 0)), (7, U64 ((RT a b x.1).getD 2 0)), (8, U64 ((RT a b x.1).getD 3 0)), (9, U64 ((RT a b x.1).getD 4 0)), (10, U64 ((RT a b x.1).getD 5 0)), (11, I (x.1 : Int))]) (fun x => [(2, b2, a.map U64, 43), (3, b3, b.map U64, 43), (4, b4, (List.replicate 6 0#64).map U64, 43)]) (fun x => 6 - x.1) ⟨0, by omega⟩ hGF ⟨rfl, rfl, rfl, rfl, rfl, rfl, rfl, rfl, rfl, rfl, trivial⟩ ⟨rfl, rfl, rfl, trivial⟩ ?_
    rintro ⟨i, hi⟩
    dsimp only
    refine x_seq ?_
    refine xs_plain (E := EE []) ?_
    refine lx_move rfl rfl rfl ?_
    refine lx_bin rfl rfl (fun _ => rfl) (fun _ => bin_lss_i _ _ _) rfl rfl ?_
    refine lx_nil ?_
    refine x_if rfl (fun hc => ?_) (fun hc => ?_)
    · simp only [decide_eq_true_eq] at hc
      refine x_skip ?_
      refine x_seq ?_
      refine x_block ?_
      refine xs_plain (E := EE []) ?_
      refine lx_assign rfl rfl rfl ?_
      refine lx_assign rfl rfl rfl ?_
      refine lx_assign rfl rfl rfl ?_
      refine lx_assign rfl rfl rfl ?_
      refine lx_nil ?_
      refine xs_plain (E := EE []) ?_
      refine lx_move rfl rfl rfl ?_
      refine lx_ia0 (i) rfl rfl Tryd.underlying43 Tryd.sizeOf41 (by omega) (by omega) rfl rfl ?_
      refine lx_loadm 3 U64 0 rfl rfl Tryd.isAgg41 (by rw [hb]; omega) rfl rfl ?_
      refine lx_assign rfl rfl rfl ?_
      refine lx_nil ?_
      refine xs_plain (E := EE []) ?_
      refine lx_ia0 (0) rfl rfl Tryd.underlying43 Tryd.sizeOf41 (by omega) (by omega) rfl rfl ?_
      refine lx_loadm 2 U64 0 rfl rfl Tryd.isAgg41 (by rw [ha]; omega) rfl rfl ?_
      refine lx_move rfl rfl rfl ?_
      refine lx_call rfl rfl ent50 (mul64_pure _ _) rfl rfl ?_
      refine lx_move rfl rfl rfl ?_
      refine lx_ext rfl rfl rfl rfl ?_
      refine lx_ext rfl rfl rfl rfl ?_
      refine lx_assign rfl rfl rfl ?_
      refine lx_assign rfl rfl rfl ?_
      refine lx_nil ?_
      refine xs_plain (E := EE []) ?_
      refine lx_move rfl rfl rfl ?_
      refine lx_move rfl rfl rfl ?_
      refine lx_ext1 rfl rfl (fun w => add64k _ _ 0 _ (by decide) (k1z (b.getD i 0) a (RT a b i)) w) rfl rfl ?_
      refine lx_move rfl rfl rfl ?_
      refine lx_ext rfl rfl rfl rfl ?_
      refine lx_ext rfl rfl rfl rfl ?_
      refine lx_assign rfl rfl rfl ?_
      refine lx_assign rfl rfl rfl ?_
      refine lx_nil ?_
      refine xs_plain (E := EE []) ?_
      refine lx_move rfl rfl rfl ?_
      refine lx_move rfl rfl rfl ?_
      refine lx_bin (v := U64 (KC (b.getD i 0) a (RT a b i) 1)) rfl rfl (fun _ => rfl) (fun w => (bin_add_u64 _ _ _).trans (congrArg (fun z => Result.ok (U64 z) w) (k2z (b.getD i 0) a (RT a b i)))) rfl rfl ?_
      refine lx_assign rfl rfl rfl ?_
      refine lx_nil ?_
      refine xs_plain (E := EE []) ?_
      refine lx_ia0 (1) rfl rfl Tryd.underlying43 Tryd.sizeOf41 (by omega) (by omega) rfl rfl ?_
      refine lx_loadm 2 U64 0 rfl rfl Tryd.isAgg41 (by rw [ha]; omega) rfl rfl ?_
      refine lx_move rfl rfl rfl ?_
      refine lx_call rfl rfl ent50 (mul64_pure _ _) rfl rfl ?_
      refine lx_move rfl rfl rfl ?_
      refine lx_ext rfl rfl rfl rfl ?_
      refine lx_ext rfl rfl rfl rfl ?_
      refine lx_assign rfl rfl rfl ?_
      refine lx_assign rfl rfl rfl ?_
      refine lx_nil ?_
      refine xs_plain (E := EE []) ?_
      refine lx_move rfl rfl rfl ?_
      refine lx_move rfl rfl rfl ?_
      refine lx_ext1 rfl rfl (fun w => add64 _ _ 0 (by decide) w) rfl rfl ?_
      refine lx_move rfl rfl rfl ?_
      refine lx_ext rfl rfl rfl rfl ?_
      refine lx_ext rfl rfl rfl rfl ?_
      refine lx_assign rfl rfl rfl ?_
      refine lx_assign rfl rfl rfl ?_
      refine lx_nil ?_
      refine xs_plain (E := EE []) ?_
      refine lx_move rfl rfl rfl ?_
      refine lx_move rfl rfl rfl ?_
      refine lx_bin rfl rfl (fun _ => rfl) (fun _ => bin_add_u64 _ _ _) rfl rfl ?_
      refine lx_assign rfl rfl rfl ?_
      refine lx_nil ?_
      refine xs_plain (E := EE []) ?_
      refine lx_move rfl rfl rfl ?_
      refine lx_move rfl rfl rfl ?_
      refine lx_ext1 rfl rfl (fun w => add64k _ _ 0 _ (by decide) (k1s (b.getD i 0) a (RT a b i) 1) w) rfl rfl ?_
      refine lx_move rfl rfl rfl ?_
      refine lx_ext rfl rfl rfl rfl ?_
      refine lx_ext rfl rfl rfl rfl ?_
      refine lx_assign rfl rfl rfl ?_
      refine lx_assign rfl rfl rfl ?_
      refine lx_nil ?_
      refine xs_plain (E := EE []) ?_
      refine lx_move rfl rfl rfl ?_
      refine lx_move rfl rfl rfl ?_
      refine lx_bin (v := U64 (KC (b.getD i 0) a (RT a b i) 2)) rfl rfl (fun _ => rfl) (fun w => (bin_add_u64 _ _ _).trans (congrArg (fun z => Result.ok (U64 z) w) (k2s (b.getD i 0) a (RT a b i) 1))) rfl rfl ?_
      refine lx_assign rfl rfl rfl ?_
      refine lx_nil ?_
      refine xs_plain (E := EE []) ?_
      refine lx_ia0 (2) rfl rfl Tryd.underlying43 Tryd.sizeOf41 (by omega) (by omega) rfl rfl ?_
      refine lx_loadm 2 U64 0 rfl rfl Tryd.isAgg41 (by rw [ha]; omega) rfl rfl ?_
      refine lx_move rfl rfl rfl ?_
      refine lx_call rfl rfl ent50 (mul64_pure _ _) rfl rfl ?_
      refine lx_move rfl rfl rfl ?_
      refine lx_ext rfl rfl rfl rfl ?_
      refine lx_ext rfl rfl rfl rfl ?_
      refine lx_assign rfl rfl rfl ?_
      refine lx_assign rfl rfl rfl ?_
      refine lx_nil ?_
      refine xs_plain (E := EE []) ?_
      refine lx_move rfl rfl rfl ?_
      refine lx_move rfl rfl rfl ?_
      refine lx_ext1 rfl rfl (fun w => add64 _ _ 0 (by decide) w) rfl rfl ?_
      refine lx_move rfl rfl rfl ?_
      refine lx_ext rfl rfl rfl rfl ?_
      refine lx_ext rfl rfl rfl rfl ?_
      refine lx_assign rfl rfl rfl ?_
      refine lx_assign rfl rfl rfl ?_
      refine lx_nil ?_
      refine xs_plain (E := EE []) ?_
      refine lx_move rfl rfl rfl ?_
      refine lx_move rfl rfl rfl ?_
      refine lx_bin rfl rfl (fun _ => rfl) (fun _ => bin_add_u64 _ _ _) rfl rfl ?_
      refine lx_assign rfl rfl rfl ?_
      refine lx_nil ?_
      refine xs_plain (E := EE []) ?_
      refine lx_move rfl rfl rfl ?_
      refine lx_move rfl rfl rfl ?_
      refine lx_ext1 rfl rfl (fun w => add64k _ _ 0 _ (by decide) (k1s (b.getD i 0) a (RT a b i) 2) w) rfl rfl ?_
      refine lx_move rfl rfl rfl ?_
      refine lx_ext rfl rfl rfl rfl ?_
      refine lx_ext rfl rfl rfl rfl ?_
      refine lx_assign rfl rfl rfl ?_
      refine lx_assign rfl rfl rfl ?_
      refine lx_nil ?_
      refine xs_plain (E := EE []) ?_
      refine lx_move rfl rfl rfl ?_
      refine lx_move rfl rfl rfl ?_
      refine lx_bin (v := U64 (KC (b.getD i 0) a (RT a b i) 3)) rfl rfl (fun _ => rfl) (fun w => (bin_add_u64 _ _ _).trans (congrArg (fun z => Result.ok (U64 z) w) (k2s (b.getD i 0) a (RT a b i) 2))) rfl rfl ?_
      refine lx_assign rfl rfl rfl ?_
      refine lx_nil ?_
      refine xs_plain (E := EE []) ?_
      refine lx_ia0 (3) rfl rfl Tryd.underlying43 Tryd.sizeOf41 (by omega) (by omega) rfl rfl ?_
      refine lx_loadm 2 U64 0 rfl rfl Tryd.isAgg41 (by rw [ha]; omega) rfl rfl ?_
      refine lx_move rfl rfl rfl ?_
      refine lx_call rfl rfl ent50 (mul64_pure _ _) rfl rfl ?_
      refine lx_move rfl rfl rfl ?_
      refine lx_ext rfl rfl rfl rfl ?_
      refine lx_ext rfl rfl rfl rfl ?_
      refine lx_assign rfl rfl rfl ?_
      refine lx_assign rfl rfl rfl ?_
      refine lx_nil ?_
      refine xs_plain (E := EE []) ?_
      refine lx_move rfl rfl rfl ?_
      refine lx_move rfl rfl rfl ?_
      refine lx_ext1 rfl rfl (fun w => add64 _ _ 0 (by decide) w) rfl rfl ?_
      refine lx_move rfl rfl rfl ?_
      refine lx_ext rfl rfl rfl rfl ?_
      refine lx_ext rfl rfl rfl rfl ?_
      refine lx_assign rfl rfl rfl ?_
      refine lx_assign rfl rfl rfl ?_
      refine lx_nil ?_
      refine xs_plain (E := EE []) ?_
      refine lx_move rfl rfl rfl ?_
      refine lx_move rfl rfl rfl ?_
      refine lx_bin rfl rfl (fun _ => rfl) (fun _ => bin_add_u64 _ _ _) rfl rfl ?_
      refine lx_assign rfl rfl rfl ?_
      refine lx_nil ?_
      refine xs_plain (E := EE []) ?_
      refine lx_move rfl rfl rfl ?_
      refine lx_move rfl rfl rfl ?_
      refine lx_ext1 rfl rfl (fun w => add64k _ _ 0 _ (by decide) (k1s (b.getD i 0) a (RT a b i) 3) w) rfl rfl ?_
      refine lx_move rfl rfl rfl ?_
      refine lx_ext rfl rfl rfl rfl ?_
      refine lx_ext rfl rfl rfl rfl ?_
      refine lx_assign rfl rfl rfl ?_
      refine lx_assign rfl rfl rfl ?_
      refine lx_nil ?_
      refine xs_plain (E := EE []) ?_
      refine lx_move rfl rfl rfl ?_
      refine lx_move rfl rfl rfl ?_
      refine lx_bin (v := U64 (KC (b.getD i 0) a (RT a b i) 4)) rfl rfl (fun _ => rfl) (fun w => (bin_add_u64 _ _ _).trans (congrArg (fun z => Result.ok (U64 z) w) (k2s (b.getD i 0) a (RT a b i) 3))) rfl rfl ?_
      refine lx_assign rfl rfl rfl ?_
      refine lx_nil ?_
      refine xs_plain (E := EE []) ?_
      refine lx_ia0 (4) rfl rfl Tryd.underlying43 Tryd.sizeOf41 (by omega) (by omega) rfl rfl ?_
      refine lx_loadm 2 U64 0 rfl rfl Tryd.isAgg41 (by rw [ha]; omega) rfl rfl ?_
      refine lx_move rfl rfl rfl ?_
      refine lx_call rfl rfl ent50 (mul64_pure _ _) rfl rfl ?_
      refine lx_move rfl rfl rfl ?_
      refine lx_ext rfl rfl rfl rfl ?_
      refine lx_ext rfl rfl rfl rfl ?_
      refine lx_assign rfl rfl rfl ?_
      refine lx_assign rfl rfl rfl ?_
      refine lx_nil ?_
      refine xs_plain (E := EE []) ?_
      refine lx_move rfl rfl rfl ?_
      refine lx_move rfl rfl rfl ?_
      refine lx_ext1 rfl rfl (fun w => add64 _ _ 0 (by decide) w) rfl rfl ?_
      refine lx_move rfl rfl rfl ?_
      refine lx_ext rfl rfl rfl rfl ?_
      refine lx_ext rfl rfl rfl rfl ?_
      refine lx_assign rfl rfl rfl ?_
      refine lx_assign rfl rfl rfl ?_
      refine lx_nil ?_
      refine xs_plain (E := EE []) ?_
      refine lx_move rfl rfl rfl ?_
      refine lx_move rfl rfl rfl ?_
      refine lx_bin rfl rfl (fun _ => rfl) (fun _ => bin_add_u64 _ _ _) rfl rfl ?_
      refine lx_assign rfl rfl rfl ?_
      refine lx_nil ?_
      refine xs_plain (E := EE []) ?_
      refine lx_move rfl rfl rfl ?_
      refine lx_move rfl rfl rfl ?_
      refine lx_ext1 rfl rfl (fun w => add64k _ _ 0 _ (by decide) (k1s (b.getD i 0) a (RT a b i) 4) w) rfl rfl ?_
      refine lx_move rfl rfl rfl ?_
      refine lx_ext rfl rfl rfl rfl ?_
      refine lx_ext rfl rfl rfl rfl ?_
      refine lx_assign rfl rfl rfl ?_
      refine lx_assign rfl rfl rfl ?_
      refine lx_nil ?_
      refine xs_plain (E := EE []) ?_
      refine lx_move rfl rfl rfl ?_
      refine lx_move rfl rfl rfl ?_
      refine lx_bin (v := U64 (KC (b.getD i 0) a (RT a b i) 5)) rfl rfl (fun _ => rfl) (fun w => (bin_add_u64 _ _ _).trans (congrArg (fun z => Result.ok (U64 z) w) (k2s (b.getD i 0) a (RT a b i) 4))) rfl rfl ?_
      refine lx_assign rfl rfl rfl ?_
      refine lx_nil ?_
      refine xs_plain (E := EE []) ?_
      refine lx_ia0 (5) rfl rfl Tryd.underlying43 Tryd.sizeOf41 (by omega) (by omega) rfl rfl ?_
      refine lx_loadm 2 U64 0 rfl rfl Tryd.isAgg41 (by rw [ha]; omega) rfl rfl ?_
      refine lx_move rfl rfl rfl ?_
      refine lx_call rfl rfl ent50 (mul64_pure _ _) rfl rfl ?_
      refine lx_move rfl rfl rfl ?_
      refine lx_ext rfl rfl rfl rfl ?_
      refine lx_ext rfl rfl rfl rfl ?_
      refine lx_assign rfl rfl rfl ?_
      refine lx_assign rfl rfl rfl ?_
      refine lx_nil ?_
      refine xs_plain (E := EE []) ?_
      refine lx_move rfl rfl rfl ?_
      refine lx_move rfl rfl rfl ?_
      refine lx_ext1 rfl rfl (fun w => add64 _ _ 0 (by decide) w) rfl rfl ?_
      refine lx_move rfl rfl rfl ?_
      refine lx_ext rfl rfl rfl rfl ?_
      refine lx_ext rfl rfl rfl rfl ?_
      refine lx_assign rfl rfl rfl ?_
      refine lx_assign rfl rfl rfl ?_
      refine lx_nil ?_
      refine xs_plain (E := EE []) ?_
      refine lx_move rfl rfl rfl ?_
      refine lx_move rfl rfl rfl ?_
      refine lx_bin rfl rfl (fun _ => rfl) (fun _ => bin_add_u64 _ _ _) rfl rfl ?_
      refine lx_assign rfl rfl rfl ?_
      refine lx_nil ?_
      refine xs_plain (E := EE []) ?_
      refine lx_move rfl rfl rfl ?_
      refine lx_move rfl rfl rfl ?_
      refine lx_ext1 rfl rfl (fun w => add64k _ _ 0 _ (by decide) (k1s (b.getD i 0) a (RT a b i) 5) w) rfl rfl ?_
      refine lx_move rfl rfl rfl ?_
      refine lx_ext rfl rfl rfl rfl ?_
      refine lx_ext rfl rfl rfl rfl ?_
      refine lx_assign rfl rfl rfl ?_
      refine lx_assign rfl rfl rfl ?_
      refine lx_nil ?_
      refine xs_plain (E := EE []) ?_
      refine lx_move rfl rfl rfl ?_
      refine lx_move rfl rfl rfl ?_
      refine lx_bin (v := U64 (KC (b.getD i 0) a (RT a b i) 6)) rfl rfl (fun _ => rfl) (fun w => (bin_add_u64 _ _ _).trans (congrArg (fun z => Result.ok (U64 z) w) (k2s (b.getD i 0) a (RT a b i) 5))) rfl rfl ?_
      refine lx_assign rfl rfl rfl ?_
      refine lx_nil ?_
      refine xs_plain (E := EE []) ?_
      refine lx_move rfl rfl rfl ?_
      refine lx_assign rfl rfl rfl ?_
      refine lx_nil ?_
      refine xs_plain (E := EE []) ?_
      refine lx_move rfl rfl rfl ?_
      refine lx_bin (v := U64 (KT (b.getD i 0) a (RT a b i) 0 * INV)) rfl rfl (fun _ => rfl) (fun w => bin_mul_u64 _ _ INV) rfl rfl ?_
      refine lx_assign rfl rfl rfl ?_
      refine lx_nil ?_
      refine xs_plain (E := EE []) ?_
      refine lx_move rfl rfl rfl ?_
      refine lx_call rfl rfl ent50 (mul64_pure _ (PL.getD 0 0)) rfl rfl ?_
      refine lx_move rfl rfl rfl ?_
      refine lx_ext rfl rfl rfl rfl ?_
      refine lx_ext rfl rfl rfl rfl ?_
      refine lx_assign rfl rfl rfl ?_
      refine lx_assign rfl rfl rfl ?_
      refine lx_nil ?_
      refine xs_plain (E := EE []) ?_
      refine lx_move rfl rfl rfl ?_
      refine lx_move rfl rfl rfl ?_
      refine lx_ext1 rfl rfl (fun w => add64 _ _ 0 (by decide) w) rfl rfl ?_
      refine lx_move rfl rfl rfl ?_
      refine lx_ext rfl rfl rfl rfl ?_
      refine lx_ext rfl rfl rfl rfl ?_
      refine lx_assign rfl rfl rfl ?_
      refine lx_nil ?_
      refine xs_plain (E := EE []) ?_
      refine lx_move rfl rfl rfl ?_
      refine lx_move rfl rfl rfl ?_
      refine lx_bin (v := U64 (KD (KT (b.getD i 0) a (RT a b i) 0 * INV) PL (T1 (b.getD i 0) a (RT a b i)) 0)) rfl rfl (fun _ => rfl) (fun w => (bin_add_u64 _ _ _).trans (congrArg (fun z => Result.ok (U64 z) w) (d2z (b.getD i 0) (KT (b.getD i 0) a (RT a b i) 0 * INV) a (RT a b i)))) rfl rfl ?_
      refine lx_assign rfl rfl rfl ?_
      refine lx_nil ?_
      refine xs_plain (E := EE []) ?_
      refine lx_move rfl rfl rfl ?_
      refine lx_call rfl rfl ent50 (mul64_pure _ (PL.getD 1 0)) rfl rfl ?_
      refine lx_move rfl rfl rfl ?_
      refine lx_ext rfl rfl rfl rfl ?_
      refine lx_ext rfl rfl rfl rfl ?_
      refine lx_assign rfl rfl rfl ?_
      refine lx_assign rfl rfl rfl ?_
      refine lx_nil ?_
      refine xs_plain (E := EE []) ?_
      refine lx_move rfl rfl rfl ?_
      refine lx_move rfl rfl rfl ?_
      refine lx_ext1 rfl rfl (fun w => add64 _ _ 0 (by decide) w) rfl rfl ?_
      refine lx_move rfl rfl rfl ?_
      refine lx_ext rfl rfl rfl rfl ?_
      refine lx_ext rfl rfl rfl rfl ?_
      refine lx_assign rfl rfl rfl ?_
      refine lx_assign rfl rfl rfl ?_
      refine lx_nil ?_
      refine xs_plain (E := EE []) ?_
      refine lx_move rfl rfl rfl ?_
      refine lx_move rfl rfl rfl ?_
      refine lx_bin rfl rfl (fun _ => rfl) (fun _ => bin_add_u64 _ _ _) rfl rfl ?_
      refine lx_assign rfl rfl rfl ?_
      refine lx_nil ?_
      refine xs_plain (E := EE []) ?_
      refine lx_move rfl rfl rfl ?_
      refine lx_move rfl rfl rfl ?_
      refine lx_ext1 rfl rfl (fun w => add64k _ _ 0 _ (by decide) (d1s (b.getD i 0) (KT (b.getD i 0) a (RT a b i) 0 * INV) a (RT a b i) 0 (by decide)) w) rfl rfl ?_
      refine lx_move rfl rfl rfl ?_
      refine lx_ext rfl rfl rfl rfl ?_
      refine lx_ext rfl rfl rfl rfl ?_
      refine lx_assign rfl rfl rfl ?_
      refine lx_assign rfl rfl rfl ?_
      refine lx_nil ?_
      refine xs_plain (E := EE []) ?_
      refine lx_move rfl rfl rfl ?_
      refine lx_move rfl rfl rfl ?_
      refine lx_bin (v := U64 (KD (KT (b.getD i 0) a (RT a b i) 0 * INV) PL (T1 (b.getD i 0) a (RT a b i)) 1)) rfl rfl (fun _ => rfl) (fun w => (bin_add_u64 _ _ _).trans (congrArg (fun z => Result.ok (U64 z) w) (d2s (b.getD i 0) (KT (b.getD i 0) a (RT a b i) 0 * INV) a (RT a b i) 0 (by decide)))) rfl rfl ?_
      refine lx_assign rfl rfl rfl ?_
      refine lx_nil ?_
      refine xs_plain (E := EE []) ?_
      refine lx_move rfl rfl rfl ?_
      refine lx_call rfl rfl ent50 (mul64_pure _ (PL.getD 2 0)) rfl rfl ?_
      refine lx_move rfl rfl rfl ?_
      refine lx_ext rfl rfl rfl rfl ?_
      refine lx_ext rfl rfl rfl rfl ?_
      refine lx_assign rfl rfl rfl ?_
      refine lx_assign rfl rfl rfl ?_
      refine lx_nil ?_
      refine xs_plain (E := EE []) ?_
      refine lx_move rfl rfl rfl ?_
      refine lx_move rfl rfl rfl ?_
      refine lx_ext1 rfl rfl (fun w => add64 _ _ 0 (by decide) w) rfl rfl ?_
      refine lx_move rfl rfl rfl ?_
      refine lx_ext rfl rfl rfl rfl ?_
      refine lx_ext rfl rfl rfl rfl ?_
      refine lx_assign rfl rfl rfl ?_
      refine lx_assign rfl rfl rfl ?_
      refine lx_nil ?_
      refine xs_plain (E := EE []) ?_
      refine lx_move rfl rfl rfl ?_
      refine lx_move rfl rfl rfl ?_
      refine lx_bin rfl rfl (fun _ => rfl) (fun _ => bin_add_u64 _ _ _) rfl rfl ?_
      refine lx_assign rfl rfl rfl ?_
      refine lx_nil ?_
      refine xs_plain (E := EE []) ?_
      refine lx_move rfl rfl rfl ?_
      refine lx_move rfl rfl rfl ?_
      refine lx_ext1 rfl rfl (fun w => add64k _ _ 0 _ (by decide) (d1s (b.getD i 0) (KT (b.getD i 0) a (RT a b i) 0 * INV) a (RT a b i) 1 (by decide)) w) rfl rfl ?_
      refine lx_move rfl rfl rfl ?_
      refine lx_ext rfl rfl rfl rfl ?_
      refine lx_ext rfl rfl rfl rfl ?_
      refine lx_assign rfl rfl rfl ?_
      refine lx_assign rfl rfl rfl ?_
      refine lx_nil ?_
      refine xs_plain (E := EE []) ?_
      refine lx_move rfl rfl rfl ?_
      refine lx_move rfl rfl rfl ?_
      refine lx_bin (v := U64 (KD (KT (b.getD i 0) a (RT a b i) 0 * INV) PL (T1 (b.getD i 0) a (RT a b i)) 2)) rfl rfl (fun _ => rfl) (fun w => (bin_add_u64 _ _ _).trans (congrArg (fun z => Result.ok (U64 z) w) (d2s (b.getD i 0) (KT (b.getD i 0) a (RT a b i) 0 * INV) a (RT a b i) 1 (by decide)))) rfl rfl ?_
      refine lx_assign rfl rfl rfl ?_
      refine lx_nil ?_
      refine xs_plain (E := EE []) ?_
      refine lx_move rfl rfl rfl ?_
      refine lx_call rfl rfl ent50 (mul64_pure _ (PL.getD 3 0)) rfl rfl ?_
      refine lx_move rfl rfl rfl ?_
      refine lx_ext rfl rfl rfl rfl ?_
      refine lx_ext rfl rfl rfl rfl ?_
      refine lx_assign rfl rfl rfl ?_
      refine lx_assign rfl rfl rfl ?_
      refine lx_nil ?_
      refine xs_plain (E := EE []) ?_
      refine lx_move rfl rfl rfl ?_
      refine lx_move rfl rfl rfl ?_
      refine lx_ext1 rfl rfl (fun w => add64 _ _ 0 (by decide) w) rfl rfl ?_
      refine lx_move rfl rfl rfl ?_
      refine lx_ext rfl rfl rfl rfl ?_
      refine lx_ext rfl rfl rfl rfl ?_
      refine lx_assign rfl rfl rfl ?_
      refine lx_assign rfl rfl rfl ?_
      refine lx_nil ?_
      refine xs_plain (E := EE []) ?_
      refine lx_move rfl rfl rfl ?_
      refine lx_move rfl rfl rfl ?_
      refine lx_bin rfl rfl (fun _ => rfl) (fun _ => bin_add_u64 _ _ _) rfl rfl ?_
      refine lx_assign rfl rfl rfl ?_
      refine lx_nil ?_
      refine xs_plain (E := EE []) ?_
      refine lx_move rfl rfl rfl ?_
      refine lx_move rfl rfl rfl ?_
      refine lx_ext1 rfl rfl (fun w => add64k _ _ 0 _ (by decide) (d1s (b.getD i 0) (KT (b.getD i 0) a (RT a b i) 0 * INV) a (RT a b i) 2 (by decide)) w) rfl rfl ?_
      refine lx_move rfl rfl rfl ?_
      refine lx_ext rfl rfl rfl rfl ?_
      refine lx_ext rfl rfl rfl rfl ?_
      refine lx_assign rfl rfl rfl ?_
      refine lx_assign rfl rfl rfl ?_
      refine lx_nil ?_
      refine xs_plain (E := EE []) ?_
      refine lx_move rfl rfl rfl ?_
      refine lx_move rfl rfl rfl ?_
      refine lx_bin (v := U64 (KD (KT (b.getD i 0) a (RT a b i) 0 * INV) PL (T1 (b.getD i 0) a (RT a b i)) 3)) rfl rfl (fun _ => rfl) (fun w => (bin_add_u64 _ _ _).trans (congrArg (fun z => Result.ok (U64 z) w) (d2s (b.getD i 0) (KT (b.getD i 0) a (RT a b i) 0 * INV) a (RT a b i) 2 (by decide)))) rfl rfl ?_
      refine lx_assign rfl rfl rfl ?_
      refine lx_nil ?_
      refine xs_plain (E := EE []) ?_
      refine lx_move rfl rfl rfl ?_
      refine lx_call rfl rfl ent50 (mul64_pure _ (PL.getD 4 0)) rfl rfl ?_
      refine lx_move rfl rfl rfl ?_
      refine lx_ext rfl rfl rfl rfl ?_
      refine lx_ext rfl rfl rfl rfl ?_
      refine lx_assign rfl rfl rfl ?_
      refine lx_assign rfl rfl rfl ?_
      refine lx_nil ?_
      refine xs_plain (E := EE []) ?_
      refine lx_move rfl rfl rfl ?_
      refine lx_move rfl rfl rfl ?_
      refine lx_ext1 rfl rfl (fun w => add64 _ _ 0 (by decide) w) rfl rfl ?_
      refine lx_move rfl rfl rfl ?_
      refine lx_ext rfl rfl rfl rfl ?_
      refine lx_ext rfl rfl rfl rfl ?_
      refine lx_assign rfl rfl rfl ?_
      refine lx_assign rfl rfl rfl ?_
      refine lx_nil ?_
      refine xs_plain (E := EE []) ?_
      refine lx_move rfl rfl rfl ?_
      refine lx_move rfl rfl rfl ?_
      refine lx_bin rfl rfl (fun _ => rfl) (fun _ => bin_add_u64 _ _ _) rfl rfl ?_
      refine lx_assign rfl rfl rfl ?_
      refine lx_nil ?_
      refine xs_plain (E := EE []) ?_
      refine lx_move rfl rfl rfl ?_
      refine lx_move rfl rfl rfl ?_
      refine lx_ext1 rfl rfl (fun w => add64k _ _ 0 _ (by decide) (d1s (b.getD i 0) (KT (b.getD i 0) a (RT a b i) 0 * INV) a (RT a b i) 3 (by decide)) w) rfl rfl ?_
      refine lx_move rfl rfl rfl ?_
      refine lx_ext rfl rfl rfl rfl ?_
      refine lx_ext rfl rfl rfl rfl ?_
      refine lx_assign rfl rfl rfl ?_
      refine lx_assign rfl rfl rfl ?_
      refine lx_nil ?_
      refine xs_plain (E := EE []) ?_
      refine lx_move rfl rfl rfl ?_
      refine lx_move rfl rfl rfl ?_
      refine lx_bin (v := U64 (KD (KT (b.getD i 0) a (RT a b i) 0 * INV) PL (T1 (b.getD i 0) a (RT a b i)) 4)) rfl rfl (fun _ => rfl) (fun w => (bin_add_u64 _ _ _).trans (congrArg (fun z => Result.ok (U64 z) w) (d2s (b.getD i 0) (KT (b.getD i 0) a (RT a b i) 0 * INV) a (RT a b i) 3 (by decide)))) rfl rfl ?_
      refine lx_assign rfl rfl rfl ?_
      refine lx_nil ?_
      refine xs_plain (E := EE []) ?_
      refine lx_move rfl rfl rfl ?_
      refine lx_call rfl rfl ent50 (mul64_pure _ (PL.getD 5 0)) rfl rfl ?_
      refine lx_move rfl rfl rfl ?_
      refine lx_ext rfl rfl rfl rfl ?_
      refine lx_ext rfl rfl rfl rfl ?_
      refine lx_assign rfl rfl rfl ?_
      refine lx_assign rfl rfl rfl ?_
      refine lx_nil ?_
      refine xs_plain (E := EE []) ?_
      refine lx_move rfl rfl rfl ?_
      refine lx_move rfl rfl rfl ?_
      refine lx_ext1 rfl rfl (fun w => add64 _ _ 0 (by decide) w) rfl rfl ?_
      refine lx_move rfl rfl rfl ?_
      refine lx_ext rfl rfl rfl rfl ?_
      refine lx_ext rfl rfl rfl rfl ?_
      refine lx_assign rfl rfl rfl ?_
      refine lx_assign rfl rfl rfl ?_
      refine lx_nil ?_
      refine xs_plain (E := EE []) ?_
      refine lx_move rfl rfl rfl ?_
      refine lx_move rfl rfl rfl ?_
      refine lx_bin rfl rfl (fun _ => rfl) (fun _ => bin_add_u64 _ _ _) rfl rfl ?_
      refine lx_assign rfl rfl rfl ?_
      refine lx_nil ?_
      refine xs_plain (E := EE []) ?_
      refine lx_move rfl rfl rfl ?_
      refine lx_move rfl rfl rfl ?_
      refine lx_ext1 rfl rfl (fun w => add64k _ _ 0 _ (by decide) (d1s (b.getD i 0) (KT (b.getD i 0) a (RT a b i) 0 * INV) a (RT a b i) 4 (by decide)) w) rfl rfl ?_
      refine lx_move rfl rfl rfl ?_
      refine lx_ext rfl rfl rfl rfl ?_
      refine lx_ext rfl rfl rfl rfl ?_
      refine lx_assign rfl rfl rfl ?_
      refine lx_assign rfl rfl rfl ?_
      refine lx_nil ?_
      refine xs_plain (E := EE []) ?_
      refine lx_move rfl rfl rfl ?_
      refine lx_move rfl rfl rfl ?_
      refine lx_bin (v := U64 (KD (KT (b.getD i 0) a (RT a b i) 0 * INV) PL (T1 (b.getD i 0) a (RT a b i)) 5)) rfl rfl (fun _ => rfl) (fun w => (bin_add_u64 _ _ _).trans (congrArg (fun z => Result.ok (U64 z) w) (d2s (b.getD i 0) (KT (b.getD i 0) a (RT a b i) 0 * INV) a (RT a b i) 4 (by decide)))) rfl rfl ?_
      refine lx_assign rfl rfl rfl ?_
      refine lx_nil ?_
      refine x_plain (E := EE []) ?_
      refine lx_move rfl rfl rfl ?_
      refine lx_move rfl rfl rfl ?_
      refine lx_bin rfl rfl (fun _ => rfl) (fun _ => bin_add_u64 _ _ _) rfl rfl ?_
      refine lx_assign rfl rfl rfl ?_
      refine lx_nil ?_
      refine x_plain (E := EE []) ?_
      refine lx_move rfl rfl rfl ?_
      refine lx_bin rfl rfl (fun _ => rfl) (fun _ => bin_add_i _ _ _ (by unfold inI; omega)) rfl rfl ?_
      refine lx_assign rfl rfl rfl ?_
      refine lx_nil ?_
      repeat (refine kblk_n ?_)
      refine kseq_n ?_
      exact ⟨rfl, ⟨i + 1, by omega⟩, _, by show 6 - (i + 1) < 6 - i; omega, rfl, ⟨rfl, rfl, rfl, congrArg (fun z => some (U64 z)) (RT_n a b i 0 (by decide)).symm, congrArg (fun z => some (U64 z)) (RT_n a b i 1 (by decide)).symm, congrArg (fun z => some (U64 z)) (RT_n a b i 2 (by decide)).symm, congrArg (fun z => some (U64 z)) (RT_n a b i 3 (by decide)).symm, congrArg (fun z => some (U64 z)) (RT_n a b i 4 (by decide)).symm, congrArg (fun z => some (U64 z)) (RT_top a b i).symm, rfl, trivial⟩, ⟨rfl, rfl, rfl, trivial⟩⟩
    · obtain rfl : i = 6 := by simp at hc; omega
      refine x_exit ?_
      refine xs_plain (E := EE []) ?_
      refine lx_move rfl rfl rfl ?_
      refine lx_move rfl rfl rfl ?_
      refine lx_move rfl rfl rfl ?_
      refine lx_move rfl rfl rfl ?_
      refine lx_move rfl rfl rfl ?_
      refine lx_move rfl rfl rfl ?_
      refine lx_buildr (n := 6) (vs := (RT a b 6).map U64) (congrArg some (six_map (RT a b 6) (RT_len _ _ _))) rfl Tryd.underlying43 Tryd.sizeOf41 Tryd.zeroValue43 (by rw [List.length_map, RT_len]; rfl) (one_u64 _) rfl rfl ?_
      refine lx_allocr 19 hGF zv43 rfl rfl ?_
      intro b19
      refine lx_storea 19 hGF rfl rfl rfl Tryd.sizeOf43 (by rw [List.length_map, RT_len _ _ _]) (by rw [List.length_map, List.length_replicate]) (one_u64 _) rfl ?_
      refine lx_nil ?_
      refine x_seq ?_
      refine xs_drawA (E := EE [2999999]) [0, 1, 2, 3, 4, 5] [⟨6, 20, 43, (List.replicate 6 0#64).map U64⟩] [7, 8] mixed rfl (by kernel_rfl) (by kernel_rfl) (by kernel_rfl) (by kernel_rfl) (by kernel_rfl) (by kernel_rfl) (by decide) (by intro x hx; simp only [List.mem_cons, List.not_mem_nil, or_false] at hx; subst hx; exact isAlloc_mk rfl zv43 rfl) ?_
      refine lx_loada 19 rfl rfl Tryd.isAgg43 Tryd.sizeOf43 (by rw [List.length_map, RT_len _ _ _]) rfl rfl ?_
      refine lx_call rfl rfl ent24 (rp_pure) rfl rfl ?_
      refine lx_call rfl rfl ent51 (rsub_pure _ _ (RT_len _ _ _) rfl) rfl rfl ?_
      refine lx_move rfl rfl rfl ?_
      refine lx_ext rfl rfl rfl rfl ?_
      refine lx_ext rfl rfl rfl rfl ?_
      refine lx_nil ?_
      refine ⟨_, _, rfl, hGF, by intro x hx; simp only [List.mem_cons, List.not_mem_nil, or_false] at hx; subst hx; rfl, by intro x hx; simp only [List.mem_cons, List.not_mem_nil, or_false] at hx; subst hx; rfl, fun adr => ?_⟩
      refine lx_storea 20 hGF rfl rfl rfl Tryd.sizeOf43 (by rw [List.length_map, SS_len _ _ _]) (by rw [List.length_map, List.length_replicate]) (one_u64 _) rfl ?_
      refine lx_assign rfl rfl rfl ?_
      refine lx_nil ?_
      refine xs_plain (E := EE []) ?_
      refine lx_move rfl rfl rfl ?_
      refine lx_bin (v := .bool false) rfl rfl (fun _ => rfl) (fun w => (bin_eql_u64 _ _ _).trans (congrArg (fun b => Result.ok (Value.bool b) w) (beq_eq_false_iff_ne.2 h0))) rfl rfl ?_
      refine lx_nil ?_
      refine x_false rfl ?_
      refine x_skip ?_
      refine xs_plain (E := EE []) ?_
      refine lx_loada 19 rfl rfl Tryd.isAgg43 Tryd.sizeOf43 (by rw [List.length_map, RT_len _ _ _]) rfl rfl ?_
      refine lx_storea 4 hGF rfl rfl rfl Tryd.sizeOf43 (by rw [List.length_map, RT_len _ _ _]) (by rw [List.length_map, List.length_replicate]) (one_u64 _) rfl ?_
      refine lx_nil ?_
      refine x_ret ?_
      repeat (first | refine kseq_ret ?_ | refine kblk_ret ?_)
      exact kret_own 4 rfl rfl rfl Tryd.isAgg43 Tryd.sizeOf43 (by rw [List.length_map, RT_len]) (fun w hw => ⟨by rw [RM, if_neg h0], hp_below hw⟩)
end Go.Proofs.YtlimfhjjadbjgaaDoor

namespace Go.Proofs.YtlimfhjjadbjgaaDoor
open Go.RowKit
set_option maxRecDepth 100000
set_option maxHeartbeats 1000000

theorem ent33 : Enters Tryd.prog 33 := fun _ _ => by kernel_rfl
theorem zv45 (w : World) : (zeroValue 45).run Tryd.prog w = .ok (.agg ((List.replicate 6 (0#64)).map U64).toArray) w := (Tryd.zeroValue45 w).trans (by rfl)
theorem rof_pure (a : List (BitVec 64)) (ha : a.length = 6) : Pure Tryd.prog Gt 33 [.agg ((a).map U64).toArray] (.agg ((RM a TWO).map U64).toArray) := by
  intro w hw
  have hGF : BOk Gt (pl w) := gt_low.plain hw
  refine calls_of_X (G := Gt) Tryd.func33 rfl rfl (Hp (pl w) []) (hp_refl (pl w) trivial rides_true) (good_hp hGF) ?_
  refine xs_plain (E := EE []) ?_
  refine lx_boxr 1 hGF rfl rfl rfl ?_
  intro b1
  refine lx_allocr 2 hGF zv45 rfl rfl ?_
  intro b2
  refine lx_nil ?_
  refine xs_drawn (E := EE []) mixed (by kernel_rfl) (by kernel_rfl) (by kernel_rfl) ?_
  refine lx_loada 1 rfl rfl Tryd.isAgg43 Tryd.sizeOf43 (by rw [List.length_map, ha]) rfl rfl ?_
  refine lx_call rfl rfl ent49 (rtwo_pure) rfl rfl ?_
  refine lx_call rfl rfl ent48 (rmont_pure _ _ ha TWO_len) rfl rfl ?_
  refine lx_buildS rfl (RM_len _ _) Tryd.underlying45 rfl Tryd.sizeOf43 zv45 rfl rfl ?_
  refine lx_storea 2 hGF rfl rfl rfl Tryd.sizeOf45 (by rw [List.length_map, RM_len _ _]) (by rw [List.length_map, List.length_replicate]) (one_u64 _) rfl ?_
  refine lx_nil ?_
  refine x_ret ?_
  repeat (first | refine kseq_ret ?_ | refine kblk_ret ?_)
  exact kret_own 2 rfl rfl rfl Tryd.isAgg45 Tryd.sizeOf45 (by rw [List.length_map, RM_len]) (fun w hw => ⟨rfl, hp_below hw⟩)
end Go.Proofs.YtlimfhjjadbjgaaDoor

namespace Go.Proofs.YtlimfhjjadbjgaaDoor
open Go.RowKit
set_option maxRecDepth 100000
set_option maxHeartbeats 1000000

theorem ent23 : Enters Tryd.prog 23 := fun _ _ => by kernel_rfl
theorem adc_le (x y c : BitVec 64) (hc : c.toNat ≤ 1) : (ADC x y c).2.toNat ≤ 1 := ADC_c x y c hc
/-- A part added, and what is carried. -/
def AB (t : List (BitVec 64)) (c : BitVec 64) : Nat → List (BitVec 64) × BitVec 64
  | 0 => (t.set 0 (ADC (t.getD 0 0) c 0).1, (ADC (t.getD 0 0) c 0).2)
  | j + 1 => ((AB t c j).1.set (j + 1) (ADC ((AB t c j).1.getD (j + 1) 0) 0 (AB t c j).2).1, (ADC ((AB t c j).1.getD (j + 1) 0) 0 (AB t c j).2).2)
theorem AB_len (t : List (BitVec 64)) (c : BitVec 64) : ∀ j, (AB t c j).1.length = t.length
  | 0 => by rw [AB, List.length_set]
  | j + 1 => by rw [AB, List.length_set, AB_len t c j]
theorem AB_c (t : List (BitVec 64)) (c : BitVec 64) : ∀ j, (AB t c j).2.toNat ≤ 1
  | 0 => adc_le _ _ _ (by decide)
  | j + 1 => adc_le _ _ _ (AB_c t c j)
def WDs (bs : List (BitVec 8)) (m : List (BitVec 64)) : Nat → List (BitVec 64)
  | 0 => List.replicate 6 0
  | i + 1 => MOD (AB (MU (WDs bs m i) (256#64 :: List.replicate 5 0) 6) ((bs.getD i 0).setWidth 64) 11).1 m
theorem WDs_len (bs : List (BitVec 8)) (m : List (BitVec 64)) : ∀ i, (WDs bs m i).length = 6
  | 0 => rfl
  | _ + 1 => MOD_len _ _
theorem WDs_succ (bs : List (BitVec 8)) (m : List (BitVec 64)) (i : Nat) : WDs bs m (i + 1) = MOD (AB (MU (WDs bs m i) (256#64 :: List.replicate 5 0) 6) ((bs.getD i 0).setWidth 64) 11).1 m := by rw [WDs]
theorem rwide_calls (e : Option Addr) (cap : Nat) (bs : List (BitVec 8)) (m : List (BitVec 64)) (hm : m.length = 6) (hlen : bs.length ≤ 1000000) (w : World) (hw : Gt w) (hby : BytesAt w e bs) :
    Calls Tryd.prog 23 [.slice e bs.length cap, .agg ((m).map U64).toArray].toArray w (fun r w' => r = .returned (.agg ((WDs bs m bs.length).map U64).toArray) ∧ Grow w w') := by
  have hGF : BOk Gt (pl w) := gt_low.plain hw
  refine calls_of_X (G := Gt) Tryd.func23 rfl rfl (Hp (pl w) []) (hp_refl (pl w) trivial rides_true) (good_hp hGF) ?_
  refine xs_plain (E := EE []) ?_
  refine lx_boxr 3 hGF rfl rfl rfl ?_
  intro b3
  refine lx_allocr 4 hGF zv43 rfl rfl ?_
  intro b4
  refine lx_nil ?_
  refine xs_plain (E := EE []) ?_
  refine lx_allocr 5 hGF zv43 rfl rfl ?_
  intro b5
  refine lx_nil ?_
  refine x_seq ?_
  refine xs_plain (E := EE []) ?_
  refine lx_assign rfl rfl rfl ?_
  refine lx_nil ?_
  refine x_block ?_
  refine x_for (ι := { i : Nat // i ≤ bs.length }) (fun x => [(0, .slice e bs.length cap), (3, .pointer (some ⟨b3, 0, none⟩)), (4, .pointer (some ⟨b4, 0, none⟩)), (5, .pointer (some ⟨b5, 0, none⟩)), (6, I (x.1 : Int))]) (fun x => [(3, b3, m.map U64, 43), (4, b4, (List.replicate 6 0#64).map U64, 43), (5, b5, (WDs bs m x.1).map U64, 43)]) (fun x => bs.length - x.1) ⟨0, by omega⟩ hGF ⟨rfl, rfl, rfl, rfl, rfl, trivial⟩ ⟨rfl, rfl, rfl, trivial⟩ ?_
  rintro ⟨i, hi⟩
  dsimp only
  refine x_seq ?_
  refine xs_plain (E := EE []) ?_
  refine lx_move rfl rfl rfl ?_
  refine lx_move rfl rfl rfl ?_
  refine lx_len rfl (fun _ => len_slice Tryd.underlying22 _ _ _ _) rfl rfl ?_
  refine lx_bin rfl rfl (fun _ => rfl) (fun _ => bin_lss_i _ _ _) rfl rfl ?_
  refine lx_nil ?_
  refine x_if rfl (fun hc => ?_) (fun hc => ?_)
  · simp only [decide_eq_true_eq] at hc
    refine x_skip ?_
    refine x_seq ?_
    refine x_block ?_
    refine xs_plain (E := EE []) ?_
    refine lx_loada 5 rfl rfl Tryd.isAgg43 Tryd.sizeOf43 (by rw [List.length_map, WDs_len]) rfl rfl ?_
    refine lx_build1 256#64 rfl Tryd.underlying43 Tryd.sizeOf41 zv43 rfl rfl ?_
    refine lx_call rfl rfl ent34 (times_pure (WDs bs m i) (256#64 :: List.replicate 5 0) (WDs_len _ _ _) rfl) rfl rfl ?_
    refine lx_allocr 7 hGF zv83 rfl rfl ?_
    intro b7
    refine lx_storea 7 hGF rfl rfl rfl Tryd.sizeOf83 (by rw [List.length_map, MU_len _ _ _]) (by rw [List.length_map, List.length_replicate]) (one_u64 _) rfl ?_
    refine lx_nil ?_
    refine xs_plain (E := EE []) ?_
    refine lx_assign rfl rfl rfl ?_
    generalize hM : (MU (WDs bs m i) (256#64 :: List.replicate 5 0) 6) = M0
    have hM0 : M0.length = 12 := by rw [← hM, MU_len]
    refine lx_nil ?_
    refine xs_drawn (E := EE []) mixed (by kernel_rfl) (by kernel_rfl) (by kernel_rfl) ?_
    refine lx_ia0 (0) rfl rfl Tryd.underlying83 Tryd.sizeOf41 (by omega) (by omega) rfl rfl ?_
    refine lx_loadm 7 U64 0 rfl rfl Tryd.isAgg41 (by rw [hM0]; omega) rfl rfl ?_
    refine lx_move rfl rfl rfl ?_
    refine lx_move rfl rfl rfl ?_
    obtain ⟨ad, rfl, _⟩ := hby i _ (gm U8 bs 0 i (by omega))
    refine lx_isA i rfl rfl Tryd.underlying22 Tryd.sizeOf5 rfl (by omega) rfl rfl ?_
    refine lx_load rfl Tryd.isAgg5 (fun w' h => by obtain ⟨ad', e, hc⟩ := (hby.grow (hp_below h)) i _ (gm U8 bs 0 i (by omega)); cases e; exact hc) rfl rfl ?_
    refine lx_conv rfl rfl (fun _ => conv_u8_u64 Tryd.underlying5 Tryd.underlying41 _) rfl rfl ?_
    refine lx_ext1 rfl rfl (fun w => add64 _ _ 0 (by decide) w) rfl rfl ?_
    refine lx_move rfl rfl rfl ?_
    refine lx_ext rfl rfl rfl rfl ?_
    refine lx_ext rfl rfl rfl rfl ?_
    refine lx_ia0 (0) rfl rfl Tryd.underlying83 Tryd.sizeOf41 (by omega) (by omega) rfl rfl ?_
    refine lx_storem 7 U64 hGF rfl rfl rfl Tryd.sizeOf41 rfl (by rw [hM0]; omega) rfl ?_
    refine lx_assign rfl rfl rfl ?_
    refine lx_nil ?_
    refine x_seq ?_
    refine xs_plain (E := EE []) ?_
    refine lx_assign rfl rfl rfl ?_
    refine lx_nil ?_
    refine x_block ?_
    refine x_for (ι := { i : Nat // i ≤ 11 }) (fun x => [(0, .slice (some ad) bs.length cap), (3, .pointer (some ⟨b3, 0, none⟩)), (4, .pointer (some ⟨b4, 0, none⟩)), (5, .pointer (some ⟨b5, 0, none⟩)), (6, I (i : Int)), (7, .pointer (some ⟨b7, 0, none⟩)), (8, U64 (AB M0 ((bs.getD i 0).setWidth 64) x.1).2), (9, I ((x.1 + 1 : Nat) : Int))]) (fun x => [(3, b3, m.map U64, 43), (4, b4, (List.replicate 6 0#64).map U64, 43), (5, b5, (WDs bs m i).map U64, 43), (7, b7, (AB M0 ((bs.getD i 0).setWidth 64) x.1).1.map U64, 83)]) (fun x => 11 - x.1) ⟨0, by omega⟩ hGF ⟨rfl, rfl, rfl, rfl, rfl, rfl, rfl, rfl, trivial⟩ ⟨rfl, rfl, rfl, rfl, trivial⟩ ?_
    rintro ⟨j, hj⟩
    dsimp only
    refine x_seq ?_
    refine xs_plain (E := EE []) ?_
    refine lx_move rfl rfl rfl ?_
    refine lx_bin rfl rfl (fun _ => rfl) (fun _ => bin_lss_i _ _ _) rfl rfl ?_
    refine lx_nil ?_
    refine x_if rfl (fun hc => ?_) (fun hc => ?_)
    · simp only [decide_eq_true_eq] at hc
      refine x_skip ?_
      refine x_seq ?_
      refine x_block ?_
      refine x_plain (E := EE []) ?_
      refine lx_move rfl rfl rfl ?_
      refine lx_move rfl rfl rfl ?_
      refine lx_ia0 ((j + 1)) rfl rfl Tryd.underlying83 Tryd.sizeOf41 (by omega) (by omega) rfl rfl ?_
      refine lx_loadm 7 U64 0 rfl rfl Tryd.isAgg41 (by rw [AB_len, hM0]; omega) rfl rfl ?_
      refine lx_move rfl rfl rfl ?_
      refine lx_ext1 rfl rfl (fun w => add64 _ 0 _ (AB_c _ _ _) w) rfl rfl ?_
      refine lx_move rfl rfl rfl ?_
      refine lx_ext rfl rfl rfl rfl ?_
      refine lx_ext rfl rfl rfl rfl ?_
      refine lx_ia0 ((j + 1)) rfl rfl Tryd.underlying83 Tryd.sizeOf41 (by omega) (by omega) rfl rfl ?_
      refine lx_storem 7 U64 hGF rfl rfl rfl Tryd.sizeOf41 rfl (by rw [AB_len, hM0]; omega) rfl ?_
      refine lx_assign rfl rfl rfl ?_
      refine lx_nil ?_
      refine x_plain (E := EE []) ?_
      refine lx_move rfl rfl rfl ?_
      refine lx_bin rfl rfl (fun _ => rfl) (fun _ => bin_add_i _ _ _ (by unfold inI; omega)) rfl rfl ?_
      refine lx_assign rfl rfl rfl ?_
      refine lx_nil ?_
      repeat (refine kblk_n ?_)
      refine kseq_n ?_
      exact ⟨rfl, ⟨j + 1, by omega⟩, _, by show 11 - (j + 1) < 11 - j; omega, rfl, ⟨rfl, rfl, rfl, rfl, rfl, rfl, rfl, rfl, trivial⟩, ⟨rfl, rfl, rfl, rfl, trivial⟩⟩
    · obtain rfl : j = 11 := by simp at hc; omega
      refine x_exit ?_
      refine x_plain (E := EE []) ?_
      refine lx_loada 7 rfl rfl Tryd.isAgg83 Tryd.sizeOf83 (by rw [List.length_map, AB_len, hM0]) rfl rfl ?_
      refine lx_loada 3 rfl rfl Tryd.isAgg43 Tryd.sizeOf43 (by rw [List.length_map, hm]) rfl rfl ?_
      refine lx_call rfl rfl ent36 (rmod_pure _ _ (by rw [AB_len, hM0]) hm) rfl rfl ?_
      refine lx_storea 5 hGF rfl rfl rfl Tryd.sizeOf43 (by rw [List.length_map, MOD_len _ _]) (by rw [List.length_map, WDs_len]) (one_u64 _) rfl ?_
      refine lx_nil ?_
      refine x_plain (E := EE []) ?_
      refine lx_move rfl rfl rfl ?_
      refine lx_bin rfl rfl (fun _ => rfl) (fun _ => bin_add_i _ _ _ (by unfold inI; omega)) rfl rfl ?_
      refine lx_assign rfl rfl rfl ?_
      refine lx_nil ?_
      repeat (refine kblk_n ?_)
      refine kseq_n ?_
      exact ⟨rfl, ⟨i + 1, by omega⟩, _, by show bs.length - (i + 1) < bs.length - i; omega, rfl, ⟨rfl, rfl, rfl, rfl, rfl, trivial⟩, ⟨rfl, rfl, by rw [WDs_succ, hM]; rfl, trivial⟩⟩
  · obtain rfl : i = bs.length := by simp at hc; omega
    refine x_exit ?_
    refine xs_plain (E := EE []) ?_
    refine lx_loada 5 rfl rfl Tryd.isAgg43 Tryd.sizeOf43 (by rw [List.length_map, WDs_len]) rfl rfl ?_
    refine lx_storea 4 hGF rfl rfl rfl Tryd.sizeOf43 (by rw [List.length_map, WDs_len _ _ _]) (by rw [List.length_map, List.length_replicate]) (one_u64 _) rfl ?_
    refine lx_nil ?_
    refine x_ret ?_
    repeat (first | refine kseq_ret ?_ | refine kblk_ret ?_)
    exact kret_own 4 rfl rfl rfl Tryd.isAgg43 Tryd.sizeOf43 (by rw [List.length_map, WDs_len]) (fun w hw => ⟨rfl, hp_below hw⟩)
end Go.Proofs.YtlimfhjjadbjgaaDoor

namespace Go.Proofs.YtlimfhjjadbjgaaDoor
open Go.RowKit
set_option maxRecDepth 100000
set_option maxHeartbeats 1000000

end Go.Proofs.YtlimfhjjadbjgaaDoor

namespace Go.Proofs.YtlimfhjjadbjgaaDoor
open Go.RowKit
set_option maxRecDepth 100000
set_option maxHeartbeats 1000000

end Go.Proofs.YtlimfhjjadbjgaaDoor

namespace Go.Proofs.YtlimfhjjadbjgaaDoor
open Go.RowKit
set_option maxRecDepth 100000
set_option maxHeartbeats 1000000

theorem rfrom48 (b : Nat) (t : TypeId) (bs : List (BitVec 8)) (h48 : bs.length = 48) (w : World) (hw : Gt w) (ho : OwnB w b (bs.map U8) t) :
    Calls Tryd.prog 38 [.slice (some ⟨b, 0, none⟩) 48 48].toArray w (fun r w' => r = .returned (.tuple #[.agg ((FRs bs 48).map U64).toArray, .bool true]) ∧ Grow w w') := by
  have h := rfrom_calls (some ⟨b, 0, none⟩) 48 bs w hw (BytesAt.range ho.range)
  rw [h48, if_neg (by decide)] at h
  exact h
end Go.Proofs.YtlimfhjjadbjgaaDoor
