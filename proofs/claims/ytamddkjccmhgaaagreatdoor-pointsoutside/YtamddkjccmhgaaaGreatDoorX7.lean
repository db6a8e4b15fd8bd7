/-
  The walk of the reference's product modulo p.
  The walks of the reference's elements of p: sums, differences, products.
  The walk of the reference's powers.
  The walk of the reference's exponents: p and a small number, by a power of two.
  The walks of the reference's inverses and signs.
-/
import Derived.Test.YtamddkjccmhgaaaGreatDoorX6
import Derived.Test.YtamddkjccmhgaaaGreatDoorX2
import Derived.Test.YtamddkjccmhgaaaGreatDoorX4
import Derived.Test.YtamddkjccmhgaaaGreatDoorX3
namespace Go.Proofs.YtamddkjccmhgaaaGreatDoor
open Go.RowKit
set_option maxRecDepth 100000
set_option maxHeartbeats 1000000

theorem ent41 : Enters Tryz.prog 41 := fun _ _ => by kernel_rfl
theorem ent143 : Enters Tryz.prog 143 := fun _ _ => by kernel_rfl
theorem ent122 : Enters Tryz.prog 122 := fun _ _ => by kernel_rfl
theorem add64k (x y c s : BitVec 64) (hc : c.toNat ≤ 1) (h : (ADC x y c).1 = s) (w : World) : (callFunc 151 [U64 x, U64 y, U64 c].toArray).run Tryz.prog w = .ok (.value (.tuple #[U64 s, U64 (ADC x y c).2])) w := by
  subst h; exact add64 x y c hc w
theorem PL_len : PL.length = 6 := rfl
theorem rp_pure  : Pure Tryz.prog Gt 41 [] (.agg ((PL).map U64).toArray) := by
  intro w hw
  have hGF : BOk Gt (pl w) := gt_low.plain hw
  refine calls_of_X (G := Gt) Tryz.func41 rfl rfl (Hp (pl w) []) (hp_refl (pl w) trivial rides_true) (good_hp hGF) ?_
  refine xs_plain (E := EE []) ?_
  refine lx_allocr 0 hGF zv34 rfl rfl ?_
  intro b0
  refine lx_nil ?_
  refine xs_plain (E := EE []) ?_
  refine lx_buildr (n := 6) (vs := (PL).map U64) rfl rfl Tryz.underlying34 Tryz.sizeOf25 Tryz.zeroValue34 rfl rfl rfl rfl ?_
  refine lx_storea 0 hGF rfl rfl rfl Tryz.sizeOf34 (by rw [List.length_map, PL_len]) (by rw [List.length_map, List.length_replicate]) (one_u64 _) rfl ?_
  refine lx_nil ?_
  refine x_ret ?_
  repeat (first | refine kseq_ret ?_ | refine kblk_ret ?_)
  exact kret_own 0 rfl rfl rfl Tryz.isAgg34 Tryz.sizeOf34 rfl (fun w hw => ⟨rfl, hp_below hw⟩)
theorem rtwo_pure  : Pure Tryz.prog Gt 143 [] (.agg ((TWO).map U64).toArray) := by
  intro w hw
  have hGF : BOk Gt (pl w) := gt_low.plain hw
  refine calls_of_X (G := Gt) Tryz.func143 rfl rfl (Hp (pl w) []) (hp_refl (pl w) trivial rides_true) (good_hp hGF) ?_
  refine xs_plain (E := EE []) ?_
  refine lx_allocr 0 hGF zv34 rfl rfl ?_
  intro b0
  refine lx_nil ?_
  refine xs_plain (E := EE []) ?_
  refine lx_buildr (n := 6) (vs := (TWO).map U64) rfl rfl Tryz.underlying34 Tryz.sizeOf25 Tryz.zeroValue34 rfl rfl rfl rfl ?_
  refine lx_storea 0 hGF rfl rfl rfl Tryz.sizeOf34 (by rw [List.length_map, TWO_len]) (by rw [List.length_map, List.length_replicate]) (one_u64 _) rfl ?_
  refine lx_nil ?_
  refine x_ret ?_
  repeat (first | refine kseq_ret ?_ | refine kblk_ret ?_)
  exact kret_own 0 rfl rfl rfl Tryz.isAgg34 Tryz.sizeOf34 rfl (fun w hw => ⟨rfl, hp_below hw⟩)
theorem rmont_pure (a b : List (BitVec 64)) (ha : a.length = 6) (hb : b.length = 6) : Pure Tryz.prog Gt 122 [.agg ((a).map U64).toArray, .agg ((b).map U64).toArray] (.agg ((RM a b).map U64).toArray) := by
  intro w hw
  have hGF : BOk Gt (pl w) := gt_low.plain hw
  refine calls_of_X (G := Gt) Tryz.func122 rfl rfl (Hp (pl w) []) (hp_refl (pl w) trivial rides_true) (good_hp hGF) ?_
  by_cases h0 : (SS (RT a b 6) PL 6).2 = 0
  · skip
    refine xs_plain (E := EE []) ?_
    refine lx_boxr 2 hGF rfl rfl rfl ?_
    intro b2
    refine lx_boxr 3 hGF rfl rfl rfl ?_
    intro b3
    refine lx_allocr 4 hGF zv34 rfl rfl ?_
    intro b4
    refine lx_nil ?_
    refine xs_plain (E := EE []) ?_
    refine lx_assign rfl rfl rfl ?_
    refine lx_assign rfl rfl rfl ?_
    refine lx_assign rfl rfl rfl ?_
    refine lx_assign rfl rfl rfl ?_
    refine lx_assign rfl rfl rfl ?_
    refine lx_assign rfl rfl rfl ?_
    refine lx_nil ?_
    refine x_seq ?_
    refine xs_plain (E := EE []) ?_
    refine lx_assign rfl rfl rfl ?_
    refine lx_nil ?_
    refine x_block ?_
    refine x_for (ι := { i : Nat // i ≤ 6 }) (fun x => [(2, .pointer (some ⟨b2, 0, none⟩)), (3, .pointer (some ⟨b3, 0, none⟩)), (4, .pointer (some ⟨b4, 0, none⟩)), (5, U64 ((RT a b x.1).getD 0 0)), (6, U64 ((RT a b x.1).getD 1 0)), (7, U64 ((RT a b x.1).getD 2 0)), (8, U64 ((RT a b x.1).getD 3 0)), (9, U64 ((RT a b x.1).getD 4 0)), (10, U64 ((RT a b x.1).getD 5 0)), (11, I (x.1 : Int))]) (fun x => [(2, b2, a.map U64, 34), (3, b3, b.map U64, 34), (4, b4, (List.replicate 6 0#64).map U64, 34)]) (fun x => 6 - x.1) ⟨0, by omega⟩ hGF ⟨rfl, rfl, rfl, rfl, rfl, rfl, rfl, rfl, rfl, rfl, trivial⟩ ⟨rfl, rfl, rfl, trivial⟩ ?_
    rintro ⟨i, hi⟩
    dsimp only
    refine x_seq ?_
    refine xs_plain (E := EE []) ?_
    refine lx_move rfl rfl rfl ?_
    refine lx_bin rfl rfl (fun _ => rfl) (fun _ => bin_lss_i _ _ _) rfl rfl ?_
    refine lx_nil ?_
    refine x_if rfl (fun hc => ?_) (fun hc => ?_)
    · simp only [decide_eq_true_eq] at hc
      refine x_skip ?_
      refine x_seq ?_
      refine x_block ?_
      refine xs_plain (E := EE []) ?_
      refine lx_assign rfl rfl rfl ?_
      refine lx_assign rfl rfl rfl ?_
      refine lx_assign rfl rfl rfl ?_
      refine lx_assign rfl rfl rfl ?_
      refine lx_nil ?_
      refine xs_plain (E := EE []) ?_
      refine lx_move rfl rfl rfl ?_
      refine lx_ia0 (i) rfl rfl Tryz.underlying34 Tryz.sizeOf25 (by omega) (by omega) rfl rfl ?_
      refine lx_loadm 3 U64 0 rfl rfl Tryz.isAgg25 (by rw [hb]; omega) rfl rfl ?_
      refine lx_assign rfl rfl rfl ?_
      refine lx_nil ?_
      refine xs_plain (E := EE []) ?_
      refine lx_ia0 (0) rfl rfl Tryz.underlying34 Tryz.sizeOf25 (by omega) (by omega) rfl rfl ?_
      refine lx_loadm 2 U64 0 rfl rfl Tryz.isAgg25 (by rw [ha]; omega) rfl rfl ?_
      refine lx_move rfl rfl rfl ?_
      refine lx_call rfl rfl ent153 (mul64_pure _ _) rfl rfl ?_
      refine lx_move rfl rfl rfl ?_
      refine lx_ext rfl rfl rfl rfl ?_
      refine lx_ext rfl rfl rfl rfl ?_
      refine lx_assign rfl rfl rfl ?_
      refine lx_assign rfl rfl rfl ?_
      refine lx_nil ?_
      refine xs_plain (E := EE []) ?_
      refine lx_move rfl rfl rfl ?_
      refine lx_move rfl rfl rfl ?_
      refine lx_ext1 rfl rfl (fun w => add64k _ _ 0 _ (by decide) (k1z (b.getD i 0) a (RT a b i)) w) rfl rfl ?_
      refine lx_move rfl rfl rfl ?_
      refine lx_ext rfl rfl rfl rfl ?_
      refine lx_ext rfl rfl rfl rfl ?_
      refine lx_assign rfl rfl rfl ?_
      refine lx_assign rfl rfl rfl ?_
      refine lx_nil ?_
      refine xs_plain (E := EE []) ?_
      refine lx_move rfl rfl rfl ?_
      refine lx_move rfl rfl rfl ?_
      refine lx_bin (v := U64 (KC (b.getD i 0) a (RT a b i) 1)) rfl rfl (fun _ => rfl) (fun w => (bin_add_u64 _ _ _).trans (congrArg (fun z => Result.ok (U64 z) w) (k2z (b.getD i 0) a (RT a b i)))) rfl rfl ?_
      refine lx_assign rfl rfl rfl ?_
      refine lx_nil ?_
      refine xs_plain (E := EE []) ?_
      refine lx_ia0 (1) rfl rfl Tryz.underlying34 Tryz.sizeOf25 (by omega) (by omega) rfl rfl ?_
      refine lx_loadm 2 U64 0 rfl rfl Tryz.isAgg25 (by rw [ha]; omega) rfl rfl ?_
      refine lx_move rfl rfl rfl ?_
      refine lx_call rfl rfl ent153 (mul64_pure _ _) rfl rfl ?_
      refine lx_move rfl rfl rfl ?_
      refine lx_ext rfl rfl rfl rfl ?_
      refine lx_ext rfl rfl rfl rfl ?_
      refine lx_assign rfl rfl rfl ?_
      refine lx_assign rfl rfl rfl ?_
      refine lx_nil ?_
      refine xs_plain (E := EE []) ?_
      refine lx_move rfl rfl rfl ?_
      refine lx_move rfl rfl rfl ?_
      refine lx_ext1 rfl rfl (fun w => add64 _ _ 0 (by decide) w) rfl rfl ?_
      refine lx_move rfl rfl rfl ?_
      refine lx_ext rfl rfl rfl rfl ?_
      refine lx_ext rfl rfl rfl rfl ?_
      refine lx_assign rfl rfl rfl ?_
      refine lx_assign rfl rfl rfl ?_
      refine lx_nil ?_
      refine xs_plain (E := EE []) ?_
      refine lx_move rfl rfl rfl ?_
      refine lx_move rfl rfl rfl ?_
      refine lx_bin rfl rfl (fun _ => rfl) (fun _ => bin_add_u64 _ _ _) rfl rfl ?_
      refine lx_assign rfl rfl rfl ?_
      refine lx_nil ?_
      refine xs_plain (E := EE []) ?_
      refine lx_move rfl rfl rfl ?_
      refine lx_move rfl rfl rfl ?_
      refine lx_ext1 rfl rfl (fun w => add64k _ _ 0 _ (by decide) (k1s (b.getD i 0) a (RT a b i) 1) w) rfl rfl ?_
      refine lx_move rfl rfl rfl ?_
      refine lx_ext rfl rfl rfl rfl ?_
      refine lx_ext rfl rfl rfl rfl ?_
      refine lx_assign rfl rfl rfl ?_
      refine lx_assign rfl rfl rfl ?_
      refine lx_nil ?_
      refine xs_plain (E := EE []) ?_
      refine lx_move rfl rfl rfl ?_
      refine lx_move rfl rfl rfl ?_
      refine lx_bin (v := U64 (KC (b.getD i 0) a (RT a b i) 2)) rfl rfl (fun _ => rfl) (fun w => (bin_add_u64 _ _ _).trans (congrArg (fun z => Result.ok (U64 z) w) (k2s (b.getD i 0) a (RT a b i) 1))) rfl rfl ?_
      refine lx_assign rfl rfl rfl ?_
      refine lx_nil ?_
      refine xs_plain (E := EE []) ?_
      refine lx_ia0 (2) rfl rfl Tryz.underlying34 Tryz.sizeOf25 (by omega) (by omega) rfl rfl ?_
      refine lx_loadm 2 U64 0 rfl rfl Tryz.isAgg25 (by rw [ha]; omega) rfl rfl ?_
      refine lx_move rfl rfl rfl ?_
      refine lx_call rfl rfl ent153 (mul64_pure _ _) rfl rfl ?_
      refine lx_move rfl rfl rfl ?_
      refine lx_ext rfl rfl rfl rfl ?_
      refine lx_ext rfl rfl rfl rfl ?_
      refine lx_assign rfl rfl rfl ?_
      refine lx_assign rfl rfl rfl ?_
      refine lx_nil ?_
      refine xs_plain (E := EE []) ?_
      refine lx_move rfl rfl rfl ?_
      refine lx_move rfl rfl rfl ?_
      refine lx_ext1 rfl rfl (fun w => add64 _ _ 0 (by decide) w) rfl rfl ?_
      refine lx_move rfl rfl rfl ?_
      refine lx_ext rfl rfl rfl rfl ?_
      refine lx_ext rfl rfl rfl rfl ?_
      refine lx_assign rfl rfl rfl ?_
      refine lx_assign rfl rfl rfl ?_
      refine lx_nil ?_
      refine xs_plain (E := EE []) ?_
      refine lx_move rfl rfl rfl ?_
      refine lx_move rfl rfl rfl ?_
      refine lx_bin rfl rfl (fun _ => rfl) (fun _ => bin_add_u64 _ _ _) rfl rfl ?_
      refine lx_assign rfl rfl rfl ?_
      refine lx_nil ?_
      refine xs_plain (E := EE []) ?_
      refine lx_move rfl rfl rfl ?_
      refine lx_move rfl rfl rfl ?_
      refine lx_ext1 rfl rfl (fun w => add64k _ _ 0 _ (by decide) (k1s (b.getD i 0) a (RT a b i) 2) w) rfl rfl ?_
      refine lx_move rfl rfl rfl ?_
      refine lx_ext rfl rfl rfl rfl ?_
      refine lx_ext rfl rfl rfl rfl ?_
      refine lx_assign rfl rfl rfl ?_
      refine lx_assign rfl rfl rfl ?_
      refine lx_nil ?_
      refine xs_plain (E := EE []) ?_
      refine lx_move rfl rfl rfl ?_
      refine lx_move rfl rfl rfl ?_
      refine lx_bin (v := U64 (KC (b.getD i 0) a (RT a b i) 3)) rfl rfl (fun _ => rfl) (fun w => (bin_add_u64 _ _ _).trans (congrArg (fun z => Result.ok (U64 z) w) (k2s (b.getD i 0) a (RT a b i) 2))) rfl rfl ?_
      refine lx_assign rfl rfl rfl ?_
      refine lx_nil ?_
      refine xs_plain (E := EE []) ?_
      refine lx_ia0 (3) rfl rfl Tryz.underlying34 Tryz.sizeOf25 (by omega) (by omega) rfl rfl ?_
      refine lx_loadm 2 U64 0 rfl rfl Tryz.isAgg25 (by rw [ha]; omega) rfl rfl ?_
      refine lx_move rfl rfl rfl ?_
      refine lx_call rfl rfl ent153 (mul64_pure _ _) rfl rfl ?_
      refine lx_move rfl rfl rfl ?_
      refine lx_ext rfl rfl rfl rfl ?_
      refine lx_ext rfl rfl rfl rfl ?_
      refine lx_assign rfl rfl rfl ?_
      refine lx_assign rfl rfl rfl ?_
      refine lx_nil ?_
      refine xs_plain (E := EE []) ?_
      refine lx_move rfl rfl rfl ?_
      refine lx_move rfl rfl rfl ?_
      refine lx_ext1 rfl rfl (fun w => add64 _ _ 0 (by decide) w) rfl rfl ?_
      refine lx_move rfl rfl rfl ?_
      refine lx_ext rfl rfl rfl rfl ?_
      refine lx_ext rfl rfl rfl rfl ?_
      refine lx_assign rfl rfl rfl ?_
      refine lx_assign rfl rfl rfl ?_
      refine lx_nil ?_
      refine xs_plain (E := EE []) ?_
      refine lx_move rfl rfl rfl ?_
      refine lx_move rfl rfl rfl ?_
      refine lx_bin rfl rfl (fun _ => rfl) (fun _ => bin_add_u64 _ _ _) rfl rfl ?_
      refine lx_assign rfl rfl rfl ?_
      refine lx_nil ?_
      refine xs_plain (E := EE []) ?_
      refine lx_move rfl rfl rfl ?_
      refine lx_move rfl rfl rfl ?_
      refine lx_ext1 rfl rfl (fun w => add64k _ _ 0 _ (by decide) (k1s (b.getD i 0) a (RT a b i) 3) w) rfl rfl ?_
      refine lx_move rfl rfl rfl ?_
      refine lx_ext rfl rfl rfl rfl ?_
      refine lx_ext rfl rfl rfl rfl ?_
      refine lx_assign rfl rfl rfl ?_
      refine lx_assign rfl rfl rfl ?_
      refine lx_nil ?_
      refine xs_plain (E := EE []) ?_
      refine lx_move rfl rfl rfl ?_
      refine lx_move rfl rfl rfl ?_
      refine lx_bin (v := U64 (KC (b.getD i 0) a (RT a b i) 4)) rfl rfl (fun _ => rfl) (fun w => (bin_add_u64 _ _ _).trans (congrArg (fun z => Result.ok (U64 z) w) (k2s (b.getD i 0) a (RT a b i) 3))) rfl rfl ?_
      refine lx_assign rfl rfl rfl ?_
      refine lx_nil ?_
      refine xs_plain (E := EE []) ?_
      refine lx_ia0 (4) rfl rfl Tryz.underlying34 Tryz.sizeOf25 (by omega) (by omega) rfl rfl ?_
      refine lx_loadm 2 U64 0 rfl rfl Tryz.isAgg25 (by rw [ha]; omega) rfl rfl ?_
      refine lx_move rfl rfl rfl ?_
      refine lx_call rfl rfl ent153 (mul64_pure _ _) rfl rfl ?_
      refine lx_move rfl rfl rfl ?_
      refine lx_ext rfl rfl rfl rfl ?_
      refine lx_ext rfl rfl rfl rfl ?_
      refine lx_assign rfl rfl rfl ?_
      refine lx_assign rfl rfl rfl ?_
      refine lx_nil ?_
      refine xs_plain (E := EE []) ?_
      refine lx_move rfl rfl rfl ?_
      refine lx_move rfl rfl rfl ?_
      refine lx_ext1 rfl rfl (fun w => add64 _ _ 0 (by decide) w) rfl rfl ?_
      refine lx_move rfl rfl rfl ?_
      refine lx_ext rfl rfl rfl rfl ?_
      refine lx_ext rfl rfl rfl rfl ?_
      refine lx_assign rfl rfl rfl ?_
      refine lx_assign rfl rfl rfl ?_
      refine lx_nil ?_
      refine xs_plain (E := EE []) ?_
      refine lx_move rfl rfl rfl ?_
      refine lx_move rfl rfl rfl ?_
      refine lx_bin rfl rfl (fun _ => rfl) (fun _ => bin_add_u64 _ _ _) rfl rfl ?_
      refine lx_assign rfl rfl rfl ?_
      refine lx_nil ?_
      refine xs_plain (E := EE []) ?_
      refine lx_move rfl rfl rfl ?_
      refine lx_move rfl rfl rfl ?_
      refine lx_ext1 rfl rfl (fun w => add64k _ _ 0 _ (by decide) (k1s (b.getD i 0) a (RT a b i) 4) w) rfl rfl ?_
      refine lx_move rfl rfl rfl ?_
      refine lx_ext rfl rfl rfl rfl ?_
      refine lx_ext rfl rfl rfl rfl ?_
      refine lx_assign rfl rfl rfl ?_
      refine lx_assign rfl rfl rfl ?_
      refine lx_nil ?_
      refine xs_plain (E := EE []) ?_
      refine lx_move rfl rfl rfl ?_
      refine lx_move rfl rfl rfl ?_
      refine lx_bin (v := U64 (KC (b.getD i 0) a (RT a b i) 5)) rfl rfl (fun _ => rfl) (fun w => (bin_add_u64 _ _ _).trans (congrArg (fun z => Result.ok (U64 z) w) (k2s (b.getD i 0) a (RT a b i) 4))) rfl rfl ?_
      refine lx_assign rfl rfl rfl ?_
      refine lx_nil ?_
      refine xs_plain (E := EE []) ?_
      refine lx_ia0 (5) rfl rfl Tryz.underlying34 Tryz.sizeOf25 (by omega) (by omega) rfl rfl ?_
      refine lx_loadm 2 U64 0 rfl rfl Tryz.isAgg25 (by rw [ha]; omega) rfl rfl ?_
      refine lx_move rfl rfl rfl ?_
      refine lx_call rfl rfl ent153 (mul64_pure _ _) rfl rfl ?_
      refine lx_move rfl rfl rfl ?_
      refine lx_ext rfl rfl rfl rfl ?_
      refine lx_ext rfl rfl rfl rfl ?_
      refine lx_assign rfl rfl rfl ?_
      refine lx_assign rfl rfl rfl ?_
      refine lx_nil ?_
      refine xs_plain (E := EE []) ?_
      refine lx_move rfl rfl rfl ?_
      refine lx_move rfl rfl rfl ?_
      refine lx_ext1 rfl rfl (fun w => add64 _ _ 0 (by decide) w) rfl rfl ?_
      refine lx_move rfl rfl rfl ?_
      refine lx_ext rfl rfl rfl rfl ?_
      refine lx_ext rfl rfl rfl rfl ?_
      refine lx_assign rfl rfl rfl ?_
      refine lx_assign rfl rfl rfl ?_
      refine lx_nil ?_
      refine xs_plain (E := EE []) ?_
      refine lx_move rfl rfl rfl ?_
      refine lx_move rfl rfl rfl ?_
      refine lx_bin rfl rfl (fun _ => rfl) (fun _ => bin_add_u64 _ _ _) rfl rfl ?_
      refine lx_assign rfl rfl rfl ?_
      refine lx_nil ?_
      refine xs_plain (E := EE []) ?_
      refine lx_move rfl rfl rfl ?_
      refine lx_move rfl rfl rfl ?_
      refine lx_ext1 rfl rfl (fun w => add64k _ _ 0 _ (by decide) (k1s (b.getD i 0) a (RT a b i) 5) w) rfl rfl ?_
      refine lx_move rfl rfl rfl ?_
      refine lx_ext rfl rfl rfl rfl ?_
      refine lx_ext rfl rfl rfl rfl ?_
      refine lx_assign rfl rfl rfl ?_
      refine lx_assign rfl rfl rfl ?_
      refine lx_nil ?_
      refine xs_plain (E := EE []) ?_
      refine lx_move rfl rfl rfl ?_
      refine lx_move rfl rfl rfl ?_
      refine lx_bin (v := U64 (KC (b.getD i 0) a (RT a b i) 6)) rfl rfl (fun _ => rfl) (fun w => (bin_add_u64 _ _ _).trans (congrArg (fun z => Result.ok (U64 z) w) (k2s (b.getD i 0) a (RT a b i) 5))) rfl rfl ?_
      refine lx_assign rfl rfl rfl ?_
      refine lx_nil ?_
      refine xs_plain (E := EE []) ?_
      refine lx_move rfl rfl rfl ?_
      refine lx_assign rfl rfl rfl ?_
      refine lx_nil ?_
      refine xs_plain (E := EE []) ?_
      refine lx_move rfl rfl rfl ?_
      refine lx_bin (v := U64 (KT (b.getD i 0) a (RT a b i) 0 * INV)) rfl rfl (fun _ => rfl) (fun w => bin_mul_u64 _ _ INV) rfl rfl ?_
      refine lx_assign rfl rfl rfl ?_
      refine lx_nil ?_
      refine xs_plain (E := EE []) ?_
      refine lx_move rfl rfl rfl ?_
      refine lx_call rfl rfl ent153 (mul64_pure _ (PL.getD 0 0)) rfl rfl ?_
      refine lx_move rfl rfl rfl ?_
      refine lx_ext rfl rfl rfl rfl ?_
      refine lx_ext rfl rfl rfl rfl ?_
      refine lx_assign rfl rfl rfl ?_
      refine lx_assign rfl rfl rfl ?_
      refine lx_nil ?_
      refine xs_plain (E := EE []) ?_
      refine lx_move rfl rfl rfl ?_
      refine lx_move rfl rfl rfl ?_
      refine lx_ext1 rfl rfl (fun w => add64 _ _ 0 (by decide) w) rfl rfl ?_
      refine lx_move rfl rfl rfl ?_
      refine lx_ext rfl rfl rfl rfl ?_
      refine lx_ext rfl rfl rfl rfl ?_
      refine lx_assign rfl rfl rfl ?_
      refine lx_nil ?_
      refine xs_plain (E := EE []) ?_
      refine lx_move rfl rfl rfl ?_
      refine lx_move rfl rfl rfl ?_
      refine lx_bin (v := U64 (KD (KT (b.getD i 0) a (RT a b i) 0 * INV) PL (T1 (b.getD i 0) a (RT a b i)) 0)) rfl rfl (fun _ => rfl) (fun w => (bin_add_u64 _ _ _).trans (congrArg (fun z => Result.ok (U64 z) w) (d2z (b.getD i 0) (KT (b.getD i 0) a (RT a b i) 0 * INV) a (RT a b i)))) rfl rfl ?_
      refine lx_assign rfl rfl rfl ?_
      refine lx_nil ?_
      refine xs_plain (E := EE []) ?_
      refine lx_move rfl rfl rfl ?_
      refine lx_call rfl rfl ent153 (mul64_pure _ (PL.getD 1 0)) rfl rfl ?_
      refine lx_move rfl rfl rfl ?_
      refine lx_ext rfl rfl rfl rfl ?_
      refine lx_ext rfl rfl rfl rfl ?_
      refine lx_assign rfl rfl rfl ?_
      refine lx_assign rfl rfl rfl ?_
      refine lx_nil ?_
      refine xs_plain (E := EE []) ?_
      refine lx_move rfl rfl rfl ?_
      refine lx_move rfl rfl rfl ?_
      refine lx_ext1 rfl rfl (fun w => add64 _ _ 0 (by decide) w) rfl rfl ?_
      refine lx_move rfl rfl rfl ?_
      refine lx_ext rfl rfl rfl rfl ?_
      refine lx_ext rfl rfl rfl rfl ?_
      refine lx_assign rfl rfl rfl ?_
      refine lx_assign rfl rfl rfl ?_
      refine lx_nil ?_
      refine xs_plain (E := EE []) ?_
      refine lx_move rfl rfl rfl ?_
      refine lx_move rfl rfl rfl ?_
      refine lx_bin rfl rfl (fun _ => rfl) (fun _ => bin_add_u64 _ _ _) rfl rfl ?_
      refine lx_assign rfl rfl rfl ?_
      refine lx_nil ?_
      refine xs_plain (E := EE []) ?_
      refine lx_move rfl rfl rfl ?_
      refine lx_move rfl rfl rfl ?_
      refine lx_ext1 rfl rfl (fun w => add64k _ _ 0 _ (by decide) (d1s (b.getD i 0) (KT (b.getD i 0) a (RT a b i) 0 * INV) a (RT a b i) 0 (by decide)) w) rfl rfl ?_
      refine lx_move rfl rfl rfl ?_
      refine lx_ext rfl rfl rfl rfl ?_
      refine lx_ext rfl rfl rfl rfl ?_
      refine lx_assign rfl rfl rfl ?_
      refine lx_assign rfl rfl rfl ?_
      refine lx_nil ?_
      refine xs_plain (E := EE []) ?_
      refine lx_move rfl rfl rfl ?_
      refine lx_move rfl rfl rfl ?_
      refine lx_bin (v := U64 (KD (KT (b.getD i 0) a (RT a b i) 0 * INV) PL (T1 (b.getD i 0) a (RT a b i)) 1)) rfl rfl (fun _ => rfl) (fun w => (bin_add_u64 _ _ _).trans (congrArg (fun z => Result.ok (U64 z) w) (d2s (b.getD i 0) (KT (b.getD i 0) a (RT a b i) 0 * INV) a (RT a b i) 0 (by decide)))) rfl rfl ?_
      refine lx_assign rfl rfl rfl ?_
      refine lx_nil ?_
      refine xs_plain (E := EE []) ?_
      refine lx_move rfl rfl rfl ?_
      refine lx_call rfl rfl ent153 (mul64_pure _ (PL.getD 2 0)) rfl rfl ?_
      refine lx_move rfl rfl rfl ?_
      refine lx_ext rfl rfl rfl rfl ?_
      refine lx_ext rfl rfl rfl rfl ?_
      refine lx_assign rfl rfl rfl ?_
      refine lx_assign rfl rfl rfl ?_
      refine lx_nil ?_
      refine xs_plain (E := EE []) ?_
      refine lx_move rfl rfl rfl ?_
      refine lx_move rfl rfl rfl ?_
      refine lx_ext1 rfl rfl (fun w => add64 _ _ 0 (by decide) w) rfl rfl ?_
      refine lx_move rfl rfl rfl ?_
      refine lx_ext rfl rfl rfl rfl ?_
      refine lx_ext rfl rfl rfl rfl ?_
      refine lx_assign rfl rfl rfl ?_
      refine lx_assign rfl rfl rfl ?_
      refine lx_nil ?_
      refine xs_plain (E := EE []) ?_
      refine lx_move rfl rfl rfl ?_
      refine lx_move rfl rfl rfl ?_
      refine lx_bin rfl rfl (fun _ => rfl) (fun _ => bin_add_u64 _ _ _) rfl rfl ?_
      refine lx_assign rfl rfl rfl ?_
      refine lx_nil ?_
      refine xs_plain (E := EE []) ?_
      refine lx_move rfl rfl rfl ?_
      refine lx_move rfl rfl rfl ?_
      refine lx_ext1 rfl rfl (fun w => add64k _ _ 0 _ (by decide) (d1s (b.getD i 0) (KT (b.getD i 0) a (RT a b i) 0 * INV) a (RT a b i) 1 (by decide)) w) rfl rfl ?_
      refine lx_move rfl rfl rfl ?_
      refine lx_ext rfl rfl rfl rfl ?_
      refine lx_ext rfl rfl rfl rfl ?_
      refine lx_assign rfl rfl rfl ?_
      refine lx_assign rfl rfl rfl ?_
      refine lx_nil ?_
      refine xs_plain (E := EE []) ?_
      refine lx_move rfl rfl rfl ?_
      refine lx_move rfl rfl rfl ?_
      refine lx_bin (v := U64 (KD (KT (b.getD i 0) a (RT a b i) 0 * INV) PL (T1 (b.getD i 0) a (RT a b i)) 2)) rfl rfl (fun _ => rfl) (fun w => (bin_add_u64 _ _ _).trans (congrArg (fun z => Result.ok (U64 z) w) (d2s (b.getD i 0) (KT (b.getD i 0) a (RT a b i) 0 * INV) a (RT a b i) 1 (by decide)))) rfl rfl ?_
      refine lx_assign rfl rfl rfl ?_
      refine lx_nil ?_
      refine xs_plain (E := EE []) ?_
      refine lx_move rfl rfl rfl ?_
      refine lx_call rfl rfl ent153 (mul64_pure _ (PL.getD 3 0)) rfl rfl ?_
      refine lx_move rfl rfl rfl ?_
      refine lx_ext rfl rfl rfl rfl ?_
      refine lx_ext rfl rfl rfl rfl ?_
      refine lx_assign rfl rfl rfl ?_
      refine lx_assign rfl rfl rfl ?_
      refine lx_nil ?_
      refine xs_plain (E := EE []) ?_
      refine lx_move rfl rfl rfl ?_
      refine lx_move rfl rfl rfl ?_
      refine lx_ext1 rfl rfl (fun w => add64 _ _ 0 (by decide) w) rfl rfl ?_
      refine lx_move rfl rfl rfl ?_
      refine lx_ext rfl rfl rfl rfl ?_
      refine lx_ext rfl rfl rfl rfl ?_
      refine lx_assign rfl rfl rfl ?_
      refine lx_assign rfl rfl rfl ?_
      refine lx_nil ?_
      refine xs_plain (E := EE []) ?_
      refine lx_move rfl rfl rfl ?_
      refine lx_move rfl rfl rfl ?_
      refine lx_bin rfl rfl (fun _ => rfl) (fun _ => bin_add_u64 _ _ _) rfl rfl ?_
      refine lx_assign rfl rfl rfl ?_
      refine lx_nil ?_
      refine xs_plain (E := EE []) ?_
      refine lx_move rfl rfl rfl ?_
      refine lx_move rfl rfl rfl ?_
      refine lx_ext1 rfl rfl (fun w => add64k _ _ 0 _ (by decide) (d1s (b.getD i 0) (KT (b.getD i 0) a (RT a b i) 0 * INV) a (RT a b i) 2 (by decide)) w) rfl rfl ?_
      refine lx_move rfl rfl rfl ?_
      refine lx_ext rfl rfl rfl rfl ?_
      refine lx_ext rfl rfl rfl rfl ?_
      refine lx_assign rfl rfl rfl ?_
      refine lx_assign rfl rfl rfl ?_
      refine lx_nil ?_
      refine xs_plain (E := EE []) ?_
      refine lx_move rfl rfl rfl ?_
      refine lx_move rfl rfl rfl ?_
      refine lx_bin (v := U64 (KD (KT (b.getD i 0) a (RT a b i) 0 * INV) PL (T1 (b.getD i 0) a (RT a b i)) 3)) rfl rfl (fun _ => rfl) (fun w => (bin_add_u64 _ _ _).trans (congrArg (fun z => Result.ok (U64 z) w) (d2s (b.getD i 0) (KT (b.getD i 0) a (RT a b i) 0 * INV) a (RT a b i) 2 (by decide)))) rfl rfl ?_
      refine lx_assign rfl rfl rfl ?_
      refine lx_nil ?_
      refine xs_plain (E := EE []) ?_
      refine lx_move rfl rfl rfl ?_
      refine lx_call rfl rfl ent153 (mul64_pure _ (PL.getD 4 0)) rfl rfl ?_
      refine lx_move rfl rfl rfl ?_
      refine lx_ext rfl rfl rfl rfl ?_
      refine lx_ext rfl rfl rfl rfl ?_
      refine lx_assign rfl rfl rfl ?_
      refine lx_assign rfl rfl rfl ?_
      refine lx_nil ?_
      refine xs_plain (E := EE []) ?_
      refine lx_move rfl rfl rfl ?_
      refine lx_move rfl rfl rfl ?_
      refine lx_ext1 rfl rfl (fun w => add64 _ _ 0 (by decide) w) rfl rfl ?_
      refine lx_move rfl rfl rfl ?_
      refine lx_ext rfl rfl rfl rfl ?_
      refine lx_ext rfl rfl rfl rfl ?_
      refine lx_assign rfl rfl rfl ?_
      refine lx_assign rfl rfl rfl ?_
      refine lx_nil ?_
      refine xs_plain (E := EE []) ?_
      refine lx_move rfl rfl rfl ?_
      refine lx_move rfl rfl rfl ?_
      refine lx_bin rfl rfl (fun _ => rfl) (fun _ => bin_add_u64 _ _ _) rfl rfl ?_
      refine lx_assign rfl rfl rfl ?_
      refine lx_nil ?_
      refine xs_plain (E := EE []) ?_
      refine lx_move rfl rfl rfl ?_
      refine lx_move rfl rfl rfl ?_
      refine lx_ext1 rfl rfl (fun w => add64k _ _ 0 _ (by decide) (d1s (b.getD i 0) (KT (b.getD i 0) a (RT a b i) 0 * INV) a (RT a b i) 3 (by decide)) w) rfl rfl ?_
      refine lx_move rfl rfl rfl ?_
      refine lx_ext rfl rfl rfl rfl ?_
      refine lx_ext rfl rfl rfl rfl ?_
      refine lx_assign rfl rfl rfl ?_
      refine lx_assign rfl rfl rfl ?_
      refine lx_nil ?_
      refine xs_plain (E := EE []) ?_
      refine lx_move rfl rfl rfl ?_
      refine lx_move rfl rfl rfl ?_
      refine lx_bin (v := U64 (KD (KT (b.getD i 0) a (RT a b i) 0 * INV) PL (T1 (b.getD i 0) a (RT a b i)) 4)) rfl rfl (fun _ => rfl) (fun w => (bin_add_u64 _ _ _).trans (congrArg (fun z => Result.ok (U64 z) w) (d2s (b.getD i 0) (KT (b.getD i 0) a (RT a b i) 0 * INV) a (RT a b i) 3 (by decide)))) rfl rfl ?_
      refine lx_assign rfl rfl rfl ?_
      refine lx_nil ?_
      refine xs_plain (E := EE []) ?_
      refine lx_move rfl rfl rfl ?_
      refine lx_call rfl rfl ent153 (mul64_pure _ (PL.getD 5 0)) rfl rfl ?_
      refine lx_move rfl rfl rfl ?_
      refine lx_ext rfl rfl rfl rfl ?_
      refine lx_ext rfl rfl rfl rfl ?_
      refine lx_assign rfl rfl rfl ?_
      refine lx_assign rfl rfl rfl ?_
      refine lx_nil ?_
      refine xs_plain (E := EE []) ?_
      refine lx_move rfl rfl rfl ?_
      refine lx_move rfl rfl rfl ?_
      refine lx_ext1 rfl rfl (fun w => add64 _ _ 0 (by decide) w) rfl rfl ?_
      refine lx_move rfl rfl rfl ?_
      refine lx_ext rfl rfl rfl rfl ?_
      refine lx_ext rfl rfl rfl rfl ?_
      refine lx_assign rfl rfl rfl ?_
      refine lx_assign rfl rfl rfl ?_
      refine lx_nil ?_
      refine xs_plain (E := EE []) ?_
      refine lx_move rfl rfl rfl ?_
      refine lx_move rfl rfl rfl ?_
      refine lx_bin rfl rfl (fun _ => rfl) (fun _ => bin_add_u64 _ _ _) rfl rfl ?_
      refine lx_assign rfl rfl rfl ?_
      refine lx_nil ?_
      refine xs_plain (E := EE []) ?_
      refine lx_move rfl rfl rfl ?_
      refine lx_move rfl rfl rfl ?_
      refine lx_ext1 rfl rfl (fun w => add64k _ _ 0 _ (by decide) (d1s (b.getD i 0) (KT (b.getD i 0) a (RT a b i) 0 * INV) a (RT a b i) 4 (by decide)) w) rfl rfl ?_
      refine lx_move rfl rfl rfl ?_
      refine lx_ext rfl rfl rfl rfl ?_
      refine lx_ext rfl rfl rfl rfl ?_
      refine lx_assign rfl rfl rfl ?_
      refine lx_assign rfl rfl rfl ?_
      refine lx_nil ?_
      refine xs_plain (E := EE []) ?_
      refine lx_move rfl rfl rfl ?_
      refine lx_move rfl rfl rfl ?_
      refine lx_bin (v := U64 (KD (KT (b.getD i 0) a (RT a b i) 0 * INV) PL (T1 (b.getD i 0) a (RT a b i)) 5)) rfl rfl (fun _ => rfl) (fun w => (bin_add_u64 _ _ _).trans (congrArg (fun z => Result.ok (U64 z) w) (d2s (b.getD i 0) (KT (b.getD i 0) a (RT a b i) 0 * INV) a (RT a b i) 4 (by decide)))) rfl rfl ?_
      refine lx_assign rfl rfl rfl ?_
      refine lx_nil ?_
      refine x_plain (E := EE []) ?_
      refine lx_move rfl rfl rfl ?_
      refine lx_move rfl rfl rfl ?_
      refine lx_bin rfl rfl (fun _ => rfl) (fun _ => bin_add_u64 _ _ _) rfl rfl ?_
      refine lx_assign rfl rfl rfl ?_
      refine lx_nil ?_
      refine x_plain (E := EE []) ?_
      refine lx_move rfl rfl rfl ?_
      refine lx_bin rfl rfl (fun _ => rfl) (fun _ => bin_add_i _ _ _ (by unfold inI; omega)) rfl rfl ?_
      refine lx_assign rfl rfl rfl ?_
      refine lx_nil ?_
      repeat (refine kblk_n ?_)
      refine kseq_n ?_
      exact ⟨rfl, ⟨i + 1, by omega⟩, _, by show 6 - (i + 1) < 6 - i; omega, rfl, ⟨rfl, rfl, rfl, congrArg (fun z => some (U64 z)) (RT_n a b i 0 (by decide)).symm, congrArg (fun z => some (U64 z)) (RT_n a b i 1 (by decide)).symm, congrArg (fun z => some (U64 z)) (RT_n a b i 2 (by decide)).symm, congrArg (fun z => some (U64 z)) (RT_n a b i 3 (by decide)).symm, congrArg (fun z => some (U64 z)) (RT_n a b i 4 (by decide)).symm, congrArg (fun z => some (U64 z)) (RT_top a b i).symm, rfl, trivial⟩, ⟨rfl, rfl, rfl, trivial⟩⟩
    · obtain rfl : i = 6 := by simp at hc; omega
      refine x_exit ?_
      refine xs_plain (E := EE []) ?_
      refine lx_move rfl rfl rfl ?_
      refine lx_move rfl rfl rfl ?_
      refine lx_move rfl rfl rfl ?_
      refine lx_move rfl rfl rfl ?_
      refine lx_move rfl rfl rfl ?_
      refine lx_move rfl rfl rfl ?_
      refine lx_buildr (n := 6) (vs := (RT a b 6).map U64) (congrArg some (six_map (RT a b 6) (RT_len _ _ _))) rfl Tryz.underlying34 Tryz.sizeOf25 Tryz.zeroValue34 (by rw [List.length_map, RT_len]; rfl) (one_u64 _) rfl rfl ?_
      refine lx_allocr 19 hGF zv34 rfl rfl ?_
      intro b19
      refine lx_storea 19 hGF rfl rfl rfl Tryz.sizeOf34 (by rw [List.length_map, RT_len _ _ _]) (by rw [List.length_map, List.length_replicate]) (one_u64 _) rfl ?_
      refine lx_nil ?_
      refine x_seq ?_
      refine xs_drawA (E := EE [2999999]) [0, 1, 2, 3, 4, 5] [⟨6, 20, 34, (List.replicate 6 0#64).map U64⟩] [7, 8] mixed rfl (by kernel_rfl) (by kernel_rfl) (by kernel_rfl) (by kernel_rfl) (by kernel_rfl) (by kernel_rfl) (by decide) (by intro x hx; simp only [List.mem_cons, List.not_mem_nil, or_false] at hx; subst hx; exact isAlloc_mk rfl zv34 rfl) ?_
      refine lx_loada 19 rfl rfl Tryz.isAgg34 Tryz.sizeOf34 (by rw [List.length_map, RT_len _ _ _]) rfl rfl ?_
      refine lx_call rfl rfl ent41 (rp_pure) rfl rfl ?_
      refine lx_call rfl rfl ent92 (rsub_pure _ _ (RT_len _ _ _) rfl) rfl rfl ?_
      refine lx_move rfl rfl rfl ?_
      refine lx_ext rfl rfl rfl rfl ?_
      refine lx_ext rfl rfl rfl rfl ?_
      refine lx_nil ?_
      refine ⟨_, _, rfl, hGF, by intro x hx; simp only [List.mem_cons, List.not_mem_nil, or_false] at hx; subst hx; rfl, by intro x hx; simp only [List.mem_cons, List.not_mem_nil, or_false] at hx; subst hx; rfl, fun adr => ?_⟩
      refine lx_storea 20 hGF rfl rfl rfl Tryz.sizeOf34 (by rw [List.length_map, SS_len _ _ _]) (by rw [List.length_map, List.length_replicate]) (one_u64 _) rfl ?_
      refine lx_assign rfl rfl rfl ?_
      refine lx_nil ?_
      refine xs_plain (E := EE []) ?_
      refine lx_move rfl rfl rfl ?_
      refine lx_bin (v := .bool true) rfl rfl (fun _ => rfl) (fun w => (bin_eql_u64 _ _ _).trans (congrArg (fun b => Result.ok (Value.bool b) w) (beq_iff_eq.2 h0))) rfl rfl ?_
      refine lx_nil ?_
      refine x_true rfl ?_
      refine x_plain (E := EE []) ?_
      refine lx_loada 20 rfl rfl Tryz.isAgg34 Tryz.sizeOf34 (by rw [List.length_map, SS_len _ _ _]) rfl rfl ?_
      refine lx_storea 19 hGF rfl rfl rfl Tryz.sizeOf34 (by rw [List.length_map, SS_len _ _ _]) (by rw [List.length_map, RT_len _ _ _]) (one_u64 _) rfl ?_
      refine lx_nil ?_
      refine xs_plain (E := EE []) ?_
      refine lx_loada 19 rfl rfl Tryz.isAgg34 Tryz.sizeOf34 (by rw [List.length_map, SS_len _ _ _]) rfl rfl ?_
      refine lx_storea 4 hGF rfl rfl rfl Tryz.sizeOf34 (by rw [List.length_map, SS_len _ _ _]) (by rw [List.length_map, List.length_replicate]) (one_u64 _) rfl ?_
      refine lx_nil ?_
      refine x_ret ?_
      repeat (first | refine kseq_ret ?_ | refine kblk_ret ?_)
      exact kret_own 4 rfl rfl rfl Tryz.isAgg34 Tryz.sizeOf34 (by rw [List.length_map, SS_len]) (fun w hw => ⟨by rw [RM, if_pos h0], hp_below hw⟩)
  · skip
    refine xs_plain (E := EE []) ?_
    refine lx_boxr 2 hGF rfl rfl rfl ?_
    intro b2
    refine lx_boxr 3 hGF rfl rfl rfl ?_
    intro b3
    refine lx_allocr 4 hGF zv34 rfl rfl ?_
    intro b4
    refine lx_nil ?_
    refine xs_plain (E := EE []) ?_
    refine lx_assign rfl rfl rfl ?_
    refine lx_assign rfl rfl rfl ?_
    refine lx_assign rfl rfl rfl ?_
    refine lx_assign rfl rfl rfl ?_
    refine lx_assign rfl rfl rfl ?_
    refine lx_assign rfl rfl rfl ?_
    refine lx_nil ?_
    refine x_seq ?_
    refine xs_plain (E := EE []) ?_
    refine lx_assign rfl rfl rfl ?_
    refine lx_nil ?_
    refine x_block ?_
    refine x_for (ι := { i : Nat // i ≤ 6 }) (fun x => [(2, .pointer (some ⟨b2, 0, none⟩)), (3, .pointer (some ⟨b3, 0, none⟩)), (4, .pointer (some ⟨b4, 0, none⟩)), (5, U64 ((RT a b x.1).getD 0 0)), (6, U64 ((RT a b x.1).getD 1 0)), (7, U64 ((RT a b x.1).getD 2 0)), (8, U64 ((RT a b x.1).getD 3 0)), (9, U64 ((RT a b x.1).getD 4 0)), (10, U64 ((RT a b x.1).getD 5 0)), (11, I (x.1 : Int))]) (fun x => [(2, b2, a.map U64, 34), (3, b3, b.map U64, 34), (4, b4, (List.replicate 6 0#64).map U64, 34)]) (fun x => 6 - x.1) ⟨0, by omega⟩ hGF ⟨rfl, rfl, rfl, rfl, rfl, rfl, rfl, rfl, rfl, rfl, trivial⟩ ⟨rfl, rfl, rfl, trivial⟩ ?_
    rintro ⟨i, hi⟩
    dsimp only
    refine x_seq ?_
    refine xs_plain (E := EE []) ?_
    refine lx_move rfl rfl rfl ?_
    refine lx_bin rfl rfl (fun _ => rfl) (fun _ => bin_lss_i _ _ _) rfl rfl ?_
    refine lx_nil ?_
    refine x_if rfl (fun hc => ?_) (fun hc => ?_)
    · simp only [decide_eq_true_eq] at hc
      refine x_skip ?_
      refine x_seq ?_
      refine x_block ?_
      refine xs_plain (E := EE []) ?_
      refine lx_assign rfl rfl rfl ?_
      refine lx_assign rfl rfl rfl ?_
      refine lx_assign rfl rfl rfl ?_
      refine lx_assign rfl rfl rfl ?_
      refine lx_nil ?_
      refine xs_plain (E := EE []) ?_
      refine lx_move rfl rfl rfl ?_
      refine lx_ia0 (i) rfl rfl Tryz.underlying34 Tryz.sizeOf25 (by omega) (by omega) rfl rfl ?_
      refine lx_loadm 3 U64 0 rfl rfl Tryz.isAgg25 (by rw [hb]; omega) rfl rfl ?_
      refine lx_assign rfl rfl rfl ?_
      refine lx_nil ?_
      refine xs_plain (E := EE []) ?_
      refine lx_ia0 (0) rfl rfl Tryz.underlying34 Tryz.sizeOf25 (by omega) (by omega) rfl rfl ?_
      refine lx_loadm 2 U64 0 rfl rfl Tryz.isAgg25 (by rw [ha]; omega) rfl rfl ?_
      refine lx_move rfl rfl rfl ?_
      refine lx_call rfl rfl ent153 (mul64_pure _ _) rfl rfl ?_
      refine lx_move rfl rfl rfl ?_
      refine lx_ext rfl rfl rfl rfl ?_
      refine lx_ext rfl rfl rfl rfl ?_
      refine lx_assign rfl rfl rfl ?_
      refine lx_assign rfl rfl rfl ?_
      refine lx_nil ?_
      refine xs_plain (E := EE []) ?_
      refine lx_move rfl rfl rfl ?_
      refine lx_move rfl rfl rfl ?_
      refine lx_ext1 rfl rfl (fun w => add64k _ _ 0 _ (by decide) (k1z (b.getD i 0) a (RT a b i)) w) rfl rfl ?_
      refine lx_move rfl rfl rfl ?_
      refine lx_ext rfl rfl rfl rfl ?_
      refine lx_ext rfl rfl rfl rfl ?_
      refine lx_assign rfl rfl rfl ?_
      refine lx_assign rfl rfl rfl ?_
      refine lx_nil ?_
      refine xs_plain (E := EE []) ?_
      refine lx_move rfl rfl rfl ?_
      refine lx_move rfl rfl rfl ?_
      refine lx_bin (v := U64 (KC (b.getD i 0) a (RT a b i) 1)) rfl rfl (fun _ => rfl) (fun w => (bin_add_u64 _ _ _).trans (congrArg (fun z => Result.ok (U64 z) w) (k2z (b.getD i 0) a (RT a b i)))) rfl rfl ?_
      refine lx_assign rfl rfl rfl ?_
      refine lx_nil ?_
      refine xs_plain (E := EE []) ?_
      refine lx_ia0 (1) rfl rfl Tryz.underlying34 Tryz.sizeOf25 (by omega) (by omega) rfl rfl ?_
      refine lx_loadm 2 U64 0 rfl rfl Tryz.isAgg25 (by rw [ha]; omega) rfl rfl ?_
      refine lx_move rfl rfl rfl ?_
      refine lx_call rfl rfl ent153 (mul64_pure _ _) rfl rfl ?_
      refine lx_move rfl rfl rfl ?_
      refine lx_ext rfl rfl rfl rfl ?_
      refine lx_ext rfl rfl rfl rfl ?_
      refine lx_assign rfl rfl rfl ?_
      refine lx_assign rfl rfl rfl ?_
      refine lx_nil ?_
      refine xs_plain (E := EE []) ?_
      refine lx_move rfl rfl rfl ?_
      refine lx_move rfl rfl rfl ?_
      refine lx_ext1 rfl rfl (fun w => add64 _ _ 0 (by decide) w) rfl rfl ?_
      refine lx_move rfl rfl rfl ?_
      refine lx_ext rfl rfl rfl rfl ?_
      refine lx_ext rfl rfl rfl rfl ?_
      refine lx_assign rfl rfl rfl ?_
      refine lx_assign rfl rfl rfl ?_
      refine lx_nil ?_
      refine xs_plain (E := EE []) ?_
      refine lx_move rfl rfl rfl ?_
      refine lx_move rfl rfl rfl ?_
      refine lx_bin rfl rfl (fun _ => rfl) (fun _ => bin_add_u64 _ _ _) rfl rfl ?_
      refine lx_assign rfl rfl rfl ?_
      refine lx_nil ?_
      refine xs_plain (E := EE []) ?_
      refine lx_move rfl rfl rfl ?_
      refine lx_move rfl rfl rfl ?_
      refine lx_ext1 rfl rfl (fun w => add64k _ _ 0 _ (by decide) (k1s (b.getD i 0) a (RT a b i) 1) w) rfl rfl ?_
      refine lx_move rfl rfl rfl ?_
      refine lx_ext rfl rfl rfl rfl ?_
      refine lx_ext rfl rfl rfl rfl ?_
      refine lx_assign rfl rfl rfl ?_
      refine lx_assign rfl rfl rfl ?_
      refine lx_nil ?_
      refine xs_plain (E := EE []) ?_
      refine lx_move rfl rfl rfl ?_
      refine lx_move rfl rfl rfl ?_
      refine lx_bin (v := U64 (KC (b.getD i 0) a (RT a b i) 2)) rfl rfl (fun _ => rfl) (fun w => (bin_add_u64 _ _ _).trans (congrArg (fun z => Result.ok (U64 z) w) (k2s (b.getD i 0) a (RT a b i) 1))) rfl rfl ?_
      refine lx_assign rfl rfl rfl ?_
      refine lx_nil ?_
      refine xs_plain (E := EE []) ?_
      refine lx_ia0 (2) rfl rfl Tryz.underlying34 Tryz.sizeOf25 (by omega) (by omega) rfl rfl ?_
      refine lx_loadm 2 U64 0 rfl rfl Tryz.isAgg25 (by rw [ha]; omega) rfl rfl ?_
      refine lx_move rfl rfl rfl ?_
      refine lx_call rfl rfl ent153 (mul64_pure _ _) rfl rfl ?_
      refine lx_move rfl rfl rfl ?_
      refine lx_ext rfl rfl rfl rfl ?_
      refine lx_ext rfl rfl rfl rfl ?_
      refine lx_assign rfl rfl rfl ?_
      refine lx_assign rfl rfl rfl ?_
      refine lx_nil ?_
      refine xs_plain (E := EE []) ?_
      refine lx_move rfl rfl rfl ?_
      refine lx_move rfl rfl rfl ?_
      refine lx_ext1 rfl rfl (fun w => add64 _ _ 0 (by decide) w) rfl rfl ?_
      refine lx_move rfl rfl rfl ?_
      refine lx_ext rfl rfl rfl rfl ?_
      refine lx_ext rfl rfl rfl rfl ?_
      refine lx_assign rfl rfl rfl ?_
      refine lx_assign rfl rfl rfl ?_
      refine lx_nil ?_
      refine xs_plain (E := EE []) ?_
      refine lx_move rfl rfl rfl ?_
      refine lx_move rfl rfl rfl ?_
      refine lx_bin rfl rfl (fun _ => rfl) (fun _ => bin_add_u64 _ _ _) rfl rfl ?_
      refine lx_assign rfl rfl rfl ?_
      refine lx_nil ?_
      refine xs_plain (E := EE []) ?_
      refine lx_move rfl rfl rfl ?_
      refine lx_move rfl rfl rfl ?_
      refine lx_ext1 rfl rfl (fun w => add64k _ _ 0 _ (by decide) (k1s (b.getD i 0) a (RT a b i) 2) w) rfl rfl ?_
      refine lx_move rfl rfl rfl ?_
      refine lx_ext rfl rfl rfl rfl ?_
      refine lx_ext rfl rfl rfl rfl ?_
      refine lx_assign rfl rfl rfl ?_
      refine lx_assign rfl rfl rfl ?_
      refine lx_nil ?_
      refine xs_plain (E := EE []) ?_
      refine lx_move rfl rfl rfl ?_
      refine lx_move rfl rfl rfl ?_
      refine lx_bin (v := U64 (KC (b.getD i 0) a (RT a b i) 3)) rfl rfl (fun _ => rfl) (fun w => (bin_add_u64 _ _ _).trans (congrArg (fun z => Result.ok (U64 z) w) (k2s (b.getD i 0) a (RT a b i) 2))) rfl rfl ?_
      refine lx_assign rfl rfl rfl ?_
      refine lx_nil ?_
      refine xs_plain (E := EE []) ?_
      refine lx_ia0 (3) rfl rfl Tryz.underlying34 Tryz.sizeOf25 (by omega) (by omega) rfl rfl ?_
      refine lx_loadm 2 U64 0 rfl rfl Tryz.isAgg25 (by rw [ha]; omega) rfl rfl ?_
      refine lx_move rfl rfl rfl ?_
      refine lx_call rfl rfl ent153 (mul64_pure _ _) rfl rfl ?_
      refine lx_move rfl rfl rfl ?_
      refine lx_ext rfl rfl rfl rfl ?_
      refine lx_ext rfl rfl rfl rfl ?_
      refine lx_assign rfl rfl rfl ?_
      refine lx_assign rfl rfl rfl ?_
      refine lx_nil ?_
      refine xs_plain (E := EE []) ?_
      refine lx_move rfl rfl rfl ?_
      refine lx_move rfl rfl rfl ?_
      refine lx_ext1 rfl rfl (fun w => add64 _ _ 0 (by decide) w) rfl rfl ?_
      refine lx_move rfl rfl rfl ?_
      refine lx_ext rfl rfl rfl rfl ?_
      refine lx_ext rfl rfl rfl rfl ?_
      refine lx_assign rfl rfl rfl ?_
      refine lx_assign rfl rfl rfl ?_
      refine lx_nil ?_
      refine xs_plain (E := EE []) ?_
      refine lx_move rfl rfl rfl ?_
      refine lx_move rfl rfl rfl ?_
      refine lx_bin rfl rfl (fun _ => rfl) (fun _ => bin_add_u64 _ _ _) rfl rfl ?_
      refine lx_assign rfl rfl rfl ?_
      refine lx_nil ?_
      refine xs_plain (E := EE []) ?_
      refine lx_move rfl rfl rfl ?_
      refine lx_move rfl rfl rfl ?_
      refine lx_ext1 rfl rfl (fun w => add64k _ _ 0 _ (by decide) (k1s (b.getD i 0) a (RT a b i) 3) w) rfl rfl ?_
      refine lx_move rfl rfl rfl ?_
      refine lx_ext rfl rfl rfl rfl ?_
      refine lx_ext rfl rfl rfl rfl ?_
      refine lx_assign rfl rfl rfl ?_
      refine lx_assign rfl rfl rfl ?_
      refine lx_nil ?_
      refine xs_plain (E := EE []) ?_
      refine lx_move rfl rfl rfl ?_
      refine lx_move rfl rfl rfl ?_
      refine lx_bin (v := U64 (KC (b.getD i 0) a (RT a b i) 4)) rfl rfl (fun _ => rfl) (fun w => (bin_add_u64 _ _ _).trans (congrArg (fun z => Result.ok (U64 z) w) (k2s (b.getD i 0) a (RT a b i) 3))) rfl rfl ?_
      refine lx_assign rfl rfl rfl ?_
      refine lx_nil ?_
      refine xs_plain (E := EE []) ?_
      refine lx_ia0 (4) rfl rfl Tryz.underlying34 Tryz.sizeOf25 (by omega) (by omega) rfl rfl ?_
      refine lx_loadm 2 U64 0 rfl rfl Tryz.isAgg25 (by rw [ha]; omega) rfl rfl ?_
      refine lx_move rfl rfl rfl ?_
      refine lx_call rfl rfl ent153 (mul64_pure _ _) rfl rfl ?_
      refine lx_move rfl rfl rfl ?_
      refine lx_ext rfl rfl rfl rfl ?_
      refine lx_ext rfl rfl rfl rfl ?_
      refine lx_assign rfl rfl rfl ?_
      refine lx_assign rfl rfl rfl ?_
      refine lx_nil ?_
      refine xs_plain (E := EE []) ?_
      refine lx_move rfl rfl rfl ?_
      refine lx_move rfl rfl rfl ?_
      refine lx_ext1 rfl rfl (fun w => add64 _ _ 0 (by decide) w) rfl rfl ?_
      refine lx_move rfl rfl rfl ?_
      refine lx_ext rfl rfl rfl rfl ?_
      refine lx_ext rfl rfl rfl rfl ?_
      refine lx_assign rfl rfl rfl ?_
      refine lx_assign rfl rfl rfl ?_
      refine lx_nil ?_
      refine xs_plain (E := EE []) ?_
      refine lx_move rfl rfl rfl ?_
      refine lx_move rfl rfl rfl ?_
      refine lx_bin rfl rfl (fun _ => rfl) (fun _ => bin_add_u64 _ _ _) rfl rfl ?_
      refine lx_assign rfl rfl rfl ?_
      refine lx_nil ?_
      refine xs_plain (E := EE []) ?_
      refine lx_move rfl rfl rfl ?_
      refine lx_move rfl rfl rfl ?_
      refine lx_ext1 rfl rfl (fun w => add64k _ _ 0 _ (by decide) (k1s (b.getD i 0) a (RT a b i) 4) w) rfl rfl ?_
      refine lx_move rfl rfl rfl ?_
      refine lx_ext rfl rfl rfl rfl ?_
      refine lx_ext rfl rfl rfl rfl ?_
      refine lx_assign rfl rfl rfl ?_
      refine lx_assign rfl rfl rfl ?_
      refine lx_nil ?_
      refine xs_plain (E := EE []) ?_
      refine lx_move rfl rfl rfl ?_
      refine lx_move rfl rfl rfl ?_
      refine lx_bin (v := U64 (KC (b.getD i 0) a (RT a b i) 5)) rfl rfl (fun _ => rfl) (fun w => (bin_add_u64 _ _ _).trans (congrArg (fun z => Result.ok (U64 z) w) (k2s (b.getD i 0) a (RT a b i) 4))) rfl rfl ?_
      refine lx_assign rfl rfl rfl ?_
      refine lx_nil ?_
      refine xs_plain (E := EE []) ?_
      refine lx_ia0 (5) rfl rfl Tryz.underlying34 Tryz.sizeOf25 (by omega) (by omega) rfl rfl ?_
      refine lx_loadm 2 U64 0 rfl rfl Tryz.isAgg25 (by rw [ha]; omega) rfl rfl ?_
      refine lx_move rfl rfl rfl ?_
      refine lx_call rfl rfl ent153 (mul64_pure _ _) rfl rfl ?_
      refine lx_move rfl rfl rfl ?_
      refine lx_ext rfl rfl rfl rfl ?_
      refine lx_ext rfl rfl rfl rfl ?_
      refine lx_assign rfl rfl rfl ?_
      refine lx_assign rfl rfl rfl ?_
      refine lx_nil ?_
      refine xs_plain (E := EE []) ?_
      refine lx_move rfl rfl rfl ?_
      refine lx_move rfl rfl rfl ?_
      refine lx_ext1 rfl rfl (fun w => add64 _ _ 0 (by decide) w) rfl rfl ?_
      refine lx_move rfl rfl rfl ?_
      refine lx_ext rfl rfl rfl rfl ?_
      refine lx_ext rfl rfl rfl rfl ?_
      refine lx_assign rfl rfl rfl ?_
      refine lx_assign rfl rfl rfl ?_
      refine lx_nil ?_
      refine xs_plain (E := EE []) ?_
      refine lx_move rfl rfl rfl ?_
      refine lx_move rfl rfl rfl ?_
      refine lx_bin rfl rfl (fun _ => rfl) (fun _ => bin_add_u64 _ _ _) rfl rfl ?_
      refine lx_assign rfl rfl rfl ?_
      refine lx_nil ?_
      refine xs_plain (E := EE []) ?_
      refine lx_move rfl rfl rfl ?_
      refine lx_move rfl rfl rfl ?_
      refine lx_ext1 rfl rfl (fun w => add64k _ _ 0 _ (by decide) (k1s (b.getD i 0) a (RT a b i) 5) w) rfl rfl ?_
      refine lx_move rfl rfl rfl ?_
      refine lx_ext rfl rfl rfl rfl ?_
      refine lx_ext rfl rfl rfl rfl ?_
      refine lx_assign rfl rfl rfl ?_
      refine lx_assign rfl rfl rfl ?_
      refine lx_nil ?_
      refine xs_plain (E := EE []) ?_
      refine lx_move rfl rfl rfl ?_
      refine lx_move rfl rfl rfl ?_
      refine lx_bin (v := U64 (KC (b.getD i 0) a (RT a b i) 6)) rfl rfl (fun _ => rfl) (fun w => (bin_add_u64 _ _ _).trans (congrArg (fun z => Result.ok (U64 z) w) (k2s (b.getD i 0) a (RT a b i) 5))) rfl rfl ?_
      refine lx_assign rfl rfl rfl ?_
      refine lx_nil ?_
      refine xs_plain (E := EE []) ?_
      refine lx_move rfl rfl rfl ?_
      refine lx_assign rfl rfl rfl ?_
      refine lx_nil ?_
      refine xs_plain (E := EE []) ?_
      refine lx_move rfl rfl rfl ?_
      refine lx_bin (v := U64 (KT (b.getD i 0) a (RT a b i) 0 * INV)) rfl rfl (fun _ => rfl) (fun w => bin_mul_u64 _ _ INV) rfl rfl ?_
      refine lx_assign rfl rfl rfl ?_
      refine lx_nil ?_
      refine xs_plain (E := EE []) ?_
      refine lx_move rfl rfl rfl ?_
      refine lx_call rfl rfl ent153 (mul64_pure _ (PL.getD 0 0)) rfl rfl ?_
      refine lx_move rfl rfl rfl ?_
      refine lx_ext rfl rfl rfl rfl ?_
      refine lx_ext rfl rfl rfl rfl ?_
      refine lx_assign rfl rfl rfl ?_
      refine lx_assign rfl rfl rfl ?_
      refine lx_nil ?_
      refine xs_plain (E := EE []) ?_
      refine lx_move rfl rfl rfl ?_
      refine lx_move rfl rfl rfl ?_
      refine lx_ext1 rfl rfl (fun w => add64 _ _ 0 (by decide) w) rfl rfl ?_
      refine lx_move rfl rfl rfl ?_
      refine lx_ext rfl rfl rfl rfl ?_
      refine lx_ext rfl rfl rfl rfl ?_
      refine lx_assign rfl rfl rfl ?_
      refine lx_nil ?_
      refine xs_plain (E := EE []) ?_
      refine lx_move rfl rfl rfl ?_
      refine lx_move rfl rfl rfl ?_
      refine lx_bin (v := U64 (KD (KT (b.getD i 0) a (RT a b i) 0 * INV) PL (T1 (b.getD i 0) a (RT a b i)) 0)) rfl rfl (fun _ => rfl) (fun w => (bin_add_u64 _ _ _).trans (congrArg (fun z => Result.ok (U64 z) w) (d2z (b.getD i 0) (KT (b.getD i 0) a (RT a b i) 0 * INV) a (RT a b i)))) rfl rfl ?_
      refine lx_assign rfl rfl rfl ?_
      refine lx_nil ?_
      refine xs_plain (E := EE []) ?_
      refine lx_move rfl rfl rfl ?_
      refine lx_call rfl rfl ent153 (mul64_pure _ (PL.getD 1 0)) rfl rfl ?_
      refine lx_move rfl rfl rfl ?_
      refine lx_ext rfl rfl rfl rfl ?_
      refine lx_ext rfl rfl rfl rfl ?_
      refine lx_assign rfl rfl rfl ?_
      refine lx_assign rfl rfl rfl ?_
      refine lx_nil ?_
      refine xs_plain (E := EE []) ?_
      refine lx_move rfl rfl rfl ?_
      refine lx_move rfl rfl rfl ?_
      refine lx_ext1 rfl rfl (fun w => add64 _ _ 0 (by decide) w) rfl rfl ?_
      refine lx_move rfl rfl rfl ?_
      refine lx_ext rfl rfl rfl rfl ?_
      refine lx_ext rfl rfl rfl rfl ?_
      refine lx_assign rfl rfl rfl ?_
      refine lx_assign rfl rfl rfl ?_
      refine lx_nil ?_
      refine xs_plain (E := EE []) ?_
      refine lx_move rfl rfl rfl ?_
      refine lx_move rfl rfl rfl ?_
      refine lx_bin rfl rfl (fun _ => rfl) (fun _ => bin_add_u64 _ _ _) rfl rfl ?_
      refine lx_assign rfl rfl rfl ?_
      refine lx_nil ?_
      refine xs_plain (E := EE []) ?_
      refine lx_move rfl rfl rfl ?_
      refine lx_move rfl rfl rfl ?_
      refine lx_ext1 rfl rfl (fun w => add64k _ _ 0 _ (by decide) (d1s (b.getD i 0) (KT (b.getD i 0) a (RT a b i) 0 * INV) a (RT a b i) 0 (by decide)) w) rfl rfl ?_
      refine lx_move rfl rfl rfl ?_
      refine lx_ext rfl rfl rfl rfl ?_
      refine lx_ext rfl rfl rfl rfl ?_
      refine lx_assign rfl rfl rfl ?_
      refine lx_assign rfl rfl rfl ?_
      refine lx_nil ?_
      refine xs_plain (E := EE []) ?_
      refine lx_move rfl rfl rfl ?_
      refine lx_move rfl rfl rfl ?_
      refine lx_bin (v := U64 (KD (KT (b.getD i 0) a (RT a b i) 0 * INV) PL (T1 (b.getD i 0) a (RT a b i)) 1)) rfl rfl (fun _ => rfl) (fun w => (bin_add_u64 _ _ _).trans (congrArg (fun z => Result.ok (U64 z) w) (d2s (b.getD i 0) (KT (b.getD i 0) a (RT a b i) 0 * INV) a (RT a b i) 0 (by decide)))) rfl rfl ?_
      refine lx_assign rfl rfl rfl ?_
      refine lx_nil ?_
      refine xs_plain (E := EE []) ?_
      refine lx_move rfl rfl rfl ?_
      refine lx_call rfl rfl ent153 (mul64_pure _ (PL.getD 2 0)) rfl rfl ?_
      refine lx_move rfl rfl rfl ?_
      refine lx_ext rfl rfl rfl rfl ?_
      refine lx_ext rfl rfl rfl rfl ?_
      refine lx_assign rfl rfl rfl ?_
      refine lx_assign rfl rfl rfl ?_
      refine lx_nil ?_
      refine xs_plain (E := EE []) ?_
      refine lx_move rfl rfl rfl ?_
      refine lx_move rfl rfl rfl ?_
      refine lx_ext1 rfl rfl (fun w => add64 _ _ 0 (by decide) w) rfl rfl ?_
      refine lx_move rfl rfl rfl ?_
      refine lx_ext rfl rfl rfl rfl ?_
      refine lx_ext rfl rfl rfl rfl ?_
      refine lx_assign rfl rfl rfl ?_
      refine lx_assign rfl rfl rfl ?_
      refine lx_nil ?_
      refine xs_plain (E := EE []) ?_
      refine lx_move rfl rfl rfl ?_
      refine lx_move rfl rfl rfl ?_
      refine lx_bin rfl rfl (fun _ => rfl) (fun _ => bin_add_u64 _ _ _) rfl rfl ?_
      refine lx_assign rfl rfl rfl ?_
      refine lx_nil ?_
      refine xs_plain (E := EE []) ?_
      refine lx_move rfl rfl rfl ?_
      refine lx_move rfl rfl rfl ?_
      refine lx_ext1 rfl rfl (fun w => add64k _ _ 0 _ (by decide) (d1s (b.getD i 0) (KT (b.getD i 0) a (RT a b i) 0 * INV) a (RT a b i) 1 (by decide)) w) rfl rfl ?_
      refine lx_move rfl rfl rfl ?_
      refine lx_ext rfl rfl rfl rfl ?_
      refine lx_ext rfl rfl rfl rfl ?_
      refine lx_assign rfl rfl rfl ?_
      refine lx_assign rfl rfl rfl ?_
      refine lx_nil ?_
      refine xs_plain (E := EE []) ?_
      refine lx_move rfl rfl rfl ?_
      refine lx_move rfl rfl rfl ?_
      refine lx_bin (v := U64 (KD (KT (b.getD i 0) a (RT a b i) 0 * INV) PL (T1 (b.getD i 0) a (RT a b i)) 2)) rfl rfl (fun _ => rfl) (fun w => (bin_add_u64 _ _ _).trans (congrArg (fun z => Result.ok (U64 z) w) (d2s (b.getD i 0) (KT (b.getD i 0) a (RT a b i) 0 * INV) a (RT a b i) 1 (by decide)))) rfl rfl ?_
      refine lx_assign rfl rfl rfl ?_
      refine lx_nil ?_
      refine xs_plain (E := EE []) ?_
      refine lx_move rfl rfl rfl ?_
      refine lx_call rfl rfl ent153 (mul64_pure _ (PL.getD 3 0)) rfl rfl ?_
      refine lx_move rfl rfl rfl ?_
      refine lx_ext rfl rfl rfl rfl ?_
      refine lx_ext rfl rfl rfl rfl ?_
      refine lx_assign rfl rfl rfl ?_
      refine lx_assign rfl rfl rfl ?_
      refine lx_nil ?_
      refine xs_plain (E := EE []) ?_
      refine lx_move rfl rfl rfl ?_
      refine lx_move rfl rfl rfl ?_
      refine lx_ext1 rfl rfl (fun w => add64 _ _ 0 (by decide) w) rfl rfl ?_
      refine lx_move rfl rfl rfl ?_
      refine lx_ext rfl rfl rfl rfl ?_
      refine lx_ext rfl rfl rfl rfl ?_
      refine lx_assign rfl rfl rfl ?_
      refine lx_assign rfl rfl rfl ?_
      refine lx_nil ?_
      refine xs_plain (E := EE []) ?_
      refine lx_move rfl rfl rfl ?_
      refine lx_move rfl rfl rfl ?_
      refine lx_bin rfl rfl (fun _ => rfl) (fun _ => bin_add_u64 _ _ _) rfl rfl ?_
      refine lx_assign rfl rfl rfl ?_
      refine lx_nil ?_
      refine xs_plain (E := EE []) ?_
      refine lx_move rfl rfl rfl ?_
      refine lx_move rfl rfl rfl ?_
      refine lx_ext1 rfl rfl (fun w => add64k _ _ 0 _ (by decide) (d1s (b.getD i 0) (KT (b.getD i 0) a (RT a b i) 0 * INV) a (RT a b i) 2 (by decide)) w) rfl rfl ?_
      refine lx_move rfl rfl rfl ?_
      refine lx_ext rfl rfl rfl rfl ?_
      refine lx_ext rfl rfl rfl rfl ?_
      refine lx_assign rfl rfl rfl ?_
      refine lx_assign rfl rfl rfl ?_
      refine lx_nil ?_
      refine xs_plain (E := EE []) ?_
      refine lx_move rfl rfl rfl ?_
      refine lx_move rfl rfl rfl ?_
      refine lx_bin (v := U64 (KD (KT (b.getD i 0) a (RT a b i) 0 * INV) PL (T1 (b.getD i 0) a (RT a b i)) 3)) rfl rfl (fun _ => rfl) (fun w => (bin_add_u64 _ _ _).trans (congrArg (fun z => Result.ok (U64 z) w) (d2s (b.getD i 0) (KT (b.getD i 0) a (RT a b i) 0 * INV) a (RT a b i) 2 (by decide)))) rfl rfl ?_
      refine lx_assign rfl rfl rfl ?_
      refine lx_nil ?_
      refine xs_plain (E := EE []) ?_
      refine lx_move rfl rfl rfl ?_
      refine lx_call rfl rfl ent153 (mul64_pure _ (PL.getD 4 0)) rfl rfl ?_
      refine lx_move rfl rfl rfl ?_
      refine lx_ext rfl rfl rfl rfl ?_
      refine lx_ext rfl rfl rfl rfl ?_
      refine lx_assign rfl rfl rfl ?_
      refine lx_assign rfl rfl rfl ?_
      refine lx_nil ?_
      refine xs_plain (E := EE []) ?_
      refine lx_move rfl rfl rfl ?_
      refine lx_move rfl rfl rfl ?_
      refine lx_ext1 rfl rfl (fun w => add64 _ _ 0 (by decide) w) rfl rfl ?_
      refine lx_move rfl rfl rfl ?_
      refine lx_ext rfl rfl rfl rfl ?_
      refine lx_ext rfl rfl rfl rfl ?_
      refine lx_assign rfl rfl rfl ?_
      refine lx_assign rfl rfl rfl ?_
      refine lx_nil ?_
      refine xs_plain (E := EE []) ?_
      refine lx_move rfl rfl rfl ?_
      refine lx_move rfl rfl rfl ?_
      refine lx_bin rfl rfl (fun _ => rfl) (fun _ => bin_add_u64 _ _ _) rfl rfl ?_
      refine lx_assign rfl rfl rfl ?_
      refine lx_nil ?_
      refine xs_plain (E := EE []) ?_
      refine lx_move rfl rfl rfl ?_
      refine lx_move rfl rfl rfl ?_
      refine lx_ext1 rfl rfl (fun w => add64k _ _ 0 _ (by decide) (d1s (b.getD i 0) (KT (b.getD i 0) a (RT a b i) 0 * INV) a (RT a b i) 3 (by decide)) w) rfl rfl ?_
      refine lx_move rfl rfl rfl ?_
      refine lx_ext rfl rfl rfl rfl ?_
      refine lx_ext rfl rfl rfl rfl ?_
      refine lx_assign rfl rfl rfl ?_
      refine lx_assign rfl rfl rfl ?_
      refine lx_nil ?_
      refine xs_plain (E := EE []) ?_
      refine lx_move rfl rfl rfl ?_
      refine lx_move rfl rfl rfl ?_
      refine lx_bin (v := U64 (KD (KT (b.getD i 0) a (RT a b i) 0 * INV) PL (T1 (b.getD i 0) a (RT a b i)) 4)) rfl rfl (fun _ => rfl) (fun w => (bin_add_u64 _ _ _).trans (congrArg (fun z => Result.ok (U64 z) w) (d2s (b.getD i 0) (KT (b.getD i 0) a (RT a b i) 0 * INV) a (RT a b i) 3 (by decide)))) rfl rfl ?_
      refine lx_assign rfl rfl rfl ?_
      refine lx_nil ?_
      refine xs_plain (E := EE []) ?_
      refine lx_move rfl rfl rfl ?_
      refine lx_call rfl rfl ent153 (mul64_pure _ (PL.getD 5 0)) rfl rfl ?_
      refine lx_move rfl rfl rfl ?_
      refine lx_ext rfl rfl rfl rfl ?_
      refine lx_ext rfl rfl rfl rfl ?_
      refine lx_assign rfl rfl rfl ?_
      refine lx_assign rfl rfl rfl ?_
      refine lx_nil ?_
      refine xs_plain (E := EE []) ?_
      refine lx_move rfl rfl rfl ?_
      refine lx_move rfl rfl rfl ?_
      refine lx_ext1 rfl rfl (fun w => add64 _ _ 0 (by decide) w) rfl rfl ?_
      refine lx_move rfl rfl rfl ?_
      refine lx_ext rfl rfl rfl rfl ?_
      refine lx_ext rfl rfl rfl rfl ?_
      refine lx_assign rfl rfl rfl ?_
      refine lx_assign rfl rfl rfl ?_
      refine lx_nil ?_
      refine xs_plain (E := EE []) ?_
      refine lx_move rfl rfl rfl ?_
      refine lx_move rfl rfl rfl ?_
      refine lx_bin rfl rfl (fun _ => rfl) (fun _ => bin_add_u64 _ _ _) rfl rfl ?_
      refine lx_assign rfl rfl rfl ?_
      refine lx_nil ?_
      refine xs_plain (E := EE []) ?_
      refine lx_move rfl rfl rfl ?_
      refine lx_move rfl rfl rfl ?_
      refine lx_ext1 rfl rfl (fun w => add64k _ _ 0 _ (by decide) (d1s (b.getD i 0) (KT (b.getD i 0) a (RT a b i) 0 * INV) a (RT a b i) 4 (by decide)) w) rfl rfl ?_
      refine lx_move rfl rfl rfl ?_
      refine lx_ext rfl rfl rfl rfl ?_
      refine lx_ext rfl rfl rfl rfl ?_
      refine lx_assign rfl rfl rfl ?_
      refine lx_assign rfl rfl rfl ?_
      refine lx_nil ?_
      refine xs_plain (E := EE []) ?_
      refine lx_move rfl rfl rfl ?_
      refine lx_move rfl rfl rfl ?_
      refine lx_bin (v := U64 (KD (KT (b.getD i 0) a (RT a b i) 0 * INV) PL (T1 (b.getD i 0) a (RT a b i)) 5)) rfl rfl (fun _ => rfl) (fun w => (bin_add_u64 _ _ _).trans (congrArg (fun z => Result.ok (U64 z) w) (d2s (b.getD i 0) (KT (b.getD i 0) a (RT a b i) 0 * INV) a (RT a b i) 4 (by decide)))) rfl rfl ?_
      refine lx_assign rfl rfl rfl ?_
      refine lx_nil ?_
      refine x_plain (E := EE []) ?_
      refine lx_move rfl rfl rfl ?_
      refine lx_move rfl rfl rfl ?_
      refine lx_bin rfl rfl (fun _ => rfl) (fun _ => bin_add_u64 _ _ _) rfl rfl ?_
      refine lx_assign rfl rfl rfl ?_
      refine lx_nil ?_
      refine x_plain (E := EE []) ?_
      refine lx_move rfl rfl rfl ?_
      refine lx_bin rfl rfl (fun _ => rfl) (fun _ => bin_add_i _ _ _ (by unfold inI; omega)) rfl rfl ?_
      refine lx_assign rfl rfl rfl ?_
      refine lx_nil ?_
      repeat (refine kblk_n ?_)
      refine kseq_n ?_
      exact ⟨rfl, ⟨i + 1, by omega⟩, _, by show 6 - (i + 1) < 6 - i; omega, rfl, ⟨rfl, rfl, rfl, congrArg (fun z => some (U64 z)) (RT_n a b i 0 (by decide)).symm, congrArg (fun z => some (U64 z)) (RT_n a b i 1 (by decide)).symm, congrArg (fun z => some (U64 z)) (RT_n a b i 2 (by decide)).symm, congrArg (fun z => some (U64 z)) (RT_n a b i 3 (by decide)).symm, congrArg (fun z => some (U64 z)) (RT_n a b i 4 (by decide)).symm, congrArg (fun z => some (U64 z)) (RT_top a b i).symm, rfl, trivial⟩, ⟨rfl, rfl, rfl, trivial⟩⟩
    · obtain rfl : i = 6 := by simp at hc; omega
      refine x_exit ?_
      refine xs_plain (E := EE []) ?_
      refine lx_move rfl rfl rfl ?_
      refine lx_move rfl rfl rfl ?_
      refine lx_move rfl rfl rfl ?_
      refine lx_move rfl rfl rfl ?_
      refine lx_move rfl rfl rfl ?_
      refine lx_move rfl rfl rfl ?_
      refine lx_buildr (n := 6) (vs := (RT a b 6).map U64) (congrArg some (six_map (RT a b 6) (RT_len _ _ _))) rfl Tryz.underlying34 Tryz.sizeOf25 Tryz.zeroValue34 (by rw [List.length_map, RT_len]; rfl) (one_u64 _) rfl rfl ?_
      refine lx_allocr 19 hGF zv34 rfl rfl ?_
      intro b19
      refine lx_storea 19 hGF rfl rfl rfl Tryz.sizeOf34 (by rw [List.length_map, RT_len _ _ _]) (by rw [List.length_map, List.length_replicate]) (one_u64 _) rfl ?_
      refine lx_nil ?_
      refine x_seq ?_
      refine xs_drawA (E := EE [2999999]) [0, 1, 2, 3, 4, 5] [⟨6, 20, 34, (List.replicate 6 0#64).map U64⟩] [7, 8] mixed rfl (by kernel_rfl) (by kernel_rfl) (by kernel_rfl) (by kernel_rfl) (by kernel_rfl) (by kernel_rfl) (by decide) (by intro x hx; simp only [List.mem_cons, List.not_mem_nil, or_false] at hx; subst hx; exact isAlloc_mk rfl zv34 rfl) ?_
      refine lx_loada 19 rfl rfl Tryz.isAgg34 Tryz.sizeOf34 (by rw [List.length_map, RT_len _ _ _]) rfl rfl ?_
      refine lx_call rfl rfl ent41 (rp_pure) rfl rfl ?_
      refine lx_call rfl rfl ent92 (rsub_pure _ _ (RT_len _ _ _) rfl) rfl rfl ?_
      refine lx_move rfl rfl rfl ?_
      refine lx_ext rfl rfl rfl rfl ?_
      refine lx_ext rfl rfl rfl rfl ?_
      refine lx_nil ?_
      refine ⟨_, _, rfl, hGF, by intro x hx; simp only [List.mem_cons, List.not_mem_nil, or_false] at hx; subst hx; rfl, by intro x hx; simp only [List.mem_cons, List.not_mem_nil, or_false] at hx; subst hx; rfl, fun adr => ?_⟩
      refine lx_storea 20 hGF rfl rfl rfl Tryz.sizeOf34 (by rw [List.length_map, SS_len _ _ _]) (by rw [List.length_map, List.length_replicate]) (one_u64 _) rfl ?_
      refine lx_assign rfl rfl rfl ?_
      refine lx_nil ?_
      refine xs_plain (E := EE []) ?_
      refine lx_move rfl rfl rfl ?_
      refine lx_bin (v := .bool false) rfl rfl (fun _ => rfl) (fun w => (bin_eql_u64 _ _ _).trans (congrArg (fun b => Result.ok (Value.bool b) w) (beq_eq_false_iff_ne.2 h0))) rfl rfl ?_
      refine lx_nil ?_
      refine x_false rfl ?_
      refine x_skip ?_
      refine xs_plain (E := EE []) ?_
      refine lx_loada 19 rfl rfl Tryz.isAgg34 Tryz.sizeOf34 (by rw [List.length_map, RT_len _ _ _]) rfl rfl ?_
      refine lx_storea 4 hGF rfl rfl rfl Tryz.sizeOf34 (by rw [List.length_map, RT_len _ _ _]) (by rw [List.length_map, List.length_replicate]) (one_u64 _) rfl ?_
      refine lx_nil ?_
      refine x_ret ?_
      repeat (first | refine kseq_ret ?_ | refine kblk_ret ?_)
      exact kret_own 4 rfl rfl rfl Tryz.isAgg34 Tryz.sizeOf34 (by rw [List.length_map, RT_len]) (fun w hw => ⟨by rw [RM, if_neg h0], hp_below hw⟩)
end Go.Proofs.YtamddkjccmhgaaaGreatDoor

namespace Go.Proofs.YtamddkjccmhgaaaGreatDoor
open Go.RowKit
set_option maxRecDepth 100000
set_option maxHeartbeats 1000000

theorem ent104 : Enters Tryz.prog 104 := fun _ _ => by kernel_rfl
theorem ent140 : Enters Tryz.prog 140 := fun _ _ => by kernel_rfl
theorem ent40 : Enters Tryz.prog 40 := fun _ _ => by kernel_rfl
theorem ent79 : Enters Tryz.prog 79 := fun _ _ => by kernel_rfl
theorem ent97 : Enters Tryz.prog 97 := fun _ _ => by kernel_rfl
theorem zv36 (w : World) : (zeroValue 36).run Tryz.prog w = .ok (.agg ((List.replicate 6 (0#64)).map U64).toArray) w := (Tryz.zeroValue36 w).trans (by rfl)
theorem rof_pure (a : List (BitVec 64)) (ha : a.length = 6) : Pure Tryz.prog Gt 104 [.agg ((a).map U64).toArray] (.agg ((RM a TWO).map U64).toArray) := by
  intro w hw
  have hGF : BOk Gt (pl w) := gt_low.plain hw
  refine calls_of_X (G := Gt) Tryz.func104 rfl rfl (Hp (pl w) []) (hp_refl (pl w) trivial rides_true) (good_hp hGF) ?_
  refine xs_plain (E := EE []) ?_
  refine lx_boxr 1 hGF rfl rfl rfl ?_
  intro b1
  refine lx_allocr 2 hGF zv36 rfl rfl ?_
  intro b2
  refine lx_nil ?_
  refine xs_drawn (E := EE []) mixed (by kernel_rfl) (by kernel_rfl) (by kernel_rfl) ?_
  refine lx_loada 1 rfl rfl Tryz.isAgg34 Tryz.sizeOf34 (by rw [List.length_map, ha]) rfl rfl ?_
  refine lx_call rfl rfl ent143 (rtwo_pure) rfl rfl ?_
  refine lx_call rfl rfl ent122 (rmont_pure _ _ ha TWO_len) rfl rfl ?_
  refine lx_buildS rfl (RM_len _ _) Tryz.underlying36 rfl Tryz.sizeOf34 zv36 rfl rfl ?_
  refine lx_storea 2 hGF rfl rfl rfl Tryz.sizeOf36 (by rw [List.length_map, RM_len _ _]) (by rw [List.length_map, List.length_replicate]) (one_u64 _) rfl ?_
  refine lx_nil ?_
  refine x_ret ?_
  repeat (first | refine kseq_ret ?_ | refine kblk_ret ?_)
  exact kret_own 2 rfl rfl rfl Tryz.isAgg36 Tryz.sizeOf36 (by rw [List.length_map, RM_len]) (fun w hw => ⟨rfl, hp_below hw⟩)
theorem rnumber_pure (a : List (BitVec 64)) (ha : a.length = 6) : Pure Tryz.prog Gt 79 [.agg ((a).map U64).toArray] (.agg ((RM a N1).map U64).toArray) := by
  intro w hw
  have hGF : BOk Gt (pl w) := gt_low.plain hw
  refine calls_of_X (G := Gt) Tryz.func79 rfl rfl (Hp (pl w) []) (hp_refl (pl w) trivial rides_true) (good_hp hGF) ?_
  refine xs_plain (E := EE []) ?_
  refine lx_boxr 1 hGF rfl rfl rfl ?_
  intro b1
  refine lx_allocr 2 hGF zv34 rfl rfl ?_
  intro b2
  refine lx_nil ?_
  refine xs_plain (E := EE []) ?_
  refine lx_fak 0 rfl Tryz.underlying36 rfl Tryz.sizeOf34 (by decide) rfl rfl rfl ?_
  refine lx_loada 1 rfl rfl Tryz.isAgg34 Tryz.sizeOf34 (by rw [List.length_map, ha]) rfl rfl ?_
  refine lx_build1 1 rfl Tryz.underlying34 Tryz.sizeOf25 zv34 rfl rfl ?_
  refine lx_call rfl rfl ent122 (rmont_pure _ _ ha N1_len) rfl rfl ?_
  refine lx_storea 2 hGF rfl rfl rfl Tryz.sizeOf34 (by rw [List.length_map, RM_len _ _]) (by rw [List.length_map, List.length_replicate]) (one_u64 _) rfl ?_
  refine lx_nil ?_
  refine x_ret ?_
  repeat (first | refine kseq_ret ?_ | refine kblk_ret ?_)
  exact kret_own 2 rfl rfl rfl Tryz.isAgg34 Tryz.sizeOf34 (by rw [List.length_map, RM_len]) (fun w hw => ⟨rfl, hp_below hw⟩)
theorem rsmall_pure (n : BitVec 64) : Pure Tryz.prog Gt 140 [U64 n] (.agg ((RM (n :: List.replicate 5 0) TWO).map U64).toArray) := by
  intro w hw
  have hGF : BOk Gt (pl w) := gt_low.plain hw
  refine calls_of_X (G := Gt) Tryz.func140 rfl rfl (Hp (pl w) []) (hp_refl (pl w) trivial rides_true) (good_hp hGF) ?_
  refine xs_plain (E := EE []) ?_
  refine lx_allocr 2 hGF zv36 rfl rfl ?_
  intro b2
  refine lx_nil ?_
  refine xs_plain (E := EE []) ?_
  refine lx_move rfl rfl rfl ?_
  refine lx_build1 n rfl Tryz.underlying34 Tryz.sizeOf25 zv34 rfl rfl ?_
  refine lx_call rfl rfl ent104 (rof_pure (n :: List.replicate 5 0) rfl) rfl rfl ?_
  refine lx_storea 2 hGF rfl rfl rfl Tryz.sizeOf36 (by rw [List.length_map, RM_len _ _]) (by rw [List.length_map, List.length_replicate]) (one_u64 _) rfl ?_
  refine lx_nil ?_
  refine x_ret ?_
  repeat (first | refine kseq_ret ?_ | refine kblk_ret ?_)
  exact kret_own 2 rfl rfl rfl Tryz.isAgg36 Tryz.sizeOf36 (by rw [List.length_map, RM_len]) (fun w hw => ⟨rfl, hp_below hw⟩)
theorem risZero_pure (a : List (BitVec 64)) (ha : a.length = 6) : Pure Tryz.prog Gt 97 [.agg ((a).map U64).toArray] (.bool (decide (a = List.replicate 6 0))) := by
  intro w hw
  have hGF : BOk Gt (pl w) := gt_low.plain hw
  refine calls_of_X (G := Gt) Tryz.func97 rfl rfl (Hp (pl w) []) (hp_refl (pl w) trivial rides_true) (good_hp hGF) ?_
  refine xs_plain (E := EE []) ?_
  refine lx_boxr 1 hGF rfl rfl rfl ?_
  intro b1
  refine lx_assign rfl rfl rfl ?_
  refine lx_nil ?_
  refine xs_plain (E := EE []) ?_
  refine lx_fak 0 rfl Tryz.underlying36 rfl Tryz.sizeOf34 (by decide) rfl rfl rfl ?_
  refine lx_loada 1 rfl rfl Tryz.isAgg34 Tryz.sizeOf34 (by rw [List.length_map, ha]) rfl rfl ?_
  refine lx_buildz zv34 Tryz.underlying34 Tryz.sizeOf25 rfl rfl ?_
  refine lx_bin (v := .bool (decide (a = List.replicate 6 0#64))) rfl rfl (fun _ => eqg27 _ _ _ _ _ _) (fun w => eq27 a (List.replicate 6 0#64) ha rfl w) rfl rfl ?_
  refine lx_assign rfl rfl rfl ?_
  refine lx_nil ?_
  refine x_ret ?_
  repeat (first | refine kseq_ret ?_ | refine kblk_ret ?_)
  exact kret_tmp rfl rfl (fun w hw => ⟨rfl, hp_below hw⟩)
theorem rless_pure (a b : List (BitVec 64)) (ha : a.length = 6) (hb : b.length = 6) : Pure Tryz.prog Gt 40 [.agg ((a).map U64).toArray, .agg ((b).map U64).toArray] (.bool (decide ((SS a b 6).2 = 1))) := by
  intro w hw
  have hGF : BOk Gt (pl w) := gt_low.plain hw
  refine calls_of_X (G := Gt) Tryz.func40 rfl rfl (Hp (pl w) []) (hp_refl (pl w) trivial rides_true) (good_hp hGF) ?_
  refine xs_plain (E := EE []) ?_
  refine lx_boxr 2 hGF rfl rfl rfl ?_
  intro b2
  refine lx_boxr 3 hGF rfl rfl rfl ?_
  intro b3
  refine lx_assign rfl rfl rfl ?_
  refine lx_nil ?_
  refine xs_plain (E := EE []) ?_
  refine lx_loada 2 rfl rfl Tryz.isAgg34 Tryz.sizeOf34 (by rw [List.length_map, ha]) rfl rfl ?_
  refine lx_loada 3 rfl rfl Tryz.isAgg34 Tryz.sizeOf34 (by rw [List.length_map, hb]) rfl rfl ?_
  refine lx_call rfl rfl ent92 (rsub_pure _ _ ha hb) rfl rfl ?_
  refine lx_move rfl rfl rfl ?_
  refine lx_ext rfl rfl rfl rfl ?_
  refine lx_ext rfl rfl rfl rfl ?_
  refine lx_allocr 5 hGF zv34 rfl rfl ?_
  intro b5
  refine lx_storea 5 hGF rfl rfl rfl Tryz.sizeOf34 (by rw [List.length_map, SS_len _ _ _]) (by rw [List.length_map, List.length_replicate]) (one_u64 _) rfl ?_
  refine lx_assign rfl rfl rfl ?_
  refine lx_nil ?_
  refine xs_plain (E := EE []) ?_
  refine lx_move rfl rfl rfl ?_
  refine lx_bin (v := .bool (decide ((SS a b 6).2 = 1))) rfl rfl (fun _ => rfl) (fun w => (bin_eql_u64 _ _ _).trans rfl) rfl rfl ?_
  refine lx_assign rfl rfl rfl ?_
  refine lx_nil ?_
  refine x_ret ?_
  repeat (first | refine kseq_ret ?_ | refine kblk_ret ?_)
  exact kret_tmp rfl rfl (fun w hw => ⟨rfl, hp_below hw⟩)
end Go.Proofs.YtamddkjccmhgaaaGreatDoor

namespace Go.Proofs.YtamddkjccmhgaaaGreatDoor
open Go.RowKit
set_option maxRecDepth 100000
set_option maxHeartbeats 1000000

/-- The i-th bit of bytes, the highest first; the powers by the first i of them. -/
def pbit (bs : List (BitVec 8)) (i : Nat) : BitVec 8 := (bs.getD (i / 8) 0 >>> (7 - i % 8)) &&& 1#8
end Go.Proofs.YtamddkjccmhgaaaGreatDoor

namespace Go.Proofs.YtamddkjccmhgaaaGreatDoor
open Go.RowKit
set_option maxRecDepth 100000
set_option maxHeartbeats 1000000

theorem ent154 : Enters Tryz.prog 154 := fun _ _ => by kernel_rfl
theorem by_pos (n i : Nat) (hn : n ≤ 64) : decide (0#64 < BitVec.ofNat 64 (n - i)) = decide (i < n) := by
  refine decide_eq_decide.2 ?_
  rw [BitVec.lt_def]
  simp only [BitVec.toNat_ofNat]
  omega
theorem by_dec (n i : Nat) (_hn : n ≤ 64) (hi : i < n) : BitVec.ofNat 64 (n - i) - 1#64 = BitVec.ofNat 64 (n - (i + 1)) := by
  apply BitVec.eq_of_toNat_eq
  simp only [BitVec.toNat_sub, BitVec.toNat_ofNat]
  omega
/-- A half, part by part. -/
def HLs (l : List (BitVec 64)) : Nat → List (BitVec 64)
  | 0 => l
  | k + 1 => if k < 5 then ((HLs l k).set k ((HLs l k).getD k 0 >>> 1)).set k (((HLs l k).set k ((HLs l k).getD k 0 >>> 1)).getD k 0 ||| ((HLs l k).set k ((HLs l k).getD k 0 >>> 1)).getD (k + 1) 0 <<< 63) else (HLs l k).set k ((HLs l k).getD k 0 >>> 1)
theorem HLs_y (l : List (BitVec 64)) (k : Nat) (h : k < 5) : HLs l (k + 1) = ((HLs l k).set k ((HLs l k).getD k 0 >>> 1)).set k (((HLs l k).set k ((HLs l k).getD k 0 >>> 1)).getD k 0 ||| ((HLs l k).set k ((HLs l k).getD k 0 >>> 1)).getD (k + 1) 0 <<< 63) := by rw [HLs, if_pos h]
theorem HLs_n (l : List (BitVec 64)) (k : Nat) (h : ¬ k < 5) : HLs l (k + 1) = (HLs l k).set k ((HLs l k).getD k 0 >>> 1) := by rw [HLs, if_neg h]
theorem HLs_len (l : List (BitVec 64)) : ∀ k, (HLs l k).length = l.length
  | 0 => rfl
  | k + 1 => by
    unfold HLs; split
    · rw [List.length_set, List.length_set, HLs_len l k]
    · rw [List.length_set, HLs_len l k]
def HN (l : List (BitVec 64)) : Nat → List (BitVec 64)
  | 0 => l
  | i + 1 => HLs (HN l i) 6
theorem HN_len (l : List (BitVec 64)) : ∀ i, (HN l i).length = l.length
  | 0 => rfl
  | i + 1 => by rw [HN, HLs_len, HN_len l i]
theorem rsh1_calls (w : World) (hw : Gt w) : Calls Tryz.prog 154 [I (-1), U64 1#64].toArray w (fun e w' => ∃ b, e = .returned (.slice (some ⟨b, 0, none⟩) 48 48) ∧ Grow w w' ∧ w.heap.size ≤ b ∧ OwnB w' b ((BYs (HN (SS PL (1#64 :: List.replicate 5 0) 6).1 1) 48).map U8) 46) := by
  have hGF : BOk Gt (pl w) := gt_low.plain hw
  refine calls_of_X (G := Gt) Tryz.func154 rfl rfl (Hp (pl w) []) (hp_refl (pl w) trivial rides_true) (good_hp hGF) ?_
  refine xs_plain (E := EE []) ?_
  refine lx_assign rfl rfl rfl ?_
  refine lx_nil ?_
  refine xs_plain (E := EE []) ?_
  refine lx_call rfl rfl ent41 (rp_pure) rfl rfl ?_
  refine lx_allocr 5 hGF zv34 rfl rfl ?_
  intro b5
  refine lx_storea 5 hGF rfl rfl rfl Tryz.sizeOf34 (by rw [List.length_map, PL_len]) (by rw [List.length_map, List.length_replicate]) (one_u64 _) rfl ?_
  refine lx_nil ?_
  refine x_seq ?_
  refine xs_plain (E := EE []) ?_
  refine lx_move rfl rfl rfl ?_
  refine lx_bin (v := .bool true) rfl rfl (fun _ => rfl) (fun w => bin_lss_i _ (-1) 0) rfl rfl ?_
  refine lx_nil ?_
  refine x_true rfl ?_
  refine x_plain (E := EE []) ?_
  refine lx_loada 5 rfl rfl Tryz.isAgg34 Tryz.sizeOf34 (by rw [List.length_map, PL_len]) rfl rfl ?_
  refine lx_move rfl rfl rfl ?_
  refine lx_un (v := I 1) rfl (fun _ => un_neg_i (-1) (by unfold inI; omega)) rfl rfl ?_
  refine lx_conv (v := U64 1#64) rfl rfl (fun _ => (conv_i_u64 Tryz.underlying2 Tryz.underlying25 1).trans rfl) rfl rfl ?_
  refine lx_build1 1#64 rfl Tryz.underlying34 Tryz.sizeOf25 zv34 rfl rfl ?_
  refine lx_call rfl rfl ent92 (rsub_pure PL (1#64 :: List.replicate 5 0) PL_len rfl) rfl rfl ?_
  refine lx_move rfl rfl rfl ?_
  refine lx_ext rfl rfl rfl rfl ?_
  refine lx_ext rfl rfl rfl rfl ?_
  refine lx_storea 5 hGF rfl rfl rfl Tryz.sizeOf34 (by rw [List.length_map, SS_len _ _ _]) (by rw [List.length_map, PL_len]) (one_u64 _) rfl ?_
  refine lx_nil ?_
  refine x_seq ?_
  refine x_block ?_
  refine x_for (ι := { i : Nat // i ≤ 1 }) (fun x => [(4, .slice none 0 0), (5, .pointer (some ⟨b5, 0, none⟩)), (1, U64 (BitVec.ofNat 64 (1 - x.1)))]) (fun x => [(5, b5, (HN (SS PL (1#64 :: List.replicate 5 0) 6).1 x.1).map U64, 34)]) (fun x => 1 - x.1) ⟨0, by omega⟩ hGF ⟨rfl, rfl, rfl, trivial⟩ ⟨rfl, trivial⟩ ?_
  rintro ⟨i, hi⟩
  dsimp only
  refine x_seq ?_
  refine xs_plain (E := EE []) ?_
  refine lx_move rfl rfl rfl ?_
  refine lx_bin (v := .bool (decide (i < 1))) rfl rfl (fun _ => rfl) (fun w => (bin_gtr_u64 _ _ 0#64).trans (congrArg (fun b => Result.ok (Value.bool b) w) (by_pos 1 i (by decide)))) rfl rfl ?_
  refine lx_nil ?_
  refine x_if rfl (fun hc => ?_) (fun hc => ?_)
  · simp only [decide_eq_true_eq] at hc
    refine x_skip ?_
    refine x_seq ?_
    refine x_block ?_
    refine xs_plain (E := EE []) ?_
    refine lx_assign rfl rfl rfl ?_
    refine lx_nil ?_
    refine x_block ?_
    refine x_for (ι := { i : Nat // i ≤ 6 }) (fun x => [(4, .slice none 0 0), (5, .pointer (some ⟨b5, 0, none⟩)), (1, U64 (BitVec.ofNat 64 (1 - i))), (6, I (x.1 : Int))]) (fun x => [(5, b5, (HLs (HN (SS PL (1#64 :: List.replicate 5 0) 6).1 i) x.1).map U64, 34)]) (fun x => 6 - x.1) ⟨0, by omega⟩ hGF ⟨rfl, rfl, rfl, rfl, trivial⟩ ⟨rfl, trivial⟩ ?_
    rintro ⟨k, hk⟩
    dsimp only
    refine x_seq ?_
    refine xs_plain (E := EE []) ?_
    refine lx_move rfl rfl rfl ?_
    refine lx_bin rfl rfl (fun _ => rfl) (fun _ => bin_lss_i _ _ _) rfl rfl ?_
    refine lx_nil ?_
    refine x_if rfl (fun hc => ?_) (fun hc => ?_)
    · simp only [decide_eq_true_eq] at hc
      refine x_skip ?_
      refine x_seq ?_
      refine x_block ?_
      refine xs_plain (E := EE []) ?_
      refine lx_move rfl rfl rfl ?_
      refine lx_move rfl rfl rfl ?_
      refine lx_ia0 (k) rfl rfl Tryz.underlying34 Tryz.sizeOf25 (by omega) (by omega) rfl rfl ?_
      refine lx_loadm 5 U64 0 rfl rfl Tryz.isAgg25 (by rw [HLs_len, HN_len, SS_len]; omega) rfl rfl ?_
      refine lx_bin rfl rfl (fun _ => rfl) (fun _ => bin_shr_u64 _ _ 1#64) rfl rfl ?_
      refine lx_ia0 (k) rfl rfl Tryz.underlying34 Tryz.sizeOf25 (by omega) (by omega) rfl rfl ?_
      refine lx_storem 5 U64 hGF rfl rfl rfl Tryz.sizeOf25 rfl (by rw [HLs_len, HN_len, SS_len]; omega) rfl ?_
      refine lx_nil ?_
      refine xs_plain (E := EE []) ?_
      refine lx_move rfl rfl rfl ?_
      refine lx_bin rfl rfl (fun _ => rfl) (fun _ => bin_lss_i _ _ _) rfl rfl ?_
      refine lx_nil ?_
      refine x_if rfl (fun hc => ?_) (fun hc => ?_)
      · simp only [decide_eq_true_eq] at hc
        have hq : k < 5 := by omega
        refine x_drawn (E := EE []) mixed (by kernel_rfl) (by kernel_rfl) (by kernel_rfl) ?_
        refine lx_move rfl rfl rfl ?_
        refine lx_ia0 (k) rfl rfl Tryz.underlying34 Tryz.sizeOf25 (by omega) (by omega) rfl rfl ?_
        refine lx_loadm 5 U64 0 rfl rfl Tryz.isAgg25 (by rw [List.length_set, HLs_len, HN_len, SS_len]; omega) rfl rfl ?_
        refine lx_move rfl rfl rfl ?_
        refine lx_bin rfl rfl (fun _ => rfl) (fun _ => bin_add_i _ _ _ (by unfold inI; omega)) rfl rfl ?_
        refine lx_ia0 ((k + 1)) rfl rfl Tryz.underlying34 Tryz.sizeOf25 (by omega) (by omega) rfl rfl ?_
        refine lx_loadm 5 U64 0 rfl rfl Tryz.isAgg25 (by rw [List.length_set, HLs_len, HN_len, SS_len]; omega) rfl rfl ?_
        refine lx_bin rfl rfl (fun _ => rfl) (fun _ => bin_shl_u64 _ _ 63#64) rfl rfl ?_
        refine lx_bin rfl rfl (fun _ => rfl) (fun _ => bin_or_u64 _ _ _) rfl rfl ?_
        refine lx_ia0 (k) rfl rfl Tryz.underlying34 Tryz.sizeOf25 (by omega) (by omega) rfl rfl ?_
        refine lx_storem 5 U64 hGF rfl rfl rfl Tryz.sizeOf25 rfl (by rw [List.length_set, HLs_len, HN_len, SS_len]; omega) rfl ?_
        refine lx_nil ?_
        refine x_plain (E := EE []) ?_
        refine lx_move rfl rfl rfl ?_
        refine lx_bin rfl rfl (fun _ => rfl) (fun _ => bin_add_i _ _ _ (by unfold inI; omega)) rfl rfl ?_
        refine lx_assign rfl rfl rfl ?_
        refine lx_nil ?_
        repeat (refine kblk_n ?_)
        refine kseq_n ?_
        exact ⟨rfl, ⟨k + 1, by omega⟩, _, by show 6 - (k + 1) < 6 - k; omega, rfl, ⟨rfl, rfl, rfl, rfl, trivial⟩, ⟨by first | (rw [HLs_y _ k hq]; rfl) | (rw [HLs_n _ k hq]; rfl), trivial⟩⟩
      · simp only [decide_eq_false_iff_not] at hc
        have hq : ¬ k < 5 := by omega
        refine x_skip ?_
        refine x_plain (E := EE []) ?_
        refine lx_move rfl rfl rfl ?_
        refine lx_bin rfl rfl (fun _ => rfl) (fun _ => bin_add_i _ _ _ (by unfold inI; omega)) rfl rfl ?_
        refine lx_assign rfl rfl rfl ?_
        refine lx_nil ?_
        repeat (refine kblk_n ?_)
        refine kseq_n ?_
        exact ⟨rfl, ⟨k + 1, by omega⟩, _, by show 6 - (k + 1) < 6 - k; omega, rfl, ⟨rfl, rfl, rfl, rfl, trivial⟩, ⟨by first | (rw [HLs_y _ k hq]; rfl) | (rw [HLs_n _ k hq]; rfl), trivial⟩⟩
    · obtain rfl : k = 6 := by simp at hc; omega
      refine x_exit ?_
      refine x_plain (E := EE []) ?_
      refine lx_move rfl rfl rfl ?_
      refine lx_bin (v := U64 (BitVec.ofNat 64 (1 - (i + 1)))) rfl rfl (fun _ => rfl) (fun w => (bin_sub_u64 _ _ 1#64).trans (congrArg (fun z => Result.ok (U64 z) w) (by_dec 1 i (by decide) (by omega)))) rfl rfl ?_
      refine lx_assign rfl rfl rfl ?_
      refine lx_nil ?_
      repeat (refine kblk_n ?_)
      refine kseq_n ?_
      exact ⟨rfl, ⟨i + 1, by omega⟩, _, by show 1 - (i + 1) < 1 - i; omega, rfl, ⟨rfl, rfl, rfl, trivial⟩, ⟨rfl, trivial⟩⟩
  · obtain rfl : i = 1 := by simp at hc; omega
    refine x_exit ?_
    refine xs_plain (E := EE []) ?_
    refine lx_loada 5 rfl rfl Tryz.isAgg34 Tryz.sizeOf34 (by rw [List.length_map, HN_len, SS_len]) rfl rfl ?_
    refine lx_call rfl rfl ent78 (rbytesOf_pure _ (by rw [HN_len, SS_len])) rfl rfl ?_
    refine lx_allocr 7 hGF zv46 rfl rfl ?_
    intro b7
    refine lx_storea 7 hGF rfl rfl rfl Tryz.sizeOf46 (by rw [List.length_map, BYs_len _ _]) (by rw [List.length_map, List.length_replicate]) (one_u8 _) rfl ?_
    refine lx_nil ?_
    refine xs_plain (E := EE []) ?_
    refine lx_slarr1 (l := 0) (h' := 48) rfl Tryz.underlying46 Tryz.sizeOf5 rfl rfl (by omega) (by omega) rfl rfl ?_
    refine lx_assign rfl rfl rfl ?_
    refine lx_nil ?_
    refine x_ret ?_
    repeat (first | refine kseq_ret ?_ | refine kblk_ret ?_)
    exact kret_tmp rfl rfl (fun w hw => ⟨b7, rfl, hp_below hw, (hw.own 7 b7 _ _ rfl).2.elim id False.elim, (hw.own 7 b7 _ _ rfl).1⟩)
end Go.Proofs.YtamddkjccmhgaaaGreatDoor

namespace Go.Proofs.YtamddkjccmhgaaaGreatDoor
open Go.RowKit
set_option maxRecDepth 100000
set_option maxHeartbeats 1000000

theorem ent123 : Enters Tryz.prog 123 := fun _ _ => by kernel_rfl
def EX1 : List (BitVec 8) := BYs (HN (SS PL (1#64 :: List.replicate 5 0) 6).1 1) 48
theorem EX1_len : EX1.length = 48 := BYs_len _ _
theorem rfrom48 (b : Nat) (t : TypeId) (bs : List (BitVec 8)) (h48 : bs.length = 48) (w : World) (hw : Gt w) (ho : OwnB w b (bs.map U8) t) :
    Calls Tryz.prog 39 [.slice (some ⟨b, 0, none⟩) 48 48].toArray w (fun r w' => r = .returned (.tuple #[.agg ((FRs bs 48).map U64).toArray, .bool true]) ∧ Grow w w') := by
  have h := rfrom_calls (some ⟨b, 0, none⟩) 48 bs w hw (BytesAt.range ho.range)
  rw [h48, if_neg (by decide)] at h
  exact h
theorem rlarge_pure (a : List (BitVec 64)) (ha : a.length = 6) : Pure Tryz.prog Gt 123 [.agg ((a).map U64).toArray] (.bool (decide ((SS (FRs EX1 48) (RM a N1) 6).2 = 1))) := by
  intro w hw
  have hGF : BOk Gt (pl w) := gt_low.plain hw
  refine calls_of_X (G := Gt) Tryz.func123 rfl rfl (Hp (pl w) []) (hp_refl (pl w) trivial rides_true) (good_hp hGF) ?_
  refine xs_plain (E := EE [154, 2000154]) ?_
  refine lx_boxr 1 hGF rfl rfl rfl ?_
  intro b1
  refine lx_assign rfl rfl rfl ?_
  refine lx_nil ?_
  refine xs_plain (E := EE [154, 2000154]) ?_
  refine lx_callG rfl rfl ent154 rfl rfl (fun w' hw' => (rsh1_calls w' (hGF.g _ _ _ hw')).mono fun e w'' h => ?_)
  obtain ⟨bm, rfl, hg, hb, hob⟩ := h
  refine ⟨_, _, rfl, good_hp hGF, hw'.news rides_true hg [(6, bm, EX1.map U8, 46)] ?_ inj_one, hp_fresh rides_true rfl, ?_⟩
  · intro n' b' c' t' hl
    rcases lkB_cons hl with ⟨_, e⟩ | ⟨_, hl⟩
    · cases e; exact ⟨hb, hob⟩
    · cases hl
  clear hw' hg hb hob
  refine lx_callC rfl rfl ent39 (fun w' hw' hG => rfrom48 bm _ EX1 EX1_len w' hG (hw'.own 6 _ _ _ rfl).1) rfl rfl ?_
  refine lx_move rfl rfl rfl ?_
  refine lx_ext rfl rfl rfl rfl ?_
  refine lx_ext rfl rfl rfl rfl ?_
  refine lx_allocr 3 hGF zv34 rfl rfl ?_
  intro b3
  refine lx_storea 3 hGF rfl rfl rfl Tryz.sizeOf34 (by rw [List.length_map, FRs_len _ _]) (by rw [List.length_map, List.length_replicate]) (one_u64 _) rfl ?_
  refine lx_assign rfl rfl rfl ?_
  refine lx_nil ?_
  refine xs_drawn (E := EE [154, 2000154]) mixed (by kernel_rfl) (by kernel_rfl) (by kernel_rfl) ?_
  refine lx_loada 3 rfl rfl Tryz.isAgg34 Tryz.sizeOf34 (by rw [List.length_map, FRs_len _ _]) rfl rfl ?_
  refine lx_loada 1 rfl rfl Tryz.isAgg36 Tryz.sizeOf36 (by rw [List.length_map, ha]) rfl rfl ?_
  refine lx_call rfl rfl ent79 (rnumber_pure a ha) rfl rfl ?_
  refine lx_call rfl rfl ent40 (rless_pure _ _ (FRs_len _ _) (RM_len _ _)) rfl rfl ?_
  refine lx_assign rfl rfl rfl ?_
  refine lx_nil ?_
  refine x_ret ?_
  repeat (first | refine kseq_ret ?_ | refine kblk_ret ?_)
  exact kret_tmp rfl rfl (fun w hw => ⟨rfl, hp_below hw⟩)
end Go.Proofs.YtamddkjccmhgaaaGreatDoor
