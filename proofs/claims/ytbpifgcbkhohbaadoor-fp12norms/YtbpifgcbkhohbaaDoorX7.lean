/-
  The walk of the reference's product modulo p.
  The walks of the reference's elements of p: sums, differences, products.
  The walk of the reference's powers.
  The walk of the reference's exponents: p and a small number, by a power of two.
  The walks of the reference's inverses and signs.
-/
import Derived.Test.YtbpifgcbkhohbaaDoorX6
import Derived.Test.YtbpifgcbkhohbaaDoorX2
import Derived.Test.YtbpifgcbkhohbaaDoorX4
import Derived.Test.YtbpifgcbkhohbaaDoorX3
namespace Go.Proofs.YtbpifgcbkhohbaaDoor
open Go.RowKit
set_option maxRecDepth 100000
set_option maxHeartbeats 1000000

theorem ent91 : Enters Tryd.prog 91 := fun _ _ => by kernel_rfl
theorem ent75 : Enters Tryd.prog 75 := fun _ _ => by kernel_rfl
theorem ent74 : Enters Tryd.prog 74 := fun _ _ => by kernel_rfl
theorem add64k (x y c s : BitVec 64) (hc : c.toNat ≤ 1) (h : (ADC x y c).1 = s) (w : World) : (callFunc 87 [U64 x, U64 y, U64 c].toArray).run Tryd.prog w = .ok (.value (.tuple #[U64 s, U64 (ADC x y c).2])) w := by
  subst h; exact add64 x y c hc w
theorem PL_len : PL.length = 6 := rfl
theorem rp_pure  : Pure Tryd.prog Gt 91 [] (.agg ((PL).map U64).toArray) := by
  intro w hw
  have hGF : BOk Gt (pl w) := gt_low.plain hw
  refine calls_of_X (G := Gt) Tryd.func91 rfl rfl (Hp (pl w) []) (hp_refl (pl w) trivial rides_true) (good_hp hGF) ?_
  refine xs_plain (E := EE []) ?_
  refine lx_allocr 0 hGF zv40 rfl rfl ?_
  intro b0
  refine lx_nil ?_
  refine xs_plain (E := EE []) ?_
  refine lx_buildr (n := 6) (vs := (PL).map U64) rfl rfl Tryd.underlying40 Tryd.sizeOf25 Tryd.zeroValue40 rfl rfl rfl rfl ?_
  refine lx_storea 0 hGF rfl rfl rfl Tryd.sizeOf40 (by rw [List.length_map, PL_len]) (by rw [List.length_map, List.length_replicate]) (one_u64 _) rfl ?_
  refine lx_nil ?_
  refine x_ret ?_
  repeat (first | refine kseq_ret ?_ | refine kblk_ret ?_)
  exact kret_own 0 rfl rfl rfl Tryd.isAgg40 Tryd.sizeOf40 rfl (fun w hw => ⟨rfl, hp_below hw⟩)
theorem rtwo_pure  : Pure Tryd.prog Gt 75 [] (.agg ((TWO).map U64).toArray) := by
  intro w hw
  have hGF : BOk Gt (pl w) := gt_low.plain hw
  refine calls_of_X (G := Gt) Tryd.func75 rfl rfl (Hp (pl w) []) (hp_refl (pl w) trivial rides_true) (good_hp hGF) ?_
  refine xs_plain (E := EE []) ?_
  refine lx_allocr 0 hGF zv40 rfl rfl ?_
  intro b0
  refine lx_nil ?_
  refine xs_plain (E := EE []) ?_
  refine lx_buildr (n := 6) (vs := (TWO).map U64) rfl rfl Tryd.underlying40 Tryd.sizeOf25 Tryd.zeroValue40 rfl rfl rfl rfl ?_
  refine lx_storea 0 hGF rfl rfl rfl Tryd.sizeOf40 (by rw [List.length_map, TWO_len]) (by rw [List.length_map, List.length_replicate]) (one_u64 _) rfl ?_
  refine lx_nil ?_
  refine x_ret ?_
  repeat (first | refine kseq_ret ?_ | refine kblk_ret ?_)
  exact kret_own 0 rfl rfl rfl Tryd.isAgg40 Tryd.sizeOf40 rfl (fun w hw => ⟨rfl, hp_below hw⟩)
theorem rmont_pure (a b : List (BitVec 64)) (ha : a.length = 6) (hb : b.length = 6) : Pure Tryd.prog Gt 74 [.agg ((a).map U64).toArray, .agg ((b).map U64).toArray] (.agg ((RM a b).map U64).toArray) := by
  intro w hw
  have hGF : BOk Gt (pl w) := gt_low.plain hw
  refine calls_of_X (G := Gt) Tryd.func74 rfl rfl (Hp (pl w) []) (hp_refl (pl w) trivial rides_true) (good_hp hGF) ?_
  by_cases h0 : (SS (RT a b 6) PL 6).2 = 0
  · skip
    refine xs_plain (E := EE []) ?_
    refine lx_boxr 2 hGF rfl rfl rfl ?_
    intro b2
    refine lx_boxr 3 hGF rfl rfl rfl ?_
    intro b3
    refine lx_allocr 4 hGF zv40 rfl rfl ?_
    intro b4
    refine lx_nil ?_
    refine xs_plain (E := EE []) ?_
    refine lx_assign rfl rfl rfl ?_
    refine lx_assign rfl rfl rfl ?_
    refine lx_assign rfl rfl rfl ?_
    refine lx_assign rfl rfl rfl ?_
    refine lx_assign rfl rfl rfl ?_
    refine lx_assign rfl rfl rfl ?_
    refine lx_nil ?_
    refine x_seq ?_
    refine xs_plain (E := EE []) ?_
    refine lx_assign rfl rfl rfl ?_
    refine lx_nil ?_
    refine x_block ?_
    refine x_for (ι := { i : Nat // i ≤ 6 }) (fun x => [(2, .pointer (some ⟨b2, 0, none⟩)), (3, .pointer (some ⟨b3, 0, none⟩)), (4, .pointer (some ⟨b4, 0, none⟩)), (5, U64 ((RT a b x.1).getD 0 0)), (6, U64 ((RT a b x.1).getD 1 0)), (7, U64 ((RT a b x.1).getD 2 0)), (8, U64 ((RT a b x.1).getD 3 0)), (9, U64 ((RT a b x.1).getD 4 0)), (10, U64 ((RT a b x.1).getD 5 0)), (11, I (x.1 : Int))]) (fun x => [(2, b2, a.map U64, 40), (3, b3, b.map U64, 40), (4, b4, (List.replicate 6 0#64).map U64, 40)]) (fun x => 6 - x.1) ⟨0, by omega⟩ hGF ⟨rfl, rfl, rfl, rfl, rfl, rfl, rfl, rfl, rfl, rfl, trivial⟩ ⟨rfl, rfl, rfl, trivial⟩ ?_
    rintro ⟨i, hi⟩
    dsimp only
    refine x_seq ?_
    refine xs_plain (E := EE []) ?_
    refine lx_move rfl rfl rfl ?_
    refine lx_bin rfl rfl (fun _ => rfl) (fun _ => bin_lss_i _ _ _) rfl rfl ?_
    refine lx_nil ?_
    refine x_if rfl (fun hc => ?_) (fun hc => ?_)
    · simp only [decide_eq_true_eq] at hc
      refine x_skip ?_
      refine x_seq ?_
      refine x_block ?_
      refine xs_plain (E := EE []) ?_
      refine lx_assign rfl rfl rfl ?_
      refine lx_assign rfl rfl rfl ?_
      refine lx_assign rfl rfl rfl ?_
      refine lx_assign rfl rfl rfl ?_
      refine lx_nil ?_
      refine xs_plain (E := EE []) ?_
      refine lx_move rfl rfl rfl ?_
      refine lx_ia0 (i) rfl rfl Tryd.underlying40 Tryd.sizeOf25 (by omega) (by omega) rfl rfl ?_
      refine lx_loadm 3 U64 0 rfl rfl Tryd.isAgg25 (by rw [hb]; omega) rfl rfl ?_
      refine lx_assign rfl rfl rfl ?_
      refine lx_nil ?_
      refine xs_plain (E := EE []) ?_
      refine lx_ia0 (0) rfl rfl Tryd.underlying40 Tryd.sizeOf25 (by omega) (by omega) rfl rfl ?_
      refine lx_loadm 2 U64 0 rfl rfl Tryd.isAgg25 (by rw [ha]; omega) rfl rfl ?_
      refine lx_move rfl rfl rfl ?_
      refine lx_call rfl rfl ent89 (mul64_pure _ _) rfl rfl ?_
      refine lx_move rfl rfl rfl ?_
      refine lx_ext rfl rfl rfl rfl ?_
      refine lx_ext rfl rfl rfl rfl ?_
      refine lx_assign rfl rfl rfl ?_
      refine lx_assign rfl rfl rfl ?_
      refine lx_nil ?_
      refine xs_plain (E := EE []) ?_
      refine lx_move rfl rfl rfl ?_
      refine lx_move rfl rfl rfl ?_
      refine lx_ext1 rfl rfl (fun w => add64k _ _ 0 _ (by decide) (k1z (b.getD i 0) a (RT a b i)) w) rfl rfl ?_
      refine lx_move rfl rfl rfl ?_
      refine lx_ext rfl rfl rfl rfl ?_
      refine lx_ext rfl rfl rfl rfl ?_
      refine lx_assign rfl rfl rfl ?_
      refine lx_assign rfl rfl rfl ?_
      refine lx_nil ?_
      refine xs_plain (E := EE []) ?_
      refine lx_move rfl rfl rfl ?_
      refine lx_move rfl rfl rfl ?_
      refine lx_bin (v := U64 (KC (b.getD i 0) a (RT a b i) 1)) rfl rfl (fun _ => rfl) (fun w => (bin_add_u64 _ _ _).trans (congrArg (fun z => Result.ok (U64 z) w) (k2z (b.getD i 0) a (RT a b i)))) rfl rfl ?_
      refine lx_assign rfl rfl rfl ?_
      refine lx_nil ?_
      refine xs_plain (E := EE []) ?_
      refine lx_ia0 (1) rfl rfl Tryd.underlying40 Tryd.sizeOf25 (by omega) (by omega) rfl rfl ?_
      refine lx_loadm 2 U64 0 rfl rfl Tryd.isAgg25 (by rw [ha]; omega) rfl rfl ?_
      refine lx_move rfl rfl rfl ?_
      refine lx_call rfl rfl ent89 (mul64_pure _ _) rfl rfl ?_
      refine lx_move rfl rfl rfl ?_
      refine lx_ext rfl rfl rfl rfl ?_
      refine lx_ext rfl rfl rfl rfl ?_
      refine lx_assign rfl rfl rfl ?_
      refine lx_assign rfl rfl rfl ?_
      refine lx_nil ?_
      refine xs_plain (E := EE []) ?_
      refine lx_move rfl rfl rfl ?_
      refine lx_move rfl rfl rfl ?_
      refine lx_ext1 rfl rfl (fun w => add64 _ _ 0 (by decide) w) rfl rfl ?_
      refine lx_move rfl rfl rfl ?_
      refine lx_ext rfl rfl rfl rfl ?_
      refine lx_ext rfl rfl rfl rfl ?_
      refine lx_assign rfl rfl rfl ?_
      refine lx_assign rfl rfl rfl ?_
      refine lx_nil ?_
      refine xs_plain (E := EE []) ?_
      refine lx_move rfl rfl rfl ?_
      refine lx_move rfl rfl rfl ?_
      refine lx_bin rfl rfl (fun _ => rfl) (fun _ => bin_add_u64 _ _ _) rfl rfl ?_
      refine lx_assign rfl rfl rfl ?_
      refine lx_nil ?_
      refine xs_plain (E := EE []) ?_
      refine lx_move rfl rfl rfl ?_
      refine lx_move rfl rfl rfl ?_
      refine lx_ext1 rfl rfl (fun w => add64k _ _ 0 _ (by decide) (k1s (b.getD i 0) a (RT a b i) 1) w) rfl rfl ?_
      refine lx_move rfl rfl rfl ?_
      refine lx_ext rfl rfl rfl rfl ?_
      refine lx_ext rfl rfl rfl rfl ?_
      refine lx_assign rfl rfl rfl ?_
      refine lx_assign rfl rfl rfl ?_
      refine lx_nil ?_
      refine xs_plain (E := EE []) ?_
      refine lx_move rfl rfl rfl ?_
      refine lx_move rfl rfl rfl ?_
      refine lx_bin (v := U64 (KC (b.getD i 0) a (RT a b i) 2)) rfl rfl (fun _ => rfl) (fun w => (bin_add_u64 _ _ _).trans (congrArg (fun z => Result.ok (U64 z) w) (k2s (b.getD i 0) a (RT a b i) 1))) rfl rfl ?_
      refine lx_assign rfl rfl rfl ?_
      refine lx_nil ?_
      refine xs_plain (E := EE []) ?_
      refine lx_ia0 (2) rfl rfl Tryd.underlying40 Tryd.sizeOf25 (by omega) (by omega) rfl rfl ?_
      refine lx_loadm 2 U64 0 rfl rfl Tryd.isAgg25 (by rw [ha]; omega) rfl rfl ?_
      refine lx_move rfl rfl rfl ?_
      refine lx_call rfl rfl ent89 (mul64_pure _ _) rfl rfl ?_
      refine lx_move rfl rfl rfl ?_
      refine lx_ext rfl rfl rfl rfl ?_
      refine lx_ext rfl rfl rfl rfl ?_
      refine lx_assign rfl rfl rfl ?_
      refine lx_assign rfl rfl rfl ?_
      refine lx_nil ?_
      refine xs_plain (E := EE []) ?_
      refine lx_move rfl rfl rfl ?_
      refine lx_move rfl rfl rfl ?_
      refine lx_ext1 rfl rfl (fun w => add64 _ _ 0 (by decide) w) rfl rfl ?_
      refine lx_move rfl rfl rfl ?_
      refine lx_ext rfl rfl rfl rfl ?_
      refine lx_ext rfl rfl rfl rfl ?_
      refine lx_assign rfl rfl rfl ?_
      refine lx_assign rfl rfl rfl ?_
      refine lx_nil ?_
      refine xs_plain (E := EE []) ?_
      refine lx_move rfl rfl rfl ?_
      refine lx_move rfl rfl rfl ?_
      refine lx_bin rfl rfl (fun _ => rfl) (fun _ => bin_add_u64 _ _ _) rfl rfl ?_
      refine lx_assign rfl rfl rfl ?_
      refine lx_nil ?_
      refine xs_plain (E := EE []) ?_
      refine lx_move rfl rfl rfl ?_
      refine lx_move rfl rfl rfl ?_
      refine lx_ext1 rfl rfl (fun w => add64k _ _ 0 _ (by decide) (k1s (b.getD i 0) a (RT a b i) 2) w) rfl rfl ?_
      refine lx_move rfl rfl rfl ?_
      refine lx_ext rfl rfl rfl rfl ?_
      refine lx_ext rfl rfl rfl rfl ?_
      refine lx_assign rfl rfl rfl ?_
      refine lx_assign rfl rfl rfl ?_
      refine lx_nil ?_
      refine xs_plain (E := EE []) ?_
      refine lx_move rfl rfl rfl ?_
      refine lx_move rfl rfl rfl ?_
      refine lx_bin (v := U64 (KC (b.getD i 0) a (RT a b i) 3)) rfl rfl (fun _ => rfl) (fun w => (bin_add_u64 _ _ _).trans (congrArg (fun z => Result.ok (U64 z) w) (k2s (b.getD i 0) a (RT a b i) 2))) rfl rfl ?_
      refine lx_assign rfl rfl rfl ?_
      refine lx_nil ?_
      refine xs_plain (E := EE []) ?_
      refine lx_ia0 (3) rfl rfl Tryd.underlying40 Tryd.sizeOf25 (by omega) (by omega) rfl rfl ?_
      refine lx_loadm 2 U64 0 rfl rfl Tryd.isAgg25 (by rw [ha]; omega) rfl rfl ?_
      refine lx_move rfl rfl rfl ?_
      refine lx_call rfl rfl ent89 (mul64_pure _ _) rfl rfl ?_
      refine lx_move rfl rfl rfl ?_
      refine lx_ext rfl rfl rfl rfl ?_
      refine lx_ext rfl rfl rfl rfl ?_
      refine lx_assign rfl rfl rfl ?_
      refine lx_assign rfl rfl rfl ?_
      refine lx_nil ?_
      refine xs_plain (E := EE []) ?_
      refine lx_move rfl rfl rfl ?_
      refine lx_move rfl rfl rfl ?_
      refine lx_ext1 rfl rfl (fun w => add64 _ _ 0 (by decide) w) rfl rfl ?_
      refine lx_move rfl rfl rfl ?_
      refine lx_ext rfl rfl rfl rfl ?_
      refine lx_ext rfl rfl rfl rfl ?_
      refine lx_assign rfl rfl rfl ?_
      refine lx_assign rfl rfl rfl ?_
      refine lx_nil ?_
      refine xs_plain (E := EE []) ?_
      refine lx_move rfl rfl rfl ?_
      refine lx_move rfl rfl rfl ?_
      refine lx_bin rfl rfl (fun _ => rfl) (fun _ => bin_add_u64 _ _ _) rfl rfl ?_
      refine lx_assign rfl rfl rfl ?_
      refine lx_nil ?_
      refine xs_plain (E := EE []) ?_
      refine lx_move rfl rfl rfl ?_
      refine lx_move rfl rfl rfl ?_
      refine lx_ext1 rfl rfl (fun w => add64k _ _ 0 _ (by decide) (k1s (b.getD i 0) a (RT a b i) 3) w) rfl rfl ?_
      refine lx_move rfl rfl rfl ?_
      refine lx_ext rfl rfl rfl rfl ?_
      refine lx_ext rfl rfl rfl rfl ?_
      refine lx_assign rfl rfl rfl ?_
      refine lx_assign rfl rfl rfl ?_
      refine lx_nil ?_
      refine xs_plain (E := EE []) ?_
      refine lx_move rfl rfl rfl ?_
      refine lx_move rfl rfl rfl ?_
      refine lx_bin (v := U64 (KC (b.getD i 0) a (RT a b i) 4)) rfl rfl (fun _ => rfl) (fun w => (bin_add_u64 _ _ _).trans (congrArg (fun z => Result.ok (U64 z) w) (k2s (b.getD i 0) a (RT a b i) 3))) rfl rfl ?_
      refine lx_assign rfl rfl rfl ?_
      refine lx_nil ?_
      refine xs_plain (E := EE []) ?_
      refine lx_ia0 (4) rfl rfl Tryd.underlying40 Tryd.sizeOf25 (by omega) (by omega) rfl rfl ?_
      refine lx_loadm 2 U64 0 rfl rfl Tryd.isAgg25 (by rw [ha]; omega) rfl rfl ?_
      refine lx_move rfl rfl rfl ?_
      refine lx_call rfl rfl ent89 (mul64_pure _ _) rfl rfl ?_
      refine lx_move rfl rfl rfl ?_
      refine lx_ext rfl rfl rfl rfl ?_
      refine lx_ext rfl rfl rfl rfl ?_
      refine lx_assign rfl rfl rfl ?_
      refine lx_assign rfl rfl rfl ?_
      refine lx_nil ?_
      refine xs_plain (E := EE []) ?_
      refine lx_move rfl rfl rfl ?_
      refine lx_move rfl rfl rfl ?_
      refine lx_ext1 rfl rfl (fun w => add64 _ _ 0 (by decide) w) rfl rfl ?_
      refine lx_move rfl rfl rfl ?_
      refine lx_ext rfl rfl rfl rfl ?_
      refine lx_ext rfl rfl rfl rfl ?_
      refine lx_assign rfl rfl rfl ?_
      refine lx_assign rfl rfl rfl ?_
      refine lx_nil ?_
      refine xs_plain (E := EE []) ?_
      refine lx_move rfl rfl rfl ?_
      refine lx_move rfl rfl rfl ?_
      refine lx_bin rfl rfl (fun _ => rfl) (fun _ => bin_add_u64 _ _ _) rfl rfl ?_
      refine lx_assign rfl rfl rfl ?_
      refine lx_nil ?_
      refine xs_plain (E := EE []) ?_
      refine lx_move rfl rfl rfl ?_
      refine lx_move rfl rfl rfl ?_
      refine lx_ext1 rfl rfl (fun w => add64k _ _ 0 _ (by decide) (k1s (b.getD i 0) a (RT a b i) 4) w) rfl rfl ?_
      refine lx_move rfl rfl rfl ?_
      refine lx_ext rfl rfl rfl rfl ?_
      refine lx_ext rfl rfl rfl rfl ?_
      refine lx_assign rfl rfl rfl ?_
      refine lx_assign rfl rfl rfl ?_
      refine lx_nil ?_
      refine xs_plain (E := EE []) ?_
      refine lx_move rfl rfl rfl ?_
      refine lx_move rfl rfl rfl ?_
      refine lx_bin (v := U64 (KC (b.getD i 0) a (RT a b i) 5)) rfl rfl (fun _ => rfl) (fun w => (bin_add_u64 _ _ _).trans (congrArg (fun z => Result.ok (U64 z) w) (k2s (b.getD i 0) a (RT a b i) 4))) rfl rfl ?_
      refine lx_assign rfl rfl rfl ?_
      refine lx_nil ?_
      refine xs_plain (E := EE []) ?_
      refine lx_ia0 (5) rfl rfl Tryd.underlying40 Tryd.sizeOf25 (by omega) (by omega) rfl rfl ?_
      refine lx_loadm 2 U64 0 rfl rfl Tryd.isAgg25 (by rw [ha]; omega) rfl rfl ?_
      refine lx_move rfl rfl rfl ?_
      refine lx_call rfl rfl ent89 (mul64_pure _ _) rfl rfl ?_
      refine lx_move rfl rfl rfl ?_
      refine lx_ext rfl rfl rfl rfl ?_
      refine lx_ext rfl rfl rfl rfl ?_
      refine lx_assign rfl rfl rfl ?_
      refine lx_assign rfl rfl rfl ?_
      refine lx_nil ?_
      refine xs_plain (E := EE []) ?_
      refine lx_move rfl rfl rfl ?_
      refine lx_move rfl rfl rfl ?_
      refine lx_ext1 rfl rfl (fun w => add64 _ _ 0 (by decide) w) rfl rfl ?_
      refine lx_move rfl rfl rfl ?_
      refine lx_ext rfl rfl rfl rfl ?_
      refine lx_ext rfl rfl rfl rfl ?_
      refine lx_assign rfl rfl rfl ?_
      refine lx_assign rfl rfl rfl ?_
      refine lx_nil ?_
      refine xs_plain (E := EE []) ?_
      refine lx_move rfl rfl rfl ?_
      refine lx_move rfl rfl rfl ?_
      refine lx_bin rfl rfl (fun _ => rfl) (fun _ => bin_add_u64 _ _ _) rfl rfl ?_
      refine lx_assign rfl rfl rfl ?_
      refine lx_nil ?_
      refine xs_plain (E := EE []) ?_
      refine lx_move rfl rfl rfl ?_
      refine lx_move rfl rfl rfl ?_
      refine lx_ext1 rfl rfl (fun w => add64k _ _ 0 _ (by decide) (k1s (b.getD i 0) a (RT a b i) 5) w) rfl rfl ?_
      refine lx_move rfl rfl rfl ?_
      refine lx_ext rfl rfl rfl rfl ?_
      refine lx_ext rfl rfl rfl rfl ?_
      refine lx_assign rfl rfl rfl ?_
      refine lx_assign rfl rfl rfl ?_
      refine lx_nil ?_
      refine xs_plain (E := EE []) ?_
      refine lx_move rfl rfl rfl ?_
      refine lx_move rfl rfl rfl ?_
      refine lx_bin (v := U64 (KC (b.getD i 0) a (RT a b i) 6)) rfl rfl (fun _ => rfl) (fun w => (bin_add_u64 _ _ _).trans (congrArg (fun z => Result.ok (U64 z) w) (k2s (b.getD i 0) a (RT a b i) 5))) rfl rfl ?_
      refine lx_assign rfl rfl rfl ?_
      refine lx_nil ?_
      refine xs_plain (E := EE []) ?_
      refine lx_move rfl rfl rfl ?_
      refine lx_assign rfl rfl rfl ?_
      refine lx_nil ?_
      refine xs_plain (E := EE []) ?_
      refine lx_move rfl rfl rfl ?_
      refine lx_bin (v := U64 (KT (b.getD i 0) a (RT a b i) 0 * INV)) rfl rfl (fun _ => rfl) (fun w => bin_mul_u64 _ _ INV) rfl rfl ?_
      refine lx_assign rfl rfl rfl ?_
      refine lx_nil ?_
      refine xs_plain (E := EE []) ?_
      refine lx_move rfl rfl rfl ?_
      refine lx_call rfl rfl ent89 (mul64_pure _ (PL.getD 0 0)) rfl rfl ?_
      refine lx_move rfl rfl rfl ?_
      refine lx_ext rfl rfl rfl rfl ?_
      refine lx_ext rfl rfl rfl rfl ?_
      refine lx_assign rfl rfl rfl ?_
      refine lx_assign rfl rfl rfl ?_
      refine lx_nil ?_
      refine xs_plain (E := EE []) ?_
      refine lx_move rfl rfl rfl ?_
      refine lx_move rfl rfl rfl ?_
      refine lx_ext1 rfl rfl (fun w => add64 _ _ 0 (by decide) w) rfl rfl ?_
      refine lx_move rfl rfl rfl ?_
      refine lx_ext rfl rfl rfl rfl ?_
      refine lx_ext rfl rfl rfl rfl ?_
      refine lx_assign rfl rfl rfl ?_
      refine lx_nil ?_
      refine xs_plain (E := EE []) ?_
      refine lx_move rfl rfl rfl ?_
      refine lx_move rfl rfl rfl ?_
      refine lx_bin (v := U64 (KD (KT (b.getD i 0) a (RT a b i) 0 * INV) PL (T1 (b.getD i 0) a (RT a b i)) 0)) rfl rfl (fun _ => rfl) (fun w => (bin_add_u64 _ _ _).trans (congrArg (fun z => Result.ok (U64 z) w) (d2z (b.getD i 0) (KT (b.getD i 0) a (RT a b i) 0 * INV) a (RT a b i)))) rfl rfl ?_
      refine lx_assign rfl rfl rfl ?_
      refine lx_nil ?_
      refine xs_plain (E := EE []) ?_
      refine lx_move rfl rfl rfl ?_
      refine lx_call rfl rfl ent89 (mul64_pure _ (PL.getD 1 0)) rfl rfl ?_
      refine lx_move rfl rfl rfl ?_
      refine lx_ext rfl rfl rfl rfl ?_
      refine lx_ext rfl rfl rfl rfl ?_
      refine lx_assign rfl rfl rfl ?_
      refine lx_assign rfl rfl rfl ?_
      refine lx_nil ?_
      refine xs_plain (E := EE []) ?_
      refine lx_move rfl rfl rfl ?_
      refine lx_move rfl rfl rfl ?_
      refine lx_ext1 rfl rfl (fun w => add64 _ _ 0 (by decide) w) rfl rfl ?_
      refine lx_move rfl rfl rfl ?_
      refine lx_ext rfl rfl rfl rfl ?_
      refine lx_ext rfl rfl rfl rfl ?_
      refine lx_assign rfl rfl rfl ?_
      refine lx_assign rfl rfl rfl ?_
      refine lx_nil ?_
      refine xs_plain (E := EE []) ?_
      refine lx_move rfl rfl rfl ?_
      refine lx_move rfl rfl rfl ?_
      refine lx_bin rfl rfl (fun _ => rfl) (fun _ => bin_add_u64 _ _ _) rfl rfl ?_
      refine lx_assign rfl rfl rfl ?_
      refine lx_nil ?_
      refine xs_plain (E := EE []) ?_
      refine lx_move rfl rfl rfl ?_
      refine lx_move rfl rfl rfl ?_
      refine lx_ext1 rfl rfl (fun w => add64k _ _ 0 _ (by decide) (d1s (b.getD i 0) (KT (b.getD i 0) a (RT a b i) 0 * INV) a (RT a b i) 0 (by decide)) w) rfl rfl ?_
      refine lx_move rfl rfl rfl ?_
      refine lx_ext rfl rfl rfl rfl ?_
      refine lx_ext rfl rfl rfl rfl ?_
      refine lx_assign rfl rfl rfl ?_
      refine lx_assign rfl rfl rfl ?_
      refine lx_nil ?_
      refine xs_plain (E := EE []) ?_
      refine lx_move rfl rfl rfl ?_
      refine lx_move rfl rfl rfl ?_
      refine lx_bin (v := U64 (KD (KT (b.getD i 0) a (RT a b i) 0 * INV) PL (T1 (b.getD i 0) a (RT a b i)) 1)) rfl rfl (fun _ => rfl) (fun w => (bin_add_u64 _ _ _).trans (congrArg (fun z => Result.ok (U64 z) w) (d2s (b.getD i 0) (KT (b.getD i 0) a (RT a b i) 0 * INV) a (RT a b i) 0 (by decide)))) rfl rfl ?_
      refine lx_assign rfl rfl rfl ?_
      refine lx_nil ?_
      refine xs_plain (E := EE []) ?_
      refine lx_move rfl rfl rfl ?_
      refine lx_call rfl rfl ent89 (mul64_pure _ (PL.getD 2 0)) rfl rfl ?_
      refine lx_move rfl rfl rfl ?_
      refine lx_ext rfl rfl rfl rfl ?_
      refine lx_ext rfl rfl rfl rfl ?_
      refine lx_assign rfl rfl rfl ?_
      refine lx_assign rfl rfl rfl ?_
      refine lx_nil ?_
      refine xs_plain (E := EE []) ?_
      refine lx_move rfl rfl rfl ?_
      refine lx_move rfl rfl rfl ?_
      refine lx_ext1 rfl rfl (fun w => add64 _ _ 0 (by decide) w) rfl rfl ?_
      refine lx_move rfl rfl rfl ?_
      refine lx_ext rfl rfl rfl rfl ?_
      refine lx_ext rfl rfl rfl rfl ?_
      refine lx_assign rfl rfl rfl ?_
      refine lx_assign rfl rfl rfl ?_
      refine lx_nil ?_
      refine xs_plain (E := EE []) ?_
      refine lx_move rfl rfl rfl ?_
      refine lx_move rfl rfl rfl ?_
      refine lx_bin rfl rfl (fun _ => rfl) (fun _ => bin_add_u64 _ _ _) rfl rfl ?_
      refine lx_assign rfl rfl rfl ?_
      refine lx_nil ?_
      refine xs_plain (E := EE []) ?_
      refine lx_move rfl rfl rfl ?_
      refine lx_move rfl rfl rfl ?_
      refine lx_ext1 rfl rfl (fun w => add64k _ _ 0 _ (by decide) (d1s (b.getD i 0) (KT (b.getD i 0) a (RT a b i) 0 * INV) a (RT a b i) 1 (by decide)) w) rfl rfl ?_
      refine lx_move rfl rfl rfl ?_
      refine lx_ext rfl rfl rfl rfl ?_
      refine lx_ext rfl rfl rfl rfl ?_
      refine lx_assign rfl rfl rfl ?_
      refine lx_assign rfl rfl rfl ?_
      refine lx_nil ?_
      refine xs_plain (E := EE []) ?_
      refine lx_move rfl rfl rfl ?_
      refine lx_move rfl rfl rfl ?_
      refine lx_bin (v := U64 (KD (KT (b.getD i 0) a (RT a b i) 0 * INV) PL (T1 (b.getD i 0) a (RT a b i)) 2)) rfl rfl (fun _ => rfl) (fun w => (bin_add_u64 _ _ _).trans (congrArg (fun z => Result.ok (U64 z) w) (d2s (b.getD i 0) (KT (b.getD i 0) a (RT a b i) 0 * INV) a (RT a b i) 1 (by decide)))) rfl rfl ?_
      refine lx_assign rfl rfl rfl ?_
      refine lx_nil ?_
      refine xs_plain (E := EE []) ?_
      refine lx_move rfl rfl rfl ?_
      refine lx_call rfl rfl ent89 (mul64_pure _ (PL.getD 3 0)) rfl rfl ?_
      refine lx_move rfl rfl rfl ?_
      refine lx_ext rfl rfl rfl rfl ?_
      refine lx_ext rfl rfl rfl rfl ?_
      refine lx_assign rfl rfl rfl ?_
      refine lx_assign rfl rfl rfl ?_
      refine lx_nil ?_
      refine xs_plain (E := EE []) ?_
      refine lx_move rfl rfl rfl ?_
      refine lx_move rfl rfl rfl ?_
      refine lx_ext1 rfl rfl (fun w => add64 _ _ 0 (by decide) w) rfl rfl ?_
      refine lx_move rfl rfl rfl ?_
      refine lx_ext rfl rfl rfl rfl ?_
      refine lx_ext rfl rfl rfl rfl ?_
      refine lx_assign rfl rfl rfl ?_
      refine lx_assign rfl rfl rfl ?_
      refine lx_nil ?_
      refine xs_plain (E := EE []) ?_
      refine lx_move rfl rfl rfl ?_
      refine lx_move rfl rfl rfl ?_
      refine lx_bin rfl rfl (fun _ => rfl) (fun _ => bin_add_u64 _ _ _) rfl rfl ?_
      refine lx_assign rfl rfl rfl ?_
      refine lx_nil ?_
      refine xs_plain (E := EE []) ?_
      refine lx_move rfl rfl rfl ?_
      refine lx_move rfl rfl rfl ?_
      refine lx_ext1 rfl rfl (fun w => add64k _ _ 0 _ (by decide) (d1s (b.getD i 0) (KT (b.getD i 0) a (RT a b i) 0 * INV) a (RT a b i) 2 (by decide)) w) rfl rfl ?_
      refine lx_move rfl rfl rfl ?_
      refine lx_ext rfl rfl rfl rfl ?_
      refine lx_ext rfl rfl rfl rfl ?_
      refine lx_assign rfl rfl rfl ?_
      refine lx_assign rfl rfl rfl ?_
      refine lx_nil ?_
      refine xs_plain (E := EE []) ?_
      refine lx_move rfl rfl rfl ?_
      refine lx_move rfl rfl rfl ?_
      refine lx_bin (v := U64 (KD (KT (b.getD i 0) a (RT a b i) 0 * INV) PL (T1 (b.getD i 0) a (RT a b i)) 3)) rfl rfl (fun _ => rfl) (fun w => (bin_add_u64 _ _ _).trans (congrArg (fun z => Result.ok (U64 z) w) (d2s (b.getD i 0) (KT (b.getD i 0) a (RT a b i) 0 * INV) a (RT a b i) 2 (by decide)))) rfl rfl ?_
      refine lx_assign rfl rfl rfl ?_
      refine lx_nil ?_
      refine xs_plain (E := EE []) ?_
      refine lx_move rfl rfl rfl ?_
      refine lx_call rfl rfl ent89 (mul64_pure _ (PL.getD 4 0)) rfl rfl ?_
      refine lx_move rfl rfl rfl ?_
      refine lx_ext rfl rfl rfl rfl ?_
      refine lx_ext rfl rfl rfl rfl ?_
      refine lx_assign rfl rfl rfl ?_
      refine lx_assign rfl rfl rfl ?_
      refine lx_nil ?_
      refine xs_plain (E := EE []) ?_
      refine lx_move rfl rfl rfl ?_
      refine lx_move rfl rfl rfl ?_
      refine lx_ext1 rfl rfl (fun w => add64 _ _ 0 (by decide) w) rfl rfl ?_
      refine lx_move rfl rfl rfl ?_
      refine lx_ext rfl rfl rfl rfl ?_
      refine lx_ext rfl rfl rfl rfl ?_
      refine lx_assign rfl rfl rfl ?_
      refine lx_assign rfl rfl rfl ?_
      refine lx_nil ?_
      refine xs_plain (E := EE []) ?_
      refine lx_move rfl rfl rfl ?_
      refine lx_move rfl rfl rfl ?_
      refine lx_bin rfl rfl (fun _ => rfl) (fun _ => bin_add_u64 _ _ _) rfl rfl ?_
      refine lx_assign rfl rfl rfl ?_
      refine lx_nil ?_
      refine xs_plain (E := EE []) ?_
      refine lx_move rfl rfl rfl ?_
      refine lx_move rfl rfl rfl ?_
      refine lx_ext1 rfl rfl (fun w => add64k _ _ 0 _ (by decide) (d1s (b.getD i 0) (KT (b.getD i 0) a (RT a b i) 0 * INV) a (RT a b i) 3 (by decide)) w) rfl rfl ?_
      refine lx_move rfl rfl rfl ?_
      refine lx_ext rfl rfl rfl rfl ?_
      refine lx_ext rfl rfl rfl rfl ?_
      refine lx_assign rfl rfl rfl ?_
      refine lx_assign rfl rfl rfl ?_
      refine lx_nil ?_
      refine xs_plain (E := EE []) ?_
      refine lx_move rfl rfl rfl ?_
      refine lx_move rfl rfl rfl ?_
      refine lx_bin (v := U64 (KD (KT (b.getD i 0) a (RT a b i) 0 * INV) PL (T1 (b.getD i 0) a (RT a b i)) 4)) rfl rfl (fun _ => rfl) (fun w => (bin_add_u64 _ _ _).trans (congrArg (fun z => Result.ok (U64 z) w) (d2s (b.getD i 0) (KT (b.getD i 0) a (RT a b i) 0 * INV) a (RT a b i) 3 (by decide)))) rfl rfl ?_
      refine lx_assign rfl rfl rfl ?_
      refine lx_nil ?_
      refine xs_plain (E := EE []) ?_
      refine lx_move rfl rfl rfl ?_
      refine lx_call rfl rfl ent89 (mul64_pure _ (PL.getD 5 0)) rfl rfl ?_
      refine lx_move rfl rfl rfl ?_
      refine lx_ext rfl rfl rfl rfl ?_
      refine lx_ext rfl rfl rfl rfl ?_
      refine lx_assign rfl rfl rfl ?_
      refine lx_assign rfl rfl rfl ?_
      refine lx_nil ?_
      refine xs_plain (E := EE []) ?_
      refine lx_move rfl rfl rfl ?_
      refine lx_move rfl rfl rfl ?_
      refine lx_ext1 rfl rfl (fun w => add64 _ _ 0 (by decide) w) rfl rfl ?_
      refine lx_move rfl rfl rfl ?_
      refine lx_ext rfl rfl rfl rfl ?_
      refine lx_ext rfl rfl rfl rfl ?_
      refine lx_assign rfl rfl rfl ?_
      refine lx_assign rfl rfl rfl ?_
      refine lx_nil ?_
      refine xs_plain (E := EE []) ?_
      refine lx_move rfl rfl rfl ?_
      refine lx_move rfl rfl rfl ?_
      refine lx_bin rfl rfl (fun _ => rfl) (fun _ => bin_add_u64 _ _ _) rfl rfl ?_
      refine lx_assign rfl rfl rfl ?_
      refine lx_nil ?_
      refine xs_plain (E := EE []) ?_
      refine lx_move rfl rfl rfl ?_
      refine lx_move rfl rfl rfl ?_
      refine lx_ext1 rfl rfl (fun w => add64k _ _ 0 _ (by decide) (d1s (b.getD i 0) (KT (b.getD i 0) a (RT a b i) 0 * INV) a (RT a b i) 4 (by decide)) w) rfl rfl ?_
      refine lx_move rfl rfl rfl ?_
      refine lx_ext rfl rfl rfl rfl ?_
      refine lx_ext rfl rfl rfl rfl ?_
      refine lx_assign rfl rfl rfl ?_
      refine lx_assign rfl rfl rfl ?_
      refine lx_nil ?_
      refine xs_plain (E := EE []) ?_
      refine lx_move rfl rfl rfl ?_
      refine lx_move rfl rfl rfl ?_
      refine lx_bin (v := U64 (KD (KT (b.getD i 0) a (RT a b i) 0 * INV) PL (T1 (b.getD i 0) a (RT a b i)) 5)) rfl rfl (fun _ => rfl) (fun w => (bin_add_u64 _ _ _).trans (congrArg (fun z => Result.ok (U64 z) w) (d2s (b.getD i 0) (KT (b.getD i 0) a (RT a b i) 0 * INV) a (RT a b i) 4 (by decide)))) rfl rfl ?_
      refine lx_assign rfl rfl rfl ?_
      refine lx_nil ?_
      refine x_plain (E := EE []) ?_
      refine lx_move rfl rfl rfl ?_
      refine lx_move rfl rfl rfl ?_
      refine lx_bin rfl rfl (fun _ => rfl) (fun _ => bin_add_u64 _ _ _) rfl rfl ?_
      refine lx_assign rfl rfl rfl ?_
      refine lx_nil ?_
      refine x_plain (E := EE []) ?_
      refine lx_move rfl rfl rfl ?_
      refine lx_bin rfl rfl (fun _ => rfl) (fun _ => bin_add_i _ _ _ (by unfold inI; omega)) rfl rfl ?_
      refine lx_assign rfl rfl rfl ?_
      refine lx_nil ?_
      repeat (refine kblk_n ?_)
      refine kseq_n ?_
      exact ⟨rfl, ⟨i + 1, by omega⟩, _, by show 6 - (i + 1) < 6 - i; omega, rfl, ⟨rfl, rfl, rfl, congrArg (fun z => some (U64 z)) (RT_n a b i 0 (by decide)).symm, congrArg (fun z => some (U64 z)) (RT_n a b i 1 (by decide)).symm, congrArg (fun z => some (U64 z)) (RT_n a b i 2 (by decide)).symm, congrArg (fun z => some (U64 z)) (RT_n a b i 3 (by decide)).symm, congrArg (fun z => some (U64 z)) (RT_n a b i 4 (by decide)).symm, congrArg (fun z => some (U64 z)) (RT_top a b i).symm, rfl, trivial⟩, ⟨rfl, rfl, rfl, trivial⟩⟩
    · obtain rfl : i = 6 := by simp at hc; omega
      refine x_exit ?_
      refine xs_plain (E := EE []) ?_
      refine lx_move rfl rfl rfl ?_
      refine lx_move rfl rfl rfl ?_
      refine lx_move rfl rfl rfl ?_
      refine lx_move rfl rfl rfl ?_
      refine lx_move rfl rfl rfl ?_
      refine lx_move rfl rfl rfl ?_
      refine lx_buildr (n := 6) (vs := (RT a b 6).map U64) (congrArg some (six_map (RT a b 6) (RT_len _ _ _))) rfl Tryd.underlying40 Tryd.sizeOf25 Tryd.zeroValue40 (by rw [List.length_map, RT_len]; rfl) (one_u64 _) rfl rfl ?_
      refine lx_allocr 19 hGF zv40 rfl rfl ?_
      intro b19
      refine lx_storea 19 hGF rfl rfl rfl Tryd.sizeOf40 (by rw [List.length_map, RT_len _ _ _]) (by rw [List.length_map, List.length_replicate]) (one_u64 _) rfl ?_
      refine lx_nil ?_
      refine x_seq ?_
      refine xs_drawA (E := EE [2999999]) [0, 1, 2, 3, 4, 5] [⟨6, 20, 40, (List.replicate 6 0#64).map U64⟩] [7, 8] mixed rfl (by kernel_rfl) (by kernel_rfl) (by kernel_rfl) (by kernel_rfl) (by kernel_rfl) (by kernel_rfl) (by decide) (by intro x hx; simp only [List.mem_cons, List.not_mem_nil, or_false] at hx; subst hx; exact isAlloc_mk rfl zv40 rfl) ?_
      refine lx_loada 19 rfl rfl Tryd.isAgg40 Tryd.sizeOf40 (by rw [List.length_map, RT_len _ _ _]) rfl rfl ?_
      refine lx_call rfl rfl ent91 (rp_pure) rfl rfl ?_
      refine lx_call rfl rfl ent90 (rsub_pure _ _ (RT_len _ _ _) rfl) rfl rfl ?_
      refine lx_move rfl rfl rfl ?_
      refine lx_ext rfl rfl rfl rfl ?_
      refine lx_ext rfl rfl rfl rfl ?_
      refine lx_nil ?_
      refine ⟨_, _, rfl, hGF, by intro x hx; simp only [List.mem_cons, List.not_mem_nil, or_false] at hx; subst hx; rfl, by intro x hx; simp only [List.mem_cons, List.not_mem_nil, or_false] at hx; subst hx; rfl, fun adr => ?_⟩
      refine lx_storea 20 hGF rfl rfl rfl Tryd.sizeOf40 (by rw [List.length_map, SS_len _ _ _]) (by rw [List.length_map, List.length_replicate]) (one_u64 _) rfl ?_
      refine lx_assign rfl rfl rfl ?_
      refine lx_nil ?_
      refine xs_plain (E := EE []) ?_
      refine lx_move rfl rfl rfl ?_
      refine lx_bin (v := .bool true) rfl rfl (fun _ => rfl) (fun w => (bin_eql_u64 _ _ _).trans (congrArg (fun b => Result.ok (Value.bool b) w) (beq_iff_eq.2 h0))) rfl rfl ?_
      refine lx_nil ?_
      refine x_true rfl ?_
      refine x_plain (E := EE []) ?_
      refine lx_loada 20 rfl rfl Tryd.isAgg40 Tryd.sizeOf40 (by rw [List.length_map, SS_len _ _ _]) rfl rfl ?_
      refine lx_storea 19 hGF rfl rfl rfl Tryd.sizeOf40 (by rw [List.length_map, SS_len _ _ _]) (by rw [List.length_map, RT_len _ _ _]) (one_u64 _) rfl ?_
      refine lx_nil ?_
      refine xs_plain (E := EE []) ?_
      refine lx_loada 19 rfl rfl Tryd.isAgg40 Tryd.sizeOf40 (by rw [List.length_map, SS_len _ _ _]) rfl rfl ?_
      refine lx_storea 4 hGF rfl rfl rfl Tryd.sizeOf40 (by rw [List.length_map, SS_len _ _ _]) (by rw [List.length_map, List.length_replicate]) (one_u64 _) rfl ?_
      refine lx_nil ?_
      refine x_ret ?_
      repeat (first | refine kseq_ret ?_ | refine kblk_ret ?_)
      exact kret_own 4 rfl rfl rfl Tryd.isAgg40 Tryd.sizeOf40 (by rw [List.length_map, SS_len]) (fun w hw => ⟨by rw [RM, if_pos h0], hp_below hw⟩)
  · skip
    refine xs_plain (E := EE []) ?_
    refine lx_boxr 2 hGF rfl rfl rfl ?_
    intro b2
    refine lx_boxr 3 hGF rfl rfl rfl ?_
    intro b3
    refine lx_allocr 4 hGF zv40 rfl rfl ?_
    intro b4
    refine lx_nil ?_
    refine xs_plain (E := EE []) ?_
    refine lx_assign rfl rfl rfl ?_
    refine lx_assign rfl rfl rfl ?_
    refine lx_assign rfl rfl rfl ?_
    refine lx_assign rfl rfl rfl ?_
    refine lx_assign rfl rfl rfl ?_
    refine lx_assign rfl rfl rfl ?_
    refine lx_nil ?_
    refine x_seq ?_
    refine xs_plain (E := EE []) ?_
    refine lx_assign rfl rfl rfl ?_
    refine lx_nil ?_
    refine x_block ?_
    refine x_for (ι := { i : Nat // i ≤ 6 }) (fun x => [(2, .pointer (some ⟨b2, 0, none⟩)), (3, .pointer (some ⟨b3, 0, none⟩)), (4, .pointer (some ⟨b4, 0, none⟩)), (5, U64 ((RT a b x.1).getD 0 0)), (6, U64 ((RT a b x.1).getD 1 0)), (7, U64 ((RT a b x.1).getD 2 0)), (8, U64 ((RT a b x.1).getD 3 0)), (9, U64 ((RT a b x.1).getD 4 0)), (10, U64 ((RT a b x.1).getD 5 0)), (11, I (x.1 : Int))]) (fun x => [(2, b2, a.map U64, 40), (3, b3, b.map U64, 40), (4, b4, (List.replicate 6 0#64).map U64, 40)]) (fun x => 6 - x.1) ⟨0, by omega⟩ hGF ⟨rfl, rfl, rfl, rfl, rfl, rfl, rfl, rfl, rfl, rfl, trivial⟩ ⟨rfl, rfl, rfl, trivial⟩ ?_
    rintro ⟨i, hi⟩
    dsimp only
    refine x_seq ?_
    refine xs_plain (E := EE []) ?_
    refine lx_move rfl rfl rfl ?_
    refine lx_bin rfl rfl (fun _ => rfl) (fun _ => bin_lss_i _ _ _) rfl rfl ?_
    refine lx_nil ?_
    refine x_if rfl (fun hc => ?_) (fun hc => ?_)
    · simp only [decide_eq_true_eq] at hc
      refine x_skip ?_
      refine x_seq ?_
      refine x_block ?_
      refine xs_plain (E := EE []) ?_
      refine lx_assign rfl rfl rfl ?_
      refine lx_assign rfl rfl rfl ?_
      refine lx_assign rfl rfl rfl ?_
      refine lx_assign rfl rfl rfl ?_
      refine lx_nil ?_
      refine xs_plain (E := EE []) ?_
      refine lx_move rfl rfl rfl ?_
      refine lx_ia0 (i) rfl rfl Tryd.underlying40 Tryd.sizeOf25 (by omega) (by omega) rfl rfl ?_
      refine lx_loadm 3 U64 0 rfl rfl Tryd.isAgg25 (by rw [hb]; omega) rfl rfl ?_
      refine lx_assign rfl rfl rfl ?_
      refine lx_nil ?_
      refine xs_plain (E := EE []) ?_
      refine lx_ia0 (0) rfl rfl Tryd.underlying40 Tryd.sizeOf25 (by omega) (by omega) rfl rfl ?_
      refine lx_loadm 2 U64 0 rfl rfl Tryd.isAgg25 (by rw [ha]; omega) rfl rfl ?_
      refine lx_move rfl rfl rfl ?_
      refine lx_call rfl rfl ent89 (mul64_pure _ _) rfl rfl ?_
      refine lx_move rfl rfl rfl ?_
      refine lx_ext rfl rfl rfl rfl ?_
      refine lx_ext rfl rfl rfl rfl ?_
      refine lx_assign rfl rfl rfl ?_
      refine lx_assign rfl rfl rfl ?_
      refine lx_nil ?_
      refine xs_plain (E := EE []) ?_
      refine lx_move rfl rfl rfl ?_
      refine lx_move rfl rfl rfl ?_
      refine lx_ext1 rfl rfl (fun w => add64k _ _ 0 _ (by decide) (k1z (b.getD i 0) a (RT a b i)) w) rfl rfl ?_
      refine lx_move rfl rfl rfl ?_
      refine lx_ext rfl rfl rfl rfl ?_
      refine lx_ext rfl rfl rfl rfl ?_
      refine lx_assign rfl rfl rfl ?_
      refine lx_assign rfl rfl rfl ?_
      refine lx_nil ?_
      refine xs_plain (E := EE []) ?_
      refine lx_move rfl rfl rfl ?_
      refine lx_move rfl rfl rfl ?_
      refine lx_bin (v := U64 (KC (b.getD i 0) a (RT a b i) 1)) rfl rfl (fun _ => rfl) (fun w => (bin_add_u64 _ _ _).trans (congrArg (fun z => Result.ok (U64 z) w) (k2z (b.getD i 0) a (RT a b i)))) rfl rfl ?_
      refine lx_assign rfl rfl rfl ?_
      refine lx_nil ?_
      refine xs_plain (E := EE []) ?_
      refine lx_ia0 (1) rfl rfl Tryd.underlying40 Tryd.sizeOf25 (by omega) (by omega) rfl rfl ?_
      refine lx_loadm 2 U64 0 rfl rfl Tryd.isAgg25 (by rw [ha]; omega) rfl rfl ?_
      refine lx_move rfl rfl rfl ?_
      refine lx_call rfl rfl ent89 (mul64_pure _ _) rfl rfl ?_
      refine lx_move rfl rfl rfl ?_
      refine lx_ext rfl rfl rfl rfl ?_
      refine lx_ext rfl rfl rfl rfl ?_
      refine lx_assign rfl rfl rfl ?_
      refine lx_assign rfl rfl rfl ?_
      refine lx_nil ?_
      refine xs_plain (E := EE []) ?_
      refine lx_move rfl rfl rfl ?_
      refine lx_move rfl rfl rfl ?_
      refine lx_ext1 rfl rfl (fun w => add64 _ _ 0 (by decide) w) rfl rfl ?_
      refine lx_move rfl rfl rfl ?_
      refine lx_ext rfl rfl rfl rfl ?_
      refine lx_ext rfl rfl rfl rfl ?_
      refine lx_assign rfl rfl rfl ?_
      refine lx_assign rfl rfl rfl ?_
      refine lx_nil ?_
      refine xs_plain (E := EE []) ?_
      refine lx_move rfl rfl rfl ?_
      refine lx_move rfl rfl rfl ?_
      refine lx_bin rfl rfl (fun _ => rfl) (fun _ => bin_add_u64 _ _ _) rfl rfl ?_
      refine lx_assign rfl rfl rfl ?_
      refine lx_nil ?_
      refine xs_plain (E := EE []) ?_
      refine lx_move rfl rfl rfl ?_
      refine lx_move rfl rfl rfl ?_
      refine lx_ext1 rfl rfl (fun w => add64k _ _ 0 _ (by decide) (k1s (b.getD i 0) a (RT a b i) 1) w) rfl rfl ?_
      refine lx_move rfl rfl rfl ?_
      refine lx_ext rfl rfl rfl rfl ?_
      refine lx_ext rfl rfl rfl rfl ?_
      refine lx_assign rfl rfl rfl ?_
      refine lx_assign rfl rfl rfl ?_
      refine lx_nil ?_
      refine xs_plain (E := EE []) ?_
      refine lx_move rfl rfl rfl ?_
      refine lx_move rfl rfl rfl ?_
      refine lx_bin (v := U64 (KC (b.getD i 0) a (RT a b i) 2)) rfl rfl (fun _ => rfl) (fun w => (bin_add_u64 _ _ _).trans (congrArg (fun z => Result.ok (U64 z) w) (k2s (b.getD i 0) a (RT a b i) 1))) rfl rfl ?_
      refine lx_assign rfl rfl rfl ?_
      refine lx_nil ?_
      refine xs_plain (E := EE []) ?_
      refine lx_ia0 (2) rfl rfl Tryd.underlying40 Tryd.sizeOf25 (by omega) (by omega) rfl rfl ?_
      refine lx_loadm 2 U64 0 rfl rfl Tryd.isAgg25 (by rw [ha]; omega) rfl rfl ?_
      refine lx_move rfl rfl rfl ?_
      refine lx_call rfl rfl ent89 (mul64_pure _ _) rfl rfl ?_
      refine lx_move rfl rfl rfl ?_
      refine lx_ext rfl rfl rfl rfl ?_
      refine lx_ext rfl rfl rfl rfl ?_
      refine lx_assign rfl rfl rfl ?_
      refine lx_assign rfl rfl rfl ?_
      refine lx_nil ?_
      refine xs_plain (E := EE []) ?_
      refine lx_move rfl rfl rfl ?_
      refine lx_move rfl rfl rfl ?_
      refine lx_ext1 rfl rfl (fun w => add64 _ _ 0 (by decide) w) rfl rfl ?_
      refine lx_move rfl rfl rfl ?_
      refine lx_ext rfl rfl rfl rfl ?_
      refine lx_ext rfl rfl rfl rfl ?_
      refine lx_assign rfl rfl rfl ?_
      refine lx_assign rfl rfl rfl ?_
      refine lx_nil ?_
      refine xs_plain (E := EE []) ?_
      refine lx_move rfl rfl rfl ?_
      refine lx_move rfl rfl rfl ?_
      refine lx_bin rfl rfl (fun _ => rfl) (fun _ => bin_add_u64 _ _ _) rfl rfl ?_
      refine lx_assign rfl rfl rfl ?_
      refine lx_nil ?_
      refine xs_plain (E := EE []) ?_
      refine lx_move rfl rfl rfl ?_
      refine lx_move rfl rfl rfl ?_
      refine lx_ext1 rfl rfl (fun w => add64k _ _ 0 _ (by decide) (k1s (b.getD i 0) a (RT a b i) 2) w) rfl rfl ?_
      refine lx_move rfl rfl rfl ?_
      refine lx_ext rfl rfl rfl rfl ?_
      refine lx_ext rfl rfl rfl rfl ?_
      refine lx_assign rfl rfl rfl ?_
      refine lx_assign rfl rfl rfl ?_
      refine lx_nil ?_
      refine xs_plain (E := EE []) ?_
      refine lx_move rfl rfl rfl ?_
      refine lx_move rfl rfl rfl ?_
      refine lx_bin (v := U64 (KC (b.getD i 0) a (RT a b i) 3)) rfl rfl (fun _ => rfl) (fun w => (bin_add_u64 _ _ _).trans (congrArg (fun z => Result.ok (U64 z) w) (k2s (b.getD i 0) a (RT a b i) 2))) rfl rfl ?_
      refine lx_assign rfl rfl rfl ?_
      refine lx_nil ?_
      refine xs_plain (E := EE []) ?_
      refine lx_ia0 (3) rfl rfl Tryd.underlying40 Tryd.sizeOf25 (by omega) (by omega) rfl rfl ?_
      refine lx_loadm 2 U64 0 rfl rfl Tryd.isAgg25 (by rw [ha]; omega) rfl rfl ?_
      refine lx_move rfl rfl rfl ?_
      refine lx_call rfl rfl ent89 (mul64_pure _ _) rfl rfl ?_
      refine lx_move rfl rfl rfl ?_
      refine lx_ext rfl rfl rfl rfl ?_
      refine lx_ext rfl rfl rfl rfl ?_
      refine lx_assign rfl rfl rfl ?_
      refine lx_assign rfl rfl rfl ?_
      refine lx_nil ?_
      refine xs_plain (E := EE []) ?_
      refine lx_move rfl rfl rfl ?_
      refine lx_move rfl rfl rfl ?_
      refine lx_ext1 rfl rfl (fun w => add64 _ _ 0 (by decide) w) rfl rfl ?_
      refine lx_move rfl rfl rfl ?_
      refine lx_ext rfl rfl rfl rfl ?_
      refine lx_ext rfl rfl rfl rfl ?_
      refine lx_assign rfl rfl rfl ?_
      refine lx_assign rfl rfl rfl ?_
      refine lx_nil ?_
      refine xs_plain (E := EE []) ?_
      refine lx_move rfl rfl rfl ?_
      refine lx_move rfl rfl rfl ?_
      refine lx_bin rfl rfl (fun _ => rfl) (fun _ => bin_add_u64 _ _ _) rfl rfl ?_
      refine lx_assign rfl rfl rfl ?_
      refine lx_nil ?_
      refine xs_plain (E := EE []) ?_
      refine lx_move rfl rfl rfl ?_
      refine lx_move rfl rfl rfl ?_
      refine lx_ext1 rfl rfl (fun w => add64k _ _ 0 _ (by decide) (k1s (b.getD i 0) a (RT a b i) 3) w) rfl rfl ?_
      refine lx_move rfl rfl rfl ?_
      refine lx_ext rfl rfl rfl rfl ?_
      refine lx_ext rfl rfl rfl rfl ?_
      refine lx_assign rfl rfl rfl ?_
      refine lx_assign rfl rfl rfl ?_
      refine lx_nil ?_
      refine xs_plain (E := EE []) ?_
      refine lx_move rfl rfl rfl ?_
      refine lx_move rfl rfl rfl ?_
      refine lx_bin (v := U64 (KC (b.getD i 0) a (RT a b i) 4)) rfl rfl (fun _ => rfl) (fun w => (bin_add_u64 _ _ _).trans (congrArg (fun z => Result.ok (U64 z) w) (k2s (b.getD i 0) a (RT a b i) 3))) rfl rfl ?_
      refine lx_assign rfl rfl rfl ?_
      refine lx_nil ?_
      refine xs_plain (E := EE []) ?_
      refine lx_ia0 (4) rfl rfl Tryd.underlying40 Tryd.sizeOf25 (by omega) (by omega) rfl rfl ?_
      refine lx_loadm 2 U64 0 rfl rfl Tryd.isAgg25 (by rw [ha]; omega) rfl rfl ?_
      refine lx_move rfl rfl rfl ?_
      refine lx_call rfl rfl ent89 (mul64_pure _ _) rfl rfl ?_
      refine lx_move rfl rfl rfl ?_
      refine lx_ext rfl rfl rfl rfl ?_
      refine lx_ext rfl rfl rfl rfl ?_
      refine lx_assign rfl rfl rfl ?_
      refine lx_assign rfl rfl rfl ?_
      refine lx_nil ?_
      refine xs_plain (E := EE []) ?_
      refine lx_move rfl rfl rfl ?_
      refine lx_move rfl rfl rfl ?_
      refine lx_ext1 rfl rfl (fun w => add64 _ _ 0 (by decide) w) rfl rfl ?_
      refine lx_move rfl rfl rfl ?_
      refine lx_ext rfl rfl rfl rfl ?_
      refine lx_ext rfl rfl rfl rfl ?_
      refine lx_assign rfl rfl rfl ?_
      refine lx_assign rfl rfl rfl ?_
      refine lx_nil ?_
      refine xs_plain (E := EE []) ?_
      refine lx_move rfl rfl rfl ?_
      refine lx_move rfl rfl rfl ?_
      refine lx_bin rfl rfl (fun _ => rfl) (fun _ => bin_add_u64 _ _ _) rfl rfl ?_
      refine lx_assign rfl rfl rfl ?_
      refine lx_nil ?_
      refine xs_plain (E := EE []) ?_
      refine lx_move rfl rfl rfl ?_
      refine lx_move rfl rfl rfl ?_
      refine lx_ext1 rfl rfl (fun w => add64k _ _ 0 _ (by decide) (k1s (b.getD i 0) a (RT a b i) 4) w) rfl rfl ?_
      refine lx_move rfl rfl rfl ?_
      refine lx_ext rfl rfl rfl rfl ?_
      refine lx_ext rfl rfl rfl rfl ?_
      refine lx_assign rfl rfl rfl ?_
      refine lx_assign rfl rfl rfl ?_
      refine lx_nil ?_
      refine xs_plain (E := EE []) ?_
      refine lx_move rfl rfl rfl ?_
      refine lx_move rfl rfl rfl ?_
      refine lx_bin (v := U64 (KC (b.getD i 0) a (RT a b i) 5)) rfl rfl (fun _ => rfl) (fun w => (bin_add_u64 _ _ _).trans (congrArg (fun z => Result.ok (U64 z) w) (k2s (b.getD i 0) a (RT a b i) 4))) rfl rfl ?_
      refine lx_assign rfl rfl rfl ?_
      refine lx_nil ?_
      refine xs_plain (E := EE []) ?_
      refine lx_ia0 (5) rfl rfl Tryd.underlying40 Tryd.sizeOf25 (by omega) (by omega) rfl rfl ?_
      refine lx_loadm 2 U64 0 rfl rfl Tryd.isAgg25 (by rw [ha]; omega) rfl rfl ?_
      refine lx_move rfl rfl rfl ?_
      refine lx_call rfl rfl ent89 (mul64_pure _ _) rfl rfl ?_
      refine lx_move rfl rfl rfl ?_
      refine lx_ext rfl rfl rfl rfl ?_
      refine lx_ext rfl rfl rfl rfl ?_
      refine lx_assign rfl rfl rfl ?_
      refine lx_assign rfl rfl rfl ?_
      refine lx_nil ?_
      refine xs_plain (E := EE []) ?_
      refine lx_move rfl rfl rfl ?_
      refine lx_move rfl rfl rfl ?_
      refine lx_ext1 rfl rfl (fun w => add64 _ _ 0 (by decide) w) rfl rfl ?_
      refine lx_move rfl rfl rfl ?_
      refine lx_ext rfl rfl rfl rfl ?_
      refine lx_ext rfl rfl rfl rfl ?_
      refine lx_assign rfl rfl rfl ?_
      refine lx_assign rfl rfl rfl ?_
      refine lx_nil ?_
      refine xs_plain (E := EE []) ?_
      refine lx_move rfl rfl rfl ?_
      refine lx_move rfl rfl rfl ?_
      refine lx_bin rfl rfl (fun _ => rfl) (fun _ => bin_add_u64 _ _ _) rfl rfl ?_
      refine lx_assign rfl rfl rfl ?_
      refine lx_nil ?_
      refine xs_plain (E := EE []) ?_
      refine lx_move rfl rfl rfl ?_
      refine lx_move rfl rfl rfl ?_
      refine lx_ext1 rfl rfl (fun w => add64k _ _ 0 _ (by decide) (k1s (b.getD i 0) a (RT a b i) 5) w) rfl rfl ?_
      refine lx_move rfl rfl rfl ?_
      refine lx_ext rfl rfl rfl rfl ?_
      refine lx_ext rfl rfl rfl rfl ?_
      refine lx_assign rfl rfl rfl ?_
      refine lx_assign rfl rfl rfl ?_
      refine lx_nil ?_
      refine xs_plain (E := EE []) ?_
      refine lx_move rfl rfl rfl ?_
      refine lx_move rfl rfl rfl ?_
      refine lx_bin (v := U64 (KC (b.getD i 0) a (RT a b i) 6)) rfl rfl (fun _ => rfl) (fun w => (bin_add_u64 _ _ _).trans (congrArg (fun z => Result.ok (U64 z) w) (k2s (b.getD i 0) a (RT a b i) 5))) rfl rfl ?_
      refine lx_assign rfl rfl rfl ?_
      refine lx_nil ?_
      refine xs_plain (E := EE []) ?_
      refine lx_move rfl rfl rfl ?_
      refine lx_assign rfl rfl rfl ?_
      refine lx_nil ?_
      refine xs_plain (E := EE []) ?_
      refine lx_move rfl rfl rfl ?_
      refine lx_bin (v := U64 (KT (b.getD i 0) a (RT a b i) 0 * INV)) rfl rfl (fun _ => rfl) (fun w => bin_mul_u64 _ _ INV) rfl rfl ?_
      refine lx_assign rfl rfl rfl ?_
      refine lx_nil ?_
      refine xs_plain (E := EE []) ?_
      refine lx_move rfl rfl rfl ?_
      refine lx_call rfl rfl ent89 (mul64_pure _ (PL.getD 0 0)) rfl rfl ?_
      refine lx_move rfl rfl rfl ?_
      refine lx_ext rfl rfl rfl rfl ?_
      refine lx_ext rfl rfl rfl rfl ?_
      refine lx_assign rfl rfl rfl ?_
      refine lx_assign rfl rfl rfl ?_
      refine lx_nil ?_
      refine xs_plain (E := EE []) ?_
      refine lx_move rfl rfl rfl ?_
      refine lx_move rfl rfl rfl ?_
      refine lx_ext1 rfl rfl (fun w => add64 _ _ 0 (by decide) w) rfl rfl ?_
      refine lx_move rfl rfl rfl ?_
      refine lx_ext rfl rfl rfl rfl ?_
      refine lx_ext rfl rfl rfl rfl ?_
      refine lx_assign rfl rfl rfl ?_
      refine lx_nil ?_
      refine xs_plain (E := EE []) ?_
      refine lx_move rfl rfl rfl ?_
      refine lx_move rfl rfl rfl ?_
      refine lx_bin (v := U64 (KD (KT (b.getD i 0) a (RT a b i) 0 * INV) PL (T1 (b.getD i 0) a (RT a b i)) 0)) rfl rfl (fun _ => rfl) (fun w => (bin_add_u64 _ _ _).trans (congrArg (fun z => Result.ok (U64 z) w) (d2z (b.getD i 0) (KT (b.getD i 0) a (RT a b i) 0 * INV) a (RT a b i)))) rfl rfl ?_
      refine lx_assign rfl rfl rfl ?_
      refine lx_nil ?_
      refine xs_plain (E := EE []) ?_
      refine lx_move rfl rfl rfl ?_
      refine lx_call rfl rfl ent89 (mul64_pure _ (PL.getD 1 0)) rfl rfl ?_
      refine lx_move rfl rfl rfl ?_
      refine lx_ext rfl rfl rfl rfl ?_
      refine lx_ext rfl rfl rfl rfl ?_
      refine lx_assign rfl rfl rfl ?_
      refine lx_assign rfl rfl rfl ?_
      refine lx_nil ?_
      refine xs_plain (E := EE []) ?_
      refine lx_move rfl rfl rfl ?_
      refine lx_move rfl rfl rfl ?_
      refine lx_ext1 rfl rfl (fun w => add64 _ _ 0 (by decide) w) rfl rfl ?_
      refine lx_move rfl rfl rfl ?_
      refine lx_ext rfl rfl rfl rfl ?_
      refine lx_ext rfl rfl rfl rfl ?_
      refine lx_assign rfl rfl rfl ?_
      refine lx_assign rfl rfl rfl ?_
      refine lx_nil ?_
      refine xs_plain (E := EE []) ?_
      refine lx_move rfl rfl rfl ?_
      refine lx_move rfl rfl rfl ?_
      refine lx_bin rfl rfl (fun _ => rfl) (fun _ => bin_add_u64 _ _ _) rfl rfl ?_
      refine lx_assign rfl rfl rfl ?_
      refine lx_nil ?_
      refine xs_plain (E := EE []) ?_
      refine lx_move rfl rfl rfl ?_
      refine lx_move rfl rfl rfl ?_
      refine lx_ext1 rfl rfl (fun w => add64k _ _ 0 _ (by decide) (d1s (b.getD i 0) (KT (b.getD i 0) a (RT a b i) 0 * INV) a (RT a b i) 0 (by decide)) w) rfl rfl ?_
      refine lx_move rfl rfl rfl ?_
      refine lx_ext rfl rfl rfl rfl ?_
      refine lx_ext rfl rfl rfl rfl ?_
      refine lx_assign rfl rfl rfl ?_
      refine lx_assign rfl rfl rfl ?_
      refine lx_nil ?_
      refine xs_plain (E := EE []) ?_
      refine lx_move rfl rfl rfl ?_
      refine lx_move rfl rfl rfl ?_
      refine lx_bin (v := U64 (KD (KT (b.getD i 0) a (RT a b i) 0 * INV) PL (T1 (b.getD i 0) a (RT a b i)) 1)) rfl rfl (fun _ => rfl) (fun w => (bin_add_u64 _ _ _).trans (congrArg (fun z => Result.ok (U64 z) w) (d2s (b.getD i 0) (KT (b.getD i 0) a (RT a b i) 0 * INV) a (RT a b i) 0 (by decide)))) rfl rfl ?_
      refine lx_assign rfl rfl rfl ?_
      refine lx_nil ?_
      refine xs_plain (E := EE []) ?_
      refine lx_move rfl rfl rfl ?_
      refine lx_call rfl rfl ent89 (mul64_pure _ (PL.getD 2 0)) rfl rfl ?_
      refine lx_move rfl rfl rfl ?_
      refine lx_ext rfl rfl rfl rfl ?_
      refine lx_ext rfl rfl rfl rfl ?_
      refine lx_assign rfl rfl rfl ?_
      refine lx_assign rfl rfl rfl ?_
      refine lx_nil ?_
      refine xs_plain (E := EE []) ?_
      refine lx_move rfl rfl rfl ?_
      refine lx_move rfl rfl rfl ?_
      refine lx_ext1 rfl rfl (fun w => add64 _ _ 0 (by decide) w) rfl rfl ?_
      refine lx_move rfl rfl rfl ?_
      refine lx_ext rfl rfl rfl rfl ?_
      refine lx_ext rfl rfl rfl rfl ?_
      refine lx_assign rfl rfl rfl ?_
      refine lx_assign rfl rfl rfl ?_
      refine lx_nil ?_
      refine xs_plain (E := EE []) ?_
      refine lx_move rfl rfl rfl ?_
      refine lx_move rfl rfl rfl ?_
      refine lx_bin rfl rfl (fun _ => rfl) (fun _ => bin_add_u64 _ _ _) rfl rfl ?_
      refine lx_assign rfl rfl rfl ?_
      refine lx_nil ?_
      refine xs_plain (E := EE []) ?_
      refine lx_move rfl rfl rfl ?_
      refine lx_move rfl rfl rfl ?_
      refine lx_ext1 rfl rfl (fun w => add64k _ _ 0 _ (by decide) (d1s (b.getD i 0) (KT (b.getD i 0) a (RT a b i) 0 * INV) a (RT a b i) 1 (by decide)) w) rfl rfl ?_
      refine lx_move rfl rfl rfl ?_
      refine lx_ext rfl rfl rfl rfl ?_
      refine lx_ext rfl rfl rfl rfl ?_
      refine lx_assign rfl rfl rfl ?_
      refine lx_assign rfl rfl rfl ?_
      refine lx_nil ?_
      refine xs_plain (E := EE []) ?_
      refine lx_move rfl rfl rfl ?_
      refine lx_move rfl rfl rfl ?_
      refine lx_bin (v := U64 (KD (KT (b.getD i 0) a (RT a b i) 0 * INV) PL (T1 (b.getD i 0) a (RT a b i)) 2)) rfl rfl (fun _ => rfl) (fun w => (bin_add_u64 _ _ _).trans (congrArg (fun z => Result.ok (U64 z) w) (d2s (b.getD i 0) (KT (b.getD i 0) a (RT a b i) 0 * INV) a (RT a b i) 1 (by decide)))) rfl rfl ?_
      refine lx_assign rfl rfl rfl ?_
      refine lx_nil ?_
      refine xs_plain (E := EE []) ?_
      refine lx_move rfl rfl rfl ?_
      refine lx_call rfl rfl ent89 (mul64_pure _ (PL.getD 3 0)) rfl rfl ?_
      refine lx_move rfl rfl rfl ?_
      refine lx_ext rfl rfl rfl rfl ?_
      refine lx_ext rfl rfl rfl rfl ?_
      refine lx_assign rfl rfl rfl ?_
      refine lx_assign rfl rfl rfl ?_
      refine lx_nil ?_
      refine xs_plain (E := EE []) ?_
      refine lx_move rfl rfl rfl ?_
      refine lx_move rfl rfl rfl ?_
      refine lx_ext1 rfl rfl (fun w => add64 _ _ 0 (by decide) w) rfl rfl ?_
      refine lx_move rfl rfl rfl ?_
      refine lx_ext rfl rfl rfl rfl ?_
      refine lx_ext rfl rfl rfl rfl ?_
      refine lx_assign rfl rfl rfl ?_
      refine lx_assign rfl rfl rfl ?_
      refine lx_nil ?_
      refine xs_plain (E := EE []) ?_
      refine lx_move rfl rfl rfl ?_
      refine lx_move rfl rfl rfl ?_
      refine lx_bin rfl rfl (fun _ => rfl) (fun _ => bin_add_u64 _ _ _) rfl rfl ?_
      refine lx_assign rfl rfl rfl ?_
      refine lx_nil ?_
      refine xs_plain (E := EE []) ?_
      refine lx_move rfl rfl rfl ?_
      refine lx_move rfl rfl rfl ?_
      refine lx_ext1 rfl rfl (fun w => add64k _ _ 0 _ (by decide) (d1s (b.getD i 0) (KT (b.getD i 0) a (RT a b i) 0 * INV) a (RT a b i) 2 (by decide)) w) rfl rfl ?_
      refine lx_move rfl rfl rfl ?_
      refine lx_ext rfl rfl rfl rfl ?_
      refine lx_ext rfl rfl rfl rfl ?_
      refine lx_assign rfl rfl rfl ?_
      refine lx_assign rfl rfl rfl ?_
      refine lx_nil ?_
      refine xs_plain (E := EE []) ?_
      refine lx_move rfl rfl rfl ?_
      refine lx_move rfl rfl rfl ?_
      refine lx_bin (v := U64 (KD (KT (b.getD i 0) a (RT a b i) 0 * INV) PL (T1 (b.getD i 0) a (RT a b i)) 3)) rfl rfl (fun _ => rfl) (fun w => (bin_add_u64 _ _ _).trans (congrArg (fun z => Result.ok (U64 z) w) (d2s (b.getD i 0) (KT (b.getD i 0) a (RT a b i) 0 * INV) a (RT a b i) 2 (by decide)))) rfl rfl ?_
      refine lx_assign rfl rfl rfl ?_
      refine lx_nil ?_
      refine xs_plain (E := EE []) ?_
      refine lx_move rfl rfl rfl ?_
      refine lx_call rfl rfl ent89 (mul64_pure _ (PL.getD 4 0)) rfl rfl ?_
      refine lx_move rfl rfl rfl ?_
      refine lx_ext rfl rfl rfl rfl ?_
      refine lx_ext rfl rfl rfl rfl ?_
      refine lx_assign rfl rfl rfl ?_
      refine lx_assign rfl rfl rfl ?_
      refine lx_nil ?_
      refine xs_plain (E := EE []) ?_
      refine lx_move rfl rfl rfl ?_
      refine lx_move rfl rfl rfl ?_
      refine lx_ext1 rfl rfl (fun w => add64 _ _ 0 (by decide) w) rfl rfl ?_
      refine lx_move rfl rfl rfl ?_
      refine lx_ext rfl rfl rfl rfl ?_
      refine lx_ext rfl rfl rfl rfl ?_
      refine lx_assign rfl rfl rfl ?_
      refine lx_assign rfl rfl rfl ?_
      refine lx_nil ?_
      refine xs_plain (E := EE []) ?_
      refine lx_move rfl rfl rfl ?_
      refine lx_move rfl rfl rfl ?_
      refine lx_bin rfl rfl (fun _ => rfl) (fun _ => bin_add_u64 _ _ _) rfl rfl ?_
      refine lx_assign rfl rfl rfl ?_
      refine lx_nil ?_
      refine xs_plain (E := EE []) ?_
      refine lx_move rfl rfl rfl ?_
      refine lx_move rfl rfl rfl ?_
      refine lx_ext1 rfl rfl (fun w => add64k _ _ 0 _ (by decide) (d1s (b.getD i 0) (KT (b.getD i 0) a (RT a b i) 0 * INV) a (RT a b i) 3 (by decide)) w) rfl rfl ?_
      refine lx_move rfl rfl rfl ?_
      refine lx_ext rfl rfl rfl rfl ?_
      refine lx_ext rfl rfl rfl rfl ?_
      refine lx_assign rfl rfl rfl ?_
      refine lx_assign rfl rfl rfl ?_
      refine lx_nil ?_
      refine xs_plain (E := EE []) ?_
      refine lx_move rfl rfl rfl ?_
      refine lx_move rfl rfl rfl ?_
      refine lx_bin (v := U64 (KD (KT (b.getD i 0) a (RT a b i) 0 * INV) PL (T1 (b.getD i 0) a (RT a b i)) 4)) rfl rfl (fun _ => rfl) (fun w => (bin_add_u64 _ _ _).trans (congrArg (fun z => Result.ok (U64 z) w) (d2s (b.getD i 0) (KT (b.getD i 0) a (RT a b i) 0 * INV) a (RT a b i) 3 (by decide)))) rfl rfl ?_
      refine lx_assign rfl rfl rfl ?_
      refine lx_nil ?_
      refine xs_plain (E := EE []) ?_
      refine lx_move rfl rfl rfl ?_
      refine lx_call rfl rfl ent89 (mul64_pure _ (PL.getD 5 0)) rfl rfl ?_
      refine lx_move rfl rfl rfl ?_
      refine lx_ext rfl rfl rfl rfl ?_
      refine lx_ext rfl rfl rfl rfl ?_
      refine lx_assign rfl rfl rfl ?_
      refine lx_assign rfl rfl rfl ?_
      refine lx_nil ?_
      refine xs_plain (E := EE []) ?_
      refine lx_move rfl rfl rfl ?_
      refine lx_move rfl rfl rfl ?_
      refine lx_ext1 rfl rfl (fun w => add64 _ _ 0 (by decide) w) rfl rfl ?_
      refine lx_move rfl rfl rfl ?_
      refine lx_ext rfl rfl rfl rfl ?_
      refine lx_ext rfl rfl rfl rfl ?_
      refine lx_assign rfl rfl rfl ?_
      refine lx_assign rfl rfl rfl ?_
      refine lx_nil ?_
      refine xs_plain (E := EE []) ?_
      refine lx_move rfl rfl rfl ?_
      refine lx_move rfl rfl rfl ?_
      refine lx_bin rfl rfl (fun _ => rfl) (fun _ => bin_add_u64 _ _ _) rfl rfl ?_
      refine lx_assign rfl rfl rfl ?_
      refine lx_nil ?_
      refine xs_plain (E := EE []) ?_
      refine lx_move rfl rfl rfl ?_
      refine lx_move rfl rfl rfl ?_
      refine lx_ext1 rfl rfl (fun w => add64k _ _ 0 _ (by decide) (d1s (b.getD i 0) (KT (b.getD i 0) a (RT a b i) 0 * INV) a (RT a b i) 4 (by decide)) w) rfl rfl ?_
      refine lx_move rfl rfl rfl ?_
      refine lx_ext rfl rfl rfl rfl ?_
      refine lx_ext rfl rfl rfl rfl ?_
      refine lx_assign rfl rfl rfl ?_
      refine lx_assign rfl rfl rfl ?_
      refine lx_nil ?_
      refine xs_plain (E := EE []) ?_
      refine lx_move rfl rfl rfl ?_
      refine lx_move rfl rfl rfl ?_
      refine lx_bin (v := U64 (KD (KT (b.getD i 0) a (RT a b i) 0 * INV) PL (T1 (b.getD i 0) a (RT a b i)) 5)) rfl rfl (fun _ => rfl) (fun w => (bin_add_u64 _ _ _).trans (congrArg (fun z => Result.ok (U64 z) w) (d2s (b.getD i 0) (KT (b.getD i 0) a (RT a b i) 0 * INV) a (RT a b i) 4 (by decide)))) rfl rfl ?_
      refine lx_assign rfl rfl rfl ?_
      refine lx_nil ?_
      refine x_plain (E := EE []) ?_
      refine lx_move rfl rfl rfl ?_
      refine lx_move rfl rfl rfl ?_
      refine lx_bin rfl rfl (fun _ => rfl) (fun _ => bin_add_u64 _ _ _) rfl rfl ?_
      refine lx_assign rfl rfl rfl ?_
      refine lx_nil ?_
      refine x_plain (E := EE []) ?_
      refine lx_move rfl rfl rfl ?_
      refine lx_bin rfl rfl (fun _ => rfl) (fun _ => bin_add_i _ _ _ (by unfold inI; omega)) rfl rfl ?_
      refine lx_assign rfl rfl rfl ?_
      refine lx_nil ?_
      repeat (refine kblk_n ?_)
      refine kseq_n ?_
      exact ⟨rfl, ⟨i + 1, by omega⟩, _, by show 6 - (i + 1) < 6 - i; omega, rfl, ⟨rfl, rfl, rfl, congrArg (fun z => some (U64 z)) (RT_n a b i 0 (by decide)).symm, congrArg (fun z => some (U64 z)) (RT_n a b i 1 (by decide)).symm, congrArg (fun z => some (U64 z)) (RT_n a b i 2 (by decide)).symm, congrArg (fun z => some (U64 z)) (RT_n a b i 3 (by decide)).symm, congrArg (fun z => some (U64 z)) (RT_n a b i 4 (by decide)).symm, congrArg (fun z => some (U64 z)) (RT_top a b i).symm, rfl, trivial⟩, ⟨rfl, rfl, rfl, trivial⟩⟩
    · obtain rfl : i = 6 := by simp at hc; omega
      refine x_exit ?_
      refine xs_plain (E := EE []) ?_
      refine lx_move rfl rfl rfl ?_
      refine lx_move rfl rfl rfl ?_
      refine lx_move rfl rfl rfl ?_
      refine lx_move rfl rfl rfl ?_
      refine lx_move rfl rfl rfl ?_
      refine lx_move rfl rfl rfl ?_
      refine lx_buildr (n := 6) (vs := (RT a b 6).map U64) (congrArg some (six_map (RT a b 6) (RT_len _ _ _))) rfl Tryd.underlying40 Tryd.sizeOf25 Tryd.zeroValue40 (by rw [List.length_map, RT_len]; rfl) (one_u64 _) rfl rfl ?_
      refine lx_allocr 19 hGF zv40 rfl rfl ?_
      intro b19
      refine lx_storea 19 hGF rfl rfl rfl Tryd.sizeOf40 (by rw [List.length_map, RT_len _ _ _]) (by rw [List.length_map, List.length_replicate]) (one_u64 _) rfl ?_
      refine lx_nil ?_
      refine x_seq ?_
      refine xs_drawA (E := EE [2999999]) [0, 1, 2, 3, 4, 5] [⟨6, 20, 40, (List.replicate 6 0#64).map U64⟩] [7, 8] mixed rfl (by kernel_rfl) (by kernel_rfl) (by kernel_rfl) (by kernel_rfl) (by kernel_rfl) (by kernel_rfl) (by decide) (by intro x hx; simp only [List.mem_cons, List.not_mem_nil, or_false] at hx; subst hx; exact isAlloc_mk rfl zv40 rfl) ?_
      refine lx_loada 19 rfl rfl Tryd.isAgg40 Tryd.sizeOf40 (by rw [List.length_map, RT_len _ _ _]) rfl rfl ?_
      refine lx_call rfl rfl ent91 (rp_pure) rfl rfl ?_
      refine lx_call rfl rfl ent90 (rsub_pure _ _ (RT_len _ _ _) rfl) rfl rfl ?_
      refine lx_move rfl rfl rfl ?_
      refine lx_ext rfl rfl rfl rfl ?_
      refine lx_ext rfl rfl rfl rfl ?_
      refine lx_nil ?_
      refine ⟨_, _, rfl, hGF, by intro x hx; simp only [List.mem_cons, List.not_mem_nil, or_false] at hx; subst hx; rfl, by intro x hx; simp only [List.mem_cons, List.not_mem_nil, or_false] at hx; subst hx; rfl, fun adr => ?_⟩
      refine lx_storea 20 hGF rfl rfl rfl Tryd.sizeOf40 (by rw [List.length_map, SS_len _ _ _]) (by rw [List.length_map, List.length_replicate]) (one_u64 _) rfl ?_
      refine lx_assign rfl rfl rfl ?_
      refine lx_nil ?_
      refine xs_plain (E := EE []) ?_
      refine lx_move rfl rfl rfl ?_
      refine lx_bin (v := .bool false) rfl rfl (fun _ => rfl) (fun w => (bin_eql_u64 _ _ _).trans (congrArg (fun b => Result.ok (Value.bool b) w) (beq_eq_false_iff_ne.2 h0))) rfl rfl ?_
      refine lx_nil ?_
      refine x_false rfl ?_
      refine x_skip ?_
      refine xs_plain (E := EE []) ?_
      refine lx_loada 19 rfl rfl Tryd.isAgg40 Tryd.sizeOf40 (by rw [List.length_map, RT_len _ _ _]) rfl rfl ?_
      refine lx_storea 4 hGF rfl rfl rfl Tryd.sizeOf40 (by rw [List.length_map, RT_len _ _ _]) (by rw [List.length_map, List.length_replicate]) (one_u64 _) rfl ?_
      refine lx_nil ?_
      refine x_ret ?_
      repeat (first | refine kseq_ret ?_ | refine kblk_ret ?_)
      exact kret_own 4 rfl rfl rfl Tryd.isAgg40 Tryd.sizeOf40 (by rw [List.length_map, RT_len]) (fun w hw => ⟨by rw [RM, if_neg h0], hp_below hw⟩)
end Go.Proofs.YtbpifgcbkhohbaaDoor

namespace Go.Proofs.YtbpifgcbkhohbaaDoor
open Go.RowKit
set_option maxRecDepth 100000
set_option maxHeartbeats 1000000

theorem ent60 : Enters Tryd.prog 60 := fun _ _ => by kernel_rfl
theorem ent42 : Enters Tryd.prog 42 := fun _ _ => by kernel_rfl
theorem zv42 (w : World) : (zeroValue 42).run Tryd.prog w = .ok (.agg ((List.replicate 6 (0#64)).map U64).toArray) w := (Tryd.zeroValue42 w).trans (by rfl)
/-- The reference's sum, difference, opposite. -/
def RADD (a b : List (BitVec 64)) : List (BitVec 64) := if 1873798617647539866#64 ≤ (AS a b 6).1.getD 5 0 ∧ (SS (AS a b 6).1 PL 6).2 = 0 then (SS (AS a b 6).1 PL 6).1 else (AS a b 6).1
def RSUB (a b : List (BitVec 64)) : List (BitVec 64) := if (SS a b 6).2 = 1 then (AS (SS a b 6).1 PL 6).1 else (SS a b 6).1
def RNEG (a : List (BitVec 64)) : List (BitVec 64) := if a = List.replicate 6 0 then a else (SS PL a 6).1
theorem RADD_len (a b : List (BitVec 64)) : (RADD a b).length = 6 := by
  unfold RADD; split
  · exact SS_len _ _ _
  · exact AS_len _ _ _
theorem RSUB_len (a b : List (BitVec 64)) : (RSUB a b).length = 6 := by
  unfold RSUB; split
  · exact AS_len _ _ _
  · exact SS_len _ _ _
theorem RNEG_len (a : List (BitVec 64)) (h : a.length = 6) : (RNEG a).length = 6 := by
  unfold RNEG; split
  · exact h
  · exact SS_len _ _ _
theorem rof_pure (a : List (BitVec 64)) (ha : a.length = 6) : Pure Tryd.prog Gt 60 [.agg ((a).map U64).toArray] (.agg ((RM a TWO).map U64).toArray) := by
  intro w hw
  have hGF : BOk Gt (pl w) := gt_low.plain hw
  refine calls_of_X (G := Gt) Tryd.func60 rfl rfl (Hp (pl w) []) (hp_refl (pl w) trivial rides_true) (good_hp hGF) ?_
  refine xs_plain (E := EE []) ?_
  refine lx_boxr 1 hGF rfl rfl rfl ?_
  intro b1
  refine lx_allocr 2 hGF zv42 rfl rfl ?_
  intro b2
  refine lx_nil ?_
  refine xs_drawn (E := EE []) mixed (by kernel_rfl) (by kernel_rfl) (by kernel_rfl) ?_
  refine lx_loada 1 rfl rfl Tryd.isAgg40 Tryd.sizeOf40 (by rw [List.length_map, ha]) rfl rfl ?_
  refine lx_call rfl rfl ent75 (rtwo_pure) rfl rfl ?_
  refine lx_call rfl rfl ent74 (rmont_pure _ _ ha TWO_len) rfl rfl ?_
  refine lx_buildS rfl (RM_len _ _) Tryd.underlying42 rfl Tryd.sizeOf40 zv42 rfl rfl ?_
  refine lx_storea 2 hGF rfl rfl rfl Tryd.sizeOf42 (by rw [List.length_map, RM_len _ _]) (by rw [List.length_map, List.length_replicate]) (one_u64 _) rfl ?_
  refine lx_nil ?_
  refine x_ret ?_
  repeat (first | refine kseq_ret ?_ | refine kblk_ret ?_)
  exact kret_own 2 rfl rfl rfl Tryd.isAgg42 Tryd.sizeOf42 (by rw [List.length_map, RM_len]) (fun w hw => ⟨rfl, hp_below hw⟩)
theorem rsmall_pure (n : BitVec 64) : Pure Tryd.prog Gt 42 [U64 n] (.agg ((RM (n :: List.replicate 5 0) TWO).map U64).toArray) := by
  intro w hw
  have hGF : BOk Gt (pl w) := gt_low.plain hw
  refine calls_of_X (G := Gt) Tryd.func42 rfl rfl (Hp (pl w) []) (hp_refl (pl w) trivial rides_true) (good_hp hGF) ?_
  refine xs_plain (E := EE []) ?_
  refine lx_allocr 2 hGF zv42 rfl rfl ?_
  intro b2
  refine lx_nil ?_
  refine xs_plain (E := EE []) ?_
  refine lx_move rfl rfl rfl ?_
  refine lx_build1 n rfl Tryd.underlying40 Tryd.sizeOf25 zv40 rfl rfl ?_
  refine lx_call rfl rfl ent60 (rof_pure (n :: List.replicate 5 0) rfl) rfl rfl ?_
  refine lx_storea 2 hGF rfl rfl rfl Tryd.sizeOf42 (by rw [List.length_map, RM_len _ _]) (by rw [List.length_map, List.length_replicate]) (one_u64 _) rfl ?_
  refine lx_nil ?_
  refine x_ret ?_
  repeat (first | refine kseq_ret ?_ | refine kblk_ret ?_)
  exact kret_own 2 rfl rfl rfl Tryd.isAgg42 Tryd.sizeOf42 (by rw [List.length_map, RM_len]) (fun w hw => ⟨rfl, hp_below hw⟩)
end Go.Proofs.YtbpifgcbkhohbaaDoor

namespace Go.Proofs.YtbpifgcbkhohbaaDoor
open Go.RowKit
set_option maxRecDepth 100000
set_option maxHeartbeats 1000000

/-- The i-th bit of bytes, the highest first; the powers by the first i of them. -/
def pbit (bs : List (BitVec 8)) (i : Nat) : BitVec 8 := (bs.getD (i / 8) 0 >>> (7 - i % 8)) &&& 1#8
def RP (a : List (BitVec 64)) (bs : List (BitVec 8)) : Nat → List (BitVec 64)
  | 0 => ONE
  | i + 1 => if pbit bs i = 1#8 then RM (RM (RP a bs i) (RP a bs i)) a else RM (RP a bs i) (RP a bs i)
theorem RP_len (a : List (BitVec 64)) (bs : List (BitVec 8)) : ∀ i, (RP a bs i).length = 6
  | 0 => rfl
  | i + 1 => by
    unfold RP; split
    · exact RM_len _ _
    · exact RM_len _ _
theorem RP_y (a : List (BitVec 64)) (bs : List (BitVec 8)) (i : Nat) (h : pbit bs i = 1#8) : RP a bs (i + 1) = RM (RM (RP a bs i) (RP a bs i)) a := by rw [RP, if_pos h]
theorem RP_n (a : List (BitVec 64)) (bs : List (BitVec 8)) (i : Nat) (h : ¬ pbit bs i = 1#8) : RP a bs (i + 1) = RM (RP a bs i) (RP a bs i) := by rw [RP, if_neg h]
end Go.Proofs.YtbpifgcbkhohbaaDoor

namespace Go.Proofs.YtbpifgcbkhohbaaDoor
open Go.RowKit
set_option maxRecDepth 100000
set_option maxHeartbeats 1000000

theorem by_pos (n i : Nat) (hn : n ≤ 64) : decide (0#64 < BitVec.ofNat 64 (n - i)) = decide (i < n) := by
  refine decide_eq_decide.2 ?_
  rw [BitVec.lt_def]
  simp only [BitVec.toNat_ofNat]
  omega
theorem by_dec (n i : Nat) (_hn : n ≤ 64) (hi : i < n) : BitVec.ofNat 64 (n - i) - 1#64 = BitVec.ofNat 64 (n - (i + 1)) := by
  apply BitVec.eq_of_toNat_eq
  simp only [BitVec.toNat_sub, BitVec.toNat_ofNat]
  omega
/-- A half, part by part. -/
def HLs (l : List (BitVec 64)) : Nat → List (BitVec 64)
  | 0 => l
  | k + 1 => if k < 5 then ((HLs l k).set k ((HLs l k).getD k 0 >>> 1)).set k (((HLs l k).set k ((HLs l k).getD k 0 >>> 1)).getD k 0 ||| ((HLs l k).set k ((HLs l k).getD k 0 >>> 1)).getD (k + 1) 0 <<< 63) else (HLs l k).set k ((HLs l k).getD k 0 >>> 1)
theorem HLs_y (l : List (BitVec 64)) (k : Nat) (h : k < 5) : HLs l (k + 1) = ((HLs l k).set k ((HLs l k).getD k 0 >>> 1)).set k (((HLs l k).set k ((HLs l k).getD k 0 >>> 1)).getD k 0 ||| ((HLs l k).set k ((HLs l k).getD k 0 >>> 1)).getD (k + 1) 0 <<< 63) := by rw [HLs, if_pos h]
theorem HLs_n (l : List (BitVec 64)) (k : Nat) (h : ¬ k < 5) : HLs l (k + 1) = (HLs l k).set k ((HLs l k).getD k 0 >>> 1) := by rw [HLs, if_neg h]
theorem HLs_len (l : List (BitVec 64)) : ∀ k, (HLs l k).length = l.length
  | 0 => rfl
  | k + 1 => by
    unfold HLs; split
    · rw [List.length_set, List.length_set, HLs_len l k]
    · rw [List.length_set, HLs_len l k]
def HN (l : List (BitVec 64)) : Nat → List (BitVec 64)
  | 0 => l
  | i + 1 => HLs (HN l i) 6
theorem HN_len (l : List (BitVec 64)) : ∀ i, (HN l i).length = l.length
  | 0 => rfl
  | i + 1 => by rw [HN, HLs_len, HN_len l i]
end Go.Proofs.YtbpifgcbkhohbaaDoor

namespace Go.Proofs.YtbpifgcbkhohbaaDoor
open Go.RowKit
set_option maxRecDepth 100000
set_option maxHeartbeats 1000000

def EX2 : List (BitVec 8) := BYs (HN (SS PL (2#64 :: List.replicate 5 0) 6).1 0) 48
def EX1 : List (BitVec 8) := BYs (HN (SS PL (1#64 :: List.replicate 5 0) 6).1 1) 48
def EX4 : List (BitVec 8) := BYs (HN (AS PL (1#64 :: List.replicate 5 0) 6).1 2) 48
theorem EX2_len : EX2.length = 48 := BYs_len _ _
theorem EX1_len : EX1.length = 48 := BYs_len _ _
theorem EX4_len : EX4.length = 48 := BYs_len _ _
theorem rfrom48 (b : Nat) (t : TypeId) (bs : List (BitVec 8)) (h48 : bs.length = 48) (w : World) (hw : Gt w) (ho : OwnB w b (bs.map U8) t) :
    Calls Tryd.prog 72 [.slice (some ⟨b, 0, none⟩) 48 48].toArray w (fun r w' => r = .returned (.tuple #[.agg ((FRs bs 48).map U64).toArray, .bool true]) ∧ Grow w w') := by
  have h := rfrom_calls (some ⟨b, 0, none⟩) 48 bs w hw (BytesAt.range ho.range)
  rw [h48, if_neg (by decide)] at h
  exact h
def RLEG (a : List (BitVec 64)) : Int := if a = List.replicate 6 0 then 0 else if RP a EX1 384 = ONE then 1 else -1
theorem eqgF (op : BinOp) (x y : Operand) (xs ys : Array Value) (w : World) : (eqGuard op 42 x y (.agg xs) (.agg ys)).run Tryd.prog w = .ok () w := run_eqGuard_agg w op 42 x y xs ys (by kernel_rfl)
theorem eqF (xs ys : List (BitVec 64)) (h : xs.length = 6) (h' : ys.length = 6) (w : World) : (binOp .eql 42 (.agg (xs.map U64).toArray) (.agg (ys.map U64).toArray)).run Tryd.prog w = .ok (.bool (decide (xs = ys))) w := bin_eqS Tryd.underlying42 rfl (by decide) (by kernel_rfl) Tryd.isAgg40 Tryd.sizeOf40 Tryd.underlying40 Tryd.underlying25 Tryd.sizeOf25 Tryd.isAgg25 xs ys h h' w
end Go.Proofs.YtbpifgcbkhohbaaDoor
