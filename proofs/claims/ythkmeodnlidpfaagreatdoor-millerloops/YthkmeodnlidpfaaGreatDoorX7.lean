/-
 The walk of the reference's product modulo p.
 The walks of the reference's elements of p: sums, differences, products.
 The walk of the reference's powers.
 The walk of the reference's exponents: p and a small number, by a power of two.
 The walks of the reference's inverses and signs.
-/
import Derived.Test.YthkmeodnlidpfaaGreatDoorX6
import Derived.Test.YthkmeodnlidpfaaGreatDoorX2
import Derived.Test.YthkmeodnlidpfaaGreatDoorX4
import Derived.Test.YthkmeodnlidpfaaGreatDoorX5
import Derived.Test.YthkmeodnlidpfaaGreatDoorX3
set_option maxRecDepth 100000
set_option maxHeartbeats 1000000
namespace Go.Proofs.YthkmeodnlidpfaaGreatDoor
section
open Go.RowKit
theorem rA5 {Q P : Prop} (k : Q) (h : Q → P := by intro k; (refine LY.run ?_); (repeat (first | refine y_move rfl rfl rfl ?_ | refine y_assign rfl rfl rfl ?_ | refine y_ext rfl rfl rfl rfl ?_)); (first | refine y_nil ?_ | refine LY.mk ?_); exact k) : P := h k
theorem pA5 {Q P : Prop} (k : Q) (h : Q → P := by intro k; (refine xp ?_); (refine rA5 ?_); exact k) : P := h k
theorem ent145 : Enters Tryz.prog 145 := fun _ _ => by kernel_rfl
theorem ent157 : Enters Tryz.prog 157 := fun _ _ => by kernel_rfl
theorem ent111 : Enters Tryz.prog 111 := fun _ _ => by kernel_rfl
theorem ent110 : Enters Tryz.prog 110 := fun _ _ => by kernel_rfl
theorem add64k (x y c s : BitVec 64) (hc : c.toNat ≤ 1) (h : (ADC x y c).1 = s) (w : World) : (callFunc 138 [U64 x, U64 y, U64 c].toArray).run Tryz.prog w = .ok (.value (.tuple #[U64 s, U64 (ADC x y c).2])) w := by
 subst h; exact add64 x y c hc w
theorem PL_len : PL.length = 6 := rfl
theorem rp_pure  : Pure Tryz.prog Gt 145 [] (.agg ((PL).map U64).toArray) := by
 refine pure_X Tryz.func145 fun w hw hGF => ?_
 refine xp ?_
 refine la zv42 fun b0 => ?_
 refine lx_nil ?_
 refine xp ?_
 refine lx_buildr (n := 6) (vs := (PL).map U64) rfl rfl Tryz.underlying42 Tryz.sizeOf24 Tryz.zeroValue42 rfl rfl rfl rfl ?_
 refine lx_storea 0 hGF rfl rfl rfl Tryz.sizeOf42 (by rw [List.length_map, PL_len]) (by rw [List.length_map, List.length_replicate]) (one_u64 _) rfl ?_
 refine lx_nil ?_
 refine rt ?_
 exact kret_own 0 rfl rfl rfl Tryz.isAgg42 Tryz.sizeOf42 rfl (fun w hw => ⟨rfl, hp_below hw⟩)
theorem rone_pure  : Pure Tryz.prog Gt 157 [] (.agg ((ONE).map U64).toArray) := by
 refine pure_X Tryz.func157 fun w hw hGF => ?_
 refine xp ?_
 refine la zv42 fun b0 => ?_
 refine lx_nil ?_
 refine xp ?_
 refine lx_buildr (n := 6) (vs := (ONE).map U64) rfl rfl Tryz.underlying42 Tryz.sizeOf24 Tryz.zeroValue42 rfl rfl rfl rfl ?_
 refine lx_storea 0 hGF rfl rfl rfl Tryz.sizeOf42 (by rw [List.length_map, ONE_len]) (by rw [List.length_map, List.length_replicate]) (one_u64 _) rfl ?_
 refine lx_nil ?_
 refine rt ?_
 exact kret_own 0 rfl rfl rfl Tryz.isAgg42 Tryz.sizeOf42 rfl (fun w hw => ⟨rfl, hp_below hw⟩)
theorem rtwo_pure  : Pure Tryz.prog Gt 111 [] (.agg ((TWO).map U64).toArray) := by
 refine pure_X Tryz.func111 fun w hw hGF => ?_
 refine xp ?_
 refine la zv42 fun b0 => ?_
 refine lx_nil ?_
 refine xp ?_
 refine lx_buildr (n := 6) (vs := (TWO).map U64) rfl rfl Tryz.underlying42 Tryz.sizeOf24 Tryz.zeroValue42 rfl rfl rfl rfl ?_
 refine lx_storea 0 hGF rfl rfl rfl Tryz.sizeOf42 (by rw [List.length_map, TWO_len]) (by rw [List.length_map, List.length_replicate]) (one_u64 _) rfl ?_
 refine lx_nil ?_
 refine rt ?_
 exact kret_own 0 rfl rfl rfl Tryz.isAgg42 Tryz.sizeOf42 rfl (fun w hw => ⟨rfl, hp_below hw⟩)
theorem rmont_pure (a b : List (BitVec 64)) (ha : a.length = 6) (hb : b.length = 6) : Pure Tryz.prog Gt 110 [.agg ((a).map U64).toArray, .agg ((b).map U64).toArray] (.agg ((RM a b).map U64).toArray) := by
 refine pure_X Tryz.func110 fun w hw hGF => ?_
 by_cases h0 : (SS (RT a b 6) PL 6).2 = 0
 ·skip
  refine xp ?_
  refine lb fun b2 => ?_
  refine lb fun b3 => ?_
  refine la zv42 fun b4 => ?_
  refine lx_nil ?_
  refine pA5 ?_
  refine x_seq ?_
  refine pA5 ?_
  refine x_block ?_
  refine x_for (ι := { i : Nat // i ≤ 6 }) (fun x => [(2, .pointer (some ⟨b2, 0, none⟩)), (3, .pointer (some ⟨b3, 0, none⟩)), (4, .pointer (some ⟨b4, 0, none⟩)), (5, U64 ((RT a b x.1).getD 0 0)), (6, U64 ((RT a b x.1).getD 1 0)), (7, U64 ((RT a b x.1).getD 2 0)), (8, U64 ((RT a b x.1).getD 3 0)), (9, U64 ((RT a b x.1).getD 4 0)), (10, U64 ((RT a b x.1).getD 5 0)), (11, I (x.1 : Int))]) (fun x => [(2, b2, a.map U64, 42), (3, b3, b.map U64, 42), (4, b4, (List.replicate 6 0#64).map U64, 42)]) (fun x => 6 - x.1) ⟨0, by omega⟩ hGF ⟨rfl, rfl, rfl, rfl, rfl, rfl, rfl, rfl, rfl, rfl, trivial⟩ ⟨rfl, rfl, rfl, trivial⟩ ?_
  rintro ⟨i, hi⟩
  dsimp only
  refine x_seq ?_
  refine pA5 ?_
  refine lx_bin rfl rfl (fun _ => rfl) (fun _ => bin_lss_i _ _ _) rfl rfl ?_
  refine lx_nil ?_
  refine x_if rfl (fun hc => ?_) (fun hc => ?_)
  ·simp only [decide_eq_true_eq] at hc
   refine x_skip ?_
   refine x_seq ?_
   refine x_block ?_
   refine pA5 ?_
   refine pA5 ?_
   refine lx_ia0 (i) rfl rfl Tryz.underlying42 Tryz.sizeOf24 (by omega) (by omega) rfl rfl ?_
   refine lx_loadm 3 U64 0 rfl rfl Tryz.isAgg24 (by rw [hb]; omega) rfl rfl ?_
   refine rA5 ?_
   refine xp ?_
   refine lx_ia0 (0) rfl rfl Tryz.underlying42 Tryz.sizeOf24 (by omega) (by omega) rfl rfl ?_
   refine lx_loadm 2 U64 0 rfl rfl Tryz.isAgg24 (by rw [ha]; omega) rfl rfl ?_
   refine rA5 ?_
   refine lc ent148 (mul64_pure _ _) ?_
   refine rA5 ?_
   refine pA5 ?_
   refine lx_ext1 rfl rfl (fun w => add64k _ _ 0 _ (by decide) (k1z (b.getD i 0) a (RT a b i)) w) rfl rfl ?_
   refine rA5 ?_
   refine pA5 ?_
   refine lx_bin (v := U64 (KC (b.getD i 0) a (RT a b i) 1)) rfl rfl (fun _ => rfl) (fun w => (bin_add_u64 _ _ _).trans (congrArg (fun z => Result.ok (U64 z) w) (k2z (b.getD i 0) a (RT a b i)))) rfl rfl ?_
   refine rA5 ?_
   refine xp ?_
   refine lx_ia0 (1) rfl rfl Tryz.underlying42 Tryz.sizeOf24 (by omega) (by omega) rfl rfl ?_
   refine lx_loadm 2 U64 0 rfl rfl Tryz.isAgg24 (by rw [ha]; omega) rfl rfl ?_
   refine rA5 ?_
   refine lc ent148 (mul64_pure _ _) ?_
   refine rA5 ?_
   refine pA5 ?_
   refine lx_ext1 rfl rfl (fun w => add64 _ _ 0 (by decide) w) rfl rfl ?_
   refine rA5 ?_
   refine pA5 ?_
   refine lx_bin rfl rfl (fun _ => rfl) (fun _ => bin_add_u64 _ _ _) rfl rfl ?_
   refine rA5 ?_
   refine pA5 ?_
   refine lx_ext1 rfl rfl (fun w => add64k _ _ 0 _ (by decide) (k1s (b.getD i 0) a (RT a b i) 1) w) rfl rfl ?_
   refine rA5 ?_
   refine pA5 ?_
   refine lx_bin (v := U64 (KC (b.getD i 0) a (RT a b i) 2)) rfl rfl (fun _ => rfl) (fun w => (bin_add_u64 _ _ _).trans (congrArg (fun z => Result.ok (U64 z) w) (k2s (b.getD i 0) a (RT a b i) 1))) rfl rfl ?_
   refine rA5 ?_
   refine xp ?_
   refine lx_ia0 (2) rfl rfl Tryz.underlying42 Tryz.sizeOf24 (by omega) (by omega) rfl rfl ?_
   refine lx_loadm 2 U64 0 rfl rfl Tryz.isAgg24 (by rw [ha]; omega) rfl rfl ?_
   refine rA5 ?_
   refine lc ent148 (mul64_pure _ _) ?_
   refine rA5 ?_
   refine pA5 ?_
   refine lx_ext1 rfl rfl (fun w => add64 _ _ 0 (by decide) w) rfl rfl ?_
   refine rA5 ?_
   refine pA5 ?_
   refine lx_bin rfl rfl (fun _ => rfl) (fun _ => bin_add_u64 _ _ _) rfl rfl ?_
   refine rA5 ?_
   refine pA5 ?_
   refine lx_ext1 rfl rfl (fun w => add64k _ _ 0 _ (by decide) (k1s (b.getD i 0) a (RT a b i) 2) w) rfl rfl ?_
   refine rA5 ?_
   refine pA5 ?_
   refine lx_bin (v := U64 (KC (b.getD i 0) a (RT a b i) 3)) rfl rfl (fun _ => rfl) (fun w => (bin_add_u64 _ _ _).trans (congrArg (fun z => Result.ok (U64 z) w) (k2s (b.getD i 0) a (RT a b i) 2))) rfl rfl ?_
   refine rA5 ?_
   refine xp ?_
   refine lx_ia0 (3) rfl rfl Tryz.underlying42 Tryz.sizeOf24 (by omega) (by omega) rfl rfl ?_
   refine lx_loadm 2 U64 0 rfl rfl Tryz.isAgg24 (by rw [ha]; omega) rfl rfl ?_
   refine rA5 ?_
   refine lc ent148 (mul64_pure _ _) ?_
   refine rA5 ?_
   refine pA5 ?_
   refine lx_ext1 rfl rfl (fun w => add64 _ _ 0 (by decide) w) rfl rfl ?_
   refine rA5 ?_
   refine pA5 ?_
   refine lx_bin rfl rfl (fun _ => rfl) (fun _ => bin_add_u64 _ _ _) rfl rfl ?_
   refine rA5 ?_
   refine pA5 ?_
   refine lx_ext1 rfl rfl (fun w => add64k _ _ 0 _ (by decide) (k1s (b.getD i 0) a (RT a b i) 3) w) rfl rfl ?_
   refine rA5 ?_
   refine pA5 ?_
   refine lx_bin (v := U64 (KC (b.getD i 0) a (RT a b i) 4)) rfl rfl (fun _ => rfl) (fun w => (bin_add_u64 _ _ _).trans (congrArg (fun z => Result.ok (U64 z) w) (k2s (b.getD i 0) a (RT a b i) 3))) rfl rfl ?_
   refine rA5 ?_
   refine xp ?_
   refine lx_ia0 (4) rfl rfl Tryz.underlying42 Tryz.sizeOf24 (by omega) (by omega) rfl rfl ?_
   refine lx_loadm 2 U64 0 rfl rfl Tryz.isAgg24 (by rw [ha]; omega) rfl rfl ?_
   refine rA5 ?_
   refine lc ent148 (mul64_pure _ _) ?_
   refine rA5 ?_
   refine pA5 ?_
   refine lx_ext1 rfl rfl (fun w => add64 _ _ 0 (by decide) w) rfl rfl ?_
   refine rA5 ?_
   refine pA5 ?_
   refine lx_bin rfl rfl (fun _ => rfl) (fun _ => bin_add_u64 _ _ _) rfl rfl ?_
   refine rA5 ?_
   refine pA5 ?_
   refine lx_ext1 rfl rfl (fun w => add64k _ _ 0 _ (by decide) (k1s (b.getD i 0) a (RT a b i) 4) w) rfl rfl ?_
   refine rA5 ?_
   refine pA5 ?_
   refine lx_bin (v := U64 (KC (b.getD i 0) a (RT a b i) 5)) rfl rfl (fun _ => rfl) (fun w => (bin_add_u64 _ _ _).trans (congrArg (fun z => Result.ok (U64 z) w) (k2s (b.getD i 0) a (RT a b i) 4))) rfl rfl ?_
   refine rA5 ?_
   refine xp ?_
   refine lx_ia0 (5) rfl rfl Tryz.underlying42 Tryz.sizeOf24 (by omega) (by omega) rfl rfl ?_
   refine lx_loadm 2 U64 0 rfl rfl Tryz.isAgg24 (by rw [ha]; omega) rfl rfl ?_
   refine rA5 ?_
   refine lc ent148 (mul64_pure _ _) ?_
   refine rA5 ?_
   refine pA5 ?_
   refine lx_ext1 rfl rfl (fun w => add64 _ _ 0 (by decide) w) rfl rfl ?_
   refine rA5 ?_
   refine pA5 ?_
   refine lx_bin rfl rfl (fun _ => rfl) (fun _ => bin_add_u64 _ _ _) rfl rfl ?_
   refine rA5 ?_
   refine pA5 ?_
   refine lx_ext1 rfl rfl (fun w => add64k _ _ 0 _ (by decide) (k1s (b.getD i 0) a (RT a b i) 5) w) rfl rfl ?_
   refine rA5 ?_
   refine pA5 ?_
   refine lx_bin (v := U64 (KC (b.getD i 0) a (RT a b i) 6)) rfl rfl (fun _ => rfl) (fun w => (bin_add_u64 _ _ _).trans (congrArg (fun z => Result.ok (U64 z) w) (k2s (b.getD i 0) a (RT a b i) 5))) rfl rfl ?_
   refine rA5 ?_
   refine pA5 ?_
   refine pA5 ?_
   refine lx_bin (v := U64 (KT (b.getD i 0) a (RT a b i) 0 * INV)) rfl rfl (fun _ => rfl) (fun w => bin_mul_u64 _ _ INV) rfl rfl ?_
   refine rA5 ?_
   refine pA5 ?_
   refine lx_call rfl rfl ent148 (mul64_pure _ (PL.getD 0 0)) rfl rfl ?_
   refine rA5 ?_
   refine pA5 ?_
   refine lx_ext1 rfl rfl (fun w => add64 _ _ 0 (by decide) w) rfl rfl ?_
   refine rA5 ?_
   refine pA5 ?_
   refine lx_bin (v := U64 (KD (KT (b.getD i 0) a (RT a b i) 0 * INV) PL (T1 (b.getD i 0) a (RT a b i)) 0)) rfl rfl (fun _ => rfl) (fun w => (bin_add_u64 _ _ _).trans (congrArg (fun z => Result.ok (U64 z) w) (d2z (b.getD i 0) (KT (b.getD i 0) a (RT a b i) 0 * INV) a (RT a b i)))) rfl rfl ?_
   refine rA5 ?_
   refine pA5 ?_
   refine lx_call rfl rfl ent148 (mul64_pure _ (PL.getD 1 0)) rfl rfl ?_
   refine rA5 ?_
   refine pA5 ?_
   refine lx_ext1 rfl rfl (fun w => add64 _ _ 0 (by decide) w) rfl rfl ?_
   refine rA5 ?_
   refine pA5 ?_
   refine lx_bin rfl rfl (fun _ => rfl) (fun _ => bin_add_u64 _ _ _) rfl rfl ?_
   refine rA5 ?_
   refine pA5 ?_
   refine lx_ext1 rfl rfl (fun w => add64k _ _ 0 _ (by decide) (d1s (b.getD i 0) (KT (b.getD i 0) a (RT a b i) 0 * INV) a (RT a b i) 0 (by decide)) w) rfl rfl ?_
   refine rA5 ?_
   refine pA5 ?_
   refine lx_bin (v := U64 (KD (KT (b.getD i 0) a (RT a b i) 0 * INV) PL (T1 (b.getD i 0) a (RT a b i)) 1)) rfl rfl (fun _ => rfl) (fun w => (bin_add_u64 _ _ _).trans (congrArg (fun z => Result.ok (U64 z) w) (d2s (b.getD i 0) (KT (b.getD i 0) a (RT a b i) 0 * INV) a (RT a b i) 0 (by decide)))) rfl rfl ?_
   refine rA5 ?_
   refine pA5 ?_
   refine lx_call rfl rfl ent148 (mul64_pure _ (PL.getD 2 0)) rfl rfl ?_
   refine rA5 ?_
   refine pA5 ?_
   refine lx_ext1 rfl rfl (fun w => add64 _ _ 0 (by decide) w) rfl rfl ?_
   refine rA5 ?_
   refine pA5 ?_
   refine lx_bin rfl rfl (fun _ => rfl) (fun _ => bin_add_u64 _ _ _) rfl rfl ?_
   refine rA5 ?_
   refine pA5 ?_
   refine lx_ext1 rfl rfl (fun w => add64k _ _ 0 _ (by decide) (d1s (b.getD i 0) (KT (b.getD i 0) a (RT a b i) 0 * INV) a (RT a b i) 1 (by decide)) w) rfl rfl ?_
   refine rA5 ?_
   refine pA5 ?_
   refine lx_bin (v := U64 (KD (KT (b.getD i 0) a (RT a b i) 0 * INV) PL (T1 (b.getD i 0) a (RT a b i)) 2)) rfl rfl (fun _ => rfl) (fun w => (bin_add_u64 _ _ _).trans (congrArg (fun z => Result.ok (U64 z) w) (d2s (b.getD i 0) (KT (b.getD i 0) a (RT a b i) 0 * INV) a (RT a b i) 1 (by decide)))) rfl rfl ?_
   refine rA5 ?_
   refine pA5 ?_
   refine lx_call rfl rfl ent148 (mul64_pure _ (PL.getD 3 0)) rfl rfl ?_
   refine rA5 ?_
   refine pA5 ?_
   refine lx_ext1 rfl rfl (fun w => add64 _ _ 0 (by decide) w) rfl rfl ?_
   refine rA5 ?_
   refine pA5 ?_
   refine lx_bin rfl rfl (fun _ => rfl) (fun _ => bin_add_u64 _ _ _) rfl rfl ?_
   refine rA5 ?_
   refine pA5 ?_
   refine lx_ext1 rfl rfl (fun w => add64k _ _ 0 _ (by decide) (d1s (b.getD i 0) (KT (b.getD i 0) a (RT a b i) 0 * INV) a (RT a b i) 2 (by decide)) w) rfl rfl ?_
   refine rA5 ?_
   refine pA5 ?_
   refine lx_bin (v := U64 (KD (KT (b.getD i 0) a (RT a b i) 0 * INV) PL (T1 (b.getD i 0) a (RT a b i)) 3)) rfl rfl (fun _ => rfl) (fun w => (bin_add_u64 _ _ _).trans (congrArg (fun z => Result.ok (U64 z) w) (d2s (b.getD i 0) (KT (b.getD i 0) a (RT a b i) 0 * INV) a (RT a b i) 2 (by decide)))) rfl rfl ?_
   refine rA5 ?_
   refine pA5 ?_
   refine lx_call rfl rfl ent148 (mul64_pure _ (PL.getD 4 0)) rfl rfl ?_
   refine rA5 ?_
   refine pA5 ?_
   refine lx_ext1 rfl rfl (fun w => add64 _ _ 0 (by decide) w) rfl rfl ?_
   refine rA5 ?_
   refine pA5 ?_
   refine lx_bin rfl rfl (fun _ => rfl) (fun _ => bin_add_u64 _ _ _) rfl rfl ?_
   refine rA5 ?_
   refine pA5 ?_
   refine lx_ext1 rfl rfl (fun w => add64k _ _ 0 _ (by decide) (d1s (b.getD i 0) (KT (b.getD i 0) a (RT a b i) 0 * INV) a (RT a b i) 3 (by decide)) w) rfl rfl ?_
   refine rA5 ?_
   refine pA5 ?_
   refine lx_bin (v := U64 (KD (KT (b.getD i 0) a (RT a b i) 0 * INV) PL (T1 (b.getD i 0) a (RT a b i)) 4)) rfl rfl (fun _ => rfl) (fun w => (bin_add_u64 _ _ _).trans (congrArg (fun z => Result.ok (U64 z) w) (d2s (b.getD i 0) (KT (b.getD i 0) a (RT a b i) 0 * INV) a (RT a b i) 3 (by decide)))) rfl rfl ?_
   refine rA5 ?_
   refine pA5 ?_
   refine lx_call rfl rfl ent148 (mul64_pure _ (PL.getD 5 0)) rfl rfl ?_
   refine rA5 ?_
   refine pA5 ?_
   refine lx_ext1 rfl rfl (fun w => add64 _ _ 0 (by decide) w) rfl rfl ?_
   refine rA5 ?_
   refine pA5 ?_
   refine lx_bin rfl rfl (fun _ => rfl) (fun _ => bin_add_u64 _ _ _) rfl rfl ?_
   refine rA5 ?_
   refine pA5 ?_
   refine lx_ext1 rfl rfl (fun w => add64k _ _ 0 _ (by decide) (d1s (b.getD i 0) (KT (b.getD i 0) a (RT a b i) 0 * INV) a (RT a b i) 4 (by decide)) w) rfl rfl ?_
   refine rA5 ?_
   refine pA5 ?_
   refine lx_bin (v := U64 (KD (KT (b.getD i 0) a (RT a b i) 0 * INV) PL (T1 (b.getD i 0) a (RT a b i)) 5)) rfl rfl (fun _ => rfl) (fun w => (bin_add_u64 _ _ _).trans (congrArg (fun z => Result.ok (U64 z) w) (d2s (b.getD i 0) (KT (b.getD i 0) a (RT a b i) 0 * INV) a (RT a b i) 4 (by decide)))) rfl rfl ?_
   refine rA5 ?_
   refine x_plain (E := EE []) ?_
   refine rA5 ?_
   refine lx_bin rfl rfl (fun _ => rfl) (fun _ => bin_add_u64 _ _ _) rfl rfl ?_
   refine rA5 ?_
   refine x_plain (E := EE []) ?_
   refine rA5 ?_
   refine lx_bin rfl rfl (fun _ => rfl) (fun _ => bin_add_i _ _ _ (by unfold inI; omega)) rfl rfl ?_
   refine rA5 ?_
   repeat (refine kblk_n ?_)
   refine kseq_n ?_
   exact ⟨rfl, ⟨i + 1, by omega⟩, _, by show 6 - (i + 1) < 6 - i; omega, rfl, ⟨rfl, rfl, rfl, congrArg (fun z => some (U64 z)) (RT_n a b i 0 (by decide)).symm, congrArg (fun z => some (U64 z)) (RT_n a b i 1 (by decide)).symm, congrArg (fun z => some (U64 z)) (RT_n a b i 2 (by decide)).symm, congrArg (fun z => some (U64 z)) (RT_n a b i 3 (by decide)).symm, congrArg (fun z => some (U64 z)) (RT_n a b i 4 (by decide)).symm, congrArg (fun z => some (U64 z)) (RT_top a b i).symm, rfl, trivial⟩, ⟨rfl, rfl, rfl, trivial⟩⟩
  ·obtain rfl : i = 6 := by simp at hc; omega
   refine x_exit ?_
   refine pA5 ?_
   refine lx_buildr (n := 6) (vs := (RT a b 6).map U64) (congrArg some (six_map (RT a b 6) (RT_len _ _ _))) rfl Tryz.underlying42 Tryz.sizeOf24 Tryz.zeroValue42 (by rw [List.length_map, RT_len]; rfl) (one_u64 _) rfl rfl ?_
   refine la zv42 fun b19 => ?_
   refine lx_storea 19 hGF rfl rfl rfl Tryz.sizeOf42 (by rw [List.length_map, RT_len _ _ _]) (by rw [List.length_map, List.length_replicate]) (one_u64 _) rfl ?_
   refine lx_nil ?_
   refine x_seq ?_
   refine xs_drawA (E := EE [2999999]) [0, 1, 2, 3, 4, 5] [⟨6, 20, 42, (List.replicate 6 0#64).map U64⟩] [7, 8] mixed rfl (by kernel_rfl) (by kernel_rfl) (by kernel_rfl) (by kernel_rfl) (by kernel_rfl) (by kernel_rfl) (by decide) (by intro x hx; simp only [List.mem_cons, List.not_mem_nil, or_false] at hx; subst hx; exact isAlloc_mk rfl zv42 rfl) ?_
   refine lx_loada 19 rfl rfl Tryz.isAgg42 Tryz.sizeOf42 (by rw [List.length_map, RT_len _ _ _]) rfl rfl ?_
   refine lc ent145 (rp_pure) ?_
   refine lx_call rfl rfl ent143 (rsub_pure _ _ (RT_len _ _ _) rfl) rfl rfl ?_
   refine rA5 ?_
   refine ⟨_, _, rfl, hGF, by intro x hx; simp only [List.mem_cons, List.not_mem_nil, or_false] at hx; subst hx; rfl, by intro x hx; simp only [List.mem_cons, List.not_mem_nil, or_false] at hx; subst hx; rfl, fun adr => ?_⟩
   refine lx_storea 20 hGF rfl rfl rfl Tryz.sizeOf42 (by rw [List.length_map, SS_len _ _ _]) (by rw [List.length_map, List.length_replicate]) (one_u64 _) rfl ?_
   refine rA5 ?_
   refine pA5 ?_
   refine lx_bin (v := .bool true) rfl rfl (fun _ => rfl) (fun w => (bin_eql_u64 _ _ _).trans (congrArg (fun b => Result.ok (Value.bool b) w) (beq_iff_eq.2 h0))) rfl rfl ?_
   refine lx_nil ?_
   refine x_true rfl ?_
   refine x_plain (E := EE []) ?_
   refine lx_loada 20 rfl rfl Tryz.isAgg42 Tryz.sizeOf42 (by rw [List.length_map, SS_len _ _ _]) rfl rfl ?_
   refine lx_storea 19 hGF rfl rfl rfl Tryz.sizeOf42 (by rw [List.length_map, SS_len _ _ _]) (by rw [List.length_map, RT_len _ _ _]) (one_u64 _) rfl ?_
   refine lx_nil ?_
   refine xp ?_
   refine lx_loada 19 rfl rfl Tryz.isAgg42 Tryz.sizeOf42 (by rw [List.length_map, SS_len _ _ _]) rfl rfl ?_
   refine lx_storea 4 hGF rfl rfl rfl Tryz.sizeOf42 (by rw [List.length_map, SS_len _ _ _]) (by rw [List.length_map, List.length_replicate]) (one_u64 _) rfl ?_
   refine lx_nil ?_
   refine rt ?_
   exact kret_own 4 rfl rfl rfl Tryz.isAgg42 Tryz.sizeOf42 (by rw [List.length_map, SS_len]) (fun w hw => ⟨by rw [RM, if_pos h0], hp_below hw⟩)
 ·skip
  refine xp ?_
  refine lb fun b2 => ?_
  refine lb fun b3 => ?_
  refine la zv42 fun b4 => ?_
  refine lx_nil ?_
  refine pA5 ?_
  refine x_seq ?_
  refine pA5 ?_
  refine x_block ?_
  refine x_for (ι := { i : Nat // i ≤ 6 }) (fun x => [(2, .pointer (some ⟨b2, 0, none⟩)), (3, .pointer (some ⟨b3, 0, none⟩)), (4, .pointer (some ⟨b4, 0, none⟩)), (5, U64 ((RT a b x.1).getD 0 0)), (6, U64 ((RT a b x.1).getD 1 0)), (7, U64 ((RT a b x.1).getD 2 0)), (8, U64 ((RT a b x.1).getD 3 0)), (9, U64 ((RT a b x.1).getD 4 0)), (10, U64 ((RT a b x.1).getD 5 0)), (11, I (x.1 : Int))]) (fun x => [(2, b2, a.map U64, 42), (3, b3, b.map U64, 42), (4, b4, (List.replicate 6 0#64).map U64, 42)]) (fun x => 6 - x.1) ⟨0, by omega⟩ hGF ⟨rfl, rfl, rfl, rfl, rfl, rfl, rfl, rfl, rfl, rfl, trivial⟩ ⟨rfl, rfl, rfl, trivial⟩ ?_
  rintro ⟨i, hi⟩
  dsimp only
  refine x_seq ?_
  refine pA5 ?_
  refine lx_bin rfl rfl (fun _ => rfl) (fun _ => bin_lss_i _ _ _) rfl rfl ?_
  refine lx_nil ?_
  refine x_if rfl (fun hc => ?_) (fun hc => ?_)
  ·simp only [decide_eq_true_eq] at hc
   refine x_skip ?_
   refine x_seq ?_
   refine x_block ?_
   refine pA5 ?_
   refine pA5 ?_
   refine lx_ia0 (i) rfl rfl Tryz.underlying42 Tryz.sizeOf24 (by omega) (by omega) rfl rfl ?_
   refine lx_loadm 3 U64 0 rfl rfl Tryz.isAgg24 (by rw [hb]; omega) rfl rfl ?_
   refine rA5 ?_
   refine xp ?_
   refine lx_ia0 (0) rfl rfl Tryz.underlying42 Tryz.sizeOf24 (by omega) (by omega) rfl rfl ?_
   refine lx_loadm 2 U64 0 rfl rfl Tryz.isAgg24 (by rw [ha]; omega) rfl rfl ?_
   refine rA5 ?_
   refine lc ent148 (mul64_pure _ _) ?_
   refine rA5 ?_
   refine pA5 ?_
   refine lx_ext1 rfl rfl (fun w => add64k _ _ 0 _ (by decide) (k1z (b.getD i 0) a (RT a b i)) w) rfl rfl ?_
   refine rA5 ?_
   refine pA5 ?_
   refine lx_bin (v := U64 (KC (b.getD i 0) a (RT a b i) 1)) rfl rfl (fun _ => rfl) (fun w => (bin_add_u64 _ _ _).trans (congrArg (fun z => Result.ok (U64 z) w) (k2z (b.getD i 0) a (RT a b i)))) rfl rfl ?_
   refine rA5 ?_
   refine xp ?_
   refine lx_ia0 (1) rfl rfl Tryz.underlying42 Tryz.sizeOf24 (by omega) (by omega) rfl rfl ?_
   refine lx_loadm 2 U64 0 rfl rfl Tryz.isAgg24 (by rw [ha]; omega) rfl rfl ?_
   refine rA5 ?_
   refine lc ent148 (mul64_pure _ _) ?_
   refine rA5 ?_
   refine pA5 ?_
   refine lx_ext1 rfl rfl (fun w => add64 _ _ 0 (by decide) w) rfl rfl ?_
   refine rA5 ?_
   refine pA5 ?_
   refine lx_bin rfl rfl (fun _ => rfl) (fun _ => bin_add_u64 _ _ _) rfl rfl ?_
   refine rA5 ?_
   refine pA5 ?_
   refine lx_ext1 rfl rfl (fun w => add64k _ _ 0 _ (by decide) (k1s (b.getD i 0) a (RT a b i) 1) w) rfl rfl ?_
   refine rA5 ?_
   refine pA5 ?_
   refine lx_bin (v := U64 (KC (b.getD i 0) a (RT a b i) 2)) rfl rfl (fun _ => rfl) (fun w => (bin_add_u64 _ _ _).trans (congrArg (fun z => Result.ok (U64 z) w) (k2s (b.getD i 0) a (RT a b i) 1))) rfl rfl ?_
   refine rA5 ?_
   refine xp ?_
   refine lx_ia0 (2) rfl rfl Tryz.underlying42 Tryz.sizeOf24 (by omega) (by omega) rfl rfl ?_
   refine lx_loadm 2 U64 0 rfl rfl Tryz.isAgg24 (by rw [ha]; omega) rfl rfl ?_
   refine rA5 ?_
   refine lc ent148 (mul64_pure _ _) ?_
   refine rA5 ?_
   refine pA5 ?_
   refine lx_ext1 rfl rfl (fun w => add64 _ _ 0 (by decide) w) rfl rfl ?_
   refine rA5 ?_
   refine pA5 ?_
   refine lx_bin rfl rfl (fun _ => rfl) (fun _ => bin_add_u64 _ _ _) rfl rfl ?_
   refine rA5 ?_
   refine pA5 ?_
   refine lx_ext1 rfl rfl (fun w => add64k _ _ 0 _ (by decide) (k1s (b.getD i 0) a (RT a b i) 2) w) rfl rfl ?_
   refine rA5 ?_
   refine pA5 ?_
   refine lx_bin (v := U64 (KC (b.getD i 0) a (RT a b i) 3)) rfl rfl (fun _ => rfl) (fun w => (bin_add_u64 _ _ _).trans (congrArg (fun z => Result.ok (U64 z) w) (k2s (b.getD i 0) a (RT a b i) 2))) rfl rfl ?_
   refine rA5 ?_
   refine xp ?_
   refine lx_ia0 (3) rfl rfl Tryz.underlying42 Tryz.sizeOf24 (by omega) (by omega) rfl rfl ?_
   refine lx_loadm 2 U64 0 rfl rfl Tryz.isAgg24 (by rw [ha]; omega) rfl rfl ?_
   refine rA5 ?_
   refine lc ent148 (mul64_pure _ _) ?_
   refine rA5 ?_
   refine pA5 ?_
   refine lx_ext1 rfl rfl (fun w => add64 _ _ 0 (by decide) w) rfl rfl ?_
   refine rA5 ?_
   refine pA5 ?_
   refine lx_bin rfl rfl (fun _ => rfl) (fun _ => bin_add_u64 _ _ _) rfl rfl ?_
   refine rA5 ?_
   refine pA5 ?_
   refine lx_ext1 rfl rfl (fun w => add64k _ _ 0 _ (by decide) (k1s (b.getD i 0) a (RT a b i) 3) w) rfl rfl ?_
   refine rA5 ?_
   refine pA5 ?_
   refine lx_bin (v := U64 (KC (b.getD i 0) a (RT a b i) 4)) rfl rfl (fun _ => rfl) (fun w => (bin_add_u64 _ _ _).trans (congrArg (fun z => Result.ok (U64 z) w) (k2s (b.getD i 0) a (RT a b i) 3))) rfl rfl ?_
   refine rA5 ?_
   refine xp ?_
   refine lx_ia0 (4) rfl rfl Tryz.underlying42 Tryz.sizeOf24 (by omega) (by omega) rfl rfl ?_
   refine lx_loadm 2 U64 0 rfl rfl Tryz.isAgg24 (by rw [ha]; omega) rfl rfl ?_
   refine rA5 ?_
   refine lc ent148 (mul64_pure _ _) ?_
   refine rA5 ?_
   refine pA5 ?_
   refine lx_ext1 rfl rfl (fun w => add64 _ _ 0 (by decide) w) rfl rfl ?_
   refine rA5 ?_
   refine pA5 ?_
   refine lx_bin rfl rfl (fun _ => rfl) (fun _ => bin_add_u64 _ _ _) rfl rfl ?_
   refine rA5 ?_
   refine pA5 ?_
   refine lx_ext1 rfl rfl (fun w => add64k _ _ 0 _ (by decide) (k1s (b.getD i 0) a (RT a b i) 4) w) rfl rfl ?_
   refine rA5 ?_
   refine pA5 ?_
   refine lx_bin (v := U64 (KC (b.getD i 0) a (RT a b i) 5)) rfl rfl (fun _ => rfl) (fun w => (bin_add_u64 _ _ _).trans (congrArg (fun z => Result.ok (U64 z) w) (k2s (b.getD i 0) a (RT a b i) 4))) rfl rfl ?_
   refine rA5 ?_
   refine xp ?_
   refine lx_ia0 (5) rfl rfl Tryz.underlying42 Tryz.sizeOf24 (by omega) (by omega) rfl rfl ?_
   refine lx_loadm 2 U64 0 rfl rfl Tryz.isAgg24 (by rw [ha]; omega) rfl rfl ?_
   refine rA5 ?_
   refine lc ent148 (mul64_pure _ _) ?_
   refine rA5 ?_
   refine pA5 ?_
   refine lx_ext1 rfl rfl (fun w => add64 _ _ 0 (by decide) w) rfl rfl ?_
   refine rA5 ?_
   refine pA5 ?_
   refine lx_bin rfl rfl (fun _ => rfl) (fun _ => bin_add_u64 _ _ _) rfl rfl ?_
   refine rA5 ?_
   refine pA5 ?_
   refine lx_ext1 rfl rfl (fun w => add64k _ _ 0 _ (by decide) (k1s (b.getD i 0) a (RT a b i) 5) w) rfl rfl ?_
   refine rA5 ?_
   refine pA5 ?_
   refine lx_bin (v := U64 (KC (b.getD i 0) a (RT a b i) 6)) rfl rfl (fun _ => rfl) (fun w => (bin_add_u64 _ _ _).trans (congrArg (fun z => Result.ok (U64 z) w) (k2s (b.getD i 0) a (RT a b i) 5))) rfl rfl ?_
   refine rA5 ?_
   refine pA5 ?_
   refine pA5 ?_
   refine lx_bin (v := U64 (KT (b.getD i 0) a (RT a b i) 0 * INV)) rfl rfl (fun _ => rfl) (fun w => bin_mul_u64 _ _ INV) rfl rfl ?_
   refine rA5 ?_
   refine pA5 ?_
   refine lx_call rfl rfl ent148 (mul64_pure _ (PL.getD 0 0)) rfl rfl ?_
   refine rA5 ?_
   refine pA5 ?_
   refine lx_ext1 rfl rfl (fun w => add64 _ _ 0 (by decide) w) rfl rfl ?_
   refine rA5 ?_
   refine pA5 ?_
   refine lx_bin (v := U64 (KD (KT (b.getD i 0) a (RT a b i) 0 * INV) PL (T1 (b.getD i 0) a (RT a b i)) 0)) rfl rfl (fun _ => rfl) (fun w => (bin_add_u64 _ _ _).trans (congrArg (fun z => Result.ok (U64 z) w) (d2z (b.getD i 0) (KT (b.getD i 0) a (RT a b i) 0 * INV) a (RT a b i)))) rfl rfl ?_
   refine rA5 ?_
   refine pA5 ?_
   refine lx_call rfl rfl ent148 (mul64_pure _ (PL.getD 1 0)) rfl rfl ?_
   refine rA5 ?_
   refine pA5 ?_
   refine lx_ext1 rfl rfl (fun w => add64 _ _ 0 (by decide) w) rfl rfl ?_
   refine rA5 ?_
   refine pA5 ?_
   refine lx_bin rfl rfl (fun _ => rfl) (fun _ => bin_add_u64 _ _ _) rfl rfl ?_
   refine rA5 ?_
   refine pA5 ?_
   refine lx_ext1 rfl rfl (fun w => add64k _ _ 0 _ (by decide) (d1s (b.getD i 0) (KT (b.getD i 0) a (RT a b i) 0 * INV) a (RT a b i) 0 (by decide)) w) rfl rfl ?_
   refine rA5 ?_
   refine pA5 ?_
   refine lx_bin (v := U64 (KD (KT (b.getD i 0) a (RT a b i) 0 * INV) PL (T1 (b.getD i 0) a (RT a b i)) 1)) rfl rfl (fun _ => rfl) (fun w => (bin_add_u64 _ _ _).trans (congrArg (fun z => Result.ok (U64 z) w) (d2s (b.getD i 0) (KT (b.getD i 0) a (RT a b i) 0 * INV) a (RT a b i) 0 (by decide)))) rfl rfl ?_
   refine rA5 ?_
   refine pA5 ?_
   refine lx_call rfl rfl ent148 (mul64_pure _ (PL.getD 2 0)) rfl rfl ?_
   refine rA5 ?_
   refine pA5 ?_
   refine lx_ext1 rfl rfl (fun w => add64 _ _ 0 (by decide) w) rfl rfl ?_
   refine rA5 ?_
   refine pA5 ?_
   refine lx_bin rfl rfl (fun _ => rfl) (fun _ => bin_add_u64 _ _ _) rfl rfl ?_
   refine rA5 ?_
   refine pA5 ?_
   refine lx_ext1 rfl rfl (fun w => add64k _ _ 0 _ (by decide) (d1s (b.getD i 0) (KT (b.getD i 0) a (RT a b i) 0 * INV) a (RT a b i) 1 (by decide)) w) rfl rfl ?_
   refine rA5 ?_
   refine pA5 ?_
   refine lx_bin (v := U64 (KD (KT (b.getD i 0) a (RT a b i) 0 * INV) PL (T1 (b.getD i 0) a (RT a b i)) 2)) rfl rfl (fun _ => rfl) (fun w => (bin_add_u64 _ _ _).trans (congrArg (fun z => Result.ok (U64 z) w) (d2s (b.getD i 0) (KT (b.getD i 0) a (RT a b i) 0 * INV) a (RT a b i) 1 (by decide)))) rfl rfl ?_
   refine rA5 ?_
   refine pA5 ?_
   refine lx_call rfl rfl ent148 (mul64_pure _ (PL.getD 3 0)) rfl rfl ?_
   refine rA5 ?_
   refine pA5 ?_
   refine lx_ext1 rfl rfl (fun w => add64 _ _ 0 (by decide) w) rfl rfl ?_
   refine rA5 ?_
   refine pA5 ?_
   refine lx_bin rfl rfl (fun _ => rfl) (fun _ => bin_add_u64 _ _ _) rfl rfl ?_
   refine rA5 ?_
   refine pA5 ?_
   refine lx_ext1 rfl rfl (fun w => add64k _ _ 0 _ (by decide) (d1s (b.getD i 0) (KT (b.getD i 0) a (RT a b i) 0 * INV) a (RT a b i) 2 (by decide)) w) rfl rfl ?_
   refine rA5 ?_
   refine pA5 ?_
   refine lx_bin (v := U64 (KD (KT (b.getD i 0) a (RT a b i) 0 * INV) PL (T1 (b.getD i 0) a (RT a b i)) 3)) rfl rfl (fun _ => rfl) (fun w => (bin_add_u64 _ _ _).trans (congrArg (fun z => Result.ok (U64 z) w) (d2s (b.getD i 0) (KT (b.getD i 0) a (RT a b i) 0 * INV) a (RT a b i) 2 (by decide)))) rfl rfl ?_
   refine rA5 ?_
   refine pA5 ?_
   refine lx_call rfl rfl ent148 (mul64_pure _ (PL.getD 4 0)) rfl rfl ?_
   refine rA5 ?_
   refine pA5 ?_
   refine lx_ext1 rfl rfl (fun w => add64 _ _ 0 (by decide) w) rfl rfl ?_
   refine rA5 ?_
   refine pA5 ?_
   refine lx_bin rfl rfl (fun _ => rfl) (fun _ => bin_add_u64 _ _ _) rfl rfl ?_
   refine rA5 ?_
   refine pA5 ?_
   refine lx_ext1 rfl rfl (fun w => add64k _ _ 0 _ (by decide) (d1s (b.getD i 0) (KT (b.getD i 0) a (RT a b i) 0 * INV) a (RT a b i) 3 (by decide)) w) rfl rfl ?_
   refine rA5 ?_
   refine pA5 ?_
   refine lx_bin (v := U64 (KD (KT (b.getD i 0) a (RT a b i) 0 * INV) PL (T1 (b.getD i 0) a (RT a b i)) 4)) rfl rfl (fun _ => rfl) (fun w => (bin_add_u64 _ _ _).trans (congrArg (fun z => Result.ok (U64 z) w) (d2s (b.getD i 0) (KT (b.getD i 0) a (RT a b i) 0 * INV) a (RT a b i) 3 (by decide)))) rfl rfl ?_
   refine rA5 ?_
   refine pA5 ?_
   refine lx_call rfl rfl ent148 (mul64_pure _ (PL.getD 5 0)) rfl rfl ?_
   refine rA5 ?_
   refine pA5 ?_
   refine lx_ext1 rfl rfl (fun w => add64 _ _ 0 (by decide) w) rfl rfl ?_
   refine rA5 ?_
   refine pA5 ?_
   refine lx_bin rfl rfl (fun _ => rfl) (fun _ => bin_add_u64 _ _ _) rfl rfl ?_
   refine rA5 ?_
   refine pA5 ?_
   refine lx_ext1 rfl rfl (fun w => add64k _ _ 0 _ (by decide) (d1s (b.getD i 0) (KT (b.getD i 0) a (RT a b i) 0 * INV) a (RT a b i) 4 (by decide)) w) rfl rfl ?_
   refine rA5 ?_
   refine pA5 ?_
   refine lx_bin (v := U64 (KD (KT (b.getD i 0) a (RT a b i) 0 * INV) PL (T1 (b.getD i 0) a (RT a b i)) 5)) rfl rfl (fun _ => rfl) (fun w => (bin_add_u64 _ _ _).trans (congrArg (fun z => Result.ok (U64 z) w) (d2s (b.getD i 0) (KT (b.getD i 0) a (RT a b i) 0 * INV) a (RT a b i) 4 (by decide)))) rfl rfl ?_
   refine rA5 ?_
   refine x_plain (E := EE []) ?_
   refine rA5 ?_
   refine lx_bin rfl rfl (fun _ => rfl) (fun _ => bin_add_u64 _ _ _) rfl rfl ?_
   refine rA5 ?_
   refine x_plain (E := EE []) ?_
   refine rA5 ?_
   refine lx_bin rfl rfl (fun _ => rfl) (fun _ => bin_add_i _ _ _ (by unfold inI; omega)) rfl rfl ?_
   refine rA5 ?_
   repeat (refine kblk_n ?_)
   refine kseq_n ?_
   exact ⟨rfl, ⟨i + 1, by omega⟩, _, by show 6 - (i + 1) < 6 - i; omega, rfl, ⟨rfl, rfl, rfl, congrArg (fun z => some (U64 z)) (RT_n a b i 0 (by decide)).symm, congrArg (fun z => some (U64 z)) (RT_n a b i 1 (by decide)).symm, congrArg (fun z => some (U64 z)) (RT_n a b i 2 (by decide)).symm, congrArg (fun z => some (U64 z)) (RT_n a b i 3 (by decide)).symm, congrArg (fun z => some (U64 z)) (RT_n a b i 4 (by decide)).symm, congrArg (fun z => some (U64 z)) (RT_top a b i).symm, rfl, trivial⟩, ⟨rfl, rfl, rfl, trivial⟩⟩
  ·obtain rfl : i = 6 := by simp at hc; omega
   refine x_exit ?_
   refine pA5 ?_
   refine lx_buildr (n := 6) (vs := (RT a b 6).map U64) (congrArg some (six_map (RT a b 6) (RT_len _ _ _))) rfl Tryz.underlying42 Tryz.sizeOf24 Tryz.zeroValue42 (by rw [List.length_map, RT_len]; rfl) (one_u64 _) rfl rfl ?_
   refine la zv42 fun b19 => ?_
   refine lx_storea 19 hGF rfl rfl rfl Tryz.sizeOf42 (by rw [List.length_map, RT_len _ _ _]) (by rw [List.length_map, List.length_replicate]) (one_u64 _) rfl ?_
   refine lx_nil ?_
   refine x_seq ?_
   refine xs_drawA (E := EE [2999999]) [0, 1, 2, 3, 4, 5] [⟨6, 20, 42, (List.replicate 6 0#64).map U64⟩] [7, 8] mixed rfl (by kernel_rfl) (by kernel_rfl) (by kernel_rfl) (by kernel_rfl) (by kernel_rfl) (by kernel_rfl) (by decide) (by intro x hx; simp only [List.mem_cons, List.not_mem_nil, or_false] at hx; subst hx; exact isAlloc_mk rfl zv42 rfl) ?_
   refine lx_loada 19 rfl rfl Tryz.isAgg42 Tryz.sizeOf42 (by rw [List.length_map, RT_len _ _ _]) rfl rfl ?_
   refine lc ent145 (rp_pure) ?_
   refine lx_call rfl rfl ent143 (rsub_pure _ _ (RT_len _ _ _) rfl) rfl rfl ?_
   refine rA5 ?_
   refine ⟨_, _, rfl, hGF, by intro x hx; simp only [List.mem_cons, List.not_mem_nil, or_false] at hx; subst hx; rfl, by intro x hx; simp only [List.mem_cons, List.not_mem_nil, or_false] at hx; subst hx; rfl, fun adr => ?_⟩
   refine lx_storea 20 hGF rfl rfl rfl Tryz.sizeOf42 (by rw [List.length_map, SS_len _ _ _]) (by rw [List.length_map, List.length_replicate]) (one_u64 _) rfl ?_
   refine rA5 ?_
   refine pA5 ?_
   refine lx_bin (v := .bool false) rfl rfl (fun _ => rfl) (fun w => (bin_eql_u64 _ _ _).trans (congrArg (fun b => Result.ok (Value.bool b) w) (beq_eq_false_iff_ne.2 h0))) rfl rfl ?_
   refine lx_nil ?_
   refine x_false rfl ?_
   refine x_skip ?_
   refine xp ?_
   refine lx_loada 19 rfl rfl Tryz.isAgg42 Tryz.sizeOf42 (by rw [List.length_map, RT_len _ _ _]) rfl rfl ?_
   refine lx_storea 4 hGF rfl rfl rfl Tryz.sizeOf42 (by rw [List.length_map, RT_len _ _ _]) (by rw [List.length_map, List.length_replicate]) (one_u64 _) rfl ?_
   refine lx_nil ?_
   refine rt ?_
   exact kret_own 4 rfl rfl rfl Tryz.isAgg42 Tryz.sizeOf42 (by rw [List.length_map, RT_len]) (fun w hw => ⟨by rw [RM, if_neg h0], hp_below hw⟩)
end
section
open Go.RowKit
theorem rA6 {Q P : Prop} (k : Q) (h : Q → P := by intro k; (refine LY.run ?_); (repeat (first | refine y_move rfl rfl rfl ?_ | refine y_assign rfl rfl rfl ?_ | refine y_ext rfl rfl rfl rfl ?_ | refine y_call (f := 145) rfl rfl ent145 (rp_pure) rfl rfl ?_)); (first | refine y_nil ?_ | refine LY.mk ?_); exact k) : P := h k
theorem pA6 {Q P : Prop} (k : Q) (h : Q → P := by intro k; (refine xp ?_); (refine rA6 ?_); exact k) : P := h k
theorem ent60 : Enters Tryz.prog 60 := fun _ _ => by kernel_rfl
theorem ent142 : Enters Tryz.prog 142 := fun _ _ => by kernel_rfl
theorem ent103 : Enters Tryz.prog 103 := fun _ _ => by kernel_rfl
theorem ent104 : Enters Tryz.prog 104 := fun _ _ => by kernel_rfl
theorem ent101 : Enters Tryz.prog 101 := fun _ _ => by kernel_rfl
theorem ent107 : Enters Tryz.prog 107 := fun _ _ => by kernel_rfl
theorem ent102 : Enters Tryz.prog 102 := fun _ _ => by kernel_rfl
theorem zv44 (w : World) : (zeroValue 44).run Tryz.prog w = .ok (.agg ((List.replicate 6 (0#64)).map U64).toArray) w := (Tryz.zeroValue44 w).trans (by rfl)
def RADD (a b : List (BitVec 64)) : List (BitVec 64) := if 1873798617647539866#64 ≤ (AS a b 6).1.getD 5 0 ∧ (SS (AS a b 6).1 PL 6).2 = 0 then (SS (AS a b 6).1 PL 6).1 else (AS a b 6).1
def RSUB (a b : List (BitVec 64)) : List (BitVec 64) := if (SS a b 6).2 = 1 then (AS (SS a b 6).1 PL 6).1 else (SS a b 6).1
def RNEG (a : List (BitVec 64)) : List (BitVec 64) := if a = List.replicate 6 0 then a else (SS PL a 6).1
theorem rof_pure (a : List (BitVec 64)) (ha : a.length = 6) : Pure Tryz.prog Gt 60 [.agg ((a).map U64).toArray] (.agg ((RM a TWO).map U64).toArray) := by
 refine pure_X Tryz.func60 fun w hw hGF => ?_
 refine xp ?_
 refine lb fun b1 => ?_
 refine la zv44 fun b2 => ?_
 refine lx_nil ?_
 refine xs_drawn (E := EE []) mixed (by kernel_rfl) (by kernel_rfl) (by kernel_rfl) ?_
 refine lx_loada 1 rfl rfl Tryz.isAgg42 Tryz.sizeOf42 (by rw [List.length_map, ha]) rfl rfl ?_
 refine lc ent111 (rtwo_pure) ?_
 refine lc ent110 (rmont_pure _ _ ha TWO_len) ?_
 refine lx_buildS rfl (RM_len _ _) Tryz.underlying44 rfl Tryz.sizeOf42 zv44 rfl rfl ?_
 refine lx_storea 2 hGF rfl rfl rfl Tryz.sizeOf44 (by rw [List.length_map, RM_len _ _]) (by rw [List.length_map, List.length_replicate]) (one_u64 _) rfl ?_
 refine lx_nil ?_
 refine rt ?_
 exact kret_own 2 rfl rfl rfl Tryz.isAgg44 Tryz.sizeOf44 (by rw [List.length_map, RM_len]) (fun w hw => ⟨rfl, hp_below hw⟩)
theorem rmul_pure (a b : List (BitVec 64)) (ha : a.length = 6) (hb : b.length = 6) : Pure Tryz.prog Gt 102 [.agg ((a).map U64).toArray, .agg ((b).map U64).toArray] (.agg ((RM a b).map U64).toArray) := by
 refine pure_X Tryz.func102 fun w hw hGF => ?_
 refine xp ?_
 refine lb fun b2 => ?_
 refine lb fun b3 => ?_
 refine la zv44 fun b4 => ?_
 refine lx_nil ?_
 refine xp ?_
 refine lx_fak 0 rfl Tryz.underlying44 rfl Tryz.sizeOf42 (by decide) rfl rfl rfl ?_
 refine lx_loada 2 rfl rfl Tryz.isAgg42 Tryz.sizeOf42 (by rw [List.length_map, ha]) rfl rfl ?_
 refine lx_fak 0 rfl Tryz.underlying44 rfl Tryz.sizeOf42 (by decide) rfl rfl rfl ?_
 refine lx_loada 3 rfl rfl Tryz.isAgg42 Tryz.sizeOf42 (by rw [List.length_map, hb]) rfl rfl ?_
 refine lc ent110 (rmont_pure _ _ ha hb) ?_
 refine lx_buildS rfl (RM_len _ _) Tryz.underlying44 rfl Tryz.sizeOf42 zv44 rfl rfl ?_
 refine lx_storea 4 hGF rfl rfl rfl Tryz.sizeOf44 (by rw [List.length_map, RM_len _ _]) (by rw [List.length_map, List.length_replicate]) (one_u64 _) rfl ?_
 refine lx_nil ?_
 refine rt ?_
 exact kret_own 4 rfl rfl rfl Tryz.isAgg44 Tryz.sizeOf44 (by rw [List.length_map, RM_len]) (fun w hw => ⟨rfl, hp_below hw⟩)
theorem rsmall_pure (n : BitVec 64) : Pure Tryz.prog Gt 142 [U64 n] (.agg ((RM (n :: List.replicate 5 0) TWO).map U64).toArray) := by
 refine pure_X Tryz.func142 fun w hw hGF => ?_
 refine xp ?_
 refine la zv44 fun b2 => ?_
 refine lx_nil ?_
 refine pA6 ?_
 refine lx_build1 n rfl Tryz.underlying42 Tryz.sizeOf24 zv42 rfl rfl ?_
 refine lx_call rfl rfl ent60 (rof_pure (n :: List.replicate 5 0) rfl) rfl rfl ?_
 refine lx_storea 2 hGF rfl rfl rfl Tryz.sizeOf44 (by rw [List.length_map, RM_len _ _]) (by rw [List.length_map, List.length_replicate]) (one_u64 _) rfl ?_
 refine lx_nil ?_
 refine rt ?_
 exact kret_own 2 rfl rfl rfl Tryz.isAgg44 Tryz.sizeOf44 (by rw [List.length_map, RM_len]) (fun w hw => ⟨rfl, hp_below hw⟩)
theorem risZero_pure (a : List (BitVec 64)) (ha : a.length = 6) : Pure Tryz.prog Gt 103 [.agg ((a).map U64).toArray] (.bool (decide (a = List.replicate 6 0))) := by
 refine pure_X Tryz.func103 fun w hw hGF => ?_
 refine xp ?_
 refine lb fun b1 => ?_
 refine rA6 ?_
 refine xp ?_
 refine lx_fak 0 rfl Tryz.underlying44 rfl Tryz.sizeOf42 (by decide) rfl rfl rfl ?_
 refine lx_loada 1 rfl rfl Tryz.isAgg42 Tryz.sizeOf42 (by rw [List.length_map, ha]) rfl rfl ?_
 refine lx_buildz zv42 Tryz.underlying42 Tryz.sizeOf24 rfl rfl ?_
 refine lx_bin (v := .bool (decide (a = List.replicate 6 0#64))) rfl rfl (fun _ => eqg27 _ _ _ _ _ _) (fun w => eq27 a (List.replicate 6 0#64) ha rfl w) rfl rfl ?_
 refine rA6 ?_
 refine rt ?_
 exact kret_tmp rfl rfl (fun w hw => ⟨rfl, hp_below hw⟩)
theorem rfsub_pure (a b : List (BitVec 64)) (ha : a.length = 6) (hb : b.length = 6) : Pure Tryz.prog Gt 101 [.agg ((a).map U64).toArray, .agg ((b).map U64).toArray] (.agg ((RSUB a b).map U64).toArray) := by
 refine pure_X Tryz.func101 fun w hw hGF => ?_
 by_cases h0 : (SS a b 6).2 = 1
 ·skip
  refine xp ?_
  refine lb fun b2 => ?_
  refine lb fun b3 => ?_
  refine la zv44 fun b4 => ?_
  refine lx_nil ?_
  refine xp ?_
  refine lx_fak 0 rfl Tryz.underlying44 rfl Tryz.sizeOf42 (by decide) rfl rfl rfl ?_
  refine lx_loada 2 rfl rfl Tryz.isAgg42 Tryz.sizeOf42 (by rw [List.length_map, ha]) rfl rfl ?_
  refine lx_fak 0 rfl Tryz.underlying44 rfl Tryz.sizeOf42 (by decide) rfl rfl rfl ?_
  refine lx_loada 3 rfl rfl Tryz.isAgg42 Tryz.sizeOf42 (by rw [List.length_map, hb]) rfl rfl ?_
  refine lc ent143 (rsub_pure _ _ ha hb) ?_
  refine rA6 ?_
  refine la zv42 fun b5 => ?_
  refine lx_storea 5 hGF rfl rfl rfl Tryz.sizeOf42 (by rw [List.length_map, SS_len _ _ _]) (by rw [List.length_map, List.length_replicate]) (one_u64 _) rfl ?_
  refine rA6 ?_
  refine x_seq ?_
  refine pA6 ?_
  refine lx_bin (v := .bool true) rfl rfl (fun _ => rfl) (fun w => (bin_eql_u64 _ _ _).trans (congrArg (fun b => Result.ok (Value.bool b) w) (beq_iff_eq.2 h0))) rfl rfl ?_
  refine lx_nil ?_
  refine x_true rfl ?_
  refine x_drawn (E := EE []) mixed (by kernel_rfl) (by kernel_rfl) (by kernel_rfl) ?_
  refine lx_loada 5 rfl rfl Tryz.isAgg42 Tryz.sizeOf42 (by rw [List.length_map, SS_len _ _ _]) rfl rfl ?_
  refine rA6 ?_
  refine lx_call rfl rfl ent144 (radd_pure _ _ (SS_len _ _ _) PL_len) rfl rfl ?_
  refine rA6 ?_
  refine lx_storea 5 hGF rfl rfl rfl Tryz.sizeOf42 (by rw [List.length_map, AS_len _ _ _]) (by rw [List.length_map, SS_len _ _ _]) (one_u64 _) rfl ?_
  refine lx_nil ?_
  refine xp ?_
  refine lx_loada 5 rfl rfl Tryz.isAgg42 Tryz.sizeOf42 (by rw [List.length_map, AS_len _ _ _]) rfl rfl ?_
  refine lx_buildS rfl (AS_len _ _ _) Tryz.underlying44 rfl Tryz.sizeOf42 zv44 rfl rfl ?_
  refine lx_storea 4 hGF rfl rfl rfl Tryz.sizeOf44 (by rw [List.length_map, AS_len _ _ _]) (by rw [List.length_map, List.length_replicate]) (one_u64 _) rfl ?_
  refine lx_nil ?_
  refine rt ?_
  exact kret_own 4 rfl rfl rfl Tryz.isAgg44 Tryz.sizeOf44 (by rw [List.length_map]; exact AS_len _ _ _) (fun w hw => ⟨by rw [RSUB, if_pos h0], hp_below hw⟩)
 ·skip
  refine xp ?_
  refine lb fun b2 => ?_
  refine lb fun b3 => ?_
  refine la zv44 fun b4 => ?_
  refine lx_nil ?_
  refine xp ?_
  refine lx_fak 0 rfl Tryz.underlying44 rfl Tryz.sizeOf42 (by decide) rfl rfl rfl ?_
  refine lx_loada 2 rfl rfl Tryz.isAgg42 Tryz.sizeOf42 (by rw [List.length_map, ha]) rfl rfl ?_
  refine lx_fak 0 rfl Tryz.underlying44 rfl Tryz.sizeOf42 (by decide) rfl rfl rfl ?_
  refine lx_loada 3 rfl rfl Tryz.isAgg42 Tryz.sizeOf42 (by rw [List.length_map, hb]) rfl rfl ?_
  refine lc ent143 (rsub_pure _ _ ha hb) ?_
  refine rA6 ?_
  refine la zv42 fun b5 => ?_
  refine lx_storea 5 hGF rfl rfl rfl Tryz.sizeOf42 (by rw [List.length_map, SS_len _ _ _]) (by rw [List.length_map, List.length_replicate]) (one_u64 _) rfl ?_
  refine rA6 ?_
  refine x_seq ?_
  refine pA6 ?_
  refine lx_bin (v := .bool false) rfl rfl (fun _ => rfl) (fun w => (bin_eql_u64 _ _ _).trans (congrArg (fun b => Result.ok (Value.bool b) w) (beq_eq_false_iff_ne.2 h0))) rfl rfl ?_
  refine lx_nil ?_
  refine x_false rfl ?_
  refine x_skip ?_
  refine xp ?_
  refine lx_loada 5 rfl rfl Tryz.isAgg42 Tryz.sizeOf42 (by rw [List.length_map, SS_len _ _ _]) rfl rfl ?_
  refine lx_buildS rfl (SS_len _ _ _) Tryz.underlying44 rfl Tryz.sizeOf42 zv44 rfl rfl ?_
  refine lx_storea 4 hGF rfl rfl rfl Tryz.sizeOf44 (by rw [List.length_map, SS_len _ _ _]) (by rw [List.length_map, List.length_replicate]) (one_u64 _) rfl ?_
  refine lx_nil ?_
  refine rt ?_
  exact kret_own 4 rfl rfl rfl Tryz.isAgg44 Tryz.sizeOf44 (by rw [List.length_map]; exact SS_len _ _ _) (fun w hw => ⟨by rw [RSUB, if_neg h0], hp_below hw⟩)
theorem rneg_pure (a : List (BitVec 64)) (ha : a.length = 6) : Pure Tryz.prog Gt 107 [.agg ((a).map U64).toArray] (.agg ((RNEG a).map U64).toArray) := by
 refine pure_X Tryz.func107 fun w hw hGF => ?_
 by_cases h0 : a = List.replicate 6 0
 ·skip
  refine xp ?_
  refine lb fun b1 => ?_
  refine la zv44 fun b2 => ?_
  refine lx_nil ?_
  refine x_seq ?_
  refine xp ?_
  refine lx_loada 1 rfl rfl Tryz.isAgg44 Tryz.sizeOf44 (by rw [List.length_map, ha]) rfl rfl ?_
  refine lx_call (v := .bool true) rfl rfl ent103 (decide_eq_true h0 ▸ risZero_pure a ha) rfl rfl ?_
  refine lx_nil ?_
  refine x_true rfl ?_
  refine xp ?_
  refine lx_loada 1 rfl rfl Tryz.isAgg44 Tryz.sizeOf44 (by rw [List.length_map, ha]) rfl rfl ?_
  refine lx_storea 2 hGF rfl rfl rfl Tryz.sizeOf44 (by rw [List.length_map, ha]) (by rw [List.length_map, List.length_replicate]) (one_u64 _) rfl ?_
  refine lx_nil ?_
  refine rt ?_
  exact kret_own 2 rfl rfl rfl Tryz.isAgg44 Tryz.sizeOf44 (by rw [List.length_map]; exact ha) (fun w hw => ⟨by rw [RNEG, if_pos h0], hp_below hw⟩)
 ·skip
  refine xp ?_
  refine lb fun b1 => ?_
  refine la zv44 fun b2 => ?_
  refine lx_nil ?_
  refine x_seq ?_
  refine xp ?_
  refine lx_loada 1 rfl rfl Tryz.isAgg44 Tryz.sizeOf44 (by rw [List.length_map, ha]) rfl rfl ?_
  refine lx_call (v := .bool false) rfl rfl ent103 (decide_eq_false h0 ▸ risZero_pure a ha) rfl rfl ?_
  refine lx_nil ?_
  refine x_false rfl ?_
  refine x_skip ?_
  refine xs_drawA (E := EE [2999999]) [0, 1, 2, 3, 4, 5, 6] [⟨7, 3, 42, (List.replicate 6 0#64).map U64⟩] [8, 9] mixed rfl (by kernel_rfl) (by kernel_rfl) (by kernel_rfl) (by kernel_rfl) (by kernel_rfl) (by kernel_rfl) (by decide) (by intro x hx; simp only [List.mem_cons, List.not_mem_nil, or_false] at hx; subst hx; exact isAlloc_mk rfl zv42 rfl) ?_
  refine rA6 ?_
  refine lx_fak 0 rfl Tryz.underlying44 rfl Tryz.sizeOf42 (by decide) rfl rfl rfl ?_
  refine lx_loada 1 rfl rfl Tryz.isAgg42 Tryz.sizeOf42 (by rw [List.length_map, ha]) rfl rfl ?_
  refine lc ent143 (rsub_pure _ _ PL_len ha) ?_
  refine rA6 ?_
  refine ⟨_, _, rfl, hGF, by intro x hx; simp only [List.mem_cons, List.not_mem_nil, or_false] at hx; subst hx; rfl, by intro x hx; simp only [List.mem_cons, List.not_mem_nil, or_false] at hx; subst hx; rfl, fun adr => ?_⟩
  refine lx_storea 3 hGF rfl rfl rfl Tryz.sizeOf42 (by rw [List.length_map, SS_len _ _ _]) (by rw [List.length_map, List.length_replicate]) (one_u64 _) rfl ?_
  refine rA6 ?_
  refine xp ?_
  refine lx_loada 3 rfl rfl Tryz.isAgg42 Tryz.sizeOf42 (by rw [List.length_map, SS_len _ _ _]) rfl rfl ?_
  refine lx_buildS rfl (SS_len _ _ _) Tryz.underlying44 rfl Tryz.sizeOf42 zv44 rfl rfl ?_
  refine lx_storea 2 hGF rfl rfl rfl Tryz.sizeOf44 (by rw [List.length_map, SS_len _ _ _]) (by rw [List.length_map, List.length_replicate]) (one_u64 _) rfl ?_
  refine lx_nil ?_
  refine rt ?_
  exact kret_own 2 rfl rfl rfl Tryz.isAgg44 Tryz.sizeOf44 (by rw [List.length_map]; exact SS_len _ _ _) (fun w hw => ⟨by rw [RNEG, if_neg h0], hp_below hw⟩)
theorem rfadd_pure (a b : List (BitVec 64)) (ha : a.length = 6) (hb : b.length = 6) : Pure Tryz.prog Gt 104 [.agg ((a).map U64).toArray, .agg ((b).map U64).toArray] (.agg ((RADD a b).map U64).toArray) := by
 refine pure_X Tryz.func104 fun w hw hGF => ?_
 by_cases h1 : 1873798617647539866#64 ≤ (AS a b 6).1.getD 5 0
 ·by_cases h0 : (SS (AS a b 6).1 PL 6).2 = 0
  ·skip
   refine xp ?_
   refine lb fun b2 => ?_
   refine lb fun b3 => ?_
   refine la zv44 fun b4 => ?_
   refine lx_nil ?_
   refine xp ?_
   refine lx_fak 0 rfl Tryz.underlying44 rfl Tryz.sizeOf42 (by decide) rfl rfl rfl ?_
   refine lx_loada 2 rfl rfl Tryz.isAgg42 Tryz.sizeOf42 (by rw [List.length_map, ha]) rfl rfl ?_
   refine lx_fak 0 rfl Tryz.underlying44 rfl Tryz.sizeOf42 (by decide) rfl rfl rfl ?_
   refine lx_loada 3 rfl rfl Tryz.isAgg42 Tryz.sizeOf42 (by rw [List.length_map, hb]) rfl rfl ?_
   refine lc ent144 (radd_pure _ _ ha hb) ?_
   refine rA6 ?_
   refine la zv42 fun b5 => ?_
   refine lx_storea 5 hGF rfl rfl rfl Tryz.sizeOf42 (by rw [List.length_map, AS_len _ _ _]) (by rw [List.length_map, List.length_replicate]) (one_u64 _) rfl ?_
   refine rA6 ?_
   refine x_seq ?_
   refine xp ?_
   refine lx_ia0 (5) rfl rfl Tryz.underlying42 Tryz.sizeOf24 (by omega) (by omega) rfl rfl ?_
   refine lx_loadm 5 U64 0 rfl rfl Tryz.isAgg24 (by rw [AS_len _ _ _]; omega) rfl rfl ?_
   refine lx_bin (v := .bool true) rfl rfl (fun _ => rfl) (fun w => (bin_geq_u64 _ _ 1873798617647539866#64).trans (congrArg (fun b => Result.ok (Value.bool b) w) (decide_eq_true h1))) rfl rfl ?_
   refine lx_nil ?_
   refine x_true rfl ?_
   refine xs_drawA (E := EE [2999999]) [0, 1, 2, 3, 4, 5] [⟨6, 7, 42, (List.replicate 6 0#64).map U64⟩] [7, 8] mixed rfl (by kernel_rfl) (by kernel_rfl) (by kernel_rfl) (by kernel_rfl) (by kernel_rfl) (by kernel_rfl) (by decide) (by intro x hx; simp only [List.mem_cons, List.not_mem_nil, or_false] at hx; subst hx; exact isAlloc_mk rfl zv42 rfl) ?_
   refine lx_loada 5 rfl rfl Tryz.isAgg42 Tryz.sizeOf42 (by rw [List.length_map, AS_len _ _ _]) rfl rfl ?_
   refine rA6 ?_
   refine lx_call rfl rfl ent143 (rsub_pure _ _ (AS_len _ _ _) PL_len) rfl rfl ?_
   refine rA6 ?_
   refine ⟨_, _, rfl, hGF, by intro x hx; simp only [List.mem_cons, List.not_mem_nil, or_false] at hx; subst hx; rfl, by intro x hx; simp only [List.mem_cons, List.not_mem_nil, or_false] at hx; subst hx; rfl, fun adr => ?_⟩
   refine lx_storea 7 hGF rfl rfl rfl Tryz.sizeOf42 (by rw [List.length_map, SS_len _ _ _]) (by rw [List.length_map, List.length_replicate]) (one_u64 _) rfl ?_
   refine rA6 ?_
   refine pA6 ?_
   refine lx_bin (v := .bool true) rfl rfl (fun _ => rfl) (fun w => (bin_eql_u64 _ _ _).trans (congrArg (fun b => Result.ok (Value.bool b) w) (beq_iff_eq.2 h0))) rfl rfl ?_
   refine lx_nil ?_
   refine x_true rfl ?_
   refine x_plain (E := EE []) ?_
   refine lx_loada 7 rfl rfl Tryz.isAgg42 Tryz.sizeOf42 (by rw [List.length_map, SS_len _ _ _]) rfl rfl ?_
   refine lx_storea 5 hGF rfl rfl rfl Tryz.sizeOf42 (by rw [List.length_map, SS_len _ _ _]) (by rw [List.length_map, AS_len _ _ _]) (one_u64 _) rfl ?_
   refine lx_nil ?_
   refine xp ?_
   refine lx_loada 5 rfl rfl Tryz.isAgg42 Tryz.sizeOf42 (by rw [List.length_map, SS_len _ _ _]) rfl rfl ?_
   refine lx_buildS rfl (SS_len _ _ _) Tryz.underlying44 rfl Tryz.sizeOf42 zv44 rfl rfl ?_
   refine lx_storea 4 hGF rfl rfl rfl Tryz.sizeOf44 (by rw [List.length_map, SS_len _ _ _]) (by rw [List.length_map, List.length_replicate]) (one_u64 _) rfl ?_
   refine lx_nil ?_
   refine rt ?_
   exact kret_own 4 rfl rfl rfl Tryz.isAgg44 Tryz.sizeOf44 (by rw [List.length_map]; exact SS_len _ _ _) (fun w hw => ⟨by rw [RADD, if_pos ⟨h1, h0⟩], hp_below hw⟩)
  ·skip
   refine xp ?_
   refine lb fun b2 => ?_
   refine lb fun b3 => ?_
   refine la zv44 fun b4 => ?_
   refine lx_nil ?_
   refine xp ?_
   refine lx_fak 0 rfl Tryz.underlying44 rfl Tryz.sizeOf42 (by decide) rfl rfl rfl ?_
   refine lx_loada 2 rfl rfl Tryz.isAgg42 Tryz.sizeOf42 (by rw [List.length_map, ha]) rfl rfl ?_
   refine lx_fak 0 rfl Tryz.underlying44 rfl Tryz.sizeOf42 (by decide) rfl rfl rfl ?_
   refine lx_loada 3 rfl rfl Tryz.isAgg42 Tryz.sizeOf42 (by rw [List.length_map, hb]) rfl rfl ?_
   refine lc ent144 (radd_pure _ _ ha hb) ?_
   refine rA6 ?_
   refine la zv42 fun b5 => ?_
   refine lx_storea 5 hGF rfl rfl rfl Tryz.sizeOf42 (by rw [List.length_map, AS_len _ _ _]) (by rw [List.length_map, List.length_replicate]) (one_u64 _) rfl ?_
   refine rA6 ?_
   refine x_seq ?_
   refine xp ?_
   refine lx_ia0 (5) rfl rfl Tryz.underlying42 Tryz.sizeOf24 (by omega) (by omega) rfl rfl ?_
   refine lx_loadm 5 U64 0 rfl rfl Tryz.isAgg24 (by rw [AS_len _ _ _]; omega) rfl rfl ?_
   refine lx_bin (v := .bool true) rfl rfl (fun _ => rfl) (fun w => (bin_geq_u64 _ _ 1873798617647539866#64).trans (congrArg (fun b => Result.ok (Value.bool b) w) (decide_eq_true h1))) rfl rfl ?_
   refine lx_nil ?_
   refine x_true rfl ?_
   refine xs_drawA (E := EE [2999999]) [0, 1, 2, 3, 4, 5] [⟨6, 7, 42, (List.replicate 6 0#64).map U64⟩] [7, 8] mixed rfl (by kernel_rfl) (by kernel_rfl) (by kernel_rfl) (by kernel_rfl) (by kernel_rfl) (by kernel_rfl) (by decide) (by intro x hx; simp only [List.mem_cons, List.not_mem_nil, or_false] at hx; subst hx; exact isAlloc_mk rfl zv42 rfl) ?_
   refine lx_loada 5 rfl rfl Tryz.isAgg42 Tryz.sizeOf42 (by rw [List.length_map, AS_len _ _ _]) rfl rfl ?_
   refine rA6 ?_
   refine lx_call rfl rfl ent143 (rsub_pure _ _ (AS_len _ _ _) PL_len) rfl rfl ?_
   refine rA6 ?_
   refine ⟨_, _, rfl, hGF, by intro x hx; simp only [List.mem_cons, List.not_mem_nil, or_false] at hx; subst hx; rfl, by intro x hx; simp only [List.mem_cons, List.not_mem_nil, or_false] at hx; subst hx; rfl, fun adr => ?_⟩
   refine lx_storea 7 hGF rfl rfl rfl Tryz.sizeOf42 (by rw [List.length_map, SS_len _ _ _]) (by rw [List.length_map, List.length_replicate]) (one_u64 _) rfl ?_
   refine rA6 ?_
   refine pA6 ?_
   refine lx_bin (v := .bool false) rfl rfl (fun _ => rfl) (fun w => (bin_eql_u64 _ _ _).trans (congrArg (fun b => Result.ok (Value.bool b) w) (beq_eq_false_iff_ne.2 h0))) rfl rfl ?_
   refine lx_nil ?_
   refine x_false rfl ?_
   refine x_skip ?_
   refine xp ?_
   refine lx_loada 5 rfl rfl Tryz.isAgg42 Tryz.sizeOf42 (by rw [List.length_map, AS_len _ _ _]) rfl rfl ?_
   refine lx_buildS rfl (AS_len _ _ _) Tryz.underlying44 rfl Tryz.sizeOf42 zv44 rfl rfl ?_
   refine lx_storea 4 hGF rfl rfl rfl Tryz.sizeOf44 (by rw [List.length_map, AS_len _ _ _]) (by rw [List.length_map, List.length_replicate]) (one_u64 _) rfl ?_
   refine lx_nil ?_
   refine rt ?_
   exact kret_own 4 rfl rfl rfl Tryz.isAgg44 Tryz.sizeOf44 (by rw [List.length_map]; exact AS_len _ _ _) (fun w hw => ⟨by rw [RADD, if_neg (fun h => h0 h.2)], hp_below hw⟩)
 ·skip
  refine xp ?_
  refine lb fun b2 => ?_
  refine lb fun b3 => ?_
  refine la zv44 fun b4 => ?_
  refine lx_nil ?_
  refine xp ?_
  refine lx_fak 0 rfl Tryz.underlying44 rfl Tryz.sizeOf42 (by decide) rfl rfl rfl ?_
  refine lx_loada 2 rfl rfl Tryz.isAgg42 Tryz.sizeOf42 (by rw [List.length_map, ha]) rfl rfl ?_
  refine lx_fak 0 rfl Tryz.underlying44 rfl Tryz.sizeOf42 (by decide) rfl rfl rfl ?_
  refine lx_loada 3 rfl rfl Tryz.isAgg42 Tryz.sizeOf42 (by rw [List.length_map, hb]) rfl rfl ?_
  refine lc ent144 (radd_pure _ _ ha hb) ?_
  refine rA6 ?_
  refine la zv42 fun b5 => ?_
  refine lx_storea 5 hGF rfl rfl rfl Tryz.sizeOf42 (by rw [List.length_map, AS_len _ _ _]) (by rw [List.length_map, List.length_replicate]) (one_u64 _) rfl ?_
  refine rA6 ?_
  refine x_seq ?_
  refine xp ?_
  refine lx_ia0 (5) rfl rfl Tryz.underlying42 Tryz.sizeOf24 (by omega) (by omega) rfl rfl ?_
  refine lx_loadm 5 U64 0 rfl rfl Tryz.isAgg24 (by rw [AS_len _ _ _]; omega) rfl rfl ?_
  refine lx_bin (v := .bool false) rfl rfl (fun _ => rfl) (fun w => (bin_geq_u64 _ _ 1873798617647539866#64).trans (congrArg (fun b => Result.ok (Value.bool b) w) (decide_eq_false h1))) rfl rfl ?_
  refine lx_nil ?_
  refine x_false rfl ?_
  refine x_skip ?_
  refine xp ?_
  refine lx_loada 5 rfl rfl Tryz.isAgg42 Tryz.sizeOf42 (by rw [List.length_map, AS_len _ _ _]) rfl rfl ?_
  refine lx_buildS rfl (AS_len _ _ _) Tryz.underlying44 rfl Tryz.sizeOf42 zv44 rfl rfl ?_
  refine lx_storea 4 hGF rfl rfl rfl Tryz.sizeOf44 (by rw [List.length_map, AS_len _ _ _]) (by rw [List.length_map, List.length_replicate]) (one_u64 _) rfl ?_
  refine lx_nil ?_
  refine rt ?_
  exact kret_own 4 rfl rfl rfl Tryz.isAgg44 Tryz.sizeOf44 (by rw [List.length_map]; exact AS_len _ _ _) (fun w hw => ⟨by rw [RADD, if_neg (fun h => h1 h.1)], hp_below hw⟩)
end
section
open Go.RowKit
theorem rA7 {Q P : Prop} (k : Q) (h : Q → P := by intro k; (refine LY.run ?_); (repeat (first | refine y_move rfl rfl rfl ?_ | refine y_assign rfl rfl rfl ?_)); (first | refine y_nil ?_ | refine LY.mk ?_); exact k) : P := h k
theorem pA7 {Q P : Prop} (k : Q) (h : Q → P := by intro k; (refine xp ?_); (refine rA7 ?_); exact k) : P := h k
theorem ent146 : Enters Tryz.prog 146 := fun _ _ => by kernel_rfl
def pbit (bs : List (BitVec 8)) (i : Nat) : BitVec 8 := (bs.getD (i / 8) 0 >>> (7 - i % 8)) &&& 1#8
def RP (a : List (BitVec 64)) (bs : List (BitVec 8)) : Nat → List (BitVec 64)
 | 0 => ONE
 | i + 1 => if pbit bs i = 1#8 then RM (RM (RP a bs i) (RP a bs i)) a else RM (RP a bs i) (RP a bs i)
theorem RP_len (a : List (BitVec 64)) (bs : List (BitVec 8)) : ∀ i, (RP a bs i).length = 6
 | 0 => rfl
 | i + 1 => by
  unfold RP; split
  ·exact RM_len _ _
  ·exact RM_len _ _
theorem RP_y (a : List (BitVec 64)) (bs : List (BitVec 8)) (i : Nat) (h : pbit bs i = 1#8) : RP a bs (i + 1) = RM (RM (RP a bs i) (RP a bs i)) a := by rw [RP, if_pos h]
theorem RP_n (a : List (BitVec 64)) (bs : List (BitVec 8)) (i : Nat) (h : ¬ pbit bs i = 1#8) : RP a bs (i + 1) = RM (RP a bs i) (RP a bs i) := by rw [RP, if_neg h]
theorem rpow_calls (a : List (BitVec 64)) (ha : a.length = 6) (e : Option Addr) (cap : Nat) (bs : List (BitVec 8)) (hlen : bs.length ≤ 4096) (w : World) (hw : Gt w) (hby : BytesAt w e bs) :
  Calls Tryz.prog 146 [.agg ((a).map U64).toArray, .slice e bs.length cap].toArray w (fun r w' => r = .returned (.agg ((RP a bs (8 * bs.length)).map U64).toArray) ∧ Grow w w') := by
 have hGF : BOk Gt (pl w) := gt_low.plain hw
 refine calls_of_X (G := Gt) Tryz.func146 rfl rfl (Hp (pl w) []) (hp_refl (pl w) trivial rides_true) (good_hp hGF) ?_
 refine xp ?_
 refine lb fun b2 => ?_
 refine la zv44 fun b4 => ?_
 refine lx_nil ?_
 refine xp ?_
 refine lc ent157 (rone_pure) ?_
 refine lx_buildS rfl (ONE_len) Tryz.underlying44 rfl Tryz.sizeOf42 zv44 rfl rfl ?_
 refine la zv44 fun b5 => ?_
 refine lx_storea 5 hGF rfl rfl rfl Tryz.sizeOf44 (by rw [List.length_map, ONE_len]) (by rw [List.length_map, List.length_replicate]) (one_u64 _) rfl ?_
 refine lx_nil ?_
 refine x_seq ?_
 refine pA7 ?_
 refine x_block ?_
 refine x_for (ι := { i : Nat // i ≤ 8 * bs.length }) (fun x => [(1, .slice e bs.length cap), (2, .pointer (some ⟨b2, 0, none⟩)), (4, .pointer (some ⟨b4, 0, none⟩)), (5, .pointer (some ⟨b5, 0, none⟩)), (6, I (x.1 : Int))]) (fun x => [(2, b2, a.map U64, 44), (4, b4, (List.replicate 6 0#64).map U64, 44), (5, b5, (RP a bs x.1).map U64, 44)]) (fun x => 8 * bs.length - x.1) ⟨0, by omega⟩ hGF ⟨rfl, rfl, rfl, rfl, rfl, trivial⟩ ⟨rfl, rfl, rfl, trivial⟩ ?_
 rintro ⟨i, hi⟩
 dsimp only
 refine x_seq ?_
 refine pA7 ?_
 refine lx_len rfl (fun _ => len_slice Tryz.underlying22 _ _ _ _) rfl rfl ?_
 refine lx_bin (v := I ((8 * bs.length : Nat) : Int)) rfl rfl (fun _ => rfl) (fun _ => (bin_mul_i _ _ _ (by unfold inI; omega)).trans (by rw [show (8 : Int) * (bs.length : Int) = ((8 * bs.length : Nat) : Int) by omega])) rfl rfl ?_
 refine lx_bin rfl rfl (fun _ => rfl) (fun _ => bin_lss_i _ _ _) rfl rfl ?_
 refine lx_nil ?_
 refine x_if rfl (fun hc => ?_) (fun hc => ?_)
 ·simp only [decide_eq_true_eq] at hc
  refine x_skip ?_
  refine x_seq ?_
  refine x_block ?_
  refine xp ?_
  refine lx_loada 5 rfl rfl Tryz.isAgg44 Tryz.sizeOf44 (by rw [List.length_map, RP_len]) rfl rfl ?_
  refine lx_loada 5 rfl rfl Tryz.isAgg44 Tryz.sizeOf44 (by rw [List.length_map, RP_len]) rfl rfl ?_
  refine lx_call rfl rfl ent102 (rmul_pure _ _ (RP_len _ _ _) (RP_len _ _ _)) rfl rfl ?_
  refine lx_storea 5 hGF rfl rfl rfl Tryz.sizeOf44 (by rw [List.length_map, RM_len _ _]) (by rw [List.length_map, RP_len]) (one_u64 _) rfl ?_
  refine lx_nil ?_
  refine pA7 ?_
  refine lx_bin (v := I ((i / 8 : Nat) : Int)) rfl rfl (fun _ => rfl) (fun _ => bin_quo_i _ _ _ (by decide) (show inI ((i / 8 : Nat) : Int) by unfold inI; omega)) rfl rfl ?_
  obtain ⟨ad, rfl, _⟩ := hby (i / 8) _ (gm U8 bs 0 (i / 8) (by omega))
  refine lx_isA (i / 8) rfl rfl Tryz.underlying22 Tryz.sizeOf5 rfl (by omega) rfl rfl ?_
  refine lx_load rfl Tryz.isAgg5 (fun w' h => by obtain ⟨ad', e, hc⟩ := (hby.grow (hp_below h)) (i / 8) _ (gm U8 bs 0 (i / 8) (by omega)); cases e; exact hc) rfl rfl ?_
  refine rA7 ?_
  refine lx_bin (v := I ((i % 8 : Nat) : Int)) rfl rfl (fun _ => rfl) (fun _ => bin_rem_i _ _ _ (by decide)) rfl rfl ?_
  refine lx_bin (v := I ((7 - i % 8 : Nat) : Int)) rfl rfl (fun _ => rfl) (fun _ => (bin_sub_i _ _ _ (by unfold inI; omega)).trans (by rw [show ((7 : Int) - ((i % 8 : Nat) : Int)) = ((7 - i % 8 : Nat) : Int) by omega])) rfl rfl ?_
  refine lx_bin (v := U8 (bs.getD (i / 8) 0 >>> (7 - i % 8))) rfl rfl (fun _ => rfl) (fun _ => bin_shr_i_u8 _ _ _ (by omega)) rfl rfl ?_
  refine lx_bin (v := U8 (pbit bs i)) rfl rfl (fun _ => rfl) (fun _ => bin_and_u8 _ _ 1#8) rfl rfl ?_
  refine lx_bin (v := .bool (decide (pbit bs i = 1#8))) rfl rfl (fun _ => rfl) (fun _ => (bin_eql_u8 _ _ 1#8).trans rfl) rfl rfl ?_
  refine lx_nil ?_
  refine x_if rfl (fun hc => ?_) (fun hc => ?_)
  ·simp only [decide_eq_true_eq] at hc
   have hq := hc
   refine x_plain (E := EE []) ?_
   refine lx_loada 5 rfl rfl Tryz.isAgg44 Tryz.sizeOf44 (by rw [List.length_map, RM_len _ _]) rfl rfl ?_
   refine lx_loada 2 rfl rfl Tryz.isAgg44 Tryz.sizeOf44 (by rw [List.length_map, ha]) rfl rfl ?_
   refine lx_call rfl rfl ent102 (rmul_pure _ _ (RM_len _ _) ha) rfl rfl ?_
   refine lx_storea 5 hGF rfl rfl rfl Tryz.sizeOf44 (by rw [List.length_map, RM_len _ _]) (by rw [List.length_map, RM_len _ _]) (one_u64 _) rfl ?_
   refine lx_nil ?_
   refine x_plain (E := EE []) ?_
   refine rA7 ?_
   refine lx_bin rfl rfl (fun _ => rfl) (fun _ => bin_add_i _ _ _ (by unfold inI; omega)) rfl rfl ?_
   refine rA7 ?_
   repeat (refine kblk_n ?_)
   refine kseq_n ?_
   exact ⟨rfl, ⟨i + 1, by omega⟩, _, by show 8 * bs.length - (i + 1) < 8 * bs.length - i; omega, rfl, ⟨rfl, rfl, rfl, rfl, rfl, trivial⟩, ⟨rfl, rfl, by first | (rw [RP_y a bs i hq]; rfl) | (rw [RP_n a bs i hq]; rfl), trivial⟩⟩
  ·simp only [decide_eq_false_iff_not] at hc
   have hq := hc
   refine x_skip ?_
   refine x_plain (E := EE []) ?_
   refine rA7 ?_
   refine lx_bin rfl rfl (fun _ => rfl) (fun _ => bin_add_i _ _ _ (by unfold inI; omega)) rfl rfl ?_
   refine rA7 ?_
   repeat (refine kblk_n ?_)
   refine kseq_n ?_
   exact ⟨rfl, ⟨i + 1, by omega⟩, _, by show 8 * bs.length - (i + 1) < 8 * bs.length - i; omega, rfl, ⟨rfl, rfl, rfl, rfl, rfl, trivial⟩, ⟨rfl, rfl, by first | (rw [RP_y a bs i hq]; rfl) | (rw [RP_n a bs i hq]; rfl), trivial⟩⟩
 ·obtain rfl : i = 8 * bs.length := by simp at hc; omega
  refine x_exit ?_
  refine xp ?_
  refine lx_loada 5 rfl rfl Tryz.isAgg44 Tryz.sizeOf44 (by rw [List.length_map, RP_len]) rfl rfl ?_
  refine lx_storea 4 hGF rfl rfl rfl Tryz.sizeOf44 (by rw [List.length_map, RP_len _ _ _]) (by rw [List.length_map, List.length_replicate]) (one_u64 _) rfl ?_
  refine lx_nil ?_
  refine rt ?_
  exact kret_own 4 rfl rfl rfl Tryz.isAgg44 Tryz.sizeOf44 (by rw [List.length_map, RP_len]) (fun w hw => ⟨rfl, hp_below hw⟩)
end
section
open Go.RowKit
theorem rA8 {Q P : Prop} (k : Q) (h : Q → P := by intro k; (refine LY.run ?_); (repeat (first | refine y_move rfl rfl rfl ?_ | refine y_assign rfl rfl rfl ?_ | refine y_ext rfl rfl rfl rfl ?_ | refine y_call (f := 145) rfl rfl ent145 (rp_pure) rfl rfl ?_)); (first | refine y_nil ?_ | refine LY.mk ?_); exact k) : P := h k
theorem pA8 {Q P : Prop} (k : Q) (h : Q → P := by intro k; (refine xp ?_); (refine rA8 ?_); exact k) : P := h k
theorem ent147 : Enters Tryz.prog 147 := fun _ _ => by kernel_rfl
theorem by_pos (n i : Nat) (hn : n ≤ 64) : decide (0#64 < BitVec.ofNat 64 (n - i)) = decide (i < n) := by
 refine decide_eq_decide.2 ?_
 rw [BitVec.lt_def]
 simp only [BitVec.toNat_ofNat]
 omega
theorem by_dec (n i : Nat) (_hn : n ≤ 64) (hi : i < n) : BitVec.ofNat 64 (n - i) - 1#64 = BitVec.ofNat 64 (n - (i + 1)) := by
 apply BitVec.eq_of_toNat_eq
 simp only [BitVec.toNat_sub, BitVec.toNat_ofNat]
 omega
def HLs (l : List (BitVec 64)) : Nat → List (BitVec 64)
 | 0 => l
 | k + 1 => if k < 5 then ((HLs l k).set k ((HLs l k).getD k 0 >>> 1)).set k (((HLs l k).set k ((HLs l k).getD k 0 >>> 1)).getD k 0 ||| ((HLs l k).set k ((HLs l k).getD k 0 >>> 1)).getD (k + 1) 0 <<< 63) else (HLs l k).set k ((HLs l k).getD k 0 >>> 1)
theorem HLs_y (l : List (BitVec 64)) (k : Nat) (h : k < 5) : HLs l (k + 1) = ((HLs l k).set k ((HLs l k).getD k 0 >>> 1)).set k (((HLs l k).set k ((HLs l k).getD k 0 >>> 1)).getD k 0 ||| ((HLs l k).set k ((HLs l k).getD k 0 >>> 1)).getD (k + 1) 0 <<< 63) := by rw [HLs, if_pos h]
theorem HLs_n (l : List (BitVec 64)) (k : Nat) (h : ¬ k < 5) : HLs l (k + 1) = (HLs l k).set k ((HLs l k).getD k 0 >>> 1) := by rw [HLs, if_neg h]
theorem HLs_len (l : List (BitVec 64)) : ∀ k, (HLs l k).length = l.length
 | 0 => rfl
 | k + 1 => by
  unfold HLs; split
  ·rw [List.length_set, List.length_set, HLs_len l k]
  ·rw [List.length_set, HLs_len l k]
def HN (l : List (BitVec 64)) : Nat → List (BitVec 64)
 | 0 => l
 | i + 1 => HLs (HN l i) 6
theorem HN_len (l : List (BitVec 64)) : ∀ i, (HN l i).length = l.length
 | 0 => rfl
 | i + 1 => by rw [HN, HLs_len, HN_len l i]
theorem rsh2_calls (w : World) (hw : Gt w) : Calls Tryz.prog 147 [I (-2), U64 0#64].toArray w (fun e w' => ∃ b, e = .returned (.slice (some ⟨b, 0, none⟩) 48 48) ∧ Grow w w' ∧ w.heap.size ≤ b ∧ OwnB w' b ((BYs (HN (SS PL (2#64 :: List.replicate 5 0) 6).1 0) 48).map U8) 102) := by
 have hGF : BOk Gt (pl w) := gt_low.plain hw
 refine calls_of_X (G := Gt) Tryz.func147 rfl rfl (Hp (pl w) []) (hp_refl (pl w) trivial rides_true) (good_hp hGF) ?_
 refine pA8 ?_
 refine pA8 ?_
 refine la zv42 fun b5 => ?_
 refine lx_storea 5 hGF rfl rfl rfl Tryz.sizeOf42 (by rw [List.length_map, PL_len]) (by rw [List.length_map, List.length_replicate]) (one_u64 _) rfl ?_
 refine lx_nil ?_
 refine x_seq ?_
 refine pA8 ?_
 refine lx_bin (v := .bool true) rfl rfl (fun _ => rfl) (fun w => bin_lss_i _ (-2) 0) rfl rfl ?_
 refine lx_nil ?_
 refine x_true rfl ?_
 refine x_plain (E := EE []) ?_
 refine lx_loada 5 rfl rfl Tryz.isAgg42 Tryz.sizeOf42 (by rw [List.length_map, PL_len]) rfl rfl ?_
 refine rA8 ?_
 refine lx_un (v := I 2) rfl (fun _ => un_neg_i (-2) (by unfold inI; omega)) rfl rfl ?_
 refine lx_conv (v := U64 2#64) rfl rfl (fun _ => (conv_i_u64 Tryz.underlying2 Tryz.underlying24 2).trans rfl) rfl rfl ?_
 refine lx_build1 2#64 rfl Tryz.underlying42 Tryz.sizeOf24 zv42 rfl rfl ?_
 refine lx_call rfl rfl ent143 (rsub_pure PL (2#64 :: List.replicate 5 0) PL_len rfl) rfl rfl ?_
 refine rA8 ?_
 refine lx_storea 5 hGF rfl rfl rfl Tryz.sizeOf42 (by rw [List.length_map, SS_len _ _ _]) (by rw [List.length_map, PL_len]) (one_u64 _) rfl ?_
 refine lx_nil ?_
 refine x_seq ?_
 refine x_block ?_
 refine x_for (ι := { i : Nat // i ≤ 0 }) (fun x => [(4, .slice none 0 0), (5, .pointer (some ⟨b5, 0, none⟩)), (1, U64 (BitVec.ofNat 64 (0 - x.1)))]) (fun x => [(5, b5, (HN (SS PL (2#64 :: List.replicate 5 0) 6).1 x.1).map U64, 42)]) (fun x => 0 - x.1) ⟨0, by omega⟩ hGF ⟨rfl, rfl, rfl, trivial⟩ ⟨rfl, trivial⟩ ?_
 rintro ⟨i, hi⟩
 dsimp only
 refine x_seq ?_
 refine pA8 ?_
 refine lx_bin (v := .bool (decide (i < 0))) rfl rfl (fun _ => rfl) (fun w => (bin_gtr_u64 _ _ 0#64).trans (congrArg (fun b => Result.ok (Value.bool b) w) (by_pos 0 i (by decide)))) rfl rfl ?_
 refine lx_nil ?_
 refine x_if rfl (fun hc => ?_) (fun hc => ?_)
 ·simp only [decide_eq_true_eq] at hc
  refine x_skip ?_
  refine x_seq ?_
  refine x_block ?_
  refine pA8 ?_
  refine x_block ?_
  refine x_for (ι := { i : Nat // i ≤ 6 }) (fun x => [(4, .slice none 0 0), (5, .pointer (some ⟨b5, 0, none⟩)), (1, U64 (BitVec.ofNat 64 (0 - i))), (6, I (x.1 : Int))]) (fun x => [(5, b5, (HLs (HN (SS PL (2#64 :: List.replicate 5 0) 6).1 i) x.1).map U64, 42)]) (fun x => 6 - x.1) ⟨0, by omega⟩ hGF ⟨rfl, rfl, rfl, rfl, trivial⟩ ⟨rfl, trivial⟩ ?_
  rintro ⟨k, hk⟩
  dsimp only
  refine x_seq ?_
  refine pA8 ?_
  refine lx_bin rfl rfl (fun _ => rfl) (fun _ => bin_lss_i _ _ _) rfl rfl ?_
  refine lx_nil ?_
  refine x_if rfl (fun hc => ?_) (fun hc => ?_)
  ·simp only [decide_eq_true_eq] at hc
   refine x_skip ?_
   refine x_seq ?_
   refine x_block ?_
   refine pA8 ?_
   refine lx_ia0 (k) rfl rfl Tryz.underlying42 Tryz.sizeOf24 (by omega) (by omega) rfl rfl ?_
   refine lx_loadm 5 U64 0 rfl rfl Tryz.isAgg24 (by rw [HLs_len, HN_len, SS_len]; omega) rfl rfl ?_
   refine lx_bin rfl rfl (fun _ => rfl) (fun _ => bin_shr_u64 _ _ 1#64) rfl rfl ?_
   refine lx_ia0 (k) rfl rfl Tryz.underlying42 Tryz.sizeOf24 (by omega) (by omega) rfl rfl ?_
   refine lx_storem 5 U64 hGF rfl rfl rfl Tryz.sizeOf24 rfl (by rw [HLs_len, HN_len, SS_len]; omega) rfl ?_
   refine lx_nil ?_
   refine pA8 ?_
   refine lx_bin rfl rfl (fun _ => rfl) (fun _ => bin_lss_i _ _ _) rfl rfl ?_
   refine lx_nil ?_
   refine x_if rfl (fun hc => ?_) (fun hc => ?_)
   ·simp only [decide_eq_true_eq] at hc
    have hq : k < 5 := by omega
    refine x_drawn (E := EE []) mixed (by kernel_rfl) (by kernel_rfl) (by kernel_rfl) ?_
    refine rA8 ?_
    refine lx_ia0 (k) rfl rfl Tryz.underlying42 Tryz.sizeOf24 (by omega) (by omega) rfl rfl ?_
    refine lx_loadm 5 U64 0 rfl rfl Tryz.isAgg24 (by rw [List.length_set, HLs_len, HN_len, SS_len]; omega) rfl rfl ?_
    refine rA8 ?_
    refine lx_bin rfl rfl (fun _ => rfl) (fun _ => bin_add_i _ _ _ (by unfold inI; omega)) rfl rfl ?_
    refine lx_ia0 ((k + 1)) rfl rfl Tryz.underlying42 Tryz.sizeOf24 (by omega) (by omega) rfl rfl ?_
    refine lx_loadm 5 U64 0 rfl rfl Tryz.isAgg24 (by rw [List.length_set, HLs_len, HN_len, SS_len]; omega) rfl rfl ?_
    refine lx_bin rfl rfl (fun _ => rfl) (fun _ => bin_shl_u64 _ _ 63#64) rfl rfl ?_
    refine lx_bin rfl rfl (fun _ => rfl) (fun _ => bin_or_u64 _ _ _) rfl rfl ?_
    refine lx_ia0 (k) rfl rfl Tryz.underlying42 Tryz.sizeOf24 (by omega) (by omega) rfl rfl ?_
    refine lx_storem 5 U64 hGF rfl rfl rfl Tryz.sizeOf24 rfl (by rw [List.length_set, HLs_len, HN_len, SS_len]; omega) rfl ?_
    refine lx_nil ?_
    refine x_plain (E := EE []) ?_
    refine rA8 ?_
    refine lx_bin rfl rfl (fun _ => rfl) (fun _ => bin_add_i _ _ _ (by unfold inI; omega)) rfl rfl ?_
    refine rA8 ?_
    repeat (refine kblk_n ?_)
    refine kseq_n ?_
    exact ⟨rfl, ⟨k + 1, by omega⟩, _, by show 6 - (k + 1) < 6 - k; omega, rfl, ⟨rfl, rfl, rfl, rfl, trivial⟩, ⟨by first | (rw [HLs_y _ k hq]; rfl) | (rw [HLs_n _ k hq]; rfl), trivial⟩⟩
   ·simp only [decide_eq_false_iff_not] at hc
    have hq : ¬ k < 5 := by omega
    refine x_skip ?_
    refine x_plain (E := EE []) ?_
    refine rA8 ?_
    refine lx_bin rfl rfl (fun _ => rfl) (fun _ => bin_add_i _ _ _ (by unfold inI; omega)) rfl rfl ?_
    refine rA8 ?_
    repeat (refine kblk_n ?_)
    refine kseq_n ?_
    exact ⟨rfl, ⟨k + 1, by omega⟩, _, by show 6 - (k + 1) < 6 - k; omega, rfl, ⟨rfl, rfl, rfl, rfl, trivial⟩, ⟨by first | (rw [HLs_y _ k hq]; rfl) | (rw [HLs_n _ k hq]; rfl), trivial⟩⟩
  ·obtain rfl : k = 6 := by simp at hc; omega
   refine x_exit ?_
   refine x_plain (E := EE []) ?_
   refine rA8 ?_
   refine lx_bin (v := U64 (BitVec.ofNat 64 (0 - (i + 1)))) rfl rfl (fun _ => rfl) (fun w => (bin_sub_u64 _ _ 1#64).trans (congrArg (fun z => Result.ok (U64 z) w) (by_dec 0 i (by decide) (by omega)))) rfl rfl ?_
   refine rA8 ?_
   repeat (refine kblk_n ?_)
   refine kseq_n ?_
   exact ⟨rfl, ⟨i + 1, by omega⟩, _, by show 0 - (i + 1) < 0 - i; omega, rfl, ⟨rfl, rfl, rfl, trivial⟩, ⟨rfl, trivial⟩⟩
 ·obtain rfl : i = 0 := by simp at hc; omega
  refine x_exit ?_
  refine xp ?_
  refine lx_loada 5 rfl rfl Tryz.isAgg42 Tryz.sizeOf42 (by rw [List.length_map, HN_len, SS_len]) rfl rfl ?_
  refine lx_call rfl rfl ent158 (rbytesOf_pure _ (by rw [HN_len, SS_len])) rfl rfl ?_
  refine la zv102 fun b7 => ?_
  refine lx_storea 7 hGF rfl rfl rfl Tryz.sizeOf102 (by rw [List.length_map, BYs_len _ _]) (by rw [List.length_map, List.length_replicate]) (one_u8 _) rfl ?_
  refine lx_nil ?_
  refine xp ?_
  refine lx_slarr1 (l := 0) (h' := 48) rfl Tryz.underlying102 Tryz.sizeOf5 rfl rfl (by omega) (by omega) rfl rfl ?_
  refine rA8 ?_
  refine rt ?_
  exact kret_tmp rfl rfl (fun w hw => ⟨b7, rfl, hp_below hw, (hw.own 7 b7 _ _ rfl).2.elim id False.elim, (hw.own 7 b7 _ _ rfl).1⟩)
end
section
open Go.RowKit
theorem ent106 : Enters Tryz.prog 106 := fun _ _ => by kernel_rfl
def EX2 : List (BitVec 8) := BYs (HN (SS PL (2#64 :: List.replicate 5 0) 6).1 0) 48
theorem EX2_len : EX2.length = 48 := BYs_len _ _
theorem rpow48 (a : List (BitVec 64)) (ha : a.length = 6) (b : Nat) (t : TypeId) (bs : List (BitVec 8)) (h48 : bs.length = 48) (w : World) (hw : Gt w) (ho : OwnB w b (bs.map U8) t) :
  Calls Tryz.prog 146 [.agg ((a).map U64).toArray, .slice (some ⟨b, 0, none⟩) 48 48].toArray w (fun r w' => r = .returned (.agg ((RP a bs 384).map U64).toArray) ∧ Grow w w') := by
 have h := rpow_calls a ha (some ⟨b, 0, none⟩) 48 bs (by omega) w hw (BytesAt.range ho.range)
 rw [h48] at h
 exact h
theorem rfrom48 (b : Nat) (t : TypeId) (bs : List (BitVec 8)) (h48 : bs.length = 48) (w : World) (hw : Gt w) (ho : OwnB w b (bs.map U8) t) :
  Calls Tryz.prog 59 [.slice (some ⟨b, 0, none⟩) 48 48].toArray w (fun r w' => r = .returned (.tuple #[.agg ((FRs bs 48).map U64).toArray, .bool true]) ∧ Grow w w') := by
 have h := rfrom_calls (some ⟨b, 0, none⟩) 48 bs w hw (BytesAt.range ho.range)
 rw [h48, if_neg (by decide)] at h
 exact h
theorem rinv_pure (a : List (BitVec 64)) (ha : a.length = 6) : Pure Tryz.prog Gt 106 [.agg ((a).map U64).toArray] (.agg ((RP a EX2 384).map U64).toArray) := by
 refine pure_X Tryz.func106 fun w hw hGF => ?_
 refine xs_plain (E := EE [147, 2000147]) ?_
 refine lb fun b1 => ?_
 refine la zv44 fun b2 => ?_
 refine lx_nil ?_
 refine xs_drawn (E := EE [147, 2000147]) mixed (by kernel_rfl) (by kernel_rfl) (by kernel_rfl) ?_
 refine lx_loada 1 rfl rfl Tryz.isAgg44 Tryz.sizeOf44 (by rw [List.length_map, ha]) rfl rfl ?_
 refine lx_callG rfl rfl ent147 rfl rfl (fun w' hw' => (rsh2_calls w' (hGF.g _ _ _ hw')).mono fun e w'' h => ?_)
 obtain ⟨bm, rfl, hg, hb, hob⟩ := h
 refine ⟨_, _, rfl, good_hp hGF, hw'.news rides_true hg [(4, bm, EX2.map U8, 102)] ?_ inj_one, hp_fresh rides_true rfl, ?_⟩
 ·intro n' b' c' t' hl
  rcases lkB_cons hl with ⟨_, e⟩ | ⟨_, hl⟩
  ·cases e; exact ⟨hb, hob⟩
  ·cases hl
 clear hw' hg hb hob
 refine lx_callC rfl rfl ent146 (fun w' hw' hG => rpow48 a ha bm _ EX2 EX2_len w' hG (hw'.own 4 _ _ _ rfl).1) rfl rfl ?_
 refine lx_storea 2 hGF rfl rfl rfl Tryz.sizeOf44 (by rw [List.length_map, RP_len _ _ _]) (by rw [List.length_map, List.length_replicate]) (one_u64 _) rfl ?_
 refine lx_nil ?_
 refine rt ?_
 exact kret_own 2 rfl rfl rfl Tryz.isAgg44 Tryz.sizeOf44 (by rw [List.length_map, RP_len]) (fun w hw => ⟨rfl, hp_below hw⟩)
end
end Go.Proofs.YthkmeodnlidpfaaGreatDoor
