/-
 The walk of the reference's product modulo p.
 The walks of the reference's elements of p: sums, differences, products.
 The walk of the reference's powers.
 The walk of the reference's exponents: p and a small number, by a power of two.
 The walks of the reference's inverses and signs.
-/
import Derived.Test.YtpnpiblphnpfiaaGreatDoorX6
import Derived.Test.YtpnpiblphnpfiaaGreatDoorX2
import Derived.Test.YtpnpiblphnpfiaaGreatDoorX4
import Derived.Test.YtpnpiblphnpfiaaGreatDoorX5
import Derived.Test.YtpnpiblphnpfiaaGreatDoorX3
set_option maxRecDepth 100000
set_option maxHeartbeats 1000000
namespace Go.Proofs.YtpnpiblphnpfiaaGreatDoor
section
open Go.RowKit
theorem rA5 {Q P : Prop} (k : Q) (h : Q → P := by intro k; (refine LY.run ?_); (repeat (first | refine bH rfl rfl rfl ?_ | refine bd rfl rfl rfl ?_ | refine ee rfl rfl rfl rfl ?_)); (first | refine bY ?_ | refine LY.mk ?_); exact k) : P := h k
theorem pA5 {Q P : Prop} (k : Q) (h : Q → P := by intro k; (refine xp ?_); (refine rA5 ?_); exact k) : P := h k
theorem ent194 : ae Tryz.prog 194 := fun _ _ => by kernel_rfl
theorem ent204 : ae Tryz.prog 204 := fun _ _ => by kernel_rfl
theorem ent170 : ae Tryz.prog 170 := fun _ _ => by kernel_rfl
theorem ent169 : ae Tryz.prog 169 := fun _ _ => by kernel_rfl
theorem cv (x y c s : BitVec 64) (hc : c.toNat ≤ 1) (h : (ADC x y c).1 = s) (w : World) : (callFunc 147 [U64 x, U64 y, U64 c].toArray).run Tryz.prog w = .ok (.value (.tuple #[U64 s, U64 (ADC x y c).2])) w := by
 subst h; exact cr x y c hc w
theorem fH : PL.length = 6 := rfl
theorem jN  : Pure Tryz.prog Gt 194 [] (.agg ((PL).map U64).toArray) := by
 refine aN Tryz.func194 fun w hw hGF => ?_
 refine xp ?_
 refine la zv38 fun b0 => ?_
 refine aa ?_
 refine xp ?_
 refine fw (n := 6) (vs := (PL).map U64) rfl rfl Tryz.underlying38 Tryz.sizeOf24 Tryz.zeroValue38 rfl rfl rfl rfl ?_
 refine ai 0 hGF rfl rfl rfl Tryz.sizeOf38 (by rw [List.length_map, fH]) (by rw [List.length_map, List.length_replicate]) (ak _) rfl ?_
 refine aa ?_
 refine rt ?_
 exact av 0 rfl rfl rfl Tryz.isAgg38 Tryz.sizeOf38 rfl (fun w hw => ⟨rfl, ah hw⟩)
theorem te  : Pure Tryz.prog Gt 204 [] (.agg ((ONE).map U64).toArray) := by
 refine aN Tryz.func204 fun w hw hGF => ?_
 refine xp ?_
 refine la zv38 fun b0 => ?_
 refine aa ?_
 refine xp ?_
 refine fw (n := 6) (vs := (ONE).map U64) rfl rfl Tryz.underlying38 Tryz.sizeOf24 Tryz.zeroValue38 rfl rfl rfl rfl ?_
 refine ai 0 hGF rfl rfl rfl Tryz.sizeOf38 (by rw [List.length_map, nr]) (by rw [List.length_map, List.length_replicate]) (ak _) rfl ?_
 refine aa ?_
 refine rt ?_
 exact av 0 rfl rfl rfl Tryz.isAgg38 Tryz.sizeOf38 rfl (fun w hw => ⟨rfl, ah hw⟩)
theorem tN  : Pure Tryz.prog Gt 170 [] (.agg ((TWO).map U64).toArray) := by
 refine aN Tryz.func170 fun w hw hGF => ?_
 refine xp ?_
 refine la zv38 fun b0 => ?_
 refine aa ?_
 refine xp ?_
 refine fw (n := 6) (vs := (TWO).map U64) rfl rfl Tryz.underlying38 Tryz.sizeOf24 Tryz.zeroValue38 rfl rfl rfl rfl ?_
 refine ai 0 hGF rfl rfl rfl Tryz.sizeOf38 (by rw [List.length_map, nw]) (by rw [List.length_map, List.length_replicate]) (ak _) rfl ?_
 refine aa ?_
 refine rt ?_
 exact av 0 rfl rfl rfl Tryz.isAgg38 Tryz.sizeOf38 rfl (fun w hw => ⟨rfl, ah hw⟩)
theorem k5 (a b : List (BitVec 64)) (ha : a.length = 6) (hb : b.length = 6) : Pure Tryz.prog Gt 169 [.agg ((a).map U64).toArray, .agg ((b).map U64).toArray] (.agg ((RM a b).map U64).toArray) := by
 refine aN Tryz.func169 fun w hw hGF => ?_
 by_cases h0 : (SS (RT a b 6) PL 6).2 = 0
 ·skip
  refine xp ?_
  refine lb fun b2 => ?_
  refine lb fun b3 => ?_
  refine la zv38 fun b4 => ?_
  refine aa ?_
  refine pA5 ?_
  refine am ?_
  refine pA5 ?_
  refine ao ?_
  refine bO (ι := { i : Nat // i ≤ 6 }) (fun x => [(2, .pointer (some ⟨b2, 0, none⟩)), (3, .pointer (some ⟨b3, 0, none⟩)), (4, .pointer (some ⟨b4, 0, none⟩)), (5, U64 ((RT a b x.1).getD 0 0)), (6, U64 ((RT a b x.1).getD 1 0)), (7, U64 ((RT a b x.1).getD 2 0)), (8, U64 ((RT a b x.1).getD 3 0)), (9, U64 ((RT a b x.1).getD 4 0)), (10, U64 ((RT a b x.1).getD 5 0)), (11, I (x.1 : Int))]) (fun x => [(2, b2, a.map U64, 38), (3, b3, b.map U64, 38), (4, b4, (List.replicate 6 0#64).map U64, 38)]) (fun x => 6 - x.1) ⟨0, by omega⟩ hGF ⟨rfl, rfl, rfl, rfl, rfl, rfl, rfl, rfl, rfl, rfl, trivial⟩ ⟨rfl, rfl, rfl, trivial⟩ ?_
  rintro ⟨i, hi⟩
  dsimp only
  refine am ?_
  refine pA5 ?_
  refine ab rfl rfl (fun _ => rfl) (fun _ => aH _ _ _) rfl rfl ?_
  refine aa ?_
  refine bF rfl (fun hc => ?_) (fun hc => ?_)
  ·simp only [decide_eq_true_eq] at hc
   refine aB ?_
   refine am ?_
   refine ao ?_
   refine pA5 ?_
   refine pA5 ?_
   refine aO (i) rfl rfl Tryz.underlying38 Tryz.sizeOf24 (by omega) (by omega) rfl rfl ?_
   refine aJ 3 U64 0 rfl rfl Tryz.isAgg24 (by rw [hb]; omega) rfl rfl ?_
   refine rA5 ?_
   refine xp ?_
   refine aO (0) rfl rfl Tryz.underlying38 Tryz.sizeOf24 (by omega) (by omega) rfl rfl ?_
   refine aJ 2 U64 0 rfl rfl Tryz.isAgg24 (by rw [ha]; omega) rfl rfl ?_
   refine rA5 ?_
   refine lc ent186 (bi _ _) ?_
   refine rA5 ?_
   refine pA5 ?_
   refine aT rfl rfl (fun w => cv _ _ 0 _ (by decide) (k1z (b.getD i 0) a (RT a b i)) w) rfl rfl ?_
   refine rA5 ?_
   refine pA5 ?_
   refine ab (v := U64 (KC (b.getD i 0) a (RT a b i) 1)) rfl rfl (fun _ => rfl) (fun w => (ay _ _ _).trans (congrArg (fun z => Result.ok (U64 z) w) (k2z (b.getD i 0) a (RT a b i)))) rfl rfl ?_
   refine rA5 ?_
   refine xp ?_
   refine aO (1) rfl rfl Tryz.underlying38 Tryz.sizeOf24 (by omega) (by omega) rfl rfl ?_
   refine aJ 2 U64 0 rfl rfl Tryz.isAgg24 (by rw [ha]; omega) rfl rfl ?_
   refine rA5 ?_
   refine lc ent186 (bi _ _) ?_
   refine rA5 ?_
   refine pA5 ?_
   refine aT rfl rfl (fun w => cr _ _ 0 (by decide) w) rfl rfl ?_
   refine rA5 ?_
   refine pA5 ?_
   refine ab rfl rfl (fun _ => rfl) (fun _ => ay _ _ _) rfl rfl ?_
   refine rA5 ?_
   refine pA5 ?_
   refine aT rfl rfl (fun w => cv _ _ 0 _ (by decide) (k1s (b.getD i 0) a (RT a b i) 1) w) rfl rfl ?_
   refine rA5 ?_
   refine pA5 ?_
   refine ab (v := U64 (KC (b.getD i 0) a (RT a b i) 2)) rfl rfl (fun _ => rfl) (fun w => (ay _ _ _).trans (congrArg (fun z => Result.ok (U64 z) w) (k2s (b.getD i 0) a (RT a b i) 1))) rfl rfl ?_
   refine rA5 ?_
   refine xp ?_
   refine aO (2) rfl rfl Tryz.underlying38 Tryz.sizeOf24 (by omega) (by omega) rfl rfl ?_
   refine aJ 2 U64 0 rfl rfl Tryz.isAgg24 (by rw [ha]; omega) rfl rfl ?_
   refine rA5 ?_
   refine lc ent186 (bi _ _) ?_
   refine rA5 ?_
   refine pA5 ?_
   refine aT rfl rfl (fun w => cr _ _ 0 (by decide) w) rfl rfl ?_
   refine rA5 ?_
   refine pA5 ?_
   refine ab rfl rfl (fun _ => rfl) (fun _ => ay _ _ _) rfl rfl ?_
   refine rA5 ?_
   refine pA5 ?_
   refine aT rfl rfl (fun w => cv _ _ 0 _ (by decide) (k1s (b.getD i 0) a (RT a b i) 2) w) rfl rfl ?_
   refine rA5 ?_
   refine pA5 ?_
   refine ab (v := U64 (KC (b.getD i 0) a (RT a b i) 3)) rfl rfl (fun _ => rfl) (fun w => (ay _ _ _).trans (congrArg (fun z => Result.ok (U64 z) w) (k2s (b.getD i 0) a (RT a b i) 2))) rfl rfl ?_
   refine rA5 ?_
   refine xp ?_
   refine aO (3) rfl rfl Tryz.underlying38 Tryz.sizeOf24 (by omega) (by omega) rfl rfl ?_
   refine aJ 2 U64 0 rfl rfl Tryz.isAgg24 (by rw [ha]; omega) rfl rfl ?_
   refine rA5 ?_
   refine lc ent186 (bi _ _) ?_
   refine rA5 ?_
   refine pA5 ?_
   refine aT rfl rfl (fun w => cr _ _ 0 (by decide) w) rfl rfl ?_
   refine rA5 ?_
   refine pA5 ?_
   refine ab rfl rfl (fun _ => rfl) (fun _ => ay _ _ _) rfl rfl ?_
   refine rA5 ?_
   refine pA5 ?_
   refine aT rfl rfl (fun w => cv _ _ 0 _ (by decide) (k1s (b.getD i 0) a (RT a b i) 3) w) rfl rfl ?_
   refine rA5 ?_
   refine pA5 ?_
   refine ab (v := U64 (KC (b.getD i 0) a (RT a b i) 4)) rfl rfl (fun _ => rfl) (fun w => (ay _ _ _).trans (congrArg (fun z => Result.ok (U64 z) w) (k2s (b.getD i 0) a (RT a b i) 3))) rfl rfl ?_
   refine rA5 ?_
   refine xp ?_
   refine aO (4) rfl rfl Tryz.underlying38 Tryz.sizeOf24 (by omega) (by omega) rfl rfl ?_
   refine aJ 2 U64 0 rfl rfl Tryz.isAgg24 (by rw [ha]; omega) rfl rfl ?_
   refine rA5 ?_
   refine lc ent186 (bi _ _) ?_
   refine rA5 ?_
   refine pA5 ?_
   refine aT rfl rfl (fun w => cr _ _ 0 (by decide) w) rfl rfl ?_
   refine rA5 ?_
   refine pA5 ?_
   refine ab rfl rfl (fun _ => rfl) (fun _ => ay _ _ _) rfl rfl ?_
   refine rA5 ?_
   refine pA5 ?_
   refine aT rfl rfl (fun w => cv _ _ 0 _ (by decide) (k1s (b.getD i 0) a (RT a b i) 4) w) rfl rfl ?_
   refine rA5 ?_
   refine pA5 ?_
   refine ab (v := U64 (KC (b.getD i 0) a (RT a b i) 5)) rfl rfl (fun _ => rfl) (fun w => (ay _ _ _).trans (congrArg (fun z => Result.ok (U64 z) w) (k2s (b.getD i 0) a (RT a b i) 4))) rfl rfl ?_
   refine rA5 ?_
   refine xp ?_
   refine aO (5) rfl rfl Tryz.underlying38 Tryz.sizeOf24 (by omega) (by omega) rfl rfl ?_
   refine aJ 2 U64 0 rfl rfl Tryz.isAgg24 (by rw [ha]; omega) rfl rfl ?_
   refine rA5 ?_
   refine lc ent186 (bi _ _) ?_
   refine rA5 ?_
   refine pA5 ?_
   refine aT rfl rfl (fun w => cr _ _ 0 (by decide) w) rfl rfl ?_
   refine rA5 ?_
   refine pA5 ?_
   refine ab rfl rfl (fun _ => rfl) (fun _ => ay _ _ _) rfl rfl ?_
   refine rA5 ?_
   refine pA5 ?_
   refine aT rfl rfl (fun w => cv _ _ 0 _ (by decide) (k1s (b.getD i 0) a (RT a b i) 5) w) rfl rfl ?_
   refine rA5 ?_
   refine pA5 ?_
   refine ab (v := U64 (KC (b.getD i 0) a (RT a b i) 6)) rfl rfl (fun _ => rfl) (fun w => (ay _ _ _).trans (congrArg (fun z => Result.ok (U64 z) w) (k2s (b.getD i 0) a (RT a b i) 5))) rfl rfl ?_
   refine rA5 ?_
   refine pA5 ?_
   refine pA5 ?_
   refine ab (v := U64 (KT (b.getD i 0) a (RT a b i) 0 * INV)) rfl rfl (fun _ => rfl) (fun w => cd _ _ INV) rfl rfl ?_
   refine rA5 ?_
   refine pA5 ?_
   refine aE rfl rfl ent186 (bi _ (PL.getD 0 0)) rfl rfl ?_
   refine rA5 ?_
   refine pA5 ?_
   refine aT rfl rfl (fun w => cr _ _ 0 (by decide) w) rfl rfl ?_
   refine rA5 ?_
   refine pA5 ?_
   refine ab (v := U64 (KD (KT (b.getD i 0) a (RT a b i) 0 * INV) PL (T1 (b.getD i 0) a (RT a b i)) 0)) rfl rfl (fun _ => rfl) (fun w => (ay _ _ _).trans (congrArg (fun z => Result.ok (U64 z) w) (d2z (b.getD i 0) (KT (b.getD i 0) a (RT a b i) 0 * INV) a (RT a b i)))) rfl rfl ?_
   refine rA5 ?_
   refine pA5 ?_
   refine aE rfl rfl ent186 (bi _ (PL.getD 1 0)) rfl rfl ?_
   refine rA5 ?_
   refine pA5 ?_
   refine aT rfl rfl (fun w => cr _ _ 0 (by decide) w) rfl rfl ?_
   refine rA5 ?_
   refine pA5 ?_
   refine ab rfl rfl (fun _ => rfl) (fun _ => ay _ _ _) rfl rfl ?_
   refine rA5 ?_
   refine pA5 ?_
   refine aT rfl rfl (fun w => cv _ _ 0 _ (by decide) (d1s (b.getD i 0) (KT (b.getD i 0) a (RT a b i) 0 * INV) a (RT a b i) 0 (by decide)) w) rfl rfl ?_
   refine rA5 ?_
   refine pA5 ?_
   refine ab (v := U64 (KD (KT (b.getD i 0) a (RT a b i) 0 * INV) PL (T1 (b.getD i 0) a (RT a b i)) 1)) rfl rfl (fun _ => rfl) (fun w => (ay _ _ _).trans (congrArg (fun z => Result.ok (U64 z) w) (d2s (b.getD i 0) (KT (b.getD i 0) a (RT a b i) 0 * INV) a (RT a b i) 0 (by decide)))) rfl rfl ?_
   refine rA5 ?_
   refine pA5 ?_
   refine aE rfl rfl ent186 (bi _ (PL.getD 2 0)) rfl rfl ?_
   refine rA5 ?_
   refine pA5 ?_
   refine aT rfl rfl (fun w => cr _ _ 0 (by decide) w) rfl rfl ?_
   refine rA5 ?_
   refine pA5 ?_
   refine ab rfl rfl (fun _ => rfl) (fun _ => ay _ _ _) rfl rfl ?_
   refine rA5 ?_
   refine pA5 ?_
   refine aT rfl rfl (fun w => cv _ _ 0 _ (by decide) (d1s (b.getD i 0) (KT (b.getD i 0) a (RT a b i) 0 * INV) a (RT a b i) 1 (by decide)) w) rfl rfl ?_
   refine rA5 ?_
   refine pA5 ?_
   refine ab (v := U64 (KD (KT (b.getD i 0) a (RT a b i) 0 * INV) PL (T1 (b.getD i 0) a (RT a b i)) 2)) rfl rfl (fun _ => rfl) (fun w => (ay _ _ _).trans (congrArg (fun z => Result.ok (U64 z) w) (d2s (b.getD i 0) (KT (b.getD i 0) a (RT a b i) 0 * INV) a (RT a b i) 1 (by decide)))) rfl rfl ?_
   refine rA5 ?_
   refine pA5 ?_
   refine aE rfl rfl ent186 (bi _ (PL.getD 3 0)) rfl rfl ?_
   refine rA5 ?_
   refine pA5 ?_
   refine aT rfl rfl (fun w => cr _ _ 0 (by decide) w) rfl rfl ?_
   refine rA5 ?_
   refine pA5 ?_
   refine ab rfl rfl (fun _ => rfl) (fun _ => ay _ _ _) rfl rfl ?_
   refine rA5 ?_
   refine pA5 ?_
   refine aT rfl rfl (fun w => cv _ _ 0 _ (by decide) (d1s (b.getD i 0) (KT (b.getD i 0) a (RT a b i) 0 * INV) a (RT a b i) 2 (by decide)) w) rfl rfl ?_
   refine rA5 ?_
   refine pA5 ?_
   refine ab (v := U64 (KD (KT (b.getD i 0) a (RT a b i) 0 * INV) PL (T1 (b.getD i 0) a (RT a b i)) 3)) rfl rfl (fun _ => rfl) (fun w => (ay _ _ _).trans (congrArg (fun z => Result.ok (U64 z) w) (d2s (b.getD i 0) (KT (b.getD i 0) a (RT a b i) 0 * INV) a (RT a b i) 2 (by decide)))) rfl rfl ?_
   refine rA5 ?_
   refine pA5 ?_
   refine aE rfl rfl ent186 (bi _ (PL.getD 4 0)) rfl rfl ?_
   refine rA5 ?_
   refine pA5 ?_
   refine aT rfl rfl (fun w => cr _ _ 0 (by decide) w) rfl rfl ?_
   refine rA5 ?_
   refine pA5 ?_
   refine ab rfl rfl (fun _ => rfl) (fun _ => ay _ _ _) rfl rfl ?_
   refine rA5 ?_
   refine pA5 ?_
   refine aT rfl rfl (fun w => cv _ _ 0 _ (by decide) (d1s (b.getD i 0) (KT (b.getD i 0) a (RT a b i) 0 * INV) a (RT a b i) 3 (by decide)) w) rfl rfl ?_
   refine rA5 ?_
   refine pA5 ?_
   refine ab (v := U64 (KD (KT (b.getD i 0) a (RT a b i) 0 * INV) PL (T1 (b.getD i 0) a (RT a b i)) 4)) rfl rfl (fun _ => rfl) (fun w => (ay _ _ _).trans (congrArg (fun z => Result.ok (U64 z) w) (d2s (b.getD i 0) (KT (b.getD i 0) a (RT a b i) 0 * INV) a (RT a b i) 3 (by decide)))) rfl rfl ?_
   refine rA5 ?_
   refine pA5 ?_
   refine aE rfl rfl ent186 (bi _ (PL.getD 5 0)) rfl rfl ?_
   refine rA5 ?_
   refine pA5 ?_
   refine aT rfl rfl (fun w => cr _ _ 0 (by decide) w) rfl rfl ?_
   refine rA5 ?_
   refine pA5 ?_
   refine ab rfl rfl (fun _ => rfl) (fun _ => ay _ _ _) rfl rfl ?_
   refine rA5 ?_
   refine pA5 ?_
   refine aT rfl rfl (fun w => cv _ _ 0 _ (by decide) (d1s (b.getD i 0) (KT (b.getD i 0) a (RT a b i) 0 * INV) a (RT a b i) 4 (by decide)) w) rfl rfl ?_
   refine rA5 ?_
   refine pA5 ?_
   refine ab (v := U64 (KD (KT (b.getD i 0) a (RT a b i) 0 * INV) PL (T1 (b.getD i 0) a (RT a b i)) 5)) rfl rfl (fun _ => rfl) (fun w => (ay _ _ _).trans (congrArg (fun z => Result.ok (U64 z) w) (d2s (b.getD i 0) (KT (b.getD i 0) a (RT a b i) 0 * INV) a (RT a b i) 4 (by decide)))) rfl rfl ?_
   refine rA5 ?_
   refine au (E := EE []) ?_
   refine rA5 ?_
   refine ab rfl rfl (fun _ => rfl) (fun _ => ay _ _ _) rfl rfl ?_
   refine rA5 ?_
   refine au (E := EE []) ?_
   refine rA5 ?_
   refine ab rfl rfl (fun _ => rfl) (fun _ => aA _ _ _ (by unfold inI; omega)) rfl rfl ?_
   refine rA5 ?_
   repeat (refine aL ?_)
   refine aZ ?_
   exact ⟨rfl, ⟨i + 1, by omega⟩, _, by show 6 - (i + 1) < 6 - i; omega, rfl, ⟨rfl, rfl, rfl, congrArg (fun z => some (U64 z)) (lQ a b i 0 (by decide)).symm, congrArg (fun z => some (U64 z)) (lQ a b i 1 (by decide)).symm, congrArg (fun z => some (U64 z)) (lQ a b i 2 (by decide)).symm, congrArg (fun z => some (U64 z)) (lQ a b i 3 (by decide)).symm, congrArg (fun z => some (U64 z)) (lQ a b i 4 (by decide)).symm, congrArg (fun z => some (U64 z)) (vb a b i).symm, rfl, trivial⟩, ⟨rfl, rfl, rfl, trivial⟩⟩
  ·obtain rfl : i = 6 := by simp at hc; omega
   refine aV ?_
   refine pA5 ?_
   refine fw (n := 6) (vs := (RT a b 6).map U64) (congrArg some (sS (RT a b 6) (dy _ _ _))) rfl Tryz.underlying38 Tryz.sizeOf24 Tryz.zeroValue38 (by rw [List.length_map, dy]; rfl) (ak _) rfl rfl ?_
   refine la zv38 fun b19 => ?_
   refine ai 19 hGF rfl rfl rfl Tryz.sizeOf38 (by rw [List.length_map, dy _ _ _]) (by rw [List.length_map, List.length_replicate]) (ak _) rfl ?_
   refine aa ?_
   refine am ?_
   refine bC (E := EE [2999999]) [0, 1, 2, 3, 4, 5] [⟨6, 20, 38, (List.replicate 6 0#64).map U64⟩] [7, 8] a5 rfl (by kernel_rfl) (by kernel_rfl) (by kernel_rfl) (by kernel_rfl) (by kernel_rfl) (by kernel_rfl) (by decide) (by intro x hx; simp only [List.mem_cons, List.not_mem_nil, or_false] at hx; subst hx; exact bc rfl zv38 rfl) ?_
   refine aq 19 rfl rfl Tryz.isAgg38 Tryz.sizeOf38 (by rw [List.length_map, dy _ _ _]) rfl rfl ?_
   refine lc ent194 (jN) ?_
   refine aE rfl rfl ent193 (dI _ _ (dy _ _ _) rfl) rfl rfl ?_
   refine rA5 ?_
   refine ⟨_, _, rfl, hGF, by intro x hx; simp only [List.mem_cons, List.not_mem_nil, or_false] at hx; subst hx; rfl, by intro x hx; simp only [List.mem_cons, List.not_mem_nil, or_false] at hx; subst hx; rfl, fun adr => ?_⟩
   refine ai 20 hGF rfl rfl rfl Tryz.sizeOf38 (by rw [List.length_map, aC _ _ _]) (by rw [List.length_map, List.length_replicate]) (ak _) rfl ?_
   refine rA5 ?_
   refine pA5 ?_
   refine ab (v := .bool true) rfl rfl (fun _ => rfl) (fun w => (bx _ _ _).trans (congrArg (fun b => Result.ok (Value.bool b) w) (beq_iff_eq.2 h0))) rfl rfl ?_
   refine aa ?_
   refine bL rfl ?_
   refine au (E := EE []) ?_
   refine aq 20 rfl rfl Tryz.isAgg38 Tryz.sizeOf38 (by rw [List.length_map, aC _ _ _]) rfl rfl ?_
   refine ai 19 hGF rfl rfl rfl Tryz.sizeOf38 (by rw [List.length_map, aC _ _ _]) (by rw [List.length_map, dy _ _ _]) (ak _) rfl ?_
   refine aa ?_
   refine xp ?_
   refine aq 19 rfl rfl Tryz.isAgg38 Tryz.sizeOf38 (by rw [List.length_map, aC _ _ _]) rfl rfl ?_
   refine ai 4 hGF rfl rfl rfl Tryz.sizeOf38 (by rw [List.length_map, aC _ _ _]) (by rw [List.length_map, List.length_replicate]) (ak _) rfl ?_
   refine aa ?_
   refine rt ?_
   exact av 4 rfl rfl rfl Tryz.isAgg38 Tryz.sizeOf38 (by rw [List.length_map, aC]) (fun w hw => ⟨by rw [RM, if_pos h0], ah hw⟩)
 ·skip
  refine xp ?_
  refine lb fun b2 => ?_
  refine lb fun b3 => ?_
  refine la zv38 fun b4 => ?_
  refine aa ?_
  refine pA5 ?_
  refine am ?_
  refine pA5 ?_
  refine ao ?_
  refine bO (ι := { i : Nat // i ≤ 6 }) (fun x => [(2, .pointer (some ⟨b2, 0, none⟩)), (3, .pointer (some ⟨b3, 0, none⟩)), (4, .pointer (some ⟨b4, 0, none⟩)), (5, U64 ((RT a b x.1).getD 0 0)), (6, U64 ((RT a b x.1).getD 1 0)), (7, U64 ((RT a b x.1).getD 2 0)), (8, U64 ((RT a b x.1).getD 3 0)), (9, U64 ((RT a b x.1).getD 4 0)), (10, U64 ((RT a b x.1).getD 5 0)), (11, I (x.1 : Int))]) (fun x => [(2, b2, a.map U64, 38), (3, b3, b.map U64, 38), (4, b4, (List.replicate 6 0#64).map U64, 38)]) (fun x => 6 - x.1) ⟨0, by omega⟩ hGF ⟨rfl, rfl, rfl, rfl, rfl, rfl, rfl, rfl, rfl, rfl, trivial⟩ ⟨rfl, rfl, rfl, trivial⟩ ?_
  rintro ⟨i, hi⟩
  dsimp only
  refine am ?_
  refine pA5 ?_
  refine ab rfl rfl (fun _ => rfl) (fun _ => aH _ _ _) rfl rfl ?_
  refine aa ?_
  refine bF rfl (fun hc => ?_) (fun hc => ?_)
  ·simp only [decide_eq_true_eq] at hc
   refine aB ?_
   refine am ?_
   refine ao ?_
   refine pA5 ?_
   refine pA5 ?_
   refine aO (i) rfl rfl Tryz.underlying38 Tryz.sizeOf24 (by omega) (by omega) rfl rfl ?_
   refine aJ 3 U64 0 rfl rfl Tryz.isAgg24 (by rw [hb]; omega) rfl rfl ?_
   refine rA5 ?_
   refine xp ?_
   refine aO (0) rfl rfl Tryz.underlying38 Tryz.sizeOf24 (by omega) (by omega) rfl rfl ?_
   refine aJ 2 U64 0 rfl rfl Tryz.isAgg24 (by rw [ha]; omega) rfl rfl ?_
   refine rA5 ?_
   refine lc ent186 (bi _ _) ?_
   refine rA5 ?_
   refine pA5 ?_
   refine aT rfl rfl (fun w => cv _ _ 0 _ (by decide) (k1z (b.getD i 0) a (RT a b i)) w) rfl rfl ?_
   refine rA5 ?_
   refine pA5 ?_
   refine ab (v := U64 (KC (b.getD i 0) a (RT a b i) 1)) rfl rfl (fun _ => rfl) (fun w => (ay _ _ _).trans (congrArg (fun z => Result.ok (U64 z) w) (k2z (b.getD i 0) a (RT a b i)))) rfl rfl ?_
   refine rA5 ?_
   refine xp ?_
   refine aO (1) rfl rfl Tryz.underlying38 Tryz.sizeOf24 (by omega) (by omega) rfl rfl ?_
   refine aJ 2 U64 0 rfl rfl Tryz.isAgg24 (by rw [ha]; omega) rfl rfl ?_
   refine rA5 ?_
   refine lc ent186 (bi _ _) ?_
   refine rA5 ?_
   refine pA5 ?_
   refine aT rfl rfl (fun w => cr _ _ 0 (by decide) w) rfl rfl ?_
   refine rA5 ?_
   refine pA5 ?_
   refine ab rfl rfl (fun _ => rfl) (fun _ => ay _ _ _) rfl rfl ?_
   refine rA5 ?_
   refine pA5 ?_
   refine aT rfl rfl (fun w => cv _ _ 0 _ (by decide) (k1s (b.getD i 0) a (RT a b i) 1) w) rfl rfl ?_
   refine rA5 ?_
   refine pA5 ?_
   refine ab (v := U64 (KC (b.getD i 0) a (RT a b i) 2)) rfl rfl (fun _ => rfl) (fun w => (ay _ _ _).trans (congrArg (fun z => Result.ok (U64 z) w) (k2s (b.getD i 0) a (RT a b i) 1))) rfl rfl ?_
   refine rA5 ?_
   refine xp ?_
   refine aO (2) rfl rfl Tryz.underlying38 Tryz.sizeOf24 (by omega) (by omega) rfl rfl ?_
   refine aJ 2 U64 0 rfl rfl Tryz.isAgg24 (by rw [ha]; omega) rfl rfl ?_
   refine rA5 ?_
   refine lc ent186 (bi _ _) ?_
   refine rA5 ?_
   refine pA5 ?_
   refine aT rfl rfl (fun w => cr _ _ 0 (by decide) w) rfl rfl ?_
   refine rA5 ?_
   refine pA5 ?_
   refine ab rfl rfl (fun _ => rfl) (fun _ => ay _ _ _) rfl rfl ?_
   refine rA5 ?_
   refine pA5 ?_
   refine aT rfl rfl (fun w => cv _ _ 0 _ (by decide) (k1s (b.getD i 0) a (RT a b i) 2) w) rfl rfl ?_
   refine rA5 ?_
   refine pA5 ?_
   refine ab (v := U64 (KC (b.getD i 0) a (RT a b i) 3)) rfl rfl (fun _ => rfl) (fun w => (ay _ _ _).trans (congrArg (fun z => Result.ok (U64 z) w) (k2s (b.getD i 0) a (RT a b i) 2))) rfl rfl ?_
   refine rA5 ?_
   refine xp ?_
   refine aO (3) rfl rfl Tryz.underlying38 Tryz.sizeOf24 (by omega) (by omega) rfl rfl ?_
   refine aJ 2 U64 0 rfl rfl Tryz.isAgg24 (by rw [ha]; omega) rfl rfl ?_
   refine rA5 ?_
   refine lc ent186 (bi _ _) ?_
   refine rA5 ?_
   refine pA5 ?_
   refine aT rfl rfl (fun w => cr _ _ 0 (by decide) w) rfl rfl ?_
   refine rA5 ?_
   refine pA5 ?_
   refine ab rfl rfl (fun _ => rfl) (fun _ => ay _ _ _) rfl rfl ?_
   refine rA5 ?_
   refine pA5 ?_
   refine aT rfl rfl (fun w => cv _ _ 0 _ (by decide) (k1s (b.getD i 0) a (RT a b i) 3) w) rfl rfl ?_
   refine rA5 ?_
   refine pA5 ?_
   refine ab (v := U64 (KC (b.getD i 0) a (RT a b i) 4)) rfl rfl (fun _ => rfl) (fun w => (ay _ _ _).trans (congrArg (fun z => Result.ok (U64 z) w) (k2s (b.getD i 0) a (RT a b i) 3))) rfl rfl ?_
   refine rA5 ?_
   refine xp ?_
   refine aO (4) rfl rfl Tryz.underlying38 Tryz.sizeOf24 (by omega) (by omega) rfl rfl ?_
   refine aJ 2 U64 0 rfl rfl Tryz.isAgg24 (by rw [ha]; omega) rfl rfl ?_
   refine rA5 ?_
   refine lc ent186 (bi _ _) ?_
   refine rA5 ?_
   refine pA5 ?_
   refine aT rfl rfl (fun w => cr _ _ 0 (by decide) w) rfl rfl ?_
   refine rA5 ?_
   refine pA5 ?_
   refine ab rfl rfl (fun _ => rfl) (fun _ => ay _ _ _) rfl rfl ?_
   refine rA5 ?_
   refine pA5 ?_
   refine aT rfl rfl (fun w => cv _ _ 0 _ (by decide) (k1s (b.getD i 0) a (RT a b i) 4) w) rfl rfl ?_
   refine rA5 ?_
   refine pA5 ?_
   refine ab (v := U64 (KC (b.getD i 0) a (RT a b i) 5)) rfl rfl (fun _ => rfl) (fun w => (ay _ _ _).trans (congrArg (fun z => Result.ok (U64 z) w) (k2s (b.getD i 0) a (RT a b i) 4))) rfl rfl ?_
   refine rA5 ?_
   refine xp ?_
   refine aO (5) rfl rfl Tryz.underlying38 Tryz.sizeOf24 (by omega) (by omega) rfl rfl ?_
   refine aJ 2 U64 0 rfl rfl Tryz.isAgg24 (by rw [ha]; omega) rfl rfl ?_
   refine rA5 ?_
   refine lc ent186 (bi _ _) ?_
   refine rA5 ?_
   refine pA5 ?_
   refine aT rfl rfl (fun w => cr _ _ 0 (by decide) w) rfl rfl ?_
   refine rA5 ?_
   refine pA5 ?_
   refine ab rfl rfl (fun _ => rfl) (fun _ => ay _ _ _) rfl rfl ?_
   refine rA5 ?_
   refine pA5 ?_
   refine aT rfl rfl (fun w => cv _ _ 0 _ (by decide) (k1s (b.getD i 0) a (RT a b i) 5) w) rfl rfl ?_
   refine rA5 ?_
   refine pA5 ?_
   refine ab (v := U64 (KC (b.getD i 0) a (RT a b i) 6)) rfl rfl (fun _ => rfl) (fun w => (ay _ _ _).trans (congrArg (fun z => Result.ok (U64 z) w) (k2s (b.getD i 0) a (RT a b i) 5))) rfl rfl ?_
   refine rA5 ?_
   refine pA5 ?_
   refine pA5 ?_
   refine ab (v := U64 (KT (b.getD i 0) a (RT a b i) 0 * INV)) rfl rfl (fun _ => rfl) (fun w => cd _ _ INV) rfl rfl ?_
   refine rA5 ?_
   refine pA5 ?_
   refine aE rfl rfl ent186 (bi _ (PL.getD 0 0)) rfl rfl ?_
   refine rA5 ?_
   refine pA5 ?_
   refine aT rfl rfl (fun w => cr _ _ 0 (by decide) w) rfl rfl ?_
   refine rA5 ?_
   refine pA5 ?_
   refine ab (v := U64 (KD (KT (b.getD i 0) a (RT a b i) 0 * INV) PL (T1 (b.getD i 0) a (RT a b i)) 0)) rfl rfl (fun _ => rfl) (fun w => (ay _ _ _).trans (congrArg (fun z => Result.ok (U64 z) w) (d2z (b.getD i 0) (KT (b.getD i 0) a (RT a b i) 0 * INV) a (RT a b i)))) rfl rfl ?_
   refine rA5 ?_
   refine pA5 ?_
   refine aE rfl rfl ent186 (bi _ (PL.getD 1 0)) rfl rfl ?_
   refine rA5 ?_
   refine pA5 ?_
   refine aT rfl rfl (fun w => cr _ _ 0 (by decide) w) rfl rfl ?_
   refine rA5 ?_
   refine pA5 ?_
   refine ab rfl rfl (fun _ => rfl) (fun _ => ay _ _ _) rfl rfl ?_
   refine rA5 ?_
   refine pA5 ?_
   refine aT rfl rfl (fun w => cv _ _ 0 _ (by decide) (d1s (b.getD i 0) (KT (b.getD i 0) a (RT a b i) 0 * INV) a (RT a b i) 0 (by decide)) w) rfl rfl ?_
   refine rA5 ?_
   refine pA5 ?_
   refine ab (v := U64 (KD (KT (b.getD i 0) a (RT a b i) 0 * INV) PL (T1 (b.getD i 0) a (RT a b i)) 1)) rfl rfl (fun _ => rfl) (fun w => (ay _ _ _).trans (congrArg (fun z => Result.ok (U64 z) w) (d2s (b.getD i 0) (KT (b.getD i 0) a (RT a b i) 0 * INV) a (RT a b i) 0 (by decide)))) rfl rfl ?_
   refine rA5 ?_
   refine pA5 ?_
   refine aE rfl rfl ent186 (bi _ (PL.getD 2 0)) rfl rfl ?_
   refine rA5 ?_
   refine pA5 ?_
   refine aT rfl rfl (fun w => cr _ _ 0 (by decide) w) rfl rfl ?_
   refine rA5 ?_
   refine pA5 ?_
   refine ab rfl rfl (fun _ => rfl) (fun _ => ay _ _ _) rfl rfl ?_
   refine rA5 ?_
   refine pA5 ?_
   refine aT rfl rfl (fun w => cv _ _ 0 _ (by decide) (d1s (b.getD i 0) (KT (b.getD i 0) a (RT a b i) 0 * INV) a (RT a b i) 1 (by decide)) w) rfl rfl ?_
   refine rA5 ?_
   refine pA5 ?_
   refine ab (v := U64 (KD (KT (b.getD i 0) a (RT a b i) 0 * INV) PL (T1 (b.getD i 0) a (RT a b i)) 2)) rfl rfl (fun _ => rfl) (fun w => (ay _ _ _).trans (congrArg (fun z => Result.ok (U64 z) w) (d2s (b.getD i 0) (KT (b.getD i 0) a (RT a b i) 0 * INV) a (RT a b i) 1 (by decide)))) rfl rfl ?_
   refine rA5 ?_
   refine pA5 ?_
   refine aE rfl rfl ent186 (bi _ (PL.getD 3 0)) rfl rfl ?_
   refine rA5 ?_
   refine pA5 ?_
   refine aT rfl rfl (fun w => cr _ _ 0 (by decide) w) rfl rfl ?_
   refine rA5 ?_
   refine pA5 ?_
   refine ab rfl rfl (fun _ => rfl) (fun _ => ay _ _ _) rfl rfl ?_
   refine rA5 ?_
   refine pA5 ?_
   refine aT rfl rfl (fun w => cv _ _ 0 _ (by decide) (d1s (b.getD i 0) (KT (b.getD i 0) a (RT a b i) 0 * INV) a (RT a b i) 2 (by decide)) w) rfl rfl ?_
   refine rA5 ?_
   refine pA5 ?_
   refine ab (v := U64 (KD (KT (b.getD i 0) a (RT a b i) 0 * INV) PL (T1 (b.getD i 0) a (RT a b i)) 3)) rfl rfl (fun _ => rfl) (fun w => (ay _ _ _).trans (congrArg (fun z => Result.ok (U64 z) w) (d2s (b.getD i 0) (KT (b.getD i 0) a (RT a b i) 0 * INV) a (RT a b i) 2 (by decide)))) rfl rfl ?_
   refine rA5 ?_
   refine pA5 ?_
   refine aE rfl rfl ent186 (bi _ (PL.getD 4 0)) rfl rfl ?_
   refine rA5 ?_
   refine pA5 ?_
   refine aT rfl rfl (fun w => cr _ _ 0 (by decide) w) rfl rfl ?_
   refine rA5 ?_
   refine pA5 ?_
   refine ab rfl rfl (fun _ => rfl) (fun _ => ay _ _ _) rfl rfl ?_
   refine rA5 ?_
   refine pA5 ?_
   refine aT rfl rfl (fun w => cv _ _ 0 _ (by decide) (d1s (b.getD i 0) (KT (b.getD i 0) a (RT a b i) 0 * INV) a (RT a b i) 3 (by decide)) w) rfl rfl ?_
   refine rA5 ?_
   refine pA5 ?_
   refine ab (v := U64 (KD (KT (b.getD i 0) a (RT a b i) 0 * INV) PL (T1 (b.getD i 0) a (RT a b i)) 4)) rfl rfl (fun _ => rfl) (fun w => (ay _ _ _).trans (congrArg (fun z => Result.ok (U64 z) w) (d2s (b.getD i 0) (KT (b.getD i 0) a (RT a b i) 0 * INV) a (RT a b i) 3 (by decide)))) rfl rfl ?_
   refine rA5 ?_
   refine pA5 ?_
   refine aE rfl rfl ent186 (bi _ (PL.getD 5 0)) rfl rfl ?_
   refine rA5 ?_
   refine pA5 ?_
   refine aT rfl rfl (fun w => cr _ _ 0 (by decide) w) rfl rfl ?_
   refine rA5 ?_
   refine pA5 ?_
   refine ab rfl rfl (fun _ => rfl) (fun _ => ay _ _ _) rfl rfl ?_
   refine rA5 ?_
   refine pA5 ?_
   refine aT rfl rfl (fun w => cv _ _ 0 _ (by decide) (d1s (b.getD i 0) (KT (b.getD i 0) a (RT a b i) 0 * INV) a (RT a b i) 4 (by decide)) w) rfl rfl ?_
   refine rA5 ?_
   refine pA5 ?_
   refine ab (v := U64 (KD (KT (b.getD i 0) a (RT a b i) 0 * INV) PL (T1 (b.getD i 0) a (RT a b i)) 5)) rfl rfl (fun _ => rfl) (fun w => (ay _ _ _).trans (congrArg (fun z => Result.ok (U64 z) w) (d2s (b.getD i 0) (KT (b.getD i 0) a (RT a b i) 0 * INV) a (RT a b i) 4 (by decide)))) rfl rfl ?_
   refine rA5 ?_
   refine au (E := EE []) ?_
   refine rA5 ?_
   refine ab rfl rfl (fun _ => rfl) (fun _ => ay _ _ _) rfl rfl ?_
   refine rA5 ?_
   refine au (E := EE []) ?_
   refine rA5 ?_
   refine ab rfl rfl (fun _ => rfl) (fun _ => aA _ _ _ (by unfold inI; omega)) rfl rfl ?_
   refine rA5 ?_
   repeat (refine aL ?_)
   refine aZ ?_
   exact ⟨rfl, ⟨i + 1, by omega⟩, _, by show 6 - (i + 1) < 6 - i; omega, rfl, ⟨rfl, rfl, rfl, congrArg (fun z => some (U64 z)) (lQ a b i 0 (by decide)).symm, congrArg (fun z => some (U64 z)) (lQ a b i 1 (by decide)).symm, congrArg (fun z => some (U64 z)) (lQ a b i 2 (by decide)).symm, congrArg (fun z => some (U64 z)) (lQ a b i 3 (by decide)).symm, congrArg (fun z => some (U64 z)) (lQ a b i 4 (by decide)).symm, congrArg (fun z => some (U64 z)) (vb a b i).symm, rfl, trivial⟩, ⟨rfl, rfl, rfl, trivial⟩⟩
  ·obtain rfl : i = 6 := by simp at hc; omega
   refine aV ?_
   refine pA5 ?_
   refine fw (n := 6) (vs := (RT a b 6).map U64) (congrArg some (sS (RT a b 6) (dy _ _ _))) rfl Tryz.underlying38 Tryz.sizeOf24 Tryz.zeroValue38 (by rw [List.length_map, dy]; rfl) (ak _) rfl rfl ?_
   refine la zv38 fun b19 => ?_
   refine ai 19 hGF rfl rfl rfl Tryz.sizeOf38 (by rw [List.length_map, dy _ _ _]) (by rw [List.length_map, List.length_replicate]) (ak _) rfl ?_
   refine aa ?_
   refine am ?_
   refine bC (E := EE [2999999]) [0, 1, 2, 3, 4, 5] [⟨6, 20, 38, (List.replicate 6 0#64).map U64⟩] [7, 8] a5 rfl (by kernel_rfl) (by kernel_rfl) (by kernel_rfl) (by kernel_rfl) (by kernel_rfl) (by kernel_rfl) (by decide) (by intro x hx; simp only [List.mem_cons, List.not_mem_nil, or_false] at hx; subst hx; exact bc rfl zv38 rfl) ?_
   refine aq 19 rfl rfl Tryz.isAgg38 Tryz.sizeOf38 (by rw [List.length_map, dy _ _ _]) rfl rfl ?_
   refine lc ent194 (jN) ?_
   refine aE rfl rfl ent193 (dI _ _ (dy _ _ _) rfl) rfl rfl ?_
   refine rA5 ?_
   refine ⟨_, _, rfl, hGF, by intro x hx; simp only [List.mem_cons, List.not_mem_nil, or_false] at hx; subst hx; rfl, by intro x hx; simp only [List.mem_cons, List.not_mem_nil, or_false] at hx; subst hx; rfl, fun adr => ?_⟩
   refine ai 20 hGF rfl rfl rfl Tryz.sizeOf38 (by rw [List.length_map, aC _ _ _]) (by rw [List.length_map, List.length_replicate]) (ak _) rfl ?_
   refine rA5 ?_
   refine pA5 ?_
   refine ab (v := .bool false) rfl rfl (fun _ => rfl) (fun w => (bx _ _ _).trans (congrArg (fun b => Result.ok (Value.bool b) w) (beq_eq_false_iff_ne.2 h0))) rfl rfl ?_
   refine aa ?_
   refine ba rfl ?_
   refine aB ?_
   refine xp ?_
   refine aq 19 rfl rfl Tryz.isAgg38 Tryz.sizeOf38 (by rw [List.length_map, dy _ _ _]) rfl rfl ?_
   refine ai 4 hGF rfl rfl rfl Tryz.sizeOf38 (by rw [List.length_map, dy _ _ _]) (by rw [List.length_map, List.length_replicate]) (ak _) rfl ?_
   refine aa ?_
   refine rt ?_
   exact av 4 rfl rfl rfl Tryz.isAgg38 Tryz.sizeOf38 (by rw [List.length_map, dy]) (fun w hw => ⟨by rw [RM, if_neg h0], ah hw⟩)
end
section
open Go.RowKit
theorem rA6 {Q P : Prop} (k : Q) (h : Q → P := by intro k; (refine LY.run ?_); (repeat (first | refine bH rfl rfl rfl ?_ | refine bd rfl rfl rfl ?_ | refine ee rfl rfl rfl rfl ?_ | refine bw (f := 194) rfl rfl ent194 (jN) rfl rfl ?_)); (first | refine bY ?_ | refine LY.mk ?_); exact k) : P := h k
theorem pA6 {Q P : Prop} (k : Q) (h : Q → P := by intro k; (refine xp ?_); (refine rA6 ?_); exact k) : P := h k
theorem ent127 : ae Tryz.prog 127 := fun _ _ => by kernel_rfl
theorem ent135 : ae Tryz.prog 135 := fun _ _ => by kernel_rfl
theorem ent180 : ae Tryz.prog 180 := fun _ _ => by kernel_rfl
theorem ent182 : ae Tryz.prog 182 := fun _ _ => by kernel_rfl
theorem ent181 : ae Tryz.prog 181 := fun _ _ => by kernel_rfl
theorem ent183 : ae Tryz.prog 183 := fun _ _ => by kernel_rfl
theorem ent179 : ae Tryz.prog 179 := fun _ _ => by kernel_rfl
theorem zv40 (w : World) : (zeroValue 40).run Tryz.prog w = .ok (.agg ((List.replicate 6 (0#64)).map U64).toArray) w := (Tryz.zeroValue40 w).trans (by rfl)
def tQ (a b : List (BitVec 64)) : List (BitVec 64) := if 1873798617647539866#64 ≤ (AS a b 6).1.getD 5 0 ∧ (SS (AS a b 6).1 PL 6).2 = 0 then (SS (AS a b 6).1 PL 6).1 else (AS a b 6).1
def ui (a b : List (BitVec 64)) : List (BitVec 64) := if (SS a b 6).2 = 1 then (AS (SS a b 6).1 PL 6).1 else (SS a b 6).1
def ue (a : List (BitVec 64)) : List (BitVec 64) := if a = List.replicate 6 0 then a else (SS PL a 6).1
theorem oz (a : List (BitVec 64)) (ha : a.length = 6) : Pure Tryz.prog Gt 127 [.agg ((a).map U64).toArray] (.agg ((RM a TWO).map U64).toArray) := by
 refine aN Tryz.func127 fun w hw hGF => ?_
 refine xp ?_
 refine lb fun b1 => ?_
 refine la zv40 fun b2 => ?_
 refine aa ?_
 refine bj (E := EE []) a5 (by kernel_rfl) (by kernel_rfl) (by kernel_rfl) ?_
 refine aq 1 rfl rfl Tryz.isAgg38 Tryz.sizeOf38 (by rw [List.length_map, ha]) rfl rfl ?_
 refine lc ent170 (tN) ?_
 refine lc ent169 (k5 _ _ ha nw) ?_
 refine bZ rfl (a6 _ _) Tryz.underlying40 rfl Tryz.sizeOf38 zv40 rfl rfl ?_
 refine ai 2 hGF rfl rfl rfl Tryz.sizeOf40 (by rw [List.length_map, a6 _ _]) (by rw [List.length_map, List.length_replicate]) (ak _) rfl ?_
 refine aa ?_
 refine rt ?_
 exact av 2 rfl rfl rfl Tryz.isAgg40 Tryz.sizeOf40 (by rw [List.length_map, a6]) (fun w hw => ⟨rfl, ah hw⟩)
theorem iZ (a b : List (BitVec 64)) (ha : a.length = 6) (hb : b.length = 6) : Pure Tryz.prog Gt 179 [.agg ((a).map U64).toArray, .agg ((b).map U64).toArray] (.agg ((RM a b).map U64).toArray) := by
 refine aN Tryz.func179 fun w hw hGF => ?_
 refine xp ?_
 refine lb fun b2 => ?_
 refine lb fun b3 => ?_
 refine la zv40 fun b4 => ?_
 refine aa ?_
 refine xp ?_
 refine bz 0 rfl Tryz.underlying40 rfl Tryz.sizeOf38 (by decide) rfl rfl rfl ?_
 refine aq 2 rfl rfl Tryz.isAgg38 Tryz.sizeOf38 (by rw [List.length_map, ha]) rfl rfl ?_
 refine bz 0 rfl Tryz.underlying40 rfl Tryz.sizeOf38 (by decide) rfl rfl rfl ?_
 refine aq 3 rfl rfl Tryz.isAgg38 Tryz.sizeOf38 (by rw [List.length_map, hb]) rfl rfl ?_
 refine lc ent169 (k5 _ _ ha hb) ?_
 refine bZ rfl (a6 _ _) Tryz.underlying40 rfl Tryz.sizeOf38 zv40 rfl rfl ?_
 refine ai 4 hGF rfl rfl rfl Tryz.sizeOf40 (by rw [List.length_map, a6 _ _]) (by rw [List.length_map, List.length_replicate]) (ak _) rfl ?_
 refine aa ?_
 refine rt ?_
 exact av 4 rfl rfl rfl Tryz.isAgg40 Tryz.sizeOf40 (by rw [List.length_map, a6]) (fun w hw => ⟨rfl, ah hw⟩)
theorem oe (n : BitVec 64) : Pure Tryz.prog Gt 135 [U64 n] (.agg ((RM (n :: List.replicate 5 0) TWO).map U64).toArray) := by
 refine aN Tryz.func135 fun w hw hGF => ?_
 refine xp ?_
 refine la zv40 fun b2 => ?_
 refine aa ?_
 refine pA6 ?_
 refine gS n rfl Tryz.underlying38 Tryz.sizeOf24 zv38 rfl rfl ?_
 refine aE rfl rfl ent127 (oz (n :: List.replicate 5 0) rfl) rfl rfl ?_
 refine ai 2 hGF rfl rfl rfl Tryz.sizeOf40 (by rw [List.length_map, a6 _ _]) (by rw [List.length_map, List.length_replicate]) (ak _) rfl ?_
 refine aa ?_
 refine rt ?_
 exact av 2 rfl rfl rfl Tryz.isAgg40 Tryz.sizeOf40 (by rw [List.length_map, a6]) (fun w hw => ⟨rfl, ah hw⟩)
theorem fG (a : List (BitVec 64)) (ha : a.length = 6) : Pure Tryz.prog Gt 180 [.agg ((a).map U64).toArray] (.bool (decide (a = List.replicate 6 0))) := by
 refine aN Tryz.func180 fun w hw hGF => ?_
 refine xp ?_
 refine lb fun b1 => ?_
 refine rA6 ?_
 refine xp ?_
 refine bz 0 rfl Tryz.underlying40 rfl Tryz.sizeOf38 (by decide) rfl rfl rfl ?_
 refine aq 1 rfl rfl Tryz.isAgg38 Tryz.sizeOf38 (by rw [List.length_map, ha]) rfl rfl ?_
 refine gI zv38 Tryz.underlying38 Tryz.sizeOf24 rfl rfl ?_
 refine ab (v := .bool (decide (a = List.replicate 6 0#64))) rfl rfl (fun _ => Hb _ _ _ _ _ _) (fun w => eq27 a (List.replicate 6 0#64) ha rfl w) rfl rfl ?_
 refine rA6 ?_
 refine rt ?_
 exact bg rfl rfl (fun w hw => ⟨rfl, ah hw⟩)
theorem pS (a b : List (BitVec 64)) (ha : a.length = 6) (hb : b.length = 6) : Pure Tryz.prog Gt 181 [.agg ((a).map U64).toArray, .agg ((b).map U64).toArray] (.agg ((ui a b).map U64).toArray) := by
 refine aN Tryz.func181 fun w hw hGF => ?_
 by_cases h0 : (SS a b 6).2 = 1
 ·skip
  refine xp ?_
  refine lb fun b2 => ?_
  refine lb fun b3 => ?_
  refine la zv40 fun b4 => ?_
  refine aa ?_
  refine xp ?_
  refine bz 0 rfl Tryz.underlying40 rfl Tryz.sizeOf38 (by decide) rfl rfl rfl ?_
  refine aq 2 rfl rfl Tryz.isAgg38 Tryz.sizeOf38 (by rw [List.length_map, ha]) rfl rfl ?_
  refine bz 0 rfl Tryz.underlying40 rfl Tryz.sizeOf38 (by decide) rfl rfl rfl ?_
  refine aq 3 rfl rfl Tryz.isAgg38 Tryz.sizeOf38 (by rw [List.length_map, hb]) rfl rfl ?_
  refine lc ent193 (dI _ _ ha hb) ?_
  refine rA6 ?_
  refine la zv38 fun b5 => ?_
  refine ai 5 hGF rfl rfl rfl Tryz.sizeOf38 (by rw [List.length_map, aC _ _ _]) (by rw [List.length_map, List.length_replicate]) (ak _) rfl ?_
  refine rA6 ?_
  refine am ?_
  refine pA6 ?_
  refine ab (v := .bool true) rfl rfl (fun _ => rfl) (fun w => (bx _ _ _).trans (congrArg (fun b => Result.ok (Value.bool b) w) (beq_iff_eq.2 h0))) rfl rfl ?_
  refine aa ?_
  refine bL rfl ?_
  refine cu (E := EE []) a5 (by kernel_rfl) (by kernel_rfl) (by kernel_rfl) ?_
  refine aq 5 rfl rfl Tryz.isAgg38 Tryz.sizeOf38 (by rw [List.length_map, aC _ _ _]) rfl rfl ?_
  refine rA6 ?_
  refine aE rfl rfl ent198 (gO _ _ (aC _ _ _) fH) rfl rfl ?_
  refine rA6 ?_
  refine ai 5 hGF rfl rfl rfl Tryz.sizeOf38 (by rw [List.length_map, aI _ _ _]) (by rw [List.length_map, aC _ _ _]) (ak _) rfl ?_
  refine aa ?_
  refine xp ?_
  refine aq 5 rfl rfl Tryz.isAgg38 Tryz.sizeOf38 (by rw [List.length_map, aI _ _ _]) rfl rfl ?_
  refine bZ rfl (aI _ _ _) Tryz.underlying40 rfl Tryz.sizeOf38 zv40 rfl rfl ?_
  refine ai 4 hGF rfl rfl rfl Tryz.sizeOf40 (by rw [List.length_map, aI _ _ _]) (by rw [List.length_map, List.length_replicate]) (ak _) rfl ?_
  refine aa ?_
  refine rt ?_
  exact av 4 rfl rfl rfl Tryz.isAgg40 Tryz.sizeOf40 (by rw [List.length_map]; exact aI _ _ _) (fun w hw => ⟨by rw [ui, if_pos h0], ah hw⟩)
 ·skip
  refine xp ?_
  refine lb fun b2 => ?_
  refine lb fun b3 => ?_
  refine la zv40 fun b4 => ?_
  refine aa ?_
  refine xp ?_
  refine bz 0 rfl Tryz.underlying40 rfl Tryz.sizeOf38 (by decide) rfl rfl rfl ?_
  refine aq 2 rfl rfl Tryz.isAgg38 Tryz.sizeOf38 (by rw [List.length_map, ha]) rfl rfl ?_
  refine bz 0 rfl Tryz.underlying40 rfl Tryz.sizeOf38 (by decide) rfl rfl rfl ?_
  refine aq 3 rfl rfl Tryz.isAgg38 Tryz.sizeOf38 (by rw [List.length_map, hb]) rfl rfl ?_
  refine lc ent193 (dI _ _ ha hb) ?_
  refine rA6 ?_
  refine la zv38 fun b5 => ?_
  refine ai 5 hGF rfl rfl rfl Tryz.sizeOf38 (by rw [List.length_map, aC _ _ _]) (by rw [List.length_map, List.length_replicate]) (ak _) rfl ?_
  refine rA6 ?_
  refine am ?_
  refine pA6 ?_
  refine ab (v := .bool false) rfl rfl (fun _ => rfl) (fun w => (bx _ _ _).trans (congrArg (fun b => Result.ok (Value.bool b) w) (beq_eq_false_iff_ne.2 h0))) rfl rfl ?_
  refine aa ?_
  refine ba rfl ?_
  refine aB ?_
  refine xp ?_
  refine aq 5 rfl rfl Tryz.isAgg38 Tryz.sizeOf38 (by rw [List.length_map, aC _ _ _]) rfl rfl ?_
  refine bZ rfl (aC _ _ _) Tryz.underlying40 rfl Tryz.sizeOf38 zv40 rfl rfl ?_
  refine ai 4 hGF rfl rfl rfl Tryz.sizeOf40 (by rw [List.length_map, aC _ _ _]) (by rw [List.length_map, List.length_replicate]) (ak _) rfl ?_
  refine aa ?_
  refine rt ?_
  exact av 4 rfl rfl rfl Tryz.isAgg40 Tryz.sizeOf40 (by rw [List.length_map]; exact aC _ _ _) (fun w hw => ⟨by rw [ui, if_neg h0], ah hw⟩)
theorem tO (a : List (BitVec 64)) (ha : a.length = 6) : Pure Tryz.prog Gt 183 [.agg ((a).map U64).toArray] (.agg ((ue a).map U64).toArray) := by
 refine aN Tryz.func183 fun w hw hGF => ?_
 by_cases h0 : a = List.replicate 6 0
 ·skip
  refine xp ?_
  refine lb fun b1 => ?_
  refine la zv40 fun b2 => ?_
  refine aa ?_
  refine am ?_
  refine xp ?_
  refine aq 1 rfl rfl Tryz.isAgg40 Tryz.sizeOf40 (by rw [List.length_map, ha]) rfl rfl ?_
  refine aE (v := .bool true) rfl rfl ent180 (decide_eq_true h0 ▸ fG a ha) rfl rfl ?_
  refine aa ?_
  refine bL rfl ?_
  refine xp ?_
  refine aq 1 rfl rfl Tryz.isAgg40 Tryz.sizeOf40 (by rw [List.length_map, ha]) rfl rfl ?_
  refine ai 2 hGF rfl rfl rfl Tryz.sizeOf40 (by rw [List.length_map, ha]) (by rw [List.length_map, List.length_replicate]) (ak _) rfl ?_
  refine aa ?_
  refine rt ?_
  exact av 2 rfl rfl rfl Tryz.isAgg40 Tryz.sizeOf40 (by rw [List.length_map]; exact ha) (fun w hw => ⟨by rw [ue, if_pos h0], ah hw⟩)
 ·skip
  refine xp ?_
  refine lb fun b1 => ?_
  refine la zv40 fun b2 => ?_
  refine aa ?_
  refine am ?_
  refine xp ?_
  refine aq 1 rfl rfl Tryz.isAgg40 Tryz.sizeOf40 (by rw [List.length_map, ha]) rfl rfl ?_
  refine aE (v := .bool false) rfl rfl ent180 (decide_eq_false h0 ▸ fG a ha) rfl rfl ?_
  refine aa ?_
  refine ba rfl ?_
  refine aB ?_
  refine bC (E := EE [2999999]) [0, 1, 2, 3, 4, 5, 6] [⟨7, 3, 38, (List.replicate 6 0#64).map U64⟩] [8, 9] a5 rfl (by kernel_rfl) (by kernel_rfl) (by kernel_rfl) (by kernel_rfl) (by kernel_rfl) (by kernel_rfl) (by decide) (by intro x hx; simp only [List.mem_cons, List.not_mem_nil, or_false] at hx; subst hx; exact bc rfl zv38 rfl) ?_
  refine rA6 ?_
  refine bz 0 rfl Tryz.underlying40 rfl Tryz.sizeOf38 (by decide) rfl rfl rfl ?_
  refine aq 1 rfl rfl Tryz.isAgg38 Tryz.sizeOf38 (by rw [List.length_map, ha]) rfl rfl ?_
  refine lc ent193 (dI _ _ fH ha) ?_
  refine rA6 ?_
  refine ⟨_, _, rfl, hGF, by intro x hx; simp only [List.mem_cons, List.not_mem_nil, or_false] at hx; subst hx; rfl, by intro x hx; simp only [List.mem_cons, List.not_mem_nil, or_false] at hx; subst hx; rfl, fun adr => ?_⟩
  refine ai 3 hGF rfl rfl rfl Tryz.sizeOf38 (by rw [List.length_map, aC _ _ _]) (by rw [List.length_map, List.length_replicate]) (ak _) rfl ?_
  refine rA6 ?_
  refine xp ?_
  refine aq 3 rfl rfl Tryz.isAgg38 Tryz.sizeOf38 (by rw [List.length_map, aC _ _ _]) rfl rfl ?_
  refine bZ rfl (aC _ _ _) Tryz.underlying40 rfl Tryz.sizeOf38 zv40 rfl rfl ?_
  refine ai 2 hGF rfl rfl rfl Tryz.sizeOf40 (by rw [List.length_map, aC _ _ _]) (by rw [List.length_map, List.length_replicate]) (ak _) rfl ?_
  refine aa ?_
  refine rt ?_
  exact av 2 rfl rfl rfl Tryz.isAgg40 Tryz.sizeOf40 (by rw [List.length_map]; exact aC _ _ _) (fun w hw => ⟨by rw [ue, if_neg h0], ah hw⟩)
theorem qu (a b : List (BitVec 64)) (ha : a.length = 6) (hb : b.length = 6) : Pure Tryz.prog Gt 182 [.agg ((a).map U64).toArray, .agg ((b).map U64).toArray] (.agg ((tQ a b).map U64).toArray) := by
 refine aN Tryz.func182 fun w hw hGF => ?_
 by_cases h1 : 1873798617647539866#64 ≤ (AS a b 6).1.getD 5 0
 ·by_cases h0 : (SS (AS a b 6).1 PL 6).2 = 0
  ·skip
   refine xp ?_
   refine lb fun b2 => ?_
   refine lb fun b3 => ?_
   refine la zv40 fun b4 => ?_
   refine aa ?_
   refine xp ?_
   refine bz 0 rfl Tryz.underlying40 rfl Tryz.sizeOf38 (by decide) rfl rfl rfl ?_
   refine aq 2 rfl rfl Tryz.isAgg38 Tryz.sizeOf38 (by rw [List.length_map, ha]) rfl rfl ?_
   refine bz 0 rfl Tryz.underlying40 rfl Tryz.sizeOf38 (by decide) rfl rfl rfl ?_
   refine aq 3 rfl rfl Tryz.isAgg38 Tryz.sizeOf38 (by rw [List.length_map, hb]) rfl rfl ?_
   refine lc ent198 (gO _ _ ha hb) ?_
   refine rA6 ?_
   refine la zv38 fun b5 => ?_
   refine ai 5 hGF rfl rfl rfl Tryz.sizeOf38 (by rw [List.length_map, aI _ _ _]) (by rw [List.length_map, List.length_replicate]) (ak _) rfl ?_
   refine rA6 ?_
   refine am ?_
   refine xp ?_
   refine aO (5) rfl rfl Tryz.underlying38 Tryz.sizeOf24 (by omega) (by omega) rfl rfl ?_
   refine aJ 5 U64 0 rfl rfl Tryz.isAgg24 (by rw [aI _ _ _]; omega) rfl rfl ?_
   refine ab (v := .bool true) rfl rfl (fun _ => rfl) (fun w => (dH _ _ 1873798617647539866#64).trans (congrArg (fun b => Result.ok (Value.bool b) w) (decide_eq_true h1))) rfl rfl ?_
   refine aa ?_
   refine bL rfl ?_
   refine bC (E := EE [2999999]) [0, 1, 2, 3, 4, 5] [⟨6, 7, 38, (List.replicate 6 0#64).map U64⟩] [7, 8] a5 rfl (by kernel_rfl) (by kernel_rfl) (by kernel_rfl) (by kernel_rfl) (by kernel_rfl) (by kernel_rfl) (by decide) (by intro x hx; simp only [List.mem_cons, List.not_mem_nil, or_false] at hx; subst hx; exact bc rfl zv38 rfl) ?_
   refine aq 5 rfl rfl Tryz.isAgg38 Tryz.sizeOf38 (by rw [List.length_map, aI _ _ _]) rfl rfl ?_
   refine rA6 ?_
   refine aE rfl rfl ent193 (dI _ _ (aI _ _ _) fH) rfl rfl ?_
   refine rA6 ?_
   refine ⟨_, _, rfl, hGF, by intro x hx; simp only [List.mem_cons, List.not_mem_nil, or_false] at hx; subst hx; rfl, by intro x hx; simp only [List.mem_cons, List.not_mem_nil, or_false] at hx; subst hx; rfl, fun adr => ?_⟩
   refine ai 7 hGF rfl rfl rfl Tryz.sizeOf38 (by rw [List.length_map, aC _ _ _]) (by rw [List.length_map, List.length_replicate]) (ak _) rfl ?_
   refine rA6 ?_
   refine pA6 ?_
   refine ab (v := .bool true) rfl rfl (fun _ => rfl) (fun w => (bx _ _ _).trans (congrArg (fun b => Result.ok (Value.bool b) w) (beq_iff_eq.2 h0))) rfl rfl ?_
   refine aa ?_
   refine bL rfl ?_
   refine au (E := EE []) ?_
   refine aq 7 rfl rfl Tryz.isAgg38 Tryz.sizeOf38 (by rw [List.length_map, aC _ _ _]) rfl rfl ?_
   refine ai 5 hGF rfl rfl rfl Tryz.sizeOf38 (by rw [List.length_map, aC _ _ _]) (by rw [List.length_map, aI _ _ _]) (ak _) rfl ?_
   refine aa ?_
   refine xp ?_
   refine aq 5 rfl rfl Tryz.isAgg38 Tryz.sizeOf38 (by rw [List.length_map, aC _ _ _]) rfl rfl ?_
   refine bZ rfl (aC _ _ _) Tryz.underlying40 rfl Tryz.sizeOf38 zv40 rfl rfl ?_
   refine ai 4 hGF rfl rfl rfl Tryz.sizeOf40 (by rw [List.length_map, aC _ _ _]) (by rw [List.length_map, List.length_replicate]) (ak _) rfl ?_
   refine aa ?_
   refine rt ?_
   exact av 4 rfl rfl rfl Tryz.isAgg40 Tryz.sizeOf40 (by rw [List.length_map]; exact aC _ _ _) (fun w hw => ⟨by rw [tQ, if_pos ⟨h1, h0⟩], ah hw⟩)
  ·skip
   refine xp ?_
   refine lb fun b2 => ?_
   refine lb fun b3 => ?_
   refine la zv40 fun b4 => ?_
   refine aa ?_
   refine xp ?_
   refine bz 0 rfl Tryz.underlying40 rfl Tryz.sizeOf38 (by decide) rfl rfl rfl ?_
   refine aq 2 rfl rfl Tryz.isAgg38 Tryz.sizeOf38 (by rw [List.length_map, ha]) rfl rfl ?_
   refine bz 0 rfl Tryz.underlying40 rfl Tryz.sizeOf38 (by decide) rfl rfl rfl ?_
   refine aq 3 rfl rfl Tryz.isAgg38 Tryz.sizeOf38 (by rw [List.length_map, hb]) rfl rfl ?_
   refine lc ent198 (gO _ _ ha hb) ?_
   refine rA6 ?_
   refine la zv38 fun b5 => ?_
   refine ai 5 hGF rfl rfl rfl Tryz.sizeOf38 (by rw [List.length_map, aI _ _ _]) (by rw [List.length_map, List.length_replicate]) (ak _) rfl ?_
   refine rA6 ?_
   refine am ?_
   refine xp ?_
   refine aO (5) rfl rfl Tryz.underlying38 Tryz.sizeOf24 (by omega) (by omega) rfl rfl ?_
   refine aJ 5 U64 0 rfl rfl Tryz.isAgg24 (by rw [aI _ _ _]; omega) rfl rfl ?_
   refine ab (v := .bool true) rfl rfl (fun _ => rfl) (fun w => (dH _ _ 1873798617647539866#64).trans (congrArg (fun b => Result.ok (Value.bool b) w) (decide_eq_true h1))) rfl rfl ?_
   refine aa ?_
   refine bL rfl ?_
   refine bC (E := EE [2999999]) [0, 1, 2, 3, 4, 5] [⟨6, 7, 38, (List.replicate 6 0#64).map U64⟩] [7, 8] a5 rfl (by kernel_rfl) (by kernel_rfl) (by kernel_rfl) (by kernel_rfl) (by kernel_rfl) (by kernel_rfl) (by decide) (by intro x hx; simp only [List.mem_cons, List.not_mem_nil, or_false] at hx; subst hx; exact bc rfl zv38 rfl) ?_
   refine aq 5 rfl rfl Tryz.isAgg38 Tryz.sizeOf38 (by rw [List.length_map, aI _ _ _]) rfl rfl ?_
   refine rA6 ?_
   refine aE rfl rfl ent193 (dI _ _ (aI _ _ _) fH) rfl rfl ?_
   refine rA6 ?_
   refine ⟨_, _, rfl, hGF, by intro x hx; simp only [List.mem_cons, List.not_mem_nil, or_false] at hx; subst hx; rfl, by intro x hx; simp only [List.mem_cons, List.not_mem_nil, or_false] at hx; subst hx; rfl, fun adr => ?_⟩
   refine ai 7 hGF rfl rfl rfl Tryz.sizeOf38 (by rw [List.length_map, aC _ _ _]) (by rw [List.length_map, List.length_replicate]) (ak _) rfl ?_
   refine rA6 ?_
   refine pA6 ?_
   refine ab (v := .bool false) rfl rfl (fun _ => rfl) (fun w => (bx _ _ _).trans (congrArg (fun b => Result.ok (Value.bool b) w) (beq_eq_false_iff_ne.2 h0))) rfl rfl ?_
   refine aa ?_
   refine ba rfl ?_
   refine aB ?_
   refine xp ?_
   refine aq 5 rfl rfl Tryz.isAgg38 Tryz.sizeOf38 (by rw [List.length_map, aI _ _ _]) rfl rfl ?_
   refine bZ rfl (aI _ _ _) Tryz.underlying40 rfl Tryz.sizeOf38 zv40 rfl rfl ?_
   refine ai 4 hGF rfl rfl rfl Tryz.sizeOf40 (by rw [List.length_map, aI _ _ _]) (by rw [List.length_map, List.length_replicate]) (ak _) rfl ?_
   refine aa ?_
   refine rt ?_
   exact av 4 rfl rfl rfl Tryz.isAgg40 Tryz.sizeOf40 (by rw [List.length_map]; exact aI _ _ _) (fun w hw => ⟨by rw [tQ, if_neg (fun h => h0 h.2)], ah hw⟩)
 ·skip
  refine xp ?_
  refine lb fun b2 => ?_
  refine lb fun b3 => ?_
  refine la zv40 fun b4 => ?_
  refine aa ?_
  refine xp ?_
  refine bz 0 rfl Tryz.underlying40 rfl Tryz.sizeOf38 (by decide) rfl rfl rfl ?_
  refine aq 2 rfl rfl Tryz.isAgg38 Tryz.sizeOf38 (by rw [List.length_map, ha]) rfl rfl ?_
  refine bz 0 rfl Tryz.underlying40 rfl Tryz.sizeOf38 (by decide) rfl rfl rfl ?_
  refine aq 3 rfl rfl Tryz.isAgg38 Tryz.sizeOf38 (by rw [List.length_map, hb]) rfl rfl ?_
  refine lc ent198 (gO _ _ ha hb) ?_
  refine rA6 ?_
  refine la zv38 fun b5 => ?_
  refine ai 5 hGF rfl rfl rfl Tryz.sizeOf38 (by rw [List.length_map, aI _ _ _]) (by rw [List.length_map, List.length_replicate]) (ak _) rfl ?_
  refine rA6 ?_
  refine am ?_
  refine xp ?_
  refine aO (5) rfl rfl Tryz.underlying38 Tryz.sizeOf24 (by omega) (by omega) rfl rfl ?_
  refine aJ 5 U64 0 rfl rfl Tryz.isAgg24 (by rw [aI _ _ _]; omega) rfl rfl ?_
  refine ab (v := .bool false) rfl rfl (fun _ => rfl) (fun w => (dH _ _ 1873798617647539866#64).trans (congrArg (fun b => Result.ok (Value.bool b) w) (decide_eq_false h1))) rfl rfl ?_
  refine aa ?_
  refine ba rfl ?_
  refine aB ?_
  refine xp ?_
  refine aq 5 rfl rfl Tryz.isAgg38 Tryz.sizeOf38 (by rw [List.length_map, aI _ _ _]) rfl rfl ?_
  refine bZ rfl (aI _ _ _) Tryz.underlying40 rfl Tryz.sizeOf38 zv40 rfl rfl ?_
  refine ai 4 hGF rfl rfl rfl Tryz.sizeOf40 (by rw [List.length_map, aI _ _ _]) (by rw [List.length_map, List.length_replicate]) (ak _) rfl ?_
  refine aa ?_
  refine rt ?_
  exact av 4 rfl rfl rfl Tryz.isAgg40 Tryz.sizeOf40 (by rw [List.length_map]; exact aI _ _ _) (fun w hw => ⟨by rw [tQ, if_neg (fun h => h1 h.1)], ah hw⟩)
end
section
open Go.RowKit
theorem rA7 {Q P : Prop} (k : Q) (h : Q → P := by intro k; (refine LY.run ?_); (repeat (first | refine bH rfl rfl rfl ?_ | refine bd rfl rfl rfl ?_)); (first | refine bY ?_ | refine LY.mk ?_); exact k) : P := h k
theorem pA7 {Q P : Prop} (k : Q) (h : Q → P := by intro k; (refine xp ?_); (refine rA7 ?_); exact k) : P := h k
theorem ent200 : ae Tryz.prog 200 := fun _ _ => by kernel_rfl
def cK (bs : List (BitVec 8)) (i : Nat) : BitVec 8 := (bs.getD (i / 8) 0 >>> (7 - i % 8)) &&& 1#8
def RP (a : List (BitVec 64)) (bs : List (BitVec 8)) : Nat → List (BitVec 64)
 | 0 => ONE
 | i + 1 => if cK bs i = 1#8 then RM (RM (RP a bs i) (RP a bs i)) a else RM (RP a bs i) (RP a bs i)
theorem fl (a : List (BitVec 64)) (bs : List (BitVec 8)) : ∀ i, (RP a bs i).length = 6
 | 0 => rfl
 | i + 1 => by
  unfold RP; split
  ·exact a6 _ _
  ·exact a6 _ _
theorem EU (a : List (BitVec 64)) (bs : List (BitVec 8)) (i : Nat) (h : cK bs i = 1#8) : RP a bs (i + 1) = RM (RM (RP a bs i) (RP a bs i)) a := by rw [RP, if_pos h]
theorem D3 (a : List (BitVec 64)) (bs : List (BitVec 8)) (i : Nat) (h : ¬ cK bs i = 1#8) : RP a bs (i + 1) = RM (RP a bs i) (RP a bs i) := by rw [RP, if_neg h]
theorem qa (a : List (BitVec 64)) (ha : a.length = 6) (e : Option Addr) (cap : Nat) (bs : List (BitVec 8)) (hlen : bs.length ≤ 4096) (w : World) (hw : Gt w) (hby : BytesAt w e bs) :
  Calls Tryz.prog 200 [.agg ((a).map U64).toArray, .slice e bs.length cap].toArray w (fun r w' => r = .returned (.agg ((RP a bs (8 * bs.length)).map U64).toArray) ∧ Grow w w') := by
 have hGF : BOk Gt (pl w) := gt_low.plain hw
 refine aF (G := Gt) Tryz.func200 rfl rfl (Hp (pl w) []) (aP (pl w) trivial ap) (aw hGF) ?_
 refine xp ?_
 refine lb fun b2 => ?_
 refine la zv40 fun b4 => ?_
 refine aa ?_
 refine xp ?_
 refine lc ent204 (te) ?_
 refine bZ rfl (nr) Tryz.underlying40 rfl Tryz.sizeOf38 zv40 rfl rfl ?_
 refine la zv40 fun b5 => ?_
 refine ai 5 hGF rfl rfl rfl Tryz.sizeOf40 (by rw [List.length_map, nr]) (by rw [List.length_map, List.length_replicate]) (ak _) rfl ?_
 refine aa ?_
 refine am ?_
 refine pA7 ?_
 refine ao ?_
 refine bO (ι := { i : Nat // i ≤ 8 * bs.length }) (fun x => [(1, .slice e bs.length cap), (2, .pointer (some ⟨b2, 0, none⟩)), (4, .pointer (some ⟨b4, 0, none⟩)), (5, .pointer (some ⟨b5, 0, none⟩)), (6, I (x.1 : Int))]) (fun x => [(2, b2, a.map U64, 40), (4, b4, (List.replicate 6 0#64).map U64, 40), (5, b5, (RP a bs x.1).map U64, 40)]) (fun x => 8 * bs.length - x.1) ⟨0, by omega⟩ hGF ⟨rfl, rfl, rfl, rfl, rfl, trivial⟩ ⟨rfl, rfl, rfl, trivial⟩ ?_
 rintro ⟨i, hi⟩
 dsimp only
 refine am ?_
 refine pA7 ?_
 refine bI rfl (fun _ => aY Tryz.underlying22 _ _ _ _) rfl rfl ?_
 refine ab (v := I ((8 * bs.length : Nat) : Int)) rfl rfl (fun _ => rfl) (fun _ => (dk _ _ _ (by unfold inI; omega)).trans (by rw [show (8 : Int) * (bs.length : Int) = ((8 * bs.length : Nat) : Int) by omega])) rfl rfl ?_
 refine ab rfl rfl (fun _ => rfl) (fun _ => aH _ _ _) rfl rfl ?_
 refine aa ?_
 refine bF rfl (fun hc => ?_) (fun hc => ?_)
 ·simp only [decide_eq_true_eq] at hc
  refine aB ?_
  refine am ?_
  refine ao ?_
  refine xp ?_
  refine aq 5 rfl rfl Tryz.isAgg40 Tryz.sizeOf40 (by rw [List.length_map, fl]) rfl rfl ?_
  refine aq 5 rfl rfl Tryz.isAgg40 Tryz.sizeOf40 (by rw [List.length_map, fl]) rfl rfl ?_
  refine aE rfl rfl ent179 (iZ _ _ (fl _ _ _) (fl _ _ _)) rfl rfl ?_
  refine ai 5 hGF rfl rfl rfl Tryz.sizeOf40 (by rw [List.length_map, a6 _ _]) (by rw [List.length_map, fl]) (ak _) rfl ?_
  refine aa ?_
  refine pA7 ?_
  refine ab (v := I ((i / 8 : Nat) : Int)) rfl rfl (fun _ => rfl) (fun _ => eE _ _ _ (by decide) (show inI ((i / 8 : Nat) : Int) by unfold inI; omega)) rfl rfl ?_
  obtain ⟨ad, rfl, _⟩ := hby (i / 8) _ (gm U8 bs 0 (i / 8) (by omega))
  refine h7 (i / 8) rfl rfl Tryz.underlying22 Tryz.sizeOf5 rfl (by omega) rfl rfl ?_
  refine ck rfl Tryz.isAgg5 (fun w' h => by obtain ⟨ad', e, hc⟩ := (hby.grow (ah h)) (i / 8) _ (gm U8 bs 0 (i / 8) (by omega)); cases e; exact hc) rfl rfl ?_
  refine rA7 ?_
  refine ab (v := I ((i % 8 : Nat) : Int)) rfl rfl (fun _ => rfl) (fun _ => cx _ _ _ (by decide)) rfl rfl ?_
  refine ab (v := I ((7 - i % 8 : Nat) : Int)) rfl rfl (fun _ => rfl) (fun _ => (bk _ _ _ (by unfold inI; omega)).trans (by rw [show ((7 : Int) - ((i % 8 : Nat) : Int)) = ((7 - i % 8 : Nat) : Int) by omega])) rfl rfl ?_
  refine ab (v := U8 (bs.getD (i / 8) 0 >>> (7 - i % 8))) rfl rfl (fun _ => rfl) (fun _ => dq _ _ _ (by omega)) rfl rfl ?_
  refine ab (v := U8 (cK bs i)) rfl rfl (fun _ => rfl) (fun _ => dS _ _ 1#8) rfl rfl ?_
  refine ab (v := .bool (decide (cK bs i = 1#8))) rfl rfl (fun _ => rfl) (fun _ => (dY _ _ 1#8).trans rfl) rfl rfl ?_
  refine aa ?_
  refine bF rfl (fun hc => ?_) (fun hc => ?_)
  ·simp only [decide_eq_true_eq] at hc
   have hq := hc
   refine au (E := EE []) ?_
   refine aq 5 rfl rfl Tryz.isAgg40 Tryz.sizeOf40 (by rw [List.length_map, a6 _ _]) rfl rfl ?_
   refine aq 2 rfl rfl Tryz.isAgg40 Tryz.sizeOf40 (by rw [List.length_map, ha]) rfl rfl ?_
   refine aE rfl rfl ent179 (iZ _ _ (a6 _ _) ha) rfl rfl ?_
   refine ai 5 hGF rfl rfl rfl Tryz.sizeOf40 (by rw [List.length_map, a6 _ _]) (by rw [List.length_map, a6 _ _]) (ak _) rfl ?_
   refine aa ?_
   refine au (E := EE []) ?_
   refine rA7 ?_
   refine ab rfl rfl (fun _ => rfl) (fun _ => aA _ _ _ (by unfold inI; omega)) rfl rfl ?_
   refine rA7 ?_
   repeat (refine aL ?_)
   refine aZ ?_
   exact ⟨rfl, ⟨i + 1, by omega⟩, _, by show 8 * bs.length - (i + 1) < 8 * bs.length - i; omega, rfl, ⟨rfl, rfl, rfl, rfl, rfl, trivial⟩, ⟨rfl, rfl, by first | (rw [EU a bs i hq]; rfl) | (rw [D3 a bs i hq]; rfl), trivial⟩⟩
  ·simp only [decide_eq_false_iff_not] at hc
   have hq := hc
   refine aB ?_
   refine au (E := EE []) ?_
   refine rA7 ?_
   refine ab rfl rfl (fun _ => rfl) (fun _ => aA _ _ _ (by unfold inI; omega)) rfl rfl ?_
   refine rA7 ?_
   repeat (refine aL ?_)
   refine aZ ?_
   exact ⟨rfl, ⟨i + 1, by omega⟩, _, by show 8 * bs.length - (i + 1) < 8 * bs.length - i; omega, rfl, ⟨rfl, rfl, rfl, rfl, rfl, trivial⟩, ⟨rfl, rfl, by first | (rw [EU a bs i hq]; rfl) | (rw [D3 a bs i hq]; rfl), trivial⟩⟩
 ·obtain rfl : i = 8 * bs.length := by simp at hc; omega
  refine aV ?_
  refine xp ?_
  refine aq 5 rfl rfl Tryz.isAgg40 Tryz.sizeOf40 (by rw [List.length_map, fl]) rfl rfl ?_
  refine ai 4 hGF rfl rfl rfl Tryz.sizeOf40 (by rw [List.length_map, fl _ _ _]) (by rw [List.length_map, List.length_replicate]) (ak _) rfl ?_
  refine aa ?_
  refine rt ?_
  exact av 4 rfl rfl rfl Tryz.isAgg40 Tryz.sizeOf40 (by rw [List.length_map, fl]) (fun w hw => ⟨rfl, ah hw⟩)
end
section
open Go.RowKit
theorem rA8 {Q P : Prop} (k : Q) (h : Q → P := by intro k; (refine LY.run ?_); (repeat (first | refine bH rfl rfl rfl ?_ | refine bd rfl rfl rfl ?_ | refine ee rfl rfl rfl rfl ?_ | refine bw (f := 194) rfl rfl ent194 (jN) rfl rfl ?_)); (first | refine bY ?_ | refine LY.mk ?_); exact k) : P := h k
theorem pA8 {Q P : Prop} (k : Q) (h : Q → P := by intro k; (refine xp ?_); (refine rA8 ?_); exact k) : P := h k
theorem ent201 : ae Tryz.prog 201 := fun _ _ => by kernel_rfl
theorem D4 (n i : Nat) (hn : n ≤ 64) : decide (0#64 < BitVec.ofNat 64 (n - i)) = decide (i < n) := by
 refine decide_eq_decide.2 ?_
 rw [BitVec.lt_def]
 simp only [BitVec.toNat_ofNat]
 omega
theorem DX (n i : Nat) (_hn : n ≤ 64) (hi : i < n) : BitVec.ofNat 64 (n - i) - 1#64 = BitVec.ofNat 64 (n - (i + 1)) := by
 apply BitVec.eq_of_toNat_eq
 simp only [BitVec.toNat_sub, BitVec.toNat_ofNat]
 omega
def HLs (l : List (BitVec 64)) : Nat → List (BitVec 64)
 | 0 => l
 | k + 1 => if k < 5 then ((HLs l k).set k ((HLs l k).getD k 0 >>> 1)).set k (((HLs l k).set k ((HLs l k).getD k 0 >>> 1)).getD k 0 ||| ((HLs l k).set k ((HLs l k).getD k 0 >>> 1)).getD (k + 1) 0 <<< 63) else (HLs l k).set k ((HLs l k).getD k 0 >>> 1)
theorem BR (l : List (BitVec 64)) (k : Nat) (h : k < 5) : HLs l (k + 1) = ((HLs l k).set k ((HLs l k).getD k 0 >>> 1)).set k (((HLs l k).set k ((HLs l k).getD k 0 >>> 1)).getD k 0 ||| ((HLs l k).set k ((HLs l k).getD k 0 >>> 1)).getD (k + 1) 0 <<< 63) := by rw [HLs, if_pos h]
theorem AY (l : List (BitVec 64)) (k : Nat) (h : ¬ k < 5) : HLs l (k + 1) = (HLs l k).set k ((HLs l k).getD k 0 >>> 1) := by rw [HLs, if_neg h]
theorem e8 (l : List (BitVec 64)) : ∀ k, (HLs l k).length = l.length
 | 0 => rfl
 | k + 1 => by
  unfold HLs; split
  ·rw [List.length_set, List.length_set, e8 l k]
  ·rw [List.length_set, e8 l k]
def HN (l : List (BitVec 64)) : Nat → List (BitVec 64)
 | 0 => l
 | i + 1 => HLs (HN l i) 6
theorem f6 (l : List (BitVec 64)) : ∀ i, (HN l i).length = l.length
 | 0 => rfl
 | i + 1 => by rw [HN, e8, f6 l i]
theorem p8 (w : World) (hw : Gt w) : Calls Tryz.prog 201 [I (-2), U64 0#64].toArray w (fun e w' => ∃ b, e = .returned (.slice (some ⟨b, 0, none⟩) 48 48) ∧ Grow w w' ∧ w.heap.size ≤ b ∧ OwnB w' b ((BYs (HN (SS PL (2#64 :: List.replicate 5 0) 6).1 0) 48).map U8) 115) := by
 have hGF : BOk Gt (pl w) := gt_low.plain hw
 refine aF (G := Gt) Tryz.func201 rfl rfl (Hp (pl w) []) (aP (pl w) trivial ap) (aw hGF) ?_
 refine pA8 ?_
 refine pA8 ?_
 refine la zv38 fun b5 => ?_
 refine ai 5 hGF rfl rfl rfl Tryz.sizeOf38 (by rw [List.length_map, fH]) (by rw [List.length_map, List.length_replicate]) (ak _) rfl ?_
 refine aa ?_
 refine am ?_
 refine pA8 ?_
 refine ab (v := .bool true) rfl rfl (fun _ => rfl) (fun w => aH _ (-2) 0) rfl rfl ?_
 refine aa ?_
 refine bL rfl ?_
 refine au (E := EE []) ?_
 refine aq 5 rfl rfl Tryz.isAgg38 Tryz.sizeOf38 (by rw [List.length_map, fH]) rfl rfl ?_
 refine rA8 ?_
 refine bJ (v := I 2) rfl (fun _ => wB (-2) (by unfold inI; omega)) rfl rfl ?_
 refine fN (v := U64 2#64) rfl rfl (fun _ => (pR Tryz.underlying2 Tryz.underlying24 2).trans rfl) rfl rfl ?_
 refine gS 2#64 rfl Tryz.underlying38 Tryz.sizeOf24 zv38 rfl rfl ?_
 refine aE rfl rfl ent193 (dI PL (2#64 :: List.replicate 5 0) fH rfl) rfl rfl ?_
 refine rA8 ?_
 refine ai 5 hGF rfl rfl rfl Tryz.sizeOf38 (by rw [List.length_map, aC _ _ _]) (by rw [List.length_map, fH]) (ak _) rfl ?_
 refine aa ?_
 refine am ?_
 refine ao ?_
 refine bO (ι := { i : Nat // i ≤ 0 }) (fun x => [(4, .slice none 0 0), (5, .pointer (some ⟨b5, 0, none⟩)), (1, U64 (BitVec.ofNat 64 (0 - x.1)))]) (fun x => [(5, b5, (HN (SS PL (2#64 :: List.replicate 5 0) 6).1 x.1).map U64, 38)]) (fun x => 0 - x.1) ⟨0, by omega⟩ hGF ⟨rfl, rfl, rfl, trivial⟩ ⟨rfl, trivial⟩ ?_
 rintro ⟨i, hi⟩
 dsimp only
 refine am ?_
 refine pA8 ?_
 refine ab (v := .bool (decide (i < 0))) rfl rfl (fun _ => rfl) (fun w => (jB _ _ 0#64).trans (congrArg (fun b => Result.ok (Value.bool b) w) (D4 0 i (by decide)))) rfl rfl ?_
 refine aa ?_
 refine bF rfl (fun hc => ?_) (fun hc => ?_)
 ·simp only [decide_eq_true_eq] at hc
  refine aB ?_
  refine am ?_
  refine ao ?_
  refine pA8 ?_
  refine ao ?_
  refine bO (ι := { i : Nat // i ≤ 6 }) (fun x => [(4, .slice none 0 0), (5, .pointer (some ⟨b5, 0, none⟩)), (1, U64 (BitVec.ofNat 64 (0 - i))), (6, I (x.1 : Int))]) (fun x => [(5, b5, (HLs (HN (SS PL (2#64 :: List.replicate 5 0) 6).1 i) x.1).map U64, 38)]) (fun x => 6 - x.1) ⟨0, by omega⟩ hGF ⟨rfl, rfl, rfl, rfl, trivial⟩ ⟨rfl, trivial⟩ ?_
  rintro ⟨k, hk⟩
  dsimp only
  refine am ?_
  refine pA8 ?_
  refine ab rfl rfl (fun _ => rfl) (fun _ => aH _ _ _) rfl rfl ?_
  refine aa ?_
  refine bF rfl (fun hc => ?_) (fun hc => ?_)
  ·simp only [decide_eq_true_eq] at hc
   refine aB ?_
   refine am ?_
   refine ao ?_
   refine pA8 ?_
   refine aO (k) rfl rfl Tryz.underlying38 Tryz.sizeOf24 (by omega) (by omega) rfl rfl ?_
   refine aJ 5 U64 0 rfl rfl Tryz.isAgg24 (by rw [e8, f6, aC]; omega) rfl rfl ?_
   refine ab rfl rfl (fun _ => rfl) (fun _ => cC _ _ 1#64) rfl rfl ?_
   refine aO (k) rfl rfl Tryz.underlying38 Tryz.sizeOf24 (by omega) (by omega) rfl rfl ?_
   refine bR 5 U64 hGF rfl rfl rfl Tryz.sizeOf24 rfl (by rw [e8, f6, aC]; omega) rfl ?_
   refine aa ?_
   refine pA8 ?_
   refine ab rfl rfl (fun _ => rfl) (fun _ => aH _ _ _) rfl rfl ?_
   refine aa ?_
   refine bF rfl (fun hc => ?_) (fun hc => ?_)
   ·simp only [decide_eq_true_eq] at hc
    have hq : k < 5 := by omega
    refine cu (E := EE []) a5 (by kernel_rfl) (by kernel_rfl) (by kernel_rfl) ?_
    refine rA8 ?_
    refine aO (k) rfl rfl Tryz.underlying38 Tryz.sizeOf24 (by omega) (by omega) rfl rfl ?_
    refine aJ 5 U64 0 rfl rfl Tryz.isAgg24 (by rw [List.length_set, e8, f6, aC]; omega) rfl rfl ?_
    refine rA8 ?_
    refine ab rfl rfl (fun _ => rfl) (fun _ => aA _ _ _ (by unfold inI; omega)) rfl rfl ?_
    refine aO ((k + 1)) rfl rfl Tryz.underlying38 Tryz.sizeOf24 (by omega) (by omega) rfl rfl ?_
    refine aJ 5 U64 0 rfl rfl Tryz.isAgg24 (by rw [List.length_set, e8, f6, aC]; omega) rfl rfl ?_
    refine ab rfl rfl (fun _ => rfl) (fun _ => oO _ _ 63#64) rfl rfl ?_
    refine ab rfl rfl (fun _ => rfl) (fun _ => fV _ _ _) rfl rfl ?_
    refine aO (k) rfl rfl Tryz.underlying38 Tryz.sizeOf24 (by omega) (by omega) rfl rfl ?_
    refine bR 5 U64 hGF rfl rfl rfl Tryz.sizeOf24 rfl (by rw [List.length_set, e8, f6, aC]; omega) rfl ?_
    refine aa ?_
    refine au (E := EE []) ?_
    refine rA8 ?_
    refine ab rfl rfl (fun _ => rfl) (fun _ => aA _ _ _ (by unfold inI; omega)) rfl rfl ?_
    refine rA8 ?_
    repeat (refine aL ?_)
    refine aZ ?_
    exact ⟨rfl, ⟨k + 1, by omega⟩, _, by show 6 - (k + 1) < 6 - k; omega, rfl, ⟨rfl, rfl, rfl, rfl, trivial⟩, ⟨by first | (rw [BR _ k hq]; rfl) | (rw [AY _ k hq]; rfl), trivial⟩⟩
   ·simp only [decide_eq_false_iff_not] at hc
    have hq : ¬ k < 5 := by omega
    refine aB ?_
    refine au (E := EE []) ?_
    refine rA8 ?_
    refine ab rfl rfl (fun _ => rfl) (fun _ => aA _ _ _ (by unfold inI; omega)) rfl rfl ?_
    refine rA8 ?_
    repeat (refine aL ?_)
    refine aZ ?_
    exact ⟨rfl, ⟨k + 1, by omega⟩, _, by show 6 - (k + 1) < 6 - k; omega, rfl, ⟨rfl, rfl, rfl, rfl, trivial⟩, ⟨by first | (rw [BR _ k hq]; rfl) | (rw [AY _ k hq]; rfl), trivial⟩⟩
  ·obtain rfl : k = 6 := by simp at hc; omega
   refine aV ?_
   refine au (E := EE []) ?_
   refine rA8 ?_
   refine ab (v := U64 (BitVec.ofNat 64 (0 - (i + 1)))) rfl rfl (fun _ => rfl) (fun w => (jz _ _ 1#64).trans (congrArg (fun z => Result.ok (U64 z) w) (DX 0 i (by decide) (by omega)))) rfl rfl ?_
   refine rA8 ?_
   repeat (refine aL ?_)
   refine aZ ?_
   exact ⟨rfl, ⟨i + 1, by omega⟩, _, by show 0 - (i + 1) < 0 - i; omega, rfl, ⟨rfl, rfl, rfl, trivial⟩, ⟨rfl, trivial⟩⟩
 ·obtain rfl : i = 0 := by simp at hc; omega
  refine aV ?_
  refine xp ?_
  refine aq 5 rfl rfl Tryz.isAgg38 Tryz.sizeOf38 (by rw [List.length_map, f6, aC]) rfl rfl ?_
  refine aE rfl rfl ent97 (lR _ (by rw [f6, aC])) rfl rfl ?_
  refine la zv115 fun b7 => ?_
  refine ai 7 hGF rfl rfl rfl Tryz.sizeOf115 (by rw [List.length_map, aM _ _]) (by rw [List.length_map, List.length_replicate]) (g6 _) rfl ?_
  refine aa ?_
  refine xp ?_
  refine eH (l := 0) (h' := 48) rfl Tryz.underlying115 Tryz.sizeOf5 rfl rfl (by omega) (by omega) rfl rfl ?_
  refine rA8 ?_
  refine rt ?_
  exact bg rfl rfl (fun w hw => ⟨b7, rfl, ah hw, (hw.own 7 b7 _ _ rfl).2.elim id False.elim, (hw.own 7 b7 _ _ rfl).1⟩)
end
section
open Go.RowKit
theorem ent191 : ae Tryz.prog 191 := fun _ _ => by kernel_rfl
def EX2 : List (BitVec 8) := BYs (HN (SS PL (2#64 :: List.replicate 5 0) 6).1 0) 48
theorem yF : EX2.length = 48 := aM _ _
theorem CO (a : List (BitVec 64)) (ha : a.length = 6) (b : Nat) (t : TypeId) (bs : List (BitVec 8)) (h48 : bs.length = 48) (w : World) (hw : Gt w) (ho : OwnB w b (bs.map U8) t) :
  Calls Tryz.prog 200 [.agg ((a).map U64).toArray, .slice (some ⟨b, 0, none⟩) 48 48].toArray w (fun r w' => r = .returned (.agg ((RP a bs 384).map U64).toArray) ∧ Grow w w') := by
 have h := qa a ha (some ⟨b, 0, none⟩) 48 bs (by omega) w hw (BytesAt.range ho.range)
 rw [h48] at h
 exact h
theorem zO (b : Nat) (t : TypeId) (bs : List (BitVec 8)) (h48 : bs.length = 48) (w : World) (hw : Gt w) (ho : OwnB w b (bs.map U8) t) :
  Calls Tryz.prog 126 [.slice (some ⟨b, 0, none⟩) 48 48].toArray w (fun r w' => r = .returned (.tuple #[.agg ((FRs bs 48).map U64).toArray, .bool true]) ∧ Grow w w') := by
 have h := o5 (some ⟨b, 0, none⟩) 48 bs w hw (BytesAt.range ho.range)
 rw [h48, if_neg (by decide)] at h
 exact h
theorem tP (a : List (BitVec 64)) (ha : a.length = 6) : Pure Tryz.prog Gt 191 [.agg ((a).map U64).toArray] (.agg ((RP a EX2 384).map U64).toArray) := by
 refine aN Tryz.func191 fun w hw hGF => ?_
 refine ac (E := EE [201, 2000201]) ?_
 refine lb fun b1 => ?_
 refine la zv40 fun b2 => ?_
 refine aa ?_
 refine bj (E := EE [201, 2000201]) a5 (by kernel_rfl) (by kernel_rfl) (by kernel_rfl) ?_
 refine aq 1 rfl rfl Tryz.isAgg40 Tryz.sizeOf40 (by rw [List.length_map, ha]) rfl rfl ?_
 refine lg rfl rfl ent201 rfl rfl (fun w' hw' => (p8 w' (hGF.g _ _ _ hw')).mono fun e w'' h => ?_)
 obtain ⟨bm, rfl, hg, hb, hob⟩ := h
 refine ⟨_, _, rfl, aw hGF, hw'.news ap hg [(4, bm, EX2.map U8, 115)] ?_ dj, iJ ap rfl, ?_⟩
 ·intro n' b' c' t' hl
  rcases bp hl with ⟨_, e⟩ | ⟨_, hl⟩
  ·cases e; exact ⟨hb, hob⟩
  ·cases hl
 clear hw' hg hb hob
 refine bN rfl rfl ent200 (fun w' hw' hG => CO a ha bm _ EX2 yF w' hG (hw'.own 4 _ _ _ rfl).1) rfl rfl ?_
 refine ai 2 hGF rfl rfl rfl Tryz.sizeOf40 (by rw [List.length_map, fl _ _ _]) (by rw [List.length_map, List.length_replicate]) (ak _) rfl ?_
 refine aa ?_
 refine rt ?_
 exact av 2 rfl rfl rfl Tryz.isAgg40 Tryz.sizeOf40 (by rw [List.length_map, fl]) (fun w hw => ⟨rfl, ah hw⟩)
end
end Go.Proofs.YtpnpiblphnpfiaaGreatDoor
