/-
 The reference's elements of six parts.
 The reference's elements of six parts: products, inverses.
 The reference's elements of six parts: inverses; elements of fp6 as values.
 Elements of fp6 as values; what the laws of layer 6 share.
 The walks of package fp6.
-/
import Derived.Test.YthkmeodnlidpfaaGreatDoorXA
import Derived.Test.YthkmeodnlidpfaaGreatDoorXD
import Derived.Test.YthkmeodnlidpfaaGreatDoorX5
import Derived.Test.YthkmeodnlidpfaaGreatDoorX3
set_option maxRecDepth 100000
set_option maxHeartbeats 1000000
namespace Go.Proofs.YthkmeodnlidpfaaGreatDoor
section
open Go.RowKit
theorem ent72 : Enters Tryz.prog 72 := fun _ _ => by kernel_rfl
theorem ent75 : Enters Tryz.prog 75 := fun _ _ => by kernel_rfl
theorem ent78 : Enters Tryz.prog 78 := fun _ _ => by kernel_rfl
theorem ent131 : Enters Tryz.prog 131 := fun _ _ => by kernel_rfl
theorem ent47 : Enters Tryz.prog 47 := fun _ _ => by kernel_rfl
namespace Q6
attribute [local simp] fe_len nm_len AS_len SS_len MONT_len RM_len FRs_len BYs_len by48_len PLl TWOl ONEl N1l IVPl HFPl RTPl FL_len SP_len fe2_len SP2_len FM_len
def FF (f : Nat → W2) (i : Nat) : List (BitVec 64) := fe2 (f i)
abbrev TV (f : Nat → W2) : Value := .agg ((FM (FF f) 6).map U64).toArray
theorem FF_load (f : Nat → W2) (v : W2) (n k o : Nat) (hk : k < n) (ho : o = 12 * k) (hv : f k = v) : ∀ j u, ((fe v.1 ++ fe v.2).map U64)[j]? = some u → ((FM (FF f) n).map U64)[o + j]? = some u := by
 subst hv
 exact FM_load (FF f) n k hk (fe2_len _) o ho
theorem FF_step (f g : Nat → W2) (v : W2) (n k o : Nat) (hk : k < n) (ho : o = 12 * k) (hg : ∀ i, i < n → g i = if i = k then v else f i) : lay o ((fe v.1 ++ fe v.2).map U64) ((FM (FF f) n).map U64) = (FM (FF g) n).map U64 := by
 have h := FM_lay (FF f) n k (fe2 v) hk (fe2_len _) o ho
 refine h.trans (congrArg (List.map U64) (FM_congr fun i hi => ?_))
 show (if i = k then fe2 v else fe2 (f i)) = fe2 (g i)
 rw [hg i hi]
 split <;> rfl
theorem FF_congr {f g : Nat → W2} {n : Nat} (h : ∀ i, i < n → f i = g i) : FM (FF f) n = FM (FF g) n := FM_congr fun i hi => congrArg fe2 (h i hi)
theorem FF_len (f : Nat → W2) (n : Nat) : (FM (FF f) n).length = 12 * n := FM_len _ _
theorem upd_lt (A B : Nat → W2) (i j : Nat) : (if j < i + 1 then A j else B j) = if j = i then A i else (if j < i then A j else B j) := by
 by_cases h : j = i
 ·subst h; rw [if_pos (Nat.lt_succ_self _), if_pos rfl]
 ·rw [if_neg h]
  by_cases h' : j < i
  ·rw [if_pos h', if_pos (Nat.lt_succ_of_lt h')]
  ·rw [if_neg h', if_neg (fun e => h' (Nat.lt_of_le_of_ne (Nat.le_of_lt_succ e) h))]
theorem zero_row (n : Nat) : FM (FF fun _ => ze2) n = FM (fun _ => List.replicate 12 0#64) n := FM_congr fun i _ => by
 show fe2 ze2 = _
 rw [show fe2 ze2 = fe 0 ++ fe 0 from rfl, fe_0]; rfl
theorem zv48 (w : World) : (zeroValue 48).run Tryz.prog w = .ok (.agg ((FM (FF fun _ => ze2) 6).map U64).toArray) w := by
 rw [zero_row]; exact (Tryz.zeroValue48 w).trans (by rfl)
theorem rT {f g : Nat → W2} (h : ∀ i, i < 6 → f i = g i) : Ending.returned (TV f) = .returned (TV g) := congrArg (fun l => Ending.returned (.agg (List.map U64 l).toArray)) (FF_congr h)
theorem eqf48 : EqF Tryz.prog 48 (6 * 12) 5 := eqf_arrF (by decide) Tryz.underlying48 Tryz.isAgg46 Tryz.sizeOf46 eqf46
theorem eqg48 (op : BinOp) (x y : Operand) (xs ys : Array Value) (w : World) : (eqGuard op 48 x y (.agg xs) (.agg ys)).run Tryz.prog w = .ok () w := run_eqGuard_agg w op 48 x y xs ys (by kernel_rfl)
theorem eqv48 (xs ys : List (BitVec 64)) (h : xs.length = 72) (h' : ys.length = 72) (w : World) : (binOp .eql 48 (.agg (xs.map U64).toArray) (.agg (ys.map U64).toArray)).run Tryz.prog w = .ok (.bool (decide (xs = ys))) w := bin_eqf eqf48 (by decide) xs ys h h' w
attribute [local simp] FF_len
end Q6
end
section
open Go.RowKit
namespace Q6
attribute [local simp] fe_len nm_len AS_len SS_len MONT_len RM_len FRs_len BYs_len by48_len PLl TWOl ONEl N1l IVPl HFPl RTPl FL_len SP_len fe2_len SP2_len FM_len FF_len
theorem rJ6 {Q P : Prop} (k : Q) (h : Q → P := by intro k; (refine LY.run ?_); (repeat (first | refine y_move rfl rfl rfl ?_ | refine y_assign rfl rfl rfl ?_ | ((refine ra48 rfl rfl ?_ rfl rfl ?_); (· simp)) | ((refine sa48 hGF rfl rfl rfl ?_ ?_ (one_u64 _) rfl ?_); (· simp); (· simp)) | refine y_call (f := 54) rfl rfl ent54 (r5add _ _) rfl rfl ?_)); (first | refine y_nil ?_ | refine LY.mk ?_); exact k) : P := h k
theorem pJ6 {Q P : Prop} (k : Q) (h : Q → P := by intro k; (refine xp ?_); (refine rJ6 ?_); exact k) : P := h k
theorem zv150 (w : World) : (zeroValue 150).run Tryz.prog w = .ok (.agg ((FM (FF fun _ => ze2) 11).map U64).toArray) w := by
 rw [zero_row]; exact (Tryz.zeroValue150 w).trans (by rfl)
theorem LP_step (f g : Nat → W2) (i k m : Nat) (hk : k < 6) : LP f g (6 * i + k + 1) m = if m = i + k then ad2 (LP f g (6 * i + k) (i + k)) (ml2 (f i) (g k)) else LP f g (6 * i + k) m := by
 rw [LP, show (6 * i + k) / 6 = i by omega, show (6 * i + k) % 6 = k by omega]
 by_cases h : m = i + k
 ·rw [if_pos h.symm, if_pos h, h]
 ·rw [if_neg (fun e => h e.symm), if_neg h]
theorem LP_next (f g : Nat → W2) (i : Nat) : LP f g (6 * i + 6) = LP f g (6 * (i + 1)) := by rw [Nat.mul_add]
theorem TMf_lt (f g : Nat → W2) (i : Nat) (h : i < 5) : ad2 (LP f g 36 i) (xi2 (LP f g 36 (i + 6))) = TMf f g i := by rw [TMf, if_pos h]
theorem TM_upd (f g : Nat → W2) (i j : Nat) (v w : W2) (hv : v = TMf f g i) : (if j < i + 1 then TMf f g j else ze2) = if j = i then v else (if j = i then w else (if j < i then TMf f g j else ze2)) := by
 subst hv
 rw [upd_lt (TMf f g) (fun _ => ze2) i j]
 by_cases h : j = i
 ·rw [if_pos h, if_pos h]
 ·rw [if_neg h, if_neg h, if_neg h]
theorem TM_last (f g : Nat → W2) (i j : Nat) (h5 : ¬ i < 5) : (if j = i then LP f g 36 i else (if j < i then TMf f g j else ze2)) = if j < i + 1 then TMf f g j else ze2 := by
 rw [upd_lt (TMf f g) (fun _ => ze2) i j]
 by_cases h : j = i
 ·rw [if_pos h, if_pos h, TMf, if_neg h5]
 ·rw [if_neg h, if_neg h]
theorem t5mul (f g : Nat → W2) : Pure Tryz.prog Gt 72 [TV f, TV g] (TV (TMf f g)) := by
 refine pure_X Tryz.func72 fun w hw hGF => ?_
 refine xp ?_
 refine lb fun b2 => ?_
 refine lb fun b3 => ?_
 refine la zv48 fun b4 => ?_
 refine lx_nil ?_
 refine xp ?_
 refine la zv150 fun b5 => ?_
 refine lx_nil ?_
 refine x_seq ?_
 refine pJ6 ?_
 refine x_block ?_
 refine x_for (ι := { i : Nat // i ≤ 6 }) (fun y => [(2, .pointer (some ⟨b2, 0, none⟩)), (3, .pointer (some ⟨b3, 0, none⟩)), (4, .pointer (some ⟨b4, 0, none⟩)), (5, .pointer (some ⟨b5, 0, none⟩)), (6, I (y.1 : Int))]) (fun y => [(2, b2, (FM (FF f) 6).map U64, 48), (3, b3, (FM (FF g) 6).map U64, 48), (4, b4, (FM (FF fun _ => ze2) 6).map U64, 48), (5, b5, (FM (FF (LP f g (6 * y.1))) 11).map U64, 150)]) (fun y => 6 - y.1) ⟨0, by omega⟩ hGF ⟨rfl, rfl, rfl, rfl, rfl, trivial⟩ ⟨rfl, rfl, rfl, rfl, trivial⟩ ?_
 rintro ⟨i, hi⟩
 dsimp only
 refine x_seq ?_
 refine pJ6 ?_
 refine lx_bin rfl rfl (fun _ => rfl) (fun _ => bin_lss_i _ _ _) rfl rfl ?_
 refine lx_nil ?_
 refine x_if rfl (fun hc => ?_) (fun hc => ?_)
 ·simp only [decide_eq_true_eq] at hc
  refine x_skip ?_
  refine x_seq ?_
  refine x_block ?_
  refine pJ6 ?_
  refine x_block ?_
  refine x_for (ι := { i : Nat // i ≤ 6 }) (fun y => [(2, .pointer (some ⟨b2, 0, none⟩)), (3, .pointer (some ⟨b3, 0, none⟩)), (4, .pointer (some ⟨b4, 0, none⟩)), (5, .pointer (some ⟨b5, 0, none⟩)), (6, I (i : Int)), (7, I (y.1 : Int))]) (fun y => [(2, b2, (FM (FF f) 6).map U64, 48), (3, b3, (FM (FF g) 6).map U64, 48), (4, b4, (FM (FF fun _ => ze2) 6).map U64, 48), (5, b5, (FM (FF (LP f g (6 * i + y.1))) 11).map U64, 150)]) (fun y => 6 - y.1) ⟨0, by omega⟩ hGF ⟨rfl, rfl, rfl, rfl, rfl, rfl, trivial⟩ ⟨rfl, rfl, rfl, rfl, trivial⟩ ?_
  rintro ⟨k, hk⟩
  dsimp only
  refine x_seq ?_
  refine pJ6 ?_
  refine lx_bin rfl rfl (fun _ => rfl) (fun _ => bin_lss_i _ _ _) rfl rfl ?_
  refine lx_nil ?_
  refine x_if rfl (fun hc => ?_) (fun hc => ?_)
  ·simp only [decide_eq_true_eq] at hc
   refine x_skip ?_
   refine x_seq ?_
   refine x_block ?_
   refine x_drawn (E := EE []) mixed (by kernel_rfl) (by kernel_rfl) (by kernel_rfl) ?_
   refine rJ6 ?_
   refine lx_bin rfl rfl (fun _ => rfl) (fun _ => bin_add_i _ _ _ (by unfold inI; omega)) rfl rfl ?_
   refine rJ6 ?_
   refine lx_bin rfl rfl (fun _ => rfl) (fun _ => bin_add_i _ _ _ (by unfold inI; omega)) rfl rfl ?_
   refine lx_iak ((i + k)) (12 * ((i + k))) rfl rfl Tryz.underlying150 Tryz.sizeOf46 (by omega) (by omega) (by omega) rfl rfl ?_
   refine lx_loado 5 ((fe (LP f g (6 * i + k) ((i + k))).1 ++ fe (LP f g (6 * i + k) ((i + k))).2).map U64) rfl rfl Tryz.isAgg46 Tryz.sizeOf46 (by simp) (FF_load _ (LP f g (6 * i + k) ((i + k))) 11 ((i + k)) _ (by omega) rfl (rfl)) rfl rfl ?_
   refine rJ6 ?_
   refine lx_iak (i) (12 * (i)) rfl rfl Tryz.underlying48 Tryz.sizeOf46 (by omega) (by omega) (by omega) rfl rfl ?_
   refine lx_loado 2 ((fe (f i).1 ++ fe (f i).2).map U64) rfl rfl Tryz.isAgg46 Tryz.sizeOf46 (by simp) (FF_load _ (f i) 6 (i) _ (by omega) rfl (rfl)) rfl rfl ?_
   refine rJ6 ?_
   refine lx_iak (k) (12 * (k)) rfl rfl Tryz.underlying48 Tryz.sizeOf46 (by omega) (by omega) (by omega) rfl rfl ?_
   refine lx_loado 3 ((fe (g k).1 ++ fe (g k).2).map U64) rfl rfl Tryz.isAgg46 Tryz.sizeOf46 (by simp) (FF_load _ (g k) 6 (k) _ (by omega) rfl (rfl)) rfl rfl ?_
   refine lc ent51 (r5mul _ _) ?_
   refine rJ6 ?_
   refine lx_iak ((i + k)) (12 * ((i + k))) rfl rfl Tryz.underlying150 Tryz.sizeOf46 (by omega) (by omega) (by omega) rfl rfl ?_
   refine lx_storeo 5 ((FM (FF (LP f g (6 * i + k + 1))) 11).map U64) hGF rfl rfl rfl Tryz.sizeOf46 (by simp) (one_u64 _) (by simp; omega) (FF_step _ _ (ad2 (LP f g (6 * i + k) (i + k)) (ml2 (f i) (g k))) 11 ((i + k)) _ (by omega) rfl (fun m _ => LP_step f g i k m (by omega))) rfl ?_
   refine lx_nil ?_
   refine x_plain (E := EE []) ?_
   refine rJ6 ?_
   refine lx_bin rfl rfl (fun _ => rfl) (fun _ => bin_add_i _ _ _ (by unfold inI; omega)) rfl rfl ?_
   refine rJ6 ?_
   repeat (refine kblk_n ?_)
   refine kseq_n ?_
   exact ⟨rfl, ⟨k + 1, by omega⟩, _, by show 6 - (k + 1) < 6 - k; omega, rfl, ⟨rfl, rfl, rfl, rfl, rfl, rfl, trivial⟩, ⟨rfl, rfl, rfl, rfl, trivial⟩⟩
  ·obtain rfl : k = 6 := by simp at hc; omega
   refine x_exit ?_
   refine x_plain (E := EE []) ?_
   refine rJ6 ?_
   refine lx_bin rfl rfl (fun _ => rfl) (fun _ => bin_add_i _ _ _ (by unfold inI; omega)) rfl rfl ?_
   refine rJ6 ?_
   repeat (refine kblk_n ?_)
   refine kseq_n ?_
   exact ⟨rfl, ⟨i + 1, by omega⟩, _, by show 6 - (i + 1) < 6 - i; omega, rfl, ⟨rfl, rfl, rfl, rfl, rfl, trivial⟩, ⟨rfl, rfl, rfl, by rw [← LP_next]; rfl, trivial⟩⟩
 ·obtain rfl : i = 6 := by simp at hc; omega
  refine x_exit ?_
  refine xp ?_
  refine la zv48 fun b8 => ?_
  refine lx_nil ?_
  refine x_seq ?_
  refine pJ6 ?_
  refine x_block ?_
  refine x_for (ι := { i : Nat // i ≤ 6 }) (fun y => [(2, .pointer (some ⟨b2, 0, none⟩)), (3, .pointer (some ⟨b3, 0, none⟩)), (4, .pointer (some ⟨b4, 0, none⟩)), (5, .pointer (some ⟨b5, 0, none⟩)), (8, .pointer (some ⟨b8, 0, none⟩)), (9, I (y.1 : Int))]) (fun y => [(2, b2, (FM (FF f) 6).map U64, 48), (3, b3, (FM (FF g) 6).map U64, 48), (4, b4, (FM (FF fun _ => ze2) 6).map U64, 48), (5, b5, (FM (FF (LP f g (36))) 11).map U64, 150), (8, b8, (FM (FF (fun j => if j < y.1 then TMf f g j else ze2)) 6).map U64, 48)]) (fun y => 6 - y.1) ⟨0, by omega⟩ hGF ⟨rfl, rfl, rfl, rfl, rfl, rfl, trivial⟩ ⟨rfl, rfl, rfl, rfl, congrArg (fun l => some (b8, l, _)) (congrArg (List.map U64) (FF_congr fun j _ => (if_neg (Nat.not_lt_zero j)).symm)), trivial⟩ ?_
  rintro ⟨i, hi⟩
  dsimp only
  refine x_seq ?_
  refine pJ6 ?_
  refine lx_bin rfl rfl (fun _ => rfl) (fun _ => bin_lss_i _ _ _) rfl rfl ?_
  refine lx_nil ?_
  refine x_if rfl (fun hc => ?_) (fun hc => ?_)
  ·simp only [decide_eq_true_eq] at hc
   refine x_skip ?_
   refine x_seq ?_
   refine x_block ?_
   refine pJ6 ?_
   refine lx_iak (i) (12 * (i)) rfl rfl Tryz.underlying150 Tryz.sizeOf46 (by omega) (by omega) (by omega) rfl rfl ?_
   refine lx_loado 5 ((fe (LP f g 36 (i)).1 ++ fe (LP f g 36 (i)).2).map U64) rfl rfl Tryz.isAgg46 Tryz.sizeOf46 (by simp) (FF_load _ (LP f g 36 (i)) 11 (i) _ (by omega) rfl (rfl)) rfl rfl ?_
   refine lx_iak (i) (12 * (i)) rfl rfl Tryz.underlying48 Tryz.sizeOf46 (by omega) (by omega) (by omega) rfl rfl ?_
   refine lx_storeo 8 ((FM (FF (fun j => if j = i then LP f g 36 i else (if j < i then TMf f g j else ze2))) 6).map U64) hGF rfl rfl rfl Tryz.sizeOf46 (by simp) (one_u64 _) (by simp; omega) (FF_step _ _ (LP f g 36 i) 6 (i) _ (by omega) rfl (fun j _ => rfl)) rfl ?_
   refine lx_nil ?_
   refine pJ6 ?_
   refine lx_bin rfl rfl (fun _ => rfl) (fun _ => bin_lss_i _ _ _) rfl rfl ?_
   refine lx_nil ?_
   refine x_if rfl (fun hc => ?_) (fun hc => ?_)
   ·have h5 : i < 5 := by simp at hc; omega
    clear hc
    refine x_drawn (E := EE []) mixed (by kernel_rfl) (by kernel_rfl) (by kernel_rfl) ?_
    refine rJ6 ?_
    refine lx_iak (i) (12 * (i)) rfl rfl Tryz.underlying48 Tryz.sizeOf46 (by omega) (by omega) (by omega) rfl rfl ?_
    refine lx_loado 8 ((fe (LP f g 36 i).1 ++ fe (LP f g 36 i).2).map U64) rfl rfl Tryz.isAgg46 Tryz.sizeOf46 (by simp) (FF_load _ (LP f g 36 i) 6 (i) _ (by omega) rfl (if_pos rfl)) rfl rfl ?_
    refine rJ6 ?_
    refine lx_bin rfl rfl (fun _ => rfl) (fun _ => bin_add_i _ _ _ (by unfold inI; omega)) rfl rfl ?_
    refine lx_iak ((i + 6)) (12 * ((i + 6))) rfl rfl Tryz.underlying150 Tryz.sizeOf46 (by omega) (by omega) (by omega) rfl rfl ?_
    refine lx_loado 5 ((fe (LP f g 36 ((i + 6))).1 ++ fe (LP f g 36 ((i + 6))).2).map U64) rfl rfl Tryz.isAgg46 Tryz.sizeOf46 (by simp) (FF_load _ (LP f g 36 ((i + 6))) 11 ((i + 6)) _ (by omega) rfl (rfl)) rfl rfl ?_
    refine lc ent123 (r5xi _) ?_
    refine rJ6 ?_
    refine lx_iak (i) (12 * (i)) rfl rfl Tryz.underlying48 Tryz.sizeOf46 (by omega) (by omega) (by omega) rfl rfl ?_
    refine lx_storeo 8 ((FM (FF (fun j => if j < i + 1 then TMf f g j else ze2)) 6).map U64) hGF rfl rfl rfl Tryz.sizeOf46 (by simp) (one_u64 _) (by simp; omega) (FF_step _ _ (ad2 (LP f g 36 i) (xi2 (LP f g 36 (i + 6)))) 6 (i) _ (by omega) rfl (fun j _ => TM_upd f g i j _ (LP f g 36 i) (TMf_lt f g i h5))) rfl ?_
    refine lx_nil ?_
    refine x_plain (E := EE []) ?_
    refine rJ6 ?_
    refine lx_bin rfl rfl (fun _ => rfl) (fun _ => bin_add_i _ _ _ (by unfold inI; omega)) rfl rfl ?_
    refine rJ6 ?_
    repeat (refine kblk_n ?_)
    refine kseq_n ?_
    exact ⟨rfl, ⟨i + 1, by omega⟩, _, by show 6 - (i + 1) < 6 - i; omega, rfl, ⟨rfl, rfl, rfl, rfl, rfl, rfl, trivial⟩, ⟨rfl, rfl, rfl, rfl, rfl, trivial⟩⟩
   ·have h5 : ¬ i < 5 := by simp at hc; omega
    clear hc
    refine x_skip ?_
    refine x_plain (E := EE []) ?_
    refine rJ6 ?_
    refine lx_bin rfl rfl (fun _ => rfl) (fun _ => bin_add_i _ _ _ (by unfold inI; omega)) rfl rfl ?_
    refine rJ6 ?_
    repeat (refine kblk_n ?_)
    refine kseq_n ?_
    exact ⟨rfl, ⟨i + 1, by omega⟩, _, by show 6 - (i + 1) < 6 - i; omega, rfl, ⟨rfl, rfl, rfl, rfl, rfl, rfl, trivial⟩, ⟨rfl, rfl, rfl, rfl, congrArg (fun l => some (b8, l, _)) (congrArg (List.map U64) (FF_congr fun j _ => TM_last f g i j h5)), trivial⟩⟩
  ·obtain rfl : i = 6 := by simp at hc; omega
   refine x_exit ?_
   refine pJ6 ?_
   refine rt ?_
   exact kret_own 4 rfl rfl rfl Tryz.isAgg48 Tryz.sizeOf48 (by simp) (fun w hw => ⟨rT fun j hj => if_pos hj, hp_below hw⟩)
end Q6
end
section
open Go.RowKit
namespace Q6
attribute [local simp] fe_len nm_len AS_len SS_len MONT_len RM_len FRs_len BYs_len by48_len PLl TWOl ONEl N1l IVPl HFPl RTPl FL_len SP_len fe2_len SP2_len FM_len FF_len
theorem rJ7 {Q P : Prop} (k : Q) (h : Q → P := by intro k; (refine LY.run ?_); (repeat (first | refine y_move rfl rfl rfl ?_ | refine y_assign rfl rfl rfl ?_ | ((refine ra46 rfl rfl ?_ rfl rfl ?_); (· simp)) | ((refine ra48 rfl rfl ?_ rfl rfl ?_); (· simp)) | ((refine sa46 hGF rfl rfl rfl ?_ ?_ (one_u64 _) rfl ?_); (· simp); (· simp)) | ((refine sa48 hGF rfl rfl rfl ?_ ?_ (one_u64 _) rfl ?_); (· simp); (· simp)) | refine y_ext rfl rfl rfl rfl ?_ | refine y_call (f := 51) rfl rfl ent51 (r5mul _ _) rfl rfl ?_ | refine y_call (f := 123) rfl rfl ent123 (r5xi _) rfl rfl ?_ | refine y_call (f := 50) rfl rfl ent50 (r5sub _ _) rfl rfl ?_ | refine y_call (f := 54) rfl rfl ent54 (r5add _ _) rfl rfl ?_ | refine y_call (f := 72) rfl rfl ent72 (t5mul _ _) rfl rfl ?_)); (first | refine y_nil ?_ | refine LY.mk ?_); exact k) : P := h k
theorem pJ7 {Q P : Prop} (k : Q) (h : Q → P := by intro k; (refine xp ?_); (refine rJ7 ?_); exact k) : P := h k
theorem TC_upd (f : Nat → W2) (n j : Nat) : (if j < 2 * (n + 1) + 1 then tcj f j else f j) = if j = 2 * n + 1 then ng2 (f (2 * n + 1)) else (if j < 2 * n + 1 then tcj f j else f j) := by
 by_cases h : j = 2 * n + 1
 ·rw [if_pos h, if_pos (by omega), tcj, if_pos (by omega), h]
 ·rw [if_neg h]
  by_cases h' : j < 2 * n + 1
  ·rw [if_pos h', if_pos (by omega)]
  ·rw [if_neg h']
   by_cases h2 : j < 2 * (n + 1) + 1
   ·rw [if_pos h2, tcj, if_neg (by omega)]
   ·rw [if_neg h2]
theorem TC_0 (f : Nat → W2) (j : Nat) : f j = if j < 2 * 0 + 1 then tcj f j else f j := by
 by_cases h : j < 2 * 0 + 1
 ·rw [if_pos h, tcj, if_neg (by omega)]
 ·rw [if_neg h]
def ev3 (x y z : W2) (i : Nat) : W2 := if i = 4 then z else if i = 2 then y else if i = 0 then x else ze2
theorem setF_ev3 (x y z : W2) (n : Nat) : FM (setF [(0, fe x.1 ++ fe x.2), (2, fe y.1 ++ fe y.2), (4, fe z.1 ++ fe z.2)] (FF fun _ => ze2)) n = FM (FF (ev3 x y z)) n := FM_congr fun i _ => by
 show (if i = 4 then fe2 z else if i = 2 then fe2 y else if i = 0 then fe2 x else fe2 ze2) = fe2 (ev3 x y z i)
 unfold ev3
 split
 ·rfl
 ·split
  ·rfl
  ·split <;> rfl
section
variable {G : Cls} {ro : Option Nat} {ops : Array Oper} {N : Nat} {ds : List Deferred} {fs : List Nat} {Z : Fr → Cls → Prop} {F : Fr} {C : Cls} {rest : List Oper} {d : Nat} {ty : TypeId} {pos : String} {af : Array Edge} {gd : Option (Nat × Bool)}
theorem lx_ev3 (x y z : W2) {p q r : Operand} (hx : evF F p = some (EV2 x)) (hy : evF F q = some (EV2 y)) (hz : evF F r = some (EV2 z)) (hw : wantF ops F ⟨some d, .build 48 #[(0, p), (2, q), (4, r)], ty, pos, af, gd⟩ = some true) (hd : Nat.blt d N = true)
  (h : Lx Tryz.prog G ro ops N ds (EE fs) Z rest ((d, TV (ev3 x y z)) :: F) C) : Lx Tryz.prog G ro ops N ds (EE fs) Z (⟨some d, .build 48 #[(0, p), (2, q), (4, r)], ty, pos, af, gd⟩ :: rest) F C :=
 lx_row3 0 2 4 hx hy hz (by simp) (by simp) (by simp) (by decide) (by decide) (by decide) Tryz.underlying48 Tryz.sizeOf46 zv48 hw hd (by rw [setF_ev3]; exact h)
end
theorem tq_ev3 (x y z : W2) : tq (ev3 x y z) = ((x, y, z), K6.zero) := rfl
def TIf (f : Nat → W2) : Nat → W2 :=
 TMf (tcj f) (ev3 (iv6 (TMf f (tcj f) 0, TMf f (tcj f) 2, TMf f (tcj f) 4)).1 (iv6 (TMf f (tcj f) 0, TMf f (tcj f) 2, TMf f (tcj f) 4)).2.1 (iv6 (TMf f (tcj f) 0, TMf f (tcj f) 2, TMf f (tcj f) 4)).2.2)
theorem tq_inv (f : Nat → W2) : tq (TIf f) = iv12 (tq f) := by
 have e := tq_mul f (tcj f)
 have e1 : K12.mul (tq f) (tq (tcj f)) = (qnm K6 VV (tq f), K6.zero) := by rw [tq_cj]; exact qnm_cj K6 VV (tq f)
 rw [e1] at e
 have e2 : (TMf f (tcj f) 0, TMf f (tcj f) 2, TMf f (tcj f) 4) = qnm K6 VV (tq f) := congrArg Prod.fst e
 rw [TIf, tq_mul, tq_ev3, e2, tq_cj]
 rfl
theorem t5conj (f : Nat → W2) : Pure Tryz.prog Gt 75 [TV f] (TV (tcj f)) := by
 refine pure_X Tryz.func75 fun w hw hGF => ?_
 refine xp ?_
 refine lb fun b1 => ?_
 refine la zv48 fun b2 => ?_
 refine lx_nil ?_
 refine x_seq ?_
 refine pJ7 ?_
 refine x_block ?_
 refine x_for (ι := { i : Nat // i ≤ 3 }) (fun y => [(1, .pointer (some ⟨b1, 0, none⟩)), (2, .pointer (some ⟨b2, 0, none⟩)), (3, I ((2 * y.1 + 1 : Nat) : Int))]) (fun y => [(1, b1, (FM (FF (fun j => if j < 2 * y.1 + 1 then tcj f j else f j)) 6).map U64, 48), (2, b2, (FM (FF fun _ => ze2) 6).map U64, 48)]) (fun y => 3 - y.1) ⟨0, by omega⟩ hGF ⟨rfl, rfl, rfl, trivial⟩ ⟨congrArg (fun l => some (b1, l, _)) (congrArg (List.map U64) (FF_congr fun j _ => TC_0 f j)), rfl, trivial⟩ ?_
 rintro ⟨n, hn⟩
 dsimp only
 refine x_seq ?_
 refine pJ7 ?_
 refine lx_bin rfl rfl (fun _ => rfl) (fun _ => bin_lss_i _ _ _) rfl rfl ?_
 refine lx_nil ?_
 refine x_if rfl (fun hc => ?_) (fun hc => ?_)
 ·have hn2 : n < 3 := by simp at hc; omega
  refine x_skip ?_
  refine x_seq ?_
  refine x_block ?_
  refine x_plain (E := EE []) ?_
  refine rJ7 ?_
  refine lx_iak ((2 * n + 1)) (12 * ((2 * n + 1))) rfl rfl Tryz.underlying48 Tryz.sizeOf46 (by omega) (by omega) (by omega) rfl rfl ?_
  refine lx_loado 1 ((fe (f (2 * n + 1)).1 ++ fe (f (2 * n + 1)).2).map U64) rfl rfl Tryz.isAgg46 Tryz.sizeOf46 (by simp) (FF_load _ (f (2 * n + 1)) 6 ((2 * n + 1)) _ (by omega) rfl (if_neg (Nat.lt_irrefl _))) rfl rfl ?_
  refine lc ent55 (r5neg _) ?_
  refine lx_iak ((2 * n + 1)) (12 * ((2 * n + 1))) rfl rfl Tryz.underlying48 Tryz.sizeOf46 (by omega) (by omega) (by omega) rfl rfl ?_
  refine lx_storeo 1 ((FM (FF (fun j => if j < 2 * (n + 1) + 1 then tcj f j else f j)) 6).map U64) hGF rfl rfl rfl Tryz.sizeOf46 (by simp) (one_u64 _) (by simp; omega) (FF_step _ _ (ng2 (f (2 * n + 1))) 6 ((2 * n + 1)) _ (by omega) rfl (fun j _ => TC_upd f n j)) rfl ?_
  refine lx_nil ?_
  refine x_plain (E := EE []) ?_
  refine rJ7 ?_
  refine lx_bin rfl rfl (fun _ => rfl) (fun _ => bin_add_i _ _ _ (by unfold inI; omega)) rfl rfl ?_
  refine rJ7 ?_
  repeat (refine kblk_n ?_)
  refine kseq_n ?_
  exact ⟨rfl, ⟨n + 1, by omega⟩, _, by show 3 - (n + 1) < 3 - n; omega, rfl, ⟨rfl, rfl, rfl, trivial⟩, ⟨rfl, rfl, trivial⟩⟩
 ·obtain rfl : n = 3 := by simp at hc; omega
  refine x_exit ?_
  refine pJ7 ?_
  refine rt ?_
  exact kret_own 2 rfl rfl rfl Tryz.isAgg48 Tryz.sizeOf48 (by simp) (fun w hw => ⟨rT fun j hj => if_pos (by omega), hp_below hw⟩)
theorem t5inv3 (a b c : W2) : Pure Tryz.prog Gt 131 [EV2 a, EV2 b, EV2 c] (.tuple #[EV2 (iv6 (a, b, c)).1, EV2 (iv6 (a, b, c)).2.1, EV2 (iv6 (a, b, c)).2.2]) := by
 refine pure_X Tryz.func131 fun w hw hGF => ?_
 refine xp ?_
 refine lb fun b3 => ?_
 refine lb fun b4 => ?_
 refine lb fun b5 => ?_
 refine la zv46 fun b6 => ?_
 refine la zv46 fun b7 => ?_
 refine la zv46 fun b8 => ?_
 refine lx_nil ?_
 refine xs_drawA (E := EE [2999999]) [0, 1, 2, 3, 4, 5, 6, 7] [⟨8, 9, 46, (fe 0 ++ fe 0).map U64⟩] [9] mixed rfl (by kernel_rfl) (by kernel_rfl) (by kernel_rfl) (by kernel_rfl) (by kernel_rfl) (by kernel_rfl) (by decide) (by intro x hx; simp only [List.mem_cons, List.not_mem_nil, or_false] at hx; subst hx; exact isAlloc_mk rfl zv46 rfl) ?_
 refine rJ7 ?_
 refine ⟨_, _, rfl, hGF, by intro x hx; simp only [List.mem_cons, List.not_mem_nil, or_false] at hx; subst hx; rfl, by intro x hx; simp only [List.mem_cons, List.not_mem_nil, or_false] at hx; subst hx; rfl, fun adr => ?_⟩
 refine rJ7 ?_
 refine xs_drawA (E := EE [2999999]) [0, 1, 2, 3, 4, 5, 6, 7] [⟨8, 10, 46, (fe 0 ++ fe 0).map U64⟩] [9] mixed rfl (by kernel_rfl) (by kernel_rfl) (by kernel_rfl) (by kernel_rfl) (by kernel_rfl) (by kernel_rfl) (by decide) (by intro x hx; simp only [List.mem_cons, List.not_mem_nil, or_false] at hx; subst hx; exact isAlloc_mk rfl zv46 rfl) ?_
 refine rJ7 ?_
 refine ⟨_, _, rfl, hGF, by intro x hx; simp only [List.mem_cons, List.not_mem_nil, or_false] at hx; subst hx; rfl, by intro x hx; simp only [List.mem_cons, List.not_mem_nil, or_false] at hx; subst hx; rfl, fun adr => ?_⟩
 refine rJ7 ?_
 refine xs_drawA (E := EE [2999999]) [0, 1, 2, 3, 4, 5, 6] [⟨7, 11, 46, (fe 0 ++ fe 0).map U64⟩] [8] mixed rfl (by kernel_rfl) (by kernel_rfl) (by kernel_rfl) (by kernel_rfl) (by kernel_rfl) (by kernel_rfl) (by decide) (by intro x hx; simp only [List.mem_cons, List.not_mem_nil, or_false] at hx; subst hx; exact isAlloc_mk rfl zv46 rfl) ?_
 refine rJ7 ?_
 refine ⟨_, _, rfl, hGF, by intro x hx; simp only [List.mem_cons, List.not_mem_nil, or_false] at hx; subst hx; rfl, by intro x hx; simp only [List.mem_cons, List.not_mem_nil, or_false] at hx; subst hx; rfl, fun adr => ?_⟩
 refine rJ7 ?_
 refine xs_drawA (E := EE [2999999]) [0, 1, 2, 3, 4, 5, 6, 7, 8, 9, 10, 11, 12] [⟨13, 12, 46, (fe 0 ++ fe 0).map U64⟩] [14] mixed rfl (by kernel_rfl) (by kernel_rfl) (by kernel_rfl) (by kernel_rfl) (by kernel_rfl) (by kernel_rfl) (by decide) (by intro x hx; simp only [List.mem_cons, List.not_mem_nil, or_false] at hx; subst hx; exact isAlloc_mk rfl zv46 rfl) ?_
 refine rJ7 ?_
 refine lc ent52 (r5inv _) ?_
 refine lx_nil ?_
 refine ⟨_, _, rfl, hGF, by intro x hx; simp only [List.mem_cons, List.not_mem_nil, or_false] at hx; subst hx; rfl, by intro x hx; simp only [List.mem_cons, List.not_mem_nil, or_false] at hx; subst hx; rfl, fun adr => ?_⟩
 refine rJ7 ?_
 refine xs_drawn (E := EE []) mixed (by kernel_rfl) (by kernel_rfl) (by kernel_rfl) ?_
 refine rJ7 ?_
 refine rt ?_
 exact kret_ccc 6 7 8 rfl rfl rfl rfl rfl rfl rfl Tryz.isAgg46 Tryz.sizeOf46 (by simp) (by simp) (by simp) (fun w hw => ⟨rfl, hp_below hw⟩)
theorem t5inv (f : Nat → W2) : Pure Tryz.prog Gt 78 [TV f] (TV (TIf f)) := by
 refine pure_X Tryz.func78 fun w hw hGF => ?_
 refine xp ?_
 refine lb fun b1 => ?_
 refine la zv48 fun b2 => ?_
 refine lx_nil ?_
 refine xs_drawA (E := EE [2999999]) [0, 1, 2, 3] [⟨4, 3, 48, (FM (FF fun _ => ze2) 6).map U64⟩] [5] mixed rfl (by kernel_rfl) (by kernel_rfl) (by kernel_rfl) (by kernel_rfl) (by kernel_rfl) (by kernel_rfl) (by decide) (by intro x hx; simp only [List.mem_cons, List.not_mem_nil, or_false] at hx; subst hx; exact isAlloc_mk rfl zv48 rfl) ?_
 refine rJ7 ?_
 refine lc ent75 (t5conj _) ?_
 refine rJ7 ?_
 refine ⟨_, _, rfl, hGF, by intro x hx; simp only [List.mem_cons, List.not_mem_nil, or_false] at hx; subst hx; rfl, by intro x hx; simp only [List.mem_cons, List.not_mem_nil, or_false] at hx; subst hx; rfl, fun adr => ?_⟩
 refine rJ7 ?_
 refine xp ?_
 refine lx_iak (0) (12 * (0)) rfl rfl Tryz.underlying48 Tryz.sizeOf46 (by omega) (by omega) (by omega) rfl rfl ?_
 refine lx_loado 3 ((fe (TMf f (tcj f) (0)).1 ++ fe (TMf f (tcj f) (0)).2).map U64) rfl rfl Tryz.isAgg46 Tryz.sizeOf46 (by simp) (FF_load _ (TMf f (tcj f) (0)) 6 (0) _ (by omega) rfl (rfl)) rfl rfl ?_
 refine lx_iak (2) (12 * (2)) rfl rfl Tryz.underlying48 Tryz.sizeOf46 (by omega) (by omega) (by omega) rfl rfl ?_
 refine lx_loado 3 ((fe (TMf f (tcj f) (2)).1 ++ fe (TMf f (tcj f) (2)).2).map U64) rfl rfl Tryz.isAgg46 Tryz.sizeOf46 (by simp) (FF_load _ (TMf f (tcj f) (2)) 6 (2) _ (by omega) rfl (rfl)) rfl rfl ?_
 refine lx_iak (4) (12 * (4)) rfl rfl Tryz.underlying48 Tryz.sizeOf46 (by omega) (by omega) (by omega) rfl rfl ?_
 refine lx_loado 3 ((fe (TMf f (tcj f) (4)).1 ++ fe (TMf f (tcj f) (4)).2).map U64) rfl rfl Tryz.isAgg46 Tryz.sizeOf46 (by simp) (FF_load _ (TMf f (tcj f) (4)) 6 (4) _ (by omega) rfl (rfl)) rfl rfl ?_
 refine lc ent131 (t5inv3 _ _ _) ?_
 refine rJ7 ?_
 refine la zv46 fun b4 => ?_
 refine la zv46 fun b5 => ?_
 refine la zv46 fun b6 => ?_
 refine rJ7 ?_
 refine xs_drawn (E := EE []) mixed (by kernel_rfl) (by kernel_rfl) (by kernel_rfl) ?_
 refine rJ7 ?_
 refine lc ent75 (t5conj _) ?_
 refine rJ7 ?_
 refine lx_ev3 (iv6 (TMf f (tcj f) 0, TMf f (tcj f) 2, TMf f (tcj f) 4)).1 (iv6 (TMf f (tcj f) 0, TMf f (tcj f) 2, TMf f (tcj f) 4)).2.1 (iv6 (TMf f (tcj f) 0, TMf f (tcj f) 2, TMf f (tcj f) 4)).2.2 rfl rfl rfl rfl rfl ?_
 refine rJ7 ?_
 refine rt ?_
 exact kret_own 2 rfl rfl rfl Tryz.isAgg48 Tryz.sizeOf48 (by simp) (fun w hw => ⟨rfl, hp_below hw⟩)
end Q6
end
section
open Go.RowKit
theorem ent132 : Enters Tryz.prog 132 := fun _ _ => by kernel_rfl
theorem ent121 : Enters Tryz.prog 121 := fun _ _ => by kernel_rfl
theorem ent151 : Enters Tryz.prog 151 := fun _ _ => by kernel_rfl
theorem ent119 : Enters Tryz.prog 119 := fun _ _ => by kernel_rfl
theorem ent83 : Enters Tryz.prog 83 := fun _ _ => by kernel_rfl
theorem ent122 : Enters Tryz.prog 122 := fun _ _ => by kernel_rfl
theorem ent116 : Enters Tryz.prog 116 := fun _ _ => by kernel_rfl
theorem ent117 : Enters Tryz.prog 117 := fun _ _ => by kernel_rfl
theorem ent82 : Enters Tryz.prog 82 := fun _ _ => by kernel_rfl
theorem ent118 : Enters Tryz.prog 118 := fun _ _ => by kernel_rfl
theorem ent133 : Enters Tryz.prog 133 := fun _ _ => by kernel_rfl
theorem ent16 : Enters Tryz.prog 16 := fun _ _ => by kernel_rfl
namespace Q6
attribute [local simp] fe_len nm_len AS_len SS_len MONT_len RM_len FRs_len BYs_len by48_len PLl TWOl ONEl N1l IVPl HFPl RTPl FL_len SP_len fe2_len SP2_len FM_len FF_len
abbrev EV6 (x : W6) : Value := .agg (((fe (x.1).1 ++ fe (x.1).2) ++ ((fe (x.2.1).1 ++ fe (x.2.1).2) ++ (fe (x.2.2).1 ++ fe (x.2.2).2))).map U64).toArray
theorem zv37 (w : World) : (zeroValue 37).run Tryz.prog w = .ok (.agg (((fe 0 ++ fe 0) ++ ((fe 0 ++ fe 0) ++ (fe 0 ++ fe 0))).map U64).toArray) w := by rw [fe_0]; exact (Tryz.zeroValue37 w).trans (by rfl)
theorem three37 : Three Tryz.prog 37 ⟨ "C0", 29, 0, false, "", "", 0⟩ ⟨ "C1", 29, 12, false, "", "", 96⟩ ⟨ "C2", 29, 24, false, "", "", 192⟩ 12 (fe 0 ++ fe 0) (fe 0 ++ fe 0) (fe 0 ++ fe 0) := ⟨Tryz.underlying37, rfl, rfl, rfl, Tryz.sizeOf29, Tryz.sizeOf29, Tryz.sizeOf29, zv37, by simp, by simp, by simp⟩
theorem e6 {a b c a' b' c' : W2} (h1 : a = a') (h2 : b = b') (h3 : c = c') : Ending.returned (.agg (((fe (a).1 ++ fe (a).2) ++ ((fe (b).1 ++ fe (b).2) ++ (fe (c).1 ++ fe (c).2))).map U64).toArray) = .returned (.agg (((fe (a').1 ++ fe (a').2) ++ ((fe (b').1 ++ fe (b').2) ++ (fe (c').1 ++ fe (c').2))).map U64).toArray) := by rw [h1, h2, h3]
def q6 : Sh W6 := q2.two (q2.two q2 2) 2
theorem V6 (x : W6) : EV6 x = dn rid (.inl [x.1.1, x.1.2, x.2.1.1, x.2.1.2, x.2.2.1, x.2.2.2]) := by
 show Value.agg _ = Value.agg _
 rw [clv, show cel [x.1.1, x.1.2, x.2.1.1, x.2.1.2, x.2.2.1, x.2.2.2] = fe x.1.1 ++ (fe x.1.2 ++ (fe x.2.1.1 ++ (fe x.2.1.2 ++ (fe x.2.2.1 ++ fe x.2.2.2)))) from rfl]
 rw [List.append_assoc, List.append_assoc]
theorem pcast {f : Nat} {a a' : List Value} {v v' : Value} (ha : a = a') (hv : v = v') (h : Pure Tryz.prog Gt f a' v') : Pure Tryz.prog Gt f a v := by rw [ha, hv]; exact h
theorem l1 {a b : Value} (h : a = b) : [a] = [b] := by rw [h]
theorem l2 {a b c d : Value} (h : a = b) (k : c = d) : [a, c] = [b, d] := by rw [h, k]
theorem l3 {a b c d e f : Value} (h : a = b) (k : c = d) (l : e = f) : [a, c, e] = [b, d, f] := by rw [h, k, l]
theorem t2 {a b c : Value} (h : a = b) : Value.tuple #[a, c] = .tuple #[b, c] := by rw [h]
end Q6
end
section
open Go.RowKit
theorem ent154 : Enters Tryz.prog 154 := fun _ _ => by kernel_rfl
namespace Q6
attribute [local simp] fe_len nm_len AS_len SS_len MONT_len RM_len FRs_len BYs_len by48_len PLl TWOl ONEl N1l IVPl HFPl RTPl FL_len SP_len fe2_len SP2_len FM_len FF_len
theorem rJ9 {Q P : Prop} (k : Q) (h : Q → P := by intro k; (refine LY.run ?_); (repeat (first | refine y_move rfl rfl rfl ?_ | refine y_assign rfl rfl rfl ?_ | ((refine fl37_0L rfl rfl ?_ rfl rfl rfl rfl ?_); (· simp)) | ((refine fl37_1M rfl rfl ?_ ?_ rfl rfl rfl rfl ?_); (· simp); (· simp)) | ((refine fl37_2S rfl rfl ?_ ?_ ?_ rfl rfl rfl rfl ?_); (· simp); (· simp); (· simp)) | ((refine ra29 rfl rfl ?_ rfl rfl ?_); (· simp)) | ((refine ra37 rfl rfl ?_ rfl rfl ?_); (· simp)) | ((refine ra158 rfl rfl ?_ rfl rfl ?_); (· simp)) | ((refine sa29 hGF rfl rfl rfl ?_ ?_ (one_u64 _) rfl ?_); (· simp); (· simp)) | ((refine sa158 hGF rfl rfl rfl ?_ ?_ (one_u64 _) rfl ?_); (· simp); (· simp)) | ((refine sa37 hGF rfl rfl rfl ?_ ?_ (one_u64 _) rfl ?_); (· simp); (· simp)) | refine y_call (f := 95) rfl rfl ent95 (e2add _ _) rfl rfl ?_ | refine y_call (f := 42) rfl rfl ent42 (e2mul _ _) rfl rfl ?_ | refine y_call (f := 39) rfl rfl ent39 (e2sub _ _) rfl rfl ?_ | refine y_call (f := 150) rfl rfl ent150 (e2xi _) rfl rfl ?_)); (first | refine y_nil ?_ | refine LY.mk ?_); exact k) : P := h k
theorem pJ9 {Q P : Prop} (k : Q) (h : Q → P := by intro k; (refine xp ?_); (refine rJ9 ?_); exact k) : P := h k
def p3 (x : W6) : Nat → W2
 | 0 => x.1
 | 1 => x.2.1
 | _ => x.2.2
theorem zv158 (w : World) : (zeroValue 158).run Tryz.prog w = .ok (.agg ((FM (FF fun _ => ze2) 3).map U64).toArray) w := by
 rw [zero_row]; exact (Tryz.zeroValue158 w).trans (by rfl)
abbrev TV3 (f : Nat → W2) : Value := .agg ((FM (FF f) 3).map U64).toArray
theorem ff_len (f : Nat → W2) (i : Nat) : (FF f i).length = 12 := fe2_len _
attribute [local simp] ff_len
theorem p3_ext {x y : W6} (h : ∀ j, j < 3 → p3 x j = p3 y j) : x = y := Prod.ext (h 0 (by decide)) (Prod.ext (h 1 (by decide)) (h 2 (by decide)))
theorem lt_s {Q : Nat → Prop} {k : Nat} (h : ∀ j, j < k → Q j) (hk : Q k) : ∀ j, j < k + 1 → Q j := fun j hj => by
 rcases Nat.lt_or_ge j k with h1 | h1
 ·exact h j h1
 ·obtain rfl : j = k := by omega
  exact hk
theorem k6list (x : W6) : Pure Tryz.prog Gt 132 [EV6 x] (TV3 (p3 x)) := by
 refine pure_X Tryz.func132 fun w hw hGF => ?_
 refine xp ?_
 refine lb fun b1 => ?_
 refine la zv158 fun b2 => ?_
 refine lx_nil ?_
 refine pJ9 ?_
 refine lx_arr3 (FF (p3 x)) rfl rfl rfl Tryz.underlying158 Tryz.sizeOf29 zv158 (fe2_len _) (fe2_len _) (fe2_len _) rfl rfl ?_
 refine rJ9 ?_
 refine rt ?_
 exact kret_own 2 rfl rfl rfl Tryz.isAgg158 Tryz.sizeOf158 (by simp) (fun w hw => ⟨rfl, hp_below hw⟩)
theorem k6of (f : Nat → W2) : Pure Tryz.prog Gt 151 [TV3 f] (EV6 (f 0, f 1, f 2)) := by
 refine pure_X Tryz.func151 fun w hw hGF => ?_
 refine xp ?_
 refine lb fun b1 => ?_
 refine la zv37 fun b2 => ?_
 refine lx_nil ?_
 refine xp ?_
 refine lx_iak (0) (12 * (0)) rfl rfl Tryz.underlying158 Tryz.sizeOf29 (by omega) (by omega) (by omega) rfl rfl ?_
 refine lx_loado 1 ((fe (f 0).1 ++ fe (f 0).2).map U64) rfl rfl Tryz.isAgg29 Tryz.sizeOf29 (by simp) (FF_load _ (f 0) 3 (0) _ (by omega) rfl (rfl)) rfl rfl ?_
 refine lx_iak (1) (12 * (1)) rfl rfl Tryz.underlying158 Tryz.sizeOf29 (by omega) (by omega) (by omega) rfl rfl ?_
 refine lx_loado 1 ((fe (f 1).1 ++ fe (f 1).2).map U64) rfl rfl Tryz.isAgg29 Tryz.sizeOf29 (by simp) (FF_load _ (f 1) 3 (1) _ (by omega) rfl (rfl)) rfl rfl ?_
 refine lx_iak (2) (12 * (2)) rfl rfl Tryz.underlying158 Tryz.sizeOf29 (by omega) (by omega) (by omega) rfl rfl ?_
 refine lx_loado 1 ((fe (f 2).1 ++ fe (f 2).2).map U64) rfl rfl Tryz.isAgg29 Tryz.sizeOf29 (by simp) (FF_load _ (f 2) 3 (2) _ (by omega) rfl (rfl)) rfl rfl ?_
 refine lx_three012 three37 rfl rfl rfl (by simp) (by simp) (by simp) rfl rfl ?_
 refine rJ9 ?_
 refine rt ?_
 exact kret_own 2 rfl rfl rfl Tryz.isAgg37 Tryz.sizeOf37 (by simp) (fun w hw => ⟨rfl, hp_below hw⟩)
theorem k6parts_calls (x : W6) (w : World) (hw : Gt w) : Calls Tryz.prog 133 [EV6 x].toArray w (fun e w' => ∃ b1, e = .returned (.func (.func 154) #[] #[.pointer (some ⟨b1, 0, none⟩)]) ∧ Grow w w' ∧ w.heap.size ≤ b1 ∧ OwnB w' b1 (((fe (x.1).1 ++ fe (x.1).2) ++ ((fe (x.2.1).1 ++ fe (x.2.1).2) ++ (fe (x.2.2).1 ++ fe (x.2.2).2))).map U64) 37) := by
 have hGF : BOk Gt (pl w) := gt_low.plain hw
 refine calls_of_X (G := Gt) Tryz.func133 rfl rfl (Hp (pl w) []) (hp_refl (pl w) trivial rides_true) (good_hp hGF) ?_
 refine xp ?_
 refine lb fun b1 => ?_
 refine rJ9 ?_
 refine xp ?_
 refine lx_func rfl rfl rfl rfl ?_
 refine rJ9 ?_
 refine rt ?_
 exact kret_tmp rfl rfl (fun w hw => ⟨b1, rfl, hp_below hw, (hw.own 1 b1 _ _ rfl).2.elim id False.elim, (hw.own 1 b1 _ _ rfl).1⟩)
def PS (x : W6) : List (List Value) := (List.range 3).map fun (k : Nat) => [I (k : Int), EV2 (p3 x k)]
theorem PS_len (x : W6) : (PS x).length = 3 := by rw [PS, List.length_map, List.length_range]
theorem PS_get (x : W6) (k : Nat) (h : k < 3) : (PS x)[k]? = some [I (k : Int), EV2 (p3 x k)] := by
 rw [PS, List.getElem?_map, List.getElem?_range h]; rfl
theorem PS_at (x : W6) (k : Nat) (v : List Value) (h : (PS x)[k]? = some v) : k < 3 ∧ v = [I (k : Int), EV2 (p3 x k)] := by
 have hk : k < 3 := by
  rcases Nat.lt_or_ge k 3 with hk | hk
  ·exact hk
  ·rw [List.getElem?_eq_none (by rw [PS_len]; exact hk)] at h; cases h
 exact ⟨hk, (Option.some.inj ((PS_get x k hk).symm.trans h)).symm⟩
def RdP (bb : Nat) (x : W6) : Cls := fun w => w.rangeAt bb 0 (((fe (x.1).1 ++ fe (x.1).2) ++ ((fe (x.2.1).1 ++ fe (x.2.1).2) ++ (fe (x.2.2).1 ++ fe (x.2.2).2))).map U64)
theorem k6seq (bb : Nat) (x : W6) : SeqOk Tryz.prog Gt 154 [.pointer (some ⟨bb, 0, none⟩)] (PS x) (RdP bb x) := by
 intro l J Jx hJ hJx hRd hGx hY w hj
 have okJ : ∀ k, BOk Gt (Bi w (fun Y => J Y k)) := fun k => ⟨fun _ _ _ h => (hRd _ _ _ h.rid).1, hJ k⟩
 have okX : ∀ k, BOk Gt (Bi w (fun Y => Jx Y k)) := fun k => ⟨fun _ _ _ h => hGx _ _ _ h.rid, hJx k⟩
 have c1 : ∀ k L w', Hp (Bi w (fun Y => J Y k)) L w' → RdP bb x w' := fun k L w' h => (hRd _ _ _ h.rid).2
 refine calls_of_X (G := Gt) Tryz.func154 rfl rfl (Hp (Bi w (fun Y => J Y 0)) []) (hp_refl (Bi w _) hj (hJ 0)) (good_hp (okJ 0)) ?_
 refine xp ?_
 refine lx_loadr rfl Tryz.isAgg37 Tryz.sizeOf37 (by simp) (fun w h => c1 _ _ w h) rfl rfl ?_
 refine lc ent132 (k6list _) ?_
 refine rJ9 ?_
 refine x_block ?_
 refine x_forB (ι := { i : Nat // i ≤ 3 }) (fun y => [(0, .func (.yield l) #[] #[]), (1, .pointer (some ⟨bb, 0, none⟩)), (6, TV3 (p3 x)), (7, I (y.1 : Int))]) (fun y => Bi w (fun Y => J Y y.1)) (fun y => []) (fun y => 3 - y.1) ⟨0, Nat.zero_le _⟩ (fun _ => okJ _) rfl ⟨rfl, rfl, rfl, rfl, trivial⟩ trivial ?_
 rintro ⟨i, hi⟩
 dsimp only
 refine xp ?_
 refine lx_bin rfl rfl (fun _ => rfl) (fun _ => bin_lss_i _ _ _) rfl rfl ?_
 refine lx_nil ?_
 refine x_seq ?_
 refine x_if rfl (fun hc => ?_) (fun hc => ?_)
 ·have hi2 : i < 3 := by simp at hc; omega
  refine x_skip ?_
  refine x_seq ?_
  refine x_block ?_
  refine pJ9 ?_
  refine lx_idxF (FF (p3 x)) (i) rfl rfl Tryz.underlying158 Tryz.sizeOf29 Tryz.isAgg29 (by omega) (by omega) (fe2_len _) rfl rfl ?_
  refine lx_allocr 4 (okJ _) zv29 rfl rfl ?_
  intro b4
  refine rJ9 ?_
  refine lx_storea 4 (okJ _) rfl rfl rfl Tryz.sizeOf29 (by simp) (by simp) (one_u64 _) rfl ?_
  refine lx_nil ?_
  refine pJ9 ?_
  refine lx_yield (hY.b (k := i) (PS_get x i (by omega)) w) (okJ _) (okX _) rfl rfl rfl rfl rfl ?_ ?_
  ·skip
   refine lx_un rfl (fun _ => un_not _) rfl rfl ?_
   refine lx_nil ?_
   refine x_false rfl ?_
   refine x_skip ?_
   refine x_plain (E := EE []) ?_
   refine lx_bin rfl rfl (fun _ => rfl) (fun _ => bin_add_i _ _ _ (by unfold inI; omega)) rfl rfl ?_
   refine rJ9 ?_
   repeat (refine kblk_n ?_)
   refine kseq_n ?_
   exact ⟨rfl, ⟨i + 1, by omega⟩, _, by show 3 - (i + 1) < 3 - i; omega, rfl, ⟨rfl, rfl, rfl, rfl, trivial⟩, trivial⟩
  ·skip
   refine lx_un rfl (fun _ => un_not _) rfl rfl ?_
   refine lx_nil ?_
   refine x_true rfl ?_
   refine rt ?_
   repeat (first | refine kseq_x ?_ | refine kblk_x ?_ | refine kblk_p rfl ?_ | refine kseq_ret ?_ | refine kblk_ret ?_)
   exact kret_none rfl (fun w hw => ⟨⟨_, rfl⟩, .inr ⟨_, drop_yof (hJx _) hw.rid⟩⟩)
 ·obtain rfl : i = 3 := by simp at hc; omega
  refine x_exit ?_
  repeat (first | refine kseq_x ?_ | refine kblk_x ?_ | refine kblk_p rfl ?_ | refine kseq_ret ?_ | refine kblk_ret ?_)
  refine kend_none rfl (fun w hw => ⟨⟨_, rfl⟩, .inl ?_⟩)
  have := drop_yof (hJ _) hw.rid
  rw [PS_len]
  exact this
theorem k6one  : Pure Tryz.prog Gt 83 [] (EV6 K6.one) := (pcast rfl (V6 _) (pE TO42 Tryz.func83 [] (.inl (.inl [K6.one.1.1, K6.one.1.2, K6.one.2.1.1, K6.one.2.1.2, K6.one.2.2.1, K6.one.2.2.2])) (let t0 := on2; (.inl (.inl [t0.1, t0.2, 0, 0, 0, 0]), [])) [] (by kernel_rfl) ok_nil rfl))
theorem wq6rd {f : Nat} {g : W6} (en : Enters Tryz.prog f) (h : Pure Tryz.prog Gt f [] (EV6 g)) : Snd Tryz.prog Gt f (c0 q6.rd g) := c0_ok q6.rd en (pcast rfl (V6 _).symm h)
def TO43 : Tb Tryz.prog Gt := TO42.add (wq6rd (g := K6.one) ent83 k6one)
theorem k6equal (x y : W6) : Pure Tryz.prog Gt 82 [EV6 x, EV6 y] (.bool (decide (x = y))) := by
 intro w hw
 have hGF : BOk Gt (pl w) := gt_low.plain hw
 refine calls_of_XM (G := Gt) Tryz.func82 rfl rfl (Hp (pl w) []) (hp_refl (pl w) trivial rides_true) (good_hp hGF) ?_
 refine xs_plain (E := EE [133]) ?_
 refine lb fun b2 => ?_
 refine lb fun b3 => ?_
 refine lx_alloc 4 hGF Tryz.zeroValue4 rfl rfl ?_
 intro b4
 refine lx_nil ?_
 refine xs_plain (E := EE [133]) ?_
 refine rJ9 ?_
 refine lc ent132 (k6list _) ?_
 refine la zv158 fun b5 => ?_
 refine rJ9 ?_
 refine x_seq ?_
 refine xs_plain (E := EE [133]) ?_
 refine rJ9 ?_
 refine lx_callE rfl rfl ent133 rfl rfl (fun w' hw' => (k6parts_calls x w' (hGF.g _ _ _ hw')).mono fun e' w'' h => ?_)
 obtain ⟨c1, rfl, hg, h1, ho⟩ := h
 refine ⟨_, _, rfl, good_hp hGF, hw'.news rides_true hg [(33, c1, ((fe (x.1).1 ++ fe (x.1).2) ++ ((fe (x.2.1).1 ++ fe (x.2.1).2) ++ (fe (x.2.2).1 ++ fe (x.2.2).2))).map U64, 37)] ?_ inj_one, ?_⟩
 ·intro n' b' c' t' hl
  rcases lkB_cons hl with ⟨_, e⟩ | ⟨_, hl⟩
  ·cases e; exact ⟨h1, ho⟩
  ·cases hl
 clear hw' hg h1 ho
 refine lx_nil ?_
 refine x_block ?_
 refine x_rangeQ (fun k => ∀ j, j < k → p3 x j = p3 y j) (fun _ => pl w) (fun _ _ => pl w) (fun _ => hGF) (fun _ _ => hGF) (fun _ => rfl) (fun _ _ => rfl) rfl rfl ent154 (k6seq c1 x) (fun v hv => by obtain ⟨k, hk, rfl⟩ := List.mem_map.1 hv; rfl) rfl (fun k => [(2, b2, ((fe (x.1).1 ++ fe (x.1).2) ++ ((fe (x.2.1).1 ++ fe (x.2.1).2) ++ (fe (x.2.2).1 ++ fe (x.2.2).2))).map U64, 37), (3, b3, ((fe (y.1).1 ++ fe (y.1).2) ++ ((fe (y.2.1).1 ++ fe (y.2.1).2) ++ (fe (y.2.2).1 ++ fe (y.2.2).2))).map U64, 37), (4, b4, [.bool false], 4), (5, b5, (FM (FF (p3 y)) 3).map U64, 158), (33, c1, ((fe (x.1).1 ++ fe (x.1).2) ++ ((fe (x.2.1).1 ++ fe (x.2.1).2) ++ (fe (x.2.2).1 ++ fe (x.2.2).2))).map U64, 37)]) (fun c _ L' => c = .ret ∧ lkB L' 4 = some (b4, [.bool false], 4) ∧ ¬ x = y) (fun j h => absurd h (Nat.not_lt_zero j)) ⟨rfl, rfl, rfl, rfl, rfl, trivial⟩ (fun k _ w' h => hp_row (n := 33) rfl w' h) ?_ ?_ ?_ (fun D c k L' hD h => by obtain ⟨rfl, hl, hne⟩ := h; refine kout_ret ?_; refine kblk_ret ?_; refine kseq_ret ?_; exact (kretM_1 (.inl rfl) rides_true (kret_ownb 4 rfl rfl hl Tryz.isAgg4 (fun w hw => ⟨congrArg (fun b => Ending.returned (.bool b)) (decide_eq_false hne).symm, hp_below hw⟩))))
 ·intro k v hx hQ R hR
  obtain ⟨hk, rfl⟩ := PS_at x k v hx
  refine xs_plain (E := EE [133]) ?_
  refine rJ9 ?_
  refine x_plain (E := EE [133]) ?_
  refine lx_allocr 7 (hR (pl w) rfl hGF).1 zv29 rfl rfl ?_
  intro b7
  refine lx_storea 7 (hR (pl w) rfl hGF).1 rfl rfl rfl Tryz.sizeOf29 (by simp) (by simp) (one_u64 _) rfl ?_
  refine lx_nil ?_
  refine ⟨rfl, _, rfl, ?_⟩
  refine x_block ?_
  refine xs_drawn (E := EE [133]) mixed (by kernel_rfl) (by kernel_rfl) (by kernel_rfl) ?_
  refine rJ9 ?_
  refine lx_iak (k) (12 * (k)) rfl rfl Tryz.underlying158 Tryz.sizeOf29 (by omega) (by omega) (by omega) rfl rfl ?_
  refine lx_loado 5 ((fe (p3 y k).1 ++ fe (p3 y k).2).map U64) rfl rfl Tryz.isAgg29 Tryz.sizeOf29 (by simp) (FF_load _ (p3 y k) 3 (k) _ (by omega) rfl (rfl)) rfl rfl ?_
  refine lc ent26 (e2equal _ _) ?_
  refine lx_un rfl (fun _ => un_not _) rfl rfl ?_
  refine lx_nil ?_
  refine x_if rfl (fun hc => ?_) (fun hc => ?_)
  ·have hc : ¬ p3 x k = p3 y k := by simpa using hc
   refine xs_plain (E := EE [133]) ?_
   refine lx_store 4 (hR (pl w) rfl hGF).2.1 rfl rfl rfl Tryz.sizeOf4 rfl (by simp [*]) rfl ?_
   refine lx_nil ?_
   refine rt ?_
   repeat (first | refine kseq_ret ?_ | refine kblk_ret ?_)
   exact ⟨_, rfl, rfl, rfl, fun e => hc (by rw [e])⟩
  ·have hc : p3 x k = p3 y k := by simpa using hc
   refine x_skip ?_
   repeat (refine kblk_n ?_)
   exact ⟨_, rfl, subQ (lt_s hQ hc) ⟨rfl, rfl, rfl, rfl, rfl, trivial⟩⟩
 ·intro hQ D hD
  rw [PS_len] at *
  have hxy := p3_ext hQ
  refine xs_plain (E := EE [133]) ?_
  refine lx_store 4 hD rfl rfl rfl Tryz.sizeOf4 rfl (by simp [*]) rfl ?_
  refine lx_nil ?_
  refine rt ?_
  exact kretM_1 (.inl rfl) rides_true (kret_ownb 4 rfl rfl rfl Tryz.isAgg4 (fun w hw => ⟨congrArg (fun b => Ending.returned (.bool b)) (decide_eq_true hxy).symm, hp_below hw⟩))
 ·intro D hb
  refine kblk_n ?_
  refine kseq_n ?_
  exact x_absurd hb
theorem k6add (x y : W6) : Pure Tryz.prog Gt 117 [EV6 x, EV6 y] (EV6 (K6.add x y)) := (pcast (l2 (V6 _) (V6 _)) (V6 _) (pE TO43 Tryz.func117 [.inl [x.1.1, x.1.2, x.2.1.1, x.2.1.2, x.2.2.1, x.2.2.2], .inl [y.1.1, y.1.2, y.2.1.1, y.2.1.2, y.2.2.1, y.2.2.2]] (.inl (.inl [(K6.add x y).1.1, (K6.add x y).1.2, (K6.add x y).2.1.1, (K6.add x y).2.1.2, (K6.add x y).2.2.1, (K6.add x y).2.2.2])) (let t0 := ad2 (x.1.1, x.1.2) (y.1.1, y.1.2); let t1 := ad2 (x.2.1.1, x.2.1.2) (y.2.1.1, y.2.1.2); let t2 := ad2 (x.2.2.1, x.2.2.2) (y.2.2.1, y.2.2.2); (.inl (.inl [t0.1, t0.2, t1.1, t1.2, t2.1, t2.2]), [])) [] (by kernel_rfl) ok_nil rfl))
theorem wq6ag_q6ag_q6rd {f : Nat} {g : W6 → W6 → W6} (en : Enters Tryz.prog f) (h : ∀ a b, Pure Tryz.prog Gt f [EV6 a, EV6 b] (EV6 (g a b))) : Snd Tryz.prog Gt f (c2 q6.ag q6.ag q6.rd g) := c2_ok q6.ag q6.ag q6.rd en (fun a b => pcast (l2 (V6 _).symm (V6 _).symm) (V6 _).symm (h a b))
def TO44 : Tb Tryz.prog Gt := TO43.add (wq6ag_q6ag_q6rd (g := K6.add) ent117 k6add)
theorem k6sub (x y : W6) : Pure Tryz.prog Gt 119 [EV6 x, EV6 y] (EV6 (sb6 x y)) := (pcast (l2 (V6 _) (V6 _)) (V6 _) (pE TO44 Tryz.func119 [.inl [x.1.1, x.1.2, x.2.1.1, x.2.1.2, x.2.2.1, x.2.2.2], .inl [y.1.1, y.1.2, y.2.1.1, y.2.1.2, y.2.2.1, y.2.2.2]] (.inl (.inl [(sb6 x y).1.1, (sb6 x y).1.2, (sb6 x y).2.1.1, (sb6 x y).2.1.2, (sb6 x y).2.2.1, (sb6 x y).2.2.2])) (let t0 := sb2 (x.1.1, x.1.2) (y.1.1, y.1.2); let t1 := sb2 (x.2.1.1, x.2.1.2) (y.2.1.1, y.2.1.2); let t2 := sb2 (x.2.2.1, x.2.2.2) (y.2.2.1, y.2.2.2); (.inl (.inl [t0.1, t0.2, t1.1, t1.2, t2.1, t2.2]), [])) [] (by kernel_rfl) ok_nil rfl))
def TO45 : Tb Tryz.prog Gt := TO44.add (wq6ag_q6ag_q6rd (g := sb6) ent119 k6sub)
theorem k6neg (x : W6) : Pure Tryz.prog Gt 122 [EV6 x] (EV6 (K6.neg x)) := (pcast (l1 (V6 _)) (V6 _) (pE TO45 Tryz.func122 [.inl [x.1.1, x.1.2, x.2.1.1, x.2.1.2, x.2.2.1, x.2.2.2]] (.inl (.inl [(K6.neg x).1.1, (K6.neg x).1.2, (K6.neg x).2.1.1, (K6.neg x).2.1.2, (K6.neg x).2.2.1, (K6.neg x).2.2.2])) (let t0 := ng2 (x.1.1, x.1.2); let t1 := ng2 (x.2.1.1, x.2.1.2); let t2 := ng2 (x.2.2.1, x.2.2.2); (.inl (.inl [t0.1, t0.2, t1.1, t1.2, t2.1, t2.2]), [])) [] (by kernel_rfl) ok_nil rfl))
theorem wq6ag_q6rd {f : Nat} {g : W6 → W6} (en : Enters Tryz.prog f) (h : ∀ a, Pure Tryz.prog Gt f [EV6 a] (EV6 (g a))) : Snd Tryz.prog Gt f (c1 q6.ag q6.rd g) := c1_ok q6.ag q6.rd en (fun a => pcast (l1 (V6 _).symm) (V6 _).symm (h a))
def TO46 : Tb Tryz.prog Gt := TO45.add (wq6ag_q6rd (g := K6.neg) ent122 k6neg)
theorem k6mul (x y : W6) : Pure Tryz.prog Gt 116 [EV6 x, EV6 y] (EV6 (K6.mul x y)) := by
 refine pure_X Tryz.func116 fun w hw hGF => ?_
 refine xp ?_
 refine lb fun b2 => ?_
 refine lb fun b3 => ?_
 refine la zv37 fun b4 => ?_
 refine lx_nil ?_
 refine xs_drawA (E := EE [2999999]) [0, 1, 2, 3, 4, 5, 6, 7, 8, 9, 10, 11, 12, 13, 14] [⟨15, 5, 29, (fe 0 ++ fe 0).map U64⟩, ⟨16, 6, 29, (fe 0 ++ fe 0).map U64⟩, ⟨17, 7, 29, (fe 0 ++ fe 0).map U64⟩] [18, 19, 20] mixed rfl (by kernel_rfl) (by kernel_rfl) (by kernel_rfl) (by kernel_rfl) (by kernel_rfl) (by kernel_rfl) (by decide) (by intro x hx; simp only [List.mem_cons, List.not_mem_nil, or_false] at hx; rcases hx with rfl | rfl | rfl <;> exact isAlloc_mk rfl zv29 rfl) ?_
 refine rJ9 ?_
 refine ⟨_, _, rfl, hGF, by intro x hx; simp only [List.mem_cons, List.not_mem_nil, or_false] at hx; rcases hx with rfl | rfl | rfl <;> rfl, by intro x hx; simp only [List.mem_cons, List.not_mem_nil, or_false] at hx; rcases hx with rfl | rfl | rfl <;> rfl, fun adr => ?_⟩
 refine rJ9 ?_
 refine xs_drawA (E := EE [2999999]) [0, 1, 2, 3, 4, 5, 6, 7, 8, 9, 10, 11, 12, 13, 14] [⟨15, 8, 29, (fe 0 ++ fe 0).map U64⟩] [16] mixed rfl (by kernel_rfl) (by kernel_rfl) (by kernel_rfl) (by kernel_rfl) (by kernel_rfl) (by kernel_rfl) (by decide) (by intro x hx; simp only [List.mem_cons, List.not_mem_nil, or_false] at hx; subst hx; exact isAlloc_mk rfl zv29 rfl) ?_
 refine rJ9 ?_
 refine ⟨_, _, rfl, hGF, by intro x hx; simp only [List.mem_cons, List.not_mem_nil, or_false] at hx; subst hx; rfl, by intro x hx; simp only [List.mem_cons, List.not_mem_nil, or_false] at hx; subst hx; rfl, fun adr => ?_⟩
 refine rJ9 ?_
 refine xs_drawA (E := EE [2999999]) [0, 1, 2, 3, 4, 5, 6, 7, 8, 9, 10, 11, 12, 13, 14] [⟨15, 9, 29, (fe 0 ++ fe 0).map U64⟩] [16] mixed rfl (by kernel_rfl) (by kernel_rfl) (by kernel_rfl) (by kernel_rfl) (by kernel_rfl) (by kernel_rfl) (by decide) (by intro x hx; simp only [List.mem_cons, List.not_mem_nil, or_false] at hx; subst hx; exact isAlloc_mk rfl zv29 rfl) ?_
 refine rJ9 ?_
 refine ⟨_, _, rfl, hGF, by intro x hx; simp only [List.mem_cons, List.not_mem_nil, or_false] at hx; subst hx; rfl, by intro x hx; simp only [List.mem_cons, List.not_mem_nil, or_false] at hx; subst hx; rfl, fun adr => ?_⟩
 refine rJ9 ?_
 refine xs_drawA (E := EE [2999999]) [0, 1, 2, 3, 4, 5, 6, 7, 8, 9, 10, 11, 12, 13, 14] [⟨15, 10, 29, (fe 0 ++ fe 0).map U64⟩] [16] mixed rfl (by kernel_rfl) (by kernel_rfl) (by kernel_rfl) (by kernel_rfl) (by kernel_rfl) (by kernel_rfl) (by decide) (by intro x hx; simp only [List.mem_cons, List.not_mem_nil, or_false] at hx; subst hx; exact isAlloc_mk rfl zv29 rfl) ?_
 refine rJ9 ?_
 refine ⟨_, _, rfl, hGF, by intro x hx; simp only [List.mem_cons, List.not_mem_nil, or_false] at hx; subst hx; rfl, by intro x hx; simp only [List.mem_cons, List.not_mem_nil, or_false] at hx; subst hx; rfl, fun adr => ?_⟩
 refine rJ9 ?_
 refine xs_drawn (E := EE []) mixed (by kernel_rfl) (by kernel_rfl) (by kernel_rfl) ?_
 refine rJ9 ?_
 refine lx_three012 three37 rfl rfl rfl (by simp) (by simp) (by simp) rfl rfl ?_
 refine rJ9 ?_
 refine rt ?_
 exact kret_own 4 rfl rfl rfl Tryz.isAgg37 Tryz.sizeOf37 (by simp) (fun w hw => ⟨e6 (zq R2 [x.1, x.2.1, x.2.2, y.1, y.2.1, y.2.2, XI] (ta (tm j0 j3) (txi 6 (tsb (tsb (tm (ta j1 j2) (ta j4 j5)) (tm j1 j4)) (tm j2 j5)) rfl)) (ta (tm j0 j3) (tm j6 (ta (tm j1 j5) (tm j2 j4))))) (zq R2 [x.1, x.2.1, x.2.2, y.1, y.2.1, y.2.2, XI] (ta (tsb (tsb (tm (ta j0 j1) (ta j3 j4)) (tm j0 j3)) (tm j1 j4)) (txi 6 (tm j2 j5) rfl)) (ta (ta (tm j0 j4) (tm j1 j3)) (tm j6 (tm j2 j5)))) (zq R2 [x.1, x.2.1, x.2.2, y.1, y.2.1, y.2.2, XI] (ta (tsb (tsb (tm (ta j0 j2) (ta j3 j5)) (tm j0 j3)) (tm j2 j5)) (tm j1 j4)) (ta (ta (tm j0 j5) (tm j1 j4)) (tm j2 j3))), hp_below hw⟩)
def TO47 : Tb Tryz.prog Gt := TO46.add (wq6ag_q6ag_q6rd (g := K6.mul) ent116 k6mul)
theorem k6scale (x : W6) (c : W2) : Pure Tryz.prog Gt 121 [EV6 x, EV2 c] (EV6 (sc6 x c)) := by
 intro w hw
 have hGF : BOk Gt (pl w) := gt_low.plain hw
 refine calls_of_XM (G := Gt) Tryz.func121 rfl rfl (Hp (pl w) []) (hp_refl (pl w) trivial rides_true) (good_hp hGF) ?_
 refine xs_plain (E := EE [133]) ?_
 refine lb fun b2 => ?_
 refine lb fun b3 => ?_
 refine la zv37 fun b4 => ?_
 refine lx_nil ?_
 refine xs_plain (E := EE [133]) ?_
 refine la zv158 fun b5 => ?_
 refine lx_nil ?_
 refine x_seq ?_
 refine xs_plain (E := EE [133]) ?_
 refine rJ9 ?_
 refine lx_callE rfl rfl ent133 rfl rfl (fun w' hw' => (k6parts_calls x w' (hGF.g _ _ _ hw')).mono fun e' w'' h => ?_)
 obtain ⟨c1, rfl, hg, h1, ho⟩ := h
 refine ⟨_, _, rfl, good_hp hGF, hw'.news rides_true hg [(33, c1, ((fe (x.1).1 ++ fe (x.1).2) ++ ((fe (x.2.1).1 ++ fe (x.2.1).2) ++ (fe (x.2.2).1 ++ fe (x.2.2).2))).map U64, 37)] ?_ inj_one, ?_⟩
 ·intro n' b' c' t' hl
  rcases lkB_cons hl with ⟨_, e⟩ | ⟨_, hl⟩
  ·cases e; exact ⟨h1, ho⟩
  ·cases hl
 clear hw' hg h1 ho
 refine lx_nil ?_
 refine x_block ?_
 refine x_range (fun _ => pl w) (fun _ _ => pl w) (fun _ => hGF) (fun _ _ => hGF) (fun _ => rfl) (fun _ _ => rfl) rfl rfl ent154 (k6seq c1 x) (fun v hv => by obtain ⟨k, hk, rfl⟩ := List.mem_map.1 hv; rfl) rfl (fun k => [(2, b2, ((fe (x.1).1 ++ fe (x.1).2) ++ ((fe (x.2.1).1 ++ fe (x.2.1).2) ++ (fe (x.2.2).1 ++ fe (x.2.2).2))).map U64, 37), (3, b3, (fe c.1 ++ fe c.2).map U64, 29), (4, b4, ((fe 0 ++ fe 0) ++ ((fe 0 ++ fe 0) ++ (fe 0 ++ fe 0))).map U64, 37), (5, b5, (FM (FF (fun j => if j < k then ml2 (p3 x j) c else ze2)) 3).map U64, 158), (33, c1, ((fe (x.1).1 ++ fe (x.1).2) ++ ((fe (x.2.1).1 ++ fe (x.2.1).2) ++ (fe (x.2.2).1 ++ fe (x.2.2).2))).map U64, 37)]) (fun _ _ _ => False) ⟨rfl, rfl, rfl, congrArg (fun l => some (b5, l, _)) (congrArg (List.map U64) (FF_congr fun j _ => (if_neg (Nat.not_lt_zero j)).symm)), rfl, trivial⟩ (fun k _ w' h => hp_row (n := 33) rfl w' h) ?_ ?_ (fun _ _ _ _ _ h => h.elim)
 ·intro k v hx R hR
  obtain ⟨hk, rfl⟩ := PS_at x k v hx
  refine xs_plain (E := EE [133]) ?_
  refine rJ9 ?_
  refine x_plain (E := EE [133]) ?_
  refine lx_allocr 7 (hR (pl w) rfl hGF).1 zv29 rfl rfl ?_
  intro b7
  refine lx_storea 7 (hR (pl w) rfl hGF).1 rfl rfl rfl Tryz.sizeOf29 (by simp) (by simp) (one_u64 _) rfl ?_
  refine lx_nil ?_
  refine ⟨rfl, _, rfl, ?_⟩
  refine x_block ?_
  refine x_plain (E := EE [133]) ?_
  refine rJ9 ?_
  refine lx_iak (k) (12 * (k)) rfl rfl Tryz.underlying158 Tryz.sizeOf29 (by omega) (by omega) (by omega) rfl rfl ?_
  refine lx_storeo 5 ((FM (FF (fun j => if j < k + 1 then ml2 (p3 x j) c else ze2)) 3).map U64) (hR (pl w) rfl hGF).2.1 rfl rfl rfl Tryz.sizeOf29 (by simp) (one_u64 _) (by simp; omega) (FF_step _ _ (ml2 (p3 x k) c) 3 (k) _ (by omega) rfl (fun j _ => upd_lt (fun j => ml2 (p3 x j) c) (fun _ => ze2) k j)) rfl ?_
  refine lx_nil ?_
  repeat (refine kblk_n ?_)
  exact ⟨_, rfl, ⟨rfl, rfl, rfl, rfl, rfl, trivial⟩⟩
 ·intro D hD
  rw [PS_len]
  refine xs_plain (E := EE [133]) ?_
  refine rJ9 ?_
  refine lc ent151 (k6of _) ?_
  refine lx_storea 4 hD rfl rfl rfl Tryz.sizeOf37 (by simp) (by simp) (one_u64 _) rfl ?_
  refine lx_nil ?_
  refine rt ?_
  exact kretM_1 (.inl rfl) rides_true (kret_own 4 rfl rfl rfl Tryz.isAgg37 Tryz.sizeOf37 (by simp) (fun w hw => ⟨e6 rfl rfl rfl, hp_below hw⟩))
theorem k6v (x : W6) : Pure Tryz.prog Gt 118 [EV6 x] (EV6 (v6 x)) := (pcast (l1 (V6 _)) (V6 _) (pE TO47 Tryz.func118 [.inl [x.1.1, x.1.2, x.2.1.1, x.2.1.2, x.2.2.1, x.2.2.2]] (.inl (.inl [(v6 x).1.1, (v6 x).1.2, (v6 x).2.1.1, (v6 x).2.1.2, (v6 x).2.2.1, (v6 x).2.2.2])) (let t0 := xi2 (x.2.2.1, x.2.2.2); (.inl (.inl [t0.1, t0.2, x.1.1, x.1.2, x.2.1.1, x.2.1.2]), [])) [] (by kernel_rfl) ok_nil rfl))
def TO48 : Tb Tryz.prog Gt := TO47.add (wq6ag_q6rd (g := v6) ent118 k6v)
end Q6
end
end Go.Proofs.YthkmeodnlidpfaaGreatDoor
