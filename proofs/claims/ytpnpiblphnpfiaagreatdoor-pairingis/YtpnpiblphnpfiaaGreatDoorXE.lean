/-
 The reference's elements of six parts.
 The reference's elements of six parts: products, inverses.
 The reference's elements of six parts: inverses; elements of fp6 as values.
 Elements of fp6 as values; what the laws of layer 6 share.
 The walks of package fp6.
-/
import Derived.Test.YtpnpiblphnpfiaaGreatDoorXA
import Derived.Test.YtpnpiblphnpfiaaGreatDoorXD
import Derived.Test.YtpnpiblphnpfiaaGreatDoorX5
import Derived.Test.YtpnpiblphnpfiaaGreatDoorX3
set_option maxRecDepth 100000
set_option maxHeartbeats 1000000
namespace Go.Proofs.YtpnpiblphnpfiaaGreatDoor
section
open Go.RowKit
theorem ent72 : ae Tryz.prog 72 := fun _ _ => by kernel_rfl
theorem ent71 : ae Tryz.prog 71 := fun _ _ => by kernel_rfl
theorem ent73 : ae Tryz.prog 73 := fun _ _ => by kernel_rfl
theorem ent141 : ae Tryz.prog 141 := fun _ _ => by kernel_rfl
theorem ent116 : ae Tryz.prog 116 := fun _ _ => by kernel_rfl
namespace Q6
attribute [local simp] a8 bt aI aC aR a6 aQ aM aW PLl cH cJ N1l cI cL cM bq bv a7 br bh
def FF (f : Nat → W2) (i : Nat) : List (BitVec 64) := fe2 (f i)
abbrev TV (f : Nat → W2) : Value := .agg ((FM (FF f) 6).map U64).toArray
theorem cb (f : Nat → W2) (v : W2) (n k o : Nat) (hk : k < n) (ho : o = 12 * k) (hv : f k = v) : ∀ j u, ((fe v.1 ++ fe v.2).map U64)[j]? = some u → ((FM (FF f) n).map U64)[o + j]? = some u := by
 subst hv
 exact rY (FF f) n k hk (a7 _) o ho
theorem eY (f g : Nat → W2) (v : W2) (n k o : Nat) (hk : k < n) (ho : o = 12 * k) (hg : ∀ i, i < n → g i = if i = k then v else f i) : lay o ((fe v.1 ++ fe v.2).map U64) ((FM (FF f) n).map U64) = (FM (FF g) n).map U64 := by
 have h := lh (FF f) n k (fe2 v) hk (a7 _) o ho
 refine h.trans (congrArg (List.map U64) (gz fun i hi => ?_))
 show (if i = k then fe2 v else fe2 (f i)) = fe2 (g i)
 rw [hg i hi]
 split <;> rfl
theorem d8 {f g : Nat → W2} {n : Nat} (h : ∀ i, i < n → f i = g i) : FM (FF f) n = FM (FF g) n := gz fun i hi => congrArg fe2 (h i hi)
theorem cR (f : Nat → W2) (n : Nat) : (FM (FF f) n).length = 12 * n := bh _ _
theorem jg (A B : Nat → W2) (i j : Nat) : (if j < i + 1 then A j else B j) = if j = i then A i else (if j < i then A j else B j) := by
 by_cases h : j = i
 ·subst h; rw [if_pos (Nat.lt_succ_self _), if_pos rfl]
 ·rw [if_neg h]
  by_cases h' : j < i
  ·rw [if_pos h', if_pos (Nat.lt_succ_of_lt h')]
  ·rw [if_neg h', if_neg (fun e => h' (Nat.lt_of_le_of_ne (Nat.le_of_lt_succ e) h))]
theorem ol (A B : Nat → W2) (i : Nat) : (if i < i then A i else B i) = B i := if_neg (Nat.lt_irrefl _)
theorem iT (n : Nat) : FM (FF fun _ => ze2) n = FM (fun _ => List.replicate 12 0#64) n := gz fun i _ => by
 show fe2 ze2 = _
 rw [show fe2 ze2 = fe 0 ++ fe 0 from rfl, im]; rfl
theorem zv44 (w : World) : (zeroValue 44).run Tryz.prog w = .ok (.agg ((FM (FF fun _ => ze2) 6).map U64).toArray) w := by
 rw [iT]; exact (Tryz.zeroValue44 w).trans (by rfl)
theorem rT {f g : Nat → W2} (h : ∀ i, i < 6 → f i = g i) : Ending.returned (TV f) = .returned (TV g) := congrArg (fun l => Ending.returned (.agg (List.map U64 l).toArray)) (d8 h)
theorem IA : EqF Tryz.prog 44 (6 * 12) 5 := fy (by decide) Tryz.underlying44 Tryz.isAgg42 Tryz.sizeOf42 IQ
theorem yl (op : BinOp) (x y : Operand) (xs ys : Array Value) (w : World) : (eqGuard op 44 x y (.agg xs) (.agg ys)).run Tryz.prog w = .ok () w := run_eqGuard_agg w op 44 x y xs ys (by kernel_rfl)
theorem u0 (xs ys : List (BitVec 64)) (h : xs.length = 72) (h' : ys.length = 72) (w : World) : (binOp .eql 44 (.agg (xs.map U64).toArray) (.agg (ys.map U64).toArray)).run Tryz.prog w = .ok (.bool (decide (xs = ys))) w := sU IA (by decide) xs ys h h' w
attribute [local simp] cR
end Q6
end
section
open Go.RowKit
namespace Q6
attribute [local simp] a8 bt aI aC aR a6 aQ aM aW PLl cH cJ N1l cI cL cM bq bv a7 br bh cR
theorem rJ6 {Q P : Prop} (k : Q) (h : Q → P := by intro k; (refine LY.run ?_); (repeat (first | refine bH rfl rfl rfl ?_ | refine bd rfl rfl rfl ?_ | ((refine vw rfl rfl ?_ rfl rfl ?_); (· simp)) | ((refine tz hGF rfl rfl rfl ?_ ?_ (ak _) rfl ?_); (· simp); (· simp)) | refine bw (f := 139) rfl rfl ent139 (uL _ _) rfl rfl ?_)); (first | refine bY ?_ | refine LY.mk ?_); exact k) : P := h k
theorem pJ6 {Q P : Prop} (k : Q) (h : Q → P := by intro k; (refine xp ?_); (refine rJ6 ?_); exact k) : P := h k
theorem zv162 (w : World) : (zeroValue 162).run Tryz.prog w = .ok (.agg ((FM (FF fun _ => ze2) 11).map U64).toArray) w := by
 rw [iT]; exact (Tryz.zeroValue162 w).trans (by rfl)
theorem Am (f g : Nat → W2) (i k m : Nat) (hk : k < 6) : LP f g (6 * i + k + 1) m = if m = i + k then ad2 (LP f g (6 * i + k) (i + k)) (ml2 (f i) (g k)) else LP f g (6 * i + k) m := by
 rw [LP, show (6 * i + k) / 6 = i by omega, show (6 * i + k) % 6 = k by omega]
 by_cases h : m = i + k
 ·rw [if_pos h.symm, if_pos h, h]
 ·rw [if_neg (fun e => h e.symm), if_neg h]
theorem yN (f g : Nat → W2) (i : Nat) : LP f g (6 * i + 6) = LP f g (6 * (i + 1)) := by rw [Nat.mul_add]
theorem Dr (f g : Nat → W2) (i : Nat) (h : i < 5) : ad2 (LP f g 36 i) (xi2 (LP f g 36 (i + 6))) = TMf f g i := by rw [TMf, if_pos h]
theorem Ea (f g : Nat → W2) (i j : Nat) (v w : W2) (hv : v = TMf f g i) : (if j < i + 1 then TMf f g j else ze2) = if j = i then v else (if j = i then w else (if j < i then TMf f g j else ze2)) := by
 subst hv
 rw [jg (TMf f g) (fun _ => ze2) i j]
 by_cases h : j = i
 ·rw [if_pos h, if_pos h]
 ·rw [if_neg h, if_neg h, if_neg h]
theorem zf (f g : Nat → W2) (i j : Nat) (h5 : ¬ i < 5) : (if j = i then LP f g 36 i else (if j < i then TMf f g j else ze2)) = if j < i + 1 then TMf f g j else ze2 := by
 rw [jg (TMf f g) (fun _ => ze2) i j]
 by_cases h : j = i
 ·rw [if_pos h, if_pos h, TMf, if_neg h5]
 ·rw [if_neg h, if_neg h]
theorem At (f g : Nat → W2) : Pure Tryz.prog Gt 72 [TV f, TV g] (TV (TMf f g)) := by
 refine aN Tryz.func72 fun w hw hGF => ?_
 refine xp ?_
 refine lb fun b2 => ?_
 refine lb fun b3 => ?_
 refine la zv44 fun b4 => ?_
 refine aa ?_
 refine xp ?_
 refine la zv162 fun b5 => ?_
 refine aa ?_
 refine am ?_
 refine pJ6 ?_
 refine ao ?_
 refine bO (ι := { i : Nat // i ≤ 6 }) (fun y => [(2, .pointer (some ⟨b2, 0, none⟩)), (3, .pointer (some ⟨b3, 0, none⟩)), (4, .pointer (some ⟨b4, 0, none⟩)), (5, .pointer (some ⟨b5, 0, none⟩)), (6, I (y.1 : Int))]) (fun y => [(2, b2, (FM (FF f) 6).map U64, 44), (3, b3, (FM (FF g) 6).map U64, 44), (4, b4, (FM (FF fun _ => ze2) 6).map U64, 44), (5, b5, (FM (FF (LP f g (6 * y.1))) 11).map U64, 162)]) (fun y => 6 - y.1) ⟨0, by omega⟩ hGF ⟨rfl, rfl, rfl, rfl, rfl, trivial⟩ ⟨rfl, rfl, rfl, rfl, trivial⟩ ?_
 rintro ⟨i, hi⟩
 dsimp only
 refine am ?_
 refine pJ6 ?_
 refine ab rfl rfl (fun _ => rfl) (fun _ => aH _ _ _) rfl rfl ?_
 refine aa ?_
 refine bF rfl (fun hc => ?_) (fun hc => ?_)
 ·simp only [decide_eq_true_eq] at hc
  refine aB ?_
  refine am ?_
  refine ao ?_
  refine pJ6 ?_
  refine ao ?_
  refine bO (ι := { i : Nat // i ≤ 6 }) (fun y => [(2, .pointer (some ⟨b2, 0, none⟩)), (3, .pointer (some ⟨b3, 0, none⟩)), (4, .pointer (some ⟨b4, 0, none⟩)), (5, .pointer (some ⟨b5, 0, none⟩)), (6, I (i : Int)), (7, I (y.1 : Int))]) (fun y => [(2, b2, (FM (FF f) 6).map U64, 44), (3, b3, (FM (FF g) 6).map U64, 44), (4, b4, (FM (FF fun _ => ze2) 6).map U64, 44), (5, b5, (FM (FF (LP f g (6 * i + y.1))) 11).map U64, 162)]) (fun y => 6 - y.1) ⟨0, by omega⟩ hGF ⟨rfl, rfl, rfl, rfl, rfl, rfl, trivial⟩ ⟨rfl, rfl, rfl, rfl, trivial⟩ ?_
  rintro ⟨k, hk⟩
  dsimp only
  refine am ?_
  refine pJ6 ?_
  refine ab rfl rfl (fun _ => rfl) (fun _ => aH _ _ _) rfl rfl ?_
  refine aa ?_
  refine bF rfl (fun hc => ?_) (fun hc => ?_)
  ·simp only [decide_eq_true_eq] at hc
   refine aB ?_
   refine am ?_
   refine ao ?_
   refine cu (E := EE []) a5 (by kernel_rfl) (by kernel_rfl) (by kernel_rfl) ?_
   refine rJ6 ?_
   refine ab rfl rfl (fun _ => rfl) (fun _ => aA _ _ _ (by unfold inI; omega)) rfl rfl ?_
   refine rJ6 ?_
   refine ab rfl rfl (fun _ => rfl) (fun _ => aA _ _ _ (by unfold inI; omega)) rfl rfl ?_
   refine bP ((i + k)) (12 * ((i + k))) rfl rfl Tryz.underlying162 Tryz.sizeOf42 (by omega) (by omega) (by omega) rfl rfl ?_
   refine aU 5 ((fe (LP f g (6 * i + k) ((i + k))).1 ++ fe (LP f g (6 * i + k) ((i + k))).2).map U64) rfl rfl Tryz.isAgg42 Tryz.sizeOf42 (by simp) (cb _ (LP f g (6 * i + k) ((i + k))) 11 ((i + k)) _ (by omega) rfl (rfl)) rfl rfl ?_
   refine rJ6 ?_
   refine bP (i) (12 * (i)) rfl rfl Tryz.underlying44 Tryz.sizeOf42 (by omega) (by omega) (by omega) rfl rfl ?_
   refine aU 2 ((fe (f i).1 ++ fe (f i).2).map U64) rfl rfl Tryz.isAgg42 Tryz.sizeOf42 (by simp) (cb _ (f i) 6 (i) _ (by omega) rfl (rfl)) rfl rfl ?_
   refine rJ6 ?_
   refine bP (k) (12 * (k)) rfl rfl Tryz.underlying44 Tryz.sizeOf42 (by omega) (by omega) (by omega) rfl rfl ?_
   refine aU 3 ((fe (g k).1 ++ fe (g k).2).map U64) rfl rfl Tryz.isAgg42 Tryz.sizeOf42 (by simp) (cb _ (g k) 6 (k) _ (by omega) rfl (rfl)) rfl rfl ?_
   refine lc ent136 (mb _ _) ?_
   refine rJ6 ?_
   refine bP ((i + k)) (12 * ((i + k))) rfl rfl Tryz.underlying162 Tryz.sizeOf42 (by omega) (by omega) (by omega) rfl rfl ?_
   refine di 5 ((FM (FF (LP f g (6 * i + k + 1))) 11).map U64) hGF rfl rfl rfl Tryz.sizeOf42 (by simp) (ak _) (by simp; omega) (eY _ _ (ad2 (LP f g (6 * i + k) (i + k)) (ml2 (f i) (g k))) 11 ((i + k)) _ (by omega) rfl (fun m _ => Am f g i k m (by omega))) rfl ?_
   refine aa ?_
   refine au (E := EE []) ?_
   refine rJ6 ?_
   refine ab rfl rfl (fun _ => rfl) (fun _ => aA _ _ _ (by unfold inI; omega)) rfl rfl ?_
   refine rJ6 ?_
   repeat (refine aL ?_)
   refine aZ ?_
   exact ⟨rfl, ⟨k + 1, by omega⟩, _, by show 6 - (k + 1) < 6 - k; omega, rfl, ⟨rfl, rfl, rfl, rfl, rfl, rfl, trivial⟩, ⟨rfl, rfl, rfl, rfl, trivial⟩⟩
  ·obtain rfl : k = 6 := by simp at hc; omega
   refine aV ?_
   refine au (E := EE []) ?_
   refine rJ6 ?_
   refine ab rfl rfl (fun _ => rfl) (fun _ => aA _ _ _ (by unfold inI; omega)) rfl rfl ?_
   refine rJ6 ?_
   repeat (refine aL ?_)
   refine aZ ?_
   exact ⟨rfl, ⟨i + 1, by omega⟩, _, by show 6 - (i + 1) < 6 - i; omega, rfl, ⟨rfl, rfl, rfl, rfl, rfl, trivial⟩, ⟨rfl, rfl, rfl, by rw [← yN]; rfl, trivial⟩⟩
 ·obtain rfl : i = 6 := by simp at hc; omega
  refine aV ?_
  refine xp ?_
  refine la zv44 fun b8 => ?_
  refine aa ?_
  refine am ?_
  refine pJ6 ?_
  refine ao ?_
  refine bO (ι := { i : Nat // i ≤ 6 }) (fun y => [(2, .pointer (some ⟨b2, 0, none⟩)), (3, .pointer (some ⟨b3, 0, none⟩)), (4, .pointer (some ⟨b4, 0, none⟩)), (5, .pointer (some ⟨b5, 0, none⟩)), (8, .pointer (some ⟨b8, 0, none⟩)), (9, I (y.1 : Int))]) (fun y => [(2, b2, (FM (FF f) 6).map U64, 44), (3, b3, (FM (FF g) 6).map U64, 44), (4, b4, (FM (FF fun _ => ze2) 6).map U64, 44), (5, b5, (FM (FF (LP f g (36))) 11).map U64, 162), (8, b8, (FM (FF (fun j => if j < y.1 then TMf f g j else ze2)) 6).map U64, 44)]) (fun y => 6 - y.1) ⟨0, by omega⟩ hGF ⟨rfl, rfl, rfl, rfl, rfl, rfl, trivial⟩ ⟨rfl, rfl, rfl, rfl, congrArg (fun l => some (b8, l, _)) (congrArg (List.map U64) (d8 fun j _ => (if_neg (Nat.not_lt_zero j)).symm)), trivial⟩ ?_
  rintro ⟨i, hi⟩
  dsimp only
  refine am ?_
  refine pJ6 ?_
  refine ab rfl rfl (fun _ => rfl) (fun _ => aH _ _ _) rfl rfl ?_
  refine aa ?_
  refine bF rfl (fun hc => ?_) (fun hc => ?_)
  ·simp only [decide_eq_true_eq] at hc
   refine aB ?_
   refine am ?_
   refine ao ?_
   refine pJ6 ?_
   refine bP (i) (12 * (i)) rfl rfl Tryz.underlying162 Tryz.sizeOf42 (by omega) (by omega) (by omega) rfl rfl ?_
   refine aU 5 ((fe (LP f g 36 (i)).1 ++ fe (LP f g 36 (i)).2).map U64) rfl rfl Tryz.isAgg42 Tryz.sizeOf42 (by simp) (cb _ (LP f g 36 (i)) 11 (i) _ (by omega) rfl (rfl)) rfl rfl ?_
   refine bP (i) (12 * (i)) rfl rfl Tryz.underlying44 Tryz.sizeOf42 (by omega) (by omega) (by omega) rfl rfl ?_
   refine di 8 ((FM (FF (fun j => if j = i then LP f g 36 i else (if j < i then TMf f g j else ze2))) 6).map U64) hGF rfl rfl rfl Tryz.sizeOf42 (by simp) (ak _) (by simp; omega) (eY _ _ (LP f g 36 i) 6 (i) _ (by omega) rfl (fun j _ => rfl)) rfl ?_
   refine aa ?_
   refine pJ6 ?_
   refine ab rfl rfl (fun _ => rfl) (fun _ => aH _ _ _) rfl rfl ?_
   refine aa ?_
   refine bF rfl (fun hc => ?_) (fun hc => ?_)
   ·have h5 : i < 5 := by simp at hc; omega
    clear hc
    refine cu (E := EE []) a5 (by kernel_rfl) (by kernel_rfl) (by kernel_rfl) ?_
    refine rJ6 ?_
    refine bP (i) (12 * (i)) rfl rfl Tryz.underlying44 Tryz.sizeOf42 (by omega) (by omega) (by omega) rfl rfl ?_
    refine aU 8 ((fe (LP f g 36 i).1 ++ fe (LP f g 36 i).2).map U64) rfl rfl Tryz.isAgg42 Tryz.sizeOf42 (by simp) (cb _ (LP f g 36 i) 6 (i) _ (by omega) rfl (if_pos rfl)) rfl rfl ?_
    refine rJ6 ?_
    refine ab rfl rfl (fun _ => rfl) (fun _ => aA _ _ _ (by unfold inI; omega)) rfl rfl ?_
    refine bP ((i + 6)) (12 * ((i + 6))) rfl rfl Tryz.underlying162 Tryz.sizeOf42 (by omega) (by omega) (by omega) rfl rfl ?_
    refine aU 5 ((fe (LP f g 36 ((i + 6))).1 ++ fe (LP f g 36 ((i + 6))).2).map U64) rfl rfl Tryz.isAgg42 Tryz.sizeOf42 (by simp) (cb _ (LP f g 36 ((i + 6))) 11 ((i + 6)) _ (by omega) rfl (rfl)) rfl rfl ?_
    refine lc ent140 (E7 _) ?_
    refine rJ6 ?_
    refine bP (i) (12 * (i)) rfl rfl Tryz.underlying44 Tryz.sizeOf42 (by omega) (by omega) (by omega) rfl rfl ?_
    refine di 8 ((FM (FF (fun j => if j < i + 1 then TMf f g j else ze2)) 6).map U64) hGF rfl rfl rfl Tryz.sizeOf42 (by simp) (ak _) (by simp; omega) (eY _ _ (ad2 (LP f g 36 i) (xi2 (LP f g 36 (i + 6)))) 6 (i) _ (by omega) rfl (fun j _ => Ea f g i j _ (LP f g 36 i) (Dr f g i h5))) rfl ?_
    refine aa ?_
    refine au (E := EE []) ?_
    refine rJ6 ?_
    refine ab rfl rfl (fun _ => rfl) (fun _ => aA _ _ _ (by unfold inI; omega)) rfl rfl ?_
    refine rJ6 ?_
    repeat (refine aL ?_)
    refine aZ ?_
    exact ⟨rfl, ⟨i + 1, by omega⟩, _, by show 6 - (i + 1) < 6 - i; omega, rfl, ⟨rfl, rfl, rfl, rfl, rfl, rfl, trivial⟩, ⟨rfl, rfl, rfl, rfl, rfl, trivial⟩⟩
   ·have h5 : ¬ i < 5 := by simp at hc; omega
    clear hc
    refine aB ?_
    refine au (E := EE []) ?_
    refine rJ6 ?_
    refine ab rfl rfl (fun _ => rfl) (fun _ => aA _ _ _ (by unfold inI; omega)) rfl rfl ?_
    refine rJ6 ?_
    repeat (refine aL ?_)
    refine aZ ?_
    exact ⟨rfl, ⟨i + 1, by omega⟩, _, by show 6 - (i + 1) < 6 - i; omega, rfl, ⟨rfl, rfl, rfl, rfl, rfl, rfl, trivial⟩, ⟨rfl, rfl, rfl, rfl, congrArg (fun l => some (b8, l, _)) (congrArg (List.map U64) (d8 fun j _ => zf f g i j h5)), trivial⟩⟩
  ·obtain rfl : i = 6 := by simp at hc; omega
   refine aV ?_
   refine pJ6 ?_
   refine rt ?_
   exact av 4 rfl rfl rfl Tryz.isAgg44 Tryz.sizeOf44 (by simp) (fun w hw => ⟨rT fun j hj => if_pos hj, ah hw⟩)
end Q6
end
section
open Go.RowKit
namespace Q6
attribute [local simp] a8 bt aI aC aR a6 aQ aM aW PLl cH cJ N1l cI cL cM bq bv a7 br bh cR
theorem rJ7 {Q P : Prop} (k : Q) (h : Q → P := by intro k; (refine LY.run ?_); (repeat (first | refine bH rfl rfl rfl ?_ | refine bd rfl rfl rfl ?_ | ((refine zZ rfl rfl ?_ rfl rfl ?_); (· simp)) | ((refine vw rfl rfl ?_ rfl rfl ?_); (· simp)) | ((refine tD hGF rfl rfl rfl ?_ ?_ (ak _) rfl ?_); (· simp); (· simp)) | ((refine tz hGF rfl rfl rfl ?_ ?_ (ak _) rfl ?_); (· simp); (· simp)) | refine ee rfl rfl rfl rfl ?_ | refine bw (f := 136) rfl rfl ent136 (mb _ _) rfl rfl ?_ | refine bw (f := 166) rfl rfl ent166 (xI _ _) rfl rfl ?_ | refine bw (f := 140) rfl rfl ent140 (E7 _) rfl rfl ?_ | refine bw (f := 72) rfl rfl ent72 (At _ _) rfl rfl ?_ | refine bw (f := 139) rfl rfl ent139 (uL _ _) rfl rfl ?_)); (first | refine bY ?_ | refine LY.mk ?_); exact k) : P := h k
theorem pJ7 {Q P : Prop} (k : Q) (h : Q → P := by intro k; (refine xp ?_); (refine rJ7 ?_); exact k) : P := h k
theorem BW (f : Nat → W2) (n j : Nat) : (if j < 2 * (n + 1) + 1 then tcj f j else f j) = if j = 2 * n + 1 then ng2 (f (2 * n + 1)) else (if j < 2 * n + 1 then tcj f j else f j) := by
 by_cases h : j = 2 * n + 1
 ·rw [if_pos h, if_pos (by omega), tcj, if_pos (by omega), h]
 ·rw [if_neg h]
  by_cases h' : j < 2 * n + 1
  ·rw [if_pos h', if_pos (by omega)]
  ·rw [if_neg h']
   by_cases h2 : j < 2 * (n + 1) + 1
   ·rw [if_pos h2, tcj, if_neg (by omega)]
   ·rw [if_neg h2]
theorem TC_0 (f : Nat → W2) (j : Nat) : f j = if j < 2 * 0 + 1 then tcj f j else f j := by
 by_cases h : j < 2 * 0 + 1
 ·rw [if_pos h, tcj, if_neg (by omega)]
 ·rw [if_neg h]
def ev3 (x y z : W2) (i : Nat) : W2 := if i = 4 then z else if i = 2 then y else if i = 0 then x else ze2
theorem yb (x y z : W2) (n : Nat) : FM (Ak [(0, fe x.1 ++ fe x.2), (2, fe y.1 ++ fe y.2), (4, fe z.1 ++ fe z.2)] (FF fun _ => ze2)) n = FM (FF (ev3 x y z)) n := gz fun i _ => by
 show (if i = 4 then fe2 z else if i = 2 then fe2 y else if i = 0 then fe2 x else fe2 ze2) = fe2 (ev3 x y z i)
 unfold ev3
 split
 ·rfl
 ·split
  ·rfl
  ·split <;> rfl
section
variable {G : Cls} {ro : Option Nat} {ops : Array Oper} {N : Nat} {ds : List Deferred} {fs : List Nat} {Z : Fr → Cls → Prop} {F : Fr} {C : Cls} {rest : List Oper} {d : Nat} {ty : TypeId} {pos : String} {af : Array Edge} {gd : Option (Nat × Bool)}
theorem BT (x y z : W2) {p q r : Operand} (hx : evF F p = some (EV2 x)) (hy : evF F q = some (EV2 y)) (hz : evF F r = some (EV2 z)) (hw : aD ops F ⟨some d, .build 44 #[(0, p), (2, q), (4, r)], ty, pos, af, gd⟩ = some true) (hd : Nat.blt d N = true)
  (h : Lx Tryz.prog G ro ops N ds (EE fs) Z rest ((d, TV (ev3 x y z)) :: F) C) : Lx Tryz.prog G ro ops N ds (EE fs) Z (⟨some d, .build 44 #[(0, p), (2, q), (4, r)], ty, pos, af, gd⟩ :: rest) F C :=
 yz 0 2 4 hx hy hz (by simp) (by simp) (by simp) (by decide) (by decide) (by decide) Tryz.underlying44 Tryz.sizeOf42 zv44 hw hd (by rw [yb]; exact h)
end
theorem E2 (x y z : W2) : tq (ev3 x y z) = ((x, y, z), K6.zero) := rfl
def TIf (f : Nat → W2) : Nat → W2 :=
 TMf (tcj f) (ev3 (iv6 (TMf f (tcj f) 0, TMf f (tcj f) 2, TMf f (tcj f) 4)).1 (iv6 (TMf f (tcj f) 0, TMf f (tcj f) 2, TMf f (tcj f) 4)).2.1 (iv6 (TMf f (tcj f) 0, TMf f (tcj f) 2, TMf f (tcj f) 4)).2.2)
theorem E4 (f : Nat → W2) : tq (TIf f) = ez (tq f) := by
 have e := qC f (tcj f)
 have e1 : K12.mul (tq f) (tq (tcj f)) = (qnm K6 VV (tq f), K6.zero) := by rw [A8]; exact xB K6 VV (tq f)
 rw [e1] at e
 have e2 : (TMf f (tcj f) 0, TMf f (tcj f) 2, TMf f (tcj f) 4) = qnm K6 VV (tq f) := congrArg Prod.fst e
 rw [TIf, qC, E2, e2, A8]
 rfl
theorem pI (f : Nat → W2) : Pure Tryz.prog Gt 71 [TV f] (TV (tcj f)) := by
 refine aN Tryz.func71 fun w hw hGF => ?_
 refine xp ?_
 refine lb fun b1 => ?_
 refine la zv44 fun b2 => ?_
 refine aa ?_
 refine am ?_
 refine pJ7 ?_
 refine ao ?_
 refine bO (ι := { i : Nat // i ≤ 3 }) (fun y => [(1, .pointer (some ⟨b1, 0, none⟩)), (2, .pointer (some ⟨b2, 0, none⟩)), (3, I ((2 * y.1 + 1 : Nat) : Int))]) (fun y => [(1, b1, (FM (FF (fun j => if j < 2 * y.1 + 1 then tcj f j else f j)) 6).map U64, 44), (2, b2, (FM (FF fun _ => ze2) 6).map U64, 44)]) (fun y => 3 - y.1) ⟨0, by omega⟩ hGF ⟨rfl, rfl, rfl, trivial⟩ ⟨congrArg (fun l => some (b1, l, _)) (congrArg (List.map U64) (d8 fun j _ => TC_0 f j)), rfl, trivial⟩ ?_
 rintro ⟨n, hn⟩
 dsimp only
 refine am ?_
 refine pJ7 ?_
 refine ab rfl rfl (fun _ => rfl) (fun _ => aH _ _ _) rfl rfl ?_
 refine aa ?_
 refine bF rfl (fun hc => ?_) (fun hc => ?_)
 ·have hn2 : n < 3 := by simp at hc; omega
  refine aB ?_
  refine am ?_
  refine ao ?_
  refine au (E := EE []) ?_
  refine rJ7 ?_
  refine bP ((2 * n + 1)) (12 * ((2 * n + 1))) rfl rfl Tryz.underlying44 Tryz.sizeOf42 (by omega) (by omega) (by omega) rfl rfl ?_
  refine aU 1 ((fe (f (2 * n + 1)).1 ++ fe (f (2 * n + 1)).2).map U64) rfl rfl Tryz.isAgg42 Tryz.sizeOf42 (by simp) (cb _ (f (2 * n + 1)) 6 ((2 * n + 1)) _ (by omega) rfl (if_neg (Nat.lt_irrefl _))) rfl rfl ?_
  refine lc ent138 (AF _) ?_
  refine bP ((2 * n + 1)) (12 * ((2 * n + 1))) rfl rfl Tryz.underlying44 Tryz.sizeOf42 (by omega) (by omega) (by omega) rfl rfl ?_
  refine di 1 ((FM (FF (fun j => if j < 2 * (n + 1) + 1 then tcj f j else f j)) 6).map U64) hGF rfl rfl rfl Tryz.sizeOf42 (by simp) (ak _) (by simp; omega) (eY _ _ (ng2 (f (2 * n + 1))) 6 ((2 * n + 1)) _ (by omega) rfl (fun j _ => BW f n j)) rfl ?_
  refine aa ?_
  refine au (E := EE []) ?_
  refine rJ7 ?_
  refine ab rfl rfl (fun _ => rfl) (fun _ => aA _ _ _ (by unfold inI; omega)) rfl rfl ?_
  refine rJ7 ?_
  repeat (refine aL ?_)
  refine aZ ?_
  exact ⟨rfl, ⟨n + 1, by omega⟩, _, by show 3 - (n + 1) < 3 - n; omega, rfl, ⟨rfl, rfl, rfl, trivial⟩, ⟨rfl, rfl, trivial⟩⟩
 ·obtain rfl : n = 3 := by simp at hc; omega
  refine aV ?_
  refine pJ7 ?_
  refine rt ?_
  exact av 2 rfl rfl rfl Tryz.isAgg44 Tryz.sizeOf44 (by simp) (fun w hw => ⟨rT fun j hj => if_pos (by omega), ah hw⟩)
theorem Cj (a b c : W2) : Pure Tryz.prog Gt 141 [EV2 a, EV2 b, EV2 c] (.tuple #[EV2 (iv6 (a, b, c)).1, EV2 (iv6 (a, b, c)).2.1, EV2 (iv6 (a, b, c)).2.2]) := by
 refine aN Tryz.func141 fun w hw hGF => ?_
 refine xp ?_
 refine lb fun b3 => ?_
 refine lb fun b4 => ?_
 refine lb fun b5 => ?_
 refine la zv42 fun b6 => ?_
 refine la zv42 fun b7 => ?_
 refine la zv42 fun b8 => ?_
 refine aa ?_
 refine bC (E := EE [2999999]) [0, 1, 2, 3, 4, 5, 6, 7] [⟨8, 9, 42, (fe 0 ++ fe 0).map U64⟩] [9] a5 rfl (by kernel_rfl) (by kernel_rfl) (by kernel_rfl) (by kernel_rfl) (by kernel_rfl) (by kernel_rfl) (by decide) (by intro x hx; simp only [List.mem_cons, List.not_mem_nil, or_false] at hx; subst hx; exact bc rfl zv42 rfl) ?_
 refine rJ7 ?_
 refine ⟨_, _, rfl, hGF, by intro x hx; simp only [List.mem_cons, List.not_mem_nil, or_false] at hx; subst hx; rfl, by intro x hx; simp only [List.mem_cons, List.not_mem_nil, or_false] at hx; subst hx; rfl, fun adr => ?_⟩
 refine rJ7 ?_
 refine bC (E := EE [2999999]) [0, 1, 2, 3, 4, 5, 6, 7] [⟨8, 10, 42, (fe 0 ++ fe 0).map U64⟩] [9] a5 rfl (by kernel_rfl) (by kernel_rfl) (by kernel_rfl) (by kernel_rfl) (by kernel_rfl) (by kernel_rfl) (by decide) (by intro x hx; simp only [List.mem_cons, List.not_mem_nil, or_false] at hx; subst hx; exact bc rfl zv42 rfl) ?_
 refine rJ7 ?_
 refine ⟨_, _, rfl, hGF, by intro x hx; simp only [List.mem_cons, List.not_mem_nil, or_false] at hx; subst hx; rfl, by intro x hx; simp only [List.mem_cons, List.not_mem_nil, or_false] at hx; subst hx; rfl, fun adr => ?_⟩
 refine rJ7 ?_
 refine bC (E := EE [2999999]) [0, 1, 2, 3, 4, 5, 6] [⟨7, 11, 42, (fe 0 ++ fe 0).map U64⟩] [8] a5 rfl (by kernel_rfl) (by kernel_rfl) (by kernel_rfl) (by kernel_rfl) (by kernel_rfl) (by kernel_rfl) (by decide) (by intro x hx; simp only [List.mem_cons, List.not_mem_nil, or_false] at hx; subst hx; exact bc rfl zv42 rfl) ?_
 refine rJ7 ?_
 refine ⟨_, _, rfl, hGF, by intro x hx; simp only [List.mem_cons, List.not_mem_nil, or_false] at hx; subst hx; rfl, by intro x hx; simp only [List.mem_cons, List.not_mem_nil, or_false] at hx; subst hx; rfl, fun adr => ?_⟩
 refine rJ7 ?_
 refine bC (E := EE [2999999]) [0, 1, 2, 3, 4, 5, 6, 7, 8, 9, 10, 11, 12] [⟨13, 12, 42, (fe 0 ++ fe 0).map U64⟩] [14] a5 rfl (by kernel_rfl) (by kernel_rfl) (by kernel_rfl) (by kernel_rfl) (by kernel_rfl) (by kernel_rfl) (by decide) (by intro x hx; simp only [List.mem_cons, List.not_mem_nil, or_false] at hx; subst hx; exact bc rfl zv42 rfl) ?_
 refine rJ7 ?_
 refine lc ent165 (AW _) ?_
 refine aa ?_
 refine ⟨_, _, rfl, hGF, by intro x hx; simp only [List.mem_cons, List.not_mem_nil, or_false] at hx; subst hx; rfl, by intro x hx; simp only [List.mem_cons, List.not_mem_nil, or_false] at hx; subst hx; rfl, fun adr => ?_⟩
 refine rJ7 ?_
 refine bj (E := EE []) a5 (by kernel_rfl) (by kernel_rfl) (by kernel_rfl) ?_
 refine rJ7 ?_
 refine rt ?_
 exact wd 6 7 8 rfl rfl rfl rfl rfl rfl rfl Tryz.isAgg42 Tryz.sizeOf42 (by simp) (by simp) (by simp) (fun w hw => ⟨rfl, ah hw⟩)
theorem Gf (f : Nat → W2) : Pure Tryz.prog Gt 73 [TV f] (TV (TIf f)) := by
 refine aN Tryz.func73 fun w hw hGF => ?_
 refine xp ?_
 refine lb fun b1 => ?_
 refine la zv44 fun b2 => ?_
 refine aa ?_
 refine bC (E := EE [2999999]) [0, 1, 2, 3] [⟨4, 3, 44, (FM (FF fun _ => ze2) 6).map U64⟩] [5] a5 rfl (by kernel_rfl) (by kernel_rfl) (by kernel_rfl) (by kernel_rfl) (by kernel_rfl) (by kernel_rfl) (by decide) (by intro x hx; simp only [List.mem_cons, List.not_mem_nil, or_false] at hx; subst hx; exact bc rfl zv44 rfl) ?_
 refine rJ7 ?_
 refine lc ent71 (pI _) ?_
 refine rJ7 ?_
 refine ⟨_, _, rfl, hGF, by intro x hx; simp only [List.mem_cons, List.not_mem_nil, or_false] at hx; subst hx; rfl, by intro x hx; simp only [List.mem_cons, List.not_mem_nil, or_false] at hx; subst hx; rfl, fun adr => ?_⟩
 refine rJ7 ?_
 refine xp ?_
 refine bP (0) (12 * (0)) rfl rfl Tryz.underlying44 Tryz.sizeOf42 (by omega) (by omega) (by omega) rfl rfl ?_
 refine aU 3 ((fe (TMf f (tcj f) (0)).1 ++ fe (TMf f (tcj f) (0)).2).map U64) rfl rfl Tryz.isAgg42 Tryz.sizeOf42 (by simp) (cb _ (TMf f (tcj f) (0)) 6 (0) _ (by omega) rfl (rfl)) rfl rfl ?_
 refine bP (2) (12 * (2)) rfl rfl Tryz.underlying44 Tryz.sizeOf42 (by omega) (by omega) (by omega) rfl rfl ?_
 refine aU 3 ((fe (TMf f (tcj f) (2)).1 ++ fe (TMf f (tcj f) (2)).2).map U64) rfl rfl Tryz.isAgg42 Tryz.sizeOf42 (by simp) (cb _ (TMf f (tcj f) (2)) 6 (2) _ (by omega) rfl (rfl)) rfl rfl ?_
 refine bP (4) (12 * (4)) rfl rfl Tryz.underlying44 Tryz.sizeOf42 (by omega) (by omega) (by omega) rfl rfl ?_
 refine aU 3 ((fe (TMf f (tcj f) (4)).1 ++ fe (TMf f (tcj f) (4)).2).map U64) rfl rfl Tryz.isAgg42 Tryz.sizeOf42 (by simp) (cb _ (TMf f (tcj f) (4)) 6 (4) _ (by omega) rfl (rfl)) rfl rfl ?_
 refine lc ent141 (Cj _ _ _) ?_
 refine rJ7 ?_
 refine la zv42 fun b4 => ?_
 refine la zv42 fun b5 => ?_
 refine la zv42 fun b6 => ?_
 refine rJ7 ?_
 refine bj (E := EE []) a5 (by kernel_rfl) (by kernel_rfl) (by kernel_rfl) ?_
 refine rJ7 ?_
 refine lc ent71 (pI _) ?_
 refine rJ7 ?_
 refine BT (iv6 (TMf f (tcj f) 0, TMf f (tcj f) 2, TMf f (tcj f) 4)).1 (iv6 (TMf f (tcj f) 0, TMf f (tcj f) 2, TMf f (tcj f) 4)).2.1 (iv6 (TMf f (tcj f) 0, TMf f (tcj f) 2, TMf f (tcj f) 4)).2.2 rfl rfl rfl rfl rfl ?_
 refine rJ7 ?_
 refine rt ?_
 exact av 2 rfl rfl rfl Tryz.isAgg44 Tryz.sizeOf44 (by simp) (fun w hw => ⟨rfl, ah hw⟩)
end Q6
end
section
open Go.RowKit
theorem ent90 : ae Tryz.prog 90 := fun _ _ => by kernel_rfl
theorem ent151 : ae Tryz.prog 151 := fun _ _ => by kernel_rfl
theorem ent189 : ae Tryz.prog 189 := fun _ _ => by kernel_rfl
theorem ent197 : ae Tryz.prog 197 := fun _ _ => by kernel_rfl
theorem ent93 : ae Tryz.prog 93 := fun _ _ => by kernel_rfl
theorem ent177 : ae Tryz.prog 177 := fun _ _ => by kernel_rfl
theorem ent61 : ae Tryz.prog 61 := fun _ _ => by kernel_rfl
theorem ent84 : ae Tryz.prog 84 := fun _ _ => by kernel_rfl
theorem ent143 : ae Tryz.prog 143 := fun _ _ => by kernel_rfl
theorem ent92 : ae Tryz.prog 92 := fun _ _ => by kernel_rfl
theorem ent76 : ae Tryz.prog 76 := fun _ _ => by kernel_rfl
theorem ent163 : ae Tryz.prog 163 := fun _ _ => by kernel_rfl
theorem ent178 : ae Tryz.prog 178 := fun _ _ => by kernel_rfl
theorem ent91 : ae Tryz.prog 91 := fun _ _ => by kernel_rfl
theorem ent99 : ae Tryz.prog 99 := fun _ _ => by kernel_rfl
theorem ent17 : ae Tryz.prog 17 := fun _ _ => by kernel_rfl
namespace Q6
attribute [local simp] a8 bt aI aC aR a6 aQ aM aW PLl cH cJ N1l cI cL cM bq bv a7 br bh cR
abbrev EV6 (x : W6) : Value := .agg (((fe (x.1).1 ++ fe (x.1).2) ++ ((fe (x.2.1).1 ++ fe (x.2.1).2) ++ (fe (x.2.2).1 ++ fe (x.2.2).2))).map U64).toArray
theorem zv47 (w : World) : (zeroValue 47).run Tryz.prog w = .ok (.agg (((fe 0 ++ fe 0) ++ ((fe 0 ++ fe 0) ++ (fe 0 ++ fe 0))).map U64).toArray) w := by rw [im]; exact (Tryz.zeroValue47 w).trans (by rfl)
theorem iw : Three Tryz.prog 47 ⟨ "C0", 33, 0, false, "", "", 0⟩ ⟨ "C1", 33, 12, false, "", "", 96⟩ ⟨ "C2", 33, 24, false, "", "", 192⟩ 12 (fe 0 ++ fe 0) (fe 0 ++ fe 0) (fe 0 ++ fe 0) := ⟨Tryz.underlying47, rfl, rfl, rfl, Tryz.sizeOf33, Tryz.sizeOf33, Tryz.sizeOf33, zv47, by simp, by simp, by simp⟩
theorem e6 {a b c a' b' c' : W2} (h1 : a = a') (h2 : b = b') (h3 : c = c') : Ending.returned (.agg (((fe (a).1 ++ fe (a).2) ++ ((fe (b).1 ++ fe (b).2) ++ (fe (c).1 ++ fe (c).2))).map U64).toArray) = .returned (.agg (((fe (a').1 ++ fe (a').2) ++ ((fe (b').1 ++ fe (b').2) ++ (fe (c').1 ++ fe (c').2))).map U64).toArray) := by rw [h1, h2, h3]
def q6 : Sh W6 := q2.two (q2.two q2 2) 2
theorem V6 (x : W6) : EV6 x = dn rid (.inl [x.1.1, x.1.2, x.2.1.1, x.2.1.2, x.2.2.1, x.2.2.2]) := by
 show Value.agg _ = Value.agg _
 rw [clv, show cel [x.1.1, x.1.2, x.2.1.1, x.2.1.2, x.2.2.1, x.2.2.2] = fe x.1.1 ++ (fe x.1.2 ++ (fe x.2.1.1 ++ (fe x.2.1.2 ++ (fe x.2.2.1 ++ fe x.2.2.2)))) from rfl]
 rw [List.append_assoc, List.append_assoc]
theorem a9 {f : Nat} {a a' : List Value} {v v' : Value} (ha : a = a') (hv : v = v') (h : Pure Tryz.prog Gt f a' v') : Pure Tryz.prog Gt f a v := by rw [ha, hv]; exact h
theorem l1 {a b : Value} (h : a = b) : [a] = [b] := by rw [h]
theorem l2 {a b c d : Value} (h : a = b) (k : c = d) : [a, c] = [b, d] := by rw [h, k]
theorem l3 {a b c d e f : Value} (h : a = b) (k : c = d) (l : e = f) : [a, c, e] = [b, d, f] := by rw [h, k, l]
theorem t2 {a b c : Value} (h : a = b) : Value.tuple #[a, c] = .tuple #[b, c] := by rw [h]
end Q6
end
section
open Go.RowKit
theorem ent184 : ae Tryz.prog 184 := fun _ _ => by kernel_rfl
namespace Q6
attribute [local simp] a8 bt aI aC aR a6 aQ aM aW PLl cH cJ N1l cI cL cM bq bv a7 br bh cR
theorem rJ9 {Q P : Prop} (k : Q) (h : Q → P := by intro k; (refine LY.run ?_); (repeat (first | refine bH rfl rfl rfl ?_ | refine bd rfl rfl rfl ?_ | ((refine yH rfl rfl ?_ rfl rfl rfl rfl ?_); (· simp)) | ((refine y6 rfl rfl ?_ ?_ rfl rfl rfl rfl ?_); (· simp); (· simp)) | ((refine zl rfl rfl ?_ ?_ ?_ rfl rfl rfl rfl ?_); (· simp); (· simp); (· simp)) | ((refine tk rfl rfl ?_ rfl rfl ?_); (· simp)) | ((refine HJ rfl rfl ?_ rfl rfl ?_); (· simp)) | ((refine IJ rfl rfl ?_ rfl rfl ?_); (· simp)) | ((refine vS hGF rfl rfl rfl ?_ ?_ (ak _) rfl ?_); (· simp); (· simp)) | ((refine FA hGF rfl rfl rfl ?_ ?_ (ak _) rfl ?_); (· simp); (· simp)) | ((refine GY hGF rfl rfl rfl ?_ ?_ (ak _) rfl ?_); (· simp); (· simp)) | refine bw (f := 153) rfl rfl ent153 (Bz _ _) rfl rfl ?_ | refine bw (f := 130) rfl rfl ent130 (k4 _ _) rfl rfl ?_ | refine bw (f := 154) rfl rfl ent154 (uI _ _) rfl rfl ?_ | refine bw (f := 155) rfl rfl ent155 (IK _) rfl rfl ?_ | refine bw (f := 129) rfl rfl ent129 (pg _) rfl rfl ?_)); (first | refine bY ?_ | refine LY.mk ?_); exact k) : P := h k
theorem pJ9 {Q P : Prop} (k : Q) (h : Q → P := by intro k; (refine xp ?_); (refine rJ9 ?_); exact k) : P := h k
def p3 (x : W6) : Nat → W2
 | 0 => x.1
 | 1 => x.2.1
 | _ => x.2.2
theorem zv178 (w : World) : (zeroValue 178).run Tryz.prog w = .ok (.agg ((FM (FF fun _ => ze2) 3).map U64).toArray) w := by
 rw [iT]; exact (Tryz.zeroValue178 w).trans (by rfl)
abbrev TV3 (f : Nat → W2) : Value := .agg ((FM (FF f) 3).map U64).toArray
theorem kA (f : Nat → W2) (i : Nat) : (FF f i).length = 12 := a7 _
attribute [local simp] kA
theorem EF {x y : W6} (h : ∀ j, j < 3 → p3 x j = p3 y j) : x = y := Prod.ext (h 0 (by decide)) (Prod.ext (h 1 (by decide)) (h 2 (by decide)))
theorem HS {Q : Nat → Prop} {k : Nat} (h : ∀ j, j < k → Q j) (hk : Q k) : ∀ j, j < k + 1 → Q j := fun j hj => by
 rcases Nat.lt_or_ge j k with h1 | h1
 ·exact h j h1
 ·obtain rfl : j = k := by omega
  exact hk
theorem wD (x : W6) : Pure Tryz.prog Gt 151 [EV6 x] (TV3 (p3 x)) := by
 refine aN Tryz.func151 fun w hw hGF => ?_
 refine xp ?_
 refine lb fun b1 => ?_
 refine la zv178 fun b2 => ?_
 refine aa ?_
 refine pJ9 ?_
 refine zd (FF (p3 x)) rfl rfl rfl Tryz.underlying178 Tryz.sizeOf33 zv178 (a7 _) (a7 _) (a7 _) rfl rfl ?_
 refine rJ9 ?_
 refine rt ?_
 exact av 2 rfl rfl rfl Tryz.isAgg178 Tryz.sizeOf178 (by simp) (fun w hw => ⟨rfl, ah hw⟩)
theorem k6of (f : Nat → W2) : Pure Tryz.prog Gt 189 [TV3 f] (EV6 (f 0, f 1, f 2)) := by
 refine aN Tryz.func189 fun w hw hGF => ?_
 refine xp ?_
 refine lb fun b1 => ?_
 refine la zv47 fun b2 => ?_
 refine aa ?_
 refine xp ?_
 refine bP (0) (12 * (0)) rfl rfl Tryz.underlying178 Tryz.sizeOf33 (by omega) (by omega) (by omega) rfl rfl ?_
 refine aU 1 ((fe (f 0).1 ++ fe (f 0).2).map U64) rfl rfl Tryz.isAgg33 Tryz.sizeOf33 (by simp) (cb _ (f 0) 3 (0) _ (by omega) rfl (rfl)) rfl rfl ?_
 refine bP (1) (12 * (1)) rfl rfl Tryz.underlying178 Tryz.sizeOf33 (by omega) (by omega) (by omega) rfl rfl ?_
 refine aU 1 ((fe (f 1).1 ++ fe (f 1).2).map U64) rfl rfl Tryz.isAgg33 Tryz.sizeOf33 (by simp) (cb _ (f 1) 3 (1) _ (by omega) rfl (rfl)) rfl rfl ?_
 refine bP (2) (12 * (2)) rfl rfl Tryz.underlying178 Tryz.sizeOf33 (by omega) (by omega) (by omega) rfl rfl ?_
 refine aU 1 ((fe (f 2).1 ++ fe (f 2).2).map U64) rfl rfl Tryz.isAgg33 Tryz.sizeOf33 (by simp) (cb _ (f 2) 3 (2) _ (by omega) rfl (rfl)) rfl rfl ?_
 refine d4 iw rfl rfl rfl (by simp) (by simp) (by simp) rfl rfl ?_
 refine rJ9 ?_
 refine rt ?_
 exact av 2 rfl rfl rfl Tryz.isAgg47 Tryz.sizeOf47 (by simp) (fun w hw => ⟨rfl, ah hw⟩)
theorem fo (x : W6) (w : World) (hw : Gt w) : Calls Tryz.prog 143 [EV6 x].toArray w (fun e w' => ∃ b1, e = .returned (.func (.func 184) #[] #[.pointer (some ⟨b1, 0, none⟩)]) ∧ Grow w w' ∧ w.heap.size ≤ b1 ∧ OwnB w' b1 (((fe (x.1).1 ++ fe (x.1).2) ++ ((fe (x.2.1).1 ++ fe (x.2.1).2) ++ (fe (x.2.2).1 ++ fe (x.2.2).2))).map U64) 47) := by
 have hGF : BOk Gt (pl w) := gt_low.plain hw
 refine aF (G := Gt) Tryz.func143 rfl rfl (Hp (pl w) []) (aP (pl w) trivial ap) (aw hGF) ?_
 refine xp ?_
 refine lb fun b1 => ?_
 refine rJ9 ?_
 refine xp ?_
 refine gP rfl rfl rfl rfl ?_
 refine rJ9 ?_
 refine rt ?_
 exact bg rfl rfl (fun w hw => ⟨b1, rfl, ah hw, (hw.own 1 b1 _ _ rfl).2.elim id False.elim, (hw.own 1 b1 _ _ rfl).1⟩)
def PS (x : W6) : List (List Value) := (List.range 3).map fun (k : Nat) => [I (k : Int), EV2 (p3 x k)]
theorem kj (x : W6) : (PS x).length = 3 := by rw [PS, List.length_map, List.length_range]
theorem vM (x : W6) (k : Nat) (h : k < 3) : (PS x)[k]? = some [I (k : Int), EV2 (p3 x k)] := by
 rw [PS, List.getElem?_map, List.getElem?_range h]; rfl
theorem uY (x : W6) (k : Nat) (v : List Value) (h : (PS x)[k]? = some v) : k < 3 ∧ v = [I (k : Int), EV2 (p3 x k)] := by
 have hk : k < 3 := by
  rcases Nat.lt_or_ge k 3 with hk | hk
  ·exact hk
  ·rw [List.getElem?_eq_none (by rw [kj]; exact hk)] at h; cases h
 exact ⟨hk, (Option.some.inj ((vM x k hk).symm.trans h)).symm⟩
def RdP (bb : Nat) (x : W6) : Cls := fun w => w.rangeAt bb 0 (((fe (x.1).1 ++ fe (x.1).2) ++ ((fe (x.2.1).1 ++ fe (x.2.1).2) ++ (fe (x.2.2).1 ++ fe (x.2.2).2))).map U64)
theorem xf (bb : Nat) (x : W6) : gh Tryz.prog Gt 184 [.pointer (some ⟨bb, 0, none⟩)] (PS x) (RdP bb x) := by
 intro l J Jx hJ hJx hRd hGx hY w hj
 have okJ : ∀ k, BOk Gt (Bi w (fun Y => J Y k)) := fun k => ⟨fun _ _ _ h => (hRd _ _ _ h.rid).1, hJ k⟩
 have okX : ∀ k, BOk Gt (Bi w (fun Y => Jx Y k)) := fun k => ⟨fun _ _ _ h => hGx _ _ _ h.rid, hJx k⟩
 have c1 : ∀ k L w', Hp (Bi w (fun Y => J Y k)) L w' → RdP bb x w' := fun k L w' h => (hRd _ _ _ h.rid).2
 refine aF (G := Gt) Tryz.func184 rfl rfl (Hp (Bi w (fun Y => J Y 0)) []) (aP (Bi w _) hj (hJ 0)) (aw (okJ 0)) ?_
 refine xp ?_
 refine d5 rfl Tryz.isAgg47 Tryz.sizeOf47 (by simp) (fun w h => c1 _ _ w h) rfl rfl ?_
 refine lc ent151 (wD _) ?_
 refine rJ9 ?_
 refine ao ?_
 refine fj (ι := { i : Nat // i ≤ 3 }) (fun y => [(0, .func (.yield l) #[] #[]), (1, .pointer (some ⟨bb, 0, none⟩)), (6, TV3 (p3 x)), (7, I (y.1 : Int))]) (fun y => Bi w (fun Y => J Y y.1)) (fun y => []) (fun y => 3 - y.1) ⟨0, Nat.zero_le _⟩ (fun _ => okJ _) rfl ⟨rfl, rfl, rfl, rfl, trivial⟩ trivial ?_
 rintro ⟨i, hi⟩
 dsimp only
 refine xp ?_
 refine ab rfl rfl (fun _ => rfl) (fun _ => aH _ _ _) rfl rfl ?_
 refine aa ?_
 refine am ?_
 refine bF rfl (fun hc => ?_) (fun hc => ?_)
 ·have hi2 : i < 3 := by simp at hc; omega
  refine aB ?_
  refine am ?_
  refine ao ?_
  refine pJ9 ?_
  refine sV (FF (p3 x)) (i) rfl rfl Tryz.underlying178 Tryz.sizeOf33 Tryz.isAgg33 (by omega) (by omega) (a7 _) rfl rfl ?_
  refine ca 4 (okJ _) zv33 rfl rfl ?_
  intro b4
  refine rJ9 ?_
  refine ai 4 (okJ _) rfl rfl rfl Tryz.sizeOf33 (by simp) (by simp) (ak _) rfl ?_
  refine aa ?_
  refine pJ9 ?_
  refine ef (hY.b (k := i) (vM x i (by omega)) w) (okJ _) (okX _) rfl rfl rfl rfl rfl ?_ ?_
  ·skip
   refine bJ rfl (fun _ => bu _) rfl rfl ?_
   refine aa ?_
   refine ba rfl ?_
   refine aB ?_
   refine au (E := EE []) ?_
   refine ab rfl rfl (fun _ => rfl) (fun _ => aA _ _ _ (by unfold inI; omega)) rfl rfl ?_
   refine rJ9 ?_
   repeat (refine aL ?_)
   refine aZ ?_
   exact ⟨rfl, ⟨i + 1, by omega⟩, _, by show 3 - (i + 1) < 3 - i; omega, rfl, ⟨rfl, rfl, rfl, rfl, trivial⟩, trivial⟩
  ·skip
   refine bJ rfl (fun _ => bu _) rfl rfl ?_
   refine aa ?_
   refine bL rfl ?_
   refine rt ?_
   repeat (first | refine dw ?_ | refine ce ?_ | refine dx rfl ?_ | refine bl ?_ | refine bn ?_)
   exact dX rfl (fun w hw => ⟨⟨_, rfl⟩, .inr ⟨_, cn (hJx _) hw.rid⟩⟩)
 ·obtain rfl : i = 3 := by simp at hc; omega
  refine aV ?_
  repeat (first | refine dw ?_ | refine ce ?_ | refine dx rfl ?_ | refine bl ?_ | refine bn ?_)
  refine dC rfl (fun w hw => ⟨⟨_, rfl⟩, .inl ?_⟩)
  have := cn (hJ _) hw.rid
  rw [kj]
  exact this
theorem AT  : Pure Tryz.prog Gt 61 [] (EV6 K6.one) := (a9 rfl (V6 _) (pE TO42 Tryz.func61 [] (.inl (.inl [K6.one.1.1, K6.one.1.2, K6.one.2.1.1, K6.one.2.1.2, K6.one.2.2.1, K6.one.2.2.2])) (let t0 := on2; (.inl (.inl [t0.1, t0.2, 0, 0, 0, 0]), [])) [] (by kernel_rfl) aG rfl))
theorem rJ {f : Nat} {g : W6} (en : ae Tryz.prog f) (h : Pure Tryz.prog Gt f [] (EV6 g)) : Snd Tryz.prog Gt f (c0 q6.rd g) := mD q6.rd en (a9 rfl (V6 _).symm h)
def TO43 : Tb Tryz.prog Gt := TO42.add (rJ (g := K6.one) ent61 AT)
theorem jS (x y : W6) : Pure Tryz.prog Gt 84 [EV6 x, EV6 y] (.bool (decide (x = y))) := by
 intro w hw
 have hGF : BOk Gt (pl w) := gt_low.plain hw
 refine bT (G := Gt) Tryz.func84 rfl rfl (Hp (pl w) []) (aP (pl w) trivial ap) (aw hGF) ?_
 refine ac (E := EE [143]) ?_
 refine lb fun b2 => ?_
 refine lb fun b3 => ?_
 refine ei 4 hGF Tryz.zeroValue4 rfl rfl ?_
 intro b4
 refine aa ?_
 refine ac (E := EE [143]) ?_
 refine rJ9 ?_
 refine lc ent151 (wD _) ?_
 refine la zv178 fun b5 => ?_
 refine rJ9 ?_
 refine am ?_
 refine ac (E := EE [143]) ?_
 refine rJ9 ?_
 refine cy rfl rfl ent143 rfl rfl (fun w' hw' => (fo x w' (hGF.g _ _ _ hw')).mono fun e' w'' h => ?_)
 obtain ⟨c1, rfl, hg, h1, ho⟩ := h
 refine ⟨_, _, rfl, aw hGF, hw'.news ap hg [(33, c1, ((fe (x.1).1 ++ fe (x.1).2) ++ ((fe (x.2.1).1 ++ fe (x.2.1).2) ++ (fe (x.2.2).1 ++ fe (x.2.2).2))).map U64, 47)] ?_ dj, ?_⟩
 ·intro n' b' c' t' hl
  rcases bp hl with ⟨_, e⟩ | ⟨_, hl⟩
  ·cases e; exact ⟨h1, ho⟩
  ·cases hl
 clear hw' hg h1 ho
 refine aa ?_
 refine ao ?_
 refine n4 (fun k => ∀ j, j < k → p3 x j = p3 y j) (fun _ => pl w) (fun _ _ => pl w) (fun _ => hGF) (fun _ _ => hGF) (fun _ => rfl) (fun _ _ => rfl) rfl rfl ent184 (xf c1 x) (fun v hv => by obtain ⟨k, hk, rfl⟩ := List.mem_map.1 hv; rfl) rfl (fun k => [(2, b2, ((fe (x.1).1 ++ fe (x.1).2) ++ ((fe (x.2.1).1 ++ fe (x.2.1).2) ++ (fe (x.2.2).1 ++ fe (x.2.2).2))).map U64, 47), (3, b3, ((fe (y.1).1 ++ fe (y.1).2) ++ ((fe (y.2.1).1 ++ fe (y.2.1).2) ++ (fe (y.2.2).1 ++ fe (y.2.2).2))).map U64, 47), (4, b4, [.bool false], 4), (5, b5, (FM (FF (p3 y)) 3).map U64, 178), (33, c1, ((fe (x.1).1 ++ fe (x.1).2) ++ ((fe (x.2.1).1 ++ fe (x.2.1).2) ++ (fe (x.2.2).1 ++ fe (x.2.2).2))).map U64, 47)]) (fun c _ L' => c = .ret ∧ lkB L' 4 = some (b4, [.bool false], 4) ∧ ¬ x = y) (fun j h => absurd h (Nat.not_lt_zero j)) ⟨rfl, rfl, rfl, rfl, rfl, trivial⟩ (fun k _ w' h => cN (n := 33) rfl w' h) ?_ ?_ ?_ (fun D c k L' hD h => by obtain ⟨rfl, hl, hne⟩ := h; refine nN ?_; refine bn ?_; refine bl ?_; exact (c8 (.inl rfl) ap (gN 4 rfl rfl hl Tryz.isAgg4 (fun w hw => ⟨congrArg (fun b => Ending.returned (.bool b)) (decide_eq_false hne).symm, ah hw⟩))))
 ·intro k v hx hQ R hR
  obtain ⟨hk, rfl⟩ := uY x k v hx
  refine ac (E := EE [143]) ?_
  refine rJ9 ?_
  refine au (E := EE [143]) ?_
  refine ca 7 (hR (pl w) rfl hGF).1 zv33 rfl rfl ?_
  intro b7
  refine ai 7 (hR (pl w) rfl hGF).1 rfl rfl rfl Tryz.sizeOf33 (by simp) (by simp) (ak _) rfl ?_
  refine aa ?_
  refine ⟨rfl, _, rfl, ?_⟩
  refine ao ?_
  refine bj (E := EE [143]) a5 (by kernel_rfl) (by kernel_rfl) (by kernel_rfl) ?_
  refine rJ9 ?_
  refine bP (k) (12 * (k)) rfl rfl Tryz.underlying178 Tryz.sizeOf33 (by omega) (by omega) (by omega) rfl rfl ?_
  refine aU 5 ((fe (p3 y k).1 ++ fe (p3 y k).2).map U64) rfl rfl Tryz.isAgg33 Tryz.sizeOf33 (by simp) (cb _ (p3 y k) 3 (k) _ (by omega) rfl (rfl)) rfl rfl ?_
  refine lc ent152 (sg _ _) ?_
  refine bJ rfl (fun _ => bu _) rfl rfl ?_
  refine aa ?_
  refine bF rfl (fun hc => ?_) (fun hc => ?_)
  ·have hc : ¬ p3 x k = p3 y k := by simpa using hc
   refine ac (E := EE [143]) ?_
   refine cO 4 (hR (pl w) rfl hGF).2.1 rfl rfl rfl Tryz.sizeOf4 rfl (by simp [*]) rfl ?_
   refine aa ?_
   refine rt ?_
   repeat (first | refine bl ?_ | refine bn ?_)
   exact ⟨_, rfl, rfl, rfl, fun e => hc (by rw [e])⟩
  ·have hc : p3 x k = p3 y k := by simpa using hc
   refine aB ?_
   repeat (refine aL ?_)
   exact ⟨_, rfl, CT (HS hQ hc) ⟨rfl, rfl, rfl, rfl, rfl, trivial⟩⟩
 ·intro hQ D hD
  rw [kj] at *
  have hxy := EF hQ
  refine ac (E := EE [143]) ?_
  refine cO 4 hD rfl rfl rfl Tryz.sizeOf4 rfl (by simp [*]) rfl ?_
  refine aa ?_
  refine rt ?_
  exact c8 (.inl rfl) ap (gN 4 rfl rfl rfl Tryz.isAgg4 (fun w hw => ⟨congrArg (fun b => Ending.returned (.bool b)) (decide_eq_true hxy).symm, ah hw⟩))
 ·intro D hb
  refine aL ?_
  refine aZ ?_
  exact kD hb
theorem Gy {x : W6} {k : Nat} (hk : k < 3) (h : ¬ p3 x k = ze2) : ¬ x = K6.zero := fun e => h (by
 subst e
 match k, hk with
 | 0, _ => rfl
 | 1, _ => rfl
 | 2, _ => rfl)
theorem Hn {x : W6} (h : ∀ j, j < 3 → p3 x j = ze2) : x = K6.zero := Prod.ext (h 0 (by decide)) (Prod.ext (h 1 (by decide)) (h 2 (by decide)))
theorem iG (x : W6) : Pure Tryz.prog Gt 76 [EV6 x] (.bool (decide (x = K6.zero))) := by
 intro w hw
 have hGF : BOk Gt (pl w) := gt_low.plain hw
 refine bT (G := Gt) Tryz.func76 rfl rfl (Hp (pl w) []) (aP (pl w) trivial ap) (aw hGF) ?_
 refine ac (E := EE [143]) ?_
 refine lb fun b1 => ?_
 refine ei 2 hGF Tryz.zeroValue4 rfl rfl ?_
 intro b2
 refine aa ?_
 refine am ?_
 refine ac (E := EE [143]) ?_
 refine rJ9 ?_
 refine cy rfl rfl ent143 rfl rfl (fun w' hw' => (fo x w' (hGF.g _ _ _ hw')).mono fun e' w'' h => ?_)
 obtain ⟨c1, rfl, hg, h1, ho⟩ := h
 refine ⟨_, _, rfl, aw hGF, hw'.news ap hg [(33, c1, ((fe (x.1).1 ++ fe (x.1).2) ++ ((fe (x.2.1).1 ++ fe (x.2.1).2) ++ (fe (x.2.2).1 ++ fe (x.2.2).2))).map U64, 47)] ?_ dj, ?_⟩
 ·intro n' b' c' t' hl
  rcases bp hl with ⟨_, e⟩ | ⟨_, hl⟩
  ·cases e; exact ⟨h1, ho⟩
  ·cases hl
 clear hw' hg h1 ho
 refine aa ?_
 refine ao ?_
 refine n4 (fun k => ∀ j, j < k → p3 x j = ze2) (fun _ => pl w) (fun _ _ => pl w) (fun _ => hGF) (fun _ _ => hGF) (fun _ => rfl) (fun _ _ => rfl) rfl rfl ent184 (xf c1 x) (fun v hv => by obtain ⟨k, hk, rfl⟩ := List.mem_map.1 hv; rfl) rfl (fun k => [(1, b1, ((fe (x.1).1 ++ fe (x.1).2) ++ ((fe (x.2.1).1 ++ fe (x.2.1).2) ++ (fe (x.2.2).1 ++ fe (x.2.2).2))).map U64, 47), (2, b2, [.bool false], 4), (33, c1, ((fe (x.1).1 ++ fe (x.1).2) ++ ((fe (x.2.1).1 ++ fe (x.2.1).2) ++ (fe (x.2.2).1 ++ fe (x.2.2).2))).map U64, 47)]) (fun c _ L' => c = .ret ∧ lkB L' 2 = some (b2, [.bool false], 4) ∧ ¬ x = K6.zero) (fun j h => absurd h (Nat.not_lt_zero j)) ⟨rfl, rfl, rfl, trivial⟩ (fun k _ w' h => cN (n := 33) rfl w' h) ?_ ?_ ?_ (fun D c k L' hD h => by obtain ⟨rfl, hl, hne⟩ := h; refine nN ?_; refine bn ?_; refine bl ?_; exact (c8 (.inl rfl) ap (gN 2 rfl rfl hl Tryz.isAgg4 (fun w hw => ⟨congrArg (fun b => Ending.returned (.bool b)) (decide_eq_false hne).symm, ah hw⟩))))
 ·intro k v hx hQ R hR
  obtain ⟨hk, rfl⟩ := uY x k v hx
  refine au (E := EE [143]) ?_
  refine ca 4 (hR (pl w) rfl hGF).1 zv33 rfl rfl ?_
  intro b4
  refine ai 4 (hR (pl w) rfl hGF).1 rfl rfl rfl Tryz.sizeOf33 (by simp) (by simp) (ak _) rfl ?_
  refine aa ?_
  refine ⟨rfl, _, rfl, ?_⟩
  refine ao ?_
  refine ac (E := EE [143]) ?_
  refine rJ9 ?_
  refine lc ent102 (o6 _) ?_
  refine bJ rfl (fun _ => bu _) rfl rfl ?_
  refine aa ?_
  refine bF rfl (fun hc => ?_) (fun hc => ?_)
  ·have hc : ¬ p3 x k = ze2 := by simpa using hc
   refine ac (E := EE [143]) ?_
   refine cO 2 (hR (pl w) rfl hGF).2.1 rfl rfl rfl Tryz.sizeOf4 rfl (by simp [*]) rfl ?_
   refine aa ?_
   refine rt ?_
   repeat (first | refine bl ?_ | refine bn ?_)
   exact ⟨_, rfl, rfl, rfl, Gy hk hc⟩
  ·have hc : p3 x k = ze2 := by simpa using hc
   refine aB ?_
   repeat (refine aL ?_)
   exact ⟨_, rfl, CT (HS hQ hc) ⟨rfl, rfl, rfl, trivial⟩⟩
 ·intro hQ D hD
  rw [kj] at *
  have hxy := Hn hQ
  refine ac (E := EE [143]) ?_
  refine cO 2 hD rfl rfl rfl Tryz.sizeOf4 rfl (by simp [*]) rfl ?_
  refine aa ?_
  refine rt ?_
  exact c8 (.inl rfl) ap (gN 2 rfl rfl rfl Tryz.isAgg4 (fun w hw => ⟨congrArg (fun b => Ending.returned (.bool b)) (decide_eq_true hxy).symm, ah hw⟩))
 ·intro D hb
  refine aL ?_
  refine aZ ?_
  exact kD hb
theorem wM (x y : W6) : Pure Tryz.prog Gt 91 [EV6 x, EV6 y] (EV6 (K6.add x y)) := (a9 (l2 (V6 _) (V6 _)) (V6 _) (pE TO43 Tryz.func91 [.inl [x.1.1, x.1.2, x.2.1.1, x.2.1.2, x.2.2.1, x.2.2.2], .inl [y.1.1, y.1.2, y.2.1.1, y.2.1.2, y.2.2.1, y.2.2.2]] (.inl (.inl [(K6.add x y).1.1, (K6.add x y).1.2, (K6.add x y).2.1.1, (K6.add x y).2.1.2, (K6.add x y).2.2.1, (K6.add x y).2.2.2])) (let t0 := ad2 (x.1.1, x.1.2) (y.1.1, y.1.2); let t1 := ad2 (x.2.1.1, x.2.1.2) (y.2.1.1, y.2.1.2); let t2 := ad2 (x.2.2.1, x.2.2.2) (y.2.2.1, y.2.2.2); (.inl (.inl [t0.1, t0.2, t1.1, t1.2, t2.1, t2.2]), [])) [] (by kernel_rfl) aG rfl))
theorem bQ {f : Nat} {g : W6 → W6 → W6} (en : ae Tryz.prog f) (h : ∀ a b, Pure Tryz.prog Gt f [EV6 a, EV6 b] (EV6 (g a b))) : Snd Tryz.prog Gt f (c2 q6.ag q6.ag q6.rd g) := dB q6.ag q6.ag q6.rd en (fun a b => a9 (l2 (V6 _).symm (V6 _).symm) (V6 _).symm (h a b))
def TO44 : Tb Tryz.prog Gt := TO43.add (bQ (g := K6.add) ent91 wM)
theorem vD (x y : W6) : Pure Tryz.prog Gt 93 [EV6 x, EV6 y] (EV6 (sb6 x y)) := (a9 (l2 (V6 _) (V6 _)) (V6 _) (pE TO44 Tryz.func93 [.inl [x.1.1, x.1.2, x.2.1.1, x.2.1.2, x.2.2.1, x.2.2.2], .inl [y.1.1, y.1.2, y.2.1.1, y.2.1.2, y.2.2.1, y.2.2.2]] (.inl (.inl [(sb6 x y).1.1, (sb6 x y).1.2, (sb6 x y).2.1.1, (sb6 x y).2.1.2, (sb6 x y).2.2.1, (sb6 x y).2.2.2])) (let t0 := sb2 (x.1.1, x.1.2) (y.1.1, y.1.2); let t1 := sb2 (x.2.1.1, x.2.1.2) (y.2.1.1, y.2.1.2); let t2 := sb2 (x.2.2.1, x.2.2.2) (y.2.2.1, y.2.2.2); (.inl (.inl [t0.1, t0.2, t1.1, t1.2, t2.1, t2.2]), [])) [] (by kernel_rfl) aG rfl))
def TO45 : Tb Tryz.prog Gt := TO44.add (bQ (g := sb6) ent93 vD)
theorem x9 (x : W6) : Pure Tryz.prog Gt 99 [EV6 x] (EV6 (K6.neg x)) := (a9 (l1 (V6 _)) (V6 _) (pE TO45 Tryz.func99 [.inl [x.1.1, x.1.2, x.2.1.1, x.2.1.2, x.2.2.1, x.2.2.2]] (.inl (.inl [(K6.neg x).1.1, (K6.neg x).1.2, (K6.neg x).2.1.1, (K6.neg x).2.1.2, (K6.neg x).2.2.1, (K6.neg x).2.2.2])) (let t0 := ng2 (x.1.1, x.1.2); let t1 := ng2 (x.2.1.1, x.2.1.2); let t2 := ng2 (x.2.2.1, x.2.2.2); (.inl (.inl [t0.1, t0.2, t1.1, t1.2, t2.1, t2.2]), [])) [] (by kernel_rfl) aG rfl))
theorem bS {f : Nat} {g : W6 → W6} (en : ae Tryz.prog f) (h : ∀ a, Pure Tryz.prog Gt f [EV6 a] (EV6 (g a))) : Snd Tryz.prog Gt f (c1 q6.ag q6.rd g) := dK q6.ag q6.rd en (fun a => a9 (l1 (V6 _).symm) (V6 _).symm (h a))
def TO46 : Tb Tryz.prog Gt := TO45.add (bS (g := K6.neg) ent99 x9)
theorem yo (x y : W6) : Pure Tryz.prog Gt 90 [EV6 x, EV6 y] (EV6 (K6.mul x y)) := by
 refine aN Tryz.func90 fun w hw hGF => ?_
 refine xp ?_
 refine lb fun b2 => ?_
 refine lb fun b3 => ?_
 refine la zv47 fun b4 => ?_
 refine aa ?_
 refine bC (E := EE [2999999]) [0, 1, 2, 3, 4, 5, 6, 7, 8, 9, 10, 11, 12, 13, 14] [⟨15, 5, 33, (fe 0 ++ fe 0).map U64⟩, ⟨16, 6, 33, (fe 0 ++ fe 0).map U64⟩, ⟨17, 7, 33, (fe 0 ++ fe 0).map U64⟩] [18, 19, 20] a5 rfl (by kernel_rfl) (by kernel_rfl) (by kernel_rfl) (by kernel_rfl) (by kernel_rfl) (by kernel_rfl) (by decide) (by intro x hx; simp only [List.mem_cons, List.not_mem_nil, or_false] at hx; rcases hx with rfl | rfl | rfl <;> exact bc rfl zv33 rfl) ?_
 refine rJ9 ?_
 refine ⟨_, _, rfl, hGF, by intro x hx; simp only [List.mem_cons, List.not_mem_nil, or_false] at hx; rcases hx with rfl | rfl | rfl <;> rfl, by intro x hx; simp only [List.mem_cons, List.not_mem_nil, or_false] at hx; rcases hx with rfl | rfl | rfl <;> rfl, fun adr => ?_⟩
 refine rJ9 ?_
 refine bC (E := EE [2999999]) [0, 1, 2, 3, 4, 5, 6, 7, 8, 9, 10, 11, 12, 13, 14] [⟨15, 8, 33, (fe 0 ++ fe 0).map U64⟩] [16] a5 rfl (by kernel_rfl) (by kernel_rfl) (by kernel_rfl) (by kernel_rfl) (by kernel_rfl) (by kernel_rfl) (by decide) (by intro x hx; simp only [List.mem_cons, List.not_mem_nil, or_false] at hx; subst hx; exact bc rfl zv33 rfl) ?_
 refine rJ9 ?_
 refine ⟨_, _, rfl, hGF, by intro x hx; simp only [List.mem_cons, List.not_mem_nil, or_false] at hx; subst hx; rfl, by intro x hx; simp only [List.mem_cons, List.not_mem_nil, or_false] at hx; subst hx; rfl, fun adr => ?_⟩
 refine rJ9 ?_
 refine bC (E := EE [2999999]) [0, 1, 2, 3, 4, 5, 6, 7, 8, 9, 10, 11, 12, 13, 14] [⟨15, 9, 33, (fe 0 ++ fe 0).map U64⟩] [16] a5 rfl (by kernel_rfl) (by kernel_rfl) (by kernel_rfl) (by kernel_rfl) (by kernel_rfl) (by kernel_rfl) (by decide) (by intro x hx; simp only [List.mem_cons, List.not_mem_nil, or_false] at hx; subst hx; exact bc rfl zv33 rfl) ?_
 refine rJ9 ?_
 refine ⟨_, _, rfl, hGF, by intro x hx; simp only [List.mem_cons, List.not_mem_nil, or_false] at hx; subst hx; rfl, by intro x hx; simp only [List.mem_cons, List.not_mem_nil, or_false] at hx; subst hx; rfl, fun adr => ?_⟩
 refine rJ9 ?_
 refine bC (E := EE [2999999]) [0, 1, 2, 3, 4, 5, 6, 7, 8, 9, 10, 11, 12, 13, 14] [⟨15, 10, 33, (fe 0 ++ fe 0).map U64⟩] [16] a5 rfl (by kernel_rfl) (by kernel_rfl) (by kernel_rfl) (by kernel_rfl) (by kernel_rfl) (by kernel_rfl) (by decide) (by intro x hx; simp only [List.mem_cons, List.not_mem_nil, or_false] at hx; subst hx; exact bc rfl zv33 rfl) ?_
 refine rJ9 ?_
 refine ⟨_, _, rfl, hGF, by intro x hx; simp only [List.mem_cons, List.not_mem_nil, or_false] at hx; subst hx; rfl, by intro x hx; simp only [List.mem_cons, List.not_mem_nil, or_false] at hx; subst hx; rfl, fun adr => ?_⟩
 refine rJ9 ?_
 refine bj (E := EE []) a5 (by kernel_rfl) (by kernel_rfl) (by kernel_rfl) ?_
 refine rJ9 ?_
 refine d4 iw rfl rfl rfl (by simp) (by simp) (by simp) rfl rfl ?_
 refine rJ9 ?_
 refine rt ?_
 exact av 4 rfl rfl rfl Tryz.isAgg47 Tryz.sizeOf47 (by simp) (fun w hw => ⟨e6 (zq R2 [x.1, x.2.1, x.2.2, y.1, y.2.1, y.2.2, XI] (ta (tm j0 j3) (txi 6 (tsb (tsb (tm (ta j1 j2) (ta j4 j5)) (tm j1 j4)) (tm j2 j5)) rfl)) (ta (tm j0 j3) (tm j6 (ta (tm j1 j5) (tm j2 j4))))) (zq R2 [x.1, x.2.1, x.2.2, y.1, y.2.1, y.2.2, XI] (ta (tsb (tsb (tm (ta j0 j1) (ta j3 j4)) (tm j0 j3)) (tm j1 j4)) (txi 6 (tm j2 j5) rfl)) (ta (ta (tm j0 j4) (tm j1 j3)) (tm j6 (tm j2 j5)))) (zq R2 [x.1, x.2.1, x.2.2, y.1, y.2.1, y.2.2, XI] (ta (tsb (tsb (tm (ta j0 j2) (ta j3 j5)) (tm j0 j3)) (tm j2 j5)) (tm j1 j4)) (ta (ta (tm j0 j5) (tm j1 j4)) (tm j2 j3))), ah hw⟩)
def TO47 : Tb Tryz.prog Gt := TO46.add (bQ (g := K6.mul) ent90 yo)
theorem kE (x : W6) : Pure Tryz.prog Gt 177 [EV6 x] (EV6 (K6.mul x x)) := by
 refine aN Tryz.func177 fun w hw hGF => ?_
 refine xp ?_
 refine lb fun b1 => ?_
 refine la zv47 fun b2 => ?_
 refine aa ?_
 refine bC (E := EE [2999999]) [0, 1, 2, 3, 4, 5] [⟨6, 3, 33, (fe 0 ++ fe 0).map U64⟩, ⟨7, 4, 33, (fe 0 ++ fe 0).map U64⟩] [8, 9] a5 rfl (by kernel_rfl) (by kernel_rfl) (by kernel_rfl) (by kernel_rfl) (by kernel_rfl) (by kernel_rfl) (by decide) (by intro x hx; simp only [List.mem_cons, List.not_mem_nil, or_false] at hx; rcases hx with rfl | rfl <;> exact bc rfl zv33 rfl) ?_
 refine rJ9 ?_
 refine ⟨_, _, rfl, hGF, by intro x hx; simp only [List.mem_cons, List.not_mem_nil, or_false] at hx; rcases hx with rfl | rfl <;> rfl, by intro x hx; simp only [List.mem_cons, List.not_mem_nil, or_false] at hx; rcases hx with rfl | rfl <;> rfl, fun adr => ?_⟩
 refine rJ9 ?_
 refine bC (E := EE [2999999]) [0, 1, 2, 3, 4, 5, 6, 7, 8, 9] [⟨10, 5, 33, (fe 0 ++ fe 0).map U64⟩, ⟨11, 6, 33, (fe 0 ++ fe 0).map U64⟩] [12, 13] a5 rfl (by kernel_rfl) (by kernel_rfl) (by kernel_rfl) (by kernel_rfl) (by kernel_rfl) (by kernel_rfl) (by decide) (by intro x hx; simp only [List.mem_cons, List.not_mem_nil, or_false] at hx; rcases hx with rfl | rfl <;> exact bc rfl zv33 rfl) ?_
 refine rJ9 ?_
 refine ⟨_, _, rfl, hGF, by intro x hx; simp only [List.mem_cons, List.not_mem_nil, or_false] at hx; rcases hx with rfl | rfl <;> rfl, by intro x hx; simp only [List.mem_cons, List.not_mem_nil, or_false] at hx; rcases hx with rfl | rfl <;> rfl, fun adr => ?_⟩
 refine rJ9 ?_
 refine bj (E := EE []) a5 (by kernel_rfl) (by kernel_rfl) (by kernel_rfl) ?_
 refine rJ9 ?_
 refine bC (E := EE [2999999]) [0, 1, 2, 3, 4, 5, 6, 7, 8] [⟨9, 7, 33, (fe 0 ++ fe 0).map U64⟩] [10] a5 rfl (by kernel_rfl) (by kernel_rfl) (by kernel_rfl) (by kernel_rfl) (by kernel_rfl) (by kernel_rfl) (by decide) (by intro x hx; simp only [List.mem_cons, List.not_mem_nil, or_false] at hx; subst hx; exact bc rfl zv33 rfl) ?_
 refine rJ9 ?_
 refine ⟨_, _, rfl, hGF, by intro x hx; simp only [List.mem_cons, List.not_mem_nil, or_false] at hx; subst hx; rfl, by intro x hx; simp only [List.mem_cons, List.not_mem_nil, or_false] at hx; subst hx; rfl, fun adr => ?_⟩
 refine rJ9 ?_
 refine bj (E := EE []) a5 (by kernel_rfl) (by kernel_rfl) (by kernel_rfl) ?_
 refine rJ9 ?_
 refine d4 iw rfl rfl rfl (by simp) (by simp) (by simp) rfl rfl ?_
 refine rJ9 ?_
 refine rt ?_
 exact av 2 rfl rfl rfl Tryz.isAgg47 Tryz.sizeOf47 (by simp) (fun w hw => ⟨e6 (zq R2 [x.1, x.2.1, x.2.2, XI] (ta (tm j0 j0) (txi 3 (ta (tm j1 j2) (tm j1 j2)) rfl)) (ta (tm j0 j0) (tm j3 (ta (tm j1 j2) (tm j2 j1))))) (zq R2 [x.1, x.2.1, x.2.2, XI] (ta (ta (tm j0 j1) (tm j0 j1)) (txi 3 (tm j2 j2) rfl)) (ta (ta (tm j0 j1) (tm j1 j0)) (tm j3 (tm j2 j2)))) (zq R2 [x.1, x.2.1, x.2.2, XI] (tsb (tsb (ta (ta (tm (ta (tsb j0 j1) j2) (ta (tsb j0 j1) j2)) (ta (tm j0 j1) (tm j0 j1))) (ta (tm j1 j2) (tm j1 j2))) (tm j0 j0)) (tm j2 j2)) (ta (ta (tm j0 j2) (tm j1 j1)) (tm j2 j0))), ah hw⟩)
def TO48 : Tb Tryz.prog Gt := TO47.add (bS (g := fun x => K6.mul x x) ent177 kE)
theorem q7 (x : W6) (c : W2) : Pure Tryz.prog Gt 163 [EV6 x, EV2 c] (EV6 (sc6 x c)) := by
 intro w hw
 have hGF : BOk Gt (pl w) := gt_low.plain hw
 refine bT (G := Gt) Tryz.func163 rfl rfl (Hp (pl w) []) (aP (pl w) trivial ap) (aw hGF) ?_
 refine ac (E := EE [143]) ?_
 refine lb fun b2 => ?_
 refine lb fun b3 => ?_
 refine la zv47 fun b4 => ?_
 refine aa ?_
 refine ac (E := EE [143]) ?_
 refine la zv178 fun b5 => ?_
 refine aa ?_
 refine am ?_
 refine ac (E := EE [143]) ?_
 refine rJ9 ?_
 refine cy rfl rfl ent143 rfl rfl (fun w' hw' => (fo x w' (hGF.g _ _ _ hw')).mono fun e' w'' h => ?_)
 obtain ⟨c1, rfl, hg, h1, ho⟩ := h
 refine ⟨_, _, rfl, aw hGF, hw'.news ap hg [(33, c1, ((fe (x.1).1 ++ fe (x.1).2) ++ ((fe (x.2.1).1 ++ fe (x.2.1).2) ++ (fe (x.2.2).1 ++ fe (x.2.2).2))).map U64, 47)] ?_ dj, ?_⟩
 ·intro n' b' c' t' hl
  rcases bp hl with ⟨_, e⟩ | ⟨_, hl⟩
  ·cases e; exact ⟨h1, ho⟩
  ·cases hl
 clear hw' hg h1 ho
 refine aa ?_
 refine ao ?_
 refine dM (fun _ => pl w) (fun _ _ => pl w) (fun _ => hGF) (fun _ _ => hGF) (fun _ => rfl) (fun _ _ => rfl) rfl rfl ent184 (xf c1 x) (fun v hv => by obtain ⟨k, hk, rfl⟩ := List.mem_map.1 hv; rfl) rfl (fun k => [(2, b2, ((fe (x.1).1 ++ fe (x.1).2) ++ ((fe (x.2.1).1 ++ fe (x.2.1).2) ++ (fe (x.2.2).1 ++ fe (x.2.2).2))).map U64, 47), (3, b3, (fe c.1 ++ fe c.2).map U64, 33), (4, b4, ((fe 0 ++ fe 0) ++ ((fe 0 ++ fe 0) ++ (fe 0 ++ fe 0))).map U64, 47), (5, b5, (FM (FF (fun j => if j < k then ml2 (p3 x j) c else ze2)) 3).map U64, 178), (33, c1, ((fe (x.1).1 ++ fe (x.1).2) ++ ((fe (x.2.1).1 ++ fe (x.2.1).2) ++ (fe (x.2.2).1 ++ fe (x.2.2).2))).map U64, 47)]) (fun _ _ _ => False) ⟨rfl, rfl, rfl, congrArg (fun l => some (b5, l, _)) (congrArg (List.map U64) (d8 fun j _ => (if_neg (Nat.not_lt_zero j)).symm)), rfl, trivial⟩ (fun k _ w' h => cN (n := 33) rfl w' h) ?_ ?_ (fun _ _ _ _ _ h => h.elim)
 ·intro k v hx R hR
  obtain ⟨hk, rfl⟩ := uY x k v hx
  refine ac (E := EE [143]) ?_
  refine rJ9 ?_
  refine au (E := EE [143]) ?_
  refine ca 7 (hR (pl w) rfl hGF).1 zv33 rfl rfl ?_
  intro b7
  refine ai 7 (hR (pl w) rfl hGF).1 rfl rfl rfl Tryz.sizeOf33 (by simp) (by simp) (ak _) rfl ?_
  refine aa ?_
  refine ⟨rfl, _, rfl, ?_⟩
  refine ao ?_
  refine au (E := EE [143]) ?_
  refine rJ9 ?_
  refine bP (k) (12 * (k)) rfl rfl Tryz.underlying178 Tryz.sizeOf33 (by omega) (by omega) (by omega) rfl rfl ?_
  refine di 5 ((FM (FF (fun j => if j < k + 1 then ml2 (p3 x j) c else ze2)) 3).map U64) (hR (pl w) rfl hGF).2.1 rfl rfl rfl Tryz.sizeOf33 (by simp) (ak _) (by simp; omega) (eY _ _ (ml2 (p3 x k) c) 3 (k) _ (by omega) rfl (fun j _ => jg (fun j => ml2 (p3 x j) c) (fun _ => ze2) k j)) rfl ?_
  refine aa ?_
  repeat (refine aL ?_)
  exact ⟨_, rfl, ⟨rfl, rfl, rfl, rfl, rfl, trivial⟩⟩
 ·intro D hD
  rw [kj]
  refine ac (E := EE [143]) ?_
  refine rJ9 ?_
  refine lc ent189 (k6of _) ?_
  refine ai 4 hD rfl rfl rfl Tryz.sizeOf47 (by simp) (by simp) (ak _) rfl ?_
  refine aa ?_
  refine rt ?_
  exact c8 (.inl rfl) ap (av 4 rfl rfl rfl Tryz.isAgg47 Tryz.sizeOf47 (by simp) (fun w hw => ⟨e6 rfl rfl rfl, ah hw⟩))
theorem k6v (x : W6) : Pure Tryz.prog Gt 92 [EV6 x] (EV6 (v6 x)) := (a9 (l1 (V6 _)) (V6 _) (pE TO48 Tryz.func92 [.inl [x.1.1, x.1.2, x.2.1.1, x.2.1.2, x.2.2.1, x.2.2.2]] (.inl (.inl [(v6 x).1.1, (v6 x).1.2, (v6 x).2.1.1, (v6 x).2.1.2, (v6 x).2.2.1, (v6 x).2.2.2])) (let t0 := xi2 (x.2.2.1, x.2.2.2); (.inl (.inl [t0.1, t0.2, x.1.1, x.1.2, x.2.1.1, x.2.1.2]), [])) [] (by kernel_rfl) aG rfl))
def TO49 : Tb Tryz.prog Gt := TO48.add (bS (g := v6) ent92 k6v)
def oth (x : W6) : W6 := (i3a x.1 x.2.1 x.2.2, i3b x.1 x.2.1 x.2.2, i3c x.1 x.2.1 x.2.2)
theorem kN (x : W6) : Pure Tryz.prog Gt 197 [EV6 x] (EV6 (oth x)) := (a9 (l1 (V6 _)) (V6 _) (pE TO49 Tryz.func197 [.inl [x.1.1, x.1.2, x.2.1.1, x.2.1.2, x.2.2.1, x.2.2.2]] (.inl (.inl [(oth x).1.1, (oth x).1.2, (oth x).2.1.1, (oth x).2.1.2, (oth x).2.2.1, (oth x).2.2.2])) (let t0 := ml2 (x.1.1, x.1.2) (x.1.1, x.1.2); let t1 := ml2 (x.2.1.1, x.2.1.2) (x.2.2.1, x.2.2.2); let t2 := xi2 (t1.1, t1.2); let t3 := sb2 (t0.1, t0.2) (t2.1, t2.2); let t4 := ml2 (x.2.2.1, x.2.2.2) (x.2.2.1, x.2.2.2); let t5 := xi2 (t4.1, t4.2); let t6 := ml2 (x.1.1, x.1.2) (x.2.1.1, x.2.1.2); let t7 := sb2 (t5.1, t5.2) (t6.1, t6.2); let t8 := ml2 (x.2.1.1, x.2.1.2) (x.2.1.1, x.2.1.2); let t9 := ml2 (x.1.1, x.1.2) (x.2.2.1, x.2.2.2); let t10 := sb2 (t8.1, t8.2) (t9.1, t9.2); (.inl (.inl [t3.1, t3.2, t7.1, t7.2, t10.1, t10.2]), [])) [] (by kernel_rfl) aG rfl))
def TO50 : Tb Tryz.prog Gt := TO49.add (bS (g := oth) ent197 kN)
theorem In (x : W6) : ad2 (xi2 (ad2 (ml2 x.2.1 (oth x).2.2) (ml2 x.2.2 (oth x).2.1))) (ml2 x.1 (oth x).1) = i3n x.1 x.2.1 x.2.2 := by
 show R2.add (xi2 (R2.add _ _)) _ = R2.add _ (xi2 (R2.add _ _))
 rw [R2.add_comm, R2.add_comm (ml2 x.2.1 (oth x).2.2)]
 rfl
theorem wx (x : W6) (c : W2) : Pure Tryz.prog Gt 163 [EV6 (oth x), EV2 c] (EV6 (sc6 (oth x) c)) := q7 (oth x) c
theorem uD (x : W6) : Pure Tryz.prog Gt 178 [EV6 x] (EV6 (iv6 x)) := by
 refine aN Tryz.func178 fun w hw hGF => ?_
 refine xp ?_
 refine lb fun b1 => ?_
 refine la zv47 fun b2 => ?_
 refine aa ?_
 refine pJ9 ?_
 refine lc ent197 (kN _) ?_
 refine la zv47 fun b3 => ?_
 refine rJ9 ?_
 refine bC (E := EE [2999999]) [0, 1, 2, 3, 4, 5, 6, 7, 8, 9, 10, 11, 12, 13, 14, 15, 16, 17] [⟨18, 4, 33, (fe 0 ++ fe 0).map U64⟩] [19] a5 rfl (by kernel_rfl) (by kernel_rfl) (by kernel_rfl) (by kernel_rfl) (by kernel_rfl) (by kernel_rfl) (by decide) (by intro x hx; simp only [List.mem_cons, List.not_mem_nil, or_false] at hx; subst hx; exact bc rfl zv33 rfl) ?_
 refine rJ9 ?_
 refine ⟨_, _, rfl, hGF, by intro x hx; simp only [List.mem_cons, List.not_mem_nil, or_false] at hx; subst hx; rfl, by intro x hx; simp only [List.mem_cons, List.not_mem_nil, or_false] at hx; subst hx; rfl, fun adr => ?_⟩
 refine rJ9 ?_
 refine bj (E := EE []) a5 (by kernel_rfl) (by kernel_rfl) (by kernel_rfl) ?_
 refine rJ9 ?_
 refine lc ent128 (AQ _) ?_
 refine lc ent163 (wx x _) ?_
 refine rJ9 ?_
 refine rt ?_
 exact av 2 rfl rfl rfl Tryz.isAgg47 Tryz.sizeOf47 (by simp) (fun w hw => ⟨by rw [In]; rfl, ah hw⟩)
def TO51 : Tb Tryz.prog Gt := TO50.add (bS (g := iv6) ent178 uD)
end Q6
end
end Go.Proofs.YtpnpiblphnpfiaaGreatDoor
