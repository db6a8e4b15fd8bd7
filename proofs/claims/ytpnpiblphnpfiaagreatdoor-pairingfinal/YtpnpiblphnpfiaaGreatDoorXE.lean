/-
 The reference's elements of six parts.
 The reference's elements of six parts: products, inverses.
 The reference's elements of six parts: inverses; elements of fp6 as values.
 Elements of fp6 as values; what the laws of layer 6 share.
 The walks of package fp6.
-/
import Derived.Test.YtpnpiblphnpfiaaGreatDoorXA
import Derived.Test.YtpnpiblphnpfiaaGreatDoorXD
import Derived.Test.YtpnpiblphnpfiaaGreatDoorX5
import Derived.Test.YtpnpiblphnpfiaaGreatDoorX3
set_option maxRecDepth 100000
set_option maxHeartbeats 1000000
namespace Go.Proofs.YtpnpiblphnpfiaaGreatDoor
section
open Go.RowKit
theorem ent72 : ac Tryz.prog 72 := fun _ _ => by kernel_rfl
theorem ent71 : ac Tryz.prog 71 := fun _ _ => by kernel_rfl
theorem ent73 : ac Tryz.prog 73 := fun _ _ => by kernel_rfl
theorem ent141 : ac Tryz.prog 141 := fun _ _ => by kernel_rfl
theorem ent116 : ac Tryz.prog 116 := fun _ _ => by kernel_rfl
namespace Q6
attribute [local simp] aZ bk aF aA aN aW aL aK aR PLl cy cx N1l cv cw cz bh bl aX bi ba
def FF (f : Nat → W2) (i : Nat) : List (BitVec 64) := fe2 (f i)
abbrev TV (f : Nat → W2) : Value := .agg ((FM (FF f) 6).map U64).toArray
theorem bU (f : Nat → W2) (v : W2) (n k o : Nat) (hk : k < n) (ho : o = 12 * k) (hv : f k = v) : ∀ j u, ((fe v.1 ++ fe v.2).map U64)[j]? = some u → ((FM (FF f) n).map U64)[o + j]? = some u := by
 subst hv
 exact qM (FF f) n k hk (aX _) o ho
theorem eP (f g : Nat → W2) (v : W2) (n k o : Nat) (hk : k < n) (ho : o = 12 * k) (hg : ∀ i, i < n → g i = if i = k then v else f i) : lay o ((fe v.1 ++ fe v.2).map U64) ((FM (FF f) n).map U64) = (FM (FF g) n).map U64 := by
 have h := kX (FF f) n k (fe2 v) hk (aX _) o ho
 refine h.trans (congrArg (List.map U64) (f7 fun i hi => ?_))
 show (if i = k then fe2 v else fe2 (f i)) = fe2 (g i)
 rw [hg i hi]
 split <;> rfl
theorem d3 {f g : Nat → W2} {n : Nat} (h : ∀ i, i < n → f i = g i) : FM (FF f) n = FM (FF g) n := f7 fun i hi => congrArg fe2 (h i hi)
theorem cG (f : Nat → W2) (n : Nat) : (FM (FF f) n).length = 12 * n := ba _ _
theorem iH (A B : Nat → W2) (i j : Nat) : (if j < i + 1 then A j else B j) = if j = i then A i else (if j < i then A j else B j) := by
 by_cases h : j = i
 ·subst h; rw [if_pos (Nat.lt_succ_self _), if_pos rfl]
 ·rw [if_neg h]
  by_cases h' : j < i
  ·rw [if_pos h', if_pos (Nat.lt_succ_of_lt h')]
  ·rw [if_neg h', if_neg (fun e => h' (Nat.lt_of_le_of_ne (Nat.le_of_lt_succ e) h))]
theorem nz (A B : Nat → W2) (i : Nat) : (if i < i then A i else B i) = B i := if_neg (Nat.lt_irrefl _)
theorem h7 (n : Nat) : FM (FF fun _ => ze2) n = FM (fun _ => List.replicate 12 0#64) n := f7 fun i _ => by
 show fe2 ze2 = _
 rw [show fe2 ze2 = fe 0 ++ fe 0 from rfl, h9]; rfl
theorem zv44 (w : World) : (zeroValue 44).run Tryz.prog w = .ok (.agg ((FM (FF fun _ => ze2) 6).map U64).toArray) w := by
 rw [h7]; exact (Tryz.zeroValue44 w).trans (by rfl)
theorem rT {f g : Nat → W2} (h : ∀ i, i < 6 → f i = g i) : Ending.returned (TV f) = .returned (TV g) := congrArg (fun l => Ending.returned (.agg (List.map U64 l).toArray)) (d3 h)
theorem Gc : EqF Tryz.prog 44 (6 * 12) 5 := fq (by decide) Tryz.underlying44 Tryz.isAgg42 Tryz.sizeOf42 Hf
theorem Fv (op : BinOp) (x y : Operand) (xs ys : Array Value) (w : World) : (eqGuard op 44 x y (.agg xs) (.agg ys)).run Tryz.prog w = .ok () w := run_eqGuard_agg w op 44 x y xs ys (by kernel_rfl)
theorem Hu (xs ys : List (BitVec 64)) (h : xs.length = 72) (h' : ys.length = 72) (w : World) : (binOp .eql 44 (.agg (xs.map U64).toArray) (.agg (ys.map U64).toArray)).run Tryz.prog w = .ok (.bool (decide (xs = ys))) w := qW Gc (by decide) xs ys h h' w
attribute [local simp] cG
end Q6
end
section
open Go.RowKit
namespace Q6
attribute [local simp] aZ bk aF aA aN aW aL aK aR PLl cy cx N1l cv cw cz bh bl aX bi ba cG
theorem rJ6 {Q P : Prop} (k : Q) (h : Q → P := by intro k; (refine LY.run ?_); (repeat (first | refine bC rfl rfl rfl ?_ | refine bc rfl rfl rfl ?_ | ((refine xX rfl rfl ?_ rfl rfl ?_); (· simp)) | ((refine tP hGF rfl rfl rfl ?_ ?_ (ak _) rfl ?_); (· simp); (· simp)) | refine bz (f := 139) rfl rfl ent139 (uF _ _) rfl rfl ?_)); (first | refine bV ?_ | refine LY.mk ?_); exact k) : P := h k
theorem pJ6 {Q P : Prop} (k : Q) (h : Q → P := by intro k; (refine xp ?_); (refine rJ6 ?_); exact k) : P := h k
theorem zv162 (w : World) : (zeroValue 162).run Tryz.prog w = .ok (.agg ((FM (FF fun _ => ze2) 11).map U64).toArray) w := by
 rw [h7]; exact (Tryz.zeroValue162 w).trans (by rfl)
theorem yi (f g : Nat → W2) (i k m : Nat) (hk : k < 6) : LP f g (6 * i + k + 1) m = if m = i + k then ad2 (LP f g (6 * i + k) (i + k)) (ml2 (f i) (g k)) else LP f g (6 * i + k) m := by
 rw [LP, show (6 * i + k) / 6 = i by omega, show (6 * i + k) % 6 = k by omega]
 by_cases h : m = i + k
 ·rw [if_pos h.symm, if_pos h, h]
 ·rw [if_neg (fun e => h e.symm), if_neg h]
theorem yu (f g : Nat → W2) (i : Nat) : LP f g (6 * i + 6) = LP f g (6 * (i + 1)) := by rw [Nat.mul_add]
theorem Cc (f g : Nat → W2) (i : Nat) (h : i < 5) : ad2 (LP f g 36 i) (xi2 (LP f g 36 (i + 6))) = TMf f g i := by rw [TMf, if_pos h]
theorem Cs (f g : Nat → W2) (i j : Nat) (v w : W2) (hv : v = TMf f g i) : (if j < i + 1 then TMf f g j else ze2) = if j = i then v else (if j = i then w else (if j < i then TMf f g j else ze2)) := by
 subst hv
 rw [iH (TMf f g) (fun _ => ze2) i j]
 by_cases h : j = i
 ·rw [if_pos h, if_pos h]
 ·rw [if_neg h, if_neg h, if_neg h]
theorem ze (f g : Nat → W2) (i j : Nat) (h5 : ¬ i < 5) : (if j = i then LP f g 36 i else (if j < i then TMf f g j else ze2)) = if j < i + 1 then TMf f g j else ze2 := by
 rw [iH (TMf f g) (fun _ => ze2) i j]
 by_cases h : j = i
 ·rw [if_pos h, if_pos h, TMf, if_neg h5]
 ·rw [if_neg h, if_neg h]
theorem zH (f g : Nat → W2) : Pure Tryz.prog Gt 72 [TV f, TV g] (TV (TMf f g)) := by
 refine aU Tryz.func72 fun w hw hGF => ?_
 refine xp ?_
 refine lb fun b2 => ?_
 refine lb fun b3 => ?_
 refine la zv44 fun b4 => ?_
 refine aa ?_
 refine xp ?_
 refine la zv162 fun b5 => ?_
 refine aa ?_
 refine ao ?_
 refine pJ6 ?_
 refine ap ?_
 refine bK (ι := { i : Nat // i ≤ 6 }) (fun y => [(2, .pointer (some ⟨b2, 0, none⟩)), (3, .pointer (some ⟨b3, 0, none⟩)), (4, .pointer (some ⟨b4, 0, none⟩)), (5, .pointer (some ⟨b5, 0, none⟩)), (6, I (y.1 : Int))]) (fun y => [(2, b2, (FM (FF f) 6).map U64, 44), (3, b3, (FM (FF g) 6).map U64, 44), (4, b4, (FM (FF fun _ => ze2) 6).map U64, 44), (5, b5, (FM (FF (LP f g (6 * y.1))) 11).map U64, 162)]) (fun y => 6 - y.1) ⟨0, by omega⟩ hGF ⟨rfl, rfl, rfl, rfl, rfl, trivial⟩ ⟨rfl, rfl, rfl, rfl, trivial⟩ ?_
 rintro ⟨i, hi⟩
 dsimp only
 refine ao ?_
 refine pJ6 ?_
 refine ab rfl rfl (fun _ => rfl) (fun _ => aI _ _ _) rfl rfl ?_
 refine aa ?_
 refine bG rfl (fun hc => ?_) (fun hc => ?_)
 ·simp only [decide_eq_true_eq] at hc
  refine aE ?_
  refine ao ?_
  refine ap ?_
  refine pJ6 ?_
  refine ap ?_
  refine bK (ι := { i : Nat // i ≤ 6 }) (fun y => [(2, .pointer (some ⟨b2, 0, none⟩)), (3, .pointer (some ⟨b3, 0, none⟩)), (4, .pointer (some ⟨b4, 0, none⟩)), (5, .pointer (some ⟨b5, 0, none⟩)), (6, I (i : Int)), (7, I (y.1 : Int))]) (fun y => [(2, b2, (FM (FF f) 6).map U64, 44), (3, b3, (FM (FF g) 6).map U64, 44), (4, b4, (FM (FF fun _ => ze2) 6).map U64, 44), (5, b5, (FM (FF (LP f g (6 * i + y.1))) 11).map U64, 162)]) (fun y => 6 - y.1) ⟨0, by omega⟩ hGF ⟨rfl, rfl, rfl, rfl, rfl, rfl, trivial⟩ ⟨rfl, rfl, rfl, rfl, trivial⟩ ?_
  rintro ⟨k, hk⟩
  dsimp only
  refine ao ?_
  refine pJ6 ?_
  refine ab rfl rfl (fun _ => rfl) (fun _ => aI _ _ _) rfl rfl ?_
  refine aa ?_
  refine bG rfl (fun hc => ?_) (fun hc => ?_)
  ·simp only [decide_eq_true_eq] at hc
   refine aE ?_
   refine ao ?_
   refine ap ?_
   refine cg (E := EE []) a7 (by kernel_rfl) (by kernel_rfl) (by kernel_rfl) ?_
   refine rJ6 ?_
   refine ab rfl rfl (fun _ => rfl) (fun _ => aC _ _ _ (by unfold inI; omega)) rfl rfl ?_
   refine rJ6 ?_
   refine ab rfl rfl (fun _ => rfl) (fun _ => aC _ _ _ (by unfold inI; omega)) rfl rfl ?_
   refine bI ((i + k)) (12 * ((i + k))) rfl rfl Tryz.underlying162 Tryz.sizeOf42 (by omega) (by omega) (by omega) rfl rfl ?_
   refine aQ 5 ((fe (LP f g (6 * i + k) ((i + k))).1 ++ fe (LP f g (6 * i + k) ((i + k))).2).map U64) rfl rfl Tryz.isAgg42 Tryz.sizeOf42 (by simp) (bU _ (LP f g (6 * i + k) ((i + k))) 11 ((i + k)) _ (by omega) rfl (rfl)) rfl rfl ?_
   refine rJ6 ?_
   refine bI (i) (12 * (i)) rfl rfl Tryz.underlying44 Tryz.sizeOf42 (by omega) (by omega) (by omega) rfl rfl ?_
   refine aQ 2 ((fe (f i).1 ++ fe (f i).2).map U64) rfl rfl Tryz.isAgg42 Tryz.sizeOf42 (by simp) (bU _ (f i) 6 (i) _ (by omega) rfl (rfl)) rfl rfl ?_
   refine rJ6 ?_
   refine bI (k) (12 * (k)) rfl rfl Tryz.underlying44 Tryz.sizeOf42 (by omega) (by omega) (by omega) rfl rfl ?_
   refine aQ 3 ((fe (g k).1 ++ fe (g k).2).map U64) rfl rfl Tryz.isAgg42 Tryz.sizeOf42 (by simp) (bU _ (g k) 6 (k) _ (by omega) rfl (rfl)) rfl rfl ?_
   refine lc ent136 (lJ _ _) ?_
   refine rJ6 ?_
   refine bI ((i + k)) (12 * ((i + k))) rfl rfl Tryz.underlying162 Tryz.sizeOf42 (by omega) (by omega) (by omega) rfl rfl ?_
   refine cm 5 ((FM (FF (LP f g (6 * i + k + 1))) 11).map U64) hGF rfl rfl rfl Tryz.sizeOf42 (by simp) (ak _) (by simp; omega) (eP _ _ (ad2 (LP f g (6 * i + k) (i + k)) (ml2 (f i) (g k))) 11 ((i + k)) _ (by omega) rfl (fun m _ => yi f g i k m (by omega))) rfl ?_
   refine aa ?_
   refine av (E := EE []) ?_
   refine rJ6 ?_
   refine ab rfl rfl (fun _ => rfl) (fun _ => aC _ _ _ (by unfold inI; omega)) rfl rfl ?_
   refine rJ6 ?_
   repeat (refine aT ?_)
   refine a9 ?_
   exact ⟨rfl, ⟨k + 1, by omega⟩, _, by show 6 - (k + 1) < 6 - k; omega, rfl, ⟨rfl, rfl, rfl, rfl, rfl, rfl, trivial⟩, ⟨rfl, rfl, rfl, rfl, trivial⟩⟩
  ·obtain rfl : k = 6 := by simp at hc; omega
   refine aY ?_
   refine av (E := EE []) ?_
   refine rJ6 ?_
   refine ab rfl rfl (fun _ => rfl) (fun _ => aC _ _ _ (by unfold inI; omega)) rfl rfl ?_
   refine rJ6 ?_
   repeat (refine aT ?_)
   refine a9 ?_
   exact ⟨rfl, ⟨i + 1, by omega⟩, _, by show 6 - (i + 1) < 6 - i; omega, rfl, ⟨rfl, rfl, rfl, rfl, rfl, trivial⟩, ⟨rfl, rfl, rfl, by rw [← yu]; rfl, trivial⟩⟩
 ·obtain rfl : i = 6 := by simp at hc; omega
  refine aY ?_
  refine xp ?_
  refine la zv44 fun b8 => ?_
  refine aa ?_
  refine ao ?_
  refine pJ6 ?_
  refine ap ?_
  refine bK (ι := { i : Nat // i ≤ 6 }) (fun y => [(2, .pointer (some ⟨b2, 0, none⟩)), (3, .pointer (some ⟨b3, 0, none⟩)), (4, .pointer (some ⟨b4, 0, none⟩)), (5, .pointer (some ⟨b5, 0, none⟩)), (8, .pointer (some ⟨b8, 0, none⟩)), (9, I (y.1 : Int))]) (fun y => [(2, b2, (FM (FF f) 6).map U64, 44), (3, b3, (FM (FF g) 6).map U64, 44), (4, b4, (FM (FF fun _ => ze2) 6).map U64, 44), (5, b5, (FM (FF (LP f g (36))) 11).map U64, 162), (8, b8, (FM (FF (fun j => if j < y.1 then TMf f g j else ze2)) 6).map U64, 44)]) (fun y => 6 - y.1) ⟨0, by omega⟩ hGF ⟨rfl, rfl, rfl, rfl, rfl, rfl, trivial⟩ ⟨rfl, rfl, rfl, rfl, congrArg (fun l => some (b8, l, _)) (congrArg (List.map U64) (d3 fun j _ => (if_neg (Nat.not_lt_zero j)).symm)), trivial⟩ ?_
  rintro ⟨i, hi⟩
  dsimp only
  refine ao ?_
  refine pJ6 ?_
  refine ab rfl rfl (fun _ => rfl) (fun _ => aI _ _ _) rfl rfl ?_
  refine aa ?_
  refine bG rfl (fun hc => ?_) (fun hc => ?_)
  ·simp only [decide_eq_true_eq] at hc
   refine aE ?_
   refine ao ?_
   refine ap ?_
   refine pJ6 ?_
   refine bI (i) (12 * (i)) rfl rfl Tryz.underlying162 Tryz.sizeOf42 (by omega) (by omega) (by omega) rfl rfl ?_
   refine aQ 5 ((fe (LP f g 36 (i)).1 ++ fe (LP f g 36 (i)).2).map U64) rfl rfl Tryz.isAgg42 Tryz.sizeOf42 (by simp) (bU _ (LP f g 36 (i)) 11 (i) _ (by omega) rfl (rfl)) rfl rfl ?_
   refine bI (i) (12 * (i)) rfl rfl Tryz.underlying44 Tryz.sizeOf42 (by omega) (by omega) (by omega) rfl rfl ?_
   refine cm 8 ((FM (FF (fun j => if j = i then LP f g 36 i else (if j < i then TMf f g j else ze2))) 6).map U64) hGF rfl rfl rfl Tryz.sizeOf42 (by simp) (ak _) (by simp; omega) (eP _ _ (LP f g 36 i) 6 (i) _ (by omega) rfl (fun j _ => rfl)) rfl ?_
   refine aa ?_
   refine pJ6 ?_
   refine ab rfl rfl (fun _ => rfl) (fun _ => aI _ _ _) rfl rfl ?_
   refine aa ?_
   refine bG rfl (fun hc => ?_) (fun hc => ?_)
   ·have h5 : i < 5 := by simp at hc; omega
    clear hc
    refine cg (E := EE []) a7 (by kernel_rfl) (by kernel_rfl) (by kernel_rfl) ?_
    refine rJ6 ?_
    refine bI (i) (12 * (i)) rfl rfl Tryz.underlying44 Tryz.sizeOf42 (by omega) (by omega) (by omega) rfl rfl ?_
    refine aQ 8 ((fe (LP f g 36 i).1 ++ fe (LP f g 36 i).2).map U64) rfl rfl Tryz.isAgg42 Tryz.sizeOf42 (by simp) (bU _ (LP f g 36 i) 6 (i) _ (by omega) rfl (if_pos rfl)) rfl rfl ?_
    refine rJ6 ?_
    refine ab rfl rfl (fun _ => rfl) (fun _ => aC _ _ _ (by unfold inI; omega)) rfl rfl ?_
    refine bI ((i + 6)) (12 * ((i + 6))) rfl rfl Tryz.underlying162 Tryz.sizeOf42 (by omega) (by omega) (by omega) rfl rfl ?_
    refine aQ 5 ((fe (LP f g 36 ((i + 6))).1 ++ fe (LP f g 36 ((i + 6))).2).map U64) rfl rfl Tryz.isAgg42 Tryz.sizeOf42 (by simp) (bU _ (LP f g 36 ((i + 6))) 11 ((i + 6)) _ (by omega) rfl (rfl)) rfl rfl ?_
    refine lc ent140 (CZ _) ?_
    refine rJ6 ?_
    refine bI (i) (12 * (i)) rfl rfl Tryz.underlying44 Tryz.sizeOf42 (by omega) (by omega) (by omega) rfl rfl ?_
    refine cm 8 ((FM (FF (fun j => if j < i + 1 then TMf f g j else ze2)) 6).map U64) hGF rfl rfl rfl Tryz.sizeOf42 (by simp) (ak _) (by simp; omega) (eP _ _ (ad2 (LP f g 36 i) (xi2 (LP f g 36 (i + 6)))) 6 (i) _ (by omega) rfl (fun j _ => Cs f g i j _ (LP f g 36 i) (Cc f g i h5))) rfl ?_
    refine aa ?_
    refine av (E := EE []) ?_
    refine rJ6 ?_
    refine ab rfl rfl (fun _ => rfl) (fun _ => aC _ _ _ (by unfold inI; omega)) rfl rfl ?_
    refine rJ6 ?_
    repeat (refine aT ?_)
    refine a9 ?_
    exact ⟨rfl, ⟨i + 1, by omega⟩, _, by show 6 - (i + 1) < 6 - i; omega, rfl, ⟨rfl, rfl, rfl, rfl, rfl, rfl, trivial⟩, ⟨rfl, rfl, rfl, rfl, rfl, trivial⟩⟩
   ·have h5 : ¬ i < 5 := by simp at hc; omega
    clear hc
    refine aE ?_
    refine av (E := EE []) ?_
    refine rJ6 ?_
    refine ab rfl rfl (fun _ => rfl) (fun _ => aC _ _ _ (by unfold inI; omega)) rfl rfl ?_
    refine rJ6 ?_
    repeat (refine aT ?_)
    refine a9 ?_
    exact ⟨rfl, ⟨i + 1, by omega⟩, _, by show 6 - (i + 1) < 6 - i; omega, rfl, ⟨rfl, rfl, rfl, rfl, rfl, rfl, trivial⟩, ⟨rfl, rfl, rfl, rfl, congrArg (fun l => some (b8, l, _)) (congrArg (List.map U64) (d3 fun j _ => ze f g i j h5)), trivial⟩⟩
  ·obtain rfl : i = 6 := by simp at hc; omega
   refine aY ?_
   refine pJ6 ?_
   refine rt ?_
   exact aw 4 rfl rfl rfl Tryz.isAgg44 Tryz.sizeOf44 (by simp) (fun w hw => ⟨rT fun j hj => if_pos hj, ah hw⟩)
end Q6
end
section
open Go.RowKit
namespace Q6
attribute [local simp] aZ bk aF aA aN aW aL aK aR PLl cy cx N1l cv cw cz bh bl aX bi ba cG
theorem rJ7 {Q P : Prop} (k : Q) (h : Q → P := by intro k; (refine LY.run ?_); (repeat (first | refine bC rfl rfl rfl ?_ | refine bc rfl rfl rfl ?_ | ((refine Ce rfl rfl ?_ rfl rfl ?_); (· simp)) | ((refine xX rfl rfl ?_ rfl rfl ?_); (· simp)) | ((refine uL hGF rfl rfl rfl ?_ ?_ (ak _) rfl ?_); (· simp); (· simp)) | ((refine tP hGF rfl rfl rfl ?_ ?_ (ak _) rfl ?_); (· simp); (· simp)) | refine d5 rfl rfl rfl rfl ?_ | refine bz (f := 136) rfl rfl ent136 (lJ _ _) rfl rfl ?_ | refine bz (f := 166) rfl rfl ent166 (xd _ _) rfl rfl ?_ | refine bz (f := 140) rfl rfl ent140 (CZ _) rfl rfl ?_ | refine bz (f := 72) rfl rfl ent72 (zH _ _) rfl rfl ?_ | refine bz (f := 139) rfl rfl ent139 (uF _ _) rfl rfl ?_)); (first | refine bV ?_ | refine LY.mk ?_); exact k) : P := h k
theorem pJ7 {Q P : Prop} (k : Q) (h : Q → P := by intro k; (refine xp ?_); (refine rJ7 ?_); exact k) : P := h k
theorem Bu (f : Nat → W2) (n j : Nat) : (if j < 2 * (n + 1) + 1 then tcj f j else f j) = if j = 2 * n + 1 then ng2 (f (2 * n + 1)) else (if j < 2 * n + 1 then tcj f j else f j) := by
 by_cases h : j = 2 * n + 1
 ·rw [if_pos h, if_pos (by omega), tcj, if_pos (by omega), h]
 ·rw [if_neg h]
  by_cases h' : j < 2 * n + 1
  ·rw [if_pos h', if_pos (by omega)]
  ·rw [if_neg h']
   by_cases h2 : j < 2 * (n + 1) + 1
   ·rw [if_pos h2, tcj, if_neg (by omega)]
   ·rw [if_neg h2]
theorem TC_0 (f : Nat → W2) (j : Nat) : f j = if j < 2 * 0 + 1 then tcj f j else f j := by
 by_cases h : j < 2 * 0 + 1
 ·rw [if_pos h, tcj, if_neg (by omega)]
 ·rw [if_neg h]
def ev3 (x y z : W2) (i : Nat) : W2 := if i = 4 then z else if i = 2 then y else if i = 0 then x else ze2
theorem w7 (x y z : W2) (n : Nat) : FM (zv [(0, fe x.1 ++ fe x.2), (2, fe y.1 ++ fe y.2), (4, fe z.1 ++ fe z.2)] (FF fun _ => ze2)) n = FM (FF (ev3 x y z)) n := f7 fun i _ => by
 show (if i = 4 then fe2 z else if i = 2 then fe2 y else if i = 0 then fe2 x else fe2 ze2) = fe2 (ev3 x y z i)
 unfold ev3
 split
 ·rfl
 ·split
  ·rfl
  ·split <;> rfl
section
variable {G : Cls} {ro : Option Nat} {ops : Array Oper} {N : Nat} {ds : List Deferred} {fs : List Nat} {Z : Fr → Cls → Prop} {F : Fr} {C : Cls} {rest : List Oper} {d : Nat} {ty : TypeId} {pos : String} {af : Array Edge} {gd : Option (Nat × Bool)}
theorem D6 (x y z : W2) {p q r : Operand} (hx : evF F p = some (EV2 x)) (hy : evF F q = some (EV2 y)) (hz : evF F r = some (EV2 z)) (hw : aB ops F ⟨some d, .build 44 #[(0, p), (2, q), (4, r)], ty, pos, af, gd⟩ = some true) (hd : Nat.blt d N = true)
  (h : Lx Tryz.prog G ro ops N ds (EE fs) Z rest ((d, TV (ev3 x y z)) :: F) C) : Lx Tryz.prog G ro ops N ds (EE fs) Z (⟨some d, .build 44 #[(0, p), (2, q), (4, r)], ty, pos, af, gd⟩ :: rest) F C :=
 zf 0 2 4 hx hy hz (by simp) (by simp) (by simp) (by decide) (by decide) (by decide) Tryz.underlying44 Tryz.sizeOf42 zv44 hw hd (by rw [w7]; exact h)
end
theorem Dn (x y z : W2) : tq (ev3 x y z) = ((x, y, z), K6.zero) := rfl
def TIf (f : Nat → W2) : Nat → W2 :=
 TMf (tcj f) (ev3 (iv6 (TMf f (tcj f) 0, TMf f (tcj f) 2, TMf f (tcj f) 4)).1 (iv6 (TMf f (tcj f) 0, TMf f (tcj f) 2, TMf f (tcj f) 4)).2.1 (iv6 (TMf f (tcj f) 0, TMf f (tcj f) 2, TMf f (tcj f) 4)).2.2)
theorem CM (f : Nat → W2) : tq (TIf f) = d8 (tq f) := by
 have e := qE f (tcj f)
 have e1 : K12.mul (tq f) (tq (tcj f)) = (qnm K6 VV (tq f), K6.zero) := by rw [Ar]; exact wE K6 VV (tq f)
 rw [e1] at e
 have e2 : (TMf f (tcj f) 0, TMf f (tcj f) 2, TMf f (tcj f) 4) = qnm K6 VV (tq f) := congrArg Prod.fst e
 rw [TIf, qE, Dn, e2, Ar]
 rfl
theorem px (f : Nat → W2) : Pure Tryz.prog Gt 71 [TV f] (TV (tcj f)) := by
 refine aU Tryz.func71 fun w hw hGF => ?_
 refine xp ?_
 refine lb fun b1 => ?_
 refine la zv44 fun b2 => ?_
 refine aa ?_
 refine ao ?_
 refine pJ7 ?_
 refine ap ?_
 refine bK (ι := { i : Nat // i ≤ 3 }) (fun y => [(1, .pointer (some ⟨b1, 0, none⟩)), (2, .pointer (some ⟨b2, 0, none⟩)), (3, I ((2 * y.1 + 1 : Nat) : Int))]) (fun y => [(1, b1, (FM (FF (fun j => if j < 2 * y.1 + 1 then tcj f j else f j)) 6).map U64, 44), (2, b2, (FM (FF fun _ => ze2) 6).map U64, 44)]) (fun y => 3 - y.1) ⟨0, by omega⟩ hGF ⟨rfl, rfl, rfl, trivial⟩ ⟨congrArg (fun l => some (b1, l, _)) (congrArg (List.map U64) (d3 fun j _ => TC_0 f j)), rfl, trivial⟩ ?_
 rintro ⟨n, hn⟩
 dsimp only
 refine ao ?_
 refine pJ7 ?_
 refine ab rfl rfl (fun _ => rfl) (fun _ => aI _ _ _) rfl rfl ?_
 refine aa ?_
 refine bG rfl (fun hc => ?_) (fun hc => ?_)
 ·have hn2 : n < 3 := by simp at hc; omega
  refine aE ?_
  refine ao ?_
  refine ap ?_
  refine av (E := EE []) ?_
  refine rJ7 ?_
  refine bI ((2 * n + 1)) (12 * ((2 * n + 1))) rfl rfl Tryz.underlying44 Tryz.sizeOf42 (by omega) (by omega) (by omega) rfl rfl ?_
  refine aQ 1 ((fe (f (2 * n + 1)).1 ++ fe (f (2 * n + 1)).2).map U64) rfl rfl Tryz.isAgg42 Tryz.sizeOf42 (by simp) (bU _ (f (2 * n + 1)) 6 ((2 * n + 1)) _ (by omega) rfl (if_neg (Nat.lt_irrefl _))) rfl rfl ?_
  refine lc ent138 (AH _) ?_
  refine bI ((2 * n + 1)) (12 * ((2 * n + 1))) rfl rfl Tryz.underlying44 Tryz.sizeOf42 (by omega) (by omega) (by omega) rfl rfl ?_
  refine cm 1 ((FM (FF (fun j => if j < 2 * (n + 1) + 1 then tcj f j else f j)) 6).map U64) hGF rfl rfl rfl Tryz.sizeOf42 (by simp) (ak _) (by simp; omega) (eP _ _ (ng2 (f (2 * n + 1))) 6 ((2 * n + 1)) _ (by omega) rfl (fun j _ => Bu f n j)) rfl ?_
  refine aa ?_
  refine av (E := EE []) ?_
  refine rJ7 ?_
  refine ab rfl rfl (fun _ => rfl) (fun _ => aC _ _ _ (by unfold inI; omega)) rfl rfl ?_
  refine rJ7 ?_
  repeat (refine aT ?_)
  refine a9 ?_
  exact ⟨rfl, ⟨n + 1, by omega⟩, _, by show 3 - (n + 1) < 3 - n; omega, rfl, ⟨rfl, rfl, rfl, trivial⟩, ⟨rfl, rfl, trivial⟩⟩
 ·obtain rfl : n = 3 := by simp at hc; omega
  refine aY ?_
  refine pJ7 ?_
  refine rt ?_
  exact aw 2 rfl rfl rfl Tryz.isAgg44 Tryz.sizeOf44 (by simp) (fun w hw => ⟨rT fun j hj => if_pos (by omega), ah hw⟩)
theorem Do (a b c : W2) : Pure Tryz.prog Gt 141 [EV2 a, EV2 b, EV2 c] (.tuple #[EV2 (iv6 (a, b, c)).1, EV2 (iv6 (a, b, c)).2.1, EV2 (iv6 (a, b, c)).2.2]) := by
 refine aU Tryz.func141 fun w hw hGF => ?_
 refine xp ?_
 refine lb fun b3 => ?_
 refine lb fun b4 => ?_
 refine lb fun b5 => ?_
 refine la zv42 fun b6 => ?_
 refine la zv42 fun b7 => ?_
 refine la zv42 fun b8 => ?_
 refine aa ?_
 refine bt (E := EE [2999999]) [0, 1, 2, 3, 4, 5, 6, 7] [⟨8, 9, 42, (fe 0 ++ fe 0).map U64⟩] [9] a7 rfl (by kernel_rfl) (by kernel_rfl) (by kernel_rfl) (by kernel_rfl) (by kernel_rfl) (by kernel_rfl) (by decide) (by intro x hx; simp only [List.mem_cons, List.not_mem_nil, or_false] at hx; subst hx; exact a6 rfl zv42 rfl) ?_
 refine rJ7 ?_
 refine ⟨_, _, rfl, hGF, by intro x hx; simp only [List.mem_cons, List.not_mem_nil, or_false] at hx; subst hx; rfl, by intro x hx; simp only [List.mem_cons, List.not_mem_nil, or_false] at hx; subst hx; rfl, fun adr => ?_⟩
 refine rJ7 ?_
 refine bt (E := EE [2999999]) [0, 1, 2, 3, 4, 5, 6, 7] [⟨8, 10, 42, (fe 0 ++ fe 0).map U64⟩] [9] a7 rfl (by kernel_rfl) (by kernel_rfl) (by kernel_rfl) (by kernel_rfl) (by kernel_rfl) (by kernel_rfl) (by decide) (by intro x hx; simp only [List.mem_cons, List.not_mem_nil, or_false] at hx; subst hx; exact a6 rfl zv42 rfl) ?_
 refine rJ7 ?_
 refine ⟨_, _, rfl, hGF, by intro x hx; simp only [List.mem_cons, List.not_mem_nil, or_false] at hx; subst hx; rfl, by intro x hx; simp only [List.mem_cons, List.not_mem_nil, or_false] at hx; subst hx; rfl, fun adr => ?_⟩
 refine rJ7 ?_
 refine bt (E := EE [2999999]) [0, 1, 2, 3, 4, 5, 6] [⟨7, 11, 42, (fe 0 ++ fe 0).map U64⟩] [8] a7 rfl (by kernel_rfl) (by kernel_rfl) (by kernel_rfl) (by kernel_rfl) (by kernel_rfl) (by kernel_rfl) (by decide) (by intro x hx; simp only [List.mem_cons, List.not_mem_nil, or_false] at hx; subst hx; exact a6 rfl zv42 rfl) ?_
 refine rJ7 ?_
 refine ⟨_, _, rfl, hGF, by intro x hx; simp only [List.mem_cons, List.not_mem_nil, or_false] at hx; subst hx; rfl, by intro x hx; simp only [List.mem_cons, List.not_mem_nil, or_false] at hx; subst hx; rfl, fun adr => ?_⟩
 refine rJ7 ?_
 refine bt (E := EE [2999999]) [0, 1, 2, 3, 4, 5, 6, 7, 8, 9, 10, 11, 12] [⟨13, 12, 42, (fe 0 ++ fe 0).map U64⟩] [14] a7 rfl (by kernel_rfl) (by kernel_rfl) (by kernel_rfl) (by kernel_rfl) (by kernel_rfl) (by kernel_rfl) (by decide) (by intro x hx; simp only [List.mem_cons, List.not_mem_nil, or_false] at hx; subst hx; exact a6 rfl zv42 rfl) ?_
 refine rJ7 ?_
 refine lc ent165 (AI _) ?_
 refine aa ?_
 refine ⟨_, _, rfl, hGF, by intro x hx; simp only [List.mem_cons, List.not_mem_nil, or_false] at hx; subst hx; rfl, by intro x hx; simp only [List.mem_cons, List.not_mem_nil, or_false] at hx; subst hx; rfl, fun adr => ?_⟩
 refine rJ7 ?_
 refine bx (E := EE []) a7 (by kernel_rfl) (by kernel_rfl) (by kernel_rfl) ?_
 refine rJ7 ?_
 refine rt ?_
 exact uv 6 7 8 rfl rfl rfl rfl rfl rfl rfl Tryz.isAgg42 Tryz.sizeOf42 (by simp) (by simp) (by simp) (fun w hw => ⟨rfl, ah hw⟩)
theorem E8 (f : Nat → W2) : Pure Tryz.prog Gt 73 [TV f] (TV (TIf f)) := by
 refine aU Tryz.func73 fun w hw hGF => ?_
 refine xp ?_
 refine lb fun b1 => ?_
 refine la zv44 fun b2 => ?_
 refine aa ?_
 refine bt (E := EE [2999999]) [0, 1, 2, 3] [⟨4, 3, 44, (FM (FF fun _ => ze2) 6).map U64⟩] [5] a7 rfl (by kernel_rfl) (by kernel_rfl) (by kernel_rfl) (by kernel_rfl) (by kernel_rfl) (by kernel_rfl) (by decide) (by intro x hx; simp only [List.mem_cons, List.not_mem_nil, or_false] at hx; subst hx; exact a6 rfl zv44 rfl) ?_
 refine rJ7 ?_
 refine lc ent71 (px _) ?_
 refine rJ7 ?_
 refine ⟨_, _, rfl, hGF, by intro x hx; simp only [List.mem_cons, List.not_mem_nil, or_false] at hx; subst hx; rfl, by intro x hx; simp only [List.mem_cons, List.not_mem_nil, or_false] at hx; subst hx; rfl, fun adr => ?_⟩
 refine rJ7 ?_
 refine xp ?_
 refine bI (0) (12 * (0)) rfl rfl Tryz.underlying44 Tryz.sizeOf42 (by omega) (by omega) (by omega) rfl rfl ?_
 refine aQ 3 ((fe (TMf f (tcj f) (0)).1 ++ fe (TMf f (tcj f) (0)).2).map U64) rfl rfl Tryz.isAgg42 Tryz.sizeOf42 (by simp) (bU _ (TMf f (tcj f) (0)) 6 (0) _ (by omega) rfl (rfl)) rfl rfl ?_
 refine bI (2) (12 * (2)) rfl rfl Tryz.underlying44 Tryz.sizeOf42 (by omega) (by omega) (by omega) rfl rfl ?_
 refine aQ 3 ((fe (TMf f (tcj f) (2)).1 ++ fe (TMf f (tcj f) (2)).2).map U64) rfl rfl Tryz.isAgg42 Tryz.sizeOf42 (by simp) (bU _ (TMf f (tcj f) (2)) 6 (2) _ (by omega) rfl (rfl)) rfl rfl ?_
 refine bI (4) (12 * (4)) rfl rfl Tryz.underlying44 Tryz.sizeOf42 (by omega) (by omega) (by omega) rfl rfl ?_
 refine aQ 3 ((fe (TMf f (tcj f) (4)).1 ++ fe (TMf f (tcj f) (4)).2).map U64) rfl rfl Tryz.isAgg42 Tryz.sizeOf42 (by simp) (bU _ (TMf f (tcj f) (4)) 6 (4) _ (by omega) rfl (rfl)) rfl rfl ?_
 refine lc ent141 (Do _ _ _) ?_
 refine rJ7 ?_
 refine la zv42 fun b4 => ?_
 refine la zv42 fun b5 => ?_
 refine la zv42 fun b6 => ?_
 refine rJ7 ?_
 refine bx (E := EE []) a7 (by kernel_rfl) (by kernel_rfl) (by kernel_rfl) ?_
 refine rJ7 ?_
 refine lc ent71 (px _) ?_
 refine rJ7 ?_
 refine D6 (iv6 (TMf f (tcj f) 0, TMf f (tcj f) 2, TMf f (tcj f) 4)).1 (iv6 (TMf f (tcj f) 0, TMf f (tcj f) 2, TMf f (tcj f) 4)).2.1 (iv6 (TMf f (tcj f) 0, TMf f (tcj f) 2, TMf f (tcj f) 4)).2.2 rfl rfl rfl rfl rfl ?_
 refine rJ7 ?_
 refine rt ?_
 exact aw 2 rfl rfl rfl Tryz.isAgg44 Tryz.sizeOf44 (by simp) (fun w hw => ⟨rfl, ah hw⟩)
end Q6
end
section
open Go.RowKit
theorem ent90 : ac Tryz.prog 90 := fun _ _ => by kernel_rfl
theorem ent151 : ac Tryz.prog 151 := fun _ _ => by kernel_rfl
theorem ent189 : ac Tryz.prog 189 := fun _ _ => by kernel_rfl
theorem ent197 : ac Tryz.prog 197 := fun _ _ => by kernel_rfl
theorem ent93 : ac Tryz.prog 93 := fun _ _ => by kernel_rfl
theorem ent177 : ac Tryz.prog 177 := fun _ _ => by kernel_rfl
theorem ent61 : ac Tryz.prog 61 := fun _ _ => by kernel_rfl
theorem ent84 : ac Tryz.prog 84 := fun _ _ => by kernel_rfl
theorem ent143 : ac Tryz.prog 143 := fun _ _ => by kernel_rfl
theorem ent92 : ac Tryz.prog 92 := fun _ _ => by kernel_rfl
theorem ent76 : ac Tryz.prog 76 := fun _ _ => by kernel_rfl
theorem ent163 : ac Tryz.prog 163 := fun _ _ => by kernel_rfl
theorem ent178 : ac Tryz.prog 178 := fun _ _ => by kernel_rfl
theorem ent91 : ac Tryz.prog 91 := fun _ _ => by kernel_rfl
theorem ent99 : ac Tryz.prog 99 := fun _ _ => by kernel_rfl
theorem ent17 : ac Tryz.prog 17 := fun _ _ => by kernel_rfl
namespace Q6
attribute [local simp] aZ bk aF aA aN aW aL aK aR PLl cy cx N1l cv cw cz bh bl aX bi ba cG
abbrev EV6 (x : W6) : Value := .agg (((fe (x.1).1 ++ fe (x.1).2) ++ ((fe (x.2.1).1 ++ fe (x.2.1).2) ++ (fe (x.2.2).1 ++ fe (x.2.2).2))).map U64).toArray
theorem zv47 (w : World) : (zeroValue 47).run Tryz.prog w = .ok (.agg (((fe 0 ++ fe 0) ++ ((fe 0 ++ fe 0) ++ (fe 0 ++ fe 0))).map U64).toArray) w := by rw [h9]; exact (Tryz.zeroValue47 w).trans (by rfl)
theorem iE : Three Tryz.prog 47 ⟨ "C0", 33, 0, false, "", "", 0⟩ ⟨ "C1", 33, 12, false, "", "", 96⟩ ⟨ "C2", 33, 24, false, "", "", 192⟩ 12 (fe 0 ++ fe 0) (fe 0 ++ fe 0) (fe 0 ++ fe 0) := ⟨Tryz.underlying47, rfl, rfl, rfl, Tryz.sizeOf33, Tryz.sizeOf33, Tryz.sizeOf33, zv47, by simp, by simp, by simp⟩
theorem e6 {a b c a' b' c' : W2} (h1 : a = a') (h2 : b = b') (h3 : c = c') : Ending.returned (.agg (((fe (a).1 ++ fe (a).2) ++ ((fe (b).1 ++ fe (b).2) ++ (fe (c).1 ++ fe (c).2))).map U64).toArray) = .returned (.agg (((fe (a').1 ++ fe (a').2) ++ ((fe (b').1 ++ fe (b').2) ++ (fe (c').1 ++ fe (c').2))).map U64).toArray) := by rw [h1, h2, h3]
def q6 : Sh W6 := q2.two (q2.two q2 2) 2
theorem V6 (x : W6) : EV6 x = dn rid (.inl [x.1.1, x.1.2, x.2.1.1, x.2.1.2, x.2.2.1, x.2.2.2]) := by
 show Value.agg _ = Value.agg _
 rw [clv, show cel [x.1.1, x.1.2, x.2.1.1, x.2.1.2, x.2.2.1, x.2.2.2] = fe x.1.1 ++ (fe x.1.2 ++ (fe x.2.1.1 ++ (fe x.2.1.2 ++ (fe x.2.2.1 ++ fe x.2.2.2)))) from rfl]
 rw [List.append_assoc, List.append_assoc]
theorem a5 {f : Nat} {a a' : List Value} {v v' : Value} (ha : a = a') (hv : v = v') (h : Pure Tryz.prog Gt f a' v') : Pure Tryz.prog Gt f a v := by rw [ha, hv]; exact h
theorem l1 {a b : Value} (h : a = b) : [a] = [b] := by rw [h]
theorem l2 {a b c d : Value} (h : a = b) (k : c = d) : [a, c] = [b, d] := by rw [h, k]
theorem l3 {a b c d e f : Value} (h : a = b) (k : c = d) (l : e = f) : [a, c, e] = [b, d, f] := by rw [h, k, l]
theorem t2 {a b c : Value} (h : a = b) : Value.tuple #[a, c] = .tuple #[b, c] := by rw [h]
end Q6
end
section
open Go.RowKit
theorem ent184 : ac Tryz.prog 184 := fun _ _ => by kernel_rfl
namespace Q6
attribute [local simp] aZ bk aF aA aN aW aL aK aR PLl cy cx N1l cv cw cz bh bl aX bi ba cG
theorem rJ9 {Q P : Prop} (k : Q) (h : Q → P := by intro k; (refine LY.run ?_); (repeat (first | refine bC rfl rfl rfl ?_ | refine bc rfl rfl rfl ?_ | ((refine xl rfl rfl ?_ rfl rfl rfl rfl ?_); (· simp)) | ((refine y6 rfl rfl ?_ ?_ rfl rfl rfl rfl ?_); (· simp); (· simp)) | ((refine xG rfl rfl ?_ ?_ ?_ rfl rfl rfl rfl ?_); (· simp); (· simp); (· simp)) | ((refine sU rfl rfl ?_ rfl rfl ?_); (· simp)) | ((refine Fg rfl rfl ?_ rfl rfl ?_); (· simp)) | ((refine GN rfl rfl ?_ rfl rfl ?_); (· simp)) | ((refine tM hGF rfl rfl rfl ?_ ?_ (ak _) rfl ?_); (· simp); (· simp)) | ((refine F6 hGF rfl rfl rfl ?_ ?_ (ak _) rfl ?_); (· simp); (· simp)) | ((refine HG hGF rfl rfl rfl ?_ ?_ (ak _) rfl ?_); (· simp); (· simp)) | refine bz (f := 153) rfl rfl ent153 (zZ _ _) rfl rfl ?_ | refine bz (f := 130) rfl rfl ent130 (kd _ _) rfl rfl ?_ | refine bz (f := 154) rfl rfl ent154 (xe _ _) rfl rfl ?_ | refine bz (f := 155) rfl rfl ent155 (Gy _) rfl rfl ?_ | refine bz (f := 129) rfl rfl ent129 (nU _) rfl rfl ?_)); (first | refine bV ?_ | refine LY.mk ?_); exact k) : P := h k
theorem pJ9 {Q P : Prop} (k : Q) (h : Q → P := by intro k; (refine xp ?_); (refine rJ9 ?_); exact k) : P := h k
def p3 (x : W6) : Nat → W2
 | 0 => x.1
 | 1 => x.2.1
 | _ => x.2.2
theorem zv178 (w : World) : (zeroValue 178).run Tryz.prog w = .ok (.agg ((FM (FF fun _ => ze2) 3).map U64).toArray) w := by
 rw [h7]; exact (Tryz.zeroValue178 w).trans (by rfl)
abbrev TV3 (f : Nat → W2) : Value := .agg ((FM (FF f) 3).map U64).toArray
theorem kS (f : Nat → W2) (i : Nat) : (FF f i).length = 12 := aX _
attribute [local simp] kS
theorem Bp {x y : W6} (h : ∀ j, j < 3 → p3 x j = p3 y j) : x = y := Prod.ext (h 0 (by decide)) (Prod.ext (h 1 (by decide)) (h 2 (by decide)))
theorem Hz {Q : Nat → Prop} {k : Nat} (h : ∀ j, j < k → Q j) (hk : Q k) : ∀ j, j < k + 1 → Q j := fun j hj => by
 rcases Nat.lt_or_ge j k with h1 | h1
 ·exact h j h1
 ·obtain rfl : j = k := by omega
  exact hk
theorem uo (x : W6) : Pure Tryz.prog Gt 151 [EV6 x] (TV3 (p3 x)) := by
 refine aU Tryz.func151 fun w hw hGF => ?_
 refine xp ?_
 refine lb fun b1 => ?_
 refine la zv178 fun b2 => ?_
 refine aa ?_
 refine pJ9 ?_
 refine zw (FF (p3 x)) rfl rfl rfl Tryz.underlying178 Tryz.sizeOf33 zv178 (aX _) (aX _) (aX _) rfl rfl ?_
 refine rJ9 ?_
 refine rt ?_
 exact aw 2 rfl rfl rfl Tryz.isAgg178 Tryz.sizeOf178 (by simp) (fun w hw => ⟨rfl, ah hw⟩)
theorem k6of (f : Nat → W2) : Pure Tryz.prog Gt 189 [TV3 f] (EV6 (f 0, f 1, f 2)) := by
 refine aU Tryz.func189 fun w hw hGF => ?_
 refine xp ?_
 refine lb fun b1 => ?_
 refine la zv47 fun b2 => ?_
 refine aa ?_
 refine xp ?_
 refine bI (0) (12 * (0)) rfl rfl Tryz.underlying178 Tryz.sizeOf33 (by omega) (by omega) (by omega) rfl rfl ?_
 refine aQ 1 ((fe (f 0).1 ++ fe (f 0).2).map U64) rfl rfl Tryz.isAgg33 Tryz.sizeOf33 (by simp) (bU _ (f 0) 3 (0) _ (by omega) rfl (rfl)) rfl rfl ?_
 refine bI (1) (12 * (1)) rfl rfl Tryz.underlying178 Tryz.sizeOf33 (by omega) (by omega) (by omega) rfl rfl ?_
 refine aQ 1 ((fe (f 1).1 ++ fe (f 1).2).map U64) rfl rfl Tryz.isAgg33 Tryz.sizeOf33 (by simp) (bU _ (f 1) 3 (1) _ (by omega) rfl (rfl)) rfl rfl ?_
 refine bI (2) (12 * (2)) rfl rfl Tryz.underlying178 Tryz.sizeOf33 (by omega) (by omega) (by omega) rfl rfl ?_
 refine aQ 1 ((fe (f 2).1 ++ fe (f 2).2).map U64) rfl rfl Tryz.isAgg33 Tryz.sizeOf33 (by simp) (bU _ (f 2) 3 (2) _ (by omega) rfl (rfl)) rfl rfl ?_
 refine dS iE rfl rfl rfl (by simp) (by simp) (by simp) rfl rfl ?_
 refine rJ9 ?_
 refine rt ?_
 exact aw 2 rfl rfl rfl Tryz.isAgg47 Tryz.sizeOf47 (by simp) (fun w hw => ⟨rfl, ah hw⟩)
theorem e8 (x : W6) (w : World) (hw : Gt w) : Calls Tryz.prog 143 [EV6 x].toArray w (fun e w' => ∃ b1, e = .returned (.func (.func 184) #[] #[.pointer (some ⟨b1, 0, none⟩)]) ∧ Grow w w' ∧ w.heap.size ≤ b1 ∧ OwnB w' b1 (((fe (x.1).1 ++ fe (x.1).2) ++ ((fe (x.2.1).1 ++ fe (x.2.1).2) ++ (fe (x.2.2).1 ++ fe (x.2.2).2))).map U64) 47) := by
 have hGF : BOk Gt (pl w) := gt_low.plain hw
 refine aP (G := Gt) Tryz.func143 rfl rfl (Hp (pl w) []) (a8 (pl w) trivial aq) (az hGF) ?_
 refine xp ?_
 refine lb fun b1 => ?_
 refine rJ9 ?_
 refine xp ?_
 refine jO rfl rfl rfl rfl ?_
 refine rJ9 ?_
 refine rt ?_
 exact bj rfl rfl (fun w hw => ⟨b1, rfl, ah hw, (hw.own 1 b1 _ _ rfl).2.elim id False.elim, (hw.own 1 b1 _ _ rfl).1⟩)
def PS (x : W6) : List (List Value) := (List.range 3).map fun (k : Nat) => [I (k : Int), EV2 (p3 x k)]
theorem jU (x : W6) : (PS x).length = 3 := by rw [PS, List.length_map, List.length_range]
theorem vq (x : W6) (k : Nat) (h : k < 3) : (PS x)[k]? = some [I (k : Int), EV2 (p3 x k)] := by
 rw [PS, List.getElem?_map, List.getElem?_range h]; rfl
theorem wd (x : W6) (k : Nat) (v : List Value) (h : (PS x)[k]? = some v) : k < 3 ∧ v = [I (k : Int), EV2 (p3 x k)] := by
 have hk : k < 3 := by
  rcases Nat.lt_or_ge k 3 with hk | hk
  ·exact hk
  ·rw [List.getElem?_eq_none (by rw [jU]; exact hk)] at h; cases h
 exact ⟨hk, (Option.some.inj ((vq x k hk).symm.trans h)).symm⟩
def RdP (bb : Nat) (x : W6) : Cls := fun w => w.rangeAt bb 0 (((fe (x.1).1 ++ fe (x.1).2) ++ ((fe (x.2.1).1 ++ fe (x.2.1).2) ++ (fe (x.2.2).1 ++ fe (x.2.2).2))).map U64)
theorem ul (bb : Nat) (x : W6) : kW Tryz.prog Gt 184 [.pointer (some ⟨bb, 0, none⟩)] (PS x) (RdP bb x) := by
 intro l J Jx hJ hJx hRd hGx hY w hj
 have okJ : ∀ k, BOk Gt (Bi w (fun Y => J Y k)) := fun k => ⟨fun _ _ _ h => (hRd _ _ _ h.rid).1, hJ k⟩
 have okX : ∀ k, BOk Gt (Bi w (fun Y => Jx Y k)) := fun k => ⟨fun _ _ _ h => hGx _ _ _ h.rid, hJx k⟩
 have c1 : ∀ k L w', Hp (Bi w (fun Y => J Y k)) L w' → RdP bb x w' := fun k L w' h => (hRd _ _ _ h.rid).2
 refine aP (G := Gt) Tryz.func184 rfl rfl (Hp (Bi w (fun Y => J Y 0)) []) (a8 (Bi w _) hj (hJ 0)) (az (okJ 0)) ?_
 refine xp ?_
 refine dY rfl Tryz.isAgg47 Tryz.sizeOf47 (by simp) (fun w h => c1 _ _ w h) rfl rfl ?_
 refine lc ent151 (uo _) ?_
 refine rJ9 ?_
 refine ap ?_
 refine iV (ι := { i : Nat // i ≤ 3 }) (fun y => [(0, .func (.yield l) #[] #[]), (1, .pointer (some ⟨bb, 0, none⟩)), (6, TV3 (p3 x)), (7, I (y.1 : Int))]) (fun y => Bi w (fun Y => J Y y.1)) (fun y => []) (fun y => 3 - y.1) ⟨0, Nat.zero_le _⟩ (fun _ => okJ _) rfl ⟨rfl, rfl, rfl, rfl, trivial⟩ trivial ?_
 rintro ⟨i, hi⟩
 dsimp only
 refine xp ?_
 refine ab rfl rfl (fun _ => rfl) (fun _ => aI _ _ _) rfl rfl ?_
 refine aa ?_
 refine ao ?_
 refine bG rfl (fun hc => ?_) (fun hc => ?_)
 ·have hi2 : i < 3 := by simp at hc; omega
  refine aE ?_
  refine ao ?_
  refine ap ?_
  refine pJ9 ?_
  refine qV (FF (p3 x)) (i) rfl rfl Tryz.underlying178 Tryz.sizeOf33 Tryz.isAgg33 (by omega) (by omega) (aX _) rfl rfl ?_
  refine bT 4 (okJ _) zv33 rfl rfl ?_
  intro b4
  refine rJ9 ?_
  refine ai 4 (okJ _) rfl rfl rfl Tryz.sizeOf33 (by simp) (by simp) (ak _) rfl ?_
  refine aa ?_
  refine pJ9 ?_
  refine fv (hY.b (k := i) (vq x i (by omega)) w) (okJ _) (okX _) rfl rfl rfl rfl rfl ?_ ?_
  ·skip
   refine bY rfl (fun _ => bH _) rfl rfl ?_
   refine aa ?_
   refine bB rfl ?_
   refine aE ?_
   refine av (E := EE []) ?_
   refine ab rfl rfl (fun _ => rfl) (fun _ => aC _ _ _ (by unfold inI; omega)) rfl rfl ?_
   refine rJ9 ?_
   repeat (refine aT ?_)
   refine a9 ?_
   exact ⟨rfl, ⟨i + 1, by omega⟩, _, by show 3 - (i + 1) < 3 - i; omega, rfl, ⟨rfl, rfl, rfl, rfl, trivial⟩, trivial⟩
  ·skip
   refine bY rfl (fun _ => bH _) rfl rfl ?_
   refine aa ?_
   refine cd rfl ?_
   refine rt ?_
   repeat (first | refine ep ?_ | refine ck ?_ | refine ek rfl ?_ | refine bq ?_ | refine br ?_)
   exact fg rfl (fun w hw => ⟨⟨_, rfl⟩, .inr ⟨_, cY (hJx _) hw.rid⟩⟩)
 ·obtain rfl : i = 3 := by simp at hc; omega
  refine aY ?_
  repeat (first | refine ep ?_ | refine ck ?_ | refine ek rfl ?_ | refine bq ?_ | refine br ?_)
  refine ej rfl (fun w hw => ⟨⟨_, rfl⟩, .inl ?_⟩)
  have := cY (hJ _) hw.rid
  rw [jU]
  exact this
theorem AN  : Pure Tryz.prog Gt 61 [] (EV6 K6.one) := (a5 rfl (V6 _) (pE TO42 Tryz.func61 [] (.inl (.inl [K6.one.1.1, K6.one.1.2, K6.one.2.1.1, K6.one.2.1.2, K6.one.2.2.1, K6.one.2.2.2])) (let t0 := on2; (.inl (.inl [t0.1, t0.2, 0, 0, 0, 0]), [])) [] (by kernel_rfl) aD rfl))
theorem rW {f : Nat} {g : W6} (en : ac Tryz.prog f) (h : Pure Tryz.prog Gt f [] (EV6 g)) : Snd Tryz.prog Gt f (c0 q6.rd g) := lL q6.rd en (a5 rfl (V6 _).symm h)
def TO43 : Tb Tryz.prog Gt := TO42.add (rW (g := K6.one) ent61 AN)
theorem jC (x y : W6) : Pure Tryz.prog Gt 84 [EV6 x, EV6 y] (.bool (decide (x = y))) := by
 intro w hw
 have hGF : BOk Gt (pl w) := gt_low.plain hw
 refine ce (G := Gt) Tryz.func84 rfl rfl (Hp (pl w) []) (a8 (pl w) trivial aq) (az hGF) ?_
 refine ae (E := EE [143]) ?_
 refine lb fun b2 => ?_
 refine lb fun b3 => ?_
 refine fk 4 hGF Tryz.zeroValue4 rfl rfl ?_
 intro b4
 refine aa ?_
 refine ae (E := EE [143]) ?_
 refine rJ9 ?_
 refine lc ent151 (uo _) ?_
 refine la zv178 fun b5 => ?_
 refine rJ9 ?_
 refine ao ?_
 refine ae (E := EE [143]) ?_
 refine rJ9 ?_
 refine cF rfl rfl ent143 rfl rfl (fun w' hw' => (e8 x w' (hGF.g _ _ _ hw')).mono fun e' w'' h => ?_)
 obtain ⟨c1, rfl, hg, h1, ho⟩ := h
 refine ⟨_, _, rfl, az hGF, hw'.news aq hg [(33, c1, ((fe (x.1).1 ++ fe (x.1).2) ++ ((fe (x.2.1).1 ++ fe (x.2.1).2) ++ (fe (x.2.2).1 ++ fe (x.2.2).2))).map U64, 47)] ?_ dP, ?_⟩
 ·intro n' b' c' t' hl
  rcases bn hl with ⟨_, e⟩ | ⟨_, hl⟩
  ·cases e; exact ⟨h1, ho⟩
  ·cases hl
 clear hw' hg h1 ho
 refine aa ?_
 refine ap ?_
 refine nt (fun k => ∀ j, j < k → p3 x j = p3 y j) (fun _ => pl w) (fun _ _ => pl w) (fun _ => hGF) (fun _ _ => hGF) (fun _ => rfl) (fun _ _ => rfl) rfl rfl ent184 (ul c1 x) (fun v hv => by obtain ⟨k, hk, rfl⟩ := List.mem_map.1 hv; rfl) rfl (fun k => [(2, b2, ((fe (x.1).1 ++ fe (x.1).2) ++ ((fe (x.2.1).1 ++ fe (x.2.1).2) ++ (fe (x.2.2).1 ++ fe (x.2.2).2))).map U64, 47), (3, b3, ((fe (y.1).1 ++ fe (y.1).2) ++ ((fe (y.2.1).1 ++ fe (y.2.1).2) ++ (fe (y.2.2).1 ++ fe (y.2.2).2))).map U64, 47), (4, b4, [.bool false], 4), (5, b5, (FM (FF (p3 y)) 3).map U64, 178), (33, c1, ((fe (x.1).1 ++ fe (x.1).2) ++ ((fe (x.2.1).1 ++ fe (x.2.1).2) ++ (fe (x.2.2).1 ++ fe (x.2.2).2))).map U64, 47)]) (fun c _ L' => c = .ret ∧ lkB L' 4 = some (b4, [.bool false], 4) ∧ ¬ x = y) (fun j h => absurd h (Nat.not_lt_zero j)) ⟨rfl, rfl, rfl, rfl, rfl, trivial⟩ (fun k _ w' h => cH (n := 33) rfl w' h) ?_ ?_ ?_ (fun D c k L' hD h => by obtain ⟨rfl, hl, hne⟩ := h; refine oh ?_; refine br ?_; refine bq ?_; exact (df (.inl rfl) aq (gD 4 rfl rfl hl Tryz.isAgg4 (fun w hw => ⟨congrArg (fun b => Ending.returned (.bool b)) (decide_eq_false hne).symm, ah hw⟩))))
 ·intro k v hx hQ R hR
  obtain ⟨hk, rfl⟩ := wd x k v hx
  refine ae (E := EE [143]) ?_
  refine rJ9 ?_
  refine av (E := EE [143]) ?_
  refine bT 7 (hR (pl w) rfl hGF).1 zv33 rfl rfl ?_
  intro b7
  refine ai 7 (hR (pl w) rfl hGF).1 rfl rfl rfl Tryz.sizeOf33 (by simp) (by simp) (ak _) rfl ?_
  refine aa ?_
  refine ⟨rfl, _, rfl, ?_⟩
  refine ap ?_
  refine bx (E := EE [143]) a7 (by kernel_rfl) (by kernel_rfl) (by kernel_rfl) ?_
  refine rJ9 ?_
  refine bI (k) (12 * (k)) rfl rfl Tryz.underlying178 Tryz.sizeOf33 (by omega) (by omega) (by omega) rfl rfl ?_
  refine aQ 5 ((fe (p3 y k).1 ++ fe (p3 y k).2).map U64) rfl rfl Tryz.isAgg33 Tryz.sizeOf33 (by simp) (bU _ (p3 y k) 3 (k) _ (by omega) rfl (rfl)) rfl rfl ?_
  refine lc ent152 (rz _ _) ?_
  refine bY rfl (fun _ => bH _) rfl rfl ?_
  refine aa ?_
  refine bG rfl (fun hc => ?_) (fun hc => ?_)
  ·have hc : ¬ p3 x k = p3 y k := by simpa using hc
   refine ae (E := EE [143]) ?_
   refine dw 4 (hR (pl w) rfl hGF).2.1 rfl rfl rfl Tryz.sizeOf4 rfl (by simp [*]) rfl ?_
   refine aa ?_
   refine rt ?_
   repeat (first | refine bq ?_ | refine br ?_)
   exact ⟨_, rfl, rfl, rfl, fun e => hc (by rw [e])⟩
  ·have hc : p3 x k = p3 y k := by simpa using hc
   refine aE ?_
   repeat (refine aT ?_)
   exact ⟨_, rfl, DV (Hz hQ hc) ⟨rfl, rfl, rfl, rfl, rfl, trivial⟩⟩
 ·intro hQ D hD
  rw [jU] at *
  have hxy := Bp hQ
  refine ae (E := EE [143]) ?_
  refine dw 4 hD rfl rfl rfl Tryz.sizeOf4 rfl (by simp [*]) rfl ?_
  refine aa ?_
  refine rt ?_
  exact df (.inl rfl) aq (gD 4 rfl rfl rfl Tryz.isAgg4 (fun w hw => ⟨congrArg (fun b => Ending.returned (.bool b)) (decide_eq_true hxy).symm, ah hw⟩))
 ·intro D hb
  refine aT ?_
  refine a9 ?_
  exact kR hb
theorem GF {x : W6} {k : Nat} (hk : k < 3) (h : ¬ p3 x k = ze2) : ¬ x = K6.zero := fun e => h (by
 subst e
 match k, hk with
 | 0, _ => rfl
 | 1, _ => rfl
 | 2, _ => rfl)
theorem E4 {x : W6} (h : ∀ j, j < 3 → p3 x j = ze2) : x = K6.zero := Prod.ext (h 0 (by decide)) (Prod.ext (h 1 (by decide)) (h 2 (by decide)))
theorem ie (x : W6) : Pure Tryz.prog Gt 76 [EV6 x] (.bool (decide (x = K6.zero))) := by
 intro w hw
 have hGF : BOk Gt (pl w) := gt_low.plain hw
 refine ce (G := Gt) Tryz.func76 rfl rfl (Hp (pl w) []) (a8 (pl w) trivial aq) (az hGF) ?_
 refine ae (E := EE [143]) ?_
 refine lb fun b1 => ?_
 refine fk 2 hGF Tryz.zeroValue4 rfl rfl ?_
 intro b2
 refine aa ?_
 refine ao ?_
 refine ae (E := EE [143]) ?_
 refine rJ9 ?_
 refine cF rfl rfl ent143 rfl rfl (fun w' hw' => (e8 x w' (hGF.g _ _ _ hw')).mono fun e' w'' h => ?_)
 obtain ⟨c1, rfl, hg, h1, ho⟩ := h
 refine ⟨_, _, rfl, az hGF, hw'.news aq hg [(33, c1, ((fe (x.1).1 ++ fe (x.1).2) ++ ((fe (x.2.1).1 ++ fe (x.2.1).2) ++ (fe (x.2.2).1 ++ fe (x.2.2).2))).map U64, 47)] ?_ dP, ?_⟩
 ·intro n' b' c' t' hl
  rcases bn hl with ⟨_, e⟩ | ⟨_, hl⟩
  ·cases e; exact ⟨h1, ho⟩
  ·cases hl
 clear hw' hg h1 ho
 refine aa ?_
 refine ap ?_
 refine nt (fun k => ∀ j, j < k → p3 x j = ze2) (fun _ => pl w) (fun _ _ => pl w) (fun _ => hGF) (fun _ _ => hGF) (fun _ => rfl) (fun _ _ => rfl) rfl rfl ent184 (ul c1 x) (fun v hv => by obtain ⟨k, hk, rfl⟩ := List.mem_map.1 hv; rfl) rfl (fun k => [(1, b1, ((fe (x.1).1 ++ fe (x.1).2) ++ ((fe (x.2.1).1 ++ fe (x.2.1).2) ++ (fe (x.2.2).1 ++ fe (x.2.2).2))).map U64, 47), (2, b2, [.bool false], 4), (33, c1, ((fe (x.1).1 ++ fe (x.1).2) ++ ((fe (x.2.1).1 ++ fe (x.2.1).2) ++ (fe (x.2.2).1 ++ fe (x.2.2).2))).map U64, 47)]) (fun c _ L' => c = .ret ∧ lkB L' 2 = some (b2, [.bool false], 4) ∧ ¬ x = K6.zero) (fun j h => absurd h (Nat.not_lt_zero j)) ⟨rfl, rfl, rfl, trivial⟩ (fun k _ w' h => cH (n := 33) rfl w' h) ?_ ?_ ?_ (fun D c k L' hD h => by obtain ⟨rfl, hl, hne⟩ := h; refine oh ?_; refine br ?_; refine bq ?_; exact (df (.inl rfl) aq (gD 2 rfl rfl hl Tryz.isAgg4 (fun w hw => ⟨congrArg (fun b => Ending.returned (.bool b)) (decide_eq_false hne).symm, ah hw⟩))))
 ·intro k v hx hQ R hR
  obtain ⟨hk, rfl⟩ := wd x k v hx
  refine av (E := EE [143]) ?_
  refine bT 4 (hR (pl w) rfl hGF).1 zv33 rfl rfl ?_
  intro b4
  refine ai 4 (hR (pl w) rfl hGF).1 rfl rfl rfl Tryz.sizeOf33 (by simp) (by simp) (ak _) rfl ?_
  refine aa ?_
  refine ⟨rfl, _, rfl, ?_⟩
  refine ap ?_
  refine ae (E := EE [143]) ?_
  refine rJ9 ?_
  refine lc ent102 (n7 _) ?_
  refine bY rfl (fun _ => bH _) rfl rfl ?_
  refine aa ?_
  refine bG rfl (fun hc => ?_) (fun hc => ?_)
  ·have hc : ¬ p3 x k = ze2 := by simpa using hc
   refine ae (E := EE [143]) ?_
   refine dw 2 (hR (pl w) rfl hGF).2.1 rfl rfl rfl Tryz.sizeOf4 rfl (by simp [*]) rfl ?_
   refine aa ?_
   refine rt ?_
   repeat (first | refine bq ?_ | refine br ?_)
   exact ⟨_, rfl, rfl, rfl, GF hk hc⟩
  ·have hc : p3 x k = ze2 := by simpa using hc
   refine aE ?_
   repeat (refine aT ?_)
   exact ⟨_, rfl, DV (Hz hQ hc) ⟨rfl, rfl, rfl, trivial⟩⟩
 ·intro hQ D hD
  rw [jU] at *
  have hxy := E4 hQ
  refine ae (E := EE [143]) ?_
  refine dw 2 hD rfl rfl rfl Tryz.sizeOf4 rfl (by simp [*]) rfl ?_
  refine aa ?_
  refine rt ?_
  exact df (.inl rfl) aq (gD 2 rfl rfl rfl Tryz.isAgg4 (fun w hw => ⟨congrArg (fun b => Ending.returned (.bool b)) (decide_eq_true hxy).symm, ah hw⟩))
 ·intro D hb
  refine aT ?_
  refine a9 ?_
  exact kR hb
theorem wo (x y : W6) : Pure Tryz.prog Gt 91 [EV6 x, EV6 y] (EV6 (K6.add x y)) := (a5 (l2 (V6 _) (V6 _)) (V6 _) (pE TO43 Tryz.func91 [.inl [x.1.1, x.1.2, x.2.1.1, x.2.1.2, x.2.2.1, x.2.2.2], .inl [y.1.1, y.1.2, y.2.1.1, y.2.1.2, y.2.2.1, y.2.2.2]] (.inl (.inl [(K6.add x y).1.1, (K6.add x y).1.2, (K6.add x y).2.1.1, (K6.add x y).2.1.2, (K6.add x y).2.2.1, (K6.add x y).2.2.2])) (let t0 := ad2 (x.1.1, x.1.2) (y.1.1, y.1.2); let t1 := ad2 (x.2.1.1, x.2.1.2) (y.2.1.1, y.2.1.2); let t2 := ad2 (x.2.2.1, x.2.2.2) (y.2.2.1, y.2.2.2); (.inl (.inl [t0.1, t0.2, t1.1, t1.2, t2.1, t2.2]), [])) [] (by kernel_rfl) aD rfl))
theorem bJ {f : Nat} {g : W6 → W6 → W6} (en : ac Tryz.prog f) (h : ∀ a b, Pure Tryz.prog Gt f [EV6 a, EV6 b] (EV6 (g a b))) : Snd Tryz.prog Gt f (c2 q6.ag q6.ag q6.rd g) := dk q6.ag q6.ag q6.rd en (fun a b => a5 (l2 (V6 _).symm (V6 _).symm) (V6 _).symm (h a b))
def TO44 : Tb Tryz.prog Gt := TO43.add (bJ (g := K6.add) ent91 wo)
theorem tN (x y : W6) : Pure Tryz.prog Gt 93 [EV6 x, EV6 y] (EV6 (sb6 x y)) := (a5 (l2 (V6 _) (V6 _)) (V6 _) (pE TO44 Tryz.func93 [.inl [x.1.1, x.1.2, x.2.1.1, x.2.1.2, x.2.2.1, x.2.2.2], .inl [y.1.1, y.1.2, y.2.1.1, y.2.1.2, y.2.2.1, y.2.2.2]] (.inl (.inl [(sb6 x y).1.1, (sb6 x y).1.2, (sb6 x y).2.1.1, (sb6 x y).2.1.2, (sb6 x y).2.2.1, (sb6 x y).2.2.2])) (let t0 := sb2 (x.1.1, x.1.2) (y.1.1, y.1.2); let t1 := sb2 (x.2.1.1, x.2.1.2) (y.2.1.1, y.2.1.2); let t2 := sb2 (x.2.2.1, x.2.2.2) (y.2.2.1, y.2.2.2); (.inl (.inl [t0.1, t0.2, t1.1, t1.2, t2.1, t2.2]), [])) [] (by kernel_rfl) aD rfl))
def TO45 : Tb Tryz.prog Gt := TO44.add (bJ (g := sb6) ent93 tN)
theorem uJ (x : W6) : Pure Tryz.prog Gt 99 [EV6 x] (EV6 (K6.neg x)) := (a5 (l1 (V6 _)) (V6 _) (pE TO45 Tryz.func99 [.inl [x.1.1, x.1.2, x.2.1.1, x.2.1.2, x.2.2.1, x.2.2.2]] (.inl (.inl [(K6.neg x).1.1, (K6.neg x).1.2, (K6.neg x).2.1.1, (K6.neg x).2.1.2, (K6.neg x).2.2.1, (K6.neg x).2.2.2])) (let t0 := ng2 (x.1.1, x.1.2); let t1 := ng2 (x.2.1.1, x.2.1.2); let t2 := ng2 (x.2.2.1, x.2.2.2); (.inl (.inl [t0.1, t0.2, t1.1, t1.2, t2.1, t2.2]), [])) [] (by kernel_rfl) aD rfl))
theorem bM {f : Nat} {g : W6 → W6} (en : ac Tryz.prog f) (h : ∀ a, Pure Tryz.prog Gt f [EV6 a] (EV6 (g a))) : Snd Tryz.prog Gt f (c1 q6.ag q6.rd g) := dB q6.ag q6.rd en (fun a => a5 (l1 (V6 _).symm) (V6 _).symm (h a))
def TO46 : Tb Tryz.prog Gt := TO45.add (bM (g := K6.neg) ent99 uJ)
theorem uX (x y : W6) : Pure Tryz.prog Gt 90 [EV6 x, EV6 y] (EV6 (K6.mul x y)) := by
 refine aU Tryz.func90 fun w hw hGF => ?_
 refine xp ?_
 refine lb fun b2 => ?_
 refine lb fun b3 => ?_
 refine la zv47 fun b4 => ?_
 refine aa ?_
 refine bt (E := EE [2999999]) [0, 1, 2, 3, 4, 5, 6, 7, 8, 9, 10, 11, 12, 13, 14] [⟨15, 5, 33, (fe 0 ++ fe 0).map U64⟩, ⟨16, 6, 33, (fe 0 ++ fe 0).map U64⟩, ⟨17, 7, 33, (fe 0 ++ fe 0).map U64⟩] [18, 19, 20] a7 rfl (by kernel_rfl) (by kernel_rfl) (by kernel_rfl) (by kernel_rfl) (by kernel_rfl) (by kernel_rfl) (by decide) (by intro x hx; simp only [List.mem_cons, List.not_mem_nil, or_false] at hx; rcases hx with rfl | rfl | rfl <;> exact a6 rfl zv33 rfl) ?_
 refine rJ9 ?_
 refine ⟨_, _, rfl, hGF, by intro x hx; simp only [List.mem_cons, List.not_mem_nil, or_false] at hx; rcases hx with rfl | rfl | rfl <;> rfl, by intro x hx; simp only [List.mem_cons, List.not_mem_nil, or_false] at hx; rcases hx with rfl | rfl | rfl <;> rfl, fun adr => ?_⟩
 refine rJ9 ?_
 refine bt (E := EE [2999999]) [0, 1, 2, 3, 4, 5, 6, 7, 8, 9, 10, 11, 12, 13, 14] [⟨15, 8, 33, (fe 0 ++ fe 0).map U64⟩] [16] a7 rfl (by kernel_rfl) (by kernel_rfl) (by kernel_rfl) (by kernel_rfl) (by kernel_rfl) (by kernel_rfl) (by decide) (by intro x hx; simp only [List.mem_cons, List.not_mem_nil, or_false] at hx; subst hx; exact a6 rfl zv33 rfl) ?_
 refine rJ9 ?_
 refine ⟨_, _, rfl, hGF, by intro x hx; simp only [List.mem_cons, List.not_mem_nil, or_false] at hx; subst hx; rfl, by intro x hx; simp only [List.mem_cons, List.not_mem_nil, or_false] at hx; subst hx; rfl, fun adr => ?_⟩
 refine rJ9 ?_
 refine bt (E := EE [2999999]) [0, 1, 2, 3, 4, 5, 6, 7, 8, 9, 10, 11, 12, 13, 14] [⟨15, 9, 33, (fe 0 ++ fe 0).map U64⟩] [16] a7 rfl (by kernel_rfl) (by kernel_rfl) (by kernel_rfl) (by kernel_rfl) (by kernel_rfl) (by kernel_rfl) (by decide) (by intro x hx; simp only [List.mem_cons, List.not_mem_nil, or_false] at hx; subst hx; exact a6 rfl zv33 rfl) ?_
 refine rJ9 ?_
 refine ⟨_, _, rfl, hGF, by intro x hx; simp only [List.mem_cons, List.not_mem_nil, or_false] at hx; subst hx; rfl, by intro x hx; simp only [List.mem_cons, List.not_mem_nil, or_false] at hx; subst hx; rfl, fun adr => ?_⟩
 refine rJ9 ?_
 refine bt (E := EE [2999999]) [0, 1, 2, 3, 4, 5, 6, 7, 8, 9, 10, 11, 12, 13, 14] [⟨15, 10, 33, (fe 0 ++ fe 0).map U64⟩] [16] a7 rfl (by kernel_rfl) (by kernel_rfl) (by kernel_rfl) (by kernel_rfl) (by kernel_rfl) (by kernel_rfl) (by decide) (by intro x hx; simp only [List.mem_cons, List.not_mem_nil, or_false] at hx; subst hx; exact a6 rfl zv33 rfl) ?_
 refine rJ9 ?_
 refine ⟨_, _, rfl, hGF, by intro x hx; simp only [List.mem_cons, List.not_mem_nil, or_false] at hx; subst hx; rfl, by intro x hx; simp only [List.mem_cons, List.not_mem_nil, or_false] at hx; subst hx; rfl, fun adr => ?_⟩
 refine rJ9 ?_
 refine bx (E := EE []) a7 (by kernel_rfl) (by kernel_rfl) (by kernel_rfl) ?_
 refine rJ9 ?_
 refine dS iE rfl rfl rfl (by simp) (by simp) (by simp) rfl rfl ?_
 refine rJ9 ?_
 refine rt ?_
 exact aw 4 rfl rfl rfl Tryz.isAgg47 Tryz.sizeOf47 (by simp) (fun w hw => ⟨e6 (zq R2 [x.1, x.2.1, x.2.2, y.1, y.2.1, y.2.2, XI] (ta (tm j0 j3) (txi 6 (tsb (tsb (tm (ta j1 j2) (ta j4 j5)) (tm j1 j4)) (tm j2 j5)) rfl)) (ta (tm j0 j3) (tm j6 (ta (tm j1 j5) (tm j2 j4))))) (zq R2 [x.1, x.2.1, x.2.2, y.1, y.2.1, y.2.2, XI] (ta (tsb (tsb (tm (ta j0 j1) (ta j3 j4)) (tm j0 j3)) (tm j1 j4)) (txi 6 (tm j2 j5) rfl)) (ta (ta (tm j0 j4) (tm j1 j3)) (tm j6 (tm j2 j5)))) (zq R2 [x.1, x.2.1, x.2.2, y.1, y.2.1, y.2.2, XI] (ta (tsb (tsb (tm (ta j0 j2) (ta j3 j5)) (tm j0 j3)) (tm j2 j5)) (tm j1 j4)) (ta (ta (tm j0 j5) (tm j1 j4)) (tm j2 j3))), ah hw⟩)
def TO47 : Tb Tryz.prog Gt := TO46.add (bJ (g := K6.mul) ent90 uX)
theorem jX (x : W6) : Pure Tryz.prog Gt 177 [EV6 x] (EV6 (K6.mul x x)) := by
 refine aU Tryz.func177 fun w hw hGF => ?_
 refine xp ?_
 refine lb fun b1 => ?_
 refine la zv47 fun b2 => ?_
 refine aa ?_
 refine bt (E := EE [2999999]) [0, 1, 2, 3, 4, 5] [⟨6, 3, 33, (fe 0 ++ fe 0).map U64⟩, ⟨7, 4, 33, (fe 0 ++ fe 0).map U64⟩] [8, 9] a7 rfl (by kernel_rfl) (by kernel_rfl) (by kernel_rfl) (by kernel_rfl) (by kernel_rfl) (by kernel_rfl) (by decide) (by intro x hx; simp only [List.mem_cons, List.not_mem_nil, or_false] at hx; rcases hx with rfl | rfl <;> exact a6 rfl zv33 rfl) ?_
 refine rJ9 ?_
 refine ⟨_, _, rfl, hGF, by intro x hx; simp only [List.mem_cons, List.not_mem_nil, or_false] at hx; rcases hx with rfl | rfl <;> rfl, by intro x hx; simp only [List.mem_cons, List.not_mem_nil, or_false] at hx; rcases hx with rfl | rfl <;> rfl, fun adr => ?_⟩
 refine rJ9 ?_
 refine bt (E := EE [2999999]) [0, 1, 2, 3, 4, 5, 6, 7, 8, 9] [⟨10, 5, 33, (fe 0 ++ fe 0).map U64⟩, ⟨11, 6, 33, (fe 0 ++ fe 0).map U64⟩] [12, 13] a7 rfl (by kernel_rfl) (by kernel_rfl) (by kernel_rfl) (by kernel_rfl) (by kernel_rfl) (by kernel_rfl) (by decide) (by intro x hx; simp only [List.mem_cons, List.not_mem_nil, or_false] at hx; rcases hx with rfl | rfl <;> exact a6 rfl zv33 rfl) ?_
 refine rJ9 ?_
 refine ⟨_, _, rfl, hGF, by intro x hx; simp only [List.mem_cons, List.not_mem_nil, or_false] at hx; rcases hx with rfl | rfl <;> rfl, by intro x hx; simp only [List.mem_cons, List.not_mem_nil, or_false] at hx; rcases hx with rfl | rfl <;> rfl, fun adr => ?_⟩
 refine rJ9 ?_
 refine bx (E := EE []) a7 (by kernel_rfl) (by kernel_rfl) (by kernel_rfl) ?_
 refine rJ9 ?_
 refine bt (E := EE [2999999]) [0, 1, 2, 3, 4, 5, 6, 7, 8] [⟨9, 7, 33, (fe 0 ++ fe 0).map U64⟩] [10] a7 rfl (by kernel_rfl) (by kernel_rfl) (by kernel_rfl) (by kernel_rfl) (by kernel_rfl) (by kernel_rfl) (by decide) (by intro x hx; simp only [List.mem_cons, List.not_mem_nil, or_false] at hx; subst hx; exact a6 rfl zv33 rfl) ?_
 refine rJ9 ?_
 refine ⟨_, _, rfl, hGF, by intro x hx; simp only [List.mem_cons, List.not_mem_nil, or_false] at hx; subst hx; rfl, by intro x hx; simp only [List.mem_cons, List.not_mem_nil, or_false] at hx; subst hx; rfl, fun adr => ?_⟩
 refine rJ9 ?_
 refine bx (E := EE []) a7 (by kernel_rfl) (by kernel_rfl) (by kernel_rfl) ?_
 refine rJ9 ?_
 refine dS iE rfl rfl rfl (by simp) (by simp) (by simp) rfl rfl ?_
 refine rJ9 ?_
 refine rt ?_
 exact aw 2 rfl rfl rfl Tryz.isAgg47 Tryz.sizeOf47 (by simp) (fun w hw => ⟨e6 (zq R2 [x.1, x.2.1, x.2.2, XI] (ta (tm j0 j0) (txi 3 (ta (tm j1 j2) (tm j1 j2)) rfl)) (ta (tm j0 j0) (tm j3 (ta (tm j1 j2) (tm j2 j1))))) (zq R2 [x.1, x.2.1, x.2.2, XI] (ta (ta (tm j0 j1) (tm j0 j1)) (txi 3 (tm j2 j2) rfl)) (ta (ta (tm j0 j1) (tm j1 j0)) (tm j3 (tm j2 j2)))) (zq R2 [x.1, x.2.1, x.2.2, XI] (tsb (tsb (ta (ta (tm (ta (tsb j0 j1) j2) (ta (tsb j0 j1) j2)) (ta (tm j0 j1) (tm j0 j1))) (ta (tm j1 j2) (tm j1 j2))) (tm j0 j0)) (tm j2 j2)) (ta (ta (tm j0 j2) (tm j1 j1)) (tm j2 j0))), ah hw⟩)
def TO48 : Tb Tryz.prog Gt := TO47.add (bM (g := fun x => K6.mul x x) ent177 jX)
theorem re (x : W6) (c : W2) : Pure Tryz.prog Gt 163 [EV6 x, EV2 c] (EV6 (sc6 x c)) := by
 intro w hw
 have hGF : BOk Gt (pl w) := gt_low.plain hw
 refine ce (G := Gt) Tryz.func163 rfl rfl (Hp (pl w) []) (a8 (pl w) trivial aq) (az hGF) ?_
 refine ae (E := EE [143]) ?_
 refine lb fun b2 => ?_
 refine lb fun b3 => ?_
 refine la zv47 fun b4 => ?_
 refine aa ?_
 refine ae (E := EE [143]) ?_
 refine la zv178 fun b5 => ?_
 refine aa ?_
 refine ao ?_
 refine ae (E := EE [143]) ?_
 refine rJ9 ?_
 refine cF rfl rfl ent143 rfl rfl (fun w' hw' => (e8 x w' (hGF.g _ _ _ hw')).mono fun e' w'' h => ?_)
 obtain ⟨c1, rfl, hg, h1, ho⟩ := h
 refine ⟨_, _, rfl, az hGF, hw'.news aq hg [(33, c1, ((fe (x.1).1 ++ fe (x.1).2) ++ ((fe (x.2.1).1 ++ fe (x.2.1).2) ++ (fe (x.2.2).1 ++ fe (x.2.2).2))).map U64, 47)] ?_ dP, ?_⟩
 ·intro n' b' c' t' hl
  rcases bn hl with ⟨_, e⟩ | ⟨_, hl⟩
  ·cases e; exact ⟨h1, ho⟩
  ·cases hl
 clear hw' hg h1 ho
 refine aa ?_
 refine ap ?_
 refine d9 (fun _ => pl w) (fun _ _ => pl w) (fun _ => hGF) (fun _ _ => hGF) (fun _ => rfl) (fun _ _ => rfl) rfl rfl ent184 (ul c1 x) (fun v hv => by obtain ⟨k, hk, rfl⟩ := List.mem_map.1 hv; rfl) rfl (fun k => [(2, b2, ((fe (x.1).1 ++ fe (x.1).2) ++ ((fe (x.2.1).1 ++ fe (x.2.1).2) ++ (fe (x.2.2).1 ++ fe (x.2.2).2))).map U64, 47), (3, b3, (fe c.1 ++ fe c.2).map U64, 33), (4, b4, ((fe 0 ++ fe 0) ++ ((fe 0 ++ fe 0) ++ (fe 0 ++ fe 0))).map U64, 47), (5, b5, (FM (FF (fun j => if j < k then ml2 (p3 x j) c else ze2)) 3).map U64, 178), (33, c1, ((fe (x.1).1 ++ fe (x.1).2) ++ ((fe (x.2.1).1 ++ fe (x.2.1).2) ++ (fe (x.2.2).1 ++ fe (x.2.2).2))).map U64, 47)]) (fun _ _ _ => False) ⟨rfl, rfl, rfl, congrArg (fun l => some (b5, l, _)) (congrArg (List.map U64) (d3 fun j _ => (if_neg (Nat.not_lt_zero j)).symm)), rfl, trivial⟩ (fun k _ w' h => cH (n := 33) rfl w' h) ?_ ?_ (fun _ _ _ _ _ h => h.elim)
 ·intro k v hx R hR
  obtain ⟨hk, rfl⟩ := wd x k v hx
  refine ae (E := EE [143]) ?_
  refine rJ9 ?_
  refine av (E := EE [143]) ?_
  refine bT 7 (hR (pl w) rfl hGF).1 zv33 rfl rfl ?_
  intro b7
  refine ai 7 (hR (pl w) rfl hGF).1 rfl rfl rfl Tryz.sizeOf33 (by simp) (by simp) (ak _) rfl ?_
  refine aa ?_
  refine ⟨rfl, _, rfl, ?_⟩
  refine ap ?_
  refine av (E := EE [143]) ?_
  refine rJ9 ?_
  refine bI (k) (12 * (k)) rfl rfl Tryz.underlying178 Tryz.sizeOf33 (by omega) (by omega) (by omega) rfl rfl ?_
  refine cm 5 ((FM (FF (fun j => if j < k + 1 then ml2 (p3 x j) c else ze2)) 3).map U64) (hR (pl w) rfl hGF).2.1 rfl rfl rfl Tryz.sizeOf33 (by simp) (ak _) (by simp; omega) (eP _ _ (ml2 (p3 x k) c) 3 (k) _ (by omega) rfl (fun j _ => iH (fun j => ml2 (p3 x j) c) (fun _ => ze2) k j)) rfl ?_
  refine aa ?_
  repeat (refine aT ?_)
  exact ⟨_, rfl, ⟨rfl, rfl, rfl, rfl, rfl, trivial⟩⟩
 ·intro D hD
  rw [jU]
  refine ae (E := EE [143]) ?_
  refine rJ9 ?_
  refine lc ent189 (k6of _) ?_
  refine ai 4 hD rfl rfl rfl Tryz.sizeOf47 (by simp) (by simp) (ak _) rfl ?_
  refine aa ?_
  refine rt ?_
  exact df (.inl rfl) aq (aw 4 rfl rfl rfl Tryz.isAgg47 Tryz.sizeOf47 (by simp) (fun w hw => ⟨e6 rfl rfl rfl, ah hw⟩))
theorem k6v (x : W6) : Pure Tryz.prog Gt 92 [EV6 x] (EV6 (v6 x)) := (a5 (l1 (V6 _)) (V6 _) (pE TO48 Tryz.func92 [.inl [x.1.1, x.1.2, x.2.1.1, x.2.1.2, x.2.2.1, x.2.2.2]] (.inl (.inl [(v6 x).1.1, (v6 x).1.2, (v6 x).2.1.1, (v6 x).2.1.2, (v6 x).2.2.1, (v6 x).2.2.2])) (let t0 := xi2 (x.2.2.1, x.2.2.2); (.inl (.inl [t0.1, t0.2, x.1.1, x.1.2, x.2.1.1, x.2.1.2]), [])) [] (by kernel_rfl) aD rfl))
def TO49 : Tb Tryz.prog Gt := TO48.add (bM (g := v6) ent92 k6v)
def oth (x : W6) : W6 := (i3a x.1 x.2.1 x.2.2, i3b x.1 x.2.1 x.2.2, i3c x.1 x.2.1 x.2.2)
theorem kG (x : W6) : Pure Tryz.prog Gt 197 [EV6 x] (EV6 (oth x)) := (a5 (l1 (V6 _)) (V6 _) (pE TO49 Tryz.func197 [.inl [x.1.1, x.1.2, x.2.1.1, x.2.1.2, x.2.2.1, x.2.2.2]] (.inl (.inl [(oth x).1.1, (oth x).1.2, (oth x).2.1.1, (oth x).2.1.2, (oth x).2.2.1, (oth x).2.2.2])) (let t0 := ml2 (x.1.1, x.1.2) (x.1.1, x.1.2); let t1 := ml2 (x.2.1.1, x.2.1.2) (x.2.2.1, x.2.2.2); let t2 := xi2 (t1.1, t1.2); let t3 := sb2 (t0.1, t0.2) (t2.1, t2.2); let t4 := ml2 (x.2.2.1, x.2.2.2) (x.2.2.1, x.2.2.2); let t5 := xi2 (t4.1, t4.2); let t6 := ml2 (x.1.1, x.1.2) (x.2.1.1, x.2.1.2); let t7 := sb2 (t5.1, t5.2) (t6.1, t6.2); let t8 := ml2 (x.2.1.1, x.2.1.2) (x.2.1.1, x.2.1.2); let t9 := ml2 (x.1.1, x.1.2) (x.2.2.1, x.2.2.2); let t10 := sb2 (t8.1, t8.2) (t9.1, t9.2); (.inl (.inl [t3.1, t3.2, t7.1, t7.2, t10.1, t10.2]), [])) [] (by kernel_rfl) aD rfl))
def TO50 : Tb Tryz.prog Gt := TO49.add (bM (g := oth) ent197 kG)
theorem HQ (x : W6) : ad2 (xi2 (ad2 (ml2 x.2.1 (oth x).2.2) (ml2 x.2.2 (oth x).2.1))) (ml2 x.1 (oth x).1) = i3n x.1 x.2.1 x.2.2 := by
 show R2.add (xi2 (R2.add _ _)) _ = R2.add _ (xi2 (R2.add _ _))
 rw [R2.add_comm, R2.add_comm (ml2 x.2.1 (oth x).2.2)]
 rfl
theorem tZ (x : W6) (c : W2) : Pure Tryz.prog Gt 163 [EV6 (oth x), EV2 c] (EV6 (sc6 (oth x) c)) := re (oth x) c
theorem tI (x : W6) : Pure Tryz.prog Gt 178 [EV6 x] (EV6 (iv6 x)) := by
 refine aU Tryz.func178 fun w hw hGF => ?_
 refine xp ?_
 refine lb fun b1 => ?_
 refine la zv47 fun b2 => ?_
 refine aa ?_
 refine pJ9 ?_
 refine lc ent197 (kG _) ?_
 refine la zv47 fun b3 => ?_
 refine rJ9 ?_
 refine bt (E := EE [2999999]) [0, 1, 2, 3, 4, 5, 6, 7, 8, 9, 10, 11, 12, 13, 14, 15, 16, 17] [⟨18, 4, 33, (fe 0 ++ fe 0).map U64⟩] [19] a7 rfl (by kernel_rfl) (by kernel_rfl) (by kernel_rfl) (by kernel_rfl) (by kernel_rfl) (by kernel_rfl) (by decide) (by intro x hx; simp only [List.mem_cons, List.not_mem_nil, or_false] at hx; subst hx; exact a6 rfl zv33 rfl) ?_
 refine rJ9 ?_
 refine ⟨_, _, rfl, hGF, by intro x hx; simp only [List.mem_cons, List.not_mem_nil, or_false] at hx; subst hx; rfl, by intro x hx; simp only [List.mem_cons, List.not_mem_nil, or_false] at hx; subst hx; rfl, fun adr => ?_⟩
 refine rJ9 ?_
 refine bx (E := EE []) a7 (by kernel_rfl) (by kernel_rfl) (by kernel_rfl) ?_
 refine rJ9 ?_
 refine lc ent128 (Ae _) ?_
 refine lc ent163 (tZ x _) ?_
 refine rJ9 ?_
 refine rt ?_
 exact aw 2 rfl rfl rfl Tryz.isAgg47 Tryz.sizeOf47 (by simp) (fun w hw => ⟨by rw [HQ]; rfl, ah hw⟩)
def TO51 : Tb Tryz.prog Gt := TO50.add (bM (g := iv6) ent178 tI)
end Q6
end
end Go.Proofs.YtpnpiblphnpfiaaGreatDoor
