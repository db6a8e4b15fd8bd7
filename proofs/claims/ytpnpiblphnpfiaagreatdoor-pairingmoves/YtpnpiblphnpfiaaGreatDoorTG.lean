/-
 The program's ways, of pairs: where the loop begins.
-/
import Derived.Test.YtpnpiblphnpfiaaGreatDoorTE
import Derived.Test.YtpnpiblphnpfiaaGreatDoorX3
import Derived.Test.YtpnpiblphnpfiaaGreatDoorX5
namespace Go.Proofs.YtpnpiblphnpfiaaGreatDoor
open Go.RowKit
set_option maxRecDepth 100000
set_option maxHeartbeats 1000000
attribute [local simp] aN aZ aI aF aw aX aC aB aD PLl bX bZ N1l ca bU cb aP a5 aJ aU aV J1.aY J2.aY Q6.bM
theorem rTG {Q P : Prop} (k : Q) (h : Q → P := by intro k; (refine LY.run ?_); (repeat (first | refine bK rfl rfl rfl ?_ | refine bg rfl rfl rfl ?_ | ((refine uz rfl rfl ?_ rfl rfl ?_); (· simp)) | ((refine oG rfl rfl ?_ rfl rfl ?_); (· simp)) | ((refine pV hGF rfl rfl rfl ?_ ?_ (ak _) rfl ?_); (· simp); (· simp)) | ((refine xG hGF rfl rfl rfl ?_ ?_ (ak _) rfl ?_); (· simp); (· simp)) | ((refine sa77 hGF rfl rfl rfl ?_ ?_ (ak _) rfl ?_); (· simp); (· simp)) | refine gc rfl rfl rfl rfl ?_)); (first | refine ci ?_ | refine LY.mk ?_); exact k) : P := h k
theorem pTG {Q P : Prop} (k : Q) (h : Q → P := by intro k; (refine xp ?_); (refine rTG ?_); exact k) : P := h k

namespace Q6
def PRv (a : J1.GP × J2.GP) : List (BitVec 64) := J1.GL a.1 ++ J2.GL a.2
theorem bV (a : J1.GP × J2.GP) : (PRv a).length = 54 := by simp [PRv]
attribute [local simp] bV
theorem zv77 (w : World) : (zeroValue 77).run Tryz.prog w = .ok (.agg ((List.replicate 54 (0#64)).map U64).toArray) w := (Tryz.zeroValue77 w).trans (by rfl)
def WSf (f : Nat → J1.GP × J2.GP) : Nat → List WK
 | 0 => []
 | i + 1 => if (f i).1.P = none then WSf f i else if (f i).2.P = none then WSf f i else WSf f i ++ [wkB (J1.PX (f i).1.P, J1.PY (f i).1.P) (J2.PX (f i).2.P, J2.PY (f i).2.P)]
theorem nW {f : Nat → J1.GP × J2.GP} {i : Nat} (h : (f i).1.P = none) : WSf f (i + 1) = WSf f i := if_pos h
theorem nO {f : Nat → J1.GP × J2.GP} {i : Nat} (h : ¬ (f i).1.P = none) (k : (f i).2.P = none) : WSf f (i + 1) = WSf f i := (if_neg h).trans (if_pos k)
theorem tM {f : Nat → J1.GP × J2.GP} {i : Nat} (h : ¬ (f i).1.P = none) (k : ¬ (f i).2.P = none) : WSf f (i + 1) = WSf f i ++ [wkB (J1.PX (f i).1.P, J1.PY (f i).1.P) (J2.PX (f i).2.P, J2.PY (f i).2.P)] := (if_neg h).trans (if_neg k)
theorem mW (f : Nat → J1.GP × J2.GP) : ∀ i, (WSf f i).length ≤ i
 | 0 => Nat.le_refl _
 | i + 1 => by
  have h := mW f i
  rw [WSf]
  split
  ·omega
  ·split
   ·omega
   ·rw [List.length_append]; simp; omega
def wcl (l : List WK) : List Value := clv (l.flatMap fT)
theorem kv (w : WK) : (fT w).length = 12 := rfl
theorem jp (l m : List WK) : wcl (l ++ m) = wcl l ++ wcl m := by rw [wcl, List.flatMap_append, eM]; rfl
theorem kO (w : WK) (l : List WK) : wcl (w :: l) = clv (fT w) ++ wcl l := by rw [wcl, List.flatMap_cons, eM]; rfl
theorem rn (w : WK) : wcl [w] = clv (fT w) := by rw [kO]; exact List.append_nil _
theorem l6 : ∀ l : List WK, (wcl l).length = 72 * l.length
 | [] => rfl
 | w :: l => by rw [kO, List.length_append, l6 l, bI, kv, List.length_cons]; omega
theorem OwnW.of {L L' : Hl} {n : Nat} {e : TypeId} {s : Nat} {a0 : Option Addr} {cap nx : Nat} {xs : List Value} (h : OwnW L n e s a0 cap nx xs) (he : lkB L' n = lkB L n) : OwnW L' n e s a0 cap nx xs := by
 rcases h with h | ⟨b, c, h1, h2, h3⟩
 ·exact .inl h
 ·exact .inr ⟨b, c, h1, he.trans h2, h3⟩
theorem Ds (a b : Zp) (c d e f g : W2) (w : World) : (Instr.build 141 (([0, 1, 2, 3, 4, 5, 6]).zip [EV a, EV b, EV2 c, EV2 d, EV2 e, EV2 f, EV2 g]).toArray).run Tryz.prog w = .ok (.agg (clv [a, b, c.1, c.2, d.1, d.2, e.1, e.2, f.1, f.2, g.1, g.2]).toArray) w := by
 obtain ⟨fields, hf, hm, _⟩ := TB.hfs 141 [(0, 1), (1, 1), (2, 2), (4, 2), (6, 2), (8, 2), (10, 2)] (by kernel_rfl)
 exact fH (TB.hsz 141 12 (by kernel_rfl)).2.2 hf hm _ (jH (ps := [(0, [a]), (1, [b]), (2, [c.1, c.2]), (3, [d.1, d.2]), (4, [e.1, e.2]), (5, [f.1, f.2]), (6, [g.1, g.2])]) (c := List.replicate 12 0) (by rfl)) w
theorem tiW : TI Tryz.prog 141 (.agg (clv (List.replicate 12 0)).toArray) 72 576 := E3 (by rw [clv, kC]; kernel_rfl)
theorem xl {own L : Hl} (ho : own = [] ∨ ∃ x, own = [(50, x)]) (h : lkB L 50 = lkB own 50) : gP L own := by
 rcases ho with rfl | ⟨x, rfl⟩
 ·exact trivial
 ·exact ⟨h, trivial⟩
structure BgV (f : Nat → J1.GP × J2.GP) (n : Nat) where
 (k : Nat) (a0 : Option Addr) (cap : Nat) (own : Hl)
 hk : k ≤ n
 hs : OwnW own 50 141 72 a0 cap (WSf f k).length (wcl (WSf f k))
 ho : own = [] ∨ ∃ x, own = [(50, x)]
 hz : WSf f k = [] → a0 = none
theorem yD {w : World} (h : Gt w) : 5 ≤ w.heap.size := block_lt_of_cell (h.g4 0 _ (by rfl))
theorem zo (n : Nat) (f : Nat → J1.GP × J2.GP) (b cap : Nat) (hn : n ≤ 1000) (w : World) (hw : Gt w) (h : w.rangeAt b 0 ((RW 54 (fun i => PRv (f i)) n).map U64)) :
  Calls Tryz.prog 111 [.slice (some ⟨b, 0, none⟩) n cap].toArray w (fun e w' => (∃ bW cW capW, e = .returned (.slice (some ⟨bW, 0, none⟩) (WSf f n).length capW) ∧ Grow w w' ∧ w.heap.size ≤ bW ∧ OwnB w' bW cW 141 ∧ cW.take (wcl (WSf f n)).length = wcl (WSf f n) ∧ WSf f n ≠ []) ∨ (WSf f n = [] ∧ e = .returned (.slice none 0 0) ∧ Grow w w')) := by
 have hGF : BOk Gt (pl w) := gt_low.plain hw
 have fin : ∀ {L : Hl} {a0 : Option Addr} {cap : Nat} {w' : World}, OwnW L 50 141 72 a0 cap (WSf f n).length (wcl (WSf f n)) → (WSf f n = [] → a0 = none) → Hp (pl w) L w' → (∃ bW cW capW, Ending.returned (.slice a0 (WSf f n).length cap) = .returned (.slice (some ⟨bW, 0, none⟩) (WSf f n).length capW) ∧ Grow w w' ∧ w.heap.size ≤ bW ∧ OwnB w' bW cW 141 ∧ cW.take (wcl (WSf f n)).length = wcl (WSf f n) ∧ WSf f n ≠ []) ∨ (WSf f n = [] ∧ Ending.returned (.slice a0 (WSf f n).length cap) = .returned (.slice none 0 0) ∧ Grow w w') := fun {L a0 cap w'} h hz hp => by
  rcases h with ⟨rfl, _, h3, rfl⟩ | ⟨b, c, rfl, hl, hc, hle, hx, ht⟩
  ·exact .inr ⟨List.length_eq_zero_iff.1 h3, by rw [h3], ah hp⟩
  ·exact .inl ⟨b, c, cap, rfl, ah hp, (hp.own _ _ _ _ hl).2.elim id False.elim, (hp.own _ _ _ _ hl).1, ht, fun e => by cases hz e⟩
 refine aE (G := Gt) Tryz.func111 rfl rfl (Hp (pl w) []) (aO (pl w) trivial ai) (ap hGF) ?_
 refine pTG ?_
 refine fF ?_
 refine pTG ?_
 refine am ?_
 refine fO ?_
 refine am ?_
 refine pTG ?_
 refine bv rfl (fun _ => aK Tryz.underlying75 _ _ _ _) rfl rfl ?_
 refine rTG ?_
 refine aj ?_
 refine cv (ι := BgV f n) (fun x => [(11, .slice (some ⟨b, 0, none⟩) n cap), (12, I (n : Int)), (13, I (x.k : Int)), (3, .slice x.a0 (WSf f x.k).length x.cap)]) (fun x => x.own) (fun x => n - x.k) ⟨0, none, 0, [], by omega, ww _ _ _ _, .inl rfl, fun _ => rfl⟩ hGF ⟨rfl, rfl, rfl, rfl, trivial⟩ trivial ?_
 rintro ⟨i, a0, cap0, own, hi, hs, ho, hz⟩
 dsimp only at hs ho hz ⊢
 have hwl := mW f i
 by_cases hP : (f i).1.P = none
 ·skip
  refine xp ?_
  refine ac rfl rfl (fun _ => rfl) (fun _ => aT _ _ _) rfl rfl ?_
  refine aa ?_
  refine am ?_
  refine bO rfl (fun hc => ?_) (fun hc => ?_)
  ·have hi2 : i < n := by simp at hc; omega
   refine aA ?_
   refine am ?_
   refine aj ?_
   refine xp ?_
   refine k6 (s := 54) i rfl rfl Tryz.underlying75 Tryz.sizeOf77 (by omega) (by omega) rfl rfl ?_
   refine dM (cs := (PRv (f i)).map U64) rfl Tryz.isAgg77 Tryz.sizeOf77 (by simp) (fun w' h' => iH (dK h (fun h => h) w' h') (by omega) (bV _)) rfl rfl ?_
   refine la zv77 fun b5 => ?_
   refine rTG ?_
   refine xp ?_
   refine bR 0 rfl Tryz.underlying77 rfl Tryz.sizeOf29 (by decide) rfl rfl rfl ?_
   refine a7 5 ((J1.GL (f i).1).map U64) rfl rfl Tryz.isAgg29 Tryz.sizeOf29 (by simp) mu rfl rfl ?_
   refine lc ent57 (J1.DH _ hP) ?_
   refine rTG ?_
   refine la zv27 fun b6 => ?_
   refine la zv27 fun b7 => ?_
   refine rTG ?_
   refine am ?_
   refine pTG ?_
   refine bC rfl (fun _ => bi _) rfl rfl ?_
   refine aa ?_
   refine cg rfl ?_
   refine a8 ?_
   refine au (E := EE []) ?_
   refine ac rfl rfl (fun _ => rfl) (fun _ => aL _ _ _ (by unfold inI; omega)) rfl rfl ?_
   refine rTG ?_
   repeat (first | refine aQ ?_ | refine bL ?_)
   refine bl ?_
   exact ⟨rfl, ⟨i + 1, a0, cap0, own, by omega, by rw [nW hP]; exact hs, ho, by rw [nW hP]; exact hz⟩, _, by show n - (i + 1) < n - i; omega, rfl, ⟨rfl, rfl, rfl, by dsimp only; rw [nW hP]; rfl, trivial⟩, xl ho rfl⟩
  ·obtain rfl : i = n := by simp at hc; omega
   refine a8 ?_
   refine pTG ?_
   refine eh ?_
   repeat (first | refine a9 ?_ | refine ba ?_ | refine dB ?_)
   exact a6 rfl rfl (fun w' hw' => fin hs hz hw')
 ·by_cases hQ : (f i).2.P = none
  ·skip
   refine xp ?_
   refine ac rfl rfl (fun _ => rfl) (fun _ => aT _ _ _) rfl rfl ?_
   refine aa ?_
   refine am ?_
   refine bO rfl (fun hc => ?_) (fun hc => ?_)
   ·have hi2 : i < n := by simp at hc; omega
    refine aA ?_
    refine am ?_
    refine aj ?_
    refine xp ?_
    refine k6 (s := 54) i rfl rfl Tryz.underlying75 Tryz.sizeOf77 (by omega) (by omega) rfl rfl ?_
    refine dM (cs := (PRv (f i)).map U64) rfl Tryz.isAgg77 Tryz.sizeOf77 (by simp) (fun w' h' => iH (dK h (fun h => h) w' h') (by omega) (bV _)) rfl rfl ?_
    refine la zv77 fun b5 => ?_
    refine rTG ?_
    refine xp ?_
    refine bR 0 rfl Tryz.underlying77 rfl Tryz.sizeOf29 (by decide) rfl rfl rfl ?_
    refine a7 5 ((J1.GL (f i).1).map U64) rfl rfl Tryz.isAgg29 Tryz.sizeOf29 (by simp) mu rfl rfl ?_
    refine lc ent57 (J1.ym _ hP) ?_
    refine rTG ?_
    refine la zv27 fun b6 => ?_
    refine la zv27 fun b7 => ?_
    refine rTG ?_
    refine am ?_
    refine pTG ?_
    refine bC rfl (fun _ => bi _) rfl rfl ?_
    refine aa ?_
    refine bf rfl ?_
    refine aA ?_
    refine xp ?_
    refine bR 18 rfl Tryz.underlying77 rfl Tryz.sizeOf35 (by decide) rfl rfl rfl ?_
    refine a7 5 ((J2.GL (f i).2).map U64) rfl rfl Tryz.isAgg35 Tryz.sizeOf35 (by simp) (oZ (by simp)) rfl rfl ?_
    refine lc ent60 (J2.DH _ hQ) ?_
    refine rTG ?_
    refine la zv33 fun b9 => ?_
    refine la zv33 fun b10 => ?_
    refine rTG ?_
    refine am ?_
    refine pTG ?_
    refine bC rfl (fun _ => bi _) rfl rfl ?_
    refine aa ?_
    refine cg rfl ?_
    refine a8 ?_
    refine au (E := EE []) ?_
    refine ac rfl rfl (fun _ => rfl) (fun _ => aL _ _ _ (by unfold inI; omega)) rfl rfl ?_
    refine rTG ?_
    repeat (first | refine aQ ?_ | refine bL ?_)
    refine bl ?_
    exact ⟨rfl, ⟨i + 1, a0, cap0, own, by omega, by rw [nO hP hQ]; exact hs, ho, by rw [nO hP hQ]; exact hz⟩, _, by show n - (i + 1) < n - i; omega, rfl, ⟨rfl, rfl, rfl, by dsimp only; rw [nO hP hQ]; rfl, trivial⟩, xl ho rfl⟩
   ·obtain rfl : i = n := by simp at hc; omega
    refine a8 ?_
    refine pTG ?_
    refine eh ?_
    repeat (first | refine a9 ?_ | refine ba ?_ | refine dB ?_)
    exact a6 rfl rfl (fun w' hw' => fin hs hz hw')
  ·skip
   refine xp ?_
   refine ac rfl rfl (fun _ => rfl) (fun _ => aT _ _ _) rfl rfl ?_
   refine aa ?_
   refine am ?_
   refine bO rfl (fun hc => ?_) (fun hc => ?_)
   ·have hi2 : i < n := by simp at hc; omega
    refine aA ?_
    refine am ?_
    refine aj ?_
    refine xp ?_
    refine k6 (s := 54) i rfl rfl Tryz.underlying75 Tryz.sizeOf77 (by omega) (by omega) rfl rfl ?_
    refine dM (cs := (PRv (f i)).map U64) rfl Tryz.isAgg77 Tryz.sizeOf77 (by simp) (fun w' h' => iH (dK h (fun h => h) w' h') (by omega) (bV _)) rfl rfl ?_
    refine la zv77 fun b5 => ?_
    refine rTG ?_
    refine xp ?_
    refine bR 0 rfl Tryz.underlying77 rfl Tryz.sizeOf29 (by decide) rfl rfl rfl ?_
    refine a7 5 ((J1.GL (f i).1).map U64) rfl rfl Tryz.isAgg29 Tryz.sizeOf29 (by simp) mu rfl rfl ?_
    refine lc ent57 (J1.ym _ hP) ?_
    refine rTG ?_
    refine la zv27 fun b6 => ?_
    refine la zv27 fun b7 => ?_
    refine rTG ?_
    refine am ?_
    refine pTG ?_
    refine bC rfl (fun _ => bi _) rfl rfl ?_
    refine aa ?_
    refine bf rfl ?_
    refine aA ?_
    refine xp ?_
    refine bR 18 rfl Tryz.underlying77 rfl Tryz.sizeOf35 (by decide) rfl rfl rfl ?_
    refine a7 5 ((J2.GL (f i).2).map U64) rfl rfl Tryz.isAgg35 Tryz.sizeOf35 (by simp) (oZ (by simp)) rfl rfl ?_
    refine lc ent60 (J2.ym _ hQ) ?_
    refine rTG ?_
    refine la zv33 fun b9 => ?_
    refine la zv33 fun b10 => ?_
    refine rTG ?_
    refine am ?_
    refine pTG ?_
    refine bC rfl (fun _ => bi _) rfl rfl ?_
    refine aa ?_
    refine bf rfl ?_
    refine aA ?_
    refine dC (E := EE []) bq (by kernel_rfl) (by kernel_rfl) (by kernel_rfl) ?_
    refine rTG ?_
    refine lc ent107 (tF) ?_
    refine dr (ps := [(0, .tmp 36), (1, .tmp 37), (2, .tmp 38), (3, .tmp 39), (4, .tmp 40), (5, .tmp 41), (6, .tmp 42)]) (vs := [EV (J1.PX (f i).1.P), EV (J1.PY (f i).1.P), EV2 (J2.PX (f i).2.P), EV2 (J2.PY (f i).2.P), EV2 (J2.PX (f i).2.P), EV2 (J2.PY (f i).2.P), EV2 on2]) rfl (v := .agg (clv (fT (wkB (J1.PX (f i).1.P, J1.PY (f i).1.P) (J2.PX (f i).2.P, J2.PY (f i).2.P)))).toArray) (fun w => Ds _ _ _ _ _ _ _ w) rfl rfl ?_
    refine kL 44 (clv (fT (wkB (J1.PX (f i).1.P, J1.PY (f i).1.P) (J2.PX (f i).2.P, J2.PY (f i).2.P)))) hGF rfl (by rw [bI, kv]) (by decide) (by decide) Tryz.underlying135 Tryz.sizeOf141 (TB.hsz 141 12 (by kernel_rfl)).2.2 rfl rfl ?_
    intro b44
    refine pI (s := 72) (nx := (WSf f i).length) (ny := 1) (xs := wcl (WSf f i)) (ys := clv (fT (wkB (J1.PX (f i).1.P, J1.PY (f i).1.P) (J2.PX (f i).2.P, J2.PY (f i).2.P)))) 50 hGF rfl rfl Tryz.underlying135 Tryz.underlying135 tiW rfl (OwnW.of hs rfl) (by rw [bI, kv]) (fun w' h => cC (n := 44) rfl w' h) (rj _) (by decide) (by omega) (by omega) rfl rfl (fun bA cA capA eA lA tA => ?_)
    refine rTG ?_
    refine au (E := EE []) ?_
    refine ac rfl rfl (fun _ => rfl) (fun _ => aL _ _ _ (by unfold inI; omega)) rfl rfl ?_
    refine rTG ?_
    repeat (first | refine aQ ?_ | refine bL ?_)
    refine bl ?_
    have eW := tM hP hQ
    have eL : (WSf f (i + 1)).length = (WSf f i).length + 1 := by rw [eW, List.length_append]; rfl
    have eC : wcl (WSf f (i + 1)) = wcl (WSf f i) ++ clv (fT (wkB (J1.PX (f i).1.P, J1.PY (f i).1.P) (J2.PX (f i).2.P, J2.PY (f i).2.P))) := by rw [eW, jp, rn]
    exact ⟨rfl, ⟨i + 1, some ⟨bA, 0, none⟩, capA, [(50, bA, cA, 141)], by omega, .inr ⟨bA, cA, rfl, rfl, eA, by omega, by rw [l6, Nat.mul_comm], by rw [eC]; exact tA⟩, .inr ⟨_, rfl⟩, fun e => by rw [e] at eL; cases eL⟩, _, by show n - (i + 1) < n - i; omega, rfl, ⟨rfl, rfl, rfl, by dsimp only; rw [eL]; rfl, trivial⟩, ⟨rfl, trivial⟩⟩
   ·obtain rfl : i = n := by simp at hc; omega
    refine a8 ?_
    refine pTG ?_
    refine eh ?_
    repeat (first | refine a9 ?_ | refine ba ?_ | refine dB ?_)
    exact a6 rfl rfl (fun w' hw' => fin hs hz hw')
end Q6
end Go.Proofs.YtpnpiblphnpfiaaGreatDoor
