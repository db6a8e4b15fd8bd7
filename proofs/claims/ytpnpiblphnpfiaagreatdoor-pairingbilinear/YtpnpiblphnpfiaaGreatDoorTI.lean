/-
 The program's Loop, of pairs of the groups: the product of the document's values, up to elements of p^6; of no pair.
-/
import Derived.Test.YtpnpiblphnpfiaaGreatDoorTH
import Derived.Test.YtpnpiblphnpfiaaGreatDoorX5
namespace Go.Proofs.YtpnpiblphnpfiaaGreatDoor
open Go.RowKit
set_option maxRecDepth 100000
set_option maxHeartbeats 1000000
attribute [local simp] aP bc aM aH aA a9 aF aE aG PLl bY ca N1l cb cf bZ aU ba aN aZ a7 J1.bk J2.bk Q6.bX Q6.dd
theorem rTI {Q P : Prop} (k : Q) (h : Q → P := by intro k; (refine LY.run ?_); (repeat (first | refine bI rfl rfl rfl ?_ | refine bd rfl rfl rfl ?_ | ((refine pF rfl rfl ?_ rfl rfl ?_); (· simp)) | ((refine na hGF rfl rfl rfl ?_ ?_ (ak _) rfl ?_); (· simp); (· simp)))); (first | refine cm ?_ | refine LY.mk ?_); exact k) : P := h k
theorem pTI {Q P : Prop} (k : Q) (h : Q → P := by intro k; (refine xp ?_); (refine rTI ?_); exact k) : P := h k

namespace Q6
def LPv (f : Nat → J1.GP × J2.GP) (n : Nat) : W12 := bu (SK (WSf f n) 63).2
theorem Hi (W : List WK) : SK W 63 = rdK L63 (W, K12.one) := by rw [SK, List.take_of_length_le (by rw [g7]; exact Nat.le_refl _), AH]
def WGo (w : WK) : Prop := w = wkB w.1 w.2.1 ∧ E2w.on w.2.1 ∧ E2w.times (some w.2.1) ORD = none
theorem pR {f : Nat → J1.GP × J2.GP} : ∀ {n : Nat}, (∀ i, i < n → E2w.times (f i).2.P ORD = none) → ∀ w ∈ WSf f n, WGo w
 | 0, _, w, hw => by cases hw
 | n + 1, h, w, hw => by
  have ih := pR (f := f) (n := n) fun i hi => h i (by omega)
  by_cases h1 : (f n).1.P = none
  ·rw [oV h1] at hw; exact ih w hw
  ·by_cases h2 : (f n).2.P = none
   ·rw [n9 h1 h2] at hw; exact ih w hw
   ·rw [xv h1 h2, List.mem_append, List.mem_singleton] at hw
    rcases hw with hw | rfl
    ·exact ih w hw
    ·obtain ⟨q, hq⟩ := hO h2
     have e : (J2.PX (f n).2.P, J2.PY (f n).2.P) = q := by rw [hq]; rfl
     have ho := (f n).2.on
     have hr := h n (by omega)
     rw [hq] at ho hr
     refine ⟨rfl, ?_, ?_⟩
     ·show E2w.on (J2.PX (f n).2.P, J2.PY (f n).2.P); rw [e]; exact ho
     ·show E2w.times (some (J2.PX (f n).2.P, J2.PY (f n).2.P)) ORD = none; rw [e]; exact hr
theorem Gl {W : List WK} (h : ∀ w ∈ W, WGo w) : RdOk [] (W, K12.one) := ⟨fun w hw => by
  obtain ⟨e, h1, h2⟩ := h w hw
  refine ⟨⟨h1, h2, ?_⟩, rfl⟩
  show E2w.jr w.2.2 (E2w.times (some w.2.1) 1)
  rw [tm1, e]
  exact vT w.2.1, by
  show Up6 K12.one (d6 (W.map fun _ => K12.one))
  rw [kV]; exact Up6.refl _⟩
theorem SK_z {W : List WK} (h : ∀ w ∈ W, WGo w) (k : Nat) (hk : k < 63) (_ : DGb k = true) : ∀ w ∈ (SK W k).1.map wDb, ¬ w.2.2.2.2 = ze2 := fun w hw => by
 obtain ⟨v, hv, rfl⟩ := List.mem_map.1 hw
 have r := (Gl h).all k (D63.take k) (by rw [List.length_take, g7]; omega) (by omega)
 have hl := Co hk
 have h1 := ((r.w v hv).1.dbl (mV k (by omega)).1 (by omega)).1
 obtain ⟨a, ha⟩ := hO (oo h1.on h1.qr (m := 2 * bC (D63.take k) 1) (by have := (mV k (by omega)).1; omega) (by omega))
 have hj := h1.jr
 rw [ha] at hj
 exact hj.1
theorem vU {W : List WK} (h : W = []) (k : Nat) (hk : k ≤ 63) : (SK W k).1 = [] := List.length_eq_zero_iff.1 (by rw [ga W k hk, h]; rfl)
theorem uY (n : Nat) (f : Nat → J1.GP × J2.GP) (b cap : Nat) (hn : n ≤ 1000) (hf : ∀ i, i < n → E2w.times (f i).2.P ORD = none) (w : World) (hw : Gt w) (h : w.rangeAt b 0 ((RW 54 (fun i => PRv (f i)) n).map U64)) : Calls Tryz.prog 55 [.slice (some ⟨b, 0, none⟩) n cap].toArray w (fun r w' => r = .returned (bg (LPv f n)) ∧ Grow w w') := by
 have hG := pR hf
 have hl := Nat.le_trans (m9 f n) hn
 have hb := fun w' hw' hr => zA n f b cap hn w' hw' hr
 rw [LPv]
 revert h hb
 generalize (RW 54 (fun i => PRv (f i)) n).map U64 = cs
 intro h hb
 by_cases h0 : WSf f n = []
 ·refine Do (WSf f n) n b cap cs (vU h0) (fun w' hw' hr => (hb w' hw' hr).mono fun r w'' h => ?_) w hw h
  rcases h with ⟨_, _, _, _, _, _, _, _, e⟩ | ⟨_, h⟩
  ·exact absurd h0 e
  ·exact h
 ·refine CD (WSf f n) n b cap cs hl (SK_z hG) (fun w' hw' hr => (hb w' hw' hr).mono fun r w'' h => ?_) w hw h
  rcases h with ⟨bW, cW, capW, h1, h2, h3, h4, h5, _⟩ | ⟨e, _⟩
  ·refine ⟨bW, cW.drop (wcl (WSf f n)).length, capW, h1, h2, h3, ?_⟩
   have e : wcl (WSf f n) ++ cW.drop (wcl (WSf f n)).length = cW := by
    conv => lhs; arg 1; rw [← h5]
    exact List.take_append_drop _ _
   rw [e]; exact h4
  ·exact absurd e h0
def PRD (f : Nat → J1.GP × J2.GP) : Nat → W12
 | 0 => K12.one
 | i + 1 => K12.mul (PRD f i) (bu (MLv L63 (f i).1.P (f i).2.P))
theorem nU : ∀ l m : List W12, d6 (l ++ m) = K12.mul (d6 l) (d6 m)
 | [], m => (K12.one_mul _).symm
 | x :: l, m => by rw [List.cons_append, d6, nU l m, d6, K12.mul_assoc]
theorem Az (f : Nat → J1.GP × J2.GP) : ∀ n, bu (d6 ((WSf f n).map fun w => MLv L63 (some w.1) (some w.2.1))) = PRD f n
 | 0 => dM
 | n + 1 => by
  have ih := Az f n
  rw [PRD]
  by_cases h1 : (f n).1.P = none
  ·rw [oV h1, ih, h1, v4, dM, K12.mul_one]
  ·by_cases h2 : (f n).2.P = none
   ·rw [n9 h1 h2, ih, h2, xr, dM, K12.mul_one]
   ·have e1 : some (J1.PX (f n).1.P, J1.PY (f n).1.P) = (f n).1.P := (J1.zK h1).symm
    have e2 : some (J2.PX (f n).2.P, J2.PY (f n).2.P) = (f n).2.P := by
     obtain ⟨q, hq⟩ := hO h2
     rw [hq]; rfl
    rw [xv h1 h2, List.map_append, nU, fu, ih]
    show K12.mul (PRD f n) (bu (K12.mul (MLv L63 (some (J1.PX (f n).1.P, J1.PY (f n).1.P)) (some (J2.PX (f n).2.P, J2.PY (f n).2.P))) K12.one)) = _
    rw [e1, e2, K12.mul_one]
theorem DV {f : Nat → J1.GP × J2.GP} {n : Nat} (hf : ∀ i, i < n → E2w.times (f i).2.P ORD = none) : Up6 (LPv f n) (PRD f n) := by
 have k := xY (WSf f n) (pR hf)
 rw [Az] at k
 rw [LPv, Hi]
 exact k
theorem Ft : EG ≠ K12.zero := fun e => by
 have k := EG_r
 rw [e, ii (by decide +kernel)] at k
 exact kP k.symm
theorem vg (f : Nat → J1.GP × J2.GP) : (RW 54 (fun i => PRv (f i)) 1).map U64 = (PRv (f 0)).map U64 := congrArg (List.map U64) (List.ext_getElem? fun m => by
 by_cases h : m < 54
 ·rw [l9 _ 1 m (by omega), show m / 54 = 0 by omega, show m % 54 = m by omega, List.getD_eq_getElem?_getD, List.getElem?_eq_getElem (by rw [dd]; exact h)]
  rfl
 ·rw [List.getElem?_eq_none (by rw [eS]; omega), List.getElem?_eq_none (by rw [dd]; omega)])
theorem A2 : Two Tryz.prog 77 ⟨ "P", 29, 0, false, "", "", 0⟩ ⟨ "Q", 35, 18, false, "", "", 144⟩ 18 36 (List.replicate 18 (0#64)) (List.replicate 36 (0#64)) := ⟨Tryz.underlying77, rfl, rfl, Tryz.sizeOf29, Tryz.sizeOf35, fun w => (Tryz.zeroValue77 w).trans (by rfl), by simp, by simp⟩
theorem sS (w : World) (hw : Gt w) :
  Calls Tryz.prog 111 [.slice none 0 0].toArray w (fun e w' => e = .returned (.slice none 0 0) ∧ Grow w w') := by
 have hGF : BOk Gt (pl w) := gt_low.plain hw
 refine aB (G := Gt) Tryz.func111 rfl rfl (Hp (pl w) []) (aJ (pl w) trivial ai) (ap hGF) ?_
 refine pTI ?_
 refine fG ?_
 refine pTI ?_
 refine ao ?_
 refine fH ?_
 refine ao ?_
 refine pTI ?_
 refine bt rfl (fun _ => aK Tryz.underlying75 _ _ _ _) rfl rfl ?_
 refine rTI ?_
 refine aj ?_
 refine cy (ι := { j : Nat // j ≤ 0 }) (fun x => [(11, .slice none 0 0), (12, I ((0 : Nat) : Int)), (13, I (x.1 : Int)), (3, .slice none 0 0)]) (fun x => []) (fun x => 0 - x.1) ⟨0, Nat.le_refl _⟩ hGF ⟨rfl, rfl, rfl, rfl, trivial⟩ trivial ?_
 rintro ⟨i, hi⟩
 obtain rfl : i = 0 := by omega
 dsimp only
 refine xp ?_
 refine bK false rfl rfl (fun _ => rfl) (fun _ => aQ _ _ _) (rfl) rfl rfl ?_
 refine aa ?_
 refine ao ?_
 refine bl rfl ?_
 refine aW ?_
 refine pTI ?_
 refine ez ?_
 repeat (first | refine aY ?_ | refine aX ?_ | refine dH ?_)
 exact a5 rfl rfl (fun w' hw' => ⟨rfl, ah hw'⟩)
theorem Bz (W : List WK) (hW0 : ∀ k, k ≤ 63 → (SK W k).1 = []) (hB : ∀ w', Gt w' → Calls Tryz.prog 111 [.slice none 0 0].toArray w' (fun r w'' => r = .returned (.slice none 0 0) ∧ Grow w' w'')) (w : World) (hw : Gt w) :
  Calls Tryz.prog 55 [.slice none 0 0].toArray w (fun r w' => r = .returned (bg (bu (SK W 63).2)) ∧ Grow w w') := by
 have hGF : BOk Gt (pl w) := gt_low.plain hw
 refine bD (G := Gt) Tryz.func55 rfl rfl (Hp (pl w) []) (aJ (pl w) trivial ai) (ap hGF) ?_
 refine ab (E := EE [111, 113, 115]) ?_
 refine la zv49 fun b2 => ?_
 refine aa ?_
 refine fG ?_
 refine ab (E := EE [111, 113, 115]) ?_
 refine rTI ?_
 refine ck rfl rfl ent111 rfl rfl (fun w' hw' => (hB w' (hGF.g _ _ _ hw')).mono fun e' w'' h' => ?_)
 obtain ⟨rfl, hg⟩ := h'
 refine ⟨_, _, rfl, ap hGF, hw'.grow ai hg, ?_⟩
 clear hw' hg
 refine dU 3 hGF Tryz.zeroValue135 rfl rfl ?_
 intro b3
 refine cx 3 hGF rfl rfl rfl Tryz.sizeOf135 rfl (by first | decide | simp) rfl ?_
 refine aa ?_
 refine ab (E := EE [111, 113, 115]) ?_
 refine lc ent22 (gR) ?_
 refine la zv49 fun b4 => ?_
 refine rTI ?_
 refine ao ?_
 refine fH ?_
 refine ao ?_
 refine ab (E := EE [111, 113, 115]) ?_
 refine lc ent112 (qo) ?_
 refine aa ?_
 refine aj ?_
 refine cZ (fun _ => pl w) (fun _ _ => pl w) (fun _ => hGF) (fun _ _ => hGF) (fun _ => rfl) (fun _ _ => rfl) rfl rfl ent158 ir (fun x hx => by obtain ⟨k, hk, rfl⟩ := List.mem_map.1 hx; rfl) rfl (fun k => [(2, b2, (((fe 0 ++ fe 0) ++ ((fe 0 ++ fe 0) ++ (fe 0 ++ fe 0))) ++ ((fe 0 ++ fe 0) ++ ((fe 0 ++ fe 0) ++ (fe 0 ++ fe 0)))).map U64, 49), (3, b3, [.slice none 0 0], 135), (4, b4, gL ((SK W k).2), 49)]) (fun _ _ _ => False) ⟨rfl, rfl, rfl, trivial⟩ (fun _ _ _ _ => trivial) ?_ ?_ (fun _ _ _ _ _ h => h.elim)
 ·intro k v hx R hR
  obtain ⟨hk, rfl⟩ := mW hx
  refine aq (E := EE [111, 113, 115]) ?_
  refine rTI ?_
  refine ⟨rfl, _, rfl, ?_⟩
  refine aj ?_
  refine ab (E := EE [111, 113, 115]) ?_
  refine rTI ?_
  refine lc ent82 (fo _) ?_
  refine am 4 (hR (pl w) rfl hGF).2.1 rfl rfl rfl Tryz.sizeOf49 (by simp) (by simp) (ak _) rfl ?_
  refine aa ?_
  refine ao ?_
  refine ab (E := EE [111, 113, 115]) ?_
  refine bR 3 rfl rfl rfl Tryz.isAgg135 rfl rfl ?_
  refine bt rfl (fun _ => aK Tryz.underlying135 _ _ _ _) rfl rfl ?_
  refine rTI ?_
  refine aj ?_
  obtain ⟨F0, hF0⟩ : ∃ F0, F0 = K12.mul (SK W k).2 (SK W k).2 := ⟨_, rfl⟩
  refine cy (ι := { j : Nat // j ≤ 0 }) (fun y => [(2, .pointer (some ⟨b2, 0, none⟩)), (3, .pointer (some ⟨b3, 0, none⟩)), (4, .pointer (some ⟨b4, 0, none⟩)), (5, .bool (DGb k)), (16, I ((0 : Nat) : Int)), (17, I (y.1 : Int))]) (fun y => [(2, b2, (((fe 0 ++ fe 0) ++ ((fe 0 ++ fe 0) ++ (fe 0 ++ fe 0))) ++ ((fe 0 ++ fe 0) ++ ((fe 0 ++ fe 0) ++ (fe 0 ++ fe 0)))).map U64, 49), (3, b3, [.slice none 0 0], 135), (4, b4, gL (cX rDb ((SK W k).1.take y.1) F0), 49)]) (fun y => 0 - y.1) ⟨0, Nat.zero_le _⟩ (hR (pl w) rfl hGF).2.1 ⟨rfl, rfl, rfl, rfl, rfl, rfl, trivial⟩ ⟨rfl, rfl, by rw [hF0]; rfl, trivial⟩ ?_
  rintro ⟨j, hj⟩
  dsimp only
  obtain rfl : j = 0 := by omega
  refine ab (E := EE [111, 113, 115]) ?_
  refine bK false rfl rfl (fun _ => rfl) (fun _ => aQ _ _ _) (rfl) rfl rfl ?_
  refine aa ?_
  refine ao ?_
  refine bl rfl ?_
  refine aW ?_
  rw [show (SK W k).1.take 0 = (SK W k).1 from by rw [hW0 k (by omega)]; rfl, hF0]
  clear hF0
  refine ao ?_
  refine ab (E := EE [111, 113, 115]) ?_
  refine rTI ?_
  refine bx rfl (fun _ => bf _) rfl rfl ?_
  refine aa ?_
  refine bM rfl (fun hc => ?_) (fun hc => ?_)
  ·have hd : DGb k = false := by simpa using hc
   refine aW ?_
   repeat (first | refine aO ?_ | refine bJ ?_)
   exact ⟨_, rfl, ⟨rfl, rfl, by first | (rw [m6 W hk hd]; rfl) | (rw [mw W hk hd]; rfl), trivial⟩⟩
  ·have hd : DGb k = true := by simpa using hc
   refine az ?_
   refine ab (E := EE [111, 113, 115]) ?_
   refine bR 3 rfl rfl rfl Tryz.isAgg135 rfl rfl ?_
   refine bt rfl (fun _ => aK Tryz.underlying135 _ _ _ _) rfl rfl ?_
   refine rTI ?_
   refine aj ?_
   obtain ⟨F0, hF0⟩ : ∃ F0, F0 = cX rDb (SK W k).1 (K12.mul (SK W k).2 (SK W k).2) := ⟨_, rfl⟩
   refine cy (ι := { j : Nat // j ≤ 0 }) (fun y => [(2, .pointer (some ⟨b2, 0, none⟩)), (3, .pointer (some ⟨b3, 0, none⟩)), (4, .pointer (some ⟨b4, 0, none⟩)), (5, .bool (DGb k)), (30, I ((0 : Nat) : Int)), (31, I (y.1 : Int))]) (fun y => [(2, b2, (((fe 0 ++ fe 0) ++ ((fe 0 ++ fe 0) ++ (fe 0 ++ fe 0))) ++ ((fe 0 ++ fe 0) ++ ((fe 0 ++ fe 0) ++ (fe 0 ++ fe 0)))).map U64, 49), (3, b3, [.slice none 0 0], 135), (4, b4, gL (cX rJn (((SK W k).1.map wDb).take y.1) F0), 49)]) (fun y => 0 - y.1) ⟨0, Nat.zero_le _⟩ (hR (pl w) rfl hGF).2.1 ⟨rfl, rfl, rfl, rfl, rfl, rfl, trivial⟩ ⟨rfl, rfl, by rw [hF0]; rfl, trivial⟩ ?_
   rintro ⟨j, hj⟩
   dsimp only
   obtain rfl : j = 0 := by omega
   refine ab (E := EE [111, 113, 115]) ?_
   refine bK false rfl rfl (fun _ => rfl) (fun _ => aQ _ _ _) (rfl) rfl rfl ?_
   refine aa ?_
   refine ao ?_
   refine bl rfl ?_
   refine aW ?_
   rw [show ((SK W k).1.map wDb).take 0 = ((SK W k).1.map wDb) from by rw [hW0 k (by omega)]; rfl, hF0]
   clear hF0
   repeat (first | refine aO ?_ | refine bJ ?_)
   exact ⟨_, rfl, ⟨rfl, rfl, by first | (rw [m6 W hk hd]; rfl) | (rw [mw W hk hd]; rfl), trivial⟩⟩
 ·intro D hD
  rw [gH]
  refine ab (E := EE [111, 113, 115]) ?_
  refine rTI ?_
  refine lc ent41 (jA _) ?_
  refine am 2 hD rfl rfl rfl Tryz.sizeOf49 (by simp) (by simp) (ak _) rfl ?_
  refine aa ?_
  refine ez ?_
  repeat (first | refine aY ?_ | refine aX ?_ | refine dH ?_)
  exact cn (.inl rfl) ai (av 2 rfl rfl rfl Tryz.isAgg49 Tryz.sizeOf49 (by simp) (fun w hw => ⟨rfl, ah hw⟩))
theorem uo (w : World) (hw : Gt w) : Calls Tryz.prog 55 [.slice none 0 0].toArray w (fun r w' => r = .returned (bg (LPv (fun _ => (J1.gInf, J2.gInf)) 0)) ∧ Grow w w') := Bz [] (vU rfl) sS w hw
end Q6
end Go.Proofs.YtpnpiblphnpfiaaGreatDoor
