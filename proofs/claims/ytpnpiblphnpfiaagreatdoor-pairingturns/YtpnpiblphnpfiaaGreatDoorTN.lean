/-
 The law PairingTurns.
-/
import Derived.Test.YtpnpiblphnpfiaaGreatDoorTM
import Derived.Test.YtpnpiblphnpfiaaGreatDoorX5
namespace Go.Proofs.YtpnpiblphnpfiaaGreatDoor
open Go.RowKit
set_option maxRecDepth 100000
set_option maxHeartbeats 1000000
attribute [local simp] a6 bq aH aB aP aZ aO aM aT PLl cB cC N1l cH cG cz bk br a5 bn bd J1.bC J2.bC Q6.cK Q6.da
theorem rTN {Q P : Prop} (k : Q) (h : Q → P := by intro k; (refine LY.run ?_); (repeat (first | refine bH rfl rfl rfl ?_ | refine bc rfl rfl rfl ?_ | ((refine we rfl rfl ?_ rfl rfl ?_); (· simp)) | ((refine vJ rfl rfl ?_ rfl rfl ?_); (· simp)) | ((refine ub rfl rfl ?_ rfl rfl ?_); (· simp)) | ((refine Aa hGF rfl rfl rfl ?_ ?_ (ak _) rfl ?_); (· simp); (· simp)) | ((refine pP hGF rfl rfl rfl ?_ ?_ (ak _) rfl ?_); (· simp); (· simp)) | ((refine A1 hGF rfl rfl rfl ?_ ?_ (ak _) rfl ?_); (· simp); (· simp)) | refine bw (f := 43) rfl rfl ent43 (J2.yO q) rfl rfl ?_ | refine bw (f := 42) rfl rfl ent42 (J1.yO p) rfl rfl ?_ | refine bw (f := 10) rfl rfl ent10 zx rfl rfl ?_ | refine bw (f := 41) rfl rfl ent41 (iR E) rfl rfl ?_ | refine go rfl rfl rfl rfl rfl ?_)); (first | refine bY ?_ | refine LY.mk ?_); exact k) : P := h k
theorem pTN {Q P : Prop} (k : Q) (h : Q → P := by intro k; (refine xp ?_); (refine rTN ?_); exact k) : P := h k

namespace Q6
theorem FU {a b c : W12} (h : K12.mul a b = K12.one) (k : K12.mul c a = K12.one) : b = c := by
 rw [← K12.one_mul b, ← k, K12.mul_assoc, h, K12.mul_one]
theorem sf {P : Pt Zp} {Q : Pt W2} {b : W12} (h : K12.mul (PR L63 FE P Q) b = K12.one) : b = bz (PR L63 FE P Q) := FU h (zu (yc qE h))
theorem Hc {P : Pt Zp} (hP : E1.onP P) {Q : Pt W2} (hQ : E2w.onP Q) (hq : E2w.times Q ORD = none) : K12.mul (PR L63 FE P Q) (PR L63 FE (E1.ne P) Q) = K12.one := by
 rw [PR_1 Gf Gm qE tk hP (E1.ne_on hP) hQ hq, E1.ad_ne, Bw]
theorem vu {Q : Pt W2} (hQ : E2w.onP Q) (hq : E2w.times Q ORD = none) : E2w.times (E2w.ne Q) ORD = none := by
 rw [E2w.times_ne hQ, hq]; rfl
theorem BI {P : Pt Zp} (hP : E1.onP P) {Q : Pt W2} (hQ : E2w.onP Q) (hq : E2w.times Q ORD = none) : K12.mul (PR L63 FE P Q) (PR L63 FE P (E2w.ne Q)) = K12.one := by
 rw [PR_2 Gf Gm qE tk hP hQ (E2w.ne_on hQ) hq (vu hQ hq), E2w.ad_ne, H8]
def f2p (a b : J1.GP × J2.GP) : Nat → J1.GP × J2.GP
 | 0 => a
 | _ => b
theorem Jy (a b : J1.GP × J2.GP) : PRN (f2p a b) 2 = K12.mul (PR L63 FE a.1.P a.2.P) (PR L63 FE b.1.P b.2.P) := by
 rw [PRN, PRN, PRN, K12.one_mul, show f2p a b 0 = a from rfl, show f2p a b 1 = b from rfl]
theorem zC {a b : J1.GP × J2.GP} (ha : E2w.times a.2.P ORD = none) (hb : E2w.times b.2.P ORD = none) : ∀ i, E2w.times (f2p a b i).2.P ORD = none
 | 0 => ha
 | _ + 1 => hb
theorem rU (a b : J1.GP × J2.GP) (ha : E2w.times a.2.P ORD = none) (hb : E2w.times b.2.P ORD = none) (h : K12.mul (PR L63 FE a.1.P a.2.P) (PR L63 FE b.1.P b.2.P) = K12.one) (d : Nat) (w : World) (hw : Gt w) (hr : w.rangeAt d 0 ((RW 54 (fun i => PRv (f2p a b i)) 2).map U64)) : Calls Tryz.prog 38 [.slice (some ⟨d, 0, none⟩) 2 2].toArray w (fun r w' => r = .returned (.bool true) ∧ Grow w w') := by
 have k := xH 2 (f2p a b) d 2 (by decide) (fun i _ => zC ha hb i) w hw hr
 rw [Jy, h, decide_eq_true rfl] at k
 exact k
theorem yA (e0 : Option Addr) (cap0 : Nat) (bs0 : List (BitVec 8)) (e1 : Option Addr) (cap1 : Nat) (bs1 : List (BitVec 8))  (h0 : ¬ bs0.length ≤ 8) (w : World) (hw : Gt w)  : Calls Tryz.prog 8 [.slice e0 bs0.length cap0, .slice e1 bs1.length cap1].toArray w (fun r w' => r = .returned (.bool true) ∧ Grow w w') := by
 have hGF : BOk Gt (pl w) := gt_low.plain hw
 refine aK (G := Gt) Tryz.func8 rfl rfl (Hp (pl w) []) (aX (pl w) trivial ap) (aw hGF) ?_
 refine pTN ?_
 refine ao ?_
 refine pTN ?_
 refine bR rfl (fun _ => bI _) rfl rfl ?_
 refine aa ?_
 refine bt rfl ?_
 refine aD ?_
 refine ao ?_
 refine pTN ?_
 refine bN rfl (fun _ => a9 Tryz.underlying22 _ _ _ _) rfl rfl ?_
 refine cQ true rfl rfl (fun _ => rfl) (fun _ => dg _ _ _) (decide_eq_true (by omega)) rfl rfl ?_
 refine rTN ?_
 refine bf rfl rfl rfl ?_
 refine bf rfl rfl rfl ?_
 refine bf rfl rfl rfl ?_
 refine rTN ?_
 refine bV rfl ?_
 refine pTN ?_
 refine rt ?_
 exact bh rfl rfl (fun w hw => ⟨rfl, ah hw⟩)
theorem wB (e0 : Option Addr) (cap0 : Nat) (bs0 : List (BitVec 8)) (e1 : Option Addr) (cap1 : Nat) (bs1 : List (BitVec 8)) (h0 : bs0.length ≤ 8) (h1 : ¬ bs1.length ≤ 8) (w : World) (hw : Gt w)  : Calls Tryz.prog 8 [.slice e0 bs0.length cap0, .slice e1 bs1.length cap1].toArray w (fun r w' => r = .returned (.bool true) ∧ Grow w w') := by
 have hGF : BOk Gt (pl w) := gt_low.plain hw
 refine aK (G := Gt) Tryz.func8 rfl rfl (Hp (pl w) []) (aX (pl w) trivial ap) (aw hGF) ?_
 refine pTN ?_
 refine ao ?_
 refine pTN ?_
 refine bR rfl (fun _ => bI _) rfl rfl ?_
 refine aa ?_
 refine bt rfl ?_
 refine aD ?_
 refine ao ?_
 refine pTN ?_
 refine bN rfl (fun _ => a9 Tryz.underlying22 _ _ _ _) rfl rfl ?_
 refine cQ false rfl rfl (fun _ => rfl) (fun _ => dg _ _ _) (decide_eq_false (by omega)) rfl rfl ?_
 refine rTN ?_
 refine bN rfl (fun _ => a9 Tryz.underlying22 _ _ _ _) rfl rfl ?_
 refine cQ true rfl rfl (fun _ => rfl) (fun _ => dg _ _ _) (decide_eq_true (by omega)) rfl rfl ?_
 refine rTN ?_
 refine bV rfl ?_
 refine pTN ?_
 refine rt ?_
 exact bh rfl rfl (fun w hw => ⟨rfl, ah hw⟩)
theorem A5 (e0 : Option Addr) (cap0 : Nat) (bs0 : List (BitVec 8)) (e1 : Option Addr) (cap1 : Nat) (bs1 : List (BitVec 8)) (h0 : bs0.length ≤ 8) (h1 : bs1.length ≤ 8) (p : J1.GP) (q : J2.GP) (E : W12) (hM0 : ∀ w', Gt w' → BytesAt w' e0 bs0 → Calls Tryz.prog 12 [J1.PtV J1.gGen, .slice e0 bs0.length cap0].toArray w' (fun y w'' => y = .returned (J1.PtV p) ∧ Grow w' w'')) (hM1 : ∀ w', Gt w' → BytesAt w' e1 bs1 → Calls Tryz.prog 14 [J2.PtV J2.gGen, .slice e1 bs1.length cap1].toArray w' (fun y w'' => y = .returned (J2.PtV q) ∧ Grow w' w'')) (hE : Pure Tryz.prog Gt 18 [J1.PtV p, J2.PtV q] (bE (E))) (hA : Pure Tryz.prog Gt 18 [J1.PtV (J1.fK p), J2.PtV q] (bE (bz E))) (hB : Pure Tryz.prog Gt 18 [J1.PtV p, J2.PtV (J2.fK q)] (bE (bz E))) (hD : Pure Tryz.prog Gt 18 [J1.PtV (J1.fK p), J2.PtV (J2.fK q)] (bE (E))) (hK1 : ∀ (d : Nat) (w' : World), Gt w' → w'.rangeAt d 0 ((RW 54 (fun i => PRv (f2p (p, q) ((J1.fK p), q) i)) 2).map U64) → Calls Tryz.prog 38 [.slice (some ⟨d, 0, none⟩) 2 2].toArray w' (fun y w'' => y = .returned (.bool true) ∧ Grow w' w'')) (hK2 : ∀ (d : Nat) (w' : World), Gt w' → w'.rangeAt d 0 ((RW 54 (fun i => PRv (f2p (p, (J2.fK q)) (p, q) i)) 2).map U64) → Calls Tryz.prog 38 [.slice (some ⟨d, 0, none⟩) 2 2].toArray w' (fun y w'' => y = .returned (.bool true) ∧ Grow w' w'')) (w : World) (hw : Gt w) (hb0 : BytesAt w e0 bs0) (hb1 : BytesAt w e1 bs1) : Calls Tryz.prog 8 [.slice e0 bs0.length cap0, .slice e1 bs1.length cap1].toArray w (fun r w' => r = .returned (.bool true) ∧ Grow w w') := by
 have hGF : BOk Gt (pl w) := gt_low.plain hw
 refine aK (G := Gt) Tryz.func8 rfl rfl (Hp (pl w) []) (aX (pl w) trivial ap) (aw hGF) ?_
 refine pTN ?_
 refine ao ?_
 refine pTN ?_
 refine bR rfl (fun _ => bI _) rfl rfl ?_
 refine aa ?_
 refine bt rfl ?_
 refine aD ?_
 refine ao ?_
 refine pTN ?_
 refine bN rfl (fun _ => a9 Tryz.underlying22 _ _ _ _) rfl rfl ?_
 refine cQ false rfl rfl (fun _ => rfl) (fun _ => dg _ _ _) (decide_eq_false (by omega)) rfl rfl ?_
 refine rTN ?_
 refine bN rfl (fun _ => a9 Tryz.underlying22 _ _ _ _) rfl rfl ?_
 refine cQ false rfl rfl (fun _ => rfl) (fun _ => dg _ _ _) (decide_eq_false (by omega)) rfl rfl ?_
 refine rTN ?_
 refine bt rfl ?_
 refine aD ?_
 refine xp ?_
 refine lc ent11 (J1.o9) ?_
 refine rTN ?_
 refine bO rfl rfl ent12 (fun w' hC hG => hM0 w' hG (hb0.grow (ah hC))) rfl rfl ?_
 refine lc ent13 (J2.o9) ?_
 refine rTN ?_
 refine bO rfl rfl ent14 (fun w' hC hG => hM1 w' hG (hb1.grow (ah hC))) rfl rfl ?_
 refine la J1.zv29 fun b5 => ?_
 refine la J2.zv35 fun b6 => ?_
 refine rTN ?_
 refine pTN ?_
 refine lc ent18 (hE) ?_
 refine la zv49 fun b7 => ?_
 refine rTN ?_
 refine bu (E := EE []) a7 (by kernel_rfl) (by kernel_rfl) (by kernel_rfl) ?_
 refine rTN ?_
 refine lc ent18 (hA) ?_
 refine rTN ?_
 refine dv true rfl rfl ent33 (eu _ _) (decide_eq_true rfl) rfl rfl ?_
 refine rTN ?_
 refine lc ent18 (hB) ?_
 refine rTN ?_
 refine dv true rfl rfl ent33 (eu _ _) (decide_eq_true rfl) rfl rfl ?_
 refine rTN ?_
 refine lc ent18 (hD) ?_
 refine rTN ?_
 refine dv true rfl rfl ent33 (eu _ _) (decide_eq_true rfl) rfl rfl ?_
 refine rTN ?_
 refine dx mE rfl rfl (by simp) (by simp) rfl rfl ?_
 refine rTN ?_
 refine dx mE rfl rfl (by simp) (by simp) rfl rfl ?_
 refine pg (s := 54) 60 (fun i => PRv (f2p (p, q) ((J1.fK p), q) i)) (List.replicate 54 (0#64)) hGF rfl rfl rfl (fun i _ => da _) (by decide) (by decide) Tryz.underlying75 Tryz.sizeOf77 (by simp) zv77 rfl rfl ?_
 intro b60
 refine bO rfl rfl ent38 (fun w' hC hG => hK1 b60 w' hG (cu (n := 60) rfl w' hC)) rfl rfl ?_
 refine rTN ?_
 refine dx mE rfl rfl (by simp) (by simp) rfl rfl ?_
 refine rTN ?_
 refine dx mE rfl rfl (by simp) (by simp) rfl rfl ?_
 refine pg (s := 54) 71 (fun i => PRv (f2p (p, (J2.fK q)) (p, q) i)) (List.replicate 54 (0#64)) hGF rfl rfl rfl (fun i _ => da _) (by decide) (by decide) Tryz.underlying75 Tryz.sizeOf77 (by simp) zv77 rfl rfl ?_
 intro b71
 refine bO rfl rfl ent38 (fun w' hC hG => hK2 b71 w' hG (cu (n := 71) rfl w' hC)) rfl rfl ?_
 refine rTN ?_
 refine rt ?_
 exact bh rfl rfl (fun w hw => ⟨rfl, ah hw⟩)
theorem tS (e0 : Option Addr) (cap0 : Nat) (bs0 : List (BitVec 8)) (e1 : Option Addr) (cap1 : Nat) (bs1 : List (BitVec 8)) (w : World) (hw : Gt w) (hb0 : BytesAt w e0 bs0) (hb1 : BytesAt w e1 bs1) : Calls Tryz.prog 8 [.slice e0 bs0.length cap0, .slice e1 bs1.length cap1].toArray w (fun r w' => r = .returned (.bool true) ∧ Grow w w') := by
 by_cases h0 : bs0.length ≤ 8
 ·by_cases h1 : bs1.length ≤ 8
  ·have m0 := fun w' hG hB => J1.wG J1.gGen e0 cap0 bs0 (by omega) w' hG hB
   have m1 := fun w' hG hB => J2.wG J2.gGen e1 cap1 bs1 (by omega) w' hG hB
   have hq : (J2.tV J2.gGen bs1).P = E2w.times (some G2p) (BN bs1 bs1.length) := rfl
   revert m0 m1 hq
   generalize J1.tV J1.gGen bs0 = p
   generalize J2.tV J2.gGen bs1 = q
   intro m0 m1 hq
   have qr : E2w.times q.P ORD = none := by rw [hq]; exact E2w.times_ord qH kG _
   have qn : E2w.times (J2.fK q).P ORD = none := vu q.on qr
   have hE := mL p q qr
   have hA := mL (J1.fK p) q qr
   have hB := mL p (J2.fK q) qn
   have hD := mL (J1.fK p) (J2.fK q) qn
   have n1 : (J1.fK p).P = E1.ne p.P := rfl
   have n2 : (J2.fK q).P = E2w.ne q.P := rfl
   have u1 := Hc p.on q.on qr
   have u2 := BI p.on q.on qr
   have u3 := BI (E1.ne_on p.on) q.on qr
   have k1 := rU (p, q) (J1.fK p, q) qr qr (by rw [n1]; exact u1)
   have k2 := rU (p, J2.fK q) (p, q) qn qr (by rw [n2, K12.mul_comm]; exact u2)
   rw [n1, sf u1] at hA
   rw [n2, sf u2] at hB
   rw [n1, n2, sf u3, sf u1, iZ] at hD
   exact A5 e0 cap0 bs0 e1 cap1 bs1 h0 h1 p q _ m0 m1 hE hA hB hD k1 k2 w hw hb0 hb1
  ·exact wB e0 cap0 bs0 e1 cap1 bs1 h0 h1 w hw
 ·exact yA e0 cap0 bs0 e1 cap1 bs1 h0 w hw
end Q6
end Go.Proofs.YtpnpiblphnpfiaaGreatDoor
