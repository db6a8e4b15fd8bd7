/-
 What is known of layer 12; the law PairingIs.
-/
import Derived.Test.YtpnpiblphnpfiaaGreatDoorTL
import Derived.Test.YtpnpiblphnpfiaaGreatDoorX5
namespace Go.Proofs.YtpnpiblphnpfiaaGreatDoor
open Go.RowKit
set_option maxRecDepth 100000
set_option maxHeartbeats 1000000
attribute [local simp] a8 bt aI aC aR a6 aQ aM aW PLl cH cJ N1l cI cL cM bq bv a7 br bh J1.bG J2.bG Q6.cR Q6.dZ
theorem rTM {Q P : Prop} (k : Q) (h : Q → P := by intro k; (refine LY.run ?_); (repeat (first | refine bH rfl rfl rfl ?_ | refine bd rfl rfl rfl ?_ | ((refine Ad rfl rfl ?_ rfl rfl ?_); (· simp)) | ((refine zG rfl rfl ?_ rfl rfl ?_); (· simp)) | ((refine Ig rfl rfl ?_ rfl rfl ?_); (· simp)) | ((refine uk rfl rfl ?_ rfl rfl ?_); (· simp)) | ((refine Ci hGF rfl rfl rfl ?_ ?_ (ak _) rfl ?_); (· simp); (· simp)) | ((refine CY hGF rfl rfl rfl ?_ ?_ (ak _) rfl ?_); (· simp); (· simp)) | ((refine pF hGF rfl rfl rfl ?_ ?_ (ak _) rfl ?_); (· simp); (· simp)) | ((refine tz hGF rfl rfl rfl ?_ ?_ (ak _) rfl ?_); (· simp); (· simp)) | refine bw (f := 13) rfl rfl ent13 (J2.v9) rfl rfl ?_ | refine bw (f := 11) rfl rfl ent11 (J1.v9) rfl rfl ?_ | refine bw (f := 17) rfl rfl ent17 (wl LL) rfl rfl ?_ | refine bw (f := 15) rfl rfl ent15 (J1.xx) rfl rfl ?_ | refine bw (f := 22) rfl rfl ent22 (ji) rfl rfl ?_ | refine gi rfl rfl rfl rfl rfl ?_)); (first | refine bY ?_ | refine LY.mk ?_); exact k) : P := h k
theorem pTM {Q P : Prop} (k : Q) (h : Q → P := by intro k; (refine xp ?_); (refine rTM ?_); exact k) : P := h k

theorem ent19 : ae Tryz.prog 19 := fun _ _ => by kernel_rfl
namespace Q6
theorem uu (E : W12) (hE : Pure Tryz.prog Gt 18 [J1.PtV J1.gGen, J2.PtV J2.gGen] (bE E)) (h0 : ¬ E = K12.zero) (h1 : ¬ E = K12.one) (hI : Pure Tryz.prog Gt 18 [J1.PtV J1.gInf, J2.PtV J2.gGen] (bE K12.one)) (hK1 : ∀ (d : Nat) (w' : World), Gt w' → w'.rangeAt d 0 ((PRv (J1.gGen, J2.gGen)).map U64) → Calls Tryz.prog 38 [.slice (some ⟨d, 0, none⟩) 1 1].toArray w' (fun y w'' => y = .returned (.bool false) ∧ Grow w' w'')) (hK0 : ∀ w', Gt w' → Calls Tryz.prog 38 [.slice none 0 0].toArray w' (fun y w'' => y = .returned (.bool true) ∧ Grow w' w'')) : Pure Tryz.prog Gt 10 [] (.bool true) := by
 refine aN Tryz.func10 fun w hw hGF => ?_
 refine pTM ?_
 refine pTM ?_
 refine lc ent18 (hE) ?_
 refine la zv49 fun b1 => ?_
 refine rTM ?_
 refine pTM ?_
 refine eS Au rfl rfl (by simp) (by simp) rfl rfl ?_
 refine ki 9 ((PRv (J1.gGen, J2.gGen)).map U64) hGF rfl (by simp) (by decide) (by decide) Tryz.underlying75 Tryz.sizeOf77 zv77 rfl rfl ?_
 intro b9
 refine rTM ?_
 refine bj (E := EE []) a5 (by kernel_rfl) (by kernel_rfl) (by kernel_rfl) ?_
 refine rTM ?_
 refine cV false rfl rfl ent26 (iU E) (decide_eq_false h0) rfl rfl ?_
 refine bJ rfl (fun _ => bu _) rfl rfl ?_
 refine rTM ?_
 refine cV false rfl rfl ent33 (gq _ _) (decide_eq_false h1) rfl rfl ?_
 refine bJ rfl (fun _ => bu _) rfl rfl ?_
 refine rTM ?_
 refine bN rfl rfl ent38 (fun w' hC hG => hK1 b9 w' hG (cN (n := 9) rfl w' hC)) rfl rfl ?_
 refine bJ rfl (fun _ => bu _) rfl rfl ?_
 refine rTM ?_
 refine bN rfl rfl ent38 (fun w' hC hG => hK0 w' hG) rfl rfl ?_
 refine rTM ?_
 refine lc ent18 (hI) ?_
 refine rTM ?_
 refine cV true rfl rfl ent33 (gq _ _) (decide_eq_true rfl) rfl rfl ?_
 refine rTM ?_
 refine rt ?_
 exact bg rfl rfl (fun w hw => ⟨rfl, ah hw⟩)
theorem nJ : E2w.times J2.gGen.P ORD = none := n6
theorem wY : PR L63 FE J1.gGen.P J2.gGen.P = EG := by rw [EG, show J1.gGen.P = some G1p from rfl, show J2.gGen.P = some G2p from rfl]
theorem iD : Pure Tryz.prog Gt 10 [] (.bool true) := by
 have hE := wS J1.gGen J2.gGen nJ
 rw [wY] at hE
 refine uu EG hE Ii BI ?_ (fun d w' hG hr => ?_) qQ
 ·have k := wS J1.gInf J2.gGen nJ
  rw [show J1.gInf.P = none from rfl, GJ] at k
  exact k
 ·have k := Eg 1 (fun _ => (J1.gGen, J2.gGen)) d 1 (by decide) (fun _ _ => nJ) w' hG (by rw [wg]; exact hr)
  rw [PRN, PRN, K12.one_mul, wY, decide_eq_false BI] at k
  exact k
theorem Dv (x y : W6) (a b : W12) (hV : Pure Tryz.prog Gt 56 [EV6 x, EV6 y] (TT a)) (hF : Pure Tryz.prog Gt 25 [TT a] (TT b)) : Pure Tryz.prog Gt 19 [EV6 x, EV6 y] (TT b) := by
 refine aN Tryz.func19 fun w hw hGF => ?_
 refine xp ?_
 refine lb fun b2 => ?_
 refine lb fun b3 => ?_
 refine la zv44 fun b4 => ?_
 refine aa ?_
 refine pTM ?_
 refine lc ent56 (hV) ?_
 refine lc ent25 (hF) ?_
 refine rTM ?_
 refine rt ?_
 exact av 4 rfl rfl rfl Tryz.isAgg44 Tryz.sizeOf44 (by simp) (fun w hw => ⟨rfl, ah hw⟩)
theorem Ga (P : J1.GP) (Q : J2.GP) (qr : E2w.times Q.P ORD = none) : Pure Tryz.prog Gt 19 [EV6 (RJ P.P), EV6 (RJ2 Q.P)] (TT (PR L63 FE P.P Q.P)) := by
 have k := xw (bB (MLv L63 P.P Q.P))
 rw [pO, show K12.pw (bB (MLv L63 P.P Q.P)) FE = PR L63 FE P.P Q.P by rw [PR, FN]] at k
 exact Dv _ _ _ _ (x8 P Q qr) k
theorem kU (P : J1.GP) (Q : J2.GP) (qr : E2w.times Q.P ORD = none) : ∃ L : W12, Pure Tryz.prog Gt 18 [J1.PtV P, J2.PtV Q] (bE L) ∧ Pure Tryz.prog Gt 19 [EV6 (RJ P.P), EV6 (RJ2 Q.P)] (TT L) := ⟨_, wS P Q qr, Ga P Q qr⟩
theorem FK (e0 : Option Addr) (cap0 : Nat) (bs0 : List (BitVec 8)) (e1 : Option Addr) (cap1 : Nat) (bs1 : List (BitVec 8)) (z : Int)  (h0 : ¬ bs0.length ≤ 8) (w : World) (hw : Gt w)  : Calls Tryz.prog 3 [.slice e0 bs0.length cap0, .slice e1 bs1.length cap1, I z].toArray w (fun r w' => r = .returned (.bool true) ∧ Grow w w') := by
 have hGF : BOk Gt (pl w) := gt_low.plain hw
 refine aF (G := Gt) Tryz.func3 rfl rfl (Hp (pl w) []) (aP (pl w) trivial ap) (aw hGF) ?_
 refine pTM ?_
 refine am ?_
 refine xp ?_
 refine lc ent10 iD ?_
 refine bJ rfl (fun _ => bu _) rfl rfl ?_
 refine aa ?_
 refine ba rfl ?_
 refine aB ?_
 refine am ?_
 refine pTM ?_
 refine bI rfl (fun _ => aY Tryz.underlying22 _ _ _ _) rfl rfl ?_
 refine bK true rfl rfl (fun _ => rfl) (fun _ => cm _ _ _) (decide_eq_true (by omega)) rfl rfl ?_
 refine rTM ?_
 refine bf rfl rfl rfl ?_
 refine bf rfl rfl rfl ?_
 refine bf rfl rfl rfl ?_
 refine rTM ?_
 refine bL rfl ?_
 refine pTM ?_
 refine rt ?_
 exact bg rfl rfl (fun w hw => ⟨rfl, ah hw⟩)
theorem IB (e0 : Option Addr) (cap0 : Nat) (bs0 : List (BitVec 8)) (e1 : Option Addr) (cap1 : Nat) (bs1 : List (BitVec 8)) (z : Int) (h0 : bs0.length ≤ 8) (h1 : ¬ bs1.length ≤ 8) (w : World) (hw : Gt w)  : Calls Tryz.prog 3 [.slice e0 bs0.length cap0, .slice e1 bs1.length cap1, I z].toArray w (fun r w' => r = .returned (.bool true) ∧ Grow w w') := by
 have hGF : BOk Gt (pl w) := gt_low.plain hw
 refine aF (G := Gt) Tryz.func3 rfl rfl (Hp (pl w) []) (aP (pl w) trivial ap) (aw hGF) ?_
 refine pTM ?_
 refine am ?_
 refine xp ?_
 refine lc ent10 iD ?_
 refine bJ rfl (fun _ => bu _) rfl rfl ?_
 refine aa ?_
 refine ba rfl ?_
 refine aB ?_
 refine am ?_
 refine pTM ?_
 refine bI rfl (fun _ => aY Tryz.underlying22 _ _ _ _) rfl rfl ?_
 refine bK false rfl rfl (fun _ => rfl) (fun _ => cm _ _ _) (decide_eq_false (by omega)) rfl rfl ?_
 refine rTM ?_
 refine bI rfl (fun _ => aY Tryz.underlying22 _ _ _ _) rfl rfl ?_
 refine bK true rfl rfl (fun _ => rfl) (fun _ => cm _ _ _) (decide_eq_true (by omega)) rfl rfl ?_
 refine rTM ?_
 refine bL rfl ?_
 refine pTM ?_
 refine rt ?_
 exact bg rfl rfl (fun w hw => ⟨rfl, ah hw⟩)
theorem Hy (e0 : Option Addr) (cap0 : Nat) (bs0 : List (BitVec 8)) (e1 : Option Addr) (cap1 : Nat) (bs1 : List (BitVec 8)) (z : Int) (h0 : bs0.length ≤ 8) (h1 : bs1.length ≤ 8) (hz0 : ¬ z.tmod 5 = 3) (hz1 : ¬ z.tmod 5 = 4) (p : J1.GP) (q : J2.GP) (LL : W12) (hM0 : ∀ w', Gt w' → BytesAt w' e0 bs0 → Calls Tryz.prog 12 [J1.PtV J1.gGen, .slice e0 bs0.length cap0].toArray w' (fun y w'' => y = .returned (J1.PtV p) ∧ Grow w' w'')) (hM1 : ∀ w', Gt w' → BytesAt w' e1 bs1 → Calls Tryz.prog 14 [J2.PtV J2.gGen, .slice e1 bs1.length cap1].toArray w' (fun y w'' => y = .returned (J2.PtV q) ∧ Grow w' w'')) (hA : Pure Tryz.prog Gt 18 [J1.PtV p, J2.PtV q] (bE LL)) (hB : Pure Tryz.prog Gt 19 [EV6 (RJ p.P), EV6 (RJ2 q.P)] (TT LL)) (w : World) (hw : Gt w) (hb0 : BytesAt w e0 bs0) (hb1 : BytesAt w e1 bs1) : Calls Tryz.prog 3 [.slice e0 bs0.length cap0, .slice e1 bs1.length cap1, I z].toArray w (fun r w' => r = .returned (.bool true) ∧ Grow w w') := by
 have hGF : BOk Gt (pl w) := gt_low.plain hw
 refine aF (G := Gt) Tryz.func3 rfl rfl (Hp (pl w) []) (aP (pl w) trivial ap) (aw hGF) ?_
 refine pTM ?_
 refine am ?_
 refine xp ?_
 refine lc ent10 iD ?_
 refine bJ rfl (fun _ => bu _) rfl rfl ?_
 refine aa ?_
 refine ba rfl ?_
 refine aB ?_
 refine am ?_
 refine pTM ?_
 refine bI rfl (fun _ => aY Tryz.underlying22 _ _ _ _) rfl rfl ?_
 refine bK false rfl rfl (fun _ => rfl) (fun _ => cm _ _ _) (decide_eq_false (by omega)) rfl rfl ?_
 refine rTM ?_
 refine bI rfl (fun _ => aY Tryz.underlying22 _ _ _ _) rfl rfl ?_
 refine bK false rfl rfl (fun _ => rfl) (fun _ => cm _ _ _) (decide_eq_false (by omega)) rfl rfl ?_
 refine rTM ?_
 refine ba rfl ?_
 refine aB ?_
 refine pTM ?_
 refine bN rfl rfl ent12 (fun w' hC hG => hM0 w' hG (hb0.grow (ah hC))) rfl rfl ?_
 refine rTM ?_
 refine bN rfl rfl ent14 (fun w' hC hG => hM1 w' hG (hb1.grow (ah hC))) rfl rfl ?_
 refine la J1.zv29 fun b7 => ?_
 refine la J2.zv35 fun b8 => ?_
 refine rTM ?_
 refine am ?_
 refine pTM ?_
 refine ab (v := I (z.tmod 5)) rfl rfl (fun _ => rfl) (fun _ => cx _ _ _ (by decide)) rfl rfl ?_
 refine aa ?_
 refine ao ?_
 refine xp ?_
 refine bK false rfl rfl (fun _ => rfl) (fun _ => eG _ _ _) (beq_eq_false_iff_ne.2 hz0) rfl rfl ?_
 refine rTM ?_
 refine ba rfl ?_
 refine xp ?_
 refine bK false rfl rfl (fun _ => rfl) (fun _ => eG _ _ _) (beq_eq_false_iff_ne.2 hz1) rfl rfl ?_
 refine rTM ?_
 refine ba rfl ?_
 refine aB ?_
 refine bj (E := EE []) a5 (by kernel_rfl) (by kernel_rfl) (by kernel_rfl) ?_
 refine rTM ?_
 refine lc ent18 (hA) ?_
 refine rTM ?_
 refine lc ent20 (J1.le p) ?_
 refine rTM ?_
 refine lc ent21 (J2.le q) ?_
 refine lc ent19 (hB) ?_
 refine bK true rfl rfl (fun _ => yl _ _ _ _ _ _) (fun w => u0 _ _ (by simp) (by simp) w) (decide_eq_true rfl) rfl rfl ?_
 refine rTM ?_
 refine rt ?_
 exact bg rfl rfl (fun w hw => ⟨rfl, ah hw⟩)
theorem FD (e0 : Option Addr) (cap0 : Nat) (bs0 : List (BitVec 8)) (e1 : Option Addr) (cap1 : Nat) (bs1 : List (BitVec 8)) (z : Int) (h0 : bs0.length ≤ 8) (h1 : bs1.length ≤ 8) (hz : z.tmod 5 = 3) (p : J1.GP) (q : J2.GP) (LL : W12) (hM0 : ∀ w', Gt w' → BytesAt w' e0 bs0 → Calls Tryz.prog 12 [J1.PtV J1.gGen, .slice e0 bs0.length cap0].toArray w' (fun y w'' => y = .returned (J1.PtV p) ∧ Grow w' w'')) (hM1 : ∀ w', Gt w' → BytesAt w' e1 bs1 → Calls Tryz.prog 14 [J2.PtV J2.gGen, .slice e1 bs1.length cap1].toArray w' (fun y w'' => y = .returned (J2.PtV q) ∧ Grow w' w'')) (hA : Pure Tryz.prog Gt 18 [J1.PtV J1.gInf, J2.PtV q] (bE LL)) (hB : Pure Tryz.prog Gt 19 [EV6 (RJ J1.gInf.P), EV6 (RJ2 q.P)] (TT LL)) (w : World) (hw : Gt w) (hb0 : BytesAt w e0 bs0) (hb1 : BytesAt w e1 bs1) : Calls Tryz.prog 3 [.slice e0 bs0.length cap0, .slice e1 bs1.length cap1, I z].toArray w (fun r w' => r = .returned (.bool true) ∧ Grow w w') := by
 have hGF : BOk Gt (pl w) := gt_low.plain hw
 refine aF (G := Gt) Tryz.func3 rfl rfl (Hp (pl w) []) (aP (pl w) trivial ap) (aw hGF) ?_
 refine pTM ?_
 refine am ?_
 refine xp ?_
 refine lc ent10 iD ?_
 refine bJ rfl (fun _ => bu _) rfl rfl ?_
 refine aa ?_
 refine ba rfl ?_
 refine aB ?_
 refine am ?_
 refine pTM ?_
 refine bI rfl (fun _ => aY Tryz.underlying22 _ _ _ _) rfl rfl ?_
 refine bK false rfl rfl (fun _ => rfl) (fun _ => cm _ _ _) (decide_eq_false (by omega)) rfl rfl ?_
 refine rTM ?_
 refine bI rfl (fun _ => aY Tryz.underlying22 _ _ _ _) rfl rfl ?_
 refine bK false rfl rfl (fun _ => rfl) (fun _ => cm _ _ _) (decide_eq_false (by omega)) rfl rfl ?_
 refine rTM ?_
 refine ba rfl ?_
 refine aB ?_
 refine pTM ?_
 refine bN rfl rfl ent12 (fun w' hC hG => hM0 w' hG (hb0.grow (ah hC))) rfl rfl ?_
 refine rTM ?_
 refine bN rfl rfl ent14 (fun w' hC hG => hM1 w' hG (hb1.grow (ah hC))) rfl rfl ?_
 refine la J1.zv29 fun b7 => ?_
 refine la J2.zv35 fun b8 => ?_
 refine rTM ?_
 refine am ?_
 refine pTM ?_
 refine ab (v := I (z.tmod 5)) rfl rfl (fun _ => rfl) (fun _ => cx _ _ _ (by decide)) rfl rfl ?_
 refine aa ?_
 refine ao ?_
 refine xp ?_
 refine bK true rfl rfl (fun _ => rfl) (fun _ => eG _ _ _) (beq_iff_eq.2 hz) rfl rfl ?_
 refine rTM ?_
 refine bL rfl ?_
 refine au (E := EE []) ?_
 refine rTM ?_
 refine bj (E := EE []) a5 (by kernel_rfl) (by kernel_rfl) (by kernel_rfl) ?_
 refine rTM ?_
 refine lc ent18 (hA) ?_
 refine rTM ?_
 refine lc ent20 (J1.le J1.gInf) ?_
 refine rTM ?_
 refine lc ent21 (J2.le q) ?_
 refine lc ent19 (hB) ?_
 refine bK true rfl rfl (fun _ => yl _ _ _ _ _ _) (fun w => u0 _ _ (by simp) (by simp) w) (decide_eq_true rfl) rfl rfl ?_
 refine rTM ?_
 refine rt ?_
 exact bg rfl rfl (fun w hw => ⟨rfl, ah hw⟩)
theorem Hz (e0 : Option Addr) (cap0 : Nat) (bs0 : List (BitVec 8)) (e1 : Option Addr) (cap1 : Nat) (bs1 : List (BitVec 8)) (z : Int) (h0 : bs0.length ≤ 8) (h1 : bs1.length ≤ 8) (hz0 : ¬ z.tmod 5 = 3) (hz : z.tmod 5 = 4) (p : J1.GP) (q : J2.GP) (LL : W12) (hM0 : ∀ w', Gt w' → BytesAt w' e0 bs0 → Calls Tryz.prog 12 [J1.PtV J1.gGen, .slice e0 bs0.length cap0].toArray w' (fun y w'' => y = .returned (J1.PtV p) ∧ Grow w' w'')) (hM1 : ∀ w', Gt w' → BytesAt w' e1 bs1 → Calls Tryz.prog 14 [J2.PtV J2.gGen, .slice e1 bs1.length cap1].toArray w' (fun y w'' => y = .returned (J2.PtV q) ∧ Grow w' w'')) (hA : Pure Tryz.prog Gt 18 [J1.PtV p, J2.PtV J2.gInf] (bE LL)) (hB : Pure Tryz.prog Gt 19 [EV6 (RJ p.P), EV6 (RJ2 J2.gInf.P)] (TT LL)) (w : World) (hw : Gt w) (hb0 : BytesAt w e0 bs0) (hb1 : BytesAt w e1 bs1) : Calls Tryz.prog 3 [.slice e0 bs0.length cap0, .slice e1 bs1.length cap1, I z].toArray w (fun r w' => r = .returned (.bool true) ∧ Grow w w') := by
 have hGF : BOk Gt (pl w) := gt_low.plain hw
 refine aF (G := Gt) Tryz.func3 rfl rfl (Hp (pl w) []) (aP (pl w) trivial ap) (aw hGF) ?_
 refine pTM ?_
 refine am ?_
 refine xp ?_
 refine lc ent10 iD ?_
 refine bJ rfl (fun _ => bu _) rfl rfl ?_
 refine aa ?_
 refine ba rfl ?_
 refine aB ?_
 refine am ?_
 refine pTM ?_
 refine bI rfl (fun _ => aY Tryz.underlying22 _ _ _ _) rfl rfl ?_
 refine bK false rfl rfl (fun _ => rfl) (fun _ => cm _ _ _) (decide_eq_false (by omega)) rfl rfl ?_
 refine rTM ?_
 refine bI rfl (fun _ => aY Tryz.underlying22 _ _ _ _) rfl rfl ?_
 refine bK false rfl rfl (fun _ => rfl) (fun _ => cm _ _ _) (decide_eq_false (by omega)) rfl rfl ?_
 refine rTM ?_
 refine ba rfl ?_
 refine aB ?_
 refine pTM ?_
 refine bN rfl rfl ent12 (fun w' hC hG => hM0 w' hG (hb0.grow (ah hC))) rfl rfl ?_
 refine rTM ?_
 refine bN rfl rfl ent14 (fun w' hC hG => hM1 w' hG (hb1.grow (ah hC))) rfl rfl ?_
 refine la J1.zv29 fun b7 => ?_
 refine la J2.zv35 fun b8 => ?_
 refine rTM ?_
 refine am ?_
 refine pTM ?_
 refine ab (v := I (z.tmod 5)) rfl rfl (fun _ => rfl) (fun _ => cx _ _ _ (by decide)) rfl rfl ?_
 refine aa ?_
 refine ao ?_
 refine xp ?_
 refine bK false rfl rfl (fun _ => rfl) (fun _ => eG _ _ _) (beq_eq_false_iff_ne.2 hz0) rfl rfl ?_
 refine rTM ?_
 refine ba rfl ?_
 refine xp ?_
 refine bK true rfl rfl (fun _ => rfl) (fun _ => eG _ _ _) (beq_iff_eq.2 hz) rfl rfl ?_
 refine rTM ?_
 refine bL rfl ?_
 refine au (E := EE []) ?_
 refine lc ent16 (J2.xx) ?_
 refine rTM ?_
 refine bj (E := EE []) a5 (by kernel_rfl) (by kernel_rfl) (by kernel_rfl) ?_
 refine rTM ?_
 refine lc ent18 (hA) ?_
 refine rTM ?_
 refine lc ent20 (J1.le p) ?_
 refine rTM ?_
 refine lc ent21 (J2.le J2.gInf) ?_
 refine lc ent19 (hB) ?_
 refine bK true rfl rfl (fun _ => yl _ _ _ _ _ _) (fun w => u0 _ _ (by simp) (by simp) w) (decide_eq_true rfl) rfl rfl ?_
 refine rTM ?_
 refine rt ?_
 exact bg rfl rfl (fun w hw => ⟨rfl, ah hw⟩)
theorem CU (e0 : Option Addr) (cap0 : Nat) (bs0 : List (BitVec 8)) (e1 : Option Addr) (cap1 : Nat) (bs1 : List (BitVec 8)) (z : Int) (w : World) (hw : Gt w) (hb0 : BytesAt w e0 bs0) (hb1 : BytesAt w e1 bs1) : Calls Tryz.prog 3 [.slice e0 bs0.length cap0, .slice e1 bs1.length cap1, I z].toArray w (fun r w' => r = .returned (.bool true) ∧ Grow w w') := by
 by_cases h0 : bs0.length ≤ 8
 ·by_cases h1 : bs1.length ≤ 8
  ·have m0 := fun w' hG hB => J1.vk J1.gGen e0 cap0 bs0 (by omega) w' hG hB
   have m1 := fun w' hG hB => J2.vk J2.gGen e1 cap1 bs1 (by omega) w' hG hB
   have hq : (J2.s4 J2.gGen bs1).P = E2w.times (some G2p) (BN bs1 bs1.length) := rfl
   revert m0 m1 hq
   generalize J1.s4 J1.gGen bs0 = p
   generalize J2.s4 J2.gGen bs1 = q
   intro m0 m1 hq
   have qr : E2w.times q.P ORD = none := by rw [hq]; exact E2w.times_ord D0 n6 _
   by_cases hz : z.tmod 5 = 3
   ·obtain ⟨LL, hA, hB⟩ := kU J1.gInf q qr
    exact FD e0 cap0 bs0 e1 cap1 bs1 z h0 h1 hz p q LL m0 m1 hA hB w hw hb0 hb1
   ·by_cases hz1 : z.tmod 5 = 4
    ·obtain ⟨LL, hA, hB⟩ := kU p J2.gInf (E2w.times_none _)
     exact Hz e0 cap0 bs0 e1 cap1 bs1 z h0 h1 hz hz1 p q LL m0 m1 hA hB w hw hb0 hb1
    ·obtain ⟨LL, hA, hB⟩ := kU p q qr
     exact Hy e0 cap0 bs0 e1 cap1 bs1 z h0 h1 hz hz1 p q LL m0 m1 hA hB w hw hb0 hb1
  ·exact IB e0 cap0 bs0 e1 cap1 bs1 z h0 h1 w hw
 ·exact FK e0 cap0 bs0 e1 cap1 bs1 z h0 w hw
end Q6
end Go.Proofs.YtpnpiblphnpfiaaGreatDoor
