/-
 What is known of layer 12; the law PairingIs.
-/
import Derived.Test.YtpnpiblphnpfiaaGreatDoorTL
import Derived.Test.YtpnpiblphnpfiaaGreatDoorX5
namespace Go.Proofs.YtpnpiblphnpfiaaGreatDoor
open Go.RowKit
set_option maxRecDepth 100000
set_option maxHeartbeats 1000000
attribute [local simp] aL a7 aI aH aB a8 aF aE aG PLl bY cb N1l ce bX bZ aU ba aK aW a5 J1.bc J2.bc Q6.bP Q6.bU
theorem rTM {Q P : Prop} (k : Q) (h : Q → P := by intro k; (refine LY.run ?_); (repeat (first | refine bM rfl rfl rfl ?_ | refine bj rfl rfl rfl ?_ | ((refine xW rfl rfl ?_ rfl rfl ?_); (· simp)) | ((refine xl rfl rfl ?_ rfl rfl ?_); (· simp)) | ((refine vw rfl rfl ?_ rfl rfl ?_); (· simp)) | ((refine ra53 rfl rfl ?_ rfl rfl ?_); (· simp)) | ((refine w8 hGF rfl rfl rfl ?_ ?_ (ak _) rfl ?_); (· simp); (· simp)) | ((refine yS hGF rfl rfl rfl ?_ ?_ (ak _) rfl ?_); (· simp); (· simp)) | ((refine o9 hGF rfl rfl rfl ?_ ?_ (ak _) rfl ?_); (· simp); (· simp)) | ((refine sa44 hGF rfl rfl rfl ?_ ?_ (ak _) rfl ?_); (· simp); (· simp)) | refine bR (f := 13) rfl rfl ent13 (J2.ov) rfl rfl ?_ | refine bR (f := 11) rfl rfl ent11 (J1.ov) rfl rfl ?_ | refine bR (f := 17) rfl rfl ent17 (refs11 LL) rfl rfl ?_ | refine bR (f := 22) rfl rfl ent22 (iE) rfl rfl ?_ | refine bR (f := 15) rfl rfl ent15 (J1.G5) rfl rfl ?_ | refine fD rfl rfl rfl rfl rfl ?_)); (first | refine cm ?_ | refine LY.mk ?_); exact k) : P := h k
theorem pTM {Q P : Prop} (k : Q) (h : Q → P := by intro k; (refine xp ?_); (refine rTM ?_); exact k) : P := h k

namespace Q6
theorem we (E : W12) (hE : Pure Tryz.prog Gt 18 [J1.PtV J1.gGen, J2.PtV J2.gGen] (bv E)) (h0 : ¬ E = K12.zero) (h1 : ¬ E = K12.one) (hI : Pure Tryz.prog Gt 18 [J1.PtV J1.gInf, J2.PtV J2.gGen] (bv K12.one)) (hK1 : ∀ (d : Nat) (w' : World), Gt w' → w'.rangeAt d 0 ((PRv (J1.gGen, J2.gGen)).map U64) → Calls Tryz.prog 38 [.slice (some ⟨d, 0, none⟩) 1 1].toArray w' (fun y w'' => y = .returned (.bool false) ∧ Grow w' w'')) (hK0 : ∀ w', Gt w' → Calls Tryz.prog 38 [.slice none 0 0].toArray w' (fun y w'' => y = .returned (.bool true) ∧ Grow w' w'')) : Pure Tryz.prog Gt 10 [] (.bool true) := by
 refine a9 Tryz.func10 fun w hw hGF => ?_
 refine pTM ?_
 refine pTM ?_
 refine lc ent18 (hE) ?_
 refine la zv49 fun b1 => ?_
 refine rTM ?_
 refine pTM ?_
 refine dp lz rfl rfl (by simp) (by simp) rfl rfl ?_
 refine ez 9 ((PRv (J1.gGen, J2.gGen)).map U64) hGF rfl (by simp) (by decide) (by decide) Tryz.underlying75 Tryz.sizeOf77 zv77 rfl rfl ?_
 intro b9
 refine rTM ?_
 refine bk (E := EE []) bi (by kernel_rfl) (by kernel_rfl) (by kernel_rfl) ?_
 refine rTM ?_
 refine eh false rfl rfl ent26 (iO E) (decide_eq_false h0) rfl rfl ?_
 refine bH rfl (fun _ => bq _) rfl rfl ?_
 refine rTM ?_
 refine eh false rfl rfl ent33 (fX _ _) (decide_eq_false h1) rfl rfl ?_
 refine bH rfl (fun _ => bq _) rfl rfl ?_
 refine rTM ?_
 refine bz rfl rfl ent38 (fun w' hC hG => hK1 b9 w' hG (cr (n := 9) rfl w' hC)) rfl rfl ?_
 refine bH rfl (fun _ => bq _) rfl rfl ?_
 refine rTM ?_
 refine bz rfl rfl ent38 (fun w' hC hG => hK0 w' hG) rfl rfl ?_
 refine rTM ?_
 refine lc ent18 (hI) ?_
 refine rTM ?_
 refine eh true rfl rfl ent33 (fX _ _) (decide_eq_true rfl) rfl rfl ?_
 refine rTM ?_
 refine rt ?_
 exact aV rfl rfl (fun w hw => ⟨rfl, ac hw⟩)
theorem jx : E2w.times J2.gGen.P ORD = none := gc
theorem ut : PR L63 FE J1.gGen.P J2.gGen.P = EG := by rw [EG, show J1.gGen.P = some G1p from rfl, show J2.gGen.P = some G2p from rfl]
theorem yA : Pure Tryz.prog Gt 10 [] (.bool true) := by
 have hE := Ad J1.gGen J2.gGen jx
 rw [ut] at hE
 refine we EG hE ER u6 ?_ (fun d w' hG hr => ?_) k9
 ·have k := Ad J1.gInf J2.gGen jx
  rw [show J1.gInf.P = none from rfl, GH] at k
  exact k
 ·have k := uq 1 (fun _ => (J1.gGen, J2.gGen)) d 1 (by decide) (fun _ _ => jx) w' hG (by rw [uu]; exact hr)
  rw [PRN, PRN, K12.one_mul, ut, decide_eq_false u6] at k
  exact k
end Q6
end Go.Proofs.YtpnpiblphnpfiaaGreatDoor
