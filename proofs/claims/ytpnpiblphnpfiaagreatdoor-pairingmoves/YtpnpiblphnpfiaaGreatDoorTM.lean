/-
 What is known of layer 12; the law PairingIs.
-/
import Derived.Test.YtpnpiblphnpfiaaGreatDoorTL
import Derived.Test.YtpnpiblphnpfiaaGreatDoorX5
namespace Go.Proofs.YtpnpiblphnpfiaaGreatDoor
open Go.RowKit
set_option maxRecDepth 100000
set_option maxHeartbeats 1000000
attribute [local simp] aN aZ aI aF aw aX aC aB aD PLl bX bZ N1l ca bU cb aP a5 aJ aU aV J1.aY J2.aY Q6.bM Q6.bV
theorem rTM {Q P : Prop} (k : Q) (h : Q → P := by intro k; (refine LY.run ?_); (repeat (first | refine bK rfl rfl rfl ?_ | refine bg rfl rfl rfl ?_ | ((refine xX rfl rfl ?_ rfl rfl ?_); (· simp)) | ((refine u4 rfl rfl ?_ rfl rfl ?_); (· simp)) | ((refine u2 rfl rfl ?_ rfl rfl ?_); (· simp)) | ((refine ra53 rfl rfl ?_ rfl rfl ?_); (· simp)) | ((refine yU hGF rfl rfl rfl ?_ ?_ (ak _) rfl ?_); (· simp); (· simp)) | ((refine wH hGF rfl rfl rfl ?_ ?_ (ak _) rfl ?_); (· simp); (· simp)) | ((refine o0 hGF rfl rfl rfl ?_ ?_ (ak _) rfl ?_); (· simp); (· simp)) | ((refine sa44 hGF rfl rfl rfl ?_ ?_ (ak _) rfl ?_); (· simp); (· simp)) | refine bQ (f := 13) rfl rfl ent13 (J2.nB) rfl rfl ?_ | refine bQ (f := 11) rfl rfl ent11 (J1.nB) rfl rfl ?_ | refine bQ (f := 17) rfl rfl ent17 (refs11 LL) rfl rfl ?_ | refine bQ (f := 22) rfl rfl ent22 (iF) rfl rfl ?_ | refine bQ (f := 15) rfl rfl ent15 (J1.FX) rfl rfl ?_ | refine fN rfl rfl rfl rfl rfl ?_)); (first | refine ci ?_ | refine LY.mk ?_); exact k) : P := h k
theorem pTM {Q P : Prop} (k : Q) (h : Q → P := by intro k; (refine xp ?_); (refine rTM ?_); exact k) : P := h k

namespace Q6
theorem ul (E : W12) (hE : Pure Tryz.prog Gt 18 [J1.PtV J1.gGen, J2.PtV J2.gGen] (bu E)) (h0 : ¬ E = K12.zero) (h1 : ¬ E = K12.one) (hI : Pure Tryz.prog Gt 18 [J1.PtV J1.gInf, J2.PtV J2.gGen] (bu K12.one)) (hK1 : ∀ (d : Nat) (w' : World), Gt w' → w'.rangeAt d 0 ((PRv (J1.gGen, J2.gGen)).map U64) → Calls Tryz.prog 38 [.slice (some ⟨d, 0, none⟩) 1 1].toArray w' (fun y w'' => y = .returned (.bool false) ∧ Grow w' w'')) (hK0 : ∀ w', Gt w' → Calls Tryz.prog 38 [.slice none 0 0].toArray w' (fun y w'' => y = .returned (.bool true) ∧ Grow w' w'')) : Pure Tryz.prog Gt 10 [] (.bool true) := by
 refine bc Tryz.func10 fun w hw hGF => ?_
 refine pTM ?_
 refine pTM ?_
 refine lc ent18 (hE) ?_
 refine la zv49 fun b1 => ?_
 refine rTM ?_
 refine pTM ?_
 refine dd i2 rfl rfl (by simp) (by simp) rfl rfl ?_
 refine kL 9 ((PRv (J1.gGen, J2.gGen)).map U64) hGF rfl (by simp) (by decide) (by decide) Tryz.underlying75 Tryz.sizeOf77 zv77 rfl rfl ?_
 intro b9
 refine rTM ?_
 refine bw (E := EE []) bq (by kernel_rfl) (by kernel_rfl) (by kernel_rfl) ?_
 refine rTM ?_
 refine cF false rfl rfl ent26 (iT E) (decide_eq_false h0) rfl rfl ?_
 refine bC rfl (fun _ => bi _) rfl rfl ?_
 refine rTM ?_
 refine cF false rfl rfl ent33 (fX _ _) (decide_eq_false h1) rfl rfl ?_
 refine bC rfl (fun _ => bi _) rfl rfl ?_
 refine rTM ?_
 refine bk rfl rfl ent38 (fun w' hC hG => hK1 b9 w' hG (cC (n := 9) rfl w' hC)) rfl rfl ?_
 refine bC rfl (fun _ => bi _) rfl rfl ?_
 refine rTM ?_
 refine bk rfl rfl ent38 (fun w' hC hG => hK0 w' hG) rfl rfl ?_
 refine rTM ?_
 refine lc ent18 (hI) ?_
 refine rTM ?_
 refine cF true rfl rfl ent33 (fX _ _) (decide_eq_true rfl) rfl rfl ?_
 refine rTM ?_
 refine rt ?_
 exact a6 rfl rfl (fun w hw => ⟨rfl, ah hw⟩)
theorem mY : E2w.times J2.gGen.P ORD = none := dN
theorem u6 : PR L63 FE J1.gGen.P J2.gGen.P = EG := by rw [EG, show J1.gGen.P = some G1p from rfl, show J2.gGen.P = some G2p from rfl]
theorem xV : Pure Tryz.prog Gt 10 [] (.bool true) := by
 have hE := Ai J1.gGen J2.gGen mY
 rw [u6] at hE
 refine ul EG hE Hn xd ?_ (fun d w' hG hr => ?_) pO
 ·have k := Ai J1.gInf J2.gGen mY
  rw [show J1.gInf.P = none from rfl, AP] at k
  exact k
 ·have k := v5 1 (fun _ => (J1.gGen, J2.gGen)) d 1 (by decide) (fun _ _ => mY) w' hG (by rw [un]; exact hr)
  rw [PRN, PRN, K12.one_mul, u6, decide_eq_false xd] at k
  exact k
end Q6
end Go.Proofs.YtpnpiblphnpfiaaGreatDoor
