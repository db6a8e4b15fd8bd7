/-
 What is known of layer 12; the law PairingIs.
-/
import Derived.Test.YtpnpiblphnpfiaaGreatDoorTL
import Derived.Test.YtpnpiblphnpfiaaGreatDoorX5
namespace Go.Proofs.YtpnpiblphnpfiaaGreatDoor
open Go.RowKit
set_option maxRecDepth 100000
set_option maxHeartbeats 1000000
attribute [local simp] aL ba aI aH aB bc aF aE aG PLl cf cb N1l ca bY ce aR a9 aJ aW a5 J1.bd J2.bd Q6.bQ Q6.bV
theorem rTM {Q P : Prop} (k : Q) (h : Q → P := by intro k; (refine LY.run ?_); (repeat (first | refine bK rfl rfl rfl ?_ | refine bk rfl rfl rfl ?_ | ((refine xr rfl rfl ?_ rfl rfl ?_); (· simp)) | ((refine xV rfl rfl ?_ rfl rfl ?_); (· simp)) | ((refine vS rfl rfl ?_ rfl rfl ?_); (· simp)) | ((refine ra53 rfl rfl ?_ rfl rfl ?_); (· simp)) | ((refine xH hGF rfl rfl rfl ?_ ?_ (ak _) rfl ?_); (· simp); (· simp)) | ((refine xS hGF rfl rfl rfl ?_ ?_ (ak _) rfl ?_); (· simp); (· simp)) | ((refine o8 hGF rfl rfl rfl ?_ ?_ (ak _) rfl ?_); (· simp); (· simp)) | ((refine sa44 hGF rfl rfl rfl ?_ ?_ (ak _) rfl ?_); (· simp); (· simp)) | refine bP (f := 13) rfl rfl ent13 (J2.nA) rfl rfl ?_ | refine bP (f := 11) rfl rfl ent11 (J1.nA) rfl rfl ?_ | refine bP (f := 17) rfl rfl ent17 (refs11 LL) rfl rfl ?_ | refine bP (f := 22) rfl rfl ent22 (iy) rfl rfl ?_ | refine bP (f := 15) rfl rfl ent15 (J1.F5) rfl rfl ?_ | refine fD rfl rfl rfl rfl rfl ?_)); (first | refine cn ?_ | refine LY.mk ?_); exact k) : P := h k
theorem pTM {Q P : Prop} (k : Q) (h : Q → P := by intro k; (refine xp ?_); (refine rTM ?_); exact k) : P := h k

namespace Q6
theorem wp (E : W12) (hE : Pure Tryz.prog Gt 18 [J1.PtV J1.gGen, J2.PtV J2.gGen] (bu E)) (h0 : ¬ E = K12.zero) (h1 : ¬ E = K12.one) (hI : Pure Tryz.prog Gt 18 [J1.PtV J1.gInf, J2.PtV J2.gGen] (bu K12.one)) (hK1 : ∀ (d : Nat) (w' : World), Gt w' → w'.rangeAt d 0 ((PRv (J1.gGen, J2.gGen)).map U64) → Calls Tryz.prog 38 [.slice (some ⟨d, 0, none⟩) 1 1].toArray w' (fun y w'' => y = .returned (.bool false) ∧ Grow w' w'')) (hK0 : ∀ w', Gt w' → Calls Tryz.prog 38 [.slice none 0 0].toArray w' (fun y w'' => y = .returned (.bool true) ∧ Grow w' w'')) : Pure Tryz.prog Gt 10 [] (.bool true) := by
 refine a7 Tryz.func10 fun w hw hGF => ?_
 refine pTM ?_
 refine pTM ?_
 refine lc ent18 (hE) ?_
 refine la zv49 fun b1 => ?_
 refine rTM ?_
 refine pTM ?_
 refine dw lx rfl rfl (by simp) (by simp) rfl rfl ?_
 refine eG 9 ((PRv (J1.gGen, J2.gGen)).map U64) hGF rfl (by simp) (by decide) (by decide) Tryz.underlying75 Tryz.sizeOf77 zv77 rfl rfl ?_
 intro b9
 refine rTM ?_
 refine bl (E := EE []) bi (by kernel_rfl) (by kernel_rfl) (by kernel_rfl) ?_
 refine rTM ?_
 refine eo false rfl rfl ent26 (iI E) (decide_eq_false h0) rfl rfl ?_
 refine bH rfl (fun _ => bt _) rfl rfl ?_
 refine rTM ?_
 refine eo false rfl rfl ent33 (gq _ _) (decide_eq_false h1) rfl rfl ?_
 refine bH rfl (fun _ => bt _) rfl rfl ?_
 refine rTM ?_
 refine bz rfl rfl ent38 (fun w' hC hG => hK1 b9 w' hG (cx (n := 9) rfl w' hC)) rfl rfl ?_
 refine bH rfl (fun _ => bt _) rfl rfl ?_
 refine rTM ?_
 refine bz rfl rfl ent38 (fun w' hC hG => hK0 w' hG) rfl rfl ?_
 refine rTM ?_
 refine lc ent18 (hI) ?_
 refine rTM ?_
 refine eo true rfl rfl ent33 (gq _ _) (decide_eq_true rfl) rfl rfl ?_
 refine rTM ?_
 refine rt ?_
 exact aV rfl rfl (fun w hw => ⟨rfl, ac hw⟩)
theorem jo : E2w.times J2.gGen.P ORD = none := fY
theorem uJ : PR L63 FE J1.gGen.P J2.gGen.P = EG := by rw [EG, show J1.gGen.P = some G1p from rfl, show J2.gGen.P = some G2p from rfl]
theorem yI : Pure Tryz.prog Gt 10 [] (.bool true) := by
 have hE := z5 J1.gGen J2.gGen jo
 rw [uJ] at hE
 refine wp EG hE G9 tW ?_ (fun d w' hG hr => ?_) jQ
 ·have k := z5 J1.gInf J2.gGen jo
  rw [show J1.gInf.P = none from rfl, EH] at k
  exact k
 ·have k := tC 1 (fun _ => (J1.gGen, J2.gGen)) d 1 (by decide) (fun _ _ => jo) w' hG (by rw [wA]; exact hr)
  rw [PRN, PRN, K12.one_mul, uJ, decide_eq_false tW] at k
  exact k
end Q6
end Go.Proofs.YtpnpiblphnpfiaaGreatDoor
