/-
 What is known of layer 12; the law PairingIs.
-/
import Derived.Test.YtpnpiblphnpfiaaGreatDoorTL
import Derived.Test.YtpnpiblphnpfiaaGreatDoorX5
namespace Go.Proofs.YtpnpiblphnpfiaaGreatDoor
open Go.RowKit
set_option maxRecDepth 100000
set_option maxHeartbeats 1000000
attribute [local simp] aZ bk aF aA aN aW aL aK aR PLl cw cu N1l cv cx cy bh bl aX bi a9 J1.bv J2.bv Q6.cF Q6.dx
theorem rTM {Q P : Prop} (k : Q) (h : Q → P := by intro k; (refine LY.run ?_); (repeat (first | refine bC rfl rfl rfl ?_ | refine bc rfl rfl rfl ?_ | ((refine C8 rfl rfl ?_ rfl rfl ?_); (· simp)) | ((refine Ct rfl rfl ?_ rfl rfl ?_); (· simp)) | ((refine ra53 rfl rfl ?_ rfl rfl ?_); (· simp)) | ((refine sE rfl rfl ?_ rfl rfl ?_); (· simp)) | ((refine FA hGF rfl rfl rfl ?_ ?_ (ak _) rfl ?_); (· simp); (· simp)) | ((refine FU hGF rfl rfl rfl ?_ ?_ (ak _) rfl ?_); (· simp); (· simp)) | ((refine n9 hGF rfl rfl rfl ?_ ?_ (ak _) rfl ?_); (· simp); (· simp)) | ((refine vA hGF rfl rfl rfl ?_ ?_ (ak _) rfl ?_); (· simp); (· simp)) | refine bz (f := 13) rfl rfl ent13 (J2.tg) rfl rfl ?_ | refine bz (f := 11) rfl rfl ent11 (J1.tg) rfl rfl ?_ | refine bz (f := 17) rfl rfl ent17 (mV LL) rfl rfl ?_ | refine bz (f := 15) rfl rfl ent15 (J1.z8) rfl rfl ?_ | refine bz (f := 22) rfl rfl ent22 (gU) rfl rfl ?_ | refine i1 rfl rfl rfl rfl rfl ?_)); (first | refine bZ ?_ | refine LY.mk ?_); exact k) : P := h k
theorem pTM {Q P : Prop} (k : Q) (h : Q → P := by intro k; (refine xp ?_); (refine rTM ?_); exact k) : P := h k

namespace Q6
theorem tM (E : W12) (hE : Pure Tryz.prog Gt 18 [J1.PtV J1.gGen, J2.PtV J2.gGen] (bu E)) (h0 : ¬ E = K12.zero) (h1 : ¬ E = K12.one) (hI : Pure Tryz.prog Gt 18 [J1.PtV J1.gInf, J2.PtV J2.gGen] (bu K12.one)) (hK1 : ∀ (d : Nat) (w' : World), Gt w' → w'.rangeAt d 0 ((PRv (J1.gGen, J2.gGen)).map U64) → Calls Tryz.prog 38 [.slice (some ⟨d, 0, none⟩) 1 1].toArray w' (fun y w'' => y = .returned (.bool false) ∧ Grow w' w'')) (hK0 : ∀ w', Gt w' → Calls Tryz.prog 38 [.slice none 0 0].toArray w' (fun y w'' => y = .returned (.bool true) ∧ Grow w' w'')) : Pure Tryz.prog Gt 10 [] (.bool true) := by
 refine aU Tryz.func10 fun w hw hGF => ?_
 refine pTM ?_
 refine pTM ?_
 refine lc ent18 (hE) ?_
 refine la zv49 fun b1 => ?_
 refine rTM ?_
 refine pTM ?_
 refine eG Aa rfl rfl (by simp) (by simp) rfl rfl ?_
 refine jZ 9 ((PRv (J1.gGen, J2.gGen)).map U64) hGF rfl (by simp) (by decide) (by decide) Tryz.underlying75 Tryz.sizeOf77 zv77 rfl rfl ?_
 intro b9
 refine rTM ?_
 refine bx (E := EE []) a7 (by kernel_rfl) (by kernel_rfl) (by kernel_rfl) ?_
 refine rTM ?_
 refine dX false rfl rfl ent26 (gE E) (decide_eq_false h0) rfl rfl ?_
 refine bX rfl (fun _ => bH _) rfl rfl ?_
 refine rTM ?_
 refine dX false rfl rfl ent33 (f9 _ _) (decide_eq_false h1) rfl rfl ?_
 refine bX rfl (fun _ => bH _) rfl rfl ?_
 refine rTM ?_
 refine bR rfl rfl ent38 (fun w' hC hG => hK1 b9 w' hG (cG (n := 9) rfl w' hC)) rfl rfl ?_
 refine bX rfl (fun _ => bH _) rfl rfl ?_
 refine rTM ?_
 refine bR rfl rfl ent38 (fun w' hC hG => hK0 w' hG) rfl rfl ?_
 refine rTM ?_
 refine lc ent18 (hI) ?_
 refine rTM ?_
 refine dX true rfl rfl ent33 (f9 _ _) (decide_eq_true rfl) rfl rfl ?_
 refine rTM ?_
 refine rt ?_
 exact bj rfl rfl (fun w hw => ⟨rfl, ah hw⟩)
theorem m9 : E2w.times J2.gGen.P ORD = none := wl
theorem uY : PR L63 FE J1.gGen.P J2.gGen.P = EG := by rw [EG, show J1.gGen.P = some G1p from rfl, show J2.gGen.P = some G2p from rfl]
theorem zh : Pure Tryz.prog Gt 10 [] (.bool true) := by
 have hE := AI J1.gGen J2.gGen m9
 rw [uY] at hE
 refine tM EG hE Gl AC ?_ (fun d w' hG hr => ?_) p9
 ·have k := AI J1.gInf J2.gGen m9
  rw [show J1.gInf.P = none from rfl, Gv] at k
  exact k
 ·have k := BT 1 (fun _ => (J1.gGen, J2.gGen)) d 1 (by decide) (fun _ _ => m9) w' hG (by rw [ww]; exact hr)
  rw [PRN, PRN, K12.one_mul, uY, decide_eq_false AC] at k
  exact k
end Q6
end Go.Proofs.YtpnpiblphnpfiaaGreatDoor
