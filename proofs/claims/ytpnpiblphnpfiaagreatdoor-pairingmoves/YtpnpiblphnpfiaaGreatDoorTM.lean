/-
 What is known of layer 12; the law PairingIs.
-/
import Derived.Test.YtpnpiblphnpfiaaGreatDoorTL
import Derived.Test.YtpnpiblphnpfiaaGreatDoorX5
namespace Go.Proofs.YtpnpiblphnpfiaaGreatDoor
open Go.RowKit
set_option maxRecDepth 100000
set_option maxHeartbeats 1000000
attribute [local simp] aN aY aI aF ay a5 aD aB aC PLl bX bT N1l ca bU bV aQ aX aJ aU aV J1.aZ J2.aZ Q6.bO Q6.bY
theorem rTM {Q P : Prop} (k : Q) (h : Q → P := by intro k; (refine LY.run ?_); (repeat (first | refine bK rfl rfl rfl ?_ | refine bh rfl rfl rfl ?_ | ((refine xT rfl rfl ?_ rfl rfl ?_); (· simp)) | ((refine v9 rfl rfl ?_ rfl rfl ?_); (· simp)) | ((refine wx rfl rfl ?_ rfl rfl ?_); (· simp)) | ((refine ra53 rfl rfl ?_ rfl rfl ?_); (· simp)) | ((refine xV hGF rfl rfl rfl ?_ ?_ (ak _) rfl ?_); (· simp); (· simp)) | ((refine wz hGF rfl rfl rfl ?_ ?_ (ak _) rfl ?_); (· simp); (· simp)) | ((refine o6 hGF rfl rfl rfl ?_ ?_ (ak _) rfl ?_); (· simp); (· simp)) | ((refine sa44 hGF rfl rfl rfl ?_ ?_ (ak _) rfl ?_); (· simp); (· simp)) | refine bN (f := 13) rfl rfl ent13 (J2.oE) rfl rfl ?_ | refine bN (f := 11) rfl rfl ent11 (J1.oE) rfl rfl ?_ | refine bN (f := 17) rfl rfl ent17 (refs11 LL) rfl rfl ?_ | refine bN (f := 22) rfl rfl ent22 (iF) rfl rfl ?_ | refine bN (f := 15) rfl rfl ent15 (J1.EN) rfl rfl ?_ | refine fK rfl rfl rfl rfl rfl ?_)); (first | refine ch ?_ | refine LY.mk ?_); exact k) : P := h k
theorem pTM {Q P : Prop} (k : Q) (h : Q → P := by intro k; (refine xp ?_); (refine rTM ?_); exact k) : P := h k

namespace Q6
theorem tr (E : W12) (hE : Pure Tryz.prog Gt 18 [J1.PtV J1.gGen, J2.PtV J2.gGen] (bw E)) (h0 : ¬ E = K12.zero) (h1 : ¬ E = K12.one) (hI : Pure Tryz.prog Gt 18 [J1.PtV J1.gInf, J2.PtV J2.gGen] (bw K12.one)) (hK1 : ∀ (d : Nat) (w' : World), Gt w' → w'.rangeAt d 0 ((PRv (J1.gGen, J2.gGen)).map U64) → Calls Tryz.prog 38 [.slice (some ⟨d, 0, none⟩) 1 1].toArray w' (fun y w'' => y = .returned (.bool false) ∧ Grow w' w'')) (hK0 : ∀ w', Gt w' → Calls Tryz.prog 38 [.slice none 0 0].toArray w' (fun y w'' => y = .returned (.bool true) ∧ Grow w' w'')) : Pure Tryz.prog Gt 10 [] (.bool true) := by
 refine bc Tryz.func10 fun w hw hGF => ?_
 refine pTM ?_
 refine pTM ?_
 refine lc ent18 (hE) ?_
 refine la zv49 fun b1 => ?_
 refine rTM ?_
 refine pTM ?_
 refine dd i2 rfl rfl (by simp) (by simp) rfl rfl ?_
 refine jP 9 ((PRv (J1.gGen, J2.gGen)).map U64) hGF rfl (by simp) (by decide) (by decide) Tryz.underlying75 Tryz.sizeOf77 zv77 rfl rfl ?_
 intro b9
 refine rTM ?_
 refine bt (E := EE []) bq (by kernel_rfl) (by kernel_rfl) (by kernel_rfl) ?_
 refine rTM ?_
 refine cE false rfl rfl ent26 (iS E) (decide_eq_false h0) rfl rfl ?_
 refine bD rfl (fun _ => bi _) rfl rfl ?_
 refine rTM ?_
 refine cE false rfl rfl ent33 (gq _ _) (decide_eq_false h1) rfl rfl ?_
 refine bD rfl (fun _ => bi _) rfl rfl ?_
 refine rTM ?_
 refine bf rfl rfl ent38 (fun w' hC hG => hK1 b9 w' hG (cB (n := 9) rfl w' hC)) rfl rfl ?_
 refine bD rfl (fun _ => bi _) rfl rfl ?_
 refine rTM ?_
 refine bf rfl rfl ent38 (fun w' hC hG => hK0 w' hG) rfl rfl ?_
 refine rTM ?_
 refine lc ent18 (hI) ?_
 refine rTM ?_
 refine cE true rfl rfl ent33 (gq _ _) (decide_eq_true rfl) rfl rfl ?_
 refine rTM ?_
 refine rt ?_
 exact a6 rfl rfl (fun w hw => ⟨rfl, ah hw⟩)
theorem mM : E2w.times J2.gGen.P ORD = none := dR
theorem wQ : PR L63 FE J1.gGen.P J2.gGen.P = EG := by rw [EG, show J1.gGen.P = some G1p from rfl, show J2.gGen.P = some G2p from rfl]
theorem yc : Pure Tryz.prog Gt 10 [] (.bool true) := by
 have hE := AI J1.gGen J2.gGen mM
 rw [wQ] at hE
 refine tr EG hE G6 wZ ?_ (fun d w' hG hr => ?_) qi
 ·have k := AI J1.gInf J2.gGen mM
  rw [show J1.gInf.P = none from rfl, zY] at k
  exact k
 ·have k := wd 1 (fun _ => (J1.gGen, J2.gGen)) d 1 (by decide) (fun _ _ => mM) w' hG (by rw [uy]; exact hr)
  rw [PRN, PRN, K12.one_mul, wQ, decide_eq_false wZ] at k
  exact k
end Q6
end Go.Proofs.YtpnpiblphnpfiaaGreatDoor
