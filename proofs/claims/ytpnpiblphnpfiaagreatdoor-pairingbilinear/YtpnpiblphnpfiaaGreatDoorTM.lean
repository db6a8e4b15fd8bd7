/-
 What is known of layer 12; the law PairingIs.
-/
import Derived.Test.YtpnpiblphnpfiaaGreatDoorTL
import Derived.Test.YtpnpiblphnpfiaaGreatDoorX5
namespace Go.Proofs.YtpnpiblphnpfiaaGreatDoor
open Go.RowKit
set_option maxRecDepth 100000
set_option maxHeartbeats 1000000
attribute [local simp] aP bc aM aH aA a9 aF aE aG PLl bY ca N1l cb cf bZ aU ba aN aZ a7 J1.bk J2.bk Q6.bX Q6.dd
theorem rTM {Q P : Prop} (k : Q) (h : Q → P := by intro k; (refine LY.run ?_); (repeat (first | refine bI rfl rfl rfl ?_ | refine bd rfl rfl rfl ?_ | ((refine wE rfl rfl ?_ rfl rfl ?_); (· simp)) | ((refine wJ rfl rfl ?_ rfl rfl ?_); (· simp)) | ((refine pF rfl rfl ?_ rfl rfl ?_); (· simp)) | ((refine ra53 rfl rfl ?_ rfl rfl ?_); (· simp)) | ((refine wO hGF rfl rfl rfl ?_ ?_ (ak _) rfl ?_); (· simp); (· simp)) | ((refine u0 hGF rfl rfl rfl ?_ ?_ (ak _) rfl ?_); (· simp); (· simp)) | ((refine na hGF rfl rfl rfl ?_ ?_ (ak _) rfl ?_); (· simp); (· simp)) | ((refine sa44 hGF rfl rfl rfl ?_ ?_ (ak _) rfl ?_); (· simp); (· simp)) | refine bT (f := 13) rfl rfl ent13 (J2.nq) rfl rfl ?_ | refine bT (f := 11) rfl rfl ent11 (J1.nq) rfl rfl ?_ | refine bT (f := 17) rfl rfl ent17 (refs11 LL) rfl rfl ?_ | refine bT (f := 22) rfl rfl ent22 (gR) rfl rfl ?_ | refine bT (f := 15) rfl rfl ent15 (J1.GY) rfl rfl ?_ | refine fI rfl rfl rfl rfl rfl ?_)); (first | refine cm ?_ | refine LY.mk ?_); exact k) : P := h k
theorem pTM {Q P : Prop} (k : Q) (h : Q → P := by intro k; (refine xp ?_); (refine rTM ?_); exact k) : P := h k

namespace Q6
theorem xi (E : W12) (hE : Pure Tryz.prog Gt 18 [J1.PtV J1.gGen, J2.PtV J2.gGen] (bg E)) (h0 : ¬ E = K12.zero) (h1 : ¬ E = K12.one) (hI : Pure Tryz.prog Gt 18 [J1.PtV J1.gInf, J2.PtV J2.gGen] (bg K12.one)) (hK1 : ∀ (d : Nat) (w' : World), Gt w' → w'.rangeAt d 0 ((PRv (J1.gGen, J2.gGen)).map U64) → Calls Tryz.prog 38 [.slice (some ⟨d, 0, none⟩) 1 1].toArray w' (fun y w'' => y = .returned (.bool false) ∧ Grow w' w'')) (hK0 : ∀ w', Gt w' → Calls Tryz.prog 38 [.slice none 0 0].toArray w' (fun y w'' => y = .returned (.bool true) ∧ Grow w' w'')) : Pure Tryz.prog Gt 10 [] (.bool true) := by
 refine a8 Tryz.func10 fun w hw hGF => ?_
 refine pTM ?_
 refine pTM ?_
 refine lc ent18 (hE) ?_
 refine la zv49 fun b1 => ?_
 refine rTM ?_
 refine pTM ?_
 refine fM A2 rfl rfl (by simp) (by simp) rfl rfl ?_
 refine ka 9 ((PRv (J1.gGen, J2.gGen)).map U64) hGF rfl (by simp) (by decide) (by decide) Tryz.underlying75 Tryz.sizeOf77 zv77 rfl rfl ?_
 intro b9
 refine rTM ?_
 refine bw (E := EE []) bq (by kernel_rfl) (by kernel_rfl) (by kernel_rfl) ?_
 refine rTM ?_
 refine da false rfl rfl ent26 (iR E) (decide_eq_false h0) rfl rfl ?_
 refine bx rfl (fun _ => bf _) rfl rfl ?_
 refine rTM ?_
 refine da false rfl rfl ent33 (dJ _ _) (decide_eq_false h1) rfl rfl ?_
 refine bx rfl (fun _ => bf _) rfl rfl ?_
 refine rTM ?_
 refine bE rfl rfl ent38 (fun w' hC hG => hK1 b9 w' hG (cK (n := 9) rfl w' hC)) rfl rfl ?_
 refine bx rfl (fun _ => bf _) rfl rfl ?_
 refine rTM ?_
 refine bE rfl rfl ent38 (fun w' hC hG => hK0 w' hG) rfl rfl ?_
 refine rTM ?_
 refine lc ent18 (hI) ?_
 refine rTM ?_
 refine da true rfl rfl ent33 (dJ _ _) (decide_eq_true rfl) rfl rfl ?_
 refine rTM ?_
 refine rt ?_
 exact a5 rfl rfl (fun w hw => ⟨rfl, ah hw⟩)
theorem mF : E2w.times J2.gGen.P ORD = none := jQ
theorem wY : PR L63 FE J1.gGen.P J2.gGen.P = EG := by rw [EG, show J1.gGen.P = some G1p from rfl, show J2.gGen.P = some G2p from rfl]
theorem zz : Pure Tryz.prog Gt 10 [] (.bool true) := by
 have hE := kO J1.gGen J2.gGen mF
 rw [wY] at hE
 refine xi EG hE Ft Aq ?_ (fun d w' hG hr => ?_) pj
 ·have k := kO J1.gInf J2.gGen mF
  rw [show J1.gInf.P = none from rfl, G7] at k
  exact k
 ·have k := D0 1 (fun _ => (J1.gGen, J2.gGen)) d 1 (by decide) (fun _ _ => mF) w' hG (by rw [vg]; exact hr)
  rw [PRN, PRN, K12.one_mul, wY, decide_eq_false Aq] at k
  exact k
end Q6
end Go.Proofs.YtpnpiblphnpfiaaGreatDoor
