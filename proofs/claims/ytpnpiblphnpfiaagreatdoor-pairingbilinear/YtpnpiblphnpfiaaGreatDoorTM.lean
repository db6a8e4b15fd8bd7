/-
 What is known of layer 12; the law PairingIs.
-/
import Derived.Test.YtpnpiblphnpfiaaGreatDoorTL
import Derived.Test.YtpnpiblphnpfiaaGreatDoorX5
namespace Go.Proofs.YtpnpiblphnpfiaaGreatDoor
open Go.RowKit
set_option maxRecDepth 100000
set_option maxHeartbeats 1000000
attribute [local simp] aP ba aM aH aA a8 aF aE aG PLl bX cd N1l bZ bY ce aU a9 aO aY a6 J1.bi J2.bi Q6.ca Q6.db
theorem rTM {Q P : Prop} (k : Q) (h : Q → P := by intro k; (refine LY.run ?_); (repeat (first | refine bI rfl rfl rfl ?_ | refine bc rfl rfl rfl ?_ | ((refine vG rfl rfl ?_ rfl rfl ?_); (· simp)) | ((refine wM rfl rfl ?_ rfl rfl ?_); (· simp)) | ((refine o0 rfl rfl ?_ rfl rfl ?_); (· simp)) | ((refine ra53 rfl rfl ?_ rfl rfl ?_); (· simp)) | ((refine uT hGF rfl rfl rfl ?_ ?_ (ak _) rfl ?_); (· simp); (· simp)) | ((refine vI hGF rfl rfl rfl ?_ ?_ (ak _) rfl ?_); (· simp); (· simp)) | ((refine mY hGF rfl rfl rfl ?_ ?_ (ak _) rfl ?_); (· simp); (· simp)) | ((refine sa44 hGF rfl rfl rfl ?_ ?_ (ak _) rfl ?_); (· simp); (· simp)) | refine bS (f := 13) rfl rfl ent13 (J2.nA) rfl rfl ?_ | refine bS (f := 11) rfl rfl ent11 (J1.nA) rfl rfl ?_ | refine bS (f := 17) rfl rfl ent17 (refs11 LL) rfl rfl ?_ | refine bS (f := 22) rfl rfl ent22 (gQ) rfl rfl ?_ | refine bS (f := 15) rfl rfl ent15 (J1.Fp) rfl rfl ?_ | refine fG rfl rfl rfl rfl rfl ?_)); (first | refine cg ?_ | refine LY.mk ?_); exact k) : P := h k
theorem pTM {Q P : Prop} (k : Q) (h : Q → P := by intro k; (refine xp ?_); (refine rTM ?_); exact k) : P := h k

namespace Q6
theorem vl (E : W12) (hE : Pure Tryz.prog Gt 18 [J1.PtV J1.gGen, J2.PtV J2.gGen] (bg E)) (h0 : ¬ E = K12.zero) (h1 : ¬ E = K12.one) (hI : Pure Tryz.prog Gt 18 [J1.PtV J1.gInf, J2.PtV J2.gGen] (bg K12.one)) (hK1 : ∀ (d : Nat) (w' : World), Gt w' → w'.rangeAt d 0 ((PRv (J1.gGen, J2.gGen)).map U64) → Calls Tryz.prog 38 [.slice (some ⟨d, 0, none⟩) 1 1].toArray w' (fun y w'' => y = .returned (.bool false) ∧ Grow w' w'')) (hK0 : ∀ w', Gt w' → Calls Tryz.prog 38 [.slice none 0 0].toArray w' (fun y w'' => y = .returned (.bool true) ∧ Grow w' w'')) : Pure Tryz.prog Gt 10 [] (.bool true) := by
 refine a7 Tryz.func10 fun w hw hGF => ?_
 refine pTM ?_
 refine pTM ?_
 refine lc ent18 (hE) ?_
 refine la zv49 fun b1 => ?_
 refine rTM ?_
 refine pTM ?_
 refine fN AF rfl rfl (by simp) (by simp) rfl rfl ?_
 refine k8 9 ((PRv (J1.gGen, J2.gGen)).map U64) hGF rfl (by simp) (by decide) (by decide) Tryz.underlying75 Tryz.sizeOf77 zv77 rfl rfl ?_
 intro b9
 refine rTM ?_
 refine bx (E := EE []) bq (by kernel_rfl) (by kernel_rfl) (by kernel_rfl) ?_
 refine rTM ?_
 refine c9 false rfl rfl ent26 (iU E) (decide_eq_false h0) rfl rfl ?_
 refine bw rfl (fun _ => bd _) rfl rfl ?_
 refine rTM ?_
 refine c9 false rfl rfl ent33 (dQ _ _) (decide_eq_false h1) rfl rfl ?_
 refine bw rfl (fun _ => bd _) rfl rfl ?_
 refine rTM ?_
 refine bE rfl rfl ent38 (fun w' hC hG => hK1 b9 w' hG (cP (n := 9) rfl w' hC)) rfl rfl ?_
 refine bw rfl (fun _ => bd _) rfl rfl ?_
 refine rTM ?_
 refine bE rfl rfl ent38 (fun w' hC hG => hK0 w' hG) rfl rfl ?_
 refine rTM ?_
 refine lc ent18 (hI) ?_
 refine rTM ?_
 refine c9 true rfl rfl ent33 (dQ _ _) (decide_eq_true rfl) rfl rfl ?_
 refine rTM ?_
 refine rt ?_
 exact aZ rfl rfl (fun w hw => ⟨rfl, ah hw⟩)
theorem mp : E2w.times J2.gGen.P ORD = none := ld
theorem vu : PR L63 FE J1.gGen.P J2.gGen.P = EG := by rw [EG, show J1.gGen.P = some G1p from rfl, show J2.gGen.P = some G2p from rfl]
theorem zh : Pure Tryz.prog Gt 10 [] (.bool true) := by
 have hE := jH J1.gGen J2.gGen mp
 rw [vu] at hE
 refine vl EG hE G4 zM ?_ (fun d w' hG hr => ?_) o7
 ·have k := jH J1.gInf J2.gGen mp
  rw [show J1.gInf.P = none from rfl, EB] at k
  exact k
 ·have k := DD 1 (fun _ => (J1.gGen, J2.gGen)) d 1 (by decide) (fun _ _ => mp) w' hG (by rw [wX]; exact hr)
  rw [PRN, PRN, K12.one_mul, vu, decide_eq_false zM] at k
  exact k
end Q6
end Go.Proofs.YtpnpiblphnpfiaaGreatDoor
