/-
 What is known of layer 12; the law PairingIs.
-/
import Derived.Test.YtpnpiblphnpfiaaGreatDoorTL
import Derived.Test.YtpnpiblphnpfiaaGreatDoorX5
namespace Go.Proofs.YtpnpiblphnpfiaaGreatDoor
open Go.RowKit
set_option maxRecDepth 100000
set_option maxHeartbeats 1000000
attribute [local simp] aO aZ aJ aF ay aY aE aB aD PLl bY ca N1l bZ bU cb aU a5 aI aV aQ J1.a6 J2.a6 Q6.bN Q6.bV
theorem rTM {Q P : Prop} (k : Q) (h : Q → P := by intro k; (refine LY.run ?_); (repeat (first | refine bK rfl rfl rfl ?_ | refine bi rfl rfl rfl ?_ | ((refine yA rfl rfl ?_ rfl rfl ?_); (· simp)) | ((refine tL rfl rfl ?_ rfl rfl ?_); (· simp)) | ((refine wa rfl rfl ?_ rfl rfl ?_); (· simp)) | ((refine ra53 rfl rfl ?_ rfl rfl ?_); (· simp)) | ((refine yU hGF rfl rfl rfl ?_ ?_ (ak _) rfl ?_); (· simp); (· simp)) | ((refine vI hGF rfl rfl rfl ?_ ?_ (ak _) rfl ?_); (· simp); (· simp)) | ((refine pj hGF rfl rfl rfl ?_ ?_ (ak _) rfl ?_); (· simp); (· simp)) | ((refine sa44 hGF rfl rfl rfl ?_ ?_ (ak _) rfl ?_); (· simp); (· simp)) | refine bQ (f := 13) rfl rfl ent13 (J2.n4) rfl rfl ?_ | refine bQ (f := 11) rfl rfl ent11 (J1.n4) rfl rfl ?_ | refine bQ (f := 17) rfl rfl ent17 (D7 LL) rfl rfl ?_ | refine bQ (f := 22) rfl rfl ent22 (iX) rfl rfl ?_ | refine bQ (f := 15) rfl rfl ent15 (J1.AH) rfl rfl ?_ | refine fI rfl rfl rfl rfl rfl ?_)); (first | refine ci ?_ | refine LY.mk ?_); exact k) : P := h k
theorem pTM {Q P : Prop} (k : Q) (h : Q → P := by intro k; (refine xp ?_); (refine rTM ?_); exact k) : P := h k

namespace Q6
theorem v5 (E : W12) (hE : Pure Tryz.prog Gt 18 [J1.PtV J1.gGen, J2.PtV J2.gGen] (bt E)) (h0 : ¬ E = K12.zero) (h1 : ¬ E = K12.one) (hI : Pure Tryz.prog Gt 18 [J1.PtV J1.gInf, J2.PtV J2.gGen] (bt K12.one)) (hK1 : ∀ (d : Nat) (w' : World), Gt w' → w'.rangeAt d 0 ((PRv (J1.gGen, J2.gGen)).map U64) → Calls Tryz.prog 38 [.slice (some ⟨d, 0, none⟩) 1 1].toArray w' (fun y w'' => y = .returned (.bool false) ∧ Grow w' w'')) (hK0 : ∀ w', Gt w' → Calls Tryz.prog 38 [.slice none 0 0].toArray w' (fun y w'' => y = .returned (.bool true) ∧ Grow w' w'')) : Pure Tryz.prog Gt 10 [] (.bool true) := by
 refine bd Tryz.func10 fun w hw hGF => ?_
 refine pTM ?_
 refine pTM ?_
 refine lc ent18 (hE) ?_
 refine la zv49 fun b1 => ?_
 refine rTM ?_
 refine pTM ?_
 refine db je rfl rfl (by simp) (by simp) rfl rfl ?_
 refine kO 9 ((PRv (J1.gGen, J2.gGen)).map U64) hGF rfl (by simp) (by decide) (by decide) Tryz.underlying75 Tryz.sizeOf77 zv77 rfl rfl ?_
 intro b9
 refine rTM ?_
 refine bu (E := EE []) bq (by kernel_rfl) (by kernel_rfl) (by kernel_rfl) ?_
 refine rTM ?_
 refine cE false rfl rfl ent26 (iW E) (decide_eq_false h0) rfl rfl ?_
 refine bz rfl (fun _ => bj _) rfl rfl ?_
 refine rTM ?_
 refine cE false rfl rfl ent33 (f8 _ _) (decide_eq_false h1) rfl rfl ?_
 refine bz rfl (fun _ => bj _) rfl rfl ?_
 refine rTM ?_
 refine bh rfl rfl ent38 (fun w' hC hG => hK1 b9 w' hG (cC (n := 9) rfl w' hC)) rfl rfl ?_
 refine bz rfl (fun _ => bj _) rfl rfl ?_
 refine rTM ?_
 refine bh rfl rfl ent38 (fun w' hC hG => hK0 w' hG) rfl rfl ?_
 refine rTM ?_
 refine lc ent18 (hI) ?_
 refine rTM ?_
 refine cE true rfl rfl ent33 (f8 _ _) (decide_eq_true rfl) rfl rfl ?_
 refine rTM ?_
 refine rt ?_
 exact aX rfl rfl (fun w hw => ⟨rfl, ah hw⟩)
theorem mW : E2w.times J2.gGen.P ORD = none := dU
theorem xd : PR L63 FE J1.gGen.P J2.gGen.P = EG := by rw [EG, show J1.gGen.P = some G1p from rfl, show J2.gGen.P = some G2p from rfl]
theorem zk : Pure Tryz.prog Gt 10 [] (.bool true) := by
 have hE := At J1.gGen J2.gGen mW
 rw [xd] at hE
 refine v5 EG hE EJ uE ?_ (fun d w' hG hr => ?_) pT
 ·have k := At J1.gInf J2.gGen mW
  rw [show J1.gInf.P = none from rfl, z9] at k
  exact k
 ·have k := tR 1 (fun _ => (J1.gGen, J2.gGen)) d 1 (by decide) (fun _ _ => mW) w' hG (by rw [tg]; exact hr)
  rw [PRN, PRN, K12.one_mul, xd, decide_eq_false uE] at k
  exact k
end Q6
end Go.Proofs.YtpnpiblphnpfiaaGreatDoor
