/-
 What is known of layer 12; the law PairingIs.
-/
import Derived.Test.YtpnpiblphnpfiaaGreatDoorTL
import Derived.Test.YtpnpiblphnpfiaaGreatDoorX5
namespace Go.Proofs.YtpnpiblphnpfiaaGreatDoor
open Go.RowKit
set_option maxRecDepth 100000
set_option maxHeartbeats 1000000
attribute [local simp] a6 bq aH aB aP aZ aO aM aT PLl cB cC N1l cH cG cz bk br a5 bn bd J1.bC J2.bC Q6.cK Q6.da
theorem rTM {Q P : Prop} (k : Q) (h : Q → P := by intro k; (refine LY.run ?_); (repeat (first | refine bH rfl rfl rfl ?_ | refine bc rfl rfl rfl ?_ | ((refine we rfl rfl ?_ rfl rfl ?_); (· simp)) | ((refine vJ rfl rfl ?_ rfl rfl ?_); (· simp)) | ((refine ra53 rfl rfl ?_ rfl rfl ?_); (· simp)) | ((refine ub rfl rfl ?_ rfl rfl ?_); (· simp)) | ((refine A1 hGF rfl rfl rfl ?_ ?_ (ak _) rfl ?_); (· simp); (· simp)) | ((refine Aa hGF rfl rfl rfl ?_ ?_ (ak _) rfl ?_); (· simp); (· simp)) | ((refine pP hGF rfl rfl rfl ?_ ?_ (ak _) rfl ?_); (· simp); (· simp)) | ((refine v9 hGF rfl rfl rfl ?_ ?_ (ak _) rfl ?_); (· simp); (· simp)) | refine bw (f := 13) rfl rfl ent13 (J2.o9) rfl rfl ?_ | refine bw (f := 11) rfl rfl ent11 (J1.o9) rfl rfl ?_ | refine bw (f := 17) rfl rfl ent17 (yG LL) rfl rfl ?_ | refine bw (f := 15) rfl rfl ent15 (J1.Cg) rfl rfl ?_ | refine bw (f := 22) rfl rfl ent22 (jy) rfl rfl ?_ | refine go rfl rfl rfl rfl rfl ?_)); (first | refine bY ?_ | refine LY.mk ?_); exact k) : P := h k
theorem pTM {Q P : Prop} (k : Q) (h : Q → P := by intro k; (refine xp ?_); (refine rTM ?_); exact k) : P := h k

namespace Q6
theorem wv (E : W12) (hE : Pure Tryz.prog Gt 18 [J1.PtV J1.gGen, J2.PtV J2.gGen] (bE E)) (h0 : ¬ E = K12.zero) (h1 : ¬ E = K12.one) (hI : Pure Tryz.prog Gt 18 [J1.PtV J1.gInf, J2.PtV J2.gGen] (bE K12.one)) (hK1 : ∀ (d : Nat) (w' : World), Gt w' → w'.rangeAt d 0 ((PRv (J1.gGen, J2.gGen)).map U64) → Calls Tryz.prog 38 [.slice (some ⟨d, 0, none⟩) 1 1].toArray w' (fun y w'' => y = .returned (.bool false) ∧ Grow w' w'')) (hK0 : ∀ w', Gt w' → Calls Tryz.prog 38 [.slice none 0 0].toArray w' (fun y w'' => y = .returned (.bool true) ∧ Grow w' w'')) : Pure Tryz.prog Gt 10 [] (.bool true) := by
 refine aR Tryz.func10 fun w hw hGF => ?_
 refine pTM ?_
 refine pTM ?_
 refine lc ent18 (hE) ?_
 refine la zv49 fun b1 => ?_
 refine rTM ?_
 refine pTM ?_
 refine dx mE rfl rfl (by simp) (by simp) rfl rfl ?_
 refine lV 9 ((PRv (J1.gGen, J2.gGen)).map U64) hGF rfl (by simp) (by decide) (by decide) Tryz.underlying75 Tryz.sizeOf77 zv77 rfl rfl ?_
 intro b9
 refine rTM ?_
 refine bu (E := EE []) a7 (by kernel_rfl) (by kernel_rfl) (by kernel_rfl) ?_
 refine rTM ?_
 refine dv false rfl rfl ent26 (i7 E) (decide_eq_false h0) rfl rfl ?_
 refine bR rfl (fun _ => bI _) rfl rfl ?_
 refine rTM ?_
 refine dv false rfl rfl ent33 (eu _ _) (decide_eq_false h1) rfl rfl ?_
 refine bR rfl (fun _ => bI _) rfl rfl ?_
 refine rTM ?_
 refine bO rfl rfl ent38 (fun w' hC hG => hK1 b9 w' hG (cu (n := 9) rfl w' hC)) rfl rfl ?_
 refine bR rfl (fun _ => bI _) rfl rfl ?_
 refine rTM ?_
 refine bO rfl rfl ent38 (fun w' hC hG => hK0 w' hG) rfl rfl ?_
 refine rTM ?_
 refine lc ent18 (hI) ?_
 refine rTM ?_
 refine dv true rfl rfl ent33 (eu _ _) (decide_eq_true rfl) rfl rfl ?_
 refine rTM ?_
 refine rt ?_
 exact bh rfl rfl (fun w hw => ⟨rfl, ah hw⟩)
theorem nN : E2w.times J2.gGen.P ORD = none := kG
theorem vv : PR L63 FE J1.gGen.P J2.gGen.P = EG := by rw [EG, show J1.gGen.P = some G1p from rfl, show J2.gGen.P = some G2p from rfl]
theorem zx : Pure Tryz.prog Gt 10 [] (.bool true) := by
 have hE := mL J1.gGen J2.gGen nN
 rw [vv] at hE
 refine wv EG hE Ik Bu ?_ (fun d w' hG hr => ?_) qV
 ·have k := mL J1.gInf J2.gGen nN
  rw [show J1.gInf.P = none from rfl, Bw] at k
  exact k
 ·have k := xH 1 (fun _ => (J1.gGen, J2.gGen)) d 1 (by decide) (fun _ _ => nN) w' hG (by rw [uP]; exact hr)
  rw [PRN, PRN, K12.one_mul, vv, decide_eq_false Bu] at k
  exact k
end Q6
end Go.Proofs.YtpnpiblphnpfiaaGreatDoor
