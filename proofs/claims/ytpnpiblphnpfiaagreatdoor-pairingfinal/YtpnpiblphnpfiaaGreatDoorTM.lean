/-
 What is known of layer 12; the law PairingIs.
-/
import Derived.Test.YtpnpiblphnpfiaaGreatDoorTL
import Derived.Test.YtpnpiblphnpfiaaGreatDoorX5
namespace Go.Proofs.YtpnpiblphnpfiaaGreatDoor
open Go.RowKit
set_option maxRecDepth 100000
set_option maxHeartbeats 1000000
attribute [local simp] aZ bk aF aA aN aW aL aK aR PLl cy cx N1l cv cw cz bh bl aX bi ba J1.bu J2.bu Q6.cG Q6.dx
theorem rTM {Q P : Prop} (k : Q) (h : Q → P := by intro k; (refine LY.run ?_); (repeat (first | refine bC rfl rfl rfl ?_ | refine bc rfl rfl rfl ?_ | ((refine Ca rfl rfl ?_ rfl rfl ?_); (· simp)) | ((refine C8 rfl rfl ?_ rfl rfl ?_); (· simp)) | ((refine ra53 rfl rfl ?_ rfl rfl ?_); (· simp)) | ((refine sS rfl rfl ?_ rfl rfl ?_); (· simp)) | ((refine EF hGF rfl rfl rfl ?_ ?_ (ak _) rfl ?_); (· simp); (· simp)) | ((refine Hd hGF rfl rfl rfl ?_ ?_ (ak _) rfl ?_); (· simp); (· simp)) | ((refine oY hGF rfl rfl rfl ?_ ?_ (ak _) rfl ?_); (· simp); (· simp)) | ((refine tP hGF rfl rfl rfl ?_ ?_ (ak _) rfl ?_); (· simp); (· simp)) | refine bz (f := 13) rfl rfl ent13 (J2.we) rfl rfl ?_ | refine bz (f := 11) rfl rfl ent11 (J1.we) rfl rfl ?_ | refine bz (f := 17) rfl rfl ent17 (mt LL) rfl rfl ?_ | refine bz (f := 15) rfl rfl ent15 (J1.zQ) rfl rfl ?_ | refine bz (f := 22) rfl rfl ent22 (gS) rfl rfl ?_ | refine iY rfl rfl rfl rfl rfl ?_)); (first | refine bV ?_ | refine LY.mk ?_); exact k) : P := h k
theorem pTM {Q P : Prop} (k : Q) (h : Q → P := by intro k; (refine xp ?_); (refine rTM ?_); exact k) : P := h k

namespace Q6
theorem wZ (E : W12) (hE : Pure Tryz.prog Gt 18 [J1.PtV J1.gGen, J2.PtV J2.gGen] (bv E)) (h0 : ¬ E = K12.zero) (h1 : ¬ E = K12.one) (hI : Pure Tryz.prog Gt 18 [J1.PtV J1.gInf, J2.PtV J2.gGen] (bv K12.one)) (hK1 : ∀ (d : Nat) (w' : World), Gt w' → w'.rangeAt d 0 ((PRv (J1.gGen, J2.gGen)).map U64) → Calls Tryz.prog 38 [.slice (some ⟨d, 0, none⟩) 1 1].toArray w' (fun y w'' => y = .returned (.bool false) ∧ Grow w' w'')) (hK0 : ∀ w', Gt w' → Calls Tryz.prog 38 [.slice none 0 0].toArray w' (fun y w'' => y = .returned (.bool true) ∧ Grow w' w'')) : Pure Tryz.prog Gt 10 [] (.bool true) := by
 refine aU Tryz.func10 fun w hw hGF => ?_
 refine pTM ?_
 refine pTM ?_
 refine lc ent18 (hE) ?_
 refine la zv49 fun b1 => ?_
 refine rTM ?_
 refine pTM ?_
 refine eD z9 rfl rfl (by simp) (by simp) rfl rfl ?_
 refine kc 9 ((PRv (J1.gGen, J2.gGen)).map U64) hGF rfl (by simp) (by decide) (by decide) Tryz.underlying75 Tryz.sizeOf77 zv77 rfl rfl ?_
 intro b9
 refine rTM ?_
 refine bx (E := EE []) a7 (by kernel_rfl) (by kernel_rfl) (by kernel_rfl) ?_
 refine rTM ?_
 refine dZ false rfl rfl ent26 (gE E) (decide_eq_false h0) rfl rfl ?_
 refine bY rfl (fun _ => bH _) rfl rfl ?_
 refine rTM ?_
 refine dZ false rfl rfl ent33 (fY _ _) (decide_eq_false h1) rfl rfl ?_
 refine bY rfl (fun _ => bH _) rfl rfl ?_
 refine rTM ?_
 refine bR rfl rfl ent38 (fun w' hC hG => hK1 b9 w' hG (cH (n := 9) rfl w' hC)) rfl rfl ?_
 refine bY rfl (fun _ => bH _) rfl rfl ?_
 refine rTM ?_
 refine bR rfl rfl ent38 (fun w' hC hG => hK0 w' hG) rfl rfl ?_
 refine rTM ?_
 refine lc ent18 (hI) ?_
 refine rTM ?_
 refine dZ true rfl rfl ent33 (fY _ _) (decide_eq_true rfl) rfl rfl ?_
 refine rTM ?_
 refine rt ?_
 exact bj rfl rfl (fun w hw => ⟨rfl, ah hw⟩)
theorem mY : E2w.times J2.gGen.P ORD = none := wH
theorem vI : PR L63 FE J1.gGen.P J2.gGen.P = EG := by rw [EG, show J1.gGen.P = some G1p from rfl, show J2.gGen.P = some G2p from rfl]
theorem yd : Pure Tryz.prog Gt 10 [] (.bool true) := by
 have hE := zU J1.gGen J2.gGen mY
 rw [vI] at hE
 refine wZ EG hE Fq zD ?_ (fun d w' hG hr => ?_) qd
 ·have k := zU J1.gInf J2.gGen mY
  rw [show J1.gInf.P = none from rfl, EJ] at k
  exact k
 ·have k := DI 1 (fun _ => (J1.gGen, J2.gGen)) d 1 (by decide) (fun _ _ => mY) w' hG (by rw [uu]; exact hr)
  rw [PRN, PRN, K12.one_mul, vI, decide_eq_false zD] at k
  exact k
end Q6
end Go.Proofs.YtpnpiblphnpfiaaGreatDoor
