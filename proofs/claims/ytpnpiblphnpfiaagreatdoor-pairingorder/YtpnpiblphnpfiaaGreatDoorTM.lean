/-
 What is known of layer 12; the law PairingIs.
-/
import Derived.Test.YtpnpiblphnpfiaaGreatDoorTL
import Derived.Test.YtpnpiblphnpfiaaGreatDoorX5
namespace Go.Proofs.YtpnpiblphnpfiaaGreatDoor
open Go.RowKit
set_option maxRecDepth 100000
set_option maxHeartbeats 1000000
attribute [local simp] aY bj aF aA aL aW aM aK aO PLl cq cn N1l cm cp ck bd bk aX bg ba J1.br J2.br Q6.cg Q6.c8
theorem rTM {Q P : Prop} (k : Q) (h : Q → P := by intro k; (refine LY.run ?_); (repeat (first | refine bC rfl rfl rfl ?_ | refine a7 rfl rfl rfl ?_ | ((refine DQ rfl rfl ?_ rfl rfl ?_); (· simp)) | ((refine Ef rfl rfl ?_ rfl rfl ?_); (· simp)) | ((refine qm rfl rfl ?_ rfl rfl ?_); (· simp)) | ((refine ra53 rfl rfl ?_ rfl rfl ?_); (· simp)) | ((refine Ix hGF rfl rfl rfl ?_ ?_ (ak _) rfl ?_); (· simp); (· simp)) | ((refine Jl hGF rfl rfl rfl ?_ ?_ (ak _) rfl ?_); (· simp); (· simp)) | ((refine nC hGF rfl rfl rfl ?_ ?_ (ak _) rfl ?_); (· simp); (· simp)) | ((refine uH hGF rfl rfl rfl ?_ ?_ (ak _) rfl ?_); (· simp); (· simp)) | refine bz (f := 13) rfl rfl ent13 (J2.pG) rfl rfl ?_ | refine bz (f := 11) rfl rfl ent11 (J1.pG) rfl rfl ?_ | refine bz (f := 17) rfl rfl ent17 (vn LL) rfl rfl ?_ | refine bz (f := 22) rfl rfl ent22 (gu) rfl rfl ?_ | refine bz (f := 15) rfl rfl ent15 (J1.A2) rfl rfl ?_ | refine jg rfl rfl rfl rfl rfl ?_)); (first | refine bO ?_ | refine LY.mk ?_); exact k) : P := h k
theorem pTM {Q P : Prop} (k : Q) (h : Q → P := by intro k; (refine xp ?_); (refine rTM ?_); exact k) : P := h k

namespace Q6
theorem v8 (E : W12) (hE : Pure Tryz.prog Gt 18 [J1.PtV J1.gGen, J2.PtV J2.gGen] (bt E)) (h0 : ¬ E = K12.zero) (h1 : ¬ E = K12.one) (hI : Pure Tryz.prog Gt 18 [J1.PtV J1.gInf, J2.PtV J2.gGen] (bt K12.one)) (hK1 : ∀ (d : Nat) (w' : World), Gt w' → w'.rangeAt d 0 ((PRv (J1.gGen, J2.gGen)).map U64) → Calls Tryz.prog 38 [.slice (some ⟨d, 0, none⟩) 1 1].toArray w' (fun y w'' => y = .returned (.bool false) ∧ Grow w' w'')) (hK0 : ∀ w', Gt w' → Calls Tryz.prog 38 [.slice none 0 0].toArray w' (fun y w'' => y = .returned (.bool true) ∧ Grow w' w'')) : Pure Tryz.prog Gt 10 [] (.bool true) := by
 refine aQ Tryz.func10 fun w hw hGF => ?_
 refine pTM ?_
 refine pTM ?_
 refine lc ent18 (hE) ?_
 refine la zv49 fun b1 => ?_
 refine rTM ?_
 refine pTM ?_
 refine eO BE rfl rfl (by simp) (by simp) rfl rfl ?_
 refine lx 9 ((PRv (J1.gGen, J2.gGen)).map U64) hGF rfl (by simp) (by decide) (by decide) Tryz.underlying75 Tryz.sizeOf77 zv77 rfl rfl ?_
 intro b9
 refine rTM ?_
 refine bx (E := EE []) a9 (by kernel_rfl) (by kernel_rfl) (by kernel_rfl) ?_
 refine rTM ?_
 refine dz false rfl rfl ent26 (i1 E) (decide_eq_false h0) rfl rfl ?_
 refine bR rfl (fun _ => bG _) rfl rfl ?_
 refine rTM ?_
 refine dz false rfl rfl ent33 (dY _ _) (decide_eq_false h1) rfl rfl ?_
 refine bR rfl (fun _ => bG _) rfl rfl ?_
 refine rTM ?_
 refine bS rfl rfl ent38 (fun w' hC hG => hK1 b9 w' hG (cB (n := 9) rfl w' hC)) rfl rfl ?_
 refine bR rfl (fun _ => bG _) rfl rfl ?_
 refine rTM ?_
 refine bS rfl rfl ent38 (fun w' hC hG => hK0 w' hG) rfl rfl ?_
 refine rTM ?_
 refine lc ent18 (hI) ?_
 refine rTM ?_
 refine dz true rfl rfl ent33 (dY _ _) (decide_eq_true rfl) rfl rfl ?_
 refine rTM ?_
 refine rt ?_
 exact bh rfl rfl (fun w hw => ⟨rfl, ah hw⟩)
theorem jS : E2w.times J2.gGen.P ORD = none := wK
theorem qC : PR L63 FE J1.gGen.P J2.gGen.P = EG := by rw [EG, show J1.gGen.P = some G1p from rfl, show J2.gGen.P = some G2p from rfl]
theorem yK : Pure Tryz.prog Gt 10 [] (.bool true) := by
 have hE := w7 J1.gGen J2.gGen jS
 rw [qC] at hE
 refine v8 EG hE Bw wF ?_ (fun d w' hG hr => ?_) qQ
 ·have k := w7 J1.gInf J2.gGen jS
  rw [show J1.gInf.P = none from rfl, H5] at k
  exact k
 ·have k := El 1 (fun _ => (J1.gGen, J2.gGen)) d 1 (by decide) (fun _ _ => jS) w' hG (by rw [wN]; exact hr)
  rw [PRN, PRN, K12.one_mul, qC, decide_eq_false wF] at k
  exact k
end Q6
end Go.Proofs.YtpnpiblphnpfiaaGreatDoor
