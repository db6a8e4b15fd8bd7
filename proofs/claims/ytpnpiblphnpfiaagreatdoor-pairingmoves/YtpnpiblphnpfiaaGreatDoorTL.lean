/-
 The program's Pairing, Check: the document's.
-/
import Derived.Test.YtpnpiblphnpfiaaGreatDoorTJ
import Derived.Test.YtpnpiblphnpfiaaGreatDoorX5
namespace Go.Proofs.YtpnpiblphnpfiaaGreatDoor
open Go.RowKit
set_option maxRecDepth 100000
set_option maxHeartbeats 1000000
attribute [local simp] aN aZ aI aF aw aX aC aB aD PLl bX bZ N1l ca bU cb aP a5 aJ aU aV J1.aY J2.aY Q6.bM Q6.bV
theorem rTL {Q P : Prop} (k : Q) (h : Q → P := by intro k; (refine LY.run ?_); (repeat (first | refine bK rfl rfl rfl ?_ | refine bg rfl rfl rfl ?_ | ((refine xX rfl rfl ?_ rfl rfl ?_); (· simp)) | ((refine u4 rfl rfl ?_ rfl rfl ?_); (· simp)) | ((refine o0 hGF rfl rfl rfl ?_ ?_ (ak _) rfl ?_); (· simp); (· simp)))); (first | refine ci ?_ | refine LY.mk ?_); exact k) : P := h k
theorem pTL {Q P : Prop} (k : Q) (h : Q → P := by intro k; (refine xp ?_); (refine rTL ?_); exact k) : P := h k

namespace Q6
theorem A9 (p : J1.GP) (q : J2.GP) (a : W12) (hL : ∀ (d : Nat) (w' : World), Gt w' → w'.rangeAt d 0 ((PRv (p, q)).map U64) → Calls Tryz.prog 55 [.slice (some ⟨d, 0, none⟩) 1 1].toArray w' (fun y w'' => y = .returned (bu a) ∧ Grow w' w'')) : Pure Tryz.prog Gt 18 [J1.PtV p, J2.PtV q] (bu (kp UG a)) := by
 refine bc Tryz.func18 fun w hw hGF => ?_
 refine xp ?_
 refine lb fun b2 => ?_
 refine lb fun b3 => ?_
 refine la zv49 fun b4 => ?_
 refine aa ?_
 refine pTL ?_
 refine dd i2 rfl rfl (by simp) (by simp) rfl rfl ?_
 refine kL 8 ((PRv (p, q)).map U64) hGF rfl (by simp) (by decide) (by decide) Tryz.underlying75 Tryz.sizeOf77 zv77 rfl rfl ?_
 intro b8
 refine bk rfl rfl ent55 (fun w' hC hG => hL b8 w' hG (cC (n := 8) rfl w' hC)) rfl rfl ?_
 refine lc ent24 (u1 a) ?_
 refine rTL ?_
 refine rt ?_
 exact ay 4 rfl rfl rfl Tryz.isAgg49 Tryz.sizeOf49 (by simp) (fun w hw => ⟨rfl, ah hw⟩)
theorem Hm (p : J1.GP) (q : J2.GP) : PRD (fun _ => (p, q)) 1 = bt (MLv L63 p.P q.P) := K12.one_mul _
theorem qm {f : Nat → J1.GP × J2.GP} {n : Nat} (hf : ∀ i, i < n → E2w.times (f i).2.P ORD = none) : kp UG (LPv f n) = FN FE (PRD f n) := by
 rw [tE]
 exact (Dg hf).fn yC
def PRN (f : Nat → J1.GP × J2.GP) : Nat → W12
 | 0 => K12.one
 | i + 1 => K12.mul (PRN f i) (PR L63 FE (f i).1.P (f i).2.P)
theorem qg (f : Nat → J1.GP × J2.GP) : ∀ n, FN FE (PRD f n) = PRN f n
 | 0 => gT
 | n + 1 => by rw [PRD, jX, qg f n, PRN, PR]
theorem Ai (p : J1.GP) (q : J2.GP) (qr : E2w.times q.P ORD = none) : Pure Tryz.prog Gt 18 [J1.PtV p, J2.PtV q] (bu (PR L63 FE p.P q.P)) := by
 have e : kp UG (LPv (fun _ => (p, q)) 1) = PR L63 FE p.P q.P := by rw [qm (f := fun _ => (p, q)) (n := 1) (fun _ _ => qr), Hm, PR]
 rw [← e]
 exact A9 p q _ fun d w' hG hr => ud 1 (fun _ => (p, q)) d 1 (by decide) (fun _ _ => qr) w' hG (by rw [un]; exact hr)
theorem rL (l c : Nat) (x : Option Addr) (a : W12) (w : World) (hw : Gt w) (hL : ∀ w', Gt w' → Grow w w' → Calls Tryz.prog 55 [.slice x l c].toArray w' (fun y w'' => y = .returned (bu a) ∧ Grow w' w'')) : Calls Tryz.prog 38 [.slice x l c].toArray w (fun r w' => r = .returned (.bool (decide (kp UG a = K12.one))) ∧ Grow w w') := by
 have hGF : BOk Gt (pl w) := gt_low.plain hw
 refine aE (G := Gt) Tryz.func38 rfl rfl (Hp (pl w) []) (aO (pl w) trivial ai) (ap hGF) ?_
 refine pTL ?_
 refine pTL ?_
 refine bk rfl rfl ent55 (fun w' hC hG => hL w' hG (ah hC)) rfl rfl ?_
 refine lc ent24 (u1 a) ?_
 refine lc ent22 (iF) ?_
 refine lc ent33 (fX _ _) ?_
 refine rTL ?_
 refine rt ?_
 exact a6 rfl rfl (fun w hw => ⟨rfl, ah hw⟩)
theorem qq {w w' : World} {b : Nat} {cs : List Value} (h : w.rangeAt b 0 cs) (hg : Grow w w') : w'.rangeAt b 0 cs := fun j v hv => (hg.cell (block_lt_of_cell (h j v hv))).trans (h j v hv)
theorem v5 (n : Nat) (f : Nat → J1.GP × J2.GP) (b cap : Nat) (hn : n ≤ 1000) (hf : ∀ i, i < n → E2w.times (f i).2.P ORD = none) (w : World) (hw : Gt w) (h : w.rangeAt b 0 ((RW 54 (fun i => PRv (f i)) n).map U64)) : Calls Tryz.prog 38 [.slice (some ⟨b, 0, none⟩) n cap].toArray w (fun r w' => r = .returned (.bool (decide (PRN f n = K12.one))) ∧ Grow w w') := by
 have k := rL n cap (some ⟨b, 0, none⟩) (LPv f n) w hw fun w' hG hg => ud n f b cap hn hf w' hG (qq h hg)
 rw [qm hf, qg] at k
 exact k
theorem pO (w : World) (hw : Gt w) : Calls Tryz.prog 38 [.slice none 0 0].toArray w (fun r w' => r = .returned (.bool true) ∧ Grow w w') := by
 have k := rL 0 0 none _ w hw fun w' hG _ => u9 w' hG
 rw [qm (f := fun _ => (J1.gInf, J2.gInf)) (n := 0) (fun i hi => absurd hi (Nat.not_lt_zero i)), qg, show decide (PRN _ 0 = K12.one) = true from decide_eq_true rfl] at k
 exact k
end Q6
end Go.Proofs.YtpnpiblphnpfiaaGreatDoor
