/-
 The program's Pairing, Check: the document's.
-/
import Derived.Test.YtpnpiblphnpfiaaGreatDoorTJ
import Derived.Test.YtpnpiblphnpfiaaGreatDoorX5
namespace Go.Proofs.YtpnpiblphnpfiaaGreatDoor
open Go.RowKit
set_option maxRecDepth 100000
set_option maxHeartbeats 1000000
attribute [local simp] aP bc aM aH aA a9 aF aE aG PLl bY ca N1l cb cf bZ aU ba aN aZ a7 J1.bk J2.bk Q6.bX Q6.dd
theorem rTL {Q P : Prop} (k : Q) (h : Q → P := by intro k; (refine LY.run ?_); (repeat (first | refine bI rfl rfl rfl ?_ | refine bd rfl rfl rfl ?_ | ((refine wE rfl rfl ?_ rfl rfl ?_); (· simp)) | ((refine wJ rfl rfl ?_ rfl rfl ?_); (· simp)) | ((refine na hGF rfl rfl rfl ?_ ?_ (ak _) rfl ?_); (· simp); (· simp)))); (first | refine cm ?_ | refine LY.mk ?_); exact k) : P := h k
theorem pTL {Q P : Prop} (k : Q) (h : Q → P := by intro k; (refine xp ?_); (refine rTL ?_); exact k) : P := h k

namespace Q6
theorem Ew (p : J1.GP) (q : J2.GP) (a : W12) (hL : ∀ (d : Nat) (w' : World), Gt w' → w'.rangeAt d 0 ((PRv (p, q)).map U64) → Calls Tryz.prog 55 [.slice (some ⟨d, 0, none⟩) 1 1].toArray w' (fun y w'' => y = .returned (bg a) ∧ Grow w' w'')) : Pure Tryz.prog Gt 18 [J1.PtV p, J2.PtV q] (bg (kG UG a)) := by
 refine a8 Tryz.func18 fun w hw hGF => ?_
 refine xp ?_
 refine lb fun b2 => ?_
 refine lb fun b3 => ?_
 refine la zv49 fun b4 => ?_
 refine aa ?_
 refine pTL ?_
 refine fM A2 rfl rfl (by simp) (by simp) rfl rfl ?_
 refine ka 8 ((PRv (p, q)).map U64) hGF rfl (by simp) (by decide) (by decide) Tryz.underlying75 Tryz.sizeOf77 zv77 rfl rfl ?_
 intro b8
 refine bE rfl rfl ent55 (fun w' hC hG => hL b8 w' hG (cK (n := 8) rfl w' hC)) rfl rfl ?_
 refine lc ent24 (vV a) ?_
 refine rTL ?_
 refine rt ?_
 exact av 4 rfl rfl rfl Tryz.isAgg49 Tryz.sizeOf49 (by simp) (fun w hw => ⟨rfl, ah hw⟩)
theorem Hh (p : J1.GP) (q : J2.GP) : PRD (fun _ => (p, q)) 1 = bu (MLv L63 p.P q.P) := K12.one_mul _
theorem qt {f : Nat → J1.GP × J2.GP} {n : Nat} (hf : ∀ i, i < n → E2w.times (f i).2.P ORD = none) : kG UG (LPv f n) = FN FE (PRD f n) := by
 rw [wU]
 exact (DV hf).fn sG
def PRN (f : Nat → J1.GP × J2.GP) : Nat → W12
 | 0 => K12.one
 | i + 1 => K12.mul (PRN f i) (PR L63 FE (f i).1.P (f i).2.P)
theorem qb (f : Nat → J1.GP × J2.GP) : ∀ n, FN FE (PRD f n) = PRN f n
 | 0 => gb
 | n + 1 => by rw [PRD, lf, qb f n, PRN, PR]
theorem kO (p : J1.GP) (q : J2.GP) (qr : E2w.times q.P ORD = none) : Pure Tryz.prog Gt 18 [J1.PtV p, J2.PtV q] (bg (PR L63 FE p.P q.P)) := by
 have e : kG UG (LPv (fun _ => (p, q)) 1) = PR L63 FE p.P q.P := by rw [qt (f := fun _ => (p, q)) (n := 1) (fun _ _ => qr), Hh, PR]
 rw [← e]
 exact Ew p q _ fun d w' hG hr => uY 1 (fun _ => (p, q)) d 1 (by decide) (fun _ _ => qr) w' hG (by rw [vg]; exact hr)
theorem r7 (l c : Nat) (x : Option Addr) (a : W12) (w : World) (hw : Gt w) (hL : ∀ w', Gt w' → Grow w w' → Calls Tryz.prog 55 [.slice x l c].toArray w' (fun y w'' => y = .returned (bg a) ∧ Grow w' w'')) : Calls Tryz.prog 38 [.slice x l c].toArray w (fun r w' => r = .returned (.bool (decide (kG UG a = K12.one))) ∧ Grow w w') := by
 have hGF : BOk Gt (pl w) := gt_low.plain hw
 refine aB (G := Gt) Tryz.func38 rfl rfl (Hp (pl w) []) (aJ (pl w) trivial ai) (ap hGF) ?_
 refine pTL ?_
 refine pTL ?_
 refine bE rfl rfl ent55 (fun w' hC hG => hL w' hG (ah hC)) rfl rfl ?_
 refine lc ent24 (vV a) ?_
 refine lc ent22 (gR) ?_
 refine lc ent33 (dJ _ _) ?_
 refine rTL ?_
 refine rt ?_
 exact a5 rfl rfl (fun w hw => ⟨rfl, ah hw⟩)
theorem pA {w w' : World} {b : Nat} {cs : List Value} (h : w.rangeAt b 0 cs) (hg : Grow w w') : w'.rangeAt b 0 cs := fun j v hv => (hg.cell (block_lt_of_cell (h j v hv))).trans (h j v hv)
theorem D0 (n : Nat) (f : Nat → J1.GP × J2.GP) (b cap : Nat) (hn : n ≤ 1000) (hf : ∀ i, i < n → E2w.times (f i).2.P ORD = none) (w : World) (hw : Gt w) (h : w.rangeAt b 0 ((RW 54 (fun i => PRv (f i)) n).map U64)) : Calls Tryz.prog 38 [.slice (some ⟨b, 0, none⟩) n cap].toArray w (fun r w' => r = .returned (.bool (decide (PRN f n = K12.one))) ∧ Grow w w') := by
 have k := r7 n cap (some ⟨b, 0, none⟩) (LPv f n) w hw fun w' hG hg => uY n f b cap hn hf w' hG (pA h hg)
 rw [qt hf, qb] at k
 exact k
theorem pj (w : World) (hw : Gt w) : Calls Tryz.prog 38 [.slice none 0 0].toArray w (fun r w' => r = .returned (.bool true) ∧ Grow w w') := by
 have k := r7 0 0 none _ w hw fun w' hG _ => uo w' hG
 rw [qt (f := fun _ => (J1.gInf, J2.gInf)) (n := 0) (fun i hi => absurd hi (Nat.not_lt_zero i)), qb, show decide (PRN _ 0 = K12.one) = true from decide_eq_true rfl] at k
 exact k
end Q6
end Go.Proofs.YtpnpiblphnpfiaaGreatDoor
