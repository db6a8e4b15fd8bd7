/-
 The program's Pairing, Check: the document's.
-/
import Derived.Test.YtpnpiblphnpfiaaGreatDoorTJ
import Derived.Test.YtpnpiblphnpfiaaGreatDoorX5
namespace Go.Proofs.YtpnpiblphnpfiaaGreatDoor
open Go.RowKit
set_option maxRecDepth 100000
set_option maxHeartbeats 1000000
attribute [local simp] aP a9 aM aH aA ba aF aE aG PLl bZ ce N1l bX bY ca aV bc aN a5 aT J1.bj J2.bj Q6.cf Q6.df
theorem rTL {Q P : Prop} (k : Q) (h : Q → P := by intro k; (refine LY.run ?_); (repeat (first | refine bJ rfl rfl rfl ?_ | refine bd rfl rfl rfl ?_ | ((refine wI rfl rfl ?_ rfl rfl ?_); (· simp)) | ((refine uv rfl rfl ?_ rfl rfl ?_); (· simp)) | ((refine mL hGF rfl rfl rfl ?_ ?_ (ak _) rfl ?_); (· simp); (· simp)))); (first | refine ck ?_ | refine LY.mk ?_); exact k) : P := h k
theorem pTL {Q P : Prop} (k : Q) (h : Q → P := by intro k; (refine xp ?_); (refine rTL ?_); exact k) : P := h k

namespace Q6
theorem Dv (p : J1.GP) (q : J2.GP) (a : W12) (hL : ∀ (d : Nat) (w' : World), Gt w' → w'.rangeAt d 0 ((PRv (p, q)).map U64) → Calls Tryz.prog 55 [.slice (some ⟨d, 0, none⟩) 1 1].toArray w' (fun y w'' => y = .returned (bg a) ∧ Grow w' w'')) : Pure Tryz.prog Gt 18 [J1.PtV p, J2.PtV q] (bg (k6 UG a)) := by
 refine a8 Tryz.func18 fun w hw hGF => ?_
 refine xp ?_
 refine lb fun b2 => ?_
 refine lb fun b3 => ?_
 refine la zv49 fun b4 => ?_
 refine aa ?_
 refine pTL ?_
 refine fO A7 rfl rfl (by simp) (by simp) rfl rfl ?_
 refine kD 8 ((PRv (p, q)).map U64) hGF rfl (by simp) (by decide) (by decide) Tryz.underlying75 Tryz.sizeOf77 zv77 rfl rfl ?_
 intro b8
 refine bE rfl rfl ent55 (fun w' hC hG => hL b8 w' hG (cM (n := 8) rfl w' hC)) rfl rfl ?_
 refine lc ent24 (xx a) ?_
 refine rTL ?_
 refine rt ?_
 exact av 4 rfl rfl rfl Tryz.isAgg49 Tryz.sizeOf49 (by simp) (fun w hw => ⟨rfl, ah hw⟩)
theorem Fi (p : J1.GP) (q : J2.GP) : PRD (fun _ => (p, q)) 1 = bt (MLv L63 p.P q.P) := K12.one_mul _
theorem pZ {f : Nat → J1.GP × J2.GP} {n : Nat} (hf : ∀ i, i < n → E2w.times (f i).2.P ORD = none) : k6 UG (LPv f n) = FN FE (PRD f n) := by
 rw [tH]
 exact (CN hf).fn tj
def PRN (f : Nat → J1.GP × J2.GP) : Nat → W12
 | 0 => K12.one
 | i + 1 => K12.mul (PRN f i) (PR L63 FE (f i).1.P (f i).2.P)
theorem py (f : Nat → J1.GP × J2.GP) : ∀ n, FN FE (PRD f n) = PRN f n
 | 0 => f8
 | n + 1 => by rw [PRD, kA, py f n, PRN, PR]
theorem jG (p : J1.GP) (q : J2.GP) (qr : E2w.times q.P ORD = none) : Pure Tryz.prog Gt 18 [J1.PtV p, J2.PtV q] (bg (PR L63 FE p.P q.P)) := by
 have e : k6 UG (LPv (fun _ => (p, q)) 1) = PR L63 FE p.P q.P := by rw [pZ (f := fun _ => (p, q)) (n := 1) (fun _ _ => qr), Fi, PR]
 rw [← e]
 exact Dv p q _ fun d w' hG hr => tZ 1 (fun _ => (p, q)) d 1 (by decide) (fun _ _ => qr) w' hG (by rw [vz]; exact hr)
theorem rx (l c : Nat) (x : Option Addr) (a : W12) (w : World) (hw : Gt w) (hL : ∀ w', Gt w' → Grow w w' → Calls Tryz.prog 55 [.slice x l c].toArray w' (fun y w'' => y = .returned (bg a) ∧ Grow w' w'')) : Calls Tryz.prog 38 [.slice x l c].toArray w (fun r w' => r = .returned (.bool (decide (k6 UG a = K12.one))) ∧ Grow w w') := by
 have hGF : BOk Gt (pl w) := gt_low.plain hw
 refine aB (G := Gt) Tryz.func38 rfl rfl (Hp (pl w) []) (aJ (pl w) trivial ai) (ap hGF) ?_
 refine pTL ?_
 refine pTL ?_
 refine bE rfl rfl ent55 (fun w' hC hG => hL w' hG (ah hC)) rfl rfl ?_
 refine lc ent24 (xx a) ?_
 refine lc ent22 (gU) ?_
 refine lc ent33 (dI _ _) ?_
 refine rTL ?_
 refine rt ?_
 exact a7 rfl rfl (fun w hw => ⟨rfl, ah hw⟩)
theorem qv {w w' : World} {b : Nat} {cs : List Value} (h : w.rangeAt b 0 cs) (hg : Grow w w') : w'.rangeAt b 0 cs := fun j v hv => (hg.cell (block_lt_of_cell (h j v hv))).trans (h j v hv)
theorem Ex (n : Nat) (f : Nat → J1.GP × J2.GP) (b cap : Nat) (hn : n ≤ 1000) (hf : ∀ i, i < n → E2w.times (f i).2.P ORD = none) (w : World) (hw : Gt w) (h : w.rangeAt b 0 ((RW 54 (fun i => PRv (f i)) n).map U64)) : Calls Tryz.prog 38 [.slice (some ⟨b, 0, none⟩) n cap].toArray w (fun r w' => r = .returned (.bool (decide (PRN f n = K12.one))) ∧ Grow w w') := by
 have k := rx n cap (some ⟨b, 0, none⟩) (LPv f n) w hw fun w' hG hg => tZ n f b cap hn hf w' hG (qv h hg)
 rw [pZ hf, py] at k
 exact k
theorem p9 (w : World) (hw : Gt w) : Calls Tryz.prog 38 [.slice none 0 0].toArray w (fun r w' => r = .returned (.bool true) ∧ Grow w w') := by
 have k := rx 0 0 none _ w hw fun w' hG _ => wL w' hG
 rw [pZ (f := fun _ => (J1.gInf, J2.gInf)) (n := 0) (fun i hi => absurd hi (Nat.not_lt_zero i)), py, show decide (PRN _ 0 = K12.one) = true from decide_eq_true rfl] at k
 exact k
end Q6
end Go.Proofs.YtpnpiblphnpfiaaGreatDoor
