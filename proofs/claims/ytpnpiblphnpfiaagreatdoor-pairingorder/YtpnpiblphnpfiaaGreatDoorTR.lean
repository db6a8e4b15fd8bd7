/-
 The law PairingOrder.
-/
import Derived.Test.YtpnpiblphnpfiaaGreatDoorTQ
import Derived.Test.YtpnpiblphnpfiaaGreatDoorX5
namespace Go.Proofs.YtpnpiblphnpfiaaGreatDoor
open Go.RowKit
set_option maxRecDepth 100000
set_option maxHeartbeats 1000000
attribute [local simp] aY bj aF aA aL aW aM aK aO PLl cq cn N1l cm cp ck bd bk aX bg ba J1.br J2.br Q6.cg Q6.c8
theorem rTR {Q P : Prop} (k : Q) (h : Q → P := by intro k; (refine LY.run ?_); (repeat (first | refine bC rfl rfl rfl ?_ | refine a7 rfl rfl rfl ?_ | ((refine qm rfl rfl ?_ rfl rfl ?_); (· simp)) | ((refine HY rfl rfl ?_ rfl rfl ?_); (· simp)) | ((refine nC hGF rfl rfl rfl ?_ ?_ (ak _) rfl ?_); (· simp); (· simp)) | ((refine Ge hGF rfl rfl rfl ?_ ?_ (ak _) rfl ?_); (· simp); (· simp)) | ((refine G1 hGF rfl rfl rfl ?_ ?_ (eH _) rfl ?_); (· simp); (· simp)) | refine bz (f := 22) rfl rfl ent22 (gu) rfl rfl ?_ | refine bz (f := 10) rfl rfl ent10 yK rfl rfl ?_ | refine jg rfl rfl rfl rfl rfl ?_)); (first | refine bO ?_ | refine LY.mk ?_); exact k) : P := h k
attribute [local simp] h7 fJ

namespace Q6
theorem powO {E F : W12} (h : K12.pw E ORD = F) (b : Nat) {t : TypeId} (w : World) (hw : Gt w) (hr : OwnB w b (RB48.map U8) t) : Calls Tryz.prog 30 [bt E, .slice (some ⟨b, 16, none⟩) 32 32].toArray w (fun r w' => r = .returned (bt F) ∧ Grow w w') := by
 have k := l8 E (some ⟨b, 16, none⟩) 32 ORB (by rw [rN]; decide) w hw (Cv hr)
 rw [rN, Jc, h] at k
 exact k
theorem GR (n : Nat) : K12.mul (bw (K12.pw EG n)) (K12.pw EG n) = K12.one := by
 have u : K12.mul (bw EG) EG = K12.one := y1 (FJ B9 Bw)
 rw [kE, ← K12.mul_pw, u, K12.one_pw]
theorem FD (x : Zr) : (decide (K12.pw EG x.val = K12.one) == decide (x = 0)) = true := by
 have e : decide (K12.pw EG x.val = K12.one) = decide (x = 0) := decide_eq_decide.2 ((CM x.val).trans ⟨fun h => Fin.ext (by
  rw [Ew, Nat.mod_eq_of_lt x.isLt] at h
  exact h), fun h => by rw [h]; exact Nat.zero_mod _⟩)
 rw [e]
 exact beq_self_eq_true _
theorem HK (e0 : Option Addr) (cap0 : Nat) (bs0 : List (BitVec 8)) (h0 : ¬ bs0.length ≤ 32) (w : World) (hw : Gt w)  : Calls Tryz.prog 7 [.slice e0 bs0.length cap0].toArray w (fun r w' => r = .returned (.bool true) ∧ Grow w w') := by
 have hGF : BOk Gt (pl w) := gt_low.plain hw
 refine aN (G := Gt) Tryz.func7 rfl rfl (Hp (pl w) []) (a5 (pl w) trivial aq) (ay hGF) ?_
 refine ac (E := EE [40, 2000040]) ?_
 refine rTR ?_
 refine ao ?_
 refine ac (E := EE [40, 2000040]) ?_
 refine rTR ?_
 refine bR rfl (fun _ => bG _) rfl rfl ?_
 refine aa ?_
 refine bB rfl ?_
 refine aD ?_
 refine ao ?_
 refine ac (E := EE [40, 2000040]) ?_
 refine rTR ?_
 refine bV rfl (fun _ => bi Tryz.underlying22 _ _ _ _) rfl rfl ?_
 refine cZ true rfl rfl (fun _ => rfl) (fun _ => dR _ _ _) (decide_eq_true (by omega)) rfl rfl ?_
 refine aa ?_
 refine cb rfl ?_
 refine ac (E := EE [40, 2000040]) ?_
 refine rTR ?_
 refine rt ?_
 exact bh rfl rfl (fun w hw => ⟨rfl, ah hw⟩)
theorem Jb (e0 : Option Addr) (cap0 : Nat) (bs0 : List (BitVec 8)) (h0 : bs0.length ≤ 32) (hc0 : bs0.length ≤ cap0) (E F : W12) (hE : Pure Tryz.prog Gt 18 [J1.PtV J1.gGen, J2.PtV J2.gGen] (bt E)) (hF : K12.pw E (QB bs0).val = F) (hO : K12.pw E ORD = K12.one) (hq : (decide (F = K12.one) == decide ((QB bs0) = 0)) = true) (hU : K12.mul (bw F) F = K12.one) (w : World) (hw : Gt w) (hb0 : BytesAt w e0 bs0) : Calls Tryz.prog 7 [.slice e0 bs0.length cap0].toArray w (fun r w' => r = .returned (.bool true) ∧ Grow w w') := by
 have hGF : BOk Gt (pl w) := gt_low.plain hw
 refine aN (G := Gt) Tryz.func7 rfl rfl (Hp (pl w) []) (a5 (pl w) trivial aq) (ay hGF) ?_
 refine ac (E := EE [40, 2000040]) ?_
 refine rTR ?_
 refine ao ?_
 refine ac (E := EE [40, 2000040]) ?_
 refine rTR ?_
 refine bR rfl (fun _ => bG _) rfl rfl ?_
 refine aa ?_
 refine bB rfl ?_
 refine aD ?_
 refine ao ?_
 refine ac (E := EE [40, 2000040]) ?_
 refine rTR ?_
 refine bV rfl (fun _ => bi Tryz.underlying22 _ _ _ _) rfl rfl ?_
 refine cZ false rfl rfl (fun _ => rfl) (fun _ => dR _ _ _) (decide_eq_false (by omega)) rfl rfl ?_
 refine aa ?_
 refine bB rfl ?_
 refine aD ?_
 refine ac (E := EE [40, 2000040]) ?_
 refine lc ent11 (J1.pG) ?_
 refine lc ent13 (J2.pG) ?_
 refine lc ent18 (hE) ?_
 refine la zv49 fun b3 => ?_
 refine rTR ?_
 refine ac (E := EE [40, 2000040]) ?_
 refine rTR ?_
 refine bS rfl rfl ent27 (fun w' hC hG => oy e0 cap0 bs0 (by omega) hc0 w' hG (hb0.grow (ah hC))) rfl rfl ?_
 refine la zv63 fun b4 => ?_
 refine rTR ?_
 refine ac (E := EE [40, 2000040]) ?_
 refine rTR ?_
 refine aE rfl rfl ent29 (oH (QB bs0)) rfl rfl ?_
 refine la zv65 fun b5 => ?_
 refine rTR ?_
 refine bv (E := EE [40, 2000040, 2999999]) [0, 1, 2] [⟨3, 6, 49, (((fe 0 ++ fe 0) ++ ((fe 0 ++ fe 0) ++ (fe 0 ++ fe 0))) ++ ((fe 0 ++ fe 0) ++ ((fe 0 ++ fe 0) ++ (fe 0 ++ fe 0)))).map U64⟩] [4] a9 rfl (by kernel_rfl) (by kernel_rfl) (by kernel_rfl) (by kernel_rfl) (by kernel_rfl) (by kernel_rfl) (by decide) (by intro x hx; simp only [List.mem_cons, List.not_mem_nil, or_false] at hx; subst hx; exact a6 rfl zv49 rfl) ?_
 refine rTR ?_
 refine dd (l := 0) (h' := 32) rfl Tryz.underlying65 Tryz.sizeOf5 rfl rfl (by decide) (by decide) rfl rfl ?_
 refine bS rfl rfl ent30 (fun w' hC hG => H8 hF b5 _ w' hG (cB (n := 5) rfl w' hC)) rfl rfl ?_
 refine aa ?_
 refine ⟨_, _, rfl, hGF, by intro x hx; simp only [List.mem_cons, List.not_mem_nil, or_false] at hx; subst hx; rfl, by intro x hx; simp only [List.mem_cons, List.not_mem_nil, or_false] at hx; subst hx; rfl, fun adr => ?_⟩
 refine rTR ?_
 refine bx (E := EE [40, 2000040]) a9 (by kernel_rfl) (by kernel_rfl) (by kernel_rfl) ?_
 refine rTR ?_
 refine pF rfl rfl ent40 rfl rfl (fun w' hw' => (lX w' (hGF.g _ _ _ hw')).mono fun e w'' h => ?_)
 obtain ⟨bm, rfl, hg, hb, hob⟩ := h
 refine ⟨_, _, rfl, ay hGF, hw'.news aq hg [(50, bm, RB48.map U8, 115)] ?_ dp, kN aq rfl, ?_⟩
 ·intro n' b' c' t' hl
  rcases bl hl with ⟨_, e⟩ | ⟨_, hl⟩
  ·cases e; exact ⟨hb, hob⟩
  ·cases hl
 clear hw' hg hb hob
 refine bS rfl rfl ent30 (fun w' hC hG => powO hO bm w' hG (hC.own 50 bm _ _ rfl).1) rfl rfl ?_
 refine rTR ?_
 refine dz true rfl rfl ent33 (dY _ _) (decide_eq_true rfl) rfl rfl ?_
 refine rTR ?_
 refine lc ent33 (dY _ _) ?_
 refine rTR ?_
 refine aE rfl rfl ent39 (nb (QB bs0)) rfl rfl ?_
 refine cZ true rfl rfl (fun _ => rfl) (fun w => ie 4 Tryz.underlying4 _ _ w) (hq) rfl rfl ?_
 refine rTR ?_
 refine lc ent41 (iP F) ?_
 refine rTR ?_
 refine lc ent35 (lM _ F) ?_
 refine rTR ?_
 refine dz true rfl rfl ent33 (dY _ _) (decide_eq_true hU) rfl rfl ?_
 refine rTR ?_
 refine rt ?_
 exact bh rfl rfl (fun w hw => ⟨rfl, ah hw⟩)
theorem yz (e0 : Option Addr) (cap0 : Nat) (bs0 : List (BitVec 8)) (hc0 : bs0.length ≤ cap0) (w : World) (hw : Gt w) (hb0 : BytesAt w e0 bs0) : Calls Tryz.prog 7 [.slice e0 bs0.length cap0].toArray w (fun r w' => r = .returned (.bool true) ∧ Grow w w') := by
 by_cases h0 : bs0.length ≤ 32
 ·have hE := w7 J1.gGen J2.gGen jS
  rw [qC] at hE
  exact Jb e0 cap0 bs0 h0 hc0 EG _ hE rfl zY (FD _) (GR _) w hw hb0
 ·exact HK e0 cap0 bs0 h0 w hw
end Q6
end Go.Proofs.YtpnpiblphnpfiaaGreatDoor
