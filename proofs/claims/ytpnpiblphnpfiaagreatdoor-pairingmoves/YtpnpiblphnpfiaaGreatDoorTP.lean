/-
 The program's points by elements of r.
-/
import Derived.Test.YtpnpiblphnpfiaaGreatDoorTM
import Derived.Test.YtpnpiblphnpfiaaGreatDoorXK
import Derived.Test.YtpnpiblphnpfiaaGreatDoorX5
namespace Go.Proofs.YtpnpiblphnpfiaaGreatDoor
open Go.RowKit
set_option maxRecDepth 100000
set_option maxHeartbeats 1000000
attribute [local simp] aN aZ aI aF aw aX aC aB aD PLl bX bZ N1l ca bU cb aP a5 aJ aU aV J1.aY J2.aY Q6.bM Q6.bV
theorem rTP {Q P : Prop} (k : Q) (h : Q → P := by intro k; (refine LY.run ?_); (repeat (first | refine bg rfl rfl rfl ?_ | ((refine qE rfl rfl ?_ rfl rfl rfl rfl ?_); (· simp)) | ((refine CK rfl rfl ?_ rfl rfl ?_); (· simp)) | ((refine xX rfl rfl ?_ rfl rfl ?_); (· simp)) | ((refine u4 rfl rfl ?_ rfl rfl ?_); (· simp)) | ((refine yU hGF rfl rfl rfl ?_ ?_ (ak _) rfl ?_); (· simp); (· simp)) | ((refine wH hGF rfl rfl rfl ?_ ?_ (ak _) rfl ?_); (· simp); (· simp)))); (first | refine ci ?_ | refine LY.mk ?_); exact k) : P := h k
attribute [local simp] e8 fy

theorem iW (k : Zr) (w : World) (hw : Gt w) : Calls Tryz.prog 83 [RV k].toArray w (fun e w' => ∃ b1, e = .returned (.func (.func 187) #[] #[.pointer (some ⟨b1, 0, none⟩)]) ∧ Grow w w' ∧ w.heap.size ≤ b1 ∧ OwnB w' b1 ((nr k).map U64) 25) := by
 have hGF : BOk Gt (pl w) := gt_low.plain hw
 refine aE (G := Gt) Tryz.func83 rfl rfl (Hp (pl w) []) (aO (pl w) trivial ai) (ap hGF) ?_
 refine ab (E := EE [150]) ?_
 refine lb fun b1 => ?_
 refine rTP ?_
 refine ab (E := EE [150]) ?_
 refine rTP ?_
 refine cq rfl rfl ent150 rfl rfl (fun w' hw' => (ql (nr k) (by simp) w' (hGF.g _ _ _ hw')).mono fun e' w'' h => ?_)
 obtain ⟨c1, rfl, hg, h1, ho⟩ := h
 refine ⟨_, _, rfl, ap hGF, hw'.news ai hg [(33, c1, (nr k).map U64, 25)] ?_ cZ, ?_⟩
 ·intro n' b' c' t' hl
  rcases bd hl with ⟨_, e⟩ | ⟨_, hl⟩
  ·cases e; exact ⟨h1, ho⟩
  ·cases hl
 clear hw' hg h1 ho
 refine rTP ?_
 refine rt ?_
 exact a6 rfl rfl (fun w hw => ⟨c1, rfl, ah hw, (hw.own 33 c1 _ _ rfl).2.elim id False.elim, (hw.own 33 c1 _ _ rfl).1⟩)
def dg (a : List (BitVec 64)) (m : Nat) : Bool := decide (dig a (383 - m) = 1)
theorem qJ (a : List (BitVec 64)) : ∀ m, dw a m = oL (dg a) 384 m
 | 0 => rfl
 | m + 1 => by
  rw [dw, oL, qJ a m]
  by_cases h : dig a (383 - m) = 1
  ·rw [if_pos h, if_pos (show dg a m = true from decide_eq_true h)]
  ·rw [if_neg h, if_neg (show ¬ dg a m = true from fun e => h (of_decide_eq_true e))]
theorem BC (a : List (BitVec 64)) (m : Nat) (hm : m < 384) : dg a m = true ↔ V a 6 / 2 ^ (384 - 1 - m) % 2 = 1 := by
 have e := mw a 6 (383 - m) (by omega)
 rw [show 384 - 1 - m = 383 - m from by omega, ← e]
 constructor
 ·intro h
  have h2 : dig a (383 - m) = 1 := of_decide_eq_true h
  rw [h2]; rfl
 ·intro h
  refine decide_eq_true (BitVec.eq_of_toNat_eq ?_)
  rw [h]; rfl
theorem vB {a : List (BitVec 64)} {N : Nat} (hN : N = 384) (h : V a 6 < 2 ^ N) : SOg (oL (dg a) N N) = V a 6 := by
 rw [qs]
 exact BH h (fun m hm => by subst hN; exact BC a m hm)
def onK (k : Zr) : List Nat := dw (nr k) 384
theorem um (k : Zr) {N : Nat} (hN : N = 384) : onK k = oL (dg (nr k)) N N := by
 subst hN
 exact qJ (nr k) 384
theorem Cv (k : Zr) {N : Nat} (hN : N = 384) : V (nr k) 6 < 2 ^ N := by
 have h := nI (nr k) 6
 rw [show 64 * 6 = N from hN.symm] at h
 exact h
theorem qT (k : Zr) {N : Nat} (hN : N = 384) : SOg (onK k) = k.val := by rw [um k hN, vB hN (Cv k hN), sF]
theorem v9 (k : Zr) {N : Nat} (hN : N = 384) : (onK k).Pairwise (fun a b => b ≤ a) := by rw [um k hN]; exact oy _ _ _ (Nat.le_refl _)
theorem vG (k : Zr) {N : Nat} (hN : N = 384) {b : Nat} (h : b ∈ onK k) : b < 100000000 := by
 rw [um k hN] at h
 have := At h (Nat.le_refl _)
 omega
theorem nN {b : Nat} {c : List Value} {w w' : World} (h : w.rangeAt b 0 c) (hg : Grow w w') : w'.rangeAt b 0 c := fun j v hv => (hg.cell (block_lt_of_cell (h j v hv))).trans (h j v hv)
namespace J1
theorem mP (c1 : Nat) (k : Zr) {L : List Nat} (hL : onK k = L) : eO Tryz.prog Gt 187 [.pointer (some ⟨c1, 0, none⟩)] (NLs L) (fun W => W.rangeAt c1 0 ((nr k).map U64)) := by
 subst hL
 exact nd c1 (nr k) (e8 k)
theorem pY (p : GP) (k : Zr) {L : List Nat} (hL : onK k = L) (hb : ∀ b ∈ L, b < 100000000) : Pure Tryz.prog Gt 31 [PtV p, RV k] (JV (tmF p.J L)) := by
 refine bc Tryz.func31 fun w hw hGF => ?_
 refine ab (E := EE [83, 2000083]) ?_
 refine lb fun b2 => ?_
 refine lb fun b3 => ?_
 refine la zv29 fun b4 => ?_
 refine aa ?_
 refine bw (E := EE [83, 2000083]) bq (by kernel_rfl) (by kernel_rfl) (by kernel_rfl) ?_
 refine rTP ?_
 refine kg rfl rfl ent83 rfl rfl (fun w' hw' => (iW k w' (hGF.g _ _ _ hw')).mono fun e' w'' h => ?_)
 obtain ⟨c1, rfl, hg, h1, ho⟩ := h
 refine ⟨_, _, rfl, ap hGF, hw'.news ai hg [(33, c1, (nr k).map U64, 25)] ?_ cZ, fZ ai rfl, ?_⟩
 ·intro n' b' c' t' hl
  rcases bd hl with ⟨_, e⟩ | ⟨_, hl⟩
  ·cases e; exact ⟨h1, ho⟩
  ·cases hl
 clear hw' hg h1 ho
 refine bk rfl rfl ent48 (fun w' hC hG => dZ p.J 187 [.pointer (some ⟨c1, 0, none⟩)] L (fun W => W.rangeAt c1 0 ((nr k).map U64)) ent187 (mP c1 k hL) hb w' hG (fun w'' hg => nN (cC (n := 33) rfl w' hC) hg)) rfl rfl ?_
 refine rTP ?_
 refine rt ?_
 exact ay 4 rfl rfl rfl Tryz.isAgg29 Tryz.sizeOf29 (by simp) (fun w hw => ⟨rfl, ah hw⟩)
theorem pi {x : Zp × Zp × Zp} {P : Pt Zp} (hP : E1.onP P) (hx : E1.jr x P) (k : Zr) : E1.jr (tmF x (onK k)) (E1.times P k.val) := by
 rw [← qT k rfl]
 exact tmF_jr hP hx (v9 k rfl)
def cV (p : GP) (k : Zr) : GP := ⟨tmF p.J (onK k), E1.times p.P k.val, E1.times_on p.on _, pi p.on p.jr k⟩
theorem fG (p : GP) (k : Zr) : Pure Tryz.prog Gt 31 [PtV p, RV k] (PtV (cV p k)) := pY p k rfl (fun _ h => vG k rfl h)
end J1
namespace J2
theorem mP (c1 : Nat) (k : Zr) {L : List Nat} (hL : onK k = L) : eO Tryz.prog Gt 187 [.pointer (some ⟨c1, 0, none⟩)] (NLs L) (fun W => W.rangeAt c1 0 ((nr k).map U64)) := by
 subst hL
 exact nd c1 (nr k) (e8 k)
theorem pY (p : GP) (k : Zr) {L : List Nat} (hL : onK k = L) (hb : ∀ b ∈ L, b < 100000000) : Pure Tryz.prog Gt 32 [PtV p, RV k] (EV6 (E2w.tmF p.J L)) := by
 refine bc Tryz.func32 fun w hw hGF => ?_
 refine ab (E := EE [83, 2000083]) ?_
 refine lb fun b2 => ?_
 refine lb fun b3 => ?_
 refine la zv35 fun b4 => ?_
 refine aa ?_
 refine bw (E := EE [83, 2000083]) bq (by kernel_rfl) (by kernel_rfl) (by kernel_rfl) ?_
 refine rTP ?_
 refine kg rfl rfl ent83 rfl rfl (fun w' hw' => (iW k w' (hGF.g _ _ _ hw')).mono fun e' w'' h => ?_)
 obtain ⟨c1, rfl, hg, h1, ho⟩ := h
 refine ⟨_, _, rfl, ap hGF, hw'.news ai hg [(33, c1, (nr k).map U64, 25)] ?_ cZ, fZ ai rfl, ?_⟩
 ·intro n' b' c' t' hl
  rcases bd hl with ⟨_, e⟩ | ⟨_, hl⟩
  ·cases e; exact ⟨h1, ho⟩
  ·cases hl
 clear hw' hg h1 ho
 refine bk rfl rfl ent52 (fun w' hC hG => dZ p.J 187 [.pointer (some ⟨c1, 0, none⟩)] L (fun W => W.rangeAt c1 0 ((nr k).map U64)) ent187 (mP c1 k hL) hb w' hG (fun w'' hg => nN (cC (n := 33) rfl w' hC) hg)) rfl rfl ?_
 refine rTP ?_
 refine rt ?_
 exact ay 4 rfl rfl rfl Tryz.isAgg35 Tryz.sizeOf35 (by simp) (fun w hw => ⟨rfl, ah hw⟩)
theorem pi {x : W6} {P : Pt W2} (hP : E2w.onP P) (hx : E2w.jr x P) (k : Zr) : E2w.jr (E2w.tmF x (onK k)) (E2w.times P k.val) := by
 rw [← qT k rfl]
 exact E2w.tmF_jr hP hx (v9 k rfl)
def cV (p : GP) (k : Zr) : GP := ⟨E2w.tmF p.J (onK k), E2w.times p.P k.val, E2w.times_on p.on _, pi p.on p.jr k⟩
theorem fG (p : GP) (k : Zr) : Pure Tryz.prog Gt 32 [PtV p, RV k] (PtV (cV p k)) := pY p k rfl (fun _ h => vG k rfl h)
end J2
end Go.Proofs.YtpnpiblphnpfiaaGreatDoor
