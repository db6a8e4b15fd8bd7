/-
 The law PairingFinal.
-/
import Derived.Test.YtpnpiblphnpfiaaGreatDoorTM
import Derived.Test.YtpnpiblphnpfiaaGreatDoorX5
namespace Go.Proofs.YtpnpiblphnpfiaaGreatDoor
open Go.RowKit
set_option maxRecDepth 100000
set_option maxHeartbeats 1000000
attribute [local simp] aZ bk aF aA aN aW aL aK aR PLl cy cx N1l cv cw cz bh bl aX bi ba J1.bu J2.bu Q6.cG Q6.dx
theorem rTO {Q P : Prop} (k : Q) (h : Q → P := by intro k; (refine LY.run ?_); (repeat (first | refine bC rfl rfl rfl ?_ | refine bc rfl rfl rfl ?_ | ((refine sS rfl rfl ?_ rfl rfl ?_); (· simp)) | ((refine oY hGF rfl rfl rfl ?_ ?_ (ak _) rfl ?_); (· simp); (· simp)) | refine bz (f := 10) rfl rfl ent10 yd rfl rfl ?_ | refine iY rfl rfl rfl rfl rfl ?_)); (first | refine bV ?_ | refine LY.mk ?_); exact k) : P := h k
theorem pTO {Q P : Prop} (k : Q) (h : Q → P := by intro k; (refine xp ?_); (refine rTO ?_); exact k) : P := h k

namespace Q6
def S2 (a : Zp) (x : W12) : W12 := ((x.1.1, (a, x.1.2.1.2), x.1.2.2), x.2)
def S7 (a : Zp) (x : W12) : W12 := (x.1, ((x.2.1.1, a), x.2.2.1, x.2.2.2))
def S10 (a : Zp) (x : W12) : W12 := (x.1, (x.2.1, x.2.2.1, (a, x.2.2.2.2)))
theorem jM (x : W12) : dC x = clv [x.1.1.1, x.1.1.2, x.1.2.1.1, x.1.2.1.2, x.1.2.2.1, x.1.2.2.2, x.2.1.1, x.2.1.2, x.2.2.1.1, x.2.2.1.2, x.2.2.2.1, x.2.2.2.2] := by
 rw [dC, clv, show cel [x.1.1.1, x.1.1.2, x.1.2.1.1, x.1.2.1.2, x.1.2.2.1, x.1.2.2.2, x.2.1.1, x.2.1.2, x.2.2.1.1, x.2.2.1.2, x.2.2.2.1, x.2.2.2.2] = fe x.1.1.1 ++ (fe x.1.1.2 ++ (fe x.1.2.1.1 ++ (fe x.1.2.1.2 ++ (fe x.1.2.2.1 ++ (fe x.1.2.2.2 ++ (fe x.2.1.1 ++ (fe x.2.1.2 ++ (fe x.2.2.1.1 ++ (fe x.2.2.1.2 ++ (fe x.2.2.2.1 ++ (fe x.2.2.2.2))))))))))) from rfl]
 simp only [List.append_assoc]
theorem ux (o : Nat) (a : Zp) (x : W12) (h : o < 12) : lay (6 * o) ((fe a).map U64) (dC x) = clv (sI o [a] [x.1.1.1, x.1.1.2, x.1.2.1.1, x.1.2.1.2, x.1.2.2.1, x.1.2.2.2, x.2.1.1, x.2.1.2, x.2.2.1.1, x.2.2.1.2, x.2.2.2.1, x.2.2.2.2]) := by
 rw [jM, show (fe a).map U64 = clv [a] from rfl]
 exact jI (by show o + 1 ≤ 12; omega)
theorem st2 (a : Zp) (x : W12) : lay 12 ((fe a).map U64) (dC x) = dC (S2 a x) := (ux 2 a x (by decide)).trans (jM (S2 a x)).symm
theorem st7 (a : Zp) (x : W12) : lay 42 ((fe a).map U64) (dC x) = dC (S7 a x) := (ux 7 a x (by decide)).trans (jM (S7 a x)).symm
theorem st10 (a : Zp) (x : W12) : lay 60 ((fe a).map U64) (dC x) = dC (S10 a x) := (ux 10 a x (by decide)).trans (jM (S10 a x)).symm
theorem ox (e : Option Addr) (cap : Nat) (bs : List (BitVec 8)) (l k len c' : Nat) (hk : len = k) (hl : l + k ≤ bs.length) (hc' : len ≤ c') (hcap : bs.length ≤ cap) (hlen : bs.length ≤ 100) (w : World) (hw : Gt w) (hby : BytesAt w e bs) :
  Calls Tryz.prog 23 [.slice (if cap = l then e else e.map (·.add (l * 1))) len c'].toArray w (fun r w' => r = .returned (EV (ZB ((bs.drop l).take k))) ∧ Grow w w') := by
 subst hk
 have hL : ((bs.drop l).take len).length = len := by rw [List.length_take, List.length_drop]; omega
 have h := ji (if cap = l then e else e.map (·.add (l * 1))) c' ((bs.drop l).take len) (by omega) (by omega) w hw (hby.cut l len hcap)
 rw [hL] at h
 exact h
theorem F2 : Pure Tryz.prog Gt 24 [bv K12.zero] (bv K12.zero) := by
 have k := mp K12.zero
 rw [pn, nh D5] at k
 exact k
theorem GG (e : Option Addr) (cap : Nat) (bs : List (BitVec 8)) (h : ¬ bs.length ≤ 60) (w : World) (hw : Gt w) : Calls Tryz.prog 4 [.slice e bs.length cap].toArray w (fun r w' => r = .returned (.bool true) ∧ Grow w w') := by
 have hGF : BOk Gt (pl w) := gt_low.plain hw
 refine aP (G := Gt) Tryz.func4 rfl rfl (Hp (pl w) []) (a8 (pl w) trivial aq) (az hGF) ?_
 refine pTO ?_
 refine ao ?_
 refine pTO ?_
 refine bY rfl (fun _ => bH _) rfl rfl ?_
 refine aa ?_
 refine bB rfl ?_
 refine aE ?_
 refine ao ?_
 refine pTO ?_
 refine bP rfl (fun _ => bf Tryz.underlying22 _ _ _ _) rfl rfl ?_
 refine c8 true rfl rfl (fun _ => rfl) (fun _ => dJ _ _ _) (decide_eq_true (by omega)) rfl rfl ?_
 refine aa ?_
 refine cd rfl ?_
 refine pTO ?_
 refine rt ?_
 exact bj rfl rfl (fun w hw => ⟨rfl, ah hw⟩)
theorem FI (e : Option Addr) (cap : Nat) (bs : List (BitVec 8)) (hcap : bs.length ≤ cap) (h : bs.length ≤ 60) (z : W12) (hA : Pure Tryz.prog Gt 24 [bv (S10 (ZB ((bs.drop (bs.length / 2)).take (bs.length - bs.length / 2))) (S7 (ZB ((bs.drop 0).take (bs.length / 2))) (S2 (ZB bs) K12.one)))] (bv z)) (hB : Pure Tryz.prog Gt 25 [TT (S10 (ZB ((bs.drop (bs.length / 2)).take (bs.length - bs.length / 2))) (S7 (ZB ((bs.drop 0).take (bs.length / 2))) (S2 (ZB bs) K12.one)))] (TT z)) (w : World) (hw : Gt w) (hby : BytesAt w e bs) : Calls Tryz.prog 4 [.slice e bs.length cap].toArray w (fun r w' => r = .returned (.bool true) ∧ Grow w w') := by
 have hGF : BOk Gt (pl w) := gt_low.plain hw
 refine aP (G := Gt) Tryz.func4 rfl rfl (Hp (pl w) []) (a8 (pl w) trivial aq) (az hGF) ?_
 refine pTO ?_
 refine ao ?_
 refine pTO ?_
 refine bY rfl (fun _ => bH _) rfl rfl ?_
 refine aa ?_
 refine bB rfl ?_
 refine aE ?_
 refine ao ?_
 refine pTO ?_
 refine bP rfl (fun _ => bf Tryz.underlying22 _ _ _ _) rfl rfl ?_
 refine c8 false rfl rfl (fun _ => rfl) (fun _ => dJ _ _ _) (decide_eq_false (by omega)) rfl rfl ?_
 refine aa ?_
 refine bB rfl ?_
 refine aE ?_
 refine xp ?_
 refine lc ent22 (gS) ?_
 refine la zv49 fun b3 => ?_
 refine rTO ?_
 refine pTO ?_
 refine bR rfl rfl ent23 (fun w' hC hG => ji _ _ bs (by omega) hcap w' hG (hby.grow (ah hC))) rfl rfl ?_
 refine bg 0 rfl Tryz.underlying49 rfl Tryz.sizeOf47 (by decide) rfl rfl rfl ?_
 refine bg 12 rfl Tryz.underlying47 rfl Tryz.sizeOf33 (by decide) rfl rfl rfl ?_
 refine bg 12 rfl Tryz.underlying33 rfl Tryz.sizeOf27 (by decide) rfl rfl rfl ?_
 refine cm 3 (dC (S2 (ZB bs) K12.one)) hGF rfl rfl rfl Tryz.sizeOf27 (by simp) (ak _) (by simp) (st2 _ _) rfl ?_
 refine aa ?_
 refine pTO ?_
 refine bP rfl (fun _ => bf Tryz.underlying22 _ _ _ _) rfl rfl ?_
 refine ab (v := I ((bs.length / 2 : Nat) : Int)) rfl rfl (fun _ => rfl) (fun _ => dp _ _ _ (by decide) (show inI ((bs.length / 2 : Nat) : Int) by unfold inI; omega)) rfl rfl ?_
 refine jE (l := 0) (h' := bs.length / 2) rfl Tryz.underlying22 Tryz.sizeOf5 rfl rfl (by omega) rfl rfl ?_
 refine bR rfl rfl ent23 (fun w' hC hG => ox e cap bs 0 (bs.length / 2) _ _ rfl (by omega) (by omega) hcap (by omega) w' hG (hby.grow (ah hC))) rfl rfl ?_
 refine bg 36 rfl Tryz.underlying49 rfl Tryz.sizeOf47 (by decide) rfl rfl rfl ?_
 refine bg 36 rfl Tryz.underlying47 rfl Tryz.sizeOf33 (by decide) rfl rfl rfl ?_
 refine bg 42 rfl Tryz.underlying33 rfl Tryz.sizeOf27 (by decide) rfl rfl rfl ?_
 refine cm 3 (dC (S7 (ZB ((bs.drop 0).take (bs.length / 2))) (S2 (ZB bs) K12.one))) hGF rfl rfl rfl Tryz.sizeOf27 (by simp) (ak _) (by simp) (st7 _ _) rfl ?_
 refine aa ?_
 refine pTO ?_
 refine bP rfl (fun _ => bf Tryz.underlying22 _ _ _ _) rfl rfl ?_
 refine ab (v := I ((bs.length / 2 : Nat) : Int)) rfl rfl (fun _ => rfl) (fun _ => dp _ _ _ (by decide) (show inI ((bs.length / 2 : Nat) : Int) by unfold inI; omega)) rfl rfl ?_
 refine jE (l := bs.length / 2) (h' := bs.length) rfl Tryz.underlying22 Tryz.sizeOf5 rfl rfl (by omega) rfl rfl ?_
 refine bR rfl rfl ent23 (fun w' hC hG => ox e cap bs (bs.length / 2) (bs.length - bs.length / 2) _ _ rfl (by omega) (by omega) hcap (by omega) w' hG (hby.grow (ah hC))) rfl rfl ?_
 refine bg 36 rfl Tryz.underlying49 rfl Tryz.sizeOf47 (by decide) rfl rfl rfl ?_
 refine bg 60 rfl Tryz.underlying47 rfl Tryz.sizeOf33 (by decide) rfl rfl rfl ?_
 refine bg 60 rfl Tryz.underlying33 rfl Tryz.sizeOf27 (by decide) rfl rfl rfl ?_
 refine cm 3 (dC (S10 (ZB ((bs.drop (bs.length / 2)).take (bs.length - bs.length / 2))) (S7 (ZB ((bs.drop 0).take (bs.length / 2))) (S2 (ZB bs) K12.one)))) hGF rfl rfl rfl Tryz.sizeOf27 (by simp) (ak _) (by simp) (st10 _ _) rfl ?_
 refine aa ?_
 refine bx (E := EE []) a7 (by kernel_rfl) (by kernel_rfl) (by kernel_rfl) ?_
 refine rTO ?_
 refine lc ent24 (hA) ?_
 refine lc ent17 (mt z) ?_
 refine rTO ?_
 refine aG rfl rfl ent17 (mt (S10 (ZB ((bs.drop (bs.length / 2)).take (bs.length - bs.length / 2))) (S7 (ZB ((bs.drop 0).take (bs.length / 2))) (S2 (ZB bs) K12.one)))) rfl rfl ?_
 refine lc ent25 (hB) ?_
 refine c8 true rfl rfl (fun _ => Fv _ _ _ _ _ _) (fun w => Hu _ _ (by simp) (by simp) w) (decide_eq_true rfl) rfl rfl ?_
 refine rTO ?_
 refine xx nL rfl rfl ?_
 refine lc ent24 (F2) ?_
 refine dZ true rfl rfl ent26 (gE K12.zero) (decide_eq_true rfl) rfl rfl ?_
 refine rTO ?_
 refine rt ?_
 exact bj rfl rfl (fun w hw => ⟨rfl, ah hw⟩)
theorem sE (e : Option Addr) (cap : Nat) (bs : List (BitVec 8)) (hcap : bs.length ≤ cap) (w : World) (hw : Gt w) (hby : BytesAt w e bs) : Calls Tryz.prog 4 [.slice e bs.length cap].toArray w (fun r w' => r = .returned (.bool true) ∧ Grow w w') := by
 by_cases h : bs.length ≤ 60
 ·exact FI e cap bs hcap h _ (mp _) (tr _) w hw hby
 ·exact GG e cap bs h w hw
end Q6
end Go.Proofs.YtpnpiblphnpfiaaGreatDoor
