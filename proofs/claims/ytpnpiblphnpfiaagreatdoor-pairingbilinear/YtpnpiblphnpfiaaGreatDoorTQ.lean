/-
 The law PairingBilinear.
-/
import Derived.Test.YtpnpiblphnpfiaaGreatDoorTP
import Derived.Test.YtpnpiblphnpfiaaGreatDoorXF
import Derived.Test.YtpnpiblphnpfiaaGreatDoorX5
namespace Go.Proofs.YtpnpiblphnpfiaaGreatDoor
open Go.RowKit
set_option maxRecDepth 100000
set_option maxHeartbeats 1000000
attribute [local simp] aP bc aM aH aA a9 aF aE aG PLl bY ca N1l cb cf bZ aU ba aN aZ a7 J1.bk J2.bk Q6.bX Q6.dd
theorem rTQ {Q P : Prop} (k : Q) (h : Q → P := by intro k; (refine LY.run ?_); (repeat (first | refine bI rfl rfl rfl ?_ | refine bd rfl rfl rfl ?_ | ((refine C9 rfl rfl ?_ rfl rfl ?_); (· simp)) | ((refine wE rfl rfl ?_ rfl rfl ?_); (· simp)) | ((refine wJ rfl rfl ?_ rfl rfl ?_); (· simp)) | ((refine pF rfl rfl ?_ rfl rfl ?_); (· simp)) | ((refine na hGF rfl rfl rfl ?_ ?_ (ak _) rfl ?_); (· simp); (· simp)) | ((refine wO hGF rfl rfl rfl ?_ ?_ (ak _) rfl ?_); (· simp); (· simp)) | ((refine EL hGF rfl rfl rfl ?_ ?_ (ak _) rfl ?_); (· simp); (· simp)) | ((refine u0 hGF rfl rfl rfl ?_ ?_ (ak _) rfl ?_); (· simp); (· simp)) | ((refine FQ hGF rfl rfl rfl ?_ ?_ (gX _) rfl ?_); (· simp); (· simp)) | refine bT (f := 10) rfl rfl ent10 zz rfl rfl ?_ | refine bT (f := 11) rfl rfl ent11 (J1.nq) rfl rfl ?_ | refine fI rfl rfl rfl rfl rfl ?_)); (first | refine cm ?_ | refine LY.mk ?_); exact k) : P := h k
theorem pTQ {Q P : Prop} (k : Q) (h : Q → P := by intro k; (refine xp ?_); (refine rTQ ?_); exact k) : P := h k
attribute [local simp] fF fZ

namespace Q6
theorem Ez : ORD = RR := by decide +kernel
theorem HD {E F : W12} {z : Zr} (h : K12.pw E z.val = F) (b cap : Nat) (w : World) (hw : Gt w) (hr : w.rangeAt b 0 ((lp z).map U8)) : Calls Tryz.prog 30 [bg E, .slice (some ⟨b, 0, none⟩) 32 cap].toArray w (fun r w' => r = .returned (bg F) ∧ Grow w w') := by
 have k := s8 E (some ⟨b, 0, none⟩) cap (lp z) (by rw [fZ]; decide) w hw (BytesAt.range hr)
 rw [fZ, yJ, h] at k
 exact k
theorem PR_r {P : Pt Zp} (hP : E1.onP P) {Q : Pt W2} (hQ : E2w.onP Q) (hq : E2w.times Q ORD = none) : K12.pw (PR L63 FE P Q) ORD = K12.one := by
 rw [← AF sG sK jY ld hP hQ hq, hq, GW]
theorem BH {x : W12} {r : Nat} (h : K12.pw x r = K12.one) (n : Nat) : K12.pw x (n % r) = K12.pw x n := by
 conv => rhs; rw [← Nat.mod_add_div n r, K12.pw_add, K12.pw_mul, h, K12.one_pw, K12.mul_one]
theorem HZ {P : Pt Zp} (hP : E1.onP P) {Q : Pt W2} (hQ : E2w.onP Q) (hq : E2w.times Q ORD = none) (x y : Zr) : K12.pw (PR L63 FE P Q) (x * y).val = PR L63 FE (E1.times P x.val) (E2w.times Q y.val) := by
 rw [zN sG sK jY ld hP (E2w.times_on hQ _) (E2w.times_ord hQ hq _), AF sG sK jY ld hP hQ hq, ← K12.pw_mul, Fin.val_mul, show (x.val * y.val) % RR = (x.val * y.val) % ORD by rw [Ez], BH (PR_r hP hQ hq), Nat.mul_comm]
theorem PR_z {P : Pt Zp} (hP : E1.onP P) {Q : Pt W2} (hQ : E2w.onP Q) (hq : E2w.times Q ORD = none) (z : Zr) : K12.pw (PR L63 FE P Q) z.val = PR L63 FE (E1.times P z.val) Q := by
 rw [zN sG sK jY ld hP hQ hq]
theorem CH (e0 : Option Addr) (cap0 : Nat) (bs0 : List (BitVec 8)) (e1 : Option Addr) (cap1 : Nat) (bs1 : List (BitVec 8)) (e2 : Option Addr) (cap2 : Nat) (bs2 : List (BitVec 8)) (e3 : Option Addr) (cap3 : Nat) (bs3 : List (BitVec 8))  (h0 : ¬ bs0.length ≤ 32) (w : World) (hw : Gt w)  : Calls Tryz.prog 5 [.slice e0 bs0.length cap0, .slice e1 bs1.length cap1, .slice e2 bs2.length cap2, .slice e3 bs3.length cap3].toArray w (fun r w' => r = .returned (.bool true) ∧ Grow w w') := by
 have hGF : BOk Gt (pl w) := gt_low.plain hw
 refine aB (G := Gt) Tryz.func5 rfl rfl (Hp (pl w) []) (aJ (pl w) trivial ai) (ap hGF) ?_
 refine pTQ ?_
 refine ao ?_
 refine pTQ ?_
 refine bx rfl (fun _ => bf _) rfl rfl ?_
 refine aa ?_
 refine bl rfl ?_
 refine az ?_
 refine ao ?_
 refine pTQ ?_
 refine bt rfl (fun _ => aK Tryz.underlying22 _ _ _ _) rfl rfl ?_
 refine bK true rfl rfl (fun _ => rfl) (fun _ => bF _ _ _) (decide_eq_true (by omega)) rfl rfl ?_
 refine rTQ ?_
 refine aC rfl rfl rfl ?_
 refine aC rfl rfl rfl ?_
 refine aC rfl rfl rfl ?_
 refine rTQ ?_
 refine aC rfl rfl rfl ?_
 refine aC rfl rfl rfl ?_
 refine aC rfl rfl rfl ?_
 refine rTQ ?_
 refine aC rfl rfl rfl ?_
 refine aC rfl rfl rfl ?_
 refine aC rfl rfl rfl ?_
 refine rTQ ?_
 refine bV rfl ?_
 refine pTQ ?_
 refine rt ?_
 exact a5 rfl rfl (fun w hw => ⟨rfl, ah hw⟩)
theorem BY (e0 : Option Addr) (cap0 : Nat) (bs0 : List (BitVec 8)) (e1 : Option Addr) (cap1 : Nat) (bs1 : List (BitVec 8)) (e2 : Option Addr) (cap2 : Nat) (bs2 : List (BitVec 8)) (e3 : Option Addr) (cap3 : Nat) (bs3 : List (BitVec 8)) (h0 : bs0.length ≤ 32) (h1 : ¬ bs1.length ≤ 32) (w : World) (hw : Gt w)  : Calls Tryz.prog 5 [.slice e0 bs0.length cap0, .slice e1 bs1.length cap1, .slice e2 bs2.length cap2, .slice e3 bs3.length cap3].toArray w (fun r w' => r = .returned (.bool true) ∧ Grow w w') := by
 have hGF : BOk Gt (pl w) := gt_low.plain hw
 refine aB (G := Gt) Tryz.func5 rfl rfl (Hp (pl w) []) (aJ (pl w) trivial ai) (ap hGF) ?_
 refine pTQ ?_
 refine ao ?_
 refine pTQ ?_
 refine bx rfl (fun _ => bf _) rfl rfl ?_
 refine aa ?_
 refine bl rfl ?_
 refine az ?_
 refine ao ?_
 refine pTQ ?_
 refine bt rfl (fun _ => aK Tryz.underlying22 _ _ _ _) rfl rfl ?_
 refine bK false rfl rfl (fun _ => rfl) (fun _ => bF _ _ _) (decide_eq_false (by omega)) rfl rfl ?_
 refine rTQ ?_
 refine bt rfl (fun _ => aK Tryz.underlying22 _ _ _ _) rfl rfl ?_
 refine bK true rfl rfl (fun _ => rfl) (fun _ => bF _ _ _) (decide_eq_true (by omega)) rfl rfl ?_
 refine rTQ ?_
 refine aC rfl rfl rfl ?_
 refine aC rfl rfl rfl ?_
 refine aC rfl rfl rfl ?_
 refine rTQ ?_
 refine aC rfl rfl rfl ?_
 refine aC rfl rfl rfl ?_
 refine aC rfl rfl rfl ?_
 refine rTQ ?_
 refine bV rfl ?_
 refine pTQ ?_
 refine rt ?_
 exact a5 rfl rfl (fun w hw => ⟨rfl, ah hw⟩)
theorem Eg (e0 : Option Addr) (cap0 : Nat) (bs0 : List (BitVec 8)) (e1 : Option Addr) (cap1 : Nat) (bs1 : List (BitVec 8)) (e2 : Option Addr) (cap2 : Nat) (bs2 : List (BitVec 8)) (e3 : Option Addr) (cap3 : Nat) (bs3 : List (BitVec 8)) (h0 : bs0.length ≤ 32) (h1 : bs1.length ≤ 32) (h2 : ¬ bs2.length ≤ 8) (w : World) (hw : Gt w)  : Calls Tryz.prog 5 [.slice e0 bs0.length cap0, .slice e1 bs1.length cap1, .slice e2 bs2.length cap2, .slice e3 bs3.length cap3].toArray w (fun r w' => r = .returned (.bool true) ∧ Grow w w') := by
 have hGF : BOk Gt (pl w) := gt_low.plain hw
 refine aB (G := Gt) Tryz.func5 rfl rfl (Hp (pl w) []) (aJ (pl w) trivial ai) (ap hGF) ?_
 refine pTQ ?_
 refine ao ?_
 refine pTQ ?_
 refine bx rfl (fun _ => bf _) rfl rfl ?_
 refine aa ?_
 refine bl rfl ?_
 refine az ?_
 refine ao ?_
 refine pTQ ?_
 refine bt rfl (fun _ => aK Tryz.underlying22 _ _ _ _) rfl rfl ?_
 refine bK false rfl rfl (fun _ => rfl) (fun _ => bF _ _ _) (decide_eq_false (by omega)) rfl rfl ?_
 refine rTQ ?_
 refine bt rfl (fun _ => aK Tryz.underlying22 _ _ _ _) rfl rfl ?_
 refine bK false rfl rfl (fun _ => rfl) (fun _ => bF _ _ _) (decide_eq_false (by omega)) rfl rfl ?_
 refine rTQ ?_
 refine bt rfl (fun _ => aK Tryz.underlying22 _ _ _ _) rfl rfl ?_
 refine bK true rfl rfl (fun _ => rfl) (fun _ => bF _ _ _) (decide_eq_true (by omega)) rfl rfl ?_
 refine rTQ ?_
 refine aC rfl rfl rfl ?_
 refine aC rfl rfl rfl ?_
 refine aC rfl rfl rfl ?_
 refine rTQ ?_
 refine bV rfl ?_
 refine pTQ ?_
 refine rt ?_
 exact a5 rfl rfl (fun w hw => ⟨rfl, ah hw⟩)
theorem Et (e0 : Option Addr) (cap0 : Nat) (bs0 : List (BitVec 8)) (e1 : Option Addr) (cap1 : Nat) (bs1 : List (BitVec 8)) (e2 : Option Addr) (cap2 : Nat) (bs2 : List (BitVec 8)) (e3 : Option Addr) (cap3 : Nat) (bs3 : List (BitVec 8)) (h0 : bs0.length ≤ 32) (h1 : bs1.length ≤ 32) (h2 : bs2.length ≤ 8) (h3 : ¬ bs3.length ≤ 8) (w : World) (hw : Gt w)  : Calls Tryz.prog 5 [.slice e0 bs0.length cap0, .slice e1 bs1.length cap1, .slice e2 bs2.length cap2, .slice e3 bs3.length cap3].toArray w (fun r w' => r = .returned (.bool true) ∧ Grow w w') := by
 have hGF : BOk Gt (pl w) := gt_low.plain hw
 refine aB (G := Gt) Tryz.func5 rfl rfl (Hp (pl w) []) (aJ (pl w) trivial ai) (ap hGF) ?_
 refine pTQ ?_
 refine ao ?_
 refine pTQ ?_
 refine bx rfl (fun _ => bf _) rfl rfl ?_
 refine aa ?_
 refine bl rfl ?_
 refine az ?_
 refine ao ?_
 refine pTQ ?_
 refine bt rfl (fun _ => aK Tryz.underlying22 _ _ _ _) rfl rfl ?_
 refine bK false rfl rfl (fun _ => rfl) (fun _ => bF _ _ _) (decide_eq_false (by omega)) rfl rfl ?_
 refine rTQ ?_
 refine bt rfl (fun _ => aK Tryz.underlying22 _ _ _ _) rfl rfl ?_
 refine bK false rfl rfl (fun _ => rfl) (fun _ => bF _ _ _) (decide_eq_false (by omega)) rfl rfl ?_
 refine rTQ ?_
 refine bt rfl (fun _ => aK Tryz.underlying22 _ _ _ _) rfl rfl ?_
 refine bK false rfl rfl (fun _ => rfl) (fun _ => bF _ _ _) (decide_eq_false (by omega)) rfl rfl ?_
 refine rTQ ?_
 refine bt rfl (fun _ => aK Tryz.underlying22 _ _ _ _) rfl rfl ?_
 refine bK true rfl rfl (fun _ => rfl) (fun _ => bF _ _ _) (decide_eq_true (by omega)) rfl rfl ?_
 refine rTQ ?_
 refine bV rfl ?_
 refine pTQ ?_
 refine rt ?_
 exact a5 rfl rfl (fun w hw => ⟨rfl, ah hw⟩)
theorem Fl (e0 : Option Addr) (cap0 : Nat) (bs0 : List (BitVec 8)) (e1 : Option Addr) (cap1 : Nat) (bs1 : List (BitVec 8)) (e2 : Option Addr) (cap2 : Nat) (bs2 : List (BitVec 8)) (e3 : Option Addr) (cap3 : Nat) (bs3 : List (BitVec 8)) (h0 : bs0.length ≤ 32) (h1 : bs1.length ≤ 32) (h2 : bs2.length ≤ 8) (h3 : bs3.length ≤ 8) (hc0 : bs0.length ≤ cap0) (hc1 : bs1.length ≤ cap1) (p : J1.GP) (q : J2.GP) (E F D : W12) (hM2 : ∀ w', Gt w' → BytesAt w' e2 bs2 → Calls Tryz.prog 12 [J1.PtV J1.gGen, .slice e2 bs2.length cap2].toArray w' (fun y w'' => y = .returned (J1.PtV p) ∧ Grow w' w'')) (hM3 : ∀ w', Gt w' → BytesAt w' e3 bs3 → Calls Tryz.prog 14 [J2.PtV J2.gGen, .slice e3 bs3.length cap3].toArray w' (fun y w'' => y = .returned (J2.PtV q) ∧ Grow w' w'')) (hE : Pure Tryz.prog Gt 18 [J1.PtV p, J2.PtV q] (bg (E))) (hA : Pure Tryz.prog Gt 18 [J1.PtV (J1.dj p (QB bs0)), J2.PtV (J2.dj q (QB bs1))] (bg (F))) (hB : Pure Tryz.prog Gt 18 [J1.PtV (J1.dj p ((QB bs0) * (QB bs1))), J2.PtV q] (bg (F))) (hR : Pure Tryz.prog Gt 18 [J1.PtV (J1.dj J1.gGen (QB bs1)), J2.PtV q] (bg (D))) (hS : Pure Tryz.prog Gt 18 [J1.PtV (J1.ti p (J1.dj J1.gGen (QB bs1))), J2.PtV q] (bg (K12.mul E D))) (hF : ∀ (b cap : Nat) (w' : World), Gt w' → w'.rangeAt b 0 ((lp ((QB bs0) * (QB bs1))).map U8) → Calls Tryz.prog 30 [bg E, .slice (some ⟨b, 0, none⟩) 32 cap].toArray w' (fun r w'' => r = .returned (bg F) ∧ Grow w' w'')) (w : World) (hw : Gt w) (hb0 : BytesAt w e0 bs0) (hb1 : BytesAt w e1 bs1) (hb2 : BytesAt w e2 bs2) (hb3 : BytesAt w e3 bs3) : Calls Tryz.prog 5 [.slice e0 bs0.length cap0, .slice e1 bs1.length cap1, .slice e2 bs2.length cap2, .slice e3 bs3.length cap3].toArray w (fun r w' => r = .returned (.bool true) ∧ Grow w w') := by
 have hGF : BOk Gt (pl w) := gt_low.plain hw
 refine aB (G := Gt) Tryz.func5 rfl rfl (Hp (pl w) []) (aJ (pl w) trivial ai) (ap hGF) ?_
 refine pTQ ?_
 refine ao ?_
 refine pTQ ?_
 refine bx rfl (fun _ => bf _) rfl rfl ?_
 refine aa ?_
 refine bl rfl ?_
 refine az ?_
 refine ao ?_
 refine pTQ ?_
 refine bt rfl (fun _ => aK Tryz.underlying22 _ _ _ _) rfl rfl ?_
 refine bK false rfl rfl (fun _ => rfl) (fun _ => bF _ _ _) (decide_eq_false (by omega)) rfl rfl ?_
 refine rTQ ?_
 refine bt rfl (fun _ => aK Tryz.underlying22 _ _ _ _) rfl rfl ?_
 refine bK false rfl rfl (fun _ => rfl) (fun _ => bF _ _ _) (decide_eq_false (by omega)) rfl rfl ?_
 refine rTQ ?_
 refine bt rfl (fun _ => aK Tryz.underlying22 _ _ _ _) rfl rfl ?_
 refine bK false rfl rfl (fun _ => rfl) (fun _ => bF _ _ _) (decide_eq_false (by omega)) rfl rfl ?_
 refine rTQ ?_
 refine bt rfl (fun _ => aK Tryz.underlying22 _ _ _ _) rfl rfl ?_
 refine bK false rfl rfl (fun _ => rfl) (fun _ => bF _ _ _) (decide_eq_false (by omega)) rfl rfl ?_
 refine rTQ ?_
 refine bl rfl ?_
 refine az ?_
 refine pTQ ?_
 refine bE rfl rfl ent27 (fun w' hC hG => i1 e0 cap0 bs0 (by omega) hc0 w' hG (hb0.grow (ah hC))) rfl rfl ?_
 refine rTQ ?_
 refine bE rfl rfl ent27 (fun w' hC hG => i1 e1 cap1 bs1 (by omega) hc1 w' hG (hb1.grow (ah hC))) rfl rfl ?_
 refine la zv63 fun b9 => ?_
 refine la zv63 fun b10 => ?_
 refine rTQ ?_
 refine pTQ ?_
 refine bE rfl rfl ent12 (fun w' hC hG => hM2 w' hG (hb2.grow (ah hC))) rfl rfl ?_
 refine lc ent13 (J2.nq) ?_
 refine rTQ ?_
 refine bE rfl rfl ent14 (fun w' hC hG => hM3 w' hG (hb3.grow (ah hC))) rfl rfl ?_
 refine la J1.zv29 fun b11 => ?_
 refine la J2.zv35 fun b12 => ?_
 refine rTQ ?_
 refine pTQ ?_
 refine lc ent18 (hE) ?_
 refine la zv49 fun b13 => ?_
 refine rTQ ?_
 refine pTQ ?_
 refine aD rfl rfl ent28 (l6 (QB bs0) (QB bs1)) rfl rfl ?_
 refine aD rfl rfl ent29 (nd ((QB bs0) * (QB bs1))) rfl rfl ?_
 refine la zv65 fun b14 => ?_
 refine rTQ ?_
 refine bU (E := EE [2999999]) [0, 1, 2] [⟨3, 15, 49, (((fe 0 ++ fe 0) ++ ((fe 0 ++ fe 0) ++ (fe 0 ++ fe 0))) ++ ((fe 0 ++ fe 0) ++ ((fe 0 ++ fe 0) ++ (fe 0 ++ fe 0)))).map U64⟩] [4] bq rfl (by kernel_rfl) (by kernel_rfl) (by kernel_rfl) (by kernel_rfl) (by kernel_rfl) (by kernel_rfl) (by decide) (by intro x hx; simp only [List.mem_cons, List.not_mem_nil, or_false] at hx; subst hx; exact bz rfl zv49 rfl) ?_
 refine rTQ ?_
 refine dy (l := 0) (h' := 32) rfl Tryz.underlying65 Tryz.sizeOf5 rfl rfl (by decide) (by decide) rfl rfl ?_
 refine bE rfl rfl ent30 (fun w' hC hG => hF b14 _ w' hG (cK (n := 14) rfl w' hC)) rfl rfl ?_
 refine aa ?_
 refine ⟨_, _, rfl, hGF, by intro x hx; simp only [List.mem_cons, List.not_mem_nil, or_false] at hx; subst hx; rfl, by intro x hx; simp only [List.mem_cons, List.not_mem_nil, or_false] at hx; subst hx; rfl, fun adr => ?_⟩
 refine rTQ ?_
 refine bU (E := EE [2999999]) [0, 1, 2] [⟨3, 16, 29, (J1.GL J1.gInf).map U64⟩] [4] bq rfl (by kernel_rfl) (by kernel_rfl) (by kernel_rfl) (by kernel_rfl) (by kernel_rfl) (by kernel_rfl) (by decide) (by intro x hx; simp only [List.mem_cons, List.not_mem_nil, or_false] at hx; subst hx; exact bz rfl J1.zv29 rfl) ?_
 refine rTQ ?_
 refine aD rfl rfl ent31 (J1.ic J1.gGen (QB bs1)) rfl rfl ?_
 refine aa ?_
 refine ⟨_, _, rfl, hGF, by intro x hx; simp only [List.mem_cons, List.not_mem_nil, or_false] at hx; subst hx; rfl, by intro x hx; simp only [List.mem_cons, List.not_mem_nil, or_false] at hx; subst hx; rfl, fun adr => ?_⟩
 refine rTQ ?_
 refine tl (E := EE []) [(61, [11], []), (62, [9], []), (63, [60, 61], [0, 1]), (64, [12], []), (65, [10], []), (66, [63, 64], [3, 4, 2]), (67, [62, 65], [2, 5, 5]), (68, [15], []), (69, [66, 67], [6, 7, 6]), (70, [68], [8, 8]), (71, [11, 69], [9]), (72, [9, 69], [9]), (73, [10, 69], [9]), (74, [71, 72, 69], [11, 12, 9, 9]), (75, [70, 73, 69], [10, 13, 13, 9]), (76, [12, 69], [9]), (77, [74, 75, 69], [14, 15, 14, 9]), (78, [15, 69], [9]), (79, [76, 77, 69], [16, 17, 16, 9]), (80, [69, 78], [9, 18]), (81, [79], [19, 18]), (82, [11, 80], [20]), (83, [16, 80], [20]), (84, [81, 82, 80], [21, 22, 20, 20]), (85, [12, 80], [20]), (86, [83, 84, 80], [23, 24, 23, 20]), (87, [13, 80], [20]), (88, [16, 80], [20]), (89, [12, 80], [20]), (90, [87, 88, 80], [27, 28, 25, 20]), (91, [86, 89, 80], [26, 29, 29, 20]), (92, [85, 90, 80], [25, 30, 30, 20]), (93, [80, 91], [20, 31]), (9, [92], [32, 31, 0, 1, 2, 3, 4, 5, 6, 7, 8, 9, 10, 11, 12, 13, 14, 15, 16, 17, 18, 19, 20, 21, 22, 23, 24, 25, 26, 27, 28, 29, 30, 31, 32])] bq (by kernel_rfl) (by kernel_rfl) (by kernel_rfl) (by kernel_rfl) (by kernel_rfl) ?_
 refine rTQ ?_
 refine aD rfl rfl ent31 (J1.ic p (QB bs0)) rfl rfl ?_
 refine rTQ ?_
 refine aD rfl rfl ent32 (J2.ic q (QB bs1)) rfl rfl ?_
 refine lc ent18 (hA) ?_
 refine rTQ ?_
 refine da true rfl rfl ent33 (dJ _ _) (decide_eq_true rfl) rfl rfl ?_
 refine rTQ ?_
 refine aD rfl rfl ent28 (l6 (QB bs0) (QB bs1)) rfl rfl ?_
 refine aD rfl rfl ent31 (J1.ic p ((QB bs0) * (QB bs1))) rfl rfl ?_
 refine rTQ ?_
 refine lc ent18 (hB) ?_
 refine rTQ ?_
 refine da true rfl rfl ent33 (dJ _ _) (decide_eq_true rfl) rfl rfl ?_
 refine rTQ ?_
 refine aD rfl rfl ent34 (J1.Ap p (J1.dj J1.gGen (QB bs1))) rfl rfl ?_
 refine rTQ ?_
 refine lc ent18 (hS) ?_
 refine rTQ ?_
 refine lc ent18 (hR) ?_
 refine lc ent35 (mP E D) ?_
 refine da true rfl rfl ent33 (dJ _ _) (decide_eq_true rfl) rfl rfl ?_
 refine rTQ ?_
 refine rt ?_
 exact a5 rfl rfl (fun w hw => ⟨rfl, ah hw⟩)
theorem zM (e0 : Option Addr) (cap0 : Nat) (bs0 : List (BitVec 8)) (e1 : Option Addr) (cap1 : Nat) (bs1 : List (BitVec 8)) (e2 : Option Addr) (cap2 : Nat) (bs2 : List (BitVec 8)) (e3 : Option Addr) (cap3 : Nat) (bs3 : List (BitVec 8)) (hc0 : bs0.length ≤ cap0) (hc1 : bs1.length ≤ cap1) (w : World) (hw : Gt w) (hb0 : BytesAt w e0 bs0) (hb1 : BytesAt w e1 bs1) (hb2 : BytesAt w e2 bs2) (hb3 : BytesAt w e3 bs3) : Calls Tryz.prog 5 [.slice e0 bs0.length cap0, .slice e1 bs1.length cap1, .slice e2 bs2.length cap2, .slice e3 bs3.length cap3].toArray w (fun r w' => r = .returned (.bool true) ∧ Grow w w') := by
 by_cases h0 : bs0.length ≤ 32
 ·by_cases h1 : bs1.length ≤ 32
  ·by_cases h2 : bs2.length ≤ 8
   ·by_cases h3 : bs3.length ≤ 8
    ·have m2 := fun w' hG hB => J1.vd J1.gGen e2 cap2 bs2 (by omega) w' hG hB
     have m3 := fun w' hG hB => J2.vd J2.gGen e3 cap3 bs3 (by omega) w' hG hB
     have hq : (J2.tw J2.gGen bs3).P = E2w.times (some G2p) (BN bs3 bs3.length) := rfl
     revert m2 m3 hq
     generalize J1.tw J1.gGen bs2 = p
     generalize J2.tw J2.gGen bs3 = q
     intro m2 m3 hq
     have qr : E2w.times q.P ORD = none := by rw [hq]; exact E2w.times_ord pt jQ _
     have hA := kO (J1.dj p (QB bs0)) (J2.dj q (QB bs1)) (E2w.times_ord q.on qr _)
     have hB := kO (J1.dj p ((QB bs0) * (QB bs1))) q qr
     have hR := kO (J1.dj J1.gGen (QB bs1)) q qr
     have hS := kO (J1.ti p (J1.dj J1.gGen (QB bs1))) q qr
     have n1 : (J1.dj p (QB bs0)).P = E1.times p.P (QB bs0).val := rfl
     have n2 : (J2.dj q (QB bs1)).P = E2w.times q.P (QB bs1).val := rfl
     have n3 : (J1.dj p ((QB bs0) * (QB bs1))).P = E1.times p.P ((QB bs0) * (QB bs1)).val := rfl
     have n4 : (J1.ti p (J1.dj J1.gGen (QB bs1))).P = E1.ad p.P (J1.dj J1.gGen (QB bs1)).P := rfl
     rw [n1, n2, ← HZ p.on q.on qr] at hA
     rw [n3, ← PR_z p.on q.on qr] at hB
     rw [n4, ← PR_1 sG sK jY ld p.on (J1.dj J1.gGen (QB bs1)).on q.on qr] at hS
     exact Fl e0 cap0 bs0 e1 cap1 bs1 e2 cap2 bs2 e3 cap3 bs3 h0 h1 h2 h3 hc0 hc1 p q _ _ _ m2 m3 (kO p q qr) hA hB hR hS (fun b cap w' hG hr => HD rfl b cap w' hG hr) w hw hb0 hb1 hb2 hb3
    ·exact Et e0 cap0 bs0 e1 cap1 bs1 e2 cap2 bs2 e3 cap3 bs3 h0 h1 h2 h3 w hw
   ·exact Eg e0 cap0 bs0 e1 cap1 bs1 e2 cap2 bs2 e3 cap3 bs3 h0 h1 h2 w hw
  ·exact BY e0 cap0 bs0 e1 cap1 bs1 e2 cap2 bs2 e3 cap3 bs3 h0 h1 w hw
 ·exact CH e0 cap0 bs0 e1 cap1 bs1 e2 cap2 bs2 e3 cap3 bs3 h0 w hw
end Q6
end Go.Proofs.YtpnpiblphnpfiaaGreatDoor
