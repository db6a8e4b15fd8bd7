/-
 The program's Loop, of pairs of the groups: the product of the document's values, up to elements of p^6; the law MillerLoops.
-/
import Derived.Test.YthkmeodnlidpfaaGreatDoorTH
import Derived.Test.YthkmeodnlidpfaaGreatDoorX5
namespace Go.Proofs.YthkmeodnlidpfaaGreatDoor
open Go.RowKit
set_option maxRecDepth 100000
set_option maxHeartbeats 1000000
attribute [local simp] fe_len nm_len AS_len SS_len MONT_len RM_len FRs_len BYs_len by48_len PLl TWOl ONEl N1l IVPl HFPl RTPl FL_len SP_len fe2_len SP2_len FM_len J1.GL_len J2.GL_len Q6.FF_len Q6.PRv_len
theorem rTI {Q P : Prop} (k : Q) (h : Q → P := by intro k; (refine LY.run ?_); (repeat (first | refine y_move rfl rfl rfl ?_ | refine y_assign rfl rfl rfl ?_ | ((refine ra31 rfl rfl ?_ rfl rfl ?_); (· simp)) | ((refine ra58 rfl rfl ?_ rfl rfl ?_); (· simp)) | ((refine ra39 rfl rfl ?_ rfl rfl ?_); (· simp)) | ((refine ra48 rfl rfl ?_ rfl rfl ?_); (· simp)) | ((refine sa39 hGF rfl rfl rfl ?_ ?_ (one_u64 _) rfl ?_); (· simp); (· simp)) | ((refine sa48 hGF rfl rfl rfl ?_ ?_ (one_u64 _) rfl ?_); (· simp); (· simp)) | ((refine sa31 hGF rfl rfl rfl ?_ ?_ (one_u64 _) rfl ?_); (· simp); (· simp)) | ((refine sa58 hGF rfl rfl rfl ?_ ?_ (one_u64 _) rfl ?_); (· simp); (· simp)) | refine y_call (f := 5) rfl rfl ent5 known11 rfl rfl ?_ | refine y_call (f := 21) rfl rfl ent21 (hV) rfl rfl ?_ | refine y_call (f := 10) rfl rfl ent10 (J2.inf_p) rfl rfl ?_ | refine y_call (f := 6) rfl rfl ent6 (J2.gen_p) rfl rfl ?_ | refine y_call (f := 17) rfl rfl ent17 (J1.gen_p) rfl rfl ?_ | refine y_call (f := 14) rfl rfl ent14 (J2.refs8 q) rfl rfl ?_ | refine y_call (f := 22) rfl rfl ent22 (J1.refs8 p) rfl rfl ?_ | refine y_call (f := 20) rfl rfl ent20 (J1.inf_p) rfl rfl ?_ | refine y_pick rfl rfl rfl rfl rfl ?_)); (first | refine y_nil ?_ | refine LY.mk ?_); exact k) : P := h k
theorem pTI {Q P : Prop} (k : Q) (h : Q → P := by intro k; (refine xp ?_); (refine rTI ?_); exact k) : P := h k

namespace Q6
def LPv (f : Nat → J1.GP × J2.GP) (n : Nat) : W12 := cj12 (SK (WSf f n) 63).2
theorem SK_63 (W : List WK) : SK W 63 = rdK L63 (W, K12.one) := by rw [SK, List.take_of_length_le (by rw [D63_len]; exact Nat.le_refl _), D63_L]
def WGo (w : WK) : Prop := w = wkB w.1 w.2.1 ∧ E2w.on w.2.1 ∧ E2w.times (some w.2.1) ORD = none
theorem WSf_go {f : Nat → J1.GP × J2.GP} : ∀ {n : Nat}, (∀ i, i < n → E2w.times (f i).2.P ORD = none) → ∀ w ∈ WSf f n, WGo w
 | 0, _, w, hw => by cases hw
 | n + 1, h, w, hw => by
  have ih := WSf_go (f := f) (n := n) fun i hi => h i (by omega)
  by_cases h1 : (f n).1.P = none
  ·rw [WSf_p h1] at hw; exact ih w hw
  ·by_cases h2 : (f n).2.P = none
   ·rw [WSf_q h1 h2] at hw; exact ih w hw
   ·rw [WSf_y h1 h2, List.mem_append, List.mem_singleton] at hw
    rcases hw with hw | rfl
    ·exact ih w hw
    ·obtain ⟨q, hq⟩ := some_of h2
     have e : (J2.PX (f n).2.P, J2.PY (f n).2.P) = q := by rw [hq]; rfl
     have ho := (f n).2.on
     have hr := h n (by omega)
     rw [hq] at ho hr
     refine ⟨rfl, ?_, ?_⟩
     ·show E2w.on (J2.PX (f n).2.P, J2.PY (f n).2.P); rw [e]; exact ho
     ·show E2w.times (some (J2.PX (f n).2.P, J2.PY (f n).2.P)) ORD = none; rw [e]; exact hr
theorem RdOk0 {W : List WK} (h : ∀ w ∈ W, WGo w) : RdOk [] (W, K12.one) := ⟨fun w hw => by
  obtain ⟨e, h1, h2⟩ := h w hw
  refine ⟨⟨h1, h2, ?_⟩, rfl⟩
  show E2w.jr w.2.2 (E2w.times (some w.2.1) 1)
  rw [tm1, e]
  exact jr2_at w.2.1, by
  show Up6 K12.one (pr12 (W.map fun _ => K12.one))
  rw [pr12_one]; exact Up6.refl _⟩
theorem SK_z {W : List WK} (h : ∀ w ∈ W, WGo w) (k : Nat) (hk : k < 63) (_ : DGb k = true) : ∀ w ∈ (SK W k).1.map wDb, ¬ w.2.2.2.2 = ze2 := fun w hw => by
 obtain ⟨v, hv, rfl⟩ := List.mem_map.1 hw
 have r := (RdOk0 h).all k (D63.take k) (by rw [List.length_take, D63_len]; omega) (by omega)
 have hl := pre_lt hk
 have h1 := ((r.w v hv).1.dbl (D63_pre k (by omega)).1 (by omega)).1
 obtain ⟨a, ha⟩ := some_of (tm_ne h1.on h1.qr (m := 2 * bitsM (D63.take k) 1) (by have := (D63_pre k (by omega)).1; omega) (by omega))
 have hj := h1.jr
 rw [ha] at hj
 exact hj.1
theorem SK_nil {W : List WK} (h : W = []) (k : Nat) (hk : k ≤ 63) : (SK W k).1 = [] := List.length_eq_zero_iff.1 (by rw [SK_len W k hk, h]; rfl)
theorem loop_c (n : Nat) (f : Nat → J1.GP × J2.GP) (b cap : Nat) (hn : n ≤ 1000) (hf : ∀ i, i < n → E2w.times (f i).2.P ORD = none) (w : World) (hw : Gt w) (h : w.rangeAt b 0 ((RW 54 (fun i => PRv (f i)) n).map U64)) : Calls Tryz.prog 19 [.slice (some ⟨b, 0, none⟩) n cap].toArray w (fun r w' => r = .returned (EV12 (LPv f n)) ∧ Grow w w') := by
 have hG := WSf_go hf
 have hl := Nat.le_trans (WSf_len f n) hn
 have hb := fun w' hw' hr => begin_c n f b cap hn w' hw' hr
 rw [LPv]
 revert h hb
 generalize (RW 54 (fun i => PRv (f i)) n).map U64 = cs
 intro h hb
 by_cases h0 : WSf f n = []
 ·refine loop_n (WSf f n) n b cap cs (SK_nil h0) (fun w' hw' hr => (hb w' hw' hr).mono fun r w'' h => ?_) w hw h
  rcases h with ⟨_, _, _, _, _, _, _, _, e⟩ | ⟨_, h⟩
  ·exact absurd h0 e
  ·exact h
 ·refine loop_y (WSf f n) n b cap cs hl (SK_z hG) (fun w' hw' hr => (hb w' hw' hr).mono fun r w'' h => ?_) w hw h
  rcases h with ⟨bW, cW, capW, h1, h2, h3, h4, h5, _⟩ | ⟨e, _⟩
  ·refine ⟨bW, cW.drop (wcl (WSf f n)).length, capW, h1, h2, h3, ?_⟩
   have e : wcl (WSf f n) ++ cW.drop (wcl (WSf f n)).length = cW := by
    conv => lhs; arg 1; rw [← h5]
    exact List.take_append_drop _ _
   rw [e]; exact h4
  ·exact absurd e h0
def PRD (f : Nat → J1.GP × J2.GP) : Nat → W12
 | 0 => K12.one
 | i + 1 => K12.mul (PRD f i) (cj12 (ML L63 (f i).1.P (f i).2.P))
theorem pr12_app : ∀ l m : List W12, pr12 (l ++ m) = K12.mul (pr12 l) (pr12 m)
 | [], m => (K12.one_mul _).symm
 | x :: l, m => by rw [List.cons_append, pr12, pr12_app l m, pr12, K12.mul_assoc]
theorem PRD_W (f : Nat → J1.GP × J2.GP) : ∀ n, cj12 (pr12 ((WSf f n).map fun w => ML L63 (some w.1) (some w.2.1))) = PRD f n
 | 0 => cj12_one
 | n + 1 => by
  have ih := PRD_W f n
  rw [PRD]
  by_cases h1 : (f n).1.P = none
  ·rw [WSf_p h1, ih, h1, ML_n1, cj12_one, K12.mul_one]
  ·by_cases h2 : (f n).2.P = none
   ·rw [WSf_q h1 h2, ih, h2, ML_n2, cj12_one, K12.mul_one]
   ·have e1 : some (J1.PX (f n).1.P, J1.PY (f n).1.P) = (f n).1.P := (J1.pt_some h1).symm
    have e2 : some (J2.PX (f n).2.P, J2.PY (f n).2.P) = (f n).2.P := by
     obtain ⟨q, hq⟩ := some_of h2
     rw [hq]; rfl
    rw [WSf_y h1 h2, List.map_append, pr12_app, cj12_mul, ih]
    show K12.mul (PRD f n) (cj12 (K12.mul (ML L63 (some (J1.PX (f n).1.P, J1.PY (f n).1.P)) (some (J2.PX (f n).2.P, J2.PY (f n).2.P))) K12.one)) = _
    rw [e1, e2, K12.mul_one]
theorem LPv_up {f : Nat → J1.GP × J2.GP} {n : Nat} (hf : ∀ i, i < n → E2w.times (f i).2.P ORD = none) : Up6 (LPv f n) (PRD f n) := by
 have k := loop_ok (WSf f n) (WSf_go hf)
 rw [PRD_W] at k
 rw [LPv, SK_63]
 exact k
theorem EG_n0 : EG ≠ K12.zero := fun e => by
 have k := EG_r
 rw [e, pw_zero (by decide +kernel)] at k
 exact K12_one_ne k.symm
theorem pw_n0 {x : W12} (h : x ≠ K12.zero) : ∀ n, K12.pw x n ≠ K12.zero
 | 0 => K12_one_ne
 | n + 1 => fun e => (fd12.two e).elim (pw_n0 h n) h
theorem val_n0 (k m : Nat) : cj12 (ML L63 (E1.times (some G1p) k) (E2w.times (some G2p) m)) ≠ K12.zero := fun e => by
 have h := PR_gen k m
 rw [PR, e, FN_0 FE_pos] at h
 exact pw_n0 EG_n0 _ h.symm
theorem gone_ok {a b : W12} (h : Up6 a b) (hb : b ≠ K12.zero) : a ≠ K12.zero ∧ FINr UG (K12.mul a (iv12 b)) = K12.one := by
 refine ⟨h.ne hb, ?_⟩
 rw [FIN_pw]
 show FN FE (K12.mul a (iv12 b)) = K12.one
 rw [FN_mul, h.fn FE_6, ← FN_mul, iv12_mul hb]
 exact FN_one
theorem RW_one (f : Nat → J1.GP × J2.GP) : (RW 54 (fun i => PRv (f i)) 1).map U64 = (PRv (f 0)).map U64 := congrArg (List.map U64) (List.ext_getElem? fun m => by
 by_cases h : m < 54
 ·rw [RW_get _ 1 m (by omega), show m / 54 = 0 by omega, show m % 54 = m by omega, List.getD_eq_getElem?_getD, List.getElem?_eq_getElem (by rw [PRv_len]; exact h)]
  rfl
 ·rw [List.getElem?_eq_none (by rw [RW_len]; omega), List.getElem?_eq_none (by rw [PRv_len]; omega)])
theorem two63 : Two Tryz.prog 63 ⟨ "P", 58, 0, false, "", "", 0⟩ ⟨ "Q", 31, 18, false, "", "", 144⟩ 18 36 (List.replicate 18 (0#64)) (List.replicate 36 (0#64)) := ⟨Tryz.underlying63, rfl, rfl, Tryz.sizeOf58, Tryz.sizeOf31, fun w => (Tryz.zeroValue63 w).trans (by rfl), by simp, by simp⟩
def f3p (p : J1.GP) (q : J2.GP) : Nat → J1.GP × J2.GP
 | 0 => (p, q)
 | 1 => (p, J2.gInf)
 | _ => (J1.gInf, q)
def swp (f : Nat → J1.GP × J2.GP) (i m : Nat) : J1.GP × J2.GP := if m = i then f 0 else if m = 0 then f i else f m
theorem swp_row (f : Nat → J1.GP × J2.GP) (i m : Nat) : (if m = i then PRv (f 0) else if m = 0 then PRv (f i) else PRv (f m)) = PRv (swp f i m) := by
 unfold swp
 split
 ·rfl
 ·split <;> rfl
theorem swp_ord {p : J1.GP} {q : J2.GP} (hq : E2w.times q.P ORD = none) {i : Nat} (m : Nat) : E2w.times (swp (f3p p q) i m).2.P ORD = none := by
 have h : ∀ j, E2w.times (f3p p q j).2.P ORD = none := fun j => by
  match j with
  | 0 => exact hq
  | 1 => exact E2w.times_none _
  | _ + 2 => exact hq
 unfold swp
 split
 ·exact h 0
 ·split <;> exact h _
theorem PRD_1 (p : J1.GP) (q : J2.GP) : PRD (fun _ => (p, q)) 1 = cj12 (ML L63 p.P q.P) := K12.one_mul _
theorem PRD_3 (p : J1.GP) (q : J2.GP) {i : Nat} (hi : i < 3) : PRD (swp (f3p p q) i) 3 = cj12 (ML L63 p.P q.P) := by
 have e1 : cj12 (ML L63 p.P (J2.gInf).P) = K12.one := by rw [show (J2.gInf).P = none from rfl, ML_n2, cj12_one]
 have e2 : cj12 (ML L63 (J1.gInf).P q.P) = K12.one := by rw [show (J1.gInf).P = none from rfl, ML_n1, cj12_one]
 match i, hi with
 | 0, _ =>
  show K12.mul (K12.mul (K12.mul K12.one (cj12 (ML L63 p.P q.P))) (cj12 (ML L63 p.P (J2.gInf).P))) (cj12 (ML L63 (J1.gInf).P q.P)) = _
  rw [e1, e2, K12.mul_one, K12.mul_one, K12.one_mul]
 | 1, _ =>
  show K12.mul (K12.mul (K12.mul K12.one (cj12 (ML L63 p.P (J2.gInf).P))) (cj12 (ML L63 p.P q.P))) (cj12 (ML L63 (J1.gInf).P q.P)) = _
  rw [e1, e2, K12.mul_one, K12.mul_one, K12.one_mul]
 | 2, _ =>
  show K12.mul (K12.mul (K12.mul K12.one (cj12 (ML L63 (J1.gInf).P q.P))) (cj12 (ML L63 p.P (J2.gInf).P))) (cj12 (ML L63 p.P q.P)) = _
  rw [e1, e2, K12.mul_one, K12.mul_one, K12.one_mul]
theorem loops_two (k m : Nat) (p : J1.GP) (q : J2.GP) (hp : p.P = E1.times (some G1p) k) (hq : q.P = E2w.times (some G2p) m) {i : Nat} (hi : i < 3) : ∃ a b c : W12, LPv (fun _ => (p, q)) 1 = a ∧ LPv (swp (f3p p q) i) 3 = b ∧ cj12 (ML L63 p.P q.P) = c ∧ Pure Tryz.prog Gt 23 [TT a, TT c] (.bool true) ∧ Pure Tryz.prog Gt 23 [TT b, TT c] (.bool true) := by
 have qr : E2w.times q.P ORD = none := by rw [hq]; exact E2w.times_ord G2_on' g2_order m
 have hc : cj12 (ML L63 p.P q.P) ≠ K12.zero := by rw [hp, hq]; exact val_n0 k m
 have ua := LPv_up (f := fun _ => (p, q)) (n := 1) (fun _ _ => qr)
 have ub := LPv_up (f := swp (f3p p q) i) (n := 3) (fun j _ => swp_ord qr j)
 rw [PRD_1] at ua
 rw [PRD_3 p q hi] at ub
 have ga := gone_ok ua hc
 have gb := gone_ok ub hc
 exact ⟨_, _, _, rfl, rfl, rfl, gone_y _ _ ga.1 hc ga.2, gone_y _ _ gb.1 hc gb.2⟩
theorem loops_b0 (e0 : Option Addr) (cap0 : Nat) (bs0 : List (BitVec 8)) (e1 : Option Addr) (cap1 : Nat) (bs1 : List (BitVec 8)) (z : Int)  (h0 : ¬ bs0.length ≤ 4) (w : World) (hw : Gt w)  : Calls Tryz.prog 4 [.slice e0 bs0.length cap0, .slice e1 bs1.length cap1, I z].toArray w (fun r w' => r = .returned (.bool true) ∧ Grow w w') := by
 have hGF : BOk Gt (pl w) := gt_low.plain hw
 refine calls_of_X (G := Gt) Tryz.func4 rfl rfl (Hp (pl w) []) (hp_refl (pl w) trivial rides_true) (good_hp hGF) ?_
 refine pTI ?_
 refine x_seq ?_
 refine pTI ?_
 refine lx_un rfl (fun _ => un_not _) rfl rfl ?_
 refine lx_nil ?_
 refine x_false rfl ?_
 refine x_skip ?_
 refine x_seq ?_
 refine pTI ?_
 refine lx_len rfl (fun _ => len_slice Tryz.underlying22 _ _ _ _) rfl rfl ?_
 refine lx_binB true rfl rfl (fun _ => rfl) (fun _ => bin_gtr_i _ _ _) (decide_eq_true (by omega)) rfl rfl ?_
 refine rTI ?_
 refine lx_skip rfl rfl rfl ?_
 refine lx_skip rfl rfl rfl ?_
 refine lx_skip rfl rfl rfl ?_
 refine rTI ?_
 refine x_true rfl ?_
 refine pTI ?_
 refine rt ?_
 exact kret_tmp rfl rfl (fun w hw => ⟨rfl, hp_below hw⟩)
theorem loops_b1 (e0 : Option Addr) (cap0 : Nat) (bs0 : List (BitVec 8)) (e1 : Option Addr) (cap1 : Nat) (bs1 : List (BitVec 8)) (z : Int) (h0 : bs0.length ≤ 4) (h1 : ¬ bs1.length ≤ 4) (w : World) (hw : Gt w)  : Calls Tryz.prog 4 [.slice e0 bs0.length cap0, .slice e1 bs1.length cap1, I z].toArray w (fun r w' => r = .returned (.bool true) ∧ Grow w w') := by
 have hGF : BOk Gt (pl w) := gt_low.plain hw
 refine calls_of_X (G := Gt) Tryz.func4 rfl rfl (Hp (pl w) []) (hp_refl (pl w) trivial rides_true) (good_hp hGF) ?_
 refine pTI ?_
 refine x_seq ?_
 refine pTI ?_
 refine lx_un rfl (fun _ => un_not _) rfl rfl ?_
 refine lx_nil ?_
 refine x_false rfl ?_
 refine x_skip ?_
 refine x_seq ?_
 refine pTI ?_
 refine lx_len rfl (fun _ => len_slice Tryz.underlying22 _ _ _ _) rfl rfl ?_
 refine lx_binB false rfl rfl (fun _ => rfl) (fun _ => bin_gtr_i _ _ _) (decide_eq_false (by omega)) rfl rfl ?_
 refine rTI ?_
 refine lx_len rfl (fun _ => len_slice Tryz.underlying22 _ _ _ _) rfl rfl ?_
 refine lx_binB true rfl rfl (fun _ => rfl) (fun _ => bin_gtr_i _ _ _) (decide_eq_true (by omega)) rfl rfl ?_
 refine rTI ?_
 refine x_true rfl ?_
 refine pTI ?_
 refine rt ?_
 exact kret_tmp rfl rfl (fun w hw => ⟨rfl, hp_below hw⟩)
theorem loops_k0 (e0 : Option Addr) (cap0 : Nat) (bs0 : List (BitVec 8)) (e1 : Option Addr) (cap1 : Nat) (bs1 : List (BitVec 8)) (z : Int) (h0 : bs0.length ≤ 4) (h1 : bs1.length ≤ 4) (hz : z % 3 = 0) (p : J1.GP) (q : J2.GP) (a b c : W12) (hM0 : ∀ w', Gt w' → BytesAt w' e0 bs0 → Calls Tryz.prog 18 [J1.PtV J1.gGen, .slice e0 bs0.length cap0].toArray w' (fun y w'' => y = .returned (J1.PtV p) ∧ Grow w' w'')) (hM1 : ∀ w', Gt w' → BytesAt w' e1 bs1 → Calls Tryz.prog 7 [J2.PtV J2.gGen, .slice e1 bs1.length cap1].toArray w' (fun y w'' => y = .returned (J2.PtV q) ∧ Grow w' w'')) (hL1 : ∀ (d : Nat) (w' : World), Gt w' → w'.rangeAt d 0 ((PRv (p, q)).map U64) → Calls Tryz.prog 19 [.slice (some ⟨d, 0, none⟩) 1 1].toArray w' (fun y w'' => y = .returned (EV12 a) ∧ Grow w' w'')) (hL3 : ∀ (d : Nat) (w' : World), Gt w' → w'.rangeAt d 0 ((RW 54 (fun m => if m = 0 then PRv (f3p p q 0) else if m = 0 then PRv (f3p p q 0) else PRv (f3p p q m)) 3).map U64) → Calls Tryz.prog 19 [.slice (some ⟨d, 0, none⟩) 3 3].toArray w' (fun y w'' => y = .returned (EV12 b) ∧ Grow w' w'')) (hV : Pure Tryz.prog Gt 21 [EV6 (RJ p.P), EV6 (RJ2 q.P)] (TT c)) (hA : Pure Tryz.prog Gt 23 [TT a, TT c] (.bool true)) (hB : Pure Tryz.prog Gt 23 [TT b, TT c] (.bool true)) (w : World) (hw : Gt w) (hb0 : BytesAt w e0 bs0) (hb1 : BytesAt w e1 bs1) : Calls Tryz.prog 4 [.slice e0 bs0.length cap0, .slice e1 bs1.length cap1, I z].toArray w (fun r w' => r = .returned (.bool true) ∧ Grow w w') := by
 have hGF : BOk Gt (pl w) := gt_low.plain hw
 refine calls_of_X (G := Gt) Tryz.func4 rfl rfl (Hp (pl w) []) (hp_refl (pl w) trivial rides_true) (good_hp hGF) ?_
 refine pTI ?_
 refine x_seq ?_
 refine pTI ?_
 refine lx_un rfl (fun _ => un_not _) rfl rfl ?_
 refine lx_nil ?_
 refine x_false rfl ?_
 refine x_skip ?_
 refine x_seq ?_
 refine pTI ?_
 refine lx_len rfl (fun _ => len_slice Tryz.underlying22 _ _ _ _) rfl rfl ?_
 refine lx_binB false rfl rfl (fun _ => rfl) (fun _ => bin_gtr_i _ _ _) (decide_eq_false (by omega)) rfl rfl ?_
 refine rTI ?_
 refine lx_len rfl (fun _ => len_slice Tryz.underlying22 _ _ _ _) rfl rfl ?_
 refine lx_binB false rfl rfl (fun _ => rfl) (fun _ => bin_gtr_i _ _ _) (decide_eq_false (by omega)) rfl rfl ?_
 refine rTI ?_
 refine x_false rfl ?_
 refine x_skip ?_
 refine pTI ?_
 refine lx_callC rfl rfl ent18 (fun w' hC hG => hM0 w' hG (hb0.grow (hp_below hC))) rfl rfl ?_
 refine rTI ?_
 refine lx_callC rfl rfl ent7 (fun w' hC hG => hM1 w' hG (hb1.grow (hp_below hC))) rfl rfl ?_
 refine la J1.zv58 fun b7 => ?_
 refine la J2.zv31 fun b8 => ?_
 refine rTI ?_
 refine pTI ?_
 refine lx_two two63 rfl rfl (by simp) (by simp) rfl rfl ?_
 refine lx_bslW1 33 ((PRv (p, q)).map U64) hGF rfl (by simp) (by decide) (by decide) Tryz.underlying64 Tryz.sizeOf63 zv63 rfl rfl ?_
 intro b33
 refine lx_callC rfl rfl ent19 (fun w' hC hG => hL1 b33 w' hG (hp_row (n := 33) rfl w' hC)) rfl rfl ?_
 refine la zv39 fun b9 => ?_
 refine rTI ?_
 refine xs_drawn (E := EE []) mixed (by kernel_rfl) (by kernel_rfl) (by kernel_rfl) ?_
 refine rTI ?_
 refine lx_two two63 rfl rfl (by simp) (by simp) rfl rfl ?_
 refine rTI ?_
 refine lx_two two63 rfl rfl (by simp) (by simp) rfl rfl ?_
 refine rTI ?_
 refine lx_two two63 rfl rfl (by simp) (by simp) rfl rfl ?_
 refine lx_bslWG (s := 54) 44 (fun i => PRv (f3p p q i)) (List.replicate 54 (0#64)) hGF rfl rfl rfl (fun i _ => PRv_len _) (by decide) (by decide) Tryz.underlying64 Tryz.sizeOf63 (by simp) zv63 rfl rfl ?_
 intro b44
 refine rTI ?_
 refine pTI ?_
 refine lx_call rfl rfl ent8 (place_pure z 3 (by decide) (by unfold inI; decide)) rfl rfl ?_
 rw [hz]
 refine rTI ?_
 refine xs_drawn (E := EE []) mixed (by kernel_rfl) (by kernel_rfl) (by kernel_rfl) ?_
 refine rTI ?_
 refine lx_isW (s := 54) 0 rfl rfl Tryz.underlying64 Tryz.sizeOf63 (by decide) (by decide) rfl rfl ?_
 refine lx_loado 44 ((PRv (f3p p q 0)).map U64) rfl rfl Tryz.isAgg63 Tryz.sizeOf63 (by simp) (RW_load (fun m => PRv (f3p p q m)) 3 0 (by decide) (PRv_len _) _ rfl) rfl rfl ?_
 refine rTI ?_
 refine lx_isW (s := 54) 0 rfl rfl Tryz.underlying64 Tryz.sizeOf63 (by decide) (by decide) rfl rfl ?_
 refine lx_loado 44 ((PRv (f3p p q 0)).map U64) rfl rfl Tryz.isAgg63 Tryz.sizeOf63 (by simp) (RW_load (fun m => PRv (f3p p q m)) 3 0 (by decide) (PRv_len _) _ rfl) rfl rfl ?_
 refine lx_isW (s := 54) 0 rfl rfl Tryz.underlying64 Tryz.sizeOf63 (by decide) (by decide) rfl rfl ?_
 refine lx_storeo 44 ((RW 54 (fun m => if m = 0 then PRv (f3p p q 0) else PRv (f3p p q m)) 3).map U64) hGF rfl rfl rfl Tryz.sizeOf63 (by simp) (one_u64 _) (by simp [RW_len]) (RW_lay (s := 54) (fun m => PRv (f3p p q m)) 3 0 (PRv (f3p p q 0)) (by decide) (PRv_len _) _ rfl) rfl ?_
 refine lx_isW (s := 54) 0 rfl rfl Tryz.underlying64 Tryz.sizeOf63 (by decide) (by decide) rfl rfl ?_
 refine lx_storeo 44 ((RW 54 (fun m => if m = 0 then PRv (f3p p q 0) else if m = 0 then PRv (f3p p q 0) else PRv (f3p p q m)) 3).map U64) hGF rfl rfl rfl Tryz.sizeOf63 (by simp) (one_u64 _) (by simp [RW_len]) (RW_lay (s := 54) (fun m => if m = 0 then PRv (f3p p q 0) else PRv (f3p p q m)) 3 0 (PRv (f3p p q 0)) (by decide) (PRv_len _) _ rfl) rfl ?_
 refine lx_nil ?_
 refine pTI ?_
 refine lx_callC rfl rfl ent19 (fun w' hC hG => hL3 b44 w' hG (hp_row (n := 44) rfl w' hC)) rfl rfl ?_
 refine la zv39 fun b12 => ?_
 refine rTI ?_
 refine xs_drawA (E := EE [2999999]) [0, 1, 2, 3, 4] [⟨5, 13, 48, (FM (FF fun _ => ze2) 6).map U64⟩] [6] mixed rfl (by kernel_rfl) (by kernel_rfl) (by kernel_rfl) (by kernel_rfl) (by kernel_rfl) (by kernel_rfl) (by decide) (by intro x hx; simp only [List.mem_cons, List.not_mem_nil, or_false] at hx; subst hx; exact isAlloc_mk rfl zv48 rfl) ?_
 refine rTI ?_
 refine ⟨_, _, rfl, hGF, by intro x hx; simp only [List.mem_cons, List.not_mem_nil, or_false] at hx; subst hx; rfl, by intro x hx; simp only [List.mem_cons, List.not_mem_nil, or_false] at hx; subst hx; rfl, fun adr => ?_⟩
 refine rTI ?_
 refine xs_drawn (E := EE []) mixed (by kernel_rfl) (by kernel_rfl) (by kernel_rfl) ?_
 refine rTI ?_
 refine lc ent16 (refs11 a) ?_
 refine rTI ?_
 refine lc ent23 hA ?_
 refine rTI ?_
 refine lc ent16 (refs11 b) ?_
 refine rTI ?_
 refine lc ent23 hB ?_
 refine rTI ?_
 refine rt ?_
 exact kret_tmp rfl rfl (fun w hw => ⟨rfl, hp_below hw⟩)
theorem loops_k1 (e0 : Option Addr) (cap0 : Nat) (bs0 : List (BitVec 8)) (e1 : Option Addr) (cap1 : Nat) (bs1 : List (BitVec 8)) (z : Int) (h0 : bs0.length ≤ 4) (h1 : bs1.length ≤ 4) (hz : z % 3 = 1) (p : J1.GP) (q : J2.GP) (a b c : W12) (hM0 : ∀ w', Gt w' → BytesAt w' e0 bs0 → Calls Tryz.prog 18 [J1.PtV J1.gGen, .slice e0 bs0.length cap0].toArray w' (fun y w'' => y = .returned (J1.PtV p) ∧ Grow w' w'')) (hM1 : ∀ w', Gt w' → BytesAt w' e1 bs1 → Calls Tryz.prog 7 [J2.PtV J2.gGen, .slice e1 bs1.length cap1].toArray w' (fun y w'' => y = .returned (J2.PtV q) ∧ Grow w' w'')) (hL1 : ∀ (d : Nat) (w' : World), Gt w' → w'.rangeAt d 0 ((PRv (p, q)).map U64) → Calls Tryz.prog 19 [.slice (some ⟨d, 0, none⟩) 1 1].toArray w' (fun y w'' => y = .returned (EV12 a) ∧ Grow w' w'')) (hL3 : ∀ (d : Nat) (w' : World), Gt w' → w'.rangeAt d 0 ((RW 54 (fun m => if m = 1 then PRv (f3p p q 0) else if m = 0 then PRv (f3p p q 1) else PRv (f3p p q m)) 3).map U64) → Calls Tryz.prog 19 [.slice (some ⟨d, 0, none⟩) 3 3].toArray w' (fun y w'' => y = .returned (EV12 b) ∧ Grow w' w'')) (hV : Pure Tryz.prog Gt 21 [EV6 (RJ p.P), EV6 (RJ2 q.P)] (TT c)) (hA : Pure Tryz.prog Gt 23 [TT a, TT c] (.bool true)) (hB : Pure Tryz.prog Gt 23 [TT b, TT c] (.bool true)) (w : World) (hw : Gt w) (hb0 : BytesAt w e0 bs0) (hb1 : BytesAt w e1 bs1) : Calls Tryz.prog 4 [.slice e0 bs0.length cap0, .slice e1 bs1.length cap1, I z].toArray w (fun r w' => r = .returned (.bool true) ∧ Grow w w') := by
 have hGF : BOk Gt (pl w) := gt_low.plain hw
 refine calls_of_X (G := Gt) Tryz.func4 rfl rfl (Hp (pl w) []) (hp_refl (pl w) trivial rides_true) (good_hp hGF) ?_
 refine pTI ?_
 refine x_seq ?_
 refine pTI ?_
 refine lx_un rfl (fun _ => un_not _) rfl rfl ?_
 refine lx_nil ?_
 refine x_false rfl ?_
 refine x_skip ?_
 refine x_seq ?_
 refine pTI ?_
 refine lx_len rfl (fun _ => len_slice Tryz.underlying22 _ _ _ _) rfl rfl ?_
 refine lx_binB false rfl rfl (fun _ => rfl) (fun _ => bin_gtr_i _ _ _) (decide_eq_false (by omega)) rfl rfl ?_
 refine rTI ?_
 refine lx_len rfl (fun _ => len_slice Tryz.underlying22 _ _ _ _) rfl rfl ?_
 refine lx_binB false rfl rfl (fun _ => rfl) (fun _ => bin_gtr_i _ _ _) (decide_eq_false (by omega)) rfl rfl ?_
 refine rTI ?_
 refine x_false rfl ?_
 refine x_skip ?_
 refine pTI ?_
 refine lx_callC rfl rfl ent18 (fun w' hC hG => hM0 w' hG (hb0.grow (hp_below hC))) rfl rfl ?_
 refine rTI ?_
 refine lx_callC rfl rfl ent7 (fun w' hC hG => hM1 w' hG (hb1.grow (hp_below hC))) rfl rfl ?_
 refine la J1.zv58 fun b7 => ?_
 refine la J2.zv31 fun b8 => ?_
 refine rTI ?_
 refine pTI ?_
 refine lx_two two63 rfl rfl (by simp) (by simp) rfl rfl ?_
 refine lx_bslW1 33 ((PRv (p, q)).map U64) hGF rfl (by simp) (by decide) (by decide) Tryz.underlying64 Tryz.sizeOf63 zv63 rfl rfl ?_
 intro b33
 refine lx_callC rfl rfl ent19 (fun w' hC hG => hL1 b33 w' hG (hp_row (n := 33) rfl w' hC)) rfl rfl ?_
 refine la zv39 fun b9 => ?_
 refine rTI ?_
 refine xs_drawn (E := EE []) mixed (by kernel_rfl) (by kernel_rfl) (by kernel_rfl) ?_
 refine rTI ?_
 refine lx_two two63 rfl rfl (by simp) (by simp) rfl rfl ?_
 refine rTI ?_
 refine lx_two two63 rfl rfl (by simp) (by simp) rfl rfl ?_
 refine rTI ?_
 refine lx_two two63 rfl rfl (by simp) (by simp) rfl rfl ?_
 refine lx_bslWG (s := 54) 44 (fun i => PRv (f3p p q i)) (List.replicate 54 (0#64)) hGF rfl rfl rfl (fun i _ => PRv_len _) (by decide) (by decide) Tryz.underlying64 Tryz.sizeOf63 (by simp) zv63 rfl rfl ?_
 intro b44
 refine rTI ?_
 refine pTI ?_
 refine lx_call rfl rfl ent8 (place_pure z 3 (by decide) (by unfold inI; decide)) rfl rfl ?_
 rw [hz]
 refine rTI ?_
 refine xs_drawn (E := EE []) mixed (by kernel_rfl) (by kernel_rfl) (by kernel_rfl) ?_
 refine rTI ?_
 refine lx_isW (s := 54) 1 rfl rfl Tryz.underlying64 Tryz.sizeOf63 (by decide) (by decide) rfl rfl ?_
 refine lx_loado 44 ((PRv (f3p p q 1)).map U64) rfl rfl Tryz.isAgg63 Tryz.sizeOf63 (by simp) (RW_load (fun m => PRv (f3p p q m)) 3 1 (by decide) (PRv_len _) _ rfl) rfl rfl ?_
 refine rTI ?_
 refine lx_isW (s := 54) 0 rfl rfl Tryz.underlying64 Tryz.sizeOf63 (by decide) (by decide) rfl rfl ?_
 refine lx_loado 44 ((PRv (f3p p q 0)).map U64) rfl rfl Tryz.isAgg63 Tryz.sizeOf63 (by simp) (RW_load (fun m => PRv (f3p p q m)) 3 0 (by decide) (PRv_len _) _ rfl) rfl rfl ?_
 refine lx_isW (s := 54) 0 rfl rfl Tryz.underlying64 Tryz.sizeOf63 (by decide) (by decide) rfl rfl ?_
 refine lx_storeo 44 ((RW 54 (fun m => if m = 0 then PRv (f3p p q 1) else PRv (f3p p q m)) 3).map U64) hGF rfl rfl rfl Tryz.sizeOf63 (by simp) (one_u64 _) (by simp [RW_len]) (RW_lay (s := 54) (fun m => PRv (f3p p q m)) 3 0 (PRv (f3p p q 1)) (by decide) (PRv_len _) _ rfl) rfl ?_
 refine lx_isW (s := 54) 1 rfl rfl Tryz.underlying64 Tryz.sizeOf63 (by decide) (by decide) rfl rfl ?_
 refine lx_storeo 44 ((RW 54 (fun m => if m = 1 then PRv (f3p p q 0) else if m = 0 then PRv (f3p p q 1) else PRv (f3p p q m)) 3).map U64) hGF rfl rfl rfl Tryz.sizeOf63 (by simp) (one_u64 _) (by simp [RW_len]) (RW_lay (s := 54) (fun m => if m = 0 then PRv (f3p p q 1) else PRv (f3p p q m)) 3 1 (PRv (f3p p q 0)) (by decide) (PRv_len _) _ rfl) rfl ?_
 refine lx_nil ?_
 refine pTI ?_
 refine lx_callC rfl rfl ent19 (fun w' hC hG => hL3 b44 w' hG (hp_row (n := 44) rfl w' hC)) rfl rfl ?_
 refine la zv39 fun b12 => ?_
 refine rTI ?_
 refine xs_drawA (E := EE [2999999]) [0, 1, 2, 3, 4] [⟨5, 13, 48, (FM (FF fun _ => ze2) 6).map U64⟩] [6] mixed rfl (by kernel_rfl) (by kernel_rfl) (by kernel_rfl) (by kernel_rfl) (by kernel_rfl) (by kernel_rfl) (by decide) (by intro x hx; simp only [List.mem_cons, List.not_mem_nil, or_false] at hx; subst hx; exact isAlloc_mk rfl zv48 rfl) ?_
 refine rTI ?_
 refine ⟨_, _, rfl, hGF, by intro x hx; simp only [List.mem_cons, List.not_mem_nil, or_false] at hx; subst hx; rfl, by intro x hx; simp only [List.mem_cons, List.not_mem_nil, or_false] at hx; subst hx; rfl, fun adr => ?_⟩
 refine rTI ?_
 refine xs_drawn (E := EE []) mixed (by kernel_rfl) (by kernel_rfl) (by kernel_rfl) ?_
 refine rTI ?_
 refine lc ent16 (refs11 a) ?_
 refine rTI ?_
 refine lc ent23 hA ?_
 refine rTI ?_
 refine lc ent16 (refs11 b) ?_
 refine rTI ?_
 refine lc ent23 hB ?_
 refine rTI ?_
 refine rt ?_
 exact kret_tmp rfl rfl (fun w hw => ⟨rfl, hp_below hw⟩)
theorem loops_k2 (e0 : Option Addr) (cap0 : Nat) (bs0 : List (BitVec 8)) (e1 : Option Addr) (cap1 : Nat) (bs1 : List (BitVec 8)) (z : Int) (h0 : bs0.length ≤ 4) (h1 : bs1.length ≤ 4) (hz : z % 3 = 2) (p : J1.GP) (q : J2.GP) (a b c : W12) (hM0 : ∀ w', Gt w' → BytesAt w' e0 bs0 → Calls Tryz.prog 18 [J1.PtV J1.gGen, .slice e0 bs0.length cap0].toArray w' (fun y w'' => y = .returned (J1.PtV p) ∧ Grow w' w'')) (hM1 : ∀ w', Gt w' → BytesAt w' e1 bs1 → Calls Tryz.prog 7 [J2.PtV J2.gGen, .slice e1 bs1.length cap1].toArray w' (fun y w'' => y = .returned (J2.PtV q) ∧ Grow w' w'')) (hL1 : ∀ (d : Nat) (w' : World), Gt w' → w'.rangeAt d 0 ((PRv (p, q)).map U64) → Calls Tryz.prog 19 [.slice (some ⟨d, 0, none⟩) 1 1].toArray w' (fun y w'' => y = .returned (EV12 a) ∧ Grow w' w'')) (hL3 : ∀ (d : Nat) (w' : World), Gt w' → w'.rangeAt d 0 ((RW 54 (fun m => if m = 2 then PRv (f3p p q 0) else if m = 0 then PRv (f3p p q 2) else PRv (f3p p q m)) 3).map U64) → Calls Tryz.prog 19 [.slice (some ⟨d, 0, none⟩) 3 3].toArray w' (fun y w'' => y = .returned (EV12 b) ∧ Grow w' w'')) (hV : Pure Tryz.prog Gt 21 [EV6 (RJ p.P), EV6 (RJ2 q.P)] (TT c)) (hA : Pure Tryz.prog Gt 23 [TT a, TT c] (.bool true)) (hB : Pure Tryz.prog Gt 23 [TT b, TT c] (.bool true)) (w : World) (hw : Gt w) (hb0 : BytesAt w e0 bs0) (hb1 : BytesAt w e1 bs1) : Calls Tryz.prog 4 [.slice e0 bs0.length cap0, .slice e1 bs1.length cap1, I z].toArray w (fun r w' => r = .returned (.bool true) ∧ Grow w w') := by
 have hGF : BOk Gt (pl w) := gt_low.plain hw
 refine calls_of_X (G := Gt) Tryz.func4 rfl rfl (Hp (pl w) []) (hp_refl (pl w) trivial rides_true) (good_hp hGF) ?_
 refine pTI ?_
 refine x_seq ?_
 refine pTI ?_
 refine lx_un rfl (fun _ => un_not _) rfl rfl ?_
 refine lx_nil ?_
 refine x_false rfl ?_
 refine x_skip ?_
 refine x_seq ?_
 refine pTI ?_
 refine lx_len rfl (fun _ => len_slice Tryz.underlying22 _ _ _ _) rfl rfl ?_
 refine lx_binB false rfl rfl (fun _ => rfl) (fun _ => bin_gtr_i _ _ _) (decide_eq_false (by omega)) rfl rfl ?_
 refine rTI ?_
 refine lx_len rfl (fun _ => len_slice Tryz.underlying22 _ _ _ _) rfl rfl ?_
 refine lx_binB false rfl rfl (fun _ => rfl) (fun _ => bin_gtr_i _ _ _) (decide_eq_false (by omega)) rfl rfl ?_
 refine rTI ?_
 refine x_false rfl ?_
 refine x_skip ?_
 refine pTI ?_
 refine lx_callC rfl rfl ent18 (fun w' hC hG => hM0 w' hG (hb0.grow (hp_below hC))) rfl rfl ?_
 refine rTI ?_
 refine lx_callC rfl rfl ent7 (fun w' hC hG => hM1 w' hG (hb1.grow (hp_below hC))) rfl rfl ?_
 refine la J1.zv58 fun b7 => ?_
 refine la J2.zv31 fun b8 => ?_
 refine rTI ?_
 refine pTI ?_
 refine lx_two two63 rfl rfl (by simp) (by simp) rfl rfl ?_
 refine lx_bslW1 33 ((PRv (p, q)).map U64) hGF rfl (by simp) (by decide) (by decide) Tryz.underlying64 Tryz.sizeOf63 zv63 rfl rfl ?_
 intro b33
 refine lx_callC rfl rfl ent19 (fun w' hC hG => hL1 b33 w' hG (hp_row (n := 33) rfl w' hC)) rfl rfl ?_
 refine la zv39 fun b9 => ?_
 refine rTI ?_
 refine xs_drawn (E := EE []) mixed (by kernel_rfl) (by kernel_rfl) (by kernel_rfl) ?_
 refine rTI ?_
 refine lx_two two63 rfl rfl (by simp) (by simp) rfl rfl ?_
 refine rTI ?_
 refine lx_two two63 rfl rfl (by simp) (by simp) rfl rfl ?_
 refine rTI ?_
 refine lx_two two63 rfl rfl (by simp) (by simp) rfl rfl ?_
 refine lx_bslWG (s := 54) 44 (fun i => PRv (f3p p q i)) (List.replicate 54 (0#64)) hGF rfl rfl rfl (fun i _ => PRv_len _) (by decide) (by decide) Tryz.underlying64 Tryz.sizeOf63 (by simp) zv63 rfl rfl ?_
 intro b44
 refine rTI ?_
 refine pTI ?_
 refine lx_call rfl rfl ent8 (place_pure z 3 (by decide) (by unfold inI; decide)) rfl rfl ?_
 rw [hz]
 refine rTI ?_
 refine xs_drawn (E := EE []) mixed (by kernel_rfl) (by kernel_rfl) (by kernel_rfl) ?_
 refine rTI ?_
 refine lx_isW (s := 54) 2 rfl rfl Tryz.underlying64 Tryz.sizeOf63 (by decide) (by decide) rfl rfl ?_
 refine lx_loado 44 ((PRv (f3p p q 2)).map U64) rfl rfl Tryz.isAgg63 Tryz.sizeOf63 (by simp) (RW_load (fun m => PRv (f3p p q m)) 3 2 (by decide) (PRv_len _) _ rfl) rfl rfl ?_
 refine rTI ?_
 refine lx_isW (s := 54) 0 rfl rfl Tryz.underlying64 Tryz.sizeOf63 (by decide) (by decide) rfl rfl ?_
 refine lx_loado 44 ((PRv (f3p p q 0)).map U64) rfl rfl Tryz.isAgg63 Tryz.sizeOf63 (by simp) (RW_load (fun m => PRv (f3p p q m)) 3 0 (by decide) (PRv_len _) _ rfl) rfl rfl ?_
 refine lx_isW (s := 54) 0 rfl rfl Tryz.underlying64 Tryz.sizeOf63 (by decide) (by decide) rfl rfl ?_
 refine lx_storeo 44 ((RW 54 (fun m => if m = 0 then PRv (f3p p q 2) else PRv (f3p p q m)) 3).map U64) hGF rfl rfl rfl Tryz.sizeOf63 (by simp) (one_u64 _) (by simp [RW_len]) (RW_lay (s := 54) (fun m => PRv (f3p p q m)) 3 0 (PRv (f3p p q 2)) (by decide) (PRv_len _) _ rfl) rfl ?_
 refine lx_isW (s := 54) 2 rfl rfl Tryz.underlying64 Tryz.sizeOf63 (by decide) (by decide) rfl rfl ?_
 refine lx_storeo 44 ((RW 54 (fun m => if m = 2 then PRv (f3p p q 0) else if m = 0 then PRv (f3p p q 2) else PRv (f3p p q m)) 3).map U64) hGF rfl rfl rfl Tryz.sizeOf63 (by simp) (one_u64 _) (by simp [RW_len]) (RW_lay (s := 54) (fun m => if m = 0 then PRv (f3p p q 2) else PRv (f3p p q m)) 3 2 (PRv (f3p p q 0)) (by decide) (PRv_len _) _ rfl) rfl ?_
 refine lx_nil ?_
 refine pTI ?_
 refine lx_callC rfl rfl ent19 (fun w' hC hG => hL3 b44 w' hG (hp_row (n := 44) rfl w' hC)) rfl rfl ?_
 refine la zv39 fun b12 => ?_
 refine rTI ?_
 refine xs_drawA (E := EE [2999999]) [0, 1, 2, 3, 4] [⟨5, 13, 48, (FM (FF fun _ => ze2) 6).map U64⟩] [6] mixed rfl (by kernel_rfl) (by kernel_rfl) (by kernel_rfl) (by kernel_rfl) (by kernel_rfl) (by kernel_rfl) (by decide) (by intro x hx; simp only [List.mem_cons, List.not_mem_nil, or_false] at hx; subst hx; exact isAlloc_mk rfl zv48 rfl) ?_
 refine rTI ?_
 refine ⟨_, _, rfl, hGF, by intro x hx; simp only [List.mem_cons, List.not_mem_nil, or_false] at hx; subst hx; rfl, by intro x hx; simp only [List.mem_cons, List.not_mem_nil, or_false] at hx; subst hx; rfl, fun adr => ?_⟩
 refine rTI ?_
 refine xs_drawn (E := EE []) mixed (by kernel_rfl) (by kernel_rfl) (by kernel_rfl) ?_
 refine rTI ?_
 refine lc ent16 (refs11 a) ?_
 refine rTI ?_
 refine lc ent23 hA ?_
 refine rTI ?_
 refine lc ent16 (refs11 b) ?_
 refine rTI ?_
 refine lc ent23 hB ?_
 refine rTI ?_
 refine rt ?_
 exact kret_tmp rfl rfl (fun w hw => ⟨rfl, hp_below hw⟩)
theorem loops_law (e0 : Option Addr) (cap0 : Nat) (bs0 : List (BitVec 8)) (e1 : Option Addr) (cap1 : Nat) (bs1 : List (BitVec 8)) (z : Int) (w : World) (hw : Gt w) (hb0 : BytesAt w e0 bs0) (hb1 : BytesAt w e1 bs1) : Calls Tryz.prog 4 [.slice e0 bs0.length cap0, .slice e1 bs1.length cap1, I z].toArray w (fun r w' => r = .returned (.bool true) ∧ Grow w w') := by
 by_cases h0 : bs0.length ≤ 4
 ·by_cases h1 : bs1.length ≤ 4
  ·have m0 := fun w' hG hB => J1.mul_c J1.gGen e0 cap0 bs0 (by omega) w' hG hB
   have m1 := fun w' hG hB => J2.mul_c J2.gGen e1 cap1 bs1 (by omega) w' hG hB
   have hp : (J1.gMul J1.gGen bs0).P = E1.times (some G1p) (BN bs0 bs0.length) := rfl
   have hq : (J2.gMul J2.gGen bs1).P = E2w.times (some G2p) (BN bs1 bs1.length) := rfl
   revert m0 m1 hp hq
   generalize J1.gMul J1.gGen bs0 = p
   generalize J2.gMul J2.gGen bs1 = q
   intro m0 m1 hp hq
   have qr : E2w.times q.P ORD = none := by rw [hq]; exact E2w.times_ord G2_on' g2_order _
   have a := Int.emod_nonneg z (by decide : (3 : Int) ≠ 0)
   have b := Int.emod_lt_of_pos z (by decide : (0 : Int) < 3)
   have hL1 : ∀ (d : Nat) (w' : World), Gt w' → w'.rangeAt d 0 ((PRv (p, q)).map U64) → Calls Tryz.prog 19 [.slice (some ⟨d, 0, none⟩) 1 1].toArray w' (fun y w'' => y = .returned (EV12 (LPv (fun _ => (p, q)) 1)) ∧ Grow w' w'') := fun d w' hG hr => loop_c 1 (fun _ => (p, q)) d 1 (by decide) (fun _ _ => qr) w' hG (by rw [RW_one]; exact hr)
   have hL3 : ∀ (i d : Nat) (w' : World), Gt w' → w'.rangeAt d 0 ((RW 54 (fun m => if m = i then PRv (f3p p q 0) else if m = 0 then PRv (f3p p q i) else PRv (f3p p q m)) 3).map U64) → Calls Tryz.prog 19 [.slice (some ⟨d, 0, none⟩) 3 3].toArray w' (fun y w'' => y = .returned (EV12 (LPv (swp (f3p p q) i) 3)) ∧ Grow w' w'') := fun i d w' hG hr => loop_c 3 (swp (f3p p q) i) d 3 (by decide) (fun j _ => swp_ord qr j) w' hG (by
    rw [RW_congr (g := fun m => PRv (swp (f3p p q) i m)) (fun m _ => swp_row (f3p p q) i m)] at hr
    exact hr)
   have hV := r12value p q qr
   have fin : ∀ i : Nat, i < 3 → z % 3 = (i : Int) → ∃ a b c : W12, LPv (fun _ => (p, q)) 1 = a ∧ LPv (swp (f3p p q) i) 3 = b ∧ cj12 (ML L63 p.P q.P) = c ∧ Pure Tryz.prog Gt 23 [TT a, TT c] (.bool true) ∧ Pure Tryz.prog Gt 23 [TT b, TT c] (.bool true) := fun i hi _ => loops_two _ _ p q hp hq hi
   have c : z % 3 = 0 ∨ z % 3 = 1 ∨ z % 3 = 2 := by omega
   rcases c with hz | hz | hz
   ·obtain ⟨a, b, c, ea, eb, ec, hA, hB⟩ := fin 0 (by decide) hz
    have hL3 := hL3 0
    rw [ea] at hL1
    rw [eb] at hL3
    rw [ec] at hV
    exact loops_k0 e0 cap0 bs0 e1 cap1 bs1 z h0 h1 hz p q a b c m0 m1 hL1 hL3 hV hA hB w hw hb0 hb1
   ·obtain ⟨a, b, c, ea, eb, ec, hA, hB⟩ := fin 1 (by decide) hz
    have hL3 := hL3 1
    rw [ea] at hL1
    rw [eb] at hL3
    rw [ec] at hV
    exact loops_k1 e0 cap0 bs0 e1 cap1 bs1 z h0 h1 hz p q a b c m0 m1 hL1 hL3 hV hA hB w hw hb0 hb1
   ·obtain ⟨a, b, c, ea, eb, ec, hA, hB⟩ := fin 2 (by decide) hz
    have hL3 := hL3 2
    rw [ea] at hL1
    rw [eb] at hL3
    rw [ec] at hV
    exact loops_k2 e0 cap0 bs0 e1 cap1 bs1 z h0 h1 hz p q a b c m0 m1 hL1 hL3 hV hA hB w hw hb0 hb1
  ·exact loops_b1 e0 cap0 bs0 e1 cap1 bs1 z h0 h1 w hw
 ·exact loops_b0 e0 cap0 bs0 e1 cap1 bs1 z h0 w hw
end Q6
end Go.Proofs.YthkmeodnlidpfaaGreatDoor
