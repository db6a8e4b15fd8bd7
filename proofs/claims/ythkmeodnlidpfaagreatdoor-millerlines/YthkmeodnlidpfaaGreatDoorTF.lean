/-
 The law MillerLines.
-/
import Derived.Test.YthkmeodnlidpfaaGreatDoorTE
import Derived.Test.YthkmeodnlidpfaaGreatDoorX5
namespace Go.Proofs.YthkmeodnlidpfaaGreatDoor
open Go.RowKit
set_option maxRecDepth 100000
set_option maxHeartbeats 1000000
attribute [local simp] fe_len nm_len AS_len SS_len MONT_len RM_len FRs_len BYs_len by48_len PLl TWOl ONEl N1l IVPl HFPl RTPl FL_len SP_len fe2_len SP2_len FM_len J1.GL_len J2.GL_len Q6.FF_len
theorem rTF {Q P : Prop} (k : Q) (h : Q → P := by intro k; (refine LY.run ?_); (repeat (first | refine y_move rfl rfl rfl ?_ | refine y_assign rfl rfl rfl ?_ | ((refine ra31 rfl rfl ?_ rfl rfl ?_); (· simp)) | ((refine ra27 rfl rfl ?_ rfl rfl ?_); (· simp)) | ((refine ra39 rfl rfl ?_ rfl rfl ?_); (· simp)) | ((refine ra48 rfl rfl ?_ rfl rfl ?_); (· simp)) | ((refine sa31 hGF rfl rfl rfl ?_ ?_ (one_u64 _) rfl ?_); (· simp); (· simp)) | ((refine sa27 hGF rfl rfl rfl ?_ ?_ (one_u64 _) rfl ?_); (· simp); (· simp)) | ((refine sa39 hGF rfl rfl rfl ?_ ?_ (one_u64 _) rfl ?_); (· simp); (· simp)) | ((refine sa48 hGF rfl rfl rfl ?_ ?_ (one_u64 _) rfl ?_); (· simp); (· simp)) | refine y_ext rfl rfl rfl rfl ?_ | refine y_call (f := 6) rfl rfl ent6 (J2.gen_p) rfl rfl ?_ | refine y_call (f := 15) rfl rfl ent15 (J1.part8 _) rfl rfl ?_ | refine y_call (f := 5) rfl rfl ent5 known11 rfl rfl ?_ | refine y_call (f := 13) rfl rfl ent13 (hR) rfl rfl ?_ | refine y_call (f := 12) rfl rfl ent12 (hL) rfl rfl ?_ | refine y_call (f := 16) rfl rfl ent16 (refs11 LL) rfl rfl ?_ | refine y_pick rfl rfl rfl rfl rfl ?_)); (first | refine y_nil ?_ | refine LY.mk ?_); exact k) : P := h k
theorem pTF {Q P : Prop} (k : Q) (h : Q → P := by intro k; (refine xp ?_); (refine rTF ?_); exact k) : P := h k

namespace Q6
theorem r12line_p (R Q : J2.GP) (x y : Zp) : Pure Tryz.prog Gt 13 [EV6 (RJ2 R.P), EV6 (RJ2 Q.P), EV2 (re2 x), EV2 (re2 y)] (.tuple #[TT (LG R.P Q.P (x, y)), .bool (LGB R.P Q.P)]) := by
 have k := r12line (RJ2 R.P) (RJ2 Q.P) (re2 x) (re2 y)
 rw [LNr_pt R.on Q.on] at k
 exact k
theorem lines_two (R Q : J2.GP) (x y : Zp) : ∃ (L : W12) (b : Bool), Pure Tryz.prog Gt 12 [J2.PtV R, J2.PtV Q, EV x, EV y] (.tuple #[EV12 L, .bool b]) ∧ Pure Tryz.prog Gt 13 [EV6 (RJ2 R.P), EV6 (RJ2 Q.P), EV2 (re2 x), EV2 (re2 y)] (.tuple #[TT L, .bool b]) := ⟨_, _, mline_p R Q x y, r12line_p R Q x y⟩
theorem lines_b0 (e0 : Option Addr) (cap0 : Nat) (bs0 : List (BitVec 8)) (e1 : Option Addr) (cap1 : Nat) (bs1 : List (BitVec 8)) (e2 : Option Addr) (cap2 : Nat) (bs2 : List (BitVec 8)) (e3 : Option Addr) (cap3 : Nat) (bs3 : List (BitVec 8)) (z : Int)  (h0 : ¬ bs0.length ≤ 8) (w : World) (hw : Gt w)  : Calls Tryz.prog 3 [.slice e0 bs0.length cap0, .slice e1 bs1.length cap1, .slice e2 bs2.length cap2, .slice e3 bs3.length cap3, I z].toArray w (fun r w' => r = .returned (.bool true) ∧ Grow w w') := by
 have hGF : BOk Gt (pl w) := gt_low.plain hw
 refine calls_of_X (G := Gt) Tryz.func3 rfl rfl (Hp (pl w) []) (hp_refl (pl w) trivial rides_true) (good_hp hGF) ?_
 refine pTF ?_
 refine x_seq ?_
 refine pTF ?_
 refine lx_un rfl (fun _ => un_not _) rfl rfl ?_
 refine lx_nil ?_
 refine x_false rfl ?_
 refine x_skip ?_
 refine x_seq ?_
 refine pTF ?_
 refine lx_len rfl (fun _ => len_slice Tryz.underlying22 _ _ _ _) rfl rfl ?_
 refine lx_binB true rfl rfl (fun _ => rfl) (fun _ => bin_gtr_i _ _ _) (decide_eq_true (by omega)) rfl rfl ?_
 refine rTF ?_
 refine lx_skip rfl rfl rfl ?_
 refine lx_skip rfl rfl rfl ?_
 refine lx_skip rfl rfl rfl ?_
 refine rTF ?_
 refine lx_skip rfl rfl rfl ?_
 refine lx_skip rfl rfl rfl ?_
 refine lx_skip rfl rfl rfl ?_
 refine rTF ?_
 refine lx_skip rfl rfl rfl ?_
 refine lx_skip rfl rfl rfl ?_
 refine lx_skip rfl rfl rfl ?_
 refine rTF ?_
 refine x_true rfl ?_
 refine pTF ?_
 refine rt ?_
 exact kret_tmp rfl rfl (fun w hw => ⟨rfl, hp_below hw⟩)
theorem lines_b1 (e0 : Option Addr) (cap0 : Nat) (bs0 : List (BitVec 8)) (e1 : Option Addr) (cap1 : Nat) (bs1 : List (BitVec 8)) (e2 : Option Addr) (cap2 : Nat) (bs2 : List (BitVec 8)) (e3 : Option Addr) (cap3 : Nat) (bs3 : List (BitVec 8)) (z : Int) (h0 : bs0.length ≤ 8) (h1 : ¬ bs1.length ≤ 8) (w : World) (hw : Gt w)  : Calls Tryz.prog 3 [.slice e0 bs0.length cap0, .slice e1 bs1.length cap1, .slice e2 bs2.length cap2, .slice e3 bs3.length cap3, I z].toArray w (fun r w' => r = .returned (.bool true) ∧ Grow w w') := by
 have hGF : BOk Gt (pl w) := gt_low.plain hw
 refine calls_of_X (G := Gt) Tryz.func3 rfl rfl (Hp (pl w) []) (hp_refl (pl w) trivial rides_true) (good_hp hGF) ?_
 refine pTF ?_
 refine x_seq ?_
 refine pTF ?_
 refine lx_un rfl (fun _ => un_not _) rfl rfl ?_
 refine lx_nil ?_
 refine x_false rfl ?_
 refine x_skip ?_
 refine x_seq ?_
 refine pTF ?_
 refine lx_len rfl (fun _ => len_slice Tryz.underlying22 _ _ _ _) rfl rfl ?_
 refine lx_binB false rfl rfl (fun _ => rfl) (fun _ => bin_gtr_i _ _ _) (decide_eq_false (by omega)) rfl rfl ?_
 refine rTF ?_
 refine lx_len rfl (fun _ => len_slice Tryz.underlying22 _ _ _ _) rfl rfl ?_
 refine lx_binB true rfl rfl (fun _ => rfl) (fun _ => bin_gtr_i _ _ _) (decide_eq_true (by omega)) rfl rfl ?_
 refine rTF ?_
 refine lx_skip rfl rfl rfl ?_
 refine lx_skip rfl rfl rfl ?_
 refine lx_skip rfl rfl rfl ?_
 refine rTF ?_
 refine lx_skip rfl rfl rfl ?_
 refine lx_skip rfl rfl rfl ?_
 refine lx_skip rfl rfl rfl ?_
 refine rTF ?_
 refine x_true rfl ?_
 refine pTF ?_
 refine rt ?_
 exact kret_tmp rfl rfl (fun w hw => ⟨rfl, hp_below hw⟩)
theorem lines_b2 (e0 : Option Addr) (cap0 : Nat) (bs0 : List (BitVec 8)) (e1 : Option Addr) (cap1 : Nat) (bs1 : List (BitVec 8)) (e2 : Option Addr) (cap2 : Nat) (bs2 : List (BitVec 8)) (e3 : Option Addr) (cap3 : Nat) (bs3 : List (BitVec 8)) (z : Int) (h0 : bs0.length ≤ 8) (h1 : bs1.length ≤ 8) (h2 : ¬ bs2.length ≤ 100) (w : World) (hw : Gt w)  : Calls Tryz.prog 3 [.slice e0 bs0.length cap0, .slice e1 bs1.length cap1, .slice e2 bs2.length cap2, .slice e3 bs3.length cap3, I z].toArray w (fun r w' => r = .returned (.bool true) ∧ Grow w w') := by
 have hGF : BOk Gt (pl w) := gt_low.plain hw
 refine calls_of_X (G := Gt) Tryz.func3 rfl rfl (Hp (pl w) []) (hp_refl (pl w) trivial rides_true) (good_hp hGF) ?_
 refine pTF ?_
 refine x_seq ?_
 refine pTF ?_
 refine lx_un rfl (fun _ => un_not _) rfl rfl ?_
 refine lx_nil ?_
 refine x_false rfl ?_
 refine x_skip ?_
 refine x_seq ?_
 refine pTF ?_
 refine lx_len rfl (fun _ => len_slice Tryz.underlying22 _ _ _ _) rfl rfl ?_
 refine lx_binB false rfl rfl (fun _ => rfl) (fun _ => bin_gtr_i _ _ _) (decide_eq_false (by omega)) rfl rfl ?_
 refine rTF ?_
 refine lx_len rfl (fun _ => len_slice Tryz.underlying22 _ _ _ _) rfl rfl ?_
 refine lx_binB false rfl rfl (fun _ => rfl) (fun _ => bin_gtr_i _ _ _) (decide_eq_false (by omega)) rfl rfl ?_
 refine rTF ?_
 refine lx_len rfl (fun _ => len_slice Tryz.underlying22 _ _ _ _) rfl rfl ?_
 refine lx_binB true rfl rfl (fun _ => rfl) (fun _ => bin_gtr_i _ _ _) (decide_eq_true (by omega)) rfl rfl ?_
 refine rTF ?_
 refine lx_skip rfl rfl rfl ?_
 refine lx_skip rfl rfl rfl ?_
 refine lx_skip rfl rfl rfl ?_
 refine rTF ?_
 refine x_true rfl ?_
 refine pTF ?_
 refine rt ?_
 exact kret_tmp rfl rfl (fun w hw => ⟨rfl, hp_below hw⟩)
theorem lines_b3 (e0 : Option Addr) (cap0 : Nat) (bs0 : List (BitVec 8)) (e1 : Option Addr) (cap1 : Nat) (bs1 : List (BitVec 8)) (e2 : Option Addr) (cap2 : Nat) (bs2 : List (BitVec 8)) (e3 : Option Addr) (cap3 : Nat) (bs3 : List (BitVec 8)) (z : Int) (h0 : bs0.length ≤ 8) (h1 : bs1.length ≤ 8) (h2 : bs2.length ≤ 100) (h3 : ¬ bs3.length ≤ 100) (w : World) (hw : Gt w)  : Calls Tryz.prog 3 [.slice e0 bs0.length cap0, .slice e1 bs1.length cap1, .slice e2 bs2.length cap2, .slice e3 bs3.length cap3, I z].toArray w (fun r w' => r = .returned (.bool true) ∧ Grow w w') := by
 have hGF : BOk Gt (pl w) := gt_low.plain hw
 refine calls_of_X (G := Gt) Tryz.func3 rfl rfl (Hp (pl w) []) (hp_refl (pl w) trivial rides_true) (good_hp hGF) ?_
 refine pTF ?_
 refine x_seq ?_
 refine pTF ?_
 refine lx_un rfl (fun _ => un_not _) rfl rfl ?_
 refine lx_nil ?_
 refine x_false rfl ?_
 refine x_skip ?_
 refine x_seq ?_
 refine pTF ?_
 refine lx_len rfl (fun _ => len_slice Tryz.underlying22 _ _ _ _) rfl rfl ?_
 refine lx_binB false rfl rfl (fun _ => rfl) (fun _ => bin_gtr_i _ _ _) (decide_eq_false (by omega)) rfl rfl ?_
 refine rTF ?_
 refine lx_len rfl (fun _ => len_slice Tryz.underlying22 _ _ _ _) rfl rfl ?_
 refine lx_binB false rfl rfl (fun _ => rfl) (fun _ => bin_gtr_i _ _ _) (decide_eq_false (by omega)) rfl rfl ?_
 refine rTF ?_
 refine lx_len rfl (fun _ => len_slice Tryz.underlying22 _ _ _ _) rfl rfl ?_
 refine lx_binB false rfl rfl (fun _ => rfl) (fun _ => bin_gtr_i _ _ _) (decide_eq_false (by omega)) rfl rfl ?_
 refine rTF ?_
 refine lx_len rfl (fun _ => len_slice Tryz.underlying22 _ _ _ _) rfl rfl ?_
 refine lx_binB true rfl rfl (fun _ => rfl) (fun _ => bin_gtr_i _ _ _) (decide_eq_true (by omega)) rfl rfl ?_
 refine rTF ?_
 refine x_true rfl ?_
 refine pTF ?_
 refine rt ?_
 exact kret_tmp rfl rfl (fun w hw => ⟨rfl, hp_below hw⟩)
theorem lines_k0 (e0 : Option Addr) (cap0 : Nat) (bs0 : List (BitVec 8)) (e1 : Option Addr) (cap1 : Nat) (bs1 : List (BitVec 8)) (e2 : Option Addr) (cap2 : Nat) (bs2 : List (BitVec 8)) (e3 : Option Addr) (cap3 : Nat) (bs3 : List (BitVec 8)) (z : Int) (h0 : bs0.length ≤ 8) (h1 : bs1.length ≤ 8) (h2 : bs2.length ≤ 100) (h3 : bs3.length ≤ 100) (hc2 : bs2.length ≤ cap2) (hc3 : bs3.length ≤ cap3) (hz : z % 4 = 0) (r q : J2.GP) (hM0 : ∀ w', Gt w' → BytesAt w' e0 bs0 → Calls Tryz.prog 7 [J2.PtV J2.gGen, .slice e0 bs0.length cap0].toArray w' (fun y w'' => y = .returned (J2.PtV r) ∧ Grow w' w'')) (hM1 : ∀ w', Gt w' → BytesAt w' e1 bs1 → Calls Tryz.prog 7 [J2.PtV J2.gGen, .slice e1 bs1.length cap1].toArray w' (fun y w'' => y = .returned (J2.PtV q) ∧ Grow w' w'')) (w : World) (hw : Gt w) (hb0 : BytesAt w e0 bs0) (hb1 : BytesAt w e1 bs1) (hb2 : BytesAt w e2 bs2) (hb3 : BytesAt w e3 bs3) : Calls Tryz.prog 3 [.slice e0 bs0.length cap0, .slice e1 bs1.length cap1, .slice e2 bs2.length cap2, .slice e3 bs3.length cap3, I z].toArray w (fun r w' => r = .returned (.bool true) ∧ Grow w w') := by
 have hGF : BOk Gt (pl w) := gt_low.plain hw
 obtain ⟨LL, bL, hL, hR⟩ := lines_two r q (ZB bs2) (ZB bs3)
 refine calls_of_X (G := Gt) Tryz.func3 rfl rfl (Hp (pl w) []) (hp_refl (pl w) trivial rides_true) (good_hp hGF) ?_
 refine pTF ?_
 refine x_seq ?_
 refine pTF ?_
 refine lx_un rfl (fun _ => un_not _) rfl rfl ?_
 refine lx_nil ?_
 refine x_false rfl ?_
 refine x_skip ?_
 refine x_seq ?_
 refine pTF ?_
 refine lx_len rfl (fun _ => len_slice Tryz.underlying22 _ _ _ _) rfl rfl ?_
 refine lx_binB false rfl rfl (fun _ => rfl) (fun _ => bin_gtr_i _ _ _) (decide_eq_false (by omega)) rfl rfl ?_
 refine rTF ?_
 refine lx_len rfl (fun _ => len_slice Tryz.underlying22 _ _ _ _) rfl rfl ?_
 refine lx_binB false rfl rfl (fun _ => rfl) (fun _ => bin_gtr_i _ _ _) (decide_eq_false (by omega)) rfl rfl ?_
 refine rTF ?_
 refine lx_len rfl (fun _ => len_slice Tryz.underlying22 _ _ _ _) rfl rfl ?_
 refine lx_binB false rfl rfl (fun _ => rfl) (fun _ => bin_gtr_i _ _ _) (decide_eq_false (by omega)) rfl rfl ?_
 refine rTF ?_
 refine lx_len rfl (fun _ => len_slice Tryz.underlying22 _ _ _ _) rfl rfl ?_
 refine lx_binB false rfl rfl (fun _ => rfl) (fun _ => bin_gtr_i _ _ _) (decide_eq_false (by omega)) rfl rfl ?_
 refine rTF ?_
 refine x_false rfl ?_
 refine x_skip ?_
 refine pTF ?_
 refine lx_callC rfl rfl ent7 (fun w' hC hG => hM0 w' hG (hb0.grow (hp_below hC))) rfl rfl ?_
 refine rTF ?_
 refine lx_callC rfl rfl ent7 (fun w' hC hG => hM1 w' hG (hb1.grow (hp_below hC))) rfl rfl ?_
 refine la J2.zv31 fun b11 => ?_
 refine la J2.zv31 fun b12 => ?_
 refine rTF ?_
 refine x_seq ?_
 refine pTF ?_
 refine lx_call rfl rfl ent8 (place_pure z 4 (by decide) (by unfold inI; decide)) rfl rfl ?_
 rw [hz]
 refine lx_nil ?_
 refine x_block ?_
 refine xp ?_
 refine lx_binB false rfl rfl (fun _ => rfl) (fun _ => bin_eql_i _ _ _) (rfl) rfl rfl ?_
 refine rTF ?_
 refine x_false rfl ?_
 refine xp ?_
 refine lx_binB false rfl rfl (fun _ => rfl) (fun _ => bin_eql_i _ _ _) (rfl) rfl rfl ?_
 refine rTF ?_
 refine x_false rfl ?_
 refine xp ?_
 refine lx_binB false rfl rfl (fun _ => rfl) (fun _ => bin_eql_i _ _ _) (rfl) rfl rfl ?_
 refine rTF ?_
 refine x_false rfl ?_
 refine x_skip ?_
 refine pTF ?_
 refine lx_callC rfl rfl ent11 (fun w' hC hG => fwide_calls _ _ bs2 (by omega) hc2 w' hG (hb2.grow (hp_below hC))) rfl rfl ?_
 refine rTF ?_
 refine lx_callC rfl rfl ent11 (fun w' hC hG => fwide_calls _ _ bs3 (by omega) hc3 w' hG (hb3.grow (hp_below hC))) rfl rfl ?_
 refine la zv27 fun b13 => ?_
 refine la zv27 fun b14 => ?_
 refine rTF ?_
 refine pTF ?_
 refine la zv39 fun b15 => ?_
 refine rTF ?_
 refine xs_drawA (E := EE [2999999]) [0, 1, 2, 3, 4, 5, 6, 7, 8, 9, 10, 11, 12, 13] [⟨14, 17, 48, (FM (FF fun _ => ze2) 6).map U64⟩] [15, 16] mixed rfl (by kernel_rfl) (by kernel_rfl) (by kernel_rfl) (by kernel_rfl) (by kernel_rfl) (by kernel_rfl) (by decide) (by intro x hx; simp only [List.mem_cons, List.not_mem_nil, or_false] at hx; subst hx; exact isAlloc_mk rfl zv48 rfl) ?_
 refine rTF ?_
 refine lc ent14 (J2.refs8 r) ?_
 refine rTF ?_
 refine lc ent14 (J2.refs8 q) ?_
 refine rTF ?_
 refine lx_twoA two46 rfl (by simp) rfl rfl ?_
 refine rTF ?_
 refine lx_twoA two46 rfl (by simp) rfl rfl ?_
 refine rTF ?_
 refine ⟨_, _, rfl, hGF, by intro x hx; simp only [List.mem_cons, List.not_mem_nil, or_false] at hx; subst hx; rfl, by intro x hx; simp only [List.mem_cons, List.not_mem_nil, or_false] at hx; subst hx; rfl, fun adr => ?_⟩
 refine rTF ?_
 refine xs_drawn (E := EE []) mixed (by kernel_rfl) (by kernel_rfl) (by kernel_rfl) ?_
 refine rTF ?_
 refine lx_binB true rfl rfl (fun _ => rfl) (fun w => bin_eql_bool 4 Tryz.underlying4 _ _ w) (beq_self_eq_true _) rfl rfl ?_
 refine rTF ?_
 refine lx_binB true rfl rfl (fun _ => eqg48 _ _ _ _ _ _) (fun w => eqv48 _ _ (by simp) (by simp) w) (decide_eq_true rfl) rfl rfl ?_
 refine rTF ?_
 refine rt ?_
 exact kret_tmp rfl rfl (fun w hw => ⟨rfl, hp_below hw⟩)
theorem lines_k1 (e0 : Option Addr) (cap0 : Nat) (bs0 : List (BitVec 8)) (e1 : Option Addr) (cap1 : Nat) (bs1 : List (BitVec 8)) (e2 : Option Addr) (cap2 : Nat) (bs2 : List (BitVec 8)) (e3 : Option Addr) (cap3 : Nat) (bs3 : List (BitVec 8)) (z : Int) (h0 : bs0.length ≤ 8) (h1 : bs1.length ≤ 8) (h2 : bs2.length ≤ 100) (h3 : bs3.length ≤ 100) (hc2 : bs2.length ≤ cap2) (hc3 : bs3.length ≤ cap3) (hz : z % 4 = 1) (r q : J2.GP) (hM0 : ∀ w', Gt w' → BytesAt w' e0 bs0 → Calls Tryz.prog 7 [J2.PtV J2.gGen, .slice e0 bs0.length cap0].toArray w' (fun y w'' => y = .returned (J2.PtV r) ∧ Grow w' w'')) (hM1 : ∀ w', Gt w' → BytesAt w' e1 bs1 → Calls Tryz.prog 7 [J2.PtV J2.gGen, .slice e1 bs1.length cap1].toArray w' (fun y w'' => y = .returned (J2.PtV q) ∧ Grow w' w'')) (w : World) (hw : Gt w) (hb0 : BytesAt w e0 bs0) (hb1 : BytesAt w e1 bs1) (hb2 : BytesAt w e2 bs2) (hb3 : BytesAt w e3 bs3) : Calls Tryz.prog 3 [.slice e0 bs0.length cap0, .slice e1 bs1.length cap1, .slice e2 bs2.length cap2, .slice e3 bs3.length cap3, I z].toArray w (fun r w' => r = .returned (.bool true) ∧ Grow w w') := by
 have hGF : BOk Gt (pl w) := gt_low.plain hw
 obtain ⟨LL, bL, hL, hR⟩ := lines_two r r (ZB bs2) (ZB bs3)
 refine calls_of_X (G := Gt) Tryz.func3 rfl rfl (Hp (pl w) []) (hp_refl (pl w) trivial rides_true) (good_hp hGF) ?_
 refine pTF ?_
 refine x_seq ?_
 refine pTF ?_
 refine lx_un rfl (fun _ => un_not _) rfl rfl ?_
 refine lx_nil ?_
 refine x_false rfl ?_
 refine x_skip ?_
 refine x_seq ?_
 refine pTF ?_
 refine lx_len rfl (fun _ => len_slice Tryz.underlying22 _ _ _ _) rfl rfl ?_
 refine lx_binB false rfl rfl (fun _ => rfl) (fun _ => bin_gtr_i _ _ _) (decide_eq_false (by omega)) rfl rfl ?_
 refine rTF ?_
 refine lx_len rfl (fun _ => len_slice Tryz.underlying22 _ _ _ _) rfl rfl ?_
 refine lx_binB false rfl rfl (fun _ => rfl) (fun _ => bin_gtr_i _ _ _) (decide_eq_false (by omega)) rfl rfl ?_
 refine rTF ?_
 refine lx_len rfl (fun _ => len_slice Tryz.underlying22 _ _ _ _) rfl rfl ?_
 refine lx_binB false rfl rfl (fun _ => rfl) (fun _ => bin_gtr_i _ _ _) (decide_eq_false (by omega)) rfl rfl ?_
 refine rTF ?_
 refine lx_len rfl (fun _ => len_slice Tryz.underlying22 _ _ _ _) rfl rfl ?_
 refine lx_binB false rfl rfl (fun _ => rfl) (fun _ => bin_gtr_i _ _ _) (decide_eq_false (by omega)) rfl rfl ?_
 refine rTF ?_
 refine x_false rfl ?_
 refine x_skip ?_
 refine pTF ?_
 refine lx_callC rfl rfl ent7 (fun w' hC hG => hM0 w' hG (hb0.grow (hp_below hC))) rfl rfl ?_
 refine rTF ?_
 refine lx_callC rfl rfl ent7 (fun w' hC hG => hM1 w' hG (hb1.grow (hp_below hC))) rfl rfl ?_
 refine la J2.zv31 fun b11 => ?_
 refine la J2.zv31 fun b12 => ?_
 refine rTF ?_
 refine x_seq ?_
 refine pTF ?_
 refine lx_call rfl rfl ent8 (place_pure z 4 (by decide) (by unfold inI; decide)) rfl rfl ?_
 rw [hz]
 refine lx_nil ?_
 refine x_block ?_
 refine xp ?_
 refine lx_binB true rfl rfl (fun _ => rfl) (fun _ => bin_eql_i _ _ _) (rfl) rfl rfl ?_
 refine rTF ?_
 refine x_true rfl ?_
 refine x_plain (E := EE []) ?_
 refine rTF ?_
 refine pTF ?_
 refine lx_callC rfl rfl ent11 (fun w' hC hG => fwide_calls _ _ bs2 (by omega) hc2 w' hG (hb2.grow (hp_below hC))) rfl rfl ?_
 refine rTF ?_
 refine lx_callC rfl rfl ent11 (fun w' hC hG => fwide_calls _ _ bs3 (by omega) hc3 w' hG (hb3.grow (hp_below hC))) rfl rfl ?_
 refine la zv27 fun b13 => ?_
 refine la zv27 fun b14 => ?_
 refine rTF ?_
 refine pTF ?_
 refine la zv39 fun b15 => ?_
 refine rTF ?_
 refine xs_drawA (E := EE [2999999]) [0, 1, 2, 3, 4, 5, 6, 7, 8, 9, 10, 11, 12, 13] [⟨14, 17, 48, (FM (FF fun _ => ze2) 6).map U64⟩] [15, 16] mixed rfl (by kernel_rfl) (by kernel_rfl) (by kernel_rfl) (by kernel_rfl) (by kernel_rfl) (by kernel_rfl) (by decide) (by intro x hx; simp only [List.mem_cons, List.not_mem_nil, or_false] at hx; subst hx; exact isAlloc_mk rfl zv48 rfl) ?_
 refine rTF ?_
 refine lc ent14 (J2.refs8 r) ?_
 refine rTF ?_
 refine lc ent14 (J2.refs8 r) ?_
 refine rTF ?_
 refine lx_twoA two46 rfl (by simp) rfl rfl ?_
 refine rTF ?_
 refine lx_twoA two46 rfl (by simp) rfl rfl ?_
 refine rTF ?_
 refine ⟨_, _, rfl, hGF, by intro x hx; simp only [List.mem_cons, List.not_mem_nil, or_false] at hx; subst hx; rfl, by intro x hx; simp only [List.mem_cons, List.not_mem_nil, or_false] at hx; subst hx; rfl, fun adr => ?_⟩
 refine rTF ?_
 refine xs_drawn (E := EE []) mixed (by kernel_rfl) (by kernel_rfl) (by kernel_rfl) ?_
 refine rTF ?_
 refine lx_binB true rfl rfl (fun _ => rfl) (fun w => bin_eql_bool 4 Tryz.underlying4 _ _ w) (beq_self_eq_true _) rfl rfl ?_
 refine rTF ?_
 refine lx_binB true rfl rfl (fun _ => eqg48 _ _ _ _ _ _) (fun w => eqv48 _ _ (by simp) (by simp) w) (decide_eq_true rfl) rfl rfl ?_
 refine rTF ?_
 refine rt ?_
 exact kret_tmp rfl rfl (fun w hw => ⟨rfl, hp_below hw⟩)
theorem lines_k2 (e0 : Option Addr) (cap0 : Nat) (bs0 : List (BitVec 8)) (e1 : Option Addr) (cap1 : Nat) (bs1 : List (BitVec 8)) (e2 : Option Addr) (cap2 : Nat) (bs2 : List (BitVec 8)) (e3 : Option Addr) (cap3 : Nat) (bs3 : List (BitVec 8)) (z : Int) (h0 : bs0.length ≤ 8) (h1 : bs1.length ≤ 8) (h2 : bs2.length ≤ 100) (h3 : bs3.length ≤ 100) (hc2 : bs2.length ≤ cap2) (hc3 : bs3.length ≤ cap3) (hz : z % 4 = 2) (r q : J2.GP) (hM0 : ∀ w', Gt w' → BytesAt w' e0 bs0 → Calls Tryz.prog 7 [J2.PtV J2.gGen, .slice e0 bs0.length cap0].toArray w' (fun y w'' => y = .returned (J2.PtV r) ∧ Grow w' w'')) (hM1 : ∀ w', Gt w' → BytesAt w' e1 bs1 → Calls Tryz.prog 7 [J2.PtV J2.gGen, .slice e1 bs1.length cap1].toArray w' (fun y w'' => y = .returned (J2.PtV q) ∧ Grow w' w'')) (w : World) (hw : Gt w) (hb0 : BytesAt w e0 bs0) (hb1 : BytesAt w e1 bs1) (hb2 : BytesAt w e2 bs2) (hb3 : BytesAt w e3 bs3) : Calls Tryz.prog 3 [.slice e0 bs0.length cap0, .slice e1 bs1.length cap1, .slice e2 bs2.length cap2, .slice e3 bs3.length cap3, I z].toArray w (fun r w' => r = .returned (.bool true) ∧ Grow w w') := by
 have hGF : BOk Gt (pl w) := gt_low.plain hw
 obtain ⟨LL, bL, hL, hR⟩ := lines_two r (J2.gNeg r) (ZB bs2) (ZB bs3)
 refine calls_of_X (G := Gt) Tryz.func3 rfl rfl (Hp (pl w) []) (hp_refl (pl w) trivial rides_true) (good_hp hGF) ?_
 refine pTF ?_
 refine x_seq ?_
 refine pTF ?_
 refine lx_un rfl (fun _ => un_not _) rfl rfl ?_
 refine lx_nil ?_
 refine x_false rfl ?_
 refine x_skip ?_
 refine x_seq ?_
 refine pTF ?_
 refine lx_len rfl (fun _ => len_slice Tryz.underlying22 _ _ _ _) rfl rfl ?_
 refine lx_binB false rfl rfl (fun _ => rfl) (fun _ => bin_gtr_i _ _ _) (decide_eq_false (by omega)) rfl rfl ?_
 refine rTF ?_
 refine lx_len rfl (fun _ => len_slice Tryz.underlying22 _ _ _ _) rfl rfl ?_
 refine lx_binB false rfl rfl (fun _ => rfl) (fun _ => bin_gtr_i _ _ _) (decide_eq_false (by omega)) rfl rfl ?_
 refine rTF ?_
 refine lx_len rfl (fun _ => len_slice Tryz.underlying22 _ _ _ _) rfl rfl ?_
 refine lx_binB false rfl rfl (fun _ => rfl) (fun _ => bin_gtr_i _ _ _) (decide_eq_false (by omega)) rfl rfl ?_
 refine rTF ?_
 refine lx_len rfl (fun _ => len_slice Tryz.underlying22 _ _ _ _) rfl rfl ?_
 refine lx_binB false rfl rfl (fun _ => rfl) (fun _ => bin_gtr_i _ _ _) (decide_eq_false (by omega)) rfl rfl ?_
 refine rTF ?_
 refine x_false rfl ?_
 refine x_skip ?_
 refine pTF ?_
 refine lx_callC rfl rfl ent7 (fun w' hC hG => hM0 w' hG (hb0.grow (hp_below hC))) rfl rfl ?_
 refine rTF ?_
 refine lx_callC rfl rfl ent7 (fun w' hC hG => hM1 w' hG (hb1.grow (hp_below hC))) rfl rfl ?_
 refine la J2.zv31 fun b11 => ?_
 refine la J2.zv31 fun b12 => ?_
 refine rTF ?_
 refine x_seq ?_
 refine pTF ?_
 refine lx_call rfl rfl ent8 (place_pure z 4 (by decide) (by unfold inI; decide)) rfl rfl ?_
 rw [hz]
 refine lx_nil ?_
 refine x_block ?_
 refine xp ?_
 refine lx_binB false rfl rfl (fun _ => rfl) (fun _ => bin_eql_i _ _ _) (rfl) rfl rfl ?_
 refine rTF ?_
 refine x_false rfl ?_
 refine xp ?_
 refine lx_binB true rfl rfl (fun _ => rfl) (fun _ => bin_eql_i _ _ _) (rfl) rfl rfl ?_
 refine rTF ?_
 refine x_true rfl ?_
 refine x_plain (E := EE []) ?_
 refine rTF ?_
 refine lc ent9 (J2.neg_p r) ?_
 refine rTF ?_
 refine pTF ?_
 refine lx_callC rfl rfl ent11 (fun w' hC hG => fwide_calls _ _ bs2 (by omega) hc2 w' hG (hb2.grow (hp_below hC))) rfl rfl ?_
 refine rTF ?_
 refine lx_callC rfl rfl ent11 (fun w' hC hG => fwide_calls _ _ bs3 (by omega) hc3 w' hG (hb3.grow (hp_below hC))) rfl rfl ?_
 refine la zv27 fun b13 => ?_
 refine la zv27 fun b14 => ?_
 refine rTF ?_
 refine pTF ?_
 refine la zv39 fun b15 => ?_
 refine rTF ?_
 refine xs_drawA (E := EE [2999999]) [0, 1, 2, 3, 4, 5, 6, 7, 8, 9, 10, 11, 12, 13] [⟨14, 17, 48, (FM (FF fun _ => ze2) 6).map U64⟩] [15, 16] mixed rfl (by kernel_rfl) (by kernel_rfl) (by kernel_rfl) (by kernel_rfl) (by kernel_rfl) (by kernel_rfl) (by decide) (by intro x hx; simp only [List.mem_cons, List.not_mem_nil, or_false] at hx; subst hx; exact isAlloc_mk rfl zv48 rfl) ?_
 refine rTF ?_
 refine lc ent14 (J2.refs8 r) ?_
 refine rTF ?_
 refine lx_call rfl rfl ent14 (J2.refs8 (J2.gNeg r)) rfl rfl ?_
 refine rTF ?_
 refine lx_twoA two46 rfl (by simp) rfl rfl ?_
 refine rTF ?_
 refine lx_twoA two46 rfl (by simp) rfl rfl ?_
 refine rTF ?_
 refine ⟨_, _, rfl, hGF, by intro x hx; simp only [List.mem_cons, List.not_mem_nil, or_false] at hx; subst hx; rfl, by intro x hx; simp only [List.mem_cons, List.not_mem_nil, or_false] at hx; subst hx; rfl, fun adr => ?_⟩
 refine rTF ?_
 refine xs_drawn (E := EE []) mixed (by kernel_rfl) (by kernel_rfl) (by kernel_rfl) ?_
 refine rTF ?_
 refine lx_binB true rfl rfl (fun _ => rfl) (fun w => bin_eql_bool 4 Tryz.underlying4 _ _ w) (beq_self_eq_true _) rfl rfl ?_
 refine rTF ?_
 refine lx_binB true rfl rfl (fun _ => eqg48 _ _ _ _ _ _) (fun w => eqv48 _ _ (by simp) (by simp) w) (decide_eq_true rfl) rfl rfl ?_
 refine rTF ?_
 refine rt ?_
 exact kret_tmp rfl rfl (fun w hw => ⟨rfl, hp_below hw⟩)
theorem lines_k3 (e0 : Option Addr) (cap0 : Nat) (bs0 : List (BitVec 8)) (e1 : Option Addr) (cap1 : Nat) (bs1 : List (BitVec 8)) (e2 : Option Addr) (cap2 : Nat) (bs2 : List (BitVec 8)) (e3 : Option Addr) (cap3 : Nat) (bs3 : List (BitVec 8)) (z : Int) (h0 : bs0.length ≤ 8) (h1 : bs1.length ≤ 8) (h2 : bs2.length ≤ 100) (h3 : bs3.length ≤ 100) (hc2 : bs2.length ≤ cap2) (hc3 : bs3.length ≤ cap3) (hz : z % 4 = 3) (r q : J2.GP) (hM0 : ∀ w', Gt w' → BytesAt w' e0 bs0 → Calls Tryz.prog 7 [J2.PtV J2.gGen, .slice e0 bs0.length cap0].toArray w' (fun y w'' => y = .returned (J2.PtV r) ∧ Grow w' w'')) (hM1 : ∀ w', Gt w' → BytesAt w' e1 bs1 → Calls Tryz.prog 7 [J2.PtV J2.gGen, .slice e1 bs1.length cap1].toArray w' (fun y w'' => y = .returned (J2.PtV q) ∧ Grow w' w'')) (w : World) (hw : Gt w) (hb0 : BytesAt w e0 bs0) (hb1 : BytesAt w e1 bs1) (hb2 : BytesAt w e2 bs2) (hb3 : BytesAt w e3 bs3) : Calls Tryz.prog 3 [.slice e0 bs0.length cap0, .slice e1 bs1.length cap1, .slice e2 bs2.length cap2, .slice e3 bs3.length cap3, I z].toArray w (fun r w' => r = .returned (.bool true) ∧ Grow w w') := by
 have hGF : BOk Gt (pl w) := gt_low.plain hw
 obtain ⟨LL, bL, hL, hR⟩ := lines_two r J2.gInf (ZB bs2) (ZB bs3)
 refine calls_of_X (G := Gt) Tryz.func3 rfl rfl (Hp (pl w) []) (hp_refl (pl w) trivial rides_true) (good_hp hGF) ?_
 refine pTF ?_
 refine x_seq ?_
 refine pTF ?_
 refine lx_un rfl (fun _ => un_not _) rfl rfl ?_
 refine lx_nil ?_
 refine x_false rfl ?_
 refine x_skip ?_
 refine x_seq ?_
 refine pTF ?_
 refine lx_len rfl (fun _ => len_slice Tryz.underlying22 _ _ _ _) rfl rfl ?_
 refine lx_binB false rfl rfl (fun _ => rfl) (fun _ => bin_gtr_i _ _ _) (decide_eq_false (by omega)) rfl rfl ?_
 refine rTF ?_
 refine lx_len rfl (fun _ => len_slice Tryz.underlying22 _ _ _ _) rfl rfl ?_
 refine lx_binB false rfl rfl (fun _ => rfl) (fun _ => bin_gtr_i _ _ _) (decide_eq_false (by omega)) rfl rfl ?_
 refine rTF ?_
 refine lx_len rfl (fun _ => len_slice Tryz.underlying22 _ _ _ _) rfl rfl ?_
 refine lx_binB false rfl rfl (fun _ => rfl) (fun _ => bin_gtr_i _ _ _) (decide_eq_false (by omega)) rfl rfl ?_
 refine rTF ?_
 refine lx_len rfl (fun _ => len_slice Tryz.underlying22 _ _ _ _) rfl rfl ?_
 refine lx_binB false rfl rfl (fun _ => rfl) (fun _ => bin_gtr_i _ _ _) (decide_eq_false (by omega)) rfl rfl ?_
 refine rTF ?_
 refine x_false rfl ?_
 refine x_skip ?_
 refine pTF ?_
 refine lx_callC rfl rfl ent7 (fun w' hC hG => hM0 w' hG (hb0.grow (hp_below hC))) rfl rfl ?_
 refine rTF ?_
 refine lx_callC rfl rfl ent7 (fun w' hC hG => hM1 w' hG (hb1.grow (hp_below hC))) rfl rfl ?_
 refine la J2.zv31 fun b11 => ?_
 refine la J2.zv31 fun b12 => ?_
 refine rTF ?_
 refine x_seq ?_
 refine pTF ?_
 refine lx_call rfl rfl ent8 (place_pure z 4 (by decide) (by unfold inI; decide)) rfl rfl ?_
 rw [hz]
 refine lx_nil ?_
 refine x_block ?_
 refine xp ?_
 refine lx_binB false rfl rfl (fun _ => rfl) (fun _ => bin_eql_i _ _ _) (rfl) rfl rfl ?_
 refine rTF ?_
 refine x_false rfl ?_
 refine xp ?_
 refine lx_binB false rfl rfl (fun _ => rfl) (fun _ => bin_eql_i _ _ _) (rfl) rfl rfl ?_
 refine rTF ?_
 refine x_false rfl ?_
 refine xp ?_
 refine lx_binB true rfl rfl (fun _ => rfl) (fun _ => bin_eql_i _ _ _) (rfl) rfl rfl ?_
 refine rTF ?_
 refine x_true rfl ?_
 refine x_plain (E := EE []) ?_
 refine lc ent10 (J2.inf_p) ?_
 refine rTF ?_
 refine pTF ?_
 refine lx_callC rfl rfl ent11 (fun w' hC hG => fwide_calls _ _ bs2 (by omega) hc2 w' hG (hb2.grow (hp_below hC))) rfl rfl ?_
 refine rTF ?_
 refine lx_callC rfl rfl ent11 (fun w' hC hG => fwide_calls _ _ bs3 (by omega) hc3 w' hG (hb3.grow (hp_below hC))) rfl rfl ?_
 refine la zv27 fun b13 => ?_
 refine la zv27 fun b14 => ?_
 refine rTF ?_
 refine pTF ?_
 refine la zv39 fun b15 => ?_
 refine rTF ?_
 refine xs_drawA (E := EE [2999999]) [0, 1, 2, 3, 4, 5, 6, 7, 8, 9, 10, 11, 12, 13] [⟨14, 17, 48, (FM (FF fun _ => ze2) 6).map U64⟩] [15, 16] mixed rfl (by kernel_rfl) (by kernel_rfl) (by kernel_rfl) (by kernel_rfl) (by kernel_rfl) (by kernel_rfl) (by decide) (by intro x hx; simp only [List.mem_cons, List.not_mem_nil, or_false] at hx; subst hx; exact isAlloc_mk rfl zv48 rfl) ?_
 refine rTF ?_
 refine lc ent14 (J2.refs8 r) ?_
 refine rTF ?_
 refine lc ent14 (J2.refs8 J2.gInf) ?_
 refine rTF ?_
 refine lx_twoA two46 rfl (by simp) rfl rfl ?_
 refine rTF ?_
 refine lx_twoA two46 rfl (by simp) rfl rfl ?_
 refine rTF ?_
 refine ⟨_, _, rfl, hGF, by intro x hx; simp only [List.mem_cons, List.not_mem_nil, or_false] at hx; subst hx; rfl, by intro x hx; simp only [List.mem_cons, List.not_mem_nil, or_false] at hx; subst hx; rfl, fun adr => ?_⟩
 refine rTF ?_
 refine xs_drawn (E := EE []) mixed (by kernel_rfl) (by kernel_rfl) (by kernel_rfl) ?_
 refine rTF ?_
 refine lx_binB true rfl rfl (fun _ => rfl) (fun w => bin_eql_bool 4 Tryz.underlying4 _ _ w) (beq_self_eq_true _) rfl rfl ?_
 refine rTF ?_
 refine lx_binB true rfl rfl (fun _ => eqg48 _ _ _ _ _ _) (fun w => eqv48 _ _ (by simp) (by simp) w) (decide_eq_true rfl) rfl rfl ?_
 refine rTF ?_
 refine rt ?_
 exact kret_tmp rfl rfl (fun w hw => ⟨rfl, hp_below hw⟩)
theorem lines_law (e0 : Option Addr) (cap0 : Nat) (bs0 : List (BitVec 8)) (e1 : Option Addr) (cap1 : Nat) (bs1 : List (BitVec 8)) (e2 : Option Addr) (cap2 : Nat) (bs2 : List (BitVec 8)) (e3 : Option Addr) (cap3 : Nat) (bs3 : List (BitVec 8)) (z : Int) (hc2 : bs2.length ≤ cap2) (hc3 : bs3.length ≤ cap3) (w : World) (hw : Gt w) (hb0 : BytesAt w e0 bs0) (hb1 : BytesAt w e1 bs1) (hb2 : BytesAt w e2 bs2) (hb3 : BytesAt w e3 bs3) : Calls Tryz.prog 3 [.slice e0 bs0.length cap0, .slice e1 bs1.length cap1, .slice e2 bs2.length cap2, .slice e3 bs3.length cap3, I z].toArray w (fun r w' => r = .returned (.bool true) ∧ Grow w w') := by
 by_cases h0 : bs0.length ≤ 8
 ·by_cases h1 : bs1.length ≤ 8
  ·by_cases h2 : bs2.length ≤ 100
   ·by_cases h3 : bs3.length ≤ 100
    ·have m0 := fun w' hG hB => J2.mul_c J2.gGen e0 cap0 bs0 (by omega) w' hG hB
     have m1 := fun w' hG hB => J2.mul_c J2.gGen e1 cap1 bs1 (by omega) w' hG hB
     have a := Int.emod_nonneg z (by decide : (4 : Int) ≠ 0)
     have b := Int.emod_lt_of_pos z (by decide : (0 : Int) < 4)
     have c : z % 4 = 0 ∨ z % 4 = 1 ∨ z % 4 = 2 ∨ z % 4 = 3 := by omega
     rcases c with hz | hz | hz | hz
     ·exact lines_k0 e0 cap0 bs0 e1 cap1 bs1 e2 cap2 bs2 e3 cap3 bs3 z h0 h1 h2 h3 hc2 hc3 hz _ _ m0 m1 w hw hb0 hb1 hb2 hb3
     ·exact lines_k1 e0 cap0 bs0 e1 cap1 bs1 e2 cap2 bs2 e3 cap3 bs3 z h0 h1 h2 h3 hc2 hc3 hz _ _ m0 m1 w hw hb0 hb1 hb2 hb3
     ·exact lines_k2 e0 cap0 bs0 e1 cap1 bs1 e2 cap2 bs2 e3 cap3 bs3 z h0 h1 h2 h3 hc2 hc3 hz _ _ m0 m1 w hw hb0 hb1 hb2 hb3
     ·exact lines_k3 e0 cap0 bs0 e1 cap1 bs1 e2 cap2 bs2 e3 cap3 bs3 z h0 h1 h2 h3 hc2 hc3 hz _ _ m0 m1 w hw hb0 hb1 hb2 hb3
    ·exact lines_b3 e0 cap0 bs0 e1 cap1 bs1 e2 cap2 bs2 e3 cap3 bs3 z h0 h1 h2 h3 w hw
   ·exact lines_b2 e0 cap0 bs0 e1 cap1 bs1 e2 cap2 bs2 e3 cap3 bs3 z h0 h1 h2 w hw
  ·exact lines_b1 e0 cap0 bs0 e1 cap1 bs1 e2 cap2 bs2 e3 cap3 bs3 z h0 h1 w hw
 ·exact lines_b0 e0 cap0 bs0 e1 cap1 bs1 e2 cap2 bs2 e3 cap3 bs3 z h0 w hw
end Q6
end Go.Proofs.YthkmeodnlidpfaaGreatDoor
