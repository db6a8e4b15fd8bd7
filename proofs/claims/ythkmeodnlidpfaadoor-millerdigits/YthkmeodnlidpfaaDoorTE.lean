/-
 The program's Line, of points; what is known of layer 11.
-/
import Derived.Test.YthkmeodnlidpfaaDoorXI
import Derived.Test.YthkmeodnlidpfaaDoorX2
namespace Go.Proofs.YthkmeodnlidpfaaDoor
open Go.RowKit
set_option maxRecDepth 100000
set_option maxHeartbeats 1000000
attribute [local simp] fe_len nm_len AS_len SS_len MONT_len RM_len FRs_len BYs_len by48_len PLl TWOl ONEl N1l IVPl HFPl RTPl FL_len SP_len fe2_len SP2_len FM_len J2.GL_len Q6.FF_len

theorem ent4 : Enters Tryd.prog 4 := fun _ _ => by kernel_rfl
theorem ent6 : Enters Tryd.prog 6 := fun _ _ => by kernel_rfl
namespace Q6
theorem sc_on (y : Zp) : sc2 on2 y = re2 y := (sc_re on2 y).trans (R2.one_mul _)
theorem LR_LN (a : W2 × W2) (s : W2) (x y : Zp) : lel (LR5 x y (E2w.sub (ml2 s a.1) a.2) s on2) = LN a s (x, y) := by
 rw [lel, LR5, LN, sc_re, sc_on, sb2_eq]; rfl
theorem XY3_n {J : W6} (h : E2w.jr J none) : XY3 J = (ze2, ze2, false) := if_pos h
theorem XY3_s {J : W6} {a : W2 × W2} (h : E2w.jr J (some a)) : XY3 J = (a.1, a.2, true) := by
 have e := E2w.xy_w h (E2w.hi _ h.1)
 rw [show XY3 J = _ from if_neg h.1]
 exact Prod.ext e.1 (Prod.ext e.2 rfl)
theorem LNS_y {a b : W2 × W2} {u c : W2} (ha : E2w.on a) (hb : E2w.on b) (ho : ¬ E2w.opp a b) (hc : ¬ c = ze2) (hs : E2w.Sl a b (ml2 u (iv2 c))) (x y : Zp) : LNS a (u, c) x y = (LG (some a) (some b) (x, y), LGB (some a) (some b)) := by
 rw [show LNS a (u, c) x y = _ from if_neg hc, LR_LN, LG_s ha hb ho hs]
 exact congrArg _ (show true = decide (¬ (_ ∧ _)) from (decide_eq_true (show ¬ (_ ∧ _) from ho)).symm)
theorem LNS_n {a b : W2 × W2} {u c : W2} (ho : E2w.opp a b) (hc : c = ze2) (x y : Zp) : LNS a (u, c) x y = (LG (some a) (some b) (x, y), LGB (some a) (some b)) := by
 rw [show LNS a (u, c) x y = _ from if_pos hc, LG_o ho]
 exact congrArg _ (show false = decide (¬ (_ ∧ _)) from (decide_eq_false fun k => k ho).symm)
theorem LNQ_pt {a b : W2 × W2} (ha : E2w.on a) (hb : E2w.on b) (x y : Zp) : LNQ a b x y = (LG (some a) (some b) (x, y), LGB (some a) (some b)) := by
 by_cases hc : E2w.sub b.1 a.1 = ze2
 ·have e1 : b.1 = a.1 := E2w.sub0 hc
  by_cases hu : E2w.sub b.2 a.2 = ze2
  ·have e : b = a := Prod.ext e1 (E2w.sub0 hu)
   subst e
   rw [show LNQ b b x y = LNS b (TG2 b.1 b.2) x y from (if_pos hu).trans (if_pos hc)]
   by_cases h3 : ad2 b.2 b.2 = ze2
   ·exact LNS_n ⟨rfl, h3⟩ h3 x y
   ·exact LNS_y ha ha (fun o => h3 o.2) h3 (tg_sl ha fun e => h3 (by rw [e]; exact R2.add_zero _)) x y
  ·rw [show LNQ a b x y = LNS a (E2w.sub b.2 a.2, E2w.sub b.1 a.1) x y from if_neg hu]
   exact LNS_n (same_x ha hb e1.symm fun e => hu (by rw [e]; exact E2w.sub_self _)) hc x y
 ·have hx : ¬ a.1 = b.1 := fun e => hc (by rw [e]; exact E2w.sub_self _)
  have e : LNQ a b x y = LNS a (E2w.sub b.2 a.2, E2w.sub b.1 a.1) x y := by
   by_cases hu : E2w.sub b.2 a.2 = ze2
   ·exact (if_pos hu).trans (if_neg hc)
   ·exact if_neg hu
  rw [e]
  exact LNS_y ha hb (fun o => hx o.1) hc (ch_sl ha hb hx) x y
theorem LNP_pt {r q : W6} {R Q : Pt W2} (hR : E2w.onP R) (hQ : E2w.onP Q) (hr : E2w.jr r R) (hq : E2w.jr q Q) (x y : Zp) : LNP r q x y = (LG R Q (x, y), LGB R Q) := by
 cases R with
 | none =>
  rw [LNP, XY3_n hr, if_neg (show ¬ false = true from Bool.false_ne_true)]
  rfl
 | some a =>
  cases Q with
  | none =>
   rw [LNP, XY3_s hr, XY3_n hq, if_pos rfl, if_neg (show ¬ false = true from Bool.false_ne_true)]
   rfl
  | some b =>
   rw [LNP, XY3_s hr, XY3_s hq, if_pos rfl, if_pos rfl]
   exact LNQ_pt hR hQ x y
theorem mline_p (r q : J2.GP) (x y : Zp) : Pure Tryd.prog Gt 11 [J2.PtV r, J2.PtV q, EV x, EV y] (.tuple #[EV12 (LG r.P q.P (x, y)), .bool (LGB r.P q.P)]) := by
 have k := mline r.J q.J x y
 rw [LNP_pt r.on q.on r.jr q.jr] at k
 exact k
theorem gen_opp : ¬ E2w.opp G2p G2p := fun o => by
 have h : ad2 G2p.2 G2p.2 = ze2 := o.2
 revert h
 decide +kernel
theorem LG_gen (x y : Zp) : (LG (some G2p) (some G2p) (x, y)).2.2.1 = re2 y ∧ LGB (some G2p) (some G2p) = true := by
 have hs := E2w.sl_slope G2_on G2_on gen_opp
 rw [LG_s G2_on G2_on gen_opp hs]
 exact ⟨rfl, decide_eq_true (show ¬ (_ ∧ _) from gen_opp)⟩
theorem LG_neg (x y : Zp) : LG (some G2p) (E2w.ne (some G2p)) (x, y) = K12.one ∧ LGB (some G2p) (E2w.ne (some G2p)) = false := by
 have o : E2w.opp G2p (E2w.ng G2p) := ⟨rfl, R2.add_neg _⟩
 exact ⟨LG_o o _, show decide (¬ (_ ∧ _)) = false from decide_eq_false fun k => k o⟩
theorem line_gg : ∃ L : W12, Pure Tryd.prog Gt 11 [J2.PtV J2.gGen, J2.PtV J2.gGen, EV 1, EV (zp (2#64).toNat)] (.tuple #[EV12 L, .bool true]) ∧ L.2.2.1 = (zp (2#64).toNat, 0) := by
 have k := mline_p J2.gGen J2.gGen 1 (zp (2#64).toNat)
 have e := LG_gen 1 (zp (2#64).toNat)
 rw [show LGB J2.gGen.P J2.gGen.P = true from e.2] at k
 exact ⟨_, k, e.1⟩
theorem line_gn : ∃ L : W12, Pure Tryd.prog Gt 11 [J2.PtV J2.gGen, J2.PtV (J2.gNeg J2.gGen), EV 1, EV (zp (2#64).toNat)] (.tuple #[EV12 L, .bool false]) ∧ L = K12.one := by
 have k := mline_p J2.gGen (J2.gNeg J2.gGen) 1 (zp (2#64).toNat)
 have e := LG_neg 1 (zp (2#64).toNat)
 rw [show LGB J2.gGen.P (J2.gNeg J2.gGen).P = false from e.2] at k
 exact ⟨_, k, e.1⟩
theorem tmod_neg' {k n : Int} (hn : 0 < n) (h : k.tmod n < 0) : k.tmod n + n = k % n := by
 rw [Int.tmod_eq_emod] at h ⊢
 have h1 := Int.emod_nonneg k (by omega : n ≠ 0)
 have h2 : (n.natAbs : Int) = n := by omega
 split at h <;> split <;> first | omega | (rw [h2]; omega)
theorem tmod_pos' {k n : Int} (hn : 0 < n) (h : ¬ k.tmod n < 0) : k.tmod n = k % n := by
 rw [Int.tmod_eq_emod] at h ⊢
 have h1 := Int.emod_lt_of_pos k hn
 have h2 : (n.natAbs : Int) = n := by omega
 split at h <;> split <;> first | omega | (exfalso; rw [h2] at h; omega)
theorem place_pure (k n : Int) (hn : 0 < n) (hn' : inI n) : Pure Tryd.prog Gt 6 [I k, I n] (I (k % n)) := by
 intro w hw
 have hGF : BOk Gt (pl w) := gt_low.plain hw
 refine calls_of_X (G := Gt) Tryd.func6 rfl rfl (Hp (pl w) []) (hp_refl (pl w) trivial rides_true) (good_hp hGF) ?_
 refine xs_plain (E := EE []) ?_
 refine lx_assign rfl rfl rfl ?_
 refine lx_nil ?_
 refine xs_plain (E := EE []) ?_
 refine lx_move rfl rfl rfl ?_
 refine lx_move rfl rfl rfl ?_
 refine lx_bin (v := I (k.tmod n)) rfl rfl (fun _ => rfl) (fun _ => bin_rem_i _ _ _ (by omega)) rfl rfl ?_
 refine lx_assign rfl rfl rfl ?_
 refine lx_nil ?_
 refine x_seq ?_
 refine xs_plain (E := EE []) ?_
 refine lx_move rfl rfl rfl ?_
 refine lx_bin rfl rfl (fun _ => rfl) (fun _ => bin_lss_i _ _ _) rfl rfl ?_
 refine lx_nil ?_
 refine x_if rfl (fun hc => ?_) (fun hc => ?_)
 ·simp only [decide_eq_true_eq] at hc
  refine x_plain (E := EE []) ?_
  refine lx_move rfl rfl rfl ?_
  refine lx_move rfl rfl rfl ?_
  refine lx_bin (v := I (k % n)) rfl rfl (fun _ => rfl) (fun _ => (bin_add_i _ _ _ (by rw [tmod_neg' hn hc]; unfold inI at *; have := Int.emod_nonneg k (by omega : n ≠ 0); have := Int.emod_lt_of_pos k hn; omega)).trans (by rw [tmod_neg' hn hc])) rfl rfl ?_
  refine lx_assign rfl rfl rfl ?_
  refine lx_nil ?_
  refine xs_plain (E := EE []) ?_
  refine lx_move rfl rfl rfl ?_
  refine lx_assign rfl rfl rfl ?_
  refine lx_nil ?_
  refine x_ret ?_
  repeat (first | refine kseq_ret ?_ | refine kblk_ret ?_)
  exact kret_tmp rfl rfl (fun w hw => ⟨rfl, hp_below hw⟩)
 ·simp only [decide_eq_false_iff_not] at hc
  rw [tmod_pos' hn hc]
  refine x_skip ?_
  refine xs_plain (E := EE []) ?_
  refine lx_move rfl rfl rfl ?_
  refine lx_assign rfl rfl rfl ?_
  refine lx_nil ?_
  refine x_ret ?_
  repeat (first | refine kseq_ret ?_ | refine kblk_ret ?_)
  exact kret_tmp rfl rfl (fun w hw => ⟨rfl, hp_below hw⟩)
theorem ld_48 (x : W12) : ∀ (j : Nat) (u : Value), ((fe x.2.2.1.1 ++ fe x.2.2.1.2).map U64)[j]? = some u → ((((fe ((x).1.1).1 ++ fe ((x).1.1).2) ++ ((fe ((x).1.2.1).1 ++ fe ((x).1.2.1).2) ++ (fe ((x).1.2.2).1 ++ fe ((x).1.2.2).2))) ++ ((fe ((x).2.1).1 ++ fe ((x).2.1).2) ++ ((fe ((x).2.2.1).1 ++ fe ((x).2.2.1).2) ++ (fe ((x).2.2.2).1 ++ fe ((x).2.2.2).2)))).map U64)[48 + j]? = some u := fun j u h => by
 have k : ((((fe (x.2.1).1 ++ fe (x.2.1).2) ++ ((fe (x.2.2.1).1 ++ fe (x.2.2.1).2) ++ (fe (x.2.2.2).1 ++ fe (x.2.2.2).2)))).map U64)[12 + j]? = some u := ld_m (by simp) j u h
 have k2 := ld_r (a := ((fe (x.1.1).1 ++ fe (x.1.1).2) ++ ((fe (x.1.2.1).1 ++ fe (x.1.2.1).2) ++ (fe (x.1.2.2).1 ++ fe (x.1.2.2).2)))) (m := 36) (by simp) (12 + j) u k
 rw [← Nat.add_assoc] at k2
 exact k2
theorem known11 : Pure Tryd.prog Gt 4 [] (.bool true) := by
 obtain ⟨LL, hL, hL2⟩ := line_gg
 obtain ⟨NN, hN, hN2⟩ := line_gn
 intro w hw
 have hGF : BOk Gt (pl w) := gt_low.plain hw
 refine calls_of_XM (G := Gt) Tryd.func4 rfl rfl (Hp (pl w) []) (hp_refl (pl w) trivial rides_true) (good_hp hGF) ?_
 refine xs_plain (E := EE []) ?_
 refine lx_assign rfl rfl rfl ?_
 refine lx_nil ?_
 refine xs_plain (E := EE []) ?_
 refine lx_call rfl rfl ent9 (mdig_p) rfl rfl ?_
 refine lx_assign rfl rfl rfl ?_
 refine lx_nil ?_
 refine x_seq ?_
 refine xs_plain (E := EE []) ?_
 refine lx_move rfl rfl rfl ?_
 refine lx_bin (v := .bool false) rfl rfl (fun _ => rfl) (fun w => bin_eq_fn Tryd.underlying30 _ _ _ w) rfl rfl ?_
 refine lx_nil ?_
 refine x_false rfl ?_
 refine x_skip ?_
 refine xs_plain (E := EE []) ?_
 refine lx_alloc 2 hGF Tryd.zeroValue3 rfl rfl ?_
 intro b2
 refine lx_store 2 hGF rfl rfl rfl Tryd.sizeOf3 rfl (by first | decide | simp) rfl ?_
 refine lx_nil ?_
 refine x_seq ?_
 refine xs_plain (E := EE []) ?_
 refine lx_move rfl rfl rfl ?_
 refine lx_nil ?_
 refine x_block ?_
 refine x_range (fun _ => pl w) (fun _ _ => pl w) (fun _ => hGF) (fun _ _ => hGF) (fun _ => rfl) (fun _ _ => rfl) rfl rfl ent17 mdig_seq (fun x hx => by obtain ⟨k, hk, rfl⟩ := List.mem_map.1 hx; rfl) rfl (fun k => [(2, b2, [I (k : Int)], 3)]) (fun _ _ _ => False) ⟨rfl, trivial⟩ (fun _ _ _ _ => trivial) ?_ ?_ (fun _ _ _ _ _ h => h.elim)
 ·intro k v hx R hR
  obtain ⟨hk, rfl⟩ := DGs_at hx
  refine x_skip ?_
  refine ⟨rfl, _, rfl, ?_⟩
  refine x_block ?_
  refine x_plain (E := EE []) ?_
  refine lx_loadl 2 rfl rfl rfl Tryd.isAgg3 rfl rfl ?_
  refine lx_bin (v := I ((k + 1 : Nat) : Int)) rfl rfl (fun _ => rfl) (fun _ => (bin_add_i _ _ _ (by unfold inI; omega)).trans (by rfl)) rfl rfl ?_
  refine lx_store 2 (hR (pl w) rfl hGF).2.1 rfl rfl rfl Tryd.sizeOf3 rfl (by first | decide | simp) rfl ?_
  refine lx_nil ?_
  repeat (refine kblk_n ?_)
  exact ⟨_, rfl, ⟨rfl, trivial⟩⟩
 ·intro D hD
  rw [DGs_len]
  refine xs_plain (E := EE []) ?_
  refine lx_call rfl rfl ent10 (J2.gen_p) rfl rfl ?_
  refine lx_allocr 3 hD J2.zv39 rfl rfl ?_
  intro b3
  refine lx_storea 3 hD rfl rfl rfl Tryd.sizeOf39 (by simp) (by simp) (one_u64 _) rfl ?_
  refine lx_nil ?_
  refine xs_drawA (E := EE [2999999]) [0, 1, 2, 3, 4, 5, 6, 7] [⟨8, 4, 44, (((fe 0 ++ fe 0) ++ ((fe 0 ++ fe 0) ++ (fe 0 ++ fe 0))) ++ ((fe 0 ++ fe 0) ++ ((fe 0 ++ fe 0) ++ (fe 0 ++ fe 0)))).map U64⟩] [9, 10] mixed rfl (by kernel_rfl) (by kernel_rfl) (by kernel_rfl) (by kernel_rfl) (by kernel_rfl) (by kernel_rfl) (by decide) (by intro x hx; simp only [List.mem_cons, List.not_mem_nil, or_false] at hx; subst hx; exact isAlloc_mk rfl zv44 rfl) ?_
  refine lx_loada 3 rfl rfl Tryd.isAgg39 Tryd.sizeOf39 (by simp) rfl rfl ?_
  refine lx_loada 3 rfl rfl Tryd.isAgg39 Tryd.sizeOf39 (by simp) rfl rfl ?_
  refine lx_call rfl rfl ent12 (fof1_pure) rfl rfl ?_
  refine lx_call rfl rfl ent12 (fof_pure 2#64) rfl rfl ?_
  refine lx_call rfl rfl ent11 (hL) rfl rfl ?_
  refine lx_move rfl rfl rfl ?_
  refine lx_ext rfl rfl rfl rfl ?_
  refine lx_ext rfl rfl rfl rfl ?_
  refine lx_nil ?_
  refine ⟨_, _, rfl, hD, by intro x hx; simp only [List.mem_cons, List.not_mem_nil, or_false] at hx; subst hx; rfl, by intro x hx; simp only [List.mem_cons, List.not_mem_nil, or_false] at hx; subst hx; rfl, fun adr => ?_⟩
  refine lx_storea 4 hD rfl rfl rfl Tryd.sizeOf44 (by simp) (by simp) (one_u64 _) rfl ?_
  refine lx_assign rfl rfl rfl ?_
  refine lx_nil ?_
  refine xs_drawA (E := EE [2999999]) [0, 1, 2, 3, 4, 5, 6, 7, 8] [⟨9, 6, 44, (((fe 0 ++ fe 0) ++ ((fe 0 ++ fe 0) ++ (fe 0 ++ fe 0))) ++ ((fe 0 ++ fe 0) ++ ((fe 0 ++ fe 0) ++ (fe 0 ++ fe 0)))).map U64⟩] [10, 11] mixed rfl (by kernel_rfl) (by kernel_rfl) (by kernel_rfl) (by kernel_rfl) (by kernel_rfl) (by kernel_rfl) (by decide) (by intro x hx; simp only [List.mem_cons, List.not_mem_nil, or_false] at hx; subst hx; exact isAlloc_mk rfl zv44 rfl) ?_
  refine lx_loada 3 rfl rfl Tryd.isAgg39 Tryd.sizeOf39 (by simp) rfl rfl ?_
  refine lx_loada 3 rfl rfl Tryd.isAgg39 Tryd.sizeOf39 (by simp) rfl rfl ?_
  refine lx_call rfl rfl ent13 (J2.neg_p J2.gGen) rfl rfl ?_
  refine lx_call rfl rfl ent12 (fof1_pure) rfl rfl ?_
  refine lx_call rfl rfl ent12 (fof_pure 2#64) rfl rfl ?_
  refine lx_call rfl rfl ent11 (hN) rfl rfl ?_
  refine lx_move rfl rfl rfl ?_
  refine lx_ext rfl rfl rfl rfl ?_
  refine lx_ext rfl rfl rfl rfl ?_
  refine lx_nil ?_
  refine ⟨_, _, rfl, hD, by intro x hx; simp only [List.mem_cons, List.not_mem_nil, or_false] at hx; subst hx; rfl, by intro x hx; simp only [List.mem_cons, List.not_mem_nil, or_false] at hx; subst hx; rfl, fun adr => ?_⟩
  refine lx_storea 6 hD rfl rfl rfl Tryd.sizeOf44 (by simp) (by simp) (one_u64 _) rfl ?_
  refine lx_assign rfl rfl rfl ?_
  refine lx_nil ?_
  refine xs_drawn (E := EE []) mixed (by kernel_rfl) (by kernel_rfl) (by kernel_rfl) ?_
  refine lx_loadl 2 rfl rfl rfl Tryd.isAgg3 rfl rfl ?_
  refine lx_binB true rfl rfl (fun _ => rfl) (fun _ => bin_eql_i _ _ _) (by decide) rfl rfl ?_
  refine lx_move rfl rfl rfl ?_
  refine lx_move rfl rfl rfl ?_
  refine lx_pick rfl rfl rfl rfl rfl ?_
  refine lx_move rfl rfl rfl ?_
  refine lx_fak 36 rfl Tryd.underlying44 rfl Tryd.sizeOf42 (by decide) rfl rfl rfl ?_
  refine lx_fak 48 rfl Tryd.underlying42 rfl Tryd.sizeOf37 (by decide) rfl rfl rfl ?_
  refine lx_loado 4 ((fe LL.2.2.1.1 ++ fe LL.2.2.1.2).map U64) rfl rfl Tryd.isAgg37 Tryd.sizeOf37 (by simp) (ld_48 LL) rfl rfl ?_
  refine lx_call rfl rfl ent12 (fof_pure 2#64) rfl rfl ?_
  refine lx_twoA two37 rfl (by simp) rfl rfl ?_
  refine lx_callB true rfl rfl ent14 (e2equal LL.2.2.1 (zp (2#64).toNat, 0)) (decide_eq_true hL2) rfl rfl ?_
  refine lx_pick rfl rfl rfl rfl rfl ?_
  refine lx_move rfl rfl rfl ?_
  refine lx_move rfl rfl rfl ?_
  refine lx_un rfl (fun _ => un_not _) rfl rfl ?_
  refine lx_pick rfl rfl rfl rfl rfl ?_
  refine lx_move rfl rfl rfl ?_
  refine lx_loada 6 rfl rfl Tryd.isAgg44 Tryd.sizeOf44 (by simp) rfl rfl ?_
  refine lx_call rfl rfl ent16 (k12one) rfl rfl ?_
  refine lx_callB true rfl rfl ent15 (k12equal NN K12.one) (decide_eq_true hN2) rfl rfl ?_
  refine lx_pick rfl rfl rfl rfl rfl ?_
  refine lx_assign rfl rfl rfl ?_
  refine lx_nil ?_
  refine x_ret ?_
  repeat (first | refine kseq_ret ?_ | refine kblk_ret ?_)
  exact kretM_1 (.inl rfl) rides_true (kret_tmp rfl rfl (fun w hw => ⟨rfl, hp_below hw⟩))
end Q6
end Go.Proofs.YthkmeodnlidpfaaDoor
