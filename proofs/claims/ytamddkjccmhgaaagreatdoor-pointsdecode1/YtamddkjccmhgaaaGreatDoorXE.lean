/-
  What the laws of layer 10 share, of the first group: the document's points of the program's; Lift.
  What the laws of layer 10 share, of the second group: the document's points of the program's; Lift.
-/
import Derived.Test.YtamddkjccmhgaaaGreatDoorXD
import Derived.Test.YtamddkjccmhgaaaGreatDoorX3
import Derived.Test.YtamddkjccmhgaaaGreatDoorX5
namespace Go.Proofs.YtamddkjccmhgaaaGreatDoor
open Go.RowKit
set_option maxRecDepth 100000
set_option maxHeartbeats 1000000
attribute [local simp] fe_len nm_len AS_len SS_len MONT_len RM_len FRs_len BYs_len by48_len PLl TWOl ONEl N1l IVPl HFPl RTPl FL_len SP_len fe2_len SP2_len FM_len J1.GL_len
theorem rV3 {Q P : Prop} (k : Q) (h : Q → P := by intro k; (refine LY.run ?_); (repeat (first | refine y_move rfl rfl rfl ?_ | refine y_assign rfl rfl rfl ?_ | ((refine fl38_1R rfl rfl ?_ ?_ rfl rfl rfl rfl ?_); (· simp); (· simp)) | ((refine ra38 rfl rfl ?_ rfl rfl ?_); (· simp)) | ((refine ra28 rfl rfl ?_ rfl rfl ?_); (· simp)) | ((refine ra30 rfl rfl ?_ rfl rfl ?_); (· simp)) | ((refine ra34 rfl rfl ?_ rfl rfl ?_); (· simp)) | ((refine sa40 hGF rfl rfl rfl ?_ ?_ (one_u64 _) rfl ?_); (· simp); (· simp)) | ((refine sa38 hGF rfl rfl rfl ?_ ?_ (one_u64 _) rfl ?_); (· simp); (· simp)) | ((refine sa28 hGF rfl rfl rfl ?_ ?_ (one_u64 _) rfl ?_); (· simp); (· simp)) | ((refine sa36 hGF rfl rfl rfl ?_ ?_ (one_u64 _) rfl ?_); (· simp); (· simp)) | ((refine sa34 hGF rfl rfl rfl ?_ ?_ (one_u64 _) rfl ?_); (· simp); (· simp)) | ((refine sa46 hGF rfl rfl rfl ?_ ?_ (one_u8 _) rfl ?_); (· simp); (· simp)) | refine y_ext rfl rfl rfl rfl ?_ | refine y_call (f := 93) rfl rfl ent93 (r5mul _ _) rfl rfl ?_ | refine y_call (f := 95) rfl rfl ent95 (r9b1) rfl rfl ?_ | refine y_call (f := 94) rfl rfl ent94 (r5add _ _) rfl rfl ?_ | refine y_pick rfl rfl rfl rfl rfl ?_)); (first | refine y_nil ?_ | refine LY.mk ?_); exact k) : P := h k
theorem pV3 {Q P : Prop} (k : Q) (h : Q → P := by intro k; (refine xp ?_); (refine rV3 ?_); exact k) : P := h k

theorem ent13 : Enters Tryz.prog 13 := fun _ _ => by kernel_rfl
theorem ent17 : Enters Tryz.prog 17 := fun _ _ => by kernel_rfl
namespace J1
theorem RJ_s {P : Pt Zp} (h : ¬ P = none) : RJ P = ((PX P, 0), (PY P, 0), on2) := by
  cases P with
  | none => exact absurd rfl h
  | some p => rfl
theorem none_dec {J : W6} {P : Pt Zp} (h : E1w.jr J (em1.p P)) : decide (J.2.2 = ze2) = decide (P = none) := decide_eq_decide.2 ((E1w.jr_z h).trans em1.non)
theorem eq_dec {J K : W6} {P Q : Pt Zp} (hP : E1.onP P) (hQ : E1.onP Q) (hJ : E1w.jr J (em1.p P)) (hK : E1w.jr K (em1.p Q)) : decide ((E1w.jaF J (K.1, ng2 K.2.1, K.2.2)).2.2 = ze2) = decide (P = Q) := by
  have h := E1w.jr_a (em1.onP hP) (E1w.ne_on (em1.onP hQ)) hJ (E1w.jr_n hK)
  refine decide_eq_decide.2 ((E1w.jr_z h).trans ((E1w.ad_ne_iff (em1.onP hP) (em1.onP hQ)).trans ⟨fun e => em1.inj e, fun e => by rw [e]⟩))
theorem hk_mul {P : Pt Zp} (hP : E1.onP P) (bs : List (BitVec 8)) (n : Nat) : E1w.jr (RMJ (RJ P) bs (8 * n)) (em1.p (E1.times P (BN bs n))) := by
  rw [em1.times hP, ← BTn_eight]; exact RMJ_jr (em1.onP hP) (RJ_jr P) bs (8 * n)
theorem ing_decG {P : Pt Zp} (hP : E1.onP P) (bs : List (BitVec 8)) (n m : Nat) (hm : BN bs n = m) : decide ((RMJ (RJ P) bs (8 * n)).2.2 = ze2) = decide (E1.times P m = none) := by
  subst hm
  exact none_dec (hk_mul hP bs n)
theorem rfromE (x : Zp) (b : Nat) (t : TypeId) (w : World) (hw : Gt w) (ho : OwnB w b ((by48 x).map U8) t) :
    Calls Tryz.prog 39 [.slice (some ⟨b, 0, none⟩) 48 48].toArray w (fun r w' => r = .returned (.tuple #[NV (nm x), .bool true]) ∧ Grow w w') := by
  have h := rfrom48 b t (by48 x) (by48_len x) w hw ho
  rw [FRs_by48] at h
  exact h
theorem part8 (x : Zp) : Pure Tryz.prog Gt 48 [EV x] (EV x) := by
  refine pure_X Tryz.func48 fun w hw hGF => ?_
  refine xp ?_
  refine lb fun b1 => ?_
  refine la zv36 fun b2 => ?_
  refine lx_nil ?_
  refine pV3 ?_
  refine lc ent52 (fbytes_pure _) ?_
  refine la zv46 fun b3 => ?_
  refine rV3 ?_
  refine xp ?_
  refine lx_slarr1 (l := 0) (h' := 48) rfl Tryz.underlying46 Tryz.sizeOf5 rfl rfl (by omega) (by omega) rfl rfl ?_
  refine lx_callC rfl rfl ent39 (fun w' hC hG => rfromE x _ _ w' hG (hC.own 3 _ _ _ rfl).1) rfl rfl ?_
  refine rV3 ?_
  refine la zv34 fun b4 => ?_
  refine rV3 ?_
  refine pV3 ?_
  refine lc ent104 (rofE _) ?_
  refine rV3 ?_
  refine rt ?_
  exact kret_own 2 rfl rfl rfl Tryz.isAgg36 Tryz.sizeOf36 (by simp) (fun w hw => ⟨rfl, hp_below hw⟩)
theorem refs8 (p : GP) : Pure Tryz.prog Gt 13 [PtV p] (EV6 (RJ p.P)) := by
  intro w hw
  have hGF : BOk Gt (pl w) := gt_low.plain hw
  by_cases h : p.P = none
  · skip
    rw [h]
    refine calls_of_X (G := Gt) Tryz.func13 rfl rfl (Hp (pl w) []) (hp_refl (pl w) trivial rides_true) (good_hp hGF) ?_
    refine xp ?_
    refine lb fun b1 => ?_
    refine la zv40 fun b2 => ?_
    refine lx_nil ?_
    refine pV3 ?_
    refine lc ent46 (xy_n p h) ?_
    refine rV3 ?_
    refine la zv28 fun b3 => ?_
    refine la zv28 fun b4 => ?_
    refine rV3 ?_
    refine x_seq ?_
    refine pV3 ?_
    refine lx_un rfl (fun _ => un_not _) rfl rfl ?_
    refine lx_nil ?_
    refine x_true rfl ?_
    refine xp ?_
    refine lx_threeN three40 rfl rfl ?_
    refine rV3 ?_
    refine rt ?_
    exact kret_own 2 rfl rfl rfl Tryz.isAgg40 Tryz.sizeOf40 (by simp) (fun w hw => ⟨rfl, hp_below hw⟩)
  · skip
    rw [RJ_s h]
    refine calls_of_X (G := Gt) Tryz.func13 rfl rfl (Hp (pl w) []) (hp_refl (pl w) trivial rides_true) (good_hp hGF) ?_
    refine xp ?_
    refine lb fun b1 => ?_
    refine la zv40 fun b2 => ?_
    refine lx_nil ?_
    refine pV3 ?_
    refine lc ent46 (xy_s p h) ?_
    refine rV3 ?_
    refine la zv28 fun b3 => ?_
    refine la zv28 fun b4 => ?_
    refine rV3 ?_
    refine x_seq ?_
    refine pV3 ?_
    refine lx_un rfl (fun _ => un_not _) rfl rfl ?_
    refine lx_nil ?_
    refine x_false rfl ?_
    refine x_skip ?_
    refine xs_drawn (E := EE []) mixed (by kernel_rfl) (by kernel_rfl) (by kernel_rfl) ?_
    refine rV3 ?_
    refine lc ent48 (part8 _) ?_
    refine lx_twoA two38 rfl (by simp) rfl rfl ?_
    refine rV3 ?_
    refine lc ent48 (part8 _) ?_
    refine lx_twoA two38 rfl (by simp) rfl rfl ?_
    refine lx_call rfl rfl ent47 (r9at (PX p.P, 0) (PY p.P, 0)) rfl rfl ?_
    refine rV3 ?_
    refine rt ?_
    exact kret_own 2 rfl rfl rfl Tryz.isAgg40 Tryz.sizeOf40 (by simp) (fun w hw => ⟨rfl, hp_below hw⟩)
theorem neg_neg0 (a : Zp) : -(-a) = a := by grind
theorem cur4 (a : Zp) : ad2 (ml2 (ml2 (a, 0) (a, 0)) (a, 0)) E1w.b = (RS4 a, 0) := by
  rw [zz, zz, show ad2 (a * a * a, 0) E1w.b = (RS4 a, 0 + 0) from rfl, z_a0']
theorem sqrt_y {a : Zp} (h : LQ a) : Pure Tryz.prog Gt 96 [EV2 (ad2 (ml2 (ml2 (a, 0) (a, 0)) (a, 0)) E1w.b)] (.tuple #[EV2 (SQ (RS4 a), 0), .bool true]) := by
  have k := r5sqrtY (ad2 (ml2 (ml2 (a, 0) (a, 0)) (a, 0)) E1w.b) (RO (RS4 a)) ((RO_sq _).trans (cur4 a).symm) (RO_small _)
  rw [show RO (RS4 a) = (SQ (RS4 a), 0) from if_pos h] at k
  exact k
theorem sqrt_n {a : Zp} (h : ¬ LQ a) : Pure Tryz.prog Gt 96 [EV2 (ad2 (ml2 (ml2 (a, 0) (a, 0)) (a, 0)) E1w.b)] (.tuple #[EV2 (0, SQ (-(RS4 a))), .bool true]) := by
  have k := r5sqrtY (ad2 (ml2 (ml2 (a, 0) (a, 0)) (a, 0)) E1w.b) (RO (RS4 a)) ((RO_sq _).trans (cur4 a).symm) (RO_small _)
  rw [show RO (RS4 a) = (0, SQ (-(RS4 a))) from if_neg h] at k
  exact k
theorem SQr_0 : SQr 0 * SQr 0 = (0 : Zp) := (isQ_iff 0).2 (.inl rfl)
theorem sq_nz {c : Zp} (h : ¬ SQr c * SQr c = c) : ¬ SQ (-c) = 0 := fun e => by
  have k := SQ_sq (neg_isQ h)
  rw [e, z_m0] at k
  have hc : c = 0 := neg_eq0.1 k.symm
  subst hc
  exact h SQr_0
theorem lg_y {a : Zp} (h : LQ a) : LG2 (SQ (RS4 a), 0) = false := LG_re (SQ_small h)
theorem r9lift_yt (a : Zp) (h : LQ a) : Pure Tryz.prog Gt 42 [EV2 (a, 0), .bool true, .bool false] (.tuple #[EV6 ((a, 0), (LY a true, 0), on2), .bool true]) := by
  intro w hw
  have hGF : BOk Gt (pl w) := gt_low.plain hw
  rw [show (((a, 0), (LY a true, 0), on2) : W6) = ((a, 0), ng2 (SQ (RS4 a), 0), on2) from by rw [LY_t h]; rw [show ng2 (SQ (RS4 a), 0) = (-(SQ (RS4 a)), -0) from rfl, z_n0']]
  refine calls_of_X (G := Gt) Tryz.func42 rfl rfl (Hp (pl w) []) (hp_refl (pl w) trivial rides_true) (good_hp hGF) ?_
  refine xp ?_
  refine lb fun b3 => ?_
  refine la zv40 fun b6 => ?_
  refine rV3 ?_
  refine xs_drawA (E := EE [2999999]) [0, 1, 2, 3, 4, 5, 6, 7, 8, 9, 10, 11] [⟨12, 8, 38, (fe 0 ++ fe 0).map U64⟩] [13, 14] mixed rfl (by kernel_rfl) (by kernel_rfl) (by kernel_rfl) (by kernel_rfl) (by kernel_rfl) (by kernel_rfl) (by decide) (by intro x hx; simp only [List.mem_cons, List.not_mem_nil, or_false] at hx; subst hx; exact isAlloc_mk rfl zv38 rfl) ?_
  refine rV3 ?_
  refine lc ent96 (sqrt_y h) ?_
  refine rV3 ?_
  refine ⟨_, _, rfl, hGF, by intro x hx; simp only [List.mem_cons, List.not_mem_nil, or_false] at hx; subst hx; rfl, by intro x hx; simp only [List.mem_cons, List.not_mem_nil, or_false] at hx; subst hx; rfl, fun adr => ?_⟩
  refine rV3 ?_
  refine x_seq ?_
  refine pV3 ?_
  refine lx_un rfl (fun _ => un_not _) rfl rfl ?_
  refine rV3 ?_
  refine lx_callB true rfl rfl ent97 (risZeroE _) (decide_eq_true rfl) rfl rfl ?_
  refine lx_un rfl (fun _ => un_not _) rfl rfl ?_
  refine rV3 ?_
  refine x_false rfl ?_
  refine x_skip ?_
  refine x_seq ?_
  refine pV3 ?_
  refine lx_un rfl (fun _ => un_not _) rfl rfl ?_
  refine lx_nil ?_
  refine x_false rfl ?_
  refine x_skip ?_
  refine x_seq ?_
  refine pV3 ?_
  refine lx_callB false rfl rfl ent80 (r5large _) (lg_y h) rfl rfl ?_
  refine rV3 ?_
  refine lx_binB true rfl rfl (fun _ => rfl) (fun w => bin_neq_bool 4 Tryz.underlying4 _ _ w) (rfl) rfl rfl ?_
  refine lx_nil ?_
  refine x_true rfl ?_
  refine x_plain (E := EE []) ?_
  refine rV3 ?_
  refine lx_call rfl rfl ent98 (r5neg (SQ (RS4 a), 0)) rfl rfl ?_
  refine rV3 ?_
  refine pV3 ?_
  refine lc ent47 (r9at _ _) ?_
  refine rV3 ?_
  refine rt ?_
  exact kret_ct 6 rfl rfl rfl rfl Tryz.isAgg40 Tryz.sizeOf40 (by simp) (fun w hw => ⟨rfl, hp_below hw⟩)
theorem r9lift_mt (a t : Zp) (ht : ¬ t = 0) (hs : Pure Tryz.prog Gt 96 [EV2 (ad2 (ml2 (ml2 (a, 0) (a, 0)) (a, 0)) E1w.b)] (.tuple #[EV2 (0, t), .bool true])) : Pure Tryz.prog Gt 42 [EV2 (a, 0), .bool true, .bool false] (.tuple #[EV6 (ze2, ze2, ze2), .bool false]) := by
  refine pure_X Tryz.func42 fun w hw hGF => ?_
  refine xp ?_
  refine lb fun b3 => ?_
  refine la zv40 fun b6 => ?_
  refine rV3 ?_
  refine xs_drawA (E := EE [2999999]) [0, 1, 2, 3, 4, 5, 6, 7, 8, 9, 10, 11] [⟨12, 8, 38, (fe 0 ++ fe 0).map U64⟩] [13, 14] mixed rfl (by kernel_rfl) (by kernel_rfl) (by kernel_rfl) (by kernel_rfl) (by kernel_rfl) (by kernel_rfl) (by decide) (by intro x hx; simp only [List.mem_cons, List.not_mem_nil, or_false] at hx; subst hx; exact isAlloc_mk rfl zv38 rfl) ?_
  refine rV3 ?_
  refine lc ent96 (hs) ?_
  refine rV3 ?_
  refine ⟨_, _, rfl, hGF, by intro x hx; simp only [List.mem_cons, List.not_mem_nil, or_false] at hx; subst hx; rfl, by intro x hx; simp only [List.mem_cons, List.not_mem_nil, or_false] at hx; subst hx; rfl, fun adr => ?_⟩
  refine rV3 ?_
  refine x_seq ?_
  refine pV3 ?_
  refine lx_un rfl (fun _ => un_not _) rfl rfl ?_
  refine rV3 ?_
  refine lx_callB false rfl rfl ent97 (risZeroE _) (decide_eq_false ht) rfl rfl ?_
  refine lx_un rfl (fun _ => un_not _) rfl rfl ?_
  refine rV3 ?_
  refine x_true rfl ?_
  refine x_plain (E := EE []) ?_
  refine rV3 ?_
  refine x_seq ?_
  refine pV3 ?_
  refine lx_un rfl (fun _ => un_not _) rfl rfl ?_
  refine lx_nil ?_
  refine x_true rfl ?_
  refine xp ?_
  refine lx_threeN three40 rfl rfl ?_
  refine rV3 ?_
  refine rt ?_
  exact kret_ct 6 rfl rfl rfl rfl Tryz.isAgg40 Tryz.sizeOf40 (by simp) (fun w hw => ⟨rfl, hp_below hw⟩)
theorem r9lift_yf (a : Zp) (h : LQ a) : Pure Tryz.prog Gt 42 [EV2 (a, 0), .bool false, .bool false] (.tuple #[EV6 ((a, 0), (LY a false, 0), on2), .bool true]) := by
  intro w hw
  have hGF : BOk Gt (pl w) := gt_low.plain hw
  rw [LY_f h]
  refine calls_of_X (G := Gt) Tryz.func42 rfl rfl (Hp (pl w) []) (hp_refl (pl w) trivial rides_true) (good_hp hGF) ?_
  refine xp ?_
  refine lb fun b3 => ?_
  refine la zv40 fun b6 => ?_
  refine rV3 ?_
  refine xs_drawA (E := EE [2999999]) [0, 1, 2, 3, 4, 5, 6, 7, 8, 9, 10, 11] [⟨12, 8, 38, (fe 0 ++ fe 0).map U64⟩] [13, 14] mixed rfl (by kernel_rfl) (by kernel_rfl) (by kernel_rfl) (by kernel_rfl) (by kernel_rfl) (by kernel_rfl) (by decide) (by intro x hx; simp only [List.mem_cons, List.not_mem_nil, or_false] at hx; subst hx; exact isAlloc_mk rfl zv38 rfl) ?_
  refine rV3 ?_
  refine lc ent96 (sqrt_y h) ?_
  refine rV3 ?_
  refine ⟨_, _, rfl, hGF, by intro x hx; simp only [List.mem_cons, List.not_mem_nil, or_false] at hx; subst hx; rfl, by intro x hx; simp only [List.mem_cons, List.not_mem_nil, or_false] at hx; subst hx; rfl, fun adr => ?_⟩
  refine rV3 ?_
  refine x_seq ?_
  refine pV3 ?_
  refine lx_un rfl (fun _ => un_not _) rfl rfl ?_
  refine rV3 ?_
  refine lx_callB true rfl rfl ent97 (risZeroE _) (decide_eq_true rfl) rfl rfl ?_
  refine lx_un rfl (fun _ => un_not _) rfl rfl ?_
  refine rV3 ?_
  refine x_false rfl ?_
  refine x_skip ?_
  refine x_seq ?_
  refine pV3 ?_
  refine lx_un rfl (fun _ => un_not _) rfl rfl ?_
  refine lx_nil ?_
  refine x_false rfl ?_
  refine x_skip ?_
  refine x_seq ?_
  refine pV3 ?_
  refine lx_callB false rfl rfl ent80 (r5large _) (lg_y h) rfl rfl ?_
  refine rV3 ?_
  refine lx_binB false rfl rfl (fun _ => rfl) (fun w => bin_neq_bool 4 Tryz.underlying4 _ _ w) (rfl) rfl rfl ?_
  refine lx_nil ?_
  refine x_false rfl ?_
  refine x_skip ?_
  refine pV3 ?_
  refine lc ent47 (r9at _ _) ?_
  refine rV3 ?_
  refine rt ?_
  exact kret_ct 6 rfl rfl rfl rfl Tryz.isAgg40 Tryz.sizeOf40 (by simp) (fun w hw => ⟨rfl, hp_below hw⟩)
theorem r9lift_mf (a t : Zp) (ht : ¬ t = 0) (hs : Pure Tryz.prog Gt 96 [EV2 (ad2 (ml2 (ml2 (a, 0) (a, 0)) (a, 0)) E1w.b)] (.tuple #[EV2 (0, t), .bool true])) : Pure Tryz.prog Gt 42 [EV2 (a, 0), .bool false, .bool false] (.tuple #[EV6 (ze2, ze2, ze2), .bool false]) := by
  refine pure_X Tryz.func42 fun w hw hGF => ?_
  refine xp ?_
  refine lb fun b3 => ?_
  refine la zv40 fun b6 => ?_
  refine rV3 ?_
  refine xs_drawA (E := EE [2999999]) [0, 1, 2, 3, 4, 5, 6, 7, 8, 9, 10, 11] [⟨12, 8, 38, (fe 0 ++ fe 0).map U64⟩] [13, 14] mixed rfl (by kernel_rfl) (by kernel_rfl) (by kernel_rfl) (by kernel_rfl) (by kernel_rfl) (by kernel_rfl) (by decide) (by intro x hx; simp only [List.mem_cons, List.not_mem_nil, or_false] at hx; subst hx; exact isAlloc_mk rfl zv38 rfl) ?_
  refine rV3 ?_
  refine lc ent96 (hs) ?_
  refine rV3 ?_
  refine ⟨_, _, rfl, hGF, by intro x hx; simp only [List.mem_cons, List.not_mem_nil, or_false] at hx; subst hx; rfl, by intro x hx; simp only [List.mem_cons, List.not_mem_nil, or_false] at hx; subst hx; rfl, fun adr => ?_⟩
  refine rV3 ?_
  refine x_seq ?_
  refine pV3 ?_
  refine lx_un rfl (fun _ => un_not _) rfl rfl ?_
  refine rV3 ?_
  refine lx_callB false rfl rfl ent97 (risZeroE _) (decide_eq_false ht) rfl rfl ?_
  refine lx_un rfl (fun _ => un_not _) rfl rfl ?_
  refine rV3 ?_
  refine x_true rfl ?_
  refine x_plain (E := EE []) ?_
  refine rV3 ?_
  refine x_seq ?_
  refine pV3 ?_
  refine lx_un rfl (fun _ => un_not _) rfl rfl ?_
  refine lx_nil ?_
  refine x_true rfl ?_
  refine xp ?_
  refine lx_threeN three40 rfl rfl ?_
  refine rV3 ?_
  refine rt ?_
  exact kret_ct 6 rfl rfl rfl rfl Tryz.isAgg40 Tryz.sizeOf40 (by simp) (fun w hw => ⟨rfl, hp_below hw⟩)
theorem r9lift_y (a : Zp) (l : Bool) (h : LQ a) : Pure Tryz.prog Gt 42 [EV2 (a, 0), .bool l, .bool false] (.tuple #[EV6 ((a, 0), (LY a l, 0), on2), .bool true]) := by
  cases l with
  | true => exact r9lift_yt a h
  | false => exact r9lift_yf a h
theorem r9lift_n (a : Zp) (l : Bool) (h : ¬ LQ a) : Pure Tryz.prog Gt 42 [EV2 (a, 0), .bool l, .bool false] (.tuple #[EV6 (ze2, ze2, ze2), .bool false]) := by
  cases l with
  | true => exact r9lift_mt a _ (sq_nz (c := RS4 a) h) (sqrt_n h)
  | false => exact r9lift_mf a _ (sq_nz (c := RS4 a) h) (sqrt_n h)
end J1
end Go.Proofs.YtamddkjccmhgaaaGreatDoor

namespace Go.Proofs.YtamddkjccmhgaaaGreatDoor
open Go.RowKit
set_option maxRecDepth 100000
set_option maxHeartbeats 1000000
attribute [local simp] fe_len nm_len AS_len SS_len MONT_len RM_len FRs_len BYs_len by48_len PLl TWOl ONEl N1l IVPl HFPl RTPl FL_len SP_len fe2_len SP2_len FM_len J2.GL_len
theorem rV4 {Q P : Prop} (k : Q) (h : Q → P := by intro k; (refine LY.run ?_); (repeat (first | refine y_move rfl rfl rfl ?_ | refine y_assign rfl rfl rfl ?_ | ((refine fl50_0L rfl rfl ?_ rfl rfl rfl rfl ?_); (· simp)) | ((refine fl50_1R rfl rfl ?_ ?_ rfl rfl rfl rfl ?_); (· simp); (· simp)) | ((refine ra38 rfl rfl ?_ rfl rfl ?_); (· simp)) | ((refine ra52 rfl rfl ?_ rfl rfl ?_); (· simp)) | ((refine sa40 hGF rfl rfl rfl ?_ ?_ (one_u64 _) rfl ?_); (· simp); (· simp)) | ((refine sa38 hGF rfl rfl rfl ?_ ?_ (one_u64 _) rfl ?_); (· simp); (· simp)) | ((refine sa50 hGF rfl rfl rfl ?_ ?_ (one_u64 _) rfl ?_); (· simp); (· simp)) | refine y_ext rfl rfl rfl rfl ?_ | refine y_call (f := 93) rfl rfl ent93 (r5mul _ _) rfl rfl ?_ | refine y_call (f := 94) rfl rfl ent94 (r5add _ _) rfl rfl ?_ | refine y_call (f := 48) rfl rfl ent48 (J1.part8 _) rfl rfl ?_ | refine y_pick rfl rfl rfl rfl rfl ?_)); (first | refine y_nil ?_ | refine LY.mk ?_); exact k) : P := h k
theorem pV4 {Q P : Prop} (k : Q) (h : Q → P := by intro k; (refine xp ?_); (refine rV4 ?_); exact k) : P := h k

theorem jdF_12 (x : W6) : E1w.jdF x = E2w.jdF x := rfl
theorem jaF_12 (x y : W6) : E1w.jaF x y = E2w.jaF x y := rfl
namespace J2
theorem RJ_s {P : Pt W2} (h : ¬ P = none) : RJ2 P = (PX P, PY P, on2) := by
  cases P with
  | none => exact absurd rfl h
  | some p => rfl
theorem none_dec {J : W6} {P : Pt W2} (h : E2w.jr J P) : decide (J.2.2 = ze2) = decide (P = none) := decide_eq_decide.2 (E2w.jr_z h)
theorem eq_dec {J K : W6} {P Q : Pt W2} (hP : E2w.onP P) (hQ : E2w.onP Q) (hJ : E2w.jr J P) (hK : E2w.jr K Q) : decide ((E2w.jaF J (K.1, ng2 K.2.1, K.2.2)).2.2 = ze2) = decide (P = Q) := by
  have h := E2w.jr_a hP (E2w.ne_on hQ) hJ (E2w.jr_n hK)
  exact decide_eq_decide.2 ((E2w.jr_z h).trans (E2w.ad_ne_iff hP hQ))
theorem RMJ_jr2 {x : W6} {P : Pt W2} (hP : E2w.onP P) (hx : E2w.jr x P) (bs : List (BitVec 8)) : ∀ i, E2w.jr (RMJ x bs i) (E2w.times P (BTn bs i))
  | 0 => rfl
  | i + 1 => by
    have hd := E2w.jr_d (E2w.times_on hP _) (RMJ_jr2 hP hx bs i)
    rw [E2w.dbl_times hP] at hd
    rcases bit_one bs i with ⟨h, e⟩ | ⟨h, e⟩
    · rw [RMJ_y h, BTn, e, jdF_12, jaF_12]
      exact E2w.jr_a (E2w.times_on hP _) hP hd hx
    · rw [RMJ_n h, BTn, e, jdF_12]
      exact hd
theorem hk_mul {P : Pt W2} (hP : E2w.onP P) (bs : List (BitVec 8)) (n : Nat) : E2w.jr (RMJ (RJ2 P) bs (8 * n)) (E2w.times P (BN bs n)) := by
  rw [← BTn_eight]; exact RMJ_jr2 hP (RJ2_jr P) bs (8 * n)
theorem ing_decG {P : Pt W2} (hP : E2w.onP P) (bs : List (BitVec 8)) (n m : Nat) (hm : BN bs n = m) : decide ((RMJ (RJ2 P) bs (8 * n)).2.2 = ze2) = decide (E2w.times P m = none) := by
  subst hm
  exact none_dec (hk_mul hP bs n)
theorem refs8 (p : GP) : Pure Tryz.prog Gt 17 [PtV p] (EV6 (RJ2 p.P)) := by
  intro w hw
  have hGF : BOk Gt (pl w) := gt_low.plain hw
  by_cases h : p.P = none
  · skip
    rw [h]
    refine calls_of_X (G := Gt) Tryz.func17 rfl rfl (Hp (pl w) []) (hp_refl (pl w) trivial rides_true) (good_hp hGF) ?_
    refine xp ?_
    refine lb fun b1 => ?_
    refine la zv40 fun b2 => ?_
    refine lx_nil ?_
    refine pV4 ?_
    refine lc ent57 (xy_n p h) ?_
    refine rV4 ?_
    refine la zv50 fun b3 => ?_
    refine la zv50 fun b4 => ?_
    refine rV4 ?_
    refine x_seq ?_
    refine pV4 ?_
    refine lx_un rfl (fun _ => un_not _) rfl rfl ?_
    refine lx_nil ?_
    refine x_true rfl ?_
    refine xp ?_
    refine lx_threeN three40 rfl rfl ?_
    refine rV4 ?_
    refine rt ?_
    exact kret_own 2 rfl rfl rfl Tryz.isAgg40 Tryz.sizeOf40 (by simp) (fun w hw => ⟨rfl, hp_below hw⟩)
  · skip
    rw [RJ_s h]
    refine calls_of_X (G := Gt) Tryz.func17 rfl rfl (Hp (pl w) []) (hp_refl (pl w) trivial rides_true) (good_hp hGF) ?_
    refine xp ?_
    refine lb fun b1 => ?_
    refine la zv40 fun b2 => ?_
    refine lx_nil ?_
    refine pV4 ?_
    refine lc ent57 (xy_s p h) ?_
    refine rV4 ?_
    refine la zv50 fun b3 => ?_
    refine la zv50 fun b4 => ?_
    refine rV4 ?_
    refine x_seq ?_
    refine pV4 ?_
    refine lx_un rfl (fun _ => un_not _) rfl rfl ?_
    refine lx_nil ?_
    refine x_false rfl ?_
    refine x_skip ?_
    refine xs_drawn (E := EE []) mixed (by kernel_rfl) (by kernel_rfl) (by kernel_rfl) ?_
    refine rV4 ?_
    refine lx_two two38 rfl rfl (by simp) (by simp) rfl rfl ?_
    refine rV4 ?_
    refine lx_two two38 rfl rfl (by simp) (by simp) rfl rfl ?_
    refine lx_call rfl rfl ent47 (r9at (PX p.P) (PY p.P)) rfl rfl ?_
    refine rV4 ?_
    refine rt ?_
    exact kret_own 2 rfl rfl rfl Tryz.isAgg40 Tryz.sizeOf40 (by simp) (fun w hw => ⟨rfl, hp_below hw⟩)
theorem sm_44 : sm2 4#64 4#64 = E2w.b := by decide +kernel
theorem r9b2  : Pure Tryz.prog Gt 95 [.bool true] (EV2 E2w.b) := by
  refine pure_X Tryz.func95 fun w hw hGF => ?_
  refine xp ?_
  refine la zv38 fun b2 => ?_
  refine lx_nil ?_
  refine x_seq ?_
  refine pV4 ?_
  refine x_true rfl ?_
  refine xp ?_
  refine lc ent136 (small5r _ _) ?_
  refine rV4 ?_
  refine rt ?_
  exact kret_own 2 rfl rfl rfl Tryz.isAgg38 Tryz.sizeOf38 (by simp) (fun w hw => ⟨by rw [← sm_44], hp_below hw⟩)
theorem sqrt_y {a r : W2} (hr : ml2 r r = RS4 a) (hl : LG2 r = false) : Pure Tryz.prog Gt 96 [EV2 (ad2 (ml2 (ml2 a a) a) E2w.b)] (.tuple #[EV2 r, .bool true]) := r5sqrtY (ad2 (ml2 (ml2 a a) a) E2w.b) r hr hl
theorem sqrt_n {a : W2} (h : ¬ LQ a) : Pure Tryz.prog Gt 96 [EV2 (ad2 (ml2 (ml2 a a) a) E2w.b)] (.tuple #[EV2 ze2, .bool false]) := r5sqrtN (ad2 (ml2 (ml2 a a) a) E2w.b) h
theorem r9lift_yt (a r : W2) (hr : ml2 r r = RS4 a) (hl : LG2 r = false) : Pure Tryz.prog Gt 42 [EV2 a, .bool true, .bool true] (.tuple #[EV6 (a, ng2 r, on2), .bool true]) := by
  refine pure_X Tryz.func42 fun w hw hGF => ?_
  refine xp ?_
  refine lb fun b3 => ?_
  refine la zv40 fun b6 => ?_
  refine rV4 ?_
  refine xs_drawA (E := EE [2999999]) [0, 1, 2, 3, 4, 5, 6, 7, 8, 9, 10, 11] [⟨12, 8, 38, (fe 0 ++ fe 0).map U64⟩] [13, 14] mixed rfl (by kernel_rfl) (by kernel_rfl) (by kernel_rfl) (by kernel_rfl) (by kernel_rfl) (by kernel_rfl) (by decide) (by intro x hx; simp only [List.mem_cons, List.not_mem_nil, or_false] at hx; subst hx; exact isAlloc_mk rfl zv38 rfl) ?_
  refine rV4 ?_
  refine lc ent95 (r9b2) ?_
  refine rV4 ?_
  refine lc ent96 (sqrt_y hr hl) ?_
  refine rV4 ?_
  refine ⟨_, _, rfl, hGF, by intro x hx; simp only [List.mem_cons, List.not_mem_nil, or_false] at hx; subst hx; rfl, by intro x hx; simp only [List.mem_cons, List.not_mem_nil, or_false] at hx; subst hx; rfl, fun adr => ?_⟩
  refine rV4 ?_
  refine x_seq ?_
  refine pV4 ?_
  refine lx_un rfl (fun _ => un_not _) rfl rfl ?_
  refine rV4 ?_
  refine lx_skip rfl rfl rfl ?_
  refine lx_skip rfl rfl rfl ?_
  refine lx_skip rfl rfl rfl ?_
  refine lx_skip rfl rfl rfl ?_
  refine rV4 ?_
  refine x_false rfl ?_
  refine x_skip ?_
  refine x_seq ?_
  refine pV4 ?_
  refine lx_un rfl (fun _ => un_not _) rfl rfl ?_
  refine lx_nil ?_
  refine x_false rfl ?_
  refine x_skip ?_
  refine x_seq ?_
  refine pV4 ?_
  refine lx_callB false rfl rfl ent80 (r5large _) (hl) rfl rfl ?_
  refine rV4 ?_
  refine lx_binB true rfl rfl (fun _ => rfl) (fun w => bin_neq_bool 4 Tryz.underlying4 _ _ w) (rfl) rfl rfl ?_
  refine lx_nil ?_
  refine x_true rfl ?_
  refine x_plain (E := EE []) ?_
  refine rV4 ?_
  refine lc ent98 (r5neg r) ?_
  refine rV4 ?_
  refine pV4 ?_
  refine lc ent47 (r9at _ _) ?_
  refine rV4 ?_
  refine rt ?_
  exact kret_ct 6 rfl rfl rfl rfl Tryz.isAgg40 Tryz.sizeOf40 (by simp) (fun w hw => ⟨rfl, hp_below hw⟩)
theorem r9lift_nt (a : W2) (h : ¬ LQ a) : Pure Tryz.prog Gt 42 [EV2 a, .bool true, .bool true] (.tuple #[EV6 (ze2, ze2, ze2), .bool false]) := by
  refine pure_X Tryz.func42 fun w hw hGF => ?_
  refine xp ?_
  refine lb fun b3 => ?_
  refine la zv40 fun b6 => ?_
  refine rV4 ?_
  refine xs_drawA (E := EE [2999999]) [0, 1, 2, 3, 4, 5, 6, 7, 8, 9, 10, 11] [⟨12, 8, 38, (fe 0 ++ fe 0).map U64⟩] [13, 14] mixed rfl (by kernel_rfl) (by kernel_rfl) (by kernel_rfl) (by kernel_rfl) (by kernel_rfl) (by kernel_rfl) (by decide) (by intro x hx; simp only [List.mem_cons, List.not_mem_nil, or_false] at hx; subst hx; exact isAlloc_mk rfl zv38 rfl) ?_
  refine rV4 ?_
  refine lc ent95 (r9b2) ?_
  refine rV4 ?_
  refine lc ent96 (sqrt_n h) ?_
  refine rV4 ?_
  refine ⟨_, _, rfl, hGF, by intro x hx; simp only [List.mem_cons, List.not_mem_nil, or_false] at hx; subst hx; rfl, by intro x hx; simp only [List.mem_cons, List.not_mem_nil, or_false] at hx; subst hx; rfl, fun adr => ?_⟩
  refine rV4 ?_
  refine x_seq ?_
  refine pV4 ?_
  refine lx_un rfl (fun _ => un_not _) rfl rfl ?_
  refine rV4 ?_
  refine lx_skip rfl rfl rfl ?_
  refine lx_skip rfl rfl rfl ?_
  refine lx_skip rfl rfl rfl ?_
  refine lx_skip rfl rfl rfl ?_
  refine rV4 ?_
  refine x_false rfl ?_
  refine x_skip ?_
  refine x_seq ?_
  refine pV4 ?_
  refine lx_un rfl (fun _ => un_not _) rfl rfl ?_
  refine lx_nil ?_
  refine x_true rfl ?_
  refine xp ?_
  refine lx_threeN three40 rfl rfl ?_
  refine rV4 ?_
  refine rt ?_
  exact kret_ct 6 rfl rfl rfl rfl Tryz.isAgg40 Tryz.sizeOf40 (by simp) (fun w hw => ⟨rfl, hp_below hw⟩)
theorem r9lift_yf (a r : W2) (hr : ml2 r r = RS4 a) (hl : LG2 r = false) : Pure Tryz.prog Gt 42 [EV2 a, .bool false, .bool true] (.tuple #[EV6 (a, r, on2), .bool true]) := by
  refine pure_X Tryz.func42 fun w hw hGF => ?_
  refine xp ?_
  refine lb fun b3 => ?_
  refine la zv40 fun b6 => ?_
  refine rV4 ?_
  refine xs_drawA (E := EE [2999999]) [0, 1, 2, 3, 4, 5, 6, 7, 8, 9, 10, 11] [⟨12, 8, 38, (fe 0 ++ fe 0).map U64⟩] [13, 14] mixed rfl (by kernel_rfl) (by kernel_rfl) (by kernel_rfl) (by kernel_rfl) (by kernel_rfl) (by kernel_rfl) (by decide) (by intro x hx; simp only [List.mem_cons, List.not_mem_nil, or_false] at hx; subst hx; exact isAlloc_mk rfl zv38 rfl) ?_
  refine rV4 ?_
  refine lc ent95 (r9b2) ?_
  refine rV4 ?_
  refine lc ent96 (sqrt_y hr hl) ?_
  refine rV4 ?_
  refine ⟨_, _, rfl, hGF, by intro x hx; simp only [List.mem_cons, List.not_mem_nil, or_false] at hx; subst hx; rfl, by intro x hx; simp only [List.mem_cons, List.not_mem_nil, or_false] at hx; subst hx; rfl, fun adr => ?_⟩
  refine rV4 ?_
  refine x_seq ?_
  refine pV4 ?_
  refine lx_un rfl (fun _ => un_not _) rfl rfl ?_
  refine rV4 ?_
  refine lx_skip rfl rfl rfl ?_
  refine lx_skip rfl rfl rfl ?_
  refine lx_skip rfl rfl rfl ?_
  refine lx_skip rfl rfl rfl ?_
  refine rV4 ?_
  refine x_false rfl ?_
  refine x_skip ?_
  refine x_seq ?_
  refine pV4 ?_
  refine lx_un rfl (fun _ => un_not _) rfl rfl ?_
  refine lx_nil ?_
  refine x_false rfl ?_
  refine x_skip ?_
  refine x_seq ?_
  refine pV4 ?_
  refine lx_callB false rfl rfl ent80 (r5large _) (hl) rfl rfl ?_
  refine rV4 ?_
  refine lx_binB false rfl rfl (fun _ => rfl) (fun w => bin_neq_bool 4 Tryz.underlying4 _ _ w) (rfl) rfl rfl ?_
  refine lx_nil ?_
  refine x_false rfl ?_
  refine x_skip ?_
  refine pV4 ?_
  refine lc ent47 (r9at _ _) ?_
  refine rV4 ?_
  refine rt ?_
  exact kret_ct 6 rfl rfl rfl rfl Tryz.isAgg40 Tryz.sizeOf40 (by simp) (fun w hw => ⟨rfl, hp_below hw⟩)
theorem r9lift_nf (a : W2) (h : ¬ LQ a) : Pure Tryz.prog Gt 42 [EV2 a, .bool false, .bool true] (.tuple #[EV6 (ze2, ze2, ze2), .bool false]) := by
  refine pure_X Tryz.func42 fun w hw hGF => ?_
  refine xp ?_
  refine lb fun b3 => ?_
  refine la zv40 fun b6 => ?_
  refine rV4 ?_
  refine xs_drawA (E := EE [2999999]) [0, 1, 2, 3, 4, 5, 6, 7, 8, 9, 10, 11] [⟨12, 8, 38, (fe 0 ++ fe 0).map U64⟩] [13, 14] mixed rfl (by kernel_rfl) (by kernel_rfl) (by kernel_rfl) (by kernel_rfl) (by kernel_rfl) (by kernel_rfl) (by decide) (by intro x hx; simp only [List.mem_cons, List.not_mem_nil, or_false] at hx; subst hx; exact isAlloc_mk rfl zv38 rfl) ?_
  refine rV4 ?_
  refine lc ent95 (r9b2) ?_
  refine rV4 ?_
  refine lc ent96 (sqrt_n h) ?_
  refine rV4 ?_
  refine ⟨_, _, rfl, hGF, by intro x hx; simp only [List.mem_cons, List.not_mem_nil, or_false] at hx; subst hx; rfl, by intro x hx; simp only [List.mem_cons, List.not_mem_nil, or_false] at hx; subst hx; rfl, fun adr => ?_⟩
  refine rV4 ?_
  refine x_seq ?_
  refine pV4 ?_
  refine lx_un rfl (fun _ => un_not _) rfl rfl ?_
  refine rV4 ?_
  refine lx_skip rfl rfl rfl ?_
  refine lx_skip rfl rfl rfl ?_
  refine lx_skip rfl rfl rfl ?_
  refine lx_skip rfl rfl rfl ?_
  refine rV4 ?_
  refine x_false rfl ?_
  refine x_skip ?_
  refine x_seq ?_
  refine pV4 ?_
  refine lx_un rfl (fun _ => un_not _) rfl rfl ?_
  refine lx_nil ?_
  refine x_true rfl ?_
  refine xp ?_
  refine lx_threeN three40 rfl rfl ?_
  refine rV4 ?_
  refine rt ?_
  exact kret_ct 6 rfl rfl rfl rfl Tryz.isAgg40 Tryz.sizeOf40 (by simp) (fun w hw => ⟨rfl, hp_below hw⟩)
theorem r9lift_y (a r : W2) (hr : ml2 r r = RS4 a) (hl : LG2 r = false) (l : Bool) : Pure Tryz.prog Gt 42 [EV2 a, .bool l, .bool true] (.tuple #[EV6 (a, sgY r l, on2), .bool true]) := by
  cases l with
  | true => exact r9lift_yt a r hr hl
  | false => exact r9lift_yf a r hr hl
theorem r9lift_n (a : W2) (l : Bool) (h : ¬ LQ a) : Pure Tryz.prog Gt 42 [EV2 a, .bool l, .bool true] (.tuple #[EV6 (ze2, ze2, ze2), .bool false]) := by
  cases l with
  | true => exact r9lift_nt a h
  | false => exact r9lift_nf a h
end J2
end Go.Proofs.YtamddkjccmhgaaaGreatDoor
