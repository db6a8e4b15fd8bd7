/-
  The law G1Lifts.
-/
import Derived.Test.YtmpcccpnblfloaaGreatDoorV4
namespace Go.Proofs.YtmpcccpnblfloaaGreatDoor
open Go.RowKit
set_option maxRecDepth 100000
set_option maxHeartbeats 1000000
attribute [local simp] fe_len nm_len AS_len SS_len MONT_len RM_len FRs_len BYs_len by48_len PLl TWOl ONEl N1l IVPl HFPl RTPl FL_len SP_len fe2_len SP2_len FM_len GL_len

theorem neg_neg0 (a : Zp) : -(-a) = a := by grind
theorem cur4 (a : Zp) : ad2 (ml2 (ml2 (a, 0) (a, 0)) (a, 0)) E1w.b = (RS4 a, 0) := by
  rw [zz, zz, show ad2 (a * a * a, 0) E1w.b = (RS4 a, 0 + 0) from rfl, z_a0']
theorem sqrt_y {a : Zp} (h : LQ a) : Pure Tryz.prog Gt 46 [EV2 (ad2 (ml2 (ml2 (a, 0) (a, 0)) (a, 0)) E1w.b)] (.tuple #[EV2 (SQ (RS4 a), 0), .bool true]) := by
  have k := r5sqrtY (ad2 (ml2 (ml2 (a, 0) (a, 0)) (a, 0)) E1w.b) (RO (RS4 a)) ((RO_sq _).trans (cur4 a).symm) (RO_small _)
  rw [show RO (RS4 a) = (SQ (RS4 a), 0) from if_pos h] at k
  exact k
theorem sqrt_n {a : Zp} (h : ¬ LQ a) : Pure Tryz.prog Gt 46 [EV2 (ad2 (ml2 (ml2 (a, 0) (a, 0)) (a, 0)) E1w.b)] (.tuple #[EV2 (0, SQ (-(RS4 a))), .bool true]) := by
  have k := r5sqrtY (ad2 (ml2 (ml2 (a, 0) (a, 0)) (a, 0)) E1w.b) (RO (RS4 a)) ((RO_sq _).trans (cur4 a).symm) (RO_small _)
  rw [show RO (RS4 a) = (0, SQ (-(RS4 a))) from if_neg h] at k
  exact k
theorem SQr_0 : SQr 0 * SQr 0 = (0 : Zp) := (isQ_iff 0).2 (.inl rfl)
theorem sq_nz {c : Zp} (h : ¬ SQr c * SQr c = c) : ¬ SQ (-c) = 0 := fun e => by
  have k := SQ_sq (neg_isQ h)
  rw [e, z_m0] at k
  have hc : c = 0 := neg_eq0.1 k.symm
  subst hc
  exact h SQr_0
theorem lg_y {a : Zp} (h : LQ a) : LG2 (SQ (RS4 a), 0) = false := LG_re (SQ_small h)
theorem LY_not {a : Zp} (h : LQ a) (l : Bool) : LY a (!l) = -(LY a l) := by
  cases l with
  | false => rw [LY_f h]; exact LY_t h
  | true => rw [LY_t h, neg_neg0]; exact LY_f h
theorem r9lift_yt (a : Zp) (h : LQ a) : Pure Tryz.prog Gt 12 [EV2 (a, 0), .bool true, .bool false] (.tuple #[EV6 ((a, 0), (LY a true, 0), on2), .bool true]) := by
  intro w hw
  have hGF : BOk Gt (pl w) := gt_low.plain hw
  rw [show (((a, 0), (LY a true, 0), on2) : W6) = ((a, 0), ng2 (SQ (RS4 a), 0), on2) from by rw [LY_t h]; rw [show ng2 (SQ (RS4 a), 0) = (-(SQ (RS4 a)), -0) from rfl, z_n0']]
  refine calls_of_X (G := Gt) Tryz.func12 rfl rfl (Hp (pl w) []) (hp_refl (pl w) trivial rides_true) (good_hp hGF) ?_
  refine xs_plain (E := EE []) ?_
  refine lx_boxr 3 hGF rfl rfl rfl ?_
  intro b3
  refine lx_allocr 6 hGF zv40 rfl rfl ?_
  intro b6
  refine lx_assign rfl rfl rfl ?_
  refine lx_nil ?_
  refine xs_drawA (E := EE [2999999]) [0, 1, 2, 3, 4, 5, 6, 7, 8, 9, 10, 11] [⟨12, 8, 38, (fe 0 ++ fe 0).map U64⟩] [13, 14] mixed rfl (by kernel_rfl) (by kernel_rfl) (by kernel_rfl) (by kernel_rfl) (by kernel_rfl) (by kernel_rfl) (by decide) (by intro x hx; simp only [List.mem_cons, List.not_mem_nil, or_false] at hx; subst hx; exact isAlloc_mk rfl zv38 rfl) ?_
  refine lx_loada 3 rfl rfl Tryz.isAgg38 Tryz.sizeOf38 (by simp) rfl rfl ?_
  refine lx_loada 3 rfl rfl Tryz.isAgg38 Tryz.sizeOf38 (by simp) rfl rfl ?_
  refine lx_call rfl rfl ent43 (r5mul _ _) rfl rfl ?_
  refine lx_loada 3 rfl rfl Tryz.isAgg38 Tryz.sizeOf38 (by simp) rfl rfl ?_
  refine lx_call rfl rfl ent43 (r5mul _ _) rfl rfl ?_
  refine lx_move rfl rfl rfl ?_
  refine lx_call rfl rfl ent45 (r9b1) rfl rfl ?_
  refine lx_call rfl rfl ent44 (r5add _ _) rfl rfl ?_
  refine lx_call rfl rfl ent46 (sqrt_y h) rfl rfl ?_
  refine lx_move rfl rfl rfl ?_
  refine lx_ext rfl rfl rfl rfl ?_
  refine lx_ext rfl rfl rfl rfl ?_
  refine lx_nil ?_
  refine ⟨_, _, rfl, hGF, by intro x hx; simp only [List.mem_cons, List.not_mem_nil, or_false] at hx; subst hx; rfl, by intro x hx; simp only [List.mem_cons, List.not_mem_nil, or_false] at hx; subst hx; rfl, fun adr => ?_⟩
  refine lx_storea 8 hGF rfl rfl rfl Tryz.sizeOf38 (by simp) (by simp) (one_u64 _) rfl ?_
  refine lx_assign rfl rfl rfl ?_
  refine lx_nil ?_
  refine x_seq ?_
  refine xs_plain (E := EE []) ?_
  refine lx_move rfl rfl rfl ?_
  refine lx_un rfl (fun _ => un_not _) rfl rfl ?_
  refine lx_move rfl rfl rfl ?_
  refine lx_fak 6 rfl Tryz.underlying38 rfl Tryz.sizeOf36 (by decide) rfl rfl rfl ?_
  refine lx_loado 8 _ rfl rfl Tryz.isAgg36 Tryz.sizeOf36 (by simp) (ld_r (by simp)) rfl rfl ?_
  refine lx_callB true rfl rfl ent47 (risZeroE _) (decide_eq_true rfl) rfl rfl ?_
  refine lx_un rfl (fun _ => un_not _) rfl rfl ?_
  refine lx_pick rfl rfl rfl rfl rfl ?_
  refine lx_nil ?_
  refine x_false rfl ?_
  refine x_skip ?_
  refine x_seq ?_
  refine xs_plain (E := EE []) ?_
  refine lx_move rfl rfl rfl ?_
  refine lx_un rfl (fun _ => un_not _) rfl rfl ?_
  refine lx_nil ?_
  refine x_false rfl ?_
  refine x_skip ?_
  refine x_seq ?_
  refine xs_plain (E := EE []) ?_
  refine lx_loada 8 rfl rfl Tryz.isAgg38 Tryz.sizeOf38 (by simp) rfl rfl ?_
  refine lx_callB false rfl rfl ent48 (r5large _) (lg_y h) rfl rfl ?_
  refine lx_move rfl rfl rfl ?_
  refine lx_binB true rfl rfl (fun _ => rfl) (fun w => bin_neq_bool 4 Tryz.underlying4 _ _ w) (rfl) rfl rfl ?_
  refine lx_nil ?_
  refine x_true rfl ?_
  refine x_plain (E := EE []) ?_
  refine lx_loada 8 rfl rfl Tryz.isAgg38 Tryz.sizeOf38 (by simp) rfl rfl ?_
  refine lx_call rfl rfl ent49 (r5neg (SQ (RS4 a), 0)) rfl rfl ?_
  refine lx_storea 8 hGF rfl rfl rfl Tryz.sizeOf38 (by simp) (by simp) (one_u64 _) rfl ?_
  refine lx_nil ?_
  refine xs_plain (E := EE []) ?_
  refine lx_loada 3 rfl rfl Tryz.isAgg38 Tryz.sizeOf38 (by simp) rfl rfl ?_
  refine lx_loada 8 rfl rfl Tryz.isAgg38 Tryz.sizeOf38 (by simp) rfl rfl ?_
  refine lx_call rfl rfl ent50 (r9at _ _) rfl rfl ?_
  refine lx_storea 6 hGF rfl rfl rfl Tryz.sizeOf40 (by simp) (by simp) (one_u64 _) rfl ?_
  refine lx_assign rfl rfl rfl ?_
  refine lx_nil ?_
  refine x_ret ?_
  repeat (first | refine kseq_ret ?_ | refine kblk_ret ?_)
  exact kret_ct 6 rfl rfl rfl rfl Tryz.isAgg40 Tryz.sizeOf40 (by simp) (fun w hw => ⟨rfl, hp_below hw⟩)
theorem r9lift_mt (a t : Zp) (ht : ¬ t = 0) (hs : Pure Tryz.prog Gt 46 [EV2 (ad2 (ml2 (ml2 (a, 0) (a, 0)) (a, 0)) E1w.b)] (.tuple #[EV2 (0, t), .bool true])) : Pure Tryz.prog Gt 12 [EV2 (a, 0), .bool true, .bool false] (.tuple #[EV6 (ze2, ze2, ze2), .bool false]) := by
  intro w hw
  have hGF : BOk Gt (pl w) := gt_low.plain hw
  refine calls_of_X (G := Gt) Tryz.func12 rfl rfl (Hp (pl w) []) (hp_refl (pl w) trivial rides_true) (good_hp hGF) ?_
  refine xs_plain (E := EE []) ?_
  refine lx_boxr 3 hGF rfl rfl rfl ?_
  intro b3
  refine lx_allocr 6 hGF zv40 rfl rfl ?_
  intro b6
  refine lx_assign rfl rfl rfl ?_
  refine lx_nil ?_
  refine xs_drawA (E := EE [2999999]) [0, 1, 2, 3, 4, 5, 6, 7, 8, 9, 10, 11] [⟨12, 8, 38, (fe 0 ++ fe 0).map U64⟩] [13, 14] mixed rfl (by kernel_rfl) (by kernel_rfl) (by kernel_rfl) (by kernel_rfl) (by kernel_rfl) (by kernel_rfl) (by decide) (by intro x hx; simp only [List.mem_cons, List.not_mem_nil, or_false] at hx; subst hx; exact isAlloc_mk rfl zv38 rfl) ?_
  refine lx_loada 3 rfl rfl Tryz.isAgg38 Tryz.sizeOf38 (by simp) rfl rfl ?_
  refine lx_loada 3 rfl rfl Tryz.isAgg38 Tryz.sizeOf38 (by simp) rfl rfl ?_
  refine lx_call rfl rfl ent43 (r5mul _ _) rfl rfl ?_
  refine lx_loada 3 rfl rfl Tryz.isAgg38 Tryz.sizeOf38 (by simp) rfl rfl ?_
  refine lx_call rfl rfl ent43 (r5mul _ _) rfl rfl ?_
  refine lx_move rfl rfl rfl ?_
  refine lx_call rfl rfl ent45 (r9b1) rfl rfl ?_
  refine lx_call rfl rfl ent44 (r5add _ _) rfl rfl ?_
  refine lx_call rfl rfl ent46 (hs) rfl rfl ?_
  refine lx_move rfl rfl rfl ?_
  refine lx_ext rfl rfl rfl rfl ?_
  refine lx_ext rfl rfl rfl rfl ?_
  refine lx_nil ?_
  refine ⟨_, _, rfl, hGF, by intro x hx; simp only [List.mem_cons, List.not_mem_nil, or_false] at hx; subst hx; rfl, by intro x hx; simp only [List.mem_cons, List.not_mem_nil, or_false] at hx; subst hx; rfl, fun adr => ?_⟩
  refine lx_storea 8 hGF rfl rfl rfl Tryz.sizeOf38 (by simp) (by simp) (one_u64 _) rfl ?_
  refine lx_assign rfl rfl rfl ?_
  refine lx_nil ?_
  refine x_seq ?_
  refine xs_plain (E := EE []) ?_
  refine lx_move rfl rfl rfl ?_
  refine lx_un rfl (fun _ => un_not _) rfl rfl ?_
  refine lx_move rfl rfl rfl ?_
  refine lx_fak 6 rfl Tryz.underlying38 rfl Tryz.sizeOf36 (by decide) rfl rfl rfl ?_
  refine lx_loado 8 _ rfl rfl Tryz.isAgg36 Tryz.sizeOf36 (by simp) (ld_r (by simp)) rfl rfl ?_
  refine lx_callB false rfl rfl ent47 (risZeroE _) (decide_eq_false ht) rfl rfl ?_
  refine lx_un rfl (fun _ => un_not _) rfl rfl ?_
  refine lx_pick rfl rfl rfl rfl rfl ?_
  refine lx_nil ?_
  refine x_true rfl ?_
  refine x_plain (E := EE []) ?_
  refine lx_assign rfl rfl rfl ?_
  refine lx_nil ?_
  refine x_seq ?_
  refine xs_plain (E := EE []) ?_
  refine lx_move rfl rfl rfl ?_
  refine lx_un rfl (fun _ => un_not _) rfl rfl ?_
  refine lx_nil ?_
  refine x_true rfl ?_
  refine xs_plain (E := EE []) ?_
  refine lx_threeN three40 rfl rfl ?_
  refine lx_storea 6 hGF rfl rfl rfl Tryz.sizeOf40 (by simp) (by simp) (one_u64 _) rfl ?_
  refine lx_assign rfl rfl rfl ?_
  refine lx_nil ?_
  refine x_ret ?_
  repeat (first | refine kseq_ret ?_ | refine kblk_ret ?_)
  exact kret_ct 6 rfl rfl rfl rfl Tryz.isAgg40 Tryz.sizeOf40 (by simp) (fun w hw => ⟨rfl, hp_below hw⟩)
theorem r9lift_yf (a : Zp) (h : LQ a) : Pure Tryz.prog Gt 12 [EV2 (a, 0), .bool false, .bool false] (.tuple #[EV6 ((a, 0), (LY a false, 0), on2), .bool true]) := by
  intro w hw
  have hGF : BOk Gt (pl w) := gt_low.plain hw
  rw [LY_f h]
  refine calls_of_X (G := Gt) Tryz.func12 rfl rfl (Hp (pl w) []) (hp_refl (pl w) trivial rides_true) (good_hp hGF) ?_
  refine xs_plain (E := EE []) ?_
  refine lx_boxr 3 hGF rfl rfl rfl ?_
  intro b3
  refine lx_allocr 6 hGF zv40 rfl rfl ?_
  intro b6
  refine lx_assign rfl rfl rfl ?_
  refine lx_nil ?_
  refine xs_drawA (E := EE [2999999]) [0, 1, 2, 3, 4, 5, 6, 7, 8, 9, 10, 11] [⟨12, 8, 38, (fe 0 ++ fe 0).map U64⟩] [13, 14] mixed rfl (by kernel_rfl) (by kernel_rfl) (by kernel_rfl) (by kernel_rfl) (by kernel_rfl) (by kernel_rfl) (by decide) (by intro x hx; simp only [List.mem_cons, List.not_mem_nil, or_false] at hx; subst hx; exact isAlloc_mk rfl zv38 rfl) ?_
  refine lx_loada 3 rfl rfl Tryz.isAgg38 Tryz.sizeOf38 (by simp) rfl rfl ?_
  refine lx_loada 3 rfl rfl Tryz.isAgg38 Tryz.sizeOf38 (by simp) rfl rfl ?_
  refine lx_call rfl rfl ent43 (r5mul _ _) rfl rfl ?_
  refine lx_loada 3 rfl rfl Tryz.isAgg38 Tryz.sizeOf38 (by simp) rfl rfl ?_
  refine lx_call rfl rfl ent43 (r5mul _ _) rfl rfl ?_
  refine lx_move rfl rfl rfl ?_
  refine lx_call rfl rfl ent45 (r9b1) rfl rfl ?_
  refine lx_call rfl rfl ent44 (r5add _ _) rfl rfl ?_
  refine lx_call rfl rfl ent46 (sqrt_y h) rfl rfl ?_
  refine lx_move rfl rfl rfl ?_
  refine lx_ext rfl rfl rfl rfl ?_
  refine lx_ext rfl rfl rfl rfl ?_
  refine lx_nil ?_
  refine ⟨_, _, rfl, hGF, by intro x hx; simp only [List.mem_cons, List.not_mem_nil, or_false] at hx; subst hx; rfl, by intro x hx; simp only [List.mem_cons, List.not_mem_nil, or_false] at hx; subst hx; rfl, fun adr => ?_⟩
  refine lx_storea 8 hGF rfl rfl rfl Tryz.sizeOf38 (by simp) (by simp) (one_u64 _) rfl ?_
  refine lx_assign rfl rfl rfl ?_
  refine lx_nil ?_
  refine x_seq ?_
  refine xs_plain (E := EE []) ?_
  refine lx_move rfl rfl rfl ?_
  refine lx_un rfl (fun _ => un_not _) rfl rfl ?_
  refine lx_move rfl rfl rfl ?_
  refine lx_fak 6 rfl Tryz.underlying38 rfl Tryz.sizeOf36 (by decide) rfl rfl rfl ?_
  refine lx_loado 8 _ rfl rfl Tryz.isAgg36 Tryz.sizeOf36 (by simp) (ld_r (by simp)) rfl rfl ?_
  refine lx_callB true rfl rfl ent47 (risZeroE _) (decide_eq_true rfl) rfl rfl ?_
  refine lx_un rfl (fun _ => un_not _) rfl rfl ?_
  refine lx_pick rfl rfl rfl rfl rfl ?_
  refine lx_nil ?_
  refine x_false rfl ?_
  refine x_skip ?_
  refine x_seq ?_
  refine xs_plain (E := EE []) ?_
  refine lx_move rfl rfl rfl ?_
  refine lx_un rfl (fun _ => un_not _) rfl rfl ?_
  refine lx_nil ?_
  refine x_false rfl ?_
  refine x_skip ?_
  refine x_seq ?_
  refine xs_plain (E := EE []) ?_
  refine lx_loada 8 rfl rfl Tryz.isAgg38 Tryz.sizeOf38 (by simp) rfl rfl ?_
  refine lx_callB false rfl rfl ent48 (r5large _) (lg_y h) rfl rfl ?_
  refine lx_move rfl rfl rfl ?_
  refine lx_binB false rfl rfl (fun _ => rfl) (fun w => bin_neq_bool 4 Tryz.underlying4 _ _ w) (rfl) rfl rfl ?_
  refine lx_nil ?_
  refine x_false rfl ?_
  refine x_skip ?_
  refine xs_plain (E := EE []) ?_
  refine lx_loada 3 rfl rfl Tryz.isAgg38 Tryz.sizeOf38 (by simp) rfl rfl ?_
  refine lx_loada 8 rfl rfl Tryz.isAgg38 Tryz.sizeOf38 (by simp) rfl rfl ?_
  refine lx_call rfl rfl ent50 (r9at _ _) rfl rfl ?_
  refine lx_storea 6 hGF rfl rfl rfl Tryz.sizeOf40 (by simp) (by simp) (one_u64 _) rfl ?_
  refine lx_assign rfl rfl rfl ?_
  refine lx_nil ?_
  refine x_ret ?_
  repeat (first | refine kseq_ret ?_ | refine kblk_ret ?_)
  exact kret_ct 6 rfl rfl rfl rfl Tryz.isAgg40 Tryz.sizeOf40 (by simp) (fun w hw => ⟨rfl, hp_below hw⟩)
theorem r9lift_mf (a t : Zp) (ht : ¬ t = 0) (hs : Pure Tryz.prog Gt 46 [EV2 (ad2 (ml2 (ml2 (a, 0) (a, 0)) (a, 0)) E1w.b)] (.tuple #[EV2 (0, t), .bool true])) : Pure Tryz.prog Gt 12 [EV2 (a, 0), .bool false, .bool false] (.tuple #[EV6 (ze2, ze2, ze2), .bool false]) := by
  intro w hw
  have hGF : BOk Gt (pl w) := gt_low.plain hw
  refine calls_of_X (G := Gt) Tryz.func12 rfl rfl (Hp (pl w) []) (hp_refl (pl w) trivial rides_true) (good_hp hGF) ?_
  refine xs_plain (E := EE []) ?_
  refine lx_boxr 3 hGF rfl rfl rfl ?_
  intro b3
  refine lx_allocr 6 hGF zv40 rfl rfl ?_
  intro b6
  refine lx_assign rfl rfl rfl ?_
  refine lx_nil ?_
  refine xs_drawA (E := EE [2999999]) [0, 1, 2, 3, 4, 5, 6, 7, 8, 9, 10, 11] [⟨12, 8, 38, (fe 0 ++ fe 0).map U64⟩] [13, 14] mixed rfl (by kernel_rfl) (by kernel_rfl) (by kernel_rfl) (by kernel_rfl) (by kernel_rfl) (by kernel_rfl) (by decide) (by intro x hx; simp only [List.mem_cons, List.not_mem_nil, or_false] at hx; subst hx; exact isAlloc_mk rfl zv38 rfl) ?_
  refine lx_loada 3 rfl rfl Tryz.isAgg38 Tryz.sizeOf38 (by simp) rfl rfl ?_
  refine lx_loada 3 rfl rfl Tryz.isAgg38 Tryz.sizeOf38 (by simp) rfl rfl ?_
  refine lx_call rfl rfl ent43 (r5mul _ _) rfl rfl ?_
  refine lx_loada 3 rfl rfl Tryz.isAgg38 Tryz.sizeOf38 (by simp) rfl rfl ?_
  refine lx_call rfl rfl ent43 (r5mul _ _) rfl rfl ?_
  refine lx_move rfl rfl rfl ?_
  refine lx_call rfl rfl ent45 (r9b1) rfl rfl ?_
  refine lx_call rfl rfl ent44 (r5add _ _) rfl rfl ?_
  refine lx_call rfl rfl ent46 (hs) rfl rfl ?_
  refine lx_move rfl rfl rfl ?_
  refine lx_ext rfl rfl rfl rfl ?_
  refine lx_ext rfl rfl rfl rfl ?_
  refine lx_nil ?_
  refine ⟨_, _, rfl, hGF, by intro x hx; simp only [List.mem_cons, List.not_mem_nil, or_false] at hx; subst hx; rfl, by intro x hx; simp only [List.mem_cons, List.not_mem_nil, or_false] at hx; subst hx; rfl, fun adr => ?_⟩
  refine lx_storea 8 hGF rfl rfl rfl Tryz.sizeOf38 (by simp) (by simp) (one_u64 _) rfl ?_
  refine lx_assign rfl rfl rfl ?_
  refine lx_nil ?_
  refine x_seq ?_
  refine xs_plain (E := EE []) ?_
  refine lx_move rfl rfl rfl ?_
  refine lx_un rfl (fun _ => un_not _) rfl rfl ?_
  refine lx_move rfl rfl rfl ?_
  refine lx_fak 6 rfl Tryz.underlying38 rfl Tryz.sizeOf36 (by decide) rfl rfl rfl ?_
  refine lx_loado 8 _ rfl rfl Tryz.isAgg36 Tryz.sizeOf36 (by simp) (ld_r (by simp)) rfl rfl ?_
  refine lx_callB false rfl rfl ent47 (risZeroE _) (decide_eq_false ht) rfl rfl ?_
  refine lx_un rfl (fun _ => un_not _) rfl rfl ?_
  refine lx_pick rfl rfl rfl rfl rfl ?_
  refine lx_nil ?_
  refine x_true rfl ?_
  refine x_plain (E := EE []) ?_
  refine lx_assign rfl rfl rfl ?_
  refine lx_nil ?_
  refine x_seq ?_
  refine xs_plain (E := EE []) ?_
  refine lx_move rfl rfl rfl ?_
  refine lx_un rfl (fun _ => un_not _) rfl rfl ?_
  refine lx_nil ?_
  refine x_true rfl ?_
  refine xs_plain (E := EE []) ?_
  refine lx_threeN three40 rfl rfl ?_
  refine lx_storea 6 hGF rfl rfl rfl Tryz.sizeOf40 (by simp) (by simp) (one_u64 _) rfl ?_
  refine lx_assign rfl rfl rfl ?_
  refine lx_nil ?_
  refine x_ret ?_
  repeat (first | refine kseq_ret ?_ | refine kblk_ret ?_)
  exact kret_ct 6 rfl rfl rfl rfl Tryz.isAgg40 Tryz.sizeOf40 (by simp) (fun w hw => ⟨rfl, hp_below hw⟩)
theorem r9lift_y (a : Zp) (l : Bool) (h : LQ a) : Pure Tryz.prog Gt 12 [EV2 (a, 0), .bool l, .bool false] (.tuple #[EV6 ((a, 0), (LY a l, 0), on2), .bool true]) := by
  cases l with
  | true => exact r9lift_yt a h
  | false => exact r9lift_yf a h
theorem r9lift_n (a : Zp) (l : Bool) (h : ¬ LQ a) : Pure Tryz.prog Gt 12 [EV2 (a, 0), .bool l, .bool false] (.tuple #[EV6 (ze2, ze2, ze2), .bool false]) := by
  cases l with
  | true => exact r9lift_mt a _ (sq_nz (c := RS4 a) h) (sqrt_n h)
  | false => exact r9lift_mf a _ (sq_nz (c := RS4 a) h) (sqrt_n h)
theorem lift_eq {a : Zp} (h : LQ a) (l : Bool) : (gLift a (!l) h).P = (gNeg (gLift a l h)).P := congrArg (fun y => some (a, y)) (LY_not h l)
theorem lift_jr (x y : Zp) : E1w.jr ((x, 0), (y, 0), on2) (em1.p (some (x, y))) := RJ_jr (some (x, y))
theorem lift_same (a : Zp) (l : Bool) (h : LQ a) : Pure Tryz.prog Gt 14 [PtV (gLift a l h), EV6 ((a, 0), (LY a l, 0), on2)] (.bool true) := same8 (gLift a l h) _ (lift_jr a (LY a l))
theorem inf_eq : gInf.P = (gNeg gInf).P := rfl
theorem lifts8 (e0 : Option Addr) (cap0 : Nat) (bs0 : List (BitVec 8)) (hcap0 : bs0.length ≤ cap0) (b1 : Bool) (w : World) (hw : Gt w) (hb0 : BytesAt w e0 bs0) :
    Calls Tryz.prog 3 [.slice e0 bs0.length cap0, .bool b1].toArray w (fun r w' => r = .returned (.bool true) ∧ Grow w w') := by
  have hGF : BOk Gt (pl w) := gt_low.plain hw
  by_cases hL : ∀ v ∈ [(e0, bs0.length, cap0)], v.2.1 ≤ 100
  · skip
    have hl0 : bs0.length ≤ 100 := hL (e0, bs0.length, cap0) (by simp)
    by_cases hq : LQ (ZB bs0)
    · skip
      refine calls_of_X (G := Gt) Tryz.func3 rfl rfl (Hp (pl w) []) (hp_refl (pl w) trivial rides_true) (good_hp hGF) ?_
      refine xs_plain (E := EE []) ?_
      refine lx_assign rfl rfl rfl ?_
      refine lx_nil ?_
      refine x_seq ?_
      refine xs_plain (E := EE []) ?_
      refine lx_callB true rfl rfl ent8 (known8) (rfl) rfl rfl ?_
      refine lx_un rfl (fun _ => un_not _) rfl rfl ?_
      refine lx_nil ?_
      refine x_false rfl ?_
      refine x_skip ?_
      refine x_seq ?_
      refine xs_plain (E := EE []) ?_
      refine lx_move rfl rfl rfl ?_
      refine lx_bslV 940 (SVl [(e0, bs0.length, cap0)]) hGF rfl rfl rfl (by decide) (by decide) Tryz.underlying70 Tryz.sizeOf22 Tryz.zeroValue22 rfl rfl rfl ?_
      intro b940
      refine lx_callC rfl rfl ent9 (fun w' hC hG => light_t b940 1 [(e0, bs0.length, cap0)] rfl (by decide) hL w' hG (hp_row (n := 940) rfl w' hC)) rfl rfl ?_
      refine lx_un rfl (fun _ => un_not _) rfl rfl ?_
      refine lx_nil ?_
      refine x_false rfl ?_
      refine x_skip ?_
      refine xs_plain (E := EE []) ?_
      refine lx_move rfl rfl rfl ?_
      refine lx_callC rfl rfl ent10 (fun w' hC hG => num_calls e0 cap0 bs0 (by omega) hcap0 w' hG (hb0.grow (hp_below hC))) rfl rfl ?_
      refine lx_allocr 5 hGF zv28 rfl rfl ?_
      intro b5
      refine lx_storea 5 hGF rfl rfl rfl Tryz.sizeOf28 (by simp) (by simp) (one_u64 _) rfl ?_
      refine lx_nil ?_
      refine xs_plain (E := EE []) ?_
      refine lx_loada 5 rfl rfl Tryz.isAgg28 Tryz.sizeOf28 (by simp) rfl rfl ?_
      refine lx_move rfl rfl rfl ?_
      refine lx_call rfl rfl ent11 (lift_y _ _ hq) rfl rfl ?_
      refine lx_move rfl rfl rfl ?_
      refine lx_ext rfl rfl rfl rfl ?_
      refine lx_ext rfl rfl rfl rfl ?_
      refine lx_allocr 6 hGF zv31 rfl rfl ?_
      intro b6
      refine lx_storea 6 hGF rfl rfl rfl Tryz.sizeOf31 (by simp) (by simp) (one_u64 _) rfl ?_
      refine lx_assign rfl rfl rfl ?_
      refine lx_nil ?_
      refine xs_plain (E := EE []) ?_
      refine lx_loada 5 rfl rfl Tryz.isAgg28 Tryz.sizeOf28 (by simp) rfl rfl ?_
      refine lx_call rfl rfl ent13 (ref8 _) rfl rfl ?_
      refine lx_move rfl rfl rfl ?_
      refine lx_call rfl rfl ent12 (r9lift_y _ _ hq) rfl rfl ?_
      refine lx_move rfl rfl rfl ?_
      refine lx_ext rfl rfl rfl rfl ?_
      refine lx_ext rfl rfl rfl rfl ?_
      refine lx_allocr 8 hGF zv40 rfl rfl ?_
      intro b8
      refine lx_storea 8 hGF rfl rfl rfl Tryz.sizeOf40 (by simp) (by simp) (one_u64 _) rfl ?_
      refine lx_assign rfl rfl rfl ?_
      refine lx_nil ?_
      refine x_seq ?_
      refine xs_plain (E := EE []) ?_
      refine lx_move rfl rfl rfl ?_
      refine lx_move rfl rfl rfl ?_
      refine lx_binB false rfl rfl (fun _ => rfl) (fun w => bin_neq_bool 4 Tryz.underlying4 _ _ w) (rfl) rfl rfl ?_
      refine lx_move rfl rfl rfl ?_
      refine lx_move rfl rfl rfl ?_
      refine lx_move rfl rfl rfl ?_
      refine lx_loada 6 rfl rfl Tryz.isAgg31 Tryz.sizeOf31 (by simp) rfl rfl ?_
      refine lx_loada 8 rfl rfl Tryz.isAgg40 Tryz.sizeOf40 (by simp) rfl rfl ?_
      refine lx_callB true rfl rfl ent14 (lift_same (ZB bs0) b1 hq) (rfl) rfl rfl ?_
      refine lx_un rfl (fun _ => un_not _) rfl rfl ?_
      refine lx_pick rfl rfl rfl rfl rfl ?_
      refine lx_pick rfl rfl rfl rfl rfl ?_
      refine lx_move rfl rfl rfl ?_
      refine lx_move rfl rfl rfl ?_
      refine lx_un rfl (fun _ => un_not _) rfl rfl ?_
      refine lx_move rfl rfl rfl ?_
      refine lx_skip rfl rfl rfl ?_
      refine lx_skip rfl rfl rfl ?_
      refine lx_skip rfl rfl rfl ?_
      refine lx_pick rfl rfl rfl rfl rfl ?_
      refine lx_pick rfl rfl rfl rfl rfl ?_
      refine lx_nil ?_
      refine x_false rfl ?_
      refine x_skip ?_
      refine xs_plain (E := EE []) ?_
      refine lx_loada 5 rfl rfl Tryz.isAgg28 Tryz.sizeOf28 (by simp) rfl rfl ?_
      refine lx_move rfl rfl rfl ?_
      refine lx_un rfl (fun _ => un_not _) rfl rfl ?_
      refine lx_call rfl rfl ent11 (lift_y _ (!b1) hq) rfl rfl ?_
      refine lx_move rfl rfl rfl ?_
      refine lx_ext rfl rfl rfl rfl ?_
      refine lx_ext rfl rfl rfl rfl ?_
      refine lx_allocr 10 hGF zv31 rfl rfl ?_
      intro b10
      refine lx_storea 10 hGF rfl rfl rfl Tryz.sizeOf31 (by simp) (by simp) (one_u64 _) rfl ?_
      refine lx_assign rfl rfl rfl ?_
      refine lx_nil ?_
      refine xs_drawn (E := EE []) mixed (by kernel_rfl) (by kernel_rfl) (by kernel_rfl) ?_
      refine lx_move rfl rfl rfl ?_
      refine lx_move rfl rfl rfl ?_
      refine lx_binB true rfl rfl (fun _ => rfl) (fun w => bin_eql_bool 4 Tryz.underlying4 _ _ w) (rfl) rfl rfl ?_
      refine lx_move rfl rfl rfl ?_
      refine lx_loada 10 rfl rfl Tryz.isAgg31 Tryz.sizeOf31 (by simp) rfl rfl ?_
      refine lx_loada 6 rfl rfl Tryz.isAgg31 Tryz.sizeOf31 (by simp) rfl rfl ?_
      refine lx_call rfl rfl ent17 (neg_p _) rfl rfl ?_
      refine lx_callB true rfl rfl ent16 (equal_p _ _) (decide_eq_true (lift_eq hq b1)) rfl rfl ?_
      refine lx_pick rfl rfl rfl rfl rfl ?_
      refine lx_assign rfl rfl rfl ?_
      refine lx_nil ?_
      refine x_ret ?_
      repeat (first | refine kseq_ret ?_ | refine kblk_ret ?_)
      exact kret_tmp rfl rfl (fun w hw => ⟨rfl, hp_below hw⟩)
    · skip
      refine calls_of_X (G := Gt) Tryz.func3 rfl rfl (Hp (pl w) []) (hp_refl (pl w) trivial rides_true) (good_hp hGF) ?_
      refine xs_plain (E := EE []) ?_
      refine lx_assign rfl rfl rfl ?_
      refine lx_nil ?_
      refine x_seq ?_
      refine xs_plain (E := EE []) ?_
      refine lx_callB true rfl rfl ent8 (known8) (rfl) rfl rfl ?_
      refine lx_un rfl (fun _ => un_not _) rfl rfl ?_
      refine lx_nil ?_
      refine x_false rfl ?_
      refine x_skip ?_
      refine x_seq ?_
      refine xs_plain (E := EE []) ?_
      refine lx_move rfl rfl rfl ?_
      refine lx_bslV 940 (SVl [(e0, bs0.length, cap0)]) hGF rfl rfl rfl (by decide) (by decide) Tryz.underlying70 Tryz.sizeOf22 Tryz.zeroValue22 rfl rfl rfl ?_
      intro b940
      refine lx_callC rfl rfl ent9 (fun w' hC hG => light_t b940 1 [(e0, bs0.length, cap0)] rfl (by decide) hL w' hG (hp_row (n := 940) rfl w' hC)) rfl rfl ?_
      refine lx_un rfl (fun _ => un_not _) rfl rfl ?_
      refine lx_nil ?_
      refine x_false rfl ?_
      refine x_skip ?_
      refine xs_plain (E := EE []) ?_
      refine lx_move rfl rfl rfl ?_
      refine lx_callC rfl rfl ent10 (fun w' hC hG => num_calls e0 cap0 bs0 (by omega) hcap0 w' hG (hb0.grow (hp_below hC))) rfl rfl ?_
      refine lx_allocr 5 hGF zv28 rfl rfl ?_
      intro b5
      refine lx_storea 5 hGF rfl rfl rfl Tryz.sizeOf28 (by simp) (by simp) (one_u64 _) rfl ?_
      refine lx_nil ?_
      refine xs_plain (E := EE []) ?_
      refine lx_loada 5 rfl rfl Tryz.isAgg28 Tryz.sizeOf28 (by simp) rfl rfl ?_
      refine lx_move rfl rfl rfl ?_
      refine lx_call rfl rfl ent11 (lift_n _ _ hq) rfl rfl ?_
      refine lx_move rfl rfl rfl ?_
      refine lx_ext rfl rfl rfl rfl ?_
      refine lx_ext rfl rfl rfl rfl ?_
      refine lx_allocr 6 hGF zv31 rfl rfl ?_
      intro b6
      refine lx_storea 6 hGF rfl rfl rfl Tryz.sizeOf31 (by simp) (by simp) (one_u64 _) rfl ?_
      refine lx_assign rfl rfl rfl ?_
      refine lx_nil ?_
      refine xs_plain (E := EE []) ?_
      refine lx_loada 5 rfl rfl Tryz.isAgg28 Tryz.sizeOf28 (by simp) rfl rfl ?_
      refine lx_call rfl rfl ent13 (ref8 _) rfl rfl ?_
      refine lx_move rfl rfl rfl ?_
      refine lx_call rfl rfl ent12 (r9lift_n _ _ hq) rfl rfl ?_
      refine lx_move rfl rfl rfl ?_
      refine lx_ext rfl rfl rfl rfl ?_
      refine lx_ext rfl rfl rfl rfl ?_
      refine lx_allocr 8 hGF zv40 rfl rfl ?_
      intro b8
      refine lx_storea 8 hGF rfl rfl rfl Tryz.sizeOf40 (by simp) (by simp) (one_u64 _) rfl ?_
      refine lx_assign rfl rfl rfl ?_
      refine lx_nil ?_
      refine x_seq ?_
      refine xs_plain (E := EE []) ?_
      refine lx_move rfl rfl rfl ?_
      refine lx_move rfl rfl rfl ?_
      refine lx_binB false rfl rfl (fun _ => rfl) (fun w => bin_neq_bool 4 Tryz.underlying4 _ _ w) (rfl) rfl rfl ?_
      refine lx_move rfl rfl rfl ?_
      refine lx_move rfl rfl rfl ?_
      refine lx_move rfl rfl rfl ?_
      refine lx_skip rfl rfl rfl ?_
      refine lx_skip rfl rfl rfl ?_
      refine lx_skip rfl rfl rfl ?_
      refine lx_skip rfl rfl rfl ?_
      refine lx_pick rfl rfl rfl rfl rfl ?_
      refine lx_pick rfl rfl rfl rfl rfl ?_
      refine lx_move rfl rfl rfl ?_
      refine lx_move rfl rfl rfl ?_
      refine lx_un rfl (fun _ => un_not _) rfl rfl ?_
      refine lx_move rfl rfl rfl ?_
      refine lx_loada 6 rfl rfl Tryz.isAgg31 Tryz.sizeOf31 (by simp) rfl rfl ?_
      refine lx_callB true rfl rfl ent15 (isInf_p _) (decide_eq_true rfl) rfl rfl ?_
      refine lx_un rfl (fun _ => un_not _) rfl rfl ?_
      refine lx_pick rfl rfl rfl rfl rfl ?_
      refine lx_pick rfl rfl rfl rfl rfl ?_
      refine lx_nil ?_
      refine x_false rfl ?_
      refine x_skip ?_
      refine xs_plain (E := EE []) ?_
      refine lx_loada 5 rfl rfl Tryz.isAgg28 Tryz.sizeOf28 (by simp) rfl rfl ?_
      refine lx_move rfl rfl rfl ?_
      refine lx_un rfl (fun _ => un_not _) rfl rfl ?_
      refine lx_call rfl rfl ent11 (lift_n _ (!b1) hq) rfl rfl ?_
      refine lx_move rfl rfl rfl ?_
      refine lx_ext rfl rfl rfl rfl ?_
      refine lx_ext rfl rfl rfl rfl ?_
      refine lx_allocr 10 hGF zv31 rfl rfl ?_
      intro b10
      refine lx_storea 10 hGF rfl rfl rfl Tryz.sizeOf31 (by simp) (by simp) (one_u64 _) rfl ?_
      refine lx_assign rfl rfl rfl ?_
      refine lx_nil ?_
      refine xs_drawn (E := EE []) mixed (by kernel_rfl) (by kernel_rfl) (by kernel_rfl) ?_
      refine lx_move rfl rfl rfl ?_
      refine lx_move rfl rfl rfl ?_
      refine lx_binB true rfl rfl (fun _ => rfl) (fun w => bin_eql_bool 4 Tryz.underlying4 _ _ w) (rfl) rfl rfl ?_
      refine lx_move rfl rfl rfl ?_
      refine lx_loada 10 rfl rfl Tryz.isAgg31 Tryz.sizeOf31 (by simp) rfl rfl ?_
      refine lx_loada 6 rfl rfl Tryz.isAgg31 Tryz.sizeOf31 (by simp) rfl rfl ?_
      refine lx_call rfl rfl ent17 (neg_p _) rfl rfl ?_
      refine lx_callB true rfl rfl ent16 (equal_p _ _) (decide_eq_true inf_eq) rfl rfl ?_
      refine lx_pick rfl rfl rfl rfl rfl ?_
      refine lx_assign rfl rfl rfl ?_
      refine lx_nil ?_
      refine x_ret ?_
      repeat (first | refine kseq_ret ?_ | refine kblk_ret ?_)
      exact kret_tmp rfl rfl (fun w hw => ⟨rfl, hp_below hw⟩)
  · skip
    refine calls_of_X (G := Gt) Tryz.func3 rfl rfl (Hp (pl w) []) (hp_refl (pl w) trivial rides_true) (good_hp hGF) ?_
    refine xs_plain (E := EE []) ?_
    refine lx_assign rfl rfl rfl ?_
    refine lx_nil ?_
    refine x_seq ?_
    refine xs_plain (E := EE []) ?_
    refine lx_callB true rfl rfl ent8 (known8) (rfl) rfl rfl ?_
    refine lx_un rfl (fun _ => un_not _) rfl rfl ?_
    refine lx_nil ?_
    refine x_false rfl ?_
    refine x_skip ?_
    refine x_seq ?_
    refine xs_plain (E := EE []) ?_
    refine lx_move rfl rfl rfl ?_
    refine lx_bslV 940 (SVl [(e0, bs0.length, cap0)]) hGF rfl rfl rfl (by decide) (by decide) Tryz.underlying70 Tryz.sizeOf22 Tryz.zeroValue22 rfl rfl rfl ?_
    intro b940
    refine lx_callC rfl rfl ent9 (fun w' hC hG => light_f b940 1 [(e0, bs0.length, cap0)] rfl (by decide) hL w' hG (hp_row (n := 940) rfl w' hC)) rfl rfl ?_
    refine lx_un rfl (fun _ => un_not _) rfl rfl ?_
    refine lx_nil ?_
    refine x_true rfl ?_
    refine xs_plain (E := EE []) ?_
    refine lx_assign rfl rfl rfl ?_
    refine lx_nil ?_
    refine x_ret ?_
    repeat (first | refine kseq_ret ?_ | refine kblk_ret ?_)
    exact kret_tmp rfl rfl (fun w hw => ⟨rfl, hp_below hw⟩)
end Go.Proofs.YtmpcccpnblfloaaGreatDoor
