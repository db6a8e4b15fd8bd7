/-
  The law G2Lifts.
-/
import Derived.Test.YtfknmeefbccflaaGreatDoorV4
namespace Go.Proofs.YtfknmeefbccflaaGreatDoor
open Go.RowKit
set_option maxRecDepth 100000
set_option maxHeartbeats 1000000
attribute [local simp] fe_len nm_len AS_len SS_len MONT_len RM_len FRs_len BYs_len by48_len PLl TWOl ONEl N1l IVPl HFPl RTPl FL_len SP_len fe2_len SP2_len FM_len GL_len

theorem sqrt_y {a r : W2} (hr : ml2 r r = RS4 a) (hl : LG2 r = false) : Pure Tryz.prog Gt 64 [EV2 (ad2 (ml2 (ml2 a a) a) E2w.b)] (.tuple #[EV2 r, .bool true]) := r5sqrtY (ad2 (ml2 (ml2 a a) a) E2w.b) r hr hl
theorem sqrt_n {a : W2} (h : ¬ LQ a) : Pure Tryz.prog Gt 64 [EV2 (ad2 (ml2 (ml2 a a) a) E2w.b)] (.tuple #[EV2 ze2, .bool false]) := r5sqrtN (ad2 (ml2 (ml2 a a) a) E2w.b) h
theorem r9lift_yt (a r : W2) (hr : ml2 r r = RS4 a) (hl : LG2 r = false) : Pure Tryz.prog Gt 21 [EV2 a, .bool true, .bool true] (.tuple #[EV6 (a, ng2 r, on2), .bool true]) := by
  intro w hw
  have hGF : BOk Gt (pl w) := gt_low.plain hw
  refine calls_of_X (G := Gt) Tryz.func21 rfl rfl (Hp (pl w) []) (hp_refl (pl w) trivial rides_true) (good_hp hGF) ?_
  refine xs_plain (E := EE []) ?_
  refine lx_boxr 3 hGF rfl rfl rfl ?_
  intro b3
  refine lx_allocr 6 hGF zv50 rfl rfl ?_
  intro b6
  refine lx_assign rfl rfl rfl ?_
  refine lx_nil ?_
  refine xs_drawA (E := EE [2999999]) [0, 1, 2, 3, 4, 5, 6, 7, 8, 9, 10, 11] [⟨12, 8, 41, (fe 0 ++ fe 0).map U64⟩] [13, 14] mixed rfl (by kernel_rfl) (by kernel_rfl) (by kernel_rfl) (by kernel_rfl) (by kernel_rfl) (by kernel_rfl) (by decide) (by intro x hx; simp only [List.mem_cons, List.not_mem_nil, or_false] at hx; subst hx; exact isAlloc_mk rfl zv41 rfl) ?_
  refine lx_loada 3 rfl rfl Tryz.isAgg41 Tryz.sizeOf41 (by simp) rfl rfl ?_
  refine lx_loada 3 rfl rfl Tryz.isAgg41 Tryz.sizeOf41 (by simp) rfl rfl ?_
  refine lx_call rfl rfl ent54 (r5mul _ _) rfl rfl ?_
  refine lx_loada 3 rfl rfl Tryz.isAgg41 Tryz.sizeOf41 (by simp) rfl rfl ?_
  refine lx_call rfl rfl ent54 (r5mul _ _) rfl rfl ?_
  refine lx_move rfl rfl rfl ?_
  refine lx_call rfl rfl ent56 (r9b1) rfl rfl ?_
  refine lx_call rfl rfl ent55 (r5add _ _) rfl rfl ?_
  refine lx_call rfl rfl ent64 (sqrt_y hr hl) rfl rfl ?_
  refine lx_move rfl rfl rfl ?_
  refine lx_ext rfl rfl rfl rfl ?_
  refine lx_ext rfl rfl rfl rfl ?_
  refine lx_nil ?_
  refine ⟨_, _, rfl, hGF, by intro x hx; simp only [List.mem_cons, List.not_mem_nil, or_false] at hx; subst hx; rfl, by intro x hx; simp only [List.mem_cons, List.not_mem_nil, or_false] at hx; subst hx; rfl, fun adr => ?_⟩
  refine lx_storea 8 hGF rfl rfl rfl Tryz.sizeOf41 (by simp) (by simp) (one_u64 _) rfl ?_
  refine lx_assign rfl rfl rfl ?_
  refine lx_nil ?_
  refine x_seq ?_
  refine xs_plain (E := EE []) ?_
  refine lx_move rfl rfl rfl ?_
  refine lx_un rfl (fun _ => un_not _) rfl rfl ?_
  refine lx_move rfl rfl rfl ?_
  refine lx_skip rfl rfl rfl ?_
  refine lx_skip rfl rfl rfl ?_
  refine lx_skip rfl rfl rfl ?_
  refine lx_skip rfl rfl rfl ?_
  refine lx_pick rfl rfl rfl rfl rfl ?_
  refine lx_nil ?_
  refine x_false rfl ?_
  refine x_skip ?_
  refine x_seq ?_
  refine xs_plain (E := EE []) ?_
  refine lx_move rfl rfl rfl ?_
  refine lx_un rfl (fun _ => un_not _) rfl rfl ?_
  refine lx_nil ?_
  refine x_false rfl ?_
  refine x_skip ?_
  refine x_seq ?_
  refine xs_plain (E := EE []) ?_
  refine lx_loada 8 rfl rfl Tryz.isAgg41 Tryz.sizeOf41 (by simp) rfl rfl ?_
  refine lx_callB false rfl rfl ent66 (r5large _) (hl) rfl rfl ?_
  refine lx_move rfl rfl rfl ?_
  refine lx_binB true rfl rfl (fun _ => rfl) (fun w => bin_neq_bool 4 Tryz.underlying4 _ _ w) (rfl) rfl rfl ?_
  refine lx_nil ?_
  refine x_true rfl ?_
  refine x_plain (E := EE []) ?_
  refine lx_loada 8 rfl rfl Tryz.isAgg41 Tryz.sizeOf41 (by simp) rfl rfl ?_
  refine lx_call rfl rfl ent67 (r5neg r) rfl rfl ?_
  refine lx_storea 8 hGF rfl rfl rfl Tryz.sizeOf41 (by simp) (by simp) (one_u64 _) rfl ?_
  refine lx_nil ?_
  refine xs_plain (E := EE []) ?_
  refine lx_loada 3 rfl rfl Tryz.isAgg41 Tryz.sizeOf41 (by simp) rfl rfl ?_
  refine lx_loada 8 rfl rfl Tryz.isAgg41 Tryz.sizeOf41 (by simp) rfl rfl ?_
  refine lx_call rfl rfl ent68 (r9at _ _) rfl rfl ?_
  refine lx_storea 6 hGF rfl rfl rfl Tryz.sizeOf50 (by simp) (by simp) (one_u64 _) rfl ?_
  refine lx_assign rfl rfl rfl ?_
  refine lx_nil ?_
  refine x_ret ?_
  repeat (first | refine kseq_ret ?_ | refine kblk_ret ?_)
  exact kret_ct 6 rfl rfl rfl rfl Tryz.isAgg50 Tryz.sizeOf50 (by simp) (fun w hw => ⟨rfl, hp_below hw⟩)
theorem r9lift_nt (a : W2) (h : ¬ LQ a) : Pure Tryz.prog Gt 21 [EV2 a, .bool true, .bool true] (.tuple #[EV6 (ze2, ze2, ze2), .bool false]) := by
  intro w hw
  have hGF : BOk Gt (pl w) := gt_low.plain hw
  refine calls_of_X (G := Gt) Tryz.func21 rfl rfl (Hp (pl w) []) (hp_refl (pl w) trivial rides_true) (good_hp hGF) ?_
  refine xs_plain (E := EE []) ?_
  refine lx_boxr 3 hGF rfl rfl rfl ?_
  intro b3
  refine lx_allocr 6 hGF zv50 rfl rfl ?_
  intro b6
  refine lx_assign rfl rfl rfl ?_
  refine lx_nil ?_
  refine xs_drawA (E := EE [2999999]) [0, 1, 2, 3, 4, 5, 6, 7, 8, 9, 10, 11] [⟨12, 8, 41, (fe 0 ++ fe 0).map U64⟩] [13, 14] mixed rfl (by kernel_rfl) (by kernel_rfl) (by kernel_rfl) (by kernel_rfl) (by kernel_rfl) (by kernel_rfl) (by decide) (by intro x hx; simp only [List.mem_cons, List.not_mem_nil, or_false] at hx; subst hx; exact isAlloc_mk rfl zv41 rfl) ?_
  refine lx_loada 3 rfl rfl Tryz.isAgg41 Tryz.sizeOf41 (by simp) rfl rfl ?_
  refine lx_loada 3 rfl rfl Tryz.isAgg41 Tryz.sizeOf41 (by simp) rfl rfl ?_
  refine lx_call rfl rfl ent54 (r5mul _ _) rfl rfl ?_
  refine lx_loada 3 rfl rfl Tryz.isAgg41 Tryz.sizeOf41 (by simp) rfl rfl ?_
  refine lx_call rfl rfl ent54 (r5mul _ _) rfl rfl ?_
  refine lx_move rfl rfl rfl ?_
  refine lx_call rfl rfl ent56 (r9b1) rfl rfl ?_
  refine lx_call rfl rfl ent55 (r5add _ _) rfl rfl ?_
  refine lx_call rfl rfl ent64 (sqrt_n h) rfl rfl ?_
  refine lx_move rfl rfl rfl ?_
  refine lx_ext rfl rfl rfl rfl ?_
  refine lx_ext rfl rfl rfl rfl ?_
  refine lx_nil ?_
  refine ⟨_, _, rfl, hGF, by intro x hx; simp only [List.mem_cons, List.not_mem_nil, or_false] at hx; subst hx; rfl, by intro x hx; simp only [List.mem_cons, List.not_mem_nil, or_false] at hx; subst hx; rfl, fun adr => ?_⟩
  refine lx_storea 8 hGF rfl rfl rfl Tryz.sizeOf41 (by simp) (by simp) (one_u64 _) rfl ?_
  refine lx_assign rfl rfl rfl ?_
  refine lx_nil ?_
  refine x_seq ?_
  refine xs_plain (E := EE []) ?_
  refine lx_move rfl rfl rfl ?_
  refine lx_un rfl (fun _ => un_not _) rfl rfl ?_
  refine lx_move rfl rfl rfl ?_
  refine lx_skip rfl rfl rfl ?_
  refine lx_skip rfl rfl rfl ?_
  refine lx_skip rfl rfl rfl ?_
  refine lx_skip rfl rfl rfl ?_
  refine lx_pick rfl rfl rfl rfl rfl ?_
  refine lx_nil ?_
  refine x_false rfl ?_
  refine x_skip ?_
  refine x_seq ?_
  refine xs_plain (E := EE []) ?_
  refine lx_move rfl rfl rfl ?_
  refine lx_un rfl (fun _ => un_not _) rfl rfl ?_
  refine lx_nil ?_
  refine x_true rfl ?_
  refine xs_plain (E := EE []) ?_
  refine lx_threeN three50 rfl rfl ?_
  refine lx_storea 6 hGF rfl rfl rfl Tryz.sizeOf50 (by simp) (by simp) (one_u64 _) rfl ?_
  refine lx_assign rfl rfl rfl ?_
  refine lx_nil ?_
  refine x_ret ?_
  repeat (first | refine kseq_ret ?_ | refine kblk_ret ?_)
  exact kret_ct 6 rfl rfl rfl rfl Tryz.isAgg50 Tryz.sizeOf50 (by simp) (fun w hw => ⟨rfl, hp_below hw⟩)
theorem r9lift_yf (a r : W2) (hr : ml2 r r = RS4 a) (hl : LG2 r = false) : Pure Tryz.prog Gt 21 [EV2 a, .bool false, .bool true] (.tuple #[EV6 (a, r, on2), .bool true]) := by
  intro w hw
  have hGF : BOk Gt (pl w) := gt_low.plain hw
  refine calls_of_X (G := Gt) Tryz.func21 rfl rfl (Hp (pl w) []) (hp_refl (pl w) trivial rides_true) (good_hp hGF) ?_
  refine xs_plain (E := EE []) ?_
  refine lx_boxr 3 hGF rfl rfl rfl ?_
  intro b3
  refine lx_allocr 6 hGF zv50 rfl rfl ?_
  intro b6
  refine lx_assign rfl rfl rfl ?_
  refine lx_nil ?_
  refine xs_drawA (E := EE [2999999]) [0, 1, 2, 3, 4, 5, 6, 7, 8, 9, 10, 11] [⟨12, 8, 41, (fe 0 ++ fe 0).map U64⟩] [13, 14] mixed rfl (by kernel_rfl) (by kernel_rfl) (by kernel_rfl) (by kernel_rfl) (by kernel_rfl) (by kernel_rfl) (by decide) (by intro x hx; simp only [List.mem_cons, List.not_mem_nil, or_false] at hx; subst hx; exact isAlloc_mk rfl zv41 rfl) ?_
  refine lx_loada 3 rfl rfl Tryz.isAgg41 Tryz.sizeOf41 (by simp) rfl rfl ?_
  refine lx_loada 3 rfl rfl Tryz.isAgg41 Tryz.sizeOf41 (by simp) rfl rfl ?_
  refine lx_call rfl rfl ent54 (r5mul _ _) rfl rfl ?_
  refine lx_loada 3 rfl rfl Tryz.isAgg41 Tryz.sizeOf41 (by simp) rfl rfl ?_
  refine lx_call rfl rfl ent54 (r5mul _ _) rfl rfl ?_
  refine lx_move rfl rfl rfl ?_
  refine lx_call rfl rfl ent56 (r9b1) rfl rfl ?_
  refine lx_call rfl rfl ent55 (r5add _ _) rfl rfl ?_
  refine lx_call rfl rfl ent64 (sqrt_y hr hl) rfl rfl ?_
  refine lx_move rfl rfl rfl ?_
  refine lx_ext rfl rfl rfl rfl ?_
  refine lx_ext rfl rfl rfl rfl ?_
  refine lx_nil ?_
  refine ⟨_, _, rfl, hGF, by intro x hx; simp only [List.mem_cons, List.not_mem_nil, or_false] at hx; subst hx; rfl, by intro x hx; simp only [List.mem_cons, List.not_mem_nil, or_false] at hx; subst hx; rfl, fun adr => ?_⟩
  refine lx_storea 8 hGF rfl rfl rfl Tryz.sizeOf41 (by simp) (by simp) (one_u64 _) rfl ?_
  refine lx_assign rfl rfl rfl ?_
  refine lx_nil ?_
  refine x_seq ?_
  refine xs_plain (E := EE []) ?_
  refine lx_move rfl rfl rfl ?_
  refine lx_un rfl (fun _ => un_not _) rfl rfl ?_
  refine lx_move rfl rfl rfl ?_
  refine lx_skip rfl rfl rfl ?_
  refine lx_skip rfl rfl rfl ?_
  refine lx_skip rfl rfl rfl ?_
  refine lx_skip rfl rfl rfl ?_
  refine lx_pick rfl rfl rfl rfl rfl ?_
  refine lx_nil ?_
  refine x_false rfl ?_
  refine x_skip ?_
  refine x_seq ?_
  refine xs_plain (E := EE []) ?_
  refine lx_move rfl rfl rfl ?_
  refine lx_un rfl (fun _ => un_not _) rfl rfl ?_
  refine lx_nil ?_
  refine x_false rfl ?_
  refine x_skip ?_
  refine x_seq ?_
  refine xs_plain (E := EE []) ?_
  refine lx_loada 8 rfl rfl Tryz.isAgg41 Tryz.sizeOf41 (by simp) rfl rfl ?_
  refine lx_callB false rfl rfl ent66 (r5large _) (hl) rfl rfl ?_
  refine lx_move rfl rfl rfl ?_
  refine lx_binB false rfl rfl (fun _ => rfl) (fun w => bin_neq_bool 4 Tryz.underlying4 _ _ w) (rfl) rfl rfl ?_
  refine lx_nil ?_
  refine x_false rfl ?_
  refine x_skip ?_
  refine xs_plain (E := EE []) ?_
  refine lx_loada 3 rfl rfl Tryz.isAgg41 Tryz.sizeOf41 (by simp) rfl rfl ?_
  refine lx_loada 8 rfl rfl Tryz.isAgg41 Tryz.sizeOf41 (by simp) rfl rfl ?_
  refine lx_call rfl rfl ent68 (r9at _ _) rfl rfl ?_
  refine lx_storea 6 hGF rfl rfl rfl Tryz.sizeOf50 (by simp) (by simp) (one_u64 _) rfl ?_
  refine lx_assign rfl rfl rfl ?_
  refine lx_nil ?_
  refine x_ret ?_
  repeat (first | refine kseq_ret ?_ | refine kblk_ret ?_)
  exact kret_ct 6 rfl rfl rfl rfl Tryz.isAgg50 Tryz.sizeOf50 (by simp) (fun w hw => ⟨rfl, hp_below hw⟩)
theorem r9lift_nf (a : W2) (h : ¬ LQ a) : Pure Tryz.prog Gt 21 [EV2 a, .bool false, .bool true] (.tuple #[EV6 (ze2, ze2, ze2), .bool false]) := by
  intro w hw
  have hGF : BOk Gt (pl w) := gt_low.plain hw
  refine calls_of_X (G := Gt) Tryz.func21 rfl rfl (Hp (pl w) []) (hp_refl (pl w) trivial rides_true) (good_hp hGF) ?_
  refine xs_plain (E := EE []) ?_
  refine lx_boxr 3 hGF rfl rfl rfl ?_
  intro b3
  refine lx_allocr 6 hGF zv50 rfl rfl ?_
  intro b6
  refine lx_assign rfl rfl rfl ?_
  refine lx_nil ?_
  refine xs_drawA (E := EE [2999999]) [0, 1, 2, 3, 4, 5, 6, 7, 8, 9, 10, 11] [⟨12, 8, 41, (fe 0 ++ fe 0).map U64⟩] [13, 14] mixed rfl (by kernel_rfl) (by kernel_rfl) (by kernel_rfl) (by kernel_rfl) (by kernel_rfl) (by kernel_rfl) (by decide) (by intro x hx; simp only [List.mem_cons, List.not_mem_nil, or_false] at hx; subst hx; exact isAlloc_mk rfl zv41 rfl) ?_
  refine lx_loada 3 rfl rfl Tryz.isAgg41 Tryz.sizeOf41 (by simp) rfl rfl ?_
  refine lx_loada 3 rfl rfl Tryz.isAgg41 Tryz.sizeOf41 (by simp) rfl rfl ?_
  refine lx_call rfl rfl ent54 (r5mul _ _) rfl rfl ?_
  refine lx_loada 3 rfl rfl Tryz.isAgg41 Tryz.sizeOf41 (by simp) rfl rfl ?_
  refine lx_call rfl rfl ent54 (r5mul _ _) rfl rfl ?_
  refine lx_move rfl rfl rfl ?_
  refine lx_call rfl rfl ent56 (r9b1) rfl rfl ?_
  refine lx_call rfl rfl ent55 (r5add _ _) rfl rfl ?_
  refine lx_call rfl rfl ent64 (sqrt_n h) rfl rfl ?_
  refine lx_move rfl rfl rfl ?_
  refine lx_ext rfl rfl rfl rfl ?_
  refine lx_ext rfl rfl rfl rfl ?_
  refine lx_nil ?_
  refine ⟨_, _, rfl, hGF, by intro x hx; simp only [List.mem_cons, List.not_mem_nil, or_false] at hx; subst hx; rfl, by intro x hx; simp only [List.mem_cons, List.not_mem_nil, or_false] at hx; subst hx; rfl, fun adr => ?_⟩
  refine lx_storea 8 hGF rfl rfl rfl Tryz.sizeOf41 (by simp) (by simp) (one_u64 _) rfl ?_
  refine lx_assign rfl rfl rfl ?_
  refine lx_nil ?_
  refine x_seq ?_
  refine xs_plain (E := EE []) ?_
  refine lx_move rfl rfl rfl ?_
  refine lx_un rfl (fun _ => un_not _) rfl rfl ?_
  refine lx_move rfl rfl rfl ?_
  refine lx_skip rfl rfl rfl ?_
  refine lx_skip rfl rfl rfl ?_
  refine lx_skip rfl rfl rfl ?_
  refine lx_skip rfl rfl rfl ?_
  refine lx_pick rfl rfl rfl rfl rfl ?_
  refine lx_nil ?_
  refine x_false rfl ?_
  refine x_skip ?_
  refine x_seq ?_
  refine xs_plain (E := EE []) ?_
  refine lx_move rfl rfl rfl ?_
  refine lx_un rfl (fun _ => un_not _) rfl rfl ?_
  refine lx_nil ?_
  refine x_true rfl ?_
  refine xs_plain (E := EE []) ?_
  refine lx_threeN three50 rfl rfl ?_
  refine lx_storea 6 hGF rfl rfl rfl Tryz.sizeOf50 (by simp) (by simp) (one_u64 _) rfl ?_
  refine lx_assign rfl rfl rfl ?_
  refine lx_nil ?_
  refine x_ret ?_
  repeat (first | refine kseq_ret ?_ | refine kblk_ret ?_)
  exact kret_ct 6 rfl rfl rfl rfl Tryz.isAgg50 Tryz.sizeOf50 (by simp) (fun w hw => ⟨rfl, hp_below hw⟩)
theorem r9lift_y (a r : W2) (hr : ml2 r r = RS4 a) (hl : LG2 r = false) (l : Bool) : Pure Tryz.prog Gt 21 [EV2 a, .bool l, .bool true] (.tuple #[EV6 (a, sgY r l, on2), .bool true]) := by
  cases l with
  | true => exact r9lift_yt a r hr hl
  | false => exact r9lift_yf a r hr hl
theorem r9lift_n (a : W2) (l : Bool) (h : ¬ LQ a) : Pure Tryz.prog Gt 21 [EV2 a, .bool l, .bool true] (.tuple #[EV6 (ze2, ze2, ze2), .bool false]) := by
  cases l with
  | true => exact r9lift_nt a h
  | false => exact r9lift_nf a h
theorem sgY_not (r : W2) (l : Bool) : sgY r (!l) = ng2 (sgY r l) := by
  cases l with
  | false => rfl
  | true => exact (R2.neg_neg r).symm
theorem lift_eq {a r : W2} (hr : ml2 r r = RS4 a) (l : Bool) : (gRt a r hr (!l)).P = (gNeg (gRt a r hr l)).P := congrArg (fun y => some (a, y)) (sgY_not r l)
theorem lift_same (a r : W2) (hr : ml2 r r = RS4 a) (l : Bool) : Pure Tryz.prog Gt 22 [PtV (gRt a r hr l), EV6 (a, sgY r l, on2)] (.bool true) := same8 (gRt a r hr l) _ (jr2_at (a, sgY r l))
theorem inf_eq : gInf.P = (gNeg gInf).P := rfl
theorem lifts8 (e0 : Option Addr) (cap0 : Nat) (bs0 : List (BitVec 8)) (hcap0 : bs0.length ≤ cap0) (b1 : Bool) (w : World) (hw : Gt w) (hb0 : BytesAt w e0 bs0) :
    Calls Tryz.prog 4 [.slice e0 bs0.length cap0, .bool b1].toArray w (fun r w' => r = .returned (.bool true) ∧ Grow w w') := by
  have hGF : BOk Gt (pl w) := gt_low.plain hw
  by_cases hL : ∀ v ∈ [(e0, bs0.length, cap0)], v.2.1 ≤ 100
  · skip
    have hl0 : bs0.length ≤ 100 := hL (e0, bs0.length, cap0) (by simp)
    by_cases hq : LQ (NUM bs0)
    · obtain ⟨rt, hr, hl⟩ := root_ex hq
      refine calls_of_X (G := Gt) Tryz.func4 rfl rfl (Hp (pl w) []) (hp_refl (pl w) trivial rides_true) (good_hp hGF) ?_
      refine xs_plain (E := EE []) ?_
      refine lx_assign rfl rfl rfl ?_
      refine lx_nil ?_
      refine x_seq ?_
      refine xs_plain (E := EE []) ?_
      refine lx_callB true rfl rfl ent10 (known8) (rfl) rfl rfl ?_
      refine lx_un rfl (fun _ => un_not _) rfl rfl ?_
      refine lx_nil ?_
      refine x_false rfl ?_
      refine x_skip ?_
      refine x_seq ?_
      refine xs_plain (E := EE []) ?_
      refine lx_move rfl rfl rfl ?_
      refine lx_bslV 940 (SVl [(e0, bs0.length, cap0)]) hGF rfl rfl rfl (by decide) (by decide) Tryz.underlying82 Tryz.sizeOf22 Tryz.zeroValue22 rfl rfl rfl ?_
      intro b940
      refine lx_callC rfl rfl ent11 (fun w' hC hG => light_t b940 1 [(e0, bs0.length, cap0)] rfl (by decide) hL w' hG (hp_row (n := 940) rfl w' hC)) rfl rfl ?_
      refine lx_un rfl (fun _ => un_not _) rfl rfl ?_
      refine lx_nil ?_
      refine x_false rfl ?_
      refine x_skip ?_
      refine xs_plain (E := EE []) ?_
      refine lx_move rfl rfl rfl ?_
      refine lx_callC rfl rfl ent12 (fun w' hC hG => num_calls e0 cap0 bs0 (by omega) hcap0 w' hG (hb0.grow (hp_below hC))) rfl rfl ?_
      refine lx_allocr 5 hGF zv30 rfl rfl ?_
      intro b5
      refine lx_storea 5 hGF rfl rfl rfl Tryz.sizeOf30 (by simp) (by simp) (one_u64 _) rfl ?_
      refine lx_nil ?_
      refine xs_plain (E := EE []) ?_
      refine lx_loada 5 rfl rfl Tryz.isAgg30 Tryz.sizeOf30 (by simp) rfl rfl ?_
      refine lx_move rfl rfl rfl ?_
      refine lx_call rfl rfl ent20 (lift_y _ rt hr hl _) rfl rfl ?_
      refine lx_move rfl rfl rfl ?_
      refine lx_ext rfl rfl rfl rfl ?_
      refine lx_ext rfl rfl rfl rfl ?_
      refine lx_allocr 6 hGF zv33 rfl rfl ?_
      intro b6
      refine lx_storea 6 hGF rfl rfl rfl Tryz.sizeOf33 (by simp) (by simp) (one_u64 _) rfl ?_
      refine lx_assign rfl rfl rfl ?_
      refine lx_nil ?_
      refine xs_plain (E := EE []) ?_
      refine lx_loada 5 rfl rfl Tryz.isAgg30 Tryz.sizeOf30 (by simp) rfl rfl ?_
      refine lx_call rfl rfl ent15 (ref8 _) rfl rfl ?_
      refine lx_move rfl rfl rfl ?_
      refine lx_call rfl rfl ent21 (r9lift_y _ rt hr hl _) rfl rfl ?_
      refine lx_move rfl rfl rfl ?_
      refine lx_ext rfl rfl rfl rfl ?_
      refine lx_ext rfl rfl rfl rfl ?_
      refine lx_allocr 8 hGF zv50 rfl rfl ?_
      intro b8
      refine lx_storea 8 hGF rfl rfl rfl Tryz.sizeOf50 (by simp) (by simp) (one_u64 _) rfl ?_
      refine lx_assign rfl rfl rfl ?_
      refine lx_nil ?_
      refine x_seq ?_
      refine xs_plain (E := EE []) ?_
      refine lx_move rfl rfl rfl ?_
      refine lx_move rfl rfl rfl ?_
      refine lx_binB false rfl rfl (fun _ => rfl) (fun w => bin_neq_bool 4 Tryz.underlying4 _ _ w) (rfl) rfl rfl ?_
      refine lx_move rfl rfl rfl ?_
      refine lx_move rfl rfl rfl ?_
      refine lx_move rfl rfl rfl ?_
      refine lx_loada 6 rfl rfl Tryz.isAgg33 Tryz.sizeOf33 (by simp) rfl rfl ?_
      refine lx_loada 8 rfl rfl Tryz.isAgg50 Tryz.sizeOf50 (by simp) rfl rfl ?_
      refine lx_callB true rfl rfl ent22 (lift_same (NUM bs0) rt hr b1) (rfl) rfl rfl ?_
      refine lx_un rfl (fun _ => un_not _) rfl rfl ?_
      refine lx_pick rfl rfl rfl rfl rfl ?_
      refine lx_pick rfl rfl rfl rfl rfl ?_
      refine lx_move rfl rfl rfl ?_
      refine lx_move rfl rfl rfl ?_
      refine lx_un rfl (fun _ => un_not _) rfl rfl ?_
      refine lx_move rfl rfl rfl ?_
      refine lx_skip rfl rfl rfl ?_
      refine lx_skip rfl rfl rfl ?_
      refine lx_skip rfl rfl rfl ?_
      refine lx_pick rfl rfl rfl rfl rfl ?_
      refine lx_pick rfl rfl rfl rfl rfl ?_
      refine lx_nil ?_
      refine x_false rfl ?_
      refine x_skip ?_
      refine xs_plain (E := EE []) ?_
      refine lx_loada 5 rfl rfl Tryz.isAgg30 Tryz.sizeOf30 (by simp) rfl rfl ?_
      refine lx_move rfl rfl rfl ?_
      refine lx_un rfl (fun _ => un_not _) rfl rfl ?_
      refine lx_call rfl rfl ent20 (lift_y _ rt hr hl (!b1)) rfl rfl ?_
      refine lx_move rfl rfl rfl ?_
      refine lx_ext rfl rfl rfl rfl ?_
      refine lx_ext rfl rfl rfl rfl ?_
      refine lx_allocr 10 hGF zv33 rfl rfl ?_
      intro b10
      refine lx_storea 10 hGF rfl rfl rfl Tryz.sizeOf33 (by simp) (by simp) (one_u64 _) rfl ?_
      refine lx_assign rfl rfl rfl ?_
      refine lx_nil ?_
      refine xs_drawn (E := EE []) mixed (by kernel_rfl) (by kernel_rfl) (by kernel_rfl) ?_
      refine lx_move rfl rfl rfl ?_
      refine lx_move rfl rfl rfl ?_
      refine lx_binB true rfl rfl (fun _ => rfl) (fun w => bin_eql_bool 4 Tryz.underlying4 _ _ w) (rfl) rfl rfl ?_
      refine lx_move rfl rfl rfl ?_
      refine lx_loada 10 rfl rfl Tryz.isAgg33 Tryz.sizeOf33 (by simp) rfl rfl ?_
      refine lx_loada 6 rfl rfl Tryz.isAgg33 Tryz.sizeOf33 (by simp) rfl rfl ?_
      refine lx_call rfl rfl ent24 (neg_p _) rfl rfl ?_
      refine lx_callB true rfl rfl ent23 (equal_p _ _) (decide_eq_true (lift_eq hr b1)) rfl rfl ?_
      refine lx_pick rfl rfl rfl rfl rfl ?_
      refine lx_assign rfl rfl rfl ?_
      refine lx_nil ?_
      refine x_ret ?_
      repeat (first | refine kseq_ret ?_ | refine kblk_ret ?_)
      exact kret_tmp rfl rfl (fun w hw => ⟨rfl, hp_below hw⟩)
    · skip
      refine calls_of_X (G := Gt) Tryz.func4 rfl rfl (Hp (pl w) []) (hp_refl (pl w) trivial rides_true) (good_hp hGF) ?_
      refine xs_plain (E := EE []) ?_
      refine lx_assign rfl rfl rfl ?_
      refine lx_nil ?_
      refine x_seq ?_
      refine xs_plain (E := EE []) ?_
      refine lx_callB true rfl rfl ent10 (known8) (rfl) rfl rfl ?_
      refine lx_un rfl (fun _ => un_not _) rfl rfl ?_
      refine lx_nil ?_
      refine x_false rfl ?_
      refine x_skip ?_
      refine x_seq ?_
      refine xs_plain (E := EE []) ?_
      refine lx_move rfl rfl rfl ?_
      refine lx_bslV 940 (SVl [(e0, bs0.length, cap0)]) hGF rfl rfl rfl (by decide) (by decide) Tryz.underlying82 Tryz.sizeOf22 Tryz.zeroValue22 rfl rfl rfl ?_
      intro b940
      refine lx_callC rfl rfl ent11 (fun w' hC hG => light_t b940 1 [(e0, bs0.length, cap0)] rfl (by decide) hL w' hG (hp_row (n := 940) rfl w' hC)) rfl rfl ?_
      refine lx_un rfl (fun _ => un_not _) rfl rfl ?_
      refine lx_nil ?_
      refine x_false rfl ?_
      refine x_skip ?_
      refine xs_plain (E := EE []) ?_
      refine lx_move rfl rfl rfl ?_
      refine lx_callC rfl rfl ent12 (fun w' hC hG => num_calls e0 cap0 bs0 (by omega) hcap0 w' hG (hb0.grow (hp_below hC))) rfl rfl ?_
      refine lx_allocr 5 hGF zv30 rfl rfl ?_
      intro b5
      refine lx_storea 5 hGF rfl rfl rfl Tryz.sizeOf30 (by simp) (by simp) (one_u64 _) rfl ?_
      refine lx_nil ?_
      refine xs_plain (E := EE []) ?_
      refine lx_loada 5 rfl rfl Tryz.isAgg30 Tryz.sizeOf30 (by simp) rfl rfl ?_
      refine lx_move rfl rfl rfl ?_
      refine lx_call rfl rfl ent20 (lift_n _ _ hq) rfl rfl ?_
      refine lx_move rfl rfl rfl ?_
      refine lx_ext rfl rfl rfl rfl ?_
      refine lx_ext rfl rfl rfl rfl ?_
      refine lx_allocr 6 hGF zv33 rfl rfl ?_
      intro b6
      refine lx_storea 6 hGF rfl rfl rfl Tryz.sizeOf33 (by simp) (by simp) (one_u64 _) rfl ?_
      refine lx_assign rfl rfl rfl ?_
      refine lx_nil ?_
      refine xs_plain (E := EE []) ?_
      refine lx_loada 5 rfl rfl Tryz.isAgg30 Tryz.sizeOf30 (by simp) rfl rfl ?_
      refine lx_call rfl rfl ent15 (ref8 _) rfl rfl ?_
      refine lx_move rfl rfl rfl ?_
      refine lx_call rfl rfl ent21 (r9lift_n _ _ hq) rfl rfl ?_
      refine lx_move rfl rfl rfl ?_
      refine lx_ext rfl rfl rfl rfl ?_
      refine lx_ext rfl rfl rfl rfl ?_
      refine lx_allocr 8 hGF zv50 rfl rfl ?_
      intro b8
      refine lx_storea 8 hGF rfl rfl rfl Tryz.sizeOf50 (by simp) (by simp) (one_u64 _) rfl ?_
      refine lx_assign rfl rfl rfl ?_
      refine lx_nil ?_
      refine x_seq ?_
      refine xs_plain (E := EE []) ?_
      refine lx_move rfl rfl rfl ?_
      refine lx_move rfl rfl rfl ?_
      refine lx_binB false rfl rfl (fun _ => rfl) (fun w => bin_neq_bool 4 Tryz.underlying4 _ _ w) (rfl) rfl rfl ?_
      refine lx_move rfl rfl rfl ?_
      refine lx_move rfl rfl rfl ?_
      refine lx_move rfl rfl rfl ?_
      refine lx_skip rfl rfl rfl ?_
      refine lx_skip rfl rfl rfl ?_
      refine lx_skip rfl rfl rfl ?_
      refine lx_skip rfl rfl rfl ?_
      refine lx_pick rfl rfl rfl rfl rfl ?_
      refine lx_pick rfl rfl rfl rfl rfl ?_
      refine lx_move rfl rfl rfl ?_
      refine lx_move rfl rfl rfl ?_
      refine lx_un rfl (fun _ => un_not _) rfl rfl ?_
      refine lx_move rfl rfl rfl ?_
      refine lx_loada 6 rfl rfl Tryz.isAgg33 Tryz.sizeOf33 (by simp) rfl rfl ?_
      refine lx_callB true rfl rfl ent16 (isInf_p _) (decide_eq_true rfl) rfl rfl ?_
      refine lx_un rfl (fun _ => un_not _) rfl rfl ?_
      refine lx_pick rfl rfl rfl rfl rfl ?_
      refine lx_pick rfl rfl rfl rfl rfl ?_
      refine lx_nil ?_
      refine x_false rfl ?_
      refine x_skip ?_
      refine xs_plain (E := EE []) ?_
      refine lx_loada 5 rfl rfl Tryz.isAgg30 Tryz.sizeOf30 (by simp) rfl rfl ?_
      refine lx_move rfl rfl rfl ?_
      refine lx_un rfl (fun _ => un_not _) rfl rfl ?_
      refine lx_call rfl rfl ent20 (lift_n _ (!b1) hq) rfl rfl ?_
      refine lx_move rfl rfl rfl ?_
      refine lx_ext rfl rfl rfl rfl ?_
      refine lx_ext rfl rfl rfl rfl ?_
      refine lx_allocr 10 hGF zv33 rfl rfl ?_
      intro b10
      refine lx_storea 10 hGF rfl rfl rfl Tryz.sizeOf33 (by simp) (by simp) (one_u64 _) rfl ?_
      refine lx_assign rfl rfl rfl ?_
      refine lx_nil ?_
      refine xs_drawn (E := EE []) mixed (by kernel_rfl) (by kernel_rfl) (by kernel_rfl) ?_
      refine lx_move rfl rfl rfl ?_
      refine lx_move rfl rfl rfl ?_
      refine lx_binB true rfl rfl (fun _ => rfl) (fun w => bin_eql_bool 4 Tryz.underlying4 _ _ w) (rfl) rfl rfl ?_
      refine lx_move rfl rfl rfl ?_
      refine lx_loada 10 rfl rfl Tryz.isAgg33 Tryz.sizeOf33 (by simp) rfl rfl ?_
      refine lx_loada 6 rfl rfl Tryz.isAgg33 Tryz.sizeOf33 (by simp) rfl rfl ?_
      refine lx_call rfl rfl ent24 (neg_p _) rfl rfl ?_
      refine lx_callB true rfl rfl ent23 (equal_p _ _) (decide_eq_true inf_eq) rfl rfl ?_
      refine lx_pick rfl rfl rfl rfl rfl ?_
      refine lx_assign rfl rfl rfl ?_
      refine lx_nil ?_
      refine x_ret ?_
      repeat (first | refine kseq_ret ?_ | refine kblk_ret ?_)
      exact kret_tmp rfl rfl (fun w hw => ⟨rfl, hp_below hw⟩)
  · skip
    refine calls_of_X (G := Gt) Tryz.func4 rfl rfl (Hp (pl w) []) (hp_refl (pl w) trivial rides_true) (good_hp hGF) ?_
    refine xs_plain (E := EE []) ?_
    refine lx_assign rfl rfl rfl ?_
    refine lx_nil ?_
    refine x_seq ?_
    refine xs_plain (E := EE []) ?_
    refine lx_callB true rfl rfl ent10 (known8) (rfl) rfl rfl ?_
    refine lx_un rfl (fun _ => un_not _) rfl rfl ?_
    refine lx_nil ?_
    refine x_false rfl ?_
    refine x_skip ?_
    refine x_seq ?_
    refine xs_plain (E := EE []) ?_
    refine lx_move rfl rfl rfl ?_
    refine lx_bslV 940 (SVl [(e0, bs0.length, cap0)]) hGF rfl rfl rfl (by decide) (by decide) Tryz.underlying82 Tryz.sizeOf22 Tryz.zeroValue22 rfl rfl rfl ?_
    intro b940
    refine lx_callC rfl rfl ent11 (fun w' hC hG => light_f b940 1 [(e0, bs0.length, cap0)] rfl (by decide) hL w' hG (hp_row (n := 940) rfl w' hC)) rfl rfl ?_
    refine lx_un rfl (fun _ => un_not _) rfl rfl ?_
    refine lx_nil ?_
    refine x_true rfl ?_
    refine xs_plain (E := EE []) ?_
    refine lx_assign rfl rfl rfl ?_
    refine lx_nil ?_
    refine x_ret ?_
    repeat (first | refine kseq_ret ?_ | refine kblk_ret ?_)
    exact kret_tmp rfl rfl (fun w hw => ⟨rfl, hp_below hw⟩)
end Go.Proofs.YtfknmeefbccflaaGreatDoor
