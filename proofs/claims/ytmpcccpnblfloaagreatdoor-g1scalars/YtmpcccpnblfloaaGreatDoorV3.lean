/-
  What the laws of layer 8 share: the document's points of the program's; small helps.
-/
import Derived.Test.YtmpcccpnblfloaaGreatDoorT3
namespace Go.Proofs.YtmpcccpnblfloaaGreatDoor
open Go.RowKit
set_option maxRecDepth 100000
set_option maxHeartbeats 1000000
attribute [local simp] fe_len nm_len AS_len SS_len MONT_len RM_len FRs_len BYs_len by48_len PLl TWOl ONEl N1l IVPl HFPl RTPl FL_len SP_len fe2_len SP2_len FM_len GL_len

theorem ent23 : Enters Tryz.prog 23 := fun _ _ => by kernel_rfl
theorem ent52 : Enters Tryz.prog 52 := fun _ _ => by kernel_rfl
theorem RJ_s {P : Pt Zp} (h : ¬ P = none) : RJ P = ((PX P, 0), (PY P, 0), on2) := by
  cases P with
  | none => exact absurd rfl h
  | some p => rfl
theorem on_w {P : Pt Zp} (hP : E1.onP P) (h : ¬ P = none) : decide (ml2 (PY P, 0) (PY P, 0) = ad2 (ml2 (ml2 (PX P, 0) (PX P, 0)) (PX P, 0)) E1w.b) = true := by
  cases P with
  | none => exact absurd rfl h
  | some p =>
    have e := em1.on (p := p) hP
    refine decide_eq_true ?_
    rw [show ml2 (ml2 (PX (some p), 0) (PX (some p), 0)) (PX (some p), 0) = R2.mul (p.1, 0) (R2.mul (p.1, 0) (p.1, 0)) from R2.mul_comm _ _]
    exact e
theorem eq_dec {J K : W6} {P Q : Pt Zp} (hP : E1.onP P) (hQ : E1.onP Q) (hJ : E1w.jr J (em1.p P)) (hK : E1w.jr K (em1.p Q)) : decide ((E1w.jaF J (K.1, ng2 K.2.1, K.2.2)).2.2 = ze2) = decide (P = Q) := by
  have h := E1w.jr_a (em1.onP hP) (E1w.ne_on (em1.onP hQ)) hJ (E1w.jr_n hK)
  refine decide_eq_decide.2 ((E1w.jr_z h).trans ((E1w.ad_ne_iff (em1.onP hP) (em1.onP hQ)).trans ⟨fun e => em1.inj e, fun e => by rw [e]⟩))
theorem same_t {K : W6} {P : Pt Zp} (hP : E1.onP P) (hK : E1w.jr K (em1.p P)) : decide ((E1w.jaF (RJ P) (K.1, ng2 K.2.1, K.2.2)).2.2 = ze2) = true := (eq_dec hP hP (RJ_jr P) hK).trans (decide_eq_true rfl)
theorem rfromE (x : Zp) (b : Nat) (t : TypeId) (w : World) (hw : Gt w) (ho : OwnB w b ((by48 x).map U8) t) :
    Calls Tryz.prog 97 [.slice (some ⟨b, 0, none⟩) 48 48].toArray w (fun r w' => r = .returned (.tuple #[NV (nm x), .bool true]) ∧ Grow w w') := by
  have h := rfrom48 b t (by48 x) (by48_len x) w hw ho
  rw [FRs_by48] at h
  exact h
def SVl (vs : List (Option Addr × Nat × Nat)) : List Value := vs.map fun v => .slice v.1 v.2.1 v.2.2
theorem part8 (x : Zp) : Pure Tryz.prog Gt 51 [EV x] (EV x) := by
  intro w hw
  have hGF : BOk Gt (pl w) := gt_low.plain hw
  refine calls_of_X (G := Gt) Tryz.func51 rfl rfl (Hp (pl w) []) (hp_refl (pl w) trivial rides_true) (good_hp hGF) ?_
  refine xs_plain (E := EE []) ?_
  refine lx_boxr 1 hGF rfl rfl rfl ?_
  intro b1
  refine lx_allocr 2 hGF zv36 rfl rfl ?_
  intro b2
  refine lx_nil ?_
  refine xs_plain (E := EE []) ?_
  refine lx_loada 1 rfl rfl Tryz.isAgg28 Tryz.sizeOf28 (by simp) rfl rfl ?_
  refine lx_call rfl rfl ent96 (fbytes_pure _) rfl rfl ?_
  refine lx_allocr 3 hGF zv100 rfl rfl ?_
  intro b3
  refine lx_storea 3 hGF rfl rfl rfl Tryz.sizeOf100 (by simp) (by simp) (one_u8 _) rfl ?_
  refine lx_nil ?_
  refine xs_plain (E := EE []) ?_
  refine lx_slarr1 (l := 0) (h' := 48) rfl Tryz.underlying100 Tryz.sizeOf5 rfl rfl (by omega) (by omega) rfl rfl ?_
  refine lx_callC rfl rfl ent97 (fun w' hC hG => rfromE x _ _ w' hG (hC.own 3 _ _ _ rfl).1) rfl rfl ?_
  refine lx_move rfl rfl rfl ?_
  refine lx_ext rfl rfl rfl rfl ?_
  refine lx_ext rfl rfl rfl rfl ?_
  refine lx_allocr 4 hGF zv34 rfl rfl ?_
  intro b4
  refine lx_storea 4 hGF rfl rfl rfl Tryz.sizeOf34 (by simp) (by simp) (one_u64 _) rfl ?_
  refine lx_assign rfl rfl rfl ?_
  refine lx_nil ?_
  refine xs_plain (E := EE []) ?_
  refine lx_loada 4 rfl rfl Tryz.isAgg34 Tryz.sizeOf34 (by simp) rfl rfl ?_
  refine lx_call rfl rfl ent98 (rofE _) rfl rfl ?_
  refine lx_storea 2 hGF rfl rfl rfl Tryz.sizeOf36 (by simp) (by simp) (one_u64 _) rfl ?_
  refine lx_nil ?_
  refine x_ret ?_
  repeat (first | refine kseq_ret ?_ | refine kblk_ret ?_)
  exact kret_own 2 rfl rfl rfl Tryz.isAgg36 Tryz.sizeOf36 (by simp) (fun w hw => ⟨rfl, hp_below hw⟩)
theorem ref8 (x : Zp) : Pure Tryz.prog Gt 13 [EV x] (EV2 (x, 0)) := by
  intro w hw
  have hGF : BOk Gt (pl w) := gt_low.plain hw
  refine calls_of_X (G := Gt) Tryz.func13 rfl rfl (Hp (pl w) []) (hp_refl (pl w) trivial rides_true) (good_hp hGF) ?_
  refine xs_plain (E := EE []) ?_
  refine lx_boxr 1 hGF rfl rfl rfl ?_
  intro b1
  refine lx_allocr 2 hGF zv38 rfl rfl ?_
  intro b2
  refine lx_nil ?_
  refine xs_plain (E := EE []) ?_
  refine lx_loada 1 rfl rfl Tryz.isAgg28 Tryz.sizeOf28 (by simp) rfl rfl ?_
  refine lx_call rfl rfl ent51 (part8 _) rfl rfl ?_
  refine lx_twoA two38 rfl (by simp) rfl rfl ?_
  refine lx_storea 2 hGF rfl rfl rfl Tryz.sizeOf38 (by simp) (by simp) (one_u64 _) rfl ?_
  refine lx_nil ?_
  refine x_ret ?_
  repeat (first | refine kseq_ret ?_ | refine kblk_ret ?_)
  exact kret_own 2 rfl rfl rfl Tryz.isAgg38 Tryz.sizeOf38 (by simp) (fun w hw => ⟨rfl, hp_below hw⟩)
theorem on8 (p : GP) : Pure Tryz.prog Gt 52 [PtV p] (.bool true) := by
  intro w hw
  have hGF : BOk Gt (pl w) := gt_low.plain hw
  by_cases h : p.P = none
  · skip
    refine calls_of_X (G := Gt) Tryz.func52 rfl rfl (Hp (pl w) []) (hp_refl (pl w) trivial rides_true) (good_hp hGF) ?_
    refine xs_plain (E := EE []) ?_
    refine lx_boxr 1 hGF rfl rfl rfl ?_
    intro b1
    refine lx_assign rfl rfl rfl ?_
    refine lx_nil ?_
    refine xs_plain (E := EE []) ?_
    refine lx_loada 1 rfl rfl Tryz.isAgg31 Tryz.sizeOf31 (by simp) rfl rfl ?_
    refine lx_call rfl rfl ent65 (xy_n p h) rfl rfl ?_
    refine lx_move rfl rfl rfl ?_
    refine lx_ext rfl rfl rfl rfl ?_
    refine lx_ext rfl rfl rfl rfl ?_
    refine lx_ext rfl rfl rfl rfl ?_
    refine lx_allocr 3 hGF zv28 rfl rfl ?_
    intro b3
    refine lx_allocr 4 hGF zv28 rfl rfl ?_
    intro b4
    refine lx_storea 3 hGF rfl rfl rfl Tryz.sizeOf28 (by simp) (by simp) (one_u64 _) rfl ?_
    refine lx_storea 4 hGF rfl rfl rfl Tryz.sizeOf28 (by simp) (by simp) (one_u64 _) rfl ?_
    refine lx_assign rfl rfl rfl ?_
    refine lx_nil ?_
    refine xs_drawn (E := EE []) mixed (by kernel_rfl) (by kernel_rfl) (by kernel_rfl) ?_
    refine lx_move rfl rfl rfl ?_
    refine lx_loada 1 rfl rfl Tryz.isAgg31 Tryz.sizeOf31 (by simp) rfl rfl ?_
    refine lx_callB true rfl rfl ent15 (isInf_p _) (decide_eq_true h) rfl rfl ?_
    refine lx_binB true rfl rfl (fun _ => rfl) (fun w => bin_neq_bool 4 Tryz.underlying4 _ _ w) (rfl) rfl rfl ?_
    refine lx_move rfl rfl rfl ?_
    refine lx_move rfl rfl rfl ?_
    refine lx_un rfl (fun _ => un_not _) rfl rfl ?_
    refine lx_move rfl rfl rfl ?_
    refine lx_skip rfl rfl rfl ?_
    refine lx_skip rfl rfl rfl ?_
    refine lx_skip rfl rfl rfl ?_
    refine lx_skip rfl rfl rfl ?_
    refine lx_skip rfl rfl rfl ?_
    refine lx_pick rfl rfl rfl rfl rfl ?_
    refine lx_pick rfl rfl rfl rfl rfl ?_
    refine lx_assign rfl rfl rfl ?_
    refine lx_nil ?_
    refine x_ret ?_
    repeat (first | refine kseq_ret ?_ | refine kblk_ret ?_)
    exact kret_tmp rfl rfl (fun w hw => ⟨rfl, hp_below hw⟩)
  · skip
    refine calls_of_X (G := Gt) Tryz.func52 rfl rfl (Hp (pl w) []) (hp_refl (pl w) trivial rides_true) (good_hp hGF) ?_
    refine xs_plain (E := EE []) ?_
    refine lx_boxr 1 hGF rfl rfl rfl ?_
    intro b1
    refine lx_assign rfl rfl rfl ?_
    refine lx_nil ?_
    refine xs_plain (E := EE []) ?_
    refine lx_loada 1 rfl rfl Tryz.isAgg31 Tryz.sizeOf31 (by simp) rfl rfl ?_
    refine lx_call rfl rfl ent65 (xy_s p h) rfl rfl ?_
    refine lx_move rfl rfl rfl ?_
    refine lx_ext rfl rfl rfl rfl ?_
    refine lx_ext rfl rfl rfl rfl ?_
    refine lx_ext rfl rfl rfl rfl ?_
    refine lx_allocr 3 hGF zv28 rfl rfl ?_
    intro b3
    refine lx_allocr 4 hGF zv28 rfl rfl ?_
    intro b4
    refine lx_storea 3 hGF rfl rfl rfl Tryz.sizeOf28 (by simp) (by simp) (one_u64 _) rfl ?_
    refine lx_storea 4 hGF rfl rfl rfl Tryz.sizeOf28 (by simp) (by simp) (one_u64 _) rfl ?_
    refine lx_assign rfl rfl rfl ?_
    refine lx_nil ?_
    refine xs_drawn (E := EE []) mixed (by kernel_rfl) (by kernel_rfl) (by kernel_rfl) ?_
    refine lx_move rfl rfl rfl ?_
    refine lx_loada 1 rfl rfl Tryz.isAgg31 Tryz.sizeOf31 (by simp) rfl rfl ?_
    refine lx_callB false rfl rfl ent15 (isInf_p _) (decide_eq_false h) rfl rfl ?_
    refine lx_binB true rfl rfl (fun _ => rfl) (fun w => bin_neq_bool 4 Tryz.underlying4 _ _ w) (rfl) rfl rfl ?_
    refine lx_move rfl rfl rfl ?_
    refine lx_move rfl rfl rfl ?_
    refine lx_un rfl (fun _ => un_not _) rfl rfl ?_
    refine lx_move rfl rfl rfl ?_
    refine lx_loada 3 rfl rfl Tryz.isAgg28 Tryz.sizeOf28 (by simp) rfl rfl ?_
    refine lx_call rfl rfl ent13 (ref8 _) rfl rfl ?_
    refine lx_loada 4 rfl rfl Tryz.isAgg28 Tryz.sizeOf28 (by simp) rfl rfl ?_
    refine lx_call rfl rfl ent13 (ref8 _) rfl rfl ?_
    refine lx_callB true rfl rfl ent99 (r9on1 _ _) (on_w p.on h) rfl rfl ?_
    refine lx_pick rfl rfl rfl rfl rfl ?_
    refine lx_pick rfl rfl rfl rfl rfl ?_
    refine lx_assign rfl rfl rfl ?_
    refine lx_nil ?_
    refine x_ret ?_
    repeat (first | refine kseq_ret ?_ | refine kblk_ret ?_)
    exact kret_tmp rfl rfl (fun w hw => ⟨rfl, hp_below hw⟩)
theorem refs8 (p : GP) : Pure Tryz.prog Gt 23 [PtV p] (EV6 (RJ p.P)) := by
  intro w hw
  have hGF : BOk Gt (pl w) := gt_low.plain hw
  by_cases h : p.P = none
  · skip
    rw [h]
    refine calls_of_X (G := Gt) Tryz.func23 rfl rfl (Hp (pl w) []) (hp_refl (pl w) trivial rides_true) (good_hp hGF) ?_
    refine xs_plain (E := EE []) ?_
    refine lx_boxr 1 hGF rfl rfl rfl ?_
    intro b1
    refine lx_allocr 2 hGF zv40 rfl rfl ?_
    intro b2
    refine lx_nil ?_
    refine xs_plain (E := EE []) ?_
    refine lx_loada 1 rfl rfl Tryz.isAgg31 Tryz.sizeOf31 (by simp) rfl rfl ?_
    refine lx_call rfl rfl ent65 (xy_n p h) rfl rfl ?_
    refine lx_move rfl rfl rfl ?_
    refine lx_ext rfl rfl rfl rfl ?_
    refine lx_ext rfl rfl rfl rfl ?_
    refine lx_ext rfl rfl rfl rfl ?_
    refine lx_allocr 3 hGF zv28 rfl rfl ?_
    intro b3
    refine lx_allocr 4 hGF zv28 rfl rfl ?_
    intro b4
    refine lx_storea 3 hGF rfl rfl rfl Tryz.sizeOf28 (by simp) (by simp) (one_u64 _) rfl ?_
    refine lx_storea 4 hGF rfl rfl rfl Tryz.sizeOf28 (by simp) (by simp) (one_u64 _) rfl ?_
    refine lx_assign rfl rfl rfl ?_
    refine lx_nil ?_
    refine x_seq ?_
    refine xs_plain (E := EE []) ?_
    refine lx_move rfl rfl rfl ?_
    refine lx_un rfl (fun _ => un_not _) rfl rfl ?_
    refine lx_nil ?_
    refine x_true rfl ?_
    refine xs_plain (E := EE []) ?_
    refine lx_threeN three40 rfl rfl ?_
    refine lx_storea 2 hGF rfl rfl rfl Tryz.sizeOf40 (by simp) (by simp) (one_u64 _) rfl ?_
    refine lx_nil ?_
    refine x_ret ?_
    repeat (first | refine kseq_ret ?_ | refine kblk_ret ?_)
    exact kret_own 2 rfl rfl rfl Tryz.isAgg40 Tryz.sizeOf40 (by simp) (fun w hw => ⟨rfl, hp_below hw⟩)
  · skip
    rw [RJ_s h]
    refine calls_of_X (G := Gt) Tryz.func23 rfl rfl (Hp (pl w) []) (hp_refl (pl w) trivial rides_true) (good_hp hGF) ?_
    refine xs_plain (E := EE []) ?_
    refine lx_boxr 1 hGF rfl rfl rfl ?_
    intro b1
    refine lx_allocr 2 hGF zv40 rfl rfl ?_
    intro b2
    refine lx_nil ?_
    refine xs_plain (E := EE []) ?_
    refine lx_loada 1 rfl rfl Tryz.isAgg31 Tryz.sizeOf31 (by simp) rfl rfl ?_
    refine lx_call rfl rfl ent65 (xy_s p h) rfl rfl ?_
    refine lx_move rfl rfl rfl ?_
    refine lx_ext rfl rfl rfl rfl ?_
    refine lx_ext rfl rfl rfl rfl ?_
    refine lx_ext rfl rfl rfl rfl ?_
    refine lx_allocr 3 hGF zv28 rfl rfl ?_
    intro b3
    refine lx_allocr 4 hGF zv28 rfl rfl ?_
    intro b4
    refine lx_storea 3 hGF rfl rfl rfl Tryz.sizeOf28 (by simp) (by simp) (one_u64 _) rfl ?_
    refine lx_storea 4 hGF rfl rfl rfl Tryz.sizeOf28 (by simp) (by simp) (one_u64 _) rfl ?_
    refine lx_assign rfl rfl rfl ?_
    refine lx_nil ?_
    refine x_seq ?_
    refine xs_plain (E := EE []) ?_
    refine lx_move rfl rfl rfl ?_
    refine lx_un rfl (fun _ => un_not _) rfl rfl ?_
    refine lx_nil ?_
    refine x_false rfl ?_
    refine x_skip ?_
    refine xs_drawn (E := EE []) mixed (by kernel_rfl) (by kernel_rfl) (by kernel_rfl) ?_
    refine lx_loada 3 rfl rfl Tryz.isAgg28 Tryz.sizeOf28 (by simp) rfl rfl ?_
    refine lx_call rfl rfl ent13 (ref8 _) rfl rfl ?_
    refine lx_loada 4 rfl rfl Tryz.isAgg28 Tryz.sizeOf28 (by simp) rfl rfl ?_
    refine lx_call rfl rfl ent13 (ref8 _) rfl rfl ?_
    refine lx_call rfl rfl ent50 (r9at _ _) rfl rfl ?_
    refine lx_storea 2 hGF rfl rfl rfl Tryz.sizeOf40 (by simp) (by simp) (one_u64 _) rfl ?_
    refine lx_nil ?_
    refine x_ret ?_
    repeat (first | refine kseq_ret ?_ | refine kblk_ret ?_)
    exact kret_own 2 rfl rfl rfl Tryz.isAgg40 Tryz.sizeOf40 (by simp) (fun w hw => ⟨rfl, hp_below hw⟩)
theorem same8 (p : GP) (K : W6) (hK : E1w.jr K (em1.p p.P)) : Pure Tryz.prog Gt 14 [PtV p, EV6 K] (.bool true) := by
  intro w hw
  have hGF : BOk Gt (pl w) := gt_low.plain hw
  refine calls_of_X (G := Gt) Tryz.func14 rfl rfl (Hp (pl w) []) (hp_refl (pl w) trivial rides_true) (good_hp hGF) ?_
  refine xs_plain (E := EE []) ?_
  refine lx_boxr 2 hGF rfl rfl rfl ?_
  intro b2
  refine lx_boxr 3 hGF rfl rfl rfl ?_
  intro b3
  refine lx_assign rfl rfl rfl ?_
  refine lx_nil ?_
  refine xs_drawn (E := EE []) mixed (by kernel_rfl) (by kernel_rfl) (by kernel_rfl) ?_
  refine lx_loada 2 rfl rfl Tryz.isAgg31 Tryz.sizeOf31 (by simp) rfl rfl ?_
  refine lx_callB true rfl rfl ent52 (on8 _) (rfl) rfl rfl ?_
  refine lx_move rfl rfl rfl ?_
  refine lx_loada 2 rfl rfl Tryz.isAgg31 Tryz.sizeOf31 (by simp) rfl rfl ?_
  refine lx_call rfl rfl ent23 (refs8 _) rfl rfl ?_
  refine lx_loada 3 rfl rfl Tryz.isAgg40 Tryz.sizeOf40 (by simp) rfl rfl ?_
  refine lx_callB true rfl rfl ent53 (r9equal _ _) (same_t p.on hK) rfl rfl ?_
  refine lx_pick rfl rfl rfl rfl rfl ?_
  refine lx_assign rfl rfl rfl ?_
  refine lx_nil ?_
  refine x_ret ?_
  repeat (first | refine kseq_ret ?_ | refine kblk_ret ?_)
  exact kret_tmp rfl rfl (fun w hw => ⟨rfl, hp_below hw⟩)
end Go.Proofs.YtmpcccpnblfloaaGreatDoor
