/-
  The walks of package swu: the other curve.
  The document's place on the other curve.
  The document's map to the second curve.
  The document's map to the second curve: Iso, Map.
-/
import Derived.Test.YtdkmalaffcfoeaaGreatDoorQ4
import Derived.Test.YtdkmalaffcfoeaaGreatDoorX5
import Derived.Test.YtdkmalaffcfoeaaGreatDoorX3
import Derived.Test.YtdkmalaffcfoeaaGreatDoorX2
namespace Go.Proofs.YtdkmalaffcfoeaaGreatDoor
open Go.RowKit
set_option maxRecDepth 100000
set_option maxHeartbeats 1000000
attribute [local simp] fe_len nm_len AS_len SS_len MONT_len RM_len FRs_len BYs_len by48_len PLl TWOl ONEl N1l IVPl HFPl RTPl FL_len SP_len fe2_len SP2_len FM_len GL_len

theorem ent88 : Enters Tryz.prog 88 := fun _ _ => by kernel_rfl
theorem ent87 : Enters Tryz.prog 87 := fun _ _ => by kernel_rfl
theorem ent35 : Enters Tryz.prog 35 := fun _ _ => by kernel_rfl
theorem ent37 : Enters Tryz.prog 37 := fun _ _ => by kernel_rfl
theorem ent36 : Enters Tryz.prog 36 := fun _ _ => by kernel_rfl
theorem ent38 : Enters Tryz.prog 38 := fun _ _ => by kernel_rfl
theorem ent8 : Enters Tryz.prog 8 := fun _ _ => by kernel_rfl
theorem ent16 : Enters Tryz.prog 16 := fun _ _ => by kernel_rfl
theorem ent24 : Enters Tryz.prog 24 := fun _ _ => by kernel_rfl
theorem ent57 : Enters Tryz.prog 57 := fun _ _ => by kernel_rfl
theorem ent58 : Enters Tryz.prog 58 := fun _ _ => by kernel_rfl
theorem ent103 : Enters Tryz.prog 103 := fun _ _ => by kernel_rfl
theorem ent56 : Enters Tryz.prog 56 := fun _ _ => by kernel_rfl
theorem ent104 : Enters Tryz.prog 104 := fun _ _ => by kernel_rfl
theorem ent12 : Enters Tryz.prog 12 := fun _ _ => by kernel_rfl
theorem ent9 : Enters Tryz.prog 9 := fun _ _ => by kernel_rfl
theorem ent20 : Enters Tryz.prog 20 := fun _ _ => by kernel_rfl
theorem ent27 : Enters Tryz.prog 27 := fun _ _ => by kernel_rfl
theorem ent43 : Enters Tryz.prog 43 := fun _ _ => by kernel_rfl
theorem ent42 : Enters Tryz.prog 42 := fun _ _ => by kernel_rfl
theorem ent39 : Enters Tryz.prog 39 := fun _ _ => by kernel_rfl
theorem ent66 : Enters Tryz.prog 66 := fun _ _ => by kernel_rfl
theorem ent67 : Enters Tryz.prog 67 := fun _ _ => by kernel_rfl
theorem ent65 : Enters Tryz.prog 65 := fun _ _ => by kernel_rfl
theorem pA  : Pure Tryz.prog Gt 88 [] (EV2 OA) := pE TO63 Tryz.func88 [] (.inl (.inl [OA.1, OA.2])) (let t0 := zp (240#64).toNat; (.inl (.inl [0, t0]), [])) [] (by kernel_rfl) ok_nil rfl
def TO64 : Tb Tryz.prog Gt := TO63.add (wq2rd (g := OA) ent88 pA)
theorem pB  : Pure Tryz.prog Gt 87 [] (EV2 OB) := pE TO64 Tryz.func87 [] (.inl (.inl [OB.1, OB.2])) (let t0 := zp (1012#64).toNat; let t1 := zp (1012#64).toNat; (.inl (.inl [t0, t1]), [])) [] (by kernel_rfl) ok_nil rfl
def TO65 : Tb Tryz.prog Gt := TO64.add (wq2rd (g := OB) ent87 pB)
theorem pZ  : Pure Tryz.prog Gt 35 [] (EV2 OZ) := pE TO65 Tryz.func35 [] (.inl (.inl [OZ.1, OZ.2])) (let t0 := zp (2#64).toNat; let t1 := ng2 (t0, 1); (.inl (.inl [t1.1, t1.2]), [])) [] (by kernel_rfl) ok_nil rfl
def TO66 : Tb Tryz.prog Gt := TO65.add (wq2rd (g := OZ) ent35 pZ)
theorem psq (x : W2) : Pure Tryz.prog Gt 37 [EV2 x] (EV2 (gO x)) := pE TO66 Tryz.func37 [.inl [x.1, x.2]] (.inl (.inl [(gO x).1, (gO x).2])) (let t0 := ml2 x x; let t1 := OA; let t2 := ad2 (t0.1, t0.2) (t1.1, t1.2); let t3 := ml2 (t2.1, t2.2) x; let t4 := OB; let t5 := ad2 (t3.1, t3.2) (t4.1, t4.2); (.inl (.inl [t5.1, t5.2]), [])) [] (by kernel_rfl) ok_nil (el2 (congrArg Prod.fst (sq_gO x)) (congrArg Prod.snd (sq_gO x)))
def TO67 : Tb Tryz.prog Gt := TO66.add (wq2ag_q2rd (g := gO) ent37 psq)
/-- The first x, as the program has it. -/
def FXs (s : W2) : W2 := if (ad2 (ml2 s s) s) = ze2 then ml2 (ml2 OB (ad2 (ad2 (ml2 s s) s) on2)) (iv2 (ml2 OZ OA)) else ml2 (ml2 OB (ad2 (ad2 (ml2 s s) s) on2)) (iv2 (ml2 (ng2 (ad2 (ml2 s s) s)) OA))
theorem FXs_zu (u : W2) : FXs (zu2 u) = x1O u := by
  by_cases h : tu2 u = ze2
  · exact (if_pos h).trans (first_y h)
  · exact (if_neg h).trans (first_n h)
theorem pfirst (s : W2) : Pure Tryz.prog Gt 36 [EV2 s] (EV2 (FXs s)) := by
  by_cases h : (ad2 (ml2 s s) s) = ze2
  · exact pE TO67 Tryz.func36 [.inl [s.1, s.2]] (.inl (.inl [(FXs s).1, (FXs s).2])) (let t0 := ml2 s s; let t1 := ad2 (t0.1, t0.2) s; let t3 := OZ; let t4 := OB; let t5 := on2; let t6 := ad2 (t1.1, t1.2) (t5.1, t5.2); let t7 := ml2 (t4.1, t4.2) (t6.1, t6.2); let t8 := OA; let t9 := ml2 (t3.1, t3.2) (t8.1, t8.2); let t10 := iv2 (t9.1, t9.2); let t11 := ml2 (t7.1, t7.2) (t10.1, t10.2); (.inl (.inl [t11.1, t11.2]), [(decide ((t1.1, t1.2) = ze2), true)])) [some true] (by kernel_rfl) (ok_cons (decide_eq_true h) ok_nil) (by rw [show FXs s = _ from if_pos h] <;> exact rfl)
  · exact pE TO67 Tryz.func36 [.inl [s.1, s.2]] (.inl (.inl [(FXs s).1, (FXs s).2])) (let t0 := ml2 s s; let t1 := ad2 (t0.1, t0.2) s; let t2 := ng2 (t1.1, t1.2); let t3 := OB; let t4 := on2; let t5 := ad2 (t1.1, t1.2) (t4.1, t4.2); let t6 := ml2 (t3.1, t3.2) (t5.1, t5.2); let t7 := OA; let t8 := ml2 (t2.1, t2.2) (t7.1, t7.2); let t9 := iv2 (t8.1, t8.2); let t10 := ml2 (t6.1, t6.2) (t9.1, t9.2); (.inl (.inl [t10.1, t10.2]), [(decide ((t1.1, t1.2) = ze2), false)])) [some false] (by kernel_rfl) (ok_cons (decide_eq_false h) ok_nil) (by rw [show FXs s = _ from if_neg h] <;> exact rfl)
def TO68 : Tb Tryz.prog Gt := TO67.add (wq2ag_q2rd (g := FXs) ent36 pfirst)
theorem sg_t {r u : W2} (h : SG2 r = SG2 u) : (SG2 r != SG2 u) = false := by rw [h]; exact bne_self_eq_false _
theorem sg_f {r u : W2} (h : ¬ SG2 r = SG2 u) : (SG2 r != SG2 u) = true := bne_iff_ne.2 h
theorem psigned_t (r u : W2) (h : SG2 r = SG2 u) : Pure Tryz.prog Gt 38 [EV2 r, I (SG2 u)] (EV2 r) := by
  intro w hw
  have hGF : BOk Gt (pl w) := gt_low.plain hw
  refine calls_of_X (G := Gt) Tryz.func38 rfl rfl (Hp (pl w) []) (hp_refl (pl w) trivial rides_true) (good_hp hGF) ?_
  refine xs_plain (E := EE []) ?_
  refine lx_boxr 2 hGF rfl rfl rfl ?_
  intro b2
  refine lx_allocr 4 hGF zv29 rfl rfl ?_
  intro b4
  refine lx_nil ?_
  refine x_seq ?_
  refine xs_plain (E := EE []) ?_
  refine lx_loada 2 rfl rfl Tryz.isAgg29 Tryz.sizeOf29 (by simp) rfl rfl ?_
  refine lx_call rfl rfl ent14 (e2sgn _) rfl rfl ?_
  refine lx_move rfl rfl rfl ?_
  refine lx_binB false rfl rfl (fun _ => rfl) (fun _ => bin_neq_i _ _ _) (sg_t h) rfl rfl ?_
  refine lx_nil ?_
  refine x_false rfl ?_
  refine x_skip ?_
  refine xs_plain (E := EE []) ?_
  refine lx_loada 2 rfl rfl Tryz.isAgg29 Tryz.sizeOf29 (by simp) rfl rfl ?_
  refine lx_storea 4 hGF rfl rfl rfl Tryz.sizeOf29 (by simp) (by simp) (one_u64 _) rfl ?_
  refine lx_nil ?_
  refine x_ret ?_
  repeat (first | refine kseq_ret ?_ | refine kblk_ret ?_)
  exact kret_own 4 rfl rfl rfl Tryz.isAgg29 Tryz.sizeOf29 (by simp) (fun w hw => ⟨rfl, hp_below hw⟩)
theorem psigned_f (r u : W2) (h : ¬ SG2 r = SG2 u) : Pure Tryz.prog Gt 38 [EV2 r, I (SG2 u)] (EV2 (ng2 r)) := by
  intro w hw
  have hGF : BOk Gt (pl w) := gt_low.plain hw
  refine calls_of_X (G := Gt) Tryz.func38 rfl rfl (Hp (pl w) []) (hp_refl (pl w) trivial rides_true) (good_hp hGF) ?_
  refine xs_plain (E := EE []) ?_
  refine lx_boxr 2 hGF rfl rfl rfl ?_
  intro b2
  refine lx_allocr 4 hGF zv29 rfl rfl ?_
  intro b4
  refine lx_nil ?_
  refine x_seq ?_
  refine xs_plain (E := EE []) ?_
  refine lx_loada 2 rfl rfl Tryz.isAgg29 Tryz.sizeOf29 (by simp) rfl rfl ?_
  refine lx_call rfl rfl ent14 (e2sgn _) rfl rfl ?_
  refine lx_move rfl rfl rfl ?_
  refine lx_binB true rfl rfl (fun _ => rfl) (fun _ => bin_neq_i _ _ _) (sg_f h) rfl rfl ?_
  refine lx_nil ?_
  refine x_true rfl ?_
  refine xs_plain (E := EE []) ?_
  refine lx_loada 2 rfl rfl Tryz.isAgg29 Tryz.sizeOf29 (by simp) rfl rfl ?_
  refine lx_call rfl rfl ent15 (e2neg _) rfl rfl ?_
  refine lx_storea 4 hGF rfl rfl rfl Tryz.sizeOf29 (by simp) (by simp) (one_u64 _) rfl ?_
  refine lx_nil ?_
  refine x_ret ?_
  repeat (first | refine kseq_ret ?_ | refine kblk_ret ?_)
  exact kret_own 4 rfl rfl rfl Tryz.isAgg29 Tryz.sizeOf29 (by simp) (fun w hw => ⟨rfl, hp_below hw⟩)
theorem psigned (r u : W2) : Pure Tryz.prog Gt 38 [EV2 r, I (SG2 u)] (EV2 (sgS r u)) := by
  by_cases h : SG2 r = SG2 u
  · rw [show sgS r u = r from if_pos h]; exact psigned_t r u h
  · rw [show sgS r u = ng2 r from if_neg h]; exact psigned_f r u h
theorem pscale (u : W2) : Pure Tryz.prog Gt 34 [EV2 (ml2 u u), EV2 OZ] (EV2 (zu2 u)) := by
  have h := e2mul (ml2 u u) OZ
  rw [sc_zu] at h
  exact h
theorem pfirstU (u : W2) : Pure Tryz.prog Gt 36 [EV2 (zu2 u)] (EV2 (x1O u)) := by
  have h := pfirst (zu2 u)
  rw [FXs_zu] at h
  exact h
theorem pswu_a (u r : W2) (hr : ml2 r r = gO (x1O u)) (hl : LG2 r = false) : Pure Tryz.prog Gt 8 [EV2 u] (.tuple #[EV2 (x1O u), EV2 (sgS r u)]) := by
  intro w hw
  have hGF : BOk Gt (pl w) := gt_low.plain hw
  refine calls_of_X (G := Gt) Tryz.func8 rfl rfl (Hp (pl w) []) (hp_refl (pl w) trivial rides_true) (good_hp hGF) ?_
  refine xs_plain (E := EE []) ?_
  refine lx_boxr 1 hGF rfl rfl rfl ?_
  intro b1
  refine lx_allocr 2 hGF zv29 rfl rfl ?_
  intro b2
  refine lx_allocr 3 hGF zv29 rfl rfl ?_
  intro b3
  refine lx_nil ?_
  refine xs_plain (E := EE []) ?_
  refine lx_loada 1 rfl rfl Tryz.isAgg29 Tryz.sizeOf29 (by simp) rfl rfl ?_
  refine lx_call rfl rfl ent33 (e2square _) rfl rfl ?_
  refine lx_call rfl rfl ent35 (pZ) rfl rfl ?_
  refine lx_call rfl rfl ent34 (pscale u) rfl rfl ?_
  refine lx_allocr 4 hGF zv29 rfl rfl ?_
  intro b4
  refine lx_storea 4 hGF rfl rfl rfl Tryz.sizeOf29 (by simp) (by simp) (one_u64 _) rfl ?_
  refine lx_nil ?_
  refine xs_plain (E := EE []) ?_
  refine lx_loada 4 rfl rfl Tryz.isAgg29 Tryz.sizeOf29 (by simp) rfl rfl ?_
  refine lx_call rfl rfl ent36 (pfirstU u) rfl rfl ?_
  refine lx_allocr 5 hGF zv29 rfl rfl ?_
  intro b5
  refine lx_storea 5 hGF rfl rfl rfl Tryz.sizeOf29 (by simp) (by simp) (one_u64 _) rfl ?_
  refine lx_nil ?_
  refine xs_plain (E := EE []) ?_
  refine lx_loada 5 rfl rfl Tryz.isAgg29 Tryz.sizeOf29 (by simp) rfl rfl ?_
  refine lx_call rfl rfl ent37 (psq _) rfl rfl ?_
  refine lx_call rfl rfl ent32 (e2sqrtY _ r hr hl) rfl rfl ?_
  refine lx_move rfl rfl rfl ?_
  refine lx_ext rfl rfl rfl rfl ?_
  refine lx_ext rfl rfl rfl rfl ?_
  refine lx_allocr 6 hGF zv29 rfl rfl ?_
  intro b6
  refine lx_storea 6 hGF rfl rfl rfl Tryz.sizeOf29 (by simp) (by simp) (one_u64 _) rfl ?_
  refine lx_assign rfl rfl rfl ?_
  refine lx_nil ?_
  refine x_seq ?_
  refine xs_plain (E := EE []) ?_
  refine lx_move rfl rfl rfl ?_
  refine lx_un rfl (fun _ => un_not _) rfl rfl ?_
  refine lx_nil ?_
  refine x_false rfl ?_
  refine x_skip ?_
  refine xs_drawn (E := EE []) mixed (by kernel_rfl) (by kernel_rfl) (by kernel_rfl) ?_
  refine lx_loada 5 rfl rfl Tryz.isAgg29 Tryz.sizeOf29 (by simp) rfl rfl ?_
  refine lx_loada 6 rfl rfl Tryz.isAgg29 Tryz.sizeOf29 (by simp) rfl rfl ?_
  refine lx_loada 1 rfl rfl Tryz.isAgg29 Tryz.sizeOf29 (by simp) rfl rfl ?_
  refine lx_call rfl rfl ent14 (e2sgn _) rfl rfl ?_
  refine lx_call rfl rfl ent38 (psigned r u) rfl rfl ?_
  refine lx_storea 2 hGF rfl rfl rfl Tryz.sizeOf29 (by simp) (by simp) (one_u64 _) rfl ?_
  refine lx_storea 3 hGF rfl rfl rfl Tryz.sizeOf29 (by simp) (by simp) (one_u64 _) rfl ?_
  refine lx_nil ?_
  refine x_ret ?_
  repeat (first | refine kseq_ret ?_ | refine kblk_ret ?_)
  exact kret_cc 2 3 rfl rfl rfl rfl rfl Tryz.isAgg29 Tryz.sizeOf29 (by simp) (by simp) (fun w hw => ⟨rfl, hp_below hw⟩)
theorem pswu_b (u r : W2) (hq : ¬ IsQ (nm2 (gO (x1O u)))) (hr : ml2 r r = gO (ml2 (zu2 u) (x1O u))) (hl : LG2 r = false) : Pure Tryz.prog Gt 8 [EV2 u] (.tuple #[EV2 (ml2 (zu2 u) (x1O u)), EV2 (sgS r u)]) := by
  intro w hw
  have hGF : BOk Gt (pl w) := gt_low.plain hw
  refine calls_of_X (G := Gt) Tryz.func8 rfl rfl (Hp (pl w) []) (hp_refl (pl w) trivial rides_true) (good_hp hGF) ?_
  refine xs_plain (E := EE []) ?_
  refine lx_boxr 1 hGF rfl rfl rfl ?_
  intro b1
  refine lx_allocr 2 hGF zv29 rfl rfl ?_
  intro b2
  refine lx_allocr 3 hGF zv29 rfl rfl ?_
  intro b3
  refine lx_nil ?_
  refine xs_plain (E := EE []) ?_
  refine lx_loada 1 rfl rfl Tryz.isAgg29 Tryz.sizeOf29 (by simp) rfl rfl ?_
  refine lx_call rfl rfl ent33 (e2square _) rfl rfl ?_
  refine lx_call rfl rfl ent35 (pZ) rfl rfl ?_
  refine lx_call rfl rfl ent34 (pscale u) rfl rfl ?_
  refine lx_allocr 4 hGF zv29 rfl rfl ?_
  intro b4
  refine lx_storea 4 hGF rfl rfl rfl Tryz.sizeOf29 (by simp) (by simp) (one_u64 _) rfl ?_
  refine lx_nil ?_
  refine xs_plain (E := EE []) ?_
  refine lx_loada 4 rfl rfl Tryz.isAgg29 Tryz.sizeOf29 (by simp) rfl rfl ?_
  refine lx_call rfl rfl ent36 (pfirstU u) rfl rfl ?_
  refine lx_allocr 5 hGF zv29 rfl rfl ?_
  intro b5
  refine lx_storea 5 hGF rfl rfl rfl Tryz.sizeOf29 (by simp) (by simp) (one_u64 _) rfl ?_
  refine lx_nil ?_
  refine xs_plain (E := EE []) ?_
  refine lx_loada 5 rfl rfl Tryz.isAgg29 Tryz.sizeOf29 (by simp) rfl rfl ?_
  refine lx_call rfl rfl ent37 (psq _) rfl rfl ?_
  refine lx_call rfl rfl ent32 (e2sqrtN _ hq) rfl rfl ?_
  refine lx_move rfl rfl rfl ?_
  refine lx_ext rfl rfl rfl rfl ?_
  refine lx_ext rfl rfl rfl rfl ?_
  refine lx_allocr 6 hGF zv29 rfl rfl ?_
  intro b6
  refine lx_storea 6 hGF rfl rfl rfl Tryz.sizeOf29 (by simp) (by simp) (one_u64 _) rfl ?_
  refine lx_assign rfl rfl rfl ?_
  refine lx_nil ?_
  refine x_seq ?_
  refine xs_plain (E := EE []) ?_
  refine lx_move rfl rfl rfl ?_
  refine lx_un rfl (fun _ => un_not _) rfl rfl ?_
  refine lx_nil ?_
  refine x_true rfl ?_
  refine xs_plain (E := EE []) ?_
  refine lx_loada 4 rfl rfl Tryz.isAgg29 Tryz.sizeOf29 (by simp) rfl rfl ?_
  refine lx_loada 5 rfl rfl Tryz.isAgg29 Tryz.sizeOf29 (by simp) rfl rfl ?_
  refine lx_call rfl rfl ent34 (e2mul (zu2 u) (x1O u)) rfl rfl ?_
  refine lx_storea 5 hGF rfl rfl rfl Tryz.sizeOf29 (by simp) (by simp) (one_u64 _) rfl ?_
  refine lx_nil ?_
  refine x_plain (E := EE []) ?_
  refine lx_loada 5 rfl rfl Tryz.isAgg29 Tryz.sizeOf29 (by simp) rfl rfl ?_
  refine lx_call rfl rfl ent37 (psq _) rfl rfl ?_
  refine lx_call rfl rfl ent32 (e2sqrtY _ r hr hl) rfl rfl ?_
  refine lx_move rfl rfl rfl ?_
  refine lx_ext rfl rfl rfl rfl ?_
  refine lx_ext rfl rfl rfl rfl ?_
  refine lx_storea 6 hGF rfl rfl rfl Tryz.sizeOf29 (by simp) (by simp) (one_u64 _) rfl ?_
  refine lx_nil ?_
  refine xs_drawn (E := EE []) mixed (by kernel_rfl) (by kernel_rfl) (by kernel_rfl) ?_
  refine lx_loada 5 rfl rfl Tryz.isAgg29 Tryz.sizeOf29 (by simp) rfl rfl ?_
  refine lx_loada 6 rfl rfl Tryz.isAgg29 Tryz.sizeOf29 (by simp) rfl rfl ?_
  refine lx_loada 1 rfl rfl Tryz.isAgg29 Tryz.sizeOf29 (by simp) rfl rfl ?_
  refine lx_call rfl rfl ent14 (e2sgn _) rfl rfl ?_
  refine lx_call rfl rfl ent38 (psigned r u) rfl rfl ?_
  refine lx_storea 2 hGF rfl rfl rfl Tryz.sizeOf29 (by simp) (by simp) (one_u64 _) rfl ?_
  refine lx_storea 3 hGF rfl rfl rfl Tryz.sizeOf29 (by simp) (by simp) (one_u64 _) rfl ?_
  refine lx_nil ?_
  refine x_ret ?_
  repeat (first | refine kseq_ret ?_ | refine kblk_ret ?_)
  exact kret_cc 2 3 rfl rfl rfl rfl rfl Tryz.isAgg29 Tryz.sizeOf29 (by simp) (by simp) (fun w hw => ⟨rfl, hp_below hw⟩)
theorem pswu {u x r : W2} (h : SwR u x r) : Pure Tryz.prog Gt 8 [EV2 u] (.tuple #[EV2 x, EV2 (sgS r u)]) := by
  obtain ⟨hr, hl, rfl | ⟨hq, rfl⟩⟩ := h
  · exact pswu_a u r hr hl
  · exact pswu_b u r hq hr hl
end Go.Proofs.YtdkmalaffcfoeaaGreatDoor

namespace Go.Proofs.YtdkmalaffcfoeaaGreatDoor
open Go.RowKit
set_option maxRecDepth 100000
set_option maxHeartbeats 1000000
attribute [local simp] fe_len nm_len AS_len SS_len MONT_len RM_len FRs_len BYs_len by48_len PLl TWOl ONEl N1l IVPl HFPl RTPl FL_len SP_len fe2_len SP2_len FM_len GL_len

theorem ra  : Pure Tryz.prog Gt 43 [] (EV2 OA) := pE TO68 Tryz.func43 [] (.inl (.inl [OA.1, OA.2])) (let t0 := sm2 (0#64) (240#64); (.inl (.inl [t0.1, t0.2]), [])) [] (by kernel_rfl) ok_nil rfl
def TO69 : Tb Tryz.prog Gt := TO68.add (wq2rd (g := OA) ent43 ra)
theorem rb14  : Pure Tryz.prog Gt 42 [] (EV2 OB) := pE TO69 Tryz.func42 [] (.inl (.inl [OB.1, OB.2])) (let t0 := sm2 (1012#64) (1012#64); (.inl (.inl [t0.1, t0.2]), [])) [] (by kernel_rfl) ok_nil rfl
def TO70 : Tb Tryz.prog Gt := TO69.add (wq2rd (g := OB) ent42 rb14)
theorem rz  : Pure Tryz.prog Gt 39 [] (EV2 OZ) := pE TO70 Tryz.func39 [] (.inl (.inl [OZ.1, OZ.2])) (let t0 := sm2 (2#64) (1#64); let t1 := ng2 (t0.1, t0.2); (.inl (.inl [t1.1, t1.2]), [])) [] (by kernel_rfl) ok_nil rfl
def TO71 : Tb Tryz.prog Gt := TO70.add (wq2rd (g := OZ) ent39 rz)
theorem rG (x : W2) : Pure Tryz.prog Gt 12 [EV2 x] (EV2 (gO x)) := pE TO71 Tryz.func12 [.inl [x.1, x.2]] (.inl (.inl [(gO x).1, (gO x).2])) (let t0 := ml2 x x; let t1 := ml2 (t0.1, t0.2) x; let t2 := OA; let t3 := ml2 (t2.1, t2.2) x; let t4 := ad2 (t1.1, t1.2) (t3.1, t3.2); let t5 := OB; let t6 := ad2 (t4.1, t4.2) (t5.1, t5.2); (.inl (.inl [t6.1, t6.2]), [])) [] (by kernel_rfl) ok_nil rfl
theorem rswu_a (u r : W2) (hr : ml2 r r = gO (x1O u)) (hl : LG2 r = false) : Pure Tryz.prog Gt 9 [EV2 u] (.tuple #[EV2 (x1O u), EV2 (sgS r u)]) := by
  intro w hw
  have hGF : BOk Gt (pl w) := gt_low.plain hw
  refine calls_of_X (G := Gt) Tryz.func9 rfl rfl (Hp (pl w) []) (hp_refl (pl w) trivial rides_true) (good_hp hGF) ?_
  refine xs_plain (E := EE []) ?_
  refine lx_boxr 1 hGF rfl rfl rfl ?_
  intro b1
  refine lx_allocr 2 hGF zv37 rfl rfl ?_
  intro b2
  refine lx_allocr 3 hGF zv37 rfl rfl ?_
  intro b3
  refine lx_nil ?_
  refine xs_drawA (E := EE [2999999]) [0, 1, 2, 3, 4] [⟨5, 4, 37, (fe 0 ++ fe 0).map U64⟩] [6] mixed rfl (by kernel_rfl) (by kernel_rfl) (by kernel_rfl) (by kernel_rfl) (by kernel_rfl) (by kernel_rfl) (by decide) (by intro x hx; simp only [List.mem_cons, List.not_mem_nil, or_false] at hx; subst hx; exact isAlloc_mk rfl zv37 rfl) ?_
  refine lx_call rfl rfl ent39 (rz) rfl rfl ?_
  refine lx_loada 1 rfl rfl Tryz.isAgg37 Tryz.sizeOf37 (by simp) rfl rfl ?_
  refine lx_call rfl rfl ent11 (r5mul _ _) rfl rfl ?_
  refine lx_loada 1 rfl rfl Tryz.isAgg37 Tryz.sizeOf37 (by simp) rfl rfl ?_
  refine lx_call rfl rfl ent11 (show Pure Tryz.prog Gt 11 [EV2 (ml2 OZ u), EV2 u] (EV2 (zu2 u)) from r5mul (ml2 OZ u) u) rfl rfl ?_
  refine lx_nil ?_
  refine ⟨_, _, rfl, hGF, by intro x hx; simp only [List.mem_cons, List.not_mem_nil, or_false] at hx; subst hx; rfl, by intro x hx; simp only [List.mem_cons, List.not_mem_nil, or_false] at hx; subst hx; rfl, fun adr1 => ?_⟩
  refine lx_storea 4 hGF rfl rfl rfl Tryz.sizeOf37 (by simp) (by simp) (one_u64 _) rfl ?_
  refine lx_nil ?_
  refine xs_drawA (E := EE [2999999]) [0, 1, 2, 3, 4] [⟨5, 5, 37, (fe 0 ++ fe 0).map U64⟩] [6] mixed rfl (by kernel_rfl) (by kernel_rfl) (by kernel_rfl) (by kernel_rfl) (by kernel_rfl) (by kernel_rfl) (by decide) (by intro x hx; simp only [List.mem_cons, List.not_mem_nil, or_false] at hx; subst hx; exact isAlloc_mk rfl zv37 rfl) ?_
  refine lx_loada 4 rfl rfl Tryz.isAgg37 Tryz.sizeOf37 (by simp) rfl rfl ?_
  refine lx_loada 4 rfl rfl Tryz.isAgg37 Tryz.sizeOf37 (by simp) rfl rfl ?_
  refine lx_call rfl rfl ent11 (r5mul _ _) rfl rfl ?_
  refine lx_loada 4 rfl rfl Tryz.isAgg37 Tryz.sizeOf37 (by simp) rfl rfl ?_
  refine lx_call rfl rfl ent40 (show Pure Tryz.prog Gt 40 [EV2 (ml2 (zu2 u) (zu2 u)), EV2 (zu2 u)] (EV2 (tu2 u)) from r5add _ _) rfl rfl ?_
  refine lx_nil ?_
  refine ⟨_, _, rfl, hGF, by intro x hx; simp only [List.mem_cons, List.not_mem_nil, or_false] at hx; subst hx; rfl, by intro x hx; simp only [List.mem_cons, List.not_mem_nil, or_false] at hx; subst hx; rfl, fun adr2 => ?_⟩
  refine lx_storea 5 hGF rfl rfl rfl Tryz.sizeOf37 (by simp) (by simp) (one_u64 _) rfl ?_
  refine lx_nil ?_
  refine xs_plain (E := EE []) ?_
  refine lx_allocr 6 hGF zv37 rfl rfl ?_
  intro b6
  refine lx_nil ?_
  refine x_join (ι := Unit) (fun _ => [(1, .pointer (some ⟨b1, 0, none⟩)), (2, .pointer (some ⟨b2, 0, none⟩)), (3, .pointer (some ⟨b3, 0, none⟩)), (4, .pointer (some ⟨(adr1 4), 0, none⟩)), (6, .pointer (some ⟨b6, 0, none⟩))]) (fun _ => [(1, b1, (fe (u).1 ++ fe (u).2).map U64, 37), (2, b2, (fe 0 ++ fe 0).map U64, 37), (3, b3, (fe 0 ++ fe 0).map U64, 37), (4, adr1 4, (fe (zu2 u).1 ++ fe (zu2 u).2).map U64, 37), (6, b6, (fe (x1O u).1 ++ fe (x1O u).2).map U64, 37)]) hGF ?_ ?_
  · skip
    refine xs_plain (E := EE []) ?_
    refine lx_loada 5 rfl rfl Tryz.isAgg37 Tryz.sizeOf37 (by simp) rfl rfl ?_
    refine lx_call rfl rfl ent41 (r5isZero _) rfl rfl ?_
    refine lx_nil ?_
    refine x_if rfl (fun hc => ?_) (fun hc => ?_)
    · have ht : tu2 u = ze2 := of_decide_eq_true hc
      refine x_plain (E := EE []) ?_
      refine lx_call rfl rfl ent42 (rb14) rfl rfl ?_
      refine lx_call rfl rfl ent39 (rz) rfl rfl ?_
      refine lx_call rfl rfl ent43 (ra) rfl rfl ?_
      refine lx_call rfl rfl ent11 (r5mul _ _) rfl rfl ?_
      refine lx_call rfl rfl ent44 (r5inv _) rfl rfl ?_
      refine lx_call rfl rfl ent11 (r5mul _ _) rfl rfl ?_
      refine lx_storea 6 hGF rfl rfl rfl Tryz.sizeOf37 (by simp) (by simp) (one_u64 _) rfl ?_
      refine lx_nil ?_
      refine kseq_n ?_
      exact ⟨rfl, (), _, rfl, ⟨rfl, rfl, rfl, rfl, rfl, trivial⟩, ⟨rfl, rfl, rfl, rfl, by rw [show x1O u = _ from if_pos ht] <;> rfl, trivial⟩⟩
    · have ht : ¬ tu2 u = ze2 := of_decide_eq_false hc
      refine x_drawn (E := EE []) mixed (by kernel_rfl) (by kernel_rfl) (by kernel_rfl) ?_
      refine lx_call rfl rfl ent42 (rb14) rfl rfl ?_
      refine lx_call rfl rfl ent45 (r5neg _) rfl rfl ?_
      refine lx_call rfl rfl ent43 (ra) rfl rfl ?_
      refine lx_call rfl rfl ent44 (r5inv _) rfl rfl ?_
      refine lx_call rfl rfl ent11 (r5mul _ _) rfl rfl ?_
      refine lx_call rfl rfl ent28 (r5one) rfl rfl ?_
      refine lx_loada 5 rfl rfl Tryz.isAgg37 Tryz.sizeOf37 (by simp) rfl rfl ?_
      refine lx_call rfl rfl ent44 (r5inv _) rfl rfl ?_
      refine lx_call rfl rfl ent40 (r5add _ _) rfl rfl ?_
      refine lx_call rfl rfl ent11 (r5mul _ _) rfl rfl ?_
      refine lx_storea 6 hGF rfl rfl rfl Tryz.sizeOf37 (by simp) (by simp) (one_u64 _) rfl ?_
      refine lx_nil ?_
      refine kseq_n ?_
      exact ⟨rfl, (), _, rfl, ⟨rfl, rfl, rfl, rfl, rfl, trivial⟩, ⟨rfl, rfl, rfl, rfl, by rw [show x1O u = _ from if_neg ht] <;> rfl, trivial⟩⟩
  · intro _
    refine xs_plain (E := EE []) ?_
    refine lx_loada 6 rfl rfl Tryz.isAgg37 Tryz.sizeOf37 (by simp) rfl rfl ?_
    refine lx_call rfl rfl ent12 (rG _) rfl rfl ?_
    refine lx_call rfl rfl ent46 (r5sqrtY _ r hr hl) rfl rfl ?_
    refine lx_move rfl rfl rfl ?_
    refine lx_ext rfl rfl rfl rfl ?_
    refine lx_ext rfl rfl rfl rfl ?_
    refine lx_allocr 7 hGF zv37 rfl rfl ?_
    intro b7
    refine lx_storea 7 hGF rfl rfl rfl Tryz.sizeOf37 (by simp) (by simp) (one_u64 _) rfl ?_
    refine lx_assign rfl rfl rfl ?_
    refine lx_nil ?_
    refine x_seq ?_
    refine xs_plain (E := EE []) ?_
    refine lx_move rfl rfl rfl ?_
    refine lx_un rfl (fun _ => un_not _) rfl rfl ?_
    refine lx_nil ?_
    refine x_false rfl ?_
    refine x_skip ?_
    refine x_seq ?_
    refine xs_drawn (E := EE []) mixed (by kernel_rfl) (by kernel_rfl) (by kernel_rfl) ?_
    refine lx_loada 7 rfl rfl Tryz.isAgg37 Tryz.sizeOf37 (by simp) rfl rfl ?_
    refine lx_call rfl rfl ent47 (r5sgn _) rfl rfl ?_
    refine lx_loada 1 rfl rfl Tryz.isAgg37 Tryz.sizeOf37 (by simp) rfl rfl ?_
    refine lx_call rfl rfl ent47 (r5sgn _) rfl rfl ?_
    refine lx_bin rfl rfl (fun _ => rfl) (fun _ => bin_neq_i _ _ _) rfl rfl ?_
    refine lx_nil ?_
    refine x_if rfl (fun hc => ?_) (fun hc => ?_)
    · have hs : ¬ SG2 r = SG2 u := bne_iff_ne.1 hc
      refine x_plain (E := EE []) ?_
      refine lx_loada 7 rfl rfl Tryz.isAgg37 Tryz.sizeOf37 (by simp) rfl rfl ?_
      refine lx_call rfl rfl ent45 (r5neg _) rfl rfl ?_
      refine lx_storea 7 hGF rfl rfl rfl Tryz.sizeOf37 (by simp) (by simp) (one_u64 _) rfl ?_
      refine lx_nil ?_
      refine xs_drawK (E := EE []) (fun X => X = Hp (pl w) [(7, b7, (fe (ng2 r).1 ++ fe (ng2 r).2).map U64, 37)]) (mkB [2]) (rkB [62]) [0, 1, 2, 3] mixed rfl (by kernel_rfl) (by kernel_rfl) (by kernel_rfl) ?_
      refine lxk_s rfl rfl ?_
      refine lx_loada 6 rfl rfl Tryz.isAgg37 Tryz.sizeOf37 (by simp) rfl rfl ?_
      refine lx_nil ?_
      refine lxk_q (X := Hp (pl w) [(7, b7, (fe (ng2 r).1 ++ fe (ng2 r).2).map U64, 37)]) rfl (hp_sub rides_true ⟨rfl, trivial⟩) (fun _ => rfl) ?_
      refine lx_loada 7 rfl rfl Tryz.isAgg37 Tryz.sizeOf37 (by simp) rfl rfl ?_
      refine lx_nil ?_
      refine lxk_e rfl ?_
      refine lx_storea 2 hGF rfl rfl rfl Tryz.sizeOf37 (by simp) (by simp) (one_u64 _) rfl ?_
      refine lx_nil ?_
      refine ⟨fun _ X hX _ => by subst hX; exact hp_sub rides_true ⟨rfl, trivial⟩, ?_⟩
      refine lxk_e rfl ?_
      refine lx_storea 3 hGF rfl rfl rfl Tryz.sizeOf37 (by simp) (by simp) (one_u64 _) rfl ?_
      refine lx_nil ?_
      refine ⟨fun h => (by cases h), ?_⟩
      refine lxk_nil ?_
      refine x_ret ?_
      repeat (first | refine kseq_ret ?_ | refine kblk_ret ?_)
      exact kret_cc 2 3 rfl rfl rfl rfl rfl Tryz.isAgg37 Tryz.sizeOf37 (by simp) (by simp) (fun w hw => ⟨by rw [show sgS r u = _ from if_neg hs], hp_below hw⟩)
    · have hs : SG2 r = SG2 u := Decidable.byContradiction fun e => (by rw [bne_iff_ne.2 e] at hc; cases hc)
      refine x_skip ?_
      refine xs_drawK (E := EE []) (fun X => X = Hp (pl w) [(7, b7, (fe (r).1 ++ fe (r).2).map U64, 37)]) (mkB [2]) (rkB [62]) [0, 1, 2, 3] mixed rfl (by kernel_rfl) (by kernel_rfl) (by kernel_rfl) ?_
      refine lxk_s rfl rfl ?_
      refine lx_loada 6 rfl rfl Tryz.isAgg37 Tryz.sizeOf37 (by simp) rfl rfl ?_
      refine lx_nil ?_
      refine lxk_q (X := Hp (pl w) [(7, b7, (fe (r).1 ++ fe (r).2).map U64, 37)]) rfl (hp_sub rides_true ⟨rfl, trivial⟩) (fun _ => rfl) ?_
      refine lx_loada 7 rfl rfl Tryz.isAgg37 Tryz.sizeOf37 (by simp) rfl rfl ?_
      refine lx_nil ?_
      refine lxk_e rfl ?_
      refine lx_storea 2 hGF rfl rfl rfl Tryz.sizeOf37 (by simp) (by simp) (one_u64 _) rfl ?_
      refine lx_nil ?_
      refine ⟨fun _ X hX _ => by subst hX; exact hp_sub rides_true ⟨rfl, trivial⟩, ?_⟩
      refine lxk_e rfl ?_
      refine lx_storea 3 hGF rfl rfl rfl Tryz.sizeOf37 (by simp) (by simp) (one_u64 _) rfl ?_
      refine lx_nil ?_
      refine ⟨fun h => (by cases h), ?_⟩
      refine lxk_nil ?_
      refine x_ret ?_
      repeat (first | refine kseq_ret ?_ | refine kblk_ret ?_)
      exact kret_cc 2 3 rfl rfl rfl rfl rfl Tryz.isAgg37 Tryz.sizeOf37 (by simp) (by simp) (fun w hw => ⟨by rw [show sgS r u = _ from if_pos hs], hp_below hw⟩)
theorem rswu_b (u r : W2) (hq : ¬ IsQ (nm2 (gO (x1O u)))) (hr : ml2 r r = gO (ml2 (zu2 u) (x1O u))) (hl : LG2 r = false) : Pure Tryz.prog Gt 9 [EV2 u] (.tuple #[EV2 (ml2 (zu2 u) (x1O u)), EV2 (sgS r u)]) := by
  intro w hw
  have hGF : BOk Gt (pl w) := gt_low.plain hw
  refine calls_of_X (G := Gt) Tryz.func9 rfl rfl (Hp (pl w) []) (hp_refl (pl w) trivial rides_true) (good_hp hGF) ?_
  refine xs_plain (E := EE []) ?_
  refine lx_boxr 1 hGF rfl rfl rfl ?_
  intro b1
  refine lx_allocr 2 hGF zv37 rfl rfl ?_
  intro b2
  refine lx_allocr 3 hGF zv37 rfl rfl ?_
  intro b3
  refine lx_nil ?_
  refine xs_drawA (E := EE [2999999]) [0, 1, 2, 3, 4] [⟨5, 4, 37, (fe 0 ++ fe 0).map U64⟩] [6] mixed rfl (by kernel_rfl) (by kernel_rfl) (by kernel_rfl) (by kernel_rfl) (by kernel_rfl) (by kernel_rfl) (by decide) (by intro x hx; simp only [List.mem_cons, List.not_mem_nil, or_false] at hx; subst hx; exact isAlloc_mk rfl zv37 rfl) ?_
  refine lx_call rfl rfl ent39 (rz) rfl rfl ?_
  refine lx_loada 1 rfl rfl Tryz.isAgg37 Tryz.sizeOf37 (by simp) rfl rfl ?_
  refine lx_call rfl rfl ent11 (r5mul _ _) rfl rfl ?_
  refine lx_loada 1 rfl rfl Tryz.isAgg37 Tryz.sizeOf37 (by simp) rfl rfl ?_
  refine lx_call rfl rfl ent11 (show Pure Tryz.prog Gt 11 [EV2 (ml2 OZ u), EV2 u] (EV2 (zu2 u)) from r5mul (ml2 OZ u) u) rfl rfl ?_
  refine lx_nil ?_
  refine ⟨_, _, rfl, hGF, by intro x hx; simp only [List.mem_cons, List.not_mem_nil, or_false] at hx; subst hx; rfl, by intro x hx; simp only [List.mem_cons, List.not_mem_nil, or_false] at hx; subst hx; rfl, fun adr1 => ?_⟩
  refine lx_storea 4 hGF rfl rfl rfl Tryz.sizeOf37 (by simp) (by simp) (one_u64 _) rfl ?_
  refine lx_nil ?_
  refine xs_drawA (E := EE [2999999]) [0, 1, 2, 3, 4] [⟨5, 5, 37, (fe 0 ++ fe 0).map U64⟩] [6] mixed rfl (by kernel_rfl) (by kernel_rfl) (by kernel_rfl) (by kernel_rfl) (by kernel_rfl) (by kernel_rfl) (by decide) (by intro x hx; simp only [List.mem_cons, List.not_mem_nil, or_false] at hx; subst hx; exact isAlloc_mk rfl zv37 rfl) ?_
  refine lx_loada 4 rfl rfl Tryz.isAgg37 Tryz.sizeOf37 (by simp) rfl rfl ?_
  refine lx_loada 4 rfl rfl Tryz.isAgg37 Tryz.sizeOf37 (by simp) rfl rfl ?_
  refine lx_call rfl rfl ent11 (r5mul _ _) rfl rfl ?_
  refine lx_loada 4 rfl rfl Tryz.isAgg37 Tryz.sizeOf37 (by simp) rfl rfl ?_
  refine lx_call rfl rfl ent40 (show Pure Tryz.prog Gt 40 [EV2 (ml2 (zu2 u) (zu2 u)), EV2 (zu2 u)] (EV2 (tu2 u)) from r5add _ _) rfl rfl ?_
  refine lx_nil ?_
  refine ⟨_, _, rfl, hGF, by intro x hx; simp only [List.mem_cons, List.not_mem_nil, or_false] at hx; subst hx; rfl, by intro x hx; simp only [List.mem_cons, List.not_mem_nil, or_false] at hx; subst hx; rfl, fun adr2 => ?_⟩
  refine lx_storea 5 hGF rfl rfl rfl Tryz.sizeOf37 (by simp) (by simp) (one_u64 _) rfl ?_
  refine lx_nil ?_
  refine xs_plain (E := EE []) ?_
  refine lx_allocr 6 hGF zv37 rfl rfl ?_
  intro b6
  refine lx_nil ?_
  refine x_join (ι := Unit) (fun _ => [(1, .pointer (some ⟨b1, 0, none⟩)), (2, .pointer (some ⟨b2, 0, none⟩)), (3, .pointer (some ⟨b3, 0, none⟩)), (4, .pointer (some ⟨(adr1 4), 0, none⟩)), (6, .pointer (some ⟨b6, 0, none⟩))]) (fun _ => [(1, b1, (fe (u).1 ++ fe (u).2).map U64, 37), (2, b2, (fe 0 ++ fe 0).map U64, 37), (3, b3, (fe 0 ++ fe 0).map U64, 37), (4, adr1 4, (fe (zu2 u).1 ++ fe (zu2 u).2).map U64, 37), (6, b6, (fe (x1O u).1 ++ fe (x1O u).2).map U64, 37)]) hGF ?_ ?_
  · skip
    refine xs_plain (E := EE []) ?_
    refine lx_loada 5 rfl rfl Tryz.isAgg37 Tryz.sizeOf37 (by simp) rfl rfl ?_
    refine lx_call rfl rfl ent41 (r5isZero _) rfl rfl ?_
    refine lx_nil ?_
    refine x_if rfl (fun hc => ?_) (fun hc => ?_)
    · have ht : tu2 u = ze2 := of_decide_eq_true hc
      refine x_plain (E := EE []) ?_
      refine lx_call rfl rfl ent42 (rb14) rfl rfl ?_
      refine lx_call rfl rfl ent39 (rz) rfl rfl ?_
      refine lx_call rfl rfl ent43 (ra) rfl rfl ?_
      refine lx_call rfl rfl ent11 (r5mul _ _) rfl rfl ?_
      refine lx_call rfl rfl ent44 (r5inv _) rfl rfl ?_
      refine lx_call rfl rfl ent11 (r5mul _ _) rfl rfl ?_
      refine lx_storea 6 hGF rfl rfl rfl Tryz.sizeOf37 (by simp) (by simp) (one_u64 _) rfl ?_
      refine lx_nil ?_
      refine kseq_n ?_
      exact ⟨rfl, (), _, rfl, ⟨rfl, rfl, rfl, rfl, rfl, trivial⟩, ⟨rfl, rfl, rfl, rfl, by rw [show x1O u = _ from if_pos ht] <;> rfl, trivial⟩⟩
    · have ht : ¬ tu2 u = ze2 := of_decide_eq_false hc
      refine x_drawn (E := EE []) mixed (by kernel_rfl) (by kernel_rfl) (by kernel_rfl) ?_
      refine lx_call rfl rfl ent42 (rb14) rfl rfl ?_
      refine lx_call rfl rfl ent45 (r5neg _) rfl rfl ?_
      refine lx_call rfl rfl ent43 (ra) rfl rfl ?_
      refine lx_call rfl rfl ent44 (r5inv _) rfl rfl ?_
      refine lx_call rfl rfl ent11 (r5mul _ _) rfl rfl ?_
      refine lx_call rfl rfl ent28 (r5one) rfl rfl ?_
      refine lx_loada 5 rfl rfl Tryz.isAgg37 Tryz.sizeOf37 (by simp) rfl rfl ?_
      refine lx_call rfl rfl ent44 (r5inv _) rfl rfl ?_
      refine lx_call rfl rfl ent40 (r5add _ _) rfl rfl ?_
      refine lx_call rfl rfl ent11 (r5mul _ _) rfl rfl ?_
      refine lx_storea 6 hGF rfl rfl rfl Tryz.sizeOf37 (by simp) (by simp) (one_u64 _) rfl ?_
      refine lx_nil ?_
      refine kseq_n ?_
      exact ⟨rfl, (), _, rfl, ⟨rfl, rfl, rfl, rfl, rfl, trivial⟩, ⟨rfl, rfl, rfl, rfl, by rw [show x1O u = _ from if_neg ht] <;> rfl, trivial⟩⟩
  · intro _
    refine xs_plain (E := EE []) ?_
    refine lx_loada 6 rfl rfl Tryz.isAgg37 Tryz.sizeOf37 (by simp) rfl rfl ?_
    refine lx_call rfl rfl ent12 (rG _) rfl rfl ?_
    refine lx_call rfl rfl ent46 (r5sqrtN _ hq) rfl rfl ?_
    refine lx_move rfl rfl rfl ?_
    refine lx_ext rfl rfl rfl rfl ?_
    refine lx_ext rfl rfl rfl rfl ?_
    refine lx_allocr 7 hGF zv37 rfl rfl ?_
    intro b7
    refine lx_storea 7 hGF rfl rfl rfl Tryz.sizeOf37 (by simp) (by simp) (one_u64 _) rfl ?_
    refine lx_assign rfl rfl rfl ?_
    refine lx_nil ?_
    refine x_seq ?_
    refine xs_plain (E := EE []) ?_
    refine lx_move rfl rfl rfl ?_
    refine lx_un rfl (fun _ => un_not _) rfl rfl ?_
    refine lx_nil ?_
    refine x_true rfl ?_
    refine xs_plain (E := EE []) ?_
    refine lx_loada 4 rfl rfl Tryz.isAgg37 Tryz.sizeOf37 (by simp) rfl rfl ?_
    refine lx_loada 6 rfl rfl Tryz.isAgg37 Tryz.sizeOf37 (by simp) rfl rfl ?_
    refine lx_call rfl rfl ent11 (r5mul _ _) rfl rfl ?_
    refine lx_storea 6 hGF rfl rfl rfl Tryz.sizeOf37 (by simp) (by simp) (one_u64 _) rfl ?_
    refine lx_nil ?_
    refine x_plain (E := EE []) ?_
    refine lx_loada 6 rfl rfl Tryz.isAgg37 Tryz.sizeOf37 (by simp) rfl rfl ?_
    refine lx_call rfl rfl ent12 (rG _) rfl rfl ?_
    refine lx_call rfl rfl ent46 (r5sqrtY _ r hr hl) rfl rfl ?_
    refine lx_move rfl rfl rfl ?_
    refine lx_ext rfl rfl rfl rfl ?_
    refine lx_ext rfl rfl rfl rfl ?_
    refine lx_storea 7 hGF rfl rfl rfl Tryz.sizeOf37 (by simp) (by simp) (one_u64 _) rfl ?_
    refine lx_nil ?_
    refine x_seq ?_
    refine xs_drawn (E := EE []) mixed (by kernel_rfl) (by kernel_rfl) (by kernel_rfl) ?_
    refine lx_loada 7 rfl rfl Tryz.isAgg37 Tryz.sizeOf37 (by simp) rfl rfl ?_
    refine lx_call rfl rfl ent47 (r5sgn _) rfl rfl ?_
    refine lx_loada 1 rfl rfl Tryz.isAgg37 Tryz.sizeOf37 (by simp) rfl rfl ?_
    refine lx_call rfl rfl ent47 (r5sgn _) rfl rfl ?_
    refine lx_bin rfl rfl (fun _ => rfl) (fun _ => bin_neq_i _ _ _) rfl rfl ?_
    refine lx_nil ?_
    refine x_if rfl (fun hc => ?_) (fun hc => ?_)
    · have hs : ¬ SG2 r = SG2 u := bne_iff_ne.1 hc
      refine x_plain (E := EE []) ?_
      refine lx_loada 7 rfl rfl Tryz.isAgg37 Tryz.sizeOf37 (by simp) rfl rfl ?_
      refine lx_call rfl rfl ent45 (r5neg _) rfl rfl ?_
      refine lx_storea 7 hGF rfl rfl rfl Tryz.sizeOf37 (by simp) (by simp) (one_u64 _) rfl ?_
      refine lx_nil ?_
      refine xs_drawK (E := EE []) (fun X => X = Hp (pl w) [(7, b7, (fe (ng2 r).1 ++ fe (ng2 r).2).map U64, 37)]) (mkB [2]) (rkB [62]) [0, 1, 2, 3] mixed rfl (by kernel_rfl) (by kernel_rfl) (by kernel_rfl) ?_
      refine lxk_s rfl rfl ?_
      refine lx_loada 6 rfl rfl Tryz.isAgg37 Tryz.sizeOf37 (by simp) rfl rfl ?_
      refine lx_nil ?_
      refine lxk_q (X := Hp (pl w) [(7, b7, (fe (ng2 r).1 ++ fe (ng2 r).2).map U64, 37)]) rfl (hp_sub rides_true ⟨rfl, trivial⟩) (fun _ => rfl) ?_
      refine lx_loada 7 rfl rfl Tryz.isAgg37 Tryz.sizeOf37 (by simp) rfl rfl ?_
      refine lx_nil ?_
      refine lxk_e rfl ?_
      refine lx_storea 2 hGF rfl rfl rfl Tryz.sizeOf37 (by simp) (by simp) (one_u64 _) rfl ?_
      refine lx_nil ?_
      refine ⟨fun _ X hX _ => by subst hX; exact hp_sub rides_true ⟨rfl, trivial⟩, ?_⟩
      refine lxk_e rfl ?_
      refine lx_storea 3 hGF rfl rfl rfl Tryz.sizeOf37 (by simp) (by simp) (one_u64 _) rfl ?_
      refine lx_nil ?_
      refine ⟨fun h => (by cases h), ?_⟩
      refine lxk_nil ?_
      refine x_ret ?_
      repeat (first | refine kseq_ret ?_ | refine kblk_ret ?_)
      exact kret_cc 2 3 rfl rfl rfl rfl rfl Tryz.isAgg37 Tryz.sizeOf37 (by simp) (by simp) (fun w hw => ⟨by rw [show sgS r u = _ from if_neg hs], hp_below hw⟩)
    · have hs : SG2 r = SG2 u := Decidable.byContradiction fun e => (by rw [bne_iff_ne.2 e] at hc; cases hc)
      refine x_skip ?_
      refine xs_drawK (E := EE []) (fun X => X = Hp (pl w) [(7, b7, (fe (r).1 ++ fe (r).2).map U64, 37)]) (mkB [2]) (rkB [62]) [0, 1, 2, 3] mixed rfl (by kernel_rfl) (by kernel_rfl) (by kernel_rfl) ?_
      refine lxk_s rfl rfl ?_
      refine lx_loada 6 rfl rfl Tryz.isAgg37 Tryz.sizeOf37 (by simp) rfl rfl ?_
      refine lx_nil ?_
      refine lxk_q (X := Hp (pl w) [(7, b7, (fe (r).1 ++ fe (r).2).map U64, 37)]) rfl (hp_sub rides_true ⟨rfl, trivial⟩) (fun _ => rfl) ?_
      refine lx_loada 7 rfl rfl Tryz.isAgg37 Tryz.sizeOf37 (by simp) rfl rfl ?_
      refine lx_nil ?_
      refine lxk_e rfl ?_
      refine lx_storea 2 hGF rfl rfl rfl Tryz.sizeOf37 (by simp) (by simp) (one_u64 _) rfl ?_
      refine lx_nil ?_
      refine ⟨fun _ X hX _ => by subst hX; exact hp_sub rides_true ⟨rfl, trivial⟩, ?_⟩
      refine lxk_e rfl ?_
      refine lx_storea 3 hGF rfl rfl rfl Tryz.sizeOf37 (by simp) (by simp) (one_u64 _) rfl ?_
      refine lx_nil ?_
      refine ⟨fun h => (by cases h), ?_⟩
      refine lxk_nil ?_
      refine x_ret ?_
      repeat (first | refine kseq_ret ?_ | refine kblk_ret ?_)
      exact kret_cc 2 3 rfl rfl rfl rfl rfl Tryz.isAgg37 Tryz.sizeOf37 (by simp) (by simp) (fun w hw => ⟨by rw [show sgS r u = _ from if_pos hs], hp_below hw⟩)
theorem rswu {u x r : W2} (h : SwR u x r) : Pure Tryz.prog Gt 9 [EV2 u] (.tuple #[EV2 x, EV2 (sgS r u)]) := by
  obtain ⟨hr, hl, rfl | ⟨hq, rfl⟩⟩ := h
  · exact rswu_a u r hr hl
  · exact rswu_b u r hq hr hl
end Go.Proofs.YtdkmalaffcfoeaaGreatDoor

namespace Go.Proofs.YtdkmalaffcfoeaaGreatDoor
open Go.RowKit
set_option maxRecDepth 100000
set_option maxHeartbeats 1000000
attribute [local simp] fe_len nm_len AS_len SS_len MONT_len RM_len FRs_len BYs_len by48_len PLl TWOl ONEl N1l IVPl HFPl RTPl FL_len SP_len fe2_len SP2_len FM_len GL_len RW_len

theorem r5numE (a b : Zp) : Pure Tryz.prog Gt 109 [NV (nm a), NV (nm b)] (EV2 (a, b)) := by
  intro w hw
  have hGF : BOk Gt (pl w) := gt_low.plain hw
  refine calls_of_X (G := Gt) Tryz.func109 rfl rfl (Hp (pl w) []) (hp_refl (pl w) trivial rides_true) (good_hp hGF) ?_
  refine xs_plain (E := EE []) ?_
  refine lx_boxr 2 hGF rfl rfl rfl ?_
  intro b2
  refine lx_boxr 3 hGF rfl rfl rfl ?_
  intro b3
  refine lx_allocr 4 hGF zv37 rfl rfl ?_
  intro b4
  refine lx_nil ?_
  refine xs_drawn (E := EE []) mixed (by kernel_rfl) (by kernel_rfl) (by kernel_rfl) ?_
  refine lx_loada 2 rfl rfl Tryz.isAgg33 Tryz.sizeOf33 (by simp) rfl rfl ?_
  refine lx_call rfl rfl ent97 (rofE _) rfl rfl ?_
  refine lx_loada 3 rfl rfl Tryz.isAgg33 Tryz.sizeOf33 (by simp) rfl rfl ?_
  refine lx_call rfl rfl ent97 (rofE _) rfl rfl ?_
  refine lx_two two37 rfl rfl (by simp) (by simp) rfl rfl ?_
  refine lx_storea 4 hGF rfl rfl rfl Tryz.sizeOf37 (by simp) (by simp) (one_u64 _) rfl ?_
  refine lx_nil ?_
  refine x_ret ?_
  repeat (first | refine kseq_ret ?_ | refine kblk_ret ?_)
  exact kret_own 4 rfl rfl rfl Tryz.isAgg37 Tryz.sizeOf37 (by simp) (fun w hw => ⟨rfl, hp_below hw⟩)
theorem r14num (a b : Zp) : Pure Tryz.prog Gt 66 [NV (nm a), NV (nm b)] (EV2 (a, b)) := by
  intro w hw
  have hGF : BOk Gt (pl w) := gt_low.plain hw
  refine calls_of_X (G := Gt) Tryz.func66 rfl rfl (Hp (pl w) []) (hp_refl (pl w) trivial rides_true) (good_hp hGF) ?_
  refine xs_plain (E := EE []) ?_
  refine lx_boxr 2 hGF rfl rfl rfl ?_
  intro b2
  refine lx_boxr 3 hGF rfl rfl rfl ?_
  intro b3
  refine lx_allocr 4 hGF zv37 rfl rfl ?_
  intro b4
  refine lx_nil ?_
  refine xs_plain (E := EE []) ?_
  refine lx_loada 2 rfl rfl Tryz.isAgg33 Tryz.sizeOf33 (by simp) rfl rfl ?_
  refine lx_loada 3 rfl rfl Tryz.isAgg33 Tryz.sizeOf33 (by simp) rfl rfl ?_
  refine lx_call rfl rfl ent109 (r5numE _ _) rfl rfl ?_
  refine lx_storea 4 hGF rfl rfl rfl Tryz.sizeOf37 (by simp) (by simp) (one_u64 _) rfl ?_
  refine lx_nil ?_
  refine x_ret ?_
  repeat (first | refine kseq_ret ?_ | refine kblk_ret ?_)
  exact kret_own 4 rfl rfl rfl Tryz.isAgg37 Tryz.sizeOf37 (by simp) (fun w hw => ⟨rfl, hp_below hw⟩)
theorem r14minus (a b : BitVec 64) : Pure Tryz.prog Gt 67 [U64 a, U64 b] (EV2 (ng2 (sm2 a b))) := by
  intro w hw
  have hGF : BOk Gt (pl w) := gt_low.plain hw
  refine calls_of_X (G := Gt) Tryz.func67 rfl rfl (Hp (pl w) []) (hp_refl (pl w) trivial rides_true) (good_hp hGF) ?_
  refine xs_plain (E := EE []) ?_
  refine lx_allocr 4 hGF zv37 rfl rfl ?_
  intro b4
  refine lx_nil ?_
  refine xs_plain (E := EE []) ?_
  refine lx_move rfl rfl rfl ?_
  refine lx_move rfl rfl rfl ?_
  refine lx_call rfl rfl ent89 (small5r _ _) rfl rfl ?_
  refine lx_call rfl rfl ent45 (r5neg _) rfl rfl ?_
  refine lx_storea 4 hGF rfl rfl rfl Tryz.sizeOf37 (by simp) (by simp) (one_u64 _) rfl ?_
  refine lx_nil ?_
  refine x_ret ?_
  repeat (first | refine kseq_ret ?_ | refine kblk_ret ?_)
  exact kret_own 4 rfl rfl rfl Tryz.isAgg37 Tryz.sizeOf37 (by simp) (fun w hw => ⟨rfl, hp_below hw⟩)
def cXN : Nat → W2
  | 0 => (zp 0x5c759507e8e333ebb5b7a9a47d7ed8532c52d39fd3a042a88b58423c50ae15d5c2638e343d9c71c6238aaaaaaaa97d6, zp 0x5c759507e8e333ebb5b7a9a47d7ed8532c52d39fd3a042a88b58423c50ae15d5c2638e343d9c71c6238aaaaaaaa97d6)
  | 1 => (0, zp 0x11560bf17baa99bc32126fced787c88f984f87adf7ae0c7f9a208c6b4f20a4181472aaa9cb8d555526a9ffffffffc71a)
  | 2 => (zp 0x11560bf17baa99bc32126fced787c88f984f87adf7ae0c7f9a208c6b4f20a4181472aaa9cb8d555526a9ffffffffc71e, zp 0x8ab05f8bdd54cde190937e76bc3e447cc27c3d6fbd7063fcd104635a790520c0a395554e5c6aaaa9354ffffffffe38d)
  | _ => (zp 0x171d6541fa38ccfaed6dea691f5fb614cb14b4e7f4e810aa22d6108f142b85757098e38d0f671c7188e2aaaaaaaa5ed1, 0)
theorem iXN_c : iXN = [cXN 0, cXN 1, cXN 2, cXN 3] := rfl
theorem nm_c0 : nm (zp 0x5c759507e8e333ebb5b7a9a47d7ed8532c52d39fd3a042a88b58423c50ae15d5c2638e343d9c71c6238aaaaaaaa97d6) = [7077594464397203414#64, 6640057249351452444#64, 9850925049107374429#64, 3658379999393219626#64, 13500519111022079365#64, 416399692810564414#64] := by decide +kernel
theorem num_cXN0 : Pure Tryz.prog Gt 66 [NV [7077594464397203414#64, 6640057249351452444#64, 9850925049107374429#64, 3658379999393219626#64, 13500519111022079365#64, 416399692810564414#64], NV [7077594464397203414#64, 6640057249351452444#64, 9850925049107374429#64, 3658379999393219626#64, 13500519111022079365#64, 416399692810564414#64]] (EV2 (cXN 0)) := by
  have h := r14num (zp 0x5c759507e8e333ebb5b7a9a47d7ed8532c52d39fd3a042a88b58423c50ae15d5c2638e343d9c71c6238aaaaaaaa97d6) (zp 0x5c759507e8e333ebb5b7a9a47d7ed8532c52d39fd3a042a88b58423c50ae15d5c2638e343d9c71c6238aaaaaaaa97d6)
  rw [nm_c0] at h
  exact h
theorem nm_c1 : nm (0) = [0#64, 0#64, 0#64, 0#64, 0#64, 0#64] := by decide +kernel
theorem nm_c2 : nm (zp 0x11560bf17baa99bc32126fced787c88f984f87adf7ae0c7f9a208c6b4f20a4181472aaa9cb8d555526a9ffffffffc71a) = [2786039319482058522#64, 1473427674344805717#64, 11106031073612571672#64, 10975139998179658879#64, 3608069185647134863#64, 1249199078431693244#64] := by decide +kernel
theorem num_cXN1 : Pure Tryz.prog Gt 66 [NV [0#64, 0#64, 0#64, 0#64, 0#64, 0#64], NV [2786039319482058522#64, 1473427674344805717#64, 11106031073612571672#64, 10975139998179658879#64, 3608069185647134863#64, 1249199078431693244#64]] (EV2 (cXN 1)) := by
  have h := r14num (0) (zp 0x11560bf17baa99bc32126fced787c88f984f87adf7ae0c7f9a208c6b4f20a4181472aaa9cb8d555526a9ffffffffc71a)
  rw [nm_c1, nm_c2] at h
  exact h
theorem nm_c3 : nm (zp 0x11560bf17baa99bc32126fced787c88f984f87adf7ae0c7f9a208c6b4f20a4181472aaa9cb8d555526a9ffffffffc71e) = [2786039319482058526#64, 1473427674344805717#64, 11106031073612571672#64, 10975139998179658879#64, 3608069185647134863#64, 1249199078431693244#64] := by decide +kernel
theorem nm_c4 : nm (zp 0x8ab05f8bdd54cde190937e76bc3e447cc27c3d6fbd7063fcd104635a790520c0a395554e5c6aaaa9354ffffffffe38d) = [10616391696595805069#64, 736713837172402858#64, 14776387573661061644#64, 14710942035944605247#64, 1804034592823567431#64, 624599539215846622#64] := by decide +kernel
theorem num_cXN2 : Pure Tryz.prog Gt 66 [NV [2786039319482058526#64, 1473427674344805717#64, 11106031073612571672#64, 10975139998179658879#64, 3608069185647134863#64, 1249199078431693244#64], NV [10616391696595805069#64, 736713837172402858#64, 14776387573661061644#64, 14710942035944605247#64, 1804034592823567431#64, 624599539215846622#64]] (EV2 (cXN 2)) := by
  have h := r14num (zp 0x11560bf17baa99bc32126fced787c88f984f87adf7ae0c7f9a208c6b4f20a4181472aaa9cb8d555526a9ffffffffc71e) (zp 0x8ab05f8bdd54cde190937e76bc3e447cc27c3d6fbd7063fcd104635a790520c0a395554e5c6aaaa9354ffffffffe38d)
  rw [nm_c3, nm_c4] at h
  exact h
theorem nm_c5 : nm (zp 0x171d6541fa38ccfaed6dea691f5fb614cb14b4e7f4e810aa22d6108f142b85757098e38d0f671c7188e2aaaaaaaa5ed1) = [9863633783879261905#64, 8113484923696258161#64, 2510212049010394485#64, 14633519997572878506#64, 17108588296669214228#64, 1665598771242257658#64] := by decide +kernel
theorem num_cXN3 : Pure Tryz.prog Gt 66 [NV [9863633783879261905#64, 8113484923696258161#64, 2510212049010394485#64, 14633519997572878506#64, 17108588296669214228#64, 1665598771242257658#64], NV [0#64, 0#64, 0#64, 0#64, 0#64, 0#64]] (EV2 (cXN 3)) := by
  have h := r14num (zp 0x171d6541fa38ccfaed6dea691f5fb614cb14b4e7f4e810aa22d6108f142b85757098e38d0f671c7188e2aaaaaaaa5ed1) (0)
  rw [nm_c5, nm_c1] at h
  exact h
def cYN : Nat → W2
  | 0 => (zp 0x1530477c7ab4113b59a4c18b076d11930f7da5d4a07f649bf54439d87d27e500fc8c25ebf8c92f6812cfc71c71c6d706, zp 0x1530477c7ab4113b59a4c18b076d11930f7da5d4a07f649bf54439d87d27e500fc8c25ebf8c92f6812cfc71c71c6d706)
  | 1 => (0, zp 0x5c759507e8e333ebb5b7a9a47d7ed8532c52d39fd3a042a88b58423c50ae15d5c2638e343d9c71c6238aaaaaaaa97be)
  | 2 => (zp 0x11560bf17baa99bc32126fced787c88f984f87adf7ae0c7f9a208c6b4f20a4181472aaa9cb8d555526a9ffffffffc71c, zp 0x8ab05f8bdd54cde190937e76bc3e447cc27c3d6fbd7063fcd104635a790520c0a395554e5c6aaaa9354ffffffffe38f)
  | _ => (zp 0x124c9ad43b6cf79bfbf7043de3811ad0761b0f37a1e26286b0e977c69aa274524e79097a56dc4bd9e1b371c71c718b10, 0)
theorem iYN_c : iYN = [cYN 0, cYN 1, cYN 2, cYN 3] := rfl
theorem nm_c6 : nm (zp 0x1530477c7ab4113b59a4c18b076d11930f7da5d4a07f649bf54439d87d27e500fc8c25ebf8c92f6812cfc71c71c6d706) = [1355520937843676934#64, 18197961889718808424#64, 17673314439684154624#64, 1116230615302104219#64, 6459500568425337235#64, 1526798873638736187#64] := by decide +kernel
theorem num_cYN0 : Pure Tryz.prog Gt 66 [NV [1355520937843676934#64, 18197961889718808424#64, 17673314439684154624#64, 1116230615302104219#64, 6459500568425337235#64, 1526798873638736187#64], NV [1355520937843676934#64, 18197961889718808424#64, 17673314439684154624#64, 1116230615302104219#64, 6459500568425337235#64, 1526798873638736187#64]] (EV2 (cYN 0)) := by
  have h := r14num (zp 0x1530477c7ab4113b59a4c18b076d11930f7da5d4a07f649bf54439d87d27e500fc8c25ebf8c92f6812cfc71c71c6d706) (zp 0x1530477c7ab4113b59a4c18b076d11930f7da5d4a07f649bf54439d87d27e500fc8c25ebf8c92f6812cfc71c71c6d706)
  rw [nm_c6] at h
  exact h
theorem nm_c7 : nm (zp 0x5c759507e8e333ebb5b7a9a47d7ed8532c52d39fd3a042a88b58423c50ae15d5c2638e343d9c71c6238aaaaaaaa97be) = [7077594464397203390#64, 6640057249351452444#64, 9850925049107374429#64, 3658379999393219626#64, 13500519111022079365#64, 416399692810564414#64] := by decide +kernel
theorem num_cYN1 : Pure Tryz.prog Gt 66 [NV [0#64, 0#64, 0#64, 0#64, 0#64, 0#64], NV [7077594464397203390#64, 6640057249351452444#64, 9850925049107374429#64, 3658379999393219626#64, 13500519111022079365#64, 416399692810564414#64]] (EV2 (cYN 1)) := by
  have h := r14num (0) (zp 0x5c759507e8e333ebb5b7a9a47d7ed8532c52d39fd3a042a88b58423c50ae15d5c2638e343d9c71c6238aaaaaaaa97be)
  rw [nm_c1, nm_c7] at h
  exact h
theorem nm_c8 : nm (zp 0x11560bf17baa99bc32126fced787c88f984f87adf7ae0c7f9a208c6b4f20a4181472aaa9cb8d555526a9ffffffffc71c) = [2786039319482058524#64, 1473427674344805717#64, 11106031073612571672#64, 10975139998179658879#64, 3608069185647134863#64, 1249199078431693244#64] := by decide +kernel
theorem nm_c9 : nm (zp 0x8ab05f8bdd54cde190937e76bc3e447cc27c3d6fbd7063fcd104635a790520c0a395554e5c6aaaa9354ffffffffe38f) = [10616391696595805071#64, 736713837172402858#64, 14776387573661061644#64, 14710942035944605247#64, 1804034592823567431#64, 624599539215846622#64] := by decide +kernel
theorem num_cYN2 : Pure Tryz.prog Gt 66 [NV [2786039319482058524#64, 1473427674344805717#64, 11106031073612571672#64, 10975139998179658879#64, 3608069185647134863#64, 1249199078431693244#64], NV [10616391696595805071#64, 736713837172402858#64, 14776387573661061644#64, 14710942035944605247#64, 1804034592823567431#64, 624599539215846622#64]] (EV2 (cYN 2)) := by
  have h := r14num (zp 0x11560bf17baa99bc32126fced787c88f984f87adf7ae0c7f9a208c6b4f20a4181472aaa9cb8d555526a9ffffffffc71c) (zp 0x8ab05f8bdd54cde190937e76bc3e447cc27c3d6fbd7063fcd104635a790520c0a395554e5c6aaaa9354ffffffffe38f)
  rw [nm_c8, nm_c9] at h
  exact h
theorem nm_c10 : nm (zp 0x124c9ad43b6cf79bfbf7043de3811ad0761b0f37a1e26286b0e977c69aa274524e79097a56dc4bd9e1b371c71c718b10) = [16263467779354626832#64, 5654561228188306393#64, 12747851915130467410#64, 8510412652460270214#64, 18155985086623849168#64, 1318599027233453979#64] := by decide +kernel
theorem num_cYN3 : Pure Tryz.prog Gt 66 [NV [16263467779354626832#64, 5654561228188306393#64, 12747851915130467410#64, 8510412652460270214#64, 18155985086623849168#64, 1318599027233453979#64], NV [0#64, 0#64, 0#64, 0#64, 0#64, 0#64]] (EV2 (cYN 3)) := by
  have h := r14num (zp 0x124c9ad43b6cf79bfbf7043de3811ad0761b0f37a1e26286b0e977c69aa274524e79097a56dc4bd9e1b371c71c718b10) (0)
  rw [nm_c10, nm_c1] at h
  exact h
def cXD : Nat → W2
  | 0 => ng2 (sm2 0#64 72#64)
  | 1 => (zp 12, -zp 12)
  | _ => on2
def cYD : Nat → W2
  | 0 => ng2 (sm2 432#64 432#64)
  | 1 => ng2 (sm2 0#64 216#64)
  | 2 => (zp 18, -zp 18)
  | _ => on2
theorem iXD_c : iXD = [cXD 0, cXD 1, cXD 2] := by decide +kernel
theorem iYD_c : iYD = [cYD 0, cYD 1, cYD 2, cYD 3] := by decide +kernel
/-- Pairs as rows of twelve. -/
def RPr (f : Nat → W2) (i : Nat) : List (BitVec 64) := fe (f i).1 ++ fe (f i).2
theorem RPr_len (f : Nat → W2) (i : Nat) : (RPr f i).length = 12 := by simp [RPr]
attribute [local simp] RPr_len
theorem rhorner (n : Nat) (f : Nat → W2) (x : W2) (b cap : Nat) (hn : n ≤ 1000) (w : World) (hw : Gt w) (h : w.rangeAt b 0 ((RW 12 (RPr f) n).map U64)) :
    Calls Tryz.prog 65 [.slice (some ⟨b, 0, none⟩) n cap, EV2 x].toArray w (fun r w' => r = .returned (EV2 (HK (fun k => f (n - 1 - k)) x n)) ∧ Grow w w') := by
  have hGF : BOk Gt (pl w) := gt_low.plain hw
  refine calls_of_X (G := Gt) Tryz.func65 rfl rfl (Hp (pl w) []) (hp_refl (pl w) trivial rides_true) (good_hp hGF) ?_
  refine xs_plain (E := EE []) ?_
  refine lx_boxr 3 hGF rfl rfl rfl ?_
  intro b3
  refine lx_allocr 4 hGF zv37 rfl rfl ?_
  intro b4
  refine lx_nil ?_
  refine xs_plain (E := EE []) ?_
  refine lx_allocr 5 hGF zv37 rfl rfl ?_
  intro b5
  refine lx_nil ?_
  refine x_seq ?_
  refine xs_plain (E := EE []) ?_
  refine lx_move rfl rfl rfl ?_
  refine lx_len rfl (fun _ => len_slice Tryz.underlying83 _ _ _ _) rfl rfl ?_
  refine lx_bin (v := I ((n : Int) - 1 - ((0 : Nat) : Int))) rfl rfl (fun _ => rfl) (fun _ => (bin_sub_i _ _ _ (by unfold inI; omega)).trans (by rw [show (n : Int) - 1 - ((0 : Nat) : Int) = (n : Int) - 1 by omega])) rfl rfl ?_
  refine lx_assign rfl rfl rfl ?_
  refine lx_nil ?_
  refine x_block ?_
  refine x_for (ι := { i : Nat // i ≤ n }) (fun y => [(0, .slice (some ⟨b, 0, none⟩) n cap), (3, .pointer (some ⟨b3, 0, none⟩)), (4, .pointer (some ⟨b4, 0, none⟩)), (5, .pointer (some ⟨b5, 0, none⟩)), (6, I ((n : Int) - 1 - (y.1 : Int)))]) (fun y => [(3, b3, (fe (x).1 ++ fe (x).2).map U64, 37), (4, b4, (fe 0 ++ fe 0).map U64, 37), (5, b5, (fe (HK (fun k => f (n - 1 - k)) x y.1).1 ++ fe (HK (fun k => f (n - 1 - k)) x y.1).2).map U64, 37)]) (fun y => n - y.1) ⟨0, Nat.zero_le _⟩ hGF ⟨rfl, rfl, rfl, rfl, rfl, trivial⟩ ⟨rfl, rfl, rfl, trivial⟩ ?_
  rintro ⟨j, hj⟩
  dsimp only
  refine x_seq ?_
  refine xs_plain (E := EE []) ?_
  refine lx_move rfl rfl rfl ?_
  refine lx_bin (v := .bool (decide ((0 : Int) ≤ ((n : Int) - 1 - (j : Int))))) rfl rfl (fun _ => rfl) (fun _ => bin_geq_i _ _ _) rfl rfl ?_
  refine lx_nil ?_
  refine x_if rfl (fun hc => ?_) (fun hc => ?_)
  · have hj2 : j < n := by have := of_decide_eq_true hc; omega
    refine x_skip ?_
    refine x_seq ?_
    refine x_block ?_
    refine x_drawn (E := EE []) mixed (by kernel_rfl) (by kernel_rfl) (by kernel_rfl) ?_
    refine lx_loada 5 rfl rfl Tryz.isAgg37 Tryz.sizeOf37 (by simp) rfl rfl ?_
    refine lx_loada 3 rfl rfl Tryz.isAgg37 Tryz.sizeOf37 (by simp) rfl rfl ?_
    refine lx_call rfl rfl ent11 (r5mul _ _) rfl rfl ?_
    refine lx_move rfl rfl rfl ?_
    refine lx_move rfl rfl rfl ?_
    refine lx_isW (s := 12) (n - 1 - j) rfl rfl Tryz.underlying83 Tryz.sizeOf37 (by omega) (by omega) rfl rfl ?_
    refine lx_loadr (cs := (RPr f (n - 1 - j)).map U64) rfl Tryz.isAgg37 Tryz.sizeOf37 (by simp) (fun w' h' => range_row (hp_oldrange h (fun h => h) w' h') (by omega) (RPr_len _ _)) rfl rfl ?_
    refine lx_call rfl rfl ent40 (r5add _ (f (n - 1 - j))) rfl rfl ?_
    refine lx_storea 5 hGF rfl rfl rfl Tryz.sizeOf37 (by simp) (by simp) (one_u64 _) rfl ?_
    refine lx_nil ?_
    refine x_plain (E := EE []) ?_
    refine lx_move rfl rfl rfl ?_
    refine lx_bin (v := I ((n : Int) - 1 - ((j + 1 : Nat) : Int))) rfl rfl (fun _ => rfl) (fun _ => (bin_sub_i _ _ _ (by unfold inI; omega)).trans (by rw [show (n : Int) - 1 - ((j + 1 : Nat) : Int) = (n : Int) - 1 - (j : Int) - 1 by omega])) rfl rfl ?_
    refine lx_assign rfl rfl rfl ?_
    refine lx_nil ?_
    repeat (refine kblk_n ?_)
    refine kseq_n ?_
    exact ⟨rfl, ⟨j + 1, by omega⟩, _, by show n - (j + 1) < n - j; omega, rfl, ⟨rfl, rfl, rfl, rfl, rfl, trivial⟩, ⟨rfl, rfl, rfl, trivial⟩⟩
  · obtain rfl : j = n := by have := of_decide_eq_false hc; omega
    refine x_exit ?_
    refine xs_plain (E := EE []) ?_
    refine lx_loada 5 rfl rfl Tryz.isAgg37 Tryz.sizeOf37 (by simp) rfl rfl ?_
    refine lx_storea 4 hGF rfl rfl rfl Tryz.sizeOf37 (by simp) (by simp) (one_u64 _) rfl ?_
    refine lx_nil ?_
    refine x_ret ?_
    repeat (first | refine kseq_ret ?_ | refine kblk_ret ?_)
    exact kret_own 4 rfl rfl rfl Tryz.isAgg37 Tryz.sizeOf37 (by simp) (fun w hw => ⟨rfl, hp_below hw⟩)
theorem hor_iXN (x : W2) (b : Nat) (w : World) (hw : Gt w) (h : w.rangeAt b 0 ((RW 12 (RPr cXN) 4).map U64)) : Calls Tryz.prog 65 [.slice (some ⟨b, 0, none⟩) 4 4, EV2 x].toArray w (fun r w' => r = .returned (EV2 (R2.pev iXN x)) ∧ Grow w w') := by
  have e := rhorner 4 cXN x b 4 (by decide) w hw h
  rw [show HK (fun k => cXN (4 - 1 - k)) x 4 = R2.pev iXN x from (HK_4 _ x).trans (by rw [iXN_c])] at e
  exact e
theorem hor_iXD (x : W2) (b : Nat) (w : World) (hw : Gt w) (h : w.rangeAt b 0 ((RW 12 (RPr cXD) 3).map U64)) : Calls Tryz.prog 65 [.slice (some ⟨b, 0, none⟩) 3 3, EV2 x].toArray w (fun r w' => r = .returned (EV2 (R2.pev iXD x)) ∧ Grow w w') := by
  have e := rhorner 3 cXD x b 3 (by decide) w hw h
  rw [show HK (fun k => cXD (3 - 1 - k)) x 3 = R2.pev iXD x from (HK_3 _ x).trans (by rw [iXD_c])] at e
  exact e
theorem hor_iYN (x : W2) (b : Nat) (w : World) (hw : Gt w) (h : w.rangeAt b 0 ((RW 12 (RPr cYN) 4).map U64)) : Calls Tryz.prog 65 [.slice (some ⟨b, 0, none⟩) 4 4, EV2 x].toArray w (fun r w' => r = .returned (EV2 (R2.pev iYN x)) ∧ Grow w w') := by
  have e := rhorner 4 cYN x b 4 (by decide) w hw h
  rw [show HK (fun k => cYN (4 - 1 - k)) x 4 = R2.pev iYN x from (HK_4 _ x).trans (by rw [iYN_c])] at e
  exact e
theorem hor_iYD (x : W2) (b : Nat) (w : World) (hw : Gt w) (h : w.rangeAt b 0 ((RW 12 (RPr cYD) 4).map U64)) : Calls Tryz.prog 65 [.slice (some ⟨b, 0, none⟩) 4 4, EV2 x].toArray w (fun r w' => r = .returned (EV2 (R2.pev iYD x)) ∧ Grow w w') := by
  have e := rhorner 4 cYD x b 4 (by decide) w hw h
  rw [show HK (fun k => cYD (4 - 1 - k)) x 4 = R2.pev iYD x from (HK_4 _ x).trans (by rw [iYD_c])] at e
  exact e
end Go.Proofs.YtdkmalaffcfoeaaGreatDoor

namespace Go.Proofs.YtdkmalaffcfoeaaGreatDoor
open Go.RowKit
set_option maxRecDepth 100000
set_option maxHeartbeats 1000000
attribute [local simp] fe_len nm_len AS_len SS_len MONT_len RM_len FRs_len BYs_len by48_len PLl TWOl ONEl N1l IVPl HFPl RTPl FL_len SP_len fe2_len SP2_len FM_len GL_len RW_len RPr_len

theorem riso (x y : W2) (h : ml2 y y = gO x) : Pure Tryz.prog Gt 20 [EV2 x, EV2 y] (EV6 (XIs x, YIs x y, on2)) := by
  intro w hw
  have hGF : BOk Gt (pl w) := gt_low.plain hw
  refine calls_of_X (G := Gt) Tryz.func20 rfl rfl (Hp (pl w) []) (hp_refl (pl w) trivial rides_true) (good_hp hGF) ?_
  refine xs_plain (E := EE []) ?_
  refine lx_boxr 2 hGF rfl rfl rfl ?_
  intro b2
  refine lx_boxr 3 hGF rfl rfl rfl ?_
  intro b3
  refine lx_allocr 4 hGF zv51 rfl rfl ?_
  intro b4
  refine lx_nil ?_
  refine x_join (ι := Nat) (fun z => [(2, .pointer (some ⟨b2, 0, none⟩)), (3, .pointer (some ⟨b3, 0, none⟩)), (4, .pointer (some ⟨b4, 0, none⟩)), (5, .pointer (some ⟨z, 0, none⟩))]) (fun z => [(2, b2, (fe (x).1 ++ fe (x).2).map U64, 37), (3, b3, (fe (y).1 ++ fe (y).2).map U64, 37), (4, b4, ((fe 0 ++ fe 0) ++ ((fe 0 ++ fe 0) ++ (fe 0 ++ fe 0))).map U64, 51), (5, z, (fe (R2.pev iXN x).1 ++ fe (R2.pev iXN x).2).map U64, 37)]) hGF ?_ ?_
  · skip
    refine x_tree (EE [2999998, 2999999]) mixed (by kernel_rfl) (by kernel_rfl) ?_
    refine tr_pre (m := 4) [0, 1, 2, 3, 4, 5, 6, 7, 8, 9, 10, 11, 13] (by kernel_rfl) ?_
    refine lx_buildr (n := 6) rfl rfl Tryz.underlying33 Tryz.sizeOf24 Tryz.zeroValue33 rfl rfl rfl rfl ?_
    refine lx_buildr (n := 6) rfl rfl Tryz.underlying33 Tryz.sizeOf24 Tryz.zeroValue33 rfl rfl rfl rfl ?_
    refine lx_call rfl rfl ent66 (num_cXN0) rfl rfl ?_
    refine lx_buildr (n := 6) rfl rfl Tryz.underlying33 Tryz.sizeOf24 Tryz.zeroValue33 rfl rfl rfl rfl ?_
    refine lx_buildr (n := 6) rfl rfl Tryz.underlying33 Tryz.sizeOf24 Tryz.zeroValue33 rfl rfl rfl rfl ?_
    refine lx_call rfl rfl ent66 (num_cXN1) rfl rfl ?_
    refine lx_buildr (n := 6) rfl rfl Tryz.underlying33 Tryz.sizeOf24 Tryz.zeroValue33 rfl rfl rfl rfl ?_
    refine lx_buildr (n := 6) rfl rfl Tryz.underlying33 Tryz.sizeOf24 Tryz.zeroValue33 rfl rfl rfl rfl ?_
    refine lx_call rfl rfl ent66 (num_cXN2) rfl rfl ?_
    refine lx_buildr (n := 6) rfl rfl Tryz.underlying33 Tryz.sizeOf24 Tryz.zeroValue33 rfl rfl rfl rfl ?_
    refine lx_buildr (n := 6) rfl rfl Tryz.underlying33 Tryz.sizeOf24 Tryz.zeroValue33 rfl rfl rfl rfl ?_
    refine lx_call rfl rfl ent66 (num_cXN3) rfl rfl ?_
    refine lx_loada 2 rfl rfl Tryz.isAgg37 Tryz.sizeOf37 (by simp) rfl rfl ?_
    refine lx_nil ?_
    refine tr_any (m := 3) [12, 15] (by kernel_rfl) (by kernel_rfl) (by decide) ?_
    intro i hi
    simp only [List.mem_cons, List.not_mem_nil, or_false] at hi
    rcases hi with rfl | rfl
    · skip
      refine lx_bslWG (s := 12) 21 (RPr cXN) (fe 0 ++ fe 0) hGF rfl rfl rfl (fun i _ => RPr_len _ _) (by decide) (by decide) Tryz.underlying83 Tryz.sizeOf37 (by simp) zv37 rfl rfl ?_
      intro b21
      refine lx_nil ?_
      refine tr_pre (m := 2) [14] (by kernel_rfl) ?_
      refine lx_callC rfl rfl ent65 (fun w' hC hG => hor_iXN x _ w' hG (hp_row (n := 21) rfl w' hC)) rfl rfl ?_
      refine lx_nil ?_
      refine tr_pre (m := 1) [15] (by kernel_rfl) ?_
      refine lx_allocG 5 hGF zv37 rfl rfl rfl ?_
      intro b5
      refine lx_nil ?_
      refine tr_pre (m := 0) [16] (by kernel_rfl) ?_
      refine lx_storea 5 hGF rfl rfl rfl Tryz.sizeOf37 (by simp) (by simp) (one_u64 _) rfl ?_
      refine lx_nil ?_
      refine tr_nil (by kernel_rfl) ?_
      refine kseq_n ?_
      exact ⟨rfl, b5, _, rfl, ⟨rfl, rfl, rfl, rfl, trivial⟩, ⟨rfl, rfl, rfl, rfl, trivial⟩⟩
    · skip
      refine lx_allocG 5 hGF zv37 rfl rfl rfl ?_
      intro b5
      refine lx_nil ?_
      refine tr_pre (m := 2) [12] (by kernel_rfl) ?_
      refine lx_bslWG (s := 12) 21 (RPr cXN) (fe 0 ++ fe 0) hGF rfl rfl rfl (fun i _ => RPr_len _ _) (by decide) (by decide) Tryz.underlying83 Tryz.sizeOf37 (by simp) zv37 rfl rfl ?_
      intro b21
      refine lx_nil ?_
      refine tr_pre (m := 1) [14] (by kernel_rfl) ?_
      refine lx_callC rfl rfl ent65 (fun w' hC hG => hor_iXN x _ w' hG (hp_row (n := 21) rfl w' hC)) rfl rfl ?_
      refine lx_nil ?_
      refine tr_pre (m := 0) [16] (by kernel_rfl) ?_
      refine lx_storea 5 hGF rfl rfl rfl Tryz.sizeOf37 (by simp) (by simp) (one_u64 _) rfl ?_
      refine lx_nil ?_
      refine tr_nil (by kernel_rfl) ?_
      refine kseq_n ?_
      exact ⟨rfl, b5, _, rfl, ⟨rfl, rfl, rfl, rfl, trivial⟩, ⟨rfl, rfl, rfl, rfl, trivial⟩⟩
  · intro b5
    refine x_join (ι := Nat) (fun z => [(2, .pointer (some ⟨b2, 0, none⟩)), (3, .pointer (some ⟨b3, 0, none⟩)), (4, .pointer (some ⟨b4, 0, none⟩)), (5, .pointer (some ⟨b5, 0, none⟩)), (6, .pointer (some ⟨z, 0, none⟩))]) (fun z => [(2, b2, (fe (x).1 ++ fe (x).2).map U64, 37), (3, b3, (fe (y).1 ++ fe (y).2).map U64, 37), (4, b4, ((fe 0 ++ fe 0) ++ ((fe 0 ++ fe 0) ++ (fe 0 ++ fe 0))).map U64, 51), (5, b5, (fe (R2.pev iXN x).1 ++ fe (R2.pev iXN x).2).map U64, 37), (6, z, (fe (R2.pev iXD x).1 ++ fe (R2.pev iXD x).2).map U64, 37)]) hGF ?_ ?_
    · skip
      refine x_tree (EE [2999998, 2999999]) mixed (by kernel_rfl) (by kernel_rfl) ?_
      refine tr_pre (m := 4) [0, 1, 2, 3, 4, 5, 7] (by kernel_rfl) ?_
      refine lx_call rfl rfl ent67 (r14minus 0#64 72#64) rfl rfl ?_
      refine lx_call rfl rfl ent68 (rsmallE _) rfl rfl ?_
      refine lx_call rfl rfl ent68 (rsmallE _) rfl rfl ?_
      refine lx_call rfl rfl ent69 (rnegE _) rfl rfl ?_
      refine lx_two two37 rfl rfl (by simp) (by simp) rfl rfl ?_
      refine lx_call rfl rfl ent28 (r5one) rfl rfl ?_
      refine lx_loada 2 rfl rfl Tryz.isAgg37 Tryz.sizeOf37 (by simp) rfl rfl ?_
      refine lx_nil ?_
      refine tr_any (m := 3) [6, 9] (by kernel_rfl) (by kernel_rfl) (by decide) ?_
      intro i hi
      simp only [List.mem_cons, List.not_mem_nil, or_false] at hi
      rcases hi with rfl | rfl
      · skip
        refine lx_bslWG (s := 12) 30 (RPr cXD) (fe 0 ++ fe 0) hGF rfl rfl rfl (fun i _ => RPr_len _ _) (by decide) (by decide) Tryz.underlying83 Tryz.sizeOf37 (by simp) zv37 rfl rfl ?_
        intro b30
        refine lx_nil ?_
        refine tr_pre (m := 2) [8] (by kernel_rfl) ?_
        refine lx_callC rfl rfl ent65 (fun w' hC hG => hor_iXD x _ w' hG (hp_row (n := 30) rfl w' hC)) rfl rfl ?_
        refine lx_nil ?_
        refine tr_pre (m := 1) [9] (by kernel_rfl) ?_
        refine lx_allocG 6 hGF zv37 rfl rfl rfl ?_
        intro b6
        refine lx_nil ?_
        refine tr_pre (m := 0) [10] (by kernel_rfl) ?_
        refine lx_storea 6 hGF rfl rfl rfl Tryz.sizeOf37 (by simp) (by simp) (one_u64 _) rfl ?_
        refine lx_nil ?_
        refine tr_nil (by kernel_rfl) ?_
        refine kseq_n ?_
        exact ⟨rfl, b6, _, rfl, ⟨rfl, rfl, rfl, rfl, rfl, trivial⟩, ⟨rfl, rfl, rfl, rfl, rfl, trivial⟩⟩
      · skip
        refine lx_allocG 6 hGF zv37 rfl rfl rfl ?_
        intro b6
        refine lx_nil ?_
        refine tr_pre (m := 2) [6] (by kernel_rfl) ?_
        refine lx_bslWG (s := 12) 30 (RPr cXD) (fe 0 ++ fe 0) hGF rfl rfl rfl (fun i _ => RPr_len _ _) (by decide) (by decide) Tryz.underlying83 Tryz.sizeOf37 (by simp) zv37 rfl rfl ?_
        intro b30
        refine lx_nil ?_
        refine tr_pre (m := 1) [8] (by kernel_rfl) ?_
        refine lx_callC rfl rfl ent65 (fun w' hC hG => hor_iXD x _ w' hG (hp_row (n := 30) rfl w' hC)) rfl rfl ?_
        refine lx_nil ?_
        refine tr_pre (m := 0) [10] (by kernel_rfl) ?_
        refine lx_storea 6 hGF rfl rfl rfl Tryz.sizeOf37 (by simp) (by simp) (one_u64 _) rfl ?_
        refine lx_nil ?_
        refine tr_nil (by kernel_rfl) ?_
        refine kseq_n ?_
        exact ⟨rfl, b6, _, rfl, ⟨rfl, rfl, rfl, rfl, rfl, trivial⟩, ⟨rfl, rfl, rfl, rfl, rfl, trivial⟩⟩
    · intro b6
      refine x_join (ι := Nat) (fun z => [(2, .pointer (some ⟨b2, 0, none⟩)), (3, .pointer (some ⟨b3, 0, none⟩)), (4, .pointer (some ⟨b4, 0, none⟩)), (5, .pointer (some ⟨b5, 0, none⟩)), (6, .pointer (some ⟨b6, 0, none⟩)), (7, .pointer (some ⟨z, 0, none⟩))]) (fun z => [(2, b2, (fe (x).1 ++ fe (x).2).map U64, 37), (3, b3, (fe (y).1 ++ fe (y).2).map U64, 37), (4, b4, ((fe 0 ++ fe 0) ++ ((fe 0 ++ fe 0) ++ (fe 0 ++ fe 0))).map U64, 51), (5, b5, (fe (R2.pev iXN x).1 ++ fe (R2.pev iXN x).2).map U64, 37), (6, b6, (fe (R2.pev iXD x).1 ++ fe (R2.pev iXD x).2).map U64, 37), (7, z, (fe (R2.pev iYN x).1 ++ fe (R2.pev iYN x).2).map U64, 37)]) hGF ?_ ?_
      · skip
        refine x_tree (EE [2999998, 2999999]) mixed (by kernel_rfl) (by kernel_rfl) ?_
        refine tr_pre (m := 4) [0, 1, 2, 3, 4, 5, 6, 7, 8, 9, 10, 11, 13] (by kernel_rfl) ?_
        refine lx_buildr (n := 6) rfl rfl Tryz.underlying33 Tryz.sizeOf24 Tryz.zeroValue33 rfl rfl rfl rfl ?_
        refine lx_buildr (n := 6) rfl rfl Tryz.underlying33 Tryz.sizeOf24 Tryz.zeroValue33 rfl rfl rfl rfl ?_
        refine lx_call rfl rfl ent66 (num_cYN0) rfl rfl ?_
        refine lx_buildr (n := 6) rfl rfl Tryz.underlying33 Tryz.sizeOf24 Tryz.zeroValue33 rfl rfl rfl rfl ?_
        refine lx_buildr (n := 6) rfl rfl Tryz.underlying33 Tryz.sizeOf24 Tryz.zeroValue33 rfl rfl rfl rfl ?_
        refine lx_call rfl rfl ent66 (num_cYN1) rfl rfl ?_
        refine lx_buildr (n := 6) rfl rfl Tryz.underlying33 Tryz.sizeOf24 Tryz.zeroValue33 rfl rfl rfl rfl ?_
        refine lx_buildr (n := 6) rfl rfl Tryz.underlying33 Tryz.sizeOf24 Tryz.zeroValue33 rfl rfl rfl rfl ?_
        refine lx_call rfl rfl ent66 (num_cYN2) rfl rfl ?_
        refine lx_buildr (n := 6) rfl rfl Tryz.underlying33 Tryz.sizeOf24 Tryz.zeroValue33 rfl rfl rfl rfl ?_
        refine lx_buildr (n := 6) rfl rfl Tryz.underlying33 Tryz.sizeOf24 Tryz.zeroValue33 rfl rfl rfl rfl ?_
        refine lx_call rfl rfl ent66 (num_cYN3) rfl rfl ?_
        refine lx_loada 2 rfl rfl Tryz.isAgg37 Tryz.sizeOf37 (by simp) rfl rfl ?_
        refine lx_nil ?_
        refine tr_any (m := 3) [12, 15] (by kernel_rfl) (by kernel_rfl) (by decide) ?_
        intro i hi
        simp only [List.mem_cons, List.not_mem_nil, or_false] at hi
        rcases hi with rfl | rfl
        · skip
          refine lx_bslWG (s := 12) 45 (RPr cYN) (fe 0 ++ fe 0) hGF rfl rfl rfl (fun i _ => RPr_len _ _) (by decide) (by decide) Tryz.underlying83 Tryz.sizeOf37 (by simp) zv37 rfl rfl ?_
          intro b45
          refine lx_nil ?_
          refine tr_pre (m := 2) [14] (by kernel_rfl) ?_
          refine lx_callC rfl rfl ent65 (fun w' hC hG => hor_iYN x _ w' hG (hp_row (n := 45) rfl w' hC)) rfl rfl ?_
          refine lx_nil ?_
          refine tr_pre (m := 1) [15] (by kernel_rfl) ?_
          refine lx_allocG 7 hGF zv37 rfl rfl rfl ?_
          intro b7
          refine lx_nil ?_
          refine tr_pre (m := 0) [16] (by kernel_rfl) ?_
          refine lx_storea 7 hGF rfl rfl rfl Tryz.sizeOf37 (by simp) (by simp) (one_u64 _) rfl ?_
          refine lx_nil ?_
          refine tr_nil (by kernel_rfl) ?_
          refine kseq_n ?_
          exact ⟨rfl, b7, _, rfl, ⟨rfl, rfl, rfl, rfl, rfl, rfl, trivial⟩, ⟨rfl, rfl, rfl, rfl, rfl, rfl, trivial⟩⟩
        · skip
          refine lx_allocG 7 hGF zv37 rfl rfl rfl ?_
          intro b7
          refine lx_nil ?_
          refine tr_pre (m := 2) [12] (by kernel_rfl) ?_
          refine lx_bslWG (s := 12) 45 (RPr cYN) (fe 0 ++ fe 0) hGF rfl rfl rfl (fun i _ => RPr_len _ _) (by decide) (by decide) Tryz.underlying83 Tryz.sizeOf37 (by simp) zv37 rfl rfl ?_
          intro b45
          refine lx_nil ?_
          refine tr_pre (m := 1) [14] (by kernel_rfl) ?_
          refine lx_callC rfl rfl ent65 (fun w' hC hG => hor_iYN x _ w' hG (hp_row (n := 45) rfl w' hC)) rfl rfl ?_
          refine lx_nil ?_
          refine tr_pre (m := 0) [16] (by kernel_rfl) ?_
          refine lx_storea 7 hGF rfl rfl rfl Tryz.sizeOf37 (by simp) (by simp) (one_u64 _) rfl ?_
          refine lx_nil ?_
          refine tr_nil (by kernel_rfl) ?_
          refine kseq_n ?_
          exact ⟨rfl, b7, _, rfl, ⟨rfl, rfl, rfl, rfl, rfl, rfl, trivial⟩, ⟨rfl, rfl, rfl, rfl, rfl, rfl, trivial⟩⟩
      · intro b7
        refine x_join (ι := Nat) (fun z => [(2, .pointer (some ⟨b2, 0, none⟩)), (3, .pointer (some ⟨b3, 0, none⟩)), (4, .pointer (some ⟨b4, 0, none⟩)), (5, .pointer (some ⟨b5, 0, none⟩)), (6, .pointer (some ⟨b6, 0, none⟩)), (7, .pointer (some ⟨b7, 0, none⟩)), (8, .pointer (some ⟨z, 0, none⟩))]) (fun z => [(2, b2, (fe (x).1 ++ fe (x).2).map U64, 37), (3, b3, (fe (y).1 ++ fe (y).2).map U64, 37), (4, b4, ((fe 0 ++ fe 0) ++ ((fe 0 ++ fe 0) ++ (fe 0 ++ fe 0))).map U64, 51), (5, b5, (fe (R2.pev iXN x).1 ++ fe (R2.pev iXN x).2).map U64, 37), (6, b6, (fe (R2.pev iXD x).1 ++ fe (R2.pev iXD x).2).map U64, 37), (7, b7, (fe (R2.pev iYN x).1 ++ fe (R2.pev iYN x).2).map U64, 37), (8, z, (fe (R2.pev iYD x).1 ++ fe (R2.pev iYD x).2).map U64, 37)]) hGF ?_ ?_
        · skip
          refine x_tree (EE [2999998, 2999999]) mixed (by kernel_rfl) (by kernel_rfl) ?_
          refine tr_pre (m := 4) [0, 1, 2, 3, 4, 5, 6, 8] (by kernel_rfl) ?_
          refine lx_call rfl rfl ent67 (r14minus 432#64 432#64) rfl rfl ?_
          refine lx_call rfl rfl ent67 (r14minus 0#64 216#64) rfl rfl ?_
          refine lx_call rfl rfl ent68 (rsmallE _) rfl rfl ?_
          refine lx_call rfl rfl ent68 (rsmallE _) rfl rfl ?_
          refine lx_call rfl rfl ent69 (rnegE _) rfl rfl ?_
          refine lx_two two37 rfl rfl (by simp) (by simp) rfl rfl ?_
          refine lx_call rfl rfl ent28 (r5one) rfl rfl ?_
          refine lx_loada 2 rfl rfl Tryz.isAgg37 Tryz.sizeOf37 (by simp) rfl rfl ?_
          refine lx_nil ?_
          refine tr_any (m := 3) [7, 10] (by kernel_rfl) (by kernel_rfl) (by decide) ?_
          intro i hi
          simp only [List.mem_cons, List.not_mem_nil, or_false] at hi
          rcases hi with rfl | rfl
          · skip
            refine lx_bslWG (s := 12) 55 (RPr cYD) (fe 0 ++ fe 0) hGF rfl rfl rfl (fun i _ => RPr_len _ _) (by decide) (by decide) Tryz.underlying83 Tryz.sizeOf37 (by simp) zv37 rfl rfl ?_
            intro b55
            refine lx_nil ?_
            refine tr_pre (m := 2) [9] (by kernel_rfl) ?_
            refine lx_callC rfl rfl ent65 (fun w' hC hG => hor_iYD x _ w' hG (hp_row (n := 55) rfl w' hC)) rfl rfl ?_
            refine lx_nil ?_
            refine tr_pre (m := 1) [10] (by kernel_rfl) ?_
            refine lx_allocG 8 hGF zv37 rfl rfl rfl ?_
            intro b8
            refine lx_nil ?_
            refine tr_pre (m := 0) [11] (by kernel_rfl) ?_
            refine lx_storea 8 hGF rfl rfl rfl Tryz.sizeOf37 (by simp) (by simp) (one_u64 _) rfl ?_
            refine lx_nil ?_
            refine tr_nil (by kernel_rfl) ?_
            refine kseq_n ?_
            exact ⟨rfl, b8, _, rfl, ⟨rfl, rfl, rfl, rfl, rfl, rfl, rfl, trivial⟩, ⟨rfl, rfl, rfl, rfl, rfl, rfl, rfl, trivial⟩⟩
          · skip
            refine lx_allocG 8 hGF zv37 rfl rfl rfl ?_
            intro b8
            refine lx_nil ?_
            refine tr_pre (m := 2) [7] (by kernel_rfl) ?_
            refine lx_bslWG (s := 12) 55 (RPr cYD) (fe 0 ++ fe 0) hGF rfl rfl rfl (fun i _ => RPr_len _ _) (by decide) (by decide) Tryz.underlying83 Tryz.sizeOf37 (by simp) zv37 rfl rfl ?_
            intro b55
            refine lx_nil ?_
            refine tr_pre (m := 1) [9] (by kernel_rfl) ?_
            refine lx_callC rfl rfl ent65 (fun w' hC hG => hor_iYD x _ w' hG (hp_row (n := 55) rfl w' hC)) rfl rfl ?_
            refine lx_nil ?_
            refine tr_pre (m := 0) [11] (by kernel_rfl) ?_
            refine lx_storea 8 hGF rfl rfl rfl Tryz.sizeOf37 (by simp) (by simp) (one_u64 _) rfl ?_
            refine lx_nil ?_
            refine tr_nil (by kernel_rfl) ?_
            refine kseq_n ?_
            exact ⟨rfl, b8, _, rfl, ⟨rfl, rfl, rfl, rfl, rfl, rfl, rfl, trivial⟩, ⟨rfl, rfl, rfl, rfl, rfl, rfl, rfl, trivial⟩⟩
        · intro b8
          refine x_seq ?_
          refine xs_plain (E := EE []) ?_
          refine lx_loada 6 rfl rfl Tryz.isAgg37 Tryz.sizeOf37 (by simp) rfl rfl ?_
          refine lx_callB false rfl rfl ent41 (r5isZero _) (decide_eq_false (xd_ne h)) rfl rfl ?_
          refine lx_move rfl rfl rfl ?_
          refine lx_loada 8 rfl rfl Tryz.isAgg37 Tryz.sizeOf37 (by simp) rfl rfl ?_
          refine lx_callB false rfl rfl ent41 (r5isZero _) (decide_eq_false (yd_ne h)) rfl rfl ?_
          refine lx_pick rfl rfl rfl rfl rfl ?_
          refine lx_nil ?_
          refine x_false rfl ?_
          refine x_skip ?_
          refine xs_drawn (E := EE []) mixed (by kernel_rfl) (by kernel_rfl) (by kernel_rfl) ?_
          refine lx_loada 5 rfl rfl Tryz.isAgg37 Tryz.sizeOf37 (by simp) rfl rfl ?_
          refine lx_loada 6 rfl rfl Tryz.isAgg37 Tryz.sizeOf37 (by simp) rfl rfl ?_
          refine lx_call rfl rfl ent44 (r5inv _) rfl rfl ?_
          refine lx_call rfl rfl ent11 (r5mul _ _) rfl rfl ?_
          refine lx_loada 3 rfl rfl Tryz.isAgg37 Tryz.sizeOf37 (by simp) rfl rfl ?_
          refine lx_loada 7 rfl rfl Tryz.isAgg37 Tryz.sizeOf37 (by simp) rfl rfl ?_
          refine lx_call rfl rfl ent11 (r5mul _ _) rfl rfl ?_
          refine lx_loada 8 rfl rfl Tryz.isAgg37 Tryz.sizeOf37 (by simp) rfl rfl ?_
          refine lx_call rfl rfl ent44 (r5inv _) rfl rfl ?_
          refine lx_call rfl rfl ent11 (r5mul _ _) rfl rfl ?_
          refine lx_call rfl rfl ent61 (r9at _ _) rfl rfl ?_
          refine lx_storea 4 hGF rfl rfl rfl Tryz.sizeOf51 (by simp) (by simp) (one_u64 _) rfl ?_
          refine lx_nil ?_
          refine x_ret ?_
          repeat (first | refine kseq_ret ?_ | refine kblk_ret ?_)
          exact kret_own 4 rfl rfl rfl Tryz.isAgg51 Tryz.sizeOf51 (by simp) (fun w hw => ⟨rfl, hp_below hw⟩)
theorem rmap {u x r : W2} (h : SwR u x r) : Pure Tryz.prog Gt 27 [EV2 u] (EV6 (XIs x, YIs x (sgS r u), on2)) := by
  intro w hw
  have hGF : BOk Gt (pl w) := gt_low.plain hw
  refine calls_of_X (G := Gt) Tryz.func27 rfl rfl (Hp (pl w) []) (hp_refl (pl w) trivial rides_true) (good_hp hGF) ?_
  refine xs_plain (E := EE []) ?_
  refine lx_boxr 1 hGF rfl rfl rfl ?_
  intro b1
  refine lx_allocr 2 hGF zv51 rfl rfl ?_
  intro b2
  refine lx_nil ?_
  refine xs_plain (E := EE []) ?_
  refine lx_loada 1 rfl rfl Tryz.isAgg37 Tryz.sizeOf37 (by simp) rfl rfl ?_
  refine lx_call rfl rfl ent9 (rswu h) rfl rfl ?_
  refine lx_ext rfl rfl rfl rfl ?_
  refine lx_ext rfl rfl rfl rfl ?_
  refine lx_call rfl rfl ent20 (riso _ _ h.on) rfl rfl ?_
  refine lx_storea 2 hGF rfl rfl rfl Tryz.sizeOf51 (by simp) (by simp) (one_u64 _) rfl ?_
  refine lx_nil ?_
  refine x_ret ?_
  repeat (first | refine kseq_ret ?_ | refine kblk_ret ?_)
  exact kret_own 2 rfl rfl rfl Tryz.isAgg51 Tryz.sizeOf51 (by simp) (fun w hw => ⟨rfl, hp_below hw⟩)
end Go.Proofs.YtdkmalaffcfoeaaGreatDoor
