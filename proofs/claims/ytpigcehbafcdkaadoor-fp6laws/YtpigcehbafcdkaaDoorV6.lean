/-
  What the laws of layer 6 share; the law Fp6Reckons.
-/
import Derived.Test.YtpigcehbafcdkaaDoorXB
namespace Go.Proofs.YtpigcehbafcdkaaDoor
open Go.RowKit
set_option maxRecDepth 100000
set_option maxHeartbeats 1000000
attribute [local simp] fe_len nm_len AS_len SS_len MONT_len RM_len FRs_len BYs_len by48_len PLl TWOl ONEl N1l IVPl HFPl RTPl FL_len SP_len fe2_len SP2_len FM_len FF_len

theorem small5r (a b : BitVec 64) : Pure Tryd.prog Gt 22 [U64 a, U64 b] (EV2 (sm2 a b)) := by
  intro w hw
  have hGF : BOk Gt (pl w) := gt_low.plain hw
  refine calls_of_X (G := Gt) Tryd.func22 rfl rfl (Hp (pl w) []) (hp_refl (pl w) trivial rides_true) (good_hp hGF) ?_
  refine xs_plain (E := EE []) ?_
  refine lx_allocr 4 hGF zv43 rfl rfl ?_
  intro b4
  refine lx_nil ?_
  refine xs_plain (E := EE []) ?_
  refine lx_move rfl rfl rfl ?_
  refine lx_call rfl rfl ent45 (rsmallE _) rfl rfl ?_
  refine lx_move rfl rfl rfl ?_
  refine lx_call rfl rfl ent45 (rsmallE _) rfl rfl ?_
  refine lx_two two43 rfl rfl (by simp) (by simp) rfl rfl ?_
  refine lx_storea 4 hGF rfl rfl rfl Tryd.sizeOf43 (by simp) (by simp) (one_u64 _) rfl ?_
  refine lx_nil ?_
  refine x_ret ?_
  repeat (first | refine kseq_ret ?_ | refine kblk_ret ?_)
  exact kret_own 4 rfl rfl rfl Tryd.isAgg43 Tryd.sizeOf43 (by simp) (fun w hw => ⟨rfl, hp_below hw⟩)
theorem k6eq0 (x : W6) (a : W2) : Pure Tryd.prog Gt 9 [EV6 x, .agg (((fe a.1 ++ fe a.2) ++ ((fe 0 ++ fe 0) ++ (fe 0 ++ fe 0))).map U64).toArray] (.bool (decide (x = (a, ze2, ze2)))) := k6equal x (a, ze2, ze2)
theorem k6eq2 (x : W6) (a : W2) : Pure Tryd.prog Gt 9 [EV6 x, .agg (((fe 0 ++ fe 0) ++ ((fe 0 ++ fe 0) ++ (fe a.1 ++ fe a.2))).map U64).toArray] (.bool (decide (x = (ze2, ze2, a)))) := k6equal x (ze2, ze2, a)
theorem kn1 : K6.mul (K6.mul VE VE) VE = (sm2 1#64 1#64, ze2, ze2) := ve_cube.trans (by decide +kernel)
theorem kn2 : K6.mul VE VE = (ze2, ze2, sm2 1#64 0#64) := ve_sq.trans (by decide +kernel)
abbrev RX (x : W6) : Nat → W2 := ev3 x.1 x.2.1 x.2.2
theorem tq_RX (x : W6) : tq (RX x) = r6 x := rfl
theorem eqT {f g : Nat → W2} (h : tq f = tq g) : decide (FM (FF f) 6 = FM (FF g) 6) = true := (FF_dec f g).trans (decide_eq_true h)
theorem RX_dec (x y : W6) : decide (FM (FF (RX x)) 6 = FM (FF (RX y)) 6) = decide (x = y) := (FF_dec _ _).trans (decide_eq_decide.2 ⟨fun h => r6_inj h, fun h => by rw [h]⟩)
theorem RX_zero (x : W6) : decide (FM (FF (RX x)) 6 = FM (FF fun _ => ze2) 6) = decide (x = K6.zero) := (FF_dec _ _).trans (decide_eq_decide.2 ⟨fun h => r6_inj (y := K6.zero) h, fun h => by rw [h]; rfl⟩)
theorem q_add (x y : W6) : decide (FM (FF (RX (K6.add x y))) 6 = FM (FF fun i => ad2 (RX x i) (RX y i)) 6) = true := eqT (r6_add x y).symm
theorem q_sub (x y : W6) : decide (FM (FF (RX (sb6 x y))) 6 = FM (FF fun i => ad2 (RX x i) (ng2 (RX y i))) 6) = true := eqT (r6_sub x y).symm
theorem q_neg (x : W6) : decide (FM (FF (RX (K6.neg x))) 6 = FM (FF fun i => ng2 (RX x i)) 6) = true := eqT (r6_neg x).symm
theorem q_mul (x y : W6) : decide (FM (FF (RX (K6.mul x y))) 6 = FM (FF (TMf (RX x) (RX y))) 6) = true := eqT ((tq_mul (RX x) (RX y)).trans (r6_mul x y)).symm
theorem q_scale (x : W6) (c : W2) : decide (FM (FF (RX (sc6 x c))) 6 = FM (FF (TMf (RX x) (ev1 0 c))) 6) = true := eqT ((tq_mul (RX x) (ev1 0 c)).trans (r6_scale x c)).symm
theorem q_v (x : W6) : decide (FM (FF (RX (v6 x))) 6 = FM (FF (TMf (RX x) (ev1 2 on2))) 6) = true := eqT ((tq_mul (RX x) (ev1 2 on2)).trans (r6_v x)).symm
theorem q_inv (x : W6) : decide (FM (FF (RX (iv6 x))) 6 = FM (FF (TIf (RX x))) 6) = true := eqT ((tq_inv (RX x)).trans (r6_inv x)).symm
theorem b_eq (x y : W6) : (decide (x = y) == decide (FM (FF (RX x)) 6 = FM (FF (RX y)) 6)) = true := by rw [RX_dec]; exact beq_self_eq_true _
theorem b_ze (x : W6) : (decide (x = K6.zero) == decide (FM (FF (RX x)) 6 = FM (FF fun _ => ze2) 6)) = true := by rw [RX_zero]; exact beq_self_eq_true _
theorem zeroI6 : Pure Tryd.prog Gt 14 [.agg ((((fe 0 ++ fe 0) ++ ((fe 0 ++ fe 0) ++ (fe 0 ++ fe 0)))).map U64).toArray] (EV6 K6.zero) := by
  have h := k6inv K6.zero
  rw [iv6_ze] at h
  exact h
theorem known6  : Pure Tryd.prog Gt 5 [] (.bool true) := by
  intro w hw
  have hGF : BOk Gt (pl w) := gt_low.plain hw
  refine calls_of_X (G := Gt) Tryd.func5 rfl rfl (Hp (pl w) []) (hp_refl (pl w) trivial rides_true) (good_hp hGF) ?_
  refine xs_plain (E := EE []) ?_
  refine lx_assign rfl rfl rfl ?_
  refine lx_nil ?_
  refine xs_plain (E := EE []) ?_
  refine lx_call rfl rfl ent12 (k6one) rfl rfl ?_
  refine lx_call rfl rfl ent18 (k6v _) rfl rfl ?_
  refine lx_allocr 1 hGF zv32 rfl rfl ?_
  intro b1
  refine lx_storea 1 hGF rfl rfl rfl Tryd.sizeOf32 (by simp) (by simp) (one_u64 _) rfl ?_
  refine lx_nil ?_
  refine xs_drawn (E := EE []) mixed (by kernel_rfl) (by kernel_rfl) (by kernel_rfl) ?_
  refine lx_loada 1 rfl rfl Tryd.isAgg32 Tryd.sizeOf32 (by simp) rfl rfl ?_
  refine lx_loada 1 rfl rfl Tryd.isAgg32 Tryd.sizeOf32 (by simp) rfl rfl ?_
  refine lx_call rfl rfl ent10 (k6mul _ _) rfl rfl ?_
  refine lx_loada 1 rfl rfl Tryd.isAgg32 Tryd.sizeOf32 (by simp) rfl rfl ?_
  refine lx_call rfl rfl ent10 (k6mul _ _) rfl rfl ?_
  refine lx_call rfl rfl ent19 (small5 _ _) rfl rfl ?_
  refine lx_three0 three32 rfl (by simp) rfl rfl ?_
  refine lx_callB true rfl rfl ent9 (k6eq0 _ _) (decide_eq_true kn1) rfl rfl ?_
  refine lx_move rfl rfl rfl ?_
  refine lx_loada 1 rfl rfl Tryd.isAgg32 Tryd.sizeOf32 (by simp) rfl rfl ?_
  refine lx_call rfl rfl ent20 (k6square _) rfl rfl ?_
  refine lx_call rfl rfl ent19 (small5 _ _) rfl rfl ?_
  refine lx_three2 three32 rfl (by simp) rfl rfl ?_
  refine lx_callB true rfl rfl ent9 (k6eq2 _ _) (decide_eq_true kn2) rfl rfl ?_
  refine lx_pick rfl rfl rfl rfl rfl ?_
  refine lx_move rfl rfl rfl ?_
  refine lx_loada 1 rfl rfl Tryd.isAgg32 Tryd.sizeOf32 (by simp) rfl rfl ?_
  refine lx_loada 1 rfl rfl Tryd.isAgg32 Tryd.sizeOf32 (by simp) rfl rfl ?_
  refine lx_call rfl rfl ent14 (k6inv _) rfl rfl ?_
  refine lx_call rfl rfl ent10 (k6mul _ _) rfl rfl ?_
  refine lx_call rfl rfl ent12 (k6one) rfl rfl ?_
  refine lx_callB true rfl rfl ent9 (k6equal _ _) (decide_eq_true (iv6_mul ve_ne)) rfl rfl ?_
  refine lx_pick rfl rfl rfl rfl rfl ?_
  refine lx_move rfl rfl rfl ?_
  refine lx_call rfl rfl ent19 (small5 _ _) rfl rfl ?_
  refine lx_call rfl rfl ent22 (small5r _ _) rfl rfl ?_
  refine lx_callB true rfl rfl ent21 (same5 _ _) (decide_eq_true rfl) rfl rfl ?_
  refine lx_pick rfl rfl rfl rfl rfl ?_
  refine lx_assign rfl rfl rfl ?_
  refine lx_nil ?_
  refine x_ret ?_
  repeat (first | refine kseq_ret ?_ | refine kblk_ret ?_)
  exact kret_tmp rfl rfl (fun w hw => ⟨rfl, hp_below hw⟩)
end Go.Proofs.YtpigcehbafcdkaaDoor
