/-
  What the laws of layer 7 share; Fp12Reckons, Fp12Norms.
-/
import Derived.Test.YtbpifgcbkhohbaaDoorW2
namespace Go.Proofs.YtbpifgcbkhohbaaDoor
open Go.RowKit
set_option maxRecDepth 100000
set_option maxHeartbeats 1000000
attribute [local simp] fe_len nm_len AS_len SS_len MONT_len RM_len FRs_len BYs_len by48_len PLl TWOl ONEl N1l IVPl HFPl RTPl FL_len SP_len fe2_len SP2_len FM_len FF_len
attribute [local simp] ff_len RW_len

theorem small5r (a b : BitVec 64) : Pure Tryd.prog Gt 25 [U64 a, U64 b] (EV2 (sm2 a b)) := by
  intro w hw
  have hGF : BOk Gt (pl w) := gt_low.plain hw
  refine calls_of_X (G := Gt) Tryd.func25 rfl rfl (Hp (pl w) []) (hp_refl (pl w) trivial rides_true) (good_hp hGF) ?_
  refine xs_plain (E := EE []) ?_
  refine lx_allocr 4 hGF zv44 rfl rfl ?_
  intro b4
  refine lx_nil ?_
  refine xs_plain (E := EE []) ?_
  refine lx_move rfl rfl rfl ?_
  refine lx_call rfl rfl ent42 (rsmallE _) rfl rfl ?_
  refine lx_move rfl rfl rfl ?_
  refine lx_call rfl rfl ent42 (rsmallE _) rfl rfl ?_
  refine lx_two two44 rfl rfl (by simp) (by simp) rfl rfl ?_
  refine lx_storea 4 hGF rfl rfl rfl Tryd.sizeOf44 (by simp) (by simp) (one_u64 _) rfl ?_
  refine lx_nil ?_
  refine x_ret ?_
  repeat (first | refine kseq_ret ?_ | refine kblk_ret ?_)
  exact kret_own 4 rfl rfl rfl Tryd.isAgg44 Tryd.sizeOf44 (by simp) (fun w hw => ⟨rfl, hp_below hw⟩)
def WE : W12 := (K6.zero, K6.one)
theorem k12eqA (x : W12) (a : W2) : Pure Tryd.prog Gt 10 [EV12 x, .agg ((((fe a.1 ++ fe a.2) ++ ((fe 0 ++ fe 0) ++ (fe 0 ++ fe 0))) ++ ((fe 0 ++ fe 0) ++ ((fe 0 ++ fe 0) ++ (fe 0 ++ fe 0)))).map U64).toArray] (.bool (decide (x = ((a, ze2, ze2), K6.zero)))) := k12equal x ((a, ze2, ze2), K6.zero)
theorem kw1 : K12.mul (K12.mul (K12.mul WE WE) (K12.mul WE WE)) (K12.mul WE WE) = ((sm2 1#64 1#64, ze2, ze2), K6.zero) := by decide +kernel
theorem kw2 : WE ≠ K12.zero := by decide +kernel
theorem kw3 : K12.add (cj12 WE) WE = K12.zero := by decide +kernel
theorem eqT {f g : Nat → W2} (h : tq f = tq g) : decide (FM (FF f) 6 = FM (FF g) 6) = true := (FF_dec f g).trans (decide_eq_true h)
theorem PX_dec (x y : W12) : decide (FM (FF (p12 x)) 6 = FM (FF (p12 y)) 6) = decide (x = y) := FF_dec _ _
theorem PX_zero (x : W12) : decide (FM (FF (p12 x)) 6 = FM (FF fun _ => ze2) 6) = decide (x = K12.zero) := FF_dec _ _
theorem known7  : Pure Tryd.prog Gt 6 [] (.bool true) := by
  intro w hw
  have hGF : BOk Gt (pl w) := gt_low.plain hw
  refine calls_of_X (G := Gt) Tryd.func6 rfl rfl (Hp (pl w) []) (hp_refl (pl w) trivial rides_true) (good_hp hGF) ?_
  refine xs_plain (E := EE []) ?_
  refine lx_assign rfl rfl rfl ?_
  refine lx_nil ?_
  refine xs_plain (E := EE []) ?_
  refine lx_call rfl rfl ent22 (k6one) rfl rfl ?_
  refine lx_twoB two34 rfl (by simp) rfl rfl ?_
  refine lx_allocr 1 hGF zv34 rfl rfl ?_
  intro b1
  refine lx_storea 1 hGF rfl rfl rfl Tryd.sizeOf34 (by simp) (by simp) (one_u64 _) rfl ?_
  refine lx_nil ?_
  refine xs_plain (E := EE []) ?_
  refine lx_loada 1 rfl rfl Tryd.isAgg34 Tryd.sizeOf34 (by simp) rfl rfl ?_
  refine lx_call rfl rfl ent23 (k12square WE) rfl rfl ?_
  refine lx_allocr 2 hGF zv34 rfl rfl ?_
  intro b2
  refine lx_storea 2 hGF rfl rfl rfl Tryd.sizeOf34 (by simp) (by simp) (one_u64 _) rfl ?_
  refine lx_nil ?_
  refine xs_drawnT (E := EE []) [(8, [2], []), (9, [2], []), (10, [7, 8], [0, 1]), (11, [2], []), (12, [9, 10], [2, 3, 2]), (13, [], [4]), (14, [12], [5]), (15, [13], [6]), (16, [11, 14], [4, 7, 5]), (17, [15], [8, 8]), (18, [1, 16], [9]), (19, [1, 16], [9]), (20, [18, 16], [11, 9, 9]), (21, [17, 19, 16], [10, 12, 12, 9]), (22, [16], [13, 9]), (23, [20, 21, 16], [13, 14, 14, 9]), (24, [16, 22], [9, 15]), (25, [23], [16, 15]), (26, [1, 24], [17]), (27, [25, 24], [18, 17, 17]), (28, [1, 24], [17]), (29, [26, 27, 24], [19, 20, 19, 17]), (30, [28, 24], [21, 21, 17]), (31, [24, 29], [17, 22]), (32, [30], [23, 22]), (33, [31], [24, 24]), (34, [31], [25, 24]), (35, [32, 33, 31], [25, 26, 26, 24]), (36, [31, 34], [24, 27]), (1, [35], [28, 27, 0, 1, 2, 3, 4, 5, 6, 7, 8, 9, 10, 11, 12, 13, 14, 15, 16, 17, 18, 19, 20, 21, 22, 23, 24, 25, 26, 27, 28])] mixed (by kernel_rfl) (by kernel_rfl) (by kernel_rfl) (by kernel_rfl) (by kernel_rfl) ?_
  refine lx_loada 2 rfl rfl Tryd.isAgg34 Tryd.sizeOf34 (by simp) rfl rfl ?_
  refine lx_loada 2 rfl rfl Tryd.isAgg34 Tryd.sizeOf34 (by simp) rfl rfl ?_
  refine lx_call rfl rfl ent9 (k12mul _ _) rfl rfl ?_
  refine lx_loada 2 rfl rfl Tryd.isAgg34 Tryd.sizeOf34 (by simp) rfl rfl ?_
  refine lx_call rfl rfl ent9 (k12mul _ _) rfl rfl ?_
  refine lx_call rfl rfl ent24 (small5 _ _) rfl rfl ?_
  refine lx_three0 three32 rfl (by simp) rfl rfl ?_
  refine lx_twoA two34 rfl (by simp) rfl rfl ?_
  refine lx_callB true rfl rfl ent10 (k12eqA _ _) (decide_eq_true kw1) rfl rfl ?_
  refine lx_move rfl rfl rfl ?_
  refine lx_loada 1 rfl rfl Tryd.isAgg34 Tryd.sizeOf34 (by simp) rfl rfl ?_
  refine lx_loada 1 rfl rfl Tryd.isAgg34 Tryd.sizeOf34 (by simp) rfl rfl ?_
  refine lx_call rfl rfl ent15 (k12inv WE) rfl rfl ?_
  refine lx_call rfl rfl ent9 (k12mul WE _) rfl rfl ?_
  refine lx_call rfl rfl ent13 (k12one) rfl rfl ?_
  refine lx_callB true rfl rfl ent10 (k12equal _ _) (decide_eq_true (iv12_mul kw2)) rfl rfl ?_
  refine lx_pick rfl rfl rfl rfl rfl ?_
  refine lx_move rfl rfl rfl ?_
  refine lx_loada 1 rfl rfl Tryd.isAgg34 Tryd.sizeOf34 (by simp) rfl rfl ?_
  refine lx_call rfl rfl ent20 (k12conj WE) rfl rfl ?_
  refine lx_loada 1 rfl rfl Tryd.isAgg34 Tryd.sizeOf34 (by simp) rfl rfl ?_
  refine lx_call rfl rfl ent11 (k12add _ WE) rfl rfl ?_
  refine lx_callB true rfl rfl ent14 (k12isZero _) (decide_eq_true kw3) rfl rfl ?_
  refine lx_pick rfl rfl rfl rfl rfl ?_
  refine lx_move rfl rfl rfl ?_
  refine lx_call rfl rfl ent24 (small5 _ _) rfl rfl ?_
  refine lx_call rfl rfl ent25 (small5r _ _) rfl rfl ?_
  refine lx_callB true rfl rfl ent18 (same5 _ _) (decide_eq_true rfl) rfl rfl ?_
  refine lx_pick rfl rfl rfl rfl rfl ?_
  refine lx_assign rfl rfl rfl ?_
  refine lx_nil ?_
  refine x_ret ?_
  repeat (first | refine kseq_ret ?_ | refine kblk_ret ?_)
  exact kret_tmp rfl rfl (fun w hw => ⟨rfl, hp_below hw⟩)
theorem nm_odd (x : W12) : (K12.mul x (cj12 x)).2 = K6.zero := congrArg Prod.snd (cj12_norm x)
theorem nm_ze {x : W12} (h : x = K12.zero) : K12.mul x (cj12 x) = K12.zero := by rw [h]; exact K12.zero_mul _
theorem norms7 (e0 : Option Addr) (cap0 : Nat) (bs0 : List (BitVec 8)) (hcap0 : bs0.length ≤ cap0) (e1 : Option Addr) (cap1 : Nat) (bs1 : List (BitVec 8)) (hcap1 : bs1.length ≤ cap1) (w : World) (hw : Gt w) (hb0 : BytesAt w e0 bs0) (hb1 : BytesAt w e1 bs1) :
    Calls Tryd.prog 5 [.slice e0 bs0.length cap0, .slice e1 bs1.length cap1].toArray w (fun r w' => r = .returned (.bool true) ∧ Grow w w') := by
  have hGF : BOk Gt (pl w) := gt_low.plain hw
  by_cases h0 : TWV bs0 = K12.zero
  · skip
    refine calls_of_X (G := Gt) Tryd.func5 rfl rfl (Hp (pl w) []) (hp_refl (pl w) trivial rides_true) (good_hp hGF) ?_
    refine xs_plain (E := EE []) ?_
    refine lx_assign rfl rfl rfl ?_
    refine lx_nil ?_
    refine x_seq ?_
    refine xs_plain (E := EE []) ?_
    refine lx_callB true rfl rfl ent6 (known7) (rfl) rfl rfl ?_
    refine lx_un rfl (fun _ => un_not _) rfl rfl ?_
    refine lx_nil ?_
    refine x_false rfl ?_
    refine x_skip ?_
    refine x_seq ?_
    refine xs_plain (E := EE []) ?_
    refine lx_move rfl rfl rfl ?_
    refine lx_move rfl rfl rfl ?_
    refine lx_bslV 940 (SVl [(e0, bs0.length, cap0), (e1, bs1.length, cap1)]) hGF rfl rfl rfl (by decide) (by decide) Tryd.underlying58 Tryd.sizeOf22 Tryd.zeroValue22 rfl rfl rfl ?_
    intro b940
    refine lx_callC rfl rfl ent7 (fun w' hC hG => light_calls b940 2 [(e0, bs0.length, cap0), (e1, bs1.length, cap1)] rfl (by decide) w' hG (hp_row (n := 940) rfl w' hC)) rfl rfl ?_
    refine lx_un rfl (fun _ => un_not _) rfl rfl ?_
    refine lx_nil ?_
    refine x_if rfl (fun hc => ?_) (fun hc => ?_)
    · skip
      refine xs_plain (E := EE []) ?_
      refine lx_assign rfl rfl rfl ?_
      refine lx_nil ?_
      refine x_ret ?_
      repeat (first | refine kseq_ret ?_ | refine kblk_ret ?_)
      exact kret_tmp rfl rfl (fun w hw => ⟨rfl, hp_below hw⟩)
    · have hl : ∀ v ∈ [(e0, bs0.length, cap0), (e1, bs1.length, cap1)], v.2.1 ≤ 200 := by simpa using hc
      have hl0 : bs0.length ≤ 200 := hl (e0, bs0.length, cap0) (by simp)
      have hl1 : bs1.length ≤ 200 := hl (e1, bs1.length, cap1) (by simp)
      clear hc hl
      refine x_skip ?_
      refine xs_plain (E := EE []) ?_
      refine lx_move rfl rfl rfl ?_
      refine lx_callC rfl rfl ent8 (fun w' hC hG => twelve_calls e0 cap0 bs0 (by omega) hcap0 w' hG (hb0.grow (hp_below hC))) rfl rfl ?_
      refine lx_move rfl rfl rfl ?_
      refine lx_callC rfl rfl ent8 (fun w' hC hG => twelve_calls e1 cap1 bs1 (by omega) hcap1 w' hG (hb1.grow (hp_below hC))) rfl rfl ?_
      refine lx_allocr 5 hGF zv34 rfl rfl ?_
      intro b5
      refine lx_allocr 6 hGF zv34 rfl rfl ?_
      intro b6
      refine lx_storea 5 hGF rfl rfl rfl Tryd.sizeOf34 (by simp) (by simp) (one_u64 _) rfl ?_
      refine lx_storea 6 hGF rfl rfl rfl Tryd.sizeOf34 (by simp) (by simp) (one_u64 _) rfl ?_
      refine lx_nil ?_
      refine xs_drawA (E := EE [2999999]) [0, 1, 2, 3] [⟨4, 7, 34, (((fe 0 ++ fe 0) ++ ((fe 0 ++ fe 0) ++ (fe 0 ++ fe 0))) ++ ((fe 0 ++ fe 0) ++ ((fe 0 ++ fe 0) ++ (fe 0 ++ fe 0)))).map U64⟩] [5] mixed rfl (by kernel_rfl) (by kernel_rfl) (by kernel_rfl) (by kernel_rfl) (by kernel_rfl) (by kernel_rfl) (by decide) (by intro x hx; simp only [List.mem_cons, List.not_mem_nil, or_false] at hx; subst hx; exact isAlloc_mk rfl zv34 rfl) ?_
      refine lx_loada 5 rfl rfl Tryd.isAgg34 Tryd.sizeOf34 (by simp) rfl rfl ?_
      refine lx_loada 5 rfl rfl Tryd.isAgg34 Tryd.sizeOf34 (by simp) rfl rfl ?_
      refine lx_call rfl rfl ent20 (k12conj _) rfl rfl ?_
      refine lx_call rfl rfl ent9 (k12mul _ _) rfl rfl ?_
      refine lx_nil ?_
      refine ⟨_, _, rfl, hGF, by intro x hx; simp only [List.mem_cons, List.not_mem_nil, or_false] at hx; subst hx; rfl, by intro x hx; simp only [List.mem_cons, List.not_mem_nil, or_false] at hx; subst hx; rfl, fun adr => ?_⟩
      refine lx_storea 7 hGF rfl rfl rfl Tryd.sizeOf34 (by simp) (by simp) (one_u64 _) rfl ?_
      refine lx_nil ?_
      refine x_seq ?_
      refine xs_drawn (E := EE []) mixed (by kernel_rfl) (by kernel_rfl) (by kernel_rfl) ?_
      refine lx_fak 36 rfl Tryd.underlying34 rfl Tryd.sizeOf32 (by decide) rfl rfl rfl ?_
      refine lx_loado 7 _ rfl rfl Tryd.isAgg32 Tryd.sizeOf32 (by simp) (ld_r (by simp)) rfl rfl ?_
      refine lx_callB true rfl rfl ent21 (k6isZero _) (decide_eq_true (nm_odd _)) rfl rfl ?_
      refine lx_un rfl (fun _ => un_not _) rfl rfl ?_
      refine lx_move rfl rfl rfl ?_
      refine lx_loada 5 rfl rfl Tryd.isAgg34 Tryd.sizeOf34 (by simp) rfl rfl ?_
      refine lx_loada 6 rfl rfl Tryd.isAgg34 Tryd.sizeOf34 (by simp) rfl rfl ?_
      refine lx_call rfl rfl ent9 (k12mul _ _) rfl rfl ?_
      refine lx_call rfl rfl ent20 (k12conj _) rfl rfl ?_
      refine lx_loada 5 rfl rfl Tryd.isAgg34 Tryd.sizeOf34 (by simp) rfl rfl ?_
      refine lx_call rfl rfl ent20 (k12conj _) rfl rfl ?_
      refine lx_loada 6 rfl rfl Tryd.isAgg34 Tryd.sizeOf34 (by simp) rfl rfl ?_
      refine lx_call rfl rfl ent20 (k12conj _) rfl rfl ?_
      refine lx_call rfl rfl ent9 (k12mul _ _) rfl rfl ?_
      refine lx_callB true rfl rfl ent10 (k12equal _ _) (decide_eq_true (cj12_mul _ _)) rfl rfl ?_
      refine lx_un rfl (fun _ => un_not _) rfl rfl ?_
      refine lx_pick rfl rfl rfl rfl rfl ?_
      refine lx_move rfl rfl rfl ?_
      refine lx_loada 5 rfl rfl Tryd.isAgg34 Tryd.sizeOf34 (by simp) rfl rfl ?_
      refine lx_call rfl rfl ent20 (k12conj _) rfl rfl ?_
      refine lx_call rfl rfl ent20 (k12conj _) rfl rfl ?_
      refine lx_loada 5 rfl rfl Tryd.isAgg34 Tryd.sizeOf34 (by simp) rfl rfl ?_
      refine lx_callB true rfl rfl ent10 (k12equal _ _) (decide_eq_true (cj12_cj _)) rfl rfl ?_
      refine lx_un rfl (fun _ => un_not _) rfl rfl ?_
      refine lx_pick rfl rfl rfl rfl rfl ?_
      refine lx_nil ?_
      refine x_false rfl ?_
      refine x_skip ?_
      refine x_seq ?_
      refine xs_plain (E := EE []) ?_
      refine lx_loada 5 rfl rfl Tryd.isAgg34 Tryd.sizeOf34 (by simp) rfl rfl ?_
      refine lx_callB true rfl rfl ent14 (k12isZero _) (decide_eq_true (h0)) rfl rfl ?_
      refine lx_nil ?_
      refine x_true rfl ?_
      refine xs_plain (E := EE []) ?_
      refine lx_loada 7 rfl rfl Tryd.isAgg34 Tryd.sizeOf34 (by simp) rfl rfl ?_
      refine lx_callB true rfl rfl ent14 (k12isZero _) (decide_eq_true (nm_ze h0)) rfl rfl ?_
      refine lx_assign rfl rfl rfl ?_
      refine lx_nil ?_
      refine x_ret ?_
      repeat (first | refine kseq_ret ?_ | refine kblk_ret ?_)
      exact kret_tmp rfl rfl (fun w hw => ⟨rfl, hp_below hw⟩)
  · skip
    refine calls_of_X (G := Gt) Tryd.func5 rfl rfl (Hp (pl w) []) (hp_refl (pl w) trivial rides_true) (good_hp hGF) ?_
    refine xs_plain (E := EE []) ?_
    refine lx_assign rfl rfl rfl ?_
    refine lx_nil ?_
    refine x_seq ?_
    refine xs_plain (E := EE []) ?_
    refine lx_callB true rfl rfl ent6 (known7) (rfl) rfl rfl ?_
    refine lx_un rfl (fun _ => un_not _) rfl rfl ?_
    refine lx_nil ?_
    refine x_false rfl ?_
    refine x_skip ?_
    refine x_seq ?_
    refine xs_plain (E := EE []) ?_
    refine lx_move rfl rfl rfl ?_
    refine lx_move rfl rfl rfl ?_
    refine lx_bslV 940 (SVl [(e0, bs0.length, cap0), (e1, bs1.length, cap1)]) hGF rfl rfl rfl (by decide) (by decide) Tryd.underlying58 Tryd.sizeOf22 Tryd.zeroValue22 rfl rfl rfl ?_
    intro b940
    refine lx_callC rfl rfl ent7 (fun w' hC hG => light_calls b940 2 [(e0, bs0.length, cap0), (e1, bs1.length, cap1)] rfl (by decide) w' hG (hp_row (n := 940) rfl w' hC)) rfl rfl ?_
    refine lx_un rfl (fun _ => un_not _) rfl rfl ?_
    refine lx_nil ?_
    refine x_if rfl (fun hc => ?_) (fun hc => ?_)
    · skip
      refine xs_plain (E := EE []) ?_
      refine lx_assign rfl rfl rfl ?_
      refine lx_nil ?_
      refine x_ret ?_
      repeat (first | refine kseq_ret ?_ | refine kblk_ret ?_)
      exact kret_tmp rfl rfl (fun w hw => ⟨rfl, hp_below hw⟩)
    · have hl : ∀ v ∈ [(e0, bs0.length, cap0), (e1, bs1.length, cap1)], v.2.1 ≤ 200 := by simpa using hc
      have hl0 : bs0.length ≤ 200 := hl (e0, bs0.length, cap0) (by simp)
      have hl1 : bs1.length ≤ 200 := hl (e1, bs1.length, cap1) (by simp)
      clear hc hl
      refine x_skip ?_
      refine xs_plain (E := EE []) ?_
      refine lx_move rfl rfl rfl ?_
      refine lx_callC rfl rfl ent8 (fun w' hC hG => twelve_calls e0 cap0 bs0 (by omega) hcap0 w' hG (hb0.grow (hp_below hC))) rfl rfl ?_
      refine lx_move rfl rfl rfl ?_
      refine lx_callC rfl rfl ent8 (fun w' hC hG => twelve_calls e1 cap1 bs1 (by omega) hcap1 w' hG (hb1.grow (hp_below hC))) rfl rfl ?_
      refine lx_allocr 5 hGF zv34 rfl rfl ?_
      intro b5
      refine lx_allocr 6 hGF zv34 rfl rfl ?_
      intro b6
      refine lx_storea 5 hGF rfl rfl rfl Tryd.sizeOf34 (by simp) (by simp) (one_u64 _) rfl ?_
      refine lx_storea 6 hGF rfl rfl rfl Tryd.sizeOf34 (by simp) (by simp) (one_u64 _) rfl ?_
      refine lx_nil ?_
      refine xs_drawA (E := EE [2999999]) [0, 1, 2, 3] [⟨4, 7, 34, (((fe 0 ++ fe 0) ++ ((fe 0 ++ fe 0) ++ (fe 0 ++ fe 0))) ++ ((fe 0 ++ fe 0) ++ ((fe 0 ++ fe 0) ++ (fe 0 ++ fe 0)))).map U64⟩] [5] mixed rfl (by kernel_rfl) (by kernel_rfl) (by kernel_rfl) (by kernel_rfl) (by kernel_rfl) (by kernel_rfl) (by decide) (by intro x hx; simp only [List.mem_cons, List.not_mem_nil, or_false] at hx; subst hx; exact isAlloc_mk rfl zv34 rfl) ?_
      refine lx_loada 5 rfl rfl Tryd.isAgg34 Tryd.sizeOf34 (by simp) rfl rfl ?_
      refine lx_loada 5 rfl rfl Tryd.isAgg34 Tryd.sizeOf34 (by simp) rfl rfl ?_
      refine lx_call rfl rfl ent20 (k12conj _) rfl rfl ?_
      refine lx_call rfl rfl ent9 (k12mul _ _) rfl rfl ?_
      refine lx_nil ?_
      refine ⟨_, _, rfl, hGF, by intro x hx; simp only [List.mem_cons, List.not_mem_nil, or_false] at hx; subst hx; rfl, by intro x hx; simp only [List.mem_cons, List.not_mem_nil, or_false] at hx; subst hx; rfl, fun adr => ?_⟩
      refine lx_storea 7 hGF rfl rfl rfl Tryd.sizeOf34 (by simp) (by simp) (one_u64 _) rfl ?_
      refine lx_nil ?_
      refine x_seq ?_
      refine xs_drawn (E := EE []) mixed (by kernel_rfl) (by kernel_rfl) (by kernel_rfl) ?_
      refine lx_fak 36 rfl Tryd.underlying34 rfl Tryd.sizeOf32 (by decide) rfl rfl rfl ?_
      refine lx_loado 7 _ rfl rfl Tryd.isAgg32 Tryd.sizeOf32 (by simp) (ld_r (by simp)) rfl rfl ?_
      refine lx_callB true rfl rfl ent21 (k6isZero _) (decide_eq_true (nm_odd _)) rfl rfl ?_
      refine lx_un rfl (fun _ => un_not _) rfl rfl ?_
      refine lx_move rfl rfl rfl ?_
      refine lx_loada 5 rfl rfl Tryd.isAgg34 Tryd.sizeOf34 (by simp) rfl rfl ?_
      refine lx_loada 6 rfl rfl Tryd.isAgg34 Tryd.sizeOf34 (by simp) rfl rfl ?_
      refine lx_call rfl rfl ent9 (k12mul _ _) rfl rfl ?_
      refine lx_call rfl rfl ent20 (k12conj _) rfl rfl ?_
      refine lx_loada 5 rfl rfl Tryd.isAgg34 Tryd.sizeOf34 (by simp) rfl rfl ?_
      refine lx_call rfl rfl ent20 (k12conj _) rfl rfl ?_
      refine lx_loada 6 rfl rfl Tryd.isAgg34 Tryd.sizeOf34 (by simp) rfl rfl ?_
      refine lx_call rfl rfl ent20 (k12conj _) rfl rfl ?_
      refine lx_call rfl rfl ent9 (k12mul _ _) rfl rfl ?_
      refine lx_callB true rfl rfl ent10 (k12equal _ _) (decide_eq_true (cj12_mul _ _)) rfl rfl ?_
      refine lx_un rfl (fun _ => un_not _) rfl rfl ?_
      refine lx_pick rfl rfl rfl rfl rfl ?_
      refine lx_move rfl rfl rfl ?_
      refine lx_loada 5 rfl rfl Tryd.isAgg34 Tryd.sizeOf34 (by simp) rfl rfl ?_
      refine lx_call rfl rfl ent20 (k12conj _) rfl rfl ?_
      refine lx_call rfl rfl ent20 (k12conj _) rfl rfl ?_
      refine lx_loada 5 rfl rfl Tryd.isAgg34 Tryd.sizeOf34 (by simp) rfl rfl ?_
      refine lx_callB true rfl rfl ent10 (k12equal _ _) (decide_eq_true (cj12_cj _)) rfl rfl ?_
      refine lx_un rfl (fun _ => un_not _) rfl rfl ?_
      refine lx_pick rfl rfl rfl rfl rfl ?_
      refine lx_nil ?_
      refine x_false rfl ?_
      refine x_skip ?_
      refine x_seq ?_
      refine xs_plain (E := EE []) ?_
      refine lx_loada 5 rfl rfl Tryd.isAgg34 Tryd.sizeOf34 (by simp) rfl rfl ?_
      refine lx_callB false rfl rfl ent14 (k12isZero _) (decide_eq_false (h0)) rfl rfl ?_
      refine lx_nil ?_
      refine x_false rfl ?_
      refine x_skip ?_
      refine xs_drawA (E := EE [2999999]) [0, 1, 2, 3, 4] [⟨5, 8, 34, (((fe 0 ++ fe 0) ++ ((fe 0 ++ fe 0) ++ (fe 0 ++ fe 0))) ++ ((fe 0 ++ fe 0) ++ ((fe 0 ++ fe 0) ++ (fe 0 ++ fe 0)))).map U64⟩] [6] mixed rfl (by kernel_rfl) (by kernel_rfl) (by kernel_rfl) (by kernel_rfl) (by kernel_rfl) (by kernel_rfl) (by decide) (by intro x hx; simp only [List.mem_cons, List.not_mem_nil, or_false] at hx; subst hx; exact isAlloc_mk rfl zv34 rfl) ?_
      refine lx_loada 5 rfl rfl Tryd.isAgg34 Tryd.sizeOf34 (by simp) rfl rfl ?_
      refine lx_loada 5 rfl rfl Tryd.isAgg34 Tryd.sizeOf34 (by simp) rfl rfl ?_
      refine lx_call rfl rfl ent20 (k12conj _) rfl rfl ?_
      refine lx_call rfl rfl ent15 (k12inv _) rfl rfl ?_
      refine lx_call rfl rfl ent9 (k12mul _ _) rfl rfl ?_
      refine lx_nil ?_
      refine ⟨_, _, rfl, hGF, by intro x hx; simp only [List.mem_cons, List.not_mem_nil, or_false] at hx; subst hx; rfl, by intro x hx; simp only [List.mem_cons, List.not_mem_nil, or_false] at hx; subst hx; rfl, fun adr => ?_⟩
      refine lx_storea 8 hGF rfl rfl rfl Tryd.sizeOf34 (by simp) (by simp) (one_u64 _) rfl ?_
      refine lx_nil ?_
      refine xs_drawn (E := EE []) mixed (by kernel_rfl) (by kernel_rfl) (by kernel_rfl) ?_
      refine lx_loada 8 rfl rfl Tryd.isAgg34 Tryd.sizeOf34 (by simp) rfl rfl ?_
      refine lx_call rfl rfl ent20 (k12conj _) rfl rfl ?_
      refine lx_loada 8 rfl rfl Tryd.isAgg34 Tryd.sizeOf34 (by simp) rfl rfl ?_
      refine lx_call rfl rfl ent9 (k12mul _ _) rfl rfl ?_
      refine lx_call rfl rfl ent13 (k12one) rfl rfl ?_
      refine lx_callB true rfl rfl ent10 (k12equal _ _) (decide_eq_true (unit12 h0)) rfl rfl ?_
      refine lx_move rfl rfl rfl ?_
      refine lx_loada 8 rfl rfl Tryd.isAgg34 Tryd.sizeOf34 (by simp) rfl rfl ?_
      refine lx_call rfl rfl ent20 (k12conj _) rfl rfl ?_
      refine lx_loada 8 rfl rfl Tryd.isAgg34 Tryd.sizeOf34 (by simp) rfl rfl ?_
      refine lx_call rfl rfl ent15 (k12inv _) rfl rfl ?_
      refine lx_callB true rfl rfl ent10 (k12equal _ _) (decide_eq_true (unit12_inv (unit12 h0))) rfl rfl ?_
      refine lx_pick rfl rfl rfl rfl rfl ?_
      refine lx_assign rfl rfl rfl ?_
      refine lx_nil ?_
      refine x_ret ?_
      repeat (first | refine kseq_ret ?_ | refine kblk_ret ?_)
      exact kret_tmp rfl rfl (fun w hw => ⟨rfl, hp_below hw⟩)
theorem laws7 (e0 : Option Addr) (cap0 : Nat) (bs0 : List (BitVec 8)) (hcap0 : bs0.length ≤ cap0) (e1 : Option Addr) (cap1 : Nat) (bs1 : List (BitVec 8)) (hcap1 : bs1.length ≤ cap1) (e2 : Option Addr) (cap2 : Nat) (bs2 : List (BitVec 8)) (hcap2 : bs2.length ≤ cap2) (w : World) (hw : Gt w) (hb0 : BytesAt w e0 bs0) (hb1 : BytesAt w e1 bs1) (hb2 : BytesAt w e2 bs2) :
    Calls Tryd.prog 3 [.slice e0 bs0.length cap0, .slice e1 bs1.length cap1, .slice e2 bs2.length cap2].toArray w (fun r w' => r = .returned (.bool true) ∧ Grow w w') := by
  have hGF : BOk Gt (pl w) := gt_low.plain hw
  by_cases h0 : TWV bs0 = K12.zero
  · skip
    refine calls_of_X (G := Gt) Tryd.func3 rfl rfl (Hp (pl w) []) (hp_refl (pl w) trivial rides_true) (good_hp hGF) ?_
    refine xs_plain (E := EE []) ?_
    refine lx_assign rfl rfl rfl ?_
    refine lx_nil ?_
    refine x_seq ?_
    refine xs_plain (E := EE []) ?_
    refine lx_callB true rfl rfl ent6 (known7) (rfl) rfl rfl ?_
    refine lx_un rfl (fun _ => un_not _) rfl rfl ?_
    refine lx_nil ?_
    refine x_false rfl ?_
    refine x_skip ?_
    refine x_seq ?_
    refine xs_plain (E := EE []) ?_
    refine lx_move rfl rfl rfl ?_
    refine lx_move rfl rfl rfl ?_
    refine lx_move rfl rfl rfl ?_
    refine lx_bslV 940 (SVl [(e0, bs0.length, cap0), (e1, bs1.length, cap1), (e2, bs2.length, cap2)]) hGF rfl rfl rfl (by decide) (by decide) Tryd.underlying58 Tryd.sizeOf22 Tryd.zeroValue22 rfl rfl rfl ?_
    intro b940
    refine lx_callC rfl rfl ent7 (fun w' hC hG => light_calls b940 3 [(e0, bs0.length, cap0), (e1, bs1.length, cap1), (e2, bs2.length, cap2)] rfl (by decide) w' hG (hp_row (n := 940) rfl w' hC)) rfl rfl ?_
    refine lx_un rfl (fun _ => un_not _) rfl rfl ?_
    refine lx_nil ?_
    refine x_if rfl (fun hc => ?_) (fun hc => ?_)
    · skip
      refine xs_plain (E := EE []) ?_
      refine lx_assign rfl rfl rfl ?_
      refine lx_nil ?_
      refine x_ret ?_
      repeat (first | refine kseq_ret ?_ | refine kblk_ret ?_)
      exact kret_tmp rfl rfl (fun w hw => ⟨rfl, hp_below hw⟩)
    · have hl : ∀ v ∈ [(e0, bs0.length, cap0), (e1, bs1.length, cap1), (e2, bs2.length, cap2)], v.2.1 ≤ 200 := by simpa using hc
      have hl0 : bs0.length ≤ 200 := hl (e0, bs0.length, cap0) (by simp)
      have hl1 : bs1.length ≤ 200 := hl (e1, bs1.length, cap1) (by simp)
      have hl2 : bs2.length ≤ 200 := hl (e2, bs2.length, cap2) (by simp)
      clear hc hl
      refine x_skip ?_
      refine xs_plain (E := EE []) ?_
      refine lx_move rfl rfl rfl ?_
      refine lx_callC rfl rfl ent8 (fun w' hC hG => twelve_calls e0 cap0 bs0 (by omega) hcap0 w' hG (hb0.grow (hp_below hC))) rfl rfl ?_
      refine lx_move rfl rfl rfl ?_
      refine lx_callC rfl rfl ent8 (fun w' hC hG => twelve_calls e1 cap1 bs1 (by omega) hcap1 w' hG (hb1.grow (hp_below hC))) rfl rfl ?_
      refine lx_move rfl rfl rfl ?_
      refine lx_callC rfl rfl ent8 (fun w' hC hG => twelve_calls e2 cap2 bs2 (by omega) hcap2 w' hG (hb2.grow (hp_below hC))) rfl rfl ?_
      refine lx_allocr 7 hGF zv34 rfl rfl ?_
      intro b7
      refine lx_allocr 8 hGF zv34 rfl rfl ?_
      intro b8
      refine lx_allocr 9 hGF zv34 rfl rfl ?_
      intro b9
      refine lx_storea 7 hGF rfl rfl rfl Tryd.sizeOf34 (by simp) (by simp) (one_u64 _) rfl ?_
      refine lx_storea 8 hGF rfl rfl rfl Tryd.sizeOf34 (by simp) (by simp) (one_u64 _) rfl ?_
      refine lx_storea 9 hGF rfl rfl rfl Tryd.sizeOf34 (by simp) (by simp) (one_u64 _) rfl ?_
      refine lx_nil ?_
      refine xs_drawnT (E := EE []) [(26, [7], []), (27, [8], []), (28, [25, 26], [0, 1]), (29, [8], []), (30, [7], []), (31, [28, 29], [3, 4, 2]), (32, [27, 30], [2, 5, 5]), (33, [31], [6, 6]), (34, [7, 32], [7]), (35, [8, 32], [7]), (36, [9, 32], [7]), (37, [34, 35, 32], [9, 10, 7, 7]), (38, [33, 36, 32], [8, 11, 11, 7]), (39, [7, 32], [7]), (40, [8, 32], [7]), (41, [38, 39, 32], [13, 14, 12, 7]), (42, [9, 32], [7]), (43, [40, 41, 32], [15, 16, 15, 7]), (44, [37, 42, 32], [12, 17, 17, 7]), (45, [32, 43], [7, 18]), (46, [44], [19, 18]), (47, [7, 45], [20]), (48, [8, 45], [20]), (49, [9, 45], [20]), (50, [47, 48, 45], [22, 23, 20, 20]), (51, [46, 49, 45], [21, 24, 24, 20]), (52, [7, 45], [20]), (53, [8, 45], [20]), (54, [51, 52, 45], [26, 27, 25, 20]), (55, [9, 45], [20]), (56, [53, 54, 45], [28, 29, 28, 20]), (57, [50, 55, 45], [25, 30, 30, 20]), (58, [45, 56], [20, 31]), (59, [57], [32, 31]), (60, [7, 58], [33]), (61, [8, 58], [33]), (62, [9, 58], [33]), (63, [60, 61, 58], [35, 36, 33, 33]), (64, [59, 62, 58], [34, 37, 37, 33]), (65, [7, 58], [33]), (66, [8, 58], [33]), (67, [64, 65, 58], [39, 40, 38, 33]), (68, [7, 58], [33]), (69, [9, 58], [33]), (70, [67, 68, 58], [42, 43, 41, 33]), (71, [66, 69, 58], [41, 44, 44, 33]), (72, [63, 70, 58], [38, 45, 45, 33]), (73, [58, 71], [33, 46]), (74, [72], [47, 46]), (75, [7, 73], [48]), (76, [8, 73], [48]), (77, [74, 75, 73], [49, 50, 48, 48]), (78, [8, 73], [48]), (79, [76, 77, 73], [51, 52, 51, 48]), (80, [7, 73], [48]), (81, [78, 79, 73], [53, 54, 53, 48]), (82, [73, 80], [48, 55]), (83, [81], [56, 55]), (84, [7, 82], [57]), (85, [82], [57, 57]), (86, [83, 84, 82], [58, 59, 59, 57]), (87, [7, 82], [57]), (88, [85, 86, 82], [60, 61, 60, 57]), (89, [82, 87], [57, 62]), (11, [88], [63, 62, 0, 1, 2, 3, 4, 5, 6, 7, 8, 9, 10, 11, 12, 13, 14, 15, 16, 17, 18, 19, 20, 21, 22, 23, 24, 25, 26, 27, 28, 29, 30, 31, 32, 33, 34, 35, 36, 37, 38, 39, 40, 41, 42, 43, 44, 45, 46, 47, 48, 49, 50, 51, 52, 53, 54, 55, 56, 57, 58, 59, 60, 61, 62, 63])] mixed (by kernel_rfl) (by kernel_rfl) (by kernel_rfl) (by kernel_rfl) (by kernel_rfl) ?_
      refine lx_loada 7 rfl rfl Tryd.isAgg34 Tryd.sizeOf34 (by simp) rfl rfl ?_
      refine lx_loada 8 rfl rfl Tryd.isAgg34 Tryd.sizeOf34 (by simp) rfl rfl ?_
      refine lx_call rfl rfl ent9 (k12mul _ _) rfl rfl ?_
      refine lx_loada 8 rfl rfl Tryd.isAgg34 Tryd.sizeOf34 (by simp) rfl rfl ?_
      refine lx_loada 7 rfl rfl Tryd.isAgg34 Tryd.sizeOf34 (by simp) rfl rfl ?_
      refine lx_call rfl rfl ent9 (k12mul _ _) rfl rfl ?_
      refine lx_callB true rfl rfl ent10 (k12equal _ _) (decide_eq_true (K12.mul_comm _ _)) rfl rfl ?_
      refine lx_move rfl rfl rfl ?_
      refine lx_loada 7 rfl rfl Tryd.isAgg34 Tryd.sizeOf34 (by simp) rfl rfl ?_
      refine lx_loada 8 rfl rfl Tryd.isAgg34 Tryd.sizeOf34 (by simp) rfl rfl ?_
      refine lx_loada 9 rfl rfl Tryd.isAgg34 Tryd.sizeOf34 (by simp) rfl rfl ?_
      refine lx_call rfl rfl ent11 (k12add _ _) rfl rfl ?_
      refine lx_call rfl rfl ent11 (k12add _ _) rfl rfl ?_
      refine lx_loada 7 rfl rfl Tryd.isAgg34 Tryd.sizeOf34 (by simp) rfl rfl ?_
      refine lx_loada 8 rfl rfl Tryd.isAgg34 Tryd.sizeOf34 (by simp) rfl rfl ?_
      refine lx_call rfl rfl ent11 (k12add _ _) rfl rfl ?_
      refine lx_loada 9 rfl rfl Tryd.isAgg34 Tryd.sizeOf34 (by simp) rfl rfl ?_
      refine lx_call rfl rfl ent11 (k12add _ _) rfl rfl ?_
      refine lx_callB true rfl rfl ent10 (k12equal _ _) (decide_eq_true ((K12.add_assoc _ _ _).symm)) rfl rfl ?_
      refine lx_pick rfl rfl rfl rfl rfl ?_
      refine lx_move rfl rfl rfl ?_
      refine lx_loada 7 rfl rfl Tryd.isAgg34 Tryd.sizeOf34 (by simp) rfl rfl ?_
      refine lx_loada 8 rfl rfl Tryd.isAgg34 Tryd.sizeOf34 (by simp) rfl rfl ?_
      refine lx_loada 9 rfl rfl Tryd.isAgg34 Tryd.sizeOf34 (by simp) rfl rfl ?_
      refine lx_call rfl rfl ent9 (k12mul _ _) rfl rfl ?_
      refine lx_call rfl rfl ent9 (k12mul _ _) rfl rfl ?_
      refine lx_loada 7 rfl rfl Tryd.isAgg34 Tryd.sizeOf34 (by simp) rfl rfl ?_
      refine lx_loada 8 rfl rfl Tryd.isAgg34 Tryd.sizeOf34 (by simp) rfl rfl ?_
      refine lx_call rfl rfl ent9 (k12mul _ _) rfl rfl ?_
      refine lx_loada 9 rfl rfl Tryd.isAgg34 Tryd.sizeOf34 (by simp) rfl rfl ?_
      refine lx_call rfl rfl ent9 (k12mul _ _) rfl rfl ?_
      refine lx_callB true rfl rfl ent10 (k12equal _ _) (decide_eq_true ((K12.mul_assoc _ _ _).symm)) rfl rfl ?_
      refine lx_pick rfl rfl rfl rfl rfl ?_
      refine lx_move rfl rfl rfl ?_
      refine lx_loada 7 rfl rfl Tryd.isAgg34 Tryd.sizeOf34 (by simp) rfl rfl ?_
      refine lx_loada 8 rfl rfl Tryd.isAgg34 Tryd.sizeOf34 (by simp) rfl rfl ?_
      refine lx_loada 9 rfl rfl Tryd.isAgg34 Tryd.sizeOf34 (by simp) rfl rfl ?_
      refine lx_call rfl rfl ent11 (k12add _ _) rfl rfl ?_
      refine lx_call rfl rfl ent9 (k12mul _ _) rfl rfl ?_
      refine lx_loada 7 rfl rfl Tryd.isAgg34 Tryd.sizeOf34 (by simp) rfl rfl ?_
      refine lx_loada 8 rfl rfl Tryd.isAgg34 Tryd.sizeOf34 (by simp) rfl rfl ?_
      refine lx_call rfl rfl ent9 (k12mul _ _) rfl rfl ?_
      refine lx_loada 7 rfl rfl Tryd.isAgg34 Tryd.sizeOf34 (by simp) rfl rfl ?_
      refine lx_loada 9 rfl rfl Tryd.isAgg34 Tryd.sizeOf34 (by simp) rfl rfl ?_
      refine lx_call rfl rfl ent9 (k12mul _ _) rfl rfl ?_
      refine lx_call rfl rfl ent11 (k12add _ _) rfl rfl ?_
      refine lx_callB true rfl rfl ent10 (k12equal _ _) (decide_eq_true (K12.mul_add _ _ _)) rfl rfl ?_
      refine lx_pick rfl rfl rfl rfl rfl ?_
      refine lx_move rfl rfl rfl ?_
      refine lx_loada 7 rfl rfl Tryd.isAgg34 Tryd.sizeOf34 (by simp) rfl rfl ?_
      refine lx_loada 8 rfl rfl Tryd.isAgg34 Tryd.sizeOf34 (by simp) rfl rfl ?_
      refine lx_call rfl rfl ent12 (k12sub _ _) rfl rfl ?_
      refine lx_loada 8 rfl rfl Tryd.isAgg34 Tryd.sizeOf34 (by simp) rfl rfl ?_
      refine lx_call rfl rfl ent11 (k12add _ _) rfl rfl ?_
      refine lx_loada 7 rfl rfl Tryd.isAgg34 Tryd.sizeOf34 (by simp) rfl rfl ?_
      refine lx_callB true rfl rfl ent10 (k12equal _ _) (decide_eq_true (sb12_add _ _)) rfl rfl ?_
      refine lx_pick rfl rfl rfl rfl rfl ?_
      refine lx_move rfl rfl rfl ?_
      refine lx_loada 7 rfl rfl Tryd.isAgg34 Tryd.sizeOf34 (by simp) rfl rfl ?_
      refine lx_call rfl rfl ent13 (k12one) rfl rfl ?_
      refine lx_call rfl rfl ent9 (k12mul _ _) rfl rfl ?_
      refine lx_loada 7 rfl rfl Tryd.isAgg34 Tryd.sizeOf34 (by simp) rfl rfl ?_
      refine lx_callB true rfl rfl ent10 (k12equal _ _) (decide_eq_true (K12.mul_one _)) rfl rfl ?_
      refine lx_pick rfl rfl rfl rfl rfl ?_
      refine lx_assign rfl rfl rfl ?_
      refine lx_nil ?_
      refine xs_drawn (E := EE []) mixed (by kernel_rfl) (by kernel_rfl) (by kernel_rfl) ?_
      refine lx_move rfl rfl rfl ?_
      refine lx_move rfl rfl rfl ?_
      refine lx_loada 7 rfl rfl Tryd.isAgg34 Tryd.sizeOf34 (by simp) rfl rfl ?_
      refine lx_callB true rfl rfl ent14 (k12isZero _) (decide_eq_true (h0)) rfl rfl ?_
      refine lx_move rfl rfl rfl ?_
      refine lx_skip rfl rfl rfl ?_
      refine lx_skip rfl rfl rfl ?_
      refine lx_skip rfl rfl rfl ?_
      refine lx_skip rfl rfl rfl ?_
      refine lx_skip rfl rfl rfl ?_
      refine lx_skip rfl rfl rfl ?_
      refine lx_pick rfl rfl rfl rfl rfl ?_
      refine lx_pick rfl rfl rfl rfl rfl ?_
      refine lx_assign rfl rfl rfl ?_
      refine lx_nil ?_
      refine x_ret ?_
      repeat (first | refine kseq_ret ?_ | refine kblk_ret ?_)
      exact kret_tmp rfl rfl (fun w hw => ⟨rfl, hp_below hw⟩)
  · skip
    refine calls_of_X (G := Gt) Tryd.func3 rfl rfl (Hp (pl w) []) (hp_refl (pl w) trivial rides_true) (good_hp hGF) ?_
    refine xs_plain (E := EE []) ?_
    refine lx_assign rfl rfl rfl ?_
    refine lx_nil ?_
    refine x_seq ?_
    refine xs_plain (E := EE []) ?_
    refine lx_callB true rfl rfl ent6 (known7) (rfl) rfl rfl ?_
    refine lx_un rfl (fun _ => un_not _) rfl rfl ?_
    refine lx_nil ?_
    refine x_false rfl ?_
    refine x_skip ?_
    refine x_seq ?_
    refine xs_plain (E := EE []) ?_
    refine lx_move rfl rfl rfl ?_
    refine lx_move rfl rfl rfl ?_
    refine lx_move rfl rfl rfl ?_
    refine lx_bslV 940 (SVl [(e0, bs0.length, cap0), (e1, bs1.length, cap1), (e2, bs2.length, cap2)]) hGF rfl rfl rfl (by decide) (by decide) Tryd.underlying58 Tryd.sizeOf22 Tryd.zeroValue22 rfl rfl rfl ?_
    intro b940
    refine lx_callC rfl rfl ent7 (fun w' hC hG => light_calls b940 3 [(e0, bs0.length, cap0), (e1, bs1.length, cap1), (e2, bs2.length, cap2)] rfl (by decide) w' hG (hp_row (n := 940) rfl w' hC)) rfl rfl ?_
    refine lx_un rfl (fun _ => un_not _) rfl rfl ?_
    refine lx_nil ?_
    refine x_if rfl (fun hc => ?_) (fun hc => ?_)
    · skip
      refine xs_plain (E := EE []) ?_
      refine lx_assign rfl rfl rfl ?_
      refine lx_nil ?_
      refine x_ret ?_
      repeat (first | refine kseq_ret ?_ | refine kblk_ret ?_)
      exact kret_tmp rfl rfl (fun w hw => ⟨rfl, hp_below hw⟩)
    · have hl : ∀ v ∈ [(e0, bs0.length, cap0), (e1, bs1.length, cap1), (e2, bs2.length, cap2)], v.2.1 ≤ 200 := by simpa using hc
      have hl0 : bs0.length ≤ 200 := hl (e0, bs0.length, cap0) (by simp)
      have hl1 : bs1.length ≤ 200 := hl (e1, bs1.length, cap1) (by simp)
      have hl2 : bs2.length ≤ 200 := hl (e2, bs2.length, cap2) (by simp)
      clear hc hl
      refine x_skip ?_
      refine xs_plain (E := EE []) ?_
      refine lx_move rfl rfl rfl ?_
      refine lx_callC rfl rfl ent8 (fun w' hC hG => twelve_calls e0 cap0 bs0 (by omega) hcap0 w' hG (hb0.grow (hp_below hC))) rfl rfl ?_
      refine lx_move rfl rfl rfl ?_
      refine lx_callC rfl rfl ent8 (fun w' hC hG => twelve_calls e1 cap1 bs1 (by omega) hcap1 w' hG (hb1.grow (hp_below hC))) rfl rfl ?_
      refine lx_move rfl rfl rfl ?_
      refine lx_callC rfl rfl ent8 (fun w' hC hG => twelve_calls e2 cap2 bs2 (by omega) hcap2 w' hG (hb2.grow (hp_below hC))) rfl rfl ?_
      refine lx_allocr 7 hGF zv34 rfl rfl ?_
      intro b7
      refine lx_allocr 8 hGF zv34 rfl rfl ?_
      intro b8
      refine lx_allocr 9 hGF zv34 rfl rfl ?_
      intro b9
      refine lx_storea 7 hGF rfl rfl rfl Tryd.sizeOf34 (by simp) (by simp) (one_u64 _) rfl ?_
      refine lx_storea 8 hGF rfl rfl rfl Tryd.sizeOf34 (by simp) (by simp) (one_u64 _) rfl ?_
      refine lx_storea 9 hGF rfl rfl rfl Tryd.sizeOf34 (by simp) (by simp) (one_u64 _) rfl ?_
      refine lx_nil ?_
      refine xs_drawnT (E := EE []) [(26, [7], []), (27, [8], []), (28, [25, 26], [0, 1]), (29, [8], []), (30, [7], []), (31, [28, 29], [3, 4, 2]), (32, [27, 30], [2, 5, 5]), (33, [31], [6, 6]), (34, [7, 32], [7]), (35, [8, 32], [7]), (36, [9, 32], [7]), (37, [34, 35, 32], [9, 10, 7, 7]), (38, [33, 36, 32], [8, 11, 11, 7]), (39, [7, 32], [7]), (40, [8, 32], [7]), (41, [38, 39, 32], [13, 14, 12, 7]), (42, [9, 32], [7]), (43, [40, 41, 32], [15, 16, 15, 7]), (44, [37, 42, 32], [12, 17, 17, 7]), (45, [32, 43], [7, 18]), (46, [44], [19, 18]), (47, [7, 45], [20]), (48, [8, 45], [20]), (49, [9, 45], [20]), (50, [47, 48, 45], [22, 23, 20, 20]), (51, [46, 49, 45], [21, 24, 24, 20]), (52, [7, 45], [20]), (53, [8, 45], [20]), (54, [51, 52, 45], [26, 27, 25, 20]), (55, [9, 45], [20]), (56, [53, 54, 45], [28, 29, 28, 20]), (57, [50, 55, 45], [25, 30, 30, 20]), (58, [45, 56], [20, 31]), (59, [57], [32, 31]), (60, [7, 58], [33]), (61, [8, 58], [33]), (62, [9, 58], [33]), (63, [60, 61, 58], [35, 36, 33, 33]), (64, [59, 62, 58], [34, 37, 37, 33]), (65, [7, 58], [33]), (66, [8, 58], [33]), (67, [64, 65, 58], [39, 40, 38, 33]), (68, [7, 58], [33]), (69, [9, 58], [33]), (70, [67, 68, 58], [42, 43, 41, 33]), (71, [66, 69, 58], [41, 44, 44, 33]), (72, [63, 70, 58], [38, 45, 45, 33]), (73, [58, 71], [33, 46]), (74, [72], [47, 46]), (75, [7, 73], [48]), (76, [8, 73], [48]), (77, [74, 75, 73], [49, 50, 48, 48]), (78, [8, 73], [48]), (79, [76, 77, 73], [51, 52, 51, 48]), (80, [7, 73], [48]), (81, [78, 79, 73], [53, 54, 53, 48]), (82, [73, 80], [48, 55]), (83, [81], [56, 55]), (84, [7, 82], [57]), (85, [82], [57, 57]), (86, [83, 84, 82], [58, 59, 59, 57]), (87, [7, 82], [57]), (88, [85, 86, 82], [60, 61, 60, 57]), (89, [82, 87], [57, 62]), (11, [88], [63, 62, 0, 1, 2, 3, 4, 5, 6, 7, 8, 9, 10, 11, 12, 13, 14, 15, 16, 17, 18, 19, 20, 21, 22, 23, 24, 25, 26, 27, 28, 29, 30, 31, 32, 33, 34, 35, 36, 37, 38, 39, 40, 41, 42, 43, 44, 45, 46, 47, 48, 49, 50, 51, 52, 53, 54, 55, 56, 57, 58, 59, 60, 61, 62, 63])] mixed (by kernel_rfl) (by kernel_rfl) (by kernel_rfl) (by kernel_rfl) (by kernel_rfl) ?_
      refine lx_loada 7 rfl rfl Tryd.isAgg34 Tryd.sizeOf34 (by simp) rfl rfl ?_
      refine lx_loada 8 rfl rfl Tryd.isAgg34 Tryd.sizeOf34 (by simp) rfl rfl ?_
      refine lx_call rfl rfl ent9 (k12mul _ _) rfl rfl ?_
      refine lx_loada 8 rfl rfl Tryd.isAgg34 Tryd.sizeOf34 (by simp) rfl rfl ?_
      refine lx_loada 7 rfl rfl Tryd.isAgg34 Tryd.sizeOf34 (by simp) rfl rfl ?_
      refine lx_call rfl rfl ent9 (k12mul _ _) rfl rfl ?_
      refine lx_callB true rfl rfl ent10 (k12equal _ _) (decide_eq_true (K12.mul_comm _ _)) rfl rfl ?_
      refine lx_move rfl rfl rfl ?_
      refine lx_loada 7 rfl rfl Tryd.isAgg34 Tryd.sizeOf34 (by simp) rfl rfl ?_
      refine lx_loada 8 rfl rfl Tryd.isAgg34 Tryd.sizeOf34 (by simp) rfl rfl ?_
      refine lx_loada 9 rfl rfl Tryd.isAgg34 Tryd.sizeOf34 (by simp) rfl rfl ?_
      refine lx_call rfl rfl ent11 (k12add _ _) rfl rfl ?_
      refine lx_call rfl rfl ent11 (k12add _ _) rfl rfl ?_
      refine lx_loada 7 rfl rfl Tryd.isAgg34 Tryd.sizeOf34 (by simp) rfl rfl ?_
      refine lx_loada 8 rfl rfl Tryd.isAgg34 Tryd.sizeOf34 (by simp) rfl rfl ?_
      refine lx_call rfl rfl ent11 (k12add _ _) rfl rfl ?_
      refine lx_loada 9 rfl rfl Tryd.isAgg34 Tryd.sizeOf34 (by simp) rfl rfl ?_
      refine lx_call rfl rfl ent11 (k12add _ _) rfl rfl ?_
      refine lx_callB true rfl rfl ent10 (k12equal _ _) (decide_eq_true ((K12.add_assoc _ _ _).symm)) rfl rfl ?_
      refine lx_pick rfl rfl rfl rfl rfl ?_
      refine lx_move rfl rfl rfl ?_
      refine lx_loada 7 rfl rfl Tryd.isAgg34 Tryd.sizeOf34 (by simp) rfl rfl ?_
      refine lx_loada 8 rfl rfl Tryd.isAgg34 Tryd.sizeOf34 (by simp) rfl rfl ?_
      refine lx_loada 9 rfl rfl Tryd.isAgg34 Tryd.sizeOf34 (by simp) rfl rfl ?_
      refine lx_call rfl rfl ent9 (k12mul _ _) rfl rfl ?_
      refine lx_call rfl rfl ent9 (k12mul _ _) rfl rfl ?_
      refine lx_loada 7 rfl rfl Tryd.isAgg34 Tryd.sizeOf34 (by simp) rfl rfl ?_
      refine lx_loada 8 rfl rfl Tryd.isAgg34 Tryd.sizeOf34 (by simp) rfl rfl ?_
      refine lx_call rfl rfl ent9 (k12mul _ _) rfl rfl ?_
      refine lx_loada 9 rfl rfl Tryd.isAgg34 Tryd.sizeOf34 (by simp) rfl rfl ?_
      refine lx_call rfl rfl ent9 (k12mul _ _) rfl rfl ?_
      refine lx_callB true rfl rfl ent10 (k12equal _ _) (decide_eq_true ((K12.mul_assoc _ _ _).symm)) rfl rfl ?_
      refine lx_pick rfl rfl rfl rfl rfl ?_
      refine lx_move rfl rfl rfl ?_
      refine lx_loada 7 rfl rfl Tryd.isAgg34 Tryd.sizeOf34 (by simp) rfl rfl ?_
      refine lx_loada 8 rfl rfl Tryd.isAgg34 Tryd.sizeOf34 (by simp) rfl rfl ?_
      refine lx_loada 9 rfl rfl Tryd.isAgg34 Tryd.sizeOf34 (by simp) rfl rfl ?_
      refine lx_call rfl rfl ent11 (k12add _ _) rfl rfl ?_
      refine lx_call rfl rfl ent9 (k12mul _ _) rfl rfl ?_
      refine lx_loada 7 rfl rfl Tryd.isAgg34 Tryd.sizeOf34 (by simp) rfl rfl ?_
      refine lx_loada 8 rfl rfl Tryd.isAgg34 Tryd.sizeOf34 (by simp) rfl rfl ?_
      refine lx_call rfl rfl ent9 (k12mul _ _) rfl rfl ?_
      refine lx_loada 7 rfl rfl Tryd.isAgg34 Tryd.sizeOf34 (by simp) rfl rfl ?_
      refine lx_loada 9 rfl rfl Tryd.isAgg34 Tryd.sizeOf34 (by simp) rfl rfl ?_
      refine lx_call rfl rfl ent9 (k12mul _ _) rfl rfl ?_
      refine lx_call rfl rfl ent11 (k12add _ _) rfl rfl ?_
      refine lx_callB true rfl rfl ent10 (k12equal _ _) (decide_eq_true (K12.mul_add _ _ _)) rfl rfl ?_
      refine lx_pick rfl rfl rfl rfl rfl ?_
      refine lx_move rfl rfl rfl ?_
      refine lx_loada 7 rfl rfl Tryd.isAgg34 Tryd.sizeOf34 (by simp) rfl rfl ?_
      refine lx_loada 8 rfl rfl Tryd.isAgg34 Tryd.sizeOf34 (by simp) rfl rfl ?_
      refine lx_call rfl rfl ent12 (k12sub _ _) rfl rfl ?_
      refine lx_loada 8 rfl rfl Tryd.isAgg34 Tryd.sizeOf34 (by simp) rfl rfl ?_
      refine lx_call rfl rfl ent11 (k12add _ _) rfl rfl ?_
      refine lx_loada 7 rfl rfl Tryd.isAgg34 Tryd.sizeOf34 (by simp) rfl rfl ?_
      refine lx_callB true rfl rfl ent10 (k12equal _ _) (decide_eq_true (sb12_add _ _)) rfl rfl ?_
      refine lx_pick rfl rfl rfl rfl rfl ?_
      refine lx_move rfl rfl rfl ?_
      refine lx_loada 7 rfl rfl Tryd.isAgg34 Tryd.sizeOf34 (by simp) rfl rfl ?_
      refine lx_call rfl rfl ent13 (k12one) rfl rfl ?_
      refine lx_call rfl rfl ent9 (k12mul _ _) rfl rfl ?_
      refine lx_loada 7 rfl rfl Tryd.isAgg34 Tryd.sizeOf34 (by simp) rfl rfl ?_
      refine lx_callB true rfl rfl ent10 (k12equal _ _) (decide_eq_true (K12.mul_one _)) rfl rfl ?_
      refine lx_pick rfl rfl rfl rfl rfl ?_
      refine lx_assign rfl rfl rfl ?_
      refine lx_nil ?_
      refine xs_drawn (E := EE []) mixed (by kernel_rfl) (by kernel_rfl) (by kernel_rfl) ?_
      refine lx_move rfl rfl rfl ?_
      refine lx_move rfl rfl rfl ?_
      refine lx_loada 7 rfl rfl Tryd.isAgg34 Tryd.sizeOf34 (by simp) rfl rfl ?_
      refine lx_callB false rfl rfl ent14 (k12isZero _) (decide_eq_false (h0)) rfl rfl ?_
      refine lx_move rfl rfl rfl ?_
      refine lx_loada 7 rfl rfl Tryd.isAgg34 Tryd.sizeOf34 (by simp) rfl rfl ?_
      refine lx_loada 7 rfl rfl Tryd.isAgg34 Tryd.sizeOf34 (by simp) rfl rfl ?_
      refine lx_call rfl rfl ent15 (k12inv _) rfl rfl ?_
      refine lx_call rfl rfl ent9 (k12mul _ _) rfl rfl ?_
      refine lx_call rfl rfl ent13 (k12one) rfl rfl ?_
      refine lx_callB true rfl rfl ent10 (k12equal _ _) (decide_eq_true (iv12_mul h0)) rfl rfl ?_
      refine lx_pick rfl rfl rfl rfl rfl ?_
      refine lx_pick rfl rfl rfl rfl rfl ?_
      refine lx_assign rfl rfl rfl ?_
      refine lx_nil ?_
      refine x_ret ?_
      repeat (first | refine kseq_ret ?_ | refine kblk_ret ?_)
      exact kret_tmp rfl rfl (fun w hw => ⟨rfl, hp_below hw⟩)
end Go.Proofs.YtbpifgcbkhohbaaDoor
