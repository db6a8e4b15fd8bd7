/-
  The laws FrReckons, FrLaws.
-/
import Derived.Test.YtgogiehnilpepaaDoorX7
namespace Go.Proofs.YtgogiehnilpepaaDoor
open Go.RowKit
set_option maxRecDepth 100000
set_option maxHeartbeats 1000000
attribute [local simp] nr_len AS_len SS_len MONT_len FRs_len BYs_len by32_len MLl LIFTl IVRl SQP_len FL_len WDs_len MOD_len MU_len

theorem zero_isZero : Pure Tryd.prog Gt 13 [NV (List.replicate 6 0#64)] (.bool true) := by
  have h := qisZero_pure 0
  rw [decide_eq_true rfl] at h
  rw [← nr_0]
  exact h
theorem qinv_0 : (0 : Zr) ^ (RR - 2) = 0 := by
  rw [show RR - 2 = (RR - 3) + 1 by have : 3 < RR := by decide +kernel
                                    omega, qzerop]
theorem zero_inv : Pure Tryd.prog Gt 29 [NV (List.replicate 6 0#64)] (RV 0) := by
  have h := qinv_pure 0
  rw [qinv_0] at h
  rw [← nr_0]
  exact h
theorem MOD_sum (x y : Zr) : nr (x + y) = MOD ((AS (nr x) (nr y) 6).1 ++ List.replicate 6 0) ML := by
  rw [MOD_nr, V_app _ (AS_len _ _ _), AS_nr, zr_add, zr_nr, zr_nr]
theorem MOD_dif (x y : Zr) : nr (x - y) = MOD ((AS (nr x) (SS ML (nr y) 6).1 6).1 ++ List.replicate 6 0) ML := by
  have hx := nr_lt x
  have hy := nr_lt y
  have hm := ML_val
  have h4 := RR_lt
  have e1 : V (SS ML (nr y) 6).1 6 + V (nr y) 6 = RR := by
    rcases SS_lt ML (nr y) with ⟨_, h⟩ | ⟨_, _, h⟩ <;> omega
  have e2 : V (AS (nr x) (SS ML (nr y) 6).1 6).1 6 + V (nr y) 6 = V (nr x) 6 + RR := by
    rcases AS_cy (nr x) (SS ML (nr y) 6).1 with ⟨_, h⟩ | ⟨_, h⟩ <;> omega
  rw [MOD_nr, V_app _ (AS_len _ _ _)]
  have e := congrArg zr e2
  rw [zr_add, zr_add, zr_RR, zr_nr, zr_nr] at e
  exact congrArg nr (by grind)
theorem MOD_prod (x y : Zr) : nr (x * y) = MOD (MU (nr x) (nr y) 6) ML := (MOD_times x y).symm
theorem reckons_law (e0 : Option Addr) (cap0 : Nat) (bs0 : List (BitVec 8)) (hcap0 : bs0.length ≤ cap0) (e1 : Option Addr) (cap1 : Nat) (bs1 : List (BitVec 8)) (hcap1 : bs1.length ≤ cap1) (w : World) (hw : Gt w) (hb0 : BytesAt w e0 bs0) (hb1 : BytesAt w e1 bs1) :
    Calls Tryd.prog 4 [.slice e0 bs0.length cap0, .slice e1 bs1.length cap1].toArray w (fun r w' => r = .returned (.bool true) ∧ Grow w w') := by
  have hGF : BOk Gt (pl w) := gt_low.plain hw
  by_cases h0 : QB bs0 = 0
  · skip
    refine calls_of_X (G := Gt) Tryd.func4 rfl rfl (Hp (pl w) []) (hp_refl (pl w) trivial rides_true) (good_hp hGF) ?_
    refine xs_plain (E := EE []) ?_
    refine lx_assign rfl rfl rfl ?_
    refine lx_nil ?_
    refine x_seq ?_
    refine xs_plain (E := EE []) ?_
    refine lx_callB true rfl rfl ent7 (known_pure) (rfl) rfl rfl ?_
    refine lx_un rfl (fun _ => un_not _) rfl rfl ?_
    refine lx_nil ?_
    refine x_false rfl ?_
    refine x_skip ?_
    refine x_seq ?_
    refine xs_plain (E := EE []) ?_
    refine lx_move rfl rfl rfl ?_
    refine lx_move rfl rfl rfl ?_
    refine lx_bslV 40 (SVl [(e0, bs0.length, cap0), (e1, bs1.length, cap1)]) hGF rfl rfl rfl (by decide) (by decide) Tryd.underlying63 Tryd.sizeOf22 Tryd.zeroValue22 rfl rfl rfl ?_
    intro b40
    refine lx_callC rfl rfl ent8 (fun w' hC hG => light_calls b40 2 [(e0, bs0.length, cap0), (e1, bs1.length, cap1)] rfl (by decide) w' hG (hp_row (n := 40) rfl w' hC)) rfl rfl ?_
    refine lx_un rfl (fun _ => un_not _) rfl rfl ?_
    refine lx_nil ?_
    refine x_if rfl (fun hc => ?_) (fun hc => ?_)
    · skip
      refine xs_plain (E := EE []) ?_
      refine lx_assign rfl rfl rfl ?_
      refine lx_nil ?_
      refine x_ret ?_
      repeat (first | refine kseq_ret ?_ | refine kblk_ret ?_)
      exact kret_tmp rfl rfl (fun w hw => ⟨rfl, hp_below hw⟩)
    · have hl : ∀ v ∈ [(e0, bs0.length, cap0), (e1, bs1.length, cap1)], v.2.1 ≤ 128 := by simpa using hc
      have hl0 : bs0.length ≤ 128 := hl (e0, bs0.length, cap0) (by simp)
      have hl1 : bs1.length ≤ 128 := hl (e1, bs1.length, cap1) (by simp)
      clear hc hl
      refine x_skip ?_
      refine xs_plain (E := EE []) ?_
      refine lx_move rfl rfl rfl ?_
      refine lx_callC rfl rfl ent17 (fun w' hC hG => qwide_calls e0 cap0 bs0 (by omega) hcap0 w' hG (hb0.grow (hp_below hC))) rfl rfl ?_
      refine lx_move rfl rfl rfl ?_
      refine lx_callC rfl rfl ent17 (fun w' hC hG => qwide_calls e1 cap1 bs1 (by omega) hcap1 w' hG (hb1.grow (hp_below hC))) rfl rfl ?_
      refine lx_allocr 5 hGF zv28 rfl rfl ?_
      intro b5
      refine lx_allocr 6 hGF zv28 rfl rfl ?_
      intro b6
      refine lx_storea 5 hGF rfl rfl rfl Tryd.sizeOf28 (by simp) (by simp) (one_u64 _) rfl ?_
      refine lx_storea 6 hGF rfl rfl rfl Tryd.sizeOf28 (by simp) (by simp) (one_u64 _) rfl ?_
      refine lx_nil ?_
      refine xs_drawA (E := EE [2999999]) [0, 1, 2, 3, 4] [⟨5, 7, 31, (List.replicate 6 0#64).map U64⟩, ⟨6, 8, 31, (List.replicate 6 0#64).map U64⟩, ⟨7, 9, 31, (List.replicate 6 0#64).map U64⟩] [8, 9, 10] mixed rfl (by kernel_rfl) (by kernel_rfl) (by kernel_rfl) (by kernel_rfl) (by kernel_rfl) (by kernel_rfl) (by decide) (by intro x hx; simp only [List.mem_cons, List.not_mem_nil, or_false] at hx; rcases hx with rfl | rfl | rfl <;> exact isAlloc_mk rfl zv31 rfl) ?_
      refine lx_loada 5 rfl rfl Tryd.isAgg28 Tryd.sizeOf28 (by simp) rfl rfl ?_
      refine lx_call rfl rfl ent20 (number_pure _) rfl rfl ?_
      refine lx_loada 6 rfl rfl Tryd.isAgg28 Tryd.sizeOf28 (by simp) rfl rfl ?_
      refine lx_call rfl rfl ent20 (number_pure _) rfl rfl ?_
      refine lx_call rfl rfl ent12 (rR_pure) rfl rfl ?_
      refine lx_nil ?_
      refine ⟨_, _, rfl, hGF, by intro x hx; simp only [List.mem_cons, List.not_mem_nil, or_false] at hx; rcases hx with rfl | rfl | rfl <;> rfl, by intro x hx; simp only [List.mem_cons, List.not_mem_nil, or_false] at hx; rcases hx with rfl | rfl | rfl <;> rfl, fun adr => ?_⟩
      refine lx_storea 7 hGF rfl rfl rfl Tryd.sizeOf31 (by simp) (by simp) (one_u64 _) rfl ?_
      refine lx_storea 8 hGF rfl rfl rfl Tryd.sizeOf31 (by simp) (by simp) (one_u64 _) rfl ?_
      refine lx_storea 9 hGF rfl rfl rfl Tryd.sizeOf31 (by simp) (by simp) (one_u64 _) rfl ?_
      refine lx_nil ?_
      refine xs_plain (E := EE []) ?_
      refine lx_allocr 10 hGF zv45 rfl rfl ?_
      intro b10
      refine lx_nil ?_
      refine xs_plain (E := EE []) ?_
      refine lx_loada 7 rfl rfl Tryd.isAgg31 Tryd.sizeOf31 (by simp) rfl rfl ?_
      refine lx_loada 8 rfl rfl Tryd.isAgg31 Tryd.sizeOf31 (by simp) rfl rfl ?_
      refine lx_call rfl rfl ent21 (radd_pure _ _ (by simp) (by simp)) rfl rfl ?_
      refine lx_move rfl rfl rfl ?_
      refine lx_ext rfl rfl rfl rfl ?_
      refine lx_ext rfl rfl rfl rfl ?_
      refine lx_allocr 11 hGF zv31 rfl rfl ?_
      intro b11
      refine lx_storea 11 hGF rfl rfl rfl Tryd.sizeOf31 (by simp) (by simp) (one_u64 _) rfl ?_
      refine lx_assign rfl rfl rfl ?_
      refine lx_nil ?_
      refine xs_drawn (E := EE []) mixed (by kernel_rfl) (by kernel_rfl) (by kernel_rfl) ?_
      refine lx_slarr1 (l := 0) (h' := 12) rfl Tryd.underlying45 Tryd.sizeOf23 rfl rfl (by omega) (by omega) rfl rfl ?_
      refine lx_slarr1 (l := 0) (h' := 6) rfl Tryd.underlying31 Tryd.sizeOf23 rfl rfl (by omega) (by omega) rfl rfl ?_
      refine lx_copy (cs := ((AS (nr (QB bs0)) (nr (QB bs1)) 6).1).map U64) 10 hGF rfl rfl rfl Tryd.underlying48 info22 (by rw [List.length_map, AS_len]; rfl) (fun w' h j v hv => by rw [Addr.add_mid]; exact hp_row (n := 11) rfl w' h j v hv) (one_u64 _) (by rw [List.length_map, List.length_map, AS_len]; decide) rfl rfl ?_
      rw [lay_front _ (AS_len _ _ _)]
      refine lx_nil ?_
      refine xs_plain (E := EE []) ?_
      refine lx_loada 9 rfl rfl Tryd.isAgg31 Tryd.sizeOf31 (by simp) rfl rfl ?_
      refine lx_loada 8 rfl rfl Tryd.isAgg31 Tryd.sizeOf31 (by simp) rfl rfl ?_
      refine lx_call rfl rfl ent22 (rsub_pure _ _ (by simp) (by simp)) rfl rfl ?_
      refine lx_move rfl rfl rfl ?_
      refine lx_ext rfl rfl rfl rfl ?_
      refine lx_ext rfl rfl rfl rfl ?_
      refine lx_allocr 13 hGF zv31 rfl rfl ?_
      intro b13
      refine lx_storea 13 hGF rfl rfl rfl Tryd.sizeOf31 (by simp) (by simp) (one_u64 _) rfl ?_
      refine lx_assign rfl rfl rfl ?_
      refine lx_nil ?_
      refine xs_plain (E := EE []) ?_
      refine lx_loada 7 rfl rfl Tryd.isAgg31 Tryd.sizeOf31 (by simp) rfl rfl ?_
      refine lx_loada 13 rfl rfl Tryd.isAgg31 Tryd.sizeOf31 (by simp) rfl rfl ?_
      refine lx_call rfl rfl ent21 (radd_pure _ _ (by simp) (by simp)) rfl rfl ?_
      refine lx_move rfl rfl rfl ?_
      refine lx_ext rfl rfl rfl rfl ?_
      refine lx_ext rfl rfl rfl rfl ?_
      refine lx_allocr 15 hGF zv31 rfl rfl ?_
      intro b15
      refine lx_storea 15 hGF rfl rfl rfl Tryd.sizeOf31 (by simp) (by simp) (one_u64 _) rfl ?_
      refine lx_assign rfl rfl rfl ?_
      refine lx_nil ?_
      refine xs_plain (E := EE []) ?_
      refine lx_allocr 17 hGF zv45 rfl rfl ?_
      intro b17
      refine lx_nil ?_
      refine xs_drawn (E := EE []) mixed (by kernel_rfl) (by kernel_rfl) (by kernel_rfl) ?_
      refine lx_slarr1 (l := 0) (h' := 12) rfl Tryd.underlying45 Tryd.sizeOf23 rfl rfl (by omega) (by omega) rfl rfl ?_
      refine lx_slarr1 (l := 0) (h' := 6) rfl Tryd.underlying31 Tryd.sizeOf23 rfl rfl (by omega) (by omega) rfl rfl ?_
      refine lx_copy (cs := ((AS (nr (QB bs0)) (SS ML (nr (QB bs1)) 6).1 6).1).map U64) 17 hGF rfl rfl rfl Tryd.underlying48 info22 (by rw [List.length_map, AS_len]; rfl) (fun w' h j v hv => by rw [Addr.add_mid]; exact hp_row (n := 15) rfl w' h j v hv) (one_u64 _) (by rw [List.length_map, List.length_map, AS_len]; decide) rfl rfl ?_
      rw [lay_front _ (AS_len _ _ _)]
      refine lx_nil ?_
      refine xs_plain (E := EE []) ?_
      refine lx_allocr 18 hGF zv28 rfl rfl ?_
      intro b18
      refine lx_nil ?_
      refine x_seq ?_
      refine xs_drawn (E := EE []) mixed (by kernel_rfl) (by kernel_rfl) (by kernel_rfl) ?_
      refine lx_loada 5 rfl rfl Tryd.isAgg28 Tryd.sizeOf28 (by simp) rfl rfl ?_
      refine lx_loada 6 rfl rfl Tryd.isAgg28 Tryd.sizeOf28 (by simp) rfl rfl ?_
      refine lx_call rfl rfl ent23 (qadd_pure _ _) rfl rfl ?_
      refine lx_loada 10 rfl rfl Tryd.isAgg45 Tryd.sizeOf45 (by simp) rfl rfl ?_
      refine lx_loada 9 rfl rfl Tryd.isAgg31 Tryd.sizeOf31 (by simp) rfl rfl ?_
      refine lx_call rfl rfl ent24 (rmod_pure _ _ (by simp) (by simp)) rfl rfl ?_
      refine lx_callB true rfl rfl ent16 (same_pure _ _ (by simp)) (decide_eq_true (MOD_sum (QB bs0) (QB bs1))) rfl rfl ?_
      refine lx_un rfl (fun _ => un_not _) rfl rfl ?_
      refine lx_move rfl rfl rfl ?_
      refine lx_loada 5 rfl rfl Tryd.isAgg28 Tryd.sizeOf28 (by simp) rfl rfl ?_
      refine lx_loada 6 rfl rfl Tryd.isAgg28 Tryd.sizeOf28 (by simp) rfl rfl ?_
      refine lx_call rfl rfl ent25 (qsub_pure _ _) rfl rfl ?_
      refine lx_loada 17 rfl rfl Tryd.isAgg45 Tryd.sizeOf45 (by simp) rfl rfl ?_
      refine lx_loada 9 rfl rfl Tryd.isAgg31 Tryd.sizeOf31 (by simp) rfl rfl ?_
      refine lx_call rfl rfl ent24 (rmod_pure _ _ (by simp) (by simp)) rfl rfl ?_
      refine lx_callB true rfl rfl ent16 (same_pure _ _ (by simp)) (decide_eq_true (MOD_dif (QB bs0) (QB bs1))) rfl rfl ?_
      refine lx_un rfl (fun _ => un_not _) rfl rfl ?_
      refine lx_pick rfl rfl rfl rfl rfl ?_
      refine lx_move rfl rfl rfl ?_
      refine lx_loada 5 rfl rfl Tryd.isAgg28 Tryd.sizeOf28 (by simp) rfl rfl ?_
      refine lx_loada 6 rfl rfl Tryd.isAgg28 Tryd.sizeOf28 (by simp) rfl rfl ?_
      refine lx_call rfl rfl ent26 (qmul_pure _ _) rfl rfl ?_
      refine lx_loada 7 rfl rfl Tryd.isAgg31 Tryd.sizeOf31 (by simp) rfl rfl ?_
      refine lx_loada 8 rfl rfl Tryd.isAgg31 Tryd.sizeOf31 (by simp) rfl rfl ?_
      refine lx_call rfl rfl ent27 (times_pure _ _ (by simp) (by simp)) rfl rfl ?_
      refine lx_loada 9 rfl rfl Tryd.isAgg31 Tryd.sizeOf31 (by simp) rfl rfl ?_
      refine lx_call rfl rfl ent24 (rmod_pure _ _ (by simp) (by simp)) rfl rfl ?_
      refine lx_callB true rfl rfl ent16 (same_pure _ _ (by simp)) (decide_eq_true (MOD_prod (QB bs0) (QB bs1))) rfl rfl ?_
      refine lx_un rfl (fun _ => un_not _) rfl rfl ?_
      refine lx_pick rfl rfl rfl rfl rfl ?_
      refine lx_move rfl rfl rfl ?_
      refine lx_loada 5 rfl rfl Tryd.isAgg28 Tryd.sizeOf28 (by simp) rfl rfl ?_
      refine lx_loada 6 rfl rfl Tryd.isAgg28 Tryd.sizeOf28 (by simp) rfl rfl ?_
      refine lx_call rfl rfl ent28 (qequal_pure _ _) rfl rfl ?_
      refine lx_loada 7 rfl rfl Tryd.isAgg31 Tryd.sizeOf31 (by simp) rfl rfl ?_
      refine lx_loada 8 rfl rfl Tryd.isAgg31 Tryd.sizeOf31 (by simp) rfl rfl ?_
      refine lx_bin rfl rfl (fun _ => eqg31 _ _ _ _ _ _) (fun w => eqv31 _ _ (by simp) (by simp) w) rfl rfl ?_
      refine lx_binB false rfl rfl (fun _ => rfl) (fun w => bin_neq_bool 4 Tryd.underlying4 _ _ w) (by rw [decide_nr]; exact bne_self_eq_false _) rfl rfl ?_
      refine lx_pick rfl rfl rfl rfl rfl ?_
      refine lx_move rfl rfl rfl ?_
      refine lx_loada 18 rfl rfl Tryd.isAgg28 Tryd.sizeOf28 (by simp) rfl rfl ?_
      refine lx_call rfl rfl ent13 zero_isZero rfl rfl ?_
      refine lx_un rfl (fun _ => un_not _) rfl rfl ?_
      refine lx_pick rfl rfl rfl rfl rfl ?_
      refine lx_move rfl rfl rfl ?_
      refine lx_loada 18 rfl rfl Tryd.isAgg28 Tryd.sizeOf28 (by simp) rfl rfl ?_
      refine lx_call rfl rfl ent29 (zero_inv) rfl rfl ?_
      refine lx_callB true rfl rfl ent13 (qisZero_pure _) (decide_eq_true rfl) rfl rfl ?_
      refine lx_un rfl (fun _ => un_not _) rfl rfl ?_
      refine lx_pick rfl rfl rfl rfl rfl ?_
      refine lx_nil ?_
      refine x_false rfl ?_
      refine x_skip ?_
      refine xs_drawn (E := EE []) mixed (by kernel_rfl) (by kernel_rfl) (by kernel_rfl) ?_
      refine lx_loada 5 rfl rfl Tryd.isAgg28 Tryd.sizeOf28 (by simp) rfl rfl ?_
      refine lx_call rfl rfl ent30 (qneg_pure _) rfl rfl ?_
      refine lx_loada 5 rfl rfl Tryd.isAgg28 Tryd.sizeOf28 (by simp) rfl rfl ?_
      refine lx_call rfl rfl ent23 (qadd_pure _ _) rfl rfl ?_
      refine lx_callB true rfl rfl ent13 (qisZero_pure _) (decide_eq_true (by grind)) rfl rfl ?_
      refine lx_move rfl rfl rfl ?_
      refine lx_loada 5 rfl rfl Tryd.isAgg28 Tryd.sizeOf28 (by simp) rfl rfl ?_
      refine lx_callB true rfl rfl ent13 (qisZero_pure _) (decide_eq_true h0) rfl rfl ?_
      refine lx_move rfl rfl rfl ?_
      refine lx_skip rfl rfl rfl ?_
      refine lx_skip rfl rfl rfl ?_
      refine lx_skip rfl rfl rfl ?_
      refine lx_skip rfl rfl rfl ?_
      refine lx_skip rfl rfl rfl ?_
      refine lx_skip rfl rfl rfl ?_
      refine lx_pick rfl rfl rfl rfl rfl ?_
      refine lx_pick rfl rfl rfl rfl rfl ?_
      refine lx_assign rfl rfl rfl ?_
      refine lx_nil ?_
      refine x_ret ?_
      repeat (first | refine kseq_ret ?_ | refine kblk_ret ?_)
      exact kret_tmp rfl rfl (fun w hw => ⟨rfl, hp_below hw⟩)
  · skip
    refine calls_of_X (G := Gt) Tryd.func4 rfl rfl (Hp (pl w) []) (hp_refl (pl w) trivial rides_true) (good_hp hGF) ?_
    refine xs_plain (E := EE []) ?_
    refine lx_assign rfl rfl rfl ?_
    refine lx_nil ?_
    refine x_seq ?_
    refine xs_plain (E := EE []) ?_
    refine lx_callB true rfl rfl ent7 (known_pure) (rfl) rfl rfl ?_
    refine lx_un rfl (fun _ => un_not _) rfl rfl ?_
    refine lx_nil ?_
    refine x_false rfl ?_
    refine x_skip ?_
    refine x_seq ?_
    refine xs_plain (E := EE []) ?_
    refine lx_move rfl rfl rfl ?_
    refine lx_move rfl rfl rfl ?_
    refine lx_bslV 40 (SVl [(e0, bs0.length, cap0), (e1, bs1.length, cap1)]) hGF rfl rfl rfl (by decide) (by decide) Tryd.underlying63 Tryd.sizeOf22 Tryd.zeroValue22 rfl rfl rfl ?_
    intro b40
    refine lx_callC rfl rfl ent8 (fun w' hC hG => light_calls b40 2 [(e0, bs0.length, cap0), (e1, bs1.length, cap1)] rfl (by decide) w' hG (hp_row (n := 40) rfl w' hC)) rfl rfl ?_
    refine lx_un rfl (fun _ => un_not _) rfl rfl ?_
    refine lx_nil ?_
    refine x_if rfl (fun hc => ?_) (fun hc => ?_)
    · skip
      refine xs_plain (E := EE []) ?_
      refine lx_assign rfl rfl rfl ?_
      refine lx_nil ?_
      refine x_ret ?_
      repeat (first | refine kseq_ret ?_ | refine kblk_ret ?_)
      exact kret_tmp rfl rfl (fun w hw => ⟨rfl, hp_below hw⟩)
    · have hl : ∀ v ∈ [(e0, bs0.length, cap0), (e1, bs1.length, cap1)], v.2.1 ≤ 128 := by simpa using hc
      have hl0 : bs0.length ≤ 128 := hl (e0, bs0.length, cap0) (by simp)
      have hl1 : bs1.length ≤ 128 := hl (e1, bs1.length, cap1) (by simp)
      clear hc hl
      refine x_skip ?_
      refine xs_plain (E := EE []) ?_
      refine lx_move rfl rfl rfl ?_
      refine lx_callC rfl rfl ent17 (fun w' hC hG => qwide_calls e0 cap0 bs0 (by omega) hcap0 w' hG (hb0.grow (hp_below hC))) rfl rfl ?_
      refine lx_move rfl rfl rfl ?_
      refine lx_callC rfl rfl ent17 (fun w' hC hG => qwide_calls e1 cap1 bs1 (by omega) hcap1 w' hG (hb1.grow (hp_below hC))) rfl rfl ?_
      refine lx_allocr 5 hGF zv28 rfl rfl ?_
      intro b5
      refine lx_allocr 6 hGF zv28 rfl rfl ?_
      intro b6
      refine lx_storea 5 hGF rfl rfl rfl Tryd.sizeOf28 (by simp) (by simp) (one_u64 _) rfl ?_
      refine lx_storea 6 hGF rfl rfl rfl Tryd.sizeOf28 (by simp) (by simp) (one_u64 _) rfl ?_
      refine lx_nil ?_
      refine xs_drawA (E := EE [2999999]) [0, 1, 2, 3, 4] [⟨5, 7, 31, (List.replicate 6 0#64).map U64⟩, ⟨6, 8, 31, (List.replicate 6 0#64).map U64⟩, ⟨7, 9, 31, (List.replicate 6 0#64).map U64⟩] [8, 9, 10] mixed rfl (by kernel_rfl) (by kernel_rfl) (by kernel_rfl) (by kernel_rfl) (by kernel_rfl) (by kernel_rfl) (by decide) (by intro x hx; simp only [List.mem_cons, List.not_mem_nil, or_false] at hx; rcases hx with rfl | rfl | rfl <;> exact isAlloc_mk rfl zv31 rfl) ?_
      refine lx_loada 5 rfl rfl Tryd.isAgg28 Tryd.sizeOf28 (by simp) rfl rfl ?_
      refine lx_call rfl rfl ent20 (number_pure _) rfl rfl ?_
      refine lx_loada 6 rfl rfl Tryd.isAgg28 Tryd.sizeOf28 (by simp) rfl rfl ?_
      refine lx_call rfl rfl ent20 (number_pure _) rfl rfl ?_
      refine lx_call rfl rfl ent12 (rR_pure) rfl rfl ?_
      refine lx_nil ?_
      refine ⟨_, _, rfl, hGF, by intro x hx; simp only [List.mem_cons, List.not_mem_nil, or_false] at hx; rcases hx with rfl | rfl | rfl <;> rfl, by intro x hx; simp only [List.mem_cons, List.not_mem_nil, or_false] at hx; rcases hx with rfl | rfl | rfl <;> rfl, fun adr => ?_⟩
      refine lx_storea 7 hGF rfl rfl rfl Tryd.sizeOf31 (by simp) (by simp) (one_u64 _) rfl ?_
      refine lx_storea 8 hGF rfl rfl rfl Tryd.sizeOf31 (by simp) (by simp) (one_u64 _) rfl ?_
      refine lx_storea 9 hGF rfl rfl rfl Tryd.sizeOf31 (by simp) (by simp) (one_u64 _) rfl ?_
      refine lx_nil ?_
      refine xs_plain (E := EE []) ?_
      refine lx_allocr 10 hGF zv45 rfl rfl ?_
      intro b10
      refine lx_nil ?_
      refine xs_plain (E := EE []) ?_
      refine lx_loada 7 rfl rfl Tryd.isAgg31 Tryd.sizeOf31 (by simp) rfl rfl ?_
      refine lx_loada 8 rfl rfl Tryd.isAgg31 Tryd.sizeOf31 (by simp) rfl rfl ?_
      refine lx_call rfl rfl ent21 (radd_pure _ _ (by simp) (by simp)) rfl rfl ?_
      refine lx_move rfl rfl rfl ?_
      refine lx_ext rfl rfl rfl rfl ?_
      refine lx_ext rfl rfl rfl rfl ?_
      refine lx_allocr 11 hGF zv31 rfl rfl ?_
      intro b11
      refine lx_storea 11 hGF rfl rfl rfl Tryd.sizeOf31 (by simp) (by simp) (one_u64 _) rfl ?_
      refine lx_assign rfl rfl rfl ?_
      refine lx_nil ?_
      refine xs_drawn (E := EE []) mixed (by kernel_rfl) (by kernel_rfl) (by kernel_rfl) ?_
      refine lx_slarr1 (l := 0) (h' := 12) rfl Tryd.underlying45 Tryd.sizeOf23 rfl rfl (by omega) (by omega) rfl rfl ?_
      refine lx_slarr1 (l := 0) (h' := 6) rfl Tryd.underlying31 Tryd.sizeOf23 rfl rfl (by omega) (by omega) rfl rfl ?_
      refine lx_copy (cs := ((AS (nr (QB bs0)) (nr (QB bs1)) 6).1).map U64) 10 hGF rfl rfl rfl Tryd.underlying48 info22 (by rw [List.length_map, AS_len]; rfl) (fun w' h j v hv => by rw [Addr.add_mid]; exact hp_row (n := 11) rfl w' h j v hv) (one_u64 _) (by rw [List.length_map, List.length_map, AS_len]; decide) rfl rfl ?_
      rw [lay_front _ (AS_len _ _ _)]
      refine lx_nil ?_
      refine xs_plain (E := EE []) ?_
      refine lx_loada 9 rfl rfl Tryd.isAgg31 Tryd.sizeOf31 (by simp) rfl rfl ?_
      refine lx_loada 8 rfl rfl Tryd.isAgg31 Tryd.sizeOf31 (by simp) rfl rfl ?_
      refine lx_call rfl rfl ent22 (rsub_pure _ _ (by simp) (by simp)) rfl rfl ?_
      refine lx_move rfl rfl rfl ?_
      refine lx_ext rfl rfl rfl rfl ?_
      refine lx_ext rfl rfl rfl rfl ?_
      refine lx_allocr 13 hGF zv31 rfl rfl ?_
      intro b13
      refine lx_storea 13 hGF rfl rfl rfl Tryd.sizeOf31 (by simp) (by simp) (one_u64 _) rfl ?_
      refine lx_assign rfl rfl rfl ?_
      refine lx_nil ?_
      refine xs_plain (E := EE []) ?_
      refine lx_loada 7 rfl rfl Tryd.isAgg31 Tryd.sizeOf31 (by simp) rfl rfl ?_
      refine lx_loada 13 rfl rfl Tryd.isAgg31 Tryd.sizeOf31 (by simp) rfl rfl ?_
      refine lx_call rfl rfl ent21 (radd_pure _ _ (by simp) (by simp)) rfl rfl ?_
      refine lx_move rfl rfl rfl ?_
      refine lx_ext rfl rfl rfl rfl ?_
      refine lx_ext rfl rfl rfl rfl ?_
      refine lx_allocr 15 hGF zv31 rfl rfl ?_
      intro b15
      refine lx_storea 15 hGF rfl rfl rfl Tryd.sizeOf31 (by simp) (by simp) (one_u64 _) rfl ?_
      refine lx_assign rfl rfl rfl ?_
      refine lx_nil ?_
      refine xs_plain (E := EE []) ?_
      refine lx_allocr 17 hGF zv45 rfl rfl ?_
      intro b17
      refine lx_nil ?_
      refine xs_drawn (E := EE []) mixed (by kernel_rfl) (by kernel_rfl) (by kernel_rfl) ?_
      refine lx_slarr1 (l := 0) (h' := 12) rfl Tryd.underlying45 Tryd.sizeOf23 rfl rfl (by omega) (by omega) rfl rfl ?_
      refine lx_slarr1 (l := 0) (h' := 6) rfl Tryd.underlying31 Tryd.sizeOf23 rfl rfl (by omega) (by omega) rfl rfl ?_
      refine lx_copy (cs := ((AS (nr (QB bs0)) (SS ML (nr (QB bs1)) 6).1 6).1).map U64) 17 hGF rfl rfl rfl Tryd.underlying48 info22 (by rw [List.length_map, AS_len]; rfl) (fun w' h j v hv => by rw [Addr.add_mid]; exact hp_row (n := 15) rfl w' h j v hv) (one_u64 _) (by rw [List.length_map, List.length_map, AS_len]; decide) rfl rfl ?_
      rw [lay_front _ (AS_len _ _ _)]
      refine lx_nil ?_
      refine xs_plain (E := EE []) ?_
      refine lx_allocr 18 hGF zv28 rfl rfl ?_
      intro b18
      refine lx_nil ?_
      refine x_seq ?_
      refine xs_drawn (E := EE []) mixed (by kernel_rfl) (by kernel_rfl) (by kernel_rfl) ?_
      refine lx_loada 5 rfl rfl Tryd.isAgg28 Tryd.sizeOf28 (by simp) rfl rfl ?_
      refine lx_loada 6 rfl rfl Tryd.isAgg28 Tryd.sizeOf28 (by simp) rfl rfl ?_
      refine lx_call rfl rfl ent23 (qadd_pure _ _) rfl rfl ?_
      refine lx_loada 10 rfl rfl Tryd.isAgg45 Tryd.sizeOf45 (by simp) rfl rfl ?_
      refine lx_loada 9 rfl rfl Tryd.isAgg31 Tryd.sizeOf31 (by simp) rfl rfl ?_
      refine lx_call rfl rfl ent24 (rmod_pure _ _ (by simp) (by simp)) rfl rfl ?_
      refine lx_callB true rfl rfl ent16 (same_pure _ _ (by simp)) (decide_eq_true (MOD_sum (QB bs0) (QB bs1))) rfl rfl ?_
      refine lx_un rfl (fun _ => un_not _) rfl rfl ?_
      refine lx_move rfl rfl rfl ?_
      refine lx_loada 5 rfl rfl Tryd.isAgg28 Tryd.sizeOf28 (by simp) rfl rfl ?_
      refine lx_loada 6 rfl rfl Tryd.isAgg28 Tryd.sizeOf28 (by simp) rfl rfl ?_
      refine lx_call rfl rfl ent25 (qsub_pure _ _) rfl rfl ?_
      refine lx_loada 17 rfl rfl Tryd.isAgg45 Tryd.sizeOf45 (by simp) rfl rfl ?_
      refine lx_loada 9 rfl rfl Tryd.isAgg31 Tryd.sizeOf31 (by simp) rfl rfl ?_
      refine lx_call rfl rfl ent24 (rmod_pure _ _ (by simp) (by simp)) rfl rfl ?_
      refine lx_callB true rfl rfl ent16 (same_pure _ _ (by simp)) (decide_eq_true (MOD_dif (QB bs0) (QB bs1))) rfl rfl ?_
      refine lx_un rfl (fun _ => un_not _) rfl rfl ?_
      refine lx_pick rfl rfl rfl rfl rfl ?_
      refine lx_move rfl rfl rfl ?_
      refine lx_loada 5 rfl rfl Tryd.isAgg28 Tryd.sizeOf28 (by simp) rfl rfl ?_
      refine lx_loada 6 rfl rfl Tryd.isAgg28 Tryd.sizeOf28 (by simp) rfl rfl ?_
      refine lx_call rfl rfl ent26 (qmul_pure _ _) rfl rfl ?_
      refine lx_loada 7 rfl rfl Tryd.isAgg31 Tryd.sizeOf31 (by simp) rfl rfl ?_
      refine lx_loada 8 rfl rfl Tryd.isAgg31 Tryd.sizeOf31 (by simp) rfl rfl ?_
      refine lx_call rfl rfl ent27 (times_pure _ _ (by simp) (by simp)) rfl rfl ?_
      refine lx_loada 9 rfl rfl Tryd.isAgg31 Tryd.sizeOf31 (by simp) rfl rfl ?_
      refine lx_call rfl rfl ent24 (rmod_pure _ _ (by simp) (by simp)) rfl rfl ?_
      refine lx_callB true rfl rfl ent16 (same_pure _ _ (by simp)) (decide_eq_true (MOD_prod (QB bs0) (QB bs1))) rfl rfl ?_
      refine lx_un rfl (fun _ => un_not _) rfl rfl ?_
      refine lx_pick rfl rfl rfl rfl rfl ?_
      refine lx_move rfl rfl rfl ?_
      refine lx_loada 5 rfl rfl Tryd.isAgg28 Tryd.sizeOf28 (by simp) rfl rfl ?_
      refine lx_loada 6 rfl rfl Tryd.isAgg28 Tryd.sizeOf28 (by simp) rfl rfl ?_
      refine lx_call rfl rfl ent28 (qequal_pure _ _) rfl rfl ?_
      refine lx_loada 7 rfl rfl Tryd.isAgg31 Tryd.sizeOf31 (by simp) rfl rfl ?_
      refine lx_loada 8 rfl rfl Tryd.isAgg31 Tryd.sizeOf31 (by simp) rfl rfl ?_
      refine lx_bin rfl rfl (fun _ => eqg31 _ _ _ _ _ _) (fun w => eqv31 _ _ (by simp) (by simp) w) rfl rfl ?_
      refine lx_binB false rfl rfl (fun _ => rfl) (fun w => bin_neq_bool 4 Tryd.underlying4 _ _ w) (by rw [decide_nr]; exact bne_self_eq_false _) rfl rfl ?_
      refine lx_pick rfl rfl rfl rfl rfl ?_
      refine lx_move rfl rfl rfl ?_
      refine lx_loada 18 rfl rfl Tryd.isAgg28 Tryd.sizeOf28 (by simp) rfl rfl ?_
      refine lx_call rfl rfl ent13 zero_isZero rfl rfl ?_
      refine lx_un rfl (fun _ => un_not _) rfl rfl ?_
      refine lx_pick rfl rfl rfl rfl rfl ?_
      refine lx_move rfl rfl rfl ?_
      refine lx_loada 18 rfl rfl Tryd.isAgg28 Tryd.sizeOf28 (by simp) rfl rfl ?_
      refine lx_call rfl rfl ent29 (zero_inv) rfl rfl ?_
      refine lx_callB true rfl rfl ent13 (qisZero_pure _) (decide_eq_true rfl) rfl rfl ?_
      refine lx_un rfl (fun _ => un_not _) rfl rfl ?_
      refine lx_pick rfl rfl rfl rfl rfl ?_
      refine lx_nil ?_
      refine x_false rfl ?_
      refine x_skip ?_
      refine xs_drawn (E := EE []) mixed (by kernel_rfl) (by kernel_rfl) (by kernel_rfl) ?_
      refine lx_loada 5 rfl rfl Tryd.isAgg28 Tryd.sizeOf28 (by simp) rfl rfl ?_
      refine lx_call rfl rfl ent30 (qneg_pure _) rfl rfl ?_
      refine lx_loada 5 rfl rfl Tryd.isAgg28 Tryd.sizeOf28 (by simp) rfl rfl ?_
      refine lx_call rfl rfl ent23 (qadd_pure _ _) rfl rfl ?_
      refine lx_callB true rfl rfl ent13 (qisZero_pure _) (decide_eq_true (by grind)) rfl rfl ?_
      refine lx_move rfl rfl rfl ?_
      refine lx_loada 5 rfl rfl Tryd.isAgg28 Tryd.sizeOf28 (by simp) rfl rfl ?_
      refine lx_callB false rfl rfl ent13 (qisZero_pure _) (decide_eq_false h0) rfl rfl ?_
      refine lx_move rfl rfl rfl ?_
      refine lx_loada 5 rfl rfl Tryd.isAgg28 Tryd.sizeOf28 (by simp) rfl rfl ?_
      refine lx_loada 5 rfl rfl Tryd.isAgg28 Tryd.sizeOf28 (by simp) rfl rfl ?_
      refine lx_call rfl rfl ent29 (qinv_pure _) rfl rfl ?_
      refine lx_call rfl rfl ent26 (qmul_pure _ _) rfl rfl ?_
      refine lx_call rfl rfl ent19 (qof_pure _) rfl rfl ?_
      refine lx_callB true rfl rfl ent28 (qequal_pure _ _) (decide_eq_true (qzinv h0)) rfl rfl ?_
      refine lx_pick rfl rfl rfl rfl rfl ?_
      refine lx_pick rfl rfl rfl rfl rfl ?_
      refine lx_assign rfl rfl rfl ?_
      refine lx_nil ?_
      refine x_ret ?_
      repeat (first | refine kseq_ret ?_ | refine kblk_ret ?_)
      exact kret_tmp rfl rfl (fun w hw => ⟨rfl, hp_below hw⟩)
theorem laws_law (e0 : Option Addr) (cap0 : Nat) (bs0 : List (BitVec 8)) (hcap0 : bs0.length ≤ cap0) (e1 : Option Addr) (cap1 : Nat) (bs1 : List (BitVec 8)) (hcap1 : bs1.length ≤ cap1) (e2 : Option Addr) (cap2 : Nat) (bs2 : List (BitVec 8)) (hcap2 : bs2.length ≤ cap2) (w : World) (hw : Gt w) (hb0 : BytesAt w e0 bs0) (hb1 : BytesAt w e1 bs1) (hb2 : BytesAt w e2 bs2) :
    Calls Tryd.prog 5 [.slice e0 bs0.length cap0, .slice e1 bs1.length cap1, .slice e2 bs2.length cap2].toArray w (fun r w' => r = .returned (.bool true) ∧ Grow w w') := by
  have hGF : BOk Gt (pl w) := gt_low.plain hw
  by_cases h0 : QB bs0 = 0
  · skip
    refine calls_of_X (G := Gt) Tryd.func5 rfl rfl (Hp (pl w) []) (hp_refl (pl w) trivial rides_true) (good_hp hGF) ?_
    refine xs_plain (E := EE []) ?_
    refine lx_assign rfl rfl rfl ?_
    refine lx_nil ?_
    refine x_seq ?_
    refine xs_plain (E := EE []) ?_
    refine lx_callB true rfl rfl ent7 (known_pure) (rfl) rfl rfl ?_
    refine lx_un rfl (fun _ => un_not _) rfl rfl ?_
    refine lx_nil ?_
    refine x_false rfl ?_
    refine x_skip ?_
    refine x_seq ?_
    refine xs_plain (E := EE []) ?_
    refine lx_move rfl rfl rfl ?_
    refine lx_move rfl rfl rfl ?_
    refine lx_move rfl rfl rfl ?_
    refine lx_bslV 40 (SVl [(e0, bs0.length, cap0), (e1, bs1.length, cap1), (e2, bs2.length, cap2)]) hGF rfl rfl rfl (by decide) (by decide) Tryd.underlying63 Tryd.sizeOf22 Tryd.zeroValue22 rfl rfl rfl ?_
    intro b40
    refine lx_callC rfl rfl ent8 (fun w' hC hG => light_calls b40 3 [(e0, bs0.length, cap0), (e1, bs1.length, cap1), (e2, bs2.length, cap2)] rfl (by decide) w' hG (hp_row (n := 40) rfl w' hC)) rfl rfl ?_
    refine lx_un rfl (fun _ => un_not _) rfl rfl ?_
    refine lx_nil ?_
    refine x_if rfl (fun hc => ?_) (fun hc => ?_)
    · skip
      refine xs_plain (E := EE []) ?_
      refine lx_assign rfl rfl rfl ?_
      refine lx_nil ?_
      refine x_ret ?_
      repeat (first | refine kseq_ret ?_ | refine kblk_ret ?_)
      exact kret_tmp rfl rfl (fun w hw => ⟨rfl, hp_below hw⟩)
    · have hl : ∀ v ∈ [(e0, bs0.length, cap0), (e1, bs1.length, cap1), (e2, bs2.length, cap2)], v.2.1 ≤ 128 := by simpa using hc
      have hl0 : bs0.length ≤ 128 := hl (e0, bs0.length, cap0) (by simp)
      have hl1 : bs1.length ≤ 128 := hl (e1, bs1.length, cap1) (by simp)
      have hl2 : bs2.length ≤ 128 := hl (e2, bs2.length, cap2) (by simp)
      clear hc hl
      refine x_skip ?_
      refine xs_plain (E := EE []) ?_
      refine lx_move rfl rfl rfl ?_
      refine lx_callC rfl rfl ent17 (fun w' hC hG => qwide_calls e0 cap0 bs0 (by omega) hcap0 w' hG (hb0.grow (hp_below hC))) rfl rfl ?_
      refine lx_move rfl rfl rfl ?_
      refine lx_callC rfl rfl ent17 (fun w' hC hG => qwide_calls e1 cap1 bs1 (by omega) hcap1 w' hG (hb1.grow (hp_below hC))) rfl rfl ?_
      refine lx_move rfl rfl rfl ?_
      refine lx_callC rfl rfl ent17 (fun w' hC hG => qwide_calls e2 cap2 bs2 (by omega) hcap2 w' hG (hb2.grow (hp_below hC))) rfl rfl ?_
      refine lx_allocr 7 hGF zv28 rfl rfl ?_
      intro b7
      refine lx_allocr 8 hGF zv28 rfl rfl ?_
      intro b8
      refine lx_allocr 9 hGF zv28 rfl rfl ?_
      intro b9
      refine lx_storea 7 hGF rfl rfl rfl Tryd.sizeOf28 (by simp) (by simp) (one_u64 _) rfl ?_
      refine lx_storea 8 hGF rfl rfl rfl Tryd.sizeOf28 (by simp) (by simp) (one_u64 _) rfl ?_
      refine lx_storea 9 hGF rfl rfl rfl Tryd.sizeOf28 (by simp) (by simp) (one_u64 _) rfl ?_
      refine lx_nil ?_
      refine xs_drawn (E := EE []) mixed (by kernel_rfl) (by kernel_rfl) (by kernel_rfl) ?_
      refine lx_loada 7 rfl rfl Tryd.isAgg28 Tryd.sizeOf28 (by simp) rfl rfl ?_
      refine lx_loada 8 rfl rfl Tryd.isAgg28 Tryd.sizeOf28 (by simp) rfl rfl ?_
      refine lx_call rfl rfl ent23 (qadd_pure _ _) rfl rfl ?_
      refine lx_loada 8 rfl rfl Tryd.isAgg28 Tryd.sizeOf28 (by simp) rfl rfl ?_
      refine lx_loada 7 rfl rfl Tryd.isAgg28 Tryd.sizeOf28 (by simp) rfl rfl ?_
      refine lx_call rfl rfl ent23 (qadd_pure _ _) rfl rfl ?_
      refine lx_callB true rfl rfl ent28 (qequal_pure _ _) (decide_eq_true (by grind)) rfl rfl ?_
      refine lx_move rfl rfl rfl ?_
      refine lx_loada 7 rfl rfl Tryd.isAgg28 Tryd.sizeOf28 (by simp) rfl rfl ?_
      refine lx_loada 8 rfl rfl Tryd.isAgg28 Tryd.sizeOf28 (by simp) rfl rfl ?_
      refine lx_call rfl rfl ent26 (qmul_pure _ _) rfl rfl ?_
      refine lx_loada 8 rfl rfl Tryd.isAgg28 Tryd.sizeOf28 (by simp) rfl rfl ?_
      refine lx_loada 7 rfl rfl Tryd.isAgg28 Tryd.sizeOf28 (by simp) rfl rfl ?_
      refine lx_call rfl rfl ent26 (qmul_pure _ _) rfl rfl ?_
      refine lx_callB true rfl rfl ent28 (qequal_pure _ _) (decide_eq_true (by grind)) rfl rfl ?_
      refine lx_pick rfl rfl rfl rfl rfl ?_
      refine lx_move rfl rfl rfl ?_
      refine lx_loada 7 rfl rfl Tryd.isAgg28 Tryd.sizeOf28 (by simp) rfl rfl ?_
      refine lx_loada 8 rfl rfl Tryd.isAgg28 Tryd.sizeOf28 (by simp) rfl rfl ?_
      refine lx_loada 9 rfl rfl Tryd.isAgg28 Tryd.sizeOf28 (by simp) rfl rfl ?_
      refine lx_call rfl rfl ent23 (qadd_pure _ _) rfl rfl ?_
      refine lx_call rfl rfl ent23 (qadd_pure _ _) rfl rfl ?_
      refine lx_loada 7 rfl rfl Tryd.isAgg28 Tryd.sizeOf28 (by simp) rfl rfl ?_
      refine lx_loada 8 rfl rfl Tryd.isAgg28 Tryd.sizeOf28 (by simp) rfl rfl ?_
      refine lx_call rfl rfl ent23 (qadd_pure _ _) rfl rfl ?_
      refine lx_loada 9 rfl rfl Tryd.isAgg28 Tryd.sizeOf28 (by simp) rfl rfl ?_
      refine lx_call rfl rfl ent23 (qadd_pure _ _) rfl rfl ?_
      refine lx_callB true rfl rfl ent28 (qequal_pure _ _) (decide_eq_true (by grind)) rfl rfl ?_
      refine lx_pick rfl rfl rfl rfl rfl ?_
      refine lx_move rfl rfl rfl ?_
      refine lx_loada 7 rfl rfl Tryd.isAgg28 Tryd.sizeOf28 (by simp) rfl rfl ?_
      refine lx_loada 8 rfl rfl Tryd.isAgg28 Tryd.sizeOf28 (by simp) rfl rfl ?_
      refine lx_loada 9 rfl rfl Tryd.isAgg28 Tryd.sizeOf28 (by simp) rfl rfl ?_
      refine lx_call rfl rfl ent26 (qmul_pure _ _) rfl rfl ?_
      refine lx_call rfl rfl ent26 (qmul_pure _ _) rfl rfl ?_
      refine lx_loada 7 rfl rfl Tryd.isAgg28 Tryd.sizeOf28 (by simp) rfl rfl ?_
      refine lx_loada 8 rfl rfl Tryd.isAgg28 Tryd.sizeOf28 (by simp) rfl rfl ?_
      refine lx_call rfl rfl ent26 (qmul_pure _ _) rfl rfl ?_
      refine lx_loada 9 rfl rfl Tryd.isAgg28 Tryd.sizeOf28 (by simp) rfl rfl ?_
      refine lx_call rfl rfl ent26 (qmul_pure _ _) rfl rfl ?_
      refine lx_callB true rfl rfl ent28 (qequal_pure _ _) (decide_eq_true (by grind)) rfl rfl ?_
      refine lx_pick rfl rfl rfl rfl rfl ?_
      refine lx_move rfl rfl rfl ?_
      refine lx_loada 7 rfl rfl Tryd.isAgg28 Tryd.sizeOf28 (by simp) rfl rfl ?_
      refine lx_loada 8 rfl rfl Tryd.isAgg28 Tryd.sizeOf28 (by simp) rfl rfl ?_
      refine lx_loada 9 rfl rfl Tryd.isAgg28 Tryd.sizeOf28 (by simp) rfl rfl ?_
      refine lx_call rfl rfl ent23 (qadd_pure _ _) rfl rfl ?_
      refine lx_call rfl rfl ent26 (qmul_pure _ _) rfl rfl ?_
      refine lx_loada 7 rfl rfl Tryd.isAgg28 Tryd.sizeOf28 (by simp) rfl rfl ?_
      refine lx_loada 8 rfl rfl Tryd.isAgg28 Tryd.sizeOf28 (by simp) rfl rfl ?_
      refine lx_call rfl rfl ent26 (qmul_pure _ _) rfl rfl ?_
      refine lx_loada 7 rfl rfl Tryd.isAgg28 Tryd.sizeOf28 (by simp) rfl rfl ?_
      refine lx_loada 9 rfl rfl Tryd.isAgg28 Tryd.sizeOf28 (by simp) rfl rfl ?_
      refine lx_call rfl rfl ent26 (qmul_pure _ _) rfl rfl ?_
      refine lx_call rfl rfl ent23 (qadd_pure _ _) rfl rfl ?_
      refine lx_callB true rfl rfl ent28 (qequal_pure _ _) (decide_eq_true (by grind)) rfl rfl ?_
      refine lx_pick rfl rfl rfl rfl rfl ?_
      refine lx_move rfl rfl rfl ?_
      refine lx_loada 7 rfl rfl Tryd.isAgg28 Tryd.sizeOf28 (by simp) rfl rfl ?_
      refine lx_loada 8 rfl rfl Tryd.isAgg28 Tryd.sizeOf28 (by simp) rfl rfl ?_
      refine lx_call rfl rfl ent25 (qsub_pure _ _) rfl rfl ?_
      refine lx_loada 8 rfl rfl Tryd.isAgg28 Tryd.sizeOf28 (by simp) rfl rfl ?_
      refine lx_call rfl rfl ent23 (qadd_pure _ _) rfl rfl ?_
      refine lx_loada 7 rfl rfl Tryd.isAgg28 Tryd.sizeOf28 (by simp) rfl rfl ?_
      refine lx_callB true rfl rfl ent28 (qequal_pure _ _) (decide_eq_true (by grind)) rfl rfl ?_
      refine lx_pick rfl rfl rfl rfl rfl ?_
      refine lx_move rfl rfl rfl ?_
      refine lx_loada 7 rfl rfl Tryd.isAgg28 Tryd.sizeOf28 (by simp) rfl rfl ?_
      refine lx_call rfl rfl ent19 (qof_pure _) rfl rfl ?_
      refine lx_call rfl rfl ent26 (qmul_pure _ _) rfl rfl ?_
      refine lx_loada 7 rfl rfl Tryd.isAgg28 Tryd.sizeOf28 (by simp) rfl rfl ?_
      refine lx_callB true rfl rfl ent28 (qequal_pure _ _) (decide_eq_true (by rw [show zr (1#64).toNat = 1 from rfl]; grind)) rfl rfl ?_
      refine lx_pick rfl rfl rfl rfl rfl ?_
      refine lx_move rfl rfl rfl ?_
      refine lx_loada 7 rfl rfl Tryd.isAgg28 Tryd.sizeOf28 (by simp) rfl rfl ?_
      refine lx_loada 8 rfl rfl Tryd.isAgg28 Tryd.sizeOf28 (by simp) rfl rfl ?_
      refine lx_call rfl rfl ent26 (qmul_pure _ _) rfl rfl ?_
      refine lx_callB true rfl rfl ent13 (qisZero_pure _) (decide_eq_true (by rw [h0]; grind)) rfl rfl ?_
      refine lx_loada 7 rfl rfl Tryd.isAgg28 Tryd.sizeOf28 (by simp) rfl rfl ?_
      refine lx_callB true rfl rfl ent13 (qisZero_pure _) (decide_eq_true h0) rfl rfl ?_
      refine lx_move rfl rfl rfl ?_
      refine lx_skip rfl rfl rfl ?_
      refine lx_skip rfl rfl rfl ?_
      refine lx_pick rfl rfl rfl rfl rfl ?_
      refine lx_binB true rfl rfl (fun _ => rfl) (fun w => bin_eql_bool 4 Tryd.underlying4 _ _ w) (rfl) rfl rfl ?_
      refine lx_pick rfl rfl rfl rfl rfl ?_
      refine lx_assign rfl rfl rfl ?_
      refine lx_nil ?_
      refine x_ret ?_
      repeat (first | refine kseq_ret ?_ | refine kblk_ret ?_)
      exact kret_tmp rfl rfl (fun w hw => ⟨rfl, hp_below hw⟩)
  · by_cases h1 : QB bs1 = 0
    · skip
      refine calls_of_X (G := Gt) Tryd.func5 rfl rfl (Hp (pl w) []) (hp_refl (pl w) trivial rides_true) (good_hp hGF) ?_
      refine xs_plain (E := EE []) ?_
      refine lx_assign rfl rfl rfl ?_
      refine lx_nil ?_
      refine x_seq ?_
      refine xs_plain (E := EE []) ?_
      refine lx_callB true rfl rfl ent7 (known_pure) (rfl) rfl rfl ?_
      refine lx_un rfl (fun _ => un_not _) rfl rfl ?_
      refine lx_nil ?_
      refine x_false rfl ?_
      refine x_skip ?_
      refine x_seq ?_
      refine xs_plain (E := EE []) ?_
      refine lx_move rfl rfl rfl ?_
      refine lx_move rfl rfl rfl ?_
      refine lx_move rfl rfl rfl ?_
      refine lx_bslV 40 (SVl [(e0, bs0.length, cap0), (e1, bs1.length, cap1), (e2, bs2.length, cap2)]) hGF rfl rfl rfl (by decide) (by decide) Tryd.underlying63 Tryd.sizeOf22 Tryd.zeroValue22 rfl rfl rfl ?_
      intro b40
      refine lx_callC rfl rfl ent8 (fun w' hC hG => light_calls b40 3 [(e0, bs0.length, cap0), (e1, bs1.length, cap1), (e2, bs2.length, cap2)] rfl (by decide) w' hG (hp_row (n := 40) rfl w' hC)) rfl rfl ?_
      refine lx_un rfl (fun _ => un_not _) rfl rfl ?_
      refine lx_nil ?_
      refine x_if rfl (fun hc => ?_) (fun hc => ?_)
      · skip
        refine xs_plain (E := EE []) ?_
        refine lx_assign rfl rfl rfl ?_
        refine lx_nil ?_
        refine x_ret ?_
        repeat (first | refine kseq_ret ?_ | refine kblk_ret ?_)
        exact kret_tmp rfl rfl (fun w hw => ⟨rfl, hp_below hw⟩)
      · have hl : ∀ v ∈ [(e0, bs0.length, cap0), (e1, bs1.length, cap1), (e2, bs2.length, cap2)], v.2.1 ≤ 128 := by simpa using hc
        have hl0 : bs0.length ≤ 128 := hl (e0, bs0.length, cap0) (by simp)
        have hl1 : bs1.length ≤ 128 := hl (e1, bs1.length, cap1) (by simp)
        have hl2 : bs2.length ≤ 128 := hl (e2, bs2.length, cap2) (by simp)
        clear hc hl
        refine x_skip ?_
        refine xs_plain (E := EE []) ?_
        refine lx_move rfl rfl rfl ?_
        refine lx_callC rfl rfl ent17 (fun w' hC hG => qwide_calls e0 cap0 bs0 (by omega) hcap0 w' hG (hb0.grow (hp_below hC))) rfl rfl ?_
        refine lx_move rfl rfl rfl ?_
        refine lx_callC rfl rfl ent17 (fun w' hC hG => qwide_calls e1 cap1 bs1 (by omega) hcap1 w' hG (hb1.grow (hp_below hC))) rfl rfl ?_
        refine lx_move rfl rfl rfl ?_
        refine lx_callC rfl rfl ent17 (fun w' hC hG => qwide_calls e2 cap2 bs2 (by omega) hcap2 w' hG (hb2.grow (hp_below hC))) rfl rfl ?_
        refine lx_allocr 7 hGF zv28 rfl rfl ?_
        intro b7
        refine lx_allocr 8 hGF zv28 rfl rfl ?_
        intro b8
        refine lx_allocr 9 hGF zv28 rfl rfl ?_
        intro b9
        refine lx_storea 7 hGF rfl rfl rfl Tryd.sizeOf28 (by simp) (by simp) (one_u64 _) rfl ?_
        refine lx_storea 8 hGF rfl rfl rfl Tryd.sizeOf28 (by simp) (by simp) (one_u64 _) rfl ?_
        refine lx_storea 9 hGF rfl rfl rfl Tryd.sizeOf28 (by simp) (by simp) (one_u64 _) rfl ?_
        refine lx_nil ?_
        refine xs_drawn (E := EE []) mixed (by kernel_rfl) (by kernel_rfl) (by kernel_rfl) ?_
        refine lx_loada 7 rfl rfl Tryd.isAgg28 Tryd.sizeOf28 (by simp) rfl rfl ?_
        refine lx_loada 8 rfl rfl Tryd.isAgg28 Tryd.sizeOf28 (by simp) rfl rfl ?_
        refine lx_call rfl rfl ent23 (qadd_pure _ _) rfl rfl ?_
        refine lx_loada 8 rfl rfl Tryd.isAgg28 Tryd.sizeOf28 (by simp) rfl rfl ?_
        refine lx_loada 7 rfl rfl Tryd.isAgg28 Tryd.sizeOf28 (by simp) rfl rfl ?_
        refine lx_call rfl rfl ent23 (qadd_pure _ _) rfl rfl ?_
        refine lx_callB true rfl rfl ent28 (qequal_pure _ _) (decide_eq_true (by grind)) rfl rfl ?_
        refine lx_move rfl rfl rfl ?_
        refine lx_loada 7 rfl rfl Tryd.isAgg28 Tryd.sizeOf28 (by simp) rfl rfl ?_
        refine lx_loada 8 rfl rfl Tryd.isAgg28 Tryd.sizeOf28 (by simp) rfl rfl ?_
        refine lx_call rfl rfl ent26 (qmul_pure _ _) rfl rfl ?_
        refine lx_loada 8 rfl rfl Tryd.isAgg28 Tryd.sizeOf28 (by simp) rfl rfl ?_
        refine lx_loada 7 rfl rfl Tryd.isAgg28 Tryd.sizeOf28 (by simp) rfl rfl ?_
        refine lx_call rfl rfl ent26 (qmul_pure _ _) rfl rfl ?_
        refine lx_callB true rfl rfl ent28 (qequal_pure _ _) (decide_eq_true (by grind)) rfl rfl ?_
        refine lx_pick rfl rfl rfl rfl rfl ?_
        refine lx_move rfl rfl rfl ?_
        refine lx_loada 7 rfl rfl Tryd.isAgg28 Tryd.sizeOf28 (by simp) rfl rfl ?_
        refine lx_loada 8 rfl rfl Tryd.isAgg28 Tryd.sizeOf28 (by simp) rfl rfl ?_
        refine lx_loada 9 rfl rfl Tryd.isAgg28 Tryd.sizeOf28 (by simp) rfl rfl ?_
        refine lx_call rfl rfl ent23 (qadd_pure _ _) rfl rfl ?_
        refine lx_call rfl rfl ent23 (qadd_pure _ _) rfl rfl ?_
        refine lx_loada 7 rfl rfl Tryd.isAgg28 Tryd.sizeOf28 (by simp) rfl rfl ?_
        refine lx_loada 8 rfl rfl Tryd.isAgg28 Tryd.sizeOf28 (by simp) rfl rfl ?_
        refine lx_call rfl rfl ent23 (qadd_pure _ _) rfl rfl ?_
        refine lx_loada 9 rfl rfl Tryd.isAgg28 Tryd.sizeOf28 (by simp) rfl rfl ?_
        refine lx_call rfl rfl ent23 (qadd_pure _ _) rfl rfl ?_
        refine lx_callB true rfl rfl ent28 (qequal_pure _ _) (decide_eq_true (by grind)) rfl rfl ?_
        refine lx_pick rfl rfl rfl rfl rfl ?_
        refine lx_move rfl rfl rfl ?_
        refine lx_loada 7 rfl rfl Tryd.isAgg28 Tryd.sizeOf28 (by simp) rfl rfl ?_
        refine lx_loada 8 rfl rfl Tryd.isAgg28 Tryd.sizeOf28 (by simp) rfl rfl ?_
        refine lx_loada 9 rfl rfl Tryd.isAgg28 Tryd.sizeOf28 (by simp) rfl rfl ?_
        refine lx_call rfl rfl ent26 (qmul_pure _ _) rfl rfl ?_
        refine lx_call rfl rfl ent26 (qmul_pure _ _) rfl rfl ?_
        refine lx_loada 7 rfl rfl Tryd.isAgg28 Tryd.sizeOf28 (by simp) rfl rfl ?_
        refine lx_loada 8 rfl rfl Tryd.isAgg28 Tryd.sizeOf28 (by simp) rfl rfl ?_
        refine lx_call rfl rfl ent26 (qmul_pure _ _) rfl rfl ?_
        refine lx_loada 9 rfl rfl Tryd.isAgg28 Tryd.sizeOf28 (by simp) rfl rfl ?_
        refine lx_call rfl rfl ent26 (qmul_pure _ _) rfl rfl ?_
        refine lx_callB true rfl rfl ent28 (qequal_pure _ _) (decide_eq_true (by grind)) rfl rfl ?_
        refine lx_pick rfl rfl rfl rfl rfl ?_
        refine lx_move rfl rfl rfl ?_
        refine lx_loada 7 rfl rfl Tryd.isAgg28 Tryd.sizeOf28 (by simp) rfl rfl ?_
        refine lx_loada 8 rfl rfl Tryd.isAgg28 Tryd.sizeOf28 (by simp) rfl rfl ?_
        refine lx_loada 9 rfl rfl Tryd.isAgg28 Tryd.sizeOf28 (by simp) rfl rfl ?_
        refine lx_call rfl rfl ent23 (qadd_pure _ _) rfl rfl ?_
        refine lx_call rfl rfl ent26 (qmul_pure _ _) rfl rfl ?_
        refine lx_loada 7 rfl rfl Tryd.isAgg28 Tryd.sizeOf28 (by simp) rfl rfl ?_
        refine lx_loada 8 rfl rfl Tryd.isAgg28 Tryd.sizeOf28 (by simp) rfl rfl ?_
        refine lx_call rfl rfl ent26 (qmul_pure _ _) rfl rfl ?_
        refine lx_loada 7 rfl rfl Tryd.isAgg28 Tryd.sizeOf28 (by simp) rfl rfl ?_
        refine lx_loada 9 rfl rfl Tryd.isAgg28 Tryd.sizeOf28 (by simp) rfl rfl ?_
        refine lx_call rfl rfl ent26 (qmul_pure _ _) rfl rfl ?_
        refine lx_call rfl rfl ent23 (qadd_pure _ _) rfl rfl ?_
        refine lx_callB true rfl rfl ent28 (qequal_pure _ _) (decide_eq_true (by grind)) rfl rfl ?_
        refine lx_pick rfl rfl rfl rfl rfl ?_
        refine lx_move rfl rfl rfl ?_
        refine lx_loada 7 rfl rfl Tryd.isAgg28 Tryd.sizeOf28 (by simp) rfl rfl ?_
        refine lx_loada 8 rfl rfl Tryd.isAgg28 Tryd.sizeOf28 (by simp) rfl rfl ?_
        refine lx_call rfl rfl ent25 (qsub_pure _ _) rfl rfl ?_
        refine lx_loada 8 rfl rfl Tryd.isAgg28 Tryd.sizeOf28 (by simp) rfl rfl ?_
        refine lx_call rfl rfl ent23 (qadd_pure _ _) rfl rfl ?_
        refine lx_loada 7 rfl rfl Tryd.isAgg28 Tryd.sizeOf28 (by simp) rfl rfl ?_
        refine lx_callB true rfl rfl ent28 (qequal_pure _ _) (decide_eq_true (by grind)) rfl rfl ?_
        refine lx_pick rfl rfl rfl rfl rfl ?_
        refine lx_move rfl rfl rfl ?_
        refine lx_loada 7 rfl rfl Tryd.isAgg28 Tryd.sizeOf28 (by simp) rfl rfl ?_
        refine lx_call rfl rfl ent19 (qof_pure _) rfl rfl ?_
        refine lx_call rfl rfl ent26 (qmul_pure _ _) rfl rfl ?_
        refine lx_loada 7 rfl rfl Tryd.isAgg28 Tryd.sizeOf28 (by simp) rfl rfl ?_
        refine lx_callB true rfl rfl ent28 (qequal_pure _ _) (decide_eq_true (by rw [show zr (1#64).toNat = 1 from rfl]; grind)) rfl rfl ?_
        refine lx_pick rfl rfl rfl rfl rfl ?_
        refine lx_move rfl rfl rfl ?_
        refine lx_loada 7 rfl rfl Tryd.isAgg28 Tryd.sizeOf28 (by simp) rfl rfl ?_
        refine lx_loada 8 rfl rfl Tryd.isAgg28 Tryd.sizeOf28 (by simp) rfl rfl ?_
        refine lx_call rfl rfl ent26 (qmul_pure _ _) rfl rfl ?_
        refine lx_callB true rfl rfl ent13 (qisZero_pure _) (decide_eq_true (by rw [h1]; grind)) rfl rfl ?_
        refine lx_loada 7 rfl rfl Tryd.isAgg28 Tryd.sizeOf28 (by simp) rfl rfl ?_
        refine lx_callB false rfl rfl ent13 (qisZero_pure _) (decide_eq_false h0) rfl rfl ?_
        refine lx_move rfl rfl rfl ?_
        refine lx_loada 8 rfl rfl Tryd.isAgg28 Tryd.sizeOf28 (by simp) rfl rfl ?_
        refine lx_callB true rfl rfl ent13 (qisZero_pure _) (decide_eq_true h1) rfl rfl ?_
        refine lx_pick rfl rfl rfl rfl rfl ?_
        refine lx_binB true rfl rfl (fun _ => rfl) (fun w => bin_eql_bool 4 Tryd.underlying4 _ _ w) (rfl) rfl rfl ?_
        refine lx_pick rfl rfl rfl rfl rfl ?_
        refine lx_assign rfl rfl rfl ?_
        refine lx_nil ?_
        refine x_ret ?_
        repeat (first | refine kseq_ret ?_ | refine kblk_ret ?_)
        exact kret_tmp rfl rfl (fun w hw => ⟨rfl, hp_below hw⟩)
    · skip
      refine calls_of_X (G := Gt) Tryd.func5 rfl rfl (Hp (pl w) []) (hp_refl (pl w) trivial rides_true) (good_hp hGF) ?_
      refine xs_plain (E := EE []) ?_
      refine lx_assign rfl rfl rfl ?_
      refine lx_nil ?_
      refine x_seq ?_
      refine xs_plain (E := EE []) ?_
      refine lx_callB true rfl rfl ent7 (known_pure) (rfl) rfl rfl ?_
      refine lx_un rfl (fun _ => un_not _) rfl rfl ?_
      refine lx_nil ?_
      refine x_false rfl ?_
      refine x_skip ?_
      refine x_seq ?_
      refine xs_plain (E := EE []) ?_
      refine lx_move rfl rfl rfl ?_
      refine lx_move rfl rfl rfl ?_
      refine lx_move rfl rfl rfl ?_
      refine lx_bslV 40 (SVl [(e0, bs0.length, cap0), (e1, bs1.length, cap1), (e2, bs2.length, cap2)]) hGF rfl rfl rfl (by decide) (by decide) Tryd.underlying63 Tryd.sizeOf22 Tryd.zeroValue22 rfl rfl rfl ?_
      intro b40
      refine lx_callC rfl rfl ent8 (fun w' hC hG => light_calls b40 3 [(e0, bs0.length, cap0), (e1, bs1.length, cap1), (e2, bs2.length, cap2)] rfl (by decide) w' hG (hp_row (n := 40) rfl w' hC)) rfl rfl ?_
      refine lx_un rfl (fun _ => un_not _) rfl rfl ?_
      refine lx_nil ?_
      refine x_if rfl (fun hc => ?_) (fun hc => ?_)
      · skip
        refine xs_plain (E := EE []) ?_
        refine lx_assign rfl rfl rfl ?_
        refine lx_nil ?_
        refine x_ret ?_
        repeat (first | refine kseq_ret ?_ | refine kblk_ret ?_)
        exact kret_tmp rfl rfl (fun w hw => ⟨rfl, hp_below hw⟩)
      · have hl : ∀ v ∈ [(e0, bs0.length, cap0), (e1, bs1.length, cap1), (e2, bs2.length, cap2)], v.2.1 ≤ 128 := by simpa using hc
        have hl0 : bs0.length ≤ 128 := hl (e0, bs0.length, cap0) (by simp)
        have hl1 : bs1.length ≤ 128 := hl (e1, bs1.length, cap1) (by simp)
        have hl2 : bs2.length ≤ 128 := hl (e2, bs2.length, cap2) (by simp)
        clear hc hl
        refine x_skip ?_
        refine xs_plain (E := EE []) ?_
        refine lx_move rfl rfl rfl ?_
        refine lx_callC rfl rfl ent17 (fun w' hC hG => qwide_calls e0 cap0 bs0 (by omega) hcap0 w' hG (hb0.grow (hp_below hC))) rfl rfl ?_
        refine lx_move rfl rfl rfl ?_
        refine lx_callC rfl rfl ent17 (fun w' hC hG => qwide_calls e1 cap1 bs1 (by omega) hcap1 w' hG (hb1.grow (hp_below hC))) rfl rfl ?_
        refine lx_move rfl rfl rfl ?_
        refine lx_callC rfl rfl ent17 (fun w' hC hG => qwide_calls e2 cap2 bs2 (by omega) hcap2 w' hG (hb2.grow (hp_below hC))) rfl rfl ?_
        refine lx_allocr 7 hGF zv28 rfl rfl ?_
        intro b7
        refine lx_allocr 8 hGF zv28 rfl rfl ?_
        intro b8
        refine lx_allocr 9 hGF zv28 rfl rfl ?_
        intro b9
        refine lx_storea 7 hGF rfl rfl rfl Tryd.sizeOf28 (by simp) (by simp) (one_u64 _) rfl ?_
        refine lx_storea 8 hGF rfl rfl rfl Tryd.sizeOf28 (by simp) (by simp) (one_u64 _) rfl ?_
        refine lx_storea 9 hGF rfl rfl rfl Tryd.sizeOf28 (by simp) (by simp) (one_u64 _) rfl ?_
        refine lx_nil ?_
        refine xs_drawn (E := EE []) mixed (by kernel_rfl) (by kernel_rfl) (by kernel_rfl) ?_
        refine lx_loada 7 rfl rfl Tryd.isAgg28 Tryd.sizeOf28 (by simp) rfl rfl ?_
        refine lx_loada 8 rfl rfl Tryd.isAgg28 Tryd.sizeOf28 (by simp) rfl rfl ?_
        refine lx_call rfl rfl ent23 (qadd_pure _ _) rfl rfl ?_
        refine lx_loada 8 rfl rfl Tryd.isAgg28 Tryd.sizeOf28 (by simp) rfl rfl ?_
        refine lx_loada 7 rfl rfl Tryd.isAgg28 Tryd.sizeOf28 (by simp) rfl rfl ?_
        refine lx_call rfl rfl ent23 (qadd_pure _ _) rfl rfl ?_
        refine lx_callB true rfl rfl ent28 (qequal_pure _ _) (decide_eq_true (by grind)) rfl rfl ?_
        refine lx_move rfl rfl rfl ?_
        refine lx_loada 7 rfl rfl Tryd.isAgg28 Tryd.sizeOf28 (by simp) rfl rfl ?_
        refine lx_loada 8 rfl rfl Tryd.isAgg28 Tryd.sizeOf28 (by simp) rfl rfl ?_
        refine lx_call rfl rfl ent26 (qmul_pure _ _) rfl rfl ?_
        refine lx_loada 8 rfl rfl Tryd.isAgg28 Tryd.sizeOf28 (by simp) rfl rfl ?_
        refine lx_loada 7 rfl rfl Tryd.isAgg28 Tryd.sizeOf28 (by simp) rfl rfl ?_
        refine lx_call rfl rfl ent26 (qmul_pure _ _) rfl rfl ?_
        refine lx_callB true rfl rfl ent28 (qequal_pure _ _) (decide_eq_true (by grind)) rfl rfl ?_
        refine lx_pick rfl rfl rfl rfl rfl ?_
        refine lx_move rfl rfl rfl ?_
        refine lx_loada 7 rfl rfl Tryd.isAgg28 Tryd.sizeOf28 (by simp) rfl rfl ?_
        refine lx_loada 8 rfl rfl Tryd.isAgg28 Tryd.sizeOf28 (by simp) rfl rfl ?_
        refine lx_loada 9 rfl rfl Tryd.isAgg28 Tryd.sizeOf28 (by simp) rfl rfl ?_
        refine lx_call rfl rfl ent23 (qadd_pure _ _) rfl rfl ?_
        refine lx_call rfl rfl ent23 (qadd_pure _ _) rfl rfl ?_
        refine lx_loada 7 rfl rfl Tryd.isAgg28 Tryd.sizeOf28 (by simp) rfl rfl ?_
        refine lx_loada 8 rfl rfl Tryd.isAgg28 Tryd.sizeOf28 (by simp) rfl rfl ?_
        refine lx_call rfl rfl ent23 (qadd_pure _ _) rfl rfl ?_
        refine lx_loada 9 rfl rfl Tryd.isAgg28 Tryd.sizeOf28 (by simp) rfl rfl ?_
        refine lx_call rfl rfl ent23 (qadd_pure _ _) rfl rfl ?_
        refine lx_callB true rfl rfl ent28 (qequal_pure _ _) (decide_eq_true (by grind)) rfl rfl ?_
        refine lx_pick rfl rfl rfl rfl rfl ?_
        refine lx_move rfl rfl rfl ?_
        refine lx_loada 7 rfl rfl Tryd.isAgg28 Tryd.sizeOf28 (by simp) rfl rfl ?_
        refine lx_loada 8 rfl rfl Tryd.isAgg28 Tryd.sizeOf28 (by simp) rfl rfl ?_
        refine lx_loada 9 rfl rfl Tryd.isAgg28 Tryd.sizeOf28 (by simp) rfl rfl ?_
        refine lx_call rfl rfl ent26 (qmul_pure _ _) rfl rfl ?_
        refine lx_call rfl rfl ent26 (qmul_pure _ _) rfl rfl ?_
        refine lx_loada 7 rfl rfl Tryd.isAgg28 Tryd.sizeOf28 (by simp) rfl rfl ?_
        refine lx_loada 8 rfl rfl Tryd.isAgg28 Tryd.sizeOf28 (by simp) rfl rfl ?_
        refine lx_call rfl rfl ent26 (qmul_pure _ _) rfl rfl ?_
        refine lx_loada 9 rfl rfl Tryd.isAgg28 Tryd.sizeOf28 (by simp) rfl rfl ?_
        refine lx_call rfl rfl ent26 (qmul_pure _ _) rfl rfl ?_
        refine lx_callB true rfl rfl ent28 (qequal_pure _ _) (decide_eq_true (by grind)) rfl rfl ?_
        refine lx_pick rfl rfl rfl rfl rfl ?_
        refine lx_move rfl rfl rfl ?_
        refine lx_loada 7 rfl rfl Tryd.isAgg28 Tryd.sizeOf28 (by simp) rfl rfl ?_
        refine lx_loada 8 rfl rfl Tryd.isAgg28 Tryd.sizeOf28 (by simp) rfl rfl ?_
        refine lx_loada 9 rfl rfl Tryd.isAgg28 Tryd.sizeOf28 (by simp) rfl rfl ?_
        refine lx_call rfl rfl ent23 (qadd_pure _ _) rfl rfl ?_
        refine lx_call rfl rfl ent26 (qmul_pure _ _) rfl rfl ?_
        refine lx_loada 7 rfl rfl Tryd.isAgg28 Tryd.sizeOf28 (by simp) rfl rfl ?_
        refine lx_loada 8 rfl rfl Tryd.isAgg28 Tryd.sizeOf28 (by simp) rfl rfl ?_
        refine lx_call rfl rfl ent26 (qmul_pure _ _) rfl rfl ?_
        refine lx_loada 7 rfl rfl Tryd.isAgg28 Tryd.sizeOf28 (by simp) rfl rfl ?_
        refine lx_loada 9 rfl rfl Tryd.isAgg28 Tryd.sizeOf28 (by simp) rfl rfl ?_
        refine lx_call rfl rfl ent26 (qmul_pure _ _) rfl rfl ?_
        refine lx_call rfl rfl ent23 (qadd_pure _ _) rfl rfl ?_
        refine lx_callB true rfl rfl ent28 (qequal_pure _ _) (decide_eq_true (by grind)) rfl rfl ?_
        refine lx_pick rfl rfl rfl rfl rfl ?_
        refine lx_move rfl rfl rfl ?_
        refine lx_loada 7 rfl rfl Tryd.isAgg28 Tryd.sizeOf28 (by simp) rfl rfl ?_
        refine lx_loada 8 rfl rfl Tryd.isAgg28 Tryd.sizeOf28 (by simp) rfl rfl ?_
        refine lx_call rfl rfl ent25 (qsub_pure _ _) rfl rfl ?_
        refine lx_loada 8 rfl rfl Tryd.isAgg28 Tryd.sizeOf28 (by simp) rfl rfl ?_
        refine lx_call rfl rfl ent23 (qadd_pure _ _) rfl rfl ?_
        refine lx_loada 7 rfl rfl Tryd.isAgg28 Tryd.sizeOf28 (by simp) rfl rfl ?_
        refine lx_callB true rfl rfl ent28 (qequal_pure _ _) (decide_eq_true (by grind)) rfl rfl ?_
        refine lx_pick rfl rfl rfl rfl rfl ?_
        refine lx_move rfl rfl rfl ?_
        refine lx_loada 7 rfl rfl Tryd.isAgg28 Tryd.sizeOf28 (by simp) rfl rfl ?_
        refine lx_call rfl rfl ent19 (qof_pure _) rfl rfl ?_
        refine lx_call rfl rfl ent26 (qmul_pure _ _) rfl rfl ?_
        refine lx_loada 7 rfl rfl Tryd.isAgg28 Tryd.sizeOf28 (by simp) rfl rfl ?_
        refine lx_callB true rfl rfl ent28 (qequal_pure _ _) (decide_eq_true (by rw [show zr (1#64).toNat = 1 from rfl]; grind)) rfl rfl ?_
        refine lx_pick rfl rfl rfl rfl rfl ?_
        refine lx_move rfl rfl rfl ?_
        refine lx_loada 7 rfl rfl Tryd.isAgg28 Tryd.sizeOf28 (by simp) rfl rfl ?_
        refine lx_loada 8 rfl rfl Tryd.isAgg28 Tryd.sizeOf28 (by simp) rfl rfl ?_
        refine lx_call rfl rfl ent26 (qmul_pure _ _) rfl rfl ?_
        refine lx_callB false rfl rfl ent13 (qisZero_pure _) (decide_eq_false (fun h => (qzmul0 h).elim h0 h1)) rfl rfl ?_
        refine lx_loada 7 rfl rfl Tryd.isAgg28 Tryd.sizeOf28 (by simp) rfl rfl ?_
        refine lx_callB false rfl rfl ent13 (qisZero_pure _) (decide_eq_false h0) rfl rfl ?_
        refine lx_move rfl rfl rfl ?_
        refine lx_loada 8 rfl rfl Tryd.isAgg28 Tryd.sizeOf28 (by simp) rfl rfl ?_
        refine lx_callB false rfl rfl ent13 (qisZero_pure _) (decide_eq_false h1) rfl rfl ?_
        refine lx_pick rfl rfl rfl rfl rfl ?_
        refine lx_binB true rfl rfl (fun _ => rfl) (fun w => bin_eql_bool 4 Tryd.underlying4 _ _ w) (rfl) rfl rfl ?_
        refine lx_pick rfl rfl rfl rfl rfl ?_
        refine lx_assign rfl rfl rfl ?_
        refine lx_nil ?_
        refine x_ret ?_
        repeat (first | refine kseq_ret ?_ | refine kblk_ret ?_)
        exact kret_tmp rfl rfl (fun w hw => ⟨rfl, hp_below hw⟩)
end Go.Proofs.YtgogiehnilpepaaDoor
