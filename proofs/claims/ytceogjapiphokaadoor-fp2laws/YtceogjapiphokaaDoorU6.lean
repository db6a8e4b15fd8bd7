/-
  The laws Fp2Norms, Fp2Laws.
-/
import Derived.Test.YtceogjapiphokaaDoorXA
namespace Go.Proofs.YtceogjapiphokaaDoor
open Go.RowKit
set_option maxRecDepth 100000
set_option maxHeartbeats 1000000
attribute [local simp] fe_len nm_len AS_len SS_len MONT_len RM_len FRs_len BYs_len by48_len PLl TWOl ONEl N1l IVPl HFPl RTPl FL_len SP_len fe2_len SP2_len FM_len

theorem nm_four (a b : W2) : ml2 (ml2 a b) (cj2 (ml2 a b)) = ml2 (ml2 a (cj2 a)) (ml2 b (cj2 b)) := by
  rw [cj2_mul]; exact R2.mul_four a b (cj2 a) (cj2 b)
theorem zp3 : zp (3#64).toNat = 1 + 1 + 1 := (zp_add 2 1).trans (by rw [zp_add 1 1]; rfl)
theorem sc_3 (a : W2) : sc2 a (zp (3#64).toNat) = ad2 (ad2 a a) a := by
  rw [zp3]
  exact w2_ext (by simp only [sc2, ad2]; grind) (by simp only [sc2, ad2]; grind)
theorem nm_fst (a : W2) : (ml2 a (cj2 a)).1 = nm2 a := congrArg Prod.fst (nm2_cj a)
theorem nm_snd (a : W2) : (ml2 a (cj2 a)).2 = 0 := congrArg Prod.snd (nm2_cj a)
theorem norms5 (e0 : Option Addr) (cap0 : Nat) (bs0 : List (BitVec 8)) (hcap0 : bs0.length ≤ cap0) (e1 : Option Addr) (cap1 : Nat) (bs1 : List (BitVec 8)) (hcap1 : bs1.length ≤ cap1) (w : World) (hw : Gt w) (hb0 : BytesAt w e0 bs0) (hb1 : BytesAt w e1 bs1) :
    Calls Tryd.prog 8 [.slice e0 bs0.length cap0, .slice e1 bs1.length cap1].toArray w (fun r w' => r = .returned (.bool true) ∧ Grow w w') := by
  have hGF : BOk Gt (pl w) := gt_low.plain hw
  refine calls_of_X (G := Gt) Tryd.func8 rfl rfl (Hp (pl w) []) (hp_refl (pl w) trivial rides_true) (good_hp hGF) ?_
  refine xs_plain (E := EE []) ?_
  refine lx_assign rfl rfl rfl ?_
  refine lx_nil ?_
  refine x_seq ?_
  refine xs_plain (E := EE []) ?_
  refine lx_callB true rfl rfl ent9 (known5) (rfl) rfl rfl ?_
  refine lx_un rfl (fun _ => un_not _) rfl rfl ?_
  refine lx_nil ?_
  refine x_false rfl ?_
  refine x_skip ?_
  refine x_seq ?_
  refine xs_plain (E := EE []) ?_
  refine lx_move rfl rfl rfl ?_
  refine lx_move rfl rfl rfl ?_
  refine lx_bslV 940 (SVl [(e0, bs0.length, cap0), (e1, bs1.length, cap1)]) hGF rfl rfl rfl (by decide) (by decide) Tryd.underlying65 Tryd.sizeOf22 Tryd.zeroValue22 rfl rfl rfl ?_
  intro b940
  refine lx_callC rfl rfl ent10 (fun w' hC hG => light_calls b940 2 [(e0, bs0.length, cap0), (e1, bs1.length, cap1)] rfl (by decide) w' hG (hp_row (n := 940) rfl w' hC)) rfl rfl ?_
  refine lx_un rfl (fun _ => un_not _) rfl rfl ?_
  refine lx_nil ?_
  refine x_if rfl (fun hc => ?_) (fun hc => ?_)
  · skip
    refine xs_plain (E := EE []) ?_
    refine lx_assign rfl rfl rfl ?_
    refine lx_nil ?_
    refine x_ret ?_
    repeat (first | refine kseq_ret ?_ | refine kblk_ret ?_)
    exact kret_tmp rfl rfl (fun w hw => ⟨rfl, hp_below hw⟩)
  · have hl : ∀ v ∈ [(e0, bs0.length, cap0), (e1, bs1.length, cap1)], v.2.1 ≤ 200 := by simpa using hc
    have hl0 : bs0.length ≤ 200 := hl (e0, bs0.length, cap0) (by simp)
    have hl1 : bs1.length ≤ 200 := hl (e1, bs1.length, cap1) (by simp)
    clear hc hl
    refine x_skip ?_
    refine xs_plain (E := EE []) ?_
    refine lx_move rfl rfl rfl ?_
    refine lx_callC rfl rfl ent11 (fun w' hC hG => num_calls e0 cap0 bs0 (by omega) hcap0 w' hG (hb0.grow (hp_below hC))) rfl rfl ?_
    refine lx_move rfl rfl rfl ?_
    refine lx_callC rfl rfl ent11 (fun w' hC hG => num_calls e1 cap1 bs1 (by omega) hcap1 w' hG (hb1.grow (hp_below hC))) rfl rfl ?_
    refine lx_allocr 5 hGF zv30 rfl rfl ?_
    intro b5
    refine lx_allocr 6 hGF zv30 rfl rfl ?_
    intro b6
    refine lx_storea 5 hGF rfl rfl rfl Tryd.sizeOf30 (by simp) (by simp) (one_u64 _) rfl ?_
    refine lx_storea 6 hGF rfl rfl rfl Tryd.sizeOf30 (by simp) (by simp) (one_u64 _) rfl ?_
    refine lx_nil ?_
    refine xs_drawA (E := EE [2999999]) [0, 1, 2, 3, 4, 5, 6, 7, 8, 9, 10, 11, 12, 13, 14, 15] [⟨16, 7, 30, (fe 0 ++ fe 0).map U64⟩, ⟨17, 8, 30, (fe 0 ++ fe 0).map U64⟩, ⟨18, 9, 30, (fe 0 ++ fe 0).map U64⟩] [19, 20, 21] mixed rfl (by kernel_rfl) (by kernel_rfl) (by kernel_rfl) (by kernel_rfl) (by kernel_rfl) (by kernel_rfl) (by decide) (by intro x hx; simp only [List.mem_cons, List.not_mem_nil, or_false] at hx; rcases hx with rfl | rfl | rfl <;> exact isAlloc_mk rfl zv30 rfl) ?_
    refine lx_loada 5 rfl rfl Tryd.isAgg30 Tryd.sizeOf30 (by simp) rfl rfl ?_
    refine lx_loada 5 rfl rfl Tryd.isAgg30 Tryd.sizeOf30 (by simp) rfl rfl ?_
    refine lx_call rfl rfl ent22 (e2conj _) rfl rfl ?_
    refine lx_call rfl rfl ent24 (e2mul _ _) rfl rfl ?_
    refine lx_loada 6 rfl rfl Tryd.isAgg30 Tryd.sizeOf30 (by simp) rfl rfl ?_
    refine lx_loada 6 rfl rfl Tryd.isAgg30 Tryd.sizeOf30 (by simp) rfl rfl ?_
    refine lx_call rfl rfl ent22 (e2conj _) rfl rfl ?_
    refine lx_call rfl rfl ent24 (e2mul _ _) rfl rfl ?_
    refine lx_loada 5 rfl rfl Tryd.isAgg30 Tryd.sizeOf30 (by simp) rfl rfl ?_
    refine lx_loada 6 rfl rfl Tryd.isAgg30 Tryd.sizeOf30 (by simp) rfl rfl ?_
    refine lx_call rfl rfl ent24 (e2mul _ _) rfl rfl ?_
    refine lx_loada 5 rfl rfl Tryd.isAgg30 Tryd.sizeOf30 (by simp) rfl rfl ?_
    refine lx_loada 6 rfl rfl Tryd.isAgg30 Tryd.sizeOf30 (by simp) rfl rfl ?_
    refine lx_call rfl rfl ent24 (e2mul _ _) rfl rfl ?_
    refine lx_call rfl rfl ent22 (e2conj _) rfl rfl ?_
    refine lx_call rfl rfl ent24 (e2mul _ _) rfl rfl ?_
    refine lx_nil ?_
    refine ⟨_, _, rfl, hGF, by intro x hx; simp only [List.mem_cons, List.not_mem_nil, or_false] at hx; rcases hx with rfl | rfl | rfl <;> rfl, by intro x hx; simp only [List.mem_cons, List.not_mem_nil, or_false] at hx; rcases hx with rfl | rfl | rfl <;> rfl, fun adr => ?_⟩
    refine lx_storea 7 hGF rfl rfl rfl Tryd.sizeOf30 (by simp) (by simp) (one_u64 _) rfl ?_
    refine lx_storea 8 hGF rfl rfl rfl Tryd.sizeOf30 (by simp) (by simp) (one_u64 _) rfl ?_
    refine lx_storea 9 hGF rfl rfl rfl Tryd.sizeOf30 (by simp) (by simp) (one_u64 _) rfl ?_
    refine lx_nil ?_
    refine xs_drawnT (E := EE []) [(38, [7], []), (39, [37], [0]), (40, [38], [1]), (41, [39], [2, 2]), (42, [7, 40], [3]), (43, [41, 40], [4, 3]), (44, [5, 40], [3]), (45, [43, 40], [6, 3]), (46, [44, 40], [7, 3, 3]), (47, [5, 40], [3]), (48, [46, 40], [9, 3]), (49, [47, 40], [10, 8, 3]), (50, [45, 48, 40], [8, 11, 11, 3]), (51, [42, 49, 40], [5, 12, 12, 3]), (52, [40, 50], [3, 13]), (53, [51], [14, 13]), (54, [9, 52], [15]), (55, [7, 52], [15]), (56, [8, 52], [15]), (57, [54, 55, 52], [17, 18, 15, 15]), (58, [53, 56, 52], [16, 19, 19, 15]), (59, [52, 57], [15, 20]), (60, [58], [21, 20]), (61, [5, 59], [22]), (62, [60, 59], [23, 22, 22]), (63, [7, 59], [22]), (64, [62, 59], [25, 22]), (65, [63, 59], [26, 24, 22]), (66, [64, 59], [27, 22]), (67, [61, 65, 59], [24, 28, 22]), (68, [59, 66], [22, 29]), (69, [67], [30, 27]), (70, [5, 68], [31]), (71, [68], [31, 31]), (72, [69, 70, 68], [32, 33, 33, 31]), (73, [5, 68], [31]), (74, [5, 68], [31]), (75, [72, 73, 68], [35, 36, 34, 31]), (76, [5, 68], [31]), (77, [74, 75, 68], [37, 38, 37, 31]), (78, [71, 76, 68], [34, 39, 39, 31]), (79, [68, 77], [31, 40]), (5, [78], [41, 40, 0, 1, 2, 3, 4, 5, 6, 7, 8, 9, 10, 11, 12, 13, 14, 15, 16, 17, 18, 19, 20, 21, 22, 23, 24, 25, 26, 27, 28, 29, 30, 31, 32, 33, 34, 35, 36, 37, 38, 39, 40, 41])] mixed (by kernel_rfl) (by kernel_rfl) (by kernel_rfl) (by kernel_rfl) (by kernel_rfl) ?_
    refine lx_fak 6 rfl Tryd.underlying30 rfl Tryd.sizeOf28 (by decide) rfl rfl rfl ?_
    refine lx_loado 7 _ rfl rfl Tryd.isAgg28 Tryd.sizeOf28 (by simp) (ld_r (by simp)) rfl rfl ?_
    refine lx_callB true rfl rfl ent48 (fisZero_pure _) (decide_eq_true (nm_snd _)) rfl rfl ?_
    refine lx_move rfl rfl rfl ?_
    refine lx_fak 0 rfl Tryd.underlying30 rfl Tryd.sizeOf28 (by decide) rfl rfl rfl ?_
    refine lx_loado 7 _ rfl rfl Tryd.isAgg28 Tryd.sizeOf28 (by simp) ld_l rfl rfl ?_
    refine lx_fak 0 rfl Tryd.underlying30 rfl Tryd.sizeOf28 (by decide) rfl rfl rfl ?_
    refine lx_loado 5 _ rfl rfl Tryd.isAgg28 Tryd.sizeOf28 (by simp) ld_l rfl rfl ?_
    refine lx_call rfl rfl ent50 (fsquare_pure _) rfl rfl ?_
    refine lx_fak 6 rfl Tryd.underlying30 rfl Tryd.sizeOf28 (by decide) rfl rfl rfl ?_
    refine lx_loado 5 _ rfl rfl Tryd.isAgg28 Tryd.sizeOf28 (by simp) (ld_r (by simp)) rfl rfl ?_
    refine lx_call rfl rfl ent50 (fsquare_pure _) rfl rfl ?_
    refine lx_call rfl rfl ent51 (fadd_pure _ _) rfl rfl ?_
    refine lx_callB true rfl rfl ent49 (fequal_pure _ _) (decide_eq_true (nm_fst _)) rfl rfl ?_
    refine lx_pick rfl rfl rfl rfl rfl ?_
    refine lx_move rfl rfl rfl ?_
    refine lx_loada 9 rfl rfl Tryd.isAgg30 Tryd.sizeOf30 (by simp) rfl rfl ?_
    refine lx_loada 7 rfl rfl Tryd.isAgg30 Tryd.sizeOf30 (by simp) rfl rfl ?_
    refine lx_loada 8 rfl rfl Tryd.isAgg30 Tryd.sizeOf30 (by simp) rfl rfl ?_
    refine lx_call rfl rfl ent24 (e2mul _ _) rfl rfl ?_
    refine lx_callB true rfl rfl ent33 (e2equal _ _) (decide_eq_true (nm_four _ _)) rfl rfl ?_
    refine lx_pick rfl rfl rfl rfl rfl ?_
    refine lx_move rfl rfl rfl ?_
    refine lx_loada 5 rfl rfl Tryd.isAgg30 Tryd.sizeOf30 (by simp) rfl rfl ?_
    refine lx_call rfl rfl ent43 (e2isSquare _) rfl rfl ?_
    refine lx_fak 0 rfl Tryd.underlying30 rfl Tryd.sizeOf28 (by decide) rfl rfl rfl ?_
    refine lx_loado 7 _ rfl rfl Tryd.isAgg28 Tryd.sizeOf28 (by simp) ld_l rfl rfl ?_
    refine lx_call rfl rfl ent52 (flegendre_pure _) rfl rfl ?_
    refine lx_bin rfl rfl (fun _ => rfl) (fun _ => bin_geq_i _ _ _) rfl rfl ?_
    refine lx_binB true rfl rfl (fun _ => rfl) (fun w => bin_eql_bool 4 Tryd.underlying4 _ _ w) (by rw [nm_fst]; exact beq_self_eq_true _) rfl rfl ?_
    refine lx_pick rfl rfl rfl rfl rfl ?_
    refine lx_move rfl rfl rfl ?_
    refine lx_loada 5 rfl rfl Tryd.isAgg30 Tryd.sizeOf30 (by simp) rfl rfl ?_
    refine lx_call rfl rfl ent53 (fof_pure _) rfl rfl ?_
    refine lx_call rfl rfl ent31 (e2scale _ _) rfl rfl ?_
    refine lx_loada 5 rfl rfl Tryd.isAgg30 Tryd.sizeOf30 (by simp) rfl rfl ?_
    refine lx_loada 5 rfl rfl Tryd.isAgg30 Tryd.sizeOf30 (by simp) rfl rfl ?_
    refine lx_call rfl rfl ent16 (e2add _ _) rfl rfl ?_
    refine lx_loada 5 rfl rfl Tryd.isAgg30 Tryd.sizeOf30 (by simp) rfl rfl ?_
    refine lx_call rfl rfl ent16 (e2add _ _) rfl rfl ?_
    refine lx_callB true rfl rfl ent33 (e2equal _ _) (decide_eq_true (sc_3 _)) rfl rfl ?_
    refine lx_pick rfl rfl rfl rfl rfl ?_
    refine lx_assign rfl rfl rfl ?_
    refine lx_nil ?_
    refine x_ret ?_
    repeat (first | refine kseq_ret ?_ | refine kblk_ret ?_)
    exact kret_tmp rfl rfl (fun w hw => ⟨rfl, hp_below hw⟩)
theorem sb_ad (a b : W2) : ad2 (sb2 a b) b = a := w2_ext (by simp only [ad2, sb2]; grind) (by simp only [ad2, sb2]; grind)
theorem pow_p (x : W2) (b : Nat) (t : TypeId) (w : World) (hw : Gt w) (ho : OwnB w b ((BYs PL 48).map U8) t) :
    Calls Tryd.prog 39 [EV2 x, .slice (some ⟨b, 0, none⟩) 48 48].toArray w (fun r w' => r = .returned (EV2 (cj2 x)) ∧ Grow w w') := by
  have h := e2pow_calls x (some ⟨b, 0, none⟩) 48 (BYs PL 48) (by rw [BYs_len]; decide) w hw (BytesAt.range ho.range)
  rw [BYs_len, BN_BYs PL rfl 48 rfl, PL_val, pw2_PP] at h
  exact h
theorem laws5 (e0 : Option Addr) (cap0 : Nat) (bs0 : List (BitVec 8)) (hcap0 : bs0.length ≤ cap0) (e1 : Option Addr) (cap1 : Nat) (bs1 : List (BitVec 8)) (hcap1 : bs1.length ≤ cap1) (e2 : Option Addr) (cap2 : Nat) (bs2 : List (BitVec 8)) (hcap2 : bs2.length ≤ cap2) (w : World) (hw : Gt w) (hb0 : BytesAt w e0 bs0) (hb1 : BytesAt w e1 bs1) (hb2 : BytesAt w e2 bs2) :
    Calls Tryd.prog 4 [.slice e0 bs0.length cap0, .slice e1 bs1.length cap1, .slice e2 bs2.length cap2].toArray w (fun r w' => r = .returned (.bool true) ∧ Grow w w') := by
  have hGF : BOk Gt (pl w) := gt_low.plain hw
  by_cases h0 : NUM bs0 = ze2
  · skip
    refine calls_of_X (G := Gt) Tryd.func4 rfl rfl (Hp (pl w) []) (hp_refl (pl w) trivial rides_true) (good_hp hGF) ?_
    refine xs_plain (E := EE []) ?_
    refine lx_assign rfl rfl rfl ?_
    refine lx_nil ?_
    refine x_seq ?_
    refine xs_plain (E := EE []) ?_
    refine lx_callB true rfl rfl ent9 (known5) (rfl) rfl rfl ?_
    refine lx_un rfl (fun _ => un_not _) rfl rfl ?_
    refine lx_nil ?_
    refine x_false rfl ?_
    refine x_skip ?_
    refine x_seq ?_
    refine xs_plain (E := EE []) ?_
    refine lx_move rfl rfl rfl ?_
    refine lx_move rfl rfl rfl ?_
    refine lx_move rfl rfl rfl ?_
    refine lx_bslV 940 (SVl [(e0, bs0.length, cap0), (e1, bs1.length, cap1), (e2, bs2.length, cap2)]) hGF rfl rfl rfl (by decide) (by decide) Tryd.underlying65 Tryd.sizeOf22 Tryd.zeroValue22 rfl rfl rfl ?_
    intro b940
    refine lx_callC rfl rfl ent10 (fun w' hC hG => light_calls b940 3 [(e0, bs0.length, cap0), (e1, bs1.length, cap1), (e2, bs2.length, cap2)] rfl (by decide) w' hG (hp_row (n := 940) rfl w' hC)) rfl rfl ?_
    refine lx_un rfl (fun _ => un_not _) rfl rfl ?_
    refine lx_nil ?_
    refine x_if rfl (fun hc => ?_) (fun hc => ?_)
    · skip
      refine xs_plain (E := EE []) ?_
      refine lx_assign rfl rfl rfl ?_
      refine lx_nil ?_
      refine x_ret ?_
      repeat (first | refine kseq_ret ?_ | refine kblk_ret ?_)
      exact kret_tmp rfl rfl (fun w hw => ⟨rfl, hp_below hw⟩)
    · have hl : ∀ v ∈ [(e0, bs0.length, cap0), (e1, bs1.length, cap1), (e2, bs2.length, cap2)], v.2.1 ≤ 200 := by simpa using hc
      have hl0 : bs0.length ≤ 200 := hl (e0, bs0.length, cap0) (by simp)
      have hl1 : bs1.length ≤ 200 := hl (e1, bs1.length, cap1) (by simp)
      have hl2 : bs2.length ≤ 200 := hl (e2, bs2.length, cap2) (by simp)
      clear hc hl
      refine x_skip ?_
      refine xs_plain (E := EE []) ?_
      refine lx_move rfl rfl rfl ?_
      refine lx_callC rfl rfl ent11 (fun w' hC hG => num_calls e0 cap0 bs0 (by omega) hcap0 w' hG (hb0.grow (hp_below hC))) rfl rfl ?_
      refine lx_move rfl rfl rfl ?_
      refine lx_callC rfl rfl ent11 (fun w' hC hG => num_calls e1 cap1 bs1 (by omega) hcap1 w' hG (hb1.grow (hp_below hC))) rfl rfl ?_
      refine lx_move rfl rfl rfl ?_
      refine lx_callC rfl rfl ent11 (fun w' hC hG => num_calls e2 cap2 bs2 (by omega) hcap2 w' hG (hb2.grow (hp_below hC))) rfl rfl ?_
      refine lx_allocr 7 hGF zv30 rfl rfl ?_
      intro b7
      refine lx_allocr 8 hGF zv30 rfl rfl ?_
      intro b8
      refine lx_allocr 9 hGF zv30 rfl rfl ?_
      intro b9
      refine lx_storea 7 hGF rfl rfl rfl Tryd.sizeOf30 (by simp) (by simp) (one_u64 _) rfl ?_
      refine lx_storea 8 hGF rfl rfl rfl Tryd.sizeOf30 (by simp) (by simp) (one_u64 _) rfl ?_
      refine lx_storea 9 hGF rfl rfl rfl Tryd.sizeOf30 (by simp) (by simp) (one_u64 _) rfl ?_
      refine lx_nil ?_
      refine xs_plain (E := EE []) ?_
      refine lx_call rfl rfl ent37 (rp_pure) rfl rfl ?_
      refine lx_call rfl rfl ent36 (rbytesOf_pure PL rfl) rfl rfl ?_
      refine lx_allocr 10 hGF zv49 rfl rfl ?_
      intro b10
      refine lx_storea 10 hGF rfl rfl rfl Tryd.sizeOf49 (by simp) (by simp) (one_u8 _) rfl ?_
      refine lx_nil ?_
      refine xs_drawnT (E := EE []) [(29, [7], []), (30, [8], []), (31, [28, 29], [0, 1]), (32, [8], []), (33, [7], []), (34, [31, 32], [3, 4, 2]), (35, [30, 33], [2, 5, 5]), (36, [34], [6, 6]), (37, [7, 35], [7]), (38, [8, 35], [7]), (39, [36, 37, 35], [8, 9, 7, 7]), (40, [8, 35], [7]), (41, [7, 35], [7]), (42, [39, 40, 35], [11, 12, 10, 7]), (43, [38, 41, 35], [10, 13, 13, 7]), (44, [35, 42], [7, 14]), (45, [43], [15, 14]), (46, [7, 44], [16]), (47, [8, 44], [16]), (48, [9, 44], [16]), (49, [46, 47, 44], [18, 19, 16, 16]), (50, [45, 48, 44], [17, 20, 20, 16]), (51, [7, 44], [16]), (52, [8, 44], [16]), (53, [50, 51, 44], [22, 23, 21, 16]), (54, [9, 44], [16]), (55, [52, 53, 44], [24, 25, 24, 16]), (56, [49, 54, 44], [21, 26, 26, 16]), (57, [44, 55], [16, 27]), (58, [56], [28, 27]), (59, [7, 57], [29]), (60, [8, 57], [29]), (61, [9, 57], [29]), (62, [59, 60, 57], [31, 32, 29, 29]), (63, [58, 61, 57], [30, 33, 33, 29]), (64, [7, 57], [29]), (65, [8, 57], [29]), (66, [63, 64, 57], [35, 36, 34, 29]), (67, [9, 57], [29]), (68, [65, 66, 57], [37, 38, 37, 29]), (69, [62, 67, 57], [34, 39, 39, 29]), (70, [57, 68], [29, 40]), (71, [69], [41, 40]), (72, [7, 70], [42]), (73, [8, 70], [42]), (74, [9, 70], [42]), (75, [72, 73, 70], [44, 45, 42, 42]), (76, [71, 74, 70], [43, 46, 46, 42]), (77, [7, 70], [42]), (78, [8, 70], [42]), (79, [76, 77, 70], [48, 49, 47, 42]), (80, [7, 70], [42]), (81, [9, 70], [42]), (82, [79, 80, 70], [51, 52, 50, 42]), (83, [78, 81, 70], [50, 53, 53, 42]), (84, [75, 82, 70], [47, 54, 54, 42]), (85, [70, 83], [42, 55]), (86, [84], [56, 55]), (87, [7, 85], [57]), (88, [8, 85], [57]), (89, [86, 87, 85], [58, 59, 57, 57]), (90, [8, 85], [57]), (91, [88, 89, 85], [60, 61, 60, 57]), (92, [7, 85], [57]), (93, [90, 91, 85], [62, 63, 62, 57]), (94, [85, 92], [57, 64]), (95, [93], [65, 64]), (96, [7, 94], [66]), (97, [94], [66, 66]), (98, [95, 96, 94], [67, 68, 68, 66]), (99, [7, 94], [66]), (100, [97, 98, 94], [69, 70, 69, 66]), (101, [94, 99], [66, 71]), (12, [100], [72, 71, 0, 1, 2, 3, 4, 5, 6, 7, 8, 9, 10, 11, 12, 13, 14, 15, 16, 17, 18, 19, 20, 21, 22, 23, 24, 25, 26, 27, 28, 29, 30, 31, 32, 33, 34, 35, 36, 37, 38, 39, 40, 41, 42, 43, 44, 45, 46, 47, 48, 49, 50, 51, 52, 53, 54, 55, 56, 57, 58, 59, 60, 61, 62, 63, 64, 65, 66, 67, 68, 69, 70, 71, 72])] mixed (by kernel_rfl) (by kernel_rfl) (by kernel_rfl) (by kernel_rfl) (by kernel_rfl) ?_
      refine lx_loada 7 rfl rfl Tryd.isAgg30 Tryd.sizeOf30 (by simp) rfl rfl ?_
      refine lx_loada 8 rfl rfl Tryd.isAgg30 Tryd.sizeOf30 (by simp) rfl rfl ?_
      refine lx_call rfl rfl ent16 (e2add _ _) rfl rfl ?_
      refine lx_loada 8 rfl rfl Tryd.isAgg30 Tryd.sizeOf30 (by simp) rfl rfl ?_
      refine lx_loada 7 rfl rfl Tryd.isAgg30 Tryd.sizeOf30 (by simp) rfl rfl ?_
      refine lx_call rfl rfl ent16 (e2add _ _) rfl rfl ?_
      refine lx_callB true rfl rfl ent33 (e2equal _ _) (decide_eq_true (R2.add_comm _ _)) rfl rfl ?_
      refine lx_move rfl rfl rfl ?_
      refine lx_loada 7 rfl rfl Tryd.isAgg30 Tryd.sizeOf30 (by simp) rfl rfl ?_
      refine lx_loada 8 rfl rfl Tryd.isAgg30 Tryd.sizeOf30 (by simp) rfl rfl ?_
      refine lx_call rfl rfl ent24 (e2mul _ _) rfl rfl ?_
      refine lx_loada 8 rfl rfl Tryd.isAgg30 Tryd.sizeOf30 (by simp) rfl rfl ?_
      refine lx_loada 7 rfl rfl Tryd.isAgg30 Tryd.sizeOf30 (by simp) rfl rfl ?_
      refine lx_call rfl rfl ent24 (e2mul _ _) rfl rfl ?_
      refine lx_callB true rfl rfl ent33 (e2equal _ _) (decide_eq_true (R2.mul_comm _ _)) rfl rfl ?_
      refine lx_pick rfl rfl rfl rfl rfl ?_
      refine lx_move rfl rfl rfl ?_
      refine lx_loada 7 rfl rfl Tryd.isAgg30 Tryd.sizeOf30 (by simp) rfl rfl ?_
      refine lx_loada 8 rfl rfl Tryd.isAgg30 Tryd.sizeOf30 (by simp) rfl rfl ?_
      refine lx_loada 9 rfl rfl Tryd.isAgg30 Tryd.sizeOf30 (by simp) rfl rfl ?_
      refine lx_call rfl rfl ent16 (e2add _ _) rfl rfl ?_
      refine lx_call rfl rfl ent16 (e2add _ _) rfl rfl ?_
      refine lx_loada 7 rfl rfl Tryd.isAgg30 Tryd.sizeOf30 (by simp) rfl rfl ?_
      refine lx_loada 8 rfl rfl Tryd.isAgg30 Tryd.sizeOf30 (by simp) rfl rfl ?_
      refine lx_call rfl rfl ent16 (e2add _ _) rfl rfl ?_
      refine lx_loada 9 rfl rfl Tryd.isAgg30 Tryd.sizeOf30 (by simp) rfl rfl ?_
      refine lx_call rfl rfl ent16 (e2add _ _) rfl rfl ?_
      refine lx_callB true rfl rfl ent33 (e2equal _ _) (decide_eq_true ((R2.add_assoc _ _ _).symm)) rfl rfl ?_
      refine lx_pick rfl rfl rfl rfl rfl ?_
      refine lx_move rfl rfl rfl ?_
      refine lx_loada 7 rfl rfl Tryd.isAgg30 Tryd.sizeOf30 (by simp) rfl rfl ?_
      refine lx_loada 8 rfl rfl Tryd.isAgg30 Tryd.sizeOf30 (by simp) rfl rfl ?_
      refine lx_loada 9 rfl rfl Tryd.isAgg30 Tryd.sizeOf30 (by simp) rfl rfl ?_
      refine lx_call rfl rfl ent24 (e2mul _ _) rfl rfl ?_
      refine lx_call rfl rfl ent24 (e2mul _ _) rfl rfl ?_
      refine lx_loada 7 rfl rfl Tryd.isAgg30 Tryd.sizeOf30 (by simp) rfl rfl ?_
      refine lx_loada 8 rfl rfl Tryd.isAgg30 Tryd.sizeOf30 (by simp) rfl rfl ?_
      refine lx_call rfl rfl ent24 (e2mul _ _) rfl rfl ?_
      refine lx_loada 9 rfl rfl Tryd.isAgg30 Tryd.sizeOf30 (by simp) rfl rfl ?_
      refine lx_call rfl rfl ent24 (e2mul _ _) rfl rfl ?_
      refine lx_callB true rfl rfl ent33 (e2equal _ _) (decide_eq_true ((R2.mul_assoc _ _ _).symm)) rfl rfl ?_
      refine lx_pick rfl rfl rfl rfl rfl ?_
      refine lx_move rfl rfl rfl ?_
      refine lx_loada 7 rfl rfl Tryd.isAgg30 Tryd.sizeOf30 (by simp) rfl rfl ?_
      refine lx_loada 8 rfl rfl Tryd.isAgg30 Tryd.sizeOf30 (by simp) rfl rfl ?_
      refine lx_loada 9 rfl rfl Tryd.isAgg30 Tryd.sizeOf30 (by simp) rfl rfl ?_
      refine lx_call rfl rfl ent16 (e2add _ _) rfl rfl ?_
      refine lx_call rfl rfl ent24 (e2mul _ _) rfl rfl ?_
      refine lx_loada 7 rfl rfl Tryd.isAgg30 Tryd.sizeOf30 (by simp) rfl rfl ?_
      refine lx_loada 8 rfl rfl Tryd.isAgg30 Tryd.sizeOf30 (by simp) rfl rfl ?_
      refine lx_call rfl rfl ent24 (e2mul _ _) rfl rfl ?_
      refine lx_loada 7 rfl rfl Tryd.isAgg30 Tryd.sizeOf30 (by simp) rfl rfl ?_
      refine lx_loada 9 rfl rfl Tryd.isAgg30 Tryd.sizeOf30 (by simp) rfl rfl ?_
      refine lx_call rfl rfl ent24 (e2mul _ _) rfl rfl ?_
      refine lx_call rfl rfl ent16 (e2add _ _) rfl rfl ?_
      refine lx_callB true rfl rfl ent33 (e2equal _ _) (decide_eq_true (R2.mul_add _ _ _)) rfl rfl ?_
      refine lx_pick rfl rfl rfl rfl rfl ?_
      refine lx_move rfl rfl rfl ?_
      refine lx_loada 7 rfl rfl Tryd.isAgg30 Tryd.sizeOf30 (by simp) rfl rfl ?_
      refine lx_loada 8 rfl rfl Tryd.isAgg30 Tryd.sizeOf30 (by simp) rfl rfl ?_
      refine lx_call rfl rfl ent18 (e2sub _ _) rfl rfl ?_
      refine lx_loada 8 rfl rfl Tryd.isAgg30 Tryd.sizeOf30 (by simp) rfl rfl ?_
      refine lx_call rfl rfl ent16 (e2add _ _) rfl rfl ?_
      refine lx_loada 7 rfl rfl Tryd.isAgg30 Tryd.sizeOf30 (by simp) rfl rfl ?_
      refine lx_callB true rfl rfl ent33 (e2equal _ _) (decide_eq_true (sb_ad _ _)) rfl rfl ?_
      refine lx_pick rfl rfl rfl rfl rfl ?_
      refine lx_move rfl rfl rfl ?_
      refine lx_loada 7 rfl rfl Tryd.isAgg30 Tryd.sizeOf30 (by simp) rfl rfl ?_
      refine lx_call rfl rfl ent38 (e2one) rfl rfl ?_
      refine lx_call rfl rfl ent24 (e2mul _ _) rfl rfl ?_
      refine lx_loada 7 rfl rfl Tryd.isAgg30 Tryd.sizeOf30 (by simp) rfl rfl ?_
      refine lx_callB true rfl rfl ent33 (e2equal _ _) (decide_eq_true (R2.mul_one _)) rfl rfl ?_
      refine lx_pick rfl rfl rfl rfl rfl ?_
      refine lx_assign rfl rfl rfl ?_
      refine lx_nil ?_
      refine xs_drawnT (E := EE []) [(102, [11], []), (103, [101], [0]), (104, [7, 102], [1]), (105, [103, 102], [2, 1, 1]), (106, [104, 102], [3, 3, 1]), (107, [7, 105], [4]), (108, [7, 105], [4]), (109, [107, 105], [6, 4, 4]), (110, [106, 108, 105], [5, 7, 7, 4]), (111, [105], [8, 4]), (112, [109, 110, 105], [8, 9, 9, 4]), (113, [105, 111, 102], [4, 10, 1]), (114, [102, 112], [1, 11]), (115, [113], [12, 10]), (116, [7, 114], [13]), (117, [10, 114], [13]), (118, [115, 116, 114], [14, 15, 13, 13]), (119, [7, 114], [13]), (120, [118, 114], [17, 16, 13]), (121, [117, 119, 114], [16, 18, 18, 13]), (122, [114, 120], [13, 19]), (123, [121], [20, 19]), (124, [7, 122], [21]), (125, [8, 122], [21]), (126, [123, 124, 122], [22, 23, 21, 21]), (127, [125, 122], [24, 24, 21]), (128, [7, 122], [21]), (129, [127, 122], [26, 25, 21]), (130, [8, 122], [21]), (131, [129, 122], [28, 27, 21]), (132, [128, 130, 122], [27, 29, 29, 21]), (133, [126, 131, 122], [25, 30, 30, 21]), (134, [122, 132], [21, 31]), (7, [133], [32, 31, 0, 1, 2, 3, 4, 5, 6, 7, 8, 9, 10, 11, 12, 13, 14, 15, 16, 17, 18, 19, 20, 21, 22, 23, 24, 25, 26, 27, 28, 29, 30, 31, 32])] mixed (by kernel_rfl) (by kernel_rfl) (by kernel_rfl) (by kernel_rfl) (by kernel_rfl) ?_
      refine lx_move rfl rfl rfl ?_
      refine lx_move rfl rfl rfl ?_
      refine lx_loada 7 rfl rfl Tryd.isAgg30 Tryd.sizeOf30 (by simp) rfl rfl ?_
      refine lx_callB true rfl rfl ent34 (e2isZero _) (decide_eq_true (h0)) rfl rfl ?_
      refine lx_move rfl rfl rfl ?_
      refine lx_skip rfl rfl rfl ?_
      refine lx_skip rfl rfl rfl ?_
      refine lx_skip rfl rfl rfl ?_
      refine lx_skip rfl rfl rfl ?_
      refine lx_skip rfl rfl rfl ?_
      refine lx_skip rfl rfl rfl ?_
      refine lx_pick rfl rfl rfl rfl rfl ?_
      refine lx_pick rfl rfl rfl rfl rfl ?_
      refine lx_move rfl rfl rfl ?_
      refine lx_loada 7 rfl rfl Tryd.isAgg30 Tryd.sizeOf30 (by simp) rfl rfl ?_
      refine lx_slarr1 (l := 0) (h' := 48) rfl Tryd.underlying49 Tryd.sizeOf5 rfl rfl (by omega) (by omega) rfl rfl ?_
      refine lx_callC rfl rfl ent39 (fun w' hC hG => pow_p _ _ _ w' hG (hC.own 10 _ _ _ rfl).1) rfl rfl ?_
      refine lx_loada 7 rfl rfl Tryd.isAgg30 Tryd.sizeOf30 (by simp) rfl rfl ?_
      refine lx_call rfl rfl ent22 (e2conj _) rfl rfl ?_
      refine lx_callB true rfl rfl ent33 (e2equal _ _) (decide_eq_true (rfl)) rfl rfl ?_
      refine lx_pick rfl rfl rfl rfl rfl ?_
      refine lx_move rfl rfl rfl ?_
      refine lx_loada 7 rfl rfl Tryd.isAgg30 Tryd.sizeOf30 (by simp) rfl rfl ?_
      refine lx_loada 8 rfl rfl Tryd.isAgg30 Tryd.sizeOf30 (by simp) rfl rfl ?_
      refine lx_call rfl rfl ent24 (e2mul _ _) rfl rfl ?_
      refine lx_call rfl rfl ent22 (e2conj _) rfl rfl ?_
      refine lx_loada 7 rfl rfl Tryd.isAgg30 Tryd.sizeOf30 (by simp) rfl rfl ?_
      refine lx_call rfl rfl ent22 (e2conj _) rfl rfl ?_
      refine lx_loada 8 rfl rfl Tryd.isAgg30 Tryd.sizeOf30 (by simp) rfl rfl ?_
      refine lx_call rfl rfl ent22 (e2conj _) rfl rfl ?_
      refine lx_call rfl rfl ent24 (e2mul _ _) rfl rfl ?_
      refine lx_callB true rfl rfl ent33 (e2equal _ _) (decide_eq_true (cj2_mul _ _)) rfl rfl ?_
      refine lx_pick rfl rfl rfl rfl rfl ?_
      refine lx_assign rfl rfl rfl ?_
      refine lx_nil ?_
      refine x_ret ?_
      repeat (first | refine kseq_ret ?_ | refine kblk_ret ?_)
      exact kret_tmp rfl rfl (fun w hw => ⟨rfl, hp_below hw⟩)
  · skip
    refine calls_of_X (G := Gt) Tryd.func4 rfl rfl (Hp (pl w) []) (hp_refl (pl w) trivial rides_true) (good_hp hGF) ?_
    refine xs_plain (E := EE []) ?_
    refine lx_assign rfl rfl rfl ?_
    refine lx_nil ?_
    refine x_seq ?_
    refine xs_plain (E := EE []) ?_
    refine lx_callB true rfl rfl ent9 (known5) (rfl) rfl rfl ?_
    refine lx_un rfl (fun _ => un_not _) rfl rfl ?_
    refine lx_nil ?_
    refine x_false rfl ?_
    refine x_skip ?_
    refine x_seq ?_
    refine xs_plain (E := EE []) ?_
    refine lx_move rfl rfl rfl ?_
    refine lx_move rfl rfl rfl ?_
    refine lx_move rfl rfl rfl ?_
    refine lx_bslV 940 (SVl [(e0, bs0.length, cap0), (e1, bs1.length, cap1), (e2, bs2.length, cap2)]) hGF rfl rfl rfl (by decide) (by decide) Tryd.underlying65 Tryd.sizeOf22 Tryd.zeroValue22 rfl rfl rfl ?_
    intro b940
    refine lx_callC rfl rfl ent10 (fun w' hC hG => light_calls b940 3 [(e0, bs0.length, cap0), (e1, bs1.length, cap1), (e2, bs2.length, cap2)] rfl (by decide) w' hG (hp_row (n := 940) rfl w' hC)) rfl rfl ?_
    refine lx_un rfl (fun _ => un_not _) rfl rfl ?_
    refine lx_nil ?_
    refine x_if rfl (fun hc => ?_) (fun hc => ?_)
    · skip
      refine xs_plain (E := EE []) ?_
      refine lx_assign rfl rfl rfl ?_
      refine lx_nil ?_
      refine x_ret ?_
      repeat (first | refine kseq_ret ?_ | refine kblk_ret ?_)
      exact kret_tmp rfl rfl (fun w hw => ⟨rfl, hp_below hw⟩)
    · have hl : ∀ v ∈ [(e0, bs0.length, cap0), (e1, bs1.length, cap1), (e2, bs2.length, cap2)], v.2.1 ≤ 200 := by simpa using hc
      have hl0 : bs0.length ≤ 200 := hl (e0, bs0.length, cap0) (by simp)
      have hl1 : bs1.length ≤ 200 := hl (e1, bs1.length, cap1) (by simp)
      have hl2 : bs2.length ≤ 200 := hl (e2, bs2.length, cap2) (by simp)
      clear hc hl
      refine x_skip ?_
      refine xs_plain (E := EE []) ?_
      refine lx_move rfl rfl rfl ?_
      refine lx_callC rfl rfl ent11 (fun w' hC hG => num_calls e0 cap0 bs0 (by omega) hcap0 w' hG (hb0.grow (hp_below hC))) rfl rfl ?_
      refine lx_move rfl rfl rfl ?_
      refine lx_callC rfl rfl ent11 (fun w' hC hG => num_calls e1 cap1 bs1 (by omega) hcap1 w' hG (hb1.grow (hp_below hC))) rfl rfl ?_
      refine lx_move rfl rfl rfl ?_
      refine lx_callC rfl rfl ent11 (fun w' hC hG => num_calls e2 cap2 bs2 (by omega) hcap2 w' hG (hb2.grow (hp_below hC))) rfl rfl ?_
      refine lx_allocr 7 hGF zv30 rfl rfl ?_
      intro b7
      refine lx_allocr 8 hGF zv30 rfl rfl ?_
      intro b8
      refine lx_allocr 9 hGF zv30 rfl rfl ?_
      intro b9
      refine lx_storea 7 hGF rfl rfl rfl Tryd.sizeOf30 (by simp) (by simp) (one_u64 _) rfl ?_
      refine lx_storea 8 hGF rfl rfl rfl Tryd.sizeOf30 (by simp) (by simp) (one_u64 _) rfl ?_
      refine lx_storea 9 hGF rfl rfl rfl Tryd.sizeOf30 (by simp) (by simp) (one_u64 _) rfl ?_
      refine lx_nil ?_
      refine xs_plain (E := EE []) ?_
      refine lx_call rfl rfl ent37 (rp_pure) rfl rfl ?_
      refine lx_call rfl rfl ent36 (rbytesOf_pure PL rfl) rfl rfl ?_
      refine lx_allocr 10 hGF zv49 rfl rfl ?_
      intro b10
      refine lx_storea 10 hGF rfl rfl rfl Tryd.sizeOf49 (by simp) (by simp) (one_u8 _) rfl ?_
      refine lx_nil ?_
      refine xs_drawnT (E := EE []) [(29, [7], []), (30, [8], []), (31, [28, 29], [0, 1]), (32, [8], []), (33, [7], []), (34, [31, 32], [3, 4, 2]), (35, [30, 33], [2, 5, 5]), (36, [34], [6, 6]), (37, [7, 35], [7]), (38, [8, 35], [7]), (39, [36, 37, 35], [8, 9, 7, 7]), (40, [8, 35], [7]), (41, [7, 35], [7]), (42, [39, 40, 35], [11, 12, 10, 7]), (43, [38, 41, 35], [10, 13, 13, 7]), (44, [35, 42], [7, 14]), (45, [43], [15, 14]), (46, [7, 44], [16]), (47, [8, 44], [16]), (48, [9, 44], [16]), (49, [46, 47, 44], [18, 19, 16, 16]), (50, [45, 48, 44], [17, 20, 20, 16]), (51, [7, 44], [16]), (52, [8, 44], [16]), (53, [50, 51, 44], [22, 23, 21, 16]), (54, [9, 44], [16]), (55, [52, 53, 44], [24, 25, 24, 16]), (56, [49, 54, 44], [21, 26, 26, 16]), (57, [44, 55], [16, 27]), (58, [56], [28, 27]), (59, [7, 57], [29]), (60, [8, 57], [29]), (61, [9, 57], [29]), (62, [59, 60, 57], [31, 32, 29, 29]), (63, [58, 61, 57], [30, 33, 33, 29]), (64, [7, 57], [29]), (65, [8, 57], [29]), (66, [63, 64, 57], [35, 36, 34, 29]), (67, [9, 57], [29]), (68, [65, 66, 57], [37, 38, 37, 29]), (69, [62, 67, 57], [34, 39, 39, 29]), (70, [57, 68], [29, 40]), (71, [69], [41, 40]), (72, [7, 70], [42]), (73, [8, 70], [42]), (74, [9, 70], [42]), (75, [72, 73, 70], [44, 45, 42, 42]), (76, [71, 74, 70], [43, 46, 46, 42]), (77, [7, 70], [42]), (78, [8, 70], [42]), (79, [76, 77, 70], [48, 49, 47, 42]), (80, [7, 70], [42]), (81, [9, 70], [42]), (82, [79, 80, 70], [51, 52, 50, 42]), (83, [78, 81, 70], [50, 53, 53, 42]), (84, [75, 82, 70], [47, 54, 54, 42]), (85, [70, 83], [42, 55]), (86, [84], [56, 55]), (87, [7, 85], [57]), (88, [8, 85], [57]), (89, [86, 87, 85], [58, 59, 57, 57]), (90, [8, 85], [57]), (91, [88, 89, 85], [60, 61, 60, 57]), (92, [7, 85], [57]), (93, [90, 91, 85], [62, 63, 62, 57]), (94, [85, 92], [57, 64]), (95, [93], [65, 64]), (96, [7, 94], [66]), (97, [94], [66, 66]), (98, [95, 96, 94], [67, 68, 68, 66]), (99, [7, 94], [66]), (100, [97, 98, 94], [69, 70, 69, 66]), (101, [94, 99], [66, 71]), (12, [100], [72, 71, 0, 1, 2, 3, 4, 5, 6, 7, 8, 9, 10, 11, 12, 13, 14, 15, 16, 17, 18, 19, 20, 21, 22, 23, 24, 25, 26, 27, 28, 29, 30, 31, 32, 33, 34, 35, 36, 37, 38, 39, 40, 41, 42, 43, 44, 45, 46, 47, 48, 49, 50, 51, 52, 53, 54, 55, 56, 57, 58, 59, 60, 61, 62, 63, 64, 65, 66, 67, 68, 69, 70, 71, 72])] mixed (by kernel_rfl) (by kernel_rfl) (by kernel_rfl) (by kernel_rfl) (by kernel_rfl) ?_
      refine lx_loada 7 rfl rfl Tryd.isAgg30 Tryd.sizeOf30 (by simp) rfl rfl ?_
      refine lx_loada 8 rfl rfl Tryd.isAgg30 Tryd.sizeOf30 (by simp) rfl rfl ?_
      refine lx_call rfl rfl ent16 (e2add _ _) rfl rfl ?_
      refine lx_loada 8 rfl rfl Tryd.isAgg30 Tryd.sizeOf30 (by simp) rfl rfl ?_
      refine lx_loada 7 rfl rfl Tryd.isAgg30 Tryd.sizeOf30 (by simp) rfl rfl ?_
      refine lx_call rfl rfl ent16 (e2add _ _) rfl rfl ?_
      refine lx_callB true rfl rfl ent33 (e2equal _ _) (decide_eq_true (R2.add_comm _ _)) rfl rfl ?_
      refine lx_move rfl rfl rfl ?_
      refine lx_loada 7 rfl rfl Tryd.isAgg30 Tryd.sizeOf30 (by simp) rfl rfl ?_
      refine lx_loada 8 rfl rfl Tryd.isAgg30 Tryd.sizeOf30 (by simp) rfl rfl ?_
      refine lx_call rfl rfl ent24 (e2mul _ _) rfl rfl ?_
      refine lx_loada 8 rfl rfl Tryd.isAgg30 Tryd.sizeOf30 (by simp) rfl rfl ?_
      refine lx_loada 7 rfl rfl Tryd.isAgg30 Tryd.sizeOf30 (by simp) rfl rfl ?_
      refine lx_call rfl rfl ent24 (e2mul _ _) rfl rfl ?_
      refine lx_callB true rfl rfl ent33 (e2equal _ _) (decide_eq_true (R2.mul_comm _ _)) rfl rfl ?_
      refine lx_pick rfl rfl rfl rfl rfl ?_
      refine lx_move rfl rfl rfl ?_
      refine lx_loada 7 rfl rfl Tryd.isAgg30 Tryd.sizeOf30 (by simp) rfl rfl ?_
      refine lx_loada 8 rfl rfl Tryd.isAgg30 Tryd.sizeOf30 (by simp) rfl rfl ?_
      refine lx_loada 9 rfl rfl Tryd.isAgg30 Tryd.sizeOf30 (by simp) rfl rfl ?_
      refine lx_call rfl rfl ent16 (e2add _ _) rfl rfl ?_
      refine lx_call rfl rfl ent16 (e2add _ _) rfl rfl ?_
      refine lx_loada 7 rfl rfl Tryd.isAgg30 Tryd.sizeOf30 (by simp) rfl rfl ?_
      refine lx_loada 8 rfl rfl Tryd.isAgg30 Tryd.sizeOf30 (by simp) rfl rfl ?_
      refine lx_call rfl rfl ent16 (e2add _ _) rfl rfl ?_
      refine lx_loada 9 rfl rfl Tryd.isAgg30 Tryd.sizeOf30 (by simp) rfl rfl ?_
      refine lx_call rfl rfl ent16 (e2add _ _) rfl rfl ?_
      refine lx_callB true rfl rfl ent33 (e2equal _ _) (decide_eq_true ((R2.add_assoc _ _ _).symm)) rfl rfl ?_
      refine lx_pick rfl rfl rfl rfl rfl ?_
      refine lx_move rfl rfl rfl ?_
      refine lx_loada 7 rfl rfl Tryd.isAgg30 Tryd.sizeOf30 (by simp) rfl rfl ?_
      refine lx_loada 8 rfl rfl Tryd.isAgg30 Tryd.sizeOf30 (by simp) rfl rfl ?_
      refine lx_loada 9 rfl rfl Tryd.isAgg30 Tryd.sizeOf30 (by simp) rfl rfl ?_
      refine lx_call rfl rfl ent24 (e2mul _ _) rfl rfl ?_
      refine lx_call rfl rfl ent24 (e2mul _ _) rfl rfl ?_
      refine lx_loada 7 rfl rfl Tryd.isAgg30 Tryd.sizeOf30 (by simp) rfl rfl ?_
      refine lx_loada 8 rfl rfl Tryd.isAgg30 Tryd.sizeOf30 (by simp) rfl rfl ?_
      refine lx_call rfl rfl ent24 (e2mul _ _) rfl rfl ?_
      refine lx_loada 9 rfl rfl Tryd.isAgg30 Tryd.sizeOf30 (by simp) rfl rfl ?_
      refine lx_call rfl rfl ent24 (e2mul _ _) rfl rfl ?_
      refine lx_callB true rfl rfl ent33 (e2equal _ _) (decide_eq_true ((R2.mul_assoc _ _ _).symm)) rfl rfl ?_
      refine lx_pick rfl rfl rfl rfl rfl ?_
      refine lx_move rfl rfl rfl ?_
      refine lx_loada 7 rfl rfl Tryd.isAgg30 Tryd.sizeOf30 (by simp) rfl rfl ?_
      refine lx_loada 8 rfl rfl Tryd.isAgg30 Tryd.sizeOf30 (by simp) rfl rfl ?_
      refine lx_loada 9 rfl rfl Tryd.isAgg30 Tryd.sizeOf30 (by simp) rfl rfl ?_
      refine lx_call rfl rfl ent16 (e2add _ _) rfl rfl ?_
      refine lx_call rfl rfl ent24 (e2mul _ _) rfl rfl ?_
      refine lx_loada 7 rfl rfl Tryd.isAgg30 Tryd.sizeOf30 (by simp) rfl rfl ?_
      refine lx_loada 8 rfl rfl Tryd.isAgg30 Tryd.sizeOf30 (by simp) rfl rfl ?_
      refine lx_call rfl rfl ent24 (e2mul _ _) rfl rfl ?_
      refine lx_loada 7 rfl rfl Tryd.isAgg30 Tryd.sizeOf30 (by simp) rfl rfl ?_
      refine lx_loada 9 rfl rfl Tryd.isAgg30 Tryd.sizeOf30 (by simp) rfl rfl ?_
      refine lx_call rfl rfl ent24 (e2mul _ _) rfl rfl ?_
      refine lx_call rfl rfl ent16 (e2add _ _) rfl rfl ?_
      refine lx_callB true rfl rfl ent33 (e2equal _ _) (decide_eq_true (R2.mul_add _ _ _)) rfl rfl ?_
      refine lx_pick rfl rfl rfl rfl rfl ?_
      refine lx_move rfl rfl rfl ?_
      refine lx_loada 7 rfl rfl Tryd.isAgg30 Tryd.sizeOf30 (by simp) rfl rfl ?_
      refine lx_loada 8 rfl rfl Tryd.isAgg30 Tryd.sizeOf30 (by simp) rfl rfl ?_
      refine lx_call rfl rfl ent18 (e2sub _ _) rfl rfl ?_
      refine lx_loada 8 rfl rfl Tryd.isAgg30 Tryd.sizeOf30 (by simp) rfl rfl ?_
      refine lx_call rfl rfl ent16 (e2add _ _) rfl rfl ?_
      refine lx_loada 7 rfl rfl Tryd.isAgg30 Tryd.sizeOf30 (by simp) rfl rfl ?_
      refine lx_callB true rfl rfl ent33 (e2equal _ _) (decide_eq_true (sb_ad _ _)) rfl rfl ?_
      refine lx_pick rfl rfl rfl rfl rfl ?_
      refine lx_move rfl rfl rfl ?_
      refine lx_loada 7 rfl rfl Tryd.isAgg30 Tryd.sizeOf30 (by simp) rfl rfl ?_
      refine lx_call rfl rfl ent38 (e2one) rfl rfl ?_
      refine lx_call rfl rfl ent24 (e2mul _ _) rfl rfl ?_
      refine lx_loada 7 rfl rfl Tryd.isAgg30 Tryd.sizeOf30 (by simp) rfl rfl ?_
      refine lx_callB true rfl rfl ent33 (e2equal _ _) (decide_eq_true (R2.mul_one _)) rfl rfl ?_
      refine lx_pick rfl rfl rfl rfl rfl ?_
      refine lx_assign rfl rfl rfl ?_
      refine lx_nil ?_
      refine xs_drawnT (E := EE []) [(102, [11], []), (103, [101], [0]), (104, [7, 102], [1]), (105, [103, 102], [2, 1, 1]), (106, [104, 102], [3, 3, 1]), (107, [7, 105], [4]), (108, [7, 105], [4]), (109, [107, 105], [6, 4, 4]), (110, [106, 108, 105], [5, 7, 7, 4]), (111, [105], [8, 4]), (112, [109, 110, 105], [8, 9, 9, 4]), (113, [105, 111, 102], [4, 10, 1]), (114, [102, 112], [1, 11]), (115, [113], [12, 10]), (116, [7, 114], [13]), (117, [10, 114], [13]), (118, [115, 116, 114], [14, 15, 13, 13]), (119, [7, 114], [13]), (120, [118, 114], [17, 16, 13]), (121, [117, 119, 114], [16, 18, 18, 13]), (122, [114, 120], [13, 19]), (123, [121], [20, 19]), (124, [7, 122], [21]), (125, [8, 122], [21]), (126, [123, 124, 122], [22, 23, 21, 21]), (127, [125, 122], [24, 24, 21]), (128, [7, 122], [21]), (129, [127, 122], [26, 25, 21]), (130, [8, 122], [21]), (131, [129, 122], [28, 27, 21]), (132, [128, 130, 122], [27, 29, 29, 21]), (133, [126, 131, 122], [25, 30, 30, 21]), (134, [122, 132], [21, 31]), (7, [133], [32, 31, 0, 1, 2, 3, 4, 5, 6, 7, 8, 9, 10, 11, 12, 13, 14, 15, 16, 17, 18, 19, 20, 21, 22, 23, 24, 25, 26, 27, 28, 29, 30, 31, 32])] mixed (by kernel_rfl) (by kernel_rfl) (by kernel_rfl) (by kernel_rfl) (by kernel_rfl) ?_
      refine lx_move rfl rfl rfl ?_
      refine lx_move rfl rfl rfl ?_
      refine lx_loada 7 rfl rfl Tryd.isAgg30 Tryd.sizeOf30 (by simp) rfl rfl ?_
      refine lx_callB false rfl rfl ent34 (e2isZero _) (decide_eq_false (h0)) rfl rfl ?_
      refine lx_move rfl rfl rfl ?_
      refine lx_loada 7 rfl rfl Tryd.isAgg30 Tryd.sizeOf30 (by simp) rfl rfl ?_
      refine lx_loada 7 rfl rfl Tryd.isAgg30 Tryd.sizeOf30 (by simp) rfl rfl ?_
      refine lx_call rfl rfl ent27 (e2inv _) rfl rfl ?_
      refine lx_call rfl rfl ent24 (e2mul _ _) rfl rfl ?_
      refine lx_call rfl rfl ent38 (e2one) rfl rfl ?_
      refine lx_callB true rfl rfl ent33 (e2equal _ _) (decide_eq_true (iv2_mul h0)) rfl rfl ?_
      refine lx_pick rfl rfl rfl rfl rfl ?_
      refine lx_pick rfl rfl rfl rfl rfl ?_
      refine lx_move rfl rfl rfl ?_
      refine lx_loada 7 rfl rfl Tryd.isAgg30 Tryd.sizeOf30 (by simp) rfl rfl ?_
      refine lx_slarr1 (l := 0) (h' := 48) rfl Tryd.underlying49 Tryd.sizeOf5 rfl rfl (by omega) (by omega) rfl rfl ?_
      refine lx_callC rfl rfl ent39 (fun w' hC hG => pow_p _ _ _ w' hG (hC.own 10 _ _ _ rfl).1) rfl rfl ?_
      refine lx_loada 7 rfl rfl Tryd.isAgg30 Tryd.sizeOf30 (by simp) rfl rfl ?_
      refine lx_call rfl rfl ent22 (e2conj _) rfl rfl ?_
      refine lx_callB true rfl rfl ent33 (e2equal _ _) (decide_eq_true (rfl)) rfl rfl ?_
      refine lx_pick rfl rfl rfl rfl rfl ?_
      refine lx_move rfl rfl rfl ?_
      refine lx_loada 7 rfl rfl Tryd.isAgg30 Tryd.sizeOf30 (by simp) rfl rfl ?_
      refine lx_loada 8 rfl rfl Tryd.isAgg30 Tryd.sizeOf30 (by simp) rfl rfl ?_
      refine lx_call rfl rfl ent24 (e2mul _ _) rfl rfl ?_
      refine lx_call rfl rfl ent22 (e2conj _) rfl rfl ?_
      refine lx_loada 7 rfl rfl Tryd.isAgg30 Tryd.sizeOf30 (by simp) rfl rfl ?_
      refine lx_call rfl rfl ent22 (e2conj _) rfl rfl ?_
      refine lx_loada 8 rfl rfl Tryd.isAgg30 Tryd.sizeOf30 (by simp) rfl rfl ?_
      refine lx_call rfl rfl ent22 (e2conj _) rfl rfl ?_
      refine lx_call rfl rfl ent24 (e2mul _ _) rfl rfl ?_
      refine lx_callB true rfl rfl ent33 (e2equal _ _) (decide_eq_true (cj2_mul _ _)) rfl rfl ?_
      refine lx_pick rfl rfl rfl rfl rfl ?_
      refine lx_assign rfl rfl rfl ?_
      refine lx_nil ?_
      refine x_ret ?_
      repeat (first | refine kseq_ret ?_ | refine kblk_ret ?_)
      exact kret_tmp rfl rfl (fun w hw => ⟨rfl, hp_below hw⟩)
end Go.Proofs.YtceogjapiphokaaDoor
