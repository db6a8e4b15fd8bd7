/-
  What is known of layer 10.
-/
import Derived.Test.YtamddkjccmhgaaaGreatDoorXG
namespace Go.Proofs.YtamddkjccmhgaaaGreatDoor
open Go.RowKit
set_option maxRecDepth 100000
set_option maxHeartbeats 1000000
attribute [local simp] fe_len nm_len AS_len SS_len MONT_len RM_len FRs_len BYs_len by48_len PLl TWOl ONEl N1l IVPl HFPl RTPl FL_len SP_len fe2_len SP2_len FM_len J1.GL_len J2.GL_len MK_len OR0_len

theorem EN1_len (P : Pt Zp) : (EN1 P).length = 48 := by
  cases P with
  | none => rfl
  | some p => exact (ENF_len _ _).trans (by48_len _)
theorem EN2_len (P : Pt W2) : (EN2 P).length = 96 := by
  cases P with
  | none => rfl
  | some p => exact (ENF_len _ _).trans (by rw [List.length_append, by48_len, by48_len])
attribute [local simp] EN1_len EN2_len
theorem e97 : (EN1 (some G1p)).getD 0 0 = 151#8 := by decide +kernel
theorem e93 : (EN2 (some G2p)).getD 0 0 = 147#8 := by decide +kernel
theorem eC0 : (EN1 none).getD 0 0 = 192#8 := by decide +kernel
theorem D1_g : D1 (EN1 (some G1p)) 0 (some G1p) := D1_in G1_on' g1_order
theorem D2_g : D2 (EN2 (some G2p)) 0 (some G2p) := D2_in G2_on' g2_order
theorem D2_48 (P : Pt Zp) : D2 (EN1 P) 100 none := .inl ⟨by rw [EN1_len]; decide, rfl, rfl⟩
theorem known10 : Pure Tryz.prog Gt 8 [] (.bool true) := by
  intro w hw
  have hGF : BOk Gt (pl w) := gt_low.plain hw
  refine calls_of_X (G := Gt) Tryz.func8 rfl rfl (Hp (pl w) []) (hp_refl (pl w) trivial rides_true) (good_hp hGF) ?_
  refine xs_plain (E := EE []) ?_
  refine lx_assign rfl rfl rfl ?_
  refine lx_nil ?_
  refine xs_plain (E := EE []) ?_
  refine lx_call rfl rfl ent19 (J1.gen_p) rfl rfl ?_
  refine lx_call rfl rfl ent15 (enc1_p J1.gGen) rfl rfl ?_
  refine lx_call rfl rfl ent21 (J2.gen_p) rfl rfl ?_
  refine lx_call rfl rfl ent18 (enc2_p J2.gGen) rfl rfl ?_
  refine lx_allocr 1 hGF zv46 rfl rfl ?_
  intro b1
  refine lx_allocr 2 hGF zv56 rfl rfl ?_
  intro b2
  refine lx_storea 1 hGF rfl rfl rfl Tryz.sizeOf46 (by simp) (by simp) (one_u8 _) rfl ?_
  refine lx_storea 2 hGF rfl rfl rfl Tryz.sizeOf56 (by simp) (by simp) (one_u8 _) rfl ?_
  refine lx_nil ?_
  refine xs_plain (E := EE []) ?_
  refine lx_slarr1 (l := 0) (h' := 48) rfl Tryz.underlying46 Tryz.sizeOf5 rfl rfl (by decide) (by decide) rfl rfl ?_
  refine lx_callC rfl rfl ent10 (fun w' hC hG => dec1_p _ 48 48 (EN1 (some G1p)) (EN1_len _) 0 (some G1p) D1_g (by decide) w' hG (BytesAt.range (hp_row (n := 1) rfl w' hC))) rfl rfl ?_
  refine lx_move rfl rfl rfl ?_
  refine lx_ext rfl rfl rfl rfl ?_
  refine lx_ext rfl rfl rfl rfl ?_
  refine lx_allocr 3 hGF J1.zv30 rfl rfl ?_
  intro b3
  refine lx_storea 3 hGF rfl rfl rfl Tryz.sizeOf30 (by simp) (by simp) (one_u64 _) rfl ?_
  refine lx_assign rfl rfl rfl ?_
  refine lx_nil ?_
  refine xs_plain (E := EE []) ?_
  refine lx_slarr1 (l := 0) (h' := 96) rfl Tryz.underlying56 Tryz.sizeOf5 rfl rfl (by decide) (by decide) rfl rfl ?_
  refine lx_callC rfl rfl ent16 (fun w' hC hG => dec2_p _ 96 96 (EN2 (some G2p)) (EN2_len _) 0 (some G2p) D2_g (by decide) w' hG (BytesAt.range (hp_row (n := 2) rfl w' hC))) rfl rfl ?_
  refine lx_move rfl rfl rfl ?_
  refine lx_ext rfl rfl rfl rfl ?_
  refine lx_ext rfl rfl rfl rfl ?_
  refine lx_allocr 5 hGF J2.zv52 rfl rfl ?_
  intro b5
  refine lx_storea 5 hGF rfl rfl rfl Tryz.sizeOf52 (by simp) (by simp) (one_u64 _) rfl ?_
  refine lx_assign rfl rfl rfl ?_
  refine lx_nil ?_
  refine xs_plain (E := EE []) ?_
  refine lx_call rfl rfl ent34 (J1.inf_p) rfl rfl ?_
  refine lx_call rfl rfl ent15 (enc1_p J1.gInf) rfl rfl ?_
  refine lx_allocr 7 hGF zv46 rfl rfl ?_
  intro b7
  refine lx_storea 7 hGF rfl rfl rfl Tryz.sizeOf46 (by simp) (by simp) (one_u8 _) rfl ?_
  refine lx_nil ?_
  refine xs_plain (E := EE []) ?_
  refine lx_slarr1 (l := 0) (h' := 48) rfl Tryz.underlying46 Tryz.sizeOf5 rfl rfl (by decide) (by decide) rfl rfl ?_
  refine lx_callC rfl rfl ent10 (fun w' hC hG => dec1_p _ 48 48 (EN1 none) (EN1_len _) 0 none D1_none (by decide) w' hG (BytesAt.range (hp_row (n := 7) rfl w' hC))) rfl rfl ?_
  refine lx_move rfl rfl rfl ?_
  refine lx_ext rfl rfl rfl rfl ?_
  refine lx_ext rfl rfl rfl rfl ?_
  refine lx_allocr 8 hGF J1.zv30 rfl rfl ?_
  intro b8
  refine lx_storea 8 hGF rfl rfl rfl Tryz.sizeOf30 (by simp) (by simp) (one_u64 _) rfl ?_
  refine lx_assign rfl rfl rfl ?_
  refine lx_nil ?_
  refine xs_plain (E := EE []) ?_
  refine lx_slarr1 (l := 0) (h' := 48) rfl Tryz.underlying46 Tryz.sizeOf5 rfl rfl (by decide) (by decide) rfl rfl ?_
  refine lx_callC rfl rfl ent16 (fun w' hC hG => dec2_p _ 48 48 (EN1 (some G1p)) (EN1_len _) 100 none (D2_48 _) (by decide) w' hG (BytesAt.range (hp_row (n := 1) rfl w' hC))) rfl rfl ?_
  refine lx_move rfl rfl rfl ?_
  refine lx_ext rfl rfl rfl rfl ?_
  refine lx_ext rfl rfl rfl rfl ?_
  refine lx_allocr 10 hGF J2.zv52 rfl rfl ?_
  intro b10
  refine lx_storea 10 hGF rfl rfl rfl Tryz.sizeOf52 (by simp) (by simp) (one_u64 _) rfl ?_
  refine lx_assign rfl rfl rfl ?_
  refine lx_nil ?_
  refine xs_drawnT (E := EE []) [(39, [1], []), (40, [38], [0]), (41, [39], [1]), (42, [40], [2]), (43, [2, 41], [3]), (44, [42, 41], [4, 3]), (45, [43, 41], [5, 3]), (46, [41, 44], [3, 6]), (47, [45], [7, 3]), (48, [4, 46], [8]), (49, [6, 46], [8]), (50, [47, 48, 46], [9, 10, 8]), (51, [9, 46], [8]), (52, [49, 50, 46], [11, 12, 8]), (53, [51, 46], [13, 8]), (54, [46, 52], [8, 14]), (55, [53], [15, 8]), (56, [3, 54], [16]), (57, [54], [16, 16]), (58, [55, 56, 54], [17, 18, 18, 16]), (59, [54, 57], [16, 19]), (60, [58], [20, 19]), (61, [5, 59], [21]), (62, [59], [21, 21]), (63, [60, 61, 59], [22, 23, 23, 21]), (64, [59, 62], [21, 24]), (65, [63], [25, 24]), (66, [7, 64], [26]), (67, [65, 64], [27, 26]), (68, [66, 64], [28, 26]), (69, [64, 67], [26, 29]), (70, [68], [30, 26]), (71, [8, 69], [31]), (72, [70, 69], [32, 31, 31]), (73, [69, 71], [31, 33]), (74, [72], [34, 33]), (75, [11, 73], [35]), (76, [74, 73], [36, 35]), (77, [73, 75], [35, 37]), (1, [76], [38, 35, 0, 1, 2, 3, 4, 5, 6, 7, 8, 9, 10, 11, 12, 13, 14, 15, 16, 17, 18, 19, 20, 21, 22, 23, 24, 25, 26, 27, 28, 29, 30, 31, 32, 33, 34, 35, 36, 37, 38])] mixed (by kernel_rfl) (by kernel_rfl) (by kernel_rfl) (by kernel_rfl) (by kernel_rfl) ?_
  refine lx_ia0 0 rfl rfl Tryz.underlying46 Tryz.sizeOf5 (by decide) (by decide) rfl rfl ?_
  refine lx_loadm 1 U8 0 rfl rfl Tryz.isAgg5 (by simp) rfl rfl ?_
  refine lx_binB true rfl rfl (fun _ => rfl) (fun _ => bin_eql_u8 _ _ 151#8) (beq_iff_eq.2 e97) rfl rfl ?_
  refine lx_move rfl rfl rfl ?_
  refine lx_ia0 0 rfl rfl Tryz.underlying56 Tryz.sizeOf5 (by decide) (by decide) rfl rfl ?_
  refine lx_loadm 2 U8 0 rfl rfl Tryz.isAgg5 (by simp) rfl rfl ?_
  refine lx_binB true rfl rfl (fun _ => rfl) (fun _ => bin_eql_u8 _ _ 147#8) (beq_iff_eq.2 e93) rfl rfl ?_
  refine lx_pick rfl rfl rfl rfl rfl ?_
  refine lx_move rfl rfl rfl ?_
  refine lx_move rfl rfl rfl ?_
  refine lx_move rfl rfl rfl ?_
  refine lx_bin (v := I 0) rfl rfl (fun _ => rfl) (fun _ => bin_add_i _ _ _ (by unfold inI; omega)) rfl rfl ?_
  refine lx_move rfl rfl rfl ?_
  refine lx_bin (v := I 0) rfl rfl (fun _ => rfl) (fun _ => bin_add_i _ _ _ (by unfold inI; omega)) rfl rfl ?_
  refine lx_binB true rfl rfl (fun _ => rfl) (fun _ => bin_eql_i _ _ _) (rfl) rfl rfl ?_
  refine lx_pick rfl rfl rfl rfl rfl ?_
  refine lx_move rfl rfl rfl ?_
  refine lx_loada 3 rfl rfl Tryz.isAgg30 Tryz.sizeOf30 (by simp) rfl rfl ?_
  refine lx_call rfl rfl ent19 (J1.gen_p) rfl rfl ?_
  refine lx_callB true rfl rfl ent25 (J1.equal_p _ _) (decide_eq_true rfl) rfl rfl ?_
  refine lx_pick rfl rfl rfl rfl rfl ?_
  refine lx_move rfl rfl rfl ?_
  refine lx_loada 5 rfl rfl Tryz.isAgg52 Tryz.sizeOf52 (by simp) rfl rfl ?_
  refine lx_call rfl rfl ent21 (J2.gen_p) rfl rfl ?_
  refine lx_callB true rfl rfl ent26 (J2.equal_p _ _) (decide_eq_true rfl) rfl rfl ?_
  refine lx_pick rfl rfl rfl rfl rfl ?_
  refine lx_move rfl rfl rfl ?_
  refine lx_ia0 0 rfl rfl Tryz.underlying46 Tryz.sizeOf5 (by decide) (by decide) rfl rfl ?_
  refine lx_loadm 7 U8 0 rfl rfl Tryz.isAgg5 (by simp) rfl rfl ?_
  refine lx_binB true rfl rfl (fun _ => rfl) (fun _ => bin_eql_u8 _ _ 192#8) (beq_iff_eq.2 eC0) rfl rfl ?_
  refine lx_pick rfl rfl rfl rfl rfl ?_
  refine lx_move rfl rfl rfl ?_
  refine lx_loada 8 rfl rfl Tryz.isAgg30 Tryz.sizeOf30 (by simp) rfl rfl ?_
  refine lx_callB true rfl rfl ent28 (J1.isInf_p _) (decide_eq_true rfl) rfl rfl ?_
  refine lx_pick rfl rfl rfl rfl rfl ?_
  refine lx_move rfl rfl rfl ?_
  refine lx_move rfl rfl rfl ?_
  refine lx_binB true rfl rfl (fun _ => rfl) (fun _ => bin_eql_i _ _ _) (rfl) rfl rfl ?_
  refine lx_pick rfl rfl rfl rfl rfl ?_
  refine lx_assign rfl rfl rfl ?_
  refine lx_nil ?_
  refine x_ret ?_
  repeat (first | refine kseq_ret ?_ | refine kblk_ret ?_)
  exact kret_tmp rfl rfl (fun w hw => ⟨rfl, hp_below hw⟩)
end Go.Proofs.YtamddkjccmhgaaaGreatDoor
