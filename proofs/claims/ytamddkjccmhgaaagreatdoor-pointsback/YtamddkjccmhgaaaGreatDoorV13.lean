/-
  The law PointsBack.
-/
import Derived.Test.YtamddkjccmhgaaaGreatDoorV12
namespace Go.Proofs.YtamddkjccmhgaaaGreatDoor
open Go.RowKit
set_option maxRecDepth 100000
set_option maxHeartbeats 1000000
attribute [local simp] fe_len nm_len AS_len SS_len MONT_len RM_len FRs_len BYs_len by48_len PLl TWOl ONEl N1l IVPl HFPl RTPl FL_len SP_len fe2_len SP2_len FM_len J1.GL_len J2.GL_len MK_len OR0_len EN1_len EN2_len

theorem ord1_mul (bs : List (BitVec 8)) : E1.times (J1.gMul J1.gGen bs).P ORD = none := by
  show E1.times (E1.times (some G1p) (BN bs bs.length)) ORD = none
  generalize BN bs bs.length = m
  have h := g1_order
  revert h
  generalize ORD = k
  intro h
  rw [E1.times_comm G1_on' m k, h]
  exact E1.times_none m
theorem ord2_mul (bs : List (BitVec 8)) : E2w.times (J2.gMul J2.gGen bs).P ORD = none := by
  show E2w.times (E2w.times (some G2p) (BN bs bs.length)) ORD = none
  generalize BN bs bs.length = m
  have h := g2_order
  revert h
  generalize ORD = k
  intro h
  rw [E2w.times_comm G2_on' m k, h]
  exact E2w.times_none m
theorem ord1_neg {p : J1.GP} (h : E1.times p.P ORD = none) : E1.times (J1.gNeg p).P ORD = none := by
  show E1.times (E1.ne p.P) ORD = none
  revert h
  generalize ORD = k
  intro h
  rw [E1.times_ne p.on, h]; rfl
theorem ord2_neg {p : J2.GP} (h : E2w.times p.P ORD = none) : E2w.times (J2.gNeg p).P ORD = none := by
  show E2w.times (E2w.ne p.P) ORD = none
  revert h
  generalize ORD = k
  intro h
  rw [E2w.times_ne p.on, h]; rfl
theorem back_big (e : Option Addr) (cap : Nat) (bs : List (BitVec 8)) (hL : ¬ bs.length ≤ 32) (b1 : Bool) (w : World) (hw : Gt w) : Calls Tryz.prog 5 [.slice e bs.length cap, .bool b1].toArray w (fun r w' => r = .returned (.bool true) ∧ Grow w w') := by
  have hGF : BOk Gt (pl w) := gt_low.plain hw
  refine calls_of_X (G := Gt) Tryz.func5 rfl rfl (Hp (pl w) []) (hp_refl (pl w) trivial rides_true) (good_hp hGF) ?_
  refine xs_plain (E := EE [27, 2000027]) ?_
  refine lx_assign rfl rfl rfl ?_
  refine lx_nil ?_
  refine x_seq ?_
  refine xs_plain (E := EE [27, 2000027]) ?_
  refine lx_call rfl rfl ent8 known10 rfl rfl ?_
  refine lx_un rfl (fun _ => un_not _) rfl rfl ?_
  refine lx_nil ?_
  refine x_false rfl ?_
  refine x_skip ?_
  refine x_seq ?_
  refine xs_plain (E := EE [27, 2000027]) ?_
  refine lx_move rfl rfl rfl ?_
  refine lx_len rfl (fun _ => len_slice Tryz.underlying22 _ _ _ _) rfl rfl ?_
  refine lx_binB true rfl rfl (fun _ => rfl) (fun _ => bin_gtr_i _ _ _) (decide_eq_true (by omega)) rfl rfl ?_
  refine lx_nil ?_
  refine x_true rfl ?_
  refine xs_plain (E := EE [27, 2000027]) ?_
  refine lx_assign rfl rfl rfl ?_
  refine lx_nil ?_
  refine x_ret ?_
  repeat (first | refine kseq_ret ?_ | refine kblk_ret ?_)
  exact kret_tmp rfl rfl (fun w hw => ⟨rfl, hp_below hw⟩)
theorem back_t (e : Option Addr) (cap : Nat) (bs : List (BitVec 8)) (hL : bs.length ≤ 32) (p : J1.GP) (q : J2.GP) (hM1 : ∀ w', Gt w' → BytesAt w' e bs → Calls Tryz.prog 20 [J1.PtV J1.gGen, .slice e bs.length cap].toArray w' (fun r w'' => r = .returned (J1.PtV p) ∧ Grow w' w'')) (hM2 : ∀ w', Gt w' → BytesAt w' e bs → Calls Tryz.prog 22 [J2.PtV J2.gGen, .slice e bs.length cap].toArray w' (fun r w'' => r = .returned (J2.PtV q) ∧ Grow w' w'')) (o1 : E1.times p.P ORD = none) (o2 : E2w.times q.P ORD = none) (w : World) (hw : Gt w) (hby : BytesAt w e bs) : Calls Tryz.prog 5 [.slice e bs.length cap, .bool true].toArray w (fun r w' => r = .returned (.bool true) ∧ Grow w w') := by
  have hGF : BOk Gt (pl w) := gt_low.plain hw
  refine calls_of_X (G := Gt) Tryz.func5 rfl rfl (Hp (pl w) []) (hp_refl (pl w) trivial rides_true) (good_hp hGF) ?_
  refine xs_plain (E := EE [27, 2000027]) ?_
  refine lx_assign rfl rfl rfl ?_
  refine lx_nil ?_
  refine x_seq ?_
  refine xs_plain (E := EE [27, 2000027]) ?_
  refine lx_call rfl rfl ent8 known10 rfl rfl ?_
  refine lx_un rfl (fun _ => un_not _) rfl rfl ?_
  refine lx_nil ?_
  refine x_false rfl ?_
  refine x_skip ?_
  refine x_seq ?_
  refine xs_plain (E := EE [27, 2000027]) ?_
  refine lx_move rfl rfl rfl ?_
  refine lx_len rfl (fun _ => len_slice Tryz.underlying22 _ _ _ _) rfl rfl ?_
  refine lx_binB false rfl rfl (fun _ => rfl) (fun _ => bin_gtr_i _ _ _) (decide_eq_false (by omega)) rfl rfl ?_
  refine lx_nil ?_
  refine x_false rfl ?_
  refine x_skip ?_
  refine xs_plain (E := EE [27, 2000027]) ?_
  refine lx_call rfl rfl ent19 (J1.gen_p) rfl rfl ?_
  refine lx_move rfl rfl rfl ?_
  refine lx_callC rfl rfl ent20 (fun w' hC hG => hM1 w' hG (hby.grow (hp_below hC))) rfl rfl ?_
  refine lx_call rfl rfl ent21 (J2.gen_p) rfl rfl ?_
  refine lx_move rfl rfl rfl ?_
  refine lx_callC rfl rfl ent22 (fun w' hC hG => hM2 w' hG (hby.grow (hp_below hC))) rfl rfl ?_
  refine lx_allocr 5 hGF J1.zv30 rfl rfl ?_
  intro b5
  refine lx_allocr 6 hGF J2.zv52 rfl rfl ?_
  intro b6
  refine lx_storea 5 hGF rfl rfl rfl Tryz.sizeOf30 (by simp) (by simp) (one_u64 _) rfl ?_
  refine lx_storea 6 hGF rfl rfl rfl Tryz.sizeOf52 (by simp) (by simp) (one_u64 _) rfl ?_
  refine lx_nil ?_
  refine x_seq ?_
  refine xs_plain (E := EE [27, 2000027]) ?_
  refine lx_move rfl rfl rfl ?_
  refine lx_nil ?_
  refine x_true rfl ?_
  refine x_drawn (E := EE [27, 2000027]) mixed (by kernel_rfl) (by kernel_rfl) (by kernel_rfl) ?_
  refine lx_loada 5 rfl rfl Tryz.isAgg30 Tryz.sizeOf30 (by simp) rfl rfl ?_
  refine lx_call rfl rfl ent23 (J1.neg_p p) rfl rfl ?_
  refine lx_loada 6 rfl rfl Tryz.isAgg52 Tryz.sizeOf52 (by simp) rfl rfl ?_
  refine lx_call rfl rfl ent24 (J2.neg_p q) rfl rfl ?_
  refine lx_storea 5 hGF rfl rfl rfl Tryz.sizeOf30 (by simp) (by simp) (one_u64 _) rfl ?_
  refine lx_storea 6 hGF rfl rfl rfl Tryz.sizeOf52 (by simp) (by simp) (one_u64 _) rfl ?_
  refine lx_nil ?_
  refine xs_drawA (E := EE [27, 2000027, 2999999]) [0, 1, 2, 3] [⟨4, 7, 46, (List.replicate 48 (0#8)).map U8⟩, ⟨5, 8, 56, (List.replicate 96 (0#8)).map U8⟩] [6, 7] mixed rfl (by kernel_rfl) (by kernel_rfl) (by kernel_rfl) (by kernel_rfl) (by kernel_rfl) (by kernel_rfl) (by decide) (by intro x hx; simp only [List.mem_cons, List.not_mem_nil, or_false] at hx; rcases hx with rfl | rfl <;> first | exact isAlloc_mk rfl zv46 rfl | exact isAlloc_mk rfl zv56 rfl) ?_
  refine lx_loada 5 rfl rfl Tryz.isAgg30 Tryz.sizeOf30 (by simp) rfl rfl ?_
  refine lx_call rfl rfl ent15 (enc1_p (J1.gNeg p)) rfl rfl ?_
  refine lx_loada 6 rfl rfl Tryz.isAgg52 Tryz.sizeOf52 (by simp) rfl rfl ?_
  refine lx_call rfl rfl ent18 (enc2_p (J2.gNeg q)) rfl rfl ?_
  refine lx_nil ?_
  refine ⟨_, _, rfl, hGF, by intro x hx; simp only [List.mem_cons, List.not_mem_nil, or_false] at hx; rcases hx with rfl | rfl <;> rfl, by intro x hx; simp only [List.mem_cons, List.not_mem_nil, or_false] at hx; rcases hx with rfl | rfl <;> rfl, fun adr => ?_⟩
  refine lx_storea 7 hGF rfl rfl rfl Tryz.sizeOf46 (by simp) (by simp) (one_u8 _) rfl ?_
  refine lx_storea 8 hGF rfl rfl rfl Tryz.sizeOf56 (by simp) (by simp) (one_u8 _) rfl ?_
  refine lx_nil ?_
  refine xs_plain (E := EE [27, 2000027]) ?_
  refine lx_slarr1 (l := 0) (h' := 48) rfl Tryz.underlying46 Tryz.sizeOf5 rfl rfl (by decide) (by decide) rfl rfl ?_
  refine lx_callC rfl rfl ent10 (fun w' hC hG => dec1_p _ 48 48 (EN1 (J1.gNeg p).P) (EN1_len _) 0 (J1.gNeg p).P (D1_in (J1.gNeg p).on (ord1_neg o1)) (by decide) w' hG (BytesAt.range (hp_row (n := 7) rfl w' hC))) rfl rfl ?_
  refine lx_move rfl rfl rfl ?_
  refine lx_ext rfl rfl rfl rfl ?_
  refine lx_ext rfl rfl rfl rfl ?_
  refine lx_allocr 9 hGF J1.zv30 rfl rfl ?_
  intro b9
  refine lx_storea 9 hGF rfl rfl rfl Tryz.sizeOf30 (by simp) (by simp) (one_u64 _) rfl ?_
  refine lx_assign rfl rfl rfl ?_
  refine lx_nil ?_
  refine xs_plain (E := EE [27, 2000027]) ?_
  refine lx_slarr1 (l := 0) (h' := 96) rfl Tryz.underlying56 Tryz.sizeOf5 rfl rfl (by decide) (by decide) rfl rfl ?_
  refine lx_callC rfl rfl ent16 (fun w' hC hG => dec2_p _ 96 96 (EN2 (J2.gNeg q).P) (EN2_len _) 0 (J2.gNeg q).P (D2_in (J2.gNeg q).on (ord2_neg o2)) (by decide) w' hG (BytesAt.range (hp_row (n := 8) rfl w' hC))) rfl rfl ?_
  refine lx_move rfl rfl rfl ?_
  refine lx_ext rfl rfl rfl rfl ?_
  refine lx_ext rfl rfl rfl rfl ?_
  refine lx_allocr 11 hGF J2.zv52 rfl rfl ?_
  intro b11
  refine lx_storea 11 hGF rfl rfl rfl Tryz.sizeOf52 (by simp) (by simp) (one_u64 _) rfl ?_
  refine lx_assign rfl rfl rfl ?_
  refine lx_nil ?_
  refine xs_drawn (E := EE [27, 2000027]) mixed (by kernel_rfl) (by kernel_rfl) (by kernel_rfl) ?_
  refine lx_move rfl rfl rfl ?_
  refine lx_move rfl rfl rfl ?_
  refine lx_bin (v := I 0) rfl rfl (fun _ => rfl) (fun _ => bin_add_i _ _ _ (by unfold inI; omega)) rfl rfl ?_
  refine lx_binB true rfl rfl (fun _ => rfl) (fun _ => bin_eql_i _ _ _) (rfl) rfl rfl ?_
  refine lx_move rfl rfl rfl ?_
  refine lx_loada 9 rfl rfl Tryz.isAgg30 Tryz.sizeOf30 (by simp) rfl rfl ?_
  refine lx_loada 5 rfl rfl Tryz.isAgg30 Tryz.sizeOf30 (by simp) rfl rfl ?_
  refine lx_callB true rfl rfl ent25 (J1.equal_p _ _) (decide_eq_true rfl) rfl rfl ?_
  refine lx_pick rfl rfl rfl rfl rfl ?_
  refine lx_move rfl rfl rfl ?_
  refine lx_loada 11 rfl rfl Tryz.isAgg52 Tryz.sizeOf52 (by simp) rfl rfl ?_
  refine lx_loada 6 rfl rfl Tryz.isAgg52 Tryz.sizeOf52 (by simp) rfl rfl ?_
  refine lx_callB true rfl rfl ent26 (J2.equal_p _ _) (decide_eq_true rfl) rfl rfl ?_
  refine lx_pick rfl rfl rfl rfl rfl ?_
  refine lx_move rfl rfl rfl ?_
  refine lx_slarr1 (l := 0) (h' := 48) rfl Tryz.underlying46 Tryz.sizeOf5 rfl rfl (by decide) (by decide) rfl rfl ?_
  refine lx_loada 5 rfl rfl Tryz.isAgg30 Tryz.sizeOf30 (by simp) rfl rfl ?_
  refine lx_call rfl rfl ent13 (J1.refs8 (J1.gNeg p)) rfl rfl ?_
  refine lx_callG rfl rfl ent27 rfl rfl (fun w' hw' => (r9enc1_c (J1.gNeg p).P w' (hGF.g _ _ _ hw')).mono fun e' w'' h => ?_)
  obtain ⟨b933, rfl, hg, hb, hob⟩ := h
  refine ⟨_, _, rfl, good_hp hGF, hw'.news rides_true hg [(933, b933, (EN1 (J1.gNeg p).P).map U8, 5)] ?_ inj_one, hp_fresh rides_true rfl, ?_⟩
  · intro n' b' c' t' hl
    rcases lkB_cons hl with ⟨_, e⟩ | ⟨_, hl⟩
    · cases e; exact ⟨hb, hob⟩
    · cases hl
  clear hw' hg hb hob
  refine lx_callC rfl rfl ent12 (fun w' hC hG => bytes_same (EN1 (J1.gNeg p).P) _ 48 _ _ 48 _ (EN1_len _) (EN1_len _) w' hG (BytesAt.range (hp_row (n := 7) rfl w' hC)) (BytesAt.range (hp_row (n := 933) rfl w' hC))) rfl rfl ?_
  refine lx_pick rfl rfl rfl rfl rfl ?_
  refine lx_move rfl rfl rfl ?_
  refine lx_slarr1 (l := 0) (h' := 96) rfl Tryz.underlying56 Tryz.sizeOf5 rfl rfl (by decide) (by decide) rfl rfl ?_
  refine lx_loada 6 rfl rfl Tryz.isAgg52 Tryz.sizeOf52 (by simp) rfl rfl ?_
  refine lx_call rfl rfl ent17 (J2.refs8 (J2.gNeg q)) rfl rfl ?_
  refine lx_callG rfl rfl ent27 rfl rfl (fun w' hw' => (r9enc2_c (J2.gNeg q).P w' (hGF.g _ _ _ hw')).mono fun e' w'' h => ?_)
  obtain ⟨b934, rfl, hg, hb, hob⟩ := h
  refine ⟨_, _, rfl, good_hp hGF, hw'.news rides_true hg [(934, b934, (EN2 (J2.gNeg q).P).map U8, 5)] ?_ inj_one, hp_fresh rides_true rfl, ?_⟩
  · intro n' b' c' t' hl
    rcases lkB_cons hl with ⟨_, e⟩ | ⟨_, hl⟩
    · cases e; exact ⟨hb, hob⟩
    · cases hl
  clear hw' hg hb hob
  refine lx_callC rfl rfl ent12 (fun w' hC hG => bytes_same (EN2 (J2.gNeg q).P) _ 96 _ _ 96 _ (EN2_len _) (EN2_len _) w' hG (BytesAt.range (hp_row (n := 8) rfl w' hC)) (BytesAt.range (hp_row (n := 934) rfl w' hC))) rfl rfl ?_
  refine lx_pick rfl rfl rfl rfl rfl ?_
  refine lx_assign rfl rfl rfl ?_
  refine lx_nil ?_
  refine x_ret ?_
  repeat (first | refine kseq_ret ?_ | refine kblk_ret ?_)
  exact kret_tmp rfl rfl (fun w hw => ⟨rfl, hp_below hw⟩)
theorem back_f (e : Option Addr) (cap : Nat) (bs : List (BitVec 8)) (hL : bs.length ≤ 32) (p : J1.GP) (q : J2.GP) (hM1 : ∀ w', Gt w' → BytesAt w' e bs → Calls Tryz.prog 20 [J1.PtV J1.gGen, .slice e bs.length cap].toArray w' (fun r w'' => r = .returned (J1.PtV p) ∧ Grow w' w'')) (hM2 : ∀ w', Gt w' → BytesAt w' e bs → Calls Tryz.prog 22 [J2.PtV J2.gGen, .slice e bs.length cap].toArray w' (fun r w'' => r = .returned (J2.PtV q) ∧ Grow w' w'')) (o1 : E1.times p.P ORD = none) (o2 : E2w.times q.P ORD = none) (w : World) (hw : Gt w) (hby : BytesAt w e bs) : Calls Tryz.prog 5 [.slice e bs.length cap, .bool false].toArray w (fun r w' => r = .returned (.bool true) ∧ Grow w w') := by
  have hGF : BOk Gt (pl w) := gt_low.plain hw
  refine calls_of_X (G := Gt) Tryz.func5 rfl rfl (Hp (pl w) []) (hp_refl (pl w) trivial rides_true) (good_hp hGF) ?_
  refine xs_plain (E := EE [27, 2000027]) ?_
  refine lx_assign rfl rfl rfl ?_
  refine lx_nil ?_
  refine x_seq ?_
  refine xs_plain (E := EE [27, 2000027]) ?_
  refine lx_call rfl rfl ent8 known10 rfl rfl ?_
  refine lx_un rfl (fun _ => un_not _) rfl rfl ?_
  refine lx_nil ?_
  refine x_false rfl ?_
  refine x_skip ?_
  refine x_seq ?_
  refine xs_plain (E := EE [27, 2000027]) ?_
  refine lx_move rfl rfl rfl ?_
  refine lx_len rfl (fun _ => len_slice Tryz.underlying22 _ _ _ _) rfl rfl ?_
  refine lx_binB false rfl rfl (fun _ => rfl) (fun _ => bin_gtr_i _ _ _) (decide_eq_false (by omega)) rfl rfl ?_
  refine lx_nil ?_
  refine x_false rfl ?_
  refine x_skip ?_
  refine xs_plain (E := EE [27, 2000027]) ?_
  refine lx_call rfl rfl ent19 (J1.gen_p) rfl rfl ?_
  refine lx_move rfl rfl rfl ?_
  refine lx_callC rfl rfl ent20 (fun w' hC hG => hM1 w' hG (hby.grow (hp_below hC))) rfl rfl ?_
  refine lx_call rfl rfl ent21 (J2.gen_p) rfl rfl ?_
  refine lx_move rfl rfl rfl ?_
  refine lx_callC rfl rfl ent22 (fun w' hC hG => hM2 w' hG (hby.grow (hp_below hC))) rfl rfl ?_
  refine lx_allocr 5 hGF J1.zv30 rfl rfl ?_
  intro b5
  refine lx_allocr 6 hGF J2.zv52 rfl rfl ?_
  intro b6
  refine lx_storea 5 hGF rfl rfl rfl Tryz.sizeOf30 (by simp) (by simp) (one_u64 _) rfl ?_
  refine lx_storea 6 hGF rfl rfl rfl Tryz.sizeOf52 (by simp) (by simp) (one_u64 _) rfl ?_
  refine lx_nil ?_
  refine x_seq ?_
  refine xs_plain (E := EE [27, 2000027]) ?_
  refine lx_move rfl rfl rfl ?_
  refine lx_nil ?_
  refine x_false rfl ?_
  refine x_skip ?_
  refine xs_drawA (E := EE [27, 2000027, 2999999]) [0, 1, 2, 3] [⟨4, 7, 46, (List.replicate 48 (0#8)).map U8⟩, ⟨5, 8, 56, (List.replicate 96 (0#8)).map U8⟩] [6, 7] mixed rfl (by kernel_rfl) (by kernel_rfl) (by kernel_rfl) (by kernel_rfl) (by kernel_rfl) (by kernel_rfl) (by decide) (by intro x hx; simp only [List.mem_cons, List.not_mem_nil, or_false] at hx; rcases hx with rfl | rfl <;> first | exact isAlloc_mk rfl zv46 rfl | exact isAlloc_mk rfl zv56 rfl) ?_
  refine lx_loada 5 rfl rfl Tryz.isAgg30 Tryz.sizeOf30 (by simp) rfl rfl ?_
  refine lx_call rfl rfl ent15 (enc1_p p) rfl rfl ?_
  refine lx_loada 6 rfl rfl Tryz.isAgg52 Tryz.sizeOf52 (by simp) rfl rfl ?_
  refine lx_call rfl rfl ent18 (enc2_p q) rfl rfl ?_
  refine lx_nil ?_
  refine ⟨_, _, rfl, hGF, by intro x hx; simp only [List.mem_cons, List.not_mem_nil, or_false] at hx; rcases hx with rfl | rfl <;> rfl, by intro x hx; simp only [List.mem_cons, List.not_mem_nil, or_false] at hx; rcases hx with rfl | rfl <;> rfl, fun adr => ?_⟩
  refine lx_storea 7 hGF rfl rfl rfl Tryz.sizeOf46 (by simp) (by simp) (one_u8 _) rfl ?_
  refine lx_storea 8 hGF rfl rfl rfl Tryz.sizeOf56 (by simp) (by simp) (one_u8 _) rfl ?_
  refine lx_nil ?_
  refine xs_plain (E := EE [27, 2000027]) ?_
  refine lx_slarr1 (l := 0) (h' := 48) rfl Tryz.underlying46 Tryz.sizeOf5 rfl rfl (by decide) (by decide) rfl rfl ?_
  refine lx_callC rfl rfl ent10 (fun w' hC hG => dec1_p _ 48 48 (EN1 p.P) (EN1_len _) 0 p.P (D1_in p.on o1) (by decide) w' hG (BytesAt.range (hp_row (n := 7) rfl w' hC))) rfl rfl ?_
  refine lx_move rfl rfl rfl ?_
  refine lx_ext rfl rfl rfl rfl ?_
  refine lx_ext rfl rfl rfl rfl ?_
  refine lx_allocr 9 hGF J1.zv30 rfl rfl ?_
  intro b9
  refine lx_storea 9 hGF rfl rfl rfl Tryz.sizeOf30 (by simp) (by simp) (one_u64 _) rfl ?_
  refine lx_assign rfl rfl rfl ?_
  refine lx_nil ?_
  refine xs_plain (E := EE [27, 2000027]) ?_
  refine lx_slarr1 (l := 0) (h' := 96) rfl Tryz.underlying56 Tryz.sizeOf5 rfl rfl (by decide) (by decide) rfl rfl ?_
  refine lx_callC rfl rfl ent16 (fun w' hC hG => dec2_p _ 96 96 (EN2 q.P) (EN2_len _) 0 q.P (D2_in q.on o2) (by decide) w' hG (BytesAt.range (hp_row (n := 8) rfl w' hC))) rfl rfl ?_
  refine lx_move rfl rfl rfl ?_
  refine lx_ext rfl rfl rfl rfl ?_
  refine lx_ext rfl rfl rfl rfl ?_
  refine lx_allocr 11 hGF J2.zv52 rfl rfl ?_
  intro b11
  refine lx_storea 11 hGF rfl rfl rfl Tryz.sizeOf52 (by simp) (by simp) (one_u64 _) rfl ?_
  refine lx_assign rfl rfl rfl ?_
  refine lx_nil ?_
  refine xs_drawn (E := EE [27, 2000027]) mixed (by kernel_rfl) (by kernel_rfl) (by kernel_rfl) ?_
  refine lx_move rfl rfl rfl ?_
  refine lx_move rfl rfl rfl ?_
  refine lx_bin (v := I 0) rfl rfl (fun _ => rfl) (fun _ => bin_add_i _ _ _ (by unfold inI; omega)) rfl rfl ?_
  refine lx_binB true rfl rfl (fun _ => rfl) (fun _ => bin_eql_i _ _ _) (rfl) rfl rfl ?_
  refine lx_move rfl rfl rfl ?_
  refine lx_loada 9 rfl rfl Tryz.isAgg30 Tryz.sizeOf30 (by simp) rfl rfl ?_
  refine lx_loada 5 rfl rfl Tryz.isAgg30 Tryz.sizeOf30 (by simp) rfl rfl ?_
  refine lx_callB true rfl rfl ent25 (J1.equal_p _ _) (decide_eq_true rfl) rfl rfl ?_
  refine lx_pick rfl rfl rfl rfl rfl ?_
  refine lx_move rfl rfl rfl ?_
  refine lx_loada 11 rfl rfl Tryz.isAgg52 Tryz.sizeOf52 (by simp) rfl rfl ?_
  refine lx_loada 6 rfl rfl Tryz.isAgg52 Tryz.sizeOf52 (by simp) rfl rfl ?_
  refine lx_callB true rfl rfl ent26 (J2.equal_p _ _) (decide_eq_true rfl) rfl rfl ?_
  refine lx_pick rfl rfl rfl rfl rfl ?_
  refine lx_move rfl rfl rfl ?_
  refine lx_slarr1 (l := 0) (h' := 48) rfl Tryz.underlying46 Tryz.sizeOf5 rfl rfl (by decide) (by decide) rfl rfl ?_
  refine lx_loada 5 rfl rfl Tryz.isAgg30 Tryz.sizeOf30 (by simp) rfl rfl ?_
  refine lx_call rfl rfl ent13 (J1.refs8 p) rfl rfl ?_
  refine lx_callG rfl rfl ent27 rfl rfl (fun w' hw' => (r9enc1_c p.P w' (hGF.g _ _ _ hw')).mono fun e' w'' h => ?_)
  obtain ⟨b933, rfl, hg, hb, hob⟩ := h
  refine ⟨_, _, rfl, good_hp hGF, hw'.news rides_true hg [(933, b933, (EN1 p.P).map U8, 5)] ?_ inj_one, hp_fresh rides_true rfl, ?_⟩
  · intro n' b' c' t' hl
    rcases lkB_cons hl with ⟨_, e⟩ | ⟨_, hl⟩
    · cases e; exact ⟨hb, hob⟩
    · cases hl
  clear hw' hg hb hob
  refine lx_callC rfl rfl ent12 (fun w' hC hG => bytes_same (EN1 p.P) _ 48 _ _ 48 _ (EN1_len _) (EN1_len _) w' hG (BytesAt.range (hp_row (n := 7) rfl w' hC)) (BytesAt.range (hp_row (n := 933) rfl w' hC))) rfl rfl ?_
  refine lx_pick rfl rfl rfl rfl rfl ?_
  refine lx_move rfl rfl rfl ?_
  refine lx_slarr1 (l := 0) (h' := 96) rfl Tryz.underlying56 Tryz.sizeOf5 rfl rfl (by decide) (by decide) rfl rfl ?_
  refine lx_loada 6 rfl rfl Tryz.isAgg52 Tryz.sizeOf52 (by simp) rfl rfl ?_
  refine lx_call rfl rfl ent17 (J2.refs8 q) rfl rfl ?_
  refine lx_callG rfl rfl ent27 rfl rfl (fun w' hw' => (r9enc2_c q.P w' (hGF.g _ _ _ hw')).mono fun e' w'' h => ?_)
  obtain ⟨b934, rfl, hg, hb, hob⟩ := h
  refine ⟨_, _, rfl, good_hp hGF, hw'.news rides_true hg [(934, b934, (EN2 q.P).map U8, 5)] ?_ inj_one, hp_fresh rides_true rfl, ?_⟩
  · intro n' b' c' t' hl
    rcases lkB_cons hl with ⟨_, e⟩ | ⟨_, hl⟩
    · cases e; exact ⟨hb, hob⟩
    · cases hl
  clear hw' hg hb hob
  refine lx_callC rfl rfl ent12 (fun w' hC hG => bytes_same (EN2 q.P) _ 96 _ _ 96 _ (EN2_len _) (EN2_len _) w' hG (BytesAt.range (hp_row (n := 8) rfl w' hC)) (BytesAt.range (hp_row (n := 934) rfl w' hC))) rfl rfl ?_
  refine lx_pick rfl rfl rfl rfl rfl ?_
  refine lx_assign rfl rfl rfl ?_
  refine lx_nil ?_
  refine x_ret ?_
  repeat (first | refine kseq_ret ?_ | refine kblk_ret ?_)
  exact kret_tmp rfl rfl (fun w hw => ⟨rfl, hp_below hw⟩)
theorem back_law (e : Option Addr) (cap : Nat) (bs : List (BitVec 8)) (b1 : Bool) (w : World) (hw : Gt w) (hby : BytesAt w e bs) : Calls Tryz.prog 5 [.slice e bs.length cap, .bool b1].toArray w (fun r w' => r = .returned (.bool true) ∧ Grow w w') := by
  by_cases hL : bs.length ≤ 32
  · have h1 := fun w' hG hB => J1.mul_c J1.gGen e cap bs (by omega) w' hG hB
    have h2 := fun w' hG hB => J2.mul_c J2.gGen e cap bs (by omega) w' hG hB
    cases b1 with
    | true => exact back_t e cap bs hL _ _ h1 h2 (ord1_mul bs) (ord2_mul bs) w hw hby
    | false => exact back_f e cap bs hL _ _ h1 h2 (ord1_mul bs) (ord2_mul bs) w hw hby
  · exact back_big e cap bs hL b1 w hw
end Go.Proofs.YtamddkjccmhgaaaGreatDoor
