/-
  The law PointsFlags.
-/
import Derived.Test.YtamddkjccmhgaaaGreatDoorV15
namespace Go.Proofs.YtamddkjccmhgaaaGreatDoor
open Go.RowKit
set_option maxRecDepth 100000
set_option maxHeartbeats 1000000
attribute [local simp] fe_len nm_len AS_len SS_len MONT_len RM_len FRs_len BYs_len by48_len PLl TWOl ONEl N1l IVPl HFPl RTPl FL_len SP_len fe2_len SP2_len FM_len J1.GL_len J2.GL_len MK_len OR0_len EN1_len EN2_len

theorem set_get {bs : List (BitVec 8)} (h : bs.length = 48) (b : BitVec 8) : (bs.set 0 b).getD 0 0 = b := by
  cases bs with
  | nil => cases h
  | cons a r => rfl
theorem flags_big (e : Option Addr) (cap : Nat) (bs : List (BitVec 8)) (fl : BitVec 8) (hL : ¬ bs.length ≤ 8) (w : World) (hw : Gt w) : Calls Tryz.prog 6 [.slice e bs.length cap, U8 fl].toArray w (fun r w' => r = .returned (.bool true) ∧ Grow w w') := by
  have hGF : BOk Gt (pl w) := gt_low.plain hw
  refine calls_of_X (G := Gt) Tryz.func6 rfl rfl (Hp (pl w) []) (hp_refl (pl w) trivial rides_true) (good_hp hGF) ?_
  refine xs_plain (E := EE []) ?_
  refine lx_assign rfl rfl rfl ?_
  refine lx_nil ?_
  refine x_seq ?_
  refine xs_plain (E := EE []) ?_
  refine lx_call rfl rfl ent8 known10 rfl rfl ?_
  refine lx_un rfl (fun _ => un_not _) rfl rfl ?_
  refine lx_nil ?_
  refine x_false rfl ?_
  refine x_skip ?_
  refine x_seq ?_
  refine xs_plain (E := EE []) ?_
  refine lx_move rfl rfl rfl ?_
  refine lx_len rfl (fun _ => len_slice Tryz.underlying22 _ _ _ _) rfl rfl ?_
  refine lx_binB true rfl rfl (fun _ => rfl) (fun _ => bin_gtr_i _ _ _) (decide_eq_true (by omega)) rfl rfl ?_
  refine lx_nil ?_
  refine x_true rfl ?_
  refine xs_plain (E := EE []) ?_
  refine lx_assign rfl rfl rfl ?_
  refine lx_nil ?_
  refine x_ret ?_
  repeat (first | refine kseq_ret ?_ | refine kblk_ret ?_)
  exact kret_tmp rfl rfl (fun w hw => ⟨rfl, hp_below hw⟩)
theorem flags_W1 (e : Option Addr) (cap : Nat) (bs : List (BitVec 8)) (fl : BitVec 8) (hL : bs.length ≤ 8) (p : J1.GP) (hM : ∀ w', Gt w' → BytesAt w' e bs → Calls Tryz.prog 20 [J1.PtV J1.gGen, .slice e bs.length cap].toArray w' (fun r w'' => r = .returned (J1.PtV p) ∧ Grow w' w'')) (b : BitVec 8) (hb : ((EN1 p.P).getD 0 0 &&& 31#8) ||| (fl &&& 224#8) = b) (hD : D1 ((EN1 p.P).set 0 b) 0 p.P) (h1 : b = (EN1 p.P).getD 0 0) (w : World) (hw : Gt w) (hby : BytesAt w e bs) : Calls Tryz.prog 6 [.slice e bs.length cap, U8 fl].toArray w (fun r w' => r = .returned (.bool true) ∧ Grow w w') := by
  have hGF : BOk Gt (pl w) := gt_low.plain hw
  refine calls_of_X (G := Gt) Tryz.func6 rfl rfl (Hp (pl w) []) (hp_refl (pl w) trivial rides_true) (good_hp hGF) ?_
  refine xs_plain (E := EE []) ?_
  refine lx_assign rfl rfl rfl ?_
  refine lx_nil ?_
  refine x_seq ?_
  refine xs_plain (E := EE []) ?_
  refine lx_call rfl rfl ent8 known10 rfl rfl ?_
  refine lx_un rfl (fun _ => un_not _) rfl rfl ?_
  refine lx_nil ?_
  refine x_false rfl ?_
  refine x_skip ?_
  refine x_seq ?_
  refine xs_plain (E := EE []) ?_
  refine lx_move rfl rfl rfl ?_
  refine lx_len rfl (fun _ => len_slice Tryz.underlying22 _ _ _ _) rfl rfl ?_
  refine lx_binB false rfl rfl (fun _ => rfl) (fun _ => bin_gtr_i _ _ _) (decide_eq_false (by omega)) rfl rfl ?_
  refine lx_nil ?_
  refine x_false rfl ?_
  refine x_skip ?_
  refine xs_plain (E := EE []) ?_
  refine lx_call rfl rfl ent19 (J1.gen_p) rfl rfl ?_
  refine lx_move rfl rfl rfl ?_
  refine lx_callC rfl rfl ent20 (fun w' hC hG => hM w' hG (hby.grow (hp_below hC))) rfl rfl ?_
  refine lx_allocr 5 hGF J1.zv30 rfl rfl ?_
  intro b5
  refine lx_storea 5 hGF rfl rfl rfl Tryz.sizeOf30 (by simp) (by simp) (one_u64 _) rfl ?_
  refine lx_nil ?_
  refine xs_plain (E := EE []) ?_
  refine lx_loada 5 rfl rfl Tryz.isAgg30 Tryz.sizeOf30 (by simp) rfl rfl ?_
  refine lx_call rfl rfl ent15 (enc1_p p) rfl rfl ?_
  refine lx_allocr 6 hGF zv46 rfl rfl ?_
  intro b6
  refine lx_storea 6 hGF rfl rfl rfl Tryz.sizeOf46 (by simp) (by simp) (one_u8 _) rfl ?_
  refine lx_nil ?_
  refine xs_plain (E := EE []) ?_
  refine lx_ia0 0 rfl rfl Tryz.underlying46 Tryz.sizeOf5 (by decide) (by decide) rfl rfl ?_
  refine lx_loadm 6 U8 0 rfl rfl Tryz.isAgg5 (by simp) rfl rfl ?_
  refine lx_assign rfl rfl rfl ?_
  refine lx_nil ?_
  refine xs_plain (E := EE []) ?_
  refine lx_ia0 0 rfl rfl Tryz.underlying46 Tryz.sizeOf5 (by decide) (by decide) rfl rfl ?_
  refine lx_loadm 6 U8 0 rfl rfl Tryz.isAgg5 (by simp) rfl rfl ?_
  refine lx_bin (v := U8 ((EN1 p.P).getD 0 0 &&& 31#8)) rfl rfl (fun _ => rfl) (fun _ => bin_and_u8 _ _ 31#8) rfl rfl ?_
  refine lx_move rfl rfl rfl ?_
  refine lx_bin (v := U8 (fl &&& 224#8)) rfl rfl (fun _ => rfl) (fun _ => bin_and_u8 _ _ 224#8) rfl rfl ?_
  refine lx_bin (v := U8 b) rfl rfl (fun _ => rfl) (fun _ => (bin_or_u8 _ _ _).trans (by rw [hb])) rfl rfl ?_
  refine lx_ia0 0 rfl rfl Tryz.underlying46 Tryz.sizeOf5 (by decide) (by decide) rfl rfl ?_
  refine lx_storem 6 U8 hGF rfl rfl rfl Tryz.sizeOf5 rfl (by simp) rfl ?_
  refine lx_nil ?_
  refine xs_plain (E := EE []) ?_
  refine lx_slarr1 (l := 0) (h' := 48) rfl Tryz.underlying46 Tryz.sizeOf5 rfl rfl (by decide) (by decide) rfl rfl ?_
  refine lx_callC rfl rfl ent10 (fun w' hC hG => dec1_p _ 48 48 ((EN1 p.P).set 0 b) (by simp) 0 p.P hD (by decide) w' hG (BytesAt.range (hp_row (n := 6) rfl w' hC))) rfl rfl ?_
  refine lx_move rfl rfl rfl ?_
  refine lx_ext rfl rfl rfl rfl ?_
  refine lx_ext rfl rfl rfl rfl ?_
  refine lx_allocr 8 hGF J1.zv30 rfl rfl ?_
  intro b8
  refine lx_storea 8 hGF rfl rfl rfl Tryz.sizeOf30 (by simp) (by simp) (one_u64 _) rfl ?_
  refine lx_assign rfl rfl rfl ?_
  refine lx_nil ?_
  refine x_seq ?_
  refine x_block ?_
  refine xs_plain (E := EE []) ?_
  refine lx_ia0 0 rfl rfl Tryz.underlying46 Tryz.sizeOf5 (by decide) (by decide) rfl rfl ?_
  refine lx_loadm 6 U8 0 rfl rfl Tryz.isAgg5 (by simp) rfl rfl ?_
  refine lx_move rfl rfl rfl ?_
  refine lx_binB true rfl rfl (fun _ => rfl) (fun _ => bin_eql_u8 _ _ _) (beq_iff_eq.2 ((set_get (EN1_len p.P) b).trans h1)) rfl rfl ?_
  refine lx_assign rfl rfl rfl ?_
  refine lx_nil ?_
  refine x_true rfl ?_
  refine xs_plain (E := EE []) ?_
  refine lx_move rfl rfl rfl ?_
  refine lx_binB true rfl rfl (fun _ => rfl) (fun _ => bin_eql_i _ _ _) (rfl) rfl rfl ?_
  refine lx_move rfl rfl rfl ?_
  refine lx_loada 8 rfl rfl Tryz.isAgg30 Tryz.sizeOf30 (by simp) rfl rfl ?_
  refine lx_loada 5 rfl rfl Tryz.isAgg30 Tryz.sizeOf30 (by simp) rfl rfl ?_
  refine lx_callB true rfl rfl ent25 (J1.equal_p _ _) (decide_eq_true rfl) rfl rfl ?_
  refine lx_pick rfl rfl rfl rfl rfl ?_
  refine lx_assign rfl rfl rfl ?_
  refine lx_nil ?_
  refine x_ret ?_
  repeat (first | refine kseq_ret ?_ | refine kblk_ret ?_)
  exact kret_tmp rfl rfl (fun w hw => ⟨rfl, hp_below hw⟩)
theorem flags_W2 (e : Option Addr) (cap : Nat) (bs : List (BitVec 8)) (fl : BitVec 8) (hL : bs.length ≤ 8) (p : J1.GP) (hM : ∀ w', Gt w' → BytesAt w' e bs → Calls Tryz.prog 20 [J1.PtV J1.gGen, .slice e bs.length cap].toArray w' (fun r w'' => r = .returned (J1.PtV p) ∧ Grow w' w'')) (b : BitVec 8) (hb : ((EN1 p.P).getD 0 0 &&& 31#8) ||| (fl &&& 224#8) = b) (hD : D1 ((EN1 p.P).set 0 b) 0 (E1.ne p.P)) (h1 : ¬ b = (EN1 p.P).getD 0 0) (h2 : b = (EN1 p.P).getD 0 0 ^^^ 32#8) (h3 : ¬ p.P = none) (w : World) (hw : Gt w) (hby : BytesAt w e bs) : Calls Tryz.prog 6 [.slice e bs.length cap, U8 fl].toArray w (fun r w' => r = .returned (.bool true) ∧ Grow w w') := by
  have hGF : BOk Gt (pl w) := gt_low.plain hw
  refine calls_of_X (G := Gt) Tryz.func6 rfl rfl (Hp (pl w) []) (hp_refl (pl w) trivial rides_true) (good_hp hGF) ?_
  refine xs_plain (E := EE []) ?_
  refine lx_assign rfl rfl rfl ?_
  refine lx_nil ?_
  refine x_seq ?_
  refine xs_plain (E := EE []) ?_
  refine lx_call rfl rfl ent8 known10 rfl rfl ?_
  refine lx_un rfl (fun _ => un_not _) rfl rfl ?_
  refine lx_nil ?_
  refine x_false rfl ?_
  refine x_skip ?_
  refine x_seq ?_
  refine xs_plain (E := EE []) ?_
  refine lx_move rfl rfl rfl ?_
  refine lx_len rfl (fun _ => len_slice Tryz.underlying22 _ _ _ _) rfl rfl ?_
  refine lx_binB false rfl rfl (fun _ => rfl) (fun _ => bin_gtr_i _ _ _) (decide_eq_false (by omega)) rfl rfl ?_
  refine lx_nil ?_
  refine x_false rfl ?_
  refine x_skip ?_
  refine xs_plain (E := EE []) ?_
  refine lx_call rfl rfl ent19 (J1.gen_p) rfl rfl ?_
  refine lx_move rfl rfl rfl ?_
  refine lx_callC rfl rfl ent20 (fun w' hC hG => hM w' hG (hby.grow (hp_below hC))) rfl rfl ?_
  refine lx_allocr 5 hGF J1.zv30 rfl rfl ?_
  intro b5
  refine lx_storea 5 hGF rfl rfl rfl Tryz.sizeOf30 (by simp) (by simp) (one_u64 _) rfl ?_
  refine lx_nil ?_
  refine xs_plain (E := EE []) ?_
  refine lx_loada 5 rfl rfl Tryz.isAgg30 Tryz.sizeOf30 (by simp) rfl rfl ?_
  refine lx_call rfl rfl ent15 (enc1_p p) rfl rfl ?_
  refine lx_allocr 6 hGF zv46 rfl rfl ?_
  intro b6
  refine lx_storea 6 hGF rfl rfl rfl Tryz.sizeOf46 (by simp) (by simp) (one_u8 _) rfl ?_
  refine lx_nil ?_
  refine xs_plain (E := EE []) ?_
  refine lx_ia0 0 rfl rfl Tryz.underlying46 Tryz.sizeOf5 (by decide) (by decide) rfl rfl ?_
  refine lx_loadm 6 U8 0 rfl rfl Tryz.isAgg5 (by simp) rfl rfl ?_
  refine lx_assign rfl rfl rfl ?_
  refine lx_nil ?_
  refine xs_plain (E := EE []) ?_
  refine lx_ia0 0 rfl rfl Tryz.underlying46 Tryz.sizeOf5 (by decide) (by decide) rfl rfl ?_
  refine lx_loadm 6 U8 0 rfl rfl Tryz.isAgg5 (by simp) rfl rfl ?_
  refine lx_bin (v := U8 ((EN1 p.P).getD 0 0 &&& 31#8)) rfl rfl (fun _ => rfl) (fun _ => bin_and_u8 _ _ 31#8) rfl rfl ?_
  refine lx_move rfl rfl rfl ?_
  refine lx_bin (v := U8 (fl &&& 224#8)) rfl rfl (fun _ => rfl) (fun _ => bin_and_u8 _ _ 224#8) rfl rfl ?_
  refine lx_bin (v := U8 b) rfl rfl (fun _ => rfl) (fun _ => (bin_or_u8 _ _ _).trans (by rw [hb])) rfl rfl ?_
  refine lx_ia0 0 rfl rfl Tryz.underlying46 Tryz.sizeOf5 (by decide) (by decide) rfl rfl ?_
  refine lx_storem 6 U8 hGF rfl rfl rfl Tryz.sizeOf5 rfl (by simp) rfl ?_
  refine lx_nil ?_
  refine xs_plain (E := EE []) ?_
  refine lx_slarr1 (l := 0) (h' := 48) rfl Tryz.underlying46 Tryz.sizeOf5 rfl rfl (by decide) (by decide) rfl rfl ?_
  refine lx_callC rfl rfl ent10 (fun w' hC hG => dec1_p _ 48 48 ((EN1 p.P).set 0 b) (by simp) 0 (E1.ne p.P) hD (by decide) w' hG (BytesAt.range (hp_row (n := 6) rfl w' hC))) rfl rfl ?_
  refine lx_move rfl rfl rfl ?_
  refine lx_ext rfl rfl rfl rfl ?_
  refine lx_ext rfl rfl rfl rfl ?_
  refine lx_allocr 8 hGF J1.zv30 rfl rfl ?_
  intro b8
  refine lx_storea 8 hGF rfl rfl rfl Tryz.sizeOf30 (by simp) (by simp) (one_u64 _) rfl ?_
  refine lx_assign rfl rfl rfl ?_
  refine lx_nil ?_
  refine x_seq ?_
  refine x_block ?_
  refine xs_plain (E := EE []) ?_
  refine lx_ia0 0 rfl rfl Tryz.underlying46 Tryz.sizeOf5 (by decide) (by decide) rfl rfl ?_
  refine lx_loadm 6 U8 0 rfl rfl Tryz.isAgg5 (by simp) rfl rfl ?_
  refine lx_move rfl rfl rfl ?_
  refine lx_binB false rfl rfl (fun _ => rfl) (fun _ => bin_eql_u8 _ _ _) (beq_eq_false_iff_ne.2 (fun k => h1 ((set_get (EN1_len p.P) b).symm.trans k))) rfl rfl ?_
  refine lx_assign rfl rfl rfl ?_
  refine lx_nil ?_
  refine x_false rfl ?_
  refine xs_plain (E := EE []) ?_
  refine lx_ia0 0 rfl rfl Tryz.underlying46 Tryz.sizeOf5 (by decide) (by decide) rfl rfl ?_
  refine lx_loadm 6 U8 0 rfl rfl Tryz.isAgg5 (by simp) rfl rfl ?_
  refine lx_move rfl rfl rfl ?_
  refine lx_bin (v := U8 ((EN1 p.P).getD 0 0 ^^^ 32#8)) rfl rfl (fun _ => rfl) (fun _ => bin_xor_u8 _ _ 32#8) rfl rfl ?_
  refine lx_binB true rfl rfl (fun _ => rfl) (fun _ => bin_eql_u8 _ _ _) (beq_iff_eq.2 ((set_get (EN1_len p.P) b).trans h2)) rfl rfl ?_
  refine lx_move rfl rfl rfl ?_
  refine lx_loada 5 rfl rfl Tryz.isAgg30 Tryz.sizeOf30 (by simp) rfl rfl ?_
  refine lx_callB false rfl rfl ent28 (J1.isInf_p p) (decide_eq_false h3) rfl rfl ?_
  refine lx_un rfl (fun _ => un_not _) rfl rfl ?_
  refine lx_pick rfl rfl rfl rfl rfl ?_
  refine lx_assign rfl rfl rfl ?_
  refine lx_nil ?_
  refine x_true rfl ?_
  refine xs_drawn (E := EE []) mixed (by kernel_rfl) (by kernel_rfl) (by kernel_rfl) ?_
  refine lx_move rfl rfl rfl ?_
  refine lx_binB true rfl rfl (fun _ => rfl) (fun _ => bin_eql_i _ _ _) (rfl) rfl rfl ?_
  refine lx_move rfl rfl rfl ?_
  refine lx_loada 8 rfl rfl Tryz.isAgg30 Tryz.sizeOf30 (by simp) rfl rfl ?_
  refine lx_loada 5 rfl rfl Tryz.isAgg30 Tryz.sizeOf30 (by simp) rfl rfl ?_
  refine lx_call rfl rfl ent23 (J1.neg_p p) rfl rfl ?_
  refine lx_callB true rfl rfl ent25 (J1.equal_p _ _) (decide_eq_true rfl) rfl rfl ?_
  refine lx_pick rfl rfl rfl rfl rfl ?_
  refine lx_assign rfl rfl rfl ?_
  refine lx_nil ?_
  refine x_ret ?_
  repeat (first | refine kseq_ret ?_ | refine kblk_ret ?_)
  exact kret_tmp rfl rfl (fun w hw => ⟨rfl, hp_below hw⟩)
theorem flags_W3a (e : Option Addr) (cap : Nat) (bs : List (BitVec 8)) (fl : BitVec 8) (hL : bs.length ≤ 8) (p : J1.GP) (hM : ∀ w', Gt w' → BytesAt w' e bs → Calls Tryz.prog 20 [J1.PtV J1.gGen, .slice e bs.length cap].toArray w' (fun r w'' => r = .returned (J1.PtV p) ∧ Grow w' w'')) (b : BitVec 8) (hb : ((EN1 p.P).getD 0 0 &&& 31#8) ||| (fl &&& 224#8) = b) (Q : Pt Zp) (hD : D1 ((EN1 p.P).set 0 b) 101 Q) (h1 : ¬ b = (EN1 p.P).getD 0 0) (h2 : ¬ b = (EN1 p.P).getD 0 0 ^^^ 32#8) (w : World) (hw : Gt w) (hby : BytesAt w e bs) : Calls Tryz.prog 6 [.slice e bs.length cap, U8 fl].toArray w (fun r w' => r = .returned (.bool true) ∧ Grow w w') := by
  have hGF : BOk Gt (pl w) := gt_low.plain hw
  refine calls_of_X (G := Gt) Tryz.func6 rfl rfl (Hp (pl w) []) (hp_refl (pl w) trivial rides_true) (good_hp hGF) ?_
  refine xs_plain (E := EE []) ?_
  refine lx_assign rfl rfl rfl ?_
  refine lx_nil ?_
  refine x_seq ?_
  refine xs_plain (E := EE []) ?_
  refine lx_call rfl rfl ent8 known10 rfl rfl ?_
  refine lx_un rfl (fun _ => un_not _) rfl rfl ?_
  refine lx_nil ?_
  refine x_false rfl ?_
  refine x_skip ?_
  refine x_seq ?_
  refine xs_plain (E := EE []) ?_
  refine lx_move rfl rfl rfl ?_
  refine lx_len rfl (fun _ => len_slice Tryz.underlying22 _ _ _ _) rfl rfl ?_
  refine lx_binB false rfl rfl (fun _ => rfl) (fun _ => bin_gtr_i _ _ _) (decide_eq_false (by omega)) rfl rfl ?_
  refine lx_nil ?_
  refine x_false rfl ?_
  refine x_skip ?_
  refine xs_plain (E := EE []) ?_
  refine lx_call rfl rfl ent19 (J1.gen_p) rfl rfl ?_
  refine lx_move rfl rfl rfl ?_
  refine lx_callC rfl rfl ent20 (fun w' hC hG => hM w' hG (hby.grow (hp_below hC))) rfl rfl ?_
  refine lx_allocr 5 hGF J1.zv30 rfl rfl ?_
  intro b5
  refine lx_storea 5 hGF rfl rfl rfl Tryz.sizeOf30 (by simp) (by simp) (one_u64 _) rfl ?_
  refine lx_nil ?_
  refine xs_plain (E := EE []) ?_
  refine lx_loada 5 rfl rfl Tryz.isAgg30 Tryz.sizeOf30 (by simp) rfl rfl ?_
  refine lx_call rfl rfl ent15 (enc1_p p) rfl rfl ?_
  refine lx_allocr 6 hGF zv46 rfl rfl ?_
  intro b6
  refine lx_storea 6 hGF rfl rfl rfl Tryz.sizeOf46 (by simp) (by simp) (one_u8 _) rfl ?_
  refine lx_nil ?_
  refine xs_plain (E := EE []) ?_
  refine lx_ia0 0 rfl rfl Tryz.underlying46 Tryz.sizeOf5 (by decide) (by decide) rfl rfl ?_
  refine lx_loadm 6 U8 0 rfl rfl Tryz.isAgg5 (by simp) rfl rfl ?_
  refine lx_assign rfl rfl rfl ?_
  refine lx_nil ?_
  refine xs_plain (E := EE []) ?_
  refine lx_ia0 0 rfl rfl Tryz.underlying46 Tryz.sizeOf5 (by decide) (by decide) rfl rfl ?_
  refine lx_loadm 6 U8 0 rfl rfl Tryz.isAgg5 (by simp) rfl rfl ?_
  refine lx_bin (v := U8 ((EN1 p.P).getD 0 0 &&& 31#8)) rfl rfl (fun _ => rfl) (fun _ => bin_and_u8 _ _ 31#8) rfl rfl ?_
  refine lx_move rfl rfl rfl ?_
  refine lx_bin (v := U8 (fl &&& 224#8)) rfl rfl (fun _ => rfl) (fun _ => bin_and_u8 _ _ 224#8) rfl rfl ?_
  refine lx_bin (v := U8 b) rfl rfl (fun _ => rfl) (fun _ => (bin_or_u8 _ _ _).trans (by rw [hb])) rfl rfl ?_
  refine lx_ia0 0 rfl rfl Tryz.underlying46 Tryz.sizeOf5 (by decide) (by decide) rfl rfl ?_
  refine lx_storem 6 U8 hGF rfl rfl rfl Tryz.sizeOf5 rfl (by simp) rfl ?_
  refine lx_nil ?_
  refine xs_plain (E := EE []) ?_
  refine lx_slarr1 (l := 0) (h' := 48) rfl Tryz.underlying46 Tryz.sizeOf5 rfl rfl (by decide) (by decide) rfl rfl ?_
  refine lx_callC rfl rfl ent10 (fun w' hC hG => dec1_p _ 48 48 ((EN1 p.P).set 0 b) (by simp) 101 Q hD (by decide) w' hG (BytesAt.range (hp_row (n := 6) rfl w' hC))) rfl rfl ?_
  refine lx_move rfl rfl rfl ?_
  refine lx_ext rfl rfl rfl rfl ?_
  refine lx_ext rfl rfl rfl rfl ?_
  refine lx_allocr 8 hGF J1.zv30 rfl rfl ?_
  intro b8
  refine lx_storea 8 hGF rfl rfl rfl Tryz.sizeOf30 (by simp) (by simp) (one_u64 _) rfl ?_
  refine lx_assign rfl rfl rfl ?_
  refine lx_nil ?_
  refine x_seq ?_
  refine x_block ?_
  refine xs_plain (E := EE []) ?_
  refine lx_ia0 0 rfl rfl Tryz.underlying46 Tryz.sizeOf5 (by decide) (by decide) rfl rfl ?_
  refine lx_loadm 6 U8 0 rfl rfl Tryz.isAgg5 (by simp) rfl rfl ?_
  refine lx_move rfl rfl rfl ?_
  refine lx_binB false rfl rfl (fun _ => rfl) (fun _ => bin_eql_u8 _ _ _) (beq_eq_false_iff_ne.2 (fun k => h1 ((set_get (EN1_len p.P) b).symm.trans k))) rfl rfl ?_
  refine lx_assign rfl rfl rfl ?_
  refine lx_nil ?_
  refine x_false rfl ?_
  refine xs_plain (E := EE []) ?_
  refine lx_ia0 0 rfl rfl Tryz.underlying46 Tryz.sizeOf5 (by decide) (by decide) rfl rfl ?_
  refine lx_loadm 6 U8 0 rfl rfl Tryz.isAgg5 (by simp) rfl rfl ?_
  refine lx_move rfl rfl rfl ?_
  refine lx_bin (v := U8 ((EN1 p.P).getD 0 0 ^^^ 32#8)) rfl rfl (fun _ => rfl) (fun _ => bin_xor_u8 _ _ 32#8) rfl rfl ?_
  refine lx_binB false rfl rfl (fun _ => rfl) (fun _ => bin_eql_u8 _ _ _) (beq_eq_false_iff_ne.2 (fun k => h2 ((set_get (EN1_len p.P) b).symm.trans k))) rfl rfl ?_
  refine lx_move rfl rfl rfl ?_
  refine lx_skip rfl rfl rfl ?_
  refine lx_skip rfl rfl rfl ?_
  refine lx_skip rfl rfl rfl ?_
  refine lx_pick rfl rfl rfl rfl rfl ?_
  refine lx_assign rfl rfl rfl ?_
  refine lx_nil ?_
  refine x_false rfl ?_
  refine x_skip ?_
  refine xs_plain (E := EE []) ?_
  refine lx_move rfl rfl rfl ?_
  refine lx_binB true rfl rfl (fun _ => rfl) (fun _ => bin_eql_i _ _ _) (rfl) rfl rfl ?_
  refine lx_move rfl rfl rfl ?_
  refine lx_skip rfl rfl rfl ?_
  refine lx_skip rfl rfl rfl ?_
  refine lx_skip rfl rfl rfl ?_
  refine lx_skip rfl rfl rfl ?_
  refine lx_skip rfl rfl rfl ?_
  refine lx_skip rfl rfl rfl ?_
  refine lx_skip rfl rfl rfl ?_
  refine lx_skip rfl rfl rfl ?_
  refine lx_skip rfl rfl rfl ?_
  refine lx_skip rfl rfl rfl ?_
  refine lx_skip rfl rfl rfl ?_
  refine lx_skip rfl rfl rfl ?_
  refine lx_pick rfl rfl rfl rfl rfl ?_
  refine lx_assign rfl rfl rfl ?_
  refine lx_nil ?_
  refine x_ret ?_
  repeat (first | refine kseq_ret ?_ | refine kblk_ret ?_)
  exact kret_tmp rfl rfl (fun w hw => ⟨rfl, hp_below hw⟩)
theorem flags_W3b (e : Option Addr) (cap : Nat) (bs : List (BitVec 8)) (fl : BitVec 8) (hL : bs.length ≤ 8) (p : J1.GP) (hM : ∀ w', Gt w' → BytesAt w' e bs → Calls Tryz.prog 20 [J1.PtV J1.gGen, .slice e bs.length cap].toArray w' (fun r w'' => r = .returned (J1.PtV p) ∧ Grow w' w'')) (b : BitVec 8) (hb : ((EN1 p.P).getD 0 0 &&& 31#8) ||| (fl &&& 224#8) = b) (Q : Pt Zp) (hD : D1 ((EN1 p.P).set 0 b) 101 Q) (h1 : ¬ b = (EN1 p.P).getD 0 0) (h2 : b = (EN1 p.P).getD 0 0 ^^^ 32#8) (h3 : p.P = none) (w : World) (hw : Gt w) (hby : BytesAt w e bs) : Calls Tryz.prog 6 [.slice e bs.length cap, U8 fl].toArray w (fun r w' => r = .returned (.bool true) ∧ Grow w w') := by
  have hGF : BOk Gt (pl w) := gt_low.plain hw
  refine calls_of_X (G := Gt) Tryz.func6 rfl rfl (Hp (pl w) []) (hp_refl (pl w) trivial rides_true) (good_hp hGF) ?_
  refine xs_plain (E := EE []) ?_
  refine lx_assign rfl rfl rfl ?_
  refine lx_nil ?_
  refine x_seq ?_
  refine xs_plain (E := EE []) ?_
  refine lx_call rfl rfl ent8 known10 rfl rfl ?_
  refine lx_un rfl (fun _ => un_not _) rfl rfl ?_
  refine lx_nil ?_
  refine x_false rfl ?_
  refine x_skip ?_
  refine x_seq ?_
  refine xs_plain (E := EE []) ?_
  refine lx_move rfl rfl rfl ?_
  refine lx_len rfl (fun _ => len_slice Tryz.underlying22 _ _ _ _) rfl rfl ?_
  refine lx_binB false rfl rfl (fun _ => rfl) (fun _ => bin_gtr_i _ _ _) (decide_eq_false (by omega)) rfl rfl ?_
  refine lx_nil ?_
  refine x_false rfl ?_
  refine x_skip ?_
  refine xs_plain (E := EE []) ?_
  refine lx_call rfl rfl ent19 (J1.gen_p) rfl rfl ?_
  refine lx_move rfl rfl rfl ?_
  refine lx_callC rfl rfl ent20 (fun w' hC hG => hM w' hG (hby.grow (hp_below hC))) rfl rfl ?_
  refine lx_allocr 5 hGF J1.zv30 rfl rfl ?_
  intro b5
  refine lx_storea 5 hGF rfl rfl rfl Tryz.sizeOf30 (by simp) (by simp) (one_u64 _) rfl ?_
  refine lx_nil ?_
  refine xs_plain (E := EE []) ?_
  refine lx_loada 5 rfl rfl Tryz.isAgg30 Tryz.sizeOf30 (by simp) rfl rfl ?_
  refine lx_call rfl rfl ent15 (enc1_p p) rfl rfl ?_
  refine lx_allocr 6 hGF zv46 rfl rfl ?_
  intro b6
  refine lx_storea 6 hGF rfl rfl rfl Tryz.sizeOf46 (by simp) (by simp) (one_u8 _) rfl ?_
  refine lx_nil ?_
  refine xs_plain (E := EE []) ?_
  refine lx_ia0 0 rfl rfl Tryz.underlying46 Tryz.sizeOf5 (by decide) (by decide) rfl rfl ?_
  refine lx_loadm 6 U8 0 rfl rfl Tryz.isAgg5 (by simp) rfl rfl ?_
  refine lx_assign rfl rfl rfl ?_
  refine lx_nil ?_
  refine xs_plain (E := EE []) ?_
  refine lx_ia0 0 rfl rfl Tryz.underlying46 Tryz.sizeOf5 (by decide) (by decide) rfl rfl ?_
  refine lx_loadm 6 U8 0 rfl rfl Tryz.isAgg5 (by simp) rfl rfl ?_
  refine lx_bin (v := U8 ((EN1 p.P).getD 0 0 &&& 31#8)) rfl rfl (fun _ => rfl) (fun _ => bin_and_u8 _ _ 31#8) rfl rfl ?_
  refine lx_move rfl rfl rfl ?_
  refine lx_bin (v := U8 (fl &&& 224#8)) rfl rfl (fun _ => rfl) (fun _ => bin_and_u8 _ _ 224#8) rfl rfl ?_
  refine lx_bin (v := U8 b) rfl rfl (fun _ => rfl) (fun _ => (bin_or_u8 _ _ _).trans (by rw [hb])) rfl rfl ?_
  refine lx_ia0 0 rfl rfl Tryz.underlying46 Tryz.sizeOf5 (by decide) (by decide) rfl rfl ?_
  refine lx_storem 6 U8 hGF rfl rfl rfl Tryz.sizeOf5 rfl (by simp) rfl ?_
  refine lx_nil ?_
  refine xs_plain (E := EE []) ?_
  refine lx_slarr1 (l := 0) (h' := 48) rfl Tryz.underlying46 Tryz.sizeOf5 rfl rfl (by decide) (by decide) rfl rfl ?_
  refine lx_callC rfl rfl ent10 (fun w' hC hG => dec1_p _ 48 48 ((EN1 p.P).set 0 b) (by simp) 101 Q hD (by decide) w' hG (BytesAt.range (hp_row (n := 6) rfl w' hC))) rfl rfl ?_
  refine lx_move rfl rfl rfl ?_
  refine lx_ext rfl rfl rfl rfl ?_
  refine lx_ext rfl rfl rfl rfl ?_
  refine lx_allocr 8 hGF J1.zv30 rfl rfl ?_
  intro b8
  refine lx_storea 8 hGF rfl rfl rfl Tryz.sizeOf30 (by simp) (by simp) (one_u64 _) rfl ?_
  refine lx_assign rfl rfl rfl ?_
  refine lx_nil ?_
  refine x_seq ?_
  refine x_block ?_
  refine xs_plain (E := EE []) ?_
  refine lx_ia0 0 rfl rfl Tryz.underlying46 Tryz.sizeOf5 (by decide) (by decide) rfl rfl ?_
  refine lx_loadm 6 U8 0 rfl rfl Tryz.isAgg5 (by simp) rfl rfl ?_
  refine lx_move rfl rfl rfl ?_
  refine lx_binB false rfl rfl (fun _ => rfl) (fun _ => bin_eql_u8 _ _ _) (beq_eq_false_iff_ne.2 (fun k => h1 ((set_get (EN1_len p.P) b).symm.trans k))) rfl rfl ?_
  refine lx_assign rfl rfl rfl ?_
  refine lx_nil ?_
  refine x_false rfl ?_
  refine xs_plain (E := EE []) ?_
  refine lx_ia0 0 rfl rfl Tryz.underlying46 Tryz.sizeOf5 (by decide) (by decide) rfl rfl ?_
  refine lx_loadm 6 U8 0 rfl rfl Tryz.isAgg5 (by simp) rfl rfl ?_
  refine lx_move rfl rfl rfl ?_
  refine lx_bin (v := U8 ((EN1 p.P).getD 0 0 ^^^ 32#8)) rfl rfl (fun _ => rfl) (fun _ => bin_xor_u8 _ _ 32#8) rfl rfl ?_
  refine lx_binB true rfl rfl (fun _ => rfl) (fun _ => bin_eql_u8 _ _ _) (beq_iff_eq.2 ((set_get (EN1_len p.P) b).trans h2)) rfl rfl ?_
  refine lx_move rfl rfl rfl ?_
  refine lx_loada 5 rfl rfl Tryz.isAgg30 Tryz.sizeOf30 (by simp) rfl rfl ?_
  refine lx_callB true rfl rfl ent28 (J1.isInf_p p) (decide_eq_true h3) rfl rfl ?_
  refine lx_un rfl (fun _ => un_not _) rfl rfl ?_
  refine lx_pick rfl rfl rfl rfl rfl ?_
  refine lx_assign rfl rfl rfl ?_
  refine lx_nil ?_
  refine x_false rfl ?_
  refine x_skip ?_
  refine xs_plain (E := EE []) ?_
  refine lx_move rfl rfl rfl ?_
  refine lx_binB true rfl rfl (fun _ => rfl) (fun _ => bin_eql_i _ _ _) (rfl) rfl rfl ?_
  refine lx_move rfl rfl rfl ?_
  refine lx_skip rfl rfl rfl ?_
  refine lx_skip rfl rfl rfl ?_
  refine lx_skip rfl rfl rfl ?_
  refine lx_skip rfl rfl rfl ?_
  refine lx_skip rfl rfl rfl ?_
  refine lx_skip rfl rfl rfl ?_
  refine lx_skip rfl rfl rfl ?_
  refine lx_skip rfl rfl rfl ?_
  refine lx_skip rfl rfl rfl ?_
  refine lx_skip rfl rfl rfl ?_
  refine lx_skip rfl rfl rfl ?_
  refine lx_skip rfl rfl rfl ?_
  refine lx_pick rfl rfl rfl rfl rfl ?_
  refine lx_assign rfl rfl rfl ?_
  refine lx_nil ?_
  refine x_ret ?_
  repeat (first | refine kseq_ret ?_ | refine kblk_ret ?_)
  exact kret_tmp rfl rfl (fun w hw => ⟨rfl, hp_below hw⟩)
theorem flags_W4 (e : Option Addr) (cap : Nat) (bs : List (BitVec 8)) (fl : BitVec 8) (hL : bs.length ≤ 8) (p : J1.GP) (hM : ∀ w', Gt w' → BytesAt w' e bs → Calls Tryz.prog 20 [J1.PtV J1.gGen, .slice e bs.length cap].toArray w' (fun r w'' => r = .returned (J1.PtV p) ∧ Grow w' w'')) (b : BitVec 8) (hb : ((EN1 p.P).getD 0 0 &&& 31#8) ||| (fl &&& 224#8) = b) (Q : Pt Zp) (hD : D1 ((EN1 p.P).set 0 b) 104 Q) (h1 : ¬ b = (EN1 p.P).getD 0 0) (h2 : ¬ b = (EN1 p.P).getD 0 0 ^^^ 32#8) (h3 : p.P = none) (h4 : b &&& 192#8 = 128#8) (w : World) (hw : Gt w) (hby : BytesAt w e bs) : Calls Tryz.prog 6 [.slice e bs.length cap, U8 fl].toArray w (fun r w' => r = .returned (.bool true) ∧ Grow w w') := by
  have hGF : BOk Gt (pl w) := gt_low.plain hw
  refine calls_of_X (G := Gt) Tryz.func6 rfl rfl (Hp (pl w) []) (hp_refl (pl w) trivial rides_true) (good_hp hGF) ?_
  refine xs_plain (E := EE []) ?_
  refine lx_assign rfl rfl rfl ?_
  refine lx_nil ?_
  refine x_seq ?_
  refine xs_plain (E := EE []) ?_
  refine lx_call rfl rfl ent8 known10 rfl rfl ?_
  refine lx_un rfl (fun _ => un_not _) rfl rfl ?_
  refine lx_nil ?_
  refine x_false rfl ?_
  refine x_skip ?_
  refine x_seq ?_
  refine xs_plain (E := EE []) ?_
  refine lx_move rfl rfl rfl ?_
  refine lx_len rfl (fun _ => len_slice Tryz.underlying22 _ _ _ _) rfl rfl ?_
  refine lx_binB false rfl rfl (fun _ => rfl) (fun _ => bin_gtr_i _ _ _) (decide_eq_false (by omega)) rfl rfl ?_
  refine lx_nil ?_
  refine x_false rfl ?_
  refine x_skip ?_
  refine xs_plain (E := EE []) ?_
  refine lx_call rfl rfl ent19 (J1.gen_p) rfl rfl ?_
  refine lx_move rfl rfl rfl ?_
  refine lx_callC rfl rfl ent20 (fun w' hC hG => hM w' hG (hby.grow (hp_below hC))) rfl rfl ?_
  refine lx_allocr 5 hGF J1.zv30 rfl rfl ?_
  intro b5
  refine lx_storea 5 hGF rfl rfl rfl Tryz.sizeOf30 (by simp) (by simp) (one_u64 _) rfl ?_
  refine lx_nil ?_
  refine xs_plain (E := EE []) ?_
  refine lx_loada 5 rfl rfl Tryz.isAgg30 Tryz.sizeOf30 (by simp) rfl rfl ?_
  refine lx_call rfl rfl ent15 (enc1_p p) rfl rfl ?_
  refine lx_allocr 6 hGF zv46 rfl rfl ?_
  intro b6
  refine lx_storea 6 hGF rfl rfl rfl Tryz.sizeOf46 (by simp) (by simp) (one_u8 _) rfl ?_
  refine lx_nil ?_
  refine xs_plain (E := EE []) ?_
  refine lx_ia0 0 rfl rfl Tryz.underlying46 Tryz.sizeOf5 (by decide) (by decide) rfl rfl ?_
  refine lx_loadm 6 U8 0 rfl rfl Tryz.isAgg5 (by simp) rfl rfl ?_
  refine lx_assign rfl rfl rfl ?_
  refine lx_nil ?_
  refine xs_plain (E := EE []) ?_
  refine lx_ia0 0 rfl rfl Tryz.underlying46 Tryz.sizeOf5 (by decide) (by decide) rfl rfl ?_
  refine lx_loadm 6 U8 0 rfl rfl Tryz.isAgg5 (by simp) rfl rfl ?_
  refine lx_bin (v := U8 ((EN1 p.P).getD 0 0 &&& 31#8)) rfl rfl (fun _ => rfl) (fun _ => bin_and_u8 _ _ 31#8) rfl rfl ?_
  refine lx_move rfl rfl rfl ?_
  refine lx_bin (v := U8 (fl &&& 224#8)) rfl rfl (fun _ => rfl) (fun _ => bin_and_u8 _ _ 224#8) rfl rfl ?_
  refine lx_bin (v := U8 b) rfl rfl (fun _ => rfl) (fun _ => (bin_or_u8 _ _ _).trans (by rw [hb])) rfl rfl ?_
  refine lx_ia0 0 rfl rfl Tryz.underlying46 Tryz.sizeOf5 (by decide) (by decide) rfl rfl ?_
  refine lx_storem 6 U8 hGF rfl rfl rfl Tryz.sizeOf5 rfl (by simp) rfl ?_
  refine lx_nil ?_
  refine xs_plain (E := EE []) ?_
  refine lx_slarr1 (l := 0) (h' := 48) rfl Tryz.underlying46 Tryz.sizeOf5 rfl rfl (by decide) (by decide) rfl rfl ?_
  refine lx_callC rfl rfl ent10 (fun w' hC hG => dec1_p _ 48 48 ((EN1 p.P).set 0 b) (by simp) 104 Q hD (by decide) w' hG (BytesAt.range (hp_row (n := 6) rfl w' hC))) rfl rfl ?_
  refine lx_move rfl rfl rfl ?_
  refine lx_ext rfl rfl rfl rfl ?_
  refine lx_ext rfl rfl rfl rfl ?_
  refine lx_allocr 8 hGF J1.zv30 rfl rfl ?_
  intro b8
  refine lx_storea 8 hGF rfl rfl rfl Tryz.sizeOf30 (by simp) (by simp) (one_u64 _) rfl ?_
  refine lx_assign rfl rfl rfl ?_
  refine lx_nil ?_
  refine x_seq ?_
  refine x_block ?_
  refine xs_plain (E := EE []) ?_
  refine lx_ia0 0 rfl rfl Tryz.underlying46 Tryz.sizeOf5 (by decide) (by decide) rfl rfl ?_
  refine lx_loadm 6 U8 0 rfl rfl Tryz.isAgg5 (by simp) rfl rfl ?_
  refine lx_move rfl rfl rfl ?_
  refine lx_binB false rfl rfl (fun _ => rfl) (fun _ => bin_eql_u8 _ _ _) (beq_eq_false_iff_ne.2 (fun k => h1 ((set_get (EN1_len p.P) b).symm.trans k))) rfl rfl ?_
  refine lx_assign rfl rfl rfl ?_
  refine lx_nil ?_
  refine x_false rfl ?_
  refine xs_plain (E := EE []) ?_
  refine lx_ia0 0 rfl rfl Tryz.underlying46 Tryz.sizeOf5 (by decide) (by decide) rfl rfl ?_
  refine lx_loadm 6 U8 0 rfl rfl Tryz.isAgg5 (by simp) rfl rfl ?_
  refine lx_move rfl rfl rfl ?_
  refine lx_bin (v := U8 ((EN1 p.P).getD 0 0 ^^^ 32#8)) rfl rfl (fun _ => rfl) (fun _ => bin_xor_u8 _ _ 32#8) rfl rfl ?_
  refine lx_binB false rfl rfl (fun _ => rfl) (fun _ => bin_eql_u8 _ _ _) (beq_eq_false_iff_ne.2 (fun k => h2 ((set_get (EN1_len p.P) b).symm.trans k))) rfl rfl ?_
  refine lx_move rfl rfl rfl ?_
  refine lx_skip rfl rfl rfl ?_
  refine lx_skip rfl rfl rfl ?_
  refine lx_skip rfl rfl rfl ?_
  refine lx_pick rfl rfl rfl rfl rfl ?_
  refine lx_assign rfl rfl rfl ?_
  refine lx_nil ?_
  refine x_false rfl ?_
  refine x_skip ?_
  refine xs_plain (E := EE []) ?_
  refine lx_move rfl rfl rfl ?_
  refine lx_binB false rfl rfl (fun _ => rfl) (fun _ => bin_eql_i _ _ _) (rfl) rfl rfl ?_
  refine lx_move rfl rfl rfl ?_
  refine lx_loada 5 rfl rfl Tryz.isAgg30 Tryz.sizeOf30 (by simp) rfl rfl ?_
  refine lx_callB true rfl rfl ent28 (J1.isInf_p p) (decide_eq_true h3) rfl rfl ?_
  refine lx_move rfl rfl rfl ?_
  refine lx_ia0 0 rfl rfl Tryz.underlying46 Tryz.sizeOf5 (by decide) (by decide) rfl rfl ?_
  refine lx_loadm 6 U8 0 rfl rfl Tryz.isAgg5 (by simp) rfl rfl ?_
  refine lx_bin (v := U8 (b &&& 192#8)) rfl rfl (fun _ => rfl) (fun _ => (bin_and_u8 _ _ 192#8).trans (by rw [(set_get (EN1_len p.P) b)])) rfl rfl ?_
  refine lx_binB true rfl rfl (fun _ => rfl) (fun _ => bin_eql_u8 _ _ 128#8) (beq_iff_eq.2 h4) rfl rfl ?_
  refine lx_pick rfl rfl rfl rfl rfl ?_
  refine lx_move rfl rfl rfl ?_
  refine lx_move rfl rfl rfl ?_
  refine lx_binB true rfl rfl (fun _ => rfl) (fun _ => bin_eql_i _ _ _) (rfl) rfl rfl ?_
  refine lx_pick rfl rfl rfl rfl rfl ?_
  refine lx_pick rfl rfl rfl rfl rfl ?_
  refine lx_assign rfl rfl rfl ?_
  refine lx_nil ?_
  refine x_ret ?_
  repeat (first | refine kseq_ret ?_ | refine kblk_ret ?_)
  exact kret_tmp rfl rfl (fun w hw => ⟨rfl, hp_below hw⟩)
theorem flags_law (e : Option Addr) (cap : Nat) (bs : List (BitVec 8)) (fl : BitVec 8) (w : World) (hw : Gt w) (hby : BytesAt w e bs) : Calls Tryz.prog 6 [.slice e bs.length cap, U8 fl].toArray w (fun r w' => r = .returned (.bool true) ∧ Grow w w') := by
  by_cases hL : bs.length ≤ 8
  · obtain ⟨p, ho, hM⟩ : ∃ p : J1.GP, E1.times p.P ORD = none ∧ ∀ w', Gt w' → BytesAt w' e bs → Calls Tryz.prog 20 [J1.PtV J1.gGen, .slice e bs.length cap].toArray w' (fun r w'' => r = .returned (J1.PtV p) ∧ Grow w' w'') := ⟨_, ord1_mul bs, fun w' hG hB => J1.mul_c J1.gGen e cap bs (by omega) w' hG hB⟩
    obtain ⟨c, Q, hD, h⟩ := flg_all p.on ho fl
    obtain ⟨b, hb⟩ : ∃ b, ((EN1 p.P).getD 0 0 &&& 31#8) ||| (fl &&& 224#8) = b := ⟨_, rfl⟩
    rw [hb] at hD h
    rcases h with ⟨h1, rfl, rfl⟩ | ⟨h1, h2, h3, rfl, rfl⟩ | ⟨h1, h2, rfl⟩ | ⟨h1, h2, h3, rfl⟩ | ⟨h1, h2, h3, h4, rfl⟩
    · exact flags_W1 e cap bs fl hL p hM b hb hD h1 w hw hby
    · exact flags_W2 e cap bs fl hL p hM b hb hD h1 h2 h3 w hw hby
    · exact flags_W3a e cap bs fl hL p hM b hb Q hD h1 h2 w hw hby
    · exact flags_W3b e cap bs fl hL p hM b hb Q hD h1 h2 h3 w hw hby
    · exact flags_W4 e cap bs fl hL p hM b hb Q hD h1 h2 h3 h4 w hw hby
  · exact flags_big e cap bs fl hL w hw
end Go.Proofs.YtamddkjccmhgaaaGreatDoor
