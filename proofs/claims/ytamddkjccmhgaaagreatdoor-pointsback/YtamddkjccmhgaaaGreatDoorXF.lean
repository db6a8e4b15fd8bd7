/-
  The reference's Decode.
  The reference's Encode.
  The document's decoding as a relation of bytes, an answer's number and a point; the reference's Decode answers so.
  Points as bytes: what is written is read, and what is read is written so. Nothing here names a program.
  Points as bytes, both groups: what is written is read, and what is read is written so. Nothing here names a program.
  Helps of the laws: bytes held against one another, copies; the reference's Encode of a point.
-/
import Derived.Test.YtamddkjccmhgaaaGreatDoorXE
import Derived.Test.YtamddkjccmhgaaaGreatDoorX2
import Derived.Test.YtamddkjccmhgaaaGreatDoorX3
namespace Go.Proofs.YtamddkjccmhgaaaGreatDoor
open Go.RowKit
set_option maxRecDepth 100000
set_option maxHeartbeats 1000000
attribute [local simp] fe_len nm_len AS_len SS_len MONT_len RM_len FRs_len BYs_len by48_len PLl TWOl ONEl N1l IVPl HFPl RTPl FL_len SP_len fe2_len SP2_len FM_len J1.GL_len J2.GL_len

theorem ent27 : Enters Tryz.prog 27 := fun _ _ => by kernel_rfl
theorem ti5 : TI Tryz.prog 5 (.int .u8 0) 1 1 := ti_mk (by kernel_rfl)
/-- The flags; the bytes without them. -/
def FG (bs : List (BitVec 8)) : BitVec 8 := bs.getD 0 0 &&& 224#8
def MK (bs : List (BitVec 8)) : List (BitVec 8) := bs.set 0 (bs.getD 0 0 &&& 31#8)
theorem MK_len (bs : List (BitVec 8)) : (MK bs).length = bs.length := by simp [MK]
attribute [local simp] MK_len
theorem bytes_pre {w : World} {b : Nat} {c : List Value} {xs : List (BitVec 8)} (h : w.rangeAt b 0 c) (ht : c.take xs.length = xs.map U8) : BytesAt w (some ⟨b, 0, none⟩) xs := J2.bytes_pre h ht
/-- With the flag of the infinite point: what is answered. -/
def INF (bs : List (BitVec 8)) (n : Nat) : Int := if (∀ j, j < n → (MK bs).getD j 0 = 0#8) ∧ FG bs &&& 32#8 = 0#8 then 0 else 101
def LO (bs : List (BitVec 8)) (l : Nat) : List (BitVec 8) := ((MK bs).drop l).take 48
theorem LO_len {bs : List (BitVec 8)} {l : Nat} (h : l + 48 ≤ bs.length) : (LO bs l).length = 48 := by
  rw [LO, List.length_take, List.length_drop, MK_len]; omega
end Go.Proofs.YtamddkjccmhgaaaGreatDoor

namespace Go.Proofs.YtamddkjccmhgaaaGreatDoor
open Go.RowKit
set_option maxRecDepth 100000
set_option maxHeartbeats 1000000
attribute [local simp] fe_len nm_len AS_len SS_len MONT_len RM_len FRs_len BYs_len by48_len PLl TWOl ONEl N1l IVPl HFPl RTPl FL_len SP_len fe2_len SP2_len FM_len J1.GL_len J2.GL_len MK_len

theorem r9xy (a b : W2) : Pure Tryz.prog Gt 77 [EV6 (a, b, on2)] (.tuple #[EV2 a, EV2 b]) := by
  intro w hw
  have hGF : BOk Gt (pl w) := gt_low.plain hw
  refine calls_of_X (G := Gt) Tryz.func77 rfl rfl (Hp (pl w) []) (hp_refl (pl w) trivial rides_true) (good_hp hGF) ?_
  refine xs_plain (E := EE []) ?_
  refine lx_boxr 1 hGF rfl rfl rfl ?_
  intro b1
  refine lx_allocr 2 hGF zv38 rfl rfl ?_
  intro b2
  refine lx_allocr 3 hGF zv38 rfl rfl ?_
  intro b3
  refine lx_nil ?_
  refine x_seq ?_
  refine xs_drawn (E := EE []) mixed (by kernel_rfl) (by kernel_rfl) (by kernel_rfl) ?_
  refine lx_fak 24 rfl Tryz.underlying40 rfl Tryz.sizeOf38 (by decide) rfl rfl rfl ?_
  refine lx_loado 1 _ rfl rfl Tryz.isAgg38 Tryz.sizeOf38 (by simp) (ld_rr (m := 12) (n := 12) (by simp) (by simp) rfl) rfl rfl ?_
  refine lx_call rfl rfl ent103 (r5one) rfl rfl ?_
  refine lx_binB true rfl rfl (fun _ => eqg38 _ _ _ _ _ _) (fun w => eqv38 _ _ (by simp) (by simp) w) (decide_eq_true rfl) rfl rfl ?_
  refine lx_nil ?_
  refine x_true rfl ?_
  refine xs_drawK (E := EE []) (fun X => X = Hp (pl w) [(1, b1, ((fe (a).1 ++ fe (a).2) ++ ((fe (b).1 ++ fe (b).2) ++ (fe (on2).1 ++ fe (on2).2))).map U64, 40)]) (mkB [2]) (rkB [13]) [0, 1, 2, 3, 4, 5] mixed rfl (by kernel_rfl) (by kernel_rfl) (by kernel_rfl) ?_
  refine lxk_s rfl rfl ?_
  refine lx_fak 0 rfl Tryz.underlying40 rfl Tryz.sizeOf38 (by decide) rfl rfl rfl ?_
  refine lx_nil ?_
  refine lxk_s rfl rfl ?_
  refine lx_loado 1 _ rfl rfl Tryz.isAgg38 Tryz.sizeOf38 (by simp) ld_l rfl rfl ?_
  refine lx_nil ?_
  refine lxk_s rfl rfl ?_
  refine lx_fak 12 rfl Tryz.underlying40 rfl Tryz.sizeOf38 (by decide) rfl rfl rfl ?_
  refine lx_nil ?_
  refine lxk_q (X := Hp (pl w) [(1, b1, ((fe (a).1 ++ fe (a).2) ++ ((fe (b).1 ++ fe (b).2) ++ (fe (on2).1 ++ fe (on2).2))).map U64, 40)]) rfl (hp_sub rides_true ⟨rfl, trivial⟩) (fun _ => rfl) ?_
  refine lx_loado 1 _ rfl rfl Tryz.isAgg38 Tryz.sizeOf38 (by simp) (ld_m (by simp)) rfl rfl ?_
  refine lx_nil ?_
  refine lxk_e rfl ?_
  refine lx_storea 2 hGF rfl rfl rfl Tryz.sizeOf38 (by simp) (by simp) (one_u64 _) rfl ?_
  refine lx_nil ?_
  refine ⟨fun _ X hX _ => by subst hX; exact hp_sub rides_true ⟨rfl, trivial⟩, ?_⟩
  refine lxk_e rfl ?_
  refine lx_storea 3 hGF rfl rfl rfl Tryz.sizeOf38 (by simp) (by simp) (one_u64 _) rfl ?_
  refine lx_nil ?_
  refine ⟨fun h => (by cases h), ?_⟩
  refine lxk_nil ?_
  refine x_ret ?_
  repeat (first | refine kseq_ret ?_ | refine kblk_ret ?_)
  exact kret_cc 2 3 rfl rfl rfl rfl rfl Tryz.isAgg38 Tryz.sizeOf38 (by simp) (by simp) (fun w hw => ⟨rfl, hp_below hw⟩)
theorem hmc {i : TypeInfo} (k : Nat) (h : Tryz.prog.info? 5 = some i ∧ i.zero = some (.int .u8 0) ∧ i.size = 1 ∧ i.bytes = 1) (hk : (madeCells (Value.int .u8 0).cells (k * 1)).toList = (List.replicate k 0#8).map U8) : (madeCells (Value.int .u8 0).cells (k * i.size)).toList = (List.replicate k 0#8).map U8 := by
  rw [h.2.2.1]; exact hk
theorem hmk (k : Nat) (h : k ≤ 1000) : k * ti5.choose.size ≤ 16777216 ∧ ti5.choose.bytes * k ≤ 281474976710656 ∧ k ≤ 1000000 := by
  rw [ti5.choose_spec.2.2.1, ti5.choose_spec.2.2.2]; omega
theorem mc48 : (madeCells (Value.int .u8 0).cells (48 * 1)).toList = (List.replicate 48 0#8).map U8 := by kernel_rfl
theorem mc96 : (madeCells (Value.int .u8 0).cells (96 * 1)).toList = (List.replicate 96 0#8).map U8 := by kernel_rfl
def OR0 (bs : List (BitVec 8)) (v : BitVec 8) : List (BitVec 8) := bs.set 0 (bs.getD 0 0 ||| v)
theorem OR0_len (bs : List (BitVec 8)) (v : BitVec 8) : (OR0 bs v).length = bs.length := by simp [OR0]
attribute [local simp] OR0_len
theorem lay48 (x : Zp) : lay 0 ((by48 x).map U8) ((List.replicate 48 0#8).map U8) = (by48 x).map U8 := lay_all _ _ (by simp)
theorem lay96a (x : Zp) : lay 0 ((by48 x).map U8) ((List.replicate 96 0#8).map U8) = (by48 x ++ List.replicate 48 0#8).map U8 := by
  have h := lay_pad (by48 x) 96 (by simp)
  rw [by48_len] at h
  exact h
theorem lay96b (x y : Zp) : lay 48 ((by48 y).map U8) ((by48 x ++ List.replicate 48 0#8).map U8) = (by48 x ++ by48 y).map U8 := by
  rw [lay_eq 48 _ _ (by simp)]
  rw [List.map_append, List.map_append]
  have e1 : ((by48 x).map U8 ++ (List.replicate 48 0#8).map U8).take 48 = (by48 x).map U8 := List.take_left' (by simp)
  have e2 : ((by48 x).map U8 ++ (List.replicate 48 0#8).map U8).drop (48 + ((by48 y).map U8).length) = [] := List.drop_eq_nil_of_le (by simp)
  rw [e1, e2, List.append_nil]
theorem sz5 : (Tryz.prog.info? 5).map (·.size) = some 1 := by kernel_rfl
theorem r9enc1_n (w : World) (hw : Gt w) : Calls Tryz.prog 27 [EV6 (ze2, ze2, ze2), .bool false].toArray w (fun e w' => ∃ bm, e = .returned (.slice (some ⟨bm, 0, none⟩) 48 48) ∧ Grow w w' ∧ w.heap.size ≤ bm ∧ OwnB w' bm (((List.replicate 48 0#8).set 0 192#8).map U8) 5) := by
  have hGF : BOk Gt (pl w) := gt_low.plain hw
  refine calls_of_X (G := Gt) Tryz.func27 rfl rfl (Hp (pl w) []) (hp_refl (pl w) trivial rides_true) (good_hp hGF) ?_
  refine xs_plain (E := EE []) ?_
  refine lx_boxr 2 hGF rfl rfl rfl ?_
  intro b2
  refine lx_assign rfl rfl rfl ?_
  refine lx_nil ?_
  refine xs_plain (E := EE []) ?_
  refine lx_assign rfl rfl rfl ?_
  refine lx_nil ?_
  refine x_seq ?_
  refine xs_plain (E := EE []) ?_
  refine lx_move rfl rfl rfl ?_
  refine lx_nil ?_
  refine x_false rfl ?_
  refine x_skip ?_
  refine xs_plain (E := EE []) ?_
  refine lx_move rfl rfl rfl ?_
  refine lx_mksl 6 hGF rfl rfl Tryz.underlying22 ti5.choose_spec.1 ti5.choose_spec.2.1 (hmk 48 (by decide)) (hmc 48 ti5.choose_spec mc48) rfl rfl ?_
  intro b6
  refine lx_assign rfl rfl rfl ?_
  refine lx_nil ?_
  refine x_seq ?_
  refine xs_plain (E := EE []) ?_
  refine lx_loada 2 rfl rfl Tryz.isAgg40 Tryz.sizeOf40 (by simp) rfl rfl ?_
  refine lx_callB true rfl rfl ent51 (r9none _) (decide_eq_true rfl) rfl rfl ?_
  refine lx_nil ?_
  refine x_true rfl ?_
  refine xs_plain (E := EE []) ?_
  refine lx_move rfl rfl rfl ?_
  refine lx_is1 0 rfl rfl Tryz.underlying22 Tryz.sizeOf5 (by decide) (by decide) rfl rfl ?_
  refine lx_storem 6 U8 hGF rfl rfl rfl Tryz.sizeOf5 rfl (by simp) rfl ?_
  refine lx_nil ?_
  refine xs_plain (E := EE []) ?_
  refine lx_move rfl rfl rfl ?_
  refine lx_assign rfl rfl rfl ?_
  refine lx_nil ?_
  refine x_ret ?_
  repeat (first | refine kseq_ret ?_ | refine kblk_ret ?_)
  exact kret_tmp rfl rfl (fun w hw => ⟨b6, rfl, hp_below hw, (hw.own 6 b6 _ _ rfl).2.elim id False.elim, (hw.own 6 b6 _ _ rfl).1⟩)
theorem r9enc1_t (a b : W2) (hl : LG2 b = true) (w : World) (hw : Gt w) : Calls Tryz.prog 27 [EV6 (a, b, on2), .bool false].toArray w (fun e w' => ∃ bm, e = .returned (.slice (some ⟨bm, 0, none⟩) 48 48) ∧ Grow w w' ∧ w.heap.size ≤ bm ∧ OwnB w' bm ((OR0 (OR0 (by48 a.1) 128#8) 32#8).map U8) 5) := by
  have hGF : BOk Gt (pl w) := gt_low.plain hw
  refine calls_of_X (G := Gt) Tryz.func27 rfl rfl (Hp (pl w) []) (hp_refl (pl w) trivial rides_true) (good_hp hGF) ?_
  refine xs_plain (E := EE []) ?_
  refine lx_boxr 2 hGF rfl rfl rfl ?_
  intro b2
  refine lx_assign rfl rfl rfl ?_
  refine lx_nil ?_
  refine xs_plain (E := EE []) ?_
  refine lx_assign rfl rfl rfl ?_
  refine lx_nil ?_
  refine x_seq ?_
  refine xs_plain (E := EE []) ?_
  refine lx_move rfl rfl rfl ?_
  refine lx_nil ?_
  refine x_false rfl ?_
  refine x_skip ?_
  refine xs_plain (E := EE []) ?_
  refine lx_move rfl rfl rfl ?_
  refine lx_mksl 6 hGF rfl rfl Tryz.underlying22 ti5.choose_spec.1 ti5.choose_spec.2.1 (hmk 48 (by decide)) (hmc 48 ti5.choose_spec mc48) rfl rfl ?_
  intro b6
  refine lx_assign rfl rfl rfl ?_
  refine lx_nil ?_
  refine x_seq ?_
  refine xs_plain (E := EE []) ?_
  refine lx_loada 2 rfl rfl Tryz.isAgg40 Tryz.sizeOf40 (by simp) rfl rfl ?_
  refine lx_callB false rfl rfl ent51 (r9none _) (decide_eq_false on2_ne) rfl rfl ?_
  refine lx_nil ?_
  refine x_false rfl ?_
  refine x_skip ?_
  refine xs_plain (E := EE []) ?_
  refine lx_loada 2 rfl rfl Tryz.isAgg40 Tryz.sizeOf40 (by simp) rfl rfl ?_
  refine lx_call rfl rfl ent77 (r9xy a b) rfl rfl ?_
  refine lx_move rfl rfl rfl ?_
  refine lx_ext rfl rfl rfl rfl ?_
  refine lx_ext rfl rfl rfl rfl ?_
  refine lx_allocr 7 hGF zv38 rfl rfl ?_
  intro b7
  refine lx_allocr 8 hGF zv38 rfl rfl ?_
  intro b8
  refine lx_storea 7 hGF rfl rfl rfl Tryz.sizeOf38 (by simp) (by simp) (one_u64 _) rfl ?_
  refine lx_storea 8 hGF rfl rfl rfl Tryz.sizeOf38 (by simp) (by simp) (one_u64 _) rfl ?_
  refine lx_nil ?_
  refine xs_drawA (E := EE [2999999]) [0, 1, 2, 3, 4, 5, 6, 7] [⟨8, 9, 46, (List.replicate 48 (0#8)).map U8⟩, ⟨9, 10, 46, (List.replicate 48 (0#8)).map U8⟩] [10, 11] mixed rfl (by kernel_rfl) (by kernel_rfl) (by kernel_rfl) (by kernel_rfl) (by kernel_rfl) (by kernel_rfl) (by decide) (by intro x hx; simp only [List.mem_cons, List.not_mem_nil, or_false] at hx; rcases hx with rfl | rfl <;> exact isAlloc_mk rfl zv46 rfl) ?_
  refine lx_fak 0 rfl Tryz.underlying38 rfl Tryz.sizeOf36 (by decide) rfl rfl rfl ?_
  refine lx_loado 7 _ rfl rfl Tryz.isAgg36 Tryz.sizeOf36 (by simp) ld_l rfl rfl ?_
  refine lx_call rfl rfl ent79 (rnumberE _) rfl rfl ?_
  refine lx_call rfl rfl ent78 (rbytesE _) rfl rfl ?_
  refine lx_fak 6 rfl Tryz.underlying38 rfl Tryz.sizeOf36 (by decide) rfl rfl rfl ?_
  refine lx_loado 7 _ rfl rfl Tryz.isAgg36 Tryz.sizeOf36 (by simp) (ld_r (by simp)) rfl rfl ?_
  refine lx_call rfl rfl ent79 (rnumberE _) rfl rfl ?_
  refine lx_call rfl rfl ent78 (rbytesE _) rfl rfl ?_
  refine lx_nil ?_
  refine ⟨_, _, rfl, hGF, by intro x hx; simp only [List.mem_cons, List.not_mem_nil, or_false] at hx; rcases hx with rfl | rfl <;> rfl, by intro x hx; simp only [List.mem_cons, List.not_mem_nil, or_false] at hx; rcases hx with rfl | rfl <;> rfl, fun adr => ?_⟩
  refine lx_storea 9 hGF rfl rfl rfl Tryz.sizeOf46 (by simp) (by simp) (one_u8 _) rfl ?_
  refine lx_storea 10 hGF rfl rfl rfl Tryz.sizeOf46 (by simp) (by simp) (one_u8 _) rfl ?_
  refine lx_nil ?_
  refine x_seq ?_
  refine xs_plain (E := EE []) ?_
  refine lx_move rfl rfl rfl ?_
  refine lx_nil ?_
  refine x_false rfl ?_
  refine x_skip ?_
  refine xs_drawn (E := EE []) mixed (by kernel_rfl) (by kernel_rfl) (by kernel_rfl) ?_
  refine lx_move rfl rfl rfl ?_
  refine lx_move rfl rfl rfl ?_
  refine lx_bin (v := I 0) rfl rfl (fun _ => rfl) (fun _ => bin_sub_i _ _ _ (by unfold inI; omega)) rfl rfl ?_
  refine lx_slsl (l := 0) (h' := 48) rfl Tryz.underlying22 Tryz.sizeOf5 rfl rfl (by decide) rfl rfl ?_
  refine lx_slarr1 (l := 0) (h' := 48) rfl Tryz.underlying46 Tryz.sizeOf5 rfl rfl (by decide) (by decide) rfl rfl ?_
  refine lx_copys 6 (o := 0) (cs := by48 a.1) hGF rfl rfl rfl Tryz.underlying22 sz5 (by simp) (fun w' h => BytesAt.range (hp_row (n := 9) rfl w' h)) (by simp) rfl rfl ?_
  rw [lay48]
  refine lx_nil ?_
  refine xs_plain (E := EE []) ?_
  refine lx_move rfl rfl rfl ?_
  refine lx_is1 0 rfl rfl Tryz.underlying22 Tryz.sizeOf5 (by decide) (by decide) rfl rfl ?_
  refine lx_loadm 6 U8 0 rfl rfl Tryz.isAgg5 (by simp) rfl rfl ?_
  refine lx_bin (v := U8 ((by48 a.1).getD 0 0 ||| 128#8)) rfl rfl (fun _ => rfl) (fun _ => bin_or_u8 _ _ 128#8) rfl rfl ?_
  refine lx_is1 0 rfl rfl Tryz.underlying22 Tryz.sizeOf5 (by decide) (by decide) rfl rfl ?_
  refine lx_storem 6 U8 hGF rfl rfl rfl Tryz.sizeOf5 rfl (by simp) rfl ?_
  refine lx_nil ?_
  refine x_seq ?_
  refine xs_plain (E := EE []) ?_
  refine lx_loada 8 rfl rfl Tryz.isAgg38 Tryz.sizeOf38 (by simp) rfl rfl ?_
  refine lx_callB true rfl rfl ent80 (r5large _) (hl) rfl rfl ?_
  refine lx_nil ?_
  refine x_true rfl ?_
  refine x_plain (E := EE []) ?_
  refine lx_move rfl rfl rfl ?_
  refine lx_is1 0 rfl rfl Tryz.underlying22 Tryz.sizeOf5 (by decide) (by decide) rfl rfl ?_
  refine lx_loadm 6 U8 0 rfl rfl Tryz.isAgg5 (by simp) rfl rfl ?_
  refine lx_bin (v := U8 ((OR0 (by48 a.1) 128#8).getD 0 0 ||| 32#8)) rfl rfl (fun _ => rfl) (fun _ => bin_or_u8 _ _ 32#8) rfl rfl ?_
  refine lx_is1 0 rfl rfl Tryz.underlying22 Tryz.sizeOf5 (by decide) (by decide) rfl rfl ?_
  refine lx_storem 6 U8 hGF rfl rfl rfl Tryz.sizeOf5 rfl (by simp) rfl ?_
  refine lx_nil ?_
  refine xs_plain (E := EE []) ?_
  refine lx_move rfl rfl rfl ?_
  refine lx_assign rfl rfl rfl ?_
  refine lx_nil ?_
  refine x_ret ?_
  repeat (first | refine kseq_ret ?_ | refine kblk_ret ?_)
  exact kret_tmp rfl rfl (fun w hw => ⟨b6, rfl, hp_below hw, (hw.own 6 b6 _ _ rfl).2.elim id False.elim, (hw.own 6 b6 _ _ rfl).1⟩)
theorem r9enc1_f (a b : W2) (hl : LG2 b = false) (w : World) (hw : Gt w) : Calls Tryz.prog 27 [EV6 (a, b, on2), .bool false].toArray w (fun e w' => ∃ bm, e = .returned (.slice (some ⟨bm, 0, none⟩) 48 48) ∧ Grow w w' ∧ w.heap.size ≤ bm ∧ OwnB w' bm ((OR0 (by48 a.1) 128#8).map U8) 5) := by
  have hGF : BOk Gt (pl w) := gt_low.plain hw
  refine calls_of_X (G := Gt) Tryz.func27 rfl rfl (Hp (pl w) []) (hp_refl (pl w) trivial rides_true) (good_hp hGF) ?_
  refine xs_plain (E := EE []) ?_
  refine lx_boxr 2 hGF rfl rfl rfl ?_
  intro b2
  refine lx_assign rfl rfl rfl ?_
  refine lx_nil ?_
  refine xs_plain (E := EE []) ?_
  refine lx_assign rfl rfl rfl ?_
  refine lx_nil ?_
  refine x_seq ?_
  refine xs_plain (E := EE []) ?_
  refine lx_move rfl rfl rfl ?_
  refine lx_nil ?_
  refine x_false rfl ?_
  refine x_skip ?_
  refine xs_plain (E := EE []) ?_
  refine lx_move rfl rfl rfl ?_
  refine lx_mksl 6 hGF rfl rfl Tryz.underlying22 ti5.choose_spec.1 ti5.choose_spec.2.1 (hmk 48 (by decide)) (hmc 48 ti5.choose_spec mc48) rfl rfl ?_
  intro b6
  refine lx_assign rfl rfl rfl ?_
  refine lx_nil ?_
  refine x_seq ?_
  refine xs_plain (E := EE []) ?_
  refine lx_loada 2 rfl rfl Tryz.isAgg40 Tryz.sizeOf40 (by simp) rfl rfl ?_
  refine lx_callB false rfl rfl ent51 (r9none _) (decide_eq_false on2_ne) rfl rfl ?_
  refine lx_nil ?_
  refine x_false rfl ?_
  refine x_skip ?_
  refine xs_plain (E := EE []) ?_
  refine lx_loada 2 rfl rfl Tryz.isAgg40 Tryz.sizeOf40 (by simp) rfl rfl ?_
  refine lx_call rfl rfl ent77 (r9xy a b) rfl rfl ?_
  refine lx_move rfl rfl rfl ?_
  refine lx_ext rfl rfl rfl rfl ?_
  refine lx_ext rfl rfl rfl rfl ?_
  refine lx_allocr 7 hGF zv38 rfl rfl ?_
  intro b7
  refine lx_allocr 8 hGF zv38 rfl rfl ?_
  intro b8
  refine lx_storea 7 hGF rfl rfl rfl Tryz.sizeOf38 (by simp) (by simp) (one_u64 _) rfl ?_
  refine lx_storea 8 hGF rfl rfl rfl Tryz.sizeOf38 (by simp) (by simp) (one_u64 _) rfl ?_
  refine lx_nil ?_
  refine xs_drawA (E := EE [2999999]) [0, 1, 2, 3, 4, 5, 6, 7] [⟨8, 9, 46, (List.replicate 48 (0#8)).map U8⟩, ⟨9, 10, 46, (List.replicate 48 (0#8)).map U8⟩] [10, 11] mixed rfl (by kernel_rfl) (by kernel_rfl) (by kernel_rfl) (by kernel_rfl) (by kernel_rfl) (by kernel_rfl) (by decide) (by intro x hx; simp only [List.mem_cons, List.not_mem_nil, or_false] at hx; rcases hx with rfl | rfl <;> exact isAlloc_mk rfl zv46 rfl) ?_
  refine lx_fak 0 rfl Tryz.underlying38 rfl Tryz.sizeOf36 (by decide) rfl rfl rfl ?_
  refine lx_loado 7 _ rfl rfl Tryz.isAgg36 Tryz.sizeOf36 (by simp) ld_l rfl rfl ?_
  refine lx_call rfl rfl ent79 (rnumberE _) rfl rfl ?_
  refine lx_call rfl rfl ent78 (rbytesE _) rfl rfl ?_
  refine lx_fak 6 rfl Tryz.underlying38 rfl Tryz.sizeOf36 (by decide) rfl rfl rfl ?_
  refine lx_loado 7 _ rfl rfl Tryz.isAgg36 Tryz.sizeOf36 (by simp) (ld_r (by simp)) rfl rfl ?_
  refine lx_call rfl rfl ent79 (rnumberE _) rfl rfl ?_
  refine lx_call rfl rfl ent78 (rbytesE _) rfl rfl ?_
  refine lx_nil ?_
  refine ⟨_, _, rfl, hGF, by intro x hx; simp only [List.mem_cons, List.not_mem_nil, or_false] at hx; rcases hx with rfl | rfl <;> rfl, by intro x hx; simp only [List.mem_cons, List.not_mem_nil, or_false] at hx; rcases hx with rfl | rfl <;> rfl, fun adr => ?_⟩
  refine lx_storea 9 hGF rfl rfl rfl Tryz.sizeOf46 (by simp) (by simp) (one_u8 _) rfl ?_
  refine lx_storea 10 hGF rfl rfl rfl Tryz.sizeOf46 (by simp) (by simp) (one_u8 _) rfl ?_
  refine lx_nil ?_
  refine x_seq ?_
  refine xs_plain (E := EE []) ?_
  refine lx_move rfl rfl rfl ?_
  refine lx_nil ?_
  refine x_false rfl ?_
  refine x_skip ?_
  refine xs_drawn (E := EE []) mixed (by kernel_rfl) (by kernel_rfl) (by kernel_rfl) ?_
  refine lx_move rfl rfl rfl ?_
  refine lx_move rfl rfl rfl ?_
  refine lx_bin (v := I 0) rfl rfl (fun _ => rfl) (fun _ => bin_sub_i _ _ _ (by unfold inI; omega)) rfl rfl ?_
  refine lx_slsl (l := 0) (h' := 48) rfl Tryz.underlying22 Tryz.sizeOf5 rfl rfl (by decide) rfl rfl ?_
  refine lx_slarr1 (l := 0) (h' := 48) rfl Tryz.underlying46 Tryz.sizeOf5 rfl rfl (by decide) (by decide) rfl rfl ?_
  refine lx_copys 6 (o := 0) (cs := by48 a.1) hGF rfl rfl rfl Tryz.underlying22 sz5 (by simp) (fun w' h => BytesAt.range (hp_row (n := 9) rfl w' h)) (by simp) rfl rfl ?_
  rw [lay48]
  refine lx_nil ?_
  refine xs_plain (E := EE []) ?_
  refine lx_move rfl rfl rfl ?_
  refine lx_is1 0 rfl rfl Tryz.underlying22 Tryz.sizeOf5 (by decide) (by decide) rfl rfl ?_
  refine lx_loadm 6 U8 0 rfl rfl Tryz.isAgg5 (by simp) rfl rfl ?_
  refine lx_bin (v := U8 ((by48 a.1).getD 0 0 ||| 128#8)) rfl rfl (fun _ => rfl) (fun _ => bin_or_u8 _ _ 128#8) rfl rfl ?_
  refine lx_is1 0 rfl rfl Tryz.underlying22 Tryz.sizeOf5 (by decide) (by decide) rfl rfl ?_
  refine lx_storem 6 U8 hGF rfl rfl rfl Tryz.sizeOf5 rfl (by simp) rfl ?_
  refine lx_nil ?_
  refine x_seq ?_
  refine xs_plain (E := EE []) ?_
  refine lx_loada 8 rfl rfl Tryz.isAgg38 Tryz.sizeOf38 (by simp) rfl rfl ?_
  refine lx_callB false rfl rfl ent80 (r5large _) (hl) rfl rfl ?_
  refine lx_nil ?_
  refine x_false rfl ?_
  refine x_skip ?_
  refine xs_plain (E := EE []) ?_
  refine lx_move rfl rfl rfl ?_
  refine lx_assign rfl rfl rfl ?_
  refine lx_nil ?_
  refine x_ret ?_
  repeat (first | refine kseq_ret ?_ | refine kblk_ret ?_)
  exact kret_tmp rfl rfl (fun w hw => ⟨b6, rfl, hp_below hw, (hw.own 6 b6 _ _ rfl).2.elim id False.elim, (hw.own 6 b6 _ _ rfl).1⟩)
theorem r9enc2_n (w : World) (hw : Gt w) : Calls Tryz.prog 27 [EV6 (ze2, ze2, ze2), .bool true].toArray w (fun e w' => ∃ bm, e = .returned (.slice (some ⟨bm, 0, none⟩) 96 96) ∧ Grow w w' ∧ w.heap.size ≤ bm ∧ OwnB w' bm (((List.replicate 96 0#8).set 0 192#8).map U8) 5) := by
  have hGF : BOk Gt (pl w) := gt_low.plain hw
  refine calls_of_X (G := Gt) Tryz.func27 rfl rfl (Hp (pl w) []) (hp_refl (pl w) trivial rides_true) (good_hp hGF) ?_
  refine xs_plain (E := EE []) ?_
  refine lx_boxr 2 hGF rfl rfl rfl ?_
  intro b2
  refine lx_assign rfl rfl rfl ?_
  refine lx_nil ?_
  refine xs_plain (E := EE []) ?_
  refine lx_assign rfl rfl rfl ?_
  refine lx_nil ?_
  refine x_seq ?_
  refine xs_plain (E := EE []) ?_
  refine lx_move rfl rfl rfl ?_
  refine lx_nil ?_
  refine x_true rfl ?_
  refine x_plain (E := EE []) ?_
  refine lx_assign rfl rfl rfl ?_
  refine lx_nil ?_
  refine xs_plain (E := EE []) ?_
  refine lx_move rfl rfl rfl ?_
  refine lx_mksl 6 hGF rfl rfl Tryz.underlying22 ti5.choose_spec.1 ti5.choose_spec.2.1 (hmk 96 (by decide)) (hmc 96 ti5.choose_spec mc96) rfl rfl ?_
  intro b6
  refine lx_assign rfl rfl rfl ?_
  refine lx_nil ?_
  refine x_seq ?_
  refine xs_plain (E := EE []) ?_
  refine lx_loada 2 rfl rfl Tryz.isAgg40 Tryz.sizeOf40 (by simp) rfl rfl ?_
  refine lx_callB true rfl rfl ent51 (r9none _) (decide_eq_true rfl) rfl rfl ?_
  refine lx_nil ?_
  refine x_true rfl ?_
  refine xs_plain (E := EE []) ?_
  refine lx_move rfl rfl rfl ?_
  refine lx_is1 0 rfl rfl Tryz.underlying22 Tryz.sizeOf5 (by decide) (by decide) rfl rfl ?_
  refine lx_storem 6 U8 hGF rfl rfl rfl Tryz.sizeOf5 rfl (by simp) rfl ?_
  refine lx_nil ?_
  refine xs_plain (E := EE []) ?_
  refine lx_move rfl rfl rfl ?_
  refine lx_assign rfl rfl rfl ?_
  refine lx_nil ?_
  refine x_ret ?_
  repeat (first | refine kseq_ret ?_ | refine kblk_ret ?_)
  exact kret_tmp rfl rfl (fun w hw => ⟨b6, rfl, hp_below hw, (hw.own 6 b6 _ _ rfl).2.elim id False.elim, (hw.own 6 b6 _ _ rfl).1⟩)
theorem r9enc2_t (a b : W2) (hl : LG2 b = true) (w : World) (hw : Gt w) : Calls Tryz.prog 27 [EV6 (a, b, on2), .bool true].toArray w (fun e w' => ∃ bm, e = .returned (.slice (some ⟨bm, 0, none⟩) 96 96) ∧ Grow w w' ∧ w.heap.size ≤ bm ∧ OwnB w' bm ((OR0 (OR0 (by48 a.2 ++ by48 a.1) 128#8) 32#8).map U8) 5) := by
  have hGF : BOk Gt (pl w) := gt_low.plain hw
  refine calls_of_X (G := Gt) Tryz.func27 rfl rfl (Hp (pl w) []) (hp_refl (pl w) trivial rides_true) (good_hp hGF) ?_
  refine xs_plain (E := EE []) ?_
  refine lx_boxr 2 hGF rfl rfl rfl ?_
  intro b2
  refine lx_assign rfl rfl rfl ?_
  refine lx_nil ?_
  refine xs_plain (E := EE []) ?_
  refine lx_assign rfl rfl rfl ?_
  refine lx_nil ?_
  refine x_seq ?_
  refine xs_plain (E := EE []) ?_
  refine lx_move rfl rfl rfl ?_
  refine lx_nil ?_
  refine x_true rfl ?_
  refine x_plain (E := EE []) ?_
  refine lx_assign rfl rfl rfl ?_
  refine lx_nil ?_
  refine xs_plain (E := EE []) ?_
  refine lx_move rfl rfl rfl ?_
  refine lx_mksl 6 hGF rfl rfl Tryz.underlying22 ti5.choose_spec.1 ti5.choose_spec.2.1 (hmk 96 (by decide)) (hmc 96 ti5.choose_spec mc96) rfl rfl ?_
  intro b6
  refine lx_assign rfl rfl rfl ?_
  refine lx_nil ?_
  refine x_seq ?_
  refine xs_plain (E := EE []) ?_
  refine lx_loada 2 rfl rfl Tryz.isAgg40 Tryz.sizeOf40 (by simp) rfl rfl ?_
  refine lx_callB false rfl rfl ent51 (r9none _) (decide_eq_false on2_ne) rfl rfl ?_
  refine lx_nil ?_
  refine x_false rfl ?_
  refine x_skip ?_
  refine xs_plain (E := EE []) ?_
  refine lx_loada 2 rfl rfl Tryz.isAgg40 Tryz.sizeOf40 (by simp) rfl rfl ?_
  refine lx_call rfl rfl ent77 (r9xy a b) rfl rfl ?_
  refine lx_move rfl rfl rfl ?_
  refine lx_ext rfl rfl rfl rfl ?_
  refine lx_ext rfl rfl rfl rfl ?_
  refine lx_allocr 7 hGF zv38 rfl rfl ?_
  intro b7
  refine lx_allocr 8 hGF zv38 rfl rfl ?_
  intro b8
  refine lx_storea 7 hGF rfl rfl rfl Tryz.sizeOf38 (by simp) (by simp) (one_u64 _) rfl ?_
  refine lx_storea 8 hGF rfl rfl rfl Tryz.sizeOf38 (by simp) (by simp) (one_u64 _) rfl ?_
  refine lx_nil ?_
  refine xs_drawA (E := EE [2999999]) [0, 1, 2, 3, 4, 5, 6, 7] [⟨8, 9, 46, (List.replicate 48 (0#8)).map U8⟩, ⟨9, 10, 46, (List.replicate 48 (0#8)).map U8⟩] [10, 11] mixed rfl (by kernel_rfl) (by kernel_rfl) (by kernel_rfl) (by kernel_rfl) (by kernel_rfl) (by kernel_rfl) (by decide) (by intro x hx; simp only [List.mem_cons, List.not_mem_nil, or_false] at hx; rcases hx with rfl | rfl <;> exact isAlloc_mk rfl zv46 rfl) ?_
  refine lx_fak 0 rfl Tryz.underlying38 rfl Tryz.sizeOf36 (by decide) rfl rfl rfl ?_
  refine lx_loado 7 _ rfl rfl Tryz.isAgg36 Tryz.sizeOf36 (by simp) ld_l rfl rfl ?_
  refine lx_call rfl rfl ent79 (rnumberE _) rfl rfl ?_
  refine lx_call rfl rfl ent78 (rbytesE _) rfl rfl ?_
  refine lx_fak 6 rfl Tryz.underlying38 rfl Tryz.sizeOf36 (by decide) rfl rfl rfl ?_
  refine lx_loado 7 _ rfl rfl Tryz.isAgg36 Tryz.sizeOf36 (by simp) (ld_r (by simp)) rfl rfl ?_
  refine lx_call rfl rfl ent79 (rnumberE _) rfl rfl ?_
  refine lx_call rfl rfl ent78 (rbytesE _) rfl rfl ?_
  refine lx_nil ?_
  refine ⟨_, _, rfl, hGF, by intro x hx; simp only [List.mem_cons, List.not_mem_nil, or_false] at hx; rcases hx with rfl | rfl <;> rfl, by intro x hx; simp only [List.mem_cons, List.not_mem_nil, or_false] at hx; rcases hx with rfl | rfl <;> rfl, fun adr => ?_⟩
  refine lx_storea 9 hGF rfl rfl rfl Tryz.sizeOf46 (by simp) (by simp) (one_u8 _) rfl ?_
  refine lx_storea 10 hGF rfl rfl rfl Tryz.sizeOf46 (by simp) (by simp) (one_u8 _) rfl ?_
  refine lx_nil ?_
  refine x_seq ?_
  refine xs_plain (E := EE []) ?_
  refine lx_move rfl rfl rfl ?_
  refine lx_nil ?_
  refine x_true rfl ?_
  refine x_plain (E := EE []) ?_
  refine lx_move rfl rfl rfl ?_
  refine lx_slarr1 (l := 0) (h' := 48) rfl Tryz.underlying46 Tryz.sizeOf5 rfl rfl (by decide) (by decide) rfl rfl ?_
  refine lx_copys 6 (o := 0) (cs := by48 a.2) hGF rfl rfl rfl Tryz.underlying22 sz5 (by simp) (fun w' h => BytesAt.range (hp_row (n := 10) rfl w' h)) (by simp) rfl rfl ?_
  rw [lay96a]
  refine lx_nil ?_
  refine xs_drawn (E := EE []) mixed (by kernel_rfl) (by kernel_rfl) (by kernel_rfl) ?_
  refine lx_move rfl rfl rfl ?_
  refine lx_move rfl rfl rfl ?_
  refine lx_bin (v := I 48) rfl rfl (fun _ => rfl) (fun _ => bin_sub_i _ _ _ (by unfold inI; omega)) rfl rfl ?_
  refine lx_slsl (l := 48) (h' := 96) rfl Tryz.underlying22 Tryz.sizeOf5 rfl rfl (by decide) rfl rfl ?_
  refine lx_slarr1 (l := 0) (h' := 48) rfl Tryz.underlying46 Tryz.sizeOf5 rfl rfl (by decide) (by decide) rfl rfl ?_
  refine lx_copys 6 (o := 48) (cs := by48 a.1) hGF rfl rfl rfl Tryz.underlying22 sz5 (by simp) (fun w' h => BytesAt.range (hp_row (n := 9) rfl w' h)) (by simp) rfl rfl ?_
  rw [lay96b]
  refine lx_nil ?_
  refine xs_plain (E := EE []) ?_
  refine lx_move rfl rfl rfl ?_
  refine lx_is1 0 rfl rfl Tryz.underlying22 Tryz.sizeOf5 (by decide) (by decide) rfl rfl ?_
  refine lx_loadm 6 U8 0 rfl rfl Tryz.isAgg5 (by simp) rfl rfl ?_
  refine lx_bin (v := U8 ((by48 a.2 ++ by48 a.1).getD 0 0 ||| 128#8)) rfl rfl (fun _ => rfl) (fun _ => bin_or_u8 _ _ 128#8) rfl rfl ?_
  refine lx_is1 0 rfl rfl Tryz.underlying22 Tryz.sizeOf5 (by decide) (by decide) rfl rfl ?_
  refine lx_storem 6 U8 hGF rfl rfl rfl Tryz.sizeOf5 rfl (by simp) rfl ?_
  refine lx_nil ?_
  refine x_seq ?_
  refine xs_plain (E := EE []) ?_
  refine lx_loada 8 rfl rfl Tryz.isAgg38 Tryz.sizeOf38 (by simp) rfl rfl ?_
  refine lx_callB true rfl rfl ent80 (r5large _) (hl) rfl rfl ?_
  refine lx_nil ?_
  refine x_true rfl ?_
  refine x_plain (E := EE []) ?_
  refine lx_move rfl rfl rfl ?_
  refine lx_is1 0 rfl rfl Tryz.underlying22 Tryz.sizeOf5 (by decide) (by decide) rfl rfl ?_
  refine lx_loadm 6 U8 0 rfl rfl Tryz.isAgg5 (by simp) rfl rfl ?_
  refine lx_bin (v := U8 ((OR0 (by48 a.2 ++ by48 a.1) 128#8).getD 0 0 ||| 32#8)) rfl rfl (fun _ => rfl) (fun _ => bin_or_u8 _ _ 32#8) rfl rfl ?_
  refine lx_is1 0 rfl rfl Tryz.underlying22 Tryz.sizeOf5 (by decide) (by decide) rfl rfl ?_
  refine lx_storem 6 U8 hGF rfl rfl rfl Tryz.sizeOf5 rfl (by simp) rfl ?_
  refine lx_nil ?_
  refine xs_plain (E := EE []) ?_
  refine lx_move rfl rfl rfl ?_
  refine lx_assign rfl rfl rfl ?_
  refine lx_nil ?_
  refine x_ret ?_
  repeat (first | refine kseq_ret ?_ | refine kblk_ret ?_)
  exact kret_tmp rfl rfl (fun w hw => ⟨b6, rfl, hp_below hw, (hw.own 6 b6 _ _ rfl).2.elim id False.elim, (hw.own 6 b6 _ _ rfl).1⟩)
theorem r9enc2_f (a b : W2) (hl : LG2 b = false) (w : World) (hw : Gt w) : Calls Tryz.prog 27 [EV6 (a, b, on2), .bool true].toArray w (fun e w' => ∃ bm, e = .returned (.slice (some ⟨bm, 0, none⟩) 96 96) ∧ Grow w w' ∧ w.heap.size ≤ bm ∧ OwnB w' bm ((OR0 (by48 a.2 ++ by48 a.1) 128#8).map U8) 5) := by
  have hGF : BOk Gt (pl w) := gt_low.plain hw
  refine calls_of_X (G := Gt) Tryz.func27 rfl rfl (Hp (pl w) []) (hp_refl (pl w) trivial rides_true) (good_hp hGF) ?_
  refine xs_plain (E := EE []) ?_
  refine lx_boxr 2 hGF rfl rfl rfl ?_
  intro b2
  refine lx_assign rfl rfl rfl ?_
  refine lx_nil ?_
  refine xs_plain (E := EE []) ?_
  refine lx_assign rfl rfl rfl ?_
  refine lx_nil ?_
  refine x_seq ?_
  refine xs_plain (E := EE []) ?_
  refine lx_move rfl rfl rfl ?_
  refine lx_nil ?_
  refine x_true rfl ?_
  refine x_plain (E := EE []) ?_
  refine lx_assign rfl rfl rfl ?_
  refine lx_nil ?_
  refine xs_plain (E := EE []) ?_
  refine lx_move rfl rfl rfl ?_
  refine lx_mksl 6 hGF rfl rfl Tryz.underlying22 ti5.choose_spec.1 ti5.choose_spec.2.1 (hmk 96 (by decide)) (hmc 96 ti5.choose_spec mc96) rfl rfl ?_
  intro b6
  refine lx_assign rfl rfl rfl ?_
  refine lx_nil ?_
  refine x_seq ?_
  refine xs_plain (E := EE []) ?_
  refine lx_loada 2 rfl rfl Tryz.isAgg40 Tryz.sizeOf40 (by simp) rfl rfl ?_
  refine lx_callB false rfl rfl ent51 (r9none _) (decide_eq_false on2_ne) rfl rfl ?_
  refine lx_nil ?_
  refine x_false rfl ?_
  refine x_skip ?_
  refine xs_plain (E := EE []) ?_
  refine lx_loada 2 rfl rfl Tryz.isAgg40 Tryz.sizeOf40 (by simp) rfl rfl ?_
  refine lx_call rfl rfl ent77 (r9xy a b) rfl rfl ?_
  refine lx_move rfl rfl rfl ?_
  refine lx_ext rfl rfl rfl rfl ?_
  refine lx_ext rfl rfl rfl rfl ?_
  refine lx_allocr 7 hGF zv38 rfl rfl ?_
  intro b7
  refine lx_allocr 8 hGF zv38 rfl rfl ?_
  intro b8
  refine lx_storea 7 hGF rfl rfl rfl Tryz.sizeOf38 (by simp) (by simp) (one_u64 _) rfl ?_
  refine lx_storea 8 hGF rfl rfl rfl Tryz.sizeOf38 (by simp) (by simp) (one_u64 _) rfl ?_
  refine lx_nil ?_
  refine xs_drawA (E := EE [2999999]) [0, 1, 2, 3, 4, 5, 6, 7] [⟨8, 9, 46, (List.replicate 48 (0#8)).map U8⟩, ⟨9, 10, 46, (List.replicate 48 (0#8)).map U8⟩] [10, 11] mixed rfl (by kernel_rfl) (by kernel_rfl) (by kernel_rfl) (by kernel_rfl) (by kernel_rfl) (by kernel_rfl) (by decide) (by intro x hx; simp only [List.mem_cons, List.not_mem_nil, or_false] at hx; rcases hx with rfl | rfl <;> exact isAlloc_mk rfl zv46 rfl) ?_
  refine lx_fak 0 rfl Tryz.underlying38 rfl Tryz.sizeOf36 (by decide) rfl rfl rfl ?_
  refine lx_loado 7 _ rfl rfl Tryz.isAgg36 Tryz.sizeOf36 (by simp) ld_l rfl rfl ?_
  refine lx_call rfl rfl ent79 (rnumberE _) rfl rfl ?_
  refine lx_call rfl rfl ent78 (rbytesE _) rfl rfl ?_
  refine lx_fak 6 rfl Tryz.underlying38 rfl Tryz.sizeOf36 (by decide) rfl rfl rfl ?_
  refine lx_loado 7 _ rfl rfl Tryz.isAgg36 Tryz.sizeOf36 (by simp) (ld_r (by simp)) rfl rfl ?_
  refine lx_call rfl rfl ent79 (rnumberE _) rfl rfl ?_
  refine lx_call rfl rfl ent78 (rbytesE _) rfl rfl ?_
  refine lx_nil ?_
  refine ⟨_, _, rfl, hGF, by intro x hx; simp only [List.mem_cons, List.not_mem_nil, or_false] at hx; rcases hx with rfl | rfl <;> rfl, by intro x hx; simp only [List.mem_cons, List.not_mem_nil, or_false] at hx; rcases hx with rfl | rfl <;> rfl, fun adr => ?_⟩
  refine lx_storea 9 hGF rfl rfl rfl Tryz.sizeOf46 (by simp) (by simp) (one_u8 _) rfl ?_
  refine lx_storea 10 hGF rfl rfl rfl Tryz.sizeOf46 (by simp) (by simp) (one_u8 _) rfl ?_
  refine lx_nil ?_
  refine x_seq ?_
  refine xs_plain (E := EE []) ?_
  refine lx_move rfl rfl rfl ?_
  refine lx_nil ?_
  refine x_true rfl ?_
  refine x_plain (E := EE []) ?_
  refine lx_move rfl rfl rfl ?_
  refine lx_slarr1 (l := 0) (h' := 48) rfl Tryz.underlying46 Tryz.sizeOf5 rfl rfl (by decide) (by decide) rfl rfl ?_
  refine lx_copys 6 (o := 0) (cs := by48 a.2) hGF rfl rfl rfl Tryz.underlying22 sz5 (by simp) (fun w' h => BytesAt.range (hp_row (n := 10) rfl w' h)) (by simp) rfl rfl ?_
  rw [lay96a]
  refine lx_nil ?_
  refine xs_drawn (E := EE []) mixed (by kernel_rfl) (by kernel_rfl) (by kernel_rfl) ?_
  refine lx_move rfl rfl rfl ?_
  refine lx_move rfl rfl rfl ?_
  refine lx_bin (v := I 48) rfl rfl (fun _ => rfl) (fun _ => bin_sub_i _ _ _ (by unfold inI; omega)) rfl rfl ?_
  refine lx_slsl (l := 48) (h' := 96) rfl Tryz.underlying22 Tryz.sizeOf5 rfl rfl (by decide) rfl rfl ?_
  refine lx_slarr1 (l := 0) (h' := 48) rfl Tryz.underlying46 Tryz.sizeOf5 rfl rfl (by decide) (by decide) rfl rfl ?_
  refine lx_copys 6 (o := 48) (cs := by48 a.1) hGF rfl rfl rfl Tryz.underlying22 sz5 (by simp) (fun w' h => BytesAt.range (hp_row (n := 9) rfl w' h)) (by simp) rfl rfl ?_
  rw [lay96b]
  refine lx_nil ?_
  refine xs_plain (E := EE []) ?_
  refine lx_move rfl rfl rfl ?_
  refine lx_is1 0 rfl rfl Tryz.underlying22 Tryz.sizeOf5 (by decide) (by decide) rfl rfl ?_
  refine lx_loadm 6 U8 0 rfl rfl Tryz.isAgg5 (by simp) rfl rfl ?_
  refine lx_bin (v := U8 ((by48 a.2 ++ by48 a.1).getD 0 0 ||| 128#8)) rfl rfl (fun _ => rfl) (fun _ => bin_or_u8 _ _ 128#8) rfl rfl ?_
  refine lx_is1 0 rfl rfl Tryz.underlying22 Tryz.sizeOf5 (by decide) (by decide) rfl rfl ?_
  refine lx_storem 6 U8 hGF rfl rfl rfl Tryz.sizeOf5 rfl (by simp) rfl ?_
  refine lx_nil ?_
  refine x_seq ?_
  refine xs_plain (E := EE []) ?_
  refine lx_loada 8 rfl rfl Tryz.isAgg38 Tryz.sizeOf38 (by simp) rfl rfl ?_
  refine lx_callB false rfl rfl ent80 (r5large _) (hl) rfl rfl ?_
  refine lx_nil ?_
  refine x_false rfl ?_
  refine x_skip ?_
  refine xs_plain (E := EE []) ?_
  refine lx_move rfl rfl rfl ?_
  refine lx_assign rfl rfl rfl ?_
  refine lx_nil ?_
  refine x_ret ?_
  repeat (first | refine kseq_ret ?_ | refine kblk_ret ?_)
  exact kret_tmp rfl rfl (fun w hw => ⟨b6, rfl, hp_below hw, (hw.own 6 b6 _ _ rfl).2.elim id False.elim, (hw.own 6 b6 _ _ rfl).1⟩)
end Go.Proofs.YtamddkjccmhgaaaGreatDoor

namespace Go.Proofs.YtamddkjccmhgaaaGreatDoor
open Go.RowKit
set_option maxRecDepth 100000
set_option maxHeartbeats 1000000
attribute [local simp] fe_len nm_len AS_len SS_len MONT_len RM_len FRs_len BYs_len by48_len PLl TWOl ONEl N1l IVPl HFPl RTPl FL_len SP_len fe2_len SP2_len FM_len J1.GL_len J2.GL_len MK_len OR0_len

def X1 (bs : List (BitVec 8)) : Zp := zp (BN (LO bs 0) 48)
def X2 (bs : List (BitVec 8)) : W2 := (zp (BN (LO bs 48) 48), zp (BN (LO bs 0) 48))
/-- Is a large y asked for? -/
def LB (bs : List (BitVec 8)) : Bool := FG bs &&& 32#8 != 0#8
/-- Of an x and a y that is asked for. -/
def NY {α : Type} (z : α) (inG : Option (α × α) → Prop) (l : Bool) (x y : α) (c : Int) (P : Option (α × α)) : Prop :=
  ((l = true ∧ y = z) ∧ c = 103 ∧ P = none) ∨ (¬ (l = true ∧ y = z) ∧ ((¬ inG (some (x, y)) ∧ c = 104 ∧ P = none) ∨ (inG (some (x, y)) ∧ c = 0 ∧ P = some (x, y))))
/-- Of the flags. -/
def FLG (bs : List (BitVec 8)) (n : Nat) {α : Type} (c : Int) (P : Option α) (R : Prop) : Prop :=
  (¬ bs.length = n ∧ c = 100 ∧ P = none) ∨ (bs.length = n ∧ ((FG bs &&& 128#8 = 0#8 ∧ c = 101 ∧ P = none) ∨ (¬ FG bs &&& 128#8 = 0#8 ∧ ((¬ FG bs &&& 64#8 = 0#8 ∧ c = INF bs n ∧ P = none) ∨ (FG bs &&& 64#8 = 0#8 ∧ R)))))
/-- The first group's decoding. -/
def D1 (bs : List (BitVec 8)) (c : Int) (P : Pt Zp) : Prop := FLG bs 48 c P ((¬ BN (LO bs 0) 48 < PP ∧ c = 102 ∧ P = none) ∨ (BN (LO bs 0) 48 < PP ∧
  ((¬ J1.LQ (X1 bs) ∧ c = 103 ∧ P = none) ∨ (J1.LQ (X1 bs) ∧ NY 0 (fun Q => E1.times Q ORD = none) (LB bs) (X1 bs) (J1.LY (X1 bs) (LB bs)) c P))))
/-- The second group's. -/
def D2 (bs : List (BitVec 8)) (c : Int) (P : Pt W2) : Prop := FLG bs 96 c P ((¬ (BN (LO bs 48) 48 < PP ∧ BN (LO bs 0) 48 < PP) ∧ c = 102 ∧ P = none) ∨ ((BN (LO bs 48) 48 < PP ∧ BN (LO bs 0) 48 < PP) ∧
  ((¬ J2.LQ (X2 bs) ∧ c = 103 ∧ P = none) ∨ (∃ r, ml2 r r = J2.RS4 (X2 bs) ∧ LG2 r = false ∧ NY ze2 (fun Q => E2w.times Q ORD = none) (LB bs) (X2 bs) (J2.sgY r (LB bs)) c P))))
theorem yz1 {y : Zp} : ((y, 0) : W2) = ze2 ↔ y = 0 := ⟨fun h => congrArg Prod.fst h, fun h => by rw [h]; rfl⟩
end Go.Proofs.YtamddkjccmhgaaaGreatDoor

namespace Go.Proofs.YtamddkjccmhgaaaGreatDoor
set_option maxRecDepth 100000
theorem bv_a : ∀ b : BitVec 8, b &&& 224#8 = 0#8 → (b ||| 128#8) &&& 31#8 = b ∧ ((b ||| 128#8) ||| 32#8) &&& 31#8 = b ∧ ¬ ((b ||| 128#8) &&& 224#8) &&& 128#8 = 0#8 ∧ ¬ (((b ||| 128#8) ||| 32#8) &&& 224#8) &&& 128#8 = 0#8 ∧ ((b ||| 128#8) &&& 224#8) &&& 64#8 = 0#8 ∧ (((b ||| 128#8) ||| 32#8) &&& 224#8) &&& 64#8 = 0#8 ∧ ((b ||| 128#8) &&& 224#8) &&& 32#8 = 0#8 ∧ ¬ (((b ||| 128#8) ||| 32#8) &&& 224#8) &&& 32#8 = 0#8 := by decide +kernel
/-- With the flags. -/
def ENF (B : List (BitVec 8)) (l : Bool) : List (BitVec 8) := if l = true then OR0 (OR0 B 128#8) 32#8 else OR0 B 128#8
theorem MK_c (b : BitVec 8) (r : List (BitVec 8)) : MK (b :: r) = (b &&& 31#8) :: r := rfl
theorem FG_c (b : BitVec 8) (r : List (BitVec 8)) : FG (b :: r) = b &&& 224#8 := rfl
theorem ENF_t (b : BitVec 8) (r : List (BitVec 8)) : ENF (b :: r) true = ((b ||| 128#8) ||| 32#8) :: r := rfl
theorem ENF_f (b : BitVec 8) (r : List (BitVec 8)) : ENF (b :: r) false = (b ||| 128#8) :: r := rfl
theorem ENF_len (B : List (BitVec 8)) (l : Bool) : (ENF B l).length = B.length := by
  cases l <;> simp [ENF, OR0_len]
structure Top (B : List (BitVec 8)) : Prop where
  ne : 0 < B.length
  lt : B.getD 0 0 &&& 224#8 = 0#8
theorem ENF_all {B : List (BitVec 8)} (h : Top B) (l : Bool) : MK (ENF B l) = B ∧ ¬ FG (ENF B l) &&& 128#8 = 0#8 ∧ FG (ENF B l) &&& 64#8 = 0#8 ∧ LB (ENF B l) = l := by
  cases B with
  | nil => exact absurd h.ne (by decide)
  | cons b r =>
    obtain ⟨h1, h2, h3, h4, h5, h6, h7, h8⟩ := bv_a b h.lt
    cases l with
    | true => exact ⟨by rw [ENF_t, MK_c, h2], by rw [ENF_t, FG_c]; exact h4, by rw [ENF_t, FG_c]; exact h6, by rw [LB, ENF_t, FG_c]; exact bne_iff_ne.2 h8⟩
    | false => exact ⟨by rw [ENF_f, MK_c, h1], by rw [ENF_f, FG_c]; exact h3, by rw [ENF_f, FG_c]; exact h5, by rw [LB, ENF_f, FG_c]; exact bne_eq_false_iff_eq.2 h7⟩
/-! ### Numbers below p have noughts there -/
theorem BN_top (bs : List (BitVec 8)) : ∀ n, (bs.getD 0 0).toNat * 256 ^ n ≤ BN bs (n + 1)
  | 0 => by rw [BN, BN]; omega
  | n + 1 => by
    have := BN_top bs n
    rw [BN, Nat.pow_succ]
    generalize 256 ^ n = p at *
    generalize BN bs (n + 1) = q at *
    generalize (bs.getD 0 0).toNat = t at *
    have : t * (p * 256) = t * p * 256 := by rw [Nat.mul_assoc]
    omega
theorem PP_top : PP < 32 * 256 ^ 47 := by decide +kernel
theorem bv_t : ∀ b : BitVec 8, b.toNat < 32 → b &&& 224#8 = 0#8 := by decide +kernel
theorem top_of {bs : List (BitVec 8)} (h : bs.length = 48) (hl : BN bs 48 < PP) : Top bs := by
  refine ⟨by omega, bv_t _ ?_⟩
  have h1 := BN_top bs 47
  have h2 := PP_top
  generalize (bs.getD 0 0).toNat = t at *
  have h3 : t * 256 ^ 47 < 32 * 256 ^ 47 := Nat.lt_of_le_of_lt h1 (Nat.lt_trans hl h2)
  exact Nat.lt_of_mul_lt_mul_right h3
theorem by48_lt (x : Zp) : BN (by48 x) 48 < PP := by rw [BN_by48]; exact x.isLt
theorem by48_top (x : Zp) : Top (by48 x) := top_of (by48_len x) (by48_lt x)
theorem zp_by48 (x : Zp) : zp (BN (by48 x) 48) = x := by
  rw [BN_by48]; exact zp_of x
end Go.Proofs.YtamddkjccmhgaaaGreatDoor

namespace Go.Proofs.YtamddkjccmhgaaaGreatDoor
set_option maxRecDepth 100000
def EN1 : Pt Zp → List (BitVec 8)
  | none => (List.replicate 48 0#8).set 0 192#8
  | some p => ENF (by48 p.1) (LG2 (p.2, 0))
def EN2 : Pt W2 → List (BitVec 8)
  | none => (List.replicate 96 0#8).set 0 192#8
  | some p => ENF (by48 p.1.2 ++ by48 p.1.1) (LG2 p.2)
theorem EN1_s (x y : Zp) : EN1 (some (x, y)) = ENF (by48 x) (LG2 (y, 0)) := rfl
theorem EN2_s (x y : W2) : EN2 (some (x, y)) = ENF (by48 x.2 ++ by48 x.1) (LG2 y) := rfl
theorem ng_re (y : Zp) : ng2 (y, 0) = (-y, 0) := w2_ext rfl (by show -(0 : Zp) = 0; exact z_n0')
theorem LG_negr {y : Zp} (h : y ≠ 0) : LG2 (-y, 0) = !LG2 (y, 0) := by
  rw [← ng_re]; exact LG2_neg (fun e => h (yz1.1 e))
/-! ### Roots -/
theorem LQ_of {x y : Zp} (h : y * y = J1.RS4 x) : J1.LQ x := by
  show SQr (J1.RS4 x) * SQr (J1.RS4 x) = J1.RS4 x
  rw [← h]; exact sq_has y
theorem LY_of {x y : Zp} (h : y * y = J1.RS4 x) : J1.LY x (LG2 (y, 0)) = y := by
  have hq := LQ_of h
  have s := SQ_of y
  have sm : LG2 (SQ (J1.RS4 x), 0) = false := LG_re (SQ_small hq)
  rw [h] at s
  cases hl : LG2 (y, 0) with
  | false =>
    rw [J1.LY_f hq]
    generalize SQ (J1.RS4 x) = t at *
    rcases s with e | e
    · exact e
    · by_cases h0 : y = 0
      · rw [e, h0]; exact z_n0'
      · rw [e, LG_negr h0, hl] at sm; cases sm
  | true =>
    rw [J1.LY_t hq]
    generalize SQ (J1.RS4 x) = t at *
    rcases s with e | e
    · rw [e, hl] at sm; cases sm
    · rw [e]; exact J1.neg_neg0 y
theorem sg_of {x y : W2} (h : ml2 y y = J2.RS4 x) : ∃ r, ml2 r r = J2.RS4 x ∧ LG2 r = false ∧ J2.sgY r (LG2 y) = y := by
  cases hl : LG2 y with
  | false => exact ⟨y, h, hl, rfl⟩
  | true =>
    have h0 : y ≠ ze2 := fun e => by rw [e, LG2_ze] at hl; cases hl
    exact ⟨ng2 y, (J2.ng_sq y).trans h, by rw [LG2_neg h0, hl]; rfl, R2.neg_neg y⟩
/-! ### Written and read -/
theorem LO_1 {bs : List (BitVec 8)} (h : bs.length = 48) : LO bs 0 = MK bs := by
  rw [LO, List.drop_zero]; exact List.take_of_length_le (by rw [MK_len]; omega)
theorem D1_enc {x y : Zp} (on : E1.on (x, y)) {c : Int} {Q : Pt Zp} (h : NY 0 (fun Q => E1.times Q ORD = none) (LG2 (y, 0)) x y c Q) : D1 (EN1 (some (x, y))) c Q := by
  have hy := J1.E1_rs.1 on
  obtain ⟨m, f, s, l⟩ := ENF_all (by48_top x) (LG2 (y, 0))
  have hlen : (EN1 (some (x, y))).length = 48 := (ENF_len _ _).trans (by48_len x)
  have lo : LO (EN1 (some (x, y))) 0 = by48 x := (LO_1 hlen).trans m
  have ex : X1 (EN1 (some (x, y))) = x := by rw [X1, lo, zp_by48]
  refine .inr ⟨hlen, .inr ⟨f, .inr ⟨s, .inr ⟨by rw [lo]; exact by48_lt x, .inr ?_⟩⟩⟩⟩
  rw [ex, show LB (EN1 (some (x, y))) = LG2 (y, 0) from l, LY_of hy]
  exact ⟨LQ_of hy, h⟩
theorem LO_2 {a b : List (BitVec 8)} {bs : List (BitVec 8)} (ha : a.length = 48) (hb : b.length = 48) (h : MK bs = a ++ b) : LO bs 0 = a ∧ LO bs 48 = b := by
  rw [LO, LO, h, List.drop_zero]
  exact ⟨List.take_left' ha, by rw [List.drop_left' ha]; exact List.take_of_length_le (by omega)⟩
theorem top_app {a b : List (BitVec 8)} (h : Top a) : Top (a ++ b) := by
  cases a with
  | nil => exact absurd h.ne (by decide)
  | cons x r => exact ⟨by simp, h.lt⟩
theorem D2_enc {x y : W2} (on : E2w.on (x, y)) {c : Int} {Q : Pt W2} (h : NY ze2 (fun Q => E2w.times Q ORD = none) (LG2 y) x y c Q) : D2 (EN2 (some (x, y))) c Q := by
  have hy := J2.E1_rs.1 on
  obtain ⟨m, f, s, l⟩ := ENF_all (top_app (b := by48 x.1) (by48_top x.2)) (LG2 y)
  have hlen : (EN2 (some (x, y))).length = 96 := (ENF_len _ _).trans (by rw [List.length_append, by48_len, by48_len])
  obtain ⟨l0, l48⟩ := LO_2 (bs := EN2 (some (x, y))) (by48_len x.2) (by48_len x.1) m
  have ex : X2 (EN2 (some (x, y))) = x := by rw [X2, l0, l48, zp_by48, zp_by48]
  obtain ⟨r, hr, hs, e⟩ := sg_of hy
  refine .inr ⟨hlen, .inr ⟨f, .inr ⟨s, .inr ⟨by rw [l0, l48]; exact ⟨by48_lt _, by48_lt _⟩, .inr ⟨r, ?_⟩⟩⟩⟩⟩
  rw [ex, show LB (EN2 (some (x, y))) = LG2 y from l, e]
  exact ⟨hr, hs, h⟩
/-- Of the infinite points. -/
theorem D1_none : D1 (EN1 none) 0 none := .inr ⟨by decide, .inr ⟨by decide, .inl ⟨by decide, by decide +kernel, rfl⟩⟩⟩
theorem D2_none : D2 (EN2 none) 0 none := .inr ⟨by decide, .inr ⟨by decide, .inl ⟨by decide, by decide +kernel, rfl⟩⟩⟩
theorem NY_in {α : Type} {z : α} {inG : Option (α × α) → Prop} {l : Bool} {x y : α} (h : ¬ (l = true ∧ y = z)) (g : inG (some (x, y))) : NY z inG l x y 0 (some (x, y)) := .inr ⟨h, .inr ⟨g, rfl, rfl⟩⟩
theorem lg_nz1 {y : Zp} : ¬ (LG2 (y, 0) = true ∧ y = 0) := fun ⟨h, e⟩ => by
  rw [e, show ((0, 0) : W2) = ze2 from rfl, LG2_ze] at h; cases h
theorem lg_nz2 {y : W2} : ¬ (LG2 y = true ∧ y = ze2) := fun ⟨h, e⟩ => by
  rw [e, LG2_ze] at h; cases h
/-- Points of the groups are read back; others are refused. -/
theorem D1_in {P : Pt Zp} (on : E1.onP P) (g : E1.times P ORD = none) : D1 (EN1 P) 0 P := by
  cases P with
  | none => exact D1_none
  | some p => exact D1_enc (x := p.1) (y := p.2) on (NY_in lg_nz1 g)
theorem D2_in {P : Pt W2} (on : E2w.onP P) (g : E2w.times P ORD = none) : D2 (EN2 P) 0 P := by
  cases P with
  | none => exact D2_none
  | some p => exact D2_enc (x := p.1) (y := p.2) on (NY_in lg_nz2 g)
end Go.Proofs.YtamddkjccmhgaaaGreatDoor

namespace Go.Proofs.YtamddkjccmhgaaaGreatDoor
open Go.RowKit
set_option maxRecDepth 100000
set_option maxHeartbeats 1000000
attribute [local simp] fe_len nm_len AS_len SS_len MONT_len RM_len FRs_len BYs_len by48_len PLl TWOl ONEl N1l IVPl HFPl RTPl FL_len SP_len fe2_len SP2_len FM_len J1.GL_len J2.GL_len MK_len OR0_len

theorem bytes_same (xs : List (BitVec 8)) (a1 : Option Addr) (len1 cap1 : Nat) (a2 : Option Addr) (len2 cap2 : Nat) (hl1 : xs.length = len1) (hl2 : xs.length = len2) (w : World) (hw : Gt w) (h1 : BytesAt w a1 xs) (h2 : BytesAt w a2 xs) :
    Calls Tryz.prog 12 [.slice a1 len1 cap1, .slice a2 len2 cap2].toArray w (fun e w' => e = .returned (.bool true) ∧ Grow w w') := by
  have hGF : BOk Gt (pl w) := gt_low.plain hw
  refine calls_of_X (G := Gt) Tryz.func12 rfl rfl (Hp (pl w) []) (hp_refl (pl w) trivial rides_true) (good_hp hGF) ?_
  refine xs_plain (E := EE []) ?_
  refine lx_assign rfl rfl rfl ?_
  refine lx_nil ?_
  refine xs_plain (E := EE []) ?_
  refine lx_move rfl rfl rfl ?_
  refine lx_convr rfl rfl (fun w' hw' => conv_str Tryz.underlying22 Tryz.underlying5 Tryz.underlying9 (h1.grow (hp_below hw')) _ _ hl1) rfl rfl ?_
  refine lx_move rfl rfl rfl ?_
  refine lx_convr rfl rfl (fun w' hw' => conv_str Tryz.underlying22 Tryz.underlying5 Tryz.underlying9 (h2.grow (hp_below hw')) _ _ hl2) rfl rfl ?_
  refine lx_bin (v := .bool true) rfl rfl (fun _ => rfl) (fun w => bin_eq_str _ _ w) rfl rfl ?_
  refine lx_assign rfl rfl rfl ?_
  refine lx_nil ?_
  refine x_ret ?_
  repeat (first | refine kseq_ret ?_ | refine kblk_ret ?_)
  exact kret_tmp rfl rfl (fun w hw => ⟨rfl, hp_below hw⟩)
/-- The reference's Encode of a point of the first curve, of the second. -/
theorem r9enc1_c (P : Pt Zp) (w : World) (hw : Gt w) : Calls Tryz.prog 27 [EV6 (RJ P), .bool false].toArray w (fun e w' => ∃ bm, e = .returned (.slice (some ⟨bm, 0, none⟩) 48 48) ∧ Grow w w' ∧ w.heap.size ≤ bm ∧ OwnB w' bm ((EN1 P).map U8) 5) := by
  cases P with
  | none => exact r9enc1_n w hw
  | some p =>
    cases h : LG2 (p.2, 0) with
    | true =>
      have k := r9enc1_t (p.1, 0) (p.2, 0) h w hw
      rw [show EN1 (some p) = OR0 (OR0 (by48 p.1) 128#8) 32#8 from by rw [show (some p : Pt Zp) = some (p.1, p.2) from rfl, EN1_s, h]; rfl]
      exact k
    | false =>
      have k := r9enc1_f (p.1, 0) (p.2, 0) h w hw
      rw [show EN1 (some p) = OR0 (by48 p.1) 128#8 from by rw [show (some p : Pt Zp) = some (p.1, p.2) from rfl, EN1_s, h]; rfl]
      exact k
theorem r9enc2_c (P : Pt W2) (w : World) (hw : Gt w) : Calls Tryz.prog 27 [EV6 (RJ2 P), .bool true].toArray w (fun e w' => ∃ bm, e = .returned (.slice (some ⟨bm, 0, none⟩) 96 96) ∧ Grow w w' ∧ w.heap.size ≤ bm ∧ OwnB w' bm ((EN2 P).map U8) 5) := by
  cases P with
  | none => exact r9enc2_n w hw
  | some p =>
    cases h : LG2 p.2 with
    | true =>
      have k := r9enc2_t p.1 p.2 h w hw
      rw [show EN2 (some p) = OR0 (OR0 (by48 p.1.2 ++ by48 p.1.1) 128#8) 32#8 from by rw [show (some p : Pt W2) = some (p.1, p.2) from rfl, EN2_s, h]; rfl]
      exact k
    | false =>
      have k := r9enc2_f p.1 p.2 h w hw
      rw [show EN2 (some p) = OR0 (by48 p.1.2 ++ by48 p.1.1) 128#8 from by rw [show (some p : Pt W2) = some (p.1, p.2) from rfl, EN2_s, h]; rfl]
      exact k
end Go.Proofs.YtamddkjccmhgaaaGreatDoor
