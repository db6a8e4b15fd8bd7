/-
  The law XmdLengths.
  The chapter's examples.
  The three laws.
-/
import Derived.Test.YtlimfhjjadbjgaaDoorQ4
import Derived.Test.YtlimfhjjadbjgaaDoorQ5
import Derived.Test.YtlimfhjjadbjgaaDoorX3
namespace Go.Proofs.YtlimfhjjadbjgaaDoor
open Go.RowKit
set_option maxRecDepth 100000
set_option maxHeartbeats 1000000

namespace Xm
attribute [local simp] Sh.SHA_len B0_len F_len R_len Xk_len O_len Sh.MK_len D_len

theorem plc_n (z m : Int) (hm : 0 < m) (hm2 : m < 1000) (h5 : -m < z.tmod m) (h : z.tmod m < 0) : Pure Tryd.prog Gt 11 [I z, I m] (I (z.tmod m + m)) := by
  intro w hw
  have hGF : BOk Gt (pl w) := gt_low.plain hw
  refine calls_of_X (G := Gt) Tryd.func11 rfl rfl (Hp (pl w) []) (hp_refl (pl w) trivial rides_true) (good_hp hGF) ?_
  refine xs_plain (E := EE []) ?_
  refine lx_assign rfl rfl rfl ?_
  refine lx_nil ?_
  refine xs_plain (E := EE []) ?_
  refine lx_move rfl rfl rfl ?_
  refine lx_move rfl rfl rfl ?_
  refine lx_bin (v := I (z.tmod m)) rfl rfl (fun _ => rfl) (fun _ => bin_rem_i _ _ _ (by omega)) rfl rfl ?_
  refine lx_assign rfl rfl rfl ?_
  refine lx_nil ?_
  refine x_seq ?_
  refine xs_plain (E := EE []) ?_
  refine lx_move rfl rfl rfl ?_
  refine lx_binB true rfl rfl (fun _ => rfl) (fun _ => bin_lss_i _ _ _) (decide_eq_true (by omega)) rfl rfl ?_
  refine lx_nil ?_
  refine x_true rfl ?_
  refine x_plain (E := EE []) ?_
  refine lx_move rfl rfl rfl ?_
  refine lx_move rfl rfl rfl ?_
  refine lx_bin (v := I (z.tmod m + m)) rfl rfl (fun _ => rfl) (fun _ => bin_add_i _ _ _ (by unfold inI; omega)) rfl rfl ?_
  refine lx_assign rfl rfl rfl ?_
  refine lx_nil ?_
  refine xs_plain (E := EE []) ?_
  refine lx_move rfl rfl rfl ?_
  refine lx_assign rfl rfl rfl ?_
  refine lx_nil ?_
  refine x_ret ?_
  repeat (first | refine kseq_ret ?_ | refine kblk_ret ?_)
  exact kret_tmp rfl rfl (fun w hw => ⟨rfl, hp_below hw⟩)
theorem plc_p (z m : Int) (hm : 0 < m) (h : ¬ z.tmod m < 0) : Pure Tryd.prog Gt 11 [I z, I m] (I (z.tmod m)) := by
  intro w hw
  have hGF : BOk Gt (pl w) := gt_low.plain hw
  refine calls_of_X (G := Gt) Tryd.func11 rfl rfl (Hp (pl w) []) (hp_refl (pl w) trivial rides_true) (good_hp hGF) ?_
  refine xs_plain (E := EE []) ?_
  refine lx_assign rfl rfl rfl ?_
  refine lx_nil ?_
  refine xs_plain (E := EE []) ?_
  refine lx_move rfl rfl rfl ?_
  refine lx_move rfl rfl rfl ?_
  refine lx_bin (v := I (z.tmod m)) rfl rfl (fun _ => rfl) (fun _ => bin_rem_i _ _ _ (by omega)) rfl rfl ?_
  refine lx_assign rfl rfl rfl ?_
  refine lx_nil ?_
  refine x_seq ?_
  refine xs_plain (E := EE []) ?_
  refine lx_move rfl rfl rfl ?_
  refine lx_binB false rfl rfl (fun _ => rfl) (fun _ => bin_lss_i _ _ _) (decide_eq_false (by omega)) rfl rfl ?_
  refine lx_nil ?_
  refine x_false rfl ?_
  refine x_skip ?_
  refine xs_plain (E := EE []) ?_
  refine lx_move rfl rfl rfl ?_
  refine lx_assign rfl rfl rfl ?_
  refine lx_nil ?_
  refine x_ret ?_
  repeat (first | refine kseq_ret ?_ | refine kblk_ret ?_)
  exact kret_tmp rfl rfl (fun w hw => ⟨rfl, hp_below hw⟩)
theorem place (z : Int) (m : Nat) (hm : 0 < m) (hm2 : m < 1000) : ∃ p : Nat, p < m ∧ Pure Tryd.prog Gt 11 [I z, I (m : Int)] (I (p : Int)) := by
  have h2 := Int.tmod_lt_of_pos z (b := (m : Int)) (by omega)
  have h3 : -(m : Int) < z.tmod m := by
    rcases Int.le_total 0 z with hz | hz
    · have := Int.tmod_nonneg (m : Int) hz
      omega
    · have e := Int.neg_tmod z m
      have := Int.tmod_lt_of_pos (-z) (b := (m : Int)) (by omega)
      omega
  by_cases h : z.tmod m < 0
  · refine ⟨(z.tmod m + m).toNat, by omega, ?_⟩
    rw [Int.toNat_of_nonneg (by omega)]
    exact plc_n z m (by omega) (by omega) h3 h
  · refine ⟨(z.tmod m).toNat, by omega, ?_⟩
    rw [Int.toNat_of_nonneg (by omega)]
    exact plc_p z m (by omega) h
/-- The number that tells what is wrong. -/
def Er (msg dst : List (BitVec 8)) (z : Int) : Int := if z < 0 ∨ 8160 < z ∨ 255 < dst.length ∨ 65536 < msg.length then 130 else 0
theorem RT.gen {msg dst : List (BitVec 8)} {z : Int} {w : World} {v : Value} (h : RT msg dst z w v) : ∃ a len cap, v = .tuple #[.slice a len cap, I (Er msg dst z)] ∧ (Er msg dst z = 0 → (len : Int) = z) := by
  by_cases hb : z < 0 ∨ 8160 < z ∨ 255 < dst.length ∨ 65536 < msg.length
  · exact ⟨none, 0, 0, by rw [h.bad hb, Er, if_pos hb], fun e => by rw [Er, if_pos hb] at e; cases e⟩
  · obtain ⟨a, cap, hv, _, _⟩ := h.ok hb
    refine ⟨a, _, cap, by rw [hv, Er, if_neg hb], fun _ => ?_⟩
    rw [E_len]
    have : ¬ z < 0 := fun hz => hb (.inl hz)
    omega
theorem made (k : Nat) : (madeCells (Value.int .u8 0).cells (k * 1)).toList = (List.replicate k 0#8).map U8 := by
  refine List.ext_getElem? fun i => ?_
  rw [Nat.mul_one, madeCells, Array.toList_map, List.getElem?_map, List.getElem?_map, Array.toList_range]
  by_cases h : i < k
  · rw [List.getElem?_range h, List.getElem?_replicate, if_pos h]
    show some ((Value.int .u8 0).cells[i % 1]!) = _
    rw [Nat.mod_one]; rfl
  · rw [List.getElem?_eq_none (by rw [List.length_range]; omega), List.getElem?_replicate, if_neg h]; rfl
theorem hmkN (k : Nat) (h : k ≤ 100000) : k * ti5.choose.size ≤ 16777216 ∧ ti5.choose.bytes * k ≤ 281474976710656 ∧ k ≤ 1000000 := by
  rw [ti5.choose_spec.2.2.1, ti5.choose_spec.2.2.2]; omega
theorem e_130 {msg dst : List (BitVec 8)} {z : Int} {q : Bool} (h : (z < 0 ∨ 8160 < z ∨ 255 < dst.length ∨ 65536 < msg.length) ↔ q = true) : ((Er msg dst z == 130) == q) = true := by
  unfold Er
  cases q with
  | true => rw [if_pos (h.2 rfl)]; rfl
  | false => rw [if_neg (fun e => by cases h.1 e)]; rfl
theorem er_0 {msg dst : List (BitVec 8)} {z : Int} (h : ¬ Er msg dst z = 130) : Er msg dst z = 0 := by
  unfold Er at *
  split
  · rename_i hc; exact absurd (if_pos hc) h
  · rfl
theorem len1 {a1 a2 : Option Addr} {cap1 cap2 k : Nat} {msg : List (BitVec 8)} {z : Int} {w : World} (_ : PXC) (dst : List (BitVec 8)) (hk : dst.length = k) (h : Calls Tryd.prog 7 [.slice a1 msg.length cap1, .slice a2 dst.length cap2, I z].toArray w (fun e w' => ∃ v, e = .returned v ∧ Grow w w' ∧ RT msg dst z w' v)) : Calls Tryd.prog 7 [.slice a1 msg.length cap1, .slice a2 k cap2, I z].toArray w (fun e w' => ∃ v, e = .returned v ∧ Grow w w' ∧ RT msg dst z w' v) := by subst hk; exact h
theorem len2 {a1 a2 : Option Addr} {cap1 cap2 k : Nat} {dst : List (BitVec 8)} {z : Int} {w : World} (_ : PXC) (msg : List (BitVec 8)) (hk : msg.length = k) (h : Calls Tryd.prog 7 [.slice a1 msg.length cap1, .slice a2 dst.length cap2, I z].toArray w (fun e w' => ∃ v, e = .returned v ∧ Grow w w' ∧ RT msg dst z w' v)) : Calls Tryd.prog 7 [.slice a1 k cap1, .slice a2 dst.length cap2, I z].toArray w (fun e w' => ∃ v, e = .returned v ∧ Grow w w' ∧ RT msg dst z w' v) := by subst hk; exact h
theorem ln_b (hK : ∀ w, Gt w → Calls Tryd.prog 6 [].toArray w (fun e w' => e = .returned (.bool true) ∧ Grow w w')) (a : Option Addr) (cap : Nat) (msg : List (BitVec 8)) (z1 z2 z3 : Int) (h0 : 500 < msg.length) (w : World) (hw : Gt w) : Calls Tryd.prog 4 [.slice a msg.length cap, I z1, I z2, I z3].toArray w (fun e w' => e = .returned (.bool true) ∧ Grow w w') := by
  have hGF : BOk Gt (pl w) := gt_low.plain hw
  have hgw : Grow w w := Grow.refl w
  refine calls_of_X (G := Gt) Tryd.func4 rfl rfl (Hp (pl w) []) (hp_refl (pl w) trivial rides_true) (good_hp hGF) ?_
  refine xs_plain (E := EE [7]) ?_
  refine lx_assign rfl rfl rfl ?_
  refine lx_nil ?_
  refine x_seq ?_
  refine xs_plain (E := EE [7]) ?_
  refine lx_callC rfl rfl ent6 (fun w' hC hG => hK w' hG) rfl rfl ?_
  refine lx_un rfl (fun _ => un_not _) rfl rfl ?_
  refine lx_nil ?_
  refine x_false rfl ?_
  refine x_skip ?_
  refine x_seq ?_
  refine xs_plain (E := EE [7]) ?_
  refine lx_move rfl rfl rfl ?_
  refine lx_len rfl (fun _ => len_slice Tryd.underlying22 _ _ _ _) rfl rfl ?_
  refine lx_binB true rfl rfl (fun _ => rfl) (fun _ => bin_gtr_i _ _ _) (decide_eq_true (by omega)) rfl rfl ?_
  refine lx_nil ?_
  refine x_true rfl ?_
  refine xs_plain (E := EE [7]) ?_
  refine lx_assign rfl rfl rfl ?_
  refine lx_nil ?_
  refine x_ret ?_
  repeat (first | refine kseq_ret ?_ | refine kblk_ret ?_)
  exact kret_tmp rfl rfl (fun w hw => ⟨rfl, hgw.trans (hp_below hw)⟩)
theorem ln_y (hK : ∀ w, Gt w → Calls Tryd.prog 6 [].toArray w (fun e w' => e = .returned (.bool true) ∧ Grow w w')) (a : Option Addr) (cap : Nat) (msg : List (BitVec 8)) (z1 z2 z3 : Int) (hP : PXC) (hc : msg.length ≤ cap) (h0 : ¬ 500 < msg.length) (p1 p2 p3 : Nat) (b1 : p1 < 5) (b2 : p2 < 5) (b3 : p3 < 5) (hp1 : Pure Tryd.prog Gt 11 [I z1, I 5] (I (p1 : Int))) (hp2 : Pure Tryd.prog Gt 11 [I z2, I 5] (I (p2 : Int))) (hp3 : Pure Tryd.prog Gt 11 [I z3, I 5] (I (p3 : Int))) (hf : Er msg [] (((8158 + p2) : Nat) : Int) = 130) (w : World) (hw : Gt w) (hb : BytesAt w a msg) : Calls Tryd.prog 4 [.slice a msg.length cap, I z1, I z2, I z3].toArray w (fun e w' => e = .returned (.bool true) ∧ Grow w w') := by
  have hGF : BOk Gt (pl w) := gt_low.plain hw
  have hgw : Grow w w := Grow.refl w
  refine calls_of_X (G := Gt) Tryd.func4 rfl rfl (Hp (pl w) []) (hp_refl (pl w) trivial rides_true) (good_hp hGF) ?_
  refine xs_plain (E := EE [7]) ?_
  refine lx_assign rfl rfl rfl ?_
  refine lx_nil ?_
  refine x_seq ?_
  refine xs_plain (E := EE [7]) ?_
  refine lx_callC rfl rfl ent6 (fun w' hC hG => hK w' hG) rfl rfl ?_
  refine lx_un rfl (fun _ => un_not _) rfl rfl ?_
  refine lx_nil ?_
  refine x_false rfl ?_
  refine x_skip ?_
  refine x_seq ?_
  refine xs_plain (E := EE [7]) ?_
  refine lx_move rfl rfl rfl ?_
  refine lx_len rfl (fun _ => len_slice Tryd.underlying22 _ _ _ _) rfl rfl ?_
  refine lx_binB false rfl rfl (fun _ => rfl) (fun _ => bin_gtr_i _ _ _) (decide_eq_false (by omega)) rfl rfl ?_
  refine lx_nil ?_
  refine x_false rfl ?_
  refine x_skip ?_
  refine xs_plain (E := EE [7]) ?_
  refine lx_move rfl rfl rfl ?_
  refine lx_call rfl rfl ent11 hp1 rfl rfl ?_
  refine lx_bin (v := I (((253 + p1) : Nat) : Int)) rfl rfl (fun _ => rfl) (fun _ => (bin_add_i _ _ _ (by unfold inI; omega)).trans (by rw [show (253 : Int) + (p1 : Int) = (((253 + p1) : Nat) : Int) by omega])) rfl rfl ?_
  refine lx_move rfl rfl rfl ?_
  refine lx_call rfl rfl ent11 hp2 rfl rfl ?_
  refine lx_bin (v := I (((8158 + p2) : Nat) : Int)) rfl rfl (fun _ => rfl) (fun _ => (bin_add_i _ _ _ (by unfold inI; omega)).trans (by rw [show (8158 : Int) + (p2 : Int) = (((8158 + p2) : Nat) : Int) by omega])) rfl rfl ?_
  refine lx_move rfl rfl rfl ?_
  refine lx_call rfl rfl ent11 hp3 rfl rfl ?_
  refine lx_bin (v := I (((65534 + p3) : Nat) : Int)) rfl rfl (fun _ => rfl) (fun _ => (bin_add_i _ _ _ (by unfold inI; omega)).trans (by rw [show (65534 : Int) + (p3 : Int) = (((65534 + p3) : Nat) : Int) by omega])) rfl rfl ?_
  refine lx_assign rfl rfl rfl ?_
  refine lx_assign rfl rfl rfl ?_
  refine lx_assign rfl rfl rfl ?_
  refine lx_nil ?_
  refine xs_plain (E := EE [7]) ?_
  refine lx_move rfl rfl rfl ?_
  refine lx_move rfl rfl rfl ?_
  refine lx_mksl (m := (253 + p1)) 32 hGF rfl rfl Tryd.underlying22 ti5.choose_spec.1 ti5.choose_spec.2.1 (hmkN (253 + p1) (by omega)) (hmc (253 + p1) ti5.choose_spec (made _)) rfl rfl ?_
  intro b32
  refine lx_callH rfl rfl ent7 rfl rfl gt_low (good_hp hGF) (fun w' hC hG => len1 (k := (253 + p1)) hP (List.replicate (253 + p1) 0#8) (by rw [List.length_replicate]) (hP a cap msg _ (253 + p1) (List.replicate (253 + p1) 0#8) 40 w' (by omega) hc (by simp; omega) (by simp) hG (hb.grow (hgw.trans (hp_below hC))) (BytesAt.range (hp_row (n := 32) rfl w' hC)))) (fun w0 w1 v h0 hg hG1 hq => ?_)
  replace hgw := hgw.trans ((hp_below h0).trans hg)
  clear h0 hg hGF
  have hGF : BOk Gt (pl w1) := gt_low.plain hG1
  obtain ⟨x1, l1, c1, rfl, _⟩ := hq.gen
  refine lx_move rfl rfl rfl ?_
  refine lx_ext rfl rfl rfl rfl ?_
  refine lx_ext rfl rfl rfl rfl ?_
  refine lx_assign rfl rfl rfl ?_
  refine lx_assign rfl rfl rfl ?_
  refine lx_nil ?_
  refine xs_plain (E := EE [7]) ?_
  refine lx_move rfl rfl rfl ?_
  refine lx_move rfl rfl rfl ?_
  refine lx_callH rfl rfl ent7 rfl rfl gt_low (good_hp hGF) (fun w' hC hG => hP a cap msg none 0 [] (((8158 + p2) : Nat) : Int) w' (by omega) hc (by simp) (by simp) hG (hb.grow (hgw.trans (hp_below hC))) (fun j v hv => by simp at hv)) (fun w0 w1 v h0 hg hG1 hq => ?_)
  replace hgw := hgw.trans ((hp_below h0).trans hg)
  clear h0 hg hGF
  have hGF : BOk Gt (pl w1) := gt_low.plain hG1
  obtain ⟨x2, l2, c2, rfl, he2⟩ := hq.gen
  refine lx_move rfl rfl rfl ?_
  refine lx_ext rfl rfl rfl rfl ?_
  refine lx_ext rfl rfl rfl rfl ?_
  refine lx_assign rfl rfl rfl ?_
  refine lx_assign rfl rfl rfl ?_
  refine lx_nil ?_
  refine xs_plain (E := EE [7]) ?_
  refine lx_move rfl rfl rfl ?_
  refine lx_mksl (m := (65534 + p3)) 44 hGF rfl rfl Tryd.underlying22 ti5.choose_spec.1 ti5.choose_spec.2.1 (hmkN (65534 + p3) (by omega)) (hmc (65534 + p3) ti5.choose_spec (made _)) rfl rfl ?_
  intro b44
  refine lx_callH rfl rfl ent7 rfl rfl gt_low (good_hp hGF) (fun w' hC hG => len2 (dst := []) (k := (65534 + p3)) (cap1 := (65534 + p3)) (cap2 := 0) (a2 := none) (z := 40) hP (List.replicate (65534 + p3) 0#8) (by rw [List.length_replicate]) (hP _ (65534 + p3) (List.replicate (65534 + p3) 0#8) none 0 [] 40 w' (by simp; omega) (by simp) (by simp) (by simp) hG (BytesAt.range (hp_row (n := 44) rfl w' hC)) (fun j v hv => by simp at hv))) (fun w0 w1 v h0 hg hG1 hq => ?_)
  replace hgw := hgw.trans ((hp_below h0).trans hg)
  clear h0 hg hGF
  have hGF : BOk Gt (pl w1) := gt_low.plain hG1
  obtain ⟨x3, l3, c3, rfl, _⟩ := hq.gen
  refine lx_move rfl rfl rfl ?_
  refine lx_ext rfl rfl rfl rfl ?_
  refine lx_ext rfl rfl rfl rfl ?_
  refine lx_assign rfl rfl rfl ?_
  refine lx_assign rfl rfl rfl ?_
  refine lx_nil ?_
  refine xs_plain (E := EE [7]) ?_
  refine lx_move rfl rfl rfl ?_
  refine lx_bin (v := .bool (Er msg (List.replicate (253 + p1) 0#8) 40 == 130)) rfl rfl (fun _ => rfl) (fun _ => bin_eql_i _ _ _) rfl rfl ?_
  refine lx_move rfl rfl rfl ?_
  refine lx_bin (v := .bool (decide ((((253 + p1) : Nat) : Int) > 255))) rfl rfl (fun _ => rfl) (fun _ => bin_gtr_i _ _ _) rfl rfl ?_
  refine lx_binB true rfl rfl (fun _ => rfl) (fun w => bin_eql_bool 4 Tryd.underlying4 _ _ w) (e_130 (by simp only [decide_eq_true_eq, List.length_replicate]; omega)) rfl rfl ?_
  refine lx_move rfl rfl rfl ?_
  refine lx_move rfl rfl rfl ?_
  refine lx_bin (v := .bool (Er msg [] (((8158 + p2) : Nat) : Int) == 130)) rfl rfl (fun _ => rfl) (fun _ => bin_eql_i _ _ _) rfl rfl ?_
  refine lx_move rfl rfl rfl ?_
  refine lx_bin (v := .bool (decide ((((8158 + p2) : Nat) : Int) > 8160))) rfl rfl (fun _ => rfl) (fun _ => bin_gtr_i _ _ _) rfl rfl ?_
  refine lx_binB true rfl rfl (fun _ => rfl) (fun w => bin_eql_bool 4 Tryd.underlying4 _ _ w) (e_130 (by simp only [decide_eq_true_eq, List.length_nil]; omega)) rfl rfl ?_
  refine lx_pick rfl rfl rfl rfl rfl ?_
  refine lx_move rfl rfl rfl ?_
  refine lx_move rfl rfl rfl ?_
  refine lx_bin (v := .bool (Er (List.replicate (65534 + p3) 0#8) [] 40 == 130)) rfl rfl (fun _ => rfl) (fun _ => bin_eql_i _ _ _) rfl rfl ?_
  refine lx_move rfl rfl rfl ?_
  refine lx_bin (v := .bool (decide ((((65534 + p3) : Nat) : Int) > 65536))) rfl rfl (fun _ => rfl) (fun _ => bin_gtr_i _ _ _) rfl rfl ?_
  refine lx_binB true rfl rfl (fun _ => rfl) (fun w => bin_eql_bool 4 Tryd.underlying4 _ _ w) (e_130 (by simp only [decide_eq_true_eq, List.length_replicate, List.length_nil]; omega)) rfl rfl ?_
  refine lx_pick rfl rfl rfl rfl rfl ?_
  refine lx_move rfl rfl rfl ?_
  refine lx_move rfl rfl rfl ?_
  refine lx_binB true rfl rfl (fun _ => rfl) (fun _ => bin_eql_i _ _ _) (beq_iff_eq.2 hf) rfl rfl ?_
  refine lx_move rfl rfl rfl ?_
  refine lx_skip rfl rfl rfl ?_
  refine lx_skip rfl rfl rfl ?_
  refine lx_skip rfl rfl rfl ?_
  refine lx_skip rfl rfl rfl ?_
  refine lx_pick rfl rfl rfl rfl rfl ?_
  refine lx_pick rfl rfl rfl rfl rfl ?_
  refine lx_assign rfl rfl rfl ?_
  refine lx_nil ?_
  refine x_ret ?_
  repeat (first | refine kseq_ret ?_ | refine kblk_ret ?_)
  exact kret_tmp rfl rfl (fun w hw => ⟨rfl, hgw.trans (hp_below hw)⟩)
theorem ln_n (hK : ∀ w, Gt w → Calls Tryd.prog 6 [].toArray w (fun e w' => e = .returned (.bool true) ∧ Grow w w')) (a : Option Addr) (cap : Nat) (msg : List (BitVec 8)) (z1 z2 z3 : Int) (hP : PXC) (hc : msg.length ≤ cap) (h0 : ¬ 500 < msg.length) (p1 p2 p3 : Nat) (b1 : p1 < 5) (b2 : p2 < 5) (b3 : p3 < 5) (hp1 : Pure Tryd.prog Gt 11 [I z1, I 5] (I (p1 : Int))) (hp2 : Pure Tryd.prog Gt 11 [I z2, I 5] (I (p2 : Int))) (hp3 : Pure Tryd.prog Gt 11 [I z3, I 5] (I (p3 : Int))) (hf : ¬ Er msg [] (((8158 + p2) : Nat) : Int) = 130) (w : World) (hw : Gt w) (hb : BytesAt w a msg) : Calls Tryd.prog 4 [.slice a msg.length cap, I z1, I z2, I z3].toArray w (fun e w' => e = .returned (.bool true) ∧ Grow w w') := by
  have hGF : BOk Gt (pl w) := gt_low.plain hw
  have hgw : Grow w w := Grow.refl w
  refine calls_of_X (G := Gt) Tryd.func4 rfl rfl (Hp (pl w) []) (hp_refl (pl w) trivial rides_true) (good_hp hGF) ?_
  refine xs_plain (E := EE [7]) ?_
  refine lx_assign rfl rfl rfl ?_
  refine lx_nil ?_
  refine x_seq ?_
  refine xs_plain (E := EE [7]) ?_
  refine lx_callC rfl rfl ent6 (fun w' hC hG => hK w' hG) rfl rfl ?_
  refine lx_un rfl (fun _ => un_not _) rfl rfl ?_
  refine lx_nil ?_
  refine x_false rfl ?_
  refine x_skip ?_
  refine x_seq ?_
  refine xs_plain (E := EE [7]) ?_
  refine lx_move rfl rfl rfl ?_
  refine lx_len rfl (fun _ => len_slice Tryd.underlying22 _ _ _ _) rfl rfl ?_
  refine lx_binB false rfl rfl (fun _ => rfl) (fun _ => bin_gtr_i _ _ _) (decide_eq_false (by omega)) rfl rfl ?_
  refine lx_nil ?_
  refine x_false rfl ?_
  refine x_skip ?_
  refine xs_plain (E := EE [7]) ?_
  refine lx_move rfl rfl rfl ?_
  refine lx_call rfl rfl ent11 hp1 rfl rfl ?_
  refine lx_bin (v := I (((253 + p1) : Nat) : Int)) rfl rfl (fun _ => rfl) (fun _ => (bin_add_i _ _ _ (by unfold inI; omega)).trans (by rw [show (253 : Int) + (p1 : Int) = (((253 + p1) : Nat) : Int) by omega])) rfl rfl ?_
  refine lx_move rfl rfl rfl ?_
  refine lx_call rfl rfl ent11 hp2 rfl rfl ?_
  refine lx_bin (v := I (((8158 + p2) : Nat) : Int)) rfl rfl (fun _ => rfl) (fun _ => (bin_add_i _ _ _ (by unfold inI; omega)).trans (by rw [show (8158 : Int) + (p2 : Int) = (((8158 + p2) : Nat) : Int) by omega])) rfl rfl ?_
  refine lx_move rfl rfl rfl ?_
  refine lx_call rfl rfl ent11 hp3 rfl rfl ?_
  refine lx_bin (v := I (((65534 + p3) : Nat) : Int)) rfl rfl (fun _ => rfl) (fun _ => (bin_add_i _ _ _ (by unfold inI; omega)).trans (by rw [show (65534 : Int) + (p3 : Int) = (((65534 + p3) : Nat) : Int) by omega])) rfl rfl ?_
  refine lx_assign rfl rfl rfl ?_
  refine lx_assign rfl rfl rfl ?_
  refine lx_assign rfl rfl rfl ?_
  refine lx_nil ?_
  refine xs_plain (E := EE [7]) ?_
  refine lx_move rfl rfl rfl ?_
  refine lx_move rfl rfl rfl ?_
  refine lx_mksl (m := (253 + p1)) 32 hGF rfl rfl Tryd.underlying22 ti5.choose_spec.1 ti5.choose_spec.2.1 (hmkN (253 + p1) (by omega)) (hmc (253 + p1) ti5.choose_spec (made _)) rfl rfl ?_
  intro b32
  refine lx_callH rfl rfl ent7 rfl rfl gt_low (good_hp hGF) (fun w' hC hG => len1 (k := (253 + p1)) hP (List.replicate (253 + p1) 0#8) (by rw [List.length_replicate]) (hP a cap msg _ (253 + p1) (List.replicate (253 + p1) 0#8) 40 w' (by omega) hc (by simp; omega) (by simp) hG (hb.grow (hgw.trans (hp_below hC))) (BytesAt.range (hp_row (n := 32) rfl w' hC)))) (fun w0 w1 v h0 hg hG1 hq => ?_)
  replace hgw := hgw.trans ((hp_below h0).trans hg)
  clear h0 hg hGF
  have hGF : BOk Gt (pl w1) := gt_low.plain hG1
  obtain ⟨x1, l1, c1, rfl, _⟩ := hq.gen
  refine lx_move rfl rfl rfl ?_
  refine lx_ext rfl rfl rfl rfl ?_
  refine lx_ext rfl rfl rfl rfl ?_
  refine lx_assign rfl rfl rfl ?_
  refine lx_assign rfl rfl rfl ?_
  refine lx_nil ?_
  refine xs_plain (E := EE [7]) ?_
  refine lx_move rfl rfl rfl ?_
  refine lx_move rfl rfl rfl ?_
  refine lx_callH rfl rfl ent7 rfl rfl gt_low (good_hp hGF) (fun w' hC hG => hP a cap msg none 0 [] (((8158 + p2) : Nat) : Int) w' (by omega) hc (by simp) (by simp) hG (hb.grow (hgw.trans (hp_below hC))) (fun j v hv => by simp at hv)) (fun w0 w1 v h0 hg hG1 hq => ?_)
  replace hgw := hgw.trans ((hp_below h0).trans hg)
  clear h0 hg hGF
  have hGF : BOk Gt (pl w1) := gt_low.plain hG1
  obtain ⟨x2, l2, c2, rfl, he2⟩ := hq.gen
  refine lx_move rfl rfl rfl ?_
  refine lx_ext rfl rfl rfl rfl ?_
  refine lx_ext rfl rfl rfl rfl ?_
  refine lx_assign rfl rfl rfl ?_
  refine lx_assign rfl rfl rfl ?_
  refine lx_nil ?_
  refine xs_plain (E := EE [7]) ?_
  refine lx_move rfl rfl rfl ?_
  refine lx_mksl (m := (65534 + p3)) 44 hGF rfl rfl Tryd.underlying22 ti5.choose_spec.1 ti5.choose_spec.2.1 (hmkN (65534 + p3) (by omega)) (hmc (65534 + p3) ti5.choose_spec (made _)) rfl rfl ?_
  intro b44
  refine lx_callH rfl rfl ent7 rfl rfl gt_low (good_hp hGF) (fun w' hC hG => len2 (dst := []) (k := (65534 + p3)) (cap1 := (65534 + p3)) (cap2 := 0) (a2 := none) (z := 40) hP (List.replicate (65534 + p3) 0#8) (by rw [List.length_replicate]) (hP _ (65534 + p3) (List.replicate (65534 + p3) 0#8) none 0 [] 40 w' (by simp; omega) (by simp) (by simp) (by simp) hG (BytesAt.range (hp_row (n := 44) rfl w' hC)) (fun j v hv => by simp at hv))) (fun w0 w1 v h0 hg hG1 hq => ?_)
  replace hgw := hgw.trans ((hp_below h0).trans hg)
  clear h0 hg hGF
  have hGF : BOk Gt (pl w1) := gt_low.plain hG1
  obtain ⟨x3, l3, c3, rfl, _⟩ := hq.gen
  refine lx_move rfl rfl rfl ?_
  refine lx_ext rfl rfl rfl rfl ?_
  refine lx_ext rfl rfl rfl rfl ?_
  refine lx_assign rfl rfl rfl ?_
  refine lx_assign rfl rfl rfl ?_
  refine lx_nil ?_
  refine xs_plain (E := EE [7]) ?_
  refine lx_move rfl rfl rfl ?_
  refine lx_bin (v := .bool (Er msg (List.replicate (253 + p1) 0#8) 40 == 130)) rfl rfl (fun _ => rfl) (fun _ => bin_eql_i _ _ _) rfl rfl ?_
  refine lx_move rfl rfl rfl ?_
  refine lx_bin (v := .bool (decide ((((253 + p1) : Nat) : Int) > 255))) rfl rfl (fun _ => rfl) (fun _ => bin_gtr_i _ _ _) rfl rfl ?_
  refine lx_binB true rfl rfl (fun _ => rfl) (fun w => bin_eql_bool 4 Tryd.underlying4 _ _ w) (e_130 (by simp only [decide_eq_true_eq, List.length_replicate]; omega)) rfl rfl ?_
  refine lx_move rfl rfl rfl ?_
  refine lx_move rfl rfl rfl ?_
  refine lx_bin (v := .bool (Er msg [] (((8158 + p2) : Nat) : Int) == 130)) rfl rfl (fun _ => rfl) (fun _ => bin_eql_i _ _ _) rfl rfl ?_
  refine lx_move rfl rfl rfl ?_
  refine lx_bin (v := .bool (decide ((((8158 + p2) : Nat) : Int) > 8160))) rfl rfl (fun _ => rfl) (fun _ => bin_gtr_i _ _ _) rfl rfl ?_
  refine lx_binB true rfl rfl (fun _ => rfl) (fun w => bin_eql_bool 4 Tryd.underlying4 _ _ w) (e_130 (by simp only [decide_eq_true_eq, List.length_nil]; omega)) rfl rfl ?_
  refine lx_pick rfl rfl rfl rfl rfl ?_
  refine lx_move rfl rfl rfl ?_
  refine lx_move rfl rfl rfl ?_
  refine lx_bin (v := .bool (Er (List.replicate (65534 + p3) 0#8) [] 40 == 130)) rfl rfl (fun _ => rfl) (fun _ => bin_eql_i _ _ _) rfl rfl ?_
  refine lx_move rfl rfl rfl ?_
  refine lx_bin (v := .bool (decide ((((65534 + p3) : Nat) : Int) > 65536))) rfl rfl (fun _ => rfl) (fun _ => bin_gtr_i _ _ _) rfl rfl ?_
  refine lx_binB true rfl rfl (fun _ => rfl) (fun w => bin_eql_bool 4 Tryd.underlying4 _ _ w) (e_130 (by simp only [decide_eq_true_eq, List.length_replicate, List.length_nil]; omega)) rfl rfl ?_
  refine lx_pick rfl rfl rfl rfl rfl ?_
  refine lx_move rfl rfl rfl ?_
  refine lx_move rfl rfl rfl ?_
  refine lx_binB false rfl rfl (fun _ => rfl) (fun _ => bin_eql_i _ _ _) (beq_eq_false_iff_ne.2 hf) rfl rfl ?_
  refine lx_move rfl rfl rfl ?_
  refine lx_move rfl rfl rfl ?_
  refine lx_len rfl (fun _ => len_slice Tryd.underlying22 _ _ _ _) rfl rfl ?_
  refine lx_move rfl rfl rfl ?_
  refine lx_binB true rfl rfl (fun _ => rfl) (fun _ => bin_eql_i _ _ _) (beq_iff_eq.2 (he2 (er_0 hf))) rfl rfl ?_
  refine lx_pick rfl rfl rfl rfl rfl ?_
  refine lx_pick rfl rfl rfl rfl rfl ?_
  refine lx_assign rfl rfl rfl ?_
  refine lx_nil ?_
  refine x_ret ?_
  repeat (first | refine kseq_ret ?_ | refine kblk_ret ?_)
  exact kret_tmp rfl rfl (fun w hw => ⟨rfl, hgw.trans (hp_below hw)⟩)
end Xm
end Go.Proofs.YtlimfhjjadbjgaaDoor

namespace Go.Proofs.YtlimfhjjadbjgaaDoor
open Go.RowKit
set_option maxRecDepth 100000
set_option maxHeartbeats 1000000
attribute [local simp] fe_len nm_len AS_len SS_len MONT_len RM_len FRs_len BYs_len by48_len PLl TWOl ONEl N1l IVPl HFPl RTPl List.length_append WDs_len RW_len

namespace Xm
attribute [local simp] Sh.SHA_len B0_len F_len R_len Xk_len O_len Sh.MK_len D_len
attribute [local simp] N2r_len

def ABC : List (BitVec 8) := [97#8, 98#8, 99#8]
def QUX : List (BitVec 8) := [81#8, 85#8, 85#8, 88#8, 45#8, 86#8, 48#8, 49#8, 45#8, 67#8, 83#8, 48#8, 50#8, 45#8, 119#8, 105#8, 116#8, 104#8, 45#8, 101#8, 120#8, 112#8, 97#8, 110#8, 100#8, 101#8, 114#8, 45#8, 83#8, 72#8, 65#8, 50#8, 53#8, 54#8, 45#8, 49#8, 50#8, 56#8]
def EB1 : List (BitVec 8) := [216#8, 204#8, 171#8, 35#8, 181#8, 152#8, 92#8, 206#8, 168#8, 101#8, 198#8, 201#8, 123#8, 110#8, 91#8, 131#8, 80#8, 231#8, 148#8, 230#8, 3#8, 180#8, 185#8, 121#8, 2#8, 245#8, 58#8, 138#8, 13#8, 96#8, 86#8, 21#8]
def EB2 : List (BitVec 8) := [84#8, 155#8, 204#8, 5#8, 134#8, 138#8, 21#8, 250#8, 182#8, 39#8, 195#8, 71#8, 167#8, 132#8, 112#8, 111#8, 239#8, 208#8, 215#8, 36#8, 232#8, 187#8, 8#8, 216#8, 160#8, 223#8, 79#8, 96#8, 18#8, 200#8, 166#8, 70#8, 79#8, 88#8, 27#8, 239#8, 115#8, 9#8, 48#8, 38#8, 11#8, 197#8, 51#8, 66#8, 60#8, 32#8, 13#8, 16#8, 91#8, 156#8, 137#8, 158#8, 69#8, 210#8, 26#8, 193#8, 245#8, 68#8, 81#8, 125#8, 139#8, 250#8, 255#8, 215#8, 250#8, 229#8, 233#8, 24#8, 54#8, 148#8, 152#8, 223#8, 30#8, 1#8, 100#8, 200#8, 114#8, 83#8, 154#8, 138#8, 227#8, 241#8, 220#8, 218#8, 171#8, 83#8, 25#8, 99#8, 207#8, 161#8, 104#8, 180#8, 82#8, 49#8, 73#8, 206#8, 27#8, 109#8, 168#8, 84#8, 215#8, 160#8, 56#8, 204#8, 166#8, 253#8, 137#8, 138#8, 184#8, 44#8, 17#8, 226#8, 136#8, 16#8, 50#8, 80#8, 174#8, 212#8, 90#8, 248#8, 122#8, 238#8, 164#8, 192#8, 242#8, 24#8, 205#8, 224#8, 139#8, 5#8, 155#8, 208#8, 207#8, 36#8, 206#8, 61#8, 223#8, 153#8, 101#8, 159#8, 198#8, 185#8, 119#8, 126#8, 43#8, 167#8, 52#8, 212#8, 114#8, 240#8, 237#8, 36#8, 134#8, 0#8, 35#8, 163#8, 179#8, 110#8, 202#8, 117#8, 215#8, 62#8, 110#8, 32#8, 188#8, 160#8, 80#8, 5#8, 110#8, 100#8, 60#8, 18#8, 29#8, 251#8, 84#8, 232#8, 58#8, 22#8, 98#8, 172#8, 240#8, 65#8, 77#8, 160#8, 78#8, 52#8, 139#8, 86#8, 63#8, 184#8, 13#8, 21#8, 190#8, 80#8, 174#8, 110#8, 201#8, 189#8, 176#8, 231#8, 26#8, 39#8, 119#8, 250#8, 148#8, 85#8, 26#8, 175#8, 111#8, 141#8, 24#8, 52#8, 94#8, 215#8, 117#8, 30#8, 161#8, 118#8, 39#8, 65#8, 85#8, 195#8, 35#8, 169#8, 174#8, 106#8, 99#8, 172#8, 136#8, 9#8, 100#8, 19#8, 116#8, 203#8, 166#8, 216#8, 50#8, 88#8, 161#8, 71#8, 62#8, 95#8, 156#8, 182#8, 128#8, 56#8, 125#8, 113#8, 61#8, 61#8, 4#8, 141#8, 163#8, 130#8, 60#8, 55#8]
theorem kE1 : E ABC QUX 32 = EB1 := by kernel_rfl
theorem kE2 : E ABC [] 256 = EB2 := by kernel_rfl
theorem kne : (N2 EB2 0).1 ≠ (N2 EB2 1).1 := by decide +kernel
theorem e2ne (x y : W2) (h : ¬ x.1 = y.1) : Pure Tryd.prog Gt 15 [EV2 x, EV2 y] (.bool false) := by
  intro w hw
  have hGF : BOk Gt (pl w) := gt_low.plain hw
  refine calls_of_X (G := Gt) Tryd.func15 rfl rfl (Hp (pl w) []) (hp_refl (pl w) trivial rides_true) (good_hp hGF) ?_
  refine xs_plain (E := EE []) ?_
  refine lx_boxr 2 hGF rfl rfl rfl ?_
  intro b2
  refine lx_boxr 3 hGF rfl rfl rfl ?_
  intro b3
  refine lx_assign rfl rfl rfl ?_
  refine lx_nil ?_
  refine xs_plain (E := EE []) ?_
  refine lx_fak 0 rfl Tryd.underlying52 rfl Tryd.sizeOf50 (by decide) rfl rfl rfl ?_
  refine lx_loado 2 _ rfl rfl Tryd.isAgg50 Tryd.sizeOf50 (by simp) ld_l rfl rfl ?_
  refine lx_fak 0 rfl Tryd.underlying52 rfl Tryd.sizeOf50 (by decide) rfl rfl rfl ?_
  refine lx_loado 3 _ rfl rfl Tryd.isAgg50 Tryd.sizeOf50 (by simp) ld_l rfl rfl ?_
  refine lx_callB false rfl rfl ent26 (fequal_pure x.1 y.1) (decide_eq_false h) rfl rfl ?_
  refine lx_move rfl rfl rfl ?_
  refine lx_skip rfl rfl rfl ?_
  refine lx_skip rfl rfl rfl ?_
  refine lx_skip rfl rfl rfl ?_
  refine lx_skip rfl rfl rfl ?_
  refine lx_skip rfl rfl rfl ?_
  refine lx_pick rfl rfl rfl rfl rfl ?_
  refine lx_assign rfl rfl rfl ?_
  refine lx_nil ?_
  refine x_ret ?_
  repeat (first | refine kseq_ret ?_ | refine kblk_ret ?_)
  exact kret_tmp rfl rfl (fun w hw => ⟨rfl, hp_below hw⟩)
theorem knownX (hP : PXC) (hF : PFC) (w : World) (hw : Gt w) : Calls Tryd.prog 6 [].toArray w (fun e w' => e = .returned (.bool true) ∧ Grow w w') := by
  have hGF : BOk Gt (pl w) := gt_low.plain hw
  have hgw : Grow w w := Grow.refl w
  refine calls_of_X (G := Gt) Tryd.func6 rfl rfl (Hp (pl w) []) (hp_refl (pl w) trivial rides_true) (good_hp hGF) ?_
  refine xs_plain (E := EE [7, 12, 1000022]) ?_
  refine lx_assign rfl rfl rfl ?_
  refine lx_nil ?_
  refine xs_plain (E := EE [7, 12, 1000022]) ?_
  refine lx_bsl 8 ABC hGF rfl rfl rfl (by decide) (by decide) Tryd.underlying22 Tryd.sizeOf5 Tryd.zeroValue5 rfl rfl ?_
  intro b8
  refine lx_cvs 8 rfl hGF rfl rfl Tryd.underlying22 Tryd.underlying5 rfl rfl ?_
  refine lx_bsl 10 QUX hGF rfl rfl rfl (by decide) (by decide) Tryd.underlying22 Tryd.sizeOf5 Tryd.zeroValue5 rfl rfl ?_
  intro b10
  refine lx_cvs 10 rfl hGF rfl rfl Tryd.underlying22 Tryd.underlying5 rfl rfl ?_
  refine lx_callH rfl rfl ent7 rfl rfl gt_low (good_hp hGF) (fun w' hC hG => hP _ 3 ABC _ 38 QUX 32 w' (by decide) (by decide) (by decide) (by decide) hG (BytesAt.range (hp_row (n := 8) rfl w' hC)) (BytesAt.range (hp_row (n := 10) rfl w' hC))) (fun w0 w1 v h0 hg hG1 hq => ?_)
  replace hgw := hgw.trans ((hp_below h0).trans hg)
  clear h0 hg hGF
  have hGF : BOk Gt (pl w1) := gt_low.plain hG1
  obtain ⟨x1, c1, rfl, hx1, _⟩ := hq.ok (by rintro (h | h | h | h) <;> revert h <;> decide)
  rw [show (32 : Int).toNat = 32 from rfl, kE1] at *
  have hgp : Grow w1 w1 := Grow.refl w1
  refine lx_move rfl rfl rfl ?_
  refine lx_ext rfl rfl rfl rfl ?_
  refine lx_ext rfl rfl rfl rfl ?_
  refine lx_assign rfl rfl rfl ?_
  refine lx_assign rfl rfl rfl ?_
  refine lx_nil ?_
  refine xs_plain (E := EE [7, 12, 1000022]) ?_
  refine lx_callH rfl rfl ent7 rfl rfl gt_low (good_hp hGF) (fun w' hC hG => hP none 0 [] none 0 [] 8161 w' (by decide) (by decide) (by decide) (by decide) hG (fun j v hv => by simp at hv) (fun j v hv => by simp at hv)) (fun w0 w1 v h0 hg hG1 hq => ?_)
  replace hgw := hgw.trans ((hp_below h0).trans hg)
  replace hgp := hgp.trans ((hp_below h0).trans hg)
  clear h0 hg hGF
  have hGF : BOk Gt (pl w1) := gt_low.plain hG1
  obtain rfl := hq.bad (.inr (.inl (by decide)))
  refine lx_move rfl rfl rfl ?_
  refine lx_ext rfl rfl rfl rfl ?_
  refine lx_ext rfl rfl rfl rfl ?_
  refine lx_assign rfl rfl rfl ?_
  refine lx_assign rfl rfl rfl ?_
  refine lx_nil ?_
  refine xs_plain (E := EE [7, 12, 1000022]) ?_
  refine lx_bsl 20 ABC hGF rfl rfl rfl (by decide) (by decide) Tryd.underlying22 Tryd.sizeOf5 Tryd.zeroValue5 rfl rfl ?_
  intro b20
  refine lx_cvs 20 rfl hGF rfl rfl Tryd.underlying22 Tryd.underlying5 rfl rfl ?_
  refine lx_callH rfl rfl ent12 rfl rfl gt_low (good_hp hGF) (fun w' hC hG => hF _ 3 ABC none 0 [] 2 w' (by decide) (by decide) (by decide) (by decide) hG (BytesAt.range (hp_row (n := 20) rfl w' hC)) (fun j v hv => by simp at hv)) (fun w0 w1 v h0 hg hG1 hq => ?_)
  replace hgw := hgw.trans ((hp_below h0).trans hg)
  replace hgp := hgp.trans ((hp_below h0).trans hg)
  clear h0 hg hGF
  have hGF : BOk Gt (pl w1) := gt_low.plain hG1
  obtain ⟨x2, c2, rfl, hx2⟩ := hq.ok (by rintro (h | h | h | h) <;> revert h <;> decide)
  rw [show (2 : Int).toNat = 2 from rfl, show 128 * 2 = 256 from rfl, kE2] at *
  obtain ⟨b2, rfl, hr2⟩ := hx2.resolve_left (by decide)
  obtain ⟨ad, rfl, _⟩ := hx1 0 _ (gm U8 EB1 0 0 (by decide))
  refine lx_move rfl rfl rfl ?_
  refine lx_ext rfl rfl rfl rfl ?_
  refine lx_ext rfl rfl rfl rfl ?_
  refine lx_assign rfl rfl rfl ?_
  refine lx_assign rfl rfl rfl ?_
  refine lx_nil ?_
  refine xs_drawn (E := EE [7, 12, 1000022]) mixed (by kernel_rfl) (by kernel_rfl) (by kernel_rfl) ?_
  refine lx_move rfl rfl rfl ?_
  refine lx_binB true rfl rfl (fun _ => rfl) (fun _ => bin_eql_i _ _ _) (rfl) rfl rfl ?_
  refine lx_move rfl rfl rfl ?_
  refine lx_move rfl rfl rfl ?_
  refine lx_len rfl (fun _ => len_slice Tryd.underlying22 _ _ _ _) rfl rfl ?_
  refine lx_binB true rfl rfl (fun _ => rfl) (fun _ => bin_eql_i _ _ _) (rfl) rfl rfl ?_
  refine lx_pick rfl rfl rfl rfl rfl ?_
  refine lx_move rfl rfl rfl ?_
  refine lx_move rfl rfl rfl ?_
  refine lx_isA 0 rfl rfl Tryd.underlying22 Tryd.sizeOf5 rfl (by decide) rfl rfl ?_
  refine lx_load (v := U8 (EB1.getD 0 0)) rfl Tryd.isAgg5 (fun w' h => by obtain ⟨ad', e', hc'⟩ := (hx1.grow (hgp.trans (hp_below h))) 0 _ (gm U8 EB1 0 0 (by decide)); cases e'; exact hc') rfl rfl ?_
  refine lx_binB true rfl rfl (fun _ => rfl) (fun _ => bin_eql_u8 _ _ _) (rfl) rfl rfl ?_
  refine lx_pick rfl rfl rfl rfl rfl ?_
  refine lx_move rfl rfl rfl ?_
  refine lx_move rfl rfl rfl ?_
  refine lx_isA 1 rfl rfl Tryd.underlying22 Tryd.sizeOf5 rfl (by decide) rfl rfl ?_
  refine lx_load (v := U8 (EB1.getD 1 0)) rfl Tryd.isAgg5 (fun w' h => by obtain ⟨ad', e', hc'⟩ := (hx1.grow (hgp.trans (hp_below h))) 1 _ (gm U8 EB1 0 1 (by decide)); cases e'; exact hc') rfl rfl ?_
  refine lx_binB true rfl rfl (fun _ => rfl) (fun _ => bin_eql_u8 _ _ _) (rfl) rfl rfl ?_
  refine lx_pick rfl rfl rfl rfl rfl ?_
  refine lx_move rfl rfl rfl ?_
  refine lx_move rfl rfl rfl ?_
  refine lx_isA 31 rfl rfl Tryd.underlying22 Tryd.sizeOf5 rfl (by decide) rfl rfl ?_
  refine lx_load (v := U8 (EB1.getD 31 0)) rfl Tryd.isAgg5 (fun w' h => by obtain ⟨ad', e', hc'⟩ := (hx1.grow (hgp.trans (hp_below h))) 31 _ (gm U8 EB1 0 31 (by decide)); cases e'; exact hc') rfl rfl ?_
  refine lx_binB true rfl rfl (fun _ => rfl) (fun _ => bin_eql_u8 _ _ _) (rfl) rfl rfl ?_
  refine lx_pick rfl rfl rfl rfl rfl ?_
  refine lx_move rfl rfl rfl ?_
  refine lx_move rfl rfl rfl ?_
  refine lx_binB true rfl rfl (fun _ => rfl) (fun _ => bin_eql_i _ _ _) (rfl) rfl rfl ?_
  refine lx_pick rfl rfl rfl rfl rfl ?_
  refine lx_move rfl rfl rfl ?_
  refine lx_move rfl rfl rfl ?_
  refine lx_binB true rfl rfl (fun _ => rfl) (fun _ => bin_eql_i _ _ _) (rfl) rfl rfl ?_
  refine lx_pick rfl rfl rfl rfl rfl ?_
  refine lx_move rfl rfl rfl ?_
  refine lx_move rfl rfl rfl ?_
  refine lx_len rfl (fun _ => len_slice Tryd.underlying35 _ _ _ _) rfl rfl ?_
  refine lx_binB true rfl rfl (fun _ => rfl) (fun _ => bin_eql_i _ _ _) (rfl) rfl rfl ?_
  refine lx_pick rfl rfl rfl rfl rfl ?_
  refine lx_move rfl rfl rfl ?_
  refine lx_move rfl rfl rfl ?_
  refine lx_isW (s := 12) 0 rfl rfl Tryd.underlying35 Tryd.sizeOf52 (by decide) (by decide) rfl rfl ?_
  refine lx_loadr (cs := (N2r EB2 0).map U64) rfl Tryd.isAgg52 Tryd.sizeOf52 (by simp) (fun w' h => range_row (range_grow hr2 (hp_below h)) (by decide) (N2r_len _ _)) rfl rfl ?_
  refine lx_move rfl rfl rfl ?_
  refine lx_isW (s := 12) 1 rfl rfl Tryd.underlying35 Tryd.sizeOf52 (by decide) (by decide) rfl rfl ?_
  refine lx_loadr (cs := (N2r EB2 1).map U64) rfl Tryd.isAgg52 Tryd.sizeOf52 (by simp) (fun w' h => range_row (range_grow hr2 (hp_below h)) (by decide) (N2r_len _ _)) rfl rfl ?_
  refine lx_call rfl rfl ent15 (e2ne (N2 EB2 0) (N2 EB2 1) kne) rfl rfl ?_
  refine lx_un rfl (fun _ => un_not _) rfl rfl ?_
  refine lx_pick rfl rfl rfl rfl rfl ?_
  refine lx_assign rfl rfl rfl ?_
  refine lx_nil ?_
  refine x_ret ?_
  repeat (first | refine kseq_ret ?_ | refine kblk_ret ?_)
  exact kret_tmp rfl rfl (fun w hw => ⟨rfl, hgw.trans (hp_below hw)⟩)
end Xm
end Go.Proofs.YtlimfhjjadbjgaaDoor

namespace Go.Proofs.YtlimfhjjadbjgaaDoor
open Go.RowKit
set_option maxRecDepth 100000
set_option maxHeartbeats 1000000

namespace Xm
attribute [local simp] Sh.SHA_len B0_len F_len R_len Xk_len O_len Sh.MK_len D_len

theorem ln_law (hP : PXC) (hF : PFC) (a : Option Addr) (cap : Nat) (msg : List (BitVec 8)) (z1 z2 z3 : Int) (hc : msg.length ≤ cap) (w : World) (hw : Gt w) (hb : BytesAt w a msg) : Calls Tryd.prog 4 [.slice a msg.length cap, I z1, I z2, I z3].toArray w (fun e w' => e = .returned (.bool true) ∧ Grow w w') := by
  have hK := knownX hP hF
  by_cases h0 : 500 < msg.length
  · exact ln_b hK a cap msg z1 z2 z3 h0 w hw
  obtain ⟨p1, b1, hp1⟩ := place z1 5 (by decide) (by decide)
  obtain ⟨p2, b2, hp2⟩ := place z2 5 (by decide) (by decide)
  obtain ⟨p3, b3, hp3⟩ := place z3 5 (by decide) (by decide)
  by_cases hf : Er msg [] (((8158 + p2) : Nat) : Int) = 130
  · exact ln_y hK a cap msg z1 z2 z3 hP hc h0 p1 p2 p3 b1 b2 b3 hp1 hp2 hp3 hf w hw hb
  · exact ln_n hK a cap msg z1 z2 z3 hP hc h0 p1 p2 p3 b1 b2 b3 hp1 hp2 hp3 hf w hw hb
end Xm
end Go.Proofs.YtlimfhjjadbjgaaDoor
