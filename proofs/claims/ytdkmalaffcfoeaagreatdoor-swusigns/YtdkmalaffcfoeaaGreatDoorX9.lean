/-
  The reference's elements of p, as functions of elements.
  The reference's root; what the laws of layer 3 share.
-/
import Derived.Test.YtdkmalaffcfoeaaGreatDoorX8
import Derived.Test.YtdkmalaffcfoeaaGreatDoorX3
namespace Go.Proofs.YtdkmalaffcfoeaaGreatDoor
open Go.RowKit
set_option maxRecDepth 100000
set_option maxHeartbeats 1000000
attribute [local simp] fe_len nm_len AS_len SS_len MONT_len RM_len FRs_len BYs_len by48_len PLl TWOl ONEl N1l IVPl HFPl RTPl FL_len SP_len

theorem fe_0o : fe 0 = List.replicate 6 (0 : BitVec 64) := fe_0
theorem RADD_fe (x y : Zp) : RADD (fe x) (fe y) = fe (x + y) := by
  unfold RADD
  split
  · rename_i h; exact add_high h.2
  · rename_i h
    refine add_low ?_
    by_cases h1 : 1873798617647539866#64 ≤ (AS (fe x) (fe y) 6).1.getD 5 0
    · exact sum_lt (zero_or (SS_c _ _ _) (fun h0 => h ⟨h1, h0⟩))
    · exact low_top _ h1
theorem RSUB_fe (x y : Zp) : RSUB (fe x) (fe y) = fe (x - y) := by
  unfold RSUB
  split
  · rename_i h; exact sub_low h
  · rename_i h; exact sub_high (one_or (SS_c _ _ _) h)
theorem RNEG_fe (x : Zp) : RNEG (fe x) = fe (-x) := by
  unfold RNEG
  rw [← fe_0o]
  split
  · rename_i h
    rw [fe_inj.1 h]
    exact congrArg fe (by grind)
  · rename_i h; exact neg_high (fun e => h (by rw [e]))
def BTn (bs : List (BitVec 8)) : Nat → Nat
  | 0 => 0
  | i + 1 => 2 * BTn bs i + (pbit bs i).toNat
theorem pbit_val (bs : List (BitVec 8)) (k j : Nat) (hj : j < 8) : (pbit bs (8 * k + j)).toNat = (bs.getD k 0).toNat / 2 ^ (7 - j) % 2 := by
  rw [pbit, show (8 * k + j) / 8 = k by omega, show (8 * k + j) % 8 = j by omega, BitVec.toNat_and, BitVec.toNat_ushiftRight, show (1#8).toNat = 1 from rfl, Nat.and_one_is_mod, Nat.shiftRight_eq_div_pow]
theorem btn_aux {B b q r X : Nat} (hr : r = 2 * q) (hX : X = B + b / r) : 2 * X + b / q % 2 = 2 * B + b / q := by
  have e : b / r = b / q / 2 := by rw [hr, Nat.mul_comm, Nat.div_div_eq_div_mul]
  rw [hX, e]
  omega
theorem BTn_part (bs : List (BitVec 8)) (k : Nat) : ∀ j, j ≤ 8 → BTn bs (8 * k + j) = BTn bs (8 * k) * 2 ^ j + (bs.getD k 0).toNat / 2 ^ (8 - j)
  | 0, _ => by
    have h := (bs.getD k 0).isLt
    rw [Nat.add_zero, Nat.pow_zero, Nat.mul_one, Nat.div_eq_of_lt h, Nat.add_zero]
  | j + 1, h => by
    have ih := BTn_part bs k j (by omega)
    rw [← Nat.add_assoc, BTn, pbit_val bs k j (by omega), show 8 - (j + 1) = 7 - j by omega, btn_aux (r := 2 ^ (8 - j)) (by rw [show 8 - j = 7 - j + 1 by omega, Nat.pow_succ, Nat.mul_comm]) ih, Nat.pow_succ, Nat.mul_left_comm, Nat.mul_comm 2 (2 ^ j)]
theorem BTn_eight (bs : List (BitVec 8)) : ∀ k, BTn bs (8 * k) = BN bs k
  | 0 => rfl
  | k + 1 => by
    rw [Nat.mul_add, BTn_part bs k 8 (Nat.le_refl _), BTn_eight bs k, BN, Nat.sub_self, Nat.pow_zero, Nat.div_one, Nat.mul_comm]
theorem bit_one (bs : List (BitVec 8)) (i : Nat) : pbit bs i = 1#8 ∧ (pbit bs i).toNat = 1 ∨ ¬ pbit bs i = 1#8 ∧ (pbit bs i).toNat = 0 := by
  by_cases h : pbit bs i = 1#8
  · exact .inl ⟨h, by rw [h]; rfl⟩
  · refine .inr ⟨h, ?_⟩
    have e : (pbit bs i).toNat ≤ 1 := by
      rw [pbit, BitVec.toNat_and, show (1#8).toNat = 1 from rfl, Nat.and_one_is_mod]
      omega
    have : (pbit bs i).toNat ≠ 1 := fun e1 => h (BitVec.eq_of_toNat_eq (by rw [e1]; rfl))
    omega
theorem RP_fe (x : Zp) (bs : List (BitVec 8)) : ∀ i, RP (fe x) bs i = fe (x ^ BTn bs i)
  | 0 => by rw [RP, BTn, p0, ONE_fe]
  | i + 1 => by
    have ih := RP_fe x bs i
    rcases bit_one bs i with ⟨h, e⟩ | ⟨h, e⟩
    · rw [RP_y _ _ _ h, ih, RM_fe, RM_fe, BTn, e, Nat.two_mul, ps, padd]
    · rw [RP_n _ _ _ h, ih, RM_fe, BTn, e, Nat.two_mul, Nat.add_zero, padd]
theorem RP_num (x : Zp) (bs : List (BitVec 8)) : RP (fe x) bs (8 * bs.length) = fe (x ^ BN bs bs.length) := by rw [RP_fe, BTn_eight]
theorem EX2_val : BN EX2 48 = PP - 2 := by
  rw [EX2, BN_BYs _ (by rw [HN_len, SS_len]) 48 rfl]
  decide +kernel
theorem EX1_val : BN EX1 48 = hf := by
  rw [EX1, BN_BYs _ (by rw [HN_len, SS_len]) 48 rfl]
  decide +kernel
theorem EX4_val : BN EX4 48 = rg := by
  rw [EX4, BN_BYs _ (by rw [HN_len, AS_len]) 48 rfl]
  decide +kernel
theorem RP_EX2 (x : Zp) : RP (fe x) EX2 384 = fe (x ^ (PP - 2)) := by rw [RP_fe, show 384 = 8 * 48 from rfl, BTn_eight, EX2_val]
theorem RLARGE_fe (x : Zp) : decide ((SS (FRs EX1 48) (RM (fe x) N1) 6).2 = 1) = decide (hf < x.val) := by
  apply decide_eq_decide.2
  have e := V_FRs EX1 (by rw [EX1_len]; exact Nat.le_refl _)
  rw [EX1_len, EX1_val] at e
  rw [RM_one]
  rcases SS_lt (FRs EX1 48) (nm x) with ⟨h, h'⟩ | ⟨h, _, h'⟩
  · rw [e, V_nm] at h'
    exact ⟨fun e' => (by rw [h] at e'; exact absurd e' (by decide)), fun _ => by omega⟩
  · rw [e, V_nm] at h'
    exact ⟨fun _ => h', fun _ => h⟩
theorem rmulE (x y : Zp) : Pure Tryz.prog Gt 49 [EV x, EV y] (EV (x * y)) := by
  have h := rmul_pure (fe x) (fe y) (by simp) (by simp)
  rw [RM_fe] at h
  exact h
theorem raddE (x y : Zp) : Pure Tryz.prog Gt 52 [EV x, EV y] (EV (x + y)) := by
  have h := rfadd_pure (fe x) (fe y) (by simp) (by simp)
  rw [RADD_fe] at h
  exact h
theorem rsubE (x y : Zp) : Pure Tryz.prog Gt 51 [EV x, EV y] (EV (x - y)) := by
  have h := rfsub_pure (fe x) (fe y) (by simp) (by simp)
  rw [RSUB_fe] at h
  exact h
theorem rnegE (x : Zp) : Pure Tryz.prog Gt 69 [EV x] (EV (-x)) := by
  have h := rneg_pure (fe x) (by simp)
  rw [RNEG_fe] at h
  exact h
theorem rinvE (x : Zp) : Pure Tryz.prog Gt 91 [EV x] (EV (x ^ (PP - 2))) := by
  have h := rinv_pure (fe x) (by simp)
  rw [RP_EX2] at h
  exact h
theorem risZeroE (x : Zp) : Pure Tryz.prog Gt 50 [EV x] (.bool (decide (x = 0))) := by
  have h := risZero_pure (fe x) (by simp)
  rw [← fe_0o, decide_fe] at h
  exact h
theorem roddE (x : Zp) : Pure Tryz.prog Gt 94 [EV x] (.bool (decide (x.val % 2 = 1))) := by
  have h := rodd_pure (fe x) (by simp)
  rw [RM_one, odd_and] at h
  exact h
theorem rlargeE (x : Zp) : Pure Tryz.prog Gt 119 [EV x] (.bool (decide (hf < x.val))) := by
  have h := rlarge_pure (fe x) (by simp)
  rw [RLARGE_fe] at h
  exact h
theorem rofE (x : Zp) : Pure Tryz.prog Gt 97 [NV (nm x)] (EV x) := by
  have h := rof_pure (nm x) (by simp)
  rw [RM_two_nm] at h
  exact h
theorem PP_64 : 18446744073709551616 < PP := by decide +kernel
theorem rsmallE (n : BitVec 64) : Pure Tryz.prog Gt 68 [U64 n] (EV (zp n.toNat)) := by
  have h := rsmall_pure n
  have hn := n.isLt
  have hp := PP_64
  rw [RM_two _ (by rw [V_small]; omega), V_small] at h
  exact h
theorem rpowE (x : Zp) (e : Option Addr) (cap : Nat) (bs : List (BitVec 8)) (hlen : bs.length ≤ 4096) (w : World) (hw : Gt w) (hby : BytesAt w e bs) :
    Calls Tryz.prog 117 [EV x, .slice e bs.length cap].toArray w (fun r w' => r = .returned (EV (x ^ BN bs bs.length)) ∧ Grow w w') := by
  have h := rpow_calls (fe x) (by simp) e cap bs hlen w hw hby
  rw [RP_num] at h
  exact h
end Go.Proofs.YtdkmalaffcfoeaaGreatDoor

namespace Go.Proofs.YtdkmalaffcfoeaaGreatDoor
open Go.RowKit
set_option maxRecDepth 100000
set_option maxHeartbeats 1000000
attribute [local simp] fe_len nm_len AS_len SS_len MONT_len RM_len FRs_len BYs_len by48_len PLl TWOl ONEl N1l IVPl HFPl RTPl FL_len SP_len

theorem ent92 : Enters Tryz.prog 92 := fun _ _ => by kernel_rfl
theorem ent10 : Enters Tryz.prog 10 := fun _ _ => by kernel_rfl
theorem ent6 : Enters Tryz.prog 6 := fun _ _ => by kernel_rfl
theorem ent7 : Enters Tryz.prog 7 := fun _ _ => by kernel_rfl
theorem ent48 : Enters Tryz.prog 48 := fun _ _ => by kernel_rfl
theorem eqg35 (op : BinOp) (x y : Operand) (xs ys : Array Value) (w : World) : (eqGuard op 35 x y (.agg xs) (.agg ys)).run Tryz.prog w = .ok () w := eqgF op x y xs ys w
theorem nev35 (xs ys : List (BitVec 64)) (h : xs.length = 6) (h' : ys.length = 6) (w : World) : (binOp .neq 35 (.agg (xs.map U64).toArray) (.agg (ys.map U64).toArray)).run Tryz.prog w = .ok (.bool (!decide (xs = ys))) w := bin_neS Tryz.underlying35 rfl (by decide) (by kernel_rfl) Tryz.isAgg33 Tryz.sizeOf33 Tryz.underlying33 Tryz.underlying24 Tryz.sizeOf24 Tryz.isAgg24 xs ys h h' w
theorem rpow48E (x : Zp) (b : Nat) (t : TypeId) (bs : List (BitVec 8)) (h48 : bs.length = 48) (w : World) (hw : Gt w) (ho : OwnB w b (bs.map U8) t) :
    Calls Tryz.prog 117 [EV x, .slice (some ⟨b, 0, none⟩) 48 48].toArray w (fun r w' => r = .returned (EV (x ^ BN bs 48)) ∧ Grow w w') := by
  have h := rpowE x (some ⟨b, 0, none⟩) 48 bs (by omega) w hw (BytesAt.range ho.range)
  rw [h48] at h
  exact h
theorem rpowEX4 (x : Zp) (b : Nat) (t : TypeId) (w : World) (hw : Gt w) (ho : OwnB w b (EX4.map U8) t) :
    Calls Tryz.prog 117 [EV x, .slice (some ⟨b, 0, none⟩) 48 48].toArray w (fun r w' => r = .returned (EV (SQr x)) ∧ Grow w w') := by
  have h := rpow48E x b t EX4 EX4_len w hw ho
  rw [EX4_val] at h
  exact h
theorem rsqrtE (x : Zp) : Pure Tryz.prog Gt 92 [EV x] (.tuple #[EV (SQ x), .bool (decide (SQr x * SQr x = x))]) := by
  intro w hw
  have hGF : BOk Gt (pl w) := gt_low.plain hw
  refine calls_of_X (G := Gt) Tryz.func92 rfl rfl (Hp (pl w) []) (hp_refl (pl w) trivial rides_true) (good_hp hGF) ?_
  refine xs_plain (E := EE []) ?_
  refine lx_boxr 1 hGF rfl rfl rfl ?_
  intro b1
  refine lx_allocr 2 hGF zv35 rfl rfl ?_
  intro b2
  refine lx_assign rfl rfl rfl ?_
  refine lx_nil ?_
  refine xs_tree (EE [118, 2000118, 2999999]) mixed (by kernel_rfl) (by kernel_rfl) ?_
  refine tr_pre (m := 4) [0] (by kernel_rfl) ?_
  refine lx_loada 1 rfl rfl Tryz.isAgg35 Tryz.sizeOf35 (by simp) rfl rfl ?_
  refine lx_nil ?_
  refine tr_any (m := 3) [1, 3] (by kernel_rfl) (by kernel_rfl) (by decide) ?_
  intro i hi
  simp only [List.mem_cons, List.not_mem_nil, or_false] at hi
  rcases hi with rfl | rfl
  · skip
    refine lx_callG rfl rfl ent118 rfl rfl (fun w' hw' => (rsh4_calls w' (hGF.g _ _ _ hw')).mono fun e w'' h => ?_)
    obtain ⟨bm, rfl, hg, hb, hob⟩ := h
    refine ⟨_, _, rfl, good_hp hGF, hw'.news rides_true hg [(6, bm, EX4.map U8, 98)] ?_ inj_one, hp_fresh rides_true rfl, ?_⟩
    · intro n' b' c' t' hl
      rcases lkB_cons hl with ⟨_, e⟩ | ⟨_, hl⟩
      · cases e; exact ⟨hb, hob⟩
      · cases hl
    clear hw' hg hb hob
    refine lx_nil ?_
    refine tr_pre (m := 2) [2] (by kernel_rfl) ?_
    refine lx_callC rfl rfl ent117 (fun w' hw' hG => rpowEX4 x bm _ w' hG (hw'.own 6 _ _ _ rfl).1) rfl rfl ?_
    refine lx_nil ?_
    refine tr_pre (m := 0) [3, 4] (by kernel_rfl) ?_
    refine lx_allocG 4 hGF zv35 rfl rfl rfl ?_
    intro b4
    refine lx_storea 4 hGF rfl rfl rfl Tryz.sizeOf35 (by simp) (by simp) (one_u64 _) rfl ?_
    refine lx_nil ?_
    refine tr_nil (by kernel_rfl) ?_
    refine kseq_n ?_
    refine x_seq ?_
    refine xs_drawn (E := EE []) mixed (by kernel_rfl) (by kernel_rfl) (by kernel_rfl) ?_
    refine lx_loada 4 rfl rfl Tryz.isAgg35 Tryz.sizeOf35 (by simp) rfl rfl ?_
    refine lx_loada 4 rfl rfl Tryz.isAgg35 Tryz.sizeOf35 (by simp) rfl rfl ?_
    refine lx_call rfl rfl ent49 (rmulE _ _) rfl rfl ?_
    refine lx_loada 1 rfl rfl Tryz.isAgg35 Tryz.sizeOf35 (by simp) rfl rfl ?_
    refine lx_bin rfl rfl (fun _ => eqg35 _ _ _ _ _ _) (fun w => nev35 _ _ (by simp) (by simp) w) rfl rfl ?_
    refine lx_nil ?_
    refine x_if rfl (fun hc => ?_) (fun hc => ?_)
    · have hs : ¬ SQr x * SQr x = x := by rw [decide_fe] at hc; simpa using hc
      refine xs_plain (E := EE []) ?_
      refine lx_builds zv35 Tryz.underlying35 (bm_one Tryz.sizeOf33) rfl rfl ?_
      refine lx_storea 2 hGF rfl rfl rfl Tryz.sizeOf35 (by simp) (by simp) (one_u64 _) rfl ?_
      refine lx_assign rfl rfl rfl ?_
      refine lx_nil ?_
      refine x_ret ?_
      repeat (first | refine kseq_ret ?_ | refine kblk_ret ?_)
      exact kret_ct 2 rfl rfl rfl rfl Tryz.isAgg35 Tryz.sizeOf35 (by simp) (fun w hw => ⟨by rw [SQ, if_neg hs, decide_eq_false hs, ← fe_0] <;> rfl, hp_below hw⟩)
    · have hs : SQr x * SQr x = x := by rw [decide_fe] at hc; simpa using hc
      clear hc
      refine x_skip ?_
      refine x_seq ?_
      refine xs_plain (E := EE []) ?_
      refine lx_loada 4 rfl rfl Tryz.isAgg35 Tryz.sizeOf35 (by simp) rfl rfl ?_
      refine lx_call rfl rfl ent119 (rlargeE _) rfl rfl ?_
      refine lx_nil ?_
      refine x_if rfl (fun hc => ?_) (fun hc => ?_)
      · simp only [decide_eq_true_eq] at hc
        refine x_plain (E := EE []) ?_
        refine lx_loada 4 rfl rfl Tryz.isAgg35 Tryz.sizeOf35 (by simp) rfl rfl ?_
        refine lx_call rfl rfl ent69 (rnegE _) rfl rfl ?_
        refine lx_storea 4 hGF rfl rfl rfl Tryz.sizeOf35 (by simp) (by simp) (one_u64 _) rfl ?_
        refine lx_nil ?_
        refine xs_plain (E := EE []) ?_
        refine lx_loada 4 rfl rfl Tryz.isAgg35 Tryz.sizeOf35 (by simp) rfl rfl ?_
        refine lx_storea 2 hGF rfl rfl rfl Tryz.sizeOf35 (by simp) (by simp) (one_u64 _) rfl ?_
        refine lx_assign rfl rfl rfl ?_
        refine lx_nil ?_
        refine x_ret ?_
        repeat (first | refine kseq_ret ?_ | refine kblk_ret ?_)
        exact kret_ct 2 rfl rfl rfl rfl Tryz.isAgg35 Tryz.sizeOf35 (by simp) (fun w hw => ⟨by rw [SQ, if_pos hs, SQn, if_pos hc, decide_eq_true hs] <;> rfl, hp_below hw⟩)
      · simp only [decide_eq_false_iff_not] at hc
        refine x_skip ?_
        refine xs_plain (E := EE []) ?_
        refine lx_loada 4 rfl rfl Tryz.isAgg35 Tryz.sizeOf35 (by simp) rfl rfl ?_
        refine lx_storea 2 hGF rfl rfl rfl Tryz.sizeOf35 (by simp) (by simp) (one_u64 _) rfl ?_
        refine lx_assign rfl rfl rfl ?_
        refine lx_nil ?_
        refine x_ret ?_
        repeat (first | refine kseq_ret ?_ | refine kblk_ret ?_)
        exact kret_ct 2 rfl rfl rfl rfl Tryz.isAgg35 Tryz.sizeOf35 (by simp) (fun w hw => ⟨by rw [SQ, if_pos hs, SQn, if_neg hc, decide_eq_true hs] <;> rfl, hp_below hw⟩)
  · skip
    refine lx_allocG 4 hGF zv35 rfl rfl rfl ?_
    intro b4
    refine lx_nil ?_
    refine tr_pre (m := 0) [1, 2, 4] (by kernel_rfl) ?_
    refine lx_callG rfl rfl ent118 rfl rfl (fun w' hw' => (rsh4_calls w' (hGF.g _ _ _ hw')).mono fun e w'' h => ?_)
    obtain ⟨bm, rfl, hg, hb, hob⟩ := h
    refine ⟨_, _, rfl, good_hp hGF, hw'.news rides_true hg [(6, bm, EX4.map U8, 98)] ?_ inj_one, hp_fresh rides_true rfl, ?_⟩
    · intro n' b' c' t' hl
      rcases lkB_cons hl with ⟨_, e⟩ | ⟨_, hl⟩
      · cases e; exact ⟨hb, hob⟩
      · cases hl
    clear hw' hg hb hob
    refine lx_callC rfl rfl ent117 (fun w' hw' hG => rpowEX4 x bm _ w' hG (hw'.own 6 _ _ _ rfl).1) rfl rfl ?_
    refine lx_storea 4 hGF rfl rfl rfl Tryz.sizeOf35 (by simp) (by simp) (one_u64 _) rfl ?_
    refine lx_nil ?_
    refine tr_nil (by kernel_rfl) ?_
    refine kseq_n ?_
    refine x_seq ?_
    refine xs_drawn (E := EE []) mixed (by kernel_rfl) (by kernel_rfl) (by kernel_rfl) ?_
    refine lx_loada 4 rfl rfl Tryz.isAgg35 Tryz.sizeOf35 (by simp) rfl rfl ?_
    refine lx_loada 4 rfl rfl Tryz.isAgg35 Tryz.sizeOf35 (by simp) rfl rfl ?_
    refine lx_call rfl rfl ent49 (rmulE _ _) rfl rfl ?_
    refine lx_loada 1 rfl rfl Tryz.isAgg35 Tryz.sizeOf35 (by simp) rfl rfl ?_
    refine lx_bin rfl rfl (fun _ => eqg35 _ _ _ _ _ _) (fun w => nev35 _ _ (by simp) (by simp) w) rfl rfl ?_
    refine lx_nil ?_
    refine x_if rfl (fun hc => ?_) (fun hc => ?_)
    · have hs : ¬ SQr x * SQr x = x := by rw [decide_fe] at hc; simpa using hc
      refine xs_plain (E := EE []) ?_
      refine lx_builds zv35 Tryz.underlying35 (bm_one Tryz.sizeOf33) rfl rfl ?_
      refine lx_storea 2 hGF rfl rfl rfl Tryz.sizeOf35 (by simp) (by simp) (one_u64 _) rfl ?_
      refine lx_assign rfl rfl rfl ?_
      refine lx_nil ?_
      refine x_ret ?_
      repeat (first | refine kseq_ret ?_ | refine kblk_ret ?_)
      exact kret_ct 2 rfl rfl rfl rfl Tryz.isAgg35 Tryz.sizeOf35 (by simp) (fun w hw => ⟨by rw [SQ, if_neg hs, decide_eq_false hs, ← fe_0] <;> rfl, hp_below hw⟩)
    · have hs : SQr x * SQr x = x := by rw [decide_fe] at hc; simpa using hc
      clear hc
      refine x_skip ?_
      refine x_seq ?_
      refine xs_plain (E := EE []) ?_
      refine lx_loada 4 rfl rfl Tryz.isAgg35 Tryz.sizeOf35 (by simp) rfl rfl ?_
      refine lx_call rfl rfl ent119 (rlargeE _) rfl rfl ?_
      refine lx_nil ?_
      refine x_if rfl (fun hc => ?_) (fun hc => ?_)
      · simp only [decide_eq_true_eq] at hc
        refine x_plain (E := EE []) ?_
        refine lx_loada 4 rfl rfl Tryz.isAgg35 Tryz.sizeOf35 (by simp) rfl rfl ?_
        refine lx_call rfl rfl ent69 (rnegE _) rfl rfl ?_
        refine lx_storea 4 hGF rfl rfl rfl Tryz.sizeOf35 (by simp) (by simp) (one_u64 _) rfl ?_
        refine lx_nil ?_
        refine xs_plain (E := EE []) ?_
        refine lx_loada 4 rfl rfl Tryz.isAgg35 Tryz.sizeOf35 (by simp) rfl rfl ?_
        refine lx_storea 2 hGF rfl rfl rfl Tryz.sizeOf35 (by simp) (by simp) (one_u64 _) rfl ?_
        refine lx_assign rfl rfl rfl ?_
        refine lx_nil ?_
        refine x_ret ?_
        repeat (first | refine kseq_ret ?_ | refine kblk_ret ?_)
        exact kret_ct 2 rfl rfl rfl rfl Tryz.isAgg35 Tryz.sizeOf35 (by simp) (fun w hw => ⟨by rw [SQ, if_pos hs, SQn, if_pos hc, decide_eq_true hs] <;> rfl, hp_below hw⟩)
      · simp only [decide_eq_false_iff_not] at hc
        refine x_skip ?_
        refine xs_plain (E := EE []) ?_
        refine lx_loada 4 rfl rfl Tryz.isAgg35 Tryz.sizeOf35 (by simp) rfl rfl ?_
        refine lx_storea 2 hGF rfl rfl rfl Tryz.sizeOf35 (by simp) (by simp) (one_u64 _) rfl ?_
        refine lx_assign rfl rfl rfl ?_
        refine lx_nil ?_
        refine x_ret ?_
        repeat (first | refine kseq_ret ?_ | refine kblk_ret ?_)
        exact kret_ct 2 rfl rfl rfl rfl Tryz.isAgg35 Tryz.sizeOf35 (by simp) (fun w hw => ⟨by rw [SQ, if_pos hs, SQn, if_neg hc, decide_eq_true hs] <;> rfl, hp_below hw⟩)
end Go.Proofs.YtdkmalaffcfoeaaGreatDoor
