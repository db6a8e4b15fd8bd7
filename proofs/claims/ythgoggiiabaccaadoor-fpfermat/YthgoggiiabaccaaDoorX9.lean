/-
  The reference's elements of p, as functions of elements.
  The reference's root; what the laws of layer 3 share.
  What the laws of layer 3 share: the chapter's examples, and small helps.
  The chapter's examples.
-/
import Derived.Test.YthgoggiiabaccaaDoorX8
import Derived.Test.YthgoggiiabaccaaDoorX7
import Derived.Test.YthgoggiiabaccaaDoorX3
namespace Go.Proofs.YthgoggiiabaccaaDoor
open Go.RowKit
set_option maxRecDepth 100000
set_option maxHeartbeats 1000000
attribute [local simp] fe_len nm_len AS_len SS_len MONT_len RM_len FRs_len BYs_len by48_len PLl TWOl ONEl N1l IVPl HFPl RTPl FL_len SP_len

theorem fe_0o : fe 0 = List.replicate 6 (0 : BitVec 64) := fe_0
theorem RADD_fe (x y : Zp) : RADD (fe x) (fe y) = fe (x + y) := by
  unfold RADD
  split
  · rename_i h; exact add_high h.2
  · rename_i h
    refine add_low ?_
    by_cases h1 : 1873798617647539866#64 ≤ (AS (fe x) (fe y) 6).1.getD 5 0
    · exact sum_lt (zero_or (SS_c _ _ _) (fun h0 => h ⟨h1, h0⟩))
    · exact low_top _ h1
theorem RSUB_fe (x y : Zp) : RSUB (fe x) (fe y) = fe (x - y) := by
  unfold RSUB
  split
  · rename_i h; exact sub_low h
  · rename_i h; exact sub_high (one_or (SS_c _ _ _) h)
theorem RNEG_fe (x : Zp) : RNEG (fe x) = fe (-x) := by
  unfold RNEG
  rw [← fe_0o]
  split
  · rename_i h
    rw [fe_inj.1 h]
    exact congrArg fe (by grind)
  · rename_i h; exact neg_high (fun e => h (by rw [e]))
def BTn (bs : List (BitVec 8)) : Nat → Nat
  | 0 => 0
  | i + 1 => 2 * BTn bs i + (pbit bs i).toNat
theorem pbit_val (bs : List (BitVec 8)) (k j : Nat) (hj : j < 8) : (pbit bs (8 * k + j)).toNat = (bs.getD k 0).toNat / 2 ^ (7 - j) % 2 := by
  rw [pbit, show (8 * k + j) / 8 = k by omega, show (8 * k + j) % 8 = j by omega, BitVec.toNat_and, BitVec.toNat_ushiftRight, show (1#8).toNat = 1 from rfl, Nat.and_one_is_mod, Nat.shiftRight_eq_div_pow]
theorem btn_aux {B b q r X : Nat} (hr : r = 2 * q) (hX : X = B + b / r) : 2 * X + b / q % 2 = 2 * B + b / q := by
  have e : b / r = b / q / 2 := by rw [hr, Nat.mul_comm, Nat.div_div_eq_div_mul]
  rw [hX, e]
  omega
theorem BTn_part (bs : List (BitVec 8)) (k : Nat) : ∀ j, j ≤ 8 → BTn bs (8 * k + j) = BTn bs (8 * k) * 2 ^ j + (bs.getD k 0).toNat / 2 ^ (8 - j)
  | 0, _ => by
    have h := (bs.getD k 0).isLt
    rw [Nat.add_zero, Nat.pow_zero, Nat.mul_one, Nat.div_eq_of_lt h, Nat.add_zero]
  | j + 1, h => by
    have ih := BTn_part bs k j (by omega)
    rw [← Nat.add_assoc, BTn, pbit_val bs k j (by omega), show 8 - (j + 1) = 7 - j by omega, btn_aux (r := 2 ^ (8 - j)) (by rw [show 8 - j = 7 - j + 1 by omega, Nat.pow_succ, Nat.mul_comm]) ih, Nat.pow_succ, Nat.mul_left_comm, Nat.mul_comm 2 (2 ^ j)]
theorem BTn_eight (bs : List (BitVec 8)) : ∀ k, BTn bs (8 * k) = BN bs k
  | 0 => rfl
  | k + 1 => by
    rw [Nat.mul_add, BTn_part bs k 8 (Nat.le_refl _), BTn_eight bs k, BN, Nat.sub_self, Nat.pow_zero, Nat.div_one, Nat.mul_comm]
theorem bit_one (bs : List (BitVec 8)) (i : Nat) : pbit bs i = 1#8 ∧ (pbit bs i).toNat = 1 ∨ ¬ pbit bs i = 1#8 ∧ (pbit bs i).toNat = 0 := by
  by_cases h : pbit bs i = 1#8
  · exact .inl ⟨h, by rw [h]; rfl⟩
  · refine .inr ⟨h, ?_⟩
    have e : (pbit bs i).toNat ≤ 1 := by
      rw [pbit, BitVec.toNat_and, show (1#8).toNat = 1 from rfl, Nat.and_one_is_mod]
      omega
    have : (pbit bs i).toNat ≠ 1 := fun e1 => h (BitVec.eq_of_toNat_eq (by rw [e1]; rfl))
    omega
theorem RP_fe (x : Zp) (bs : List (BitVec 8)) : ∀ i, RP (fe x) bs i = fe (x ^ BTn bs i)
  | 0 => by rw [RP, BTn, p0, ONE_fe]
  | i + 1 => by
    have ih := RP_fe x bs i
    rcases bit_one bs i with ⟨h, e⟩ | ⟨h, e⟩
    · rw [RP_y _ _ _ h, ih, RM_fe, RM_fe, BTn, e, Nat.two_mul, ps, padd]
    · rw [RP_n _ _ _ h, ih, RM_fe, BTn, e, Nat.two_mul, Nat.add_zero, padd]
theorem RP_num (x : Zp) (bs : List (BitVec 8)) : RP (fe x) bs (8 * bs.length) = fe (x ^ BN bs bs.length) := by rw [RP_fe, BTn_eight]
theorem EX2_val : BN EX2 48 = PP - 2 := by
  rw [EX2, BN_BYs _ (by rw [HN_len, SS_len]) 48 rfl]
  decide +kernel
theorem EX1_val : BN EX1 48 = hf := by
  rw [EX1, BN_BYs _ (by rw [HN_len, SS_len]) 48 rfl]
  decide +kernel
theorem EX4_val : BN EX4 48 = rg := by
  rw [EX4, BN_BYs _ (by rw [HN_len, AS_len]) 48 rfl]
  decide +kernel
theorem RP_EX2 (x : Zp) : RP (fe x) EX2 384 = fe (x ^ (PP - 2)) := by rw [RP_fe, show 384 = 8 * 48 from rfl, BTn_eight, EX2_val]
theorem RP_EX1 (x : Zp) : RP (fe x) EX1 384 = fe (x ^ hf) := by rw [RP_fe, show 384 = 8 * 48 from rfl, BTn_eight, EX1_val]
theorem RP_EX4 (x : Zp) : RP (fe x) EX4 384 = fe (SQr x) := by rw [RP_fe, show 384 = 8 * 48 from rfl, BTn_eight, EX4_val]; rfl
theorem RLEG_fe (x : Zp) : RLEG (fe x) = LEG x := by
  rw [RLEG, LEG, ← fe_0o, RP_EX1, ONE_fe]
  by_cases h : x = 0
  · rw [if_pos (by rw [h]), if_pos h]
  · rw [if_neg (fun e => h (fe_inj.1 e)), if_neg h]
    by_cases h1 : x ^ hf = 1
    · rw [if_pos (by rw [h1]), if_pos h1]
    · rw [if_neg (fun e => h1 (fe_inj.1 e)), if_neg h1]
theorem RLARGE_fe (x : Zp) : decide ((SS (FRs EX1 48) (RM (fe x) N1) 6).2 = 1) = decide (hf < x.val) := by
  apply decide_eq_decide.2
  have e := V_FRs EX1 (by rw [EX1_len]; exact Nat.le_refl _)
  rw [EX1_len, EX1_val] at e
  rw [RM_one]
  rcases SS_lt (FRs EX1 48) (nm x) with ⟨h, h'⟩ | ⟨h, _, h'⟩
  · rw [e, V_nm] at h'
    exact ⟨fun e' => (by rw [h] at e'; exact absurd e' (by decide)), fun _ => by omega⟩
  · rw [e, V_nm] at h'
    exact ⟨fun _ => h', fun _ => h⟩
/-! ### The reference's numbers of many bytes -/
theorem V_set0 (t : List (BitVec 64)) (n k : Nat) (hk : k < t.length) (hn : k < n) (x : BitVec 64) : V (t.set k x) n + (t.getD k 0).toNat * 2 ^ (64 * k) = V t n + x.toNat * 2 ^ (64 * k) := V_set t k x hk n hn
theorem ab_aux {v0 v1 x y a W q c : Nat} (h : v1 + a * q = v0 + x * q) (e : x + y * W = a + c) : v1 + y * (q * W) = v0 + c * q := by
  have : (x + y * W) * q = (a + c) * q := by rw [e]
  rw [Nat.add_mul, Nat.add_mul, Nat.mul_assoc, Nat.mul_comm W] at this
  omega
theorem AB_val (t : List (BitVec 64)) (c : BitVec 64) (n : Nat) (ht : t.length = n) : ∀ j, j < n → V (AB t c j).1 n + (AB t c j).2.toNat * 2 ^ (64 * (j + 1)) = V t n + c.toNat
  | 0, h => by
    have h1 := V_set0 t n 0 (by omega) h (ADC (t.getD 0 0) c 0).1
    have h2 := ADC_val (t.getD 0 0) c 0
    rw [show (0 : BitVec 64).toNat = 0 from rfl, Nat.add_zero] at h2
    have h3 := ab_aux (W := 18446744073709551616) h1 h2
    rw [Nat.mul_zero, Nat.pow_zero, Nat.one_mul, Nat.mul_one] at h3
    rw [AB, show 64 * (0 + 1) = 64 from rfl]
    exact h3
  | j + 1, h => by
    have ih := AB_val t c n ht j (by omega)
    have h1 := V_set0 (AB t c j).1 n (j + 1) (by rw [AB_len]; omega) h (ADC ((AB t c j).1.getD (j + 1) 0) 0 (AB t c j).2).1
    have h2 := ADC_val ((AB t c j).1.getD (j + 1) 0) 0 (AB t c j).2
    rw [show (0 : BitVec 64).toNat = 0 from rfl, Nat.add_zero] at h2
    have h3 := ab_aux (W := 18446744073709551616) h1 h2
    rw [AB, pow64 (j + 1)]
    simp only []
    rw [h3, ih]
theorem n256 : V (256#64 :: List.replicate 5 0) 6 = 256 := V_small 256#64
theorem ab_over {v y q m c : Nat} (h : v + y * q = m + c) (hm : m + c < q) : v = m + c := by
  rcases Nat.eq_zero_or_pos y with rfl | hy
  · omega
  · have : q ≤ y * q := Nat.le_mul_of_pos_left q hy
    omega
theorem PL_ne : PL ≠ List.replicate 6 0 := by decide
theorem R12_big {k : Nat} (h : R6 = 2 ^ k) (hk : 64 * 12 = k + k) : 2 ^ (64 * 12) = R6 * R6 := by rw [hk, Nat.pow_add, h]
theorem WDs_val (bs : List (BitVec 8)) : ∀ i, V (WDs bs PL i) 6 = BN bs i % PP
  | 0 => (V_zero 6 6).trans (Nat.zero_mod _).symm
  | i + 1 => by
    have ih := WDs_val bs i
    have hlt : V (WDs bs PL i) 6 < PP := by rw [ih]; exact Nat.mod_lt _ PP_pos
    have hb := (bs.getD i 0).isLt
    have e0 : ((bs.getD i 0).setWidth 64).toNat = (bs.getD i 0).toNat := by
      rw [BitVec.toNat_setWidth]; exact Nat.mod_eq_of_lt (by omega)
    have h1 := AB_val (MU (WDs bs PL i) (256#64 :: List.replicate 5 0) 6) ((bs.getD i 0).setWidth 64) 12 (MU_len _ _ _) 11 (by decide)
    rw [MU_val _ _ 6 (Nat.le_refl _), n256, e0] at h1
    have h2 : V (AB (MU (WDs bs PL i) (256#64 :: List.replicate 5 0) 6) ((bs.getD i 0).setWidth 64) 11).1 12 = V (WDs bs PL i) 6 * 256 + (bs.getD i 0).toNat := by
      refine ab_over h1 ?_
      have hR := PP_R6
      have hbig : 1000 * R6 ≤ R6 * R6 := Nat.mul_le_mul_right _ (Nat.le_of_lt (Nat.lt_trans PP_big hR))
      rw [show 64 * (11 + 1) = 64 * 12 from rfl, R12_big R6_def rfl]
      omega
    rw [WDs_succ, MOD_val _ PL rfl PL_ne, h2, PL_val, ih, BN, Nat.add_mod, Nat.mod_mul_mod, ← Nat.add_mod, Nat.mul_comm]
theorem RM_WDs (bs : List (BitVec 8)) : RM (WDs bs PL bs.length) TWO = fe (ZB bs) := by
  rw [RM_two _ (by rw [WDs_val]; exact Nat.mod_lt _ PP_pos), WDs_val, zp_mod]; rfl
theorem rmulE (x y : Zp) : Pure Tryd.prog Gt 32 [EV x, EV y] (EV (x * y)) := by
  have h := rmul_pure (fe x) (fe y) (by simp) (by simp)
  rw [RM_fe] at h
  exact h
theorem raddE (x y : Zp) : Pure Tryd.prog Gt 28 [EV x, EV y] (EV (x + y)) := by
  have h := rfadd_pure (fe x) (fe y) (by simp) (by simp)
  rw [RADD_fe] at h
  exact h
theorem rsubE (x y : Zp) : Pure Tryd.prog Gt 30 [EV x, EV y] (EV (x - y)) := by
  have h := rfsub_pure (fe x) (fe y) (by simp) (by simp)
  rw [RSUB_fe] at h
  exact h
theorem rnegE (x : Zp) : Pure Tryd.prog Gt 35 [EV x] (EV (-x)) := by
  have h := rneg_pure (fe x) (by simp)
  rw [RNEG_fe] at h
  exact h
theorem rinvE (x : Zp) : Pure Tryd.prog Gt 37 [EV x] (EV (x ^ (PP - 2))) := by
  have h := rinv_pure (fe x) (by simp)
  rw [RP_EX2] at h
  exact h
theorem rnumberE (x : Zp) : Pure Tryd.prog Gt 59 [EV x] (NV (nm x)) := by
  have h := rnumber_pure (fe x) (by simp)
  rw [RM_one] at h
  exact h
theorem risZeroE (x : Zp) : Pure Tryd.prog Gt 39 [EV x] (.bool (decide (x = 0))) := by
  have h := risZero_pure (fe x) (by simp)
  rw [← fe_0o, decide_fe] at h
  exact h
theorem roddE (x : Zp) : Pure Tryd.prog Gt 49 [EV x] (.bool (decide (x.val % 2 = 1))) := by
  have h := rodd_pure (fe x) (by simp)
  rw [RM_one, odd_and] at h
  exact h
theorem rlargeE (x : Zp) : Pure Tryd.prog Gt 50 [EV x] (.bool (decide (hf < x.val))) := by
  have h := rlarge_pure (fe x) (by simp)
  rw [RLARGE_fe] at h
  exact h
theorem rlegE (x : Zp) : Pure Tryd.prog Gt 46 [EV x] (I (LEG x)) := by
  have h := rleg_pure (fe x) (by simp)
  rw [RLEG_fe] at h
  exact h
theorem rofE (x : Zp) : Pure Tryd.prog Gt 22 [NV (nm x)] (EV x) := by
  have h := rof_pure (nm x) (by simp)
  rw [RM_two_nm] at h
  exact h
theorem rofW (bs : List (BitVec 8)) : Pure Tryd.prog Gt 22 [NV (WDs bs PL bs.length)] (EV (ZB bs)) := by
  have h := rof_pure (WDs bs PL bs.length) (WDs_len _ _ _)
  rw [RM_WDs] at h
  exact h
theorem PP_64 : 18446744073709551616 < PP := by decide +kernel
theorem rsmallE (n : BitVec 64) : Pure Tryd.prog Gt 25 [U64 n] (EV (zp n.toNat)) := by
  have h := rsmall_pure n
  have hn := n.isLt
  have hp := PP_64
  rw [RM_two _ (by rw [V_small]; omega), V_small] at h
  exact h
theorem rbytesE (x : Zp) : Pure Tryd.prog Gt 58 [NV (nm x)] (.agg ((by48 x).map U8).toArray) := rbytesOf_pure (nm x) (by simp)
theorem rpowE (x : Zp) (e : Option Addr) (cap : Nat) (bs : List (BitVec 8)) (hlen : bs.length ≤ 4096) (w : World) (hw : Gt w) (hby : BytesAt w e bs) :
    Calls Tryd.prog 41 [EV x, .slice e bs.length cap].toArray w (fun r w' => r = .returned (EV (x ^ BN bs bs.length)) ∧ Grow w w') := by
  have h := rpow_calls (fe x) (by simp) e cap bs hlen w hw hby
  rw [RP_num] at h
  exact h
end Go.Proofs.YthgoggiiabaccaaDoor

namespace Go.Proofs.YthgoggiiabaccaaDoor
open Go.RowKit
set_option maxRecDepth 100000
set_option maxHeartbeats 1000000
attribute [local simp] fe_len nm_len AS_len SS_len MONT_len RM_len FRs_len BYs_len by48_len PLl TWOl ONEl N1l IVPl HFPl RTPl FL_len SP_len

theorem ent44 : Enters Tryd.prog 44 := fun _ _ => by kernel_rfl
theorem ent12 : Enters Tryd.prog 12 := fun _ _ => by kernel_rfl
theorem ent26 : Enters Tryd.prog 26 := fun _ _ => by kernel_rfl
theorem ent20 : Enters Tryd.prog 20 := fun _ _ => by kernel_rfl
theorem ent11 : Enters Tryd.prog 11 := fun _ _ => by kernel_rfl
theorem ent42 : Enters Tryd.prog 42 := fun _ _ => by kernel_rfl
theorem ent51 : Enters Tryd.prog 51 := fun _ _ => by kernel_rfl
theorem eqg42 (op : BinOp) (x y : Operand) (xs ys : Array Value) (w : World) : (eqGuard op 42 x y (.agg xs) (.agg ys)).run Tryd.prog w = .ok () w := eqgF op x y xs ys w
theorem eqv42 (xs ys : List (BitVec 64)) (h : xs.length = 6) (h' : ys.length = 6) (w : World) : (binOp .eql 42 (.agg (xs.map U64).toArray) (.agg (ys.map U64).toArray)).run Tryd.prog w = .ok (.bool (decide (xs = ys))) w := eqF xs ys h h' w
theorem nev42 (xs ys : List (BitVec 64)) (h : xs.length = 6) (h' : ys.length = 6) (w : World) : (binOp .neq 42 (.agg (xs.map U64).toArray) (.agg (ys.map U64).toArray)).run Tryd.prog w = .ok (.bool (!decide (xs = ys))) w := bin_neS Tryd.underlying42 rfl (by decide) (by kernel_rfl) Tryd.isAgg31 Tryd.sizeOf31 Tryd.underlying31 Tryd.underlying23 Tryd.sizeOf23 Tryd.isAgg23 xs ys h h' w
theorem rpow48E (x : Zp) (b : Nat) (t : TypeId) (bs : List (BitVec 8)) (h48 : bs.length = 48) (w : World) (hw : Gt w) (ho : OwnB w b (bs.map U8) t) :
    Calls Tryd.prog 41 [EV x, .slice (some ⟨b, 0, none⟩) 48 48].toArray w (fun r w' => r = .returned (EV (x ^ BN bs 48)) ∧ Grow w w') := by
  have h := rpowE x (some ⟨b, 0, none⟩) 48 bs (by omega) w hw (BytesAt.range ho.range)
  rw [h48] at h
  exact h
theorem rpowEX4 (x : Zp) (b : Nat) (t : TypeId) (w : World) (hw : Gt w) (ho : OwnB w b (EX4.map U8) t) :
    Calls Tryd.prog 41 [EV x, .slice (some ⟨b, 0, none⟩) 48 48].toArray w (fun r w' => r = .returned (EV (SQr x)) ∧ Grow w w') := by
  have h := rpow48E x b t EX4 EX4_len w hw ho
  rw [EX4_val] at h
  exact h
theorem rsqrtE (x : Zp) : Pure Tryd.prog Gt 44 [EV x] (.tuple #[EV (SQ x), .bool (decide (SQr x * SQr x = x))]) := by
  intro w hw
  have hGF : BOk Gt (pl w) := gt_low.plain hw
  refine calls_of_X (G := Gt) Tryd.func44 rfl rfl (Hp (pl w) []) (hp_refl (pl w) trivial rides_true) (good_hp hGF) ?_
  refine xs_plain (E := EE []) ?_
  refine lx_boxr 1 hGF rfl rfl rfl ?_
  intro b1
  refine lx_allocr 2 hGF zv42 rfl rfl ?_
  intro b2
  refine lx_assign rfl rfl rfl ?_
  refine lx_nil ?_
  refine xs_tree (EE [70, 2000070, 2999999]) mixed (by kernel_rfl) (by kernel_rfl) ?_
  refine tr_pre (m := 4) [0] (by kernel_rfl) ?_
  refine lx_loada 1 rfl rfl Tryd.isAgg42 Tryd.sizeOf42 (by simp) rfl rfl ?_
  refine lx_nil ?_
  refine tr_any (m := 3) [1, 3] (by kernel_rfl) (by kernel_rfl) (by decide) ?_
  intro i hi
  simp only [List.mem_cons, List.not_mem_nil, or_false] at hi
  rcases hi with rfl | rfl
  · skip
    refine lx_callG rfl rfl ent70 rfl rfl (fun w' hw' => (rsh4_calls w' (hGF.g _ _ _ hw')).mono fun e w'' h => ?_)
    obtain ⟨bm, rfl, hg, hb, hob⟩ := h
    refine ⟨_, _, rfl, good_hp hGF, hw'.news rides_true hg [(6, bm, EX4.map U8, 36)] ?_ inj_one, hp_fresh rides_true rfl, ?_⟩
    · intro n' b' c' t' hl
      rcases lkB_cons hl with ⟨_, e⟩ | ⟨_, hl⟩
      · cases e; exact ⟨hb, hob⟩
      · cases hl
    clear hw' hg hb hob
    refine lx_nil ?_
    refine tr_pre (m := 2) [2] (by kernel_rfl) ?_
    refine lx_callC rfl rfl ent41 (fun w' hw' hG => rpowEX4 x bm _ w' hG (hw'.own 6 _ _ _ rfl).1) rfl rfl ?_
    refine lx_nil ?_
    refine tr_pre (m := 0) [3, 4] (by kernel_rfl) ?_
    refine lx_allocG 4 hGF zv42 rfl rfl rfl ?_
    intro b4
    refine lx_storea 4 hGF rfl rfl rfl Tryd.sizeOf42 (by simp) (by simp) (one_u64 _) rfl ?_
    refine lx_nil ?_
    refine tr_nil (by kernel_rfl) ?_
    refine kseq_n ?_
    refine x_seq ?_
    refine xs_drawn (E := EE []) mixed (by kernel_rfl) (by kernel_rfl) (by kernel_rfl) ?_
    refine lx_loada 4 rfl rfl Tryd.isAgg42 Tryd.sizeOf42 (by simp) rfl rfl ?_
    refine lx_loada 4 rfl rfl Tryd.isAgg42 Tryd.sizeOf42 (by simp) rfl rfl ?_
    refine lx_call rfl rfl ent32 (rmulE _ _) rfl rfl ?_
    refine lx_loada 1 rfl rfl Tryd.isAgg42 Tryd.sizeOf42 (by simp) rfl rfl ?_
    refine lx_bin rfl rfl (fun _ => eqg42 _ _ _ _ _ _) (fun w => nev42 _ _ (by simp) (by simp) w) rfl rfl ?_
    refine lx_nil ?_
    refine x_if rfl (fun hc => ?_) (fun hc => ?_)
    · have hs : ¬ SQr x * SQr x = x := by rw [decide_fe] at hc; simpa using hc
      refine xs_plain (E := EE []) ?_
      refine lx_builds zv42 Tryd.underlying42 (bm_one Tryd.sizeOf31) rfl rfl ?_
      refine lx_storea 2 hGF rfl rfl rfl Tryd.sizeOf42 (by simp) (by simp) (one_u64 _) rfl ?_
      refine lx_assign rfl rfl rfl ?_
      refine lx_nil ?_
      refine x_ret ?_
      repeat (first | refine kseq_ret ?_ | refine kblk_ret ?_)
      exact kret_ct 2 rfl rfl rfl rfl Tryd.isAgg42 Tryd.sizeOf42 (by simp) (fun w hw => ⟨by rw [SQ, if_neg hs, decide_eq_false hs, ← fe_0] <;> rfl, hp_below hw⟩)
    · have hs : SQr x * SQr x = x := by rw [decide_fe] at hc; simpa using hc
      clear hc
      refine x_skip ?_
      refine x_seq ?_
      refine xs_plain (E := EE []) ?_
      refine lx_loada 4 rfl rfl Tryd.isAgg42 Tryd.sizeOf42 (by simp) rfl rfl ?_
      refine lx_call rfl rfl ent50 (rlargeE _) rfl rfl ?_
      refine lx_nil ?_
      refine x_if rfl (fun hc => ?_) (fun hc => ?_)
      · simp only [decide_eq_true_eq] at hc
        refine x_plain (E := EE []) ?_
        refine lx_loada 4 rfl rfl Tryd.isAgg42 Tryd.sizeOf42 (by simp) rfl rfl ?_
        refine lx_call rfl rfl ent35 (rnegE _) rfl rfl ?_
        refine lx_storea 4 hGF rfl rfl rfl Tryd.sizeOf42 (by simp) (by simp) (one_u64 _) rfl ?_
        refine lx_nil ?_
        refine xs_plain (E := EE []) ?_
        refine lx_loada 4 rfl rfl Tryd.isAgg42 Tryd.sizeOf42 (by simp) rfl rfl ?_
        refine lx_storea 2 hGF rfl rfl rfl Tryd.sizeOf42 (by simp) (by simp) (one_u64 _) rfl ?_
        refine lx_assign rfl rfl rfl ?_
        refine lx_nil ?_
        refine x_ret ?_
        repeat (first | refine kseq_ret ?_ | refine kblk_ret ?_)
        exact kret_ct 2 rfl rfl rfl rfl Tryd.isAgg42 Tryd.sizeOf42 (by simp) (fun w hw => ⟨by rw [SQ, if_pos hs, SQn, if_pos hc, decide_eq_true hs] <;> rfl, hp_below hw⟩)
      · simp only [decide_eq_false_iff_not] at hc
        refine x_skip ?_
        refine xs_plain (E := EE []) ?_
        refine lx_loada 4 rfl rfl Tryd.isAgg42 Tryd.sizeOf42 (by simp) rfl rfl ?_
        refine lx_storea 2 hGF rfl rfl rfl Tryd.sizeOf42 (by simp) (by simp) (one_u64 _) rfl ?_
        refine lx_assign rfl rfl rfl ?_
        refine lx_nil ?_
        refine x_ret ?_
        repeat (first | refine kseq_ret ?_ | refine kblk_ret ?_)
        exact kret_ct 2 rfl rfl rfl rfl Tryd.isAgg42 Tryd.sizeOf42 (by simp) (fun w hw => ⟨by rw [SQ, if_pos hs, SQn, if_neg hc, decide_eq_true hs] <;> rfl, hp_below hw⟩)
  · skip
    refine lx_allocG 4 hGF zv42 rfl rfl rfl ?_
    intro b4
    refine lx_nil ?_
    refine tr_pre (m := 0) [1, 2, 4] (by kernel_rfl) ?_
    refine lx_callG rfl rfl ent70 rfl rfl (fun w' hw' => (rsh4_calls w' (hGF.g _ _ _ hw')).mono fun e w'' h => ?_)
    obtain ⟨bm, rfl, hg, hb, hob⟩ := h
    refine ⟨_, _, rfl, good_hp hGF, hw'.news rides_true hg [(6, bm, EX4.map U8, 36)] ?_ inj_one, hp_fresh rides_true rfl, ?_⟩
    · intro n' b' c' t' hl
      rcases lkB_cons hl with ⟨_, e⟩ | ⟨_, hl⟩
      · cases e; exact ⟨hb, hob⟩
      · cases hl
    clear hw' hg hb hob
    refine lx_callC rfl rfl ent41 (fun w' hw' hG => rpowEX4 x bm _ w' hG (hw'.own 6 _ _ _ rfl).1) rfl rfl ?_
    refine lx_storea 4 hGF rfl rfl rfl Tryd.sizeOf42 (by simp) (by simp) (one_u64 _) rfl ?_
    refine lx_nil ?_
    refine tr_nil (by kernel_rfl) ?_
    refine kseq_n ?_
    refine x_seq ?_
    refine xs_drawn (E := EE []) mixed (by kernel_rfl) (by kernel_rfl) (by kernel_rfl) ?_
    refine lx_loada 4 rfl rfl Tryd.isAgg42 Tryd.sizeOf42 (by simp) rfl rfl ?_
    refine lx_loada 4 rfl rfl Tryd.isAgg42 Tryd.sizeOf42 (by simp) rfl rfl ?_
    refine lx_call rfl rfl ent32 (rmulE _ _) rfl rfl ?_
    refine lx_loada 1 rfl rfl Tryd.isAgg42 Tryd.sizeOf42 (by simp) rfl rfl ?_
    refine lx_bin rfl rfl (fun _ => eqg42 _ _ _ _ _ _) (fun w => nev42 _ _ (by simp) (by simp) w) rfl rfl ?_
    refine lx_nil ?_
    refine x_if rfl (fun hc => ?_) (fun hc => ?_)
    · have hs : ¬ SQr x * SQr x = x := by rw [decide_fe] at hc; simpa using hc
      refine xs_plain (E := EE []) ?_
      refine lx_builds zv42 Tryd.underlying42 (bm_one Tryd.sizeOf31) rfl rfl ?_
      refine lx_storea 2 hGF rfl rfl rfl Tryd.sizeOf42 (by simp) (by simp) (one_u64 _) rfl ?_
      refine lx_assign rfl rfl rfl ?_
      refine lx_nil ?_
      refine x_ret ?_
      repeat (first | refine kseq_ret ?_ | refine kblk_ret ?_)
      exact kret_ct 2 rfl rfl rfl rfl Tryd.isAgg42 Tryd.sizeOf42 (by simp) (fun w hw => ⟨by rw [SQ, if_neg hs, decide_eq_false hs, ← fe_0] <;> rfl, hp_below hw⟩)
    · have hs : SQr x * SQr x = x := by rw [decide_fe] at hc; simpa using hc
      clear hc
      refine x_skip ?_
      refine x_seq ?_
      refine xs_plain (E := EE []) ?_
      refine lx_loada 4 rfl rfl Tryd.isAgg42 Tryd.sizeOf42 (by simp) rfl rfl ?_
      refine lx_call rfl rfl ent50 (rlargeE _) rfl rfl ?_
      refine lx_nil ?_
      refine x_if rfl (fun hc => ?_) (fun hc => ?_)
      · simp only [decide_eq_true_eq] at hc
        refine x_plain (E := EE []) ?_
        refine lx_loada 4 rfl rfl Tryd.isAgg42 Tryd.sizeOf42 (by simp) rfl rfl ?_
        refine lx_call rfl rfl ent35 (rnegE _) rfl rfl ?_
        refine lx_storea 4 hGF rfl rfl rfl Tryd.sizeOf42 (by simp) (by simp) (one_u64 _) rfl ?_
        refine lx_nil ?_
        refine xs_plain (E := EE []) ?_
        refine lx_loada 4 rfl rfl Tryd.isAgg42 Tryd.sizeOf42 (by simp) rfl rfl ?_
        refine lx_storea 2 hGF rfl rfl rfl Tryd.sizeOf42 (by simp) (by simp) (one_u64 _) rfl ?_
        refine lx_assign rfl rfl rfl ?_
        refine lx_nil ?_
        refine x_ret ?_
        repeat (first | refine kseq_ret ?_ | refine kblk_ret ?_)
        exact kret_ct 2 rfl rfl rfl rfl Tryd.isAgg42 Tryd.sizeOf42 (by simp) (fun w hw => ⟨by rw [SQ, if_pos hs, SQn, if_pos hc, decide_eq_true hs] <;> rfl, hp_below hw⟩)
      · simp only [decide_eq_false_iff_not] at hc
        refine x_skip ?_
        refine xs_plain (E := EE []) ?_
        refine lx_loada 4 rfl rfl Tryd.isAgg42 Tryd.sizeOf42 (by simp) rfl rfl ?_
        refine lx_storea 2 hGF rfl rfl rfl Tryd.sizeOf42 (by simp) (by simp) (one_u64 _) rfl ?_
        refine lx_assign rfl rfl rfl ?_
        refine lx_nil ?_
        refine x_ret ?_
        repeat (first | refine kseq_ret ?_ | refine kblk_ret ?_)
        exact kret_ct 2 rfl rfl rfl rfl Tryd.isAgg42 Tryd.sizeOf42 (by simp) (fun w hw => ⟨by rw [SQ, if_pos hs, SQn, if_neg hc, decide_eq_true hs] <;> rfl, hp_below hw⟩)
end Go.Proofs.YthgoggiiabaccaaDoor

namespace Go.Proofs.YthgoggiiabaccaaDoor
open Go.RowKit
set_option maxRecDepth 100000
set_option maxHeartbeats 1000000
attribute [local simp] fe_len nm_len AS_len SS_len MONT_len RM_len FRs_len BYs_len by48_len PLl TWOl ONEl N1l IVPl HFPl RTPl FL_len SP_len

theorem by48_dec (x y : Zp) : decide (by48 x = by48 y) = decide (x = y) := decide_eq_decide.2 by48_inj
theorem rfromE (x : Zp) (b : Nat) (t : TypeId) (w : World) (hw : Gt w) (ho : OwnB w b ((by48 x).map U8) t) :
    Calls Tryd.prog 14 [.slice (some ⟨b, 0, none⟩) 48 48].toArray w (fun r w' => r = .returned (.tuple #[NV (nm x), .bool true]) ∧ Grow w w') := by
  have h := rfrom48 b t (by48 x) (by48_len x) w hw ho
  rw [FRs_by48] at h
  exact h
def SVl (vs : List (Option Addr × Nat × Nat)) : List Value := vs.map fun v => .slice v.1 v.2.1 v.2.2
theorem same_pure (x y : Zp) : Pure Tryd.prog Gt 20 [EV x, EV y] (.bool (decide (x = y))) := by
  intro w hw
  have hGF : BOk Gt (pl w) := gt_low.plain hw
  refine calls_of_X (G := Gt) Tryd.func20 rfl rfl (Hp (pl w) []) (hp_refl (pl w) trivial rides_true) (good_hp hGF) ?_
  refine xs_plain (E := EE []) ?_
  refine lx_boxr 2 hGF rfl rfl rfl ?_
  intro b2
  refine lx_boxr 3 hGF rfl rfl rfl ?_
  intro b3
  refine lx_assign rfl rfl rfl ?_
  refine lx_nil ?_
  refine xs_drawn (E := EE []) mixed (by kernel_rfl) (by kernel_rfl) (by kernel_rfl) ?_
  refine lx_loada 2 rfl rfl Tryd.isAgg28 Tryd.sizeOf28 (by simp) rfl rfl ?_
  refine lx_call rfl rfl ent18 (fbytes_pure _) rfl rfl ?_
  refine lx_loada 3 rfl rfl Tryd.isAgg42 Tryd.sizeOf42 (by simp) rfl rfl ?_
  refine lx_call rfl rfl ent59 (rnumberE _) rfl rfl ?_
  refine lx_call rfl rfl ent58 (rbytesE _) rfl rfl ?_
  refine lx_bin rfl rfl (fun _ => eqg36 _ _ _ _ _ _) (fun w => eqv36 _ _ (by simp) (by simp) w) rfl rfl ?_
  refine lx_assign rfl rfl rfl ?_
  refine lx_nil ?_
  refine x_ret ?_
  repeat (first | refine kseq_ret ?_ | refine kblk_ret ?_)
  exact kret_tmp rfl rfl (fun w hw => ⟨by rw [by48_dec], hp_below hw⟩)
theorem ref_pure (x : Zp) : Pure Tryd.prog Gt 26 [EV x] (EV x) := by
  intro w hw
  have hGF : BOk Gt (pl w) := gt_low.plain hw
  refine calls_of_X (G := Gt) Tryd.func26 rfl rfl (Hp (pl w) []) (hp_refl (pl w) trivial rides_true) (good_hp hGF) ?_
  refine xs_plain (E := EE []) ?_
  refine lx_boxr 1 hGF rfl rfl rfl ?_
  intro b1
  refine lx_allocr 2 hGF zv42 rfl rfl ?_
  intro b2
  refine lx_nil ?_
  refine xs_plain (E := EE []) ?_
  refine lx_loada 1 rfl rfl Tryd.isAgg28 Tryd.sizeOf28 (by simp) rfl rfl ?_
  refine lx_call rfl rfl ent18 (fbytes_pure _) rfl rfl ?_
  refine lx_allocr 3 hGF zv36 rfl rfl ?_
  intro b3
  refine lx_storea 3 hGF rfl rfl rfl Tryd.sizeOf36 (by simp) (by simp) (one_u8 _) rfl ?_
  refine lx_nil ?_
  refine xs_plain (E := EE []) ?_
  refine lx_slarr1 (l := 0) (h' := 48) rfl Tryd.underlying36 Tryd.sizeOf5 rfl rfl (by omega) (by omega) rfl rfl ?_
  refine lx_callC rfl rfl ent14 (fun w' hC hG => rfromE x _ _ w' hG (hC.own 3 _ _ _ rfl).1) rfl rfl ?_
  refine lx_move rfl rfl rfl ?_
  refine lx_ext rfl rfl rfl rfl ?_
  refine lx_ext rfl rfl rfl rfl ?_
  refine lx_allocr 4 hGF zv31 rfl rfl ?_
  intro b4
  refine lx_storea 4 hGF rfl rfl rfl Tryd.sizeOf31 (by simp) (by simp) (one_u64 _) rfl ?_
  refine lx_assign rfl rfl rfl ?_
  refine lx_nil ?_
  refine xs_plain (E := EE []) ?_
  refine lx_loada 4 rfl rfl Tryd.isAgg31 Tryd.sizeOf31 (by simp) rfl rfl ?_
  refine lx_call rfl rfl ent22 (rofE _) rfl rfl ?_
  refine lx_storea 2 hGF rfl rfl rfl Tryd.sizeOf42 (by simp) (by simp) (one_u64 _) rfl ?_
  refine lx_nil ?_
  refine x_ret ?_
  repeat (first | refine kseq_ret ?_ | refine kblk_ret ?_)
  exact kret_own 2 rfl rfl rfl Tryd.isAgg42 Tryd.sizeOf42 (by simp) (fun w hw => ⟨rfl, hp_below hw⟩)
theorem sq1 (x : Zp) (i : Nat) : x ^ (2 ^ i) * x ^ (2 ^ i) = x ^ (2 ^ (i + 1)) := by rw [← padd, Nat.pow_succ, Nat.mul_two]
theorem shift_pure (x : Zp) (m : Nat) (hm : m ≤ 1000000) : Pure Tryd.prog Gt 42 [EV x, I (m : Int)] (EV (x ^ (2 ^ (8 * m)))) := by
  intro w hw
  have hGF : BOk Gt (pl w) := gt_low.plain hw
  refine calls_of_X (G := Gt) Tryd.func42 rfl rfl (Hp (pl w) []) (hp_refl (pl w) trivial rides_true) (good_hp hGF) ?_
  refine xs_plain (E := EE []) ?_
  refine lx_boxr 2 hGF rfl rfl rfl ?_
  intro b2
  refine lx_allocr 4 hGF zv28 rfl rfl ?_
  intro b4
  refine lx_nil ?_
  refine x_seq ?_
  refine xs_plain (E := EE []) ?_
  refine lx_assign rfl rfl rfl ?_
  refine lx_nil ?_
  refine x_block ?_
  refine x_for (ι := { i : Nat // i ≤ 8 * m }) (fun y => [(1, I (m : Int)), (2, .pointer (some ⟨b2, 0, none⟩)), (4, .pointer (some ⟨b4, 0, none⟩)), (5, I (y.1 : Int))]) (fun y => [(2, b2, (fe (x ^ (2 ^ y.1))).map U64, 28), (4, b4, (List.replicate 6 0#64).map U64, 28)]) (fun y => 8 * m - y.1) ⟨0, Nat.zero_le _⟩ hGF ⟨rfl, rfl, rfl, rfl, trivial⟩ ⟨by rw [Nat.pow_zero, p1]; rfl, rfl, trivial⟩ ?_
  rintro ⟨i, hi⟩
  dsimp only
  refine x_seq ?_
  refine xs_plain (E := EE []) ?_
  refine lx_move rfl rfl rfl ?_
  refine lx_move rfl rfl rfl ?_
  refine lx_bin (v := I ((8 * m : Nat) : Int)) rfl rfl (fun _ => rfl) (fun _ => (bin_mul_i _ _ _ (by unfold inI; omega)).trans (by rw [show (8 : Int) * (m : Int) = ((8 * m : Nat) : Int) by omega])) rfl rfl ?_
  refine lx_bin rfl rfl (fun _ => rfl) (fun _ => bin_lss_i _ _ _) rfl rfl ?_
  refine lx_nil ?_
  refine x_if rfl (fun hc => ?_) (fun hc => ?_)
  · simp only [decide_eq_true_eq] at hc
    refine x_skip ?_
    refine x_seq ?_
    refine x_block ?_
    refine x_plain (E := EE []) ?_
    refine lx_loada 2 rfl rfl Tryd.isAgg28 Tryd.sizeOf28 (by simp) rfl rfl ?_
    refine lx_call rfl rfl ent33 (fsquare_pure _) rfl rfl ?_
    refine lx_storea 2 hGF rfl rfl rfl Tryd.sizeOf28 (by simp) (by simp) (one_u64 _) rfl ?_
    refine lx_nil ?_
    refine x_plain (E := EE []) ?_
    refine lx_move rfl rfl rfl ?_
    refine lx_bin rfl rfl (fun _ => rfl) (fun _ => bin_add_i _ _ _ (by unfold inI; omega)) rfl rfl ?_
    refine lx_assign rfl rfl rfl ?_
    refine lx_nil ?_
    repeat (refine kblk_n ?_)
    refine kseq_n ?_
    exact ⟨rfl, ⟨i + 1, by omega⟩, _, by show 8 * m - (i + 1) < 8 * m - i; omega, rfl, ⟨rfl, rfl, rfl, rfl, trivial⟩, ⟨by rw [← sq1]; rfl, rfl, trivial⟩⟩
  · obtain rfl : i = 8 * m := by simp at hc; omega
    refine x_exit ?_
    refine xs_plain (E := EE []) ?_
    refine lx_loada 2 rfl rfl Tryd.isAgg28 Tryd.sizeOf28 (by simp) rfl rfl ?_
    refine lx_storea 4 hGF rfl rfl rfl Tryd.sizeOf28 (by simp) (by simp) (one_u64 _) rfl ?_
    refine lx_nil ?_
    refine x_ret ?_
    repeat (first | refine kseq_ret ?_ | refine kblk_ret ?_)
    exact kret_own 4 rfl rfl rfl Tryd.isAgg28 Tryd.sizeOf28 (by simp) (fun w hw => ⟨rfl, hp_below hw⟩)
theorem light_calls (b m : Nat) (vs : List (Option Addr × Nat × Nat)) (hm : vs.length = m) (hb : m ≤ 100) (w : World) (hw : Gt w) (ho : w.rangeAt b 0 (SVl vs)) :
    Calls Tryd.prog 12 [.slice (some ⟨b, 0, none⟩) m m].toArray w (fun r w' => r = .returned (.bool (decide (∀ v ∈ vs, v.2.1 ≤ 128))) ∧ Grow w w') := by
  have hGF : BOk Gt (pl w) := gt_low.plain hw
  refine calls_of_X (G := Gt) Tryd.func12 rfl rfl (Hp (pl w) []) (hp_refl (pl w) trivial rides_true) (good_hp hGF) ?_
  refine xs_plain (E := EE []) ?_
  refine lx_assign rfl rfl rfl ?_
  refine lx_nil ?_
  refine x_seq ?_
  refine xs_plain (E := EE []) ?_
  refine lx_assign rfl rfl rfl ?_
  refine lx_nil ?_
  refine x_block ?_
  refine x_for (ι := { i : Nat // i ≤ m ∧ ∀ (j : Nat) v, j < i → vs[j]? = some v → v.2.1 ≤ 128 }) (fun y => [(0, .slice (some ⟨b, 0, none⟩) m m), (3, I (y.1 : Int))]) (fun y => []) (fun y => m - y.1) ⟨0, Nat.zero_le _, fun _ _ h => absurd h (Nat.not_lt_zero _)⟩ hGF ⟨rfl, rfl, trivial⟩ trivial ?_
  rintro ⟨i, hi, hall⟩
  dsimp only
  refine x_seq ?_
  refine xs_plain (E := EE []) ?_
  refine lx_move rfl rfl rfl ?_
  refine lx_move rfl rfl rfl ?_
  refine lx_len rfl (fun _ => len_slice Tryd.underlying63 _ _ _ _) rfl rfl ?_
  refine lx_bin rfl rfl (fun _ => rfl) (fun _ => bin_lss_i _ _ _) rfl rfl ?_
  refine lx_nil ?_
  refine x_if rfl (fun hc => ?_) (fun hc => ?_)
  · have hi2 : i < m := by simp at hc; omega
    clear hc
    refine x_skip ?_
    refine x_seq ?_
    refine x_block ?_
    refine xs_plain (E := EE []) ?_
    refine lx_move rfl rfl rfl ?_
    refine lx_move rfl rfl rfl ?_
    obtain ⟨v, hv⟩ : ∃ v, vs[i]? = some v := ⟨_, List.getElem?_eq_getElem (by omega)⟩
    refine lx_is1 i rfl rfl Tryd.underlying63 Tryd.sizeOf22 (by omega) (by omega) rfl rfl ?_
    refine lx_load rfl Tryd.isAgg22 (fun w' h => hp_oldrange ho (fun h => h) w' h i (.slice v.1 v.2.1 v.2.2) (by rw [SVl, List.getElem?_map, hv]; rfl)) rfl rfl ?_
    refine lx_len rfl (fun _ => len_slice Tryd.underlying22 _ _ _ _) rfl rfl ?_
    refine lx_bin rfl rfl (fun _ => rfl) (fun _ => bin_gtr_i _ _ _) rfl rfl ?_
    refine lx_nil ?_
    refine x_if rfl (fun hc => ?_) (fun hc => ?_)
    · have hbig : ¬ v.2.1 ≤ 128 := by simp at hc; omega
      refine xs_plain (E := EE []) ?_
      refine lx_assign rfl rfl rfl ?_
      refine lx_nil ?_
      refine x_ret ?_
      repeat (first | refine kseq_ret ?_ | refine kblk_ret ?_)
      exact kret_tmp rfl rfl (fun w hw => ⟨by rw [decide_eq_false (fun h => hbig (h v (List.mem_of_getElem? hv)))] <;> rfl, hp_below hw⟩)
    · have hle : v.2.1 ≤ 128 := by simp at hc; omega
      clear hc
      have hall' : ∀ (j : Nat) u, j < i + 1 → vs[j]? = some u → u.2.1 ≤ 128 := fun j u hj hu => by
        rcases Nat.lt_or_ge j i with h | h
        · exact hall j u h hu
        · obtain rfl : j = i := by omega
          cases hv.symm.trans hu
          exact hle
      refine x_skip ?_
      refine x_plain (E := EE []) ?_
      refine lx_move rfl rfl rfl ?_
      refine lx_bin rfl rfl (fun _ => rfl) (fun _ => bin_add_i _ _ _ (by unfold inI; omega)) rfl rfl ?_
      refine lx_assign rfl rfl rfl ?_
      refine lx_nil ?_
      repeat (refine kblk_n ?_)
      refine kseq_n ?_
      exact ⟨rfl, ⟨i + 1, by omega, hall'⟩, _, by show m - (i + 1) < m - i; omega, rfl, ⟨rfl, rfl, trivial⟩, trivial⟩
  · obtain rfl : i = m := by simp at hc; omega
    clear hc
    refine x_exit ?_
    refine xs_plain (E := EE []) ?_
    refine lx_assign rfl rfl rfl ?_
    refine lx_nil ?_
    refine x_ret ?_
    repeat (first | refine kseq_ret ?_ | refine kblk_ret ?_)
    exact kret_tmp rfl rfl (fun w hw => ⟨by rw [decide_eq_true (fun v hv => by obtain ⟨j, hj⟩ := List.getElem?_of_mem hv; exact hall j v (by have := (List.getElem?_eq_some_iff.1 hj).1; omega) hj)] <;> rfl, hp_below hw⟩)
end Go.Proofs.YthgoggiiabaccaaDoor

namespace Go.Proofs.YthgoggiiabaccaaDoor
open Go.RowKit
set_option maxRecDepth 100000
set_option maxHeartbeats 1000000
attribute [local simp] fe_len nm_len AS_len SS_len MONT_len RM_len FRs_len BYs_len by48_len PLl TWOl ONEl N1l IVPl HFPl RTPl FL_len SP_len

theorem zp_pow (a : Nat) : ∀ n : Nat, zp a ^ n = zp (a ^ n)
  | 0 => p0 _
  | n + 1 => by rw [ps, zp_pow a n, Nat.pow_succ, zp_mul]
theorem zpow_pm (a n f : Nat) (h : n < 2 ^ f) : zp a ^ n = zp (pm a PP f n) := by rw [pm_eq _ _ _ _ h, zp_mod, zp_pow]
theorem rg_lt {k : Nat} (hk : R6 = 2 ^ k) : rg < 2 ^ k := by
  have h : rg = V RTP 6 := RTP_val.symm
  rw [← hk, h]
  exact V_lt6 _
theorem k_r4 : SQr (zp 4) = -(zp 2) := by
  have e : pm 4 PP (64 * 6) rg = PP - 2 := by kernel_rfl
  rw [SQr, zpow_pm 4 rg (64 * 6) (rg_lt R6_def), e]
  have h : zp (PP - 2) + zp 2 = 0 := by rw [← zp_add, show PP - 2 + 2 = PP by have := PP_big; omega, zp_PP]
  grind
theorem k_m2 : (-(zp 2)).val = PP - 2 := by decide +kernel
theorem k_4 : SQ (zp 4) = zp 2 ∧ SQr (zp 4) * SQr (zp 4) = zp 4 := by
  have h : SQr (zp 4) * SQr (zp 4) = zp 4 := by
    rw [k_r4, show zp 4 = zp 2 * zp 2 from (zp_mul 2 2).symm]; grind
  refine ⟨?_, h⟩
  rw [SQ, if_pos h, SQn, if_pos (by rw [k_r4, k_m2]; have := hf_val; have := PP_big; omega), k_r4]
  grind
theorem ksq4 : Pure Tryd.prog Gt 43 [EV (zp (4#64).toNat)] (.tuple #[EV (zp (2#64).toNat), .bool true]) := by
  have h := fsqrt_pure (zp 4)
  rw [k_4.1, decide_eq_true k_4.2] at h
  exact h
theorem neg_sq (x : Zp) (n : Nat) : (-x) ^ (2 * n) = x ^ (2 * n) := by
  rw [pmul, pmul, show (-x) ^ 2 = x ^ 2 by grind]
theorem k_m1 : ¬ SQr (-(zp 1)) * SQr (-(zp 1)) = -(zp 1) := fun h => by
  rw [SQr, ← padd, ← Nat.two_mul, neg_sq, zp_1, onep] at h
  have h2 : (1 : Zp) + 1 = 0 := (congrArg (fun z => z + (1 : Zp)) h).trans (by grind)
  have h3 := congrArg Fin.val h2
  rw [Fin.val_add, show (1 : Zp).val = 1 % PP from rfl, Nat.mod_eq_of_lt pr_p.1, Nat.mod_eq_of_lt (by have := PP_big; omega)] at h3
  cases h3
theorem ksqm : Pure Tryd.prog Gt 43 [EV (-(zp (1#64).toNat))] (.tuple #[EV 0, .bool false]) := by
  have h := fsqrt_pure (-(zp 1))
  rw [SQ, if_neg k_m1, decide_eq_false k_m1] at h
  exact h
def M1 : Zp := -(zp (1#64).toNat)
theorem M1_val : M1.val = PP - 1 := by decide +kernel
def BM2 : List (BitVec 8) := (by48 M1).set 47 ((by48 M1).getD 47 0 + 1#8)
theorem BM2_len : BM2.length = 48 := by rw [BM2, List.length_set, by48_len]
attribute [local simp] BM2_len
theorem BM2_num : BN BM2 48 = PP := by decide +kernel
theorem BM2_0 : (BM2.getD 0 0 == 26#8) = true := by decide +kernel
theorem from48 (b : Nat) (t : TypeId) (bs : List (BitVec 8)) (h48 : bs.length = 48) (w : World) (hw : Gt w) (ho : OwnB w b (bs.map U8) t) :
    Calls Tryd.prog 13 [.slice (some ⟨b, 0, none⟩) 48 48].toArray w (fun r w' => r = .returned (.tuple #[EV (FV bs), .bool (FO bs)]) ∧ Grow w w') := by
  have h := ffrom_calls (some ⟨b, 0, none⟩) 48 bs w hw (BytesAt.range ho.range)
  rw [h48] at h
  exact h
theorem from_by48 (x : Zp) (b : Nat) (t : TypeId) (w : World) (hw : Gt w) (ho : OwnB w b ((by48 x).map U8) t) :
    Calls Tryd.prog 13 [.slice (some ⟨b, 0, none⟩) 48 48].toArray w (fun r w' => r = .returned (.tuple #[EV x, .bool true]) ∧ Grow w w') := by
  have h := from48 b t (by48 x) (by48_len x) w hw ho
  have hc : (by48 x).length = 48 ∧ BN (by48 x) 48 < PP := ⟨by48_len x, by rw [BN_by48]; exact x.isLt⟩
  rw [FV, FO, if_pos hc, decide_eq_true hc, BN_by48, zp_of] at h
  exact h
theorem from_bm2 (b : Nat) (t : TypeId) (w : World) (hw : Gt w) (ho : OwnB w b (BM2.map U8) t) :
    Calls Tryd.prog 13 [.slice (some ⟨b, 0, none⟩) 48 48].toArray w (fun r w' => r = .returned (.tuple #[EV 0, .bool false]) ∧ Grow w w') := by
  have h := from48 b t BM2 BM2_len w hw ho
  have hc : ¬ (BM2.length = 48 ∧ BN BM2 48 < PP) := fun h => by rw [BM2_num] at h; omega
  rw [FV, FO, if_neg hc, decide_eq_false hc] at h
  exact h
theorem k_35 : zp (3#64).toNat * zp (5#64).toNat = zp (15#64).toNat := (zp_mul 3 5).symm
theorem k_7 : zp 7 ≠ 0 := fun h => by
  have := congrArg Fin.val h
  rw [zp_val, Nat.mod_eq_of_lt (by have := PP_big; omega)] at this
  cases this
theorem k_77 : zp (7#64).toNat ^ (PP - 2) * zp (7#64).toNat = zp (1#64).toNat := by
  have h := zinv k_7
  show zp 7 ^ (PP - 2) * zp 7 = zp 1
  rw [zp_1, ← h]; grind
theorem known_pure  : Pure Tryd.prog Gt 11 [] (.bool true) := by
  intro w hw
  have hGF : BOk Gt (pl w) := gt_low.plain hw
  refine calls_of_X (G := Gt) Tryd.func11 rfl rfl (Hp (pl w) []) (hp_refl (pl w) trivial rides_true) (good_hp hGF) ?_
  refine xs_plain (E := EE []) ?_
  refine lx_assign rfl rfl rfl ?_
  refine lx_nil ?_
  refine xs_plain (E := EE []) ?_
  refine lx_call rfl rfl ent24 (fof_pure _) rfl rfl ?_
  refine lx_call rfl rfl ent43 (ksq4) rfl rfl ?_
  refine lx_move rfl rfl rfl ?_
  refine lx_ext rfl rfl rfl rfl ?_
  refine lx_ext rfl rfl rfl rfl ?_
  refine lx_allocr 1 hGF zv28 rfl rfl ?_
  intro b1
  refine lx_storea 1 hGF rfl rfl rfl Tryd.sizeOf28 (by simp) (by simp) (one_u64 _) rfl ?_
  refine lx_assign rfl rfl rfl ?_
  refine lx_nil ?_
  refine xs_plain (E := EE []) ?_
  refine lx_call rfl rfl ent24 (fof_pure _) rfl rfl ?_
  refine lx_call rfl rfl ent34 (fneg_pure _) rfl rfl ?_
  refine lx_call rfl rfl ent18 (fbytes_pure _) rfl rfl ?_
  refine lx_allocr 3 hGF zv36 rfl rfl ?_
  intro b3
  refine lx_storea 3 hGF rfl rfl rfl Tryd.sizeOf36 (by simp) (by simp) (one_u8 _) rfl ?_
  refine lx_nil ?_
  refine xs_plain (E := EE []) ?_
  refine lx_call rfl rfl ent24 (fof_pure _) rfl rfl ?_
  refine lx_call rfl rfl ent34 (fneg_pure _) rfl rfl ?_
  refine lx_call rfl rfl ent43 (ksqm) rfl rfl ?_
  refine lx_move rfl rfl rfl ?_
  refine lx_ext rfl rfl rfl rfl ?_
  refine lx_ext rfl rfl rfl rfl ?_
  refine lx_allocr 4 hGF zv28 rfl rfl ?_
  intro b4
  refine lx_storea 4 hGF rfl rfl rfl Tryd.sizeOf28 (by simp) (by simp) (one_u64 _) rfl ?_
  refine lx_assign rfl rfl rfl ?_
  refine lx_nil ?_
  refine xs_plain (E := EE []) ?_
  refine lx_slarr1 (l := 0) (h' := 48) rfl Tryd.underlying36 Tryd.sizeOf5 rfl rfl (by omega) (by omega) rfl rfl ?_
  refine lx_callC rfl rfl ent13 (fun w' hC hG => from_by48 _ _ _ w' hG (hC.own 3 _ _ _ rfl).1) rfl rfl ?_
  refine lx_move rfl rfl rfl ?_
  refine lx_ext rfl rfl rfl rfl ?_
  refine lx_ext rfl rfl rfl rfl ?_
  refine lx_allocr 6 hGF zv28 rfl rfl ?_
  intro b6
  refine lx_storea 6 hGF rfl rfl rfl Tryd.sizeOf28 (by simp) (by simp) (one_u64 _) rfl ?_
  refine lx_assign rfl rfl rfl ?_
  refine lx_nil ?_
  refine xs_plain (E := EE []) ?_
  refine lx_ia0 (47) rfl rfl Tryd.underlying36 Tryd.sizeOf5 (by omega) (by omega) rfl rfl ?_
  refine lx_loadm 3 U8 0 rfl rfl Tryd.isAgg5 (by simp; try omega) rfl rfl ?_
  refine lx_bin rfl rfl (fun _ => rfl) (fun _ => bin_add_u8 _ _ _) rfl rfl ?_
  refine lx_ia0 (47) rfl rfl Tryd.underlying36 Tryd.sizeOf5 (by omega) (by omega) rfl rfl ?_
  refine lx_storem 3 U8 hGF rfl rfl rfl Tryd.sizeOf5 rfl (by simp; try omega) rfl ?_
  refine lx_nil ?_
  refine xs_plain (E := EE []) ?_
  refine lx_slarr1 (l := 0) (h' := 48) rfl Tryd.underlying36 Tryd.sizeOf5 rfl rfl (by omega) (by omega) rfl rfl ?_
  refine lx_callC rfl rfl ent13 (fun w' hC hG => from_bm2 _ _ w' hG (hC.own 3 _ _ _ rfl).1) rfl rfl ?_
  refine lx_move rfl rfl rfl ?_
  refine lx_ext rfl rfl rfl rfl ?_
  refine lx_ext rfl rfl rfl rfl ?_
  refine lx_allocr 8 hGF zv28 rfl rfl ?_
  intro b8
  refine lx_storea 8 hGF rfl rfl rfl Tryd.sizeOf28 (by simp) (by simp) (one_u64 _) rfl ?_
  refine lx_assign rfl rfl rfl ?_
  refine lx_nil ?_
  refine xs_drawn (E := EE []) mixed (by kernel_rfl) (by kernel_rfl) (by kernel_rfl) ?_
  refine lx_move rfl rfl rfl ?_
  refine lx_move rfl rfl rfl ?_
  refine lx_loada 1 rfl rfl Tryd.isAgg28 Tryd.sizeOf28 (by simp) rfl rfl ?_
  refine lx_call rfl rfl ent24 (fof_pure _) rfl rfl ?_
  refine lx_callB true rfl rfl ent38 (fequal_pure _ _) (decide_eq_true rfl) rfl rfl ?_
  refine lx_pick rfl rfl rfl rfl rfl ?_
  refine lx_move rfl rfl rfl ?_
  refine lx_move rfl rfl rfl ?_
  refine lx_un rfl (fun _ => un_not _) rfl rfl ?_
  refine lx_pick rfl rfl rfl rfl rfl ?_
  refine lx_move rfl rfl rfl ?_
  refine lx_move rfl rfl rfl ?_
  refine lx_pick rfl rfl rfl rfl rfl ?_
  refine lx_move rfl rfl rfl ?_
  refine lx_loada 6 rfl rfl Tryd.isAgg28 Tryd.sizeOf28 (by simp) rfl rfl ?_
  refine lx_call rfl rfl ent24 (fof_pure _) rfl rfl ?_
  refine lx_call rfl rfl ent27 (fadd_pure _ _) rfl rfl ?_
  refine lx_callB true rfl rfl ent17 (fisZero_pure _) (decide_eq_true (by grind)) rfl rfl ?_
  refine lx_pick rfl rfl rfl rfl rfl ?_
  refine lx_move rfl rfl rfl ?_
  refine lx_move rfl rfl rfl ?_
  refine lx_un rfl (fun _ => un_not _) rfl rfl ?_
  refine lx_pick rfl rfl rfl rfl rfl ?_
  refine lx_move rfl rfl rfl ?_
  refine lx_ia0 (0) rfl rfl Tryd.underlying36 Tryd.sizeOf5 (by omega) (by omega) rfl rfl ?_
  refine lx_loadm 3 U8 0 rfl rfl Tryd.isAgg5 (by simp; try omega) rfl rfl ?_
  refine lx_binB true rfl rfl (fun _ => rfl) (fun _ => bin_eql_u8 _ _ _) (BM2_0) rfl rfl ?_
  refine lx_pick rfl rfl rfl rfl rfl ?_
  refine lx_move rfl rfl rfl ?_
  refine lx_call rfl rfl ent24 (fof_pure _) rfl rfl ?_
  refine lx_call rfl rfl ent24 (fof_pure _) rfl rfl ?_
  refine lx_call rfl rfl ent31 (fmul_pure _ _) rfl rfl ?_
  refine lx_call rfl rfl ent24 (fof_pure _) rfl rfl ?_
  refine lx_callB true rfl rfl ent38 (fequal_pure _ _) (decide_eq_true k_35) rfl rfl ?_
  refine lx_pick rfl rfl rfl rfl rfl ?_
  refine lx_move rfl rfl rfl ?_
  refine lx_call rfl rfl ent24 (fof_pure _) rfl rfl ?_
  refine lx_call rfl rfl ent36 (finv_pure _) rfl rfl ?_
  refine lx_call rfl rfl ent24 (fof_pure _) rfl rfl ?_
  refine lx_call rfl rfl ent31 (fmul_pure _ _) rfl rfl ?_
  refine lx_call rfl rfl ent24 (fof_pure _) rfl rfl ?_
  refine lx_callB true rfl rfl ent38 (fequal_pure _ _) (decide_eq_true k_77) rfl rfl ?_
  refine lx_pick rfl rfl rfl rfl rfl ?_
  refine lx_assign rfl rfl rfl ?_
  refine lx_nil ?_
  refine x_ret ?_
  repeat (first | refine kseq_ret ?_ | refine kblk_ret ?_)
  exact kret_tmp rfl rfl (fun w hw => ⟨rfl, hp_below hw⟩)
end Go.Proofs.YthgoggiiabaccaaDoor
