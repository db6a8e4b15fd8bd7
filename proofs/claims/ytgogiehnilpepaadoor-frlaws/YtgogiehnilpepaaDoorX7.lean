/-
  The reference's numbers modulo r; what the laws of layer 4 share.
  The chapter's examples.
-/
import Derived.Test.YtgogiehnilpepaaDoorX6
namespace Go.Proofs.YtgogiehnilpepaaDoor
open Go.RowKit
set_option maxRecDepth 100000
set_option maxHeartbeats 1000000
attribute [local simp] nr_len AS_len SS_len MONT_len FRs_len BYs_len by32_len MLl LIFTl IVRl SQP_len FL_len WDs_len MOD_len MU_len

theorem qV_set0 (t : List (BitVec 64)) (n k : Nat) (hk : k < t.length) (hn : k < n) (x : BitVec 64) : V (t.set k x) n + (t.getD k 0).toNat * 2 ^ (64 * k) = V t n + x.toNat * 2 ^ (64 * k) := V_set t k x hk n hn
theorem qab_aux {v0 v1 x y a W q c : Nat} (h : v1 + a * q = v0 + x * q) (e : x + y * W = a + c) : v1 + y * (q * W) = v0 + c * q := by
  have : (x + y * W) * q = (a + c) * q := by rw [e]
  rw [Nat.add_mul, Nat.add_mul, Nat.mul_assoc, Nat.mul_comm W] at this
  omega
theorem qAB_val (t : List (BitVec 64)) (c : BitVec 64) (n : Nat) (ht : t.length = n) : ∀ j, j < n → V (AB t c j).1 n + (AB t c j).2.toNat * 2 ^ (64 * (j + 1)) = V t n + c.toNat
  | 0, h => by
    have h1 := qV_set0 t n 0 (by omega) h (ADC (t.getD 0 0) c 0).1
    have h2 := ADC_val (t.getD 0 0) c 0
    rw [show (0 : BitVec 64).toNat = 0 from rfl, Nat.add_zero] at h2
    have h3 := qab_aux (W := 18446744073709551616) h1 h2
    rw [Nat.mul_zero, Nat.pow_zero, Nat.one_mul, Nat.mul_one] at h3
    rw [AB, show 64 * (0 + 1) = 64 from rfl]
    exact h3
  | j + 1, h => by
    have ih := qAB_val t c n ht j (by omega)
    have h1 := qV_set0 (AB t c j).1 n (j + 1) (by rw [AB_len]; omega) h (ADC ((AB t c j).1.getD (j + 1) 0) 0 (AB t c j).2).1
    have h2 := ADC_val ((AB t c j).1.getD (j + 1) 0) 0 (AB t c j).2
    rw [show (0 : BitVec 64).toNat = 0 from rfl, Nat.add_zero] at h2
    have h3 := qab_aux (W := 18446744073709551616) h1 h2
    rw [AB, pow64 (j + 1)]
    simp only []
    rw [h3, ih]
theorem qab_over {v y q m c : Nat} (h : v + y * q = m + c) (hm : m + c < q) : v = m + c := by
  rcases Nat.eq_zero_or_pos y with rfl | hy
  · omega
  · have : q ≤ y * q := Nat.le_mul_of_pos_left q hy
    omega
theorem qR12_big {k : Nat} (h : R6 = 2 ^ k) (hk : 64 * 12 = k + k) : 2 ^ (64 * 12) = R6 * R6 := by rw [hk, Nat.pow_add, h]
theorem ML_ne : ML ≠ List.replicate 6 0 := by decide
theorem qWDs_val (bs : List (BitVec 8)) : ∀ i, V (WDs bs ML i) 6 = BN bs i % RR
  | 0 => (V_zero 6 6).trans (Nat.zero_mod _).symm
  | i + 1 => by
    have ih := qWDs_val bs i
    have hlt : V (WDs bs ML i) 6 < RR := by rw [ih]; exact Nat.mod_lt _ RR_pos
    have hb := (bs.getD i 0).isLt
    have e0 : ((bs.getD i 0).setWidth 64).toNat = (bs.getD i 0).toNat := by
      rw [BitVec.toNat_setWidth]; exact Nat.mod_eq_of_lt (by omega)
    have h1 := qAB_val (MU (WDs bs ML i) (256#64 :: List.replicate 5 0) 6) ((bs.getD i 0).setWidth 64) 12 (MU_len _ _ _) 11 (by decide)
    rw [MU_val _ _ 6 (Nat.le_refl _), qV_small, show (256#64).toNat = 256 from rfl, e0] at h1
    have h2 : V (AB (MU (WDs bs ML i) (256#64 :: List.replicate 5 0) 6) ((bs.getD i 0).setWidth 64) 11).1 12 = V (WDs bs ML i) 6 * 256 + (bs.getD i 0).toNat := by
      refine qab_over h1 ?_
      have hR := RR_R6
      have hB : 1000 < RR := by decide +kernel
      have hbig : 1000 * R6 ≤ R6 * R6 := Nat.mul_le_mul_right _ (Nat.le_of_lt (Nat.lt_trans hB hR))
      rw [show 64 * (11 + 1) = 64 * 12 from rfl, qR12_big R6_def rfl]
      omega
    rw [WDs_succ, MOD_val _ ML rfl ML_ne, h2, ML_val, ih, BN, Nat.add_mod, Nat.mod_mul_mod, ← Nat.add_mod, Nat.mul_comm]
theorem WDs_nr (bs : List (BitVec 8)) : WDs bs ML bs.length = nr (QB bs) :=
  nr_of (WDs_len _ _ _) (by rw [qWDs_val]; exact Nat.mod_lt _ RR_pos) (by rw [qWDs_val, zr_mod]; rfl)
theorem MOD_nr (t : List (BitVec 64)) : MOD t ML = nr (zr (V t 12)) :=
  nr_of (MOD_len _ _) (by rw [MOD_val t ML rfl ML_ne, ML_val]; exact Nat.mod_lt _ RR_pos) (by rw [MOD_val t ML rfl ML_ne, ML_val, zr_mod])
theorem MOD_times (x y : Zr) : MOD (MU (nr x) (nr y) 6) ML = nr (x * y) := by rw [MOD_nr, MU_val _ _ 6 (Nat.le_refl _), zr_mul, zr_nr, zr_nr]
theorem eqg31 (op : BinOp) (x y : Operand) (xs ys : Array Value) (w : World) : (eqGuard op 31 x y (.agg xs) (.agg ys)).run Tryd.prog w = .ok () w := run_eqGuard_agg w op 31 x y xs ys (by kernel_rfl)
theorem eqv31 (xs ys : List (BitVec 64)) (h : xs.length = 6) (h' : ys.length = 6) (w : World) : (binOp .eql 31 (.agg (xs.map U64).toArray) (.agg (ys.map U64).toArray)).run Tryd.prog w = .ok (.bool (decide (xs = ys))) w := bin_eq64 Tryd.underlying31 Tryd.underlying23 Tryd.sizeOf23 Tryd.isAgg23 xs ys h h' w
theorem ent12 : Enters Tryd.prog 12 := fun _ _ => by kernel_rfl
theorem ent11 : Enters Tryd.prog 11 := fun _ _ => by kernel_rfl
theorem ent31 : Enters Tryd.prog 31 := fun _ _ => by kernel_rfl
theorem ent8 : Enters Tryd.prog 8 := fun _ _ => by kernel_rfl
theorem ent7 : Enters Tryd.prog 7 := fun _ _ => by kernel_rfl
theorem ent20 : Enters Tryd.prog 20 := fun _ _ => by kernel_rfl
theorem ent16 : Enters Tryd.prog 16 := fun _ _ => by kernel_rfl
theorem ent32 : Enters Tryd.prog 32 := fun _ _ => by kernel_rfl
theorem ent33 : Enters Tryd.prog 33 := fun _ _ => by kernel_rfl
theorem rless_pure (a b : List (BitVec 64)) (ha : a.length = 6) (hb : b.length = 6) : Pure Tryd.prog Gt 11 [NV a, NV b] (.bool ((SS a b 6).2 == 1#64)) := by
  intro w hw
  have hGF : BOk Gt (pl w) := gt_low.plain hw
  refine calls_of_X (G := Gt) Tryd.func11 rfl rfl (Hp (pl w) []) (hp_refl (pl w) trivial rides_true) (good_hp hGF) ?_
  refine xs_plain (E := EE []) ?_
  refine lx_boxr 2 hGF rfl rfl rfl ?_
  intro b2
  refine lx_boxr 3 hGF rfl rfl rfl ?_
  intro b3
  refine lx_assign rfl rfl rfl ?_
  refine lx_nil ?_
  refine xs_plain (E := EE []) ?_
  refine lx_loada 2 rfl rfl Tryd.isAgg31 Tryd.sizeOf31 (by first | (simp; done) | exact ha | exact hb | (rw [List.length_map]; exact ha) | (rw [List.length_map]; exact hb)) rfl rfl ?_
  refine lx_loada 3 rfl rfl Tryd.isAgg31 Tryd.sizeOf31 (by first | (simp; done) | exact ha | exact hb | (rw [List.length_map]; exact ha) | (rw [List.length_map]; exact hb)) rfl rfl ?_
  refine lx_call rfl rfl ent22 (rsub_pure _ _ (by first | (simp; done) | exact ha | exact hb | (rw [List.length_map]; exact ha) | (rw [List.length_map]; exact hb)) (by first | (simp; done) | exact ha | exact hb | (rw [List.length_map]; exact ha) | (rw [List.length_map]; exact hb))) rfl rfl ?_
  refine lx_move rfl rfl rfl ?_
  refine lx_ext rfl rfl rfl rfl ?_
  refine lx_ext rfl rfl rfl rfl ?_
  refine lx_allocr 5 hGF zv31 rfl rfl ?_
  intro b5
  refine lx_storea 5 hGF rfl rfl rfl Tryd.sizeOf31 (by first | (simp; done) | exact ha | exact hb | (rw [List.length_map]; exact ha) | (rw [List.length_map]; exact hb)) (by first | (simp; done) | exact ha | exact hb | (rw [List.length_map]; exact ha) | (rw [List.length_map]; exact hb)) (one_u64 _) rfl ?_
  refine lx_assign rfl rfl rfl ?_
  refine lx_nil ?_
  refine xs_plain (E := EE []) ?_
  refine lx_move rfl rfl rfl ?_
  refine lx_bin rfl rfl (fun _ => rfl) (fun _ => bin_eql_u64 _ _ _) rfl rfl ?_
  refine lx_assign rfl rfl rfl ?_
  refine lx_nil ?_
  refine x_ret ?_
  repeat (first | refine kseq_ret ?_ | refine kblk_ret ?_)
  exact kret_tmp rfl rfl (fun w hw => ⟨rfl, hp_below hw⟩)
theorem rR_pure  : Pure Tryd.prog Gt 12 [] (NV ML) := by
  intro w hw
  have hGF : BOk Gt (pl w) := gt_low.plain hw
  refine calls_of_X (G := Gt) Tryd.func12 rfl rfl (Hp (pl w) []) (hp_refl (pl w) trivial rides_true) (good_hp hGF) ?_
  refine xs_plain (E := EE []) ?_
  refine lx_allocr 0 hGF zv31 rfl rfl ?_
  intro b0
  refine lx_nil ?_
  refine xs_plain (E := EE []) ?_
  refine lx_buildr (n := 6) (vs := ML.map U64) rfl rfl Tryd.underlying31 Tryd.sizeOf23 Tryd.zeroValue31 rfl rfl rfl rfl ?_
  refine lx_storea 0 hGF rfl rfl rfl Tryd.sizeOf31 (by simp) (by simp) (one_u64 _) rfl ?_
  refine lx_nil ?_
  refine x_ret ?_
  repeat (first | refine kseq_ret ?_ | refine kblk_ret ?_)
  exact kret_own 0 rfl rfl rfl Tryd.isAgg31 Tryd.sizeOf31 (by simp) (fun w hw => ⟨rfl, hp_below hw⟩)
theorem rfrom32 (x : Zr) (b : Nat) (t : TypeId) (w : World) (hw : Gt w) (ho : OwnB w b ((by32 x).map U8) t) :
    Calls Tryd.prog 10 [.slice (some ⟨b, 0, none⟩) 32 32].toArray w (fun r w' => r = .returned (.tuple #[RV x, .bool true]) ∧ Grow w w') := by
  have h := rfrom_calls (some ⟨b, 0, none⟩) 32 (by32 x) w hw (BytesAt.range ho.range)
  rw [by32_len, if_neg (by decide), FRs_by32] at h
  exact h
def SVl (vs : List (Option Addr × Nat × Nat)) : List Value := vs.map fun v => .slice v.1 v.2.1 v.2.2
theorem number_pure (x : Zr) : Pure Tryd.prog Gt 20 [RV x] (RV x) := by
  intro w hw
  have hGF : BOk Gt (pl w) := gt_low.plain hw
  refine calls_of_X (G := Gt) Tryd.func20 rfl rfl (Hp (pl w) []) (hp_refl (pl w) trivial rides_true) (good_hp hGF) ?_
  refine xs_plain (E := EE []) ?_
  refine lx_boxr 1 hGF rfl rfl rfl ?_
  intro b1
  refine lx_allocr 2 hGF zv31 rfl rfl ?_
  intro b2
  refine lx_nil ?_
  refine xs_plain (E := EE []) ?_
  refine lx_loada 1 rfl rfl Tryd.isAgg28 Tryd.sizeOf28 (by simp) rfl rfl ?_
  refine lx_call rfl rfl ent14 (qbytes_pure _) rfl rfl ?_
  refine lx_allocr 3 hGF zv36 rfl rfl ?_
  intro b3
  refine lx_storea 3 hGF rfl rfl rfl Tryd.sizeOf36 (by simp) (by simp) (one_u8 _) rfl ?_
  refine lx_nil ?_
  refine xs_plain (E := EE []) ?_
  refine lx_slarr1 (l := 0) (h' := 32) rfl Tryd.underlying36 Tryd.sizeOf5 rfl rfl (by omega) (by omega) rfl rfl ?_
  refine lx_callC rfl rfl ent10 (fun w' hC hG => rfrom32 x _ _ w' hG (hC.own 3 _ _ _ rfl).1) rfl rfl ?_
  refine lx_move rfl rfl rfl ?_
  refine lx_ext rfl rfl rfl rfl ?_
  refine lx_ext rfl rfl rfl rfl ?_
  refine lx_allocr 4 hGF zv31 rfl rfl ?_
  intro b4
  refine lx_storea 4 hGF rfl rfl rfl Tryd.sizeOf31 (by simp) (by simp) (one_u64 _) rfl ?_
  refine lx_assign rfl rfl rfl ?_
  refine lx_nil ?_
  refine xs_plain (E := EE []) ?_
  refine lx_loada 4 rfl rfl Tryd.isAgg31 Tryd.sizeOf31 (by simp) rfl rfl ?_
  refine lx_storea 2 hGF rfl rfl rfl Tryd.sizeOf31 (by simp) (by simp) (one_u64 _) rfl ?_
  refine lx_nil ?_
  refine x_ret ?_
  repeat (first | refine kseq_ret ?_ | refine kblk_ret ?_)
  exact kret_own 2 rfl rfl rfl Tryd.isAgg31 Tryd.sizeOf31 (by simp) (fun w hw => ⟨rfl, hp_below hw⟩)
theorem same_pure (x : Zr) (n : List (BitVec 64)) (hn : n.length = 6) : Pure Tryd.prog Gt 16 [RV x, NV n] (.bool (decide (nr x = n))) := by
  intro w hw
  have hGF : BOk Gt (pl w) := gt_low.plain hw
  refine calls_of_X (G := Gt) Tryd.func16 rfl rfl (Hp (pl w) []) (hp_refl (pl w) trivial rides_true) (good_hp hGF) ?_
  refine xs_plain (E := EE []) ?_
  refine lx_boxr 2 hGF rfl rfl rfl ?_
  intro b2
  refine lx_boxr 3 hGF rfl rfl rfl ?_
  intro b3
  refine lx_assign rfl rfl rfl ?_
  refine lx_nil ?_
  refine xs_drawn (E := EE []) mixed (by kernel_rfl) (by kernel_rfl) (by kernel_rfl) ?_
  refine lx_loada 2 rfl rfl Tryd.isAgg28 Tryd.sizeOf28 (by first | (simp; done) | exact hn | (rw [List.length_map]; exact hn)) rfl rfl ?_
  refine lx_call rfl rfl ent20 (number_pure _) rfl rfl ?_
  refine lx_loada 3 rfl rfl Tryd.isAgg31 Tryd.sizeOf31 (by first | (simp; done) | exact hn | (rw [List.length_map]; exact hn)) rfl rfl ?_
  refine lx_bin rfl rfl (fun _ => eqg31 _ _ _ _ _ _) (fun w => eqv31 _ _ (by first | (simp; done) | exact hn | (rw [List.length_map]; exact hn)) (by first | (simp; done) | exact hn | (rw [List.length_map]; exact hn)) w) rfl rfl ?_
  refine lx_assign rfl rfl rfl ?_
  refine lx_nil ?_
  refine x_ret ?_
  repeat (first | refine kseq_ret ?_ | refine kblk_ret ?_)
  exact kret_tmp rfl rfl (fun w hw => ⟨rfl, hp_below hw⟩)
theorem light_calls (b m : Nat) (vs : List (Option Addr × Nat × Nat)) (hm : vs.length = m) (hb : m ≤ 100) (w : World) (hw : Gt w) (ho : w.rangeAt b 0 (SVl vs)) :
    Calls Tryd.prog 8 [.slice (some ⟨b, 0, none⟩) m m].toArray w (fun r w' => r = .returned (.bool (decide (∀ v ∈ vs, v.2.1 ≤ 128))) ∧ Grow w w') := by
  have hGF : BOk Gt (pl w) := gt_low.plain hw
  refine calls_of_X (G := Gt) Tryd.func8 rfl rfl (Hp (pl w) []) (hp_refl (pl w) trivial rides_true) (good_hp hGF) ?_
  refine xs_plain (E := EE []) ?_
  refine lx_assign rfl rfl rfl ?_
  refine lx_nil ?_
  refine x_seq ?_
  refine xs_plain (E := EE []) ?_
  refine lx_assign rfl rfl rfl ?_
  refine lx_nil ?_
  refine x_block ?_
  refine x_for (ι := { i : Nat // i ≤ m ∧ ∀ (j : Nat) v, j < i → vs[j]? = some v → v.2.1 ≤ 128 }) (fun y => [(0, .slice (some ⟨b, 0, none⟩) m m), (3, I (y.1 : Int))]) (fun y => []) (fun y => m - y.1) ⟨0, Nat.zero_le _, fun _ _ h => absurd h (Nat.not_lt_zero _)⟩ hGF ⟨rfl, rfl, trivial⟩ trivial ?_
  rintro ⟨i, hi, hall⟩
  dsimp only
  refine x_seq ?_
  refine xs_plain (E := EE []) ?_
  refine lx_move rfl rfl rfl ?_
  refine lx_move rfl rfl rfl ?_
  refine lx_len rfl (fun _ => len_slice Tryd.underlying63 _ _ _ _) rfl rfl ?_
  refine lx_bin rfl rfl (fun _ => rfl) (fun _ => bin_lss_i _ _ _) rfl rfl ?_
  refine lx_nil ?_
  refine x_if rfl (fun hc => ?_) (fun hc => ?_)
  · have hi2 : i < m := by simp at hc; omega
    clear hc
    refine x_skip ?_
    refine x_seq ?_
    refine x_block ?_
    refine xs_plain (E := EE []) ?_
    refine lx_move rfl rfl rfl ?_
    refine lx_move rfl rfl rfl ?_
    obtain ⟨v, hv⟩ : ∃ v, vs[i]? = some v := ⟨_, List.getElem?_eq_getElem (by omega)⟩
    refine lx_is1 i rfl rfl Tryd.underlying63 Tryd.sizeOf22 (by omega) (by omega) rfl rfl ?_
    refine lx_load rfl Tryd.isAgg22 (fun w' h => hp_oldrange ho (fun h => h) w' h i (.slice v.1 v.2.1 v.2.2) (by rw [SVl, List.getElem?_map, hv]; rfl)) rfl rfl ?_
    refine lx_len rfl (fun _ => len_slice Tryd.underlying22 _ _ _ _) rfl rfl ?_
    refine lx_bin rfl rfl (fun _ => rfl) (fun _ => bin_gtr_i _ _ _) rfl rfl ?_
    refine lx_nil ?_
    refine x_if rfl (fun hc => ?_) (fun hc => ?_)
    · have hbig : ¬ v.2.1 ≤ 128 := by simp at hc; omega
      refine xs_plain (E := EE []) ?_
      refine lx_assign rfl rfl rfl ?_
      refine lx_nil ?_
      refine x_ret ?_
      repeat (first | refine kseq_ret ?_ | refine kblk_ret ?_)
      exact kret_tmp rfl rfl (fun w hw => ⟨by rw [decide_eq_false (fun h => hbig (h v (List.mem_of_getElem? hv)))] <;> rfl, hp_below hw⟩)
    · have hle : v.2.1 ≤ 128 := by simp at hc; omega
      clear hc
      have hall' : ∀ (j : Nat) u, j < i + 1 → vs[j]? = some u → u.2.1 ≤ 128 := fun j u hj hu => by
        rcases Nat.lt_or_ge j i with h | h
        · exact hall j u h hu
        · obtain rfl : j = i := by omega
          cases hv.symm.trans hu
          exact hle
      refine x_skip ?_
      refine x_plain (E := EE []) ?_
      refine lx_move rfl rfl rfl ?_
      refine lx_bin rfl rfl (fun _ => rfl) (fun _ => bin_add_i _ _ _ (by unfold inI; omega)) rfl rfl ?_
      refine lx_assign rfl rfl rfl ?_
      refine lx_nil ?_
      repeat (refine kblk_n ?_)
      refine kseq_n ?_
      exact ⟨rfl, ⟨i + 1, by omega, hall'⟩, _, by show m - (i + 1) < m - i; omega, rfl, ⟨rfl, rfl, trivial⟩, trivial⟩
  · obtain rfl : i = m := by simp at hc; omega
    clear hc
    refine x_exit ?_
    refine xs_plain (E := EE []) ?_
    refine lx_assign rfl rfl rfl ?_
    refine lx_nil ?_
    refine x_ret ?_
    repeat (first | refine kseq_ret ?_ | refine kblk_ret ?_)
    exact kret_tmp rfl rfl (fun w hw => ⟨by rw [decide_eq_true (fun v hv => by obtain ⟨j, hj⟩ := List.getElem?_of_mem hv; exact hall j v (by have := (List.getElem?_eq_some_iff.1 hj).1; omega) hj)] <;> rfl, hp_below hw⟩)
end Go.Proofs.YtgogiehnilpepaaDoor

namespace Go.Proofs.YtgogiehnilpepaaDoor
open Go.RowKit
set_option maxRecDepth 100000
set_option maxHeartbeats 1000000
attribute [local simp] nr_len AS_len SS_len MONT_len FRs_len BYs_len by32_len MLl LIFTl IVRl SQP_len FL_len

def QM1 : Zr := -(zr (1#64).toNat)
theorem QM1_val : QM1.val = RR - 1 := by decide +kernel
def QM2 : List (BitVec 8) := (by32 QM1).set 31 ((by32 QM1).getD 31 0 + 1#8)
theorem QM2_len : QM2.length = 32 := by rw [QM2, List.length_set, by32_len]
attribute [local simp] QM2_len
theorem QM2_num : BN QM2 32 = RR := by decide +kernel
theorem QM2_0 : (QM2.getD 0 0 == 115#8) = true := by decide +kernel
theorem qfrom32 (b : Nat) (t : TypeId) (bs : List (BitVec 8)) (h32 : bs.length = 32) (w : World) (hw : Gt w) (ho : OwnB w b (bs.map U8) t) :
    Calls Tryd.prog 9 [.slice (some ⟨b, 0, none⟩) 32 32].toArray w (fun r w' => r = .returned (.tuple #[RV (QV bs), .bool (QO bs)]) ∧ Grow w w') := by
  have h := qfrom_calls (some ⟨b, 0, none⟩) 32 bs w hw (BytesAt.range ho.range)
  rw [h32] at h
  exact h
theorem from_by32 (x : Zr) (b : Nat) (t : TypeId) (w : World) (hw : Gt w) (ho : OwnB w b ((by32 x).map U8) t) :
    Calls Tryd.prog 9 [.slice (some ⟨b, 0, none⟩) 32 32].toArray w (fun r w' => r = .returned (.tuple #[RV x, .bool true]) ∧ Grow w w') := by
  have h := qfrom32 b t (by32 x) (by32_len x) w hw ho
  have hc : (by32 x).length = 32 ∧ BN (by32 x) 32 < RR := ⟨by32_len x, by rw [BN_by32]; exact x.isLt⟩
  rw [QV, QO, if_pos hc, decide_eq_true hc, BN_by32, zr_of] at h
  exact h
theorem from_qm2 (b : Nat) (t : TypeId) (w : World) (hw : Gt w) (ho : OwnB w b (QM2.map U8) t) :
    Calls Tryd.prog 9 [.slice (some ⟨b, 0, none⟩) 32 32].toArray w (fun r w' => r = .returned (.tuple #[RV 0, .bool false]) ∧ Grow w w') := by
  have h := qfrom32 b t QM2 QM2_len w hw ho
  have hc : ¬ (QM2.length = 32 ∧ BN QM2 32 < RR) := fun h => by rw [QM2_num] at h; omega
  rw [QV, QO, if_neg hc, decide_eq_false hc] at h
  exact h
theorem q2_ne : zr 2 ≠ 0 := fun h => by
  have := congrArg Fin.val h
  rw [zr_val, Nat.mod_eq_of_lt (by decide +kernel)] at this
  cases this
theorem q_half : zr (2#64).toNat ^ (RR - 2) + zr (2#64).toNat ^ (RR - 2) = zr (1#64).toNat := by
  have h := qzinv q2_ne
  have e : zr 2 = 1 + 1 := zr_add 1 1
  show zr 2 ^ (RR - 2) + zr 2 ^ (RR - 2) = zr 1
  rw [zr_1, ← h]
  generalize zr 2 ^ (RR - 2) = a at *
  rw [e]
  grind
theorem q_o : ones (nr (zr (6#64).toNat)) 384 = [2, 1] := by decide +kernel
theorem q_b : BT (nr (zr (6#64).toNat)) = [[I 2], [I 1]] := by rw [BT, q_o]; rfl
def bv (k : Nat) : Int := if k = 0 then 0 else if k = 1 then 2 else 21
theorem bv_step (k : Nat) (x : List Value) (h : (BT (nr (zr (6#64).toNat)))[k]? = some x) : ∃ n : Int, x = [I n] ∧ 10 * bv k + n = bv (k + 1) ∧ 0 ≤ n ∧ n ≤ 2 ∧ 0 ≤ bv k ∧ bv k ≤ 20 := by
  rw [q_b] at h
  match k, h with
  | 0, h => simp at h; exact ⟨2, h.symm, by decide, by decide, by decide, by decide, by decide⟩
  | 1, h => simp at h; exact ⟨1, h.symm, by decide, by decide, by decide, by decide, by decide⟩
  | k + 2, h => simp at h
theorem known_pure : Pure Tryd.prog Gt 7 [] (.bool true) := by
  intro w hw
  have hGF : BOk Gt (pl w) := gt_low.plain hw
  refine calls_of_XM (G := Gt) Tryd.func7 rfl rfl (Hp (pl w) []) (hp_refl (pl w) trivial rides_true) (good_hp hGF) ?_
  refine xs_plain (E := EE [34]) ?_
  refine lx_assign rfl rfl rfl ?_
  refine lx_nil ?_
  refine xs_plain (E := EE [34]) ?_
  refine lx_call rfl rfl ent19 (qof_pure _) rfl rfl ?_
  refine lx_call rfl rfl ent29 (qinv_pure _) rfl rfl ?_
  refine lx_allocr 1 hGF zv28 rfl rfl ?_
  intro b1
  refine lx_storea 1 hGF rfl rfl rfl Tryd.sizeOf28 (by simp) (by simp) (one_u64 _) rfl ?_
  refine lx_nil ?_
  refine xs_plain (E := EE [34]) ?_
  refine lx_call rfl rfl ent19 (qof_pure _) rfl rfl ?_
  refine lx_call rfl rfl ent30 (qneg_pure _) rfl rfl ?_
  refine lx_call rfl rfl ent14 (qbytes_pure _) rfl rfl ?_
  refine lx_allocr 2 hGF zv36 rfl rfl ?_
  intro b2
  refine lx_storea 2 hGF rfl rfl rfl Tryd.sizeOf36 (by simp) (by simp) (one_u8 _) rfl ?_
  refine lx_nil ?_
  refine xs_plain (E := EE [34]) ?_
  refine lx_slarr1 (l := 0) (h' := 32) rfl Tryd.underlying36 Tryd.sizeOf5 rfl rfl (by omega) (by omega) rfl rfl ?_
  refine lx_callC rfl rfl ent9 (fun w' hC hG => from_by32 QM1 _ _ w' hG (hC.own 2 _ _ _ rfl).1) rfl rfl ?_
  refine lx_move rfl rfl rfl ?_
  refine lx_ext rfl rfl rfl rfl ?_
  refine lx_ext rfl rfl rfl rfl ?_
  refine lx_allocr 3 hGF zv28 rfl rfl ?_
  intro b3
  refine lx_storea 3 hGF rfl rfl rfl Tryd.sizeOf28 (by simp) (by simp) (one_u64 _) rfl ?_
  refine lx_assign rfl rfl rfl ?_
  refine lx_nil ?_
  refine xs_plain (E := EE [34]) ?_
  refine lx_ia0 (31) rfl rfl Tryd.underlying36 Tryd.sizeOf5 (by omega) (by omega) rfl rfl ?_
  refine lx_loadm 2 U8 0 rfl rfl Tryd.isAgg5 (by simp; try omega) rfl rfl ?_
  refine lx_bin rfl rfl (fun _ => rfl) (fun _ => bin_add_u8 _ _ _) rfl rfl ?_
  refine lx_ia0 (31) rfl rfl Tryd.underlying36 Tryd.sizeOf5 (by omega) (by omega) rfl rfl ?_
  refine lx_storem 2 U8 hGF rfl rfl rfl Tryd.sizeOf5 rfl (by simp; try omega) rfl ?_
  refine lx_nil ?_
  refine xs_plain (E := EE [34]) ?_
  refine lx_slarr1 (l := 0) (h' := 32) rfl Tryd.underlying36 Tryd.sizeOf5 rfl rfl (by omega) (by omega) rfl rfl ?_
  refine lx_callC rfl rfl ent9 (fun w' hC hG => from_qm2 _ _ w' hG (hC.own 2 _ _ _ rfl).1) rfl rfl ?_
  refine lx_move rfl rfl rfl ?_
  refine lx_ext rfl rfl rfl rfl ?_
  refine lx_ext rfl rfl rfl rfl ?_
  refine lx_allocr 5 hGF zv28 rfl rfl ?_
  intro b5
  refine lx_storea 5 hGF rfl rfl rfl Tryd.sizeOf28 (by simp) (by simp) (one_u64 _) rfl ?_
  refine lx_assign rfl rfl rfl ?_
  refine lx_nil ?_
  refine xs_plain (E := EE [34]) ?_
  refine lx_call rfl rfl ent19 (qof_pure _) rfl rfl ?_
  refine lx_callE rfl rfl ent34 rfl rfl (fun w' hw' => (qbits_calls (zr (6#64).toNat) w' (hGF.g _ _ _ hw')).mono fun e' w'' h => ?_)
  obtain ⟨c1, rfl, hg, h1, ho⟩ := h
  refine ⟨_, _, rfl, good_hp hGF, hw'.news rides_true hg [(40, c1, (nr (zr (6#64).toNat)).map U64, 26)] ?_ inj_one, ?_⟩
  · intro n' b' c' t' hl
    rcases lkB_cons hl with ⟨_, e⟩ | ⟨_, hl⟩
    · cases e; exact ⟨h1, ho⟩
    · cases hl
  clear hw' hg h1 ho
  refine lx_assign rfl rfl rfl ?_
  refine lx_nil ?_
  refine x_seq ?_
  refine xs_plain (E := EE [34]) ?_
  refine lx_move rfl rfl rfl ?_
  refine lx_bin (v := .bool false) rfl rfl (fun _ => rfl) (fun w => bin_eq_fn Tryd.underlying61 _ _ _ w) rfl rfl ?_
  refine lx_nil ?_
  refine x_false rfl ?_
  refine x_skip ?_
  refine xs_plain (E := EE [34]) ?_
  refine lx_alloc 8 hGF Tryd.zeroValue3 rfl rfl ?_
  intro b8
  refine lx_store 8 hGF rfl rfl rfl Tryd.sizeOf3 rfl (by first | decide | simp) rfl ?_
  refine lx_nil ?_
  refine x_seq ?_
  refine xs_plain (E := EE [34]) ?_
  refine lx_move rfl rfl rfl ?_
  refine lx_nil ?_
  refine x_block ?_
  refine x_range (fun _ => pl w) (fun _ _ => pl w) (fun _ => hGF) (fun _ _ => hGF) (fun _ => rfl) (fun _ _ => rfl) rfl rfl ent52 (bits_seq c1 (nr (zr (6#64).toNat)) (nr_len _)) (fun x hx => by obtain ⟨k, hk, rfl⟩ := List.mem_map.1 hx; rfl) rfl (fun k => [(1, b1, (nr (zr (2#64).toNat ^ (RR - 2))).map U64, 28), (2, b2, QM2.map U8, 36), (3, b3, (nr QM1).map U64, 28), (8, b8, [I (bv k)], 3), (40, c1, (nr (zr (6#64).toNat)).map U64, 26)]) (fun _ _ _ => False) ⟨rfl, rfl, rfl, rfl, rfl, trivial⟩ (fun k _ w' h => hp_row (n := 40) rfl w' h) ?_ ?_ (fun _ _ _ _ _ h => h.elim)
  · intro k x hx R hR
    obtain ⟨n, rfl, hst, hn0, hn1, hb0, hb1⟩ := bv_step k x hx
    refine x_plain (E := EE [34]) ?_
    refine lx_assign rfl rfl rfl ?_
    refine lx_nil ?_
    refine ⟨rfl, _, rfl, ?_⟩
    refine x_block ?_
    refine x_plain (E := EE [34]) ?_
    refine lx_loadl 8 rfl rfl rfl Tryd.isAgg3 rfl rfl ?_
    refine lx_bin rfl rfl (fun _ => rfl) (fun _ => bin_mul_i _ _ _ (by unfold inI; omega)) rfl rfl ?_
    refine lx_move rfl rfl rfl ?_
    refine lx_bin (v := I (bv (k + 1))) rfl rfl (fun _ => rfl) (fun _ => (bin_add_i _ _ _ (by unfold inI; omega)).trans (by rw [hst])) rfl rfl ?_
    refine lx_store 8 (hR (pl w) rfl hGF).2.1 rfl rfl rfl Tryd.sizeOf3 rfl (by first | decide | simp) rfl ?_
    refine lx_nil ?_
    repeat (refine kblk_n ?_)
    exact ⟨_, rfl, ⟨rfl, rfl, rfl, rfl, rfl, trivial⟩⟩
  · intro D hD
    rw [BT_len, q_o]
    refine xs_drawn (E := EE [34]) mixed (by kernel_rfl) (by kernel_rfl) (by kernel_rfl) ?_
    refine lx_loada 1 rfl rfl Tryd.isAgg28 Tryd.sizeOf28 (by simp) rfl rfl ?_
    refine lx_loada 1 rfl rfl Tryd.isAgg28 Tryd.sizeOf28 (by simp) rfl rfl ?_
    refine lx_call rfl rfl ent23 (qadd_pure _ _) rfl rfl ?_
    refine lx_call rfl rfl ent19 (qof_pure _) rfl rfl ?_
    refine lx_callB true rfl rfl ent28 (qequal_pure _ _) (decide_eq_true q_half) rfl rfl ?_
    refine lx_move rfl rfl rfl ?_
    refine lx_move rfl rfl rfl ?_
    refine lx_pick rfl rfl rfl rfl rfl ?_
    refine lx_move rfl rfl rfl ?_
    refine lx_loada 3 rfl rfl Tryd.isAgg28 Tryd.sizeOf28 (by simp) rfl rfl ?_
    refine lx_call rfl rfl ent19 (qof_pure _) rfl rfl ?_
    refine lx_call rfl rfl ent23 (qadd_pure _ _) rfl rfl ?_
    refine lx_callB true rfl rfl ent13 (qisZero_pure _) (decide_eq_true (show QM1 + zr (1#64).toNat = 0 by rw [QM1]; grind)) rfl rfl ?_
    refine lx_pick rfl rfl rfl rfl rfl ?_
    refine lx_move rfl rfl rfl ?_
    refine lx_move rfl rfl rfl ?_
    refine lx_un rfl (fun _ => un_not _) rfl rfl ?_
    refine lx_pick rfl rfl rfl rfl rfl ?_
    refine lx_move rfl rfl rfl ?_
    refine lx_ia0 (0) rfl rfl Tryd.underlying36 Tryd.sizeOf5 (by omega) (by omega) rfl rfl ?_
    refine lx_loadm 2 U8 0 rfl rfl Tryd.isAgg5 (by simp; try omega) rfl rfl ?_
    refine lx_binB true rfl rfl (fun _ => rfl) (fun _ => bin_eql_u8 _ _ _) (QM2_0) rfl rfl ?_
    refine lx_pick rfl rfl rfl rfl rfl ?_
    refine lx_move rfl rfl rfl ?_
    refine lx_loadl 8 rfl rfl rfl Tryd.isAgg3 rfl rfl ?_
    refine lx_binB true rfl rfl (fun _ => rfl) (fun _ => bin_eql_i _ _ _) (rfl) rfl rfl ?_
    refine lx_pick rfl rfl rfl rfl rfl ?_
    refine lx_assign rfl rfl rfl ?_
    refine lx_nil ?_
    refine x_ret ?_
    repeat (first | refine kseq_ret ?_ | refine kblk_ret ?_)
    exact kretM_1 (.inl rfl) rides_true (kret_tmp rfl rfl (fun w hw => ⟨rfl, hp_below hw⟩))
end Go.Proofs.YtgogiehnilpepaaDoor
