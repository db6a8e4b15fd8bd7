/-
  The law FpFermat.
-/
import Derived.Test.YthgoggiiabaccaaDoorX9
import Derived.Test.YthgoggiiabaccaaDoorX5
import Derived.Test.YthgoggiiabaccaaDoorE32
namespace Go.Proofs.YthgoggiiabaccaaDoor
open Go.RowKit
set_option maxRecDepth 100000
set_option maxHeartbeats 1000000
attribute [local simp] fe_len nm_len AS_len SS_len MONT_len RM_len FRs_len BYs_len by48_len PLl TWOl ONEl N1l IVPl HFPl RTPl FL_len SP_len

/-- What is carried into a byte; half of a number of bytes, byte by byte. -/
def CY (bs : List (BitVec 8)) (i : Nat) : BitVec 8 := if i = 0 then 0 else bs.getD (i - 1) 0 <<< 7
def HB8 (bs : List (BitVec 8)) : Nat → List (BitVec 8)
  | 0 => List.replicate 48 0
  | i + 1 => (HB8 bs i).set i (bs.getD i 0 >>> 1 ||| CY bs i)
theorem HB8_len (bs : List (BitVec 8)) : ∀ i, (HB8 bs i).length = 48
  | 0 => rfl
  | i + 1 => by rw [HB8, List.length_set, HB8_len bs i]
attribute [local simp] HB8_len
theorem HB8_get (bs : List (BitVec 8)) (j : Nat) (hj : j < 48) : ∀ i, j < i → (HB8 bs i).getD j 0 = bs.getD j 0 >>> 1 ||| CY bs j
  | 0, h => by omega
  | i + 1, h => by
    rw [HB8]
    rcases Nat.lt_or_ge j i with h' | h'
    · rw [getD8_set_ne _ _ _ _ (by omega), HB8_get bs j hj i h']
    · obtain rfl : j = i := by omega
      rw [getD8_set_self _ _ _ (by rw [HB8_len]; exact hj)]
theorem half_byte (x y : BitVec 8) : (x >>> 1 ||| y <<< 7).toNat = x.toNat / 2 + 128 * (y.toNat % 2) := by
  have key : ∀ a : Nat, a < 256 → ∀ b : Nat, b < 2 → ((BitVec.ofNat 8 a) >>> 1 ||| (BitVec.ofNat 8 b) <<< 7).toNat = a / 2 + 128 * b := by decide +kernel
  have e : y <<< 7 = (BitVec.ofNat 8 (y.toNat % 2)) <<< 7 := by
    have k2 : ∀ b : Nat, b < 256 → (BitVec.ofNat 8 b) <<< 7 = (BitVec.ofNat 8 (b % 2)) <<< 7 := by decide +kernel
    have := k2 y.toNat y.isLt
    rw [BitVec.ofNat_toNat, BitVec.setWidth_eq] at this
    exact this
  have := key x.toNat x.isLt (y.toNat % 2) (Nat.mod_lt _ (by decide))
  rw [BitVec.ofNat_toNat, BitVec.setWidth_eq] at this
  rw [e, this]
theorem CY_0 (x : BitVec 8) : (x >>> 1 ||| (0 : BitVec 8)).toNat = x.toNat / 2 := by
  rw [show x >>> 1 ||| (0 : BitVec 8) = x >>> 1 from BitVec.or_zero, BitVec.toNat_ushiftRight, Nat.shiftRight_eq_div_pow]
theorem HB8_num (bs : List (BitVec 8)) : ∀ i, i ≤ 48 → BN (HB8 bs 48) i = BN bs i / 2
  | 0, _ => by rw [BN, BN]
  | i + 1, h => by
    have ih := HB8_num bs i (by omega)
    have hg := HB8_get bs i (by omega) 48 (by omega)
    rw [BN, BN, ih, hg]
    cases i with
    | zero => rw [CY, if_pos rfl, CY_0, BN]; omega
    | succ k =>
      rw [CY, if_neg (by omega), Nat.add_sub_cancel, half_byte, BN]
      omega
theorem HB8_step (bs : List (BitVec 8)) (i : Nat) : (HB8 bs i).set i (bs.getD i 0 >>> 1 ||| CY bs i) = HB8 bs (i + 1) := by rw [HB8]
theorem CY_step (bs : List (BitVec 8)) (i : Nat) : bs.getD i 0 <<< 7 = CY bs (i + 1) := by rw [CY, if_neg (by omega), Nat.add_sub_cancel]
theorem ti5 : TI Tryd.prog 5 (.int .u8 0) 1 1 := ti_mk (by kernel_rfl)
theorem hmc {i : TypeInfo} (h : Tryd.prog.info? 5 = some i ∧ i.zero = some (.int .u8 0) ∧ i.size = 1 ∧ i.bytes = 1) : (madeCells (Value.int .u8 0).cells (48 * i.size)).toList = (List.replicate 48 0#8).map U8 := by
  rw [h.2.2.1]; kernel_rfl
theorem hmk : 48 * ti5.choose.size ≤ 16777216 ∧ ti5.choose.bytes * 48 ≤ 281474976710656 ∧ 48 ≤ 1000000 := by
  rw [ti5.choose_spec.2.2.1, ti5.choose_spec.2.2.2]; decide
theorem half_calls (bs : List (BitVec 8)) (hbs : bs.length = 48) (w : World) (hw : Gt w) : Calls Tryd.prog 51 [.agg (bs.map U8).toArray].toArray w (fun e w' => ∃ b, e = .returned (.slice (some ⟨b, 0, none⟩) 48 48) ∧ Grow w w' ∧ w.heap.size ≤ b ∧ OwnB w' b ((HB8 bs 48).map U8) 5) := by
  have hGF : BOk Gt (pl w) := gt_low.plain hw
  refine calls_of_X (G := Gt) Tryd.func51 rfl rfl (Hp (pl w) []) (hp_refl (pl w) trivial rides_true) (good_hp hGF) ?_
  refine xs_plain (E := EE []) ?_
  refine lx_boxr 1 hGF rfl rfl rfl ?_
  intro b1
  refine lx_assign rfl rfl rfl ?_
  refine lx_nil ?_
  refine xs_plain (E := EE []) ?_
  refine lx_mksl 6 hGF rfl rfl Tryd.underlying22 ti5.choose_spec.1 ti5.choose_spec.2.1 hmk (hmc ti5.choose_spec) rfl rfl ?_
  intro b6
  refine lx_assign rfl rfl rfl ?_
  refine lx_nil ?_
  refine xs_plain (E := EE []) ?_
  refine lx_assign rfl rfl rfl ?_
  refine lx_nil ?_
  refine x_seq ?_
  refine xs_plain (E := EE []) ?_
  refine lx_assign rfl rfl rfl ?_
  refine lx_nil ?_
  refine x_block ?_
  refine x_for (ι := { i : Nat // i ≤ 48 }) (fun y => [(1, .pointer (some ⟨b1, 0, none⟩)), (3, .slice (some ⟨b6, 0, none⟩) 48 48), (4, U8 (CY bs y.1)), (5, I (y.1 : Int))]) (fun y => [(1, b1, bs.map U8, 36), (6, b6, (HB8 bs y.1).map U8, 5)]) (fun y => 48 - y.1) ⟨0, Nat.zero_le _⟩ hGF ⟨rfl, rfl, rfl, rfl, trivial⟩ ⟨rfl, rfl, trivial⟩ ?_
  rintro ⟨i, hi⟩
  dsimp only
  refine x_seq ?_
  refine xs_plain (E := EE []) ?_
  refine lx_move rfl rfl rfl ?_
  refine lx_bin rfl rfl (fun _ => rfl) (fun _ => bin_lss_i _ _ _) rfl rfl ?_
  refine lx_nil ?_
  refine x_if rfl (fun hc => ?_) (fun hc => ?_)
  · simp only [decide_eq_true_eq] at hc
    refine x_skip ?_
    refine x_seq ?_
    refine x_block ?_
    refine xs_plain (E := EE []) ?_
    refine lx_move rfl rfl rfl ?_
    refine lx_move rfl rfl rfl ?_
    refine lx_move rfl rfl rfl ?_
    refine lx_ia0 (i) rfl rfl Tryd.underlying36 Tryd.sizeOf5 (by omega) (by omega) rfl rfl ?_
    refine lx_loadm 1 U8 0 rfl rfl Tryd.isAgg5 (by rw [hbs]; omega) rfl rfl ?_
    refine lx_bin (v := U8 (bs.getD i 0 >>> 1)) rfl rfl (fun _ => rfl) (fun _ => bin_shr_u8 _ _ 1#64) rfl rfl ?_
    refine lx_move rfl rfl rfl ?_
    refine lx_bin (v := U8 (bs.getD i 0 >>> 1 ||| CY bs i)) rfl rfl (fun _ => rfl) (fun _ => bin_or_u8 _ _ _) rfl rfl ?_
    refine lx_is1 (i) rfl rfl Tryd.underlying22 Tryd.sizeOf5 (by omega) (by omega) rfl rfl ?_
    rw [Nat.zero_add]
    refine lx_storem 6 U8 hGF rfl rfl rfl Tryd.sizeOf5 rfl (by simp; try omega) rfl ?_
    rw [HB8_step]
    refine lx_nil ?_
    refine x_plain (E := EE []) ?_
    refine lx_move rfl rfl rfl ?_
    refine lx_ia0 (i) rfl rfl Tryd.underlying36 Tryd.sizeOf5 (by omega) (by omega) rfl rfl ?_
    refine lx_loadm 1 U8 0 rfl rfl Tryd.isAgg5 (by rw [hbs]; omega) rfl rfl ?_
    refine lx_bin (v := U8 (CY bs (i + 1))) rfl rfl (fun _ => rfl) (fun _ => (bin_shl_u8 _ _ 7#64).trans (by rw [← CY_step]; rfl)) rfl rfl ?_
    refine lx_assign rfl rfl rfl ?_
    refine lx_nil ?_
    refine x_plain (E := EE []) ?_
    refine lx_move rfl rfl rfl ?_
    refine lx_bin rfl rfl (fun _ => rfl) (fun _ => bin_add_i _ _ _ (by unfold inI; omega)) rfl rfl ?_
    refine lx_assign rfl rfl rfl ?_
    refine lx_nil ?_
    repeat (refine kblk_n ?_)
    refine kseq_n ?_
    exact ⟨rfl, ⟨i + 1, by omega⟩, _, by show 48 - (i + 1) < 48 - i; omega, rfl, ⟨rfl, rfl, rfl, rfl, trivial⟩, ⟨rfl, rfl, trivial⟩⟩
  · obtain rfl : i = 48 := by simp at hc; omega
    refine x_exit ?_
    refine xs_plain (E := EE []) ?_
    refine lx_move rfl rfl rfl ?_
    refine lx_assign rfl rfl rfl ?_
    refine lx_nil ?_
    refine x_ret ?_
    repeat (first | refine kseq_ret ?_ | refine kblk_ret ?_)
    exact kret_tmp rfl rfl (fun w hw => ⟨b6, rfl, hp_below hw, (hw.own 6 b6 _ _ rfl).2.elim id False.elim, (hw.own 6 b6 _ _ rfl).1⟩)
theorem HB8_M1 : BN (HB8 (by48 M1) 48) 48 = hf := by
  rw [HB8_num (by48 M1) 48 (Nat.le_refl _), BN_by48, M1_val]; rfl
theorem BN_M1 : BN (by48 M1) 48 = PP - 1 := by rw [BN_by48, M1_val]
theorem pow_M1 (x : Zp) (b : Nat) (t : TypeId) (w : World) (hw : Gt w) (ho : OwnB w b ((by48 M1).map U8) t) :
    Calls Tryd.prog 40 [EV x, .slice (some ⟨b, 0, none⟩) 48 48].toArray w (fun r w' => r = .returned (EV (x ^ (PP - 1))) ∧ Grow w w') := by
  have h := fpow48 x b t (by48 M1) (by48_len _) w hw ho
  rw [BN_M1] at h
  exact h
theorem pow_HB (x : Zp) (b : Nat) (t : TypeId) (w : World) (hw : Gt w) (ho : OwnB w b ((HB8 (by48 M1) 48).map U8) t) :
    Calls Tryd.prog 40 [EV x, .slice (some ⟨b, 0, none⟩) 48 48].toArray w (fun r w' => r = .returned (EV (x ^ hf)) ∧ Grow w w') := by
  have h := fpow48 x b t (HB8 (by48 M1) 48) (HB8_len _ _) w hw ho
  rw [HB8_M1] at h
  exact h
theorem pz (n : Nat) (h : 0 < n) : (0 : Zp) ^ n = 0 := by
  obtain ⟨m, rfl⟩ : ∃ m, n = m + 1 := ⟨n - 1, by omega⟩
  exact zerop m
theorem LEG_one {a : Zp} (h : ¬ a = 0) : (decide (a ^ hf = 1) == (LEG a == 1)) = true := by
  rw [LEG, if_neg h]
  by_cases h1 : a ^ hf = 1
  · rw [if_pos h1, decide_eq_true h1]; rfl
  · rw [if_neg h1, decide_eq_false h1]; rfl
theorem LEG_m1 {a : Zp} (h : ¬ a = 0) : (decide (a ^ hf = -(zp (1#64).toNat)) == (LEG a == -1)) = true := by
  rw [LEG, if_neg h, show -(zp (1#64).toNat) = (-1 : Zp) from rfl]
  rcases half_or h with h1 | h1
  · rw [if_pos h1, h1, decide_eq_false one_neg]; rfl
  · rw [if_neg (fun e => one_neg (e.symm.trans h1)), h1, decide_eq_true rfl]; rfl
theorem fermat_law (e0 : Option Addr) (cap0 : Nat) (bs0 : List (BitVec 8)) (hcap0 : bs0.length ≤ cap0) (w : World) (hw : Gt w) (hb0 : BytesAt w e0 bs0) :
    Calls Tryd.prog 10 [.slice e0 bs0.length cap0].toArray w (fun r w' => r = .returned (.bool true) ∧ Grow w w') := by
  have hGF : BOk Gt (pl w) := gt_low.plain hw
  by_cases hz : ZB bs0 = 0
  · skip
    refine calls_of_X (G := Gt) Tryd.func10 rfl rfl (Hp (pl w) []) (hp_refl (pl w) trivial rides_true) (good_hp hGF) ?_
    refine xs_plain (E := EE []) ?_
    refine lx_assign rfl rfl rfl ?_
    refine lx_nil ?_
    refine x_seq ?_
    refine xs_plain (E := EE []) ?_
    refine lx_callB true rfl rfl ent11 (known_pure) (rfl) rfl rfl ?_
    refine lx_un rfl (fun _ => un_not _) rfl rfl ?_
    refine lx_nil ?_
    refine x_false rfl ?_
    refine x_skip ?_
    refine x_seq ?_
    refine xs_plain (E := EE []) ?_
    refine lx_move rfl rfl rfl ?_
    refine lx_bslV 40 (SVl [(e0, bs0.length, cap0)]) hGF rfl rfl rfl (by decide) (by decide) Tryd.underlying63 Tryd.sizeOf22 Tryd.zeroValue22 rfl rfl rfl ?_
    intro b40
    refine lx_callC rfl rfl ent12 (fun w' hC hG => light_calls b40 1 [(e0, bs0.length, cap0)] rfl (by decide) w' hG (hp_row (n := 40) rfl w' hC)) rfl rfl ?_
    refine lx_un rfl (fun _ => un_not _) rfl rfl ?_
    refine lx_nil ?_
    refine x_if rfl (fun hc => ?_) (fun hc => ?_)
    · skip
      refine xs_plain (E := EE []) ?_
      refine lx_assign rfl rfl rfl ?_
      refine lx_nil ?_
      refine x_ret ?_
      repeat (first | refine kseq_ret ?_ | refine kblk_ret ?_)
      exact kret_tmp rfl rfl (fun w hw => ⟨rfl, hp_below hw⟩)
    · have hl : ∀ v ∈ [(e0, bs0.length, cap0)], v.2.1 ≤ 128 := by simpa using hc
      have hl0 : bs0.length ≤ 128 := hl (e0, bs0.length, cap0) (by simp)
      clear hc hl
      refine x_skip ?_
      refine xs_plain (E := EE []) ?_
      refine lx_move rfl rfl rfl ?_
      refine lx_callC rfl rfl ent21 (fun w' hC hG => fwide_calls e0 cap0 bs0 (by omega) hcap0 w' hG (hb0.grow (hp_below hC))) rfl rfl ?_
      refine lx_allocr 3 hGF zv28 rfl rfl ?_
      intro b3
      refine lx_storea 3 hGF rfl rfl rfl Tryd.sizeOf28 (by simp) (by simp) (one_u64 _) rfl ?_
      refine lx_nil ?_
      refine xs_plain (E := EE []) ?_
      refine lx_call rfl rfl ent24 (fof_pure _) rfl rfl ?_
      refine lx_call rfl rfl ent34 (fneg_pure _) rfl rfl ?_
      refine lx_call rfl rfl ent18 (fbytes_pure _) rfl rfl ?_
      refine lx_allocr 4 hGF zv36 rfl rfl ?_
      intro b4
      refine lx_storea 4 hGF rfl rfl rfl Tryd.sizeOf36 (by simp) (by simp) (one_u8 _) rfl ?_
      refine lx_nil ?_
      refine x_seq ?_
      refine xs_plain (E := EE []) ?_
      refine lx_loada 3 rfl rfl Tryd.isAgg28 Tryd.sizeOf28 (by simp) rfl rfl ?_
      refine lx_callB true rfl rfl ent17 (fisZero_pure _) (decide_eq_true hz) rfl rfl ?_
      refine lx_nil ?_
      refine x_true rfl ?_
      refine xs_drawn (E := EE []) mixed (by kernel_rfl) (by kernel_rfl) (by kernel_rfl) ?_
      refine lx_loada 3 rfl rfl Tryd.isAgg28 Tryd.sizeOf28 (by simp) rfl rfl ?_
      refine lx_slarr1 (l := 0) (h' := 48) rfl Tryd.underlying36 Tryd.sizeOf5 rfl rfl (by omega) (by omega) rfl rfl ?_
      refine lx_callC rfl rfl ent40 (fun w' hC hG => pow_M1 _ _ _ w' hG (hC.own 4 _ _ _ rfl).1) rfl rfl ?_
      refine lx_callB true rfl rfl ent17 (fisZero_pure _) (decide_eq_true (by rw [hz]; exact pz _ (by have := PP_big; omega))) rfl rfl ?_
      refine lx_move rfl rfl rfl ?_
      refine lx_loada 3 rfl rfl Tryd.isAgg28 Tryd.sizeOf28 (by simp) rfl rfl ?_
      refine lx_call rfl rfl ent45 (flegendre_pure _) rfl rfl ?_
      refine lx_binB true rfl rfl (fun _ => rfl) (fun _ => bin_eql_i _ _ _) (by rw [LEG, if_pos hz]; rfl) rfl rfl ?_
      refine lx_pick rfl rfl rfl rfl rfl ?_
      refine lx_assign rfl rfl rfl ?_
      refine lx_nil ?_
      refine x_ret ?_
      repeat (first | refine kseq_ret ?_ | refine kblk_ret ?_)
      exact kret_tmp rfl rfl (fun w hw => ⟨rfl, hp_below hw⟩)
  · skip
    refine calls_of_X (G := Gt) Tryd.func10 rfl rfl (Hp (pl w) []) (hp_refl (pl w) trivial rides_true) (good_hp hGF) ?_
    refine xs_plain (E := EE []) ?_
    refine lx_assign rfl rfl rfl ?_
    refine lx_nil ?_
    refine x_seq ?_
    refine xs_plain (E := EE []) ?_
    refine lx_callB true rfl rfl ent11 (known_pure) (rfl) rfl rfl ?_
    refine lx_un rfl (fun _ => un_not _) rfl rfl ?_
    refine lx_nil ?_
    refine x_false rfl ?_
    refine x_skip ?_
    refine x_seq ?_
    refine xs_plain (E := EE []) ?_
    refine lx_move rfl rfl rfl ?_
    refine lx_bslV 40 (SVl [(e0, bs0.length, cap0)]) hGF rfl rfl rfl (by decide) (by decide) Tryd.underlying63 Tryd.sizeOf22 Tryd.zeroValue22 rfl rfl rfl ?_
    intro b40
    refine lx_callC rfl rfl ent12 (fun w' hC hG => light_calls b40 1 [(e0, bs0.length, cap0)] rfl (by decide) w' hG (hp_row (n := 40) rfl w' hC)) rfl rfl ?_
    refine lx_un rfl (fun _ => un_not _) rfl rfl ?_
    refine lx_nil ?_
    refine x_if rfl (fun hc => ?_) (fun hc => ?_)
    · skip
      refine xs_plain (E := EE []) ?_
      refine lx_assign rfl rfl rfl ?_
      refine lx_nil ?_
      refine x_ret ?_
      repeat (first | refine kseq_ret ?_ | refine kblk_ret ?_)
      exact kret_tmp rfl rfl (fun w hw => ⟨rfl, hp_below hw⟩)
    · have hl : ∀ v ∈ [(e0, bs0.length, cap0)], v.2.1 ≤ 128 := by simpa using hc
      have hl0 : bs0.length ≤ 128 := hl (e0, bs0.length, cap0) (by simp)
      clear hc hl
      refine x_skip ?_
      refine xs_plain (E := EE []) ?_
      refine lx_move rfl rfl rfl ?_
      refine lx_callC rfl rfl ent21 (fun w' hC hG => fwide_calls e0 cap0 bs0 (by omega) hcap0 w' hG (hb0.grow (hp_below hC))) rfl rfl ?_
      refine lx_allocr 3 hGF zv28 rfl rfl ?_
      intro b3
      refine lx_storea 3 hGF rfl rfl rfl Tryd.sizeOf28 (by simp) (by simp) (one_u64 _) rfl ?_
      refine lx_nil ?_
      refine xs_plain (E := EE []) ?_
      refine lx_call rfl rfl ent24 (fof_pure _) rfl rfl ?_
      refine lx_call rfl rfl ent34 (fneg_pure _) rfl rfl ?_
      refine lx_call rfl rfl ent18 (fbytes_pure _) rfl rfl ?_
      refine lx_allocr 4 hGF zv36 rfl rfl ?_
      intro b4
      refine lx_storea 4 hGF rfl rfl rfl Tryd.sizeOf36 (by simp) (by simp) (one_u8 _) rfl ?_
      refine lx_nil ?_
      refine x_seq ?_
      refine xs_plain (E := EE []) ?_
      refine lx_loada 3 rfl rfl Tryd.isAgg28 Tryd.sizeOf28 (by simp) rfl rfl ?_
      refine lx_callB false rfl rfl ent17 (fisZero_pure _) (decide_eq_false hz) rfl rfl ?_
      refine lx_nil ?_
      refine x_false rfl ?_
      refine x_skip ?_
      refine xs_tree (EE [51, 2000051, 2999999]) mixed (by kernel_rfl) (by kernel_rfl) ?_
      refine tr_pre (m := 4) [0, 1] (by kernel_rfl) ?_
      refine lx_loada 3 rfl rfl Tryd.isAgg28 Tryd.sizeOf28 (by simp) rfl rfl ?_
      refine lx_loada 4 rfl rfl Tryd.isAgg36 Tryd.sizeOf36 (by simp) rfl rfl ?_
      refine lx_nil ?_
      refine tr_any (m := 3) [2, 4] (by kernel_rfl) (by kernel_rfl) (by decide) ?_
      intro i hi
      simp only [List.mem_cons, List.not_mem_nil, or_false] at hi
      rcases hi with rfl | rfl
      · skip
        refine lx_callG rfl rfl ent51 rfl rfl (fun w' hw' => (half_calls (by48 M1) (by48_len _) w' (hGF.g _ _ _ hw')).mono fun e w'' h => ?_)
        obtain ⟨bm, rfl, hg, hb, hob⟩ := h
        refine ⟨_, _, rfl, good_hp hGF, hw'.news rides_true hg [(30, bm, (HB8 (by48 M1) 48).map U8, 5)] ?_ inj_one, hp_fresh rides_true rfl, ?_⟩
        · intro n' b' c' t' hl
          rcases lkB_cons hl with ⟨_, e⟩ | ⟨_, hl⟩
          · cases e; exact ⟨hb, hob⟩
          · cases hl
        clear hw' hg hb hob
        refine lx_nil ?_
        refine tr_pre (m := 2) [3] (by kernel_rfl) ?_
        refine lx_callC rfl rfl ent40 (fun w' hC hG => pow_HB (ZB bs0) bm _ w' hG (hC.own 30 _ _ _ rfl).1) rfl rfl ?_
        refine lx_nil ?_
        refine tr_pre (m := 0) [4, 5] (by kernel_rfl) ?_
        refine lx_allocG 5 hGF zv28 rfl rfl rfl ?_
        intro b5
        refine lx_storea 5 hGF rfl rfl rfl Tryd.sizeOf28 (by simp) (by simp) (one_u64 _) rfl ?_
        refine lx_nil ?_
        refine tr_nil (by kernel_rfl) ?_
        refine kseq_n ?_
        refine xs_drawn (E := EE []) mixed (by kernel_rfl) (by kernel_rfl) (by kernel_rfl) ?_
        refine lx_loada 3 rfl rfl Tryd.isAgg28 Tryd.sizeOf28 (by simp) rfl rfl ?_
        refine lx_slarr1 (l := 0) (h' := 48) rfl Tryd.underlying36 Tryd.sizeOf5 rfl rfl (by omega) (by omega) rfl rfl ?_
        refine lx_callC rfl rfl ent40 (fun w' hC hG => pow_M1 _ _ _ w' hG (hC.own 4 _ _ _ rfl).1) rfl rfl ?_
        refine lx_call rfl rfl ent24 (fof_pure _) rfl rfl ?_
        refine lx_callB true rfl rfl ent38 (fequal_pure _ _) (decide_eq_true (fermat hz)) rfl rfl ?_
        refine lx_move rfl rfl rfl ?_
        refine lx_loada 5 rfl rfl Tryd.isAgg28 Tryd.sizeOf28 (by simp) rfl rfl ?_
        refine lx_call rfl rfl ent24 (fof_pure _) rfl rfl ?_
        refine lx_call rfl rfl ent38 (fequal_pure _ _) rfl rfl ?_
        refine lx_loada 3 rfl rfl Tryd.isAgg28 Tryd.sizeOf28 (by simp) rfl rfl ?_
        refine lx_call rfl rfl ent45 (flegendre_pure _) rfl rfl ?_
        refine lx_bin rfl rfl (fun _ => rfl) (fun _ => bin_eql_i _ _ _) rfl rfl ?_
        refine lx_binB true rfl rfl (fun _ => rfl) (fun w => bin_eql_bool 4 Tryd.underlying4 _ _ w) (LEG_one hz) rfl rfl ?_
        refine lx_pick rfl rfl rfl rfl rfl ?_
        refine lx_move rfl rfl rfl ?_
        refine lx_loada 5 rfl rfl Tryd.isAgg28 Tryd.sizeOf28 (by simp) rfl rfl ?_
        refine lx_call rfl rfl ent24 (fof_pure _) rfl rfl ?_
        refine lx_call rfl rfl ent34 (fneg_pure _) rfl rfl ?_
        refine lx_call rfl rfl ent38 (fequal_pure _ _) rfl rfl ?_
        refine lx_loada 3 rfl rfl Tryd.isAgg28 Tryd.sizeOf28 (by simp) rfl rfl ?_
        refine lx_call rfl rfl ent45 (flegendre_pure _) rfl rfl ?_
        refine lx_bin rfl rfl (fun _ => rfl) (fun _ => bin_eql_i _ _ _) rfl rfl ?_
        refine lx_binB true rfl rfl (fun _ => rfl) (fun w => bin_eql_bool 4 Tryd.underlying4 _ _ w) (LEG_m1 hz) rfl rfl ?_
        refine lx_pick rfl rfl rfl rfl rfl ?_
        refine lx_assign rfl rfl rfl ?_
        refine lx_nil ?_
        refine x_ret ?_
        repeat (first | refine kseq_ret ?_ | refine kblk_ret ?_)
        exact kret_tmp rfl rfl (fun w hw => ⟨rfl, hp_below hw⟩)
      · skip
        refine lx_allocG 5 hGF zv28 rfl rfl rfl ?_
        intro b5
        refine lx_nil ?_
        refine tr_pre (m := 0) [2, 3, 5] (by kernel_rfl) ?_
        refine lx_callG rfl rfl ent51 rfl rfl (fun w' hw' => (half_calls (by48 M1) (by48_len _) w' (hGF.g _ _ _ hw')).mono fun e w'' h => ?_)
        obtain ⟨bm, rfl, hg, hb, hob⟩ := h
        refine ⟨_, _, rfl, good_hp hGF, hw'.news rides_true hg [(30, bm, (HB8 (by48 M1) 48).map U8, 5)] ?_ inj_one, hp_fresh rides_true rfl, ?_⟩
        · intro n' b' c' t' hl
          rcases lkB_cons hl with ⟨_, e⟩ | ⟨_, hl⟩
          · cases e; exact ⟨hb, hob⟩
          · cases hl
        clear hw' hg hb hob
        refine lx_callC rfl rfl ent40 (fun w' hC hG => pow_HB (ZB bs0) bm _ w' hG (hC.own 30 _ _ _ rfl).1) rfl rfl ?_
        refine lx_storea 5 hGF rfl rfl rfl Tryd.sizeOf28 (by simp) (by simp) (one_u64 _) rfl ?_
        refine lx_nil ?_
        refine tr_nil (by kernel_rfl) ?_
        refine kseq_n ?_
        refine xs_drawn (E := EE []) mixed (by kernel_rfl) (by kernel_rfl) (by kernel_rfl) ?_
        refine lx_loada 3 rfl rfl Tryd.isAgg28 Tryd.sizeOf28 (by simp) rfl rfl ?_
        refine lx_slarr1 (l := 0) (h' := 48) rfl Tryd.underlying36 Tryd.sizeOf5 rfl rfl (by omega) (by omega) rfl rfl ?_
        refine lx_callC rfl rfl ent40 (fun w' hC hG => pow_M1 _ _ _ w' hG (hC.own 4 _ _ _ rfl).1) rfl rfl ?_
        refine lx_call rfl rfl ent24 (fof_pure _) rfl rfl ?_
        refine lx_callB true rfl rfl ent38 (fequal_pure _ _) (decide_eq_true (fermat hz)) rfl rfl ?_
        refine lx_move rfl rfl rfl ?_
        refine lx_loada 5 rfl rfl Tryd.isAgg28 Tryd.sizeOf28 (by simp) rfl rfl ?_
        refine lx_call rfl rfl ent24 (fof_pure _) rfl rfl ?_
        refine lx_call rfl rfl ent38 (fequal_pure _ _) rfl rfl ?_
        refine lx_loada 3 rfl rfl Tryd.isAgg28 Tryd.sizeOf28 (by simp) rfl rfl ?_
        refine lx_call rfl rfl ent45 (flegendre_pure _) rfl rfl ?_
        refine lx_bin rfl rfl (fun _ => rfl) (fun _ => bin_eql_i _ _ _) rfl rfl ?_
        refine lx_binB true rfl rfl (fun _ => rfl) (fun w => bin_eql_bool 4 Tryd.underlying4 _ _ w) (LEG_one hz) rfl rfl ?_
        refine lx_pick rfl rfl rfl rfl rfl ?_
        refine lx_move rfl rfl rfl ?_
        refine lx_loada 5 rfl rfl Tryd.isAgg28 Tryd.sizeOf28 (by simp) rfl rfl ?_
        refine lx_call rfl rfl ent24 (fof_pure _) rfl rfl ?_
        refine lx_call rfl rfl ent34 (fneg_pure _) rfl rfl ?_
        refine lx_call rfl rfl ent38 (fequal_pure _ _) rfl rfl ?_
        refine lx_loada 3 rfl rfl Tryd.isAgg28 Tryd.sizeOf28 (by simp) rfl rfl ?_
        refine lx_call rfl rfl ent45 (flegendre_pure _) rfl rfl ?_
        refine lx_bin rfl rfl (fun _ => rfl) (fun _ => bin_eql_i _ _ _) rfl rfl ?_
        refine lx_binB true rfl rfl (fun _ => rfl) (fun w => bin_eql_bool 4 Tryd.underlying4 _ _ w) (LEG_m1 hz) rfl rfl ?_
        refine lx_pick rfl rfl rfl rfl rfl ?_
        refine lx_assign rfl rfl rfl ?_
        refine lx_nil ?_
        refine x_ret ?_
        repeat (first | refine kseq_ret ?_ | refine kblk_ret ?_)
        exact kret_tmp rfl rfl (fun w hw => ⟨rfl, hp_below hw⟩)
end Go.Proofs.YthgoggiiabaccaaDoor
