/-
  The reference's powers of six parts.
-/
import Derived.Test.YtbpifgcbkhohbaaGreatDoorXB
namespace Go.Proofs.YtbpifgcbkhohbaaGreatDoor
open Go.RowKit
set_option maxRecDepth 100000
set_option maxHeartbeats 1000000
attribute [local simp] fe_len nm_len AS_len SS_len MONT_len RM_len FRs_len BYs_len by48_len PLl TWOl ONEl N1l IVPl HFPl RTPl FL_len SP_len fe2_len SP2_len FM_len FF_len

/-- Powers by the first i bits, as the reference reckons them. -/
def RPT (f : Nat → W2) (bs : List (BitVec 8)) : Nat → Nat → W2
  | 0 => ev1 0 on2
  | i + 1 => if pbit bs i = 1#8 then TMf (TMf (RPT f bs i) (RPT f bs i)) f else TMf (RPT f bs i) (RPT f bs i)
theorem RPT_y (f : Nat → W2) (bs : List (BitVec 8)) (i : Nat) (h : pbit bs i = 1#8) : TMf (TMf (RPT f bs i) (RPT f bs i)) f = RPT f bs (i + 1) := by rw [RPT, if_pos h]
theorem RPT_n (f : Nat → W2) (bs : List (BitVec 8)) (i : Nat) (h : ¬ pbit bs i = 1#8) : TMf (RPT f bs i) (RPT f bs i) = RPT f bs (i + 1) := by rw [RPT, if_neg h]
theorem tq_RPT (f : Nat → W2) (bs : List (BitVec 8)) : ∀ i, tq (RPT f bs i) = K12.pw (tq f) (BTn bs i)
  | 0 => rfl
  | i + 1 => by
    have ih := tq_RPT f bs i
    rcases bit_one bs i with ⟨h, e⟩ | ⟨h, e⟩
    · rw [← RPT_y f bs i h, tq_mul, tq_mul, ih]; exact K12.bt_y _ (by rw [BTn, e])
    · rw [← RPT_n f bs i h, tq_mul, ih]; exact K12.bt_n _ (by rw [BTn, e, Nat.add_zero])
theorem tq_RPTn (f : Nat → W2) (bs : List (BitVec 8)) (n : Nat) : tq (RPT f bs (8 * n)) = K12.pw (tq f) (BN bs n) := by rw [tq_RPT, BTn_eight]
theorem t5one  : Pure Tryz.prog Gt 57 [] (TV (ev1 0 on2)) := by
  intro w hw
  have hGF : BOk Gt (pl w) := gt_low.plain hw
  refine calls_of_X (G := Gt) Tryz.func57 rfl rfl (Hp (pl w) []) (hp_refl (pl w) trivial rides_true) (good_hp hGF) ?_
  refine xs_plain (E := EE []) ?_
  refine lx_allocr 0 hGF zv42 rfl rfl ?_
  intro b0
  refine lx_nil ?_
  refine xs_plain (E := EE []) ?_
  refine lx_call rfl rfl ent89 (r5one) rfl rfl ?_
  refine lx_ev1 0 on2 (by decide) rfl rfl rfl ?_
  refine lx_storea 0 hGF rfl rfl rfl Tryz.sizeOf42 (by simp) (by simp) (one_u64 _) rfl ?_
  refine lx_nil ?_
  refine x_ret ?_
  repeat (first | refine kseq_ret ?_ | refine kblk_ret ?_)
  exact kret_own 0 rfl rfl rfl Tryz.isAgg42 Tryz.sizeOf42 (by simp) (fun w hw => ⟨rfl, hp_below hw⟩)
theorem t5pow_calls (f : Nat → W2) (e : Option Addr) (cap : Nat) (bs : List (BitVec 8)) (hlen : bs.length ≤ 4096) (w : World) (hw : Gt w) (hby : BytesAt w e bs) :
    Calls Tryz.prog 26 [TV f, .slice e bs.length cap].toArray w (fun r w' => r = .returned (TV (RPT f bs (8 * bs.length))) ∧ Grow w w') := by
  have hGF : BOk Gt (pl w) := gt_low.plain hw
  refine calls_of_X (G := Gt) Tryz.func26 rfl rfl (Hp (pl w) []) (hp_refl (pl w) trivial rides_true) (good_hp hGF) ?_
  refine xs_plain (E := EE []) ?_
  refine lx_boxr 2 hGF rfl rfl rfl ?_
  intro b2
  refine lx_allocr 4 hGF zv42 rfl rfl ?_
  intro b4
  refine lx_nil ?_
  refine xs_plain (E := EE []) ?_
  refine lx_call rfl rfl ent57 (t5one) rfl rfl ?_
  refine lx_allocr 5 hGF zv42 rfl rfl ?_
  intro b5
  refine lx_storea 5 hGF rfl rfl rfl Tryz.sizeOf42 (by simp) (by simp) (one_u64 _) rfl ?_
  refine lx_nil ?_
  refine x_seq ?_
  refine xs_plain (E := EE []) ?_
  refine lx_assign rfl rfl rfl ?_
  refine lx_nil ?_
  refine x_block ?_
  refine x_for (ι := { i : Nat // i ≤ 8 * bs.length }) (fun y => [(1, .slice e bs.length cap), (2, .pointer (some ⟨b2, 0, none⟩)), (4, .pointer (some ⟨b4, 0, none⟩)), (5, .pointer (some ⟨b5, 0, none⟩)), (6, I (y.1 : Int))]) (fun y => [(2, b2, (FM (FF (f)) 6).map U64, 42), (4, b4, (FM (FF fun _ => ze2) 6).map U64, 42), (5, b5, (FM (FF (RPT f bs y.1)) 6).map U64, 42)]) (fun y => 8 * bs.length - y.1) ⟨0, Nat.zero_le _⟩ hGF ⟨rfl, rfl, rfl, rfl, rfl, trivial⟩ ⟨rfl, rfl, rfl, trivial⟩ ?_
  rintro ⟨i, hi⟩
  dsimp only
  refine x_seq ?_
  refine xs_plain (E := EE []) ?_
  refine lx_move rfl rfl rfl ?_
  refine lx_move rfl rfl rfl ?_
  refine lx_len rfl (fun _ => len_slice Tryz.underlying22 _ _ _ _) rfl rfl ?_
  refine lx_bin (v := I ((8 * bs.length : Nat) : Int)) rfl rfl (fun _ => rfl) (fun _ => (bin_mul_i _ _ _ (by unfold inI; omega)).trans (by rw [show (8 : Int) * (bs.length : Int) = ((8 * bs.length : Nat) : Int) by omega])) rfl rfl ?_
  refine lx_bin rfl rfl (fun _ => rfl) (fun _ => bin_lss_i _ _ _) rfl rfl ?_
  refine lx_nil ?_
  refine x_if rfl (fun hc => ?_) (fun hc => ?_)
  · simp only [decide_eq_true_eq] at hc
    refine x_skip ?_
    refine x_seq ?_
    refine x_block ?_
    refine xs_plain (E := EE []) ?_
    refine lx_loada 5 rfl rfl Tryz.isAgg42 Tryz.sizeOf42 (by simp) rfl rfl ?_
    refine lx_loada 5 rfl rfl Tryz.isAgg42 Tryz.sizeOf42 (by simp) rfl rfl ?_
    refine lx_call rfl rfl ent15 (t5mul _ _) rfl rfl ?_
    refine lx_storea 5 hGF rfl rfl rfl Tryz.sizeOf42 (by simp) (by simp) (one_u64 _) rfl ?_
    refine lx_nil ?_
    refine xs_plain (E := EE []) ?_
    refine lx_move rfl rfl rfl ?_
    refine lx_move rfl rfl rfl ?_
    refine lx_bin (v := I ((i / 8 : Nat) : Int)) rfl rfl (fun _ => rfl) (fun _ => bin_quo_i _ _ _ (by decide) (show inI ((i / 8 : Nat) : Int) by unfold inI; omega)) rfl rfl ?_
    obtain ⟨ad, rfl, _⟩ := hby (i / 8) _ (gm U8 bs 0 (i / 8) (by omega))
    refine lx_isA (i / 8) rfl rfl Tryz.underlying22 Tryz.sizeOf5 rfl (by omega) rfl rfl ?_
    refine lx_load rfl Tryz.isAgg5 (fun w' h => by obtain ⟨ad', e, hc⟩ := (hby.grow (hp_below h)) (i / 8) _ (gm U8 bs 0 (i / 8) (by omega)); cases e; exact hc) rfl rfl ?_
    refine lx_move rfl rfl rfl ?_
    refine lx_bin (v := I ((i % 8 : Nat) : Int)) rfl rfl (fun _ => rfl) (fun _ => bin_rem_i _ _ _ (by decide)) rfl rfl ?_
    refine lx_bin (v := I ((7 - i % 8 : Nat) : Int)) rfl rfl (fun _ => rfl) (fun _ => (bin_sub_i _ _ _ (by unfold inI; omega)).trans (by rw [show ((7 : Int) - ((i % 8 : Nat) : Int)) = ((7 - i % 8 : Nat) : Int) by omega])) rfl rfl ?_
    refine lx_bin (v := U8 (bs.getD (i / 8) 0 >>> (7 - i % 8))) rfl rfl (fun _ => rfl) (fun _ => bin_shr_i_u8 _ _ _ (by omega)) rfl rfl ?_
    refine lx_bin (v := U8 (pbit bs i)) rfl rfl (fun _ => rfl) (fun _ => bin_and_u8 _ _ 1#8) rfl rfl ?_
    refine lx_bin (v := .bool (decide (pbit bs i = 1#8))) rfl rfl (fun _ => rfl) (fun _ => (bin_eql_u8 _ _ 1#8).trans rfl) rfl rfl ?_
    refine lx_nil ?_
    refine x_if rfl (fun hc => ?_) (fun hc => ?_)
    · simp only [decide_eq_true_eq] at hc
      have hq := hc
      refine x_plain (E := EE []) ?_
      refine lx_loada 5 rfl rfl Tryz.isAgg42 Tryz.sizeOf42 (by simp) rfl rfl ?_
      refine lx_loada 2 rfl rfl Tryz.isAgg42 Tryz.sizeOf42 (by simp) rfl rfl ?_
      refine lx_call rfl rfl ent15 (t5mul _ _) rfl rfl ?_
      refine lx_storea 5 hGF rfl rfl rfl Tryz.sizeOf42 (by simp) (by simp) (one_u64 _) rfl ?_
      refine lx_nil ?_
      refine x_plain (E := EE []) ?_
      refine lx_move rfl rfl rfl ?_
      refine lx_bin rfl rfl (fun _ => rfl) (fun _ => bin_add_i _ _ _ (by unfold inI; omega)) rfl rfl ?_
      refine lx_assign rfl rfl rfl ?_
      refine lx_nil ?_
      repeat (refine kblk_n ?_)
      refine kseq_n ?_
      exact ⟨rfl, ⟨i + 1, by omega⟩, _, by show 8 * bs.length - (i + 1) < 8 * bs.length - i; omega, rfl, ⟨rfl, rfl, rfl, rfl, rfl, trivial⟩, ⟨rfl, rfl, by rw [← RPT_y f bs i hq]; rfl, trivial⟩⟩
    · simp only [decide_eq_false_iff_not] at hc
      have hq := hc
      refine x_skip ?_
      refine x_plain (E := EE []) ?_
      refine lx_move rfl rfl rfl ?_
      refine lx_bin rfl rfl (fun _ => rfl) (fun _ => bin_add_i _ _ _ (by unfold inI; omega)) rfl rfl ?_
      refine lx_assign rfl rfl rfl ?_
      refine lx_nil ?_
      repeat (refine kblk_n ?_)
      refine kseq_n ?_
      exact ⟨rfl, ⟨i + 1, by omega⟩, _, by show 8 * bs.length - (i + 1) < 8 * bs.length - i; omega, rfl, ⟨rfl, rfl, rfl, rfl, rfl, trivial⟩, ⟨rfl, rfl, by rw [← RPT_n f bs i hq]; rfl, trivial⟩⟩
  · obtain rfl : i = 8 * bs.length := by simp at hc; omega
    refine x_exit ?_
    refine xs_plain (E := EE []) ?_
    refine lx_loada 5 rfl rfl Tryz.isAgg42 Tryz.sizeOf42 (by simp) rfl rfl ?_
    refine lx_storea 4 hGF rfl rfl rfl Tryz.sizeOf42 (by simp) (by simp) (one_u64 _) rfl ?_
    refine lx_nil ?_
    refine x_ret ?_
    repeat (first | refine kseq_ret ?_ | refine kblk_ret ?_)
    exact kret_own 4 rfl rfl rfl Tryz.isAgg42 Tryz.sizeOf42 (by simp) (fun w hw => ⟨rfl, hp_below hw⟩)
def FRn (f : Nat → W2) : Nat → Nat → W2
  | 0 => f
  | j + 1 => RPT (FRn f j) (BYs PL 48) 384
theorem tq_FRn (f : Nat → W2) (j : Nat) : tq (FRn f (j + 1)) = FR12 (tq (FRn f j)) := by
  rw [FRn, show 384 = 8 * 48 from rfl, tq_RPTn, BN_BYs PL rfl 48 rfl, PL_val, frob12]
theorem t5pow48 (f : Nat → W2) (b : Nat) (t : TypeId) (w : World) (hw : Gt w) (ho : OwnB w b ((BYs PL 48).map U8) t) :
    Calls Tryz.prog 26 [TV f, .slice (some ⟨b, 0, none⟩) 48 48].toArray w (fun r w' => r = .returned (TV (RPT f (BYs PL 48) 384)) ∧ Grow w w') := by
  have h := t5pow_calls f (some ⟨b, 0, none⟩) 48 (BYs PL 48) (by rw [BYs_len]; decide) w hw (BytesAt.range ho.range)
  rw [BYs_len] at h
  exact h
theorem t5frob (f : Nat → W2) (m : Nat) (hm : m ≤ 1000) : Pure Tryz.prog Gt 24 [TV f, I (m : Int)] (TV (FRn f m)) := by
  intro w hw
  have hGF : BOk Gt (pl w) := gt_low.plain hw
  refine calls_of_X (G := Gt) Tryz.func24 rfl rfl (Hp (pl w) []) (hp_refl (pl w) trivial rides_true) (good_hp hGF) ?_
  refine xs_plain (E := EE []) ?_
  refine lx_boxr 2 hGF rfl rfl rfl ?_
  intro b2
  refine lx_allocr 4 hGF zv42 rfl rfl ?_
  intro b4
  refine lx_nil ?_
  refine xs_plain (E := EE []) ?_
  refine lx_call rfl rfl ent55 (rp_pure) rfl rfl ?_
  refine lx_call rfl rfl ent54 (rbytesOf_pure PL rfl) rfl rfl ?_
  refine lx_allocr 5 hGF zv76 rfl rfl ?_
  intro b5
  refine lx_storea 5 hGF rfl rfl rfl Tryz.sizeOf76 (by simp) (by simp) (one_u8 _) rfl ?_
  refine lx_nil ?_
  refine x_seq ?_
  refine x_block ?_
  refine x_for (ι := { j : Nat // j ≤ m }) (fun y => [(1, I ((m - y.1 : Nat) : Int)), (2, .pointer (some ⟨b2, 0, none⟩)), (4, .pointer (some ⟨b4, 0, none⟩)), (5, .pointer (some ⟨b5, 0, none⟩))]) (fun y => [(2, b2, (FM (FF (FRn f y.1)) 6).map U64, 42), (4, b4, (FM (FF fun _ => ze2) 6).map U64, 42), (5, b5, (BYs PL 48).map U8, 76)]) (fun y => m - y.1) ⟨0, Nat.zero_le _⟩ hGF ⟨rfl, rfl, rfl, rfl, trivial⟩ ⟨rfl, rfl, rfl, trivial⟩ ?_
  rintro ⟨j, hj⟩
  dsimp only
  refine x_seq ?_
  refine xs_plain (E := EE []) ?_
  refine lx_move rfl rfl rfl ?_
  refine lx_bin rfl rfl (fun _ => rfl) (fun _ => bin_gtr_i _ _ _) rfl rfl ?_
  refine lx_nil ?_
  refine x_if rfl (fun hc => ?_) (fun hc => ?_)
  · have hj2 : j < m := by simp at hc; omega
    refine x_skip ?_
    refine x_seq ?_
    refine x_block ?_
    refine x_drawn (E := EE []) mixed (by kernel_rfl) (by kernel_rfl) (by kernel_rfl) ?_
    refine lx_loada 2 rfl rfl Tryz.isAgg42 Tryz.sizeOf42 (by simp) rfl rfl ?_
    refine lx_slarr1 (l := 0) (h' := 48) rfl Tryz.underlying76 Tryz.sizeOf5 rfl rfl (by omega) (by omega) rfl rfl ?_
    refine lx_callC rfl rfl ent26 (fun w' hC hG => t5pow48 _ _ _ w' hG (hC.own 5 _ _ _ rfl).1) rfl rfl ?_
    refine lx_storea 2 hGF rfl rfl rfl Tryz.sizeOf42 (by simp) (by simp) (one_u64 _) rfl ?_
    refine lx_nil ?_
    refine x_plain (E := EE []) ?_
    refine lx_move rfl rfl rfl ?_
    refine lx_bin (v := I ((m - (j + 1) : Nat) : Int)) rfl rfl (fun _ => rfl) (fun _ => (bin_sub_i _ _ _ (by unfold inI; omega)).trans (by rw [show ((m - j : Nat) : Int) - 1 = ((m - (j + 1) : Nat) : Int) by omega])) rfl rfl ?_
    refine lx_assign rfl rfl rfl ?_
    refine lx_nil ?_
    repeat (refine kblk_n ?_)
    refine kseq_n ?_
    exact ⟨rfl, ⟨j + 1, by omega⟩, _, by show m - (j + 1) < m - j; omega, rfl, ⟨rfl, rfl, rfl, rfl, trivial⟩, ⟨rfl, rfl, rfl, trivial⟩⟩
  · obtain rfl : j = m := by simp at hc; omega
    refine x_exit ?_
    refine xs_plain (E := EE []) ?_
    refine lx_loada 2 rfl rfl Tryz.isAgg42 Tryz.sizeOf42 (by simp) rfl rfl ?_
    refine lx_storea 4 hGF rfl rfl rfl Tryz.sizeOf42 (by simp) (by simp) (one_u64 _) rfl ?_
    refine lx_nil ?_
    refine x_ret ?_
    repeat (first | refine kseq_ret ?_ | refine kblk_ret ?_)
    exact kret_own 4 rfl rfl rfl Tryz.isAgg42 Tryz.sizeOf42 (by simp) (fun w hw => ⟨rfl, hp_below hw⟩)
end Go.Proofs.YtbpifgcbkhohbaaGreatDoor
