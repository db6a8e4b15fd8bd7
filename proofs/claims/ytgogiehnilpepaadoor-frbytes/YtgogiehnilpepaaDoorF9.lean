/-
  The law FrBytes.
-/
import Derived.Test.YtgogiehnilpepaaDoorX7
import Derived.Test.YtgogiehnilpepaaDoorX3
namespace Go.Proofs.YtgogiehnilpepaaDoor
open Go.RowKit
set_option maxRecDepth 100000
set_option maxHeartbeats 1000000
attribute [local simp] nr_len AS_len SS_len MONT_len FRs_len BYs_len by32_len MLl LIFTl IVRl SQP_len FL_len WDs_len MOD_len MU_len

theorem u64_of_wf {n : Int} (h : (Lit.int .u64 n).wf = true) : ∃ x : BitVec 64, (.int .u64 n : Value) = U64 x := by
  simp only [Lit.wf, Bool.and_eq_true, decide_eq_true_eq] at h
  have h1 : IntKind.u64.min = 0 := rfl
  have h2 : IntKind.u64.max = 18446744073709551615 := rfl
  rw [h1, h2] at h
  refine ⟨BitVec.ofNat 64 n.toNat, ?_⟩
  simp only [U64, BitVec.toNat_ofNat]
  congr 1
  omega
theorem bytes_same (xs : List (BitVec 8)) (a1 : Option Addr) (len1 cap1 : Nat) (a2 : Option Addr) (len2 cap2 : Nat) (hl1 : xs.length = len1) (hl2 : xs.length = len2) (w : World) (hw : Gt w) (h1 : BytesAt w a1 xs) (h2 : BytesAt w a2 xs) :
    Calls Tryd.prog 15 [.slice a1 len1 cap1, .slice a2 len2 cap2].toArray w (fun e w' => e = .returned (.bool true) ∧ Grow w w') := by
  have hGF : BOk Gt (pl w) := gt_low.plain hw
  refine calls_of_X (G := Gt) Tryd.func15 rfl rfl (Hp (pl w) []) (hp_refl (pl w) trivial rides_true) (good_hp hGF) ?_
  refine xs_plain (E := EE []) ?_
  refine lx_assign rfl rfl rfl ?_
  refine lx_nil ?_
  refine xs_plain (E := EE []) ?_
  refine lx_move rfl rfl rfl ?_
  refine lx_convr rfl rfl (fun w' hw' => conv_str Tryd.underlying22 Tryd.underlying5 Tryd.underlying9 (h1.grow (hp_below hw')) _ _ hl1) rfl rfl ?_
  refine lx_move rfl rfl rfl ?_
  refine lx_convr rfl rfl (fun w' hw' => conv_str Tryd.underlying22 Tryd.underlying5 Tryd.underlying9 (h2.grow (hp_below hw')) _ _ hl2) rfl rfl ?_
  refine lx_bin (v := .bool true) rfl rfl (fun _ => rfl) (fun w => bin_eq_str _ _ w) rfl rfl ?_
  refine lx_assign rfl rfl rfl ?_
  refine lx_nil ?_
  refine x_ret ?_
  repeat (first | refine kseq_ret ?_ | refine kblk_ret ?_)
  exact kret_tmp rfl rfl (fun w hw => ⟨rfl, hp_below hw⟩)

theorem qfrom_y (e : Option Addr) (cap : Nat) (bs : List (BitVec 8)) (h : bs.length = 32 ∧ BN bs 32 < RR) (w : World) (hw : Gt w) (hby : BytesAt w e bs) :
    Calls Tryd.prog 9 [.slice e bs.length cap].toArray w (fun r w' => r = .returned (.tuple #[RV (zr (BN bs 32)), .bool true]) ∧ Grow w w') := by
  have h' := qfrom_calls e cap bs w hw hby
  rw [QV, QO, if_pos h, decide_eq_true h] at h'
  exact h'
theorem qfrom_n (e : Option Addr) (cap : Nat) (bs : List (BitVec 8)) (h : ¬ (bs.length = 32 ∧ BN bs 32 < RR)) (w : World) (hw : Gt w) (hby : BytesAt w e bs) :
    Calls Tryd.prog 9 [.slice e bs.length cap].toArray w (fun r w' => r = .returned (.tuple #[RV 0, .bool false]) ∧ Grow w w') := by
  have h' := qfrom_calls e cap bs w hw hby
  rw [QV, QO, if_neg h, decide_eq_false h] at h'
  exact h'
/-- What the reference reads, whatever the length. -/
def RFR (bs : List (BitVec 8)) : List (BitVec 64) := if 48 < bs.length then List.replicate 6 0 else FRs bs bs.length
theorem RFR_len (bs : List (BitVec 8)) : (RFR bs).length = 6 := by
  unfold RFR
  split
  · rfl
  · exact FRs_len _ _
attribute [local simp] RFR_len
theorem rfrom_any (a : Option Addr) (cap : Nat) (bs : List (BitVec 8)) (w : World) (hw : Gt w) (hby : BytesAt w a bs) :
    Calls Tryd.prog 10 [.slice a bs.length cap].toArray w (fun e w' => e = .returned (.tuple #[NV (RFR bs), .bool (decide (bs.length ≤ 48))]) ∧ Grow w w') :=
  (rfrom_calls a cap bs w hw hby).mono fun e w' ⟨he, hg⟩ => ⟨by
    rw [he, RFR]
    by_cases h : 48 < bs.length
    · rw [if_pos h, if_pos h, decide_eq_false (by omega)]; rfl
    · rw [if_neg h, if_neg h, decide_eq_true (by omega)], hg⟩
theorem RFR_less (bs : List (BitVec 8)) (h : bs.length = 32) : ((SS (RFR bs) ML 6).2 == 1#64) = decide (BN bs 32 < RR) := by
  have e := V_FRs bs (by omega)
  rw [RFR, if_neg (by omega)]
  rw [h] at e ⊢
  rcases SS_lt (FRs bs 32) ML with ⟨h, h'⟩ | ⟨h, _, h'⟩
  · rw [e, ML_val] at h'
    rw [h, decide_eq_false (by omega)]; rfl
  · rw [e, ML_val] at h'
    rw [h, decide_eq_true h']; rfl
theorem rwideR (e : Option Addr) (cap : Nat) (bs : List (BitVec 8)) (hl : bs.length ≤ 1000000) (w : World) (hw : Gt w) (hby : BytesAt w e bs) :
    Calls Tryd.prog 18 [.slice e bs.length cap, NV ML].toArray w (fun r w' => r = .returned (RV (QB bs)) ∧ Grow w w') := by
  have h := rwide_calls e cap bs ML rfl hl w hw hby
  rw [WDs_nr] at h
  exact h
theorem bytes_law (e0 : Option Addr) (cap0 : Nat) (bs0 : List (BitVec 8)) (e1 : Option Addr) (cap1 : Nat) (bs1 : List (BitVec 8)) (hcap1 : bs1.length ≤ cap1) (n : BitVec 64) (w : World) (hw : Gt w) (hb0 : BytesAt w e0 bs0) (hb1 : BytesAt w e1 bs1) :
    Calls Tryd.prog 3 [.slice e0 bs0.length cap0, .slice e1 bs1.length cap1, U64 n].toArray w (fun r w' => r = .returned (.bool true) ∧ Grow w w') := by
  have hGF : BOk Gt (pl w) := gt_low.plain hw
  by_cases hbig : 200 < bs0.length
  · skip
    refine calls_of_X (G := Gt) Tryd.func3 rfl rfl (Hp (pl w) []) (hp_refl (pl w) trivial rides_true) (good_hp hGF) ?_
    refine xs_plain (E := EE []) ?_
    refine lx_assign rfl rfl rfl ?_
    refine lx_nil ?_
    refine x_seq ?_
    refine xs_plain (E := EE []) ?_
    refine lx_callB true rfl rfl ent7 (known_pure) (rfl) rfl rfl ?_
    refine lx_un rfl (fun _ => un_not _) rfl rfl ?_
    refine lx_nil ?_
    refine x_false rfl ?_
    refine x_skip ?_
    refine x_seq ?_
    refine xs_plainC (E := EE []) 4 ?_
    refine lx_move rfl rfl rfl ?_
    refine lx_len rfl (fun _ => len_slice Tryd.underlying22 _ _ _ _) rfl rfl ?_
    refine lx_binB true rfl rfl (fun _ => rfl) (fun _ => bin_gtr_i _ _ _) (decide_eq_true (by omega)) rfl rfl ?_
    refine lx_move rfl rfl rfl ?_
    refine lx_nil ?_
    refine ⟨fun _ => false, ?_⟩
    refine lx_skip rfl rfl rfl ?_
    refine lx_skip rfl rfl rfl ?_
    refine lx_skip rfl rfl rfl ?_
    refine lx_skip rfl rfl rfl ?_
    refine lx_pickG rfl rfl rfl rfl rfl rfl ?_
    refine lx_nil ?_
    refine x_true rfl ?_
    refine xs_plain (E := EE []) ?_
    refine lx_assign rfl rfl rfl ?_
    refine lx_nil ?_
    refine x_ret ?_
    repeat (first | refine kseq_ret ?_ | refine kblk_ret ?_)
    exact kret_tmp rfl rfl (fun w hw => ⟨rfl, hp_below hw⟩)
  · by_cases hok : bs0.length = 32 ∧ BN bs0 32 < RR
    · have h32 := hok.1
      refine calls_of_X (G := Gt) Tryd.func3 rfl rfl (Hp (pl w) []) (hp_refl (pl w) trivial rides_true) (good_hp hGF) ?_
      refine xs_plain (E := EE []) ?_
      refine lx_assign rfl rfl rfl ?_
      refine lx_nil ?_
      refine x_seq ?_
      refine xs_plain (E := EE []) ?_
      refine lx_callB true rfl rfl ent7 (known_pure) (rfl) rfl rfl ?_
      refine lx_un rfl (fun _ => un_not _) rfl rfl ?_
      refine lx_nil ?_
      refine x_false rfl ?_
      refine x_skip ?_
      refine x_seq ?_
      refine xs_plain (E := EE []) ?_
      refine lx_move rfl rfl rfl ?_
      refine lx_len rfl (fun _ => len_slice Tryd.underlying22 _ _ _ _) rfl rfl ?_
      refine lx_binB false rfl rfl (fun _ => rfl) (fun _ => bin_gtr_i _ _ _) (decide_eq_false (by omega)) rfl rfl ?_
      refine lx_move rfl rfl rfl ?_
      refine lx_move rfl rfl rfl ?_
      refine lx_bslV 40 (SVl [(e1, bs1.length, cap1)]) hGF rfl rfl rfl (by decide) (by decide) Tryd.underlying63 Tryd.sizeOf22 Tryd.zeroValue22 rfl rfl rfl ?_
      intro b40
      refine lx_callC rfl rfl ent8 (fun w' hC hG => light_calls b40 1 [(e1, bs1.length, cap1)] rfl (by decide) w' hG (hp_row (n := 40) rfl w' hC)) rfl rfl ?_
      refine lx_un rfl (fun _ => un_not _) rfl rfl ?_
      refine lx_pick rfl rfl rfl rfl rfl ?_
      refine lx_nil ?_
      refine x_if rfl (fun hc => ?_) (fun hc => ?_)
      · skip
        refine xs_plain (E := EE []) ?_
        refine lx_assign rfl rfl rfl ?_
        refine lx_nil ?_
        refine x_ret ?_
        repeat (first | refine kseq_ret ?_ | refine kblk_ret ?_)
        exact kret_tmp rfl rfl (fun w hw => ⟨rfl, hp_below hw⟩)
      · have hl : ∀ v ∈ [(e1, bs1.length, cap1)], v.2.1 ≤ 128 := by simpa using hc
        have hl1 : bs1.length ≤ 128 := hl (e1, bs1.length, cap1) (by simp)
        clear hc hl
        refine x_skip ?_
        refine xs_plain (E := EE []) ?_
        refine lx_move rfl rfl rfl ?_
        refine lx_callC rfl rfl ent9 (fun w' hC hG => qfrom_y e0 cap0 bs0 hok w' hG (hb0.grow (hp_below hC))) rfl rfl ?_
        refine lx_move rfl rfl rfl ?_
        refine lx_ext rfl rfl rfl rfl ?_
        refine lx_ext rfl rfl rfl rfl ?_
        refine lx_allocr 7 hGF zv28 rfl rfl ?_
        intro b7
        refine lx_storea 7 hGF rfl rfl rfl Tryd.sizeOf28 (by simp) (by simp) (one_u64 _) rfl ?_
        refine lx_assign rfl rfl rfl ?_
        refine lx_nil ?_
        refine xs_plain (E := EE []) ?_
        refine lx_move rfl rfl rfl ?_
        refine lx_callC rfl rfl ent10 (fun w' hC hG => rfrom_any e0 cap0 bs0 w' hG (hb0.grow (hp_below hC))) rfl rfl ?_
        refine lx_move rfl rfl rfl ?_
        refine lx_ext rfl rfl rfl rfl ?_
        refine lx_ext rfl rfl rfl rfl ?_
        refine lx_allocr 9 hGF zv31 rfl rfl ?_
        intro b9
        refine lx_storea 9 hGF rfl rfl rfl Tryd.sizeOf31 (by simp) (by simp) (one_u64 _) rfl ?_
        refine lx_assign rfl rfl rfl ?_
        refine lx_nil ?_
        refine xs_drawn (E := EE []) mixed (by kernel_rfl) (by kernel_rfl) (by kernel_rfl) ?_
        refine lx_move rfl rfl rfl ?_
        refine lx_len rfl (fun _ => len_slice Tryd.underlying22 _ _ _ _) rfl rfl ?_
        refine lx_binB true rfl rfl (fun _ => rfl) (fun _ => bin_eql_i _ _ _) (beq_iff_eq.2 (by omega)) rfl rfl ?_
        refine lx_move rfl rfl rfl ?_
        refine lx_loada 9 rfl rfl Tryd.isAgg31 Tryd.sizeOf31 (by simp) rfl rfl ?_
        refine lx_call rfl rfl ent12 (rR_pure) rfl rfl ?_
        refine lx_callB true rfl rfl ent11 (rless_pure _ _ (by simp) (by simp)) ((RFR_less bs0 h32).trans (decide_eq_true hok.2)) rfl rfl ?_
        refine lx_pick rfl rfl rfl rfl rfl ?_
        refine lx_assign rfl rfl rfl ?_
        refine lx_nil ?_
        refine x_seq ?_
        refine xs_plain (E := EE []) ?_
        refine lx_move rfl rfl rfl ?_
        refine lx_move rfl rfl rfl ?_
        refine lx_binB false rfl rfl (fun _ => rfl) (fun w => bin_neq_bool 4 Tryd.underlying4 _ _ w) (rfl) rfl rfl ?_
        refine lx_move rfl rfl rfl ?_
        refine lx_move rfl rfl rfl ?_
        refine lx_un rfl (fun _ => un_not _) rfl rfl ?_
        refine lx_move rfl rfl rfl ?_
        refine lx_skip rfl rfl rfl ?_
        refine lx_skip rfl rfl rfl ?_
        refine lx_skip rfl rfl rfl ?_
        refine lx_pick rfl rfl rfl rfl rfl ?_
        refine lx_pick rfl rfl rfl rfl rfl ?_
        refine lx_nil ?_
        refine x_false rfl ?_
        refine x_skip ?_
        refine x_seq ?_
        refine xs_plain (E := EE []) ?_
        refine lx_loada 7 rfl rfl Tryd.isAgg28 Tryd.sizeOf28 (by simp) rfl rfl ?_
        refine lx_call rfl rfl ent14 (qbytes_pure _) rfl rfl ?_
        refine lx_allocr 12 hGF zv36 rfl rfl ?_
        intro b12
        refine lx_storea 12 hGF rfl rfl rfl Tryd.sizeOf36 (by simp) (by simp) (one_u8 _) rfl ?_
        refine lx_nil ?_
        refine xs_plain (E := EE []) ?_
        refine lx_move rfl rfl rfl ?_
        refine lx_move rfl rfl rfl ?_
        refine lx_slarr1 (l := 0) (h' := 32) rfl Tryd.underlying36 Tryd.sizeOf5 rfl rfl (by omega) (by omega) rfl rfl ?_
        refine lx_move rfl rfl rfl ?_
        refine lx_callC rfl rfl ent15 (fun w' hC hG => bytes_same bs0 _ _ _ _ _ _ hok.1 rfl w' hG (BytesAt.range (by have := hp_row (n := 12) rfl w' hC; rw [by32_of hok.1 hok.2] at this; exact this)) (hb0.grow (hp_below hC))) rfl rfl ?_
        refine lx_un rfl (fun _ => un_not _) rfl rfl ?_
        refine lx_pick rfl rfl rfl rfl rfl ?_
        refine lx_nil ?_
        refine x_false rfl ?_
        refine x_skip ?_
        refine xs_plain (E := EE []) ?_
        refine lx_move rfl rfl rfl ?_
        refine lx_callC rfl rfl ent17 (fun w' hC hG => qwide_calls e1 cap1 bs1 (by omega) hcap1 w' hG (hb1.grow (hp_below hC))) rfl rfl ?_
        refine lx_move rfl rfl rfl ?_
        refine lx_call rfl rfl ent12 (rR_pure) rfl rfl ?_
        refine lx_callC rfl rfl ent18 (fun w' hC hG => rwideR e1 cap1 bs1 (by omega) w' hG (hb1.grow (hp_below hC))) rfl rfl ?_
        refine lx_callB true rfl rfl ent16 (same_pure _ _ (by simp)) (decide_eq_true rfl) rfl rfl ?_
        refine lx_move rfl rfl rfl ?_
        refine lx_move rfl rfl rfl ?_
        refine lx_call rfl rfl ent19 (qof_pure _) rfl rfl ?_
        refine lx_move rfl rfl rfl ?_
        refine lx_build1 n rfl Tryd.underlying31 Tryd.sizeOf23 zv31 rfl rfl ?_
        refine lx_callB true rfl rfl ent16 (same_pure _ _ (by simp)) (decide_eq_true (nr_small n).symm) rfl rfl ?_
        refine lx_pick rfl rfl rfl rfl rfl ?_
        refine lx_assign rfl rfl rfl ?_
        refine lx_nil ?_
        refine x_ret ?_
        repeat (first | refine kseq_ret ?_ | refine kblk_ret ?_)
        exact kret_tmp rfl rfl (fun w hw => ⟨rfl, hp_below hw⟩)
    · by_cases h32 : bs0.length = 32
      · have hlow : ¬ BN bs0 32 < RR := fun h => hok ⟨h32, h⟩
        refine calls_of_X (G := Gt) Tryd.func3 rfl rfl (Hp (pl w) []) (hp_refl (pl w) trivial rides_true) (good_hp hGF) ?_
        refine xs_plain (E := EE []) ?_
        refine lx_assign rfl rfl rfl ?_
        refine lx_nil ?_
        refine x_seq ?_
        refine xs_plain (E := EE []) ?_
        refine lx_callB true rfl rfl ent7 (known_pure) (rfl) rfl rfl ?_
        refine lx_un rfl (fun _ => un_not _) rfl rfl ?_
        refine lx_nil ?_
        refine x_false rfl ?_
        refine x_skip ?_
        refine x_seq ?_
        refine xs_plain (E := EE []) ?_
        refine lx_move rfl rfl rfl ?_
        refine lx_len rfl (fun _ => len_slice Tryd.underlying22 _ _ _ _) rfl rfl ?_
        refine lx_binB false rfl rfl (fun _ => rfl) (fun _ => bin_gtr_i _ _ _) (decide_eq_false (by omega)) rfl rfl ?_
        refine lx_move rfl rfl rfl ?_
        refine lx_move rfl rfl rfl ?_
        refine lx_bslV 40 (SVl [(e1, bs1.length, cap1)]) hGF rfl rfl rfl (by decide) (by decide) Tryd.underlying63 Tryd.sizeOf22 Tryd.zeroValue22 rfl rfl rfl ?_
        intro b40
        refine lx_callC rfl rfl ent8 (fun w' hC hG => light_calls b40 1 [(e1, bs1.length, cap1)] rfl (by decide) w' hG (hp_row (n := 40) rfl w' hC)) rfl rfl ?_
        refine lx_un rfl (fun _ => un_not _) rfl rfl ?_
        refine lx_pick rfl rfl rfl rfl rfl ?_
        refine lx_nil ?_
        refine x_if rfl (fun hc => ?_) (fun hc => ?_)
        · skip
          refine xs_plain (E := EE []) ?_
          refine lx_assign rfl rfl rfl ?_
          refine lx_nil ?_
          refine x_ret ?_
          repeat (first | refine kseq_ret ?_ | refine kblk_ret ?_)
          exact kret_tmp rfl rfl (fun w hw => ⟨rfl, hp_below hw⟩)
        · have hl : ∀ v ∈ [(e1, bs1.length, cap1)], v.2.1 ≤ 128 := by simpa using hc
          have hl1 : bs1.length ≤ 128 := hl (e1, bs1.length, cap1) (by simp)
          clear hc hl
          refine x_skip ?_
          refine xs_plain (E := EE []) ?_
          refine lx_move rfl rfl rfl ?_
          refine lx_callC rfl rfl ent9 (fun w' hC hG => qfrom_n e0 cap0 bs0 hok w' hG (hb0.grow (hp_below hC))) rfl rfl ?_
          refine lx_move rfl rfl rfl ?_
          refine lx_ext rfl rfl rfl rfl ?_
          refine lx_ext rfl rfl rfl rfl ?_
          refine lx_allocr 7 hGF zv28 rfl rfl ?_
          intro b7
          refine lx_storea 7 hGF rfl rfl rfl Tryd.sizeOf28 (by simp) (by simp) (one_u64 _) rfl ?_
          refine lx_assign rfl rfl rfl ?_
          refine lx_nil ?_
          refine xs_plain (E := EE []) ?_
          refine lx_move rfl rfl rfl ?_
          refine lx_callC rfl rfl ent10 (fun w' hC hG => rfrom_any e0 cap0 bs0 w' hG (hb0.grow (hp_below hC))) rfl rfl ?_
          refine lx_move rfl rfl rfl ?_
          refine lx_ext rfl rfl rfl rfl ?_
          refine lx_ext rfl rfl rfl rfl ?_
          refine lx_allocr 9 hGF zv31 rfl rfl ?_
          intro b9
          refine lx_storea 9 hGF rfl rfl rfl Tryd.sizeOf31 (by simp) (by simp) (one_u64 _) rfl ?_
          refine lx_assign rfl rfl rfl ?_
          refine lx_nil ?_
          refine xs_drawn (E := EE []) mixed (by kernel_rfl) (by kernel_rfl) (by kernel_rfl) ?_
          refine lx_move rfl rfl rfl ?_
          refine lx_len rfl (fun _ => len_slice Tryd.underlying22 _ _ _ _) rfl rfl ?_
          refine lx_binB true rfl rfl (fun _ => rfl) (fun _ => bin_eql_i _ _ _) (beq_iff_eq.2 (by omega)) rfl rfl ?_
          refine lx_move rfl rfl rfl ?_
          refine lx_loada 9 rfl rfl Tryd.isAgg31 Tryd.sizeOf31 (by simp) rfl rfl ?_
          refine lx_call rfl rfl ent12 (rR_pure) rfl rfl ?_
          refine lx_callB false rfl rfl ent11 (rless_pure _ _ (by simp) (by simp)) ((RFR_less bs0 h32).trans (decide_eq_false hlow)) rfl rfl ?_
          refine lx_pick rfl rfl rfl rfl rfl ?_
          refine lx_assign rfl rfl rfl ?_
          refine lx_nil ?_
          refine x_seq ?_
          refine xs_plain (E := EE []) ?_
          refine lx_move rfl rfl rfl ?_
          refine lx_move rfl rfl rfl ?_
          refine lx_binB false rfl rfl (fun _ => rfl) (fun w => bin_neq_bool 4 Tryd.underlying4 _ _ w) (rfl) rfl rfl ?_
          refine lx_move rfl rfl rfl ?_
          refine lx_move rfl rfl rfl ?_
          refine lx_un rfl (fun _ => un_not _) rfl rfl ?_
          refine lx_move rfl rfl rfl ?_
          refine lx_loada 7 rfl rfl Tryd.isAgg28 Tryd.sizeOf28 (by simp) rfl rfl ?_
          refine lx_callB true rfl rfl ent13 (qisZero_pure _) (decide_eq_true rfl) rfl rfl ?_
          refine lx_un rfl (fun _ => un_not _) rfl rfl ?_
          refine lx_pick rfl rfl rfl rfl rfl ?_
          refine lx_pick rfl rfl rfl rfl rfl ?_
          refine lx_nil ?_
          refine x_false rfl ?_
          refine x_skip ?_
          refine x_seq ?_
          refine xs_plain (E := EE []) ?_
          refine lx_loada 7 rfl rfl Tryd.isAgg28 Tryd.sizeOf28 (by simp) rfl rfl ?_
          refine lx_call rfl rfl ent14 (qbytes_pure _) rfl rfl ?_
          refine lx_allocr 12 hGF zv36 rfl rfl ?_
          intro b12
          refine lx_storea 12 hGF rfl rfl rfl Tryd.sizeOf36 (by simp) (by simp) (one_u8 _) rfl ?_
          refine lx_nil ?_
          refine xs_plain (E := EE []) ?_
          refine lx_move rfl rfl rfl ?_
          refine lx_move rfl rfl rfl ?_
          refine lx_skip rfl rfl rfl ?_
          refine lx_skip rfl rfl rfl ?_
          refine lx_skip rfl rfl rfl ?_
          refine lx_skip rfl rfl rfl ?_
          refine lx_pick rfl rfl rfl rfl rfl ?_
          refine lx_nil ?_
          refine x_false rfl ?_
          refine x_skip ?_
          refine xs_plain (E := EE []) ?_
          refine lx_move rfl rfl rfl ?_
          refine lx_callC rfl rfl ent17 (fun w' hC hG => qwide_calls e1 cap1 bs1 (by omega) hcap1 w' hG (hb1.grow (hp_below hC))) rfl rfl ?_
          refine lx_move rfl rfl rfl ?_
          refine lx_call rfl rfl ent12 (rR_pure) rfl rfl ?_
          refine lx_callC rfl rfl ent18 (fun w' hC hG => rwideR e1 cap1 bs1 (by omega) w' hG (hb1.grow (hp_below hC))) rfl rfl ?_
          refine lx_callB true rfl rfl ent16 (same_pure _ _ (by simp)) (decide_eq_true rfl) rfl rfl ?_
          refine lx_move rfl rfl rfl ?_
          refine lx_move rfl rfl rfl ?_
          refine lx_call rfl rfl ent19 (qof_pure _) rfl rfl ?_
          refine lx_move rfl rfl rfl ?_
          refine lx_build1 n rfl Tryd.underlying31 Tryd.sizeOf23 zv31 rfl rfl ?_
          refine lx_callB true rfl rfl ent16 (same_pure _ _ (by simp)) (decide_eq_true (nr_small n).symm) rfl rfl ?_
          refine lx_pick rfl rfl rfl rfl rfl ?_
          refine lx_assign rfl rfl rfl ?_
          refine lx_nil ?_
          refine x_ret ?_
          repeat (first | refine kseq_ret ?_ | refine kblk_ret ?_)
          exact kret_tmp rfl rfl (fun w hw => ⟨rfl, hp_below hw⟩)
      · skip
        refine calls_of_X (G := Gt) Tryd.func3 rfl rfl (Hp (pl w) []) (hp_refl (pl w) trivial rides_true) (good_hp hGF) ?_
        refine xs_plain (E := EE []) ?_
        refine lx_assign rfl rfl rfl ?_
        refine lx_nil ?_
        refine x_seq ?_
        refine xs_plain (E := EE []) ?_
        refine lx_callB true rfl rfl ent7 (known_pure) (rfl) rfl rfl ?_
        refine lx_un rfl (fun _ => un_not _) rfl rfl ?_
        refine lx_nil ?_
        refine x_false rfl ?_
        refine x_skip ?_
        refine x_seq ?_
        refine xs_plain (E := EE []) ?_
        refine lx_move rfl rfl rfl ?_
        refine lx_len rfl (fun _ => len_slice Tryd.underlying22 _ _ _ _) rfl rfl ?_
        refine lx_binB false rfl rfl (fun _ => rfl) (fun _ => bin_gtr_i _ _ _) (decide_eq_false (by omega)) rfl rfl ?_
        refine lx_move rfl rfl rfl ?_
        refine lx_move rfl rfl rfl ?_
        refine lx_bslV 40 (SVl [(e1, bs1.length, cap1)]) hGF rfl rfl rfl (by decide) (by decide) Tryd.underlying63 Tryd.sizeOf22 Tryd.zeroValue22 rfl rfl rfl ?_
        intro b40
        refine lx_callC rfl rfl ent8 (fun w' hC hG => light_calls b40 1 [(e1, bs1.length, cap1)] rfl (by decide) w' hG (hp_row (n := 40) rfl w' hC)) rfl rfl ?_
        refine lx_un rfl (fun _ => un_not _) rfl rfl ?_
        refine lx_pick rfl rfl rfl rfl rfl ?_
        refine lx_nil ?_
        refine x_if rfl (fun hc => ?_) (fun hc => ?_)
        · skip
          refine xs_plain (E := EE []) ?_
          refine lx_assign rfl rfl rfl ?_
          refine lx_nil ?_
          refine x_ret ?_
          repeat (first | refine kseq_ret ?_ | refine kblk_ret ?_)
          exact kret_tmp rfl rfl (fun w hw => ⟨rfl, hp_below hw⟩)
        · have hl : ∀ v ∈ [(e1, bs1.length, cap1)], v.2.1 ≤ 128 := by simpa using hc
          have hl1 : bs1.length ≤ 128 := hl (e1, bs1.length, cap1) (by simp)
          clear hc hl
          refine x_skip ?_
          refine xs_plain (E := EE []) ?_
          refine lx_move rfl rfl rfl ?_
          refine lx_callC rfl rfl ent9 (fun w' hC hG => qfrom_n e0 cap0 bs0 hok w' hG (hb0.grow (hp_below hC))) rfl rfl ?_
          refine lx_move rfl rfl rfl ?_
          refine lx_ext rfl rfl rfl rfl ?_
          refine lx_ext rfl rfl rfl rfl ?_
          refine lx_allocr 7 hGF zv28 rfl rfl ?_
          intro b7
          refine lx_storea 7 hGF rfl rfl rfl Tryd.sizeOf28 (by simp) (by simp) (one_u64 _) rfl ?_
          refine lx_assign rfl rfl rfl ?_
          refine lx_nil ?_
          refine xs_plain (E := EE []) ?_
          refine lx_move rfl rfl rfl ?_
          refine lx_callC rfl rfl ent10 (fun w' hC hG => rfrom_any e0 cap0 bs0 w' hG (hb0.grow (hp_below hC))) rfl rfl ?_
          refine lx_move rfl rfl rfl ?_
          refine lx_ext rfl rfl rfl rfl ?_
          refine lx_ext rfl rfl rfl rfl ?_
          refine lx_allocr 9 hGF zv31 rfl rfl ?_
          intro b9
          refine lx_storea 9 hGF rfl rfl rfl Tryd.sizeOf31 (by simp) (by simp) (one_u64 _) rfl ?_
          refine lx_assign rfl rfl rfl ?_
          refine lx_nil ?_
          refine xs_drawn (E := EE []) mixed (by kernel_rfl) (by kernel_rfl) (by kernel_rfl) ?_
          refine lx_move rfl rfl rfl ?_
          refine lx_len rfl (fun _ => len_slice Tryd.underlying22 _ _ _ _) rfl rfl ?_
          refine lx_binB false rfl rfl (fun _ => rfl) (fun _ => bin_eql_i _ _ _) (beq_eq_false_iff_ne.2 (by omega)) rfl rfl ?_
          refine lx_move rfl rfl rfl ?_
          refine lx_skip rfl rfl rfl ?_
          refine lx_skip rfl rfl rfl ?_
          refine lx_skip rfl rfl rfl ?_
          refine lx_pick rfl rfl rfl rfl rfl ?_
          refine lx_assign rfl rfl rfl ?_
          refine lx_nil ?_
          refine x_seq ?_
          refine xs_plain (E := EE []) ?_
          refine lx_move rfl rfl rfl ?_
          refine lx_move rfl rfl rfl ?_
          refine lx_binB false rfl rfl (fun _ => rfl) (fun w => bin_neq_bool 4 Tryd.underlying4 _ _ w) (rfl) rfl rfl ?_
          refine lx_move rfl rfl rfl ?_
          refine lx_move rfl rfl rfl ?_
          refine lx_un rfl (fun _ => un_not _) rfl rfl ?_
          refine lx_move rfl rfl rfl ?_
          refine lx_loada 7 rfl rfl Tryd.isAgg28 Tryd.sizeOf28 (by simp) rfl rfl ?_
          refine lx_callB true rfl rfl ent13 (qisZero_pure _) (decide_eq_true rfl) rfl rfl ?_
          refine lx_un rfl (fun _ => un_not _) rfl rfl ?_
          refine lx_pick rfl rfl rfl rfl rfl ?_
          refine lx_pick rfl rfl rfl rfl rfl ?_
          refine lx_nil ?_
          refine x_false rfl ?_
          refine x_skip ?_
          refine x_seq ?_
          refine xs_plain (E := EE []) ?_
          refine lx_loada 7 rfl rfl Tryd.isAgg28 Tryd.sizeOf28 (by simp) rfl rfl ?_
          refine lx_call rfl rfl ent14 (qbytes_pure _) rfl rfl ?_
          refine lx_allocr 12 hGF zv36 rfl rfl ?_
          intro b12
          refine lx_storea 12 hGF rfl rfl rfl Tryd.sizeOf36 (by simp) (by simp) (one_u8 _) rfl ?_
          refine lx_nil ?_
          refine xs_plain (E := EE []) ?_
          refine lx_move rfl rfl rfl ?_
          refine lx_move rfl rfl rfl ?_
          refine lx_skip rfl rfl rfl ?_
          refine lx_skip rfl rfl rfl ?_
          refine lx_skip rfl rfl rfl ?_
          refine lx_skip rfl rfl rfl ?_
          refine lx_pick rfl rfl rfl rfl rfl ?_
          refine lx_nil ?_
          refine x_false rfl ?_
          refine x_skip ?_
          refine xs_plain (E := EE []) ?_
          refine lx_move rfl rfl rfl ?_
          refine lx_callC rfl rfl ent17 (fun w' hC hG => qwide_calls e1 cap1 bs1 (by omega) hcap1 w' hG (hb1.grow (hp_below hC))) rfl rfl ?_
          refine lx_move rfl rfl rfl ?_
          refine lx_call rfl rfl ent12 (rR_pure) rfl rfl ?_
          refine lx_callC rfl rfl ent18 (fun w' hC hG => rwideR e1 cap1 bs1 (by omega) w' hG (hb1.grow (hp_below hC))) rfl rfl ?_
          refine lx_callB true rfl rfl ent16 (same_pure _ _ (by simp)) (decide_eq_true rfl) rfl rfl ?_
          refine lx_move rfl rfl rfl ?_
          refine lx_move rfl rfl rfl ?_
          refine lx_call rfl rfl ent19 (qof_pure _) rfl rfl ?_
          refine lx_move rfl rfl rfl ?_
          refine lx_build1 n rfl Tryd.underlying31 Tryd.sizeOf23 zv31 rfl rfl ?_
          refine lx_callB true rfl rfl ent16 (same_pure _ _ (by simp)) (decide_eq_true (nr_small n).symm) rfl rfl ?_
          refine lx_pick rfl rfl rfl rfl rfl ?_
          refine lx_assign rfl rfl rfl ?_
          refine lx_nil ?_
          refine x_ret ?_
          repeat (first | refine kseq_ret ?_ | refine kblk_ret ?_)
          exact kret_tmp rfl rfl (fun w hw => ⟨rfl, hp_below hw⟩)
end Go.Proofs.YtgogiehnilpepaaDoor
