/-
 The law MillerDigits.
-/
import Derived.Test.YthkmeodnlidpfaaDoorTE
import Derived.Test.YthkmeodnlidpfaaDoorX3
import Derived.Test.YthkmeodnlidpfaaDoorX2
namespace Go.Proofs.YthkmeodnlidpfaaDoor
open Go.RowKit
set_option maxRecDepth 100000
set_option maxHeartbeats 1000000
attribute [local simp] fe_len nm_len AS_len SS_len MONT_len RM_len FRs_len BYs_len by48_len PLl TWOl ONEl N1l IVPl HFPl RTPl FL_len SP_len fe2_len SP2_len FM_len J2.GL_len Q6.FF_len

theorem ent7 : Enters Tryd.prog 7 := fun _ _ => by kernel_rfl
theorem ent8 : Enters Tryd.prog 8 := fun _ _ => by kernel_rfl
theorem dig_cells {B : Bs} {L : Hl} {Y : Nat → Prop} {b : Nat} {c : List Value} (hl : lkB L 50 = some (b, c, 4)) (hc : ∀ j, j < 63 → c[j]? = some (.bool (DGb j))) {k : Nat} (hk : k ≤ 63) (w : World) (hC : Hq B L Y w) : CellsAt w (some ⟨b, 0, none⟩) (BLk k) := by
 refine CellsAt.range fun j v hv => ?_
 rw [Nat.zero_add]
 have hj : j < k := by
  have := (List.getElem?_eq_some_iff.1 hv).1
  rw [BLk_len hk] at this
  exact this
 rw [BLk_get hk hj] at hv
 cases hv
 exact hp_cell hl (hc j (by omega)) w hC
theorem bits_calls (k : Nat) (hk : k ≤ 63) (a1 : Option Addr) (len1 cap1 : Nat) (a2 : Option Addr) (len2 cap2 : Nat) (hl1 : k = len1) (hl2 : k = len2) (w : World) (hw : Gt w) (h1 : CellsAt w a1 (BLk k)) (h2 : CellsAt w a2 (BLk k)) :
  Calls Tryd.prog 7 [.slice a1 len1 cap1, .slice a2 len2 cap2].toArray w (fun e w' => e = .returned (.bool true) ∧ Grow w w') := by
 have hGF : BOk Gt (pl w) := gt_low.plain hw
 subst hl1
 subst hl2
 refine calls_of_X (G := Gt) Tryd.func7 rfl rfl (Hp (pl w) []) (hp_refl (pl w) trivial rides_true) (good_hp hGF) ?_
 refine xs_plain (E := EE []) ?_
 refine lx_assign rfl rfl rfl ?_
 refine lx_nil ?_
 refine x_seq ?_
 refine xs_plain (E := EE []) ?_
 refine lx_move rfl rfl rfl ?_
 refine lx_len rfl (fun _ => len_slice Tryd.underlying23 _ _ _ _) rfl rfl ?_
 refine lx_move rfl rfl rfl ?_
 refine lx_len rfl (fun _ => len_slice Tryd.underlying23 _ _ _ _) rfl rfl ?_
 refine lx_bin (v := .bool false) rfl rfl (fun _ => rfl) (fun w => (bin_neq_i _ _ _).trans (congrArg (fun b => Result.ok (Value.bool b) w) (bne_self_eq_false _))) rfl rfl ?_
 refine lx_nil ?_
 refine x_false rfl ?_
 refine x_skip ?_
 refine x_seq ?_
 refine xs_plain (E := EE []) ?_
 refine lx_assign rfl rfl rfl ?_
 refine lx_nil ?_
 refine x_block ?_
 refine x_for (ι := { i : Nat // i ≤ k }) (fun x => [(0, .slice a1 k cap1), (1, .slice a2 k cap2), (5, I (x.1 : Int))]) (fun x => []) (fun x => k - x.1) ⟨0, by omega⟩ hGF ⟨rfl, rfl, rfl, trivial⟩ trivial ?_
 rintro ⟨i, hi⟩
 dsimp only
 refine x_seq ?_
 refine xs_plain (E := EE []) ?_
 refine lx_move rfl rfl rfl ?_
 refine lx_move rfl rfl rfl ?_
 refine lx_len rfl (fun _ => len_slice Tryd.underlying23 _ _ _ _) rfl rfl ?_
 refine lx_bin rfl rfl (fun _ => rfl) (fun _ => bin_lss_i _ _ _) rfl rfl ?_
 refine lx_nil ?_
 refine x_if rfl (fun hc => ?_) (fun hc => ?_)
 ·simp only [decide_eq_true_eq] at hc
  obtain ⟨ad1, rfl, _⟩ := h1 i _ (BLk_get hk (by omega))
  obtain ⟨ad2, rfl, _⟩ := h2 i _ (BLk_get hk (by omega))
  refine x_skip ?_
  refine x_seq ?_
  refine x_block ?_
  refine xs_drawn (E := EE []) mixed (by kernel_rfl) (by kernel_rfl) (by kernel_rfl) ?_
  refine lx_move rfl rfl rfl ?_
  refine lx_move rfl rfl rfl ?_
  refine lx_isA i rfl rfl Tryd.underlying23 Tryd.sizeOf4 rfl (by omega) rfl rfl ?_
  refine lx_load (v := .bool (DGb i)) rfl Tryd.isAgg4 (fun w' h => by obtain ⟨ad', e, hc⟩ := (h1.grow (hp_below h)) i _ (BLk_get hk (by omega)); cases e; exact hc) rfl rfl ?_
  refine lx_move rfl rfl rfl ?_
  refine lx_move rfl rfl rfl ?_
  refine lx_isA i rfl rfl Tryd.underlying23 Tryd.sizeOf4 rfl (by omega) rfl rfl ?_
  refine lx_load (v := .bool (DGb i)) rfl Tryd.isAgg4 (fun w' h => by obtain ⟨ad', e, hc⟩ := (h2.grow (hp_below h)) i _ (BLk_get hk (by omega)); cases e; exact hc) rfl rfl ?_
  refine lx_bin (v := .bool false) rfl rfl (fun _ => rfl) (fun w => (bin_neq_bool _ Tryd.underlying4 _ _ w).trans (congrArg (fun b => Result.ok (Value.bool b) w) (bne_self_eq_false _))) rfl rfl ?_
  refine lx_nil ?_
  refine x_false rfl ?_
  refine x_skip ?_
  refine x_plain (E := EE []) ?_
  refine lx_move rfl rfl rfl ?_
  refine lx_bin rfl rfl (fun _ => rfl) (fun _ => bin_add_i _ _ _ (by unfold inI; omega)) rfl rfl ?_
  refine lx_assign rfl rfl rfl ?_
  refine lx_nil ?_
  repeat (refine kblk_n ?_)
  refine kseq_n ?_
  exact ⟨rfl, ⟨i + 1, by omega⟩, _, by show k - (i + 1) < k - i; omega, rfl, ⟨rfl, rfl, rfl, trivial⟩, trivial⟩
 ·obtain rfl : i = k := by simp at hc; omega
  refine x_exit ?_
  refine xs_plain (E := EE []) ?_
  refine lx_assign rfl rfl rfl ?_
  refine lx_nil ?_
  refine x_ret ?_
  repeat (first | refine kseq_ret ?_ | refine kblk_ret ?_)
  exact kret_tmp rfl rfl (fun w hw => ⟨rfl, hp_below hw⟩)
structure WkV where
 (a0 : Option Addr) (cap : Nat) (own : Hl)
theorem walk_calls (m : Nat) (h1 : 0 < m) (hm : m ≤ 1000) (w : World) (hw : Gt w) :
  Calls Tryd.prog 8 [I (m : Int)].toArray w (fun e w' => ∃ a0 cap, e = .returned (.slice a0 (BLk (min m 63)).length cap) ∧ Grow w w' ∧ ClnV 4 w w' (BLk (min m 63)) a0 cap) := by
 have hGF : BOk Gt (pl w) := gt_low.plain hw
 have hfin : ∀ {L : Hl} {a0 : Option Addr} {cap : Nat} {k : Nat} {w' : World}, OwnV L 50 4 a0 cap (BLk k) → k = min m 63 → Hp (pl w) L w' → ∃ a1 cap1, Ending.returned (.slice a0 (BLk k).length cap) = .returned (.slice a1 (BLk (min m 63)).length cap1) ∧ Grow w w' ∧ ClnV 4 w w' (BLk (min m 63)) a1 cap1 := fun {L a0 cap k w'} h e hp => by
  rw [← e]
  exact ⟨a0, cap, rfl, hp_below hp, h.cln hp⟩
 refine calls_of_XM (G := Gt) Tryd.func8 rfl rfl (Hp (pl w) []) (hp_refl (pl w) trivial rides_true) (good_hp hGF) ?_
 refine xs_plain (E := EE []) ?_
 refine lx_box 1 hGF rfl rfl rfl ?_
 intro b1
 refine lx_assign rfl rfl rfl ?_
 refine lx_nil ?_
 refine xs_plain (E := EE []) ?_
 refine lx_alloc 3 hGF Tryd.zeroValue23 rfl rfl ?_
 intro b3
 refine lx_nil ?_
 refine xs_plain (E := EE []) ?_
 refine lx_call rfl rfl ent9 (mdig_p) rfl rfl ?_
 refine lx_assign rfl rfl rfl ?_
 refine lx_nil ?_
 refine x_seq ?_
 refine xs_plain (E := EE []) ?_
 refine lx_move rfl rfl rfl ?_
 refine lx_bin (v := .bool false) rfl rfl (fun _ => rfl) (fun w => bin_eq_fn Tryd.underlying30 _ _ _ w) rfl rfl ?_
 refine lx_nil ?_
 refine x_false rfl ?_
 refine x_skip ?_
 refine x_seq ?_
 refine xs_plain (E := EE []) ?_
 refine lx_move rfl rfl rfl ?_
 refine lx_nil ?_
 refine x_block ?_
 refine x_rangeS (ι := Nat × WkV) (fun _ => pl w) (fun _ _ => pl w) (fun _ => hGF) (fun _ _ => hGF) (fun _ => rfl) (fun _ _ => rfl) rfl rfl ent17 mdig_seq (fun x hx => by obtain ⟨k, hk, rfl⟩ := List.mem_map.1 hx; rfl) rfl (fun k x => (x.1 = k ∧ k ≤ 63 ∧ k < m) ∧ OwnV ((1, b1, [I (m : Int)], 3) :: (3, b3, [.slice x.2.a0 (BLk x.1).length x.2.cap], 23) :: x.2.own) 50 4 x.2.a0 x.2.cap (BLk x.1)) (fun x => (1, b1, [I (m : Int)], 3) :: (3, b3, [.slice x.2.a0 (BLk x.1).length x.2.cap], 23) :: x.2.own) (fun cd _ L' => cd = .exit 0 ∧ m ≤ 63 ∧ ∃ s : WkV, OwnV L' 50 4 s.a0 s.cap (BLk m) ∧ lkB L' 3 = some (b3, [.slice s.a0 (BLk m).length s.cap], 23)) (0, ⟨none, 0, []⟩) ⟨⟨rfl, Nat.zero_le _, h1⟩, ownV_nil _ _ _⟩ ⟨rfl, rfl, trivial⟩ (fun _ _ _ _ _ _ => trivial) ?_ ?_ ?_
 ·rintro k x hx ⟨k', s⟩ hs R hR
  obtain ⟨⟨hkk, hkl, hkm⟩, hs2⟩ := hs
  dsimp only at hkk hs2 ⊢
  have hkk := hkk.symm
  subst hkk
  obtain ⟨hk1, rfl⟩ := DGs_at hx
  refine x_plain (E := EE []) ?_
  refine lx_assign rfl rfl rfl ?_
  refine lx_nil ?_
  refine ⟨rfl, _, rfl, ?_⟩
  refine x_block ?_
  refine xs_plain (E := EE []) ?_
  refine lx_loadl 3 rfl rfl rfl Tryd.isAgg23 rfl rfl ?_
  refine lx_move rfl rfl rfl ?_
  refine lx_bslV 13 [.bool (DGb k)] (hR (pl w) rfl hGF).2.1 rfl rfl rfl (by decide) (by decide) Tryd.underlying23 Tryd.sizeOf4 Tryd.zeroValue4 rfl rfl rfl ?_
  intro b13
  refine lx_appendV (xs := BLk k) (ys := [.bool (DGb k)]) 50 (hR (pl w) rfl hGF).2.1 rfl rfl Tryd.underlying23 Tryd.underlying23 ti4 rfl (hs2.skip 13 rfl) (fun w' h => hp_row (n := 13) rfl w' h) rfl (by simp) (by rw [BLk_len hkl]; show (k + 1) * 1 ≤ _; omega) (by rw [BLk_len hkl]; show k + 1 ≤ _; omega) rfl rfl (fun bA cA capA eA lA tA => ?_)
  subst eA
  rw [BLk_snoc hk1] at lA tA ⊢
  refine lx_store 3 (hR (pl w) rfl hGF).2.1 rfl rfl rfl Tryd.sizeOf23 rfl (by first | decide | simp) rfl ?_
  refine lx_nil ?_
  refine xs_plain (E := EE []) ?_
  refine lx_loadl 3 rfl rfl rfl Tryd.isAgg23 rfl rfl ?_
  refine lx_len (n := ((k + 1 : Nat) : Int)) rfl (fun _ => (len_slice Tryd.underlying23 _ _ _ _).trans (by rw [BLk_len hk1])) rfl rfl ?_
  refine lx_loadl 1 rfl rfl rfl Tryd.isAgg3 rfl rfl ?_
  refine lx_bin rfl rfl (fun _ => rfl) (fun _ => bin_geq_i _ _ _) rfl rfl ?_
  refine lx_nil ?_
  refine x_if rfl (fun hc => ?_) (fun hc => ?_)
  ·simp only [decide_eq_true_eq] at hc
   obtain rfl : k + 1 = m := by omega
   refine x_exit ?_
   exact ⟨_, rfl, rfl, hk1, ⟨some ⟨bA, 0, none⟩, _, [(50, bA, cA, 4)]⟩, .inr ⟨bA, cA, rfl, rfl, rfl, lA, tA⟩, rfl⟩
  ·simp only [decide_eq_false_iff_not] at hc
   refine x_skip ?_
   exact ⟨_, rfl, (k + 1, ⟨some ⟨bA, 0, none⟩, _, [(50, bA, cA, 4)]⟩), ⟨⟨rfl, hk1, by omega⟩, .inr ⟨bA, cA, rfl, rfl, rfl, lA, tA⟩⟩, ⟨rfl, rfl, rfl, trivial⟩⟩
 ·rintro D ⟨k', s⟩ ⟨⟨hkk, hkl, hkm⟩, hs2⟩ hD
  rw [DGs_len] at hkk hkm
  dsimp only at hkk hs2 ⊢
  subst hkk
  refine xs_plain (E := EE []) ?_
  refine lx_loadl 3 rfl rfl rfl Tryd.isAgg23 rfl rfl ?_
  refine lx_assign rfl rfl rfl ?_
  refine lx_nil ?_
  refine x_ret ?_
  repeat (first | refine kseq_ret ?_ | refine kblk_ret ?_)
  exact kretM_1 (.inl rfl) rides_true (kret_tmp rfl rfl (fun w' hw' => hfin hs2 (Nat.min_eq_right (Nat.le_of_lt hkm)).symm hw'))
 ·rintro D cd k L' hD ⟨rfl, hkl, s, hs2, hlL⟩
  refine xs_plain (E := EE []) ?_
  refine lx_loadl 3 rfl hlL rfl Tryd.isAgg23 rfl rfl ?_
  refine lx_assign rfl rfl rfl ?_
  refine lx_nil ?_
  refine x_ret ?_
  repeat (first | refine kseq_ret ?_ | refine kblk_ret ?_)
  exact kretM_1 (.inl rfl) rides_true (kret_tmp rfl rfl (fun w' hw' => hfin hs2 (Nat.min_eq_left hkl).symm hw'))
theorem cut_c {w : World} {b : Nat} {cap : Nat} {cs : List Value} (h : CellsAt w (some ⟨b, 0, none⟩) cs) : CellsAt w (if cap = 0 then some ⟨b, 0, none⟩ else (some ⟨b, 0, none⟩ : Option Addr).map (·.add (0 * 1))) cs := by
 split
 ·exact h
 ·exact h
theorem digits_law (z : Int) (w : World) (hw : Gt w) :
  Calls Tryd.prog 3 [I z].toArray w (fun r w' => r = .returned (.bool true) ∧ Grow w w') := by
 have hGF : BOk Gt (pl w) := gt_low.plain hw
 refine calls_of_X (G := Gt) Tryd.func3 rfl rfl (Hp (pl w) []) (hp_refl (pl w) trivial rides_true) (good_hp hGF) ?_
 refine xs_plain (E := EE [8, 5]) ?_
 refine lx_assign rfl rfl rfl ?_
 refine lx_nil ?_
 refine x_seq ?_
 refine xs_plain (E := EE [8, 5]) ?_
 refine lx_callB true rfl rfl ent4 (Q6.known11) (rfl) rfl rfl ?_
 refine lx_un rfl (fun _ => un_not _) rfl rfl ?_
 refine lx_nil ?_
 refine x_false rfl ?_
 refine x_skip ?_
 refine xs_plain (E := EE [8, 5]) ?_
 refine lx_callE rfl rfl ent5 rfl rfl (fun w' hw' => (r12digits w' (hGF.g _ _ _ hw')).mono fun e' w'' h => ?_)
 obtain ⟨bD, cD, capD, rfl, hcp, hg, hbD, hoD, hcD⟩ := h
 refine ⟨_, _, rfl, good_hp hGF, hw'.news rides_true hg [(50, bD, cD, 4)] ?_ inj_one, ?_⟩
 ·intro n' b' c' t' hl
  rcases lkB_cons hl with ⟨_, e⟩ | ⟨_, hl⟩
  ·cases e; exact ⟨hbD, hoD⟩
  ·cases hl
 clear hw' hg hbD hoD
 refine lx_assign rfl rfl rfl ?_
 refine lx_nil ?_
 refine xs_plain (E := EE [8, 5]) ?_
 refine lx_move rfl rfl rfl ?_
 refine lx_move rfl rfl rfl ?_
 refine lx_len (n := 63) rfl (fun _ => len_slice Tryd.underlying23 _ _ _ _) rfl rfl ?_
 refine lx_call rfl rfl ent6 (Q6.place_pure z 63 (by omega) (by unfold inI; omega)) rfl rfl ?_
 obtain ⟨q, hq, hq2⟩ : ∃ q : Nat, z % 63 = (q : Int) ∧ q < 63 := ⟨(z % 63).toNat, by omega, by omega⟩
 rw [hq]
 clear hq
 refine lx_assign rfl rfl rfl ?_
 refine lx_nil ?_
 refine xs_draws (E := EE [8, 5]) [0, 1, 3, 4, 5, 6, 2, 7, 8, 10, 9, 11, 12, 13] mixed rfl (by kernel_rfl) (by kernel_rfl) (by kernel_rfl) ?_
 refine lx_move rfl rfl rfl ?_
 refine lx_bin (v := I ((q + 1 : Nat) : Int)) rfl rfl (fun _ => rfl) (fun _ => (bin_add_i _ _ _ (by unfold inI; omega)).trans (by rfl)) rfl rfl ?_
 refine lx_move rfl rfl rfl ?_
 refine lx_move rfl rfl rfl ?_
 refine lx_bin (v := I ((q + 1 : Nat) : Int)) rfl rfl (fun _ => rfl) (fun _ => (bin_add_i _ _ _ (by unfold inI; omega)).trans (by rfl)) rfl rfl ?_
 refine lx_slsl (l := 0) (h' := q + 1) rfl Tryd.underlying23 Tryd.sizeOf4 rfl rfl ⟨Nat.zero_le _, by omega⟩ rfl rfl ?_
 rw [Nat.sub_zero, Nat.sub_zero]
 refine lx_callE rfl rfl ent8 rfl rfl (fun w' hw' => (walk_calls (q + 1) (by omega) (by omega) w' (hGF.g _ _ _ hw')).mono fun e w'' h => ?_)
 obtain ⟨a13, cap13, rfl, hg, hcl⟩ := h
 rw [Nat.min_eq_left (show q + 1 ≤ 63 by omega)] at hcl ⊢
 obtain ⟨A13, hA13, hc13, hf13⟩ := cln_news 60 hw' rides_true hg hcl rfl
 refine ⟨_, _, rfl, good_hp hGF, hA13, ?_⟩
 clear hw' hg hcl hA13
 refine lx_callC rfl rfl ent7 (fun w' hw' hG => bits_calls (q + 1) (by omega) _ _ _ _ _ _ (BLk_len (by omega)).symm rfl w' hG (hc13 _ w' hw') (cut_c (dig_cells (by rfl) hcD (by omega) w' hw'))) rfl rfl ?_
 refine lx_move rfl rfl rfl ?_
 refine lx_move rfl rfl rfl ?_
 refine lx_callE rfl rfl ent8 rfl rfl (fun w' hw' => (walk_calls 100 (by omega) (by omega) w' (hGF.g _ _ _ hw')).mono fun e w'' h => ?_)
 obtain ⟨a20, cap20, rfl, hg, hcl⟩ := h
 rw [show min 100 63 = 63 from rfl] at hcl ⊢
 obtain ⟨A20, hA20, hc20, hf20⟩ := cln_news 70 hw' rides_true hg hcl (by rw [lkB_append]; exact hf13 70 (by decide))
 refine ⟨_, _, rfl, good_hp hGF, hA20, ?_⟩
 clear hw' hg hcl hA20
 refine lx_callC rfl rfl ent7 (fun w' hw' hG => bits_calls 63 (by omega) _ _ _ _ _ _ (BLk_len (by omega)).symm rfl w' hG (hc20 _ w' hw') (dig_cells (by rfl) hcD (by omega) w' hw')) rfl rfl ?_
 refine lx_pick rfl rfl rfl rfl rfl ?_
 refine lx_assign rfl rfl rfl ?_
 refine lx_nil ?_
 refine x_ret ?_
 repeat (first | refine kseq_ret ?_ | refine kblk_ret ?_)
 exact kret_tmp rfl rfl (fun w hw => ⟨rfl, hp_below hw⟩)
end Go.Proofs.YthkmeodnlidpfaaDoor
