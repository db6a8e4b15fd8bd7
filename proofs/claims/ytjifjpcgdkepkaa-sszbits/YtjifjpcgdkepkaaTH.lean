/-
  The laws of chunks and of bits.
-/
import Derived.Test.YtjifjpcgdkepkaaTG
import Derived.Test.YtjifjpcgdkepkaaTM
namespace Go.Proofs.Ytjifjpcgdkepkaa
open Go.RowKit
set_option maxRecDepth 100000
set_option maxHeartbeats 1000000

theorem bits_g (bs : List (BitVec 8)) (a : Option Addr) (cap : Nat) (i : Int) (hl : 100 < bs.length) (w : World) (hw : Gt w) : Calls Try.prog 6 [.slice a bs.length cap, I i].toArray w (fun e w' => e = .returned (.bool true) ∧ Grow w w') := by
  have hGF : BOk Gt (pl w) := gt_low.plain hw
  refine calls_of_X (G := Gt) Try.func6 rfl rfl (Hp (pl w) []) (hp_refl (pl w) trivial rides_true) (good_hp hGF) ?_
  refine xs_plain (E := EE [29, 19, 25, 16]) ?_
  refine lx_assign rfl rfl rfl ?_
  refine lx_nil ?_
  refine x_seq ?_
  refine xs_plain (E := EE [29, 19, 25, 16]) ?_
  refine lx_callC rfl rfl ent8 (fun w1 _ hG => known17 w1 hG) rfl rfl ?_
  refine lx_un rfl (fun _ => un_not _) rfl rfl ?_
  refine lx_nil ?_
  refine x_false rfl ?_
  refine x_skip ?_
  refine x_seq ?_
  refine xs_plain (E := EE [29, 19, 25, 16]) ?_
  refine lx_move rfl rfl rfl ?_
  refine lx_len rfl (fun _ => len_slice Try.underlying28 _ _ _ _) rfl rfl ?_
  refine lx_binB true rfl rfl (fun _ => rfl) (fun _ => bin_gtr_i _ _ _) (by simp; omega) rfl rfl ?_
  refine lx_move rfl rfl rfl ?_
  refine lx_skip rfl rfl rfl ?_
  refine lx_skip rfl rfl rfl ?_
  refine lx_skip rfl rfl rfl ?_
  refine lx_pick rfl rfl rfl rfl rfl ?_
  refine lx_nil ?_
  refine x_true rfl ?_
  refine xs_plain (E := EE [29, 19, 25, 16]) ?_
  refine lx_assign rfl rfl rfl ?_
  refine lx_nil ?_
  refine x_ret ?_
  repeat (first | refine kseq_ret ?_ | refine kblk_ret ?_)
  exact kret_tmp rfl rfl (fun w' hw' => ⟨rfl, hp_below hw'⟩)
theorem bits_0 (bs : List (BitVec 8)) (a : Option Addr) (cap : Nat) (i : Int) (hl : bs.length = 0) (w : World) (hw : Gt w) : Calls Try.prog 6 [.slice a bs.length cap, I i].toArray w (fun e w' => e = .returned (.bool true) ∧ Grow w w') := by
  have hGF : BOk Gt (pl w) := gt_low.plain hw
  refine calls_of_X (G := Gt) Try.func6 rfl rfl (Hp (pl w) []) (hp_refl (pl w) trivial rides_true) (good_hp hGF) ?_
  refine xs_plain (E := EE [29, 19, 25, 16]) ?_
  refine lx_assign rfl rfl rfl ?_
  refine lx_nil ?_
  refine x_seq ?_
  refine xs_plain (E := EE [29, 19, 25, 16]) ?_
  refine lx_callC rfl rfl ent8 (fun w1 _ hG => known17 w1 hG) rfl rfl ?_
  refine lx_un rfl (fun _ => un_not _) rfl rfl ?_
  refine lx_nil ?_
  refine x_false rfl ?_
  refine x_skip ?_
  refine x_seq ?_
  refine xs_plain (E := EE [29, 19, 25, 16]) ?_
  refine lx_move rfl rfl rfl ?_
  refine lx_len rfl (fun _ => len_slice Try.underlying28 _ _ _ _) rfl rfl ?_
  refine lx_binB false rfl rfl (fun _ => rfl) (fun _ => bin_gtr_i _ _ _) (by simp; omega) rfl rfl ?_
  refine lx_move rfl rfl rfl ?_
  refine lx_move rfl rfl rfl ?_
  refine lx_len rfl (fun _ => len_slice Try.underlying28 _ _ _ _) rfl rfl ?_
  refine lx_binB true rfl rfl (fun _ => rfl) (fun _ => bin_eql_i _ _ _) (beq_iff_eq.2 (by omega)) rfl rfl ?_
  refine lx_pick rfl rfl rfl rfl rfl ?_
  refine lx_nil ?_
  refine x_true rfl ?_
  refine xs_plain (E := EE [29, 19, 25, 16]) ?_
  refine lx_assign rfl rfl rfl ?_
  refine lx_nil ?_
  refine x_ret ?_
  repeat (first | refine kseq_ret ?_ | refine kblk_ret ?_)
  exact kret_tmp rfl rfl (fun w' hw' => ⟨rfl, hp_below hw'⟩)
theorem bits_way (bs : List (BitVec 8)) (k : Nat) : k % 8 = 0 ∨ (k % 8 ≠ 0 ∧ bs.getD (szB k - 1) 0#8 >>> (k % 8) = 0#8) ∨ (k % 8 ≠ 0 ∧ ¬ bs.getD (szB k - 1) 0#8 >>> (k % 8) = 0#8) := by
  by_cases h : k % 8 = 0
  · exact .inl h
  · by_cases h2 : bs.getD (szB k - 1) 0#8 >>> (k % 8) = 0#8
    · exact .inr (.inl ⟨h, h2⟩)
    · exact .inr (.inr ⟨h, h2⟩)
theorem bits_s (bs : List (BitVec 8)) (a : Option Addr) (cap : Nat) (i : Int) (hl : ¬ 100 < bs.length) (h0 : ¬ bs.length = 0) (hc : bs.length ≤ cap) (w : World) (hw : Gt w) (hb : BytesAt w a bs) : Calls Try.prog 6 [.slice a bs.length cap, I i].toArray w (fun e w' => e = .returned (.bool true) ∧ Grow w w') := by
  have hGF : BOk Gt (pl w) := gt_low.plain hw
  refine calls_of_X (G := Gt) Try.func6 rfl rfl (Hp (pl w) []) (hp_refl (pl w) trivial rides_true) (good_hp hGF) ?_
  refine xs_plain (E := EE [29, 19, 25, 16]) ?_
  refine lx_assign rfl rfl rfl ?_
  refine lx_nil ?_
  refine x_seq ?_
  refine xs_plain (E := EE [29, 19, 25, 16]) ?_
  refine lx_callC rfl rfl ent8 (fun w1 _ hG => known17 w1 hG) rfl rfl ?_
  refine lx_un rfl (fun _ => un_not _) rfl rfl ?_
  refine lx_nil ?_
  refine x_false rfl ?_
  refine x_skip ?_
  refine x_seq ?_
  refine xs_plain (E := EE [29, 19, 25, 16]) ?_
  refine lx_move rfl rfl rfl ?_
  refine lx_len rfl (fun _ => len_slice Try.underlying28 _ _ _ _) rfl rfl ?_
  refine lx_binB false rfl rfl (fun _ => rfl) (fun _ => bin_gtr_i _ _ _) (by simp; omega) rfl rfl ?_
  refine lx_move rfl rfl rfl ?_
  refine lx_move rfl rfl rfl ?_
  refine lx_len rfl (fun _ => len_slice Try.underlying28 _ _ _ _) rfl rfl ?_
  refine lx_binB false rfl rfl (fun _ => rfl) (fun _ => bin_eql_i _ _ _) (beq_eq_false_iff_ne.2 (by omega)) rfl rfl ?_
  refine lx_pick rfl rfl rfl rfl rfl ?_
  refine lx_nil ?_
  refine x_false rfl ?_
  refine x_skip ?_
  refine xs_plain (E := EE [29, 19, 25, 16]) ?_
  refine lx_move rfl rfl rfl ?_
  refine lx_move rfl rfl rfl ?_
  refine lx_len rfl (fun _ => len_slice Try.underlying28 _ _ _ _) rfl rfl ?_
  refine lx_bin (v := I (((8 * bs.length : Nat) : Int))) rfl rfl (fun _ => rfl) (fun _ => (bin_mul_i _ _ _ (by unfold inI; omega)).trans (by rfl)) rfl rfl ?_
  refine lx_bin (v := I (((8 * bs.length + 1 : Nat) : Int))) rfl rfl (fun _ => rfl) (fun _ => (bin_add_i _ _ _ (by unfold inI; omega)).trans (by rfl)) rfl rfl ?_
  refine lx_callW gt_low (M := fun _ => False) (fun k h => h.elim) rfl rfl ent29 rfl rfl hGF (Q := fun w1 w2 v => ∃ k : Nat, v = I (k : Int) ∧ k < 8 * bs.length + 1) (fun w1 h1 g1 => (plc_calls i (8 * bs.length + 1) (by omega) (by omega) w1 g1).mono fun e w2 ⟨k, q1, q2, q3⟩ => ⟨_, q1, grow_mm q3, k, rfl, q2⟩) (fun w24a w24 v hg24 hm24 gg24 hq => ?_)
  have hGF := gt_low.plain gg24
  have hr24 := hg24.trans (hm24.grow (fun _ _ h => h))
  obtain ⟨k, rfl, hk⟩ := hq
  have hsz : szB k ≤ bs.length := by unfold szB; omega
  refine lx_assign rfl rfl rfl ?_
  refine lx_nil ?_
  refine xs_plain (E := EE [29, 19, 25, 16]) ?_
  refine lx_move rfl rfl rfl ?_
  refine lx_move rfl rfl rfl ?_
  refine lx_bin (v := I (((k + 7 : Nat) : Int))) rfl rfl (fun _ => rfl) (fun _ => (bin_add_i _ _ _ (by unfold inI; omega)).trans (by rfl)) rfl rfl ?_
  refine lx_bin (v := I (((szB k : Nat) : Int))) rfl rfl (fun _ => rfl) (fun _ => (bin_quo_i _ _ _ (by omega) (by unfold inI; rw [Int.tdiv_eq_ediv_of_nonneg (by omega)]; omega)).trans (by rw [Int.tdiv_eq_ediv_of_nonneg (by omega)]; rfl)) rfl rfl ?_
  refine lx_slsl (l := 0) (h' := szB k) rfl Try.underlying28 Try.sizeOf5 rfl rfl ⟨Nat.zero_le _, by omega⟩ rfl rfl ?_
  rw [cut0, Nat.sub_zero, Nat.sub_zero]
  refine lx_assign rfl rfl rfl ?_
  refine lx_nil ?_
  refine xs_plain (E := EE [29, 19, 25, 16]) ?_
  refine lx_move rfl rfl rfl ?_
  refine lx_callW gt_low (M := fun _ => False) (fun k h => h.elim) rfl rfl ent19 rfl rfl hGF (Q := fun w1 w2 v => ∃ b, v = .pointer (some ⟨b, 0, none⟩) ∧ w1.heap.size ≤ b ∧ RdAt 67 (fun k => w1.heap.size ≤ k ∧ k < w2.heap.size) w2 b (bs.take (szB k)) 0) (fun w1 h1 g1 => nrB (bs.take (szB k)) a (szB k) cap (by rw [List.length_take]; omega) (by omega) w1 g1 ((hb.grow (hr24.trans h1)).take _)) (fun w31a w31 v hg31 hm31 gg31 hq => ?_)
  have hGF := gt_low.plain gg31
  have hr31 := hg31.trans (hm31.grow (fun _ _ h => h))
  obtain ⟨br, rfl, hbr, hrd⟩ := hq
  refine lx_assign rfl rfl rfl ?_
  refine lx_nil ?_
  refine xs_plain (E := EE [29, 19, 25, 16]) ?_
  refine lx_move rfl rfl rfl ?_
  refine lx_move rfl rfl rfl ?_
  rcases bits_way bs k with h8 | ⟨h8, h9⟩ | ⟨h8, h9⟩
  · skip
    have hcl : cleanB (bs.take (szB k)) k = true := by exact clean_f h8
    refine lx_callW gt_low (M := fun k => k = br) (fun k h => Nat.zero_le _) rfl rfl ent25 rfl rfl hGF (Q := fun w1 w2 v => FrB w1 w2 v (gotB (bs.take (szB k)) 0 k) ∧ RdAt 67 (fun k => w31a.heap.size ≤ k ∧ k < w31.heap.size) w2 br (lftB (bs.take (szB k)) 0 k) (errB (bs.take (szB k)) 0 k)) (fun w1 h1 g1 => rt_calls _ br (bs.take (szB k)) 0 (k : Int) (by omega) (by rw [List.length_take]; omega) w1 g1 (Nat.zero_le _) (hrd.grow h1)) (fun w34a w34 v hg34 hm34 gg34 hq => ?_)
    have hGF := gt_low.plain gg34
    have hr34 : Grow w31a w34 := hm34.grow0 ((hm31.grow (fun _ _ h => h)).trans hg34) (fun k hk => hk ▸ hbr)
    obtain ⟨⟨a3, c3, rfl, hs3, hn3⟩, hrd⟩ := hq
    have hZ : Grow w w34 := hr24.trans (hg31.trans hr34)
    have e0 : (bs.take (szB k)).length = szB k := by rw [List.length_take]; omega
    have e1 : (bs.take (szB k)).take (szB k) = (bs.take (szB k)) := List.take_of_length_le (by omega)
    have e2 : gotB (bs.take (szB k)) 0 k = bt (bs.take (szB k)) k := by simp [gotB, e0, e1, hcl]
    have e3 : errB (bs.take (szB k)) 0 k = 0 := by simp [errB, e0, e1, hcl]
    have e4 : lftB (bs.take (szB k)) 0 k = [] := by simp [lftB, e0, e1, hcl]
    rw [e3, e4] at hrd
    rw [e2] at hs3 ⊢
    refine lx_assign rfl rfl rfl ?_
    refine lx_nil ?_
    refine xs_plain (E := EE [29, 19, 25, 16]) ?_
    refine lx_move rfl rfl rfl ?_
    refine lx_callC rfl rfl ent28 (fun w1 hC hG => en_calls w1 hG (hrd.grow (hp_below hC))) rfl rfl ?_
    rw [show endE [] 0 = 0 from rfl]
    refine lx_assign rfl rfl rfl ?_
    refine lx_nil ?_
    refine xs_plain (E := EE [29, 19, 25, 16]) ?_
    refine lx_move rfl rfl rfl ?_
    refine lx_bin (v := I (((k % 8 : Nat) : Int))) rfl rfl (fun _ => rfl) (fun _ => (bin_rem_i _ _ _ (by omega)).trans (by rw [Int.tmod_eq_emod_of_nonneg (by omega)]; rfl)) rfl rfl ?_
    refine lx_binB true rfl rfl (fun _ => rfl) (fun _ => bin_eql_i _ _ _) (beq_iff_eq.2 (by omega)) rfl rfl ?_
    refine lx_move rfl rfl rfl ?_
    refine lx_skip rfl rfl rfl ?_
    refine lx_skip rfl rfl rfl ?_
    refine lx_skip rfl rfl rfl ?_
    refine lx_skip rfl rfl rfl ?_
    refine lx_skip rfl rfl rfl ?_
    refine lx_skip rfl rfl rfl ?_
    refine lx_skip rfl rfl rfl ?_
    refine lx_skip rfl rfl rfl ?_
    refine lx_skip rfl rfl rfl ?_
    refine lx_skip rfl rfl rfl ?_
    refine lx_pick rfl rfl rfl rfl rfl ?_
    refine lx_assign rfl rfl rfl ?_
    refine lx_nil ?_
    refine x_seq ?_
    refine xs_plain (E := EE [29, 19, 25, 16]) ?_
    refine lx_move rfl rfl rfl ?_
    refine lx_un rfl (fun _ => un_not _) rfl rfl ?_
    refine lx_nil ?_
    refine x_false rfl ?_
    refine x_skip ?_
    refine xs_plain (E := EE [29, 19, 25, 16]) ?_
    refine lx_move rfl rfl rfl ?_
    refine lx_binB true rfl rfl (fun _ => rfl) (fun _ => bin_eql_i _ _ _) (by rfl) rfl rfl ?_
    refine lx_move rfl rfl rfl ?_
    refine lx_move rfl rfl rfl ?_
    refine lx_callW gt_low (M := fun _ => False) (fun k h => h.elim) rfl rfl ent16 rfl rfl hGF (Q := fun w1 w2 v => Fr8 w1 w2 v (bs.take (szB k))) (fun w1 h1 g1 => by have := rbi_calls (bt (bs.take (szB k)) k) a3 c3 (by rw [bt_len]; omega) w1 g1 ((hs3.cells).grow h1); rw [pb_bt' e0 hcl] at this; exact this.mono fun e w2 ⟨v, q1, q2, q3⟩ => ⟨v, q1, grow_mm q2, q3⟩) (fun w65a w65 v hg65 hm65 gg65 hq => ?_)
    have hGF := gt_low.plain gg65
    have hr65 := hg65.trans (hm65.grow (fun _ _ h => h))
    obtain ⟨a5, c5, rfl, hs5, _⟩ := hq
    refine lx_move rfl rfl rfl ?_
    refine lx_callC rfl rfl ent18 (fun w1 hC hG => byt_calls (bs.take (szB k)) a5 (bs.take (szB k)).length c5 a (szB k) cap rfl e0 w1 hG (hs5.grow (hp_below hC)).bytes ((hb.grow (hZ.trans (hr65.trans (hp_below hC)))).take _)) rfl rfl ?_
    refine lx_pick rfl rfl rfl rfl rfl ?_
    refine lx_assign rfl rfl rfl ?_
    refine lx_nil ?_
    refine x_ret ?_
    repeat (first | refine kseq_ret ?_ | refine kblk_ret ?_)
    exact kret_tmp rfl rfl (fun w' hw' => ⟨rfl, hZ.trans (hr65.trans (hp_below hw'))⟩)
  · skip
    have hcl : cleanB (bs.take (szB k)) k = true := by rw [clean_t h8]; simpa using h9
    have hk1 : szB k - 1 < bs.length := by unfold szB at hsz ⊢; omega
    have hk0 : 0 < szB k := by unfold szB; omega
    obtain ⟨ad, rfl, hcell⟩ := at8 hb hk1
    refine lx_callW gt_low (M := fun k => k = br) (fun k h => Nat.zero_le _) rfl rfl ent25 rfl rfl hGF (Q := fun w1 w2 v => FrB w1 w2 v (gotB (bs.take (szB k)) 0 k) ∧ RdAt 67 (fun k => w31a.heap.size ≤ k ∧ k < w31.heap.size) w2 br (lftB (bs.take (szB k)) 0 k) (errB (bs.take (szB k)) 0 k)) (fun w1 h1 g1 => rt_calls _ br (bs.take (szB k)) 0 (k : Int) (by omega) (by rw [List.length_take]; omega) w1 g1 (Nat.zero_le _) (hrd.grow h1)) (fun w34a w34 v hg34 hm34 gg34 hq => ?_)
    have hGF := gt_low.plain gg34
    have hr34 : Grow w31a w34 := hm34.grow0 ((hm31.grow (fun _ _ h => h)).trans hg34) (fun k hk => hk ▸ hbr)
    obtain ⟨⟨a3, c3, rfl, hs3, hn3⟩, hrd⟩ := hq
    have hZ : Grow w w34 := hr24.trans (hg31.trans hr34)
    have e0 : (bs.take (szB k)).length = szB k := by rw [List.length_take]; omega
    have e1 : (bs.take (szB k)).take (szB k) = (bs.take (szB k)) := List.take_of_length_le (by omega)
    have e2 : gotB (bs.take (szB k)) 0 k = bt (bs.take (szB k)) k := by simp [gotB, e0, e1, hcl]
    have e3 : errB (bs.take (szB k)) 0 k = 0 := by simp [errB, e0, e1, hcl]
    have e4 : lftB (bs.take (szB k)) 0 k = [] := by simp [lftB, e0, e1, hcl]
    rw [e3, e4] at hrd
    rw [e2] at hs3 ⊢
    refine lx_assign rfl rfl rfl ?_
    refine lx_nil ?_
    refine xs_plain (E := EE [29, 19, 25, 16]) ?_
    refine lx_move rfl rfl rfl ?_
    refine lx_callC rfl rfl ent28 (fun w1 hC hG => en_calls w1 hG (hrd.grow (hp_below hC))) rfl rfl ?_
    rw [show endE [] 0 = 0 from rfl]
    refine lx_assign rfl rfl rfl ?_
    refine lx_nil ?_
    refine xs_plain (E := EE [29, 19, 25, 16]) ?_
    refine lx_move rfl rfl rfl ?_
    refine lx_bin (v := I (((k % 8 : Nat) : Int))) rfl rfl (fun _ => rfl) (fun _ => (bin_rem_i _ _ _ (by omega)).trans (by rw [Int.tmod_eq_emod_of_nonneg (by omega)]; rfl)) rfl rfl ?_
    refine lx_binB false rfl rfl (fun _ => rfl) (fun _ => bin_eql_i _ _ _) (beq_eq_false_iff_ne.2 (by omega)) rfl rfl ?_
    refine lx_move rfl rfl rfl ?_
    refine lx_move rfl rfl rfl ?_
    refine lx_move rfl rfl rfl ?_
    refine lx_len rfl (fun _ => len_slice Try.underlying28 _ _ _ _) rfl rfl ?_
    refine lx_bin (v := I (((szB k - 1 : Nat) : Int))) rfl rfl (fun _ => rfl) (fun _ => (bin_sub_i _ _ _ (by unfold inI; omega)).trans (by congr 2; omega)) rfl rfl ?_
    refine lx_isA (szB k - 1) rfl rfl Try.underlying28 Try.sizeOf5 rfl (by omega) rfl rfl ?_
    refine lx_load rfl Try.isAgg5 (fun w' h => ((hZ.trans (hp_below h)).cell (block_lt_of_cell hcell)).trans hcell) rfl rfl ?_
    refine lx_move rfl rfl rfl ?_
    refine lx_bin (v := I (((k % 8 : Nat) : Int))) rfl rfl (fun _ => rfl) (fun _ => (bin_rem_i _ _ _ (by omega)).trans (by rw [Int.tmod_eq_emod_of_nonneg (by omega)]; rfl)) rfl rfl ?_
    refine lx_bin (v := U8 (bs.getD (szB k - 1) 0#8 >>> (k % 8))) rfl rfl (fun _ => rfl) (fun _ => bin_shr_i_u8 _ _ _ (by omega)) rfl rfl ?_
    refine lx_binB true rfl rfl (fun _ => rfl) (fun _ => bin_eql_u8 _ _ _) (by simpa using h9) rfl rfl ?_
    refine lx_pick rfl rfl rfl rfl rfl ?_
    refine lx_assign rfl rfl rfl ?_
    refine lx_nil ?_
    refine x_seq ?_
    refine xs_plain (E := EE [29, 19, 25, 16]) ?_
    refine lx_move rfl rfl rfl ?_
    refine lx_un rfl (fun _ => un_not _) rfl rfl ?_
    refine lx_nil ?_
    refine x_false rfl ?_
    refine x_skip ?_
    refine xs_plain (E := EE [29, 19, 25, 16]) ?_
    refine lx_move rfl rfl rfl ?_
    refine lx_binB true rfl rfl (fun _ => rfl) (fun _ => bin_eql_i _ _ _) (by rfl) rfl rfl ?_
    refine lx_move rfl rfl rfl ?_
    refine lx_move rfl rfl rfl ?_
    refine lx_callW gt_low (M := fun _ => False) (fun k h => h.elim) rfl rfl ent16 rfl rfl hGF (Q := fun w1 w2 v => Fr8 w1 w2 v (bs.take (szB k))) (fun w1 h1 g1 => by have := rbi_calls (bt (bs.take (szB k)) k) a3 c3 (by rw [bt_len]; omega) w1 g1 ((hs3.cells).grow h1); rw [pb_bt' e0 hcl] at this; exact this.mono fun e w2 ⟨v, q1, q2, q3⟩ => ⟨v, q1, grow_mm q2, q3⟩) (fun w65a w65 v hg65 hm65 gg65 hq => ?_)
    have hGF := gt_low.plain gg65
    have hr65 := hg65.trans (hm65.grow (fun _ _ h => h))
    obtain ⟨a5, c5, rfl, hs5, _⟩ := hq
    refine lx_move rfl rfl rfl ?_
    refine lx_callC rfl rfl ent18 (fun w1 hC hG => byt_calls (bs.take (szB k)) a5 (bs.take (szB k)).length c5 (some ad) (szB k) cap rfl e0 w1 hG (hs5.grow (hp_below hC)).bytes ((hb.grow (hZ.trans (hr65.trans (hp_below hC)))).take _)) rfl rfl ?_
    refine lx_pick rfl rfl rfl rfl rfl ?_
    refine lx_assign rfl rfl rfl ?_
    refine lx_nil ?_
    refine x_ret ?_
    repeat (first | refine kseq_ret ?_ | refine kblk_ret ?_)
    exact kret_tmp rfl rfl (fun w' hw' => ⟨rfl, hZ.trans (hr65.trans (hp_below hw'))⟩)
  · skip
    have hcl : cleanB (bs.take (szB k)) k = false := by rw [clean_t h8]; simpa using h9
    have hk1 : szB k - 1 < bs.length := by unfold szB at hsz ⊢; omega
    have hk0 : 0 < szB k := by unfold szB; omega
    obtain ⟨ad, rfl, hcell⟩ := at8 hb hk1
    refine lx_callW gt_low (M := fun k => k = br) (fun k h => Nat.zero_le _) rfl rfl ent25 rfl rfl hGF (Q := fun w1 w2 v => FrB w1 w2 v (gotB (bs.take (szB k)) 0 k) ∧ RdAt 67 (fun k => w31a.heap.size ≤ k ∧ k < w31.heap.size) w2 br (lftB (bs.take (szB k)) 0 k) (errB (bs.take (szB k)) 0 k)) (fun w1 h1 g1 => rt_calls _ br (bs.take (szB k)) 0 (k : Int) (by omega) (by rw [List.length_take]; omega) w1 g1 (Nat.zero_le _) (hrd.grow h1)) (fun w34a w34 v hg34 hm34 gg34 hq => ?_)
    have hGF := gt_low.plain gg34
    have hr34 : Grow w31a w34 := hm34.grow0 ((hm31.grow (fun _ _ h => h)).trans hg34) (fun k hk => hk ▸ hbr)
    obtain ⟨⟨a3, c3, rfl, hs3, hn3⟩, hrd⟩ := hq
    have hZ : Grow w w34 := hr24.trans (hg31.trans hr34)
    have e0 : (bs.take (szB k)).length = szB k := by rw [List.length_take]; omega
    have e1 : (bs.take (szB k)).take (szB k) = (bs.take (szB k)) := List.take_of_length_le (by omega)
    have e2 : gotB (bs.take (szB k)) 0 k = [] := by simp [gotB, e1, hcl]
    have e3 : errB (bs.take (szB k)) 0 k = 171 := by simp [errB, e0, e1, hcl]
    have e4 : endE (lftB (bs.take (szB k)) 0 k) 171 = 171 := by simp [endE]
    rw [e3] at hrd
    rw [e2]
    refine lx_assign rfl rfl rfl ?_
    refine lx_nil ?_
    refine xs_plain (E := EE [29, 19, 25, 16]) ?_
    refine lx_move rfl rfl rfl ?_
    refine lx_callC rfl rfl ent28 (fun w1 hC hG => en_calls w1 hG (hrd.grow (hp_below hC))) rfl rfl ?_
    rw [e4]
    refine lx_assign rfl rfl rfl ?_
    refine lx_nil ?_
    refine xs_plain (E := EE [29, 19, 25, 16]) ?_
    refine lx_move rfl rfl rfl ?_
    refine lx_bin (v := I (((k % 8 : Nat) : Int))) rfl rfl (fun _ => rfl) (fun _ => (bin_rem_i _ _ _ (by omega)).trans (by rw [Int.tmod_eq_emod_of_nonneg (by omega)]; rfl)) rfl rfl ?_
    refine lx_binB false rfl rfl (fun _ => rfl) (fun _ => bin_eql_i _ _ _) (beq_eq_false_iff_ne.2 (by omega)) rfl rfl ?_
    refine lx_move rfl rfl rfl ?_
    refine lx_move rfl rfl rfl ?_
    refine lx_move rfl rfl rfl ?_
    refine lx_len rfl (fun _ => len_slice Try.underlying28 _ _ _ _) rfl rfl ?_
    refine lx_bin (v := I (((szB k - 1 : Nat) : Int))) rfl rfl (fun _ => rfl) (fun _ => (bin_sub_i _ _ _ (by unfold inI; omega)).trans (by congr 2; omega)) rfl rfl ?_
    refine lx_isA (szB k - 1) rfl rfl Try.underlying28 Try.sizeOf5 rfl (by omega) rfl rfl ?_
    refine lx_load rfl Try.isAgg5 (fun w' h => ((hZ.trans (hp_below h)).cell (block_lt_of_cell hcell)).trans hcell) rfl rfl ?_
    refine lx_move rfl rfl rfl ?_
    refine lx_bin (v := I (((k % 8 : Nat) : Int))) rfl rfl (fun _ => rfl) (fun _ => (bin_rem_i _ _ _ (by omega)).trans (by rw [Int.tmod_eq_emod_of_nonneg (by omega)]; rfl)) rfl rfl ?_
    refine lx_bin (v := U8 (bs.getD (szB k - 1) 0#8 >>> (k % 8))) rfl rfl (fun _ => rfl) (fun _ => bin_shr_i_u8 _ _ _ (by omega)) rfl rfl ?_
    refine lx_binB false rfl rfl (fun _ => rfl) (fun _ => bin_eql_u8 _ _ _) (by simpa using h9) rfl rfl ?_
    refine lx_pick rfl rfl rfl rfl rfl ?_
    refine lx_assign rfl rfl rfl ?_
    refine lx_nil ?_
    refine x_seq ?_
    refine xs_plain (E := EE [29, 19, 25, 16]) ?_
    refine lx_move rfl rfl rfl ?_
    refine lx_un rfl (fun _ => un_not _) rfl rfl ?_
    refine lx_nil ?_
    refine x_true rfl ?_
    refine xs_plain (E := EE [29, 19, 25, 16]) ?_
    refine lx_move rfl rfl rfl ?_
    refine lx_binB true rfl rfl (fun _ => rfl) (fun _ => bin_eql_i _ _ _) (by rfl) rfl rfl ?_
    refine lx_move rfl rfl rfl ?_
    refine lx_move rfl rfl rfl ?_
    refine lx_len rfl (fun _ => len_slice Try.underlying30 _ _ _ _) rfl rfl ?_
    refine lx_binB true rfl rfl (fun _ => rfl) (fun _ => bin_eql_i _ _ _) (by rfl) rfl rfl ?_
    refine lx_pick rfl rfl rfl rfl rfl ?_
    refine lx_assign rfl rfl rfl ?_
    refine lx_nil ?_
    refine x_ret ?_
    repeat (first | refine kseq_ret ?_ | refine kblk_ret ?_)
    exact kret_tmp rfl rfl (fun w' hw' => ⟨rfl, hZ.trans (hp_below hw')⟩)
theorem bits_law (a : Option Addr) (cap : Nat) (bs : List (BitVec 8)) (i : Int) (hc : bs.length ≤ cap) (w : World) (hw : Gt w) (hb : BytesAt w a bs) : Calls Try.prog 6 [.slice a bs.length cap, I i].toArray w (fun e w' => e = .returned (.bool true) ∧ Grow w w') := by
  by_cases hl : 100 < bs.length
  · exact bits_g bs a cap i hl w hw
  · by_cases h0 : bs.length = 0
    · exact bits_0 bs a cap i h0 w hw
    · exact bits_s bs a cap i hl h0 hc w hw hb
end Go.Proofs.Ytjifjpcgdkepkaa
