/-
  The law of steps.
-/
import Derived.Test.YtfnnbaoilldpaaaDoorTG
import Derived.Test.YtfnnbaoilldpaaaDoorUF
import Derived.Test.YtfnnbaoilldpaaaDoorX2
namespace Go.Proofs.YtfnnbaoilldpaaaDoor
open Go.RowKit
set_option maxRecDepth 100000
set_option maxHeartbeats 1000000
open Sh
theorem ent25 : Enters Tryd.prog 25 := fun _ _ => by kernel_rfl
theorem ent26 : Enters Tryd.prog 26 := fun _ _ => by kernel_rfl
theorem ti4 : TI Tryd.prog 4 (.bool false) 1 1 := ti_mk (by kernel_rfl)
/-- The first bits. -/
def BLv (x : BitVec 64) (k : Nat) : List Value := (List.range k).map fun i => Value.bool (x.toNat.testBit i)
theorem BLv_len (x : BitVec 64) (k : Nat) : (BLv x k).length = k := by rw [BLv, List.length_map, List.length_range]
theorem BLv_get {x : BitVec 64} {k i : Nat} (h : i < k) : (BLv x k)[i]? = some (.bool (x.toNat.testBit i)) := by rw [BLv, List.getElem?_map, List.getElem?_range h]; rfl
theorem BLv_snoc (x : BitVec 64) (k : Nat) : BLv x k ++ [.bool (x.toNat.testBit k)] = BLv x (k + 1) := by rw [BLv, BLv, List.range_succ, List.map_append]; rfl
theorem BLv_take (x : BitVec 64) {k n : Nat} (h : k ≤ n) : (BLv x n).take k = BLv x k := by rw [BLv, ← List.map_take, List.take_range, Nat.min_eq_left h]; rfl
theorem cut1 (a : Option Addr) (m : Nat) : (if m = 0 then a else a.map (·.add (0 * 1))) = a := by
  split
  · rfl
  · cases a <;> simp [Addr.add]
structure WkV where
  (a0 : Option Addr) (cap : Nat) (own : Hl)
theorem bits_calls (x : BitVec 64) (k : Nat) (hk : k ≤ 100) (a1 : Option Addr) (cap1 : Nat) (a2 : Option Addr) (cap2 : Nat) (w : World) (hw : Gt w) (h1 : CellsAt w a1 (BLv x k)) (h2 : CellsAt w a2 (BLv x k)) : Calls Tryd.prog 26 [.slice a1 k cap1, .slice a2 k cap2].toArray w (fun e w' => e = .returned (.bool true) ∧ Grow w w') := by
  have hGF : BOk Gt (pl w) := gt_low.plain hw
  refine calls_of_X (G := Gt) Tryd.func26 rfl rfl (Hp (pl w) []) (hp_refl (pl w) trivial rides_true) (good_hp hGF) ?_
  refine xs_plain (E := EE []) ?_
  refine lx_assign rfl rfl rfl ?_
  refine lx_nil ?_
  refine x_seq ?_
  refine xs_plain (E := EE []) ?_
  refine lx_move rfl rfl rfl ?_
  refine lx_len rfl (fun _ => len_slice Tryd.underlying46 _ _ _ _) rfl rfl ?_
  refine lx_move rfl rfl rfl ?_
  refine lx_len rfl (fun _ => len_slice Tryd.underlying46 _ _ _ _) rfl rfl ?_
  refine lx_binB false rfl rfl (fun _ => rfl) (fun _ => bin_neq_i _ _ _) (bne_self_eq_false _) rfl rfl ?_
  refine lx_nil ?_
  refine x_false rfl ?_
  refine x_skip ?_
  refine x_seq ?_
  refine xs_plain (E := EE []) ?_
  refine lx_assign rfl rfl rfl ?_
  refine lx_nil ?_
  refine x_block ?_
  refine x_for (ι := { i : Nat // i ≤ k }) (fun y => [(0, .slice a1 k cap1), (1, .slice a2 k cap2), (5, I (y.1 : Int))]) (fun y => []) (fun y => k - y.1) ⟨0, Nat.zero_le _⟩ hGF ⟨rfl, rfl, rfl, trivial⟩ trivial ?_
  rintro ⟨i, hi⟩
  dsimp only
  refine x_seq ?_
  refine xs_plain (E := EE []) ?_
  refine lx_move rfl rfl rfl ?_
  refine lx_move rfl rfl rfl ?_
  refine lx_len rfl (fun _ => len_slice Tryd.underlying46 _ _ _ _) rfl rfl ?_
  rcases Nat.lt_or_ge i k with hlt | hge
  · skip
    obtain ⟨ad1, rfl, _⟩ := h1 i _ (BLv_get hlt)
    obtain ⟨ad2, rfl, _⟩ := h2 i _ (BLv_get hlt)
    refine lx_binB true rfl rfl (fun _ => rfl) (fun _ => bin_lss_i _ _ _) (by simp; omega) rfl rfl ?_
    refine lx_nil ?_
    refine x_true rfl ?_
    refine x_skip ?_
    refine x_seq ?_
    refine x_block ?_
    refine xs_drawn (E := EE []) mixed (by kernel_rfl) (by kernel_rfl) (by kernel_rfl) ?_
    refine lx_move rfl rfl rfl ?_
    refine lx_move rfl rfl rfl ?_
    refine lx_isA i rfl rfl Tryd.underlying46 Tryd.sizeOf4 rfl (by omega) rfl rfl ?_
    refine lx_load (v := .bool (x.toNat.testBit i)) rfl Tryd.isAgg4 (fun w' h => by obtain ⟨ad', e, hc⟩ := (h1.grow (hp_below h)) i _ (BLv_get hlt); cases e; exact hc) rfl rfl ?_
    refine lx_move rfl rfl rfl ?_
    refine lx_move rfl rfl rfl ?_
    refine lx_isA i rfl rfl Tryd.underlying46 Tryd.sizeOf4 rfl (by omega) rfl rfl ?_
    refine lx_load (v := .bool (x.toNat.testBit i)) rfl Tryd.isAgg4 (fun w' h => by obtain ⟨ad', e, hc⟩ := (h2.grow (hp_below h)) i _ (BLv_get hlt); cases e; exact hc) rfl rfl ?_
    refine lx_binB false rfl rfl (fun _ => rfl) (fun w => bin_neq_bool 4 Tryd.underlying4 _ _ w) (bne_self_eq_false _) rfl rfl ?_
    refine lx_nil ?_
    refine x_false rfl ?_
    refine x_skip ?_
    refine x_plain (E := EE []) ?_
    refine lx_move rfl rfl rfl ?_
    refine lx_bin (v := I (((i + 1 : Nat) : Int))) rfl rfl (fun _ => rfl) (fun _ => (bin_add_i _ _ _ (by unfold inI; omega)).trans (by rfl)) rfl rfl ?_
    refine lx_assign rfl rfl rfl ?_
    refine lx_nil ?_
    repeat (refine kblk_n ?_)
    refine kseq_n ?_
    exact ⟨rfl, ⟨i + 1, hlt⟩, _, by show k - (i + 1) < k - i; omega, rfl, ⟨rfl, rfl, rfl, trivial⟩, trivial⟩
  · skip
    refine lx_binB false rfl rfl (fun _ => rfl) (fun _ => bin_lss_i _ _ _) (by rw [decide_eq_false_iff_not]; omega) rfl rfl ?_
    refine lx_nil ?_
    refine x_false rfl ?_
    refine x_exit ?_
    refine xs_plain (E := EE []) ?_
    refine lx_assign rfl rfl rfl ?_
    refine lx_nil ?_
    refine x_ret ?_
    repeat (first | refine kseq_ret ?_ | refine kblk_ret ?_)
    exact kret_tmp rfl rfl (fun w' hw' => ⟨rfl, hp_below hw'⟩)
theorem OwnV.skips {n : Nat} {e : TypeId} {a0 : Option Addr} {cap : Nat} {xs : List Value} {L L' : Hl} (h : OwnV L n e a0 cap xs) (hL : lkB L' n = lkB L n := by rfl) : OwnV L' n e a0 cap xs := by
  rcases h with h | ⟨b, c, h1, h2, h3⟩
  · exact .inl h
  · exact .inr ⟨b, c, h1, hL.trans h2, h3⟩
theorem walk_calls (x : BitVec 64) (d : Int) (m : Nat) (hm : m ≤ 100) (w : World) (hw : Gt w) :
    Calls Tryd.prog 25 [U64 x, I d, I (m : Int)].toArray w (fun e w' => ∃ a0 cap, e = .returned (.tuple #[.slice a0 (BLv x (min m (min d.toNat 64))).length cap, .bool true]) ∧ Grow w w' ∧ ClnV 4 w w' (BLv x (min m (min d.toNat 64))) a0 cap) := by
  have hGF : BOk Gt (pl w) := gt_low.plain hw
  have hfin : ∀ {L : Hl} {a0 : Option Addr} {cap : Nat} {k : Nat} {w' : World}, OwnV L 50 4 a0 cap (BLv x k) → k = min m (min d.toNat 64) → Hp (pl w) L w' → ∃ a1 cap1, Ending.returned (.tuple #[.slice a0 (BLv x k).length cap, .bool true]) = .returned (.tuple #[.slice a1 (BLv x (min m (min d.toNat 64))).length cap1, .bool true]) ∧ Grow w w' ∧ ClnV 4 w w' (BLv x (min m (min d.toNat 64))) a1 cap1 := fun {L a0 cap k w'} h e hp => by
    rw [← e]
    exact ⟨a0, cap, rfl, hp_below hp, h.cln hp⟩
  refine calls_of_XM (G := Gt) Tryd.func25 rfl rfl (Hp (pl w) []) (hp_refl (pl w) trivial rides_true) (good_hp hGF) ?_
  refine xs_plain (E := EE [34]) ?_
  refine lx_box 5 hGF rfl rfl rfl ?_
  intro b5
  refine lx_assign rfl rfl rfl ?_
  refine lx_assign rfl rfl rfl ?_
  refine lx_nil ?_
  refine xs_plain (E := EE [34]) ?_
  refine lx_alloc 8 hGF Tryd.zeroValue46 rfl rfl ?_
  intro b8
  refine lx_nil ?_
  refine xs_plain (E := EE [34]) ?_
  refine lx_alloc 9 hGF Tryd.zeroValue4 rfl rfl ?_
  intro b9
  refine lx_store 9 hGF rfl rfl rfl Tryd.sizeOf4 rfl (by first | exact Nat.zero_lt_one | simp) rfl ?_
  refine lx_nil ?_
  refine xs_plain (E := EE [34]) ?_
  refine lx_move rfl rfl rfl ?_
  refine lx_move rfl rfl rfl ?_
  refine lx_callE rfl rfl ent34 rfl rfl (fun w1 hC => (Steps_calls x d w1 (hGF.g _ _ _ hC)).mono fun e1 w2 h => ?_)
  obtain ⟨bc, bi, rfl, hg, h1, h2, hne, hs⟩ := h
  refine ⟨_, _, rfl, good_hp hGF, hC.news rides_true hg [(101, bc, _, 3), (102, bi, _, 37)] (row2 h1 h2 hs.c hs.i) (inj_two hne), ?_⟩
  clear hC hg h1 h2 hs hne
  refine lx_assign rfl rfl rfl ?_
  refine lx_nil ?_
  refine x_seq ?_
  refine xs_plain (E := EE [34]) ?_
  refine lx_move rfl rfl rfl ?_
  refine lx_bin (v := .bool false) rfl rfl (fun _ => rfl) (fun w => bin_eq_fn Tryd.underlying59 _ _ _ w) rfl rfl ?_
  refine lx_nil ?_
  refine x_false rfl ?_
  refine x_skip ?_
  refine x_seq ?_
  refine xs_plain (E := EE [34]) ?_
  refine lx_move rfl rfl rfl ?_
  refine lx_nil ?_
  refine x_block ?_
  refine x_rangeS (ι := Nat × WkV) (fun _ => pl w) (fun _ _ => pl w) (fun _ => hGF) (fun _ _ => hGF) (fun _ => rfl) (fun _ _ => rfl) rfl rfl ent42 (steps_seq bc bi (min d.toNat 64) (by omega) x) (fun v hv => by obtain ⟨k, hk, rfl⟩ := List.mem_map.1 hv; rfl) rfl (fun k y => (k = y.1 ∧ k ≤ (min d.toNat 64) ∧ k ≤ m) ∧ OwnV y.2.own 50 4 y.2.a0 y.2.cap (BLv x y.1)) (fun y => (5, b5, [I (m : Int)], 3) :: (8, b8, [.slice y.2.a0 (BLv x y.1).length y.2.cap], 46) :: (9, b9, [.bool true], 4) :: (101, bc, [I ((min d.toNat 64) : Nat)], 3) :: (102, bi, [U64 x], 37) :: y.2.own) (fun cd _ L' => cd = .exit 0 ∧ m ≤ (min d.toNat 64) ∧ ∃ s : WkV, OwnV L' 50 4 s.a0 s.cap (BLv x m) ∧ lkB L' 8 = some (b8, [.slice s.a0 (BLv x m).length s.cap], 46) ∧ lkB L' 9 = some (b9, [.bool true], 4)) (0, ⟨none, 0, []⟩) ⟨⟨rfl, Nat.zero_le _, Nat.zero_le _⟩, ownV_nil _ _ _⟩ ⟨rfl, rfl, rfl, rfl, rfl, trivial⟩ (fun _ _ _ w' _ h => ⟨(h.own 101 _ _ _ rfl).1, (h.own 102 _ _ _ rfl).1⟩) ?_ ?_ ?_
  · rintro k v hv ⟨k', s⟩ ⟨⟨e', hkn, hkm⟩, hs2⟩ R hR
    dsimp only at e' hs2 ⊢
    subst e'
    obtain ⟨hlt, rfl⟩ := StV_at hv
    refine xs_plain (E := EE [34]) ?_
    refine lx_assign rfl rfl rfl ?_
    refine lx_nil ?_
    refine x_plain (E := EE [34]) ?_
    refine lx_assign rfl rfl rfl ?_
    refine lx_nil ?_
    refine ⟨rfl, _, rfl, ?_⟩
    refine x_block ?_
    refine x_seq ?_
    refine xs_plain (E := EE [34]) ?_
    refine lx_loadl 8 rfl rfl rfl Tryd.isAgg46 rfl rfl ?_
    refine lx_len (n := (k : Int)) rfl (fun _ => (len_slice Tryd.underlying46 _ _ _ _).trans (by rw [BLv_len])) rfl rfl ?_
    refine lx_loadl 5 rfl rfl rfl Tryd.isAgg3 rfl rfl ?_
    rcases Nat.lt_or_ge k m with hm2 | hm2
    · skip
      refine lx_binB false rfl rfl (fun _ => rfl) (fun _ => bin_geq_i _ _ _) (by rw [decide_eq_false_iff_not]; omega) rfl rfl ?_
      refine lx_nil ?_
      refine x_false rfl ?_
      refine x_skip ?_
      refine xs_plain (E := EE [34]) ?_
      refine lx_loadl 9 rfl rfl rfl Tryd.isAgg4 rfl rfl ?_
      refine lx_move rfl rfl rfl ?_
      refine lx_move rfl rfl rfl ?_
      refine lx_loadl 8 rfl rfl rfl Tryd.isAgg46 rfl rfl ?_
      refine lx_len (n := (k : Int)) rfl (fun _ => (len_slice Tryd.underlying46 _ _ _ _).trans (by rw [BLv_len])) rfl rfl ?_
      refine lx_binB true rfl rfl (fun _ => rfl) (fun _ => bin_eql_i _ _ _) (beq_self_eq_true _) rfl rfl ?_
      refine lx_pick rfl rfl rfl rfl rfl ?_
      refine lx_store 9 (hR (pl w) rfl hGF).2.1 rfl rfl rfl Tryd.sizeOf4 rfl (by first | exact Nat.zero_lt_one | simp) rfl ?_
      refine lx_nil ?_
      refine x_plain (E := EE [34]) ?_
      refine lx_loadl 8 rfl rfl rfl Tryd.isAgg46 rfl rfl ?_
      refine lx_move rfl rfl rfl ?_
      refine lx_bslV 34 [.bool (x.toNat.testBit k)] (hR (pl w) rfl hGF).2.1 rfl rfl rfl (by decide) (by decide) Tryd.underlying46 Tryd.sizeOf4 Tryd.zeroValue4 rfl rfl rfl ?_
      intro b34
      refine lx_appendV (xs := BLv x k) (ys := [.bool (x.toNat.testBit k)]) 50 (hR (pl w) rfl hGF).2.1 rfl rfl Tryd.underlying46 Tryd.underlying46 ti4 rfl (hs2.skips) (fun w' h => hp_row (n := 34) rfl w' h) rfl (by simp) (by rw [BLv_len]; show (k + 1) * 1 ≤ _; omega) (by rw [BLv_len]; show k + 1 ≤ _; omega) rfl rfl (fun bA cA capA eA lA tA => ?_)
      subst eA
      rw [BLv_snoc] at lA tA ⊢
      refine lx_store 8 (hR (pl w) rfl hGF).2.1 rfl rfl rfl Tryd.sizeOf46 rfl (by first | exact Nat.zero_lt_one | simp) rfl ?_
      refine lx_nil ?_
      repeat (refine kblk_n ?_)
      exact ⟨_, rfl, (k + 1, ⟨some ⟨bA, 0, none⟩, _, [(50, bA, cA, 4)]⟩), ⟨⟨rfl, hlt, hm2⟩, .inr ⟨bA, cA, rfl, rfl, rfl, lA, tA⟩⟩, ⟨rfl, rfl, rfl, rfl, rfl, rfl, trivial⟩⟩
    · skip
      obtain rfl : k = m := by omega
      refine lx_binB true rfl rfl (fun _ => rfl) (fun _ => bin_geq_i _ _ _) (by rw [decide_eq_true_eq]; omega) rfl rfl ?_
      refine lx_nil ?_
      refine x_true rfl ?_
      refine x_exit ?_
      exact ⟨_, rfl, rfl, by omega, s, hs2, rfl, rfl⟩
  · rintro D' ⟨k', s⟩ ⟨⟨e', hkn, hkm⟩, hs2⟩ hD'
    rw [StV_len] at e' hkm
    dsimp only at e' hs2 ⊢
    subst e'
    refine xs_drawn (E := EE [34]) mixed (by kernel_rfl) (by kernel_rfl) (by kernel_rfl) ?_
    refine lx_loadl 8 rfl rfl rfl Tryd.isAgg46 rfl rfl ?_
    refine lx_loadl 9 rfl rfl rfl Tryd.isAgg4 rfl rfl ?_
    refine lx_assign rfl rfl rfl ?_
    refine lx_assign rfl rfl rfl ?_
    refine lx_nil ?_
    refine x_ret ?_
    repeat (first | refine kseq_ret ?_ | refine kblk_ret ?_)
    exact kretM_1 (.inl rfl) rides_true (kret_tt rfl rfl rfl (fun w' hw' => hfin hs2.skips (by omega) hw'))
  · rintro D' cd k L' hD' ⟨rfl, hmn, s, hs2, hlL, hlo⟩
    refine xs_drawn (E := EE [34]) mixed (by kernel_rfl) (by kernel_rfl) (by kernel_rfl) ?_
    refine lx_loadl 8 rfl hlL rfl Tryd.isAgg46 rfl rfl ?_
    refine lx_loadl 9 rfl hlo rfl Tryd.isAgg4 rfl rfl ?_
    refine lx_assign rfl rfl rfl ?_
    refine lx_assign rfl rfl rfl ?_
    refine lx_nil ?_
    refine x_ret ?_
    repeat (first | refine kseq_ret ?_ | refine kblk_ret ?_)
    exact kretM_1 (.inl rfl) rides_true (kret_tt rfl rfl rfl (fun w' hw' => hfin hs2 (by omega) hw'))
theorem steps_law (x : BitVec 64) (d at0 : Int) (w : World) (hw : Gt w) : Calls Tryd.prog 6 [U64 x, I d, I at0].toArray w (fun e w' => e = .returned (.bool true) ∧ Grow w w') := by
  obtain ⟨n, hn⟩ : ∃ n, min d.toNat 64 = n := ⟨_, rfl⟩
  have hGF : BOk Gt (pl w) := gt_low.plain hw
  refine calls_of_X (G := Gt) Tryd.func6 rfl rfl (Hp (pl w) []) (hp_refl (pl w) trivial rides_true) (good_hp hGF) ?_
  refine xs_plain (E := EE [25, 17]) ?_
  refine lx_assign rfl rfl rfl ?_
  refine lx_nil ?_
  refine x_seq ?_
  refine xs_plain (E := EE [25, 17]) ?_
  refine lx_callC rfl rfl ent10 (fun w1 _ hG => known18 pm w1 hG) rfl rfl ?_
  refine lx_un rfl (fun _ => un_not _) rfl rfl ?_
  refine lx_nil ?_
  refine x_false rfl ?_
  refine x_skip ?_
  refine xs_plain (E := EE [25, 17]) ?_
  refine lx_move rfl rfl rfl ?_
  refine lx_max (z := (d.toNat : Int)) rfl rfl (by split <;> omega) rfl rfl ?_
  refine lx_min (z := (n : Int)) rfl rfl (by split <;> omega) rfl rfl ?_
  refine lx_assign rfl rfl rfl ?_
  refine lx_nil ?_
  refine xs_plain (E := EE [25, 17]) ?_
  refine lx_move rfl rfl rfl ?_
  refine lx_move rfl rfl rfl ?_
  refine lx_callW gt_low (M := fun _ => False) (fun k h => h.elim) rfl rfl ent25 rfl rfl hGF (Q := fun w1 w2 v => ∃ a0 cap, v = .tuple #[.slice a0 n cap, .bool true] ∧ SlV 4 w2 a0 cap (BLv x n)) (fun w1 h1 g1 => (walk_calls x d 100 (by omega) w1 g1).mono fun e w2 ⟨a0, cap, q1, q2, q3⟩ => ⟨_, q1, grow_mm q2, a0, cap, by rw [BLv_len, show min 100 (min d.toNat 64) = n from by omega], by rw [← show min 100 (min d.toNat 64) = n from by omega]; exact (cln_slv q3).1⟩) (fun w21a w21 v hg21 hm21 gg21 hq => ?_)
  have hGF := gt_low.plain gg21
  have hr21 := hg21.trans (hm21.grow (fun _ _ h => h))
  obtain ⟨a21, c21, rfl, hs21⟩ := hq
  refine lx_move rfl rfl rfl ?_
  refine lx_ext rfl rfl rfl rfl ?_
  refine lx_ext rfl rfl rfl rfl ?_
  refine lx_assign rfl rfl rfl ?_
  refine lx_assign rfl rfl rfl ?_
  refine lx_nil ?_
  refine x_seq ?_
  refine xs_plain (E := EE [25, 17]) ?_
  refine lx_move rfl rfl rfl ?_
  refine lx_un rfl (fun _ => un_not _) rfl rfl ?_
  refine lx_move rfl rfl rfl ?_
  refine lx_move rfl rfl rfl ?_
  refine lx_len rfl (fun _ => len_slice Tryd.underlying46 _ _ _ _) rfl rfl ?_
  refine lx_move rfl rfl rfl ?_
  refine lx_binB false rfl rfl (fun _ => rfl) (fun _ => bin_neq_i _ _ _) (bne_self_eq_false _) rfl rfl ?_
  refine lx_pick rfl rfl rfl rfl rfl ?_
  refine lx_nil ?_
  refine x_false rfl ?_
  refine x_skip ?_
  refine x_seq ?_
  refine xs_plain (E := EE [25, 17]) ?_
  refine lx_assign rfl rfl rfl ?_
  refine lx_nil ?_
  refine x_block ?_
  refine x_for (ι := { i : Nat // i ≤ n }) (fun y => [(0, U64 x), (1, I d), (2, I at0), (7, I (n : Int)), (8, .slice a21 n c21), (10, I (y.1 : Int))]) (fun y => []) (fun y => n - y.1) ⟨0, Nat.zero_le _⟩ hGF ⟨rfl, rfl, rfl, rfl, rfl, rfl, trivial⟩ trivial ?_
  rintro ⟨i, hi⟩
  dsimp only
  refine x_seq ?_
  refine xs_plain (E := EE [25, 17]) ?_
  refine lx_move rfl rfl rfl ?_
  refine lx_move rfl rfl rfl ?_
  rcases Nat.lt_or_ge i n with hlt | hge
  · skip
    obtain ⟨ad1, rfl, _⟩ := hs21.cells i _ (BLv_get hlt)
    refine lx_binB true rfl rfl (fun _ => rfl) (fun _ => bin_lss_i _ _ _) (by simp; omega) rfl rfl ?_
    refine lx_nil ?_
    refine x_true rfl ?_
    refine x_skip ?_
    refine x_seq ?_
    refine x_block ?_
    refine xs_drawn (E := EE [25, 17]) mixed (by kernel_rfl) (by kernel_rfl) (by kernel_rfl) ?_
    refine lx_move rfl rfl rfl ?_
    refine lx_move rfl rfl rfl ?_
    refine lx_isA i rfl rfl Tryd.underlying46 Tryd.sizeOf4 rfl (by omega) rfl rfl ?_
    refine lx_load (v := .bool (x.toNat.testBit i)) rfl Tryd.isAgg4 (fun w' h => by obtain ⟨ad', e, hc⟩ := (hs21.cells.grow (hp_below h)) i _ (BLv_get hlt); cases e; exact hc) rfl rfl ?_
    refine lx_move rfl rfl rfl ?_
    refine lx_move rfl rfl rfl ?_
    refine lx_bin rfl rfl (fun _ => rfl) (fun _ => bin_shr_i_u64 _ _ _ (by omega)) rfl rfl ?_
    refine lx_bin rfl rfl (fun _ => rfl) (fun _ => bin_and_u64 _ _ _) rfl rfl ?_
    refine lx_bin (v := .bool (x.toNat.testBit i)) rfl rfl (fun _ => rfl) (fun _ => (bin_eql_u64 _ _ 1#64).trans (by rw [Int.toNat_natCast, bitU])) rfl rfl ?_
    refine lx_binB false rfl rfl (fun _ => rfl) (fun w => bin_neq_bool 4 Tryd.underlying4 _ _ w) (bne_self_eq_false _) rfl rfl ?_
    refine lx_nil ?_
    refine x_false rfl ?_
    refine x_skip ?_
    refine x_plain (E := EE [25, 17]) ?_
    refine lx_move rfl rfl rfl ?_
    refine lx_bin (v := I (((i + 1 : Nat) : Int))) rfl rfl (fun _ => rfl) (fun _ => (bin_add_i _ _ _ (by unfold inI; omega)).trans (by rfl)) rfl rfl ?_
    refine lx_assign rfl rfl rfl ?_
    refine lx_nil ?_
    repeat (refine kblk_n ?_)
    refine kseq_n ?_
    exact ⟨rfl, ⟨i + 1, hlt⟩, _, by show n - (i + 1) < n - i; omega, rfl, ⟨rfl, rfl, rfl, rfl, rfl, rfl, trivial⟩, trivial⟩
  · skip
    refine lx_binB false rfl rfl (fun _ => rfl) (fun _ => bin_lss_i _ _ _) (by rw [decide_eq_false_iff_not]; omega) rfl rfl ?_
    refine lx_nil ?_
    refine x_false rfl ?_
    refine x_exit ?_
    refine xs_plain (E := EE [25, 17]) ?_
    refine lx_move rfl rfl rfl ?_
    refine lx_callW gt_low (M := fun _ => False) (fun k h => h.elim) rfl rfl ent17 rfl rfl hGF (Q := fun w1 w2 v => ∃ k : Nat, v = I (k : Int) ∧ k < 70) (fun w1 h1 g1 => (plc_calls at0 70 (by omega) (by omega) w1 g1).mono fun e w2 ⟨k, q1, q2, q3⟩ => ⟨_, q1, grow_mm q3, k, rfl, q2⟩) (fun w48a w48 v hg48 hm48 gg48 hq => ?_)
    have hGF := gt_low.plain gg48
    have hr48 := hg48.trans (hm48.grow (fun _ _ h => h))
    obtain ⟨q, rfl, hq⟩ := hq
    refine lx_assign rfl rfl rfl ?_
    refine lx_nil ?_
    refine xs_plain (E := EE [25, 17]) ?_
    refine lx_move rfl rfl rfl ?_
    refine lx_move rfl rfl rfl ?_
    refine lx_move rfl rfl rfl ?_
    refine lx_callW gt_low (M := fun _ => False) (fun k h => h.elim) rfl rfl ent25 rfl rfl hGF (Q := fun w1 w2 v => ∃ a0 cap, v = .tuple #[.slice a0 (min q n) cap, .bool true] ∧ SlV 4 w2 a0 cap (BLv x (min q n))) (fun w1 h1 g1 => (walk_calls x d q (by omega) w1 g1).mono fun e w2 ⟨a0, cap, q1, q2, q3⟩ => ⟨_, q1, grow_mm q2, a0, cap, by rw [BLv_len, show min q (min d.toNat 64) = min q n from by omega], by rw [← show min q (min d.toNat 64) = min q n from by omega]; exact (cln_slv q3).1⟩) (fun w53a w53 v hg53 hm53 gg53 hq => ?_)
    have hGF := gt_low.plain gg53
    have hr53 := hg53.trans (hm53.grow (fun _ _ h => h))
    obtain ⟨a53, c53, rfl, hs53⟩ := hq
    refine lx_move rfl rfl rfl ?_
    refine lx_ext rfl rfl rfl rfl ?_
    refine lx_ext rfl rfl rfl rfl ?_
    refine lx_assign rfl rfl rfl ?_
    refine lx_assign rfl rfl rfl ?_
    refine lx_nil ?_
    refine xs_plain (E := EE [25, 17]) ?_
    refine lx_move rfl rfl rfl ?_
    refine lx_move rfl rfl rfl ?_
    refine lx_move rfl rfl rfl ?_
    refine lx_move rfl rfl rfl ?_
    refine lx_move rfl rfl rfl ?_
    refine lx_move rfl rfl rfl ?_
    refine lx_min (z := ((min q n : Nat) : Int)) rfl rfl (by split <;> omega) rfl rfl ?_
    refine lx_slsl (l := 0) (h' := min q n) rfl Tryd.underlying46 Tryd.sizeOf4 rfl rfl ⟨Nat.zero_le _, by have h9 := hs21.le; rw [BLv_len] at h9; omega⟩ rfl rfl ?_
    rw [cut1, Nat.sub_zero, Nat.sub_zero]
    refine lx_callC rfl rfl ent26 (fun w' hw' hG => bits_calls x (min q n) (by omega) _ _ _ _ w' hG ((hs53.grow (hp_below hw')).cells) (by rw [← BLv_take x (show min q n ≤ n by omega)]; exact ((hs21.grow ((hr48.trans hr53).trans (hp_below hw'))).cells).take _)) rfl rfl ?_
    refine lx_pick rfl rfl rfl rfl rfl ?_
    refine lx_assign rfl rfl rfl ?_
    refine lx_nil ?_
    refine x_ret ?_
    repeat (first | refine kseq_ret ?_ | refine kblk_ret ?_)
    exact kret_tmp rfl rfl (fun w' hw' => ⟨rfl, ((hr21.trans hr48).trans hr53).trans (hp_below hw')⟩)
end Go.Proofs.YtfnnbaoilldpaaaDoor
