/-
  The program's steps; whether a branch proves.
-/
import Derived.Test.YtfnnbaoilldpaaaDoorUC
import Derived.Test.YtfnnbaoilldpaaaDoorX1
namespace Go.Proofs.YtfnnbaoilldpaaaDoor
open Go.RowKit
set_option maxRecDepth 100000
set_option maxHeartbeats 1000000
open Sh
theorem ent34 : Enters Tryd.prog 34 := fun _ _ => by kernel_rfl
theorem ent37 : Enters Tryd.prog 37 := fun _ _ => by kernel_rfl
theorem ent42 : Enters Tryd.prog 42 := fun _ _ => by kernel_rfl
theorem ent22 : Enters Tryd.prog 22 := fun _ _ => by kernel_rfl
/-- What an iterator over steps holds. -/
structure StH (w : World) (bc bi n : Nat) (x : BitVec 64) : Prop where
  c : OwnB w bc [I (n : Int)] 3
  i : OwnB w bi [U64 x] 37
def StV (x : BitVec 64) (n : Nat) : List (List Value) := (List.range n).map fun (i : Nat) => [I (i : Int), .bool (x.toNat.testBit i)]
theorem StV_len (x : BitVec 64) (n : Nat) : (StV x n).length = n := by rw [StV, List.length_map, List.length_range]
theorem StV_get (x : BitVec 64) (n i : Nat) (h : i < n) : (StV x n)[i]? = some [I (i : Int), .bool (x.toNat.testBit i)] := by rw [StV, List.getElem?_map, List.getElem?_range h]; rfl
theorem StV_at {x : BitVec 64} {n i : Nat} {v : List Value} (h : (StV x n)[i]? = some v) : i < n ∧ [I (i : Int), .bool (x.toNat.testBit i)] = v := by
  have hi : i < n := by
    rcases Nat.lt_or_ge i n with hk | hk
    · exact hk
    · rw [List.getElem?_eq_none (by rw [StV_len]; exact hk)] at h; cases h
  exact ⟨hi, Option.some.inj ((StV_get x n i hi).symm.trans h)⟩
theorem row2 {n m b1 b2 : Nat} {c1 c2 : List Value} {t1 t2 : TypeId} {w w' : World} (h1 : w.heap.size ≤ b1) (h2 : w.heap.size ≤ b2) (o1 : OwnB w' b1 c1 t1) (o2 : OwnB w' b2 c2 t2) : ∀ n' b' c' t', lkB [(n, b1, c1, t1), (m, b2, c2, t2)] n' = some (b', c', t') → w.heap.size ≤ b' ∧ OwnB w' b' c' t' := fun n' b' c' t' hl => by
  rcases lkB_cons hl with ⟨_, e⟩ | ⟨_, hl⟩
  · cases e; exact ⟨h1, o1⟩
  · rcases lkB_cons hl with ⟨_, e⟩ | ⟨_, hl⟩
    · cases e; exact ⟨h2, o2⟩
    · cases hl
theorem steps_calls (x : BitVec 64) (n : Nat) (w : World) (hw : Gt w) : Calls Tryd.prog 37 [U64 x, I (n : Int)].toArray w (fun e w' => ∃ bc bi, e = .returned (.func (.func 42) #[] #[.pointer (some ⟨bc, 0, none⟩), .pointer (some ⟨bi, 0, none⟩)]) ∧ Grow w w' ∧ w.heap.size ≤ bc ∧ w.heap.size ≤ bi ∧ bc ≠ bi ∧ StH w' bc bi (n) x) := by
  have hGF : BOk Gt (pl w) := gt_low.plain hw
  refine calls_of_X (G := Gt) Tryd.func37 rfl rfl (Hp (pl w) []) (hp_refl (pl w) trivial rides_true) (good_hp hGF) ?_
  refine xs_plain (E := EE []) ?_
  refine lx_box 2 hGF rfl rfl rfl ?_
  intro b2
  refine lx_box 3 hGF rfl rfl rfl ?_
  intro b3
  refine lx_assign rfl rfl rfl ?_
  refine lx_nil ?_
  refine xs_plain (E := EE []) ?_
  refine lx_func rfl rfl rfl rfl ?_
  refine lx_assign rfl rfl rfl ?_
  refine lx_nil ?_
  refine x_ret ?_
  repeat (first | refine kseq_ret ?_ | refine kblk_ret ?_)
  exact kret_tmp rfl rfl (fun w' hw' => ⟨b3, b2, rfl, hp_below hw', (hw'.own 3 _ _ _ rfl).2.elim id False.elim, (hw'.own 2 _ _ _ rfl).2.elim id False.elim, fun e => by subst e; exact absurd (hw'.inj 3 2 _ _ _ _ _ rfl rfl) (by decide), (hw'.own 3 _ _ _ rfl).1, (hw'.own 2 _ _ _ rfl).1⟩)
theorem Steps_calls (x : BitVec 64) (d : Int) (w : World) (hw : Gt w) : Calls Tryd.prog 34 [U64 x, I d].toArray w (fun e w' => ∃ bc bi, e = .returned (.func (.func 42) #[] #[.pointer (some ⟨bc, 0, none⟩), .pointer (some ⟨bi, 0, none⟩)]) ∧ Grow w w' ∧ w.heap.size ≤ bc ∧ w.heap.size ≤ bi ∧ bc ≠ bi ∧ StH w' bc bi (min d.toNat 64) x) := by
  have hGF : BOk Gt (pl w) := gt_low.plain hw
  refine calls_of_X (G := Gt) Tryd.func34 rfl rfl (Hp (pl w) []) (hp_refl (pl w) trivial rides_true) (good_hp hGF) ?_
  refine xs_plain (E := EE [37]) ?_
  refine lx_assign rfl rfl rfl ?_
  refine lx_nil ?_
  refine xs_plain (E := EE [37]) ?_
  refine lx_move rfl rfl rfl ?_
  refine lx_move rfl rfl rfl ?_
  refine lx_callC rfl rfl ent32 (fun w' _ hG => bounded_calls d w' hG) rfl rfl ?_
  refine lx_callE rfl rfl ent37 rfl rfl (fun w1 hC => (steps_calls x (min d.toNat 64) w1 (hGF.g _ _ _ hC)).mono fun e1 w2 h => ?_)
  obtain ⟨bc, bi, rfl, hg, h1, h2, hne, hs⟩ := h
  refine ⟨_, _, rfl, good_hp hGF, hC.news rides_true hg [(101, bc, _, 3), (102, bi, _, 37)] (row2 h1 h2 hs.c hs.i) (inj_two hne), ?_⟩
  clear hC hg h1 h2 hs
  refine lx_assign rfl rfl rfl ?_
  refine lx_nil ?_
  refine x_ret ?_
  repeat (first | refine kseq_ret ?_ | refine kblk_ret ?_)
  exact kret_tmp rfl rfl (fun w' hw' => ⟨bc, bi, rfl, hp_below hw', (hw'.own 101 _ _ _ rfl).2.elim id False.elim, (hw'.own 102 _ _ _ rfl).2.elim id False.elim, hne, (hw'.own 101 _ _ _ rfl).1, (hw'.own 102 _ _ _ rfl).1⟩)
theorem steps_seq (bc bi n : Nat) (hn : n ≤ 65536) (x : BitVec 64) : SeqOk Tryd.prog Gt 42 [.pointer (some ⟨bc, 0, none⟩), .pointer (some ⟨bi, 0, none⟩)] (StV x n) (fun w => StH w bc bi n x) := by
  intro l J Jx hJ hJx hRd hGx hY w hj
  have okJ : ∀ k, BOk Gt (Bi w (fun Y => J Y k)) := fun k => ⟨fun _ _ _ h => (hRd _ _ _ h.rid).1, hJ k⟩
  have okX : ∀ k, BOk Gt (Bi w (fun Y => Jx Y k)) := fun k => ⟨fun _ _ _ h => hGx _ _ _ h.rid, hJx k⟩
  have c1 : ∀ k L w', Hp (Bi w (fun Y => J Y k)) L w' → StH w' bc bi n x := fun k L w' h => (hRd _ _ _ h.rid).2
  refine calls_of_X (G := Gt) Tryd.func42 rfl rfl (Hp (Bi w (fun Y => J Y 0)) []) (hp_refl (Bi w _) hj (hJ 0)) (good_hp (okJ 0)) ?_
  refine xs_plain (E := EE []) ?_
  refine lx_load rfl Tryd.isAgg3 (fun w h => (c1 _ _ w h).c.cell 0) rfl rfl ?_
  refine lx_move rfl rfl rfl ?_
  refine lx_nil ?_
  refine x_block ?_
  refine x_forB (ι := { i : Nat // i ≤ n }) (fun y => [(0, .func (.yield l) #[] #[]), (1, .pointer (some ⟨bc, 0, none⟩)), (2, .pointer (some ⟨bi, 0, none⟩)), (5, I (n : Int)), (6, I (y.1 : Int))]) (fun y => Bi w (fun Y => J Y y.1)) (fun y => []) (fun y => n - y.1) ⟨0, Nat.zero_le _⟩ (fun _ => okJ _) rfl ⟨rfl, rfl, rfl, rfl, rfl, trivial⟩ trivial ?_
  rintro ⟨i, hi⟩
  dsimp only
  refine xs_plain (E := EE []) ?_
  rcases Nat.lt_or_ge i n with hlt | hge
  · skip
    refine lx_binB true rfl rfl (fun _ => rfl) (fun _ => bin_lss_i _ _ _) (by simp; omega) rfl rfl ?_
    refine lx_nil ?_
    refine x_seq ?_
    refine x_true rfl ?_
    refine x_skip ?_
    refine x_seq ?_
    refine x_block ?_
    refine xs_plain (E := EE []) ?_
    refine lx_move rfl rfl rfl ?_
    refine lx_assign rfl rfl rfl ?_
    refine lx_nil ?_
    refine xs_plain (E := EE []) ?_
    refine lx_move rfl rfl rfl ?_
    refine lx_move rfl rfl rfl ?_
    refine lx_load rfl Tryd.isAgg37 (fun w h => (c1 _ _ w h).i.cell 0) rfl rfl ?_
    refine lx_move rfl rfl rfl ?_
    refine lx_bin rfl rfl (fun _ => rfl) (fun _ => bin_shr_i_u64 _ _ _ (by omega)) rfl rfl ?_
    refine lx_bin rfl rfl (fun _ => rfl) (fun _ => bin_and_u64 _ _ _) rfl rfl ?_
    refine lx_bin (v := .bool (x.toNat.testBit i)) rfl rfl (fun _ => rfl) (fun _ => (bin_eql_u64 _ _ 1#64).trans (by rw [Int.toNat_natCast, bitU])) rfl rfl ?_
    refine lx_yield (hY.b (k := i) (StV_get x n i hlt) w) (okJ _) (okX _) rfl rfl rfl rfl rfl ?_ ?_
    · skip
      refine lx_un rfl (fun _ => un_not _) rfl rfl ?_
      refine lx_nil ?_
      refine x_false rfl ?_
      refine x_skip ?_
      refine x_plain (E := EE []) ?_
      refine lx_bin (v := I (((i + 1 : Nat) : Int))) rfl rfl (fun _ => rfl) (fun _ => (bin_add_i _ _ _ (by unfold inI; omega)).trans (by rfl)) rfl rfl ?_
      refine lx_move rfl rfl rfl ?_
      refine lx_nil ?_
      repeat (refine kblk_n ?_)
      refine kseq_n ?_
      exact ⟨rfl, ⟨i + 1, hlt⟩, _, by show n - (i + 1) < n - i; omega, rfl, ⟨rfl, rfl, rfl, rfl, rfl, trivial⟩, trivial⟩
    · skip
      refine lx_un rfl (fun _ => un_not _) rfl rfl ?_
      refine lx_nil ?_
      refine x_true rfl ?_
      refine x_ret ?_
      repeat (first | refine kseq_ret ?_ | refine kblk_ret ?_)
      repeat (first | refine kseq_x ?_ | refine kblk_x ?_ | refine kblk_p rfl ?_ | refine kseq_ret ?_ | refine kblk_ret ?_)
      exact kret_none rfl (fun w hw => ⟨⟨_, rfl⟩, .inr ⟨_, drop_yof (hJx _) hw.rid⟩⟩)
  · skip
    obtain rfl : i = n := by omega
    refine lx_binB false rfl rfl (fun _ => rfl) (fun _ => bin_lss_i _ _ _) (by rw [decide_eq_false_iff_not]; omega) rfl rfl ?_
    refine lx_nil ?_
    refine x_seq ?_
    refine x_false rfl ?_
    refine x_exit ?_
    repeat (first | refine kseq_x ?_ | refine kblk_x ?_ | refine kblk_p rfl ?_ | refine kseq_ret ?_ | refine kblk_ret ?_)
    refine kend_none rfl (fun w hw => ⟨⟨_, rfl⟩, .inl ?_⟩)
    have := drop_yof (hJ _) hw.rid
    rw [StV_len]
    exact this
theorem vfy_no {v0 : Rt} {b : List Rt} {x : BitVec 64} {root : Rt} (h : ¬ x >>> b.length = 0#64) : vfy v0 b x root = false := by
  have h6 : b.length < 64 := by
    rcases Nat.lt_or_ge b.length 64 with h1 | h1
    · exact h1
    · exact absurd (by apply BitVec.eq_of_toNat_eq; rw [BitVec.toNat_ushiftRight, Nat.shiftRight_eq_div_pow, Nat.div_eq_of_lt (Nat.lt_of_lt_of_le x.isLt (Nat.pow_le_pow_right (by decide) h1))]; rfl) h
  unfold vfy
  rw [show decide (64 ≤ b.length) = false from decide_eq_false (by omega), Bool.false_or, beq_eq_false_iff_ne.2 h, Bool.and_false]
theorem vfy_yes {v0 : Rt} {b : List Rt} {x : BitVec 64} {root : Rt} (h : x >>> b.length = 0#64) : vfy v0 b x root = decide (fld P2 x.toNat 0 v0 b = root) := by
  unfold vfy
  rw [h]
  simp
theorem mver_calls (v0 : Rt) (hv0 : v0.length = 32) (b : List Rt) (hl : AllR b) (hln : b.length ≤ 65536) (a : Option Addr) (cap : Nat) (x : BitVec 64) (root : Rt) (hroot : root.length = 32) (w : World) (hw : Gt w) (hr : RtsAt w a b) :
    Calls Tryd.prog 22 [.agg (v0.map U8).toArray, .slice a b.length cap, U64 x, .agg (root.map U8).toArray].toArray w (fun e w' => e = .returned (.bool (vfy v0 b x root)) ∧ Grow w w') := by
  have hGF : BOk Gt (pl w) := gt_low.plain hw
  refine calls_of_XM (G := Gt) Tryd.func22 rfl rfl (Hp (pl w) []) (hp_refl (pl w) trivial rides_true) (good_hp hGF) ?_
  refine xs_plain (E := EE [37]) ?_
  refine lx_boxr 4 hGF rfl rfl rfl ?_
  intro b4
  refine lx_box 5 hGF rfl rfl rfl ?_
  intro b5
  refine lx_boxr 7 hGF rfl rfl rfl ?_
  intro b7
  refine lx_assign rfl rfl rfl ?_
  refine lx_nil ?_
  refine x_seq ?_
  refine xs_plain (E := EE [37]) ?_
  refine lx_move rfl rfl rfl ?_
  refine lx_loadl 5 rfl rfl rfl Tryd.isAgg22 rfl rfl ?_
  refine lx_len rfl (fun _ => len_slice Tryd.underlying22 _ _ _ _) rfl rfl ?_
  refine lx_bin (v := U64 (x >>> b.length)) rfl rfl (fun _ => rfl) (fun _ => (bin_shr_i_u64 _ _ _ (by omega)).trans (by rw [Int.toNat_natCast])) rfl rfl ?_
  by_cases hz : x >>> b.length = 0#64
  · skip
    refine lx_binB false rfl rfl (fun _ => rfl) (fun _ => bin_neq_u64 _ _ _) (by rw [hz]; rfl) rfl rfl ?_
    refine lx_nil ?_
    refine x_false rfl ?_
    refine x_skip ?_
    refine xs_plain (E := EE [37]) ?_
    refine lx_loada 4 rfl rfl Tryd.isAgg29 Tryd.sizeOf29 (by rw [List.length_map]; exact hv0) rfl rfl ?_
    refine lx_allocr 9 hGF zv29 rfl rfl ?_
    intro b9
    refine lx_storea 9 hGF rfl rfl rfl Tryd.sizeOf29 (by rw [List.length_map]; exact hv0) (by rw [List.length_map]; exact Z0_len) (one_u8 _) rfl ?_
    refine lx_nil ?_
    refine x_seq ?_
    refine xs_plain (E := EE [37]) ?_
    refine lx_move rfl rfl rfl ?_
    refine lx_loadl 5 rfl rfl rfl Tryd.isAgg22 rfl rfl ?_
    refine lx_len rfl (fun _ => len_slice Tryd.underlying22 _ _ _ _) rfl rfl ?_
    refine lx_callE rfl rfl ent37 rfl rfl (fun w1 hC => (steps_calls x b.length w1 (hGF.g _ _ _ hC)).mono fun e1 w2 h => ?_)
    obtain ⟨bc, bi, rfl, hg, h1, h2, hne, hs⟩ := h
    refine ⟨_, _, rfl, good_hp hGF, hC.news rides_true hg [(101, bc, _, 3), (102, bi, _, 37)] (row2 h1 h2 hs.c hs.i) (inj_two hne), ?_⟩
    clear hC hg h1 h2 hs hne
    refine lx_nil ?_
    refine x_block ?_
    refine x_range (fun _ => pl w) (fun _ _ => pl w) (fun _ => hGF) (fun _ _ => hGF) (fun _ => rfl) (fun _ _ => rfl) rfl rfl ent42 (steps_seq bc bi b.length (by omega) x) (fun v hv => by obtain ⟨k, hk, rfl⟩ := List.mem_map.1 hv; rfl) rfl (fun k => [(4, b4, v0.map U8, 29), (5, b5, [.slice a b.length cap], 22), (7, b7, root.map U8, 29), (9, b9, (fld P2 x.toNat 0 v0 (b.take k)).map U8, 29), (101, bc, [I (b.length : Int)], 3), (102, bi, [U64 x], 37)]) (fun _ _ _ => False) ⟨rfl, rfl, rfl, rfl, rfl, rfl, trivial⟩ (fun k _ w' h => ⟨(h.own 101 _ _ _ rfl).1, (h.own 102 _ _ _ rfl).1⟩) ?_ ?_ (fun _ _ _ _ _ h => h.elim)
    · intro k v hv R hR
      have hgw : ∀ L w', Hp (R.b (pl w)) L w' → Grow w w' := fun L w' h => ((hR (pl w) rfl hGF).2.2 _ _ _ h).elim fun _ h2 => h2.below (fun _ h => h)
      obtain ⟨hk, rfl⟩ := StV_at hv
      obtain ⟨y, hby⟩ : ∃ y, b[k]? = some y := ⟨_, List.getElem?_eq_getElem hk⟩
      have hy : y.length = 32 := hl y (List.mem_of_getElem? hby)
      obtain ⟨ad, rfl, hyc⟩ := hr k y hby
      have hstep := fld_take P2 (i := x.toNat) v0 hby
      have hbk : x.toNat.testBit k = true → k < 64 := fun h => by rcases Nat.lt_or_ge k 64 with h1 | h1; exact h1; rw [Nat.testBit_lt_two_pow (Nat.lt_of_lt_of_le x.isLt (Nat.pow_le_pow_right (by decide) h1))] at h; cases h
      cases hbit : x.toNat.testBit k
      · skip
        have hst : fld P2 x.toNat 0 v0 (b.take (k + 1)) = P2 (fld P2 x.toNat 0 v0 (b.take k)) y := by rw [hstep, stp_f P2 _ _ hbit]
        refine xs_plain (E := EE [37]) ?_
        refine lx_assign rfl rfl rfl ?_
        refine lx_nil ?_
        refine x_plain (E := EE [37]) ?_
        refine lx_assign rfl rfl rfl ?_
        refine lx_nil ?_
        refine ⟨rfl, _, rfl, ?_⟩
        refine x_block ?_
        refine xs_plain (E := EE [37]) ?_
        refine lx_move rfl rfl rfl ?_
        refine lx_nil ?_
        refine x_false rfl ?_
        refine x_drawn (E := EE [37]) mixed (by kernel_rfl) (by kernel_rfl) (by kernel_rfl) ?_
        refine lx_loada 9 rfl rfl Tryd.isAgg29 Tryd.sizeOf29 (by rw [List.length_map]; exact fldL _ _ _ hv0) rfl rfl ?_
        refine lx_loadl 5 rfl rfl rfl Tryd.isAgg22 rfl rfl ?_
        refine lx_move rfl rfl rfl ?_
        refine lx_isAW k 32 rfl rfl Tryd.underlying22 Tryd.sizeOf29 rfl (by omega) rfl rfl ?_
        refine lx_loadA (cs := y.map U8) rfl Tryd.isAgg29 Tryd.sizeOf29 (by rw [List.length_map]; exact hy) (fun w' h j v hv => ((hgw _ w' h).cell (block_lt_of_cell (hyc j v hv))).trans (hyc j v hv)) rfl rfl ?_
        refine lx_callC rfl rfl ent38 (fun w' _ hG => pair_pure (fld P2 x.toNat 0 v0 (b.take k)) y (fldL _ _ _ hv0) hy w' hG) rfl rfl ?_
        rw [show SHA ((fld P2 x.toNat 0 v0 (b.take k)) ++ y) = P2 (fld P2 x.toNat 0 v0 (b.take k)) y from rfl, ← hst]
        refine lx_storea 9 (hR (pl w) rfl hGF).2.1 rfl rfl rfl Tryd.sizeOf29 (by rw [List.length_map]; exact fldL _ _ _ hv0) (by rw [List.length_map]; exact fldL _ _ _ hv0) (one_u8 _) rfl ?_
        refine lx_nil ?_
        repeat (refine kblk_n ?_)
        exact ⟨_, rfl, ⟨rfl, rfl, rfl, rfl, rfl, rfl, trivial⟩⟩
      · skip
        have hst : fld P2 x.toNat 0 v0 (b.take (k + 1)) = P2 y (fld P2 x.toNat 0 v0 (b.take k)) := by rw [hstep, stp_t P2 _ _ (hbk hbit) hbit]
        refine xs_plain (E := EE [37]) ?_
        refine lx_assign rfl rfl rfl ?_
        refine lx_nil ?_
        refine x_plain (E := EE [37]) ?_
        refine lx_assign rfl rfl rfl ?_
        refine lx_nil ?_
        refine ⟨rfl, _, rfl, ?_⟩
        refine x_block ?_
        refine xs_plain (E := EE [37]) ?_
        refine lx_move rfl rfl rfl ?_
        refine lx_nil ?_
        refine x_true rfl ?_
        refine x_drawn (E := EE [37]) mixed (by kernel_rfl) (by kernel_rfl) (by kernel_rfl) ?_
        refine lx_loadl 5 rfl rfl rfl Tryd.isAgg22 rfl rfl ?_
        refine lx_move rfl rfl rfl ?_
        refine lx_isAW k 32 rfl rfl Tryd.underlying22 Tryd.sizeOf29 rfl (by omega) rfl rfl ?_
        refine lx_loadA (cs := y.map U8) rfl Tryd.isAgg29 Tryd.sizeOf29 (by rw [List.length_map]; exact hy) (fun w' h j v hv => ((hgw _ w' h).cell (block_lt_of_cell (hyc j v hv))).trans (hyc j v hv)) rfl rfl ?_
        refine lx_loada 9 rfl rfl Tryd.isAgg29 Tryd.sizeOf29 (by rw [List.length_map]; exact fldL _ _ _ hv0) rfl rfl ?_
        refine lx_callC rfl rfl ent38 (fun w' _ hG => pair_pure y (fld P2 x.toNat 0 v0 (b.take k)) hy (fldL _ _ _ hv0) w' hG) rfl rfl ?_
        rw [show SHA (y ++ (fld P2 x.toNat 0 v0 (b.take k))) = P2 y (fld P2 x.toNat 0 v0 (b.take k)) from rfl, ← hst]
        refine lx_storea 9 (hR (pl w) rfl hGF).2.1 rfl rfl rfl Tryd.sizeOf29 (by rw [List.length_map]; exact fldL _ _ _ hv0) (by rw [List.length_map]; exact fldL _ _ _ hv0) (one_u8 _) rfl ?_
        refine lx_nil ?_
        repeat (refine kblk_n ?_)
        exact ⟨_, rfl, ⟨rfl, rfl, rfl, rfl, rfl, rfl, trivial⟩⟩
    · intro D hD
      rw [StV_len, List.take_length]
      refine xs_plain (E := EE [37]) ?_
      refine lx_loada 9 rfl rfl Tryd.isAgg29 Tryd.sizeOf29 (by rw [List.length_map]; exact fldL _ _ _ hv0) rfl rfl ?_
      refine lx_loada 7 rfl rfl Tryd.isAgg29 Tryd.sizeOf29 (by rw [List.length_map]; exact hroot) rfl rfl ?_
      refine lx_bin (v := .bool (decide (fld P2 x.toNat 0 v0 b = root))) rfl rfl (fun w' => eqg29 _ _ _ _ _ w') (fun w' => eqv29 _ _ (fldL _ _ _ hv0) hroot w') rfl rfl ?_
      refine lx_assign rfl rfl rfl ?_
      refine lx_nil ?_
      refine x_ret ?_
      repeat (first | refine kseq_ret ?_ | refine kblk_ret ?_)
      exact kretM_1 (.inl rfl) rides_true (kret_tmp rfl rfl (fun w' hw' => ⟨by rw [vfy_yes hz], hp_below hw'⟩))
  · skip
    refine lx_binB true rfl rfl (fun _ => rfl) (fun _ => bin_neq_u64 _ _ _) (bne_iff_ne.2 hz) rfl rfl ?_
    refine lx_nil ?_
    refine x_true rfl ?_
    refine xs_plain (E := EE [37]) ?_
    refine lx_assign rfl rfl rfl ?_
    refine lx_nil ?_
    refine x_ret ?_
    repeat (first | refine kseq_ret ?_ | refine kblk_ret ?_)
    exact kretM_0 (.inl rfl) (kret_tmp rfl rfl (fun w' hw' => ⟨by rw [vfy_no hz]; rfl, hp_below hw'⟩))
end Go.Proofs.YtfnnbaoilldpaaaDoor
