/-
  The walks of what is left by a modulus.
-/
import Derived.Test.YteohckfbphdngaaN1
import Derived.Test.YteohckfbphdngaaN2
namespace Go.Proofs.Yteohckfbphdngaa
open Go.RowKit
set_option maxRecDepth 100000
set_option maxHeartbeats 1000000
theorem eqg (op : BinOp) (x y : Operand) (xs ys : Array Value) (w : World) : (eqGuard op 23 x y (.agg xs) (.agg ys)).run Try.prog w = .ok () w := run_eqGuard_agg w op 23 x y xs ys (by kernel_rfl)
theorem eqg27 (op : BinOp) (x y : Operand) (xs ys : Array Value) (w : World) : (eqGuard op 27 x y (.agg xs) (.agg ys)).run Try.prog w = .ok () w := run_eqGuard_agg w op 27 x y xs ys (by kernel_rfl)
theorem eq23 (xs ys : List (BitVec 64)) (h : xs.length = 6) (h' : ys.length = 6) (w : World) : (binOp .eql 23 (.agg (xs.map U64).toArray) (.agg (ys.map U64).toArray)).run Try.prog w = .ok (.bool (decide (xs = ys))) w := bin_eq64 Try.underlying23 Try.underlying22 Try.sizeOf22 Try.isAgg22 xs ys h h' w
theorem eq27 (xs ys : List (BitVec 64)) (h : xs.length = 6) (h' : ys.length = 6) (w : World) : (binOp .eql 27 (.agg (xs.map U64).toArray) (.agg (ys.map U64).toArray)).run Try.prog w = .ok (.bool (decide (xs = ys))) w := bin_eq64 Try.underlying27 Try.underlying22 Try.sizeOf22 Try.isAgg22 xs ys h h' w
theorem inj_one {n : Nat} {b1 : Nat} {c1 : List Value} {t1 : TypeId} : ∀ i j b c t c' t', lkB [(n, b1, c1, t1)] i = some (b, c, t) → lkB [(n, b1, c1, t1)] j = some (b, c', t') → i = j := by
  intro i j b c t c' t' h1 h2
  rcases lkB_cons h1 with ⟨e1, x1⟩ | ⟨_, h1⟩
  · rcases lkB_cons h2 with ⟨e2, x2⟩ | ⟨_, h2⟩
    · exact e1.trans e2.symm
    · cases h2
  · cases h1
theorem drop_yof {J : (Nat → Prop) → World → Prop} (hr : Rides J) {Y : Nat → Prop} {w : World} (h : J Y w) : J (fun _ => False) w := hr.less _ _ _ (fun _ h => h.elim) h

theorem red_pure (a : List (BitVec 64)) (top : BitVec 64) (m : List (BitVec 64)) (ha : a.length = 6) (hm : m.length = 6) : Pure Try.prog Gt 34 [.agg ((a).map U64).toArray, U64 top, .agg ((m).map U64).toArray] (.agg ((RED a top m).map U64).toArray) := by
  intro w hw
  have hGF : BOk Gt (pl w) := gt_low.plain hw
  refine calls_of_X (G := Gt) Try.func34 rfl rfl (Hp (pl w) []) (hp_refl (pl w) trivial rides_true) (good_hp hGF) ?_
  by_cases h1 : top = 0
  · by_cases h2 : (SS a m 6).2 = 1
    · skip
      refine xs_plain (E := EE []) ?_
      refine lx_boxr 3 hGF rfl rfl rfl ?_
      intro b3
      refine lx_boxr 5 hGF rfl rfl rfl ?_
      intro b5
      refine lx_allocr 6 hGF zv23 rfl rfl ?_
      intro b6
      refine lx_nil ?_
      refine xs_plain (E := EE []) ?_
      refine lx_loada 3 rfl rfl Try.isAgg23 Try.sizeOf23 (by rw [List.length_map, ha]) rfl rfl ?_
      refine lx_loada 5 rfl rfl Try.isAgg23 Try.sizeOf23 (by rw [List.length_map, hm]) rfl rfl ?_
      refine lx_call rfl rfl ent11 (sub_pure a m ha hm) rfl rfl ?_
      refine lx_move rfl rfl rfl ?_
      refine lx_ext rfl rfl rfl rfl ?_
      refine lx_ext rfl rfl rfl rfl ?_
      refine lx_allocr 7 hGF zv23 rfl rfl ?_
      intro b7
      refine lx_storea 7 hGF rfl rfl rfl Try.sizeOf23 (by rw [List.length_map, SS_len _ _ _]) (by rw [List.length_map, List.length_replicate]) (one_u64 _) rfl ?_
      refine lx_assign rfl rfl rfl ?_
      refine lx_nil ?_
      refine x_seq ?_
      refine xs_plain (E := EE []) ?_
      refine lx_move rfl rfl rfl ?_
      refine lx_bin (v := .bool true) rfl rfl (fun _ => rfl) (fun w => (bin_eql_u64 _ _ _).trans (congrArg (fun b => Result.ok (Value.bool b) w) (beq_iff_eq.2 h1))) rfl rfl ?_
      refine lx_move rfl rfl rfl ?_
      refine lx_move rfl rfl rfl ?_
      refine lx_bin (v := .bool true) rfl rfl (fun _ => rfl) (fun w => (bin_eql_u64 _ _ _).trans (congrArg (fun b => Result.ok (Value.bool b) w) (beq_iff_eq.2 h2))) rfl rfl ?_
      refine lx_pick rfl rfl rfl rfl rfl ?_
      refine lx_nil ?_
      refine x_true rfl ?_
      refine xs_plain (E := EE []) ?_
      refine lx_loada 3 rfl rfl Try.isAgg23 Try.sizeOf23 (by rw [List.length_map, ha]) rfl rfl ?_
      refine lx_storea 6 hGF rfl rfl rfl Try.sizeOf23 (by rw [List.length_map, ha]) (by rw [List.length_map, List.length_replicate]) (one_u64 _) rfl ?_
      refine lx_nil ?_
      refine x_ret ?_
      repeat (first | refine kseq_ret ?_ | refine kblk_ret ?_)
      exact kret_own 6 rfl rfl rfl Try.isAgg23 Try.sizeOf23 (by rw [List.length_map, ha]) (fun w hw => ⟨by rw [RED, if_pos (⟨h1, h2⟩)], hp_below hw⟩)
    · skip
      refine xs_plain (E := EE []) ?_
      refine lx_boxr 3 hGF rfl rfl rfl ?_
      intro b3
      refine lx_boxr 5 hGF rfl rfl rfl ?_
      intro b5
      refine lx_allocr 6 hGF zv23 rfl rfl ?_
      intro b6
      refine lx_nil ?_
      refine xs_plain (E := EE []) ?_
      refine lx_loada 3 rfl rfl Try.isAgg23 Try.sizeOf23 (by rw [List.length_map, ha]) rfl rfl ?_
      refine lx_loada 5 rfl rfl Try.isAgg23 Try.sizeOf23 (by rw [List.length_map, hm]) rfl rfl ?_
      refine lx_call rfl rfl ent11 (sub_pure a m ha hm) rfl rfl ?_
      refine lx_move rfl rfl rfl ?_
      refine lx_ext rfl rfl rfl rfl ?_
      refine lx_ext rfl rfl rfl rfl ?_
      refine lx_allocr 7 hGF zv23 rfl rfl ?_
      intro b7
      refine lx_storea 7 hGF rfl rfl rfl Try.sizeOf23 (by rw [List.length_map, SS_len _ _ _]) (by rw [List.length_map, List.length_replicate]) (one_u64 _) rfl ?_
      refine lx_assign rfl rfl rfl ?_
      refine lx_nil ?_
      refine x_seq ?_
      refine xs_plain (E := EE []) ?_
      refine lx_move rfl rfl rfl ?_
      refine lx_bin (v := .bool true) rfl rfl (fun _ => rfl) (fun w => (bin_eql_u64 _ _ _).trans (congrArg (fun b => Result.ok (Value.bool b) w) (beq_iff_eq.2 h1))) rfl rfl ?_
      refine lx_move rfl rfl rfl ?_
      refine lx_move rfl rfl rfl ?_
      refine lx_bin (v := .bool false) rfl rfl (fun _ => rfl) (fun w => (bin_eql_u64 _ _ _).trans (congrArg (fun b => Result.ok (Value.bool b) w) (beq_eq_false_iff_ne.2 h2))) rfl rfl ?_
      refine lx_pick rfl rfl rfl rfl rfl ?_
      refine lx_nil ?_
      refine x_false rfl ?_
      refine x_skip ?_
      refine xs_plain (E := EE []) ?_
      refine lx_loada 7 rfl rfl Try.isAgg23 Try.sizeOf23 (by rw [List.length_map, SS_len _ _ _]) rfl rfl ?_
      refine lx_storea 6 hGF rfl rfl rfl Try.sizeOf23 (by rw [List.length_map, SS_len _ _ _]) (by rw [List.length_map, List.length_replicate]) (one_u64 _) rfl ?_
      refine lx_nil ?_
      refine x_ret ?_
      repeat (first | refine kseq_ret ?_ | refine kblk_ret ?_)
      exact kret_own 6 rfl rfl rfl Try.isAgg23 Try.sizeOf23 (by rw [List.length_map, SS_len]) (fun w hw => ⟨by rw [RED, if_neg (fun h => h2 h.2)], hp_below hw⟩)
  · skip
    refine xs_plain (E := EE []) ?_
    refine lx_boxr 3 hGF rfl rfl rfl ?_
    intro b3
    refine lx_boxr 5 hGF rfl rfl rfl ?_
    intro b5
    refine lx_allocr 6 hGF zv23 rfl rfl ?_
    intro b6
    refine lx_nil ?_
    refine xs_plain (E := EE []) ?_
    refine lx_loada 3 rfl rfl Try.isAgg23 Try.sizeOf23 (by rw [List.length_map, ha]) rfl rfl ?_
    refine lx_loada 5 rfl rfl Try.isAgg23 Try.sizeOf23 (by rw [List.length_map, hm]) rfl rfl ?_
    refine lx_call rfl rfl ent11 (sub_pure a m ha hm) rfl rfl ?_
    refine lx_move rfl rfl rfl ?_
    refine lx_ext rfl rfl rfl rfl ?_
    refine lx_ext rfl rfl rfl rfl ?_
    refine lx_allocr 7 hGF zv23 rfl rfl ?_
    intro b7
    refine lx_storea 7 hGF rfl rfl rfl Try.sizeOf23 (by rw [List.length_map, SS_len _ _ _]) (by rw [List.length_map, List.length_replicate]) (one_u64 _) rfl ?_
    refine lx_assign rfl rfl rfl ?_
    refine lx_nil ?_
    refine x_seq ?_
    refine xs_plain (E := EE []) ?_
    refine lx_move rfl rfl rfl ?_
    refine lx_bin (v := .bool false) rfl rfl (fun _ => rfl) (fun w => (bin_eql_u64 _ _ _).trans (congrArg (fun b => Result.ok (Value.bool b) w) (beq_eq_false_iff_ne.2 h1))) rfl rfl ?_
    refine lx_move rfl rfl rfl ?_
    refine lx_skip rfl rfl rfl ?_
    refine lx_skip rfl rfl rfl ?_
    refine lx_pick rfl rfl rfl rfl rfl ?_
    refine lx_nil ?_
    refine x_false rfl ?_
    refine x_skip ?_
    refine xs_plain (E := EE []) ?_
    refine lx_loada 7 rfl rfl Try.isAgg23 Try.sizeOf23 (by rw [List.length_map, SS_len _ _ _]) rfl rfl ?_
    refine lx_storea 6 hGF rfl rfl rfl Try.sizeOf23 (by rw [List.length_map, SS_len _ _ _]) (by rw [List.length_map, List.length_replicate]) (one_u64 _) rfl ?_
    refine lx_nil ?_
    refine x_ret ?_
    repeat (first | refine kseq_ret ?_ | refine kblk_ret ?_)
    exact kret_own 6 rfl rfl rfl Try.isAgg23 Try.sizeOf23 (by rw [List.length_map, SS_len]) (fun w hw => ⟨by rw [RED, if_neg (fun h => h1 h.1)], hp_below hw⟩)
/-- What the iterator over the bits reads; what it yields. -/
def Rd37 (bb b : Nat) (a : List (BitVec 64)) (n : Nat) : Cls := fun W => W.cell? ⟨bb, 0, none⟩ = some (.slice (some ⟨b, 0, none⟩) n n) ∧ W.rangeAt b 0 (a.map U64)
def DG (a : List (BitVec 64)) (n : Nat) : List (List Value) := (List.range (64 * n)).map fun j => [I ((64 * n - 1 - j : Nat) : Int), U64 (dig a (64 * n - 1 - j))]
theorem DG_len (a : List (BitVec 64)) (n : Nat) : (DG a n).length = 64 * n := by simp [DG]
theorem DG_get (a : List (BitVec 64)) (n q s : Nat) (hq : q < n) (hs : s < 64) : (DG a n)[64 * (n - (q + 1)) + (64 - (s + 1))]? = some [I ((64 * q + s : Nat) : Int), U64 (dig a (64 * q + s))] := by
  have h : 64 * (n - (q + 1)) + (64 - (s + 1)) < 64 * n := by omega
  rw [DG, List.getElem?_map, List.getElem?_range h]
  simp only [Option.map_some]
  rw [show 64 * n - 1 - (64 * (n - (q + 1)) + (64 - (s + 1))) = 64 * q + s by omega]
theorem DG_at (a : List (BitVec 64)) (n k : Nat) (x : List Value) (h : (DG a n)[k]? = some x) : k < 64 * n ∧ x = [I ((64 * n - 1 - k : Nat) : Int), U64 (dig a (64 * n - 1 - k))] := by
  have hk : k < 64 * n := by
    rcases Nat.lt_or_ge k (64 * n) with h' | h'
    · exact h'
    · rw [List.getElem?_eq_none (by rw [DG_len]; exact h')] at h; cases h
  rw [DG, List.getElem?_map, List.getElem?_range hk] at h
  exact ⟨hk, (Option.some.inj h).symm⟩
theorem digits_calls (sv : Value) (hs : sv.cells = #[sv]) (w : World) (hw : Gt w) : Calls Try.prog 33 [sv].toArray w (fun e w' => ∃ b1, e = .returned (.func (.func 37) #[] #[.pointer (some ⟨b1, 0, none⟩)]) ∧ Grow w w' ∧ w.heap.size ≤ b1 ∧ OwnB w' b1 [sv] 40) := by
  have hGF : BOk Gt (pl w) := gt_low.plain hw
  refine calls_of_X (G := Gt) Try.func33 rfl rfl (Hp (pl w) []) (hp_refl (pl w) trivial rides_true) (good_hp hGF) ?_
  refine xs_plain (E := EE []) ?_
  refine lx_box 1 hGF rfl rfl rfl ?_
  intro b1
  refine lx_assign rfl rfl rfl ?_
  refine lx_nil ?_
  refine xs_plain (E := EE []) ?_
  refine lx_func rfl rfl rfl rfl ?_
  refine lx_assign rfl rfl rfl ?_
  refine lx_nil ?_
  refine x_ret ?_
  repeat (first | refine kseq_ret ?_ | refine kblk_ret ?_)
  exact kret_tmp rfl rfl (fun w hw => ⟨b1, rfl, hp_below hw, (hw.own 1 b1 _ _ rfl).2.elim id False.elim, (by have := (hw.own 1 b1 _ _ rfl).1; rw [hs] at this; exact this)⟩)
theorem digits_seq (bb b : Nat) (a : List (BitVec 64)) (n : Nat) (hn : n ≤ 100) (ha : a.length = n) : SeqOk Try.prog Gt 37 [.pointer (some ⟨bb, 0, none⟩)] (DG a n) (Rd37 bb b a n) := by
  intro l J Jx hJ hJx hRd hGx hY w hj
  have okJ : ∀ k, BOk Gt (Bi w (fun Y => J Y k)) := fun k => ⟨fun _ _ _ h => (hRd _ _ _ h.rid).1, hJ k⟩
  have okX : ∀ k, BOk Gt (Bi w (fun Y => Jx Y k)) := fun k => ⟨fun _ _ _ h => hGx _ _ _ h.rid, hJx k⟩
  have c1 : ∀ k L w', Hp (Bi w (fun Y => J Y k)) L w' → Rd37 bb b a n w' := fun k L w' h => (hRd _ _ _ h.rid).2
  refine calls_of_X (G := Gt) Try.func37 rfl rfl (Hp (Bi w (fun Y => J Y 0)) []) (hp_refl (Bi w _) hj (hJ 0)) (good_hp (okJ 0)) ?_
  refine x_scope ?_
  refine x_seq ?_
  refine x_label ?_
  refine xs_plain (E := EE []) ?_
  refine lx_load rfl Try.isAgg40 (fun w h => (c1 _ _ w h).1) rfl rfl ?_
  refine lx_len rfl (fun _ => len_slice Try.underlying40 _ _ _ _) rfl rfl ?_
  refine lx_bin rfl rfl (fun _ => rfl) (fun _ => bin_sub_i _ _ _ (by unfold inI; omega)) rfl rfl ?_
  refine lx_assign rfl rfl rfl ?_
  refine lx_nil ?_
  refine x_block ?_
  refine x_forB (ι := { i : Nat // i ≤ n }) (fun x => [(0, .func (.yield l) #[] #[]), (1, .pointer (some ⟨bb, 0, none⟩)), (3, I ((x.1 : Int) - 1))]) (fun x => Bi w (fun Y => J Y (64 * (n - x.1)))) (fun x => []) (fun x => x.1) ⟨n, Nat.le_refl _⟩ (fun _ => okJ _) (by rw [Nat.sub_self]) ⟨rfl, rfl, rfl, trivial⟩ trivial ?_
  rintro ⟨i, hi⟩
  dsimp only
  refine x_seq ?_
  refine xs_plain (E := EE []) ?_
  refine lx_move rfl rfl rfl ?_
  refine lx_bin rfl rfl (fun _ => rfl) (fun _ => bin_geq_i _ _ _) rfl rfl ?_
  refine lx_nil ?_
  refine x_if rfl (fun hc => ?_) (fun hc => ?_)
  · simp only [decide_eq_true_eq] at hc
    obtain ⟨q, rfl⟩ : ∃ q, i = q + 1 := ⟨i - 1, by omega⟩
    clear hc
    rw [show ((q + 1 : Nat) : Int) - 1 = (q : Int) by omega]
    refine x_skip ?_
    refine x_seq ?_
    refine x_block ?_
    refine xs_plain (E := EE []) ?_
    refine lx_assign rfl rfl rfl ?_
    refine lx_nil ?_
    refine x_block ?_
    refine x_forB (ι := { r : Nat // r ≤ 64 }) (fun x => [(0, .func (.yield l) #[] #[]), (1, .pointer (some ⟨bb, 0, none⟩)), (3, I (q : Int)), (4, I ((x.1 : Int) - 1))]) (fun x => Bi w (fun Y => J Y (64 * (n - (q + 1)) + (64 - x.1)))) (fun x => []) (fun x => x.1) ⟨64, Nat.le_refl _⟩ (fun _ => okJ _) rfl ⟨rfl, rfl, rfl, rfl, trivial⟩ trivial ?_
    rintro ⟨r, hr⟩
    dsimp only
    refine x_seq ?_
    refine xs_plain (E := EE []) ?_
    refine lx_move rfl rfl rfl ?_
    refine lx_bin rfl rfl (fun _ => rfl) (fun _ => bin_geq_i _ _ _) rfl rfl ?_
    refine lx_nil ?_
    refine x_if rfl (fun hc => ?_) (fun hc => ?_)
    · simp only [decide_eq_true_eq] at hc
      obtain ⟨s, rfl⟩ : ∃ s, r = s + 1 := ⟨r - 1, by omega⟩
      clear hc
      rw [show ((s + 1 : Nat) : Int) - 1 = (s : Int) by omega]
      refine x_skip ?_
      refine x_seq ?_
      refine x_block ?_
      refine xs_plain (E := EE []) ?_
      refine lx_move rfl rfl rfl ?_
      refine lx_move rfl rfl rfl ?_
      refine lx_bin (v := I ((64 * q : Nat) : Int)) rfl rfl (fun _ => rfl) (fun _ => (bin_mul_i _ _ _ (by unfold inI; omega)).trans (by rw [show (64 : Int) * (q : Int) = ((64 * q : Nat) : Int) by omega])) rfl rfl ?_
      refine lx_move rfl rfl rfl ?_
      refine lx_bin (v := I ((64 * q + s : Nat) : Int)) rfl rfl (fun _ => rfl) (fun _ => (bin_add_i _ _ _ (by unfold inI; omega)).trans (by rw [show ((64 * q : Nat) : Int) + (s : Int) = ((64 * q + s : Nat) : Int) by omega])) rfl rfl ?_
      refine lx_load rfl Try.isAgg40 (fun w h => (c1 _ _ w h).1) rfl rfl ?_
      refine lx_move rfl rfl rfl ?_
      refine lx_is1 q rfl rfl Try.underlying40 Try.sizeOf22 (by omega) (by omega) rfl rfl ?_
      refine lx_load rfl Try.isAgg22 (fun w h => (c1 _ _ w h).2 q _ (gm U64 a 0 q (by omega))) rfl rfl ?_
      refine lx_move rfl rfl rfl ?_
      refine lx_bin rfl rfl (fun _ => rfl) (fun _ => bin_shr_i_u64 _ _ _ (by omega)) rfl rfl ?_
      refine lx_bin (v := U64 (dig a (64 * q + s))) rfl rfl (fun _ => rfl) (fun _ => (bin_and_u64 _ _ _).trans (by rw [← dig_at a q s (by omega)]; rfl)) rfl rfl ?_
      refine lx_yield (hY.b (k := 64 * (n - (q + 1)) + (64 - (s + 1))) (DG_get a n q s (by omega) (by omega)) w) (okJ _) (okX _) rfl rfl rfl rfl rfl ?_ ?_
      · skip
        refine lx_un rfl (fun _ => un_not _) rfl rfl ?_
        refine lx_nil ?_
        refine x_false rfl ?_
        refine x_skip ?_
        refine x_plain (E := EE []) ?_
        refine lx_move rfl rfl rfl ?_
        refine lx_bin rfl rfl (fun _ => rfl) (fun _ => bin_sub_i _ _ _ (by unfold inI; omega)) rfl rfl ?_
        refine lx_assign rfl rfl rfl ?_
        refine lx_nil ?_
        rw [show 64 * (n - (q + 1)) + (64 - (s + 1)) + 1 = 64 * (n - (q + 1)) + (64 - s) by omega]
        repeat (refine kblk_n ?_)
        refine kseq_n ?_
        exact ⟨rfl, ⟨s, by omega⟩, _, by show s < s + 1; omega, rfl, ⟨rfl, rfl, rfl, rfl, trivial⟩, trivial⟩
      · skip
        refine lx_un rfl (fun _ => un_not _) rfl rfl ?_
        refine lx_nil ?_
        refine x_true rfl ?_
        refine x_exit ?_
        repeat (first | refine kseq_x ?_ | refine kblk_x ?_ | refine kblk_p rfl ?_)
        refine kng_n ?_
        exact kend_none rfl (fun w hw => ⟨⟨_, rfl⟩, .inr ⟨_, drop_yof (hJx _) hw.rid⟩⟩)
    · simp only [decide_eq_false_iff_not] at hc
      obtain rfl : r = 0 := by omega
      clear hc
      rw [show 64 * (n - (q + 1)) + (64 - 0) = 64 * (n - q) by omega]
      refine x_exit ?_
      refine x_plain (E := EE []) ?_
      refine lx_move rfl rfl rfl ?_
      refine lx_bin rfl rfl (fun _ => rfl) (fun _ => bin_sub_i _ _ _ (by unfold inI; omega)) rfl rfl ?_
      refine lx_assign rfl rfl rfl ?_
      refine lx_nil ?_
      repeat (refine kblk_n ?_)
      refine kseq_n ?_
      exact ⟨rfl, ⟨q, by omega⟩, _, by show q < q + 1; omega, rfl, ⟨rfl, rfl, rfl, trivial⟩, trivial⟩
  · simp only [decide_eq_false_iff_not] at hc
    obtain rfl : i = 0 := by omega
    refine x_exit ?_
    repeat (first | refine kseq_x ?_ | refine kblk_x ?_ | refine kblk_p rfl ?_)
    refine kng_n ?_
    refine kend_none rfl (fun w hw => ⟨⟨_, rfl⟩, .inl ?_⟩)
    have := drop_yof (hJ _) hw.rid
    rw [DG_len]
    exact this
end Go.Proofs.Yteohckfbphdngaa
