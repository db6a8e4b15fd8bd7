/-
  The walk of the law LimbsBits.
-/
import Derived.Test.YteohckfbphdngaaN12
namespace Go.Proofs.Yteohckfbphdngaa
open Go.RowKit
set_option maxRecDepth 100000
set_option maxHeartbeats 1000000
structure WtV (a : List (BitVec 64)) (b2 : Nat) where
  (k : Nat) (a0 : Option Addr) (cap : Nat) (own : Hl)
  hk : k ≤ 384
  hs : OwnV ((2, b2, a.map U64, 23) :: own) 50 3 a0 cap (NI (ones a k))
  ho : own = [] ∨ ∃ x, own = [(50, x)]
theorem subB_own {b2 : Nat} {c : List Value} {t : TypeId} {own : Hl} (h : own = [] ∨ ∃ x, own = [(50, x)]) : SubB ((2, b2, c, t) :: own) ((2, b2, c, t) :: own) := by
  rcases h with rfl | ⟨x, rfl⟩
  · exact ⟨rfl, trivial⟩
  · exact ⟨rfl, rfl, trivial⟩
theorem own_free {b2 : Nat} {c : List Value} {t : TypeId} {own : Hl} (h : own = [] ∨ ∃ x, own = [(50, x)]) (n : Nat) (h2 : Nat.beq 2 n = false) (h50 : Nat.beq 50 n = false) : lkB ((2, b2, c, t) :: own) n = none := by
  rcases h with rfl | ⟨x, rfl⟩ <;> simp [lkB, h2, h50]
theorem ones_snoc (a : List (BitVec 64)) (k : Nat) (h : dig a (383 - k) = 1) : NI (ones a k) ++ [I ((383 - k : Nat) : Int)] = NI (ones a (k + 1)) := by
  rw [ones, if_pos h]
  simp [NI]
theorem cut_cells {w : World} {a0 : Option Addr} {cap : Nat} {cs : List Value} (h : CellsAt w a0 cs) (h0 : a0 = none ∨ ∃ b, a0 = some ⟨b, 0, none⟩) : CellsAt w (if cap = 0 then a0 else a0.map (·.add (0 * 1))) cs := by
  split
  · exact h
  · rcases h0 with rfl | ⟨b, rfl⟩
    · exact h
    · exact h
theorem OwnV.form {L : Hl} {n : Nat} {e : TypeId} {a0 : Option Addr} {cap : Nat} {xs : List Value} (h : OwnV L n e a0 cap xs) : a0 = none ∨ ∃ b, a0 = some ⟨b, 0, none⟩ := by
  rcases h with ⟨h, _⟩ | ⟨b, _, h, _⟩
  · exact .inl h
  · exact .inr ⟨b, h⟩
theorem OwnV.app {L : Hl} {n : Nat} {e : TypeId} {a0 : Option Addr} {cap : Nat} {xs : List Value} (h : OwnV L n e a0 cap xs) (A : Hl) : OwnV (L ++ A) n e a0 cap xs := by
  rcases h with h | ⟨b, c, h1, h2, h3⟩
  · exact .inl h
  · exact .inr ⟨b, c, h1, by rw [lkB_append, h2], h3⟩

theorem bits_law (a : List (BitVec 64)) (ha : a.length = 6) (z : Int) : Pure Try.prog Gt 8 [.agg ((a).map U64).toArray, I z] (.bool true) := by
  intro w hw
  have hGF : BOk Gt (pl w) := gt_low.plain hw
  refine calls_of_X (G := Gt) Try.func8 rfl rfl (Hp (pl w) []) (hp_refl (pl w) trivial rides_true) (good_hp hGF) ?_
  refine xs_plain (E := EE [27]) ?_
  refine lx_boxr 2 hGF rfl rfl rfl ?_
  intro b2
  refine lx_assign rfl rfl rfl ?_
  refine lx_nil ?_
  refine x_seq ?_
  refine xs_plain (E := EE [27]) ?_
  refine lx_call rfl rfl ent9 (known_pure) rfl rfl ?_
  refine lx_un (v := .bool false) rfl (fun _ => un_not _) rfl rfl ?_
  refine lx_nil ?_
  refine x_false rfl ?_
  refine x_skip ?_
  refine xs_plain (E := EE [27]) ?_
  refine lx_assign rfl rfl rfl ?_
  refine lx_nil ?_
  refine x_seq ?_
  refine xs_plain (E := EE [27]) ?_
  refine lx_assign rfl rfl rfl ?_
  refine lx_nil ?_
  refine x_block ?_
  refine x_for (ι := WtV a b2) (fun x => [(1, I z), (2, .pointer (some ⟨b2, 0, none⟩)), (5, .slice x.a0 (NI (ones a x.k)).length x.cap), (6, I (((384 - x.k : Nat) : Int) - 1))]) (fun x => (2, b2, a.map U64, 23) :: x.own) (fun x => 384 - x.k) ⟨0, none, 0, [], by omega, ownV_nil _ _ _, .inl rfl⟩ hGF ⟨rfl, rfl, rfl, rfl, trivial⟩ ⟨rfl, trivial⟩ ?_
  rintro ⟨k, a0, cap, own, hk, hs, ho⟩
  dsimp only
  have hol := ones_le a k
  refine x_seq ?_
  refine xs_plain (E := EE [27]) ?_
  refine lx_move rfl rfl rfl ?_
  refine lx_bin rfl rfl (fun _ => rfl) (fun _ => bin_geq_i _ _ _) rfl rfl ?_
  refine lx_nil ?_
  refine x_if rfl (fun hc => ?_) (fun hc => ?_)
  · simp only [decide_eq_true_eq] at hc
    rw [show ((384 - k : Nat) : Int) - 1 = ((383 - k : Nat) : Int) by omega]
    refine x_skip ?_
    refine x_seq ?_
    refine x_block ?_
    refine xs_plain (E := EE [27]) ?_
    refine lx_move rfl rfl rfl ?_
    refine lx_bin (v := I (((383 - k) / 64 : Nat) : Int)) rfl rfl (fun _ => rfl) (fun _ => bin_quo_i _ _ _ (by decide) (show inI (((383 - k) / 64 : Nat) : Int) by unfold inI; omega)) rfl rfl ?_
    refine lx_ia0 (((383 - k) / 64)) rfl rfl Try.underlying23 Try.sizeOf22 (by omega) (by omega) rfl rfl ?_
    refine lx_loadm 2 U64 0 rfl rfl Try.isAgg22 (by rw [ha]; omega) rfl rfl ?_
    refine lx_move rfl rfl rfl ?_
    refine lx_bin (v := I (((383 - k) % 64 : Nat) : Int)) rfl rfl (fun _ => rfl) (fun _ => bin_rem_i _ _ _ (by decide)) rfl rfl ?_
    refine lx_bin (v := U64 (a.getD ((383 - k) / 64) 0 >>> ((383 - k) % 64))) rfl rfl (fun _ => rfl) (fun _ => bin_shr_i_u64 _ _ _ (by omega)) rfl rfl ?_
    refine lx_bin (v := U64 (dig a (383 - k))) rfl rfl (fun _ => rfl) (fun _ => bin_and_u64 _ _ _) rfl rfl ?_
    refine lx_bin rfl rfl (fun _ => rfl) (fun _ => bin_eql_u64 _ _ _) rfl rfl ?_
    refine lx_nil ?_
    refine x_if rfl (fun hc => ?_) (fun hc => ?_)
    · have h1 : dig a (383 - k) = 1 := beq_iff_eq.1 hc
      refine x_plain (E := EE [27]) ?_
      refine lx_move rfl rfl rfl ?_
      refine lx_move rfl rfl rfl ?_
      refine lx_bslV 24 [I ((383 - k : Nat) : Int)] hGF rfl rfl rfl (by decide) (by decide) Try.underlying51 Try.sizeOf3 Try.zeroValue3 rfl rfl rfl ?_
      intro b24
      refine lx_appendV (xs := NI (ones a k)) (ys := [I ((383 - k : Nat) : Int)]) 50 hGF rfl rfl Try.underlying51 Try.underlying51 ti3 rfl hs (fun w' h => hp_row (n := 24) rfl w' h) rfl (by simp) (by rw [NI_len]; show ((ones a k).length + 1) * 8 ≤ _; omega) (by rw [NI_len]; show (ones a k).length + 1 ≤ _; omega) rfl rfl (fun b25 c25 cap25 e25 l25 t25 => ?_)
      subst e25
      rw [ones_snoc a k h1] at l25 t25 ⊢
      refine lx_assign rfl rfl rfl ?_
      refine lx_nil ?_
      refine x_plain (E := EE [27]) ?_
      refine lx_move rfl rfl rfl ?_
      refine lx_bin (v := I (((384 - (k + 1) : Nat) : Int) - 1)) rfl rfl (fun _ => rfl) (fun _ => (bin_sub_i _ _ _ (by unfold inI; omega)).trans (by rw [show (((383 - k : Nat) : Int) - 1) = ((384 - (k + 1) : Nat) : Int) - 1 by omega])) rfl rfl ?_
      refine lx_assign rfl rfl rfl ?_
      refine lx_nil ?_
      repeat (refine kblk_n ?_)
      refine kseq_n ?_
      exact ⟨rfl, ⟨k + 1, some ⟨b25, 0, none⟩, _, [(50, b25, c25, 3)], by omega, .inr ⟨b25, c25, rfl, rfl, rfl, l25, t25⟩, .inr ⟨_, rfl⟩⟩, _, by show 384 - (k + 1) < 384 - k; omega, rfl, ⟨rfl, rfl, rfl, rfl, trivial⟩, ⟨rfl, rfl, trivial⟩⟩
    · have h1 : ¬ dig a (383 - k) = 1 := beq_eq_false_iff_ne.1 hc
      refine x_skip ?_
      refine x_plain (E := EE [27]) ?_
      refine lx_move rfl rfl rfl ?_
      refine lx_bin (v := I (((384 - (k + 1) : Nat) : Int) - 1)) rfl rfl (fun _ => rfl) (fun _ => (bin_sub_i _ _ _ (by unfold inI; omega)).trans (by rw [show (((383 - k : Nat) : Int) - 1) = ((384 - (k + 1) : Nat) : Int) - 1 by omega])) rfl rfl ?_
      refine lx_assign rfl rfl rfl ?_
      refine lx_nil ?_
      repeat (refine kblk_n ?_)
      refine kseq_n ?_
      exact ⟨rfl, ⟨k + 1, a0, cap, own, by omega, by rw [ones, if_neg h1]; exact hs, ho⟩, _, by show 384 - (k + 1) < 384 - k; omega, rfl, ⟨rfl, rfl, (show lk _ 5 = some (.slice a0 (NI (ones a (k + 1))).length cap) by rw [ones, if_neg h1]; rfl), rfl, trivial⟩, subB_own ho⟩
  · simp only [decide_eq_false_iff_not] at hc
    obtain rfl : k = 384 := by omega
    clear hc
    refine x_exit ?_
    refine xs_plain (E := EE [27]) ?_
    refine lx_move rfl rfl rfl ?_
    refine lx_move rfl rfl rfl ?_
    refine lx_len (n := ((ones a 384).length : Int)) rfl (fun _ => (len_slice Try.underlying51 _ _ _ _).trans (by rw [NI_len])) rfl rfl ?_
    refine lx_bin rfl rfl (fun _ => rfl) (fun _ => bin_add_i _ _ _ (by unfold inI; omega)) rfl rfl ?_
    refine lx_call rfl rfl ent25 (place_pure z (((ones a 384).length : Int) + 1) (by omega) (by unfold inI; omega)) rfl rfl ?_
    obtain ⟨q, hq, hq2⟩ : ∃ q : Nat, z % (((ones a 384).length : Int) + 1) = (q : Int) ∧ q ≤ (ones a 384).length := ⟨(z % (((ones a 384).length : Int) + 1)).toNat, by have := Int.emod_nonneg z (by omega : (((ones a 384).length : Int) + 1) ≠ 0); omega, by have := Int.emod_nonneg z (by omega : (((ones a 384).length : Int) + 1) ≠ 0); have := Int.emod_lt_of_pos z (by omega : (0 : Int) < (((ones a 384).length : Int) + 1)); omega⟩
    rw [hq]
    clear hq
    refine lx_assign rfl rfl rfl ?_
    refine lx_nil ?_
    refine xs_draws (E := EE [27]) [0, 1, 3, 4, 5, 2, 6, 7, 8, 10, 9, 11, 12, 13] mixed rfl (by kernel_rfl) (by kernel_rfl) (by kernel_rfl) ?_
    refine lx_loada 2 rfl rfl Try.isAgg23 Try.sizeOf23 (by rw [List.length_map, ha]) rfl rfl ?_
    refine lx_move rfl rfl rfl ?_
    refine lx_move rfl rfl rfl ?_
    refine lx_move rfl rfl rfl ?_
    refine lx_slsl (l := 0) (h' := q) rfl Try.underlying51 Try.sizeOf3 rfl rfl ⟨Nat.zero_le _, by have := hs.le; rw [NI_len] at this; omega⟩ rfl rfl ?_
    rw [Nat.sub_zero, Nat.sub_zero]
    refine lx_callE rfl rfl ent27 rfl rfl (fun w' hw' => (walk_calls a ha q (by omega) w' (hGF.g _ _ _ hw')).mono fun e w'' h => ?_)
    obtain ⟨a33, cap33, rfl, hg, hcl⟩ := h
    obtain ⟨A33, hA33, hc33, hf33⟩ := cln_news 33 hw' rides_true hg hcl (own_free ho 33 rfl rfl)
    refine ⟨_, _, rfl, good_hp hGF, hA33, ?_⟩
    clear hw' hg hcl hA33
    refine lx_callC rfl rfl ent26 (fun w' hw' hG => ints_calls ((ones a 384).take q) (by rw [List.length_take]; omega) _ _ _ _ _ _ (NI_len _).symm (by rw [List.length_take, Nat.min_eq_left hq2]) w' hG (hc33 _ w' hw') (by rw [← NI_take]; exact (cut_cells ((hs.app A33).cells w' hw') hs.form).take q)) rfl rfl ?_
    refine lx_move rfl rfl rfl ?_
    refine lx_loada 2 rfl rfl Try.isAgg23 Try.sizeOf23 (by rw [List.length_map, ha]) rfl rfl ?_
    refine lx_move rfl rfl rfl ?_
    refine lx_callE rfl rfl ent27 rfl rfl (fun w' hw' => (walk_calls a ha 400 (by omega) w' (hGF.g _ _ _ hw')).mono fun e w'' h => ?_)
    obtain ⟨a40, cap40, rfl, hg, hcl⟩ := h
    obtain ⟨A40, hA40, hc40, hf40⟩ := cln_news 40 hw' rides_true hg hcl (by rw [lkB_append, own_free ho 40 rfl rfl]; exact hf33 40 (by decide))
    refine ⟨_, _, rfl, good_hp hGF, hA40, ?_⟩
    clear hw' hg hcl hA40
    refine lx_callC rfl rfl ent26 (fun w' hw' hG => ints_calls (ones a 384) (by omega) _ _ _ _ _ _ (by rw [NI_len, List.take_of_length_le (by omega)]) (NI_len _).symm w' hG (by have := hc40 _ w' hw'; rw [List.take_of_length_le (by omega)] at this; exact this) (((hs.app A33).app A40).cells w' hw')) rfl rfl ?_
    refine lx_pick rfl rfl rfl rfl rfl ?_
    refine lx_assign rfl rfl rfl ?_
    refine lx_nil ?_
    refine x_ret ?_
    repeat (first | refine kseq_ret ?_ | refine kblk_ret ?_)
    exact kret_tmp rfl rfl (fun w hw => ⟨rfl, hp_below hw⟩)
end Go.Proofs.Yteohckfbphdngaa
