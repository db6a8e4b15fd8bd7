/-
  The walks of the law LimbsBits and of its helps.
-/
import Derived.Test.YteohckfbphdngaaN9
import Derived.Test.YteohckfbphdngaaE22
namespace Go.Proofs.Yteohckfbphdngaa
open Go.RowKit
set_option maxRecDepth 100000
set_option maxHeartbeats 1000000
theorem ti3 : TI Try.prog 3 (.int .i64 0) 1 8 := ti_mk (by kernel_rfl)
theorem tmod_neg {k n : Int} (hn : 0 < n) (h : k.tmod n < 0) : k.tmod n + n = k % n := by
  rw [Int.tmod_eq_emod] at h ⊢
  have := Int.emod_nonneg k (by omega : n ≠ 0)
  split at h
  · omega
  · rename_i h1
    rw [if_neg h1]; omega
theorem tmod_pos {k n : Int} (hn : 0 < n) (h : ¬ k.tmod n < 0) : k.tmod n = k % n := by
  rw [Int.tmod_eq_emod] at h ⊢
  have := Int.emod_lt_of_pos k hn
  split at h
  · rename_i h1
    rw [if_pos h1]; omega
  · omega
def NI (l : List Nat) : List Value := l.map fun n : Nat => I (n : Int)
theorem NI_len (l : List Nat) : (NI l).length = l.length := by simp [NI]
theorem NI_at (l : List Nat) (i : Nat) (h : i < l.length) : (NI l)[i]? = some (I ((l.getD i 0 : Nat) : Int)) := by simp [NI, List.getD_eq_getElem?_getD, h]
theorem NI_one (l : List Nat) : (NI l).all (·.oneCell') = true := by simp [NI, Value.oneCell']
theorem NI_take (l : List Nat) (k : Nat) : (NI l).take k = NI (l.take k) := by simp [NI, List.map_take]
theorem x_cls {P : Program} {G : Cls} {ro : Option Nat} {N : Nat} {ds : List Deferred} {F : Fr} {C C' : Cls} {K : KK} {c : Code} (hC : ∀ w, C w → C' w) (hG : Good G C') (h : X P G ro N ds c F C' K) : X P G ro N ds c F C K :=
  fun _ a w ha hw => h hG a w ha (hC w hw)

theorem place_pure (k n : Int) (hn : 0 < n) (hn' : inI n) : Pure Try.prog Gt 25 [I k, I n] (I (k % n)) := by
  intro w hw
  have hGF : BOk Gt (pl w) := gt_low.plain hw
  refine calls_of_X (G := Gt) Try.func25 rfl rfl (Hp (pl w) []) (hp_refl (pl w) trivial rides_true) (good_hp hGF) ?_
  refine xs_plain (E := EE []) ?_
  refine lx_assign rfl rfl rfl ?_
  refine lx_nil ?_
  refine xs_plain (E := EE []) ?_
  refine lx_move rfl rfl rfl ?_
  refine lx_move rfl rfl rfl ?_
  refine lx_bin (v := I (k.tmod n)) rfl rfl (fun _ => rfl) (fun _ => bin_rem_i _ _ _ (by omega)) rfl rfl ?_
  refine lx_assign rfl rfl rfl ?_
  refine lx_nil ?_
  refine x_seq ?_
  refine xs_plain (E := EE []) ?_
  refine lx_move rfl rfl rfl ?_
  refine lx_bin rfl rfl (fun _ => rfl) (fun _ => bin_lss_i _ _ _) rfl rfl ?_
  refine lx_nil ?_
  refine x_if rfl (fun hc => ?_) (fun hc => ?_)
  · simp only [decide_eq_true_eq] at hc
    refine x_plain (E := EE []) ?_
    refine lx_move rfl rfl rfl ?_
    refine lx_move rfl rfl rfl ?_
    refine lx_bin (v := I (k % n)) rfl rfl (fun _ => rfl) (fun _ => (bin_add_i _ _ _ (by rw [tmod_neg hn hc]; unfold inI at *; have := Int.emod_nonneg k (by omega : n ≠ 0); have := Int.emod_lt_of_pos k hn; omega)).trans (by rw [tmod_neg hn hc])) rfl rfl ?_
    refine lx_assign rfl rfl rfl ?_
    refine lx_nil ?_
    refine xs_plain (E := EE []) ?_
    refine lx_move rfl rfl rfl ?_
    refine lx_assign rfl rfl rfl ?_
    refine lx_nil ?_
    refine x_ret ?_
    repeat (first | refine kseq_ret ?_ | refine kblk_ret ?_)
    exact kret_tmp rfl rfl (fun w hw => ⟨rfl, hp_below hw⟩)
  · simp only [decide_eq_false_iff_not] at hc
    rw [tmod_pos hn hc]
    refine x_skip ?_
    refine xs_plain (E := EE []) ?_
    refine lx_move rfl rfl rfl ?_
    refine lx_assign rfl rfl rfl ?_
    refine lx_nil ?_
    refine x_ret ?_
    repeat (first | refine kseq_ret ?_ | refine kblk_ret ?_)
    exact kret_tmp rfl rfl (fun w hw => ⟨rfl, hp_below hw⟩)
theorem ints_calls (xs : List Nat) (hx : xs.length ≤ 1000) (a1 : Option Addr) (len1 cap1 : Nat) (a2 : Option Addr) (len2 cap2 : Nat) (hl1 : xs.length = len1) (hl2 : xs.length = len2) (w : World) (hw : Gt w) (h1 : CellsAt w a1 (NI xs)) (h2 : CellsAt w a2 (NI xs)) :
    Calls Try.prog 26 [.slice a1 len1 cap1, .slice a2 len2 cap2].toArray w (fun e w' => e = .returned (.bool true) ∧ Grow w w') := by
  have hGF : BOk Gt (pl w) := gt_low.plain hw
  subst hl1
  subst hl2
  refine calls_of_X (G := Gt) Try.func26 rfl rfl (Hp (pl w) []) (hp_refl (pl w) trivial rides_true) (good_hp hGF) ?_
  refine xs_plain (E := EE []) ?_
  refine lx_assign rfl rfl rfl ?_
  refine lx_nil ?_
  refine x_seq ?_
  refine xs_plain (E := EE []) ?_
  refine lx_move rfl rfl rfl ?_
  refine lx_len rfl (fun _ => len_slice Try.underlying51 _ _ _ _) rfl rfl ?_
  refine lx_move rfl rfl rfl ?_
  refine lx_len rfl (fun _ => len_slice Try.underlying51 _ _ _ _) rfl rfl ?_
  refine lx_bin (v := .bool false) rfl rfl (fun _ => rfl) (fun w => (bin_neq_i _ _ _).trans (congrArg (fun b => Result.ok (Value.bool b) w) (bne_self_eq_false _))) rfl rfl ?_
  refine lx_nil ?_
  refine x_false rfl ?_
  refine x_skip ?_
  refine x_seq ?_
  refine xs_plain (E := EE []) ?_
  refine lx_assign rfl rfl rfl ?_
  refine lx_nil ?_
  refine x_block ?_
  refine x_for (ι := { i : Nat // i ≤ xs.length }) (fun x => [(0, .slice a1 xs.length cap1), (1, .slice a2 xs.length cap2), (5, I (x.1 : Int))]) (fun x => []) (fun x => xs.length - x.1) ⟨0, by omega⟩ hGF ⟨rfl, rfl, rfl, trivial⟩ trivial ?_
  rintro ⟨i, hi⟩
  dsimp only
  refine x_seq ?_
  refine xs_plain (E := EE []) ?_
  refine lx_move rfl rfl rfl ?_
  refine lx_move rfl rfl rfl ?_
  refine lx_len rfl (fun _ => len_slice Try.underlying51 _ _ _ _) rfl rfl ?_
  refine lx_bin rfl rfl (fun _ => rfl) (fun _ => bin_lss_i _ _ _) rfl rfl ?_
  refine lx_nil ?_
  refine x_if rfl (fun hc => ?_) (fun hc => ?_)
  · simp only [decide_eq_true_eq] at hc
    obtain ⟨ad1, rfl, _⟩ := h1 i _ (NI_at xs i (by omega))
    obtain ⟨ad2, rfl, _⟩ := h2 i _ (NI_at xs i (by omega))
    refine x_skip ?_
    refine x_seq ?_
    refine x_block ?_
    refine xs_drawn (E := EE []) mixed (by kernel_rfl) (by kernel_rfl) (by kernel_rfl) ?_
    refine lx_move rfl rfl rfl ?_
    refine lx_move rfl rfl rfl ?_
    refine lx_isA i rfl rfl Try.underlying51 Try.sizeOf3 rfl (by omega) rfl rfl ?_
    refine lx_load rfl Try.isAgg3 (fun w' h => by obtain ⟨ad', e, hc⟩ := (h1.grow (hp_below h)) i _ (NI_at xs i (by omega)); cases e; exact hc) rfl rfl ?_
    refine lx_move rfl rfl rfl ?_
    refine lx_move rfl rfl rfl ?_
    refine lx_isA i rfl rfl Try.underlying51 Try.sizeOf3 rfl (by omega) rfl rfl ?_
    refine lx_load rfl Try.isAgg3 (fun w' h => by obtain ⟨ad', e, hc⟩ := (h2.grow (hp_below h)) i _ (NI_at xs i (by omega)); cases e; exact hc) rfl rfl ?_
    refine lx_bin (v := .bool false) rfl rfl (fun _ => rfl) (fun w => (bin_neq_i _ _ _).trans (congrArg (fun b => Result.ok (Value.bool b) w) (bne_self_eq_false _))) rfl rfl ?_
    refine lx_nil ?_
    refine x_false rfl ?_
    refine x_skip ?_
    refine x_plain (E := EE []) ?_
    refine lx_move rfl rfl rfl ?_
    refine lx_bin rfl rfl (fun _ => rfl) (fun _ => bin_add_i _ _ _ (by unfold inI; omega)) rfl rfl ?_
    refine lx_assign rfl rfl rfl ?_
    refine lx_nil ?_
    repeat (refine kblk_n ?_)
    refine kseq_n ?_
    exact ⟨rfl, ⟨i + 1, by omega⟩, _, by show xs.length - (i + 1) < xs.length - i; omega, rfl, ⟨rfl, rfl, rfl, trivial⟩, trivial⟩
  · obtain rfl : i = xs.length := by simp at hc; omega
    refine x_exit ?_
    refine xs_plain (E := EE []) ?_
    refine lx_assign rfl rfl rfl ?_
    refine lx_nil ?_
    refine x_ret ?_
    repeat (first | refine kseq_ret ?_ | refine kblk_ret ?_)
    exact kret_tmp rfl rfl (fun w hw => ⟨rfl, hp_below hw⟩)
structure WkV where
  (a0 : Option Addr) (cap : Nat) (own : Hl)
theorem take_snoc (l : List Nat) (k n : Nat) (h : l[k]? = some n) : NI (l.take k) ++ [I (n : Int)] = NI (l.take (k + 1)) := by
  rw [List.take_add_one, h]
  simp [NI]
theorem NIt_len (l : List Nat) (k : Nat) (h : k ≤ l.length) : (NI (l.take k)).length = k := by rw [NI_len, List.length_take, Nat.min_eq_left h]
theorem walk_calls (a : List (BitVec 64)) (ha : a.length = 6) (m : Nat) (hm : m ≤ 1000) (w : World) (hw : Gt w) :
    Calls Try.prog 27 [.agg ((a).map U64).toArray, I (m : Int)].toArray w (fun e w' => ∃ a0 cap, e = .returned (.slice a0 (NI ((ones a 384).take m)).length cap) ∧ Grow w w' ∧ ClnV 3 w w' (NI ((ones a 384).take m)) a0 cap) := by
  have hGF : BOk Gt (pl w) := gt_low.plain hw
  have hfin : ∀ {L : Hl} {a0 : Option Addr} {cap : Nat} {k : Nat} {w' : World}, OwnV L 50 3 a0 cap (NI ((ones a 384).take k)) → (ones a 384).take k = (ones a 384).take m → Hp (pl w) L w' → ∃ a1 cap1, Ending.returned (.slice a0 (NI ((ones a 384).take k)).length cap) = .returned (.slice a1 (NI ((ones a 384).take m)).length cap1) ∧ Grow w w' ∧ ClnV 3 w w' (NI ((ones a 384).take m)) a1 cap1 := fun {L a0 cap k w'} h e hp => by
    rw [← e]
    exact ⟨a0, cap, rfl, hp_below hp, h.cln hp⟩
  refine calls_of_XM (G := Gt) Try.func27 rfl rfl (Hp (pl w) []) (hp_refl (pl w) trivial rides_true) (good_hp hGF) ?_
  refine xs_plain (E := EE [28]) ?_
  refine lx_boxr 2 hGF rfl rfl rfl ?_
  intro b2
  refine lx_box 3 hGF rfl rfl rfl ?_
  intro b3
  refine lx_assign rfl rfl rfl ?_
  refine lx_nil ?_
  refine xs_plain (E := EE [28]) ?_
  refine lx_alloc 5 hGF Try.zeroValue51 rfl rfl ?_
  intro b5
  refine lx_nil ?_
  refine xs_plain (E := EE [28]) ?_
  refine lx_loada 2 rfl rfl Try.isAgg23 Try.sizeOf23 (by rw [List.length_map, ha]) rfl rfl ?_
  refine lx_callE rfl rfl ent28 rfl rfl (fun w' hw' => (bits_calls a ha w' (hGF.g _ _ _ hw')).mono fun e w'' h => ?_)
  obtain ⟨c1, rfl, hg, h1, ho⟩ := h
  refine ⟨_, _, rfl, good_hp hGF, hw'.news rides_true hg [(28, c1, a.map U64, 23)] ?_ inj_one, ?_⟩
  · intro n' b' c' t' hl
    rcases lkB_cons hl with ⟨_, e⟩ | ⟨_, hl⟩
    · cases e; exact ⟨h1, ho⟩
    · cases hl
  clear hw' hg h1 ho
  refine lx_assign rfl rfl rfl ?_
  refine lx_nil ?_
  refine x_seq ?_
  refine xs_plain (E := EE [28]) ?_
  refine lx_move rfl rfl rfl ?_
  refine lx_bin (v := .bool false) rfl rfl (fun _ => rfl) (fun w => bin_eq_fn Try.underlying57 _ _ _ w) rfl rfl ?_
  refine lx_nil ?_
  refine x_false rfl ?_
  refine x_skip ?_
  refine x_seq ?_
  refine xs_plain (E := EE [28]) ?_
  refine lx_move rfl rfl rfl ?_
  refine lx_nil ?_
  refine x_block ?_
  refine x_rangeS (ι := Nat × WkV) (fun _ => pl w) (fun _ _ => pl w) (fun _ => hGF) (fun _ _ => hGF) (fun _ => rfl) (fun _ _ => rfl) rfl rfl ent36 (bits_seq c1 a ha) (fun x hx => by obtain ⟨k, hk, rfl⟩ := List.mem_map.1 hx; rfl) rfl (fun k x => (x.1 = k ∧ k ≤ (ones a 384).length ∧ k ≤ m) ∧ OwnV ((2, b2, a.map U64, 23) :: (3, b3, [I (m : Int)], 3) :: (5, b5, [.slice x.2.a0 (NI ((ones a 384).take x.1)).length x.2.cap], 51) :: (28, c1, a.map U64, 23) :: x.2.own) 50 3 x.2.a0 x.2.cap (NI ((ones a 384).take x.1))) (fun x => (2, b2, a.map U64, 23) :: (3, b3, [I (m : Int)], 3) :: (5, b5, [.slice x.2.a0 (NI ((ones a 384).take x.1)).length x.2.cap], 51) :: (28, c1, a.map U64, 23) :: x.2.own) (fun cd _ L' => cd = .exit 0 ∧ m ≤ (ones a 384).length ∧ ∃ s : WkV, OwnV ((2, b2, a.map U64, 23) :: (3, b3, [I (m : Int)], 3) :: (5, b5, [.slice s.a0 (NI ((ones a 384).take m)).length s.cap], 51) :: (28, c1, a.map U64, 23) :: s.own) 50 3 s.a0 s.cap (NI ((ones a 384).take m)) ∧ L' = (2, b2, a.map U64, 23) :: (3, b3, [I (m : Int)], 3) :: (5, b5, [.slice s.a0 (NI ((ones a 384).take m)).length s.cap], 51) :: (28, c1, a.map U64, 23) :: s.own) (0, ⟨none, 0, []⟩) ⟨⟨rfl, Nat.zero_le _, Nat.zero_le _⟩, ownV_nil _ _ _⟩ ⟨rfl, rfl, rfl, rfl, trivial⟩ (fun k x Y w' hs h => hp_row (n := 28) rfl w' h) ?_ ?_ ?_
  · rintro k x hx ⟨k', s⟩ hs R hR
    obtain ⟨⟨hkk, hkl, hkm⟩, hs2⟩ := hs
    dsimp only at hkk hs2 ⊢
    have hkk := hkk.symm
    subst hkk
    obtain ⟨n, hxn, rfl⟩ : ∃ n : Nat, (ones a 384)[k]? = some n ∧ [I (n : Int)] = x := by rw [BT, List.getElem?_map] at hx; cases h : (ones a 384)[k]? with | none => rw [h] at hx; cases hx | some y => rw [h] at hx; exact ⟨y, rfl, Option.some.inj hx⟩
    have hk1 : k + 1 ≤ (ones a 384).length := (List.getElem?_eq_some_iff.1 hxn).1
    have hol := ones_le a 384
    refine x_plain (E := EE [28]) ?_
    refine lx_assign rfl rfl rfl ?_
    refine lx_nil ?_
    refine ⟨rfl, _, rfl, ?_⟩
    refine x_block ?_
    refine x_seq ?_
    refine xs_plain (E := EE [28]) ?_
    refine lx_loadl 5 rfl rfl rfl Try.isAgg51 rfl rfl ?_
    refine lx_len (n := (k : Int)) rfl (fun _ => (len_slice Try.underlying51 _ _ _ _).trans (by rw [NIt_len _ _ hkl])) rfl rfl ?_
    refine lx_loadl 3 rfl rfl rfl Try.isAgg3 rfl rfl ?_
    refine lx_bin rfl rfl (fun _ => rfl) (fun _ => bin_geq_i _ _ _) rfl rfl ?_
    refine lx_nil ?_
    refine x_if rfl (fun hc => ?_) (fun hc => ?_)
    · simp only [decide_eq_true_eq] at hc
      obtain rfl : k = m := by omega
      refine x_exit ?_
      exact ⟨_, rfl, rfl, hkl, s, hs2, rfl⟩
    · simp only [decide_eq_false_iff_not] at hc
      refine x_skip ?_
      refine x_plain (E := EE [28]) ?_
      refine lx_loadl 5 rfl rfl rfl Try.isAgg51 rfl rfl ?_
      refine lx_move rfl rfl rfl ?_
      refine lx_bslV 20 [I (n : Int)] (hR (pl w) rfl hGF).2.1 rfl rfl rfl (by decide) (by decide) Try.underlying51 Try.sizeOf3 Try.zeroValue3 rfl rfl rfl ?_
      intro b20
      refine lx_appendV (xs := NI ((ones a 384).take k)) (ys := [I (n : Int)]) 50 (hR (pl w) rfl hGF).2.1 rfl rfl Try.underlying51 Try.underlying51 ti3 rfl hs2 (fun w' h => hp_row (n := 20) rfl w' h) rfl (by simp) (by rw [NIt_len _ _ hkl]; show (k + 1) * 8 ≤ _; omega) (by rw [NIt_len _ _ hkl]; show k + 1 ≤ _; omega) rfl rfl (fun b21 c21 cap21 e21 l21 t21 => ?_)
      subst e21
      rw [take_snoc (ones a 384) k n hxn] at l21 t21 ⊢
      refine lx_store 5 (hR (pl w) rfl hGF).2.1 rfl rfl rfl Try.sizeOf51 rfl (by first | decide | simp) rfl ?_
      refine lx_nil ?_
      exact ⟨_, rfl, (k + 1, ⟨some ⟨b21, 0, none⟩, _, [(50, b21, c21, 3)]⟩), ⟨⟨rfl, hk1, by omega⟩, .inr ⟨b21, c21, rfl, rfl, rfl, l21, t21⟩⟩, ⟨rfl, rfl, rfl, rfl, rfl, trivial⟩⟩
  · rintro D ⟨k', s⟩ ⟨⟨hkk, hkl, hkm⟩, hs2⟩ hD
    rw [BT_len] at hkk hkm
    dsimp only at hkk hs2 ⊢
    subst hkk
    refine xs_plain (E := EE [28]) ?_
    refine lx_loadl 5 rfl rfl rfl Try.isAgg51 rfl rfl ?_
    refine lx_assign rfl rfl rfl ?_
    refine lx_nil ?_
    refine x_ret ?_
    repeat (first | refine kseq_ret ?_ | refine kblk_ret ?_)
    exact kretM_1 (.inl rfl) rides_true (kret_tmp rfl rfl (fun w' hw' => hfin hs2 (by rw [List.take_of_length_le (Nat.le_refl _), List.take_of_length_le hkm]) hw'))
  · rintro D cd k L' hD ⟨rfl, hkl, s, hs2, rfl⟩
    refine xs_plain (E := EE [28]) ?_
    refine lx_loadl 5 rfl rfl rfl Try.isAgg51 rfl rfl ?_
    refine lx_assign rfl rfl rfl ?_
    refine lx_nil ?_
    refine x_ret ?_
    repeat (first | refine kseq_ret ?_ | refine kblk_ret ?_)
    exact kretM_1 (.inl rfl) rides_true (kret_tmp rfl rfl (fun w' hw' => hfin hs2 rfl hw'))
end Go.Proofs.Yteohckfbphdngaa
