/-
  The law FrBits.
-/
import Derived.Test.YtgogiehnilpepaaDoorX7
import Derived.Test.YtgogiehnilpepaaDoorX3
namespace Go.Proofs.YtgogiehnilpepaaDoor
open Go.RowKit
set_option maxRecDepth 100000
set_option maxHeartbeats 1000000
attribute [local simp] nr_len AS_len SS_len MONT_len FRs_len BYs_len by32_len MLl LIFTl IVRl SQP_len FL_len

theorem ti3 : TI Tryd.prog 3 (.int .i64 0) 1 8 := ti_mk (by kernel_rfl)
theorem tmod_neg {k n : Int} (hn : 0 < n) (h : k.tmod n < 0) : k.tmod n + n = k % n := by
  rw [Int.tmod_eq_emod] at h ⊢
  have := Int.emod_nonneg k (by omega : n ≠ 0)
  split at h
  · omega
  · rename_i h1
    rw [if_neg h1]; omega
theorem tmod_pos {k n : Int} (hn : 0 < n) (h : ¬ k.tmod n < 0) : k.tmod n = k % n := by
  rw [Int.tmod_eq_emod] at h ⊢
  have := Int.emod_lt_of_pos k hn
  split at h
  · rename_i h1
    rw [if_pos h1]; omega
  · omega
def NI (l : List Nat) : List Value := l.map fun n : Nat => I (n : Int)
theorem NI_len (l : List Nat) : (NI l).length = l.length := by simp [NI]
theorem NI_at (l : List Nat) (i : Nat) (h : i < l.length) : (NI l)[i]? = some (I ((l.getD i 0 : Nat) : Int)) := by simp [NI, List.getD_eq_getElem?_getD, h]
theorem NI_one (l : List Nat) : (NI l).all (·.oneCell') = true := by simp [NI, Value.oneCell']
theorem NI_take (l : List Nat) (k : Nat) : (NI l).take k = NI (l.take k) := by simp [NI, List.map_take]
theorem x_cls {P : Program} {G : Cls} {ro : Option Nat} {N : Nat} {ds : List Deferred} {F : Fr} {C C' : Cls} {K : KK} {c : Code} (hC : ∀ w, C w → C' w) (hG : Good G C') (h : X P G ro N ds c F C' K) : X P G ro N ds c F C K :=
  fun _ a w ha hw => h hG a w ha (hC w hw)

theorem place_pure (k n : Int) (hn : 0 < n) (hn' : inI n) : Pure Tryd.prog Gt 31 [I k, I n] (I (k % n)) := by
  intro w hw
  have hGF : BOk Gt (pl w) := gt_low.plain hw
  refine calls_of_X (G := Gt) Tryd.func31 rfl rfl (Hp (pl w) []) (hp_refl (pl w) trivial rides_true) (good_hp hGF) ?_
  refine xs_plain (E := EE []) ?_
  refine lx_assign rfl rfl rfl ?_
  refine lx_nil ?_
  refine xs_plain (E := EE []) ?_
  refine lx_move rfl rfl rfl ?_
  refine lx_move rfl rfl rfl ?_
  refine lx_bin (v := I (k.tmod n)) rfl rfl (fun _ => rfl) (fun _ => bin_rem_i _ _ _ (by omega)) rfl rfl ?_
  refine lx_assign rfl rfl rfl ?_
  refine lx_nil ?_
  refine x_seq ?_
  refine xs_plain (E := EE []) ?_
  refine lx_move rfl rfl rfl ?_
  refine lx_bin rfl rfl (fun _ => rfl) (fun _ => bin_lss_i _ _ _) rfl rfl ?_
  refine lx_nil ?_
  refine x_if rfl (fun hc => ?_) (fun hc => ?_)
  · simp only [decide_eq_true_eq] at hc
    refine x_plain (E := EE []) ?_
    refine lx_move rfl rfl rfl ?_
    refine lx_move rfl rfl rfl ?_
    refine lx_bin (v := I (k % n)) rfl rfl (fun _ => rfl) (fun _ => (bin_add_i _ _ _ (by rw [tmod_neg hn hc]; unfold inI at *; have := Int.emod_nonneg k (by omega : n ≠ 0); have := Int.emod_lt_of_pos k hn; omega)).trans (by rw [tmod_neg hn hc])) rfl rfl ?_
    refine lx_assign rfl rfl rfl ?_
    refine lx_nil ?_
    refine xs_plain (E := EE []) ?_
    refine lx_move rfl rfl rfl ?_
    refine lx_assign rfl rfl rfl ?_
    refine lx_nil ?_
    refine x_ret ?_
    repeat (first | refine kseq_ret ?_ | refine kblk_ret ?_)
    exact kret_tmp rfl rfl (fun w hw => ⟨rfl, hp_below hw⟩)
  · simp only [decide_eq_false_iff_not] at hc
    rw [tmod_pos hn hc]
    refine x_skip ?_
    refine xs_plain (E := EE []) ?_
    refine lx_move rfl rfl rfl ?_
    refine lx_assign rfl rfl rfl ?_
    refine lx_nil ?_
    refine x_ret ?_
    repeat (first | refine kseq_ret ?_ | refine kblk_ret ?_)
    exact kret_tmp rfl rfl (fun w hw => ⟨rfl, hp_below hw⟩)
theorem ints_calls (xs : List Nat) (hx : xs.length ≤ 1000) (a1 : Option Addr) (len1 cap1 : Nat) (a2 : Option Addr) (len2 cap2 : Nat) (hl1 : xs.length = len1) (hl2 : xs.length = len2) (w : World) (hw : Gt w) (h1 : CellsAt w a1 (NI xs)) (h2 : CellsAt w a2 (NI xs)) :
    Calls Tryd.prog 32 [.slice a1 len1 cap1, .slice a2 len2 cap2].toArray w (fun e w' => e = .returned (.bool true) ∧ Grow w w') := by
  have hGF : BOk Gt (pl w) := gt_low.plain hw
  subst hl1
  subst hl2
  refine calls_of_X (G := Gt) Tryd.func32 rfl rfl (Hp (pl w) []) (hp_refl (pl w) trivial rides_true) (good_hp hGF) ?_
  refine xs_plain (E := EE []) ?_
  refine lx_assign rfl rfl rfl ?_
  refine lx_nil ?_
  refine x_seq ?_
  refine xs_plain (E := EE []) ?_
  refine lx_move rfl rfl rfl ?_
  refine lx_len rfl (fun _ => len_slice Tryd.underlying55 _ _ _ _) rfl rfl ?_
  refine lx_move rfl rfl rfl ?_
  refine lx_len rfl (fun _ => len_slice Tryd.underlying55 _ _ _ _) rfl rfl ?_
  refine lx_bin (v := .bool false) rfl rfl (fun _ => rfl) (fun w => (bin_neq_i _ _ _).trans (congrArg (fun b => Result.ok (Value.bool b) w) (bne_self_eq_false _))) rfl rfl ?_
  refine lx_nil ?_
  refine x_false rfl ?_
  refine x_skip ?_
  refine x_seq ?_
  refine xs_plain (E := EE []) ?_
  refine lx_assign rfl rfl rfl ?_
  refine lx_nil ?_
  refine x_block ?_
  refine x_for (ι := { i : Nat // i ≤ xs.length }) (fun x => [(0, .slice a1 xs.length cap1), (1, .slice a2 xs.length cap2), (5, I (x.1 : Int))]) (fun x => []) (fun x => xs.length - x.1) ⟨0, by omega⟩ hGF ⟨rfl, rfl, rfl, trivial⟩ trivial ?_
  rintro ⟨i, hi⟩
  dsimp only
  refine x_seq ?_
  refine xs_plain (E := EE []) ?_
  refine lx_move rfl rfl rfl ?_
  refine lx_move rfl rfl rfl ?_
  refine lx_len rfl (fun _ => len_slice Tryd.underlying55 _ _ _ _) rfl rfl ?_
  refine lx_bin rfl rfl (fun _ => rfl) (fun _ => bin_lss_i _ _ _) rfl rfl ?_
  refine lx_nil ?_
  refine x_if rfl (fun hc => ?_) (fun hc => ?_)
  · simp only [decide_eq_true_eq] at hc
    obtain ⟨ad1, rfl, _⟩ := h1 i _ (NI_at xs i (by omega))
    obtain ⟨ad2, rfl, _⟩ := h2 i _ (NI_at xs i (by omega))
    refine x_skip ?_
    refine x_seq ?_
    refine x_block ?_
    refine xs_drawn (E := EE []) mixed (by kernel_rfl) (by kernel_rfl) (by kernel_rfl) ?_
    refine lx_move rfl rfl rfl ?_
    refine lx_move rfl rfl rfl ?_
    refine lx_isA i rfl rfl Tryd.underlying55 Tryd.sizeOf3 rfl (by omega) rfl rfl ?_
    refine lx_load rfl Tryd.isAgg3 (fun w' h => by obtain ⟨ad', e, hc⟩ := (h1.grow (hp_below h)) i _ (NI_at xs i (by omega)); cases e; exact hc) rfl rfl ?_
    refine lx_move rfl rfl rfl ?_
    refine lx_move rfl rfl rfl ?_
    refine lx_isA i rfl rfl Tryd.underlying55 Tryd.sizeOf3 rfl (by omega) rfl rfl ?_
    refine lx_load rfl Tryd.isAgg3 (fun w' h => by obtain ⟨ad', e, hc⟩ := (h2.grow (hp_below h)) i _ (NI_at xs i (by omega)); cases e; exact hc) rfl rfl ?_
    refine lx_bin (v := .bool false) rfl rfl (fun _ => rfl) (fun w => (bin_neq_i _ _ _).trans (congrArg (fun b => Result.ok (Value.bool b) w) (bne_self_eq_false _))) rfl rfl ?_
    refine lx_nil ?_
    refine x_false rfl ?_
    refine x_skip ?_
    refine x_plain (E := EE []) ?_
    refine lx_move rfl rfl rfl ?_
    refine lx_bin rfl rfl (fun _ => rfl) (fun _ => bin_add_i _ _ _ (by unfold inI; omega)) rfl rfl ?_
    refine lx_assign rfl rfl rfl ?_
    refine lx_nil ?_
    repeat (refine kblk_n ?_)
    refine kseq_n ?_
    exact ⟨rfl, ⟨i + 1, by omega⟩, _, by show xs.length - (i + 1) < xs.length - i; omega, rfl, ⟨rfl, rfl, rfl, trivial⟩, trivial⟩
  · obtain rfl : i = xs.length := by simp at hc; omega
    refine x_exit ?_
    refine xs_plain (E := EE []) ?_
    refine lx_assign rfl rfl rfl ?_
    refine lx_nil ?_
    refine x_ret ?_
    repeat (first | refine kseq_ret ?_ | refine kblk_ret ?_)
    exact kret_tmp rfl rfl (fun w hw => ⟨rfl, hp_below hw⟩)
structure WkV where
  (a0 : Option Addr) (cap : Nat) (own : Hl)
theorem take_snoc (l : List Nat) (k n : Nat) (h : l[k]? = some n) : NI (l.take k) ++ [I (n : Int)] = NI (l.take (k + 1)) := by
  rw [List.take_add_one, h]
  simp [NI]
theorem NIt_len (l : List Nat) (k : Nat) (h : k ≤ l.length) : (NI (l.take k)).length = k := by rw [NI_len, List.length_take, Nat.min_eq_left h]
theorem walk_calls (y : Zr) (m : Nat) (hm : m ≤ 1000) (w : World) (hw : Gt w) :
    Calls Tryd.prog 33 [RV y, I (m : Int)].toArray w (fun e w' => ∃ a0 cap, e = .returned (.slice a0 (NI ((ones (nr y) 384).take m)).length cap) ∧ Grow w w' ∧ ClnV 3 w w' (NI ((ones (nr y) 384).take m)) a0 cap) := by
  have hGF : BOk Gt (pl w) := gt_low.plain hw
  have hfin : ∀ {L : Hl} {a0 : Option Addr} {cap : Nat} {k : Nat} {w' : World}, OwnV L 50 3 a0 cap (NI ((ones (nr y) 384).take k)) → (ones (nr y) 384).take k = (ones (nr y) 384).take m → Hp (pl w) L w' → ∃ a1 cap1, Ending.returned (.slice a0 (NI ((ones (nr y) 384).take k)).length cap) = .returned (.slice a1 (NI ((ones (nr y) 384).take m)).length cap1) ∧ Grow w w' ∧ ClnV 3 w w' (NI ((ones (nr y) 384).take m)) a1 cap1 := fun {L a0 cap k w'} h e hp => by
    rw [← e]
    exact ⟨a0, cap, rfl, hp_below hp, h.cln hp⟩
  refine calls_of_XM (G := Gt) Tryd.func33 rfl rfl (Hp (pl w) []) (hp_refl (pl w) trivial rides_true) (good_hp hGF) ?_
  refine xs_plain (E := EE [34]) ?_
  refine lx_boxr 2 hGF rfl rfl rfl ?_
  intro b2
  refine lx_box 3 hGF rfl rfl rfl ?_
  intro b3
  refine lx_assign rfl rfl rfl ?_
  refine lx_nil ?_
  refine xs_plain (E := EE [34]) ?_
  refine lx_alloc 5 hGF Tryd.zeroValue55 rfl rfl ?_
  intro b5
  refine lx_nil ?_
  refine xs_plain (E := EE [34]) ?_
  refine lx_loada 2 rfl rfl Tryd.isAgg28 Tryd.sizeOf28 (by simp) rfl rfl ?_
  refine lx_callE rfl rfl ent34 rfl rfl (fun w' hw' => (qbits_calls (y) w' (hGF.g _ _ _ hw')).mono fun e' w'' h => ?_)
  obtain ⟨c1, rfl, hg, h1, ho⟩ := h
  refine ⟨_, _, rfl, good_hp hGF, hw'.news rides_true hg [(28, c1, (nr (y)).map U64, 26)] ?_ inj_one, ?_⟩
  · intro n' b' c' t' hl
    rcases lkB_cons hl with ⟨_, e⟩ | ⟨_, hl⟩
    · cases e; exact ⟨h1, ho⟩
    · cases hl
  clear hw' hg h1 ho
  refine lx_assign rfl rfl rfl ?_
  refine lx_nil ?_
  refine x_seq ?_
  refine xs_plain (E := EE [34]) ?_
  refine lx_move rfl rfl rfl ?_
  refine lx_bin (v := .bool false) rfl rfl (fun _ => rfl) (fun w => bin_eq_fn Tryd.underlying61 _ _ _ w) rfl rfl ?_
  refine lx_nil ?_
  refine x_false rfl ?_
  refine x_skip ?_
  refine x_seq ?_
  refine xs_plain (E := EE [34]) ?_
  refine lx_move rfl rfl rfl ?_
  refine lx_nil ?_
  refine x_block ?_
  refine x_rangeS (ι := Nat × WkV) (fun _ => pl w) (fun _ _ => pl w) (fun _ => hGF) (fun _ _ => hGF) (fun _ => rfl) (fun _ _ => rfl) rfl rfl ent52 (bits_seq c1 (nr y) (nr_len y)) (fun x hx => by obtain ⟨k, hk, rfl⟩ := List.mem_map.1 hx; rfl) rfl (fun k x => (x.1 = k ∧ k ≤ (ones (nr y) 384).length ∧ k ≤ m) ∧ OwnV ((2, b2, (nr y).map U64, 28) :: (3, b3, [I (m : Int)], 3) :: (5, b5, [.slice x.2.a0 (NI ((ones (nr y) 384).take x.1)).length x.2.cap], 55) :: (28, c1, (nr y).map U64, 26) :: x.2.own) 50 3 x.2.a0 x.2.cap (NI ((ones (nr y) 384).take x.1))) (fun x => (2, b2, (nr y).map U64, 28) :: (3, b3, [I (m : Int)], 3) :: (5, b5, [.slice x.2.a0 (NI ((ones (nr y) 384).take x.1)).length x.2.cap], 55) :: (28, c1, (nr y).map U64, 26) :: x.2.own) (fun cd _ L' => cd = .exit 0 ∧ m ≤ (ones (nr y) 384).length ∧ ∃ s : WkV, OwnV ((2, b2, (nr y).map U64, 28) :: (3, b3, [I (m : Int)], 3) :: (5, b5, [.slice s.a0 (NI ((ones (nr y) 384).take m)).length s.cap], 55) :: (28, c1, (nr y).map U64, 26) :: s.own) 50 3 s.a0 s.cap (NI ((ones (nr y) 384).take m)) ∧ L' = (2, b2, (nr y).map U64, 28) :: (3, b3, [I (m : Int)], 3) :: (5, b5, [.slice s.a0 (NI ((ones (nr y) 384).take m)).length s.cap], 55) :: (28, c1, (nr y).map U64, 26) :: s.own) (0, ⟨none, 0, []⟩) ⟨⟨rfl, Nat.zero_le _, Nat.zero_le _⟩, ownV_nil _ _ _⟩ ⟨rfl, rfl, rfl, rfl, trivial⟩ (fun k x Y w' hs h => hp_row (n := 28) rfl w' h) ?_ ?_ ?_
  · rintro k x hx ⟨k', s⟩ hs R hR
    obtain ⟨⟨hkk, hkl, hkm⟩, hs2⟩ := hs
    dsimp only at hkk hs2 ⊢
    have hkk := hkk.symm
    subst hkk
    obtain ⟨n, hxn, rfl⟩ := BT_one (nr y) k x hx
    have hk1 : k + 1 ≤ (ones (nr y) 384).length := (List.getElem?_eq_some_iff.1 hxn).1
    have hol := ones_le (nr y) 384
    refine x_plain (E := EE [34]) ?_
    refine lx_assign rfl rfl rfl ?_
    refine lx_nil ?_
    refine ⟨rfl, _, rfl, ?_⟩
    refine x_block ?_
    refine x_seq ?_
    refine xs_plain (E := EE [34]) ?_
    refine lx_loadl 5 rfl rfl rfl Tryd.isAgg55 rfl rfl ?_
    refine lx_len (n := (k : Int)) rfl (fun _ => (len_slice Tryd.underlying55 _ _ _ _).trans (by rw [NIt_len _ _ hkl])) rfl rfl ?_
    refine lx_loadl 3 rfl rfl rfl Tryd.isAgg3 rfl rfl ?_
    refine lx_bin rfl rfl (fun _ => rfl) (fun _ => bin_geq_i _ _ _) rfl rfl ?_
    refine lx_nil ?_
    refine x_if rfl (fun hc => ?_) (fun hc => ?_)
    · simp only [decide_eq_true_eq] at hc
      obtain rfl : k = m := by omega
      refine x_exit ?_
      exact ⟨_, rfl, rfl, hkl, s, hs2, rfl⟩
    · simp only [decide_eq_false_iff_not] at hc
      refine x_skip ?_
      refine x_plain (E := EE [34]) ?_
      refine lx_loadl 5 rfl rfl rfl Tryd.isAgg55 rfl rfl ?_
      refine lx_move rfl rfl rfl ?_
      refine lx_bslV 20 [I (n : Int)] (hR (pl w) rfl hGF).2.1 rfl rfl rfl (by decide) (by decide) Tryd.underlying55 Tryd.sizeOf3 Tryd.zeroValue3 rfl rfl rfl ?_
      intro b20
      refine lx_appendV (xs := NI ((ones (nr y) 384).take k)) (ys := [I (n : Int)]) 50 (hR (pl w) rfl hGF).2.1 rfl rfl Tryd.underlying55 Tryd.underlying55 ti3 rfl hs2 (fun w' h => hp_row (n := 20) rfl w' h) rfl (by simp) (by rw [NIt_len _ _ hkl]; show (k + 1) * 8 ≤ _; omega) (by rw [NIt_len _ _ hkl]; show k + 1 ≤ _; omega) rfl rfl (fun b21 c21 cap21 e21 l21 t21 => ?_)
      subst e21
      rw [take_snoc (ones (nr y) 384) k n hxn] at l21 t21 ⊢
      refine lx_store 5 (hR (pl w) rfl hGF).2.1 rfl rfl rfl Tryd.sizeOf55 rfl (by first | decide | simp) rfl ?_
      refine lx_nil ?_
      exact ⟨_, rfl, (k + 1, ⟨some ⟨b21, 0, none⟩, _, [(50, b21, c21, 3)]⟩), ⟨⟨rfl, hk1, by omega⟩, .inr ⟨b21, c21, rfl, rfl, rfl, l21, t21⟩⟩, ⟨rfl, rfl, rfl, rfl, rfl, trivial⟩⟩
  · rintro D ⟨k', s⟩ ⟨⟨hkk, hkl, hkm⟩, hs2⟩ hD
    rw [BT_len] at hkk hkm
    dsimp only at hkk hs2 ⊢
    subst hkk
    refine xs_plain (E := EE [34]) ?_
    refine lx_loadl 5 rfl rfl rfl Tryd.isAgg55 rfl rfl ?_
    refine lx_assign rfl rfl rfl ?_
    refine lx_nil ?_
    refine x_ret ?_
    repeat (first | refine kseq_ret ?_ | refine kblk_ret ?_)
    exact kretM_1 (.inl rfl) rides_true (kret_tmp rfl rfl (fun w' hw' => hfin hs2 (by rw [List.take_of_length_le (Nat.le_refl _), List.take_of_length_le hkm]) hw'))
  · rintro D cd k L' hD ⟨rfl, hkl, s, hs2, rfl⟩
    refine xs_plain (E := EE [34]) ?_
    refine lx_loadl 5 rfl rfl rfl Tryd.isAgg55 rfl rfl ?_
    refine lx_assign rfl rfl rfl ?_
    refine lx_nil ?_
    refine x_ret ?_
    repeat (first | refine kseq_ret ?_ | refine kblk_ret ?_)
    exact kretM_1 (.inl rfl) rides_true (kret_tmp rfl rfl (fun w' hw' => hfin hs2 rfl hw'))
structure WtV (y : Zr) (b5 b6 : Nat) where
  (k : Nat) (a0 : Option Addr) (cap : Nat) (own : Hl)
  hk : k ≤ 384
  h0 : 128 ≤ k
  hs : OwnV ((5, b5, (nr y).map U64, 28) :: (6, b6, (nr y).map U64, 31) :: own) 50 3 a0 cap (NI (ones (nr y) k))
  ho : own = [] ∨ ∃ x, own = [(50, x)]
theorem subB_own {p q : Nat × Nat × List Value × TypeId} {own : Hl} (hp : p.1 = 5) (hq : q.1 = 6) (h : own = [] ∨ ∃ x, own = [(50, x)]) : SubB (p :: q :: own) (p :: q :: own) := by
  obtain ⟨n, p⟩ := p
  obtain ⟨m, q⟩ := q
  cases hp
  cases hq
  rcases h with rfl | ⟨x, rfl⟩
  · exact ⟨rfl, rfl, trivial⟩
  · exact ⟨rfl, rfl, rfl, trivial⟩
theorem own_free {p q : Nat × Nat × List Value × TypeId} {own : Hl} (hp : p.1 = 5) (hq : q.1 = 6) (h : own = [] ∨ ∃ x, own = [(50, x)]) (n : Nat) (h5 : Nat.beq 5 n = false) (h6 : Nat.beq 6 n = false) (h50 : Nat.beq 50 n = false) : lkB (p :: q :: own) n = none := by
  obtain ⟨i, p⟩ := p
  obtain ⟨j, q⟩ := q
  cases hp
  cases hq
  rcases h with rfl | ⟨x, rfl⟩ <;> simp [lkB, h5, h6, h50]
theorem high_zero (y : Zr) (k : Nat) (h : k < 128) : ¬ dig (nr y) (383 - k) = 1 := fun e => by
  have h1 := dig_val (nr y) 6 (383 - k) (by omega)
  rw [e, V_nr, Nat.div_eq_of_lt (Nat.lt_trans y.isLt (Nat.lt_of_lt_of_le (show RR < 2 ^ 256 by decide +kernel) (pw_le (by omega))))] at h1
  cases h1
theorem ones_high (y : Zr) : ∀ k, k ≤ 128 → ones (nr y) k = []
  | 0, _ => rfl
  | k + 1, h => by rw [ones, if_neg (high_zero y k (by omega)), ones_high y k (by omega)]
theorem ones_snoc (a : List (BitVec 64)) (k : Nat) (h : dig a (383 - k) = 1) : NI (ones a k) ++ [I ((383 - k : Nat) : Int)] = NI (ones a (k + 1)) := by
  rw [ones, if_pos h]
  simp [NI]
theorem cut_cells {w : World} {a0 : Option Addr} {cap : Nat} {cs : List Value} (h : CellsAt w a0 cs) (h0 : a0 = none ∨ ∃ b, a0 = some ⟨b, 0, none⟩) : CellsAt w (if cap = 0 then a0 else a0.map (·.add (0 * 1))) cs := by
  split
  · exact h
  · rcases h0 with rfl | ⟨b, rfl⟩
    · exact h
    · exact h
theorem OwnV.form {L : Hl} {n : Nat} {e : TypeId} {a0 : Option Addr} {cap : Nat} {xs : List Value} (h : OwnV L n e a0 cap xs) : a0 = none ∨ ∃ b, a0 = some ⟨b, 0, none⟩ := by
  rcases h with ⟨h, _⟩ | ⟨b, _, h, _⟩
  · exact .inl h
  · exact .inr ⟨b, h⟩
theorem OwnV.app {L : Hl} {n : Nat} {e : TypeId} {a0 : Option Addr} {cap : Nat} {xs : List Value} (h : OwnV L n e a0 cap xs) (A : Hl) : OwnV (L ++ A) n e a0 cap xs := by
  rcases h with h | ⟨b, c, h1, h2, h3⟩
  · exact .inl h
  · exact .inr ⟨b, c, h1, by rw [lkB_append, h2], h3⟩
theorem bits_law (e0 : Option Addr) (cap0 : Nat) (bs0 : List (BitVec 8)) (hcap0 : bs0.length ≤ cap0) (z : Int) (w : World) (hw : Gt w) (hb0 : BytesAt w e0 bs0) :
    Calls Tryd.prog 6 [.slice e0 bs0.length cap0, I z].toArray w (fun r w' => r = .returned (.bool true) ∧ Grow w w') := by
  have hGF : BOk Gt (pl w) := gt_low.plain hw
  refine calls_of_X (G := Gt) Tryd.func6 rfl rfl (Hp (pl w) []) (hp_refl (pl w) trivial rides_true) (good_hp hGF) ?_
  refine xs_plain (E := EE [33]) ?_
  refine lx_assign rfl rfl rfl ?_
  refine lx_nil ?_
  refine x_seq ?_
  refine xs_plain (E := EE [33]) ?_
  refine lx_callB true rfl rfl ent7 (known_pure) (rfl) rfl rfl ?_
  refine lx_un rfl (fun _ => un_not _) rfl rfl ?_
  refine lx_nil ?_
  refine x_false rfl ?_
  refine x_skip ?_
  refine x_seq ?_
  refine xs_plain (E := EE [33]) ?_
  refine lx_move rfl rfl rfl ?_
  refine lx_bslV 40 (SVl [(e0, bs0.length, cap0)]) hGF rfl rfl rfl (by decide) (by decide) Tryd.underlying63 Tryd.sizeOf22 Tryd.zeroValue22 rfl rfl rfl ?_
  intro b40
  refine lx_callC rfl rfl ent8 (fun w' hC hG => light_calls b40 1 [(e0, bs0.length, cap0)] rfl (by decide) w' hG (hp_row (n := 40) rfl w' hC)) rfl rfl ?_
  refine lx_un rfl (fun _ => un_not _) rfl rfl ?_
  refine lx_nil ?_
  refine x_if rfl (fun hc => ?_) (fun hc => ?_)
  · skip
    refine xs_plain (E := EE [33]) ?_
    refine lx_assign rfl rfl rfl ?_
    refine lx_nil ?_
    refine x_ret ?_
    repeat (first | refine kseq_ret ?_ | refine kblk_ret ?_)
    exact kret_tmp rfl rfl (fun w hw => ⟨rfl, hp_below hw⟩)
  · have hl : ∀ v ∈ [(e0, bs0.length, cap0)], v.2.1 ≤ 128 := by simpa using hc
    have hl0 : bs0.length ≤ 128 := hl (e0, bs0.length, cap0) (by simp)
    clear hc hl
    refine x_skip ?_
    refine xs_plain (E := EE [33]) ?_
    refine lx_move rfl rfl rfl ?_
    refine lx_callC rfl rfl ent17 (fun w' hC hG => qwide_calls e0 cap0 bs0 (by omega) hcap0 w' hG (hb0.grow (hp_below hC))) rfl rfl ?_
    refine lx_allocr 5 hGF zv28 rfl rfl ?_
    intro b5
    refine lx_storea 5 hGF rfl rfl rfl Tryd.sizeOf28 (by simp) (by simp) (one_u64 _) rfl ?_
    refine lx_nil ?_
    refine xs_plain (E := EE [33]) ?_
    refine lx_loada 5 rfl rfl Tryd.isAgg28 Tryd.sizeOf28 (by simp) rfl rfl ?_
    refine lx_call rfl rfl ent20 (number_pure _) rfl rfl ?_
    refine lx_allocr 6 hGF zv31 rfl rfl ?_
    intro b6
    refine lx_storea 6 hGF rfl rfl rfl Tryd.sizeOf31 (by simp) (by simp) (one_u64 _) rfl ?_
    refine lx_nil ?_
    refine xs_plain (E := EE [33]) ?_
    refine lx_assign rfl rfl rfl ?_
    refine lx_nil ?_
    refine x_seq ?_
    refine xs_plain (E := EE [33]) ?_
    refine lx_assign rfl rfl rfl ?_
    refine lx_nil ?_
    refine x_block ?_
    have hz0 : ones (nr (QB bs0)) 128 = [] := ones_high (QB bs0) 128 (Nat.le_refl _)
    refine x_for (ι := WtV (QB bs0) b5 b6) (fun x => [(1, I z), (5, .pointer (some ⟨b5, 0, none⟩)), (6, .pointer (some ⟨b6, 0, none⟩)), (7, .slice x.a0 (NI (ones (nr (QB bs0)) x.k)).length x.cap), (8, I (((384 - x.k : Nat) : Int) - 1))]) (fun x => (5, b5, (nr (QB bs0)).map U64, 28) :: (6, b6, (nr (QB bs0)).map U64, 31) :: x.own) (fun x => 384 - x.k) ⟨128, none, 0, [], by omega, by omega, by rw [hz0]; exact ownV_nil _ _ _, .inl rfl⟩ hGF ⟨rfl, rfl, rfl, by dsimp only; rw [hz0]; rfl, rfl, trivial⟩ ⟨rfl, rfl, trivial⟩ ?_
    clear hz0
    rintro ⟨k, a0, cap, own, hk, h0, hs, ho⟩
    dsimp only
    have hol := ones_le (nr (QB bs0)) k
    refine x_seq ?_
    refine xs_plain (E := EE [33]) ?_
    refine lx_move rfl rfl rfl ?_
    refine lx_bin rfl rfl (fun _ => rfl) (fun _ => bin_geq_i _ _ _) rfl rfl ?_
    refine lx_nil ?_
    refine x_if rfl (fun hc => ?_) (fun hc => ?_)
    · simp only [decide_eq_true_eq] at hc
      rw [show ((384 - k : Nat) : Int) - 1 = ((383 - k : Nat) : Int) by omega]
      refine x_skip ?_
      refine x_seq ?_
      refine x_block ?_
      refine xs_plain (E := EE [33]) ?_
      refine lx_move rfl rfl rfl ?_
      refine lx_bin (v := I (((383 - k) / 64 : Nat) : Int)) rfl rfl (fun _ => rfl) (fun _ => bin_quo_i _ _ _ (by decide) (show inI (((383 - k) / 64 : Nat) : Int) by unfold inI; omega)) rfl rfl ?_
      refine lx_ia0 (((383 - k) / 64)) rfl rfl Tryd.underlying31 Tryd.sizeOf23 (by omega) (by omega) rfl rfl ?_
      refine lx_loadm 6 U64 0 rfl rfl Tryd.isAgg23 (by simp; try omega) rfl rfl ?_
      refine lx_move rfl rfl rfl ?_
      refine lx_bin (v := I (((383 - k) % 64 : Nat) : Int)) rfl rfl (fun _ => rfl) (fun _ => bin_rem_i _ _ _ (by decide)) rfl rfl ?_
      refine lx_bin (v := U64 ((nr (QB bs0)).getD ((383 - k) / 64) 0 >>> ((383 - k) % 64))) rfl rfl (fun _ => rfl) (fun _ => bin_shr_i_u64 _ _ _ (by omega)) rfl rfl ?_
      refine lx_bin (v := U64 (dig (nr (QB bs0)) (383 - k))) rfl rfl (fun _ => rfl) (fun _ => bin_and_u64 _ _ _) rfl rfl ?_
      refine lx_bin rfl rfl (fun _ => rfl) (fun _ => bin_eql_u64 _ _ _) rfl rfl ?_
      refine lx_nil ?_
      refine x_if rfl (fun hc => ?_) (fun hc => ?_)
      · have h1 : dig (nr (QB bs0)) (383 - k) = 1 := beq_iff_eq.1 hc
        refine x_plain (E := EE [33]) ?_
        refine lx_move rfl rfl rfl ?_
        refine lx_move rfl rfl rfl ?_
        refine lx_bslV 34 [I ((383 - k : Nat) : Int)] hGF rfl rfl rfl (by decide) (by decide) Tryd.underlying55 Tryd.sizeOf3 Tryd.zeroValue3 rfl rfl rfl ?_
        intro b24
        refine lx_appendV (xs := NI (ones (nr (QB bs0)) k)) (ys := [I ((383 - k : Nat) : Int)]) 50 hGF rfl rfl Tryd.underlying55 Tryd.underlying55 ti3 rfl hs (fun w' h => hp_row (n := 34) rfl w' h) rfl (by simp) (by rw [NI_len]; show ((ones (nr (QB bs0)) k).length + 1) * 8 ≤ _; omega) (by rw [NI_len]; show (ones (nr (QB bs0)) k).length + 1 ≤ _; omega) rfl rfl (fun b25 c25 cap25 e25 l25 t25 => ?_)
        subst e25
        rw [ones_snoc (nr (QB bs0)) k h1] at l25 t25 ⊢
        refine lx_assign rfl rfl rfl ?_
        refine lx_nil ?_
        refine x_plain (E := EE [33]) ?_
        refine lx_move rfl rfl rfl ?_
        refine lx_bin (v := I (((384 - (k + 1) : Nat) : Int) - 1)) rfl rfl (fun _ => rfl) (fun _ => (bin_sub_i _ _ _ (by unfold inI; omega)).trans (by rw [show (((383 - k : Nat) : Int) - 1) = ((384 - (k + 1) : Nat) : Int) - 1 by omega])) rfl rfl ?_
        refine lx_assign rfl rfl rfl ?_
        refine lx_nil ?_
        repeat (refine kblk_n ?_)
        refine kseq_n ?_
        exact ⟨rfl, ⟨k + 1, some ⟨b25, 0, none⟩, _, [(50, b25, c25, 3)], by omega, by omega, .inr ⟨b25, c25, rfl, rfl, rfl, l25, t25⟩, .inr ⟨_, rfl⟩⟩, _, by show 384 - (k + 1) < 384 - k; omega, rfl, ⟨rfl, rfl, rfl, rfl, rfl, trivial⟩, ⟨rfl, rfl, rfl, trivial⟩⟩
      · have h1 : ¬ dig (nr (QB bs0)) (383 - k) = 1 := beq_eq_false_iff_ne.1 hc
        refine x_skip ?_
        refine x_plain (E := EE [33]) ?_
        refine lx_move rfl rfl rfl ?_
        refine lx_bin (v := I (((384 - (k + 1) : Nat) : Int) - 1)) rfl rfl (fun _ => rfl) (fun _ => (bin_sub_i _ _ _ (by unfold inI; omega)).trans (by rw [show (((383 - k : Nat) : Int) - 1) = ((384 - (k + 1) : Nat) : Int) - 1 by omega])) rfl rfl ?_
        refine lx_assign rfl rfl rfl ?_
        refine lx_nil ?_
        repeat (refine kblk_n ?_)
        refine kseq_n ?_
        exact ⟨rfl, ⟨k + 1, a0, cap, own, by omega, by omega, by rw [ones, if_neg h1]; exact hs, ho⟩, _, by show 384 - (k + 1) < 384 - k; omega, rfl, ⟨rfl, rfl, rfl, (show lk _ 7 = some (.slice a0 (NI (ones (nr (QB bs0)) (k + 1))).length cap) by rw [ones, if_neg h1]; rfl), rfl, trivial⟩, subB_own rfl rfl ho⟩
    · simp only [decide_eq_false_iff_not] at hc
      obtain rfl : k = 384 := by omega
      clear hc
      refine x_exit ?_
      refine xs_plain (E := EE [33]) ?_
      refine lx_move rfl rfl rfl ?_
      refine lx_move rfl rfl rfl ?_
      refine lx_len (n := ((ones (nr (QB bs0)) 384).length : Int)) rfl (fun _ => (len_slice Tryd.underlying55 _ _ _ _).trans (by rw [NI_len])) rfl rfl ?_
      refine lx_bin rfl rfl (fun _ => rfl) (fun _ => bin_add_i _ _ _ (by unfold inI; omega)) rfl rfl ?_
      refine lx_call rfl rfl ent31 (place_pure z (((ones (nr (QB bs0)) 384).length : Int) + 1) (by omega) (by unfold inI; omega)) rfl rfl ?_
      obtain ⟨q, hq, hq2⟩ : ∃ q : Nat, z % (((ones (nr (QB bs0)) 384).length : Int) + 1) = (q : Int) ∧ q ≤ (ones (nr (QB bs0)) 384).length := ⟨(z % (((ones (nr (QB bs0)) 384).length : Int) + 1)).toNat, by have := Int.emod_nonneg z (by omega : (((ones (nr (QB bs0)) 384).length : Int) + 1) ≠ 0); omega, by have := Int.emod_nonneg z (by omega : (((ones (nr (QB bs0)) 384).length : Int) + 1) ≠ 0); have := Int.emod_lt_of_pos z (by omega : (0 : Int) < (((ones (nr (QB bs0)) 384).length : Int) + 1)); omega⟩
      rw [hq]
      clear hq
      refine lx_assign rfl rfl rfl ?_
      refine lx_nil ?_
      refine xs_draws (E := EE [33]) [0, 1, 3, 4, 5, 2, 6, 7, 8, 10, 9, 11, 12, 13] mixed rfl (by kernel_rfl) (by kernel_rfl) (by kernel_rfl) ?_
      refine lx_loada 5 rfl rfl Tryd.isAgg28 Tryd.sizeOf28 (by simp) rfl rfl ?_
      refine lx_move rfl rfl rfl ?_
      refine lx_move rfl rfl rfl ?_
      refine lx_move rfl rfl rfl ?_
      refine lx_slsl (l := 0) (h' := q) rfl Tryd.underlying55 Tryd.sizeOf3 rfl rfl ⟨Nat.zero_le _, by have := hs.le; rw [NI_len] at this; omega⟩ rfl rfl ?_
      rw [Nat.sub_zero, Nat.sub_zero]
      refine lx_callE rfl rfl ent33 rfl rfl (fun w' hw' => (walk_calls (QB bs0) q (by omega) w' (hGF.g _ _ _ hw')).mono fun e w'' h => ?_)
      obtain ⟨a43, cap43, rfl, hg, hcl⟩ := h
      obtain ⟨A43, hA43, hc43, hf43⟩ := cln_news 43 hw' rides_true hg hcl (own_free rfl rfl ho 43 rfl rfl rfl)
      refine ⟨_, _, rfl, good_hp hGF, hA43, ?_⟩
      clear hw' hg hcl hA43
      refine lx_callC rfl rfl ent32 (fun w' hw' hG => ints_calls ((ones (nr (QB bs0)) 384).take q) (by rw [List.length_take]; omega) _ _ _ _ _ _ (NI_len _).symm (by rw [List.length_take, Nat.min_eq_left hq2]) w' hG (hc43 _ w' hw') (by rw [← NI_take]; exact (cut_cells ((hs.app A43).cells w' hw') hs.form).take q)) rfl rfl ?_
      refine lx_move rfl rfl rfl ?_
      refine lx_loada 5 rfl rfl Tryd.isAgg28 Tryd.sizeOf28 (by simp) rfl rfl ?_
      refine lx_move rfl rfl rfl ?_
      refine lx_callE rfl rfl ent33 rfl rfl (fun w' hw' => (walk_calls (QB bs0) 400 (by omega) w' (hGF.g _ _ _ hw')).mono fun e w'' h => ?_)
      obtain ⟨a50, cap50, rfl, hg, hcl⟩ := h
      obtain ⟨A50, hA50, hc50, hf50⟩ := cln_news 60 hw' rides_true hg hcl (by rw [lkB_append, own_free rfl rfl ho 60 rfl rfl rfl]; exact hf43 60 (by decide))
      refine ⟨_, _, rfl, good_hp hGF, hA50, ?_⟩
      clear hw' hg hcl hA50
      refine lx_callC rfl rfl ent32 (fun w' hw' hG => ints_calls (ones (nr (QB bs0)) 384) (by omega) _ _ _ _ _ _ (by rw [NI_len, List.take_of_length_le (by omega)]) (NI_len _).symm w' hG (by have := hc50 _ w' hw'; rw [List.take_of_length_le (by omega)] at this; exact this) (((hs.app A43).app A50).cells w' hw')) rfl rfl ?_
      refine lx_pick rfl rfl rfl rfl rfl ?_
      refine lx_assign rfl rfl rfl ?_
      refine lx_nil ?_
      refine x_ret ?_
      repeat (first | refine kseq_ret ?_ | refine kblk_ret ?_)
      exact kret_tmp rfl rfl (fun w hw => ⟨rfl, hp_below hw⟩)
end Go.Proofs.YtgogiehnilpepaaDoor
