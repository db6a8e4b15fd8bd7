/-
  The walks of pharoshelp.Place and of the law's own walk.
-/
import Derived.Test.YtkfnadpdcgcffaaDoorL3
import Derived.Test.YtkfnadpdcgcffaaDoorE20
namespace Go.Proofs.YtkfnadpdcgcffaaDoor
open Go.RowKit
set_option maxRecDepth 100000
set_option maxHeartbeats 1000000
theorem tmod_neg {k n : Int} (hn : 0 < n) (h : k.tmod n < 0) : k.tmod n + n = k % n := by
  rw [Int.tmod_eq_emod] at h ⊢
  have := Int.emod_nonneg k (by omega : n ≠ 0)
  split at h
  · omega
  · rename_i h1
    rw [if_neg h1]; omega
theorem tmod_pos {k n : Int} (hn : 0 < n) (h : ¬ k.tmod n < 0) : k.tmod n = k % n := by
  rw [Int.tmod_eq_emod] at h ⊢
  have := Int.emod_lt_of_pos k hn
  split at h
  · rename_i h1
    rw [if_pos h1]; omega
  · omega

theorem place_pure (k n : Int) (hn : 0 < n) (_hk : inI k) (hn' : inI n) : Pure Tryd.prog Gt 15 [I k, I n] (I (k % n)) := by
  intro w hw
  have hGF : BOk Gt (pl w) := gt_low.plain hw
  refine calls_of_X (G := Gt) Tryd.func15 rfl rfl (Hp (pl w) []) (hp_refl (pl w) trivial rides_true) (good_hp hGF) ?_
  refine xs_plain (E := EE []) ?_
  refine lx_assign rfl rfl rfl ?_
  refine lx_nil ?_
  refine xs_plain (E := EE []) ?_
  refine lx_move rfl rfl rfl ?_
  refine lx_move rfl rfl rfl ?_
  refine lx_bin (v := I (k.tmod n)) rfl rfl (fun _ => rfl) (fun _ => bin_rem_i _ _ _ (by omega)) rfl rfl ?_
  refine lx_assign rfl rfl rfl ?_
  refine lx_nil ?_
  refine x_seq ?_
  refine xs_plain (E := EE []) ?_
  refine lx_move rfl rfl rfl ?_
  refine lx_bin rfl rfl (fun _ => rfl) (fun _ => bin_lss_i _ _ _) rfl rfl ?_
  refine lx_nil ?_
  refine x_if rfl (fun hc => ?_) (fun hc => ?_)
  · simp only [decide_eq_true_eq] at hc
    refine x_plain (E := EE []) ?_
    refine lx_move rfl rfl rfl ?_
    refine lx_move rfl rfl rfl ?_
    refine lx_bin (v := I (k % n)) rfl rfl (fun _ => rfl) (fun _ => (bin_add_i _ _ _ (by rw [tmod_neg hn hc]; unfold inI at *; have := Int.emod_nonneg k (by omega : n ≠ 0); have := Int.emod_lt_of_pos k hn; omega)).trans (by rw [tmod_neg hn hc])) rfl rfl ?_
    refine lx_assign rfl rfl rfl ?_
    refine lx_nil ?_
    refine xs_plain (E := EE []) ?_
    refine lx_move rfl rfl rfl ?_
    refine lx_assign rfl rfl rfl ?_
    refine lx_nil ?_
    refine x_ret ?_
    repeat (first | refine kseq_ret ?_ | refine kblk_ret ?_)
    exact kret_tmp rfl rfl (fun w hw => ⟨rfl, hp_below hw⟩)
  · simp only [decide_eq_false_iff_not] at hc
    rw [tmod_pos hn hc]
    refine x_skip ?_
    refine xs_plain (E := EE []) ?_
    refine lx_move rfl rfl rfl ?_
    refine lx_assign rfl rfl rfl ?_
    refine lx_nil ?_
    refine x_ret ?_
    repeat (first | refine kseq_ret ?_ | refine kblk_ret ?_)
    exact kret_tmp rfl rfl (fun w hw => ⟨rfl, hp_below hw⟩)
/-- The blocks one behind another, so many. -/
def FT (bs : List (BitVec 8)) (k : Nat) : List (BitVec 8) := ((blks bs).take k).flatten
theorem ft_len (bs : List (BitVec 8)) (k : Nat) (hk : k ≤ (blks bs).length) : (FT bs k).length = 64 * k := by
  have key : ∀ (l : List (List (BitVec 8))), (∀ x ∈ l, x.length = 64) → l.flatten.length = 64 * l.length := fun l => by
    induction l with
    | nil => intro _; rfl
    | cons x r ih =>
      intro h
      rw [List.flatten_cons, List.length_append, ih (fun y hy => h y (.tail _ hy)), h x (.head _), List.length_cons]
      omega
  rw [FT, key _ (fun x hx => blks_len bs x (List.mem_of_mem_take hx)), List.length_take, Nat.min_eq_left hk]
theorem ft_succ (bs : List (BitVec 8)) (k : Nat) (bl : List (BitVec 8)) (h : (blks bs)[k]? = some bl) : FT bs k ++ bl = FT bs (k + 1) := by
  rw [FT, FT, List.take_add_one, h, List.flatten_append]
  simp
structure WkSt where
  (a0 : Option Addr) (cap : Nat) (own : Hl)

theorem head_bytes2 {B : Bs} {L : Hl} {Y : Nat → Prop} {n b : Nat} {t : TypeId} {xs : List (BitVec 8)} {c : List Value} (hl : lkB L n = some (b, c, t)) (hc : c.take xs.length = xs.map U8) : ∀ w, Hq B L Y w → BytesAt w (some ⟨b, 0, none⟩) xs :=
  front_bytes (tail := c.drop xs.length) (n := n) (t := t) (by rw [← hc, List.take_append_drop]; exact hl)
theorem x_cls {P : Program} {G : Cls} {ro : Option Nat} {N : Nat} {ds : List Deferred} {F : Fr} {C C' : Cls} {K : KK} {c : Code} (hC : ∀ w, C w → C' w) (hG : Good G C') (h : X P G ro N ds c F C' K) : X P G ro N ds c F C K :=
  fun _ a w ha hw => h hG a w ha (hC w hw)
theorem walk_calls (a : Option Addr) (cap : Nat) (bs : List (BitVec 8)) (m : Int) (hm : 1 ≤ m) (hm' : m ≤ 70000000000) (hl : bs.length ≤ 5000) (w : World) (hw : Gt w) (hby : BytesAt w a bs) :
    Calls Tryd.prog 16 [.slice a bs.length cap, I m].toArray w (fun e w' => ∃ sv, e = .returned sv ∧ Grow w w' ∧ Cln w w' (FT bs m.toNat) sv) := by
  have hGF : BOk Gt (pl w) := gt_low.plain hw
  have hbn : (blks bs).length ≤ 1000 := by have := congrArg List.length (pad_flat bs); rw [flat_len (blks bs) (blks_len bs), PAD, PE_len] at this; unfold nz at this; omega
  have hfin : ∀ {L : Hl} {a0 : Option Addr} {cap : Nat} {n : Nat} {w' : World}, OwnSl L 50 5 a0 cap (FT bs n) → FT bs n = FT bs m.toNat → Hp (pl w) L w' → ∃ sv, Ending.returned (.slice a0 (FT bs n).length cap) = .returned sv ∧ Grow w w' ∧ Cln w w' (FT bs m.toNat) sv := fun {L a0 cap n w'} h e hp => by
    rw [← e]
    refine ⟨_, rfl, hp_below hp, ?_⟩
    rcases h with ⟨rfl, h, rfl⟩ | ⟨b, c, rfl, hl, hc, hle, ht⟩
    · exact .inl ⟨h, by rw [h]; rfl⟩
    · exact .inr ⟨b, c, cap, rfl, (hp.own 50 b c 5 hl).2.elim id False.elim, (hp.own 50 b c 5 hl).1, hc, hle, ht⟩
  refine calls_of_XM (G := Gt) Tryd.func16 rfl rfl (Hp (pl w) []) (hp_refl (pl w) trivial rides_true) (good_hp hGF) ?_
  refine xs_plain (E := EE [22]) ?_
  refine lx_box 3 hGF rfl rfl rfl ?_
  intro b3
  refine lx_assign rfl rfl rfl ?_
  refine lx_nil ?_
  refine xs_plain (E := EE [22]) ?_
  refine lx_alloc 5 hGF Tryd.zeroValue22 rfl rfl ?_
  intro b5
  refine lx_nil ?_
  refine xs_plain (E := EE [22]) ?_
  refine lx_alloc 6 hGF Tryd.zeroValue3 rfl rfl ?_
  intro b6
  refine lx_store 6 hGF rfl rfl rfl Tryd.sizeOf3 rfl (by first | decide | simp) rfl ?_
  refine lx_nil ?_
  refine xs_plain (E := EE [22]) ?_
  refine lx_move rfl rfl rfl ?_
  refine lx_callE rfl rfl ent22 rfl rfl (fun w' hw' => (blocks22_calls _ _ bs (by omega) w' (hGF.g _ _ _ hw') (hby.grow (hp_below hw'))).mono fun e w'' h => ?_)
  obtain ⟨c1, sv, rfl, hg, h1, ho, hcl⟩ := h
  rcases hcl with ⟨h0, rfl⟩ | ⟨b, c, cap1, rfl, hb, hob, hcc, hle, htk⟩
  · skip
    have hz : (.slice none 0 0 : Value) = .slice none bs.length 0 := by rw [h0]; rfl
    rw [hz] at ho
    clear hz
    refine ⟨_, _, rfl, good_hp hGF, hw'.news rides_true hg [(26, c1, [.slice none bs.length 0], 22)] ?_ inj_one, ?_⟩
    · intro n' b' c' t' hl
      rcases lkB_cons hl with ⟨_, e⟩ | ⟨_, hl⟩
      · cases e; exact ⟨h1, ho⟩
      · cases hl
    clear hw' hg h1 ho
    refine lx_assign rfl rfl rfl ?_
    refine lx_nil ?_
    refine x_seq ?_
    refine xs_plain (E := EE [22]) ?_
    refine lx_move rfl rfl rfl ?_
    refine lx_bin (v := .bool false) rfl rfl (fun _ => rfl) (fun w => bin_eq_fn Tryd.underlying46 _ _ _ w) rfl rfl ?_
    refine lx_nil ?_
    refine x_false rfl ?_
    refine x_skip ?_
    refine x_seq ?_
    refine xs_plain (E := EE [22]) ?_
    refine lx_move rfl rfl rfl ?_
    refine lx_nil ?_
    refine x_block ?_
    refine x_rangeS (ι := Nat × WkSt) (fun _ => pl w) (fun _ _ => pl w) (fun _ => hGF) (fun _ _ => hGF) (fun _ => rfl) (fun _ _ => rfl) rfl rfl ent33 (blocks_seq c1 none 0 bs (by rw [h0]; exact Nat.le_refl _)) (by simp [enc]) rfl (fun k x => (x.1 = k ∧ k ≤ (blks bs).length ∧ (k = 0 ∨ (k : Int) < m)) ∧ OwnSl ((3, b3, [I m], 3) :: (5, b5, [.slice x.2.a0 (FT bs x.1).length x.2.cap], 22) :: (6, b6, [I (x.1 : Int)], 3) :: (26, c1, [.slice none bs.length 0], 22) :: x.2.own) 50 5 x.2.a0 x.2.cap (FT bs x.1)) (fun x => (3, b3, [I m], 3) :: (5, b5, [.slice x.2.a0 (FT bs x.1).length x.2.cap], 22) :: (6, b6, [I (x.1 : Int)], 3) :: (26, c1, [.slice none bs.length 0], 22) :: x.2.own) (fun cd k L' => cd = .exit 0 ∧ (k : Int) = m ∧ k ≤ (blks bs).length ∧ ∃ s : WkSt, OwnSl ((3, b3, [I m], 3) :: (5, b5, [.slice s.a0 (FT bs k).length s.cap], 22) :: (6, b6, [I (k : Int)], 3) :: (26, c1, [.slice none bs.length 0], 22) :: s.own) 50 5 s.a0 s.cap (FT bs k) ∧ SubB L' ((3, b3, [I m], 3) :: (5, b5, [.slice s.a0 (FT bs k).length s.cap], 22) :: (6, b6, [I (k : Int)], 3) :: (26, c1, [.slice none bs.length 0], 22) :: s.own)) (0, ⟨none, 0, []⟩) ⟨⟨rfl, Nat.zero_le _, .inl rfl⟩, ownSl_nil _ _ _⟩ ⟨rfl, rfl, rfl, rfl, trivial⟩ ?_ ?_ ?_ ?_
    · intro k x Y w' hs h; exact ⟨hp_cell (n := 26) rfl rfl w' h, h0 ▸ bytes_nil w' none⟩
    · rintro k x hx ⟨k', s⟩ hs R hR
      obtain ⟨⟨hkk, hkl, hkm⟩, hs2⟩ := hs
      dsimp only at hkk hs2 ⊢
      have hkk := hkk.symm
      subst hkk
      obtain ⟨bl, hx', rfl⟩ : ∃ bl, (blks bs)[k]? = some bl ∧ enc bl = x := by rw [List.getElem?_map] at hx; cases h : (blks bs)[k]? with | none => rw [h] at hx; cases hx | some y => rw [h] at hx; exact ⟨y, rfl, Option.some.inj hx⟩
      have hbl : bl.length = 64 := blks_len bs bl (List.mem_of_getElem? hx')
      have hk1 : k + 1 ≤ (blks bs).length := (List.getElem?_eq_some_iff.1 hx').1
      refine x_plain (E := EE [22]) ?_
      refine lx_allocr 8 (hR (pl w) rfl hGF).1 zv38 rfl rfl ?_
      intro b8
      refine lx_storea 8 (hR (pl w) rfl hGF).1 rfl rfl rfl Tryd.sizeOf38 (by rw [List.length_map, hbl]) (by rw [List.length_map, List.length_replicate]) (one_u8 _) rfl ?_
      refine lx_nil ?_
      refine ⟨rfl, _, rfl, ?_⟩
      refine x_block ?_
      refine xs_drawn (E := EE [22]) mixed (by kernel_rfl) (by kernel_rfl) (by kernel_rfl) ?_
      refine lx_loadl 5 rfl rfl rfl Tryd.isAgg22 rfl rfl ?_
      refine lx_slarr1 (l := 0) (h' := 64) rfl Tryd.underlying38 Tryd.sizeOf5 rfl rfl (by omega) (by omega) rfl rfl ?_
      refine lx_append (xs := FT bs k) (ys := bl) 50 (hR (pl w) rfl hGF).2.1 rfl (by rw [hbl]; rfl) Tryd.underlying22 Tryd.underlying22 ti5 hs2 (fun w' h => BytesAt.range (hp_row (n := 8) rfl w' h)) (by rw [ft_len bs k (by omega), hbl]; omega) rfl rfl (fun h0 => absurd (congrArg List.length h0) (by simp [hbl])) (fun b17 c17 cap17 e17 l17 t17 => ?_)
      subst e17
      rw [ft_succ bs k bl hx'] at l17 t17 ⊢
      refine lx_store 5 (hR (pl w) rfl hGF).2.1 rfl rfl rfl Tryd.sizeOf22 rfl (by first | decide | simp) rfl ?_
      refine lx_nil ?_
      refine xs_plain (E := EE [22]) ?_
      refine lx_loadl 6 rfl rfl rfl Tryd.isAgg3 rfl rfl ?_
      refine lx_bin rfl rfl (fun _ => rfl) (fun _ => bin_add_i _ _ _ (by unfold inI; omega)) rfl rfl ?_
      refine lx_store 6 (hR (pl w) rfl hGF).2.1 rfl rfl rfl Tryd.sizeOf3 rfl (by first | decide | simp) rfl ?_
      refine lx_nil ?_
      refine xs_plain (E := EE [22]) ?_
      refine lx_loadl 6 rfl rfl rfl Tryd.isAgg3 rfl rfl ?_
      refine lx_loadl 3 rfl rfl rfl Tryd.isAgg3 rfl rfl ?_
      refine lx_bin rfl rfl (fun _ => rfl) (fun _ => bin_geq_i _ _ _) rfl rfl ?_
      refine lx_nil ?_
      refine x_if rfl (fun hc => ?_) (fun hc => ?_)
      · simp only [decide_eq_true_eq] at hc
        have hc := hc
        refine x_exit ?_
        refine ⟨_, rfl, rfl, by omega, hk1, ⟨some ⟨b17, 0, none⟩, _, [(50, b17, c17, 5)]⟩, .inr ⟨b17, c17, rfl, rfl, rfl, l17, t17⟩, ⟨rfl, rfl, rfl, rfl, rfl, trivial⟩⟩
      · simp only [decide_eq_false_iff_not] at hc
        refine x_skip ?_
        refine ⟨_, rfl, (k + 1, ⟨some ⟨b17, 0, none⟩, _, [(50, b17, c17, 5)]⟩), ⟨⟨rfl, hk1, .inr (by omega)⟩, .inr ⟨b17, c17, rfl, rfl, rfl, l17, t17⟩⟩, ⟨rfl, rfl, rfl, rfl, rfl, trivial⟩⟩
    · rintro D ⟨k', s⟩ ⟨⟨hkk, hkl, hkm⟩, hs2⟩ hD
      rw [List.length_map] at hkk hkm
      dsimp only at hkk hs2 ⊢
      subst hkk
      refine xs_plain (E := EE [22]) ?_
      refine lx_loadl 5 rfl rfl rfl Tryd.isAgg22 rfl rfl ?_
      refine lx_assign rfl rfl rfl ?_
      refine lx_nil ?_
      refine x_ret ?_
      repeat (first | refine kseq_ret ?_ | refine kblk_ret ?_)
      exact kretM_1 (.inl rfl) rides_true (kret_tmp rfl rfl (fun w' hw' => hfin hs2 (by rw [FT, FT]; rw [List.take_of_length_le (Nat.le_refl _), List.take_of_length_le (by rw [← Int.ofNat_le, Int.toNat_of_nonneg (by omega)]; omega)]) hw'))
    · rintro D cd k L' hD ⟨rfl, hkm, hkl, s, hs2, hsub⟩
      refine x_cls (hp_sub hD.r hsub) (good_hp hD) ?_
      refine xs_plain (E := EE [22]) ?_
      refine lx_loadl 5 rfl rfl rfl Tryd.isAgg22 rfl rfl ?_
      refine lx_assign rfl rfl rfl ?_
      refine lx_nil ?_
      refine x_ret ?_
      repeat (first | refine kseq_ret ?_ | refine kblk_ret ?_)
      exact kretM_1 (.inl rfl) rides_true (kret_tmp rfl rfl (fun w' hw' => hfin hs2 (by subst hkm; rw [Int.toNat_natCast]) hw'))
  · skip
    refine ⟨_, _, rfl, good_hp hGF, hw'.news rides_true hg [(26, c1, [.slice (some ⟨b, 0, none⟩) bs.length cap1], 22), (32, b, c, 5)] ?_ (inj_two (own_ne ho hob (by decide))), ?_⟩
    · intro n' b' c' t' hl
      rcases lkB_cons hl with ⟨_, e⟩ | ⟨_, hl⟩
      · cases e; exact ⟨h1, ho⟩
      · rcases lkB_cons hl with ⟨_, e⟩ | ⟨_, hl⟩
        · cases e; exact ⟨hb, hob⟩
        · cases hl
    clear hw' hg h1 ho hb hob
    refine lx_assign rfl rfl rfl ?_
    refine lx_nil ?_
    refine x_seq ?_
    refine xs_plain (E := EE [22]) ?_
    refine lx_move rfl rfl rfl ?_
    refine lx_bin (v := .bool false) rfl rfl (fun _ => rfl) (fun w => bin_eq_fn Tryd.underlying46 _ _ _ w) rfl rfl ?_
    refine lx_nil ?_
    refine x_false rfl ?_
    refine x_skip ?_
    refine x_seq ?_
    refine xs_plain (E := EE [22]) ?_
    refine lx_move rfl rfl rfl ?_
    refine lx_nil ?_
    refine x_block ?_
    refine x_rangeS (ι := Nat × WkSt) (fun _ => pl w) (fun _ _ => pl w) (fun _ => hGF) (fun _ _ => hGF) (fun _ => rfl) (fun _ _ => rfl) rfl rfl ent33 (blocks_seq c1 (some ⟨b, 0, none⟩) cap1 bs hle) (by simp [enc]) rfl (fun k x => (x.1 = k ∧ k ≤ (blks bs).length ∧ (k = 0 ∨ (k : Int) < m)) ∧ OwnSl ((3, b3, [I m], 3) :: (5, b5, [.slice x.2.a0 (FT bs x.1).length x.2.cap], 22) :: (6, b6, [I (x.1 : Int)], 3) :: (26, c1, [.slice (some ⟨b, 0, none⟩) bs.length cap1], 22) :: (32, b, c, 5) :: x.2.own) 50 5 x.2.a0 x.2.cap (FT bs x.1)) (fun x => (3, b3, [I m], 3) :: (5, b5, [.slice x.2.a0 (FT bs x.1).length x.2.cap], 22) :: (6, b6, [I (x.1 : Int)], 3) :: (26, c1, [.slice (some ⟨b, 0, none⟩) bs.length cap1], 22) :: (32, b, c, 5) :: x.2.own) (fun cd k L' => cd = .exit 0 ∧ (k : Int) = m ∧ k ≤ (blks bs).length ∧ ∃ s : WkSt, OwnSl ((3, b3, [I m], 3) :: (5, b5, [.slice s.a0 (FT bs k).length s.cap], 22) :: (6, b6, [I (k : Int)], 3) :: (26, c1, [.slice (some ⟨b, 0, none⟩) bs.length cap1], 22) :: (32, b, c, 5) :: s.own) 50 5 s.a0 s.cap (FT bs k) ∧ SubB L' ((3, b3, [I m], 3) :: (5, b5, [.slice s.a0 (FT bs k).length s.cap], 22) :: (6, b6, [I (k : Int)], 3) :: (26, c1, [.slice (some ⟨b, 0, none⟩) bs.length cap1], 22) :: (32, b, c, 5) :: s.own)) (0, ⟨none, 0, []⟩) ⟨⟨rfl, Nat.zero_le _, .inl rfl⟩, ownSl_nil _ _ _⟩ ⟨rfl, rfl, rfl, rfl, rfl, trivial⟩ ?_ ?_ ?_ ?_
    · intro k x Y w' hs h; exact ⟨hp_cell (n := 26) rfl rfl w' h, head_bytes2 (n := 32) rfl htk w' h⟩
    · rintro k x hx ⟨k', s⟩ hs R hR
      obtain ⟨⟨hkk, hkl, hkm⟩, hs2⟩ := hs
      dsimp only at hkk hs2 ⊢
      have hkk := hkk.symm
      subst hkk
      obtain ⟨bl, hx', rfl⟩ : ∃ bl, (blks bs)[k]? = some bl ∧ enc bl = x := by rw [List.getElem?_map] at hx; cases h : (blks bs)[k]? with | none => rw [h] at hx; cases hx | some y => rw [h] at hx; exact ⟨y, rfl, Option.some.inj hx⟩
      have hbl : bl.length = 64 := blks_len bs bl (List.mem_of_getElem? hx')
      have hk1 : k + 1 ≤ (blks bs).length := (List.getElem?_eq_some_iff.1 hx').1
      refine x_plain (E := EE [22]) ?_
      refine lx_allocr 8 (hR (pl w) rfl hGF).1 zv38 rfl rfl ?_
      intro b8
      refine lx_storea 8 (hR (pl w) rfl hGF).1 rfl rfl rfl Tryd.sizeOf38 (by rw [List.length_map, hbl]) (by rw [List.length_map, List.length_replicate]) (one_u8 _) rfl ?_
      refine lx_nil ?_
      refine ⟨rfl, _, rfl, ?_⟩
      refine x_block ?_
      refine xs_drawn (E := EE [22]) mixed (by kernel_rfl) (by kernel_rfl) (by kernel_rfl) ?_
      refine lx_loadl 5 rfl rfl rfl Tryd.isAgg22 rfl rfl ?_
      refine lx_slarr1 (l := 0) (h' := 64) rfl Tryd.underlying38 Tryd.sizeOf5 rfl rfl (by omega) (by omega) rfl rfl ?_
      refine lx_append (xs := FT bs k) (ys := bl) 50 (hR (pl w) rfl hGF).2.1 rfl (by rw [hbl]; rfl) Tryd.underlying22 Tryd.underlying22 ti5 hs2 (fun w' h => BytesAt.range (hp_row (n := 8) rfl w' h)) (by rw [ft_len bs k (by omega), hbl]; omega) rfl rfl (fun h0 => absurd (congrArg List.length h0) (by simp [hbl])) (fun b17 c17 cap17 e17 l17 t17 => ?_)
      subst e17
      rw [ft_succ bs k bl hx'] at l17 t17 ⊢
      refine lx_store 5 (hR (pl w) rfl hGF).2.1 rfl rfl rfl Tryd.sizeOf22 rfl (by first | decide | simp) rfl ?_
      refine lx_nil ?_
      refine xs_plain (E := EE [22]) ?_
      refine lx_loadl 6 rfl rfl rfl Tryd.isAgg3 rfl rfl ?_
      refine lx_bin rfl rfl (fun _ => rfl) (fun _ => bin_add_i _ _ _ (by unfold inI; omega)) rfl rfl ?_
      refine lx_store 6 (hR (pl w) rfl hGF).2.1 rfl rfl rfl Tryd.sizeOf3 rfl (by first | decide | simp) rfl ?_
      refine lx_nil ?_
      refine xs_plain (E := EE [22]) ?_
      refine lx_loadl 6 rfl rfl rfl Tryd.isAgg3 rfl rfl ?_
      refine lx_loadl 3 rfl rfl rfl Tryd.isAgg3 rfl rfl ?_
      refine lx_bin rfl rfl (fun _ => rfl) (fun _ => bin_geq_i _ _ _) rfl rfl ?_
      refine lx_nil ?_
      refine x_if rfl (fun hc => ?_) (fun hc => ?_)
      · simp only [decide_eq_true_eq] at hc
        have hc := hc
        refine x_exit ?_
        refine ⟨_, rfl, rfl, by omega, hk1, ⟨some ⟨b17, 0, none⟩, _, [(50, b17, c17, 5)]⟩, .inr ⟨b17, c17, rfl, rfl, rfl, l17, t17⟩, ⟨rfl, rfl, rfl, rfl, rfl, rfl, trivial⟩⟩
      · simp only [decide_eq_false_iff_not] at hc
        refine x_skip ?_
        refine ⟨_, rfl, (k + 1, ⟨some ⟨b17, 0, none⟩, _, [(50, b17, c17, 5)]⟩), ⟨⟨rfl, hk1, .inr (by omega)⟩, .inr ⟨b17, c17, rfl, rfl, rfl, l17, t17⟩⟩, ⟨rfl, rfl, rfl, rfl, rfl, rfl, trivial⟩⟩
    · rintro D ⟨k', s⟩ ⟨⟨hkk, hkl, hkm⟩, hs2⟩ hD
      rw [List.length_map] at hkk hkm
      dsimp only at hkk hs2 ⊢
      subst hkk
      refine xs_plain (E := EE [22]) ?_
      refine lx_loadl 5 rfl rfl rfl Tryd.isAgg22 rfl rfl ?_
      refine lx_assign rfl rfl rfl ?_
      refine lx_nil ?_
      refine x_ret ?_
      repeat (first | refine kseq_ret ?_ | refine kblk_ret ?_)
      exact kretM_1 (.inl rfl) rides_true (kret_tmp rfl rfl (fun w' hw' => hfin hs2 (by rw [FT, FT]; rw [List.take_of_length_le (Nat.le_refl _), List.take_of_length_le (by rw [← Int.ofNat_le, Int.toNat_of_nonneg (by omega)]; omega)]) hw'))
    · rintro D cd k L' hD ⟨rfl, hkm, hkl, s, hs2, hsub⟩
      refine x_cls (hp_sub hD.r hsub) (good_hp hD) ?_
      refine xs_plain (E := EE [22]) ?_
      refine lx_loadl 5 rfl rfl rfl Tryd.isAgg22 rfl rfl ?_
      refine lx_assign rfl rfl rfl ?_
      refine lx_nil ?_
      refine x_ret ?_
      repeat (first | refine kseq_ret ?_ | refine kblk_ret ?_)
      exact kretM_1 (.inl rfl) rides_true (kret_tmp rfl rfl (fun w' hw' => hfin hs2 (by subst hkm; rw [Int.toNat_natCast]) hw'))
end Go.Proofs.YtkfnadpdcgcffaaDoor
