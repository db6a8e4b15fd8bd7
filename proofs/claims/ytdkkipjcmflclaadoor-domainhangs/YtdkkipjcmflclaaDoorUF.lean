/-
  Roots of a container, bytes put together: of slices that lie in a row.
-/
import Derived.Test.YtdkkipjcmflclaaDoorUE
namespace Go.Proofs.YtdkkipjcmflclaaDoor
open Go.RowKit
set_option maxRecDepth 100000
set_option maxHeartbeats 1000000
open Sh
theorem ent18 : Enters Tryd.prog 18 := fun _ _ => by kernel_rfl
theorem ent20 : Enters Tryd.prog 20 := fun _ _ => by kernel_rfl
/-- Slices of bytes that lie in a row. -/
def SlsAt (w : World) (a : Option Addr) (ls : List By) : Prop := ∀ i x, ls[i]? = some x → ∃ ad p c, a = some ad ∧ w.cell? (ad.add i) = some (.slice p x.length c) ∧ BytesAt w p x ∧ x.length ≤ c
theorem SlsAt.grow {w w' : World} {a : Option Addr} {ls : List By} (h : SlsAt w a ls) (hg : Grow w w') : SlsAt w' a ls := fun i x hx => by
  obtain ⟨ad, p, c, e, h1, h2, h3⟩ := h i x hx
  exact ⟨ad, p, c, e, (hg.cell (block_lt_of_cell h1)).trans h1, h2.grow hg, h3⟩
theorem sls_row {w : World} {b : Nat} {ls : List By} {vs : List Value} (h : w.rangeAt b 0 vs) (hv : ∀ (i : Nat) (x : By), ls[i]? = some x → ∃ p c, vs[i]? = some (Value.slice p x.length c) ∧ BytesAt w p x ∧ x.length ≤ c) : SlsAt w (some ⟨b, 0, none⟩) ls := fun i x hx => by
  obtain ⟨p, c, h1, h2, h3⟩ := hv i x hx
  exact ⟨_, p, c, rfl, by rw [Addr.add_mid]; exact h i _ h1, h2, h3⟩
/-- A field of at most 32 bytes is one chunk. -/
theorem pck1 (x : By) (h0 : 0 < x.length) (h32 : x.length ≤ 32) (a : Option Addr) (cap : Nat) (hc : x.length ≤ cap) (w : World) (hw : Gt w) (hb : BytesAt w a x) : Calls Tryd.prog 24 [.slice a x.length cap].toArray w (fun e w' => ∃ b c1, e = .returned (.slice (some ⟨b, 0, none⟩) 1 c1) ∧ Grow w w' ∧ w.heap.size ≤ b ∧ w'.rangeAt b 0 ((pad32 x).map U8)) :=
  (pck_calls x a cap (by omega) hc w hw hb).mono fun e w' ⟨v, h1, h2, a2, c2, h3, hs, hn⟩ => by
    have hk : cks x = 1 := by unfold cks; omega
    rw [hk] at h3 hs
    have hx : ck x 0 = pad32 x := by rw [ck, Nat.mul_zero, List.drop_zero, List.take_of_length_le h32]
    have e1 : RW 32 (ck x) 1 = pad32 x := by rw [RW_succ (ck x) 0 (ck_len x 0), hx]; rfl
    unfold SlR at hs
    rw [e1] at hs
    obtain ⟨b, hb2, hr⟩ := hs.at (fun h => by have := congrArg List.length h; rw [List.length_map, pad_len h32] at this; cases this)
    subst hb2
    exact ⟨b, c2, by rw [h1, h3], h2, hn _ rfl, hr⟩
theorem slr_rts {w : World} {a : Option Addr} {cap : Nat} {l : List Rt} (hl : AllR l) (h : SlR w a cap l.length (fun i => l.getD i [])) : RtsAt w a l := by
  unfold SlR at h
  rw [RW_list l hl] at h
  rcases h with ⟨_, _, h3, _⟩ | ⟨b, c, rfl, ho, _, _, _, h4⟩
  · obtain rfl : l = [] := List.eq_nil_of_length_eq_zero h3
    exact rts_nil _ _
  · exact rts_own hl ho.range (by rw [List.length_map, flat_len _ hl] at h4; exact h4)
theorem fl_le : ∀ (ls : List By), (∀ x ∈ ls, x.length ≤ 1000) → ls.flatten.length ≤ 1000 * ls.length
  | [], _ => Nat.le_refl _
  | x :: l, h => by
    rw [List.flatten_cons, List.length_append, List.length_cons]
    have := h x List.mem_cons_self
    have := fl_le l (fun y hy => h y (List.mem_cons_of_mem _ hy))
    omega
theorem take_fl {ls : List By} {k : Nat} {x : By} (h : ls[k]? = some x) : (ls.take (k + 1)).flatten = (ls.take k).flatten ++ x := by
  rw [List.take_add_one, h, List.flatten_append]
  simp
/-- The fields' chunks. -/
def pds (ls : List By) : List Rt := ls.map pad32
theorem pds_all {ls : List By} (h : ∀ x ∈ ls, 0 < x.length ∧ x.length ≤ 32) : AllR (pds ls) := fun r hr => by
  obtain ⟨x, hx, rfl⟩ := List.mem_map.1 hr
  exact pad_len (h x hx).2
theorem pds_len (ls : List By) : (pds ls).length = ls.length := List.length_map ..
theorem pds_at {ls : List By} {k : Nat} {x : By} (h : ls[k]? = some x) : (pds ls).getD k [] = pad32 x := by
  rw [List.getD_eq_getElem?_getD, pds, List.getElem?_map, h]; rfl
theorem zvW (w : World) : (zeroValue 66).run Tryd.prog w = .ok (.agg ([.pointer none, I 0] : List Value).toArray) w := Tryd.zeroValue66 w
theorem con_calls (ls : List By) (hf : ∀ x ∈ ls, 0 < x.length ∧ x.length ≤ 32) (hn : ls.length ≤ 1000) (a : Option Addr) (cap : Nat) (w : World) (hw : Gt w) (hs : SlsAt w a ls) : Calls Tryd.prog 18 [.slice a ls.length cap].toArray w (fun e w' => e = .returned (.agg ((Tor (pds ls)).map U8).toArray) ∧ Grow w w') := by
  have hGF : BOk Gt (pl w) := gt_low.plain hw
  refine calls_of_X (G := Gt) Tryd.func18 rfl rfl (Hp (pl w) []) (hp_refl (pl w) trivial rides_true) (good_hp hGF) ?_
  refine xs_plain (E := EE [24]) ?_
  refine lx_allocr 2 hGF zv23 rfl rfl ?_
  intro b2
  refine lx_nil ?_
  refine xs_plain (E := EE [24]) ?_
  refine lx_assign rfl rfl rfl ?_
  refine lx_nil ?_
  refine x_seq ?_
  refine x_now0 gt_low (fun w3 hC g3 => ?_)
  have hO := (hC.own 2 _ _ _ rfl).1
  have h1w : w.heap.size ≤ b2 := (hC.own 2 _ _ _ rfl).2.elim id False.elim
  have hg3 := hp_below hC
  have hs3 := hs.grow hg3
  clear hC
  have hGF := gt_low.plain g3
  refine xs_plain (E := EE [24]) ?_
  refine lx_move rfl rfl rfl ?_
  refine lx_len rfl (fun _ => len_slice Tryd.underlying56 _ _ _ _) rfl rfl ?_
  refine lx_move rfl rfl rfl ?_
  refine lx_nil ?_
  refine x_block ?_
  refine x_forW gt_low (ι := { x : Nat × World × Option Addr × Nat // x.1 ≤ ls.length ∧ ApR w3 x.2.1 x.2.2.1 x.2.2.2 x.1 (fun i => (pds ls).getD i []) ∧ OwnB x.2.1 b2 (Z0.map U8) 23 }) (fun x => [(0, .slice a ls.length cap), (2, .pointer (some ⟨b2, 0, none⟩)), (3, .slice x.1.2.2.1 x.1.1 x.1.2.2.2), (8, .slice a ls.length cap), (9, I (ls.length : Int)), (10, I (x.1.1 : Int))]) (fun x => x.1.2.1) (fun x => ls.length - x.1.1) ⟨(0, w3, none, 0), Nat.zero_le _, ⟨g3, Grow.refl w3, .inl ⟨rfl, rfl, rfl, rfl⟩, fun _ h => by cases h⟩, hO⟩ (fun x => x.2.2.1.g) rfl ⟨rfl, rfl, rfl, rfl, rfl, rfl, trivial⟩ ?_
  have hO3 := hO.lt
  clear hO
  rintro ⟨⟨k, wk, ak, ck'⟩, hk, hA, hO⟩
  dsimp only at hk hA hO ⊢
  have hGF : BOk Gt (pl wk) := gt_low.plain hA.g
  refine xs_plain (E := EE [24]) ?_
  rcases Nat.lt_or_ge k ls.length with hlt | hge
  · skip
    obtain ⟨x, hx⟩ : ∃ x, ls[k]? = some x := ⟨_, List.getElem?_eq_getElem hlt⟩
    have hxm := List.mem_of_getElem? hx
    have hx0 := (hf x hxm).1
    have hx32 := (hf x hxm).2
    obtain ⟨ad, p, c, rfl, hcell, hxb, hxc⟩ := (hs3.grow hA.m) k x hx
    refine lx_binB true rfl rfl (fun _ => rfl) (fun _ => bin_lss_i _ _ _) (by simp; omega) rfl rfl ?_
    refine lx_nil ?_
    refine x_seq ?_
    refine x_true rfl ?_
    refine x_skip ?_
    refine x_seq ?_
    refine x_block ?_
    refine xs_plain (E := EE [24]) ?_
    refine lx_isA k rfl rfl Tryd.underlying56 Tryd.sizeOf39 rfl hlt rfl rfl ?_
    refine lx_load (v := .slice p x.length c) rfl Tryd.isAgg39 (fun w' h => ((hp_below h).cell (block_lt_of_cell hcell)).trans hcell) rfl rfl ?_
    refine lx_assign rfl rfl rfl ?_
    refine lx_nil ?_
    refine x_plain (E := EE [24]) ?_
    refine lx_move rfl rfl rfl ?_
    refine lx_move rfl rfl rfl ?_
    refine lx_callW gt_low (M := fun _ => False) (fun k h => h.elim) rfl rfl ent24 rfl rfl hGF (Q := fun w1 w2 v => ∃ b c1, v = .slice (some ⟨b, 0, none⟩) 1 c1 ∧ w1.heap.size ≤ b ∧ w2.rangeAt b 0 ((pad32 x).map U8)) (fun w1 h1 g1 => (pck1 x hx0 hx32 p c hxc w1 g1 (hxb.grow h1)).mono fun e w2 ⟨b, c1, h1, h2, h3, h4⟩ => ⟨_, h1, grow_mm h2, b, c1, rfl, h3, h4⟩) (fun w5 w6 v hg5 hm6 g6 hq => ?_)
    obtain ⟨b6, c6, rfl, hb6, hr6⟩ := hq
    have hGF : BOk Gt (pl w6) := gt_low.plain g6
    have hg6 := hm6.grow (fun _ _ h => h)
    refine lx_appW (ys := (pad32 x).map U8) gt_low (fun w' h => hGF.g _ _ _ h) rfl rfl Tryd.underlying57 Tryd.underlying57 tiR (by simp [Value.cells]) (fun w' h => hA.s.grow ((hg5.trans hg6).trans (hp_below h))) (hA.low g3) (by rw [List.length_map]; exact pad_len hx32) (fun w' h j v hv => ((hp_below h).cell (block_lt_of_cell (hr6 j v hv))).trans (hr6 j v hv)) (one_u8 _) (fun w' h hof => absurd (hA.s.lt _ hof) (by have := hg5.size; omega)) (by omega) (by omega) rfl rfl (fun w7 w8 a1 cap1 hC g8 hm8 hs8 ho8 => ?_)
    rw [← pds_at hx] at hs8
    have hG7 := (hg5.trans hg6).trans (hp_below hC)
    have hA2 := hA.next (f := (fun i => (pds ls).getD i [])) (by show ((pds ls).getD k []).length = 32; rw [pds_at hx]; exact pad_len hx32) hG7 g8 hm8 hs8 ho8
    have hO8 := hm8.own (hO.grow hG7) (fun ⟨ad, e, h⟩ => by have := hA.o ad e; omega)
    have hGF : BOk Gt (pl w8) := gt_low.plain g8
    refine lx_assign rfl rfl rfl ?_
    refine lx_nil ?_
    refine x_plain (E := EE [24]) ?_
    refine lx_bin (v := I (((k + 1 : Nat) : Int))) rfl rfl (fun _ => rfl) (fun _ => (bin_add_i _ _ _ (by unfold inI; omega)).trans (by rfl)) rfl rfl ?_
    refine lx_move rfl rfl rfl ?_
    refine lx_nil ?_
    repeat (refine kblk_n ?_)
    refine kseq_n ?_
    exact ⟨rfl, ⟨(k + 1, w8, a1, cap1), hlt, hA2, hO8⟩, by show ls.length - (k + 1) < ls.length - k; omega, rfl, ⟨rfl, rfl, rfl, rfl, rfl, rfl, trivial⟩⟩
  · skip
    obtain rfl : k = ls.length := by omega
    have hR : RtsAt wk ak (pds ls) := slr_rts (cap := ck') (pds_all hf) (by rw [pds_len]; exact hA.s)
    have hL := pds_all hf
    refine lx_binB false rfl rfl (fun _ => rfl) (fun _ => bin_lss_i _ _ _) (by rw [decide_eq_false_iff_not]; omega) rfl rfl ?_
    refine lx_nil ?_
    refine x_seq ?_
    refine x_false rfl ?_
    refine x_exit ?_
    refine xs_plain (E := EE [24]) ?_
    refine lx_move rfl rfl rfl ?_
    refine lx_move rfl rfl rfl ?_
    refine lx_len rfl (fun _ => len_slice Tryd.underlying57 _ _ _ _) rfl rfl ?_
    refine lx_callC rfl rfl ent25 (fun w' hw' hG => mroot_y (ls.length : Int) (by omega) (pds ls) hL ls.length (pds_len ls) (by omega) ak ck' (by rw [Int.toNat_natCast]; omega) w' hG (hR.grow (hp_below hw'))) rfl rfl ?_
    rw [Int.toNat_natCast, show tre P2 Z0 (dep ls.length) (pds ls) = Tor (pds ls) from by rw [Tor, pds_len]]
    refine lx_move rfl rfl rfl ?_
    refine lx_ext rfl rfl rfl rfl ?_
    refine lx_ext rfl rfl rfl rfl ?_
    refine lx_allocr 6 hGF zv22 rfl rfl ?_
    intro b6
    refine lx_storea 6 hGF rfl rfl rfl Tryd.sizeOf22 (by rw [List.length_map]; exact tor_len hL) (by rw [List.length_map]; exact Z0_len) (one_u8 _) rfl ?_
    refine lx_assign rfl rfl rfl ?_
    refine lx_nil ?_
    refine xs_plain (E := EE [24]) ?_
    refine lx_loada 6 rfl rfl Tryd.isAgg22 Tryd.sizeOf22 (by rw [List.length_map]; exact tor_len hL) rfl rfl ?_
    refine lx_stW (vs := (Tor (pds ls)).map U8) gt_low (fun w' h => hGF.g _ _ _ h) (fun w' h => hO.grow (hp_below h)) (Nat.le_trans (gt_low.size w hw) h1w) rfl rfl Tryd.sizeOf23 (by rw [List.length_map]; exact tor_len hL) (one_u8 _) (by rw [List.length_map, tor_len hL]; decide) rfl (fun w8a w8 hC8 g8 hm8 ho8 => ?_)
    rw [lay_all _ _ (by rw [List.length_map, tor_len hL]; rfl)] at ho8
    have hW8 := hm8.grow0 (hg3.trans (hA.m.trans (hp_below hC8))) (fun k hk => hk ▸ h1w)
    have hGF := gt_low.plain g8
    clear hC8 hm8
    refine lx_nil ?_
    refine x_ret ?_
    repeat (first | refine kseq_ret ?_ | refine kblk_ret ?_)
    exact kret_cell rfl rfl Tryd.isAgg23 Tryd.sizeOf23 (by rw [List.length_map]; exact tor_len hL) (fun w' h => (ho8.grow (hp_below h)).range) (fun w' hw' => ⟨rfl, hW8.trans (hp_below hw')⟩)
theorem joi_calls (ls : List By) (hf : ∀ x ∈ ls, x.length ≤ 1000) (hn : ls.length ≤ 1000) (a : Option Addr) (cap : Nat) (w : World) (hw : Gt w) (hs : SlsAt w a ls) : Calls Tryd.prog 20 [.slice a ls.length cap].toArray w (fun e w' => ∃ v, e = .returned v ∧ Grow w w' ∧ Fr8 w w' v ls.flatten) := by
  have hGF : BOk Gt (pl w) := gt_low.plain hw
  refine calls_of_X (G := Gt) Tryd.func20 rfl rfl (Hp (pl w) []) (hp_refl (pl w) trivial rides_true) (good_hp hGF) ?_
  refine xs_plain (E := EE [28, 29]) ?_
  refine lx_assign rfl rfl rfl ?_
  refine lx_nil ?_
  refine xs_plain (E := EE [28, 29]) ?_
  refine lx_allocr 3 hGF zvW rfl rfl ?_
  intro b3
  refine lx_nil ?_
  refine x_seq ?_
  refine x_now0 gt_low (fun w3 hC g3 => ?_)
  have hW := (hC.own 3 _ _ _ rfl).1
  have h1w : w.heap.size ≤ b3 := (hC.own 3 _ _ _ rfl).2.elim id False.elim
  have hg3 := hp_below hC
  clear hC
  have hGF := gt_low.plain g3
  have hWr : WrAt (fun _ => False) w3 b3 [] := ⟨[], none, hW, rfl, rfl, id⟩
  refine xs_plain (E := EE [28, 29]) ?_
  refine lx_move rfl rfl rfl ?_
  refine lx_len rfl (fun _ => len_slice Tryd.underlying56 _ _ _ _) rfl rfl ?_
  refine lx_move rfl rfl rfl ?_
  refine lx_nil ?_
  refine x_block ?_
  refine x_forW gt_low (ι := { x : Nat × World // x.1 ≤ ls.length ∧ Gt x.2 ∧ Grow w x.2 ∧ ∃ S, WrAt S x.2 b3 (ls.take x.1).flatten }) (fun x => [(0, .slice a ls.length cap), (3, .pointer (some ⟨b3, 0, none⟩)), (6, .slice a ls.length cap), (7, I (ls.length : Int)), (8, I (x.1.1 : Int))]) (fun x => x.1.2) (fun x => ls.length - x.1.1) ⟨(0, w3), Nat.zero_le _, g3, hg3, _, hWr⟩ (fun x => x.2.2.1) rfl ⟨rfl, rfl, rfl, rfl, rfl, trivial⟩ ?_
  clear hWr hW
  rintro ⟨⟨k, wk⟩, hk, gk, hgk, S, hWr⟩
  dsimp only at hk gk hgk hWr ⊢
  have hGF : BOk Gt (pl wk) := gt_low.plain gk
  refine xs_plain (E := EE [28, 29]) ?_
  rcases Nat.lt_or_ge k ls.length with hlt | hge
  · skip
    obtain ⟨x, hx⟩ : ∃ x, ls[k]? = some x := ⟨_, List.getElem?_eq_getElem hlt⟩
    have hx10 := hf x (List.mem_of_getElem? hx)
    obtain ⟨ad, p, c, rfl, hcell, hxb, hxc⟩ := (hs.grow hgk) k x hx
    have hkl : (ls.take k).flatten.length ≤ 1000000 := by have := fl_le (ls.take k) (fun y hy => hf y (List.mem_of_mem_take hy)); rw [List.length_take] at this; omega
    refine lx_binB true rfl rfl (fun _ => rfl) (fun _ => bin_lss_i _ _ _) (by simp; omega) rfl rfl ?_
    refine lx_nil ?_
    refine x_seq ?_
    refine x_true rfl ?_
    refine x_skip ?_
    refine x_seq ?_
    refine x_block ?_
    refine xs_plain (E := EE [28, 29]) ?_
    refine lx_isA k rfl rfl Tryd.underlying56 Tryd.sizeOf39 rfl hlt rfl rfl ?_
    refine lx_load (v := .slice p x.length c) rfl Tryd.isAgg39 (fun w' h => ((hp_below h).cell (block_lt_of_cell hcell)).trans hcell) rfl rfl ?_
    refine lx_assign rfl rfl rfl ?_
    refine lx_nil ?_
    refine x_plain (E := EE [28, 29]) ?_
    refine lx_move rfl rfl rfl ?_
    refine lx_callW gt_low (M := fun k => k = b3) (fun k h => h ▸ Nat.le_trans (gt_low.size w hw) h1w) rfl rfl ent28 rfl rfl hGF (Q := fun w1 w2 v => v = .tuple #[] ∧ ∃ S, WrAt S w2 b3 ((ls.take k).flatten ++ x)) (fun w1 h1 g1 => (wb_calls S b3 _ x p c hkl (by omega) w1 g1 (Nat.le_trans (gt_low.size w hw) h1w) (hWr.grow h1) (hxb.grow h1)).mono fun e w4 ⟨h1, h2, h4⟩ => ⟨_, h1, h2, rfl, _, h4⟩) (fun w4 w5 v hg4 hm5 g5 hq => ?_)
    obtain ⟨rfl, S2, hWr2⟩ := hq
    rw [← take_fl hx] at hWr2
    have hG5 := hm5.grow0 (hgk.trans hg4) (fun k hk => hk ▸ h1w)
    have hGF := gt_low.plain g5
    refine lx_nil ?_
    refine x_plain (E := EE [28, 29]) ?_
    refine lx_bin (v := I (((k + 1 : Nat) : Int))) rfl rfl (fun _ => rfl) (fun _ => (bin_add_i _ _ _ (by unfold inI; omega)).trans (by rfl)) rfl rfl ?_
    refine lx_move rfl rfl rfl ?_
    refine lx_nil ?_
    repeat (refine kblk_n ?_)
    refine kseq_n ?_
    exact ⟨rfl, ⟨(k + 1, w5), hlt, g5, hG5, S2, hWr2⟩, by show ls.length - (k + 1) < ls.length - k; omega, rfl, ⟨rfl, rfl, rfl, rfl, rfl, trivial⟩⟩
  · skip
    obtain rfl : k = ls.length := by omega
    rw [List.take_length] at hWr
    have hfl := fl_le ls hf
    refine lx_binB false rfl rfl (fun _ => rfl) (fun _ => bin_lss_i _ _ _) (by rw [decide_eq_false_iff_not]; omega) rfl rfl ?_
    refine lx_nil ?_
    refine x_seq ?_
    refine x_false rfl ?_
    refine x_exit ?_
    refine xs_plain (E := EE [28, 29]) ?_
    refine lx_callW gt_low (M := fun _ => False) (fun k h => h.elim) rfl rfl ent29 rfl rfl hGF (Q := fun w1 w2 v => Fr8 w1 w2 v ls.flatten) (fun w1 h1 g1 => (wal_calls S b3 ls.flatten (by omega) w1 g1 (hWr.grow h1)).mono fun e w4 ⟨v, h1, h2, h3⟩ => ⟨v, h1, grow_mm h2, h3⟩) (fun w6 w7 v hg6 hm7 g7 hq => ?_)
    obtain ⟨a9, c9, rfl, hs9, hn9⟩ := hq
    have hg7 := hm7.grow (fun _ _ h => h)
    have hG7 := (hgk.trans hg6).trans hg7
    have hGF := gt_low.plain g7
    refine lx_assign rfl rfl rfl ?_
    refine lx_nil ?_
    refine x_ret ?_
    repeat (first | refine kseq_ret ?_ | refine kblk_ret ?_)
    exact kret_tmp rfl rfl (fun w' hw' => ⟨_, rfl, hG7.trans (hp_below hw'), a9, c9, rfl, hs9.grow (hp_below hw'), fun ad e => by have := hn9 ad e; have := (hgk.trans hg6).size; omega⟩)
end Go.Proofs.YtdkkipjcmflclaaDoor
