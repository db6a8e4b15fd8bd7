/-
  The program's roots of lists, of bytes, of bits; a committee of so many keys.
-/
import Derived.Test.YtldnceanfncdfaaDoorUD
import Derived.Test.YtldnceanfncdfaaDoorWE
import Derived.Test.YtldnceanfncdfaaDoorX3
namespace Go.Proofs.YtldnceanfncdfaaDoor
open Go.RowKit
set_option maxRecDepth 100000
set_option maxHeartbeats 1000000
open Sh
theorem ent32 : Enters Tryd.prog 32 := fun _ _ => by kernel_rfl
theorem ent40 : Enters Tryd.prog 40 := fun _ _ => by kernel_rfl
theorem ent42 : Enters Tryd.prog 42 := fun _ _ => by kernel_rfl
theorem ent35 : Enters Tryd.prog 35 := fun _ _ => by kernel_rfl
theorem ent38 : Enters Tryd.prog 38 := fun _ _ => by kernel_rfl
theorem ent37 : Enters Tryd.prog 37 := fun _ _ => by kernel_rfl
theorem ent22 : Enters Tryd.prog 22 := fun _ _ => by kernel_rfl
theorem root_calls (l : List Rt) (hl : AllR l) (hln : l.length ≤ 65536) (a : Option Addr) (cap : Nat) (w : World) (hw : Gt w) (hr : RtsAt w a l) : Calls Tryd.prog 32 [.slice a l.length cap].toArray w (fun e w' => e = .returned (.agg ((Tor l).map U8).toArray) ∧ Grow w w') := by
  have hGF : BOk Gt (pl w) := gt_low.plain hw
  refine calls_of_X (G := Gt) Tryd.func32 rfl rfl (Hp (pl w) []) (hp_refl (pl w) trivial rides_true) (good_hp hGF) ?_
  refine xs_plain (E := EE []) ?_
  refine lx_allocr 2 hGF zv24 rfl rfl ?_
  intro b2
  refine lx_nil ?_
  refine xs_plain (E := EE []) ?_
  refine lx_move rfl rfl rfl ?_
  refine lx_move rfl rfl rfl ?_
  refine lx_len rfl (fun _ => len_slice Tryd.underlying60 _ _ _ _) rfl rfl ?_
  refine lx_callC rfl rfl ent47 (fun w' hw' hG => mroot_y (l.length : Int) (by omega) l hl l.length rfl hln a cap (by rw [Int.toNat_natCast]; omega) w' hG (hr.grow (hp_below hw'))) rfl rfl ?_
  rw [Int.toNat_natCast, show tre P2 Z0 (dep l.length) l = Tor l from rfl]
  refine lx_move rfl rfl rfl ?_
  refine lx_ext rfl rfl rfl rfl ?_
  refine lx_ext rfl rfl rfl rfl ?_
  refine lx_allocr 3 hGF zv23 rfl rfl ?_
  intro b3
  refine lx_storea 3 hGF rfl rfl rfl Tryd.sizeOf23 (by rw [List.length_map]; exact tor_len hl) (by rw [List.length_map]; exact Z0_len) (one_u8 _) rfl ?_
  refine lx_assign rfl rfl rfl ?_
  refine lx_nil ?_
  refine xs_plain (E := EE []) ?_
  refine lx_loada 3 rfl rfl Tryd.isAgg23 Tryd.sizeOf23 (by rw [List.length_map]; exact tor_len hl) rfl rfl ?_
  refine lx_storea 2 hGF rfl rfl rfl Tryd.sizeOf24 (by rw [List.length_map]; exact tor_len hl) (by rw [List.length_map]; exact Z0_len) (one_u8 _) rfl ?_
  refine lx_nil ?_
  refine x_ret ?_
  repeat (first | refine kseq_ret ?_ | refine kblk_ret ?_)
  exact kret_own 2 rfl rfl rfl Tryd.isAgg24 Tryd.sizeOf24 (by rw [List.length_map]; exact tor_len hl) (fun w' hw' => ⟨rfl, hp_below hw'⟩)
theorem br8_nil : BR8 [] = Tor [] := by rw [BR8, show chs [] = [] from rfl]
theorem oct_n (a : Option Addr) (cap : Nat) (w : World) (hw : Gt w) : Calls Tryd.prog 40 [.slice a 0 cap].toArray w (fun e w' => e = .returned (.agg ((BR8 []).map U8).toArray) ∧ Grow w w') := by
  have hGF : BOk Gt (pl w) := gt_low.plain hw
  refine calls_of_X (G := Gt) Tryd.func40 rfl rfl (Hp (pl w) []) (hp_refl (pl w) trivial rides_true) (good_hp hGF) ?_
  refine xs_plain (E := EE [52]) ?_
  refine lx_allocr 2 hGF zv24 rfl rfl ?_
  intro b2
  refine lx_nil ?_
  refine xs_plain (E := EE [52]) ?_
  refine lx_move rfl rfl rfl ?_
  refine lx_callE rfl rfl ent52 rfl rfl (fun w' hw' => (pck_calls [] a cap (by decide) (Nat.zero_le _) w' (hGF.g _ _ _ hw') (bytes_nil _ _)).mono fun e1 w2 h => ?_)
  obtain ⟨_, rfl, hg, a9, c9, rfl, hs9, hn9⟩ := h
  refine ⟨_, _, rfl, good_hp hGF, hw'.news rides_true hg [] (fun _ _ _ _ h => by cases h) (fun _ _ _ _ _ _ _ h => by cases h), ?_⟩
  clear hw' hg hs9 hn9
  refine lx_callC rfl rfl ent32 (fun w' hw' hG => root_calls [] (fun _ h => by simp at h) (by decide) a9 c9 w' hG (rts_nil _ _)) rfl rfl ?_
  rw [← br8_nil]
  refine lx_storea 2 hGF rfl rfl rfl Tryd.sizeOf24 (by rw [List.length_map]; exact BR8_len []) (by rw [List.length_map]; exact Z0_len) (one_u8 _) rfl ?_
  refine lx_nil ?_
  refine x_ret ?_
  repeat (first | refine kseq_ret ?_ | refine kblk_ret ?_)
  exact kret_own 2 rfl rfl rfl Tryd.isAgg24 Tryd.sizeOf24 (by rw [List.length_map]; exact BR8_len []) (fun w' hw' => ⟨rfl, hp_below hw'⟩)
theorem oct_s (bs : By) (h0 : 0 < bs.length) (hl : bs.length ≤ 1000000) (a : Option Addr) (cap : Nat) (hc : bs.length ≤ cap) (w : World) (hw : Gt w) (hb : BytesAt w a bs) : Calls Tryd.prog 40 [.slice a bs.length cap].toArray w (fun e w' => e = .returned (.agg ((BR8 bs).map U8).toArray) ∧ Grow w w') := by
  have hGF : BOk Gt (pl w) := gt_low.plain hw
  refine calls_of_X (G := Gt) Tryd.func40 rfl rfl (Hp (pl w) []) (hp_refl (pl w) trivial rides_true) (good_hp hGF) ?_
  refine xs_plain (E := EE [52]) ?_
  refine lx_allocr 2 hGF zv24 rfl rfl ?_
  intro b2
  refine lx_nil ?_
  refine xs_plain (E := EE [52]) ?_
  refine lx_move rfl rfl rfl ?_
  refine lx_callE rfl rfl ent52 rfl rfl (fun w' hw' => (pck_calls bs a cap hl hc w' (hGF.g _ _ _ hw') (hb.grow (hp_below hw'))).mono fun e1 w2 h => ?_)
  obtain ⟨_, rfl, hg, a9, c9, rfl, hs9, hn9⟩ := h
  unfold SlR at hs9
  rw [chs_flat, ← chs_len] at hs9
  obtain ⟨b9, cs9, rfl, ho9, hl9, hc9, _, ht9⟩ := hs9.resolve_left (fun h => by have h3 := h.2.2.1; rw [chs_len] at h3; unfold cks at h3; omega)
  refine ⟨_, _, rfl, good_hp hGF, hw'.news rides_true hg [(4, b9, cs9, 23)] ?_ inj_one, ?_⟩
  · intro n' b' c' t' hl
    rcases lkB_cons hl with ⟨_, e⟩ | ⟨_, hl⟩
    · cases e; exact ⟨hn9 _ rfl, ho9⟩
    · cases hl
  rw [← chs_len]
  rw [List.length_map, flat_len _ (chs_all bs)] at ht9
  clear hw' hg hn9 ho9
  refine lx_callC rfl rfl ent32 (fun w' hw' hG => root_calls (chs bs) (chs_all bs) (by rw [chs_len]; unfold cks; omega) _ c9 w' hG (own_rts (n := 4) (chs_all bs) rfl ht9 w' hw')) rfl rfl ?_
  rw [show Tor (chs bs) = BR8 bs from rfl]
  refine lx_storea 2 hGF rfl rfl rfl Tryd.sizeOf24 (by rw [List.length_map]; exact BR8_len bs) (by rw [List.length_map]; exact Z0_len) (one_u8 _) rfl ?_
  refine lx_nil ?_
  refine x_ret ?_
  repeat (first | refine kseq_ret ?_ | refine kblk_ret ?_)
  exact kret_own 2 rfl rfl rfl Tryd.isAgg24 Tryd.sizeOf24 (by rw [List.length_map]; exact BR8_len bs) (fun w' hw' => ⟨rfl, hp_below hw'⟩)
theorem oct_calls (bs : By) (hl : bs.length ≤ 1000000) (a : Option Addr) (cap : Nat) (hc : bs.length ≤ cap) (w : World) (hw : Gt w) (hb : BytesAt w a bs) : Calls Tryd.prog 40 [.slice a bs.length cap].toArray w (fun e w' => e = .returned (.agg ((BR8 bs).map U8).toArray) ∧ Grow w w') := by
  rcases Nat.eq_zero_or_pos bs.length with h0 | h0
  · obtain rfl : bs = [] := List.eq_nil_of_length_eq_zero h0
    exact oct_n a cap w hw
  · exact oct_s bs h0 hl a cap hc w hw hb
theorem rky_p (k : By) (hk : k.length = 48) (w : World) (hw : Gt w) : Calls Tryd.prog 22 [.agg (k.map U8).toArray].toArray w (fun e w' => e = .returned (.agg ((BR8 k).map U8).toArray) ∧ Grow w w') := by
  have hGF : BOk Gt (pl w) := gt_low.plain hw
  refine calls_of_X (G := Gt) Tryd.func22 rfl rfl (Hp (pl w) []) (hp_refl (pl w) trivial rides_true) (good_hp hGF) ?_
  refine xs_plain (E := EE []) ?_
  refine lx_boxr 1 hGF rfl rfl rfl ?_
  intro b1
  refine lx_allocr 2 hGF zv24 rfl rfl ?_
  intro b2
  refine lx_nil ?_
  refine xs_plain (E := EE []) ?_
  refine lx_slarr0 (n := 48) rfl Tryd.underlying29 Tryd.sizeOf5 (by decide) rfl rfl ?_
  refine lx_callC rfl rfl ent40 (fun w' hw' hG => by rw [← hk]; exact oct_calls k (by rw [hk]; decide) _ k.length (Nat.le_refl _) w' hG (BytesAt.range (hp_row (n := 1) rfl w' hw'))) rfl rfl ?_
  refine lx_storea 2 hGF rfl rfl rfl Tryd.sizeOf24 (by rw [List.length_map]; exact BR8_len _) (by rw [List.length_map]; exact Z0_len) (one_u8 _) rfl ?_
  refine lx_nil ?_
  refine x_ret ?_
  repeat (first | refine kseq_ret ?_ | refine kblk_ret ?_)
  exact kret_own 2 rfl rfl rfl Tryd.isAgg24 Tryd.sizeOf24 (by rw [List.length_map]; exact BR8_len _) (fun w' hw' => ⟨rfl, hp_below hw'⟩)
theorem zvW (w : World) : (zeroValue 95).run Tryd.prog w = .ok (.agg ([.pointer none, I 0] : List Value).toArray) w := Tryd.zeroValue95 w
theorem bts_calls (l : List Bool) (a : Option Addr) (cap : Nat) (hl : l.length ≤ 1000) (w : World) (hw : Gt w) (hb : CellsAt w a (l.map .bool)) : Calls Tryd.prog 42 [.slice a l.length cap].toArray w (fun e w' => e = .returned (.agg ((BR8 (pb l l.length)).map U8).toArray) ∧ Grow w w') := by
  have hGF : BOk Gt (pl w) := gt_low.plain hw
  refine calls_of_X (G := Gt) Tryd.func42 rfl rfl (Hp (pl w) []) (hp_refl (pl w) trivial rides_true) (good_hp hGF) ?_
  refine xs_plain (E := EE [54, 55]) ?_
  refine lx_allocr 2 hGF zv24 rfl rfl ?_
  intro b2
  refine lx_nil ?_
  refine xs_plain (E := EE [54, 55]) ?_
  refine lx_allocr 3 hGF zvW rfl rfl ?_
  intro b3
  refine lx_nil ?_
  refine x_now0 gt_low (fun w3 hC g3 => ?_)
  have hO := (hC.own 2 _ _ _ rfl).1
  have hW := (hC.own 3 _ _ _ rfl).1
  have h1w : w.heap.size ≤ b2 := (hC.own 2 _ _ _ rfl).2.elim id False.elim
  have h2w : w.heap.size ≤ b3 := (hC.own 3 _ _ _ rfl).2.elim id False.elim
  have hne : ¬ b2 = b3 := fun e => absurd (hC.inj 2 3 _ _ _ _ _ rfl (by rw [e]; rfl)) (by decide)
  have hg3 := hp_below hC
  clear hC
  have hGF := gt_low.plain g3
  have hWr : WrAt (fun _ => False) w3 b3 [] := ⟨[], none, hW, rfl, rfl, id⟩
  refine xs_plain (E := EE [54, 55]) ?_
  refine lx_move rfl rfl rfl ?_
  refine lx_callW gt_low (M := fun k => k = b3) (fun k h => h ▸ Nat.le_trans (gt_low.size w hw) h2w) rfl rfl ent54 rfl rfl hGF (Q := fun w1 w2 v => v = .tuple #[] ∧ ∃ S, WrAt S w2 b3 (pb l l.length)) (fun w1 h1 g1 => (wt_calls (fun _ => False) b3 [] l a cap (by omega) (by simp) w1 g1 (Nat.le_trans (gt_low.size w hw) h2w) (hWr.grow h1) (cells_grow hb (hg3.trans h1))).mono fun e w4 ⟨h1, h2, h4⟩ => ⟨_, h1, h2, rfl, _, h4⟩) (fun w4 w5 v hg4 hm5 g5 hq => ?_)
  obtain ⟨rfl, S, hWr⟩ := hq
  have hO := hm5.own (hO.grow hg4) hne
  have hG5 := hm5.grow0 (hg3.trans hg4) (fun k hk => hk ▸ h2w)
  have hGF := gt_low.plain g5
  refine lx_nil ?_
  refine xs_plain (E := EE [54, 55]) ?_
  refine lx_callW gt_low (M := fun _ => False) (fun k h => h.elim) rfl rfl ent55 rfl rfl hGF (Q := fun w1 w2 v => Fr8 w1 w2 v (pb l l.length)) (fun w1 h1 g1 => (wal_calls S b3 (pb l l.length) (by rw [pb_len]; unfold szB; omega) w1 g1 (hWr.grow h1)).mono fun e w4 ⟨v, h1, h2, h3⟩ => ⟨v, h1, grow_mm h2, h3⟩) (fun w6 w7 v hg6 hm7 g7 hq => ?_)
  obtain ⟨a9, c9, rfl, hs9, hn9⟩ := hq
  have hg7 := hm7.grow (fun _ _ h => h)
  have hO := (hO.grow hg6).grow hg7
  have hG7 := (hG5.trans hg6).trans hg7
  have hGF := gt_low.plain g7
  have hc9 : (pb l l.length).length ≤ c9 := by have := hs9.le; rwa [List.length_map] at this
  refine lx_callC rfl rfl ent40 (fun w' hw' hG => oct_calls (pb l l.length) (by rw [pb_len]; unfold szB; omega) a9 c9 hc9 w' hG (hs9.grow (hp_below hw')).bytes) rfl rfl ?_
  refine lx_stW (vs := (BR8 (pb l l.length)).map U8) gt_low (fun w' h => hGF.g _ _ _ h) (fun w' h => hO.grow (hp_below h)) (Nat.le_trans (gt_low.size w hw) h1w) rfl rfl Tryd.sizeOf24 (by rw [List.length_map]; exact BR8_len _) (one_u8 _) (by rw [List.length_map, BR8_len]; decide) rfl (fun w8a w8 hC8 g8 hm8 ho8 => ?_)
  rw [lay_all _ _ (by rw [List.length_map, BR8_len]; rfl)] at ho8
  have hW8 := hm8.grow0 (hG7.trans (hp_below hC8)) (fun k hk => hk ▸ h1w)
  have hGF := gt_low.plain g8
  clear hC8 hm8
  refine lx_nil ?_
  refine x_ret ?_
  repeat (first | refine kseq_ret ?_ | refine kblk_ret ?_)
  exact kret_cell rfl rfl Tryd.isAgg24 Tryd.sizeOf24 (by rw [List.length_map]; exact BR8_len _) (fun w' h => (ho8.grow (hp_below h)).range) (fun w' hw' => ⟨rfl, hW8.trans (hp_below hw')⟩)
/-- Rows of a list, filled one by one. -/
structure RwS (n : Nat) (f : Nat → By) where
  (k : Nat) (c : List Value)
  hk : k ≤ n
  hc : c.length = 32 * n
  ht : c.take (32 * k) = (RW 32 f k).map U8
theorem rws_step {n k : Nat} {f : Nat → By} {c : List Value} (hk : k < n) (hc : c.length = 32 * n) (ht : c.take (32 * k) = (RW 32 f k).map U8) (hf : (f k).length = 32) : (lay (0 + 32 * k) ((f k).map U8) c).take (32 * (k + 1)) = (RW 32 f (k + 1)).map U8 := by
  rw [Nat.zero_add, lay_eq _ _ _ (by rw [List.length_map, hf, hc]; omega), RW_succ f k hf, List.map_append, ← ht, List.take_append_of_le_length (by simp [hc, hf]; omega)]
  exact List.take_of_length_le (by simp [hf]; omega)
def rws_zero (n : Nat) (f : Nat → By) : RwS n f := ⟨0, (List.replicate (32 * n) 0#8).map U8, Nat.zero_le _, by simp, by simp [RW]⟩
theorem brn_calls (l : List Rt) (hl : AllR l) (hln : l.length ≤ 1000) (a : Option Addr) (cap : Nat) (w : World) (hw : Gt w) (hr : RtsAt w a l) : Calls Tryd.prog 38 [.slice a l.length cap].toArray w (fun e w' => e = .returned (.agg ((Tor l).map U8).toArray) ∧ Grow w w') := by
  have hGF : BOk Gt (pl w) := gt_low.plain hw
  refine calls_of_X (G := Gt) Tryd.func38 rfl rfl (Hp (pl w) []) (hp_refl (pl w) trivial rides_true) (good_hp hGF) ?_
  refine xs_plain (E := EE []) ?_
  refine lx_allocr 2 hGF zv24 rfl rfl ?_
  intro b2
  refine lx_nil ?_
  refine xs_plain (E := EE []) ?_
  refine lx_move rfl rfl rfl ?_
  refine lx_len rfl (fun _ => len_slice Tryd.underlying71 _ _ _ _) rfl rfl ?_
  refine lx_mkslC (l := l.length) (m := l.length) (c := (List.replicate (32 * l.length) 0#8).map U8) 8 hGF rfl rfl (Nat.le_refl _) Tryd.underlying60 tiR ⟨by omega, by omega, by omega⟩ (madeR _) rfl rfl ?_
  intro b8
  refine lx_assign rfl rfl rfl ?_
  refine lx_nil ?_
  refine x_seq ?_
  refine xs_plain (E := EE []) ?_
  refine lx_move rfl rfl rfl ?_
  refine lx_len rfl (fun _ => len_slice Tryd.underlying71 _ _ _ _) rfl rfl ?_
  refine lx_move rfl rfl rfl ?_
  refine lx_nil ?_
  refine x_block ?_
  refine x_for (ι := RwS l.length (fun i => l.getD i [])) (fun x => [(0, .slice a l.length cap), (2, .pointer (some ⟨b2, 0, none⟩)), (3, .slice (some ⟨b8, 0, none⟩) l.length l.length), (9, .slice a l.length cap), (10, I (l.length : Int)), (11, I (x.k : Int))]) (fun x => [(2, b2, Z0.map U8, 24), (8, b8, x.c, 23)]) (fun x => l.length - x.k) (rws_zero _ _) hGF ⟨rfl, rfl, rfl, rfl, rfl, rfl, trivial⟩ ⟨rfl, rfl, trivial⟩ ?_
  rintro ⟨k, c2, hk, hc2, ht2⟩
  dsimp only
  refine xs_plain (E := EE []) ?_
  rcases Nat.lt_or_ge k l.length with hlt | hge
  · skip
    obtain ⟨y, hiy⟩ : ∃ y, l[k]? = some y := ⟨_, List.getElem?_eq_getElem hlt⟩
    have hy : y.length = 32 := hl y (List.mem_of_getElem? hiy)
    obtain ⟨ad, hka, hyc⟩ := hr k y hiy
    have hfy : (fun i => l.getD i []) k = y := by show l.getD k [] = _; rw [List.getD_eq_getElem?_getD, hiy]; rfl
    have hfk : y.length = 32 := hy
    refine lx_binB true rfl rfl (fun _ => rfl) (fun _ => bin_lss_i _ _ _) (by simp; omega) rfl rfl ?_
    refine lx_nil ?_
    refine x_seq ?_
    refine x_true rfl ?_
    refine x_skip ?_
    refine x_seq ?_
    refine x_block ?_
    refine xs_plain (E := EE []) ?_
    refine lx_move rfl rfl rfl ?_
    refine lx_isAW (ad := ad) k 32 (by rw [← hka]; rfl) rfl Tryd.underlying71 Tryd.sizeOf24 rfl hlt rfl rfl ?_
    refine lx_loadA (cs := y.map U8) rfl Tryd.isAgg24 Tryd.sizeOf24 (by rw [List.length_map]; exact hy) (fun w' h j v hv => ((hp_below h).cell (block_lt_of_cell (hyc j v hv))).trans (hyc j v hv)) rfl rfl ?_
    refine lx_allocr 5 hGF zv24 rfl rfl ?_
    intro b5
    refine lx_assign rfl rfl rfl ?_
    refine lx_storea 5 hGF rfl rfl rfl Tryd.sizeOf24 (by rw [List.length_map]; exact hy) (by rw [List.length_map]; rfl) (one_u8 _) rfl ?_
    refine lx_nil ?_
    refine x_plain (E := EE []) ?_
    refine lx_move rfl rfl rfl ?_
    refine lx_move rfl rfl rfl ?_
    refine lx_loada 5 rfl rfl Tryd.isAgg24 Tryd.sizeOf24 (by rw [List.length_map]; exact hy) rfl rfl ?_
    refine lx_isW (s := 32) k rfl rfl Tryd.underlying60 Tryd.sizeOf23 rfl hlt rfl rfl ?_
    refine lx_storer (vs := (y).map U8) (o := 0 + 32 * k) 8 hGF rfl rfl rfl Tryd.sizeOf23 (by rw [List.length_map]; exact hfk) (one_u8 _) (by rw [List.length_map, hfk, hc2]; omega) rfl ?_
    refine lx_nil ?_
    refine x_plain (E := EE []) ?_
    refine lx_bin (v := I (((k + 1 : Nat) : Int))) rfl rfl (fun _ => rfl) (fun _ => (bin_add_i _ _ _ (by unfold inI; omega)).trans (by rfl)) rfl rfl ?_
    refine lx_move rfl rfl rfl ?_
    refine lx_nil ?_
    repeat (refine kblk_n ?_)
    refine kseq_n ?_
    exact ⟨rfl, ⟨k + 1, lay (0 + 32 * k) ((y).map U8) c2, hlt, by rw [lay_length]; exact hc2, by rw [← hfy] at hfk ⊢; exact rws_step hlt hc2 ht2 hfk⟩, _, by show l.length - (k + 1) < l.length - k; omega, rfl, ⟨rfl, rfl, rfl, rfl, rfl, rfl, trivial⟩, ⟨rfl, rfl, trivial⟩⟩
  · skip
    obtain rfl : k = l.length := by omega
    rw [RW_list l hl] at ht2
    have hAl := hl
    have hLn : l.length = l.length := rfl
    refine lx_binB false rfl rfl (fun _ => rfl) (fun _ => bin_lss_i _ _ _) (by rw [decide_eq_false_iff_not]; omega) rfl rfl ?_
    refine lx_nil ?_
    refine x_seq ?_
    refine x_false rfl ?_
    refine x_exit ?_
    refine xs_plain (E := EE []) ?_
    refine lx_move rfl rfl rfl ?_
    refine lx_callC rfl rfl ent32 (fun w' hw' hG => by have := root_calls l hl (by omega) _ l.length w' hG (own_rts (n := 8) hAl rfl ht2 w' hw'); rw [hLn] at this; exact this) rfl rfl ?_
    refine lx_storea 2 hGF rfl rfl rfl Tryd.sizeOf24 (by rw [List.length_map]; exact tor_len hl) (by rw [List.length_map]; exact Z0_len) (one_u8 _) rfl ?_
    refine lx_nil ?_
    refine x_ret ?_
    repeat (first | refine kseq_ret ?_ | refine kblk_ret ?_)
    exact kret_own 2 rfl rfl rfl Tryd.isAgg24 Tryd.sizeOf24 (by rw [List.length_map]; exact tor_len hl) (fun w' hw' => ⟨rfl, hp_below hw'⟩)
theorem keys_calls (ks : List By) (hl : ∀ r ∈ ks, r.length = 48) (hln : ks.length ≤ 1000) (a : Option Addr) (cap : Nat) (w : World) (hw : Gt w) (hr : RwsAt 48 w a ks) : Calls Tryd.prog 35 [.slice a ks.length cap].toArray w (fun e w' => e = .returned (.agg ((Tor (krs ks ks.length)).map U8).toArray) ∧ Grow w w') := by
  have hGF : BOk Gt (pl w) := gt_low.plain hw
  refine calls_of_X (G := Gt) Tryd.func35 rfl rfl (Hp (pl w) []) (hp_refl (pl w) trivial rides_true) (good_hp hGF) ?_
  refine xs_plain (E := EE []) ?_
  refine lx_allocr 2 hGF zv24 rfl rfl ?_
  intro b2
  refine lx_nil ?_
  refine xs_plain (E := EE []) ?_
  refine lx_move rfl rfl rfl ?_
  refine lx_len rfl (fun _ => len_slice Tryd.underlying27 _ _ _ _) rfl rfl ?_
  refine lx_mkslC (l := ks.length) (m := ks.length) (c := (List.replicate (32 * ks.length) 0#8).map U8) 8 hGF rfl rfl (Nat.le_refl _) Tryd.underlying60 tiR ⟨by omega, by omega, by omega⟩ (madeR _) rfl rfl ?_
  intro b8
  refine lx_assign rfl rfl rfl ?_
  refine lx_nil ?_
  refine x_seq ?_
  refine xs_plain (E := EE []) ?_
  refine lx_move rfl rfl rfl ?_
  refine lx_len rfl (fun _ => len_slice Tryd.underlying27 _ _ _ _) rfl rfl ?_
  refine lx_move rfl rfl rfl ?_
  refine lx_nil ?_
  refine x_block ?_
  refine x_for (ι := RwS ks.length (fun i => BR8 (ks.getD i Z48))) (fun x => [(0, .slice a ks.length cap), (2, .pointer (some ⟨b2, 0, none⟩)), (3, .slice (some ⟨b8, 0, none⟩) ks.length ks.length), (9, .slice a ks.length cap), (10, I (ks.length : Int)), (11, I (x.k : Int))]) (fun x => [(2, b2, Z0.map U8, 24), (8, b8, x.c, 23)]) (fun x => ks.length - x.k) (rws_zero _ _) hGF ⟨rfl, rfl, rfl, rfl, rfl, rfl, trivial⟩ ⟨rfl, rfl, trivial⟩ ?_
  rintro ⟨k, c2, hk, hc2, ht2⟩
  dsimp only
  refine xs_plain (E := EE []) ?_
  rcases Nat.lt_or_ge k ks.length with hlt | hge
  · skip
    obtain ⟨y, hiy⟩ : ∃ y, ks[k]? = some y := ⟨_, List.getElem?_eq_getElem hlt⟩
    have hy : y.length = 48 := hl y (List.mem_of_getElem? hiy)
    obtain ⟨ad, hka, hyc⟩ := hr k y hiy
    have hfy : (fun i => BR8 (ks.getD i Z48)) k = (BR8 y) := by show BR8 (ks.getD k Z48) = _; rw [List.getD_eq_getElem?_getD, hiy]; rfl
    have hfk : (BR8 y).length = 32 := BR8_len y
    refine lx_binB true rfl rfl (fun _ => rfl) (fun _ => bin_lss_i _ _ _) (by simp; omega) rfl rfl ?_
    refine lx_nil ?_
    refine x_seq ?_
    refine x_true rfl ?_
    refine x_skip ?_
    refine x_seq ?_
    refine x_block ?_
    refine xs_plain (E := EE []) ?_
    refine lx_move rfl rfl rfl ?_
    refine lx_isAW (ad := ad) k 48 (by rw [← hka]; rfl) rfl Tryd.underlying27 Tryd.sizeOf29 rfl hlt rfl rfl ?_
    refine lx_loadA (cs := y.map U8) rfl Tryd.isAgg29 Tryd.sizeOf29 (by rw [List.length_map]; exact hy) (fun w' h j v hv => ((hp_below h).cell (block_lt_of_cell (hyc j v hv))).trans (hyc j v hv)) rfl rfl ?_
    refine lx_allocr 5 hGF zvK rfl rfl ?_
    intro b5
    refine lx_assign rfl rfl rfl ?_
    refine lx_storea 5 hGF rfl rfl rfl Tryd.sizeOf29 (by rw [List.length_map]; exact hy) (by rw [List.length_map]; rfl) (one_u8 _) rfl ?_
    refine lx_nil ?_
    refine x_plain (E := EE []) ?_
    refine lx_move rfl rfl rfl ?_
    refine lx_move rfl rfl rfl ?_
    refine lx_loada 5 rfl rfl Tryd.isAgg29 Tryd.sizeOf29 (by rw [List.length_map]; exact hy) rfl rfl ?_
    refine lx_callC rfl rfl ent22 (fun w' hw' hG => rky_p y hy w' hG) rfl rfl ?_
    refine lx_isW (s := 32) k rfl rfl Tryd.underlying60 Tryd.sizeOf23 rfl hlt rfl rfl ?_
    refine lx_storer (vs := ((BR8 y)).map U8) (o := 0 + 32 * k) 8 hGF rfl rfl rfl Tryd.sizeOf23 (by rw [List.length_map]; exact hfk) (one_u8 _) (by rw [List.length_map, hfk, hc2]; omega) rfl ?_
    refine lx_nil ?_
    refine x_plain (E := EE []) ?_
    refine lx_bin (v := I (((k + 1 : Nat) : Int))) rfl rfl (fun _ => rfl) (fun _ => (bin_add_i _ _ _ (by unfold inI; omega)).trans (by rfl)) rfl rfl ?_
    refine lx_move rfl rfl rfl ?_
    refine lx_nil ?_
    repeat (refine kblk_n ?_)
    refine kseq_n ?_
    exact ⟨rfl, ⟨k + 1, lay (0 + 32 * k) (((BR8 y)).map U8) c2, hlt, by rw [lay_length]; exact hc2, by rw [← hfy] at hfk ⊢; exact rws_step hlt hc2 ht2 hfk⟩, _, by show ks.length - (k + 1) < ks.length - k; omega, rfl, ⟨rfl, rfl, rfl, rfl, rfl, rfl, trivial⟩, ⟨rfl, rfl, trivial⟩⟩
  · skip
    obtain rfl : k = ks.length := by omega
    rw [krs_flat] at ht2
    have hAl := krs_all ks ks.length
    have hLn : (krs ks ks.length).length = ks.length := krs_len _ _
    have ht2 : c2.take (32 * (krs ks ks.length).length) = (krs ks ks.length).flatten.map U8 := by rw [krs_len]; exact ht2
    refine lx_binB false rfl rfl (fun _ => rfl) (fun _ => bin_lss_i _ _ _) (by rw [decide_eq_false_iff_not]; omega) rfl rfl ?_
    refine lx_nil ?_
    refine x_seq ?_
    refine x_false rfl ?_
    refine x_exit ?_
    refine xs_plain (E := EE []) ?_
    refine lx_move rfl rfl rfl ?_
    refine lx_callC rfl rfl ent32 (fun w' hw' hG => by have := root_calls (krs ks ks.length) (krs_all _ _) (by rw [krs_len]; omega) _ ks.length w' hG (own_rts (n := 8) hAl rfl ht2 w' hw'); rw [hLn] at this; exact this) rfl rfl ?_
    refine lx_storea 2 hGF rfl rfl rfl Tryd.sizeOf24 (by rw [List.length_map]; exact tor_len (krs_all _ _)) (by rw [List.length_map]; exact Z0_len) (one_u8 _) rfl ?_
    refine lx_nil ?_
    refine x_ret ?_
    repeat (first | refine kseq_ret ?_ | refine kblk_ret ?_)
    exact kret_own 2 rfl rfl rfl Tryd.isAgg24 Tryd.sizeOf24 (by rw [List.length_map]; exact tor_len (krs_all _ _)) (fun w' hw' => ⟨rfl, hp_below hw'⟩)
end Go.Proofs.YtldnceanfncdfaaDoor
