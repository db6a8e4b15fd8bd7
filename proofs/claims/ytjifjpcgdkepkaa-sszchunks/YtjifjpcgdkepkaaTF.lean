/-
  Chunks.
-/
import Derived.Test.YtjifjpcgdkepkaaTD
namespace Go.Proofs.Ytjifjpcgdkepkaa
open Go.RowKit
set_option maxRecDepth 100000
set_option maxHeartbeats 1000000

theorem ent44 : Enters Try.prog 44 := fun _ _ => by kernel_rfl
theorem ent33 : Enters Try.prog 33 := fun _ _ => by kernel_rfl
theorem ent31 : Enters Try.prog 31 := fun _ _ => by kernel_rfl
theorem ent32 : Enters Try.prog 32 := fun _ _ => by kernel_rfl
theorem ent34 : Enters Try.prog 34 := fun _ _ => by kernel_rfl
theorem ent30 : Enters Try.prog 30 := fun _ _ => by kernel_rfl
theorem zv59 (w : World) : (zeroValue 59).run Try.prog w = .ok (.agg ((List.replicate 32 0#8).map U8).toArray) w := (Try.zeroValue59 w).trans (by rfl)
theorem tiR : TI Try.prog 59 (.agg ((List.replicate 32 0#8).map U8).toArray) 32 32 := ti_mk (by kernel_rfl)
def pad32 (bs : List (BitVec 8)) : List (BitVec 8) := bs ++ List.replicate (32 - bs.length) 0#8
theorem pad_len {bs : List (BitVec 8)} (h : bs.length ≤ 32) : (pad32 bs).length = 32 := by simp [pad32]; omega
theorem chk_calls (bs : List (BitVec 8)) (len : Nat) (hlen : bs.length = len) (hl : len ≤ 32) (a : Option Addr) (cap : Nat) (w : World) (hw : Gt w) (hb : BytesAt w a bs) : Calls Try.prog 44 [.slice a len cap].toArray w (fun e w' => e = .returned (.agg ((pad32 bs).map U8).toArray) ∧ Grow w w') := by
  have hGF : BOk Gt (pl w) := gt_low.plain hw
  refine calls_of_X (G := Gt) Try.func44 rfl rfl (Hp (pl w) []) (hp_refl (pl w) trivial rides_true) (good_hp hGF) ?_
  refine xs_plain (E := EE []) ?_
  refine lx_allocr 2 hGF zv59 rfl rfl ?_
  intro b2
  refine lx_nil ?_
  refine xs_plain (E := EE []) ?_
  refine lx_allocr 3 hGF zv59 rfl rfl ?_
  intro b3
  refine lx_nil ?_
  refine xs_plain (E := EE []) ?_
  refine lx_slarr1 (l := 0) (h' := 32) rfl Try.underlying59 Try.sizeOf5 rfl rfl (by omega) (by omega) rfl rfl ?_
  refine lx_move rfl rfl rfl ?_
  refine lx_copys (cs := bs) 3 hGF rfl rfl rfl Try.underlying28 (by kernel_rfl) (by rw [hlen]; exact (Nat.min_eq_left hl).symm) (fun w' h => hb.grow (hp_below h)) (by simp; omega) rfl rfl ?_
  rw [lay_pad bs 32 (by omega)]
  refine lx_nil ?_
  refine xs_plain (E := EE []) ?_
  refine lx_loada 3 rfl rfl Try.isAgg59 Try.sizeOf59 (by rw [List.length_map, show (bs ++ List.replicate (32 - bs.length) 0#8).length = 32 from pad_len (by omega)]) rfl rfl ?_
  refine lx_storea 2 hGF rfl rfl rfl Try.sizeOf59 (by rw [List.length_map, show (bs ++ List.replicate (32 - bs.length) 0#8).length = 32 from pad_len (by omega)]) (by simp) (one_u8 _) rfl ?_
  refine lx_nil ?_
  refine x_ret ?_
  repeat (first | refine kseq_ret ?_ | refine kblk_ret ?_)
  exact kret_own 2 rfl rfl rfl Try.isAgg59 Try.sizeOf59 (by rw [List.length_map]; exact pad_len (by omega)) (fun w' hw' => ⟨rfl, hp_below hw'⟩)
theorem chn_calls (n : BitVec 64) (w : World) (hw : Gt w) : Calls Try.prog 33 [U64 n].toArray w (fun e w' => e = .returned (.agg ((pad32 (le8 n 8)).map U8).toArray) ∧ Grow w w') := by
  have hGF : BOk Gt (pl w) := gt_low.plain hw
  refine calls_of_X (G := Gt) Try.func33 rfl rfl (Hp (pl w) []) (hp_refl (pl w) trivial rides_true) (good_hp hGF) ?_
  refine xs_plain (E := EE [36]) ?_
  refine lx_allocr 2 hGF zv59 rfl rfl ?_
  intro b2
  refine lx_nil ?_
  refine xs_plain (E := EE [36]) ?_
  refine lx_move rfl rfl rfl ?_
  refine lx_callE rfl rfl ent36 rfl rfl (fun w1 hC => (bon_calls n w1 (hGF.g _ _ _ hC)).mono fun e1 w2 h => ?_)
  obtain ⟨_, rfl, hg, a2, c2, rfl, hsl, hnew⟩ := h
  obtain ⟨q, rfl, hqs, hqr⟩ := hsl.at (show (le8 n 8).map U8 ≠ [] from fun h => by have := congrArg List.length h; simp [le8_len] at this)
  have hq0 : w1.heap.size ≤ q := hnew _ rfl
  refine ⟨_, _, rfl, good_hp (ok_pj hGF), hq_pj hC hGF.r hg hq0 hqs hqr, ?_⟩
  have hGF := ok_pj (b := q) (cs := (le8 n 8).map U8) hGF
  clear hC
  refine lx_callC rfl rfl ent44 (fun w3 hC hG => chk_calls (le8 n 8) 8 (le8_len _ _) (by omega) (some ⟨q, 0, none⟩) c2 w3 hG (BytesAt.range (pj_at hC))) rfl rfl ?_
  refine lx_storea 2 hGF rfl rfl rfl Try.sizeOf59 (by rw [List.length_map, pad_len (by rw [le8_len]; omega)]) (by simp) (one_u8 _) rfl ?_
  refine lx_nil ?_
  refine x_ret ?_
  repeat (first | refine kseq_ret ?_ | refine kblk_ret ?_)
  exact kret_own 2 rfl rfl rfl Try.isAgg59 Try.sizeOf59 (by rw [List.length_map]; exact pad_len (by rw [le8_len]; omega)) (fun w' hw' => ⟨rfl, hp_below (hq_of_pj hw')⟩)
theorem rch_calls (n : BitVec 64) (w : World) (hw : Gt w) : Calls Try.prog 34 [U64 n].toArray w (fun e w' => e = .returned (.agg ((pad32 (le8 n 8)).map U8).toArray) ∧ Grow w w') := by
  have hGF : BOk Gt (pl w) := gt_low.plain hw
  refine calls_of_X (G := Gt) Try.func34 rfl rfl (Hp (pl w) []) (hp_refl (pl w) trivial rides_true) (good_hp hGF) ?_
  refine xs_plain (E := EE [11]) ?_
  refine lx_allocr 2 hGF zv59 rfl rfl ?_
  intro b2
  refine lx_nil ?_
  refine xs_plain (E := EE [11]) ?_
  refine lx_allocr 3 hGF zv59 rfl rfl ?_
  intro b3
  refine lx_nil ?_
  refine xs_drawn (E := EE [11]) mixed (by kernel_rfl) (by kernel_rfl) (by kernel_rfl) ?_
  refine lx_slarr1 (l := 0) (h' := 32) rfl Try.underlying59 Try.sizeOf5 rfl rfl (by omega) (by omega) rfl rfl ?_
  refine lx_move rfl rfl rfl ?_
  refine lx_callE rfl rfl ent11 rfl rfl (fun w1 hC => (rui_calls n [] none 0 (by simp) w1 (hGF.g _ _ _ hC) (.inl ⟨rfl, rfl, rfl⟩) (fun k ⟨ad, e, _⟩ => by cases e)).mono fun e1 w2 h => ?_)
  obtain ⟨a2, c2, rfl, hA⟩ := h
  have hg : Grow w1 w2 := hA.m.grow (fun k _ ⟨ad, e, _⟩ => by cases e)
  have hsl := hA.s
  have hnew : New w1 a2 := fun ad e => (hA.o ad.block ⟨ad, e, rfl⟩).resolve_left (fun ⟨ad, e, _⟩ => by cases e)
  rw [List.nil_append] at hsl ⊢
  rw [le8_len]
  obtain ⟨q, rfl, hqs, hqr⟩ := hsl.at (show (le8 n 8).map U8 ≠ [] from fun h => by have := congrArg List.length h; simp [le8_len] at this)
  have hq0 : w1.heap.size ≤ q := hnew _ rfl
  refine ⟨_, _, rfl, good_hp (ok_pj hGF), hq_pj hC hGF.r hg hq0 hqs hqr, ?_⟩
  have hGF := ok_pj (b := q) (cs := (le8 n 8).map U8) hGF
  clear hC
  refine lx_copys (cs := (le8 n 8)) 3 hGF rfl rfl rfl Try.underlying28 (by kernel_rfl) (by rw [le8_len]; rfl) (fun w' h => BytesAt.range (pj_at h)) (by simp [le8_len]) rfl rfl ?_
  rw [lay_pad (le8 n 8) 32 (by rw [le8_len]; omega)]
  refine lx_nil ?_
  refine xs_plain (E := EE [11]) ?_
  refine lx_loada 3 rfl rfl Try.isAgg59 Try.sizeOf59 (by rw [List.length_map, show ((le8 n 8) ++ List.replicate (32 - (le8 n 8).length) 0#8).length = 32 from pad_len (by rw [le8_len]; omega)]) rfl rfl ?_
  refine lx_storea 2 hGF rfl rfl rfl Try.sizeOf59 (by rw [List.length_map, show ((le8 n 8) ++ List.replicate (32 - (le8 n 8).length) 0#8).length = 32 from pad_len (by rw [le8_len]; omega)]) (by simp) (one_u8 _) rfl ?_
  refine lx_nil ?_
  refine x_ret ?_
  repeat (first | refine kseq_ret ?_ | refine kblk_ret ?_)
  exact kret_own 2 rfl rfl rfl Try.isAgg59 Try.sizeOf59 (by rw [List.length_map]; exact pad_len (by rw [le8_len]; omega)) (fun w' hw' => ⟨rfl, hp_below (hq_of_pj hw')⟩)
/-- The i-th chunk; so many chunks. -/
def ck (bs : List (BitVec 8)) (i : Nat) : List (BitVec 8) := pad32 ((bs.drop (32 * i)).take 32)
theorem ck_len (bs : List (BitVec 8)) (i : Nat) : (ck bs i).length = 32 := pad_len (by rw [List.length_take]; omega)
def cks (bs : List (BitVec 8)) : Nat := (bs.length + 31) / 32
/-- A slice of roots of one's own. -/
def SlR (w : World) (a : Option Addr) (cap n : Nat) (f : Nat → List (BitVec 8)) : Prop := SlW 59 32 w a cap n ((RW 32 f n).map U8)
structure ApR (w0 w : World) (a : Option Addr) (cap n : Nat) (f : Nat → List (BitVec 8)) : Prop where
  g : Gt w
  m : Grow w0 w
  s : SlR w a cap n f
  o : New w0 a
theorem ApR.low {w0 w : World} {a : Option Addr} {cap n : Nat} {f : Nat → List (BitVec 8)} (h : ApR w0 w a cap n f) (hw : Gt w0) : ∀ k, Of a k → 0 ≤ k := fun k ⟨ad, e, hk⟩ => by
  subst hk; exact Nat.le_trans (gt_low.size w0 hw) (h.o ad e)
theorem ApR.next {w0 w w1 w2 : World} {a a1 : Option Addr} {cap cap1 n : Nat} {f : Nat → List (BitVec 8)} (h : ApR w0 w a cap n f) (hf : (f n).length = 32) (hg : Grow w w1) (g2 : Gt w2) (hm : MM (Of a) w1 w2) (hs : SlW 59 32 w2 a1 cap1 (n + 1) ((RW 32 f n).map U8 ++ (f n).map U8)) (ho : ∀ k, Of a1 k → Of a k ∨ w1.heap.size ≤ k) : ApR w0 w2 a1 cap1 (n + 1) f where
  g := g2
  m := hm.grow0 (h.m.trans hg) fun k ⟨ad, e, hk⟩ => by subst hk; exact h.o ad e
  s := by unfold SlR; rw [RW_succ f n hf, List.map_append]; exact hs
  o := fun ad e => by
    rcases ho ad.block ⟨ad, e, rfl⟩ with ⟨ad2, e2, e3⟩ | h1
    · rw [e3]; exact h.o ad2 e2
    · exact Nat.le_trans h.m.size (Nat.le_trans hg.size h1)
def FrR (w w' : World) (v : Value) (n : Nat) (f : Nat → List (BitVec 8)) : Prop := ∃ a cap, v = .slice a n cap ∧ SlR w' a cap n f ∧ New w a
theorem pk_drop (bs : List (BitVec 8)) (k : Nat) : bs.drop (32 * (k + 1)) = (bs.drop (32 * k)).drop (min 32 (bs.drop (32 * k)).length) := by
  rw [List.drop_drop, List.length_drop]
  rcases Nat.lt_or_ge bs.length (32 * k + 32) with h | h
  · rw [List.drop_of_length_le (by omega), List.drop_of_length_le (by omega)]
  · congr 1; omega
theorem pk_len (bs : List (BitVec 8)) (k : Nat) : (bs.drop (32 * (k + 1))).length = (bs.drop (32 * k)).length - min 32 (bs.drop (32 * k)).length := by
  rw [pk_drop, List.length_drop]
theorem pck_calls (bs : List (BitVec 8)) (a : Option Addr) (cap : Nat) (hl : bs.length ≤ 1000000) (hc0 : bs.length ≤ cap) (w : World) (hw : Gt w) (hb : BytesAt w a bs) : Calls Try.prog 31 [.slice a bs.length cap].toArray w (fun e w' => ∃ v, e = .returned v ∧ Grow w w' ∧ FrR w w' v (cks bs) (ck bs)) := by
  have hGF : BOk Gt (pl w) := gt_low.plain hw
  refine calls_of_X (G := Gt) Try.func31 rfl rfl (Hp (pl w) []) (hp_refl (pl w) trivial rides_true) (good_hp hGF) ?_
  refine xs_plain (E := EE []) ?_
  refine lx_assign rfl rfl rfl ?_
  refine lx_nil ?_
  refine xs_plain (E := EE []) ?_
  refine lx_assign rfl rfl rfl ?_
  refine lx_nil ?_
  refine x_seq ?_
  refine x_block ?_
  refine x_forW gt_low (ι := { x : (Nat × World × Option Addr × Nat) × Option Addr × Nat // x.1.1 ≤ cks bs ∧ ApR w x.1.2.1 x.1.2.2.1 x.1.2.2.2 x.1.1 (ck bs) ∧ BytesAt w x.2.1 (bs.drop (32 * x.1.1)) ∧ (bs.drop (32 * x.1.1)).length ≤ x.2.2 }) (fun x => [(0, .slice x.1.2.1 (bs.drop (32 * x.1.1.1)).length x.1.2.2), (3, .slice x.1.1.2.2.1 x.1.1.1 x.1.1.2.2.2)]) (fun x => x.1.1.2.1) (fun x => cks bs - x.1.1.1) ⟨((0, w, none, 0), a, cap), Nat.zero_le _, ⟨hw, Grow.refl w, .inl ⟨rfl, rfl, rfl, rfl⟩, fun _ h => by cases h⟩, hb, hc0⟩ (fun x => x.2.2.1.g) rfl ⟨rfl, rfl, trivial⟩ ?_
  rintro ⟨⟨⟨k, wk, ak, ck'⟩, ab, cb⟩, hk, hA, hbk, hcb⟩
  dsimp only at hk hA hbk hcb ⊢
  have hGF : BOk Gt (pl wk) := gt_low.plain hA.g
  have hrl : (bs.drop (32 * k)).length = bs.length - 32 * k := List.length_drop
  have hkc : k ≤ 1000000 := by unfold cks at hk; omega
  refine x_seq ?_
  refine xs_plain (E := EE []) ?_
  refine lx_move rfl rfl rfl ?_
  refine lx_len rfl (fun _ => len_slice Try.underlying28 _ _ _ _) rfl rfl ?_
  refine lx_bin rfl rfl (fun _ => rfl) (fun _ => bin_gtr_i _ _ _) rfl rfl ?_
  refine lx_nil ?_
  refine x_if rfl (fun hc => ?_) (fun hc => ?_)
  · have hlt : 0 < bs.length - 32 * k := by simp at hc; omega
    clear hc
    refine x_skip ?_
    refine x_block ?_
    refine xs_plain (E := EE []) ?_
    refine lx_move rfl rfl rfl ?_
    refine lx_len rfl (fun _ => len_slice Try.underlying28 _ _ _ _) rfl rfl ?_
    refine lx_min (z := (((min 32 (bs.drop (32 * k)).length) : Nat) : Int)) rfl rfl (by split <;> omega) rfl rfl ?_
    refine lx_assign rfl rfl rfl ?_
    refine lx_nil ?_
    refine xs_plain (E := EE []) ?_
    refine lx_move rfl rfl rfl ?_
    refine lx_move rfl rfl rfl ?_
    refine lx_move rfl rfl rfl ?_
    refine lx_move rfl rfl rfl ?_
    refine lx_slsl3 (l := 0) (h' := (min 32 (bs.drop (32 * k)).length)) (m := (min 32 (bs.drop (32 * k)).length)) rfl Try.underlying28 Try.sizeOf5 rfl rfl rfl ⟨Nat.zero_le _, Nat.le_refl _, by omega⟩ rfl rfl ?_
    rw [cut0, Nat.sub_zero]
    refine lx_callC rfl rfl ent44 (fun w3 hC hG => chk_calls ((bs.drop (32 * k)).take 32) (min 32 (bs.drop (32 * k)).length) (by rw [List.length_take]) (by omega) ab (min 32 (bs.drop (32 * k)).length) w3 hG ((hbk.grow (hA.m.trans (hp_below hC))).take 32)) rfl rfl ?_
    rw [show pad32 ((bs.drop (32 * k)).take 32) = ck bs k from rfl]
    refine lx_bslW1 17 ((ck bs k).map U8) hGF rfl (by rw [List.length_map, ck_len]) (by decide) (by decide) Try.underlying57 Try.sizeOf59 zv59 rfl rfl ?_
    intro b17
    refine lx_appW (ys := (ck bs k).map U8) gt_low (fun w' h => hGF.g _ _ _ h) rfl rfl Try.underlying57 Try.underlying57 tiR (by simp [Value.cells]) (fun w' h => hA.s.grow (hp_below h)) (hA.low hw) (by rw [List.length_map]; exact ck_len bs k) (hp_row (n := 17) rfl) (one_u8 _) (fun w' h hof => absurd (hA.s.lt _ hof) (Nat.not_lt.2 ((h.own 17 _ _ _ rfl).2.elim id False.elim))) (by omega) (by omega) rfl rfl (fun w1 w2 a1 cap1 hC g2 hm hs ho => ?_)
    have hA2 := hA.next (ck_len bs k) (hp_below hC) g2 hm hs ho
    have hGF : BOk Gt (pl w2) := gt_low.plain g2
    refine lx_assign rfl rfl rfl ?_
    refine lx_nil ?_
    refine x_plain (E := EE []) ?_
    refine lx_move rfl rfl rfl ?_
    refine lx_move rfl rfl rfl ?_
    refine lx_slsl (l := (min 32 (bs.drop (32 * k)).length)) (h' := (bs.drop (32 * k)).length) rfl Try.underlying28 Try.sizeOf5 rfl rfl ⟨by omega, hcb⟩ rfl rfl ?_
    refine lx_assign rfl rfl rfl ?_
    refine lx_nil ?_
    repeat (refine kblk_n ?_)
    refine kseq_n ?_
    exact ⟨rfl, ⟨((k + 1, w2, a1, cap1), cutA ab cb (min 32 (bs.drop (32 * k)).length), cb - (min 32 (bs.drop (32 * k)).length)), by show k + 1 ≤ cks bs; unfold cks; omega, hA2, by rw [pk_drop]; exact cutA_by hbk hcb _, by rw [pk_drop, List.length_drop]; show _ - _ ≤ cb - (min 32 (bs.drop (32 * k)).length); omega⟩, by show cks bs - (k + 1) < cks bs - k; unfold cks; omega, rfl, ⟨by show _ = some (Value.slice (cutA ab cb (min 32 (bs.drop (32 * k)).length)) (bs.drop (32 * (k + 1))).length (cb - (min 32 (bs.drop (32 * k)).length))); rw [pk_len]; rfl, rfl, trivial⟩⟩
  · have hke : k = cks bs := by simp at hc; unfold cks at hk ⊢; omega
    clear hc
    subst hke
    refine x_exit ?_
    refine xs_plain (E := EE []) ?_
    refine lx_move rfl rfl rfl ?_
    refine lx_assign rfl rfl rfl ?_
    refine lx_nil ?_
    refine x_ret ?_
    repeat (first | refine kseq_ret ?_ | refine kblk_ret ?_)
    exact kret_tmp rfl rfl (fun w' hw' => ⟨_, rfl, hA.m.trans (hp_below hw'), ak, ck', rfl, hA.s.grow (hp_below hw'), hA.o⟩)
theorem rpk_calls (bs : List (BitVec 8)) (a : Option Addr) (cap : Nat) (hl : bs.length ≤ 1000000) (hc0 : bs.length ≤ cap) (w : World) (hw : Gt w) (hb : BytesAt w a bs) : Calls Try.prog 32 [.slice a bs.length cap].toArray w (fun e w' => ∃ v, e = .returned v ∧ Grow w w' ∧ FrR w w' v (cks bs) (ck bs)) := by
  have hGF : BOk Gt (pl w) := gt_low.plain hw
  refine calls_of_X (G := Gt) Try.func32 rfl rfl (Hp (pl w) []) (hp_refl (pl w) trivial rides_true) (good_hp hGF) ?_
  refine xs_plain (E := EE []) ?_
  refine lx_assign rfl rfl rfl ?_
  refine lx_nil ?_
  refine xs_plain (E := EE []) ?_
  refine lx_assign rfl rfl rfl ?_
  refine lx_nil ?_
  refine x_seq ?_
  refine xs_plain (E := EE []) ?_
  refine lx_assign rfl rfl rfl ?_
  refine lx_nil ?_
  refine x_block ?_
  refine x_forW gt_low (ι := { x : Nat × World × Option Addr × Nat // x.1 ≤ cks bs ∧ ApR w x.2.1 x.2.2.1 x.2.2.2 x.1 (ck bs) }) (fun x => [(0, .slice a bs.length cap), (3, .slice x.1.2.2.1 x.1.1 x.1.2.2.2), (4, I ((32 * x.1.1 : Nat) : Int))]) (fun x => x.1.2.1) (fun x => cks bs - x.1.1) ⟨(0, w, none, 0), Nat.zero_le _, ⟨hw, Grow.refl w, .inl ⟨rfl, rfl, rfl, rfl⟩, fun _ h => by cases h⟩⟩ (fun x => x.2.2.g) rfl ⟨rfl, rfl, rfl, trivial⟩ ?_
  rintro ⟨⟨k, wk, ak, ck'⟩, hk, hA⟩
  dsimp only at hk hA ⊢
  have hGF : BOk Gt (pl wk) := gt_low.plain hA.g
  have hkc : k ≤ 1000000 := by unfold cks at hk; omega
  refine x_seq ?_
  refine xs_plain (E := EE []) ?_
  refine lx_move rfl rfl rfl ?_
  refine lx_move rfl rfl rfl ?_
  refine lx_len rfl (fun _ => len_slice Try.underlying28 _ _ _ _) rfl rfl ?_
  refine lx_bin rfl rfl (fun _ => rfl) (fun _ => bin_lss_i _ _ _) rfl rfl ?_
  refine lx_nil ?_
  refine x_if rfl (fun hc => ?_) (fun hc => ?_)
  · have hlt : 32 * k < bs.length := by simp at hc; omega
    clear hc
    refine x_skip ?_
    refine x_seq ?_
    refine x_block ?_
    refine xs_plain (E := EE []) ?_
    refine lx_allocr 5 hGF zv59 rfl rfl ?_
    intro b5
    refine lx_nil ?_
    refine xs_drawn (E := EE []) mixed (by kernel_rfl) (by kernel_rfl) (by kernel_rfl) ?_
    refine lx_slarr1 (l := 0) (h' := 32) rfl Try.underlying59 Try.sizeOf5 rfl rfl (by omega) (by omega) rfl rfl ?_
    refine lx_move rfl rfl rfl ?_
    refine lx_move rfl rfl rfl ?_
    refine lx_move rfl rfl rfl ?_
    refine lx_bin (v := I (((32 * k + 32 : Nat) : Int))) rfl rfl (fun _ => rfl) (fun _ => (bin_add_i _ _ _ (by unfold inI; omega)).trans (by rfl)) rfl rfl ?_
    refine lx_move rfl rfl rfl ?_
    refine lx_len rfl (fun _ => len_slice Try.underlying28 _ _ _ _) rfl rfl ?_
    refine lx_min (z := (((min (32 * k + 32) bs.length) : Nat) : Int)) rfl rfl (by split <;> omega) rfl rfl ?_
    refine lx_slsl (l := 32 * k) (h' := (min (32 * k + 32) bs.length)) rfl Try.underlying28 Try.sizeOf5 rfl rfl ⟨by omega, by omega⟩ rfl rfl ?_
    refine lx_copys (cs := (bs.drop (32 * k)).take 32) 5 hGF rfl rfl rfl Try.underlying28 (by kernel_rfl) (by rw [List.length_take, List.length_drop]; show min 32 (bs.length - 32 * k) = min ((min (32 * k + 32) bs.length) - 32 * k) (32 - 0); omega) (fun w' h => (cutA_by (hb.grow (hA.m.trans (hp_below h))) hc0 (32 * k)).take 32) (by simp; omega) rfl rfl ?_
    rw [lay_pad ((bs.drop (32 * k)).take 32) 32 (by rw [List.length_take]; omega)]
    rw [show (bs.drop (32 * k)).take 32 ++ List.replicate (32 - ((bs.drop (32 * k)).take 32).length) 0#8 = ck bs k from rfl]
    refine lx_nil ?_
    refine x_plain (E := EE []) ?_
    refine lx_move rfl rfl rfl ?_
    refine lx_loada 5 rfl rfl Try.isAgg59 Try.sizeOf59 (by rw [List.length_map, ck_len]) rfl rfl ?_
    refine lx_bslW1 24 ((ck bs k).map U8) hGF rfl (by rw [List.length_map, ck_len]) (by decide) (by decide) Try.underlying57 Try.sizeOf59 zv59 rfl rfl ?_
    intro b24
    refine lx_appW (ys := (ck bs k).map U8) gt_low (fun w' h => hGF.g _ _ _ h) rfl rfl Try.underlying57 Try.underlying57 tiR (by simp [Value.cells]) (fun w' h => hA.s.grow (hp_below h)) (hA.low hw) (by rw [List.length_map]; exact ck_len bs k) (hp_row (n := 24) rfl) (one_u8 _) (fun w' h hof => absurd (hA.s.lt _ hof) (Nat.not_lt.2 ((h.own 24 _ _ _ rfl).2.elim id False.elim))) (by omega) (by omega) rfl rfl (fun w1 w2 a1 cap1 hC g2 hm hs ho => ?_)
    have hA2 := hA.next (ck_len bs k) (hp_below hC) g2 hm hs ho
    have hGF : BOk Gt (pl w2) := gt_low.plain g2
    refine lx_assign rfl rfl rfl ?_
    refine lx_nil ?_
    refine x_plain (E := EE []) ?_
    refine lx_move rfl rfl rfl ?_
    refine lx_bin (v := I (((32 * k + 32 : Nat) : Int))) rfl rfl (fun _ => rfl) (fun _ => (bin_add_i _ _ _ (by unfold inI; omega)).trans (by rfl)) rfl rfl ?_
    refine lx_assign rfl rfl rfl ?_
    refine lx_nil ?_
    repeat (refine kblk_n ?_)
    refine kseq_n ?_
    exact ⟨rfl, ⟨(k + 1, w2, a1, cap1), by show k + 1 ≤ cks bs; unfold cks; omega, hA2⟩, by show cks bs - (k + 1) < cks bs - k; unfold cks; omega, rfl, ⟨rfl, rfl, rfl, trivial⟩⟩
  · have hke : k = cks bs := by simp at hc; unfold cks at hk ⊢; omega
    clear hc
    subst hke
    refine x_exit ?_
    refine xs_plain (E := EE []) ?_
    refine lx_move rfl rfl rfl ?_
    refine lx_assign rfl rfl rfl ?_
    refine lx_nil ?_
    refine x_ret ?_
    repeat (first | refine kseq_ret ?_ | refine kblk_ret ?_)
    exact kret_tmp rfl rfl (fun w' hw' => ⟨_, rfl, hA.m.trans (hp_below hw'), ak, ck', rfl, hA.s.grow (hp_below hw'), hA.o⟩)
theorem eqg59 (op : BinOp) (x y : Operand) (xs ys : Array Value) (w : World) : (eqGuard op 59 x y (.agg xs) (.agg ys)).run Try.prog w = .ok () w := run_eqGuard_agg w op 59 x y xs ys (by kernel_rfl)
theorem eqv59 (xs ys : List (BitVec 8)) (h : xs.length = 32) (h' : ys.length = 32) (w : World) : (binOp .eql 59 (.agg (xs.map U8).toArray) (.agg (ys.map U8).toArray)).run Try.prog w = .ok (.bool (decide (xs = ys))) w := bin_eq8 Try.underlying59 Try.underlying5 Try.sizeOf5 Try.isAgg5 xs ys h h' w
theorem rts_calls (m : Nat) (hm : m ≤ 1000000) (f : Nat → List (BitVec 8)) (hf : ∀ i, i < m → (f i).length = 32) (a1 : Option Addr) (c1 : Nat) (a2 : Option Addr) (c2 : Nat) (w : World) (hw : Gt w) (h1 : SlR w a1 c1 m f) (h2 : SlR w a2 c2 m f) : Calls Try.prog 30 [.slice a1 m c1, .slice a2 m c2].toArray w (fun e w' => e = .returned (.bool true) ∧ Grow w w') := by
  have hGF : BOk Gt (pl w) := gt_low.plain hw
  refine calls_of_X (G := Gt) Try.func30 rfl rfl (Hp (pl w) []) (hp_refl (pl w) trivial rides_true) (good_hp hGF) ?_
  refine xs_plain (E := EE []) ?_
  refine lx_assign rfl rfl rfl ?_
  refine lx_nil ?_
  refine x_seq ?_
  refine xs_plain (E := EE []) ?_
  refine lx_move rfl rfl rfl ?_
  refine lx_len rfl (fun _ => len_slice Try.underlying57 _ _ _ _) rfl rfl ?_
  refine lx_move rfl rfl rfl ?_
  refine lx_len rfl (fun _ => len_slice Try.underlying57 _ _ _ _) rfl rfl ?_
  refine lx_binB false rfl rfl (fun _ => rfl) (fun _ => bin_neq_i _ _ _) (by simp) rfl rfl ?_
  refine lx_nil ?_
  refine x_false rfl ?_
  refine x_skip ?_
  refine x_seq ?_
  refine xs_plain (E := EE []) ?_
  refine lx_assign rfl rfl rfl ?_
  refine lx_nil ?_
  refine x_block ?_
  refine x_for (ι := { i : Nat // i ≤ m }) (fun x => [(0, .slice a1 m c1), (1, .slice a2 m c2), (5, I (x.1 : Int))]) (fun x => []) (fun x => m - x.1) ⟨0, by omega⟩ hGF ⟨rfl, rfl, rfl, trivial⟩ trivial ?_
  rintro ⟨k, hk⟩
  dsimp only
  refine x_seq ?_
  refine xs_plain (E := EE []) ?_
  refine lx_move rfl rfl rfl ?_
  refine lx_move rfl rfl rfl ?_
  refine lx_len rfl (fun _ => len_slice Try.underlying57 _ _ _ _) rfl rfl ?_
  refine lx_bin rfl rfl (fun _ => rfl) (fun _ => bin_lss_i _ _ _) rfl rfl ?_
  refine lx_nil ?_
  refine x_if rfl (fun hc => ?_) (fun hc => ?_)
  · have hlt : k < m := by simp at hc; omega
    clear hc
    have hne : (RW 32 f m).map U8 ≠ [] := fun h => by have := congrArg List.length h; simp [RW_len] at this; omega
    obtain ⟨b1, rfl, hr1⟩ := h1.at hne
    obtain ⟨b2, rfl, hr2⟩ := h2.at hne
    refine x_skip ?_
    refine x_seq ?_
    refine x_block ?_
    refine xs_drawn (E := EE []) mixed (by kernel_rfl) (by kernel_rfl) (by kernel_rfl) ?_
    refine lx_move rfl rfl rfl ?_
    refine lx_move rfl rfl rfl ?_
    refine lx_isW (s := 32) k rfl rfl Try.underlying57 Try.sizeOf59 rfl hlt rfl rfl ?_
    refine lx_loadr rfl Try.isAgg59 Try.sizeOf59 (by rw [List.length_map]; exact hf k hlt) (fun w' h => range_row (range_up hr1 (hp_below h)) hlt (hf k hlt)) rfl rfl ?_
    refine lx_move rfl rfl rfl ?_
    refine lx_move rfl rfl rfl ?_
    refine lx_isW (s := 32) k rfl rfl Try.underlying57 Try.sizeOf59 rfl hlt rfl rfl ?_
    refine lx_loadr rfl Try.isAgg59 Try.sizeOf59 (by rw [List.length_map]; exact hf k hlt) (fun w' h => range_row (range_up hr2 (hp_below h)) hlt (hf k hlt)) rfl rfl ?_
    refine lx_bin rfl rfl (fun w' => eqg59 _ _ _ _ _ w') (fun w' => bin_ne_row Try.underlying59 Try.underlying5 Try.sizeOf5 Try.isAgg5 _ (hf k hlt) w') rfl rfl ?_
    refine lx_nil ?_
    refine x_false rfl ?_
    refine x_skip ?_
    refine x_plain (E := EE []) ?_
    refine lx_move rfl rfl rfl ?_
    refine lx_bin (v := I (((k + 1 : Nat) : Int))) rfl rfl (fun _ => rfl) (fun _ => (bin_add_i _ _ _ (by unfold inI; omega)).trans (by rfl)) rfl rfl ?_
    refine lx_assign rfl rfl rfl ?_
    refine lx_nil ?_
    repeat (refine kblk_n ?_)
    refine kseq_n ?_
    exact ⟨rfl, ⟨k + 1, by omega⟩, _, by show m - (k + 1) < m - k; omega, rfl, ⟨rfl, rfl, rfl, trivial⟩, trivial⟩
  · clear hc
    refine x_exit ?_
    refine xs_plain (E := EE []) ?_
    refine lx_assign rfl rfl rfl ?_
    refine lx_nil ?_
    refine x_ret ?_
    repeat (first | refine kseq_ret ?_ | refine kblk_ret ?_)
    exact kret_tmp rfl rfl (fun w' hw' => ⟨rfl, hp_below hw'⟩)
end Go.Proofs.Ytjifjpcgdkepkaa
