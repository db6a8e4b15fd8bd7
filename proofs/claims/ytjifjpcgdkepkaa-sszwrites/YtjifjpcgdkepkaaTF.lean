/-
  Chunks.
-/
import Derived.Test.YtjifjpcgdkepkaaTD
namespace Go.Proofs.Ytjifjpcgdkepkaa
open Go.RowKit
set_option maxRecDepth 100000
set_option maxHeartbeats 1000000

theorem ent44 : Enters Try.prog 44 := fun _ _ => by kernel_rfl
theorem ent33 : Enters Try.prog 33 := fun _ _ => by kernel_rfl
theorem ent31 : Enters Try.prog 31 := fun _ _ => by kernel_rfl
theorem zv59 (w : World) : (zeroValue 59).run Try.prog w = .ok (.agg ((List.replicate 32 0#8).map U8).toArray) w := (Try.zeroValue59 w).trans (by rfl)
theorem tiR : TI Try.prog 59 (.agg ((List.replicate 32 0#8).map U8).toArray) 32 32 := ti_mk (by kernel_rfl)
def pad32 (bs : List (BitVec 8)) : List (BitVec 8) := bs ++ List.replicate (32 - bs.length) 0#8
theorem pad_len {bs : List (BitVec 8)} (h : bs.length ≤ 32) : (pad32 bs).length = 32 := by simp [pad32]; omega
theorem chk_calls (bs : List (BitVec 8)) (len : Nat) (hlen : bs.length = len) (hl : len ≤ 32) (a : Option Addr) (cap : Nat) (w : World) (hw : Gt w) (hb : BytesAt w a bs) : Calls Try.prog 44 [.slice a len cap].toArray w (fun e w' => e = .returned (.agg ((pad32 bs).map U8).toArray) ∧ Grow w w') := by
  have hGF : BOk Gt (pl w) := gt_low.plain hw
  refine calls_of_X (G := Gt) Try.func44 rfl rfl (Hp (pl w) []) (hp_refl (pl w) trivial rides_true) (good_hp hGF) ?_
  refine xs_plain (E := EE []) ?_
  refine lx_allocr 2 hGF zv59 rfl rfl ?_
  intro b2
  refine lx_nil ?_
  refine xs_plain (E := EE []) ?_
  refine lx_allocr 3 hGF zv59 rfl rfl ?_
  intro b3
  refine lx_nil ?_
  refine xs_plain (E := EE []) ?_
  refine lx_slarr1 (l := 0) (h' := 32) rfl Try.underlying59 Try.sizeOf5 rfl rfl (by omega) (by omega) rfl rfl ?_
  refine lx_move rfl rfl rfl ?_
  refine lx_copys (cs := bs) 3 hGF rfl rfl rfl Try.underlying28 (by kernel_rfl) (by rw [hlen]; exact (Nat.min_eq_left hl).symm) (fun w' h => hb.grow (hp_below h)) (by simp; omega) rfl rfl ?_
  rw [lay_pad bs 32 (by omega)]
  refine lx_nil ?_
  refine xs_plain (E := EE []) ?_
  refine lx_loada 3 rfl rfl Try.isAgg59 Try.sizeOf59 (by rw [List.length_map, show (bs ++ List.replicate (32 - bs.length) 0#8).length = 32 from pad_len (by omega)]) rfl rfl ?_
  refine lx_storea 2 hGF rfl rfl rfl Try.sizeOf59 (by rw [List.length_map, show (bs ++ List.replicate (32 - bs.length) 0#8).length = 32 from pad_len (by omega)]) (by simp) (one_u8 _) rfl ?_
  refine lx_nil ?_
  refine x_ret ?_
  repeat (first | refine kseq_ret ?_ | refine kblk_ret ?_)
  exact kret_own 2 rfl rfl rfl Try.isAgg59 Try.sizeOf59 (by rw [List.length_map]; exact pad_len (by omega)) (fun w' hw' => ⟨rfl, hp_below hw'⟩)
theorem chn_calls (n : BitVec 64) (w : World) (hw : Gt w) : Calls Try.prog 33 [U64 n].toArray w (fun e w' => e = .returned (.agg ((pad32 (le8 n 8)).map U8).toArray) ∧ Grow w w') := by
  have hGF : BOk Gt (pl w) := gt_low.plain hw
  refine calls_of_X (G := Gt) Try.func33 rfl rfl (Hp (pl w) []) (hp_refl (pl w) trivial rides_true) (good_hp hGF) ?_
  refine xs_plain (E := EE [36]) ?_
  refine lx_allocr 2 hGF zv59 rfl rfl ?_
  intro b2
  refine lx_nil ?_
  refine xs_plain (E := EE [36]) ?_
  refine lx_move rfl rfl rfl ?_
  refine lx_callE rfl rfl ent36 rfl rfl (fun w1 hC => (bon_calls n w1 (hGF.g _ _ _ hC)).mono fun e1 w2 h => ?_)
  obtain ⟨_, rfl, hg, a2, c2, rfl, hsl, hnew⟩ := h
  obtain ⟨q, rfl, hqs, hqr⟩ := hsl.at (show (le8 n 8).map U8 ≠ [] from fun h => by have := congrArg List.length h; simp [le8_len] at this)
  have hq0 : w1.heap.size ≤ q := hnew _ rfl
  refine ⟨_, _, rfl, good_hp (ok_pj hGF), hq_pj hC hGF.r hg hq0 hqs hqr, ?_⟩
  have hGF := ok_pj (b := q) (cs := (le8 n 8).map U8) hGF
  clear hC
  refine lx_callC rfl rfl ent44 (fun w3 hC hG => chk_calls (le8 n 8) 8 (le8_len _ _) (by omega) (some ⟨q, 0, none⟩) c2 w3 hG (BytesAt.range (pj_at hC))) rfl rfl ?_
  refine lx_storea 2 hGF rfl rfl rfl Try.sizeOf59 (by rw [List.length_map, pad_len (by rw [le8_len]; omega)]) (by simp) (one_u8 _) rfl ?_
  refine lx_nil ?_
  refine x_ret ?_
  repeat (first | refine kseq_ret ?_ | refine kblk_ret ?_)
  exact kret_own 2 rfl rfl rfl Try.isAgg59 Try.sizeOf59 (by rw [List.length_map]; exact pad_len (by rw [le8_len]; omega)) (fun w' hw' => ⟨rfl, hp_below (hq_of_pj hw')⟩)
/-- The i-th chunk; so many chunks. -/
def ck (bs : List (BitVec 8)) (i : Nat) : List (BitVec 8) := pad32 ((bs.drop (32 * i)).take 32)
theorem ck_len (bs : List (BitVec 8)) (i : Nat) : (ck bs i).length = 32 := pad_len (by rw [List.length_take]; omega)
def cks (bs : List (BitVec 8)) : Nat := (bs.length + 31) / 32
/-- A slice of roots of one's own. -/
def SlR (w : World) (a : Option Addr) (cap n : Nat) (f : Nat → List (BitVec 8)) : Prop := SlW 59 32 w a cap n ((RW 32 f n).map U8)
structure ApR (w0 w : World) (a : Option Addr) (cap n : Nat) (f : Nat → List (BitVec 8)) : Prop where
  g : Gt w
  m : Grow w0 w
  s : SlR w a cap n f
  o : New w0 a
theorem ApR.low {w0 w : World} {a : Option Addr} {cap n : Nat} {f : Nat → List (BitVec 8)} (h : ApR w0 w a cap n f) (hw : Gt w0) : ∀ k, Of a k → 0 ≤ k := fun k ⟨ad, e, hk⟩ => by
  subst hk; exact Nat.le_trans (gt_low.size w0 hw) (h.o ad e)
theorem ApR.next {w0 w w1 w2 : World} {a a1 : Option Addr} {cap cap1 n : Nat} {f : Nat → List (BitVec 8)} (h : ApR w0 w a cap n f) (hf : (f n).length = 32) (hg : Grow w w1) (g2 : Gt w2) (hm : MM (Of a) w1 w2) (hs : SlW 59 32 w2 a1 cap1 (n + 1) ((RW 32 f n).map U8 ++ (f n).map U8)) (ho : ∀ k, Of a1 k → Of a k ∨ w1.heap.size ≤ k) : ApR w0 w2 a1 cap1 (n + 1) f where
  g := g2
  m := hm.grow0 (h.m.trans hg) fun k ⟨ad, e, hk⟩ => by subst hk; exact h.o ad e
  s := by unfold SlR; rw [RW_succ f n hf, List.map_append]; exact hs
  o := fun ad e => by
    rcases ho ad.block ⟨ad, e, rfl⟩ with ⟨ad2, e2, e3⟩ | h1
    · rw [e3]; exact h.o ad2 e2
    · exact Nat.le_trans h.m.size (Nat.le_trans hg.size h1)
def FrR (w w' : World) (v : Value) (n : Nat) (f : Nat → List (BitVec 8)) : Prop := ∃ a cap, v = .slice a n cap ∧ SlR w' a cap n f ∧ New w a
theorem pk_drop (bs : List (BitVec 8)) (k : Nat) : bs.drop (32 * (k + 1)) = (bs.drop (32 * k)).drop (min 32 (bs.drop (32 * k)).length) := by
  rw [List.drop_drop, List.length_drop]
  rcases Nat.lt_or_ge bs.length (32 * k + 32) with h | h
  · rw [List.drop_of_length_le (by omega), List.drop_of_length_le (by omega)]
  · congr 1; omega
theorem pk_len (bs : List (BitVec 8)) (k : Nat) : (bs.drop (32 * (k + 1))).length = (bs.drop (32 * k)).length - min 32 (bs.drop (32 * k)).length := by
  rw [pk_drop, List.length_drop]
theorem pck_calls (bs : List (BitVec 8)) (a : Option Addr) (cap : Nat) (hl : bs.length ≤ 1000000) (hc0 : bs.length ≤ cap) (w : World) (hw : Gt w) (hb : BytesAt w a bs) : Calls Try.prog 31 [.slice a bs.length cap].toArray w (fun e w' => ∃ v, e = .returned v ∧ Grow w w' ∧ FrR w w' v (cks bs) (ck bs)) := by
  have hGF : BOk Gt (pl w) := gt_low.plain hw
  refine calls_of_X (G := Gt) Try.func31 rfl rfl (Hp (pl w) []) (hp_refl (pl w) trivial rides_true) (good_hp hGF) ?_
  refine xs_plain (E := EE []) ?_
  refine lx_assign rfl rfl rfl ?_
  refine lx_nil ?_
  refine xs_plain (E := EE []) ?_
  refine lx_assign rfl rfl rfl ?_
  refine lx_nil ?_
  refine x_seq ?_
  refine x_block ?_
  refine x_forW gt_low (ι := { x : (Nat × World × Option Addr × Nat) × Option Addr × Nat // x.1.1 ≤ cks bs ∧ ApR w x.1.2.1 x.1.2.2.1 x.1.2.2.2 x.1.1 (ck bs) ∧ BytesAt w x.2.1 (bs.drop (32 * x.1.1)) ∧ (bs.drop (32 * x.1.1)).length ≤ x.2.2 }) (fun x => [(0, .slice x.1.2.1 (bs.drop (32 * x.1.1.1)).length x.1.2.2), (3, .slice x.1.1.2.2.1 x.1.1.1 x.1.1.2.2.2)]) (fun x => x.1.1.2.1) (fun x => cks bs - x.1.1.1) ⟨((0, w, none, 0), a, cap), Nat.zero_le _, ⟨hw, Grow.refl w, .inl ⟨rfl, rfl, rfl, rfl⟩, fun _ h => by cases h⟩, hb, hc0⟩ (fun x => x.2.2.1.g) rfl ⟨rfl, rfl, trivial⟩ ?_
  rintro ⟨⟨⟨k, wk, ak, ck'⟩, ab, cb⟩, hk, hA, hbk, hcb⟩
  dsimp only at hk hA hbk hcb ⊢
  have hGF : BOk Gt (pl wk) := gt_low.plain hA.g
  have hrl : (bs.drop (32 * k)).length = bs.length - 32 * k := List.length_drop
  have hkc : k ≤ 1000000 := by unfold cks at hk; omega
  refine x_seq ?_
  refine xs_plain (E := EE []) ?_
  refine lx_move rfl rfl rfl ?_
  refine lx_len rfl (fun _ => len_slice Try.underlying28 _ _ _ _) rfl rfl ?_
  refine lx_bin rfl rfl (fun _ => rfl) (fun _ => bin_gtr_i _ _ _) rfl rfl ?_
  refine lx_nil ?_
  refine x_if rfl (fun hc => ?_) (fun hc => ?_)
  · have hlt : 0 < bs.length - 32 * k := by simp at hc; omega
    clear hc
    refine x_skip ?_
    refine x_block ?_
    refine xs_plain (E := EE []) ?_
    refine lx_move rfl rfl rfl ?_
    refine lx_len rfl (fun _ => len_slice Try.underlying28 _ _ _ _) rfl rfl ?_
    refine lx_min (z := (((min 32 (bs.drop (32 * k)).length) : Nat) : Int)) rfl rfl (by split <;> omega) rfl rfl ?_
    refine lx_assign rfl rfl rfl ?_
    refine lx_nil ?_
    refine xs_plain (E := EE []) ?_
    refine lx_move rfl rfl rfl ?_
    refine lx_move rfl rfl rfl ?_
    refine lx_move rfl rfl rfl ?_
    refine lx_move rfl rfl rfl ?_
    refine lx_slsl3 (l := 0) (h' := (min 32 (bs.drop (32 * k)).length)) (m := (min 32 (bs.drop (32 * k)).length)) rfl Try.underlying28 Try.sizeOf5 rfl rfl rfl ⟨Nat.zero_le _, Nat.le_refl _, by omega⟩ rfl rfl ?_
    rw [cut0, Nat.sub_zero]
    refine lx_callC rfl rfl ent44 (fun w3 hC hG => chk_calls ((bs.drop (32 * k)).take 32) (min 32 (bs.drop (32 * k)).length) (by rw [List.length_take]) (by omega) ab (min 32 (bs.drop (32 * k)).length) w3 hG ((hbk.grow (hA.m.trans (hp_below hC))).take 32)) rfl rfl ?_
    rw [show pad32 ((bs.drop (32 * k)).take 32) = ck bs k from rfl]
    refine lx_bslW1 17 ((ck bs k).map U8) hGF rfl (by rw [List.length_map, ck_len]) (by decide) (by decide) Try.underlying57 Try.sizeOf59 zv59 rfl rfl ?_
    intro b17
    refine lx_appW (ys := (ck bs k).map U8) gt_low (fun w' h => hGF.g _ _ _ h) rfl rfl Try.underlying57 Try.underlying57 tiR (by simp [Value.cells]) (fun w' h => hA.s.grow (hp_below h)) (hA.low hw) (by rw [List.length_map]; exact ck_len bs k) (hp_row (n := 17) rfl) (one_u8 _) (fun w' h hof => absurd (hA.s.lt _ hof) (Nat.not_lt.2 ((h.own 17 _ _ _ rfl).2.elim id False.elim))) (by omega) (by omega) rfl rfl (fun w1 w2 a1 cap1 hC g2 hm hs ho => ?_)
    have hA2 := hA.next (ck_len bs k) (hp_below hC) g2 hm hs ho
    have hGF : BOk Gt (pl w2) := gt_low.plain g2
    refine lx_assign rfl rfl rfl ?_
    refine lx_nil ?_
    refine x_plain (E := EE []) ?_
    refine lx_move rfl rfl rfl ?_
    refine lx_move rfl rfl rfl ?_
    refine lx_slsl (l := (min 32 (bs.drop (32 * k)).length)) (h' := (bs.drop (32 * k)).length) rfl Try.underlying28 Try.sizeOf5 rfl rfl ⟨by omega, hcb⟩ rfl rfl ?_
    refine lx_assign rfl rfl rfl ?_
    refine lx_nil ?_
    repeat (refine kblk_n ?_)
    refine kseq_n ?_
    exact ⟨rfl, ⟨((k + 1, w2, a1, cap1), cutA ab cb (min 32 (bs.drop (32 * k)).length), cb - (min 32 (bs.drop (32 * k)).length)), by show k + 1 ≤ cks bs; unfold cks; omega, hA2, by rw [pk_drop]; exact cutA_by hbk hcb _, by rw [pk_drop, List.length_drop]; show _ - _ ≤ cb - (min 32 (bs.drop (32 * k)).length); omega⟩, by show cks bs - (k + 1) < cks bs - k; unfold cks; omega, rfl, ⟨by show _ = some (Value.slice (cutA ab cb (min 32 (bs.drop (32 * k)).length)) (bs.drop (32 * (k + 1))).length (cb - (min 32 (bs.drop (32 * k)).length))); rw [pk_len]; rfl, rfl, trivial⟩⟩
  · have hke : k = cks bs := by simp at hc; unfold cks at hk ⊢; omega
    clear hc
    subst hke
    refine x_exit ?_
    refine xs_plain (E := EE []) ?_
    refine lx_move rfl rfl rfl ?_
    refine lx_assign rfl rfl rfl ?_
    refine lx_nil ?_
    refine x_ret ?_
    repeat (first | refine kseq_ret ?_ | refine kblk_ret ?_)
    exact kret_tmp rfl rfl (fun w' hw' => ⟨_, rfl, hA.m.trans (hp_below hw'), ak, ck', rfl, hA.s.grow (hp_below hw'), hA.o⟩)
end Go.Proofs.Ytjifjpcgdkepkaa
