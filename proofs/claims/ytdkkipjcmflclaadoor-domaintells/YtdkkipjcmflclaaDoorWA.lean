/-
  Numbers, bits, chunks: the program's and the document's.
-/
import Derived.Test.YtdkkipjcmflclaaDoorTB
import Derived.Test.YtdkkipjcmflclaaDoorX2
import Derived.Test.YtdkkipjcmflclaaDoorX3
namespace Go.Proofs.YtdkkipjcmflclaaDoor
open Go.RowKit
set_option maxRecDepth 100000
set_option maxHeartbeats 1000000
open Sh
theorem ent33 : Enters Tryd.prog 33 := fun _ _ => by kernel_rfl
theorem ent31 : Enters Tryd.prog 31 := fun _ _ => by kernel_rfl
theorem ent24 : Enters Tryd.prog 24 := fun _ _ => by kernel_rfl
theorem ent39 : Enters Tryd.prog 39 := fun _ _ => by kernel_rfl
theorem ent32 : Enters Tryd.prog 32 := fun _ _ => by kernel_rfl
theorem ent40 : Enters Tryd.prog 40 := fun _ _ => by kernel_rfl
/-- A slice of bytes of one's own, new to a world. -/
def Fr8 (w w' : World) (v : Value) (xs : List (BitVec 8)) : Prop := ∃ a cap, v = .slice a xs.length cap ∧ SlV 5 w' a cap (xs.map U8) ∧ New w a
theorem fr8_all {w w' : World} {L : Hl} {n b : Nat} {xs : List (BitVec 8)} (hp : Hp (pl w) L w') (hl : lkB L n = some (b, xs.map U8, 5)) : Fr8 w w' (.slice (some ⟨b, 0, none⟩) xs.length xs.length) xs :=
  ⟨_, _, rfl, .inr ⟨b, _, rfl, (hp.own n b _ 5 hl).1, by simp, by simp, by rw [List.take_of_length_le (Nat.le_refl _)]⟩, fun _ e => by cases e; exact (hp.own n b _ 5 hl).2.elim id False.elim⟩
def le8 (n : BitVec 64) (k : Nat) : List (BitVec 8) := (List.range k).map fun i => (n >>> (8 * i)).setWidth 8
theorem le8_len (n : BitVec 64) (k : Nat) : (le8 n k).length = k := by simp [le8]
theorem le8_s (n : BitVec 64) (k : Nat) : le8 n (k + 1) = le8 n k ++ [(n >>> (8 * k)).setWidth 8] := by simp [le8, List.range_succ]
theorem pad_set {α : Type} (xs : List α) (x z : α) (m : Nat) : (xs ++ List.replicate (m + 1) z).set xs.length x = (xs ++ [x]) ++ List.replicate m z := by
  rw [List.set_append_right _ _ (Nat.le_refl _), Nat.sub_self, List.replicate_succ, List.set_cons_zero, List.append_assoc]
  rfl
theorem le8_set (n : BitVec 64) (k : Nat) (hk : k < 8) : (le8 n k ++ List.replicate (8 - k) 0#8).set k ((n >>> (8 * k)).setWidth 8) = le8 n (k + 1) ++ List.replicate (8 - (k + 1)) 0#8 := by
  have := pad_set (le8 n k) ((n >>> (8 * k)).setWidth 8) 0#8 (7 - k)
  rw [le8_len, show 7 - k + 1 = 8 - k from by omega] at this
  rw [this, le8_s, show 8 - (k + 1) = 7 - k from by omega]
theorem shr8 (n : BitVec 64) (k : Nat) (t : TypeId) (w : World) : (binOp .shr t (U64 n) (I (8 * (k : Int)))).run Tryd.prog w = .ok (U64 (n >>> (8 * k))) w :=
  (bin_shr_i_u64 t n _ (by omega)).trans (by rw [show ((8 * (k : Int))).toNat = 8 * k from by omega])
attribute [local simp] le8_len
theorem bon_calls (n : BitVec 64) (w : World) (hw : Gt w) : Calls Tryd.prog 39 [U64 n].toArray w (fun e w' => ∃ v, e = .returned v ∧ Grow w w' ∧ Fr8 w w' v (le8 n 8)) := by
  have hGF : BOk Gt (pl w) := gt_low.plain hw
  refine calls_of_X (G := Gt) Tryd.func39 rfl rfl (Hp (pl w) []) (hp_refl (pl w) trivial rides_true) (good_hp hGF) ?_
  refine xs_plain (E := EE []) ?_
  refine lx_assign rfl rfl rfl ?_
  refine lx_nil ?_
  refine xs_plain (E := EE []) ?_
  refine lx_mkslC (l := 8) (m := 8) (c := (List.replicate (8) 0#8).map U8) 5 hGF rfl rfl (Nat.le_refl _) Tryd.underlying39 ti5 ⟨by omega, by omega, by omega⟩ (by rw [Nat.mul_one]; exact made8 _) rfl rfl ?_
  intro b5
  refine lx_assign rfl rfl rfl ?_
  refine lx_nil ?_
  refine x_seq ?_
  refine xs_plain (E := EE []) ?_
  refine lx_move rfl rfl rfl ?_
  refine lx_len rfl (fun _ => len_slice Tryd.underlying39 _ _ _ _) rfl rfl ?_
  refine lx_move rfl rfl rfl ?_
  refine lx_nil ?_
  refine x_block ?_
  refine x_for (ι := { i : Nat // i ≤ 8 }) (fun x => [(0, U64 n), (3, .slice (some ⟨b5, 0, none⟩) 8 8), (7, I 8), (8, I (x.1 : Int))]) (fun x => [(5, b5, (le8 n x.1 ++ List.replicate (8 - x.1) 0#8).map U8, 5)]) (fun x => 8 - x.1) ⟨0, by omega⟩ hGF ⟨rfl, rfl, rfl, rfl, trivial⟩ ⟨rfl, trivial⟩ ?_
  rintro ⟨k, hk⟩
  dsimp only
  refine xs_plain (E := EE []) ?_
  refine lx_bin rfl rfl (fun _ => rfl) (fun _ => bin_lss_i _ _ _) rfl rfl ?_
  refine lx_nil ?_
  refine x_seq ?_
  refine x_if rfl (fun hc => ?_) (fun hc => ?_)
  · have hlt : k < 8 := by simp at hc; omega
    clear hc
    refine x_skip ?_
    refine x_seq ?_
    refine x_block ?_
    refine xs_plain (E := EE []) ?_
    refine lx_move rfl rfl rfl ?_
    refine lx_assign rfl rfl rfl ?_
    refine lx_nil ?_
    refine x_plain (E := EE []) ?_
    refine lx_move rfl rfl rfl ?_
    refine lx_move rfl rfl rfl ?_
    refine lx_move rfl rfl rfl ?_
    refine lx_move rfl rfl rfl ?_
    refine lx_bin rfl rfl (fun _ => rfl) (fun _ => bin_mul_i _ _ _ (by unfold inI; omega)) rfl rfl ?_
    refine lx_bin (v := U64 (n >>> (8 * k))) rfl rfl (fun _ => rfl) (fun _ => shr8 n k _ _) rfl rfl ?_
    refine lx_conv rfl rfl (fun _ => conv_u64_u8 Tryd.underlying25 Tryd.underlying5 _) rfl rfl ?_
    refine lx_is1 k rfl rfl Tryd.underlying39 Tryd.sizeOf5 rfl hlt rfl rfl ?_
    refine lx_storem 5 U8 hGF rfl rfl rfl Tryd.sizeOf5 rfl (by simp; omega) rfl ?_
    rw [show 0 + k = k from Nat.zero_add k, le8_set n k hlt]
    refine lx_nil ?_
    refine x_plain (E := EE []) ?_
    refine lx_bin (v := I (((k + 1 : Nat) : Int))) rfl rfl (fun _ => rfl) (fun _ => (bin_add_i _ _ _ (by unfold inI; omega)).trans (by rfl)) rfl rfl ?_
    refine lx_move rfl rfl rfl ?_
    refine lx_nil ?_
    repeat (refine kblk_n ?_)
    refine kseq_n ?_
    exact ⟨rfl, ⟨k + 1, by omega⟩, _, by show 8 - (k + 1) < 8 - k; omega, rfl, ⟨rfl, rfl, rfl, rfl, trivial⟩, ⟨rfl, trivial⟩⟩
  · obtain rfl : k = 8 := by simp at hc; omega
    refine x_exit ?_
    refine xs_plain (E := EE []) ?_
    refine lx_move rfl rfl rfl ?_
    refine lx_assign rfl rfl rfl ?_
    refine lx_nil ?_
    refine x_ret ?_
    repeat (first | refine kseq_ret ?_ | refine kblk_ret ?_)
    exact kret_tmp rfl rfl (fun w' hw' => ⟨_, rfl, hp_below hw', fr8_all (n := 5) (xs := le8 n 8) hw' (by simp; rfl)⟩)
/-- So many bytes. -/
def szB (n : Nat) : Nat := (n + 7) / 8
/-- The first j bits as bytes. -/
def pb (l : List Bool) : Nat → List (BitVec 8)
  | 0 => List.replicate (szB l.length) 0#8
  | j + 1 => bif l.getD j false then (pb l j).set (j / 8) ((pb l j).getD (j / 8) 0#8 ||| 1#8 <<< (j % 8)) else pb l j
theorem pb_len (l : List Bool) : ∀ j, (pb l j).length = szB l.length
  | 0 => by simp [pb]
  | j + 1 => by unfold pb; cases l.getD j false <;> simp [pb_len l j]
def bitAt (bs : List (BitVec 8)) (t : Nat) : Bool := (bs.getD (t / 8) 0#8 >>> (t % 8)) &&& 1#8 == 1#8
/-- The first n bits. -/
def bt (bs : List (BitVec 8)) (n : Nat) : List Bool := (List.range n).map (bitAt bs)
theorem bt_len (bs : List (BitVec 8)) (n : Nat) : (bt bs n).length = n := by simp [bt]
attribute [local simp] pb_len bt_len
/-- What is known of a slice that was appended to, from a world on. -/
structure Ap8 (w0 : World) (a0 : Option Addr) (w : World) (a : Option Addr) (cap : Nat) (xs : List (BitVec 8)) : Prop where
  g : Gt w
  m : MM (Of a0) w0 w
  s : SlV 5 w a cap (xs.map U8)
  o : ∀ k, Of a k → Of a0 k ∨ w0.heap.size ≤ k
theorem Ap8.low {w0 w : World} {a0 a : Option Addr} {cap : Nat} {xs : List (BitVec 8)} (h : Ap8 w0 a0 w a cap xs) (hl : ∀ k, Of a0 k → 1 ≤ k) (hw : Gt w0) : ∀ k, Of a k → 1 ≤ k := fun k hk => by
  rcases h.o k hk with h1 | h1
  · exact hl k h1
  · exact Nat.le_trans (gt_low.size w0 hw) h1
theorem Ap8.grow {w0 w w1 : World} {a0 a : Option Addr} {cap : Nat} {xs : List (BitVec 8)} (h : Ap8 w0 a0 w a cap xs) (hg : Grow w w1) : Ap8 w0 a0 w1 a cap xs := ⟨gt_low.grow h.g hg, h.m.trans (grow_mm hg), h.s.grow hg, h.o⟩
theorem Ap8.next {w0 w w1 w2 : World} {a0 a a1 : Option Addr} {cap cap1 : Nat} {xs ys : List (BitVec 8)} (h : Ap8 w0 a0 w a cap xs) (hg : Grow w w1) (g2 : Gt w2) (hm : MM (Of a) w1 w2) (hs : SlV 5 w2 a1 cap1 (ys.map U8)) (ho : ∀ k, Of a1 k → Of a k ∨ w1.heap.size ≤ k) : Ap8 w0 a0 w2 a1 cap1 ys where
  g := g2
  m := (h.m.trans (grow_mm hg)).trans' hm fun k hk hl => (h.o k hk).resolve_right (by omega)
  s := hs
  o := fun k hk => by
    rcases ho k hk with h1 | h1
    · exact h.o k h1
    · exact .inr (Nat.le_trans h.m.size (Nat.le_trans hg.size h1))
theorem rui_calls (n : BitVec 64) (xs : List (BitVec 8)) (a : Option Addr) (cap : Nat) (hl : xs.length ≤ 1000000) (w : World) (hw : Gt w) (hs : SlV 5 w a cap (xs.map U8)) (hlow : ∀ k, Of a k → 1 ≤ k) : Calls Tryd.prog 40 [.slice a xs.length cap, U64 n].toArray w (fun e w' => ∃ a1 cap1, e = .returned (.slice a1 (xs ++ le8 n 8).length cap1) ∧ Ap8 w a w' a1 cap1 (xs ++ le8 n 8)) := by
  have hGF : BOk Gt (pl w) := gt_low.plain hw
  refine calls_of_X (G := Gt) Tryd.func40 rfl rfl (Hp (pl w) []) (hp_refl (pl w) trivial rides_true) (good_hp hGF) ?_
  refine xs_plain (E := EE []) ?_
  refine lx_assign rfl rfl rfl ?_
  refine lx_nil ?_
  refine x_seq ?_
  refine xs_plain (E := EE []) ?_
  refine lx_assign rfl rfl rfl ?_
  refine lx_nil ?_
  refine x_block ?_
  refine x_forW gt_low (ι := { x : Nat × World × Option Addr × Nat // x.1 ≤ 8 ∧ Ap8 w a x.2.1 x.2.2.1 x.2.2.2 (xs ++ le8 n x.1) }) (fun x => [(0, .slice x.1.2.2.1 (xs ++ le8 n x.1.1).length x.1.2.2.2), (1, U64 n), (5, I (x.1.1 : Int))]) (fun x => x.1.2.1) (fun x => 8 - x.1.1) ⟨(0, w, a, cap), by omega, hw, grow_mm (Grow.refl w), by simpa [le8] using hs, fun _ h => .inl h⟩ (fun x => x.2.2.g) rfl ⟨by rw [show (xs ++ le8 n 0).length = xs.length from by simp [le8]]; rfl, rfl, rfl, trivial⟩ ?_
  rintro ⟨⟨k, wk, ak, ck⟩, hk, hA⟩
  dsimp only at hk hA ⊢
  have hGF : BOk Gt (pl wk) := gt_low.plain hA.g
  refine x_seq ?_
  refine xs_plain (E := EE []) ?_
  refine lx_move rfl rfl rfl ?_
  refine lx_bin rfl rfl (fun _ => rfl) (fun _ => bin_lss_i _ _ _) rfl rfl ?_
  refine lx_nil ?_
  refine x_if rfl (fun hc => ?_) (fun hc => ?_)
  · have hlt : k < 8 := by simp at hc; omega
    clear hc
    refine x_skip ?_
    refine x_seq ?_
    refine x_block ?_
    refine x_plain (E := EE []) ?_
    refine lx_move rfl rfl rfl ?_
    refine lx_move rfl rfl rfl ?_
    refine lx_move rfl rfl rfl ?_
    refine lx_bin rfl rfl (fun _ => rfl) (fun _ => bin_mul_i _ _ _ (by unfold inI; omega)) rfl rfl ?_
    refine lx_bin (v := U64 (n >>> (8 * k))) rfl rfl (fun _ => rfl) (fun _ => shr8 n k _ _) rfl rfl ?_
    refine lx_conv rfl rfl (fun _ => conv_u64_u8 Tryd.underlying25 Tryd.underlying5 _) rfl rfl ?_
    refine lx_bsl 16 [((n >>> (8 * k)).setWidth 8)] hGF rfl rfl rfl (by decide) (by decide) Tryd.underlying39 Tryd.sizeOf5 Tryd.zeroValue5 rfl rfl ?_
    intro b16
    refine lx_app8 (xs := xs ++ le8 n k) (ys := [((n >>> (8 * k)).setWidth 8)]) gt_low (fun w' h => hGF.g _ _ _ h) rfl rfl Tryd.underlying39 Tryd.underlying39 ti5 (fun w' h => hA.s.grow (hp_below h)) (hA.low hlow hw) (fun w' h => BytesAt.range (hp_row (n := 16) rfl w' h)) (fun w' h _ ad e hof => by cases e; obtain ⟨ad2, e2, e3⟩ := hof; exact absurd (hA.s.lt ad2 e2) (by rw [← e3]; exact Nat.not_lt.2 ((h.own 16 _ _ _ rfl).2.elim id False.elim))) (by simp [le8_len]; omega) rfl rfl (fun w1 w2 a1 cap1 hC g2 hm hs ho => ?_)
    rw [List.append_assoc, ← le8_s] at hs ⊢
    have hA2 := hA.next (hp_below hC) g2 hm hs ho
    refine lx_assign rfl rfl rfl ?_
    refine lx_nil ?_
    refine x_plain (E := EE []) ?_
    refine lx_move rfl rfl rfl ?_
    refine lx_bin (v := I (((k + 1 : Nat) : Int))) rfl rfl (fun _ => rfl) (fun _ => (bin_add_i _ _ _ (by unfold inI; omega)).trans (by rfl)) rfl rfl ?_
    refine lx_assign rfl rfl rfl ?_
    refine lx_nil ?_
    repeat (refine kblk_n ?_)
    refine kseq_n ?_
    exact ⟨rfl, ⟨(k + 1, w2, a1, cap1), by show k + 1 ≤ 8; omega, hA2⟩, by show 8 - (k + 1) < 8 - k; omega, rfl, ⟨rfl, rfl, rfl, trivial⟩⟩
  · obtain rfl : k = 8 := by simp at hc; omega
    refine x_exit ?_
    refine xs_plain (E := EE []) ?_
    refine lx_move rfl rfl rfl ?_
    refine lx_assign rfl rfl rfl ?_
    refine lx_nil ?_
    refine x_ret ?_
    repeat (first | refine kseq_ret ?_ | refine kblk_ret ?_)
    exact kret_tmp rfl rfl (fun w' hw' => ⟨ak, ck, rfl, hA.grow (hp_below hw')⟩)
def cutA (a : Option Addr) (c m : Nat) : Option Addr := if c = m then a else a.map (·.add (m * 1))
theorem cutA_by {w : World} {a : Option Addr} {bs : List (BitVec 8)} (h : BytesAt w a bs) {c : Nat} (hc : bs.length ≤ c) (m : Nat) : BytesAt w (cutA a c m) (bs.drop m) := by
  have := h.cut m bs.length hc
  rwa [List.take_of_length_le (by rw [List.length_drop]; omega)] at this
theorem cut0 (a : Option Addr) (m : Nat) : (if m = 0 then a else a.map (·.add (0 * 1))) = a := by
  cases a with
  | none => simp
  | some ad => simp [Addr.add]

theorem tiR : TI Tryd.prog 22 (.agg ((List.replicate 32 0#8).map U8).toArray) 32 32 := ti_mk (by kernel_rfl)
def pad32 (bs : List (BitVec 8)) : List (BitVec 8) := bs ++ List.replicate (32 - bs.length) 0#8
theorem pad_len {bs : List (BitVec 8)} (h : bs.length ≤ 32) : (pad32 bs).length = 32 := by simp [pad32]; omega
theorem chk_calls (bs : List (BitVec 8)) (len : Nat) (hlen : bs.length = len) (hl : len ≤ 32) (a : Option Addr) (cap : Nat) (w : World) (hw : Gt w) (hb : BytesAt w a bs) : Calls Tryd.prog 33 [.slice a len cap].toArray w (fun e w' => e = .returned (.agg ((pad32 bs).map U8).toArray) ∧ Grow w w') := by
  have hGF : BOk Gt (pl w) := gt_low.plain hw
  refine calls_of_X (G := Gt) Tryd.func33 rfl rfl (Hp (pl w) []) (hp_refl (pl w) trivial rides_true) (good_hp hGF) ?_
  refine xs_plain (E := EE []) ?_
  refine lx_allocr 2 hGF zv22 rfl rfl ?_
  intro b2
  refine lx_nil ?_
  refine xs_plain (E := EE []) ?_
  refine lx_allocr 3 hGF zv22 rfl rfl ?_
  intro b3
  refine lx_nil ?_
  refine xs_plain (E := EE []) ?_
  refine lx_slarr1 (l := 0) (h' := 32) rfl Tryd.underlying22 Tryd.sizeOf5 rfl rfl (by omega) (by omega) rfl rfl ?_
  refine lx_move rfl rfl rfl ?_
  refine lx_copys (cs := bs) 3 hGF rfl rfl rfl Tryd.underlying39 (by kernel_rfl) (by rw [hlen]; exact (Nat.min_eq_left hl).symm) (fun w' h => hb.grow (hp_below h)) (by simp; omega) rfl rfl ?_
  rw [lay_pad bs 32 (by omega)]
  refine lx_nil ?_
  refine xs_plain (E := EE []) ?_
  refine lx_loada 3 rfl rfl Tryd.isAgg22 Tryd.sizeOf22 (by rw [List.length_map, show (bs ++ List.replicate (32 - bs.length) 0#8).length = 32 from pad_len (by omega)]) rfl rfl ?_
  refine lx_storea 2 hGF rfl rfl rfl Tryd.sizeOf22 (by rw [List.length_map, show (bs ++ List.replicate (32 - bs.length) 0#8).length = 32 from pad_len (by omega)]) (by simp) (one_u8 _) rfl ?_
  refine lx_nil ?_
  refine x_ret ?_
  repeat (first | refine kseq_ret ?_ | refine kblk_ret ?_)
  exact kret_own 2 rfl rfl rfl Tryd.isAgg22 Tryd.sizeOf22 (by rw [List.length_map]; exact pad_len (by omega)) (fun w' hw' => ⟨rfl, hp_below hw'⟩)
theorem chn_calls (n : BitVec 64) (w : World) (hw : Gt w) : Calls Tryd.prog 31 [U64 n].toArray w (fun e w' => e = .returned (.agg ((pad32 (le8 n 8)).map U8).toArray) ∧ Grow w w') := by
  have hGF : BOk Gt (pl w) := gt_low.plain hw
  refine calls_of_X (G := Gt) Tryd.func31 rfl rfl (Hp (pl w) []) (hp_refl (pl w) trivial rides_true) (good_hp hGF) ?_
  refine xs_plain (E := EE [39]) ?_
  refine lx_allocr 2 hGF zv22 rfl rfl ?_
  intro b2
  refine lx_nil ?_
  refine xs_plain (E := EE [39]) ?_
  refine lx_move rfl rfl rfl ?_
  refine lx_callE rfl rfl ent39 rfl rfl (fun w1 hC => (bon_calls n w1 (hGF.g _ _ _ hC)).mono fun e1 w2 h => ?_)
  obtain ⟨_, rfl, hg, a2, c2, rfl, hsl, hnew⟩ := h
  obtain ⟨q, rfl, hqs, hqr⟩ := hsl.at (show (le8 n 8).map U8 ≠ [] from fun h => by have := congrArg List.length h; simp [le8_len] at this)
  have hq0 : w1.heap.size ≤ q := hnew _ rfl
  refine ⟨_, _, rfl, good_hp (ok_pj hGF), hq_pj hC hGF.r hg hq0 hqs hqr, ?_⟩
  have hGF := ok_pj (b := q) (cs := (le8 n 8).map U8) hGF
  clear hC
  refine lx_callC rfl rfl ent33 (fun w3 hC hG => chk_calls (le8 n 8) 8 (le8_len _ _) (by omega) (some ⟨q, 0, none⟩) c2 w3 hG (BytesAt.range (pj_at hC))) rfl rfl ?_
  refine lx_storea 2 hGF rfl rfl rfl Tryd.sizeOf22 (by rw [List.length_map, pad_len (by rw [le8_len]; omega)]) (by simp) (one_u8 _) rfl ?_
  refine lx_nil ?_
  refine x_ret ?_
  repeat (first | refine kseq_ret ?_ | refine kblk_ret ?_)
  exact kret_own 2 rfl rfl rfl Tryd.isAgg22 Tryd.sizeOf22 (by rw [List.length_map]; exact pad_len (by rw [le8_len]; omega)) (fun w' hw' => ⟨rfl, hp_below (hq_of_pj hw')⟩)
theorem rch_calls (n : BitVec 64) (w : World) (hw : Gt w) : Calls Tryd.prog 32 [U64 n].toArray w (fun e w' => e = .returned (.agg ((pad32 (le8 n 8)).map U8).toArray) ∧ Grow w w') := by
  have hGF : BOk Gt (pl w) := gt_low.plain hw
  refine calls_of_X (G := Gt) Tryd.func32 rfl rfl (Hp (pl w) []) (hp_refl (pl w) trivial rides_true) (good_hp hGF) ?_
  refine xs_plain (E := EE [40]) ?_
  refine lx_allocr 2 hGF zv22 rfl rfl ?_
  intro b2
  refine lx_nil ?_
  refine xs_plain (E := EE [40]) ?_
  refine lx_allocr 3 hGF zv22 rfl rfl ?_
  intro b3
  refine lx_nil ?_
  refine xs_drawn (E := EE [40]) mixed (by kernel_rfl) (by kernel_rfl) (by kernel_rfl) ?_
  refine lx_slarr1 (l := 0) (h' := 32) rfl Tryd.underlying22 Tryd.sizeOf5 rfl rfl (by omega) (by omega) rfl rfl ?_
  refine lx_move rfl rfl rfl ?_
  refine lx_callE rfl rfl ent40 rfl rfl (fun w1 hC => (rui_calls n [] none 0 (by simp) w1 (hGF.g _ _ _ hC) (.inl ⟨rfl, rfl, rfl⟩) (fun k ⟨ad, e, _⟩ => by cases e)).mono fun e1 w2 h => ?_)
  obtain ⟨a2, c2, rfl, hA⟩ := h
  have hg : Grow w1 w2 := hA.m.grow (fun k _ ⟨ad, e, _⟩ => by cases e)
  have hsl := hA.s
  have hnew : New w1 a2 := fun ad e => (hA.o ad.block ⟨ad, e, rfl⟩).resolve_left (fun ⟨ad, e, _⟩ => by cases e)
  rw [List.nil_append] at hsl ⊢
  rw [le8_len]
  obtain ⟨q, rfl, hqs, hqr⟩ := hsl.at (show (le8 n 8).map U8 ≠ [] from fun h => by have := congrArg List.length h; simp [le8_len] at this)
  have hq0 : w1.heap.size ≤ q := hnew _ rfl
  refine ⟨_, _, rfl, good_hp (ok_pj hGF), hq_pj hC hGF.r hg hq0 hqs hqr, ?_⟩
  have hGF := ok_pj (b := q) (cs := (le8 n 8).map U8) hGF
  clear hC
  refine lx_copys (cs := (le8 n 8)) 3 hGF rfl rfl rfl Tryd.underlying39 (by kernel_rfl) (by rw [le8_len]; rfl) (fun w' h => BytesAt.range (pj_at h)) (by simp [le8_len]) rfl rfl ?_
  rw [lay_pad (le8 n 8) 32 (by rw [le8_len]; omega)]
  refine lx_nil ?_
  refine xs_plain (E := EE [40]) ?_
  refine lx_loada 3 rfl rfl Tryd.isAgg22 Tryd.sizeOf22 (by rw [List.length_map, show ((le8 n 8) ++ List.replicate (32 - (le8 n 8).length) 0#8).length = 32 from pad_len (by rw [le8_len]; omega)]) rfl rfl ?_
  refine lx_storea 2 hGF rfl rfl rfl Tryd.sizeOf22 (by rw [List.length_map, show ((le8 n 8) ++ List.replicate (32 - (le8 n 8).length) 0#8).length = 32 from pad_len (by rw [le8_len]; omega)]) (by simp) (one_u8 _) rfl ?_
  refine lx_nil ?_
  refine x_ret ?_
  repeat (first | refine kseq_ret ?_ | refine kblk_ret ?_)
  exact kret_own 2 rfl rfl rfl Tryd.isAgg22 Tryd.sizeOf22 (by rw [List.length_map]; exact pad_len (by rw [le8_len]; omega)) (fun w' hw' => ⟨rfl, hp_below (hq_of_pj hw')⟩)
/-- The i-th chunk; so many chunks. -/
def ck (bs : List (BitVec 8)) (i : Nat) : List (BitVec 8) := pad32 ((bs.drop (32 * i)).take 32)
theorem ck_len (bs : List (BitVec 8)) (i : Nat) : (ck bs i).length = 32 := pad_len (by rw [List.length_take]; omega)
def cks (bs : List (BitVec 8)) : Nat := (bs.length + 31) / 32
/-- A slice of roots of one's own. -/
def SlR (w : World) (a : Option Addr) (cap n : Nat) (f : Nat → List (BitVec 8)) : Prop := SlW 22 32 w a cap n ((RW 32 f n).map U8)
structure ApR (w0 w : World) (a : Option Addr) (cap n : Nat) (f : Nat → List (BitVec 8)) : Prop where
  g : Gt w
  m : Grow w0 w
  s : SlR w a cap n f
  o : New w0 a
theorem ApR.low {w0 w : World} {a : Option Addr} {cap n : Nat} {f : Nat → List (BitVec 8)} (h : ApR w0 w a cap n f) (hw : Gt w0) : ∀ k, Of a k → 1 ≤ k := fun k ⟨ad, e, hk⟩ => by
  subst hk; exact Nat.le_trans (gt_low.size w0 hw) (h.o ad e)
theorem ApR.next {w0 w w1 w2 : World} {a a1 : Option Addr} {cap cap1 n : Nat} {f : Nat → List (BitVec 8)} (h : ApR w0 w a cap n f) (hf : (f n).length = 32) (hg : Grow w w1) (g2 : Gt w2) (hm : MM (Of a) w1 w2) (hs : SlW 22 32 w2 a1 cap1 (n + 1) ((RW 32 f n).map U8 ++ (f n).map U8)) (ho : ∀ k, Of a1 k → Of a k ∨ w1.heap.size ≤ k) : ApR w0 w2 a1 cap1 (n + 1) f where
  g := g2
  m := hm.grow0 (h.m.trans hg) fun k ⟨ad, e, hk⟩ => by subst hk; exact h.o ad e
  s := by unfold SlR; rw [RW_succ f n hf, List.map_append]; exact hs
  o := fun ad e => by
    rcases ho ad.block ⟨ad, e, rfl⟩ with ⟨ad2, e2, e3⟩ | h1
    · rw [e3]; exact h.o ad2 e2
    · exact Nat.le_trans h.m.size (Nat.le_trans hg.size h1)
def FrR (w w' : World) (v : Value) (n : Nat) (f : Nat → List (BitVec 8)) : Prop := ∃ a cap, v = .slice a n cap ∧ SlR w' a cap n f ∧ New w a
theorem pk_drop (bs : List (BitVec 8)) (k : Nat) : bs.drop (32 * (k + 1)) = (bs.drop (32 * k)).drop (min 32 (bs.drop (32 * k)).length) := by
  rw [List.drop_drop, List.length_drop]
  rcases Nat.lt_or_ge bs.length (32 * k + 32) with h | h
  · rw [List.drop_of_length_le (by omega), List.drop_of_length_le (by omega)]
  · congr 1; omega
theorem pk_len (bs : List (BitVec 8)) (k : Nat) : (bs.drop (32 * (k + 1))).length = (bs.drop (32 * k)).length - min 32 (bs.drop (32 * k)).length := by
  rw [pk_drop, List.length_drop]
theorem pck_calls (bs : List (BitVec 8)) (a : Option Addr) (cap : Nat) (hl : bs.length ≤ 1000000) (hc0 : bs.length ≤ cap) (w : World) (hw : Gt w) (hb : BytesAt w a bs) : Calls Tryd.prog 24 [.slice a bs.length cap].toArray w (fun e w' => ∃ v, e = .returned v ∧ Grow w w' ∧ FrR w w' v (cks bs) (ck bs)) := by
  have hGF : BOk Gt (pl w) := gt_low.plain hw
  refine calls_of_X (G := Gt) Tryd.func24 rfl rfl (Hp (pl w) []) (hp_refl (pl w) trivial rides_true) (good_hp hGF) ?_
  refine xs_plain (E := EE []) ?_
  refine lx_assign rfl rfl rfl ?_
  refine lx_nil ?_
  refine xs_plain (E := EE []) ?_
  refine lx_assign rfl rfl rfl ?_
  refine lx_nil ?_
  refine x_seq ?_
  refine x_block ?_
  refine x_forW gt_low (ι := { x : (Nat × World × Option Addr × Nat) × Option Addr × Nat // x.1.1 ≤ cks bs ∧ ApR w x.1.2.1 x.1.2.2.1 x.1.2.2.2 x.1.1 (ck bs) ∧ BytesAt w x.2.1 (bs.drop (32 * x.1.1)) ∧ (bs.drop (32 * x.1.1)).length ≤ x.2.2 }) (fun x => [(0, .slice x.1.2.1 (bs.drop (32 * x.1.1.1)).length x.1.2.2), (3, .slice x.1.1.2.2.1 x.1.1.1 x.1.1.2.2.2)]) (fun x => x.1.1.2.1) (fun x => cks bs - x.1.1.1) ⟨((0, w, none, 0), a, cap), Nat.zero_le _, ⟨hw, Grow.refl w, .inl ⟨rfl, rfl, rfl, rfl⟩, fun _ h => by cases h⟩, hb, hc0⟩ (fun x => x.2.2.1.g) rfl ⟨rfl, rfl, trivial⟩ ?_
  rintro ⟨⟨⟨k, wk, ak, ck'⟩, ab, cb⟩, hk, hA, hbk, hcb⟩
  dsimp only at hk hA hbk hcb ⊢
  have hGF : BOk Gt (pl wk) := gt_low.plain hA.g
  have hrl : (bs.drop (32 * k)).length = bs.length - 32 * k := List.length_drop
  have hkc : k ≤ 1000000 := by unfold cks at hk; omega
  refine x_seq ?_
  refine xs_plain (E := EE []) ?_
  refine lx_move rfl rfl rfl ?_
  refine lx_len rfl (fun _ => len_slice Tryd.underlying39 _ _ _ _) rfl rfl ?_
  refine lx_bin rfl rfl (fun _ => rfl) (fun _ => bin_gtr_i _ _ _) rfl rfl ?_
  refine lx_nil ?_
  refine x_if rfl (fun hc => ?_) (fun hc => ?_)
  · have hlt : 0 < bs.length - 32 * k := by simp at hc; omega
    clear hc
    refine x_skip ?_
    refine x_block ?_
    refine xs_plain (E := EE []) ?_
    refine lx_move rfl rfl rfl ?_
    refine lx_len rfl (fun _ => len_slice Tryd.underlying39 _ _ _ _) rfl rfl ?_
    refine lx_min (z := (((min 32 (bs.drop (32 * k)).length) : Nat) : Int)) rfl rfl (by split <;> omega) rfl rfl ?_
    refine lx_assign rfl rfl rfl ?_
    refine lx_nil ?_
    refine xs_plain (E := EE []) ?_
    refine lx_move rfl rfl rfl ?_
    refine lx_move rfl rfl rfl ?_
    refine lx_move rfl rfl rfl ?_
    refine lx_move rfl rfl rfl ?_
    refine lx_slsl3 (l := 0) (h' := (min 32 (bs.drop (32 * k)).length)) (m := (min 32 (bs.drop (32 * k)).length)) rfl Tryd.underlying39 Tryd.sizeOf5 rfl rfl rfl ⟨Nat.zero_le _, Nat.le_refl _, by omega⟩ rfl rfl ?_
    rw [cut0, Nat.sub_zero]
    refine lx_callC rfl rfl ent33 (fun w3 hC hG => chk_calls ((bs.drop (32 * k)).take 32) (min 32 (bs.drop (32 * k)).length) (by rw [List.length_take]) (by omega) ab (min 32 (bs.drop (32 * k)).length) w3 hG ((hbk.grow (hA.m.trans (hp_below hC))).take 32)) rfl rfl ?_
    rw [show pad32 ((bs.drop (32 * k)).take 32) = ck bs k from rfl]
    refine lx_bslW1 17 ((ck bs k).map U8) hGF rfl (by rw [List.length_map, ck_len]) (by decide) (by decide) Tryd.underlying57 Tryd.sizeOf22 zv22 rfl rfl ?_
    intro b17
    refine lx_appW (ys := (ck bs k).map U8) gt_low (fun w' h => hGF.g _ _ _ h) rfl rfl Tryd.underlying57 Tryd.underlying57 tiR (by simp [Value.cells]) (fun w' h => hA.s.grow (hp_below h)) (hA.low hw) (by rw [List.length_map]; exact ck_len bs k) (hp_row (n := 17) rfl) (one_u8 _) (fun w' h hof => absurd (hA.s.lt _ hof) (Nat.not_lt.2 ((h.own 17 _ _ _ rfl).2.elim id False.elim))) (by omega) (by omega) rfl rfl (fun w1 w2 a1 cap1 hC g2 hm hs ho => ?_)
    have hA2 := hA.next (ck_len bs k) (hp_below hC) g2 hm hs ho
    have hGF : BOk Gt (pl w2) := gt_low.plain g2
    refine lx_assign rfl rfl rfl ?_
    refine lx_nil ?_
    refine x_plain (E := EE []) ?_
    refine lx_move rfl rfl rfl ?_
    refine lx_move rfl rfl rfl ?_
    refine lx_slsl (l := (min 32 (bs.drop (32 * k)).length)) (h' := (bs.drop (32 * k)).length) rfl Tryd.underlying39 Tryd.sizeOf5 rfl rfl ⟨by omega, hcb⟩ rfl rfl ?_
    refine lx_assign rfl rfl rfl ?_
    refine lx_nil ?_
    repeat (refine kblk_n ?_)
    refine kseq_n ?_
    exact ⟨rfl, ⟨((k + 1, w2, a1, cap1), cutA ab cb (min 32 (bs.drop (32 * k)).length), cb - (min 32 (bs.drop (32 * k)).length)), by show k + 1 ≤ cks bs; unfold cks; omega, hA2, by rw [pk_drop]; exact cutA_by hbk hcb _, by rw [pk_drop, List.length_drop]; show _ - _ ≤ cb - (min 32 (bs.drop (32 * k)).length); omega⟩, by show cks bs - (k + 1) < cks bs - k; unfold cks; omega, rfl, ⟨by show _ = some (Value.slice (cutA ab cb (min 32 (bs.drop (32 * k)).length)) (bs.drop (32 * (k + 1))).length (cb - (min 32 (bs.drop (32 * k)).length))); rw [pk_len]; rfl, rfl, trivial⟩⟩
  · have hke : k = cks bs := by simp at hc; unfold cks at hk ⊢; omega
    clear hc
    subst hke
    refine x_exit ?_
    refine xs_plain (E := EE []) ?_
    refine lx_move rfl rfl rfl ?_
    refine lx_assign rfl rfl rfl ?_
    refine lx_nil ?_
    refine x_ret ?_
    repeat (first | refine kseq_ret ?_ | refine kblk_ret ?_)
    exact kret_tmp rfl rfl (fun w' hw' => ⟨_, rfl, hA.m.trans (hp_below hw'), ak, ck', rfl, hA.s.grow (hp_below hw'), hA.o⟩)
end Go.Proofs.YtdkkipjcmflclaaDoor
