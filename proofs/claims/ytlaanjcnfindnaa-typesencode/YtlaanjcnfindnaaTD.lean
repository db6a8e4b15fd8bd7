/-
  The document's numbers as bytes, and its reader.
-/
import Derived.Test.YtlaanjcnfindnaaTC
namespace Go.Proofs.Ytlaanjcnfindnaa
open Go.RowKit
set_option maxRecDepth 100000
set_option maxHeartbeats 1000000

theorem ent37 : Enters Try.prog 37 := fun _ _ => by kernel_rfl
/-- What is known of a slice that was appended to, from a world on. -/
structure Ap8 (w0 : World) (a0 : Option Addr) (w : World) (a : Option Addr) (cap : Nat) (xs : List (BitVec 8)) : Prop where
  g : Gt w
  m : MM (Of a0) w0 w
  s : SlV 5 w a cap (xs.map U8)
  o : ∀ k, Of a k → Of a0 k ∨ w0.heap.size ≤ k
theorem Ap8.low {w0 w : World} {a0 a : Option Addr} {cap : Nat} {xs : List (BitVec 8)} (h : Ap8 w0 a0 w a cap xs) (hl : ∀ k, Of a0 k → 0 ≤ k) (hw : Gt w0) : ∀ k, Of a k → 0 ≤ k := fun k hk => by
  rcases h.o k hk with h1 | h1
  · exact hl k h1
  · exact Nat.le_trans (gt_low.size w0 hw) h1
theorem Ap8.grow {w0 w w1 : World} {a0 a : Option Addr} {cap : Nat} {xs : List (BitVec 8)} (h : Ap8 w0 a0 w a cap xs) (hg : Grow w w1) : Ap8 w0 a0 w1 a cap xs := ⟨gt_low.grow h.g hg, h.m.trans (grow_mm hg), h.s.grow hg, h.o⟩
theorem Ap8.next {w0 w w1 w2 : World} {a0 a a1 : Option Addr} {cap cap1 : Nat} {xs ys : List (BitVec 8)} (h : Ap8 w0 a0 w a cap xs) (hg : Grow w w1) (g2 : Gt w2) (hm : MM (Of a) w1 w2) (hs : SlV 5 w2 a1 cap1 (ys.map U8)) (ho : ∀ k, Of a1 k → Of a k ∨ w1.heap.size ≤ k) : Ap8 w0 a0 w2 a1 cap1 ys where
  g := g2
  m := (h.m.trans (grow_mm hg)).trans' hm fun k hk hl => (h.o k hk).resolve_right (by omega)
  s := hs
  o := fun k hk => by
    rcases ho k hk with h1 | h1
    · exact h.o k h1
    · exact .inr (Nat.le_trans h.m.size (Nat.le_trans hg.size h1))
theorem rui_calls (n : BitVec 64) (xs : List (BitVec 8)) (a : Option Addr) (cap : Nat) (hl : xs.length ≤ 1000000) (w : World) (hw : Gt w) (hs : SlV 5 w a cap (xs.map U8)) (hlow : ∀ k, Of a k → 0 ≤ k) : Calls Try.prog 37 [.slice a xs.length cap, U64 n].toArray w (fun e w' => ∃ a1 cap1, e = .returned (.slice a1 (xs ++ le8 n 8).length cap1) ∧ Ap8 w a w' a1 cap1 (xs ++ le8 n 8)) := by
  have hGF : BOk Gt (pl w) := gt_low.plain hw
  refine calls_of_X (G := Gt) Try.func37 rfl rfl (Hp (pl w) []) (hp_refl (pl w) trivial rides_true) (good_hp hGF) ?_
  refine xs_plain (E := EE []) ?_
  refine lx_assign rfl rfl rfl ?_
  refine lx_nil ?_
  refine x_seq ?_
  refine xs_plain (E := EE []) ?_
  refine lx_assign rfl rfl rfl ?_
  refine lx_nil ?_
  refine x_block ?_
  refine x_forW gt_low (ι := { x : Nat × World × Option Addr × Nat // x.1 ≤ 8 ∧ Ap8 w a x.2.1 x.2.2.1 x.2.2.2 (xs ++ le8 n x.1) }) (fun x => [(0, .slice x.1.2.2.1 (xs ++ le8 n x.1.1).length x.1.2.2.2), (1, U64 n), (5, I (x.1.1 : Int))]) (fun x => x.1.2.1) (fun x => 8 - x.1.1) ⟨(0, w, a, cap), by omega, hw, grow_mm (Grow.refl w), by simpa [le8] using hs, fun _ h => .inl h⟩ (fun x => x.2.2.g) rfl ⟨by rw [show (xs ++ le8 n 0).length = xs.length from by simp [le8]]; rfl, rfl, rfl, trivial⟩ ?_
  rintro ⟨⟨k, wk, ak, ck⟩, hk, hA⟩
  dsimp only at hk hA ⊢
  have hGF : BOk Gt (pl wk) := gt_low.plain hA.g
  refine x_seq ?_
  refine xs_plain (E := EE []) ?_
  refine lx_move rfl rfl rfl ?_
  refine lx_bin rfl rfl (fun _ => rfl) (fun _ => bin_lss_i _ _ _) rfl rfl ?_
  refine lx_nil ?_
  refine x_if rfl (fun hc => ?_) (fun hc => ?_)
  · have hlt : k < 8 := by simp at hc; omega
    clear hc
    refine x_skip ?_
    refine x_seq ?_
    refine x_block ?_
    refine x_plain (E := EE []) ?_
    refine lx_move rfl rfl rfl ?_
    refine lx_move rfl rfl rfl ?_
    refine lx_move rfl rfl rfl ?_
    refine lx_bin rfl rfl (fun _ => rfl) (fun _ => bin_mul_i _ _ _ (by unfold inI; omega)) rfl rfl ?_
    refine lx_bin (v := U64 (n >>> (8 * k))) rfl rfl (fun _ => rfl) (fun _ => shr8 n k _ _) rfl rfl ?_
    refine lx_conv rfl rfl (fun _ => conv_u64_u8 Try.underlying22 Try.underlying5 _) rfl rfl ?_
    refine lx_bsl 16 [((n >>> (8 * k)).setWidth 8)] hGF rfl rfl rfl (by decide) (by decide) Try.underlying46 Try.sizeOf5 Try.zeroValue5 rfl rfl ?_
    intro b16
    refine lx_app8 (xs := xs ++ le8 n k) (ys := [((n >>> (8 * k)).setWidth 8)]) gt_low (fun w' h => hGF.g _ _ _ h) rfl rfl Try.underlying46 Try.underlying46 ti5 (fun w' h => hA.s.grow (hp_below h)) (hA.low hlow hw) (fun w' h => BytesAt.range (hp_row (n := 16) rfl w' h)) (fun w' h _ ad e hof => by cases e; obtain ⟨ad2, e2, e3⟩ := hof; exact absurd (hA.s.lt ad2 e2) (by rw [← e3]; exact Nat.not_lt.2 ((h.own 16 _ _ _ rfl).2.elim id False.elim))) (by simp [le8_len]; omega) rfl rfl (fun w1 w2 a1 cap1 hC g2 hm hs ho => ?_)
    rw [List.append_assoc, ← le8_s] at hs ⊢
    have hA2 := hA.next (hp_below hC) g2 hm hs ho
    refine lx_assign rfl rfl rfl ?_
    refine lx_nil ?_
    refine x_plain (E := EE []) ?_
    refine lx_move rfl rfl rfl ?_
    refine lx_bin (v := I (((k + 1 : Nat) : Int))) rfl rfl (fun _ => rfl) (fun _ => (bin_add_i _ _ _ (by unfold inI; omega)).trans (by rfl)) rfl rfl ?_
    refine lx_assign rfl rfl rfl ?_
    refine lx_nil ?_
    repeat (refine kblk_n ?_)
    refine kseq_n ?_
    exact ⟨rfl, ⟨(k + 1, w2, a1, cap1), by show k + 1 ≤ 8; omega, hA2⟩, by show 8 - (k + 1) < 8 - k; omega, rfl, ⟨rfl, rfl, rfl, trivial⟩⟩
  · obtain rfl : k = 8 := by simp at hc; omega
    refine x_exit ?_
    refine xs_plain (E := EE []) ?_
    refine lx_move rfl rfl rfl ?_
    refine lx_assign rfl rfl rfl ?_
    refine lx_nil ?_
    refine x_ret ?_
    repeat (first | refine kseq_ret ?_ | refine kblk_ret ?_)
    exact kret_tmp rfl rfl (fun w' hw' => ⟨ak, ck, rfl, hA.grow (hp_below hw')⟩)
theorem got_le (bs : List (BitVec 8)) (e : Int) (m : Nat) : (got bs e m).length ≤ m := by
  unfold got
  split
  · rw [List.length_take]; omega
  · exact Nat.zero_le _
/-- Bits that were appended, from a world on. -/
structure ApB (w0 w : World) (a : Option Addr) (cap : Nat) (xs : List Bool) : Prop where
  g : Gt w
  m : Grow w0 w
  s : SlV 4 w a cap (xs.map .bool)
  o : New w0 a
theorem ApB.low {w0 w : World} {a : Option Addr} {cap : Nat} {xs : List Bool} (h : ApB w0 w a cap xs) (hw : Gt w0) : ∀ k, Of a k → 0 ≤ k := fun k ⟨ad, e, hk⟩ => by
  subst hk; exact Nat.le_trans (gt_low.size w0 hw) (h.o ad e)
theorem ApB.next {w0 w w1 w2 : World} {a a1 : Option Addr} {cap cap1 : Nat} {xs ys : List Bool} (h : ApB w0 w a cap xs) (hg : Grow w w1) (g2 : Gt w2) (hm : MM (Of a) w1 w2) (hs : SlV 4 w2 a1 cap1 (ys.map .bool)) (ho : ∀ k, Of a1 k → Of a k ∨ w1.heap.size ≤ k) : ApB w0 w2 a1 cap1 ys where
  g := g2
  m := hm.grow0 (h.m.trans hg) fun k ⟨ad, e, hk⟩ => by subst hk; exact h.o ad e
  s := hs
  o := fun ad e => by
    rcases ho ad.block ⟨ad, e, rfl⟩ with ⟨ad2, e2, e3⟩ | h1
    · rw [e3]; exact h.o ad2 e2
    · exact Nat.le_trans h.m.size (Nat.le_trans hg.size h1)
end Go.Proofs.Ytlaanjcnfindnaa
