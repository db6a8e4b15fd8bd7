/-
  The document's numbers as bytes, and its reader.
-/
import Derived.Test.YtlaanjcnfindnaaTC
namespace Go.Proofs.Ytlaanjcnfindnaa
open Go.RowKit
set_option maxRecDepth 100000
set_option maxHeartbeats 1000000

theorem ent65 : Enters Try.prog 65 := fun _ _ => by kernel_rfl
theorem ent51 : Enters Try.prog 51 := fun _ _ => by kernel_rfl
theorem ent66 : Enters Try.prog 66 := fun _ _ => by kernel_rfl
/-- What is known of a slice that was appended to, from a world on. -/
structure Ap8 (w0 : World) (a0 : Option Addr) (w : World) (a : Option Addr) (cap : Nat) (xs : List (BitVec 8)) : Prop where
  g : Gt w
  m : MM (Of a0) w0 w
  s : SlV 5 w a cap (xs.map U8)
  o : ∀ k, Of a k → Of a0 k ∨ w0.heap.size ≤ k
theorem Ap8.low {w0 w : World} {a0 a : Option Addr} {cap : Nat} {xs : List (BitVec 8)} (h : Ap8 w0 a0 w a cap xs) (hl : ∀ k, Of a0 k → 0 ≤ k) (hw : Gt w0) : ∀ k, Of a k → 0 ≤ k := fun k hk => by
  rcases h.o k hk with h1 | h1
  · exact hl k h1
  · exact Nat.le_trans (gt_low.size w0 hw) h1
theorem Ap8.grow {w0 w w1 : World} {a0 a : Option Addr} {cap : Nat} {xs : List (BitVec 8)} (h : Ap8 w0 a0 w a cap xs) (hg : Grow w w1) : Ap8 w0 a0 w1 a cap xs := ⟨gt_low.grow h.g hg, h.m.trans (grow_mm hg), h.s.grow hg, h.o⟩
theorem Ap8.next {w0 w w1 w2 : World} {a0 a a1 : Option Addr} {cap cap1 : Nat} {xs ys : List (BitVec 8)} (h : Ap8 w0 a0 w a cap xs) (hg : Grow w w1) (g2 : Gt w2) (hm : MM (Of a) w1 w2) (hs : SlV 5 w2 a1 cap1 (ys.map U8)) (ho : ∀ k, Of a1 k → Of a k ∨ w1.heap.size ≤ k) : Ap8 w0 a0 w2 a1 cap1 ys where
  g := g2
  m := (h.m.trans (grow_mm hg)).trans' hm fun k hk hl => (h.o k hk).resolve_right (by omega)
  s := hs
  o := fun k hk => by
    rcases ho k hk with h1 | h1
    · exact h.o k h1
    · exact .inr (Nat.le_trans h.m.size (Nat.le_trans hg.size h1))
theorem sb_e (b : Nat) (a : Option Addr) (c n : Nat) (e : Int) (z : Int) (w : World) (hw : Gt w) (hbl : 0 ≤ b) (ho : OwnB w b [.slice a n c, I e] 84) (he : e ≠ 0) : Calls Try.prog 65 [.pointer (some ⟨b, 0, none⟩), I z].toArray w (fun r w' => r = .returned (.slice none 0 0) ∧ MM (fun k => k = b) w w' ∧ OwnB w' b [.slice a n c, I e] 84) := by
  have hGF : BOk Gt (plM w (fun k => k = b)) := ok_plM gt_low hw (fun m e => e ▸ hbl)
  refine calls_of_X (G := Gt) Try.func65 rfl rfl (Hp (plM w (fun k => k = b)) [(0, b, [.slice a n c, I e], 84)]) (hp_one' ho rfl) (good_hp hGF) ?_
  refine xs_plain (E := EE []) ?_
  refine lx_assign rfl rfl rfl ?_
  refine lx_nil ?_
  refine xs_plain (E := EE []) ?_
  refine lx_move rfl rfl rfl ?_
  refine lx_max (z := ((z.toNat : Nat) : Int)) rfl rfl (by split <;> omega) rfl rfl ?_
  refine lx_assign rfl rfl rfl ?_
  refine lx_nil ?_
  refine x_seq ?_
  refine xs_plain (E := EE []) ?_
  refine lx_move rfl rfl rfl ?_
  refine lx_nilc rfl rfl rfl ?_
  refine lx_fak 1 rfl Try.underlying84 rfl Try.sizeOf3 (by decide) rfl rfl rfl ?_
  refine lx_loadl 0 rfl rfl rfl Try.isAgg3 rfl rfl ?_
  refine lx_binB true rfl rfl (fun _ => rfl) (fun _ => bin_neq_i _ _ _) (by simpa using he) rfl rfl ?_
  refine lx_nil ?_
  refine x_true rfl ?_
  refine xs_plain (E := EE []) ?_
  refine lx_assign rfl rfl rfl ?_
  refine lx_nil ?_
  refine x_ret ?_
  repeat (first | refine kseq_ret ?_ | refine kblk_ret ?_)
  exact kret_tmp rfl rfl (fun w' hw' => ⟨rfl, hq_mm hw', (hw'.own 0 _ _ _ rfl).1⟩)
theorem sb_l (b : Nat) (a : Option Addr) (c n : Nat) (z : Int) (w : World) (hw : Gt w) (hbl : 0 ≤ b) (ho : OwnB w b [.slice a n c, I 0] 84) (hm : n < z.toNat) : Calls Try.prog 65 [.pointer (some ⟨b, 0, none⟩), I z].toArray w (fun r w' => r = .returned (.slice none 0 0) ∧ MM (fun k => k = b) w w' ∧ OwnB w' b [.slice a n c, I 170] 84) := by
  have hGF : BOk Gt (plM w (fun k => k = b)) := ok_plM gt_low hw (fun m e => e ▸ hbl)
  refine calls_of_X (G := Gt) Try.func65 rfl rfl (Hp (plM w (fun k => k = b)) [(0, b, [.slice a n c, I 0], 84)]) (hp_one' ho rfl) (good_hp hGF) ?_
  refine xs_plain (E := EE []) ?_
  refine lx_assign rfl rfl rfl ?_
  refine lx_nil ?_
  refine xs_plain (E := EE []) ?_
  refine lx_move rfl rfl rfl ?_
  refine lx_max (z := ((z.toNat : Nat) : Int)) rfl rfl (by split <;> omega) rfl rfl ?_
  refine lx_assign rfl rfl rfl ?_
  refine lx_nil ?_
  refine x_seq ?_
  refine xs_plain (E := EE []) ?_
  refine lx_move rfl rfl rfl ?_
  refine lx_nilc rfl rfl rfl ?_
  refine lx_fak 1 rfl Try.underlying84 rfl Try.sizeOf3 (by decide) rfl rfl rfl ?_
  refine lx_loadl 0 rfl rfl rfl Try.isAgg3 rfl rfl ?_
  refine lx_binB false rfl rfl (fun _ => rfl) (fun _ => bin_neq_i _ _ _) (by simp) rfl rfl ?_
  refine lx_nil ?_
  refine x_false rfl ?_
  refine x_skip ?_
  refine x_seq ?_
  refine xs_plain (E := EE []) ?_
  refine lx_move rfl rfl rfl ?_
  refine lx_move rfl rfl rfl ?_
  refine lx_nilc rfl rfl rfl ?_
  refine lx_fak 0 rfl Try.underlying84 rfl Try.sizeOf46 (by decide) rfl rfl rfl ?_
  refine lx_loadl 0 rfl rfl rfl Try.isAgg46 rfl rfl ?_
  refine lx_len rfl (fun _ => len_slice Try.underlying46 _ _ _ _) rfl rfl ?_
  refine lx_binB true rfl rfl (fun _ => rfl) (fun _ => bin_gtr_i _ _ _) (by simp; omega) rfl rfl ?_
  refine lx_nil ?_
  refine x_true rfl ?_
  refine xs_plain (E := EE []) ?_
  refine lx_move rfl rfl rfl ?_
  refine lx_nilc rfl rfl rfl ?_
  refine lx_fak 1 rfl Try.underlying84 rfl Try.sizeOf3 (by decide) rfl rfl rfl ?_
  refine lx_store 0 hGF rfl rfl rfl Try.sizeOf3 rfl (by simp [*]) rfl ?_
  refine lx_nil ?_
  refine xs_plain (E := EE []) ?_
  refine lx_assign rfl rfl rfl ?_
  refine lx_nil ?_
  refine x_ret ?_
  repeat (first | refine kseq_ret ?_ | refine kblk_ret ?_)
  exact kret_tmp rfl rfl (fun w' hw' => ⟨rfl, hq_mm hw', (hw'.own 0 _ _ _ rfl).1⟩)
theorem sb_k (b : Nat) (a : Option Addr) (c n : Nat) (z : Int) (w : World) (hw : Gt w) (hbl : 0 ≤ b) (ho : OwnB w b [.slice a n c, I 0] 84) (hm : z.toNat ≤ n) (hc : n ≤ c) : Calls Try.prog 65 [.pointer (some ⟨b, 0, none⟩), I z].toArray w (fun r w' => r = .returned (.slice a z.toNat c) ∧ MM (fun k => k = b) w w' ∧ OwnB w' b [.slice (cutA a c z.toNat) (n - z.toNat) (c - z.toNat), I 0] 84) := by
  have hGF : BOk Gt (plM w (fun k => k = b)) := ok_plM gt_low hw (fun m e => e ▸ hbl)
  refine calls_of_X (G := Gt) Try.func65 rfl rfl (Hp (plM w (fun k => k = b)) [(0, b, [.slice a n c, I 0], 84)]) (hp_one' ho rfl) (good_hp hGF) ?_
  refine xs_plain (E := EE []) ?_
  refine lx_assign rfl rfl rfl ?_
  refine lx_nil ?_
  refine xs_plain (E := EE []) ?_
  refine lx_move rfl rfl rfl ?_
  refine lx_max (z := ((z.toNat : Nat) : Int)) rfl rfl (by split <;> omega) rfl rfl ?_
  refine lx_assign rfl rfl rfl ?_
  refine lx_nil ?_
  refine x_seq ?_
  refine xs_plain (E := EE []) ?_
  refine lx_move rfl rfl rfl ?_
  refine lx_nilc rfl rfl rfl ?_
  refine lx_fak 1 rfl Try.underlying84 rfl Try.sizeOf3 (by decide) rfl rfl rfl ?_
  refine lx_loadl 0 rfl rfl rfl Try.isAgg3 rfl rfl ?_
  refine lx_binB false rfl rfl (fun _ => rfl) (fun _ => bin_neq_i _ _ _) (by simp) rfl rfl ?_
  refine lx_nil ?_
  refine x_false rfl ?_
  refine x_skip ?_
  refine x_seq ?_
  refine xs_plain (E := EE []) ?_
  refine lx_move rfl rfl rfl ?_
  refine lx_move rfl rfl rfl ?_
  refine lx_nilc rfl rfl rfl ?_
  refine lx_fak 0 rfl Try.underlying84 rfl Try.sizeOf46 (by decide) rfl rfl rfl ?_
  refine lx_loadl 0 rfl rfl rfl Try.isAgg46 rfl rfl ?_
  refine lx_len rfl (fun _ => len_slice Try.underlying46 _ _ _ _) rfl rfl ?_
  refine lx_binB false rfl rfl (fun _ => rfl) (fun _ => bin_gtr_i _ _ _) (by simp; omega) rfl rfl ?_
  refine lx_nil ?_
  refine x_false rfl ?_
  refine x_skip ?_
  refine xs_plain (E := EE []) ?_
  refine lx_move rfl rfl rfl ?_
  refine lx_nilc rfl rfl rfl ?_
  refine lx_fak 0 rfl Try.underlying84 rfl Try.sizeOf46 (by decide) rfl rfl rfl ?_
  refine lx_loadl 0 rfl rfl rfl Try.isAgg46 rfl rfl ?_
  refine lx_move rfl rfl rfl ?_
  refine lx_slsl (l := 0) (h' := z.toNat) rfl Try.underlying46 Try.sizeOf5 rfl rfl ⟨Nat.zero_le _, by omega⟩ rfl rfl ?_
  rw [cut0, Nat.sub_zero, Nat.sub_zero]
  refine lx_assign rfl rfl rfl ?_
  refine lx_nil ?_
  refine xs_plain (E := EE []) ?_
  refine lx_move rfl rfl rfl ?_
  refine lx_move rfl rfl rfl ?_
  refine lx_nilc rfl rfl rfl ?_
  refine lx_fak 0 rfl Try.underlying84 rfl Try.sizeOf46 (by decide) rfl rfl rfl ?_
  refine lx_loadl 0 rfl rfl rfl Try.isAgg46 rfl rfl ?_
  refine lx_move rfl rfl rfl ?_
  refine lx_slsl (l := z.toNat) (h' := n) rfl Try.underlying46 Try.sizeOf5 rfl rfl ⟨hm, hc⟩ rfl rfl ?_
  refine lx_nilc rfl rfl rfl ?_
  refine lx_fak 0 rfl Try.underlying84 rfl Try.sizeOf46 (by decide) rfl rfl rfl ?_
  refine lx_store 0 hGF rfl rfl rfl Try.sizeOf46 rfl (by simp [*]) rfl ?_
  refine lx_nil ?_
  refine xs_plain (E := EE []) ?_
  refine lx_move rfl rfl rfl ?_
  refine lx_assign rfl rfl rfl ?_
  refine lx_nil ?_
  refine x_ret ?_
  repeat (first | refine kseq_ret ?_ | refine kblk_ret ?_)
  exact kret_tmp rfl rfl (fun w' hw' => ⟨rfl, hq_mm hw', (hw'.own 0 _ _ _ rfl).1⟩)
theorem sb_calls (S : Nat → Prop) (b : Nat) (bs : List (BitVec 8)) (e : Int) (z : Int) (w : World) (hw : Gt w) (hbl : 0 ≤ b) (hr : RdAt 84 S w b bs e) : Calls Try.prog 65 [.pointer (some ⟨b, 0, none⟩), I z].toArray w (fun r w' => ∃ v, r = .returned v ∧ MM (fun k => k = b) w w' ∧ (∃ a1 c1, v = .slice a1 (got bs e z.toNat).length c1 ∧ BytesAt w' a1 (got bs e z.toNat)) ∧ RdAt 84 S w' b (lft bs e z.toNat) (err bs e z.toNat)) := by
  obtain ⟨a, c, ho, hc, hy, hs⟩ := hr
  by_cases he : e = 0
  · subst he
    rcases Nat.lt_or_ge bs.length z.toNat with h | h
    · obtain ⟨e1, e2, e3⟩ := rd_l h
      rw [e1, e2, e3]
      exact (sb_l b a c bs.length z w hw hbl ho h).mono fun r w' ⟨h1, h2, h3⟩ => ⟨_, h1, h2, ⟨none, 0, rfl, bytes_nil _ _⟩, a, c, h3, hc, h2.bytes hy (fun ad e h => (hs ad e).2 h), hs⟩
    · obtain ⟨e1, e2, e3⟩ := rd_k h
      rw [e1, e2, e3]
      exact (sb_k b a c bs.length z w hw hbl ho h hc).mono fun r w' ⟨h1, h2, h3⟩ => ⟨_, h1, h2, ⟨a, c, by rw [List.length_take, Nat.min_eq_left h], (h2.bytes hy (fun ad e h => (hs ad e).2 h)).take _⟩, rd_pass hc h hy hs h2 h3⟩
  · obtain ⟨e1, e2, e3⟩ := rd_e (bs := bs) z.toNat he
    rw [e1, e2, e3]
    exact (sb_e b a c bs.length e z w hw hbl ho he).mono fun r w' ⟨h1, h2, h3⟩ => ⟨_, h1, h2, ⟨none, 0, rfl, bytes_nil _ _⟩, a, c, h3, hc, h2.bytes hy (fun ad e h => (hs ad e).2 h), hs⟩
/-- The number of bytes, from the highest down. -/
def qn (bs : List (BitVec 8)) : Nat → BitVec 64
  | 0 => 0#64
  | k + 1 => qn bs k <<< (8#64).toNat ||| (bs.getD (bs.length - 1 - k) 0#8).setWidth 64
theorem sh8f (f : Nat → BitVec 64 → BitVec 64) (hd : ∀ n a b, f n (a ||| b) = f n a ||| f n b) (hs : ∀ m n a, f n (f m a) = f (m + n) a) (h0 : ∀ n, f n 0#64 = 0#64) (hz : ∀ a, f 0 a = a) (y0 y1 y2 y3 y4 y5 y6 y7 : BitVec 64) :
    f 8 (f 8 (f 8 (f 8 (f 8 (f 8 (f 8 (f 8 0#64 ||| y7) ||| y6) ||| y5) ||| y4) ||| y3) ||| y2) ||| y1) ||| y0 = ((((((((0#64 ||| f 0 y0) ||| f 8 y1) ||| f 16 y2) ||| f 24 y3) ||| f 32 y4) ||| f 40 y5) ||| f 48 y6) ||| f 56 y7) := by
  simp only [hd, hs, h0, hz, BitVec.zero_or, Nat.reduceAdd]
  ac_rfl
theorem sh8 (y0 y1 y2 y3 y4 y5 y6 y7 : BitVec 64) : ((((((((0#64 <<< 8 ||| y7) <<< 8 ||| y6) <<< 8 ||| y5) <<< 8 ||| y4) <<< 8 ||| y3) <<< 8 ||| y2) <<< 8 ||| y1) <<< 8 ||| y0) = ((((((((0#64 ||| y0 <<< 0) ||| y1 <<< 8) ||| y2 <<< 16) ||| y3 <<< 24) ||| y4 <<< 32) ||| y5 <<< 40) ||| y6 <<< 48) ||| y7 <<< 56) :=
  sh8f (fun n x => x <<< n) (fun n a b => BitVec.shiftLeft_or_distrib a b n) (fun m n a => (BitVec.shiftLeft_add a m n).symm) (fun n => BitVec.zero_shiftLeft n) (fun a => BitVec.shiftLeft_zero a) y0 y1 y2 y3 y4 y5 y6 y7
theorem qn_pn : ∀ bs : List (BitVec 8), bs.length = 8 → qn bs 8 = pn bs 8
  | [x0, x1, x2, x3, x4, x5, x6, x7], _ => sh8 (x0.setWidth 64) (x1.setWidth 64) (x2.setWidth 64) (x3.setWidth 64) (x4.setWidth 64) (x5.setWidth 64) (x6.setWidth 64) (x7.setWidth 64)
theorem got_num (bs : List (BitVec 8)) (e : Int) : qn (got bs e 8) (got bs e 8).length = pn (got bs e 8) (got bs e 8).length := by
  unfold got
  split
  · rename_i h
    have : (bs.take 8).length = 8 := by rw [List.length_take]; omega
    rw [this]
    exact qn_pn _ this
  · rfl
theorem got_le (bs : List (BitVec 8)) (e : Int) (m : Nat) : (got bs e m).length ≤ m := by
  unfold got
  split
  · rw [List.length_take]; omega
  · exact Nat.zero_le _
theorem su_calls (S : Nat → Prop) (b : Nat) (bs : List (BitVec 8)) (e : Int) (w : World) (hw : Gt w) (hbl : 0 ≤ b) (hr : RdAt 84 S w b bs e) : Calls Try.prog 51 [.pointer (some ⟨b, 0, none⟩)].toArray w (fun r w' => ∃ v, r = .returned v ∧ MM (fun k => k = b) w w' ∧ v = U64 (pn (got bs e 8) (got bs e 8).length) ∧ RdAt 84 S w' b (lft bs e 8) (err bs e 8)) := by
  have hGF : BOk Gt (pl w) := gt_low.plain hw
  refine calls_of_X (G := Gt) Try.func51 rfl rfl (Hp (pl w) []) (hp_refl (pl w) trivial rides_true) (good_hp hGF) ?_
  refine xs_plain (E := EE [65]) ?_
  refine lx_assign rfl rfl rfl ?_
  refine lx_nil ?_
  refine xs_plain (E := EE [65]) ?_
  refine lx_move rfl rfl rfl ?_
  refine lx_callW gt_low (M := fun k => k = b) (fun k h => h ▸ hbl) rfl rfl ent65 rfl rfl hGF (Q := fun _ w' v => (∃ a1 c1, v = .slice a1 (got bs e 8).length c1 ∧ BytesAt w' a1 (got bs e 8)) ∧ RdAt 84 S w' b (lft bs e 8) (err bs e 8)) (fun w1 h1 g1 => sb_calls S b bs e 8 w1 g1 hbl (hr.grow h1)) (fun w1 w2 v hg hm hg2 hq => ?_)
  obtain ⟨⟨a1, c1, rfl, hby⟩, hr2⟩ := hq
  have hGF : BOk Gt (pl w2) := gt_low.plain hg2
  have hle := got_le bs e 8
  have hN := got_num bs e
  generalize got bs e 8 = gb at hle hby hN ⊢
  refine lx_assign rfl rfl rfl ?_
  refine lx_nil ?_
  refine xs_plain (E := EE [65]) ?_
  refine lx_assign rfl rfl rfl ?_
  refine lx_nil ?_
  refine x_seq ?_
  refine xs_plain (E := EE [65]) ?_
  refine lx_move rfl rfl rfl ?_
  refine lx_len rfl (fun _ => len_slice Try.underlying46 _ _ _ _) rfl rfl ?_
  refine lx_bin (v := I (((gb.length : Int) - 1 - (0 : Nat)))) rfl rfl (fun _ => rfl) (fun _ => (bin_sub_i _ _ _ (by unfold inI; omega)).trans (by congr 2; omega)) rfl rfl ?_
  refine lx_assign rfl rfl rfl ?_
  refine lx_nil ?_
  refine x_block ?_
  refine x_for (ι := { i : Nat // i ≤ gb.length }) (fun x => [(3, .slice a1 gb.length c1), (4, U64 (qn gb x.1)), (5, I ((gb.length : Int) - 1 - (x.1 : Nat)))]) (fun x => []) (fun x => gb.length - x.1) ⟨0, by omega⟩ hGF ⟨rfl, rfl, rfl, trivial⟩ trivial ?_
  rintro ⟨k, hk⟩
  dsimp only
  refine x_seq ?_
  refine xs_plain (E := EE [65]) ?_
  refine lx_move rfl rfl rfl ?_
  refine lx_bin rfl rfl (fun _ => rfl) (fun _ => bin_geq_i _ _ _) rfl rfl ?_
  refine lx_nil ?_
  refine x_if rfl (fun hc => ?_) (fun hc => ?_)
  · have hlt : k < gb.length := by simp at hc; omega
    clear hc
    obtain ⟨ad, rfl, hcell⟩ := at8 hby (k := gb.length - 1 - k) (by omega)
    refine x_skip ?_
    refine x_seq ?_
    refine x_block ?_
    refine x_plain (E := EE [65]) ?_
    refine lx_move rfl rfl rfl ?_
    refine lx_bin rfl rfl (fun _ => rfl) (fun _ => bin_shl_u64 _ _ _) rfl rfl ?_
    refine lx_move rfl rfl rfl ?_
    refine lx_move rfl rfl rfl ?_
    refine lx_isA (gb.length - 1 - k) rfl rfl Try.underlying46 Try.sizeOf5 (by omega) (by omega) rfl rfl ?_
    refine lx_load rfl Try.isAgg5 (fun w' h => ((hp_below h).cell (block_lt_of_cell hcell)).trans hcell) rfl rfl ?_
    refine lx_conv rfl rfl (fun _ => conv_u8_u64 Try.underlying5 Try.underlying22 _) rfl rfl ?_
    refine lx_bin rfl rfl (fun _ => rfl) (fun _ => bin_or_u64 _ _ _) rfl rfl ?_
    refine lx_assign rfl rfl rfl ?_
    refine lx_nil ?_
    refine x_plain (E := EE [65]) ?_
    refine lx_move rfl rfl rfl ?_
    refine lx_bin (v := I (((gb.length : Int) - 1 - ((k + 1 : Nat) : Int)))) rfl rfl (fun _ => rfl) (fun _ => (bin_sub_i _ _ _ (by unfold inI; omega)).trans (by rw [show (gb.length : Int) - 1 - (k : Int) - 1 = (gb.length : Int) - 1 - ((k + 1 : Nat) : Int) from by omega])) rfl rfl ?_
    refine lx_assign rfl rfl rfl ?_
    refine lx_nil ?_
    repeat (refine kblk_n ?_)
    refine kseq_n ?_
    exact ⟨rfl, ⟨k + 1, by omega⟩, _, by show gb.length - (k + 1) < gb.length - k; omega, rfl, ⟨rfl, rfl, rfl, trivial⟩, trivial⟩
  · obtain rfl : k = gb.length := by simp at hc; omega
    refine x_exit ?_
    refine xs_plain (E := EE [65]) ?_
    refine lx_move rfl rfl rfl ?_
    refine lx_assign rfl rfl rfl ?_
    refine lx_nil ?_
    refine x_ret ?_
    repeat (first | refine kseq_ret ?_ | refine kblk_ret ?_)
    exact kret_tmp rfl rfl (fun w' hw' => ⟨_, rfl, ((grow_mm hg).trans hm).trans (grow_mm (hp_below hw')), by rw [hN], hr2.grow (hp_below hw')⟩)
theorem mm_cell {M : Nat → Prop} {w w' : World} (h : MM M w w') {ad : Addr} {v : Value} (hc : w.cell? ad = some v) (hn : ¬ M ad.block) : w'.cell? ad = some v := by
  rw [World.cell?_of_block (w := w) (h.keep _ (block_lt_of_cell hc) hn)]
  exact hc
def td (m : Nat) : Int := ((m : Int) - 1).tdiv 8 + 1
theorem td_eq (m : Nat) : td m = if m = 0 then 1 else (szB m : Int) := by
  unfold td szB
  split
  · subst_vars; rfl
  · rw [Int.tdiv_eq_ediv_of_nonneg (by omega)]; omega
theorem td_in {m : Nat} (h : m < 9223372036854775808) : inI (((m : Int) - 1).tdiv 8) := by
  have := td_eq m
  unfold td szB at this
  unfold inI
  split at this <;> omega
theorem td_in2 {m : Nat} (h : m < 9223372036854775808) : inI (((m : Int) - 1).tdiv 8 + 1) := by
  have := td_eq m
  unfold td szB at this
  unfold inI
  split at this <;> omega
theorem take_getD {bs : List (BitVec 8)} {k i : Nat} (hi : i < k) : (bs.take k).getD i 0#8 = bs.getD i 0#8 := by
  rw [List.getD_eq_getElem?_getD, List.getElem?_take, if_pos hi, ← List.getD_eq_getElem?_getD]
theorem clean_t {bs : List (BitVec 8)} {m : Nat} (h : m % 8 ≠ 0) : cleanB (bs.take (szB m)) m = (bs.getD (szB m - 1) 0#8 >>> (m % 8) == 0#8) := by
  have e : m / 8 = szB m - 1 := by unfold szB; omega
  have e2 : m / 8 < szB m := by unfold szB; omega
  unfold cleanB
  rw [take_getD e2, e]
  simp [h]
theorem clean_f {bs : List (BitVec 8)} {m : Nat} (h : m % 8 = 0) : cleanB bs m = true := by simp [cleanB, h]
/-- Bits that were appended, from a world on. -/
structure ApB (w0 w : World) (a : Option Addr) (cap : Nat) (xs : List Bool) : Prop where
  g : Gt w
  m : Grow w0 w
  s : SlV 4 w a cap (xs.map .bool)
  o : New w0 a
theorem ApB.low {w0 w : World} {a : Option Addr} {cap : Nat} {xs : List Bool} (h : ApB w0 w a cap xs) (hw : Gt w0) : ∀ k, Of a k → 0 ≤ k := fun k ⟨ad, e, hk⟩ => by
  subst hk; exact Nat.le_trans (gt_low.size w0 hw) (h.o ad e)
theorem ApB.next {w0 w w1 w2 : World} {a a1 : Option Addr} {cap cap1 : Nat} {xs ys : List Bool} (h : ApB w0 w a cap xs) (hg : Grow w w1) (g2 : Gt w2) (hm : MM (Of a) w1 w2) (hs : SlV 4 w2 a1 cap1 (ys.map .bool)) (ho : ∀ k, Of a1 k → Of a k ∨ w1.heap.size ≤ k) : ApB w0 w2 a1 cap1 ys where
  g := g2
  m := hm.grow0 (h.m.trans hg) fun k ⟨ad, e, hk⟩ => by subst hk; exact h.o ad e
  s := hs
  o := fun ad e => by
    rcases ho ad.block ⟨ad, e, rfl⟩ with ⟨ad2, e2, e3⟩ | h1
    · rw [e3]; exact h.o ad2 e2
    · exact Nat.le_trans h.m.size (Nat.le_trans hg.size h1)
theorem st_e (b : Nat) (a : Option Addr) (c : Nat) (bs : List (BitVec 8)) (m : Nat) (z : Int) (e : Int) (w : World) (hw : Gt w) (hbl : 0 ≤ b) (ho : OwnB w b [.slice a bs.length c, I e] 84) (hzm : z.toNat = m) (hz : m < 9223372036854775808) (he : e ≠ 0) : Calls Try.prog 66 [.pointer (some ⟨b, 0, none⟩), I z].toArray w (fun r w' => r = .returned (.slice none 0 0) ∧ MM (fun k => k = b) w w' ∧ OwnB w' b [.slice a bs.length c, I e] 84) := by
  have hGF : BOk Gt (plM w (fun k => k = b)) := ok_plM gt_low hw (fun m e => e ▸ hbl)
  refine calls_of_X (G := Gt) Try.func66 rfl rfl (Hp (plM w (fun k => k = b)) [(0, b, [.slice a bs.length c, I e], 84)]) (hp_one' ho rfl) (good_hp hGF) ?_
  refine xs_plain (E := EE [65]) ?_
  refine lx_assign rfl rfl rfl ?_
  refine lx_nil ?_
  refine xs_plain (E := EE [65]) ?_
  refine lx_move rfl rfl rfl ?_
  refine lx_max (z := ((m : Nat) : Int)) rfl rfl (by split <;> omega) rfl rfl ?_
  refine lx_assign rfl rfl rfl ?_
  refine lx_nil ?_
  refine x_seq ?_
  refine xs_plain (E := EE [65]) ?_
  refine lx_move rfl rfl rfl ?_
  refine lx_nilc rfl rfl rfl ?_
  refine lx_fak 1 rfl Try.underlying84 rfl Try.sizeOf3 (by decide) rfl rfl rfl ?_
  refine lx_loadl 0 rfl rfl rfl Try.isAgg3 rfl rfl ?_
  refine lx_binB true rfl rfl (fun _ => rfl) (fun _ => bin_neq_i _ _ _) (by simpa using he) rfl rfl ?_
  refine lx_nil ?_
  refine x_true rfl ?_
  refine xs_plain (E := EE [65]) ?_
  refine lx_assign rfl rfl rfl ?_
  refine lx_nil ?_
  refine x_ret ?_
  repeat (first | refine kseq_ret ?_ | refine kblk_ret ?_)
  exact kret_tmp rfl rfl (fun w' hw' => ⟨rfl, hq_mm hw', (hw'.own 0 _ _ _ rfl).1⟩)
theorem st_l (b : Nat) (a : Option Addr) (c : Nat) (bs : List (BitVec 8)) (m : Nat) (z : Int) (w : World) (hw : Gt w) (hbl : 0 ≤ b) (ho : OwnB w b [.slice a bs.length c, I 0] 84) (hzm : z.toNat = m) (hz : m < 9223372036854775808) (hm : bs.length < szB m) (hm0 : 0 < m) : Calls Try.prog 66 [.pointer (some ⟨b, 0, none⟩), I z].toArray w (fun r w' => r = .returned (.slice none 0 0) ∧ MM (fun k => k = b) w w' ∧ OwnB w' b [.slice a bs.length c, I 170] 84) := by
  have hGF : BOk Gt (plM w (fun k => k = b)) := ok_plM gt_low hw (fun m e => e ▸ hbl)
  refine calls_of_X (G := Gt) Try.func66 rfl rfl (Hp (plM w (fun k => k = b)) [(0, b, [.slice a bs.length c, I 0], 84)]) (hp_one' ho rfl) (good_hp hGF) ?_
  refine xs_plain (E := EE [65]) ?_
  refine lx_assign rfl rfl rfl ?_
  refine lx_nil ?_
  refine xs_plain (E := EE [65]) ?_
  refine lx_move rfl rfl rfl ?_
  refine lx_max (z := ((m : Nat) : Int)) rfl rfl (by split <;> omega) rfl rfl ?_
  refine lx_assign rfl rfl rfl ?_
  refine lx_nil ?_
  refine x_seq ?_
  refine xs_plain (E := EE [65]) ?_
  refine lx_move rfl rfl rfl ?_
  refine lx_nilc rfl rfl rfl ?_
  refine lx_fak 1 rfl Try.underlying84 rfl Try.sizeOf3 (by decide) rfl rfl rfl ?_
  refine lx_loadl 0 rfl rfl rfl Try.isAgg3 rfl rfl ?_
  refine lx_binB false rfl rfl (fun _ => rfl) (fun _ => bin_neq_i _ _ _) (by simp) rfl rfl ?_
  refine lx_nil ?_
  refine x_false rfl ?_
  refine x_skip ?_
  refine x_seq ?_
  refine xs_plain (E := EE [65]) ?_
  refine lx_move rfl rfl rfl ?_
  refine lx_bin rfl rfl (fun _ => rfl) (fun _ => bin_sub_i _ _ _ (by unfold inI; omega)) rfl rfl ?_
  refine lx_bin (v := I ((((m : Int) - 1).tdiv 8))) rfl rfl (fun _ => rfl) (fun _ => bin_quo_i _ _ _ (by omega) (td_in hz)) rfl rfl ?_
  refine lx_bin (v := I (td m)) rfl rfl (fun _ => rfl) (fun _ => bin_add_i _ _ _ (td_in2 hz)) rfl rfl ?_
  refine lx_move rfl rfl rfl ?_
  refine lx_nilc rfl rfl rfl ?_
  refine lx_fak 0 rfl Try.underlying84 rfl Try.sizeOf46 (by decide) rfl rfl rfl ?_
  refine lx_loadl 0 rfl rfl rfl Try.isAgg46 rfl rfl ?_
  refine lx_len rfl (fun _ => len_slice Try.underlying46 _ _ _ _) rfl rfl ?_
  refine lx_binB true rfl rfl (fun _ => rfl) (fun _ => bin_gtr_i _ _ _) (by rw [td_eq]; simp; split <;> omega) rfl rfl ?_
  refine lx_move rfl rfl rfl ?_
  refine lx_move rfl rfl rfl ?_
  refine lx_binB true rfl rfl (fun _ => rfl) (fun _ => bin_gtr_i _ _ _) (by simp; omega) rfl rfl ?_
  refine lx_pick rfl rfl rfl rfl rfl ?_
  refine lx_nil ?_
  refine x_true rfl ?_
  refine xs_plain (E := EE [65]) ?_
  refine lx_move rfl rfl rfl ?_
  refine lx_nilc rfl rfl rfl ?_
  refine lx_fak 1 rfl Try.underlying84 rfl Try.sizeOf3 (by decide) rfl rfl rfl ?_
  refine lx_store 0 hGF rfl rfl rfl Try.sizeOf3 rfl (by simp [*]) rfl ?_
  refine lx_nil ?_
  refine xs_plain (E := EE [65]) ?_
  refine lx_assign rfl rfl rfl ?_
  refine lx_nil ?_
  refine x_ret ?_
  repeat (first | refine kseq_ret ?_ | refine kblk_ret ?_)
  exact kret_tmp rfl rfl (fun w' hw' => ⟨rfl, hq_mm hw', (hw'.own 0 _ _ _ rfl).1⟩)
theorem st_d (b : Nat) (a : Option Addr) (c : Nat) (bs : List (BitVec 8)) (m : Nat) (z : Int) (w : World) (hw : Gt w) (hbl : 0 ≤ b) (ho : OwnB w b [.slice a bs.length c, I 0] 84) (hzm : z.toNat = m) (hz : m < 9223372036854775808) (hm : szB m ≤ bs.length) (hc : bs.length ≤ c) (hl : bs.length ≤ 100000) (hy : BytesAt w a bs) (hs : ∀ ad, a = some ad → ¬ ad.block = b) (h8 : m % 8 ≠ 0) (hcl : ¬ bs.getD (szB m - 1) 0#8 >>> (m % 8) = 0#8) : Calls Try.prog 66 [.pointer (some ⟨b, 0, none⟩), I z].toArray w (fun r w' => r = .returned (.slice none 0 0) ∧ MM (fun k => k = b) w w' ∧ OwnB w' b [.slice a bs.length c, I 171] 84) := by
  have hGF : BOk Gt (plM w (fun k => k = b)) := ok_plM gt_low hw (fun m e => e ▸ hbl)
  refine calls_of_X (G := Gt) Try.func66 rfl rfl (Hp (plM w (fun k => k = b)) [(0, b, [.slice a bs.length c, I 0], 84)]) (hp_one' ho rfl) (good_hp hGF) ?_
  have _ := hl
  have _ := hc
  have hml : m ≤ 8 * bs.length := by unfold szB at hm; omega
  have hk1 : szB m - 1 < bs.length := by unfold szB at hm ⊢; omega
  have hk0 : 0 < szB m := by unfold szB; omega
  obtain ⟨ad, rfl, hcell⟩ := at8 hy hk1
  refine xs_plain (E := EE [65]) ?_
  refine lx_assign rfl rfl rfl ?_
  refine lx_nil ?_
  refine xs_plain (E := EE [65]) ?_
  refine lx_move rfl rfl rfl ?_
  refine lx_max (z := ((m : Nat) : Int)) rfl rfl (by split <;> omega) rfl rfl ?_
  refine lx_assign rfl rfl rfl ?_
  refine lx_nil ?_
  refine x_seq ?_
  refine xs_plain (E := EE [65]) ?_
  refine lx_move rfl rfl rfl ?_
  refine lx_nilc rfl rfl rfl ?_
  refine lx_fak 1 rfl Try.underlying84 rfl Try.sizeOf3 (by decide) rfl rfl rfl ?_
  refine lx_loadl 0 rfl rfl rfl Try.isAgg3 rfl rfl ?_
  refine lx_binB false rfl rfl (fun _ => rfl) (fun _ => bin_neq_i _ _ _) (by simp) rfl rfl ?_
  refine lx_nil ?_
  refine x_false rfl ?_
  refine x_skip ?_
  refine x_seq ?_
  refine xs_plain (E := EE [65]) ?_
  refine lx_move rfl rfl rfl ?_
  refine lx_bin rfl rfl (fun _ => rfl) (fun _ => bin_sub_i _ _ _ (by unfold inI; omega)) rfl rfl ?_
  refine lx_bin (v := I ((((m : Int) - 1).tdiv 8))) rfl rfl (fun _ => rfl) (fun _ => bin_quo_i _ _ _ (by omega) (td_in hz)) rfl rfl ?_
  refine lx_bin (v := I (td m)) rfl rfl (fun _ => rfl) (fun _ => bin_add_i _ _ _ (td_in2 hz)) rfl rfl ?_
  refine lx_move rfl rfl rfl ?_
  refine lx_nilc rfl rfl rfl ?_
  refine lx_fak 0 rfl Try.underlying84 rfl Try.sizeOf46 (by decide) rfl rfl rfl ?_
  refine lx_loadl 0 rfl rfl rfl Try.isAgg46 rfl rfl ?_
  refine lx_len rfl (fun _ => len_slice Try.underlying46 _ _ _ _) rfl rfl ?_
  refine lx_binB false rfl rfl (fun _ => rfl) (fun _ => bin_gtr_i _ _ _) (by rw [td_eq]; simp; split <;> omega) rfl rfl ?_
  refine lx_move rfl rfl rfl ?_
  refine lx_skip rfl rfl rfl ?_
  refine lx_skip rfl rfl rfl ?_
  refine lx_pick rfl rfl rfl rfl rfl ?_
  refine lx_nil ?_
  refine x_false rfl ?_
  refine x_skip ?_
  refine xs_plain (E := EE [65]) ?_
  refine lx_move rfl rfl rfl ?_
  refine lx_bin (v := I (((m + 7 : Nat) : Int))) rfl rfl (fun _ => rfl) (fun _ => (bin_add_i _ _ _ (by unfold inI; omega)).trans (by rfl)) rfl rfl ?_
  refine lx_bin (v := I (((szB m : Nat) : Int))) rfl rfl (fun _ => rfl) (fun _ => (bin_quo_i _ _ _ (by omega) (by unfold inI; rw [Int.tdiv_eq_ediv_of_nonneg (by omega)]; omega)).trans (by rw [Int.tdiv_eq_ediv_of_nonneg (by omega)]; rfl)) rfl rfl ?_
  refine lx_assign rfl rfl rfl ?_
  refine lx_nil ?_
  refine x_seq ?_
  refine xs_plain (E := EE [65]) ?_
  refine lx_move rfl rfl rfl ?_
  refine lx_bin (v := I (((m % 8 : Nat) : Int))) rfl rfl (fun _ => rfl) (fun _ => (bin_rem_i _ _ _ (by omega)).trans (by rw [Int.tmod_eq_emod_of_nonneg (by omega)]; rfl)) rfl rfl ?_
  refine lx_binB true rfl rfl (fun _ => rfl) (fun _ => bin_neq_i _ _ _) (by simp; omega) rfl rfl ?_
  refine lx_move rfl rfl rfl ?_
  refine lx_move rfl rfl rfl ?_
  refine lx_nilc rfl rfl rfl ?_
  refine lx_fak 0 rfl Try.underlying84 rfl Try.sizeOf46 (by decide) rfl rfl rfl ?_
  refine lx_loadl 0 rfl rfl rfl Try.isAgg46 rfl rfl ?_
  refine lx_move rfl rfl rfl ?_
  refine lx_bin (v := I (((szB m - 1 : Nat) : Int))) rfl rfl (fun _ => rfl) (fun _ => (bin_sub_i _ _ _ (by unfold inI; omega)).trans (by congr 2; omega)) rfl rfl ?_
  refine lx_isA (szB m - 1) rfl rfl Try.underlying46 Try.sizeOf5 rfl hk1 rfl rfl ?_
  refine lx_load rfl Try.isAgg5 (fun w' h => mm_cell (hq_mm h) hcell (by rw [block_add]; exact hs _ rfl)) rfl rfl ?_
  refine lx_move rfl rfl rfl ?_
  refine lx_bin (v := I (((m % 8 : Nat) : Int))) rfl rfl (fun _ => rfl) (fun _ => (bin_rem_i _ _ _ (by omega)).trans (by rw [Int.tmod_eq_emod_of_nonneg (by omega)]; rfl)) rfl rfl ?_
  refine lx_bin (v := U8 (bs.getD (szB m - 1) 0#8 >>> (m % 8))) rfl rfl (fun _ => rfl) (fun _ => bin_shr_i_u8 _ _ _ (by omega)) rfl rfl ?_
  refine lx_binB true rfl rfl (fun _ => rfl) (fun _ => bin_neq_u8 _ _ _) (by simpa using hcl) rfl rfl ?_
  refine lx_pick rfl rfl rfl rfl rfl ?_
  refine lx_nil ?_
  refine x_true rfl ?_
  refine xs_plain (E := EE [65]) ?_
  refine lx_move rfl rfl rfl ?_
  refine lx_nilc rfl rfl rfl ?_
  refine lx_fak 1 rfl Try.underlying84 rfl Try.sizeOf3 (by decide) rfl rfl rfl ?_
  refine lx_store 0 hGF rfl rfl rfl Try.sizeOf3 rfl (by simp [*]) rfl ?_
  refine lx_nil ?_
  refine xs_plain (E := EE [65]) ?_
  refine lx_assign rfl rfl rfl ?_
  refine lx_nil ?_
  refine x_ret ?_
  repeat (first | refine kseq_ret ?_ | refine kblk_ret ?_)
  exact kret_tmp rfl rfl (fun w' hw' => ⟨rfl, hq_mm hw', (hw'.own 0 _ _ _ rfl).1⟩)
theorem st_kt (b : Nat) (a : Option Addr) (c : Nat) (bs : List (BitVec 8)) (m : Nat) (z : Int) (w : World) (hw : Gt w) (hbl : 0 ≤ b) (ho : OwnB w b [.slice a bs.length c, I 0] 84) (hzm : z.toNat = m) (hz : m < 9223372036854775808) (hm : szB m ≤ bs.length) (hc : bs.length ≤ c) (hl : bs.length ≤ 100000) (hy : BytesAt w a bs) (hs : ∀ ad, a = some ad → ¬ ad.block = b) (h8 : m % 8 ≠ 0) (hcl : bs.getD (szB m - 1) 0#8 >>> (m % 8) = 0#8) : Calls Try.prog 66 [.pointer (some ⟨b, 0, none⟩), I z].toArray w (fun r w' => ∃ v, r = .returned v ∧ MM (fun k => k = b) w w' ∧ OwnB w' b [.slice (cutA a c (szB m)) (bs.length - szB m) (c - szB m), I 0] 84 ∧ FrB w w' v (bt (bs.take (szB m)) m)) := by
  have hGF : BOk Gt (plM w (fun k => k = b)) := ok_plM gt_low hw (fun m e => e ▸ hbl)
  refine calls_of_X (G := Gt) Try.func66 rfl rfl (Hp (plM w (fun k => k = b)) [(0, b, [.slice a bs.length c, I 0], 84)]) (hp_one' ho rfl) (good_hp hGF) ?_
  have _ := hl
  have _ := hc
  have hml : m ≤ 8 * bs.length := by unfold szB at hm; omega
  have hk1 : szB m - 1 < bs.length := by unfold szB at hm ⊢; omega
  have hk0 : 0 < szB m := by unfold szB; omega
  obtain ⟨ad, rfl, hcell⟩ := at8 hy hk1
  refine xs_plain (E := EE [65]) ?_
  refine lx_assign rfl rfl rfl ?_
  refine lx_nil ?_
  refine xs_plain (E := EE [65]) ?_
  refine lx_move rfl rfl rfl ?_
  refine lx_max (z := ((m : Nat) : Int)) rfl rfl (by split <;> omega) rfl rfl ?_
  refine lx_assign rfl rfl rfl ?_
  refine lx_nil ?_
  refine x_seq ?_
  refine xs_plain (E := EE [65]) ?_
  refine lx_move rfl rfl rfl ?_
  refine lx_nilc rfl rfl rfl ?_
  refine lx_fak 1 rfl Try.underlying84 rfl Try.sizeOf3 (by decide) rfl rfl rfl ?_
  refine lx_loadl 0 rfl rfl rfl Try.isAgg3 rfl rfl ?_
  refine lx_binB false rfl rfl (fun _ => rfl) (fun _ => bin_neq_i _ _ _) (by simp) rfl rfl ?_
  refine lx_nil ?_
  refine x_false rfl ?_
  refine x_skip ?_
  refine x_seq ?_
  refine xs_plain (E := EE [65]) ?_
  refine lx_move rfl rfl rfl ?_
  refine lx_bin rfl rfl (fun _ => rfl) (fun _ => bin_sub_i _ _ _ (by unfold inI; omega)) rfl rfl ?_
  refine lx_bin (v := I ((((m : Int) - 1).tdiv 8))) rfl rfl (fun _ => rfl) (fun _ => bin_quo_i _ _ _ (by omega) (td_in hz)) rfl rfl ?_
  refine lx_bin (v := I (td m)) rfl rfl (fun _ => rfl) (fun _ => bin_add_i _ _ _ (td_in2 hz)) rfl rfl ?_
  refine lx_move rfl rfl rfl ?_
  refine lx_nilc rfl rfl rfl ?_
  refine lx_fak 0 rfl Try.underlying84 rfl Try.sizeOf46 (by decide) rfl rfl rfl ?_
  refine lx_loadl 0 rfl rfl rfl Try.isAgg46 rfl rfl ?_
  refine lx_len rfl (fun _ => len_slice Try.underlying46 _ _ _ _) rfl rfl ?_
  refine lx_binB false rfl rfl (fun _ => rfl) (fun _ => bin_gtr_i _ _ _) (by rw [td_eq]; simp; split <;> omega) rfl rfl ?_
  refine lx_move rfl rfl rfl ?_
  refine lx_skip rfl rfl rfl ?_
  refine lx_skip rfl rfl rfl ?_
  refine lx_pick rfl rfl rfl rfl rfl ?_
  refine lx_nil ?_
  refine x_false rfl ?_
  refine x_skip ?_
  refine xs_plain (E := EE [65]) ?_
  refine lx_move rfl rfl rfl ?_
  refine lx_bin (v := I (((m + 7 : Nat) : Int))) rfl rfl (fun _ => rfl) (fun _ => (bin_add_i _ _ _ (by unfold inI; omega)).trans (by rfl)) rfl rfl ?_
  refine lx_bin (v := I (((szB m : Nat) : Int))) rfl rfl (fun _ => rfl) (fun _ => (bin_quo_i _ _ _ (by omega) (by unfold inI; rw [Int.tdiv_eq_ediv_of_nonneg (by omega)]; omega)).trans (by rw [Int.tdiv_eq_ediv_of_nonneg (by omega)]; rfl)) rfl rfl ?_
  refine lx_assign rfl rfl rfl ?_
  refine lx_nil ?_
  refine x_seq ?_
  refine xs_plain (E := EE [65]) ?_
  refine lx_move rfl rfl rfl ?_
  refine lx_bin (v := I (((m % 8 : Nat) : Int))) rfl rfl (fun _ => rfl) (fun _ => (bin_rem_i _ _ _ (by omega)).trans (by rw [Int.tmod_eq_emod_of_nonneg (by omega)]; rfl)) rfl rfl ?_
  refine lx_binB true rfl rfl (fun _ => rfl) (fun _ => bin_neq_i _ _ _) (by simp; omega) rfl rfl ?_
  refine lx_move rfl rfl rfl ?_
  refine lx_move rfl rfl rfl ?_
  refine lx_nilc rfl rfl rfl ?_
  refine lx_fak 0 rfl Try.underlying84 rfl Try.sizeOf46 (by decide) rfl rfl rfl ?_
  refine lx_loadl 0 rfl rfl rfl Try.isAgg46 rfl rfl ?_
  refine lx_move rfl rfl rfl ?_
  refine lx_bin (v := I (((szB m - 1 : Nat) : Int))) rfl rfl (fun _ => rfl) (fun _ => (bin_sub_i _ _ _ (by unfold inI; omega)).trans (by congr 2; omega)) rfl rfl ?_
  refine lx_isA (szB m - 1) rfl rfl Try.underlying46 Try.sizeOf5 rfl hk1 rfl rfl ?_
  refine lx_load rfl Try.isAgg5 (fun w' h => mm_cell (hq_mm h) hcell (by rw [block_add]; exact hs _ rfl)) rfl rfl ?_
  refine lx_move rfl rfl rfl ?_
  refine lx_bin (v := I (((m % 8 : Nat) : Int))) rfl rfl (fun _ => rfl) (fun _ => (bin_rem_i _ _ _ (by omega)).trans (by rw [Int.tmod_eq_emod_of_nonneg (by omega)]; rfl)) rfl rfl ?_
  refine lx_bin (v := U8 (bs.getD (szB m - 1) 0#8 >>> (m % 8))) rfl rfl (fun _ => rfl) (fun _ => bin_shr_i_u8 _ _ _ (by omega)) rfl rfl ?_
  refine lx_binB false rfl rfl (fun _ => rfl) (fun _ => bin_neq_u8 _ _ _) (by simpa using hcl) rfl rfl ?_
  refine lx_pick rfl rfl rfl rfl rfl ?_
  refine lx_nil ?_
  refine x_false rfl ?_
  refine x_skip ?_
  refine xs_plain (E := EE [65]) ?_
  refine lx_move rfl rfl rfl ?_
  refine lx_move rfl rfl rfl ?_
  refine lx_callE rfl rfl ent65 rfl rfl (fun w1 hC => (sb_k b (some ad) c bs.length ((szB m : Nat) : Int) w1 (hGF.g _ _ _ hC) hbl (hC.own 0 _ _ _ rfl).1 hm hc).mono fun e1 w2 h => ?_)
  obtain ⟨rfl, hm1, hO1⟩ := h
  have hq1 := (hq_mm hC).trans hm1
  have hg2 : Gt w2 := gt_low.same w1 w2 (fun k hk => hm1.keep k (Nat.lt_of_lt_of_le hk (gt_low.size w1 (hGF.g _ _ _ hC))) fun h => by omega) (hGF.g _ _ _ hC)
  refine ⟨_, Hp (pl w2) [], rfl, good_hp (gt_low.plain hg2), hp_refl (pl w2) trivial rides_true, ?_⟩
  have hGF : BOk Gt (pl w2) := gt_low.plain hg2
  have hby : BytesAt w2 (some ad) (bs.take (szB m)) := (hq1.bytes hy hs).take _
  clear hC hm1
  refine lx_assign rfl rfl rfl ?_
  refine lx_nil ?_
  refine xs_plain (E := EE [65]) ?_
  refine lx_assign rfl rfl rfl ?_
  refine lx_nil ?_
  refine x_seq ?_
  refine xs_plain (E := EE [65]) ?_
  refine lx_assign rfl rfl rfl ?_
  refine lx_nil ?_
  refine x_block ?_
  refine x_forW gt_low (ι := { x : Nat × World × Option Addr × Nat // x.1 ≤ m ∧ ApB w2 x.2.1 x.2.2.1 x.2.2.2 (bt (bs.take (szB m)) x.1) }) (fun x => [(1, I (m : Int)), (6, .slice (some ad) (szB m) c), (7, .slice x.1.2.2.1 x.1.1 x.1.2.2.2), (8, I (x.1.1 : Int))]) (fun x => x.1.2.1) (fun x => m - x.1.1) ⟨(0, w2, none, 0), Nat.zero_le _, hg2, Grow.refl w2, .inl ⟨rfl, rfl, rfl⟩, fun _ h => by cases h⟩ (fun x => x.2.2.g) rfl ⟨rfl, rfl, rfl, rfl, trivial⟩ ?_
  rintro ⟨⟨k, wk, ak, ck⟩, hk, hA⟩
  dsimp only at hk hA ⊢
  have hGF : BOk Gt (pl wk) := gt_low.plain hA.g
  refine x_seq ?_
  refine xs_plain (E := EE [65]) ?_
  refine lx_move rfl rfl rfl ?_
  refine lx_move rfl rfl rfl ?_
  refine lx_bin rfl rfl (fun _ => rfl) (fun _ => bin_lss_i _ _ _) rfl rfl ?_
  refine lx_nil ?_
  refine x_if rfl (fun hc => ?_) (fun hc => ?_)
  · have hlt : k < m := by simp at hc; omega
    clear hc
    have hk8 : k / 8 < szB m := by unfold szB; omega
    obtain ⟨ad2, had2, hcell2⟩ := at8 hby (k := k / 8) (by rw [List.length_take]; omega)
    cases had2
    refine x_skip ?_
    refine x_seq ?_
    refine x_block ?_
    refine x_plain (E := EE [65]) ?_
    refine lx_move rfl rfl rfl ?_
    refine lx_move rfl rfl rfl ?_
    refine lx_move rfl rfl rfl ?_
    refine lx_bin (v := I (((k / 8 : Nat) : Int))) rfl rfl (fun _ => rfl) (fun _ => (bin_quo_i _ _ _ (by omega) (by unfold inI; rw [Int.tdiv_eq_ediv_of_nonneg (by omega)]; omega)).trans (by rw [Int.tdiv_eq_ediv_of_nonneg (by omega)]; rfl)) rfl rfl ?_
    refine lx_isA (k / 8) rfl rfl Try.underlying46 Try.sizeOf5 rfl hk8 rfl rfl ?_
    refine lx_load rfl Try.isAgg5 (fun w' h => (((hA.m.trans (hp_below h))).cell (block_lt_of_cell hcell2)).trans hcell2) rfl rfl ?_
    refine lx_move rfl rfl rfl ?_
    refine lx_bin (v := I (((k % 8 : Nat) : Int))) rfl rfl (fun _ => rfl) (fun _ => (bin_rem_i _ _ _ (by omega)).trans (by rw [Int.tmod_eq_emod_of_nonneg (by omega)]; rfl)) rfl rfl ?_
    refine lx_bin (v := U8 ((bs.take (szB m)).getD (k / 8) 0#8 >>> (k % 8))) rfl rfl (fun _ => rfl) (fun _ => bin_shr_i_u8 _ _ _ (by omega)) rfl rfl ?_
    refine lx_bin rfl rfl (fun _ => rfl) (fun _ => bin_and_u8 _ _ _) rfl rfl ?_
    refine lx_bin rfl rfl (fun _ => rfl) (fun _ => bin_eql_u8 _ _ _) rfl rfl ?_
    refine lx_bslV 75 [.bool (((bs.take (szB m)).getD (k / 8) 0#8 >>> (k % 8)) &&& 1#8 == 1#8)] hGF rfl rfl rfl (by decide) (by decide) Try.underlying34 Try.sizeOf4 Try.zeroValue4 rfl rfl rfl ?_
    intro b75
    refine lx_appV (xs := (bt (bs.take (szB m)) k).map .bool) (v := .bool (((bs.take (szB m)).getD (k / 8) 0#8 >>> (k % 8)) &&& 1#8 == 1#8)) gt_low (fun w' h => hGF.g _ _ _ h) (by rw [List.length_map, bt_len]; rfl) rfl Try.underlying34 Try.underlying34 ti4 rfl (fun w' h => hA.s.grow (hp_below h)) (hA.low hg2) (hp_row (n := 75) rfl) rfl (fun w' h hof => by obtain ⟨ad2, e2, e3⟩ := hof; exact absurd (hA.s.lt ad2 e2) (by rw [← e3]; exact Nat.not_lt.2 ((h.own 75 _ _ _ rfl).2.elim id False.elim))) (by rw [List.length_map, bt_len]; omega) (by rw [List.length_map, bt_len]; omega) rfl rfl (fun w3 w4 a4 cap4 hC4 g4 hm4 hs4 ho4 => ?_)
    rw [show (bt (bs.take (szB m)) k).map Value.bool ++ [.bool (((bs.take (szB m)).getD (k / 8) 0#8 >>> (k % 8)) &&& 1#8 == 1#8)] = (bt (bs.take (szB m)) (k + 1)).map Value.bool from by rw [bt_s, List.map_append]; rfl] at hs4 ⊢
    rw [List.length_map, bt_len]
    have hA4 := hA.next (hp_below hC4) g4 hm4 hs4 ho4
    refine lx_assign rfl rfl rfl ?_
    refine lx_nil ?_
    refine x_plain (E := EE [65]) ?_
    refine lx_move rfl rfl rfl ?_
    refine lx_bin (v := I (((k + 1 : Nat) : Int))) rfl rfl (fun _ => rfl) (fun _ => (bin_add_i _ _ _ (by unfold inI; omega)).trans (by rfl)) rfl rfl ?_
    refine lx_assign rfl rfl rfl ?_
    refine lx_nil ?_
    repeat (refine kblk_n ?_)
    refine kseq_n ?_
    exact ⟨rfl, ⟨(k + 1, w4, a4, cap4), hlt, hA4⟩, by show m - (k + 1) < m - k; omega, rfl, ⟨rfl, rfl, rfl, rfl, trivial⟩⟩
  · obtain rfl : k = m := by simp at hc; omega
    refine x_exit ?_
    refine xs_plain (E := EE [65]) ?_
    refine lx_move rfl rfl rfl ?_
    refine lx_assign rfl rfl rfl ?_
    refine lx_nil ?_
    refine x_ret ?_
    repeat (first | refine kseq_ret ?_ | refine kblk_ret ?_)
    exact kret_tmp rfl rfl (fun w' hw' => ⟨_, rfl, (hq1.trans (grow_mm hA.m)).trans (grow_mm (hp_below hw')), (hO1.grow hA.m).grow (hp_below hw'), ak, ck, by rw [bt_len], hA.s.grow (hp_below hw'), fun ad e => Nat.le_trans hq1.size (hA.o ad e)⟩)
theorem st_kf (b : Nat) (a : Option Addr) (c : Nat) (bs : List (BitVec 8)) (m : Nat) (z : Int) (w : World) (hw : Gt w) (hbl : 0 ≤ b) (ho : OwnB w b [.slice a bs.length c, I 0] 84) (hzm : z.toNat = m) (hz : m < 9223372036854775808) (hm : szB m ≤ bs.length) (hc : bs.length ≤ c) (hl : bs.length ≤ 100000) (hy : BytesAt w a bs) (hs : ∀ ad, a = some ad → ¬ ad.block = b) (h8 : m % 8 = 0) (hnz : ¬ (m = 0 ∧ bs.length = 0)) : Calls Try.prog 66 [.pointer (some ⟨b, 0, none⟩), I z].toArray w (fun r w' => ∃ v, r = .returned v ∧ MM (fun k => k = b) w w' ∧ OwnB w' b [.slice (cutA a c (szB m)) (bs.length - szB m) (c - szB m), I 0] 84 ∧ FrB w w' v (bt (bs.take (szB m)) m)) := by
  have hGF : BOk Gt (plM w (fun k => k = b)) := ok_plM gt_low hw (fun m e => e ▸ hbl)
  refine calls_of_X (G := Gt) Try.func66 rfl rfl (Hp (plM w (fun k => k = b)) [(0, b, [.slice a bs.length c, I 0], 84)]) (hp_one' ho rfl) (good_hp hGF) ?_
  have _ := hl
  have _ := hc
  have hml : m ≤ 8 * bs.length := by unfold szB at hm; omega
  refine xs_plain (E := EE [65]) ?_
  refine lx_assign rfl rfl rfl ?_
  refine lx_nil ?_
  refine xs_plain (E := EE [65]) ?_
  refine lx_move rfl rfl rfl ?_
  refine lx_max (z := ((m : Nat) : Int)) rfl rfl (by split <;> omega) rfl rfl ?_
  refine lx_assign rfl rfl rfl ?_
  refine lx_nil ?_
  refine x_seq ?_
  refine xs_plain (E := EE [65]) ?_
  refine lx_move rfl rfl rfl ?_
  refine lx_nilc rfl rfl rfl ?_
  refine lx_fak 1 rfl Try.underlying84 rfl Try.sizeOf3 (by decide) rfl rfl rfl ?_
  refine lx_loadl 0 rfl rfl rfl Try.isAgg3 rfl rfl ?_
  refine lx_binB false rfl rfl (fun _ => rfl) (fun _ => bin_neq_i _ _ _) (by simp) rfl rfl ?_
  refine lx_nil ?_
  refine x_false rfl ?_
  refine x_skip ?_
  refine x_seq ?_
  refine xs_plain (E := EE [65]) ?_
  refine lx_move rfl rfl rfl ?_
  refine lx_bin rfl rfl (fun _ => rfl) (fun _ => bin_sub_i _ _ _ (by unfold inI; omega)) rfl rfl ?_
  refine lx_bin (v := I ((((m : Int) - 1).tdiv 8))) rfl rfl (fun _ => rfl) (fun _ => bin_quo_i _ _ _ (by omega) (td_in hz)) rfl rfl ?_
  refine lx_bin (v := I (td m)) rfl rfl (fun _ => rfl) (fun _ => bin_add_i _ _ _ (td_in2 hz)) rfl rfl ?_
  refine lx_move rfl rfl rfl ?_
  refine lx_nilc rfl rfl rfl ?_
  refine lx_fak 0 rfl Try.underlying84 rfl Try.sizeOf46 (by decide) rfl rfl rfl ?_
  refine lx_loadl 0 rfl rfl rfl Try.isAgg46 rfl rfl ?_
  refine lx_len rfl (fun _ => len_slice Try.underlying46 _ _ _ _) rfl rfl ?_
  refine lx_binB false rfl rfl (fun _ => rfl) (fun _ => bin_gtr_i _ _ _) (by rw [td_eq]; simp; split <;> omega) rfl rfl ?_
  refine lx_move rfl rfl rfl ?_
  refine lx_skip rfl rfl rfl ?_
  refine lx_skip rfl rfl rfl ?_
  refine lx_pick rfl rfl rfl rfl rfl ?_
  refine lx_nil ?_
  refine x_false rfl ?_
  refine x_skip ?_
  refine xs_plain (E := EE [65]) ?_
  refine lx_move rfl rfl rfl ?_
  refine lx_bin (v := I (((m + 7 : Nat) : Int))) rfl rfl (fun _ => rfl) (fun _ => (bin_add_i _ _ _ (by unfold inI; omega)).trans (by rfl)) rfl rfl ?_
  refine lx_bin (v := I (((szB m : Nat) : Int))) rfl rfl (fun _ => rfl) (fun _ => (bin_quo_i _ _ _ (by omega) (by unfold inI; rw [Int.tdiv_eq_ediv_of_nonneg (by omega)]; omega)).trans (by rw [Int.tdiv_eq_ediv_of_nonneg (by omega)]; rfl)) rfl rfl ?_
  refine lx_assign rfl rfl rfl ?_
  refine lx_nil ?_
  refine x_seq ?_
  refine xs_plain (E := EE [65]) ?_
  refine lx_move rfl rfl rfl ?_
  refine lx_bin (v := I (((m % 8 : Nat) : Int))) rfl rfl (fun _ => rfl) (fun _ => (bin_rem_i _ _ _ (by omega)).trans (by rw [Int.tmod_eq_emod_of_nonneg (by omega)]; rfl)) rfl rfl ?_
  refine lx_binB false rfl rfl (fun _ => rfl) (fun _ => bin_neq_i _ _ _) (by simp; omega) rfl rfl ?_
  refine lx_move rfl rfl rfl ?_
  refine lx_skip rfl rfl rfl ?_
  refine lx_skip rfl rfl rfl ?_
  refine lx_skip rfl rfl rfl ?_
  refine lx_skip rfl rfl rfl ?_
  refine lx_skip rfl rfl rfl ?_
  refine lx_skip rfl rfl rfl ?_
  refine lx_skip rfl rfl rfl ?_
  refine lx_skip rfl rfl rfl ?_
  refine lx_skip rfl rfl rfl ?_
  refine lx_skip rfl rfl rfl ?_
  refine lx_skip rfl rfl rfl ?_
  refine lx_skip rfl rfl rfl ?_
  refine lx_pick rfl rfl rfl rfl rfl ?_
  refine lx_nil ?_
  refine x_false rfl ?_
  refine x_skip ?_
  refine xs_plain (E := EE [65]) ?_
  refine lx_move rfl rfl rfl ?_
  refine lx_move rfl rfl rfl ?_
  refine lx_callE rfl rfl ent65 rfl rfl (fun w1 hC => (sb_k b a c bs.length ((szB m : Nat) : Int) w1 (hGF.g _ _ _ hC) hbl (hC.own 0 _ _ _ rfl).1 hm hc).mono fun e1 w2 h => ?_)
  obtain ⟨rfl, hm1, hO1⟩ := h
  have hq1 := (hq_mm hC).trans hm1
  have hg2 : Gt w2 := gt_low.same w1 w2 (fun k hk => hm1.keep k (Nat.lt_of_lt_of_le hk (gt_low.size w1 (hGF.g _ _ _ hC))) fun h => by omega) (hGF.g _ _ _ hC)
  refine ⟨_, Hp (pl w2) [], rfl, good_hp (gt_low.plain hg2), hp_refl (pl w2) trivial rides_true, ?_⟩
  have hGF : BOk Gt (pl w2) := gt_low.plain hg2
  have hby : BytesAt w2 a (bs.take (szB m)) := (hq1.bytes hy hs).take _
  clear hC hm1
  refine lx_assign rfl rfl rfl ?_
  refine lx_nil ?_
  refine xs_plain (E := EE [65]) ?_
  refine lx_assign rfl rfl rfl ?_
  refine lx_nil ?_
  refine x_seq ?_
  refine xs_plain (E := EE [65]) ?_
  refine lx_assign rfl rfl rfl ?_
  refine lx_nil ?_
  refine x_block ?_
  refine x_forW gt_low (ι := { x : Nat × World × Option Addr × Nat // x.1 ≤ m ∧ ApB w2 x.2.1 x.2.2.1 x.2.2.2 (bt (bs.take (szB m)) x.1) }) (fun x => [(1, I (m : Int)), (6, .slice a (szB m) c), (7, .slice x.1.2.2.1 x.1.1 x.1.2.2.2), (8, I (x.1.1 : Int))]) (fun x => x.1.2.1) (fun x => m - x.1.1) ⟨(0, w2, none, 0), Nat.zero_le _, hg2, Grow.refl w2, .inl ⟨rfl, rfl, rfl⟩, fun _ h => by cases h⟩ (fun x => x.2.2.g) rfl ⟨rfl, rfl, rfl, rfl, trivial⟩ ?_
  rintro ⟨⟨k, wk, ak, ck⟩, hk, hA⟩
  dsimp only at hk hA ⊢
  have hGF : BOk Gt (pl wk) := gt_low.plain hA.g
  refine x_seq ?_
  refine xs_plain (E := EE [65]) ?_
  refine lx_move rfl rfl rfl ?_
  refine lx_move rfl rfl rfl ?_
  refine lx_bin rfl rfl (fun _ => rfl) (fun _ => bin_lss_i _ _ _) rfl rfl ?_
  refine lx_nil ?_
  refine x_if rfl (fun hc => ?_) (fun hc => ?_)
  · have hlt : k < m := by simp at hc; omega
    clear hc
    have hk8 : k / 8 < szB m := by unfold szB; omega
    obtain ⟨ad2, had2, hcell2⟩ := at8 hby (k := k / 8) (by rw [List.length_take]; omega)
    subst had2
    refine x_skip ?_
    refine x_seq ?_
    refine x_block ?_
    refine x_plain (E := EE [65]) ?_
    refine lx_move rfl rfl rfl ?_
    refine lx_move rfl rfl rfl ?_
    refine lx_move rfl rfl rfl ?_
    refine lx_bin (v := I (((k / 8 : Nat) : Int))) rfl rfl (fun _ => rfl) (fun _ => (bin_quo_i _ _ _ (by omega) (by unfold inI; rw [Int.tdiv_eq_ediv_of_nonneg (by omega)]; omega)).trans (by rw [Int.tdiv_eq_ediv_of_nonneg (by omega)]; rfl)) rfl rfl ?_
    refine lx_isA (k / 8) rfl rfl Try.underlying46 Try.sizeOf5 rfl hk8 rfl rfl ?_
    refine lx_load rfl Try.isAgg5 (fun w' h => (((hA.m.trans (hp_below h))).cell (block_lt_of_cell hcell2)).trans hcell2) rfl rfl ?_
    refine lx_move rfl rfl rfl ?_
    refine lx_bin (v := I (((k % 8 : Nat) : Int))) rfl rfl (fun _ => rfl) (fun _ => (bin_rem_i _ _ _ (by omega)).trans (by rw [Int.tmod_eq_emod_of_nonneg (by omega)]; rfl)) rfl rfl ?_
    refine lx_bin (v := U8 ((bs.take (szB m)).getD (k / 8) 0#8 >>> (k % 8))) rfl rfl (fun _ => rfl) (fun _ => bin_shr_i_u8 _ _ _ (by omega)) rfl rfl ?_
    refine lx_bin rfl rfl (fun _ => rfl) (fun _ => bin_and_u8 _ _ _) rfl rfl ?_
    refine lx_bin rfl rfl (fun _ => rfl) (fun _ => bin_eql_u8 _ _ _) rfl rfl ?_
    refine lx_bslV 75 [.bool (((bs.take (szB m)).getD (k / 8) 0#8 >>> (k % 8)) &&& 1#8 == 1#8)] hGF rfl rfl rfl (by decide) (by decide) Try.underlying34 Try.sizeOf4 Try.zeroValue4 rfl rfl rfl ?_
    intro b75
    refine lx_appV (xs := (bt (bs.take (szB m)) k).map .bool) (v := .bool (((bs.take (szB m)).getD (k / 8) 0#8 >>> (k % 8)) &&& 1#8 == 1#8)) gt_low (fun w' h => hGF.g _ _ _ h) (by rw [List.length_map, bt_len]; rfl) rfl Try.underlying34 Try.underlying34 ti4 rfl (fun w' h => hA.s.grow (hp_below h)) (hA.low hg2) (hp_row (n := 75) rfl) rfl (fun w' h hof => by obtain ⟨ad2, e2, e3⟩ := hof; exact absurd (hA.s.lt ad2 e2) (by rw [← e3]; exact Nat.not_lt.2 ((h.own 75 _ _ _ rfl).2.elim id False.elim))) (by rw [List.length_map, bt_len]; omega) (by rw [List.length_map, bt_len]; omega) rfl rfl (fun w3 w4 a4 cap4 hC4 g4 hm4 hs4 ho4 => ?_)
    rw [show (bt (bs.take (szB m)) k).map Value.bool ++ [.bool (((bs.take (szB m)).getD (k / 8) 0#8 >>> (k % 8)) &&& 1#8 == 1#8)] = (bt (bs.take (szB m)) (k + 1)).map Value.bool from by rw [bt_s, List.map_append]; rfl] at hs4 ⊢
    rw [List.length_map, bt_len]
    have hA4 := hA.next (hp_below hC4) g4 hm4 hs4 ho4
    refine lx_assign rfl rfl rfl ?_
    refine lx_nil ?_
    refine x_plain (E := EE [65]) ?_
    refine lx_move rfl rfl rfl ?_
    refine lx_bin (v := I (((k + 1 : Nat) : Int))) rfl rfl (fun _ => rfl) (fun _ => (bin_add_i _ _ _ (by unfold inI; omega)).trans (by rfl)) rfl rfl ?_
    refine lx_assign rfl rfl rfl ?_
    refine lx_nil ?_
    repeat (refine kblk_n ?_)
    refine kseq_n ?_
    exact ⟨rfl, ⟨(k + 1, w4, a4, cap4), hlt, hA4⟩, by show m - (k + 1) < m - k; omega, rfl, ⟨rfl, rfl, rfl, rfl, trivial⟩⟩
  · obtain rfl : k = m := by simp at hc; omega
    refine x_exit ?_
    refine xs_plain (E := EE [65]) ?_
    refine lx_move rfl rfl rfl ?_
    refine lx_assign rfl rfl rfl ?_
    refine lx_nil ?_
    refine x_ret ?_
    repeat (first | refine kseq_ret ?_ | refine kblk_ret ?_)
    exact kret_tmp rfl rfl (fun w' hw' => ⟨_, rfl, (hq1.trans (grow_mm hA.m)).trans (grow_mm (hp_below hw')), (hO1.grow hA.m).grow (hp_below hw'), ak, ck, by rw [bt_len], hA.s.grow (hp_below hw'), fun ad e => Nat.le_trans hq1.size (hA.o ad e)⟩)
theorem st_k0 (b : Nat) (a : Option Addr) (c : Nat) (bs : List (BitVec 8)) (m : Nat) (z : Int) (w : World) (hw : Gt w) (hbl : 0 ≤ b) (ho : OwnB w b [.slice a bs.length c, I 0] 84) (hzm : z.toNat = m) (hz : m < 9223372036854775808) (hm : szB m ≤ bs.length) (hc : bs.length ≤ c) (hl : bs.length ≤ 100000) (hy : BytesAt w a bs) (hs : ∀ ad, a = some ad → ¬ ad.block = b) (hnz : m = 0 ∧ bs.length = 0) : Calls Try.prog 66 [.pointer (some ⟨b, 0, none⟩), I z].toArray w (fun r w' => ∃ v, r = .returned v ∧ MM (fun k => k = b) w w' ∧ OwnB w' b [.slice (cutA a c (szB m)) (bs.length - szB m) (c - szB m), I 0] 84 ∧ FrB w w' v (bt (bs.take (szB m)) m)) := by
  have hGF : BOk Gt (plM w (fun k => k = b)) := ok_plM gt_low hw (fun m e => e ▸ hbl)
  refine calls_of_X (G := Gt) Try.func66 rfl rfl (Hp (plM w (fun k => k = b)) [(0, b, [.slice a bs.length c, I 0], 84)]) (hp_one' ho rfl) (good_hp hGF) ?_
  have _ := hl
  have _ := hc
  have hml : m ≤ 8 * bs.length := by unfold szB at hm; omega
  refine xs_plain (E := EE [65]) ?_
  refine lx_assign rfl rfl rfl ?_
  refine lx_nil ?_
  refine xs_plain (E := EE [65]) ?_
  refine lx_move rfl rfl rfl ?_
  refine lx_max (z := ((m : Nat) : Int)) rfl rfl (by split <;> omega) rfl rfl ?_
  refine lx_assign rfl rfl rfl ?_
  refine lx_nil ?_
  refine x_seq ?_
  refine xs_plain (E := EE [65]) ?_
  refine lx_move rfl rfl rfl ?_
  refine lx_nilc rfl rfl rfl ?_
  refine lx_fak 1 rfl Try.underlying84 rfl Try.sizeOf3 (by decide) rfl rfl rfl ?_
  refine lx_loadl 0 rfl rfl rfl Try.isAgg3 rfl rfl ?_
  refine lx_binB false rfl rfl (fun _ => rfl) (fun _ => bin_neq_i _ _ _) (by simp) rfl rfl ?_
  refine lx_nil ?_
  refine x_false rfl ?_
  refine x_skip ?_
  refine x_seq ?_
  refine xs_plain (E := EE [65]) ?_
  refine lx_move rfl rfl rfl ?_
  refine lx_bin rfl rfl (fun _ => rfl) (fun _ => bin_sub_i _ _ _ (by unfold inI; omega)) rfl rfl ?_
  refine lx_bin (v := I ((((m : Int) - 1).tdiv 8))) rfl rfl (fun _ => rfl) (fun _ => bin_quo_i _ _ _ (by omega) (td_in hz)) rfl rfl ?_
  refine lx_bin (v := I (td m)) rfl rfl (fun _ => rfl) (fun _ => bin_add_i _ _ _ (td_in2 hz)) rfl rfl ?_
  refine lx_move rfl rfl rfl ?_
  refine lx_nilc rfl rfl rfl ?_
  refine lx_fak 0 rfl Try.underlying84 rfl Try.sizeOf46 (by decide) rfl rfl rfl ?_
  refine lx_loadl 0 rfl rfl rfl Try.isAgg46 rfl rfl ?_
  refine lx_len rfl (fun _ => len_slice Try.underlying46 _ _ _ _) rfl rfl ?_
  refine lx_binB true rfl rfl (fun _ => rfl) (fun _ => bin_gtr_i _ _ _) (by rw [td_eq]; simp [hnz.1, hnz.2]) rfl rfl ?_
  refine lx_move rfl rfl rfl ?_
  refine lx_move rfl rfl rfl ?_
  refine lx_binB false rfl rfl (fun _ => rfl) (fun _ => bin_gtr_i _ _ _) (by simp; omega) rfl rfl ?_
  refine lx_pick rfl rfl rfl rfl rfl ?_
  refine lx_nil ?_
  refine x_false rfl ?_
  refine x_skip ?_
  refine xs_plain (E := EE [65]) ?_
  refine lx_move rfl rfl rfl ?_
  refine lx_bin (v := I (((m + 7 : Nat) : Int))) rfl rfl (fun _ => rfl) (fun _ => (bin_add_i _ _ _ (by unfold inI; omega)).trans (by rfl)) rfl rfl ?_
  refine lx_bin (v := I (((szB m : Nat) : Int))) rfl rfl (fun _ => rfl) (fun _ => (bin_quo_i _ _ _ (by omega) (by unfold inI; rw [Int.tdiv_eq_ediv_of_nonneg (by omega)]; omega)).trans (by rw [Int.tdiv_eq_ediv_of_nonneg (by omega)]; rfl)) rfl rfl ?_
  refine lx_assign rfl rfl rfl ?_
  refine lx_nil ?_
  refine x_seq ?_
  refine xs_plain (E := EE [65]) ?_
  refine lx_move rfl rfl rfl ?_
  refine lx_bin (v := I (((m % 8 : Nat) : Int))) rfl rfl (fun _ => rfl) (fun _ => (bin_rem_i _ _ _ (by omega)).trans (by rw [Int.tmod_eq_emod_of_nonneg (by omega)]; rfl)) rfl rfl ?_
  refine lx_binB false rfl rfl (fun _ => rfl) (fun _ => bin_neq_i _ _ _) (by simp; omega) rfl rfl ?_
  refine lx_move rfl rfl rfl ?_
  refine lx_skip rfl rfl rfl ?_
  refine lx_skip rfl rfl rfl ?_
  refine lx_skip rfl rfl rfl ?_
  refine lx_skip rfl rfl rfl ?_
  refine lx_skip rfl rfl rfl ?_
  refine lx_skip rfl rfl rfl ?_
  refine lx_skip rfl rfl rfl ?_
  refine lx_skip rfl rfl rfl ?_
  refine lx_skip rfl rfl rfl ?_
  refine lx_skip rfl rfl rfl ?_
  refine lx_skip rfl rfl rfl ?_
  refine lx_skip rfl rfl rfl ?_
  refine lx_pick rfl rfl rfl rfl rfl ?_
  refine lx_nil ?_
  refine x_false rfl ?_
  refine x_skip ?_
  refine xs_plain (E := EE [65]) ?_
  refine lx_move rfl rfl rfl ?_
  refine lx_move rfl rfl rfl ?_
  refine lx_callE rfl rfl ent65 rfl rfl (fun w1 hC => (sb_k b a c bs.length ((szB m : Nat) : Int) w1 (hGF.g _ _ _ hC) hbl (hC.own 0 _ _ _ rfl).1 hm hc).mono fun e1 w2 h => ?_)
  obtain ⟨rfl, hm1, hO1⟩ := h
  have hq1 := (hq_mm hC).trans hm1
  have hg2 : Gt w2 := gt_low.same w1 w2 (fun k hk => hm1.keep k (Nat.lt_of_lt_of_le hk (gt_low.size w1 (hGF.g _ _ _ hC))) fun h => by omega) (hGF.g _ _ _ hC)
  refine ⟨_, Hp (pl w2) [], rfl, good_hp (gt_low.plain hg2), hp_refl (pl w2) trivial rides_true, ?_⟩
  have hGF : BOk Gt (pl w2) := gt_low.plain hg2
  have hby : BytesAt w2 a (bs.take (szB m)) := (hq1.bytes hy hs).take _
  clear hC hm1
  refine lx_assign rfl rfl rfl ?_
  refine lx_nil ?_
  refine xs_plain (E := EE [65]) ?_
  refine lx_assign rfl rfl rfl ?_
  refine lx_nil ?_
  refine x_seq ?_
  refine xs_plain (E := EE [65]) ?_
  refine lx_assign rfl rfl rfl ?_
  refine lx_nil ?_
  refine x_block ?_
  refine x_forW gt_low (ι := { x : Nat × World × Option Addr × Nat // x.1 ≤ m ∧ ApB w2 x.2.1 x.2.2.1 x.2.2.2 (bt (bs.take (szB m)) x.1) }) (fun x => [(1, I (m : Int)), (6, .slice a (szB m) c), (7, .slice x.1.2.2.1 x.1.1 x.1.2.2.2), (8, I (x.1.1 : Int))]) (fun x => x.1.2.1) (fun x => m - x.1.1) ⟨(0, w2, none, 0), Nat.zero_le _, hg2, Grow.refl w2, .inl ⟨rfl, rfl, rfl⟩, fun _ h => by cases h⟩ (fun x => x.2.2.g) rfl ⟨rfl, rfl, rfl, rfl, trivial⟩ ?_
  rintro ⟨⟨k, wk, ak, ck⟩, hk, hA⟩
  dsimp only at hk hA ⊢
  have hGF : BOk Gt (pl wk) := gt_low.plain hA.g
  refine x_seq ?_
  refine xs_plain (E := EE [65]) ?_
  refine lx_move rfl rfl rfl ?_
  refine lx_move rfl rfl rfl ?_
  refine lx_bin rfl rfl (fun _ => rfl) (fun _ => bin_lss_i _ _ _) rfl rfl ?_
  refine lx_nil ?_
  refine x_if rfl (fun hc => ?_) (fun hc => ?_)
  · have hlt : k < m := by simp at hc; omega
    clear hc
    have hk8 : k / 8 < szB m := by unfold szB; omega
    obtain ⟨ad2, had2, hcell2⟩ := at8 hby (k := k / 8) (by rw [List.length_take]; omega)
    subst had2
    refine x_skip ?_
    refine x_seq ?_
    refine x_block ?_
    refine x_plain (E := EE [65]) ?_
    refine lx_move rfl rfl rfl ?_
    refine lx_move rfl rfl rfl ?_
    refine lx_move rfl rfl rfl ?_
    refine lx_bin (v := I (((k / 8 : Nat) : Int))) rfl rfl (fun _ => rfl) (fun _ => (bin_quo_i _ _ _ (by omega) (by unfold inI; rw [Int.tdiv_eq_ediv_of_nonneg (by omega)]; omega)).trans (by rw [Int.tdiv_eq_ediv_of_nonneg (by omega)]; rfl)) rfl rfl ?_
    refine lx_isA (k / 8) rfl rfl Try.underlying46 Try.sizeOf5 rfl hk8 rfl rfl ?_
    refine lx_load rfl Try.isAgg5 (fun w' h => (((hA.m.trans (hp_below h))).cell (block_lt_of_cell hcell2)).trans hcell2) rfl rfl ?_
    refine lx_move rfl rfl rfl ?_
    refine lx_bin (v := I (((k % 8 : Nat) : Int))) rfl rfl (fun _ => rfl) (fun _ => (bin_rem_i _ _ _ (by omega)).trans (by rw [Int.tmod_eq_emod_of_nonneg (by omega)]; rfl)) rfl rfl ?_
    refine lx_bin (v := U8 ((bs.take (szB m)).getD (k / 8) 0#8 >>> (k % 8))) rfl rfl (fun _ => rfl) (fun _ => bin_shr_i_u8 _ _ _ (by omega)) rfl rfl ?_
    refine lx_bin rfl rfl (fun _ => rfl) (fun _ => bin_and_u8 _ _ _) rfl rfl ?_
    refine lx_bin rfl rfl (fun _ => rfl) (fun _ => bin_eql_u8 _ _ _) rfl rfl ?_
    refine lx_bslV 75 [.bool (((bs.take (szB m)).getD (k / 8) 0#8 >>> (k % 8)) &&& 1#8 == 1#8)] hGF rfl rfl rfl (by decide) (by decide) Try.underlying34 Try.sizeOf4 Try.zeroValue4 rfl rfl rfl ?_
    intro b75
    refine lx_appV (xs := (bt (bs.take (szB m)) k).map .bool) (v := .bool (((bs.take (szB m)).getD (k / 8) 0#8 >>> (k % 8)) &&& 1#8 == 1#8)) gt_low (fun w' h => hGF.g _ _ _ h) (by rw [List.length_map, bt_len]; rfl) rfl Try.underlying34 Try.underlying34 ti4 rfl (fun w' h => hA.s.grow (hp_below h)) (hA.low hg2) (hp_row (n := 75) rfl) rfl (fun w' h hof => by obtain ⟨ad2, e2, e3⟩ := hof; exact absurd (hA.s.lt ad2 e2) (by rw [← e3]; exact Nat.not_lt.2 ((h.own 75 _ _ _ rfl).2.elim id False.elim))) (by rw [List.length_map, bt_len]; omega) (by rw [List.length_map, bt_len]; omega) rfl rfl (fun w3 w4 a4 cap4 hC4 g4 hm4 hs4 ho4 => ?_)
    rw [show (bt (bs.take (szB m)) k).map Value.bool ++ [.bool (((bs.take (szB m)).getD (k / 8) 0#8 >>> (k % 8)) &&& 1#8 == 1#8)] = (bt (bs.take (szB m)) (k + 1)).map Value.bool from by rw [bt_s, List.map_append]; rfl] at hs4 ⊢
    rw [List.length_map, bt_len]
    have hA4 := hA.next (hp_below hC4) g4 hm4 hs4 ho4
    refine lx_assign rfl rfl rfl ?_
    refine lx_nil ?_
    refine x_plain (E := EE [65]) ?_
    refine lx_move rfl rfl rfl ?_
    refine lx_bin (v := I (((k + 1 : Nat) : Int))) rfl rfl (fun _ => rfl) (fun _ => (bin_add_i _ _ _ (by unfold inI; omega)).trans (by rfl)) rfl rfl ?_
    refine lx_assign rfl rfl rfl ?_
    refine lx_nil ?_
    repeat (refine kblk_n ?_)
    refine kseq_n ?_
    exact ⟨rfl, ⟨(k + 1, w4, a4, cap4), hlt, hA4⟩, by show m - (k + 1) < m - k; omega, rfl, ⟨rfl, rfl, rfl, rfl, trivial⟩⟩
  · obtain rfl : k = m := by simp at hc; omega
    refine x_exit ?_
    refine xs_plain (E := EE [65]) ?_
    refine lx_move rfl rfl rfl ?_
    refine lx_assign rfl rfl rfl ?_
    refine lx_nil ?_
    refine x_ret ?_
    repeat (first | refine kseq_ret ?_ | refine kblk_ret ?_)
    exact kret_tmp rfl rfl (fun w' hw' => ⟨_, rfl, (hq1.trans (grow_mm hA.m)).trans (grow_mm (hp_below hw')), (hO1.grow hA.m).grow (hp_below hw'), ak, ck, by rw [bt_len], hA.s.grow (hp_below hw'), fun ad e => Nat.le_trans hq1.size (hA.o ad e)⟩)
theorem st_calls (S : Nat → Prop) (b : Nat) (bs : List (BitVec 8)) (e : Int) (z : Int) (hz : z.toNat < 9223372036854775808) (hl : bs.length ≤ 100000) (w : World) (hw : Gt w) (hbl : 0 ≤ b) (hr : RdAt 84 S w b bs e) : Calls Try.prog 66 [.pointer (some ⟨b, 0, none⟩), I z].toArray w (fun r w' => ∃ v, r = .returned v ∧ MM (fun k => k = b) w w' ∧ FrB w w' v (gotB bs e z.toNat) ∧ RdAt 84 S w' b (lftB bs e z.toNat) (errB bs e z.toNat)) := by
  obtain ⟨a, c, ho, hc, hy, hs⟩ := hr
  have hs2 : ∀ ad, a = some ad → ¬ ad.block = b := fun ad e => (hs ad e).2
  generalize hm : z.toNat = m at hz ⊢
  by_cases he : e = 0
  · subst he
    rcases Nat.lt_or_ge bs.length (szB m) with h | h
    · have h' : ¬ szB m ≤ bs.length := by omega
      have e1 : gotB bs 0 m = [] := by simp [gotB, h']
      have e2 : lftB bs 0 m = bs := by simp [lftB, h']
      have e3 : errB bs 0 m = 170 := by simp [errB, h]
      rw [e1, e2, e3]
      exact (st_l b a c bs m z w hw hbl ho hm hz h (by unfold szB at h; omega)).mono fun r w' ⟨h1, h2, h3⟩ => ⟨_, h1, h2, frB_nil _ _, a, c, h3, hc, h2.bytes hy hs2, hs⟩
    · have h' : ¬ bs.length < szB m := by omega
      cases hcl : cleanB (bs.take (szB m)) m with
      | false =>
        have h8 : m % 8 ≠ 0 := fun h8 => by rw [clean_f h8] at hcl; cases hcl
        have e1 : gotB bs 0 m = [] := by simp [gotB, hcl]
        have e2 : lftB bs 0 m = bs := by simp [lftB, hcl]
        have e3 : errB bs 0 m = 171 := by simp [errB, h', hcl]
        rw [e1, e2, e3]
        rw [clean_t h8] at hcl
        exact (st_d b a c bs m z w hw hbl ho hm hz h hc hl hy hs2 h8 (by simpa using hcl)).mono fun r w' ⟨h1, h2, h3⟩ => ⟨_, h1, h2, frB_nil _ _, a, c, h3, hc, h2.bytes hy hs2, hs⟩
      | true =>
        have e1 : gotB bs 0 m = bt (bs.take (szB m)) m := by simp [gotB, hcl, h]
        have e2 : lftB bs 0 m = bs.drop (szB m) := by simp [lftB, hcl, h]
        have e3 : errB bs 0 m = 0 := by simp [errB, h', hcl]
        rw [e1, e2, e3]
        by_cases h8 : m % 8 = 0
        · by_cases hnz : m = 0 ∧ bs.length = 0
          · exact (st_k0 b a c bs m z w hw hbl ho hm hz h hc hl hy hs2 hnz).mono fun r w' ⟨v, h1, h2, h3, h4⟩ => ⟨v, h1, h2, h4, rd_pass hc h hy hs h2 h3⟩
          · exact (st_kf b a c bs m z w hw hbl ho hm hz h hc hl hy hs2 h8 hnz).mono fun r w' ⟨v, h1, h2, h3, h4⟩ => ⟨v, h1, h2, h4, rd_pass hc h hy hs h2 h3⟩
        · rw [clean_t h8] at hcl
          exact (st_kt b a c bs m z w hw hbl ho hm hz h hc hl hy hs2 h8 (by simpa using hcl)).mono fun r w' ⟨v, h1, h2, h3, h4⟩ => ⟨v, h1, h2, h4, rd_pass hc h hy hs h2 h3⟩
  · have e1 : gotB bs e m = [] := by simp [gotB, he]
    have e2 : lftB bs e m = bs := by simp [lftB, he]
    have e3 : errB bs e m = e := by simp [errB, he]
    rw [e1, e2, e3]
    exact (st_e b a c bs m z e w hw hbl ho hm hz he).mono fun r w' ⟨h1, h2, h3⟩ => ⟨_, h1, h2, frB_nil _ _, a, c, h3, hc, h2.bytes hy hs2, hs⟩
end Go.Proofs.Ytlaanjcnfindnaa
