/-
  The chapter's example.
-/
import Derived.Test.YtjifjpcgdkepkaaTE
import Derived.Test.YtjifjpcgdkepkaaTF
namespace Go.Proofs.Ytjifjpcgdkepkaa
open Go.RowKit
set_option maxRecDepth 100000
set_option maxHeartbeats 1000000

theorem ent8 : Enters Try.prog 8 := fun _ _ => by kernel_rfl
theorem ent9 : Enters Try.prog 9 := fun _ _ => by kernel_rfl
theorem zv27 (w : World) : (zeroValue 27).run Try.prog w = .ok (.agg [.pointer none, I 0].toArray) w := Try.zeroValue27 w
/-- A writer whose pieces all are there. -/
def WrB (w : World) (b : Nat) (xs : List (BitVec 8)) : Prop := ∃ S, WrAt S w b xs ∧ ∀ k, S k → k < w.heap.size
theorem WrB.grow {w w' : World} {b : Nat} {xs : List (BitVec 8)} (h : WrB w b xs) (hg : Grow w w') : WrB w' b xs := by
  obtain ⟨S, h1, h2⟩ := h
  exact ⟨S, h1.grow hg, fun k hk => Nat.lt_of_lt_of_le (h2 k hk) hg.size⟩
theorem wr_zero {w : World} {b : Nat} (h : OwnB w b [.pointer none, I 0] 27) : WrB w b [] := ⟨fun _ => False, ⟨[], none, h, rfl, rfl, id⟩, fun _ h => h.elim⟩
theorem WrB.next {w w' : World} {b : Nat} {xs : List (BitVec 8)} {S : Nat → Prop} (h : WrAt (fun k => S k ∨ (w.heap.size ≤ k ∧ k < w'.heap.size)) w' b xs) (hS : ∀ k, S k → k < w.heap.size) (hs : w.heap.size ≤ w'.heap.size) : WrB w' b xs := ⟨_, h, fun k hk => hk.elim (fun h => Nat.lt_of_lt_of_le (hS k h) hs) (fun h => h.2)⟩
theorem wuB (b : Nat) (xs : List (BitVec 8)) (n : BitVec 64) (hl : xs.length ≤ 1000000) (w : World) (hw : Gt w) (hbl : 0 ≤ b) (hr : WrB w b xs) : Calls Try.prog 10 [.pointer (some ⟨b, 0, none⟩), U64 n].toArray w (fun r w' => ∃ v, r = .returned v ∧ MM (fun k => k = b) w w' ∧ WrB w' b (xs ++ le8 n 8)) := by
  obtain ⟨S, h1, h2⟩ := hr
  exact (wu_calls S b xs n hl w hw hbl h1).mono fun r w' ⟨h3, h4, h5⟩ => ⟨_, h3, h4, WrB.next h5 h2 h4.size⟩
theorem wtB (b : Nat) (xs : List (BitVec 8)) (l : List Bool) (a : Option Addr) (len cap : Nat) (hlen : l.length = len) (hll : len ≤ 1000000) (hl : xs.length ≤ 1000000) (w : World) (hw : Gt w) (hbl : 0 ≤ b) (hr : WrB w b xs) (hb : CellsAt w a (l.map .bool)) : Calls Try.prog 15 [.pointer (some ⟨b, 0, none⟩), .slice a len cap].toArray w (fun r w' => ∃ v, r = .returned v ∧ MM (fun k => k = b) w w' ∧ WrB w' b (xs ++ pb l l.length)) := by
  subst hlen
  obtain ⟨S, h1, h2⟩ := hr
  exact (wt_calls S b xs l a cap hll hl w hw hbl h1 hb).mono fun r w' ⟨h3, h4, h5⟩ => ⟨_, h3, h4, WrB.next h5 h2 h4.size⟩
theorem walB (b : Nat) (xs : List (BitVec 8)) (hl : xs.length ≤ 1000000) (w : World) (hw : Gt w) (hr : WrB w b xs) : Calls Try.prog 17 [.pointer (some ⟨b, 0, none⟩)].toArray w (fun e w' => ∃ v, e = .returned v ∧ MM (fun _ => False) w w' ∧ Fr8 w w' v xs) := by
  obtain ⟨S, h1, _⟩ := hr
  exact (wal_calls S b xs hl w hw h1).mono fun r w' ⟨v, h3, h4, h5⟩ => ⟨v, h3, grow_mm h4, h5⟩
theorem nrB (bs : List (BitVec 8)) (a : Option Addr) (len cap : Nat) (hlen : bs.length = len) (hl : len ≤ 1000000) (w : World) (hw : Gt w) (hb : BytesAt w a bs) : Calls Try.prog 19 [.slice a len cap].toArray w (fun e w' => ∃ v, e = .returned v ∧ MM (fun _ => False) w w' ∧ ∃ b, v = .pointer (some ⟨b, 0, none⟩) ∧ w.heap.size ≤ b ∧ RdAt 67 (fun k => w.heap.size ≤ k ∧ k < w'.heap.size) w' b bs 0) := by
  subst hlen
  exact (nr_calls bs a cap hl w hw hb).mono fun r w' ⟨b, h1, h2, h3, h4⟩ => ⟨_, h1, grow_mm h2, b, rfl, h3, h4⟩
/-- The example's bytes. -/
def exB : List (BitVec 8) := [5#8, 2#8, 1#8, 0#8, 0#8, 0#8, 0#8, 0#8, 0#8]
theorem ex_all : ([] ++ pb [true, false, true] [true, false, true].length) ++ le8 258#64 8 = exB := by decide +kernel
theorem ex_bits : gotB exB 0 3 = [true, false, true] ∧ lftB exB 0 3 = [2#8, 1#8, 0#8, 0#8, 0#8, 0#8, 0#8, 0#8] ∧ errB exB 0 3 = 0 := by decide +kernel
theorem ex_num : pn (got [2#8, 1#8, 0#8, 0#8, 0#8, 0#8, 0#8, 0#8] 0 8) (got [2#8, 1#8, 0#8, 0#8, 0#8, 0#8, 0#8, 0#8] 0 8).length = 258#64 ∧ lft [2#8, 1#8, 0#8, 0#8, 0#8, 0#8, 0#8, 0#8] 0 8 = [] ∧ err [2#8, 1#8, 0#8, 0#8, 0#8, 0#8, 0#8, 0#8] 0 8 = 0 := by decide +kernel
theorem ex_bad : gotB [8#8] 0 3 = [] ∧ lftB [8#8] 0 3 = [8#8] ∧ errB [8#8] 0 3 = 171 := by decide +kernel
theorem known17 (w : World) (hw : Gt w) : Calls Try.prog 8 [].toArray w (fun e w' => e = .returned (.bool true) ∧ Grow w w') := by
  have hGF := gt_low.plain hw
  refine calls_of_X (G := Gt) Try.func8 rfl rfl (Hp (pl w) []) (hp_refl (pl w) trivial rides_true) (good_hp hGF) ?_
  refine xs_plain (E := EE [15, 10, 17, 19, 25, 20, 31]) ?_
  refine lx_assign rfl rfl rfl ?_
  refine lx_nil ?_
  refine xs_plain (E := EE [15, 10, 17, 19, 25, 20, 31]) ?_
  refine lx_allocr 1 hGF zv27 rfl rfl ?_
  intro b1
  refine lx_nil ?_
  refine xs_plain (E := EE [15, 10, 17, 19, 25, 20, 31]) ?_
  refine lx_bslV 8 [.bool true, .bool false, .bool true] hGF rfl rfl rfl (by decide) (by decide) Try.underlying30 Try.sizeOf4 Try.zeroValue4 rfl rfl rfl ?_
  intro b8
  refine lx_callE rfl rfl ent15 rfl rfl (fun w1 hC => (wtB b1 [] [true, false, true] (some ⟨b8, 0, none⟩) 3 3 rfl (by decide) (by decide) w1 (hGF.g _ _ _ hC) (Nat.zero_le _) (wr_zero (hC.own 1 _ _ _ rfl).1) (CellsAt.range (hp_row (n := 8) rfl w1 hC))).mono fun e1 w9 h => ?_)
  obtain ⟨v, rfl, hm, hW⟩ := h
  have gg9 : Gt w9 := gt_low.same w1 w9 (fun k hk => absurd hk (Nat.not_lt_zero k)) (hGF.g _ _ _ hC)
  have hr9 : Grow w w9 := hm.grow0 (hp_below hC) (fun k hk => hk ▸ (hC.own 1 _ _ _ rfl).2.elim id False.elim)
  have hnb : w.heap.size ≤ b1 := (hC.own 1 _ _ _ rfl).2.elim id False.elim
  refine ⟨_, Hp (pl w9) [], rfl, good_hp (gt_low.plain gg9), hp_refl (pl w9) trivial rides_true, ?_⟩
  have hGF := gt_low.plain gg9
  clear hC hm
  refine lx_nil ?_
  refine xs_plain (E := EE [15, 10, 17, 19, 25, 20, 31]) ?_
  refine lx_callW gt_low (M := (fun k => k = b1)) (fun k h => Nat.zero_le _) rfl rfl ent10 rfl rfl hGF (Q := fun w1 w2 v => WrB w2 b1 exB) (fun w1 h1 g1 => by have := wuB b1 _ 258#64 (by decide) w1 g1 (Nat.zero_le _) (hW.grow h1); rw [ex_all] at this; exact this) (fun w10a w10 v hg10 hm10 gg10 hq => ?_)
  have hGF := gt_low.plain gg10
  have hr10 : Grow w w10 := hm10.grow0 (hr9.trans hg10) (fun k hk => hk ▸ hnb)
  have hW := hq
  refine lx_nil ?_
  refine xs_plain (E := EE [15, 10, 17, 19, 25, 20, 31]) ?_
  refine lx_callW gt_low (M := fun _ => False) (fun k h => h.elim) rfl rfl ent17 rfl rfl hGF (Q := fun w1 w2 v => Fr8 w1 w2 v exB) (fun w1 h1 g1 => walB b1 exB (by decide) w1 g1 (hW.grow h1)) (fun w11a w11 v hg11 hm11 gg11 hq => ?_)
  have hGF := gt_low.plain gg11
  have hr11 := hg11.trans (hm11.grow (fun _ _ h => h))
  obtain ⟨a1, c1, rfl, hs1, _⟩ := hq
  refine lx_callW gt_low (M := fun _ => False) (fun k h => h.elim) rfl rfl ent19 rfl rfl hGF (Q := fun w1 w2 v => ∃ b, v = .pointer (some ⟨b, 0, none⟩) ∧ w1.heap.size ≤ b ∧ RdAt 67 (fun k => w1.heap.size ≤ k ∧ k < w2.heap.size) w2 b exB 0) (fun w1 h1 g1 => nrB exB a1 _ c1 rfl (by decide) w1 g1 (hs1.grow h1).bytes) (fun w12a w12 v hg12 hm12 gg12 hq => ?_)
  have hGF := gt_low.plain gg12
  have hr12 := hg12.trans (hm12.grow (fun _ _ h => h))
  obtain ⟨br, rfl, hbr, hrd⟩ := hq
  have hrd0 := hrd.lt
  refine lx_assign rfl rfl rfl ?_
  refine lx_nil ?_
  refine x_seq ?_
  refine xs_plain (E := EE [15, 10, 17, 19, 25, 20, 31]) ?_
  refine lx_move rfl rfl rfl ?_
  refine lx_bin rfl rfl (fun _ => rfl) (fun w' => bin_eq_pn Try.underlying41 _ w') rfl rfl ?_
  refine lx_nil ?_
  refine x_false rfl ?_
  refine x_skip ?_
  refine xs_plain (E := EE [15, 10, 17, 19, 25, 20, 31]) ?_
  refine lx_move rfl rfl rfl ?_
  refine lx_callW gt_low (M := (fun k => k = br)) (fun k h => Nat.zero_le _) rfl rfl ent25 rfl rfl hGF (Q := fun w1 w2 v => FrB w1 w2 v [true, false, true] ∧ RdAt 67 (fun k => w12a.heap.size ≤ k ∧ k < w12.heap.size) w2 br [2#8, 1#8, 0#8, 0#8, 0#8, 0#8, 0#8, 0#8] 0) (fun w1 h1 g1 => by have := rt_calls _ br exB 0 3 (by decide) (by decide) w1 g1 (Nat.zero_le _) (hrd.grow h1); rw [show (3 : Int).toNat = 3 from rfl, ex_bits.1, ex_bits.2.1, ex_bits.2.2] at this; exact this) (fun w16a w16 v hg16 hm16 gg16 hq => ?_)
  have hGF := gt_low.plain gg16
  have hr16 : Grow w12a w16 := hm16.grow0 ((hm12.grow (fun _ _ h => h)).trans hg16) (fun k hk => hk ▸ hbr)
  obtain ⟨⟨a3, c3, rfl, hs3, hn3⟩, hrd⟩ := hq
  refine lx_move rfl rfl rfl ?_
  refine lx_callW gt_low (M := (fun k => k = br)) (fun k h => Nat.zero_le _) rfl rfl ent20 rfl rfl hGF (Q := fun w1 w2 v => v = U64 258#64 ∧ RdAt 67 (fun k => w12a.heap.size ≤ k ∧ k < w12.heap.size) w2 br [] 0) (fun w1 h1 g1 => by have := ru_calls _ br _ 0 w1 g1 (Nat.zero_le _) (hrd.grow h1); rw [ex_num.1, ex_num.2.1, ex_num.2.2] at this; exact this) (fun w18a w18 v hg18 hm18 gg18 hq => ?_)
  have hGF := gt_low.plain gg18
  have hr18 : Grow w12a w18 := hm18.grow0 (hr16.trans hg18) (fun k hk => hk ▸ hbr)
  obtain ⟨rfl, hrd⟩ := hq
  have hs3 := (hs3.grow hg18).mm hm18 (fun ad e h => by have := hn3 ad e; have := hg16.size; omega)
  obtain ⟨q3, rfl, _, hq3⟩ := hs3.at (by simp)
  refine lx_move rfl rfl rfl ?_
  refine lx_callC rfl rfl ent28 (fun w1 hC hG => en_calls w1 hG (hrd.grow (hp_below hC))) rfl rfl ?_
  rw [show endE [] 0 = 0 from rfl]
  refine lx_assign rfl rfl rfl ?_
  refine lx_assign rfl rfl rfl ?_
  refine lx_assign rfl rfl rfl ?_
  refine lx_nil ?_
  refine xs_plain (E := EE [15, 10, 17, 19, 25, 20, 31]) ?_
  refine lx_bsl 21 [8#8] hGF rfl rfl rfl (by decide) (by decide) Try.underlying28 Try.sizeOf5 Try.zeroValue5 rfl rfl ?_
  intro b21
  refine lx_callE rfl rfl ent19 rfl rfl (fun w1 hC => (nrB [8#8] (some ⟨b21, 0, none⟩) 1 1 rfl (by decide) w1 (hGF.g _ _ _ hC) (BytesAt.range (hp_row (n := 21) rfl w1 hC))).mono fun e1 w22 h => ?_)
  obtain ⟨v, rfl, hm, b2, rfl, hb2, hrd2⟩ := h
  have gg22 : Gt w22 := gt_low.grow (hGF.g _ _ _ hC) (hm.grow (fun _ _ h => h))
  have hr22 : Grow w18 w22 := (hp_below hC).trans (hm.grow (fun _ _ h => h))
  have hb3 : w18.heap.size ≤ b2 := Nat.le_trans (hp_below hC).size hb2
  refine ⟨_, Hp (pl w22) [], rfl, good_hp (gt_low.plain gg22), hp_refl (pl w22) trivial rides_true, ?_⟩
  have hGF := gt_low.plain gg22
  clear hC hm
  refine lx_assign rfl rfl rfl ?_
  refine lx_nil ?_
  refine xs_plain (E := EE [15, 10, 17, 19, 25, 20, 31]) ?_
  refine lx_move rfl rfl rfl ?_
  refine lx_callW gt_low (M := (fun k => k = b2)) (fun k h => Nat.zero_le _) rfl rfl ent25 rfl rfl hGF (Q := fun w1 w2 v => FrB w1 w2 v [] ∧ ∃ S, RdAt 67 S w2 b2 [8#8] 171) (fun w1 h1 g1 => by have := rt_calls _ b2 _ 0 3 (by decide) (by decide) w1 g1 (Nat.zero_le _) (hrd2.grow h1); rw [show (3 : Int).toNat = 3 from rfl, ex_bad.1, ex_bad.2.1, ex_bad.2.2] at this; exact this.mono fun e w' ⟨v, q1, q2, q3, q4⟩ => ⟨v, q1, q2, q3, _, q4⟩) (fun w24a w24 v hg24 hm24 gg24 hq => ?_)
  have hGF := gt_low.plain gg24
  have hr24 : Grow w18 w24 := hm24.grow0 (hr22.trans hg24) (fun k hk => hk ▸ hb3)
  obtain ⟨⟨a4, c4, rfl, hs4, hn4⟩, S4, hrd4⟩ := hq
  have hA : Grow w10 w24 := (hr11.trans (hg12.trans hr18)).trans hr24
  have hZ : Grow w w24 := hr10.trans hA
  refine lx_assign rfl rfl rfl ?_
  refine lx_nil ?_
  refine xs_plain (E := EE [15, 10, 17, 19, 25, 20, 31]) ?_
  refine lx_callW gt_low (M := fun _ => False) (fun k h => h.elim) rfl rfl ent17 rfl rfl hGF (Q := fun w1 w2 v => Fr8 w1 w2 v exB) (fun w1 h1 g1 => walB b1 exB (by decide) w1 g1 ((hW.grow hA).grow h1)) (fun w25a w25 v hg25 hm25 gg25 hq => ?_)
  have hGF := gt_low.plain gg25
  have hr25 := hg25.trans (hm25.grow (fun _ _ h => h))
  obtain ⟨a5, c5, rfl, hs5, _⟩ := hq
  refine lx_bsl 26 exB hGF rfl rfl rfl (by decide) (by decide) Try.underlying28 Try.sizeOf5 Try.zeroValue5 rfl rfl ?_
  intro b26
  refine lx_callC rfl rfl ent18 (fun w1 hC hG => byt_calls exB a5 9 c5 (some ⟨b26, 0, none⟩) 9 9 rfl rfl w1 hG (hs5.grow (hp_below hC)).bytes (BytesAt.range (hp_row (n := 26) rfl w1 hC))) rfl rfl ?_
  refine lx_move rfl rfl rfl ?_
  refine lx_move rfl rfl rfl ?_
  refine lx_len rfl (fun _ => len_slice Try.underlying30 _ _ _ _) rfl rfl ?_
  refine lx_binB true rfl rfl (fun _ => rfl) (fun _ => bin_eql_i _ _ _) (by decide) rfl rfl ?_
  refine lx_pick rfl rfl rfl rfl rfl ?_
  refine lx_move rfl rfl rfl ?_
  refine lx_move rfl rfl rfl ?_
  refine lx_is0 2 rfl rfl Try.underlying30 Try.sizeOf4 rfl (by decide) rfl rfl ?_
  refine lx_load rfl Try.isAgg4 (v := .bool true) (fun w' h => (range_up hq3 (hr24.trans (hr25.trans (hp_below h)))) 2 _ rfl) rfl rfl ?_
  refine lx_pick rfl rfl rfl rfl rfl ?_
  refine lx_move rfl rfl rfl ?_
  refine lx_move rfl rfl rfl ?_
  refine lx_binB true rfl rfl (fun _ => rfl) (fun _ => bin_eql_u64 _ _ _) (by decide) rfl rfl ?_
  refine lx_pick rfl rfl rfl rfl rfl ?_
  refine lx_move rfl rfl rfl ?_
  refine lx_move rfl rfl rfl ?_
  refine lx_binB true rfl rfl (fun _ => rfl) (fun _ => bin_eql_i _ _ _) (by decide) rfl rfl ?_
  refine lx_pick rfl rfl rfl rfl rfl ?_
  refine lx_move rfl rfl rfl ?_
  refine lx_move rfl rfl rfl ?_
  refine lx_len rfl (fun _ => len_slice Try.underlying30 _ _ _ _) rfl rfl ?_
  refine lx_binB true rfl rfl (fun _ => rfl) (fun _ => bin_eql_i _ _ _) (by decide) rfl rfl ?_
  refine lx_pick rfl rfl rfl rfl rfl ?_
  refine lx_move rfl rfl rfl ?_
  refine lx_move rfl rfl rfl ?_
  refine lx_callC rfl rfl ent27 (fun w1 hC hG => er_calls w1 hG (hrd4.grow (hr25.trans (hp_below hC)))) rfl rfl ?_
  refine lx_binB true rfl rfl (fun _ => rfl) (fun _ => bin_eql_i _ _ _) (by decide) rfl rfl ?_
  refine lx_pick rfl rfl rfl rfl rfl ?_
  refine lx_move rfl rfl rfl ?_
  refine lx_mkslC (l := 33) (m := 33) (c := (List.replicate (33) 0#8).map U8) 57 hGF rfl rfl (Nat.le_refl _) Try.underlying28 ti5 ⟨by omega, by omega, by omega⟩ (by rw [Nat.mul_one]; exact made8 _) rfl rfl ?_
  intro b57
  refine lx_callE rfl rfl ent31 rfl rfl (fun w1 hC => (pck_calls (List.replicate 33 0#8) (some ⟨b57, 0, none⟩) 33 (by decide) (by decide) w1 (hGF.g _ _ _ hC) (BytesAt.range (hp_row (n := 57) rfl w1 hC))).mono fun e1 w58 h => ?_)
  obtain ⟨_, rfl, hg, a6, c6, rfl, _, _⟩ := h
  have gg58 : Gt w58 := gt_low.grow (hGF.g _ _ _ hC) hg
  have hr58 : Grow w25 w58 := (hp_below hC).trans hg
  refine ⟨_, Hp (pl w58) [], rfl, good_hp (gt_low.plain gg58), hp_refl (pl w58) trivial rides_true, ?_⟩
  have hGF := gt_low.plain gg58
  clear hC
  refine lx_len rfl (fun _ => len_slice Try.underlying57 _ _ _ _) rfl rfl ?_
  refine lx_binB true rfl rfl (fun _ => rfl) (fun _ => bin_eql_i _ _ _) (by decide) rfl rfl ?_
  refine lx_pick rfl rfl rfl rfl rfl ?_
  refine lx_move rfl rfl rfl ?_
  refine lx_callC rfl rfl ent33 (fun w1 hC hG => chn_calls 1#64 w1 hG) rfl rfl ?_
  refine lx_idxm U8 0#8 0 rfl rfl Try.underlying59 Try.sizeOf5 Try.isAgg5 (by omega) (by omega) (by decide +kernel) rfl rfl ?_
  refine lx_binB true rfl rfl (fun _ => rfl) (fun _ => bin_eql_u8 _ _ _) (by decide +kernel) rfl rfl ?_
  refine lx_pick rfl rfl rfl rfl rfl ?_
  refine lx_assign rfl rfl rfl ?_
  refine lx_nil ?_
  refine x_ret ?_
  repeat (first | refine kseq_ret ?_ | refine kblk_ret ?_)
  exact kret_tmp rfl rfl (fun w' hw' => ⟨rfl, hZ.trans (hr25.trans (hr58.trans (hp_below hw')))⟩)
end Go.Proofs.Ytjifjpcgdkepkaa
