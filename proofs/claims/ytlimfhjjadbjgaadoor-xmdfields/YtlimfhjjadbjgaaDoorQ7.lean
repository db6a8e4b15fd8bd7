/-
  The program's sums, by pieces.
  The program's Expand.
  The program's Fields.
-/
import Derived.Test.YtlimfhjjadbjgaaDoorQ6
import Derived.Test.YtlimfhjjadbjgaaDoorX2
import Derived.Test.YtlimfhjjadbjgaaDoorX3
namespace Go.Proofs.YtlimfhjjadbjgaaDoor
open Go.RowKit
set_option maxRecDepth 100000
set_option maxHeartbeats 1000000

theorem ent29 : Enters Tryd.prog 29 := fun _ _ => by kernel_rfl
theorem ent17 : Enters Tryd.prog 17 := fun _ _ => by kernel_rfl
theorem ent16 : Enters Tryd.prog 16 := fun _ _ => by kernel_rfl
theorem ent18 : Enters Tryd.prog 18 := fun _ _ => by kernel_rfl
namespace Xm
attribute [local simp] Sh.SHA_len B0_len F_len R_len Xk_len O_len Sh.MK_len D_len

theorem zvH (w : World) : (zeroValue 76).run Tryd.prog w = .ok (.agg (Sh.hc (List.replicate 8 0#32) (List.replicate 64 0#8) 0).toArray) w := (Tryd.zeroValue76 w).trans (by rfl)
theorem wr_len (T bs : List (BitVec 8)) (bh : Nat) (st : List (BitVec 32)) (rs : List (BitVec 8)) (n : BitVec 64) (hi : Sh.HInv T st rs n) (a : Option Addr) (len cap : Nat) (hlen : bs.length = len) (hcap : len ≤ cap) (hT : T.length + len < 9223372036854775808) (w : World) (hw : Gt w) (ho : OwnB w bh (Sh.hc st rs n) 76) (hbh : 3 ≤ bh) (hby : BytesAt w a bs) (hne : bs ≠ [] → ∀ ad, a = some ad → ad.block ≠ bh) :
    Calls Tryd.prog 27 [.pointer (some ⟨bh, 0, none⟩), .slice a len cap].toArray w (fun e w' => e = .returned (.tuple #[]) ∧ Mod bh w w' ∧ ∃ st' rs' n', Sh.HInv (T ++ bs) st' rs' n' ∧ OwnB w' bh (Sh.hc st' rs' n') 76) := by
  subst hlen; exact Sh.write_calls T bs bh st rs n hi (by rw [List.length_append]; exact hT) a cap hcap w hw ho hbh hby hne
/-- A piece: where it lies, what it is. -/
structure Pc where
  (a : Option Addr) (len cap : Nat) (bs : List (BitVec 8))
def Pc.v (p : Pc) : Value := .slice p.a p.len p.cap
structure PcAt (w : World) (p : Pc) : Prop where
  hl : p.bs.length = p.len
  hc : p.len ≤ p.cap
  hb : BytesAt w p.a p.bs
structure PsAt (w : World) (a : Option Addr) (ps : List Pc) : Prop where
  cells : CellsAt w a (ps.map Pc.v)
  all : ∀ p, p ∈ ps → PcAt w p
/-- The pieces behind one another, so far. -/
def cat (ps : List Pc) (k : Nat) : List (BitVec 8) := ((ps.take k).map Pc.bs).flatten
theorem cat_s {ps : List Pc} {k : Nat} {p : Pc} (h : ps[k]? = some p) : cat ps (k + 1) = cat ps k ++ p.bs := by
  rw [cat, List.take_add_one, h, List.map_append, List.flatten_append]
  simp [cat]
theorem cat_le (ps : List Pc) : ∀ (m k : Nat), (cat ps k).length ≤ (cat ps (k + m)).length
  | 0, _ => Nat.le_refl _
  | m + 1, k => by
    refine Nat.le_trans (cat_le ps m k) ?_
    cases h : ps[k + m]? with
    | some p => rw [← Nat.add_assoc, cat_s h, List.length_append]; omega
    | none =>
      have : ps.length ≤ k + m := List.getElem?_eq_none_iff.1 h
      rw [cat, cat, List.take_of_length_le this, List.take_of_length_le (by omega)]
      exact Nat.le_refl _
theorem cat_all (ps : List Pc) {k : Nat} (h : k ≤ ps.length) : (cat ps k).length ≤ (cat ps ps.length).length := by
  have := cat_le ps (ps.length - k) k
  rwa [Nat.add_sub_cancel' h] at this
structure LsV (ps : List Pc) where
  (k : Nat) (st : List (BitVec 32)) (rs : List (BitVec 8)) (n : BitVec 64)
  hk : k ≤ ps.length
  hi : Sh.HInv (cat ps k) st rs n
theorem psum (a : Option Addr) (cap : Nat) (ps : List Pc) (hlen : ps.length ≤ 1000) (hl : (cat ps ps.length).length ≤ 1000000) (w : World) (hw : Gt w) (hr : PsAt w a ps) : Calls Tryd.prog 17 [.slice a ps.length cap].toArray w (fun e w' => e = .returned (.agg ((Sh.SHA (cat ps ps.length)).map U8).toArray) ∧ Grow w w') := by
  have hGF : BOk Gt (pl w) := gt_low.plain hw
  refine calls_of_X (G := Gt) Tryd.func17 rfl rfl (Hp (pl w) []) (hp_refl (pl w) trivial rides_true) (good_hp hGF) ?_
  refine xs_plain (E := EE [27]) ?_
  refine lx_allocr 2 hGF zv55 rfl rfl ?_
  intro b2
  refine lx_nil ?_
  refine xs_plain (E := EE [27]) ?_
  refine lx_allocr 3 hGF zvH rfl rfl ?_
  intro b3
  refine lx_nil ?_
  refine x_seq ?_
  refine xs_plain (E := EE [27]) ?_
  refine lx_move rfl rfl rfl ?_
  refine lx_len rfl (fun _ => len_slice Tryd.underlying73 _ _ _ _) rfl rfl ?_
  refine lx_move rfl rfl rfl ?_
  refine lx_nil ?_
  refine x_block ?_
  refine x_for (ι := LsV ps) (fun z => [(6, .slice a ps.length cap), (7, I (ps.length : Int)), (8, I (z.k : Int)), (2, .pointer (some ⟨b2, 0, none⟩)), (3, .pointer (some ⟨b3, 0, none⟩))]) (fun z => [(2, b2, (List.replicate 32 0#8).map U8, 55), (3, b3, Sh.hc z.st z.rs z.n, 76)]) (fun z => ps.length - z.k) ⟨0, _, _, _, Nat.zero_le _, Sh.HInv.zero⟩ hGF ⟨rfl, rfl, rfl, rfl, rfl, trivial⟩ ⟨rfl, rfl, trivial⟩ ?_
  rintro ⟨k, st, rs, n, hk, hi⟩
  dsimp only
  refine xs_plain (E := EE [27]) ?_
  refine lx_bin rfl rfl (fun _ => rfl) (fun _ => bin_lss_i _ _ _) rfl rfl ?_
  refine lx_nil ?_
  refine x_seq ?_
  refine x_if rfl (fun hc => ?_) (fun hc => ?_)
  · have hlt : k < ps.length := by simp at hc; omega
    clear hc
    obtain ⟨p, hp⟩ : ∃ p, ps[k]? = some p := ⟨_, List.getElem?_eq_getElem hlt⟩
    obtain ⟨ad, rfl, hcell⟩ := hr.cells k p.v (by rw [List.getElem?_map, hp]; rfl)
    have hpa := hr.all p (List.mem_of_getElem? hp)
    have hsz : (cat ps k).length + p.len < 9223372036854775808 := by
      have h1 := cat_all ps (k := k + 1) hlt
      rw [cat_s hp, List.length_append, hpa.hl] at h1
      omega
    refine x_skip ?_
    refine x_seq ?_
    refine x_block ?_
    refine xs_plain (E := EE [27]) ?_
    refine lx_isA k rfl rfl Tryd.underlying73 Tryd.sizeOf22 rfl hlt rfl rfl ?_
    refine lx_load rfl Tryd.isAgg22 (fun w' h => ((hp_below h).cell (block_lt_of_cell hcell)).trans hcell) rfl rfl ?_
    refine lx_assign rfl rfl rfl ?_
    refine lx_nil ?_
    refine x_plain (E := EE [27]) ?_
    refine lx_move rfl rfl rfl ?_
    refine lx_callE rfl rfl ent27 rfl rfl (fun w' hC => (wr_len (cat ps k) (p.bs) b3 st rs n hi _ _ _ (hpa.hl) hpa.hc hsz w' (hGF.g _ _ _ hC) (hC.own 3 _ _ _ rfl).1 (Nat.le_trans (gt_low.size w hw) ((hC.own 3 _ _ _ rfl).2.elim id False.elim)) (hpa.hb.grow (hp_below hC)) (fun h ad e => Nat.ne_of_lt (Nat.lt_of_lt_of_le (hpa.hb.lt h ad e) ((hC.own 3 _ _ _ rfl).2.elim id False.elim)))).mono fun e w'' h => ?_)
    obtain ⟨rfl, hm, st1, rs1, n1, hi1, ho⟩ := h
    refine ⟨_, _, rfl, good_hp hGF, hC.mod hGF.r (n := 3) rfl hm ho, ?_⟩
    clear hC hm ho
    refine lx_nil ?_
    refine x_plain (E := EE [27]) ?_
    refine lx_bin (v := I ((k + 1 : Nat) : Int)) rfl rfl (fun _ => rfl) (fun _ => (bin_add_i _ _ _ (by unfold inI; omega)).trans (by rfl)) rfl rfl ?_
    refine lx_move rfl rfl rfl ?_
    refine lx_nil ?_
    repeat (refine kblk_n ?_)
    refine kseq_n ?_
    exact ⟨rfl, ⟨k + 1, st1, rs1, n1, hlt, (cat_s hp).symm ▸ hi1⟩, _, by show ps.length - (k + 1) < ps.length - k; omega, rfl, ⟨rfl, rfl, rfl, rfl, rfl, trivial⟩, ⟨rfl, rfl, trivial⟩⟩
  · have hke : k = ps.length := by simp at hc; omega
    clear hc
    refine x_exit ?_
    refine xs_plain (E := EE [27]) ?_
    refine lx_callC rfl rfl ent28 (fun w' hC hG => Sh.hsum_calls (cat ps k) b3 st rs n hi w' hG (hC.own 3 _ _ _ rfl).1) rfl rfl ?_
    refine lx_storea 2 hGF rfl rfl rfl Tryd.sizeOf55 (by simp) (by simp) (one_u8 _) rfl ?_
    refine lx_nil ?_
    refine x_ret ?_
    repeat (first | refine kseq_ret ?_ | refine kblk_ret ?_)
    exact kret_own 2 rfl rfl rfl Tryd.isAgg55 Tryd.sizeOf55 (by simp) (fun w hw => ⟨by rw [← hke], hp_below hw⟩)
theorem psum3 (b : Nat) (a1 : Option Addr) (l1 c1 : Nat) (x1 : List (BitVec 8)) (a2 : Option Addr) (l2 c2 : Nat) (x2 : List (BitVec 8)) (a3 : Option Addr) (l3 c3 : Nat) (x3 : List (BitVec 8)) (w : World) (hw : Gt w) (hr : w.rangeAt b 0 [.slice a1 l1 c1, .slice a2 l2 c2, .slice a3 l3 c3]) (e1 : x1.length = l1) (h1 : l1 ≤ c1) (b1 : BytesAt w a1 x1) (e2 : x2.length = l2) (h2 : l2 ≤ c2) (b2 : BytesAt w a2 x2) (e3 : x3.length = l3) (h3 : l3 ≤ c3) (b3 : BytesAt w a3 x3) (hl : l1 + l2 + l3 ≤ 1000000) : Calls Tryd.prog 17 [.slice (some ⟨b, 0, none⟩) 3 3].toArray w (fun e w' => e = .returned (.agg ((Sh.SHA ((x1 ++ x2) ++ x3)).map U8).toArray) ∧ Grow w w') := by
  have e : cat [⟨a1, l1, c1, x1⟩, ⟨a2, l2, c2, x2⟩, ⟨a3, l3, c3, x3⟩] 3 = (x1 ++ x2) ++ x3 := by simp [cat]
  have h := psum (some ⟨b, 0, none⟩) 3 [⟨a1, l1, c1, x1⟩, ⟨a2, l2, c2, x2⟩, ⟨a3, l3, c3, x3⟩] (by simp) (by show (cat [⟨a1, l1, c1, x1⟩, ⟨a2, l2, c2, x2⟩, ⟨a3, l3, c3, x3⟩] 3).length ≤ _; rw [e]; simp only [List.length_append]; omega) w hw ⟨CellsAt.range hr, fun p hp => by
    simp only [List.mem_cons, List.not_mem_nil, or_false] at hp
    rcases hp with rfl | rfl | rfl
    · exact ⟨e1, h1, b1⟩
    · exact ⟨e2, h2, b2⟩
    · exact ⟨e3, h3, b3⟩⟩
  rw [← e]
  exact h
theorem psum4 (b : Nat) (a1 : Option Addr) (l1 c1 : Nat) (x1 : List (BitVec 8)) (a2 : Option Addr) (l2 c2 : Nat) (x2 : List (BitVec 8)) (a3 : Option Addr) (l3 c3 : Nat) (x3 : List (BitVec 8)) (a4 : Option Addr) (l4 c4 : Nat) (x4 : List (BitVec 8)) (w : World) (hw : Gt w) (hr : w.rangeAt b 0 [.slice a1 l1 c1, .slice a2 l2 c2, .slice a3 l3 c3, .slice a4 l4 c4]) (e1 : x1.length = l1) (h1 : l1 ≤ c1) (b1 : BytesAt w a1 x1) (e2 : x2.length = l2) (h2 : l2 ≤ c2) (b2 : BytesAt w a2 x2) (e3 : x3.length = l3) (h3 : l3 ≤ c3) (b3 : BytesAt w a3 x3) (e4 : x4.length = l4) (h4 : l4 ≤ c4) (b4 : BytesAt w a4 x4) (hl : l1 + l2 + l3 + l4 ≤ 1000000) : Calls Tryd.prog 17 [.slice (some ⟨b, 0, none⟩) 4 4].toArray w (fun e w' => e = .returned (.agg ((Sh.SHA (((x1 ++ x2) ++ x3) ++ x4)).map U8).toArray) ∧ Grow w w') := by
  have e : cat [⟨a1, l1, c1, x1⟩, ⟨a2, l2, c2, x2⟩, ⟨a3, l3, c3, x3⟩, ⟨a4, l4, c4, x4⟩] 4 = ((x1 ++ x2) ++ x3) ++ x4 := by simp [cat]
  have h := psum (some ⟨b, 0, none⟩) 4 [⟨a1, l1, c1, x1⟩, ⟨a2, l2, c2, x2⟩, ⟨a3, l3, c3, x3⟩, ⟨a4, l4, c4, x4⟩] (by simp) (by show (cat [⟨a1, l1, c1, x1⟩, ⟨a2, l2, c2, x2⟩, ⟨a3, l3, c3, x3⟩, ⟨a4, l4, c4, x4⟩] 4).length ≤ _; rw [e]; simp only [List.length_append]; omega) w hw ⟨CellsAt.range hr, fun p hp => by
    simp only [List.mem_cons, List.not_mem_nil, or_false] at hp
    rcases hp with rfl | rfl | rfl | rfl
    · exact ⟨e1, h1, b1⟩
    · exact ⟨e2, h2, b2⟩
    · exact ⟨e3, h3, b3⟩
    · exact ⟨e4, h4, b4⟩⟩
  rw [← e]
  exact h
theorem adr0 (a : Option Addr) (m : Nat) : (if m = 0 then a else a.map (·.add (0 * 1))) = a := by
  cases a with
  | none => simp
  | some ad => simp [Addr.add]
/-- What tagOf hands back. -/
def TgV (dst : List (BitVec 8)) (w : World) (v : Value) : Prop := ∃ a cap, v = .slice a (D dst).length cap ∧ BytesAt w a (D dst) ∧ (D dst).length ≤ cap
theorem ptag (a : Option Addr) (cap : Nat) (dst : List (BitVec 8)) (hc : dst.length ≤ cap) (hl : dst.length ≤ 100000) (w : World) (hw : Gt w) (hb : BytesAt w a dst) : Calls Tryd.prog 16 [.slice a dst.length cap].toArray w (fun e w' => ∃ v, e = .returned v ∧ Grow w w' ∧ TgV dst w' v) := by
  have hGF : BOk Gt (pl w) := gt_low.plain hw
  refine calls_of_X (G := Gt) Tryd.func16 rfl rfl (Hp (pl w) []) (hp_refl (pl w) trivial rides_true) (good_hp hGF) ?_
  refine xs_plain (E := EE []) ?_
  refine lx_assign rfl rfl rfl ?_
  refine lx_nil ?_
  refine xs_plain (E := EE []) ?_
  refine lx_move rfl rfl rfl ?_
  refine lx_move rfl rfl rfl ?_
  refine lx_len rfl (fun _ => len_slice Tryd.underlying22 _ _ _ _) rfl rfl ?_
  refine lx_move rfl rfl rfl ?_
  refine lx_len rfl (fun _ => len_slice Tryd.underlying22 _ _ _ _) rfl rfl ?_
  refine lx_slsl3 (l := 0) (h' := dst.length) (m := dst.length) rfl Tryd.underlying22 Tryd.sizeOf5 rfl rfl rfl ⟨Nat.zero_le _, Nat.le_refl _, hc⟩ rfl rfl ?_
  rw [adr0, Nat.sub_zero]
  refine lx_move rfl rfl rfl ?_
  refine lx_len rfl (fun _ => len_slice Tryd.underlying22 _ _ _ _) rfl rfl ?_
  refine lx_conv rfl rfl (fun _ => conv_i_u8 Tryd.underlying3 Tryd.underlying5 _) rfl rfl ?_
  refine lx_bsl 12 [BitVec.ofInt 8 (dst.length : Int)] hGF rfl rfl rfl (by decide) (by decide) Tryd.underlying22 Tryd.sizeOf5 Tryd.zeroValue5 rfl rfl ?_
  intro b12
  refine lx_appendF (xs := dst) (ys := [BitVec.ofInt 8 (dst.length : Int)]) 13 hGF rfl rfl Tryd.underlying22 Tryd.underlying22 ti5 (fun w' h => hb.grow (hp_below h)) (fun w' h => BytesAt.range (hp_row (n := 12) rfl w' h)) (by simp; omega) (by simp) rfl rfl (fun b13 c13 cap13 e13 l13 t13 => ?_)
  subst e13
  refine lx_assign rfl rfl rfl ?_
  refine lx_nil ?_
  refine x_ret ?_
  repeat (first | refine kseq_ret ?_ | refine kblk_ret ?_)
  exact kret_tmp rfl rfl (fun w hw => ⟨_, rfl, hp_below hw, _, _, rfl, bk_at (hw.own 13 b13 _ _ rfl).1.range t13, l13⟩)
theorem getD_set (l : List (BitVec 8)) (i j : Nat) (v : BitVec 8) : (l.set i v).getD j 0 = if i = j ∧ j < l.length then v else l.getD j 0 := by
  simp only [List.getD_eq_getElem?_getD, List.getElem?_set]
  by_cases h : i = j
  · subst h
    by_cases h2 : i < l.length
    · simp [h2]
    · simp [h2]
  · simp [h]
theorem R_late (b l : List (BitVec 8)) : ∀ (j i : Nat), j ≤ i → (R b l j).getD i 0 = b.getD i 0
  | 0, _, _ => rfl
  | j + 1, i, h => by rw [R, getD_set, if_neg (by omega), R_late b l j i (by omega)]
/-- In one place's stead. -/
theorem R_step (b l : List (BitVec 8)) (j : Nat) : (R b l j).set j ((R b l j).getD j 0 ^^^ l.getD j 0) = R b l (j + 1) := by rw [R, R_late b l j j (Nat.le_refl _)]
theorem set_same (l : List (BitVec 8)) (j : Nat) : l.set j (l.getD j 0) = l := by
  refine List.ext_getElem? fun i => ?_
  rw [List.getElem?_set]
  by_cases h : j = i
  · subst h
    by_cases h2 : j < l.length
    · simp [h2]
    · simp [h2]
  · simp [h]
theorem R_none (b : List (BitVec 8)) : ∀ j, R b (List.replicate 32 0#8) j = b
  | 0 => rfl
  | j + 1 => by
    rw [R, R_none b j, show (List.replicate 32 0#8).getD j 0 = 0#8 by rw [List.getD_eq_getElem?_getD, List.getElem?_replicate]; split <;> rfl, BitVec.xor_zero, set_same]
theorem X16_R (b d : List (BitVec 8)) (k : Nat) : R b (Xk b d k) 32 = X16 b (Xk b d k) k := by
  unfold X16
  split
  · next h => subst h; exact R_none b 32
  · rfl
theorem Xk_next (b d : List (BitVec 8)) (k : Nat) : Sh.SHA ((R b (Xk b d k) 32 ++ [BitVec.ofInt 8 ((k + 1 : Nat) : Int)]) ++ d) = Xk b d (k + 1) := by rw [X16_R, Xk]; rfl
attribute [local simp] R_len
theorem unl_pure (x l : List (BitVec 8)) (hx : x.length = 32) (hl : l.length = 32) : Pure Tryd.prog Gt 29 [.agg (x.map U8).toArray, .agg (l.map U8).toArray] (.agg ((R x l 32).map U8).toArray) := by
  intro w hw
  have hGF : BOk Gt (pl w) := gt_low.plain hw
  refine calls_of_X (G := Gt) Tryd.func29 rfl rfl (Hp (pl w) []) (hp_refl (pl w) trivial rides_true) (good_hp hGF) ?_
  refine xs_plain (E := EE []) ?_
  refine lx_boxr 2 hGF rfl rfl rfl ?_
  intro b2
  refine lx_boxr 3 hGF rfl rfl rfl ?_
  intro b3
  refine lx_allocr 4 hGF zv55 rfl rfl ?_
  intro b4
  refine lx_nil ?_
  refine x_seq ?_
  refine xs_plain (E := EE []) ?_
  refine lx_move rfl rfl rfl ?_
  refine lx_nil ?_
  refine x_block ?_
  refine x_for (ι := { j : Nat // j ≤ 32 }) (fun y => [(2, .pointer (some ⟨b2, 0, none⟩)), (3, .pointer (some ⟨b3, 0, none⟩)), (4, .pointer (some ⟨b4, 0, none⟩)), (6, I (y.1 : Int))]) (fun y => [(2, b2, (R x l y.1).map U8, 55), (3, b3, l.map U8, 55), (4, b4, (List.replicate 32 0#8).map U8, 55)]) (fun y => 32 - y.1) ⟨0, by omega⟩ hGF ⟨rfl, rfl, rfl, rfl, trivial⟩ ⟨rfl, rfl, rfl, trivial⟩ ?_
  rintro ⟨j, hj⟩
  dsimp only
  refine xs_plain (E := EE []) ?_
  refine lx_bin rfl rfl (fun _ => rfl) (fun _ => bin_lss_i _ _ _) rfl rfl ?_
  refine lx_nil ?_
  refine x_seq ?_
  refine x_if rfl (fun hc => ?_) (fun hc => ?_)
  · simp only [decide_eq_true_eq] at hc
    refine x_skip ?_
    refine x_seq ?_
    refine x_block ?_
    refine xs_plain (E := EE []) ?_
    refine lx_move rfl rfl rfl ?_
    refine lx_assign rfl rfl rfl ?_
    refine lx_nil ?_
    refine x_drawn (E := EE []) mixed (by kernel_rfl) (by kernel_rfl) (by kernel_rfl) ?_
    refine lx_move rfl rfl rfl ?_
    refine lx_ia0 (j) rfl rfl Tryd.underlying55 Tryd.sizeOf5 (by omega) (by omega) rfl rfl ?_
    refine lx_loadm 2 U8 0 rfl rfl Tryd.isAgg5 (by first | omega | (simp; omega)) rfl rfl ?_
    refine lx_move rfl rfl rfl ?_
    refine lx_ia0 (j) rfl rfl Tryd.underlying55 Tryd.sizeOf5 (by omega) (by omega) rfl rfl ?_
    refine lx_loadm 3 U8 0 rfl rfl Tryd.isAgg5 (by first | omega | (simp; omega)) rfl rfl ?_
    refine lx_bin rfl rfl (fun _ => rfl) (fun _ => bin_xor_u8 _ _ _) rfl rfl ?_
    refine lx_ia0 (j) rfl rfl Tryd.underlying55 Tryd.sizeOf5 (by omega) (by omega) rfl rfl ?_
    refine lx_storem 2 U8 hGF rfl rfl rfl Tryd.sizeOf5 rfl (by first | omega | (simp; omega)) rfl ?_
    refine lx_nil ?_
    refine x_plain (E := EE []) ?_
    refine lx_bin rfl rfl (fun _ => rfl) (fun _ => bin_add_i _ _ _ (by unfold inI; omega)) rfl rfl ?_
    refine lx_move rfl rfl rfl ?_
    refine lx_nil ?_
    repeat (refine kblk_n ?_)
    refine kseq_n ?_
    exact ⟨rfl, ⟨j + 1, by omega⟩, _, by show 32 - (j + 1) < 32 - j; omega, rfl, ⟨rfl, rfl, rfl, rfl, trivial⟩, ⟨by rw [← R_step]; rfl, rfl, rfl, trivial⟩⟩
  · obtain rfl : j = 32 := by simp at hc; omega
    refine x_exit ?_
    refine xs_plain (E := EE []) ?_
    refine lx_loada 2 rfl rfl Tryd.isAgg55 Tryd.sizeOf55 (by simp [hx]) rfl rfl ?_
    refine lx_storea 4 hGF rfl rfl rfl Tryd.sizeOf55 (by simp [hx]) (by simp) (one_u8 _) rfl ?_
    refine lx_nil ?_
    refine x_ret ?_
    repeat (first | refine kseq_ret ?_ | refine kblk_ret ?_)
    exact kret_own 4 rfl rfl rfl Tryd.isAgg55 Tryd.sizeOf55 (by simp [hx]) (fun w hw => ⟨rfl, hp_below hw⟩)
end Xm
end Go.Proofs.YtlimfhjjadbjgaaDoor

namespace Go.Proofs.YtlimfhjjadbjgaaDoor
open Go.RowKit
set_option maxRecDepth 100000
set_option maxHeartbeats 1000000

namespace Xm
attribute [local simp] Sh.SHA_len B0_len F_len R_len Xk_len O_len Sh.MK_len D_len
attribute [local simp] X16_len R_len

theorem zvS (w : World) : (zeroValue 22).run Tryd.prog w = .ok (.slice none 0 0) w := Tryd.zeroValue22 w
theorem quo32 (n : Nat) (hn : n ≤ 8160) (t : TypeId) (w : World) : (binOp .quo t (I ((n : Int) + 32 - 1)) (I 32)).run Tryd.prog w = .ok (I ((((n + 31) / 32) : Nat) : Int)) w := by
  have e : ((n : Int) + 32 - 1).tdiv 32 = ((((n + 31) / 32) : Nat) : Int) := by
    rw [Int.tdiv_eq_ediv_of_nonneg (by omega)]
    omega
  rw [← e]
  exact bin_quo_i t _ _ (by decide) (by rw [e]; unfold inI; omega)
/-- What stands at the loop's head. -/
structure LtV (b d : List (BitVec 8)) (m : Nat) where
  (k bb : Nat) (c : List Value) (cap : Nat)
  hk : k ≤ m
  hcap : c.length = cap
  hle : (O b d k).length ≤ cap
  ht : c.take (O b d k).length = (O b d k).map U8
/-- What stretch hands back. -/
def SrV (b d : List (BitVec 8)) (n : Nat) (w : World) (v : Value) : Prop := ∃ a, v = .slice a n n ∧ BytesAt w a ((O b d ((n + 31) / 32)).take n)
theorem pstretch (b d : List (BitVec 8)) (hb : b.length = 32) (a : Option Addr) (cap0 : Nat) (n : Nat) (hn : n ≤ 8160) (hd : d.length ≤ 1000) (hc0 : d.length ≤ cap0) (w : World) (hw : Gt w) (hby : BytesAt w a d) : Calls Tryd.prog 18 [.agg (b.map U8).toArray, .slice a d.length cap0, I (n : Int)].toArray w (fun e w' => ∃ v, e = .returned v ∧ Grow w w' ∧ SrV b d n w' v) := by
  have hGF : BOk Gt (pl w) := gt_low.plain hw
  refine calls_of_X (G := Gt) Tryd.func18 rfl rfl (Hp (pl w) []) (hp_refl (pl w) trivial rides_true) (good_hp hGF) ?_
  refine xs_plain (E := EE []) ?_
  refine lx_boxr 3 hGF rfl rfl rfl ?_
  intro b3
  refine lx_assign rfl rfl rfl ?_
  refine lx_nil ?_
  refine xs_plain (E := EE []) ?_
  refine lx_move rfl rfl rfl ?_
  refine lx_bin rfl rfl (fun _ => rfl) (fun _ => bin_add_i _ _ _ (by unfold inI; omega)) rfl rfl ?_
  refine lx_bin rfl rfl (fun _ => rfl) (fun _ => bin_sub_i _ _ _ (by unfold inI; omega)) rfl rfl ?_
  refine lx_bin (v := I ((((n + 31) / 32) : Nat) : Int)) rfl rfl (fun _ => rfl) (fun w => quo32 n hn _ w) rfl rfl ?_
  refine lx_assign rfl rfl rfl ?_
  refine lx_nil ?_
  refine xs_plain (E := EE []) ?_
  refine lx_move rfl rfl rfl ?_
  refine lx_bin (v := I ((((n + 31) / 32) * 32 : Nat) : Int)) rfl rfl (fun _ => rfl) (fun _ => (bin_mul_i _ _ _ (by unfold inI; omega)).trans (by rfl)) rfl rfl ?_
  refine lx_mkslC (l := 0) (m := ((n + 31) / 32) * 32) (c := (List.replicate (((n + 31) / 32) * 32) 0#8).map U8) 18 hGF rfl rfl (Nat.zero_le _) Tryd.underlying22 ti5 ⟨by omega, by omega, by omega⟩ (by rw [Nat.mul_one]; exact made8 _) rfl rfl ?_
  intro b18
  refine lx_assign rfl rfl rfl ?_
  refine lx_nil ?_
  refine xs_plain (E := EE []) ?_
  refine lx_allocr 9 hGF zv55 rfl rfl ?_
  intro b9
  refine lx_nil ?_
  refine x_seq ?_
  refine xs_plain (E := EE []) ?_
  refine lx_move rfl rfl rfl ?_
  refine lx_move rfl rfl rfl ?_
  refine lx_nil ?_
  refine x_block ?_
  refine x_for (ι := LtV b d ((n + 31) / 32)) (fun z => [(1, .slice a d.length cap0), (2, I (n : Int)), (3, .pointer (some ⟨b3, 0, none⟩)), (8, .slice (some ⟨z.bb, 0, none⟩) (O b d z.k).length z.cap), (9, .pointer (some ⟨b9, 0, none⟩)), (19, I (((n + 31) / 32) : Nat)), (20, I (z.k : Int))]) (fun z => [(3, b3, b.map U8, 55), (9, b9, (Xk b d z.k).map U8, 55), (18, z.bb, z.c, 5)]) (fun z => ((n + 31) / 32) - z.k) ⟨0, b18, _, ((n + 31) / 32) * 32, Nat.zero_le _, (by simp), Nat.zero_le _, rfl⟩ hGF ⟨rfl, rfl, rfl, rfl, rfl, rfl, rfl, trivial⟩ ⟨rfl, rfl, rfl, trivial⟩ ?_
  rintro ⟨k, bb, c, cap, hk, hcap, hle, ht⟩
  dsimp only
  have hx : (Xk b d k).length = 32 := Xk_len _ _ _
  refine xs_plain (E := EE []) ?_
  refine lx_bin rfl rfl (fun _ => rfl) (fun _ => bin_lss_i _ _ _) rfl rfl ?_
  refine lx_nil ?_
  refine x_seq ?_
  refine x_if rfl (fun hc => ?_) (fun hc => ?_)
  · have hlt : k < ((n + 31) / 32) := by simp at hc; omega
    clear hc
    refine x_skip ?_
    refine x_seq ?_
    refine x_block ?_
    refine xs_plain (E := EE []) ?_
    refine lx_move rfl rfl rfl ?_
    refine lx_assign rfl rfl rfl ?_
    refine lx_nil ?_
    refine xs_plain (E := EE []) ?_
    refine lx_loada 3 rfl rfl Tryd.isAgg55 Tryd.sizeOf55 (by simp [hb]) rfl rfl ?_
    refine lx_loada 9 rfl rfl Tryd.isAgg55 Tryd.sizeOf55 (by simp) rfl rfl ?_
    refine lx_call rfl rfl ent29 (unl_pure b (Xk b d k) hb (Xk_len _ _ _)) rfl rfl ?_
    refine lx_allocr 11 hGF zv55 rfl rfl ?_
    intro b11
    refine lx_storea 11 hGF rfl rfl rfl Tryd.sizeOf55 (by simp [hb]) (by simp) (one_u8 _) rfl ?_
    refine lx_nil ?_
    refine xs_plain (E := EE []) ?_
    refine lx_slarr1 (l := 0) (h' := 32) rfl Tryd.underlying55 Tryd.sizeOf5 rfl rfl (by omega) (by omega) rfl rfl ?_
    refine lx_move rfl rfl rfl ?_
    refine lx_bin (v := I ((k + 1 : Nat) : Int)) rfl rfl (fun _ => rfl) (fun _ => (bin_add_i _ _ _ (by unfold inI; omega)).trans (by rfl)) rfl rfl ?_
    refine lx_conv rfl rfl (fun _ => conv_i_u8 Tryd.underlying3 Tryd.underlying5 _) rfl rfl ?_
    refine lx_bsl 30 [BitVec.ofInt 8 ((k + 1 : Nat) : Int)] hGF rfl rfl rfl (by decide) (by decide) Tryd.underlying22 Tryd.sizeOf5 Tryd.zeroValue5 rfl rfl ?_
    intro b30
    refine lx_move rfl rfl rfl ?_
    refine lx_bslV 32 [.slice (some ⟨b11, 0, none⟩) 32 32, .slice (some ⟨b30, 0, none⟩) 1 1, .slice a d.length cap0] hGF rfl rfl rfl (by decide) (by decide) Tryd.underlying73 Tryd.sizeOf22 zvS rfl rfl rfl ?_
    intro b32
    refine lx_callC rfl rfl ent17 (fun w' hC hG => psum3 b32 (some ⟨b11, 0, none⟩) 32 32 (R b (Xk b d k) 32) (some ⟨b30, 0, none⟩) 1 1 [BitVec.ofInt 8 ((k + 1 : Nat) : Int)] a d.length cap0 d w' hG (hp_row (n := 32) rfl w' hC) (by rw [R_len, hb]) (Nat.le_refl _) (BytesAt.range (hp_row (n := 11) rfl w' hC)) rfl (Nat.le_refl _) (BytesAt.range (hp_row (n := 30) rfl w' hC)) rfl hc0 (hby.grow (hp_below hC)) (by omega)) rfl rfl ?_
    rw [show Sh.SHA (((R b (Xk b d k) 32) ++ [BitVec.ofInt 8 ((k + 1 : Nat) : Int)]) ++ d) = Xk b d (k + 1) from Xk_next b d k]
    refine lx_storea 9 hGF rfl rfl rfl Tryd.sizeOf55 (by simp) (by simp) (one_u8 _) rfl ?_
    refine lx_nil ?_
    refine x_plain (E := EE []) ?_
    refine lx_move rfl rfl rfl ?_
    refine lx_slarr1 (l := 0) (h' := 32) rfl Tryd.underlying55 Tryd.sizeOf5 rfl rfl (by omega) (by omega) rfl rfl ?_
    refine lx_append (xs := O b d k) (ys := Xk b d (k + 1)) 18 hGF rfl (by rw [Xk_len]; rfl) Tryd.underlying22 Tryd.underlying22 ti5 (.inr ⟨bb, c, rfl, rfl, hcap, hle, ht⟩) (fun w' h => BytesAt.range (hp_row (n := 9) rfl w' h)) (by rw [O_len, Xk_len]; omega) rfl rfl (fun h0 => ?_) (fun b36 c36 cap36 e36 l36 t36 => ?_)
    · exact (app_ne (Xk_len _ _ _) h0).elim
    subst e36
    refine lx_assign rfl rfl rfl ?_
    refine lx_nil ?_
    refine x_plain (E := EE []) ?_
    refine lx_bin (v := I ((k + 1 : Nat) : Int)) rfl rfl (fun _ => rfl) (fun _ => (bin_add_i _ _ _ (by unfold inI; omega)).trans (by rfl)) rfl rfl ?_
    refine lx_move rfl rfl rfl ?_
    refine lx_nil ?_
    repeat (first | refine kblk_n ?_ | refine kblk_x ?_)
    refine kseq_n ?_
    exact ⟨rfl, ⟨k + 1, b36, c36, c36.length, by omega, rfl, l36, t36⟩, _, by show ((n + 31) / 32) - (k + 1) < ((n + 31) / 32) - k; omega, rfl, ⟨rfl, rfl, rfl, rfl, rfl, rfl, rfl, trivial⟩, ⟨rfl, rfl, rfl, trivial⟩⟩
  · have hke : k = ((n + 31) / 32) := by simp at hc; omega
    clear hc
    refine x_exit ?_
    refine xs_plain (E := EE []) ?_
    refine lx_move rfl rfl rfl ?_
    refine lx_move rfl rfl rfl ?_
    refine lx_move rfl rfl rfl ?_
    refine lx_slsl3 (l := 0) (h' := n) (m := n) rfl Tryd.underlying22 Tryd.sizeOf5 rfl rfl rfl ⟨Nat.zero_le _, Nat.le_refl _, by rw [O_len] at hle; omega⟩ rfl rfl ?_
    rw [adr0, Nat.sub_zero]
    refine lx_assign rfl rfl rfl ?_
    refine lx_nil ?_
    refine x_ret ?_
    repeat (first | refine kseq_ret ?_ | refine kblk_ret ?_)
    subst hke
    have e : (List.take n (O b d ((n + 31) / 32))).length = n := by rw [List.length_take, O_len]; omega
    exact kret_tmp rfl rfl (fun w hw => ⟨_, rfl, hp_below hw, _, rfl, bk_at (hw.own 18 bb _ _ rfl).1.range (by rw [e]; exact take_two ht (by rw [O_len]; omega))⟩)
theorem px_0 (a1 : Option Addr) (cap1 : Nat) (msg : List (BitVec 8)) (a2 : Option Addr) (cap2 : Nat) (dst : List (BitVec 8)) (z : Int) (h : z < 0) (w : World) (hw : Gt w) : Calls Tryd.prog 7 [.slice a1 msg.length cap1, .slice a2 dst.length cap2, I z].toArray w (fun e w' => e = .returned (.tuple #[.slice none 0 0, I 130]) ∧ Grow w w') := by
  have hGF : BOk Gt (pl w) := gt_low.plain hw
  refine calls_of_X (G := Gt) Tryd.func7 rfl rfl (Hp (pl w) []) (hp_refl (pl w) trivial rides_true) (good_hp hGF) ?_
  refine xs_plain (E := EE []) ?_
  refine lx_assign rfl rfl rfl ?_
  refine lx_assign rfl rfl rfl ?_
  refine lx_nil ?_
  refine x_seq ?_
  refine xs_plain (E := EE []) ?_
  refine lx_move rfl rfl rfl ?_
  refine lx_binB true rfl rfl (fun _ => rfl) (fun _ => bin_lss_i _ _ _) (decide_eq_true (by omega)) rfl rfl ?_
  refine lx_move rfl rfl rfl ?_
  refine lx_skip rfl rfl rfl ?_
  refine lx_skip rfl rfl rfl ?_
  refine lx_pick rfl rfl rfl rfl rfl ?_
  refine lx_move rfl rfl rfl ?_
  refine lx_skip rfl rfl rfl ?_
  refine lx_skip rfl rfl rfl ?_
  refine lx_skip rfl rfl rfl ?_
  refine lx_pick rfl rfl rfl rfl rfl ?_
  refine lx_move rfl rfl rfl ?_
  refine lx_skip rfl rfl rfl ?_
  refine lx_skip rfl rfl rfl ?_
  refine lx_skip rfl rfl rfl ?_
  refine lx_pick rfl rfl rfl rfl rfl ?_
  refine lx_nil ?_
  refine x_true rfl ?_
  refine xs_plain (E := EE []) ?_
  refine lx_assign rfl rfl rfl ?_
  refine lx_assign rfl rfl rfl ?_
  refine lx_nil ?_
  refine x_ret ?_
  repeat (first | refine kseq_ret ?_ | refine kblk_ret ?_)
  exact kret_tt rfl rfl rfl (fun w hw => ⟨rfl, hp_below hw⟩)
theorem px_1 (a1 : Option Addr) (cap1 : Nat) (msg : List (BitVec 8)) (a2 : Option Addr) (cap2 : Nat) (dst : List (BitVec 8)) (z : Int) (h : 8160 < z) (w : World) (hw : Gt w) : Calls Tryd.prog 7 [.slice a1 msg.length cap1, .slice a2 dst.length cap2, I z].toArray w (fun e w' => e = .returned (.tuple #[.slice none 0 0, I 130]) ∧ Grow w w') := by
  have hGF : BOk Gt (pl w) := gt_low.plain hw
  refine calls_of_X (G := Gt) Tryd.func7 rfl rfl (Hp (pl w) []) (hp_refl (pl w) trivial rides_true) (good_hp hGF) ?_
  refine xs_plain (E := EE []) ?_
  refine lx_assign rfl rfl rfl ?_
  refine lx_assign rfl rfl rfl ?_
  refine lx_nil ?_
  refine x_seq ?_
  refine xs_plain (E := EE []) ?_
  refine lx_move rfl rfl rfl ?_
  refine lx_binB false rfl rfl (fun _ => rfl) (fun _ => bin_lss_i _ _ _) (decide_eq_false (by omega)) rfl rfl ?_
  refine lx_move rfl rfl rfl ?_
  refine lx_move rfl rfl rfl ?_
  refine lx_binB true rfl rfl (fun _ => rfl) (fun _ => bin_gtr_i _ _ _) (decide_eq_true (by omega)) rfl rfl ?_
  refine lx_pick rfl rfl rfl rfl rfl ?_
  refine lx_move rfl rfl rfl ?_
  refine lx_skip rfl rfl rfl ?_
  refine lx_skip rfl rfl rfl ?_
  refine lx_skip rfl rfl rfl ?_
  refine lx_pick rfl rfl rfl rfl rfl ?_
  refine lx_move rfl rfl rfl ?_
  refine lx_skip rfl rfl rfl ?_
  refine lx_skip rfl rfl rfl ?_
  refine lx_skip rfl rfl rfl ?_
  refine lx_pick rfl rfl rfl rfl rfl ?_
  refine lx_nil ?_
  refine x_true rfl ?_
  refine xs_plain (E := EE []) ?_
  refine lx_assign rfl rfl rfl ?_
  refine lx_assign rfl rfl rfl ?_
  refine lx_nil ?_
  refine x_ret ?_
  repeat (first | refine kseq_ret ?_ | refine kblk_ret ?_)
  exact kret_tt rfl rfl rfl (fun w hw => ⟨rfl, hp_below hw⟩)
theorem px_2 (a1 : Option Addr) (cap1 : Nat) (msg : List (BitVec 8)) (a2 : Option Addr) (cap2 : Nat) (dst : List (BitVec 8)) (z : Int) (h0 : ¬ z < 0) (h1 : ¬ 8160 < z) (h : 255 < dst.length) (w : World) (hw : Gt w) : Calls Tryd.prog 7 [.slice a1 msg.length cap1, .slice a2 dst.length cap2, I z].toArray w (fun e w' => e = .returned (.tuple #[.slice none 0 0, I 130]) ∧ Grow w w') := by
  have hGF : BOk Gt (pl w) := gt_low.plain hw
  refine calls_of_X (G := Gt) Tryd.func7 rfl rfl (Hp (pl w) []) (hp_refl (pl w) trivial rides_true) (good_hp hGF) ?_
  refine xs_plain (E := EE []) ?_
  refine lx_assign rfl rfl rfl ?_
  refine lx_assign rfl rfl rfl ?_
  refine lx_nil ?_
  refine x_seq ?_
  refine xs_plain (E := EE []) ?_
  refine lx_move rfl rfl rfl ?_
  refine lx_binB false rfl rfl (fun _ => rfl) (fun _ => bin_lss_i _ _ _) (decide_eq_false (by omega)) rfl rfl ?_
  refine lx_move rfl rfl rfl ?_
  refine lx_move rfl rfl rfl ?_
  refine lx_binB false rfl rfl (fun _ => rfl) (fun _ => bin_gtr_i _ _ _) (decide_eq_false (by omega)) rfl rfl ?_
  refine lx_pick rfl rfl rfl rfl rfl ?_
  refine lx_move rfl rfl rfl ?_
  refine lx_move rfl rfl rfl ?_
  refine lx_len rfl (fun _ => len_slice Tryd.underlying22 _ _ _ _) rfl rfl ?_
  refine lx_binB true rfl rfl (fun _ => rfl) (fun _ => bin_gtr_i _ _ _) (decide_eq_true (by omega)) rfl rfl ?_
  refine lx_pick rfl rfl rfl rfl rfl ?_
  refine lx_move rfl rfl rfl ?_
  refine lx_skip rfl rfl rfl ?_
  refine lx_skip rfl rfl rfl ?_
  refine lx_skip rfl rfl rfl ?_
  refine lx_pick rfl rfl rfl rfl rfl ?_
  refine lx_nil ?_
  refine x_true rfl ?_
  refine xs_plain (E := EE []) ?_
  refine lx_assign rfl rfl rfl ?_
  refine lx_assign rfl rfl rfl ?_
  refine lx_nil ?_
  refine x_ret ?_
  repeat (first | refine kseq_ret ?_ | refine kblk_ret ?_)
  exact kret_tt rfl rfl rfl (fun w hw => ⟨rfl, hp_below hw⟩)
theorem px_3 (a1 : Option Addr) (cap1 : Nat) (msg : List (BitVec 8)) (a2 : Option Addr) (cap2 : Nat) (dst : List (BitVec 8)) (z : Int) (h0 : ¬ z < 0) (h1 : ¬ 8160 < z) (h2 : ¬ 255 < dst.length) (h : 65536 < msg.length) (w : World) (hw : Gt w) : Calls Tryd.prog 7 [.slice a1 msg.length cap1, .slice a2 dst.length cap2, I z].toArray w (fun e w' => e = .returned (.tuple #[.slice none 0 0, I 130]) ∧ Grow w w') := by
  have hGF : BOk Gt (pl w) := gt_low.plain hw
  refine calls_of_X (G := Gt) Tryd.func7 rfl rfl (Hp (pl w) []) (hp_refl (pl w) trivial rides_true) (good_hp hGF) ?_
  refine xs_plain (E := EE []) ?_
  refine lx_assign rfl rfl rfl ?_
  refine lx_assign rfl rfl rfl ?_
  refine lx_nil ?_
  refine x_seq ?_
  refine xs_plain (E := EE []) ?_
  refine lx_move rfl rfl rfl ?_
  refine lx_binB false rfl rfl (fun _ => rfl) (fun _ => bin_lss_i _ _ _) (decide_eq_false (by omega)) rfl rfl ?_
  refine lx_move rfl rfl rfl ?_
  refine lx_move rfl rfl rfl ?_
  refine lx_binB false rfl rfl (fun _ => rfl) (fun _ => bin_gtr_i _ _ _) (decide_eq_false (by omega)) rfl rfl ?_
  refine lx_pick rfl rfl rfl rfl rfl ?_
  refine lx_move rfl rfl rfl ?_
  refine lx_move rfl rfl rfl ?_
  refine lx_len rfl (fun _ => len_slice Tryd.underlying22 _ _ _ _) rfl rfl ?_
  refine lx_binB false rfl rfl (fun _ => rfl) (fun _ => bin_gtr_i _ _ _) (decide_eq_false (by omega)) rfl rfl ?_
  refine lx_pick rfl rfl rfl rfl rfl ?_
  refine lx_move rfl rfl rfl ?_
  refine lx_move rfl rfl rfl ?_
  refine lx_len rfl (fun _ => len_slice Tryd.underlying22 _ _ _ _) rfl rfl ?_
  refine lx_binB true rfl rfl (fun _ => rfl) (fun _ => bin_gtr_i _ _ _) (decide_eq_true (by omega)) rfl rfl ?_
  refine lx_pick rfl rfl rfl rfl rfl ?_
  refine lx_nil ?_
  refine x_true rfl ?_
  refine xs_plain (E := EE []) ?_
  refine lx_assign rfl rfl rfl ?_
  refine lx_assign rfl rfl rfl ?_
  refine lx_nil ?_
  refine x_ret ?_
  repeat (first | refine kseq_ret ?_ | refine kblk_ret ?_)
  exact kret_tt rfl rfl rfl (fun w hw => ⟨rfl, hp_below hw⟩)
theorem px_ok (a1 : Option Addr) (cap1 : Nat) (msg : List (BitVec 8)) (a2 : Option Addr) (cap2 : Nat) (dst : List (BitVec 8)) (n : Nat) (hc1 : msg.length ≤ cap1) (hc2 : dst.length ≤ cap2) (hn : n ≤ 8160) (hd : dst.length ≤ 255) (hm : msg.length ≤ 65536) (w : World) (hw : Gt w) (hb1 : BytesAt w a1 msg) (hb2 : BytesAt w a2 dst) : Calls Tryd.prog 7 [.slice a1 msg.length cap1, .slice a2 dst.length cap2, I (n : Int)].toArray w (fun e w' => ∃ v, e = .returned v ∧ Grow w w' ∧ ∃ a cap, v = .tuple #[.slice a (E msg dst n).length cap, I 0] ∧ BytesAt w' a (E msg dst n) ∧ (E msg dst n).length ≤ cap) := by
  have hGF : BOk Gt (pl w) := gt_low.plain hw
  have hgw : Grow w w := Grow.refl w
  refine calls_of_X (G := Gt) Tryd.func7 rfl rfl (Hp (pl w) []) (hp_refl (pl w) trivial rides_true) (good_hp hGF) ?_
  refine xs_plain (E := EE [16, 18]) ?_
  refine lx_assign rfl rfl rfl ?_
  refine lx_assign rfl rfl rfl ?_
  refine lx_nil ?_
  refine x_seq ?_
  refine xs_plain (E := EE [16, 18]) ?_
  refine lx_move rfl rfl rfl ?_
  refine lx_binB false rfl rfl (fun _ => rfl) (fun _ => bin_lss_i _ _ _) (decide_eq_false (by omega)) rfl rfl ?_
  refine lx_move rfl rfl rfl ?_
  refine lx_move rfl rfl rfl ?_
  refine lx_binB false rfl rfl (fun _ => rfl) (fun _ => bin_gtr_i _ _ _) (decide_eq_false (by omega)) rfl rfl ?_
  refine lx_pick rfl rfl rfl rfl rfl ?_
  refine lx_move rfl rfl rfl ?_
  refine lx_move rfl rfl rfl ?_
  refine lx_len rfl (fun _ => len_slice Tryd.underlying22 _ _ _ _) rfl rfl ?_
  refine lx_binB false rfl rfl (fun _ => rfl) (fun _ => bin_gtr_i _ _ _) (decide_eq_false (by omega)) rfl rfl ?_
  refine lx_pick rfl rfl rfl rfl rfl ?_
  refine lx_move rfl rfl rfl ?_
  refine lx_move rfl rfl rfl ?_
  refine lx_len rfl (fun _ => len_slice Tryd.underlying22 _ _ _ _) rfl rfl ?_
  refine lx_binB false rfl rfl (fun _ => rfl) (fun _ => bin_gtr_i _ _ _) (decide_eq_false (by omega)) rfl rfl ?_
  refine lx_pick rfl rfl rfl rfl rfl ?_
  refine lx_nil ?_
  refine x_false rfl ?_
  refine x_skip ?_
  refine xs_plain (E := EE [16, 18]) ?_
  refine lx_move rfl rfl rfl ?_
  refine lx_callH rfl rfl ent16 rfl rfl gt_low (good_hp hGF) (fun w' hC hG => ptag a2 cap2 dst hc2 (by omega) w' hG (hb2.grow (hgw.trans (hp_below hC)))) (fun w0 w1 v h0 hg hG1 hq => ?_)
  replace hgw := hgw.trans ((hp_below h0).trans hg)
  clear h0 hg hGF
  have hGF : BOk Gt (pl w1) := gt_low.plain hG1
  obtain ⟨ta, tc, rfl, hta, htc⟩ := hq
  refine lx_assign rfl rfl rfl ?_
  refine lx_nil ?_
  refine xs_plain (E := EE [16, 18]) ?_
  refine lx_mksl 28 hGF rfl rfl Tryd.underlying22 ti5.choose_spec.1 ti5.choose_spec.2.1 (hmk 64 (by decide)) (hmc 64 ti5.choose_spec mc64) rfl rfl ?_
  intro b28
  refine lx_move rfl rfl rfl ?_
  refine lx_move rfl rfl rfl ?_
  refine lx_bin rfl rfl (fun _ => rfl) (fun _ => bin_shr8 _ _) rfl rfl ?_
  refine lx_conv rfl rfl (fun _ => conv_i_u8 Tryd.underlying3 Tryd.underlying5 _) rfl rfl ?_
  refine lx_move rfl rfl rfl ?_
  refine lx_conv rfl rfl (fun _ => conv_i_u8 Tryd.underlying3 Tryd.underlying5 _) rfl rfl ?_
  refine lx_bsl 35 [BitVec.ofInt 8 ((n / 256 : Nat) : Int), BitVec.ofInt 8 (n : Int), 0#8] hGF rfl rfl rfl (by decide) (by decide) Tryd.underlying22 Tryd.sizeOf5 Tryd.zeroValue5 rfl rfl ?_
  intro b35
  refine lx_move rfl rfl rfl ?_
  refine lx_bslV 37 [.slice (some ⟨b28, 0, none⟩) 64 64, .slice a1 msg.length cap1, .slice (some ⟨b35, 0, none⟩) 3 3, .slice ta (D dst).length tc] hGF rfl rfl rfl (by decide) (by decide) Tryd.underlying73 Tryd.sizeOf22 zvS rfl rfl rfl ?_
  intro b37
  refine lx_callC rfl rfl ent17 (fun w' hC hG => psum4 b37 (some ⟨b28, 0, none⟩) 64 64 (List.replicate 64 0#8) a1 msg.length cap1 msg (some ⟨b35, 0, none⟩) 3 3 [BitVec.ofInt 8 ((n / 256 : Nat) : Int), BitVec.ofInt 8 (n : Int), 0#8] ta (D dst).length tc (D dst) w' hG (hp_row (n := 37) rfl w' hC) rfl (Nat.le_refl _) (BytesAt.range (hp_row (n := 28) rfl w' hC)) rfl hc1 (hb1.grow (hgw.trans (hp_below hC))) rfl (Nat.le_refl _) (BytesAt.range (hp_row (n := 35) rfl w' hC)) rfl htc (hta.grow (hp_below hC)) (by rw [D_len]; omega)) rfl rfl ?_
  rw [show Sh.SHA ((((List.replicate 64 0#8) ++ msg) ++ [BitVec.ofInt 8 ((n / 256 : Nat) : Int), BitVec.ofInt 8 (n : Int), 0#8]) ++ D dst) = B0 msg dst n from rfl]
  refine lx_allocr 9 hGF zv55 rfl rfl ?_
  intro b9
  refine lx_storea 9 hGF rfl rfl rfl Tryd.sizeOf55 (by simp) (by simp) (one_u8 _) rfl ?_
  refine lx_nil ?_
  refine xs_plain (E := EE [16, 18]) ?_
  refine lx_loada 9 rfl rfl Tryd.isAgg55 Tryd.sizeOf55 (by simp) rfl rfl ?_
  refine lx_move rfl rfl rfl ?_
  refine lx_move rfl rfl rfl ?_
  refine lx_callH rfl rfl ent18 rfl rfl gt_low (good_hp hGF) (fun w' hC hG => pstretch (B0 msg dst n) (D dst) (B0_len _ _ _) ta tc n hn (by rw [D_len]; omega) htc w' hG (hta.grow (hp_below hC))) (fun w0 w1 v h0 hg hG1 hq => ?_)
  replace hgw := hgw.trans ((hp_below h0).trans hg)
  clear h0 hg hGF
  have hGF : BOk Gt (pl w1) := gt_low.plain hG1
  obtain ⟨sa, rfl, hsa⟩ := hq
  refine lx_assign rfl rfl rfl ?_
  refine lx_assign rfl rfl rfl ?_
  refine lx_nil ?_
  refine x_ret ?_
  repeat (first | refine kseq_ret ?_ | refine kblk_ret ?_)
  exact kret_tt rfl rfl rfl (fun w hw => ⟨_, rfl, hgw.trans (hp_below hw), sa, n, by rw [E_len]; rfl, hsa.grow (hp_below hw), by rw [E_len]; exact Nat.le_refl _⟩)
theorem pxc : PXC := by
  intro a1 cap1 msg a2 cap2 dst z w _ hc1 _ hc2 hw hb1 hb2
  have err : Bad msg dst z → ∀ {e : Ending} {w' : World}, e = .returned (.tuple #[.slice none 0 0, I 130]) ∧ Grow w w' → ∃ v, e = .returned v ∧ Grow w w' ∧ RT msg dst z w' v := fun hb _ _ h => ⟨_, h.1, h.2, fun _ => rfl, fun hn => absurd hb hn⟩
  by_cases h0 : z < 0
  · exact (px_0 a1 cap1 msg a2 cap2 dst z h0 w hw).mono fun _ _ h => err (.inl h0) h
  by_cases h1 : 8160 < z
  · exact (px_1 a1 cap1 msg a2 cap2 dst z h1 w hw).mono fun _ _ h => err (.inr (.inl h1)) h
  by_cases h2 : 255 < dst.length
  · exact (px_2 a1 cap1 msg a2 cap2 dst z h0 h1 h2 w hw).mono fun _ _ h => err (.inr (.inr (.inl h2))) h
  by_cases h3 : 65536 < msg.length
  · exact (px_3 a1 cap1 msg a2 cap2 dst z h0 h1 h2 h3 w hw).mono fun _ _ h => err (.inr (.inr (.inr h3))) h
  obtain ⟨n, rfl⟩ : ∃ n : Nat, z = (n : Int) := ⟨z.toNat, by omega⟩
  refine (px_ok a1 cap1 msg a2 cap2 dst n hc1 hc2 (by omega) (by omega) (by omega) w hw hb1 hb2).mono fun e w' ⟨v, he, hg, hc⟩ => ⟨_, he, hg, fun hb => absurd hb ?_, fun _ => hc⟩
  rintro (h | h | h | h) <;> omega
end Xm
end Go.Proofs.YtlimfhjjadbjgaaDoor

namespace Go.Proofs.YtlimfhjjadbjgaaDoor
open Go.RowKit
set_option maxRecDepth 100000
set_option maxHeartbeats 1000000
attribute [local simp] fe_len nm_len AS_len SS_len MONT_len RM_len FRs_len BYs_len by48_len PLl TWOl ONEl N1l IVPl HFPl RTPl List.length_append WDs_len RW_len

theorem ent21 : Enters Tryd.prog 21 := fun _ _ => by kernel_rfl
namespace Xm
attribute [local simp] Sh.SHA_len B0_len F_len R_len Xk_len O_len Sh.MK_len D_len
attribute [local simp] N2r_len

theorem tiQ : TI Tryd.prog 52 (.agg ((List.replicate 12 (0#64)).map U64).toArray) 12 96 := ti_mk (by kernel_rfl)
theorem pwide (e : Option Addr) (len cap : Nat) (bs : List (BitVec 8)) (hb : bs.length = len) (hlen : len ≤ 1000) (hc : len ≤ cap) (w : World) (hw : Gt w) (hby : BytesAt w e bs) : Calls Tryd.prog 32 [.slice e len cap].toArray w (fun r w' => r = .returned (EV (ZB bs)) ∧ Grow w w') := by
  subst hb
  exact fwide_calls e cap bs (by omega) hc w hw hby
theorem cut3 {w : World} {a : Option Addr} {rs : List (BitVec 8)} (h : BytesAt w a rs) (l k m : Nat) (hm : m ≠ l) : BytesAt w (if m = l then a else a.map (·.add (l * 1))) ((rs.drop l).take k) := by
  have h2 := h.cut (cap := rs.length + l + 1) l k (by omega)
  rw [if_neg (by omega)] at h2
  rw [if_neg hm]
  exact h2
theorem pnumber (a : Option Addr) (len cap : Nat) (bs : List (BitVec 8)) (hlen : bs.length = len) (hc : len ≤ cap) (i : Nat) (hi : 64 * i + 64 ≤ len) (hl : len ≤ 100000) (w : World) (hw : Gt w) (hb : BytesAt w a bs) : Calls Tryd.prog 21 [.slice a len cap, I (i : Int)].toArray w (fun e w' => e = .returned (EV (ZB ((bs.drop (64 * i)).take 64))) ∧ Grow w w') := by
  have hGF : BOk Gt (pl w) := gt_low.plain hw
  refine calls_of_X (G := Gt) Tryd.func21 rfl rfl (Hp (pl w) []) (hp_refl (pl w) trivial rides_true) (good_hp hGF) ?_
  refine xs_plain (E := EE []) ?_
  refine lx_allocr 4 hGF zf50 rfl rfl ?_
  intro b4
  refine lx_nil ?_
  refine xs_plain (E := EE []) ?_
  refine lx_move rfl rfl rfl ?_
  refine lx_bin (v := I ((64 * i : Nat) : Int)) rfl rfl (fun _ => rfl) (fun _ => (bin_mul_i _ _ _ (by unfold inI; omega)).trans (by rw [show (64 : Int) * (i : Int) = ((64 * i : Nat) : Int) by omega])) rfl rfl ?_
  refine lx_move rfl rfl rfl ?_
  refine lx_bin (v := I ((i + 1 : Nat) : Int)) rfl rfl (fun _ => rfl) (fun _ => (bin_add_i _ _ _ (by unfold inI; omega)).trans (by rfl)) rfl rfl ?_
  refine lx_bin (v := I ((64 * i + 64 : Nat) : Int)) rfl rfl (fun _ => rfl) (fun _ => (bin_mul_i _ _ _ (by unfold inI; omega)).trans (by rw [show (64 : Int) * ((i + 1 : Nat) : Int) = ((64 * i + 64 : Nat) : Int) by omega])) rfl rfl ?_
  refine lx_assign rfl rfl rfl ?_
  refine lx_assign rfl rfl rfl ?_
  refine lx_nil ?_
  refine xs_plain (E := EE []) ?_
  refine lx_move rfl rfl rfl ?_
  refine lx_move rfl rfl rfl ?_
  refine lx_move rfl rfl rfl ?_
  refine lx_move rfl rfl rfl ?_
  refine lx_slsl3 (l := 64 * i) (h' := 64 * i + 64) (m := 64 * i + 64) rfl Tryd.underlying22 Tryd.sizeOf5 rfl rfl rfl ⟨by omega, Nat.le_refl _, by omega⟩ rfl rfl ?_
  refine lx_callC rfl rfl ent32 (fun w' hC hG => pwide _ _ _ ((bs.drop (64 * i)).take 64) (by rw [List.length_take, List.length_drop, hlen]; omega) (by omega) (Nat.le_refl _) w' hG (BytesAt.grow (cut3 hb (64 * i) 64 _ (by omega)) (hp_below hC))) rfl rfl ?_
  refine lx_storea 4 hGF rfl rfl rfl Tryd.sizeOf50 (by simp) (by simp) (one_u64 _) rfl ?_
  refine lx_nil ?_
  refine x_ret ?_
  repeat (first | refine kseq_ret ?_ | refine kblk_ret ?_)
  exact kret_own 4 rfl rfl rfl Tryd.isAgg50 Tryd.sizeOf50 (by simp) (fun w hw => ⟨rfl, hp_below hw⟩)
theorem pf_0 (a1 : Option Addr) (cap1 : Nat) (msg : List (BitVec 8)) (a2 : Option Addr) (cap2 : Nat) (dst : List (BitVec 8))  (z : Int) (h : z < 0) (w : World) (hw : Gt w) : Calls Tryd.prog 12 [.slice a1 msg.length cap1, .slice a2 dst.length cap2, I z].toArray w (fun e w' => e = .returned (.tuple #[.slice none 0 0, I 130]) ∧ Grow w w') := by
  have hGF : BOk Gt (pl w) := gt_low.plain hw
  refine calls_of_X (G := Gt) Tryd.func12 rfl rfl (Hp (pl w) []) (hp_refl (pl w) trivial rides_true) (good_hp hGF) ?_
  refine xs_plain (E := EE [7]) ?_
  refine lx_assign rfl rfl rfl ?_
  refine lx_assign rfl rfl rfl ?_
  refine lx_nil ?_
  refine x_seq ?_
  refine xs_plain (E := EE [7]) ?_
  refine lx_move rfl rfl rfl ?_
  refine lx_binB true rfl rfl (fun _ => rfl) (fun _ => bin_lss_i _ _ _) (decide_eq_true (by omega)) rfl rfl ?_
  refine lx_move rfl rfl rfl ?_
  refine lx_skip rfl rfl rfl ?_
  refine lx_skip rfl rfl rfl ?_
  refine lx_pick rfl rfl rfl rfl rfl ?_
  refine lx_nil ?_
  refine x_true rfl ?_
  refine xs_plain (E := EE [7]) ?_
  refine lx_assign rfl rfl rfl ?_
  refine lx_assign rfl rfl rfl ?_
  refine lx_nil ?_
  refine x_ret ?_
  repeat (first | refine kseq_ret ?_ | refine kblk_ret ?_)
  exact kret_tt rfl rfl rfl (fun w hw => ⟨rfl, hp_below hw⟩)
theorem pf_1 (a1 : Option Addr) (cap1 : Nat) (msg : List (BitVec 8)) (a2 : Option Addr) (cap2 : Nat) (dst : List (BitVec 8))  (z : Int) (h : 32 < z) (w : World) (hw : Gt w) : Calls Tryd.prog 12 [.slice a1 msg.length cap1, .slice a2 dst.length cap2, I z].toArray w (fun e w' => e = .returned (.tuple #[.slice none 0 0, I 130]) ∧ Grow w w') := by
  have hGF : BOk Gt (pl w) := gt_low.plain hw
  refine calls_of_X (G := Gt) Tryd.func12 rfl rfl (Hp (pl w) []) (hp_refl (pl w) trivial rides_true) (good_hp hGF) ?_
  refine xs_plain (E := EE [7]) ?_
  refine lx_assign rfl rfl rfl ?_
  refine lx_assign rfl rfl rfl ?_
  refine lx_nil ?_
  refine x_seq ?_
  refine xs_plain (E := EE [7]) ?_
  refine lx_move rfl rfl rfl ?_
  refine lx_binB false rfl rfl (fun _ => rfl) (fun _ => bin_lss_i _ _ _) (decide_eq_false (by omega)) rfl rfl ?_
  refine lx_move rfl rfl rfl ?_
  refine lx_move rfl rfl rfl ?_
  refine lx_binB true rfl rfl (fun _ => rfl) (fun _ => bin_gtr_i _ _ _) (decide_eq_true (by omega)) rfl rfl ?_
  refine lx_pick rfl rfl rfl rfl rfl ?_
  refine lx_nil ?_
  refine x_true rfl ?_
  refine xs_plain (E := EE [7]) ?_
  refine lx_assign rfl rfl rfl ?_
  refine lx_assign rfl rfl rfl ?_
  refine lx_nil ?_
  refine x_ret ?_
  repeat (first | refine kseq_ret ?_ | refine kblk_ret ?_)
  exact kret_tt rfl rfl rfl (fun w hw => ⟨rfl, hp_below hw⟩)
theorem pf_2 (a1 : Option Addr) (cap1 : Nat) (msg : List (BitVec 8)) (a2 : Option Addr) (cap2 : Nat) (dst : List (BitVec 8)) (hc1 : msg.length ≤ cap1) (hc2 : dst.length ≤ cap2) (hl1 : msg.length ≤ 100000) (hl2 : dst.length ≤ 100000) (z : Int) (h0 : ¬ z < 0) (h1 : ¬ 32 < z) (hl : 255 < dst.length ∨ 65536 < msg.length) (w : World) (hw : Gt w) (hb1 : BytesAt w a1 msg) (hb2 : BytesAt w a2 dst) : Calls Tryd.prog 12 [.slice a1 msg.length cap1, .slice a2 dst.length cap2, I z].toArray w (fun e w' => e = .returned (.tuple #[.slice none 0 0, I 130]) ∧ Grow w w') := by
  have hGF : BOk Gt (pl w) := gt_low.plain hw
  have hgw : Grow w w := Grow.refl w
  refine calls_of_X (G := Gt) Tryd.func12 rfl rfl (Hp (pl w) []) (hp_refl (pl w) trivial rides_true) (good_hp hGF) ?_
  refine xs_plain (E := EE [7]) ?_
  refine lx_assign rfl rfl rfl ?_
  refine lx_assign rfl rfl rfl ?_
  refine lx_nil ?_
  refine x_seq ?_
  refine xs_plain (E := EE [7]) ?_
  refine lx_move rfl rfl rfl ?_
  refine lx_binB false rfl rfl (fun _ => rfl) (fun _ => bin_lss_i _ _ _) (decide_eq_false (by omega)) rfl rfl ?_
  refine lx_move rfl rfl rfl ?_
  refine lx_move rfl rfl rfl ?_
  refine lx_binB false rfl rfl (fun _ => rfl) (fun _ => bin_gtr_i _ _ _) (decide_eq_false (by omega)) rfl rfl ?_
  refine lx_pick rfl rfl rfl rfl rfl ?_
  refine lx_nil ?_
  refine x_false rfl ?_
  refine x_skip ?_
  refine xs_plain (E := EE [7]) ?_
  refine lx_move rfl rfl rfl ?_
  refine lx_move rfl rfl rfl ?_
  refine lx_move rfl rfl rfl ?_
  refine lx_bin rfl rfl (fun _ => rfl) (fun _ => bin_mul_i _ _ _ (by unfold inI; omega)) rfl rfl ?_
  refine lx_callH rfl rfl ent7 rfl rfl gt_low (good_hp hGF) (fun w' hC hG => pxc a1 cap1 msg a2 cap2 dst (128 * z) w' (by omega) hc1 (by omega) hc2 hG (hb1.grow (hgw.trans (hp_below hC))) (hb2.grow (hgw.trans (hp_below hC)))) (fun w0 w1 v h0 hg hG1 hq => ?_)
  replace hgw := hgw.trans ((hp_below h0).trans hg)
  clear h0 hg hGF
  have hGF : BOk Gt (pl w1) := gt_low.plain hG1
  obtain rfl := hq.bad (hl.elim (fun h => .inr (.inr (.inl h))) fun h => .inr (.inr (.inr h)))
  refine lx_move rfl rfl rfl ?_
  refine lx_ext rfl rfl rfl rfl ?_
  refine lx_ext rfl rfl rfl rfl ?_
  refine lx_assign rfl rfl rfl ?_
  refine lx_assign rfl rfl rfl ?_
  refine lx_nil ?_
  refine x_seq ?_
  refine xs_plain (E := EE [7]) ?_
  refine lx_move rfl rfl rfl ?_
  refine lx_binB true rfl rfl (fun _ => rfl) (fun _ => bin_neq_i _ _ _) (rfl) rfl rfl ?_
  refine lx_nil ?_
  refine x_true rfl ?_
  refine xs_plain (E := EE [7]) ?_
  refine lx_move rfl rfl rfl ?_
  refine lx_assign rfl rfl rfl ?_
  refine lx_assign rfl rfl rfl ?_
  refine lx_nil ?_
  refine x_ret ?_
  repeat (first | refine kseq_ret ?_ | refine kblk_ret ?_)
  exact kret_tt rfl rfl rfl (fun w hw => ⟨rfl, hgw.trans (hp_below hw)⟩)
theorem fz_step (f : Nat → List (BitVec 64)) (z : List (BitVec 64)) (n k : Nat) (hk : k < n) (hf : (f k).length = 12) : lay (0 + 12 * k) ((f k).map U64) ((RW 12 (fun i => if i < k then f i else z) n).map U64) = (RW 12 (fun i => if i < k + 1 then f i else z) n).map U64 := by
  rw [RW_lay _ n k (f k) hk hf _ (by omega)]
  congr 1
  refine RW_congr fun i _ => ?_
  by_cases h : i = k
  · rw [if_pos h, if_pos (by omega), h]
  · rw [if_neg h]
    by_cases h2 : i < k
    · rw [if_pos h2, if_pos (by omega)]
    · rw [if_neg h2, if_neg (by omega)]
theorem N2_cut (bs : List (BitVec 8)) (k : Nat) : fe (ZB ((bs.drop (64 * (2 * k))).take 64)) ++ fe (ZB ((bs.drop (64 * (2 * k + 1))).take 64)) = N2r bs k := by
  rw [N2r, N2, show 64 * (2 * k) = 128 * k by omega, show 64 * (2 * k + 1) = 128 * k + 64 by omega]
theorem pf_ok (a1 : Option Addr) (cap1 : Nat) (msg : List (BitVec 8)) (a2 : Option Addr) (cap2 : Nat) (dst : List (BitVec 8)) (n : Nat) (hc1 : msg.length ≤ cap1) (hc2 : dst.length ≤ cap2) (hl1 : msg.length ≤ 100000) (hl2 : dst.length ≤ 100000) (hn : n ≤ 32) (hd : dst.length ≤ 255) (hm : msg.length ≤ 65536) (w : World) (hw : Gt w) (hb1 : BytesAt w a1 msg) (hb2 : BytesAt w a2 dst) : Calls Tryd.prog 12 [.slice a1 msg.length cap1, .slice a2 dst.length cap2, I (n : Int)].toArray w (fun e w' => ∃ a cap, e = .returned (.tuple #[.slice a n cap, I 0]) ∧ Grow w w' ∧ At2 w' a n (N2r (E msg dst (128 * n)))) := by
  have hGF : BOk Gt (pl w) := gt_low.plain hw
  have hgw : Grow w w := Grow.refl w
  refine calls_of_X (G := Gt) Tryd.func12 rfl rfl (Hp (pl w) []) (hp_refl (pl w) trivial rides_true) (good_hp hGF) ?_
  refine xs_plain (E := EE [7]) ?_
  refine lx_assign rfl rfl rfl ?_
  refine lx_assign rfl rfl rfl ?_
  refine lx_nil ?_
  refine x_seq ?_
  refine xs_plain (E := EE [7]) ?_
  refine lx_move rfl rfl rfl ?_
  refine lx_binB false rfl rfl (fun _ => rfl) (fun _ => bin_lss_i _ _ _) (decide_eq_false (by omega)) rfl rfl ?_
  refine lx_move rfl rfl rfl ?_
  refine lx_move rfl rfl rfl ?_
  refine lx_binB false rfl rfl (fun _ => rfl) (fun _ => bin_gtr_i _ _ _) (decide_eq_false (by omega)) rfl rfl ?_
  refine lx_pick rfl rfl rfl rfl rfl ?_
  refine lx_nil ?_
  refine x_false rfl ?_
  refine x_skip ?_
  refine xs_plain (E := EE [7]) ?_
  refine lx_move rfl rfl rfl ?_
  refine lx_move rfl rfl rfl ?_
  refine lx_move rfl rfl rfl ?_
  refine lx_bin rfl rfl (fun _ => rfl) (fun _ => bin_mul_i _ _ _ (by unfold inI; omega)) rfl rfl ?_
  refine lx_callH rfl rfl ent7 rfl rfl gt_low (good_hp hGF) (fun w' hC hG => pxc a1 cap1 msg a2 cap2 dst (128 * (n : Int)) w' (by omega) hc1 (by omega) hc2 hG (hb1.grow (hgw.trans (hp_below hC))) (hb2.grow (hgw.trans (hp_below hC)))) (fun w0 w1 v h0 hg hG1 hq => ?_)
  replace hgw := hgw.trans ((hp_below h0).trans hg)
  clear h0 hg hGF
  have hGF : BOk Gt (pl w1) := gt_low.plain hG1
  obtain ⟨xa, xc, rfl, hx, hle⟩ := hq.ok (by rintro (h | h | h | h) <;> omega)
  rw [show ((128 : Int) * (n : Int)).toNat = 128 * n by omega] at *
  refine lx_move rfl rfl rfl ?_
  refine lx_ext rfl rfl rfl rfl ?_
  refine lx_ext rfl rfl rfl rfl ?_
  refine lx_assign rfl rfl rfl ?_
  refine lx_assign rfl rfl rfl ?_
  refine lx_nil ?_
  refine x_seq ?_
  refine xs_plain (E := EE [7]) ?_
  refine lx_move rfl rfl rfl ?_
  refine lx_binB false rfl rfl (fun _ => rfl) (fun _ => bin_neq_i _ _ _) (rfl) rfl rfl ?_
  refine lx_nil ?_
  refine x_false rfl ?_
  refine x_skip ?_
  refine xs_plain (E := EE [7]) ?_
  refine lx_move rfl rfl rfl ?_
  refine lx_mkslC (l := n) (m := n) (c := (RW 12 (fun _ => List.replicate 12 0#64) n).map U64) 30 hGF rfl rfl (Nat.le_refl _) Tryd.underlying35 tiQ ⟨by omega, by omega, by omega⟩ (madeW _ (by simp) _) rfl rfl ?_
  intro b30
  refine lx_assign rfl rfl rfl ?_
  refine lx_nil ?_
  refine x_seq ?_
  refine xs_plain (E := EE [7]) ?_
  refine lx_move rfl rfl rfl ?_
  refine lx_len rfl (fun _ => len_slice Tryd.underlying35 _ _ _ _) rfl rfl ?_
  refine lx_move rfl rfl rfl ?_
  refine lx_nil ?_
  refine x_block ?_
  refine x_for (ι := { k : Nat // k ≤ n }) (fun z => [(8, .slice xa (E msg dst (128 * n)).length xc), (10, .slice (some ⟨b30, 0, none⟩) n n), (32, I (n : Int)), (33, I (z.1 : Int))]) (fun z => [(30, b30, (RW 12 (fun i => if i < z.1 then N2r (E msg dst (128 * n)) i else List.replicate 12 0#64) n).map U64, 52)]) (fun z => n - z.1) ⟨0, by omega⟩ hGF ⟨rfl, rfl, rfl, rfl, trivial⟩ ⟨by rw [RW_congr (s := 12) (g := fun _ => List.replicate 12 0#64) (fun i _ => if_neg (Nat.not_lt_zero i))]; rfl, trivial⟩ ?_
  rintro ⟨k, hk⟩
  dsimp only
  refine xs_plain (E := EE [7]) ?_
  refine lx_bin rfl rfl (fun _ => rfl) (fun _ => bin_lss_i _ _ _) rfl rfl ?_
  refine lx_nil ?_
  refine x_seq ?_
  refine x_if rfl (fun hc => ?_) (fun hc => ?_)
  · have hlt : k < n := by simp at hc; omega
    clear hc
    refine x_skip ?_
    refine x_seq ?_
    refine x_block ?_
    refine xs_plain (E := EE [7]) ?_
    refine lx_move rfl rfl rfl ?_
    refine lx_assign rfl rfl rfl ?_
    refine lx_nil ?_
    refine x_plain (E := EE [7]) ?_
    refine lx_move rfl rfl rfl ?_
    refine lx_move rfl rfl rfl ?_
    refine lx_move rfl rfl rfl ?_
    refine lx_move rfl rfl rfl ?_
    refine lx_bin (v := I ((2 * k : Nat) : Int)) rfl rfl (fun _ => rfl) (fun _ => (bin_mul_i _ _ _ (by unfold inI; omega)).trans (by rw [show (2 : Int) * (k : Int) = ((2 * k : Nat) : Int) by omega])) rfl rfl ?_
    refine lx_callC rfl rfl ent21 (fun w' hC hG => pnumber xa _ xc (E msg dst (128 * n)) rfl hle (2 * k) (by rw [E_len]; omega) (by rw [E_len]; omega) w' hG (hx.grow (hp_below hC))) rfl rfl ?_
    refine lx_move rfl rfl rfl ?_
    refine lx_move rfl rfl rfl ?_
    refine lx_bin (v := I ((2 * k : Nat) : Int)) rfl rfl (fun _ => rfl) (fun _ => (bin_mul_i _ _ _ (by unfold inI; omega)).trans (by rw [show (2 : Int) * (k : Int) = ((2 * k : Nat) : Int) by omega])) rfl rfl ?_
    refine lx_bin (v := I ((2 * k + 1 : Nat) : Int)) rfl rfl (fun _ => rfl) (fun _ => (bin_add_i _ _ _ (by unfold inI; omega)).trans (by rfl)) rfl rfl ?_
    refine lx_callC rfl rfl ent21 (fun w' hC hG => pnumber xa _ xc (E msg dst (128 * n)) rfl hle (2 * k + 1) (by rw [E_len]; omega) (by rw [E_len]; omega) w' hG (hx.grow (hp_below hC))) rfl rfl ?_
    refine lx_two two52 rfl rfl (by simp) (by simp) rfl rfl ?_
    rw [N2_cut]
    refine lx_isW (s := 12) k rfl rfl Tryd.underlying35 Tryd.sizeOf52 (by omega) (by omega) rfl rfl ?_
    refine lx_storer 30 hGF rfl rfl rfl Tryd.sizeOf52 (by rw [List.length_map, N2r_len]) (one_u64 _) (by rw [List.length_map, List.length_map, N2r_len, RW_len]; omega) rfl ?_
    rw [fz_step (N2r (E msg dst (128 * n))) _ n k hlt (N2r_len _ _)]
    refine lx_nil ?_
    refine x_plain (E := EE [7]) ?_
    refine lx_bin (v := I ((k + 1 : Nat) : Int)) rfl rfl (fun _ => rfl) (fun _ => (bin_add_i _ _ _ (by unfold inI; omega)).trans (by rfl)) rfl rfl ?_
    refine lx_move rfl rfl rfl ?_
    refine lx_nil ?_
    repeat (first | refine kblk_n ?_ | refine kblk_x ?_)
    refine kseq_n ?_
    exact ⟨rfl, ⟨k + 1, by omega⟩, _, by show n - (k + 1) < n - k; omega, rfl, ⟨rfl, rfl, rfl, rfl, trivial⟩, ⟨rfl, trivial⟩⟩
  · have hke : k = n := by simp at hc; omega
    clear hc
    subst hke
    refine x_exit ?_
    refine xs_plain (E := EE [7]) ?_
    refine lx_move rfl rfl rfl ?_
    refine lx_assign rfl rfl rfl ?_
    refine lx_assign rfl rfl rfl ?_
    refine lx_nil ?_
    refine x_ret ?_
    repeat (first | refine kseq_ret ?_ | refine kblk_ret ?_ | refine kng_ret ?_)
    exact kret_tt rfl rfl rfl (fun w hw => ⟨_, _, rfl, hgw.trans (hp_below hw), .inr ⟨b30, rfl, by rw [← RW_congr (s := 12) (fun i hi => if_pos hi)]; exact (hw.own 30 b30 _ _ rfl).1.range⟩⟩)
theorem pfc : PFC := by
  intro a1 cap1 msg a2 cap2 dst z w hl1 hc1 hl2 hc2 hw hb1 hb2
  have err : FBad msg dst z → ∀ {e : Ending} {w' : World}, e = .returned (.tuple #[.slice none 0 0, I 130]) ∧ Grow w w' → ∃ v, e = .returned v ∧ Grow w w' ∧ RFt msg dst z w' v := fun hb _ _ h => ⟨_, h.1, h.2, fun _ => rfl, fun hn => absurd hb hn⟩
  by_cases h0 : z < 0
  · exact (pf_0 a1 cap1 msg a2 cap2 dst z h0 w hw).mono fun _ _ h => err (.inl h0) h
  by_cases h1 : 32 < z
  · exact (pf_1 a1 cap1 msg a2 cap2 dst z h1 w hw).mono fun _ _ h => err (.inr (.inl h1)) h
  by_cases h2 : 255 < dst.length ∨ 65536 < msg.length
  · exact (pf_2 a1 cap1 msg a2 cap2 dst hc1 hc2 hl1 hl2 z h0 h1 h2 w hw hb1 hb2).mono fun _ _ h => err (.inr (.inr h2)) h
  obtain ⟨n, rfl⟩ : ∃ n : Nat, z = (n : Int) := ⟨z.toNat, by omega⟩
  refine (pf_ok a1 cap1 msg a2 cap2 dst n hc1 hc2 hl1 hl2 (by omega) (by omega) (by omega) w hw hb1 hb2).mono fun e w' ⟨a, cap, he, hg, hc⟩ => ⟨_, he, hg, fun hb => absurd hb ?_, fun _ => ⟨a, cap, rfl, hc⟩⟩
  rintro (h | h | h | h) <;> omega
end Xm
end Go.Proofs.YtlimfhjjadbjgaaDoor
