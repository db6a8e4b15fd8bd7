/-
  The program's writer.
-/
import Derived.Test.YtdkkipjcmflclaaDoorUC
import Derived.Test.YtdkkipjcmflclaaDoorX3
namespace Go.Proofs.YtdkkipjcmflclaaDoor
open Go.RowKit
set_option maxRecDepth 100000
set_option maxHeartbeats 1000000
open Sh
theorem ent38 : Enters Tryd.prog 38 := fun _ _ => by kernel_rfl
theorem ent28 : Enters Tryd.prog 28 := fun _ _ => by kernel_rfl
theorem ent29 : Enters Tryd.prog 29 := fun _ _ => by kernel_rfl
/-- Pieces, the last written first; all lie in S. -/
def Chain (w : World) (S : Nat → Prop) : List (List (BitVec 8)) → Option Addr → Prop
  | [], p => p = none
  | x :: r, p => ∃ q a c pa, p = some ⟨q, 0, none⟩ ∧ w.rangeAt q 0 [.slice a x.length c, .pointer pa] ∧ BytesAt w a x ∧ S q ∧ (∀ k, Of a k → S k) ∧ Chain w S r pa
theorem Chain.mm {M S S' : Nat → Prop} {w w' : World} (hm : MM M w w') (hS : ∀ k, S k → ¬ M k ∧ S' k) : ∀ (ps : List (List (BitVec 8))) (p : Option Addr), Chain w S ps p → Chain w' S' ps p
  | [], _, h => h
  | x :: r, p, h => by
    obtain ⟨q, a, c, pa, e, h1, h2, h3, h4, h5⟩ := h
    exact ⟨q, a, c, pa, e, hm.range h1 (hS q h3).1, hm.bytes h2 (fun ad e => (hS _ (h4 _ ⟨ad, e, rfl⟩)).1), (hS q h3).2, fun k hk => (hS k (h4 k hk)).2, Chain.mm hm hS r pa h5⟩
/-- A writer at block b: all that was written. -/
def WrAt (S : Nat → Prop) (w : World) (b : Nat) (xs : List (BitVec 8)) : Prop := ∃ ps p, OwnB w b [.pointer p, I (xs.length : Int)] 66 ∧ Chain w S ps p ∧ ps.reverse.flatten = xs ∧ ¬ S b
theorem WrAt.mm {M S S' : Nat → Prop} {w w' : World} {b : Nat} {xs : List (BitVec 8)} (h : WrAt S w b xs) (hm : MM M w w') (hb : ¬ M b) (hS : ∀ k, S k → ¬ M k ∧ S' k) (hb' : ¬ S' b) : WrAt S' w' b xs := by
  obtain ⟨ps, p, h1, h2, h3, _⟩ := h
  exact ⟨ps, p, hm.own h1 hb, h2.mm hm hS, h3, hb'⟩
theorem WrAt.grow {S : Nat → Prop} {w w' : World} {b : Nat} {xs : List (BitVec 8)} (h : WrAt S w b xs) (hg : Grow w w') : WrAt S w' b xs := by
  have hb := h
  obtain ⟨_, _, _, _, _, hb⟩ := hb
  exact h.mm (M := fun _ => False) (grow_mm hg) id (fun k hk => ⟨id, hk⟩) hb
theorem WrAt.lt {S : Nat → Prop} {w : World} {b : Nat} {xs : List (BitVec 8)} (h : WrAt S w b xs) : b < w.heap.size := by
  obtain ⟨_, _, h1, _⟩ := h
  exact h1.lt
theorem WrAt.out {S : Nat → Prop} {w : World} {b : Nat} {xs : List (BitVec 8)} (h : WrAt S w b xs) : ¬ S b := by
  obtain ⟨_, _, _, _, _, h1⟩ := h
  exact h1
theorem bldP (a : Option Addr) (n c : Nat) (p : Option Addr) (w : World) : (Instr.build 75 #[(0, .slice a n c), (1, .pointer p)]).run Tryd.prog w = .ok (.agg [.slice a n c, .pointer p].toArray) w := by
  simp [Instr.build, Tryd.zeroValue75, run_underlying Tryd.underlying75, Tryd.sizeOf39, Tryd.sizeOf64, Value.cells, Instr.fill]
theorem put_c (b : Nat) (p : Option Addr) (xs ys : List (BitVec 8)) (a : Option Addr) (cap : Nat) (w : World) (hw : Gt w) (hbl : 1 ≤ b) (ho : OwnB w b [.pointer p, I (xs.length : Int)] 66) (hl : xs.length ≤ 1000000) (hl2 : ys.length ≤ 1000000) : Calls Tryd.prog 38 [.pointer (some ⟨b, 0, none⟩), .slice a ys.length cap].toArray w (fun r w' => ∃ q, r = .returned (.tuple #[]) ∧ MM (fun k => k = b) w w' ∧ OwnB w' b [.pointer (some ⟨q, 0, none⟩), I ((xs ++ ys).length : Int)] 66 ∧ (w.heap.size ≤ q ∧ q < w'.heap.size) ∧ w'.rangeAt q 0 [.slice a ys.length cap, .pointer p]) := by
  have hGF : BOk Gt (plM w (fun k => k = b)) := ok_plM gt_low hw (fun m e => e ▸ hbl)
  refine calls_of_X (G := Gt) Tryd.func38 rfl rfl (Hp (plM w (fun k => k = b)) [(0, b, [.pointer p, I (xs.length : Int)], 66)]) (hp_one' ho rfl) (good_hp hGF) ?_
  refine xs_plain (E := EE []) ?_
  refine lx_move rfl rfl rfl ?_
  refine lx_move rfl rfl rfl ?_
  refine lx_move rfl rfl rfl ?_
  refine lx_nilc rfl rfl rfl ?_
  refine lx_fak 0 rfl Tryd.underlying66 rfl Tryd.sizeOf64 (by decide) rfl rfl rfl ?_
  refine lx_loadl 0 rfl rfl rfl Tryd.isAgg64 rfl rfl ?_
  refine lx_build (ps := [(0, .tmp 5), (1, .tmp 9)]) (vs := [.slice a ys.length cap, .pointer p]) rfl (fun w => bldP a ys.length cap p w) rfl rfl ?_
  refine lx_boxr 11 hGF rfl rfl rfl ?_
  intro b11
  refine lx_nilc rfl rfl rfl ?_
  refine lx_fak 0 rfl Tryd.underlying66 rfl Tryd.sizeOf64 (by decide) rfl rfl rfl ?_
  refine lx_store 0 hGF rfl rfl rfl Tryd.sizeOf64 rfl (by simp [*]) rfl ?_
  refine lx_nil ?_
  refine x_plain (E := EE []) ?_
  refine lx_move rfl rfl rfl ?_
  refine lx_nilc rfl rfl rfl ?_
  refine lx_fak 1 rfl Tryd.underlying66 rfl Tryd.sizeOf3 (by decide) rfl rfl rfl ?_
  refine lx_loadl 0 rfl rfl rfl Tryd.isAgg3 rfl rfl ?_
  refine lx_move rfl rfl rfl ?_
  refine lx_len rfl (fun _ => len_slice Tryd.underlying39 _ _ _ _) rfl rfl ?_
  refine lx_bin (v := I (((xs ++ ys).length : Int))) rfl rfl (fun _ => rfl) (fun _ => (bin_add_i _ _ _ (by unfold inI; omega)).trans (by rw [List.length_append]; rfl)) rfl rfl ?_
  refine lx_nilc rfl rfl rfl ?_
  refine lx_fak 1 rfl Tryd.underlying66 rfl Tryd.sizeOf3 (by decide) rfl rfl rfl ?_
  refine lx_store 0 hGF rfl rfl rfl Tryd.sizeOf3 rfl (by simp [*]) rfl ?_
  refine lx_nil ?_
  exact (by first | exact kret_none rfl (fun w' hw' => ⟨b11, rfl, hq_mm hw', (hw'.own 0 _ _ _ rfl).1, ⟨(hw'.own 11 _ _ _ rfl).2.elim id (fun h => by obtain rfl : b11 = b := h; exact absurd (hw'.inj 11 0 _ _ _ _ _ rfl rfl) (by decide)), (hw'.own 11 _ _ _ rfl).1.lt⟩, (hw'.own 11 _ _ _ rfl).1.range⟩) | exact kend_none rfl (fun w' hw' => ⟨b11, rfl, hq_mm hw', (hw'.own 0 _ _ _ rfl).1, ⟨(hw'.own 11 _ _ _ rfl).2.elim id (fun h => by obtain rfl : b11 = b := h; exact absurd (hw'.inj 11 0 _ _ _ _ _ rfl rfl) (by decide)), (hw'.own 11 _ _ _ rfl).1.lt⟩, (hw'.own 11 _ _ _ rfl).1.range⟩))
theorem put_calls (S : Nat → Prop) (b : Nat) (xs ys : List (BitVec 8)) (a : Option Addr) (len cap : Nat) (hlen : ys.length = len) (hl : xs.length ≤ 1000000) (hl2 : len ≤ 1000000) (w : World) (hw : Gt w) (hbl : 1 ≤ b) (hr : WrAt S w b xs) (hy : BytesAt w a ys) (ha : ¬ Of a b) : Calls Tryd.prog 38 [.pointer (some ⟨b, 0, none⟩), .slice a len cap].toArray w (fun r w' => r = .returned (.tuple #[]) ∧ MM (fun k => k = b) w w' ∧ WrAt (fun k => S k ∨ Of a k ∨ (w.heap.size ≤ k ∧ k < w'.heap.size)) w' b (xs ++ ys)) := by
  subst hlen
  obtain ⟨ps, p, ho, hc, he, hb⟩ := hr
  refine (put_c b p xs ys a cap w hw hbl ho hl hl2).mono fun r w' ⟨q, h1, h2, h3, h4, h5⟩ => ⟨h1, h2, ys :: ps, _, h3, ⟨q, a, cap, p, rfl, h5, h2.bytes hy (fun ad e h => ha ⟨ad, e, h.symm⟩), .inr (.inr h4), fun k hk => .inr (.inl hk), hc.mm h2 (fun k hk => ⟨fun h => hb (h ▸ hk), .inl hk⟩)⟩, by rw [List.reverse_cons, List.flatten_append, he]; simp, ?_⟩
  rintro (h | h | h)
  · exact hb h
  · exact ha h
  · have := ho.lt; omega
theorem wb_calls (S : Nat → Prop) (b : Nat) (xs ys : List (BitVec 8)) (a : Option Addr) (cap : Nat) (hl : xs.length ≤ 1000000) (hl2 : ys.length ≤ 1000000) (w : World) (hw : Gt w) (hbl : 1 ≤ b) (hr : WrAt S w b xs) (hy : BytesAt w a ys) : Calls Tryd.prog 28 [.pointer (some ⟨b, 0, none⟩), .slice a ys.length cap].toArray w (fun r w' => r = .returned (.tuple #[]) ∧ MM (fun k => k = b) w w' ∧ WrAt (fun k => S k ∨ (w.heap.size ≤ k ∧ k < w'.heap.size)) w' b (xs ++ ys)) := by
  have hGF : BOk Gt (pl w) := gt_low.plain hw
  refine calls_of_X (G := Gt) Tryd.func28 rfl rfl (Hp (pl w) []) (hp_refl (pl w) trivial rides_true) (good_hp hGF) ?_
  refine xs_plain (E := EE [38]) ?_
  refine lx_move rfl rfl rfl ?_
  refine lx_len rfl (fun _ => len_slice Tryd.underlying39 _ _ _ _) rfl rfl ?_
  refine lx_mkslC (l := ys.length) (m := ys.length) (c := (List.replicate (ys.length) 0#8).map U8) 7 hGF rfl rfl (Nat.le_refl _) Tryd.underlying39 ti5 ⟨by omega, by omega, by omega⟩ (by rw [Nat.mul_one]; exact made8 _) rfl rfl ?_
  intro b7
  refine lx_assign rfl rfl rfl ?_
  refine lx_nil ?_
  refine xs_plain (E := EE [38]) ?_
  refine lx_move rfl rfl rfl ?_
  refine lx_move rfl rfl rfl ?_
  refine lx_copys (cs := ys) 7 hGF rfl rfl rfl Tryd.underlying39 (by kernel_rfl) (Nat.min_self _).symm (fun w' h => hy.grow (hp_below h)) (by simp) rfl rfl ?_
  rw [lay_all _ _ (by simp)]
  refine lx_nil ?_
  refine x_plain (E := EE [38]) ?_
  refine lx_move rfl rfl rfl ?_
  refine lx_move rfl rfl rfl ?_
  refine lx_callE rfl rfl ent38 rfl rfl (fun w3 hC => (put_calls S b xs ys (some ⟨b7, 0, none⟩) _ ys.length rfl hl hl2 w3 (hGF.g _ _ _ hC) hbl (hr.grow (hp_below hC)) (BytesAt.range (hp_row (n := 7) rfl w3 hC)) (fun ⟨ad, e, hb⟩ => by cases e; dsimp only at hb; have h1 : w.heap.size ≤ b7 := (hC.own 7 _ _ _ rfl).2.elim id False.elim; have := hr.lt; omega)).mono fun e1 w4 h => ?_)
  obtain ⟨rfl, hm, hW⟩ := h
  have hg3 := hp_below hC
  have hnb : w.heap.size ≤ b7 := (hC.own 7 _ _ _ rfl).2.elim id False.elim
  have hnl : b7 < w3.heap.size := (hC.own 7 _ _ _ rfl).1.lt
  have hg4 : Gt w4 := gt_low.same w3 w4 (fun k hk => hm.keep k (Nat.lt_of_lt_of_le hk (gt_low.size w3 (hGF.g _ _ _ hC))) fun h => by omega) (hGF.g _ _ _ hC)
  refine ⟨_, Hp (pl w4) [], rfl, good_hp (gt_low.plain hg4), hp_refl (pl w4) trivial rides_true, ?_⟩
  refine lx_nil ?_
  first | exact kret_none rfl (fun w' hw' => ⟨rfl, ((grow_mm hg3).trans hm).trans (grow_mm (hp_below hw')), (hW.grow (hp_below hw')).mm (M := fun _ => False) (grow_mm (Grow.refl w')) id (fun k hk => ⟨id, by rcases hk with h | ⟨ad, e, h⟩ | h; exact .inl h; exact .inr (by cases e; dsimp only at h; have := hm.size; have := (hp_below hw').size; omega); exact .inr (by have := hg3.size; have := (hp_below hw').size; omega)⟩) (fun h => h.elim hr.out (by have := hr.lt; omega))⟩) | exact kend_none rfl (fun w' hw' => ⟨rfl, ((grow_mm hg3).trans hm).trans (grow_mm (hp_below hw')), (hW.grow (hp_below hw')).mm (M := fun _ => False) (grow_mm (Grow.refl w')) id (fun k hk => ⟨id, by rcases hk with h | ⟨ad, e, h⟩ | h; exact .inl h; exact .inr (by cases e; dsimp only at h; have := hm.size; have := (hp_below hw').size; omega); exact .inr (by have := hg3.size; have := (hp_below hw').size; omega)⟩) (fun h => h.elim hr.out (by have := hr.lt; omega))⟩)
theorem cutB (b s e : Nat) : (if e = s then some (⟨b, 0, none⟩ : Addr) else (some (⟨b, 0, none⟩ : Addr)).map (·.add (s * 1))) = some ⟨b, if e = s then 0 else s, none⟩ := by
  split
  · rfl
  · simp [Addr.add]
    intro h; exact h.symm
theorem lay_mid {z x t : List (BitVec 8)} {s e o : Nat} (ho : o = if e = s then 0 else s) (he : e = s + x.length) (hz : z = List.replicate e 0#8) : lay o (x.map U8) ((z ++ t).map U8) = ((List.replicate s 0#8 ++ x) ++ t).map U8 := by
  subst hz
  by_cases h : e = s
  · have hx : x = [] := List.eq_nil_of_length_eq_zero (by omega)
    subst hx
    rw [h]
    simp [lay]
  · rw [if_neg h] at ho
    subst ho
    rw [lay_eq _ _ _ (by simp; omega)]
    simp only [← List.map_take, ← List.map_drop, ← List.map_append, List.length_map]
    congr 1
    rw [List.take_append_of_le_length (by simp; omega), List.take_replicate, Nat.min_eq_left (by omega), ← he, List.drop_append_of_le_length (by simp), List.drop_replicate, Nat.sub_self]
    simp
structure LaV (w : World) (S : Nat → Prop) (ps : List (List (BitVec 8))) where
  (d r : List (List (BitVec 8))) (p : Option Addr)
  h : d ++ r = ps
  c : Chain w S r p
theorem wal_calls (S : Nat → Prop) (b : Nat) (xs : List (BitVec 8)) (hl : xs.length ≤ 1000000) (w : World) (hw : Gt w) (hr : WrAt S w b xs) : Calls Tryd.prog 29 [.pointer (some ⟨b, 0, none⟩)].toArray w (fun e w' => ∃ v, e = .returned v ∧ Grow w w' ∧ Fr8 w w' v xs) := by
  obtain ⟨ps, p0, ho, hch, he, _⟩ := hr
  have hGF : BOk Gt (pl w) := gt_low.plain hw
  refine calls_of_X (G := Gt) Tryd.func29 rfl rfl (Hp (pl w) []) (hp_refl (pl w) trivial rides_true) (good_hp hGF) ?_
  refine xs_plain (E := EE []) ?_
  refine lx_assign rfl rfl rfl ?_
  refine lx_nil ?_
  refine xs_plain (E := EE []) ?_
  refine lx_move rfl rfl rfl ?_
  refine lx_nilc rfl rfl rfl ?_
  refine lx_fak 1 rfl Tryd.underlying66 rfl Tryd.sizeOf3 (by decide) rfl rfl rfl ?_
  refine lx_load rfl Tryd.isAgg3 (fun w' h => ((ho.grow (hp_below h)).cell 1).trans rfl) rfl rfl ?_
  refine lx_mkslC (l := xs.length) (m := xs.length) (c := (List.replicate (xs.length) 0#8).map U8) 11 hGF rfl rfl (Nat.le_refl _) Tryd.underlying39 ti5 ⟨by omega, by omega, by omega⟩ (by rw [Nat.mul_one]; exact made8 _) rfl rfl ?_
  intro b11
  refine lx_assign rfl rfl rfl ?_
  refine lx_nil ?_
  refine xs_plain (E := EE []) ?_
  refine lx_move rfl rfl rfl ?_
  refine lx_len rfl (fun _ => len_slice Tryd.underlying39 _ _ _ _) rfl rfl ?_
  refine lx_assign rfl rfl rfl ?_
  refine lx_nil ?_
  refine x_seq ?_
  refine xs_plain (E := EE []) ?_
  refine lx_move rfl rfl rfl ?_
  refine lx_nilc rfl rfl rfl ?_
  refine lx_fak 0 rfl Tryd.underlying66 rfl Tryd.sizeOf64 (by decide) rfl rfl rfl ?_
  refine lx_load rfl Tryd.isAgg64 (fun w' h => ((ho.grow (hp_below h)).cell 0).trans rfl) rfl rfl ?_
  refine lx_assign rfl rfl rfl ?_
  refine lx_nil ?_
  refine x_block ?_
  refine x_for (ι := LaV w S ps) (fun y => [(0, .pointer (some ⟨b, 0, none⟩)), (3, .slice (some ⟨b11, 0, none⟩) xs.length xs.length), (4, I ((y.r.reverse.flatten).length : Int)), (5, .pointer y.p)]) (fun y => [(11, b11, ((List.replicate (y.r.reverse.flatten).length 0#8 ++ y.d.reverse.flatten).map U8), 5)]) (fun y => y.r.length) ⟨[], ps, p0, rfl, hch⟩ hGF ⟨rfl, rfl, by rw [he]; rfl, rfl, trivial⟩ ⟨by rw [he]; simp; rfl, trivial⟩ ?_
  rintro ⟨d, r, p, hdr, hc⟩
  dsimp only
  have hc2 := hc
  clear hc
  refine x_seq ?_
  refine xs_plain (E := EE []) ?_
  refine lx_move rfl rfl rfl ?_
  refine lx_bin rfl rfl (fun _ => rfl) (fun w' => bin_ne_pn Tryd.underlying64 _ w') rfl rfl ?_
  refine lx_nil ?_
  refine x_if rfl (fun hc => ?_) (fun hc => ?_)
  · obtain ⟨x, r, rfl⟩ : ∃ x r', r = x :: r' := by
      cases r with
      | nil => rw [show p = none from hc2] at hc; cases hc
      | cons x r => exact ⟨x, r, rfl⟩
    clear hc
    obtain ⟨q, a, c, pa, rfl, hrg, hby, hSq, hSa, hc6⟩ := hc2
    have hr0 := hrg 0 _ rfl
    have hr1 := hrg 1 _ rfl
    have hlen : ((x :: r).reverse.flatten).length = (r.reverse.flatten).length + x.length := by rw [List.reverse_cons, List.flatten_append, List.length_append]; simp
    have htot : ((x :: r).reverse.flatten).length + (d.reverse.flatten).length = xs.length := by rw [← he, ← hdr, List.reverse_append, List.flatten_append, List.length_append]
    have hcl : (List.replicate ((x :: r).reverse.flatten).length 0#8 ++ d.reverse.flatten).length = xs.length := by rw [List.length_append, List.length_replicate, htot]
    refine x_skip ?_
    refine x_seq ?_
    refine x_block ?_
    refine xs_plain (E := EE []) ?_
    refine lx_move rfl rfl rfl ?_
    refine lx_move rfl rfl rfl ?_
    refine lx_nilc rfl rfl rfl ?_
    refine lx_fak 0 rfl Tryd.underlying75 rfl Tryd.sizeOf39 (by decide) rfl rfl rfl ?_
    refine lx_load rfl Tryd.isAgg39 (fun w' h => ((hp_below h).cell (block_lt_of_cell hr0)).trans hr0) rfl rfl ?_
    refine lx_len rfl (fun _ => len_slice Tryd.underlying39 _ _ _ _) rfl rfl ?_
    refine lx_bin (v := I (((r.reverse.flatten).length : Int))) rfl rfl (fun _ => rfl) (fun _ => (bin_sub_i _ _ _ (by unfold inI; omega)).trans (by congr 2; omega)) rfl rfl ?_
    refine lx_assign rfl rfl rfl ?_
    refine lx_nil ?_
    refine xs_drawn (E := EE []) mixed (by kernel_rfl) (by kernel_rfl) (by kernel_rfl) ?_
    refine lx_move rfl rfl rfl ?_
    refine lx_move rfl rfl rfl ?_
    refine lx_move rfl rfl rfl ?_
    refine lx_move rfl rfl rfl ?_
    refine lx_slsl3 (l := (r.reverse.flatten).length) (h' := ((x :: r).reverse.flatten).length) (m := ((x :: r).reverse.flatten).length) rfl Tryd.underlying39 Tryd.sizeOf5 rfl rfl rfl ⟨by omega, Nat.le_refl _, by omega⟩ rfl rfl ?_
    rw [cutB]
    refine lx_move rfl rfl rfl ?_
    refine lx_nilc rfl rfl rfl ?_
    refine lx_fak 0 rfl Tryd.underlying75 rfl Tryd.sizeOf39 (by decide) rfl rfl rfl ?_
    refine lx_load rfl Tryd.isAgg39 (fun w' h => ((hp_below h).cell (block_lt_of_cell hr0)).trans hr0) rfl rfl ?_
    refine lx_copys (cs := x) 11 hGF rfl rfl rfl Tryd.underlying39 (by kernel_rfl) (by rw [hlen, Nat.add_sub_cancel_left]; exact (Nat.min_self _).symm) (fun w' h => hby.grow (hp_below h)) (by split <;> simp <;> omega) rfl rfl ?_
    rw [lay_mid (t := d.reverse.flatten) rfl hlen rfl]
    refine lx_nil ?_
    refine x_plain (E := EE []) ?_
    refine lx_move rfl rfl rfl ?_
    refine lx_assign rfl rfl rfl ?_
    refine lx_nil ?_
    refine x_plain (E := EE []) ?_
    refine lx_move rfl rfl rfl ?_
    refine lx_nilc rfl rfl rfl ?_
    refine lx_fak 1 rfl Tryd.underlying75 rfl Tryd.sizeOf64 (by decide) rfl rfl rfl ?_
    refine lx_load rfl Tryd.isAgg64 (fun w' h => ((hp_below h).cell (block_lt_of_cell hr1)).trans hr1) rfl rfl ?_
    refine lx_assign rfl rfl rfl ?_
    refine lx_nil ?_
    repeat (refine kblk_n ?_)
    refine kseq_n ?_
    exact ⟨rfl, ⟨d ++ [x], r, pa, by rw [List.append_assoc]; exact hdr, hc6⟩, _, by show r.length < r.length + 1; omega, rfl, ⟨rfl, rfl, rfl, rfl, trivial⟩, ⟨by rw [List.reverse_append]; simp [List.append_assoc]; rfl, trivial⟩⟩
  · have hrn : r = [] := by
      cases r with
      | nil => rfl
      | cons x r => obtain ⟨_, _, _, _, rfl, _⟩ := hc2; cases hc
    subst hrn
    rw [List.append_nil] at hdr
    subst hdr
    refine x_exit ?_
    refine xs_plain (E := EE []) ?_
    refine lx_move rfl rfl rfl ?_
    refine lx_assign rfl rfl rfl ?_
    refine lx_nil ?_
    refine x_ret ?_
    repeat (first | refine kseq_ret ?_ | refine kblk_ret ?_)
    exact kret_tmp rfl rfl (fun w' hw' => ⟨_, rfl, hp_below hw', fr8_all (n := 11) hw' (by rw [← he]; rfl)⟩)
end Go.Proofs.YtdkkipjcmflclaaDoor
