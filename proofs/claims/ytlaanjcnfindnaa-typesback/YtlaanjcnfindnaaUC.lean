/-
  What the program's fields read.
-/
import Derived.Test.YtlaanjcnfindnaaUA
import Derived.Test.YtlaanjcnfindnaaVF
namespace Go.Proofs.Ytlaanjcnfindnaa
open Go.RowKit
set_option maxRecDepth 100000
set_option maxHeartbeats 1000000

theorem rg0 {w w' : World} {q : Nat} {cs : List Value} (h : w.rangeAt q 0 cs) (hp : Hp (pl w) [] w') : w'.rangeAt q 0 cs := MM.range (M := fun _ => False) (grow_mm (hp_below hp)) h id
/-- A reader; its bytes lie apart from block o. -/
def RdX (o B : Nat) (w : World) (b : Nat) (bs : By) (e : Int) : Prop := ∃ S, RdAt 135 S w b bs e ∧ ¬ S o ∧ ∀ k, S k → k < B
theorem RdX.mm {o B p : Nat} {w w' : World} {b : Nat} {bs : By} {e : Int} (h : RdX o B w b bs e) (hm : MM (fun k => k = p) w w') (hb : b ≠ p) (hp : p = o ∨ B ≤ p) : RdX o B w' b bs e := by
  obtain ⟨S, h, hS, hB⟩ := h
  exact ⟨S, h.mm hm hb (fun k hk _ h0 => hp.elim (fun h1 => hS ((h0.trans h1) ▸ hk)) (fun h1 => by have := hB k hk; omega)), hS, hB⟩
theorem RdX.grow {o B : Nat} {w w' : World} {b : Nat} {bs : By} {e : Int} (h : RdX o B w b bs e) (hg : Grow w w') : RdX o B w' b bs e := by
  obtain ⟨S, h, hS⟩ := h
  exact ⟨S, h.grow hg, hS⟩
/-- Behind a field's reading: the block's cells, the reader. -/
structure RdQ (B : Nat) (w : World) (ob rb : Nat) (t : TypeId) (c : List Value) (bs : By) (e : Int) (w' : World) : Prop where
  m : MM (fun k => k = rb ∨ k = ob) w w'
  c : OwnB w' ob c t
  r : RdX ob B w' rb bs e
theorem mm_r {rb ob : Nat} {w w' : World} (h : MM (fun k => k = rb) w w') : MM (fun k => k = rb ∨ k = ob) w w' := h.mono fun _ _ e => .inl e
theorem mm_o {rb ob : Nat} {w w' : World} (h : MM (fun k => k = ob) w w') : MM (fun k => k = rb ∨ k = ob) w w' := h.mono fun _ _ e => .inr e
theorem mm_g {rb ob : Nat} {w w' : World} (h : Grow w w') : MM (fun k => k = rb ∨ k = ob) w w' := grow_mm h
theorem rg_g {w w' : World} {q p : Nat} {cs : List Value} (h : w.rangeAt q p cs) (hg : Grow w w') : w'.rangeAt q p cs := MM.range (M := fun _ => False) (grow_mm hg) h id
theorem rnum_c (B ob o q rb : Nat) (hne : rb ≠ ob) (hqr : q ≠ rb) (hqo : q ≠ ob) (t : TypeId) (c : List Value) (hoc : o < c.length) (bs : By) (e : Int) (w : World) (hw : Gt w) (ho : OwnB w ob c t) (hq : w.rangeAt q 0 [pt ob o]) (hr : RdX ob B w rb bs e) : Calls Try.prog 74 [pt rb 0, pt q 0].toArray w (fun r w' => r = .returned (.tuple #[]) ∧ RdQ B w ob rb t (c.set o (U64 (pn (got bs e 8) (got bs e 8).length))) (lft bs e 8) (err bs e 8) w') := by
  obtain ⟨S, hr, hSo⟩ := hr
  have hGF : BOk Gt (pl w) := gt_low.plain hw
  refine calls_of_X (G := Gt) Try.func74 rfl rfl (Hp (pl w) []) (hp_refl (pl w) trivial rides_true) (good_hp hGF) ?_
  refine x_drawK (E := EE [75]) (fun X => X = (fun w' => w'.rangeAt q 0 [pt ob o])) (mkC [75]) (rkB [3]) [0, 1, 2, 3, 4] mixed rfl (by kernel_rfl) (by kernel_rfl) (by kernel_rfl) ?_
  refine lxk_q (X := fun w' => w'.rangeAt q 0 [pt ob o]) rfl (fun w' h => rg0 hq h) (fun _ => rfl) ?_
  refine lx_load (v := pt ob o) rfl Try.isAgg114 (fun w' h => h 0 _ rfl) rfl rfl ?_
  refine lx_nil ?_
  refine lxk_s rfl rfl ?_
  refine lx_move rfl rfl rfl ?_
  refine lx_nil ?_
  refine lxk_e rfl ?_
  refine lx_callW gt_low (M := fun k => k = rb) (fun k _ => Nat.zero_le k) rfl rfl ent75 rfl rfl hGF (Q := fun w1 w2 v => v = U64 (pn (got bs e 8) (got bs e 8).length) ∧ RdAt 135 S w2 rb (lft bs e 8) (err bs e 8)) (fun w1 h1 g1 => (ru_calls S rb bs e w1 g1 (Nat.zero_le _) (hr.grow h1)).mono fun e2 w2 ⟨v, q1, q2, q3, q4⟩ => ⟨_, q1, q2, q3, q4⟩) (fun w1 w2 v hg1 hm1 g2 hv => ?_)
  have hGF : BOk Gt (pl w2) := gt_low.plain g2
  have hq2 := hm1.range (rg_g hq hg1) hqr
  have ho2 := hm1.own (ho.grow hg1) (fun h => hne h.symm)
  obtain ⟨rfl, hR⟩ := hv
  refine lx_nil ?_
  refine ⟨fun _ X hX _ => by subst hX; exact fun w' h => rg0 hq2 h, ?_⟩
  refine lxk_s rfl rfl ?_
  refine lx_nilc rfl rfl rfl ?_
  refine lx_nil ?_
  refine lxk_e rfl ?_
  refine lx_st1W gt_low (fun w' h => hGF.g _ _ _ h) (fun w' h => ho2.grow (hp_below h)) (Nat.zero_le _) rfl rfl Try.sizeOf22 rfl hoc rfl (fun w3a w3 hC3 g3 hm3 ho3 => ?_)
  have hq3 := hm3.range (rg0 hq2 hC3) hqo
  refine lx_nil ?_
  refine ⟨fun _ X hX _ => by subst hX; exact fun w' h => rg0 hq3 h, ?_⟩
  refine lxk_nil ?_
  first | exact kret_none rfl (fun w' hw' => ⟨rfl, ⟨(((mm_g hg1).trans (mm_r hm1)).trans (mm_g (hp_below hC3))).trans ((mm_o hm3).trans (mm_g (hp_below hw'))), ho3.grow (hp_below hw'), ((RdX.mm (RdX.grow ⟨S, hR, hSo⟩ (hp_below hC3)) hm3 hne (.inl rfl)).grow (hp_below hw'))⟩⟩) | exact kend_none rfl (fun w' hw' => ⟨rfl, ⟨(((mm_g hg1).trans (mm_r hm1)).trans (mm_g (hp_below hC3))).trans ((mm_o hm3).trans (mm_g (hp_below hw'))), ho3.grow (hp_below hw'), ((RdX.mm (RdX.grow ⟨S, hR, hSo⟩ (hp_below hC3)) hm3 hne (.inl rfl)).grow (hp_below hw'))⟩⟩)
theorem roct_c (B ob o q rb : Nat) (hne : rb ≠ ob) (hqr : q ≠ rb) (hqo : q ≠ ob) (t : TypeId) (c : List Value) (n cc : Nat) (hoc : o + n ≤ c.length) (bs : By) (e : Int) (hl : bs.length ≤ 100000) (w : World) (hw : Gt w) (ho : OwnB w ob c t) (hq : w.rangeAt q 0 [.slice (some ⟨ob, o, none⟩) n cc]) (hr : RdX ob B w rb bs e) : Calls Try.prog 79 [pt rb 0, pt q 0].toArray w (fun r w' => r = .returned (.tuple #[]) ∧ RdQ B w ob rb t (lay o ((got bs e n).map U8) c) (lft bs e n) (err bs e n) w') := by
  obtain ⟨S, hr, hSo⟩ := hr
  have hGF : BOk Gt (pl w) := gt_low.plain hw
  refine calls_of_X (G := Gt) Try.func79 rfl rfl (Hp (pl w) []) (hp_refl (pl w) trivial rides_true) (good_hp hGF) ?_
  refine x_drawK (E := EE [80]) (fun X => X = (fun w' => w'.rangeAt q 0 [.slice (some ⟨ob, o, none⟩) n cc])) (mkC [80]) (rkB [3]) [0, 1, 2, 3, 4, 5] mixed rfl (by kernel_rfl) (by kernel_rfl) (by kernel_rfl) ?_
  refine lxk_q (X := fun w' => w'.rangeAt q 0 [.slice (some ⟨ob, o, none⟩) n cc]) rfl (fun w' h => rg0 hq h) (fun _ => rfl) ?_
  refine lx_load (v := .slice (some ⟨ob, o, none⟩) n cc) rfl Try.isAgg46 (fun w' h => h 0 _ rfl) rfl rfl ?_
  refine lx_nil ?_
  refine lxk_s rfl rfl ?_
  refine lx_move rfl rfl rfl ?_
  refine lx_nil ?_
  refine lxk_s rfl rfl ?_
  refine lx_load (v := .slice (some ⟨ob, o, none⟩) n cc) rfl Try.isAgg46 (fun w' h => rg0 hq h 0 _ rfl) rfl rfl ?_
  refine lx_nil ?_
  refine lxk_s rfl rfl ?_
  refine lx_len rfl (fun _ => len_slice Try.underlying46 _ _ _ _) rfl rfl ?_
  refine lx_nil ?_
  refine lxk_e rfl ?_
  refine lx_callW gt_low (M := fun k => k = rb) (fun k _ => Nat.zero_le k) rfl rfl ent80 rfl rfl hGF (Q := fun w1 w2 v => Fr8 w1 w2 v (got bs e n) ∧ RdAt 135 S w2 rb (lft bs e n) (err bs e n)) (fun w1 h1 g1 => (rb_calls S rb bs e (n : Int) (by omega) w1 g1 (Nat.zero_le _) (hr.grow h1)).mono fun e2 w2 ⟨v, q1, q2, q3, q4⟩ => ⟨_, q1, q2, q3, q4⟩) (fun w1 w2 v hg1 hm1 g2 hv => ?_)
  have hGF : BOk Gt (pl w2) := gt_low.plain g2
  have hq2 := hm1.range (rg_g hq hg1) hqr
  have ho2 := hm1.own (ho.grow hg1) (fun h => hne h.symm)
  obtain ⟨⟨a2, c2, rfl, hs2, hn2⟩, hR⟩ := hv
  have hob1 : ob < w1.heap.size := Nat.lt_of_lt_of_le ho.lt hg1.size
  refine lx_nil ?_
  refine ⟨fun _ X hX _ => by subst hX; exact fun w' h => rg0 hq2 h, ?_⟩
  refine lxk_e rfl ?_
  refine lx_cpW (cs := got bs e n) gt_low (fun w' h => hGF.g _ _ _ h) (fun w' h => ho2.grow (hp_below h)) (Nat.zero_le _) rfl rfl Try.underlying46 (by kernel_rfl) (Nat.min_eq_left (got_le bs e n)).symm (fun w' h => (hs2.grow (hp_below h)).bytes) (fun w' h _ ad e0 h0 => by have := hn2 ad e0; omega) (by have := got_le bs e n; omega) rfl rfl (fun w3a w3 hC3 g3 hm3 ho3 => ?_)
  have hq3 := hm3.range (rg0 hq2 hC3) hqo
  refine lx_nil ?_
  refine ⟨fun _ X hX _ => by subst hX; exact fun w' h => rg0 hq3 h, ?_⟩
  refine lxk_nil ?_
  first | exact kret_none rfl (fun w' hw' => ⟨rfl, ⟨(((mm_g hg1).trans (mm_r hm1)).trans (mm_g (hp_below hC3))).trans ((mm_o hm3).trans (mm_g (hp_below hw'))), ho3.grow (hp_below hw'), ((RdX.mm (RdX.grow ⟨S, hR, hSo⟩ (hp_below hC3)) hm3 hne (.inl rfl)).grow (hp_below hw'))⟩⟩) | exact kend_none rfl (fun w' hw' => ⟨rfl, ⟨(((mm_g hg1).trans (mm_r hm1)).trans (mm_g (hp_below hC3))).trans ((mm_o hm3).trans (mm_g (hp_below hw'))), ho3.grow (hp_below hw'), ((RdX.mm (RdX.grow ⟨S, hR, hSo⟩ (hp_below hC3)) hm3 hne (.inl rfl)).grow (hp_below hw'))⟩⟩)
theorem rbit_c (B ob o q rb : Nat) (hne : rb ≠ ob) (hqr : q ≠ rb) (hqo : q ≠ ob) (t : TypeId) (c : List Value) (hoc : o < c.length) (n r : Nat) (hn : n ≤ 1000) (bs : By) (e : Int) (hl : bs.length ≤ 100000) (w : World) (hw : Gt w) (ho : OwnB w ob c t) (hq : w.rangeAt q 0 [pt ob o]) (hqn : w.rangeAt r 0 [I (n : Int)]) (hr : RdX ob B w rb bs e) : Calls Try.prog 85 [pt rb 0, pt r 0, pt q 0].toArray w (fun x w' => x = .returned (.tuple #[]) ∧ ∃ a2 c2, RdQ B w ob rb t (c.set o (.slice a2 (gotB bs e n).length c2)) (lftB bs e n) (errB bs e n) w' ∧ SlV 4 w' a2 c2 ((gotB bs e n).map .bool) ∧ New w a2) := by
  obtain ⟨S, hr, hSo⟩ := hr
  have hGF : BOk Gt (pl w) := gt_low.plain hw
  refine calls_of_X (G := Gt) Try.func85 rfl rfl (Hp (pl w) []) (hp_refl (pl w) trivial rides_true) (good_hp hGF) ?_
  refine x_drawK (E := EE [86]) (fun X => X = (fun w' => w'.rangeAt q 0 [pt ob o])) (mkC [86]) (rkB [4]) [0, 1, 2, 3, 4, 5] mixed rfl (by kernel_rfl) (by kernel_rfl) (by kernel_rfl) ?_
  refine lxk_q (X := fun w' => w'.rangeAt q 0 [pt ob o]) rfl (fun w' h => rg0 hq h) (fun _ => rfl) ?_
  refine lx_load (v := pt ob o) rfl Try.isAgg132 (fun w' h => h 0 _ rfl) rfl rfl ?_
  refine lx_nil ?_
  refine lxk_s rfl rfl ?_
  refine lx_move rfl rfl rfl ?_
  refine lx_nil ?_
  refine lxk_s rfl rfl ?_
  refine lx_load (v := I (n : Int)) rfl Try.isAgg3 (fun w' h => rg0 hqn h 0 _ rfl) rfl rfl ?_
  refine lx_nil ?_
  refine lxk_e rfl ?_
  refine lx_callW gt_low (M := fun k => k = rb) (fun k _ => Nat.zero_le k) rfl rfl ent86 rfl rfl hGF (Q := fun w1 w2 v => FrB w1 w2 v (gotB bs e n) ∧ RdAt 135 S w2 rb (lftB bs e n) (errB bs e n)) (fun w1 h1 g1 => (rt_calls S rb bs e (n : Int) (by omega) hl w1 g1 (Nat.zero_le _) (hr.grow h1)).mono fun e2 w2 ⟨v, q1, q2, q3, q4⟩ => ⟨_, q1, q2, q3, q4⟩) (fun w1 w2 v hg1 hm1 g2 hv => ?_)
  have hGF : BOk Gt (pl w2) := gt_low.plain g2
  have hq2 := hm1.range (rg_g hq hg1) hqr
  have ho2 := hm1.own (ho.grow hg1) (fun h => hne h.symm)
  obtain ⟨⟨a2, c2, rfl, hs2, hn2⟩, hR⟩ := hv
  have hob1 : ob < w1.heap.size := Nat.lt_of_lt_of_le ho.lt hg1.size
  refine lx_nil ?_
  refine ⟨fun _ X hX _ => by subst hX; exact fun w' h => rg0 hq2 h, ?_⟩
  refine lxk_s rfl rfl ?_
  refine lx_nilc rfl rfl rfl ?_
  refine lx_nil ?_
  refine lxk_e rfl ?_
  refine lx_st1W gt_low (fun w' h => hGF.g _ _ _ h) (fun w' h => ho2.grow (hp_below h)) (Nat.zero_le _) rfl rfl Try.sizeOf34 rfl hoc rfl (fun w3a w3 hC3 g3 hm3 ho3 => ?_)
  have hq3 := hm3.range (rg0 hq2 hC3) hqo
  refine lx_nil ?_
  refine ⟨fun _ X hX _ => by subst hX; exact fun w' h => rg0 hq3 h, ?_⟩
  refine lxk_nil ?_
  first | exact kret_none rfl (fun w' hw' => ⟨rfl, a2, c2, ⟨(((mm_g hg1).trans (mm_r hm1)).trans (mm_g (hp_below hC3))).trans ((mm_o hm3).trans (mm_g (hp_below hw'))), ho3.grow (hp_below hw'), ((RdX.mm (RdX.grow ⟨S, hR, hSo⟩ (hp_below hC3)) hm3 hne (.inl rfl)).grow (hp_below hw'))⟩, ((hs2.grow (hp_below hC3)).mm hm3 (fun ad e0 h0 => by have := hn2 ad e0; omega)).grow (hp_below hw'), fun ad e0 => Nat.le_trans hg1.size (hn2 ad e0)⟩) | exact kend_none rfl (fun w' hw' => ⟨rfl, a2, c2, ⟨(((mm_g hg1).trans (mm_r hm1)).trans (mm_g (hp_below hC3))).trans ((mm_o hm3).trans (mm_g (hp_below hw'))), ho3.grow (hp_below hw'), ((RdX.mm (RdX.grow ⟨S, hR, hSo⟩ (hp_below hC3)) hm3 hne (.inl rfl)).grow (hp_below hw'))⟩, ((hs2.grow (hp_below hC3)).mm hm3 (fun ad e0 h0 => by have := hn2 ad e0; omega)).grow (hp_below hw'), fun ad e0 => Nat.le_trans hg1.size (hn2 ad e0)⟩)
end Go.Proofs.Ytlaanjcnfindnaa
