/-
  The document's reader: roots, keys, headers.
-/
import Derived.Test.YtlaanjcnfindnaaVC
import Derived.Test.YtlaanjcnfindnaaX3
namespace Go.Proofs.Ytlaanjcnfindnaa
open Go.RowKit
set_option maxRecDepth 100000
set_option maxHeartbeats 1000000

theorem ent45 : Enters Try.prog 45 := fun _ _ => by kernel_rfl
theorem ent64 : Enters Try.prog 64 := fun _ _ => by kernel_rfl
theorem ent46 : Enters Try.prog 46 := fun _ _ => by kernel_rfl
theorem ent50 : Enters Try.prog 50 := fun _ _ => by kernel_rfl
theorem ent48 : Enters Try.prog 48 := fun _ _ => by kernel_rfl
theorem ent47 : Enters Try.prog 47 := fun _ _ => by kernel_rfl
theorem sb2_calls (S : Nat → Prop) (b : Nat) (bs : List (BitVec 8)) (e : Int) (z : Int) (w : World) (hw : Gt w) (hbl : 0 ≤ b) (hr : RdAt 84 S w b bs e) : Calls Try.prog 65 [.pointer (some ⟨b, 0, none⟩), I z].toArray w (fun r w' => ∃ v, r = .returned v ∧ MM (fun k => k = b) w w' ∧ (∃ a1 c1, v = .slice a1 (got bs e z.toNat).length c1 ∧ BytesAt w' a1 (got bs e z.toNat) ∧ ∀ ad, a1 = some ad → S ad.block) ∧ RdAt 84 S w' b (lft bs e z.toNat) (err bs e z.toNat)) := by
  obtain ⟨a, c, ho, hc, hy, hs⟩ := hr
  by_cases he : e = 0
  · subst he
    rcases Nat.lt_or_ge bs.length z.toNat with h | h
    · obtain ⟨e1, e2, e3⟩ := rd_l h
      rw [e1, e2, e3]
      exact (sb_l b a c bs.length z w hw hbl ho h).mono fun r w' ⟨h1, h2, h3⟩ => ⟨_, h1, h2, ⟨none, 0, rfl, bytes_nil _ _, fun _ h => by cases h⟩, a, c, h3, hc, h2.bytes hy (fun ad e h => (hs ad e).2 h), hs⟩
    · obtain ⟨e1, e2, e3⟩ := rd_k h
      rw [e1, e2, e3]
      exact (sb_k b a c bs.length z w hw hbl ho h hc).mono fun r w' ⟨h1, h2, h3⟩ => ⟨_, h1, h2, ⟨a, c, by rw [List.length_take, Nat.min_eq_left h], (h2.bytes hy (fun ad e h => (hs ad e).2 h)).take _, fun ad e => (hs ad e).1⟩, rd_pass hc h hy hs h2 h3⟩
  · obtain ⟨e1, e2, e3⟩ := rd_e (bs := bs) z.toNat he
    rw [e1, e2, e3]
    exact (sb_e b a c bs.length e z w hw hbl ho he).mono fun r w' ⟨h1, h2, h3⟩ => ⟨_, h1, h2, ⟨none, 0, rfl, bytes_nil _ _, fun _ h => by cases h⟩, a, c, h3, hc, h2.bytes hy (fun ad e h => (hs ad e).2 h), hs⟩
def pad0 (s : Nat) (l : By) : By := l ++ List.replicate (s - l.length) 0#8
theorem got_lm (bs : By) (e : Int) (m : Nat) : (got bs e m).length ≤ m := by unfold got; split <;> simp <;> omega
theorem pad_len {s : Nat} {l : By} (h : l.length ≤ s) : (pad0 s l).length = s := by simp [pad0]; omega
theorem pad_all {s : Nat} {l : By} (h : l.length = s) : pad0 s l = l := by simp [pad0, h]
theorem lay_pd0 {s : Nat} {l : By} (h : l.length ≤ s) : lay 0 (l.map U8) ((List.replicate s 0#8).map U8) = (pad0 s l).map U8 := by
  rw [lay_eq _ _ _ (by simpa using h)]
  simp [pad0]
theorem info5 : (Try.prog.info? 5).map (·.size) = some 1 := by kernel_rfl
theorem zv32 (w : World) : (zeroValue 24).run Try.prog w = .ok (.agg ((List.replicate 32 0#8).map U8).toArray) w := (Try.zeroValue24 w).trans (by rfl)
theorem r32_calls (S : Nat → Prop) (b : Nat) (bs : By) (e : Int) (w : World) (hw : Gt w) (hb : b < w.heap.size) (hrd : RdAt 84 S w b bs e) (hSz : ∀ k, S k → k < w.heap.size) : Calls Try.prog 47 [.pointer (some ⟨b, 0, none⟩)].toArray w (fun r w' => ∃ v, r = .returned v ∧ MM (fun k => k = b) w w' ∧ v = .agg ((pad0 32 (got bs e 32)).map U8).toArray ∧ RdAt 84 S w' b (lft bs e 32) (err bs e 32)) := by
  have hGF : BOk Gt (pl w) := gt_low.plain hw
  refine calls_of_X (G := Gt) Try.func47 rfl rfl (Hp (pl w) []) (hp_refl (pl w) trivial rides_true) (good_hp hGF) ?_
  refine xs_plain (E := EE []) ?_
  refine lx_allocr 2 hGF zv32 rfl rfl ?_
  intro b2
  refine lx_nil ?_
  refine xs_plain (E := EE []) ?_
  refine lx_allocr 3 hGF zv32 rfl rfl ?_
  intro b3
  refine lx_nil ?_
  refine x_now0 gt_low (fun w3 hC g3 => ?_)
  have hM : MM (fun k => k = b) w w3 := grow_mm (hp_below hC)
  have hrd := hrd.grow (hp_below hC)
  have ho2 := (hC.own 2 _ _ _ rfl).1
  have hz2 : w.heap.size ≤ b2 := (hC.own 2 _ _ _ rfl).2.elim id False.elim
  have hn2 : b2 ≠ b := fun e => by omega
  have ho3 := (hC.own 3 _ _ _ rfl).1
  have hz3 : w.heap.size ≤ b3 := (hC.own 3 _ _ _ rfl).2.elim id False.elim
  have hn3 : b3 ≠ b := fun e => by omega
  have hx3_2 : b3 ≠ b2 := fun e => by subst e; exact absurd (hC.inj 3 2 _ _ _ _ _ rfl rfl) (by decide)
  clear hC
  have hGF := gt_low.plain g3
  refine xs_drawn (E := EE [65]) mixed (by kernel_rfl) (by kernel_rfl) (by kernel_rfl) ?_
  refine lx_slarr0 rfl Try.underlying24 Try.sizeOf5 (by decide) rfl rfl ?_
  refine lx_move rfl rfl rfl ?_
  refine lx_callW gt_low (M := fun k => k = b) (fun k _ => Nat.zero_le k) rfl rfl ent65 rfl rfl hGF (Q := fun w1 w2 v => (∃ a1 c1, v = .slice a1 (got bs e 32).length c1 ∧ BytesAt w2 a1 (got bs e 32) ∧ ∀ ad, a1 = some ad → S ad.block) ∧ RdAt 84 S w2 b (lft bs e 32) (err bs e 32)) (fun w1 h1 g1 => sb2_calls S b bs e 32 w1 g1 (Nat.zero_le _) (hrd.grow h1)) (fun w6a w6 v hg6 hm6 gg6 hq => ?_)
  have hGF := gt_low.plain gg6
  have hM := (hM.trans (grow_mm hg6)).trans hm6
  have ho2 := hm6.own (ho2.grow hg6) hn2
  have ho3 := hm6.own (ho3.grow hg6) hn3
  obtain ⟨⟨a1, c1, rfl, hby, hab⟩, hrd⟩ := hq
  clear hg6 hm6
  refine lx_cpW (cs := got bs e 32) gt_low (fun w' h => hGF.g _ _ _ h) (fun w' h => ho3.grow (hp_below h)) (Nat.zero_le _) rfl rfl Try.underlying46 info5 (Nat.min_eq_left (got_lm _ _ _)).symm (fun w' h => hby.grow (hp_below h)) (fun w' h _ ad e1 e2 => by have := hSz _ (hab ad e1); omega) (by have := got_lm bs e 32; simp; omega) rfl rfl (fun w7a w7 hC g2 hm h2 => ?_)
  rw [show lay 0 ((got bs e 32).map U8) ((List.replicate 32 0#8).map U8) = (pad0 32 (got bs e 32)).map U8 from lay_pd0 (got_lm _ _ _)] at h2
  have hM := (hM.trans (grow_mm (hp_below hC))).trans' hm (fun i e hi => by subst e; omega)
  have hrd := (hrd.grow (hp_below hC)).mm hm (fun e => hn3 e.symm) (fun i hi hl e => by have := hSz i hi; subst e; omega)
  have ho2 := hm.own (ho2.grow (hp_below hC)) (fun e => hx3_2 e.symm)
  have ho3 := h2
  have hGF := gt_low.plain g2
  clear hC hm h2
  refine lx_nil ?_
  refine xs_plain (E := EE []) ?_
  refine lx_loadr (cs := (pad0 32 (got bs e 32)).map U8) rfl Try.isAgg24 Try.sizeOf24 (by rw [List.length_map]; exact pad_len (got_lm _ _ _)) (fun w' h => (ho3.grow (hp_below h)).range) rfl rfl ?_
  refine lx_stW gt_low (fun w' h => hGF.g _ _ _ h) (fun w' h => ho2.grow (hp_below h)) (Nat.zero_le _) rfl rfl Try.sizeOf24 (by rw [List.length_map]; exact pad_len (got_lm _ _ _)) (one_u8 _) (by rw [List.length_map, pad_len (got_lm _ _ _)]; simp) rfl (fun ws2x1a ws2x1 hC g2 hm h2 => ?_)
  rw [lay_all _ _ (by rw [List.length_map, pad_len (got_lm _ _ _)]; simp)] at h2
  have hM := (hM.trans (grow_mm (hp_below hC))).trans' hm (fun i e hi => by subst e; omega)
  have hrd := (hrd.grow (hp_below hC)).mm hm (fun e => hn2 e.symm) (fun i hi hl e => by have := hSz i hi; subst e; omega)
  have ho3 := hm.own (ho3.grow (hp_below hC)) hx3_2
  have ho2 := h2
  have hGF := gt_low.plain g2
  clear hC hm h2
  refine lx_nil ?_
  refine x_ret ?_
  repeat (first | refine kseq_ret ?_ | refine kblk_ret ?_)
  exact kret_cell rfl rfl Try.isAgg24 Try.sizeOf24 (by rw [List.length_map]; exact pad_len (got_lm _ _ _)) (fun w' h => (ho2.grow (hp_below h)).range) (fun w' hw' => ⟨_, rfl, hM.trans (grow_mm (hp_below hw')), rfl, hrd.grow (hp_below hw')⟩)
theorem rky_calls (S : Nat → Prop) (b : Nat) (bs : By) (e : Int) (w : World) (hw : Gt w) (hb : b < w.heap.size) (hrd : RdAt 84 S w b bs e) (hSz : ∀ k, S k → k < w.heap.size) : Calls Try.prog 64 [.pointer (some ⟨b, 0, none⟩)].toArray w (fun r w' => ∃ v, r = .returned v ∧ MM (fun k => k = b) w w' ∧ v = .agg ((pad0 48 (got bs e 48)).map U8).toArray ∧ RdAt 84 S w' b (lft bs e 48) (err bs e 48)) := by
  have hGF : BOk Gt (pl w) := gt_low.plain hw
  refine calls_of_X (G := Gt) Try.func64 rfl rfl (Hp (pl w) []) (hp_refl (pl w) trivial rides_true) (good_hp hGF) ?_
  refine xs_plain (E := EE []) ?_
  refine lx_allocr 2 hGF zvK rfl rfl ?_
  intro b2
  refine lx_nil ?_
  refine xs_plain (E := EE []) ?_
  refine lx_allocr 3 hGF zvK rfl rfl ?_
  intro b3
  refine lx_nil ?_
  refine x_now0 gt_low (fun w3 hC g3 => ?_)
  have hM : MM (fun k => k = b) w w3 := grow_mm (hp_below hC)
  have hrd := hrd.grow (hp_below hC)
  have ho2 := (hC.own 2 _ _ _ rfl).1
  have hz2 : w.heap.size ≤ b2 := (hC.own 2 _ _ _ rfl).2.elim id False.elim
  have hn2 : b2 ≠ b := fun e => by omega
  have ho3 := (hC.own 3 _ _ _ rfl).1
  have hz3 : w.heap.size ≤ b3 := (hC.own 3 _ _ _ rfl).2.elim id False.elim
  have hn3 : b3 ≠ b := fun e => by omega
  have hx3_2 : b3 ≠ b2 := fun e => by subst e; exact absurd (hC.inj 3 2 _ _ _ _ _ rfl rfl) (by decide)
  clear hC
  have hGF := gt_low.plain g3
  refine xs_drawn (E := EE [65]) mixed (by kernel_rfl) (by kernel_rfl) (by kernel_rfl) ?_
  refine lx_slarr0 rfl Try.underlying29 Try.sizeOf5 (by decide) rfl rfl ?_
  refine lx_move rfl rfl rfl ?_
  refine lx_callW gt_low (M := fun k => k = b) (fun k _ => Nat.zero_le k) rfl rfl ent65 rfl rfl hGF (Q := fun w1 w2 v => (∃ a1 c1, v = .slice a1 (got bs e 48).length c1 ∧ BytesAt w2 a1 (got bs e 48) ∧ ∀ ad, a1 = some ad → S ad.block) ∧ RdAt 84 S w2 b (lft bs e 48) (err bs e 48)) (fun w1 h1 g1 => sb2_calls S b bs e 48 w1 g1 (Nat.zero_le _) (hrd.grow h1)) (fun w6a w6 v hg6 hm6 gg6 hq => ?_)
  have hGF := gt_low.plain gg6
  have hM := (hM.trans (grow_mm hg6)).trans hm6
  have ho2 := hm6.own (ho2.grow hg6) hn2
  have ho3 := hm6.own (ho3.grow hg6) hn3
  obtain ⟨⟨a1, c1, rfl, hby, hab⟩, hrd⟩ := hq
  clear hg6 hm6
  refine lx_cpW (cs := got bs e 48) gt_low (fun w' h => hGF.g _ _ _ h) (fun w' h => ho3.grow (hp_below h)) (Nat.zero_le _) rfl rfl Try.underlying46 info5 (Nat.min_eq_left (got_lm _ _ _)).symm (fun w' h => hby.grow (hp_below h)) (fun w' h _ ad e1 e2 => by have := hSz _ (hab ad e1); omega) (by have := got_lm bs e 48; simp [Z48]; omega) rfl rfl (fun w7a w7 hC g2 hm h2 => ?_)
  rw [show lay 0 ((got bs e 48).map U8) (Z48.map U8) = (pad0 48 (got bs e 48)).map U8 from lay_pd0 (got_lm _ _ _)] at h2
  have hM := (hM.trans (grow_mm (hp_below hC))).trans' hm (fun i e hi => by subst e; omega)
  have hrd := (hrd.grow (hp_below hC)).mm hm (fun e => hn3 e.symm) (fun i hi hl e => by have := hSz i hi; subst e; omega)
  have ho2 := hm.own (ho2.grow (hp_below hC)) (fun e => hx3_2 e.symm)
  have ho3 := h2
  have hGF := gt_low.plain g2
  clear hC hm h2
  refine lx_nil ?_
  refine xs_plain (E := EE []) ?_
  refine lx_loadr (cs := (pad0 48 (got bs e 48)).map U8) rfl Try.isAgg29 Try.sizeOf29 (by rw [List.length_map]; exact pad_len (got_lm _ _ _)) (fun w' h => (ho3.grow (hp_below h)).range) rfl rfl ?_
  refine lx_stW gt_low (fun w' h => hGF.g _ _ _ h) (fun w' h => ho2.grow (hp_below h)) (Nat.zero_le _) rfl rfl Try.sizeOf29 (by rw [List.length_map]; exact pad_len (got_lm _ _ _)) (one_u8 _) (by rw [List.length_map, pad_len (got_lm _ _ _)]; simp [Z48]) rfl (fun ws2x1a ws2x1 hC g2 hm h2 => ?_)
  rw [lay_all _ _ (by rw [List.length_map, pad_len (got_lm _ _ _)]; simp [Z48])] at h2
  have hM := (hM.trans (grow_mm (hp_below hC))).trans' hm (fun i e hi => by subst e; omega)
  have hrd := (hrd.grow (hp_below hC)).mm hm (fun e => hn2 e.symm) (fun i hi hl e => by have := hSz i hi; subst e; omega)
  have ho3 := hm.own (ho3.grow (hp_below hC)) hx3_2
  have ho2 := h2
  have hGF := gt_low.plain g2
  clear hC hm h2
  refine lx_nil ?_
  refine x_ret ?_
  repeat (first | refine kseq_ret ?_ | refine kblk_ret ?_)
  exact kret_cell rfl rfl Try.isAgg29 Try.sizeOf29 (by rw [List.length_map]; exact pad_len (got_lm _ _ _)) (fun w' h => (ho2.grow (hp_below h)).range) (fun w' hw' => ⟨_, rfl, hM.trans (grow_mm (hp_below hw')), rfl, hrd.grow (hp_below hw')⟩)
end Go.Proofs.Ytlaanjcnfindnaa
