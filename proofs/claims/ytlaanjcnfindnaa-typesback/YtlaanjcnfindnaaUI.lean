/-
  The program's fields, read one behind another.
-/
import Derived.Test.YtlaanjcnfindnaaUH
namespace Go.Proofs.Ytlaanjcnfindnaa
open Go.RowKit
set_option maxRecDepth 100000
set_option maxHeartbeats 1000000

/-- Values laid into cells, each at its place. -/
def lays : List (Sp × List Value) → List Value → List Value
  | [], c => c
  | p :: r, c => lays r (lay p.1.o p.2 c)
theorem lays_snoc : ∀ (l : List (Sp × List Value)) (p : Sp × List Value) (c : List Value), lays (l ++ [p]) c = lay p.1.o p.2 (lays l c)
  | [], _, _ => rfl
  | q :: r, p, c => lays_snoc r p (lay q.1.o q.2 c)
theorem lays_len : ∀ (l : List (Sp × List Value)) (c : List Value), (lays l c).length = c.length
  | [], _ => rfl
  | _ :: r, _ => (lays_len r _).trans (lay_length ..)
/-- All that is read is as it may be, up to the field i. -/
def GoodTo (sp : List Sp) (bs : By) (i : Nat) : Prop := ∀ (j : Nat) (s : Sp), j < i → sp[j]? = some s → s.Good (bs.drop (off sp j))
def Vals (sp : List Sp) (bs : By) (z0 : Nat) (w : World) (VS : List (List Value)) : Prop := ∀ (j : Nat) (s : Sp) (v : List Value), sp[j]? = some s → VS[j]? = some v → v.length = s.l ∧ s.Val z0 w (bs.drop (off sp j)) v
theorem Vals.mm {sp : List Sp} {bs : By} {z0 : Nat} {w w' : World} {M : Nat → Prop} {VS : List (List Value)} (h : Vals sp bs z0 w VS) (hm : MM M w w') (hM : ∀ k, M k → k < z0) : Vals sp bs z0 w' VS := fun j s v h1 h2 => ⟨(h j s v h1 h2).1, (h j s v h1 h2).2.mm hm hM⟩
theorem Vals.grow {sp : List Sp} {bs : By} {z0 : Nat} {w w' : World} {VS : List (List Value)} (h : Vals sp bs z0 w VS) (hg : Grow w w') : Vals sp bs z0 w' VS := h.mm (M := fun _ => False) (grow_mm hg) (fun _ h => h.elim)
theorem Vals.low {sp : List Sp} {bs : By} {z0 z1 : Nat} {w : World} {VS : List (List Value)} (h : Vals sp bs z0 w VS) (hz : z1 ≤ z0) : Vals sp bs z1 w VS := fun j s v h1 h2 => ⟨(h j s v h1 h2).1, (h j s v h1 h2).2.low hz⟩
theorem Vals.snoc {sp : List Sp} {bs : By} {z0 i : Nat} {w : World} {VS : List (List Value)} {s : Sp} {v : List Value} (h : Vals sp bs z0 w VS) (hV : VS.length = i) (hs : sp[i]? = some s) (hl : v.length = s.l) (hv : s.Val z0 w (bs.drop (off sp i)) v) : Vals sp bs z0 w (VS ++ [v]) := fun j s' v' h1 h2 => by
  rcases Nat.lt_or_ge j VS.length with hj | hj
  · rw [List.getElem?_append_left hj] at h2
    exact h j s' v' h1 h2
  · rw [List.getElem?_append_right hj] at h2
    have hj2 : j - VS.length < 1 := (List.getElem?_eq_some_iff.1 h2).1
    obtain rfl : j = i := by omega
    rw [hV, Nat.sub_self] at h2
    obtain rfl : v = v' := by simpa using h2
    rw [hs] at h1
    obtain rfl : s = s' := by simpa using h1
    exact ⟨hl, hv⟩
/-- Decoding: how far. -/
structure DcS (w1 : World) (ob rb : Nat) (t : TypeId) (c0 : List Value) (sp : List Sp) (bs : By) (i : Nat) (W : World) : Prop where
  g : Gt W
  m : MM (fun k => k = rb ∨ k = ob) w1 W
  c : ∃ c, OwnB W ob c t ∧ c.length = c0.length ∧ (GoodTo sp bs i → RdX ob w1.heap.size W rb (bs.drop (off sp i)) 0 ∧ ∃ VS, VS.length = i ∧ c = lays ((sp.take i).zip VS) c0 ∧ Vals sp bs w1.heap.size W VS)
  b : ¬ GoodTo sp bs i → ∃ b', b'.length ≤ 100000 ∧ RdX ob w1.heap.size W rb b' 171
theorem mm_two {rb ob : Nat} {w1 W w w' : World} (h : MM (fun k => k = rb ∨ k = ob) w1 W) (hg : Grow W w) (h2 : MM (fun k => k = rb ∨ k = ob) w w') : MM (fun k => k = rb ∨ k = ob) w1 w' := (h.trans (grow_mm hg)).trans h2
theorem DcS.step {w1 : World} {ob rb : Nat} {t : TypeId} {c0 : List Value} {sp : List Sp} {bs : By} {i : Nat} {W : World} (h : DcS w1 ob rb t c0 sp bs i W) (f : Fd) (hs : sp[i]? = some f.s) (hne : rb ≠ ob) (hob : ob < w1.heap.size) (hrb : rb < w1.heap.size) (hq : f.q ≠ rb ∧ f.q ≠ ob) (hr : 2 ≤ f.s.k → f.r ≠ rb ∧ f.r ≠ ob) (hk : f.Ok ob w1) (hoc : f.s.o + f.s.l ≤ c0.length) (hn : f.s.n ≤ 1000) (hz : off sp (i + 1) ≤ bs.length) (hl : bs.length ≤ 100000) (w : World) (hg : Grow W w) (hw : Gt w) :
    Calls Try.prog f.rf ([pt rb 0] ++ f.rc).toArray w (fun x w' => ∃ v, x = .returned v ∧ MM (fun k => k = rb ∨ k = ob) w w' ∧ (v = .tuple #[] ∧ (Gt w' → DcS w1 ob rb t c0 sp bs (i + 1) w'))) := by
  obtain ⟨c, ho, hcl, hgd⟩ := h.c
  have hmw := h.m.trans (grow_mm hg)
  have hk2 := hk.mm hmw (fun h => h.elim hq.1 hq.2) (fun h2 h => h.elim (hr h2).1 (hr h2).2)
  have hoff := off_s hs
  have hMz : ∀ k, (k = rb ∨ k = ob) → k < w1.heap.size := fun k hk => hk.elim (fun e => e ▸ hrb) (fun e => e ▸ hob)
  have hsz : w1.heap.size ≤ w.heap.size := hmw.size
  by_cases hG : GoodTo sp bs i
  · obtain ⟨hR, VS, hV, hc, hVs⟩ := hgd hG
    refine (rd_good f w1.heap.size ob rb hne hq.1 hq.2 t c (by rw [hcl]; exact hoc) hn (bs.drop (off sp i)) (by rw [List.length_drop]; omega) w hw hk2 hsz (ho.grow hg) (by rw [List.length_drop]; omega) (hR.grow hg)).mono fun x w' ⟨h1, h2, c', h3, h4, h5, h6⟩ => ⟨_, h1, h2, rfl, fun g' => ?_⟩
    have key : f.s.Good (bs.drop (off sp i)) → GoodTo sp bs (i + 1) := fun hg1 j s hj hsj => by
      rcases Nat.lt_or_ge j i with h | h
      · exact hG j s h hsj
      · obtain rfl : j = i := by omega
        rw [hs] at hsj
        obtain rfl : f.s = s := by simpa using hsj
        exact hg1
    refine ⟨g', mm_two h.m hg h2, ⟨c', h3, h4.trans hcl, fun hG1 => ?_⟩, fun hG1 => ?_⟩
    · obtain ⟨⟨vs, e1, e2, e3⟩, e4⟩ := h5 (hG1 i _ (Nat.lt_succ_self i) hs)
      rw [List.drop_drop, ← hoff] at e4
      refine ⟨e4, VS ++ [vs], by rw [List.length_append, hV]; rfl, ?_, ((hVs.grow hg).mm h2 hMz).snoc hV hs e1 (e3.low hsz)⟩
      have ht : (sp.take i).length = VS.length := by rw [List.length_take, hV]; exact Nat.min_eq_left (Nat.le_of_lt (List.getElem?_eq_some_iff.1 hs).1)
      rw [List.take_add_one, hs, List.zip_append ht]
      show c' = lays ((sp.take i).zip VS ++ [(f.s, vs)]) c0
      rw [lays_snoc, ← hc]
      exact e2
    · exact h6 (fun h => hG1 (key h))
  · obtain ⟨b', hb1, hb2⟩ := h.b hG
    refine (rd_bad f w1.heap.size ob rb hne hq.1 hq.2 t c (by rw [hcl]; exact hoc) hn b' hb1 w hw hk2 hsz (ho.grow hg) (hb2.grow hg)).mono fun x w' ⟨h1, h2, c', h3, h4, h5⟩ => ⟨_, h1, h2, rfl, fun g' => ?_⟩
    have hG1 : ¬ GoodTo sp bs (i + 1) := fun hh => hG fun j s hj hsj => hh j s (Nat.lt_succ_of_lt hj) hsj
    exact ⟨g', mm_two h.m hg h2, ⟨c', h3, h4.trans hcl, fun h => absurd h hG1⟩, fun _ => h5⟩
theorem dcd_bad (bs : By) (a : Option Addr) (cap : Nat) (L : List Fd) (bl c : Nat) (hl : L.length ≤ 100) (hz : off (L.map Fd.s) L.length ≤ 1000000) (hlen : bs.length ≠ off (L.map Fd.s) L.length) (w : World) (hw : Gt w) (hL : w.rangeAt bl 0 (L.flatMap Fd.cs)) : Calls Try.prog 42 [.slice a bs.length cap, .slice (some ⟨bl, 0, none⟩) L.length c].toArray w (fun e w' => e = .returned (I 170) ∧ Grow w w') := by
  have hGF : BOk Gt (pl w) := gt_low.plain hw
  refine calls_of_X (G := Gt) Try.func42 rfl rfl (Hp (pl w) []) (hp_refl (pl w) trivial rides_true) (good_hp hGF) ?_
  refine xs_plain (E := EE []) ?_
  refine lx_assign rfl rfl rfl ?_
  refine lx_nil ?_
  refine x_seq ?_
  refine xs_plain (E := EE []) ?_
  refine lx_move rfl rfl rfl ?_
  refine lx_len rfl (fun _ => len_slice Try.underlying46 _ _ _ _) rfl rfl ?_
  refine lx_move rfl rfl rfl ?_
  refine lx_callC rfl rfl ent53 (fun w1 hC hG => fsz_calls L bl c hl (by rw [List.length_map]; omega) w1 hG (rg_g hL (hp_below hC))) rfl rfl ?_
  refine lx_binB true rfl rfl (fun _ => rfl) (fun _ => bin_neq_i _ _ _) (by simp; omega) rfl rfl ?_
  refine lx_nil ?_
  refine x_true rfl ?_
  refine xs_plain (E := EE []) ?_
  refine lx_assign rfl rfl rfl ?_
  refine lx_nil ?_
  refine x_ret ?_
  repeat (first | refine kseq_ret ?_ | refine kblk_ret ?_)
  exact kret_tmp rfl rfl (fun w' hw' => ⟨rfl, hp_below hw'⟩)
theorem dcd_ok (bs : By) (a : Option Addr) (cap : Nat) (L : List Fd) (bl c : Nat) (hl : L.length ≤ 100) (hlen : bs.length = off (L.map Fd.s) L.length) (hl2 : bs.length ≤ 100000) (ob : Nat) (t : TypeId) (c0 : List Value) (w : World) (hw : Gt w) (hL : w.rangeAt bl 0 (L.flatMap Fd.cs)) (hb : BytesAt w a bs) (hblo : ¬ bl = ob) (ho : OwnB w ob c0 t) (hk : ∀ f ∈ L, f.Ok ob w ∧ f.q ≠ ob ∧ f.r ≠ ob) (hoc : ∀ f ∈ L, f.s.o + f.s.l ≤ c0.length) (hn : ∀ f ∈ L, f.s.n ≤ 1000) : Calls Try.prog 42 [.slice a bs.length cap, .slice (some ⟨bl, 0, none⟩) L.length c].toArray w (fun e w' => ∃ ev, e = .returned (I ev) ∧ MM (fun k => k = ob) w w' ∧ ∃ cN, OwnB w' ob cN t ∧ cN.length = c0.length ∧ (GoodTo (L.map Fd.s) bs L.length → ev = 0 ∧ ∃ VS, VS.length = L.length ∧ cN = lays ((L.map Fd.s).zip VS) c0 ∧ Vals (L.map Fd.s) bs w.heap.size w' VS) ∧ (¬ GoodTo (L.map Fd.s) bs L.length → ev = 171)) := by
  have hGF : BOk Gt (pl w) := gt_low.plain hw
  refine calls_of_X (G := Gt) Try.func42 rfl rfl (Hp (pl w) []) (hp_refl (pl w) trivial rides_true) (good_hp hGF) ?_
  refine xs_plain (E := EE [62]) ?_
  refine lx_assign rfl rfl rfl ?_
  refine lx_nil ?_
  refine x_seq ?_
  refine xs_plain (E := EE [62]) ?_
  refine lx_move rfl rfl rfl ?_
  refine lx_len rfl (fun _ => len_slice Try.underlying46 _ _ _ _) rfl rfl ?_
  refine lx_move rfl rfl rfl ?_
  refine lx_callC rfl rfl ent53 (fun w1 hC hG => fsz_calls L bl c hl (by rw [List.length_map]; omega) w1 hG (rg_g hL (hp_below hC))) rfl rfl ?_
  refine lx_binB false rfl rfl (fun _ => rfl) (fun _ => bin_neq_i _ _ _) (by simp [hlen]) rfl rfl ?_
  refine lx_nil ?_
  refine x_false rfl ?_
  refine x_skip ?_
  refine xs_plain (E := EE [62]) ?_
  refine lx_move rfl rfl rfl ?_
  refine lx_callW gt_low (M := fun _ => False) (fun k h => h.elim) rfl rfl ent62 rfl rfl hGF (Q := fun w1 w2 v => ∃ rb, v = pt rb 0 ∧ w1.heap.size ≤ rb ∧ RdAt 135 (fun k => w1.heap.size ≤ k ∧ k < w2.heap.size) w2 rb bs 0) (fun w1 h1 g1 => (nr_calls bs a cap (by omega) w1 g1 (hb.grow h1)).mono fun e w2 ⟨rb, q1, q2, q3, q4⟩ => ⟨_, q1, grow_mm q2, rb, rfl, q3, q4⟩) (fun w2a w2 v hg2 hm2 g2 hq => ?_)
  obtain ⟨rb, rfl, hrb, hR⟩ := hq
  have hm2 := hm2.grow (fun _ _ h => h)
  have hG := hg2.trans hm2
  have hob := ho.lt
  have hne : rb ≠ ob := by have := hg2.size; omega
  have hGF : BOk Gt (pl w2) := gt_low.plain g2
  have hI : DcS w2 ob rb t c0 (L.map Fd.s) bs 0 w2 := ⟨g2, grow_mm (Grow.refl _), ⟨c0, ho.grow hG, rfl, fun _ => ⟨⟨_, hR, fun h => by have := hg2.size; omega, fun k hk => hk.2⟩, [], rfl, rfl, fun j s v _ h => by simp at h⟩⟩, fun h => absurd (fun j s hj => by omega) h⟩
  have hrl : rb < w2.heap.size := hR.lt
  clear hR
  refine lx_assign rfl rfl rfl ?_
  refine lx_nil ?_
  refine x_seq ?_
  refine xs_plain (E := EE [62]) ?_
  refine lx_move rfl rfl rfl ?_
  refine lx_len rfl (fun _ => len_slice Try.underlying71 _ _ _ _) rfl rfl ?_
  refine lx_move rfl rfl rfl ?_
  refine lx_nil ?_
  refine x_block ?_
  refine x_now0 gt_low (fun w2b hC2 g2b => ?_)
  have hI : DcS w2 ob rb t c0 (L.map Fd.s) bs 0 w2b := by
    obtain ⟨c1, x1, x2, x3⟩ := hI.c
    exact ⟨g2b, grow_mm (hp_below hC2), ⟨c1, x1.grow (hp_below hC2), x2, fun h => ⟨(x3 h).1.grow (hp_below hC2), by obtain ⟨VS, y1, y2, y3⟩ := (x3 h).2; exact ⟨VS, y1, y2, y3.grow (hp_below hC2)⟩⟩⟩, fun h => absurd (fun j s hj => by omega) h⟩
  clear hC2
  refine x_forW gt_low (ι := { x : Nat × World // x.1 ≤ L.length ∧ DcS w2 ob rb t c0 (L.map Fd.s) bs x.1 x.2 }) (fun x => [(0, .slice a bs.length cap), (5, pt rb 0), (15, .slice (some ⟨bl, 0, none⟩) L.length c), (16, I (L.length : Int)), (17, I (x.1.1 : Int))]) (fun x => x.1.2) (fun x => L.length - x.1.1) ⟨(0, w2b), Nat.zero_le _, hI⟩ (fun x => x.2.2.g) rfl ⟨rfl, rfl, rfl, rfl, rfl, trivial⟩ ?_
  clear hI
  rintro ⟨⟨i, W⟩, hi, hI⟩
  dsimp only at hi hI ⊢
  have hGF : BOk Gt (pl W) := gt_low.plain hI.g
  refine xs_plain (E := EE [62]) ?_
  refine lx_bin rfl rfl (fun _ => rfl) (fun _ => bin_lss_i _ _ _) rfl rfl ?_
  refine lx_nil ?_
  refine x_seq ?_
  refine x_if rfl (fun hc => ?_) (fun hc => ?_)
  · have hlt : i < L.length := by simp at hc; omega
    clear hc
    obtain ⟨f, hf⟩ : ∃ f, L[i]? = some f := ⟨_, List.getElem?_eq_getElem hlt⟩
    have hfq := hk f (List.mem_of_getElem? hf)
    have hfl := hfq.1.lt
    have hblt : bl < w.heap.size := block_lt_of_cell (fd_at hL hf 0 _ rfl)
    have hbl2 : ¬ (bl = rb ∨ bl = ob) := fun h => h.elim (fun h => by have := hg2.size; omega) hblo
    have hg2s := hg2.size
    refine x_skip ?_
    refine x_seq ?_
    refine x_block ?_
    refine xs_plain (E := EE [62]) ?_
    refine lx_is rfl rfl Try.underlying71 Try.sizeOf101 ⟨by omega, by omega⟩ rfl rfl ?_
    rw [show 0 + ((i : Nat) : Int).toNat * 3 = i * 3 from by omega]
    refine lx_loadr (cs := f.cs) rfl Try.isAgg101 Try.sizeOf101 rfl (fun w' h => rg_g (MM.range hI.m (rg_g (fd_at hL hf) hG) hbl2) (hp_below h)) rfl rfl ?_
    refine lx_allocr 7 hGF zvF rfl rfl ?_
    intro b7
    refine lx_storea 7 hGF rfl rfl rfl Try.sizeOf101 rfl rfl f.all rfl ?_
    refine lx_nil ?_
    refine x_plain (E := EE [62]) ?_
    refine lx_fak 2 rfl Try.underlying101 rfl Try.sizeOf99 (by decide) rfl rfl rfl ?_
    refine lx_loadl (v := fun_ f.rf f.rc) 7 rfl rfl rfl Try.isAgg99 rfl rfl ?_
    refine lx_move rfl rfl rfl ?_
    refine lx_callFW gt_low (M := fun k => k = rb ∨ k = ob) (fun k _ => Nat.zero_le k) rfl rfl f.entR rfl rfl rfl hGF (Q := fun w3 w4 v => v = .tuple #[] ∧ (Gt w4 → DcS w2 ob rb t c0 (L.map Fd.s) bs (i + 1) w4)) (fun w3 h3 g3 => hI.step f (map_s hf) hne (Nat.lt_of_lt_of_le hob hG.size) hrl ⟨by omega, hfq.2.1⟩ (fun h2 => ⟨by have := hfl.2 h2; omega, hfq.2.2⟩) (hfq.1.grow hG) (hoc f (List.mem_of_getElem? hf)) (hn f (List.mem_of_getElem? hf)) (by have := off_le (L.map Fd.s) (i + 1); rw [List.length_map] at this; omega) hl2 w3 h3 g3) (fun w3 w4 v hg3 hm3 g4 hq => ?_)
    obtain ⟨rfl, hD⟩ := hq
    refine lx_nil ?_
    refine x_plain (E := EE [62]) ?_
    refine lx_bin (v := I (((i + 1 : Nat) : Int))) rfl rfl (fun _ => rfl) (fun _ => (bin_add_i _ _ _ (by unfold inI; omega)).trans (by rfl)) rfl rfl ?_
    refine lx_move rfl rfl rfl ?_
    refine lx_nil ?_
    repeat (refine kblk_n ?_)
    refine kseq_n ?_
    exact ⟨rfl, ⟨(i + 1, w4), hlt, hD g4⟩, by show L.length - (i + 1) < L.length - i; omega, rfl, ⟨rfl, rfl, rfl, rfl, rfl, trivial⟩⟩
  · obtain rfl : i = L.length := by simp at hc; omega
    clear hc
    have hdr : bs.drop (off (L.map Fd.s) L.length) = [] := List.drop_of_length_le (by omega)
    obtain ⟨cN, x1, x2, x3⟩ := hI.c
    obtain ⟨ev, hev, hE⟩ : ∃ ev : Int, ((GoodTo (L.map Fd.s) bs L.length → ev = 0) ∧ (¬ GoodTo (L.map Fd.s) bs L.length → ev = 171)) ∧ ∀ w1, Grow W w1 → Gt w1 → Calls Try.prog 63 [pt rb 0].toArray w1 (fun e w2 => e = .returned (I ev) ∧ Grow w1 w2) := by
      by_cases hgo : GoodTo (L.map Fd.s) bs L.length
      · obtain ⟨S, hS, _⟩ := (x3 hgo).1
        rw [hdr] at hS
        exact ⟨0, ⟨fun _ => rfl, fun h => absurd hgo h⟩, fun w1 h1 g1 => en_calls w1 g1 (hS.grow h1)⟩
      · obtain ⟨b2, _, S, hS, _⟩ := hI.b hgo
        exact ⟨171, ⟨fun h => absurd h hgo, fun _ => rfl⟩, fun w1 h1 g1 => en_calls w1 g1 (hS.grow h1)⟩
    refine x_exit ?_
    refine xs_plain (E := EE [62]) ?_
    refine lx_move rfl rfl rfl ?_
    refine lx_callC rfl rfl ent63 (fun w1 hC hG => hE w1 (hp_below hC) hG) rfl rfl ?_
    refine lx_assign rfl rfl rfl ?_
    refine lx_nil ?_
    refine x_ret ?_
    repeat (first | refine kseq_ret ?_ | refine kblk_ret ?_)
    exact kret_tmp rfl rfl (fun w' hw' => ⟨ev, rfl, (((grow_mm hG).trans' hI.m (fun k hk hlt => hk.elim (fun h => by have := hg2.size; omega) id)).trans (grow_mm (hp_below hw'))), cN, x1.grow (hp_below hw'), x2, fun h => ⟨hev.1 h, by obtain ⟨VS, y1, y2, y3⟩ := (x3 h).2; exact ⟨VS, y1, by rw [y2, ← List.length_map (f := Fd.s), List.take_length], (y3.grow (hp_below hw')).low hG.size⟩⟩, hev.2⟩)
end Go.Proofs.Ytlaanjcnfindnaa
