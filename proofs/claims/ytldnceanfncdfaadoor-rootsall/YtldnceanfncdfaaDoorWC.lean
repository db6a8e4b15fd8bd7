/-
  The document's roots of keys, of headers, of branches.
-/
import Derived.Test.YtldnceanfncdfaaDoorWS
namespace Go.Proofs.YtldnceanfncdfaaDoor
open Go.RowKit
set_option maxRecDepth 100000
set_option maxHeartbeats 1000000
open Sh
theorem mem_get {l : List Rt} {i : Nat} (h : i < l.length) : l.getD i [] ∈ l := by
  rw [List.getD_eq_getElem?_getD, List.getElem?_eq_getElem h]
  exact List.getElem_mem h
theorem hky_calls (bm : Nat) (k : By) (hk : k.length = 48) (w : World) (hw : Gt w) (ho : MkAt w bm) : Calls Tryd.prog 23 [.agg [.pointer (some ⟨bm, 0, none⟩)].toArray, .agg (k.map U8).toArray].toArray w (fun e w' => e = .returned (.agg ((BR8 k).map U8).toArray) ∧ Grow w w') := by
  have hGF : BOk Gt (pl w) := gt_low.plain hw
  refine calls_of_X (G := Gt) Tryd.func23 rfl rfl (Hp (pl w) []) (hp_refl (pl w) trivial rides_true) (good_hp hGF) ?_
  refine xs_plain (E := EE []) ?_
  refine lx_boxr 2 hGF rfl rfl rfl ?_
  intro b2
  refine lx_boxr 3 hGF rfl rfl rfl ?_
  intro b3
  refine lx_allocr 4 hGF zv24 rfl rfl ?_
  intro b4
  refine lx_nil ?_
  refine xs_drawn (E := EE []) mixed (by kernel_rfl) (by kernel_rfl) (by kernel_rfl) ?_
  refine lx_loada 2 rfl rfl Tryd.isAgg47 Tryd.sizeOf47 rfl rfl rfl ?_
  refine lx_slarr0 (n := 48) rfl Tryd.underlying29 Tryd.sizeOf5 (by decide) rfl rfl ?_
  refine lx_callC rfl rfl ent41 (fun w' hw' hG => by rw [← hk]; exact hby_calls bm k (by rw [hk]; decide) _ k.length (Nat.le_refl _) w' hG (ho.of_same ((hp_below hw').block _ ho.lt)) (BytesAt.range (hp_row (n := 3) rfl w' hw'))) rfl rfl ?_
  refine lx_storea 4 hGF rfl rfl rfl Tryd.sizeOf24 (by rw [List.length_map]; exact BR8_len _) (by rw [List.length_map]; exact Z0_len) (one_u8 _) rfl ?_
  refine lx_nil ?_
  refine x_ret ?_
  repeat (first | refine kseq_ret ?_ | refine kblk_ret ?_)
  exact kret_own 4 rfl rfl rfl Tryd.isAgg24 Tryd.sizeOf24 (by rw [List.length_map]; exact BR8_len _) (fun w' hw' => ⟨rfl, hp_below hw'⟩)
theorem hhd_calls (bm : Nat) (h : Hd) (hk : h.Ok) (w : World) (hw : Gt w) (ho : MkAt w bm) : Calls Tryd.prog 11 [.agg [.pointer (some ⟨bm, 0, none⟩)].toArray, .agg h.cs.toArray].toArray w (fun e w' => e = .returned (.agg ((h.rt).map U8).toArray) ∧ Grow w w') := by
  have hGF : BOk Gt (pl w) := gt_low.plain hw
  refine calls_of_X (G := Gt) Tryd.func11 rfl rfl (Hp (pl w) []) (hp_refl (pl w) trivial rides_true) (good_hp hGF) ?_
  refine xs_plain (E := EE [2999998]) ?_
  refine lx_boxr 2 hGF rfl rfl rfl ?_
  intro b2
  refine lx_boxr 3 hGF rfl rfl rfl ?_
  intro b3
  refine lx_allocr 4 hGF zv24 rfl rfl ?_
  intro b4
  refine lx_nil ?_
  refine xs_drawn (E := EE [2999998]) mixed (by kernel_rfl) (by kernel_rfl) (by kernel_rfl) ?_
  refine lx_loada 2 rfl rfl Tryd.isAgg47 Tryd.sizeOf47 rfl rfl rfl ?_
  refine lx_fak 0 rfl Tryd.underlying26 rfl Tryd.sizeOf22 (by decide) rfl rfl rfl ?_
  refine lx_load (v := U64 h.s) rfl Tryd.isAgg22 (fun w' hw' => (hp_row (n := 3) rfl w' hw') 0 _ rfl) rfl rfl ?_
  refine lx_callC rfl rfl ent27 (fun w' hw' hG => rch_calls h.s w' hG) rfl rfl ?_
  rw [show pad32 (le8 h.s 8) = nR h.s from rfl]
  refine lx_fak 1 rfl Tryd.underlying26 rfl Tryd.sizeOf22 (by decide) rfl rfl rfl ?_
  refine lx_load (v := U64 h.p) rfl Tryd.isAgg22 (fun w' hw' => (hp_row (n := 3) rfl w' hw') 1 _ rfl) rfl rfl ?_
  refine lx_callC rfl rfl ent27 (fun w' hw' hG => rch_calls h.p w' hG) rfl rfl ?_
  rw [show pad32 (le8 h.p 8) = nR h.p from rfl]
  refine lx_fak 2 rfl Tryd.underlying26 rfl Tryd.sizeOf24 (by decide) rfl rfl rfl ?_
  refine lx_loadr (cs := h.a.map U8) rfl Tryd.isAgg24 Tryd.sizeOf24 (by rw [List.length_map]; exact hk.a) (fun w' hw' j v hv => by have := (hp_row (n := 3) rfl w' hw') _ v (Hd.at_a j v hv); rwa [Nat.zero_add] at this) rfl rfl ?_
  refine lx_fak 34 rfl Tryd.underlying26 rfl Tryd.sizeOf24 (by decide) rfl rfl rfl ?_
  refine lx_loadr (cs := h.b.map U8) rfl Tryd.isAgg24 Tryd.sizeOf24 (by rw [List.length_map]; exact hk.b) (fun w' hw' j v hv => by have := (hp_row (n := 3) rfl w' hw') _ v (Hd.at_b hk j v hv); rwa [Nat.zero_add] at this) rfl rfl ?_
  refine lx_fak 66 rfl Tryd.underlying26 rfl Tryd.sizeOf24 (by decide) rfl rfl rfl ?_
  refine lx_loadr (cs := h.c.map U8) rfl Tryd.isAgg24 Tryd.sizeOf24 (by rw [List.length_map]; exact hk.c) (fun w' hw' j v hv => by have := (hp_row (n := 3) rfl w' hw') _ v (Hd.at_c hk j v hv); rwa [Nat.zero_add] at this) rfl rfl ?_
  refine lx_bslWG (uf := U8) (s := 32) 18 (fun i => (h.fs).getD i []) (List.replicate 32 0#8) hGF rfl rfl rfl (fun i hi => (Hd.fs_all hk) _ (mem_get hi)) (by decide) (by decide) Tryd.underlying60 Tryd.sizeOf23 rfl zv23 rfl rfl ?_
  intro b18
  rw [show RW 32 (fun i => (h.fs).getD i []) 5 = (h.fs).flatten from RW_list (h.fs) (Hd.fs_all hk)]
  refine lx_callC rfl rfl ent34 (fun w' hw' hG => htr_calls bm (h.fs) (Hd.fs_all hk) (by show 5 ≤ 1000000; decide) _ 5 (Nat.le_refl 5) w' hG (ho.of_same ((hp_below hw').block _ ho.lt)) (own_rts (n := 18) (Hd.fs_all hk) rfl (List.take_of_length_le (by rw [List.length_map, flat_len _ (Hd.fs_all hk)]; exact Nat.le_refl _)) w' hw')) rfl rfl ?_
  refine lx_storea 4 hGF rfl rfl rfl Tryd.sizeOf24 (by rw [List.length_map]; exact Hd.rt_len hk) (by rw [List.length_map]; exact Z0_len) (one_u8 _) rfl ?_
  refine lx_nil ?_
  refine x_ret ?_
  repeat (first | refine kseq_ret ?_ | refine kblk_ret ?_)
  exact kret_own 4 rfl rfl rfl Tryd.isAgg24 Tryd.sizeOf24 (by rw [List.length_map]; exact Hd.rt_len hk) (fun w' hw' => ⟨rfl, hp_below hw'⟩)
theorem rts_at {w : World} {a : Option Addr} {l : List Rt} (h : RtsAt w a l) {k : Nat} (hk : k < l.length) : ∃ ad, a = some ad ∧ ∀ j v, ((l.getD k []).map U8)[j]? = some v → w.cell? ((ad.add (k * 32)).add j) = some v := by
  have e : l[k]? = some (l.getD k []) := by rw [List.getD_eq_getElem?_getD, List.getElem?_eq_getElem hk]; rfl
  exact h k _ e
theorem frR_list {w w' : World} {v : Value} {l : List Rt} (hl : AllR l) (h : FrR w w' v l.length (fun i => l.getD i [])) : FrL w w' v l := by
  obtain ⟨a, cap, rfl, hs, hn⟩ := h
  unfold SlR at hs
  rw [RW_list l hl] at hs
  exact ⟨a, cap, rfl, hs, hn⟩
theorem lst_c (l : List Rt) (hl : AllR l) (hln : l.length ≤ 1000000) (a : Option Addr) (cap : Nat) (w : World) (hw : Gt w) (hr : RtsAt w a l) : Calls Tryd.prog 51 [.slice a l.length cap].toArray w (fun e w' => ∃ v, e = .returned v ∧ Grow w w' ∧ FrR w w' v l.length (fun i => l.getD i [])) := by
  have hGF : BOk Gt (pl w) := gt_low.plain hw
  refine calls_of_X (G := Gt) Tryd.func51 rfl rfl (Hp (pl w) []) (hp_refl (pl w) trivial rides_true) (good_hp hGF) ?_
  refine xs_plain (E := EE []) ?_
  refine lx_assign rfl rfl rfl ?_
  refine lx_nil ?_
  refine xs_plain (E := EE []) ?_
  refine lx_assign rfl rfl rfl ?_
  refine lx_nil ?_
  refine x_seq ?_
  refine xs_plain (E := EE []) ?_
  refine lx_assign rfl rfl rfl ?_
  refine lx_nil ?_
  refine x_block ?_
  refine x_forW gt_low (ι := { x : Nat × World × Option Addr × Nat // x.1 ≤ l.length ∧ ApR w x.2.1 x.2.2.1 x.2.2.2 x.1 (fun i => l.getD i []) }) (fun x => [(0, .slice a l.length cap), (3, .slice x.1.2.2.1 x.1.1 x.1.2.2.2), (4, I (x.1.1 : Int))]) (fun x => x.1.2.1) (fun x => l.length - x.1.1) ⟨(0, w, none, 0), Nat.zero_le _, ⟨hw, Grow.refl w, .inl ⟨rfl, rfl, rfl, rfl⟩, fun _ h => by cases h⟩⟩ (fun x => x.2.2.g) rfl ⟨rfl, rfl, rfl, trivial⟩ ?_
  rintro ⟨⟨k, wk, ak, ck'⟩, hk, hA⟩
  dsimp only at hk hA ⊢
  have hGF : BOk Gt (pl wk) := gt_low.plain hA.g
  refine x_seq ?_
  refine xs_plain (E := EE []) ?_
  refine lx_move rfl rfl rfl ?_
  refine lx_move rfl rfl rfl ?_
  refine lx_len rfl (fun _ => len_slice Tryd.underlying71 _ _ _ _) rfl rfl ?_
  refine lx_bin rfl rfl (fun _ => rfl) (fun _ => bin_lss_i _ _ _) rfl rfl ?_
  refine lx_nil ?_
  refine x_if rfl (fun hc => ?_) (fun hc => ?_)
  · have hlt : k < l.length := by simp at hc; omega
    clear hc
    have hx := hl _ (mem_get hlt)
    obtain ⟨ad, hae, hxc⟩ := rts_at (hr.grow hA.m) hlt
    refine x_skip ?_
    refine x_seq ?_
    refine x_block ?_
    refine x_plain (E := EE []) ?_
    refine lx_move rfl rfl rfl ?_
    refine lx_move rfl rfl rfl ?_
    refine lx_move rfl rfl rfl ?_
    refine lx_isAW (ad := ad) k 32 (by rw [← hae]; rfl) rfl Tryd.underlying71 Tryd.sizeOf24 rfl (by omega) rfl rfl ?_
    refine lx_loadA (cs := (l.getD k []).map U8) rfl Tryd.isAgg24 Tryd.sizeOf24 (by rw [List.length_map]; exact hx) (fun w' h j v hv => ((hp_below h).cell (block_lt_of_cell (hxc j v hv))).trans (hxc j v hv)) rfl rfl ?_
    refine lx_bslW1 16 ((l.getD k []).map U8) hGF rfl (by rw [List.length_map]; exact hx) (by decide) (by decide) Tryd.underlying60 Tryd.sizeOf23 zv23 rfl rfl ?_
    intro b16
    refine lx_appW (ys := ((l.getD k [])).map U8) gt_low (fun w' h => hGF.g _ _ _ h) rfl rfl Tryd.underlying60 Tryd.underlying60 tiR (by simp [Value.cells]) (fun w' h => hA.s.grow (hp_below h)) (hA.low hw) (by rw [List.length_map]; exact hx) (hp_row (n := 16) rfl) (one_u8 _) (fun w' h hof => absurd (hA.s.lt _ hof) (Nat.not_lt.2 ((h.own 16 _ _ _ rfl).2.elim id False.elim))) (by omega) (by omega) rfl rfl (fun w1 w2 a1 cap1 hC g2 hm hs ho => ?_)
    have hA2 := hA.next (f := (fun i => l.getD i [])) hx (hp_below hC) g2 hm hs ho
    have hGF : BOk Gt (pl w2) := gt_low.plain g2
    refine lx_assign rfl rfl rfl ?_
    refine lx_nil ?_
    refine x_plain (E := EE []) ?_
    refine lx_move rfl rfl rfl ?_
    refine lx_bin (v := I (((k + 1 : Nat) : Int))) rfl rfl (fun _ => rfl) (fun _ => (bin_add_i _ _ _ (by unfold inI; omega)).trans (by rfl)) rfl rfl ?_
    refine lx_assign rfl rfl rfl ?_
    refine lx_nil ?_
    repeat (refine kblk_n ?_)
    refine kseq_n ?_
    exact ⟨rfl, ⟨(k + 1, w2, a1, cap1), hlt, hA2⟩, by show l.length - (k + 1) < l.length - k; omega, rfl, ⟨rfl, rfl, rfl, trivial⟩⟩
  · have hke : k = l.length := by simp at hc; omega
    clear hc
    subst hke
    refine x_exit ?_
    refine xs_plain (E := EE []) ?_
    refine lx_move rfl rfl rfl ?_
    refine lx_assign rfl rfl rfl ?_
    refine lx_nil ?_
    refine x_ret ?_
    repeat (first | refine kseq_ret ?_ | refine kblk_ret ?_)
    exact kret_tmp rfl rfl (fun w' hw' => ⟨_, rfl, hA.m.trans (hp_below hw'), ak, ck', rfl, hA.s.grow (hp_below hw'), hA.o⟩)
theorem hrs_calls (bm : Nat) (l : List Rt) (hl : AllR l) (h0 : 0 < l.length) (hln : l.length ≤ 1000000) (a : Option Addr) (cap : Nat) (w : World) (hw : Gt w) (ho : MkAt w bm) (hr : RtsAt w a l) : Calls Tryd.prog 39 [.agg [.pointer (some ⟨bm, 0, none⟩)].toArray, .slice a l.length cap].toArray w (fun e w' => e = .returned (.agg ((Tor l).map U8).toArray) ∧ Grow w w') := by
  have hGF : BOk Gt (pl w) := gt_low.plain hw
  refine calls_of_X (G := Gt) Tryd.func39 rfl rfl (Hp (pl w) []) (hp_refl (pl w) trivial rides_true) (good_hp hGF) ?_
  refine xs_plain (E := EE [51, 2000051]) ?_
  refine lx_boxr 2 hGF rfl rfl rfl ?_
  intro b2
  refine lx_allocr 4 hGF zv23 rfl rfl ?_
  intro b4
  refine lx_nil ?_
  refine xs_draws (E := EE [51, 2000051]) [0, 1, 3, 4, 2, 5, 6, 7] mixed rfl (by kernel_rfl) (by kernel_rfl) (by kernel_rfl) ?_
  refine lx_loada 2 rfl rfl Tryd.isAgg47 Tryd.sizeOf47 rfl rfl rfl ?_
  refine lx_move rfl rfl rfl ?_
  refine lx_move rfl rfl rfl ?_
  refine lx_len rfl (fun _ => len_slice Tryd.underlying71 _ _ _ _) rfl rfl ?_
  refine lx_callG rfl rfl ent51 rfl rfl (fun w' hw' => (lst_c l hl hln a cap w' (hGF.g _ _ _ hw') (hr.grow (hp_below hw'))).mono fun e1 w2 h => ?_)
  obtain ⟨_, rfl, hg, hfr⟩ := h
  obtain ⟨a9, c9, rfl, hs9, hn9⟩ := frR_list hl hfr
  obtain ⟨b9, cs9, rfl, ho9, hl9, hc9, _, ht9⟩ := hs9.resolve_left (fun h => by have h3 := h.2.2.1; omega)
  refine ⟨_, _, rfl, good_hp hGF, hw'.news rides_true hg [(7, b9, cs9, 23)] ?_ inj_one, hp_fresh rides_true rfl, ?_⟩
  · intro n' b' c' t' hl
    rcases lkB_cons hl with ⟨_, e⟩ | ⟨_, hl⟩
    · cases e; exact ⟨hn9 _ rfl, ho9⟩
    · cases hl
  rw [List.length_map, flat_len _ hl] at ht9
  clear hw' hg hn9 ho9 hfr
  refine lx_callC rfl rfl ent30 (fun w' _ hG => hdepth_calls (l.length : Int) w' hG) rfl rfl ?_
  refine lx_callC rfl rfl ent29 (fun w' hw' hG => htree_calls bm _ (by have := (dep_is l.length).1; simp only [Int.toNat_natCast]; omega) l hl l.length rfl hln _ c9 hc9 w' hG (ho.of_same ((hp_below hw').block _ ho.lt)) (own_rts (n := 7) hl rfl ht9 w' hw')) rfl rfl ?_
  refine lx_storea 4 hGF rfl rfl rfl Tryd.sizeOf23 (by rw [List.length_map]; exact tre_len hl _) (by rw [List.length_map]; exact Z0_len) (one_u8 _) rfl ?_
  refine lx_nil ?_
  refine x_ret ?_
  repeat (first | refine kseq_ret ?_ | refine kblk_ret ?_)
  exact kret_own 4 rfl rfl rfl Tryd.isAgg23 Tryd.sizeOf23 (by rw [List.length_map]; exact tre_len hl _) (fun w' hw' => ⟨rfl, hp_below hw'⟩)
end Go.Proofs.YtldnceanfncdfaaDoor
