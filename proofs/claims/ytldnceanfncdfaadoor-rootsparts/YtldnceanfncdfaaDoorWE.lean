/-
  The document's roots of committees, aggregates, updates and bootstraps.
-/
import Derived.Test.YtldnceanfncdfaaDoorWD
namespace Go.Proofs.YtldnceanfncdfaaDoor
open Go.RowKit
set_option maxRecDepth 100000
set_option maxHeartbeats 1000000
open Sh
theorem BytesAt.sub_row {w : World} {b o : Nat} {cs : List Value} {bs : By} (h : w.rangeAt b 0 cs) (ha : ∀ j v, (bs.map U8)[j]? = some v → cs[o + j]? = some v) : BytesAt w (some ⟨b, o, none⟩) bs := fun j v hv => by
  refine ⟨_, rfl, ?_⟩
  rw [Addr.add_mid]
  have := h _ v (ha j v hv)
  rwa [Nat.zero_add] at this
theorem cells_grow {w w' : World} {a : Option Addr} {xs : List Value} (h : CellsAt w a xs) (hg : Grow w w') : CellsAt w' a xs := fun j v hv => by
  obtain ⟨ad, e, hc⟩ := h j v hv
  exact ⟨ad, e, (hg.cell (block_lt_of_cell hc)).trans hc⟩
theorem Co.all {c : Co} : ∀ j v, c.cs[j]? = some v → c.cs[0 + j]? = some v := fun j v hv => by rw [Nat.zero_add]; exact hv
theorem Co.a0 {c : Co} : ∀ j v, [Value.slice c.ka c.ks.length c.kc][j]? = some v → c.cs[0 + j]? = some v := mid_at (pre := []) rfl
theorem Ag.a0 {a : Ag} : ∀ j v, [Value.slice a.ba a.bs.length a.bc][j]? = some v → a.cs[0 + j]? = some v := mid_at (pre := []) rfl
theorem Up.ab {u : Up} (k : u.Ok) : ∀ j v, [Value.slice u.sy.ba u.sy.bs.length u.sy.bc][j]? = some v → u.cs[597 + j]? = some v := at_trans (o := 597) (p := 0) (Up.l6 k) Ag.a0
theorem Bo.ak {b : Bo} (k : b.Ok) : ∀ j v, [Value.slice b.nw.ka b.nw.ks.length b.nw.kc][j]? = some v → b.cs[98 + j]? = some v := at_trans (o := 98) (p := 0) (Bo.l2 k) Co.a0
theorem hag_n (bm : Nat) (s : Ag) (hk : s.Ok) (hn : s.bs.length ≤ 1000) (hE : pb s.bs s.bs.length = []) (w : World) (hw : Gt w) (ho : MkAt w bm) (hbs : CellsAt w s.ba (s.bs.map .bool)) : Calls Tryd.prog 25 [.agg [.pointer (some ⟨bm, 0, none⟩)].toArray, .agg s.cs.toArray].toArray w (fun e w' => e = .returned (.agg ((s.rt).map U8).toArray) ∧ Grow w w') := by
  have hGF : BOk Gt (pl w) := gt_low.plain hw
  refine calls_of_X (G := Gt) Tryd.func25 rfl rfl (Hp (pl w) []) (hp_refl (pl w) trivial rides_true) (good_hp hGF) ?_
  refine xs_plain (E := EE [43, 2000043, 2999998]) ?_
  refine lx_boxr 2 hGF rfl rfl rfl ?_
  intro b2
  refine lx_boxr 3 hGF rfl rfl rfl ?_
  intro b3
  refine lx_allocr 4 hGF zv24 rfl rfl ?_
  intro b4
  refine lx_nil ?_
  refine xs_draws (E := EE [43, 2000043, 2999998]) [0, 1, 2, 3, 6, 7, 8, 4, 5, 9, 10, 11, 12] mixed rfl (by kernel_rfl) (by kernel_rfl) (by kernel_rfl) ?_
  refine lx_loada 2 rfl rfl Tryd.isAgg47 Tryd.sizeOf47 rfl rfl rfl ?_
  refine lx_loada 2 rfl rfl Tryd.isAgg47 Tryd.sizeOf47 rfl rfl rfl ?_
  refine lx_fak 0 rfl Tryd.underlying38 rfl Tryd.sizeOf34 (by decide) rfl rfl rfl ?_
  refine lx_load (v := .slice s.ba s.bs.length s.bc) rfl Tryd.isAgg34 (fun w' hw' => by have := (hp_row (n := 3) rfl w' hw') _ _ (Ag.a0 0 _ rfl); exact this) rfl rfl ?_
  refine lx_loada 2 rfl rfl Tryd.isAgg47 Tryd.sizeOf47 rfl rfl rfl ?_
  refine lx_fak 1 rfl Tryd.underlying38 rfl Tryd.sizeOf36 (by decide) rfl rfl rfl ?_
  refine lx_slarr0 rfl Tryd.underlying36 Tryd.sizeOf5 (by decide) rfl rfl ?_
  refine lx_callG rfl rfl ent43 rfl rfl (fun w' hw' => (rbi_calls s.bs s.ba s.bc (by omega) w' (hGF.g _ _ _ hw') (cells_grow hbs (hp_below hw'))).mono fun e1 w2 h => ?_)
  obtain ⟨_, rfl, hg, a9, c9, rfl, hs9, hn9⟩ := h
  refine ⟨_, _, rfl, good_hp hGF, hw'.news rides_true hg [] (fun _ _ _ _ h => by cases h) (fun _ _ _ _ _ _ _ h => by cases h), fun _ h => h, ?_⟩
  have hc9 : (pb s.bs s.bs.length).length ≤ c9 := by rw [hE]; exact Nat.zero_le _
  clear hw' hg hs9 hn9
  refine lx_callC rfl rfl ent41 (fun w' hw' hG => hby_calls bm (pb s.bs s.bs.length) (by rw [pb_len]; unfold szB; omega) _ c9 hc9 w' hG (ho.of_same ((hp_below hw').block _ ho.lt)) (by rw [hE]; exact bytes_nil _ _)) rfl rfl ?_
  refine lx_callC rfl rfl ent41 (fun w' hw' hG => by rw [show (96 : Nat) = s.sig.length from hk.sig.symm]; exact hby_calls bm s.sig (by rw [hk.sig]; decide) _ _ (Nat.le_refl _) w' hG (ho.of_same ((hp_below hw').block _ ho.lt)) (BytesAt.sub_row (hp_row (n := 3) rfl w' hw') Ag.a_sig)) rfl rfl ?_
  refine lx_bslWG (uf := U8) (s := 32) 15 (fun i => ([BR8 (pb s.bs s.bs.length), BR8 s.sig]).getD i []) (List.replicate 32 0#8) hGF rfl rfl rfl (fun i hi => (Ag.fs_all s) _ (mem_get hi)) (by decide) (by decide) Tryd.underlying60 Tryd.sizeOf23 rfl zv23 rfl rfl ?_
  intro b15
  rw [show RW 32 (fun i => ([BR8 (pb s.bs s.bs.length), BR8 s.sig]).getD i []) 2 = ([BR8 (pb s.bs s.bs.length), BR8 s.sig]).flatten from RW_list ([BR8 (pb s.bs s.bs.length), BR8 s.sig]) (Ag.fs_all s)]
  refine lx_callC rfl rfl ent34 (fun w' hw' hG => htr_calls bm ([BR8 (pb s.bs s.bs.length), BR8 s.sig]) (Ag.fs_all s) (by show 2 ≤ 1000000; decide) _ 2 (Nat.le_refl 2) w' hG (ho.of_same ((hp_below hw').block _ ho.lt)) (own_rts (n := 15) (Ag.fs_all s) rfl (List.take_of_length_le (by rw [List.length_map, flat_len _ (Ag.fs_all s)]; exact Nat.le_refl _)) w' hw')) rfl rfl ?_
  refine lx_storea 4 hGF rfl rfl rfl Tryd.sizeOf24 (by rw [List.length_map]; exact tor_len (Ag.fs_all s)) (by rw [List.length_map]; exact Z0_len) (one_u8 _) rfl ?_
  refine lx_nil ?_
  refine x_ret ?_
  repeat (first | refine kseq_ret ?_ | refine kblk_ret ?_)
  exact kret_own 4 rfl rfl rfl Tryd.isAgg24 Tryd.sizeOf24 (by rw [List.length_map]; exact tor_len (Ag.fs_all s)) (fun w' hw' => ⟨rfl, hp_below hw'⟩)
theorem hag_s (bm : Nat) (s : Ag) (hk : s.Ok) (hn : s.bs.length ≤ 1000) (hE : pb s.bs s.bs.length ≠ []) (w : World) (hw : Gt w) (ho : MkAt w bm) (hbs : CellsAt w s.ba (s.bs.map .bool)) : Calls Tryd.prog 25 [.agg [.pointer (some ⟨bm, 0, none⟩)].toArray, .agg s.cs.toArray].toArray w (fun e w' => e = .returned (.agg ((s.rt).map U8).toArray) ∧ Grow w w') := by
  have hGF : BOk Gt (pl w) := gt_low.plain hw
  refine calls_of_X (G := Gt) Tryd.func25 rfl rfl (Hp (pl w) []) (hp_refl (pl w) trivial rides_true) (good_hp hGF) ?_
  refine xs_plain (E := EE [43, 2000043, 2999998]) ?_
  refine lx_boxr 2 hGF rfl rfl rfl ?_
  intro b2
  refine lx_boxr 3 hGF rfl rfl rfl ?_
  intro b3
  refine lx_allocr 4 hGF zv24 rfl rfl ?_
  intro b4
  refine lx_nil ?_
  refine xs_draws (E := EE [43, 2000043, 2999998]) [0, 1, 2, 3, 6, 7, 8, 4, 5, 9, 10, 11, 12] mixed rfl (by kernel_rfl) (by kernel_rfl) (by kernel_rfl) ?_
  refine lx_loada 2 rfl rfl Tryd.isAgg47 Tryd.sizeOf47 rfl rfl rfl ?_
  refine lx_loada 2 rfl rfl Tryd.isAgg47 Tryd.sizeOf47 rfl rfl rfl ?_
  refine lx_fak 0 rfl Tryd.underlying38 rfl Tryd.sizeOf34 (by decide) rfl rfl rfl ?_
  refine lx_load (v := .slice s.ba s.bs.length s.bc) rfl Tryd.isAgg34 (fun w' hw' => by have := (hp_row (n := 3) rfl w' hw') _ _ (Ag.a0 0 _ rfl); exact this) rfl rfl ?_
  refine lx_loada 2 rfl rfl Tryd.isAgg47 Tryd.sizeOf47 rfl rfl rfl ?_
  refine lx_fak 1 rfl Tryd.underlying38 rfl Tryd.sizeOf36 (by decide) rfl rfl rfl ?_
  refine lx_slarr0 rfl Tryd.underlying36 Tryd.sizeOf5 (by decide) rfl rfl ?_
  refine lx_callG rfl rfl ent43 rfl rfl (fun w' hw' => (rbi_calls s.bs s.ba s.bc (by omega) w' (hGF.g _ _ _ hw') (cells_grow hbs (hp_below hw'))).mono fun e1 w2 h => ?_)
  obtain ⟨_, rfl, hg, a9, c9, rfl, hs9, hn9⟩ := h
  have hc9 : (pb s.bs s.bs.length).length ≤ c9 := by have := hs9.le; rwa [List.length_map] at this
  obtain ⟨b9, cs9, rfl, ho9, _, _, ht9⟩ := hs9.resolve_left (fun h => hE (List.map_eq_nil_iff.1 h.2.1))
  refine ⟨_, _, rfl, good_hp hGF, hw'.news rides_true hg [(9, b9, cs9, 5)] ?_ inj_one, hp_fresh rides_true rfl, ?_⟩
  · intro n' b' c' t' hl
    rcases lkB_cons hl with ⟨_, e⟩ | ⟨_, hl⟩
    · cases e; exact ⟨hn9 _ rfl, ho9⟩
    · cases hl
  rw [List.length_map] at ht9
  clear hw' hg hn9 ho9 hs9
  refine lx_callC rfl rfl ent41 (fun w' hw' hG => hby_calls bm (pb s.bs s.bs.length) (by rw [pb_len]; unfold szB; omega) _ c9 hc9 w' hG (ho.of_same ((hp_below hw').block _ ho.lt)) (head_bytes (n := 9) rfl ht9 w' hw')) rfl rfl ?_
  refine lx_callC rfl rfl ent41 (fun w' hw' hG => by rw [show (96 : Nat) = s.sig.length from hk.sig.symm]; exact hby_calls bm s.sig (by rw [hk.sig]; decide) _ _ (Nat.le_refl _) w' hG (ho.of_same ((hp_below hw').block _ ho.lt)) (BytesAt.sub_row (hp_row (n := 3) rfl w' hw') Ag.a_sig)) rfl rfl ?_
  refine lx_bslWG (uf := U8) (s := 32) 15 (fun i => ([BR8 (pb s.bs s.bs.length), BR8 s.sig]).getD i []) (List.replicate 32 0#8) hGF rfl rfl rfl (fun i hi => (Ag.fs_all s) _ (mem_get hi)) (by decide) (by decide) Tryd.underlying60 Tryd.sizeOf23 rfl zv23 rfl rfl ?_
  intro b15
  rw [show RW 32 (fun i => ([BR8 (pb s.bs s.bs.length), BR8 s.sig]).getD i []) 2 = ([BR8 (pb s.bs s.bs.length), BR8 s.sig]).flatten from RW_list ([BR8 (pb s.bs s.bs.length), BR8 s.sig]) (Ag.fs_all s)]
  refine lx_callC rfl rfl ent34 (fun w' hw' hG => htr_calls bm ([BR8 (pb s.bs s.bs.length), BR8 s.sig]) (Ag.fs_all s) (by show 2 ≤ 1000000; decide) _ 2 (Nat.le_refl 2) w' hG (ho.of_same ((hp_below hw').block _ ho.lt)) (own_rts (n := 15) (Ag.fs_all s) rfl (List.take_of_length_le (by rw [List.length_map, flat_len _ (Ag.fs_all s)]; exact Nat.le_refl _)) w' hw')) rfl rfl ?_
  refine lx_storea 4 hGF rfl rfl rfl Tryd.sizeOf24 (by rw [List.length_map]; exact tor_len (Ag.fs_all s)) (by rw [List.length_map]; exact Z0_len) (one_u8 _) rfl ?_
  refine lx_nil ?_
  refine x_ret ?_
  repeat (first | refine kseq_ret ?_ | refine kblk_ret ?_)
  exact kret_own 4 rfl rfl rfl Tryd.isAgg24 Tryd.sizeOf24 (by rw [List.length_map]; exact tor_len (Ag.fs_all s)) (fun w' hw' => ⟨rfl, hp_below hw'⟩)
theorem hag_calls (bm : Nat) (s : Ag) (hk : s.Ok) (hn : s.bs.length ≤ 1000) (w : World) (hw : Gt w) (ho : MkAt w bm) (hbs : CellsAt w s.ba (s.bs.map .bool)) : Calls Tryd.prog 25 [.agg [.pointer (some ⟨bm, 0, none⟩)].toArray, .agg s.cs.toArray].toArray w (fun e w' => e = .returned (.agg ((s.rt).map U8).toArray) ∧ Grow w w') := by
  by_cases hE : pb s.bs s.bs.length = []
  · exact hag_n bm s hk hn hE w hw ho hbs
  · exact hag_s bm s hk hn hE w hw ho hbs
end Go.Proofs.YtldnceanfncdfaaDoor
