/-
  The document's roots of updates and bootstraps.
-/
import Derived.Test.YtldnceanfncdfaaDoorWE
namespace Go.Proofs.YtldnceanfncdfaaDoor
open Go.RowKit
set_option maxRecDepth 100000
set_option maxHeartbeats 1000000
open Sh
theorem hup_rt (bm : Nat) (u : Up) (hk : u.Ok) (hn : u.sy.bs.length ≤ 1000) (w : World) (hw : Gt w) (ho : MkAt w bm) (hks : RwsAt 48 w u.nx.ka u.nx.ks) (hbs : CellsAt w u.sy.ba (u.sy.bs.map .bool)) : Calls Tryd.prog 15 [.agg [.pointer (some ⟨bm, 0, none⟩)].toArray, .agg u.cs.toArray].toArray w (fun e w' => e = .returned (.agg ((Tor u.fs).map U8).toArray) ∧ Grow w w') := by
  have hGF : BOk Gt (pl w) := gt_low.plain hw
  refine calls_of_X (G := Gt) Tryd.func15 rfl rfl (Hp (pl w) []) (hp_refl (pl w) trivial rides_true) (good_hp hGF) ?_
  refine xs_plain (E := EE [2999998]) ?_
  refine lx_boxr 2 hGF rfl rfl rfl ?_
  intro b2
  refine lx_boxr 3 hGF rfl rfl rfl ?_
  intro b3
  refine lx_allocr 4 hGF zv24 rfl rfl ?_
  intro b4
  refine lx_nil ?_
  refine xs_drawn (E := EE [2999998]) mixed (by kernel_rfl) (by kernel_rfl) (by kernel_rfl) ?_
  refine lx_loada 2 rfl rfl Tryd.isAgg47 Tryd.sizeOf47 rfl rfl rfl ?_
  refine lx_loada 2 rfl rfl Tryd.isAgg47 Tryd.sizeOf47 rfl rfl rfl ?_
  refine lx_fak 0 rfl Tryd.underlying40 rfl Tryd.sizeOf26 (by decide) rfl rfl rfl ?_
  refine lx_loadr (cs := u.at_.cs) rfl Tryd.isAgg26 Tryd.sizeOf26 (Hd.len hk.at_) (fun w' hw' j v hv => by have := (hp_row (n := 3) rfl w' hw') _ v (Up.l1 j v hv); rwa [Nat.zero_add] at this) rfl rfl ?_
  refine lx_callC rfl rfl ent11 (fun w' hw' hG => hhd_calls bm u.at_ hk.at_ w' hG (ho.of_same ((hp_below hw').block _ ho.lt))) rfl rfl ?_
  obtain ⟨r9, hr9⟩ : ∃ x, x = u.at_.rt := ⟨_, rfl⟩
  rw [← hr9]
  have hl9 : r9.length = 32 := by rw [hr9]; exact Hd.rt_len hk.at_
  refine lx_loada 2 rfl rfl Tryd.isAgg47 Tryd.sizeOf47 rfl rfl rfl ?_
  refine lx_fak 98 rfl Tryd.underlying40 rfl Tryd.sizeOf31 (by decide) rfl rfl rfl ?_
  refine lx_loadr (cs := u.nx.cs) rfl Tryd.isAgg31 Tryd.sizeOf31 (Co.len hk.nx) (fun w' hw' j v hv => by have := (hp_row (n := 3) rfl w' hw') _ v (Up.l2 hk j v hv); rwa [Nat.zero_add] at this) rfl rfl ?_
  refine lx_fak 597 rfl Tryd.underlying40 rfl Tryd.sizeOf38 (by decide) rfl rfl rfl ?_
  refine lx_fak 597 rfl Tryd.underlying38 rfl Tryd.sizeOf34 (by decide) rfl rfl rfl ?_
  refine lx_load (v := .slice u.sy.ba u.sy.bs.length u.sy.bc) rfl Tryd.isAgg34 (fun w' hw' => by have := (hp_row (n := 3) rfl w' hw') _ _ (Up.ab hk 0 _ rfl); exact this) rfl rfl ?_
  refine lx_len rfl (fun _ => len_slice Tryd.underlying34 _ _ _ _) rfl rfl ?_
  refine lx_callC rfl rfl ent36 (fun w' hw' hG => hcm_calls bm u.nx hk.nx u.sy.bs.length hn w' hG (ho.of_same ((hp_below hw').block _ ho.lt)) (hks.grow (hp_below hw'))) rfl rfl ?_
  obtain ⟨r17, hr17⟩ : ∃ x, x = u.nx.rt u.sy.bs.length := ⟨_, rfl⟩
  rw [← hr17]
  have hl17 : r17.length = 32 := by rw [hr17]; exact Co.rt_len _ _
  refine lx_loada 2 rfl rfl Tryd.isAgg47 Tryd.sizeOf47 rfl rfl rfl ?_
  refine lx_fak 147 rfl Tryd.underlying40 rfl Tryd.sizeOf32 (by decide) rfl rfl rfl ?_
  refine lx_slarr0 rfl Tryd.underlying32 Tryd.sizeOf24 (by decide) rfl rfl ?_
  refine lx_callC rfl rfl ent39 (fun w' hw' hG => hrs_n bm u.br 5 hk.br  (by decide) (by decide) _ w' hG (ho.of_same ((hp_below hw').block _ ho.lt)) (BytesAt.sub_row (hp_row (n := 3) rfl w' hw') (Up.l3 hk))) rfl rfl ?_
  obtain ⟨r21, hr21⟩ : ∃ x, x = Tor (cut32 u.br 5) := ⟨_, rfl⟩
  rw [← hr21]
  have hl21 : r21.length = 32 := by rw [hr21]; exact tor_len (cut32_all hk.br)
  refine lx_loada 2 rfl rfl Tryd.isAgg47 Tryd.sizeOf47 rfl rfl rfl ?_
  refine lx_fak 307 rfl Tryd.underlying40 rfl Tryd.sizeOf26 (by decide) rfl rfl rfl ?_
  refine lx_loadr (cs := u.fi.cs) rfl Tryd.isAgg26 Tryd.sizeOf26 (Hd.len hk.fi) (fun w' hw' j v hv => by have := (hp_row (n := 3) rfl w' hw') _ v (Up.l4 hk j v hv); rwa [Nat.zero_add] at this) rfl rfl ?_
  refine lx_callC rfl rfl ent11 (fun w' hw' hG => hhd_calls bm u.fi hk.fi w' hG (ho.of_same ((hp_below hw').block _ ho.lt))) rfl rfl ?_
  obtain ⟨r25, hr25⟩ : ∃ x, x = u.fi.rt := ⟨_, rfl⟩
  rw [← hr25]
  have hl25 : r25.length = 32 := by rw [hr25]; exact Hd.rt_len hk.fi
  refine lx_loada 2 rfl rfl Tryd.isAgg47 Tryd.sizeOf47 rfl rfl rfl ?_
  refine lx_fak 405 rfl Tryd.underlying40 rfl Tryd.sizeOf33 (by decide) rfl rfl rfl ?_
  refine lx_slarr0 rfl Tryd.underlying33 Tryd.sizeOf24 (by decide) rfl rfl ?_
  refine lx_callC rfl rfl ent39 (fun w' hw' hG => hrs_n bm u.fy 6 hk.fy  (by decide) (by decide) _ w' hG (ho.of_same ((hp_below hw').block _ ho.lt)) (BytesAt.sub_row (hp_row (n := 3) rfl w' hw') (Up.l5 hk))) rfl rfl ?_
  obtain ⟨r29, hr29⟩ : ∃ x, x = Tor (cut32 u.fy 6) := ⟨_, rfl⟩
  rw [← hr29]
  have hl29 : r29.length = 32 := by rw [hr29]; exact tor_len (cut32_all hk.fy)
  refine lx_loada 2 rfl rfl Tryd.isAgg47 Tryd.sizeOf47 rfl rfl rfl ?_
  refine lx_fak 597 rfl Tryd.underlying40 rfl Tryd.sizeOf38 (by decide) rfl rfl rfl ?_
  refine lx_loadr (cs := u.sy.cs) rfl Tryd.isAgg38 Tryd.sizeOf38 (Ag.len hk.sy) (fun w' hw' j v hv => by have := (hp_row (n := 3) rfl w' hw') _ v (Up.l6 hk j v hv); rwa [Nat.zero_add] at this) rfl rfl ?_
  refine lx_callC rfl rfl ent25 (fun w' hw' hG => hag_calls bm u.sy hk.sy hn w' hG (ho.of_same ((hp_below hw').block _ ho.lt)) (cells_grow hbs (hp_below hw'))) rfl rfl ?_
  obtain ⟨r33, hr33⟩ : ∃ x, x = u.sy.rt := ⟨_, rfl⟩
  rw [← hr33]
  have hl33 : r33.length = 32 := by rw [hr33]; exact Ag.rt_len _
  refine lx_fak 694 rfl Tryd.underlying40 rfl Tryd.sizeOf22 (by decide) rfl rfl rfl ?_
  refine lx_load (v := U64 u.sl) rfl Tryd.isAgg22 (fun w' hw' => by have := (hp_row (n := 3) rfl w' hw') _ _ (Up.l7 hk 0 _ rfl); exact this) rfl rfl ?_
  refine lx_callC rfl rfl ent27 (fun w' hw' hG => rch_calls u.sl w' hG) rfl rfl ?_
  rw [show pad32 (le8 u.sl 8) = nR u.sl from rfl]
  obtain ⟨r36, hr36⟩ : ∃ x, x = nR u.sl := ⟨_, rfl⟩
  rw [← hr36]
  have hl36 : r36.length = 32 := by rw [hr36]; exact nR_len _
  refine lx_bslWG (uf := U8) (s := 32) 37 (fun i => ([r9, r17, r21, r25, r29, r33, r36]).getD i []) (List.replicate 32 0#8) hGF rfl rfl rfl (fun i hi => (all1 hl9 (all1 hl17 (all1 hl21 (all1 hl25 (all1 hl29 (all1 hl33 (all1 hl36 all0))))))) _ (mem_get hi)) (by decide) (by decide) Tryd.underlying60 Tryd.sizeOf23 rfl zv23 rfl rfl ?_
  intro b37
  rw [show RW 32 (fun i => ([r9, r17, r21, r25, r29, r33, r36]).getD i []) 7 = ([r9, r17, r21, r25, r29, r33, r36]).flatten from RW_list ([r9, r17, r21, r25, r29, r33, r36]) (all1 hl9 (all1 hl17 (all1 hl21 (all1 hl25 (all1 hl29 (all1 hl33 (all1 hl36 all0)))))))]
  refine lx_callC rfl rfl ent34 (fun w' hw' hG => htr_calls bm ([r9, r17, r21, r25, r29, r33, r36]) (all1 hl9 (all1 hl17 (all1 hl21 (all1 hl25 (all1 hl29 (all1 hl33 (all1 hl36 all0))))))) (by show 7 ≤ 1000000; decide) _ 7 (Nat.le_refl 7) w' hG (ho.of_same ((hp_below hw').block _ ho.lt)) (own_rts (n := 37) (all1 hl9 (all1 hl17 (all1 hl21 (all1 hl25 (all1 hl29 (all1 hl33 (all1 hl36 all0))))))) rfl (List.take_of_length_le (by rw [List.length_map, flat_len _ (all1 hl9 (all1 hl17 (all1 hl21 (all1 hl25 (all1 hl29 (all1 hl33 (all1 hl36 all0)))))))]; exact Nat.le_refl _)) w' hw')) rfl rfl ?_
  refine lx_storea 4 hGF rfl rfl rfl Tryd.sizeOf24 (by rw [List.length_map]; exact tor_len (all1 hl9 (all1 hl17 (all1 hl21 (all1 hl25 (all1 hl29 (all1 hl33 (all1 hl36 all0)))))))) (by rw [List.length_map]; exact Z0_len) (one_u8 _) rfl ?_
  refine lx_nil ?_
  refine x_ret ?_
  repeat (first | refine kseq_ret ?_ | refine kblk_ret ?_)
  exact kret_own 4 rfl rfl rfl Tryd.isAgg24 Tryd.sizeOf24 (by rw [List.length_map]; exact tor_len (all1 hl9 (all1 hl17 (all1 hl21 (all1 hl25 (all1 hl29 (all1 hl33 (all1 hl36 all0)))))))) (fun w' hw' => ⟨by rw [hr9, hr17, hr21, hr25, hr29, hr33, hr36]; rfl, hp_below hw'⟩)
theorem hfi_rt (bm : Nat) (u : Up) (hk : u.Ok) (hn : u.sy.bs.length ≤ 1000) (w : World) (hw : Gt w) (ho : MkAt w bm) (hbs : CellsAt w u.sy.ba (u.sy.bs.map .bool)) : Calls Tryd.prog 17 [.agg [.pointer (some ⟨bm, 0, none⟩)].toArray, .agg u.cs.toArray].toArray w (fun e w' => e = .returned (.agg ((Tor u.ff).map U8).toArray) ∧ Grow w w') := by
  have hGF : BOk Gt (pl w) := gt_low.plain hw
  refine calls_of_X (G := Gt) Tryd.func17 rfl rfl (Hp (pl w) []) (hp_refl (pl w) trivial rides_true) (good_hp hGF) ?_
  refine xs_plain (E := EE [2999998]) ?_
  refine lx_boxr 2 hGF rfl rfl rfl ?_
  intro b2
  refine lx_boxr 3 hGF rfl rfl rfl ?_
  intro b3
  refine lx_allocr 4 hGF zv24 rfl rfl ?_
  intro b4
  refine lx_nil ?_
  refine xs_drawn (E := EE [2999998]) mixed (by kernel_rfl) (by kernel_rfl) (by kernel_rfl) ?_
  refine lx_loada 2 rfl rfl Tryd.isAgg47 Tryd.sizeOf47 rfl rfl rfl ?_
  refine lx_loada 2 rfl rfl Tryd.isAgg47 Tryd.sizeOf47 rfl rfl rfl ?_
  refine lx_fak 0 rfl Tryd.underlying40 rfl Tryd.sizeOf26 (by decide) rfl rfl rfl ?_
  refine lx_loadr (cs := u.at_.cs) rfl Tryd.isAgg26 Tryd.sizeOf26 (Hd.len hk.at_) (fun w' hw' j v hv => by have := (hp_row (n := 3) rfl w' hw') _ v (Up.l1 j v hv); rwa [Nat.zero_add] at this) rfl rfl ?_
  refine lx_callC rfl rfl ent11 (fun w' hw' hG => hhd_calls bm u.at_ hk.at_ w' hG (ho.of_same ((hp_below hw').block _ ho.lt))) rfl rfl ?_
  obtain ⟨r9, hr9⟩ : ∃ x, x = u.at_.rt := ⟨_, rfl⟩
  rw [← hr9]
  have hl9 : r9.length = 32 := by rw [hr9]; exact Hd.rt_len hk.at_
  refine lx_loada 2 rfl rfl Tryd.isAgg47 Tryd.sizeOf47 rfl rfl rfl ?_
  refine lx_fak 307 rfl Tryd.underlying40 rfl Tryd.sizeOf26 (by decide) rfl rfl rfl ?_
  refine lx_loadr (cs := u.fi.cs) rfl Tryd.isAgg26 Tryd.sizeOf26 (Hd.len hk.fi) (fun w' hw' j v hv => by have := (hp_row (n := 3) rfl w' hw') _ v (Up.l4 hk j v hv); rwa [Nat.zero_add] at this) rfl rfl ?_
  refine lx_callC rfl rfl ent11 (fun w' hw' hG => hhd_calls bm u.fi hk.fi w' hG (ho.of_same ((hp_below hw').block _ ho.lt))) rfl rfl ?_
  obtain ⟨r13, hr13⟩ : ∃ x, x = u.fi.rt := ⟨_, rfl⟩
  rw [← hr13]
  have hl13 : r13.length = 32 := by rw [hr13]; exact Hd.rt_len hk.fi
  refine lx_loada 2 rfl rfl Tryd.isAgg47 Tryd.sizeOf47 rfl rfl rfl ?_
  refine lx_fak 405 rfl Tryd.underlying40 rfl Tryd.sizeOf33 (by decide) rfl rfl rfl ?_
  refine lx_slarr0 rfl Tryd.underlying33 Tryd.sizeOf24 (by decide) rfl rfl ?_
  refine lx_callC rfl rfl ent39 (fun w' hw' hG => hrs_n bm u.fy 6 hk.fy  (by decide) (by decide) _ w' hG (ho.of_same ((hp_below hw').block _ ho.lt)) (BytesAt.sub_row (hp_row (n := 3) rfl w' hw') (Up.l5 hk))) rfl rfl ?_
  obtain ⟨r17, hr17⟩ : ∃ x, x = Tor (cut32 u.fy 6) := ⟨_, rfl⟩
  rw [← hr17]
  have hl17 : r17.length = 32 := by rw [hr17]; exact tor_len (cut32_all hk.fy)
  refine lx_loada 2 rfl rfl Tryd.isAgg47 Tryd.sizeOf47 rfl rfl rfl ?_
  refine lx_fak 597 rfl Tryd.underlying40 rfl Tryd.sizeOf38 (by decide) rfl rfl rfl ?_
  refine lx_loadr (cs := u.sy.cs) rfl Tryd.isAgg38 Tryd.sizeOf38 (Ag.len hk.sy) (fun w' hw' j v hv => by have := (hp_row (n := 3) rfl w' hw') _ v (Up.l6 hk j v hv); rwa [Nat.zero_add] at this) rfl rfl ?_
  refine lx_callC rfl rfl ent25 (fun w' hw' hG => hag_calls bm u.sy hk.sy hn w' hG (ho.of_same ((hp_below hw').block _ ho.lt)) (cells_grow hbs (hp_below hw'))) rfl rfl ?_
  obtain ⟨r21, hr21⟩ : ∃ x, x = u.sy.rt := ⟨_, rfl⟩
  rw [← hr21]
  have hl21 : r21.length = 32 := by rw [hr21]; exact Ag.rt_len _
  refine lx_fak 694 rfl Tryd.underlying40 rfl Tryd.sizeOf22 (by decide) rfl rfl rfl ?_
  refine lx_load (v := U64 u.sl) rfl Tryd.isAgg22 (fun w' hw' => by have := (hp_row (n := 3) rfl w' hw') _ _ (Up.l7 hk 0 _ rfl); exact this) rfl rfl ?_
  refine lx_callC rfl rfl ent27 (fun w' hw' hG => rch_calls u.sl w' hG) rfl rfl ?_
  rw [show pad32 (le8 u.sl 8) = nR u.sl from rfl]
  obtain ⟨r24, hr24⟩ : ∃ x, x = nR u.sl := ⟨_, rfl⟩
  rw [← hr24]
  have hl24 : r24.length = 32 := by rw [hr24]; exact nR_len _
  refine lx_bslWG (uf := U8) (s := 32) 25 (fun i => ([r9, r13, r17, r21, r24]).getD i []) (List.replicate 32 0#8) hGF rfl rfl rfl (fun i hi => (all1 hl9 (all1 hl13 (all1 hl17 (all1 hl21 (all1 hl24 all0))))) _ (mem_get hi)) (by decide) (by decide) Tryd.underlying60 Tryd.sizeOf23 rfl zv23 rfl rfl ?_
  intro b25
  rw [show RW 32 (fun i => ([r9, r13, r17, r21, r24]).getD i []) 5 = ([r9, r13, r17, r21, r24]).flatten from RW_list ([r9, r13, r17, r21, r24]) (all1 hl9 (all1 hl13 (all1 hl17 (all1 hl21 (all1 hl24 all0)))))]
  refine lx_callC rfl rfl ent34 (fun w' hw' hG => htr_calls bm ([r9, r13, r17, r21, r24]) (all1 hl9 (all1 hl13 (all1 hl17 (all1 hl21 (all1 hl24 all0))))) (by show 5 ≤ 1000000; decide) _ 5 (Nat.le_refl 5) w' hG (ho.of_same ((hp_below hw').block _ ho.lt)) (own_rts (n := 25) (all1 hl9 (all1 hl13 (all1 hl17 (all1 hl21 (all1 hl24 all0))))) rfl (List.take_of_length_le (by rw [List.length_map, flat_len _ (all1 hl9 (all1 hl13 (all1 hl17 (all1 hl21 (all1 hl24 all0)))))]; exact Nat.le_refl _)) w' hw')) rfl rfl ?_
  refine lx_storea 4 hGF rfl rfl rfl Tryd.sizeOf24 (by rw [List.length_map]; exact tor_len (all1 hl9 (all1 hl13 (all1 hl17 (all1 hl21 (all1 hl24 all0)))))) (by rw [List.length_map]; exact Z0_len) (one_u8 _) rfl ?_
  refine lx_nil ?_
  refine x_ret ?_
  repeat (first | refine kseq_ret ?_ | refine kblk_ret ?_)
  exact kret_own 4 rfl rfl rfl Tryd.isAgg24 Tryd.sizeOf24 (by rw [List.length_map]; exact tor_len (all1 hl9 (all1 hl13 (all1 hl17 (all1 hl21 (all1 hl24 all0)))))) (fun w' hw' => ⟨by rw [hr9, hr13, hr17, hr21, hr24]; rfl, hp_below hw'⟩)
theorem hop_rt (bm : Nat) (u : Up) (hk : u.Ok) (hn : u.sy.bs.length ≤ 1000) (w : World) (hw : Gt w) (ho : MkAt w bm) (hbs : CellsAt w u.sy.ba (u.sy.bs.map .bool)) : Calls Tryd.prog 19 [.agg [.pointer (some ⟨bm, 0, none⟩)].toArray, .agg u.cs.toArray].toArray w (fun e w' => e = .returned (.agg ((Tor u.fo).map U8).toArray) ∧ Grow w w') := by
  have hGF : BOk Gt (pl w) := gt_low.plain hw
  refine calls_of_X (G := Gt) Tryd.func19 rfl rfl (Hp (pl w) []) (hp_refl (pl w) trivial rides_true) (good_hp hGF) ?_
  refine xs_plain (E := EE [2999998]) ?_
  refine lx_boxr 2 hGF rfl rfl rfl ?_
  intro b2
  refine lx_boxr 3 hGF rfl rfl rfl ?_
  intro b3
  refine lx_allocr 4 hGF zv24 rfl rfl ?_
  intro b4
  refine lx_nil ?_
  refine xs_drawn (E := EE [2999998]) mixed (by kernel_rfl) (by kernel_rfl) (by kernel_rfl) ?_
  refine lx_loada 2 rfl rfl Tryd.isAgg47 Tryd.sizeOf47 rfl rfl rfl ?_
  refine lx_loada 2 rfl rfl Tryd.isAgg47 Tryd.sizeOf47 rfl rfl rfl ?_
  refine lx_fak 0 rfl Tryd.underlying40 rfl Tryd.sizeOf26 (by decide) rfl rfl rfl ?_
  refine lx_loadr (cs := u.at_.cs) rfl Tryd.isAgg26 Tryd.sizeOf26 (Hd.len hk.at_) (fun w' hw' j v hv => by have := (hp_row (n := 3) rfl w' hw') _ v (Up.l1 j v hv); rwa [Nat.zero_add] at this) rfl rfl ?_
  refine lx_callC rfl rfl ent11 (fun w' hw' hG => hhd_calls bm u.at_ hk.at_ w' hG (ho.of_same ((hp_below hw').block _ ho.lt))) rfl rfl ?_
  obtain ⟨r9, hr9⟩ : ∃ x, x = u.at_.rt := ⟨_, rfl⟩
  rw [← hr9]
  have hl9 : r9.length = 32 := by rw [hr9]; exact Hd.rt_len hk.at_
  refine lx_loada 2 rfl rfl Tryd.isAgg47 Tryd.sizeOf47 rfl rfl rfl ?_
  refine lx_fak 597 rfl Tryd.underlying40 rfl Tryd.sizeOf38 (by decide) rfl rfl rfl ?_
  refine lx_loadr (cs := u.sy.cs) rfl Tryd.isAgg38 Tryd.sizeOf38 (Ag.len hk.sy) (fun w' hw' j v hv => by have := (hp_row (n := 3) rfl w' hw') _ v (Up.l6 hk j v hv); rwa [Nat.zero_add] at this) rfl rfl ?_
  refine lx_callC rfl rfl ent25 (fun w' hw' hG => hag_calls bm u.sy hk.sy hn w' hG (ho.of_same ((hp_below hw').block _ ho.lt)) (cells_grow hbs (hp_below hw'))) rfl rfl ?_
  obtain ⟨r13, hr13⟩ : ∃ x, x = u.sy.rt := ⟨_, rfl⟩
  rw [← hr13]
  have hl13 : r13.length = 32 := by rw [hr13]; exact Ag.rt_len _
  refine lx_fak 694 rfl Tryd.underlying40 rfl Tryd.sizeOf22 (by decide) rfl rfl rfl ?_
  refine lx_load (v := U64 u.sl) rfl Tryd.isAgg22 (fun w' hw' => by have := (hp_row (n := 3) rfl w' hw') _ _ (Up.l7 hk 0 _ rfl); exact this) rfl rfl ?_
  refine lx_callC rfl rfl ent27 (fun w' hw' hG => rch_calls u.sl w' hG) rfl rfl ?_
  rw [show pad32 (le8 u.sl 8) = nR u.sl from rfl]
  obtain ⟨r16, hr16⟩ : ∃ x, x = nR u.sl := ⟨_, rfl⟩
  rw [← hr16]
  have hl16 : r16.length = 32 := by rw [hr16]; exact nR_len _
  refine lx_bslWG (uf := U8) (s := 32) 17 (fun i => ([r9, r13, r16]).getD i []) (List.replicate 32 0#8) hGF rfl rfl rfl (fun i hi => (all1 hl9 (all1 hl13 (all1 hl16 all0))) _ (mem_get hi)) (by decide) (by decide) Tryd.underlying60 Tryd.sizeOf23 rfl zv23 rfl rfl ?_
  intro b17
  rw [show RW 32 (fun i => ([r9, r13, r16]).getD i []) 3 = ([r9, r13, r16]).flatten from RW_list ([r9, r13, r16]) (all1 hl9 (all1 hl13 (all1 hl16 all0)))]
  refine lx_callC rfl rfl ent34 (fun w' hw' hG => htr_calls bm ([r9, r13, r16]) (all1 hl9 (all1 hl13 (all1 hl16 all0))) (by show 3 ≤ 1000000; decide) _ 3 (Nat.le_refl 3) w' hG (ho.of_same ((hp_below hw').block _ ho.lt)) (own_rts (n := 17) (all1 hl9 (all1 hl13 (all1 hl16 all0))) rfl (List.take_of_length_le (by rw [List.length_map, flat_len _ (all1 hl9 (all1 hl13 (all1 hl16 all0)))]; exact Nat.le_refl _)) w' hw')) rfl rfl ?_
  refine lx_storea 4 hGF rfl rfl rfl Tryd.sizeOf24 (by rw [List.length_map]; exact tor_len (all1 hl9 (all1 hl13 (all1 hl16 all0)))) (by rw [List.length_map]; exact Z0_len) (one_u8 _) rfl ?_
  refine lx_nil ?_
  refine x_ret ?_
  repeat (first | refine kseq_ret ?_ | refine kblk_ret ?_)
  exact kret_own 4 rfl rfl rfl Tryd.isAgg24 Tryd.sizeOf24 (by rw [List.length_map]; exact tor_len (all1 hl9 (all1 hl13 (all1 hl16 all0)))) (fun w' hw' => ⟨by rw [hr9, hr13, hr16]; rfl, hp_below hw'⟩)
theorem hbo_rt (bm : Nat) (b : Bo) (hk : b.Ok) (hn : b.nw.ks.length ≤ 1000) (w : World) (hw : Gt w) (ho : MkAt w bm) (hks : RwsAt 48 w b.nw.ka b.nw.ks) : Calls Tryd.prog 21 [.agg [.pointer (some ⟨bm, 0, none⟩)].toArray, .agg b.cs.toArray].toArray w (fun e w' => e = .returned (.agg ((Tor b.fs).map U8).toArray) ∧ Grow w w') := by
  have hGF : BOk Gt (pl w) := gt_low.plain hw
  refine calls_of_X (G := Gt) Tryd.func21 rfl rfl (Hp (pl w) []) (hp_refl (pl w) trivial rides_true) (good_hp hGF) ?_
  refine xs_plain (E := EE [2999998]) ?_
  refine lx_boxr 2 hGF rfl rfl rfl ?_
  intro b2
  refine lx_boxr 3 hGF rfl rfl rfl ?_
  intro b3
  refine lx_allocr 4 hGF zv24 rfl rfl ?_
  intro b4
  refine lx_nil ?_
  refine xs_drawn (E := EE [2999998]) mixed (by kernel_rfl) (by kernel_rfl) (by kernel_rfl) ?_
  refine lx_loada 2 rfl rfl Tryd.isAgg47 Tryd.sizeOf47 rfl rfl rfl ?_
  refine lx_loada 2 rfl rfl Tryd.isAgg47 Tryd.sizeOf47 rfl rfl rfl ?_
  refine lx_fak 0 rfl Tryd.underlying42 rfl Tryd.sizeOf26 (by decide) rfl rfl rfl ?_
  refine lx_loadr (cs := b.hd.cs) rfl Tryd.isAgg26 Tryd.sizeOf26 (Hd.len hk.hd) (fun w' hw' j v hv => by have := (hp_row (n := 3) rfl w' hw') _ v (Bo.l1 j v hv); rwa [Nat.zero_add] at this) rfl rfl ?_
  refine lx_callC rfl rfl ent11 (fun w' hw' hG => hhd_calls bm b.hd hk.hd w' hG (ho.of_same ((hp_below hw').block _ ho.lt))) rfl rfl ?_
  obtain ⟨r9, hr9⟩ : ∃ x, x = b.hd.rt := ⟨_, rfl⟩
  rw [← hr9]
  have hl9 : r9.length = 32 := by rw [hr9]; exact Hd.rt_len hk.hd
  refine lx_loada 2 rfl rfl Tryd.isAgg47 Tryd.sizeOf47 rfl rfl rfl ?_
  refine lx_fak 98 rfl Tryd.underlying42 rfl Tryd.sizeOf31 (by decide) rfl rfl rfl ?_
  refine lx_loadr (cs := b.nw.cs) rfl Tryd.isAgg31 Tryd.sizeOf31 (Co.len hk.nw) (fun w' hw' j v hv => by have := (hp_row (n := 3) rfl w' hw') _ v (Bo.l2 hk j v hv); rwa [Nat.zero_add] at this) rfl rfl ?_
  refine lx_callC rfl rfl ent13 (fun w' hw' hG => hco_calls bm b.nw hk.nw hn w' hG (ho.of_same ((hp_below hw').block _ ho.lt)) (hks.grow (hp_below hw'))) rfl rfl ?_
  obtain ⟨r13, hr13⟩ : ∃ x, x = b.nw.rt b.nw.ks.length := ⟨_, rfl⟩
  rw [← hr13]
  have hl13 : r13.length = 32 := by rw [hr13]; exact Co.rt_len _ _
  refine lx_loada 2 rfl rfl Tryd.isAgg47 Tryd.sizeOf47 rfl rfl rfl ?_
  refine lx_fak 147 rfl Tryd.underlying42 rfl Tryd.sizeOf32 (by decide) rfl rfl rfl ?_
  refine lx_slarr0 rfl Tryd.underlying32 Tryd.sizeOf24 (by decide) rfl rfl ?_
  refine lx_callC rfl rfl ent39 (fun w' hw' hG => hrs_n bm b.br 5 hk.br  (by decide) (by decide) _ w' hG (ho.of_same ((hp_below hw').block _ ho.lt)) (BytesAt.sub_row (hp_row (n := 3) rfl w' hw') (Bo.l3 hk))) rfl rfl ?_
  obtain ⟨r17, hr17⟩ : ∃ x, x = Tor (cut32 b.br 5) := ⟨_, rfl⟩
  rw [← hr17]
  have hl17 : r17.length = 32 := by rw [hr17]; exact tor_len (cut32_all hk.br)
  refine lx_bslWG (uf := U8) (s := 32) 18 (fun i => ([r9, r13, r17]).getD i []) (List.replicate 32 0#8) hGF rfl rfl rfl (fun i hi => (all1 hl9 (all1 hl13 (all1 hl17 all0))) _ (mem_get hi)) (by decide) (by decide) Tryd.underlying60 Tryd.sizeOf23 rfl zv23 rfl rfl ?_
  intro b18
  rw [show RW 32 (fun i => ([r9, r13, r17]).getD i []) 3 = ([r9, r13, r17]).flatten from RW_list ([r9, r13, r17]) (all1 hl9 (all1 hl13 (all1 hl17 all0)))]
  refine lx_callC rfl rfl ent34 (fun w' hw' hG => htr_calls bm ([r9, r13, r17]) (all1 hl9 (all1 hl13 (all1 hl17 all0))) (by show 3 ≤ 1000000; decide) _ 3 (Nat.le_refl 3) w' hG (ho.of_same ((hp_below hw').block _ ho.lt)) (own_rts (n := 18) (all1 hl9 (all1 hl13 (all1 hl17 all0))) rfl (List.take_of_length_le (by rw [List.length_map, flat_len _ (all1 hl9 (all1 hl13 (all1 hl17 all0)))]; exact Nat.le_refl _)) w' hw')) rfl rfl ?_
  refine lx_storea 4 hGF rfl rfl rfl Tryd.sizeOf24 (by rw [List.length_map]; exact tor_len (all1 hl9 (all1 hl13 (all1 hl17 all0)))) (by rw [List.length_map]; exact Z0_len) (one_u8 _) rfl ?_
  refine lx_nil ?_
  refine x_ret ?_
  repeat (first | refine kseq_ret ?_ | refine kblk_ret ?_)
  exact kret_own 4 rfl rfl rfl Tryd.isAgg24 Tryd.sizeOf24 (by rw [List.length_map]; exact tor_len (all1 hl9 (all1 hl13 (all1 hl17 all0)))) (fun w' hw' => ⟨by rw [hr9, hr13, hr17]; rfl, hp_below hw'⟩)
end Go.Proofs.YtldnceanfncdfaaDoor
