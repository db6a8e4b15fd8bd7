/-
  The law of all containers' roots.
-/
import Derived.Test.YtldnceanfncdfaaDoorWH
namespace Go.Proofs.YtldnceanfncdfaaDoor
open Go.RowKit
set_option maxRecDepth 100000
set_option maxHeartbeats 1000000
open Sh
theorem all_law (hR : RootsP) (u : Up) (hk : u.Ok) (hbc : u.sy.bs.length ≤ u.sy.bc) (b : Bo) (hb : b.Ok) (w : World) (hw : Gt w) (hks : RwsAt 48 w u.nx.ka u.nx.ks) (hbs : CellsAt w u.sy.ba (u.sy.bs.map .bool)) (hkb : RwsAt 48 w b.nw.ka b.nw.ks) : Calls Tryd.prog 3 [.agg u.cs.toArray, .agg b.cs.toArray].toArray w (fun e w' => e = .returned (.bool true) ∧ Grow w w') := by
  have hGF : BOk Gt (pl w) := gt_low.plain hw
  refine calls_of_X (G := Gt) Tryd.func3 rfl rfl (Hp (pl w) []) (hp_refl (pl w) trivial rides_true) (good_hp hGF) ?_
  refine xs_plain (E := EE [9]) ?_
  refine lx_boxr 2 hGF rfl rfl rfl ?_
  intro b2
  refine lx_boxr 3 hGF rfl rfl rfl ?_
  intro b3
  refine lx_assign rfl rfl rfl ?_
  refine lx_nil ?_
  refine x_seq ?_
  refine xs_plain (E := EE [9]) ?_
  refine lx_callC rfl rfl ent7 (fun w1 _ hG => known20 hR w1 hG) rfl rfl ?_
  refine lx_un rfl (fun _ => un_not _) rfl rfl ?_
  refine lx_nil ?_
  refine x_false rfl ?_
  refine x_skip ?_
  refine x_seq ?_
  refine xs_plain (E := EE [9]) ?_
  refine lx_loadr (cs := u.cs) rfl Tryd.isAgg40 Tryd.sizeOf40 (Up.len hk) (fun w' hw' j v hv => by have := (hp_row (n := 2) rfl w' hw') _ v (Up.all j v hv); rwa [Nat.zero_add] at this) rfl rfl ?_
  rcases Bool.eq_false_or_eq_true (lig u) with hli | hli
  · skip
    have hl2 : u.nx.ks.length ≤ 40 ∧ u.sy.bs.length ≤ 600 := by simpa [lig] using hli
    refine lx_callC rfl rfl ent8 (fun w1 _ hG => light_calls u hk w1 hG) rfl rfl ?_
    rw [hli]
    refine lx_un rfl (fun _ => un_not _) rfl rfl ?_
    refine lx_move rfl rfl rfl ?_
    refine lx_fak 98 rfl Tryd.underlying42 rfl Tryd.sizeOf31 (by decide) rfl rfl rfl ?_
    refine lx_fak 98 rfl Tryd.underlying31 rfl Tryd.sizeOf27 (by decide) rfl rfl rfl ?_
    refine lx_load (v := .slice b.nw.ka b.nw.ks.length b.nw.kc) rfl Tryd.isAgg27 (fun w' hw' => by have := (hp_row (n := 3) rfl w' hw') _ _ (Bo.ak hb 0 _ rfl); exact this) rfl rfl ?_
    refine lx_len rfl (fun _ => len_slice Tryd.underlying27 _ _ _ _) rfl rfl ?_
    rcases Nat.lt_or_ge 40 b.nw.ks.length with hgt | hle
    · skip
      refine lx_binB true rfl rfl (fun _ => rfl) (fun _ => bin_gtr_i _ _ _) (by rw [decide_eq_true_eq]; omega) rfl rfl ?_
      refine lx_pick rfl rfl rfl rfl rfl ?_
      refine lx_nil ?_
      refine x_true rfl ?_
      refine xs_plain (E := EE [9]) ?_
      refine lx_assign rfl rfl rfl ?_
      refine lx_nil ?_
      refine x_ret ?_
      repeat (first | refine kseq_ret ?_ | refine kblk_ret ?_)
      exact kret_tmp rfl rfl (fun w' hw' => ⟨rfl, hp_below hw'⟩)
    · skip
      have hnb : b.nw.ks.length ≤ 1000 := by omega
      refine lx_binB false rfl rfl (fun _ => rfl) (fun _ => bin_gtr_i _ _ _) (by rw [decide_eq_false_iff_not]; omega) rfl rfl ?_
      refine lx_pick rfl rfl rfl rfl rfl ?_
      refine lx_nil ?_
      refine x_false rfl ?_
      refine x_skip ?_
      refine x_seq ?_
      refine xs_plain (E := EE [9]) ?_
      refine lx_fak 597 rfl Tryd.underlying40 rfl Tryd.sizeOf38 (by decide) rfl rfl rfl ?_
      refine lx_fak 597 rfl Tryd.underlying38 rfl Tryd.sizeOf34 (by decide) rfl rfl rfl ?_
      refine lx_load (v := .slice u.sy.ba u.sy.bs.length u.sy.bc) rfl Tryd.isAgg34 (fun w' hw' => by have := (hp_row (n := 2) rfl w' hw') _ _ (Up.ab hk 0 _ rfl); exact this) rfl rfl ?_
      refine lx_len rfl (fun _ => len_slice Tryd.underlying34 _ _ _ _) rfl rfl ?_
      rcases Nat.lt_or_ge 40 u.sy.bs.length with hg2 | hg2
      · skip
        refine lx_binB true rfl rfl (fun _ => rfl) (fun _ => bin_gtr_i _ _ _) (by rw [decide_eq_true_eq]; omega) rfl rfl ?_
        refine lx_nil ?_
        refine x_true rfl ?_
        refine x_plain (E := EE [9]) ?_
        refine lx_fak 597 rfl Tryd.underlying40 rfl Tryd.sizeOf38 (by decide) rfl rfl rfl ?_
        refine lx_fak 597 rfl Tryd.underlying38 rfl Tryd.sizeOf34 (by decide) rfl rfl rfl ?_
        refine lx_load (v := .slice u.sy.ba u.sy.bs.length u.sy.bc) rfl Tryd.isAgg34 (fun w' hw' => by have := (hp_row (n := 2) rfl w' hw') _ _ (Up.ab hk 0 _ rfl); exact this) rfl rfl ?_
        refine lx_slsl (l := 0) (h' := 40) rfl Tryd.underlying34 Tryd.sizeOf4 rfl rfl ⟨Nat.zero_le _, by omega⟩ rfl rfl ?_
        rw [cut0, Nat.sub_zero, Nat.sub_zero]
        refine lx_fak 597 rfl Tryd.underlying40 rfl Tryd.sizeOf38 (by decide) rfl rfl rfl ?_
        refine lx_fak 597 rfl Tryd.underlying38 rfl Tryd.sizeOf34 (by decide) rfl rfl rfl ?_
        refine lx_store 2 hGF rfl rfl rfl Tryd.sizeOf34 rfl (by rw [Up.len hk]; decide) rfl ?_
        obtain ⟨u1, hu1⟩ : ∃ x, x = u.bits (u.sy.bs.take 40) u.sy.ba u.sy.bc := ⟨_, rfl⟩
        have hcs : u.cs.set 597 (.slice u.sy.ba (40 : Nat) u.sy.bc) = u1.cs := by rw [hu1, ← Up.bits_cs hk, List.length_take, Nat.min_eq_left (by omega)]
        rw [hcs]
        have k1 : u1.Ok := by rw [hu1]; exact Up.bits_ok hk _ _ _
        have hn : u1.sy.bs.length ≤ 1000 := by rw [hu1]; show (u.sy.bs.take 40).length ≤ 1000; rw [List.length_take]; omega
        have hnk : u1.nx.ks.length ≤ 1000 := by rw [hu1]; show u.nx.ks.length ≤ 1000; omega
        have hks : RwsAt 48 w u1.nx.ka u1.nx.ks := by rw [hu1]; exact hks
        have hbs : CellsAt w u1.sy.ba (u1.sy.bs.map .bool) := by rw [hu1]; show CellsAt w u.sy.ba ((u.sy.bs.take 40).map .bool); rw [List.map_take]; exact hbs.take _
        refine lx_nil ?_
        refine xs_plain (E := EE [9]) ?_
        refine lx_callE rfl rfl ent9 rfl rfl (fun w1 hC => (hnew_calls w1 (hGF.g _ _ _ hC)).mono fun e1 w2 h => ?_)
        obtain ⟨bm, rfl, hg, hbm, hob⟩ := h
        refine ⟨_, _, rfl, good_hp hGF, hC.news rides_true hg [(29, bm, MK.map U32, 83)] (rowN hbm hob) inj_one, ?_⟩
        clear hC hg hbm hob
        refine lx_allocr 5 hGF zvH rfl rfl ?_
        intro b5
        refine lx_storea 5 hGF rfl rfl rfl Tryd.sizeOf47 rfl rfl (by rfl) rfl ?_
        refine lx_nil ?_
        refine xs_drawn (E := EE [9]) mixed (by kernel_rfl) (by kernel_rfl) (by kernel_rfl) ?_
        refine lx_fak 0 rfl Tryd.underlying40 rfl Tryd.sizeOf26 (by decide) rfl rfl rfl ?_
        refine lx_loadr (cs := u1.at_.cs) rfl Tryd.isAgg26 Tryd.sizeOf26 (Hd.len k1.at_) (fun w' hw' j v hv => by have := (hp_row (n := 2) rfl w' hw') _ v (Up.l1 j v hv); rwa [Nat.zero_add] at this) rfl rfl ?_
        refine lx_callC rfl rfl ent10 (fun w' hw' hG => hR.hd u1.at_ (k1).at_ w' hG) rfl rfl ?_
        refine lx_loada 5 rfl rfl Tryd.isAgg47 Tryd.sizeOf47 rfl rfl rfl ?_
        refine lx_fak 0 rfl Tryd.underlying40 rfl Tryd.sizeOf26 (by decide) rfl rfl rfl ?_
        refine lx_loadr (cs := u1.at_.cs) rfl Tryd.isAgg26 Tryd.sizeOf26 (Hd.len k1.at_) (fun w' hw' j v hv => by have := (hp_row (n := 2) rfl w' hw') _ v (Up.l1 j v hv); rwa [Nat.zero_add] at this) rfl rfl ?_
        refine lx_callC rfl rfl ent11 (fun w' hw' hG => hhd_calls bm u1.at_ (k1).at_ w' hG (hw'.own 29 _ _ _ rfl).1) rfl rfl ?_
        refine lx_binB true rfl rfl (fun w' => eqg24 _ _ _ _ _ w') (fun w' => eqv24 _ _ (Hd.rt_len (k1).at_) (Hd.rt_len (k1).at_) w') (decide_eq_true rfl) rfl rfl ?_
        refine lx_move rfl rfl rfl ?_
        refine lx_fak 98 rfl Tryd.underlying42 rfl Tryd.sizeOf31 (by decide) rfl rfl rfl ?_
        refine lx_loadr (cs := b.nw.cs) rfl Tryd.isAgg31 Tryd.sizeOf31 (Co.len hb.nw) (fun w' hw' j v hv => by have := (hp_row (n := 3) rfl w' hw') _ v (Bo.l2 hb j v hv); rwa [Nat.zero_add] at this) rfl rfl ?_
        refine lx_callC rfl rfl ent12 (fun w' hw' hG => hR.co b.nw hb.nw hnb w' hG (hkb.grow (hp_below hw'))) rfl rfl ?_
        refine lx_loada 5 rfl rfl Tryd.isAgg47 Tryd.sizeOf47 rfl rfl rfl ?_
        refine lx_fak 98 rfl Tryd.underlying42 rfl Tryd.sizeOf31 (by decide) rfl rfl rfl ?_
        refine lx_loadr (cs := b.nw.cs) rfl Tryd.isAgg31 Tryd.sizeOf31 (Co.len hb.nw) (fun w' hw' j v hv => by have := (hp_row (n := 3) rfl w' hw') _ v (Bo.l2 hb j v hv); rwa [Nat.zero_add] at this) rfl rfl ?_
        refine lx_callC rfl rfl ent13 (fun w' hw' hG => hco_calls bm b.nw hb.nw hnb w' hG (hw'.own 29 _ _ _ rfl).1 (hkb.grow (hp_below hw'))) rfl rfl ?_
        refine lx_binB true rfl rfl (fun w' => eqg24 _ _ _ _ _ w') (fun w' => eqv24 _ _ (Co.rt_len _ _) (Co.rt_len _ _) w') (decide_eq_true rfl) rfl rfl ?_
        refine lx_pick rfl rfl rfl rfl rfl ?_
        refine lx_move rfl rfl rfl ?_
        refine lx_loadr (cs := u1.cs) rfl Tryd.isAgg40 Tryd.sizeOf40 (Up.len k1) (fun w' hw' j v hv => by have := (hp_row (n := 2) rfl w' hw') _ v (Up.all j v hv); rwa [Nat.zero_add] at this) rfl rfl ?_
        refine lx_callC rfl rfl ent14 (fun w' hw' hG => hR.up u1 k1 hnk hn w' hG (hks.grow (hp_below hw')) (cells_grow hbs (hp_below hw'))) rfl rfl ?_
        refine lx_loada 5 rfl rfl Tryd.isAgg47 Tryd.sizeOf47 rfl rfl rfl ?_
        refine lx_loadr (cs := u1.cs) rfl Tryd.isAgg40 Tryd.sizeOf40 (Up.len k1) (fun w' hw' j v hv => by have := (hp_row (n := 2) rfl w' hw') _ v (Up.all j v hv); rwa [Nat.zero_add] at this) rfl rfl ?_
        refine lx_callC rfl rfl ent15 (fun w' hw' hG => hup_rt bm u1 k1 hn w' hG (hw'.own 29 _ _ _ rfl).1 (hks.grow (hp_below hw')) (cells_grow hbs (hp_below hw'))) rfl rfl ?_
        refine lx_binB true rfl rfl (fun w' => eqg24 _ _ _ _ _ w') (fun w' => eqv24 _ _ (tor_len (Up.fs_all (k1))) (tor_len (Up.fs_all (k1))) w') (decide_eq_true rfl) rfl rfl ?_
        refine lx_pick rfl rfl rfl rfl rfl ?_
        refine lx_move rfl rfl rfl ?_
        refine lx_loadr (cs := u1.cs) rfl Tryd.isAgg40 Tryd.sizeOf40 (Up.len k1) (fun w' hw' j v hv => by have := (hp_row (n := 2) rfl w' hw') _ v (Up.all j v hv); rwa [Nat.zero_add] at this) rfl rfl ?_
        refine lx_callC rfl rfl ent16 (fun w' hw' hG => hR.fi u1 k1 hn w' hG (cells_grow hbs (hp_below hw'))) rfl rfl ?_
        refine lx_loada 5 rfl rfl Tryd.isAgg47 Tryd.sizeOf47 rfl rfl rfl ?_
        refine lx_loadr (cs := u1.cs) rfl Tryd.isAgg40 Tryd.sizeOf40 (Up.len k1) (fun w' hw' j v hv => by have := (hp_row (n := 2) rfl w' hw') _ v (Up.all j v hv); rwa [Nat.zero_add] at this) rfl rfl ?_
        refine lx_callC rfl rfl ent17 (fun w' hw' hG => hfi_rt bm u1 k1 hn w' hG (hw'.own 29 _ _ _ rfl).1 (cells_grow hbs (hp_below hw'))) rfl rfl ?_
        refine lx_binB true rfl rfl (fun w' => eqg24 _ _ _ _ _ w') (fun w' => eqv24 _ _ (tor_len (Up.ff_all (k1))) (tor_len (Up.ff_all (k1))) w') (decide_eq_true rfl) rfl rfl ?_
        refine lx_pick rfl rfl rfl rfl rfl ?_
        refine lx_move rfl rfl rfl ?_
        refine lx_loadr (cs := u1.cs) rfl Tryd.isAgg40 Tryd.sizeOf40 (Up.len k1) (fun w' hw' j v hv => by have := (hp_row (n := 2) rfl w' hw') _ v (Up.all j v hv); rwa [Nat.zero_add] at this) rfl rfl ?_
        refine lx_callC rfl rfl ent18 (fun w' hw' hG => hR.op u1 k1 hn w' hG (cells_grow hbs (hp_below hw'))) rfl rfl ?_
        refine lx_loada 5 rfl rfl Tryd.isAgg47 Tryd.sizeOf47 rfl rfl rfl ?_
        refine lx_loadr (cs := u1.cs) rfl Tryd.isAgg40 Tryd.sizeOf40 (Up.len k1) (fun w' hw' j v hv => by have := (hp_row (n := 2) rfl w' hw') _ v (Up.all j v hv); rwa [Nat.zero_add] at this) rfl rfl ?_
        refine lx_callC rfl rfl ent19 (fun w' hw' hG => hop_rt bm u1 k1 hn w' hG (hw'.own 29 _ _ _ rfl).1 (cells_grow hbs (hp_below hw'))) rfl rfl ?_
        refine lx_binB true rfl rfl (fun w' => eqg24 _ _ _ _ _ w') (fun w' => eqv24 _ _ (tor_len (Up.fo_all (k1))) (tor_len (Up.fo_all (k1))) w') (decide_eq_true rfl) rfl rfl ?_
        refine lx_pick rfl rfl rfl rfl rfl ?_
        refine lx_move rfl rfl rfl ?_
        refine lx_loadr (cs := b.cs) rfl Tryd.isAgg42 Tryd.sizeOf42 (Bo.len hb) (fun w' hw' j v hv => by have := (hp_row (n := 3) rfl w' hw') _ v (Bo.all j v hv); rwa [Nat.zero_add] at this) rfl rfl ?_
        refine lx_callC rfl rfl ent20 (fun w' hw' hG => hR.bo b hb hnb w' hG (hkb.grow (hp_below hw'))) rfl rfl ?_
        refine lx_loada 5 rfl rfl Tryd.isAgg47 Tryd.sizeOf47 rfl rfl rfl ?_
        refine lx_loadr (cs := b.cs) rfl Tryd.isAgg42 Tryd.sizeOf42 (Bo.len hb) (fun w' hw' j v hv => by have := (hp_row (n := 3) rfl w' hw') _ v (Bo.all j v hv); rwa [Nat.zero_add] at this) rfl rfl ?_
        refine lx_callC rfl rfl ent21 (fun w' hw' hG => hbo_rt bm b hb hnb w' hG (hw'.own 29 _ _ _ rfl).1 (hkb.grow (hp_below hw'))) rfl rfl ?_
        refine lx_binB true rfl rfl (fun w' => eqg24 _ _ _ _ _ w') (fun w' => eqv24 _ _ (tor_len (Bo.fs_all hb)) (tor_len (Bo.fs_all hb)) w') (decide_eq_true rfl) rfl rfl ?_
        refine lx_pick rfl rfl rfl rfl rfl ?_
        refine lx_assign rfl rfl rfl ?_
        refine lx_nil ?_
        refine x_ret ?_
        repeat (first | refine kseq_ret ?_ | refine kblk_ret ?_)
        exact kret_tmp rfl rfl (fun w' hw' => ⟨rfl, hp_below hw'⟩)
      · skip
        have hn : u.sy.bs.length ≤ 1000 := by omega
        have hnk : u.nx.ks.length ≤ 1000 := by omega
        refine lx_binB false rfl rfl (fun _ => rfl) (fun _ => bin_gtr_i _ _ _) (by rw [decide_eq_false_iff_not]; omega) rfl rfl ?_
        refine lx_nil ?_
        refine x_false rfl ?_
        refine x_skip ?_
        refine xs_plain (E := EE [9]) ?_
        refine lx_callE rfl rfl ent9 rfl rfl (fun w1 hC => (hnew_calls w1 (hGF.g _ _ _ hC)).mono fun e1 w2 h => ?_)
        obtain ⟨bm, rfl, hg, hbm, hob⟩ := h
        refine ⟨_, _, rfl, good_hp hGF, hC.news rides_true hg [(29, bm, MK.map U32, 83)] (rowN hbm hob) inj_one, ?_⟩
        clear hC hg hbm hob
        refine lx_allocr 5 hGF zvH rfl rfl ?_
        intro b5
        refine lx_storea 5 hGF rfl rfl rfl Tryd.sizeOf47 rfl rfl (by rfl) rfl ?_
        refine lx_nil ?_
        refine xs_drawn (E := EE [9]) mixed (by kernel_rfl) (by kernel_rfl) (by kernel_rfl) ?_
        refine lx_fak 0 rfl Tryd.underlying40 rfl Tryd.sizeOf26 (by decide) rfl rfl rfl ?_
        refine lx_loadr (cs := u.at_.cs) rfl Tryd.isAgg26 Tryd.sizeOf26 (Hd.len hk.at_) (fun w' hw' j v hv => by have := (hp_row (n := 2) rfl w' hw') _ v (Up.l1 j v hv); rwa [Nat.zero_add] at this) rfl rfl ?_
        refine lx_callC rfl rfl ent10 (fun w' hw' hG => hR.hd u.at_ (hk).at_ w' hG) rfl rfl ?_
        refine lx_loada 5 rfl rfl Tryd.isAgg47 Tryd.sizeOf47 rfl rfl rfl ?_
        refine lx_fak 0 rfl Tryd.underlying40 rfl Tryd.sizeOf26 (by decide) rfl rfl rfl ?_
        refine lx_loadr (cs := u.at_.cs) rfl Tryd.isAgg26 Tryd.sizeOf26 (Hd.len hk.at_) (fun w' hw' j v hv => by have := (hp_row (n := 2) rfl w' hw') _ v (Up.l1 j v hv); rwa [Nat.zero_add] at this) rfl rfl ?_
        refine lx_callC rfl rfl ent11 (fun w' hw' hG => hhd_calls bm u.at_ (hk).at_ w' hG (hw'.own 29 _ _ _ rfl).1) rfl rfl ?_
        refine lx_binB true rfl rfl (fun w' => eqg24 _ _ _ _ _ w') (fun w' => eqv24 _ _ (Hd.rt_len (hk).at_) (Hd.rt_len (hk).at_) w') (decide_eq_true rfl) rfl rfl ?_
        refine lx_move rfl rfl rfl ?_
        refine lx_fak 98 rfl Tryd.underlying42 rfl Tryd.sizeOf31 (by decide) rfl rfl rfl ?_
        refine lx_loadr (cs := b.nw.cs) rfl Tryd.isAgg31 Tryd.sizeOf31 (Co.len hb.nw) (fun w' hw' j v hv => by have := (hp_row (n := 3) rfl w' hw') _ v (Bo.l2 hb j v hv); rwa [Nat.zero_add] at this) rfl rfl ?_
        refine lx_callC rfl rfl ent12 (fun w' hw' hG => hR.co b.nw hb.nw hnb w' hG (hkb.grow (hp_below hw'))) rfl rfl ?_
        refine lx_loada 5 rfl rfl Tryd.isAgg47 Tryd.sizeOf47 rfl rfl rfl ?_
        refine lx_fak 98 rfl Tryd.underlying42 rfl Tryd.sizeOf31 (by decide) rfl rfl rfl ?_
        refine lx_loadr (cs := b.nw.cs) rfl Tryd.isAgg31 Tryd.sizeOf31 (Co.len hb.nw) (fun w' hw' j v hv => by have := (hp_row (n := 3) rfl w' hw') _ v (Bo.l2 hb j v hv); rwa [Nat.zero_add] at this) rfl rfl ?_
        refine lx_callC rfl rfl ent13 (fun w' hw' hG => hco_calls bm b.nw hb.nw hnb w' hG (hw'.own 29 _ _ _ rfl).1 (hkb.grow (hp_below hw'))) rfl rfl ?_
        refine lx_binB true rfl rfl (fun w' => eqg24 _ _ _ _ _ w') (fun w' => eqv24 _ _ (Co.rt_len _ _) (Co.rt_len _ _) w') (decide_eq_true rfl) rfl rfl ?_
        refine lx_pick rfl rfl rfl rfl rfl ?_
        refine lx_move rfl rfl rfl ?_
        refine lx_loadr (cs := u.cs) rfl Tryd.isAgg40 Tryd.sizeOf40 (Up.len hk) (fun w' hw' j v hv => by have := (hp_row (n := 2) rfl w' hw') _ v (Up.all j v hv); rwa [Nat.zero_add] at this) rfl rfl ?_
        refine lx_callC rfl rfl ent14 (fun w' hw' hG => hR.up u hk hnk hn w' hG (hks.grow (hp_below hw')) (cells_grow hbs (hp_below hw'))) rfl rfl ?_
        refine lx_loada 5 rfl rfl Tryd.isAgg47 Tryd.sizeOf47 rfl rfl rfl ?_
        refine lx_loadr (cs := u.cs) rfl Tryd.isAgg40 Tryd.sizeOf40 (Up.len hk) (fun w' hw' j v hv => by have := (hp_row (n := 2) rfl w' hw') _ v (Up.all j v hv); rwa [Nat.zero_add] at this) rfl rfl ?_
        refine lx_callC rfl rfl ent15 (fun w' hw' hG => hup_rt bm u hk hn w' hG (hw'.own 29 _ _ _ rfl).1 (hks.grow (hp_below hw')) (cells_grow hbs (hp_below hw'))) rfl rfl ?_
        refine lx_binB true rfl rfl (fun w' => eqg24 _ _ _ _ _ w') (fun w' => eqv24 _ _ (tor_len (Up.fs_all (hk))) (tor_len (Up.fs_all (hk))) w') (decide_eq_true rfl) rfl rfl ?_
        refine lx_pick rfl rfl rfl rfl rfl ?_
        refine lx_move rfl rfl rfl ?_
        refine lx_loadr (cs := u.cs) rfl Tryd.isAgg40 Tryd.sizeOf40 (Up.len hk) (fun w' hw' j v hv => by have := (hp_row (n := 2) rfl w' hw') _ v (Up.all j v hv); rwa [Nat.zero_add] at this) rfl rfl ?_
        refine lx_callC rfl rfl ent16 (fun w' hw' hG => hR.fi u hk hn w' hG (cells_grow hbs (hp_below hw'))) rfl rfl ?_
        refine lx_loada 5 rfl rfl Tryd.isAgg47 Tryd.sizeOf47 rfl rfl rfl ?_
        refine lx_loadr (cs := u.cs) rfl Tryd.isAgg40 Tryd.sizeOf40 (Up.len hk) (fun w' hw' j v hv => by have := (hp_row (n := 2) rfl w' hw') _ v (Up.all j v hv); rwa [Nat.zero_add] at this) rfl rfl ?_
        refine lx_callC rfl rfl ent17 (fun w' hw' hG => hfi_rt bm u hk hn w' hG (hw'.own 29 _ _ _ rfl).1 (cells_grow hbs (hp_below hw'))) rfl rfl ?_
        refine lx_binB true rfl rfl (fun w' => eqg24 _ _ _ _ _ w') (fun w' => eqv24 _ _ (tor_len (Up.ff_all (hk))) (tor_len (Up.ff_all (hk))) w') (decide_eq_true rfl) rfl rfl ?_
        refine lx_pick rfl rfl rfl rfl rfl ?_
        refine lx_move rfl rfl rfl ?_
        refine lx_loadr (cs := u.cs) rfl Tryd.isAgg40 Tryd.sizeOf40 (Up.len hk) (fun w' hw' j v hv => by have := (hp_row (n := 2) rfl w' hw') _ v (Up.all j v hv); rwa [Nat.zero_add] at this) rfl rfl ?_
        refine lx_callC rfl rfl ent18 (fun w' hw' hG => hR.op u hk hn w' hG (cells_grow hbs (hp_below hw'))) rfl rfl ?_
        refine lx_loada 5 rfl rfl Tryd.isAgg47 Tryd.sizeOf47 rfl rfl rfl ?_
        refine lx_loadr (cs := u.cs) rfl Tryd.isAgg40 Tryd.sizeOf40 (Up.len hk) (fun w' hw' j v hv => by have := (hp_row (n := 2) rfl w' hw') _ v (Up.all j v hv); rwa [Nat.zero_add] at this) rfl rfl ?_
        refine lx_callC rfl rfl ent19 (fun w' hw' hG => hop_rt bm u hk hn w' hG (hw'.own 29 _ _ _ rfl).1 (cells_grow hbs (hp_below hw'))) rfl rfl ?_
        refine lx_binB true rfl rfl (fun w' => eqg24 _ _ _ _ _ w') (fun w' => eqv24 _ _ (tor_len (Up.fo_all (hk))) (tor_len (Up.fo_all (hk))) w') (decide_eq_true rfl) rfl rfl ?_
        refine lx_pick rfl rfl rfl rfl rfl ?_
        refine lx_move rfl rfl rfl ?_
        refine lx_loadr (cs := b.cs) rfl Tryd.isAgg42 Tryd.sizeOf42 (Bo.len hb) (fun w' hw' j v hv => by have := (hp_row (n := 3) rfl w' hw') _ v (Bo.all j v hv); rwa [Nat.zero_add] at this) rfl rfl ?_
        refine lx_callC rfl rfl ent20 (fun w' hw' hG => hR.bo b hb hnb w' hG (hkb.grow (hp_below hw'))) rfl rfl ?_
        refine lx_loada 5 rfl rfl Tryd.isAgg47 Tryd.sizeOf47 rfl rfl rfl ?_
        refine lx_loadr (cs := b.cs) rfl Tryd.isAgg42 Tryd.sizeOf42 (Bo.len hb) (fun w' hw' j v hv => by have := (hp_row (n := 3) rfl w' hw') _ v (Bo.all j v hv); rwa [Nat.zero_add] at this) rfl rfl ?_
        refine lx_callC rfl rfl ent21 (fun w' hw' hG => hbo_rt bm b hb hnb w' hG (hw'.own 29 _ _ _ rfl).1 (hkb.grow (hp_below hw'))) rfl rfl ?_
        refine lx_binB true rfl rfl (fun w' => eqg24 _ _ _ _ _ w') (fun w' => eqv24 _ _ (tor_len (Bo.fs_all hb)) (tor_len (Bo.fs_all hb)) w') (decide_eq_true rfl) rfl rfl ?_
        refine lx_pick rfl rfl rfl rfl rfl ?_
        refine lx_assign rfl rfl rfl ?_
        refine lx_nil ?_
        refine x_ret ?_
        repeat (first | refine kseq_ret ?_ | refine kblk_ret ?_)
        exact kret_tmp rfl rfl (fun w' hw' => ⟨rfl, hp_below hw'⟩)
  · skip
    refine lx_callC rfl rfl ent8 (fun w1 _ hG => light_calls u hk w1 hG) rfl rfl ?_
    rw [hli]
    refine lx_un rfl (fun _ => un_not _) rfl rfl ?_
    refine lx_move rfl rfl rfl ?_
    refine lx_skip rfl rfl rfl ?_
    refine lx_skip rfl rfl rfl ?_
    refine lx_skip rfl rfl rfl ?_
    refine lx_skip rfl rfl rfl ?_
    refine lx_skip rfl rfl rfl ?_
    refine lx_pick rfl rfl rfl rfl rfl ?_
    refine lx_nil ?_
    refine x_true rfl ?_
    refine xs_plain (E := EE [9]) ?_
    refine lx_assign rfl rfl rfl ?_
    refine lx_nil ?_
    refine x_ret ?_
    repeat (first | refine kseq_ret ?_ | refine kblk_ret ?_)
    exact kret_tmp rfl rfl (fun w' hw' => ⟨rfl, hp_below hw'⟩)
end Go.Proofs.YtldnceanfncdfaaDoor
