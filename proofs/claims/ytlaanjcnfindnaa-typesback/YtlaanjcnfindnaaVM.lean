/-
  Committees, updates, bootstraps held against one another: the same ones.
-/
import Derived.Test.YtlaanjcnfindnaaVL
import Derived.Test.YtlaanjcnfindnaaX3
namespace Go.Proofs.Ytlaanjcnfindnaa
open Go.RowKit
set_option maxRecDepth 100000
set_option maxHeartbeats 1000000

theorem rg_at {w : World} {b o : Nat} {cs ds : List Value} (h : w.rangeAt b 0 cs) (hc : ∀ j v, ds[j]? = some v → cs[o + j]? = some v) : w.rangeAt b o ds := fun j v hv => by
  have := h _ v (hc j v hv)
  rw [Nat.zero_add] at this
  exact this
def Up.re (u : Up) (ka : Option Addr) (kc : Nat) (ba : Option Addr) (bc : Nat) : Up := ⟨u.at_, ⟨u.nx.ks, ka, kc, u.nx.sum⟩, u.br, u.fi, u.fy, ⟨u.sy.bs, ba, bc, u.sy.sig⟩, u.sl⟩
def Co.re (c : Co) (ka : Option Addr) (kc : Nat) : Co := ⟨c.ks, ka, kc, c.sum⟩
def Bo.re (b : Bo) (ka : Option Addr) (kc : Nat) : Bo := ⟨b.hd, b.nw.re ka kc, b.br⟩
theorem Co.re_ok {c : Co} (h : c.Ok) {ka : Option Addr} {kc : Nat} (hk : c.ks.length ≤ kc) : (c.re ka kc).Ok := ⟨h.ks, h.sum, hk⟩
theorem Up.re_ok {u : Up} (h : u.Ok) {ka ba : Option Addr} {kc bc : Nat} (hk : u.nx.ks.length ≤ kc) : (u.re ka kc ba bc).Ok := ⟨h.at_, Co.re_ok h.nx hk, h.br, h.fi, h.fy, ⟨h.sy.sig⟩⟩
theorem Bo.re_ok {b : Bo} (h : b.Ok) {ka : Option Addr} {kc : Nat} (hk : b.nw.ks.length ≤ kc) : (b.re ka kc).Ok := ⟨h.hd, Co.re_ok h.nw hk, h.br⟩
theorem Up.at_sig {u : Up} (k : u.Ok) : ∀ j v, (u.sy.sig.map U8)[j]? = some v → u.cs[598 + j]? = some v := at_trans (o := 597) (p := 1) (Up.at_sy k) Ag.at_sig
theorem hky_calls (l : List By) (hl : ∀ r ∈ l, r.length = 48) (hn : l.length ≤ 100000) (a1 : Option Addr) (c1 : Nat) (a2 : Option Addr) (c2 : Nat) (w : World) (hw : Gt w) (h1 : RwsAt 48 w a1 l) (h2 : RwsAt 48 w a2 l) : Calls Try.prog 67 [.slice a1 l.length c1, .slice a2 l.length c2].toArray w (fun e w' => e = .returned (.bool true) ∧ Grow w w') := by
  have hGF : BOk Gt (pl w) := gt_low.plain hw
  refine calls_of_X (G := Gt) Try.func67 rfl rfl (Hp (pl w) []) (hp_refl (pl w) trivial rides_true) (good_hp hGF) ?_
  refine xs_plain (E := EE []) ?_
  refine lx_assign rfl rfl rfl ?_
  refine lx_nil ?_
  refine x_seq ?_
  refine xs_plain (E := EE []) ?_
  refine lx_move rfl rfl rfl ?_
  refine lx_len rfl (fun _ => len_slice Try.underlying27 _ _ _ _) rfl rfl ?_
  refine lx_move rfl rfl rfl ?_
  refine lx_len rfl (fun _ => len_slice Try.underlying27 _ _ _ _) rfl rfl ?_
  refine lx_binB false rfl rfl (fun _ => rfl) (fun _ => bin_neq_i _ _ _) (bne_self_eq_false _) rfl rfl ?_
  refine lx_nil ?_
  refine x_false rfl ?_
  refine x_skip ?_
  refine x_seq ?_
  refine xs_plain (E := EE []) ?_
  refine lx_assign rfl rfl rfl ?_
  refine lx_nil ?_
  refine x_block ?_
  refine x_for (ι := { i : Nat // i ≤ l.length }) (fun y => [(0, .slice a1 l.length c1), (1, .slice a2 l.length c2), (5, I (y.1 : Int))]) (fun y => []) (fun y => l.length - y.1) ⟨0, Nat.zero_le _⟩ hGF ⟨rfl, rfl, rfl, trivial⟩ trivial ?_
  rintro ⟨i, hi⟩
  dsimp only
  refine x_seq ?_
  refine xs_plain (E := EE []) ?_
  refine lx_move rfl rfl rfl ?_
  refine lx_move rfl rfl rfl ?_
  refine lx_len rfl (fun _ => len_slice Try.underlying27 _ _ _ _) rfl rfl ?_
  rcases Nat.lt_or_ge i l.length with hlt | hge
  · skip
    obtain ⟨y, hiy⟩ : ∃ y, l[i]? = some y := ⟨_, List.getElem?_eq_getElem hlt⟩
    have hy : y.length = 48 := hl y (List.mem_of_getElem? hiy)
    obtain ⟨ad1, ea1, hc1⟩ := h1 i y hiy
    obtain ⟨ad2, ea2, hc2⟩ := h2 i y hiy
    refine lx_binB true rfl rfl (fun _ => rfl) (fun _ => bin_lss_i _ _ _) (by simp; omega) rfl rfl ?_
    refine lx_nil ?_
    refine x_true rfl ?_
    refine x_skip ?_
    refine x_seq ?_
    refine x_block ?_
    refine xs_drawn (E := EE []) mixed (by kernel_rfl) (by kernel_rfl) (by kernel_rfl) ?_
    refine lx_move rfl rfl rfl ?_
    refine lx_move rfl rfl rfl ?_
    refine lx_isAW (ad := ad1) i 48 (by rw [← ea1]; rfl) rfl Try.underlying27 Try.sizeOf29 rfl hlt rfl rfl ?_
    refine lx_loadA (cs := y.map U8) rfl Try.isAgg29 Try.sizeOf29 (by rw [List.length_map]; exact hy) (fun w' h j v hv => ((hp_below h).cell (block_lt_of_cell (hc1 j v hv))).trans (hc1 j v hv)) rfl rfl ?_
    refine lx_move rfl rfl rfl ?_
    refine lx_move rfl rfl rfl ?_
    refine lx_isAW (ad := ad2) i 48 (by rw [← ea2]; rfl) rfl Try.underlying27 Try.sizeOf29 rfl hlt rfl rfl ?_
    refine lx_loadA (cs := y.map U8) rfl Try.isAgg29 Try.sizeOf29 (by rw [List.length_map]; exact hy) (fun w' h j v hv => ((hp_below h).cell (block_lt_of_cell (hc2 j v hv))).trans (hc2 j v hv)) rfl rfl ?_
    refine lx_binB false rfl rfl (fun w' => eqg_29 _ _ _ _ _ w') (fun w' => bin_ne8 Try.underlying29 Try.underlying5 Try.sizeOf5 Try.isAgg5 y y hy hy w') (by rw [decide_eq_true rfl]; rfl) rfl rfl ?_
    refine lx_nil ?_
    refine x_false rfl ?_
    refine x_skip ?_
    refine x_plain (E := EE []) ?_
    refine lx_move rfl rfl rfl ?_
    refine lx_bin (v := I (((i + 1 : Nat) : Int))) rfl rfl (fun _ => rfl) (fun _ => (bin_add_i _ _ _ (by unfold inI; omega)).trans (by rfl)) rfl rfl ?_
    refine lx_assign rfl rfl rfl ?_
    refine lx_nil ?_
    repeat (refine kblk_n ?_)
    refine kseq_n ?_
    exact ⟨rfl, ⟨i + 1, hlt⟩, _, by show l.length - (i + 1) < l.length - i; omega, rfl, ⟨rfl, rfl, rfl, trivial⟩, trivial⟩
  · skip
    refine lx_binB false rfl rfl (fun _ => rfl) (fun _ => bin_lss_i _ _ _) (by rw [decide_eq_false_iff_not]; omega) rfl rfl ?_
    refine lx_nil ?_
    refine x_false rfl ?_
    refine x_exit ?_
    refine xs_plain (E := EE []) ?_
    refine lx_assign rfl rfl rfl ?_
    refine lx_nil ?_
    refine x_ret ?_
    repeat (first | refine kseq_ret ?_ | refine kblk_ret ?_)
    exact kret_tmp rfl rfl (fun w' hw' => ⟨rfl, hp_below hw'⟩)
theorem hbi_calls (l : List Bool) (hn : l.length ≤ 100000) (a1 : Option Addr) (c1 : Nat) (a2 : Option Addr) (c2 : Nat) (w : World) (hw : Gt w) (h1 : CellsAt w a1 (l.map .bool)) (h2 : CellsAt w a2 (l.map .bool)) : Calls Try.prog 32 [.slice a1 l.length c1, .slice a2 l.length c2].toArray w (fun e w' => e = .returned (.bool true) ∧ Grow w w') := by
  have hGF : BOk Gt (pl w) := gt_low.plain hw
  refine calls_of_X (G := Gt) Try.func32 rfl rfl (Hp (pl w) []) (hp_refl (pl w) trivial rides_true) (good_hp hGF) ?_
  refine xs_plain (E := EE []) ?_
  refine lx_assign rfl rfl rfl ?_
  refine lx_nil ?_
  refine x_seq ?_
  refine xs_plain (E := EE []) ?_
  refine lx_move rfl rfl rfl ?_
  refine lx_len rfl (fun _ => len_slice Try.underlying34 _ _ _ _) rfl rfl ?_
  refine lx_move rfl rfl rfl ?_
  refine lx_len rfl (fun _ => len_slice Try.underlying34 _ _ _ _) rfl rfl ?_
  refine lx_binB false rfl rfl (fun _ => rfl) (fun _ => bin_neq_i _ _ _) (bne_self_eq_false _) rfl rfl ?_
  refine lx_nil ?_
  refine x_false rfl ?_
  refine x_skip ?_
  refine x_seq ?_
  refine xs_plain (E := EE []) ?_
  refine lx_assign rfl rfl rfl ?_
  refine lx_nil ?_
  refine x_block ?_
  refine x_for (ι := { i : Nat // i ≤ l.length }) (fun y => [(0, .slice a1 l.length c1), (1, .slice a2 l.length c2), (5, I (y.1 : Int))]) (fun y => []) (fun y => l.length - y.1) ⟨0, Nat.zero_le _⟩ hGF ⟨rfl, rfl, rfl, trivial⟩ trivial ?_
  rintro ⟨i, hi⟩
  dsimp only
  refine x_seq ?_
  refine xs_plain (E := EE []) ?_
  refine lx_move rfl rfl rfl ?_
  refine lx_move rfl rfl rfl ?_
  refine lx_len rfl (fun _ => len_slice Try.underlying34 _ _ _ _) rfl rfl ?_
  rcases Nat.lt_or_ge i l.length with hlt | hge
  · skip
    have hiy : (l.map Value.bool)[i]? = some (.bool l[i]) := by rw [List.getElem?_map, List.getElem?_eq_getElem hlt]; rfl
    obtain ⟨ad1, ea1, hc1⟩ := h1 i _ hiy
    obtain ⟨ad2, ea2, hc2⟩ := h2 i _ hiy
    refine lx_binB true rfl rfl (fun _ => rfl) (fun _ => bin_lss_i _ _ _) (by simp; omega) rfl rfl ?_
    refine lx_nil ?_
    refine x_true rfl ?_
    refine x_skip ?_
    refine x_seq ?_
    refine x_block ?_
    refine xs_drawn (E := EE []) mixed (by kernel_rfl) (by kernel_rfl) (by kernel_rfl) ?_
    refine lx_move rfl rfl rfl ?_
    refine lx_move rfl rfl rfl ?_
    refine lx_isA (ad := ad1) i (by rw [← ea1]; rfl) rfl Try.underlying34 Try.sizeOf4 rfl hlt rfl rfl ?_
    refine lx_load (v := .bool l[i]) rfl Try.isAgg4 (fun w' h => ((hp_below h).cell (block_lt_of_cell hc1)).trans hc1) rfl rfl ?_
    refine lx_move rfl rfl rfl ?_
    refine lx_move rfl rfl rfl ?_
    refine lx_isA (ad := ad2) i (by rw [← ea2]; rfl) rfl Try.underlying34 Try.sizeOf4 rfl hlt rfl rfl ?_
    refine lx_load (v := .bool l[i]) rfl Try.isAgg4 (fun w' h => ((hp_below h).cell (block_lt_of_cell hc2)).trans hc2) rfl rfl ?_
    refine lx_binB false rfl rfl (fun _ => rfl) (fun w => bin_neq_bool 4 Try.underlying4 _ _ w) (bne_self_eq_false _) rfl rfl ?_
    refine lx_nil ?_
    refine x_false rfl ?_
    refine x_skip ?_
    refine x_plain (E := EE []) ?_
    refine lx_move rfl rfl rfl ?_
    refine lx_bin (v := I (((i + 1 : Nat) : Int))) rfl rfl (fun _ => rfl) (fun _ => (bin_add_i _ _ _ (by unfold inI; omega)).trans (by rfl)) rfl rfl ?_
    refine lx_assign rfl rfl rfl ?_
    refine lx_nil ?_
    repeat (refine kblk_n ?_)
    refine kseq_n ?_
    exact ⟨rfl, ⟨i + 1, hlt⟩, _, by show l.length - (i + 1) < l.length - i; omega, rfl, ⟨rfl, rfl, rfl, trivial⟩, trivial⟩
  · skip
    refine lx_binB false rfl rfl (fun _ => rfl) (fun _ => bin_lss_i _ _ _) (by rw [decide_eq_false_iff_not]; omega) rfl rfl ?_
    refine lx_nil ?_
    refine x_false rfl ?_
    refine x_exit ?_
    refine xs_plain (E := EE []) ?_
    refine lx_assign rfl rfl rfl ?_
    refine lx_nil ?_
    refine x_ret ?_
    repeat (first | refine kseq_ret ?_ | refine kblk_ret ?_)
    exact kret_tmp rfl rfl (fun w' hw' => ⟨rfl, hp_below hw'⟩)
theorem one_at {cs : List Value} {o : Nat} {v : Value} (h : cs[o]? = some v) : ∀ j u, [v][j]? = some u → cs[o + j]? = some u := fun j u hu => by
  cases j with
  | zero => cases hu; exact h
  | succ j => simp at hu
theorem hco_calls (c : Co) (hk : c.Ok) (hn : c.ks.length ≤ 100000) (ka : Option Addr) (kc : Nat) (w : World) (hw : Gt w) (h1 : RwsAt 48 w c.ka c.ks) (h2 : RwsAt 48 w ka c.ks) : Calls Try.prog 52 [.agg c.cs.toArray, .agg (c.re ka kc).cs.toArray].toArray w (fun e w' => e = .returned (.bool true) ∧ Grow w w') := by
  have hGF : BOk Gt (pl w) := gt_low.plain hw
  refine calls_of_X (G := Gt) Try.func52 rfl rfl (Hp (pl w) []) (hp_refl (pl w) trivial rides_true) (good_hp hGF) ?_
  refine xs_plain (E := EE []) ?_
  refine lx_boxr 2 hGF rfl rfl rfl ?_
  intro b2
  refine lx_boxr 3 hGF rfl rfl rfl ?_
  intro b3
  refine lx_assign rfl rfl rfl ?_
  refine lx_nil ?_
  refine xs_plain (E := EE []) ?_
  refine lx_fak 1 rfl Try.underlying31 rfl Try.sizeOf29 (by decide) rfl rfl rfl ?_
  refine lx_loadr (cs := c.sum.map U8) rfl Try.isAgg29 Try.sizeOf29 (by rw [List.length_map, hk.sum]) (fun w' h => rg_at (hp_row (n := 2) rfl w' h) (Co.at_sum (c := c))) rfl rfl ?_
  refine lx_fak 1 rfl Try.underlying31 rfl Try.sizeOf29 (by decide) rfl rfl rfl ?_
  refine lx_loadr (cs := c.sum.map U8) rfl Try.isAgg29 Try.sizeOf29 (by rw [List.length_map, hk.sum]) (fun w' h => rg_at (hp_row (n := 3) rfl w' h) (Co.at_sum (c := c.re ka kc))) rfl rfl ?_
  refine lx_binB true rfl rfl (fun w' => eqg_29 _ _ _ _ _ w') (fun w' => bin_self (s48 hk.sum) (by decide) w') rfl rfl rfl ?_
  refine lx_move rfl rfl rfl ?_
  refine lx_fak 0 rfl Try.underlying31 rfl Try.sizeOf27 (by decide) rfl rfl rfl ?_
  refine lx_load rfl Try.isAgg27 (fun w' h => (rg_at (ds := [_]) (hp_row (n := 2) rfl w' h) (one_at (rfl))) 0 _ rfl) rfl rfl ?_
  refine lx_fak 0 rfl Try.underlying31 rfl Try.sizeOf27 (by decide) rfl rfl rfl ?_
  refine lx_load rfl Try.isAgg27 (fun w' h => (rg_at (ds := [_]) (hp_row (n := 3) rfl w' h) (one_at (rfl))) 0 _ rfl) rfl rfl ?_
  refine lx_callC rfl rfl ent67 (fun w1 hC hG => hky_calls c.ks hk.ks hn c.ka c.kc ka kc w1 hG (h1.grow (hp_below hC)) (h2.grow (hp_below hC))) rfl rfl ?_
  refine lx_pick rfl rfl rfl rfl rfl ?_
  refine lx_assign rfl rfl rfl ?_
  refine lx_nil ?_
  refine x_ret ?_
  repeat (first | refine kseq_ret ?_ | refine kblk_ret ?_)
  exact kret_tmp rfl rfl (fun w' hw' => ⟨rfl, hp_below hw'⟩)
theorem hbo_calls (b : Bo) (hk : b.Ok) (hn : b.nw.ks.length ≤ 100000) (ka : Option Addr) (kc : Nat) (hkc : b.nw.ks.length ≤ kc) (w : World) (hw : Gt w) (h1 : RwsAt 48 w b.nw.ka b.nw.ks) (h2 : RwsAt 48 w ka b.nw.ks) : Calls Try.prog 27 [.agg b.cs.toArray, .agg (b.re ka kc).cs.toArray].toArray w (fun e w' => e = .returned (.bool true) ∧ Grow w w') := by
  have hGF : BOk Gt (pl w) := gt_low.plain hw
  refine calls_of_X (G := Gt) Try.func27 rfl rfl (Hp (pl w) []) (hp_refl (pl w) trivial rides_true) (good_hp hGF) ?_
  refine xs_plain (E := EE []) ?_
  refine lx_boxr 2 hGF rfl rfl rfl ?_
  intro b2
  refine lx_boxr 3 hGF rfl rfl rfl ?_
  intro b3
  refine lx_assign rfl rfl rfl ?_
  refine lx_nil ?_
  refine xs_plain (E := EE []) ?_
  refine lx_fak 0 rfl Try.underlying42 rfl Try.sizeOf26 (by decide) rfl rfl rfl ?_
  refine lx_loadr (cs := b.hd.cs) rfl Try.isAgg26 Try.sizeOf26 (Hd.len hk.hd) (fun w' h => rg_at (hp_row (n := 2) rfl w' h) (Bo.at_hd (b := b))) rfl rfl ?_
  refine lx_fak 0 rfl Try.underlying42 rfl Try.sizeOf26 (by decide) rfl rfl rfl ?_
  refine lx_loadr (cs := b.hd.cs) rfl Try.isAgg26 Try.sizeOf26 (Hd.len hk.hd) (fun w' h => rg_at (hp_row (n := 3) rfl w' h) (Bo.at_hd (b := b.re ka kc))) rfl rfl ?_
  refine lx_binB true rfl rfl (fun w' => eqg_26 _ _ _ _ _ w') (fun w' => bin_self (sHd hk.hd) (by decide) w') rfl rfl rfl ?_
  refine lx_move rfl rfl rfl ?_
  refine lx_fak 98 rfl Try.underlying42 rfl Try.sizeOf31 (by decide) rfl rfl rfl ?_
  refine lx_loadr (cs := b.nw.cs) rfl Try.isAgg31 Try.sizeOf31 (Co.len hk.nw) (fun w' h => rg_at (hp_row (n := 2) rfl w' h) (Bo.at_nw hk)) rfl rfl ?_
  refine lx_fak 98 rfl Try.underlying42 rfl Try.sizeOf31 (by decide) rfl rfl rfl ?_
  refine lx_loadr (cs := (b.nw.re ka kc).cs) rfl Try.isAgg31 Try.sizeOf31 (Co.len (Co.re_ok hk.nw hkc)) (fun w' h => rg_at (hp_row (n := 3) rfl w' h) (Bo.at_nw (b := b.re ka kc) (Bo.re_ok hk hkc))) rfl rfl ?_
  refine lx_callC rfl rfl ent52 (fun w1 hC hG => hco_calls b.nw hk.nw hn ka kc w1 hG (h1.grow (hp_below hC)) (h2.grow (hp_below hC))) rfl rfl ?_
  refine lx_pick rfl rfl rfl rfl rfl ?_
  refine lx_move rfl rfl rfl ?_
  refine lx_fak 147 rfl Try.underlying42 rfl Try.sizeOf32 (by decide) rfl rfl rfl ?_
  refine lx_loadr (cs := b.br.map U8) rfl Try.isAgg32 Try.sizeOf32 (by rw [List.length_map, hk.br]) (fun w' h => rg_at (hp_row (n := 2) rfl w' h) (Bo.at_br hk)) rfl rfl ?_
  refine lx_fak 147 rfl Try.underlying42 rfl Try.sizeOf32 (by decide) rfl rfl rfl ?_
  refine lx_loadr (cs := b.br.map U8) rfl Try.isAgg32 Try.sizeOf32 (by rw [List.length_map, hk.br]) (fun w' h => rg_at (hp_row (n := 3) rfl w' h) (Bo.at_br (b := b.re ka kc) (Bo.re_ok hk hkc))) rfl rfl ?_
  refine lx_binB true rfl rfl (fun w' => eqg_32 _ _ _ _ _ w') (fun w' => bin_self (s5 hk.br) (by decide) w') rfl rfl rfl ?_
  refine lx_pick rfl rfl rfl rfl rfl ?_
  refine lx_assign rfl rfl rfl ?_
  refine lx_nil ?_
  refine x_ret ?_
  repeat (first | refine kseq_ret ?_ | refine kblk_ret ?_)
  exact kret_tmp rfl rfl (fun w' hw' => ⟨rfl, hp_below hw'⟩)
theorem hup_calls (u : Up) (hk : u.Ok) (hn : u.nx.ks.length ≤ 100000) (hm : u.sy.bs.length ≤ 100000) (ka : Option Addr) (kc : Nat) (ba : Option Addr) (bc : Nat) (hkc : u.nx.ks.length ≤ kc) (w : World) (hw : Gt w) (h1 : RwsAt 48 w u.nx.ka u.nx.ks) (h2 : RwsAt 48 w ka u.nx.ks) (h3 : CellsAt w u.sy.ba (u.sy.bs.map .bool)) (h4 : CellsAt w ba (u.sy.bs.map .bool)) : Calls Try.prog 28 [.agg u.cs.toArray, .agg (u.re ka kc ba bc).cs.toArray].toArray w (fun e w' => e = .returned (.bool true) ∧ Grow w w') := by
  have hGF : BOk Gt (pl w) := gt_low.plain hw
  refine calls_of_X (G := Gt) Try.func28 rfl rfl (Hp (pl w) []) (hp_refl (pl w) trivial rides_true) (good_hp hGF) ?_
  refine xs_plain (E := EE []) ?_
  refine lx_boxr 2 hGF rfl rfl rfl ?_
  intro b2
  refine lx_boxr 3 hGF rfl rfl rfl ?_
  intro b3
  refine lx_assign rfl rfl rfl ?_
  refine lx_nil ?_
  refine xs_plain (E := EE []) ?_
  refine lx_fak 0 rfl Try.underlying40 rfl Try.sizeOf26 (by decide) rfl rfl rfl ?_
  refine lx_loadr (cs := u.at_.cs) rfl Try.isAgg26 Try.sizeOf26 (Hd.len hk.at_) (fun w' h => rg_at (hp_row (n := 2) rfl w' h) (Up.at_at (u := u))) rfl rfl ?_
  refine lx_fak 0 rfl Try.underlying40 rfl Try.sizeOf26 (by decide) rfl rfl rfl ?_
  refine lx_loadr (cs := u.at_.cs) rfl Try.isAgg26 Try.sizeOf26 (Hd.len hk.at_) (fun w' h => rg_at (hp_row (n := 3) rfl w' h) (Up.at_at (u := u.re ka kc ba bc))) rfl rfl ?_
  refine lx_binB true rfl rfl (fun w' => eqg_26 _ _ _ _ _ w') (fun w' => bin_self (sHd hk.at_) (by decide) w') rfl rfl rfl ?_
  refine lx_move rfl rfl rfl ?_
  refine lx_fak 98 rfl Try.underlying40 rfl Try.sizeOf31 (by decide) rfl rfl rfl ?_
  refine lx_loadr (cs := u.nx.cs) rfl Try.isAgg31 Try.sizeOf31 (Co.len hk.nx) (fun w' h => rg_at (hp_row (n := 2) rfl w' h) (Up.at_nx hk)) rfl rfl ?_
  refine lx_fak 98 rfl Try.underlying40 rfl Try.sizeOf31 (by decide) rfl rfl rfl ?_
  refine lx_loadr (cs := (u.nx.re ka kc).cs) rfl Try.isAgg31 Try.sizeOf31 (Co.len (Co.re_ok hk.nx hkc)) (fun w' h => rg_at (hp_row (n := 3) rfl w' h) (Up.at_nx (u := u.re ka kc ba bc) (Up.re_ok hk hkc))) rfl rfl ?_
  refine lx_callC rfl rfl ent52 (fun w1 hC hG => hco_calls u.nx hk.nx hn ka kc w1 hG (h1.grow (hp_below hC)) (h2.grow (hp_below hC))) rfl rfl ?_
  refine lx_pick rfl rfl rfl rfl rfl ?_
  refine lx_move rfl rfl rfl ?_
  refine lx_fak 147 rfl Try.underlying40 rfl Try.sizeOf32 (by decide) rfl rfl rfl ?_
  refine lx_loadr (cs := u.br.map U8) rfl Try.isAgg32 Try.sizeOf32 (by rw [List.length_map, hk.br]) (fun w' h => rg_at (hp_row (n := 2) rfl w' h) (Up.at_br hk)) rfl rfl ?_
  refine lx_fak 147 rfl Try.underlying40 rfl Try.sizeOf32 (by decide) rfl rfl rfl ?_
  refine lx_loadr (cs := u.br.map U8) rfl Try.isAgg32 Try.sizeOf32 (by rw [List.length_map, hk.br]) (fun w' h => rg_at (hp_row (n := 3) rfl w' h) (Up.at_br (u := u.re ka kc ba bc) (Up.re_ok hk hkc))) rfl rfl ?_
  refine lx_binB true rfl rfl (fun w' => eqg_32 _ _ _ _ _ w') (fun w' => bin_self (s5 hk.br) (by decide) w') rfl rfl rfl ?_
  refine lx_pick rfl rfl rfl rfl rfl ?_
  refine lx_move rfl rfl rfl ?_
  refine lx_fak 307 rfl Try.underlying40 rfl Try.sizeOf26 (by decide) rfl rfl rfl ?_
  refine lx_loadr (cs := u.fi.cs) rfl Try.isAgg26 Try.sizeOf26 (Hd.len hk.fi) (fun w' h => rg_at (hp_row (n := 2) rfl w' h) (Up.at_fi hk)) rfl rfl ?_
  refine lx_fak 307 rfl Try.underlying40 rfl Try.sizeOf26 (by decide) rfl rfl rfl ?_
  refine lx_loadr (cs := u.fi.cs) rfl Try.isAgg26 Try.sizeOf26 (Hd.len hk.fi) (fun w' h => rg_at (hp_row (n := 3) rfl w' h) (Up.at_fi (u := u.re ka kc ba bc) (Up.re_ok hk hkc))) rfl rfl ?_
  refine lx_binB true rfl rfl (fun w' => eqg_26 _ _ _ _ _ w') (fun w' => bin_self (sHd hk.fi) (by decide) w') rfl rfl rfl ?_
  refine lx_pick rfl rfl rfl rfl rfl ?_
  refine lx_move rfl rfl rfl ?_
  refine lx_fak 405 rfl Try.underlying40 rfl Try.sizeOf33 (by decide) rfl rfl rfl ?_
  refine lx_loadr (cs := u.fy.map U8) rfl Try.isAgg33 Try.sizeOf33 (by rw [List.length_map, hk.fy]) (fun w' h => rg_at (hp_row (n := 2) rfl w' h) (Up.at_fy hk)) rfl rfl ?_
  refine lx_fak 405 rfl Try.underlying40 rfl Try.sizeOf33 (by decide) rfl rfl rfl ?_
  refine lx_loadr (cs := u.fy.map U8) rfl Try.isAgg33 Try.sizeOf33 (by rw [List.length_map, hk.fy]) (fun w' h => rg_at (hp_row (n := 3) rfl w' h) (Up.at_fy (u := u.re ka kc ba bc) (Up.re_ok hk hkc))) rfl rfl ?_
  refine lx_binB true rfl rfl (fun w' => eqg_33 _ _ _ _ _ w') (fun w' => bin_self (s6 hk.fy) (by decide) w') rfl rfl rfl ?_
  refine lx_pick rfl rfl rfl rfl rfl ?_
  refine lx_move rfl rfl rfl ?_
  refine lx_fak 597 rfl Try.underlying40 rfl Try.sizeOf38 (by decide) rfl rfl rfl ?_
  refine lx_fak 597 rfl Try.underlying38 rfl Try.sizeOf34 (by decide) rfl rfl rfl ?_
  refine lx_load rfl Try.isAgg34 (fun w' h => (rg_at (ds := [_]) (hp_row (n := 2) rfl w' h) (one_at (Up.at_bits hk))) 0 _ rfl) rfl rfl ?_
  refine lx_fak 597 rfl Try.underlying40 rfl Try.sizeOf38 (by decide) rfl rfl rfl ?_
  refine lx_fak 597 rfl Try.underlying38 rfl Try.sizeOf34 (by decide) rfl rfl rfl ?_
  refine lx_load rfl Try.isAgg34 (fun w' h => (rg_at (ds := [_]) (hp_row (n := 3) rfl w' h) (one_at (Up.at_bits (u := u.re ka kc ba bc) (Up.re_ok hk hkc)))) 0 _ rfl) rfl rfl ?_
  refine lx_callC rfl rfl ent32 (fun w1 hC hG => hbi_calls u.sy.bs hm u.sy.ba u.sy.bc ba bc w1 hG (h3.grow (hp_below hC)) (h4.grow (hp_below hC))) rfl rfl ?_
  refine lx_pick rfl rfl rfl rfl rfl ?_
  refine lx_move rfl rfl rfl ?_
  refine lx_fak 597 rfl Try.underlying40 rfl Try.sizeOf38 (by decide) rfl rfl rfl ?_
  refine lx_fak 598 rfl Try.underlying38 rfl Try.sizeOf36 (by decide) rfl rfl rfl ?_
  refine lx_loadr (cs := u.sy.sig.map U8) rfl Try.isAgg36 Try.sizeOf36 (by rw [List.length_map, hk.sy.sig]) (fun w' h => rg_at (hp_row (n := 2) rfl w' h) (Up.at_sig hk)) rfl rfl ?_
  refine lx_fak 597 rfl Try.underlying40 rfl Try.sizeOf38 (by decide) rfl rfl rfl ?_
  refine lx_fak 598 rfl Try.underlying38 rfl Try.sizeOf36 (by decide) rfl rfl rfl ?_
  refine lx_loadr (cs := u.sy.sig.map U8) rfl Try.isAgg36 Try.sizeOf36 (by rw [List.length_map, hk.sy.sig]) (fun w' h => rg_at (hp_row (n := 3) rfl w' h) (Up.at_sig (u := u.re ka kc ba bc) (Up.re_ok hk hkc))) rfl rfl ?_
  refine lx_binB true rfl rfl (fun w' => eqg_36 _ _ _ _ _ w') (fun w' => bin_self (s96 hk.sy.sig) (by decide) w') rfl rfl rfl ?_
  refine lx_pick rfl rfl rfl rfl rfl ?_
  refine lx_move rfl rfl rfl ?_
  refine lx_fak 694 rfl Try.underlying40 rfl Try.sizeOf22 (by decide) rfl rfl rfl ?_
  refine lx_load rfl Try.isAgg22 (fun w' h => (rg_at (ds := [_]) (hp_row (n := 2) rfl w' h) (one_at (Up.at_sl hk))) 0 _ rfl) rfl rfl ?_
  refine lx_fak 694 rfl Try.underlying40 rfl Try.sizeOf22 (by decide) rfl rfl rfl ?_
  refine lx_load rfl Try.isAgg22 (fun w' h => (rg_at (ds := [_]) (hp_row (n := 3) rfl w' h) (one_at (Up.at_sl (u := u.re ka kc ba bc) (Up.re_ok hk hkc)))) 0 _ rfl) rfl rfl ?_
  refine lx_binB true rfl rfl (fun _ => rfl) (fun _ => bin_eql_u64 _ _ _) (beq_self_eq_true _) rfl rfl ?_
  refine lx_pick rfl rfl rfl rfl rfl ?_
  refine lx_assign rfl rfl rfl ?_
  refine lx_nil ?_
  refine x_ret ?_
  repeat (first | refine kseq_ret ?_ | refine kblk_ret ?_)
  exact kret_tmp rfl rfl (fun w' hw' => ⟨rfl, hp_below hw'⟩)
end Go.Proofs.Ytlaanjcnfindnaa
