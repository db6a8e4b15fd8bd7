/-
  The document's updates and bootstraps as bytes.
-/
import Derived.Test.YtlaanjcnfindnaaVB
import Derived.Test.YtlaanjcnfindnaaX2
import Derived.Test.YtlaanjcnfindnaaX3
namespace Go.Proofs.Ytlaanjcnfindnaa
open Go.RowKit
set_option maxRecDepth 100000
set_option maxHeartbeats 1000000

theorem Up.at_at {u : Up} : ∀ j v, u.at_.cs[j]? = some v → u.cs[0 + j]? = some v := mid_at (pre := []) rfl
theorem Up.at_nx {u : Up} (k : u.Ok) : ∀ j v, u.nx.cs[j]? = some v → u.cs[98 + j]? = some v := mid_at (Hd.len k.at_)
theorem Up.e1 {u : Up} (k : u.Ok) : ∀ j v, (u.br.map U8 ++ (u.fi.cs ++ (u.fy.map U8 ++ (u.sy.cs ++ [U64 u.sl]))))[j]? = some v → u.cs[147 + j]? = some v := at_trans (o := 98) (p := 49) (end_at (Hd.len k.at_)) (end_at (Co.len k.nx))
theorem Up.at_br {u : Up} (k : u.Ok) : ∀ j v, (u.br.map U8)[j]? = some v → u.cs[147 + j]? = some v := at_trans (o := 147) (p := 0) (Up.e1 k) (mid_at (pre := []) rfl)
theorem Up.e2 {u : Up} (k : u.Ok) : ∀ j v, (u.fi.cs ++ (u.fy.map U8 ++ (u.sy.cs ++ [U64 u.sl])))[j]? = some v → u.cs[307 + j]? = some v := at_trans (o := 147) (p := 160) (Up.e1 k) (end_at (by rw [List.length_map, k.br]))
theorem Up.at_fi {u : Up} (k : u.Ok) : ∀ j v, u.fi.cs[j]? = some v → u.cs[307 + j]? = some v := at_trans (o := 307) (p := 0) (Up.e2 k) (mid_at (pre := []) rfl)
theorem Up.e3 {u : Up} (k : u.Ok) : ∀ j v, (u.fy.map U8 ++ (u.sy.cs ++ [U64 u.sl]))[j]? = some v → u.cs[405 + j]? = some v := at_trans (o := 307) (p := 98) (Up.e2 k) (end_at (Hd.len k.fi))
theorem Up.at_fy {u : Up} (k : u.Ok) : ∀ j v, (u.fy.map U8)[j]? = some v → u.cs[405 + j]? = some v := at_trans (o := 405) (p := 0) (Up.e3 k) (mid_at (pre := []) rfl)
theorem Up.e4 {u : Up} (k : u.Ok) : ∀ j v, (u.sy.cs ++ [U64 u.sl])[j]? = some v → u.cs[597 + j]? = some v := at_trans (o := 405) (p := 192) (Up.e3 k) (end_at (by rw [List.length_map, k.fy]))
theorem Up.at_sy {u : Up} (k : u.Ok) : ∀ j v, u.sy.cs[j]? = some v → u.cs[597 + j]? = some v := at_trans (o := 597) (p := 0) (Up.e4 k) (mid_at (pre := []) rfl)
theorem Up.at_sl {u : Up} (k : u.Ok) : u.cs[694]? = some (U64 u.sl) := at_trans (o := 597) (p := 97) (Up.e4 k) (end_at (Ag.len k.sy)) 0 _ rfl
theorem Up.at_bits {u : Up} (k : u.Ok) : u.cs[597]? = some (.slice u.sy.ba u.sy.bs.length u.sy.bc) := Up.at_sy k 0 _ rfl
theorem Bo.at_hd {b : Bo} : ∀ j v, b.hd.cs[j]? = some v → b.cs[0 + j]? = some v := mid_at (pre := []) rfl
theorem Bo.at_nw {b : Bo} (k : b.Ok) : ∀ j v, b.nw.cs[j]? = some v → b.cs[98 + j]? = some v := mid_at (Hd.len k.hd)
theorem Bo.at_keys {b : Bo} (k : b.Ok) : b.cs[98]? = some (.slice b.nw.ka b.nw.ks.length b.nw.kc) := Bo.at_nw k 0 _ rfl
theorem Bo.at_br {b : Bo} (k : b.Ok) : ∀ j v, (b.br.map U8)[j]? = some v → b.cs[147 + j]? = some v := at_trans (o := 98) (p := 49) (end_at (Hd.len k.hd)) (end_at (Co.len k.nw))
theorem Up.len {u : Up} (k : u.Ok) : u.cs.length = 695 := by simp [Up.cs, Hd.len k.at_, Co.len k.nx, k.br, Hd.len k.fi, k.fy, Ag.len k.sy]
theorem Bo.len {b : Bo} (k : b.Ok) : b.cs.length = 307 := by simp [Bo.cs, Hd.len k.hd, Co.len k.nw, k.br]
/-- A piece of a list in its place. -/
theorem piece_at {cs : List Value} {o : Nat} {l : By} (h : ∀ j v, (l.map U8)[j]? = some v → cs[o + j]? = some v) (m s : Nat) : ∀ j v, ((((l.drop m).take s).map U8))[j]? = some v → cs[(o + m) + j]? = some v := at_trans h fun j v hv => by
  rw [List.getElem?_map, Option.map_eq_some_iff] at hv ⊢
  obtain ⟨x, hx, rfl⟩ := hv
  rw [List.getElem?_take] at hx
  split at hx
  · rw [List.getElem?_drop] at hx; exact ⟨x, hx, rfl⟩
  · cases hx
theorem take_more32 (l : By) (i : Nat) : l.take (32 * i) ++ (l.drop (32 * i)).take 32 = l.take (32 * (i + 1)) := by rw [Nat.mul_succ, List.take_add]
theorem piece_len {l : By} {i n : Nat} (h : l.length = 32 * n) (hi : i < n) : ((l.drop (32 * i)).take 32).length = 32 := by rw [List.length_take, List.length_drop]; omega
theorem opt_calls (u : Up) (hk : u.Ok) (hn : u.sy.bs.length ≤ 1000) (w : World) (hw : Gt w) (hbs : CellsAt w u.sy.ba (u.sy.bs.map .bool)) : Calls Try.prog 17 [.agg u.cs.toArray].toArray w (fun e w' => ∃ a1 cap1, e = .returned (.slice a1 (u.opt).length cap1) ∧ Ap8 w none w' a1 cap1 (u.opt)) := by
  have hGF : BOk Gt (pl w) := gt_low.plain hw
  refine calls_of_X (G := Gt) Try.func17 rfl rfl (Hp (pl w) []) (hp_refl (pl w) trivial rides_true) (good_hp hGF) ?_
  refine xs_plain (E := EE []) ?_
  refine lx_boxr 1 hGF rfl rfl rfl ?_
  intro b1
  refine lx_assign rfl rfl rfl ?_
  refine lx_nil ?_
  refine x_now0 gt_low (fun w3 hC g3 => ?_)
  have hE : En w none 40 b1 u.cs w3 none 0 [] := En.start (n := 1) (slv_nil w) hC rfl g3
  clear hC
  have hGF := gt_low.plain hE.ap.g
  refine xs_drawK (E := EE [36, 38, 37]) (fun X => X = (fun w' => OwnB w' b1 u.cs 40)) (mkC [36, 38, 37]) (rkB [7, 10]) [0, 1, 3, 4, 6, 7, 2, 5, 8, 9] mixed rfl (by kernel_rfl) (by kernel_rfl) (by kernel_rfl) ?_
  refine lxk_s rfl rfl ?_
  refine lx_fak 0 rfl Try.underlying40 rfl Try.sizeOf26 (by decide) rfl rfl rfl ?_
  refine lx_nil ?_
  refine lxk_s rfl rfl ?_
  refine lx_loadr (cs := u.at_.cs) rfl Try.isAgg26 Try.sizeOf26 (Hd.len hk.at_) (fun w' h => own_rg (hE.ob.grow (hp_below h)) (Up.at_at)) rfl rfl ?_
  refine lx_nil ?_
  refine lxk_s rfl rfl ?_
  refine lx_fak 597 rfl Try.underlying40 rfl Try.sizeOf38 (by decide) rfl rfl rfl ?_
  refine lx_nil ?_
  refine lxk_q (X := fun w' => OwnB w' b1 u.cs 40) rfl (fun w' h => hE.ob.grow (hp_below h)) (fun _ => rfl) ?_
  refine lx_loadr (cs := u.sy.cs) rfl Try.isAgg38 Try.sizeOf38 (Ag.len hk.sy) (fun w' h => own_rg (h) (Up.at_sy hk)) rfl rfl ?_
  refine lx_nil ?_
  refine lxk_s rfl rfl ?_
  refine lx_fak 694 rfl Try.underlying40 rfl Try.sizeOf22 (by decide) rfl rfl rfl ?_
  refine lx_nil ?_
  refine lxk_q (X := fun w' => OwnB w' b1 u.cs 40) rfl (fun w' h => hE.ob.grow (hp_below h)) (fun _ => rfl) ?_
  refine lx_load rfl Try.isAgg22 (fun w' h => ((h).cell 694).trans (Up.at_sl hk)) rfl rfl ?_
  refine lx_nil ?_
  refine lxk_e rfl ?_
  refine lx_callW gt_low (M := Of none) (fun k _ => Nat.zero_le k) rfl rfl ent36 rfl rfl hGF (Q := fun w1 w2 v => ∃ a1 cap1, v = .slice a1 (([] : By) ++ u.at_.by).length cap1 ∧ Ap8 w1 none w2 a1 cap1 (([] : By) ++ u.at_.by)) (fun w1 h1 g1 => (hdr_calls u.at_ hk.at_ _ none 0 (by simp) w1 g1 (hE.ap.s.grow h1)).mono fun e w2 ⟨a1, c1, q1, q2⟩ => ⟨_, q1, q2.m, a1, c1, rfl, q2⟩) (fun w5a w5 v hg5 hm5 gg5 hq => ?_)
  obtain ⟨a5, c5, rfl, hq⟩ := hq
  have hE := hE.call hg5 hq
  have hGF := gt_low.plain hE.ap.g
  clear hq hg5 hm5 gg5
  refine lx_nil ?_
  refine ⟨fun _ X hX _ => by subst hX; exact fun w' h => hE.ob.grow (hp_below h), ?_⟩
  refine lxk_e rfl ?_
  refine lx_callW gt_low (M := Of a5) (fun k _ => Nat.zero_le k) rfl rfl ent38 rfl rfl hGF (Q := fun w1 w2 v => ∃ a1 cap1, v = .slice a1 ((([] : By) ++ u.at_.by) ++ u.sy.by).length cap1 ∧ Ap8 w1 a5 w2 a1 cap1 ((([] : By) ++ u.at_.by) ++ u.sy.by)) (fun w1 h1 g1 => (agg_calls u.sy hk.sy (by omega) _ a5 c5 (by simp [Hd.blen hk.at_] <;> omega) w1 g1 (hE.ap.s.grow h1) (cells_mm hbs (hE.ap.m.trans (grow_mm h1)) (fun _ k _ h => by obtain ⟨_, h, _⟩ := h; cases h)) (fun h0 k hk' h => by have h1' := cells_lt hbs h0 k hk'; rcases hE.ap.o k h with h2 | h2; (obtain ⟨_, h2, _⟩ := h2; cases h2); omega)).mono fun e w2 ⟨a1, c1, q1, q2⟩ => ⟨_, q1, q2.m, a1, c1, rfl, q2⟩) (fun w8a w8 v hg8 hm8 gg8 hq => ?_)
  obtain ⟨a8, c8, rfl, hq⟩ := hq
  have hE := hE.call hg8 hq
  have hGF := gt_low.plain hE.ap.g
  clear hq hg8 hm8 gg8
  refine lx_nil ?_
  refine ⟨fun _ X hX _ => by subst hX; exact fun w' h => hE.ob.grow (hp_below h), ?_⟩
  refine lxk_e rfl ?_
  refine lx_callW gt_low (M := Of a8) (fun k _ => Nat.zero_le k) rfl rfl ent37 rfl rfl hGF (Q := fun w1 w2 v => ∃ a1 cap1, v = .slice a1 (((([] : By) ++ u.at_.by) ++ u.sy.by) ++ le8 u.sl 8).length cap1 ∧ Ap8 w1 a8 w2 a1 cap1 (((([] : By) ++ u.at_.by) ++ u.sy.by) ++ le8 u.sl 8)) (fun w1 h1 g1 => (rui_calls u.sl _ a8 c8 (by simp [Hd.blen hk.at_, Ag.blen hk.sy, szB] <;> omega) w1 g1 (hE.ap.s.grow h1) (fun k _ => Nat.zero_le k)).mono fun e w2 ⟨a1, c1, q1, q2⟩ => ⟨_, q1, q2.m, a1, c1, rfl, q2⟩) (fun w11a w11 v hg11 hm11 gg11 hq => ?_)
  obtain ⟨a11, c11, rfl, hq⟩ := hq
  have hE := hE.call hg11 hq
  have hGF := gt_low.plain hE.ap.g
  clear hq hg11 hm11 gg11
  refine lx_nil ?_
  refine ⟨fun _ X hX _ => by subst hX; exact fun w' h => hE.ob.grow (hp_below h), ?_⟩
  refine lxk_s rfl rfl ?_
  refine lx_assign rfl rfl rfl ?_
  refine lx_nil ?_
  refine lxk_nil ?_
  refine x_ret ?_
  repeat (first | refine kseq_ret ?_ | refine kblk_ret ?_)
  exact kret_tmp rfl rfl (fun w' hw' => ⟨_, _, by rw [show u.opt = (((([] : By) ++ u.at_.by) ++ u.sy.by) ++ le8 u.sl 8) from by simp [Up.opt]], by rw [show u.opt = (((([] : By) ++ u.at_.by) ++ u.sy.by) ++ le8 u.sl 8) from by simp [Up.opt]]; exact hE.ap.grow (hp_below hw')⟩)
theorem fin_calls (u : Up) (hk : u.Ok) (hn : u.sy.bs.length ≤ 1000) (w : World) (hw : Gt w) (hbs : CellsAt w u.sy.ba (u.sy.bs.map .bool)) : Calls Try.prog 15 [.agg u.cs.toArray].toArray w (fun e w' => ∃ a1 cap1, e = .returned (.slice a1 (u.fin).length cap1) ∧ Ap8 w none w' a1 cap1 (u.fin)) := by
  have hGF : BOk Gt (pl w) := gt_low.plain hw
  refine calls_of_X (G := Gt) Try.func15 rfl rfl (Hp (pl w) []) (hp_refl (pl w) trivial rides_true) (good_hp hGF) ?_
  refine xs_plain (E := EE []) ?_
  refine lx_boxr 1 hGF rfl rfl rfl ?_
  intro b1
  refine lx_assign rfl rfl rfl ?_
  refine lx_nil ?_
  refine x_now0 gt_low (fun w3 hC g3 => ?_)
  have hE : En w none 40 b1 u.cs w3 none 0 [] := En.start (n := 1) (slv_nil w) hC rfl g3
  clear hC
  have hGF := gt_low.plain hE.ap.g
  refine xs_drawK (E := EE [36]) (fun X => X = (fun w' => OwnB w' b1 u.cs 40)) (mkC [36]) (rkB [9]) [0, 1, 3, 4, 2, 5, 6] mixed rfl (by kernel_rfl) (by kernel_rfl) (by kernel_rfl) ?_
  refine lxk_s rfl rfl ?_
  refine lx_fak 0 rfl Try.underlying40 rfl Try.sizeOf26 (by decide) rfl rfl rfl ?_
  refine lx_nil ?_
  refine lxk_s rfl rfl ?_
  refine lx_loadr (cs := u.at_.cs) rfl Try.isAgg26 Try.sizeOf26 (Hd.len hk.at_) (fun w' h => own_rg (hE.ob.grow (hp_below h)) (Up.at_at)) rfl rfl ?_
  refine lx_nil ?_
  refine lxk_s rfl rfl ?_
  refine lx_fak 307 rfl Try.underlying40 rfl Try.sizeOf26 (by decide) rfl rfl rfl ?_
  refine lx_nil ?_
  refine lxk_q (X := fun w' => OwnB w' b1 u.cs 40) rfl (fun w' h => hE.ob.grow (hp_below h)) (fun _ => rfl) ?_
  refine lx_loadr (cs := u.fi.cs) rfl Try.isAgg26 Try.sizeOf26 (Hd.len hk.fi) (fun w' h => own_rg (h) (Up.at_fi hk)) rfl rfl ?_
  refine lx_nil ?_
  refine lxk_e rfl ?_
  refine lx_callW gt_low (M := Of none) (fun k _ => Nat.zero_le k) rfl rfl ent36 rfl rfl hGF (Q := fun w1 w2 v => ∃ a1 cap1, v = .slice a1 (([] : By) ++ u.at_.by).length cap1 ∧ Ap8 w1 none w2 a1 cap1 (([] : By) ++ u.at_.by)) (fun w1 h1 g1 => (hdr_calls u.at_ hk.at_ _ none 0 (by simp) w1 g1 (hE.ap.s.grow h1)).mono fun e w2 ⟨a1, c1, q1, q2⟩ => ⟨_, q1, q2.m, a1, c1, rfl, q2⟩) (fun w7a w7 v hg7 hm7 gg7 hq => ?_)
  obtain ⟨a7, c7, rfl, hq⟩ := hq
  have hE := hE.call hg7 hq
  have hGF := gt_low.plain hE.ap.g
  clear hq hg7 hm7 gg7
  refine lx_nil ?_
  refine ⟨fun _ X hX _ => by subst hX; exact fun w' h => hE.ob.grow (hp_below h), ?_⟩
  refine lxk_e rfl ?_
  refine lx_callW gt_low (M := Of a7) (fun k _ => Nat.zero_le k) rfl rfl ent36 rfl rfl hGF (Q := fun w1 w2 v => ∃ a1 cap1, v = .slice a1 ((([] : By) ++ u.at_.by) ++ u.fi.by).length cap1 ∧ Ap8 w1 a7 w2 a1 cap1 ((([] : By) ++ u.at_.by) ++ u.fi.by)) (fun w1 h1 g1 => (hdr_calls u.fi hk.fi _ a7 c7 (by simp [Hd.blen hk.at_] <;> omega) w1 g1 (hE.ap.s.grow h1)).mono fun e w2 ⟨a1, c1, q1, q2⟩ => ⟨_, q1, q2.m, a1, c1, rfl, q2⟩) (fun w10a w10 v hg10 hm10 gg10 hq => ?_)
  obtain ⟨a10, c10, rfl, hq⟩ := hq
  have hE := hE.call hg10 hq
  have hGF := gt_low.plain hE.ap.g
  clear hq hg10 hm10 gg10
  refine lx_nil ?_
  refine ⟨fun _ X hX _ => by subst hX; exact fun w' h => hE.ob.grow (hp_below h), ?_⟩
  refine lxk_s rfl rfl ?_
  refine lx_assign rfl rfl rfl ?_
  refine lx_nil ?_
  refine lxk_nil ?_
  refine x_seq ?_
  refine xs_plain (E := EE []) ?_
  refine lx_assign rfl rfl rfl ?_
  refine lx_nil ?_
  refine x_block ?_
  have h0 : ((([] : By) ++ u.at_.by) ++ u.fi.by) ++ u.fy.take (32 * 0) = ((([] : By) ++ u.at_.by) ++ u.fi.by) := by rw [Nat.mul_zero, List.take_zero, List.append_nil]
  rw [← h0] at hE ⊢
  clear h0
  refine x_forW gt_low (ι := { x : Nat × World × Option Addr × Nat // x.1 ≤ 6 ∧ En w none 40 b1 u.cs x.2.1 x.2.2.1 x.2.2.2 (((([] : By) ++ u.at_.by) ++ u.fi.by) ++ u.fy.take (32 * x.1)) }) (fun x => [(3, .slice x.1.2.2.1 (((([] : By) ++ u.at_.by) ++ u.fi.by) ++ u.fy.take (32 * x.1.1)).length x.1.2.2.2), (1, .pointer (some ⟨b1, 0, none⟩)), (4, I (x.1.1 : Int))]) (fun x => x.1.2.1) (fun x => 6 - x.1.1) ⟨(0, w10, a10, c10), Nat.zero_le _, hE⟩ (fun x => x.2.2.ap.g) rfl ⟨rfl, rfl, rfl, trivial⟩ ?_
  clear hE hGF
  rintro ⟨⟨i, wk, ak, ck⟩, hi, hE⟩
  dsimp only at hi hE ⊢
  have hGF := gt_low.plain hE.ap.g
  refine x_seq ?_
  refine xs_plain (E := EE []) ?_
  refine lx_move rfl rfl rfl ?_
  rcases Nat.lt_or_ge i 6 with hlt | hge
  · skip
    refine lx_binB true rfl rfl (fun _ => rfl) (fun _ => bin_lss_i _ _ _) (by simp; omega) rfl rfl ?_
    refine lx_nil ?_
    refine x_true rfl ?_
    refine x_skip ?_
    refine x_seq ?_
    refine x_block ?_
    refine x_plain (E := EE []) ?_
    refine lx_move rfl rfl rfl ?_
    refine lx_move rfl rfl rfl ?_
    refine lx_fak 405 rfl Try.underlying40 rfl Try.sizeOf33 (by decide) rfl rfl rfl ?_
    refine lx_iak i (405 + 32 * i) rfl rfl Try.underlying33 Try.sizeOf24 rfl hlt (by omega) rfl rfl ?_
    refine lx_slarr0 rfl Try.underlying24 Try.sizeOf5 (by decide) rfl rfl ?_
    refine lx_app8 (xs := (((([] : By) ++ u.at_.by) ++ u.fi.by) ++ u.fy.take (32 * i))) (ys := ((u.fy.drop (32 * i)).take 32)) gt_low (fun w' h => hGF.g _ _ _ h) rfl (by rw [piece_len (n := 6) hk.fy hlt]; rfl) Try.underlying46 Try.underlying46 ti5 (fun w' h => hE.ap.s.grow (hp_below h)) (fun k _ => Nat.zero_le k) (fun w' h => own_by (hE.ob.grow (hp_below h)) (piece_at (Up.at_fy hk) (32 * i) 32)) (fun w' h _ ad e hof => by cases e; exact hE.nb _ hof rfl) (by simp [Hd.blen hk.at_, Hd.blen hk.fi, hk.fy, piece_len (n := 6) hk.fy hlt] <;> omega) rfl rfl (fun w20a w20 a20 c20 hC g2 hm hs ho => ?_)
    have hE := hE.next (hp_below hC) g2 hm hs ho
    have hGF := gt_low.plain hE.ap.g
    clear hC g2 hm hs ho
    rw [show ((([] : By) ++ u.at_.by) ++ u.fi.by) ++ u.fy.take (32 * i) ++ ((u.fy.drop (32 * i)).take 32) = ((([] : By) ++ u.at_.by) ++ u.fi.by) ++ u.fy.take (32 * (i + 1)) from (List.append_assoc _ _ _).trans (congrArg _ (take_more32 _ _))] at hE ⊢
    refine lx_assign rfl rfl rfl ?_
    refine lx_nil ?_
    refine x_plain (E := EE []) ?_
    refine lx_move rfl rfl rfl ?_
    refine lx_bin (v := I (((i + 1 : Nat) : Int))) rfl rfl (fun _ => rfl) (fun _ => (bin_add_i _ _ _ (by unfold inI; omega)).trans (by rfl)) rfl rfl ?_
    refine lx_assign rfl rfl rfl ?_
    refine lx_nil ?_
    repeat (refine kblk_n ?_)
    refine kseq_n ?_
    exact ⟨rfl, ⟨(i + 1, w20, a20, c20), hlt, hE⟩, by show 6 - (i + 1) < 6 - i; omega, rfl, ⟨rfl, rfl, rfl, trivial⟩⟩
  · skip
    obtain rfl : i = 6 := by omega
    rw [List.take_of_length_le (show u.fy.length ≤ 32 * 6 by rw [hk.fy]; decide)] at hE ⊢
    refine lx_binB false rfl rfl (fun _ => rfl) (fun _ => bin_lss_i _ _ _) (by rw [decide_eq_false_iff_not]; omega) rfl rfl ?_
    refine lx_nil ?_
    refine x_false rfl ?_
    refine x_exit ?_
    refine xs_drawK (E := EE [38, 37]) (fun X => X = (fun w' => OwnB w' b1 u.cs 40)) (mkC [38, 37]) (rkB [26]) [0, 1, 2, 4, 5, 3, 6, 7] mixed rfl (by kernel_rfl) (by kernel_rfl) (by kernel_rfl) ?_
    refine lxk_s rfl rfl ?_
    refine lx_move rfl rfl rfl ?_
    refine lx_nil ?_
    refine lxk_s rfl rfl ?_
    refine lx_fak 597 rfl Try.underlying40 rfl Try.sizeOf38 (by decide) rfl rfl rfl ?_
    refine lx_nil ?_
    refine lxk_s rfl rfl ?_
    refine lx_loadr (cs := u.sy.cs) rfl Try.isAgg38 Try.sizeOf38 (Ag.len hk.sy) (fun w' h => own_rg (hE.ob.grow (hp_below h)) (Up.at_sy hk)) rfl rfl ?_
    refine lx_nil ?_
    refine lxk_s rfl rfl ?_
    refine lx_fak 694 rfl Try.underlying40 rfl Try.sizeOf22 (by decide) rfl rfl rfl ?_
    refine lx_nil ?_
    refine lxk_q (X := fun w' => OwnB w' b1 u.cs 40) rfl (fun w' h => hE.ob.grow (hp_below h)) (fun _ => rfl) ?_
    refine lx_load rfl Try.isAgg22 (fun w' h => ((h).cell 694).trans (Up.at_sl hk)) rfl rfl ?_
    refine lx_nil ?_
    refine lxk_e rfl ?_
    refine lx_callW gt_low (M := Of ak) (fun k _ => Nat.zero_le k) rfl rfl ent38 rfl rfl hGF (Q := fun w1 w2 v => ∃ a1 cap1, v = .slice a1 ((((([] : By) ++ u.at_.by) ++ u.fi.by) ++ u.fy) ++ u.sy.by).length cap1 ∧ Ap8 w1 ak w2 a1 cap1 ((((([] : By) ++ u.at_.by) ++ u.fi.by) ++ u.fy) ++ u.sy.by)) (fun w1 h1 g1 => (agg_calls u.sy hk.sy (by omega) _ ak ck (by simp [Hd.blen hk.at_, Hd.blen hk.fi, hk.fy] <;> omega) w1 g1 (hE.ap.s.grow h1) (cells_mm hbs (hE.ap.m.trans (grow_mm h1)) (fun _ k _ h => by obtain ⟨_, h, _⟩ := h; cases h)) (fun h0 k hk' h => by have h1' := cells_lt hbs h0 k hk'; rcases hE.ap.o k h with h2 | h2; (obtain ⟨_, h2, _⟩ := h2; cases h2); omega)).mono fun e w2 ⟨a1, c1, q1, q2⟩ => ⟨_, q1, q2.m, a1, c1, rfl, q2⟩) (fun w24a w24 v hg24 hm24 gg24 hq => ?_)
    obtain ⟨a24, c24, rfl, hq⟩ := hq
    have hE := hE.call hg24 hq
    have hGF := gt_low.plain hE.ap.g
    clear hq hg24 hm24 gg24
    refine lx_nil ?_
    refine ⟨fun _ X hX _ => by subst hX; exact fun w' h => hE.ob.grow (hp_below h), ?_⟩
    refine lxk_e rfl ?_
    refine lx_callW gt_low (M := Of a24) (fun k _ => Nat.zero_le k) rfl rfl ent37 rfl rfl hGF (Q := fun w1 w2 v => ∃ a1 cap1, v = .slice a1 (((((([] : By) ++ u.at_.by) ++ u.fi.by) ++ u.fy) ++ u.sy.by) ++ le8 u.sl 8).length cap1 ∧ Ap8 w1 a24 w2 a1 cap1 (((((([] : By) ++ u.at_.by) ++ u.fi.by) ++ u.fy) ++ u.sy.by) ++ le8 u.sl 8)) (fun w1 h1 g1 => (rui_calls u.sl _ a24 c24 (by simp [Hd.blen hk.at_, Hd.blen hk.fi, hk.fy, Ag.blen hk.sy, szB] <;> omega) w1 g1 (hE.ap.s.grow h1) (fun k _ => Nat.zero_le k)).mono fun e w2 ⟨a1, c1, q1, q2⟩ => ⟨_, q1, q2.m, a1, c1, rfl, q2⟩) (fun w27a w27 v hg27 hm27 gg27 hq => ?_)
    obtain ⟨a27, c27, rfl, hq⟩ := hq
    have hE := hE.call hg27 hq
    have hGF := gt_low.plain hE.ap.g
    clear hq hg27 hm27 gg27
    refine lx_nil ?_
    refine ⟨fun _ X hX _ => by subst hX; exact fun w' h => hE.ob.grow (hp_below h), ?_⟩
    refine lxk_s rfl rfl ?_
    refine lx_assign rfl rfl rfl ?_
    refine lx_nil ?_
    refine lxk_nil ?_
    refine x_ret ?_
    repeat (first | refine kseq_ret ?_ | refine kblk_ret ?_)
    exact kret_tmp rfl rfl (fun w' hw' => ⟨_, _, by rw [show u.fin = (((((([] : By) ++ u.at_.by) ++ u.fi.by) ++ u.fy) ++ u.sy.by) ++ le8 u.sl 8) from by simp [Up.fin]], by rw [show u.fin = (((((([] : By) ++ u.at_.by) ++ u.fi.by) ++ u.fy) ++ u.sy.by) ++ le8 u.sl 8) from by simp [Up.fin]]; exact hE.ap.grow (hp_below hw')⟩)
theorem upd_calls (u : Up) (hk : u.Ok) (hn : u.sy.bs.length ≤ 1000) (w : World) (hw : Gt w) (hks : RwsAt 48 w u.nx.ka u.nx.ks) (hbs : CellsAt w u.sy.ba (u.sy.bs.map .bool)) : Calls Try.prog 13 [.agg u.cs.toArray].toArray w (fun e w' => ∃ a1 cap1, e = .returned (.slice a1 (u.by).length cap1) ∧ Ap8 w none w' a1 cap1 (u.by)) := by
  have hGF : BOk Gt (pl w) := gt_low.plain hw
  refine calls_of_X (G := Gt) Try.func13 rfl rfl (Hp (pl w) []) (hp_refl (pl w) trivial rides_true) (good_hp hGF) ?_
  refine xs_plain (E := EE []) ?_
  refine lx_boxr 1 hGF rfl rfl rfl ?_
  intro b1
  refine lx_assign rfl rfl rfl ?_
  refine lx_nil ?_
  refine x_now0 gt_low (fun w3 hC g3 => ?_)
  have hE : En w none 40 b1 u.cs w3 none 0 [] := En.start (n := 1) (slv_nil w) hC rfl g3
  clear hC
  have hGF := gt_low.plain hE.ap.g
  refine xs_drawK (E := EE [36, 35]) (fun X => X = (fun w' => OwnB w' b1 u.cs 40)) (mkC [36, 35]) (rkB [10, 13]) [0, 1, 3, 4, 5, 6, 7, 8, 2, 9, 10] mixed rfl (by kernel_rfl) (by kernel_rfl) (by kernel_rfl) ?_
  refine lxk_s rfl rfl ?_
  refine lx_fak 0 rfl Try.underlying40 rfl Try.sizeOf26 (by decide) rfl rfl rfl ?_
  refine lx_nil ?_
  refine lxk_s rfl rfl ?_
  refine lx_loadr (cs := u.at_.cs) rfl Try.isAgg26 Try.sizeOf26 (Hd.len hk.at_) (fun w' h => own_rg (hE.ob.grow (hp_below h)) (Up.at_at)) rfl rfl ?_
  refine lx_nil ?_
  refine lxk_s rfl rfl ?_
  refine lx_fak 98 rfl Try.underlying40 rfl Try.sizeOf31 (by decide) rfl rfl rfl ?_
  refine lx_nil ?_
  refine lxk_q (X := fun w' => OwnB w' b1 u.cs 40) rfl (fun w' h => hE.ob.grow (hp_below h)) (fun _ => rfl) ?_
  refine lx_loadr (cs := u.nx.cs) rfl Try.isAgg31 Try.sizeOf31 (Co.len hk.nx) (fun w' h => own_rg (h) (Up.at_nx hk)) rfl rfl ?_
  refine lx_nil ?_
  refine lxk_s rfl rfl ?_
  refine lx_fak 597 rfl Try.underlying40 rfl Try.sizeOf38 (by decide) rfl rfl rfl ?_
  refine lx_nil ?_
  refine lxk_s rfl rfl ?_
  refine lx_fak 597 rfl Try.underlying38 rfl Try.sizeOf34 (by decide) rfl rfl rfl ?_
  refine lx_nil ?_
  refine lxk_q (X := fun w' => OwnB w' b1 u.cs 40) rfl (fun w' h => hE.ob.grow (hp_below h)) (fun _ => rfl) ?_
  refine lx_load rfl Try.isAgg34 (fun w' h => ((h).cell 597).trans (Up.at_bits hk)) rfl rfl ?_
  refine lx_nil ?_
  refine lxk_s rfl rfl ?_
  refine lx_len rfl (fun _ => len_slice Try.underlying34 _ _ _ _) rfl rfl ?_
  refine lx_nil ?_
  refine lxk_e rfl ?_
  refine lx_callW gt_low (M := Of none) (fun k _ => Nat.zero_le k) rfl rfl ent36 rfl rfl hGF (Q := fun w1 w2 v => ∃ a1 cap1, v = .slice a1 (([] : By) ++ u.at_.by).length cap1 ∧ Ap8 w1 none w2 a1 cap1 (([] : By) ++ u.at_.by)) (fun w1 h1 g1 => (hdr_calls u.at_ hk.at_ _ none 0 (by simp) w1 g1 (hE.ap.s.grow h1)).mono fun e w2 ⟨a1, c1, q1, q2⟩ => ⟨_, q1, q2.m, a1, c1, rfl, q2⟩) (fun w8a w8 v hg8 hm8 gg8 hq => ?_)
  obtain ⟨a8, c8, rfl, hq⟩ := hq
  have hE := hE.call hg8 hq
  have hGF := gt_low.plain hE.ap.g
  clear hq hg8 hm8 gg8
  refine lx_nil ?_
  refine ⟨fun _ X hX _ => by subst hX; exact fun w' h => hE.ob.grow (hp_below h), ?_⟩
  refine lxk_e rfl ?_
  refine lx_callW gt_low (M := Of a8) (fun k _ => Nat.zero_le k) rfl rfl ent35 rfl rfl hGF (Q := fun w1 w2 v => ∃ a1 cap1, v = .slice a1 ((([] : By) ++ u.at_.by) ++ u.nx.by u.sy.bs.length).length cap1 ∧ Ap8 w1 a8 w2 a1 cap1 ((([] : By) ++ u.at_.by) ++ u.nx.by u.sy.bs.length)) (fun w1 h1 g1 => (com_calls u.nx hk.nx u.sy.bs.length (by omega) _ a8 c8 (by simp [Hd.blen hk.at_] <;> omega) w1 g1 (hE.ap.s.grow h1) (hks.mm (hE.ap.m.trans (grow_mm h1)) (fun _ k _ h => by obtain ⟨_, h, _⟩ := h; cases h)) (fun h0 k hk' h => by have h1' := hks.lt (by decide) hk.nx.ks h0 k hk'; rcases hE.ap.o k h with h2 | h2; (obtain ⟨_, h2, _⟩ := h2; cases h2); omega)).mono fun e w2 ⟨a1, c1, q1, q2⟩ => ⟨_, q1, q2.m, a1, c1, rfl, q2⟩) (fun w15a w15 v hg15 hm15 gg15 hq => ?_)
  obtain ⟨a15, c15, rfl, hq⟩ := hq
  have hE := hE.call hg15 hq
  have hGF := gt_low.plain hE.ap.g
  clear hq hg15 hm15 gg15
  refine lx_nil ?_
  refine ⟨fun _ X hX _ => by subst hX; exact fun w' h => hE.ob.grow (hp_below h), ?_⟩
  refine lxk_s rfl rfl ?_
  refine lx_assign rfl rfl rfl ?_
  refine lx_nil ?_
  refine lxk_nil ?_
  refine x_seq ?_
  refine xs_plain (E := EE []) ?_
  refine lx_assign rfl rfl rfl ?_
  refine lx_nil ?_
  refine x_block ?_
  have h0 : ((([] : By) ++ u.at_.by) ++ u.nx.by u.sy.bs.length) ++ u.br.take (32 * 0) = ((([] : By) ++ u.at_.by) ++ u.nx.by u.sy.bs.length) := by rw [Nat.mul_zero, List.take_zero, List.append_nil]
  rw [← h0] at hE ⊢
  clear h0
  refine x_forW gt_low (ι := { x : Nat × World × Option Addr × Nat // x.1 ≤ 5 ∧ En w none 40 b1 u.cs x.2.1 x.2.2.1 x.2.2.2 (((([] : By) ++ u.at_.by) ++ u.nx.by u.sy.bs.length) ++ u.br.take (32 * x.1)) }) (fun x => [(3, .slice x.1.2.2.1 (((([] : By) ++ u.at_.by) ++ u.nx.by u.sy.bs.length) ++ u.br.take (32 * x.1.1)).length x.1.2.2.2), (1, .pointer (some ⟨b1, 0, none⟩)), (4, I (x.1.1 : Int))]) (fun x => x.1.2.1) (fun x => 5 - x.1.1) ⟨(0, w15, a15, c15), Nat.zero_le _, hE⟩ (fun x => x.2.2.ap.g) rfl ⟨rfl, rfl, rfl, trivial⟩ ?_
  clear hE hGF
  rintro ⟨⟨i, wk, ak, ck⟩, hi, hE⟩
  dsimp only at hi hE ⊢
  have hGF := gt_low.plain hE.ap.g
  refine x_seq ?_
  refine xs_plain (E := EE []) ?_
  refine lx_move rfl rfl rfl ?_
  rcases Nat.lt_or_ge i 5 with hlt | hge
  · skip
    refine lx_binB true rfl rfl (fun _ => rfl) (fun _ => bin_lss_i _ _ _) (by simp; omega) rfl rfl ?_
    refine lx_nil ?_
    refine x_true rfl ?_
    refine x_skip ?_
    refine x_seq ?_
    refine x_block ?_
    refine x_plain (E := EE []) ?_
    refine lx_move rfl rfl rfl ?_
    refine lx_move rfl rfl rfl ?_
    refine lx_fak 147 rfl Try.underlying40 rfl Try.sizeOf32 (by decide) rfl rfl rfl ?_
    refine lx_iak i (147 + 32 * i) rfl rfl Try.underlying32 Try.sizeOf24 rfl hlt (by omega) rfl rfl ?_
    refine lx_slarr0 rfl Try.underlying24 Try.sizeOf5 (by decide) rfl rfl ?_
    refine lx_app8 (xs := (((([] : By) ++ u.at_.by) ++ u.nx.by u.sy.bs.length) ++ u.br.take (32 * i))) (ys := ((u.br.drop (32 * i)).take 32)) gt_low (fun w' h => hGF.g _ _ _ h) rfl (by rw [piece_len (n := 5) hk.br hlt]; rfl) Try.underlying46 Try.underlying46 ti5 (fun w' h => hE.ap.s.grow (hp_below h)) (fun k _ => Nat.zero_le k) (fun w' h => own_by (hE.ob.grow (hp_below h)) (piece_at (Up.at_br hk) (32 * i) 32)) (fun w' h _ ad e hof => by cases e; exact hE.nb _ hof rfl) (by simp [Hd.blen hk.at_, Co.blen hk.nx, hk.br, piece_len (n := 5) hk.br hlt] <;> omega) rfl rfl (fun w25a w25 a25 c25 hC g2 hm hs ho => ?_)
    have hE := hE.next (hp_below hC) g2 hm hs ho
    have hGF := gt_low.plain hE.ap.g
    clear hC g2 hm hs ho
    rw [show ((([] : By) ++ u.at_.by) ++ u.nx.by u.sy.bs.length) ++ u.br.take (32 * i) ++ ((u.br.drop (32 * i)).take 32) = ((([] : By) ++ u.at_.by) ++ u.nx.by u.sy.bs.length) ++ u.br.take (32 * (i + 1)) from (List.append_assoc _ _ _).trans (congrArg _ (take_more32 _ _))] at hE ⊢
    refine lx_assign rfl rfl rfl ?_
    refine lx_nil ?_
    refine x_plain (E := EE []) ?_
    refine lx_move rfl rfl rfl ?_
    refine lx_bin (v := I (((i + 1 : Nat) : Int))) rfl rfl (fun _ => rfl) (fun _ => (bin_add_i _ _ _ (by unfold inI; omega)).trans (by rfl)) rfl rfl ?_
    refine lx_assign rfl rfl rfl ?_
    refine lx_nil ?_
    repeat (refine kblk_n ?_)
    refine kseq_n ?_
    exact ⟨rfl, ⟨(i + 1, w25, a25, c25), hlt, hE⟩, by show 5 - (i + 1) < 5 - i; omega, rfl, ⟨rfl, rfl, rfl, trivial⟩⟩
  · skip
    obtain rfl : i = 5 := by omega
    rw [List.take_of_length_le (show u.br.length ≤ 32 * 5 by rw [hk.br]; decide)] at hE ⊢
    refine lx_binB false rfl rfl (fun _ => rfl) (fun _ => bin_lss_i _ _ _) (by rw [decide_eq_false_iff_not]; omega) rfl rfl ?_
    refine lx_nil ?_
    refine x_false rfl ?_
    refine x_exit ?_
    refine xs_plain (E := EE [36]) ?_
    refine lx_move rfl rfl rfl ?_
    refine lx_fak 307 rfl Try.underlying40 rfl Try.sizeOf26 (by decide) rfl rfl rfl ?_
    refine lx_loadr (cs := u.fi.cs) rfl Try.isAgg26 Try.sizeOf26 (Hd.len hk.fi) (fun w' h => own_rg (hE.ob.grow (hp_below h)) (Up.at_fi hk)) rfl rfl ?_
    refine lx_callW gt_low (M := Of ak) (fun k _ => Nat.zero_le k) rfl rfl ent36 rfl rfl hGF (Q := fun w1 w2 v => ∃ a1 cap1, v = .slice a1 ((((([] : By) ++ u.at_.by) ++ u.nx.by u.sy.bs.length) ++ u.br) ++ u.fi.by).length cap1 ∧ Ap8 w1 ak w2 a1 cap1 ((((([] : By) ++ u.at_.by) ++ u.nx.by u.sy.bs.length) ++ u.br) ++ u.fi.by)) (fun w1 h1 g1 => (hdr_calls u.fi hk.fi _ ak ck (by simp [Hd.blen hk.at_, Co.blen hk.nx, hk.br] <;> omega) w1 g1 (hE.ap.s.grow h1)).mono fun e w2 ⟨a1, c1, q1, q2⟩ => ⟨_, q1, q2.m, a1, c1, rfl, q2⟩) (fun w29a w29 v hg29 hm29 gg29 hq => ?_)
    obtain ⟨a29, c29, rfl, hq⟩ := hq
    have hE := hE.call hg29 hq
    have hGF := gt_low.plain hE.ap.g
    clear hq hg29 hm29 gg29
    refine lx_assign rfl rfl rfl ?_
    refine lx_nil ?_
    refine x_seq ?_
    refine xs_plain (E := EE []) ?_
    refine lx_assign rfl rfl rfl ?_
    refine lx_nil ?_
    refine x_block ?_
    have h0 : ((((([] : By) ++ u.at_.by) ++ u.nx.by u.sy.bs.length) ++ u.br) ++ u.fi.by) ++ u.fy.take (32 * 0) = ((((([] : By) ++ u.at_.by) ++ u.nx.by u.sy.bs.length) ++ u.br) ++ u.fi.by) := by rw [Nat.mul_zero, List.take_zero, List.append_nil]
    rw [← h0] at hE ⊢
    clear h0
    refine x_forW gt_low (ι := { x : Nat × World × Option Addr × Nat // x.1 ≤ 6 ∧ En w none 40 b1 u.cs x.2.1 x.2.2.1 x.2.2.2 (((((([] : By) ++ u.at_.by) ++ u.nx.by u.sy.bs.length) ++ u.br) ++ u.fi.by) ++ u.fy.take (32 * x.1)) }) (fun x => [(3, .slice x.1.2.2.1 (((((([] : By) ++ u.at_.by) ++ u.nx.by u.sy.bs.length) ++ u.br) ++ u.fi.by) ++ u.fy.take (32 * x.1.1)).length x.1.2.2.2), (1, .pointer (some ⟨b1, 0, none⟩)), (5, I (x.1.1 : Int))]) (fun x => x.1.2.1) (fun x => 6 - x.1.1) ⟨(0, w29, a29, c29), Nat.zero_le _, hE⟩ (fun x => x.2.2.ap.g) rfl ⟨rfl, rfl, rfl, trivial⟩ ?_
    clear hE hGF
    rintro ⟨⟨i, wk, ak, ck⟩, hi, hE⟩
    dsimp only at hi hE ⊢
    have hGF := gt_low.plain hE.ap.g
    refine x_seq ?_
    refine xs_plain (E := EE []) ?_
    refine lx_move rfl rfl rfl ?_
    rcases Nat.lt_or_ge i 6 with hlt | hge
    · skip
      refine lx_binB true rfl rfl (fun _ => rfl) (fun _ => bin_lss_i _ _ _) (by simp; omega) rfl rfl ?_
      refine lx_nil ?_
      refine x_true rfl ?_
      refine x_skip ?_
      refine x_seq ?_
      refine x_block ?_
      refine x_plain (E := EE []) ?_
      refine lx_move rfl rfl rfl ?_
      refine lx_move rfl rfl rfl ?_
      refine lx_fak 405 rfl Try.underlying40 rfl Try.sizeOf33 (by decide) rfl rfl rfl ?_
      refine lx_iak i (405 + 32 * i) rfl rfl Try.underlying33 Try.sizeOf24 rfl hlt (by omega) rfl rfl ?_
      refine lx_slarr0 rfl Try.underlying24 Try.sizeOf5 (by decide) rfl rfl ?_
      refine lx_app8 (xs := (((((([] : By) ++ u.at_.by) ++ u.nx.by u.sy.bs.length) ++ u.br) ++ u.fi.by) ++ u.fy.take (32 * i))) (ys := ((u.fy.drop (32 * i)).take 32)) gt_low (fun w' h => hGF.g _ _ _ h) rfl (by rw [piece_len (n := 6) hk.fy hlt]; rfl) Try.underlying46 Try.underlying46 ti5 (fun w' h => hE.ap.s.grow (hp_below h)) (fun k _ => Nat.zero_le k) (fun w' h => own_by (hE.ob.grow (hp_below h)) (piece_at (Up.at_fy hk) (32 * i) 32)) (fun w' h _ ad e hof => by cases e; exact hE.nb _ hof rfl) (by simp [Hd.blen hk.at_, Co.blen hk.nx, hk.br, Hd.blen hk.fi, hk.fy, piece_len (n := 6) hk.fy hlt] <;> omega) rfl rfl (fun w39a w39 a39 c39 hC g2 hm hs ho => ?_)
      have hE := hE.next (hp_below hC) g2 hm hs ho
      have hGF := gt_low.plain hE.ap.g
      clear hC g2 hm hs ho
      rw [show ((((([] : By) ++ u.at_.by) ++ u.nx.by u.sy.bs.length) ++ u.br) ++ u.fi.by) ++ u.fy.take (32 * i) ++ ((u.fy.drop (32 * i)).take 32) = ((((([] : By) ++ u.at_.by) ++ u.nx.by u.sy.bs.length) ++ u.br) ++ u.fi.by) ++ u.fy.take (32 * (i + 1)) from (List.append_assoc _ _ _).trans (congrArg _ (take_more32 _ _))] at hE ⊢
      refine lx_assign rfl rfl rfl ?_
      refine lx_nil ?_
      refine x_plain (E := EE []) ?_
      refine lx_move rfl rfl rfl ?_
      refine lx_bin (v := I (((i + 1 : Nat) : Int))) rfl rfl (fun _ => rfl) (fun _ => (bin_add_i _ _ _ (by unfold inI; omega)).trans (by rfl)) rfl rfl ?_
      refine lx_assign rfl rfl rfl ?_
      refine lx_nil ?_
      repeat (refine kblk_n ?_)
      refine kseq_n ?_
      exact ⟨rfl, ⟨(i + 1, w39, a39, c39), hlt, hE⟩, by show 6 - (i + 1) < 6 - i; omega, rfl, ⟨rfl, rfl, rfl, trivial⟩⟩
    · skip
      obtain rfl : i = 6 := by omega
      rw [List.take_of_length_le (show u.fy.length ≤ 32 * 6 by rw [hk.fy]; decide)] at hE ⊢
      refine lx_binB false rfl rfl (fun _ => rfl) (fun _ => bin_lss_i _ _ _) (by rw [decide_eq_false_iff_not]; omega) rfl rfl ?_
      refine lx_nil ?_
      refine x_false rfl ?_
      refine x_exit ?_
      refine xs_drawK (E := EE [38, 37]) (fun X => X = (fun w' => OwnB w' b1 u.cs 40)) (mkC [38, 37]) (rkB [45]) [0, 1, 2, 4, 5, 3, 6, 7] mixed rfl (by kernel_rfl) (by kernel_rfl) (by kernel_rfl) ?_
      refine lxk_s rfl rfl ?_
      refine lx_move rfl rfl rfl ?_
      refine lx_nil ?_
      refine lxk_s rfl rfl ?_
      refine lx_fak 597 rfl Try.underlying40 rfl Try.sizeOf38 (by decide) rfl rfl rfl ?_
      refine lx_nil ?_
      refine lxk_s rfl rfl ?_
      refine lx_loadr (cs := u.sy.cs) rfl Try.isAgg38 Try.sizeOf38 (Ag.len hk.sy) (fun w' h => own_rg (hE.ob.grow (hp_below h)) (Up.at_sy hk)) rfl rfl ?_
      refine lx_nil ?_
      refine lxk_s rfl rfl ?_
      refine lx_fak 694 rfl Try.underlying40 rfl Try.sizeOf22 (by decide) rfl rfl rfl ?_
      refine lx_nil ?_
      refine lxk_q (X := fun w' => OwnB w' b1 u.cs 40) rfl (fun w' h => hE.ob.grow (hp_below h)) (fun _ => rfl) ?_
      refine lx_load rfl Try.isAgg22 (fun w' h => ((h).cell 694).trans (Up.at_sl hk)) rfl rfl ?_
      refine lx_nil ?_
      refine lxk_e rfl ?_
      refine lx_callW gt_low (M := Of ak) (fun k _ => Nat.zero_le k) rfl rfl ent38 rfl rfl hGF (Q := fun w1 w2 v => ∃ a1 cap1, v = .slice a1 ((((((([] : By) ++ u.at_.by) ++ u.nx.by u.sy.bs.length) ++ u.br) ++ u.fi.by) ++ u.fy) ++ u.sy.by).length cap1 ∧ Ap8 w1 ak w2 a1 cap1 ((((((([] : By) ++ u.at_.by) ++ u.nx.by u.sy.bs.length) ++ u.br) ++ u.fi.by) ++ u.fy) ++ u.sy.by)) (fun w1 h1 g1 => (agg_calls u.sy hk.sy (by omega) _ ak ck (by simp [Hd.blen hk.at_, Co.blen hk.nx, hk.br, Hd.blen hk.fi, hk.fy] <;> omega) w1 g1 (hE.ap.s.grow h1) (cells_mm hbs (hE.ap.m.trans (grow_mm h1)) (fun _ k _ h => by obtain ⟨_, h, _⟩ := h; cases h)) (fun h0 k hk' h => by have h1' := cells_lt hbs h0 k hk'; rcases hE.ap.o k h with h2 | h2; (obtain ⟨_, h2, _⟩ := h2; cases h2); omega)).mono fun e w2 ⟨a1, c1, q1, q2⟩ => ⟨_, q1, q2.m, a1, c1, rfl, q2⟩) (fun w43a w43 v hg43 hm43 gg43 hq => ?_)
      obtain ⟨a43, c43, rfl, hq⟩ := hq
      have hE := hE.call hg43 hq
      have hGF := gt_low.plain hE.ap.g
      clear hq hg43 hm43 gg43
      refine lx_nil ?_
      refine ⟨fun _ X hX _ => by subst hX; exact fun w' h => hE.ob.grow (hp_below h), ?_⟩
      refine lxk_e rfl ?_
      refine lx_callW gt_low (M := Of a43) (fun k _ => Nat.zero_le k) rfl rfl ent37 rfl rfl hGF (Q := fun w1 w2 v => ∃ a1 cap1, v = .slice a1 (((((((([] : By) ++ u.at_.by) ++ u.nx.by u.sy.bs.length) ++ u.br) ++ u.fi.by) ++ u.fy) ++ u.sy.by) ++ le8 u.sl 8).length cap1 ∧ Ap8 w1 a43 w2 a1 cap1 (((((((([] : By) ++ u.at_.by) ++ u.nx.by u.sy.bs.length) ++ u.br) ++ u.fi.by) ++ u.fy) ++ u.sy.by) ++ le8 u.sl 8)) (fun w1 h1 g1 => (rui_calls u.sl _ a43 c43 (by simp [Hd.blen hk.at_, Co.blen hk.nx, hk.br, Hd.blen hk.fi, hk.fy, Ag.blen hk.sy, szB] <;> omega) w1 g1 (hE.ap.s.grow h1) (fun k _ => Nat.zero_le k)).mono fun e w2 ⟨a1, c1, q1, q2⟩ => ⟨_, q1, q2.m, a1, c1, rfl, q2⟩) (fun w46a w46 v hg46 hm46 gg46 hq => ?_)
      obtain ⟨a46, c46, rfl, hq⟩ := hq
      have hE := hE.call hg46 hq
      have hGF := gt_low.plain hE.ap.g
      clear hq hg46 hm46 gg46
      refine lx_nil ?_
      refine ⟨fun _ X hX _ => by subst hX; exact fun w' h => hE.ob.grow (hp_below h), ?_⟩
      refine lxk_s rfl rfl ?_
      refine lx_assign rfl rfl rfl ?_
      refine lx_nil ?_
      refine lxk_nil ?_
      refine x_ret ?_
      repeat (first | refine kseq_ret ?_ | refine kblk_ret ?_)
      exact kret_tmp rfl rfl (fun w' hw' => ⟨_, _, by rw [show u.by = (((((((([] : By) ++ u.at_.by) ++ u.nx.by u.sy.bs.length) ++ u.br) ++ u.fi.by) ++ u.fy) ++ u.sy.by) ++ le8 u.sl 8) from by simp [Up.by]], by rw [show u.by = (((((((([] : By) ++ u.at_.by) ++ u.nx.by u.sy.bs.length) ++ u.br) ++ u.fi.by) ++ u.fy) ++ u.sy.by) ++ le8 u.sl 8) from by simp [Up.by]]; exact hE.ap.grow (hp_below hw')⟩)
theorem boo_calls (b : Bo) (hk : b.Ok) (hn : b.nw.ks.length ≤ 1000) (w : World) (hw : Gt w) (hks : RwsAt 48 w b.nw.ka b.nw.ks) : Calls Try.prog 19 [.agg b.cs.toArray].toArray w (fun e w' => ∃ a1 cap1, e = .returned (.slice a1 (b.by).length cap1) ∧ Ap8 w none w' a1 cap1 (b.by)) := by
  have hGF : BOk Gt (pl w) := gt_low.plain hw
  refine calls_of_X (G := Gt) Try.func19 rfl rfl (Hp (pl w) []) (hp_refl (pl w) trivial rides_true) (good_hp hGF) ?_
  refine xs_plain (E := EE []) ?_
  refine lx_boxr 1 hGF rfl rfl rfl ?_
  intro b1
  refine lx_assign rfl rfl rfl ?_
  refine lx_nil ?_
  refine x_now0 gt_low (fun w3 hC g3 => ?_)
  have hE : En w none 42 b1 b.cs w3 none 0 [] := En.start (n := 1) (slv_nil w) hC rfl g3
  clear hC
  have hGF := gt_low.plain hE.ap.g
  refine xs_drawK (E := EE [36, 35]) (fun X => X = (fun w' => OwnB w' b1 b.cs 42)) (mkC [36, 35]) (rkB [9, 12]) [0, 1, 3, 4, 5, 6, 7, 8, 2, 9, 10] mixed rfl (by kernel_rfl) (by kernel_rfl) (by kernel_rfl) ?_
  refine lxk_s rfl rfl ?_
  refine lx_fak 0 rfl Try.underlying42 rfl Try.sizeOf26 (by decide) rfl rfl rfl ?_
  refine lx_nil ?_
  refine lxk_s rfl rfl ?_
  refine lx_loadr (cs := b.hd.cs) rfl Try.isAgg26 Try.sizeOf26 (Hd.len hk.hd) (fun w' h => own_rg (hE.ob.grow (hp_below h)) (Bo.at_hd)) rfl rfl ?_
  refine lx_nil ?_
  refine lxk_s rfl rfl ?_
  refine lx_fak 98 rfl Try.underlying42 rfl Try.sizeOf31 (by decide) rfl rfl rfl ?_
  refine lx_nil ?_
  refine lxk_q (X := fun w' => OwnB w' b1 b.cs 42) rfl (fun w' h => hE.ob.grow (hp_below h)) (fun _ => rfl) ?_
  refine lx_loadr (cs := b.nw.cs) rfl Try.isAgg31 Try.sizeOf31 (Co.len hk.nw) (fun w' h => own_rg (h) (Bo.at_nw hk)) rfl rfl ?_
  refine lx_nil ?_
  refine lxk_s rfl rfl ?_
  refine lx_fak 98 rfl Try.underlying42 rfl Try.sizeOf31 (by decide) rfl rfl rfl ?_
  refine lx_nil ?_
  refine lxk_s rfl rfl ?_
  refine lx_fak 98 rfl Try.underlying31 rfl Try.sizeOf27 (by decide) rfl rfl rfl ?_
  refine lx_nil ?_
  refine lxk_q (X := fun w' => OwnB w' b1 b.cs 42) rfl (fun w' h => hE.ob.grow (hp_below h)) (fun _ => rfl) ?_
  refine lx_load rfl Try.isAgg27 (fun w' h => ((h).cell 98).trans (Bo.at_keys hk)) rfl rfl ?_
  refine lx_nil ?_
  refine lxk_s rfl rfl ?_
  refine lx_len rfl (fun _ => len_slice Try.underlying27 _ _ _ _) rfl rfl ?_
  refine lx_nil ?_
  refine lxk_e rfl ?_
  refine lx_callW gt_low (M := Of none) (fun k _ => Nat.zero_le k) rfl rfl ent36 rfl rfl hGF (Q := fun w1 w2 v => ∃ a1 cap1, v = .slice a1 (([] : By) ++ b.hd.by).length cap1 ∧ Ap8 w1 none w2 a1 cap1 (([] : By) ++ b.hd.by)) (fun w1 h1 g1 => (hdr_calls b.hd hk.hd _ none 0 (by simp) w1 g1 (hE.ap.s.grow h1)).mono fun e w2 ⟨a1, c1, q1, q2⟩ => ⟨_, q1, q2.m, a1, c1, rfl, q2⟩) (fun w7a w7 v hg7 hm7 gg7 hq => ?_)
  obtain ⟨a7, c7, rfl, hq⟩ := hq
  have hE := hE.call hg7 hq
  have hGF := gt_low.plain hE.ap.g
  clear hq hg7 hm7 gg7
  refine lx_nil ?_
  refine ⟨fun _ X hX _ => by subst hX; exact fun w' h => hE.ob.grow (hp_below h), ?_⟩
  refine lxk_e rfl ?_
  refine lx_callW gt_low (M := Of a7) (fun k _ => Nat.zero_le k) rfl rfl ent35 rfl rfl hGF (Q := fun w1 w2 v => ∃ a1 cap1, v = .slice a1 ((([] : By) ++ b.hd.by) ++ b.nw.by b.nw.ks.length).length cap1 ∧ Ap8 w1 a7 w2 a1 cap1 ((([] : By) ++ b.hd.by) ++ b.nw.by b.nw.ks.length)) (fun w1 h1 g1 => (com_calls b.nw hk.nw b.nw.ks.length (by omega) _ a7 c7 (by simp [Hd.blen hk.hd] <;> omega) w1 g1 (hE.ap.s.grow h1) (hks.mm (hE.ap.m.trans (grow_mm h1)) (fun _ k _ h => by obtain ⟨_, h, _⟩ := h; cases h)) (fun h0 k hk' h => by have h1' := hks.lt (by decide) hk.nw.ks h0 k hk'; rcases hE.ap.o k h with h2 | h2; (obtain ⟨_, h2, _⟩ := h2; cases h2); omega)).mono fun e w2 ⟨a1, c1, q1, q2⟩ => ⟨_, q1, q2.m, a1, c1, rfl, q2⟩) (fun w14a w14 v hg14 hm14 gg14 hq => ?_)
  obtain ⟨a14, c14, rfl, hq⟩ := hq
  have hE := hE.call hg14 hq
  have hGF := gt_low.plain hE.ap.g
  clear hq hg14 hm14 gg14
  refine lx_nil ?_
  refine ⟨fun _ X hX _ => by subst hX; exact fun w' h => hE.ob.grow (hp_below h), ?_⟩
  refine lxk_s rfl rfl ?_
  refine lx_assign rfl rfl rfl ?_
  refine lx_nil ?_
  refine lxk_nil ?_
  refine x_seq ?_
  refine xs_plain (E := EE []) ?_
  refine lx_assign rfl rfl rfl ?_
  refine lx_nil ?_
  refine x_block ?_
  have h0 : ((([] : By) ++ b.hd.by) ++ b.nw.by b.nw.ks.length) ++ b.br.take (32 * 0) = ((([] : By) ++ b.hd.by) ++ b.nw.by b.nw.ks.length) := by rw [Nat.mul_zero, List.take_zero, List.append_nil]
  rw [← h0] at hE ⊢
  clear h0
  refine x_forW gt_low (ι := { x : Nat × World × Option Addr × Nat // x.1 ≤ 5 ∧ En w none 42 b1 b.cs x.2.1 x.2.2.1 x.2.2.2 (((([] : By) ++ b.hd.by) ++ b.nw.by b.nw.ks.length) ++ b.br.take (32 * x.1)) }) (fun x => [(3, .slice x.1.2.2.1 (((([] : By) ++ b.hd.by) ++ b.nw.by b.nw.ks.length) ++ b.br.take (32 * x.1.1)).length x.1.2.2.2), (1, .pointer (some ⟨b1, 0, none⟩)), (4, I (x.1.1 : Int))]) (fun x => x.1.2.1) (fun x => 5 - x.1.1) ⟨(0, w14, a14, c14), Nat.zero_le _, hE⟩ (fun x => x.2.2.ap.g) rfl ⟨rfl, rfl, rfl, trivial⟩ ?_
  clear hE hGF
  rintro ⟨⟨i, wk, ak, ck⟩, hi, hE⟩
  dsimp only at hi hE ⊢
  have hGF := gt_low.plain hE.ap.g
  refine x_seq ?_
  refine xs_plain (E := EE []) ?_
  refine lx_move rfl rfl rfl ?_
  rcases Nat.lt_or_ge i 5 with hlt | hge
  · skip
    refine lx_binB true rfl rfl (fun _ => rfl) (fun _ => bin_lss_i _ _ _) (by simp; omega) rfl rfl ?_
    refine lx_nil ?_
    refine x_true rfl ?_
    refine x_skip ?_
    refine x_seq ?_
    refine x_block ?_
    refine x_plain (E := EE []) ?_
    refine lx_move rfl rfl rfl ?_
    refine lx_move rfl rfl rfl ?_
    refine lx_fak 147 rfl Try.underlying42 rfl Try.sizeOf32 (by decide) rfl rfl rfl ?_
    refine lx_iak i (147 + 32 * i) rfl rfl Try.underlying32 Try.sizeOf24 rfl hlt (by omega) rfl rfl ?_
    refine lx_slarr0 rfl Try.underlying24 Try.sizeOf5 (by decide) rfl rfl ?_
    refine lx_app8 (xs := (((([] : By) ++ b.hd.by) ++ b.nw.by b.nw.ks.length) ++ b.br.take (32 * i))) (ys := ((b.br.drop (32 * i)).take 32)) gt_low (fun w' h => hGF.g _ _ _ h) rfl (by rw [piece_len (n := 5) hk.br hlt]; rfl) Try.underlying46 Try.underlying46 ti5 (fun w' h => hE.ap.s.grow (hp_below h)) (fun k _ => Nat.zero_le k) (fun w' h => own_by (hE.ob.grow (hp_below h)) (piece_at (Bo.at_br hk) (32 * i) 32)) (fun w' h _ ad e hof => by cases e; exact hE.nb _ hof rfl) (by simp [Hd.blen hk.hd, Co.blen hk.nw, hk.br, piece_len (n := 5) hk.br hlt] <;> omega) rfl rfl (fun w24a w24 a24 c24 hC g2 hm hs ho => ?_)
    have hE := hE.next (hp_below hC) g2 hm hs ho
    have hGF := gt_low.plain hE.ap.g
    clear hC g2 hm hs ho
    rw [show ((([] : By) ++ b.hd.by) ++ b.nw.by b.nw.ks.length) ++ b.br.take (32 * i) ++ ((b.br.drop (32 * i)).take 32) = ((([] : By) ++ b.hd.by) ++ b.nw.by b.nw.ks.length) ++ b.br.take (32 * (i + 1)) from (List.append_assoc _ _ _).trans (congrArg _ (take_more32 _ _))] at hE ⊢
    refine lx_assign rfl rfl rfl ?_
    refine lx_nil ?_
    refine x_plain (E := EE []) ?_
    refine lx_move rfl rfl rfl ?_
    refine lx_bin (v := I (((i + 1 : Nat) : Int))) rfl rfl (fun _ => rfl) (fun _ => (bin_add_i _ _ _ (by unfold inI; omega)).trans (by rfl)) rfl rfl ?_
    refine lx_assign rfl rfl rfl ?_
    refine lx_nil ?_
    repeat (refine kblk_n ?_)
    refine kseq_n ?_
    exact ⟨rfl, ⟨(i + 1, w24, a24, c24), hlt, hE⟩, by show 5 - (i + 1) < 5 - i; omega, rfl, ⟨rfl, rfl, rfl, trivial⟩⟩
  · skip
    obtain rfl : i = 5 := by omega
    rw [List.take_of_length_le (show b.br.length ≤ 32 * 5 by rw [hk.br]; decide)] at hE ⊢
    refine lx_binB false rfl rfl (fun _ => rfl) (fun _ => bin_lss_i _ _ _) (by rw [decide_eq_false_iff_not]; omega) rfl rfl ?_
    refine lx_nil ?_
    refine x_false rfl ?_
    refine x_exit ?_
    refine xs_plain (E := EE []) ?_
    refine lx_move rfl rfl rfl ?_
    refine lx_assign rfl rfl rfl ?_
    refine lx_nil ?_
    refine x_ret ?_
    repeat (first | refine kseq_ret ?_ | refine kblk_ret ?_)
    exact kret_tmp rfl rfl (fun w' hw' => ⟨_, _, by rw [show b.by = (((([] : By) ++ b.hd.by) ++ b.nw.by b.nw.ks.length) ++ b.br) from by simp [Bo.by]], by rw [show b.by = (((([] : By) ++ b.hd.by) ++ b.nw.by b.nw.ks.length) ++ b.br) from by simp [Bo.by]]; exact hE.ap.grow (hp_below hw')⟩)
end Go.Proofs.Ytlaanjcnfindnaa
