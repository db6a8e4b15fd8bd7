/-
  The program's functions of types: bounded, Sizes, the encoders.
-/
import Derived.Test.YtlaanjcnfindnaaUJ
import Derived.Test.YtlaanjcnfindnaaVN
namespace Go.Proofs.Ytlaanjcnfindnaa
open Go.RowKit
set_option maxRecDepth 100000
set_option maxHeartbeats 1000000

theorem ent43 : Enters Try.prog 43 := fun _ _ => by kernel_rfl
theorem ent49 : Enters Try.prog 49 := fun _ _ => by kernel_rfl
theorem bou_calls (n : Int) (w : World) (hw : Gt w) : Calls Try.prog 43 [I n].toArray w (fun e w' => e = .returned (I (szN n : Int)) ∧ Grow w w') := by
  have hGF : BOk Gt (pl w) := gt_low.plain hw
  refine calls_of_X (G := Gt) Try.func43 rfl rfl (Hp (pl w) []) (hp_refl (pl w) trivial rides_true) (good_hp hGF) ?_
  refine xs_plain (E := EE []) ?_
  refine lx_assign rfl rfl rfl ?_
  refine lx_nil ?_
  refine xs_plain (E := EE []) ?_
  refine lx_move rfl rfl rfl ?_
  refine lx_max (z := ((max n.toNat 1 : Nat) : Int)) rfl rfl (by split <;> omega) rfl rfl ?_
  refine lx_min (z := (szN n : Int)) rfl rfl (by unfold szN; split <;> omega) rfl rfl ?_
  refine lx_assign rfl rfl rfl ?_
  refine lx_nil ?_
  refine x_ret ?_
  repeat (first | refine kseq_ret ?_ | refine kblk_ret ?_)
  exact kret_tmp rfl rfl (fun w' hw' => ⟨rfl, hp_below hw'⟩)
theorem lsx_n {sp : List Sp} {L : List Fd} (h : L.map Fd.s = sp) : L.length = sp.length := by rw [← h, List.length_map]
theorem tsz_calls (n : Int) (w : World) (hw : Gt w) : Calls Try.prog 30 [I n].toArray w (fun e w' => e = .returned (.tuple #[I (sz1 (szN n) : Nat), I (sz2 (szN n) : Nat), I (sz3 (szN n) : Nat), I (sz4 (szN n) : Nat)]) ∧ Grow w w') := by
  have hGF : BOk Gt (pl w) := gt_low.plain hw
  refine calls_of_X (G := Gt) Try.func30 rfl rfl (Hp (pl w) []) (hp_refl (pl w) trivial rides_true) (good_hp hGF) ?_
  refine xs_plain (E := EE [34, 39, 40, 41]) ?_
  refine lx_assign rfl rfl rfl ?_
  refine lx_assign rfl rfl rfl ?_
  refine lx_assign rfl rfl rfl ?_
  refine lx_assign rfl rfl rfl ?_
  refine lx_nil ?_
  refine xs_plain (E := EE [34, 39, 40, 41]) ?_
  refine lx_move rfl rfl rfl ?_
  refine lx_callC rfl rfl ent43 (fun w1 _ hG => bou_calls n w1 hG) rfl rfl ?_
  refine lx_assign rfl rfl rfl ?_
  refine lx_nil ?_
  refine xs_plain (E := EE [34, 39, 40, 41]) ?_
  refine lx_allocr 6 hGF zvBo rfl rfl ?_
  intro b6
  refine lx_nil ?_
  refine xs_plain (E := EE [34, 39, 40, 41]) ?_
  refine lx_allocr 7 hGF zvU rfl rfl ?_
  intro b7
  refine lx_nil ?_
  refine xs_plain (E := EE [34, 39, 40, 41]) ?_
  refine lx_move rfl rfl rfl ?_
  refine lx_callWL gt_low (M := fun _ => False) (fun k h => h.elim) rfl rfl ent41 rfl rfl hGF (Q := fun w1 w2 v => LsX w1 w2 b6 (boS (szN n)) v) (fun w1 hC g1 => (bo_calls b6 (szN n) (by have := (szN_le n).2; omega) w1 g1).mono fun e w2 ⟨v, q1, q2, q3⟩ => ⟨v, q1, grow_mm q2, q3⟩) (fun w11a w11 v11 hC hm11 gg11 hq => ?_)
  have hr11 := (hp_below hC).trans (hm11.grow (fun _ _ h => h))
  have hGF := gt_low.plain gg11
  obtain ⟨L11, l11, c11, rfl, hl11, hs11, hc11, _, _⟩ := hq
  clear hC
  have hz11 := off_bo (szN n)
  have hn11 : L11.length = (boS (szN n)).length := by rw [← hs11, List.length_map]
  have hN11 : (boS (szN n)).length = 12 := rfl
  rw [← hn11, ← hs11] at hz11
  have hb11 := (szN_le n).2
  refine lx_callC rfl rfl ent53 (fun w1 hC hG => fsz_calls L11 l11 c11 (by omega) (by rw [List.length_map, hz11]; unfold sz1; omega) w1 hG (rg_g hc11 (hp_below hC))) rfl rfl ?_
  rw [hz11]
  refine lx_move rfl rfl rfl ?_
  refine lx_callWL gt_low (M := fun _ => False) (fun k h => h.elim) rfl rfl ent34 rfl rfl hGF (Q := fun w1 w2 v => LsX w1 w2 b7 (upS (szN n)) v) (fun w1 hC g1 => (up_calls b7 (szN n) (by have := (szN_le n).2; omega) w1 g1).mono fun e w2 ⟨v, q1, q2, q3⟩ => ⟨v, q1, grow_mm q2, q3⟩) (fun w14a w14 v14 hC hm14 gg14 hq => ?_)
  have hr14 := (hp_below hC).trans (hm14.grow (fun _ _ h => h))
  have hGF := gt_low.plain gg14
  obtain ⟨L14, l14, c14, rfl, hl14, hs14, hc14, _, _⟩ := hq
  clear hC
  have hz14 := off_up (szN n)
  have hn14 : L14.length = (upS (szN n)).length := by rw [← hs14, List.length_map]
  have hN14 : (upS (szN n)).length = 26 := rfl
  rw [← hn14, ← hs14] at hz14
  have hb14 := (szN_le n).2
  refine lx_callC rfl rfl ent53 (fun w1 hC hG => fsz_calls L14 l14 c14 (by omega) (by rw [List.length_map, hz14]; unfold sz2 szB; omega) w1 hG (rg_g hc14 (hp_below hC))) rfl rfl ?_
  rw [hz14]
  refine lx_move rfl rfl rfl ?_
  refine lx_callWL gt_low (M := fun _ => False) (fun k h => h.elim) rfl rfl ent39 rfl rfl hGF (Q := fun w1 w2 v => LsX w1 w2 b7 (fiS (szN n)) v) (fun w1 hC g1 => (fi_calls b7 (szN n) (by have := (szN_le n).2; omega) w1 g1).mono fun e w2 ⟨v, q1, q2, q3⟩ => ⟨v, q1, grow_mm q2, q3⟩) (fun w17a w17 v17 hC hm17 gg17 hq => ?_)
  have hr17 := (hp_below hC).trans (hm17.grow (fun _ _ h => h))
  have hGF := gt_low.plain gg17
  obtain ⟨L17, l17, c17, rfl, hl17, hs17, hc17, _, _⟩ := hq
  clear hC
  have hz17 := off_fi (szN n)
  have hn17 : L17.length = (fiS (szN n)).length := by rw [← hs17, List.length_map]
  have hN17 : (fiS (szN n)).length = 19 := rfl
  rw [← hn17, ← hs17] at hz17
  have hb17 := (szN_le n).2
  refine lx_callC rfl rfl ent53 (fun w1 hC hG => fsz_calls L17 l17 c17 (by omega) (by rw [List.length_map, hz17]; unfold sz3 szB; omega) w1 hG (rg_g hc17 (hp_below hC))) rfl rfl ?_
  rw [hz17]
  refine lx_move rfl rfl rfl ?_
  refine lx_callWL gt_low (M := fun _ => False) (fun k h => h.elim) rfl rfl ent40 rfl rfl hGF (Q := fun w1 w2 v => LsX w1 w2 b7 (opS (szN n)) v) (fun w1 hC g1 => (op_calls b7 (szN n) (by have := (szN_le n).2; omega) w1 g1).mono fun e w2 ⟨v, q1, q2, q3⟩ => ⟨v, q1, grow_mm q2, q3⟩) (fun w20a w20 v20 hC hm20 gg20 hq => ?_)
  have hr20 := (hp_below hC).trans (hm20.grow (fun _ _ h => h))
  have hGF := gt_low.plain gg20
  obtain ⟨L20, l20, c20, rfl, hl20, hs20, hc20, _, _⟩ := hq
  clear hC
  have hz20 := off_op (szN n)
  have hn20 : L20.length = (opS (szN n)).length := by rw [← hs20, List.length_map]
  have hN20 : (opS (szN n)).length = 8 := rfl
  rw [← hn20, ← hs20] at hz20
  have hb20 := (szN_le n).2
  refine lx_callC rfl rfl ent53 (fun w1 hC hG => fsz_calls L20 l20 c20 (by omega) (by rw [List.length_map, hz20]; unfold sz4 szB; omega) w1 hG (rg_g hc20 (hp_below hC))) rfl rfl ?_
  rw [hz20]
  refine lx_assign rfl rfl rfl ?_
  refine lx_assign rfl rfl rfl ?_
  refine lx_assign rfl rfl rfl ?_
  refine lx_assign rfl rfl rfl ?_
  refine lx_nil ?_
  refine x_ret ?_
  repeat (first | refine kseq_ret ?_ | refine kblk_ret ?_)
  exact kret_t4 rfl rfl rfl rfl rfl (fun w' hw' => ⟨rfl, (((hr11.trans hr14).trans hr17).trans hr20).trans (hp_below hw')⟩)
def upB (u : Up) : List By := hdB u.at_ ++ (coB u.nx u.sy.bs.length ++ (chk u.br 5 ++ (hdB u.fi ++ (chk u.fy 6 ++ (agB u.sy ++ [le8 u.sl 8])))))
def fiB (u : Up) : List By := hdB u.at_ ++ (hdB u.fi ++ (chk u.fy 6 ++ (agB u.sy ++ [le8 u.sl 8])))
def opB (u : Up) : List By := hdB u.at_ ++ (agB u.sy ++ [le8 u.sl 8])
def boB (b : Bo) : List By := hdB b.hd ++ (coB b.nw b.nw.ks.length ++ chk b.br 5)
theorem co_fl (c : Co) (n : Nat) : (coB c n).flatten = c.by n := by simp [coB, Co.by]
theorem ag_fl (a : Ag) : (agB a).flatten = a.by := by simp [agB, Ag.by]
theorem chk5 {l : By} (h : l.length = 160) : (chk l 5).flatten = l := by rw [chk_fl, List.take_of_length_le (by omega)]
theorem chk6 {l : By} (h : l.length = 192) : (chk l 6).flatten = l := by rw [chk_fl, List.take_of_length_le (by omega)]
theorem upB_fl {u : Up} (k : u.Ok) : (upB u).flatten = u.by := by
  simp only [upB, List.flatten_append, hdB_fl, co_fl, ag_fl, chk5 k.br, chk6 k.fy, Up.by, List.flatten_cons, List.flatten_nil, List.append_nil]
theorem fiB_fl {u : Up} (k : u.Ok) : (fiB u).flatten = u.fin := by
  simp only [fiB, List.flatten_append, hdB_fl, ag_fl, chk6 k.fy, Up.fin, List.flatten_cons, List.flatten_nil, List.append_nil]
theorem opB_fl (u : Up) : (opB u).flatten = u.opt := by
  simp only [opB, List.flatten_append, hdB_fl, ag_fl, Up.opt, List.flatten_cons, List.flatten_nil, List.append_nil]
theorem boB_fl {b : Bo} (k : b.Ok) : (boB b).flatten = b.by := by
  simp only [boB, List.flatten_append, hdB_fl, co_fl, chk5 k.br, Bo.by]
theorem pieces {w : World} {b : Nat} {u : Up} (k : u.Ok) (hr : w.rangeAt b 0 u.cs) : w.rangeAt b 0 u.at_.cs ∧ w.rangeAt b 98 u.nx.cs ∧ w.rangeAt b 147 (u.br.map U8) ∧ w.rangeAt b 307 u.fi.cs ∧ w.rangeAt b 405 (u.fy.map U8) ∧ w.rangeAt b 597 u.sy.cs ∧ w.cell? ⟨b, 694, none⟩ = some (U64 u.sl) := by
  have z : ∀ {p : Nat} {ds : List Value}, (∀ j v, ds[j]? = some v → u.cs[p + j]? = some v) → w.rangeAt b p ds := fun {p ds} h => by
    have := rg_part hr h
    rw [Nat.zero_add] at this
    exact this
  exact ⟨z Up.at_at, z (Up.at_nx k), z (Up.at_br k), z (Up.at_fi k), z (Up.at_fy k), z (Up.at_sy k), hr 694 _ (Up.at_sl k)⟩
theorem D_up {w : World} {b : Nat} {u : Up} (k : u.Ok) (hr : w.rangeAt b 0 u.cs) (hks : RwsAt 48 w u.nx.ka u.nx.ks) (hbs : CellsAt w u.sy.ba (u.sy.bs.map .bool)) (hn : u.sy.bs.length ≤ 1000) : DatL b (upS u.sy.bs.length) (upB u) w := by
  obtain ⟨h1, h2, h3, h4, h5, h6, h7⟩ := pieces k hr
  exact (((((((D_nu h7).app (D_ag k.sy hn h6 hbs)).app (D_br h5 6 (by rw [k.fy]; decide))).app (D_hd k.fi h4)).app (D_br h3 5 (by rw [k.br]; decide))).app (D_co k.nx hn h2 hks)).app (D_hd k.at_ h1))
theorem D_fi {w : World} {b : Nat} {u : Up} (k : u.Ok) (hr : w.rangeAt b 0 u.cs) (hbs : CellsAt w u.sy.ba (u.sy.bs.map .bool)) (hn : u.sy.bs.length ≤ 1000) : DatL b (fiS u.sy.bs.length) (fiB u) w := by
  obtain ⟨h1, _, _, h4, h5, h6, h7⟩ := pieces k hr
  exact (((((D_nu h7).app (D_ag k.sy hn h6 hbs)).app (D_br h5 6 (by rw [k.fy]; decide))).app (D_hd k.fi h4)).app (D_hd k.at_ h1))
theorem D_op {w : World} {b : Nat} {u : Up} (k : u.Ok) (hr : w.rangeAt b 0 u.cs) (hbs : CellsAt w u.sy.ba (u.sy.bs.map .bool)) (hn : u.sy.bs.length ≤ 1000) : DatL b (opS u.sy.bs.length) (opB u) w := by
  obtain ⟨h1, _, _, _, _, h6, h7⟩ := pieces k hr
  exact (((D_nu h7).app (D_ag k.sy hn h6 hbs)).app (D_hd k.at_ h1))
theorem D_bo {w : World} {b : Nat} {x : Bo} (k : x.Ok) (hr : w.rangeAt b 0 x.cs) (hks : RwsAt 48 w x.nw.ka x.nw.ks) (hn : x.nw.ks.length ≤ 1000) : DatL b (boS x.nw.ks.length) (boB x) w := by
  have z : ∀ {p : Nat} {ds : List Value}, (∀ j v, ds[j]? = some v → x.cs[p + j]? = some v) → w.rangeAt b p ds := fun {p ds} h => by
    have := rg_part hr h
    rw [Nat.zero_add] at this
    exact this
  exact ((D_br (z (Bo.at_br k)) 5 (by rw [k.br]; decide)).app (D_co k.nw hn (z (Bo.at_nw k)) hks)).app (D_hd k.hd (z Bo.at_hd))
theorem up_blen {u : Up} (k : u.Ok) (hn : u.sy.bs.length ≤ 1000) : u.by.length ≤ 900000 := by
  simp only [Up.by, List.length_append, Hd.blen k.at_, Co.blen k.nx, k.br, Hd.blen k.fi, k.fy, Ag.blen k.sy, le8_len]
  unfold szB; omega
theorem fi_blen {u : Up} (k : u.Ok) (hn : u.sy.bs.length ≤ 1000) : u.fin.length ≤ 900000 := by
  simp only [Up.fin, List.length_append, Hd.blen k.at_, Hd.blen k.fi, k.fy, Ag.blen k.sy, le8_len]
  unfold szB; omega
theorem op_blen {u : Up} (k : u.Ok) (hn : u.sy.bs.length ≤ 1000) : u.opt.length ≤ 900000 := by
  simp only [Up.opt, List.length_append, Hd.blen k.at_, Ag.blen k.sy, le8_len]
  unfold szB; omega
theorem bo_blen {b : Bo} (k : b.Ok) (hn : b.nw.ks.length ≤ 1000) : b.by.length ≤ 900000 := by
  simp only [Bo.by, List.length_append, Hd.blen k.hd, Co.blen k.nw, k.br]
  omega
theorem up_enc (u : Up) (hk : u.Ok) (hn : u.sy.bs.length ≤ 1000) (w : World) (hw : Gt w) (hks : RwsAt 48 w u.nx.ka u.nx.ks) (hbs : CellsAt w u.sy.ba (u.sy.bs.map .bool)) : Calls Try.prog 12 [.agg u.cs.toArray].toArray w (fun e w' => ∃ v, e = .returned v ∧ Grow w w' ∧ Fr8 w w' v u.by) := by
  have hGF : BOk Gt (pl w) := gt_low.plain hw
  refine calls_of_X (G := Gt) Try.func12 rfl rfl (Hp (pl w) []) (hp_refl (pl w) trivial rides_true) (good_hp hGF) ?_
  refine xs_plain (E := EE [34, 33]) ?_
  refine lx_boxr 1 hGF rfl rfl rfl ?_
  intro b1
  refine lx_assign rfl rfl rfl ?_
  refine lx_nil ?_
  refine xs_plain (E := EE [34, 33]) ?_
  refine lx_fak 597 rfl Try.underlying40 rfl Try.sizeOf38 (by decide) rfl rfl rfl ?_
  refine lx_fak 597 rfl Try.underlying38 rfl Try.sizeOf34 (by decide) rfl rfl rfl ?_
  refine lx_loadl 1 rfl rfl (Up.at_bits hk) Try.isAgg34 rfl rfl ?_
  refine lx_len rfl (fun _ => len_slice Try.underlying34 _ _ _ _) rfl rfl ?_
  refine lx_callWL gt_low (M := fun _ => False) (fun k h => h.elim) rfl rfl ent34 rfl rfl hGF (Q := fun w1 w2 v => LsX w1 w2 b1 (upS u.sy.bs.length) v) (fun w1 hC g1 => (up_calls b1 _ (by omega) w1 g1).mono fun e w2 ⟨v, q1, q2, q3⟩ => ⟨v, q1, grow_mm q2, q3⟩) (fun w3a w3 v hC hm3 g3 hq => ?_)
  have hm3 := hm3.grow (fun _ _ h => h)
  have hG := (hp_below hC).trans hm3
  have hGF := gt_low.plain g3
  obtain ⟨L, bl, c, rfl, hl, hs, hc, _, hx⟩ := hq
  have hr := ((hC.own 1 _ _ _ rfl).1.grow hm3).range
  clear hC
  have hLn : L.length = 26 := lsx_n hs
  refine lx_callW gt_low (M := fun _ => False) (fun k h => h.elim) rfl rfl ent33 rfl rfl hGF (Q := fun w1 w2 v => Fr8 w1 w2 v u.by) (fun w1 h1 g1 => (enc_calls b1 L bl c (by omega) (upB u) (by have := DatL.len (D_up hk (rg_g hr h1) (hks.grow (hG.trans h1)) (hbs.grow (hG.trans h1)) (by omega)); rw [← hs, List.length_map] at this; exact this) (by rw [upB_fl hk]; exact up_blen hk (by omega)) w1 g1 (rg_g hc h1) (fun f hf => (hx f hf).1.grow h1) (fun i f y h2 h3 => DatL.get (D_up hk (rg_g hr h1) (hks.grow (hG.trans h1)) (hbs.grow (hG.trans h1)) (by omega)) i f.s y (by rw [← hs]; exact map_s h2) h3)).mono fun e w2 ⟨v, q1, q2, q3⟩ => ⟨v, q1, grow_mm q2, by rw [upB_fl hk] at q3; exact q3⟩) (fun w4 w5 v hg5 hm5 g5 hq => ?_)
  obtain ⟨a5, c5, rfl, hs5, hn5⟩ := hq
  have hG5 := (hG.trans hg5).trans (hm5.grow (fun _ _ h => h))
  refine lx_assign rfl rfl rfl ?_
  refine lx_nil ?_
  refine x_ret ?_
  repeat (first | refine kseq_ret ?_ | refine kblk_ret ?_)
  exact kret_tmp rfl rfl (fun w' hw' => ⟨_, rfl, hG5.trans (hp_below hw'), a5, c5, rfl, hs5.grow (hp_below hw'), fun ad e => Nat.le_trans (hG.trans hg5).size (hn5 ad e)⟩)
theorem fi_enc (u : Up) (hk : u.Ok) (hn : u.sy.bs.length ≤ 1000) (w : World) (hw : Gt w) (hbs : CellsAt w u.sy.ba (u.sy.bs.map .bool)) : Calls Try.prog 14 [.agg u.cs.toArray].toArray w (fun e w' => ∃ v, e = .returned v ∧ Grow w w' ∧ Fr8 w w' v u.fin) := by
  have hGF : BOk Gt (pl w) := gt_low.plain hw
  refine calls_of_X (G := Gt) Try.func14 rfl rfl (Hp (pl w) []) (hp_refl (pl w) trivial rides_true) (good_hp hGF) ?_
  refine xs_plain (E := EE [39, 33]) ?_
  refine lx_boxr 1 hGF rfl rfl rfl ?_
  intro b1
  refine lx_assign rfl rfl rfl ?_
  refine lx_nil ?_
  refine xs_plain (E := EE [39, 33]) ?_
  refine lx_fak 597 rfl Try.underlying40 rfl Try.sizeOf38 (by decide) rfl rfl rfl ?_
  refine lx_fak 597 rfl Try.underlying38 rfl Try.sizeOf34 (by decide) rfl rfl rfl ?_
  refine lx_loadl 1 rfl rfl (Up.at_bits hk) Try.isAgg34 rfl rfl ?_
  refine lx_len rfl (fun _ => len_slice Try.underlying34 _ _ _ _) rfl rfl ?_
  refine lx_callWL gt_low (M := fun _ => False) (fun k h => h.elim) rfl rfl ent39 rfl rfl hGF (Q := fun w1 w2 v => LsX w1 w2 b1 (fiS u.sy.bs.length) v) (fun w1 hC g1 => (fi_calls b1 _ (by omega) w1 g1).mono fun e w2 ⟨v, q1, q2, q3⟩ => ⟨v, q1, grow_mm q2, q3⟩) (fun w3a w3 v hC hm3 g3 hq => ?_)
  have hm3 := hm3.grow (fun _ _ h => h)
  have hG := (hp_below hC).trans hm3
  have hGF := gt_low.plain g3
  obtain ⟨L, bl, c, rfl, hl, hs, hc, _, hx⟩ := hq
  have hr := ((hC.own 1 _ _ _ rfl).1.grow hm3).range
  clear hC
  have hLn : L.length = 19 := lsx_n hs
  refine lx_callW gt_low (M := fun _ => False) (fun k h => h.elim) rfl rfl ent33 rfl rfl hGF (Q := fun w1 w2 v => Fr8 w1 w2 v u.fin) (fun w1 h1 g1 => (enc_calls b1 L bl c (by omega) (fiB u) (by have := DatL.len (D_fi hk (rg_g hr h1) (hbs.grow (hG.trans h1)) (by omega)); rw [← hs, List.length_map] at this; exact this) (by rw [fiB_fl hk]; exact fi_blen hk (by omega)) w1 g1 (rg_g hc h1) (fun f hf => (hx f hf).1.grow h1) (fun i f y h2 h3 => DatL.get (D_fi hk (rg_g hr h1) (hbs.grow (hG.trans h1)) (by omega)) i f.s y (by rw [← hs]; exact map_s h2) h3)).mono fun e w2 ⟨v, q1, q2, q3⟩ => ⟨v, q1, grow_mm q2, by rw [fiB_fl hk] at q3; exact q3⟩) (fun w4 w5 v hg5 hm5 g5 hq => ?_)
  obtain ⟨a5, c5, rfl, hs5, hn5⟩ := hq
  have hG5 := (hG.trans hg5).trans (hm5.grow (fun _ _ h => h))
  refine lx_assign rfl rfl rfl ?_
  refine lx_nil ?_
  refine x_ret ?_
  repeat (first | refine kseq_ret ?_ | refine kblk_ret ?_)
  exact kret_tmp rfl rfl (fun w' hw' => ⟨_, rfl, hG5.trans (hp_below hw'), a5, c5, rfl, hs5.grow (hp_below hw'), fun ad e => Nat.le_trans (hG.trans hg5).size (hn5 ad e)⟩)
theorem op_enc (u : Up) (hk : u.Ok) (hn : u.sy.bs.length ≤ 1000) (w : World) (hw : Gt w) (hbs : CellsAt w u.sy.ba (u.sy.bs.map .bool)) : Calls Try.prog 16 [.agg u.cs.toArray].toArray w (fun e w' => ∃ v, e = .returned v ∧ Grow w w' ∧ Fr8 w w' v u.opt) := by
  have hGF : BOk Gt (pl w) := gt_low.plain hw
  refine calls_of_X (G := Gt) Try.func16 rfl rfl (Hp (pl w) []) (hp_refl (pl w) trivial rides_true) (good_hp hGF) ?_
  refine xs_plain (E := EE [40, 33]) ?_
  refine lx_boxr 1 hGF rfl rfl rfl ?_
  intro b1
  refine lx_assign rfl rfl rfl ?_
  refine lx_nil ?_
  refine xs_plain (E := EE [40, 33]) ?_
  refine lx_fak 597 rfl Try.underlying40 rfl Try.sizeOf38 (by decide) rfl rfl rfl ?_
  refine lx_fak 597 rfl Try.underlying38 rfl Try.sizeOf34 (by decide) rfl rfl rfl ?_
  refine lx_loadl 1 rfl rfl (Up.at_bits hk) Try.isAgg34 rfl rfl ?_
  refine lx_len rfl (fun _ => len_slice Try.underlying34 _ _ _ _) rfl rfl ?_
  refine lx_callWL gt_low (M := fun _ => False) (fun k h => h.elim) rfl rfl ent40 rfl rfl hGF (Q := fun w1 w2 v => LsX w1 w2 b1 (opS u.sy.bs.length) v) (fun w1 hC g1 => (op_calls b1 _ (by omega) w1 g1).mono fun e w2 ⟨v, q1, q2, q3⟩ => ⟨v, q1, grow_mm q2, q3⟩) (fun w3a w3 v hC hm3 g3 hq => ?_)
  have hm3 := hm3.grow (fun _ _ h => h)
  have hG := (hp_below hC).trans hm3
  have hGF := gt_low.plain g3
  obtain ⟨L, bl, c, rfl, hl, hs, hc, _, hx⟩ := hq
  have hr := ((hC.own 1 _ _ _ rfl).1.grow hm3).range
  clear hC
  have hLn : L.length = 8 := lsx_n hs
  refine lx_callW gt_low (M := fun _ => False) (fun k h => h.elim) rfl rfl ent33 rfl rfl hGF (Q := fun w1 w2 v => Fr8 w1 w2 v u.opt) (fun w1 h1 g1 => (enc_calls b1 L bl c (by omega) (opB u) (by have := DatL.len (D_op hk (rg_g hr h1) (hbs.grow (hG.trans h1)) (by omega)); rw [← hs, List.length_map] at this; exact this) (by rw [opB_fl u]; exact op_blen hk (by omega)) w1 g1 (rg_g hc h1) (fun f hf => (hx f hf).1.grow h1) (fun i f y h2 h3 => DatL.get (D_op hk (rg_g hr h1) (hbs.grow (hG.trans h1)) (by omega)) i f.s y (by rw [← hs]; exact map_s h2) h3)).mono fun e w2 ⟨v, q1, q2, q3⟩ => ⟨v, q1, grow_mm q2, by rw [opB_fl u] at q3; exact q3⟩) (fun w4 w5 v hg5 hm5 g5 hq => ?_)
  obtain ⟨a5, c5, rfl, hs5, hn5⟩ := hq
  have hG5 := (hG.trans hg5).trans (hm5.grow (fun _ _ h => h))
  refine lx_assign rfl rfl rfl ?_
  refine lx_nil ?_
  refine x_ret ?_
  repeat (first | refine kseq_ret ?_ | refine kblk_ret ?_)
  exact kret_tmp rfl rfl (fun w' hw' => ⟨_, rfl, hG5.trans (hp_below hw'), a5, c5, rfl, hs5.grow (hp_below hw'), fun ad e => Nat.le_trans (hG.trans hg5).size (hn5 ad e)⟩)
theorem bo_enc (b : Bo) (hk : b.Ok) (hn : b.nw.ks.length ≤ 1000) (w : World) (hw : Gt w) (hks : RwsAt 48 w b.nw.ka b.nw.ks) : Calls Try.prog 18 [.agg b.cs.toArray].toArray w (fun e w' => ∃ v, e = .returned v ∧ Grow w w' ∧ Fr8 w w' v b.by) := by
  have hGF : BOk Gt (pl w) := gt_low.plain hw
  refine calls_of_X (G := Gt) Try.func18 rfl rfl (Hp (pl w) []) (hp_refl (pl w) trivial rides_true) (good_hp hGF) ?_
  refine xs_plain (E := EE [41, 33]) ?_
  refine lx_boxr 1 hGF rfl rfl rfl ?_
  intro b1
  refine lx_assign rfl rfl rfl ?_
  refine lx_nil ?_
  refine xs_plain (E := EE [41, 33]) ?_
  refine lx_fak 98 rfl Try.underlying42 rfl Try.sizeOf31 (by decide) rfl rfl rfl ?_
  refine lx_fak 98 rfl Try.underlying31 rfl Try.sizeOf27 (by decide) rfl rfl rfl ?_
  refine lx_loadl 1 rfl rfl (Bo.at_keys hk) Try.isAgg27 rfl rfl ?_
  refine lx_len rfl (fun _ => len_slice Try.underlying27 _ _ _ _) rfl rfl ?_
  refine lx_callWL gt_low (M := fun _ => False) (fun k h => h.elim) rfl rfl ent41 rfl rfl hGF (Q := fun w1 w2 v => LsX w1 w2 b1 (boS b.nw.ks.length) v) (fun w1 hC g1 => (bo_calls b1 _ (by omega) w1 g1).mono fun e w2 ⟨v, q1, q2, q3⟩ => ⟨v, q1, grow_mm q2, q3⟩) (fun w3a w3 v hC hm3 g3 hq => ?_)
  have hm3 := hm3.grow (fun _ _ h => h)
  have hG := (hp_below hC).trans hm3
  have hGF := gt_low.plain g3
  obtain ⟨L, bl, c, rfl, hl, hs, hc, _, hx⟩ := hq
  have hr := ((hC.own 1 _ _ _ rfl).1.grow hm3).range
  clear hC
  have hLn : L.length = 12 := lsx_n hs
  refine lx_callW gt_low (M := fun _ => False) (fun k h => h.elim) rfl rfl ent33 rfl rfl hGF (Q := fun w1 w2 v => Fr8 w1 w2 v b.by) (fun w1 h1 g1 => (enc_calls b1 L bl c (by omega) (boB b) (by have := DatL.len (D_bo hk (rg_g hr h1) (hks.grow (hG.trans h1)) (by omega)); rw [← hs, List.length_map] at this; exact this) (by rw [boB_fl hk]; exact bo_blen hk (by omega)) w1 g1 (rg_g hc h1) (fun f hf => (hx f hf).1.grow h1) (fun i f y h2 h3 => DatL.get (D_bo hk (rg_g hr h1) (hks.grow (hG.trans h1)) (by omega)) i f.s y (by rw [← hs]; exact map_s h2) h3)).mono fun e w2 ⟨v, q1, q2, q3⟩ => ⟨v, q1, grow_mm q2, by rw [boB_fl hk] at q3; exact q3⟩) (fun w4 w5 v hg5 hm5 g5 hq => ?_)
  obtain ⟨a5, c5, rfl, hs5, hn5⟩ := hq
  have hG5 := (hG.trans hg5).trans (hm5.grow (fun _ _ h => h))
  refine lx_assign rfl rfl rfl ?_
  refine lx_nil ?_
  refine x_ret ?_
  repeat (first | refine kseq_ret ?_ | refine kblk_ret ?_)
  exact kret_tmp rfl rfl (fun w' hw' => ⟨_, rfl, hG5.trans (hp_below hw'), a5, c5, rfl, hs5.grow (hp_below hw'), fun ad e => Nat.le_trans (hG.trans hg5).size (hn5 ad e)⟩)
end Go.Proofs.Ytlaanjcnfindnaa
