/-
  The laws of sizes and of encoding.
-/
import Derived.Test.YtlaanjcnfindnaaVN
namespace Go.Proofs.Ytlaanjcnfindnaa
open Go.RowKit
set_option maxRecDepth 100000
set_option maxHeartbeats 1000000

def Kn : Prop := ∀ (w : World), Gt w → Calls Try.prog 9 [].toArray w (fun e w' => e = .returned (.bool true) ∧ Grow w w')
theorem row1 {n b : Nat} {c : List Value} {t : TypeId} {w w' : World} (h1 : w.heap.size ≤ b) (h2 : OwnB w' b c t) : ∀ n' b' c' t', lkB [(n, b, c, t)] n' = some (b', c', t') → w.heap.size ≤ b' ∧ OwnB w' b' c' t' := fun n' b' c' t' hl => by
  rcases lkB_cons hl with ⟨_, e⟩ | ⟨_, hl⟩
  · cases e; exact ⟨h1, h2⟩
  · cases hl
theorem inj_one {n : Nat} {b1 : Nat} {c1 : List Value} {t1 : TypeId} : ∀ i j b c t c' t', lkB [(n, b1, c1, t1)] i = some (b, c, t) → lkB [(n, b1, c1, t1)] j = some (b, c', t') → i = j := by
  intro i j b c t c' t' h1 h2
  rcases lkB_cons h1 with ⟨e1, _⟩ | ⟨_, h1⟩
  · rcases lkB_cons h2 with ⟨e2, _⟩ | ⟨_, h2⟩
    · exact e1.trans e2.symm
    · cases h2
  · cases h1
theorem slv_some {w : World} {a : Option Addr} {cap : Nat} {xs : By} (h : SlV 5 w a cap (xs.map U8)) (h0 : xs ≠ []) : ∃ b c, a = some ⟨b, 0, none⟩ ∧ OwnB w b c 5 ∧ c.length = cap ∧ c.take xs.length = xs.map U8 := by
  rcases h with ⟨_, h, _⟩ | ⟨b, c, h1, h2, h3, _, h5⟩
  · exact absurd (List.map_eq_nil_iff.1 h) h0
  · exact ⟨b, c, h1, h2, h3, by simpa using h5⟩
theorem row_by {B : Bs} {L : Hl} {Y : Nat → Prop} {n b : Nat} {t : TypeId} {xs : By} {c : List Value} (hl : lkB L n = some (b, c, t)) (hc : c.take xs.length = xs.map U8) : ∀ w, Hq B L Y w → BytesAt w (some ⟨b, 0, none⟩) xs := fun w hw j v hv => by
  have hr := hp_row (n := n) hl w hw
  refine ⟨_, rfl, ?_⟩
  have hj : j < xs.length := by have := (List.getElem?_eq_some_iff.1 hv).1; simpa using this
  have h2 : c[j]? = some v := by rw [← hv, ← hc, List.getElem?_take, if_pos hj]
  rw [Addr.add_mid]
  exact hr j v h2
theorem Hd.by_ne (h : Hd) (r : By) : h.by ++ r ≠ [] := fun e => by
  have := congrArg List.length e
  simp [Hd.by, le8_len] at this
theorem encode_law (hT : TypesP) (hKn : Kn) (u : Up) (hk : u.Ok) (b : Bo) (hk2 : b.Ok) (w : World) (hw : Gt w) (hks : RwsAt 48 w u.nx.ka u.nx.ks) (hbs : CellsAt w u.sy.ba (u.sy.bs.map .bool)) (hkb : RwsAt 48 w b.nw.ka b.nw.ks) : Calls Try.prog 3 [.agg u.cs.toArray, .agg b.cs.toArray].toArray w (fun e w' => e = .returned (.bool true) ∧ Grow w w') := by
  have hGF : BOk Gt (pl w) := gt_low.plain hw
  refine calls_of_X (G := Gt) Try.func3 rfl rfl (Hp (pl w) []) (hp_refl (pl w) trivial rides_true) (good_hp hGF) ?_
  refine xs_plain (E := EE []) ?_
  refine lx_boxr 2 hGF rfl rfl rfl ?_
  intro b2
  refine lx_boxr 3 hGF rfl rfl rfl ?_
  intro b3
  refine lx_assign rfl rfl rfl ?_
  refine lx_nil ?_
  refine x_seq ?_
  refine xs_plain (E := EE []) ?_
  refine lx_callC rfl rfl ent9 (fun w1 _ hG => hKn w1 hG) rfl rfl ?_
  refine lx_un rfl (fun _ => un_not _) rfl rfl ?_
  refine lx_nil ?_
  refine x_false rfl ?_
  refine x_skip ?_
  refine x_seq ?_
  refine xs_plain (E := EE []) ?_
  refine lx_loada 2 rfl rfl Try.isAgg40 Try.sizeOf40 (Up.len hk) rfl rfl ?_
  by_cases hL : u.nx.ks.length ≤ 40 ∧ u.sy.bs.length ≤ 40
  · skip
    refine lx_callC rfl rfl ent10 (fun w1 _ hG => light_calls u hk w1 hG) rfl rfl ?_
    rw [show decide (u.nx.ks.length ≤ 40 ∧ u.sy.bs.length ≤ 40) = true from decide_eq_true hL]
    refine lx_un rfl (fun _ => un_not _) rfl rfl ?_
    refine lx_move rfl rfl rfl ?_
    refine lx_fak 98 rfl Try.underlying42 rfl Try.sizeOf31 (by decide) rfl rfl rfl ?_
    refine lx_fak 98 rfl Try.underlying31 rfl Try.sizeOf27 (by decide) rfl rfl rfl ?_
    refine lx_load rfl Try.isAgg27 (fun w' h => (rg_at (ds := [_]) (hp_row (n := 3) rfl w' h) (one_at (Bo.at_keys hk2))) 0 _ rfl) rfl rfl ?_
    refine lx_len rfl (fun _ => len_slice Try.underlying27 _ _ _ _) rfl rfl ?_
    by_cases hL2 : 40 < b.nw.ks.length
    · skip
      refine lx_binB true rfl rfl (fun _ => rfl) (fun _ => bin_gtr_i _ _ _) (by simp; omega) rfl rfl ?_
      refine lx_pick rfl rfl rfl rfl rfl ?_
      refine lx_nil ?_
      refine x_true rfl ?_
      refine xs_plain (E := EE []) ?_
      refine lx_assign rfl rfl rfl ?_
      refine lx_nil ?_
      refine x_ret ?_
      repeat (first | refine kseq_ret ?_ | refine kblk_ret ?_)
      exact kret_tmp rfl rfl (fun w' hw' => ⟨rfl, hp_below hw'⟩)
    · skip
      refine lx_binB false rfl rfl (fun _ => rfl) (fun _ => bin_gtr_i _ _ _) (by simp; omega) rfl rfl ?_
      refine lx_pick rfl rfl rfl rfl rfl ?_
      refine lx_nil ?_
      refine x_false rfl ?_
      refine x_skip ?_
      refine xs_draws (E := EE [12, 14, 16, 18, 13, 15, 17, 19, 2000012, 2000014, 2000016, 2000018, 2000013, 2000015, 2000017, 2000019]) [0, 2, 1, 3, 4, 5, 6, 8, 7, 9, 10, 11, 12, 13, 15, 14, 16, 17, 18, 19, 20, 22, 21, 23, 24, 25, 26] mixed rfl (by kernel_rfl) (by kernel_rfl) (by kernel_rfl) ?_
      refine lx_loada 2 rfl rfl Try.isAgg40 Try.sizeOf40 (Up.len hk) rfl rfl ?_
      refine lx_loada 2 rfl rfl Try.isAgg40 Try.sizeOf40 (Up.len hk) rfl rfl ?_
      refine lx_callG rfl rfl ent12 rfl rfl (fun w' hw' => (hT.encU u hk (by omega) (by omega) w' (hGF.g _ _ _ hw') (hks.grow (hp_below hw')) (hbs.grow (hp_below hw'))).mono fun e' w'' h => ?_)
      obtain ⟨_, rfl, hg, a18, k18, rfl, hs, hnw⟩ := h
      obtain ⟨b18, c18, rfl, hoo, hcl18, hct18⟩ := slv_some hs (Hd.by_ne _ _)
      refine ⟨_, _, rfl, good_hp hGF, hw'.news rides_true hg [(18, b18, c18, 5)] (row1 (hnw _ rfl) hoo) inj_one, hp_fresh rides_true rfl, ?_⟩
      clear hw' hg hoo hnw hs
      refine lx_callG rfl rfl ent13 rfl rfl (fun w' hw' => ((upd_calls u hk (by omega) w' (hGF.g _ _ _ hw') (hks.grow (hp_below hw')) (hbs.grow (hp_below hw'))).mono fun e w2 ⟨a1, c1, q1, q2⟩ => (⟨_, q1, (ap8_fr q2).1, (ap8_fr q2).2⟩ : ∃ v, e = Ending.returned v ∧ Grow w' w2 ∧ Fr8 w' w2 v _)).mono fun e' w'' h => ?_)
      obtain ⟨_, rfl, hg, a20, k20, rfl, hs, hnw⟩ := h
      obtain ⟨b20, c20, rfl, hoo, hcl20, hct20⟩ := slv_some hs (Hd.by_ne _ _)
      refine ⟨_, _, rfl, good_hp hGF, hw'.news rides_true hg [(20, b20, c20, 5)] (row1 (hnw _ rfl) hoo) inj_one, hp_fresh rides_true rfl, ?_⟩
      clear hw' hg hoo hnw hs
      refine lx_callC rfl rfl ent11 (fun w1 hC hG => byt_calls u.by _ _ _ _ _ _ rfl rfl w1 hG (row_by (n := 18) rfl hct18 w1 hC) (row_by (n := 20) rfl hct20 w1 hC)) rfl rfl ?_
      refine lx_move rfl rfl rfl ?_
      refine lx_loada 2 rfl rfl Try.isAgg40 Try.sizeOf40 (Up.len hk) rfl rfl ?_
      refine lx_loada 2 rfl rfl Try.isAgg40 Try.sizeOf40 (Up.len hk) rfl rfl ?_
      refine lx_callG rfl rfl ent14 rfl rfl (fun w' hw' => (hT.encF u hk (by omega) (by omega) w' (hGF.g _ _ _ hw') (hks.grow (hp_below hw')) (hbs.grow (hp_below hw'))).mono fun e' w'' h => ?_)
      obtain ⟨_, rfl, hg, a24, k24, rfl, hs, hnw⟩ := h
      obtain ⟨b24, c24, rfl, hoo, hcl24, hct24⟩ := slv_some hs (Hd.by_ne _ _)
      refine ⟨_, _, rfl, good_hp hGF, hw'.news rides_true hg [(24, b24, c24, 5)] (row1 (hnw _ rfl) hoo) inj_one, hp_fresh rides_true rfl, ?_⟩
      clear hw' hg hoo hnw hs
      refine lx_callG rfl rfl ent15 rfl rfl (fun w' hw' => ((fin_calls u hk (by omega) w' (hGF.g _ _ _ hw') (hbs.grow (hp_below hw'))).mono fun e w2 ⟨a1, c1, q1, q2⟩ => (⟨_, q1, (ap8_fr q2).1, (ap8_fr q2).2⟩ : ∃ v, e = Ending.returned v ∧ Grow w' w2 ∧ Fr8 w' w2 v _)).mono fun e' w'' h => ?_)
      obtain ⟨_, rfl, hg, a26, k26, rfl, hs, hnw⟩ := h
      obtain ⟨b26, c26, rfl, hoo, hcl26, hct26⟩ := slv_some hs (Hd.by_ne _ _)
      refine ⟨_, _, rfl, good_hp hGF, hw'.news rides_true hg [(26, b26, c26, 5)] (row1 (hnw _ rfl) hoo) inj_one, hp_fresh rides_true rfl, ?_⟩
      clear hw' hg hoo hnw hs
      refine lx_callC rfl rfl ent11 (fun w1 hC hG => byt_calls u.fin _ _ _ _ _ _ rfl rfl w1 hG (row_by (n := 24) rfl hct24 w1 hC) (row_by (n := 26) rfl hct26 w1 hC)) rfl rfl ?_
      refine lx_pick rfl rfl rfl rfl rfl ?_
      refine lx_move rfl rfl rfl ?_
      refine lx_loada 2 rfl rfl Try.isAgg40 Try.sizeOf40 (Up.len hk) rfl rfl ?_
      refine lx_loada 2 rfl rfl Try.isAgg40 Try.sizeOf40 (Up.len hk) rfl rfl ?_
      refine lx_callG rfl rfl ent16 rfl rfl (fun w' hw' => (hT.encO u hk (by omega) (by omega) w' (hGF.g _ _ _ hw') (hks.grow (hp_below hw')) (hbs.grow (hp_below hw'))).mono fun e' w'' h => ?_)
      obtain ⟨_, rfl, hg, a31, k31, rfl, hs, hnw⟩ := h
      obtain ⟨b31, c31, rfl, hoo, hcl31, hct31⟩ := slv_some hs (Hd.by_ne _ _)
      refine ⟨_, _, rfl, good_hp hGF, hw'.news rides_true hg [(31, b31, c31, 5)] (row1 (hnw _ rfl) hoo) inj_one, hp_fresh rides_true rfl, ?_⟩
      clear hw' hg hoo hnw hs
      refine lx_callG rfl rfl ent17 rfl rfl (fun w' hw' => ((opt_calls u hk (by omega) w' (hGF.g _ _ _ hw') (hbs.grow (hp_below hw'))).mono fun e w2 ⟨a1, c1, q1, q2⟩ => (⟨_, q1, (ap8_fr q2).1, (ap8_fr q2).2⟩ : ∃ v, e = Ending.returned v ∧ Grow w' w2 ∧ Fr8 w' w2 v _)).mono fun e' w'' h => ?_)
      obtain ⟨_, rfl, hg, a33, k33, rfl, hs, hnw⟩ := h
      obtain ⟨b33, c33, rfl, hoo, hcl33, hct33⟩ := slv_some hs (Hd.by_ne _ _)
      refine ⟨_, _, rfl, good_hp hGF, hw'.news rides_true hg [(33, b33, c33, 5)] (row1 (hnw _ rfl) hoo) inj_one, hp_fresh rides_true rfl, ?_⟩
      clear hw' hg hoo hnw hs
      refine lx_callC rfl rfl ent11 (fun w1 hC hG => byt_calls u.opt _ _ _ _ _ _ rfl rfl w1 hG (row_by (n := 31) rfl hct31 w1 hC) (row_by (n := 33) rfl hct33 w1 hC)) rfl rfl ?_
      refine lx_pick rfl rfl rfl rfl rfl ?_
      refine lx_move rfl rfl rfl ?_
      refine lx_loada 3 rfl rfl Try.isAgg42 Try.sizeOf42 (Bo.len hk2) rfl rfl ?_
      refine lx_loada 3 rfl rfl Try.isAgg42 Try.sizeOf42 (Bo.len hk2) rfl rfl ?_
      refine lx_callG rfl rfl ent18 rfl rfl (fun w' hw' => (hT.encB b hk2 (by omega) w' (hGF.g _ _ _ hw') (hkb.grow (hp_below hw'))).mono fun e' w'' h => ?_)
      obtain ⟨_, rfl, hg, a38, k38, rfl, hs, hnw⟩ := h
      obtain ⟨b38, c38, rfl, hoo, hcl38, hct38⟩ := slv_some hs (Hd.by_ne _ _)
      refine ⟨_, _, rfl, good_hp hGF, hw'.news rides_true hg [(38, b38, c38, 5)] (row1 (hnw _ rfl) hoo) inj_one, hp_fresh rides_true rfl, ?_⟩
      clear hw' hg hoo hnw hs
      refine lx_callG rfl rfl ent19 rfl rfl (fun w' hw' => ((boo_calls b hk2 (by omega) w' (hGF.g _ _ _ hw') (hkb.grow (hp_below hw'))).mono fun e w2 ⟨a1, c1, q1, q2⟩ => (⟨_, q1, (ap8_fr q2).1, (ap8_fr q2).2⟩ : ∃ v, e = Ending.returned v ∧ Grow w' w2 ∧ Fr8 w' w2 v _)).mono fun e' w'' h => ?_)
      obtain ⟨_, rfl, hg, a40, k40, rfl, hs, hnw⟩ := h
      obtain ⟨b40, c40, rfl, hoo, hcl40, hct40⟩ := slv_some hs (Hd.by_ne _ _)
      refine ⟨_, _, rfl, good_hp hGF, hw'.news rides_true hg [(40, b40, c40, 5)] (row1 (hnw _ rfl) hoo) inj_one, hp_fresh rides_true rfl, ?_⟩
      clear hw' hg hoo hnw hs
      refine lx_callC rfl rfl ent11 (fun w1 hC hG => byt_calls b.by _ _ _ _ _ _ rfl rfl w1 hG (row_by (n := 38) rfl hct38 w1 hC) (row_by (n := 40) rfl hct40 w1 hC)) rfl rfl ?_
      refine lx_pick rfl rfl rfl rfl rfl ?_
      refine lx_assign rfl rfl rfl ?_
      refine lx_nil ?_
      refine x_ret ?_
      repeat (first | refine kseq_ret ?_ | refine kblk_ret ?_)
      exact kret_tmp rfl rfl (fun w' hw' => ⟨rfl, hp_below hw'⟩)
  · skip
    refine lx_callC rfl rfl ent10 (fun w1 _ hG => light_calls u hk w1 hG) rfl rfl ?_
    rw [show decide (u.nx.ks.length ≤ 40 ∧ u.sy.bs.length ≤ 40) = false from decide_eq_false hL]
    refine lx_un rfl (fun _ => un_not _) rfl rfl ?_
    refine lx_move rfl rfl rfl ?_
    refine lx_skip rfl rfl rfl ?_
    refine lx_skip rfl rfl rfl ?_
    refine lx_skip rfl rfl rfl ?_
    refine lx_skip rfl rfl rfl ?_
    refine lx_skip rfl rfl rfl ?_
    refine lx_pick rfl rfl rfl rfl rfl ?_
    refine lx_nil ?_
    refine x_true rfl ?_
    refine xs_plain (E := EE []) ?_
    refine lx_assign rfl rfl rfl ?_
    refine lx_nil ?_
    refine x_ret ?_
    repeat (first | refine kseq_ret ?_ | refine kblk_ret ?_)
    exact kret_tmp rfl rfl (fun w' hw' => ⟨rfl, hp_below hw'⟩)
end Go.Proofs.Ytlaanjcnfindnaa
