/-
  The law that just the bytes of a thing are decoded.
-/
import Derived.Test.YtlaanjcnfindnaaUN
namespace Go.Proofs.Ytlaanjcnfindnaa
open Go.RowKit
set_option maxRecDepth 100000
set_option maxHeartbeats 1000000

theorem once_law (hT : TypesP) (hKn : Kn) (n : Int) (bs : By) (a : Option Addr) (cap : Nat) (hcap : bs.length ≤ cap) (w : World) (hw : Gt w) (hby : BytesAt w a bs) (hab : ∀ ad, a = some ad → ad.block < w.heap.size) : Calls Try.prog 6 [.slice a bs.length cap, I n].toArray w (fun e w' => e = .returned (.bool true) ∧ Grow w w') := by
  obtain ⟨B, cB, fB, eB, hB⟩ := dB_br bs (szN n) (Nat.le_trans (szN_le n).2 (by decide))
  obtain ⟨U1, c1, f1, x1, h1⟩ := d1_ur bs (szN n) (Nat.le_trans (szN_le n).2 (by decide))
  obtain ⟨U2, c2, f2, x2, h2⟩ := d2_ur bs (szN n) (Nat.le_trans (szN_le n).2 (by decide))
  obtain ⟨U3, c3, f3, x3, h3⟩ := d3_ur bs (szN n) (Nat.le_trans (szN_le n).2 (by decide))
  have hB0 : cB = 0 → B.by = bs := fun h => by obtain ⟨rfl, h2⟩ := eB h; exact boOf_by h2
  have e1 : c1 = 0 → U1.by = bs := fun h => by obtain ⟨rfl, h2, h3⟩ := x1 h; exact u1_by h2 h3
  have e2 : c2 = 0 → U2.fin = bs := fun h => by obtain ⟨rfl, h2, h3⟩ := x2 h; exact u2_by h2 h3
  have e3 : c3 = 0 → U3.opt = bs := fun h => by obtain ⟨rfl, h2, h3⟩ := x3 h; exact u3_by h2 h3
  have hW := Grow.refl w
  have hGF : BOk Gt (pl w) := gt_low.plain hw
  refine calls_of_X (G := Gt) Try.func6 rfl rfl (Hp (pl w) []) (hp_refl (pl w) trivial rides_true) (good_hp hGF) ?_
  refine xs_plain (E := EE []) ?_
  refine lx_assign rfl rfl rfl ?_
  refine lx_nil ?_
  refine x_seq ?_
  refine xs_plain (E := EE []) ?_
  refine lx_callC rfl rfl ent9 (fun w1 _ hG => hKn w1 hG) rfl rfl ?_
  refine lx_un rfl (fun _ => un_not _) rfl rfl ?_
  refine lx_nil ?_
  refine x_false rfl ?_
  refine x_skip ?_
  refine x_seq ?_
  refine xs_plain (E := EE []) ?_
  refine lx_move rfl rfl rfl ?_
  refine lx_len rfl (fun _ => len_slice Try.underlying46 _ _ _ _) rfl rfl ?_
  by_cases hL : 3000 < bs.length
  · skip
    refine lx_binB true rfl rfl (fun _ => rfl) (fun _ => bin_gtr_i _ _ _) (by simp; omega) rfl rfl ?_
    refine lx_nil ?_
    refine x_true rfl ?_
    refine xs_plain (E := EE []) ?_
    refine lx_assign rfl rfl rfl ?_
    refine lx_nil ?_
    refine x_ret ?_
    repeat (first | refine kseq_ret ?_ | refine kblk_ret ?_)
    exact kret_tmp rfl rfl (fun w' hw' => ⟨rfl, (by first | exact hp_below hw' | exact hW.trans (hp_below hw'))⟩)
  · skip
    refine lx_binB false rfl rfl (fun _ => rfl) (fun _ => bin_gtr_i _ _ _) (by simp; omega) rfl rfl ?_
    refine lx_nil ?_
    refine x_false rfl ?_
    refine x_skip ?_
    refine x_seq ?_
    refine xs_plain (E := EE [21]) ?_
    refine lx_move rfl rfl rfl ?_
    refine lx_move rfl rfl rfl ?_
    refine lx_callW gt_low (M := fun _ => False) (fun k h => h.elim) rfl rfl ent21 rfl rfl hGF (Q := fun w1 w2 v => BR B cB w2 v) (fun w1 hx1 g1 => (hT.decB n _ rfl bs a cap hcap (by omega) w1 g1 (hby.grow (hW.trans hx1)) (fun ad e => Nat.lt_of_lt_of_le (hab ad e) (hW.trans hx1).size)).mono fun e w2 h => by obtain ⟨hg, v, he, hv⟩ := hB _ _ _ h; exact ⟨v, he, grow_mm hg, hv⟩) (fun w21a w21 v hg hm g21 hq => ?_)
    have hW : Grow w w21 := hW.trans (hg.trans (hm.grow (fun _ _ h => h)))
    have hGF := gt_low.plain g21
    obtain ⟨ka, kc, rfl, hr, hkc⟩ := hq
    clear hm hg
    refine lx_move rfl rfl rfl ?_
    refine lx_ext rfl rfl rfl rfl ?_
    refine lx_ext rfl rfl rfl rfl ?_
    refine lx_allocr 5 hGF zvBo rfl rfl ?_
    intro b5
    refine lx_storea 5 hGF rfl rfl rfl Try.sizeOf42 (Bo.len (Bo.re_ok fB.ok hkc)) Bo0_len (Bo.one _) rfl ?_
    refine lx_assign rfl rfl rfl ?_
    refine lx_nil ?_
    refine x_join (ι := Unit) (fun _ => [(0, .slice a bs.length cap), (1, I n), (32, .bool false)]) (fun _ => []) hGF ?_ ?_
    · skip
      by_cases hc : cB = 0
      · skip
        refine x_plain (E := EE [18, 2000018]) ?_
        refine lx_move rfl rfl rfl ?_
        refine lx_binB true rfl rfl (fun _ => rfl) (fun _ => bin_eql_i _ _ _) (beq_iff_eq.2 hc) rfl rfl ?_
        refine lx_move rfl rfl rfl ?_
        refine lx_loada 5 rfl rfl Try.isAgg42 Try.sizeOf42 (Bo.len (Bo.re_ok fB.ok hkc)) rfl rfl ?_
        refine lx_callG rfl rfl ent18 rfl rfl (fun w' hw' => ((hT.encB (B.re ka kc) (Bo.re_ok fB.ok hkc) fB.n w' (hGF.g _ _ _ hw') (hr.grow (hp_below hw'))).mono fun e w2 ⟨v, q1, q2, q3⟩ => (⟨v, q1, q2, hB0 hc ▸ q3⟩ : ∃ v, e = Ending.returned v ∧ Grow w' w2 ∧ Fr8 w' w2 v bs)).mono fun e' w'' h => ?_)
        obtain ⟨_, rfl, hg, a28, k28, rfl, hs, hnw⟩ := h
        obtain ⟨b28, c28, rfl, hoo, hcl28, hct28⟩ := slv_some hs (by rw [← hB0 hc]; exact Hd.by_ne _ _)
        refine ⟨_, _, rfl, good_hp hGF, hw'.news rides_true hg [(28, b28, c28, 5)] (row1 (hnw _ rfl) hoo) inj_one, hp_fresh rides_true rfl, ?_⟩
        clear hw' hg hoo hnw hs
        refine lx_move rfl rfl rfl ?_
        refine lx_callC rfl rfl ent11 (fun w1 hC hG => byt_calls bs _ _ _ _ _ _ rfl rfl w1 hG (row_by (n := 28) rfl hct28 w1 hC) (hby.grow (hW.trans (hp_below hC)))) rfl rfl ?_
        refine lx_un rfl (fun _ => un_not _) rfl rfl ?_
        refine lx_pick rfl rfl rfl rfl rfl ?_
        refine lx_nil ?_
        refine kseq_n ?_
        exact ⟨rfl, (), _, rfl, ⟨rfl, rfl, rfl, trivial⟩, trivial⟩
      · skip
        refine x_plain (E := EE []) ?_
        refine lx_move rfl rfl rfl ?_
        refine lx_binB false rfl rfl (fun _ => rfl) (fun _ => bin_eql_i _ _ _) (beq_eq_false_iff_ne.2 hc) rfl rfl ?_
        refine lx_move rfl rfl rfl ?_
        refine lx_skip rfl rfl rfl ?_
        refine lx_skip rfl rfl rfl ?_
        refine lx_skip rfl rfl rfl ?_
        refine lx_skip rfl rfl rfl ?_
        refine lx_skip rfl rfl rfl ?_
        refine lx_pick rfl rfl rfl rfl rfl ?_
        refine lx_nil ?_
        refine kseq_n ?_
        exact ⟨rfl, (), _, rfl, ⟨rfl, rfl, rfl, trivial⟩, trivial⟩
    · intro _
      refine x_false rfl ?_
      refine x_skip ?_
      refine x_seq ?_
      refine xs_plain (E := EE [23]) ?_
      refine lx_move rfl rfl rfl ?_
      refine lx_move rfl rfl rfl ?_
      refine lx_callW gt_low (M := fun _ => False) (fun k h => h.elim) rfl rfl ent23 rfl rfl hGF (Q := fun w1 w2 v => UR U1 c1 w2 v) (fun w1 hx1 g1 => (hT.decU n _ rfl bs a cap hcap (by omega) w1 g1 (hby.grow (hW.trans hx1)) (fun ad e => Nat.lt_of_lt_of_le (hab ad e) (hW.trans hx1).size)).mono fun e w2 h => by obtain ⟨hg, v, he, hv⟩ := h1 _ _ _ h; exact ⟨v, he, grow_mm hg, hv⟩) (fun w36a w36 v hg hm g36 hq => ?_)
      have hW : Grow w w36 := hW.trans (hg.trans (hm.grow (fun _ _ h => h)))
      have hGF := gt_low.plain g36
      obtain ⟨ka, kc, ba, bc, rfl, hr, hb, hkc⟩ := hq
      clear hm hg
      refine lx_move rfl rfl rfl ?_
      refine lx_ext rfl rfl rfl rfl ?_
      refine lx_ext rfl rfl rfl rfl ?_
      refine lx_allocr 7 hGF zvU rfl rfl ?_
      intro b7
      refine lx_storea 7 hGF rfl rfl rfl Try.sizeOf40 (Up.len (Up.re_ok f1.ok hkc)) U0_len (Up.one _) rfl ?_
      refine lx_assign rfl rfl rfl ?_
      refine lx_nil ?_
      refine x_join (ι := Unit) (fun _ => [(0, .slice a bs.length cap), (1, I n), (47, .bool false)]) (fun _ => []) hGF ?_ ?_
      · skip
        by_cases hc : c1 = 0
        · skip
          refine x_plain (E := EE [12, 2000012]) ?_
          refine lx_move rfl rfl rfl ?_
          refine lx_binB true rfl rfl (fun _ => rfl) (fun _ => bin_eql_i _ _ _) (beq_iff_eq.2 hc) rfl rfl ?_
          refine lx_move rfl rfl rfl ?_
          refine lx_loada 7 rfl rfl Try.isAgg40 Try.sizeOf40 (Up.len (Up.re_ok f1.ok hkc)) rfl rfl ?_
          refine lx_callG rfl rfl ent12 rfl rfl (fun w' hw' => ((hT.encU (U1.re ka kc ba bc) (Up.re_ok f1.ok hkc) f1.n f1.m w' (hGF.g _ _ _ hw') (hr.grow (hp_below hw')) (hb.grow (hp_below hw'))).mono fun e w2 ⟨v, q1, q2, q3⟩ => (⟨v, q1, q2, e1 hc ▸ q3⟩ : ∃ v, e = Ending.returned v ∧ Grow w' w2 ∧ Fr8 w' w2 v bs)).mono fun e' w'' h => ?_)
          obtain ⟨_, rfl, hg, a43, k43, rfl, hs, hnw⟩ := h
          obtain ⟨b43, c43, rfl, hoo, hcl43, hct43⟩ := slv_some hs (by rw [← e1 hc]; exact Hd.by_ne _ _)
          refine ⟨_, _, rfl, good_hp hGF, hw'.news rides_true hg [(43, b43, c43, 5)] (row1 (hnw _ rfl) hoo) inj_one, hp_fresh rides_true rfl, ?_⟩
          clear hw' hg hoo hnw hs
          refine lx_move rfl rfl rfl ?_
          refine lx_callC rfl rfl ent11 (fun w1 hC hG => byt_calls bs _ _ _ _ _ _ rfl rfl w1 hG (row_by (n := 43) rfl hct43 w1 hC) (hby.grow (hW.trans (hp_below hC)))) rfl rfl ?_
          refine lx_un rfl (fun _ => un_not _) rfl rfl ?_
          refine lx_pick rfl rfl rfl rfl rfl ?_
          refine lx_nil ?_
          refine kseq_n ?_
          exact ⟨rfl, (), _, rfl, ⟨rfl, rfl, rfl, trivial⟩, trivial⟩
        · skip
          refine x_plain (E := EE []) ?_
          refine lx_move rfl rfl rfl ?_
          refine lx_binB false rfl rfl (fun _ => rfl) (fun _ => bin_eql_i _ _ _) (beq_eq_false_iff_ne.2 hc) rfl rfl ?_
          refine lx_move rfl rfl rfl ?_
          refine lx_skip rfl rfl rfl ?_
          refine lx_skip rfl rfl rfl ?_
          refine lx_skip rfl rfl rfl ?_
          refine lx_skip rfl rfl rfl ?_
          refine lx_skip rfl rfl rfl ?_
          refine lx_pick rfl rfl rfl rfl rfl ?_
          refine lx_nil ?_
          refine kseq_n ?_
          exact ⟨rfl, (), _, rfl, ⟨rfl, rfl, rfl, trivial⟩, trivial⟩
      · intro _
        refine x_false rfl ?_
        refine x_skip ?_
        refine x_seq ?_
        refine xs_plain (E := EE [24]) ?_
        refine lx_move rfl rfl rfl ?_
        refine lx_move rfl rfl rfl ?_
        refine lx_callW gt_low (M := fun _ => False) (fun k h => h.elim) rfl rfl ent24 rfl rfl hGF (Q := fun w1 w2 v => UR U2 c2 w2 v) (fun w1 hx1 g1 => (hT.decF n _ rfl bs a cap hcap (by omega) w1 g1 (hby.grow (hW.trans hx1)) (fun ad e => Nat.lt_of_lt_of_le (hab ad e) (hW.trans hx1).size)).mono fun e w2 h => by obtain ⟨hg, v, he, hv⟩ := h2 _ _ _ h; exact ⟨v, he, grow_mm hg, hv⟩) (fun w51a w51 v hg hm g51 hq => ?_)
        have hW : Grow w w51 := hW.trans (hg.trans (hm.grow (fun _ _ h => h)))
        have hGF := gt_low.plain g51
        obtain ⟨ka, kc, ba, bc, rfl, hr, hb, hkc⟩ := hq
        clear hm hg
        refine lx_move rfl rfl rfl ?_
        refine lx_ext rfl rfl rfl rfl ?_
        refine lx_ext rfl rfl rfl rfl ?_
        refine lx_allocr 9 hGF zvU rfl rfl ?_
        intro b9
        refine lx_storea 9 hGF rfl rfl rfl Try.sizeOf40 (Up.len (Up.re_ok f2.ok hkc)) U0_len (Up.one _) rfl ?_
        refine lx_assign rfl rfl rfl ?_
        refine lx_nil ?_
        refine x_join (ι := Unit) (fun _ => [(0, .slice a bs.length cap), (1, I n), (62, .bool false)]) (fun _ => []) hGF ?_ ?_
        · skip
          by_cases hc : c2 = 0
          · skip
            refine x_plain (E := EE [14, 2000014]) ?_
            refine lx_move rfl rfl rfl ?_
            refine lx_binB true rfl rfl (fun _ => rfl) (fun _ => bin_eql_i _ _ _) (beq_iff_eq.2 hc) rfl rfl ?_
            refine lx_move rfl rfl rfl ?_
            refine lx_loada 9 rfl rfl Try.isAgg40 Try.sizeOf40 (Up.len (Up.re_ok f2.ok hkc)) rfl rfl ?_
            refine lx_callG rfl rfl ent14 rfl rfl (fun w' hw' => ((hT.encF (U2.re ka kc ba bc) (Up.re_ok f2.ok hkc) f2.n f2.m w' (hGF.g _ _ _ hw') (hr.grow (hp_below hw')) (hb.grow (hp_below hw'))).mono fun e w2 ⟨v, q1, q2, q3⟩ => (⟨v, q1, q2, e2 hc ▸ q3⟩ : ∃ v, e = Ending.returned v ∧ Grow w' w2 ∧ Fr8 w' w2 v bs)).mono fun e' w'' h => ?_)
            obtain ⟨_, rfl, hg, a58, k58, rfl, hs, hnw⟩ := h
            obtain ⟨b58, c58, rfl, hoo, hcl58, hct58⟩ := slv_some hs (by rw [← e2 hc]; exact Hd.by_ne _ _)
            refine ⟨_, _, rfl, good_hp hGF, hw'.news rides_true hg [(58, b58, c58, 5)] (row1 (hnw _ rfl) hoo) inj_one, hp_fresh rides_true rfl, ?_⟩
            clear hw' hg hoo hnw hs
            refine lx_move rfl rfl rfl ?_
            refine lx_callC rfl rfl ent11 (fun w1 hC hG => byt_calls bs _ _ _ _ _ _ rfl rfl w1 hG (row_by (n := 58) rfl hct58 w1 hC) (hby.grow (hW.trans (hp_below hC)))) rfl rfl ?_
            refine lx_un rfl (fun _ => un_not _) rfl rfl ?_
            refine lx_pick rfl rfl rfl rfl rfl ?_
            refine lx_nil ?_
            refine kseq_n ?_
            exact ⟨rfl, (), _, rfl, ⟨rfl, rfl, rfl, trivial⟩, trivial⟩
          · skip
            refine x_plain (E := EE []) ?_
            refine lx_move rfl rfl rfl ?_
            refine lx_binB false rfl rfl (fun _ => rfl) (fun _ => bin_eql_i _ _ _) (beq_eq_false_iff_ne.2 hc) rfl rfl ?_
            refine lx_move rfl rfl rfl ?_
            refine lx_skip rfl rfl rfl ?_
            refine lx_skip rfl rfl rfl ?_
            refine lx_skip rfl rfl rfl ?_
            refine lx_skip rfl rfl rfl ?_
            refine lx_skip rfl rfl rfl ?_
            refine lx_pick rfl rfl rfl rfl rfl ?_
            refine lx_nil ?_
            refine kseq_n ?_
            exact ⟨rfl, (), _, rfl, ⟨rfl, rfl, rfl, trivial⟩, trivial⟩
        · intro _
          refine x_false rfl ?_
          refine x_skip ?_
          refine xs_plain (E := EE [25]) ?_
          refine lx_move rfl rfl rfl ?_
          refine lx_move rfl rfl rfl ?_
          refine lx_callW gt_low (M := fun _ => False) (fun k h => h.elim) rfl rfl ent25 rfl rfl hGF (Q := fun w1 w2 v => UR U3 c3 w2 v) (fun w1 hx1 g1 => (hT.decO n _ rfl bs a cap hcap (by omega) w1 g1 (hby.grow (hW.trans hx1)) (fun ad e => Nat.lt_of_lt_of_le (hab ad e) (hW.trans hx1).size)).mono fun e w2 h => by obtain ⟨hg, v, he, hv⟩ := h3 _ _ _ h; exact ⟨v, he, grow_mm hg, hv⟩) (fun w66a w66 v hg hm g66 hq => ?_)
          have hW : Grow w w66 := hW.trans (hg.trans (hm.grow (fun _ _ h => h)))
          have hGF := gt_low.plain g66
          obtain ⟨ka, kc, ba, bc, rfl, hr, hb, hkc⟩ := hq
          clear hm hg
          refine lx_move rfl rfl rfl ?_
          refine lx_ext rfl rfl rfl rfl ?_
          refine lx_ext rfl rfl rfl rfl ?_
          refine lx_allocr 11 hGF zvU rfl rfl ?_
          intro b11
          refine lx_storea 11 hGF rfl rfl rfl Try.sizeOf40 (Up.len (Up.re_ok f3.ok hkc)) U0_len (Up.one _) rfl ?_
          refine lx_assign rfl rfl rfl ?_
          refine lx_nil ?_
          by_cases hc : c3 = 0
          · skip
            refine xs_plain (E := EE [16, 2000016]) ?_
            refine lx_move rfl rfl rfl ?_
            refine lx_binB false rfl rfl (fun _ => rfl) (fun _ => bin_neq_i _ _ _) (by rw [hc]; rfl) rfl rfl ?_
            refine lx_move rfl rfl rfl ?_
            refine lx_loada 11 rfl rfl Try.isAgg40 Try.sizeOf40 (Up.len (Up.re_ok f3.ok hkc)) rfl rfl ?_
            refine lx_callG rfl rfl ent16 rfl rfl (fun w' hw' => ((hT.encO (U3.re ka kc ba bc) (Up.re_ok f3.ok hkc) f3.n f3.m w' (hGF.g _ _ _ hw') (hr.grow (hp_below hw')) (hb.grow (hp_below hw'))).mono fun e w2 ⟨v, q1, q2, q3⟩ => (⟨v, q1, q2, e3 hc ▸ q3⟩ : ∃ v, e = Ending.returned v ∧ Grow w' w2 ∧ Fr8 w' w2 v bs)).mono fun e' w'' h => ?_)
            obtain ⟨_, rfl, hg, a73, k73, rfl, hs, hnw⟩ := h
            obtain ⟨b73, c73, rfl, hoo, hcl73, hct73⟩ := slv_some hs (by rw [← e3 hc]; exact Hd.by_ne _ _)
            refine ⟨_, _, rfl, good_hp hGF, hw'.news rides_true hg [(73, b73, c73, 5)] (row1 (hnw _ rfl) hoo) inj_one, hp_fresh rides_true rfl, ?_⟩
            clear hw' hg hoo hnw hs
            refine lx_move rfl rfl rfl ?_
            refine lx_callC rfl rfl ent11 (fun w1 hC hG => byt_calls bs _ _ _ _ _ _ rfl rfl w1 hG (row_by (n := 73) rfl hct73 w1 hC) (hby.grow (hW.trans (hp_below hC)))) rfl rfl ?_
            refine lx_pick rfl rfl rfl rfl rfl ?_
            refine lx_assign rfl rfl rfl ?_
            refine lx_nil ?_
            refine x_ret ?_
            repeat (first | refine kseq_ret ?_ | refine kblk_ret ?_)
            exact kret_tmp rfl rfl (fun w' hw' => ⟨rfl, (by first | exact hp_below hw' | exact hW.trans (hp_below hw'))⟩)
          · skip
            refine xs_plain (E := EE []) ?_
            refine lx_move rfl rfl rfl ?_
            refine lx_binB true rfl rfl (fun _ => rfl) (fun _ => bin_neq_i _ _ _) (bne_iff_ne.2 hc) rfl rfl ?_
            refine lx_move rfl rfl rfl ?_
            refine lx_skip rfl rfl rfl ?_
            refine lx_skip rfl rfl rfl ?_
            refine lx_skip rfl rfl rfl ?_
            refine lx_skip rfl rfl rfl ?_
            refine lx_pick rfl rfl rfl rfl rfl ?_
            refine lx_assign rfl rfl rfl ?_
            refine lx_nil ?_
            refine x_ret ?_
            repeat (first | refine kseq_ret ?_ | refine kblk_ret ?_)
            exact kret_tmp rfl rfl (fun w' hw' => ⟨rfl, (by first | exact hp_below hw' | exact hW.trans (hp_below hw'))⟩)
end Go.Proofs.Ytlaanjcnfindnaa
