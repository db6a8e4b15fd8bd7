/-
  TypesP of the landed code.
-/
import Derived.Test.YtlaanjcnfindnaaUL
namespace Go.Proofs.Ytlaanjcnfindnaa
open Go.RowKit
set_option maxRecDepth 100000
set_option maxHeartbeats 1000000

theorem du_calls (F : Nat) (hFe : Enters Try.prog F) (n : Int) (m : Nat) (hm : szN n = m) (sp : List Sp) (hF : Mk F sp m) (hsl : sp.length ≤ 100) (hsz : off sp sp.length ≤ 1000000) (hfit : Fit U0.length sp) (bs : By) (a : Option Addr) (cap : Nat) (hl2 : bs.length ≤ 100000) (w : World) (hw : Gt w) (hb : BytesAt w a bs) : Calls Try.prog 49 [.slice a bs.length cap, I n, .func (.func F) #[] #[]].toArray w (fun e w' => ∃ ev cN, e = .returned (.tuple #[.agg cN.toArray, I ev]) ∧ Grow w w' ∧ DecR w w' sp U0 bs ev cN) := by
  by_cases hlen : bs.length = off sp sp.length
  · exact du_ok F hFe n m hm sp hF hsl hfit bs a cap hl2 hlen w hw hb
  · exact du_bad F hFe n m hm sp hF hsl hsz bs a cap hlen w hw
theorem db_calls (n : Int) (m : Nat) (hm : szN n = m) (bs : By) (a : Option Addr) (cap : Nat) (hl2 : bs.length ≤ 100000) (w : World) (hw : Gt w) (hb : BytesAt w a bs) : Calls Try.prog 21 [.slice a bs.length cap, I n].toArray w (fun e w' => ∃ ev cN, e = .returned (.tuple #[.agg cN.toArray, I ev]) ∧ Grow w w' ∧ DecR w w' (boS m) Bo0.cs bs ev cN) := by
  have h5 := (szN_le n).2
  have hF : Mk 41 (boS m) m := fun b w hw => bo_calls b m (by omega) w hw
  have hsz : off (boS m) (boS m).length ≤ 1000000 := by rw [off_bo]; unfold sz1; omega
  have hfit : Fit Bo0.cs.length (boS m) := by rw [Bo0_len]; exact (F_hd (by decide)).app ((F_co (by decide) (by omega)).app (F_br (by decide)))
  by_cases hlen : bs.length = off (boS m) (boS m).length
  · exact db_ok n m hm (boS m) hF (show 12 ≤ 100 by decide) hfit bs a cap hl2 hlen w hw hb
  · exact db_bad n m hm (boS m) hF (show 12 ≤ 100 by decide) hsz bs a cap hlen w hw
theorem DecR.mm5 {w w5 w6 w7 w8 : World} {sp : List Sp} {c0 : List Value} {bs : By} {ev : Int} {cN : List Value} {b : Nat} (h : DecR w5 w6 sp c0 bs ev cN) (hg : Grow w6 w7) (hm : MM (fun k => k = b) w7 w8) (hb : b < w5.heap.size) (hw : w.heap.size ≤ w5.heap.size) : DecR w w8 sp c0 bs ev cN :=
  ⟨h.l, h.o, fun h1 h2 => ⟨(h.g h1 h2).1, by obtain ⟨VS, x1, x2, x3⟩ := (h.g h1 h2).2; exact ⟨VS, x1, x2, ((x3.grow hg).mm hm (fun k hk => hk ▸ hb)).low hw⟩⟩, h.b, h.n⟩
theorem du_up (n : Int) (m : Nat) (hm : szN n = m) (bs : By) (a : Option Addr) (cap : Nat) (hl2 : bs.length ≤ 100000) (w : World) (hw : Gt w) (hb : BytesAt w a bs) : Calls Try.prog 23 [.slice a bs.length cap, I n].toArray w (fun e w' => ∃ ev cN, e = .returned (.tuple #[.agg cN.toArray, I ev]) ∧ Grow w w' ∧ DecR w w' (upS m) U0 bs ev cN) := by
  have hsz : off (upS m) (upS m).length ≤ 1000000 := by have := (szN_le n).2; rw [off_up]; unfold sz2 szB; omega
  have hfit : Fit U0.length (upS m) := by have := (szN_le n).2; rw [U0_len]; exact (F_hd (by decide)).app ((F_co (by decide) (by omega)).app ((F_br (by decide)).app ((F_hd (by decide)).app ((F_br (by decide)).app ((F_ag (by decide) (by omega)).app (F_nu (by decide)))))))
  have hGF : BOk Gt (pl w) := gt_low.plain hw
  refine calls_of_X (G := Gt) Try.func23 rfl rfl (Hp (pl w) []) (hp_refl (pl w) trivial rides_true) (good_hp hGF) ?_
  refine xs_plain (E := EE [49]) ?_
  refine lx_allocr 4 hGF zvU rfl rfl ?_
  intro b4
  refine lx_assign rfl rfl rfl ?_
  refine lx_nil ?_
  refine xs_plain (E := EE [49]) ?_
  refine lx_move rfl rfl rfl ?_
  refine lx_move rfl rfl rfl ?_
  refine lx_callWL gt_low (M := fun _ => False) (fun k h => h.elim) rfl rfl ent49 rfl rfl hGF (Q := fun w1 w2 v => ∃ ev cN, v = .tuple #[.agg cN.toArray, I ev] ∧ DecR w1 w2 (upS m) U0 bs ev cN) (fun w1 hC g1 => (du_calls 34 ent34 n m hm (upS m) (fun b w hw => up_calls b m (by have := (szN_le n).2; omega) w hw) (show 26 ≤ 100 by decide) hsz hfit bs a cap hl2 w1 g1 (hb.grow (hp_below hC))).mono fun e w2 ⟨ev, cN, q1, q2, q3⟩ => ⟨_, q1, grow_mm q2, ev, cN, rfl, q3⟩) (fun w5 w6 v hC hm6 g6 hq => ?_)
  obtain ⟨ev, cN, rfl, hR⟩ := hq
  have hm6 := hm6.grow (fun _ _ h => h)
  have ho5 := (hC.own 4 _ _ _ rfl).1.lt
  have ho := (hC.own 4 _ _ _ rfl).1.grow hm6
  have hwr : w.heap.size ≤ b4 := (hC.own 4 _ _ _ rfl).2.elim id False.elim
  have h5 := (hp_below hC).size
  have hG := (hp_below hC).trans hm6
  clear hC
  have hGF := gt_low.plain g6
  have hro := ho5
  refine lx_ext rfl rfl rfl rfl ?_
  refine lx_ext rfl rfl rfl rfl ?_
  refine lx_stW (vs := cN) gt_low (fun w' h => hGF.g _ _ _ h) (fun w' h => ho.grow (hp_below h)) (Nat.zero_le _) rfl rfl Try.sizeOf40 (hR.l.trans U0_len) hR.o (by rw [Nat.zero_add, hR.l]; exact Nat.le_refl _) rfl (fun w7 w8 hC8 g8 hm8 ho8 => ?_)
  rw [lay_all _ _ hR.l] at ho8
  refine lx_assign rfl rfl rfl ?_
  refine lx_nil ?_
  refine x_ret ?_
  repeat (first | refine kseq_ret ?_ | refine kblk_ret ?_)
  have hw8 : Grow w w8 := hm8.grow0 (hG.trans (hp_below hC8)) (fun k hk => hk ▸ hwr)
  exact kret_ctW rfl rfl rfl Try.isAgg40 Try.sizeOf40 (hR.l.trans U0_len) (fun w9 hw9 => (ho8.grow (hp_below hw9)).range) (fun w9 hw9 => ⟨_, _, rfl, hw8.trans (hp_below hw9), (hR.mm5 (hp_below hC8) hm8 hro h5).grow (hp_below hw9)⟩)
theorem du_fi (n : Int) (m : Nat) (hm : szN n = m) (bs : By) (a : Option Addr) (cap : Nat) (hl2 : bs.length ≤ 100000) (w : World) (hw : Gt w) (hb : BytesAt w a bs) : Calls Try.prog 24 [.slice a bs.length cap, I n].toArray w (fun e w' => ∃ ev cN, e = .returned (.tuple #[.agg cN.toArray, I ev]) ∧ Grow w w' ∧ DecR w w' (fiS m) U0 bs ev cN) := by
  have hsz : off (fiS m) (fiS m).length ≤ 1000000 := by have := (szN_le n).2; rw [off_fi]; unfold sz3 szB; omega
  have hfit : Fit U0.length (fiS m) := by have := (szN_le n).2; rw [U0_len]; exact (F_hd (by decide)).app ((F_hd (by decide)).app ((F_br (by decide)).app ((F_ag (by decide) (by omega)).app (F_nu (by decide)))))
  have hGF : BOk Gt (pl w) := gt_low.plain hw
  refine calls_of_X (G := Gt) Try.func24 rfl rfl (Hp (pl w) []) (hp_refl (pl w) trivial rides_true) (good_hp hGF) ?_
  refine xs_plain (E := EE [49]) ?_
  refine lx_allocr 4 hGF zvU rfl rfl ?_
  intro b4
  refine lx_assign rfl rfl rfl ?_
  refine lx_nil ?_
  refine xs_plain (E := EE [49]) ?_
  refine lx_move rfl rfl rfl ?_
  refine lx_move rfl rfl rfl ?_
  refine lx_callWL gt_low (M := fun _ => False) (fun k h => h.elim) rfl rfl ent49 rfl rfl hGF (Q := fun w1 w2 v => ∃ ev cN, v = .tuple #[.agg cN.toArray, I ev] ∧ DecR w1 w2 (fiS m) U0 bs ev cN) (fun w1 hC g1 => (du_calls 39 ent39 n m hm (fiS m) (fun b w hw => fi_calls b m (by have := (szN_le n).2; omega) w hw) (show 19 ≤ 100 by decide) hsz hfit bs a cap hl2 w1 g1 (hb.grow (hp_below hC))).mono fun e w2 ⟨ev, cN, q1, q2, q3⟩ => ⟨_, q1, grow_mm q2, ev, cN, rfl, q3⟩) (fun w5 w6 v hC hm6 g6 hq => ?_)
  obtain ⟨ev, cN, rfl, hR⟩ := hq
  have hm6 := hm6.grow (fun _ _ h => h)
  have ho5 := (hC.own 4 _ _ _ rfl).1.lt
  have ho := (hC.own 4 _ _ _ rfl).1.grow hm6
  have hwr : w.heap.size ≤ b4 := (hC.own 4 _ _ _ rfl).2.elim id False.elim
  have h5 := (hp_below hC).size
  have hG := (hp_below hC).trans hm6
  clear hC
  have hGF := gt_low.plain g6
  have hro := ho5
  refine lx_ext rfl rfl rfl rfl ?_
  refine lx_ext rfl rfl rfl rfl ?_
  refine lx_stW (vs := cN) gt_low (fun w' h => hGF.g _ _ _ h) (fun w' h => ho.grow (hp_below h)) (Nat.zero_le _) rfl rfl Try.sizeOf40 (hR.l.trans U0_len) hR.o (by rw [Nat.zero_add, hR.l]; exact Nat.le_refl _) rfl (fun w7 w8 hC8 g8 hm8 ho8 => ?_)
  rw [lay_all _ _ hR.l] at ho8
  refine lx_assign rfl rfl rfl ?_
  refine lx_nil ?_
  refine x_ret ?_
  repeat (first | refine kseq_ret ?_ | refine kblk_ret ?_)
  have hw8 : Grow w w8 := hm8.grow0 (hG.trans (hp_below hC8)) (fun k hk => hk ▸ hwr)
  exact kret_ctW rfl rfl rfl Try.isAgg40 Try.sizeOf40 (hR.l.trans U0_len) (fun w9 hw9 => (ho8.grow (hp_below hw9)).range) (fun w9 hw9 => ⟨_, _, rfl, hw8.trans (hp_below hw9), (hR.mm5 (hp_below hC8) hm8 hro h5).grow (hp_below hw9)⟩)
theorem du_op (n : Int) (m : Nat) (hm : szN n = m) (bs : By) (a : Option Addr) (cap : Nat) (hl2 : bs.length ≤ 100000) (w : World) (hw : Gt w) (hb : BytesAt w a bs) : Calls Try.prog 25 [.slice a bs.length cap, I n].toArray w (fun e w' => ∃ ev cN, e = .returned (.tuple #[.agg cN.toArray, I ev]) ∧ Grow w w' ∧ DecR w w' (opS m) U0 bs ev cN) := by
  have hsz : off (opS m) (opS m).length ≤ 1000000 := by have := (szN_le n).2; rw [off_op]; unfold sz4 szB; omega
  have hfit : Fit U0.length (opS m) := by have := (szN_le n).2; rw [U0_len]; exact (F_hd (by decide)).app ((F_ag (by decide) (by omega)).app (F_nu (by decide)))
  have hGF : BOk Gt (pl w) := gt_low.plain hw
  refine calls_of_X (G := Gt) Try.func25 rfl rfl (Hp (pl w) []) (hp_refl (pl w) trivial rides_true) (good_hp hGF) ?_
  refine xs_plain (E := EE [49]) ?_
  refine lx_allocr 4 hGF zvU rfl rfl ?_
  intro b4
  refine lx_assign rfl rfl rfl ?_
  refine lx_nil ?_
  refine xs_plain (E := EE [49]) ?_
  refine lx_move rfl rfl rfl ?_
  refine lx_move rfl rfl rfl ?_
  refine lx_callWL gt_low (M := fun _ => False) (fun k h => h.elim) rfl rfl ent49 rfl rfl hGF (Q := fun w1 w2 v => ∃ ev cN, v = .tuple #[.agg cN.toArray, I ev] ∧ DecR w1 w2 (opS m) U0 bs ev cN) (fun w1 hC g1 => (du_calls 40 ent40 n m hm (opS m) (fun b w hw => op_calls b m (by have := (szN_le n).2; omega) w hw) (show 8 ≤ 100 by decide) hsz hfit bs a cap hl2 w1 g1 (hb.grow (hp_below hC))).mono fun e w2 ⟨ev, cN, q1, q2, q3⟩ => ⟨_, q1, grow_mm q2, ev, cN, rfl, q3⟩) (fun w5 w6 v hC hm6 g6 hq => ?_)
  obtain ⟨ev, cN, rfl, hR⟩ := hq
  have hm6 := hm6.grow (fun _ _ h => h)
  have ho5 := (hC.own 4 _ _ _ rfl).1.lt
  have ho := (hC.own 4 _ _ _ rfl).1.grow hm6
  have hwr : w.heap.size ≤ b4 := (hC.own 4 _ _ _ rfl).2.elim id False.elim
  have h5 := (hp_below hC).size
  have hG := (hp_below hC).trans hm6
  clear hC
  have hGF := gt_low.plain g6
  have hro := ho5
  refine lx_ext rfl rfl rfl rfl ?_
  refine lx_ext rfl rfl rfl rfl ?_
  refine lx_stW (vs := cN) gt_low (fun w' h => hGF.g _ _ _ h) (fun w' h => ho.grow (hp_below h)) (Nat.zero_le _) rfl rfl Try.sizeOf40 (hR.l.trans U0_len) hR.o (by rw [Nat.zero_add, hR.l]; exact Nat.le_refl _) rfl (fun w7 w8 hC8 g8 hm8 ho8 => ?_)
  rw [lay_all _ _ hR.l] at ho8
  refine lx_assign rfl rfl rfl ?_
  refine lx_nil ?_
  refine x_ret ?_
  repeat (first | refine kseq_ret ?_ | refine kblk_ret ?_)
  have hw8 : Grow w w8 := hm8.grow0 (hG.trans (hp_below hC8)) (fun k hk => hk ▸ hwr)
  exact kret_ctW rfl rfl rfl Try.isAgg40 Try.sizeOf40 (hR.l.trans U0_len) (fun w9 hw9 => (ho8.grow (hp_below hw9)).range) (fun w9 hw9 => ⟨_, _, rfl, hw8.trans (hp_below hw9), (hR.mm5 (hp_below hC8) hm8 hro h5).grow (hp_below hw9)⟩)
theorem good_iff {sp : List Sp} {bs : By} {j0 p n : Nat} (hs : sp[j0]? = some ⟨2, p, n⟩) (hu : ∀ j, (sp.map Sp.k)[j]? = some 2 → j = j0) : GoodTo sp bs sp.length ↔ cleanB (sub bs (off sp j0) (szB n)) n = true := by
  refine ⟨fun h => h j0 _ (List.getElem?_eq_some_iff.1 hs).1 hs rfl, fun h j s _ hj hk => ?_⟩
  obtain rfl := hu j (by rw [List.getElem?_map, hj]; show some s.k = some 2; rw [hk])
  rw [hs] at hj
  cases hj
  exact h
theorem uniq {l : List Nat} {j0 : Nat} (h : (List.range l.length).all (fun j => !(l[j]? == some 2) || j == j0) = true) : ∀ j, l[j]? = some 2 → j = j0 := fun j hj => by
  have := List.all_eq_true.1 h j (List.mem_range.2 (List.getElem?_eq_some_iff.1 hj).1)
  rw [hj] at this
  simpa using this
theorem good_up (bs : By) (m : Nat) : GoodTo (upS m) bs (upS m).length ↔ cleanB (sub bs (624 + 48 * m) (szB m)) m = true := by
  have h := good_iff (sp := upS m) (bs := bs) (j0 := 23) (p := 597) (n := m) rfl (uniq (l := (upS m).map Sp.k) (by rfl))
  have e : off (upS m) 23 = 624 + 48 * m := by
    have := off_right (hdS 0 ++ (coS 98 m ++ (brS 147 5 ++ (hdS 307 ++ brS 405 6)))) (agS 597 m ++ [⟨0, 694, 0⟩]) 0
    rw [off_app, off_app, off_app, off_app, off_hd, off_co, off_br5, off_hd, off_br6] at this
    simp only [List.append_assoc] at this
    refine Eq.trans (show _ = _ from this) ?_
    show _ + 0 = _
    omega
  rw [e] at h
  exact h
theorem good_fi (bs : By) (m : Nat) : GoodTo (fiS m) bs (fiS m).length ↔ cleanB (sub bs 416 (szB m)) m = true := by
  have h := good_iff (sp := fiS m) (bs := bs) (j0 := 16) (p := 597) (n := m) rfl (uniq (l := (fiS m).map Sp.k) (by rfl))
  have e : off (fiS m) 16 = 416 := by
    have := off_right (hdS 0 ++ (hdS 307 ++ brS 405 6)) (agS 597 m ++ [⟨0, 694, 0⟩]) 0
    rw [off_app, off_app, off_hd, off_hd, off_br6] at this
    simp only [List.append_assoc] at this
    exact this
  rw [e] at h
  exact h
theorem good_op (bs : By) (m : Nat) : GoodTo (opS m) bs (opS m).length ↔ cleanB (sub bs 112 (szB m)) m = true := by
  have h := good_iff (sp := opS m) (bs := bs) (j0 := 5) (p := 597) (n := m) rfl (uniq (l := (opS m).map Sp.k) (by rfl))
  have e : off (opS m) 5 = 112 := by
    have := off_right (hdS 0) (agS 597 m ++ [⟨0, 694, 0⟩]) 0
    rw [off_hd] at this
    exact this
  rw [e] at h
  exact h
theorem good_bo (bs : By) (m : Nat) : GoodTo (boS m) bs (boS m).length := fun j s _ hj hk => by
  have := uniq (l := (boS m).map Sp.k) (j0 := 12) (by rfl) j (by rw [List.getElem?_map, hj]; show some s.k = some 2; rw [hk])
  subst this
  cases hj
section
variable {p0 p1 p2 p3 p4 p5 p6 q : List Value}
theorem UL.s0 (h : UL p0 p1 p2 p3 p4 p5 p6) (hq : q.length = 98) : UL q p1 p2 p3 p4 p5 p6 := ⟨hq, h.l1, h.l2, h.l3, h.l4, h.l5, h.l6⟩
theorem UL.s1 (h : UL p0 p1 p2 p3 p4 p5 p6) (hq : q.length = 49) : UL p0 q p2 p3 p4 p5 p6 := ⟨h.l0, hq, h.l2, h.l3, h.l4, h.l5, h.l6⟩
theorem UL.s2 (h : UL p0 p1 p2 p3 p4 p5 p6) (hq : q.length = 160) : UL p0 p1 q p3 p4 p5 p6 := ⟨h.l0, h.l1, hq, h.l3, h.l4, h.l5, h.l6⟩
theorem UL.s3 (h : UL p0 p1 p2 p3 p4 p5 p6) (hq : q.length = 98) : UL p0 p1 p2 q p4 p5 p6 := ⟨h.l0, h.l1, h.l2, hq, h.l4, h.l5, h.l6⟩
theorem UL.s4 (h : UL p0 p1 p2 p3 p4 p5 p6) (hq : q.length = 192) : UL p0 p1 p2 p3 q p5 p6 := ⟨h.l0, h.l1, h.l2, h.l3, hq, h.l5, h.l6⟩
theorem UL.s5 (h : UL p0 p1 p2 p3 p4 p5 p6) (hq : q.length = 97) : UL p0 p1 p2 p3 p4 q p6 := ⟨h.l0, h.l1, h.l2, h.l3, h.l4, hq, h.l6⟩
end
theorem hdOf_len {bs : By} {K : Nat} (h : K + 112 ≤ bs.length) : (hdOf (bs.drop K)).cs.length = 98 := Hd.len (hdOf_ok (by rw [List.length_drop]; omega))
theorem cs_len {v : Value} {bs : By} {K n s : Nat} (h : K + (n + s) ≤ bs.length) : (v :: (sub (bs.drop K) n s).map U8).length = 1 + s := by rw [List.length_cons, List.length_map, sub_len (by rw [List.length_drop]; omega)]; omega
theorem rt_len {bs : By} {K s : Nat} (h : K + s ≤ bs.length) : ((sub (bs.drop K) 0 s).map U8).length = s := by rw [List.length_map, sub_len (by rw [List.length_drop]; omega)]
theorem drop_le {bs : By} {K s : Nat} (h : K + s ≤ bs.length) : s ≤ (bs.drop K).length := by rw [List.length_drop]; omega
theorem up_val {bs : By} {m z0 : Nat} {w : World} {VS : List (List Value)} (hl : bs.length = sz2 m) (hV : VS.length = (upS m).length) (h : Vals (upS m) bs z0 w VS) : ∃ ka kc, SlW 29 48 w ka kc m ((keysOf (bs.drop 112) m).flatten.map U8) ∧ (∀ k, Of ka k → z0 ≤ k) ∧ ∃ ba bc, lays ((upS m).zip VS) U0 = UC (hdOf bs).cs (Value.slice ka m kc :: (sub (bs.drop 112) (48 * m) 48).map U8) ((sub bs (160 + 48 * m) (32 * 5)).map U8) (hdOf (bs.drop (320 + 48 * m))).cs ((sub bs (432 + 48 * m) (32 * 6)).map U8) (Value.slice ba (bt (sub bs (624 + 48 * m) (szB m)) m).length bc :: (sub bs (624 + 48 * m + szB m) 96).map U8) [U64 (pn (sub bs (624 + 48 * m + szB m + 96) 8) 8)] ∧ SlV 4 w ba bc ((bt (sub bs (624 + 48 * m) (szB m)) m).map .bool) ∧ ∀ ad, ba = some ad → z0 ≤ ad.block := by
  unfold sz2 at hl
  obtain ⟨V1, R1, e1, l1, v1, h, q1⟩ := seg (K := 0) (K' := 112) hV h (off_hd 0) rfl
  obtain ⟨V2, R2, e2, l2, v2, h, q2⟩ := seg (K' := 160 + 48 * m) l1 h (off_co 98 m) (by omega)
  obtain ⟨V3, R3, e3, l3, v3, h, q3⟩ := seg (K' := 320 + 48 * m) l2 h (off_br5 147) (by omega)
  obtain ⟨V4, R4, e4, l4, v4, h, q4⟩ := seg (K' := 432 + 48 * m) l3 h (off_hd 307) (by omega)
  obtain ⟨V5, R5, e5, l5, v5, h, q5⟩ := seg (K' := 624 + 48 * m) l4 h (off_br6 405) (by omega)
  obtain ⟨V6, R6, e6, l6, v6, h, q6⟩ := seg (K' := 624 + 48 * m + szB m + 96) l5 h (off_ag 597 m) (by omega)
  obtain ⟨ka, kc, c1, c2, c3⟩ := V_co e2 v2
  obtain ⟨ba, bc, a1, a2, a3⟩ := V_ag e6 v6
  refine ⟨ka, kc, c2, c3, ba, bc, ?_, a2, a3⟩
  have u1 := U0_ul.s0 (q := (hdOf (bs.drop 0)).cs) (hdOf_len (by omega))
  have u2 := u1.s1 (q := Value.slice ka m kc :: (sub (bs.drop 112) (48 * m) 48).map U8) (cs_len (by omega))
  have u3 := u2.s2 (q := (sub (bs.drop (160 + 48 * m)) 0 (32 * 5)).map U8) (rt_len (by omega))
  have u4 := u3.s3 (q := (hdOf (bs.drop (320 + 48 * m))).cs) (hdOf_len (by omega))
  have u5 := u4.s4 (q := (sub (bs.drop (432 + 48 * m)) 0 (32 * 6)).map U8) (rt_len (by omega))
  have u6 := u5.s5 (q := Value.slice ba (bt ((bs.drop (624 + 48 * m)).take (szB m)) m).length bc :: (sub (bs.drop (624 + 48 * m)) (szB m) 96).map U8) (cs_len (by omega))
  show lays ((hdS 0 ++ (coS 98 m ++ (brS 147 5 ++ (hdS 307 ++ (brS 405 6 ++ (agS 597 m ++ ([⟨0, 694, 0⟩] : List Sp))))))).zip VS) U0 = _
  rw [q1, q2, q3, q4, q5, q6, V_hd (drop_le (by omega)) e1 v1, c1, V_br 5 (drop_le (by omega)) e3 v3, V_hd (drop_le (by omega)) e4 v4, V_br 6 (drop_le (by omega)) e5 v5, a1, V_nu l6 h, U0, UC_0 U0_ul u1.l0, UC_1 u1 u2.l1, UC_2q u2 u3.l2, UC_3 u3 u4.l3, UC_4q u4 u5.l4, UC_5 u5 u6.l5, UC_6 u6, sub_drop, sub_drop, sub_drop, sub_drop, Nat.add_zero, Nat.add_zero]
  rfl
theorem fi_val {bs : By} {m z0 : Nat} {w : World} {VS : List (List Value)} (hl : bs.length = sz3 m) (hV : VS.length = (fiS m).length) (h : Vals (fiS m) bs z0 w VS) : ∃ ba bc, lays ((fiS m).zip VS) U0 = UC (hdOf bs).cs Co0 ((Zs 160).map U8) (hdOf (bs.drop 112)).cs ((sub bs 224 (32 * 6)).map U8) (Value.slice ba (bt (sub bs 416 (szB m)) m).length bc :: (sub bs (416 + szB m) 96).map U8) [U64 (pn (sub bs (416 + szB m + 96) 8) 8)] ∧ SlV 4 w ba bc ((bt (sub bs 416 (szB m)) m).map .bool) ∧ ∀ ad, ba = some ad → z0 ≤ ad.block := by
  unfold sz3 at hl
  obtain ⟨V1, R1, e1, l1, v1, h, q1⟩ := seg (K := 0) (K' := 112) hV h (off_hd 0) rfl
  obtain ⟨V4, R4, e4, l4, v4, h, q4⟩ := seg (K' := 224) l1 h (off_hd 307) rfl
  obtain ⟨V5, R5, e5, l5, v5, h, q5⟩ := seg (K' := 416) l4 h (off_br6 405) rfl
  obtain ⟨V6, R6, e6, l6, v6, h, q6⟩ := seg (K' := 416 + szB m + 96) l5 h (off_ag 597 m) (by omega)
  obtain ⟨ba, bc, a1, a2, a3⟩ := V_ag e6 v6
  refine ⟨ba, bc, ?_, a2, a3⟩
  have u1 := U0_ul.s0 (q := (hdOf (bs.drop 0)).cs) (hdOf_len (by omega))
  have u4 := u1.s3 (q := (hdOf (bs.drop 112)).cs) (hdOf_len (by omega))
  have u5 := u4.s4 (q := (sub (bs.drop 224) 0 (32 * 6)).map U8) (rt_len (by omega))
  have u6 := u5.s5 (q := Value.slice ba (bt ((bs.drop 416).take (szB m)) m).length bc :: (sub (bs.drop 416) (szB m) 96).map U8) (cs_len (by omega))
  show lays ((hdS 0 ++ (hdS 307 ++ (brS 405 6 ++ (agS 597 m ++ ([⟨0, 694, 0⟩] : List Sp))))).zip VS) U0 = _
  rw [q1, q4, q5, q6, V_hd (drop_le (by omega)) e1 v1, V_hd (drop_le (by omega)) e4 v4, V_br 6 (drop_le (by omega)) e5 v5, a1, V_nu l6 h, U0, UC_0 U0_ul u1.l0, UC_3 u1 u4.l3, UC_4q u4 u5.l4, UC_5 u5 u6.l5, UC_6 u6, sub_drop, sub_drop]
  rfl
theorem op_val {bs : By} {m z0 : Nat} {w : World} {VS : List (List Value)} (hl : bs.length = sz4 m) (hV : VS.length = (opS m).length) (h : Vals (opS m) bs z0 w VS) : ∃ ba bc, lays ((opS m).zip VS) U0 = UC (hdOf bs).cs Co0 ((Zs 160).map U8) Hd0.cs ((Zs 192).map U8) (Value.slice ba (bt (sub bs 112 (szB m)) m).length bc :: (sub bs (112 + szB m) 96).map U8) [U64 (pn (sub bs (112 + szB m + 96) 8) 8)] ∧ SlV 4 w ba bc ((bt (sub bs 112 (szB m)) m).map .bool) ∧ ∀ ad, ba = some ad → z0 ≤ ad.block := by
  unfold sz4 at hl
  obtain ⟨V1, R1, e1, l1, v1, h, q1⟩ := seg (K := 0) (K' := 112) hV h (off_hd 0) rfl
  obtain ⟨V6, R6, e6, l6, v6, h, q6⟩ := seg (K' := 112 + szB m + 96) l1 h (off_ag 597 m) (by omega)
  obtain ⟨ba, bc, a1, a2, a3⟩ := V_ag e6 v6
  refine ⟨ba, bc, ?_, a2, a3⟩
  have u1 := U0_ul.s0 (q := (hdOf (bs.drop 0)).cs) (hdOf_len (by omega))
  have u6 := u1.s5 (q := Value.slice ba (bt ((bs.drop 112).take (szB m)) m).length bc :: (sub (bs.drop 112) (szB m) 96).map U8) (cs_len (by omega))
  show lays ((hdS 0 ++ (agS 597 m ++ ([⟨0, 694, 0⟩] : List Sp))).zip VS) U0 = _
  rw [q1, q6, V_hd (drop_le (by omega)) e1 v1, a1, V_nu l6 h, U0, UC_0 U0_ul u1.l0, UC_5 u1 u6.l5, UC_6 u6, sub_drop]
  rfl
theorem bo_val {bs : By} {m z0 : Nat} {w : World} {VS : List (List Value)} (hl : bs.length = sz1 m) (hV : VS.length = (boS m).length) (h : Vals (boS m) bs z0 w VS) : ∃ ka kc, lays ((boS m).zip VS) Bo0.cs = (boOf bs m ka kc).cs ∧ SlW 29 48 w ka kc m ((keysOf (bs.drop 112) m).flatten.map U8) ∧ ∀ k, Of ka k → z0 ≤ k := by
  unfold sz1 at hl
  obtain ⟨V1, R1, e1, l1, v1, h, q1⟩ := seg (K := 0) (K' := 112) hV h (off_hd 0) rfl
  obtain ⟨V2, R2, e2, l2, v2, h, q2⟩ := seg (K' := 160 + 48 * m) l1 h (off_co 98 m) (by omega)
  obtain ⟨ka, kc, c1, c2, c3⟩ := V_co e2 v2
  refine ⟨ka, kc, ?_, c2, c3⟩
  have x1 : (hdOf (bs.drop 0)).cs.length = 98 := hdOf_len (by omega)
  have x2 : (Value.slice ka m kc :: (sub (bs.drop 112) (48 * m) 48).map U8).length = 49 := cs_len (by omega)
  have x3 : ((sub (bs.drop (160 + 48 * m)) 0 (32 * 5)).map U8).length = 160 := rt_len (by omega)
  show lays ((hdS 0 ++ (coS 98 m ++ brS 147 5)).zip VS) Bo0.cs = _
  rw [q1, q2, V_hd (drop_le (by omega)) e1 v1, c1, V_br 5 (drop_le (by omega)) l2 h, lay_to (by rw [x2]), lay_to (by rw [x1]), lay_all _ _ (by rw [List.length_append, List.length_append, x1, x2, x3, Bo0_len]), boOf_cs, sub_drop (o := 160 + 48 * m), Nat.add_zero]
  rfl
/-- What is asked of package types holds of the landed code. -/
theorem tp : TypesP where
  sizes := tsz_calls
  encU := fun u hk _ hn w hw hks hbs => up_enc u hk hn w hw hks hbs
  encF := fun u hk _ hn w hw _ hbs => fi_enc u hk hn w hw hbs
  encO := fun u hk _ hn w hw _ hbs => op_enc u hk hn w hw hbs
  encB := fun b hk hn w hw hks => bo_enc b hk hn w hw hks
  decB := fun n m hm bs a cap hc hl w hw hb _ => (db_calls n m hm bs a cap hl w hw hb).mono fun e w' ⟨ev, cN, hE, hg, hR⟩ => ⟨hg, fun h1 => by
      obtain ⟨rfl, VS, x1, x2, x3⟩ := hR.g (h1.trans (off_bo m).symm) (good_bo bs m)
      obtain ⟨ka, kc, y1, y2, y3⟩ := bo_val h1 x1 x3
      exact ⟨ka, kc, by rw [x2, y1] at hE; exact hE, y2, y3⟩, fun h1 => by
      obtain ⟨rfl, rfl⟩ := hR.n (fun h => h1 (h.trans (off_bo m)))
      exact hE⟩
  decU := fun n m hm bs a cap hc hl w hw hb _ => (du_up n m hm bs a cap hl w hw hb).mono fun e w' ⟨ev, cN, hE, hg, hR⟩ => ⟨hg, fun h1 h2 => by
      obtain ⟨rfl, VS, x1, x2, x3⟩ := hR.g (h1.trans (off_up m).symm) ((good_up bs m).2 h2)
      obtain ⟨ka, kc, y1, y2, ba, bc, y3, y4, y5⟩ := up_val h1 x1 x3; exact ⟨ka, kc, y1, y2, ba, bc, by rw [x2, y3] at hE; exact hE, y4, y5⟩, fun h1 h2 => by
      obtain ⟨rfl, rfl⟩ := hR.b (h1.trans (off_up m).symm) (fun h => by rw [(good_up bs m).1 h] at h2; cases h2)
      exact hE, fun h1 => by
      obtain ⟨rfl, rfl⟩ := hR.n (fun h => h1 (h.trans (off_up m)))
      exact hE⟩
  decF := fun n m hm bs a cap hc hl w hw hb _ => (du_fi n m hm bs a cap hl w hw hb).mono fun e w' ⟨ev, cN, hE, hg, hR⟩ => ⟨hg, fun h1 h2 => by
      obtain ⟨rfl, VS, x1, x2, x3⟩ := hR.g (h1.trans (off_fi m).symm) ((good_fi bs m).2 h2)
      obtain ⟨ba, bc, y3, y4, y5⟩ := fi_val h1 x1 x3; exact ⟨ba, bc, by rw [x2, y3] at hE; exact hE, y4, y5⟩, fun h1 h2 => by
      obtain ⟨rfl, rfl⟩ := hR.b (h1.trans (off_fi m).symm) (fun h => by rw [(good_fi bs m).1 h] at h2; cases h2)
      exact hE, fun h1 => by
      obtain ⟨rfl, rfl⟩ := hR.n (fun h => h1 (h.trans (off_fi m)))
      exact hE⟩
  decO := fun n m hm bs a cap hc hl w hw hb _ => (du_op n m hm bs a cap hl w hw hb).mono fun e w' ⟨ev, cN, hE, hg, hR⟩ => ⟨hg, fun h1 h2 => by
      obtain ⟨rfl, VS, x1, x2, x3⟩ := hR.g (h1.trans (off_op m).symm) ((good_op bs m).2 h2)
      obtain ⟨ba, bc, y3, y4, y5⟩ := op_val h1 x1 x3; exact ⟨ba, bc, by rw [x2, y3] at hE; exact hE, y4, y5⟩, fun h1 h2 => by
      obtain ⟨rfl, rfl⟩ := hR.b (h1.trans (off_op m).symm) (fun h => by rw [(good_op bs m).1 h] at h2; cases h2)
      exact hE, fun h1 => by
      obtain ⟨rfl, rfl⟩ := hR.n (fun h => h1 (h.trans (off_op m)))
      exact hE⟩
end Go.Proofs.Ytlaanjcnfindnaa
