/-
  The program's functions of types: the decoders; TypesP.
-/
import Derived.Test.YtlaanjcnfindnaaUK
namespace Go.Proofs.Ytlaanjcnfindnaa
open Go.RowKit
set_option maxRecDepth 100000
set_option maxHeartbeats 1000000

theorem lay_one' {vs : List Value} : ∀ {o : Nat} {c : List Value}, vs.all (·.oneCell') = true → c.all (·.oneCell') = true → (lay o vs c).all (·.oneCell') = true := by
  induction vs with
  | nil => intro o c _ h; exact h
  | cons v r ih =>
    intro o c h1 h2
    rw [List.all_cons, Bool.and_eq_true] at h1
    refine ih h1.2 (List.all_eq_true.2 fun x hx => ?_)
    rcases List.mem_or_eq_of_mem_set hx with h | h
    · exact List.all_eq_true.1 h2 x h
    · rw [h]; exact h1.1
theorem lays_one : ∀ (l : List (Sp × List Value)) (c : List Value), (∀ p ∈ l, p.2.all (·.oneCell') = true) → c.all (·.oneCell') = true → (lays l c).all (·.oneCell') = true
  | [], _, _, h => h
  | p :: r, _, h1, h => lays_one r _ (fun q hq => h1 q (List.mem_cons_of_mem _ hq)) (lay_one' (h1 p (List.mem_cons_self ..)) h)
theorem Vals.one {sp : List Sp} {bs : By} {z0 : Nat} {w : World} {VS : List (List Value)} (h : Vals sp bs z0 w VS) : ∀ p ∈ sp.zip VS, p.2.all (·.oneCell') = true := fun p hp => by
  obtain ⟨j, hj⟩ := List.mem_iff_getElem?.1 hp
  obtain ⟨h1, h2⟩ := List.getElem?_zip_eq_some.1 hj
  exact (h j p.1 p.2 h1 h2).2.one
/-- What a decoder answers. -/
structure DecR (w w' : World) (sp : List Sp) (c0 : List Value) (bs : By) (ev : Int) (cN : List Value) : Prop where
  l : cN.length = c0.length
  o : cN.all (·.oneCell') = true
  g : bs.length = off sp sp.length → GoodTo sp bs sp.length → ev = 0 ∧ ∃ VS, VS.length = sp.length ∧ cN = lays (sp.zip VS) c0 ∧ Vals sp bs w.heap.size w' VS
  b : bs.length = off sp sp.length → ¬ GoodTo sp bs sp.length → ev = 171 ∧ cN = c0
  n : bs.length ≠ off sp sp.length → ev = 170 ∧ cN = c0
theorem DecR.grow {w w' w2 : World} {sp : List Sp} {c0 : List Value} {bs : By} {ev : Int} {cN : List Value} (h : DecR w w' sp c0 bs ev cN) (hg : Grow w' w2) : DecR w w2 sp c0 bs ev cN :=
  ⟨h.l, h.o, fun h1 h2 => ⟨(h.g h1 h2).1, by obtain ⟨VS, x1, x2, x3⟩ := (h.g h1 h2).2; exact ⟨VS, x1, x2, x3.grow hg⟩⟩, h.b, h.n⟩
theorem DecR.low {w0 w w' : World} {sp : List Sp} {c0 : List Value} {bs : By} {ev : Int} {cN : List Value} (h : DecR w w' sp c0 bs ev cN) (hg : w0.heap.size ≤ w.heap.size) : DecR w0 w' sp c0 bs ev cN :=
  ⟨h.l, h.o, fun h1 h2 => ⟨(h.g h1 h2).1, by obtain ⟨VS, x1, x2, x3⟩ := (h.g h1 h2).2; exact ⟨VS, x1, x2, x3.low hg⟩⟩, h.b, h.n⟩
theorem bad_R {w w' : World} {sp : List Sp} {c0 : List Value} {bs : By} (h0 : c0.all (·.oneCell') = true) (hl : bs.length ≠ off sp sp.length) : DecR w w' sp c0 bs 170 c0 := ⟨rfl, h0, fun h => absurd h hl, fun h => absurd h hl, fun _ => ⟨rfl, rfl⟩⟩
theorem ng_R {w w' : World} {sp : List Sp} {c0 : List Value} {bs : By} (h0 : c0.all (·.oneCell') = true) (hl : bs.length = off sp sp.length) (hg : ¬ GoodTo sp bs sp.length) : DecR w w' sp c0 bs 171 c0 := ⟨rfl, h0, fun _ h => absurd h hg, fun _ _ => ⟨rfl, rfl⟩, fun h => absurd hl h⟩
theorem gd_R {w w' : World} {sp : List Sp} {c0 : List Value} {bs : By} {VS : List (List Value)} (h0 : c0.all (·.oneCell') = true) (hl : bs.length = off sp sp.length) (hg : GoodTo sp bs sp.length) (hV : VS.length = sp.length) (h : Vals sp bs w.heap.size w' VS) : DecR w w' sp c0 bs 0 (lays (sp.zip VS) c0) :=
  ⟨lays_len .., lays_one _ _ h.one h0, fun _ _ => ⟨rfl, VS, hV, rfl, h⟩, fun _ h => absurd hg h, fun h => absurd hl h⟩
theorem U0_one : U0.all (·.oneCell') = true := by decide +kernel
theorem Bo0_one : Bo0.cs.all (·.oneCell') = true := by decide +kernel
/-- What a container's function makes. -/
def Mk (F : Nat) (sp : List Sp) (n : Nat) : Prop := ∀ (b : Nat) (w : World), Gt w → Calls Try.prog F [pt b 0, I (n : Int)].toArray w (fun e w' => ∃ v, e = .returned v ∧ Grow w w' ∧ LsX w w' b sp v)
theorem du_bad (F : Nat) (hFe : Enters Try.prog F) (n : Int) (m : Nat) (hm : szN n = m) (sp : List Sp) (hF : Mk F sp m) (hsl : sp.length ≤ 100) (hsz : off sp sp.length ≤ 1000000) (bs : By) (a : Option Addr) (cap : Nat) (hlen : bs.length ≠ off sp sp.length) (w : World) (hw : Gt w) : Calls Try.prog 49 [.slice a bs.length cap, I n, .func (.func F) #[] #[]].toArray w (fun e w' => ∃ ev cN, e = .returned (.tuple #[.agg cN.toArray, I ev]) ∧ Grow w w' ∧ DecR w w' sp U0 bs ev cN) := by
  have hGF : BOk Gt (pl w) := gt_low.plain hw
  refine calls_of_X (G := Gt) Try.func49 rfl rfl (Hp (pl w) []) (hp_refl (pl w) trivial rides_true) (good_hp hGF) ?_
  refine xs_plain (E := EE []) ?_
  refine lx_allocr 6 hGF zvU rfl rfl ?_
  intro b6
  refine lx_assign rfl rfl rfl ?_
  refine lx_nil ?_
  refine xs_plain (E := EE []) ?_
  refine lx_allocr 8 hGF zvU rfl rfl ?_
  intro b8
  refine lx_nil ?_
  refine x_seq ?_
  refine x_now0 gt_low (fun w3 hC g3 => ?_)
  have ho6 := (hC.own 6 _ _ _ rfl).1
  have ho8 := (hC.own 8 _ _ _ rfl).1
  have hwo : w.heap.size ≤ b8 := (hC.own 8 _ _ _ rfl).2.elim id False.elim
  have hwr : w.heap.size ≤ b6 := (hC.own 6 _ _ _ rfl).2.elim id False.elim
  have hne68 : ¬ b6 = b8 := fun h => absurd (hC.inj 6 8 b6 _ _ _ _ rfl (by rw [h]; rfl)) (by decide)
  have hG := hp_below hC
  clear hC
  have hGF := gt_low.plain g3
  refine xs_plain (E := EE []) ?_
  refine lx_move rfl rfl rfl ?_
  refine lx_move rfl rfl rfl ?_
  refine lx_move rfl rfl rfl ?_
  refine lx_callC rfl rfl ent43 (fun w1 _ hG => bou_calls n w1 hG) rfl rfl ?_
  rw [hm]
  refine lx_callFW (cl := []) gt_low (M := fun _ => False) (fun k h => h.elim) rfl rfl hFe rfl rfl rfl hGF (Q := fun w1 w2 v => LsX w1 w2 b8 sp v) (fun w1 h1 g1 => (hF b8 w1 g1).mono fun e w2 ⟨v, q1, q2, q3⟩ => ⟨v, q1, grow_mm q2, q3⟩) (fun w3b w4 v hg4 hm4 g4 hq => ?_)
  obtain ⟨L, bl, c, rfl, hl, hs, hc, hbn, hx⟩ := hq
  have hm4 := hm4.grow (fun _ _ h => h)
  have hr4 := hg4.trans hm4
  have hGF := gt_low.plain g4
  have hot3 : b8 < w3b.heap.size := Nat.lt_of_lt_of_le ho8.lt hg4.size
  have ho6 := ho6.grow hr4
  have ho8 := ho8.grow hr4
  have hLn : L.length = sp.length := lsx_n hs
  subst hs
  have hbne : ¬ bl = b8 := by omega
  refine lx_callC rfl rfl ent42 (fun w5 hC hG => dcd_bad bs a cap L bl c (by omega) (by rw [hLn]; exact hsz) (by rw [hLn]; exact hlen) w5 hG (rg_g hc (hp_below hC))) rfl rfl ?_
  refine lx_assign rfl rfl rfl ?_
  refine lx_nil ?_
  refine xs_plain (E := EE []) ?_
  refine lx_move rfl rfl rfl ?_
  refine lx_binB true rfl rfl (fun _ => rfl) (fun _ => bin_neq_i _ _ _) (by decide) rfl rfl ?_
  refine lx_nil ?_
  refine x_true rfl ?_
  refine xs_plain (E := EE []) ?_
  refine lx_build (ps := []) (vs := []) (v := .agg U0.toArray) rfl (fun w => bldU0 w) rfl rfl ?_
  refine lx_move rfl rfl rfl ?_
  refine lx_stW (vs := U0) gt_low (fun w' h => hGF.g _ _ _ h) (fun w' h => ho6.grow (hp_below h)) (Nat.zero_le _) rfl rfl Try.sizeOf40 (U0_len) (U0_one) (by rw [show 0 + U0.length = U0.length from Nat.zero_add _]; exact Nat.le_refl _) rfl (fun w7 w8 hC8 g8 hm8 ho8 => ?_)
  rw [lay_all _ _ (rfl)] at ho8
  refine lx_assign rfl rfl rfl ?_
  refine lx_nil ?_
  refine x_ret ?_
  repeat (first | refine kseq_ret ?_ | refine kblk_ret ?_)
  have hw8 : Grow w w8 := hm8.grow0 ((hG.trans hr4).trans (hp_below hC8)) (fun k hk => hk ▸ hwr)
  exact kret_ctW rfl rfl rfl Try.isAgg40 Try.sizeOf40 (U0_len) (fun w9 hw9 => (ho8.grow (hp_below hw9)).range) (fun w9 hw9 => ⟨_, _, rfl, hw8.trans (hp_below hw9), bad_R U0_one hlen⟩)
theorem du_ok (F : Nat) (hFe : Enters Try.prog F) (n : Int) (m : Nat) (hm : szN n = m) (sp : List Sp) (hF : Mk F sp m) (hsl : sp.length ≤ 100) (hfit : Fit U0.length sp) (bs : By) (a : Option Addr) (cap : Nat) (hl2 : bs.length ≤ 100000) (hlen : bs.length = off sp sp.length) (w : World) (hw : Gt w) (hb : BytesAt w a bs) : Calls Try.prog 49 [.slice a bs.length cap, I n, .func (.func F) #[] #[]].toArray w (fun e w' => ∃ ev cN, e = .returned (.tuple #[.agg cN.toArray, I ev]) ∧ Grow w w' ∧ DecR w w' sp U0 bs ev cN) := by
  have hGF : BOk Gt (pl w) := gt_low.plain hw
  refine calls_of_X (G := Gt) Try.func49 rfl rfl (Hp (pl w) []) (hp_refl (pl w) trivial rides_true) (good_hp hGF) ?_
  refine xs_plain (E := EE [42]) ?_
  refine lx_allocr 6 hGF zvU rfl rfl ?_
  intro b6
  refine lx_assign rfl rfl rfl ?_
  refine lx_nil ?_
  refine xs_plain (E := EE [42]) ?_
  refine lx_allocr 8 hGF zvU rfl rfl ?_
  intro b8
  refine lx_nil ?_
  refine x_seq ?_
  refine x_now0 gt_low (fun w3 hC g3 => ?_)
  have ho6 := (hC.own 6 _ _ _ rfl).1
  have ho8 := (hC.own 8 _ _ _ rfl).1
  have hwo : w.heap.size ≤ b8 := (hC.own 8 _ _ _ rfl).2.elim id False.elim
  have hwr : w.heap.size ≤ b6 := (hC.own 6 _ _ _ rfl).2.elim id False.elim
  have hne68 : ¬ b6 = b8 := fun h => absurd (hC.inj 6 8 b6 _ _ _ _ rfl (by rw [h]; rfl)) (by decide)
  have hG := hp_below hC
  clear hC
  have hGF := gt_low.plain g3
  refine xs_plain (E := EE [42]) ?_
  refine lx_move rfl rfl rfl ?_
  refine lx_move rfl rfl rfl ?_
  refine lx_move rfl rfl rfl ?_
  refine lx_callC rfl rfl ent43 (fun w1 _ hG => bou_calls n w1 hG) rfl rfl ?_
  rw [hm]
  refine lx_callFW (cl := []) gt_low (M := fun _ => False) (fun k h => h.elim) rfl rfl hFe rfl rfl rfl hGF (Q := fun w1 w2 v => LsX w1 w2 b8 sp v) (fun w1 h1 g1 => (hF b8 w1 g1).mono fun e w2 ⟨v, q1, q2, q3⟩ => ⟨v, q1, grow_mm q2, q3⟩) (fun w3b w4 v hg4 hm4 g4 hq => ?_)
  obtain ⟨L, bl, c, rfl, hl, hs, hc, hbn, hx⟩ := hq
  have hm4 := hm4.grow (fun _ _ h => h)
  have hr4 := hg4.trans hm4
  have hGF := gt_low.plain g4
  have hot3 : b8 < w3b.heap.size := Nat.lt_of_lt_of_le ho8.lt hg4.size
  have ho6 := ho6.grow hr4
  have ho8 := ho8.grow hr4
  have hLn : L.length = sp.length := lsx_n hs
  subst hs
  have hbne : ¬ bl = b8 := by omega
  refine lx_callW gt_low (M := fun k => k = b8) (fun k _ => Nat.zero_le k) rfl rfl ent42 rfl rfl hGF (Q := fun w5 w6 v => ∃ ev, v = I ev ∧ ∃ cN, OwnB w6 b8 cN 40 ∧ cN.length = U0.length ∧ (GoodTo (L.map Fd.s) bs L.length → ev = 0 ∧ ∃ VS, VS.length = L.length ∧ cN = lays ((L.map Fd.s).zip VS) U0 ∧ Vals (L.map Fd.s) bs w5.heap.size w6 VS) ∧ (¬ GoodTo (L.map Fd.s) bs L.length → ev = 171)) (fun w5 h5 g5 => (dcd_ok bs a cap L bl c (by omega) (by rw [hLn]; exact hlen) hl2 b8 40 U0 w5 g5 (rg_g hc h5) (hb.grow (((hG.trans hr4)).trans h5)) hbne (ho8.grow h5) (fun f hf => ⟨(hx f hf).1.grow h5, by have := (hx f hf).2.1; omega, by have := (hx f hf).2.2; omega⟩) (fun f hf => (hfit f.s (List.mem_map.2 ⟨f, hf, rfl⟩)).1) (fun f hf => (hfit f.s (List.mem_map.2 ⟨f, hf, rfl⟩)).2)).mono fun e w6 ⟨ev, q1, q2, cN, q3⟩ => ⟨_, q1, q2, ev, rfl, cN, q3⟩) (fun w5 w6 v hg6 hm6 g6 hq => ?_)
  obtain ⟨ev, rfl, cN, hoN, hcl, hgd, hbd⟩ := hq
  have hrlt : b6 < w5.heap.size := Nat.lt_of_lt_of_le ho6.lt hg6.size
  have ho6 := hm6.own (ho6.grow hg6) hne68
  have hGF := gt_low.plain g6
  have hGw : Grow w w6 := hm6.grow0 ((hG.trans hr4).trans hg6) (fun k hk => hk ▸ hwo)
  rw [hLn] at hgd hbd
  refine lx_assign rfl rfl rfl ?_
  refine lx_nil ?_
  refine xs_plain (E := EE [42]) ?_
  refine lx_move rfl rfl rfl ?_
  by_cases hgo : GoodTo (L.map Fd.s) bs (L.map Fd.s).length
  · skip
    obtain ⟨rfl, VS, hV, rfl, hVs⟩ := hgd hgo
    refine lx_binB false rfl rfl (fun _ => rfl) (fun _ => bin_neq_i _ _ _) (by decide) rfl rfl ?_
    refine lx_nil ?_
    refine x_false rfl ?_
    refine x_skip ?_
    refine xs_plain (E := EE [42]) ?_
    refine lx_loadr (cs := lays (((L.map Fd.s)).zip VS) U0) rfl Try.isAgg40 Try.sizeOf40 (by rw [lays_len]; exact U0_len) (fun w' h => (hoN.grow (hp_below h)).range) rfl rfl ?_
    refine lx_stW (vs := lays ((L.map Fd.s).zip VS) U0) gt_low (fun w' h => hGF.g _ _ _ h) (fun w' h => ho6.grow (hp_below h)) (Nat.zero_le _) rfl rfl Try.sizeOf40 (by rw [lays_len]; exact U0_len) (lays_one _ _ hVs.one U0_one) (by rw [lays_len, Nat.zero_add]; exact Nat.le_refl _) rfl (fun w7 w8 hC8 g8 hm8 ho8 => ?_)
    rw [lay_all _ _ (lays_len ..)] at ho8
    refine lx_assign rfl rfl rfl ?_
    refine lx_nil ?_
    refine x_ret ?_
    repeat (first | refine kseq_ret ?_ | refine kblk_ret ?_)
    have hw8 : Grow w w8 := hm8.grow0 (hGw.trans (hp_below hC8)) (fun k hk => hk ▸ hwr)
    have hv8 := ((hVs.grow (hp_below hC8)).mm hm8 (fun k hk => hk ▸ hrlt)).low ((hG.trans hr4).trans hg6).size
    exact kret_ctW rfl rfl rfl Try.isAgg40 Try.sizeOf40 ((lays_len _ _).trans U0_len) (fun w9 hw9 => (ho8.grow (hp_below hw9)).range) (fun w9 hw9 => ⟨_, _, rfl, hw8.trans (hp_below hw9), (gd_R U0_one hlen hgo hV hv8).grow (hp_below hw9)⟩)
  · skip
    obtain rfl := hbd hgo
    refine lx_binB true rfl rfl (fun _ => rfl) (fun _ => bin_neq_i _ _ _) (by decide) rfl rfl ?_
    refine lx_nil ?_
    refine x_true rfl ?_
    refine xs_plain (E := EE [42]) ?_
    refine lx_build (ps := []) (vs := []) (v := .agg U0.toArray) rfl (fun w => bldU0 w) rfl rfl ?_
    refine lx_move rfl rfl rfl ?_
    refine lx_stW (vs := U0) gt_low (fun w' h => hGF.g _ _ _ h) (fun w' h => ho6.grow (hp_below h)) (Nat.zero_le _) rfl rfl Try.sizeOf40 (U0_len) (U0_one) (by rw [show 0 + U0.length = U0.length from Nat.zero_add _]; exact Nat.le_refl _) rfl (fun w7 w8 hC8 g8 hm8 ho8 => ?_)
    rw [lay_all _ _ (rfl)] at ho8
    refine lx_assign rfl rfl rfl ?_
    refine lx_nil ?_
    refine x_ret ?_
    repeat (first | refine kseq_ret ?_ | refine kblk_ret ?_)
    have hw8 : Grow w w8 := hm8.grow0 (hGw.trans (hp_below hC8)) (fun k hk => hk ▸ hwr)
    exact kret_ctW rfl rfl rfl Try.isAgg40 Try.sizeOf40 (U0_len) (fun w9 hw9 => (ho8.grow (hp_below hw9)).range) (fun w9 hw9 => ⟨_, _, rfl, hw8.trans (hp_below hw9), ng_R U0_one hlen hgo⟩)
theorem db_bad (n : Int) (m : Nat) (hm : szN n = m) (sp : List Sp) (hF : Mk 41 sp m) (hsl : sp.length ≤ 100) (hsz : off sp sp.length ≤ 1000000) (bs : By) (a : Option Addr) (cap : Nat) (hlen : bs.length ≠ off sp sp.length) (w : World) (hw : Gt w) : Calls Try.prog 21 [.slice a bs.length cap, I n].toArray w (fun e w' => ∃ ev cN, e = .returned (.tuple #[.agg cN.toArray, I ev]) ∧ Grow w w' ∧ DecR w w' sp Bo0.cs bs ev cN) := by
  have hGF : BOk Gt (pl w) := gt_low.plain hw
  refine calls_of_X (G := Gt) Try.func21 rfl rfl (Hp (pl w) []) (hp_refl (pl w) trivial rides_true) (good_hp hGF) ?_
  refine xs_plain (E := EE [41]) ?_
  refine lx_allocr 4 hGF zvBo rfl rfl ?_
  intro b4
  refine lx_assign rfl rfl rfl ?_
  refine lx_nil ?_
  refine xs_plain (E := EE [41]) ?_
  refine lx_allocr 6 hGF zvBo rfl rfl ?_
  intro b6
  refine lx_nil ?_
  refine x_seq ?_
  refine x_now0 gt_low (fun w3 hC g3 => ?_)
  have ho4 := (hC.own 4 _ _ _ rfl).1
  have ho6 := (hC.own 6 _ _ _ rfl).1
  have hwo : w.heap.size ≤ b6 := (hC.own 6 _ _ _ rfl).2.elim id False.elim
  have hwr : w.heap.size ≤ b4 := (hC.own 4 _ _ _ rfl).2.elim id False.elim
  have hne68 : ¬ b4 = b6 := fun h => absurd (hC.inj 4 6 b4 _ _ _ _ rfl (by rw [h]; rfl)) (by decide)
  have hG := hp_below hC
  clear hC
  have hGF := gt_low.plain g3
  refine xs_plain (E := EE [41]) ?_
  refine lx_move rfl rfl rfl ?_
  refine lx_move rfl rfl rfl ?_
  refine lx_callC rfl rfl ent43 (fun w1 _ hG => bou_calls n w1 hG) rfl rfl ?_
  rw [hm]
  refine lx_callW gt_low (M := fun _ => False) (fun k h => h.elim) rfl rfl ent41 rfl rfl hGF (Q := fun w1 w2 v => LsX w1 w2 b6 sp v) (fun w1 h1 g1 => (hF b6 w1 g1).mono fun e w2 ⟨v, q1, q2, q3⟩ => ⟨v, q1, grow_mm q2, q3⟩) (fun w3b w4 v hg4 hm4 g4 hq => ?_)
  obtain ⟨L, bl, c, rfl, hl, hs, hc, hbn, hx⟩ := hq
  have hm4 := hm4.grow (fun _ _ h => h)
  have hr4 := hg4.trans hm4
  have hGF := gt_low.plain g4
  have hot3 : b6 < w3b.heap.size := Nat.lt_of_lt_of_le ho6.lt hg4.size
  have ho4 := ho4.grow hr4
  have ho6 := ho6.grow hr4
  have hLn : L.length = sp.length := lsx_n hs
  subst hs
  have hbne : ¬ bl = b6 := by omega
  refine lx_callC rfl rfl ent42 (fun w5 hC hG => dcd_bad bs a cap L bl c (by omega) (by rw [hLn]; exact hsz) (by rw [hLn]; exact hlen) w5 hG (rg_g hc (hp_below hC))) rfl rfl ?_
  refine lx_assign rfl rfl rfl ?_
  refine lx_nil ?_
  refine xs_plain (E := EE [41]) ?_
  refine lx_move rfl rfl rfl ?_
  refine lx_binB true rfl rfl (fun _ => rfl) (fun _ => bin_neq_i _ _ _) (by decide) rfl rfl ?_
  refine lx_nil ?_
  refine x_true rfl ?_
  refine xs_plain (E := EE [41]) ?_
  refine lx_build (ps := []) (vs := []) (v := .agg Bo0.cs.toArray) rfl (fun w => bldBo0 w) rfl rfl ?_
  refine lx_move rfl rfl rfl ?_
  refine lx_stW (vs := Bo0.cs) gt_low (fun w' h => hGF.g _ _ _ h) (fun w' h => ho4.grow (hp_below h)) (Nat.zero_le _) rfl rfl Try.sizeOf42 (Bo0_len) (Bo0_one) (by rw [show 0 + Bo0.cs.length = Bo0.cs.length from Nat.zero_add _]; exact Nat.le_refl _) rfl (fun w7 w8 hC8 g8 hm8 ho8 => ?_)
  rw [lay_all _ _ (rfl)] at ho8
  refine lx_assign rfl rfl rfl ?_
  refine lx_nil ?_
  refine x_ret ?_
  repeat (first | refine kseq_ret ?_ | refine kblk_ret ?_)
  have hw8 : Grow w w8 := hm8.grow0 ((hG.trans hr4).trans (hp_below hC8)) (fun k hk => hk ▸ hwr)
  exact kret_ctW rfl rfl rfl Try.isAgg42 Try.sizeOf42 (Bo0_len) (fun w9 hw9 => (ho8.grow (hp_below hw9)).range) (fun w9 hw9 => ⟨_, _, rfl, hw8.trans (hp_below hw9), bad_R Bo0_one hlen⟩)
theorem db_ok (n : Int) (m : Nat) (hm : szN n = m) (sp : List Sp) (hF : Mk 41 sp m) (hsl : sp.length ≤ 100) (hfit : Fit Bo0.cs.length sp) (bs : By) (a : Option Addr) (cap : Nat) (hl2 : bs.length ≤ 100000) (hlen : bs.length = off sp sp.length) (w : World) (hw : Gt w) (hb : BytesAt w a bs) : Calls Try.prog 21 [.slice a bs.length cap, I n].toArray w (fun e w' => ∃ ev cN, e = .returned (.tuple #[.agg cN.toArray, I ev]) ∧ Grow w w' ∧ DecR w w' sp Bo0.cs bs ev cN) := by
  have hGF : BOk Gt (pl w) := gt_low.plain hw
  refine calls_of_X (G := Gt) Try.func21 rfl rfl (Hp (pl w) []) (hp_refl (pl w) trivial rides_true) (good_hp hGF) ?_
  refine xs_plain (E := EE [42, 41]) ?_
  refine lx_allocr 4 hGF zvBo rfl rfl ?_
  intro b4
  refine lx_assign rfl rfl rfl ?_
  refine lx_nil ?_
  refine xs_plain (E := EE [42, 41]) ?_
  refine lx_allocr 6 hGF zvBo rfl rfl ?_
  intro b6
  refine lx_nil ?_
  refine x_seq ?_
  refine x_now0 gt_low (fun w3 hC g3 => ?_)
  have ho4 := (hC.own 4 _ _ _ rfl).1
  have ho6 := (hC.own 6 _ _ _ rfl).1
  have hwo : w.heap.size ≤ b6 := (hC.own 6 _ _ _ rfl).2.elim id False.elim
  have hwr : w.heap.size ≤ b4 := (hC.own 4 _ _ _ rfl).2.elim id False.elim
  have hne68 : ¬ b4 = b6 := fun h => absurd (hC.inj 4 6 b4 _ _ _ _ rfl (by rw [h]; rfl)) (by decide)
  have hG := hp_below hC
  clear hC
  have hGF := gt_low.plain g3
  refine xs_plain (E := EE [42, 41]) ?_
  refine lx_move rfl rfl rfl ?_
  refine lx_move rfl rfl rfl ?_
  refine lx_callC rfl rfl ent43 (fun w1 _ hG => bou_calls n w1 hG) rfl rfl ?_
  rw [hm]
  refine lx_callW gt_low (M := fun _ => False) (fun k h => h.elim) rfl rfl ent41 rfl rfl hGF (Q := fun w1 w2 v => LsX w1 w2 b6 sp v) (fun w1 h1 g1 => (hF b6 w1 g1).mono fun e w2 ⟨v, q1, q2, q3⟩ => ⟨v, q1, grow_mm q2, q3⟩) (fun w3b w4 v hg4 hm4 g4 hq => ?_)
  obtain ⟨L, bl, c, rfl, hl, hs, hc, hbn, hx⟩ := hq
  have hm4 := hm4.grow (fun _ _ h => h)
  have hr4 := hg4.trans hm4
  have hGF := gt_low.plain g4
  have hot3 : b6 < w3b.heap.size := Nat.lt_of_lt_of_le ho6.lt hg4.size
  have ho4 := ho4.grow hr4
  have ho6 := ho6.grow hr4
  have hLn : L.length = sp.length := lsx_n hs
  subst hs
  have hbne : ¬ bl = b6 := by omega
  refine lx_callW gt_low (M := fun k => k = b6) (fun k _ => Nat.zero_le k) rfl rfl ent42 rfl rfl hGF (Q := fun w5 w6 v => ∃ ev, v = I ev ∧ ∃ cN, OwnB w6 b6 cN 42 ∧ cN.length = Bo0.cs.length ∧ (GoodTo (L.map Fd.s) bs L.length → ev = 0 ∧ ∃ VS, VS.length = L.length ∧ cN = lays ((L.map Fd.s).zip VS) Bo0.cs ∧ Vals (L.map Fd.s) bs w5.heap.size w6 VS) ∧ (¬ GoodTo (L.map Fd.s) bs L.length → ev = 171)) (fun w5 h5 g5 => (dcd_ok bs a cap L bl c (by omega) (by rw [hLn]; exact hlen) hl2 b6 42 Bo0.cs w5 g5 (rg_g hc h5) (hb.grow (((hG.trans hr4)).trans h5)) hbne (ho6.grow h5) (fun f hf => ⟨(hx f hf).1.grow h5, by have := (hx f hf).2.1; omega, by have := (hx f hf).2.2; omega⟩) (fun f hf => (hfit f.s (List.mem_map.2 ⟨f, hf, rfl⟩)).1) (fun f hf => (hfit f.s (List.mem_map.2 ⟨f, hf, rfl⟩)).2)).mono fun e w6 ⟨ev, q1, q2, cN, q3⟩ => ⟨_, q1, q2, ev, rfl, cN, q3⟩) (fun w5 w6 v hg6 hm6 g6 hq => ?_)
  obtain ⟨ev, rfl, cN, hoN, hcl, hgd, hbd⟩ := hq
  have hrlt : b4 < w5.heap.size := Nat.lt_of_lt_of_le ho4.lt hg6.size
  have ho4 := hm6.own (ho4.grow hg6) hne68
  have hGF := gt_low.plain g6
  have hGw : Grow w w6 := hm6.grow0 ((hG.trans hr4).trans hg6) (fun k hk => hk ▸ hwo)
  rw [hLn] at hgd hbd
  refine lx_assign rfl rfl rfl ?_
  refine lx_nil ?_
  refine xs_plain (E := EE [42, 41]) ?_
  refine lx_move rfl rfl rfl ?_
  by_cases hgo : GoodTo (L.map Fd.s) bs (L.map Fd.s).length
  · skip
    obtain ⟨rfl, VS, hV, rfl, hVs⟩ := hgd hgo
    refine lx_binB false rfl rfl (fun _ => rfl) (fun _ => bin_neq_i _ _ _) (by decide) rfl rfl ?_
    refine lx_nil ?_
    refine x_false rfl ?_
    refine x_skip ?_
    refine xs_plain (E := EE [42, 41]) ?_
    refine lx_loadr (cs := lays (((L.map Fd.s)).zip VS) Bo0.cs) rfl Try.isAgg42 Try.sizeOf42 (by rw [lays_len]; exact Bo0_len) (fun w' h => (hoN.grow (hp_below h)).range) rfl rfl ?_
    refine lx_stW (vs := lays ((L.map Fd.s).zip VS) Bo0.cs) gt_low (fun w' h => hGF.g _ _ _ h) (fun w' h => ho4.grow (hp_below h)) (Nat.zero_le _) rfl rfl Try.sizeOf42 (by rw [lays_len]; exact Bo0_len) (lays_one _ _ hVs.one Bo0_one) (by rw [lays_len, Nat.zero_add]; exact Nat.le_refl _) rfl (fun w7 w8 hC8 g8 hm8 ho8 => ?_)
    rw [lay_all _ _ (lays_len ..)] at ho8
    refine lx_assign rfl rfl rfl ?_
    refine lx_nil ?_
    refine x_ret ?_
    repeat (first | refine kseq_ret ?_ | refine kblk_ret ?_)
    have hw8 : Grow w w8 := hm8.grow0 (hGw.trans (hp_below hC8)) (fun k hk => hk ▸ hwr)
    have hv8 := ((hVs.grow (hp_below hC8)).mm hm8 (fun k hk => hk ▸ hrlt)).low ((hG.trans hr4).trans hg6).size
    exact kret_ctW rfl rfl rfl Try.isAgg42 Try.sizeOf42 ((lays_len _ _).trans Bo0_len) (fun w9 hw9 => (ho8.grow (hp_below hw9)).range) (fun w9 hw9 => ⟨_, _, rfl, hw8.trans (hp_below hw9), (gd_R Bo0_one hlen hgo hV hv8).grow (hp_below hw9)⟩)
  · skip
    obtain rfl := hbd hgo
    refine lx_binB true rfl rfl (fun _ => rfl) (fun _ => bin_neq_i _ _ _) (by decide) rfl rfl ?_
    refine lx_nil ?_
    refine x_true rfl ?_
    refine xs_plain (E := EE [42, 41]) ?_
    refine lx_build (ps := []) (vs := []) (v := .agg Bo0.cs.toArray) rfl (fun w => bldBo0 w) rfl rfl ?_
    refine lx_move rfl rfl rfl ?_
    refine lx_stW (vs := Bo0.cs) gt_low (fun w' h => hGF.g _ _ _ h) (fun w' h => ho4.grow (hp_below h)) (Nat.zero_le _) rfl rfl Try.sizeOf42 (Bo0_len) (Bo0_one) (by rw [show 0 + Bo0.cs.length = Bo0.cs.length from Nat.zero_add _]; exact Nat.le_refl _) rfl (fun w7 w8 hC8 g8 hm8 ho8 => ?_)
    rw [lay_all _ _ (rfl)] at ho8
    refine lx_assign rfl rfl rfl ?_
    refine lx_nil ?_
    refine x_ret ?_
    repeat (first | refine kseq_ret ?_ | refine kblk_ret ?_)
    have hw8 : Grow w w8 := hm8.grow0 (hGw.trans (hp_below hC8)) (fun k hk => hk ▸ hwr)
    exact kret_ctW rfl rfl rfl Try.isAgg42 Try.sizeOf42 (Bo0_len) (fun w9 hw9 => (ho8.grow (hp_below hw9)).range) (fun w9 hw9 => ⟨_, _, rfl, hw8.trans (hp_below hw9), ng_R Bo0_one hlen hgo⟩)
end Go.Proofs.Ytlaanjcnfindnaa
