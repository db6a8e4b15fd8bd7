/-
  The document's decoder of updates, of three kinds.
-/
import Derived.Test.YtlaanjcnfindnaaVJ
namespace Go.Proofs.Ytlaanjcnfindnaa
open Go.RowKit
set_option maxRecDepth 100000
set_option maxHeartbeats 1000000

theorem agY {l : By} {m : Nat} (hb : szB m + 96 ≤ l.length) (hc : cleanB (l.take (szB m)) m = true) : gotB l 0 m = bt (l.take (szB m)) m ∧ lftB l 0 m = l.drop (szB m) ∧ errB l 0 m = 0 := by
  have h1 : szB m ≤ l.length := by omega
  have h2 : ¬ l.length < szB m := by omega
  simp [gotB, lftB, errB, hc, h1, h2]
theorem agN {l : By} {m : Nat} (hb : szB m + 96 ≤ l.length) (hc : cleanB (l.take (szB m)) m = false) : gotB l 0 m = [] ∧ lftB l 0 m = l ∧ errB l 0 m = 171 := by
  have h2 : ¬ l.length < szB m := by omega
  simp [gotB, lftB, errB, hc, h2]
theorem sub_drop (bs : By) (o p n : Nat) : sub (bs.drop o) p n = sub bs (o + p) n := by rw [sub, sub, List.drop_drop]
theorem dec3_calls (n : Int) (m : Nat) (hm : szN n = m) (bs : By) (a : Option Addr) (cap : Nat) (hcap : bs.length ≤ cap) (w : World) (hw : Gt w) (hby : BytesAt w a bs) (hab : ∀ ad, a = some ad → ad.block < w.heap.size) : Calls Try.prog 26 [.slice a bs.length cap, I n, I 3].toArray w (fun e w' => Grow w w' ∧ (bs.length = sz4 m → cleanB (sub bs (112) (szB m)) m = true → ∃ ba bc, e = .returned (.tuple #[.agg (UC (hdOf bs).cs Co0 ((Zs 160).map U8) Hd0.cs ((Zs 192).map U8) (Value.slice ba (bt (sub bs (112) (szB m)) m).length bc :: (sub bs (112 + szB m) 96).map U8) [U64 (pn (sub bs (112 + szB m + 96) 8) 8)]).toArray, I 0]) ∧ SlV 4 w' ba bc ((bt (sub bs (112) (szB m)) m).map .bool) ∧ ∀ ad, ba = some ad → w.heap.size ≤ ad.block) ∧ (bs.length = sz4 m → cleanB (sub bs (112) (szB m)) m = false → e = .returned (.tuple #[.agg U0.toArray, I 171])) ∧ (¬ bs.length = sz4 m → e = .returned (.tuple #[.agg U0.toArray, I 170]))) := by
  have hm2 := szN_le n
  rw [hm] at hm2
  have hGF : BOk Gt (pl w) := gt_low.plain hw
  refine calls_of_X (G := Gt) Try.func26 rfl rfl (Hp (pl w) []) (hp_refl (pl w) trivial rides_true) (good_hp hGF) ?_
  refine xs_plain (E := EE []) ?_
  refine lx_allocr 6 hGF zvU rfl rfl ?_
  intro b6
  refine lx_assign rfl rfl rfl ?_
  refine lx_nil ?_
  refine xs_plain (E := EE []) ?_
  refine lx_move rfl rfl rfl ?_
  refine lx_callC rfl rfl ent44 (fun w1 _ hG => siz_calls n w1 hG) rfl rfl ?_
  rw [hm]
  refine lx_assign rfl rfl rfl ?_
  refine lx_nil ?_
  refine xs_plain (E := EE []) ?_
  refine lx_move rfl rfl rfl ?_
  refine lx_callC rfl rfl ent31 (fun w1 _ hG => szs_calls (m : Int) w1 hG) rfl rfl ?_
  rw [show szN (m : Int) = m from by rw [← hm]; exact szN_id n]
  refine lx_move rfl rfl rfl ?_
  refine lx_ext rfl rfl rfl rfl ?_
  refine lx_ext rfl rfl rfl rfl ?_
  refine lx_ext rfl rfl rfl rfl ?_
  refine lx_ext rfl rfl rfl rfl ?_
  refine lx_assign rfl rfl rfl ?_
  refine lx_assign rfl rfl rfl ?_
  refine lx_assign rfl rfl rfl ?_
  refine lx_assign rfl rfl rfl ?_
  refine lx_nil ?_
  refine x_seq ?_
  refine xs_plain (E := EE []) ?_
  refine lx_move rfl rfl rfl ?_
  refine lx_len rfl (fun _ => len_slice Try.underlying46 _ _ _ _) rfl rfl ?_
  refine lx_move rfl rfl rfl ?_
  refine lx_move rfl rfl rfl ?_
  refine lx_move rfl rfl rfl ?_
  refine lx_bslV 31 [I 0, I (sz2 m : Nat), I (sz3 m : Nat), I (sz4 m : Nat)] hGF rfl rfl rfl (by decide) (by decide) Try.underlying90 Try.sizeOf3 Try.zeroValue3 rfl rfl rfl ?_
  intro b31
  refine lx_move rfl rfl rfl ?_
  refine lx_is0 3 rfl rfl Try.underlying90 Try.sizeOf3 rfl (by show 3 < 4; decide) rfl rfl ?_
  refine lx_loadl 31 rfl rfl rfl Try.isAgg3 rfl rfl ?_
  by_cases hlen : bs.length = sz4 m
  · skip
    have hB : szB m ≤ 64 := by unfold szB; omega
    have hsz : bs.length = szB m + 216 := hlen
    refine lx_binB false rfl rfl (fun _ => rfl) (fun _ => bin_neq_i _ _ _) (by simp [hlen]) rfl rfl ?_
    refine lx_nil ?_
    refine x_false rfl ?_
    refine x_skip ?_
    refine xs_plain (E := EE []) ?_
    refine lx_move rfl rfl rfl ?_
    refine lx_build (ps := [(0, .tmp 37)]) (vs := [.slice a bs.length cap]) rfl (fun w => bldRd _ _ _ w) rfl rfl ?_
    refine lx_boxr 39 hGF rfl rfl rfl ?_
    intro b39
    refine lx_assign rfl rfl rfl ?_
    refine lx_nil ?_
    refine x_now0 gt_low (fun w3 hC g3 => ?_)
    obtain ⟨b, hbe⟩ : ∃ b, b = b39 := ⟨_, rfl⟩
    subst hbe
    have hM : MM (fun k => k = b) w w3 := grow_mm (hp_below hC)
    have hzb : w.heap.size ≤ b := (hC.own 39 _ _ _ rfl).2.elim id False.elim
    have hrd : RdAt 84 (fun k => k < w.heap.size) w3 b bs 0 := ⟨a, cap, (hC.own 39 _ _ _ rfl).1, hcap, hby.grow (hp_below hC), fun ad e => ⟨hab ad e, fun e2 => by have := hab ad e; omega⟩⟩
    obtain ⟨S, hS⟩ : ∃ S : Nat → Prop, S = fun k => k < w.heap.size := ⟨_, rfl⟩
    rw [← hS] at hrd
    have hSz : ∀ k, S k → k < w.heap.size := fun k hk => by rw [hS] at hk; exact hk
    have ho6 := (hC.own 6 _ _ _ rfl).1
    have hz6 : w.heap.size ≤ b6 := (hC.own 6 _ _ _ rfl).2.elim id False.elim
    have hn6 : b6 ≠ b := fun e => by subst e; exact absurd (hC.inj 6 39 _ _ _ _ _ rfl rfl) (by decide)
    have hGF := gt_low.plain g3
    clear hC
    refine xs_plain (E := EE [45]) ?_
    refine lx_move rfl rfl rfl ?_
    refine lx_callW gt_low (M := fun k => k = b) (fun k _ => Nat.zero_le k) rfl rfl ent45 rfl rfl hGF (Q := fun w1 w2 v => v = .agg (hdOf bs).cs.toArray ∧ RdAt 84 S w2 b (bs.drop 112) 0) (fun w1 h1 g1 => rhd_calls S b bs (by omega) w1 g1 (hrd.grow h1).lt (hrd.grow h1) (fun k hk => by have := hSz k hk; have := hM.size; have := h1.size; omega)) (fun w41a w41 v hg41 hm41 gg41 hq => ?_)
    have hGF := gt_low.plain gg41
    have hM := (hM.trans (grow_mm hg41)).trans hm41
    have ho6 := hm41.own (ho6.grow hg41) hn6
    obtain ⟨rfl, hrd⟩ := hq
    clear hg41 hm41
    refine lx_build (ps := [(0, .tmp 41)]) (vs := [.agg (hdOf bs).cs.toArray]) (v := .agg (UC (hdOf bs).cs Co0 ((Zs 160).map U8) Hd0.cs ((Zs 192).map U8) Ag0 [U64 0]).toArray) rfl (fun w => bldU (hdOf bs).cs (Hd.len (hdOf_ok (by omega))) w) rfl rfl ?_
    refine lx_allocr 13 hGF zvU rfl rfl ?_
    intro b13
    refine lx_storea 13 hGF rfl rfl rfl Try.sizeOf40 (UL.len ⟨Hd.len (hdOf_ok (show 112 ≤ bs.length by omega)), by decide, by decide, by decide, by decide, by decide, by decide⟩) U0_len (UC_one (Hd.one _) (by decide) (one_u8 _) (Hd.one _) (one_u8 _) (by decide) (by decide)) rfl ?_
    refine lx_nil ?_
    refine x_seq ?_
    refine x_now0 gt_low (fun w4 hC g4 => ?_)
    have hM := hM.trans (grow_mm (hp_below hC))
    have hlb := hrd.lt
    have hrd := hrd.grow (hp_below hC)
    have hl6 := ho6.lt
    have ho6 := ho6.grow (hp_below hC)
    have ho13 := (hC.own 13 _ _ _ rfl).1
    have hq5 := (hC.own 13 _ _ _ rfl).2.elim id False.elim
    simp only [pl] at hq5
    have hz13 : w.heap.size ≤ b13 := by omega
    have hn13 : b13 ≠ b := fun e => by omega
    have hx13_6 : b13 ≠ b6 := fun e => by omega
    have hGF := gt_low.plain g4
    clear hC hq5 hl6 hlb
    have hu : UL (hdOf bs).cs Co0 ((Zs 160).map U8) Hd0.cs ((Zs 192).map U8) Ag0 [U64 0] := ⟨Hd.len (hdOf_ok (show 112 ≤ bs.length by omega)), by decide, by decide, by decide, by decide, by decide, by decide⟩
    refine xs_plain (E := EE []) ?_
    refine lx_move rfl rfl rfl ?_
    refine lx_binB false rfl rfl (fun _ => rfl) (fun _ => bin_eql_i _ _ _) (by decide) rfl rfl ?_
    refine lx_nil ?_
    refine x_false rfl ?_
    refine x_skip ?_
    refine x_seq ?_
    refine xs_plain (E := EE []) ?_
    refine lx_move rfl rfl rfl ?_
    refine lx_binB false rfl rfl (fun _ => rfl) (fun _ => bin_lss_i _ _ _) (by decide) rfl rfl ?_
    refine lx_nil ?_
    refine x_false rfl ?_
    refine x_skip ?_
    refine xs_plain (E := EE [50]) ?_
    refine lx_move rfl rfl rfl ?_
    refine lx_move rfl rfl rfl ?_
    cases hcb : cleanB (sub bs (112) (szB m)) m
    · skip
      have hoX := ho6
      have hoY := ho13
      have hMX := hM
      have hrX := hrd
      refine lx_callW gt_low (M := fun k => k = b) (fun k _ => Nat.zero_le k) rfl rfl ent50 rfl rfl hGF (Q := fun w1 w2 v => (∃ ba bc, v = .agg (Value.slice ba (gotB (bs.drop (112)) 0 m).length bc :: (pad0 96 (got (lftB (bs.drop (112)) 0 m) (errB (bs.drop (112)) 0 m) 96)).map U8).toArray ∧ SlV 4 w2 ba bc ((gotB (bs.drop (112)) 0 m).map .bool) ∧ ∀ ad, ba = some ad → w1.heap.size ≤ ad.block) ∧ RdAt 84 S w2 b (bs.drop (112)) 171) (fun w1 h1 g1 => (rag_calls S b (bs.drop (112)) m (by omega) (by rw [List.length_drop]; omega) w1 g1 (hrd.grow h1).lt (hrd.grow h1) (fun k hk => by have := hSz k hk; have := hM.size; have := h1.size; omega)).mono fun r w2 ⟨v, q1, q2, q3, q4⟩ => ⟨v, q1, q2, q3, by obtain ⟨e1, e2, e3⟩ := agN (l := (bs.drop (112))) (m := m) (by rw [List.length_drop]; omega) hcb; obtain ⟨f1, f2, f3⟩ := rd_e (bs := (bs.drop (112))) (e := 171) 96 (by decide); rw [e2, e3, f2, f3] at q4; exact q4⟩) (fun w74a w74 v hg74 hm74 gg74 hq => ?_)
      have hGF := gt_low.plain gg74
      have hM := (hM.trans (grow_mm hg74)).trans hm74
      have ho6 := hm74.own (ho6.grow hg74) hn6
      have ho13 := hm74.own (ho13.grow hg74) hn13
      obtain ⟨⟨ba, bc, rfl, hbt, hbq⟩, hrd⟩ := hq
      have hbz : ∀ ad, ba = some ad → w.heap.size ≤ ad.block ∧ ad.block ≠ b ∧ ad.block ≠ b6 ∧ ad.block ≠ b13 := fun ad e => by have h1 := hbq ad e; have h2 := (hoX.grow hg74).lt; have h3 := (hrX.grow hg74).lt; have h4 := hMX.size; have h5 := hg74.size; have h6 := (hoY.grow hg74).lt; exact ⟨by omega, by omega, by omega, by omega⟩
      clear hoX hoY hMX hrX hbq
      clear hg74 hm74
      refine lx_fak 597 rfl Try.underlying40 rfl Try.sizeOf38 (by decide) rfl rfl rfl ?_
      have hu : UL (hdOf bs).cs Co0 ((Zs 160).map U8) Hd0.cs ((Zs 192).map U8) Ag0 [U64 0] := ⟨Hd.len (hdOf_ok (show 112 ≤ bs.length by omega)), by decide, by decide, by decide, by decide, by decide, by decide⟩
      refine lx_stW gt_low (fun w' h => hGF.g _ _ _ h) (fun w' h => ho13.grow (hp_below h)) (Nat.zero_le _) rfl rfl Try.sizeOf38 (by rw [List.length_cons, List.length_map, pad_len (got_lm _ _ _)]) (CoC_one _ _ _ _) (by rw [show ((Value.slice ba (gotB (bs.drop (112)) 0 m).length bc :: (pad0 96 (got (lftB (bs.drop (112)) 0 m) (errB (bs.drop (112)) 0 m) 96)).map U8) : List Value).length = 97 from by rw [List.length_cons, List.length_map, pad_len (got_lm _ _ _)], hu.len]; decide) rfl (fun wS5a wS5 hC g2 hm h2 => ?_)
      rw [UC_5 hu (by rw [List.length_cons, List.length_map, pad_len (got_lm _ _ _)])] at h2
      have hbt := (hbt.grow (hp_below hC)).mm hm (fun ad e h => (hbz ad e).2.2.2 h)
      have hM := (hM.trans (grow_mm (hp_below hC))).trans' hm (fun i e hi => by subst e; omega)
      have hrd := (hrd.grow (hp_below hC)).mm hm (fun e => hn13 e.symm) (fun i hi hl e => by have := hSz i hi; subst e; omega)
      have ho6 := hm.own (ho6.grow (hp_below hC)) (fun e => hx13_6 e.symm)
      have ho13 := h2
      have hGF := gt_low.plain g2
      clear hC hm h2
      refine lx_nil ?_
      refine xs_plain (E := EE [51]) ?_
      refine lx_move rfl rfl rfl ?_
      refine lx_callW gt_low (M := fun k => k = b) (fun k _ => Nat.zero_le k) rfl rfl ent51 rfl rfl hGF (Q := fun w1 w2 v => v = U64 (pn (got (bs.drop (112)) 171 8) (got (bs.drop (112)) 171 8).length) ∧ RdAt 84 S w2 b (bs.drop (112)) 171) (fun w1 h1 g1 => (su_calls S b (bs.drop (112)) 171 w1 g1 (Nat.zero_le _) (hrd.grow h1)).mono fun r w2 ⟨v, q1, q2, q3, q4⟩ => ⟨v, q1, q2, q3, by obtain ⟨f1, f2, f3⟩ := rd_e (bs := (bs.drop (112))) (e := 171) 8 (by decide); rw [f2, f3] at q4; exact q4⟩) (fun w77a w77 v hg77 hm77 gg77 hq => ?_)
      have hGF := gt_low.plain gg77
      have hM := (hM.trans (grow_mm hg77)).trans hm77
      have ho6 := hm77.own (ho6.grow hg77) hn6
      have ho13 := hm77.own (ho13.grow hg77) hn13
      obtain ⟨rfl, hrd⟩ := hq
      have hbt := (hbt.grow hg77).mm hm77 (fun ad e h => (hbz ad e).2.1 h)
      clear hg77 hm77
      refine lx_fak 694 rfl Try.underlying40 rfl Try.sizeOf22 (by decide) rfl rfl rfl ?_
      have hu : UL (hdOf bs).cs Co0 ((Zs 160).map U8) Hd0.cs ((Zs 192).map U8) (Value.slice ba (gotB (bs.drop (112)) 0 m).length bc :: (pad0 96 (got (lftB (bs.drop (112)) 0 m) (errB (bs.drop (112)) 0 m) 96)).map U8) [U64 0] := ⟨Hd.len (hdOf_ok (show 112 ≤ bs.length by omega)), by decide, by decide, by decide, by decide, by rw [List.length_cons, List.length_map, pad_len (got_lm _ _ _)], by decide⟩
      refine lx_st1W gt_low (fun w' h => hGF.g _ _ _ h) (fun w' h => ho13.grow (hp_below h)) (Nat.zero_le _) rfl rfl Try.sizeOf22 rfl (by rw [hu.len]; decide) rfl (fun wGa wG hC g2 hm h2 => ?_)
      rw [UC_6 hu] at h2
      have hbt := (hbt.grow (hp_below hC)).mm hm (fun ad e h => (hbz ad e).2.2.2 h)
      have hM := (hM.trans (grow_mm (hp_below hC))).trans' hm (fun i e hi => by subst e; omega)
      have hrd := (hrd.grow (hp_below hC)).mm hm (fun e => hn13 e.symm) (fun i hi hl e => by have := hSz i hi; subst e; omega)
      have ho6 := hm.own (ho6.grow (hp_below hC)) (fun e => hx13_6 e.symm)
      have ho13 := h2
      have hGF := gt_low.plain g2
      clear hC hm h2
      refine lx_nil ?_
      refine x_seq ?_
      refine xs_plain (E := EE [48]) ?_
      refine lx_move rfl rfl rfl ?_
      refine lx_callW gt_low (M := fun k => k = b) (fun k _ => Nat.zero_le k) rfl rfl ent48 rfl rfl hGF (Q := fun w1 w2 v => v = I 171) (fun w1 h1 g1 => (ren_calls S b (bs.drop (112)) 171 w1 g1 (hrd.grow h1)).mono fun r w2 ⟨q1, q2⟩ => ⟨_, q1, q2, by simp [endE]⟩) (fun w80a w80 v hg80 hm80 gg80 hq => ?_)
      have hGF := gt_low.plain gg80
      have hM := (hM.trans (grow_mm hg80)).trans hm80
      have ho6 := hm80.own (ho6.grow hg80) hn6
      have ho13 := hm80.own (ho13.grow hg80) hn13
      subst hq
      have hbt := (hbt.grow hg80).mm hm80 (fun ad e h => (hbz ad e).2.1 h)
      clear hg80 hm80
      refine lx_assign rfl rfl rfl ?_
      refine lx_nil ?_
      refine xs_plain (E := EE []) ?_
      refine lx_move rfl rfl rfl ?_
      refine lx_binB true rfl rfl (fun _ => rfl) (fun _ => bin_neq_i _ _ _) (by decide) rfl rfl ?_
      refine lx_nil ?_
      refine x_true rfl ?_
      refine xs_plain (E := EE []) ?_
      refine lx_build (ps := []) (vs := []) (v := .agg U0.toArray) rfl (fun w => bldU0 w) rfl rfl ?_
      refine lx_move rfl rfl rfl ?_
      refine lx_stW gt_low (fun w' h => hGF.g _ _ _ h) (fun w' h => ho6.grow (hp_below h)) (Nat.zero_le _) rfl rfl Try.sizeOf40 (U0_len) (by decide) (by rw [U0_len]; decide) rfl (fun wFa wF hC g2 hm h2 => ?_)
      rw [lay_all _ _ (rfl)] at h2
      have hbt := (hbt.grow (hp_below hC)).mm hm (fun ad e h => (hbz ad e).2.2.1 h)
      have hM := (hM.trans (grow_mm (hp_below hC))).trans' hm (fun i e hi => by subst e; omega)
      have ho6 := h2
      have hGF := gt_low.plain g2
      clear hC hm h2
      refine lx_assign rfl rfl rfl ?_
      refine lx_nil ?_
      refine x_ret ?_
      repeat (first | refine kseq_ret ?_ | refine kblk_ret ?_)
      exact kret_ctW rfl rfl rfl Try.isAgg40 Try.sizeOf40 U0_len (fun w' h => (ho6.grow (hp_below h)).range) (fun w' hw' => ⟨(hM.trans (grow_mm (hp_below hw'))).grow (fun k hk e => by omega), fun _ h => absurd h (by decide), fun _ _ => rfl, fun h => absurd hlen h⟩)
    · skip
      have hoX := ho6
      have hoY := ho13
      have hMX := hM
      have hrX := hrd
      refine lx_callW gt_low (M := fun k => k = b) (fun k _ => Nat.zero_le k) rfl rfl ent50 rfl rfl hGF (Q := fun w1 w2 v => (∃ ba bc, v = .agg (Value.slice ba (bt (sub bs (112) (szB m)) m).length bc :: (sub bs (112 + szB m) 96).map U8).toArray ∧ SlV 4 w2 ba bc ((bt (sub bs (112) (szB m)) m).map .bool) ∧ ∀ ad, ba = some ad → w1.heap.size ≤ ad.block) ∧ RdAt 84 S w2 b (bs.drop (112 + szB m + 96)) 0) (fun w1 h1 g1 => (by obtain ⟨e1, e2, e3⟩ := agY (l := (bs.drop (112))) (m := m) (by rw [List.length_drop]; omega) hcb; obtain ⟨f1, f2, f3⟩ := rd_k (bs := (bs.drop (112)).drop (szB m)) (m := 96) (by rw [List.length_drop, List.length_drop]; omega); have := rag_calls S b (bs.drop (112)) m (by omega) (by rw [List.length_drop]; omega) w1 g1 (hrd.grow h1).lt (hrd.grow h1) (fun k hk => by have := hSz k hk; have := hM.size; have := h1.size; omega); rw [e2, e3, e1, f1, f2, f3, pad_all (by rw [List.length_take, List.length_drop, List.length_drop]; omega), List.drop_drop, List.drop_drop] at this; exact this)) (fun w74a w74 v hg74 hm74 gg74 hq => ?_)
      have hGF := gt_low.plain gg74
      have hM := (hM.trans (grow_mm hg74)).trans hm74
      have ho6 := hm74.own (ho6.grow hg74) hn6
      have ho13 := hm74.own (ho13.grow hg74) hn13
      obtain ⟨⟨ba, bc, rfl, hbt, hbq⟩, hrd⟩ := hq
      have hbz : ∀ ad, ba = some ad → w.heap.size ≤ ad.block ∧ ad.block ≠ b ∧ ad.block ≠ b6 ∧ ad.block ≠ b13 := fun ad e => by have h1 := hbq ad e; have h2 := (hoX.grow hg74).lt; have h3 := (hrX.grow hg74).lt; have h4 := hMX.size; have h5 := hg74.size; have h6 := (hoY.grow hg74).lt; exact ⟨by omega, by omega, by omega, by omega⟩
      clear hoX hoY hMX hrX hbq
      clear hg74 hm74
      refine lx_fak 597 rfl Try.underlying40 rfl Try.sizeOf38 (by decide) rfl rfl rfl ?_
      have hu : UL (hdOf bs).cs Co0 ((Zs 160).map U8) Hd0.cs ((Zs 192).map U8) Ag0 [U64 0] := ⟨Hd.len (hdOf_ok (show 112 ≤ bs.length by omega)), by decide, by decide, by decide, by decide, by decide, by decide⟩
      refine lx_stW gt_low (fun w' h => hGF.g _ _ _ h) (fun w' h => ho13.grow (hp_below h)) (Nat.zero_le _) rfl rfl Try.sizeOf38 (by rw [List.length_cons, List.length_map, sub_len (by omega)]) (CoC_one _ _ _ _) (by rw [show ((Value.slice ba (bt (sub bs (112) (szB m)) m).length bc :: (sub bs (112 + szB m) 96).map U8) : List Value).length = 97 from by rw [List.length_cons, List.length_map, sub_len (by omega)], hu.len]; decide) rfl (fun wS5a wS5 hC g2 hm h2 => ?_)
      rw [UC_5 hu (by rw [List.length_cons, List.length_map, sub_len (by omega)])] at h2
      have hbt := (hbt.grow (hp_below hC)).mm hm (fun ad e h => (hbz ad e).2.2.2 h)
      have hM := (hM.trans (grow_mm (hp_below hC))).trans' hm (fun i e hi => by subst e; omega)
      have hrd := (hrd.grow (hp_below hC)).mm hm (fun e => hn13 e.symm) (fun i hi hl e => by have := hSz i hi; subst e; omega)
      have ho6 := hm.own (ho6.grow (hp_below hC)) (fun e => hx13_6 e.symm)
      have ho13 := h2
      have hGF := gt_low.plain g2
      clear hC hm h2
      refine lx_nil ?_
      refine xs_plain (E := EE [51]) ?_
      refine lx_move rfl rfl rfl ?_
      refine lx_callW gt_low (M := fun k => k = b) (fun k _ => Nat.zero_le k) rfl rfl ent51 rfl rfl hGF (Q := fun w1 w2 v => v = U64 (pn (sub bs (112 + szB m + 96) 8) 8) ∧ RdAt 84 S w2 b [] 0) (fun w1 h1 g1 => (suk (by rw [List.length_drop]; omega) w1 g1 (hrd.grow h1)).mono fun r w2 ⟨v, q1, q2, q3, q4⟩ => ⟨v, q1, q2, q3, by rw [List.drop_drop, List.drop_of_length_le (by omega)] at q4; exact q4⟩) (fun w77a w77 v hg77 hm77 gg77 hq => ?_)
      have hGF := gt_low.plain gg77
      have hM := (hM.trans (grow_mm hg77)).trans hm77
      have ho6 := hm77.own (ho6.grow hg77) hn6
      have ho13 := hm77.own (ho13.grow hg77) hn13
      obtain ⟨rfl, hrd⟩ := hq
      have hbt := (hbt.grow hg77).mm hm77 (fun ad e h => (hbz ad e).2.1 h)
      clear hg77 hm77
      refine lx_fak 694 rfl Try.underlying40 rfl Try.sizeOf22 (by decide) rfl rfl rfl ?_
      have hu : UL (hdOf bs).cs Co0 ((Zs 160).map U8) Hd0.cs ((Zs 192).map U8) (Value.slice ba (bt (sub bs (112) (szB m)) m).length bc :: (sub bs (112 + szB m) 96).map U8) [U64 0] := ⟨Hd.len (hdOf_ok (show 112 ≤ bs.length by omega)), by decide, by decide, by decide, by decide, by rw [List.length_cons, List.length_map, sub_len (by omega)], by decide⟩
      refine lx_st1W gt_low (fun w' h => hGF.g _ _ _ h) (fun w' h => ho13.grow (hp_below h)) (Nat.zero_le _) rfl rfl Try.sizeOf22 rfl (by rw [hu.len]; decide) rfl (fun wGa wG hC g2 hm h2 => ?_)
      rw [UC_6 hu] at h2
      have hbt := (hbt.grow (hp_below hC)).mm hm (fun ad e h => (hbz ad e).2.2.2 h)
      have hM := (hM.trans (grow_mm (hp_below hC))).trans' hm (fun i e hi => by subst e; omega)
      have hrd := (hrd.grow (hp_below hC)).mm hm (fun e => hn13 e.symm) (fun i hi hl e => by have := hSz i hi; subst e; omega)
      have ho6 := hm.own (ho6.grow (hp_below hC)) (fun e => hx13_6 e.symm)
      have ho13 := h2
      have hGF := gt_low.plain g2
      clear hC hm h2
      refine lx_nil ?_
      refine x_seq ?_
      refine xs_plain (E := EE [48]) ?_
      refine lx_move rfl rfl rfl ?_
      refine lx_callW gt_low (M := fun k => k = b) (fun k _ => Nat.zero_le k) rfl rfl ent48 rfl rfl hGF (Q := fun w1 w2 v => v = I 0) (fun w1 h1 g1 => (ren_calls S b [] 0 w1 g1 (hrd.grow h1)).mono fun r w2 ⟨q1, q2⟩ => ⟨_, q1, q2, by simp [endE]⟩) (fun w80a w80 v hg80 hm80 gg80 hq => ?_)
      have hGF := gt_low.plain gg80
      have hM := (hM.trans (grow_mm hg80)).trans hm80
      have ho6 := hm80.own (ho6.grow hg80) hn6
      have ho13 := hm80.own (ho13.grow hg80) hn13
      subst hq
      have hbt := (hbt.grow hg80).mm hm80 (fun ad e h => (hbz ad e).2.1 h)
      clear hg80 hm80
      refine lx_assign rfl rfl rfl ?_
      refine lx_nil ?_
      refine xs_plain (E := EE []) ?_
      refine lx_move rfl rfl rfl ?_
      refine lx_binB false rfl rfl (fun _ => rfl) (fun _ => bin_neq_i _ _ _) (by decide) rfl rfl ?_
      refine lx_nil ?_
      refine x_false rfl ?_
      refine x_skip ?_
      refine xs_plain (E := EE []) ?_
      have hu : UL (hdOf bs).cs Co0 ((Zs 160).map U8) Hd0.cs ((Zs 192).map U8) (Value.slice ba (bt (sub bs (112) (szB m)) m).length bc :: (sub bs (112 + szB m) 96).map U8) [U64 (pn (sub bs (112 + szB m + 96) 8) 8)] := ⟨Hd.len (hdOf_ok (show 112 ≤ bs.length by omega)), by decide, by decide, by decide, by decide, by rw [List.length_cons, List.length_map, sub_len (by omega)], rfl⟩
      refine lx_loadr (cs := UC (hdOf bs).cs Co0 ((Zs 160).map U8) Hd0.cs ((Zs 192).map U8) (Value.slice ba (bt (sub bs (112) (szB m)) m).length bc :: (sub bs (112 + szB m) 96).map U8) [U64 (pn (sub bs (112 + szB m + 96) 8) 8)]) rfl Try.isAgg40 Try.sizeOf40 hu.len (fun w' h => (ho13.grow (hp_below h)).range) rfl rfl ?_
      have hu : UL (hdOf bs).cs Co0 ((Zs 160).map U8) Hd0.cs ((Zs 192).map U8) (Value.slice ba (bt (sub bs (112) (szB m)) m).length bc :: (sub bs (112 + szB m) 96).map U8) [U64 (pn (sub bs (112 + szB m + 96) 8) 8)] := ⟨Hd.len (hdOf_ok (show 112 ≤ bs.length by omega)), by decide, by decide, by decide, by decide, by rw [List.length_cons, List.length_map, sub_len (by omega)], rfl⟩
      refine lx_stW gt_low (fun w' h => hGF.g _ _ _ h) (fun w' h => ho6.grow (hp_below h)) (Nat.zero_le _) rfl rfl Try.sizeOf40 (hu.len) (UC_one (Hd.one _) (by decide) (one_u8 _) (Hd.one _) (one_u8 _) (CoC_one _ _ _ _) (rfl)) (by rw [hu.len, U0_len]; decide) rfl (fun wFa wF hC g2 hm h2 => ?_)
      rw [lay_all _ _ (by rw [hu.len, U0_len])] at h2
      have hbt := (hbt.grow (hp_below hC)).mm hm (fun ad e h => (hbz ad e).2.2.1 h)
      have hM := (hM.trans (grow_mm (hp_below hC))).trans' hm (fun i e hi => by subst e; omega)
      have ho6 := h2
      have hGF := gt_low.plain g2
      clear hC hm h2
      refine lx_assign rfl rfl rfl ?_
      refine lx_nil ?_
      refine x_ret ?_
      repeat (first | refine kseq_ret ?_ | refine kblk_ret ?_)
      exact kret_ctW rfl rfl rfl Try.isAgg40 Try.sizeOf40 hu.len (fun w' h => (ho6.grow (hp_below h)).range) (fun w' hw' => ⟨(hM.trans (grow_mm (hp_below hw'))).grow (fun k hk e => by omega), fun _ _ => ⟨ba, bc, rfl, hbt.grow (hp_below hw'), fun ad e => (hbz ad e).1⟩, fun _ h => absurd h (by decide), fun h => absurd hlen h⟩)
  · skip
    refine lx_binB true rfl rfl (fun _ => rfl) (fun _ => bin_neq_i _ _ _) (bne_iff_ne.2 (fun e => hlen (by omega))) rfl rfl ?_
    refine lx_nil ?_
    refine x_true rfl ?_
    refine xs_plain (E := EE []) ?_
    refine lx_build (ps := []) (vs := []) (v := .agg U0.toArray) rfl (fun w => bldU0 w) rfl rfl ?_
    refine lx_storea 6 hGF rfl rfl rfl Try.sizeOf40 U0_len U0_len (by decide) rfl ?_
    refine lx_assign rfl rfl rfl ?_
    refine lx_nil ?_
    refine x_ret ?_
    repeat (first | refine kseq_ret ?_ | refine kblk_ret ?_)
    exact kret_ct 6 rfl rfl rfl rfl Try.isAgg40 Try.sizeOf40 U0_len (fun w' hw' => ⟨hp_below hw', fun h => absurd h hlen, fun h => absurd h hlen, fun _ => rfl⟩)
theorem dec2_calls (n : Int) (m : Nat) (hm : szN n = m) (bs : By) (a : Option Addr) (cap : Nat) (hcap : bs.length ≤ cap) (w : World) (hw : Gt w) (hby : BytesAt w a bs) (hab : ∀ ad, a = some ad → ad.block < w.heap.size) : Calls Try.prog 26 [.slice a bs.length cap, I n, I 2].toArray w (fun e w' => Grow w w' ∧ (bs.length = sz3 m → cleanB (sub bs (416) (szB m)) m = true → ∃ ba bc, e = .returned (.tuple #[.agg (UC (hdOf bs).cs Co0 ((Zs 160).map U8) (hdOf (bs.drop (112))).cs ((sub bs (224) (32 * 6)).map U8) (Value.slice ba (bt (sub bs (416) (szB m)) m).length bc :: (sub bs (416 + szB m) 96).map U8) [U64 (pn (sub bs (416 + szB m + 96) 8) 8)]).toArray, I 0]) ∧ SlV 4 w' ba bc ((bt (sub bs (416) (szB m)) m).map .bool) ∧ ∀ ad, ba = some ad → w.heap.size ≤ ad.block) ∧ (bs.length = sz3 m → cleanB (sub bs (416) (szB m)) m = false → e = .returned (.tuple #[.agg U0.toArray, I 171])) ∧ (¬ bs.length = sz3 m → e = .returned (.tuple #[.agg U0.toArray, I 170]))) := by
  have hm2 := szN_le n
  rw [hm] at hm2
  have hGF : BOk Gt (pl w) := gt_low.plain hw
  refine calls_of_X (G := Gt) Try.func26 rfl rfl (Hp (pl w) []) (hp_refl (pl w) trivial rides_true) (good_hp hGF) ?_
  refine xs_plain (E := EE []) ?_
  refine lx_allocr 6 hGF zvU rfl rfl ?_
  intro b6
  refine lx_assign rfl rfl rfl ?_
  refine lx_nil ?_
  refine xs_plain (E := EE []) ?_
  refine lx_move rfl rfl rfl ?_
  refine lx_callC rfl rfl ent44 (fun w1 _ hG => siz_calls n w1 hG) rfl rfl ?_
  rw [hm]
  refine lx_assign rfl rfl rfl ?_
  refine lx_nil ?_
  refine xs_plain (E := EE []) ?_
  refine lx_move rfl rfl rfl ?_
  refine lx_callC rfl rfl ent31 (fun w1 _ hG => szs_calls (m : Int) w1 hG) rfl rfl ?_
  rw [show szN (m : Int) = m from by rw [← hm]; exact szN_id n]
  refine lx_move rfl rfl rfl ?_
  refine lx_ext rfl rfl rfl rfl ?_
  refine lx_ext rfl rfl rfl rfl ?_
  refine lx_ext rfl rfl rfl rfl ?_
  refine lx_ext rfl rfl rfl rfl ?_
  refine lx_assign rfl rfl rfl ?_
  refine lx_assign rfl rfl rfl ?_
  refine lx_assign rfl rfl rfl ?_
  refine lx_assign rfl rfl rfl ?_
  refine lx_nil ?_
  refine x_seq ?_
  refine xs_plain (E := EE []) ?_
  refine lx_move rfl rfl rfl ?_
  refine lx_len rfl (fun _ => len_slice Try.underlying46 _ _ _ _) rfl rfl ?_
  refine lx_move rfl rfl rfl ?_
  refine lx_move rfl rfl rfl ?_
  refine lx_move rfl rfl rfl ?_
  refine lx_bslV 31 [I 0, I (sz2 m : Nat), I (sz3 m : Nat), I (sz4 m : Nat)] hGF rfl rfl rfl (by decide) (by decide) Try.underlying90 Try.sizeOf3 Try.zeroValue3 rfl rfl rfl ?_
  intro b31
  refine lx_move rfl rfl rfl ?_
  refine lx_is0 2 rfl rfl Try.underlying90 Try.sizeOf3 rfl (by show 2 < 4; decide) rfl rfl ?_
  refine lx_loadl 31 rfl rfl rfl Try.isAgg3 rfl rfl ?_
  by_cases hlen : bs.length = sz3 m
  · skip
    have hB : szB m ≤ 64 := by unfold szB; omega
    have hsz : bs.length = szB m + 520 := hlen
    refine lx_binB false rfl rfl (fun _ => rfl) (fun _ => bin_neq_i _ _ _) (by simp [hlen]) rfl rfl ?_
    refine lx_nil ?_
    refine x_false rfl ?_
    refine x_skip ?_
    refine xs_plain (E := EE []) ?_
    refine lx_move rfl rfl rfl ?_
    refine lx_build (ps := [(0, .tmp 37)]) (vs := [.slice a bs.length cap]) rfl (fun w => bldRd _ _ _ w) rfl rfl ?_
    refine lx_boxr 39 hGF rfl rfl rfl ?_
    intro b39
    refine lx_assign rfl rfl rfl ?_
    refine lx_nil ?_
    refine x_now0 gt_low (fun w3 hC g3 => ?_)
    obtain ⟨b, hbe⟩ : ∃ b, b = b39 := ⟨_, rfl⟩
    subst hbe
    have hM : MM (fun k => k = b) w w3 := grow_mm (hp_below hC)
    have hzb : w.heap.size ≤ b := (hC.own 39 _ _ _ rfl).2.elim id False.elim
    have hrd : RdAt 84 (fun k => k < w.heap.size) w3 b bs 0 := ⟨a, cap, (hC.own 39 _ _ _ rfl).1, hcap, hby.grow (hp_below hC), fun ad e => ⟨hab ad e, fun e2 => by have := hab ad e; omega⟩⟩
    obtain ⟨S, hS⟩ : ∃ S : Nat → Prop, S = fun k => k < w.heap.size := ⟨_, rfl⟩
    rw [← hS] at hrd
    have hSz : ∀ k, S k → k < w.heap.size := fun k hk => by rw [hS] at hk; exact hk
    have ho6 := (hC.own 6 _ _ _ rfl).1
    have hz6 : w.heap.size ≤ b6 := (hC.own 6 _ _ _ rfl).2.elim id False.elim
    have hn6 : b6 ≠ b := fun e => by subst e; exact absurd (hC.inj 6 39 _ _ _ _ _ rfl rfl) (by decide)
    have hGF := gt_low.plain g3
    clear hC
    refine xs_plain (E := EE [45]) ?_
    refine lx_move rfl rfl rfl ?_
    refine lx_callW gt_low (M := fun k => k = b) (fun k _ => Nat.zero_le k) rfl rfl ent45 rfl rfl hGF (Q := fun w1 w2 v => v = .agg (hdOf bs).cs.toArray ∧ RdAt 84 S w2 b (bs.drop 112) 0) (fun w1 h1 g1 => rhd_calls S b bs (by omega) w1 g1 (hrd.grow h1).lt (hrd.grow h1) (fun k hk => by have := hSz k hk; have := hM.size; have := h1.size; omega)) (fun w41a w41 v hg41 hm41 gg41 hq => ?_)
    have hGF := gt_low.plain gg41
    have hM := (hM.trans (grow_mm hg41)).trans hm41
    have ho6 := hm41.own (ho6.grow hg41) hn6
    obtain ⟨rfl, hrd⟩ := hq
    clear hg41 hm41
    refine lx_build (ps := [(0, .tmp 41)]) (vs := [.agg (hdOf bs).cs.toArray]) (v := .agg (UC (hdOf bs).cs Co0 ((Zs 160).map U8) Hd0.cs ((Zs 192).map U8) Ag0 [U64 0]).toArray) rfl (fun w => bldU (hdOf bs).cs (Hd.len (hdOf_ok (by omega))) w) rfl rfl ?_
    refine lx_allocr 13 hGF zvU rfl rfl ?_
    intro b13
    refine lx_storea 13 hGF rfl rfl rfl Try.sizeOf40 (UL.len ⟨Hd.len (hdOf_ok (show 112 ≤ bs.length by omega)), by decide, by decide, by decide, by decide, by decide, by decide⟩) U0_len (UC_one (Hd.one _) (by decide) (one_u8 _) (Hd.one _) (one_u8 _) (by decide) (by decide)) rfl ?_
    refine lx_nil ?_
    refine x_seq ?_
    refine x_now0 gt_low (fun w4 hC g4 => ?_)
    have hM := hM.trans (grow_mm (hp_below hC))
    have hlb := hrd.lt
    have hrd := hrd.grow (hp_below hC)
    have hl6 := ho6.lt
    have ho6 := ho6.grow (hp_below hC)
    have ho13 := (hC.own 13 _ _ _ rfl).1
    have hq5 := (hC.own 13 _ _ _ rfl).2.elim id False.elim
    simp only [pl] at hq5
    have hz13 : w.heap.size ≤ b13 := by omega
    have hn13 : b13 ≠ b := fun e => by omega
    have hx13_6 : b13 ≠ b6 := fun e => by omega
    have hGF := gt_low.plain g4
    clear hC hq5 hl6 hlb
    have hu : UL (hdOf bs).cs Co0 ((Zs 160).map U8) Hd0.cs ((Zs 192).map U8) Ag0 [U64 0] := ⟨Hd.len (hdOf_ok (show 112 ≤ bs.length by omega)), by decide, by decide, by decide, by decide, by decide, by decide⟩
    refine xs_plain (E := EE []) ?_
    refine lx_move rfl rfl rfl ?_
    refine lx_binB false rfl rfl (fun _ => rfl) (fun _ => bin_eql_i _ _ _) (by decide) rfl rfl ?_
    refine lx_nil ?_
    refine x_false rfl ?_
    refine x_skip ?_
    refine x_seq ?_
    refine xs_plain (E := EE []) ?_
    refine lx_move rfl rfl rfl ?_
    refine lx_binB true rfl rfl (fun _ => rfl) (fun _ => bin_lss_i _ _ _) (by decide) rfl rfl ?_
    refine lx_nil ?_
    refine x_true rfl ?_
    refine xs_plain (E := EE [45]) ?_
    refine lx_move rfl rfl rfl ?_
    refine lx_callW gt_low (M := fun k => k = b) (fun k _ => Nat.zero_le k) rfl rfl ent45 rfl rfl hGF (Q := fun w1 w2 v => v = .agg (hdOf (bs.drop (112))).cs.toArray ∧ RdAt 84 S w2 b (bs.drop (224)) 0) (fun w1 h1 g1 => (rhd_calls S b (bs.drop (112)) (by rw [List.length_drop]; omega) w1 g1 (hrd.grow h1).lt (hrd.grow h1) (fun k hk => by have := hSz k hk; have := hM.size; have := h1.size; omega)).mono fun r w2 ⟨v, q1, q2, q3, q4⟩ => ⟨v, q1, q2, q3, by rw [List.drop_drop, show 112 + 112 = 224 from by omega] at q4; exact q4⟩) (fun w61a w61 v hg61 hm61 gg61 hq => ?_)
    have hGF := gt_low.plain gg61
    have hM := (hM.trans (grow_mm hg61)).trans hm61
    have ho6 := hm61.own (ho6.grow hg61) hn6
    have ho13 := hm61.own (ho13.grow hg61) hn13
    obtain ⟨rfl, hrd⟩ := hq
    clear hg61 hm61
    refine lx_fak 307 rfl Try.underlying40 rfl Try.sizeOf26 (by decide) rfl rfl rfl ?_
    have hu : UL (hdOf bs).cs Co0 ((Zs 160).map U8) Hd0.cs ((Zs 192).map U8) Ag0 [U64 0] := ⟨Hd.len (hdOf_ok (show 112 ≤ bs.length by omega)), by decide, by decide, by decide, by decide, by decide, by decide⟩
    refine lx_stW gt_low (fun w' h => hGF.g _ _ _ h) (fun w' h => ho13.grow (hp_below h)) (Nat.zero_le _) rfl rfl Try.sizeOf26 (Hd.len (hdOf_ok (show 112 ≤ (bs.drop (112)).length by rw [List.length_drop]; omega))) (Hd.one _) (by rw [show ((hdOf (bs.drop (112))).cs : List Value).length = 98 from Hd.len (hdOf_ok (show 112 ≤ (bs.drop (112)).length by rw [List.length_drop]; omega)), hu.len]; decide) rfl (fun wS3a wS3 hC g2 hm h2 => ?_)
    rw [UC_3 hu (Hd.len (hdOf_ok (show 112 ≤ (bs.drop (112)).length by rw [List.length_drop]; omega)))] at h2
    have hM := (hM.trans (grow_mm (hp_below hC))).trans' hm (fun i e hi => by subst e; omega)
    have hrd := (hrd.grow (hp_below hC)).mm hm (fun e => hn13 e.symm) (fun i hi hl e => by have := hSz i hi; subst e; omega)
    have ho6 := hm.own (ho6.grow (hp_below hC)) (fun e => hx13_6 e.symm)
    have ho13 := h2
    have hGF := gt_low.plain g2
    clear hC hm h2
    refine lx_nil ?_
    refine xs_plain (E := EE []) ?_
    refine lx_assign rfl rfl rfl ?_
    refine lx_nil ?_
    refine x_block ?_
    rw [show ((Zs 192).map U8) = ((rts bs (224) 0 6).map U8) from by rw [rts_0]] at ho13
    refine x_forW gt_low (ι := { x : Nat × World // x.1 ≤ 6 ∧ Gt x.2 ∧ MM (fun k => k = b) w x.2 ∧ RdAt 84 S x.2 b (bs.drop (224 + 32 * x.1)) 0 ∧ OwnB x.2 b6 U0 40 ∧ OwnB x.2 b13 (UC (hdOf bs).cs Co0 ((Zs 160).map U8) (hdOf (bs.drop (112))).cs ((rts bs (224) x.1 6).map U8) Ag0 [U64 0]) 40 }) (fun x => [(1, I (m : Int)), (2, I 2), (6, .pointer (some ⟨b6, 0, none⟩)), (12, .pointer (some ⟨b, 0, none⟩)), (13, .pointer (some ⟨b13, 0, none⟩)), (15, I (x.1.1 : Int))]) (fun x => x.1.2) (fun x => 6 - x.1.1) ⟨(0, wS3), Nat.zero_le _, hGF.g _ _ _ (hp_refl (pl wS3) trivial rides_true), hM, hrd, ho6, ho13⟩ (fun x => x.2.2.1) rfl ⟨rfl, rfl, rfl, rfl, rfl, rfl, trivial⟩ ?_
    clear hM hrd ho6 ho13 hGF
    rintro ⟨⟨i, wk⟩, hi, gk, hM, hrd, ho6, ho13⟩
    dsimp only at hi gk hM hrd ho6 ho13 ⊢
    have hGF := gt_low.plain gk
    refine x_seq ?_
    refine xs_plain (E := EE []) ?_
    refine lx_move rfl rfl rfl ?_
    rcases Nat.lt_or_ge i 6 with hlt | hge
    · skip
      refine lx_binB true rfl rfl (fun _ => rfl) (fun _ => bin_lss_i _ _ _) (by simp; omega) rfl rfl ?_
      refine lx_nil ?_
      refine x_true rfl ?_
      refine x_skip ?_
      refine x_seq ?_
      refine x_block ?_
      refine x_plain (E := EE [47]) ?_
      refine lx_move rfl rfl rfl ?_
      refine lx_move rfl rfl rfl ?_
      refine lx_callW gt_low (M := fun k => k = b) (fun k _ => Nat.zero_le k) rfl rfl ent47 rfl rfl hGF (Q := fun w1 w2 v => v = .agg ((sub bs (224 + 32 * i) 32).map U8).toArray ∧ RdAt 84 S w2 b (bs.drop (224 + 32 * (i + 1))) 0) (fun w1 h1 g1 => (r32k (by rw [List.length_drop]; omega) w1 g1 (hrd.grow h1).lt (hrd.grow h1) (fun k hk => by have := hSz k hk; have := hM.size; have := h1.size; omega)).mono fun r w2 ⟨v, q1, q2, q3, q4⟩ => ⟨v, q1, q2, q3, by rw [List.drop_drop, show 224 + 32 * i + 32 = 224 + 32 * (i + 1) from by omega] at q4; exact q4⟩) (fun w69a w69 v hg69 hm69 gg69 hq => ?_)
      have hGF := gt_low.plain gg69
      have hM := (hM.trans (grow_mm hg69)).trans hm69
      have ho6 := hm69.own (ho6.grow hg69) hn6
      have ho13 := hm69.own (ho13.grow hg69) hn13
      obtain ⟨rfl, hrd⟩ := hq
      clear hg69 hm69
      refine lx_fak 405 rfl Try.underlying40 rfl Try.sizeOf33 (by decide) rfl rfl rfl ?_
      refine lx_iak i (405 + 32 * i) rfl rfl Try.underlying33 Try.sizeOf24 rfl hlt (by omega) rfl rfl ?_
      have hu : UL (hdOf bs).cs Co0 ((Zs 160).map U8) (hdOf (bs.drop (112))).cs ((rts bs (224) i 6).map U8) Ag0 [U64 0] := ⟨Hd.len (hdOf_ok (show 112 ≤ bs.length by omega)), by decide, by decide, Hd.len (hdOf_ok (show 112 ≤ (bs.drop (112)).length by rw [List.length_drop]; omega)), by rw [List.length_map, rts_len hi (by omega)], by decide, by decide⟩
      refine lx_stW gt_low (fun w' h => hGF.g _ _ _ h) (fun w' h => ho13.grow (hp_below h)) (Nat.zero_le _) rfl rfl Try.sizeOf24 (by rw [List.length_map]; exact sub_len (by omega)) (one_u8 _) (by rw [List.length_map, sub_len (by omega), hu.len]; omega) rfl (fun wBa wB hC g2 hm h2 => ?_)
      rw [UC_4 hlt (by omega) hu.l0 hu.l1 hu.l2 hu.l3] at h2
      have hM := (hM.trans (grow_mm (hp_below hC))).trans' hm (fun i e hi => by subst e; omega)
      have hrd := (hrd.grow (hp_below hC)).mm hm (fun e => hn13 e.symm) (fun i hi hl e => by have := hSz i hi; subst e; omega)
      have ho6 := hm.own (ho6.grow (hp_below hC)) (fun e => hx13_6 e.symm)
      have ho13 := h2
      have hGF := gt_low.plain g2
      clear hC hm h2
      refine lx_nil ?_
      refine x_plain (E := EE []) ?_
      refine lx_move rfl rfl rfl ?_
      refine lx_bin (v := I (((i + 1 : Nat) : Int))) rfl rfl (fun _ => rfl) (fun _ => (bin_add_i _ _ _ (by unfold inI; omega)).trans (by rfl)) rfl rfl ?_
      refine lx_assign rfl rfl rfl ?_
      refine lx_nil ?_
      repeat (refine kblk_n ?_)
      refine kseq_n ?_
      exact ⟨rfl, ⟨(i + 1, wB), hlt, g2, hM, hrd, ho6, ho13⟩, by show 6 - (i + 1) < 6 - i; omega, rfl, ⟨rfl, rfl, rfl, rfl, rfl, rfl, trivial⟩⟩
    · skip
      obtain rfl : i = 6 := by omega
      rw [rts_n] at ho13
      rw [show 224 + 32 * 6 = 416 from by omega] at hrd
      refine lx_binB false rfl rfl (fun _ => rfl) (fun _ => bin_lss_i _ _ _) (by rw [decide_eq_false_iff_not]; omega) rfl rfl ?_
      refine lx_nil ?_
      refine x_false rfl ?_
      refine x_exit ?_
      refine xs_plain (E := EE [50]) ?_
      refine lx_move rfl rfl rfl ?_
      refine lx_move rfl rfl rfl ?_
      cases hcb : cleanB (sub bs (416) (szB m)) m
      · skip
        have hoX := ho6
        have hoY := ho13
        have hMX := hM
        have hrX := hrd
        refine lx_callW gt_low (M := fun k => k = b) (fun k _ => Nat.zero_le k) rfl rfl ent50 rfl rfl hGF (Q := fun w1 w2 v => (∃ ba bc, v = .agg (Value.slice ba (gotB (bs.drop (416)) 0 m).length bc :: (pad0 96 (got (lftB (bs.drop (416)) 0 m) (errB (bs.drop (416)) 0 m) 96)).map U8).toArray ∧ SlV 4 w2 ba bc ((gotB (bs.drop (416)) 0 m).map .bool) ∧ ∀ ad, ba = some ad → w1.heap.size ≤ ad.block) ∧ RdAt 84 S w2 b (bs.drop (416)) 171) (fun w1 h1 g1 => (rag_calls S b (bs.drop (416)) m (by omega) (by rw [List.length_drop]; omega) w1 g1 (hrd.grow h1).lt (hrd.grow h1) (fun k hk => by have := hSz k hk; have := hM.size; have := h1.size; omega)).mono fun r w2 ⟨v, q1, q2, q3, q4⟩ => ⟨v, q1, q2, q3, by obtain ⟨e1, e2, e3⟩ := agN (l := (bs.drop (416))) (m := m) (by rw [List.length_drop]; omega) hcb; obtain ⟨f1, f2, f3⟩ := rd_e (bs := (bs.drop (416))) (e := 171) 96 (by decide); rw [e2, e3, f2, f3] at q4; exact q4⟩) (fun w74a w74 v hg74 hm74 gg74 hq => ?_)
        have hGF := gt_low.plain gg74
        have hM := (hM.trans (grow_mm hg74)).trans hm74
        have ho6 := hm74.own (ho6.grow hg74) hn6
        have ho13 := hm74.own (ho13.grow hg74) hn13
        obtain ⟨⟨ba, bc, rfl, hbt, hbq⟩, hrd⟩ := hq
        have hbz : ∀ ad, ba = some ad → w.heap.size ≤ ad.block ∧ ad.block ≠ b ∧ ad.block ≠ b6 ∧ ad.block ≠ b13 := fun ad e => by have h1 := hbq ad e; have h2 := (hoX.grow hg74).lt; have h3 := (hrX.grow hg74).lt; have h4 := hMX.size; have h5 := hg74.size; have h6 := (hoY.grow hg74).lt; exact ⟨by omega, by omega, by omega, by omega⟩
        clear hoX hoY hMX hrX hbq
        clear hg74 hm74
        refine lx_fak 597 rfl Try.underlying40 rfl Try.sizeOf38 (by decide) rfl rfl rfl ?_
        have hu : UL (hdOf bs).cs Co0 ((Zs 160).map U8) (hdOf (bs.drop (112))).cs ((sub bs (224) (32 * 6)).map U8) Ag0 [U64 0] := ⟨Hd.len (hdOf_ok (show 112 ≤ bs.length by omega)), by decide, by decide, Hd.len (hdOf_ok (show 112 ≤ (bs.drop (112)).length by rw [List.length_drop]; omega)), by rw [List.length_map, sub_len (by omega)], by decide, by decide⟩
        refine lx_stW gt_low (fun w' h => hGF.g _ _ _ h) (fun w' h => ho13.grow (hp_below h)) (Nat.zero_le _) rfl rfl Try.sizeOf38 (by rw [List.length_cons, List.length_map, pad_len (got_lm _ _ _)]) (CoC_one _ _ _ _) (by rw [show ((Value.slice ba (gotB (bs.drop (416)) 0 m).length bc :: (pad0 96 (got (lftB (bs.drop (416)) 0 m) (errB (bs.drop (416)) 0 m) 96)).map U8) : List Value).length = 97 from by rw [List.length_cons, List.length_map, pad_len (got_lm _ _ _)], hu.len]; decide) rfl (fun wS5a wS5 hC g2 hm h2 => ?_)
        rw [UC_5 hu (by rw [List.length_cons, List.length_map, pad_len (got_lm _ _ _)])] at h2
        have hbt := (hbt.grow (hp_below hC)).mm hm (fun ad e h => (hbz ad e).2.2.2 h)
        have hM := (hM.trans (grow_mm (hp_below hC))).trans' hm (fun i e hi => by subst e; omega)
        have hrd := (hrd.grow (hp_below hC)).mm hm (fun e => hn13 e.symm) (fun i hi hl e => by have := hSz i hi; subst e; omega)
        have ho6 := hm.own (ho6.grow (hp_below hC)) (fun e => hx13_6 e.symm)
        have ho13 := h2
        have hGF := gt_low.plain g2
        clear hC hm h2
        refine lx_nil ?_
        refine xs_plain (E := EE [51]) ?_
        refine lx_move rfl rfl rfl ?_
        refine lx_callW gt_low (M := fun k => k = b) (fun k _ => Nat.zero_le k) rfl rfl ent51 rfl rfl hGF (Q := fun w1 w2 v => v = U64 (pn (got (bs.drop (416)) 171 8) (got (bs.drop (416)) 171 8).length) ∧ RdAt 84 S w2 b (bs.drop (416)) 171) (fun w1 h1 g1 => (su_calls S b (bs.drop (416)) 171 w1 g1 (Nat.zero_le _) (hrd.grow h1)).mono fun r w2 ⟨v, q1, q2, q3, q4⟩ => ⟨v, q1, q2, q3, by obtain ⟨f1, f2, f3⟩ := rd_e (bs := (bs.drop (416))) (e := 171) 8 (by decide); rw [f2, f3] at q4; exact q4⟩) (fun w77a w77 v hg77 hm77 gg77 hq => ?_)
        have hGF := gt_low.plain gg77
        have hM := (hM.trans (grow_mm hg77)).trans hm77
        have ho6 := hm77.own (ho6.grow hg77) hn6
        have ho13 := hm77.own (ho13.grow hg77) hn13
        obtain ⟨rfl, hrd⟩ := hq
        have hbt := (hbt.grow hg77).mm hm77 (fun ad e h => (hbz ad e).2.1 h)
        clear hg77 hm77
        refine lx_fak 694 rfl Try.underlying40 rfl Try.sizeOf22 (by decide) rfl rfl rfl ?_
        have hu : UL (hdOf bs).cs Co0 ((Zs 160).map U8) (hdOf (bs.drop (112))).cs ((sub bs (224) (32 * 6)).map U8) (Value.slice ba (gotB (bs.drop (416)) 0 m).length bc :: (pad0 96 (got (lftB (bs.drop (416)) 0 m) (errB (bs.drop (416)) 0 m) 96)).map U8) [U64 0] := ⟨Hd.len (hdOf_ok (show 112 ≤ bs.length by omega)), by decide, by decide, Hd.len (hdOf_ok (show 112 ≤ (bs.drop (112)).length by rw [List.length_drop]; omega)), by rw [List.length_map, sub_len (by omega)], by rw [List.length_cons, List.length_map, pad_len (got_lm _ _ _)], by decide⟩
        refine lx_st1W gt_low (fun w' h => hGF.g _ _ _ h) (fun w' h => ho13.grow (hp_below h)) (Nat.zero_le _) rfl rfl Try.sizeOf22 rfl (by rw [hu.len]; decide) rfl (fun wGa wG hC g2 hm h2 => ?_)
        rw [UC_6 hu] at h2
        have hbt := (hbt.grow (hp_below hC)).mm hm (fun ad e h => (hbz ad e).2.2.2 h)
        have hM := (hM.trans (grow_mm (hp_below hC))).trans' hm (fun i e hi => by subst e; omega)
        have hrd := (hrd.grow (hp_below hC)).mm hm (fun e => hn13 e.symm) (fun i hi hl e => by have := hSz i hi; subst e; omega)
        have ho6 := hm.own (ho6.grow (hp_below hC)) (fun e => hx13_6 e.symm)
        have ho13 := h2
        have hGF := gt_low.plain g2
        clear hC hm h2
        refine lx_nil ?_
        refine x_seq ?_
        refine xs_plain (E := EE [48]) ?_
        refine lx_move rfl rfl rfl ?_
        refine lx_callW gt_low (M := fun k => k = b) (fun k _ => Nat.zero_le k) rfl rfl ent48 rfl rfl hGF (Q := fun w1 w2 v => v = I 171) (fun w1 h1 g1 => (ren_calls S b (bs.drop (416)) 171 w1 g1 (hrd.grow h1)).mono fun r w2 ⟨q1, q2⟩ => ⟨_, q1, q2, by simp [endE]⟩) (fun w80a w80 v hg80 hm80 gg80 hq => ?_)
        have hGF := gt_low.plain gg80
        have hM := (hM.trans (grow_mm hg80)).trans hm80
        have ho6 := hm80.own (ho6.grow hg80) hn6
        have ho13 := hm80.own (ho13.grow hg80) hn13
        subst hq
        have hbt := (hbt.grow hg80).mm hm80 (fun ad e h => (hbz ad e).2.1 h)
        clear hg80 hm80
        refine lx_assign rfl rfl rfl ?_
        refine lx_nil ?_
        refine xs_plain (E := EE []) ?_
        refine lx_move rfl rfl rfl ?_
        refine lx_binB true rfl rfl (fun _ => rfl) (fun _ => bin_neq_i _ _ _) (by decide) rfl rfl ?_
        refine lx_nil ?_
        refine x_true rfl ?_
        refine xs_plain (E := EE []) ?_
        refine lx_build (ps := []) (vs := []) (v := .agg U0.toArray) rfl (fun w => bldU0 w) rfl rfl ?_
        refine lx_move rfl rfl rfl ?_
        refine lx_stW gt_low (fun w' h => hGF.g _ _ _ h) (fun w' h => ho6.grow (hp_below h)) (Nat.zero_le _) rfl rfl Try.sizeOf40 (U0_len) (by decide) (by rw [U0_len]; decide) rfl (fun wFa wF hC g2 hm h2 => ?_)
        rw [lay_all _ _ (rfl)] at h2
        have hbt := (hbt.grow (hp_below hC)).mm hm (fun ad e h => (hbz ad e).2.2.1 h)
        have hM := (hM.trans (grow_mm (hp_below hC))).trans' hm (fun i e hi => by subst e; omega)
        have ho6 := h2
        have hGF := gt_low.plain g2
        clear hC hm h2
        refine lx_assign rfl rfl rfl ?_
        refine lx_nil ?_
        refine x_ret ?_
        repeat (first | refine kseq_ret ?_ | refine kblk_ret ?_)
        exact kret_ctW rfl rfl rfl Try.isAgg40 Try.sizeOf40 U0_len (fun w' h => (ho6.grow (hp_below h)).range) (fun w' hw' => ⟨(hM.trans (grow_mm (hp_below hw'))).grow (fun k hk e => by omega), fun _ h => absurd h (by decide), fun _ _ => rfl, fun h => absurd hlen h⟩)
      · skip
        have hoX := ho6
        have hoY := ho13
        have hMX := hM
        have hrX := hrd
        refine lx_callW gt_low (M := fun k => k = b) (fun k _ => Nat.zero_le k) rfl rfl ent50 rfl rfl hGF (Q := fun w1 w2 v => (∃ ba bc, v = .agg (Value.slice ba (bt (sub bs (416) (szB m)) m).length bc :: (sub bs (416 + szB m) 96).map U8).toArray ∧ SlV 4 w2 ba bc ((bt (sub bs (416) (szB m)) m).map .bool) ∧ ∀ ad, ba = some ad → w1.heap.size ≤ ad.block) ∧ RdAt 84 S w2 b (bs.drop (416 + szB m + 96)) 0) (fun w1 h1 g1 => (by obtain ⟨e1, e2, e3⟩ := agY (l := (bs.drop (416))) (m := m) (by rw [List.length_drop]; omega) hcb; obtain ⟨f1, f2, f3⟩ := rd_k (bs := (bs.drop (416)).drop (szB m)) (m := 96) (by rw [List.length_drop, List.length_drop]; omega); have := rag_calls S b (bs.drop (416)) m (by omega) (by rw [List.length_drop]; omega) w1 g1 (hrd.grow h1).lt (hrd.grow h1) (fun k hk => by have := hSz k hk; have := hM.size; have := h1.size; omega); rw [e2, e3, e1, f1, f2, f3, pad_all (by rw [List.length_take, List.length_drop, List.length_drop]; omega), List.drop_drop, List.drop_drop] at this; exact this)) (fun w74a w74 v hg74 hm74 gg74 hq => ?_)
        have hGF := gt_low.plain gg74
        have hM := (hM.trans (grow_mm hg74)).trans hm74
        have ho6 := hm74.own (ho6.grow hg74) hn6
        have ho13 := hm74.own (ho13.grow hg74) hn13
        obtain ⟨⟨ba, bc, rfl, hbt, hbq⟩, hrd⟩ := hq
        have hbz : ∀ ad, ba = some ad → w.heap.size ≤ ad.block ∧ ad.block ≠ b ∧ ad.block ≠ b6 ∧ ad.block ≠ b13 := fun ad e => by have h1 := hbq ad e; have h2 := (hoX.grow hg74).lt; have h3 := (hrX.grow hg74).lt; have h4 := hMX.size; have h5 := hg74.size; have h6 := (hoY.grow hg74).lt; exact ⟨by omega, by omega, by omega, by omega⟩
        clear hoX hoY hMX hrX hbq
        clear hg74 hm74
        refine lx_fak 597 rfl Try.underlying40 rfl Try.sizeOf38 (by decide) rfl rfl rfl ?_
        have hu : UL (hdOf bs).cs Co0 ((Zs 160).map U8) (hdOf (bs.drop (112))).cs ((sub bs (224) (32 * 6)).map U8) Ag0 [U64 0] := ⟨Hd.len (hdOf_ok (show 112 ≤ bs.length by omega)), by decide, by decide, Hd.len (hdOf_ok (show 112 ≤ (bs.drop (112)).length by rw [List.length_drop]; omega)), by rw [List.length_map, sub_len (by omega)], by decide, by decide⟩
        refine lx_stW gt_low (fun w' h => hGF.g _ _ _ h) (fun w' h => ho13.grow (hp_below h)) (Nat.zero_le _) rfl rfl Try.sizeOf38 (by rw [List.length_cons, List.length_map, sub_len (by omega)]) (CoC_one _ _ _ _) (by rw [show ((Value.slice ba (bt (sub bs (416) (szB m)) m).length bc :: (sub bs (416 + szB m) 96).map U8) : List Value).length = 97 from by rw [List.length_cons, List.length_map, sub_len (by omega)], hu.len]; decide) rfl (fun wS5a wS5 hC g2 hm h2 => ?_)
        rw [UC_5 hu (by rw [List.length_cons, List.length_map, sub_len (by omega)])] at h2
        have hbt := (hbt.grow (hp_below hC)).mm hm (fun ad e h => (hbz ad e).2.2.2 h)
        have hM := (hM.trans (grow_mm (hp_below hC))).trans' hm (fun i e hi => by subst e; omega)
        have hrd := (hrd.grow (hp_below hC)).mm hm (fun e => hn13 e.symm) (fun i hi hl e => by have := hSz i hi; subst e; omega)
        have ho6 := hm.own (ho6.grow (hp_below hC)) (fun e => hx13_6 e.symm)
        have ho13 := h2
        have hGF := gt_low.plain g2
        clear hC hm h2
        refine lx_nil ?_
        refine xs_plain (E := EE [51]) ?_
        refine lx_move rfl rfl rfl ?_
        refine lx_callW gt_low (M := fun k => k = b) (fun k _ => Nat.zero_le k) rfl rfl ent51 rfl rfl hGF (Q := fun w1 w2 v => v = U64 (pn (sub bs (416 + szB m + 96) 8) 8) ∧ RdAt 84 S w2 b [] 0) (fun w1 h1 g1 => (suk (by rw [List.length_drop]; omega) w1 g1 (hrd.grow h1)).mono fun r w2 ⟨v, q1, q2, q3, q4⟩ => ⟨v, q1, q2, q3, by rw [List.drop_drop, List.drop_of_length_le (by omega)] at q4; exact q4⟩) (fun w77a w77 v hg77 hm77 gg77 hq => ?_)
        have hGF := gt_low.plain gg77
        have hM := (hM.trans (grow_mm hg77)).trans hm77
        have ho6 := hm77.own (ho6.grow hg77) hn6
        have ho13 := hm77.own (ho13.grow hg77) hn13
        obtain ⟨rfl, hrd⟩ := hq
        have hbt := (hbt.grow hg77).mm hm77 (fun ad e h => (hbz ad e).2.1 h)
        clear hg77 hm77
        refine lx_fak 694 rfl Try.underlying40 rfl Try.sizeOf22 (by decide) rfl rfl rfl ?_
        have hu : UL (hdOf bs).cs Co0 ((Zs 160).map U8) (hdOf (bs.drop (112))).cs ((sub bs (224) (32 * 6)).map U8) (Value.slice ba (bt (sub bs (416) (szB m)) m).length bc :: (sub bs (416 + szB m) 96).map U8) [U64 0] := ⟨Hd.len (hdOf_ok (show 112 ≤ bs.length by omega)), by decide, by decide, Hd.len (hdOf_ok (show 112 ≤ (bs.drop (112)).length by rw [List.length_drop]; omega)), by rw [List.length_map, sub_len (by omega)], by rw [List.length_cons, List.length_map, sub_len (by omega)], by decide⟩
        refine lx_st1W gt_low (fun w' h => hGF.g _ _ _ h) (fun w' h => ho13.grow (hp_below h)) (Nat.zero_le _) rfl rfl Try.sizeOf22 rfl (by rw [hu.len]; decide) rfl (fun wGa wG hC g2 hm h2 => ?_)
        rw [UC_6 hu] at h2
        have hbt := (hbt.grow (hp_below hC)).mm hm (fun ad e h => (hbz ad e).2.2.2 h)
        have hM := (hM.trans (grow_mm (hp_below hC))).trans' hm (fun i e hi => by subst e; omega)
        have hrd := (hrd.grow (hp_below hC)).mm hm (fun e => hn13 e.symm) (fun i hi hl e => by have := hSz i hi; subst e; omega)
        have ho6 := hm.own (ho6.grow (hp_below hC)) (fun e => hx13_6 e.symm)
        have ho13 := h2
        have hGF := gt_low.plain g2
        clear hC hm h2
        refine lx_nil ?_
        refine x_seq ?_
        refine xs_plain (E := EE [48]) ?_
        refine lx_move rfl rfl rfl ?_
        refine lx_callW gt_low (M := fun k => k = b) (fun k _ => Nat.zero_le k) rfl rfl ent48 rfl rfl hGF (Q := fun w1 w2 v => v = I 0) (fun w1 h1 g1 => (ren_calls S b [] 0 w1 g1 (hrd.grow h1)).mono fun r w2 ⟨q1, q2⟩ => ⟨_, q1, q2, by simp [endE]⟩) (fun w80a w80 v hg80 hm80 gg80 hq => ?_)
        have hGF := gt_low.plain gg80
        have hM := (hM.trans (grow_mm hg80)).trans hm80
        have ho6 := hm80.own (ho6.grow hg80) hn6
        have ho13 := hm80.own (ho13.grow hg80) hn13
        subst hq
        have hbt := (hbt.grow hg80).mm hm80 (fun ad e h => (hbz ad e).2.1 h)
        clear hg80 hm80
        refine lx_assign rfl rfl rfl ?_
        refine lx_nil ?_
        refine xs_plain (E := EE []) ?_
        refine lx_move rfl rfl rfl ?_
        refine lx_binB false rfl rfl (fun _ => rfl) (fun _ => bin_neq_i _ _ _) (by decide) rfl rfl ?_
        refine lx_nil ?_
        refine x_false rfl ?_
        refine x_skip ?_
        refine xs_plain (E := EE []) ?_
        have hu : UL (hdOf bs).cs Co0 ((Zs 160).map U8) (hdOf (bs.drop (112))).cs ((sub bs (224) (32 * 6)).map U8) (Value.slice ba (bt (sub bs (416) (szB m)) m).length bc :: (sub bs (416 + szB m) 96).map U8) [U64 (pn (sub bs (416 + szB m + 96) 8) 8)] := ⟨Hd.len (hdOf_ok (show 112 ≤ bs.length by omega)), by decide, by decide, Hd.len (hdOf_ok (show 112 ≤ (bs.drop (112)).length by rw [List.length_drop]; omega)), by rw [List.length_map, sub_len (by omega)], by rw [List.length_cons, List.length_map, sub_len (by omega)], rfl⟩
        refine lx_loadr (cs := UC (hdOf bs).cs Co0 ((Zs 160).map U8) (hdOf (bs.drop (112))).cs ((sub bs (224) (32 * 6)).map U8) (Value.slice ba (bt (sub bs (416) (szB m)) m).length bc :: (sub bs (416 + szB m) 96).map U8) [U64 (pn (sub bs (416 + szB m + 96) 8) 8)]) rfl Try.isAgg40 Try.sizeOf40 hu.len (fun w' h => (ho13.grow (hp_below h)).range) rfl rfl ?_
        have hu : UL (hdOf bs).cs Co0 ((Zs 160).map U8) (hdOf (bs.drop (112))).cs ((sub bs (224) (32 * 6)).map U8) (Value.slice ba (bt (sub bs (416) (szB m)) m).length bc :: (sub bs (416 + szB m) 96).map U8) [U64 (pn (sub bs (416 + szB m + 96) 8) 8)] := ⟨Hd.len (hdOf_ok (show 112 ≤ bs.length by omega)), by decide, by decide, Hd.len (hdOf_ok (show 112 ≤ (bs.drop (112)).length by rw [List.length_drop]; omega)), by rw [List.length_map, sub_len (by omega)], by rw [List.length_cons, List.length_map, sub_len (by omega)], rfl⟩
        refine lx_stW gt_low (fun w' h => hGF.g _ _ _ h) (fun w' h => ho6.grow (hp_below h)) (Nat.zero_le _) rfl rfl Try.sizeOf40 (hu.len) (UC_one (Hd.one _) (by decide) (one_u8 _) (Hd.one _) (one_u8 _) (CoC_one _ _ _ _) (rfl)) (by rw [hu.len, U0_len]; decide) rfl (fun wFa wF hC g2 hm h2 => ?_)
        rw [lay_all _ _ (by rw [hu.len, U0_len])] at h2
        have hbt := (hbt.grow (hp_below hC)).mm hm (fun ad e h => (hbz ad e).2.2.1 h)
        have hM := (hM.trans (grow_mm (hp_below hC))).trans' hm (fun i e hi => by subst e; omega)
        have ho6 := h2
        have hGF := gt_low.plain g2
        clear hC hm h2
        refine lx_assign rfl rfl rfl ?_
        refine lx_nil ?_
        refine x_ret ?_
        repeat (first | refine kseq_ret ?_ | refine kblk_ret ?_)
        exact kret_ctW rfl rfl rfl Try.isAgg40 Try.sizeOf40 hu.len (fun w' h => (ho6.grow (hp_below h)).range) (fun w' hw' => ⟨(hM.trans (grow_mm (hp_below hw'))).grow (fun k hk e => by omega), fun _ _ => ⟨ba, bc, rfl, hbt.grow (hp_below hw'), fun ad e => (hbz ad e).1⟩, fun _ h => absurd h (by decide), fun h => absurd hlen h⟩)
  · skip
    refine lx_binB true rfl rfl (fun _ => rfl) (fun _ => bin_neq_i _ _ _) (bne_iff_ne.2 (fun e => hlen (by omega))) rfl rfl ?_
    refine lx_nil ?_
    refine x_true rfl ?_
    refine xs_plain (E := EE []) ?_
    refine lx_build (ps := []) (vs := []) (v := .agg U0.toArray) rfl (fun w => bldU0 w) rfl rfl ?_
    refine lx_storea 6 hGF rfl rfl rfl Try.sizeOf40 U0_len U0_len (by decide) rfl ?_
    refine lx_assign rfl rfl rfl ?_
    refine lx_nil ?_
    refine x_ret ?_
    repeat (first | refine kseq_ret ?_ | refine kblk_ret ?_)
    exact kret_ct 6 rfl rfl rfl rfl Try.isAgg40 Try.sizeOf40 U0_len (fun w' hw' => ⟨hp_below hw', fun h => absurd h hlen, fun h => absurd h hlen, fun _ => rfl⟩)
theorem dec1_calls (n : Int) (m : Nat) (hm : szN n = m) (bs : By) (a : Option Addr) (cap : Nat) (hcap : bs.length ≤ cap) (w : World) (hw : Gt w) (hby : BytesAt w a bs) (hab : ∀ ad, a = some ad → ad.block < w.heap.size) : Calls Try.prog 26 [.slice a bs.length cap, I n, I 1].toArray w (fun e w' => Grow w w' ∧ (bs.length = sz2 m → cleanB (sub bs (624 + 48 * m) (szB m)) m = true → ∃ ka kc, SlW 29 48 w' ka kc m ((keysOf (bs.drop 112) m).flatten.map U8) ∧ (∀ k, Of ka k → w.heap.size ≤ k) ∧ ∃ ba bc, e = .returned (.tuple #[.agg (UC (hdOf bs).cs (Value.slice ka m kc :: (sub (bs.drop 112) (48 * m) 48).map U8) ((sub bs (160 + 48 * m) (32 * 5)).map U8) (hdOf (bs.drop (320 + 48 * m))).cs ((sub bs (432 + 48 * m) (32 * 6)).map U8) (Value.slice ba (bt (sub bs (624 + 48 * m) (szB m)) m).length bc :: (sub bs (624 + 48 * m + szB m) 96).map U8) [U64 (pn (sub bs (624 + 48 * m + szB m + 96) 8) 8)]).toArray, I 0]) ∧ SlV 4 w' ba bc ((bt (sub bs (624 + 48 * m) (szB m)) m).map .bool) ∧ ∀ ad, ba = some ad → w.heap.size ≤ ad.block) ∧ (bs.length = sz2 m → cleanB (sub bs (624 + 48 * m) (szB m)) m = false → e = .returned (.tuple #[.agg U0.toArray, I 171])) ∧ (¬ bs.length = sz2 m → e = .returned (.tuple #[.agg U0.toArray, I 170]))) := by
  have hm2 := szN_le n
  rw [hm] at hm2
  have hGF : BOk Gt (pl w) := gt_low.plain hw
  refine calls_of_X (G := Gt) Try.func26 rfl rfl (Hp (pl w) []) (hp_refl (pl w) trivial rides_true) (good_hp hGF) ?_
  refine xs_plain (E := EE []) ?_
  refine lx_allocr 6 hGF zvU rfl rfl ?_
  intro b6
  refine lx_assign rfl rfl rfl ?_
  refine lx_nil ?_
  refine xs_plain (E := EE []) ?_
  refine lx_move rfl rfl rfl ?_
  refine lx_callC rfl rfl ent44 (fun w1 _ hG => siz_calls n w1 hG) rfl rfl ?_
  rw [hm]
  refine lx_assign rfl rfl rfl ?_
  refine lx_nil ?_
  refine xs_plain (E := EE []) ?_
  refine lx_move rfl rfl rfl ?_
  refine lx_callC rfl rfl ent31 (fun w1 _ hG => szs_calls (m : Int) w1 hG) rfl rfl ?_
  rw [show szN (m : Int) = m from by rw [← hm]; exact szN_id n]
  refine lx_move rfl rfl rfl ?_
  refine lx_ext rfl rfl rfl rfl ?_
  refine lx_ext rfl rfl rfl rfl ?_
  refine lx_ext rfl rfl rfl rfl ?_
  refine lx_ext rfl rfl rfl rfl ?_
  refine lx_assign rfl rfl rfl ?_
  refine lx_assign rfl rfl rfl ?_
  refine lx_assign rfl rfl rfl ?_
  refine lx_assign rfl rfl rfl ?_
  refine lx_nil ?_
  refine x_seq ?_
  refine xs_plain (E := EE []) ?_
  refine lx_move rfl rfl rfl ?_
  refine lx_len rfl (fun _ => len_slice Try.underlying46 _ _ _ _) rfl rfl ?_
  refine lx_move rfl rfl rfl ?_
  refine lx_move rfl rfl rfl ?_
  refine lx_move rfl rfl rfl ?_
  refine lx_bslV 31 [I 0, I (sz2 m : Nat), I (sz3 m : Nat), I (sz4 m : Nat)] hGF rfl rfl rfl (by decide) (by decide) Try.underlying90 Try.sizeOf3 Try.zeroValue3 rfl rfl rfl ?_
  intro b31
  refine lx_move rfl rfl rfl ?_
  refine lx_is0 1 rfl rfl Try.underlying90 Try.sizeOf3 rfl (by show 1 < 4; decide) rfl rfl ?_
  refine lx_loadl 31 rfl rfl rfl Try.isAgg3 rfl rfl ?_
  by_cases hlen : bs.length = sz2 m
  · skip
    have hB : szB m ≤ 64 := by unfold szB; omega
    have hsz : bs.length = 48 * m + szB m + 728 := hlen
    have hcl : ∀ {ka : Option Addr} {kc : Nat}, (Value.slice ka m kc :: (sub (bs.drop 112) (48 * m) 48).map U8).length = 49 := fun {ka kc} => by rw [List.length_cons, List.length_map, sub_len (by rw [List.length_drop]; omega)]
    refine lx_binB false rfl rfl (fun _ => rfl) (fun _ => bin_neq_i _ _ _) (by simp [hlen]) rfl rfl ?_
    refine lx_nil ?_
    refine x_false rfl ?_
    refine x_skip ?_
    refine xs_plain (E := EE []) ?_
    refine lx_move rfl rfl rfl ?_
    refine lx_build (ps := [(0, .tmp 37)]) (vs := [.slice a bs.length cap]) rfl (fun w => bldRd _ _ _ w) rfl rfl ?_
    refine lx_boxr 39 hGF rfl rfl rfl ?_
    intro b39
    refine lx_assign rfl rfl rfl ?_
    refine lx_nil ?_
    refine x_now0 gt_low (fun w3 hC g3 => ?_)
    obtain ⟨b, hbe⟩ : ∃ b, b = b39 := ⟨_, rfl⟩
    subst hbe
    have hM : MM (fun k => k = b) w w3 := grow_mm (hp_below hC)
    have hzb : w.heap.size ≤ b := (hC.own 39 _ _ _ rfl).2.elim id False.elim
    have hrd : RdAt 84 (fun k => k < w.heap.size) w3 b bs 0 := ⟨a, cap, (hC.own 39 _ _ _ rfl).1, hcap, hby.grow (hp_below hC), fun ad e => ⟨hab ad e, fun e2 => by have := hab ad e; omega⟩⟩
    obtain ⟨S, hS⟩ : ∃ S : Nat → Prop, S = fun k => k < w.heap.size := ⟨_, rfl⟩
    rw [← hS] at hrd
    have hSz : ∀ k, S k → k < w.heap.size := fun k hk => by rw [hS] at hk; exact hk
    have ho6 := (hC.own 6 _ _ _ rfl).1
    have hz6 : w.heap.size ≤ b6 := (hC.own 6 _ _ _ rfl).2.elim id False.elim
    have hn6 : b6 ≠ b := fun e => by subst e; exact absurd (hC.inj 6 39 _ _ _ _ _ rfl rfl) (by decide)
    have hGF := gt_low.plain g3
    clear hC
    refine xs_plain (E := EE [45]) ?_
    refine lx_move rfl rfl rfl ?_
    refine lx_callW gt_low (M := fun k => k = b) (fun k _ => Nat.zero_le k) rfl rfl ent45 rfl rfl hGF (Q := fun w1 w2 v => v = .agg (hdOf bs).cs.toArray ∧ RdAt 84 S w2 b (bs.drop 112) 0) (fun w1 h1 g1 => rhd_calls S b bs (by omega) w1 g1 (hrd.grow h1).lt (hrd.grow h1) (fun k hk => by have := hSz k hk; have := hM.size; have := h1.size; omega)) (fun w41a w41 v hg41 hm41 gg41 hq => ?_)
    have hGF := gt_low.plain gg41
    have hM := (hM.trans (grow_mm hg41)).trans hm41
    have ho6 := hm41.own (ho6.grow hg41) hn6
    obtain ⟨rfl, hrd⟩ := hq
    clear hg41 hm41
    refine lx_build (ps := [(0, .tmp 41)]) (vs := [.agg (hdOf bs).cs.toArray]) (v := .agg (UC (hdOf bs).cs Co0 ((Zs 160).map U8) Hd0.cs ((Zs 192).map U8) Ag0 [U64 0]).toArray) rfl (fun w => bldU (hdOf bs).cs (Hd.len (hdOf_ok (by omega))) w) rfl rfl ?_
    refine lx_allocr 13 hGF zvU rfl rfl ?_
    intro b13
    refine lx_storea 13 hGF rfl rfl rfl Try.sizeOf40 (UL.len ⟨Hd.len (hdOf_ok (show 112 ≤ bs.length by omega)), by decide, by decide, by decide, by decide, by decide, by decide⟩) U0_len (UC_one (Hd.one _) (by decide) (one_u8 _) (Hd.one _) (one_u8 _) (by decide) (by decide)) rfl ?_
    refine lx_nil ?_
    refine x_seq ?_
    refine x_now0 gt_low (fun w4 hC g4 => ?_)
    have hM := hM.trans (grow_mm (hp_below hC))
    have hlb := hrd.lt
    have hrd := hrd.grow (hp_below hC)
    have hl6 := ho6.lt
    have ho6 := ho6.grow (hp_below hC)
    have ho13 := (hC.own 13 _ _ _ rfl).1
    have hq5 := (hC.own 13 _ _ _ rfl).2.elim id False.elim
    simp only [pl] at hq5
    have hz13 : w.heap.size ≤ b13 := by omega
    have hn13 : b13 ≠ b := fun e => by omega
    have hx13_6 : b13 ≠ b6 := fun e => by omega
    have hGF := gt_low.plain g4
    clear hC hq5 hl6 hlb
    have hu : UL (hdOf bs).cs Co0 ((Zs 160).map U8) Hd0.cs ((Zs 192).map U8) Ag0 [U64 0] := ⟨Hd.len (hdOf_ok (show 112 ≤ bs.length by omega)), by decide, by decide, by decide, by decide, by decide, by decide⟩
    refine xs_plain (E := EE []) ?_
    refine lx_move rfl rfl rfl ?_
    refine lx_binB true rfl rfl (fun _ => rfl) (fun _ => bin_eql_i _ _ _) (by decide) rfl rfl ?_
    refine lx_nil ?_
    refine x_true rfl ?_
    refine xs_plain (E := EE [46]) ?_
    refine lx_move rfl rfl rfl ?_
    refine lx_move rfl rfl rfl ?_
    have hoX := ho6
    have hoY := ho13
    have hMX := hM
    have hrX := hrd
    refine lx_callW gt_low (M := fun k => k = b) (fun k _ => Nat.zero_le k) rfl rfl ent46 rfl rfl hGF (Q := fun w1 w2 v => (∃ ka kc, v = .agg (Value.slice ka m kc :: (sub (bs.drop 112) (48 * m) 48).map U8).toArray ∧ SlW 29 48 w2 ka kc m ((keysOf (bs.drop 112) m).flatten.map U8) ∧ ∀ k, Of ka k → w1.heap.size ≤ k) ∧ RdAt 84 S w2 b (bs.drop (160 + 48 * m)) 0) (fun w1 h1 g1 => (rco_calls S b (bs.drop 112) m (by omega) (by rw [List.length_drop]; omega) w1 g1 (hrd.grow h1).lt (hrd.grow h1) (fun k hk => by have := hSz k hk; have := hM.size; have := h1.size; omega)).mono fun r w2 ⟨v, q1, q2, q3, q4⟩ => ⟨v, q1, q2, q3, by rw [List.drop_drop, show 112 + (48 * m + 48) = 160 + 48 * m from by omega] at q4; exact q4⟩) (fun w47a w47 v hg47 hm47 gg47 hq => ?_)
    have hGF := gt_low.plain gg47
    have hM := (hM.trans (grow_mm hg47)).trans hm47
    have ho6 := hm47.own (ho6.grow hg47) hn6
    have ho13 := hm47.own (ho13.grow hg47) hn13
    obtain ⟨⟨ka, kc, rfl, hks, hkq⟩, hrd⟩ := hq
    have hkn : ∀ k, Of ka k → w.heap.size ≤ k ∧ k ≠ b ∧ k ≠ b6 ∧ k ≠ b13 := fun k hk => by have h1 := hkq k hk; have h2 := (hoX.grow hg47).lt; have h3 := (hrX.grow hg47).lt; have h4 := hMX.size; have h5 := hg47.size; have h6 := (hoY.grow hg47).lt; exact ⟨by omega, by omega, by omega, by omega⟩
    clear hoX hoY hMX hrX hkq
    clear hg47 hm47
    refine lx_fak 98 rfl Try.underlying40 rfl Try.sizeOf31 (by decide) rfl rfl rfl ?_
    have hu : UL (hdOf bs).cs Co0 ((Zs 160).map U8) Hd0.cs ((Zs 192).map U8) Ag0 [U64 0] := ⟨Hd.len (hdOf_ok (show 112 ≤ bs.length by omega)), by decide, by decide, by decide, by decide, by decide, by decide⟩
    refine lx_stW gt_low (fun w' h => hGF.g _ _ _ h) (fun w' h => ho13.grow (hp_below h)) (Nat.zero_le _) rfl rfl Try.sizeOf31 (hcl) (CoC_one _ _ _ _) (by rw [show ((Value.slice ka m kc :: (sub (bs.drop 112) (48 * m) 48).map U8) : List Value).length = 49 from hcl, hu.len]; decide) rfl (fun wS1a wS1 hC g2 hm h2 => ?_)
    rw [UC_1 hu (hcl)] at h2
    have hks := (hks.grow (hp_below hC)).mm hm (fun k hk e => (hkn k hk).2.2.2 e)
    have hM := (hM.trans (grow_mm (hp_below hC))).trans' hm (fun i e hi => by subst e; omega)
    have hrd := (hrd.grow (hp_below hC)).mm hm (fun e => hn13 e.symm) (fun i hi hl e => by have := hSz i hi; subst e; omega)
    have ho6 := hm.own (ho6.grow (hp_below hC)) (fun e => hx13_6 e.symm)
    have ho13 := h2
    have hGF := gt_low.plain g2
    clear hC hm h2
    refine lx_nil ?_
    refine xs_plain (E := EE []) ?_
    refine lx_assign rfl rfl rfl ?_
    refine lx_nil ?_
    refine x_block ?_
    rw [show ((Zs 160).map U8) = ((rts bs (160 + 48 * m) 0 5).map U8) from by rw [rts_0]] at ho13
    refine x_forW gt_low (ι := { x : Nat × World // x.1 ≤ 5 ∧ Gt x.2 ∧ MM (fun k => k = b) w x.2 ∧ RdAt 84 S x.2 b (bs.drop (160 + 48 * m + 32 * x.1)) 0 ∧ OwnB x.2 b6 U0 40 ∧ OwnB x.2 b13 (UC (hdOf bs).cs (Value.slice ka m kc :: (sub (bs.drop 112) (48 * m) 48).map U8) ((rts bs (160 + 48 * m) x.1 5).map U8) Hd0.cs ((Zs 192).map U8) Ag0 [U64 0]) 40 ∧ SlW 29 48 x.2 ka kc m ((keysOf (bs.drop 112) m).flatten.map U8) }) (fun x => [(1, I (m : Int)), (2, I 1), (6, .pointer (some ⟨b6, 0, none⟩)), (12, .pointer (some ⟨b, 0, none⟩)), (13, .pointer (some ⟨b13, 0, none⟩)), (14, I (x.1.1 : Int))]) (fun x => x.1.2) (fun x => 5 - x.1.1) ⟨(0, wS1), Nat.zero_le _, hGF.g _ _ _ (hp_refl (pl wS1) trivial rides_true), hM, hrd, ho6, ho13, hks⟩ (fun x => x.2.2.1) rfl ⟨rfl, rfl, rfl, rfl, rfl, rfl, trivial⟩ ?_
    clear hM hrd ho6 ho13 hGF hks
    rintro ⟨⟨i, wk⟩, hi, gk, hM, hrd, ho6, ho13, hks⟩
    dsimp only at hi gk hM hrd ho6 ho13 hks ⊢
    have hGF := gt_low.plain gk
    refine x_seq ?_
    refine xs_plain (E := EE []) ?_
    refine lx_move rfl rfl rfl ?_
    rcases Nat.lt_or_ge i 5 with hlt | hge
    · skip
      refine lx_binB true rfl rfl (fun _ => rfl) (fun _ => bin_lss_i _ _ _) (by simp; omega) rfl rfl ?_
      refine lx_nil ?_
      refine x_true rfl ?_
      refine x_skip ?_
      refine x_seq ?_
      refine x_block ?_
      refine x_plain (E := EE [47]) ?_
      refine lx_move rfl rfl rfl ?_
      refine lx_move rfl rfl rfl ?_
      refine lx_callW gt_low (M := fun k => k = b) (fun k _ => Nat.zero_le k) rfl rfl ent47 rfl rfl hGF (Q := fun w1 w2 v => v = .agg ((sub bs (160 + 48 * m + 32 * i) 32).map U8).toArray ∧ RdAt 84 S w2 b (bs.drop (160 + 48 * m + 32 * (i + 1))) 0) (fun w1 h1 g1 => (r32k (by rw [List.length_drop]; omega) w1 g1 (hrd.grow h1).lt (hrd.grow h1) (fun k hk => by have := hSz k hk; have := hM.size; have := h1.size; omega)).mono fun r w2 ⟨v, q1, q2, q3, q4⟩ => ⟨v, q1, q2, q3, by rw [List.drop_drop, show 160 + 48 * m + 32 * i + 32 = 160 + 48 * m + 32 * (i + 1) from by omega] at q4; exact q4⟩) (fun w55a w55 v hg55 hm55 gg55 hq => ?_)
      have hGF := gt_low.plain gg55
      have hM := (hM.trans (grow_mm hg55)).trans hm55
      have ho6 := hm55.own (ho6.grow hg55) hn6
      have ho13 := hm55.own (ho13.grow hg55) hn13
      obtain ⟨rfl, hrd⟩ := hq
      have hks := (hks.grow hg55).mm hm55 (fun k hk e => (hkn k hk).2.1 e)
      clear hg55 hm55
      refine lx_fak 147 rfl Try.underlying40 rfl Try.sizeOf32 (by decide) rfl rfl rfl ?_
      refine lx_iak i (147 + 32 * i) rfl rfl Try.underlying32 Try.sizeOf24 rfl hlt (by omega) rfl rfl ?_
      have hu : UL (hdOf bs).cs (Value.slice ka m kc :: (sub (bs.drop 112) (48 * m) 48).map U8) ((rts bs (160 + 48 * m) i 5).map U8) Hd0.cs ((Zs 192).map U8) Ag0 [U64 0] := ⟨Hd.len (hdOf_ok (show 112 ≤ bs.length by omega)), hcl, by rw [List.length_map, rts_len hi (by omega)], by decide, by decide, by decide, by decide⟩
      refine lx_stW gt_low (fun w' h => hGF.g _ _ _ h) (fun w' h => ho13.grow (hp_below h)) (Nat.zero_le _) rfl rfl Try.sizeOf24 (by rw [List.length_map]; exact sub_len (by omega)) (one_u8 _) (by rw [List.length_map, sub_len (by omega), hu.len]; omega) rfl (fun wBa wB hC g2 hm h2 => ?_)
      rw [UC_2 hlt (by omega) hu.l0 hu.l1] at h2
      have hks := (hks.grow (hp_below hC)).mm hm (fun k hk e => (hkn k hk).2.2.2 e)
      have hM := (hM.trans (grow_mm (hp_below hC))).trans' hm (fun i e hi => by subst e; omega)
      have hrd := (hrd.grow (hp_below hC)).mm hm (fun e => hn13 e.symm) (fun i hi hl e => by have := hSz i hi; subst e; omega)
      have ho6 := hm.own (ho6.grow (hp_below hC)) (fun e => hx13_6 e.symm)
      have ho13 := h2
      have hGF := gt_low.plain g2
      clear hC hm h2
      refine lx_nil ?_
      refine x_plain (E := EE []) ?_
      refine lx_move rfl rfl rfl ?_
      refine lx_bin (v := I (((i + 1 : Nat) : Int))) rfl rfl (fun _ => rfl) (fun _ => (bin_add_i _ _ _ (by unfold inI; omega)).trans (by rfl)) rfl rfl ?_
      refine lx_assign rfl rfl rfl ?_
      refine lx_nil ?_
      repeat (refine kblk_n ?_)
      refine kseq_n ?_
      exact ⟨rfl, ⟨(i + 1, wB), hlt, g2, hM, hrd, ho6, ho13, hks⟩, by show 5 - (i + 1) < 5 - i; omega, rfl, ⟨rfl, rfl, rfl, rfl, rfl, rfl, trivial⟩⟩
    · skip
      obtain rfl : i = 5 := by omega
      rw [rts_n] at ho13
      rw [show 160 + 48 * m + 32 * 5 = 320 + 48 * m from by omega] at hrd
      refine lx_binB false rfl rfl (fun _ => rfl) (fun _ => bin_lss_i _ _ _) (by rw [decide_eq_false_iff_not]; omega) rfl rfl ?_
      refine lx_nil ?_
      refine x_false rfl ?_
      refine x_exit ?_
      refine x_seq ?_
      refine xs_plain (E := EE []) ?_
      refine lx_move rfl rfl rfl ?_
      refine lx_binB true rfl rfl (fun _ => rfl) (fun _ => bin_lss_i _ _ _) (by decide) rfl rfl ?_
      refine lx_nil ?_
      refine x_true rfl ?_
      refine xs_plain (E := EE [45]) ?_
      refine lx_move rfl rfl rfl ?_
      refine lx_callW gt_low (M := fun k => k = b) (fun k _ => Nat.zero_le k) rfl rfl ent45 rfl rfl hGF (Q := fun w1 w2 v => v = .agg (hdOf (bs.drop (320 + 48 * m))).cs.toArray ∧ RdAt 84 S w2 b (bs.drop (432 + 48 * m)) 0) (fun w1 h1 g1 => (rhd_calls S b (bs.drop (320 + 48 * m)) (by rw [List.length_drop]; omega) w1 g1 (hrd.grow h1).lt (hrd.grow h1) (fun k hk => by have := hSz k hk; have := hM.size; have := h1.size; omega)).mono fun r w2 ⟨v, q1, q2, q3, q4⟩ => ⟨v, q1, q2, q3, by rw [List.drop_drop, show 320 + 48 * m + 112 = 432 + 48 * m from by omega] at q4; exact q4⟩) (fun w61a w61 v hg61 hm61 gg61 hq => ?_)
      have hGF := gt_low.plain gg61
      have hM := (hM.trans (grow_mm hg61)).trans hm61
      have ho6 := hm61.own (ho6.grow hg61) hn6
      have ho13 := hm61.own (ho13.grow hg61) hn13
      obtain ⟨rfl, hrd⟩ := hq
      have hks := (hks.grow hg61).mm hm61 (fun k hk e => (hkn k hk).2.1 e)
      clear hg61 hm61
      refine lx_fak 307 rfl Try.underlying40 rfl Try.sizeOf26 (by decide) rfl rfl rfl ?_
      have hu : UL (hdOf bs).cs (Value.slice ka m kc :: (sub (bs.drop 112) (48 * m) 48).map U8) ((sub bs (160 + 48 * m) (32 * 5)).map U8) Hd0.cs ((Zs 192).map U8) Ag0 [U64 0] := ⟨Hd.len (hdOf_ok (show 112 ≤ bs.length by omega)), hcl, by rw [List.length_map, sub_len (by omega)], by decide, by decide, by decide, by decide⟩
      refine lx_stW gt_low (fun w' h => hGF.g _ _ _ h) (fun w' h => ho13.grow (hp_below h)) (Nat.zero_le _) rfl rfl Try.sizeOf26 (Hd.len (hdOf_ok (show 112 ≤ (bs.drop (320 + 48 * m)).length by rw [List.length_drop]; omega))) (Hd.one _) (by rw [show ((hdOf (bs.drop (320 + 48 * m))).cs : List Value).length = 98 from Hd.len (hdOf_ok (show 112 ≤ (bs.drop (320 + 48 * m)).length by rw [List.length_drop]; omega)), hu.len]; decide) rfl (fun wS3a wS3 hC g2 hm h2 => ?_)
      rw [UC_3 hu (Hd.len (hdOf_ok (show 112 ≤ (bs.drop (320 + 48 * m)).length by rw [List.length_drop]; omega)))] at h2
      have hks := (hks.grow (hp_below hC)).mm hm (fun k hk e => (hkn k hk).2.2.2 e)
      have hM := (hM.trans (grow_mm (hp_below hC))).trans' hm (fun i e hi => by subst e; omega)
      have hrd := (hrd.grow (hp_below hC)).mm hm (fun e => hn13 e.symm) (fun i hi hl e => by have := hSz i hi; subst e; omega)
      have ho6 := hm.own (ho6.grow (hp_below hC)) (fun e => hx13_6 e.symm)
      have ho13 := h2
      have hGF := gt_low.plain g2
      clear hC hm h2
      refine lx_nil ?_
      refine xs_plain (E := EE []) ?_
      refine lx_assign rfl rfl rfl ?_
      refine lx_nil ?_
      refine x_block ?_
      rw [show ((Zs 192).map U8) = ((rts bs (432 + 48 * m) 0 6).map U8) from by rw [rts_0]] at ho13
      refine x_forW gt_low (ι := { x : Nat × World // x.1 ≤ 6 ∧ Gt x.2 ∧ MM (fun k => k = b) w x.2 ∧ RdAt 84 S x.2 b (bs.drop (432 + 48 * m + 32 * x.1)) 0 ∧ OwnB x.2 b6 U0 40 ∧ OwnB x.2 b13 (UC (hdOf bs).cs (Value.slice ka m kc :: (sub (bs.drop 112) (48 * m) 48).map U8) ((sub bs (160 + 48 * m) (32 * 5)).map U8) (hdOf (bs.drop (320 + 48 * m))).cs ((rts bs (432 + 48 * m) x.1 6).map U8) Ag0 [U64 0]) 40 ∧ SlW 29 48 x.2 ka kc m ((keysOf (bs.drop 112) m).flatten.map U8) }) (fun x => [(1, I (m : Int)), (2, I 1), (6, .pointer (some ⟨b6, 0, none⟩)), (12, .pointer (some ⟨b, 0, none⟩)), (13, .pointer (some ⟨b13, 0, none⟩)), (15, I (x.1.1 : Int))]) (fun x => x.1.2) (fun x => 6 - x.1.1) ⟨(0, wS3), Nat.zero_le _, hGF.g _ _ _ (hp_refl (pl wS3) trivial rides_true), hM, hrd, ho6, ho13, hks⟩ (fun x => x.2.2.1) rfl ⟨rfl, rfl, rfl, rfl, rfl, rfl, trivial⟩ ?_
      clear hM hrd ho6 ho13 hGF hks
      rintro ⟨⟨i, wk⟩, hi, gk, hM, hrd, ho6, ho13, hks⟩
      dsimp only at hi gk hM hrd ho6 ho13 hks ⊢
      have hGF := gt_low.plain gk
      refine x_seq ?_
      refine xs_plain (E := EE []) ?_
      refine lx_move rfl rfl rfl ?_
      rcases Nat.lt_or_ge i 6 with hlt | hge
      · skip
        refine lx_binB true rfl rfl (fun _ => rfl) (fun _ => bin_lss_i _ _ _) (by simp; omega) rfl rfl ?_
        refine lx_nil ?_
        refine x_true rfl ?_
        refine x_skip ?_
        refine x_seq ?_
        refine x_block ?_
        refine x_plain (E := EE [47]) ?_
        refine lx_move rfl rfl rfl ?_
        refine lx_move rfl rfl rfl ?_
        refine lx_callW gt_low (M := fun k => k = b) (fun k _ => Nat.zero_le k) rfl rfl ent47 rfl rfl hGF (Q := fun w1 w2 v => v = .agg ((sub bs (432 + 48 * m + 32 * i) 32).map U8).toArray ∧ RdAt 84 S w2 b (bs.drop (432 + 48 * m + 32 * (i + 1))) 0) (fun w1 h1 g1 => (r32k (by rw [List.length_drop]; omega) w1 g1 (hrd.grow h1).lt (hrd.grow h1) (fun k hk => by have := hSz k hk; have := hM.size; have := h1.size; omega)).mono fun r w2 ⟨v, q1, q2, q3, q4⟩ => ⟨v, q1, q2, q3, by rw [List.drop_drop, show 432 + 48 * m + 32 * i + 32 = 432 + 48 * m + 32 * (i + 1) from by omega] at q4; exact q4⟩) (fun w69a w69 v hg69 hm69 gg69 hq => ?_)
        have hGF := gt_low.plain gg69
        have hM := (hM.trans (grow_mm hg69)).trans hm69
        have ho6 := hm69.own (ho6.grow hg69) hn6
        have ho13 := hm69.own (ho13.grow hg69) hn13
        obtain ⟨rfl, hrd⟩ := hq
        have hks := (hks.grow hg69).mm hm69 (fun k hk e => (hkn k hk).2.1 e)
        clear hg69 hm69
        refine lx_fak 405 rfl Try.underlying40 rfl Try.sizeOf33 (by decide) rfl rfl rfl ?_
        refine lx_iak i (405 + 32 * i) rfl rfl Try.underlying33 Try.sizeOf24 rfl hlt (by omega) rfl rfl ?_
        have hu : UL (hdOf bs).cs (Value.slice ka m kc :: (sub (bs.drop 112) (48 * m) 48).map U8) ((sub bs (160 + 48 * m) (32 * 5)).map U8) (hdOf (bs.drop (320 + 48 * m))).cs ((rts bs (432 + 48 * m) i 6).map U8) Ag0 [U64 0] := ⟨Hd.len (hdOf_ok (show 112 ≤ bs.length by omega)), hcl, by rw [List.length_map, sub_len (by omega)], Hd.len (hdOf_ok (show 112 ≤ (bs.drop (320 + 48 * m)).length by rw [List.length_drop]; omega)), by rw [List.length_map, rts_len hi (by omega)], by decide, by decide⟩
        refine lx_stW gt_low (fun w' h => hGF.g _ _ _ h) (fun w' h => ho13.grow (hp_below h)) (Nat.zero_le _) rfl rfl Try.sizeOf24 (by rw [List.length_map]; exact sub_len (by omega)) (one_u8 _) (by rw [List.length_map, sub_len (by omega), hu.len]; omega) rfl (fun wBa wB hC g2 hm h2 => ?_)
        rw [UC_4 hlt (by omega) hu.l0 hu.l1 hu.l2 hu.l3] at h2
        have hks := (hks.grow (hp_below hC)).mm hm (fun k hk e => (hkn k hk).2.2.2 e)
        have hM := (hM.trans (grow_mm (hp_below hC))).trans' hm (fun i e hi => by subst e; omega)
        have hrd := (hrd.grow (hp_below hC)).mm hm (fun e => hn13 e.symm) (fun i hi hl e => by have := hSz i hi; subst e; omega)
        have ho6 := hm.own (ho6.grow (hp_below hC)) (fun e => hx13_6 e.symm)
        have ho13 := h2
        have hGF := gt_low.plain g2
        clear hC hm h2
        refine lx_nil ?_
        refine x_plain (E := EE []) ?_
        refine lx_move rfl rfl rfl ?_
        refine lx_bin (v := I (((i + 1 : Nat) : Int))) rfl rfl (fun _ => rfl) (fun _ => (bin_add_i _ _ _ (by unfold inI; omega)).trans (by rfl)) rfl rfl ?_
        refine lx_assign rfl rfl rfl ?_
        refine lx_nil ?_
        repeat (refine kblk_n ?_)
        refine kseq_n ?_
        exact ⟨rfl, ⟨(i + 1, wB), hlt, g2, hM, hrd, ho6, ho13, hks⟩, by show 6 - (i + 1) < 6 - i; omega, rfl, ⟨rfl, rfl, rfl, rfl, rfl, rfl, trivial⟩⟩
      · skip
        obtain rfl : i = 6 := by omega
        rw [rts_n] at ho13
        rw [show 432 + 48 * m + 32 * 6 = 624 + 48 * m from by omega] at hrd
        refine lx_binB false rfl rfl (fun _ => rfl) (fun _ => bin_lss_i _ _ _) (by rw [decide_eq_false_iff_not]; omega) rfl rfl ?_
        refine lx_nil ?_
        refine x_false rfl ?_
        refine x_exit ?_
        refine xs_plain (E := EE [50]) ?_
        refine lx_move rfl rfl rfl ?_
        refine lx_move rfl rfl rfl ?_
        cases hcb : cleanB (sub bs (624 + 48 * m) (szB m)) m
        · skip
          have hoX := ho6
          have hoY := ho13
          have hMX := hM
          have hrX := hrd
          refine lx_callW gt_low (M := fun k => k = b) (fun k _ => Nat.zero_le k) rfl rfl ent50 rfl rfl hGF (Q := fun w1 w2 v => (∃ ba bc, v = .agg (Value.slice ba (gotB (bs.drop (624 + 48 * m)) 0 m).length bc :: (pad0 96 (got (lftB (bs.drop (624 + 48 * m)) 0 m) (errB (bs.drop (624 + 48 * m)) 0 m) 96)).map U8).toArray ∧ SlV 4 w2 ba bc ((gotB (bs.drop (624 + 48 * m)) 0 m).map .bool) ∧ ∀ ad, ba = some ad → w1.heap.size ≤ ad.block) ∧ RdAt 84 S w2 b (bs.drop (624 + 48 * m)) 171) (fun w1 h1 g1 => (rag_calls S b (bs.drop (624 + 48 * m)) m (by omega) (by rw [List.length_drop]; omega) w1 g1 (hrd.grow h1).lt (hrd.grow h1) (fun k hk => by have := hSz k hk; have := hM.size; have := h1.size; omega)).mono fun r w2 ⟨v, q1, q2, q3, q4⟩ => ⟨v, q1, q2, q3, by obtain ⟨e1, e2, e3⟩ := agN (l := (bs.drop (624 + 48 * m))) (m := m) (by rw [List.length_drop]; omega) hcb; obtain ⟨f1, f2, f3⟩ := rd_e (bs := (bs.drop (624 + 48 * m))) (e := 171) 96 (by decide); rw [e2, e3, f2, f3] at q4; exact q4⟩) (fun w74a w74 v hg74 hm74 gg74 hq => ?_)
          have hGF := gt_low.plain gg74
          have hM := (hM.trans (grow_mm hg74)).trans hm74
          have ho6 := hm74.own (ho6.grow hg74) hn6
          have ho13 := hm74.own (ho13.grow hg74) hn13
          obtain ⟨⟨ba, bc, rfl, hbt, hbq⟩, hrd⟩ := hq
          have hbz : ∀ ad, ba = some ad → w.heap.size ≤ ad.block ∧ ad.block ≠ b ∧ ad.block ≠ b6 ∧ ad.block ≠ b13 := fun ad e => by have h1 := hbq ad e; have h2 := (hoX.grow hg74).lt; have h3 := (hrX.grow hg74).lt; have h4 := hMX.size; have h5 := hg74.size; have h6 := (hoY.grow hg74).lt; exact ⟨by omega, by omega, by omega, by omega⟩
          clear hoX hoY hMX hrX hbq
          have hks := (hks.grow hg74).mm hm74 (fun k hk e => (hkn k hk).2.1 e)
          clear hg74 hm74
          refine lx_fak 597 rfl Try.underlying40 rfl Try.sizeOf38 (by decide) rfl rfl rfl ?_
          have hu : UL (hdOf bs).cs (Value.slice ka m kc :: (sub (bs.drop 112) (48 * m) 48).map U8) ((sub bs (160 + 48 * m) (32 * 5)).map U8) (hdOf (bs.drop (320 + 48 * m))).cs ((sub bs (432 + 48 * m) (32 * 6)).map U8) Ag0 [U64 0] := ⟨Hd.len (hdOf_ok (show 112 ≤ bs.length by omega)), hcl, by rw [List.length_map, sub_len (by omega)], Hd.len (hdOf_ok (show 112 ≤ (bs.drop (320 + 48 * m)).length by rw [List.length_drop]; omega)), by rw [List.length_map, sub_len (by omega)], by decide, by decide⟩
          refine lx_stW gt_low (fun w' h => hGF.g _ _ _ h) (fun w' h => ho13.grow (hp_below h)) (Nat.zero_le _) rfl rfl Try.sizeOf38 (by rw [List.length_cons, List.length_map, pad_len (got_lm _ _ _)]) (CoC_one _ _ _ _) (by rw [show ((Value.slice ba (gotB (bs.drop (624 + 48 * m)) 0 m).length bc :: (pad0 96 (got (lftB (bs.drop (624 + 48 * m)) 0 m) (errB (bs.drop (624 + 48 * m)) 0 m) 96)).map U8) : List Value).length = 97 from by rw [List.length_cons, List.length_map, pad_len (got_lm _ _ _)], hu.len]; decide) rfl (fun wS5a wS5 hC g2 hm h2 => ?_)
          rw [UC_5 hu (by rw [List.length_cons, List.length_map, pad_len (got_lm _ _ _)])] at h2
          have hks := (hks.grow (hp_below hC)).mm hm (fun k hk e => (hkn k hk).2.2.2 e)
          have hbt := (hbt.grow (hp_below hC)).mm hm (fun ad e h => (hbz ad e).2.2.2 h)
          have hM := (hM.trans (grow_mm (hp_below hC))).trans' hm (fun i e hi => by subst e; omega)
          have hrd := (hrd.grow (hp_below hC)).mm hm (fun e => hn13 e.symm) (fun i hi hl e => by have := hSz i hi; subst e; omega)
          have ho6 := hm.own (ho6.grow (hp_below hC)) (fun e => hx13_6 e.symm)
          have ho13 := h2
          have hGF := gt_low.plain g2
          clear hC hm h2
          refine lx_nil ?_
          refine xs_plain (E := EE [51]) ?_
          refine lx_move rfl rfl rfl ?_
          refine lx_callW gt_low (M := fun k => k = b) (fun k _ => Nat.zero_le k) rfl rfl ent51 rfl rfl hGF (Q := fun w1 w2 v => v = U64 (pn (got (bs.drop (624 + 48 * m)) 171 8) (got (bs.drop (624 + 48 * m)) 171 8).length) ∧ RdAt 84 S w2 b (bs.drop (624 + 48 * m)) 171) (fun w1 h1 g1 => (su_calls S b (bs.drop (624 + 48 * m)) 171 w1 g1 (Nat.zero_le _) (hrd.grow h1)).mono fun r w2 ⟨v, q1, q2, q3, q4⟩ => ⟨v, q1, q2, q3, by obtain ⟨f1, f2, f3⟩ := rd_e (bs := (bs.drop (624 + 48 * m))) (e := 171) 8 (by decide); rw [f2, f3] at q4; exact q4⟩) (fun w77a w77 v hg77 hm77 gg77 hq => ?_)
          have hGF := gt_low.plain gg77
          have hM := (hM.trans (grow_mm hg77)).trans hm77
          have ho6 := hm77.own (ho6.grow hg77) hn6
          have ho13 := hm77.own (ho13.grow hg77) hn13
          obtain ⟨rfl, hrd⟩ := hq
          have hks := (hks.grow hg77).mm hm77 (fun k hk e => (hkn k hk).2.1 e)
          have hbt := (hbt.grow hg77).mm hm77 (fun ad e h => (hbz ad e).2.1 h)
          clear hg77 hm77
          refine lx_fak 694 rfl Try.underlying40 rfl Try.sizeOf22 (by decide) rfl rfl rfl ?_
          have hu : UL (hdOf bs).cs (Value.slice ka m kc :: (sub (bs.drop 112) (48 * m) 48).map U8) ((sub bs (160 + 48 * m) (32 * 5)).map U8) (hdOf (bs.drop (320 + 48 * m))).cs ((sub bs (432 + 48 * m) (32 * 6)).map U8) (Value.slice ba (gotB (bs.drop (624 + 48 * m)) 0 m).length bc :: (pad0 96 (got (lftB (bs.drop (624 + 48 * m)) 0 m) (errB (bs.drop (624 + 48 * m)) 0 m) 96)).map U8) [U64 0] := ⟨Hd.len (hdOf_ok (show 112 ≤ bs.length by omega)), hcl, by rw [List.length_map, sub_len (by omega)], Hd.len (hdOf_ok (show 112 ≤ (bs.drop (320 + 48 * m)).length by rw [List.length_drop]; omega)), by rw [List.length_map, sub_len (by omega)], by rw [List.length_cons, List.length_map, pad_len (got_lm _ _ _)], by decide⟩
          refine lx_st1W gt_low (fun w' h => hGF.g _ _ _ h) (fun w' h => ho13.grow (hp_below h)) (Nat.zero_le _) rfl rfl Try.sizeOf22 rfl (by rw [hu.len]; decide) rfl (fun wGa wG hC g2 hm h2 => ?_)
          rw [UC_6 hu] at h2
          have hks := (hks.grow (hp_below hC)).mm hm (fun k hk e => (hkn k hk).2.2.2 e)
          have hbt := (hbt.grow (hp_below hC)).mm hm (fun ad e h => (hbz ad e).2.2.2 h)
          have hM := (hM.trans (grow_mm (hp_below hC))).trans' hm (fun i e hi => by subst e; omega)
          have hrd := (hrd.grow (hp_below hC)).mm hm (fun e => hn13 e.symm) (fun i hi hl e => by have := hSz i hi; subst e; omega)
          have ho6 := hm.own (ho6.grow (hp_below hC)) (fun e => hx13_6 e.symm)
          have ho13 := h2
          have hGF := gt_low.plain g2
          clear hC hm h2
          refine lx_nil ?_
          refine x_seq ?_
          refine xs_plain (E := EE [48]) ?_
          refine lx_move rfl rfl rfl ?_
          refine lx_callW gt_low (M := fun k => k = b) (fun k _ => Nat.zero_le k) rfl rfl ent48 rfl rfl hGF (Q := fun w1 w2 v => v = I 171) (fun w1 h1 g1 => (ren_calls S b (bs.drop (624 + 48 * m)) 171 w1 g1 (hrd.grow h1)).mono fun r w2 ⟨q1, q2⟩ => ⟨_, q1, q2, by simp [endE]⟩) (fun w80a w80 v hg80 hm80 gg80 hq => ?_)
          have hGF := gt_low.plain gg80
          have hM := (hM.trans (grow_mm hg80)).trans hm80
          have ho6 := hm80.own (ho6.grow hg80) hn6
          have ho13 := hm80.own (ho13.grow hg80) hn13
          subst hq
          have hks := (hks.grow hg80).mm hm80 (fun k hk e => (hkn k hk).2.1 e)
          have hbt := (hbt.grow hg80).mm hm80 (fun ad e h => (hbz ad e).2.1 h)
          clear hg80 hm80
          refine lx_assign rfl rfl rfl ?_
          refine lx_nil ?_
          refine xs_plain (E := EE []) ?_
          refine lx_move rfl rfl rfl ?_
          refine lx_binB true rfl rfl (fun _ => rfl) (fun _ => bin_neq_i _ _ _) (by decide) rfl rfl ?_
          refine lx_nil ?_
          refine x_true rfl ?_
          refine xs_plain (E := EE []) ?_
          refine lx_build (ps := []) (vs := []) (v := .agg U0.toArray) rfl (fun w => bldU0 w) rfl rfl ?_
          refine lx_move rfl rfl rfl ?_
          refine lx_stW gt_low (fun w' h => hGF.g _ _ _ h) (fun w' h => ho6.grow (hp_below h)) (Nat.zero_le _) rfl rfl Try.sizeOf40 (U0_len) (by decide) (by rw [U0_len]; decide) rfl (fun wFa wF hC g2 hm h2 => ?_)
          rw [lay_all _ _ (rfl)] at h2
          have hks := (hks.grow (hp_below hC)).mm hm (fun k hk e => (hkn k hk).2.2.1 e)
          have hbt := (hbt.grow (hp_below hC)).mm hm (fun ad e h => (hbz ad e).2.2.1 h)
          have hM := (hM.trans (grow_mm (hp_below hC))).trans' hm (fun i e hi => by subst e; omega)
          have ho6 := h2
          have hGF := gt_low.plain g2
          clear hC hm h2
          refine lx_assign rfl rfl rfl ?_
          refine lx_nil ?_
          refine x_ret ?_
          repeat (first | refine kseq_ret ?_ | refine kblk_ret ?_)
          exact kret_ctW rfl rfl rfl Try.isAgg40 Try.sizeOf40 U0_len (fun w' h => (ho6.grow (hp_below h)).range) (fun w' hw' => ⟨(hM.trans (grow_mm (hp_below hw'))).grow (fun k hk e => by omega), fun _ h => absurd h (by decide), fun _ _ => rfl, fun h => absurd hlen h⟩)
        · skip
          have hoX := ho6
          have hoY := ho13
          have hMX := hM
          have hrX := hrd
          refine lx_callW gt_low (M := fun k => k = b) (fun k _ => Nat.zero_le k) rfl rfl ent50 rfl rfl hGF (Q := fun w1 w2 v => (∃ ba bc, v = .agg (Value.slice ba (bt (sub bs (624 + 48 * m) (szB m)) m).length bc :: (sub bs (624 + 48 * m + szB m) 96).map U8).toArray ∧ SlV 4 w2 ba bc ((bt (sub bs (624 + 48 * m) (szB m)) m).map .bool) ∧ ∀ ad, ba = some ad → w1.heap.size ≤ ad.block) ∧ RdAt 84 S w2 b (bs.drop (624 + 48 * m + szB m + 96)) 0) (fun w1 h1 g1 => (by obtain ⟨e1, e2, e3⟩ := agY (l := (bs.drop (624 + 48 * m))) (m := m) (by rw [List.length_drop]; omega) hcb; obtain ⟨f1, f2, f3⟩ := rd_k (bs := (bs.drop (624 + 48 * m)).drop (szB m)) (m := 96) (by rw [List.length_drop, List.length_drop]; omega); have := rag_calls S b (bs.drop (624 + 48 * m)) m (by omega) (by rw [List.length_drop]; omega) w1 g1 (hrd.grow h1).lt (hrd.grow h1) (fun k hk => by have := hSz k hk; have := hM.size; have := h1.size; omega); rw [e2, e3, e1, f1, f2, f3, pad_all (by rw [List.length_take, List.length_drop, List.length_drop]; omega), List.drop_drop, List.drop_drop] at this; exact this)) (fun w74a w74 v hg74 hm74 gg74 hq => ?_)
          have hGF := gt_low.plain gg74
          have hM := (hM.trans (grow_mm hg74)).trans hm74
          have ho6 := hm74.own (ho6.grow hg74) hn6
          have ho13 := hm74.own (ho13.grow hg74) hn13
          obtain ⟨⟨ba, bc, rfl, hbt, hbq⟩, hrd⟩ := hq
          have hbz : ∀ ad, ba = some ad → w.heap.size ≤ ad.block ∧ ad.block ≠ b ∧ ad.block ≠ b6 ∧ ad.block ≠ b13 := fun ad e => by have h1 := hbq ad e; have h2 := (hoX.grow hg74).lt; have h3 := (hrX.grow hg74).lt; have h4 := hMX.size; have h5 := hg74.size; have h6 := (hoY.grow hg74).lt; exact ⟨by omega, by omega, by omega, by omega⟩
          clear hoX hoY hMX hrX hbq
          have hks := (hks.grow hg74).mm hm74 (fun k hk e => (hkn k hk).2.1 e)
          clear hg74 hm74
          refine lx_fak 597 rfl Try.underlying40 rfl Try.sizeOf38 (by decide) rfl rfl rfl ?_
          have hu : UL (hdOf bs).cs (Value.slice ka m kc :: (sub (bs.drop 112) (48 * m) 48).map U8) ((sub bs (160 + 48 * m) (32 * 5)).map U8) (hdOf (bs.drop (320 + 48 * m))).cs ((sub bs (432 + 48 * m) (32 * 6)).map U8) Ag0 [U64 0] := ⟨Hd.len (hdOf_ok (show 112 ≤ bs.length by omega)), hcl, by rw [List.length_map, sub_len (by omega)], Hd.len (hdOf_ok (show 112 ≤ (bs.drop (320 + 48 * m)).length by rw [List.length_drop]; omega)), by rw [List.length_map, sub_len (by omega)], by decide, by decide⟩
          refine lx_stW gt_low (fun w' h => hGF.g _ _ _ h) (fun w' h => ho13.grow (hp_below h)) (Nat.zero_le _) rfl rfl Try.sizeOf38 (by rw [List.length_cons, List.length_map, sub_len (by omega)]) (CoC_one _ _ _ _) (by rw [show ((Value.slice ba (bt (sub bs (624 + 48 * m) (szB m)) m).length bc :: (sub bs (624 + 48 * m + szB m) 96).map U8) : List Value).length = 97 from by rw [List.length_cons, List.length_map, sub_len (by omega)], hu.len]; decide) rfl (fun wS5a wS5 hC g2 hm h2 => ?_)
          rw [UC_5 hu (by rw [List.length_cons, List.length_map, sub_len (by omega)])] at h2
          have hks := (hks.grow (hp_below hC)).mm hm (fun k hk e => (hkn k hk).2.2.2 e)
          have hbt := (hbt.grow (hp_below hC)).mm hm (fun ad e h => (hbz ad e).2.2.2 h)
          have hM := (hM.trans (grow_mm (hp_below hC))).trans' hm (fun i e hi => by subst e; omega)
          have hrd := (hrd.grow (hp_below hC)).mm hm (fun e => hn13 e.symm) (fun i hi hl e => by have := hSz i hi; subst e; omega)
          have ho6 := hm.own (ho6.grow (hp_below hC)) (fun e => hx13_6 e.symm)
          have ho13 := h2
          have hGF := gt_low.plain g2
          clear hC hm h2
          refine lx_nil ?_
          refine xs_plain (E := EE [51]) ?_
          refine lx_move rfl rfl rfl ?_
          refine lx_callW gt_low (M := fun k => k = b) (fun k _ => Nat.zero_le k) rfl rfl ent51 rfl rfl hGF (Q := fun w1 w2 v => v = U64 (pn (sub bs (624 + 48 * m + szB m + 96) 8) 8) ∧ RdAt 84 S w2 b [] 0) (fun w1 h1 g1 => (suk (by rw [List.length_drop]; omega) w1 g1 (hrd.grow h1)).mono fun r w2 ⟨v, q1, q2, q3, q4⟩ => ⟨v, q1, q2, q3, by rw [List.drop_drop, List.drop_of_length_le (by omega)] at q4; exact q4⟩) (fun w77a w77 v hg77 hm77 gg77 hq => ?_)
          have hGF := gt_low.plain gg77
          have hM := (hM.trans (grow_mm hg77)).trans hm77
          have ho6 := hm77.own (ho6.grow hg77) hn6
          have ho13 := hm77.own (ho13.grow hg77) hn13
          obtain ⟨rfl, hrd⟩ := hq
          have hks := (hks.grow hg77).mm hm77 (fun k hk e => (hkn k hk).2.1 e)
          have hbt := (hbt.grow hg77).mm hm77 (fun ad e h => (hbz ad e).2.1 h)
          clear hg77 hm77
          refine lx_fak 694 rfl Try.underlying40 rfl Try.sizeOf22 (by decide) rfl rfl rfl ?_
          have hu : UL (hdOf bs).cs (Value.slice ka m kc :: (sub (bs.drop 112) (48 * m) 48).map U8) ((sub bs (160 + 48 * m) (32 * 5)).map U8) (hdOf (bs.drop (320 + 48 * m))).cs ((sub bs (432 + 48 * m) (32 * 6)).map U8) (Value.slice ba (bt (sub bs (624 + 48 * m) (szB m)) m).length bc :: (sub bs (624 + 48 * m + szB m) 96).map U8) [U64 0] := ⟨Hd.len (hdOf_ok (show 112 ≤ bs.length by omega)), hcl, by rw [List.length_map, sub_len (by omega)], Hd.len (hdOf_ok (show 112 ≤ (bs.drop (320 + 48 * m)).length by rw [List.length_drop]; omega)), by rw [List.length_map, sub_len (by omega)], by rw [List.length_cons, List.length_map, sub_len (by omega)], by decide⟩
          refine lx_st1W gt_low (fun w' h => hGF.g _ _ _ h) (fun w' h => ho13.grow (hp_below h)) (Nat.zero_le _) rfl rfl Try.sizeOf22 rfl (by rw [hu.len]; decide) rfl (fun wGa wG hC g2 hm h2 => ?_)
          rw [UC_6 hu] at h2
          have hks := (hks.grow (hp_below hC)).mm hm (fun k hk e => (hkn k hk).2.2.2 e)
          have hbt := (hbt.grow (hp_below hC)).mm hm (fun ad e h => (hbz ad e).2.2.2 h)
          have hM := (hM.trans (grow_mm (hp_below hC))).trans' hm (fun i e hi => by subst e; omega)
          have hrd := (hrd.grow (hp_below hC)).mm hm (fun e => hn13 e.symm) (fun i hi hl e => by have := hSz i hi; subst e; omega)
          have ho6 := hm.own (ho6.grow (hp_below hC)) (fun e => hx13_6 e.symm)
          have ho13 := h2
          have hGF := gt_low.plain g2
          clear hC hm h2
          refine lx_nil ?_
          refine x_seq ?_
          refine xs_plain (E := EE [48]) ?_
          refine lx_move rfl rfl rfl ?_
          refine lx_callW gt_low (M := fun k => k = b) (fun k _ => Nat.zero_le k) rfl rfl ent48 rfl rfl hGF (Q := fun w1 w2 v => v = I 0) (fun w1 h1 g1 => (ren_calls S b [] 0 w1 g1 (hrd.grow h1)).mono fun r w2 ⟨q1, q2⟩ => ⟨_, q1, q2, by simp [endE]⟩) (fun w80a w80 v hg80 hm80 gg80 hq => ?_)
          have hGF := gt_low.plain gg80
          have hM := (hM.trans (grow_mm hg80)).trans hm80
          have ho6 := hm80.own (ho6.grow hg80) hn6
          have ho13 := hm80.own (ho13.grow hg80) hn13
          subst hq
          have hks := (hks.grow hg80).mm hm80 (fun k hk e => (hkn k hk).2.1 e)
          have hbt := (hbt.grow hg80).mm hm80 (fun ad e h => (hbz ad e).2.1 h)
          clear hg80 hm80
          refine lx_assign rfl rfl rfl ?_
          refine lx_nil ?_
          refine xs_plain (E := EE []) ?_
          refine lx_move rfl rfl rfl ?_
          refine lx_binB false rfl rfl (fun _ => rfl) (fun _ => bin_neq_i _ _ _) (by decide) rfl rfl ?_
          refine lx_nil ?_
          refine x_false rfl ?_
          refine x_skip ?_
          refine xs_plain (E := EE []) ?_
          have hu : UL (hdOf bs).cs (Value.slice ka m kc :: (sub (bs.drop 112) (48 * m) 48).map U8) ((sub bs (160 + 48 * m) (32 * 5)).map U8) (hdOf (bs.drop (320 + 48 * m))).cs ((sub bs (432 + 48 * m) (32 * 6)).map U8) (Value.slice ba (bt (sub bs (624 + 48 * m) (szB m)) m).length bc :: (sub bs (624 + 48 * m + szB m) 96).map U8) [U64 (pn (sub bs (624 + 48 * m + szB m + 96) 8) 8)] := ⟨Hd.len (hdOf_ok (show 112 ≤ bs.length by omega)), hcl, by rw [List.length_map, sub_len (by omega)], Hd.len (hdOf_ok (show 112 ≤ (bs.drop (320 + 48 * m)).length by rw [List.length_drop]; omega)), by rw [List.length_map, sub_len (by omega)], by rw [List.length_cons, List.length_map, sub_len (by omega)], rfl⟩
          refine lx_loadr (cs := UC (hdOf bs).cs (Value.slice ka m kc :: (sub (bs.drop 112) (48 * m) 48).map U8) ((sub bs (160 + 48 * m) (32 * 5)).map U8) (hdOf (bs.drop (320 + 48 * m))).cs ((sub bs (432 + 48 * m) (32 * 6)).map U8) (Value.slice ba (bt (sub bs (624 + 48 * m) (szB m)) m).length bc :: (sub bs (624 + 48 * m + szB m) 96).map U8) [U64 (pn (sub bs (624 + 48 * m + szB m + 96) 8) 8)]) rfl Try.isAgg40 Try.sizeOf40 hu.len (fun w' h => (ho13.grow (hp_below h)).range) rfl rfl ?_
          have hu : UL (hdOf bs).cs (Value.slice ka m kc :: (sub (bs.drop 112) (48 * m) 48).map U8) ((sub bs (160 + 48 * m) (32 * 5)).map U8) (hdOf (bs.drop (320 + 48 * m))).cs ((sub bs (432 + 48 * m) (32 * 6)).map U8) (Value.slice ba (bt (sub bs (624 + 48 * m) (szB m)) m).length bc :: (sub bs (624 + 48 * m + szB m) 96).map U8) [U64 (pn (sub bs (624 + 48 * m + szB m + 96) 8) 8)] := ⟨Hd.len (hdOf_ok (show 112 ≤ bs.length by omega)), hcl, by rw [List.length_map, sub_len (by omega)], Hd.len (hdOf_ok (show 112 ≤ (bs.drop (320 + 48 * m)).length by rw [List.length_drop]; omega)), by rw [List.length_map, sub_len (by omega)], by rw [List.length_cons, List.length_map, sub_len (by omega)], rfl⟩
          refine lx_stW gt_low (fun w' h => hGF.g _ _ _ h) (fun w' h => ho6.grow (hp_below h)) (Nat.zero_le _) rfl rfl Try.sizeOf40 (hu.len) (UC_one (Hd.one _) (CoC_one _ _ _ _) (one_u8 _) (Hd.one _) (one_u8 _) (CoC_one _ _ _ _) (rfl)) (by rw [hu.len, U0_len]; decide) rfl (fun wFa wF hC g2 hm h2 => ?_)
          rw [lay_all _ _ (by rw [hu.len, U0_len])] at h2
          have hks := (hks.grow (hp_below hC)).mm hm (fun k hk e => (hkn k hk).2.2.1 e)
          have hbt := (hbt.grow (hp_below hC)).mm hm (fun ad e h => (hbz ad e).2.2.1 h)
          have hM := (hM.trans (grow_mm (hp_below hC))).trans' hm (fun i e hi => by subst e; omega)
          have ho6 := h2
          have hGF := gt_low.plain g2
          clear hC hm h2
          refine lx_assign rfl rfl rfl ?_
          refine lx_nil ?_
          refine x_ret ?_
          repeat (first | refine kseq_ret ?_ | refine kblk_ret ?_)
          exact kret_ctW rfl rfl rfl Try.isAgg40 Try.sizeOf40 hu.len (fun w' h => (ho6.grow (hp_below h)).range) (fun w' hw' => ⟨(hM.trans (grow_mm (hp_below hw'))).grow (fun k hk e => by omega), fun _ _ => ⟨ka, kc, hks.grow (hp_below hw'), (fun k hk => (hkn k hk).1), ba, bc, rfl, hbt.grow (hp_below hw'), fun ad e => (hbz ad e).1⟩, fun _ h => absurd h (by decide), fun h => absurd hlen h⟩)
  · skip
    refine lx_binB true rfl rfl (fun _ => rfl) (fun _ => bin_neq_i _ _ _) (bne_iff_ne.2 (fun e => hlen (by omega))) rfl rfl ?_
    refine lx_nil ?_
    refine x_true rfl ?_
    refine xs_plain (E := EE []) ?_
    refine lx_build (ps := []) (vs := []) (v := .agg U0.toArray) rfl (fun w => bldU0 w) rfl rfl ?_
    refine lx_storea 6 hGF rfl rfl rfl Try.sizeOf40 U0_len U0_len (by decide) rfl ?_
    refine lx_assign rfl rfl rfl ?_
    refine lx_nil ?_
    refine x_ret ?_
    repeat (first | refine kseq_ret ?_ | refine kblk_ret ?_)
    exact kret_ct 6 rfl rfl rfl rfl Try.isAgg40 Try.sizeOf40 U0_len (fun w' hw' => ⟨hp_below hw', fun h => absurd h hlen, fun h => absurd h hlen, fun _ => rfl⟩)
end Go.Proofs.Ytlaanjcnfindnaa
