/-
  The law of trees over fields, by hand.
-/
import Derived.Test.YtldnceanfncdfaaDoorWJ
namespace Go.Proofs.YtldnceanfncdfaaDoor
open Go.RowKit
set_option maxRecDepth 100000
set_option maxHeartbeats 1000000
open Sh
/-- A list of roots that grows beside blocks of one's own. -/
structure KL (L : List (Nat × List Value × TypeId)) (w0 w : World) (a : Option Addr) (cap n : Nat) (f : Nat → By) : Prop where
  ap : ApR w0 w a cap n f
  os : ∀ b c t, (b, c, t) ∈ L → OwnB w b c t
  nb : ∀ k, Of a k → ∀ b c t, (b, c, t) ∈ L → ¬ k = b
theorem KL.next {L : List (Nat × List Value × TypeId)} {w0 w w1 w2 : World} {a a1 : Option Addr} {cap cap1 n : Nat} {f : Nat → By} (h : KL L w0 w a cap n f) (hf : (f n).length = 32) (hg : Grow w w1) (g2 : Gt w2) (hm : MM (Of a) w1 w2) (hs : SlW 23 32 w2 a1 cap1 (n + 1) ((RW 32 f n).map U8 ++ (f n).map U8)) (ho : ∀ k, Of a1 k → Of a k ∨ w1.heap.size ≤ k) : KL L w0 w2 a1 cap1 (n + 1) f where
  ap := h.ap.next hf hg g2 hm hs ho
  os := fun b c t hb => hm.own ((h.os b c t hb).grow hg) (fun hk => h.nb _ hk b c t hb rfl)
  nb := fun k hk b c t hb => by
    rcases ho k hk with h1 | h1
    · exact h.nb k h1 b c t hb
    · have := ((h.os b c t hb).grow hg).lt
      omega
theorem hd_hand (h : Hd) : P2 (P2 (P2 (nR h.s) (nR h.p)) (P2 h.a h.b)) (P2 (P2 h.c Z0) (zrT P2 Z0 1)) = h.rt := (tor5 _ _ _ _ _).symm
theorem co_hand (c : Co) (n : Nat) : P2 (Tor (krs c.ks n)) (BR8 c.sum) = c.rt n := (tor2 _ _).symm
theorem bldZ0 (w : World) : (Instr.build 23 #[]).run Tryd.prog w = .ok (.agg (Z0.map U8).toArray) w := by
  simp [Instr.build, run_underlying Tryd.underlying23, Tryd.sizeOf5, Value.cells, Instr.fill]; rfl
theorem fields_law (hR : RootsP) (h : Hd) (hh : h.Ok) (c : Co) (hc9 : c.Ok) (w : World) (hw : Gt w) (hks0 : RwsAt 48 w c.ka c.ks) : Calls Tryd.prog 5 [.agg h.cs.toArray, .agg c.cs.toArray].toArray w (fun e w' => e = .returned (.bool true) ∧ Grow w w') := by
  have hGF : BOk Gt (pl w) := gt_low.plain hw
  refine calls_of_X (G := Gt) Tryd.func5 rfl rfl (Hp (pl w) []) (hp_refl (pl w) trivial rides_true) (good_hp hGF) ?_
  refine xs_plain (E := EE [9]) ?_
  refine lx_boxr 2 hGF rfl rfl rfl ?_
  intro b2
  refine lx_boxr 3 hGF rfl rfl rfl ?_
  intro b3
  refine lx_assign rfl rfl rfl ?_
  refine lx_nil ?_
  refine x_seq ?_
  refine xs_plain (E := EE [9]) ?_
  refine lx_callC rfl rfl ent7 (fun w1 _ hG => known20 hR w1 hG) rfl rfl ?_
  refine lx_un rfl (fun _ => un_not _) rfl rfl ?_
  refine lx_nil ?_
  refine x_false rfl ?_
  refine x_skip ?_
  refine x_seq ?_
  refine xs_plain (E := EE [9]) ?_
  refine lx_fak 0 rfl Tryd.underlying31 rfl Tryd.sizeOf27 (by decide) rfl rfl rfl ?_
  refine lx_load (v := .slice c.ka c.ks.length c.kc) rfl Tryd.isAgg27 (fun w' h9 => (hp_row (n := 3) rfl w' h9) 0 _ rfl) rfl rfl ?_
  refine lx_len rfl (fun _ => len_slice Tryd.underlying27 _ _ _ _) rfl rfl ?_
  rcases Nat.lt_or_ge 40 c.ks.length with hgt | hle
  · skip
    refine lx_binB true rfl rfl (fun _ => rfl) (fun _ => bin_gtr_i _ _ _) (by rw [decide_eq_true_eq]; omega) rfl rfl ?_
    refine lx_nil ?_
    refine x_true rfl ?_
    refine xs_plain (E := EE [9]) ?_
    refine lx_assign rfl rfl rfl ?_
    refine lx_nil ?_
    refine x_ret ?_
    repeat (first | refine kseq_ret ?_ | refine kblk_ret ?_)
    first | exact kret_tmp rfl rfl (fun w' hw' => ⟨rfl, hK.ap.m.trans (hp_below hw')⟩) | exact kret_tmp rfl rfl (fun w' hw' => ⟨rfl, hp_below hw'⟩)
  · skip
    refine lx_binB false rfl rfl (fun _ => rfl) (fun _ => bin_gtr_i _ _ _) (by rw [decide_eq_false_iff_not]; omega) rfl rfl ?_
    refine lx_nil ?_
    refine x_false rfl ?_
    refine x_skip ?_
    refine xs_plain (E := EE [9]) ?_
    refine lx_callE rfl rfl ent9 rfl rfl (fun w1 hC => (hnew_calls w1 (hGF.g _ _ _ hC)).mono fun e1 w2 h => ?_)
    obtain ⟨bm, rfl, hg, hbm, hob⟩ := h
    refine ⟨_, _, rfl, good_hp hGF, hC.news rides_true hg [(16, bm, MK.map U32, 83)] (rowN hbm hob) inj_one, ?_⟩
    clear hC hg hbm hob
    refine lx_allocr 5 hGF zvH rfl rfl ?_
    intro b5
    refine lx_storea 5 hGF rfl rfl rfl Tryd.sizeOf47 rfl rfl (by rfl) rfl ?_
    refine lx_nil ?_
    refine xs_drawn (E := EE [2999999]) mixed (by kernel_rfl) (by kernel_rfl) (by kernel_rfl) ?_
    refine lx_fak 0 rfl Tryd.underlying47 rfl Tryd.sizeOf45 (by decide) rfl rfl rfl ?_
    refine lx_load (v := .pointer (some ⟨bm, 0, none⟩)) rfl Tryd.isAgg45 (fun w' h9 => (hp_row (n := 5) rfl w' h9) 0 _ rfl) rfl rfl ?_
    refine lx_fak 0 rfl Tryd.underlying47 rfl Tryd.sizeOf45 (by decide) rfl rfl rfl ?_
    refine lx_load (v := .pointer (some ⟨bm, 0, none⟩)) rfl Tryd.isAgg45 (fun w' h9 => (hp_row (n := 5) rfl w' h9) 0 _ rfl) rfl rfl ?_
    refine lx_fak 0 rfl Tryd.underlying26 rfl Tryd.sizeOf22 (by decide) rfl rfl rfl ?_
    refine lx_load (v := U64 h.s) rfl Tryd.isAgg22 (fun w' h9 => (hp_row (n := 2) rfl w' h9) 0 _ rfl) rfl rfl ?_
    refine lx_callC rfl rfl ent27 (fun w' hw' hG => rch_calls h.s w' hG) rfl rfl ?_
    rw [show pad32 (le8 h.s 8) = nR h.s from rfl]
    refine lx_fak 1 rfl Tryd.underlying26 rfl Tryd.sizeOf22 (by decide) rfl rfl rfl ?_
    refine lx_load (v := U64 h.p) rfl Tryd.isAgg22 (fun w' h9 => (hp_row (n := 2) rfl w' h9) 1 _ rfl) rfl rfl ?_
    refine lx_callC rfl rfl ent27 (fun w' hw' hG => rch_calls h.p w' hG) rfl rfl ?_
    rw [show pad32 (le8 h.p 8) = nR h.p from rfl]
    refine lx_callC rfl rfl ent26 (fun w' hw' hG => mpair_calls bm (nR h.s) (nR h.p) (nR_len _) (nR_len _) w' hG (hw'.own 16 _ _ _ rfl).1) rfl rfl ?_
    refine lx_fak 0 rfl Tryd.underlying47 rfl Tryd.sizeOf45 (by decide) rfl rfl rfl ?_
    refine lx_load (v := .pointer (some ⟨bm, 0, none⟩)) rfl Tryd.isAgg45 (fun w' h9 => (hp_row (n := 5) rfl w' h9) 0 _ rfl) rfl rfl ?_
    refine lx_fak 2 rfl Tryd.underlying26 rfl Tryd.sizeOf24 (by decide) rfl rfl rfl ?_
    refine lx_loadr (cs := h.a.map U8) rfl Tryd.isAgg24 Tryd.sizeOf24 (by rw [List.length_map]; exact hh.a) (fun w' hw' j v hv => by have := (hp_row (n := 2) rfl w' hw') _ v (Hd.at_a j v hv); rwa [Nat.zero_add] at this) rfl rfl ?_
    refine lx_fak 34 rfl Tryd.underlying26 rfl Tryd.sizeOf24 (by decide) rfl rfl rfl ?_
    refine lx_loadr (cs := h.b.map U8) rfl Tryd.isAgg24 Tryd.sizeOf24 (by rw [List.length_map]; exact hh.b) (fun w' hw' j v hv => by have := (hp_row (n := 2) rfl w' hw') _ v (Hd.at_b hh j v hv); rwa [Nat.zero_add] at this) rfl rfl ?_
    refine lx_callC rfl rfl ent26 (fun w' hw' hG => mpair_calls bm h.a h.b (hh.a) (hh.b) w' hG (hw'.own 16 _ _ _ rfl).1) rfl rfl ?_
    refine lx_callC rfl rfl ent26 (fun w' hw' hG => mpair_calls bm (P2 (nR h.s) (nR h.p)) (P2 h.a h.b) (P2_len _ _) (P2_len _ _) w' hG (hw'.own 16 _ _ _ rfl).1) rfl rfl ?_
    obtain ⟨p6, hp6⟩ : ∃ x, x = P2 (P2 (nR h.s) (nR h.p)) (P2 h.a h.b) := ⟨_, rfl⟩
    rw [← hp6]
    have hl6 : p6.length = 32 := by rw [hp6]; exact P2_len _ _
    refine lx_allocG 6 hGF zv23 rfl rfl rfl ?_
    intro b6
    refine lx_storea 6 hGF rfl rfl rfl Tryd.sizeOf23 (by rw [List.length_map]; exact hl6) (by rw [List.length_map]; exact Z0_len) (one_u8 _) rfl ?_
    refine lx_nil ?_
    refine xs_drawn (E := EE [2999999]) mixed (by kernel_rfl) (by kernel_rfl) (by kernel_rfl) ?_
    refine lx_fak 0 rfl Tryd.underlying47 rfl Tryd.sizeOf45 (by decide) rfl rfl rfl ?_
    refine lx_load (v := .pointer (some ⟨bm, 0, none⟩)) rfl Tryd.isAgg45 (fun w' h9 => (hp_row (n := 5) rfl w' h9) 0 _ rfl) rfl rfl ?_
    refine lx_fak 0 rfl Tryd.underlying47 rfl Tryd.sizeOf45 (by decide) rfl rfl rfl ?_
    refine lx_load (v := .pointer (some ⟨bm, 0, none⟩)) rfl Tryd.isAgg45 (fun w' h9 => (hp_row (n := 5) rfl w' h9) 0 _ rfl) rfl rfl ?_
    refine lx_fak 66 rfl Tryd.underlying26 rfl Tryd.sizeOf24 (by decide) rfl rfl rfl ?_
    refine lx_loadr (cs := h.c.map U8) rfl Tryd.isAgg24 Tryd.sizeOf24 (by rw [List.length_map]; exact hh.c) (fun w' hw' j v hv => by have := (hp_row (n := 2) rfl w' hw') _ v (Hd.at_c hh j v hv); rwa [Nat.zero_add] at this) rfl rfl ?_
    refine lx_build (ps := []) (vs := []) (v := .agg (Z0.map U8).toArray) rfl (fun w => bldZ0 w) rfl rfl ?_
    refine lx_callC rfl rfl ent26 (fun w' hw' hG => mpair_calls bm h.c Z0 (hh.c) (Z0_len) w' hG (hw'.own 16 _ _ _ rfl).1) rfl rfl ?_
    refine lx_loada 5 rfl rfl Tryd.isAgg47 Tryd.sizeOf47 rfl rfl rfl ?_
    refine lx_callC rfl rfl ent28 (fun w' hw' hG => hzero_calls bm 1 w' hG (hw'.own 16 _ _ _ rfl).1) rfl rfl ?_
    rw [show min (1 : Int).toNat 64 = 1 from rfl]
    refine lx_callC rfl rfl ent26 (fun w' hw' hG => mpair_calls bm (P2 h.c Z0) (zrT P2 Z0 1) (P2_len _ _) (zr_len 1) w' hG (hw'.own 16 _ _ _ rfl).1) rfl rfl ?_
    obtain ⟨p7, hp7⟩ : ∃ x, x = P2 (P2 h.c Z0) (zrT P2 Z0 1) := ⟨_, rfl⟩
    rw [← hp7]
    have hl7 : p7.length = 32 := by rw [hp7]; exact P2_len _ _
    refine lx_allocG 7 hGF zv23 rfl rfl rfl ?_
    intro b7
    refine lx_storea 7 hGF rfl rfl rfl Tryd.sizeOf23 (by rw [List.length_map]; exact hl7) (by rw [List.length_map]; exact Z0_len) (one_u8 _) rfl ?_
    refine lx_nil ?_
    refine x_now0 gt_low (fun w3 hC g3 => ?_)
    obtain ⟨LL, hLL⟩ : ∃ x, x = ([(b2, h.cs, 26), (b3, c.cs, 31), (b5, [.pointer (some ⟨bm, 0, none⟩)], 47), (b6, p6.map U8, 23), (b7, p7.map U8, 23), (bm, MK.map U32, 83)] : List (Nat × List Value × TypeId)) := ⟨_, rfl⟩
    have hK : KL LL w w3 none 0 0 (fun i => BR8 (c.ks.getD i Z48)) := ⟨⟨g3, hp_below hC, .inl ⟨rfl, rfl, rfl, rfl⟩, fun _ h => by cases h⟩, fun b c' t hb => by rw [hLL] at hb; simp only [List.mem_cons, List.not_mem_nil, or_false, Prod.mk.injEq] at hb; rcases hb with ⟨rfl, rfl, rfl⟩ | ⟨rfl, rfl, rfl⟩ | ⟨rfl, rfl, rfl⟩ | ⟨rfl, rfl, rfl⟩ | ⟨rfl, rfl, rfl⟩ | ⟨rfl, rfl, rfl⟩; exact (hC.own 2 _ _ _ rfl).1; exact (hC.own 3 _ _ _ rfl).1; exact (hC.own 5 _ _ _ rfl).1; exact (hC.own 6 _ _ _ rfl).1; exact (hC.own 7 _ _ _ rfl).1; exact (hC.own 16 _ _ _ rfl).1, fun k ⟨ad, e, _⟩ => by cases e⟩
    clear hC
    have hGF := gt_low.plain g3
    refine xs_plain (E := EE [9]) ?_
    refine lx_assign rfl rfl rfl ?_
    refine lx_nil ?_
    refine x_seq ?_
    refine xs_plain (E := EE [9]) ?_
    refine lx_assign rfl rfl rfl ?_
    refine lx_nil ?_
    refine x_block ?_
    refine x_forW gt_low (ι := { x : Nat × World × Option Addr × Nat // x.1 ≤ c.ks.length ∧ KL LL w x.2.1 x.2.2.1 x.2.2.2 x.1 (fun i => BR8 (c.ks.getD i Z48)) }) (fun x => [(2, .pointer (some ⟨b2, 0, none⟩)), (3, .pointer (some ⟨b3, 0, none⟩)), (5, .pointer (some ⟨b5, 0, none⟩)), (6, .pointer (some ⟨b6, 0, none⟩)), (7, .pointer (some ⟨b7, 0, none⟩)), (8, .slice x.1.2.2.1 x.1.1 x.1.2.2.2), (9, I (x.1.1 : Int))]) (fun x => x.1.2.1) (fun x => c.ks.length - x.1.1) ⟨(0, w3, none, 0), Nat.zero_le _, hK⟩ (fun x => x.2.2.ap.g) rfl ⟨rfl, rfl, rfl, rfl, rfl, rfl, rfl, trivial⟩ ?_
    clear hK hGF
    rintro ⟨⟨k, wk, ak, cak⟩, hkn, hK⟩
    dsimp only at hkn hK ⊢
    have hGF := gt_low.plain hK.ap.g
    have hks := hks0.grow hK.ap.m
    have o2 : OwnB wk b2 (h.cs) 26 := hK.os _ _ _ (by rw [hLL]; simp)
    have o3 : OwnB wk b3 (c.cs) 31 := hK.os _ _ _ (by rw [hLL]; simp)
    have o5 : OwnB wk b5 ([.pointer (some ⟨bm, 0, none⟩)]) 47 := hK.os _ _ _ (by rw [hLL]; simp)
    have o6 : OwnB wk b6 (p6.map U8) 23 := hK.os _ _ _ (by rw [hLL]; simp)
    have o7 : OwnB wk b7 (p7.map U8) 23 := hK.os _ _ _ (by rw [hLL]; simp)
    have obm : MkAt wk bm := hK.os _ _ _ (by rw [hLL]; simp)
    refine x_seq ?_
    refine xs_plain (E := EE [9]) ?_
    refine lx_move rfl rfl rfl ?_
    refine lx_fak 0 rfl Tryd.underlying31 rfl Tryd.sizeOf27 (by decide) rfl rfl rfl ?_
    refine lx_load (v := .slice c.ka c.ks.length c.kc) rfl Tryd.isAgg27 (fun w' h9 => ((o3.grow (hp_below h9)).cell 0).trans rfl) rfl rfl ?_
    refine lx_len rfl (fun _ => len_slice Tryd.underlying27 _ _ _ _) rfl rfl ?_
    rcases Nat.lt_or_ge k c.ks.length with hik | hik
    · skip
      obtain ⟨y, hiy⟩ : ∃ y, c.ks[k]? = some y := ⟨_, List.getElem?_eq_getElem hik⟩
      have hy : y.length = 48 := hc9.ks y (List.mem_of_getElem? hiy)
      obtain ⟨ad, hka, hyc⟩ := hks k y hiy
      have hgD : c.ks.getD k Z48 = y := by rw [List.getD_eq_getElem?_getD, hiy]; rfl
      refine lx_binB true rfl rfl (fun _ => rfl) (fun _ => bin_lss_i _ _ _) (by simp; omega) rfl rfl ?_
      refine lx_nil ?_
      refine x_true rfl ?_
      refine x_skip ?_
      refine x_seq ?_
      refine x_block ?_
      refine x_plain (E := EE [9]) ?_
      refine lx_move rfl rfl rfl ?_
      refine lx_fak 0 rfl Tryd.underlying31 rfl Tryd.sizeOf27 (by decide) rfl rfl rfl ?_
      refine lx_load (v := .slice c.ka c.ks.length c.kc) rfl Tryd.isAgg27 (fun w' h9 => ((o3.grow (hp_below h9)).cell 0).trans rfl) rfl rfl ?_
      refine lx_move rfl rfl rfl ?_
      refine lx_isAW (ad := ad) k 48 (by rw [← hka]; rfl) rfl Tryd.underlying27 Tryd.sizeOf29 rfl hik rfl rfl ?_
      refine lx_loadA (cs := y.map U8) rfl Tryd.isAgg29 Tryd.sizeOf29 (by rw [List.length_map]; exact hy) (fun w' h j v hv => ((hp_below h).cell (block_lt_of_cell (hyc j v hv))).trans (hyc j v hv)) rfl rfl ?_
      refine lx_callC rfl rfl ent22 (fun w' hw' hG => hR.ky y hy w' hG) rfl rfl ?_
      refine lx_bslW1 61 ((BR8 y).map U8) hGF rfl (by rw [List.length_map]; exact BR8_len y) (by decide) (by decide) Tryd.underlying60 Tryd.sizeOf23 zv23 rfl rfl ?_
      intro b61
      refine lx_appW (ys := (BR8 y).map U8) gt_low (fun w' h => hGF.g _ _ _ h) rfl rfl Tryd.underlying60 Tryd.underlying60 tiR (by simp [Value.cells]) (fun w' h => hK.ap.s.grow (hp_below h)) (hK.ap.low hw) (by rw [List.length_map]; exact BR8_len y) (hp_row (n := 61) rfl) (one_u8 _) (fun w' h hof => absurd (hK.ap.s.lt _ hof) (Nat.not_lt.2 ((h.own 61 _ _ _ rfl).2.elim id False.elim))) (by omega) (by omega) rfl rfl (fun w1 w2 a1 cap1 hC g2 hm hs ho => ?_)
      have hK2 : KL LL w w2 a1 cap1 (k + 1) (fun i => BR8 (c.ks.getD i Z48)) := hK.next (BR8_len _) (hp_below hC) g2 hm (by rw [hgD]; exact hs) ho
      have hGF : BOk Gt (pl w2) := gt_low.plain g2
      refine lx_assign rfl rfl rfl ?_
      refine lx_nil ?_
      refine x_plain (E := EE [9]) ?_
      refine lx_move rfl rfl rfl ?_
      refine lx_bin (v := I (((k + 1 : Nat) : Int))) rfl rfl (fun _ => rfl) (fun _ => (bin_add_i _ _ _ (by unfold inI; omega)).trans (by rfl)) rfl rfl ?_
      refine lx_assign rfl rfl rfl ?_
      refine lx_nil ?_
      repeat (refine kblk_n ?_)
      refine kseq_n ?_
      exact ⟨rfl, ⟨(k + 1, w2, a1, cap1), hik, hK2⟩, by show c.ks.length - (k + 1) < c.ks.length - k; omega, rfl, ⟨rfl, rfl, rfl, rfl, rfl, rfl, rfl, trivial⟩⟩
    · skip
      have hke : k = c.ks.length := by omega
      subst hke
      have hSl : SlW 23 32 wk ak cak (krs c.ks c.ks.length).length ((krs c.ks c.ks.length).flatten.map U8) := by have h := hK.ap.s; unfold SlR at h; rw [krs_flat] at h; rw [krs_len]; exact h
      have hRt := hSl.rts (krs_all c.ks c.ks.length)
      have hKc : c.ks.length ≤ cak := by have := slw_le hSl; rwa [krs_len] at this
      refine lx_binB false rfl rfl (fun _ => rfl) (fun _ => bin_lss_i _ _ _) (by rw [decide_eq_false_iff_not]; omega) rfl rfl ?_
      refine lx_nil ?_
      refine x_false rfl ?_
      refine x_exit ?_
      refine xs_drawn (E := EE [9]) mixed (by kernel_rfl) (by kernel_rfl) (by kernel_rfl) ?_
      refine lx_loadr (cs := h.cs) rfl Tryd.isAgg26 Tryd.sizeOf26 (Hd.len hh) (fun w' h9 => own_rg (o2.grow (hp_below h9)) (Hd.all)) rfl rfl ?_
      refine lx_callC rfl rfl ent10 (fun w' hw' hG => hR.hd h hh w' hG) rfl rfl ?_
      refine lx_fak 0 rfl Tryd.underlying47 rfl Tryd.sizeOf45 (by decide) rfl rfl rfl ?_
      refine lx_load (v := .pointer (some ⟨bm, 0, none⟩)) rfl Tryd.isAgg45 (fun w' h9 => ((o5.grow (hp_below h9)).cell 0).trans rfl) rfl rfl ?_
      refine lx_loadr (cs := p6.map U8) rfl Tryd.isAgg23 Tryd.sizeOf23 (by rw [List.length_map]; exact hl6) (fun w' h9 => (o6.grow (hp_below h9)).range) rfl rfl ?_
      refine lx_loadr (cs := p7.map U8) rfl Tryd.isAgg23 Tryd.sizeOf23 (by rw [List.length_map]; exact hl7) (fun w' h9 => (o7.grow (hp_below h9)).range) rfl rfl ?_
      refine lx_callC rfl rfl ent26 (fun w' hw' hG => mpair_calls bm p6 p7 (hl6) (hl7) w' hG (obm.grow (hp_below hw'))) rfl rfl ?_
      rw [show P2 p6 p7 = h.rt from by rw [hp6, hp7]; exact hd_hand h]
      refine lx_binB true rfl rfl (fun w' => eqg24 _ _ _ _ _ w') (fun w' => eqv24 _ _ (Hd.rt_len hh) (Hd.rt_len hh) w') (decide_eq_true rfl) rfl rfl ?_
      refine lx_move rfl rfl rfl ?_
      refine lx_loadr (cs := c.cs) rfl Tryd.isAgg31 Tryd.sizeOf31 (Co.len hc9) (fun w' h9 => own_rg (o3.grow (hp_below h9)) (Co.all)) rfl rfl ?_
      refine lx_callC rfl rfl ent12 (fun w' hw' hG => hR.co c hc9 (by omega) w' hG (hks.grow (hp_below hw'))) rfl rfl ?_
      refine lx_fak 0 rfl Tryd.underlying47 rfl Tryd.sizeOf45 (by decide) rfl rfl rfl ?_
      refine lx_load (v := .pointer (some ⟨bm, 0, none⟩)) rfl Tryd.isAgg45 (fun w' h9 => ((o5.grow (hp_below h9)).cell 0).trans rfl) rfl rfl ?_
      refine lx_loadr (cs := [.pointer (some ⟨bm, 0, none⟩)]) rfl Tryd.isAgg47 Tryd.sizeOf47 rfl (fun w' h9 => (o5.grow (hp_below h9)).range) rfl rfl ?_
      refine lx_move rfl rfl rfl ?_
      refine lx_move rfl rfl rfl ?_
      refine lx_len rfl (fun _ => len_slice Tryd.underlying60 _ _ _ _) rfl rfl ?_
      refine lx_callC rfl rfl ent30 (fun w' _ hG => hdepth_calls (c.ks.length : Int) w' hG) rfl rfl ?_
      rw [Int.toNat_natCast]
      refine lx_callC rfl rfl ent29 (fun w' hw' hG => htree_calls bm _ (by have := (dep_is c.ks.length).1; omega) (krs c.ks c.ks.length) (krs_all _ _) c.ks.length (krs_len _ _) (by omega) ak cak hKc w' hG (obm.grow (hp_below hw')) (hRt.grow (hp_below hw'))) rfl rfl ?_
      rw [show tre P2 Z0 (dep c.ks.length) (krs c.ks c.ks.length) = Tor (krs c.ks c.ks.length) from by rw [Tor, krs_len]]
      refine lx_fak 1 rfl Tryd.underlying31 rfl Tryd.sizeOf29 (by decide) rfl rfl rfl ?_
      refine lx_loadr (cs := c.sum.map U8) rfl Tryd.isAgg29 Tryd.sizeOf29 (by rw [List.length_map]; exact hc9.sum) (fun w' h9 => own_rg (o3.grow (hp_below h9)) (Co.a_sum)) rfl rfl ?_
      refine lx_callC rfl rfl ent22 (fun w' hw' hG => hR.ky c.sum hc9.sum w' hG) rfl rfl ?_
      refine lx_callC rfl rfl ent26 (fun w' hw' hG => mpair_calls bm (Tor (krs c.ks c.ks.length)) (BR8 c.sum) (tor_len (krs_all _ _)) (BR8_len _) w' hG (obm.grow (hp_below hw'))) rfl rfl ?_
      rw [co_hand c]
      refine lx_binB true rfl rfl (fun w' => eqg24 _ _ _ _ _ w') (fun w' => eqv24 _ _ (Co.rt_len _ _) (Co.rt_len _ _) w') (decide_eq_true rfl) rfl rfl ?_
      refine lx_pick rfl rfl rfl rfl rfl ?_
      refine lx_assign rfl rfl rfl ?_
      refine lx_nil ?_
      refine x_ret ?_
      repeat (first | refine kseq_ret ?_ | refine kblk_ret ?_)
      first | exact kret_tmp rfl rfl (fun w' hw' => ⟨rfl, hK.ap.m.trans (hp_below hw')⟩) | exact kret_tmp rfl rfl (fun w' hw' => ⟨rfl, hp_below hw'⟩)
end Go.Proofs.YtldnceanfncdfaaDoor
