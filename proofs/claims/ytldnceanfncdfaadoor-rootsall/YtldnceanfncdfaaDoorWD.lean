/-
  The document's roots of keys' lists, of committees.
-/
import Derived.Test.YtldnceanfncdfaaDoorWC
import Derived.Test.YtldnceanfncdfaaDoorX3
namespace Go.Proofs.YtldnceanfncdfaaDoor
open Go.RowKit
set_option maxRecDepth 100000
set_option maxHeartbeats 1000000
open Sh
theorem ent50 : Enters Tryd.prog 50 := fun _ _ => by kernel_rfl
theorem ent36 : Enters Tryd.prog 36 := fun _ _ => by kernel_rfl
theorem ent13 : Enters Tryd.prog 13 := fun _ _ => by kernel_rfl
theorem ent25 : Enters Tryd.prog 25 := fun _ _ => by kernel_rfl
theorem zvK (w : World) : (zeroValue 29).run Tryd.prog w = .ok (.agg (Z48.map U8).toArray) w := (Tryd.zeroValue29 w).trans (by rfl)
/-- A list of roots that grows beside the maker's place and the answer's. -/
structure KI (w0 w : World) (bm b3 b6 : Nat) (a : Option Addr) (cap n : Nat) (f : Nat → By) : Prop where
  ap : ApR w0 w a cap n f
  o3 : OwnB w b3 [.pointer (some ⟨bm, 0, none⟩)] 47
  o6 : OwnB w b6 (Z0.map U8) 23
  nb : ∀ k, Of a k → ¬ k = b3 ∧ ¬ k = b6
theorem KI.next {w0 w w1 w2 : World} {bm b3 b6 : Nat} {a a1 : Option Addr} {cap cap1 n : Nat} {f : Nat → By} (h : KI w0 w bm b3 b6 a cap n f) (hf : (f n).length = 32) (hg : Grow w w1) (g2 : Gt w2) (hm : MM (Of a) w1 w2) (hs : SlW 23 32 w2 a1 cap1 (n + 1) ((RW 32 f n).map U8 ++ (f n).map U8)) (ho : ∀ k, Of a1 k → Of a k ∨ w1.heap.size ≤ k) : KI w0 w2 bm b3 b6 a1 cap1 (n + 1) f where
  ap := h.ap.next hf hg g2 hm hs ho
  o3 := hm.own (h.o3.grow hg) (fun hk => (h.nb _ hk).1 rfl)
  o6 := hm.own (h.o6.grow hg) (fun hk => (h.nb _ hk).2 rfl)
  nb := fun k hk => by
    rcases ho k hk with h1 | h1
    · exact h.nb k h1
    · have h2 := (h.o3.grow hg).lt
      have h3 := (h.o6.grow hg).lt
      exact ⟨by omega, by omega⟩
theorem krs_flat (ks : List By) (n : Nat) : RW 32 (fun i => BR8 (ks.getD i Z48)) n = (krs ks n).flatten := by
  rw [← RW_list _ (krs_all ks n), krs_len]
  refine RW_fun fun i hi => ?_
  have e : (krs ks n)[i]? = some (BR8 (ks.getD i Z48)) := by rw [krs, List.getElem?_map, List.getElem?_range hi]; rfl
  show BR8 (ks.getD i Z48) = ((krs ks n)[i]?).getD []
  rw [e]
  rfl
theorem slw_le {w : World} {e : TypeId} {s : Nat} {a : Option Addr} {cap n : Nat} {xs : List Value} (h : SlW e s w a cap n xs) : n ≤ cap := by
  rcases h with ⟨_, _, h, _⟩ | ⟨_, _, _, _, _, h, _⟩ <;> omega
theorem hks_calls (bm : Nat) (ks : List By) (h48 : ∀ r ∈ ks, r.length = 48) (ka : Option Addr) (kc n : Nat) (hn : n ≤ 1000) (w : World) (hw : Gt w) (ho : MkAt w bm) (hks0 : RwsAt 48 w ka ks) : Calls Tryd.prog 50 [.agg [.pointer (some ⟨bm, 0, none⟩)].toArray, .slice ka ks.length kc, I (n : Int)].toArray w (fun e w' => e = .returned (.agg ((Tor (krs ks n)).map U8).toArray) ∧ Grow w w') := by
  have hGF : BOk Gt (pl w) := gt_low.plain hw
  refine calls_of_X (G := Gt) Tryd.func50 rfl rfl (Hp (pl w) []) (hp_refl (pl w) trivial rides_true) (good_hp hGF) ?_
  refine xs_plain (E := EE []) ?_
  refine lx_boxr 3 hGF rfl rfl rfl ?_
  intro b3
  refine lx_allocr 6 hGF zv23 rfl rfl ?_
  intro b6
  refine lx_nil ?_
  refine x_now0 gt_low (fun w3 hC g3 => ?_)
  have hK : KI w w3 bm b3 b6 none 0 0 (fun i => BR8 (ks.getD i Z48)) := ⟨⟨g3, hp_below hC, .inl ⟨rfl, rfl, rfl, rfl⟩, fun _ h => by cases h⟩, (hC.own 3 _ _ _ rfl).1, (hC.own 6 _ _ _ rfl).1, fun k ⟨ad, e, _⟩ => by cases e⟩
  have h6w : w.heap.size ≤ b6 := (hC.own 6 _ _ _ rfl).2.elim id False.elim
  clear hC
  have hGF := gt_low.plain g3
  refine xs_plain (E := EE []) ?_
  refine lx_assign rfl rfl rfl ?_
  refine lx_nil ?_
  refine x_seq ?_
  refine xs_plain (E := EE []) ?_
  refine lx_assign rfl rfl rfl ?_
  refine lx_nil ?_
  refine x_block ?_
  refine x_forW gt_low (ι := { x : Nat × World × Option Addr × Nat // x.1 ≤ n ∧ KI w x.2.1 bm b3 b6 x.2.2.1 x.2.2.2 x.1 (fun i => BR8 (ks.getD i Z48)) }) (fun x => [(1, .slice ka ks.length kc), (2, I (n : Int)), (3, .pointer (some ⟨b3, 0, none⟩)), (6, .pointer (some ⟨b6, 0, none⟩)), (7, .slice x.1.2.2.1 x.1.1 x.1.2.2.2), (8, I (x.1.1 : Int))]) (fun x => x.1.2.1) (fun x => n - x.1.1) ⟨(0, w3, none, 0), Nat.zero_le _, hK⟩ (fun x => x.2.2.ap.g) rfl ⟨rfl, rfl, rfl, rfl, rfl, rfl, trivial⟩ ?_
  clear hK hGF
  rintro ⟨⟨k, wk, ak, cak⟩, hkn, hK⟩
  dsimp only at hkn hK ⊢
  have hGF := gt_low.plain hK.ap.g
  have hks := hks0.grow hK.ap.m
  refine x_seq ?_
  refine xs_plain (E := EE []) ?_
  refine lx_move rfl rfl rfl ?_
  refine lx_move rfl rfl rfl ?_
  rcases Nat.lt_or_ge k n with hlt | hge
  · skip
    refine lx_binB true rfl rfl (fun _ => rfl) (fun _ => bin_lss_i _ _ _) (by simp; omega) rfl rfl ?_
    refine lx_nil ?_
    refine x_true rfl ?_
    refine x_skip ?_
    refine x_seq ?_
    refine x_block ?_
    refine xs_plain (E := EE []) ?_
    refine lx_allocr 9 hGF zvK rfl rfl ?_
    intro b9
    refine lx_nil ?_
    refine x_seq ?_
    refine xs_plain (E := EE []) ?_
    refine lx_move rfl rfl rfl ?_
    refine lx_move rfl rfl rfl ?_
    refine lx_len rfl (fun _ => len_slice Tryd.underlying27 _ _ _ _) rfl rfl ?_
    rcases Nat.lt_or_ge k ks.length with hik | hik
    · skip
      obtain ⟨y, hiy⟩ : ∃ y, ks[k]? = some y := ⟨_, List.getElem?_eq_getElem hik⟩
      have hy : y.length = 48 := h48 y (List.mem_of_getElem? hiy)
      obtain ⟨ad, hka, hyc⟩ := hks k y hiy
      have hgD : ks.getD k Z48 = y := by rw [List.getD_eq_getElem?_getD, hiy]; rfl
      refine lx_binB true rfl rfl (fun _ => rfl) (fun _ => bin_lss_i _ _ _) (by simp; omega) rfl rfl ?_
      refine lx_nil ?_
      refine x_true rfl ?_
      refine x_plain (E := EE []) ?_
      refine lx_move rfl rfl rfl ?_
      refine lx_move rfl rfl rfl ?_
      refine lx_isAW (ad := ad) k 48 (by rw [← hka]; rfl) rfl Tryd.underlying27 Tryd.sizeOf29 rfl hik rfl rfl ?_
      refine lx_loadA (cs := y.map U8) rfl Tryd.isAgg29 Tryd.sizeOf29 (by rw [List.length_map]; exact hy) (fun w' h j v hv => ((hp_below h).cell (block_lt_of_cell (hyc j v hv))).trans (hyc j v hv)) rfl rfl ?_
      refine lx_storea 9 hGF rfl rfl rfl Tryd.sizeOf29 (by rw [List.length_map]; exact hy) (by rw [List.length_map]; rfl) (one_u8 _) rfl ?_
      refine lx_nil ?_
      refine x_plain (E := EE []) ?_
      refine lx_move rfl rfl rfl ?_
      refine lx_loadr (cs := [.pointer (some ⟨bm, 0, none⟩)]) rfl Tryd.isAgg47 Tryd.sizeOf47 rfl (fun w' h => (hK.o3.grow (hp_below h)).range) rfl rfl ?_
      refine lx_loada 9 rfl rfl Tryd.isAgg29 Tryd.sizeOf29 (by rw [List.length_map]; exact hy) rfl rfl ?_
      refine lx_callC rfl rfl ent23 (fun w' hw' hG => hky_calls bm y hy w' hG (ho.of_same ((hK.ap.m.trans (hp_below hw')).block _ ho.lt))) rfl rfl ?_
      refine lx_bslW1 27 ((BR8 y).map U8) hGF rfl (by rw [List.length_map]; exact BR8_len y) (by decide) (by decide) Tryd.underlying60 Tryd.sizeOf23 zv23 rfl rfl ?_
      intro b27
      refine lx_appW (ys := (BR8 y).map U8) gt_low (fun w' h => hGF.g _ _ _ h) rfl rfl Tryd.underlying60 Tryd.underlying60 tiR (by simp [Value.cells]) (fun w' h => hK.ap.s.grow (hp_below h)) (hK.ap.low hw) (by rw [List.length_map]; exact BR8_len y) (hp_row (n := 27) rfl) (one_u8 _) (fun w' h hof => absurd (hK.ap.s.lt _ hof) (Nat.not_lt.2 ((h.own 27 _ _ _ rfl).2.elim id False.elim))) (by omega) (by omega) rfl rfl (fun w1 w2 a1 cap1 hC g2 hm hs ho => ?_)
      have hK2 : KI w w2 bm b3 b6 a1 cap1 (k + 1) (fun i => BR8 (ks.getD i Z48)) := hK.next (BR8_len _) (hp_below hC) g2 hm (by rw [hgD]; exact hs) ho
      have hGF : BOk Gt (pl w2) := gt_low.plain g2
      refine lx_assign rfl rfl rfl ?_
      refine lx_nil ?_
      refine x_plain (E := EE []) ?_
      refine lx_move rfl rfl rfl ?_
      refine lx_bin (v := I (((k + 1 : Nat) : Int))) rfl rfl (fun _ => rfl) (fun _ => (bin_add_i _ _ _ (by unfold inI; omega)).trans (by rfl)) rfl rfl ?_
      refine lx_assign rfl rfl rfl ?_
      refine lx_nil ?_
      repeat (refine kblk_n ?_)
      refine kseq_n ?_
      exact ⟨rfl, ⟨(k + 1, w2, a1, cap1), hlt, hK2⟩, by show n - (k + 1) < n - k; omega, rfl, ⟨rfl, rfl, rfl, rfl, rfl, rfl, trivial⟩⟩
    · skip
      have hy : Z48.length = 48 := rfl
      have hgD : ks.getD k Z48 = Z48 := by rw [List.getD_eq_getElem?_getD, List.getElem?_eq_none hik]; rfl
      refine lx_binB false rfl rfl (fun _ => rfl) (fun _ => bin_lss_i _ _ _) (by rw [decide_eq_false_iff_not]; omega) rfl rfl ?_
      refine lx_nil ?_
      refine x_false rfl ?_
      refine x_skip ?_
      refine x_plain (E := EE []) ?_
      refine lx_move rfl rfl rfl ?_
      refine lx_loadr (cs := [.pointer (some ⟨bm, 0, none⟩)]) rfl Tryd.isAgg47 Tryd.sizeOf47 rfl (fun w' h => (hK.o3.grow (hp_below h)).range) rfl rfl ?_
      refine lx_loada 9 rfl rfl Tryd.isAgg29 Tryd.sizeOf29 (by rw [List.length_map]; exact hy) rfl rfl ?_
      refine lx_callC rfl rfl ent23 (fun w' hw' hG => hky_calls bm Z48 hy w' hG (ho.of_same ((hK.ap.m.trans (hp_below hw')).block _ ho.lt))) rfl rfl ?_
      refine lx_bslW1 27 ((BR8 Z48).map U8) hGF rfl (by rw [List.length_map]; exact BR8_len Z48) (by decide) (by decide) Tryd.underlying60 Tryd.sizeOf23 zv23 rfl rfl ?_
      intro b27
      refine lx_appW (ys := (BR8 Z48).map U8) gt_low (fun w' h => hGF.g _ _ _ h) rfl rfl Tryd.underlying60 Tryd.underlying60 tiR (by simp [Value.cells]) (fun w' h => hK.ap.s.grow (hp_below h)) (hK.ap.low hw) (by rw [List.length_map]; exact BR8_len Z48) (hp_row (n := 27) rfl) (one_u8 _) (fun w' h hof => absurd (hK.ap.s.lt _ hof) (Nat.not_lt.2 ((h.own 27 _ _ _ rfl).2.elim id False.elim))) (by omega) (by omega) rfl rfl (fun w1 w2 a1 cap1 hC g2 hm hs ho => ?_)
      have hK2 : KI w w2 bm b3 b6 a1 cap1 (k + 1) (fun i => BR8 (ks.getD i Z48)) := hK.next (BR8_len _) (hp_below hC) g2 hm (by rw [hgD]; exact hs) ho
      have hGF : BOk Gt (pl w2) := gt_low.plain g2
      refine lx_assign rfl rfl rfl ?_
      refine lx_nil ?_
      refine x_plain (E := EE []) ?_
      refine lx_move rfl rfl rfl ?_
      refine lx_bin (v := I (((k + 1 : Nat) : Int))) rfl rfl (fun _ => rfl) (fun _ => (bin_add_i _ _ _ (by unfold inI; omega)).trans (by rfl)) rfl rfl ?_
      refine lx_assign rfl rfl rfl ?_
      refine lx_nil ?_
      repeat (refine kblk_n ?_)
      refine kseq_n ?_
      exact ⟨rfl, ⟨(k + 1, w2, a1, cap1), hlt, hK2⟩, by show n - (k + 1) < n - k; omega, rfl, ⟨rfl, rfl, rfl, rfl, rfl, rfl, trivial⟩⟩
  · skip
    obtain rfl : n = k := by omega
    have hSl : SlW 23 32 wk ak cak (krs ks n).length ((krs ks n).flatten.map U8) := by have h := hK.ap.s; unfold SlR at h; rw [krs_flat] at h; rw [krs_len]; exact h
    have hRt := hSl.rts (krs_all ks n)
    have hKc : n ≤ cak := by have := slw_le hSl; rwa [krs_len] at this
    refine lx_binB false rfl rfl (fun _ => rfl) (fun _ => bin_lss_i _ _ _) (by rw [decide_eq_false_iff_not]; omega) rfl rfl ?_
    refine lx_nil ?_
    refine x_false rfl ?_
    refine x_exit ?_
    refine xs_drawn (E := EE []) mixed (by kernel_rfl) (by kernel_rfl) (by kernel_rfl) ?_
    refine lx_loadr (cs := [.pointer (some ⟨bm, 0, none⟩)]) rfl Tryd.isAgg47 Tryd.sizeOf47 rfl (fun w' h => (hK.o3.grow (hp_below h)).range) rfl rfl ?_
    refine lx_move rfl rfl rfl ?_
    refine lx_move rfl rfl rfl ?_
    refine lx_callC rfl rfl ent30 (fun w' _ hG => hdepth_calls (n : Int) w' hG) rfl rfl ?_
    rw [Int.toNat_natCast]
    refine lx_callC rfl rfl ent29 (fun w' hw' hG => htree_calls bm _ (by have := (dep_is n).1; omega) (krs ks n) (krs_all ks n) n (krs_len ks n) (by omega) ak cak hKc w' hG (ho.of_same ((hK.ap.m.trans (hp_below hw')).block _ ho.lt)) (hRt.grow (hp_below hw'))) rfl rfl ?_
    rw [show tre P2 Z0 (dep n) (krs ks n) = Tor (krs ks n) from by rw [Tor, krs_len]]
    refine lx_stW (vs := (Tor (krs ks n)).map U8) gt_low (fun w' h => hGF.g _ _ _ h) (fun w' h => hK.o6.grow (hp_below h)) (Nat.le_trans (gt_low.size w hw) h6w) rfl rfl Tryd.sizeOf23 (by rw [List.length_map]; exact tor_len (krs_all _ _)) (one_u8 _) (by rw [List.length_map, tor_len (krs_all _ _)]; decide) rfl (fun w5a w5 hC5 g5 hm5 ho6 => ?_)
    rw [lay_all _ _ (by rw [List.length_map, tor_len (krs_all _ _)]; rfl)] at ho6
    have hW := hm5.grow0 (hK.ap.m.trans (hp_below hC5)) (fun k hk => hk ▸ h6w)
    have hGF := gt_low.plain g5
    clear hC5 hm5
    refine lx_nil ?_
    refine x_ret ?_
    repeat (first | refine kseq_ret ?_ | refine kblk_ret ?_)
    exact kret_cell rfl rfl Tryd.isAgg23 Tryd.sizeOf23 (by rw [List.length_map]; exact tor_len (krs_all _ _)) (fun w' h => (ho6.grow (hp_below h)).range) (fun w' hw' => ⟨rfl, hW.trans (hp_below hw')⟩)
end Go.Proofs.YtldnceanfncdfaaDoor
