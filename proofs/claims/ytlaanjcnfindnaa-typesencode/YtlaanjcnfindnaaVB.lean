/-
  The document's committees, aggregates, updates and bootstraps as bytes.
-/
import Derived.Test.YtlaanjcnfindnaaVA
import Derived.Test.YtlaanjcnfindnaaX3
namespace Go.Proofs.Ytlaanjcnfindnaa
open Go.RowKit
set_option maxRecDepth 100000
set_option maxHeartbeats 1000000

theorem zvK (w : World) : (zeroValue 29).run Try.prog w = .ok (.agg (Z48.map U8).toArray) w := (Try.zeroValue29 w).trans (by rfl)
theorem Co.at_sum {c : Co} : ∀ j v, (c.sum.map U8)[j]? = some v → c.cs[1 + j]? = some v := end_at (pre := [.slice c.ka c.ks.length c.kc]) rfl
theorem Ag.at_sig {a : Ag} : ∀ j v, (a.sig.map U8)[j]? = some v → a.cs[1 + j]? = some v := end_at (pre := [.slice a.ba a.bs.length a.bc]) rfl
theorem com_calls (c : Co) (hk : c.Ok) (n : Nat) (hn : n ≤ 1000) (xs : By) (a : Option Addr) (cap : Nat) (hl : xs.length ≤ 800000) (w : World) (hw : Gt w) (hs : SlV 5 w a cap (xs.map U8)) (hks : RwsAt 48 w c.ka c.ks) (hd : c.ks ≠ [] → ∀ k, Of c.ka k → ¬ Of a k) : Calls Try.prog 35 [.slice a xs.length cap, .agg c.cs.toArray, I (n : Int)].toArray w (fun e w' => ∃ a1 cap1, e = .returned (.slice a1 (xs ++ c.by n).length cap1) ∧ Ap8 w a w' a1 cap1 (xs ++ c.by n)) := by
  have hGF : BOk Gt (pl w) := gt_low.plain hw
  refine calls_of_X (G := Gt) Try.func35 rfl rfl (Hp (pl w) []) (hp_refl (pl w) trivial rides_true) (good_hp hGF) ?_
  refine xs_plain (E := EE []) ?_
  refine lx_boxr 4 hGF rfl rfl rfl ?_
  intro b4
  refine lx_assign rfl rfl rfl ?_
  refine lx_nil ?_
  refine x_seq ?_
  refine x_now0 gt_low (fun w3 hC g3 => ?_)
  have hE : En w a 31 b4 c.cs w3 a cap xs := En.start (n := 4) hs hC rfl g3
  clear hC
  have hGF := gt_low.plain hE.ap.g
  refine xs_plain (E := EE []) ?_
  refine lx_assign rfl rfl rfl ?_
  refine lx_nil ?_
  refine x_block ?_
  refine x_forW gt_low (ι := { x : Nat × World × Option Addr × Nat // x.1 ≤ n ∧ En w a 31 b4 c.cs x.2.1 x.2.2.1 x.2.2.2 (xs ++ keysB c.ks x.1) }) (fun x => [(0, .slice x.1.2.2.1 (xs ++ keysB c.ks x.1.1).length x.1.2.2.2), (2, I (n : Int)), (4, .pointer (some ⟨b4, 0, none⟩)), (7, I (x.1.1 : Int))]) (fun x => x.1.2.1) (fun x => n - x.1.1) ⟨(0, w3, a, cap), Nat.zero_le _, by simpa [keysB] using hE⟩ (fun x => x.2.2.ap.g) rfl ⟨by rw [show (xs ++ keysB c.ks 0).length = xs.length from by simp [keysB]]; rfl, rfl, rfl, rfl, trivial⟩ ?_
  clear hE hGF
  rintro ⟨⟨i, wk, ak, ck⟩, hi, hE⟩
  dsimp only at hi hE ⊢
  have hGF := gt_low.plain hE.ap.g
  have hK := hks.mm hE.ap.m hd
  refine x_seq ?_
  refine xs_plain (E := EE []) ?_
  refine lx_move rfl rfl rfl ?_
  refine lx_move rfl rfl rfl ?_
  rcases Nat.lt_or_ge i n with hlt | hge
  · skip
    refine lx_binB true rfl rfl (fun _ => rfl) (fun _ => bin_lss_i _ _ _) (by simp; omega) rfl rfl ?_
    refine lx_nil ?_
    refine x_true rfl ?_
    refine x_skip ?_
    refine x_seq ?_
    refine x_block ?_
    refine xs_plain (E := EE []) ?_
    refine lx_allocr 8 hGF zvK rfl rfl ?_
    intro b8
    refine lx_nil ?_
    refine x_seq ?_
    refine xs_plain (E := EE []) ?_
    refine lx_move rfl rfl rfl ?_
    refine lx_fak 0 rfl Try.underlying31 rfl Try.sizeOf27 (by decide) rfl rfl rfl ?_
    refine lx_load rfl Try.isAgg27 (fun w' h => ((hE.ob.grow (hp_below h)).cell 0).trans rfl) rfl rfl ?_
    refine lx_len rfl (fun _ => len_slice Try.underlying27 _ _ _ _) rfl rfl ?_
    rcases Nat.lt_or_ge i c.ks.length with hik | hik
    · skip
      obtain ⟨y, hiy⟩ : ∃ y, c.ks[i]? = some y := ⟨_, List.getElem?_eq_getElem hik⟩
      have hy : y.length = 48 := hk.ks y (List.mem_of_getElem? hiy)
      obtain ⟨ad, hka, hyc⟩ := hK i y hiy
      have hgD : c.ks.getD i Z48 = y := by rw [List.getD_eq_getElem?_getD, hiy]; rfl
      refine lx_binB true rfl rfl (fun _ => rfl) (fun _ => bin_lss_i _ _ _) (by simp; omega) rfl rfl ?_
      refine lx_nil ?_
      refine x_true rfl ?_
      refine x_plain (E := EE []) ?_
      refine lx_fak 0 rfl Try.underlying31 rfl Try.sizeOf27 (by decide) rfl rfl rfl ?_
      refine lx_load rfl Try.isAgg27 (fun w' h => ((hE.ob.grow (hp_below h)).cell 0).trans rfl) rfl rfl ?_
      refine lx_move rfl rfl rfl ?_
      refine lx_isAW (ad := ad) i 48 (by rw [← hka]; rfl) rfl Try.underlying27 Try.sizeOf29 rfl hik rfl rfl ?_
      refine lx_loadA (cs := y.map U8) rfl Try.isAgg29 Try.sizeOf29 (by rw [List.length_map]; exact hy) (fun w' h j v hv => ((hp_below h).cell (block_lt_of_cell (hyc j v hv))).trans (hyc j v hv)) rfl rfl ?_
      refine lx_storea 8 hGF rfl rfl rfl Try.sizeOf29 (by rw [List.length_map]; exact hy) (by rw [List.length_map]; rfl) (one_u8 _) rfl ?_
      refine lx_nil ?_
      refine x_plain (E := EE []) ?_
      refine lx_move rfl rfl rfl ?_
      refine lx_slarr0 rfl Try.underlying29 Try.sizeOf5 (by decide) rfl rfl ?_
      refine lx_app8 (xs := (xs ++ keysB c.ks i)) (ys := y) gt_low (fun w' h => hGF.g _ _ _ h) rfl (by rw [hy]; rfl) Try.underlying46 Try.underlying46 ti5 (fun w' h => hE.ap.s.grow (hp_below h)) (fun k _ => Nat.zero_le k) (fun w' h => BytesAt.range (hp_row (n := 8) rfl w' h)) (fun w' h _ ad e hof => by cases e; obtain ⟨ad2, e2, e3⟩ := hof; exact absurd (hE.ap.s.lt ad2 e2) (by rw [← e3]; exact Nat.not_lt.2 ((h.own 8 _ _ _ rfl).2.elim id False.elim))) (by simp [keysB_len hk.ks, hy] <;> omega) rfl rfl (fun w26a w26 a26 c26 hC g2 hm hs ho => ?_)
      have hE := hE.next (hp_below hC) g2 hm hs ho
      have hGF := gt_low.plain hE.ap.g
      clear hC g2 hm hs ho
      rw [show xs ++ keysB c.ks i ++ y = xs ++ keysB c.ks (i + 1) from by rw [keysB_s, hgD, List.append_assoc]] at hE ⊢
      refine lx_assign rfl rfl rfl ?_
      refine lx_nil ?_
      refine x_plain (E := EE []) ?_
      refine lx_move rfl rfl rfl ?_
      refine lx_bin (v := I (((i + 1 : Nat) : Int))) rfl rfl (fun _ => rfl) (fun _ => (bin_add_i _ _ _ (by unfold inI; omega)).trans (by rfl)) rfl rfl ?_
      refine lx_assign rfl rfl rfl ?_
      refine lx_nil ?_
      repeat (refine kblk_n ?_)
      refine kseq_n ?_
      exact ⟨rfl, ⟨(i + 1, w26, a26, c26), hlt, hE⟩, by show n - (i + 1) < n - i; omega, rfl, ⟨rfl, rfl, rfl, rfl, trivial⟩⟩
    · skip
      have hy : Z48.length = 48 := rfl
      have hgD : c.ks.getD i Z48 = Z48 := by rw [List.getD_eq_getElem?_getD, List.getElem?_eq_none hik]; rfl
      refine lx_binB false rfl rfl (fun _ => rfl) (fun _ => bin_lss_i _ _ _) (by rw [decide_eq_false_iff_not]; omega) rfl rfl ?_
      refine lx_nil ?_
      refine x_false rfl ?_
      refine x_skip ?_
      refine x_plain (E := EE []) ?_
      refine lx_move rfl rfl rfl ?_
      refine lx_slarr0 rfl Try.underlying29 Try.sizeOf5 (by decide) rfl rfl ?_
      refine lx_app8 (xs := (xs ++ keysB c.ks i)) (ys := Z48) gt_low (fun w' h => hGF.g _ _ _ h) rfl (by rw [hy]; rfl) Try.underlying46 Try.underlying46 ti5 (fun w' h => hE.ap.s.grow (hp_below h)) (fun k _ => Nat.zero_le k) (fun w' h => BytesAt.range (hp_row (n := 8) rfl w' h)) (fun w' h _ ad e hof => by cases e; obtain ⟨ad2, e2, e3⟩ := hof; exact absurd (hE.ap.s.lt ad2 e2) (by rw [← e3]; exact Nat.not_lt.2 ((h.own 8 _ _ _ rfl).2.elim id False.elim))) (by simp [keysB_len hk.ks, hy] <;> omega) rfl rfl (fun w26a w26 a26 c26 hC g2 hm hs ho => ?_)
      have hE := hE.next (hp_below hC) g2 hm hs ho
      have hGF := gt_low.plain hE.ap.g
      clear hC g2 hm hs ho
      rw [show xs ++ keysB c.ks i ++ Z48 = xs ++ keysB c.ks (i + 1) from by rw [keysB_s, hgD, List.append_assoc]] at hE ⊢
      refine lx_assign rfl rfl rfl ?_
      refine lx_nil ?_
      refine x_plain (E := EE []) ?_
      refine lx_move rfl rfl rfl ?_
      refine lx_bin (v := I (((i + 1 : Nat) : Int))) rfl rfl (fun _ => rfl) (fun _ => (bin_add_i _ _ _ (by unfold inI; omega)).trans (by rfl)) rfl rfl ?_
      refine lx_assign rfl rfl rfl ?_
      refine lx_nil ?_
      repeat (refine kblk_n ?_)
      refine kseq_n ?_
      exact ⟨rfl, ⟨(i + 1, w26, a26, c26), hlt, hE⟩, by show n - (i + 1) < n - i; omega, rfl, ⟨rfl, rfl, rfl, rfl, trivial⟩⟩
  · skip
    obtain rfl : i = n := by omega
    refine lx_binB false rfl rfl (fun _ => rfl) (fun _ => bin_lss_i _ _ _) (by rw [decide_eq_false_iff_not]; omega) rfl rfl ?_
    refine lx_nil ?_
    refine x_false rfl ?_
    refine x_exit ?_
    refine xs_plain (E := EE []) ?_
    refine lx_move rfl rfl rfl ?_
    refine lx_fak 1 rfl Try.underlying31 rfl Try.sizeOf29 (by decide) rfl rfl rfl ?_
    refine lx_slarr0 rfl Try.underlying29 Try.sizeOf5 (by decide) rfl rfl ?_
    refine lx_app8 (xs := (xs ++ keysB c.ks i)) (ys := c.sum) gt_low (fun w' h => hGF.g _ _ _ h) rfl (by rw [hk.sum]; rfl) Try.underlying46 Try.underlying46 ti5 (fun w' h => hE.ap.s.grow (hp_below h)) (fun k _ => Nat.zero_le k) (fun w' h => own_by (hE.ob.grow (hp_below h)) Co.at_sum) (fun w' h _ ad e hof => by cases e; exact hE.nb _ hof rfl) (by simp [keysB_len hk.ks, hk.sum] <;> omega) rfl rfl (fun w30a w30 a30 c30 hC g2 hm hs ho => ?_)
    have hE := hE.next (hp_below hC) g2 hm hs ho
    have hGF := gt_low.plain hE.ap.g
    clear hC g2 hm hs ho
    refine lx_assign rfl rfl rfl ?_
    refine lx_nil ?_
    refine x_ret ?_
    repeat (first | refine kseq_ret ?_ | refine kblk_ret ?_)
    exact kret_tmp rfl rfl (fun w' hw' => ⟨_, _, by rw [Co.by, ← List.append_assoc], by rw [Co.by, ← List.append_assoc]; exact hE.ap.grow (hp_below hw')⟩)
theorem En.up {w0 w w1 : World} {a0 a : Option Addr} {t : TypeId} {b cap : Nat} {cs : List Value} {xs : By} (h : En w0 a0 t b cs w a cap xs) (hg : Grow w w1) (_g1 : Gt w1) : En w0 a0 t b cs w1 a cap xs := ⟨h.ap.grow hg, h.ob.grow hg, h.nb⟩
theorem agg_calls (s : Ag) (hk : s.Ok) (hn : s.bs.length ≤ 100000) (xs : By) (a : Option Addr) (cap : Nat) (hl : xs.length ≤ 800000) (w : World) (hw : Gt w) (hs : SlV 5 w a cap (xs.map U8)) (hbs : CellsAt w s.ba (s.bs.map .bool)) (hd : s.bs.map Value.bool ≠ [] → ∀ k, Of s.ba k → ¬ Of a k) : Calls Try.prog 38 [.slice a xs.length cap, .agg s.cs.toArray].toArray w (fun e w' => ∃ a1 cap1, e = .returned (.slice a1 (xs ++ s.by).length cap1) ∧ Ap8 w a w' a1 cap1 (xs ++ s.by)) := by
  have hGF : BOk Gt (pl w) := gt_low.plain hw
  refine calls_of_X (G := Gt) Try.func38 rfl rfl (Hp (pl w) []) (hp_refl (pl w) trivial rides_true) (good_hp hGF) ?_
  refine xs_plain (E := EE []) ?_
  refine lx_boxr 3 hGF rfl rfl rfl ?_
  intro b3
  refine lx_assign rfl rfl rfl ?_
  refine lx_nil ?_
  refine x_now0 gt_low (fun w3 hC g3 => ?_)
  have hE : En w a 38 b3 s.cs w3 a cap xs := En.start (n := 3) hs hC rfl g3
  clear hC
  have hGF := gt_low.plain hE.ap.g
  refine xs_draws (E := EE [61]) [0, 1, 2, 5, 6, 3, 4, 7, 8] mixed rfl (by kernel_rfl) (by kernel_rfl) (by kernel_rfl) ?_
  refine lx_move rfl rfl rfl ?_
  refine lx_fak 0 rfl Try.underlying38 rfl Try.sizeOf34 (by decide) rfl rfl rfl ?_
  refine lx_load rfl Try.isAgg34 (fun w' h => ((hE.ob.grow (hp_below h)).cell 0).trans rfl) rfl rfl ?_
  refine lx_fak 1 rfl Try.underlying38 rfl Try.sizeOf36 (by decide) rfl rfl rfl ?_
  refine lx_slarr0 rfl Try.underlying36 Try.sizeOf5 (by decide) rfl rfl ?_
  refine lx_callW gt_low (M := fun _ => False) (fun k h => h.elim) rfl rfl ent61 rfl rfl hGF (Q := fun w1 w2 v => Fr8 w1 w2 v (pb s.bs s.bs.length)) (fun w1 h1 g1 => (rbi_calls s.bs s.ba s.bc (by omega) w1 g1 (cells_mm hbs (hE.ap.m.trans (grow_mm h1)) hd)).mono fun e w2 ⟨v, q1, q2, q3⟩ => ⟨_, q1, grow_mm q2, q3⟩) (fun w8a w8 v hg8 hm8 gg8 hq => ?_)
  obtain ⟨a8, c8, rfl, hq1, hq2⟩ := hq
  have hr8 := hg8.trans (hm8.grow (fun _ _ h => h))
  have hnw : ∀ k, Of a8 k → w3.heap.size ≤ k := fun k ⟨ad, e, e2⟩ => by have := hq2 ad e; have := hg8.size; omega
  have hlt3 : ∀ k, Of a k → k < w3.heap.size := fun k ⟨ad, e, e2⟩ => by have := hE.ap.s.lt ad e; omega
  have hE := hE.up hr8 gg8
  have hGF := gt_low.plain hE.ap.g
  refine lx_app8 (xs := xs) (ys := pb s.bs s.bs.length) gt_low (fun w' h => hGF.g _ _ _ h) rfl (rfl) Try.underlying46 Try.underlying46 ti5 (fun w' h => hE.ap.s.grow (hp_below h)) (fun k _ => Nat.zero_le k) (fun w' h => (hq1.grow (hp_below h)).bytes) (fun w' h _ ad e hof => by have h1 := hnw _ ⟨ad, e, rfl⟩; have h2 := hlt3 _ hof; omega) (by simp [pb_len, szB] <;> omega) rfl rfl (fun w9a w9 a9 c9 hC g2 hm hs ho => ?_)
  have hE := hE.next (hp_below hC) g2 hm hs ho
  have hGF := gt_low.plain hE.ap.g
  clear hC g2 hm hs ho
  refine lx_app8 (xs := (xs ++ pb s.bs s.bs.length)) (ys := s.sig) gt_low (fun w' h => hGF.g _ _ _ h) rfl (by rw [hk.sig]; rfl) Try.underlying46 Try.underlying46 ti5 (fun w' h => hE.ap.s.grow (hp_below h)) (fun k _ => Nat.zero_le k) (fun w' h => own_by (hE.ob.grow (hp_below h)) Ag.at_sig) (fun w' h _ ad e hof => by cases e; exact hE.nb _ hof rfl) (by simp [pb_len, szB, hk.sig] <;> omega) rfl rfl (fun w12a w12 a12 c12 hC g2 hm hs ho => ?_)
  have hE := hE.next (hp_below hC) g2 hm hs ho
  have hGF := gt_low.plain hE.ap.g
  clear hC g2 hm hs ho
  refine lx_assign rfl rfl rfl ?_
  refine lx_nil ?_
  refine x_ret ?_
  repeat (first | refine kseq_ret ?_ | refine kblk_ret ?_)
  exact kret_tmp rfl rfl (fun w' hw' => ⟨_, _, by rw [Ag.by, ← List.append_assoc], by rw [Ag.by, ← List.append_assoc]; exact hE.ap.grow (hp_below hw')⟩)
end Go.Proofs.Ytlaanjcnfindnaa
