/-
  What the laws of layer 9 share: light, known, point.
-/
import Derived.Test.YtfknmeefbccflaaGreatDoorV3
import Derived.Test.YtfknmeefbccflaaGreatDoorX3
namespace Go.Proofs.YtfknmeefbccflaaGreatDoor
open Go.RowKit
set_option maxRecDepth 100000
set_option maxHeartbeats 1000000
attribute [local simp] fe_len nm_len AS_len SS_len MONT_len RM_len FRs_len BYs_len by48_len PLl TWOl ONEl N1l IVPl HFPl RTPl FL_len SP_len fe2_len SP2_len FM_len GL_len

theorem light_calls (b m : Nat) (vs : List (Option Addr × Nat × Nat)) (hm : vs.length = m) (hb : m ≤ 100) (w : World) (hw : Gt w) (ho : w.rangeAt b 0 (SVl vs)) :
    Calls Tryz.prog 11 [.slice (some ⟨b, 0, none⟩) m m].toArray w (fun r w' => r = .returned (.bool (decide (∀ v ∈ vs, v.2.1 ≤ 100))) ∧ Grow w w') := by
  have hGF : BOk Gt (pl w) := gt_low.plain hw
  refine calls_of_X (G := Gt) Tryz.func11 rfl rfl (Hp (pl w) []) (hp_refl (pl w) trivial rides_true) (good_hp hGF) ?_
  refine xs_plain (E := EE []) ?_
  refine lx_assign rfl rfl rfl ?_
  refine lx_nil ?_
  refine x_seq ?_
  refine xs_plain (E := EE []) ?_
  refine lx_assign rfl rfl rfl ?_
  refine lx_nil ?_
  refine x_block ?_
  refine x_for (ι := { i : Nat // i ≤ m ∧ ∀ (j : Nat) v, j < i → vs[j]? = some v → v.2.1 ≤ 100 }) (fun y => [(0, .slice (some ⟨b, 0, none⟩) m m), (3, I (y.1 : Int))]) (fun y => []) (fun y => m - y.1) ⟨0, Nat.zero_le _, fun _ _ h => absurd h (Nat.not_lt_zero _)⟩ hGF ⟨rfl, rfl, trivial⟩ trivial ?_
  rintro ⟨i, hi, hall⟩
  dsimp only
  refine x_seq ?_
  refine xs_plain (E := EE []) ?_
  refine lx_move rfl rfl rfl ?_
  refine lx_move rfl rfl rfl ?_
  refine lx_len rfl (fun _ => len_slice Tryz.underlying82 _ _ _ _) rfl rfl ?_
  refine lx_bin rfl rfl (fun _ => rfl) (fun _ => bin_lss_i _ _ _) rfl rfl ?_
  refine lx_nil ?_
  refine x_if rfl (fun hc => ?_) (fun hc => ?_)
  · have hi2 : i < m := by simp at hc; omega
    clear hc
    refine x_skip ?_
    refine x_seq ?_
    refine x_block ?_
    refine xs_plain (E := EE []) ?_
    refine lx_move rfl rfl rfl ?_
    refine lx_move rfl rfl rfl ?_
    obtain ⟨v, hv⟩ : ∃ v, vs[i]? = some v := ⟨_, List.getElem?_eq_getElem (by omega)⟩
    refine lx_is1 i rfl rfl Tryz.underlying82 Tryz.sizeOf22 (by omega) (by omega) rfl rfl ?_
    refine lx_load rfl Tryz.isAgg22 (fun w' h => hp_oldrange ho (fun h => h) w' h i (.slice v.1 v.2.1 v.2.2) (by rw [SVl, List.getElem?_map, hv]; rfl)) rfl rfl ?_
    refine lx_len rfl (fun _ => len_slice Tryz.underlying22 _ _ _ _) rfl rfl ?_
    refine lx_bin rfl rfl (fun _ => rfl) (fun _ => bin_gtr_i _ _ _) rfl rfl ?_
    refine lx_nil ?_
    refine x_if rfl (fun hc => ?_) (fun hc => ?_)
    · have hbig : ¬ v.2.1 ≤ 100 := by simp at hc; omega
      refine xs_plain (E := EE []) ?_
      refine lx_assign rfl rfl rfl ?_
      refine lx_nil ?_
      refine x_ret ?_
      repeat (first | refine kseq_ret ?_ | refine kblk_ret ?_)
      exact kret_tmp rfl rfl (fun w hw => ⟨by rw [decide_eq_false (fun h => hbig (h v (List.mem_of_getElem? hv)))] <;> rfl, hp_below hw⟩)
    · have hle : v.2.1 ≤ 100 := by simp at hc; omega
      clear hc
      have hall' : ∀ (j : Nat) u, j < i + 1 → vs[j]? = some u → u.2.1 ≤ 100 := fun j u hj hu => by
        rcases Nat.lt_or_ge j i with h | h
        · exact hall j u h hu
        · obtain rfl : j = i := by omega
          cases hv.symm.trans hu
          exact hle
      refine x_skip ?_
      refine x_plain (E := EE []) ?_
      refine lx_move rfl rfl rfl ?_
      refine lx_bin rfl rfl (fun _ => rfl) (fun _ => bin_add_i _ _ _ (by unfold inI; omega)) rfl rfl ?_
      refine lx_assign rfl rfl rfl ?_
      refine lx_nil ?_
      repeat (refine kblk_n ?_)
      refine kseq_n ?_
      exact ⟨rfl, ⟨i + 1, by omega, hall'⟩, _, by show m - (i + 1) < m - i; omega, rfl, ⟨rfl, rfl, trivial⟩, trivial⟩
  · obtain rfl : i = m := by simp at hc; omega
    clear hc
    refine x_exit ?_
    refine xs_plain (E := EE []) ?_
    refine lx_assign rfl rfl rfl ?_
    refine lx_nil ?_
    refine x_ret ?_
    repeat (first | refine kseq_ret ?_ | refine kblk_ret ?_)
    exact kret_tmp rfl rfl (fun w hw => ⟨by rw [decide_eq_true (fun v hv => by obtain ⟨j, hj⟩ := List.getElem?_of_mem hv; exact hall j v (by have := (List.getElem?_eq_some_iff.1 hj).1; omega) hj)] <;> rfl, hp_below hw⟩)
theorem mul_len (p : GP) (e : Option Addr) (cap : Nat) (bs : List (BitVec 8)) (n : Nat) (hn : bs.length = n) (hlen : n ≤ 1000) (w : World) (hw : Gt w) (hby : BytesAt w e bs) : Calls Tryz.prog 36 [PtV p, .slice e n cap].toArray w (fun r w' => r = .returned (PtV (gMul p bs)) ∧ Grow w w') := by
  subst hn
  exact mul_c p e cap bs hlen w hw hby
theorem mul_times {p : GP} {bs : List (BitVec 8)} {n m : Nat} (hl : bs.length = n) (hn : BN bs n = m) {Q : Pt W2} (h : E2w.times p.P m = Q) : (gMul p bs).P = Q := by
  subst hl hn
  exact h
theorem k_ord : (gMul gGen ORB).P = none := mul_times ORB_len ORB_n g2_order
theorem k_nine : ¬ (gMul gGen [9#8]).P = none := fun e => g2_times9 ((mul_times (p := gGen) (bs := [9#8]) (n := 1) (m := 9) rfl rfl rfl).symm.trans e)
theorem k_und (p : GP) : (gAdd p (gNeg p)).P = none := E2w.ad_ne p.P
theorem known8  : Pure Tryz.prog Gt 10 [] (.bool true) := by
  intro w hw
  have hGF : BOk Gt (pl w) := gt_low.plain hw
  refine calls_of_X (G := Gt) Tryz.func10 rfl rfl (Hp (pl w) []) (hp_refl (pl w) trivial rides_true) (good_hp hGF) ?_
  refine xs_plain (E := EE []) ?_
  refine lx_assign rfl rfl rfl ?_
  refine lx_nil ?_
  refine xs_plain (E := EE []) ?_
  refine lx_call rfl rfl ent38 (gen_p) rfl rfl ?_
  refine lx_allocr 1 hGF zv33 rfl rfl ?_
  intro b1
  refine lx_storea 1 hGF rfl rfl rfl Tryz.sizeOf33 (by simp) (by simp) (one_u64 _) rfl ?_
  refine lx_nil ?_
  refine xs_plain (E := EE []) ?_
  refine lx_allocr 2 hGF zv33 rfl rfl ?_
  intro b2
  refine lx_nil ?_
  refine xs_tree (EE [49, 2000049, 2999998]) mixed (by kernel_rfl) (by kernel_rfl) ?_
  refine tr_pre (m := 0) [0, 1, 2, 3, 4, 5, 6, 7, 8, 9, 10, 11, 12, 13, 14, 15, 16, 17, 18, 19, 20, 21, 22, 23, 24, 25, 26, 27, 28, 29, 30, 31, 32, 33, 34, 35, 36, 37, 38, 39, 40, 41, 42, 43, 44] (by kernel_rfl) ?_
  refine lx_loada 1 rfl rfl Tryz.isAgg33 Tryz.sizeOf33 (by simp) rfl rfl ?_
  refine lx_call rfl rfl ent48 (r9gen1) rfl rfl ?_
  refine lx_callB true rfl rfl ent22 (same8 gGen _ (RJ2_jr _)) (rfl) rfl rfl ?_
  refine lx_move rfl rfl rfl ?_
  refine lx_loada 1 rfl rfl Tryz.isAgg33 Tryz.sizeOf33 (by simp) rfl rfl ?_
  refine lx_callB true rfl rfl ent46 (inGroup_p _) (decide_eq_true g2_order) rfl rfl ?_
  refine lx_pick rfl rfl rfl rfl rfl ?_
  refine lx_move rfl rfl rfl ?_
  refine lx_loada 1 rfl rfl Tryz.isAgg33 Tryz.sizeOf33 (by simp) rfl rfl ?_
  refine lx_callG rfl rfl ent49 rfl rfl (fun w' hw' => (r9order_calls w' (hGF.g _ _ _ hw')).mono fun e w'' h => ?_)
  obtain ⟨bm, rfl, hg, hb, hob⟩ := h
  refine ⟨_, _, rfl, good_hp hGF, hw'.news rides_true hg [(933, bm, RB48.map U8, 107)] ?_ inj_one, hp_fresh rides_true rfl, ?_⟩
  · intro n' b' c' t' hl
    rcases lkB_cons hl with ⟨_, e⟩ | ⟨_, hl⟩
    · cases e; exact ⟨hb, hob⟩
    · cases hl
  clear hw' hg hb hob
  refine lx_callC rfl rfl ent36 (fun w' hC hG => mul_len gGen _ _ ORB 32 ORB_len (by decide) w' hG (ORB_at (hC.own 933 _ _ _ rfl).1)) rfl rfl ?_
  refine lx_callB true rfl rfl ent16 (isInf_p _) (decide_eq_true k_ord) rfl rfl ?_
  refine lx_pick rfl rfl rfl rfl rfl ?_
  refine lx_move rfl rfl rfl ?_
  refine lx_loada 1 rfl rfl Tryz.isAgg33 Tryz.sizeOf33 (by simp) rfl rfl ?_
  refine lx_bslG 19 [9#8] hGF rfl rfl rfl rfl (by decide) (by decide) Tryz.underlying22 Tryz.sizeOf5 Tryz.zeroValue5 rfl rfl ?_
  intro b19
  refine lx_callC rfl rfl ent36 (fun w' hC hG => mul_len gGen _ _ [9#8] 1 rfl (by decide) w' hG (BytesAt.range (hp_row (n := 19) rfl w' hC))) rfl rfl ?_
  refine lx_callB false rfl rfl ent16 (isInf_p _) (decide_eq_false k_nine) rfl rfl ?_
  refine lx_un rfl (fun _ => un_not _) rfl rfl ?_
  refine lx_pick rfl rfl rfl rfl rfl ?_
  refine lx_move rfl rfl rfl ?_
  refine lx_loada 2 rfl rfl Tryz.isAgg33 Tryz.sizeOf33 (by simp) rfl rfl ?_
  refine lx_callB true rfl rfl ent16 (isInf_p _) (decide_eq_true rfl) rfl rfl ?_
  refine lx_pick rfl rfl rfl rfl rfl ?_
  refine lx_move rfl rfl rfl ?_
  refine lx_loada 2 rfl rfl Tryz.isAgg33 Tryz.sizeOf33 (by simp) rfl rfl ?_
  refine lx_call rfl rfl ent27 (inf_p) rfl rfl ?_
  refine lx_callB true rfl rfl ent23 (equal_p _ _) (decide_eq_true rfl) rfl rfl ?_
  refine lx_pick rfl rfl rfl rfl rfl ?_
  refine lx_move rfl rfl rfl ?_
  refine lx_loada 1 rfl rfl Tryz.isAgg33 Tryz.sizeOf33 (by simp) rfl rfl ?_
  refine lx_loada 1 rfl rfl Tryz.isAgg33 Tryz.sizeOf33 (by simp) rfl rfl ?_
  refine lx_call rfl rfl ent26 (add_p _ _) rfl rfl ?_
  refine lx_loada 1 rfl rfl Tryz.isAgg33 Tryz.sizeOf33 (by simp) rfl rfl ?_
  refine lx_call rfl rfl ent30 (dbl_p _) rfl rfl ?_
  refine lx_callB true rfl rfl ent23 (equal_p _ _) (decide_eq_true rfl) rfl rfl ?_
  refine lx_pick rfl rfl rfl rfl rfl ?_
  refine lx_move rfl rfl rfl ?_
  refine lx_loada 1 rfl rfl Tryz.isAgg33 Tryz.sizeOf33 (by simp) rfl rfl ?_
  refine lx_loada 1 rfl rfl Tryz.isAgg33 Tryz.sizeOf33 (by simp) rfl rfl ?_
  refine lx_call rfl rfl ent24 (neg_p _) rfl rfl ?_
  refine lx_call rfl rfl ent26 (add_p _ _) rfl rfl ?_
  refine lx_callB true rfl rfl ent16 (isInf_p _) (decide_eq_true (k_und _)) rfl rfl ?_
  refine lx_pick rfl rfl rfl rfl rfl ?_
  refine lx_assign rfl rfl rfl ?_
  refine lx_nil ?_
  refine tr_nil (by kernel_rfl) ?_
  refine kseq_n ?_
  refine x_ret ?_
  repeat (first | refine kseq_ret ?_ | refine kblk_ret ?_)
  exact kret_tmp rfl rfl (fun w hw => ⟨rfl, hp_below hw⟩)
theorem light_t (b m : Nat) (vs : List (Option Addr × Nat × Nat)) (hm : vs.length = m) (hb : m ≤ 100) (h : ∀ v ∈ vs, v.2.1 ≤ 100) (w : World) (hw : Gt w) (ho : w.rangeAt b 0 (SVl vs)) :
    Calls Tryz.prog 11 [.slice (some ⟨b, 0, none⟩) m m].toArray w (fun r w' => r = .returned (.bool true) ∧ Grow w w') := by
  have k := light_calls b m vs hm hb w hw ho
  rw [decide_eq_true h] at k
  exact k
theorem light_f (b m : Nat) (vs : List (Option Addr × Nat × Nat)) (hm : vs.length = m) (hb : m ≤ 100) (h : ¬ ∀ v ∈ vs, v.2.1 ≤ 100) (w : World) (hw : Gt w) (ho : w.rangeAt b 0 (SVl vs)) :
    Calls Tryz.prog 11 [.slice (some ⟨b, 0, none⟩) m m].toArray w (fun r w' => r = .returned (.bool false) ∧ Grow w w') := by
  have k := light_calls b m vs hm hb w hw ho
  rw [decide_eq_false h] at k
  exact k
end Go.Proofs.YtfknmeefbccflaaGreatDoor
