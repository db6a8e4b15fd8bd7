/-
  The law of reading.
-/
import Derived.Test.YtjifjpcgdkepkaaTS
namespace Go.Proofs.Ytjifjpcgdkepkaa
open Go.RowKit
set_option maxRecDepth 100000
set_option maxHeartbeats 1000000

theorem RdAt.ecell {t : TypeId} {S : Nat → Prop} {w : World} {b : Nat} {bs : List (BitVec 8)} {e : Int} (h : RdAt t S w b bs e) : w.cell? ⟨b, 1, none⟩ = some (I e) := by
  obtain ⟨a, c, ho, _⟩ := h
  exact (ho.cell 1).trans rfl
theorem lft_le (bs : List (BitVec 8)) (e : Int) (m : Nat) : (lft bs e m).length ≤ bs.length := by
  unfold lft; split
  · rw [List.length_drop]; omega
  · exact Nat.le_refl _
theorem lftB_le (bs : List (BitVec 8)) (e : Int) (m : Nat) : (lftB bs e m).length ≤ bs.length := by
  unfold lftB; split
  · rw [List.length_drop]; omega
  · exact Nat.le_refl _
theorem gotB_le (bs : List (BitVec 8)) (e : Int) (m : Nat) : (gotB bs e m).length ≤ 8 * bs.length := by
  unfold gotB; split
  · rename_i h; have := h.2.1; rw [bt_len]; unfold szB at this; omega
  · simp
theorem bldQ (a : Option Addr) (n c : Nat) (w : World) : (Instr.build 45 #[(0, .slice a n c)]).run Try.prog w = .ok (.agg [.slice a n c, I 0].toArray) w := by
  simp [Instr.build, Try.zeroValue45, run_underlying Try.underlying45, Try.sizeOf28, Value.cells, Instr.fill]
/-- Both readers stand alike. -/
structure RI (w0 : World) (br bq : Nat) (w : World) (bs : List (BitVec 8)) (e : Int) : Prop where
  g : Gt w
  gr : Grow w0 w
  r : RdAt 67 (fun k => k ≠ bq) w br bs e
  q : RdAt 45 (fun k => k ≠ br) w bq bs e
  l : bs.length ≤ 2000
theorem reads_law (a a1 : Option Addr) (cap cap1 : Nat) (bs : List (BitVec 8)) (ss : List Stp) (hc : bs.length ≤ cap) (w : World) (hw : Gt w) (hb : BytesAt w a bs) (hab : ∀ ad, a = some ad → ad.block < w.heap.size) (hst : StepsAt w a1 ss) : Calls Try.prog 4 [.slice a bs.length cap, .slice a1 ss.length cap1].toArray w (fun e w' => e = .returned (.bool true) ∧ Grow w w') := by
  have hGF : BOk Gt (pl w) := gt_low.plain hw
  refine calls_of_X (G := Gt) Try.func4 rfl rfl (Hp (pl w) []) (hp_refl (pl w) trivial rides_true) (good_hp hGF) ?_
  refine xs_plain (E := EE [9, 19, 20, 21, 22, 23, 25, 26]) ?_
  refine lx_assign rfl rfl rfl ?_
  refine lx_nil ?_
  refine x_seq ?_
  refine xs_plain (E := EE [9, 19, 20, 21, 22, 23, 25, 26]) ?_
  refine lx_callC rfl rfl ent8 (fun w1 _ hG => known17 w1 hG) rfl rfl ?_
  refine lx_un rfl (fun _ => un_not _) rfl rfl ?_
  refine lx_nil ?_
  refine x_false rfl ?_
  refine x_skip ?_
  refine x_seq ?_
  refine xs_plain (E := EE [9, 19, 20, 21, 22, 23, 25, 26]) ?_
  refine lx_move rfl rfl rfl ?_
  refine lx_callW gt_low (M := fun _ => False) (fun k h => h.elim) rfl rfl ent9 rfl rfl hGF (Q := fun w1 w2 v => ∃ r, v = .bool r ∧ (r = true → ss.length ≤ 100 ∧ sm ss ss.length ≤ 5000)) (fun w1 h1 g1 => (light_calls ss a1 cap1 w1 g1 (hst.grow h1)).mono fun e w2 ⟨r, q1, q2, q3⟩ => ⟨_, q1, grow_mm q2, r, rfl, q3⟩) (fun w13a w13 v hg13 hm13 gg13 hq => ?_)
  have hGF := gt_low.plain gg13
  have hr13 := hg13.trans (hm13.grow (fun _ _ h => h))
  have hW : Grow w w13 := hr13
  obtain ⟨r, rfl, hlt0⟩ := hq
  rcases r with _ | _
  · skip
    refine lx_un rfl (fun _ => un_not _) rfl rfl ?_
    refine lx_move rfl rfl rfl ?_
    refine lx_skip rfl rfl rfl ?_
    refine lx_skip rfl rfl rfl ?_
    refine lx_skip rfl rfl rfl ?_
    refine lx_pick rfl rfl rfl rfl rfl ?_
    refine lx_nil ?_
    refine x_true rfl ?_
    refine xs_plain (E := EE [9, 19, 20, 21, 22, 23, 25, 26]) ?_
    refine lx_assign rfl rfl rfl ?_
    refine lx_nil ?_
    refine x_ret ?_
    repeat (first | refine kseq_ret ?_ | refine kblk_ret ?_)
    exact kret_tmp rfl rfl (fun w' hw' => ⟨rfl, hW.trans (hp_below hw')⟩)
  · skip
    obtain ⟨hl1, hl2⟩ := hlt0 rfl
    refine lx_un rfl (fun _ => un_not _) rfl rfl ?_
    refine lx_move rfl rfl rfl ?_
    refine lx_move rfl rfl rfl ?_
    refine lx_len rfl (fun _ => len_slice Try.underlying28 _ _ _ _) rfl rfl ?_
    by_cases hb2 : 2000 < bs.length
    · skip
      refine lx_binB true rfl rfl (fun _ => rfl) (fun _ => bin_gtr_i _ _ _) (by simp; omega) rfl rfl ?_
      refine lx_pick rfl rfl rfl rfl rfl ?_
      refine lx_nil ?_
      refine x_true rfl ?_
      refine xs_plain (E := EE [9, 19, 20, 21, 22, 23, 25, 26]) ?_
      refine lx_assign rfl rfl rfl ?_
      refine lx_nil ?_
      refine x_ret ?_
      repeat (first | refine kseq_ret ?_ | refine kblk_ret ?_)
      exact kret_tmp rfl rfl (fun w' hw' => ⟨rfl, hW.trans (hp_below hw')⟩)
    · skip
      refine lx_binB false rfl rfl (fun _ => rfl) (fun _ => bin_gtr_i _ _ _) (by simp; omega) rfl rfl ?_
      refine lx_pick rfl rfl rfl rfl rfl ?_
      refine lx_nil ?_
      refine x_false rfl ?_
      refine x_skip ?_
      refine xs_plain (E := EE [9, 19, 20, 21, 22, 23, 25, 26]) ?_
      refine lx_move rfl rfl rfl ?_
      refine lx_callW gt_low (M := fun _ => False) (fun k h => h.elim) rfl rfl ent19 rfl rfl hGF (Q := fun w1 w2 v => ∃ b, v = .pointer (some ⟨b, 0, none⟩) ∧ w1.heap.size ≤ b ∧ RdAt 67 (fun k => w1.heap.size ≤ k ∧ k < w2.heap.size) w2 b bs 0) (fun w1 h1 g1 => nrB bs a _ cap rfl (by omega) w1 g1 (hb.grow (hW.trans h1))) (fun w21a w21 v hg21 hm21 gg21 hq => ?_)
      have hGF := gt_low.plain gg21
      have hr21 := hg21.trans (hm21.grow (fun _ _ h => h))
      obtain ⟨br, rfl, hbr0, hrd⟩ := hq
      have hbr : w.heap.size ≤ br := Nat.le_trans (hW.trans hg21).size hbr0
      have hW : Grow w w21 := hW.trans hr21
      refine lx_move rfl rfl rfl ?_
      refine lx_build (ps := [(0, .tmp 22)]) (vs := [.slice a bs.length cap]) rfl (fun w => bldQ a bs.length cap w) rfl rfl ?_
      refine lx_boxr 24 hGF rfl rfl rfl ?_
      intro bq
      refine lx_assign rfl rfl rfl ?_
      refine lx_assign rfl rfl rfl ?_
      refine lx_nil ?_
      refine x_seq ?_
      refine xs_plain (E := EE [9, 19, 20, 21, 22, 23, 25, 26]) ?_
      refine lx_assign rfl rfl rfl ?_
      refine lx_nil ?_
      refine x_block ?_
      refine x_now0 gt_low (fun w3 hC g3 => ?_)
      have hbq1 : w21.heap.size ≤ bq := (hC.own 24 _ _ _ rfl).2.elim id False.elim
      have hbq : w.heap.size ≤ bq := Nat.le_trans hW.size hbq1
      have hne : br ≠ bq := fun h => by have h1 := hrd.lt; omega
      have hI : RI w br bq w3 bs 0 := ⟨g3, hW.trans (hp_below hC), (hrd.grow (hp_below hC)).sub (fun k hk h => by have := hk.2; omega), ⟨a, cap, (hC.own 24 _ _ _ rfl).1, hc, hb.grow (hW.trans (hp_below hC)), fun ad e => ⟨fun h => by have := hab ad e; omega, fun h => by have := hab ad e; omega⟩⟩, by omega⟩
      clear hC hrd hbr0 hbq1
      refine x_forW gt_low (ι := { x : Nat × World × List (BitVec 8) × Int // x.1 ≤ ss.length ∧ RI w br bq x.2.1 x.2.2.1 x.2.2.2 }) (fun x => [(1, .slice a1 ss.length cap1), (5, .pointer (some ⟨br, 0, none⟩)), (6, .pointer (some ⟨bq, 0, none⟩)), (7, I (x.1.1 : Int))]) (fun x => x.1.2.1) (fun x => ss.length - x.1.1) ⟨(0, w3, bs, 0), Nat.zero_le _, hI⟩ (fun x => x.2.2.g) rfl ⟨rfl, rfl, rfl, rfl, trivial⟩ ?_
      clear hI
      rintro ⟨⟨k, wk, bk, ek⟩, hk, hI⟩
      dsimp only at hk hI ⊢
      have hgt := hI.g
      have hGF : BOk Gt (pl wk) := gt_low.plain hI.g
      have hW := hI.gr
      have hrd := hI.r
      have hrq := hI.q
      have hl := hI.l
      have hlq := hI.q.lt
      refine x_seq ?_
      refine xs_plain (E := EE [9, 19, 20, 21, 22, 23, 25, 26]) ?_
      refine lx_move rfl rfl rfl ?_
      refine lx_move rfl rfl rfl ?_
      refine lx_len rfl (fun _ => len_slice Try.underlying22 _ _ _ _) rfl rfl ?_
      rcases Nat.lt_or_ge k ss.length with hlt | hge
      · skip
        obtain ⟨s, hss⟩ : ∃ s, ss[k]? = some s := ⟨_, List.getElem?_eq_getElem hlt⟩
        obtain ⟨hok, ad, rfl, hat⟩ := hst k s hss
        refine lx_binB true rfl rfl (fun _ => rfl) (fun _ => bin_lss_i _ _ _) (by simp; omega) rfl rfl ?_
        refine lx_nil ?_
        refine x_true rfl ?_
        refine x_skip ?_
        refine x_seq ?_
        refine x_block ?_
        refine xs_plain (E := EE [9, 19, 20, 21, 22, 23, 25, 26]) ?_
        refine lx_assign rfl rfl rfl ?_
        refine lx_nil ?_
        refine x_seq ?_
        refine xs_plain (E := EE [9, 19, 20, 21, 22, 23, 25, 26]) ?_
        refine lx_move rfl rfl rfl ?_
        refine lx_move rfl rfl rfl ?_
        refine lx_isAW k 5 rfl rfl Try.underlying22 Try.sizeOf32 rfl (by omega) rfl rfl ?_
        refine lx_faA rfl Try.underlying32 rfl Try.sizeOf3 (by decide) rfl rfl ?_
        refine lx_load rfl Try.isAgg3 (fun w' h => (hat.grow (hW.trans (hp_below h))).c 0 _ rfl) rfl rfl ?_
        refine lx_nil ?_
        refine x_block ?_
        refine xs_plain (E := EE [9, 19, 20, 21, 22, 23, 25, 26]) ?_
        by_cases h0 : s.what = 0
        · skip
          refine lx_binB true rfl rfl (fun _ => rfl) (fun _ => bin_eql_i _ _ _) (beq_iff_eq.2 h0) rfl rfl ?_
          refine lx_assign rfl rfl rfl ?_
          refine lx_nil ?_
          refine x_true rfl ?_
          refine x_plain (E := EE [9, 19, 20, 21, 22, 23, 25, 26]) ?_
          refine lx_move rfl rfl rfl ?_
          refine lx_callW gt_low (M := (fun k => k = br)) (fun k h => Nat.zero_le _) rfl rfl ent20 rfl rfl hGF (Q := fun w1 w2 v => (v = U64 (pn (got bk ek 8) (got bk ek 8).length)) ∧ RdAt 67 (fun k => k ≠ bq) w2 br (lft bk ek 8) (err bk ek 8)) (fun w1 h1 g1 => ru_calls _ br bk ek w1 g1 (Nat.zero_le _) (hrd.grow h1)) (fun w39a w39 v hg39 hm39 gg39 hq => ?_)
          have hGF := gt_low.plain gg39
          have hW : Grow w w39 := hm39.grow0 (hW.trans hg39) (fun k hk => hk ▸ hbr)
          obtain ⟨rfl, hrd⟩ := hq
          have hrq := (hrq.grow hg39).mm hm39 (fun h => hne h.symm) (fun k hk _ => hk)
          have hgt := gg39
          refine lx_move rfl rfl rfl ?_
          refine lx_callW gt_low (M := (fun k => k = bq)) (fun k h => Nat.zero_le _) rfl rfl ent21 rfl rfl hGF (Q := fun w1 w2 v => (v = U64 (pn (got bk ek 8) (got bk ek 8).length)) ∧ RdAt 45 (fun k => k ≠ br) w2 bq (lft bk ek 8) (err bk ek 8)) (fun w1 h1 g1 => su_calls _ bq bk ek w1 g1 (Nat.zero_le _) (hrq.grow h1)) (fun w41a w41 v hg41 hm41 gg41 hq => ?_)
          have hGF := gt_low.plain gg41
          have hW : Grow w w41 := hm41.grow0 (hW.trans hg41) (fun k hk => hk ▸ hbq)
          obtain ⟨rfl, hrq⟩ := hq
          have hrd := (hrd.grow hg41).mm hm41 hne (fun k hk _ => hk)
          have hgt := gg41
          have hl := Nat.le_trans (lft_le bk ek 8) hl
          refine lx_binB true rfl rfl (fun _ => rfl) (fun _ => bin_eql_u64 _ _ _) (by simp) rfl rfl ?_
          refine lx_assign rfl rfl rfl ?_
          refine lx_nil ?_
          refine xs_drawn (E := EE [9, 19, 20, 21, 22, 23, 25, 26]) mixed (by kernel_rfl) (by kernel_rfl) (by kernel_rfl) ?_
          refine lx_move rfl rfl rfl ?_
          refine lx_un rfl (fun _ => un_not _) rfl rfl ?_
          refine lx_move rfl rfl rfl ?_
          refine lx_move rfl rfl rfl ?_
          refine lx_callC rfl rfl ent27 (fun w1 hC hG => er_calls w1 hG (hrd.grow (hp_below hC))) rfl rfl ?_
          refine lx_move rfl rfl rfl ?_
          refine lx_nilc rfl rfl rfl ?_
          refine lx_fak 1 rfl Try.underlying45 rfl Try.sizeOf3 (by decide) rfl rfl rfl ?_
          refine lx_load rfl Try.isAgg3 (fun w' h => (hrq.grow (hp_below h)).ecell) rfl rfl ?_
          refine lx_binB false rfl rfl (fun _ => rfl) (fun _ => bin_neq_i _ _ _) (by simp) rfl rfl ?_
          refine lx_pick rfl rfl rfl rfl rfl ?_
          refine lx_nil ?_
          refine x_false rfl ?_
          refine x_skip ?_
          refine x_plain (E := EE [9, 19, 20, 21, 22, 23, 25, 26]) ?_
          refine lx_move rfl rfl rfl ?_
          refine lx_bin (v := I (((k + 1 : Nat) : Int))) rfl rfl (fun _ => rfl) (fun _ => (bin_add_i _ _ _ (by unfold inI; omega)).trans (by rfl)) rfl rfl ?_
          refine lx_assign rfl rfl rfl ?_
          refine lx_nil ?_
          repeat (refine kblk_n ?_)
          refine kseq_n ?_
          exact ⟨rfl, ⟨(k + 1, _, _, _), hlt, ⟨hgt, hW, hrd, hrq, hl⟩⟩, by show ss.length - (k + 1) < ss.length - k; omega, rfl, ⟨rfl, rfl, rfl, rfl, trivial⟩⟩
        · skip
          refine lx_binB false rfl rfl (fun _ => rfl) (fun _ => bin_eql_i _ _ _) (beq_eq_false_iff_ne.2 h0) rfl rfl ?_
          refine lx_assign rfl rfl rfl ?_
          refine lx_nil ?_
          refine x_false rfl ?_
          refine xs_plain (E := EE [9, 19, 20, 21, 22, 23, 25, 26]) ?_
          by_cases h1 : s.what = 1
          · skip
            refine lx_binB true rfl rfl (fun _ => rfl) (fun _ => bin_eql_i _ _ _) (beq_iff_eq.2 h1) rfl rfl ?_
            refine lx_assign rfl rfl rfl ?_
            refine lx_nil ?_
            refine x_true rfl ?_
            refine x_drawK (E := EE [9, 19, 20, 21, 22, 23, 25, 26]) (fun X => X = (fun w' => Grow w w')) (mkC [22, 23]) (rkB [57]) [0, 1, 2, 3, 4, 5, 7, 8, 9, 10, 11, 12, 6, 13, 14, 15] mixed rfl (by kernel_rfl) (by kernel_rfl) (by kernel_rfl) ?_
            refine lxk_s rfl rfl ?_
            refine lx_move rfl rfl rfl ?_
            refine lx_nil ?_
            refine lxk_s rfl rfl ?_
            refine lx_move rfl rfl rfl ?_
            refine lx_nil ?_
            refine lxk_s rfl rfl ?_
            refine lx_move rfl rfl rfl ?_
            refine lx_nil ?_
            refine lxk_s rfl rfl ?_
            refine lx_isAW k 5 rfl rfl Try.underlying22 Try.sizeOf32 rfl (by omega) rfl rfl ?_
            refine lx_nil ?_
            refine lxk_s rfl rfl ?_
            refine lx_faA rfl Try.underlying32 rfl Try.sizeOf3 (by decide) rfl rfl ?_
            refine lx_nil ?_
            refine lxk_s rfl rfl ?_
            refine lx_load rfl Try.isAgg3 (fun w' h => (hat.grow (hW.trans (hp_below h))).c 1 _ rfl) rfl rfl ?_
            refine lx_nil ?_
            refine lxk_s rfl rfl ?_
            refine lx_move rfl rfl rfl ?_
            refine lx_nil ?_
            refine lxk_s rfl rfl ?_
            refine lx_move rfl rfl rfl ?_
            refine lx_nil ?_
            refine lxk_s rfl rfl ?_
            refine lx_move rfl rfl rfl ?_
            refine lx_nil ?_
            refine lxk_s rfl rfl ?_
            refine lx_isAW k 5 rfl rfl Try.underlying22 Try.sizeOf32 rfl (by omega) rfl rfl ?_
            refine lx_nil ?_
            refine lxk_s rfl rfl ?_
            refine lx_faA rfl Try.underlying32 rfl Try.sizeOf3 (by decide) rfl rfl ?_
            refine lx_nil ?_
            refine lxk_q (X := fun w' => Grow w w') rfl (fun w' h => hW.trans (hp_below h)) (fun _ => rfl) ?_
            refine lx_load rfl Try.isAgg3 (fun w' h => (hat.grow h).c 1 _ rfl) rfl rfl ?_
            refine lx_nil ?_
            refine lxk_e rfl ?_
            refine lx_callW gt_low (M := (fun k => k = br)) (fun k h => Nat.zero_le _) rfl rfl ent22 rfl rfl hGF (Q := fun w1 w2 v => (Fr8 w1 w2 v (got bk ek s.k.toNat)) ∧ RdAt 67 (fun k => k ≠ bq) w2 br (lft bk ek s.k.toNat) (err bk ek s.k.toNat)) (fun w1 h1 g1 => rb_calls _ br bk ek s.k (by omega) w1 g1 (Nat.zero_le _) (hrd.grow h1)) (fun w51a w51 v hg51 hm51 gg51 hq => ?_)
            have hGF := gt_low.plain gg51
            have hW : Grow w w51 := hm51.grow0 (hW.trans hg51) (fun k hk => hk ▸ hbr)
            obtain ⟨⟨a3, c3, rfl, hs3, hn3⟩, hrd⟩ := hq
            have hrq := (hrq.grow hg51).mm hm51 (fun h => hne h.symm) (fun k hk _ => hk)
            have hgt := gg51
            refine lx_nil ?_
            refine ⟨fun _ X hX _ => by subst hX; exact fun w' h => hW.trans (hp_below h), ?_⟩
            refine lxk_e rfl ?_
            refine lx_callW gt_low (M := (fun k => k = bq)) (fun k h => Nat.zero_le _) rfl rfl ent23 rfl rfl hGF (Q := fun w1 w2 v => (∃ a1 c1, v = .slice a1 (got bk ek s.k.toNat).length c1 ∧ BytesAt w2 a1 (got bk ek s.k.toNat)) ∧ RdAt 45 (fun k => k ≠ br) w2 bq (lft bk ek s.k.toNat) (err bk ek s.k.toNat)) (fun w1 h1 g1 => sb_calls _ bq bk ek s.k w1 g1 (Nat.zero_le _) (hrq.grow h1)) (fun w58a w58 v hg58 hm58 gg58 hq => ?_)
            have hGF := gt_low.plain gg58
            have hW : Grow w w58 := hm58.grow0 (hW.trans hg58) (fun k hk => hk ▸ hbq)
            obtain ⟨⟨a4, c4, rfl, hb4⟩, hrq⟩ := hq
            have hrd := (hrd.grow hg58).mm hm58 hne (fun k hk _ => hk)
            have hgt := gg58
            have hs3 := (hs3.grow hg58).mm hm58 (fun ad e h => by have h1 := hn3 ad e; have h2 := hg51.size; omega)
            have hl := Nat.le_trans (lft_le bk ek s.k.toNat) hl
            refine lx_nil ?_
            refine ⟨fun _ X hX _ => by subst hX; exact fun w' h => hW.trans (hp_below h), ?_⟩
            refine lxk_s rfl rfl ?_
            refine lx_callC rfl rfl ent18 (fun w1 hC hG => byt_calls (got bk ek s.k.toNat) a3 _ c3 a4 _ c4 rfl rfl w1 hG (hs3.grow (hp_below hC)).bytes (hb4.grow (hp_below hC))) rfl rfl ?_
            refine lx_nil ?_
            refine lxk_s rfl rfl ?_
            refine lx_assign rfl rfl rfl ?_
            refine lx_nil ?_
            refine lxk_nil ?_
            refine xs_drawn (E := EE [9, 19, 20, 21, 22, 23, 25, 26]) mixed (by kernel_rfl) (by kernel_rfl) (by kernel_rfl) ?_
            refine lx_move rfl rfl rfl ?_
            refine lx_un rfl (fun _ => un_not _) rfl rfl ?_
            refine lx_move rfl rfl rfl ?_
            refine lx_move rfl rfl rfl ?_
            refine lx_callC rfl rfl ent27 (fun w1 hC hG => er_calls w1 hG (hrd.grow (hp_below hC))) rfl rfl ?_
            refine lx_move rfl rfl rfl ?_
            refine lx_nilc rfl rfl rfl ?_
            refine lx_fak 1 rfl Try.underlying45 rfl Try.sizeOf3 (by decide) rfl rfl rfl ?_
            refine lx_load rfl Try.isAgg3 (fun w' h => (hrq.grow (hp_below h)).ecell) rfl rfl ?_
            refine lx_binB false rfl rfl (fun _ => rfl) (fun _ => bin_neq_i _ _ _) (by simp) rfl rfl ?_
            refine lx_pick rfl rfl rfl rfl rfl ?_
            refine lx_nil ?_
            refine x_false rfl ?_
            refine x_skip ?_
            refine x_plain (E := EE [9, 19, 20, 21, 22, 23, 25, 26]) ?_
            refine lx_move rfl rfl rfl ?_
            refine lx_bin (v := I (((k + 1 : Nat) : Int))) rfl rfl (fun _ => rfl) (fun _ => (bin_add_i _ _ _ (by unfold inI; omega)).trans (by rfl)) rfl rfl ?_
            refine lx_assign rfl rfl rfl ?_
            refine lx_nil ?_
            repeat (refine kblk_n ?_)
            refine kseq_n ?_
            exact ⟨rfl, ⟨(k + 1, _, _, _), hlt, ⟨hgt, hW, hrd, hrq, hl⟩⟩, by show ss.length - (k + 1) < ss.length - k; omega, rfl, ⟨rfl, rfl, rfl, rfl, trivial⟩⟩
          · skip
            refine lx_binB false rfl rfl (fun _ => rfl) (fun _ => bin_eql_i _ _ _) (beq_eq_false_iff_ne.2 h1) rfl rfl ?_
            refine lx_assign rfl rfl rfl ?_
            refine lx_nil ?_
            refine x_false rfl ?_
            refine xs_plain (E := EE [9, 19, 20, 21, 22, 23, 25, 26]) ?_
            by_cases h2 : s.what = 2
            · skip
              refine lx_binB true rfl rfl (fun _ => rfl) (fun _ => bin_eql_i _ _ _) (beq_iff_eq.2 h2) rfl rfl ?_
              refine lx_assign rfl rfl rfl ?_
              refine lx_nil ?_
              refine x_true rfl ?_
              refine x_drawK (E := EE [9, 19, 20, 21, 22, 23, 25, 26]) (fun X => X = (fun w' => Grow w w')) (mkC [25, 26]) (rkB [74]) [0, 1, 2, 3, 4, 5, 7, 8, 9, 10, 11, 12, 6, 13, 14, 15] mixed rfl (by kernel_rfl) (by kernel_rfl) (by kernel_rfl) ?_
              refine lxk_s rfl rfl ?_
              refine lx_move rfl rfl rfl ?_
              refine lx_nil ?_
              refine lxk_s rfl rfl ?_
              refine lx_move rfl rfl rfl ?_
              refine lx_nil ?_
              refine lxk_s rfl rfl ?_
              refine lx_move rfl rfl rfl ?_
              refine lx_nil ?_
              refine lxk_s rfl rfl ?_
              refine lx_isAW k 5 rfl rfl Try.underlying22 Try.sizeOf32 rfl (by omega) rfl rfl ?_
              refine lx_nil ?_
              refine lxk_s rfl rfl ?_
              refine lx_faA rfl Try.underlying32 rfl Try.sizeOf3 (by decide) rfl rfl ?_
              refine lx_nil ?_
              refine lxk_s rfl rfl ?_
              refine lx_load rfl Try.isAgg3 (fun w' h => (hat.grow (hW.trans (hp_below h))).c 1 _ rfl) rfl rfl ?_
              refine lx_nil ?_
              refine lxk_s rfl rfl ?_
              refine lx_move rfl rfl rfl ?_
              refine lx_nil ?_
              refine lxk_s rfl rfl ?_
              refine lx_move rfl rfl rfl ?_
              refine lx_nil ?_
              refine lxk_s rfl rfl ?_
              refine lx_move rfl rfl rfl ?_
              refine lx_nil ?_
              refine lxk_s rfl rfl ?_
              refine lx_isAW k 5 rfl rfl Try.underlying22 Try.sizeOf32 rfl (by omega) rfl rfl ?_
              refine lx_nil ?_
              refine lxk_s rfl rfl ?_
              refine lx_faA rfl Try.underlying32 rfl Try.sizeOf3 (by decide) rfl rfl ?_
              refine lx_nil ?_
              refine lxk_q (X := fun w' => Grow w w') rfl (fun w' h => hW.trans (hp_below h)) (fun _ => rfl) ?_
              refine lx_load rfl Try.isAgg3 (fun w' h => (hat.grow h).c 1 _ rfl) rfl rfl ?_
              refine lx_nil ?_
              refine lxk_e rfl ?_
              refine lx_callW gt_low (M := (fun k => k = br)) (fun k h => Nat.zero_le _) rfl rfl ent25 rfl rfl hGF (Q := fun w1 w2 v => (FrB w1 w2 v (gotB bk ek s.k.toNat)) ∧ RdAt 67 (fun k => k ≠ bq) w2 br (lftB bk ek s.k.toNat) (errB bk ek s.k.toNat)) (fun w1 h1 g1 => rt_calls _ br bk ek s.k hok.k (by omega) w1 g1 (Nat.zero_le _) (hrd.grow h1)) (fun w68a w68 v hg68 hm68 gg68 hq => ?_)
              have hGF := gt_low.plain gg68
              have hW : Grow w w68 := hm68.grow0 (hW.trans hg68) (fun k hk => hk ▸ hbr)
              obtain ⟨⟨a3, c3, rfl, hs3, hn3⟩, hrd⟩ := hq
              have hrq := (hrq.grow hg68).mm hm68 (fun h => hne h.symm) (fun k hk _ => hk)
              have hgt := gg68
              refine lx_nil ?_
              refine ⟨fun _ X hX _ => by subst hX; exact fun w' h => hW.trans (hp_below h), ?_⟩
              refine lxk_e rfl ?_
              refine lx_callW gt_low (M := (fun k => k = bq)) (fun k h => Nat.zero_le _) rfl rfl ent26 rfl rfl hGF (Q := fun w1 w2 v => (FrB w1 w2 v (gotB bk ek s.k.toNat)) ∧ RdAt 45 (fun k => k ≠ br) w2 bq (lftB bk ek s.k.toNat) (errB bk ek s.k.toNat)) (fun w1 h1 g1 => st_calls _ bq bk ek s.k hok.k (by omega) w1 g1 (Nat.zero_le _) (hrq.grow h1)) (fun w75a w75 v hg75 hm75 gg75 hq => ?_)
              have hGF := gt_low.plain gg75
              have hW : Grow w w75 := hm75.grow0 (hW.trans hg75) (fun k hk => hk ▸ hbq)
              obtain ⟨⟨a4, c4, rfl, hs4, hn4⟩, hrq⟩ := hq
              have hrd := (hrd.grow hg75).mm hm75 hne (fun k hk _ => hk)
              have hgt := gg75
              have hs3 := (hs3.grow hg75).mm hm75 (fun ad e h => by have h1 := hn3 ad e; have h2 := hg68.size; omega)
              have hle := gotB_le bk ek s.k.toNat
              have hl := Nat.le_trans (lftB_le bk ek s.k.toNat) hl
              refine lx_nil ?_
              refine ⟨fun _ X hX _ => by subst hX; exact fun w' h => hW.trans (hp_below h), ?_⟩
              refine lxk_s rfl rfl ?_
              refine lx_callC rfl rfl ent24 (fun w1 hC hG => hbi_calls (gotB bk ek s.k.toNat) (by omega) a3 c3 a4 c4 w1 hG (hs3.grow (hp_below hC)).cells (hs4.grow (hp_below hC)).cells) rfl rfl ?_
              refine lx_nil ?_
              refine lxk_s rfl rfl ?_
              refine lx_assign rfl rfl rfl ?_
              refine lx_nil ?_
              refine lxk_nil ?_
              refine xs_drawn (E := EE [9, 19, 20, 21, 22, 23, 25, 26]) mixed (by kernel_rfl) (by kernel_rfl) (by kernel_rfl) ?_
              refine lx_move rfl rfl rfl ?_
              refine lx_un rfl (fun _ => un_not _) rfl rfl ?_
              refine lx_move rfl rfl rfl ?_
              refine lx_move rfl rfl rfl ?_
              refine lx_callC rfl rfl ent27 (fun w1 hC hG => er_calls w1 hG (hrd.grow (hp_below hC))) rfl rfl ?_
              refine lx_move rfl rfl rfl ?_
              refine lx_nilc rfl rfl rfl ?_
              refine lx_fak 1 rfl Try.underlying45 rfl Try.sizeOf3 (by decide) rfl rfl rfl ?_
              refine lx_load rfl Try.isAgg3 (fun w' h => (hrq.grow (hp_below h)).ecell) rfl rfl ?_
              refine lx_binB false rfl rfl (fun _ => rfl) (fun _ => bin_neq_i _ _ _) (by simp) rfl rfl ?_
              refine lx_pick rfl rfl rfl rfl rfl ?_
              refine lx_nil ?_
              refine x_false rfl ?_
              refine x_skip ?_
              refine x_plain (E := EE [9, 19, 20, 21, 22, 23, 25, 26]) ?_
              refine lx_move rfl rfl rfl ?_
              refine lx_bin (v := I (((k + 1 : Nat) : Int))) rfl rfl (fun _ => rfl) (fun _ => (bin_add_i _ _ _ (by unfold inI; omega)).trans (by rfl)) rfl rfl ?_
              refine lx_assign rfl rfl rfl ?_
              refine lx_nil ?_
              repeat (refine kblk_n ?_)
              refine kseq_n ?_
              exact ⟨rfl, ⟨(k + 1, _, _, _), hlt, ⟨hgt, hW, hrd, hrq, hl⟩⟩, by show ss.length - (k + 1) < ss.length - k; omega, rfl, ⟨rfl, rfl, rfl, rfl, trivial⟩⟩
            · skip
              refine lx_binB false rfl rfl (fun _ => rfl) (fun _ => bin_eql_i _ _ _) (beq_eq_false_iff_ne.2 h2) rfl rfl ?_
              refine lx_assign rfl rfl rfl ?_
              refine lx_nil ?_
              refine x_false rfl ?_
              refine x_skip ?_
              refine xs_drawn (E := EE [9, 19, 20, 21, 22, 23, 25, 26]) mixed (by kernel_rfl) (by kernel_rfl) (by kernel_rfl) ?_
              refine lx_move rfl rfl rfl ?_
              refine lx_un rfl (fun _ => un_not _) rfl rfl ?_
              refine lx_move rfl rfl rfl ?_
              refine lx_move rfl rfl rfl ?_
              refine lx_callC rfl rfl ent27 (fun w1 hC hG => er_calls w1 hG (hrd.grow (hp_below hC))) rfl rfl ?_
              refine lx_move rfl rfl rfl ?_
              refine lx_nilc rfl rfl rfl ?_
              refine lx_fak 1 rfl Try.underlying45 rfl Try.sizeOf3 (by decide) rfl rfl rfl ?_
              refine lx_load rfl Try.isAgg3 (fun w' h => (hrq.grow (hp_below h)).ecell) rfl rfl ?_
              refine lx_binB false rfl rfl (fun _ => rfl) (fun _ => bin_neq_i _ _ _) (by simp) rfl rfl ?_
              refine lx_pick rfl rfl rfl rfl rfl ?_
              refine lx_nil ?_
              refine x_false rfl ?_
              refine x_skip ?_
              refine x_plain (E := EE [9, 19, 20, 21, 22, 23, 25, 26]) ?_
              refine lx_move rfl rfl rfl ?_
              refine lx_bin (v := I (((k + 1 : Nat) : Int))) rfl rfl (fun _ => rfl) (fun _ => (bin_add_i _ _ _ (by unfold inI; omega)).trans (by rfl)) rfl rfl ?_
              refine lx_assign rfl rfl rfl ?_
              refine lx_nil ?_
              repeat (refine kblk_n ?_)
              refine kseq_n ?_
              exact ⟨rfl, ⟨(k + 1, _, _, _), hlt, ⟨hgt, hW, hrd, hrq, hl⟩⟩, by show ss.length - (k + 1) < ss.length - k; omega, rfl, ⟨rfl, rfl, rfl, rfl, trivial⟩⟩
      · skip
        refine lx_binB false rfl rfl (fun _ => rfl) (fun _ => bin_lss_i _ _ _) (by simp; omega) rfl rfl ?_
        refine lx_nil ?_
        refine x_false rfl ?_
        refine x_exit ?_
        refine xs_plain (E := EE [9, 19, 20, 21, 22, 23, 25, 26]) ?_
        refine lx_move rfl rfl rfl ?_
        refine lx_nilc rfl rfl rfl ?_
        refine lx_fak 1 rfl Try.underlying45 rfl Try.sizeOf3 (by decide) rfl rfl rfl ?_
        refine lx_load rfl Try.isAgg3 (fun w' h => (hrq.grow (hp_below h)).ecell) rfl rfl ?_
        refine lx_assign rfl rfl rfl ?_
        refine lx_nil ?_
        refine x_seq ?_
        refine xs_plain (E := EE [9, 19, 20, 21, 22, 23, 25, 26]) ?_
        refine lx_move rfl rfl rfl ?_
        by_cases he : ek = 0
        · skip
          refine lx_binB true rfl rfl (fun _ => rfl) (fun _ => bin_eql_i _ _ _) (beq_iff_eq.2 he) rfl rfl ?_
          refine lx_move rfl rfl rfl ?_
          refine lx_move rfl rfl rfl ?_
          refine lx_nilc rfl rfl rfl ?_
          refine lx_fak 0 rfl Try.underlying45 rfl Try.sizeOf28 (by decide) rfl rfl rfl ?_
          obtain ⟨aq, cq, hoq, _⟩ := hrq
          refine lx_load rfl Try.isAgg28 (fun w' h => ((hoq.grow (hp_below h)).cell 0).trans rfl) rfl rfl ?_
          refine lx_len rfl (fun _ => len_slice Try.underlying28 _ _ _ _) rfl rfl ?_
          by_cases hp : 0 < bk.length
          · skip
            have hE : endE bk ek = 170 := by simp [endE, he, hp]
            refine lx_binB true rfl rfl (fun _ => rfl) (fun _ => bin_gtr_i _ _ _) (by simp; omega) rfl rfl ?_
            refine lx_pick rfl rfl rfl rfl rfl ?_
            refine lx_nil ?_
            refine x_true rfl ?_
            refine x_plain (E := EE [9, 19, 20, 21, 22, 23, 25, 26]) ?_
            refine lx_assign rfl rfl rfl ?_
            refine lx_nil ?_
            refine xs_plain (E := EE [9, 19, 20, 21, 22, 23, 25, 26]) ?_
            refine lx_move rfl rfl rfl ?_
            refine lx_callC rfl rfl ent28 (fun w1 hC hG => en_calls w1 hG (hrd.grow (hp_below hC))) rfl rfl ?_
            refine lx_move rfl rfl rfl ?_
            refine lx_binB true rfl rfl (fun _ => rfl) (fun _ => bin_eql_i _ _ _) (beq_iff_eq.2 hE) rfl rfl ?_
            refine lx_assign rfl rfl rfl ?_
            refine lx_nil ?_
            refine x_ret ?_
            repeat (first | refine kseq_ret ?_ | refine kblk_ret ?_)
            exact kret_tmp rfl rfl (fun w' hw' => ⟨rfl, hW.trans (hp_below hw')⟩)
          · skip
            have hE : endE bk ek = ek := by simp [endE, hp]
            refine lx_binB false rfl rfl (fun _ => rfl) (fun _ => bin_gtr_i _ _ _) (by rw [decide_eq_false_iff_not]; omega) rfl rfl ?_
            refine lx_pick rfl rfl rfl rfl rfl ?_
            refine lx_nil ?_
            refine x_false rfl ?_
            refine x_skip ?_
            refine xs_plain (E := EE [9, 19, 20, 21, 22, 23, 25, 26]) ?_
            refine lx_move rfl rfl rfl ?_
            refine lx_callC rfl rfl ent28 (fun w1 hC hG => en_calls w1 hG (hrd.grow (hp_below hC))) rfl rfl ?_
            refine lx_move rfl rfl rfl ?_
            refine lx_binB true rfl rfl (fun _ => rfl) (fun _ => bin_eql_i _ _ _) (beq_iff_eq.2 hE) rfl rfl ?_
            refine lx_assign rfl rfl rfl ?_
            refine lx_nil ?_
            refine x_ret ?_
            repeat (first | refine kseq_ret ?_ | refine kblk_ret ?_)
            exact kret_tmp rfl rfl (fun w' hw' => ⟨rfl, hW.trans (hp_below hw')⟩)
        · skip
          have hE : endE bk ek = ek := by simp [endE, he]
          refine lx_binB false rfl rfl (fun _ => rfl) (fun _ => bin_eql_i _ _ _) (beq_eq_false_iff_ne.2 he) rfl rfl ?_
          refine lx_move rfl rfl rfl ?_
          refine lx_skip rfl rfl rfl ?_
          refine lx_skip rfl rfl rfl ?_
          refine lx_skip rfl rfl rfl ?_
          refine lx_skip rfl rfl rfl ?_
          refine lx_skip rfl rfl rfl ?_
          refine lx_skip rfl rfl rfl ?_
          refine lx_pick rfl rfl rfl rfl rfl ?_
          refine lx_nil ?_
          refine x_false rfl ?_
          refine x_skip ?_
          refine xs_plain (E := EE [9, 19, 20, 21, 22, 23, 25, 26]) ?_
          refine lx_move rfl rfl rfl ?_
          refine lx_callC rfl rfl ent28 (fun w1 hC hG => en_calls w1 hG (hrd.grow (hp_below hC))) rfl rfl ?_
          refine lx_move rfl rfl rfl ?_
          refine lx_binB true rfl rfl (fun _ => rfl) (fun _ => bin_eql_i _ _ _) (beq_iff_eq.2 hE) rfl rfl ?_
          refine lx_assign rfl rfl rfl ?_
          refine lx_nil ?_
          refine x_ret ?_
          repeat (first | refine kseq_ret ?_ | refine kblk_ret ?_)
          exact kret_tmp rfl rfl (fun w' hw' => ⟨rfl, hW.trans (hp_below hw')⟩)
end Go.Proofs.Ytjifjpcgdkepkaa
