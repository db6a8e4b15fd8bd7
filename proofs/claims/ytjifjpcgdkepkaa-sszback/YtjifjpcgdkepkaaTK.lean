/-
  The law of reading back.
-/
import Derived.Test.YtjifjpcgdkepkaaTJ
namespace Go.Proofs.Ytjifjpcgdkepkaa
open Go.RowKit
set_option maxRecDepth 100000
set_option maxHeartbeats 1000000

/-- What is written of a step; of the first ones, of those from one on. -/
def piece (s : Stp) : List (BitVec 8) := if s.what = 0 then le8 s.n 8 else if s.what = 1 then s.bs else if s.what = 2 then pb s.ls s.ls.length else []
def wrt (ss : List Stp) (i : Nat) : List (BitVec 8) := ((ss.take i).map piece).flatten
def rs (ss : List Stp) (i : Nat) : List (BitVec 8) := ((ss.drop i).map piece).flatten
theorem wrt_s {ss : List Stp} {i : Nat} {s : Stp} (h : ss[i]? = some s) : wrt ss (i + 1) = wrt ss i ++ piece s := by
  unfold wrt
  rw [List.take_add_one, h]
  simp
theorem rs_s {ss : List Stp} {i : Nat} {s : Stp} (h : ss[i]? = some s) : rs ss i = piece s ++ rs ss (i + 1) := by
  obtain ⟨hi, e⟩ := List.getElem?_eq_some_iff.1 h
  unfold rs
  rw [List.drop_eq_getElem_cons hi, e]
  simp
theorem wrt_all (ss : List Stp) : wrt ss ss.length = rs ss 0 := by simp [wrt, rs]
theorem rs_end (ss : List Stp) : rs ss ss.length = [] := by simp [rs]
theorem piece_len {ss : List Stp} {i : Nat} {s : Stp} (h : ss[i]? = some s) : (piece s).length ≤ 8 * stw ss i := by
  rw [stw_s h]
  unfold piece
  have := le8_len s.n 8
  have h2 := pb_len s.ls s.ls.length
  unfold szB at h2
  split
  · omega
  · split
    · omega
    · split
      · omega
      · simp
theorem wrt_len (ss : List Stp) : ∀ i, i ≤ ss.length → (wrt ss i).length ≤ 8 * sm ss i
  | 0, _ => by simp [wrt, sm]
  | i + 1, h => by
    have hs : ss[i]? = some ss[i] := List.getElem?_eq_getElem (by omega)
    have := wrt_len ss i (by omega)
    have h2 := piece_len hs
    rw [wrt_s hs, List.length_append, sm]
    omega
theorem got8 (n : BitVec 64) (R : List (BitVec 8)) : got (le8 n 8 ++ R) 0 8 = le8 n 8 ∧ lft (le8 n 8 ++ R) 0 8 = R ∧ err (le8 n 8 ++ R) 0 8 = 0 := by
  have h := le8_len n 8
  obtain ⟨h1, h2, h3⟩ := rd_k (bs := le8 n 8 ++ R) (m := 8) (by rw [List.length_append]; omega)
  rw [h1, h2, h3]
  exact ⟨List.take_left' h, List.drop_left' h, rfl⟩
theorem gotK (xs R : List (BitVec 8)) : got (xs ++ R) 0 xs.length = xs ∧ lft (xs ++ R) 0 xs.length = R ∧ err (xs ++ R) 0 xs.length = 0 := by
  obtain ⟨h1, h2, h3⟩ := rd_k (bs := xs ++ R) (m := xs.length) (by rw [List.length_append]; omega)
  rw [h1, h2, h3]
  exact ⟨List.take_left, List.drop_left, rfl⟩
theorem gotL (l : List Bool) (R : List (BitVec 8)) : gotB (pb l l.length ++ R) 0 l.length = l ∧ lftB (pb l l.length ++ R) 0 l.length = R ∧ errB (pb l l.length ++ R) 0 l.length = 0 := by
  obtain ⟨h1, h2⟩ := pb_take l R
  have h3 : szB l.length ≤ (pb l l.length ++ R).length := by rw [List.length_append, pb_len]; omega
  have h4 : ¬ (pb l l.length ++ R).length < szB l.length := by omega
  refine ⟨?_, ?_, ?_⟩
  · unfold gotB; rw [h1, clean_pb, bt_pb, if_pos ⟨rfl, h3, rfl⟩]
  · unfold lftB; rw [h1, clean_pb, h2, if_pos ⟨rfl, h3, rfl⟩]
  · unfold errB; rw [h1, clean_pb, if_pos rfl, if_neg h4]; rfl
structure BW (w0 : World) (bw : Nat) (w : World) (xs : List (BitVec 8)) : Prop where
  g : Gt w
  gr : Grow w0 w
  x : WrX (fun _ => False) w bw xs
structure BR (w0 : World) (br : Nat) (w : World) (bs : List (BitVec 8)) : Prop where
  g : Gt w
  gr : Grow w0 w
  r : RdAt 67 (fun _ => True) w br bs 0
theorem back_law (a am : Option Addr) (cap cm : Nat) (ss : List Stp) (more : List (BitVec 8)) (w : World) (hw : Gt w) (hst : StepsAt w a ss) (hb : BytesAt w am more) : Calls Try.prog 5 [.slice a ss.length cap, .slice am more.length cm].toArray w (fun e w' => e = .returned (.bool true) ∧ Grow w w') := by
  have hGF : BOk Gt (pl w) := gt_low.plain hw
  refine calls_of_X (G := Gt) Try.func5 rfl rfl (Hp (pl w) []) (hp_refl (pl w) trivial rides_true) (good_hp hGF) ?_
  refine xs_plain (E := EE [9, 10, 13, 15, 17, 19, 20, 22, 25]) ?_
  refine lx_assign rfl rfl rfl ?_
  refine lx_nil ?_
  refine x_seq ?_
  refine xs_plain (E := EE [9, 10, 13, 15, 17, 19, 20, 22, 25]) ?_
  refine lx_callC rfl rfl ent8 (fun w1 _ hG => known17 w1 hG) rfl rfl ?_
  refine lx_un rfl (fun _ => un_not _) rfl rfl ?_
  refine lx_nil ?_
  refine x_false rfl ?_
  refine x_skip ?_
  refine x_seq ?_
  refine xs_plain (E := EE [9, 10, 13, 15, 17, 19, 20, 22, 25]) ?_
  refine lx_move rfl rfl rfl ?_
  refine lx_callW gt_low (M := fun _ => False) (fun k h => h.elim) rfl rfl ent9 rfl rfl hGF (Q := fun w1 w2 v => ∃ r, v = .bool r ∧ (r = true → ss.length ≤ 100 ∧ sm ss ss.length ≤ 5000)) (fun w1 h1 g1 => (light_calls ss a cap w1 g1 (hst.grow h1)).mono fun e w2 ⟨r, q1, q2, q3⟩ => ⟨_, q1, grow_mm q2, r, rfl, q3⟩) (fun w13a w13 v hg13 hm13 gg13 hq => ?_)
  have hGF := gt_low.plain gg13
  have hr13 := hg13.trans (hm13.grow (fun _ _ h => h))
  have hW : Grow w w13 := hr13
  obtain ⟨r, rfl, hlt0⟩ := hq
  rcases r with _ | _
  · skip
    refine lx_un rfl (fun _ => un_not _) rfl rfl ?_
    refine lx_move rfl rfl rfl ?_
    refine lx_skip rfl rfl rfl ?_
    refine lx_skip rfl rfl rfl ?_
    refine lx_skip rfl rfl rfl ?_
    refine lx_pick rfl rfl rfl rfl rfl ?_
    refine lx_nil ?_
    refine x_true rfl ?_
    refine xs_plain (E := EE [9, 10, 13, 15, 17, 19, 20, 22, 25]) ?_
    refine lx_assign rfl rfl rfl ?_
    refine lx_nil ?_
    refine x_ret ?_
    repeat (first | refine kseq_ret ?_ | refine kblk_ret ?_)
    exact kret_tmp rfl rfl (fun w' hw' => ⟨rfl, hW.trans (hp_below hw')⟩)
  · skip
    obtain ⟨hl1, hl2⟩ := hlt0 rfl
    refine lx_un rfl (fun _ => un_not _) rfl rfl ?_
    refine lx_move rfl rfl rfl ?_
    refine lx_move rfl rfl rfl ?_
    refine lx_len rfl (fun _ => len_slice Try.underlying28 _ _ _ _) rfl rfl ?_
    by_cases hb2 : 100 < more.length
    · skip
      refine lx_binB true rfl rfl (fun _ => rfl) (fun _ => bin_gtr_i _ _ _) (by simp; omega) rfl rfl ?_
      refine lx_pick rfl rfl rfl rfl rfl ?_
      refine lx_nil ?_
      refine x_true rfl ?_
      refine xs_plain (E := EE [9, 10, 13, 15, 17, 19, 20, 22, 25]) ?_
      refine lx_assign rfl rfl rfl ?_
      refine lx_nil ?_
      refine x_ret ?_
      repeat (first | refine kseq_ret ?_ | refine kblk_ret ?_)
      exact kret_tmp rfl rfl (fun w' hw' => ⟨rfl, hW.trans (hp_below hw')⟩)
    · skip
      have hwl := wrt_len ss ss.length (Nat.le_refl _)
      rw [wrt_all] at hwl
      refine lx_binB false rfl rfl (fun _ => rfl) (fun _ => bin_gtr_i _ _ _) (by simp; omega) rfl rfl ?_
      refine lx_pick rfl rfl rfl rfl rfl ?_
      refine lx_nil ?_
      refine x_false rfl ?_
      refine x_skip ?_
      refine xs_plain (E := EE [9, 10, 13, 15, 17, 19, 20, 22, 25]) ?_
      refine lx_allocr 5 hGF zv27 rfl rfl ?_
      intro bw
      refine lx_nil ?_
      refine x_seq ?_
      refine xs_plain (E := EE [9, 10, 13, 15, 17, 19, 20, 22, 25]) ?_
      refine lx_assign rfl rfl rfl ?_
      refine lx_nil ?_
      refine x_block ?_
      refine x_now0 gt_low (fun w3 hC g3 => ?_)
      have hbw : w.heap.size ≤ bw := Nat.le_trans hW.size ((hC.own 5 _ _ _ rfl).2.elim id False.elim)
      have hI : BW w bw w3 (wrt ss 0) := ⟨g3, hW.trans (hp_below hC), ⟨fun _ => False, ⟨[], none, (hC.own 5 _ _ _ rfl).1, rfl, rfl, id⟩, fun _ h => h.elim, fun _ _ h => h⟩⟩
      clear hC
      refine x_forW gt_low (ι := { x : Nat × World // x.1 ≤ ss.length ∧ BW w bw x.2 (wrt ss x.1) }) (fun x => [(0, .slice a ss.length cap), (1, .slice am more.length cm), (5, .pointer (some ⟨bw, 0, none⟩)), (6, I (x.1.1 : Int))]) (fun x => x.1.2) (fun x => ss.length - x.1.1) ⟨(0, w3), Nat.zero_le _, hI⟩ (fun x => x.2.2.g) rfl ⟨rfl, rfl, rfl, rfl, trivial⟩ ?_
      clear hI
      rintro ⟨⟨k, wk⟩, hk, hI⟩
      dsimp only at hk hI ⊢
      have hgt := hI.g
      have hGF : BOk Gt (pl wk) := gt_low.plain hI.g
      have hW := hI.gr
      have hX := hI.x
      refine x_seq ?_
      refine xs_plain (E := EE [9, 10, 13, 15, 17, 19, 20, 22, 25]) ?_
      refine lx_move rfl rfl rfl ?_
      refine lx_move rfl rfl rfl ?_
      refine lx_len rfl (fun _ => len_slice Try.underlying22 _ _ _ _) rfl rfl ?_
      rcases Nat.lt_or_ge k ss.length with hlt | hge
      · skip
        obtain ⟨s, hss⟩ : ∃ s, ss[k]? = some s := ⟨_, List.getElem?_eq_getElem hlt⟩
        obtain ⟨hok, ad, rfl, hat⟩ := hst k s hss
        have hnx : sm ss (k + 1) = sm ss k + 1 + s.bs.length + s.ls.length := by rw [sm, stw_s hss]; omega
        have hmo := sm_mono ss (i := k + 1) ss.length hlt
        have hl8 := le8_len s.n 8
        have hlp := pb_len s.ls s.ls.length
        unfold szB at hlp
        have hwk := wrt_len ss k hk
        refine lx_binB true rfl rfl (fun _ => rfl) (fun _ => bin_lss_i _ _ _) (by simp; omega) rfl rfl ?_
        refine lx_nil ?_
        refine x_true rfl ?_
        refine x_skip ?_
        refine x_seq ?_
        refine x_block ?_
        refine xs_plain (E := EE [9, 10, 13, 15, 17, 19, 20, 22, 25]) ?_
        refine lx_move rfl rfl rfl ?_
        refine lx_move rfl rfl rfl ?_
        refine lx_isAW k 5 rfl rfl Try.underlying22 Try.sizeOf32 rfl (by omega) rfl rfl ?_
        refine lx_faA rfl Try.underlying32 rfl Try.sizeOf3 (by decide) rfl rfl ?_
        refine lx_load rfl Try.isAgg3 (fun w' h => (hat.grow (hW.trans (hp_below h))).c 0 _ rfl) rfl rfl ?_
        refine lx_nil ?_
        refine x_block ?_
        refine xs_plain (E := EE [9, 10, 13, 15, 17, 19, 20, 22, 25]) ?_
        by_cases h0 : s.what = 0
        · skip
          have hpc : piece s = le8 s.n 8 := by unfold piece; rw [if_pos h0]
          refine lx_binB true rfl rfl (fun _ => rfl) (fun _ => bin_eql_i _ _ _) (beq_iff_eq.2 h0) rfl rfl ?_
          refine lx_assign rfl rfl rfl ?_
          refine lx_nil ?_
          refine x_true rfl ?_
          refine x_plain (E := EE [9, 10, 13, 15, 17, 19, 20, 22, 25]) ?_
          refine lx_move rfl rfl rfl ?_
          refine lx_move rfl rfl rfl ?_
          refine lx_isAW k 5 rfl rfl Try.underlying22 Try.sizeOf32 rfl (by omega) rfl rfl ?_
          refine lx_faA rfl Try.underlying32 rfl Try.sizeOf29 (by decide) rfl rfl ?_
          refine lx_load rfl Try.isAgg29 (fun w' h => (hat.grow (hW.trans (hp_below h))).c 2 _ rfl) rfl rfl ?_
          refine lx_callW gt_low (M := (fun k => k = bw)) (fun k h => Nat.zero_le _) rfl rfl ent10 rfl rfl hGF (Q := fun w1 w2 v => WrX (fun _ => False) w2 bw (wrt ss k ++ le8 s.n 8)) (fun w1 h1 g1 => wuX _ bw (wrt ss k) s.n (by omega) w1 g1 (Nat.zero_le _) (hX.grow h1) (fun _ h => h.elim)) (fun w38a w38 v hg38 hm38 gg38 hq => ?_)
          have hGF := gt_low.plain gg38
          have hW : Grow w w38 := hm38.grow0 (hW.trans hg38) (fun k hk => hk ▸ hbw)
          have hX := hq
          have hgt := gg38
          refine lx_nil ?_
          refine x_plain (E := EE [9, 10, 13, 15, 17, 19, 20, 22, 25]) ?_
          refine lx_move rfl rfl rfl ?_
          refine lx_bin (v := I (((k + 1 : Nat) : Int))) rfl rfl (fun _ => rfl) (fun _ => (bin_add_i _ _ _ (by unfold inI; omega)).trans (by rfl)) rfl rfl ?_
          refine lx_assign rfl rfl rfl ?_
          refine lx_nil ?_
          repeat (refine kblk_n ?_)
          refine kseq_n ?_
          exact ⟨rfl, ⟨(k + 1, _), hlt, ⟨hgt, hW, by rw [wrt_s hss, hpc]; first | exact hX | (rw [List.append_nil]; exact hX)⟩⟩, by show ss.length - (k + 1) < ss.length - k; omega, rfl, ⟨rfl, rfl, rfl, rfl, trivial⟩⟩
        · skip
          refine lx_binB false rfl rfl (fun _ => rfl) (fun _ => bin_eql_i _ _ _) (beq_eq_false_iff_ne.2 h0) rfl rfl ?_
          refine lx_assign rfl rfl rfl ?_
          refine lx_nil ?_
          refine x_false rfl ?_
          refine xs_plain (E := EE [9, 10, 13, 15, 17, 19, 20, 22, 25]) ?_
          by_cases h1 : s.what = 1
          · skip
            have hpc : piece s = s.bs := by unfold piece; rw [if_neg h0, if_pos h1]
            refine lx_binB true rfl rfl (fun _ => rfl) (fun _ => bin_eql_i _ _ _) (beq_iff_eq.2 h1) rfl rfl ?_
            refine lx_assign rfl rfl rfl ?_
            refine lx_nil ?_
            refine x_true rfl ?_
            refine x_plain (E := EE [9, 10, 13, 15, 17, 19, 20, 22, 25]) ?_
            refine lx_move rfl rfl rfl ?_
            refine lx_move rfl rfl rfl ?_
            refine lx_isAW k 5 rfl rfl Try.underlying22 Try.sizeOf32 rfl (by omega) rfl rfl ?_
            refine lx_faA rfl Try.underlying32 rfl Try.sizeOf28 (by decide) rfl rfl ?_
            refine lx_load rfl Try.isAgg28 (fun w' h => (hat.grow (hW.trans (hp_below h))).c 3 _ rfl) rfl rfl ?_
            refine lx_callW gt_low (M := (fun k => k = bw)) (fun k h => Nat.zero_le _) rfl rfl ent13 rfl rfl hGF (Q := fun w1 w2 v => WrX (fun _ => False) w2 bw (wrt ss k ++ s.bs)) (fun w1 h1 g1 => wbX _ bw (wrt ss k) s.bs s.ba s.bc (by omega) (by omega) w1 g1 (Nat.zero_le _) (hX.grow h1) (fun _ h => h.elim) (hat.b.grow (hW.trans h1))) (fun w46a w46 v hg46 hm46 gg46 hq => ?_)
            have hGF := gt_low.plain gg46
            have hW : Grow w w46 := hm46.grow0 (hW.trans hg46) (fun k hk => hk ▸ hbw)
            have hX := hq
            have hgt := gg46
            refine lx_nil ?_
            refine x_plain (E := EE [9, 10, 13, 15, 17, 19, 20, 22, 25]) ?_
            refine lx_move rfl rfl rfl ?_
            refine lx_bin (v := I (((k + 1 : Nat) : Int))) rfl rfl (fun _ => rfl) (fun _ => (bin_add_i _ _ _ (by unfold inI; omega)).trans (by rfl)) rfl rfl ?_
            refine lx_assign rfl rfl rfl ?_
            refine lx_nil ?_
            repeat (refine kblk_n ?_)
            refine kseq_n ?_
            exact ⟨rfl, ⟨(k + 1, _), hlt, ⟨hgt, hW, by rw [wrt_s hss, hpc]; first | exact hX | (rw [List.append_nil]; exact hX)⟩⟩, by show ss.length - (k + 1) < ss.length - k; omega, rfl, ⟨rfl, rfl, rfl, rfl, trivial⟩⟩
          · skip
            refine lx_binB false rfl rfl (fun _ => rfl) (fun _ => bin_eql_i _ _ _) (beq_eq_false_iff_ne.2 h1) rfl rfl ?_
            refine lx_assign rfl rfl rfl ?_
            refine lx_nil ?_
            refine x_false rfl ?_
            refine xs_plain (E := EE [9, 10, 13, 15, 17, 19, 20, 22, 25]) ?_
            by_cases h2 : s.what = 2
            · skip
              have hpc : piece s = pb s.ls s.ls.length := by unfold piece; rw [if_neg h0, if_neg h1, if_pos h2]
              refine lx_binB true rfl rfl (fun _ => rfl) (fun _ => bin_eql_i _ _ _) (beq_iff_eq.2 h2) rfl rfl ?_
              refine lx_assign rfl rfl rfl ?_
              refine lx_nil ?_
              refine x_true rfl ?_
              refine x_plain (E := EE [9, 10, 13, 15, 17, 19, 20, 22, 25]) ?_
              refine lx_move rfl rfl rfl ?_
              refine lx_move rfl rfl rfl ?_
              refine lx_isAW k 5 rfl rfl Try.underlying22 Try.sizeOf32 rfl (by omega) rfl rfl ?_
              refine lx_faA rfl Try.underlying32 rfl Try.sizeOf30 (by decide) rfl rfl ?_
              refine lx_load rfl Try.isAgg30 (fun w' h => (hat.grow (hW.trans (hp_below h))).c 4 _ rfl) rfl rfl ?_
              refine lx_callW gt_low (M := (fun k => k = bw)) (fun k h => Nat.zero_le _) rfl rfl ent15 rfl rfl hGF (Q := fun w1 w2 v => WrX (fun _ => False) w2 bw (wrt ss k ++ pb s.ls s.ls.length)) (fun w1 h1 g1 => wtX _ bw (wrt ss k) s.ls s.la s.lc (by omega) (by omega) w1 g1 (Nat.zero_le _) (hX.grow h1) (fun _ h => h.elim) (hat.l.grow (hW.trans h1))) (fun w54a w54 v hg54 hm54 gg54 hq => ?_)
              have hGF := gt_low.plain gg54
              have hW : Grow w w54 := hm54.grow0 (hW.trans hg54) (fun k hk => hk ▸ hbw)
              have hX := hq
              have hgt := gg54
              refine lx_nil ?_
              refine x_plain (E := EE [9, 10, 13, 15, 17, 19, 20, 22, 25]) ?_
              refine lx_move rfl rfl rfl ?_
              refine lx_bin (v := I (((k + 1 : Nat) : Int))) rfl rfl (fun _ => rfl) (fun _ => (bin_add_i _ _ _ (by unfold inI; omega)).trans (by rfl)) rfl rfl ?_
              refine lx_assign rfl rfl rfl ?_
              refine lx_nil ?_
              repeat (refine kblk_n ?_)
              refine kseq_n ?_
              exact ⟨rfl, ⟨(k + 1, _), hlt, ⟨hgt, hW, by rw [wrt_s hss, hpc]; first | exact hX | (rw [List.append_nil]; exact hX)⟩⟩, by show ss.length - (k + 1) < ss.length - k; omega, rfl, ⟨rfl, rfl, rfl, rfl, trivial⟩⟩
            · skip
              have hpc : piece s = [] := by unfold piece; rw [if_neg h0, if_neg h1, if_neg h2]
              refine lx_binB false rfl rfl (fun _ => rfl) (fun _ => bin_eql_i _ _ _) (beq_eq_false_iff_ne.2 h2) rfl rfl ?_
              refine lx_assign rfl rfl rfl ?_
              refine lx_nil ?_
              refine x_false rfl ?_
              refine x_skip ?_
              refine x_plain (E := EE [9, 10, 13, 15, 17, 19, 20, 22, 25]) ?_
              refine lx_move rfl rfl rfl ?_
              refine lx_bin (v := I (((k + 1 : Nat) : Int))) rfl rfl (fun _ => rfl) (fun _ => (bin_add_i _ _ _ (by unfold inI; omega)).trans (by rfl)) rfl rfl ?_
              refine lx_assign rfl rfl rfl ?_
              refine lx_nil ?_
              repeat (refine kblk_n ?_)
              refine kseq_n ?_
              exact ⟨rfl, ⟨(k + 1, _), hlt, ⟨hgt, hW, by rw [wrt_s hss, hpc]; first | exact hX | (rw [List.append_nil]; exact hX)⟩⟩, by show ss.length - (k + 1) < ss.length - k; omega, rfl, ⟨rfl, rfl, rfl, rfl, trivial⟩⟩
      · skip
        obtain rfl : k = ss.length := by omega
        rw [wrt_all] at hX
        refine lx_binB false rfl rfl (fun _ => rfl) (fun _ => bin_lss_i _ _ _) (by simp) rfl rfl ?_
        refine lx_nil ?_
        refine x_false rfl ?_
        refine x_exit ?_
        refine xs_plain (E := EE [9, 10, 13, 15, 17, 19, 20, 22, 25]) ?_
        refine lx_callW gt_low (M := fun _ => False) (fun k h => h.elim) rfl rfl ent17 rfl rfl hGF (Q := fun w1 w2 v => Fr8 w1 w2 v (rs ss 0)) (fun w1 h1 g1 => walX _ bw (rs ss 0) (by omega) w1 g1 (hX.grow h1)) (fun w55a w55 v hg55 hm55 gg55 hq => ?_)
        have hGF := gt_low.plain gg55
        have hr55 := hg55.trans (hm55.grow (fun _ _ h => h))
        obtain ⟨ai, ci, rfl, hsi, hni⟩ := hq
        have hwi : ∀ k, Of ai k → w.heap.size ≤ k := fun k h2 => Nat.le_trans (hW.trans hg55).size (Of.new hni k h2)
        have hW : Grow w w55 := hW.trans hr55
        refine lx_move rfl rfl rfl ?_
        refine lx_app8 (xs := (rs ss 0)) (ys := more) gt_low (fun w' h => hGF.g _ _ _ h) rfl rfl Try.underlying28 Try.underlying28 ti5 (fun w' h => hsi.grow (hp_below h)) (fun k _ => Nat.zero_le _) (fun w' h => hb.grow (hW.trans (hp_below h))) (fun w' h hy ad e hof => by have h1 := bytes_lt hb hy ad e; have h2 := hwi _ hof; omega) (by omega) rfl rfl (fun w57a w57 a9 c9 hC g2 hm hs9 ho => ?_)
        have hW : Grow w w57 := hm.grow0 (hW.trans (hp_below hC)) hwi
        have hGF := gt_low.plain g2
        clear hC hm ho
        refine lx_callW gt_low (M := fun _ => False) (fun k h => h.elim) rfl rfl ent19 rfl rfl hGF (Q := fun w1 w2 v => ∃ b, v = .pointer (some ⟨b, 0, none⟩) ∧ w1.heap.size ≤ b ∧ RdAt 67 (fun k => w1.heap.size ≤ k ∧ k < w2.heap.size) w2 b ((rs ss 0) ++ more) 0) (fun w1 h1 g1 => nrB ((rs ss 0) ++ more) a9 _ c9 rfl (by rw [List.length_append]; omega) w1 g1 (hs9.grow h1).bytes) (fun w58a w58 v hg58 hm58 gg58 hq => ?_)
        have hGF := gt_low.plain gg58
        have hr58 := hg58.trans (hm58.grow (fun _ _ h => h))
        obtain ⟨br, rfl, hbr0, hrd⟩ := hq
        have hbr : w.heap.size ≤ br := Nat.le_trans (hW.trans hg58).size hbr0
        have hW : Grow w w58 := hW.trans hr58
        refine lx_assign rfl rfl rfl ?_
        refine lx_nil ?_
        refine x_seq ?_
        refine xs_plain (E := EE [9, 10, 13, 15, 17, 19, 20, 22, 25]) ?_
        refine lx_assign rfl rfl rfl ?_
        refine lx_nil ?_
        refine x_block ?_
        have hI : BR w br w58 (rs ss 0 ++ more) := ⟨gg58, hW, hrd.sub (fun _ _ => trivial)⟩
        refine x_forW gt_low (ι := { x : Nat × World // x.1 ≤ ss.length ∧ BR w br x.2 (rs ss x.1 ++ more) ∧ (rs ss x.1).length ≤ 40000 }) (fun x => [(0, .slice a ss.length cap), (1, .slice am more.length cm), (7, .pointer (some ⟨br, 0, none⟩)), (8, I (x.1.1 : Int))]) (fun x => x.1.2) (fun x => ss.length - x.1.1) ⟨(0, w58), Nat.zero_le _, hI, by show (rs ss 0).length ≤ 40000; omega⟩ (fun x => x.2.2.1.g) rfl ⟨rfl, rfl, rfl, rfl, trivial⟩ ?_
        clear hI
        rintro ⟨⟨k, wk⟩, hk, hI, hl⟩
        dsimp only at hk hI hl ⊢
        have hgt := hI.g
        have hGF : BOk Gt (pl wk) := gt_low.plain hI.g
        have hW := hI.gr
        have hrd := hI.r
        refine x_seq ?_
        refine xs_plain (E := EE [9, 10, 13, 15, 17, 19, 20, 22, 25]) ?_
        refine lx_move rfl rfl rfl ?_
        refine lx_move rfl rfl rfl ?_
        refine lx_len rfl (fun _ => len_slice Try.underlying22 _ _ _ _) rfl rfl ?_
        rcases Nat.lt_or_ge k ss.length with hlt | hge
        · skip
          obtain ⟨s, hss⟩ : ∃ s, ss[k]? = some s := ⟨_, List.getElem?_eq_getElem hlt⟩
          obtain ⟨hok, ad, rfl, hat⟩ := hst k s hss
          have hnx : sm ss (k + 1) = sm ss k + 1 + s.bs.length + s.ls.length := by rw [sm, stw_s hss]; omega
          have hmo := sm_mono ss (i := k + 1) ss.length hlt
          have hl8 := le8_len s.n 8
          have hlp := pb_len s.ls s.ls.length
          unfold szB at hlp
          refine lx_binB true rfl rfl (fun _ => rfl) (fun _ => bin_lss_i _ _ _) (by simp; omega) rfl rfl ?_
          refine lx_nil ?_
          refine x_true rfl ?_
          refine x_skip ?_
          refine x_seq ?_
          refine x_block ?_
          refine xs_plain (E := EE [9, 10, 13, 15, 17, 19, 20, 22, 25]) ?_
          refine lx_assign rfl rfl rfl ?_
          refine lx_nil ?_
          refine x_seq ?_
          refine xs_plain (E := EE [9, 10, 13, 15, 17, 19, 20, 22, 25]) ?_
          refine lx_move rfl rfl rfl ?_
          refine lx_move rfl rfl rfl ?_
          refine lx_isAW k 5 rfl rfl Try.underlying22 Try.sizeOf32 rfl (by omega) rfl rfl ?_
          refine lx_faA rfl Try.underlying32 rfl Try.sizeOf3 (by decide) rfl rfl ?_
          refine lx_load rfl Try.isAgg3 (fun w' h => (hat.grow (hW.trans (hp_below h))).c 0 _ rfl) rfl rfl ?_
          refine lx_nil ?_
          refine x_block ?_
          refine xs_plain (E := EE [9, 10, 13, 15, 17, 19, 20, 22, 25]) ?_
          by_cases h0 : s.what = 0
          · skip
            have hpc : piece s = le8 s.n 8 := by unfold piece; rw [if_pos h0]
            have hrs := rs_s hss
            rw [hpc] at hrs
            rw [hrs, List.append_assoc] at hrd
            have hll : (rs ss k).length ≤ 40000 := hl
            rw [hrs, List.length_append] at hll
            have hl2 : (rs ss (k + 1)).length ≤ 40000 := by omega
            have hap : (rs ss (k + 1) ++ more).length ≤ 40100 := by rw [List.length_append]; omega
            refine lx_binB true rfl rfl (fun _ => rfl) (fun _ => bin_eql_i _ _ _) (beq_iff_eq.2 h0) rfl rfl ?_
            refine lx_assign rfl rfl rfl ?_
            refine lx_nil ?_
            refine x_true rfl ?_
            refine x_drawK (E := EE [9, 10, 13, 15, 17, 19, 20, 22, 25]) (fun X => X = (fun w' => Grow w w')) (mkC [20]) (rkB [78]) [0, 2, 3, 4, 5, 6, 1, 7, 8] mixed rfl (by kernel_rfl) (by kernel_rfl) (by kernel_rfl) ?_
            refine lxk_s rfl rfl ?_
            refine lx_move rfl rfl rfl ?_
            refine lx_nil ?_
            refine lxk_s rfl rfl ?_
            refine lx_move rfl rfl rfl ?_
            refine lx_nil ?_
            refine lxk_s rfl rfl ?_
            refine lx_move rfl rfl rfl ?_
            refine lx_nil ?_
            refine lxk_s rfl rfl ?_
            refine lx_isAW k 5 rfl rfl Try.underlying22 Try.sizeOf32 rfl (by omega) rfl rfl ?_
            refine lx_nil ?_
            refine lxk_s rfl rfl ?_
            refine lx_faA rfl Try.underlying32 rfl Try.sizeOf29 (by decide) rfl rfl ?_
            refine lx_nil ?_
            refine lxk_q (X := fun w' => Grow w w') rfl (fun w' h => hW.trans (hp_below h)) (fun _ => rfl) ?_
            refine lx_load rfl Try.isAgg29 (fun w' h => (hat.grow h).c 2 _ rfl) rfl rfl ?_
            refine lx_nil ?_
            refine lxk_e rfl ?_
            refine lx_callW gt_low (M := (fun k => k = br)) (fun k h => Nat.zero_le _) rfl rfl ent20 rfl rfl hGF (Q := fun w1 w2 v => (v = U64 s.n) ∧ RdAt 67 (fun _ => True) w2 br (rs ss (k + 1) ++ more) 0) (fun w1 h1 g1 => by have := ru_calls _ br (le8 s.n 8 ++ (rs ss (k + 1) ++ more)) 0 w1 g1 (Nat.zero_le _) (hrd.grow h1); rw [(got8 _ _).1, (got8 _ _).2.1, (got8 _ _).2.2, le8_len, le_pn] at this; exact this) (fun w73a w73 v hg73 hm73 gg73 hq => ?_)
            have hGF := gt_low.plain gg73
            have hW : Grow w w73 := hm73.grow0 (hW.trans hg73) (fun k hk => hk ▸ hbr)
            obtain ⟨rfl, hrd⟩ := hq
            have hgt := gg73
            refine lx_nil ?_
            refine ⟨fun _ X hX _ => by subst hX; exact fun w' h => hW.trans (hp_below h), ?_⟩
            refine lxk_s rfl rfl ?_
            refine lx_binB true rfl rfl (fun _ => rfl) (fun _ => bin_eql_u64 _ _ _) (by simp) rfl rfl ?_
            refine lx_nil ?_
            refine lxk_s rfl rfl ?_
            refine lx_assign rfl rfl rfl ?_
            refine lx_nil ?_
            refine lxk_nil ?_
            refine xs_plain (E := EE [9, 10, 13, 15, 17, 19, 20, 22, 25]) ?_
            refine lx_move rfl rfl rfl ?_
            refine lx_un rfl (fun _ => un_not _) rfl rfl ?_
            refine lx_move rfl rfl rfl ?_
            refine lx_move rfl rfl rfl ?_
            refine lx_callC rfl rfl ent27 (fun w1 hC hG => er_calls w1 hG (hrd.grow (hp_below hC))) rfl rfl ?_
            refine lx_binB false rfl rfl (fun _ => rfl) (fun _ => bin_neq_i _ _ _) (by decide) rfl rfl ?_
            refine lx_pick rfl rfl rfl rfl rfl ?_
            refine lx_nil ?_
            refine x_false rfl ?_
            refine x_skip ?_
            refine x_plain (E := EE [9, 10, 13, 15, 17, 19, 20, 22, 25]) ?_
            refine lx_move rfl rfl rfl ?_
            refine lx_bin (v := I (((k + 1 : Nat) : Int))) rfl rfl (fun _ => rfl) (fun _ => (bin_add_i _ _ _ (by unfold inI; omega)).trans (by rfl)) rfl rfl ?_
            refine lx_assign rfl rfl rfl ?_
            refine lx_nil ?_
            repeat (refine kblk_n ?_)
            refine kseq_n ?_
            exact ⟨rfl, ⟨(k + 1, _), hlt, ⟨hgt, hW, by first | exact hrd | (rw [List.nil_append] at hrd; exact hrd)⟩, by first | exact hl2 | omega⟩, by show ss.length - (k + 1) < ss.length - k; omega, rfl, ⟨rfl, rfl, rfl, rfl, trivial⟩⟩
          · skip
            refine lx_binB false rfl rfl (fun _ => rfl) (fun _ => bin_eql_i _ _ _) (beq_eq_false_iff_ne.2 h0) rfl rfl ?_
            refine lx_assign rfl rfl rfl ?_
            refine lx_nil ?_
            refine x_false rfl ?_
            refine xs_plain (E := EE [9, 10, 13, 15, 17, 19, 20, 22, 25]) ?_
            by_cases h1 : s.what = 1
            · skip
              have hpc : piece s = s.bs := by unfold piece; rw [if_neg h0, if_pos h1]
              have hrs := rs_s hss
              rw [hpc] at hrs
              rw [hrs, List.append_assoc] at hrd
              have hll : (rs ss k).length ≤ 40000 := hl
              rw [hrs, List.length_append] at hll
              have hl2 : (rs ss (k + 1)).length ≤ 40000 := by omega
              have hap : (rs ss (k + 1) ++ more).length ≤ 40100 := by rw [List.length_append]; omega
              refine lx_binB true rfl rfl (fun _ => rfl) (fun _ => bin_eql_i _ _ _) (beq_iff_eq.2 h1) rfl rfl ?_
              refine lx_assign rfl rfl rfl ?_
              refine lx_nil ?_
              refine x_true rfl ?_
              refine x_drawK (E := EE [9, 10, 13, 15, 17, 19, 20, 22, 25]) (fun X => X = (fun w' => Grow w w')) (mkC [22]) (rkB [94]) [0, 1, 2, 3, 4, 5, 6, 8, 9, 10, 11, 12, 7, 13, 14] mixed rfl (by kernel_rfl) (by kernel_rfl) (by kernel_rfl) ?_
              refine lxk_s rfl rfl ?_
              refine lx_move rfl rfl rfl ?_
              refine lx_nil ?_
              refine lxk_s rfl rfl ?_
              refine lx_move rfl rfl rfl ?_
              refine lx_nil ?_
              refine lxk_s rfl rfl ?_
              refine lx_move rfl rfl rfl ?_
              refine lx_nil ?_
              refine lxk_s rfl rfl ?_
              refine lx_isAW k 5 rfl rfl Try.underlying22 Try.sizeOf32 rfl (by omega) rfl rfl ?_
              refine lx_nil ?_
              refine lxk_s rfl rfl ?_
              refine lx_faA rfl Try.underlying32 rfl Try.sizeOf28 (by decide) rfl rfl ?_
              refine lx_nil ?_
              refine lxk_s rfl rfl ?_
              refine lx_load rfl Try.isAgg28 (fun w' h => (hat.grow (hW.trans (hp_below h))).c 3 _ rfl) rfl rfl ?_
              refine lx_nil ?_
              refine lxk_s rfl rfl ?_
              refine lx_len rfl (fun _ => len_slice Try.underlying28 _ _ _ _) rfl rfl ?_
              refine lx_nil ?_
              refine lxk_s rfl rfl ?_
              refine lx_move rfl rfl rfl ?_
              refine lx_nil ?_
              refine lxk_s rfl rfl ?_
              refine lx_move rfl rfl rfl ?_
              refine lx_nil ?_
              refine lxk_s rfl rfl ?_
              refine lx_isAW k 5 rfl rfl Try.underlying22 Try.sizeOf32 rfl (by omega) rfl rfl ?_
              refine lx_nil ?_
              refine lxk_s rfl rfl ?_
              refine lx_faA rfl Try.underlying32 rfl Try.sizeOf28 (by decide) rfl rfl ?_
              refine lx_nil ?_
              refine lxk_q (X := fun w' => Grow w w') rfl (fun w' h => hW.trans (hp_below h)) (fun _ => rfl) ?_
              refine lx_load rfl Try.isAgg28 (fun w' h => (hat.grow h).c 3 _ rfl) rfl rfl ?_
              refine lx_nil ?_
              refine lxk_e rfl ?_
              refine lx_callW gt_low (M := (fun k => k = br)) (fun k h => Nat.zero_le _) rfl rfl ent22 rfl rfl hGF (Q := fun w1 w2 v => (Fr8 w1 w2 v s.bs) ∧ RdAt 67 (fun _ => True) w2 br (rs ss (k + 1) ++ more) 0) (fun w1 h1 g1 => by have := rb_calls _ br (s.bs ++ (rs ss (k + 1) ++ more)) 0 (s.bs.length : Int) (by rw [List.length_append]; omega) w1 g1 (Nat.zero_le _) (hrd.grow h1); rw [Int.toNat_natCast, (gotK _ _).1, (gotK _ _).2.1, (gotK _ _).2.2] at this; exact this) (fun w89a w89 v hg89 hm89 gg89 hq => ?_)
              have hGF := gt_low.plain gg89
              have hW : Grow w w89 := hm89.grow0 (hW.trans hg89) (fun k hk => hk ▸ hbr)
              obtain ⟨⟨a3, c3, rfl, hs3, hn3⟩, hrd⟩ := hq
              have hgt := gg89
              refine lx_nil ?_
              refine ⟨fun _ X hX _ => by subst hX; exact fun w' h => hW.trans (hp_below h), ?_⟩
              refine lxk_s rfl rfl ?_
              refine lx_callC rfl rfl ent18 (fun w1 hC hG => byt_calls s.bs a3 _ c3 s.ba _ s.bc rfl rfl w1 hG (hs3.grow (hp_below hC)).bytes (hat.b.grow (hW.trans (hp_below hC)))) rfl rfl ?_
              refine lx_nil ?_
              refine lxk_s rfl rfl ?_
              refine lx_assign rfl rfl rfl ?_
              refine lx_nil ?_
              refine lxk_nil ?_
              refine xs_plain (E := EE [9, 10, 13, 15, 17, 19, 20, 22, 25]) ?_
              refine lx_move rfl rfl rfl ?_
              refine lx_un rfl (fun _ => un_not _) rfl rfl ?_
              refine lx_move rfl rfl rfl ?_
              refine lx_move rfl rfl rfl ?_
              refine lx_callC rfl rfl ent27 (fun w1 hC hG => er_calls w1 hG (hrd.grow (hp_below hC))) rfl rfl ?_
              refine lx_binB false rfl rfl (fun _ => rfl) (fun _ => bin_neq_i _ _ _) (by decide) rfl rfl ?_
              refine lx_pick rfl rfl rfl rfl rfl ?_
              refine lx_nil ?_
              refine x_false rfl ?_
              refine x_skip ?_
              refine x_plain (E := EE [9, 10, 13, 15, 17, 19, 20, 22, 25]) ?_
              refine lx_move rfl rfl rfl ?_
              refine lx_bin (v := I (((k + 1 : Nat) : Int))) rfl rfl (fun _ => rfl) (fun _ => (bin_add_i _ _ _ (by unfold inI; omega)).trans (by rfl)) rfl rfl ?_
              refine lx_assign rfl rfl rfl ?_
              refine lx_nil ?_
              repeat (refine kblk_n ?_)
              refine kseq_n ?_
              exact ⟨rfl, ⟨(k + 1, _), hlt, ⟨hgt, hW, by first | exact hrd | (rw [List.nil_append] at hrd; exact hrd)⟩, by first | exact hl2 | omega⟩, by show ss.length - (k + 1) < ss.length - k; omega, rfl, ⟨rfl, rfl, rfl, rfl, trivial⟩⟩
            · skip
              refine lx_binB false rfl rfl (fun _ => rfl) (fun _ => bin_eql_i _ _ _) (beq_eq_false_iff_ne.2 h1) rfl rfl ?_
              refine lx_assign rfl rfl rfl ?_
              refine lx_nil ?_
              refine x_false rfl ?_
              refine xs_plain (E := EE [9, 10, 13, 15, 17, 19, 20, 22, 25]) ?_
              by_cases h2 : s.what = 2
              · skip
                have hpc : piece s = pb s.ls s.ls.length := by unfold piece; rw [if_neg h0, if_neg h1, if_pos h2]
                have hrs := rs_s hss
                rw [hpc] at hrs
                rw [hrs, List.append_assoc] at hrd
                have hll : (rs ss k).length ≤ 40000 := hl
                rw [hrs, List.length_append] at hll
                have hl2 : (rs ss (k + 1)).length ≤ 40000 := by omega
                have hap : (rs ss (k + 1) ++ more).length ≤ 40100 := by rw [List.length_append]; omega
                refine lx_binB true rfl rfl (fun _ => rfl) (fun _ => bin_eql_i _ _ _) (beq_iff_eq.2 h2) rfl rfl ?_
                refine lx_assign rfl rfl rfl ?_
                refine lx_nil ?_
                refine x_true rfl ?_
                refine x_drawK (E := EE [9, 10, 13, 15, 17, 19, 20, 22, 25]) (fun X => X = (fun w' => Grow w w')) (mkC [25]) (rkB [110]) [0, 1, 2, 3, 4, 5, 6, 8, 9, 10, 11, 12, 7, 13, 14] mixed rfl (by kernel_rfl) (by kernel_rfl) (by kernel_rfl) ?_
                refine lxk_s rfl rfl ?_
                refine lx_move rfl rfl rfl ?_
                refine lx_nil ?_
                refine lxk_s rfl rfl ?_
                refine lx_move rfl rfl rfl ?_
                refine lx_nil ?_
                refine lxk_s rfl rfl ?_
                refine lx_move rfl rfl rfl ?_
                refine lx_nil ?_
                refine lxk_s rfl rfl ?_
                refine lx_isAW k 5 rfl rfl Try.underlying22 Try.sizeOf32 rfl (by omega) rfl rfl ?_
                refine lx_nil ?_
                refine lxk_s rfl rfl ?_
                refine lx_faA rfl Try.underlying32 rfl Try.sizeOf30 (by decide) rfl rfl ?_
                refine lx_nil ?_
                refine lxk_s rfl rfl ?_
                refine lx_load rfl Try.isAgg30 (fun w' h => (hat.grow (hW.trans (hp_below h))).c 4 _ rfl) rfl rfl ?_
                refine lx_nil ?_
                refine lxk_s rfl rfl ?_
                refine lx_len rfl (fun _ => len_slice Try.underlying30 _ _ _ _) rfl rfl ?_
                refine lx_nil ?_
                refine lxk_s rfl rfl ?_
                refine lx_move rfl rfl rfl ?_
                refine lx_nil ?_
                refine lxk_s rfl rfl ?_
                refine lx_move rfl rfl rfl ?_
                refine lx_nil ?_
                refine lxk_s rfl rfl ?_
                refine lx_isAW k 5 rfl rfl Try.underlying22 Try.sizeOf32 rfl (by omega) rfl rfl ?_
                refine lx_nil ?_
                refine lxk_s rfl rfl ?_
                refine lx_faA rfl Try.underlying32 rfl Try.sizeOf30 (by decide) rfl rfl ?_
                refine lx_nil ?_
                refine lxk_q (X := fun w' => Grow w w') rfl (fun w' h => hW.trans (hp_below h)) (fun _ => rfl) ?_
                refine lx_load rfl Try.isAgg30 (fun w' h => (hat.grow h).c 4 _ rfl) rfl rfl ?_
                refine lx_nil ?_
                refine lxk_e rfl ?_
                refine lx_callW gt_low (M := (fun k => k = br)) (fun k h => Nat.zero_le _) rfl rfl ent25 rfl rfl hGF (Q := fun w1 w2 v => (FrB w1 w2 v s.ls) ∧ RdAt 67 (fun _ => True) w2 br (rs ss (k + 1) ++ more) 0) (fun w1 h1 g1 => by have := rt_calls _ br (pb s.ls s.ls.length ++ (rs ss (k + 1) ++ more)) 0 (s.ls.length : Int) (by omega) (by rw [List.length_append]; omega) w1 g1 (Nat.zero_le _) (hrd.grow h1); rw [Int.toNat_natCast, (gotL _ _).1, (gotL _ _).2.1, (gotL _ _).2.2] at this; exact this) (fun w105a w105 v hg105 hm105 gg105 hq => ?_)
                have hGF := gt_low.plain gg105
                have hW : Grow w w105 := hm105.grow0 (hW.trans hg105) (fun k hk => hk ▸ hbr)
                obtain ⟨⟨a3, c3, rfl, hs3, hn3⟩, hrd⟩ := hq
                have hgt := gg105
                refine lx_nil ?_
                refine ⟨fun _ X hX _ => by subst hX; exact fun w' h => hW.trans (hp_below h), ?_⟩
                refine lxk_s rfl rfl ?_
                refine lx_callC rfl rfl ent24 (fun w1 hC hG => hbi_calls s.ls (by omega) a3 c3 s.la s.lc w1 hG (hs3.grow (hp_below hC)).cells (hat.l.grow (hW.trans (hp_below hC)))) rfl rfl ?_
                refine lx_nil ?_
                refine lxk_s rfl rfl ?_
                refine lx_assign rfl rfl rfl ?_
                refine lx_nil ?_
                refine lxk_nil ?_
                refine xs_plain (E := EE [9, 10, 13, 15, 17, 19, 20, 22, 25]) ?_
                refine lx_move rfl rfl rfl ?_
                refine lx_un rfl (fun _ => un_not _) rfl rfl ?_
                refine lx_move rfl rfl rfl ?_
                refine lx_move rfl rfl rfl ?_
                refine lx_callC rfl rfl ent27 (fun w1 hC hG => er_calls w1 hG (hrd.grow (hp_below hC))) rfl rfl ?_
                refine lx_binB false rfl rfl (fun _ => rfl) (fun _ => bin_neq_i _ _ _) (by decide) rfl rfl ?_
                refine lx_pick rfl rfl rfl rfl rfl ?_
                refine lx_nil ?_
                refine x_false rfl ?_
                refine x_skip ?_
                refine x_plain (E := EE [9, 10, 13, 15, 17, 19, 20, 22, 25]) ?_
                refine lx_move rfl rfl rfl ?_
                refine lx_bin (v := I (((k + 1 : Nat) : Int))) rfl rfl (fun _ => rfl) (fun _ => (bin_add_i _ _ _ (by unfold inI; omega)).trans (by rfl)) rfl rfl ?_
                refine lx_assign rfl rfl rfl ?_
                refine lx_nil ?_
                repeat (refine kblk_n ?_)
                refine kseq_n ?_
                exact ⟨rfl, ⟨(k + 1, _), hlt, ⟨hgt, hW, by first | exact hrd | (rw [List.nil_append] at hrd; exact hrd)⟩, by first | exact hl2 | omega⟩, by show ss.length - (k + 1) < ss.length - k; omega, rfl, ⟨rfl, rfl, rfl, rfl, trivial⟩⟩
              · skip
                have hpc : piece s = [] := by unfold piece; rw [if_neg h0, if_neg h1, if_neg h2]
                have hrs := rs_s hss
                rw [hpc] at hrs
                rw [hrs, List.append_assoc] at hrd
                have hll : (rs ss k).length ≤ 40000 := hl
                rw [hrs, List.length_append] at hll
                have hl2 : (rs ss (k + 1)).length ≤ 40000 := by omega
                have hap : (rs ss (k + 1) ++ more).length ≤ 40100 := by rw [List.length_append]; omega
                refine lx_binB false rfl rfl (fun _ => rfl) (fun _ => bin_eql_i _ _ _) (beq_eq_false_iff_ne.2 h2) rfl rfl ?_
                refine lx_assign rfl rfl rfl ?_
                refine lx_nil ?_
                refine x_false rfl ?_
                refine x_skip ?_
                refine xs_plain (E := EE [9, 10, 13, 15, 17, 19, 20, 22, 25]) ?_
                refine lx_move rfl rfl rfl ?_
                refine lx_un rfl (fun _ => un_not _) rfl rfl ?_
                refine lx_move rfl rfl rfl ?_
                refine lx_move rfl rfl rfl ?_
                refine lx_callC rfl rfl ent27 (fun w1 hC hG => er_calls w1 hG (hrd.grow (hp_below hC))) rfl rfl ?_
                refine lx_binB false rfl rfl (fun _ => rfl) (fun _ => bin_neq_i _ _ _) (by decide) rfl rfl ?_
                refine lx_pick rfl rfl rfl rfl rfl ?_
                refine lx_nil ?_
                refine x_false rfl ?_
                refine x_skip ?_
                refine x_plain (E := EE [9, 10, 13, 15, 17, 19, 20, 22, 25]) ?_
                refine lx_move rfl rfl rfl ?_
                refine lx_bin (v := I (((k + 1 : Nat) : Int))) rfl rfl (fun _ => rfl) (fun _ => (bin_add_i _ _ _ (by unfold inI; omega)).trans (by rfl)) rfl rfl ?_
                refine lx_assign rfl rfl rfl ?_
                refine lx_nil ?_
                repeat (refine kblk_n ?_)
                refine kseq_n ?_
                exact ⟨rfl, ⟨(k + 1, _), hlt, ⟨hgt, hW, by first | exact hrd | (rw [List.nil_append] at hrd; exact hrd)⟩, by first | exact hl2 | omega⟩, by show ss.length - (k + 1) < ss.length - k; omega, rfl, ⟨rfl, rfl, rfl, rfl, trivial⟩⟩
        · skip
          obtain rfl : k = ss.length := by omega
          rw [rs_end, List.nil_append] at hrd
          refine lx_binB false rfl rfl (fun _ => rfl) (fun _ => bin_lss_i _ _ _) (by simp) rfl rfl ?_
          refine lx_nil ?_
          refine x_false rfl ?_
          refine x_exit ?_
          refine xs_plain (E := EE [9, 10, 13, 15, 17, 19, 20, 22, 25]) ?_
          refine lx_move rfl rfl rfl ?_
          refine lx_callC rfl rfl ent28 (fun w1 hC hG => en_calls w1 hG (hrd.grow (hp_below hC))) rfl rfl ?_
          by_cases hp : 0 < more.length
          · skip
            refine lx_binB true rfl rfl (fun _ => rfl) (fun _ => bin_eql_i _ _ _) (beq_iff_eq.2 (by simp [endE, hp])) rfl rfl ?_
            refine lx_move rfl rfl rfl ?_
            refine lx_len rfl (fun _ => len_slice Try.underlying28 _ _ _ _) rfl rfl ?_
            refine lx_binB true rfl rfl (fun _ => rfl) (fun _ => bin_gtr_i _ _ _) (by simp; omega) rfl rfl ?_
            refine lx_binB true rfl rfl (fun _ => rfl) (fun w => bin_eql_bool 4 Try.underlying4 _ _ w) (by rfl) rfl rfl ?_
            refine lx_assign rfl rfl rfl ?_
            refine lx_nil ?_
            refine x_ret ?_
            repeat (first | refine kseq_ret ?_ | refine kblk_ret ?_)
            exact kret_tmp rfl rfl (fun w' hw' => ⟨rfl, hW.trans (hp_below hw')⟩)
          · skip
            refine lx_binB false rfl rfl (fun _ => rfl) (fun _ => bin_eql_i _ _ _) (beq_eq_false_iff_ne.2 (by simp [endE, hp])) rfl rfl ?_
            refine lx_move rfl rfl rfl ?_
            refine lx_len rfl (fun _ => len_slice Try.underlying28 _ _ _ _) rfl rfl ?_
            refine lx_binB false rfl rfl (fun _ => rfl) (fun _ => bin_gtr_i _ _ _) (by rw [decide_eq_false_iff_not]; omega) rfl rfl ?_
            refine lx_binB true rfl rfl (fun _ => rfl) (fun w => bin_eql_bool 4 Try.underlying4 _ _ w) (by rfl) rfl rfl ?_
            refine lx_assign rfl rfl rfl ?_
            refine lx_nil ?_
            refine x_ret ?_
            repeat (first | refine kseq_ret ?_ | refine kblk_ret ?_)
            exact kret_tmp rfl rfl (fun w' hw' => ⟨rfl, hW.trans (hp_below hw')⟩)
end Go.Proofs.Ytjifjpcgdkepkaa
