/-
  The law of noughts behind a committee's bits.
-/
import Derived.Test.YtlaanjcnfindnaaUP
import Derived.Test.YtlaanjcnfindnaaVM
namespace Go.Proofs.Ytlaanjcnfindnaa
open Go.RowKit
set_option maxRecDepth 100000
set_option maxHeartbeats 1000000

theorem U0_one2 : U0.all (·.oneCell') = true := by decide +kernel
theorem pads_law (hT : TypesP) (hKn : Kn) (n : Int) (a1 : Option Addr) (cap1 : Nat) (ls : List Bool) (x2 : BitVec 8) (hc1 : ls.length ≤ cap1) (w : World) (hw : Gt w) (hbs : CellsAt w a1 (ls.map .bool)) : Calls Try.prog 8 [I n, .slice a1 ls.length cap1, U8 x2].toArray w (fun e w' => e = .returned (.bool true) ∧ Grow w w') := by
  have hGF : BOk Gt (pl w) := gt_low.plain hw
  refine calls_of_X (G := Gt) Try.func8 rfl rfl (Hp (pl w) []) (hp_refl (pl w) trivial rides_true) (good_hp hGF) ?_
  refine xs_plain (E := EE []) ?_
  refine lx_assign rfl rfl rfl ?_
  refine lx_nil ?_
  refine x_seq ?_
  refine xs_plain (E := EE []) ?_
  refine lx_callC rfl rfl ent9 (fun w1 _ hG => hKn w1 hG) rfl rfl ?_
  refine lx_un rfl (fun _ => un_not _) rfl rfl ?_
  refine lx_nil ?_
  refine x_false rfl ?_
  refine x_skip ?_
  refine xs_plain (E := EE [29]) ?_
  refine lx_move rfl rfl rfl ?_
  refine lx_callW gt_low (M := fun _ => False) (fun k h => h.elim) rfl rfl ent29 rfl rfl hGF (Q := fun w1 w2 v => ∃ k : Nat, v = I (k : Int) ∧ k < 40) (fun w1 h1 g1 => (plc_calls n 40 (by decide) (by decide) w1 g1).mono fun e w2 ⟨k, q1, q2, q3⟩ => ⟨_, q1, grow_mm q3, k, rfl, q2⟩) (fun w1 w2 v hg1 hm1 g2 hq => ?_)
  obtain ⟨k, rfl, hk⟩ := hq
  have hW : Grow w w2 := hg1.trans (hm1.grow (fun _ _ h => h))
  have hGF := gt_low.plain g2
  clear hg1 hm1
  refine lx_bin (v := I ((k + 1 : Nat) : Int)) rfl rfl (fun _ => rfl) (fun _ => (bin_add_i _ _ _ (by unfold inI; omega)).trans (by congr 2; omega)) rfl rfl ?_
  obtain ⟨m, hm⟩ : ∃ m, k + 1 = m := ⟨_, rfl⟩
  rw [hm]
  have hm1 : 1 ≤ m ∧ m ≤ 40 := by omega
  clear hm hk
  obtain ⟨j, hj⟩ : ∃ j, min ls.length m = j := ⟨_, rfl⟩
  refine lx_assign rfl rfl rfl ?_
  refine lx_nil ?_
  refine xs_plain (E := EE []) ?_
  refine lx_allocr 7 hGF zvU rfl rfl ?_
  intro b7
  refine lx_nil ?_
  refine x_now0 gt_low (fun w0 hC g0 => ?_)
  have ho7 := (hC.own 7 _ _ _ rfl).1
  have h7w := (hC.own 7 _ _ _ rfl).2.elim id False.elim
  have hb0 := hp_below hC
  have hWb := hW
  have hW0 := hW.trans hb0
  have hW := hW0
  have h7l := ho7.lt
  have hGF := gt_low.plain g0
  refine xs_plain (E := EE []) ?_
  refine lx_move rfl rfl rfl ?_
  refine lx_move rfl rfl rfl ?_
  refine lx_len rfl (fun _ => len_slice Try.underlying34 _ _ _ _) rfl rfl ?_
  refine lx_move rfl rfl rfl ?_
  refine lx_min (z := (j : Int)) rfl rfl (by split <;> omega) rfl rfl ?_
  refine lx_slsl (l := 0) (h' := j) rfl Try.underlying34 Try.sizeOf4 rfl rfl ⟨Nat.zero_le _, by omega⟩ rfl rfl ?_
  rw [cutS, Nat.sub_zero, Nat.sub_zero]
  refine lx_appX (xs := []) (ys := (ls.take j).map .bool) (nx := 0) (ny := j) gt_low (fun w' h => hGF.g _ _ _ h) rfl rfl tiB rfl (fun w' h => .inl ⟨rfl, rfl, rfl, rfl⟩) (fun k _ => Nat.zero_le k) (fun w' h i hi hz hs hb => ASrc.of Try.underlying34 hi hz (by rw [hs]; exact src_cells Try.underlying34 (by decide) (by rw [List.length_map, List.length_take]; omega) (by rw [List.map_take]; exact (hbs.grow (hW.trans (hp_below h))).take _) (bools_one _))) (by omega) (by omega) rfl rfl (fun w3a w3 a1' c1' hC3 g3 hm3 hs3 ho3 => ?_)
  have hr3 := (hp_below hC3).trans (hm3.grow (fun k _ hk => by obtain ⟨_, e, _⟩ := hk; cases e))
  have hn3 : New w0 a1' := fun ad e => (ho3 ad.block ⟨ad, e, rfl⟩).elim (fun ⟨_, e2, _⟩ => by cases e2) (fun h => Nat.le_trans (hp_below hC3).size h)
  have ho7 := ho7.grow hr3
  have hW := hW.trans hr3
  have hGF := gt_low.plain g3
  rw [Nat.zero_add, List.nil_append] at hs3
  rw [Nat.zero_add]
  clear hm3 ho3 hC3
  refine lx_move rfl rfl rfl ?_
  refine lx_move rfl rfl rfl ?_
  refine lx_len rfl (fun _ => len_slice Try.underlying34 _ _ _ _) rfl rfl ?_
  refine lx_move rfl rfl rfl ?_
  refine lx_min (z := (j : Int)) rfl rfl (by split <;> omega) rfl rfl ?_
  refine lx_bin (v := I (((m - j : Nat) : Int))) rfl rfl (fun _ => rfl) (fun _ => (bin_sub_i _ _ _ (by unfold inI; omega)).trans (by congr 2; omega)) rfl rfl ?_
  refine lx_appX (xs := (ls.take j).map .bool) (ys := (Builtin.zeroCells (Value.bool false).cells (m - j)).toList) (nx := j) (ny := m - j) gt_low (fun w' h => hGF.g _ _ _ h) rfl rfl tiB rfl (fun w' h => hs3.grow (hp_below h)) (fun k _ => Nat.zero_le k) (fun w' h i hi hz hs hb => ASrc.zeros (n := m - j) (w := w') Try.underlying34 Try.underlying3 hi hz (by rw [hs]; rfl) (by rw [hs]; decide) (zb_one _) (by omega) (by rw [hb]; omega)) (by omega) (by omega) rfl rfl (fun w4a w4 a2 c2 hC4 g4 hm4 hs4 ho4 => ?_)
  have hr4 := hm4.grow0 (hr3.trans (hp_below hC4)) (fun k ⟨ad, e, hk⟩ => hk ▸ hn3 ad e)
  have hn4 : New w0 a2 := fun ad e => (ho4 ad.block ⟨ad, e, rfl⟩).elim (fun ⟨ad2, e2, h2⟩ => h2 ▸ hn3 ad2 e2) (fun h => Nat.le_trans (Nat.le_trans hr3.size (hp_below hC4).size) h)
  have ho7 := hm4.own (ho7.grow (hp_below hC4)) (fun ⟨ad, e, hk⟩ => by have := hn3 ad e; omega)
  have hW := hW0.trans hr4
  have hGF := gt_low.plain g4
  obtain ⟨L, hL⟩ : ∃ L, clip ls m = L := ⟨_, rfl⟩
  have hLm : L.length = m := by rw [← hL, clip_len]
  have hs4 := slv1 hs4
  rw [zb_list, ← hj, ← clip_map, hL] at hs4
  rw [show j + (m - j) = L.length by omega]
  refine lx_fak 597 rfl Try.underlying40 rfl Try.sizeOf38 (by decide) rfl rfl rfl ?_
  refine lx_fak 597 rfl Try.underlying38 rfl Try.sizeOf34 (by decide) rfl rfl rfl ?_
  refine lx_st1W gt_low (fun w' h => hGF.g _ _ _ h) (fun w' h => ho7.grow (hp_below h)) (Nat.zero_le _) rfl rfl Try.sizeOf34 rfl (by rw [U0_len]; decide) rfl (fun w5a w5 hC5 g5 hm5 ho7 => ?_)
  rw [uz_cs] at ho7
  have hr5 := hm5.grow0 (hb0.trans (hr4.trans (hp_below hC5))) (fun k hk => hk ▸ h7w)
  have hW := hWb.trans hr5
  have hbL : CellsAt w5 a2 (L.map .bool) := hm5.cells (hs4.cells.grow (hp_below hC5)) (fun ad e h => by have := hn4 ad e; omega)
  have hGF := gt_low.plain g5
  clear hs4 hm5 hm4 hs3 ho4
  refine lx_nil ?_
  refine xs_plain (E := EE [16]) ?_
  refine lx_loadr (cs := (uz L a2 c2).cs) rfl Try.isAgg40 Try.sizeOf40 (Up.len (uz_ok L a2 c2)) (fun w' h => (ho7.grow (hp_below h)).range) rfl rfl ?_
  refine lx_callW gt_low (M := fun _ => False) (fun k h => h.elim) rfl rfl ent16 rfl rfl hGF (Q := fun w1 w2 v => Fr8 w1 w2 v (uz L a2 c2).opt) (fun w1 h1 g1 => (hT.encO (uz L a2 c2) (uz_ok L a2 c2) (show 0 ≤ 1000 by decide) (show L.length ≤ 1000 by omega) w1 g1 (fun i r h => by cases h) (hbL.grow h1)).mono fun e w2 ⟨v, q1, q2, q3⟩ => ⟨v, q1, grow_mm q2, q3⟩) (fun w6a w6 v hg6 hm6 g6 hq => ?_)
  have hol := uz_len L a2 c2
  have hr6 := hg6.trans (hm6.grow (fun _ _ h => h))
  obtain ⟨a8, k8, rfl, hs8, hn8⟩ := hq
  obtain ⟨b8, c8, rfl, ho8, hcl8, hct8⟩ := slv_some hs8 (Hd.by_ne _ _)
  have h80 : w5.heap.size ≤ b8 := Nat.le_trans hg6.size (hn8 _ rfl)
  have hle8 : (uz L a2 c2).opt.length ≤ k8 := by have := hs8.le; rwa [List.length_map] at this
  have hW5 := hW
  have hW := hW.trans hr6
  have hGF := gt_low.plain g6
  clear hm6 hg6 hn8
  refine lx_assign rfl rfl rfl ?_
  refine lx_nil ?_
  refine xs_plain (E := EE []) ?_
  refine lx_move rfl rfl rfl ?_
  refine lx_bin (v := I (((m - 1 : Nat) : Int))) rfl rfl (fun _ => rfl) (fun _ => (bin_sub_i _ _ _ (by unfold inI; omega)).trans (by congr 2; omega)) rfl rfl ?_
  refine lx_bin (v := I ((((m - 1) / 8 : Nat) : Int))) rfl rfl (fun _ => rfl) (fun _ => (bin_quo_i _ _ _ (by omega) (by unfold inI; rw [Int.tdiv_eq_ediv_of_nonneg (by omega)]; omega)).trans (by rw [Int.tdiv_eq_ediv_of_nonneg (by omega)]; rfl)) rfl rfl ?_
  refine lx_bin (v := I (((112 + (m - 1) / 8 : Nat) : Int))) rfl rfl (fun _ => rfl) (fun _ => (bin_add_i _ _ _ (by unfold inI; omega)).trans (by congr 2)) rfl rfl ?_
  refine lx_assign rfl rfl rfl ?_
  refine lx_nil ?_
  refine x_seq ?_
  refine xs_plain (E := EE []) ?_
  refine lx_move rfl rfl rfl ?_
  refine lx_len rfl (fun _ => len_slice Try.underlying46 _ _ _ _) rfl rfl ?_
  refine lx_move rfl rfl rfl ?_
  refine lx_binB false rfl rfl (fun _ => rfl) (fun _ => bin_leq_i _ _ _) (by rw [hol]; unfold szB; simp; omega) rfl rfl ?_
  refine lx_nil ?_
  refine x_false rfl ?_
  refine x_skip ?_
  refine x_seq ?_
  refine xs_plain (E := EE []) ?_
  refine lx_move rfl rfl rfl ?_
  refine lx_bin (v := I (((m % 8 : Nat) : Int))) rfl rfl (fun _ => rfl) (fun _ => (bin_rem_i _ _ _ (by omega)).trans (by rw [Int.tmod_eq_emod_of_nonneg (by omega)]; rfl)) rfl rfl ?_
  by_cases h8 : m % 8 = 0
  · skip
    refine lx_binB true rfl rfl (fun _ => rfl) (fun _ => bin_eql_i _ _ _) (by rw [h8]; rfl) rfl rfl ?_
    refine lx_nil ?_
    refine x_true rfl ?_
    refine x_plain (E := EE []) ?_
    refine lx_assign rfl rfl rfl ?_
    refine lx_nil ?_
    refine xs_drawn (E := EE []) mixed (by kernel_rfl) (by kernel_rfl) (by kernel_rfl) ?_
    refine lx_move rfl rfl rfl ?_
    refine lx_move rfl rfl rfl ?_
    refine lx_is0 (112 + (m - 1) / 8) rfl rfl Try.underlying46 Try.sizeOf5 rfl (by rw [hol]; unfold szB; omega) rfl rfl ?_
    have hx5 : c8[112 + (m - 1) / 8]? = some (U8 ((uz L a2 c2).opt.getD (112 + (m - 1) / 8) 0#8)) := by
      have e : (c8.take (uz L a2 c2).opt.length)[112 + (m - 1) / 8]? = some (U8 ((uz L a2 c2).opt.getD (112 + (m - 1) / 8) 0#8)) := by rw [hct8]; exact gm U8 _ 0#8 _ (by rw [hol]; unfold szB; omega)
      rw [List.getElem?_take, if_pos (by rw [hol]; unfold szB; omega)] at e
      exact e
    refine lx_load (v := U8 ((uz L a2 c2).opt.getD (112 + (m - 1) / 8) 0#8)) rfl Try.isAgg5 (fun w' h => ((ho8.grow (hp_below h)).cell (112 + (m - 1) / 8)).trans hx5) rfl rfl ?_
    refine lx_move rfl rfl rfl ?_
    refine lx_move rfl rfl rfl ?_
    refine lx_bin (v := I (((m % 8 : Nat) : Int))) rfl rfl (fun _ => rfl) (fun _ => (bin_rem_i _ _ _ (by omega)).trans (by rw [Int.tmod_eq_emod_of_nonneg (by omega)]; rfl)) rfl rfl ?_
    refine lx_bin (v := U8 (0#8 >>> (m % 8))) rfl rfl (fun _ => rfl) (fun _ => bin_shr_i_u8 _ _ _ (by omega)) rfl rfl ?_
    refine lx_move rfl rfl rfl ?_
    refine lx_bin (v := I (((m % 8 : Nat) : Int))) rfl rfl (fun _ => rfl) (fun _ => (bin_rem_i _ _ _ (by omega)).trans (by rw [Int.tmod_eq_emod_of_nonneg (by omega)]; rfl)) rfl rfl ?_
    refine lx_bin (v := U8 ((0#8 >>> (m % 8)) <<< (m % 8))) rfl rfl (fun _ => rfl) (fun _ => bin_shl_i_u8 _ _ _ (by omega)) rfl rfl ?_
    refine lx_bin rfl rfl (fun _ => rfl) (fun _ => bin_or_u8 _ _ _) rfl rfl ?_
    refine lx_is0 (112 + (m - 1) / 8) rfl rfl Try.underlying46 Try.sizeOf5 rfl (by rw [hol]; unfold szB; omega) rfl rfl ?_
    refine lx_st1W gt_low (fun w' h => hGF.g _ _ _ h) (fun w' h => ho8.grow (hp_below h)) (Nat.zero_le _) rfl rfl Try.sizeOf5 rfl (by rw [hcl8]; omega) rfl (fun w8a w8 hC8 g8 hm8 ho8 => ?_)
    have hr8 := hm8.grow0 (hr6.trans (hp_below hC8)) (fun k hk => hk ▸ h80)
    have hW := hW5.trans hr8
    have hGF := gt_low.plain g8
    have hbL := hbL.grow hr8
    have ho7 := ho7.grow hr8
    have hys : BytesAt w8 (some ⟨b8, 0, none⟩) (padB L 0#8) := by
      have h1 : (c8.set (112 + (m - 1) / 8) (U8 ((uz L a2 c2).opt.getD (112 + (m - 1) / 8) 0#8 ||| (0#8 >>> (m % 8)) <<< (m % 8)))).take (uz L a2 c2).opt.length = (padB L 0#8).map U8 := by
        rw [List.take_set, hct8, set_map]
        congr 1
        have := pads_set L a2 c2 0#8 (by omega)
        rw [hLm] at this
        exact this
      exact bytes_cells (h1 ▸ (CellsAt.range ho8.range).take _)
    have hb8l := ho8.lt
    refine lx_nil ?_
    refine xs_plain (E := EE [25]) ?_
    refine lx_move rfl rfl rfl ?_
    refine lx_move rfl rfl rfl ?_
    by_cases hs0 : 0#8 >>> (m % 8) = 0#8
    · skip
      have hs0' : (0#8 >>> (m % 8) != 0#8) = false := by rw [hs0]; rfl
      have hlen : (padB L 0#8).length = sz4 L.length := pads_len L 0#8
      have hsb : sub (padB L 0#8) 112 (szB L.length) = pb L L.length := pad_yes (by rw [hLm]; exact hs0)
      have hcl : cleanB (sub (padB L 0#8) 112 (szB L.length)) L.length = true := by rw [hsb]; exact clean_pb L
      have hbt : bt (sub (padB L 0#8) 112 (szB L.length)) L.length = L := by rw [hsb]; exact bt_pb L
      have hpl : (uz L a2 c2).opt.length = (padB L 0#8).length := by rw [hlen, hol]; unfold sz4; rfl
      refine lx_callW gt_low (M := fun _ => False) (fun k h => h.elim) rfl rfl ent25 rfl rfl hGF (Q := fun w1 w2 v => ∃ ba bc, v = .tuple #[.agg (UC (hdOf (padB L 0#8)).cs Co0 ((Zs 160).map U8) Hd0.cs ((Zs 192).map U8) (Value.slice ba L.length bc :: (sub (padB L 0#8) (112 + szB L.length) 96).map U8) [U64 (pn (sub (padB L 0#8) (112 + szB L.length + 96) 8) 8)]).toArray, I 0] ∧ SlV 4 w2 ba bc (L.map .bool)) (fun w1 hx1 g1 => (by rw [hpl]; exact hT.decO (m : Int) L.length (by rw [hLm]; unfold szN; omega) (padB L 0#8) (some ⟨b8, 0, none⟩) k8 (by omega) (by rw [← hpl, hol]; unfold szB; omega) w1 g1 (hys.grow hx1) (fun ad e => by cases e; exact Nat.lt_of_lt_of_le hb8l hx1.size) : Calls Try.prog 25 _ w1 _).mono fun e w2 h => by obtain ⟨hg, x1, _, _⟩ := h; obtain ⟨ba, bc, y1, y2, _⟩ := x1 hlen hcl; rw [hbt] at y1 y2; exact ⟨_, y1, grow_mm hg, ba, bc, rfl, y2⟩) (fun w9a w9 v hg9 hm9 g9 hq => ?_)
      have hr9 := hg9.trans (hm9.grow (fun _ _ h => h))
      have hW := hW.trans hr9
      have hbL := hbL.grow hr9
      have ho7 := ho7.grow hr9
      have hGF := gt_low.plain g9
      obtain ⟨ba, bc, rfl, hba⟩ := hq
      refine lx_move rfl rfl rfl ?_
      refine lx_ext rfl rfl rfl rfl ?_
      refine lx_ext rfl rfl rfl rfl ?_
      refine lx_allocr 10 hGF zvU rfl rfl ?_
      intro b10
      refine lx_storea 10 hGF rfl rfl rfl Try.sizeOf40 (UL.len (⟨Hd.len (hdOf_ok (by rw [hlen]; unfold sz4; omega)), by decide, by decide, by decide, by decide, by simp [sub_len (show 112 + szB L.length + 96 ≤ (padB L 0#8).length by rw [hlen]; unfold sz4; omega)], rfl⟩ : UL (hdOf (padB L 0#8)).cs Co0 ((Zs 160).map U8) Hd0.cs ((Zs 192).map U8) (Value.slice ba L.length bc :: (sub (padB L 0#8) (112 + szB L.length) 96).map U8) [U64 (pn (sub (padB L 0#8) (112 + szB L.length + 96) 8) 8)])) U0_len (UC_one (Hd.one _) (by decide) (one_u8 _) (Hd.one _) (one_u8 _) (CoC_one _ _ _ _) rfl) rfl ?_
      refine lx_assign rfl rfl rfl ?_
      refine lx_nil ?_
      refine x_seq ?_
      refine xs_plain (E := EE []) ?_
      refine lx_move rfl rfl rfl ?_
      refine lx_move rfl rfl rfl ?_
      refine lx_bin (v := I (((m % 8 : Nat) : Int))) rfl rfl (fun _ => rfl) (fun _ => (bin_rem_i _ _ _ (by omega)).trans (by rw [Int.tmod_eq_emod_of_nonneg (by omega)]; rfl)) rfl rfl ?_
      refine lx_bin (v := U8 (0#8 >>> (m % 8))) rfl rfl (fun _ => rfl) (fun _ => bin_shr_i_u8 _ _ _ (by omega)) rfl rfl ?_
      refine lx_binB false rfl rfl (fun _ => rfl) (fun _ => bin_neq_u8 _ _ _) (hs0') rfl rfl ?_
      refine lx_nil ?_
      refine x_false rfl ?_
      refine x_skip ?_
      refine xs_plain (E := EE []) ?_
      refine lx_move rfl rfl rfl ?_
      refine lx_binB true rfl rfl (fun _ => rfl) (fun _ => bin_eql_i _ _ _) (by decide) rfl rfl ?_
      refine lx_move rfl rfl rfl ?_
      refine lx_fak 597 rfl Try.underlying40 rfl Try.sizeOf38 (by decide) rfl rfl rfl ?_
      refine lx_fak 597 rfl Try.underlying38 rfl Try.sizeOf34 (by decide) rfl rfl rfl ?_
      refine lx_load (v := .slice ba L.length bc) rfl Try.isAgg34 (fun w' h => (rg_at (ds := [_]) (hp_row (n := 10) rfl w' h) (one_at (UC_g5 (⟨Hd.len (hdOf_ok (by rw [hlen]; unfold sz4; omega)), by decide, by decide, by decide, by decide, by simp [sub_len (show 112 + szB L.length + 96 ≤ (padB L 0#8).length by rw [hlen]; unfold sz4; omega)], rfl⟩ : UL (hdOf (padB L 0#8)).cs Co0 ((Zs 160).map U8) Hd0.cs ((Zs 192).map U8) (Value.slice ba L.length bc :: (sub (padB L 0#8) (112 + szB L.length) 96).map U8) [U64 (pn (sub (padB L 0#8) (112 + szB L.length + 96) 8) 8)])))) 0 _ rfl) rfl rfl ?_
      refine lx_fak 597 rfl Try.underlying40 rfl Try.sizeOf38 (by decide) rfl rfl rfl ?_
      refine lx_fak 597 rfl Try.underlying38 rfl Try.sizeOf34 (by decide) rfl rfl rfl ?_
      refine lx_load (v := .slice a2 L.length c2) rfl Try.isAgg34 (fun w' h => ((ho7.grow (hp_below h)).cell 597).trans (Up.at_bits (uz_ok L a2 c2))) rfl rfl ?_
      refine lx_callC rfl rfl ent32 (fun w1 hC hG => hbi_calls L (by omega) _ _ _ _ w1 hG (hba.cells.grow (hp_below hC)) (hbL.grow (hp_below hC))) rfl rfl ?_
      refine lx_pick rfl rfl rfl rfl rfl ?_
      refine lx_assign rfl rfl rfl ?_
      refine lx_nil ?_
      refine x_ret ?_
      repeat (first | refine kseq_ret ?_ | refine kblk_ret ?_)
      exact kret_tmp rfl rfl (fun w' hw' => ⟨rfl, hW.trans (hp_below hw')⟩)
    · skip
      have hs0' : (0#8 >>> (m % 8) != 0#8) = true := bne_iff_ne.2 hs0
      have hlen : (padB L 0#8).length = sz4 L.length := pads_len L 0#8
      have hcl : cleanB (sub (padB L 0#8) 112 (szB L.length)) L.length = false := pad_no (by rw [hLm]; exact hs0) (by rw [hLm]; exact absurd (by simp) hs0)
      have hpl : (uz L a2 c2).opt.length = (padB L 0#8).length := by rw [hlen, hol]; unfold sz4; rfl
      refine lx_callW gt_low (M := fun _ => False) (fun k h => h.elim) rfl rfl ent25 rfl rfl hGF (Q := fun w1 w2 v => v = .tuple #[.agg U0.toArray, I 171]) (fun w1 hx1 g1 => (by rw [hpl]; exact hT.decO (m : Int) L.length (by rw [hLm]; unfold szN; omega) (padB L 0#8) (some ⟨b8, 0, none⟩) k8 (by omega) (by rw [← hpl, hol]; unfold szB; omega) w1 g1 (hys.grow hx1) (fun ad e => by cases e; exact Nat.lt_of_lt_of_le hb8l hx1.size) : Calls Try.prog 25 _ w1 _).mono fun e w2 h => by obtain ⟨hg, _, x2, _⟩ := h; exact ⟨_, x2 hlen hcl, grow_mm hg, rfl⟩) (fun w9a w9 v hg9 hm9 g9 hq => ?_)
      have hr9 := hg9.trans (hm9.grow (fun _ _ h => h))
      have hW := hW.trans hr9
      have hbL := hbL.grow hr9
      have ho7 := ho7.grow hr9
      have hGF := gt_low.plain g9
      obtain rfl := hq
      refine lx_move rfl rfl rfl ?_
      refine lx_ext rfl rfl rfl rfl ?_
      refine lx_ext rfl rfl rfl rfl ?_
      refine lx_allocr 10 hGF zvU rfl rfl ?_
      intro b10
      refine lx_storea 10 hGF rfl rfl rfl Try.sizeOf40 (U0_len) U0_len (U0_one2) rfl ?_
      refine lx_assign rfl rfl rfl ?_
      refine lx_nil ?_
      refine x_seq ?_
      refine xs_plain (E := EE []) ?_
      refine lx_move rfl rfl rfl ?_
      refine lx_move rfl rfl rfl ?_
      refine lx_bin (v := I (((m % 8 : Nat) : Int))) rfl rfl (fun _ => rfl) (fun _ => (bin_rem_i _ _ _ (by omega)).trans (by rw [Int.tmod_eq_emod_of_nonneg (by omega)]; rfl)) rfl rfl ?_
      refine lx_bin (v := U8 (0#8 >>> (m % 8))) rfl rfl (fun _ => rfl) (fun _ => bin_shr_i_u8 _ _ _ (by omega)) rfl rfl ?_
      refine lx_binB true rfl rfl (fun _ => rfl) (fun _ => bin_neq_u8 _ _ _) (hs0') rfl rfl ?_
      refine lx_nil ?_
      refine x_true rfl ?_
      refine xs_plain (E := EE []) ?_
      refine lx_move rfl rfl rfl ?_
      refine lx_binB true rfl rfl (fun _ => rfl) (fun _ => bin_eql_i _ _ _) (by decide) rfl rfl ?_
      refine lx_move rfl rfl rfl ?_
      refine lx_fak 597 rfl Try.underlying40 rfl Try.sizeOf38 (by decide) rfl rfl rfl ?_
      refine lx_fak 597 rfl Try.underlying38 rfl Try.sizeOf34 (by decide) rfl rfl rfl ?_
      refine lx_load (v := .slice none 0 0) rfl Try.isAgg34 (fun w' h => (rg_at (ds := [_]) (hp_row (n := 10) rfl w' h) (one_at (UC_g5 U0_ul))) 0 _ rfl) rfl rfl ?_
      refine lx_len rfl (fun _ => len_slice Try.underlying34 _ _ _ _) rfl rfl ?_
      refine lx_binB true rfl rfl (fun _ => rfl) (fun _ => bin_eql_i _ _ _) (by decide) rfl rfl ?_
      refine lx_pick rfl rfl rfl rfl rfl ?_
      refine lx_assign rfl rfl rfl ?_
      refine lx_nil ?_
      refine x_ret ?_
      repeat (first | refine kseq_ret ?_ | refine kblk_ret ?_)
      exact kret_tmp rfl rfl (fun w' hw' => ⟨rfl, hW.trans (hp_below hw')⟩)
  · skip
    refine lx_binB false rfl rfl (fun _ => rfl) (fun _ => bin_eql_i _ _ _) (beq_eq_false_iff_ne.2 (by omega)) rfl rfl ?_
    refine lx_nil ?_
    refine x_false rfl ?_
    refine x_skip ?_
    refine xs_drawn (E := EE []) mixed (by kernel_rfl) (by kernel_rfl) (by kernel_rfl) ?_
    refine lx_move rfl rfl rfl ?_
    refine lx_move rfl rfl rfl ?_
    refine lx_is0 (112 + (m - 1) / 8) rfl rfl Try.underlying46 Try.sizeOf5 rfl (by rw [hol]; unfold szB; omega) rfl rfl ?_
    have hx5 : c8[112 + (m - 1) / 8]? = some (U8 ((uz L a2 c2).opt.getD (112 + (m - 1) / 8) 0#8)) := by
      have e : (c8.take (uz L a2 c2).opt.length)[112 + (m - 1) / 8]? = some (U8 ((uz L a2 c2).opt.getD (112 + (m - 1) / 8) 0#8)) := by rw [hct8]; exact gm U8 _ 0#8 _ (by rw [hol]; unfold szB; omega)
      rw [List.getElem?_take, if_pos (by rw [hol]; unfold szB; omega)] at e
      exact e
    refine lx_load (v := U8 ((uz L a2 c2).opt.getD (112 + (m - 1) / 8) 0#8)) rfl Try.isAgg5 (fun w' h => ((ho8.grow (hp_below h)).cell (112 + (m - 1) / 8)).trans hx5) rfl rfl ?_
    refine lx_move rfl rfl rfl ?_
    refine lx_move rfl rfl rfl ?_
    refine lx_bin (v := I (((m % 8 : Nat) : Int))) rfl rfl (fun _ => rfl) (fun _ => (bin_rem_i _ _ _ (by omega)).trans (by rw [Int.tmod_eq_emod_of_nonneg (by omega)]; rfl)) rfl rfl ?_
    refine lx_bin (v := U8 (x2 >>> (m % 8))) rfl rfl (fun _ => rfl) (fun _ => bin_shr_i_u8 _ _ _ (by omega)) rfl rfl ?_
    refine lx_move rfl rfl rfl ?_
    refine lx_bin (v := I (((m % 8 : Nat) : Int))) rfl rfl (fun _ => rfl) (fun _ => (bin_rem_i _ _ _ (by omega)).trans (by rw [Int.tmod_eq_emod_of_nonneg (by omega)]; rfl)) rfl rfl ?_
    refine lx_bin (v := U8 ((x2 >>> (m % 8)) <<< (m % 8))) rfl rfl (fun _ => rfl) (fun _ => bin_shl_i_u8 _ _ _ (by omega)) rfl rfl ?_
    refine lx_bin rfl rfl (fun _ => rfl) (fun _ => bin_or_u8 _ _ _) rfl rfl ?_
    refine lx_is0 (112 + (m - 1) / 8) rfl rfl Try.underlying46 Try.sizeOf5 rfl (by rw [hol]; unfold szB; omega) rfl rfl ?_
    refine lx_st1W gt_low (fun w' h => hGF.g _ _ _ h) (fun w' h => ho8.grow (hp_below h)) (Nat.zero_le _) rfl rfl Try.sizeOf5 rfl (by rw [hcl8]; omega) rfl (fun w8a w8 hC8 g8 hm8 ho8 => ?_)
    have hr8 := hm8.grow0 (hr6.trans (hp_below hC8)) (fun k hk => hk ▸ h80)
    have hW := hW5.trans hr8
    have hGF := gt_low.plain g8
    have hbL := hbL.grow hr8
    have ho7 := ho7.grow hr8
    have hys : BytesAt w8 (some ⟨b8, 0, none⟩) (padB L x2) := by
      have h1 : (c8.set (112 + (m - 1) / 8) (U8 ((uz L a2 c2).opt.getD (112 + (m - 1) / 8) 0#8 ||| (x2 >>> (m % 8)) <<< (m % 8)))).take (uz L a2 c2).opt.length = (padB L x2).map U8 := by
        rw [List.take_set, hct8, set_map]
        congr 1
        have := pads_set L a2 c2 x2 (by omega)
        rw [hLm] at this
        exact this
      exact bytes_cells (h1 ▸ (CellsAt.range ho8.range).take _)
    have hb8l := ho8.lt
    refine lx_nil ?_
    refine xs_plain (E := EE [25]) ?_
    refine lx_move rfl rfl rfl ?_
    refine lx_move rfl rfl rfl ?_
    by_cases hs0 : x2 >>> (m % 8) = 0#8
    · skip
      have hs0' : (x2 >>> (m % 8) != 0#8) = false := by rw [hs0]; rfl
      have hlen : (padB L x2).length = sz4 L.length := pads_len L x2
      have hsb : sub (padB L x2) 112 (szB L.length) = pb L L.length := pad_yes (by rw [hLm]; exact hs0)
      have hcl : cleanB (sub (padB L x2) 112 (szB L.length)) L.length = true := by rw [hsb]; exact clean_pb L
      have hbt : bt (sub (padB L x2) 112 (szB L.length)) L.length = L := by rw [hsb]; exact bt_pb L
      have hpl : (uz L a2 c2).opt.length = (padB L x2).length := by rw [hlen, hol]; unfold sz4; rfl
      refine lx_callW gt_low (M := fun _ => False) (fun k h => h.elim) rfl rfl ent25 rfl rfl hGF (Q := fun w1 w2 v => ∃ ba bc, v = .tuple #[.agg (UC (hdOf (padB L x2)).cs Co0 ((Zs 160).map U8) Hd0.cs ((Zs 192).map U8) (Value.slice ba L.length bc :: (sub (padB L x2) (112 + szB L.length) 96).map U8) [U64 (pn (sub (padB L x2) (112 + szB L.length + 96) 8) 8)]).toArray, I 0] ∧ SlV 4 w2 ba bc (L.map .bool)) (fun w1 hx1 g1 => (by rw [hpl]; exact hT.decO (m : Int) L.length (by rw [hLm]; unfold szN; omega) (padB L x2) (some ⟨b8, 0, none⟩) k8 (by omega) (by rw [← hpl, hol]; unfold szB; omega) w1 g1 (hys.grow hx1) (fun ad e => by cases e; exact Nat.lt_of_lt_of_le hb8l hx1.size) : Calls Try.prog 25 _ w1 _).mono fun e w2 h => by obtain ⟨hg, x1, _, _⟩ := h; obtain ⟨ba, bc, y1, y2, _⟩ := x1 hlen hcl; rw [hbt] at y1 y2; exact ⟨_, y1, grow_mm hg, ba, bc, rfl, y2⟩) (fun w9a w9 v hg9 hm9 g9 hq => ?_)
      have hr9 := hg9.trans (hm9.grow (fun _ _ h => h))
      have hW := hW.trans hr9
      have hbL := hbL.grow hr9
      have ho7 := ho7.grow hr9
      have hGF := gt_low.plain g9
      obtain ⟨ba, bc, rfl, hba⟩ := hq
      refine lx_move rfl rfl rfl ?_
      refine lx_ext rfl rfl rfl rfl ?_
      refine lx_ext rfl rfl rfl rfl ?_
      refine lx_allocr 10 hGF zvU rfl rfl ?_
      intro b10
      refine lx_storea 10 hGF rfl rfl rfl Try.sizeOf40 (UL.len (⟨Hd.len (hdOf_ok (by rw [hlen]; unfold sz4; omega)), by decide, by decide, by decide, by decide, by simp [sub_len (show 112 + szB L.length + 96 ≤ (padB L x2).length by rw [hlen]; unfold sz4; omega)], rfl⟩ : UL (hdOf (padB L x2)).cs Co0 ((Zs 160).map U8) Hd0.cs ((Zs 192).map U8) (Value.slice ba L.length bc :: (sub (padB L x2) (112 + szB L.length) 96).map U8) [U64 (pn (sub (padB L x2) (112 + szB L.length + 96) 8) 8)])) U0_len (UC_one (Hd.one _) (by decide) (one_u8 _) (Hd.one _) (one_u8 _) (CoC_one _ _ _ _) rfl) rfl ?_
      refine lx_assign rfl rfl rfl ?_
      refine lx_nil ?_
      refine x_seq ?_
      refine xs_plain (E := EE []) ?_
      refine lx_move rfl rfl rfl ?_
      refine lx_move rfl rfl rfl ?_
      refine lx_bin (v := I (((m % 8 : Nat) : Int))) rfl rfl (fun _ => rfl) (fun _ => (bin_rem_i _ _ _ (by omega)).trans (by rw [Int.tmod_eq_emod_of_nonneg (by omega)]; rfl)) rfl rfl ?_
      refine lx_bin (v := U8 (x2 >>> (m % 8))) rfl rfl (fun _ => rfl) (fun _ => bin_shr_i_u8 _ _ _ (by omega)) rfl rfl ?_
      refine lx_binB false rfl rfl (fun _ => rfl) (fun _ => bin_neq_u8 _ _ _) (hs0') rfl rfl ?_
      refine lx_nil ?_
      refine x_false rfl ?_
      refine x_skip ?_
      refine xs_plain (E := EE []) ?_
      refine lx_move rfl rfl rfl ?_
      refine lx_binB true rfl rfl (fun _ => rfl) (fun _ => bin_eql_i _ _ _) (by decide) rfl rfl ?_
      refine lx_move rfl rfl rfl ?_
      refine lx_fak 597 rfl Try.underlying40 rfl Try.sizeOf38 (by decide) rfl rfl rfl ?_
      refine lx_fak 597 rfl Try.underlying38 rfl Try.sizeOf34 (by decide) rfl rfl rfl ?_
      refine lx_load (v := .slice ba L.length bc) rfl Try.isAgg34 (fun w' h => (rg_at (ds := [_]) (hp_row (n := 10) rfl w' h) (one_at (UC_g5 (⟨Hd.len (hdOf_ok (by rw [hlen]; unfold sz4; omega)), by decide, by decide, by decide, by decide, by simp [sub_len (show 112 + szB L.length + 96 ≤ (padB L x2).length by rw [hlen]; unfold sz4; omega)], rfl⟩ : UL (hdOf (padB L x2)).cs Co0 ((Zs 160).map U8) Hd0.cs ((Zs 192).map U8) (Value.slice ba L.length bc :: (sub (padB L x2) (112 + szB L.length) 96).map U8) [U64 (pn (sub (padB L x2) (112 + szB L.length + 96) 8) 8)])))) 0 _ rfl) rfl rfl ?_
      refine lx_fak 597 rfl Try.underlying40 rfl Try.sizeOf38 (by decide) rfl rfl rfl ?_
      refine lx_fak 597 rfl Try.underlying38 rfl Try.sizeOf34 (by decide) rfl rfl rfl ?_
      refine lx_load (v := .slice a2 L.length c2) rfl Try.isAgg34 (fun w' h => ((ho7.grow (hp_below h)).cell 597).trans (Up.at_bits (uz_ok L a2 c2))) rfl rfl ?_
      refine lx_callC rfl rfl ent32 (fun w1 hC hG => hbi_calls L (by omega) _ _ _ _ w1 hG (hba.cells.grow (hp_below hC)) (hbL.grow (hp_below hC))) rfl rfl ?_
      refine lx_pick rfl rfl rfl rfl rfl ?_
      refine lx_assign rfl rfl rfl ?_
      refine lx_nil ?_
      refine x_ret ?_
      repeat (first | refine kseq_ret ?_ | refine kblk_ret ?_)
      exact kret_tmp rfl rfl (fun w' hw' => ⟨rfl, hW.trans (hp_below hw')⟩)
    · skip
      have hs0' : (x2 >>> (m % 8) != 0#8) = true := bne_iff_ne.2 hs0
      have hlen : (padB L x2).length = sz4 L.length := pads_len L x2
      have hcl : cleanB (sub (padB L x2) 112 (szB L.length)) L.length = false := pad_no (by rw [hLm]; exact hs0) (by rw [hLm]; exact h8)
      have hpl : (uz L a2 c2).opt.length = (padB L x2).length := by rw [hlen, hol]; unfold sz4; rfl
      refine lx_callW gt_low (M := fun _ => False) (fun k h => h.elim) rfl rfl ent25 rfl rfl hGF (Q := fun w1 w2 v => v = .tuple #[.agg U0.toArray, I 171]) (fun w1 hx1 g1 => (by rw [hpl]; exact hT.decO (m : Int) L.length (by rw [hLm]; unfold szN; omega) (padB L x2) (some ⟨b8, 0, none⟩) k8 (by omega) (by rw [← hpl, hol]; unfold szB; omega) w1 g1 (hys.grow hx1) (fun ad e => by cases e; exact Nat.lt_of_lt_of_le hb8l hx1.size) : Calls Try.prog 25 _ w1 _).mono fun e w2 h => by obtain ⟨hg, _, x2, _⟩ := h; exact ⟨_, x2 hlen hcl, grow_mm hg, rfl⟩) (fun w9a w9 v hg9 hm9 g9 hq => ?_)
      have hr9 := hg9.trans (hm9.grow (fun _ _ h => h))
      have hW := hW.trans hr9
      have hbL := hbL.grow hr9
      have ho7 := ho7.grow hr9
      have hGF := gt_low.plain g9
      obtain rfl := hq
      refine lx_move rfl rfl rfl ?_
      refine lx_ext rfl rfl rfl rfl ?_
      refine lx_ext rfl rfl rfl rfl ?_
      refine lx_allocr 10 hGF zvU rfl rfl ?_
      intro b10
      refine lx_storea 10 hGF rfl rfl rfl Try.sizeOf40 (U0_len) U0_len (U0_one2) rfl ?_
      refine lx_assign rfl rfl rfl ?_
      refine lx_nil ?_
      refine x_seq ?_
      refine xs_plain (E := EE []) ?_
      refine lx_move rfl rfl rfl ?_
      refine lx_move rfl rfl rfl ?_
      refine lx_bin (v := I (((m % 8 : Nat) : Int))) rfl rfl (fun _ => rfl) (fun _ => (bin_rem_i _ _ _ (by omega)).trans (by rw [Int.tmod_eq_emod_of_nonneg (by omega)]; rfl)) rfl rfl ?_
      refine lx_bin (v := U8 (x2 >>> (m % 8))) rfl rfl (fun _ => rfl) (fun _ => bin_shr_i_u8 _ _ _ (by omega)) rfl rfl ?_
      refine lx_binB true rfl rfl (fun _ => rfl) (fun _ => bin_neq_u8 _ _ _) (hs0') rfl rfl ?_
      refine lx_nil ?_
      refine x_true rfl ?_
      refine xs_plain (E := EE []) ?_
      refine lx_move rfl rfl rfl ?_
      refine lx_binB true rfl rfl (fun _ => rfl) (fun _ => bin_eql_i _ _ _) (by decide) rfl rfl ?_
      refine lx_move rfl rfl rfl ?_
      refine lx_fak 597 rfl Try.underlying40 rfl Try.sizeOf38 (by decide) rfl rfl rfl ?_
      refine lx_fak 597 rfl Try.underlying38 rfl Try.sizeOf34 (by decide) rfl rfl rfl ?_
      refine lx_load (v := .slice none 0 0) rfl Try.isAgg34 (fun w' h => (rg_at (ds := [_]) (hp_row (n := 10) rfl w' h) (one_at (UC_g5 U0_ul))) 0 _ rfl) rfl rfl ?_
      refine lx_len rfl (fun _ => len_slice Try.underlying34 _ _ _ _) rfl rfl ?_
      refine lx_binB true rfl rfl (fun _ => rfl) (fun _ => bin_eql_i _ _ _) (by decide) rfl rfl ?_
      refine lx_pick rfl rfl rfl rfl rfl ?_
      refine lx_assign rfl rfl rfl ?_
      refine lx_nil ?_
      refine x_ret ?_
      repeat (first | refine kseq_ret ?_ | refine kblk_ret ?_)
      exact kret_tmp rfl rfl (fun w' hw' => ⟨rfl, hW.trans (hp_below hw')⟩)
end Go.Proofs.Ytlaanjcnfindnaa
