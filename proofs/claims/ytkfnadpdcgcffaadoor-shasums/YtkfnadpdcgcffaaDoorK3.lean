/-
  The walk of pharoslaw1.known.
-/
import Derived.Test.YtkfnadpdcgcffaaDoorK2
namespace Go.Proofs.YtkfnadpdcgcffaaDoor
open Go.RowKit
set_option maxRecDepth 100000
set_option maxHeartbeats 1000000
theorem zv41 : ∀ w, (zeroValue 41).run Tryd.prog w = .ok (.agg (hc (List.replicate 8 0#32) (List.replicate 64 0#8) 0#64).toArray) w := fun _ => by kernel_rfl
theorem own_ne {w : World} {b b' : Nat} {c c' : List Value} {t t' : TypeId} (h : OwnB w b c t) (h' : OwnB w b' c' t') (hn : t ≠ t') : b ≠ b' := by
  intro e
  subst e
  obtain ⟨fz, h1, _⟩ := h
  obtain ⟨fz', h2, _⟩ := h'
  rw [h1] at h2
  cases h2
  exact hn rfl
theorem gt_pos {w : World} (h : Gt w) : 0 < w.heap.size := by
  have h0 := h 0 _ rfl
  rcases Nat.eq_zero_or_pos w.heap.size with e | e
  · have hn : w.heap[0]? = none := Array.getElem?_eq_none (by omega)
    simp [World.cell?, hn] at h0
  · exact e
theorem eqg25 (op : BinOp) (x y : Operand) (xs ys : Array Value) (w : World) : (eqGuard op 25 x y (.agg xs) (.agg ys)).run Tryd.prog w = .ok () w := run_eqGuard_agg w op 25 x y xs ys (by kernel_rfl)

theorem known_pure : Pure Tryd.prog Gt 8 [] (.bool true) := by
  intro w hw
  have hGF : BOk Gt (pl w) := gt_low.plain hw
  refine calls_of_XM (G := Gt) Tryd.func8 rfl rfl (Hp (pl w) []) (hp_refl (pl w) trivial rides_true) (good_hp hGF) ?_
  refine xs_plain (E := EE [19, 22, 1000022]) ?_
  refine lx_assign rfl rfl rfl ?_
  refine lx_nil ?_
  refine xs_plain (E := EE [19, 22, 1000022]) ?_
  refine lx_bsl 5 ABC hGF rfl rfl rfl (by decide) (by decide) Tryd.underlying22 Tryd.sizeOf5 Tryd.zeroValue5 rfl rfl ?_
  intro b5
  refine lx_cvs 5 rfl hGF rfl rfl Tryd.underlying22 Tryd.underlying5 rfl rfl ?_
  refine lx_callC rfl rfl ent10 (fun w' hw' hG => sum_calls _ _ ABC (Nat.le_refl _) w' hG (BytesAt.range (hp_row (n := 5) rfl w' hw'))) rfl rfl ?_
  refine lx_allocr 1 hGF zv25 rfl rfl ?_
  intro b1
  refine lx_storea 1 hGF rfl rfl rfl Tryd.sizeOf25 (by rw [List.length_map, SHA_len _]) (by rw [List.length_map, List.length_replicate]) (one_u8 _) rfl ?_
  refine lx_nil ?_
  refine x_seq ?_
  refine xs_plain (E := EE [19, 22, 1000022]) ?_
  refine lx_ia0 (0) rfl rfl Tryd.underlying25 Tryd.sizeOf5 (by omega) (by omega) rfl rfl ?_
  refine lx_loadm 1 U8 0 rfl rfl Tryd.isAgg5 (by rw [SHA_len _]; omega) rfl rfl ?_
  refine lx_bin (v := .bool false) rfl rfl (fun _ => rfl) (fun w => (bin_neq_u8 _ _ _).trans (by rw [abc_0]; rfl)) rfl rfl ?_
  refine lx_nil ?_
  refine x_false rfl ?_
  refine x_skip ?_
  refine xs_plain (E := EE [19, 22, 1000022]) ?_
  refine lx_alloc 2 hGF Tryd.zeroValue3 rfl rfl ?_
  intro b2
  refine lx_store 2 hGF rfl rfl rfl Tryd.sizeOf3 rfl (by first | decide | simp) rfl ?_
  refine lx_nil ?_
  refine xs_plain (E := EE [19, 22, 1000022]) ?_
  refine lx_bsl 11 ABC hGF rfl rfl rfl (by decide) (by decide) Tryd.underlying22 Tryd.sizeOf5 Tryd.zeroValue5 rfl rfl ?_
  intro b11
  refine lx_cvs 11 rfl hGF rfl rfl Tryd.underlying22 Tryd.underlying5 rfl rfl ?_
  refine lx_callE rfl rfl ent22 rfl rfl (fun w' hw' => (blocks22_calls _ _ ABC (by decide) w' (hGF.g _ _ _ hw') (BytesAt.range (hp_row (n := 11) rfl w' hw'))).mono fun e w'' h => ?_)
  obtain ⟨c1, sv, rfl, hg, h1, ho, hcl⟩ := h
  rcases hcl with ⟨h0, _⟩ | ⟨b, c, cap1, rfl, hb, hob, hcc, hle, htk⟩
  · cases h0
  refine ⟨_, _, rfl, good_hp hGF, hw'.news rides_true hg [(26, c1, [.slice (some ⟨b, 0, none⟩) ABC.length cap1], 22), (32, b, c, 5)] ?_ (inj_two (own_ne ho hob (by decide))), ?_⟩
  · intro n' b' c' t' hl
    rcases lkB_cons hl with ⟨_, e⟩ | ⟨_, hl⟩
    · cases e; exact ⟨h1, ho⟩
    · rcases lkB_cons hl with ⟨_, e⟩ | ⟨_, hl⟩
      · cases e; exact ⟨hb, hob⟩
      · cases hl
  clear hw' hg h1 ho hb hob
  refine lx_assign rfl rfl rfl ?_
  refine lx_nil ?_
  refine x_seq ?_
  refine xs_plain (E := EE [19, 22, 1000022]) ?_
  refine lx_move rfl rfl rfl ?_
  refine lx_bin (v := .bool false) rfl rfl (fun _ => rfl) (fun w => bin_eq_fn Tryd.underlying46 _ _ _ w) rfl rfl ?_
  refine lx_nil ?_
  refine x_false rfl ?_
  refine x_skip ?_
  refine x_seq ?_
  refine xs_plain (E := EE [19, 22, 1000022]) ?_
  refine lx_move rfl rfl rfl ?_
  refine lx_nil ?_
  refine x_block ?_
  have hown : ∀ k : Nat, OwnSl [(1, b1, (SHA ABC).map U8, 25), (2, b2, [I k], 3), (26, c1, [.slice (some ⟨b, 0, none⟩) ABC.length cap1], 22), (32, b, c, 5)] 32 5 (some ⟨b, 0, none⟩) cap1 ABC := fun _ => .inr ⟨b, c, rfl, rfl, hcc, hle, htk⟩
  refine x_range (fun _ => pl w) (fun _ _ => pl w) (fun _ => hGF) (fun _ _ => hGF) (fun _ => rfl) (fun _ _ => rfl) rfl rfl ent33 (blocks_seq c1 (some ⟨b, 0, none⟩) cap1 ABC hle) (by simp [enc]) rfl (fun k => [(1, b1, (SHA ABC).map U8, 25), (2, b2, [I k], 3), (26, c1, [.slice (some ⟨b, 0, none⟩) ABC.length cap1], 22), (32, b, c, 5)]) (fun _ _ _ => False) ⟨rfl, rfl, rfl, rfl, trivial⟩ (fun k _ w' h => ⟨hp_cell (n := 26) rfl rfl w' h, (hown k).bytes w' h⟩) ?_ ?_ (fun _ _ _ _ _ h => h.elim)
  · intro k x hx R hR
    have hk : k < 1 := by
      rcases Nat.lt_or_ge k 1 with h | h
      · exact h
      · rw [List.getElem?_eq_none (by rw [List.length_map, abc_n]; exact h)] at hx; cases hx
    obtain ⟨bl, _, rfl⟩ := List.mem_map.1 (List.mem_of_getElem? hx)
    refine x_skip ?_
    refine ⟨rfl, _, rfl, ?_⟩
    refine x_block ?_
    refine x_plain (E := EE [19, 22, 1000022]) ?_
    refine lx_loadl 2 rfl rfl rfl Tryd.isAgg3 rfl rfl ?_
    refine lx_bin rfl rfl (fun _ => rfl) (fun _ => bin_add_i _ _ _ (by unfold inI; omega)) rfl rfl ?_
    refine lx_store 2 (hR (pl w) rfl hGF).2.1 rfl rfl rfl Tryd.sizeOf3 rfl (by first | decide | simp) rfl ?_
    refine lx_nil ?_
    exact ⟨_, rfl, ⟨rfl, rfl, rfl, rfl, trivial⟩⟩
  · intro D hD
    clear hown hcc hle htk
    refine xs_plain (E := EE [19, 22, 1000022]) ?_
    refine lx_allocr 4 hD zv41 rfl rfl ?_
    intro b4
    refine lx_nil ?_
    refine xs_plain (E := EE [19, 22, 1000022]) ?_
    refine lx_bsl 20 [97#8] hD rfl rfl rfl (by decide) (by decide) Tryd.underlying22 Tryd.sizeOf5 Tryd.zeroValue5 rfl rfl ?_
    intro b20
    refine lx_cvs 20 rfl hD rfl rfl Tryd.underlying22 Tryd.underlying5 rfl rfl ?_
    refine lx_callE rfl rfl ent19 rfl rfl (fun w' hw' => (write_calls [] [97#8] b4 _ _ _ HInv.zero (by decide) _ _ (Nat.le_refl _) w' (hD.g _ _ _ hw') (hw'.own 4 _ _ _ rfl).1 (Nat.le_trans (gt_pos hw) ((hw'.own 4 _ _ _ rfl).2.elim id False.elim)) (BytesAt.range (hp_row (n := 20) rfl w' hw')) (fun _ ad e => by cases e; exact own_ne (hw'.own 20 _ _ _ rfl).1 (hw'.own 4 _ _ _ rfl).1 (by decide))).mono fun e w'' h => ?_)
    obtain ⟨rfl, hm, st1, rs1, n1, hi1, ho⟩ := h
    refine ⟨_, _, rfl, good_hp hD, hw'.mod hD.r (n := 4) rfl hm ho, ?_⟩
    clear hw' hm ho
    refine lx_nil ?_
    refine xs_plain (E := EE [19, 22, 1000022]) ?_
    refine lx_bsl 23 [98#8, 99#8] hD rfl rfl rfl (by decide) (by decide) Tryd.underlying22 Tryd.sizeOf5 Tryd.zeroValue5 rfl rfl ?_
    intro b23
    refine lx_cvs 23 rfl hD rfl rfl Tryd.underlying22 Tryd.underlying5 rfl rfl ?_
    refine lx_callE rfl rfl ent19 rfl rfl (fun w' hw' => (write_calls [97#8] [98#8, 99#8] b4 st1 rs1 n1 hi1 (by decide) _ _ (Nat.le_refl _) w' (hD.g _ _ _ hw') (hw'.own 4 _ _ _ rfl).1 (Nat.le_trans (gt_pos hw) ((hw'.own 4 _ _ _ rfl).2.elim id False.elim)) (BytesAt.range (hp_row (n := 23) rfl w' hw')) (fun _ ad e => by cases e; exact own_ne (hw'.own 23 _ _ _ rfl).1 (hw'.own 4 _ _ _ rfl).1 (by decide))).mono fun e w'' h => ?_)
    obtain ⟨rfl, hm, st2, rs2, n2, hi2, ho⟩ := h
    refine ⟨_, _, rfl, good_hp hD, hw'.mod hD.r (n := 4) rfl hm ho, ?_⟩
    clear hw' hm ho
    refine lx_nil ?_
    refine xs_drawn (E := EE [19, 22, 1000022]) mixed (by kernel_rfl) (by kernel_rfl) (by kernel_rfl) ?_
    refine lx_ia0 (0) rfl rfl Tryd.underlying25 Tryd.sizeOf5 (by omega) (by omega) rfl rfl ?_
    refine lx_loadm 1 U8 0 rfl rfl Tryd.isAgg5 (by rw [SHA_len _]; omega) rfl rfl ?_
    refine lx_bin (v := .bool true) rfl rfl (fun _ => rfl) (fun w => (bin_eql_u8 _ _ _).trans (by rw [abc_0]; rfl)) rfl rfl ?_
    refine lx_move rfl rfl rfl ?_
    refine lx_ia0 (1) rfl rfl Tryd.underlying25 Tryd.sizeOf5 (by omega) (by omega) rfl rfl ?_
    refine lx_loadm 1 U8 0 rfl rfl Tryd.isAgg5 (by rw [SHA_len _]; omega) rfl rfl ?_
    refine lx_bin (v := .bool true) rfl rfl (fun _ => rfl) (fun w => (bin_eql_u8 _ _ _).trans (by rw [abc_1]; rfl)) rfl rfl ?_
    refine lx_pick rfl rfl rfl rfl rfl ?_
    refine lx_move rfl rfl rfl ?_
    refine lx_ia0 (31) rfl rfl Tryd.underlying25 Tryd.sizeOf5 (by omega) (by omega) rfl rfl ?_
    refine lx_loadm 1 U8 0 rfl rfl Tryd.isAgg5 (by rw [SHA_len _]; omega) rfl rfl ?_
    refine lx_bin (v := .bool true) rfl rfl (fun _ => rfl) (fun w => (bin_eql_u8 _ _ _).trans (by rw [abc_31]; rfl)) rfl rfl ?_
    refine lx_pick rfl rfl rfl rfl rfl ?_
    refine lx_move rfl rfl rfl ?_
    refine lx_loadl 2 rfl rfl rfl Tryd.isAgg3 rfl rfl ?_
    refine lx_bin (v := .bool true) rfl rfl (fun _ => rfl) (fun w => (bin_eql_i _ _ _).trans (by rw [List.length_map, abc_n]; rfl)) rfl rfl ?_
    refine lx_pick rfl rfl rfl rfl rfl ?_
    refine lx_move rfl rfl rfl ?_
    refine lx_callC rfl rfl ent21 (fun w' hw' hG => hsum_calls ABC b4 st2 rs2 n2 hi2 w' hG (hw'.own 4 _ _ _ rfl).1) rfl rfl ?_
    refine lx_loada 1 rfl rfl Tryd.isAgg25 Tryd.sizeOf25 (by rw [List.length_map, SHA_len _]) rfl rfl ?_
    refine lx_bin (v := .bool true) rfl rfl (fun w => eqg25 _ _ _ _ _ w) (fun w => bin_eq_row Tryd.underlying25 Tryd.underlying5 Tryd.sizeOf5 Tryd.isAgg5 (SHA ABC) (SHA_len _) w) rfl rfl ?_
    refine lx_pick rfl rfl rfl rfl rfl ?_
    refine lx_move rfl rfl rfl ?_
    refine lx_buildz zv25 Tryd.underlying25 Tryd.sizeOf5 rfl rfl ?_
    refine lx_buildz zv25 Tryd.underlying25 Tryd.sizeOf5 rfl rfl ?_
    refine lx_call rfl rfl ent17 (pair_pure _ _ List.length_replicate List.length_replicate) rfl rfl ?_
    refine lx_idxm U8 0 (0) rfl rfl Tryd.underlying25 Tryd.sizeOf5 Tryd.isAgg5 (by omega) (by omega) (SHA_len _) rfl rfl ?_
    refine lx_bin (v := .bool true) rfl rfl (fun _ => rfl) (fun w => (bin_eql_u8 _ _ _).trans (by rw [zero_0]; rfl)) rfl rfl ?_
    refine lx_pick rfl rfl rfl rfl rfl ?_
    refine lx_assign rfl rfl rfl ?_
    refine lx_nil ?_
    refine x_ret ?_
    repeat (first | refine kseq_ret ?_ | refine kblk_ret ?_)
    exact kretM_1 (.inl rfl) rides_true (kret_tmp rfl rfl (fun w hw => ⟨rfl, hp_below hw⟩))
end Go.Proofs.YtkfnadpdcgcffaaDoor
