/-
  The walks of the reference's Pair and of the law ShaPairs.
-/
import Derived.Test.YtkfnadpdcgcffaaDoorL3
namespace Go.Proofs.YtkfnadpdcgcffaaDoor
open Go.RowKit
set_option maxRecDepth 100000
set_option maxHeartbeats 1000000
theorem head_bytes {B : Bs} {L : Hl} {Y : Nat → Prop} {n b : Nat} {t : TypeId} {xs : List (BitVec 8)} {c : List Value} (hl : lkB L n = some (b, c, t)) (hc : c.take xs.length = xs.map U8) : ∀ w, Hq B L Y w → BytesAt w (some ⟨b, 0, none⟩) xs :=
  front_bytes (tail := c.drop xs.length) (n := n) (t := t) (by rw [← hc, List.take_append_drop]; exact hl)

theorem mpair_calls (bm : Nat) (ax bs : List (BitVec 8)) (ha : ax.length = 32) (hb : bs.length = 32) (w : World) (hw : Gt w) (ho : OwnB w bm (MK.map U32) 53) :
    Calls Tryd.prog 18 [.pointer (some ⟨bm, 0, none⟩), .agg (ax.map U8).toArray, .agg (bs.map U8).toArray].toArray w (fun e w' => e = .returned (.agg ((SHA (ax ++ bs)).map U8).toArray) ∧ Grow w w') := by
  have hGF : BOk Gt (pl w) := gt_low.plain hw
  refine calls_of_X (G := Gt) Tryd.func18 rfl rfl (Hp (pl w) []) (hp_refl (pl w) trivial rides_true) (good_hp hGF) ?_
  refine xs_plain (E := EE []) ?_
  refine lx_boxr 4 hGF rfl rfl rfl ?_
  intro b4
  refine lx_boxr 5 hGF rfl rfl rfl ?_
  intro b5
  refine lx_allocr 6 hGF zv25 rfl rfl ?_
  intro b6
  refine lx_nil ?_
  refine xs_draws (E := EE []) [0, 1, 3, 2, 4, 5, 6] mixed rfl (by kernel_rfl) (by kernel_rfl) (by kernel_rfl) ?_
  refine lx_move rfl rfl rfl ?_
  refine lx_slarr1 (l := 0) (h' := 32) rfl Tryd.underlying25 Tryd.sizeOf5 rfl rfl (by omega) (by omega) rfl rfl ?_
  refine lx_slarr1 (l := 0) (h' := 32) rfl Tryd.underlying25 Tryd.sizeOf5 rfl rfl (by omega) (by omega) rfl rfl ?_
  refine lx_append (xs := []) (ys := ax) 9 hGF rfl (by rw [ha]; rfl) Tryd.underlying22 Tryd.underlying22 ti5 (ownSl_nil _ _ _) (fun w' h => BytesAt.range (hp_row (n := 4) rfl w' h)) (by rw [ha]; decide) rfl rfl (fun h0 => absurd (congrArg List.length h0) (by simp [ha])) (fun b9 c9 cap9 e9 l9 t9 => ?_)
  subst e9
  rw [List.nil_append] at l9 t9 ⊢
  refine lx_append (xs := ax) (ys := bs) 9 hGF rfl (by rw [hb]; rfl) Tryd.underlying22 Tryd.underlying22 ti5 (.inr ⟨b9, c9, rfl, rfl, rfl, l9, t9⟩) (fun w' h => BytesAt.range (hp_row (n := 5) rfl w' h)) (by rw [ha, hb]; decide) rfl rfl (fun h0 => absurd (congrArg List.length h0) (by simp [ha])) (fun b11 c11 cap11 e11 l11 t11 => ?_)
  subst e11
  refine lx_callC rfl rfl ent12 (fun w' hw' hG => msum_any bm _ _ _ (ax ++ bs) rfl (by rw [List.length_append, ha, hb]; decide) w' hG (ho.of_same ((hp_below hw').block _ ho.lt)) (head_bytes (n := 9) rfl t11 w' hw')) rfl rfl ?_
  refine lx_storea 6 hGF rfl rfl rfl Tryd.sizeOf25 (by rw [List.length_map, SHA_len _]) (by rw [List.length_map, List.length_replicate]) (one_u8 _) rfl ?_
  refine lx_nil ?_
  refine x_ret ?_
  repeat (first | refine kseq_ret ?_ | refine kblk_ret ?_)
  exact kret_own 6 rfl rfl rfl Tryd.isAgg25 Tryd.sizeOf25 (by rw [List.length_map, SHA_len]) (fun w hw => ⟨rfl, hp_below hw⟩)
theorem pairs_calls (ax bs : List (BitVec 8)) (ha : ax.length = 32) (hb : bs.length = 32) (w : World) (hw : Gt w) :
    Calls Tryd.prog 5 [.agg (ax.map U8).toArray, .agg (bs.map U8).toArray].toArray w (fun e w' => e = .returned (.bool true) ∧ Grow w w') := by
  have hGF : BOk Gt (pl w) := gt_low.plain hw
  refine calls_of_X (G := Gt) Tryd.func5 rfl rfl (Hp (pl w) []) (hp_refl (pl w) trivial rides_true) (good_hp hGF) ?_
  refine xs_plain (E := EE [11, 2000011]) ?_
  refine lx_boxr 2 hGF rfl rfl rfl ?_
  intro b2
  refine lx_boxr 3 hGF rfl rfl rfl ?_
  intro b3
  refine lx_assign rfl rfl rfl ?_
  refine lx_nil ?_
  refine x_seq ?_
  refine xs_plain (E := EE [11, 2000011]) ?_
  refine lx_call rfl rfl ent8 (known_pure) rfl rfl ?_
  refine lx_un (v := .bool false) rfl (fun _ => un_not _) rfl rfl ?_
  refine lx_nil ?_
  refine x_false rfl ?_
  refine x_skip ?_
  refine xs_draws (E := EE [11, 2000011]) [0, 1, 2, 3, 4, 5, 6, 7, 8, 9, 10, 11, 13, 14, 12, 15, 16, 17, 18] mixed rfl (by kernel_rfl) (by kernel_rfl) (by kernel_rfl) ?_
  refine lx_loada 2 rfl rfl Tryd.isAgg25 Tryd.sizeOf25 (by rw [List.length_map, ha]) rfl rfl ?_
  refine lx_loada 3 rfl rfl Tryd.isAgg25 Tryd.sizeOf25 (by rw [List.length_map, hb]) rfl rfl ?_
  refine lx_call rfl rfl ent17 (pair_pure ax bs ha hb) rfl rfl ?_
  refine lx_slarr1 (l := 0) (h' := 32) rfl Tryd.underlying25 Tryd.sizeOf5 rfl rfl (by omega) (by omega) rfl rfl ?_
  refine lx_slarr1 (l := 0) (h' := 32) rfl Tryd.underlying25 Tryd.sizeOf5 rfl rfl (by omega) (by omega) rfl rfl ?_
  refine lx_appendF (xs := ax) (ys := bs) 12 hGF (by rw [ha]; rfl) (by rw [hb]; rfl) Tryd.underlying22 Tryd.underlying22 ti5 (fun w' h => BytesAt.range (hp_row (n := 2) rfl w' h)) (fun w' h => BytesAt.range (hp_row (n := 3) rfl w' h)) (by rw [ha, hb]; decide) (by rw [ha, hb]; decide) rfl rfl (fun b12 c12 cap12 e12 l12 t12 => ?_)
  subst e12
  refine lx_callC rfl rfl ent10 (fun w' hw' hG => sum_any _ _ _ (ax ++ bs) rfl l12 w' hG (head_bytes (n := 12) rfl t12 w' hw')) rfl rfl ?_
  refine lx_bin (v := .bool true) rfl rfl (fun w => eqg25 _ _ _ _ _ w) (fun w => bin_eq_row Tryd.underlying25 Tryd.underlying5 Tryd.sizeOf5 Tryd.isAgg5 (SHA (ax ++ bs)) (SHA_len _) w) rfl rfl ?_
  refine lx_move rfl rfl rfl ?_
  refine lx_loada 2 rfl rfl Tryd.isAgg25 Tryd.sizeOf25 (by rw [List.length_map, ha]) rfl rfl ?_
  refine lx_loada 3 rfl rfl Tryd.isAgg25 Tryd.sizeOf25 (by rw [List.length_map, hb]) rfl rfl ?_
  refine lx_call rfl rfl ent17 (pair_pure ax bs ha hb) rfl rfl ?_
  refine lx_loada 2 rfl rfl Tryd.isAgg25 Tryd.sizeOf25 (by rw [List.length_map, ha]) rfl rfl ?_
  refine lx_loada 3 rfl rfl Tryd.isAgg25 Tryd.sizeOf25 (by rw [List.length_map, hb]) rfl rfl ?_
  refine lx_callG rfl rfl ent11 rfl rfl (fun w' hw' => (new_calls w' (hGF.g _ _ _ hw')).mono fun e w'' h => ?_)
  obtain ⟨bm, rfl, hg, hb', hob⟩ := h
  refine ⟨_, _, rfl, good_hp hGF, hw'.news rides_true hg [(19, bm, MK.map U32, 53)] ?_ inj_one, hp_fresh rides_true rfl, ?_⟩
  · intro n' b' c' t' hl
    rcases lkB_cons hl with ⟨_, e⟩ | ⟨_, hl⟩
    · cases e; exact ⟨hb', hob⟩
    · cases hl
  clear hw' hg hb' hob
  refine lx_callC rfl rfl ent18 (fun w' hw' hG => mpair_calls bm ax bs ha hb w' hG (hw'.own 19 _ _ _ rfl).1) rfl rfl ?_
  refine lx_bin (v := .bool true) rfl rfl (fun w => eqg25 _ _ _ _ _ w) (fun w => bin_eq_row Tryd.underlying25 Tryd.underlying5 Tryd.sizeOf5 Tryd.isAgg5 (SHA (ax ++ bs)) (SHA_len _) w) rfl rfl ?_
  refine lx_pick rfl rfl rfl rfl rfl ?_
  refine lx_assign rfl rfl rfl ?_
  refine lx_nil ?_
  refine x_ret ?_
  repeat (first | refine kseq_ret ?_ | refine kblk_ret ?_)
  exact kret_tmp rfl rfl (fun w hw => ⟨rfl, hp_below hw⟩)
end Go.Proofs.YtkfnadpdcgcffaaDoor
