/-
  The walks of pharoshelp.Bytes and of the law ShaSums.
-/
import Derived.Test.YtkfnadpdcgcffaaDoorM1
import Derived.Test.YtkfnadpdcgcffaaDoorE18
namespace Go.Proofs.YtkfnadpdcgcffaaDoor
open Go.RowKit
set_option maxRecDepth 100000
set_option maxHeartbeats 1000000
theorem sum_any (a : Option Addr) (len cap : Nat) (bs : List (BitVec 8)) (hlen : bs.length = len) (hcap : len ≤ cap) (w : World) (hw : Gt w) (hby : BytesAt w a bs) :
    Calls Tryd.prog 10 [.slice a len cap].toArray w (fun e w' => e = .returned (.agg ((SHA bs).map U8).toArray) ∧ Grow w w') := by
  subst hlen; exact sum_calls a cap bs hcap w hw hby
theorem msum_any (bm : Nat) (a : Option Addr) (len cap : Nat) (bs : List (BitVec 8)) (hlen : bs.length = len) (hl : bs.length ≤ 70368744170000) (w : World) (hw : Gt w) (ho : OwnB w bm (MK.map U32) 53) (hby : BytesAt w a bs) :
    Calls Tryd.prog 12 [.pointer (some ⟨bm, 0, none⟩), .slice a len cap].toArray w (fun e w' => e = .returned (.agg ((SHA bs).map U8).toArray) ∧ Grow w w') := by
  subst hlen; rw [← msum_sha]; exact msum_calls bm a cap bs hl w hw ho hby

theorem bytes_calls (xs : List (BitVec 8)) (a1 : Option Addr) (len1 cap1 : Nat) (a2 : Option Addr) (len2 cap2 : Nat) (hl1 : xs.length = len1) (hl2 : xs.length = len2) (w : World) (hw : Gt w) (h1 : BytesAt w a1 xs) (h2 : BytesAt w a2 xs) :
    Calls Tryd.prog 13 [.slice a1 len1 cap1, .slice a2 len2 cap2].toArray w (fun e w' => e = .returned (.bool true) ∧ Grow w w') := by
  have hGF : BOk Gt (pl w) := gt_low.plain hw
  refine calls_of_X (G := Gt) Tryd.func13 rfl rfl (Hp (pl w) []) (hp_refl (pl w) trivial rides_true) (good_hp hGF) ?_
  refine xs_plain (E := EE []) ?_
  refine lx_assign rfl rfl rfl ?_
  refine lx_nil ?_
  refine xs_plain (E := EE []) ?_
  refine lx_move rfl rfl rfl ?_
  refine lx_convr rfl rfl (fun w' hw' => conv_str Tryd.underlying22 Tryd.underlying5 Tryd.underlying9 (h1.grow (hp_below hw')) _ _ hl1) rfl rfl ?_
  refine lx_move rfl rfl rfl ?_
  refine lx_convr rfl rfl (fun w' hw' => conv_str Tryd.underlying22 Tryd.underlying5 Tryd.underlying9 (h2.grow (hp_below hw')) _ _ hl2) rfl rfl ?_
  refine lx_bin (v := .bool true) rfl rfl (fun _ => rfl) (fun w => bin_eq_str _ _ w) rfl rfl ?_
  refine lx_assign rfl rfl rfl ?_
  refine lx_nil ?_
  refine x_ret ?_
  repeat (first | refine kseq_ret ?_ | refine kblk_ret ?_)
  exact kret_tmp rfl rfl (fun w hw => ⟨rfl, hp_below hw⟩)
theorem front_bytes {B : Bs} {L : Hl} {Y : Nat → Prop} {n b : Nat} {t : TypeId} {xs : List (BitVec 8)} {tail : List Value} (hl : lkB L n = some (b, xs.map U8 ++ tail, t)) : ∀ w, Hq B L Y w → BytesAt w (some ⟨b, 0, none⟩) xs := fun w h =>
  BytesAt.range (hp_range (n := n) hl (fun j v hv => by
    rw [Nat.zero_add, List.getElem?_append_left (by
      rcases Nat.lt_or_ge j (xs.map U8).length with h | h
      · exact h
      · rw [List.getElem?_eq_none h] at hv; cases hv)]
    exact hv) w h)
theorem sums_calls (a : Option Addr) (cap : Nat) (bs : List (BitVec 8)) (w : World) (hw : Gt w) (hby : BytesAt w a bs) :
    Calls Tryd.prog 3 [.slice a bs.length cap].toArray w (fun e w' => e = .returned (.bool true) ∧ Grow w w') := by
  have hGF : BOk Gt (pl w) := gt_low.plain hw
  refine calls_of_X (G := Gt) Tryd.func3 rfl rfl (Hp (pl w) []) (hp_refl (pl w) trivial rides_true) (good_hp hGF) ?_
  rcases Nat.lt_or_ge 5000 bs.length with hA | hA
  · skip
    refine xs_plain (E := EE [9, 11, 2000011]) ?_
    refine lx_assign rfl rfl rfl ?_
    refine lx_nil ?_
    refine x_seq ?_
    refine xs_plain (E := EE [9, 11, 2000011]) ?_
    refine lx_call rfl rfl ent8 (known_pure) rfl rfl ?_
    refine lx_un (v := .bool false) rfl (fun _ => un_not _) rfl rfl ?_
    refine lx_nil ?_
    refine x_false rfl ?_
    refine x_skip ?_
    refine x_seq ?_
    refine xs_plain (E := EE [9, 11, 2000011]) ?_
    refine lx_move rfl rfl rfl ?_
    refine lx_len rfl (fun _ => len_slice Tryd.underlying22 _ _ _ _) rfl rfl ?_
    refine lx_bin (v := .bool true) rfl rfl (fun _ => rfl) (fun w => (bin_gtr_i _ _ _).trans (by rw [decide_eq_true (by omega : ((bs.length : Int) > 5000))])) rfl rfl ?_
    refine lx_nil ?_
    refine x_true rfl ?_
    refine xs_plain (E := EE [9, 11, 2000011]) ?_
    refine lx_assign rfl rfl rfl ?_
    refine lx_nil ?_
    refine x_ret ?_
    repeat (first | refine kseq_ret ?_ | refine kblk_ret ?_)
    exact kret_tmp rfl rfl (fun w hw => ⟨rfl, hp_below hw⟩)
  · skip
    refine xs_plain (E := EE [9, 11, 2000011]) ?_
    refine lx_assign rfl rfl rfl ?_
    refine lx_nil ?_
    refine x_seq ?_
    refine xs_plain (E := EE [9, 11, 2000011]) ?_
    refine lx_call rfl rfl ent8 (known_pure) rfl rfl ?_
    refine lx_un (v := .bool false) rfl (fun _ => un_not _) rfl rfl ?_
    refine lx_nil ?_
    refine x_false rfl ?_
    refine x_skip ?_
    refine x_seq ?_
    refine xs_plain (E := EE [9, 11, 2000011]) ?_
    refine lx_move rfl rfl rfl ?_
    refine lx_len rfl (fun _ => len_slice Tryd.underlying22 _ _ _ _) rfl rfl ?_
    refine lx_bin (v := .bool false) rfl rfl (fun _ => rfl) (fun w => (bin_gtr_i _ _ _).trans (by rw [decide_eq_false (by omega : ¬ ((bs.length : Int) > 5000))])) rfl rfl ?_
    refine lx_nil ?_
    refine x_false rfl ?_
    refine x_skip ?_
    refine xs_plain (E := EE [9, 11, 2000011]) ?_
    refine lx_move rfl rfl rfl ?_
    refine lx_callE rfl rfl ent9 rfl rfl (fun w' hw' => (copy_calls _ _ bs (by omega) w' (hGF.g _ _ _ hw') (hby.grow (hp_below hw'))).mono fun e w'' h => ?_)
    obtain ⟨sv, rfl, hg, hcl⟩ := h
    rcases hcl with ⟨h0, rfl⟩ | ⟨b, c, cap1, rfl, hb, hob, hcc, hle, htk⟩
    · skip
      refine ⟨_, _, rfl, good_hp hGF, hw'.grow rides_true hg, ?_⟩
      clear hw' hg
      refine lx_assign rfl rfl rfl ?_
      refine lx_nil ?_
      refine xs_plain (E := EE [9, 11, 2000011]) ?_
      refine lx_move rfl rfl rfl ?_
      refine lx_callC rfl rfl ent10 (fun w' hw' hG => sum_any _ _ _ bs (by rw [h0]; rfl) (Nat.le_refl _) w' hG (h0 ▸ bytes_nil w' none)) rfl rfl ?_
      refine lx_allocr 4 hGF zv25 rfl rfl ?_
      intro b4
      refine lx_storea 4 hGF rfl rfl rfl Tryd.sizeOf25 (by rw [List.length_map, SHA_len _]) (by rw [List.length_map, List.length_replicate]) (one_u8 _) rfl ?_
      refine lx_nil ?_
      refine xs_draws (E := EE [9, 11, 2000011]) [0, 2, 1, 3, 4, 5, 6, 7, 8, 9, 10] mixed rfl (by kernel_rfl) (by kernel_rfl) (by kernel_rfl) ?_
      refine lx_loada 4 rfl rfl Tryd.isAgg25 Tryd.sizeOf25 (by rw [List.length_map, SHA_len _]) rfl rfl ?_
      refine lx_move rfl rfl rfl ?_
      refine lx_callG rfl rfl ent11 rfl rfl (fun w' hw' => (new_calls w' (hGF.g _ _ _ hw')).mono fun e w'' h => ?_)
      obtain ⟨bm, rfl, hg, hb, hob⟩ := h
      refine ⟨_, _, rfl, good_hp hGF, hw'.news rides_true hg [(15, bm, MK.map U32, 53)] ?_ inj_one, hp_fresh rides_true rfl, ?_⟩
      · intro n' b' c' t' hl
        rcases lkB_cons hl with ⟨_, e⟩ | ⟨_, hl⟩
        · cases e; exact ⟨hb, hob⟩
        · cases hl
      clear hw' hg hb hob
      refine lx_callC rfl rfl ent12 (fun w' hw' hG => msum_any bm _ _ _ bs rfl (by omega) w' hG (hw'.own 15 _ _ _ rfl).1 (hby.grow (hp_below hw'))) rfl rfl ?_
      refine lx_bin (v := .bool true) rfl rfl (fun w => eqg25 _ _ _ _ _ w) (fun w => bin_eq_row Tryd.underlying25 Tryd.underlying5 Tryd.sizeOf5 Tryd.isAgg5 (SHA bs) (SHA_len _) w) rfl rfl ?_
      refine lx_move rfl rfl rfl ?_
      refine lx_move rfl rfl rfl ?_
      refine lx_move rfl rfl rfl ?_
      refine lx_callC rfl rfl ent13 (fun w' hw' hG => bytes_calls bs _ _ _ _ _ _ (by rw [h0]; rfl) rfl w' hG (h0 ▸ bytes_nil w' none) (hby.grow (hp_below hw'))) rfl rfl ?_
      refine lx_pick rfl rfl rfl rfl rfl ?_
      refine lx_assign rfl rfl rfl ?_
      refine lx_nil ?_
      refine x_ret ?_
      repeat (first | refine kseq_ret ?_ | refine kblk_ret ?_)
      exact kret_tmp rfl rfl (fun w hw => ⟨rfl, hp_below hw⟩)
    · skip
      refine ⟨_, _, rfl, good_hp hGF, hw'.news rides_true hg [(3, b, c, 5)] ?_ inj_one, ?_⟩
      · intro n' b' c' t' hl
        rcases lkB_cons hl with ⟨_, e⟩ | ⟨_, hl⟩
        · cases e; exact ⟨hb, hob⟩
        · cases hl
      obtain ⟨tail, rfl⟩ : ∃ tail, c = bs.map U8 ++ tail := ⟨c.drop bs.length, by rw [← htk, List.take_append_drop]⟩
      clear hw' hg hb hob
      refine lx_assign rfl rfl rfl ?_
      refine lx_nil ?_
      refine xs_plain (E := EE [9, 11, 2000011]) ?_
      refine lx_move rfl rfl rfl ?_
      refine lx_callC rfl rfl ent10 (fun w' hw' hG => sum_any _ _ _ bs rfl hle w' hG (front_bytes (n := 3) rfl w' hw')) rfl rfl ?_
      refine lx_allocr 4 hGF zv25 rfl rfl ?_
      intro b4
      refine lx_storea 4 hGF rfl rfl rfl Tryd.sizeOf25 (by rw [List.length_map, SHA_len _]) (by rw [List.length_map, List.length_replicate]) (one_u8 _) rfl ?_
      refine lx_nil ?_
      refine xs_draws (E := EE [9, 11, 2000011]) [0, 2, 1, 3, 4, 5, 6, 7, 8, 9, 10] mixed rfl (by kernel_rfl) (by kernel_rfl) (by kernel_rfl) ?_
      refine lx_loada 4 rfl rfl Tryd.isAgg25 Tryd.sizeOf25 (by rw [List.length_map, SHA_len _]) rfl rfl ?_
      refine lx_move rfl rfl rfl ?_
      refine lx_callG rfl rfl ent11 rfl rfl (fun w' hw' => (new_calls w' (hGF.g _ _ _ hw')).mono fun e w'' h => ?_)
      obtain ⟨bm, rfl, hg, hb, hob⟩ := h
      refine ⟨_, _, rfl, good_hp hGF, hw'.news rides_true hg [(15, bm, MK.map U32, 53)] ?_ inj_one, hp_fresh rides_true rfl, ?_⟩
      · intro n' b' c' t' hl
        rcases lkB_cons hl with ⟨_, e⟩ | ⟨_, hl⟩
        · cases e; exact ⟨hb, hob⟩
        · cases hl
      clear hw' hg hb hob
      refine lx_callC rfl rfl ent12 (fun w' hw' hG => msum_any bm _ _ _ bs rfl (by omega) w' hG (hw'.own 15 _ _ _ rfl).1 (hby.grow (hp_below hw'))) rfl rfl ?_
      refine lx_bin (v := .bool true) rfl rfl (fun w => eqg25 _ _ _ _ _ w) (fun w => bin_eq_row Tryd.underlying25 Tryd.underlying5 Tryd.sizeOf5 Tryd.isAgg5 (SHA bs) (SHA_len _) w) rfl rfl ?_
      refine lx_move rfl rfl rfl ?_
      refine lx_move rfl rfl rfl ?_
      refine lx_move rfl rfl rfl ?_
      refine lx_callC rfl rfl ent13 (fun w' hw' hG => bytes_calls bs _ _ _ _ _ _ rfl rfl w' hG (front_bytes (n := 3) rfl w' hw') (hby.grow (hp_below hw'))) rfl rfl ?_
      refine lx_pick rfl rfl rfl rfl rfl ?_
      refine lx_assign rfl rfl rfl ?_
      refine lx_nil ?_
      refine x_ret ?_
      repeat (first | refine kseq_ret ?_ | refine kblk_ret ?_)
      exact kret_tmp rfl rfl (fun w hw => ⟨rfl, hp_below hw⟩)
end Go.Proofs.YtkfnadpdcgcffaaDoor
