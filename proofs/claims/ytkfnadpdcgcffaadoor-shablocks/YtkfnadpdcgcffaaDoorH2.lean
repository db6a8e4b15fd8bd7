/-
  The walks of Hash's methods.
-/
import Derived.Test.YtkfnadpdcgcffaaDoorH1
namespace Go.Proofs.YtkfnadpdcgcffaaDoor
open Go.RowKit
set_option maxRecDepth 100000
theorem own_range {w : World} {b : Nat} {c : List Value} {t : TypeId} (h : OwnB w b c t) {o : Nat} {cs : List Value} (hc : ∀ j v, cs[j]? = some v → c[o + j]? = some v) : w.rangeAt b o cs := fun j v hv => (h.cell (o + j)).trans (hc j v hv)

theorem reached_calls (bh : Nat) (st : List (BitVec 32)) (rs : List (BitVec 8)) (n : BitVec 64) (h1 : st.length = 8) (h2 : rs.length = 64) (w : World) (hw : Gt w) (ho : OwnB w bh (hc st rs n) 41) :
    Calls Tryd.prog 29 [.pointer (some ⟨bh, 0, none⟩)].toArray w (fun e w' => e = .returned (.agg ((rch st n).map U32).toArray) ∧ Grow w w') := by
  have hGF : BOk Gt (pl w) := gt_low.plain hw
  refine calls_of_X (G := Gt) Tryd.func29 rfl rfl (Hp (pl w) []) (hp_refl (pl w) trivial rides_true) (good_hp hGF) ?_
  refine xs_plain (E := EE []) ?_
  refine lx_allocr 2 hGF zv37 rfl rfl ?_
  intro b2
  refine lx_nil ?_
  refine x_seq ?_
  refine xs_plain (E := EE []) ?_
  refine lx_move rfl rfl rfl ?_
  refine lx_nilc rfl rfl rfl ?_
  refine lx_fak 72 rfl Tryd.underlying41 rfl Tryd.sizeOf39 (by decide) rfl rfl rfl ?_
  refine lx_load rfl Tryd.isAgg39 (hp_old (B := pl w) ((ho.cell 72).trans (hc_72 h1 h2)) (fun h => h)) rfl rfl ?_
  refine lx_bin rfl rfl (fun _ => rfl) (fun _ => bin_lss_u64 _ _ _) rfl rfl ?_
  refine lx_nil ?_
  refine x_if rfl (fun hc => ?_) (fun hc => ?_)
  · simp only [decide_eq_true_eq] at hc
    refine xs_plain (E := EE []) ?_
    refine lx_call rfl rfl ent25 (start_pure) rfl rfl ?_
    refine lx_storea 2 hGF rfl rfl rfl Tryd.sizeOf37 (by rw [List.length_map, (show IV.length = 8 from rfl)]) (by rw [List.length_map, List.length_replicate]) (one_u32 _) rfl ?_
    refine lx_nil ?_
    refine x_ret ?_
    repeat (first | refine kseq_ret ?_ | refine kblk_ret ?_)
    exact kret_own 2 rfl rfl rfl Tryd.isAgg37 Tryd.sizeOf37 rfl (fun w hw => ⟨by rw [rch, if_pos hc], hp_below hw⟩)
  · simp only [decide_eq_false_iff_not] at hc
    refine x_skip ?_
    refine xs_plain (E := EE []) ?_
    refine lx_move rfl rfl rfl ?_
    refine lx_nilc rfl rfl rfl ?_
    refine lx_fak 0 rfl Tryd.underlying41 rfl Tryd.sizeOf37 (by decide) rfl rfl rfl ?_
    refine lx_loadr rfl Tryd.isAgg37 Tryd.sizeOf37 (by rw [List.length_map, h1]) (hp_oldrange (B := pl w) (own_range ho hc_st) (fun h => h)) rfl rfl ?_
    refine lx_storea 2 hGF rfl rfl rfl Tryd.sizeOf37 (by rw [List.length_map, h1]) (by rw [List.length_map, List.length_replicate]) (one_u32 _) rfl ?_
    refine lx_nil ?_
    refine x_ret ?_
    repeat (first | refine kseq_ret ?_ | refine kblk_ret ?_)
    exact kret_own 2 rfl rfl rfl Tryd.isAgg37 Tryd.sizeOf37 (by rw [List.length_map, h1]) (fun w hw => ⟨by rw [rch, if_neg hc], hp_below hw⟩)
theorem hsum_calls (T : List (BitVec 8)) (bh : Nat) (st : List (BitVec 32)) (rs : List (BitVec 8)) (n : BitVec 64) (hi : HInv T st rs n) (w : World) (hw : Gt w) (ho : OwnB w bh (hc st rs n) 41) :
    Calls Tryd.prog 21 [.pointer (some ⟨bh, 0, none⟩)].toArray w (fun e w' => e = .returned (.agg ((SHA T).map U8).toArray) ∧ Grow w w') := by
  have hGF : BOk Gt (pl w) := gt_low.plain hw
  have hmt : (n % 64#64).toNat = (tl T).length := by rw [BitVec.toNat_umod, hi.toNat, tl_len]; rfl
  have hm64 : (n % 64#64).toNat < 64 := by rw [hmt, tl_len]; omega
  have hn : BitVec.ofInt 64 T.length = n := by rw [hi.num, BitVec.ofInt_natCast]
  refine calls_of_X (G := Gt) Tryd.func21 rfl rfl (Hp (pl w) []) (hp_refl (pl w) trivial rides_true) (good_hp hGF) ?_
  refine xs_plain (E := EE [31]) ?_
  refine lx_allocr 2 hGF zv25 rfl rfl ?_
  intro b2
  refine lx_nil ?_
  refine xs_drawn (E := EE [31]) mixed (by kernel_rfl) (by kernel_rfl) (by kernel_rfl) ?_
  refine lx_move rfl rfl rfl ?_
  refine lx_callC rfl rfl ent29 (fun w' hw' hG => reached_calls bh st rs n hi.st8 hi.rs64 w' hG (ho.of_same ((hp_below hw').block bh ho.lt))) rfl rfl ?_
  refine lx_move rfl rfl rfl ?_
  refine lx_nilc rfl rfl rfl ?_
  refine lx_fak 8 rfl Tryd.underlying41 rfl Tryd.sizeOf38 (by decide) rfl rfl rfl ?_
  refine lx_move rfl rfl rfl ?_
  refine lx_nilc rfl rfl rfl ?_
  refine lx_fak 72 rfl Tryd.underlying41 rfl Tryd.sizeOf39 (by decide) rfl rfl rfl ?_
  refine lx_load rfl Tryd.isAgg39 (hp_old (B := pl w) ((ho.cell 72).trans (hc_72 hi.st8 hi.rs64)) (fun h => h)) rfl rfl ?_
  refine lx_bin rfl rfl (fun _ => rfl) (fun _ => bin_rem_u64 _ _ _ (by decide)) rfl rfl ?_
  refine lx_slhi rfl Tryd.underlying38 Tryd.sizeOf5 rfl hm64 rfl rfl ?_
  refine lx_move rfl rfl rfl ?_
  refine lx_nilc rfl rfl rfl ?_
  refine lx_fak 72 rfl Tryd.underlying41 rfl Tryd.sizeOf39 (by decide) rfl rfl rfl ?_
  refine lx_load rfl Tryd.isAgg39 (hp_old (B := pl w) ((ho.cell 72).trans (hc_72 hi.st8 hi.rs64)) (fun h => h)) rfl rfl ?_
  refine lx_callE rfl rfl ent31 rfl rfl (fun w' hw' => (ending_calls _ _ rfl w' (hGF.g _ _ _ hw')).mono fun e w'' h => ?_)
  obtain ⟨c2, c3, rfl, hgr, h2, h3, hne, hc2, hc3⟩ := h
  refine ⟨_, _, rfl, good_hp hGF, hw'.news rides_true hgr [(31, c2, [.slice (some ⟨bh, 8, none⟩) (n % 64#64).toNat 64], 22), (32, c3, [U64 n], 39)] ?_ ?_, ?_⟩
  · intro n' b c t hl
    rcases lkB_cons hl with ⟨_, e⟩ | ⟨_, hl⟩
    · cases e; exact ⟨h2, hc2⟩
    · rcases lkB_cons hl with ⟨_, e⟩ | ⟨_, hl⟩
      · cases e; exact ⟨h3, hc3⟩
      · cases hl
  · exact inj_two hne
  refine lx_callC rfl rfl ent24 (fun w' hw' hG => mix_calls (rch st n) (rch_len hi.st8) 37 [.pointer (some ⟨c2, 0, none⟩), .pointer (some ⟨c3, 0, none⟩)] (eblocks (tl T) n) (eblocks_len _ _ (by rw [tl_len]; omega)) (Rd37 c2 c3 (some ⟨bh, 8, none⟩) 64 (tl T) n) ent37 (end_seq c2 c3 (some ⟨bh, 8, none⟩) 64 (tl T) n (by rw [tl_len]; omega)) w' hG (fun w3 hg3 => ?_)) rfl rfl ?_
  · have hx := hw'.grow rides_true hg3
    refine ⟨by rw [← hmt]; exact hp_cell (n := 31) rfl rfl w3 hx, hp_cell (n := 32) rfl rfl w3 hx, BytesAt.range ?_⟩
    intro j v hv
    refine hp_old (B := pl w) ((ho.cell (8 + j)).trans ?_) (fun h => h) w3 hx
    refine hc_rs hi.st8 j v ?_
    rw [hi.rest, pad64, List.map_append]
    have hlt : j < ((tl T).map U8).length := by
      rcases Nat.lt_or_ge j ((tl T).map U8).length with h | h
      · exact h
      · rw [List.getElem?_eq_none h] at hv; cases hv
    rw [List.getElem?_append_left hlt]; exact hv
  refine lx_call rfl rfl ent23 (digest_pure _ (mixK_len _ _ (rch_len hi.st8) _)) rfl rfl ?_
  refine lx_storea 2 hGF rfl rfl rfl Tryd.sizeOf25 (by rw [List.length_map, DG_len]) (by rw [List.length_map, List.length_replicate]) (one_u8 _) rfl ?_
  refine lx_nil ?_
  refine x_ret ?_
  repeat (first | refine kseq_ret ?_ | refine kblk_ret ?_)
  exact kret_own 2 rfl rfl rfl Tryd.isAgg25 Tryd.sizeOf25 (by rw [List.length_map, DG_len]) (fun w hw => ⟨by rw [sha_full T, hi.rch, hn], hp_below hw⟩)
end Go.Proofs.YtkfnadpdcgcffaaDoor
