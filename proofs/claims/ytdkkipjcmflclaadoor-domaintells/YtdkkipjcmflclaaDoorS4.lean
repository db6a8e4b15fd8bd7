/-
  The walks of sha.ending, sha.blocks and of the iterator over a text's blocks.
-/
import Derived.Test.YtdkkipjcmflclaaDoorS3
namespace Go.Proofs.YtdkkipjcmflclaaDoor
open Go.RowKit
set_option maxRecDepth 100000
namespace Sh
/-- The last blocks. -/
def eblocks (rs : List (BitVec 8)) (n : BitVec 64) : List (List (BitVec 8)) := if rs.length < 56 then [LB (e1 rs) n 8] else [e1 rs, LB (List.replicate 64 0#8) n 8]
theorem eblocks_len (rs : List (BitVec 8)) (n : BitVec 64) (h : rs.length < 64) : ∀ bl ∈ eblocks rs n, bl.length = 64 := by
  unfold eblocks
  split
  · intro bl hbl
    rcases List.mem_singleton.1 hbl with rfl
    exact LBe_len rs n (by omega) 8
  · intro bl hbl
    rcases List.mem_cons.1 hbl with rfl | hbl
    · exact e1_len rs (by omega)
    · rcases List.mem_singleton.1 hbl with rfl
      exact LBz_len n 8
theorem end_seq (br bn : Nat) (a : Option Addr) (cap : Nat) (rs : List (BitVec 8)) (n : BitVec 64) (h : rs.length < 64) : SeqOk Tryd.prog Gt 59 [.pointer (some ⟨br, 0, none⟩), .pointer (some ⟨bn, 0, none⟩)] ((eblocks rs n).map enc) (Rd37 br bn a cap rs n) := by
  unfold eblocks
  split
  · exact end_short br bn a cap rs n (by assumption)
  · exact end_long br bn a cap rs n (by omega) h
def fulls (bs : List (BitVec 8)) : List (List (BitVec 8)) := (List.range (bs.length / 64)).map fun k => (bs.drop (64 * k)).take 64
/-- A text's blocks. -/
def blks (bs : List (BitVec 8)) : List (List (BitVec 8)) := fulls bs ++ eblocks (bs.drop (64 * (bs.length / 64))) (BitVec.ofInt 64 bs.length)
theorem fulls_len (bs : List (BitVec 8)) : (fulls bs).length = bs.length / 64 := by simp [fulls]
theorem blks_lo (bs : List (BitVec 8)) (k : Nat) (h : k < bs.length / 64) : ((blks bs).map enc)[k]? = some (enc ((bs.drop (64 * k)).take 64)) := by
  rw [List.getElem?_map, blks, List.getElem?_append_left (by rw [fulls_len]; exact h)]
  simp [fulls, h]
theorem blks_hi (bs : List (BitVec 8)) (j : Nat) (bl : List (BitVec 8)) (h : (eblocks (bs.drop (64 * (bs.length / 64))) (BitVec.ofInt 64 bs.length))[j]? = some bl) : ((blks bs).map enc)[bs.length / 64 + j]? = some (enc bl) := by
  rw [List.getElem?_map, blks, List.getElem?_append_right (by rw [fulls_len]; omega), fulls_len, Nat.add_sub_cancel_left, h]
  rfl
theorem rest_len (bs : List (BitVec 8)) : (bs.drop (64 * (bs.length / 64))).length < 64 := by simp; omega
theorem blks_len (bs : List (BitVec 8)) : ∀ bl ∈ blks bs, bl.length = 64 := by
  intro bl h
  rcases List.mem_append.1 h with h | h
  · obtain ⟨k, hk, rfl⟩ := List.mem_map.1 h
    have := List.mem_range.1 hk
    simp; omega
  · exact eblocks_len _ _ (rest_len bs) bl h
def lnK (n : Nat) : Nat → Nat
  | 0 => n
  | k + 1 => lnK n k - 64
theorem lnK_eq (n : Nat) : ∀ k, lnK n k = n - 64 * k
  | 0 => by simp [lnK]
  | k + 1 => by simp [lnK, lnK_eq n k]; omega
def avK (a : Option Addr) (cap : Nat) : Nat → Option Addr
  | 0 => a
  | k + 1 => if lnK cap k = 64 then avK a cap k else (avK a cap k).map (·.add (64 * 1))
theorem bytes_avK {w : World} {a : Option Addr} {cap : Nat} {bs : List (BitVec 8)} (h : BytesAt w a bs) (hc : bs.length ≤ cap) : ∀ k, BytesAt w (avK a cap k) (bs.drop (64 * k))
  | 0 => by simpa [avK] using h
  | k + 1 => by
    have := (bytes_avK h hc k).drop (cap := lnK cap k) (l := 64) (by rw [lnK_eq]; simp; omega) (by omega)
    rw [List.drop_drop, show 64 * k + 64 = 64 * (k + 1) from by omega] at this
    exact this
/-- What the iterator over the blocks reads. -/
def Rd33 (bb : Nat) (a : Option Addr) (cap : Nat) (bs : List (BitVec 8)) : Cls := fun W => W.cell? ⟨bb, 0, none⟩ = some (.slice a bs.length cap) ∧ BytesAt W a bs

theorem ending_calls (sv : Value) (n : BitVec 64) (hs : sv.cells = #[sv]) (w : World) (hw : Gt w) : Calls Tryd.prog 55 [sv, U64 n].toArray w (fun e w' => ∃ b2 b3, e = .returned (.func (.func 59) #[] #[.pointer (some ⟨b2, 0, none⟩), .pointer (some ⟨b3, 0, none⟩)]) ∧ Grow w w' ∧ w.heap.size ≤ b2 ∧ w.heap.size ≤ b3 ∧ b2 ≠ b3 ∧ OwnB w' b2 [sv] 39 ∧ OwnB w' b3 [U64 n] 25) := by
  have hGF : BOk Gt (pl w) := gt_low.plain hw
  refine calls_of_X (G := Gt) Tryd.func55 rfl rfl (Hp (pl w) []) (hp_refl (pl w) trivial rides_true) (good_hp hGF) ?_
  refine xs_plain (E := EE []) ?_
  refine lx_box 2 hGF rfl rfl rfl ?_
  intro b2
  refine lx_box 3 hGF rfl rfl rfl ?_
  intro b3
  refine lx_assign rfl rfl rfl ?_
  refine lx_nil ?_
  refine xs_plain (E := EE []) ?_
  refine lx_func rfl rfl rfl rfl ?_
  refine lx_assign rfl rfl rfl ?_
  refine lx_nil ?_
  refine x_ret ?_
  repeat (first | refine kseq_ret ?_ | refine kblk_ret ?_)
  exact kret_tmp rfl rfl (fun w hw => ⟨b2, b3, rfl, hp_below hw, (hw.own 2 b2 _ _ rfl).2.elim id False.elim, (hw.own 3 b3 _ _ rfl).2.elim id False.elim, (fun e => by subst e; exact absurd (hw.inj 2 3 _ _ _ _ _ rfl rfl) (by decide)), (by have := (hw.own 2 b2 _ _ rfl).1; rw [hs] at this; exact this), (hw.own 3 b3 _ _ rfl).1⟩)
theorem blocks_calls (sv : Value) (hs : sv.cells = #[sv]) (w : World) (hw : Gt w) : Calls Tryd.prog 52 [sv].toArray w (fun e w' => ∃ b1, e = .returned (.func (.func 54) #[] #[.pointer (some ⟨b1, 0, none⟩)]) ∧ Grow w w' ∧ w.heap.size ≤ b1 ∧ OwnB w' b1 [sv] 39) := by
  have hGF : BOk Gt (pl w) := gt_low.plain hw
  refine calls_of_X (G := Gt) Tryd.func52 rfl rfl (Hp (pl w) []) (hp_refl (pl w) trivial rides_true) (good_hp hGF) ?_
  refine xs_plain (E := EE []) ?_
  refine lx_box 1 hGF rfl rfl rfl ?_
  intro b1
  refine lx_assign rfl rfl rfl ?_
  refine lx_nil ?_
  refine xs_plain (E := EE []) ?_
  refine lx_func rfl rfl rfl rfl ?_
  refine lx_assign rfl rfl rfl ?_
  refine lx_nil ?_
  refine x_ret ?_
  repeat (first | refine kseq_ret ?_ | refine kblk_ret ?_)
  exact kret_tmp rfl rfl (fun w hw => ⟨b1, rfl, hp_below hw, (hw.own 1 b1 _ _ rfl).2.elim id False.elim, (by have := (hw.own 1 b1 _ _ rfl).1; rw [hs] at this; exact this)⟩)
theorem inj_two {n m : Nat} {b1 b2 : Nat} {c1 c2 : List Value} {t1 t2 : TypeId} (hne : b1 ≠ b2) : ∀ i j b c t c' t', lkB [(n, b1, c1, t1), (m, b2, c2, t2)] i = some (b, c, t) → lkB [(n, b1, c1, t1), (m, b2, c2, t2)] j = some (b, c', t') → i = j := by
  intro i j b c t c' t' h1 h2
  rcases lkB_cons h1 with ⟨e1, x1⟩ | ⟨_, h1⟩ <;> rcases lkB_cons h2 with ⟨e2, x2⟩ | ⟨_, h2⟩
  · exact e1.trans e2.symm
  · rcases lkB_cons h2 with ⟨_, x2⟩ | ⟨_, h2⟩
    · cases x1; cases x2; exact (hne rfl).elim
    · cases h2
  · rcases lkB_cons h1 with ⟨_, x1⟩ | ⟨_, h1⟩
    · cases x1; cases x2; exact (hne rfl).elim
    · cases h1
  · rcases lkB_cons h1 with ⟨e1, x1⟩ | ⟨_, h1⟩
    · rcases lkB_cons h2 with ⟨e2, x2⟩ | ⟨_, h2⟩
      · exact e1.trans e2.symm
      · cases h2
    · cases h1
theorem blocks_seq (bb : Nat) (a : Option Addr) (cap : Nat) (bs : List (BitVec 8)) (hcap : bs.length ≤ cap) : SeqOk Tryd.prog Gt 54 [.pointer (some ⟨bb, 0, none⟩)] ((blks bs).map enc) (Rd33 bb a cap bs) := by
  intro l J Jx hJ hJx hRd hGx hY w hj
  have okJ : ∀ k, BOk Gt (Bi w (fun Y => J Y k)) := fun k => ⟨fun _ _ _ h => (hRd _ _ _ h.rid).1, hJ k⟩
  have okX : ∀ k, BOk Gt (Bi w (fun Y => Jx Y k)) := fun k => ⟨fun _ _ _ h => hGx _ _ _ h.rid, hJx k⟩
  have c1 : ∀ k L w', Hp (Bi w (fun Y => J Y k)) L w' → Rd33 bb a cap bs w' := fun k L w' h => (hRd _ _ _ h.rid).2
  refine calls_of_XM (G := Gt) Tryd.func54 rfl rfl (Hp (Bi w (fun Y => J Y 0)) []) (hp_refl (Bi w _) hj (hJ 0)) (good_hp (okJ 0)) ?_
  refine xs_plain (E := EE [55]) ?_
  refine lx_box 2 (okJ _) rfl rfl rfl ?_
  intro b2
  refine lx_nil ?_
  refine xs_plain (E := EE [55]) ?_
  refine lx_load rfl Tryd.isAgg39 (fun w h => (c1 _ _ w h).1) rfl rfl ?_
  refine lx_assign rfl rfl rfl ?_
  refine lx_nil ?_
  refine x_seq ?_
  refine x_block ?_
  refine x_forB (ι := { k : Nat // k ≤ bs.length / 64 }) (fun x => [(3, .slice (avK a cap x.1) (lnK bs.length x.1) (lnK cap x.1)), (1, .pointer (some ⟨bb, 0, none⟩)), (2, .pointer (some ⟨b2, 0, none⟩))]) (fun x => Bi w (fun Y => J Y x.1)) (fun x => [(2, b2, [.func (.yield l) #[] #[]], 93)]) (fun x => bs.length / 64 - x.1) ⟨0, by omega⟩ (fun _ => okJ _) rfl ⟨rfl, rfl, rfl, trivial⟩ ⟨rfl, trivial⟩ ?_
  rintro ⟨k, hk⟩
  dsimp only
  have hln := lnK_eq bs.length k
  have hlc := lnK_eq cap k
  refine x_seq ?_
  refine xs_plain (E := EE [55]) ?_
  refine lx_move rfl rfl rfl ?_
  refine lx_len rfl (fun _ => len_slice Tryd.underlying39 _ _ _ _) rfl rfl ?_
  refine lx_bin rfl rfl (fun _ => rfl) (fun _ => bin_geq_i _ _ _) rfl rfl ?_
  refine lx_nil ?_
  refine x_if rfl (fun hc => ?_) (fun hc => ?_)
  · simp only [decide_eq_true_eq] at hc
    refine x_skip ?_
    refine x_block ?_
    refine xs_plain (E := EE [55]) ?_
    refine lx_allocr 4 (okJ _) zv85 rfl rfl ?_
    intro b4
    refine lx_nil ?_
    refine xs_plain (E := EE [55]) ?_
    refine lx_slarr1 (l := 0) (h' := 64) rfl Tryd.underlying85 Tryd.sizeOf5 rfl rfl (by omega) (by omega) rfl rfl ?_
    refine lx_move rfl rfl rfl ?_
    refine lx_copys (cs := (bs.drop (64 * k)).take 64) 4 (okJ _) rfl rfl rfl Tryd.underlying39 info5 (by show _ = Nat.min (lnK bs.length k) 64; rw [show Nat.min (lnK bs.length k) 64 = 64 from Nat.min_eq_right (by omega)]; simp; omega) (fun w h => (bytes_avK (c1 _ _ w h).2 hcap k).take 64) (by simp; omega) rfl rfl ?_
    rw [lay_all _ _ (by simp; omega)]
    refine lx_nil ?_
    refine x_seq ?_
    refine xs_plain (E := EE [55]) ?_
    refine lx_loadl 2 rfl rfl rfl Tryd.isAgg93 rfl rfl ?_
    refine lx_loada 4 rfl rfl Tryd.isAgg85 Tryd.sizeOf85 (by rw [List.length_map, show ((bs.drop (64 * k)).take 64).length = 64 from (by simp; omega)]) rfl rfl ?_
    refine lx_yield (hY.b (k := k) (blks_lo bs k (by omega)) w) (okJ _) (okX _) rfl rfl rfl rfl rfl ?_ ?_
    · skip
      refine lx_un rfl (fun _ => un_not _) rfl rfl ?_
      refine lx_nil ?_
      refine x_false rfl ?_
      refine x_skip ?_
      refine x_plain (E := EE [55]) ?_
      refine lx_move rfl rfl rfl ?_
      refine lx_slsl (l := 64) (h' := lnK bs.length k) rfl Tryd.underlying39 Tryd.sizeOf5 rfl rfl (by omega) rfl rfl ?_
      refine lx_assign rfl rfl rfl ?_
      refine lx_nil ?_
      repeat (refine kblk_n ?_)
      refine kseq_n ?_
      exact ⟨rfl, ⟨k + 1, by omega⟩, _, by show bs.length / 64 - (k + 1) < bs.length / 64 - k; omega, rfl, ⟨rfl, rfl, rfl, trivial⟩, ⟨rfl, trivial⟩⟩
    · skip
      refine lx_un rfl (fun _ => un_not _) rfl rfl ?_
      refine lx_nil ?_
      refine x_true rfl ?_
      refine x_ret ?_
      repeat (first | refine kseq_ret ?_ | refine kblk_ret ?_)
      exact kretM_0 (.inl rfl) (kret_none rfl (fun w hw => ⟨⟨_, rfl⟩, .inr ⟨_, drop_yof (hJx _) hw.rid⟩⟩))
  · obtain rfl : k = bs.length / 64 := by simp at hc; omega
    refine x_exit ?_
    refine xs_plain (E := EE [55]) ?_
    refine lx_move rfl rfl rfl ?_
    refine lx_load rfl Tryd.isAgg39 (fun w h => (c1 _ _ w h).1) rfl rfl ?_
    refine lx_len rfl (fun _ => len_slice Tryd.underlying39 _ _ _ _) rfl rfl ?_
    refine lx_conv rfl rfl (fun _ => conv_i_u64 Tryd.underlying3 Tryd.underlying25 _) rfl rfl ?_
    refine lx_callE rfl rfl ent55 rfl rfl (fun w' hw' => (ending_calls _ _ rfl w' ((okJ _).g _ _ _ hw')).mono fun e w'' h => ?_)
    obtain ⟨c2, c3, rfl, hgr, h2, h3, hne, hc2, hc3⟩ := h
    refine ⟨_, _, rfl, good_hp (okJ _), hw'.news (hJ _) hgr [(31, c2, [.slice (avK a cap (bs.length / 64)) (lnK bs.length (bs.length / 64)) (lnK cap (bs.length / 64))], 39), (32, c3, [U64 (BitVec.ofInt 64 bs.length)], 25)] ?_ ?_, ?_⟩
    · intro n b c t hl
      rcases lkB_cons hl with ⟨_, e⟩ | ⟨_, hl⟩
      · cases e; exact ⟨h2, hc2⟩
      · rcases lkB_cons hl with ⟨_, e⟩ | ⟨_, hl⟩
        · cases e; exact ⟨h3, hc3⟩
        · cases hl
    · exact inj_two hne
    refine lx_nil ?_
    refine x_block ?_
    have hrl : lnK bs.length (bs.length / 64) = (bs.drop (64 * (bs.length / 64))).length := by rw [hln]; simp
    refine x_range (fun j => Bi w (fun Y => J Y (bs.length / 64 + j))) (fun _ j => Bi w (fun Y => Jx Y (bs.length / 64 + j))) (fun _ => okJ _) (fun _ _ => okX _) (fun _ => rfl) (fun _ _ => rfl) rfl rfl ent59 (end_seq c2 c3 (avK a cap (bs.length / 64)) (lnK cap (bs.length / 64)) (bs.drop (64 * (bs.length / 64))) (BitVec.ofInt 64 bs.length) (rest_len bs)) (by simp [enc]) rfl (fun _ => [(2, b2, [.func (.yield l) #[] #[]], 93), (31, c2, [.slice (avK a cap (bs.length / 64)) (lnK bs.length (bs.length / 64)) (lnK cap (bs.length / 64))], 39), (32, c3, [U64 (BitVec.ofInt 64 bs.length)], 25)]) (fun c _ _ => c = .ret) ⟨rfl, rfl, rfl, trivial⟩ (fun j Y w' h => ⟨by rw [← hrl]; exact hp_cell (n := 31) rfl rfl w' h, hp_cell (n := 32) rfl rfl w' h, bytes_avK (hRd _ _ _ h.rid).2.2 hcap _⟩) ?_ ?_ ?_
    · intro j x hx R hR
      obtain ⟨bl, hbl, rfl⟩ : ∃ bl, (eblocks (bs.drop (64 * (bs.length / 64))) (BitVec.ofInt 64 bs.length))[j]? = some bl ∧ enc bl = x := by rw [List.getElem?_map] at hx; simpa using hx
      have hb64 : bl.length = 64 := eblocks_len _ _ (rest_len bs) bl (List.mem_of_getElem? hbl)
      refine x_plain (E := EE [55]) ?_
      refine lx_allocr 5 (hR (Bi w (fun Y => J Y (bs.length / 64 + j))) rfl (okJ _)).1 zv85 rfl rfl ?_
      intro b5
      refine lx_storea 5 (hR (Bi w (fun Y => J Y (bs.length / 64 + j))) rfl (okJ _)).1 rfl rfl rfl Tryd.sizeOf85 (by rw [List.length_map, hb64]) (by rw [List.length_map, List.length_replicate]) (one_u8 _) rfl ?_
      refine lx_nil ?_
      refine ⟨rfl, _, rfl, ?_⟩
      refine x_block ?_
      refine xs_plain (E := EE [55]) ?_
      refine lx_loadl 2 rfl rfl rfl Tryd.isAgg93 rfl rfl ?_
      refine lx_loada 5 rfl rfl Tryd.isAgg85 Tryd.sizeOf85 (by rw [List.length_map, hb64]) rfl rfl ?_
      refine lx_yield ((hY.b (k := bs.length / 64 + j) (blks_hi bs j bl hbl) w).br R.l R.D R.rb R.Y R.W) (hR (Bi w (fun Y => J Y (bs.length / 64 + j + 1))) rfl (okJ _)).2.1 (hR (Bi w (fun Y => Jx Y (bs.length / 64 + j + 1))) rfl (okX _)).2.1 rfl rfl rfl rfl rfl ?_ ?_
      · skip
        refine lx_un rfl (fun _ => un_not _) rfl rfl ?_
        refine lx_nil ?_
        refine x_false rfl ?_
        refine x_skip ?_
        exact ⟨_, rfl, ⟨rfl, rfl, rfl, trivial⟩⟩
      · skip
        refine lx_un rfl (fun _ => un_not _) rfl rfl ?_
        refine lx_nil ?_
        refine x_true rfl ?_
        refine x_ret ?_
        repeat (first | refine kseq_ret ?_ | refine kblk_ret ?_)
        exact ⟨_, rfl, rfl⟩
    · intro D _
      refine kretM_1 (.inr rfl) (hJ _) (kret_none rfl (fun w hw => ⟨⟨_, rfl⟩, .inl ?_⟩))
      have := drop_yof (hJ _) hw.rid
      rw [show ((blks bs).map enc).length = bs.length / 64 + ((eblocks (bs.drop (64 * (bs.length / 64))) (BitVec.ofInt 64 bs.length)).map enc).length from by simp [blks, fulls_len]]
      exact this
    · intro D c j L' _ hc
      subst hc
      exact kretM_1 (.inl rfl) (hJx _) (kret_none rfl (fun w hw => ⟨⟨_, rfl⟩, .inr ⟨_, drop_yof (hJx _) hw.rid⟩⟩))
end Sh
end Go.Proofs.YtdkkipjcmflclaaDoor
