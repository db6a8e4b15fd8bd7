/-
  The walks of package fp12: powers.
-/
import Derived.Test.YtbpifgcbkhohbaaGreatDoorW2
import Derived.Test.YtbpifgcbkhohbaaGreatDoorX5
namespace Go.Proofs.YtbpifgcbkhohbaaGreatDoor
open Go.RowKit
set_option maxRecDepth 100000
set_option maxHeartbeats 1000000
attribute [local simp] fe_len nm_len AS_len SS_len MONT_len RM_len FRs_len BYs_len by48_len PLl TWOl ONEl N1l IVPl HFPl RTPl FL_len SP_len fe2_len SP2_len FM_len FF_len
attribute [local simp] ff_len RW_len

theorem ent88 : Enters Tryz.prog 88 := fun _ _ => by kernel_rfl
/-- What an iterator over the bits of bytes yields. -/
def BL (bs : List (BitVec 8)) : List (List Value) := (List.range (8 * bs.length)).map fun m => [.bool (decide (pbit bs m = 1#8))]
theorem BL_len (bs : List (BitVec 8)) : (BL bs).length = 8 * bs.length := by simp [BL]
theorem BL_get (bs : List (BitVec 8)) (m : Nat) (h : m < 8 * bs.length) : (BL bs)[m]? = some [.bool (decide (pbit bs m = 1#8))] := by
  rw [BL, List.getElem?_map, List.getElem?_range h]; rfl
theorem BL_at (bs : List (BitVec 8)) (m : Nat) (x : List Value) (h : (BL bs)[m]? = some x) : m < 8 * bs.length ∧ x = [.bool (decide (pbit bs m = 1#8))] := by
  have hm : m < 8 * bs.length := by
    rcases Nat.lt_or_ge m (8 * bs.length) with h' | h'
    · exact h'
    · rw [List.getElem?_eq_none (by rw [BL_len]; exact h')] at h; cases h
  rw [BL_get bs m hm] at h
  exact ⟨hm, (Option.some.inj h).symm⟩
theorem bt_bit (bs : List (BitVec 8)) (i j : Nat) (hj : j < 8) : (bs.getD i 0 &&& 128#8 >>> j != 0#8) = decide (pbit bs (8 * i + j) = 1#8) := by
  rw [mk_bit j hj, pbit, show (8 * i + j) / 8 = i by omega, show (8 * i + j) % 8 = j by omega]
theorem mk_gt (j : Nat) (hj : j ≤ 8) : decide (0#8 < 128#8 >>> j) = decide (j < 8) := by
  rcases Nat.lt_or_ge j 8 with h | h
  · rw [decide_eq_true (mk_pos j h), decide_eq_true h]
  · obtain rfl : j = 8 := by omega
    decide
theorem k12bits_calls (sv : Value) (hs : sv.cells = #[sv]) (w : World) (hw : Gt w) : Calls Tryz.prog 56 [sv].toArray w (fun e w' => ∃ b1, e = .returned (.func (.func 88) #[] #[.pointer (some ⟨b1, 0, none⟩)]) ∧ Grow w w' ∧ w.heap.size ≤ b1 ∧ OwnB w' b1 [sv] 22) := by
  have hGF : BOk Gt (pl w) := gt_low.plain hw
  refine calls_of_X (G := Gt) Tryz.func56 rfl rfl (Hp (pl w) []) (hp_refl (pl w) trivial rides_true) (good_hp hGF) ?_
  refine xs_plain (E := EE []) ?_
  refine lx_box 1 hGF rfl rfl rfl ?_
  intro b1
  refine lx_assign rfl rfl rfl ?_
  refine lx_nil ?_
  refine xs_plain (E := EE []) ?_
  refine lx_func rfl rfl rfl rfl ?_
  refine lx_assign rfl rfl rfl ?_
  refine lx_nil ?_
  refine x_ret ?_
  repeat (first | refine kseq_ret ?_ | refine kblk_ret ?_)
  exact kret_tmp rfl rfl (fun w hw => ⟨b1, rfl, hp_below hw, (hw.own 1 b1 _ _ rfl).2.elim id False.elim, (by have := (hw.own 1 b1 _ _ rfl).1; rw [hs] at this; exact this)⟩)
theorem k12bits_seq (bb : Nat) (e : Option Addr) (cap : Nat) (bs : List (BitVec 8)) (hlen : bs.length ≤ 1000000) : SeqOk Tryz.prog Gt 88 [.pointer (some ⟨bb, 0, none⟩)] (BL bs) (RdD bb e cap bs) := by
  intro l J Jx hJ hJx hRd hGx hY w hj
  have okJ : ∀ k, BOk Gt (Bi w (fun Y => J Y k)) := fun k => ⟨fun _ _ _ h => (hRd _ _ _ h.rid).1, hJ k⟩
  have okX : ∀ k, BOk Gt (Bi w (fun Y => Jx Y k)) := fun k => ⟨fun _ _ _ h => hGx _ _ _ h.rid, hJx k⟩
  have c1 : ∀ k L w', Hp (Bi w (fun Y => J Y k)) L w' → RdD bb e cap bs w' := fun k L w' h => (hRd _ _ _ h.rid).2
  have hby := (hRd _ _ _ hj).2.2
  refine calls_of_X (G := Gt) Tryz.func88 rfl rfl (Hp (Bi w (fun Y => J Y 0)) []) (hp_refl (Bi w _) hj (hJ 0)) (good_hp (okJ 0)) ?_
  refine xs_plain (E := EE []) ?_
  refine lx_load rfl Tryz.isAgg22 (fun w h => (c1 _ _ w h).1) rfl rfl ?_
  refine lx_len rfl (fun _ => len_slice Tryz.underlying22 _ _ _ _) rfl rfl ?_
  refine lx_move rfl rfl rfl ?_
  refine lx_nil ?_
  refine x_block ?_
  refine x_forB (ι := { i : Nat // i ≤ bs.length }) (fun x => [(0, .func (.yield l) #[] #[]), (1, .pointer (some ⟨bb, 0, none⟩)), (6, .slice e bs.length cap), (7, I (bs.length : Int)), (8, I (x.1 : Int))]) (fun x => Bi w (fun Y => J Y (8 * x.1))) (fun x => []) (fun x => bs.length - x.1) ⟨0, Nat.zero_le _⟩ (fun _ => okJ _) rfl ⟨rfl, rfl, rfl, rfl, rfl, trivial⟩ trivial ?_
  rintro ⟨i, hi⟩
  dsimp only
  refine xs_plain (E := EE []) ?_
  refine lx_bin rfl rfl (fun _ => rfl) (fun _ => bin_lss_i _ _ _) rfl rfl ?_
  refine lx_nil ?_
  refine x_seq ?_
  refine x_if rfl (fun hc => ?_) (fun hc => ?_)
  · have hi2 : i < bs.length := by simp at hc; omega
    refine x_skip ?_
    refine x_seq ?_
    refine x_block ?_
    refine xs_plain (E := EE []) ?_
    obtain ⟨ad, rfl, _⟩ := hby i _ (gm U8 bs 0 i (by omega))
    refine lx_isA i rfl rfl Tryz.underlying22 Tryz.sizeOf5 rfl (by omega) rfl rfl ?_
    refine lx_load rfl Tryz.isAgg5 (fun w' h => by obtain ⟨ad', e', hc'⟩ := (c1 _ _ w' h).2 i _ (gm U8 bs 0 i (by omega)); cases e'; exact hc') rfl rfl ?_
    refine lx_assign rfl rfl rfl ?_
    refine lx_nil ?_
    refine xs_plain (E := EE []) ?_
    refine lx_assign rfl rfl rfl ?_
    refine lx_nil ?_
    refine x_block ?_
    refine x_forB (ι := { j : Nat // j ≤ 8 }) (fun x => [(0, .func (.yield l) #[] #[]), (1, .pointer (some ⟨bb, 0, none⟩)), (6, .slice (some ad) bs.length cap), (7, I (bs.length : Int)), (8, I (i : Int)), (4, U8 (bs.getD i 0)), (5, U8 (128#8 >>> x.1))]) (fun x => Bi w (fun Y => J Y (8 * i + x.1))) (fun x => []) (fun x => 8 - x.1) ⟨0, Nat.zero_le _⟩ (fun _ => okJ _) rfl ⟨rfl, rfl, rfl, rfl, rfl, rfl, rfl, trivial⟩ trivial ?_
    rintro ⟨j, hj⟩
    dsimp only
    refine x_seq ?_
    refine xs_plain (E := EE []) ?_
    refine lx_move rfl rfl rfl ?_
    refine lx_bin (v := .bool (decide (j < 8))) rfl rfl (fun _ => rfl) (fun _ => (bin_gtr_u8 _ _ _).trans (by rw [mk_gt j hj])) rfl rfl ?_
    refine lx_nil ?_
    refine x_if rfl (fun hc => ?_) (fun hc => ?_)
    · have hj2 : j < 8 := by simpa using hc
      refine x_skip ?_
      refine x_seq ?_
      refine x_block ?_
      refine xs_plain (E := EE []) ?_
      refine lx_move rfl rfl rfl ?_
      refine lx_move rfl rfl rfl ?_
      refine lx_move rfl rfl rfl ?_
      refine lx_bin (v := U8 (bs.getD i 0 &&& 128#8 >>> j)) rfl rfl (fun _ => rfl) (fun _ => bin_and_u8 _ _ _) rfl rfl ?_
      refine lx_bin (v := .bool (decide (pbit bs (8 * i + j) = 1#8))) rfl rfl (fun _ => rfl) (fun _ => (bin_neq_u8 _ _ 0#8).trans (by rw [bt_bit bs i j hj2])) rfl rfl ?_
      refine lx_yield (hY.b (k := 8 * i + j) (BL_get bs (8 * i + j) (by omega)) w) (okJ _) (okX _) rfl rfl rfl rfl rfl ?_ ?_
      · skip
        refine lx_un rfl (fun _ => un_not _) rfl rfl ?_
        refine lx_nil ?_
        refine x_false rfl ?_
        refine x_skip ?_
        refine x_plain (E := EE []) ?_
        refine lx_move rfl rfl rfl ?_
        refine lx_bin (v := U8 (128#8 >>> (j + 1))) rfl rfl (fun _ => rfl) (fun _ => (bin_shr_u8 _ _ 1#64).trans (by rw [show (1#64).toNat = 1 from rfl, mk_shr])) rfl rfl ?_
        refine lx_assign rfl rfl rfl ?_
        refine lx_nil ?_
        repeat (refine kblk_n ?_)
        refine kseq_n ?_
        exact ⟨rfl, ⟨j + 1, by omega⟩, _, by show 8 - (j + 1) < 8 - j; omega, rfl, ⟨rfl, rfl, rfl, rfl, rfl, rfl, rfl, trivial⟩, trivial⟩
      · skip
        refine lx_un rfl (fun _ => un_not _) rfl rfl ?_
        refine lx_nil ?_
        refine x_true rfl ?_
        refine x_ret ?_
        repeat (first | refine kseq_ret ?_ | refine kblk_ret ?_)
        repeat (first | refine kseq_x ?_ | refine kblk_x ?_ | refine kblk_p rfl ?_ | refine kseq_ret ?_ | refine kblk_ret ?_)
        exact kret_none rfl (fun w hw => ⟨⟨_, rfl⟩, .inr ⟨_, drop_yof (hJx _) hw.rid⟩⟩)
    · obtain rfl : j = 8 := by simp at hc; omega
      refine x_exit ?_
      refine x_plain (E := EE []) ?_
      refine lx_bin rfl rfl (fun _ => rfl) (fun _ => bin_add_i _ _ _ (by unfold inI; omega)) rfl rfl ?_
      refine lx_move rfl rfl rfl ?_
      refine lx_nil ?_
      repeat (refine kblk_n ?_)
      refine kseq_n ?_
      exact ⟨rfl, ⟨i + 1, by omega⟩, _, by show bs.length - (i + 1) < bs.length - i; omega, rfl, ⟨rfl, rfl, rfl, rfl, rfl, trivial⟩, trivial⟩
  · obtain rfl : i = bs.length := by simp at hc; omega
    refine x_exit ?_
    repeat (first | refine kseq_x ?_ | refine kblk_x ?_ | refine kblk_p rfl ?_ | refine kseq_ret ?_ | refine kblk_ret ?_)
    refine kend_none rfl (fun w hw => ⟨⟨_, rfl⟩, .inl ?_⟩)
    have := drop_yof (hJ _) hw.rid
    rw [BL_len]
    exact this
theorem bt12_y (x : W12) (bs : List (BitVec 8)) (i : Nat) (h : pbit bs i = 1#8) : K12.mul (K12.mul (K12.pw x (BTn bs i)) (K12.pw x (BTn bs i))) x = K12.pw x (BTn bs (i + 1)) := by
  rcases bit_one bs i with ⟨_, e⟩ | ⟨h', _⟩
  · rw [← K12.pw_add, BTn, e, Nat.two_mul]; rfl
  · exact absurd h h'
theorem bt12_n (x : W12) (bs : List (BitVec 8)) (i : Nat) (h : ¬ pbit bs i = 1#8) : K12.mul (K12.pw x (BTn bs i)) (K12.pw x (BTn bs i)) = K12.pw x (BTn bs (i + 1)) := by
  rcases bit_one bs i with ⟨h', _⟩ | ⟨_, e⟩
  · exact absurd h' h
  · rw [← K12.pw_add, BTn, e, Nat.two_mul, Nat.add_zero]
theorem k12pow_calls (x : W12) (e : Option Addr) (cap : Nat) (bs : List (BitVec 8)) (hlen : bs.length ≤ 1000000) (w : World) (hw : Gt w) (hby : BytesAt w e bs) :
    Calls Tryz.prog 25 [EV12 x, .slice e bs.length cap].toArray w (fun r w' => r = .returned (EV12 (K12.pw x (BN bs bs.length))) ∧ Grow w w') := by
  have hGF : BOk Gt (pl w) := gt_low.plain hw
  refine calls_of_XM (G := Gt) Tryz.func25 rfl rfl (Hp (pl w) []) (hp_refl (pl w) trivial rides_true) (good_hp hGF) ?_
  refine xs_plain (E := EE [56]) ?_
  refine lx_boxr 2 hGF rfl rfl rfl ?_
  intro b2
  refine lx_allocr 4 hGF zv34 rfl rfl ?_
  intro b4
  refine lx_nil ?_
  refine xs_plain (E := EE [56]) ?_
  refine lx_call rfl rfl ent27 (k12one) rfl rfl ?_
  refine lx_allocr 5 hGF zv34 rfl rfl ?_
  intro b5
  refine lx_storea 5 hGF rfl rfl rfl Tryz.sizeOf34 (by simp) (by simp) (one_u64 _) rfl ?_
  refine lx_nil ?_
  refine x_seq ?_
  refine xs_plain (E := EE [56]) ?_
  refine lx_move rfl rfl rfl ?_
  refine lx_callE rfl rfl ent56 rfl rfl (fun w' hw' => (k12bits_calls _ rfl w' (hGF.g _ _ _ hw')).mono fun e' w'' h => ?_)
  obtain ⟨c1, rfl, hg, h1, ho⟩ := h
  refine ⟨_, _, rfl, good_hp hGF, hw'.news rides_true hg [(33, c1, [.slice e bs.length cap], 22)] ?_ inj_one, ?_⟩
  · intro n' b' c' t' hl
    rcases lkB_cons hl with ⟨_, e⟩ | ⟨_, hl⟩
    · cases e; exact ⟨h1, ho⟩
    · cases hl
  clear hw' hg h1 ho
  refine lx_nil ?_
  refine x_block ?_
  refine x_range (fun _ => pl w) (fun _ _ => pl w) (fun _ => hGF) (fun _ _ => hGF) (fun _ => rfl) (fun _ _ => rfl) rfl rfl ent88 (k12bits_seq c1 e cap bs hlen) (fun x hx => by obtain ⟨k, hk, rfl⟩ := List.mem_map.1 hx; rfl) rfl (fun k => [(2, b2, (((fe ((x).1.1).1 ++ fe ((x).1.1).2) ++ ((fe ((x).1.2.1).1 ++ fe ((x).1.2.1).2) ++ (fe ((x).1.2.2).1 ++ fe ((x).1.2.2).2))) ++ ((fe ((x).2.1).1 ++ fe ((x).2.1).2) ++ ((fe ((x).2.2.1).1 ++ fe ((x).2.2.1).2) ++ (fe ((x).2.2.2).1 ++ fe ((x).2.2.2).2)))).map U64, 34), (4, b4, (((fe 0 ++ fe 0) ++ ((fe 0 ++ fe 0) ++ (fe 0 ++ fe 0))) ++ ((fe 0 ++ fe 0) ++ ((fe 0 ++ fe 0) ++ (fe 0 ++ fe 0)))).map U64, 34), (5, b5, (((fe ((K12.pw x (BTn bs k)).1.1).1 ++ fe ((K12.pw x (BTn bs k)).1.1).2) ++ ((fe ((K12.pw x (BTn bs k)).1.2.1).1 ++ fe ((K12.pw x (BTn bs k)).1.2.1).2) ++ (fe ((K12.pw x (BTn bs k)).1.2.2).1 ++ fe ((K12.pw x (BTn bs k)).1.2.2).2))) ++ ((fe ((K12.pw x (BTn bs k)).2.1).1 ++ fe ((K12.pw x (BTn bs k)).2.1).2) ++ ((fe ((K12.pw x (BTn bs k)).2.2.1).1 ++ fe ((K12.pw x (BTn bs k)).2.2.1).2) ++ (fe ((K12.pw x (BTn bs k)).2.2.2).1 ++ fe ((K12.pw x (BTn bs k)).2.2.2).2)))).map U64, 34), (33, c1, [.slice e bs.length cap], 22)]) (fun _ _ _ => False) ⟨rfl, rfl, rfl, rfl, trivial⟩ (fun k _ w' h => ⟨hp_cell (n := 33) rfl rfl w' h, hby.grow (h.below (fun _ h => h))⟩) ?_ ?_ (fun _ _ _ _ _ h => h.elim)
  · intro k v hx R hR
    obtain ⟨hk, rfl⟩ := BL_at bs k v hx
    refine x_plain (E := EE [56]) ?_
    refine lx_assign rfl rfl rfl ?_
    refine lx_nil ?_
    refine ⟨rfl, _, rfl, ?_⟩
    refine x_block ?_
    refine xs_plain (E := EE [56]) ?_
    refine lx_loada 5 rfl rfl Tryz.isAgg34 Tryz.sizeOf34 (by simp) rfl rfl ?_
    refine lx_call rfl rfl ent16 (k12square _) rfl rfl ?_
    refine lx_storea 5 (hR (pl w) rfl hGF).2.1 rfl rfl rfl Tryz.sizeOf34 (by simp) (by simp) (one_u64 _) rfl ?_
    refine lx_nil ?_
    refine xs_plain (E := EE [56]) ?_
    refine lx_move rfl rfl rfl ?_
    refine lx_nil ?_
    refine x_if rfl (fun hc => ?_) (fun hc => ?_)
    · have hq : pbit bs k = 1#8 := of_decide_eq_true hc
      refine x_plain (E := EE [56]) ?_
      refine lx_loada 5 rfl rfl Tryz.isAgg34 Tryz.sizeOf34 (by simp) rfl rfl ?_
      refine lx_loada 2 rfl rfl Tryz.isAgg34 Tryz.sizeOf34 (by simp) rfl rfl ?_
      refine lx_call rfl rfl ent14 (k12mul _ _) rfl rfl ?_
      refine lx_storea 5 (hR (pl w) rfl hGF).2.1 rfl rfl rfl Tryz.sizeOf34 (by simp) (by simp) (one_u64 _) rfl ?_
      refine lx_nil ?_
      repeat (refine kblk_n ?_)
      exact ⟨_, rfl, ⟨rfl, rfl, by rw [← bt12_y x bs k hq]; rfl, rfl, trivial⟩⟩
    · have hq : ¬ pbit bs k = 1#8 := of_decide_eq_false hc
      refine x_skip ?_
      repeat (refine kblk_n ?_)
      exact ⟨_, rfl, ⟨rfl, rfl, by rw [← bt12_n x bs k hq]; rfl, rfl, trivial⟩⟩
  · intro D hD
    rw [BL_len, BTn_eight]
    refine xs_plain (E := EE [56]) ?_
    refine lx_loada 5 rfl rfl Tryz.isAgg34 Tryz.sizeOf34 (by simp) rfl rfl ?_
    refine lx_storea 4 hD rfl rfl rfl Tryz.sizeOf34 (by simp) (by simp) (one_u64 _) rfl ?_
    refine lx_nil ?_
    refine x_ret ?_
    repeat (first | refine kseq_ret ?_ | refine kblk_ret ?_)
    exact kretM_1 (.inl rfl) rides_true (kret_own 4 rfl rfl rfl Tryz.isAgg34 Tryz.sizeOf34 (by simp) (fun w hw => ⟨rfl, hp_below hw⟩))
theorem k12pow_ok (x : W12) (e : Option Addr) (cap : Nat) (bs : List (BitVec 8)) (h : bs.length ≤ 1000) (w : World) (hw : Gt w) (hby : BytesAt w e bs) : Calls Tryz.prog 25 [EV12 x, .slice e bs.length cap].toArray w (fun r w' => r = .returned (EV12 (K12.pw x (BN bs bs.length))) ∧ Grow w w') := k12pow_calls x e cap bs (by omega) w hw hby
end Go.Proofs.YtbpifgcbkhohbaaGreatDoor
