/-
  The walk of the last blocks' iterator.
-/
import Derived.Test.YtdkkipjcmflclaaDoorS2
import Derived.Test.YtdkkipjcmflclaaDoorX2
namespace Go.Proofs.YtdkkipjcmflclaaDoor
open Go.RowKit
set_option maxRecDepth 100000
namespace Sh
theorem info5 : (Tryd.prog.info? 5).map (·.size) = some 1 := by kernel_rfl
/-- The block with the text's rest and the mark. -/
def e1 (rs : List (BitVec 8)) : List (BitVec 8) := (rs ++ List.replicate (64 - rs.length) 0#8).set rs.length 128#8
theorem e1_len (rs : List (BitVec 8)) (h : rs.length ≤ 64) : (e1 rs).length = 64 := by simp [e1]; omega
/-- The bits told at a block's end. -/
def LB (bl : List (BitVec 8)) (n : BitVec 64) : Nat → List (BitVec 8)
  | 0 => bl
  | k + 1 => (LB bl n k).set (56 + k) (((8#64 * n) >>> (56 - 8 * (k : Int)).toNat).setWidth 8)
theorem LB_len (bl : List (BitVec 8)) (n : BitVec 64) : ∀ k, (LB bl n k).length = bl.length
  | 0 => rfl
  | k + 1 => by simp [LB, LB_len bl n k]
theorem LBe_len (rs : List (BitVec 8)) (n : BitVec 64) (h : rs.length ≤ 64) (k : Nat) : (LB (e1 rs) n k).length = 64 := by rw [LB_len, e1_len rs h]
theorem LBz_len (n : BitVec 64) (k : Nat) : (LB (List.replicate 64 0#8) n k).length = 64 := by rw [LB_len]; simp
/-- What the iterator over the last blocks reads. -/
def Rd37 (br bn : Nat) (a : Option Addr) (cap : Nat) (rs : List (BitVec 8)) (n : BitVec 64) : Cls := fun W => W.cell? ⟨br, 0, none⟩ = some (.slice a rs.length cap) ∧ W.cell? ⟨bn, 0, none⟩ = some (U64 n) ∧ BytesAt W a rs
def enc (bl : List (BitVec 8)) : List Value := [.agg (bl.map U8).toArray]
theorem drop_yof {J : (Nat → Prop) → World → Prop} (h : Rides J) {L : Hl} {w : World} (hj : J (fun b => Yof L b ∨ False) w) : J (fun _ => False) w := h.less _ _ _ (fun _ h => h.elim) hj

theorem end_short (br bn : Nat) (a : Option Addr) (cap : Nat) (rs : List (BitVec 8)) (n : BitVec 64) (h : rs.length < 56) : SeqOk Tryd.prog Gt 59 [.pointer (some ⟨br, 0, none⟩), .pointer (some ⟨bn, 0, none⟩)] [enc (LB (e1 rs) n 8)] (Rd37 br bn a cap rs n) := by
  intro l J Jx hJ hJx hRd hGx hY w hj
  have okJ : ∀ k, BOk Gt (Bi w (fun Y => J Y k)) := fun k => ⟨fun _ _ _ h => (hRd _ _ _ h.rid).1, hJ k⟩
  have okX : ∀ k, BOk Gt (Bi w (fun Y => Jx Y k)) := fun k => ⟨fun _ _ _ h => hGx _ _ _ h.rid, hJx k⟩
  have c1 : ∀ k L w', Hp (Bi w (fun Y => J Y k)) L w' → Rd37 br bn a cap rs n w' := fun k L w' h => (hRd _ _ _ h.rid).2
  refine calls_of_X (G := Gt) Tryd.func59 rfl rfl (Hp (Bi w (fun Y => J Y 0)) []) (hp_refl (Bi w _) hj (hJ 0)) (good_hp (okJ 0)) ?_
  refine xs_plain (E := EE []) ?_
  refine lx_allocr 4 (okJ _) zv85 rfl rfl ?_
  intro b4
  refine lx_nil ?_
  refine xs_drawn (E := EE []) mixed (by kernel_rfl) (by kernel_rfl) (by kernel_rfl) ?_
  refine lx_slarr1 (l := 0) (h' := 64) rfl Tryd.underlying85 Tryd.sizeOf5 rfl rfl (by omega) (by omega) rfl rfl ?_
  refine lx_load rfl Tryd.isAgg39 (fun w h => (c1 _ _ w h).1) rfl rfl ?_
  refine lx_copys 4 (okJ _) rfl rfl rfl Tryd.underlying39 info5 (by show rs.length = Nat.min rs.length 64; exact (Nat.min_eq_left (by omega)).symm) (fun w h => (c1 _ _ w h).2.2) (by simp; omega) rfl rfl ?_
  rw [lay_pad rs 64 (by omega)]
  refine lx_nil ?_
  refine xs_plain (E := EE []) ?_
  refine lx_load rfl Tryd.isAgg39 (fun w h => (c1 _ _ w h).1) rfl rfl ?_
  refine lx_len rfl (fun _ => len_slice Tryd.underlying39 _ _ _ _) rfl rfl ?_
  refine lx_ia0 (rs.length) rfl rfl Tryd.underlying85 Tryd.sizeOf5 (by omega) (by omega) rfl rfl ?_
  refine lx_storem 4 U8 (okJ _) rfl rfl rfl Tryd.sizeOf5 rfl (by simp; omega) rfl ?_
  refine lx_nil ?_
  refine x_seq ?_
  refine xs_plain (E := EE []) ?_
  refine lx_load rfl Tryd.isAgg39 (fun w h => (c1 _ _ w h).1) rfl rfl ?_
  refine lx_len rfl (fun _ => len_slice Tryd.underlying39 _ _ _ _) rfl rfl ?_
  refine lx_bin rfl rfl (fun _ => rfl) (fun _ => bin_geq_i _ _ _) rfl rfl ?_
  refine lx_nil ?_
  refine x_false (by show some (Value.bool (decide ((rs.length : Int) ≥ 56))) = _; rw [decide_eq_false (by omega)]) ?_
  refine x_skip ?_
  refine xs_plain (E := EE []) ?_
  refine lx_load rfl Tryd.isAgg25 (fun w h => (c1 _ _ w h).2.1) rfl rfl ?_
  refine lx_bin rfl rfl (fun _ => rfl) (fun _ => bin_mul_u64 _ _ _) rfl rfl ?_
  refine lx_assign rfl rfl rfl ?_
  refine lx_nil ?_
  refine x_seq ?_
  refine xs_plain (E := EE []) ?_
  refine lx_move rfl rfl rfl ?_
  refine lx_nil ?_
  refine x_block ?_
  refine x_for (ι := { i : Nat // i ≤ 8 }) (fun x => [(23, I (x.1 : Int)), (0, .func (.yield l) #[] #[]), (4, .pointer (some ⟨b4, 0, none⟩)), (5, U64 (8#64 * n))]) (fun x => [(4, b4, (LB (e1 rs) n x.1).map U8, 85)]) (fun x => 8 - x.1) ⟨0, by omega⟩ (okJ _) ⟨rfl, rfl, rfl, rfl, trivial⟩ ⟨rfl, trivial⟩ ?_
  rintro ⟨i, hi⟩
  dsimp only
  refine xs_plain (E := EE []) ?_
  refine lx_bin rfl rfl (fun _ => rfl) (fun _ => bin_lss_i _ _ _) rfl rfl ?_
  refine lx_nil ?_
  refine x_seq ?_
  refine x_if rfl (fun hc => ?_) (fun hc => ?_)
  · simp only [decide_eq_true_eq] at hc
    refine x_skip ?_
    refine x_seq ?_
    refine x_block ?_
    refine xs_plain (E := EE []) ?_
    refine lx_move rfl rfl rfl ?_
    refine lx_assign rfl rfl rfl ?_
    refine lx_nil ?_
    refine x_plain (E := EE []) ?_
    refine lx_move rfl rfl rfl ?_
    refine lx_bin rfl rfl (fun _ => rfl) (fun _ => bin_add_i _ _ _ (by unfold inI; omega)) rfl rfl ?_
    refine lx_move rfl rfl rfl ?_
    refine lx_move rfl rfl rfl ?_
    refine lx_bin rfl rfl (fun _ => rfl) (fun _ => bin_mul_i _ _ _ (by unfold inI; omega)) rfl rfl ?_
    refine lx_bin rfl rfl (fun _ => rfl) (fun _ => bin_sub_i _ _ _ (by unfold inI; omega)) rfl rfl ?_
    refine lx_bin rfl rfl (fun _ => rfl) (fun _ => bin_shr_i_u64 _ _ _ (by omega)) rfl rfl ?_
    refine lx_conv rfl rfl (fun _ => conv_u64_u8 Tryd.underlying25 Tryd.underlying5 _) rfl rfl ?_
    refine lx_ia0 ((56 + i)) rfl rfl Tryd.underlying85 Tryd.sizeOf5 (by omega) (by omega) rfl rfl ?_
    refine lx_storem 4 U8 (okJ _) rfl rfl rfl Tryd.sizeOf5 rfl (by rw [LBe_len rs n (by omega)]; omega) rfl ?_
    refine lx_nil ?_
    refine x_plain (E := EE []) ?_
    refine lx_bin rfl rfl (fun _ => rfl) (fun _ => bin_add_i _ _ _ (by unfold inI; omega)) rfl rfl ?_
    refine lx_move rfl rfl rfl ?_
    refine lx_nil ?_
    refine kseq_n ?_
    exact ⟨rfl, ⟨i + 1, by omega⟩, _, by show 8 - (i + 1) < 8 - i; omega, rfl, ⟨rfl, rfl, rfl, rfl, trivial⟩, ⟨rfl, trivial⟩⟩
  · obtain rfl : i = 8 := by simp at hc; omega
    refine x_exit ?_
    refine x_plain (E := EE []) ?_
    refine lx_move rfl rfl rfl ?_
    refine lx_loada 4 rfl rfl Tryd.isAgg85 Tryd.sizeOf85 (by rw [List.length_map, LBe_len rs n (by omega)]) rfl rfl ?_
    refine lx_yield (hY.b (k := 0) rfl w) (okJ _) (okX _) rfl rfl rfl rfl rfl ?_ ?_
    · skip
      refine lx_nil ?_
      exact kend_none rfl (fun w hw => ⟨⟨_, rfl⟩, .inl (drop_yof (hJ _) hw.rid)⟩)
    · skip
      refine lx_nil ?_
      exact kend_none rfl (fun w hw => ⟨⟨_, rfl⟩, .inr ⟨_, drop_yof (hJx _) hw.rid⟩⟩)
theorem end_long (br bn : Nat) (a : Option Addr) (cap : Nat) (rs : List (BitVec 8)) (n : BitVec 64) (h : 56 ≤ rs.length) (h2 : rs.length < 64) : SeqOk Tryd.prog Gt 59 [.pointer (some ⟨br, 0, none⟩), .pointer (some ⟨bn, 0, none⟩)] [enc (e1 rs), enc (LB (List.replicate 64 0#8) n 8)] (Rd37 br bn a cap rs n) := by
  intro l J Jx hJ hJx hRd hGx hY w hj
  have okJ : ∀ k, BOk Gt (Bi w (fun Y => J Y k)) := fun k => ⟨fun _ _ _ h => (hRd _ _ _ h.rid).1, hJ k⟩
  have okX : ∀ k, BOk Gt (Bi w (fun Y => Jx Y k)) := fun k => ⟨fun _ _ _ h => hGx _ _ _ h.rid, hJx k⟩
  have c1 : ∀ k L w', Hp (Bi w (fun Y => J Y k)) L w' → Rd37 br bn a cap rs n w' := fun k L w' h => (hRd _ _ _ h.rid).2
  refine calls_of_X (G := Gt) Tryd.func59 rfl rfl (Hp (Bi w (fun Y => J Y 0)) []) (hp_refl (Bi w _) hj (hJ 0)) (good_hp (okJ 0)) ?_
  refine xs_plain (E := EE []) ?_
  refine lx_allocr 4 (okJ _) zv85 rfl rfl ?_
  intro b4
  refine lx_nil ?_
  refine xs_drawn (E := EE []) mixed (by kernel_rfl) (by kernel_rfl) (by kernel_rfl) ?_
  refine lx_slarr1 (l := 0) (h' := 64) rfl Tryd.underlying85 Tryd.sizeOf5 rfl rfl (by omega) (by omega) rfl rfl ?_
  refine lx_load rfl Tryd.isAgg39 (fun w h => (c1 _ _ w h).1) rfl rfl ?_
  refine lx_copys 4 (okJ _) rfl rfl rfl Tryd.underlying39 info5 (by show rs.length = Nat.min rs.length 64; exact (Nat.min_eq_left (by omega)).symm) (fun w h => (c1 _ _ w h).2.2) (by simp; omega) rfl rfl ?_
  rw [lay_pad rs 64 (by omega)]
  refine lx_nil ?_
  refine xs_plain (E := EE []) ?_
  refine lx_load rfl Tryd.isAgg39 (fun w h => (c1 _ _ w h).1) rfl rfl ?_
  refine lx_len rfl (fun _ => len_slice Tryd.underlying39 _ _ _ _) rfl rfl ?_
  refine lx_ia0 (rs.length) rfl rfl Tryd.underlying85 Tryd.sizeOf5 (by omega) (by omega) rfl rfl ?_
  refine lx_storem 4 U8 (okJ _) rfl rfl rfl Tryd.sizeOf5 rfl (by simp; omega) rfl ?_
  refine lx_nil ?_
  refine x_seq ?_
  refine xs_plain (E := EE []) ?_
  refine lx_load rfl Tryd.isAgg39 (fun w h => (c1 _ _ w h).1) rfl rfl ?_
  refine lx_len rfl (fun _ => len_slice Tryd.underlying39 _ _ _ _) rfl rfl ?_
  refine lx_bin rfl rfl (fun _ => rfl) (fun _ => bin_geq_i _ _ _) rfl rfl ?_
  refine lx_nil ?_
  refine x_true (by show some (Value.bool (decide ((rs.length : Int) ≥ 56))) = _; rw [decide_eq_true (by omega)]) ?_
  refine x_seq ?_
  refine xs_plain (E := EE []) ?_
  refine lx_move rfl rfl rfl ?_
  refine lx_loada 4 rfl rfl Tryd.isAgg85 Tryd.sizeOf85 (by simp; omega) rfl rfl ?_
  refine lx_yield (hY.b (k := 0) rfl w) (okJ _) (okX _) rfl rfl rfl rfl rfl ?_ ?_
  · skip
    refine lx_un rfl (fun _ => un_not _) rfl rfl ?_
    refine lx_nil ?_
    refine x_false rfl ?_
    refine x_skip ?_
    refine x_plain (E := EE []) ?_
    refine lx_buildz zv85 Tryd.underlying85 Tryd.sizeOf5 rfl rfl ?_
    refine lx_storea 4 (okJ _) rfl rfl rfl Tryd.sizeOf85 (by rw [List.length_map, List.length_replicate]) (by simp; omega) (one_u8 _) rfl ?_
    refine lx_nil ?_
    refine xs_plain (E := EE []) ?_
    refine lx_load rfl Tryd.isAgg25 (fun w h => (c1 _ _ w h).2.1) rfl rfl ?_
    refine lx_bin rfl rfl (fun _ => rfl) (fun _ => bin_mul_u64 _ _ _) rfl rfl ?_
    refine lx_assign rfl rfl rfl ?_
    refine lx_nil ?_
    refine x_seq ?_
    refine xs_plain (E := EE []) ?_
    refine lx_move rfl rfl rfl ?_
    refine lx_nil ?_
    refine x_block ?_
    refine x_for (ι := { i : Nat // i ≤ 8 }) (fun x => [(23, I (x.1 : Int)), (0, .func (.yield l) #[] #[]), (4, .pointer (some ⟨b4, 0, none⟩)), (5, U64 (8#64 * n))]) (fun x => [(4, b4, (LB (List.replicate 64 0#8) n x.1).map U8, 85)]) (fun x => 8 - x.1) ⟨0, by omega⟩ (okJ _) ⟨rfl, rfl, rfl, rfl, trivial⟩ ⟨rfl, trivial⟩ ?_
    rintro ⟨i, hi⟩
    dsimp only
    refine xs_plain (E := EE []) ?_
    refine lx_bin rfl rfl (fun _ => rfl) (fun _ => bin_lss_i _ _ _) rfl rfl ?_
    refine lx_nil ?_
    refine x_seq ?_
    refine x_if rfl (fun hc => ?_) (fun hc => ?_)
    · simp only [decide_eq_true_eq] at hc
      refine x_skip ?_
      refine x_seq ?_
      refine x_block ?_
      refine xs_plain (E := EE []) ?_
      refine lx_move rfl rfl rfl ?_
      refine lx_assign rfl rfl rfl ?_
      refine lx_nil ?_
      refine x_plain (E := EE []) ?_
      refine lx_move rfl rfl rfl ?_
      refine lx_bin rfl rfl (fun _ => rfl) (fun _ => bin_add_i _ _ _ (by unfold inI; omega)) rfl rfl ?_
      refine lx_move rfl rfl rfl ?_
      refine lx_move rfl rfl rfl ?_
      refine lx_bin rfl rfl (fun _ => rfl) (fun _ => bin_mul_i _ _ _ (by unfold inI; omega)) rfl rfl ?_
      refine lx_bin rfl rfl (fun _ => rfl) (fun _ => bin_sub_i _ _ _ (by unfold inI; omega)) rfl rfl ?_
      refine lx_bin rfl rfl (fun _ => rfl) (fun _ => bin_shr_i_u64 _ _ _ (by omega)) rfl rfl ?_
      refine lx_conv rfl rfl (fun _ => conv_u64_u8 Tryd.underlying25 Tryd.underlying5 _) rfl rfl ?_
      refine lx_ia0 ((56 + i)) rfl rfl Tryd.underlying85 Tryd.sizeOf5 (by omega) (by omega) rfl rfl ?_
      refine lx_storem 4 U8 (okJ _) rfl rfl rfl Tryd.sizeOf5 rfl (by rw [LBz_len]; omega) rfl ?_
      refine lx_nil ?_
      refine x_plain (E := EE []) ?_
      refine lx_bin rfl rfl (fun _ => rfl) (fun _ => bin_add_i _ _ _ (by unfold inI; omega)) rfl rfl ?_
      refine lx_move rfl rfl rfl ?_
      refine lx_nil ?_
      refine kseq_n ?_
      exact ⟨rfl, ⟨i + 1, by omega⟩, _, by show 8 - (i + 1) < 8 - i; omega, rfl, ⟨rfl, rfl, rfl, rfl, trivial⟩, ⟨rfl, trivial⟩⟩
    · obtain rfl : i = 8 := by simp at hc; omega
      refine x_exit ?_
      refine x_plain (E := EE []) ?_
      refine lx_move rfl rfl rfl ?_
      refine lx_loada 4 rfl rfl Tryd.isAgg85 Tryd.sizeOf85 (by rw [List.length_map, LBz_len]) rfl rfl ?_
      refine lx_yield (hY.b (k := 1) rfl w) (okJ _) (okX _) rfl rfl rfl rfl rfl ?_ ?_
      · skip
        refine lx_nil ?_
        exact kend_none rfl (fun w hw => ⟨⟨_, rfl⟩, .inl (drop_yof (hJ _) hw.rid)⟩)
      · skip
        refine lx_nil ?_
        exact kend_none rfl (fun w hw => ⟨⟨_, rfl⟩, .inr ⟨_, drop_yof (hJx _) hw.rid⟩⟩)
  · skip
    refine lx_un rfl (fun _ => un_not _) rfl rfl ?_
    refine lx_nil ?_
    refine x_true rfl ?_
    refine x_ret ?_
    repeat (first | refine kseq_ret ?_ | refine kblk_ret ?_)
    exact kret_none rfl (fun w hw => ⟨⟨_, rfl⟩, .inr ⟨_, drop_yof (hJx _) hw.rid⟩⟩)
end Sh
end Go.Proofs.YtdkkipjcmflclaaDoor
