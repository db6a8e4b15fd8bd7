/-
  The walks of package fp12: its parts.
-/
import Derived.Test.YtbpifgcbkhohbaaDoorW2
namespace Go.Proofs.YtbpifgcbkhohbaaDoor
open Go.RowKit
set_option maxRecDepth 100000
set_option maxHeartbeats 1000000
attribute [local simp] fe_len nm_len AS_len SS_len MONT_len RM_len FRs_len BYs_len by48_len PLl TWOl ONEl N1l IVPl HFPl RTPl FL_len SP_len fe2_len SP2_len FM_len FF_len
attribute [local simp] ff_len RW_len

theorem ent55 : Enters Tryd.prog 55 := fun _ _ => by kernel_rfl
theorem zv77 (w : World) : (zeroValue 77).run Tryd.prog w = .ok (.agg ((FM (FF fun _ => ze2) 6).map U64).toArray) w := by
  rw [zero_row]; exact (Tryd.zeroValue77 w).trans (by rfl)
/-- Six parts of the program's as a value. -/
abbrev TV6 (f : Nat → W2) : Value := .agg ((FM (FF f) 6).map U64).toArray
theorem six_in (f z : Nat → List (BitVec 64)) : ∀ i, i < 6 → updR f [0, 1, 2, 3, 4, 5] z i = f i := fun i hi => updR_at _ _ _ _ (.inl (by
  match i, hi with
  | 0, _ => decide
  | 1, _ => decide
  | 2, _ => decide
  | 3, _ => decide
  | 4, _ => decide
  | 5, _ => decide))
theorem k12list (x : W12) : Pure Tryd.prog Gt 56 [EV12 x] (TV6 (p12 x)) := by
  intro w hw
  have hGF : BOk Gt (pl w) := gt_low.plain hw
  refine calls_of_X (G := Gt) Tryd.func56 rfl rfl (Hp (pl w) []) (hp_refl (pl w) trivial rides_true) (good_hp hGF) ?_
  refine xs_plain (E := EE []) ?_
  refine lx_boxr 1 hGF rfl rfl rfl ?_
  intro b1
  refine lx_allocr 2 hGF zv77 rfl rfl ?_
  intro b2
  refine lx_nil ?_
  refine xs_plain (E := EE []) ?_
  refine lx_fak 0 rfl Tryd.underlying34 rfl Tryd.sizeOf32 (by decide) rfl rfl rfl ?_
  refine lx_fak 0 rfl Tryd.underlying32 rfl Tryd.sizeOf30 (by decide) rfl rfl rfl ?_
  refine lx_loado 1 _ rfl rfl Tryd.isAgg30 Tryd.sizeOf30 (by simp) (ld_in ld_l) rfl rfl ?_
  refine lx_fak 36 rfl Tryd.underlying34 rfl Tryd.sizeOf32 (by decide) rfl rfl rfl ?_
  refine lx_fak 36 rfl Tryd.underlying32 rfl Tryd.sizeOf30 (by decide) rfl rfl rfl ?_
  refine lx_loado 1 _ rfl rfl Tryd.isAgg30 Tryd.sizeOf30 (by simp) (ld_out (m := 36) (o := 0) (by simp) rfl ld_l) rfl rfl ?_
  refine lx_fak 0 rfl Tryd.underlying34 rfl Tryd.sizeOf32 (by decide) rfl rfl rfl ?_
  refine lx_fak 12 rfl Tryd.underlying32 rfl Tryd.sizeOf30 (by decide) rfl rfl rfl ?_
  refine lx_loado 1 _ rfl rfl Tryd.isAgg30 Tryd.sizeOf30 (by simp) (ld_in (ld_m (by simp))) rfl rfl ?_
  refine lx_fak 36 rfl Tryd.underlying34 rfl Tryd.sizeOf32 (by decide) rfl rfl rfl ?_
  refine lx_fak 48 rfl Tryd.underlying32 rfl Tryd.sizeOf30 (by decide) rfl rfl rfl ?_
  refine lx_loado 1 _ rfl rfl Tryd.isAgg30 Tryd.sizeOf30 (by simp) (ld_out (m := 36) (o := 12) (by simp) rfl (ld_m (m := 12) (by simp))) rfl rfl ?_
  refine lx_fak 0 rfl Tryd.underlying34 rfl Tryd.sizeOf32 (by decide) rfl rfl rfl ?_
  refine lx_fak 24 rfl Tryd.underlying32 rfl Tryd.sizeOf30 (by decide) rfl rfl rfl ?_
  refine lx_loado 1 _ rfl rfl Tryd.isAgg30 Tryd.sizeOf30 (by simp) (ld_in (ld_rr (m := 12) (n := 12) (by simp) (by simp) rfl)) rfl rfl ?_
  refine lx_fak 36 rfl Tryd.underlying34 rfl Tryd.sizeOf32 (by decide) rfl rfl rfl ?_
  refine lx_fak 60 rfl Tryd.underlying32 rfl Tryd.sizeOf30 (by decide) rfl rfl rfl ?_
  refine lx_loado 1 _ rfl rfl Tryd.isAgg30 Tryd.sizeOf30 (by simp) (ld_out (m := 36) (o := 24) (by simp) rfl (ld_rr (m := 12) (n := 12) (by simp) (by simp) rfl)) rfl rfl ?_
  refine lx_rowsW (s := 12) (FF (p12 x)) (FF (p12 x)) [0, 1, 2, 3, 4, 5] rfl rfl rfl (fun i _ => fe2_len _) Tryd.underlying77 Tryd.sizeOf30 zv77 (six_in _ _) rfl rfl ?_
  refine lx_storea 2 hGF rfl rfl rfl Tryd.sizeOf77 (by simp) (by simp) (one_u64 _) rfl ?_
  refine lx_nil ?_
  refine x_ret ?_
  repeat (first | refine kseq_ret ?_ | refine kblk_ret ?_)
  exact kret_own 2 rfl rfl rfl Tryd.isAgg77 Tryd.sizeOf77 (by simp) (fun w hw => ⟨rfl, hp_below hw⟩)
theorem k12parts_calls (x : W12) (w : World) (hw : Gt w) : Calls Tryd.prog 36 [EV12 x].toArray w (fun e w' => ∃ b1, e = .returned (.func (.func 55) #[] #[.pointer (some ⟨b1, 0, none⟩)]) ∧ Grow w w' ∧ w.heap.size ≤ b1 ∧ OwnB w' b1 ((((fe (x.1.1).1 ++ fe (x.1.1).2) ++ ((fe (x.1.2.1).1 ++ fe (x.1.2.1).2) ++ (fe (x.1.2.2).1 ++ fe (x.1.2.2).2))) ++ ((fe (x.2.1).1 ++ fe (x.2.1).2) ++ ((fe (x.2.2.1).1 ++ fe (x.2.2.1).2) ++ (fe (x.2.2.2).1 ++ fe (x.2.2.2).2)))).map U64) 34) := by
  have hGF : BOk Gt (pl w) := gt_low.plain hw
  refine calls_of_X (G := Gt) Tryd.func36 rfl rfl (Hp (pl w) []) (hp_refl (pl w) trivial rides_true) (good_hp hGF) ?_
  refine xs_plain (E := EE []) ?_
  refine lx_boxr 1 hGF rfl rfl rfl ?_
  intro b1
  refine lx_assign rfl rfl rfl ?_
  refine lx_nil ?_
  refine xs_plain (E := EE []) ?_
  refine lx_func rfl rfl rfl rfl ?_
  refine lx_assign rfl rfl rfl ?_
  refine lx_nil ?_
  refine x_ret ?_
  repeat (first | refine kseq_ret ?_ | refine kblk_ret ?_)
  exact kret_tmp rfl rfl (fun w hw => ⟨b1, rfl, hp_below hw, (hw.own 1 b1 _ _ rfl).2.elim id False.elim, (hw.own 1 b1 _ _ rfl).1⟩)
def PS12 (x : W12) : List (List Value) := (List.range 6).map fun (k : Nat) => [I (k : Int), EV2 (p12 x k)]
theorem PS12_len (x : W12) : (PS12 x).length = 6 := by rw [PS12, List.length_map, List.length_range]
theorem PS12_get (x : W12) (k : Nat) (h : k < 6) : (PS12 x)[k]? = some [I (k : Int), EV2 (p12 x k)] := by
  rw [PS12, List.getElem?_map, List.getElem?_range h]; rfl
theorem PS12_at (x : W12) (k : Nat) (v : List Value) (h : (PS12 x)[k]? = some v) : k < 6 ∧ v = [I (k : Int), EV2 (p12 x k)] := by
  have hk : k < 6 := by
    rcases Nat.lt_or_ge k 6 with hk | hk
    · exact hk
    · rw [List.getElem?_eq_none (by rw [PS12_len]; exact hk)] at h; cases h
  exact ⟨hk, (Option.some.inj ((PS12_get x k hk).symm.trans h)).symm⟩
def RdP12 (bb : Nat) (x : W12) : Cls := fun w => w.rangeAt bb 0 ((((fe (x.1.1).1 ++ fe (x.1.1).2) ++ ((fe (x.1.2.1).1 ++ fe (x.1.2.1).2) ++ (fe (x.1.2.2).1 ++ fe (x.1.2.2).2))) ++ ((fe (x.2.1).1 ++ fe (x.2.1).2) ++ ((fe (x.2.2.1).1 ++ fe (x.2.2.1).2) ++ (fe (x.2.2.2).1 ++ fe (x.2.2.2).2)))).map U64)
theorem k12seq (bb : Nat) (x : W12) : SeqOk Tryd.prog Gt 55 [.pointer (some ⟨bb, 0, none⟩)] (PS12 x) (RdP12 bb x) := by
  intro l J Jx hJ hJx hRd hGx hY w hj
  have okJ : ∀ k, BOk Gt (Bi w (fun Y => J Y k)) := fun k => ⟨fun _ _ _ h => (hRd _ _ _ h.rid).1, hJ k⟩
  have okX : ∀ k, BOk Gt (Bi w (fun Y => Jx Y k)) := fun k => ⟨fun _ _ _ h => hGx _ _ _ h.rid, hJx k⟩
  have c1 : ∀ k L w', Hp (Bi w (fun Y => J Y k)) L w' → RdP12 bb x w' := fun k L w' h => (hRd _ _ _ h.rid).2
  refine calls_of_X (G := Gt) Tryd.func55 rfl rfl (Hp (Bi w (fun Y => J Y 0)) []) (hp_refl (Bi w _) hj (hJ 0)) (good_hp (okJ 0)) ?_
  refine xs_plain (E := EE []) ?_
  refine lx_loadr rfl Tryd.isAgg34 Tryd.sizeOf34 (by simp) (fun w h => c1 _ _ w h) rfl rfl ?_
  refine lx_call rfl rfl ent56 (k12list _) rfl rfl ?_
  refine lx_move rfl rfl rfl ?_
  refine lx_nil ?_
  refine x_block ?_
  refine x_forB (ι := { i : Nat // i ≤ 6 }) (fun y => [(0, .func (.yield l) #[] #[]), (1, .pointer (some ⟨bb, 0, none⟩)), (6, TV6 (p12 x)), (7, I (y.1 : Int))]) (fun y => Bi w (fun Y => J Y y.1)) (fun y => []) (fun y => 6 - y.1) ⟨0, Nat.zero_le _⟩ (fun _ => okJ _) rfl ⟨rfl, rfl, rfl, rfl, trivial⟩ trivial ?_
  rintro ⟨i, hi⟩
  dsimp only
  refine xs_plain (E := EE []) ?_
  refine lx_bin rfl rfl (fun _ => rfl) (fun _ => bin_lss_i _ _ _) rfl rfl ?_
  refine lx_nil ?_
  refine x_seq ?_
  refine x_if rfl (fun hc => ?_) (fun hc => ?_)
  · have hi2 : i < 6 := by simp at hc; omega
    refine x_skip ?_
    refine x_seq ?_
    refine x_block ?_
    refine xs_plain (E := EE []) ?_
    refine lx_move rfl rfl rfl ?_
    refine lx_idxF (FF (p12 x)) (i) rfl rfl Tryd.underlying77 Tryd.sizeOf30 Tryd.isAgg30 (by omega) (by omega) (fe2_len _) rfl rfl ?_
    refine lx_allocr 4 (okJ _) zv30 rfl rfl ?_
    intro b4
    refine lx_assign rfl rfl rfl ?_
    refine lx_storea 4 (okJ _) rfl rfl rfl Tryd.sizeOf30 (by simp) (by simp) (one_u64 _) rfl ?_
    refine lx_nil ?_
    refine xs_plain (E := EE []) ?_
    refine lx_move rfl rfl rfl ?_
    refine lx_move rfl rfl rfl ?_
    refine lx_loada 4 rfl rfl Tryd.isAgg30 Tryd.sizeOf30 (by simp) rfl rfl ?_
    refine lx_yield (hY.b (k := i) (PS12_get x i (by omega)) w) (okJ _) (okX _) rfl rfl rfl rfl rfl ?_ ?_
    · skip
      refine lx_un rfl (fun _ => un_not _) rfl rfl ?_
      refine lx_nil ?_
      refine x_false rfl ?_
      refine x_skip ?_
      refine x_plain (E := EE []) ?_
      refine lx_bin rfl rfl (fun _ => rfl) (fun _ => bin_add_i _ _ _ (by unfold inI; omega)) rfl rfl ?_
      refine lx_move rfl rfl rfl ?_
      refine lx_nil ?_
      repeat (refine kblk_n ?_)
      refine kseq_n ?_
      exact ⟨rfl, ⟨i + 1, by omega⟩, _, by show 6 - (i + 1) < 6 - i; omega, rfl, ⟨rfl, rfl, rfl, rfl, trivial⟩, trivial⟩
    · skip
      refine lx_un rfl (fun _ => un_not _) rfl rfl ?_
      refine lx_nil ?_
      refine x_true rfl ?_
      refine x_ret ?_
      repeat (first | refine kseq_ret ?_ | refine kblk_ret ?_)
      repeat (first | refine kseq_x ?_ | refine kblk_x ?_ | refine kblk_p rfl ?_ | refine kseq_ret ?_ | refine kblk_ret ?_)
      exact kret_none rfl (fun w hw => ⟨⟨_, rfl⟩, .inr ⟨_, drop_yof (hJx _) hw.rid⟩⟩)
  · obtain rfl : i = 6 := by simp at hc; omega
    refine x_exit ?_
    repeat (first | refine kseq_x ?_ | refine kblk_x ?_ | refine kblk_p rfl ?_ | refine kseq_ret ?_ | refine kblk_ret ?_)
    refine kend_none rfl (fun w hw => ⟨⟨_, rfl⟩, .inl ?_⟩)
    have := drop_yof (hJ _) hw.rid
    rw [PS12_len]
    exact this
end Go.Proofs.YtbpifgcbkhohbaaDoor
