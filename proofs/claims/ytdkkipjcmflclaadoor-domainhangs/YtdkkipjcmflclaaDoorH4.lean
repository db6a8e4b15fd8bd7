/-
  The walks of sha.Pair, slices.Clone, sha.Blocks.
-/
import Derived.Test.YtdkkipjcmflclaaDoorH3
import Derived.Lib.BufferMore
namespace Go.Proofs.YtdkkipjcmflclaaDoor
open Go.RowKit
set_option maxRecDepth 100000
namespace Sh
theorem lay_two (a b : List (BitVec 8)) (ha : a.length = 32) (hb : b.length = 32) : lay 32 (b.map U8) ((a ++ List.replicate (64 - a.length) 0#8).map U8) = (a ++ b).map U8 := by
  rw [lay_eq _ _ _ (by simp [ha, hb])]
  simp [ha, hb]

theorem pair_pure (a b : List (BitVec 8)) (ha : a.length = 32) (hb : b.length = 32) : Pure Tryd.prog Gt 45 [.agg (a.map U8).toArray, .agg (b.map U8).toArray] (.agg ((SHA (a ++ b)).map U8).toArray) := by
  intro w hw
  have hGF : BOk Gt (pl w) := gt_low.plain hw
  have hab : (a ++ b).length = 64 := by simp [ha, hb]
  refine calls_of_X (G := Gt) Tryd.func45 rfl rfl (Hp (pl w) []) (hp_refl (pl w) trivial rides_true) (good_hp hGF) ?_
  refine xs_plain (E := EE []) ?_
  refine lx_boxr 2 hGF rfl rfl rfl ?_
  intro b2
  refine lx_boxr 3 hGF rfl rfl rfl ?_
  intro b3
  refine lx_allocr 4 hGF zv22 rfl rfl ?_
  intro b4
  refine lx_nil ?_
  refine xs_plain (E := EE []) ?_
  refine lx_allocr 5 hGF zv85 rfl rfl ?_
  intro b5
  refine lx_nil ?_
  refine xs_drawn (E := EE []) mixed (by kernel_rfl) (by kernel_rfl) (by kernel_rfl) ?_
  refine lx_slarr1 (l := 0) (h' := 32) rfl Tryd.underlying85 Tryd.sizeOf5 rfl rfl (by omega) (by omega) rfl rfl ?_
  refine lx_slarr1 (l := 0) (h' := 32) rfl Tryd.underlying22 Tryd.sizeOf5 rfl rfl (by omega) (by omega) rfl rfl ?_
  refine lx_copys (cs := a) 5 hGF rfl rfl rfl Tryd.underlying39 info5 (by rw [ha]; rfl) (fun w' h => BytesAt.range (hp_row (n := 2) rfl w' h)) (by rw [ha, List.length_map, List.length_replicate]; decide) rfl rfl ?_
  rw [lay_pad a 64 (by rw [ha]; decide)]
  refine lx_nil ?_
  refine xs_drawn (E := EE []) mixed (by kernel_rfl) (by kernel_rfl) (by kernel_rfl) ?_
  refine lx_slarr1 (l := 32) (h' := 64) rfl Tryd.underlying85 Tryd.sizeOf5 rfl rfl (by omega) (by omega) rfl rfl ?_
  refine lx_slarr1 (l := 0) (h' := 32) rfl Tryd.underlying22 Tryd.sizeOf5 rfl rfl (by omega) (by omega) rfl rfl ?_
  refine lx_copys (cs := b) 5 hGF rfl rfl rfl Tryd.underlying39 info5 (by rw [hb]; rfl) (fun w' h => BytesAt.range (hp_row (n := 3) rfl w' h)) (by rw [hb]; simp [ha]) rfl rfl ?_
  rw [lay_two a b ha hb]
  refine lx_nil ?_
  refine xs_plain (E := EE []) ?_
  refine lx_slarr1 (l := 0) (h' := 64) rfl Tryd.underlying85 Tryd.sizeOf5 rfl rfl (by omega) (by omega) rfl rfl ?_
  refine lx_callC rfl rfl ent48 (fun w' hw' hG => by have := sum_calls (some ⟨b5, 0, none⟩) 64 (a ++ b) (by rw [hab]; decide) w' hG (BytesAt.range (hp_row (n := 5) rfl w' hw')); rw [hab] at this; exact this) rfl rfl ?_
  refine lx_storea 4 hGF rfl rfl rfl Tryd.sizeOf22 (by rw [List.length_map, SHA_len]) (by rw [List.length_map, List.length_replicate]) (one_u8 _) rfl ?_
  refine lx_nil ?_
  refine x_ret ?_
  repeat (first | refine kseq_ret ?_ | refine kblk_ret ?_)
  exact kret_own 4 rfl rfl rfl Tryd.isAgg22 Tryd.sizeOf22 (by rw [List.length_map, SHA_len]) (fun w hw => ⟨rfl, hp_below hw⟩)
theorem ti5 : TI Tryd.prog 5 (.int .u8 0) 1 1 := ti_mk (by kernel_rfl)
/-- A copy of bytes, of its own memory. -/
def Cln (w w' : World) (bs : List (BitVec 8)) (sv : Value) : Prop :=
  (bs = [] ∧ sv = .slice none 0 0) ∨ ∃ b c cap1, sv = .slice (some ⟨b, 0, none⟩) bs.length cap1 ∧ w.heap.size ≤ b ∧ OwnB w' b c 5 ∧ c.length = cap1 ∧ bs.length ≤ cap1 ∧ c.take bs.length = bs.map U8
theorem Cln.cells {w w' : World} {bs : List (BitVec 8)} {sv : Value} (h : Cln w w' bs sv) : sv.cells = #[sv] := by
  rcases h with ⟨_, rfl⟩ | ⟨_, _, _, rfl, _⟩ <;> rfl
end Sh
end Go.Proofs.YtdkkipjcmflclaaDoor
