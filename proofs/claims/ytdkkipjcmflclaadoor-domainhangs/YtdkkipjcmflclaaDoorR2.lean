/-
  The walks of pharosref1.Table and pharosref1.New.
-/
import Derived.Test.YtdkkipjcmflclaaDoorR1
import Derived.Test.YtdkkipjcmflclaaDoorX2
namespace Go.Proofs.YtdkkipjcmflclaaDoor
open Go.RowKit
set_option maxRecDepth 100000
namespace Sh
theorem zv53 : ∀ w, (zeroValue 53).run Tryd.prog w = .ok (.agg ((List.replicate 72 0#32).map U32).toArray) w := fun _ => by kernel_rfl
/-- What a Maker holds. -/
def MK : List (BitVec 32) := IV ++ KW

theorem table_pure : Pure Tryd.prog Gt 23 [] (.tuple #[.agg (IV.map U32).toArray, .agg (KW.map U32).toArray]) := by
  intro w hw
  have hGF : BOk Gt (pl w) := gt_low.plain hw
  refine calls_of_X (G := Gt) Tryd.func23 rfl rfl (Hp (pl w) []) (hp_refl (pl w) trivial rides_true) (good_hp hGF) ?_
  refine xs_plain (E := EE []) ?_
  refine lx_allocr 0 hGF zv50 rfl rfl ?_
  intro b0
  refine lx_allocr 1 hGF zv51 rfl rfl ?_
  intro b1
  refine lx_nil ?_
  refine xs_plain (E := EE []) ?_
  refine lx_buildr (n := 8) rfl rfl Tryd.underlying50 Tryd.sizeOf49 Tryd.zeroValue50 rfl rfl rfl rfl ?_
  refine lx_buildr (n := 64) rfl rfl Tryd.underlying51 Tryd.sizeOf49 Tryd.zeroValue51 rfl rfl rfl rfl ?_
  refine lx_storea (vs := IV.map U32) 0 hGF rfl rfl rfl Tryd.sizeOf50 rfl (by rw [List.length_map, List.length_replicate]) (one_u32 _) rfl ?_
  refine lx_storea (vs := KW.map U32) 1 hGF rfl rfl rfl Tryd.sizeOf51 rfl (by rw [List.length_map, List.length_replicate]) (one_u32 _) rfl ?_
  refine lx_nil ?_
  refine x_ret ?_
  repeat (first | refine kseq_ret ?_ | refine kblk_ret ?_)
  exact kret_two (c1 := IV.map U32) (c2 := KW.map U32) 0 1 rfl rfl rfl rfl rfl Tryd.isAgg50 Tryd.sizeOf50 rfl Tryd.isAgg51 Tryd.sizeOf51 rfl (fun w hw => ⟨rfl, hp_below hw⟩)
theorem new_calls (w : World) (hw : Gt w) : Calls Tryd.prog 17 [].toArray w (fun e w' => ∃ bm, e = .returned (.pointer (some ⟨bm, 0, none⟩)) ∧ Grow w w' ∧ w.heap.size ≤ bm ∧ OwnB w' bm (MK.map U32) 53) := by
  have hGF : BOk Gt (pl w) := gt_low.plain hw
  refine calls_of_X (G := Gt) Tryd.func17 rfl rfl (Hp (pl w) []) (hp_refl (pl w) trivial rides_true) (good_hp hGF) ?_
  refine xs_plain (E := EE []) ?_
  refine lx_assign rfl rfl rfl ?_
  refine lx_nil ?_
  refine xs_plain (E := EE []) ?_
  refine lx_builds zv53 Tryd.underlying53 (fun _ => ⟨#[(0, 8), (8, 64)], by kernel_rfl⟩) rfl rfl ?_
  refine lx_boxr 3 hGF rfl rfl rfl ?_
  intro b3
  refine lx_assign rfl rfl rfl ?_
  refine lx_nil ?_
  refine xs_plain (E := EE []) ?_
  refine lx_move rfl rfl rfl ?_
  refine lx_move rfl rfl rfl ?_
  refine lx_call rfl rfl ent23 (table_pure) rfl rfl ?_
  refine lx_move rfl rfl rfl ?_
  refine lx_ext rfl rfl rfl rfl ?_
  refine lx_ext rfl rfl rfl rfl ?_
  refine lx_nilc rfl rfl rfl ?_
  refine lx_fak 0 rfl Tryd.underlying53 rfl Tryd.sizeOf50 (by decide) rfl rfl rfl ?_
  refine lx_storer (vs := IV.map U32) 3 hGF rfl rfl rfl Tryd.sizeOf50 rfl (one_u32 _) (by decide) rfl ?_
  refine lx_nilc rfl rfl rfl ?_
  refine lx_fak 8 rfl Tryd.underlying53 rfl Tryd.sizeOf51 (by decide) rfl rfl rfl ?_
  refine lx_storer (vs := KW.map U32) 3 hGF rfl rfl rfl Tryd.sizeOf51 rfl (one_u32 _) (by decide) rfl ?_
  rw [show lay 8 (KW.map U32) (lay 0 (IV.map U32) ((List.replicate 72 0#32).map U32)) = MK.map U32 from rfl]
  refine lx_nil ?_
  refine xs_plain (E := EE []) ?_
  refine lx_move rfl rfl rfl ?_
  refine lx_assign rfl rfl rfl ?_
  refine lx_nil ?_
  refine x_ret ?_
  repeat (first | refine kseq_ret ?_ | refine kblk_ret ?_)
  exact kret_tmp rfl rfl (fun w hw => ⟨b3, rfl, hp_below hw, (hw.own 3 b3 _ _ rfl).2.elim id False.elim, (hw.own 3 b3 _ _ rfl).1⟩)
end Sh
end Go.Proofs.YtdkkipjcmflclaaDoor
