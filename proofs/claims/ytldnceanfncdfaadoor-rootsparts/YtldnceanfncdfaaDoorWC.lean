/-
  The document's roots of keys, of headers, of branches.
-/
import Derived.Test.YtldnceanfncdfaaDoorWS
namespace Go.Proofs.YtldnceanfncdfaaDoor
open Go.RowKit
set_option maxRecDepth 100000
set_option maxHeartbeats 1000000
open Sh
theorem mem_get {l : List Rt} {i : Nat} (h : i < l.length) : l.getD i [] ∈ l := by
  rw [List.getD_eq_getElem?_getD, List.getElem?_eq_getElem h]
  exact List.getElem_mem h
theorem hky_calls (bm : Nat) (k : By) (hk : k.length = 48) (w : World) (hw : Gt w) (ho : MkAt w bm) : Calls Tryd.prog 23 [.agg [.pointer (some ⟨bm, 0, none⟩)].toArray, .agg (k.map U8).toArray].toArray w (fun e w' => e = .returned (.agg ((BR8 k).map U8).toArray) ∧ Grow w w') := by
  have hGF : BOk Gt (pl w) := gt_low.plain hw
  refine calls_of_X (G := Gt) Tryd.func23 rfl rfl (Hp (pl w) []) (hp_refl (pl w) trivial rides_true) (good_hp hGF) ?_
  refine xs_plain (E := EE []) ?_
  refine lx_boxr 2 hGF rfl rfl rfl ?_
  intro b2
  refine lx_boxr 3 hGF rfl rfl rfl ?_
  intro b3
  refine lx_allocr 4 hGF zv24 rfl rfl ?_
  intro b4
  refine lx_nil ?_
  refine xs_drawn (E := EE []) mixed (by kernel_rfl) (by kernel_rfl) (by kernel_rfl) ?_
  refine lx_loada 2 rfl rfl Tryd.isAgg47 Tryd.sizeOf47 rfl rfl rfl ?_
  refine lx_slarr0 (n := 48) rfl Tryd.underlying29 Tryd.sizeOf5 (by decide) rfl rfl ?_
  refine lx_callC rfl rfl ent41 (fun w' hw' hG => by rw [← hk]; exact hby_calls bm k (by rw [hk]; decide) _ k.length (Nat.le_refl _) w' hG (ho.of_same ((hp_below hw').block _ ho.lt)) (BytesAt.range (hp_row (n := 3) rfl w' hw'))) rfl rfl ?_
  refine lx_storea 4 hGF rfl rfl rfl Tryd.sizeOf24 (by rw [List.length_map]; exact BR8_len _) (by rw [List.length_map]; exact Z0_len) (one_u8 _) rfl ?_
  refine lx_nil ?_
  refine x_ret ?_
  repeat (first | refine kseq_ret ?_ | refine kblk_ret ?_)
  exact kret_own 4 rfl rfl rfl Tryd.isAgg24 Tryd.sizeOf24 (by rw [List.length_map]; exact BR8_len _) (fun w' hw' => ⟨rfl, hp_below hw'⟩)
end Go.Proofs.YtldnceanfncdfaaDoor
