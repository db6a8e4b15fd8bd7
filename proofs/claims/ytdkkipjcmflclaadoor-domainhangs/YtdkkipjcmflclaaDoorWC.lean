/-
  The document's roots of keys, of headers, of branches.
-/
import Derived.Test.YtdkkipjcmflclaaDoorWS
namespace Go.Proofs.YtdkkipjcmflclaaDoor
open Go.RowKit
set_option maxRecDepth 100000
set_option maxHeartbeats 1000000
open Sh
theorem mem_get {l : List Rt} {i : Nat} (h : i < l.length) : l.getD i [] ∈ l := by
  rw [List.getD_eq_getElem?_getD, List.getElem?_eq_getElem h]
  exact List.getElem_mem h
theorem hhd_calls (bm : Nat) (h : Hd) (hk : h.Ok) (w : World) (hw : Gt w) (ho : MkAt w bm) : Calls Tryd.prog 22 [.agg [.pointer (some ⟨bm, 0, none⟩)].toArray, .agg h.cs.toArray].toArray w (fun e w' => e = .returned (.agg ((h.rt).map U8).toArray) ∧ Grow w w') := by
  have hGF : BOk Gt (pl w) := gt_low.plain hw
  refine calls_of_X (G := Gt) Tryd.func22 rfl rfl (Hp (pl w) []) (hp_refl (pl w) trivial rides_true) (good_hp hGF) ?_
  refine xs_plain (E := EE [2999998]) ?_
  refine lx_boxr 2 hGF rfl rfl rfl ?_
  intro b2
  refine lx_boxr 3 hGF rfl rfl rfl ?_
  intro b3
  refine lx_allocr 4 hGF zv23 rfl rfl ?_
  intro b4
  refine lx_nil ?_
  refine xs_drawn (E := EE [2999998]) mixed (by kernel_rfl) (by kernel_rfl) (by kernel_rfl) ?_
  refine lx_loada 2 rfl rfl Tryd.isAgg33 Tryd.sizeOf33 rfl rfl rfl ?_
  refine lx_fak 0 rfl Tryd.underlying29 rfl Tryd.sizeOf25 (by decide) rfl rfl rfl ?_
  refine lx_load (v := U64 h.s) rfl Tryd.isAgg25 (fun w' hw' => (hp_row (n := 3) rfl w' hw') 0 _ rfl) rfl rfl ?_
  refine lx_callC rfl rfl ent32 (fun w' hw' hG => rch_calls h.s w' hG) rfl rfl ?_
  rw [show pad32 (le8 h.s 8) = nR h.s from rfl]
  refine lx_fak 1 rfl Tryd.underlying29 rfl Tryd.sizeOf25 (by decide) rfl rfl rfl ?_
  refine lx_load (v := U64 h.p) rfl Tryd.isAgg25 (fun w' hw' => (hp_row (n := 3) rfl w' hw') 1 _ rfl) rfl rfl ?_
  refine lx_callC rfl rfl ent32 (fun w' hw' hG => rch_calls h.p w' hG) rfl rfl ?_
  rw [show pad32 (le8 h.p 8) = nR h.p from rfl]
  refine lx_fak 2 rfl Tryd.underlying29 rfl Tryd.sizeOf23 (by decide) rfl rfl rfl ?_
  refine lx_loadr (cs := h.a.map U8) rfl Tryd.isAgg23 Tryd.sizeOf23 (by rw [List.length_map]; exact hk.a) (fun w' hw' j v hv => by have := (hp_row (n := 3) rfl w' hw') _ v (Hd.at_a j v hv); rwa [Nat.zero_add] at this) rfl rfl ?_
  refine lx_fak 34 rfl Tryd.underlying29 rfl Tryd.sizeOf23 (by decide) rfl rfl rfl ?_
  refine lx_loadr (cs := h.b.map U8) rfl Tryd.isAgg23 Tryd.sizeOf23 (by rw [List.length_map]; exact hk.b) (fun w' hw' j v hv => by have := (hp_row (n := 3) rfl w' hw') _ v (Hd.at_b hk j v hv); rwa [Nat.zero_add] at this) rfl rfl ?_
  refine lx_fak 66 rfl Tryd.underlying29 rfl Tryd.sizeOf23 (by decide) rfl rfl rfl ?_
  refine lx_loadr (cs := h.c.map U8) rfl Tryd.isAgg23 Tryd.sizeOf23 (by rw [List.length_map]; exact hk.c) (fun w' hw' j v hv => by have := (hp_row (n := 3) rfl w' hw') _ v (Hd.at_c hk j v hv); rwa [Nat.zero_add] at this) rfl rfl ?_
  refine lx_bslWG (uf := U8) (s := 32) 18 (fun i => (h.fs).getD i []) (List.replicate 32 0#8) hGF rfl rfl rfl (fun i hi => (Hd.fs_all hk) _ (mem_get hi)) (by decide) (by decide) Tryd.underlying57 Tryd.sizeOf22 rfl zv22 rfl rfl ?_
  intro b18
  rw [show RW 32 (fun i => (h.fs).getD i []) 5 = (h.fs).flatten from RW_list (h.fs) (Hd.fs_all hk)]
  refine lx_callC rfl rfl ent19 (fun w' hw' hG => htr_calls bm (h.fs) (Hd.fs_all hk) (by show 5 ≤ 1000000; decide) _ 5 (Nat.le_refl 5) w' hG (ho.of_same ((hp_below hw').block _ ho.lt)) (own_rts (n := 18) (Hd.fs_all hk) rfl (List.take_of_length_le (by rw [List.length_map, flat_len _ (Hd.fs_all hk)]; exact Nat.le_refl _)) w' hw')) rfl rfl ?_
  refine lx_storea 4 hGF rfl rfl rfl Tryd.sizeOf23 (by rw [List.length_map]; exact Hd.rt_len hk) (by rw [List.length_map]; exact Z0_len) (one_u8 _) rfl ?_
  refine lx_nil ?_
  refine x_ret ?_
  repeat (first | refine kseq_ret ?_ | refine kblk_ret ?_)
  exact kret_own 4 rfl rfl rfl Tryd.isAgg23 Tryd.sizeOf23 (by rw [List.length_map]; exact Hd.rt_len hk) (fun w' hw' => ⟨rfl, hp_below hw'⟩)
end Go.Proofs.YtdkkipjcmflclaaDoor
