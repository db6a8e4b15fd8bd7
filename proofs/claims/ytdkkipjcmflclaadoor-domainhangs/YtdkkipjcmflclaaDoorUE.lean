/-
  The program's roots of lists and of headers.
-/
import Derived.Test.YtdkkipjcmflclaaDoorUD
import Derived.Test.YtdkkipjcmflclaaDoorDN
import Derived.Test.YtdkkipjcmflclaaDoorX3
namespace Go.Proofs.YtdkkipjcmflclaaDoor
open Go.RowKit
set_option maxRecDepth 100000
set_option maxHeartbeats 1000000
open Sh
theorem ent30 : Enters Tryd.prog 30 := fun _ _ => by kernel_rfl
theorem ent21 : Enters Tryd.prog 21 := fun _ _ => by kernel_rfl
theorem root_calls (l : List Rt) (hl : AllR l) (hln : l.length ≤ 65536) (a : Option Addr) (cap : Nat) (w : World) (hw : Gt w) (hr : RtsAt w a l) : Calls Tryd.prog 30 [.slice a l.length cap].toArray w (fun e w' => e = .returned (.agg ((Tor l).map U8).toArray) ∧ Grow w w') := by
  have hGF : BOk Gt (pl w) := gt_low.plain hw
  refine calls_of_X (G := Gt) Tryd.func30 rfl rfl (Hp (pl w) []) (hp_refl (pl w) trivial rides_true) (good_hp hGF) ?_
  refine xs_plain (E := EE []) ?_
  refine lx_allocr 2 hGF zv23 rfl rfl ?_
  intro b2
  refine lx_nil ?_
  refine xs_plain (E := EE []) ?_
  refine lx_move rfl rfl rfl ?_
  refine lx_move rfl rfl rfl ?_
  refine lx_len rfl (fun _ => len_slice Tryd.underlying57 _ _ _ _) rfl rfl ?_
  refine lx_callC rfl rfl ent25 (fun w' hw' hG => mroot_y (l.length : Int) (by omega) l hl l.length rfl hln a cap (by rw [Int.toNat_natCast]; omega) w' hG (hr.grow (hp_below hw'))) rfl rfl ?_
  rw [Int.toNat_natCast, show tre P2 Z0 (dep l.length) l = Tor l from rfl]
  refine lx_move rfl rfl rfl ?_
  refine lx_ext rfl rfl rfl rfl ?_
  refine lx_ext rfl rfl rfl rfl ?_
  refine lx_allocr 3 hGF zv22 rfl rfl ?_
  intro b3
  refine lx_storea 3 hGF rfl rfl rfl Tryd.sizeOf22 (by rw [List.length_map]; exact tor_len hl) (by rw [List.length_map]; exact Z0_len) (one_u8 _) rfl ?_
  refine lx_assign rfl rfl rfl ?_
  refine lx_nil ?_
  refine xs_plain (E := EE []) ?_
  refine lx_loada 3 rfl rfl Tryd.isAgg22 Tryd.sizeOf22 (by rw [List.length_map]; exact tor_len hl) rfl rfl ?_
  refine lx_storea 2 hGF rfl rfl rfl Tryd.sizeOf23 (by rw [List.length_map]; exact tor_len hl) (by rw [List.length_map]; exact Z0_len) (one_u8 _) rfl ?_
  refine lx_nil ?_
  refine x_ret ?_
  repeat (first | refine kseq_ret ?_ | refine kblk_ret ?_)
  exact kret_own 2 rfl rfl rfl Tryd.isAgg23 Tryd.sizeOf23 (by rw [List.length_map]; exact tor_len hl) (fun w' hw' => ⟨rfl, hp_below hw'⟩)
theorem Hd.c0 {h : Hd} : ∀ j v, [U64 h.s][j]? = some v → h.cs[0 + j]? = some v := mid_at (pre := []) (post := U64 h.p :: (h.a.map U8 ++ (h.b.map U8 ++ h.c.map U8))) rfl
theorem Hd.c1 {h : Hd} : ∀ j v, [U64 h.p][j]? = some v → h.cs[1 + j]? = some v := mid_at (pre := [U64 h.s]) (post := h.a.map U8 ++ (h.b.map U8 ++ h.c.map U8)) rfl
theorem rhd_p (h : Hd) (hk : h.Ok) (w : World) (hw : Gt w) : Calls Tryd.prog 21 [.agg h.cs.toArray].toArray w (fun e w' => e = .returned (.agg ((h.rt).map U8).toArray) ∧ Grow w w') := by
  have hGF : BOk Gt (pl w) := gt_low.plain hw
  refine calls_of_X (G := Gt) Tryd.func21 rfl rfl (Hp (pl w) []) (hp_refl (pl w) trivial rides_true) (good_hp hGF) ?_
  refine xs_plain (E := EE [2999998]) ?_
  refine lx_boxr 1 hGF rfl rfl rfl ?_
  intro b1
  refine lx_allocr 2 hGF zv23 rfl rfl ?_
  intro b2
  refine lx_nil ?_
  refine xs_drawn (E := EE [2999998]) mixed (by kernel_rfl) (by kernel_rfl) (by kernel_rfl) ?_
  refine lx_fak 0 rfl Tryd.underlying29 rfl Tryd.sizeOf25 (by decide) rfl rfl rfl ?_
  refine lx_load (v := U64 h.s) rfl Tryd.isAgg25 (fun w' hw' => by have := (hp_row (n := 1) rfl w' hw') _ _ (Hd.c0 0 _ rfl); exact this) rfl rfl ?_
  refine lx_callC rfl rfl ent31 (fun w' hw' hG => chn_calls h.s w' hG) rfl rfl ?_
  rw [show pad32 (le8 h.s 8) = nR h.s from rfl]
  obtain ⟨r5, hr5⟩ : ∃ x, x = nR h.s := ⟨_, rfl⟩
  rw [← hr5]
  have hl5 : r5.length = 32 := by rw [hr5]; exact nR_len _
  refine lx_fak 1 rfl Tryd.underlying29 rfl Tryd.sizeOf25 (by decide) rfl rfl rfl ?_
  refine lx_load (v := U64 h.p) rfl Tryd.isAgg25 (fun w' hw' => by have := (hp_row (n := 1) rfl w' hw') _ _ (Hd.c1 0 _ rfl); exact this) rfl rfl ?_
  refine lx_callC rfl rfl ent31 (fun w' hw' hG => chn_calls h.p w' hG) rfl rfl ?_
  rw [show pad32 (le8 h.p 8) = nR h.p from rfl]
  obtain ⟨r8, hr8⟩ : ∃ x, x = nR h.p := ⟨_, rfl⟩
  rw [← hr8]
  have hl8 : r8.length = 32 := by rw [hr8]; exact nR_len _
  refine lx_fak 2 rfl Tryd.underlying29 rfl Tryd.sizeOf23 (by decide) rfl rfl rfl ?_
  refine lx_loadr (cs := h.a.map U8) rfl Tryd.isAgg23 Tryd.sizeOf23 (by rw [List.length_map]; exact hk.a) (fun w' hw' j v hv => by have := (hp_row (n := 1) rfl w' hw') _ v (Hd.at_a j v hv); rwa [Nat.zero_add] at this) rfl rfl ?_
  refine lx_fak 34 rfl Tryd.underlying29 rfl Tryd.sizeOf23 (by decide) rfl rfl rfl ?_
  refine lx_loadr (cs := h.b.map U8) rfl Tryd.isAgg23 Tryd.sizeOf23 (by rw [List.length_map]; exact hk.b) (fun w' hw' j v hv => by have := (hp_row (n := 1) rfl w' hw') _ v ((Hd.at_b hk) j v hv); rwa [Nat.zero_add] at this) rfl rfl ?_
  refine lx_fak 66 rfl Tryd.underlying29 rfl Tryd.sizeOf23 (by decide) rfl rfl rfl ?_
  refine lx_loadr (cs := h.c.map U8) rfl Tryd.isAgg23 Tryd.sizeOf23 (by rw [List.length_map]; exact hk.c) (fun w' hw' j v hv => by have := (hp_row (n := 1) rfl w' hw') _ v ((Hd.at_c hk) j v hv); rwa [Nat.zero_add] at this) rfl rfl ?_
  refine lx_bslWG (uf := U8) (s := 32) 15 (fun i => ([r5, r8, h.a, h.b, h.c]).getD i []) (List.replicate 32 0#8) hGF rfl rfl rfl (fun i hi => (all1 hl5 (all1 hl8 (all1 hk.a (all1 hk.b (all1 hk.c all0))))) _ (mem_get hi)) (by decide) (by decide) Tryd.underlying57 Tryd.sizeOf22 rfl zv22 rfl rfl ?_
  intro b15
  rw [show RW 32 (fun i => ([r5, r8, h.a, h.b, h.c]).getD i []) 5 = ([r5, r8, h.a, h.b, h.c]).flatten from RW_list ([r5, r8, h.a, h.b, h.c]) (all1 hl5 (all1 hl8 (all1 hk.a (all1 hk.b (all1 hk.c all0)))))]
  refine lx_callC rfl rfl ent30 (fun w' hw' hG => root_calls [r5, r8, h.a, h.b, h.c] (all1 hl5 (all1 hl8 (all1 hk.a (all1 hk.b (all1 hk.c all0))))) (by show 5 ≤ 65536; decide) _ 5 w' hG (own_rts (n := 15) (all1 hl5 (all1 hl8 (all1 hk.a (all1 hk.b (all1 hk.c all0))))) rfl (List.take_of_length_le (by rw [List.length_map, flat_len _ (all1 hl5 (all1 hl8 (all1 hk.a (all1 hk.b (all1 hk.c all0)))))]; exact Nat.le_refl _)) w' hw')) rfl rfl ?_
  refine lx_storea 2 hGF rfl rfl rfl Tryd.sizeOf23 (by rw [List.length_map]; exact tor_len (all1 hl5 (all1 hl8 (all1 hk.a (all1 hk.b (all1 hk.c all0)))))) (by rw [List.length_map]; exact Z0_len) (one_u8 _) rfl ?_
  refine lx_nil ?_
  refine x_ret ?_
  repeat (first | refine kseq_ret ?_ | refine kblk_ret ?_)
  exact kret_own 2 rfl rfl rfl Tryd.isAgg23 Tryd.sizeOf23 (by rw [List.length_map]; exact tor_len (all1 hl5 (all1 hl8 (all1 hk.a (all1 hk.b (all1 hk.c all0)))))) (fun w' hw' => ⟨by rw [hr5, hr8]; rfl, hp_below hw'⟩)
end Go.Proofs.YtdkkipjcmflclaaDoor
