/-
  The program's domains and messages.
-/
import Derived.Test.YtdkkipjcmflclaaDoorUF
import Derived.Test.YtdkkipjcmflclaaDoorX3
namespace Go.Proofs.YtdkkipjcmflclaaDoor
open Go.RowKit
set_option maxRecDepth 100000
set_option maxHeartbeats 1000000
open Sh
theorem zvS (w : World) : (zeroValue 39).run Tryd.prog w = .ok (.slice none 0 0) w := (Tryd.zeroValue39 w).trans (by rfl)
theorem two_sls {w : World} {b : Nat} {p1 p2 : Option Addr} {n1 n2 c1 c2 : Nat} {x y : By} (h : w.rangeAt b 0 [.slice p1 n1 c1, .slice p2 n2 c2]) (e1 : x.length = n1) (e2 : y.length = n2) (l1 : n1 ≤ c1) (l2 : n2 ≤ c2) (h1 : BytesAt w p1 x) (h2 : BytesAt w p2 y) : SlsAt w (some ⟨b, 0, none⟩) [x, y] := sls_row h fun i z hz => by
  obtain rfl | rfl : i = 0 ∨ i = 1 := by have := (List.getElem?_eq_some_iff.1 hz).1; simp at this; omega
  · cases Option.some.inj (show some x = some z from hz); exact ⟨p1, c1, by rw [e1]; rfl, h1, by omega⟩
  · cases Option.some.inj (show some y = some z from hz); exact ⟨p2, c2, by rw [e2]; rfl, h2, by omega⟩
theorem one_sls {w : World} {b : Nat} {p1 : Option Addr} {n1 c1 : Nat} {x : By} (h : w.rangeAt b 0 [.slice p1 n1 c1]) (e1 : x.length = n1) (l1 : n1 ≤ c1) (h1 : BytesAt w p1 x) : SlsAt w (some ⟨b, 0, none⟩) [x] := sls_row h fun i z hz => by
  obtain rfl : i = 0 := by have := (List.getElem?_eq_some_iff.1 hz).1; simp at this; omega
  cases Option.some.inj (show some x = some z from hz); exact ⟨p1, c1, by rw [e1]; rfl, h1, by omega⟩
theorem pds2 (x y : By) (hy : y.length = 32) : Tor (pds [x, y]) = P2 (pad32 x) y := by
  rw [show pds [x, y] = [pad32 x, pad32 y] from rfl, tor2, show pad32 y = y from by rw [pad32, hy]; simp]
theorem joi_new {w w' : World} {e : Ending} {xs : By} (n : Nat) (hn : xs.length = n) (h0 : 0 < n) (h : ∃ v, e = .returned v ∧ Grow w w' ∧ Fr8 w w' v xs) : NewB w w' e xs n := by
  subst hn
  obtain ⟨_, rfl, hg, a, cap, rfl, hs, hn⟩ := h
  rcases hs with ⟨_, h, _⟩ | ⟨b, c, rfl, ho, h1, h2, h3⟩
  · have := congrArg List.length h; rw [List.length_map] at this; simp at this; rw [this] at h0; cases h0
  · rw [List.length_map] at h2 h3
    exact ⟨b, c, cap, rfl, hg, hn _ rfl, ho, h1, h2, h3⟩
theorem dfr_calls (v : By) (gn : Rt) (hv : v.length = 4) (hg : gn.length = 32) (w : World) (hw : Gt w) : Calls Tryd.prog 7 [.agg (v.map U8).toArray, .agg (gn.map U8).toArray].toArray w (fun e w' => e = .returned (.agg ((FRK v gn).map U8).toArray) ∧ Grow w w') := by
  have hGF : BOk Gt (pl w) := gt_low.plain hw
  refine calls_of_X (G := Gt) Tryd.func7 rfl rfl (Hp (pl w) []) (hp_refl (pl w) trivial rides_true) (good_hp hGF) ?_
  refine xs_plain (E := EE []) ?_
  refine lx_boxr 2 hGF rfl rfl rfl ?_
  intro b2
  refine lx_boxr 3 hGF rfl rfl rfl ?_
  intro b3
  refine lx_allocr 4 hGF zv23 rfl rfl ?_
  intro b4
  refine lx_nil ?_
  refine xs_drawn (E := EE []) mixed (by kernel_rfl) (by kernel_rfl) (by kernel_rfl) ?_
  refine lx_slarr0 (n := 4) rfl Tryd.underlying24 Tryd.sizeOf5 (by decide) rfl rfl ?_
  refine lx_slarr0 (n := 32) rfl Tryd.underlying23 Tryd.sizeOf5 (by decide) rfl rfl ?_
  refine lx_bslV 7 [Value.slice (some ⟨b2, 0, none⟩) 4 4, Value.slice (some ⟨b3, 0, none⟩) 32 32] (z := .slice none 0 0) hGF rfl rfl rfl (by decide) (by decide) Tryd.underlying56 Tryd.sizeOf39 zvS rfl rfl rfl ?_
  intro b7
  refine lx_callC rfl rfl ent18 (fun w' hw' hG => con_calls [v, gn] (fun z hz => (List.mem_cons.1 hz).elim (fun e => by rw [e, hv]; decide) (fun hz => by rw [List.mem_singleton.1 hz, hg]; decide)) (by show 2 ≤ 1000; decide) (some ⟨b7, 0, none⟩) 2 w' hG (two_sls (hp_row (n := 7) rfl w' hw') hv hg (Nat.le_refl _) (Nat.le_refl _) (BytesAt.range (hp_row (n := 2) rfl w' hw')) (BytesAt.range (hp_row (n := 3) rfl w' hw')))) rfl rfl ?_
  rw [pds2 _ _ hg]
  refine lx_storea 4 hGF rfl rfl rfl Tryd.sizeOf23 (by rw [List.length_map]; exact P2_len _ _) (by rw [List.length_map]; exact Z0_len) (one_u8 _) rfl ?_
  refine lx_nil ?_
  refine x_ret ?_
  repeat (first | refine kseq_ret ?_ | refine kblk_ret ?_)
  exact kret_own 4 rfl rfl rfl Tryd.isAgg23 Tryd.sizeOf23 (by rw [List.length_map]; exact P2_len _ _) (fun w' hw' => ⟨rfl, hp_below hw'⟩)
theorem dsi_calls (x y : Rt) (hx : x.length = 32) (hy : y.length = 32) (w : World) (hw : Gt w) : Calls Tryd.prog 11 [.agg (x.map U8).toArray, .agg (y.map U8).toArray].toArray w (fun e w' => e = .returned (.agg ((P2 x y).map U8).toArray) ∧ Grow w w') := by
  have hGF : BOk Gt (pl w) := gt_low.plain hw
  refine calls_of_X (G := Gt) Tryd.func11 rfl rfl (Hp (pl w) []) (hp_refl (pl w) trivial rides_true) (good_hp hGF) ?_
  refine xs_plain (E := EE []) ?_
  refine lx_boxr 2 hGF rfl rfl rfl ?_
  intro b2
  refine lx_boxr 3 hGF rfl rfl rfl ?_
  intro b3
  refine lx_allocr 4 hGF zv23 rfl rfl ?_
  intro b4
  refine lx_nil ?_
  refine xs_drawn (E := EE []) mixed (by kernel_rfl) (by kernel_rfl) (by kernel_rfl) ?_
  refine lx_slarr0 (n := 32) rfl Tryd.underlying23 Tryd.sizeOf5 (by decide) rfl rfl ?_
  refine lx_slarr0 (n := 32) rfl Tryd.underlying22 Tryd.sizeOf5 (by decide) rfl rfl ?_
  refine lx_bslV 7 [Value.slice (some ⟨b2, 0, none⟩) 32 32, Value.slice (some ⟨b3, 0, none⟩) 32 32] (z := .slice none 0 0) hGF rfl rfl rfl (by decide) (by decide) Tryd.underlying56 Tryd.sizeOf39 zvS rfl rfl rfl ?_
  intro b7
  refine lx_callC rfl rfl ent18 (fun w' hw' hG => con_calls [x, y] (fun z hz => (List.mem_cons.1 hz).elim (fun e => by rw [e, hx]; decide) (fun hz => by rw [List.mem_singleton.1 hz, hy]; decide)) (by show 2 ≤ 1000; decide) (some ⟨b7, 0, none⟩) 2 w' hG (two_sls (hp_row (n := 7) rfl w' hw') hx hy (Nat.le_refl _) (Nat.le_refl _) (BytesAt.range (hp_row (n := 2) rfl w' hw')) (BytesAt.range (hp_row (n := 3) rfl w' hw')))) rfl rfl ?_
  rw [pds2 _ _ hy]
  rw [show pad32 x = x from by rw [pad32, hx]; simp]
  refine lx_storea 4 hGF rfl rfl rfl Tryd.sizeOf23 (by rw [List.length_map]; exact P2_len _ _) (by rw [List.length_map]; exact Z0_len) (one_u8 _) rfl ?_
  refine lx_nil ?_
  refine x_ret ?_
  repeat (first | refine kseq_ret ?_ | refine kblk_ret ?_)
  exact kret_own 4 rfl rfl rfl Tryd.isAgg23 Tryd.sizeOf23 (by rw [List.length_map]; exact P2_len _ _) (fun w' hw' => ⟨rfl, hp_below hw'⟩)
theorem range_of_take {w : World} {b n : Nat} {cs vs : List Value} (h : w.rangeAt b 0 cs) (ht : cs.take n = vs) : w.rangeAt b 0 vs := fun j v hv => h j v (by
  rw [← ht, List.getElem?_take] at hv
  split at hv
  · exact hv
  · cases hv)
theorem ddo_calls (c : Cf) (hc : c.Ok) (w : World) (hw : Gt w) : Calls Tryd.prog 9 [.agg c.cs.toArray].toArray w (fun e w' => e = .returned (.agg ((DOM c).map U8).toArray) ∧ Grow w w') := by
  have hGF : BOk Gt (pl w) := gt_low.plain hw
  refine calls_of_X (G := Gt) Tryd.func9 rfl rfl (Hp (pl w) []) (hp_refl (pl w) trivial rides_true) (good_hp hGF) ?_
  refine xs_plain (E := EE [20, 1000039]) ?_
  refine lx_boxr 1 hGF rfl rfl rfl ?_
  intro b1
  refine lx_allocr 2 hGF zv22 rfl rfl ?_
  intro b2
  refine lx_nil ?_
  refine xs_plain (E := EE [20, 1000039]) ?_
  refine lx_fak 32 rfl Tryd.underlying27 rfl Tryd.sizeOf24 (by decide) rfl rfl rfl ?_
  refine lx_loadr (cs := c.v.map U8) rfl Tryd.isAgg24 Tryd.sizeOf24 (by rw [List.length_map]; exact hc.v) (fun w' hw' j v hv => by have := (hp_row (n := 1) rfl w' hw') _ v (Cf.at_v hc j v hv); rwa [Nat.zero_add] at this) rfl rfl ?_
  refine lx_fak 0 rfl Tryd.underlying27 rfl Tryd.sizeOf23 (by decide) rfl rfl rfl ?_
  refine lx_loadr (cs := c.g.map U8) rfl Tryd.isAgg23 Tryd.sizeOf23 (by rw [List.length_map]; exact hc.g) (fun w' hw' j v hv => by have := (hp_row (n := 1) rfl w' hw') _ v (Cf.at_g j v hv); rwa [Nat.zero_add] at this) rfl rfl ?_
  refine lx_callC rfl rfl ent7 (fun w' hw' hG => dfr_calls c.v c.g hc.v hc.g w' hG) rfl rfl ?_
  obtain ⟨fx, hfx⟩ : ∃ x, FRK c.v c.g = x := ⟨_, rfl⟩
  have fxl : fx.length = 32 := by rw [← hfx]; exact FRK_len _ _
  rw [hfx]
  refine lx_allocr 3 hGF zv23 rfl rfl ?_
  intro b3
  refine lx_storea 3 hGF rfl rfl rfl Tryd.sizeOf23 (by rw [List.length_map]; exact fxl) rfl (one_u8 _) rfl ?_
  refine lx_nil ?_
  refine xs_plain (E := EE [20, 1000039]) ?_
  refine lx_bsl 9 [7#8, 0#8, 0#8, 0#8] hGF rfl rfl rfl (by decide) (by decide) Tryd.underlying39 Tryd.sizeOf5 (fun w => Tryd.zeroValue5 w) rfl rfl ?_
  intro b9
  refine lx_cvs 9 rfl hGF rfl rfl Tryd.underlying39 Tryd.underlying5 rfl rfl ?_
  refine lx_slarr1 (l := 0) (h' := 28) rfl Tryd.underlying23 Tryd.sizeOf5 rfl rfl (by omega) (by omega) rfl rfl ?_
  refine lx_bslV 12 [Value.slice (some ⟨b9, 0, none⟩) 4 4, Value.slice (some ⟨b3, 0, none⟩) 28 32] (z := .slice none 0 0) hGF rfl rfl rfl (by decide) (by decide) Tryd.underlying56 Tryd.sizeOf39 zvS rfl rfl rfl ?_
  intro b12
  refine lx_callE rfl rfl ent20 rfl rfl (fun w' hw' => (joi_calls [[7#8, 0#8, 0#8, 0#8], fx.take 28] (fun z hz => (List.mem_cons.1 hz).elim (fun e => by rw [e]; decide) (fun hz => by rw [List.mem_singleton.1 hz, List.length_take]; omega)) (by show 2 ≤ 1000; decide) (some ⟨b12, 0, none⟩) 2 w' (hGF.g _ _ _ hw') (two_sls (hp_row (n := 12) rfl w' hw') rfl (by rw [List.length_take, fxl]; rfl) (Nat.le_refl _) (by decide) (BytesAt.range (hp_row (n := 9) rfl w' hw')) (head_bytes (n := 3) rfl (by rw [List.length_take, fxl, List.map_take]; rfl) w' hw'))).mono fun e1 w2 h => ?_)
  obtain ⟨b9, cs9, cap9, rfl, hg, hn9, ho9, hl9, hc9, ht9⟩ := joi_new 32 (by simp [fxl]) (by decide) h
  rw [show ([[7#8, 0#8, 0#8, 0#8], fx.take 28] : List By).flatten = [7#8, 0#8, 0#8, 0#8] ++ fx.take 28 from by simp] at ht9
  refine ⟨_, _, rfl, good_hp hGF, hw'.news rides_true hg [(13, b9, cs9, 5)] (row1 hn9 ho9) inj_one, ?_⟩
  clear hw' hg hn9 ho9 h
  refine lx_s2a rfl Tryd.underlying22 (Nat.le_refl _) rfl rfl ?_
  refine lx_loadr (cs := ([7#8, 0#8, 0#8, 0#8] ++ fx.take 28).map U8) rfl Tryd.isAgg22 Tryd.sizeOf22 (by rw [List.length_map, List.length_append, List.length_take, fxl]; rfl) (fun w' hw' => range_of_take (hp_row (n := 13) rfl w' hw') ht9) rfl rfl ?_
  refine lx_storea 2 hGF rfl rfl rfl Tryd.sizeOf22 (by rw [List.length_map, List.length_append, List.length_take, fxl]; rfl) (by rw [List.length_map]; exact Z0_len) (one_u8 _) rfl ?_
  refine lx_nil ?_
  refine x_ret ?_
  repeat (first | refine kseq_ret ?_ | refine kblk_ret ?_)
  exact kret_own 2 rfl rfl rfl Tryd.isAgg22 Tryd.sizeOf22 (by rw [List.length_map, List.length_append, List.length_take, fxl]; rfl) (fun w' hw' => ⟨by rw [DOM, hfx], hp_below hw'⟩)
theorem dms_calls (c : Cf) (h : Hd) (hc : c.Ok) (hk : h.Ok) (w : World) (hw : Gt w) : Calls Tryd.prog 14 [.agg c.cs.toArray, .agg h.cs.toArray].toArray w (fun e w' => NewB w w' e (MSG c h) 32) := by
  have hGF : BOk Gt (pl w) := gt_low.plain hw
  refine calls_of_X (G := Gt) Tryd.func14 rfl rfl (Hp (pl w) []) (hp_refl (pl w) trivial rides_true) (good_hp hGF) ?_
  refine xs_plain (E := EE [20, 2999999]) ?_
  refine lx_boxr 2 hGF rfl rfl rfl ?_
  intro b2
  refine lx_boxr 3 hGF rfl rfl rfl ?_
  intro b3
  refine lx_assign rfl rfl rfl ?_
  refine lx_nil ?_
  refine xs_drawn (E := EE [20, 2999999]) mixed (by kernel_rfl) (by kernel_rfl) (by kernel_rfl) ?_
  refine lx_loada 3 rfl rfl Tryd.isAgg29 Tryd.sizeOf29 (Hd.len hk) rfl rfl ?_
  refine lx_callC rfl rfl ent21 (fun w' hw' hG => rhd_p h hk w' hG) rfl rfl ?_
  obtain ⟨hr, hhr⟩ : ∃ x, h.rt = x := ⟨_, rfl⟩
  have hrl : hr.length = 32 := by rw [← hhr]; exact Hd.rt_len hk
  rw [hhr]
  refine lx_loada 2 rfl rfl Tryd.isAgg27 Tryd.sizeOf27 (Cf.len hc) rfl rfl ?_
  refine lx_callC rfl rfl ent9 (fun w' hw' hG => ddo_calls c hc w' hG) rfl rfl ?_
  obtain ⟨dx, hdx⟩ : ∃ x, DOM c = x := ⟨_, rfl⟩
  have dxl : dx.length = 32 := by rw [← hdx]; exact DOM_len _
  rw [hdx]
  refine lx_callC rfl rfl ent11 (fun w' hw' hG => dsi_calls hr dx hrl dxl w' hG) rfl rfl ?_
  obtain ⟨sx, hsx⟩ : ∃ x, P2 hr dx = x := ⟨_, rfl⟩
  have sxl : sx.length = 32 := by rw [← hsx]; exact P2_len _ _
  rw [hsx]
  refine lx_allocG 5 hGF zv23 rfl rfl rfl ?_
  intro b5
  refine lx_storea 5 hGF rfl rfl rfl Tryd.sizeOf23 (by rw [List.length_map]; exact sxl) rfl (one_u8 _) rfl ?_
  refine lx_nil ?_
  refine xs_plain (E := EE [20, 2999999]) ?_
  refine lx_slarr0 (n := 32) rfl Tryd.underlying23 Tryd.sizeOf5 (by decide) rfl rfl ?_
  refine lx_bslV 12 [Value.slice (some ⟨b5, 0, none⟩) 32 32] (z := .slice none 0 0) hGF rfl rfl rfl (by decide) (by decide) Tryd.underlying56 Tryd.sizeOf39 zvS rfl rfl rfl ?_
  intro b12
  refine lx_callE rfl rfl ent20 rfl rfl (fun w' hw' => (joi_calls [sx] (fun z hz => by rw [List.mem_singleton.1 hz, sxl]; decide) (by show 1 ≤ 1000; decide) (some ⟨b12, 0, none⟩) 1 w' (hGF.g _ _ _ hw') (one_sls (hp_row (n := 12) rfl w' hw') sxl (Nat.le_refl _) (BytesAt.range (hp_row (n := 5) rfl w' hw')))).mono fun e1 w2 h => ?_)
  obtain ⟨b9, cs9, cap9, rfl, hg, hn9, ho9, hl9, hc9, ht9⟩ := joi_new 32 (by simp [sxl]) (by decide) h
  rw [show ([sx] : List By).flatten = sx from by simp] at ht9
  refine ⟨_, _, rfl, good_hp hGF, hw'.news rides_true hg [(13, b9, cs9, 5)] (row1 hn9 ho9) inj_one, ?_⟩
  clear hw' hg hn9 ho9
  refine lx_assign rfl rfl rfl ?_
  refine lx_nil ?_
  refine x_ret ?_
  repeat (first | refine kseq_ret ?_ | refine kblk_ret ?_)
  exact kret_tmp rfl rfl (fun w' hw' => ⟨b9, cs9, cap9, rfl, hp_below hw', (hw'.own 13 _ _ _ rfl).2.elim id False.elim, (hw'.own 13 _ _ _ rfl).1, hl9, hc9, by rw [MSG, hhr, hdx, hsx]; exact ht9⟩)
theorem dp : DomainP := ⟨fun v g hv hg w hw => dfr_calls v g hv hg w hw, fun c hc w hw => ddo_calls c hc w hw, fun x y hx hy w hw => dsi_calls x y hx hy w hw, fun c h hc hk w hw => dms_calls c h hc hk w hw⟩
end Go.Proofs.YtdkkipjcmflclaaDoor
