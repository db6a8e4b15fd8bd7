/-
  The document's domains and messages.
-/
import Derived.Test.YtdkkipjcmflclaaDoorWC
import Derived.Test.YtdkkipjcmflclaaDoorX3
namespace Go.Proofs.YtdkkipjcmflclaaDoor
open Go.RowKit
set_option maxRecDepth 100000
set_option maxHeartbeats 1000000
open Sh
theorem ent8 : Enters Tryd.prog 8 := fun _ _ => by kernel_rfl
theorem ent10 : Enters Tryd.prog 10 := fun _ _ => by kernel_rfl
theorem ent12 : Enters Tryd.prog 12 := fun _ _ => by kernel_rfl
theorem ent15 : Enters Tryd.prog 15 := fun _ _ => by kernel_rfl
/-- Settings, as they lie in cells. -/
structure Cf where
  g : List (BitVec 8)
  v : List (BitVec 8)
  s : BitVec 64
  e : BitVec 64
  z : Int
def Cf.cs (c : Cf) : List Value := c.g.map U8 ++ (c.v.map U8 ++ [U64 c.s, U64 c.e, I c.z])
structure Cf.Ok (c : Cf) : Prop where
  g : c.g.length = 32
  v : c.v.length = 4
theorem Cf.len {c : Cf} (h : c.Ok) : c.cs.length = 39 := by simp [Cf.cs, h.g, h.v]
theorem sz5 : (Tryd.prog.info? 5).map (·.size) = some 1 := by kernel_rfl
theorem tor2 (a b : Rt) : Tor [a, b] = P2 a b := by
  rw [Tor, show dep [a, b].length = 1 from (by decide +kernel : dep 2 = 1)]
  rfl
def FRK (v : List (BitVec 8)) (g : Rt) : Rt := P2 (pad32 v) g
def DOM (c : Cf) : Rt := [7#8, 0#8, 0#8, 0#8] ++ (FRK c.v c.g).take 28
def MSG (c : Cf) (h : Hd) : Rt := P2 h.rt (DOM c)
theorem FRK_len (v : List (BitVec 8)) (g : Rt) : (FRK v g).length = 32 := P2_len _ _
theorem DOM_len (c : Cf) : (DOM c).length = 32 := by rw [DOM, List.length_append, List.length_take, FRK_len]; rfl
theorem MSG_len (c : Cf) (h : Hd) : (MSG c h).length = 32 := P2_len _ _
theorem all2 {a b : Rt} (ha : a.length = 32) (hb : b.length = 32) : AllR [a, b] := all1 ha (all1 hb all0)
theorem pad_lay {v : List (BitVec 8)} (h : v.length = 4) : lay 0 (v.map U8) (Z0.map U8) = (pad32 v).map U8 := by
  rw [lay_eq _ _ _ (by rw [List.length_map, List.length_map, h]; decide), List.length_map, h, pad32, h, List.map_append]
  rfl
theorem dom_lay (x : Rt) (h : x.length = 32) : lay 4 ((x.take 28).map U8) ((7#8 :: List.replicate 31 0#8).map U8) = ([7#8, 0#8, 0#8, 0#8] ++ x.take 28).map U8 := by
  have hl : (x.take 28).length = 28 := by rw [List.length_take, h]; rfl
  rw [lay_eq _ _ _ (by rw [List.length_map, List.length_map, hl]; decide), List.length_map, hl, List.map_append, show ((7#8 :: List.replicate 31 0#8).map U8).drop (4 + 28) = [] from rfl, List.append_nil]
  rfl
theorem Cf.at_g {c : Cf} (j : Nat) (v : Value) (h : (c.g.map U8)[j]? = some v) : c.cs[0 + j]? = some v := by
  rw [Nat.zero_add, Cf.cs, List.getElem?_append_left (List.getElem?_eq_some_iff.1 h).1]; exact h
theorem Cf.at_v {c : Cf} (k : c.Ok) (j : Nat) (v : Value) (h : (c.v.map U8)[j]? = some v) : c.cs[32 + j]? = some v := by
  rw [Cf.cs, List.getElem?_append_right (by rw [List.length_map, k.g]; omega), List.length_map, k.g, Nat.add_sub_cancel_left, List.getElem?_append_left (List.getElem?_eq_some_iff.1 h).1]; exact h
theorem hfrk_calls (bm : Nat) (v : List (BitVec 8)) (hv : v.length = 4) (gn : Rt) (hg : gn.length = 32) (w : World) (hw : Gt w) (ho : MkAt w bm) : Calls Tryd.prog 8 [.agg [.pointer (some ⟨bm, 0, none⟩)].toArray, .agg (v.map U8).toArray, .agg (gn.map U8).toArray].toArray w (fun e w' => e = .returned (.agg ((FRK v gn).map U8).toArray) ∧ Grow w w') := by
  have hGF : BOk Gt (pl w) := gt_low.plain hw
  refine calls_of_X (G := Gt) Tryd.func8 rfl rfl (Hp (pl w) []) (hp_refl (pl w) trivial rides_true) (good_hp hGF) ?_
  refine xs_plain (E := EE []) ?_
  refine lx_boxr 3 hGF rfl rfl rfl ?_
  intro b3
  refine lx_boxr 4 hGF rfl rfl rfl ?_
  intro b4
  refine lx_boxr 5 hGF rfl rfl rfl ?_
  intro b5
  refine lx_allocr 6 hGF zv23 rfl rfl ?_
  intro b6
  refine lx_nil ?_
  refine xs_plain (E := EE []) ?_
  refine lx_allocr 7 hGF zv22 rfl rfl ?_
  intro b7
  refine lx_nil ?_
  refine xs_drawn (E := EE []) mixed (by kernel_rfl) (by kernel_rfl) (by kernel_rfl) ?_
  refine lx_slarr0 (n := 32) rfl Tryd.underlying22 Tryd.sizeOf5 (by decide) rfl rfl ?_
  refine lx_slarr0 (n := 4) rfl Tryd.underlying24 Tryd.sizeOf5 (by decide) rfl rfl ?_
  refine lx_copys 7 (o := 0) (cs := v) hGF rfl rfl rfl Tryd.underlying39 sz5 (by rw [hv]; rfl) (fun w' h => BytesAt.range (hp_row (n := 4) rfl w' h)) (by simp [hv]) rfl rfl ?_
  rw [show lay 0 (v.map U8) ((List.replicate 32 (0#8)).map U8) = (pad32 v).map U8 from pad_lay hv]
  refine lx_nil ?_
  refine xs_plain (E := EE []) ?_
  refine lx_loada 3 rfl rfl Tryd.isAgg33 Tryd.sizeOf33 rfl rfl rfl ?_
  refine lx_loada 7 rfl rfl Tryd.isAgg22 Tryd.sizeOf22 (by rw [List.length_map]; exact pad_len (by omega)) rfl rfl ?_
  refine lx_loada 5 rfl rfl Tryd.isAgg23 Tryd.sizeOf23 (by rw [List.length_map]; exact hg) rfl rfl ?_
  refine lx_bslWG (uf := U8) (s := 32) 14 (fun i => ([pad32 v, gn]).getD i []) (List.replicate 32 0#8) hGF rfl rfl rfl (fun i hi => (all2 (pad_len (by omega)) hg) _ (mem_get hi)) (by decide) (by decide) Tryd.underlying57 Tryd.sizeOf22 rfl zv22 rfl rfl ?_
  intro b14
  rw [show RW 32 (fun i => ([pad32 v, gn]).getD i []) 2 = ([pad32 v, gn]).flatten from RW_list ([pad32 v, gn]) (all2 (pad_len (by omega)) hg)]
  refine lx_callC rfl rfl ent19 (fun w' hw' hG => htr_calls bm [pad32 v, gn] (all2 (pad_len (by omega)) hg) (by show 2 ≤ 1000000; decide) _ 2 (Nat.le_refl 2) w' hG (ho.of_same ((hp_below hw').block _ ho.lt)) (own_rts (n := 14) (all2 (pad_len (by omega)) hg) rfl (List.take_of_length_le (by rw [List.length_map, flat_len _ (all2 (pad_len (by omega)) hg)]; exact Nat.le_refl _)) w' hw')) rfl rfl ?_
  rw [tor2]
  refine lx_storea 6 hGF rfl rfl rfl Tryd.sizeOf23 (by rw [List.length_map]; exact P2_len _ _) (by rw [List.length_map]; exact Z0_len) (one_u8 _) rfl ?_
  refine lx_nil ?_
  refine x_ret ?_
  repeat (first | refine kseq_ret ?_ | refine kblk_ret ?_)
  exact kret_own 6 rfl rfl rfl Tryd.isAgg23 Tryd.sizeOf23 (by rw [List.length_map]; exact P2_len _ _) (fun w' hw' => ⟨rfl, hp_below hw'⟩)
theorem hdom_calls (bm : Nat) (c : Cf) (hc : c.Ok) (w : World) (hw : Gt w) (ho : MkAt w bm) : Calls Tryd.prog 10 [.agg [.pointer (some ⟨bm, 0, none⟩)].toArray, .agg c.cs.toArray].toArray w (fun e w' => e = .returned (.agg ((DOM c).map U8).toArray) ∧ Grow w w') := by
  have hGF : BOk Gt (pl w) := gt_low.plain hw
  refine calls_of_X (G := Gt) Tryd.func10 rfl rfl (Hp (pl w) []) (hp_refl (pl w) trivial rides_true) (good_hp hGF) ?_
  refine xs_plain (E := EE []) ?_
  refine lx_boxr 2 hGF rfl rfl rfl ?_
  intro b2
  refine lx_boxr 3 hGF rfl rfl rfl ?_
  intro b3
  refine lx_allocr 4 hGF zv22 rfl rfl ?_
  intro b4
  refine lx_nil ?_
  refine xs_plain (E := EE []) ?_
  refine lx_loada 2 rfl rfl Tryd.isAgg33 Tryd.sizeOf33 rfl rfl rfl ?_
  refine lx_fak 32 rfl Tryd.underlying27 rfl Tryd.sizeOf24 (by decide) rfl rfl rfl ?_
  refine lx_loadr (cs := c.v.map U8) rfl Tryd.isAgg24 Tryd.sizeOf24 (by rw [List.length_map]; exact hc.v) (fun w' hw' j v hv => by have := (hp_row (n := 3) rfl w' hw') _ v (Cf.at_v hc j v hv); rwa [Nat.zero_add] at this) rfl rfl ?_
  refine lx_fak 0 rfl Tryd.underlying27 rfl Tryd.sizeOf23 (by decide) rfl rfl rfl ?_
  refine lx_loadr (cs := c.g.map U8) rfl Tryd.isAgg23 Tryd.sizeOf23 (by rw [List.length_map]; exact hc.g) (fun w' hw' j v hv => by have := (hp_row (n := 3) rfl w' hw') _ v (Cf.at_g j v hv); rwa [Nat.zero_add] at this) rfl rfl ?_
  refine lx_callC rfl rfl ent8 (fun w' hw' hG => hfrk_calls bm c.v hc.v c.g hc.g w' hG (ho.of_same ((hp_below hw').block _ ho.lt))) rfl rfl ?_
  obtain ⟨fx, hfx⟩ : ∃ x, FRK c.v c.g = x := ⟨_, rfl⟩
  have fxl : fx.length = 32 := by rw [← hfx]; exact FRK_len _ _
  rw [hfx]
  refine lx_allocr 5 hGF zv23 rfl rfl ?_
  intro b5
  refine lx_storea 5 hGF rfl rfl rfl Tryd.sizeOf23 (by rw [List.length_map]; exact fxl) rfl (one_u8 _) rfl ?_
  refine lx_nil ?_
  refine xs_plain (E := EE []) ?_
  refine lx_allocr 6 hGF zv22 rfl rfl ?_
  intro b6
  refine lx_nil ?_
  refine xs_plain (E := EE []) ?_
  refine lx_ia1 0 rfl rfl Tryd.underlying22 Tryd.sizeOf5 rfl (by decide) rfl rfl ?_
  refine lx_store 6 hGF rfl rfl rfl Tryd.sizeOf5 rfl (by decide) rfl ?_
  rw [show ((List.replicate 32 (0#8)).map U8).set 0 (nrm (.int .u8 7)) = (7#8 :: List.replicate 31 0#8).map U8 from rfl]
  refine lx_nil ?_
  refine xs_drawn (E := EE []) mixed (by kernel_rfl) (by kernel_rfl) (by kernel_rfl) ?_
  refine lx_slarr1 (l := 4) (h' := 32) rfl Tryd.underlying22 Tryd.sizeOf5 rfl rfl (by omega) (by omega) rfl rfl ?_
  refine lx_slarr1 (l := 0) (h' := 28) rfl Tryd.underlying23 Tryd.sizeOf5 rfl rfl (by omega) (by omega) rfl rfl ?_
  refine lx_copys 6 (o := 4) (cs := fx.take 28) hGF rfl rfl rfl Tryd.underlying39 sz5 (by rw [List.length_take, fxl]; rfl) (fun w' h => head_bytes (n := 5) rfl (by rw [List.length_take, fxl, List.map_take]; rfl) w' h) (by simp [fxl]) rfl rfl ?_
  rw [dom_lay fx fxl]
  refine lx_nil ?_
  refine xs_plain (E := EE []) ?_
  refine lx_loada 6 rfl rfl Tryd.isAgg22 Tryd.sizeOf22 (by rw [List.length_map, List.length_append, List.length_take, fxl]; rfl) rfl rfl ?_
  refine lx_storea 4 hGF rfl rfl rfl Tryd.sizeOf22 (by rw [List.length_map, List.length_append, List.length_take, fxl]; rfl) rfl (one_u8 _) rfl ?_
  refine lx_nil ?_
  refine x_ret ?_
  repeat (first | refine kseq_ret ?_ | refine kblk_ret ?_)
  exact kret_own 4 rfl rfl rfl Tryd.isAgg22 Tryd.sizeOf22 (by rw [List.length_map, List.length_append, List.length_take, fxl]; rfl) (fun w' hw' => ⟨by rw [DOM, hfx], hp_below hw'⟩)
theorem hsig_calls (bm : Nat) (x y : Rt) (hx : x.length = 32) (hy : y.length = 32) (w : World) (hw : Gt w) (ho : MkAt w bm) : Calls Tryd.prog 12 [.agg [.pointer (some ⟨bm, 0, none⟩)].toArray, .agg (x.map U8).toArray, .agg (y.map U8).toArray].toArray w (fun e w' => e = .returned (.agg ((P2 x y).map U8).toArray) ∧ Grow w w') := by
  have hGF : BOk Gt (pl w) := gt_low.plain hw
  refine calls_of_X (G := Gt) Tryd.func12 rfl rfl (Hp (pl w) []) (hp_refl (pl w) trivial rides_true) (good_hp hGF) ?_
  refine xs_plain (E := EE []) ?_
  refine lx_boxr 3 hGF rfl rfl rfl ?_
  intro b3
  refine lx_boxr 4 hGF rfl rfl rfl ?_
  intro b4
  refine lx_boxr 5 hGF rfl rfl rfl ?_
  intro b5
  refine lx_allocr 6 hGF zv23 rfl rfl ?_
  intro b6
  refine lx_nil ?_
  refine xs_plain (E := EE []) ?_
  refine lx_loada 3 rfl rfl Tryd.isAgg33 Tryd.sizeOf33 rfl rfl rfl ?_
  refine lx_loada 4 rfl rfl Tryd.isAgg23 Tryd.sizeOf23 (by rw [List.length_map]; exact hx) rfl rfl ?_
  refine lx_loada 5 rfl rfl Tryd.isAgg22 Tryd.sizeOf22 (by rw [List.length_map]; exact hy) rfl rfl ?_
  refine lx_bslWG (uf := U8) (s := 32) 10 (fun i => ([x, y]).getD i []) (List.replicate 32 0#8) hGF rfl rfl rfl (fun i hi => (all2 hx hy) _ (mem_get hi)) (by decide) (by decide) Tryd.underlying57 Tryd.sizeOf22 rfl zv22 rfl rfl ?_
  intro b10
  rw [show RW 32 (fun i => ([x, y]).getD i []) 2 = ([x, y]).flatten from RW_list ([x, y]) (all2 hx hy)]
  refine lx_callC rfl rfl ent19 (fun w' hw' hG => htr_calls bm [x, y] (all2 hx hy) (by show 2 ≤ 1000000; decide) _ 2 (Nat.le_refl 2) w' hG (ho.of_same ((hp_below hw').block _ ho.lt)) (own_rts (n := 10) (all2 hx hy) rfl (List.take_of_length_le (by rw [List.length_map, flat_len _ (all2 hx hy)]; exact Nat.le_refl _)) w' hw')) rfl rfl ?_
  rw [tor2]
  refine lx_storea 6 hGF rfl rfl rfl Tryd.sizeOf23 (by rw [List.length_map]; exact P2_len _ _) (by rw [List.length_map]; exact Z0_len) (one_u8 _) rfl ?_
  refine lx_nil ?_
  refine x_ret ?_
  repeat (first | refine kseq_ret ?_ | refine kblk_ret ?_)
  exact kret_own 6 rfl rfl rfl Tryd.isAgg23 Tryd.sizeOf23 (by rw [List.length_map]; exact P2_len _ _) (fun w' hw' => ⟨rfl, hp_below hw'⟩)
theorem hmsg_calls (bm : Nat) (c : Cf) (hc : c.Ok) (h : Hd) (hk : h.Ok) (w : World) (hw : Gt w) (ho : MkAt w bm) : Calls Tryd.prog 15 [.agg [.pointer (some ⟨bm, 0, none⟩)].toArray, .agg c.cs.toArray, .agg h.cs.toArray].toArray w (fun e w' => ∃ b cs cap, e = .returned (.slice (some ⟨b, 0, none⟩) 32 cap) ∧ Grow w w' ∧ w.heap.size ≤ b ∧ OwnB w' b cs 5 ∧ cs.length = cap ∧ 32 ≤ cap ∧ cs.take 32 = (MSG c h).map U8) := by
  have hGF : BOk Gt (pl w) := gt_low.plain hw
  refine calls_of_X (G := Gt) Tryd.func15 rfl rfl (Hp (pl w) []) (hp_refl (pl w) trivial rides_true) (good_hp hGF) ?_
  refine xs_plain (E := EE [2999999]) ?_
  refine lx_boxr 3 hGF rfl rfl rfl ?_
  intro b3
  refine lx_boxr 4 hGF rfl rfl rfl ?_
  intro b4
  refine lx_boxr 5 hGF rfl rfl rfl ?_
  intro b5
  refine lx_assign rfl rfl rfl ?_
  refine lx_nil ?_
  refine xs_drawn (E := EE [2999999]) mixed (by kernel_rfl) (by kernel_rfl) (by kernel_rfl) ?_
  refine lx_loada 3 rfl rfl Tryd.isAgg33 Tryd.sizeOf33 rfl rfl rfl ?_
  refine lx_loada 3 rfl rfl Tryd.isAgg33 Tryd.sizeOf33 rfl rfl rfl ?_
  refine lx_loada 5 rfl rfl Tryd.isAgg29 Tryd.sizeOf29 (Hd.len hk) rfl rfl ?_
  refine lx_callC rfl rfl ent22 (fun w' hw' hG => hhd_calls bm h hk w' hG (ho.of_same ((hp_below hw').block _ ho.lt))) rfl rfl ?_
  obtain ⟨hr, hhr⟩ : ∃ x, h.rt = x := ⟨_, rfl⟩
  have hrl : hr.length = 32 := by rw [← hhr]; exact Hd.rt_len hk
  rw [hhr]
  refine lx_loada 3 rfl rfl Tryd.isAgg33 Tryd.sizeOf33 rfl rfl rfl ?_
  refine lx_loada 4 rfl rfl Tryd.isAgg27 Tryd.sizeOf27 (Cf.len hc) rfl rfl ?_
  refine lx_callC rfl rfl ent10 (fun w' hw' hG => hdom_calls bm c hc w' hG (ho.of_same ((hp_below hw').block _ ho.lt))) rfl rfl ?_
  obtain ⟨dx, hdx⟩ : ∃ x, DOM c = x := ⟨_, rfl⟩
  have dxl : dx.length = 32 := by rw [← hdx]; exact DOM_len _
  rw [hdx]
  refine lx_callC rfl rfl ent12 (fun w' hw' hG => hsig_calls bm hr dx hrl dxl w' hG (ho.of_same ((hp_below hw').block _ ho.lt))) rfl rfl ?_
  obtain ⟨sx, hsx⟩ : ∃ x, P2 hr dx = x := ⟨_, rfl⟩
  have sxl : sx.length = 32 := by rw [← hsx]; exact P2_len _ _
  rw [hsx]
  refine lx_allocG 7 hGF zv23 rfl rfl rfl ?_
  intro b7
  refine lx_storea 7 hGF rfl rfl rfl Tryd.sizeOf23 (by rw [List.length_map]; exact sxl) rfl (one_u8 _) rfl ?_
  refine lx_nil ?_
  refine xs_plain (E := EE [2999999]) ?_
  refine lx_slarr0 (n := 32) rfl Tryd.underlying23 Tryd.sizeOf5 (by decide) rfl rfl ?_
  refine lx_append (xs := []) (ys := sx) 17 hGF rfl (by rw [sxl]; rfl) Tryd.underlying39 Tryd.underlying39 ti5 (ownSl_nil _ _ _) (fun w' h' => BytesAt.range (hp_row (n := 7) rfl w' h')) (by rw [sxl]; decide) rfl rfl (fun h0 => absurd (congrArg List.length h0) (by simp [sxl])) (fun b9 c9 cap9 e9 l9 t9 => ?_)
  rw [List.nil_append] at l9 t9 ⊢
  refine lx_assign rfl rfl rfl ?_
  refine lx_nil ?_
  refine x_ret ?_
  repeat (first | refine kseq_ret ?_ | refine kblk_ret ?_)
  refine kret_tmp rfl rfl (fun w' hw' => ⟨b9, c9, cap9, by rw [sxl], hp_below hw', (hw'.own 17 _ _ _ rfl).2.elim id False.elim, (hw'.own 17 _ _ _ rfl).1, e9, by rw [sxl] at l9; exact l9, by rw [MSG, hhr, hdx, hsx, ← sxl]; exact t9⟩)
end Go.Proofs.YtdkkipjcmflclaaDoor
