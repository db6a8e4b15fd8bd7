/-
  Bytes held against one another; places; what is known of domains; the law of domains.
-/
import Derived.Test.YtdkkipjcmflclaaDoorDN
import Derived.Test.YtdkkipjcmflclaaDoorX3
namespace Go.Proofs.YtdkkipjcmflclaaDoor
open Go.RowKit
set_option maxRecDepth 100000
set_option maxHeartbeats 1000000
open Sh
theorem ent5 : Enters Tryd.prog 5 := fun _ _ => by kernel_rfl
theorem rowN {w : World} {n b lo : Nat} {c : List Value} {t : TypeId} (h1 : lo ≤ b) (h2 : OwnB w b c t) : ∀ n' b' c' t', lkB [(n, b, c, t)] n' = some (b', c', t') → lo ≤ b' ∧ OwnB w b' c' t' := fun n' b' c' t' hl => by
  rcases lkB_cons hl with ⟨_, e⟩ | ⟨_, hl⟩
  · cases e; exact ⟨h1, h2⟩
  · cases hl
theorem zvCf (w : World) : (zeroValue 27).run Tryd.prog w = .ok (.agg Cf0.cs.toArray) w := (Tryd.zeroValue27 w).trans (by rfl)
theorem bldCf0 (w : World) : (Instr.build 27 #[]).run Tryd.prog w = .ok (.agg Cf0.cs.toArray) w := run_buildP (c := Cf0.cs) zvCf Tryd.underlying27 (ps := #[(0, 32), (32, 4), (36, 1), (37, 1), (38, 1)]) (fun w => by simp [Tryd.sizeOf25, Tryd.sizeOf23, Tryd.sizeOf24, Tryd.sizeOf3]) [] rfl w
theorem zvHd (w : World) : (zeroValue 29).run Tryd.prog w = .ok (.agg (Hds 0#64).cs.toArray) w := (Tryd.zeroValue29 w).trans (by rfl)
theorem bldHds (s : BitVec 64) (w : World) : (Instr.build 29 #[(0, U64 s)]).run Tryd.prog w = .ok (.agg (Hds s).cs.toArray) w := run_buildP (c := (Hds 0#64).cs) zvHd Tryd.underlying29 (ps := #[(0, 1), (1, 1), (2, 32), (34, 32), (66, 32)]) (fun w => by simp [Tryd.sizeOf25, Tryd.sizeOf23]) [(0, U64 s)] rfl w
theorem Cf0_ok : Cf0.Ok := ⟨rfl, rfl⟩
theorem eqg23 (op : BinOp) (x y : Operand) (xs ys : Array Value) (w : World) : (eqGuard op 23 x y (.agg xs) (.agg ys)).run Tryd.prog w = .ok () w := run_eqGuard_agg w op 23 x y xs ys (by kernel_rfl)
theorem eqv23 (xs ys : List (BitVec 8)) (h : xs.length = 32) (h' : ys.length = 32) (w : World) : (binOp .eql 23 (.agg (xs.map U8).toArray) (.agg (ys.map U8).toArray)).run Tryd.prog w = .ok (.bool (decide (xs = ys))) w := bin_eq8 Tryd.underlying23 Tryd.underlying5 Tryd.sizeOf5 Tryd.isAgg5 xs ys h h' w
theorem fqg22 (op : BinOp) (x y : Operand) (xs ys : Array Value) (w : World) : (eqGuard op 22 x y (.agg xs) (.agg ys)).run Tryd.prog w = .ok () w := run_eqGuard_agg w op 22 x y xs ys (by kernel_rfl)
theorem fqv22 (xs ys : List (BitVec 8)) (h : xs.length = 32) (h' : ys.length = 32) (w : World) : (binOp .eql 22 (.agg (xs.map U8).toArray) (.agg (ys.map U8).toArray)).run Tryd.prog w = .ok (.bool (decide (xs = ys))) w := bin_eq8 Tryd.underlying22 Tryd.underlying5 Tryd.sizeOf5 Tryd.isAgg5 xs ys h h' w
theorem byt_p (xs ys : List (BitVec 8)) (a1 : Option Addr) (l1 c1 : Nat) (a2 : Option Addr) (l2 c2 : Nat) (e1 : xs.length = l1) (e2 : ys.length = l2) (w : World) (hw : Gt w) (h1 : BytesAt w a1 xs) (h2 : BytesAt w a2 ys) : Calls Tryd.prog 13 [.slice a1 l1 c1, .slice a2 l2 c2].toArray w (fun e w' => e = .returned (.bool (decide (xs = ys))) ∧ Grow w w') := by
  have hGF : BOk Gt (pl w) := gt_low.plain hw
  refine calls_of_X (G := Gt) Tryd.func13 rfl rfl (Hp (pl w) []) (hp_refl (pl w) trivial rides_true) (good_hp hGF) ?_
  refine xs_plain (E := EE []) ?_
  refine lx_assign rfl rfl rfl ?_
  refine lx_nil ?_
  refine xs_plain (E := EE []) ?_
  refine lx_move rfl rfl rfl ?_
  refine lx_convr rfl rfl (fun w' h => conv_str Tryd.underlying39 Tryd.underlying5 Tryd.underlying9 (h1.grow (hp_below h)) _ _ e1) rfl rfl ?_
  refine lx_move rfl rfl rfl ?_
  refine lx_convr rfl rfl (fun w' h => conv_str Tryd.underlying39 Tryd.underlying5 Tryd.underlying9 (h2.grow (hp_below h)) _ _ e2) rfl rfl ?_
  refine lx_bin (v := .bool (decide (xs = ys))) rfl rfl (fun _ => rfl) (fun w' => bin_eq_strs _ xs ys w') rfl rfl ?_
  refine lx_assign rfl rfl rfl ?_
  refine lx_nil ?_
  refine x_ret ?_
  repeat (first | refine kseq_ret ?_ | refine kblk_ret ?_)
  exact kret_tmp rfl rfl (fun w' hw' => ⟨rfl, hp_below hw'⟩)
theorem known22 (hD : DomainP) (w : World) (hw : Gt w) : Calls Tryd.prog 5 [].toArray w (fun e w' => e = .returned (.bool true) ∧ Grow w w') := by
  have hGF : BOk Gt (pl w) := gt_low.plain hw
  refine calls_of_X (G := Gt) Tryd.func5 rfl rfl (Hp (pl w) []) (hp_refl (pl w) trivial rides_true) (good_hp hGF) ?_
  refine xs_plain (E := EE [14, 15, 2000014, 2000015, 6]) ?_
  refine lx_assign rfl rfl rfl ?_
  refine lx_nil ?_
  refine xs_plain (E := EE [14, 15, 2000014, 2000015, 6]) ?_
  refine lx_build (ps := []) (vs := []) (v := .agg Cf0.cs.toArray) rfl (fun w => bldCf0 w) rfl rfl ?_
  refine lx_callC rfl rfl ent9 (fun w' hw' hG => hD.dm Cf0 Cf0_ok w' hG) rfl rfl ?_
  obtain ⟨dx, hdx⟩ : ∃ x, DOM Cf0 = x := ⟨_, rfl⟩
  have dxl : dx.length = 32 := by rw [← hdx]; exact DOM_len _
  have dxb := dom0_b
  rw [hdx] at dxb ⊢
  refine lx_allocr 1 hGF zv22 rfl rfl ?_
  intro b1
  refine lx_storea 1 hGF rfl rfl rfl Tryd.sizeOf22 (by rw [List.length_map]; exact dxl) rfl (one_u8 _) rfl ?_
  refine lx_nil ?_
  refine xs_plain (E := EE [14, 15, 2000014, 2000015, 6]) ?_
  refine lx_build (ps := []) (vs := []) (v := .agg Cf0.cs.toArray) rfl (fun w => bldCf0 w) rfl rfl ?_
  refine lx_build (ps := [(0, .const (U64 3#64))]) (vs := [U64 3#64]) (v := .agg (Hds 3#64).cs.toArray) rfl (fun w => bldHds 3#64 w) rfl rfl ?_
  refine lx_callG rfl rfl ent14 rfl rfl (fun w' hw' => (hD.ms Cf0 (Hds 3#64) Cf0_ok (Hds_ok 3#64) w' (hGF.g _ _ _ hw')).mono fun e1 w2 h => ?_)
  obtain ⟨b7, cs7, cap7, rfl, hg, hn7, ho7, hl7, hc7, ht7⟩ := h
  refine ⟨_, _, rfl, good_hp hGF, hw'.news rides_true hg [(7, b7, cs7, 5)] (rowN hn7 ho7) inj_one, hp_fresh rides_true rfl, ?_⟩
  clear hw' hg hn7 ho7
  refine lx_assign rfl rfl rfl ?_
  refine lx_nil ?_
  refine xs_plain (E := EE [14, 15, 2000014, 2000015, 6]) ?_
  refine lx_ia1 0 rfl rfl Tryd.underlying22 Tryd.sizeOf5 rfl (by decide) rfl rfl ?_
  refine lx_load (v := U8 7#8) rfl Tryd.isAgg5 (fun w' hw' => by have := (hp_row (n := 1) rfl w' hw') 0 (U8 7#8) (by rw [List.getElem?_map, dxb.1]; rfl); exact this) rfl rfl ?_
  refine lx_bin (v := .bool true) rfl rfl (fun _ => rfl) (fun w => (bin_eql_u8 _ 7#8 7#8).trans (by rfl)) rfl rfl ?_
  refine lx_move rfl rfl rfl ?_
  refine lx_ia1 1 rfl rfl Tryd.underlying22 Tryd.sizeOf5 rfl (by decide) rfl rfl ?_
  refine lx_load (v := U8 0#8) rfl Tryd.isAgg5 (fun w' hw' => by have := (hp_row (n := 1) rfl w' hw') 1 (U8 0#8) (by rw [List.getElem?_map, dxb.2.1]; rfl); exact this) rfl rfl ?_
  refine lx_bin (v := .bool true) rfl rfl (fun _ => rfl) (fun w => (bin_eql_u8 _ 0#8 0#8).trans (by rfl)) rfl rfl ?_
  refine lx_pick rfl rfl rfl rfl rfl ?_
  refine lx_move rfl rfl rfl ?_
  refine lx_ia1 3 rfl rfl Tryd.underlying22 Tryd.sizeOf5 rfl (by decide) rfl rfl ?_
  refine lx_load (v := U8 0#8) rfl Tryd.isAgg5 (fun w' hw' => by have := (hp_row (n := 1) rfl w' hw') 3 (U8 0#8) (by rw [List.getElem?_map, dxb.2.2.1]; rfl); exact this) rfl rfl ?_
  refine lx_bin (v := .bool true) rfl rfl (fun _ => rfl) (fun w => (bin_eql_u8 _ 0#8 0#8).trans (by rfl)) rfl rfl ?_
  refine lx_pick rfl rfl rfl rfl rfl ?_
  refine lx_move rfl rfl rfl ?_
  refine lx_ia1 4 rfl rfl Tryd.underlying22 Tryd.sizeOf5 rfl (by decide) rfl rfl ?_
  refine lx_load (v := U8 0xf5#8) rfl Tryd.isAgg5 (fun w' hw' => by have := (hp_row (n := 1) rfl w' hw') 4 (U8 0xf5#8) (by rw [List.getElem?_map, dxb.2.2.2]; rfl); exact this) rfl rfl ?_
  refine lx_bin (v := .bool true) rfl rfl (fun _ => rfl) (fun w => (bin_eql_u8 _ 0xf5#8 0xf5#8).trans (by rfl)) rfl rfl ?_
  refine lx_pick rfl rfl rfl rfl rfl ?_
  refine lx_move rfl rfl rfl ?_
  refine lx_move rfl rfl rfl ?_
  refine lx_len rfl (fun _ => len_slice Tryd.underlying39 _ _ _ _) rfl rfl ?_
  refine lx_bin (v := .bool true) rfl rfl (fun _ => rfl) (fun w => (bin_eql_i _ 32 32).trans (by rfl)) rfl rfl ?_
  refine lx_pick rfl rfl rfl rfl rfl ?_
  refine lx_move rfl rfl rfl ?_
  refine lx_move rfl rfl rfl ?_
  refine lx_build (ps := []) (vs := []) (v := .agg Cf0.cs.toArray) rfl (fun w => bldCf0 w) rfl rfl ?_
  refine lx_build (ps := [(0, .const (U64 4#64))]) (vs := [U64 4#64]) (v := .agg (Hds 4#64).cs.toArray) rfl (fun w => bldHds 4#64 w) rfl rfl ?_
  refine lx_callG rfl rfl ent14 rfl rfl (fun w' hw' => (hD.ms Cf0 (Hds 4#64) Cf0_ok (Hds_ok 4#64) w' (hGF.g _ _ _ hw')).mono fun e1 w2 h => ?_)
  obtain ⟨b35, cs35, cap35, rfl, hg, hn35, ho35, hl35, hc35, ht35⟩ := h
  refine ⟨_, _, rfl, good_hp hGF, hw'.news rides_true hg [(35, b35, cs35, 5)] (rowN hn35 ho35) inj_one, hp_fresh rides_true rfl, ?_⟩
  clear hw' hg hn35 ho35
  refine lx_callC rfl rfl ent13 (fun w' hw' hG => byt_p (MSG Cf0 (Hds 3#64)) (MSG Cf0 (Hds 4#64)) _ 32 _ _ 32 _ (MSG_len _ _) (MSG_len _ _) w' hG (head_bytes (n := 7) rfl (by rw [MSG_len]; exact ht7) w' hw') (head_bytes (n := 35) rfl (by rw [MSG_len]; exact ht35) w' hw')) rfl rfl ?_
  rw [decide_eq_false msg_ne]
  refine lx_un rfl (fun _ => un_not _) rfl rfl ?_
  refine lx_pick rfl rfl rfl rfl rfl ?_
  refine lx_assign rfl rfl rfl ?_
  refine lx_nil ?_
  refine x_ret ?_
  repeat (first | refine kseq_ret ?_ | refine kblk_ret ?_)
  exact kret_tmp rfl rfl (fun w' hw' => ⟨rfl, hp_below hw'⟩)
theorem tells_law (hD : DomainP) (c : Cf) (hc : c.Ok) (h : Hd) (hk : h.Ok) (v : List (BitVec 8)) (hv : v.length = 4) (r x : Rt) (hr : r.length = 32) (hx : x.length = 32) (w : World) (hw : Gt w) : Calls Tryd.prog 3 [.agg c.cs.toArray, .agg h.cs.toArray, .agg (v.map U8).toArray, .agg (r.map U8).toArray, .agg (x.map U8).toArray].toArray w (fun e w' => e = .returned (.bool true) ∧ Grow w w') := by
  have hGF : BOk Gt (pl w) := gt_low.plain hw
  refine calls_of_X (G := Gt) Tryd.func3 rfl rfl (Hp (pl w) []) (hp_refl (pl w) trivial rides_true) (good_hp hGF) ?_
  refine xs_plain (E := EE [14, 15, 2000014, 2000015, 6]) ?_
  refine lx_boxr 5 hGF rfl rfl rfl ?_
  intro b5
  refine lx_boxr 6 hGF rfl rfl rfl ?_
  intro b6
  refine lx_boxr 7 hGF rfl rfl rfl ?_
  intro b7
  refine lx_boxr 8 hGF rfl rfl rfl ?_
  intro b8
  refine lx_boxr 9 hGF rfl rfl rfl ?_
  intro b9
  refine lx_assign rfl rfl rfl ?_
  refine lx_nil ?_
  refine x_seq ?_
  refine xs_plain (E := EE [14, 15, 2000014, 2000015, 6]) ?_
  refine lx_callC rfl rfl ent5 (fun w1 _ hG => known22 hD w1 hG) rfl rfl ?_
  refine lx_un rfl (fun _ => un_not _) rfl rfl ?_
  refine lx_nil ?_
  refine x_false rfl ?_
  refine x_skip ?_
  refine xs_plain (E := EE [14, 15, 2000014, 2000015, 6]) ?_
  refine lx_callE rfl rfl ent6 rfl rfl (fun w1 hC => (hnew_calls w1 (hGF.g _ _ _ hC)).mono fun e1 w2 h => ?_)
  obtain ⟨bm, rfl, hg, hbm, hob⟩ := h
  refine ⟨_, _, rfl, good_hp hGF, hC.news rides_true hg [(14, bm, MK.map U32, 53)] (rowN hbm hob) inj_one, ?_⟩
  clear hC hg hbm hob
  refine lx_allocr 11 hGF zvH rfl rfl ?_
  intro b11
  refine lx_storea 11 hGF rfl rfl rfl Tryd.sizeOf33 rfl rfl (by rfl) rfl ?_
  refine lx_nil ?_
  refine xs_tree (EE [14, 15, 2000014, 2000015, 6]) mixed (by kernel_rfl) (by kernel_rfl) ?_
  refine tr_pre (m := 5) [0, 1, 2, 3, 4, 5, 6, 7, 8, 9, 10, 11, 12, 13, 14, 15, 16, 17, 18, 19, 20, 21, 22, 23, 24, 25, 26, 27, 28, 29, 30, 32, 33, 34] (by kernel_rfl) ?_
  refine lx_loada 7 rfl rfl Tryd.isAgg24 Tryd.sizeOf24 (by rw [List.length_map]; exact hv) rfl rfl ?_
  refine lx_fak 0 rfl Tryd.underlying27 rfl Tryd.sizeOf23 (by decide) rfl rfl rfl ?_
  refine lx_loadr (cs := c.g.map U8) rfl Tryd.isAgg23 Tryd.sizeOf23 (by rw [List.length_map]; exact hc.g) (fun w' hw' j v hv => by have := (hp_row (n := 5) rfl w' hw') _ v (Cf.at_g j v hv); rwa [Nat.zero_add] at this) rfl rfl ?_
  refine lx_callC rfl rfl ent7 (fun w' hw' hG => hD.fk v c.g hv hc.g w' hG) rfl rfl ?_
  refine lx_loada 11 rfl rfl Tryd.isAgg33 Tryd.sizeOf33 rfl rfl rfl ?_
  refine lx_loada 7 rfl rfl Tryd.isAgg24 Tryd.sizeOf24 (by rw [List.length_map]; exact hv) rfl rfl ?_
  refine lx_fak 0 rfl Tryd.underlying27 rfl Tryd.sizeOf23 (by decide) rfl rfl rfl ?_
  refine lx_loadr (cs := c.g.map U8) rfl Tryd.isAgg23 Tryd.sizeOf23 (by rw [List.length_map]; exact hc.g) (fun w' hw' j v hv => by have := (hp_row (n := 5) rfl w' hw') _ v (Cf.at_g j v hv); rwa [Nat.zero_add] at this) rfl rfl ?_
  refine lx_callC rfl rfl ent8 (fun w' hw' hG => hfrk_calls bm v hv c.g hc.g w' hG (hw'.own 14 _ _ _ rfl).1) rfl rfl ?_
  refine lx_binB true rfl rfl (fun w' => eqg23 _ _ _ _ _ w') (fun w' => eqv23 _ _ (FRK_len _ _) (FRK_len _ _) w') (decide_eq_true rfl) rfl rfl ?_
  refine lx_move rfl rfl rfl ?_
  refine lx_loada 5 rfl rfl Tryd.isAgg27 Tryd.sizeOf27 (Cf.len hc) rfl rfl ?_
  refine lx_callC rfl rfl ent9 (fun w' hw' hG => hD.dm c hc w' hG) rfl rfl ?_
  refine lx_loada 11 rfl rfl Tryd.isAgg33 Tryd.sizeOf33 rfl rfl rfl ?_
  refine lx_loada 5 rfl rfl Tryd.isAgg27 Tryd.sizeOf27 (Cf.len hc) rfl rfl ?_
  refine lx_callC rfl rfl ent10 (fun w' hw' hG => hdom_calls bm c hc w' hG (hw'.own 14 _ _ _ rfl).1) rfl rfl ?_
  refine lx_binB true rfl rfl (fun w' => fqg22 _ _ _ _ _ w') (fun w' => fqv22 _ _ (DOM_len _) (DOM_len _) w') (decide_eq_true rfl) rfl rfl ?_
  refine lx_pick rfl rfl rfl rfl rfl ?_
  refine lx_move rfl rfl rfl ?_
  refine lx_loada 8 rfl rfl Tryd.isAgg23 Tryd.sizeOf23 (by rw [List.length_map]; exact hr) rfl rfl ?_
  refine lx_loada 9 rfl rfl Tryd.isAgg22 Tryd.sizeOf22 (by rw [List.length_map]; exact hx) rfl rfl ?_
  refine lx_callC rfl rfl ent11 (fun w' hw' hG => hD.sg r x hr hx w' hG) rfl rfl ?_
  refine lx_loada 11 rfl rfl Tryd.isAgg33 Tryd.sizeOf33 rfl rfl rfl ?_
  refine lx_loada 8 rfl rfl Tryd.isAgg23 Tryd.sizeOf23 (by rw [List.length_map]; exact hr) rfl rfl ?_
  refine lx_loada 9 rfl rfl Tryd.isAgg22 Tryd.sizeOf22 (by rw [List.length_map]; exact hx) rfl rfl ?_
  refine lx_callC rfl rfl ent12 (fun w' hw' hG => hsig_calls bm r x hr hx w' hG (hw'.own 14 _ _ _ rfl).1) rfl rfl ?_
  refine lx_binB true rfl rfl (fun w' => eqg23 _ _ _ _ _ w') (fun w' => eqv23 _ _ (P2_len _ _) (P2_len _ _) w') (decide_eq_true rfl) rfl rfl ?_
  refine lx_pick rfl rfl rfl rfl rfl ?_
  refine lx_move rfl rfl rfl ?_
  refine lx_loada 5 rfl rfl Tryd.isAgg27 Tryd.sizeOf27 (Cf.len hc) rfl rfl ?_
  refine lx_loada 6 rfl rfl Tryd.isAgg29 Tryd.sizeOf29 (Hd.len hk) rfl rfl ?_
  refine lx_loada 11 rfl rfl Tryd.isAgg33 Tryd.sizeOf33 rfl rfl rfl ?_
  refine lx_loada 5 rfl rfl Tryd.isAgg27 Tryd.sizeOf27 (Cf.len hc) rfl rfl ?_
  refine lx_loada 6 rfl rfl Tryd.isAgg29 Tryd.sizeOf29 (Hd.len hk) rfl rfl ?_
  refine lx_nil ?_
  refine tr_pre (m := 4) [31] (by kernel_rfl) ?_
  refine lx_callG rfl rfl ent14 rfl rfl (fun w' hw' => (hD.ms c h hc hk w' (hGF.g _ _ _ hw')).mono fun e1 w2 h => ?_)
  obtain ⟨b46, cs46, cap46, rfl, hg, hn46, ho46, hl46, hc46, ht46⟩ := h
  refine ⟨_, _, rfl, good_hp hGF, hw'.news rides_true hg [(46, b46, cs46, 5)] (rowN hn46 ho46) inj_one, hp_fresh rides_true rfl, ?_⟩
  clear hw' hg hn46 ho46
  refine lx_nil ?_
  refine tr_pre (m := 3) [35] (by kernel_rfl) ?_
  refine lx_callG rfl rfl ent15 rfl rfl (fun w' hw' => (hmsg_calls bm c hc h hk w' (hGF.g _ _ _ hw') (hw'.own 14 _ _ _ rfl).1).mono fun e1 w2 h => ?_)
  obtain ⟨b50, cs50, cap50, rfl, hg, hn50, ho50, hl50, hc50, ht50⟩ := h
  refine ⟨_, _, rfl, good_hp hGF, hw'.news rides_true hg [(50, b50, cs50, 5)] (rowN hn50 ho50) inj_one, hp_fresh rides_true rfl, ?_⟩
  clear hw' hg hn50 ho50
  refine lx_nil ?_
  refine tr_pre (m := 0) [36, 37, 38] (by kernel_rfl) ?_
  refine lx_callC rfl rfl ent13 (fun w' hw' hG => byt_p (MSG c h) (MSG c h) _ 32 _ _ 32 _ (MSG_len _ _) (MSG_len _ _) w' hG (head_bytes (n := 46) rfl (by rw [MSG_len]; exact ht46) w' hw') (head_bytes (n := 50) rfl (by rw [MSG_len]; exact ht50) w' hw')) rfl rfl ?_
  rw [decide_eq_true rfl]
  refine lx_pick rfl rfl rfl rfl rfl ?_
  refine lx_assign rfl rfl rfl ?_
  refine lx_nil ?_
  refine tr_nil (by kernel_rfl) ?_
  refine kseq_n ?_
  refine x_ret ?_
  repeat (first | refine kseq_ret ?_ | refine kblk_ret ?_)
  exact kret_tmp rfl rfl (fun w' hw' => ⟨rfl, hp_below hw'⟩)
end Go.Proofs.YtdkkipjcmflclaaDoor
