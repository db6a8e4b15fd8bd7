/-
  Bytes held against one another; places; what is known of domains; the law of domains.
-/
import Derived.Test.YtdkkipjcmflclaaDoorDN
import Derived.Test.YtdkkipjcmflclaaDoorX3
namespace Go.Proofs.YtdkkipjcmflclaaDoor
open Go.RowKit
set_option maxRecDepth 100000
set_option maxHeartbeats 1000000
open Sh
theorem ent5 : Enters Tryd.prog 5 := fun _ _ => by kernel_rfl
theorem rowN {w : World} {n b lo : Nat} {c : List Value} {t : TypeId} (h1 : lo ≤ b) (h2 : OwnB w b c t) : ∀ n' b' c' t', lkB [(n, b, c, t)] n' = some (b', c', t') → lo ≤ b' ∧ OwnB w b' c' t' := fun n' b' c' t' hl => by
  rcases lkB_cons hl with ⟨_, e⟩ | ⟨_, hl⟩
  · cases e; exact ⟨h1, h2⟩
  · cases hl
/-- A place out of any number. -/
def plc (k n : Int) : Int := if k.tmod n < 0 then k.tmod n + n else k.tmod n
theorem plc_ge {k n : Int} (hn : 0 < n) : 0 ≤ plc k n := by
  unfold plc
  have h1 := Int.lt_tmod_of_pos k hn
  split <;> omega
theorem plc_lt {k n : Int} (hn : 0 < n) : plc k n < n := by
  unfold plc
  have h1 := Int.tmod_lt_of_pos k hn
  split <;> omega
theorem zvCf (w : World) : (zeroValue 27).run Tryd.prog w = .ok (.agg Cf0.cs.toArray) w := (Tryd.zeroValue27 w).trans (by rfl)
theorem bldCf0 (w : World) : (Instr.build 27 #[]).run Tryd.prog w = .ok (.agg Cf0.cs.toArray) w := run_buildP (c := Cf0.cs) zvCf Tryd.underlying27 (ps := #[(0, 32), (32, 4), (36, 1), (37, 1), (38, 1)]) (fun w => by simp [Tryd.sizeOf25, Tryd.sizeOf23, Tryd.sizeOf24, Tryd.sizeOf3]) [] rfl w
theorem zvHd (w : World) : (zeroValue 29).run Tryd.prog w = .ok (.agg (Hds 0#64).cs.toArray) w := (Tryd.zeroValue29 w).trans (by rfl)
theorem bldHds (s : BitVec 64) (w : World) : (Instr.build 29 #[(0, U64 s)]).run Tryd.prog w = .ok (.agg (Hds s).cs.toArray) w := run_buildP (c := (Hds 0#64).cs) zvHd Tryd.underlying29 (ps := #[(0, 1), (1, 1), (2, 32), (34, 32), (66, 32)]) (fun w => by simp [Tryd.sizeOf25, Tryd.sizeOf23]) [(0, U64 s)] rfl w
theorem Cf0_ok : Cf0.Ok := ⟨rfl, rfl⟩
theorem byt_p (xs ys : List (BitVec 8)) (a1 : Option Addr) (l1 c1 : Nat) (a2 : Option Addr) (l2 c2 : Nat) (e1 : xs.length = l1) (e2 : ys.length = l2) (w : World) (hw : Gt w) (h1 : BytesAt w a1 xs) (h2 : BytesAt w a2 ys) : Calls Tryd.prog 13 [.slice a1 l1 c1, .slice a2 l2 c2].toArray w (fun e w' => e = .returned (.bool (decide (xs = ys))) ∧ Grow w w') := by
  have hGF : BOk Gt (pl w) := gt_low.plain hw
  refine calls_of_X (G := Gt) Tryd.func13 rfl rfl (Hp (pl w) []) (hp_refl (pl w) trivial rides_true) (good_hp hGF) ?_
  refine xs_plain (E := EE []) ?_
  refine lx_assign rfl rfl rfl ?_
  refine lx_nil ?_
  refine xs_plain (E := EE []) ?_
  refine lx_move rfl rfl rfl ?_
  refine lx_convr rfl rfl (fun w' h => conv_str Tryd.underlying39 Tryd.underlying5 Tryd.underlying9 (h1.grow (hp_below h)) _ _ e1) rfl rfl ?_
  refine lx_move rfl rfl rfl ?_
  refine lx_convr rfl rfl (fun w' h => conv_str Tryd.underlying39 Tryd.underlying5 Tryd.underlying9 (h2.grow (hp_below h)) _ _ e2) rfl rfl ?_
  refine lx_bin (v := .bool (decide (xs = ys))) rfl rfl (fun _ => rfl) (fun w' => bin_eq_strs _ xs ys w') rfl rfl ?_
  refine lx_assign rfl rfl rfl ?_
  refine lx_nil ?_
  refine x_ret ?_
  repeat (first | refine kseq_ret ?_ | refine kblk_ret ?_)
  exact kret_tmp rfl rfl (fun w' hw' => ⟨rfl, hp_below hw'⟩)
theorem place_p (k n : Int) (h0 : 0 < n) (hn : n ≤ 1000000) (w : World) (hw : Gt w) : Calls Tryd.prog 16 [I k, I n].toArray w (fun e w' => e = .returned (I (plc k n)) ∧ Grow w w') := by
  have hGF : BOk Gt (pl w) := gt_low.plain hw
  refine calls_of_X (G := Gt) Tryd.func16 rfl rfl (Hp (pl w) []) (hp_refl (pl w) trivial rides_true) (good_hp hGF) ?_
  refine xs_plain (E := EE []) ?_
  refine lx_assign rfl rfl rfl ?_
  refine lx_nil ?_
  refine xs_plain (E := EE []) ?_
  refine lx_move rfl rfl rfl ?_
  refine lx_move rfl rfl rfl ?_
  refine lx_bin (v := I (k.tmod n)) rfl rfl (fun _ => rfl) (fun _ => bin_rem_i _ _ _ (by omega)) rfl rfl ?_
  refine lx_assign rfl rfl rfl ?_
  refine lx_nil ?_
  refine x_seq ?_
  refine xs_plain (E := EE []) ?_
  refine lx_move rfl rfl rfl ?_
  rcases Int.lt_or_le (k.tmod n) 0 with hq | hq
  · skip
    have hv : plc k n = k.tmod n + n := if_pos hq
    refine lx_binB true rfl rfl (fun _ => rfl) (fun _ => bin_lss_i _ _ _) (by rw [decide_eq_true_eq]; exact hq) rfl rfl ?_
    refine lx_nil ?_
    refine x_true rfl ?_
    refine x_plain (E := EE []) ?_
    refine lx_move rfl rfl rfl ?_
    refine lx_move rfl rfl rfl ?_
    refine lx_bin (v := I (k.tmod n + n)) rfl rfl (fun _ => rfl) (fun _ => bin_add_i _ _ _ (by have h1 := Int.lt_tmod_of_pos k h0; unfold inI; omega)) rfl rfl ?_
    refine lx_assign rfl rfl rfl ?_
    refine lx_nil ?_
    refine xs_plain (E := EE []) ?_
    refine lx_move rfl rfl rfl ?_
    refine lx_assign rfl rfl rfl ?_
    refine lx_nil ?_
    refine x_ret ?_
    repeat (first | refine kseq_ret ?_ | refine kblk_ret ?_)
    exact kret_tmp rfl rfl (fun w' hw' => ⟨by rw [hv], hp_below hw'⟩)
  · skip
    have hv : plc k n = k.tmod n := if_neg (by omega)
    refine lx_binB false rfl rfl (fun _ => rfl) (fun _ => bin_lss_i _ _ _) (by rw [decide_eq_false_iff_not]; omega) rfl rfl ?_
    refine lx_nil ?_
    refine x_false rfl ?_
    refine x_skip ?_
    refine xs_plain (E := EE []) ?_
    refine lx_move rfl rfl rfl ?_
    refine lx_assign rfl rfl rfl ?_
    refine lx_nil ?_
    refine x_ret ?_
    repeat (first | refine kseq_ret ?_ | refine kblk_ret ?_)
    exact kret_tmp rfl rfl (fun w' hw' => ⟨by rw [hv], hp_below hw'⟩)
theorem known22 (hD : DomainP) (w : World) (hw : Gt w) : Calls Tryd.prog 5 [].toArray w (fun e w' => e = .returned (.bool true) ∧ Grow w w') := by
  have hGF : BOk Gt (pl w) := gt_low.plain hw
  refine calls_of_X (G := Gt) Tryd.func5 rfl rfl (Hp (pl w) []) (hp_refl (pl w) trivial rides_true) (good_hp hGF) ?_
  refine xs_plain (E := EE [14, 15, 2000014, 2000015, 6]) ?_
  refine lx_assign rfl rfl rfl ?_
  refine lx_nil ?_
  refine xs_plain (E := EE [14, 15, 2000014, 2000015, 6]) ?_
  refine lx_build (ps := []) (vs := []) (v := .agg Cf0.cs.toArray) rfl (fun w => bldCf0 w) rfl rfl ?_
  refine lx_callC rfl rfl ent9 (fun w' hw' hG => hD.dm Cf0 Cf0_ok w' hG) rfl rfl ?_
  obtain ⟨dx, hdx⟩ : ∃ x, DOM Cf0 = x := ⟨_, rfl⟩
  have dxl : dx.length = 32 := by rw [← hdx]; exact DOM_len _
  have dxb := dom0_b
  rw [hdx] at dxb ⊢
  refine lx_allocr 1 hGF zv22 rfl rfl ?_
  intro b1
  refine lx_storea 1 hGF rfl rfl rfl Tryd.sizeOf22 (by rw [List.length_map]; exact dxl) rfl (one_u8 _) rfl ?_
  refine lx_nil ?_
  refine xs_plain (E := EE [14, 15, 2000014, 2000015, 6]) ?_
  refine lx_build (ps := []) (vs := []) (v := .agg Cf0.cs.toArray) rfl (fun w => bldCf0 w) rfl rfl ?_
  refine lx_build (ps := [(0, .const (U64 3#64))]) (vs := [U64 3#64]) (v := .agg (Hds 3#64).cs.toArray) rfl (fun w => bldHds 3#64 w) rfl rfl ?_
  refine lx_callG rfl rfl ent14 rfl rfl (fun w' hw' => (hD.ms Cf0 (Hds 3#64) Cf0_ok (Hds_ok 3#64) w' (hGF.g _ _ _ hw')).mono fun e1 w2 h => ?_)
  obtain ⟨b7, cs7, cap7, rfl, hg, hn7, ho7, hl7, hc7, ht7⟩ := h
  refine ⟨_, _, rfl, good_hp hGF, hw'.news rides_true hg [(7, b7, cs7, 5)] (rowN hn7 ho7) inj_one, hp_fresh rides_true rfl, ?_⟩
  clear hw' hg hn7 ho7
  refine lx_assign rfl rfl rfl ?_
  refine lx_nil ?_
  refine xs_plain (E := EE [14, 15, 2000014, 2000015, 6]) ?_
  refine lx_ia1 0 rfl rfl Tryd.underlying22 Tryd.sizeOf5 rfl (by decide) rfl rfl ?_
  refine lx_load (v := U8 7#8) rfl Tryd.isAgg5 (fun w' hw' => by have := (hp_row (n := 1) rfl w' hw') 0 (U8 7#8) (by rw [List.getElem?_map, dxb.1]; rfl); exact this) rfl rfl ?_
  refine lx_bin (v := .bool true) rfl rfl (fun _ => rfl) (fun w => (bin_eql_u8 _ 7#8 7#8).trans (by rfl)) rfl rfl ?_
  refine lx_move rfl rfl rfl ?_
  refine lx_ia1 1 rfl rfl Tryd.underlying22 Tryd.sizeOf5 rfl (by decide) rfl rfl ?_
  refine lx_load (v := U8 0#8) rfl Tryd.isAgg5 (fun w' hw' => by have := (hp_row (n := 1) rfl w' hw') 1 (U8 0#8) (by rw [List.getElem?_map, dxb.2.1]; rfl); exact this) rfl rfl ?_
  refine lx_bin (v := .bool true) rfl rfl (fun _ => rfl) (fun w => (bin_eql_u8 _ 0#8 0#8).trans (by rfl)) rfl rfl ?_
  refine lx_pick rfl rfl rfl rfl rfl ?_
  refine lx_move rfl rfl rfl ?_
  refine lx_ia1 3 rfl rfl Tryd.underlying22 Tryd.sizeOf5 rfl (by decide) rfl rfl ?_
  refine lx_load (v := U8 0#8) rfl Tryd.isAgg5 (fun w' hw' => by have := (hp_row (n := 1) rfl w' hw') 3 (U8 0#8) (by rw [List.getElem?_map, dxb.2.2.1]; rfl); exact this) rfl rfl ?_
  refine lx_bin (v := .bool true) rfl rfl (fun _ => rfl) (fun w => (bin_eql_u8 _ 0#8 0#8).trans (by rfl)) rfl rfl ?_
  refine lx_pick rfl rfl rfl rfl rfl ?_
  refine lx_move rfl rfl rfl ?_
  refine lx_ia1 4 rfl rfl Tryd.underlying22 Tryd.sizeOf5 rfl (by decide) rfl rfl ?_
  refine lx_load (v := U8 0xf5#8) rfl Tryd.isAgg5 (fun w' hw' => by have := (hp_row (n := 1) rfl w' hw') 4 (U8 0xf5#8) (by rw [List.getElem?_map, dxb.2.2.2]; rfl); exact this) rfl rfl ?_
  refine lx_bin (v := .bool true) rfl rfl (fun _ => rfl) (fun w => (bin_eql_u8 _ 0xf5#8 0xf5#8).trans (by rfl)) rfl rfl ?_
  refine lx_pick rfl rfl rfl rfl rfl ?_
  refine lx_move rfl rfl rfl ?_
  refine lx_move rfl rfl rfl ?_
  refine lx_len rfl (fun _ => len_slice Tryd.underlying39 _ _ _ _) rfl rfl ?_
  refine lx_bin (v := .bool true) rfl rfl (fun _ => rfl) (fun w => (bin_eql_i _ 32 32).trans (by rfl)) rfl rfl ?_
  refine lx_pick rfl rfl rfl rfl rfl ?_
  refine lx_move rfl rfl rfl ?_
  refine lx_move rfl rfl rfl ?_
  refine lx_build (ps := []) (vs := []) (v := .agg Cf0.cs.toArray) rfl (fun w => bldCf0 w) rfl rfl ?_
  refine lx_build (ps := [(0, .const (U64 4#64))]) (vs := [U64 4#64]) (v := .agg (Hds 4#64).cs.toArray) rfl (fun w => bldHds 4#64 w) rfl rfl ?_
  refine lx_callG rfl rfl ent14 rfl rfl (fun w' hw' => (hD.ms Cf0 (Hds 4#64) Cf0_ok (Hds_ok 4#64) w' (hGF.g _ _ _ hw')).mono fun e1 w2 h => ?_)
  obtain ⟨b35, cs35, cap35, rfl, hg, hn35, ho35, hl35, hc35, ht35⟩ := h
  refine ⟨_, _, rfl, good_hp hGF, hw'.news rides_true hg [(35, b35, cs35, 5)] (rowN hn35 ho35) inj_one, hp_fresh rides_true rfl, ?_⟩
  clear hw' hg hn35 ho35
  refine lx_callC rfl rfl ent13 (fun w' hw' hG => byt_p (MSG Cf0 (Hds 3#64)) (MSG Cf0 (Hds 4#64)) _ 32 _ _ 32 _ (MSG_len _ _) (MSG_len _ _) w' hG (head_bytes (n := 7) rfl (by rw [MSG_len]; exact ht7) w' hw') (head_bytes (n := 35) rfl (by rw [MSG_len]; exact ht35) w' hw')) rfl rfl ?_
  rw [decide_eq_false msg_ne]
  refine lx_un rfl (fun _ => un_not _) rfl rfl ?_
  refine lx_pick rfl rfl rfl rfl rfl ?_
  refine lx_assign rfl rfl rfl ?_
  refine lx_nil ?_
  refine x_ret ?_
  repeat (first | refine kseq_ret ?_ | refine kblk_ret ?_)
  exact kret_tmp rfl rfl (fun w' hw' => ⟨rfl, hp_below hw'⟩)
end Go.Proofs.YtdkkipjcmflclaaDoor
