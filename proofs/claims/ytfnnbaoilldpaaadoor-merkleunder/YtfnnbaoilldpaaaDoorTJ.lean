/-
  The law of parts of a tree.
-/
import Derived.Test.YtfnnbaoilldpaaaDoorTI
namespace Go.Proofs.YtfnnbaoilldpaaaDoor
open Go.RowKit
set_option maxRecDepth 100000
set_option maxHeartbeats 1000000
open Sh
theorem pw64 {D : Nat} (hD : D ≤ 8) : (BitVec.ofInt 64 ((2 ^ D : Nat) : Int)).toNat = 2 ^ D := len64 (by
  have h1 : 2 ^ D ≤ 2 ^ 8 := Nat.pow_le_pow_right (by decide) hD
  have h2 : 2 ^ 8 = 256 := by decide
  omega)
theorem ix_nat {D : Nat} (hD : D ≤ 8) (x0 : BitVec 64) : (x0 % BitVec.ofInt 64 ((2 ^ D : Nat) : Int)).toNat = (x0.toNat % 2 ^ D) := by rw [BitVec.toNat_umod, pw64 hD]
theorem jx_nat {D : Nat} (hD : D ≤ 8) (x0 : BitVec 64) : (BitVec.ofInt 64 ((2 ^ D : Nat) : Int) + (x0 % BitVec.ofInt 64 ((2 ^ D : Nat) : Int))).toNat = 2 ^ D + (x0.toNat % 2 ^ D) := by
  have h1 : 2 ^ D ≤ 2 ^ 8 := Nat.pow_le_pow_right (by decide) hD
  have h2 : 2 ^ 8 = 256 := by decide
  have h3 : (x0.toNat % 2 ^ D) < 2 ^ D := Nat.mod_lt _ (Nat.two_pow_pos D)
  rw [BitVec.toNat_add, ix_nat hD, pw64 hD, Nat.mod_eq_of_lt (by omega)]
theorem und_i {la lb : List Rt} {D i : Nat} (hi : i < 2 ^ D) : brF P2 Z0 (D + 1) (((la.take (2 ^ D)) ++ (List.replicate (2 ^ D - (la.take (2 ^ D)).length) Z0) ++ (lb.take (2 ^ D))).take (2 ^ (D + 1))) i = brF P2 Z0 D (la.take (2 ^ D)) i ++ [tre P2 Z0 D (lb.take (2 ^ D))] ∧ brF P2 Z0 (D + 1) (((la.take (2 ^ D)) ++ (List.replicate (2 ^ D - (la.take (2 ^ D)).length) Z0) ++ (lb.take (2 ^ D))).take (2 ^ (D + 1))) (2 ^ D + i) = brF P2 Z0 D (lb.take (2 ^ D)) i ++ [tre P2 Z0 D (la.take (2 ^ D))] := by
  have hp : 2 ^ (D + 1) = 2 ^ D + 2 ^ D := by rw [Nat.pow_succ]; omega
  have hA : (la.take (2 ^ D)).length ≤ 2 ^ D := by rw [List.length_take]; omega
  have hB : (lb.take (2 ^ D)).length ≤ 2 ^ D := by rw [List.length_take]; omega
  have hl : ((la.take (2 ^ D)) ++ (List.replicate (2 ^ D - (la.take (2 ^ D)).length) Z0)).length = 2 ^ D := by rw [List.length_append, List.length_replicate]; omega
  have h0 : ((la.take (2 ^ D)) ++ (List.replicate (2 ^ D - (la.take (2 ^ D)).length) Z0) ++ (lb.take (2 ^ D))).take (2 ^ (D + 1)) = ((la.take (2 ^ D)) ++ (List.replicate (2 ^ D - (la.take (2 ^ D)).length) Z0) ++ (lb.take (2 ^ D))) := List.take_of_length_le (by rw [List.length_append, hl]; omega)
  have h1 : ((la.take (2 ^ D)) ++ (List.replicate (2 ^ D - (la.take (2 ^ D)).length) Z0) ++ (lb.take (2 ^ D))).take (2 ^ D) = (la.take (2 ^ D)) ++ (List.replicate (2 ^ D - (la.take (2 ^ D)).length) Z0) := List.take_left' hl
  have h2 : ((la.take (2 ^ D)) ++ (List.replicate (2 ^ D - (la.take (2 ^ D)).length) Z0) ++ (lb.take (2 ^ D))).drop (2 ^ D) = (lb.take (2 ^ D)) := List.drop_left' hl
  have t1 : i.testBit D = false := Nat.testBit_lt_two_pow hi
  have t2 : (2 ^ D + i).testBit D = true := by rw [Nat.testBit_two_pow_add_eq, t1]; rfl
  constructor
  · rw [h0, brF, t1, cond_false, h1, h2, brF_pad]
  · rw [h0, brF, t2, cond_true, h1, h2, tre_pad]
    congr 1
    refine brF_bits P2 Z0 D _ fun k hk => ?_
    exact Nat.testBit_two_pow_add_gt hk i
theorem und_a (hM : MerkleP) (aa ab : Option Addr) (ca cb : Nat) (la lb : List Rt) (d : Int) (x0 : BitVec 64) (hlt : ¬ la.length ≤ 60) (w : World) (hw : Gt w) : Calls Tryd.prog 9 [.slice aa la.length ca, .slice ab lb.length cb, I d, U64 x0].toArray w (fun e w' => e = .returned (.bool true) ∧ Grow w w') := by
  have hGF : BOk Gt (pl w) := gt_low.plain hw
  refine calls_of_X (G := Gt) Tryd.func9 rfl rfl (Hp (pl w) []) (hp_refl (pl w) trivial rides_true) (good_hp hGF) ?_
  refine xs_plain (E := EE [17, 12, 18]) ?_
  refine lx_assign rfl rfl rfl ?_
  refine lx_nil ?_
  refine x_seq ?_
  refine xs_plain (E := EE [17, 12, 18]) ?_
  refine lx_callC rfl rfl ent10 (fun w1 _ hG => known18 hM w1 hG) rfl rfl ?_
  refine lx_un rfl (fun _ => un_not _) rfl rfl ?_
  refine lx_nil ?_
  refine x_false rfl ?_
  refine x_skip ?_
  refine x_seq ?_
  refine xs_plain (E := EE [17, 12, 18]) ?_
  refine lx_move rfl rfl rfl ?_
  refine lx_callC rfl rfl ent11 (fun w1 _ hG => lig_calls la.length _ _ w1 hG) rfl rfl ?_
  rw [decide_eq_false (show ¬ la.length ≤ 60 from hlt)]
  refine lx_un rfl (fun _ => un_not _) rfl rfl ?_
  refine lx_move rfl rfl rfl ?_
  refine lx_skip rfl rfl rfl ?_
  refine lx_skip rfl rfl rfl ?_
  refine lx_skip rfl rfl rfl ?_
  refine lx_pick rfl rfl rfl rfl rfl ?_
  refine lx_nil ?_
  refine x_true rfl ?_
  refine xs_plain (E := EE [17, 12, 18]) ?_
  refine lx_assign rfl rfl rfl ?_
  refine lx_nil ?_
  refine x_ret ?_
  repeat (first | refine kseq_ret ?_ | refine kblk_ret ?_)
  exact kret_tmp rfl rfl (fun w' hw' => ⟨rfl, hp_below hw'⟩)
theorem und_b (hM : MerkleP) (aa ab : Option Addr) (ca cb : Nat) (la lb : List Rt) (d : Int) (x0 : BitVec 64) (hlt : la.length ≤ 60) (hlt2 : ¬ lb.length ≤ 60) (w : World) (hw : Gt w) : Calls Tryd.prog 9 [.slice aa la.length ca, .slice ab lb.length cb, I d, U64 x0].toArray w (fun e w' => e = .returned (.bool true) ∧ Grow w w') := by
  have hGF : BOk Gt (pl w) := gt_low.plain hw
  refine calls_of_X (G := Gt) Tryd.func9 rfl rfl (Hp (pl w) []) (hp_refl (pl w) trivial rides_true) (good_hp hGF) ?_
  refine xs_plain (E := EE [17, 12, 18]) ?_
  refine lx_assign rfl rfl rfl ?_
  refine lx_nil ?_
  refine x_seq ?_
  refine xs_plain (E := EE [17, 12, 18]) ?_
  refine lx_callC rfl rfl ent10 (fun w1 _ hG => known18 hM w1 hG) rfl rfl ?_
  refine lx_un rfl (fun _ => un_not _) rfl rfl ?_
  refine lx_nil ?_
  refine x_false rfl ?_
  refine x_skip ?_
  refine x_seq ?_
  refine xs_plain (E := EE [17, 12, 18]) ?_
  refine lx_move rfl rfl rfl ?_
  refine lx_callC rfl rfl ent11 (fun w1 _ hG => lig_calls la.length _ _ w1 hG) rfl rfl ?_
  rw [decide_eq_true (show la.length ≤ 60 from hlt)]
  refine lx_un rfl (fun _ => un_not _) rfl rfl ?_
  refine lx_move rfl rfl rfl ?_
  refine lx_move rfl rfl rfl ?_
  refine lx_callC rfl rfl ent11 (fun w1 _ hG => lig_calls lb.length _ _ w1 hG) rfl rfl ?_
  rw [decide_eq_false (show ¬ lb.length ≤ 60 from hlt2)]
  refine lx_un rfl (fun _ => un_not _) rfl rfl ?_
  refine lx_pick rfl rfl rfl rfl rfl ?_
  refine lx_nil ?_
  refine x_true rfl ?_
  refine xs_plain (E := EE [17, 12, 18]) ?_
  refine lx_assign rfl rfl rfl ?_
  refine lx_nil ?_
  refine x_ret ?_
  repeat (first | refine kseq_ret ?_ | refine kblk_ret ?_)
  exact kret_tmp rfl rfl (fun w' hw' => ⟨rfl, hp_below hw'⟩)
theorem und_s (hM : MerkleP) (aa ab : Option Addr) (ca cb : Nat) (la lb : List Rt) (d : Int) (x0 : BitVec 64) (hla : AllR la) (hlb : AllR lb) (hca : la.length ≤ ca) (hcb : lb.length ≤ cb) (hlt : la.length ≤ 60) (hlt2 : lb.length ≤ 60) (w : World) (hw : Gt w) (hra : RtsAt w aa la) (hrb : RtsAt w ab lb) : Calls Tryd.prog 9 [.slice aa la.length ca, .slice ab lb.length cb, I d, U64 x0].toArray w (fun e w' => e = .returned (.bool true) ∧ Grow w w') := by
  have gw := hw
  have hGF : BOk Gt (pl w) := gt_low.plain hw
  refine calls_of_X (G := Gt) Tryd.func9 rfl rfl (Hp (pl w) []) (hp_refl (pl w) trivial rides_true) (good_hp hGF) ?_
  refine xs_plain (E := EE [17, 12, 18]) ?_
  refine lx_assign rfl rfl rfl ?_
  refine lx_nil ?_
  refine x_seq ?_
  refine xs_plain (E := EE [17, 12, 18]) ?_
  refine lx_callC rfl rfl ent10 (fun w1 _ hG => known18 hM w1 hG) rfl rfl ?_
  refine lx_un rfl (fun _ => un_not _) rfl rfl ?_
  refine lx_nil ?_
  refine x_false rfl ?_
  refine x_skip ?_
  refine x_seq ?_
  refine xs_plain (E := EE [17, 12, 18]) ?_
  refine lx_move rfl rfl rfl ?_
  refine lx_callC rfl rfl ent11 (fun w1 _ hG => lig_calls la.length _ _ w1 hG) rfl rfl ?_
  rw [decide_eq_true (show la.length ≤ 60 from hlt)]
  refine lx_un rfl (fun _ => un_not _) rfl rfl ?_
  refine lx_move rfl rfl rfl ?_
  refine lx_move rfl rfl rfl ?_
  refine lx_callC rfl rfl ent11 (fun w1 _ hG => lig_calls lb.length _ _ w1 hG) rfl rfl ?_
  rw [decide_eq_true (show lb.length ≤ 60 from hlt2)]
  refine lx_un rfl (fun _ => un_not _) rfl rfl ?_
  refine lx_pick rfl rfl rfl rfl rfl ?_
  refine lx_nil ?_
  refine x_false rfl ?_
  refine x_skip ?_
  refine xs_plain (E := EE [17, 12, 18]) ?_
  refine lx_move rfl rfl rfl ?_
  refine lx_callW gt_low (M := fun _ => False) (fun k h => h.elim) rfl rfl ent17 rfl rfl hGF (Q := fun w1 w2 v => ∃ k : Nat, v = I (k : Int) ∧ k < 5) (fun w1 h1 g1 => (plc_calls d 5 (by omega) (by omega) w1 g1).mono fun e w2 ⟨k, q1, q2, q3⟩ => ⟨_, q1, grow_mm q3, k, rfl, q2⟩) (fun w26a w26 v hg26 hm26 gg26 hq => ?_)
  have hGF := gt_low.plain gg26
  have hr26 := hg26.trans (hm26.grow (fun _ _ h => h))
  have hW : Grow w w26 := hr26
  obtain ⟨D, rfl, hD⟩ := hq
  have hpD := Nat.two_pow_pos D
  have hlA : (la.take (2 ^ D)).length ≤ 2 ^ D := by rw [List.length_take]; omega
  have hlA2 : (la.take (2 ^ D)).length ≤ la.length := by rw [List.length_take]; omega
  have hlB : (lb.take (2 ^ D)).length ≤ 2 ^ D := by rw [List.length_take]; omega
  have hlB2 : (lb.take (2 ^ D)).length ≤ lb.length := by rw [List.length_take]; omega
  have h256 : 2 ^ D ≤ 256 := by have h1 : 2 ^ D ≤ 2 ^ 8 := Nat.pow_le_pow_right (by decide) (by omega); have h2 : 2 ^ 8 = 256 := (by decide); omega
  refine lx_bin (v := I (((D + 1 : Nat) : Int))) rfl rfl (fun _ => rfl) (fun _ => (bin_add_i _ _ _ (by unfold inI; omega)).trans (by congr 2; omega)) rfl rfl ?_
  refine lx_assign rfl rfl rfl ?_
  refine lx_nil ?_
  refine xs_plain (E := EE [17, 12, 18]) ?_
  refine lx_move rfl rfl rfl ?_
  refine lx_bin (v := I (((D : Nat) : Int))) rfl rfl (fun _ => rfl) (fun _ => (bin_sub_i _ _ _ (by unfold inI; omega)).trans (by congr 2; omega)) rfl rfl ?_
  refine lx_bin (v := I (((2 ^ D : Nat) : Int))) rfl rfl (fun _ => rfl) (fun _ => shl1_i _ D (by omega) _) rfl rfl ?_
  refine lx_assign rfl rfl rfl ?_
  refine lx_nil ?_
  refine xs_drawn (E := EE [17, 12, 18]) mixed (by kernel_rfl) (by kernel_rfl) (by kernel_rfl) ?_
  refine lx_move rfl rfl rfl ?_
  refine lx_move rfl rfl rfl ?_
  refine lx_len rfl (fun _ => len_slice Tryd.underlying22 _ _ _ _) rfl rfl ?_
  refine lx_move rfl rfl rfl ?_
  refine lx_min (z := (((la.take (2 ^ D)).length : Nat) : Int)) rfl rfl (by rw [List.length_take]; split <;> omega) rfl rfl ?_
  refine lx_slsl (l := 0) (h' := (la.take (2 ^ D)).length) rfl Tryd.underlying22 Tryd.sizeOf29 rfl rfl ⟨Nat.zero_le _, by omega⟩ rfl rfl ?_
  rw [cutR0, Nat.sub_zero, Nat.sub_zero]
  refine lx_move rfl rfl rfl ?_
  refine lx_move rfl rfl rfl ?_
  refine lx_len rfl (fun _ => len_slice Tryd.underlying22 _ _ _ _) rfl rfl ?_
  refine lx_move rfl rfl rfl ?_
  refine lx_min (z := (((lb.take (2 ^ D)).length : Nat) : Int)) rfl rfl (by rw [List.length_take]; split <;> omega) rfl rfl ?_
  refine lx_slsl (l := 0) (h' := (lb.take (2 ^ D)).length) rfl Tryd.underlying22 Tryd.sizeOf29 rfl rfl ⟨Nat.zero_le _, by omega⟩ rfl rfl ?_
  rw [cutR0, Nat.sub_zero, Nat.sub_zero]
  refine lx_assign rfl rfl rfl ?_
  refine lx_assign rfl rfl rfl ?_
  refine lx_nil ?_
  refine x_now0 gt_low (fun w7 hC g7 => ?_)
  have hGF := gt_low.plain g7
  have hW : Grow w w7 := hW.trans (hp_below hC)
  have hW7 := hW
  clear hC
  refine xs_plain (E := EE [17, 12, 18]) ?_
  refine lx_move rfl rfl rfl ?_
  refine lx_appX (xs := ([]).flatten.map U8) (ys := ((la.take (2 ^ D))).flatten.map U8) (nx := 0) (ny := (la.take (2 ^ D)).length) gt_low (fun w' h => hGF.g _ _ _ h) rfl rfl tiR rfl (fun w' h => .inl ⟨rfl, rfl, rfl, rfl⟩) (fun k hk => by obtain ⟨_, e, _⟩ := hk; cases e) (fun w' h i _ hz hs _ => ASrc.of Tryd.underlying22 ‹_› hz (by rw [hs]; exact rts_src Tryd.underlying22 (hla.take _) ((hra.take _).grow (hW.trans (hp_below h))) rfl ca)) (by omega) (by omega) rfl rfl (fun w44a w44 a44 c44 hC g2 hm hs9 ho => ?_)
  have hG9 : Grow w7 w44 := hm.grow0 (hp_below hC) (fun k ⟨_, e, _⟩ => by cases e)
  have hW : Grow w w44 := hW7.trans hG9
  have hn9 : New w7 a44 := fun ad e => (ho _ ⟨ad, e, rfl⟩).elim (fun ⟨_, e, _⟩ => by cases e) (fun h => Nat.le_trans (hp_below hC).size h)
  rw [Nat.zero_add] at hs9 ⊢
  have hGF := gt_low.plain g2
  clear hC hm ho
  refine lx_move rfl rfl rfl ?_
  refine lx_move rfl rfl rfl ?_
  refine lx_len rfl (fun _ => len_slice Tryd.underlying22 _ _ _ _) rfl rfl ?_
  refine lx_bin (v := I (((2 ^ D - (la.take (2 ^ D)).length : Nat) : Int))) rfl rfl (fun _ => rfl) (fun _ => (bin_sub_i _ _ _ (by unfold inI; omega)).trans (by congr 2; omega)) rfl rfl ?_
  refine lx_appX (xs := ((la.take (2 ^ D))).flatten.map U8) (ys := ((List.replicate (2 ^ D - (la.take (2 ^ D)).length) Z0)).flatten.map U8) (nx := (la.take (2 ^ D)).length) (ny := (2 ^ D - (la.take (2 ^ D)).length)) gt_low (fun w' h => hGF.g _ _ _ h) rfl rfl tiR rfl (fun w' h => hs9.grow (hp_below h)) (fun k hk => by obtain ⟨ad, e, hk⟩ := hk; have := hn9 ad e; have := gt_low.size w7 g7; omega) (fun w' h i hi hz hs hb => by have h0 := ASrc.zeros (n := 2 ^ D - (la.take (2 ^ D)).length) (w := w') Tryd.underlying22 Tryd.underlying3 hi hz (by rw [hs]; rfl) (by rw [hs]; decide) (zeros_one _) (by omega) (by rw [hb]; omega); rw [zeros_flat] at h0; exact h0) (by omega) (by omega) rfl rfl (fun w49a w49 a49 c49 hC g2 hm hs9 ho => ?_)
  have hG8 : Grow w7 w49 := hm.grow0 (hG9.trans (hp_below hC)) (fun k ⟨ad, e, hk⟩ => hk ▸ hn9 ad e)
  have hn8 : New w7 a49 := fun ad e => (ho _ ⟨ad, e, rfl⟩).elim (fun ⟨ad2, e2, h2⟩ => h2 ▸ hn9 ad2 e2) (fun h => Nat.le_trans (hG9.trans (hp_below hC)).size h)
  have hG9 := hG8
  have hn9 := hn8
  have hW : Grow w w49 := hW7.trans hG9
  rw [← List.map_append, ← List.flatten_append] at hs9
  have hGF := gt_low.plain g2
  clear hC hm ho hG8 hn8
  refine lx_move rfl rfl rfl ?_
  refine lx_appX (xs := ((la.take (2 ^ D)) ++ (List.replicate (2 ^ D - (la.take (2 ^ D)).length) Z0)).flatten.map U8) (ys := ((lb.take (2 ^ D))).flatten.map U8) (nx := ((la.take (2 ^ D)).length + (2 ^ D - (la.take (2 ^ D)).length))) (ny := (lb.take (2 ^ D)).length) gt_low (fun w' h => hGF.g _ _ _ h) rfl rfl tiR rfl (fun w' h => hs9.grow (hp_below h)) (fun k hk => by obtain ⟨ad, e, hk⟩ := hk; have := hn9 ad e; have := gt_low.size w7 g7; omega) (fun w' h i _ hz hs _ => ASrc.of Tryd.underlying22 ‹_› hz (by rw [hs]; exact rts_src Tryd.underlying22 (hlb.take _) ((hrb.take _).grow (hW.trans (hp_below h))) rfl cb)) (by omega) (by omega) rfl rfl (fun w51a w51 a51 c51 hC g2 hm hs9 ho => ?_)
  have hG8 : Grow w7 w51 := hm.grow0 (hG9.trans (hp_below hC)) (fun k ⟨ad, e, hk⟩ => hk ▸ hn9 ad e)
  have hn8 : New w7 a51 := fun ad e => (ho _ ⟨ad, e, rfl⟩).elim (fun ⟨ad2, e2, h2⟩ => h2 ▸ hn9 ad2 e2) (fun h => Nat.le_trans (hG9.trans (hp_below hC)).size h)
  have hG9 := hG8
  have hn9 := hn8
  have hW : Grow w w51 := hW7.trans hG9
  rw [← List.map_append, ← List.flatten_append] at hs9
  have hGF := gt_low.plain g2
  clear hC hm ho hG8 hn8
  have hAll : AllR ((la.take (2 ^ D)) ++ (List.replicate (2 ^ D - (la.take (2 ^ D)).length) Z0) ++ (lb.take (2 ^ D))) := all_app (all_app (hla.take _) (all_rep _)) (hlb.take _)
  have hAlen : ((la.take (2 ^ D)) ++ (List.replicate (2 ^ D - (la.take (2 ^ D)).length) Z0) ++ (lb.take (2 ^ D))).length = (la.take (2 ^ D)).length + (2 ^ D - (la.take (2 ^ D)).length) + (lb.take (2 ^ D)).length := by rw [List.length_append, List.length_append, List.length_replicate]
  have hsA : RtsAt w51 a51 ((la.take (2 ^ D)) ++ (List.replicate (2 ^ D - (la.take (2 ^ D)).length) Z0) ++ (lb.take (2 ^ D))) := SlW.rts hAll (by rw [hAlen]; exact hs9)
  have hcA := SlW.le hs9
  refine lx_assign rfl rfl rfl ?_
  refine lx_nil ?_
  refine xs_plain (E := EE [17, 12, 18]) ?_
  refine lx_callW gt_low (M := fun _ => False) (fun k h => h.elim) rfl rfl ent12 rfl rfl hGF (Q := fun w1 w2 v => ∃ bm, v = .agg [.pointer (some ⟨bm, 0, none⟩)].toArray ∧ w1.heap.size ≤ bm ∧ MkAt w2 bm) (fun w1 h1 g1 => (hnew_calls w1 g1).mono fun e w2 ⟨bm, q1, q2, q3, q4⟩ => ⟨_, q1, grow_mm q2, bm, rfl, q3, q4⟩) (fun w52a w52 v hg52 hm52 gg52 hq => ?_)
  have hGF := gt_low.plain gg52
  have hr52 := hg52.trans (hm52.grow (fun _ _ h => h))
  have hW : Grow w w52 := hW.trans hr52
  have hsA := hsA.grow hr52
  obtain ⟨bm, rfl, _, hmk⟩ := hq
  refine lx_allocr 11 hGF zvH rfl rfl ?_
  intro b11
  refine lx_storea 11 hGF rfl rfl rfl Tryd.sizeOf27 rfl rfl (by rfl) rfl ?_
  refine lx_nil ?_
  refine xs_plain (E := EE [17, 12, 18]) ?_
  refine lx_move rfl rfl rfl ?_
  refine lx_move rfl rfl rfl ?_
  refine lx_conv rfl rfl (fun _ => conv_i_u64 Tryd.underlying3 Tryd.underlying37 _) rfl rfl ?_
  refine lx_bin (v := U64 (x0 % BitVec.ofInt 64 ((2 ^ D : Nat) : Int))) rfl rfl (fun _ => rfl) (fun _ => bin_rem_u64 _ _ _ (fun h => by have := congrArg BitVec.toNat h; rw [pw64 (by omega)] at this; simp at this)) rfl rfl ?_
  refine lx_assign rfl rfl rfl ?_
  refine lx_nil ?_
  refine x_now0 gt_low (fun w8 hC g8 => ?_)
  have hGF := gt_low.plain g8
  have hW : Grow w w8 := hW.trans (hp_below hC)
  have hH := (hC.own 11 _ _ _ rfl).1
  have hmk := hmk.grow (hp_below hC)
  have hsA := hsA.grow (hp_below hC)
  have hE1 : AllR (brF P2 Z0 D (la.take (2 ^ D)) (x0.toNat % 2 ^ D) ++ [tre P2 Z0 D (lb.take (2 ^ D))]) := all_app (brF_all D _ (hla.take _)) (all_cons (tre_len (hlb.take _) D) (fun _ h => by simp at h))
  have hE2 : AllR (brF P2 Z0 D (lb.take (2 ^ D)) (x0.toNat % 2 ^ D) ++ [tre P2 Z0 D (la.take (2 ^ D))]) := all_app (brF_all D _ (hlb.take _)) (all_cons (tre_len (hla.take _) D) (fun _ h => by simp at h))
  clear hC
  have hW0 := hW
  have hH0 := hH
  have hmk0 := hmk
  have hsA0 := hsA
  refine xs_drawK (E := EE [17, 12, 18]) (fun X => X = (fun w' => Grow w8 w')) (mkC [18]) (rkB [62]) [0, 1, 2, 3, 5, 6, 7, 8, 4, 9, 10, 11, 12] mixed rfl (by kernel_rfl) (by kernel_rfl) (by kernel_rfl) ?_
  refine lxk_s rfl rfl ?_
  refine lx_move rfl rfl rfl ?_
  refine lx_nil ?_
  refine lxk_s rfl rfl ?_
  refine lx_move rfl rfl rfl ?_
  refine lx_nil ?_
  refine lxk_s rfl rfl ?_
  refine lx_bin (v := I (((D : Nat) : Int))) rfl rfl (fun _ => rfl) (fun _ => (bin_sub_i _ _ _ (by unfold inI; omega)).trans (by congr 2; omega)) rfl rfl ?_
  refine lx_nil ?_
  refine lxk_s rfl rfl ?_
  refine lx_move rfl rfl rfl ?_
  refine lx_nil ?_
  refine lxk_q (X := fun w' => Grow w8 w') rfl (fun w' h => hp_below h) (fun _ => rfl) ?_
  refine lx_loadr (cs := [.pointer (some ⟨bm, 0, none⟩)]) rfl Tryd.isAgg27 Tryd.sizeOf27 rfl (fun w' h => (hH.grow h).range) rfl rfl ?_
  refine lx_nil ?_
  refine lxk_s rfl rfl ?_
  refine lx_move rfl rfl rfl ?_
  refine lx_nil ?_
  refine lxk_s rfl rfl ?_
  refine lx_move rfl rfl rfl ?_
  refine lx_nil ?_
  refine lxk_s rfl rfl ?_
  refine lx_bin (v := I (((D : Nat) : Int))) rfl rfl (fun _ => rfl) (fun _ => (bin_sub_i _ _ _ (by unfold inI; omega)).trans (by congr 2; omega)) rfl rfl ?_
  refine lx_nil ?_
  refine lxk_e rfl ?_
  refine lx_callW gt_low (M := fun _ => False) (fun k h => h.elim) rfl rfl ent18 rfl rfl hGF (Q := fun w1 w2 v => ∃ a3 c3, v = .slice a3 D c3 ∧ SlW 29 32 w2 a3 c3 D ((brF P2 Z0 D (la.take (2 ^ D)) (x0.toNat % 2 ^ D)).flatten.map U8) ∧ New w1 a3) (fun w1 h1 g1 => (hM.bra D (by omega) (la.take (2 ^ D)) (hla.take _) _ rfl (by omega) aa ca (by omega) (x0 % BitVec.ofInt 64 ((2 ^ D : Nat) : Int)) w1 g1 ((hra.take _).grow (hW.trans h1))).mono fun e w2 ⟨v, q1, q2, q3⟩ => ⟨v, q1, grow_mm q2, by rw [ix_nat (by omega), List.take_of_length_le (by omega)] at q3; obtain ⟨a3, c3, rfl, hs3, hn3⟩ := q3; rw [brF_len] at hs3 ⊢; exact ⟨a3, c3, rfl, hs3, hn3⟩⟩) (fun w61a w61 v hg61 hm61 gg61 hq => ?_)
  have hGF := gt_low.plain gg61
  have hr61 := hg61.trans (hm61.grow (fun _ _ h => h))
  have hW : Grow w w61 := hW.trans hr61
  have hH := hH.grow hr61
  have hmk := hmk.grow hr61
  have hsA := hsA.grow hr61
  obtain ⟨a3, c3, rfl, hs3, hn3⟩ := hq
  have hr061 := hm61.grow (fun _ _ h => h)
  refine lx_nil ?_
  refine ⟨fun _ X hX _ => by subst hX; exact fun w' h => hr61.trans (hp_below h), ?_⟩
  refine lxk_s rfl rfl ?_
  refine lx_callC rfl rfl ent21 (fun w' hw' hG => htree_calls bm D (by omega) (lb.take (2 ^ D)) (hlb.take _) _ rfl (by omega) ab cb (by omega) w' hG (hmk.grow (hp_below hw')) ((hrb.take _).grow (hW.trans (hp_below hw')))) rfl rfl ?_
  refine lx_nil ?_
  refine lxk_e rfl ?_
  refine lx_bslW1 67 ((tre P2 Z0 D (lb.take (2 ^ D))).map U8) hGF rfl (by rw [List.length_map]; exact tre_len (hlb.take _) D) (by decide) (by decide) Tryd.underlying22 Tryd.sizeOf29 zv29 rfl rfl ?_
  intro b67
  refine lx_nil ?_
  refine ⟨fun h => Bool.noConfusion h, ?_⟩
  refine lxk_e rfl ?_
  refine lx_appX (xs := (brF P2 Z0 D (la.take (2 ^ D)) (x0.toNat % 2 ^ D)).flatten.map U8) (ys := (tre P2 Z0 D (lb.take (2 ^ D))).map U8) (nx := D) (ny := 1) gt_low (fun w' h => hGF.g _ _ _ h) rfl rfl tiR rfl (fun w' h => hs3.grow (hp_below h)) (fun k hk => by obtain ⟨ad, e, hk⟩ := hk; have := hn3 ad e; have := gt_low.size w gw; have := hW0.size; have := hg61.size; omega) (fun w' h i _ hz hs _ => ASrc.of Tryd.underlying22 ‹_› hz (by rw [hs]; exact Src.ofSlice w' Tryd.underlying22 ⟨b67, 0, none⟩ 1 1 _ (by rw [List.length_map, tre_len (hlb.take _) D]) (fun j u hu => by rw [Addr.add_mid, Nat.zero_add]; have := (h.own 67 _ _ _ rfl).1.range j u hu; rwa [Nat.zero_add] at this) (fun u hu => by obtain ⟨q, _, rfl⟩ := List.mem_map.1 hu; rfl))) (by omega) (by omega) rfl rfl (fun w68a w68 a68 c68 hC g2 hm hs9 ho => ?_)
  have hGp : Grow w61a w68 := hm.grow0 (hr061.trans (hp_below hC)) (fun k ⟨ad, e, hk⟩ => hk ▸ hn3 ad e)
  have hGq := hg61.trans hGp
  have hW : Grow w w68 := hW0.trans hGq
  have hx13 : RtsAt w68 a68 ((brF P2 Z0 D (la.take (2 ^ D)) (x0.toNat % 2 ^ D)) ++ [(tre P2 Z0 D (lb.take (2 ^ D)))]) := SlW.rts (all_app (brF_all D _ (hla.take _)) (all_cons (tre_len (hlb.take _) D) (fun _ h => by simp at h))) (by rw [List.length_append, brF_len, List.flatten_append, List.map_append, List.flatten_cons, List.flatten_nil, List.append_nil]; exact hs9)
  have hH := hH0.grow hGq
  have hmk := hmk0.grow hGq
  have hsA := hsA0.grow hGq
  have hGF := gt_low.plain g2
  have hgt := g2
  refine lx_nil ?_
  refine ⟨fun h => Bool.noConfusion h, ?_⟩
  refine lxk_s rfl rfl ?_
  refine lx_assign rfl rfl rfl ?_
  refine lx_nil ?_
  refine lxk_nil ?_
  refine x_now0 gt_low (fun w8 hC g8 => ?_)
  have hGF := gt_low.plain g8
  have hW : Grow w w8 := hW.trans (hp_below hC)
  have hH := hH.grow (hp_below hC)
  have hmk := hmk.grow (hp_below hC)
  have hsA := hsA.grow (hp_below hC)
  have hx13 := hx13.grow (hp_below hC)
  clear hC
  have hW0 := hW
  have hH0 := hH
  have hmk0 := hmk
  have hsA0 := hsA
  have hx130 := hx13
  refine xs_drawK (E := EE [17, 12, 18]) (fun X => X = (fun w' => Grow w8 w')) (mkC [18]) (rkB [74]) [0, 1, 2, 3, 5, 6, 7, 8, 4, 9, 10, 11, 12] mixed rfl (by kernel_rfl) (by kernel_rfl) (by kernel_rfl) ?_
  refine lxk_s rfl rfl ?_
  refine lx_move rfl rfl rfl ?_
  refine lx_nil ?_
  refine lxk_s rfl rfl ?_
  refine lx_move rfl rfl rfl ?_
  refine lx_nil ?_
  refine lxk_s rfl rfl ?_
  refine lx_bin (v := I (((D : Nat) : Int))) rfl rfl (fun _ => rfl) (fun _ => (bin_sub_i _ _ _ (by unfold inI; omega)).trans (by congr 2; omega)) rfl rfl ?_
  refine lx_nil ?_
  refine lxk_s rfl rfl ?_
  refine lx_move rfl rfl rfl ?_
  refine lx_nil ?_
  refine lxk_q (X := fun w' => Grow w8 w') rfl (fun w' h => hp_below h) (fun _ => rfl) ?_
  refine lx_loadr (cs := [.pointer (some ⟨bm, 0, none⟩)]) rfl Tryd.isAgg27 Tryd.sizeOf27 rfl (fun w' h => (hH.grow h).range) rfl rfl ?_
  refine lx_nil ?_
  refine lxk_s rfl rfl ?_
  refine lx_move rfl rfl rfl ?_
  refine lx_nil ?_
  refine lxk_s rfl rfl ?_
  refine lx_move rfl rfl rfl ?_
  refine lx_nil ?_
  refine lxk_s rfl rfl ?_
  refine lx_bin (v := I (((D : Nat) : Int))) rfl rfl (fun _ => rfl) (fun _ => (bin_sub_i _ _ _ (by unfold inI; omega)).trans (by congr 2; omega)) rfl rfl ?_
  refine lx_nil ?_
  refine lxk_e rfl ?_
  refine lx_callW gt_low (M := fun _ => False) (fun k h => h.elim) rfl rfl ent18 rfl rfl hGF (Q := fun w1 w2 v => ∃ a3 c3, v = .slice a3 D c3 ∧ SlW 29 32 w2 a3 c3 D ((brF P2 Z0 D (lb.take (2 ^ D)) (x0.toNat % 2 ^ D)).flatten.map U8) ∧ New w1 a3) (fun w1 h1 g1 => (hM.bra D (by omega) (lb.take (2 ^ D)) (hlb.take _) _ rfl (by omega) ab cb (by omega) (x0 % BitVec.ofInt 64 ((2 ^ D : Nat) : Int)) w1 g1 ((hrb.take _).grow (hW.trans h1))).mono fun e w2 ⟨v, q1, q2, q3⟩ => ⟨v, q1, grow_mm q2, by rw [ix_nat (by omega), List.take_of_length_le (by omega)] at q3; obtain ⟨a3, c3, rfl, hs3, hn3⟩ := q3; rw [brF_len] at hs3 ⊢; exact ⟨a3, c3, rfl, hs3, hn3⟩⟩) (fun w73a w73 v hg73 hm73 gg73 hq => ?_)
  have hGF := gt_low.plain gg73
  have hr73 := hg73.trans (hm73.grow (fun _ _ h => h))
  have hW : Grow w w73 := hW.trans hr73
  have hH := hH.grow hr73
  have hmk := hmk.grow hr73
  have hsA := hsA.grow hr73
  have hx13 := hx13.grow hr73
  obtain ⟨a3, c3, rfl, hs3, hn3⟩ := hq
  have hr073 := hm73.grow (fun _ _ h => h)
  refine lx_nil ?_
  refine ⟨fun _ X hX _ => by subst hX; exact fun w' h => hr73.trans (hp_below h), ?_⟩
  refine lxk_s rfl rfl ?_
  refine lx_callC rfl rfl ent21 (fun w' hw' hG => htree_calls bm D (by omega) (la.take (2 ^ D)) (hla.take _) _ rfl (by omega) aa ca (by omega) w' hG (hmk.grow (hp_below hw')) ((hra.take _).grow (hW.trans (hp_below hw')))) rfl rfl ?_
  refine lx_nil ?_
  refine lxk_e rfl ?_
  refine lx_bslW1 79 ((tre P2 Z0 D (la.take (2 ^ D))).map U8) hGF rfl (by rw [List.length_map]; exact tre_len (hla.take _) D) (by decide) (by decide) Tryd.underlying22 Tryd.sizeOf29 zv29 rfl rfl ?_
  intro b79
  refine lx_nil ?_
  refine ⟨fun h => Bool.noConfusion h, ?_⟩
  refine lxk_e rfl ?_
  refine lx_appX (xs := (brF P2 Z0 D (lb.take (2 ^ D)) (x0.toNat % 2 ^ D)).flatten.map U8) (ys := (tre P2 Z0 D (la.take (2 ^ D))).map U8) (nx := D) (ny := 1) gt_low (fun w' h => hGF.g _ _ _ h) rfl rfl tiR rfl (fun w' h => hs3.grow (hp_below h)) (fun k hk => by obtain ⟨ad, e, hk⟩ := hk; have := hn3 ad e; have := gt_low.size w gw; have := hW0.size; have := hg73.size; omega) (fun w' h i _ hz hs _ => ASrc.of Tryd.underlying22 ‹_› hz (by rw [hs]; exact Src.ofSlice w' Tryd.underlying22 ⟨b79, 0, none⟩ 1 1 _ (by rw [List.length_map, tre_len (hla.take _) D]) (fun j u hu => by rw [Addr.add_mid, Nat.zero_add]; have := (h.own 79 _ _ _ rfl).1.range j u hu; rwa [Nat.zero_add] at this) (fun u hu => by obtain ⟨q, _, rfl⟩ := List.mem_map.1 hu; rfl))) (by omega) (by omega) rfl rfl (fun w80a w80 a80 c80 hC g2 hm hs9 ho => ?_)
  have hGp : Grow w73a w80 := hm.grow0 (hr073.trans (hp_below hC)) (fun k ⟨ad, e, hk⟩ => hk ▸ hn3 ad e)
  have hGq := hg73.trans hGp
  have hW : Grow w w80 := hW0.trans hGq
  have hy14 : RtsAt w80 a80 ((brF P2 Z0 D (lb.take (2 ^ D)) (x0.toNat % 2 ^ D)) ++ [(tre P2 Z0 D (la.take (2 ^ D)))]) := SlW.rts (all_app (brF_all D _ (hlb.take _)) (all_cons (tre_len (hla.take _) D) (fun _ h => by simp at h))) (by rw [List.length_append, brF_len, List.flatten_append, List.map_append, List.flatten_cons, List.flatten_nil, List.append_nil]; exact hs9)
  have hH := hH0.grow hGq
  have hmk := hmk0.grow hGq
  have hsA := hsA0.grow hGq
  have hx13 := hx130.grow hGq
  have hGF := gt_low.plain g2
  have hgt := g2
  refine lx_nil ?_
  refine ⟨fun h => Bool.noConfusion h, ?_⟩
  refine lxk_s rfl rfl ?_
  refine lx_assign rfl rfl rfl ?_
  refine lx_nil ?_
  refine lxk_nil ?_
  refine xs_plain (E := EE [17, 12, 18]) ?_
  refine lx_move rfl rfl rfl ?_
  refine lx_move rfl rfl rfl ?_
  refine lx_move rfl rfl rfl ?_
  refine lx_callW gt_low (M := fun _ => False) (fun k h => h.elim) rfl rfl ent18 rfl rfl hGF (Q := fun w1 w2 v => ∃ a3 c3, v = .slice a3 (D + 1) c3 ∧ RtsAt w2 a3 (brF P2 Z0 D (la.take (2 ^ D)) (x0.toNat % 2 ^ D) ++ [tre P2 Z0 D (lb.take (2 ^ D))])) (fun w1 h1 g1 => (hM.bra (D + 1) (by omega) ((la.take (2 ^ D)) ++ (List.replicate (2 ^ D - (la.take (2 ^ D)).length) Z0) ++ (lb.take (2 ^ D))) hAll _ hAlen (by omega) a51 c51 hcA (x0 % BitVec.ofInt 64 ((2 ^ D : Nat) : Int)) w1 g1 (hsA.grow h1)).mono fun e w2 ⟨v, q1, q2, q3⟩ => ⟨v, q1, grow_mm q2, by rw [ix_nat (by omega), (und_i (Nat.mod_lt _ hpD)).1] at q3; obtain ⟨a3, c3, rfl, hs3, _⟩ := q3; exact ⟨a3, c3, by rw [List.length_append, brF_len]; rfl, SlW.rts hE1 hs3⟩⟩) (fun w84a w84 v hg84 hm84 gg84 hq => ?_)
  have hGF := gt_low.plain gg84
  have hr84 := hg84.trans (hm84.grow (fun _ _ h => h))
  have hW : Grow w w84 := hW.trans hr84
  have hsA := hsA.grow hr84
  have hx13 := hx13.grow hr84
  have hy14 := hy14.grow hr84
  obtain ⟨a5, ca5, rfl, ha5⟩ := hq
  refine lx_move rfl rfl rfl ?_
  refine lx_callC rfl rfl ent19 (fun w' hw' hG => rtl_calls (brF P2 Z0 D (la.take (2 ^ D)) (x0.toNat % 2 ^ D) ++ [tre P2 Z0 D (lb.take (2 ^ D))]) hE1 (D + 1) (by rw [List.length_append, brF_len]; rfl) (by omega) a5 ca5 a68 c68 w' hG (ha5.grow (hp_below hw')) (hx13.grow (hp_below hw'))) rfl rfl ?_
  refine lx_move rfl rfl rfl ?_
  refine lx_move rfl rfl rfl ?_
  refine lx_move rfl rfl rfl ?_
  refine lx_move rfl rfl rfl ?_
  refine lx_conv rfl rfl (fun _ => conv_i_u64 Tryd.underlying3 Tryd.underlying37 _) rfl rfl ?_
  refine lx_move rfl rfl rfl ?_
  refine lx_bin (v := U64 (BitVec.ofInt 64 ((2 ^ D : Nat) : Int) + (x0 % BitVec.ofInt 64 ((2 ^ D : Nat) : Int)))) rfl rfl (fun _ => rfl) (fun _ => bin_add_u64 _ _ _) rfl rfl ?_
  refine lx_callW gt_low (M := fun _ => False) (fun k h => h.elim) rfl rfl ent18 rfl rfl hGF (Q := fun w1 w2 v => ∃ a3 c3, v = .slice a3 (D + 1) c3 ∧ RtsAt w2 a3 (brF P2 Z0 D (lb.take (2 ^ D)) (x0.toNat % 2 ^ D) ++ [tre P2 Z0 D (la.take (2 ^ D))])) (fun w1 h1 g1 => (hM.bra (D + 1) (by omega) ((la.take (2 ^ D)) ++ (List.replicate (2 ^ D - (la.take (2 ^ D)).length) Z0) ++ (lb.take (2 ^ D))) hAll _ hAlen (by omega) a51 c51 hcA (BitVec.ofInt 64 ((2 ^ D : Nat) : Int) + (x0 % BitVec.ofInt 64 ((2 ^ D : Nat) : Int))) w1 g1 (hsA.grow h1)).mono fun e w2 ⟨v, q1, q2, q3⟩ => ⟨v, q1, grow_mm q2, by rw [jx_nat (by omega), (und_i (Nat.mod_lt _ hpD)).2] at q3; obtain ⟨a3, c3, rfl, hs3, _⟩ := q3; exact ⟨a3, c3, by rw [List.length_append, brF_len]; rfl, SlW.rts hE2 hs3⟩⟩) (fun w94a w94 v hg94 hm94 gg94 hq => ?_)
  have hGF := gt_low.plain gg94
  have hr94 := hg94.trans (hm94.grow (fun _ _ h => h))
  have hW : Grow w w94 := hW.trans hr94
  have hsA := hsA.grow hr94
  have hx13 := hx13.grow hr94
  have hy14 := hy14.grow hr94
  obtain ⟨a6, ca6, rfl, ha6⟩ := hq
  refine lx_move rfl rfl rfl ?_
  refine lx_callC rfl rfl ent19 (fun w' hw' hG => rtl_calls (brF P2 Z0 D (lb.take (2 ^ D)) (x0.toNat % 2 ^ D) ++ [tre P2 Z0 D (la.take (2 ^ D))]) hE2 (D + 1) (by rw [List.length_append, brF_len]; rfl) (by omega) a6 ca6 a80 c80 w' hG (ha6.grow (hp_below hw')) (hy14.grow (hp_below hw'))) rfl rfl ?_
  refine lx_pick rfl rfl rfl rfl rfl ?_
  refine lx_assign rfl rfl rfl ?_
  refine lx_nil ?_
  refine x_ret ?_
  repeat (first | refine kseq_ret ?_ | refine kblk_ret ?_)
  exact kret_tmp rfl rfl (fun w' hw' => ⟨rfl, hW.trans (hp_below hw')⟩)
theorem und_law (hM : MerkleP) (aa ab : Option Addr) (ca cb : Nat) (la lb : List Rt) (d : Int) (x0 : BitVec 64) (hla : AllR la) (hlb : AllR lb) (hca : la.length ≤ ca) (hcb : lb.length ≤ cb) (w : World) (hw : Gt w) (hra : RtsAt w aa la) (hrb : RtsAt w ab lb) : Calls Tryd.prog 9 [.slice aa la.length ca, .slice ab lb.length cb, I d, U64 x0].toArray w (fun e w' => e = .returned (.bool true) ∧ Grow w w') := by
  by_cases hlt : la.length ≤ 60
  · by_cases hlt2 : lb.length ≤ 60
    · exact und_s hM aa ab ca cb la lb d x0 hla hlb hca hcb hlt hlt2 w hw hra hrb
    · exact und_b hM aa ab ca cb la lb d x0 hlt hlt2 w hw
  · exact und_a hM aa ab ca cb la lb d x0 hlt w hw
end Go.Proofs.YtfnnbaoilldpaaaDoor
