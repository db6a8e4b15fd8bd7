/-
  The law of all leaves.
-/
import Derived.Test.YtfnnbaoilldpaaaDoorTG
namespace Go.Proofs.YtfnnbaoilldpaaaDoor
open Go.RowKit
set_option maxRecDepth 100000
set_option maxHeartbeats 1000000
open Sh
theorem all_v {l : List Rt} {D k : Nat} {x : Rt} (hD : D ≤ 8) (hl : l.length ≤ 2 ^ D) (hk : l[k]? = some x) (hn : k ≤ 1000000) : vfy x (brF P2 Z0 D l k) (BitVec.ofInt 64 (k : Int)) (tre P2 Z0 D l) = true := by
  have hlt := (List.getElem?_eq_some_iff.1 hk).1
  have h0 : k % 2 ^ D = k := Nat.mod_eq_of_lt (by omega)
  have h1 := fld_brF P2 Z0 k D l (by omega) hl
  rw [h0, List.getD_eq_getElem?_getD, hk, Option.getD_some] at h1
  unfold vfy
  rw [len64 hn, h1, decide_eq_true rfl, brF_len]
  have h2 : (BitVec.ofInt 64 (k : Int) >>> D == 0#64) = true := by
    rw [beq_iff_eq]
    apply BitVec.eq_of_toNat_eq
    rw [BitVec.toNat_ushiftRight, len64 hn, Nat.shiftRight_eq_div_pow, Nat.div_eq_of_lt (by omega)]
    rfl
  rw [h2, Bool.or_true]; rfl
structure AI (w0 : World) (b7 b8 bm : Nat) (r : Rt) (w : World) : Prop where
  g : Gt w
  gr : Grow w0 w
  h : OwnB w b7 [.pointer (some ⟨bm, 0, none⟩)] 27
  m : MkAt w bm
  r : OwnB w b8 (r.map U8) 29
theorem all_g (hM : MerkleP) (a : Option Addr) (cap : Nat) (l : List Rt) (d : Int) (x0 : BitVec 64) (hlt : ¬ l.length ≤ 60) (w : World) (hw : Gt w) : Calls Tryd.prog 8 [.slice a l.length cap, I d, U64 x0].toArray w (fun e w' => e = .returned (.bool true) ∧ Grow w w') := by
  have hGF : BOk Gt (pl w) := gt_low.plain hw
  refine calls_of_X (G := Gt) Tryd.func8 rfl rfl (Hp (pl w) []) (hp_refl (pl w) trivial rides_true) (good_hp hGF) ?_
  refine xs_plain (E := EE [17, 12, 18]) ?_
  refine lx_assign rfl rfl rfl ?_
  refine lx_nil ?_
  refine x_seq ?_
  refine xs_plain (E := EE [17, 12, 18]) ?_
  refine lx_callC rfl rfl ent10 (fun w1 _ hG => known18 hM w1 hG) rfl rfl ?_
  refine lx_un rfl (fun _ => un_not _) rfl rfl ?_
  refine lx_nil ?_
  refine x_false rfl ?_
  refine x_skip ?_
  refine x_seq ?_
  refine xs_plain (E := EE [17, 12, 18]) ?_
  refine lx_move rfl rfl rfl ?_
  refine lx_callC rfl rfl ent11 (fun w1 _ hG => lig_calls l.length _ _ w1 hG) rfl rfl ?_
  rw [decide_eq_false (show ¬ l.length ≤ 60 from hlt)]
  refine lx_un rfl (fun _ => un_not _) rfl rfl ?_
  refine lx_nil ?_
  refine x_true rfl ?_
  refine xs_plain (E := EE [17, 12, 18]) ?_
  refine lx_assign rfl rfl rfl ?_
  refine lx_nil ?_
  refine x_ret ?_
  repeat (first | refine kseq_ret ?_ | refine kblk_ret ?_)
  exact kret_tmp rfl rfl (fun w' hw' => ⟨rfl, hp_below hw'⟩)
theorem all_s (hM : MerkleP) (a : Option Addr) (cap : Nat) (l : List Rt) (d : Int) (x0 : BitVec 64) (hl : AllR l) (hc : l.length ≤ cap) (hlt : l.length ≤ 60) (w : World) (hw : Gt w) (hr : RtsAt w a l) : Calls Tryd.prog 8 [.slice a l.length cap, I d, U64 x0].toArray w (fun e w' => e = .returned (.bool true) ∧ Grow w w') := by
  have hGF : BOk Gt (pl w) := gt_low.plain hw
  refine calls_of_X (G := Gt) Tryd.func8 rfl rfl (Hp (pl w) []) (hp_refl (pl w) trivial rides_true) (good_hp hGF) ?_
  refine xs_plain (E := EE [17, 12, 18]) ?_
  refine lx_assign rfl rfl rfl ?_
  refine lx_nil ?_
  refine x_seq ?_
  refine xs_plain (E := EE [17, 12, 18]) ?_
  refine lx_callC rfl rfl ent10 (fun w1 _ hG => known18 hM w1 hG) rfl rfl ?_
  refine lx_un rfl (fun _ => un_not _) rfl rfl ?_
  refine lx_nil ?_
  refine x_false rfl ?_
  refine x_skip ?_
  refine x_seq ?_
  refine xs_plain (E := EE [17, 12, 18]) ?_
  refine lx_move rfl rfl rfl ?_
  refine lx_callC rfl rfl ent11 (fun w1 _ hG => lig_calls l.length _ _ w1 hG) rfl rfl ?_
  rw [decide_eq_true (show l.length ≤ 60 from hlt)]
  refine lx_un rfl (fun _ => un_not _) rfl rfl ?_
  refine lx_nil ?_
  refine x_false rfl ?_
  refine x_skip ?_
  refine xs_plain (E := EE [17, 12, 18]) ?_
  refine lx_move rfl rfl rfl ?_
  refine lx_callW gt_low (M := fun _ => False) (fun k h => h.elim) rfl rfl ent17 rfl rfl hGF (Q := fun w1 w2 v => ∃ k : Nat, v = I (k : Int) ∧ k < 5) (fun w1 h1 g1 => (plc_calls d 5 (by omega) (by omega) w1 g1).mono fun e w2 ⟨k, q1, q2, q3⟩ => ⟨_, q1, grow_mm q3, k, rfl, q2⟩) (fun w19a w19 v hg19 hm19 gg19 hq => ?_)
  have hGF := gt_low.plain gg19
  have hr19 := hg19.trans (hm19.grow (fun _ _ h => h))
  have hW : Grow w w19 := hr19
  obtain ⟨D, rfl, hD⟩ := hq
  have hpD := Nat.two_pow_pos D
  have hlT : (l.take (2 ^ D)).length ≤ 2 ^ D := by rw [List.length_take]; omega
  have hlS : (l.take (2 ^ D)).length ≤ l.length := by rw [List.length_take]; omega
  refine lx_assign rfl rfl rfl ?_
  refine lx_nil ?_
  refine xs_plain (E := EE [17, 12, 18]) ?_
  refine lx_callW gt_low (M := fun _ => False) (fun k h => h.elim) rfl rfl ent12 rfl rfl hGF (Q := fun w1 w2 v => ∃ bm, v = .agg [.pointer (some ⟨bm, 0, none⟩)].toArray ∧ w1.heap.size ≤ bm ∧ MkAt w2 bm) (fun w1 h1 g1 => (hnew_calls w1 g1).mono fun e w2 ⟨bm, q1, q2, q3, q4⟩ => ⟨_, q1, grow_mm q2, bm, rfl, q3, q4⟩) (fun w20a w20 v hg20 hm20 gg20 hq => ?_)
  have hGF := gt_low.plain gg20
  have hr20 := hg20.trans (hm20.grow (fun _ _ h => h))
  have hW : Grow w w20 := hW.trans hr20
  obtain ⟨bm, rfl, _, hmk⟩ := hq
  refine lx_allocr 7 hGF zvH rfl rfl ?_
  intro b7
  refine lx_storea 7 hGF rfl rfl rfl Tryd.sizeOf27 rfl rfl (by rfl) rfl ?_
  refine lx_nil ?_
  refine xs_plain (E := EE [17, 12, 18]) ?_
  refine lx_move rfl rfl rfl ?_
  refine lx_move rfl rfl rfl ?_
  refine lx_len rfl (fun _ => len_slice Tryd.underlying22 _ _ _ _) rfl rfl ?_
  refine lx_move rfl rfl rfl ?_
  refine lx_bin (v := I (((2 ^ D : Nat) : Int))) rfl rfl (fun _ => rfl) (fun _ => shl1_i _ D (by omega) _) rfl rfl ?_
  refine lx_min (z := (((l.take (2 ^ D)).length : Nat) : Int)) rfl rfl (by rw [List.length_take]; split <;> omega) rfl rfl ?_
  refine lx_slsl (l := 0) (h' := (l.take (2 ^ D)).length) rfl Tryd.underlying22 Tryd.sizeOf29 rfl rfl ⟨Nat.zero_le _, by omega⟩ rfl rfl ?_
  rw [cutR0, Nat.sub_zero, Nat.sub_zero]
  refine lx_assign rfl rfl rfl ?_
  refine lx_nil ?_
  refine xs_plain (E := EE [17, 12, 18]) ?_
  refine lx_loada 7 rfl rfl Tryd.isAgg27 Tryd.sizeOf27 rfl rfl rfl ?_
  refine lx_move rfl rfl rfl ?_
  refine lx_move rfl rfl rfl ?_
  refine lx_callC rfl rfl ent21 (fun w' hw' hG => htree_calls bm D (by omega) (l.take (2 ^ D)) (hl.take _) _ rfl (by omega) _ cap (by omega) w' hG (hmk.grow (hp_below hw')) ((hr.take _).grow (hW.trans (hp_below hw')))) rfl rfl ?_
  refine lx_allocr 8 hGF zv29 rfl rfl ?_
  intro b8
  refine lx_storea 8 hGF rfl rfl rfl Tryd.sizeOf29 (by rw [List.length_map]; exact tre_len (hl.take _) D) (by rw [List.length_map]; exact Z0_len) (one_u8 _) rfl ?_
  refine lx_nil ?_
  refine x_seq ?_
  refine xs_plain (E := EE [17, 12, 18]) ?_
  refine lx_assign rfl rfl rfl ?_
  refine lx_nil ?_
  refine x_block ?_
  refine x_now0 gt_low (fun w7 hC g7 => ?_)
  have hI : AI w b7 b8 bm (tre P2 Z0 D (l.take (2 ^ D))) w7 := ⟨g7, hW.trans (hp_below hC), (hC.own 7 _ _ _ rfl).1, hmk.grow (hp_below hC), (hC.own 8 _ _ _ rfl).1⟩
  clear hC
  refine x_forW gt_low (ι := { x : Nat × World // x.1 ≤ (l.take (2 ^ D)).length ∧ AI w b7 b8 bm (tre P2 Z0 D (l.take (2 ^ D))) x.2 }) (fun x => [(0, .slice a (l.take (2 ^ D)).length cap), (1, I (D : Int)), (2, U64 x0), (7, .pointer (some ⟨b7, 0, none⟩)), (8, .pointer (some ⟨b8, 0, none⟩)), (9, I (x.1.1 : Int))]) (fun x => x.1.2) (fun x => (l.take (2 ^ D)).length - x.1.1) ⟨(0, w7), Nat.zero_le _, hI⟩ (fun x => x.2.2.g) rfl ⟨rfl, rfl, rfl, rfl, rfl, rfl, trivial⟩ ?_
  clear hI hW hmk
  rintro ⟨⟨k, wk⟩, hk, hI⟩
  dsimp only at hk hI ⊢
  have hgt := hI.g
  have hGF : BOk Gt (pl wk) := gt_low.plain hI.g
  have hW := hI.gr
  have hH := hI.h
  have hmk := hI.m
  have hR := hI.r
  refine x_seq ?_
  refine xs_plain (E := EE [17, 12, 18]) ?_
  refine lx_move rfl rfl rfl ?_
  refine lx_move rfl rfl rfl ?_
  refine lx_len rfl (fun _ => len_slice Tryd.underlying22 _ _ _ _) rfl rfl ?_
  rcases Nat.lt_or_ge k (l.take (2 ^ D)).length with hltk | hge
  · skip
    obtain ⟨x, hbx⟩ : ∃ x, (l.take (2 ^ D))[k]? = some x := ⟨_, List.getElem?_eq_getElem hltk⟩
    have hx : x.length = 32 := hl.take _ x (List.mem_of_getElem? hbx)
    obtain ⟨ad, hae, hxc⟩ := (hr.take (2 ^ D)) _ x hbx
    subst hae
    refine lx_binB true rfl rfl (fun _ => rfl) (fun _ => bin_lss_i _ _ _) (by rw [decide_eq_true_eq]; omega) rfl rfl ?_
    refine lx_nil ?_
    refine x_true rfl ?_
    refine x_skip ?_
    refine x_seq ?_
    refine x_block ?_
    refine xs_plain (E := EE [17, 12, 18]) ?_
    refine lx_move rfl rfl rfl ?_
    refine lx_move rfl rfl rfl ?_
    refine lx_move rfl rfl rfl ?_
    refine lx_conv rfl rfl (fun _ => conv_i_u64 Tryd.underlying3 Tryd.underlying37 _) rfl rfl ?_
    refine lx_callW gt_low (M := fun _ => False) (fun k h => h.elim) rfl rfl ent18 rfl rfl hGF (Q := fun w1 w2 v => ∃ a3 c3, v = .slice a3 D c3 ∧ RtsAt w2 a3 (brF P2 Z0 D (l.take (2 ^ D)) k) ∧ D ≤ c3) (fun w1 h1 g1 => (hM.bra D (by omega) (l.take (2 ^ D)) (hl.take _) _ rfl (by omega) _ cap (by omega) (BitVec.ofInt 64 (k : Int)) w1 g1 ((hr.take _).grow (hW.trans h1))).mono fun e w2 ⟨v, q1, q2, q3⟩ => ⟨v, q1, grow_mm q2, by rw [len64 (by omega), List.take_of_length_le hlT] at q3; obtain ⟨a3, c3, rfl, hs3, _⟩ := q3; exact ⟨a3, c3, by rw [brF_len], SlW.rts (brF_all D _ (hl.take _)) hs3, by have := SlW.le hs3; rw [brF_len] at this; exact this⟩⟩) (fun w42a w42 v hg42 hm42 gg42 hq => ?_)
    have hGF := gt_low.plain gg42
    have hr42 := hg42.trans (hm42.grow (fun _ _ h => h))
    have hW : Grow w w42 := hW.trans hr42
    have hH := hH.grow hr42
    have hmk := hmk.grow hr42
    have hR := hR.grow hr42
    obtain ⟨a3, c3, rfl, hs3, hc3⟩ := hq
    have hgt := gg42
    refine lx_assign rfl rfl rfl ?_
    refine lx_nil ?_
    refine xs_drawn (E := EE [17, 12, 18]) mixed (by kernel_rfl) (by kernel_rfl) (by kernel_rfl) ?_
    refine lx_move rfl rfl rfl ?_
    refine lx_move rfl rfl rfl ?_
    refine lx_isAW k 32 rfl rfl Tryd.underlying22 Tryd.sizeOf29 rfl (by omega) rfl rfl ?_
    refine lx_loadA (cs := x.map U8) rfl Tryd.isAgg29 Tryd.sizeOf29 (by rw [List.length_map]; exact hx) (fun w' h j v hv => ((hW.trans (hp_below h)).cell (block_lt_of_cell (hxc j v hv))).trans (hxc j v hv)) rfl rfl ?_
    refine lx_move rfl rfl rfl ?_
    refine lx_move rfl rfl rfl ?_
    refine lx_conv rfl rfl (fun _ => conv_i_u64 Tryd.underlying3 Tryd.underlying37 _) rfl rfl ?_
    refine lx_loadr (cs := (tre P2 Z0 D (l.take (2 ^ D))).map U8) rfl Tryd.isAgg29 Tryd.sizeOf29 (by rw [List.length_map]; exact tre_len (hl.take _) D) (fun w' h => (hR.grow (hp_below h)).range) rfl rfl ?_
    refine lx_callC rfl rfl ent22 (fun w' hw' hG => hM.ver x hx (brF P2 Z0 D (l.take (2 ^ D)) k) (brF_all D _ (hl.take _)) D (brF_len ..) (by omega) a3 c3 hc3 (BitVec.ofInt 64 (k : Int)) (tre P2 Z0 D (l.take (2 ^ D))) (tre_len (hl.take _) D) w' hG (hs3.grow (hp_below hw'))) rfl rfl ?_
    rw [show vfy x (brF P2 Z0 D (l.take (2 ^ D)) k) (BitVec.ofInt 64 (k : Int)) (tre P2 Z0 D (l.take (2 ^ D))) = true from all_v (by omega) hlT hbx (by omega)]
    refine lx_un rfl (fun _ => un_not _) rfl rfl ?_
    refine lx_move rfl rfl rfl ?_
    refine lx_move rfl rfl rfl ?_
    refine lx_move rfl rfl rfl ?_
    refine lx_isAW k 32 rfl rfl Tryd.underlying22 Tryd.sizeOf29 rfl (by omega) rfl rfl ?_
    refine lx_loadA (cs := x.map U8) rfl Tryd.isAgg29 Tryd.sizeOf29 (by rw [List.length_map]; exact hx) (fun w' h j v hv => ((hW.trans (hp_below h)).cell (block_lt_of_cell (hxc j v hv))).trans (hxc j v hv)) rfl rfl ?_
    refine lx_move rfl rfl rfl ?_
    refine lx_move rfl rfl rfl ?_
    refine lx_bin rfl rfl (fun _ => rfl) (fun _ => bin_rem_u64 _ _ _ (by decide)) rfl rfl ?_
    refine lx_loadr (cs := (tre P2 Z0 D (l.take (2 ^ D))).map U8) rfl Tryd.isAgg29 Tryd.sizeOf29 (by rw [List.length_map]; exact tre_len (hl.take _) D) (fun w' h => (hR.grow (hp_below h)).range) rfl rfl ?_
    refine lx_callC rfl rfl ent22 (fun w' hw' hG => hM.ver x hx (brF P2 Z0 D (l.take (2 ^ D)) k) (brF_all D _ (hl.take _)) D (brF_len ..) (by omega) a3 c3 hc3 (x0 % 64#64) (tre P2 Z0 D (l.take (2 ^ D))) (tre_len (hl.take _) D) w' hG (hs3.grow (hp_below hw'))) rfl rfl ?_
    refine lx_loadr (cs := [.pointer (some ⟨bm, 0, none⟩)]) rfl Tryd.isAgg27 Tryd.sizeOf27 rfl (fun w' h => (hH.grow (hp_below h)).range) rfl rfl ?_
    refine lx_move rfl rfl rfl ?_
    refine lx_move rfl rfl rfl ?_
    refine lx_isAW k 32 rfl rfl Tryd.underlying22 Tryd.sizeOf29 rfl (by omega) rfl rfl ?_
    refine lx_loadA (cs := x.map U8) rfl Tryd.isAgg29 Tryd.sizeOf29 (by rw [List.length_map]; exact hx) (fun w' h j v hv => ((hW.trans (hp_below h)).cell (block_lt_of_cell (hxc j v hv))).trans (hxc j v hv)) rfl rfl ?_
    refine lx_move rfl rfl rfl ?_
    refine lx_move rfl rfl rfl ?_
    refine lx_bin rfl rfl (fun _ => rfl) (fun _ => bin_rem_u64 _ _ _ (by decide)) rfl rfl ?_
    refine lx_loadr (cs := (tre P2 Z0 D (l.take (2 ^ D))).map U8) rfl Tryd.isAgg29 Tryd.sizeOf29 (by rw [List.length_map]; exact tre_len (hl.take _) D) (fun w' h => (hR.grow (hp_below h)).range) rfl rfl ?_
    refine lx_callC rfl rfl ent24 (fun w' hw' hG => by have h0 := hver_calls bm x hx (brF P2 Z0 D (l.take (2 ^ D)) k) (brF_all D _ (hl.take _)) a3 c3 (x0 % 64#64) (tre P2 Z0 D (l.take (2 ^ D))) (tre_len (hl.take _) D) (by rw [brF_len]; omega) w' hG (hmk.grow (hp_below hw')) (hs3.grow (hp_below hw')); rw [brF_len] at h0; exact h0) rfl rfl ?_
    refine lx_binB false rfl rfl (fun _ => rfl) (fun w => bin_neq_bool 4 Tryd.underlying4 _ _ w) (by simp) rfl rfl ?_
    refine lx_pick rfl rfl rfl rfl rfl ?_
    refine lx_nil ?_
    refine x_false rfl ?_
    refine x_skip ?_
    refine x_plain (E := EE [17, 12, 18]) ?_
    refine lx_move rfl rfl rfl ?_
    refine lx_bin (v := I (((k + 1 : Nat) : Int))) rfl rfl (fun _ => rfl) (fun _ => (bin_add_i _ _ _ (by unfold inI; omega)).trans (by rfl)) rfl rfl ?_
    refine lx_assign rfl rfl rfl ?_
    refine lx_nil ?_
    repeat (refine kblk_n ?_)
    refine kseq_n ?_
    exact ⟨rfl, ⟨(k + 1, _), hltk, ⟨hgt, hW, hH, hmk, hR⟩⟩, by show (l.take (2 ^ D)).length - (k + 1) < (l.take (2 ^ D)).length - k; omega, rfl, ⟨rfl, rfl, rfl, rfl, rfl, rfl, trivial⟩⟩
  · skip
    refine lx_binB false rfl rfl (fun _ => rfl) (fun _ => bin_lss_i _ _ _) (by rw [decide_eq_false_iff_not]; omega) rfl rfl ?_
    refine lx_nil ?_
    refine x_false rfl ?_
    refine x_exit ?_
    refine xs_plain (E := EE [17, 12, 18]) ?_
    refine lx_move rfl rfl rfl ?_
    refine lx_move rfl rfl rfl ?_
    refine lx_bin (v := I (((2 ^ D : Nat) : Int))) rfl rfl (fun _ => rfl) (fun _ => shl1_i _ D (by omega) _) rfl rfl ?_
    refine lx_callC rfl rfl ent13 (fun w' hw' hG => hM.rootY ((2 ^ D : Nat) : Int) (pow63 (by omega)) (l.take (2 ^ D)) (hl.take _) _ rfl (by omega) _ cap (by omega) (by rw [Int.toNat_natCast]; omega) w' hG ((hr.take _).grow (hW.trans (hp_below hw')))) rfl rfl ?_
    rw [Int.toNat_natCast, dep_pow (by omega)]
    refine lx_move rfl rfl rfl ?_
    refine lx_ext rfl rfl rfl rfl ?_
    refine lx_ext rfl rfl rfl rfl ?_
    refine lx_allocr 11 hGF zv29 rfl rfl ?_
    intro b11
    refine lx_storea 11 hGF rfl rfl rfl Tryd.sizeOf29 (by rw [List.length_map]; exact tre_len (hl.take _) _) (by rw [List.length_map]; exact Z0_len) (one_u8 _) rfl ?_
    refine lx_assign rfl rfl rfl ?_
    refine lx_nil ?_
    refine xs_plain (E := EE [17, 12, 18]) ?_
    refine lx_move rfl rfl rfl ?_
    refine lx_binB true rfl rfl (fun _ => rfl) (fun _ => bin_eql_i _ _ _) (by decide) rfl rfl ?_
    refine lx_move rfl rfl rfl ?_
    refine lx_loada 11 rfl rfl Tryd.isAgg29 Tryd.sizeOf29 (by rw [List.length_map]; exact tre_len (hl.take _) _) rfl rfl ?_
    refine lx_loadr (cs := (tre P2 Z0 D (l.take (2 ^ D))).map U8) rfl Tryd.isAgg29 Tryd.sizeOf29 (by rw [List.length_map]; exact tre_len (hl.take _) D) (fun w' h => (hR.grow (hp_below h)).range) rfl rfl ?_
    refine lx_binB true rfl rfl (fun w' => eqg29 _ _ _ _ _ w') (fun w' => eqv29 _ _ (tre_len (hl.take _) D) (tre_len (hl.take _) D) w') (decide_eq_true rfl) rfl rfl ?_
    refine lx_pick rfl rfl rfl rfl rfl ?_
    refine lx_assign rfl rfl rfl ?_
    refine lx_nil ?_
    refine x_ret ?_
    repeat (first | refine kseq_ret ?_ | refine kblk_ret ?_)
    exact kret_tmp rfl rfl (fun w' hw' => ⟨rfl, hW.trans (hp_below hw')⟩)
theorem all_law (hM : MerkleP) (a : Option Addr) (cap : Nat) (l : List Rt) (d : Int) (x0 : BitVec 64) (hl : AllR l) (hc : l.length ≤ cap) (w : World) (hw : Gt w) (hr : RtsAt w a l) : Calls Tryd.prog 8 [.slice a l.length cap, I d, U64 x0].toArray w (fun e w' => e = .returned (.bool true) ∧ Grow w w') := by
  by_cases hlt : l.length ≤ 60
  · exact all_s hM a cap l d x0 hl hc hlt w hw hr
  · exact all_g hM a cap l d x0 hlt w hw
end Go.Proofs.YtfnnbaoilldpaaaDoor
