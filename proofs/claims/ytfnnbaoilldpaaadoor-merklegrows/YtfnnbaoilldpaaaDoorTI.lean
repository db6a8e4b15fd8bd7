/-
  Roots appended; the law of noughts behind the chunks.
-/
import Derived.Test.YtfnnbaoilldpaaaDoorTG
import Derived.Test.YtfnnbaoilldpaaaDoorX3
namespace Go.Proofs.YtfnnbaoilldpaaaDoor
open Go.RowKit
set_option maxRecDepth 100000
set_option maxHeartbeats 1000000
open Sh
theorem flat_back {l : List Rt} (hl : AllR l) {j : Nat} {u : BitVec 8} (h : l.flatten[j]? = some u) : ∃ r, l[j / 32]? = some r ∧ r[j % 32]? = some u := by
  have hj := (List.getElem?_eq_some_iff.1 h).1
  rw [flat_len l hl] at hj
  have hi : j / 32 < l.length := by omega
  have hr : l[j / 32]? = some l[j / 32] := List.getElem?_eq_getElem hi
  have hr32 := hl _ (List.getElem_mem hi)
  have hm : j % 32 < l[j / 32].length := by omega
  refine ⟨_, hr, ?_⟩
  have := flat_get l hl (j / 32) _ hr (j % 32) _ (List.getElem?_eq_getElem hm)
  rw [show j / 32 * 32 + j % 32 = j from by omega, h] at this
  rw [List.getElem?_eq_getElem hm]
  exact this.symm
theorem rts_src {P : Program} {w : World} {a : Option Addr} {l : List Rt} {tx e' : TypeId} (hk : P.underlying tx = some (.slice e')) (hl : AllR l) (h : RtsAt w a l) {len : Nat} (hlen : l.length = len) (c : Nat) : Src P 32 tx (.slice a len c) len (l.flatten.map U8) w := by
  subst hlen
  have hone : ∀ u ∈ l.flatten.map U8, u.oneCell' = true := fun u hu => by
    obtain ⟨x, _, rfl⟩ := List.mem_map.1 hu
    rfl
  cases a with
  | none =>
    have h0 : l = [] := by
      cases l with
      | nil => rfl
      | cons x r => obtain ⟨_, e, _⟩ := h 0 x rfl; cases e
    subst h0
    exact Src.ofNil w hk c
  | some ad =>
    refine Src.ofSlice w hk ad _ c _ (by rw [List.length_map, flat_len l hl]; omega) (fun j u hu => ?_) hone
    rw [List.getElem?_map, Option.map_eq_some_iff] at hu
    obtain ⟨x, hx, rfl⟩ := hu
    obtain ⟨r, h1, h2⟩ := flat_back hl hx
    obtain ⟨ad2, e, h3⟩ := h _ r h1
    cases e
    have := h3 (j % 32) (U8 x) (by rw [List.getElem?_map, h2]; rfl)
    rw [add_addR, show j / 32 * 32 + j % 32 = j from by omega] at this
    exact this
theorem zeros_flat (m : Nat) : (Builtin.zeroCells (Value.agg (Z0.map U8).toArray).cells m).toList = (List.replicate m Z0).flatten.map U8 := by
  have h : (Value.agg (Z0.map U8).toArray).cells.size = 32 := by show (Z0.map U8).toArray.size = 32; rw [List.size_toArray, List.length_map]; rfl
  have e := madeR m
  rw [madeCells, h] at e
  rw [Builtin.zeroCells, h, e]
  clear e
  congr 1
  induction m with
  | zero => rfl
  | succ m ih => rw [List.replicate_succ, List.flatten_cons, ← ih, Z0, List.replicate_append_replicate]; congr 1; omega
theorem zeros_one (m : Nat) : ∀ u ∈ (Builtin.zeroCells (Value.agg (Z0.map U8).toArray).cells m).toList, u.oneCell' = true := fun u hu => by
  rw [zeros_flat] at hu
  obtain ⟨x, _, rfl⟩ := List.mem_map.1 hu
  rfl
theorem all_rep (m : Nat) : AllR (List.replicate m Z0) := fun r hr => by rw [(List.mem_replicate.1 hr).2]; rfl
theorem all_app {l m : List Rt} (h1 : AllR l) (h2 : AllR m) : AllR (l ++ m) := fun r hr => (List.mem_append.1 hr).elim (h1 r) (h2 r)
theorem grow_d {N : Nat} (h : N ≤ 200) : dep N ≤ 8 ∧ N ≤ 2 ^ dep N := by
  obtain ⟨h1, h2, h3⟩ := dep_is N
  have h8 : dep N ≤ 8 := by
    rcases Nat.lt_or_ge 8 (dep N) with h4 | h4
    · have := h3 8 h4
      have h5 : 2 ^ 8 = 256 := by decide
      omega
    · exact h4
  exact ⟨h8, h2.elim (fun h => by omega) id⟩
theorem grows_g (hM : MerkleP) (a : Option Addr) (cap : Nat) (l : List Rt) (mo lim : Int) (hlt : ¬ l.length ≤ 60) (w : World) (hw : Gt w) : Calls Tryd.prog 7 [.slice a l.length cap, I mo, I lim].toArray w (fun e w' => e = .returned (.bool true) ∧ Grow w w') := by
  have hGF : BOk Gt (pl w) := gt_low.plain hw
  refine calls_of_X (G := Gt) Tryd.func7 rfl rfl (Hp (pl w) []) (hp_refl (pl w) trivial rides_true) (good_hp hGF) ?_
  refine xs_plain (E := EE [17, 12]) ?_
  refine lx_assign rfl rfl rfl ?_
  refine lx_nil ?_
  refine x_seq ?_
  refine xs_plain (E := EE [17, 12]) ?_
  refine lx_callC rfl rfl ent10 (fun w1 _ hG => known18 hM w1 hG) rfl rfl ?_
  refine lx_un rfl (fun _ => un_not _) rfl rfl ?_
  refine lx_nil ?_
  refine x_false rfl ?_
  refine x_skip ?_
  refine x_seq ?_
  refine xs_plain (E := EE [17, 12]) ?_
  refine lx_move rfl rfl rfl ?_
  refine lx_callC rfl rfl ent11 (fun w1 _ hG => lig_calls l.length _ _ w1 hG) rfl rfl ?_
  rw [decide_eq_false (show ¬ l.length ≤ 60 from hlt)]
  refine lx_un rfl (fun _ => un_not _) rfl rfl ?_
  refine lx_nil ?_
  refine x_true rfl ?_
  refine xs_plain (E := EE [17, 12]) ?_
  refine lx_assign rfl rfl rfl ?_
  refine lx_nil ?_
  refine x_ret ?_
  repeat (first | refine kseq_ret ?_ | refine kblk_ret ?_)
  exact kret_tmp rfl rfl (fun w' hw' => ⟨rfl, hp_below hw'⟩)
theorem grows_s (hM : MerkleP) (a : Option Addr) (cap : Nat) (l : List Rt) (mo lim : Int) (hl : AllR l) (hc : l.length ≤ cap) (hlt : l.length ≤ 60) (w : World) (hw : Gt w) (hr : RtsAt w a l) : Calls Tryd.prog 7 [.slice a l.length cap, I mo, I lim].toArray w (fun e w' => e = .returned (.bool true) ∧ Grow w w') := by
  have hGF : BOk Gt (pl w) := gt_low.plain hw
  refine calls_of_X (G := Gt) Tryd.func7 rfl rfl (Hp (pl w) []) (hp_refl (pl w) trivial rides_true) (good_hp hGF) ?_
  refine xs_plain (E := EE [17, 12]) ?_
  refine lx_assign rfl rfl rfl ?_
  refine lx_nil ?_
  refine x_seq ?_
  refine xs_plain (E := EE [17, 12]) ?_
  refine lx_callC rfl rfl ent10 (fun w1 _ hG => known18 hM w1 hG) rfl rfl ?_
  refine lx_un rfl (fun _ => un_not _) rfl rfl ?_
  refine lx_nil ?_
  refine x_false rfl ?_
  refine x_skip ?_
  refine x_seq ?_
  refine xs_plain (E := EE [17, 12]) ?_
  refine lx_move rfl rfl rfl ?_
  refine lx_callC rfl rfl ent11 (fun w1 _ hG => lig_calls l.length _ _ w1 hG) rfl rfl ?_
  rw [decide_eq_true (show l.length ≤ 60 from hlt)]
  refine lx_un rfl (fun _ => un_not _) rfl rfl ?_
  refine lx_nil ?_
  refine x_false rfl ?_
  refine x_skip ?_
  refine xs_plain (E := EE [17, 12]) ?_
  refine lx_move rfl rfl rfl ?_
  refine lx_len rfl (fun _ => len_slice Tryd.underlying22 _ _ _ _) rfl rfl ?_
  refine lx_move rfl rfl rfl ?_
  refine lx_callW gt_low (M := fun _ => False) (fun k h => h.elim) rfl rfl ent17 rfl rfl hGF (Q := fun w1 w2 v => ∃ k : Nat, v = I (k : Int) ∧ k < 100) (fun w1 h1 g1 => (plc_calls lim 100 (by omega) (by omega) w1 g1).mono fun e w2 ⟨k, q1, q2, q3⟩ => ⟨_, q1, grow_mm q3, k, rfl, q2⟩) (fun w22a w22 v hg22 hm22 gg22 hq => ?_)
  have hGF := gt_low.plain gg22
  have hr22 := hg22.trans (hm22.grow (fun _ _ h => h))
  have hW : Grow w w22 := hr22
  obtain ⟨k1, rfl, hk1⟩ := hq
  obtain ⟨hd8, hdN⟩ := grow_d (show (l.length + k1) ≤ 200 by omega)
  refine lx_bin (v := I ((((l.length + k1) : Nat) : Int))) rfl rfl (fun _ => rfl) (fun _ => (bin_add_i _ _ _ (by unfold inI; omega)).trans (by rfl)) rfl rfl ?_
  refine lx_assign rfl rfl rfl ?_
  refine lx_nil ?_
  refine xs_plain (E := EE [17, 12]) ?_
  refine lx_move rfl rfl rfl ?_
  refine lx_move rfl rfl rfl ?_
  refine lx_move rfl rfl rfl ?_
  refine lx_len rfl (fun _ => len_slice Tryd.underlying22 _ _ _ _) rfl rfl ?_
  refine lx_bin (v := I (((k1 : Nat) : Int))) rfl rfl (fun _ => rfl) (fun _ => (bin_sub_i _ _ _ (by unfold inI; omega)).trans (by congr 2; omega)) rfl rfl ?_
  refine lx_bin (v := I (((k1 + 1 : Nat) : Int))) rfl rfl (fun _ => rfl) (fun _ => (bin_add_i _ _ _ (by unfold inI; omega)).trans (by rfl)) rfl rfl ?_
  refine lx_callW gt_low (M := fun _ => False) (fun k h => h.elim) rfl rfl ent17 rfl rfl hGF (Q := fun w1 w2 v => ∃ k : Nat, v = I (k : Int) ∧ k < k1 + 1) (fun w1 h1 g1 => (plc_calls mo (k1 + 1) (by omega) (by omega) w1 g1).mono fun e w2 ⟨k, q1, q2, q3⟩ => ⟨_, q1, grow_mm q3, k, rfl, q2⟩) (fun w30a w30 v hg30 hm30 gg30 hq => ?_)
  have hGF := gt_low.plain gg30
  have hr30 := hg30.trans (hm30.grow (fun _ _ h => h))
  have hW : Grow w w30 := hW.trans hr30
  obtain ⟨m, rfl, hm1⟩ := hq
  refine lx_assign rfl rfl rfl ?_
  refine lx_nil ?_
  refine xs_plain (E := EE [17, 12]) ?_
  refine lx_move rfl rfl rfl ?_
  refine lx_move rfl rfl rfl ?_
  refine lx_callC rfl rfl ent13 (fun w' hw' hG => hM.rootY (((l.length + k1) : Nat) : Int) (by omega) l hl _ rfl (by omega) a cap hc (by rw [Int.toNat_natCast]; omega) w' hG (hr.grow (hW.trans (hp_below hw')))) rfl rfl ?_
  rw [Int.toNat_natCast]
  refine lx_move rfl rfl rfl ?_
  refine lx_ext rfl rfl rfl rfl ?_
  refine lx_ext rfl rfl rfl rfl ?_
  refine lx_allocr 7 hGF zv29 rfl rfl ?_
  intro b7
  refine lx_storea 7 hGF rfl rfl rfl Tryd.sizeOf29 (by rw [List.length_map]; exact tre_len hl _) (by rw [List.length_map]; exact Z0_len) (one_u8 _) rfl ?_
  refine lx_assign rfl rfl rfl ?_
  refine lx_nil ?_
  refine x_now0 gt_low (fun w7 hC g7 => ?_)
  have hGF := gt_low.plain g7
  have hA0 := (hC.own 7 _ _ _ rfl).1
  have hA := hA0
  have hW : Grow w w7 := hW.trans (hp_below hC)
  have hW7 := hW
  clear hC
  refine xs_plain (E := EE [17, 12]) ?_
  refine lx_move rfl rfl rfl ?_
  refine lx_appX (xs := ([]).flatten.map U8) (ys := (l).flatten.map U8) (nx := 0) (ny := l.length) gt_low (fun w' h => hGF.g _ _ _ h) rfl rfl tiR rfl (fun w' h => .inl ⟨rfl, rfl, rfl, rfl⟩) (fun k hk => by obtain ⟨_, e, _⟩ := hk; cases e) (fun w' h i _ hz hs _ => ASrc.of Tryd.underlying22 ‹_› hz (by rw [hs]; exact rts_src Tryd.underlying22 hl (hr.grow (hW.trans (hp_below h))) rfl cap)) (by omega) (by omega) rfl rfl (fun w39a w39 a39 c39 hC g2 hm hs9 ho => ?_)
  have hG9 : Grow w7 w39 := hm.grow0 (hp_below hC) (fun k ⟨_, e, _⟩ => by cases e)
  have hA := hA.grow hG9
  have hW : Grow w w39 := hW.trans hG9
  have hn9 : New w7 a39 := fun ad e => (ho _ ⟨ad, e, rfl⟩).elim (fun ⟨_, e, _⟩ => by cases e) (fun h => Nat.le_trans (hp_below hC).size h)
  rw [Nat.zero_add] at hs9 ⊢
  have hGF := gt_low.plain g2
  clear hC hm ho
  refine lx_move rfl rfl rfl ?_
  refine lx_appX (xs := (l).flatten.map U8) (ys := (List.replicate m Z0).flatten.map U8) (nx := l.length) (ny := m) gt_low (fun w' h => hGF.g _ _ _ h) rfl rfl tiR rfl (fun w' h => hs9.grow (hp_below h)) (fun k hk => by obtain ⟨ad, e, hk⟩ := hk; have := hn9 ad e; have := gt_low.size w7 g7; omega) (fun w' h i hi hz hs hb => by have h0 := ASrc.zeros (n := m) (w := w') Tryd.underlying22 Tryd.underlying3 hi hz (by rw [hs]; rfl) (by rw [hs]; decide) (zeros_one m) (by omega) (by rw [hb]; omega); rw [zeros_flat] at h0; exact h0) (by omega) (by omega) rfl rfl (fun w41a w41 a41 c41 hC g2 hm hs8 ho => ?_)
  have hG8 : Grow w7 w41 := hm.grow0 (hG9.trans (hp_below hC)) (fun k ⟨ad, e, hk⟩ => hk ▸ hn9 ad e)
  have hA := hA0.grow hG8
  have hW : Grow w w41 := hW7.trans hG8
  rw [← List.map_append, ← List.flatten_append] at hs8
  have hs8r : RtsAt w41 a41 (l ++ List.replicate m Z0) := SlW.rts (all_app hl (all_rep m)) (by rw [List.length_append, List.length_replicate]; exact hs8)
  have hc8 := SlW.le hs8
  have hGF := gt_low.plain g2
  clear hC hm ho
  refine lx_move rfl rfl rfl ?_
  refine lx_callC rfl rfl ent13 (fun w' hw' hG => hM.rootY (((l.length + k1) : Nat) : Int) (by omega) (l ++ List.replicate m Z0) (all_app hl (all_rep m)) _ (by rw [List.length_append, List.length_replicate]) (by omega) a41 c41 hc8 (by rw [Int.toNat_natCast]; omega) w' hG (hs8r.grow (hp_below hw'))) rfl rfl ?_
  rw [Int.toNat_natCast, tre_pad]
  refine lx_move rfl rfl rfl ?_
  refine lx_ext rfl rfl rfl rfl ?_
  refine lx_ext rfl rfl rfl rfl ?_
  refine lx_allocr 9 hGF zv29 rfl rfl ?_
  intro b9
  refine lx_storea 9 hGF rfl rfl rfl Tryd.sizeOf29 (by rw [List.length_map]; exact tre_len hl _) (by rw [List.length_map]; exact Z0_len) (one_u8 _) rfl ?_
  refine lx_assign rfl rfl rfl ?_
  refine lx_nil ?_
  refine x_now0 gt_low (fun w9 hC g9 => ?_)
  have hGF := gt_low.plain g9
  have hB := (hC.own 9 _ _ _ rfl).1
  have hA := hA.grow (hp_below hC)
  have hW : Grow w w9 := hW.trans (hp_below hC)
  clear hC
  refine xs_plain (E := EE [17, 12]) ?_
  refine lx_callW gt_low (M := fun _ => False) (fun k h => h.elim) rfl rfl ent12 rfl rfl hGF (Q := fun w1 w2 v => ∃ bm, v = .agg [.pointer (some ⟨bm, 0, none⟩)].toArray ∧ w1.heap.size ≤ bm ∧ MkAt w2 bm) (fun w1 h1 g1 => (hnew_calls w1 g1).mono fun e w2 ⟨bm, q1, q2, q3, q4⟩ => ⟨_, q1, grow_mm q2, bm, rfl, q3, q4⟩) (fun w46a w46 v hg46 hm46 gg46 hq => ?_)
  have hGF := gt_low.plain gg46
  have hr46 := hg46.trans (hm46.grow (fun _ _ h => h))
  have hW : Grow w w46 := hW.trans hr46
  obtain ⟨bm, rfl, _, hmk⟩ := hq
  have hA := hA.grow hr46
  have hB := hB.grow hr46
  refine lx_allocr 11 hGF zvH rfl rfl ?_
  intro b11
  refine lx_storea 11 hGF rfl rfl rfl Tryd.sizeOf27 rfl rfl (by rfl) rfl ?_
  refine lx_nil ?_
  refine xs_plain (E := EE [17, 12]) ?_
  refine lx_move rfl rfl rfl ?_
  refine lx_move rfl rfl rfl ?_
  refine lx_callC rfl rfl ent27 (fun w' _ hG => hdepth_calls (((l.length + k1) : Nat) : Int) w' hG) rfl rfl ?_
  rw [Int.toNat_natCast]
  refine lx_bin (v := I ((((dep (l.length + k1)) + 1 : Nat) : Int))) rfl rfl (fun _ => rfl) (fun _ => (bin_add_i _ _ _ (by unfold inI; omega)).trans (by rfl)) rfl rfl ?_
  refine lx_bin (v := I (((2 ^ ((dep (l.length + k1)) + 1) : Nat) : Int))) rfl rfl (fun _ => rfl) (fun _ => shl1_i _ ((dep (l.length + k1)) + 1) (by omega) _) rfl rfl ?_
  refine lx_callC rfl rfl ent13 (fun w' hw' hG => hM.rootY ((2 ^ ((dep (l.length + k1)) + 1) : Nat) : Int) (pow63 (by omega)) l hl _ rfl (by omega) a cap hc (by rw [Int.toNat_natCast, Nat.pow_succ]; omega) w' hG (hr.grow (hW.trans (hp_below hw')))) rfl rfl ?_
  rw [Int.toNat_natCast, dep_pow (by omega)]
  refine lx_move rfl rfl rfl ?_
  refine lx_ext rfl rfl rfl rfl ?_
  refine lx_ext rfl rfl rfl rfl ?_
  refine lx_allocr 12 hGF zv29 rfl rfl ?_
  intro b12
  refine lx_storea 12 hGF rfl rfl rfl Tryd.sizeOf29 (by rw [List.length_map]; exact tre_len hl _) (by rw [List.length_map]; exact Z0_len) (one_u8 _) rfl ?_
  refine lx_assign rfl rfl rfl ?_
  refine lx_nil ?_
  refine xs_drawn (E := EE [17, 12]) mixed (by kernel_rfl) (by kernel_rfl) (by kernel_rfl) ?_
  refine lx_move rfl rfl rfl ?_
  refine lx_move rfl rfl rfl ?_
  refine lx_bin rfl rfl (fun _ => rfl) (fun _ => bin_add_i _ _ _ (by unfold inI; omega)) rfl rfl ?_
  refine lx_move rfl rfl rfl ?_
  refine lx_bin rfl rfl (fun _ => rfl) (fun _ => bin_add_i _ _ _ (by unfold inI; omega)) rfl rfl ?_
  refine lx_binB true rfl rfl (fun _ => rfl) (fun _ => bin_eql_i _ _ _) (by decide) rfl rfl ?_
  refine lx_move rfl rfl rfl ?_
  refine lx_loadr (cs := (tre P2 Z0 (dep (l.length + k1)) l).map U8) rfl Tryd.isAgg29 Tryd.sizeOf29 (by rw [List.length_map]; exact tre_len hl _) (fun w' h => (hA.grow (hp_below h)).range) rfl rfl ?_
  refine lx_loadr (cs := (tre P2 Z0 (dep (l.length + k1)) l).map U8) rfl Tryd.isAgg29 Tryd.sizeOf29 (by rw [List.length_map]; exact tre_len hl _) (fun w' h => (hB.grow (hp_below h)).range) rfl rfl ?_
  refine lx_binB true rfl rfl (fun w' => eqg29 _ _ _ _ _ w') (fun w' => eqv29 _ _ (tre_len hl _) (tre_len hl _) w') (decide_eq_true rfl) rfl rfl ?_
  refine lx_pick rfl rfl rfl rfl rfl ?_
  refine lx_move rfl rfl rfl ?_
  refine lx_loada 12 rfl rfl Tryd.isAgg29 Tryd.sizeOf29 (by rw [List.length_map]; exact tre_len hl _) rfl rfl ?_
  refine lx_fak 0 rfl Tryd.underlying27 rfl Tryd.sizeOf25 (by decide) rfl rfl rfl ?_
  refine lx_loadl 11 rfl rfl rfl Tryd.isAgg25 rfl rfl ?_
  refine lx_loadr (cs := (tre P2 Z0 (dep (l.length + k1)) l).map U8) rfl Tryd.isAgg29 Tryd.sizeOf29 (by rw [List.length_map]; exact tre_len hl _) (fun w' h => (hA.grow (hp_below h)).range) rfl rfl ?_
  refine lx_loada 11 rfl rfl Tryd.isAgg27 Tryd.sizeOf27 rfl rfl rfl ?_
  refine lx_move rfl rfl rfl ?_
  refine lx_callC rfl rfl ent27 (fun w' _ hG => hdepth_calls (((l.length + k1) : Nat) : Int) w' hG) rfl rfl ?_
  rw [Int.toNat_natCast]
  refine lx_callC rfl rfl ent16 (fun w' hw' hG => hzero_calls bm (((dep (l.length + k1)) : Nat) : Int) w' hG (hmk.grow (hp_below hw'))) rfl rfl ?_
  rw [Int.toNat_natCast, Nat.min_eq_left (by omega)]
  refine lx_callC rfl rfl ent28 (fun w' hw' hG => mpair_calls bm (tre P2 Z0 (dep (l.length + k1)) l) (zrT P2 Z0 (dep (l.length + k1))) (tre_len hl _) (zr_len _) w' hG (hmk.grow (hp_below hw'))) rfl rfl ?_
  refine lx_binB true rfl rfl (fun w' => eqg29 _ _ _ _ _ w') (fun w' => eqv29 _ _ (tre_len hl _) (P2_len _ _) w') (decide_eq_true (tre_half P2 Z0 (dep (l.length + k1)) l (by omega))) rfl rfl ?_
  refine lx_pick rfl rfl rfl rfl rfl ?_
  refine lx_assign rfl rfl rfl ?_
  refine lx_nil ?_
  refine x_ret ?_
  repeat (first | refine kseq_ret ?_ | refine kblk_ret ?_)
  exact kret_tmp rfl rfl (fun w' hw' => ⟨rfl, hW.trans (hp_below hw')⟩)
theorem grows_law (hM : MerkleP) (a : Option Addr) (cap : Nat) (l : List Rt) (mo lim : Int) (hl : AllR l) (hc : l.length ≤ cap) (w : World) (hw : Gt w) (hr : RtsAt w a l) : Calls Tryd.prog 7 [.slice a l.length cap, I mo, I lim].toArray w (fun e w' => e = .returned (.bool true) ∧ Grow w w') := by
  by_cases hlt : l.length ≤ 60
  · exact grows_s hM a cap l mo lim hl hc hlt w hw hr
  · exact grows_g hM a cap l mo lim hlt w hw
end Go.Proofs.YtfnnbaoilldpaaaDoor
