/-
  The program's levels, roots and noughts.
-/
import Derived.Test.YtdkkipjcmflclaaDoorUA
import Derived.Test.YtdkkipjcmflclaaDoorX3
namespace Go.Proofs.YtdkkipjcmflclaaDoor
open Go.RowKit
set_option maxRecDepth 100000
set_option maxHeartbeats 1000000
open Sh
theorem ent25 : Enters Tryd.prog 25 := fun _ _ => by kernel_rfl
/-- A level as a value. -/
abbrev LC (a : Option Addr) (len cap : Nat) (r : Rt) : List Value := .slice a len cap :: r.map U8
abbrev LV (a : Option Addr) (len cap : Nat) (r : Rt) : Value := .agg (LC a len cap r).toArray
theorem LC_len {a : Option Addr} {len cap : Nat} {r : Rt} (hr : r.length = 32) : (LC a len cap r).length = 33 := by rw [LC, List.length_cons, List.length_map, hr]
theorem LC_one (a : Option Addr) (len cap : Nat) (r : Rt) : (LC a len cap r).all (·.oneCell') = true := by
  rw [LC, List.all_cons, one_u8]; rfl
theorem zvL (w : World) : (zeroValue 79).run Tryd.prog w = .ok (LV none 0 0 Z0) w := (Tryd.zeroValue79 w).trans (by rfl)
theorem bldL1 (a : Option Addr) (len cap : Nat) (w : World) : (Instr.build 79 #[(0, .slice a len cap)]).run Tryd.prog w = .ok (LV a len cap Z0) w :=
  run_buildP (c := LC none 0 0 Z0) zvL Tryd.underlying79 (mapM_two rfl rfl Tryd.sizeOf57 Tryd.sizeOf22) [(0, .slice a len cap)] (by
    rw [fill_mid (vs := [.slice a len cap]) (off := 0) (size := 1) rfl rfl rfl (by show 1 ≤ 33; decide)]
    rfl) w
theorem bldL2 (a : Option Addr) (len cap : Nat) (r : Rt) (hr : r.length = 32) (w : World) : (Instr.build 79 #[(0, .slice a len cap), (1, .agg (r.map U8).toArray)]).run Tryd.prog w = .ok (LV a len cap r) w :=
  run_buildP (c := LC none 0 0 Z0) zvL Tryd.underlying79 (mapM_two rfl rfl Tryd.sizeOf57 Tryd.sizeOf22) [(0, .slice a len cap), (1, .agg (r.map U8).toArray)] (by
    rw [fill_mid (vs := [.slice a len cap]) (off := 0) (size := 1) rfl rfl rfl (by show 1 ≤ 33; decide), fill_mid (vs := r.map U8) (off := 1) (size := 32) rfl rfl (by rw [List.length_map, hr]) (by rw [List.length_map, hr]; show 33 ≤ 33; decide), List.length_map, hr]
    simp [Instr.fill, Z0]) w
theorem range_tail {w : World} {b : Nat} {x : Value} {cs : List Value} (h : w.rangeAt b 0 (x :: cs)) : w.rangeAt b 1 cs := fun j v hv => by
  have := h (j + 1) v (by simpa using hv)
  rw [show 0 + (j + 1) = 1 + j from by omega] at this
  exact this
theorem ofI_nat {n : Nat} (h : n ≤ 1000000) : (BitVec.ofInt 64 (n : Int)).toNat = n := by rw [BitVec.toNat_ofInt]; omega
theorem getD_len {l : List Rt} {r : Rt} (hl : AllR l) (hr : r.length = 32) (i : Nat) : (l.getD i r).length = 32 := by
  rw [List.getD_eq_getElem?_getD]
  cases h : l[i]? with
  | none => exact hr
  | some x => exact hl x (List.mem_of_getElem? h)
theorem up_all {r : Rt} {l : List Rt} (k : Nat) : AllR (UpK P2 r l k) := upL_mem P2 (Q := fun x => x.length = 32) P2_len r l k
theorem lev_all {l : List Rt} (hl : AllR l) : ∀ h, AllR (lev P2 Z0 h l)
  | 0 => hl
  | _ + 1 => up_all _
theorem at_calls (l : List Rt) (hl : AllR l) (hn : l.length ≤ 65536) (r : Rt) (hr : r.length = 32) (a : Option Addr) (cap : Nat) (x : BitVec 64) (w : World) (hw : Gt w) (ha : RtsAt w a l) : Calls Tryd.prog 42 [LV a l.length cap r, U64 x].toArray w (fun e w' => e = .returned (.agg ((l.getD x.toNat r).map U8).toArray) ∧ Grow w w') := by
  have hGF : BOk Gt (pl w) := gt_low.plain hw
  refine calls_of_X (G := Gt) Tryd.func42 rfl rfl (Hp (pl w) []) (hp_refl (pl w) trivial rides_true) (good_hp hGF) ?_
  refine xs_plain (E := EE []) ?_
  refine lx_boxr 2 hGF rfl rfl rfl ?_
  intro b2
  refine lx_allocr 4 hGF zv22 rfl rfl ?_
  intro b4
  refine lx_nil ?_
  refine x_seq ?_
  refine xs_plain (E := EE []) ?_
  refine lx_move rfl rfl rfl ?_
  refine lx_fak 0 rfl Tryd.underlying79 rfl Tryd.sizeOf57 (by decide) rfl rfl rfl ?_
  refine lx_loadl 2 rfl rfl rfl Tryd.isAgg57 rfl rfl ?_
  refine lx_len rfl (fun _ => len_slice Tryd.underlying57 _ _ _ _) rfl rfl ?_
  refine lx_conv rfl rfl (fun _ => conv_i_u64 Tryd.underlying3 Tryd.underlying25 _) rfl rfl ?_
  rcases Nat.lt_or_ge x.toNat l.length with h | h
  · skip
    obtain ⟨y, hxy⟩ : ∃ y, l[x.toNat]? = some y := ⟨_, List.getElem?_eq_getElem h⟩
    have hy : y.length = 32 := hl y (List.mem_of_getElem? hxy)
    obtain ⟨ad, rfl, hc⟩ := ha x.toNat y hxy
    have hR : l.getD x.toNat r = y := by rw [List.getD_eq_getElem?_getD, hxy]; rfl
    refine lx_binB true rfl rfl (fun _ => rfl) (fun _ => bin_lss_u64 _ _ _) (by rw [decide_eq_true_eq, BitVec.lt_def, ofI_nat (by omega)]; exact h) rfl rfl ?_
    refine lx_nil ?_
    refine x_true rfl ?_
    refine xs_plain (E := EE []) ?_
    refine lx_fak 0 rfl Tryd.underlying79 rfl Tryd.sizeOf57 (by decide) rfl rfl rfl ?_
    refine lx_loadl 2 rfl rfl rfl Tryd.isAgg57 rfl rfl ?_
    refine lx_move rfl rfl rfl ?_
    refine lx_isAWu 32 rfl rfl Tryd.underlying57 Tryd.sizeOf22 h rfl rfl ?_
    refine lx_loadA (cs := y.map U8) rfl Tryd.isAgg22 Tryd.sizeOf22 (by rw [List.length_map]; exact hy) (fun w' h j v hv => ((hp_below h).cell (block_lt_of_cell (hc j v hv))).trans (hc j v hv)) rfl rfl ?_
    refine lx_storea 4 hGF rfl rfl rfl Tryd.sizeOf22 (by rw [List.length_map]; exact hy) (by rw [List.length_map]; exact Z0_len) (one_u8 _) rfl ?_
    refine lx_nil ?_
    refine x_ret ?_
    repeat (first | refine kseq_ret ?_ | refine kblk_ret ?_)
    exact kret_own 4 rfl rfl rfl Tryd.isAgg22 Tryd.sizeOf22 (by rw [List.length_map]; exact hy) (fun w' hw' => ⟨by rw [hR], hp_below hw'⟩)
  · skip
    have hR : l.getD x.toNat r = r := getD_ge r h
    refine lx_binB false rfl rfl (fun _ => rfl) (fun _ => bin_lss_u64 _ _ _) (by rw [decide_eq_false_iff_not, BitVec.lt_def, ofI_nat (by omega)]; omega) rfl rfl ?_
    refine lx_nil ?_
    refine x_false rfl ?_
    refine x_skip ?_
    refine xs_plain (E := EE []) ?_
    refine lx_fak 1 rfl Tryd.underlying79 rfl Tryd.sizeOf22 (by decide) rfl rfl rfl ?_
    refine lx_loadr (cs := r.map U8) rfl Tryd.isAgg22 Tryd.sizeOf22 (by rw [List.length_map]; exact hr) (fun w' hw' => range_tail (hp_row (n := 2) rfl w' hw')) rfl rfl ?_
    refine lx_storea 4 hGF rfl rfl rfl Tryd.sizeOf22 (by rw [List.length_map]; exact hr) (by rw [List.length_map]; exact Z0_len) (one_u8 _) rfl ?_
    refine lx_nil ?_
    refine x_ret ?_
    repeat (first | refine kseq_ret ?_ | refine kblk_ret ?_)
    exact kret_own 4 rfl rfl rfl Tryd.isAgg22 Tryd.sizeOf22 (by rw [List.length_map]; exact hr) (fun w' hw' => ⟨by rw [hR], hp_below hw'⟩)
theorem bv_n {n : Nat} (h : n ≤ 1000000) : BitVec.ofInt 64 (n : Int) = BitVec.ofNat 64 n := by apply BitVec.eq_of_toNat_eq; rw [ofI_nat h, BitVec.toNat_ofNat]; omega
theorem nt {n : Nat} (h : n ≤ 1000000) : (BitVec.ofNat 64 n).toNat = n := by rw [BitVec.toNat_ofNat]; omega
theorem half_up {n : Nat} (h : n ≤ 1000000) : (BitVec.ofNat 64 n / 2#64 + BitVec.ofNat 64 n % 2#64).toNat = (n + 1) / 2 := by
  rw [BitVec.toNat_add, BitVec.toNat_udiv, BitVec.toNat_umod, nt h]; show (n / 2 + n % 2) % 18446744073709551616 = _; omega
theorem one_more {n : Nat} : BitVec.ofNat 64 n + 1#64 = BitVec.ofNat 64 (n + 1) := by rw [BitVec.ofNat_add]
theorem two_more {n : Nat} : BitVec.ofNat 64 n + 2#64 = BitVec.ofNat 64 (n + 2) := by rw [BitVec.ofNat_add]
/-- How far the level above has come. -/
structure UpS (r : Rt) (l : List Rt) where
  (k b cap : Nat) (c : List Value)
  hk : k ≤ ((l.length + 1) / 2)
  hc : c.length = cap * 32
  hn : k ≤ cap
  ht : c.take (32 * k) = (UpK P2 r l k).flatten.map U8
theorem up_fl {r : Rt} {l : List Rt} (k : Nat) : ((UpK P2 r l k).flatten.map U8).length = k * 32 := by rw [List.length_map, flat_len _ (up_all k), UpK_len, Nat.mul_comm]
theorem up_step {r : Rt} {l : List Rt} {k : Nat} : (UpK P2 r l (k + 1)).flatten.map U8 = (UpK P2 r l k).flatten.map U8 ++ (P2 (l.getD (2 * k) r) (l.getD (2 * k + 1) r)).map U8 := by
  rw [UpK_succ, List.flatten_append, List.map_append]; simp
theorem RW_one {s : Nat} {x : List (BitVec 8)} (hx : x.length = s) : RW s (fun _ => x) 1 = x := by
  rw [RW_succ (fun _ => x) 0 hx, show RW s (fun _ => x) 0 = [] from by simp [RW], List.nil_append]
/-- A level that was made. -/
def UpR (w w' : World) (v : Value) (l : List Rt) (r : Rt) : Prop := ∃ b c cap, v = LV (some ⟨b, 0, none⟩) l.length cap r ∧ w.heap.size ≤ b ∧ OwnB w' b c 22 ∧ c.take (32 * l.length) = l.flatten.map U8
theorem up_calls (l : List Rt) (hl : AllR l) (hn : l.length ≤ 65536) (r : Rt) (hr : r.length = 32) (a : Option Addr) (cap : Nat) (w : World) (hw : Gt w) (ha : RtsAt w a l) : Calls Tryd.prog 41 [LV a l.length cap r].toArray w (fun e w' => ∃ v, e = .returned v ∧ Grow w w' ∧ UpR w w' v (upL P2 r l) (P2 r r)) := by
  have hGF : BOk Gt (pl w) := gt_low.plain hw
  refine calls_of_X (G := Gt) Tryd.func41 rfl rfl (Hp (pl w) []) (hp_refl (pl w) trivial rides_true) (good_hp hGF) ?_
  refine xs_plain (E := EE []) ?_
  refine lx_boxr 1 hGF rfl rfl rfl ?_
  intro b1
  refine lx_allocr 2 hGF zvL rfl rfl ?_
  intro b2
  refine lx_nil ?_
  refine xs_plain (E := EE []) ?_
  refine lx_fak 0 rfl Tryd.underlying79 rfl Tryd.sizeOf57 (by decide) rfl rfl rfl ?_
  refine lx_loadl 1 rfl rfl rfl Tryd.isAgg57 rfl rfl ?_
  refine lx_len rfl (fun _ => len_slice Tryd.underlying57 _ _ _ _) rfl rfl ?_
  refine lx_conv (v := U64 (BitVec.ofNat 64 l.length)) rfl rfl (fun _ => (conv_i_u64 Tryd.underlying3 Tryd.underlying25 _).trans (by rw [bv_n (by omega)])) rfl rfl ?_
  refine lx_assign rfl rfl rfl ?_
  refine lx_nil ?_
  refine x_join (ι := Nat × Nat) (fun z => [(1, .pointer (some ⟨b1, 0, none⟩)), (2, .pointer (some ⟨b2, 0, none⟩)), (3, U64 (BitVec.ofNat 64 l.length)), (4, .pointer (some ⟨z.2, 0, none⟩))]) (fun z => [(1, b1, LC a l.length cap r, 79), (2, b2, LC none 0 0 Z0, 79), (4, z.2, LC (some ⟨z.1, 0, none⟩) 0 ((l.length + 1) / 2) (P2 r r), 79), (15, z.1, (List.replicate (32 * ((l.length + 1) / 2)) 0#8).map U8, 22)]) hGF ?_ ?_
  · skip
    refine x_tree (EE [2999995, 2999999]) mixed (by kernel_rfl) (by kernel_rfl) ?_
    refine tr_pre (m := 4) [0, 1, 2, 3, 4, 6, 7, 8, 9, 10] (by kernel_rfl) ?_
    refine lx_move rfl rfl rfl ?_
    refine lx_bin rfl rfl (fun _ => rfl) (fun _ => bin_quo_u64 _ _ _ (by decide)) rfl rfl ?_
    refine lx_move rfl rfl rfl ?_
    refine lx_bin rfl rfl (fun _ => rfl) (fun _ => bin_rem_u64 _ _ _ (by decide)) rfl rfl ?_
    refine lx_bin rfl rfl (fun _ => rfl) (fun _ => bin_add_u64 _ _ _) rfl rfl ?_
    refine lx_fak 1 rfl Tryd.underlying79 rfl Tryd.sizeOf22 (by decide) rfl rfl rfl ?_
    refine lx_loadr (cs := r.map U8) rfl Tryd.isAgg22 Tryd.sizeOf22 (by rw [List.length_map]; exact hr) (fun w' hw' => range_tail (hp_row (n := 1) rfl w' hw')) rfl rfl ?_
    refine lx_fak 1 rfl Tryd.underlying79 rfl Tryd.sizeOf22 (by decide) rfl rfl rfl ?_
    refine lx_loadr (cs := r.map U8) rfl Tryd.isAgg22 Tryd.sizeOf22 (by rw [List.length_map]; exact hr) (fun w' hw' => range_tail (hp_row (n := 1) rfl w' hw')) rfl rfl ?_
    refine lx_callC rfl rfl ent45 (fun w' _ hG => pair_pure r r hr hr w' hG) rfl rfl ?_
    rw [show SHA (r ++ r) = P2 r r from rfl]
    refine lx_nil ?_
    refine tr_any (m := 3) [5, 12] (by kernel_rfl) (by kernel_rfl) (by decide) ?_
    intro i hi
    simp only [List.mem_cons, List.not_mem_nil, or_false] at hi
    rcases hi with rfl | rfl
    · skip
      refine lx_mkslG (l := 0) (m := ((l.length + 1) / 2)) (c := (List.replicate (32 * ((l.length + 1) / 2)) 0#8).map U8) 15 hGF rfl rfl rfl (half_up (by omega)) (Nat.zero_le _) Tryd.underlying57 tiR ⟨by omega, by omega, by omega⟩ (madeR _) rfl rfl ?_
      intro b15
      refine lx_nil ?_
      refine tr_pre (m := 2) [11] (by kernel_rfl) ?_
      refine lx_build (ps := [(0, .tmp 15), (1, .tmp 20)]) (vs := [.slice (some ⟨b15, 0, none⟩) 0 ((l.length + 1) / 2), .agg ((P2 r r).map U8).toArray]) rfl (fun w => bldL2 _ _ _ _ (P2_len _ _) w) rfl rfl ?_
      refine lx_nil ?_
      refine tr_pre (m := 1) [12] (by kernel_rfl) ?_
      refine lx_allocG 4 hGF zvL rfl rfl rfl ?_
      intro b4
      refine lx_nil ?_
      refine tr_pre (m := 0) [13] (by kernel_rfl) ?_
      refine lx_storea 4 hGF rfl rfl rfl Tryd.sizeOf79 (LC_len (P2_len _ _)) (LC_len Z0_len) (LC_one _ _ _ _) rfl ?_
      refine lx_nil ?_
      refine tr_nil (by kernel_rfl) ?_
      refine kseq_n ?_
      exact ⟨rfl, (b15, b4), _, rfl, ⟨rfl, rfl, rfl, rfl, trivial⟩, ⟨rfl, rfl, rfl, rfl, trivial⟩⟩
    · skip
      refine lx_allocG 4 hGF zvL rfl rfl rfl ?_
      intro b4
      refine lx_nil ?_
      refine tr_pre (m := 2) [5] (by kernel_rfl) ?_
      refine lx_mkslG (l := 0) (m := ((l.length + 1) / 2)) (c := (List.replicate (32 * ((l.length + 1) / 2)) 0#8).map U8) 15 hGF rfl rfl rfl (half_up (by omega)) (Nat.zero_le _) Tryd.underlying57 tiR ⟨by omega, by omega, by omega⟩ (madeR _) rfl rfl ?_
      intro b15
      refine lx_nil ?_
      refine tr_pre (m := 1) [11] (by kernel_rfl) ?_
      refine lx_build (ps := [(0, .tmp 15), (1, .tmp 20)]) (vs := [.slice (some ⟨b15, 0, none⟩) 0 ((l.length + 1) / 2), .agg ((P2 r r).map U8).toArray]) rfl (fun w => bldL2 _ _ _ _ (P2_len _ _) w) rfl rfl ?_
      refine lx_nil ?_
      refine tr_pre (m := 0) [13] (by kernel_rfl) ?_
      refine lx_storea 4 hGF rfl rfl rfl Tryd.sizeOf79 (LC_len (P2_len _ _)) (LC_len Z0_len) (LC_one _ _ _ _) rfl ?_
      refine lx_nil ?_
      refine tr_nil (by kernel_rfl) ?_
      refine kseq_n ?_
      exact ⟨rfl, (b15, b4), _, rfl, ⟨rfl, rfl, rfl, rfl, trivial⟩, ⟨rfl, rfl, rfl, rfl, trivial⟩⟩
  · rintro ⟨b15, b4⟩
    dsimp only
    refine x_seq ?_
    refine xs_plain (E := EE []) ?_
    refine lx_assign rfl rfl rfl ?_
    refine lx_nil ?_
    refine x_block ?_
    refine x_for (ι := UpS r l) (fun x => [(1, .pointer (some ⟨b1, 0, none⟩)), (2, .pointer (some ⟨b2, 0, none⟩)), (3, U64 (BitVec.ofNat 64 l.length)), (4, .pointer (some ⟨b4, 0, none⟩)), (5, U64 (BitVec.ofNat 64 (2 * x.k)))]) (fun x => [(1, b1, LC a l.length cap r, 79), (2, b2, LC none 0 0 Z0, 79), (4, b4, LC (some ⟨x.b, 0, none⟩) x.k x.cap (P2 r r), 79), (15, x.b, x.c, 22)]) (fun x => ((l.length + 1) / 2) - x.k) ⟨0, b15, ((l.length + 1) / 2), (List.replicate (32 * ((l.length + 1) / 2)) 0#8).map U8, Nat.zero_le _, by rw [List.length_map, List.length_replicate, Nat.mul_comm], Nat.zero_le _, by rfl⟩ hGF ⟨rfl, rfl, rfl, rfl, rfl, trivial⟩ ⟨rfl, rfl, rfl, rfl, trivial⟩ ?_
    rintro ⟨k, bb, cp, c, hk, hc, hkc, ht⟩
    dsimp only
    refine x_seq ?_
    refine xs_plain (E := EE []) ?_
    refine lx_move rfl rfl rfl ?_
    refine lx_move rfl rfl rfl ?_
    rcases Nat.lt_or_ge (2 * k) l.length with hlt | hge
    · skip
      refine lx_binB true rfl rfl (fun _ => rfl) (fun _ => bin_lss_u64 _ _ _) (by rw [decide_eq_true_eq, BitVec.lt_def, nt (by omega), nt (by omega)]; exact hlt) rfl rfl ?_
      refine lx_nil ?_
      refine x_true rfl ?_
      refine x_skip ?_
      refine x_seq ?_
      refine x_block ?_
      refine x_drawn (E := EE [2999998]) mixed (by kernel_rfl) (by kernel_rfl) (by kernel_rfl) ?_
      refine lx_fak 0 rfl Tryd.underlying79 rfl Tryd.sizeOf57 (by decide) rfl rfl rfl ?_
      refine lx_loadl 4 rfl rfl rfl Tryd.isAgg57 rfl rfl ?_
      refine lx_loada 1 rfl rfl Tryd.isAgg79 Tryd.sizeOf79 (LC_len hr) rfl rfl ?_
      refine lx_move rfl rfl rfl ?_
      refine lx_callC rfl rfl ent42 (fun w' hw' hG => at_calls l hl hn r hr a cap _ w' hG (ha.grow (hp_below hw'))) rfl rfl ?_
      rw [nt (by omega)]
      refine lx_loada 1 rfl rfl Tryd.isAgg79 Tryd.sizeOf79 (LC_len hr) rfl rfl ?_
      refine lx_move rfl rfl rfl ?_
      refine lx_bin (v := U64 (BitVec.ofNat 64 (2 * k + 1))) rfl rfl (fun _ => rfl) (fun _ => (bin_add_u64 _ _ _).trans (by rw [one_more])) rfl rfl ?_
      refine lx_callC rfl rfl ent42 (fun w' hw' hG => at_calls l hl hn r hr a cap _ w' hG (ha.grow (hp_below hw'))) rfl rfl ?_
      rw [nt (by omega)]
      refine lx_callC rfl rfl ent45 (fun w' _ hG => pair_pure _ _ (getD_len hl hr _) (getD_len hl hr _) w' hG) rfl rfl ?_
      rw [show SHA (l.getD (2 * k) r ++ l.getD (2 * k + 1) r) = (P2 (l.getD (2 * k) r) (l.getD (2 * k + 1) r)) from rfl]
      refine lx_bslWG (uf := U8) (s := 32) 37 (fun _ => (P2 (l.getD (2 * k) r) (l.getD (2 * k + 1) r))) (List.replicate 32 0#8) hGF rfl rfl rfl (fun i hi => P2_len _ _) (by decide) (by decide) Tryd.underlying57 Tryd.sizeOf22 rfl zv22 rfl rfl ?_
      intro b37
      rw [RW_one (P2_len _ _)]
      refine lx_appendW (s := 32) (nx := k) (ny := 1) (xs := (UpK P2 r l k).flatten.map U8) (ys := (P2 (l.getD (2 * k) r) (l.getD (2 * k + 1) r)).map U8) 15 hGF rfl rfl Tryd.underlying57 Tryd.underlying57 tiR rfl (.inr ⟨bb, c, rfl, rfl, hc, hkc, up_fl k, by rw [up_fl, Nat.mul_comm]; exact ht⟩) (by rw [List.length_map, P2_len]) (fun w' h => hp_row (n := 37) rfl w' h) (one_u8 _) (by decide) (by omega) (by omega) rfl rfl (fun b9 c9 cap9 e9 l9 t9 => ?_)
      refine lx_fak 0 rfl Tryd.underlying79 rfl Tryd.sizeOf57 (by decide) rfl rfl rfl ?_
      refine lx_store 4 hGF rfl rfl rfl Tryd.sizeOf57 rfl (by simp) rfl ?_
      refine lx_nil ?_
      refine x_plain (E := EE []) ?_
      refine lx_move rfl rfl rfl ?_
      refine lx_bin (v := U64 (BitVec.ofNat 64 (2 * (k + 1)))) rfl rfl (fun _ => rfl) (fun _ => (bin_add_u64 _ _ _).trans (by rw [two_more]; rfl)) rfl rfl ?_
      refine lx_assign rfl rfl rfl ?_
      refine lx_nil ?_
      repeat (refine kblk_n ?_)
      refine kseq_n ?_
      exact ⟨rfl, ⟨k + 1, b9, cap9, c9, by omega, e9, l9, by rw [up_step, ← t9, ← up_step, up_fl, Nat.mul_comm]⟩, _, by show ((l.length + 1) / 2) - (k + 1) < ((l.length + 1) / 2) - k; omega, rfl, ⟨rfl, rfl, rfl, rfl, rfl, trivial⟩, ⟨rfl, rfl, rfl, rfl, trivial⟩⟩
    · skip
      obtain rfl : k = ((l.length + 1) / 2) := by omega
      refine lx_binB false rfl rfl (fun _ => rfl) (fun _ => bin_lss_u64 _ _ _) (by rw [decide_eq_false_iff_not, BitVec.lt_def, nt (by omega), nt (by omega)]; omega) rfl rfl ?_
      refine lx_nil ?_
      refine x_false rfl ?_
      refine x_exit ?_
      refine xs_plain (E := EE []) ?_
      refine lx_loada 4 rfl rfl Tryd.isAgg79 Tryd.sizeOf79 (LC_len (P2_len _ _)) rfl rfl ?_
      refine lx_storea 2 hGF rfl rfl rfl Tryd.sizeOf79 (LC_len (P2_len _ _)) (LC_len Z0_len) (LC_one _ _ _ _) rfl ?_
      refine lx_nil ?_
      refine x_ret ?_
      repeat (first | refine kseq_ret ?_ | refine kblk_ret ?_)
      exact kret_own 2 rfl rfl rfl Tryd.isAgg79 Tryd.sizeOf79 (LC_len (P2_len _ _)) (fun w' hw' => ⟨_, rfl, hp_below hw', bb, c, cp, by rw [upL, UpK_len], (hw'.own 15 _ _ _ rfl).2.elim id False.elim, (hw'.own 15 _ _ _ rfl).1, by rw [upL, UpK_len]; exact ht⟩)
end Go.Proofs.YtdkkipjcmflclaaDoor
