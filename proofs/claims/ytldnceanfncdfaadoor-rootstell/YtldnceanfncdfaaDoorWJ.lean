/-
  The law of roots that tell headers apart.
-/
import Derived.Test.YtldnceanfncdfaaDoorWI
namespace Go.Proofs.YtldnceanfncdfaaDoor
open Go.RowKit
set_option maxRecDepth 100000
set_option maxHeartbeats 1000000
open Sh
theorem set_mid {pre mid post : List Value} {o j : Nat} {v : Value} (ho : pre.length = o) (hj : j < mid.length) : (pre ++ (mid ++ post)).set (o + j) v = pre ++ (mid.set j v ++ post) := by
  rw [List.set_append_right _ _ (by omega), show o + j - pre.length = j from by omega, List.set_append_left _ _ hj]
theorem Hd.set_a {h : Hd} (k : h.Ok) {j : Nat} (hj : j < 32) (v : BitVec 8) : h.cs.set (2 + j) (U8 v) = (⟨h.s, h.p, h.a.set j v, h.b, h.c⟩ : Hd).cs := by
  have := set_mid (pre := [U64 h.s, U64 h.p]) (mid := h.a.map U8) (post := h.b.map U8 ++ h.c.map U8) (o := 2) (j := j) (v := U8 v) rfl (by rw [List.length_map, k.a]; exact hj)
  rw [← List.map_set] at this
  exact this
theorem Hd.set_b {h : Hd} (k : h.Ok) {j : Nat} (hj : j < 32) (v : BitVec 8) : h.cs.set (34 + j) (U8 v) = (⟨h.s, h.p, h.a, h.b.set j v, h.c⟩ : Hd).cs := by
  have := set_mid (pre := [U64 h.s, U64 h.p] ++ h.a.map U8) (mid := h.b.map U8) (post := h.c.map U8) (o := 34) (j := j) (v := U8 v) (by simp [k.a]) (by rw [List.length_map, k.b]; exact hj)
  rw [← List.map_set, List.append_assoc, List.append_assoc] at this
  exact this
theorem Hd.set_c {h : Hd} (k : h.Ok) {j : Nat} (hj : j < 32) (v : BitVec 8) : h.cs.set (66 + j) (U8 v) = (⟨h.s, h.p, h.a, h.b, h.c.set j v⟩ : Hd).cs := by
  have := set_mid (pre := [U64 h.s, U64 h.p] ++ (h.a.map U8 ++ h.b.map U8)) (mid := h.c.map U8) (post := []) (o := 66) (j := j) (v := U8 v) (by simp [k.a, k.b]) (by rw [List.length_map, k.c]; exact hj)
  rw [← List.map_set, List.append_nil, List.append_nil, List.append_assoc, List.append_assoc, List.append_assoc, List.append_assoc] at this
  exact this
theorem Hd.all {h : Hd} : ∀ j v, h.cs[j]? = some v → h.cs[0 + j]? = some v := fun j v hv => by rw [Nat.zero_add]; exact hv
theorem shlU8 (t : TypeId) (a s : BitVec 8) (w : World) : (binOp .shl t (U8 a) (U8 s)).run Tryd.prog w = .ok (U8 (a <<< s.toNat)) w := shl_u8 a .u8 s.toNat
theorem shlU64 (t : TypeId) (a : BitVec 64) (s : BitVec 8) (w : World) : (binOp .shl t (U64 a) (U8 s)).run Tryd.prog w = .ok (U64 (a <<< s.toNat)) w := shl_u64 a .u8 s.toNat
theorem eq_b4 (x y : Bool) (w : World) : (binOp .eql 4 (.bool x) (.bool y)).run Tryd.prog w = .ok (.bool (x == y)) w := by
  cases x <;> cases y <;> rfl
theorem tmod98 (a : Int) : -98 < a.tmod 98 ∧ a.tmod 98 < 98 := by
  constructor
  · have := Int.lt_tmod_of_pos a (show (0 : Int) < 98 by decide)
    omega
  · exact Int.tmod_lt_of_pos a (by decide)
theorem Hd.one (h : Hd) : h.cs.all (·.oneCell') = true := by
  simp only [Hd.cs, List.all_cons, List.all_append, one_u8, Bool.and_true]
  rfl
theorem tell_law (hR : RootsP) (h : Hd) (hh : h.Ok) (at_ : Int) (bit : BitVec 8) (w : World) (hw : Gt w) : Calls Tryd.prog 6 [.agg h.cs.toArray, I at_, U8 bit].toArray w (fun e w' => e = .returned (.bool true) ∧ Grow w w') := by
  have hGF : BOk Gt (pl w) := gt_low.plain hw
  refine calls_of_X (G := Gt) Tryd.func6 rfl rfl (Hp (pl w) []) (hp_refl (pl w) trivial rides_true) (good_hp hGF) ?_
  refine xs_plain (E := EE [9]) ?_
  refine lx_boxr 3 hGF rfl rfl rfl ?_
  intro b3
  refine lx_assign rfl rfl rfl ?_
  refine lx_nil ?_
  refine x_seq ?_
  refine xs_plain (E := EE [9]) ?_
  refine lx_callC rfl rfl ent7 (fun w1 _ hG => known20 hR w1 hG) rfl rfl ?_
  refine lx_un rfl (fun _ => un_not _) rfl rfl ?_
  refine lx_nil ?_
  refine x_false rfl ?_
  refine x_skip ?_
  refine xs_plain (E := EE [9]) ?_
  refine lx_loadr (cs := h.cs) rfl Tryd.isAgg26 Tryd.sizeOf26 (Hd.len hh) (fun w' hw' j v hv => by have := (hp_row (n := 3) rfl w' hw') _ v (Hd.all j v hv); rwa [Nat.zero_add] at this) rfl rfl ?_
  refine lx_allocr 7 hGF zvHd rfl rfl ?_
  intro b7
  refine lx_storea 7 hGF rfl rfl rfl Tryd.sizeOf26 (Hd.len hh) rfl (Hd.one _) rfl ?_
  refine lx_nil ?_
  refine xs_plain (E := EE [9]) ?_
  refine lx_move rfl rfl rfl ?_
  refine lx_bin (v := I (at_.tmod 98)) rfl rfl (fun _ => rfl) (fun _ => bin_rem_i _ _ _ (by decide)) rfl rfl ?_
  obtain ⟨z, hz⟩ : ∃ z, at_.tmod 98 = z := ⟨_, rfl⟩
  rw [hz]
  have hz2 : -98 < z ∧ z < 98 := by rw [← hz]; exact tmod98 at_
  refine lx_assign rfl rfl rfl ?_
  refine lx_nil ?_
  refine x_seq ?_
  refine xs_plain (E := EE [9]) ?_
  refine lx_move rfl rfl rfl ?_
  rcases Int.lt_or_le z 0 with hz0 | hz0
  · skip
    refine lx_binB true rfl rfl (fun _ => rfl) (fun _ => bin_lss_i _ _ _) (by rw [decide_eq_true_eq]; omega) rfl rfl ?_
    refine lx_nil ?_
    refine x_true rfl ?_
    refine x_plain (E := EE [9]) ?_
    refine lx_move rfl rfl rfl ?_
    refine lx_bin (v := I (z + 98)) rfl rfl (fun _ => rfl) (fun _ => bin_add_i _ _ _ (by unfold inI; omega)) rfl rfl ?_
    obtain ⟨k, hk⟩ : ∃ k : Nat, z + 98 = (k : Int) := ⟨(z + 98).toNat, by omega⟩
    rw [hk]
    have hk98 : k < 98 := by omega
    refine lx_assign rfl rfl rfl ?_
    refine lx_nil ?_
    refine x_seq ?_
    refine x_block ?_
    refine xs_plain (E := EE [9]) ?_
    refine lx_move rfl rfl rfl ?_
    rcases Nat.lt_or_ge k 32 with h32 | h32
    · skip
      refine lx_binB true rfl rfl (fun _ => rfl) (fun _ => bin_lss_i _ _ _) (by rw [decide_eq_true_eq]; omega) rfl rfl ?_
      refine lx_assign rfl rfl rfl ?_
      refine lx_nil ?_
      refine x_true rfl ?_
      refine x_plain (E := EE [9]) ?_
      refine lx_move rfl rfl rfl ?_
      refine lx_fak 2 rfl Tryd.underlying26 rfl Tryd.sizeOf24 (by decide) rfl rfl rfl ?_
      refine lx_ia1 k rfl rfl Tryd.underlying24 Tryd.sizeOf5 rfl (by omega) rfl rfl ?_
      obtain ⟨x8, hx8⟩ : ∃ x, h.a[k]? = some x := ⟨_, List.getElem?_eq_getElem (by rw [hh.a]; omega)⟩
      refine lx_load (v := U8 x8) rfl Tryd.isAgg5 (fun w' hw' => by have := (hp_row (n := 7) rfl w' hw') _ _ (Hd.at_a k (U8 x8) (by rw [List.getElem?_map, hx8]; rfl)); rwa [Nat.zero_add] at this) rfl rfl ?_
      refine lx_move rfl rfl rfl ?_
      refine lx_bin (v := U8 (bit % 8#8)) rfl rfl (fun _ => rfl) (fun _ => bin_rem_u8 _ _ _ (by decide)) rfl rfl ?_
      refine lx_bin (v := U8 (1#8 <<< (bit % 8#8).toNat)) rfl rfl (fun _ => rfl) (fun _ => shlU8 _ _ _ _) rfl rfl ?_
      refine lx_bin (v := U8 (x8 ^^^ 1#8 <<< (bit % 8#8).toNat)) rfl rfl (fun _ => rfl) (fun _ => bin_xor_u8 _ _ _) rfl rfl ?_
      refine lx_fak 2 rfl Tryd.underlying26 rfl Tryd.sizeOf24 (by decide) rfl rfl rfl ?_
      refine lx_ia1 k rfl rfl Tryd.underlying24 Tryd.sizeOf5 rfl (by omega) rfl rfl ?_
      refine lx_store 7 hGF rfl rfl rfl Tryd.sizeOf5 rfl (by rw [Hd.len hh]; omega) rfl ?_
      obtain ⟨y, hye, hy⟩ : ∃ y : Hd, h.cs.set (2 + k) (U8 (x8 ^^^ 1#8 <<< (bit % 8#8).toNat)) = y.cs ∧ y.Ok := ⟨⟨h.s, h.p, h.a.set k (x8 ^^^ 1#8 <<< (bit % 8#8).toNat), h.b, h.c⟩, Hd.set_a hh (by omega) _, ⟨by rw [List.length_set]; exact hh.a, hh.b, hh.c⟩⟩
      rw [hye]
      refine lx_nil ?_
      refine xs_plain (E := EE [9]) ?_
      refine lx_callE rfl rfl ent9 rfl rfl (fun w1 hC => (hnew_calls w1 (hGF.g _ _ _ hC)).mono fun e1 w2 h => ?_)
      obtain ⟨bm, rfl, hg, hbm, hob⟩ := h
      refine ⟨_, _, rfl, good_hp hGF, hC.news rides_true hg [(77, bm, MK.map U32, 83)] (rowN hbm hob) inj_one, ?_⟩
      clear hC hg hbm hob
      refine lx_allocr 9 hGF zvH rfl rfl ?_
      intro b9
      refine lx_storea 9 hGF rfl rfl rfl Tryd.sizeOf47 rfl rfl (by rfl) rfl ?_
      refine lx_nil ?_
      refine xs_drawn (E := EE [9]) mixed (by kernel_rfl) (by kernel_rfl) (by kernel_rfl) ?_
      refine lx_loadr (cs := h.cs) rfl Tryd.isAgg26 Tryd.sizeOf26 (Hd.len hh) (fun w' hw' j v hv => by have := (hp_row (n := 3) rfl w' hw') _ v (Hd.all j v hv); rwa [Nat.zero_add] at this) rfl rfl ?_
      refine lx_callC rfl rfl ent10 (fun w' hw' hG => hR.hd h hh w' hG) rfl rfl ?_
      refine lx_loadr (cs := y.cs) rfl Tryd.isAgg26 Tryd.sizeOf26 (Hd.len hy) (fun w' hw' j v hv => by have := (hp_row (n := 7) rfl w' hw') _ v (Hd.all j v hv); rwa [Nat.zero_add] at this) rfl rfl ?_
      refine lx_callC rfl rfl ent10 (fun w' hw' hG => hR.hd y hy w' hG) rfl rfl ?_
      refine lx_bin (v := .bool (decide (h.rt = y.rt))) rfl rfl (fun w' => eqg24 _ _ _ _ _ w') (fun w' => eqv24 _ _ (Hd.rt_len hh) (Hd.rt_len hy) w') rfl rfl ?_
      refine lx_loada 9 rfl rfl Tryd.isAgg47 Tryd.sizeOf47 rfl rfl rfl ?_
      refine lx_loadr (cs := h.cs) rfl Tryd.isAgg26 Tryd.sizeOf26 (Hd.len hh) (fun w' hw' j v hv => by have := (hp_row (n := 3) rfl w' hw') _ v (Hd.all j v hv); rwa [Nat.zero_add] at this) rfl rfl ?_
      refine lx_callC rfl rfl ent11 (fun w' hw' hG => hhd_calls bm h hh w' hG (hw'.own 77 _ _ _ rfl).1) rfl rfl ?_
      refine lx_loada 9 rfl rfl Tryd.isAgg47 Tryd.sizeOf47 rfl rfl rfl ?_
      refine lx_loadr (cs := y.cs) rfl Tryd.isAgg26 Tryd.sizeOf26 (Hd.len hy) (fun w' hw' j v hv => by have := (hp_row (n := 7) rfl w' hw') _ v (Hd.all j v hv); rwa [Nat.zero_add] at this) rfl rfl ?_
      refine lx_callC rfl rfl ent11 (fun w' hw' hG => hhd_calls bm y hy w' hG (hw'.own 77 _ _ _ rfl).1) rfl rfl ?_
      refine lx_bin (v := .bool (decide (h.rt = y.rt))) rfl rfl (fun w' => eqg24 _ _ _ _ _ w') (fun w' => eqv24 _ _ (Hd.rt_len hh) (Hd.rt_len hy) w') rfl rfl ?_
      refine lx_binB true rfl rfl (fun _ => rfl) (fun w' => eq_b4 _ _ w') (by simp) rfl rfl ?_
      refine lx_assign rfl rfl rfl ?_
      refine lx_nil ?_
      refine x_ret ?_
      repeat (first | refine kseq_ret ?_ | refine kblk_ret ?_)
      exact kret_tmp rfl rfl (fun w' hw' => ⟨rfl, hp_below hw'⟩)
    · skip
      refine lx_binB false rfl rfl (fun _ => rfl) (fun _ => bin_lss_i _ _ _) (by rw [decide_eq_false_iff_not]; omega) rfl rfl ?_
      refine lx_assign rfl rfl rfl ?_
      refine lx_nil ?_
      refine x_false rfl ?_
      refine xs_plain (E := EE [9]) ?_
      refine lx_move rfl rfl rfl ?_
      rcases Nat.lt_or_ge k 64 with h64 | h64
      · skip
        refine lx_binB true rfl rfl (fun _ => rfl) (fun _ => bin_lss_i _ _ _) (by rw [decide_eq_true_eq]; omega) rfl rfl ?_
        refine lx_assign rfl rfl rfl ?_
        refine lx_nil ?_
        refine x_true rfl ?_
        refine x_plain (E := EE [9]) ?_
        refine lx_move rfl rfl rfl ?_
        refine lx_bin (v := I (((k - 32 : Nat) : Int))) rfl rfl (fun _ => rfl) (fun _ => (bin_sub_i _ _ _ (by unfold inI; omega)).trans (by congr 2; omega)) rfl rfl ?_
        refine lx_fak 34 rfl Tryd.underlying26 rfl Tryd.sizeOf24 (by decide) rfl rfl rfl ?_
        refine lx_ia1 (k - 32) rfl rfl Tryd.underlying24 Tryd.sizeOf5 rfl (by omega) rfl rfl ?_
        obtain ⟨x8, hx8⟩ : ∃ x, h.b[(k - 32)]? = some x := ⟨_, List.getElem?_eq_getElem (by rw [hh.b]; omega)⟩
        refine lx_load (v := U8 x8) rfl Tryd.isAgg5 (fun w' hw' => by have := (hp_row (n := 7) rfl w' hw') _ _ (Hd.at_b hh (k - 32) (U8 x8) (by rw [List.getElem?_map, hx8]; rfl)); rwa [Nat.zero_add] at this) rfl rfl ?_
        refine lx_move rfl rfl rfl ?_
        refine lx_bin (v := U8 (bit % 8#8)) rfl rfl (fun _ => rfl) (fun _ => bin_rem_u8 _ _ _ (by decide)) rfl rfl ?_
        refine lx_bin (v := U8 (1#8 <<< (bit % 8#8).toNat)) rfl rfl (fun _ => rfl) (fun _ => shlU8 _ _ _ _) rfl rfl ?_
        refine lx_bin (v := U8 (x8 ^^^ 1#8 <<< (bit % 8#8).toNat)) rfl rfl (fun _ => rfl) (fun _ => bin_xor_u8 _ _ _) rfl rfl ?_
        refine lx_fak 34 rfl Tryd.underlying26 rfl Tryd.sizeOf24 (by decide) rfl rfl rfl ?_
        refine lx_ia1 (k - 32) rfl rfl Tryd.underlying24 Tryd.sizeOf5 rfl (by omega) rfl rfl ?_
        refine lx_store 7 hGF rfl rfl rfl Tryd.sizeOf5 rfl (by rw [Hd.len hh]; omega) rfl ?_
        obtain ⟨y, hye, hy⟩ : ∃ y : Hd, h.cs.set (34 + (k - 32)) (U8 (x8 ^^^ 1#8 <<< (bit % 8#8).toNat)) = y.cs ∧ y.Ok := ⟨⟨h.s, h.p, h.a, h.b.set (k - 32) (x8 ^^^ 1#8 <<< (bit % 8#8).toNat), h.c⟩, Hd.set_b hh (by omega) _, ⟨hh.a, by rw [List.length_set]; exact hh.b, hh.c⟩⟩
        rw [hye]
        refine lx_nil ?_
        refine xs_plain (E := EE [9]) ?_
        refine lx_callE rfl rfl ent9 rfl rfl (fun w1 hC => (hnew_calls w1 (hGF.g _ _ _ hC)).mono fun e1 w2 h => ?_)
        obtain ⟨bm, rfl, hg, hbm, hob⟩ := h
        refine ⟨_, _, rfl, good_hp hGF, hC.news rides_true hg [(77, bm, MK.map U32, 83)] (rowN hbm hob) inj_one, ?_⟩
        clear hC hg hbm hob
        refine lx_allocr 9 hGF zvH rfl rfl ?_
        intro b9
        refine lx_storea 9 hGF rfl rfl rfl Tryd.sizeOf47 rfl rfl (by rfl) rfl ?_
        refine lx_nil ?_
        refine xs_drawn (E := EE [9]) mixed (by kernel_rfl) (by kernel_rfl) (by kernel_rfl) ?_
        refine lx_loadr (cs := h.cs) rfl Tryd.isAgg26 Tryd.sizeOf26 (Hd.len hh) (fun w' hw' j v hv => by have := (hp_row (n := 3) rfl w' hw') _ v (Hd.all j v hv); rwa [Nat.zero_add] at this) rfl rfl ?_
        refine lx_callC rfl rfl ent10 (fun w' hw' hG => hR.hd h hh w' hG) rfl rfl ?_
        refine lx_loadr (cs := y.cs) rfl Tryd.isAgg26 Tryd.sizeOf26 (Hd.len hy) (fun w' hw' j v hv => by have := (hp_row (n := 7) rfl w' hw') _ v (Hd.all j v hv); rwa [Nat.zero_add] at this) rfl rfl ?_
        refine lx_callC rfl rfl ent10 (fun w' hw' hG => hR.hd y hy w' hG) rfl rfl ?_
        refine lx_bin (v := .bool (decide (h.rt = y.rt))) rfl rfl (fun w' => eqg24 _ _ _ _ _ w') (fun w' => eqv24 _ _ (Hd.rt_len hh) (Hd.rt_len hy) w') rfl rfl ?_
        refine lx_loada 9 rfl rfl Tryd.isAgg47 Tryd.sizeOf47 rfl rfl rfl ?_
        refine lx_loadr (cs := h.cs) rfl Tryd.isAgg26 Tryd.sizeOf26 (Hd.len hh) (fun w' hw' j v hv => by have := (hp_row (n := 3) rfl w' hw') _ v (Hd.all j v hv); rwa [Nat.zero_add] at this) rfl rfl ?_
        refine lx_callC rfl rfl ent11 (fun w' hw' hG => hhd_calls bm h hh w' hG (hw'.own 77 _ _ _ rfl).1) rfl rfl ?_
        refine lx_loada 9 rfl rfl Tryd.isAgg47 Tryd.sizeOf47 rfl rfl rfl ?_
        refine lx_loadr (cs := y.cs) rfl Tryd.isAgg26 Tryd.sizeOf26 (Hd.len hy) (fun w' hw' j v hv => by have := (hp_row (n := 7) rfl w' hw') _ v (Hd.all j v hv); rwa [Nat.zero_add] at this) rfl rfl ?_
        refine lx_callC rfl rfl ent11 (fun w' hw' hG => hhd_calls bm y hy w' hG (hw'.own 77 _ _ _ rfl).1) rfl rfl ?_
        refine lx_bin (v := .bool (decide (h.rt = y.rt))) rfl rfl (fun w' => eqg24 _ _ _ _ _ w') (fun w' => eqv24 _ _ (Hd.rt_len hh) (Hd.rt_len hy) w') rfl rfl ?_
        refine lx_binB true rfl rfl (fun _ => rfl) (fun w' => eq_b4 _ _ w') (by simp) rfl rfl ?_
        refine lx_assign rfl rfl rfl ?_
        refine lx_nil ?_
        refine x_ret ?_
        repeat (first | refine kseq_ret ?_ | refine kblk_ret ?_)
        exact kret_tmp rfl rfl (fun w' hw' => ⟨rfl, hp_below hw'⟩)
      · skip
        refine lx_binB false rfl rfl (fun _ => rfl) (fun _ => bin_lss_i _ _ _) (by rw [decide_eq_false_iff_not]; omega) rfl rfl ?_
        refine lx_assign rfl rfl rfl ?_
        refine lx_nil ?_
        refine x_false rfl ?_
        refine xs_plain (E := EE [9]) ?_
        refine lx_move rfl rfl rfl ?_
        rcases Nat.lt_or_ge k 96 with h96 | h96
        · skip
          refine lx_binB true rfl rfl (fun _ => rfl) (fun _ => bin_lss_i _ _ _) (by rw [decide_eq_true_eq]; omega) rfl rfl ?_
          refine lx_assign rfl rfl rfl ?_
          refine lx_nil ?_
          refine x_true rfl ?_
          refine x_plain (E := EE [9]) ?_
          refine lx_move rfl rfl rfl ?_
          refine lx_bin (v := I (((k - 64 : Nat) : Int))) rfl rfl (fun _ => rfl) (fun _ => (bin_sub_i _ _ _ (by unfold inI; omega)).trans (by congr 2; omega)) rfl rfl ?_
          refine lx_fak 66 rfl Tryd.underlying26 rfl Tryd.sizeOf24 (by decide) rfl rfl rfl ?_
          refine lx_ia1 (k - 64) rfl rfl Tryd.underlying24 Tryd.sizeOf5 rfl (by omega) rfl rfl ?_
          obtain ⟨x8, hx8⟩ : ∃ x, h.c[(k - 64)]? = some x := ⟨_, List.getElem?_eq_getElem (by rw [hh.c]; omega)⟩
          refine lx_load (v := U8 x8) rfl Tryd.isAgg5 (fun w' hw' => by have := (hp_row (n := 7) rfl w' hw') _ _ (Hd.at_c hh (k - 64) (U8 x8) (by rw [List.getElem?_map, hx8]; rfl)); rwa [Nat.zero_add] at this) rfl rfl ?_
          refine lx_move rfl rfl rfl ?_
          refine lx_bin (v := U8 (bit % 8#8)) rfl rfl (fun _ => rfl) (fun _ => bin_rem_u8 _ _ _ (by decide)) rfl rfl ?_
          refine lx_bin (v := U8 (1#8 <<< (bit % 8#8).toNat)) rfl rfl (fun _ => rfl) (fun _ => shlU8 _ _ _ _) rfl rfl ?_
          refine lx_bin (v := U8 (x8 ^^^ 1#8 <<< (bit % 8#8).toNat)) rfl rfl (fun _ => rfl) (fun _ => bin_xor_u8 _ _ _) rfl rfl ?_
          refine lx_fak 66 rfl Tryd.underlying26 rfl Tryd.sizeOf24 (by decide) rfl rfl rfl ?_
          refine lx_ia1 (k - 64) rfl rfl Tryd.underlying24 Tryd.sizeOf5 rfl (by omega) rfl rfl ?_
          refine lx_store 7 hGF rfl rfl rfl Tryd.sizeOf5 rfl (by rw [Hd.len hh]; omega) rfl ?_
          obtain ⟨y, hye, hy⟩ : ∃ y : Hd, h.cs.set (66 + (k - 64)) (U8 (x8 ^^^ 1#8 <<< (bit % 8#8).toNat)) = y.cs ∧ y.Ok := ⟨⟨h.s, h.p, h.a, h.b, h.c.set (k - 64) (x8 ^^^ 1#8 <<< (bit % 8#8).toNat)⟩, Hd.set_c hh (by omega) _, ⟨hh.a, hh.b, by rw [List.length_set]; exact hh.c⟩⟩
          rw [hye]
          refine lx_nil ?_
          refine xs_plain (E := EE [9]) ?_
          refine lx_callE rfl rfl ent9 rfl rfl (fun w1 hC => (hnew_calls w1 (hGF.g _ _ _ hC)).mono fun e1 w2 h => ?_)
          obtain ⟨bm, rfl, hg, hbm, hob⟩ := h
          refine ⟨_, _, rfl, good_hp hGF, hC.news rides_true hg [(77, bm, MK.map U32, 83)] (rowN hbm hob) inj_one, ?_⟩
          clear hC hg hbm hob
          refine lx_allocr 9 hGF zvH rfl rfl ?_
          intro b9
          refine lx_storea 9 hGF rfl rfl rfl Tryd.sizeOf47 rfl rfl (by rfl) rfl ?_
          refine lx_nil ?_
          refine xs_drawn (E := EE [9]) mixed (by kernel_rfl) (by kernel_rfl) (by kernel_rfl) ?_
          refine lx_loadr (cs := h.cs) rfl Tryd.isAgg26 Tryd.sizeOf26 (Hd.len hh) (fun w' hw' j v hv => by have := (hp_row (n := 3) rfl w' hw') _ v (Hd.all j v hv); rwa [Nat.zero_add] at this) rfl rfl ?_
          refine lx_callC rfl rfl ent10 (fun w' hw' hG => hR.hd h hh w' hG) rfl rfl ?_
          refine lx_loadr (cs := y.cs) rfl Tryd.isAgg26 Tryd.sizeOf26 (Hd.len hy) (fun w' hw' j v hv => by have := (hp_row (n := 7) rfl w' hw') _ v (Hd.all j v hv); rwa [Nat.zero_add] at this) rfl rfl ?_
          refine lx_callC rfl rfl ent10 (fun w' hw' hG => hR.hd y hy w' hG) rfl rfl ?_
          refine lx_bin (v := .bool (decide (h.rt = y.rt))) rfl rfl (fun w' => eqg24 _ _ _ _ _ w') (fun w' => eqv24 _ _ (Hd.rt_len hh) (Hd.rt_len hy) w') rfl rfl ?_
          refine lx_loada 9 rfl rfl Tryd.isAgg47 Tryd.sizeOf47 rfl rfl rfl ?_
          refine lx_loadr (cs := h.cs) rfl Tryd.isAgg26 Tryd.sizeOf26 (Hd.len hh) (fun w' hw' j v hv => by have := (hp_row (n := 3) rfl w' hw') _ v (Hd.all j v hv); rwa [Nat.zero_add] at this) rfl rfl ?_
          refine lx_callC rfl rfl ent11 (fun w' hw' hG => hhd_calls bm h hh w' hG (hw'.own 77 _ _ _ rfl).1) rfl rfl ?_
          refine lx_loada 9 rfl rfl Tryd.isAgg47 Tryd.sizeOf47 rfl rfl rfl ?_
          refine lx_loadr (cs := y.cs) rfl Tryd.isAgg26 Tryd.sizeOf26 (Hd.len hy) (fun w' hw' j v hv => by have := (hp_row (n := 7) rfl w' hw') _ v (Hd.all j v hv); rwa [Nat.zero_add] at this) rfl rfl ?_
          refine lx_callC rfl rfl ent11 (fun w' hw' hG => hhd_calls bm y hy w' hG (hw'.own 77 _ _ _ rfl).1) rfl rfl ?_
          refine lx_bin (v := .bool (decide (h.rt = y.rt))) rfl rfl (fun w' => eqg24 _ _ _ _ _ w') (fun w' => eqv24 _ _ (Hd.rt_len hh) (Hd.rt_len hy) w') rfl rfl ?_
          refine lx_binB true rfl rfl (fun _ => rfl) (fun w' => eq_b4 _ _ w') (by simp) rfl rfl ?_
          refine lx_assign rfl rfl rfl ?_
          refine lx_nil ?_
          refine x_ret ?_
          repeat (first | refine kseq_ret ?_ | refine kblk_ret ?_)
          exact kret_tmp rfl rfl (fun w' hw' => ⟨rfl, hp_below hw'⟩)
        · skip
          refine lx_binB false rfl rfl (fun _ => rfl) (fun _ => bin_lss_i _ _ _) (by rw [decide_eq_false_iff_not]; omega) rfl rfl ?_
          refine lx_assign rfl rfl rfl ?_
          refine lx_nil ?_
          refine x_false rfl ?_
          refine xs_plain (E := EE [9]) ?_
          refine lx_move rfl rfl rfl ?_
          rcases Nat.lt_or_ge k 97 with h97 | h97
          · skip
            refine lx_binB true rfl rfl (fun _ => rfl) (fun _ => bin_eql_i _ _ _) (by rw [beq_iff_eq]; omega) rfl rfl ?_
            refine lx_assign rfl rfl rfl ?_
            refine lx_nil ?_
            refine x_true rfl ?_
            refine x_plain (E := EE [9]) ?_
            refine lx_fak 0 rfl Tryd.underlying26 rfl Tryd.sizeOf22 (by decide) rfl rfl rfl ?_
            refine lx_load (v := U64 h.s) rfl Tryd.isAgg22 (fun w' hw' => (hp_row (n := 7) rfl w' hw') 0 _ rfl) rfl rfl ?_
            refine lx_move rfl rfl rfl ?_
            refine lx_bin (v := U8 (bit % 64#8)) rfl rfl (fun _ => rfl) (fun _ => bin_rem_u8 _ _ _ (by decide)) rfl rfl ?_
            refine lx_bin (v := U64 (1#64 <<< (bit % 64#8).toNat)) rfl rfl (fun _ => rfl) (fun _ => shlU64 _ _ _ _) rfl rfl ?_
            refine lx_bin (v := U64 (h.s ^^^ 1#64 <<< (bit % 64#8).toNat)) rfl rfl (fun _ => rfl) (fun _ => bin_xor_u64 _ _ _) rfl rfl ?_
            refine lx_fak 0 rfl Tryd.underlying26 rfl Tryd.sizeOf22 (by decide) rfl rfl rfl ?_
            refine lx_store 7 hGF rfl rfl rfl Tryd.sizeOf22 rfl (by rw [Hd.len hh]; decide) rfl ?_
            obtain ⟨y, hye, hy⟩ : ∃ y : Hd, h.cs.set 0 (U64 (h.s ^^^ 1#64 <<< (bit % 64#8).toNat)) = y.cs ∧ y.Ok := ⟨⟨(h.s ^^^ 1#64 <<< (bit % 64#8).toNat), h.p, h.a, h.b, h.c⟩, rfl, ⟨hh.a, hh.b, hh.c⟩⟩
            rw [hye]
            refine lx_nil ?_
            refine xs_plain (E := EE [9]) ?_
            refine lx_callE rfl rfl ent9 rfl rfl (fun w1 hC => (hnew_calls w1 (hGF.g _ _ _ hC)).mono fun e1 w2 h => ?_)
            obtain ⟨bm, rfl, hg, hbm, hob⟩ := h
            refine ⟨_, _, rfl, good_hp hGF, hC.news rides_true hg [(77, bm, MK.map U32, 83)] (rowN hbm hob) inj_one, ?_⟩
            clear hC hg hbm hob
            refine lx_allocr 9 hGF zvH rfl rfl ?_
            intro b9
            refine lx_storea 9 hGF rfl rfl rfl Tryd.sizeOf47 rfl rfl (by rfl) rfl ?_
            refine lx_nil ?_
            refine xs_drawn (E := EE [9]) mixed (by kernel_rfl) (by kernel_rfl) (by kernel_rfl) ?_
            refine lx_loadr (cs := h.cs) rfl Tryd.isAgg26 Tryd.sizeOf26 (Hd.len hh) (fun w' hw' j v hv => by have := (hp_row (n := 3) rfl w' hw') _ v (Hd.all j v hv); rwa [Nat.zero_add] at this) rfl rfl ?_
            refine lx_callC rfl rfl ent10 (fun w' hw' hG => hR.hd h hh w' hG) rfl rfl ?_
            refine lx_loadr (cs := y.cs) rfl Tryd.isAgg26 Tryd.sizeOf26 (Hd.len hy) (fun w' hw' j v hv => by have := (hp_row (n := 7) rfl w' hw') _ v (Hd.all j v hv); rwa [Nat.zero_add] at this) rfl rfl ?_
            refine lx_callC rfl rfl ent10 (fun w' hw' hG => hR.hd y hy w' hG) rfl rfl ?_
            refine lx_bin (v := .bool (decide (h.rt = y.rt))) rfl rfl (fun w' => eqg24 _ _ _ _ _ w') (fun w' => eqv24 _ _ (Hd.rt_len hh) (Hd.rt_len hy) w') rfl rfl ?_
            refine lx_loada 9 rfl rfl Tryd.isAgg47 Tryd.sizeOf47 rfl rfl rfl ?_
            refine lx_loadr (cs := h.cs) rfl Tryd.isAgg26 Tryd.sizeOf26 (Hd.len hh) (fun w' hw' j v hv => by have := (hp_row (n := 3) rfl w' hw') _ v (Hd.all j v hv); rwa [Nat.zero_add] at this) rfl rfl ?_
            refine lx_callC rfl rfl ent11 (fun w' hw' hG => hhd_calls bm h hh w' hG (hw'.own 77 _ _ _ rfl).1) rfl rfl ?_
            refine lx_loada 9 rfl rfl Tryd.isAgg47 Tryd.sizeOf47 rfl rfl rfl ?_
            refine lx_loadr (cs := y.cs) rfl Tryd.isAgg26 Tryd.sizeOf26 (Hd.len hy) (fun w' hw' j v hv => by have := (hp_row (n := 7) rfl w' hw') _ v (Hd.all j v hv); rwa [Nat.zero_add] at this) rfl rfl ?_
            refine lx_callC rfl rfl ent11 (fun w' hw' hG => hhd_calls bm y hy w' hG (hw'.own 77 _ _ _ rfl).1) rfl rfl ?_
            refine lx_bin (v := .bool (decide (h.rt = y.rt))) rfl rfl (fun w' => eqg24 _ _ _ _ _ w') (fun w' => eqv24 _ _ (Hd.rt_len hh) (Hd.rt_len hy) w') rfl rfl ?_
            refine lx_binB true rfl rfl (fun _ => rfl) (fun w' => eq_b4 _ _ w') (by simp) rfl rfl ?_
            refine lx_assign rfl rfl rfl ?_
            refine lx_nil ?_
            refine x_ret ?_
            repeat (first | refine kseq_ret ?_ | refine kblk_ret ?_)
            exact kret_tmp rfl rfl (fun w' hw' => ⟨rfl, hp_below hw'⟩)
          · skip
            refine lx_binB false rfl rfl (fun _ => rfl) (fun _ => bin_eql_i _ _ _) (by rw [beq_eq_false_iff_ne]; omega) rfl rfl ?_
            refine lx_assign rfl rfl rfl ?_
            refine lx_nil ?_
            refine x_false rfl ?_
            refine x_plain (E := EE [9]) ?_
            refine lx_fak 1 rfl Tryd.underlying26 rfl Tryd.sizeOf22 (by decide) rfl rfl rfl ?_
            refine lx_load (v := U64 h.p) rfl Tryd.isAgg22 (fun w' hw' => (hp_row (n := 7) rfl w' hw') 1 _ rfl) rfl rfl ?_
            refine lx_move rfl rfl rfl ?_
            refine lx_bin (v := U8 (bit % 64#8)) rfl rfl (fun _ => rfl) (fun _ => bin_rem_u8 _ _ _ (by decide)) rfl rfl ?_
            refine lx_bin (v := U64 (1#64 <<< (bit % 64#8).toNat)) rfl rfl (fun _ => rfl) (fun _ => shlU64 _ _ _ _) rfl rfl ?_
            refine lx_bin (v := U64 (h.p ^^^ 1#64 <<< (bit % 64#8).toNat)) rfl rfl (fun _ => rfl) (fun _ => bin_xor_u64 _ _ _) rfl rfl ?_
            refine lx_fak 1 rfl Tryd.underlying26 rfl Tryd.sizeOf22 (by decide) rfl rfl rfl ?_
            refine lx_store 7 hGF rfl rfl rfl Tryd.sizeOf22 rfl (by rw [Hd.len hh]; decide) rfl ?_
            obtain ⟨y, hye, hy⟩ : ∃ y : Hd, h.cs.set 1 (U64 (h.p ^^^ 1#64 <<< (bit % 64#8).toNat)) = y.cs ∧ y.Ok := ⟨⟨h.s, (h.p ^^^ 1#64 <<< (bit % 64#8).toNat), h.a, h.b, h.c⟩, rfl, ⟨hh.a, hh.b, hh.c⟩⟩
            rw [hye]
            refine lx_nil ?_
            refine xs_plain (E := EE [9]) ?_
            refine lx_callE rfl rfl ent9 rfl rfl (fun w1 hC => (hnew_calls w1 (hGF.g _ _ _ hC)).mono fun e1 w2 h => ?_)
            obtain ⟨bm, rfl, hg, hbm, hob⟩ := h
            refine ⟨_, _, rfl, good_hp hGF, hC.news rides_true hg [(77, bm, MK.map U32, 83)] (rowN hbm hob) inj_one, ?_⟩
            clear hC hg hbm hob
            refine lx_allocr 9 hGF zvH rfl rfl ?_
            intro b9
            refine lx_storea 9 hGF rfl rfl rfl Tryd.sizeOf47 rfl rfl (by rfl) rfl ?_
            refine lx_nil ?_
            refine xs_drawn (E := EE [9]) mixed (by kernel_rfl) (by kernel_rfl) (by kernel_rfl) ?_
            refine lx_loadr (cs := h.cs) rfl Tryd.isAgg26 Tryd.sizeOf26 (Hd.len hh) (fun w' hw' j v hv => by have := (hp_row (n := 3) rfl w' hw') _ v (Hd.all j v hv); rwa [Nat.zero_add] at this) rfl rfl ?_
            refine lx_callC rfl rfl ent10 (fun w' hw' hG => hR.hd h hh w' hG) rfl rfl ?_
            refine lx_loadr (cs := y.cs) rfl Tryd.isAgg26 Tryd.sizeOf26 (Hd.len hy) (fun w' hw' j v hv => by have := (hp_row (n := 7) rfl w' hw') _ v (Hd.all j v hv); rwa [Nat.zero_add] at this) rfl rfl ?_
            refine lx_callC rfl rfl ent10 (fun w' hw' hG => hR.hd y hy w' hG) rfl rfl ?_
            refine lx_bin (v := .bool (decide (h.rt = y.rt))) rfl rfl (fun w' => eqg24 _ _ _ _ _ w') (fun w' => eqv24 _ _ (Hd.rt_len hh) (Hd.rt_len hy) w') rfl rfl ?_
            refine lx_loada 9 rfl rfl Tryd.isAgg47 Tryd.sizeOf47 rfl rfl rfl ?_
            refine lx_loadr (cs := h.cs) rfl Tryd.isAgg26 Tryd.sizeOf26 (Hd.len hh) (fun w' hw' j v hv => by have := (hp_row (n := 3) rfl w' hw') _ v (Hd.all j v hv); rwa [Nat.zero_add] at this) rfl rfl ?_
            refine lx_callC rfl rfl ent11 (fun w' hw' hG => hhd_calls bm h hh w' hG (hw'.own 77 _ _ _ rfl).1) rfl rfl ?_
            refine lx_loada 9 rfl rfl Tryd.isAgg47 Tryd.sizeOf47 rfl rfl rfl ?_
            refine lx_loadr (cs := y.cs) rfl Tryd.isAgg26 Tryd.sizeOf26 (Hd.len hy) (fun w' hw' j v hv => by have := (hp_row (n := 7) rfl w' hw') _ v (Hd.all j v hv); rwa [Nat.zero_add] at this) rfl rfl ?_
            refine lx_callC rfl rfl ent11 (fun w' hw' hG => hhd_calls bm y hy w' hG (hw'.own 77 _ _ _ rfl).1) rfl rfl ?_
            refine lx_bin (v := .bool (decide (h.rt = y.rt))) rfl rfl (fun w' => eqg24 _ _ _ _ _ w') (fun w' => eqv24 _ _ (Hd.rt_len hh) (Hd.rt_len hy) w') rfl rfl ?_
            refine lx_binB true rfl rfl (fun _ => rfl) (fun w' => eq_b4 _ _ w') (by simp) rfl rfl ?_
            refine lx_assign rfl rfl rfl ?_
            refine lx_nil ?_
            refine x_ret ?_
            repeat (first | refine kseq_ret ?_ | refine kblk_ret ?_)
            exact kret_tmp rfl rfl (fun w' hw' => ⟨rfl, hp_below hw'⟩)
  · skip
    obtain ⟨k, hk⟩ : ∃ k : Nat, z = (k : Int) := ⟨z.toNat, by omega⟩
    have hk98 : k < 98 := by omega
    subst hk
    refine lx_binB false rfl rfl (fun _ => rfl) (fun _ => bin_lss_i _ _ _) (by rw [decide_eq_false_iff_not]; omega) rfl rfl ?_
    refine lx_nil ?_
    refine x_false rfl ?_
    refine x_skip ?_
    refine x_seq ?_
    refine x_block ?_
    refine xs_plain (E := EE [9]) ?_
    refine lx_move rfl rfl rfl ?_
    rcases Nat.lt_or_ge k 32 with h32 | h32
    · skip
      refine lx_binB true rfl rfl (fun _ => rfl) (fun _ => bin_lss_i _ _ _) (by rw [decide_eq_true_eq]; omega) rfl rfl ?_
      refine lx_assign rfl rfl rfl ?_
      refine lx_nil ?_
      refine x_true rfl ?_
      refine x_plain (E := EE [9]) ?_
      refine lx_move rfl rfl rfl ?_
      refine lx_fak 2 rfl Tryd.underlying26 rfl Tryd.sizeOf24 (by decide) rfl rfl rfl ?_
      refine lx_ia1 k rfl rfl Tryd.underlying24 Tryd.sizeOf5 rfl (by omega) rfl rfl ?_
      obtain ⟨x8, hx8⟩ : ∃ x, h.a[k]? = some x := ⟨_, List.getElem?_eq_getElem (by rw [hh.a]; omega)⟩
      refine lx_load (v := U8 x8) rfl Tryd.isAgg5 (fun w' hw' => by have := (hp_row (n := 7) rfl w' hw') _ _ (Hd.at_a k (U8 x8) (by rw [List.getElem?_map, hx8]; rfl)); rwa [Nat.zero_add] at this) rfl rfl ?_
      refine lx_move rfl rfl rfl ?_
      refine lx_bin (v := U8 (bit % 8#8)) rfl rfl (fun _ => rfl) (fun _ => bin_rem_u8 _ _ _ (by decide)) rfl rfl ?_
      refine lx_bin (v := U8 (1#8 <<< (bit % 8#8).toNat)) rfl rfl (fun _ => rfl) (fun _ => shlU8 _ _ _ _) rfl rfl ?_
      refine lx_bin (v := U8 (x8 ^^^ 1#8 <<< (bit % 8#8).toNat)) rfl rfl (fun _ => rfl) (fun _ => bin_xor_u8 _ _ _) rfl rfl ?_
      refine lx_fak 2 rfl Tryd.underlying26 rfl Tryd.sizeOf24 (by decide) rfl rfl rfl ?_
      refine lx_ia1 k rfl rfl Tryd.underlying24 Tryd.sizeOf5 rfl (by omega) rfl rfl ?_
      refine lx_store 7 hGF rfl rfl rfl Tryd.sizeOf5 rfl (by rw [Hd.len hh]; omega) rfl ?_
      obtain ⟨y, hye, hy⟩ : ∃ y : Hd, h.cs.set (2 + k) (U8 (x8 ^^^ 1#8 <<< (bit % 8#8).toNat)) = y.cs ∧ y.Ok := ⟨⟨h.s, h.p, h.a.set k (x8 ^^^ 1#8 <<< (bit % 8#8).toNat), h.b, h.c⟩, Hd.set_a hh (by omega) _, ⟨by rw [List.length_set]; exact hh.a, hh.b, hh.c⟩⟩
      rw [hye]
      refine lx_nil ?_
      refine xs_plain (E := EE [9]) ?_
      refine lx_callE rfl rfl ent9 rfl rfl (fun w1 hC => (hnew_calls w1 (hGF.g _ _ _ hC)).mono fun e1 w2 h => ?_)
      obtain ⟨bm, rfl, hg, hbm, hob⟩ := h
      refine ⟨_, _, rfl, good_hp hGF, hC.news rides_true hg [(77, bm, MK.map U32, 83)] (rowN hbm hob) inj_one, ?_⟩
      clear hC hg hbm hob
      refine lx_allocr 9 hGF zvH rfl rfl ?_
      intro b9
      refine lx_storea 9 hGF rfl rfl rfl Tryd.sizeOf47 rfl rfl (by rfl) rfl ?_
      refine lx_nil ?_
      refine xs_drawn (E := EE [9]) mixed (by kernel_rfl) (by kernel_rfl) (by kernel_rfl) ?_
      refine lx_loadr (cs := h.cs) rfl Tryd.isAgg26 Tryd.sizeOf26 (Hd.len hh) (fun w' hw' j v hv => by have := (hp_row (n := 3) rfl w' hw') _ v (Hd.all j v hv); rwa [Nat.zero_add] at this) rfl rfl ?_
      refine lx_callC rfl rfl ent10 (fun w' hw' hG => hR.hd h hh w' hG) rfl rfl ?_
      refine lx_loadr (cs := y.cs) rfl Tryd.isAgg26 Tryd.sizeOf26 (Hd.len hy) (fun w' hw' j v hv => by have := (hp_row (n := 7) rfl w' hw') _ v (Hd.all j v hv); rwa [Nat.zero_add] at this) rfl rfl ?_
      refine lx_callC rfl rfl ent10 (fun w' hw' hG => hR.hd y hy w' hG) rfl rfl ?_
      refine lx_bin (v := .bool (decide (h.rt = y.rt))) rfl rfl (fun w' => eqg24 _ _ _ _ _ w') (fun w' => eqv24 _ _ (Hd.rt_len hh) (Hd.rt_len hy) w') rfl rfl ?_
      refine lx_loada 9 rfl rfl Tryd.isAgg47 Tryd.sizeOf47 rfl rfl rfl ?_
      refine lx_loadr (cs := h.cs) rfl Tryd.isAgg26 Tryd.sizeOf26 (Hd.len hh) (fun w' hw' j v hv => by have := (hp_row (n := 3) rfl w' hw') _ v (Hd.all j v hv); rwa [Nat.zero_add] at this) rfl rfl ?_
      refine lx_callC rfl rfl ent11 (fun w' hw' hG => hhd_calls bm h hh w' hG (hw'.own 77 _ _ _ rfl).1) rfl rfl ?_
      refine lx_loada 9 rfl rfl Tryd.isAgg47 Tryd.sizeOf47 rfl rfl rfl ?_
      refine lx_loadr (cs := y.cs) rfl Tryd.isAgg26 Tryd.sizeOf26 (Hd.len hy) (fun w' hw' j v hv => by have := (hp_row (n := 7) rfl w' hw') _ v (Hd.all j v hv); rwa [Nat.zero_add] at this) rfl rfl ?_
      refine lx_callC rfl rfl ent11 (fun w' hw' hG => hhd_calls bm y hy w' hG (hw'.own 77 _ _ _ rfl).1) rfl rfl ?_
      refine lx_bin (v := .bool (decide (h.rt = y.rt))) rfl rfl (fun w' => eqg24 _ _ _ _ _ w') (fun w' => eqv24 _ _ (Hd.rt_len hh) (Hd.rt_len hy) w') rfl rfl ?_
      refine lx_binB true rfl rfl (fun _ => rfl) (fun w' => eq_b4 _ _ w') (by simp) rfl rfl ?_
      refine lx_assign rfl rfl rfl ?_
      refine lx_nil ?_
      refine x_ret ?_
      repeat (first | refine kseq_ret ?_ | refine kblk_ret ?_)
      exact kret_tmp rfl rfl (fun w' hw' => ⟨rfl, hp_below hw'⟩)
    · skip
      refine lx_binB false rfl rfl (fun _ => rfl) (fun _ => bin_lss_i _ _ _) (by rw [decide_eq_false_iff_not]; omega) rfl rfl ?_
      refine lx_assign rfl rfl rfl ?_
      refine lx_nil ?_
      refine x_false rfl ?_
      refine xs_plain (E := EE [9]) ?_
      refine lx_move rfl rfl rfl ?_
      rcases Nat.lt_or_ge k 64 with h64 | h64
      · skip
        refine lx_binB true rfl rfl (fun _ => rfl) (fun _ => bin_lss_i _ _ _) (by rw [decide_eq_true_eq]; omega) rfl rfl ?_
        refine lx_assign rfl rfl rfl ?_
        refine lx_nil ?_
        refine x_true rfl ?_
        refine x_plain (E := EE [9]) ?_
        refine lx_move rfl rfl rfl ?_
        refine lx_bin (v := I (((k - 32 : Nat) : Int))) rfl rfl (fun _ => rfl) (fun _ => (bin_sub_i _ _ _ (by unfold inI; omega)).trans (by congr 2; omega)) rfl rfl ?_
        refine lx_fak 34 rfl Tryd.underlying26 rfl Tryd.sizeOf24 (by decide) rfl rfl rfl ?_
        refine lx_ia1 (k - 32) rfl rfl Tryd.underlying24 Tryd.sizeOf5 rfl (by omega) rfl rfl ?_
        obtain ⟨x8, hx8⟩ : ∃ x, h.b[(k - 32)]? = some x := ⟨_, List.getElem?_eq_getElem (by rw [hh.b]; omega)⟩
        refine lx_load (v := U8 x8) rfl Tryd.isAgg5 (fun w' hw' => by have := (hp_row (n := 7) rfl w' hw') _ _ (Hd.at_b hh (k - 32) (U8 x8) (by rw [List.getElem?_map, hx8]; rfl)); rwa [Nat.zero_add] at this) rfl rfl ?_
        refine lx_move rfl rfl rfl ?_
        refine lx_bin (v := U8 (bit % 8#8)) rfl rfl (fun _ => rfl) (fun _ => bin_rem_u8 _ _ _ (by decide)) rfl rfl ?_
        refine lx_bin (v := U8 (1#8 <<< (bit % 8#8).toNat)) rfl rfl (fun _ => rfl) (fun _ => shlU8 _ _ _ _) rfl rfl ?_
        refine lx_bin (v := U8 (x8 ^^^ 1#8 <<< (bit % 8#8).toNat)) rfl rfl (fun _ => rfl) (fun _ => bin_xor_u8 _ _ _) rfl rfl ?_
        refine lx_fak 34 rfl Tryd.underlying26 rfl Tryd.sizeOf24 (by decide) rfl rfl rfl ?_
        refine lx_ia1 (k - 32) rfl rfl Tryd.underlying24 Tryd.sizeOf5 rfl (by omega) rfl rfl ?_
        refine lx_store 7 hGF rfl rfl rfl Tryd.sizeOf5 rfl (by rw [Hd.len hh]; omega) rfl ?_
        obtain ⟨y, hye, hy⟩ : ∃ y : Hd, h.cs.set (34 + (k - 32)) (U8 (x8 ^^^ 1#8 <<< (bit % 8#8).toNat)) = y.cs ∧ y.Ok := ⟨⟨h.s, h.p, h.a, h.b.set (k - 32) (x8 ^^^ 1#8 <<< (bit % 8#8).toNat), h.c⟩, Hd.set_b hh (by omega) _, ⟨hh.a, by rw [List.length_set]; exact hh.b, hh.c⟩⟩
        rw [hye]
        refine lx_nil ?_
        refine xs_plain (E := EE [9]) ?_
        refine lx_callE rfl rfl ent9 rfl rfl (fun w1 hC => (hnew_calls w1 (hGF.g _ _ _ hC)).mono fun e1 w2 h => ?_)
        obtain ⟨bm, rfl, hg, hbm, hob⟩ := h
        refine ⟨_, _, rfl, good_hp hGF, hC.news rides_true hg [(77, bm, MK.map U32, 83)] (rowN hbm hob) inj_one, ?_⟩
        clear hC hg hbm hob
        refine lx_allocr 9 hGF zvH rfl rfl ?_
        intro b9
        refine lx_storea 9 hGF rfl rfl rfl Tryd.sizeOf47 rfl rfl (by rfl) rfl ?_
        refine lx_nil ?_
        refine xs_drawn (E := EE [9]) mixed (by kernel_rfl) (by kernel_rfl) (by kernel_rfl) ?_
        refine lx_loadr (cs := h.cs) rfl Tryd.isAgg26 Tryd.sizeOf26 (Hd.len hh) (fun w' hw' j v hv => by have := (hp_row (n := 3) rfl w' hw') _ v (Hd.all j v hv); rwa [Nat.zero_add] at this) rfl rfl ?_
        refine lx_callC rfl rfl ent10 (fun w' hw' hG => hR.hd h hh w' hG) rfl rfl ?_
        refine lx_loadr (cs := y.cs) rfl Tryd.isAgg26 Tryd.sizeOf26 (Hd.len hy) (fun w' hw' j v hv => by have := (hp_row (n := 7) rfl w' hw') _ v (Hd.all j v hv); rwa [Nat.zero_add] at this) rfl rfl ?_
        refine lx_callC rfl rfl ent10 (fun w' hw' hG => hR.hd y hy w' hG) rfl rfl ?_
        refine lx_bin (v := .bool (decide (h.rt = y.rt))) rfl rfl (fun w' => eqg24 _ _ _ _ _ w') (fun w' => eqv24 _ _ (Hd.rt_len hh) (Hd.rt_len hy) w') rfl rfl ?_
        refine lx_loada 9 rfl rfl Tryd.isAgg47 Tryd.sizeOf47 rfl rfl rfl ?_
        refine lx_loadr (cs := h.cs) rfl Tryd.isAgg26 Tryd.sizeOf26 (Hd.len hh) (fun w' hw' j v hv => by have := (hp_row (n := 3) rfl w' hw') _ v (Hd.all j v hv); rwa [Nat.zero_add] at this) rfl rfl ?_
        refine lx_callC rfl rfl ent11 (fun w' hw' hG => hhd_calls bm h hh w' hG (hw'.own 77 _ _ _ rfl).1) rfl rfl ?_
        refine lx_loada 9 rfl rfl Tryd.isAgg47 Tryd.sizeOf47 rfl rfl rfl ?_
        refine lx_loadr (cs := y.cs) rfl Tryd.isAgg26 Tryd.sizeOf26 (Hd.len hy) (fun w' hw' j v hv => by have := (hp_row (n := 7) rfl w' hw') _ v (Hd.all j v hv); rwa [Nat.zero_add] at this) rfl rfl ?_
        refine lx_callC rfl rfl ent11 (fun w' hw' hG => hhd_calls bm y hy w' hG (hw'.own 77 _ _ _ rfl).1) rfl rfl ?_
        refine lx_bin (v := .bool (decide (h.rt = y.rt))) rfl rfl (fun w' => eqg24 _ _ _ _ _ w') (fun w' => eqv24 _ _ (Hd.rt_len hh) (Hd.rt_len hy) w') rfl rfl ?_
        refine lx_binB true rfl rfl (fun _ => rfl) (fun w' => eq_b4 _ _ w') (by simp) rfl rfl ?_
        refine lx_assign rfl rfl rfl ?_
        refine lx_nil ?_
        refine x_ret ?_
        repeat (first | refine kseq_ret ?_ | refine kblk_ret ?_)
        exact kret_tmp rfl rfl (fun w' hw' => ⟨rfl, hp_below hw'⟩)
      · skip
        refine lx_binB false rfl rfl (fun _ => rfl) (fun _ => bin_lss_i _ _ _) (by rw [decide_eq_false_iff_not]; omega) rfl rfl ?_
        refine lx_assign rfl rfl rfl ?_
        refine lx_nil ?_
        refine x_false rfl ?_
        refine xs_plain (E := EE [9]) ?_
        refine lx_move rfl rfl rfl ?_
        rcases Nat.lt_or_ge k 96 with h96 | h96
        · skip
          refine lx_binB true rfl rfl (fun _ => rfl) (fun _ => bin_lss_i _ _ _) (by rw [decide_eq_true_eq]; omega) rfl rfl ?_
          refine lx_assign rfl rfl rfl ?_
          refine lx_nil ?_
          refine x_true rfl ?_
          refine x_plain (E := EE [9]) ?_
          refine lx_move rfl rfl rfl ?_
          refine lx_bin (v := I (((k - 64 : Nat) : Int))) rfl rfl (fun _ => rfl) (fun _ => (bin_sub_i _ _ _ (by unfold inI; omega)).trans (by congr 2; omega)) rfl rfl ?_
          refine lx_fak 66 rfl Tryd.underlying26 rfl Tryd.sizeOf24 (by decide) rfl rfl rfl ?_
          refine lx_ia1 (k - 64) rfl rfl Tryd.underlying24 Tryd.sizeOf5 rfl (by omega) rfl rfl ?_
          obtain ⟨x8, hx8⟩ : ∃ x, h.c[(k - 64)]? = some x := ⟨_, List.getElem?_eq_getElem (by rw [hh.c]; omega)⟩
          refine lx_load (v := U8 x8) rfl Tryd.isAgg5 (fun w' hw' => by have := (hp_row (n := 7) rfl w' hw') _ _ (Hd.at_c hh (k - 64) (U8 x8) (by rw [List.getElem?_map, hx8]; rfl)); rwa [Nat.zero_add] at this) rfl rfl ?_
          refine lx_move rfl rfl rfl ?_
          refine lx_bin (v := U8 (bit % 8#8)) rfl rfl (fun _ => rfl) (fun _ => bin_rem_u8 _ _ _ (by decide)) rfl rfl ?_
          refine lx_bin (v := U8 (1#8 <<< (bit % 8#8).toNat)) rfl rfl (fun _ => rfl) (fun _ => shlU8 _ _ _ _) rfl rfl ?_
          refine lx_bin (v := U8 (x8 ^^^ 1#8 <<< (bit % 8#8).toNat)) rfl rfl (fun _ => rfl) (fun _ => bin_xor_u8 _ _ _) rfl rfl ?_
          refine lx_fak 66 rfl Tryd.underlying26 rfl Tryd.sizeOf24 (by decide) rfl rfl rfl ?_
          refine lx_ia1 (k - 64) rfl rfl Tryd.underlying24 Tryd.sizeOf5 rfl (by omega) rfl rfl ?_
          refine lx_store 7 hGF rfl rfl rfl Tryd.sizeOf5 rfl (by rw [Hd.len hh]; omega) rfl ?_
          obtain ⟨y, hye, hy⟩ : ∃ y : Hd, h.cs.set (66 + (k - 64)) (U8 (x8 ^^^ 1#8 <<< (bit % 8#8).toNat)) = y.cs ∧ y.Ok := ⟨⟨h.s, h.p, h.a, h.b, h.c.set (k - 64) (x8 ^^^ 1#8 <<< (bit % 8#8).toNat)⟩, Hd.set_c hh (by omega) _, ⟨hh.a, hh.b, by rw [List.length_set]; exact hh.c⟩⟩
          rw [hye]
          refine lx_nil ?_
          refine xs_plain (E := EE [9]) ?_
          refine lx_callE rfl rfl ent9 rfl rfl (fun w1 hC => (hnew_calls w1 (hGF.g _ _ _ hC)).mono fun e1 w2 h => ?_)
          obtain ⟨bm, rfl, hg, hbm, hob⟩ := h
          refine ⟨_, _, rfl, good_hp hGF, hC.news rides_true hg [(77, bm, MK.map U32, 83)] (rowN hbm hob) inj_one, ?_⟩
          clear hC hg hbm hob
          refine lx_allocr 9 hGF zvH rfl rfl ?_
          intro b9
          refine lx_storea 9 hGF rfl rfl rfl Tryd.sizeOf47 rfl rfl (by rfl) rfl ?_
          refine lx_nil ?_
          refine xs_drawn (E := EE [9]) mixed (by kernel_rfl) (by kernel_rfl) (by kernel_rfl) ?_
          refine lx_loadr (cs := h.cs) rfl Tryd.isAgg26 Tryd.sizeOf26 (Hd.len hh) (fun w' hw' j v hv => by have := (hp_row (n := 3) rfl w' hw') _ v (Hd.all j v hv); rwa [Nat.zero_add] at this) rfl rfl ?_
          refine lx_callC rfl rfl ent10 (fun w' hw' hG => hR.hd h hh w' hG) rfl rfl ?_
          refine lx_loadr (cs := y.cs) rfl Tryd.isAgg26 Tryd.sizeOf26 (Hd.len hy) (fun w' hw' j v hv => by have := (hp_row (n := 7) rfl w' hw') _ v (Hd.all j v hv); rwa [Nat.zero_add] at this) rfl rfl ?_
          refine lx_callC rfl rfl ent10 (fun w' hw' hG => hR.hd y hy w' hG) rfl rfl ?_
          refine lx_bin (v := .bool (decide (h.rt = y.rt))) rfl rfl (fun w' => eqg24 _ _ _ _ _ w') (fun w' => eqv24 _ _ (Hd.rt_len hh) (Hd.rt_len hy) w') rfl rfl ?_
          refine lx_loada 9 rfl rfl Tryd.isAgg47 Tryd.sizeOf47 rfl rfl rfl ?_
          refine lx_loadr (cs := h.cs) rfl Tryd.isAgg26 Tryd.sizeOf26 (Hd.len hh) (fun w' hw' j v hv => by have := (hp_row (n := 3) rfl w' hw') _ v (Hd.all j v hv); rwa [Nat.zero_add] at this) rfl rfl ?_
          refine lx_callC rfl rfl ent11 (fun w' hw' hG => hhd_calls bm h hh w' hG (hw'.own 77 _ _ _ rfl).1) rfl rfl ?_
          refine lx_loada 9 rfl rfl Tryd.isAgg47 Tryd.sizeOf47 rfl rfl rfl ?_
          refine lx_loadr (cs := y.cs) rfl Tryd.isAgg26 Tryd.sizeOf26 (Hd.len hy) (fun w' hw' j v hv => by have := (hp_row (n := 7) rfl w' hw') _ v (Hd.all j v hv); rwa [Nat.zero_add] at this) rfl rfl ?_
          refine lx_callC rfl rfl ent11 (fun w' hw' hG => hhd_calls bm y hy w' hG (hw'.own 77 _ _ _ rfl).1) rfl rfl ?_
          refine lx_bin (v := .bool (decide (h.rt = y.rt))) rfl rfl (fun w' => eqg24 _ _ _ _ _ w') (fun w' => eqv24 _ _ (Hd.rt_len hh) (Hd.rt_len hy) w') rfl rfl ?_
          refine lx_binB true rfl rfl (fun _ => rfl) (fun w' => eq_b4 _ _ w') (by simp) rfl rfl ?_
          refine lx_assign rfl rfl rfl ?_
          refine lx_nil ?_
          refine x_ret ?_
          repeat (first | refine kseq_ret ?_ | refine kblk_ret ?_)
          exact kret_tmp rfl rfl (fun w' hw' => ⟨rfl, hp_below hw'⟩)
        · skip
          refine lx_binB false rfl rfl (fun _ => rfl) (fun _ => bin_lss_i _ _ _) (by rw [decide_eq_false_iff_not]; omega) rfl rfl ?_
          refine lx_assign rfl rfl rfl ?_
          refine lx_nil ?_
          refine x_false rfl ?_
          refine xs_plain (E := EE [9]) ?_
          refine lx_move rfl rfl rfl ?_
          rcases Nat.lt_or_ge k 97 with h97 | h97
          · skip
            refine lx_binB true rfl rfl (fun _ => rfl) (fun _ => bin_eql_i _ _ _) (by rw [beq_iff_eq]; omega) rfl rfl ?_
            refine lx_assign rfl rfl rfl ?_
            refine lx_nil ?_
            refine x_true rfl ?_
            refine x_plain (E := EE [9]) ?_
            refine lx_fak 0 rfl Tryd.underlying26 rfl Tryd.sizeOf22 (by decide) rfl rfl rfl ?_
            refine lx_load (v := U64 h.s) rfl Tryd.isAgg22 (fun w' hw' => (hp_row (n := 7) rfl w' hw') 0 _ rfl) rfl rfl ?_
            refine lx_move rfl rfl rfl ?_
            refine lx_bin (v := U8 (bit % 64#8)) rfl rfl (fun _ => rfl) (fun _ => bin_rem_u8 _ _ _ (by decide)) rfl rfl ?_
            refine lx_bin (v := U64 (1#64 <<< (bit % 64#8).toNat)) rfl rfl (fun _ => rfl) (fun _ => shlU64 _ _ _ _) rfl rfl ?_
            refine lx_bin (v := U64 (h.s ^^^ 1#64 <<< (bit % 64#8).toNat)) rfl rfl (fun _ => rfl) (fun _ => bin_xor_u64 _ _ _) rfl rfl ?_
            refine lx_fak 0 rfl Tryd.underlying26 rfl Tryd.sizeOf22 (by decide) rfl rfl rfl ?_
            refine lx_store 7 hGF rfl rfl rfl Tryd.sizeOf22 rfl (by rw [Hd.len hh]; decide) rfl ?_
            obtain ⟨y, hye, hy⟩ : ∃ y : Hd, h.cs.set 0 (U64 (h.s ^^^ 1#64 <<< (bit % 64#8).toNat)) = y.cs ∧ y.Ok := ⟨⟨(h.s ^^^ 1#64 <<< (bit % 64#8).toNat), h.p, h.a, h.b, h.c⟩, rfl, ⟨hh.a, hh.b, hh.c⟩⟩
            rw [hye]
            refine lx_nil ?_
            refine xs_plain (E := EE [9]) ?_
            refine lx_callE rfl rfl ent9 rfl rfl (fun w1 hC => (hnew_calls w1 (hGF.g _ _ _ hC)).mono fun e1 w2 h => ?_)
            obtain ⟨bm, rfl, hg, hbm, hob⟩ := h
            refine ⟨_, _, rfl, good_hp hGF, hC.news rides_true hg [(77, bm, MK.map U32, 83)] (rowN hbm hob) inj_one, ?_⟩
            clear hC hg hbm hob
            refine lx_allocr 9 hGF zvH rfl rfl ?_
            intro b9
            refine lx_storea 9 hGF rfl rfl rfl Tryd.sizeOf47 rfl rfl (by rfl) rfl ?_
            refine lx_nil ?_
            refine xs_drawn (E := EE [9]) mixed (by kernel_rfl) (by kernel_rfl) (by kernel_rfl) ?_
            refine lx_loadr (cs := h.cs) rfl Tryd.isAgg26 Tryd.sizeOf26 (Hd.len hh) (fun w' hw' j v hv => by have := (hp_row (n := 3) rfl w' hw') _ v (Hd.all j v hv); rwa [Nat.zero_add] at this) rfl rfl ?_
            refine lx_callC rfl rfl ent10 (fun w' hw' hG => hR.hd h hh w' hG) rfl rfl ?_
            refine lx_loadr (cs := y.cs) rfl Tryd.isAgg26 Tryd.sizeOf26 (Hd.len hy) (fun w' hw' j v hv => by have := (hp_row (n := 7) rfl w' hw') _ v (Hd.all j v hv); rwa [Nat.zero_add] at this) rfl rfl ?_
            refine lx_callC rfl rfl ent10 (fun w' hw' hG => hR.hd y hy w' hG) rfl rfl ?_
            refine lx_bin (v := .bool (decide (h.rt = y.rt))) rfl rfl (fun w' => eqg24 _ _ _ _ _ w') (fun w' => eqv24 _ _ (Hd.rt_len hh) (Hd.rt_len hy) w') rfl rfl ?_
            refine lx_loada 9 rfl rfl Tryd.isAgg47 Tryd.sizeOf47 rfl rfl rfl ?_
            refine lx_loadr (cs := h.cs) rfl Tryd.isAgg26 Tryd.sizeOf26 (Hd.len hh) (fun w' hw' j v hv => by have := (hp_row (n := 3) rfl w' hw') _ v (Hd.all j v hv); rwa [Nat.zero_add] at this) rfl rfl ?_
            refine lx_callC rfl rfl ent11 (fun w' hw' hG => hhd_calls bm h hh w' hG (hw'.own 77 _ _ _ rfl).1) rfl rfl ?_
            refine lx_loada 9 rfl rfl Tryd.isAgg47 Tryd.sizeOf47 rfl rfl rfl ?_
            refine lx_loadr (cs := y.cs) rfl Tryd.isAgg26 Tryd.sizeOf26 (Hd.len hy) (fun w' hw' j v hv => by have := (hp_row (n := 7) rfl w' hw') _ v (Hd.all j v hv); rwa [Nat.zero_add] at this) rfl rfl ?_
            refine lx_callC rfl rfl ent11 (fun w' hw' hG => hhd_calls bm y hy w' hG (hw'.own 77 _ _ _ rfl).1) rfl rfl ?_
            refine lx_bin (v := .bool (decide (h.rt = y.rt))) rfl rfl (fun w' => eqg24 _ _ _ _ _ w') (fun w' => eqv24 _ _ (Hd.rt_len hh) (Hd.rt_len hy) w') rfl rfl ?_
            refine lx_binB true rfl rfl (fun _ => rfl) (fun w' => eq_b4 _ _ w') (by simp) rfl rfl ?_
            refine lx_assign rfl rfl rfl ?_
            refine lx_nil ?_
            refine x_ret ?_
            repeat (first | refine kseq_ret ?_ | refine kblk_ret ?_)
            exact kret_tmp rfl rfl (fun w' hw' => ⟨rfl, hp_below hw'⟩)
          · skip
            refine lx_binB false rfl rfl (fun _ => rfl) (fun _ => bin_eql_i _ _ _) (by rw [beq_eq_false_iff_ne]; omega) rfl rfl ?_
            refine lx_assign rfl rfl rfl ?_
            refine lx_nil ?_
            refine x_false rfl ?_
            refine x_plain (E := EE [9]) ?_
            refine lx_fak 1 rfl Tryd.underlying26 rfl Tryd.sizeOf22 (by decide) rfl rfl rfl ?_
            refine lx_load (v := U64 h.p) rfl Tryd.isAgg22 (fun w' hw' => (hp_row (n := 7) rfl w' hw') 1 _ rfl) rfl rfl ?_
            refine lx_move rfl rfl rfl ?_
            refine lx_bin (v := U8 (bit % 64#8)) rfl rfl (fun _ => rfl) (fun _ => bin_rem_u8 _ _ _ (by decide)) rfl rfl ?_
            refine lx_bin (v := U64 (1#64 <<< (bit % 64#8).toNat)) rfl rfl (fun _ => rfl) (fun _ => shlU64 _ _ _ _) rfl rfl ?_
            refine lx_bin (v := U64 (h.p ^^^ 1#64 <<< (bit % 64#8).toNat)) rfl rfl (fun _ => rfl) (fun _ => bin_xor_u64 _ _ _) rfl rfl ?_
            refine lx_fak 1 rfl Tryd.underlying26 rfl Tryd.sizeOf22 (by decide) rfl rfl rfl ?_
            refine lx_store 7 hGF rfl rfl rfl Tryd.sizeOf22 rfl (by rw [Hd.len hh]; decide) rfl ?_
            obtain ⟨y, hye, hy⟩ : ∃ y : Hd, h.cs.set 1 (U64 (h.p ^^^ 1#64 <<< (bit % 64#8).toNat)) = y.cs ∧ y.Ok := ⟨⟨h.s, (h.p ^^^ 1#64 <<< (bit % 64#8).toNat), h.a, h.b, h.c⟩, rfl, ⟨hh.a, hh.b, hh.c⟩⟩
            rw [hye]
            refine lx_nil ?_
            refine xs_plain (E := EE [9]) ?_
            refine lx_callE rfl rfl ent9 rfl rfl (fun w1 hC => (hnew_calls w1 (hGF.g _ _ _ hC)).mono fun e1 w2 h => ?_)
            obtain ⟨bm, rfl, hg, hbm, hob⟩ := h
            refine ⟨_, _, rfl, good_hp hGF, hC.news rides_true hg [(77, bm, MK.map U32, 83)] (rowN hbm hob) inj_one, ?_⟩
            clear hC hg hbm hob
            refine lx_allocr 9 hGF zvH rfl rfl ?_
            intro b9
            refine lx_storea 9 hGF rfl rfl rfl Tryd.sizeOf47 rfl rfl (by rfl) rfl ?_
            refine lx_nil ?_
            refine xs_drawn (E := EE [9]) mixed (by kernel_rfl) (by kernel_rfl) (by kernel_rfl) ?_
            refine lx_loadr (cs := h.cs) rfl Tryd.isAgg26 Tryd.sizeOf26 (Hd.len hh) (fun w' hw' j v hv => by have := (hp_row (n := 3) rfl w' hw') _ v (Hd.all j v hv); rwa [Nat.zero_add] at this) rfl rfl ?_
            refine lx_callC rfl rfl ent10 (fun w' hw' hG => hR.hd h hh w' hG) rfl rfl ?_
            refine lx_loadr (cs := y.cs) rfl Tryd.isAgg26 Tryd.sizeOf26 (Hd.len hy) (fun w' hw' j v hv => by have := (hp_row (n := 7) rfl w' hw') _ v (Hd.all j v hv); rwa [Nat.zero_add] at this) rfl rfl ?_
            refine lx_callC rfl rfl ent10 (fun w' hw' hG => hR.hd y hy w' hG) rfl rfl ?_
            refine lx_bin (v := .bool (decide (h.rt = y.rt))) rfl rfl (fun w' => eqg24 _ _ _ _ _ w') (fun w' => eqv24 _ _ (Hd.rt_len hh) (Hd.rt_len hy) w') rfl rfl ?_
            refine lx_loada 9 rfl rfl Tryd.isAgg47 Tryd.sizeOf47 rfl rfl rfl ?_
            refine lx_loadr (cs := h.cs) rfl Tryd.isAgg26 Tryd.sizeOf26 (Hd.len hh) (fun w' hw' j v hv => by have := (hp_row (n := 3) rfl w' hw') _ v (Hd.all j v hv); rwa [Nat.zero_add] at this) rfl rfl ?_
            refine lx_callC rfl rfl ent11 (fun w' hw' hG => hhd_calls bm h hh w' hG (hw'.own 77 _ _ _ rfl).1) rfl rfl ?_
            refine lx_loada 9 rfl rfl Tryd.isAgg47 Tryd.sizeOf47 rfl rfl rfl ?_
            refine lx_loadr (cs := y.cs) rfl Tryd.isAgg26 Tryd.sizeOf26 (Hd.len hy) (fun w' hw' j v hv => by have := (hp_row (n := 7) rfl w' hw') _ v (Hd.all j v hv); rwa [Nat.zero_add] at this) rfl rfl ?_
            refine lx_callC rfl rfl ent11 (fun w' hw' hG => hhd_calls bm y hy w' hG (hw'.own 77 _ _ _ rfl).1) rfl rfl ?_
            refine lx_bin (v := .bool (decide (h.rt = y.rt))) rfl rfl (fun w' => eqg24 _ _ _ _ _ w') (fun w' => eqv24 _ _ (Hd.rt_len hh) (Hd.rt_len hy) w') rfl rfl ?_
            refine lx_binB true rfl rfl (fun _ => rfl) (fun w' => eq_b4 _ _ w') (by simp) rfl rfl ?_
            refine lx_assign rfl rfl rfl ?_
            refine lx_nil ?_
            refine x_ret ?_
            repeat (first | refine kseq_ret ?_ | refine kblk_ret ?_)
            exact kret_tmp rfl rfl (fun w' hw' => ⟨rfl, hp_below hw'⟩)
end Go.Proofs.YtldnceanfncdfaaDoor
