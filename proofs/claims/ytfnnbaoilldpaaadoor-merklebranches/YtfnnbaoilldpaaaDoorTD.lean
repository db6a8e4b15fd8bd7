/-
  The document's branches; lists of roots that are alike.
-/
import Derived.Test.YtfnnbaoilldpaaaDoorTC
namespace Go.Proofs.YtfnnbaoilldpaaaDoor
open Go.RowKit
set_option maxRecDepth 100000
set_option maxHeartbeats 1000000
open Sh
theorem ent19 : Enters Tryd.prog 19 := fun _ _ => by kernel_rfl
theorem ent11 : Enters Tryd.prog 11 := fun _ _ => by kernel_rfl
theorem tiR : TI Tryd.prog 29 (.agg (Z0.map U8).toArray) 32 32 := ti_mk (by kernel_rfl)
theorem made_rep (v : Value) (s : Nat) (hs : 0 < s) (n : Nat) : (madeCells (List.replicate s v).toArray n).toList = List.replicate n v := by
  rw [madeCells]
  refine List.ext_getElem (by simp) fun i h1 h2 => ?_
  have h3 : i % s < s := Nat.mod_lt _ hs
  simp [h3]
theorem madeR (n : Nat) : (madeCells (Value.agg (Z0.map U8).toArray).cells (n * 32)).toList = (List.replicate (32 * n) 0#8).map U8 := by
  have hz : (Value.agg (Z0.map U8).toArray).cells = (List.replicate 32 (U8 0#8)).toArray := by
    show (Z0.map U8).toArray = _
    rw [Z0, List.map_replicate]
  rw [hz, made_rep _ 32 (by decide), List.map_replicate, Nat.mul_comm]
theorem flat_len : ∀ (l : List Rt), AllR l → l.flatten.length = 32 * l.length
  | [], _ => rfl
  | x :: l, h => by
    rw [List.flatten_cons, List.length_append, flat_len l (fun r hr => h r (List.mem_cons_of_mem _ hr)), h x (List.mem_cons_self ..), List.length_cons]; omega
theorem flat_get : ∀ (l : List Rt), AllR l → ∀ (i : Nat) (r : Rt), l[i]? = some r → ∀ (j : Nat) (v : BitVec 8), r[j]? = some v → l.flatten[i * 32 + j]? = some v
  | [], _, _, _, hr, _, _, _ => by simp at hr
  | x :: l, h, 0, r, hr, j, v, hv => by
    simp only [List.getElem?_cons_zero, Option.some.injEq] at hr
    subst hr
    have hj := (List.getElem?_eq_some_iff.1 hv).1
    rw [List.flatten_cons, Nat.zero_mul, Nat.zero_add, List.getElem?_append_left hj]
    exact hv
  | x :: l, h, i + 1, r, hr, j, v, hv => by
    simp only [List.getElem?_cons_succ] at hr
    have hx := h x (List.mem_cons_self ..)
    rw [List.flatten_cons, List.getElem?_append_right (by omega), show (i + 1) * 32 + j - x.length = i * 32 + j from by omega]
    exact flat_get l (fun r hr => h r (List.mem_cons_of_mem _ hr)) i r hr j v hv
/-- Roots that lie in a block from its beginning. -/
theorem rts_own {w : World} {b : Nat} {cs : List Value} {l : List Rt} (hl : AllR l) (h : w.rangeAt b 0 cs) (hc : cs.take (32 * l.length) = l.flatten.map U8) : RtsAt w (some ⟨b, 0, none⟩) l := fun i r hr => by
  refine ⟨_, rfl, fun j v hv => ?_⟩
  rw [List.getElem?_map, Option.map_eq_some_iff] at hv
  obtain ⟨x, hx, rfl⟩ := hv
  have hj := (List.getElem?_eq_some_iff.1 hx).1
  have hr32 := hl r (List.mem_of_getElem? hr)
  have hi := (List.getElem?_eq_some_iff.1 hr).1
  have h1 := flat_get l hl i r hr j x hx
  have h2 : cs[i * 32 + j]? = some (U8 x) := by
    have : (cs.take (32 * l.length))[i * 32 + j]? = some (U8 x) := by rw [hc, List.getElem?_map, h1]; rfl
    rw [List.getElem?_take, if_pos (by omega)] at this
    exact this
  have h3 := h _ _ h2
  rw [Addr.add_mid, Addr.add_mid]
  rw [Nat.zero_add] at h3
  rw [Nat.zero_add]
  exact h3
/-- A list of roots that was made. -/
def FrL (w w' : World) (v : Value) (l : List Rt) : Prop := ∃ a cap, v = .slice a l.length cap ∧ SlW 29 32 w' a cap l.length (l.flatten.map U8) ∧ New w a
theorem SlW.rts {w : World} {a : Option Addr} {cap : Nat} {l : List Rt} (hl : AllR l) (h : SlW 29 32 w a cap l.length (l.flatten.map U8)) : RtsAt w a l := by
  by_cases h0 : l = []
  · subst h0; intro i r hr; simp at hr
  · obtain ⟨b, rfl, hr⟩ := h.at (fun he => by
      have h1 := congrArg List.length he
      rw [List.length_map, flat_len l hl] at h1
      exact h0 (List.eq_nil_of_length_eq_zero (by simp at h1; omega)))
    refine rts_own hl hr (List.take_of_length_le ?_)
    rw [List.length_map, flat_len l hl]
    exact Nat.le_refl _
theorem brF_all {i : Nat} : ∀ (d : Nat) (l : List Rt), AllR l → AllR (brF P2 Z0 d l i)
  | 0, _, _ => fun r hr => by simp [brF] at hr
  | d + 1, l, h => by
    rw [brF]
    cases i.testBit d
    · simp only [cond_false]
      intro r hr
      rcases List.mem_append.1 hr with hr | hr
      · exact brF_all d _ (h.take _) r hr
      · rw [List.mem_singleton.1 hr]; exact tre_len (h.drop _) d
    · simp only [cond_true]
      intro r hr
      rcases List.mem_append.1 hr with hr | hr
      · exact brF_all d _ (h.drop _) r hr
      · rw [List.mem_singleton.1 hr]; exact tre_len (h.take _) d
theorem lay_br {e : Nat} {x : Rt} (hx : x.length = 32) (t : List (BitVec 8)) : lay (0 + 32 * e) (x.map U8) ((List.replicate (32 * (e + 1)) 0#8 ++ t).map U8) = (List.replicate (32 * e) 0#8 ++ (x ++ t)).map U8 := by
  rw [lay_eq _ _ _ (by simp; omega)]
  simp only [← List.map_take, ← List.map_drop, ← List.map_append, List.length_map]
  congr 1
  rw [List.take_append_of_le_length (by simp; omega), List.take_replicate, Nat.min_eq_left (by omega), Nat.zero_add, List.append_assoc, hx, List.drop_append_of_le_length (by simp; omega), List.drop_replicate, show 32 * (e + 1) - (32 * e + 32) = 0 from by omega]
  rfl
theorem all_cons {x : Rt} {l : List Rt} (hx : x.length = 32) (hl : AllR l) : AllR (x :: l) := fun r hr => (List.mem_cons.1 hr).elim (fun h => h ▸ hx) (hl r)
theorem take_minR (l : List Rt) (n : Nat) : l.take (min l.length n) = l.take n := by
  rcases Nat.le_total l.length n with h | h
  · rw [Nat.min_eq_left h, List.take_of_length_le (Nat.le_refl _), List.take_of_length_le h]
  · rw [Nat.min_eq_right h]
theorem drop_minR (l : List Rt) (n : Nat) : l.drop (min l.length n) = l.drop n := by
  rcases Nat.le_total l.length n with h | h
  · rw [Nat.min_eq_left h, List.drop_of_length_le (Nat.le_refl _), List.drop_of_length_le h]
  · rw [Nat.min_eq_right h]
theorem own_slw {w : World} {B : Bs} {L : Hl} {n b D : Nat} {U : List Rt} (hU : AllR U) (hp : Hp B L w) (hl : lkB L n = some (b, (List.replicate (32 * 0) 0#8 ++ U.flatten).map U8, 29)) (hd : U.length + 0 = D) : SlW 29 32 w (some ⟨b, 0, none⟩) D U.length (U.flatten.map U8) := by
  have h1 := flat_len U hU
  refine .inr ⟨b, _, rfl, (hp.own n _ _ _ hl).1, ?_, by omega, ?_, ?_⟩
  · rw [List.length_map, List.length_append, List.length_replicate, h1]; omega
  · rw [List.length_map, h1]; omega
  · rw [Nat.mul_zero, List.replicate_zero, List.nil_append, List.take_length]
structure BrV (w : World) (D : Nat) (l0 : List Rt) (x : Nat) where
  (d : Nat) (lc U : List Rt) (a : Option Addr) (cap : Nat)
  h : brF P2 Z0 D l0 x = brF P2 Z0 d lc x ++ U
  hd : U.length + d = D
  hl : AllR lc
  hu : AllR U
  hn : lc.length ≤ 1000000
  hc : lc.length ≤ cap
  hr : RtsAt w a lc
theorem hbra_calls (bm D : Nat) (hD : D ≤ 31) (l : List Rt) (hl : AllR l) (hln : l.length ≤ 1000000) (a : Option Addr) (cap : Nat) (hc : l.length ≤ cap) (x0 : BitVec 64) (w : World) (hw : Gt w) (ho : MkAt w bm) (hr : RtsAt w a l) : Calls Tryd.prog 20 [.agg [.pointer (some ⟨bm, 0, none⟩)].toArray, .slice a l.length cap, I (D : Int), U64 x0].toArray w (fun e w' => ∃ v, e = .returned v ∧ Grow w w' ∧ FrL w w' v (brF P2 Z0 D (l.take (2 ^ D)) x0.toNat)) := by
  have hpD := Nat.two_pow_pos D
  have hGF : BOk Gt (pl w) := gt_low.plain hw
  refine calls_of_X (G := Gt) Tryd.func20 rfl rfl (Hp (pl w) []) (hp_refl (pl w) trivial rides_true) (good_hp hGF) ?_
  refine xs_plain (E := EE []) ?_
  refine lx_boxr 4 hGF rfl rfl rfl ?_
  intro b4
  refine lx_assign rfl rfl rfl ?_
  refine lx_nil ?_
  refine xs_plain (E := EE []) ?_
  refine lx_move rfl rfl rfl ?_
  refine lx_max (z := (D : Int)) rfl rfl (by split <;> omega) rfl rfl ?_
  refine lx_min (z := (D : Int)) rfl rfl (by split <;> omega) rfl rfl ?_
  refine lx_assign rfl rfl rfl ?_
  refine lx_nil ?_
  refine x_seq ?_
  refine xs_plain (E := EE []) ?_
  refine lx_move rfl rfl rfl ?_
  refine lx_binB true rfl rfl (fun _ => rfl) (fun _ => bin_lss_i _ _ _) (by simp; omega) rfl rfl ?_
  refine lx_move rfl rfl rfl ?_
  refine lx_move rfl rfl rfl ?_
  refine lx_len rfl (fun _ => len_slice Tryd.underlying22 _ _ _ _) rfl rfl ?_
  refine lx_move rfl rfl rfl ?_
  refine lx_bin (v := I (((2 ^ D : Nat) : Int))) rfl rfl (fun _ => rfl) (fun _ => shl1_i _ D (by omega) _) rfl rfl ?_
  rcases Nat.lt_or_ge (2 ^ D) l.length with hD2 | hD2
  · skip
    have hlt : (l.take (2 ^ D)).length = 2 ^ D := by rw [List.length_take]; omega
    refine lx_binB true rfl rfl (fun _ => rfl) (fun _ => bin_gtr_i _ _ _) (by rw [decide_eq_true_eq]; omega) rfl rfl ?_
    refine lx_pick rfl rfl rfl rfl rfl ?_
    refine lx_nil ?_
    refine x_true rfl ?_
    refine x_plain (E := EE []) ?_
    refine lx_move rfl rfl rfl ?_
    refine lx_move rfl rfl rfl ?_
    refine lx_bin (v := I (((2 ^ D : Nat) : Int))) rfl rfl (fun _ => rfl) (fun _ => shl1_i _ D (by omega) _) rfl rfl ?_
    refine lx_slsl (l := 0) (h' := 2 ^ D) rfl Tryd.underlying22 Tryd.sizeOf29 rfl rfl ⟨Nat.zero_le _, by omega⟩ rfl rfl ?_
    rw [cutR0, Nat.sub_zero, Nat.sub_zero]
    refine lx_assign rfl rfl rfl ?_
    refine lx_nil ?_
    refine xs_plain (E := EE []) ?_
    refine lx_move rfl rfl rfl ?_
    refine lx_mkslC (l := D) (m := D) (c := (List.replicate (32 * D) 0#8).map U8) 29 hGF rfl rfl (Nat.le_refl _) Tryd.underlying22 tiR ⟨by omega, by omega, by omega⟩ (madeR D) rfl rfl ?_
    intro b29
    refine lx_assign rfl rfl rfl ?_
    refine lx_nil ?_
    refine x_seq ?_
    refine xs_plain (E := EE []) ?_
    refine lx_move rfl rfl rfl ?_
    refine lx_bin (v := I (((D : Int) - 1))) rfl rfl (fun _ => rfl) (fun _ => bin_sub_i _ _ _ (by unfold inI; omega)) rfl rfl ?_
    refine lx_assign rfl rfl rfl ?_
    refine lx_nil ?_
    refine x_block ?_
    refine x_for (ι := BrV w D (l.take (2 ^ D)) x0.toNat) (fun y => [(1, .slice y.a y.lc.length y.cap), (3, U64 x0), (4, .pointer (some ⟨b4, 0, none⟩)), (9, .slice (some ⟨b29, 0, none⟩) D D), (10, I ((y.d : Int) - 1))]) (fun y => [(4, b4, [.pointer (some ⟨bm, 0, none⟩)], 27), (29, b29, ((List.replicate (32 * y.d) 0#8 ++ y.U.flatten).map U8), 29)]) (fun y => y.d) ⟨D, l.take (2 ^ D), [], a, cap, by rw [List.append_nil], by simp, hl.take _, (fun _ h => by simp at h), by rw [List.length_take]; omega, by rw [List.length_take]; omega, hr.take _⟩ hGF ⟨by show _ = some (Value.slice a (l.take (2 ^ D)).length cap); rw [hlt]; rfl, rfl, rfl, rfl, rfl, trivial⟩ ⟨rfl, by show _ = some (b29, (List.replicate (32 * D) 0#8 ++ [].flatten).map U8, 29); rw [List.flatten_nil, List.append_nil]; rfl, trivial⟩ ?_
    rintro ⟨d, lc, U, ac, cp, hbr, hdU, hlc, hUa, hnc, hcc, hrc⟩
    dsimp only
    refine x_seq ?_
    refine xs_plain (E := EE []) ?_
    refine lx_move rfl rfl rfl ?_
    rcases Nat.eq_zero_or_pos d with hd0 | hd0
    · skip
      subst hd0
      refine lx_binB false rfl rfl (fun _ => rfl) (fun _ => bin_geq_i _ _ _) (by rw [decide_eq_false_iff_not]; omega) rfl rfl ?_
      refine lx_nil ?_
      refine x_false rfl ?_
      refine x_exit ?_
      refine xs_plain (E := EE []) ?_
      refine lx_move rfl rfl rfl ?_
      refine lx_assign rfl rfl rfl ?_
      refine lx_nil ?_
      refine x_ret ?_
      repeat (first | refine kseq_ret ?_ | refine kblk_ret ?_)
      exact kret_tmp rfl rfl (fun w' hw' => ⟨_, rfl, hp_below hw', by rw [show brF P2 Z0 D (l.take (2 ^ D)) x0.toNat = U from hbr]; exact ⟨some ⟨b29, 0, none⟩, D, by rw [show U.length = D from hdU], own_slw (n := 29) hUa hw' rfl hdU, fun ad e => by cases e; exact (hw'.own 29 _ _ _ rfl).2.elim id False.elim⟩⟩)
    · skip
      obtain ⟨e, rfl⟩ : ∃ e, d = e + 1 := ⟨d - 1, by omega⟩
      rw [show ((e + 1 : Nat) : Int) - 1 = (e : Int) from by omega]
      have hpe := Nat.two_pow_pos e
      refine lx_binB true rfl rfl (fun _ => rfl) (fun _ => bin_geq_i _ _ _) (by rw [decide_eq_true_eq]; omega) rfl rfl ?_
      refine lx_nil ?_
      refine x_true rfl ?_
      refine x_skip ?_
      refine x_seq ?_
      refine x_block ?_
      refine xs_plain (E := EE []) ?_
      refine lx_move rfl rfl rfl ?_
      refine lx_len rfl (fun _ => len_slice Tryd.underlying22 _ _ _ _) rfl rfl ?_
      refine lx_assign rfl rfl rfl ?_
      refine lx_nil ?_
      refine x_seq ?_
      refine xs_plain (E := EE []) ?_
      refine lx_move rfl rfl rfl ?_
      refine lx_binB true rfl rfl (fun _ => rfl) (fun _ => bin_lss_i _ _ _) (by simp; omega) rfl rfl ?_
      refine lx_nil ?_
      refine x_true rfl ?_
      refine x_plain (E := EE []) ?_
      refine lx_move rfl rfl rfl ?_
      refine lx_move rfl rfl rfl ?_
      refine lx_bin (v := I (((2 ^ e : Nat) : Int))) rfl rfl (fun _ => rfl) (fun _ => shl1_i _ e (by omega) _) rfl rfl ?_
      refine lx_min (z := (((min lc.length (2 ^ e)) : Nat) : Int)) rfl rfl (by split <;> omega) rfl rfl ?_
      refine lx_assign rfl rfl rfl ?_
      refine lx_nil ?_
      refine xs_plain (E := EE []) ?_
      refine lx_move rfl rfl rfl ?_
      refine lx_move rfl rfl rfl ?_
      refine lx_bin rfl rfl (fun _ => rfl) (fun _ => bin_shr_i_u64 _ _ _ (by omega)) rfl rfl ?_
      refine lx_bin rfl rfl (fun _ => rfl) (fun _ => bin_and_u64 _ _ _) rfl rfl ?_
      cases hbit : x0.toNat.testBit e
      · skip
        refine lx_binB false rfl rfl (fun _ => rfl) (fun _ => bin_eql_u64 _ _ _) (by rw [Int.toNat_natCast, bitU]; exact hbit) rfl rfl ?_
        refine lx_nil ?_
        refine x_false rfl ?_
        refine xs_drawn (E := EE []) mixed (by kernel_rfl) (by kernel_rfl) (by kernel_rfl) ?_
        refine lx_move rfl rfl rfl ?_
        refine lx_move rfl rfl rfl ?_
        refine lx_loada 4 rfl rfl Tryd.isAgg27 Tryd.sizeOf27 rfl rfl rfl ?_
        refine lx_move rfl rfl rfl ?_
        refine lx_move rfl rfl rfl ?_
        refine lx_slsl (l := (min lc.length (2 ^ e))) (h' := lc.length) rfl Tryd.underlying22 Tryd.sizeOf29 rfl rfl ⟨by omega, by omega⟩ rfl rfl ?_
        rw [show (if cp = (min lc.length (2 ^ e)) then ac else ac.map (·.add ((min lc.length (2 ^ e)) * 32))) = cutR ac cp (min lc.length (2 ^ e)) from rfl]
        refine lx_move rfl rfl rfl ?_
        refine lx_callC rfl rfl ent21 (fun w' hw' hG => htree_calls bm e (by omega) (lc.drop (min lc.length (2 ^ e))) (hlc.drop _) _ (by rw [List.length_drop]) (by omega) (cutR ac cp (min lc.length (2 ^ e))) (cp - (min lc.length (2 ^ e))) (by omega) w' hG (ho.of_same ((hp_below hw').block _ ho.lt)) ((hrc.grow (hp_below hw')).drop (by omega) _)) rfl rfl ?_
        refine lx_isW (s := 32) e rfl rfl Tryd.underlying22 Tryd.sizeOf29 rfl (by omega) rfl rfl ?_
        refine lx_storeo 29 ((List.replicate (32 * e) 0#8 ++ (tre P2 Z0 e (lc.drop (min lc.length (2 ^ e))) ++ U.flatten)).map U8) hGF rfl rfl rfl Tryd.sizeOf29 (by rw [List.length_map]; exact tre_len (hlc.drop _) e) (one_u8 _) (by simp [tre_len (hlc.drop _) e]; omega) (lay_br (tre_len (hlc.drop _) e) _) rfl ?_
        refine lx_nil ?_
        refine x_plain (E := EE []) ?_
        refine lx_move rfl rfl rfl ?_
        refine lx_move rfl rfl rfl ?_
        refine lx_slsl (l := 0) (h' := (min lc.length (2 ^ e))) rfl Tryd.underlying22 Tryd.sizeOf29 rfl rfl ⟨Nat.zero_le _, by omega⟩ rfl rfl ?_
        rw [cutR0, Nat.sub_zero, Nat.sub_zero]
        refine lx_assign rfl rfl rfl ?_
        refine lx_nil ?_
        refine x_plain (E := EE []) ?_
        refine lx_move rfl rfl rfl ?_
        refine lx_bin (v := I (((e : Int) - 1))) rfl rfl (fun _ => rfl) (fun _ => bin_sub_i _ _ _ (by unfold inI; omega)) rfl rfl ?_
        refine lx_assign rfl rfl rfl ?_
        refine lx_nil ?_
        repeat (refine kblk_n ?_)
        refine kseq_n ?_
        exact ⟨rfl, ⟨e, (lc.take (min lc.length (2 ^ e))), tre P2 Z0 e (lc.drop (min lc.length (2 ^ e))) :: U, ac, cp, by rw [hbr, brF, hbit, cond_false, take_minR, drop_minR, List.append_assoc]; rfl, by simp; omega, hlc.take _, all_cons (tre_len (hlc.drop _) e) hUa, by rw [List.length_take]; omega, by rw [List.length_take]; omega, hrc.take _⟩, _, by show e < e + 1; omega, rfl, ⟨by show _ = some (Value.slice ac (lc.take (min lc.length (2 ^ e))).length cp); rw [show (lc.take (min lc.length (2 ^ e))).length = (min lc.length (2 ^ e)) from by rw [List.length_take]; omega]; rfl, rfl, rfl, rfl, rfl, trivial⟩, ⟨rfl, rfl, trivial⟩⟩
      · skip
        refine lx_binB true rfl rfl (fun _ => rfl) (fun _ => bin_eql_u64 _ _ _) (by rw [Int.toNat_natCast, bitU]; exact hbit) rfl rfl ?_
        refine lx_nil ?_
        refine x_true rfl ?_
        refine xs_drawn (E := EE []) mixed (by kernel_rfl) (by kernel_rfl) (by kernel_rfl) ?_
        refine lx_move rfl rfl rfl ?_
        refine lx_move rfl rfl rfl ?_
        refine lx_loada 4 rfl rfl Tryd.isAgg27 Tryd.sizeOf27 rfl rfl rfl ?_
        refine lx_move rfl rfl rfl ?_
        refine lx_move rfl rfl rfl ?_
        refine lx_slsl (l := 0) (h' := (min lc.length (2 ^ e))) rfl Tryd.underlying22 Tryd.sizeOf29 rfl rfl ⟨Nat.zero_le _, by omega⟩ rfl rfl ?_
        rw [cutR0, Nat.sub_zero, Nat.sub_zero]
        refine lx_move rfl rfl rfl ?_
        refine lx_callC rfl rfl ent21 (fun w' hw' hG => htree_calls bm e (by omega) (lc.take (min lc.length (2 ^ e))) (hlc.take _) _ (by rw [List.length_take]; omega) (by omega) ac cp (by omega) w' hG (ho.of_same ((hp_below hw').block _ ho.lt)) ((hrc.grow (hp_below hw')).take _)) rfl rfl ?_
        refine lx_isW (s := 32) e rfl rfl Tryd.underlying22 Tryd.sizeOf29 rfl (by omega) rfl rfl ?_
        refine lx_storeo 29 ((List.replicate (32 * e) 0#8 ++ (tre P2 Z0 e (lc.take (min lc.length (2 ^ e))) ++ U.flatten)).map U8) hGF rfl rfl rfl Tryd.sizeOf29 (by rw [List.length_map]; exact tre_len (hlc.take _) e) (one_u8 _) (by simp [tre_len (hlc.take _) e]; omega) (lay_br (tre_len (hlc.take _) e) _) rfl ?_
        refine lx_nil ?_
        refine x_plain (E := EE []) ?_
        refine lx_move rfl rfl rfl ?_
        refine lx_move rfl rfl rfl ?_
        refine lx_slsl (l := (min lc.length (2 ^ e))) (h' := lc.length) rfl Tryd.underlying22 Tryd.sizeOf29 rfl rfl ⟨by omega, by omega⟩ rfl rfl ?_
        rw [show (if cp = (min lc.length (2 ^ e)) then ac else ac.map (·.add ((min lc.length (2 ^ e)) * 32))) = cutR ac cp (min lc.length (2 ^ e)) from rfl]
        refine lx_assign rfl rfl rfl ?_
        refine lx_nil ?_
        refine x_plain (E := EE []) ?_
        refine lx_move rfl rfl rfl ?_
        refine lx_bin (v := I (((e : Int) - 1))) rfl rfl (fun _ => rfl) (fun _ => bin_sub_i _ _ _ (by unfold inI; omega)) rfl rfl ?_
        refine lx_assign rfl rfl rfl ?_
        refine lx_nil ?_
        repeat (refine kblk_n ?_)
        refine kseq_n ?_
        exact ⟨rfl, ⟨e, (lc.drop (min lc.length (2 ^ e))), tre P2 Z0 e (lc.take (min lc.length (2 ^ e))) :: U, cutR ac cp (min lc.length (2 ^ e)), cp - (min lc.length (2 ^ e)), by rw [hbr, brF, hbit, cond_true, take_minR, drop_minR, List.append_assoc]; rfl, by simp; omega, hlc.drop _, all_cons (tre_len (hlc.take _) e) hUa, by rw [List.length_drop]; omega, by rw [List.length_drop]; omega, hrc.drop hcc _⟩, _, by show e < e + 1; omega, rfl, ⟨by show _ = some (Value.slice (cutR ac cp (min lc.length (2 ^ e))) (lc.drop (min lc.length (2 ^ e))).length (cp - (min lc.length (2 ^ e)))); rw [List.length_drop]; rfl, rfl, rfl, rfl, rfl, trivial⟩, ⟨rfl, rfl, trivial⟩⟩
  · skip
    have hlt : (l.take (2 ^ D)).length = l.length := by rw [List.length_take]; omega
    refine lx_binB false rfl rfl (fun _ => rfl) (fun _ => bin_gtr_i _ _ _) (by rw [decide_eq_false_iff_not]; omega) rfl rfl ?_
    refine lx_pick rfl rfl rfl rfl rfl ?_
    refine lx_nil ?_
    refine x_false rfl ?_
    refine x_skip ?_
    refine xs_plain (E := EE []) ?_
    refine lx_move rfl rfl rfl ?_
    refine lx_mkslC (l := D) (m := D) (c := (List.replicate (32 * D) 0#8).map U8) 29 hGF rfl rfl (Nat.le_refl _) Tryd.underlying22 tiR ⟨by omega, by omega, by omega⟩ (madeR D) rfl rfl ?_
    intro b29
    refine lx_assign rfl rfl rfl ?_
    refine lx_nil ?_
    refine x_seq ?_
    refine xs_plain (E := EE []) ?_
    refine lx_move rfl rfl rfl ?_
    refine lx_bin (v := I (((D : Int) - 1))) rfl rfl (fun _ => rfl) (fun _ => bin_sub_i _ _ _ (by unfold inI; omega)) rfl rfl ?_
    refine lx_assign rfl rfl rfl ?_
    refine lx_nil ?_
    refine x_block ?_
    refine x_for (ι := BrV w D (l.take (2 ^ D)) x0.toNat) (fun y => [(1, .slice y.a y.lc.length y.cap), (3, U64 x0), (4, .pointer (some ⟨b4, 0, none⟩)), (9, .slice (some ⟨b29, 0, none⟩) D D), (10, I ((y.d : Int) - 1))]) (fun y => [(4, b4, [.pointer (some ⟨bm, 0, none⟩)], 27), (29, b29, ((List.replicate (32 * y.d) 0#8 ++ y.U.flatten).map U8), 29)]) (fun y => y.d) ⟨D, l.take (2 ^ D), [], a, cap, by rw [List.append_nil], by simp, hl.take _, (fun _ h => by simp at h), by rw [List.length_take]; omega, by rw [List.length_take]; omega, hr.take _⟩ hGF ⟨by show _ = some (Value.slice a (l.take (2 ^ D)).length cap); rw [hlt]; rfl, rfl, rfl, rfl, rfl, trivial⟩ ⟨rfl, by show _ = some (b29, (List.replicate (32 * D) 0#8 ++ [].flatten).map U8, 29); rw [List.flatten_nil, List.append_nil]; rfl, trivial⟩ ?_
    rintro ⟨d, lc, U, ac, cp, hbr, hdU, hlc, hUa, hnc, hcc, hrc⟩
    dsimp only
    refine x_seq ?_
    refine xs_plain (E := EE []) ?_
    refine lx_move rfl rfl rfl ?_
    rcases Nat.eq_zero_or_pos d with hd0 | hd0
    · skip
      subst hd0
      refine lx_binB false rfl rfl (fun _ => rfl) (fun _ => bin_geq_i _ _ _) (by rw [decide_eq_false_iff_not]; omega) rfl rfl ?_
      refine lx_nil ?_
      refine x_false rfl ?_
      refine x_exit ?_
      refine xs_plain (E := EE []) ?_
      refine lx_move rfl rfl rfl ?_
      refine lx_assign rfl rfl rfl ?_
      refine lx_nil ?_
      refine x_ret ?_
      repeat (first | refine kseq_ret ?_ | refine kblk_ret ?_)
      exact kret_tmp rfl rfl (fun w' hw' => ⟨_, rfl, hp_below hw', by rw [show brF P2 Z0 D (l.take (2 ^ D)) x0.toNat = U from hbr]; exact ⟨some ⟨b29, 0, none⟩, D, by rw [show U.length = D from hdU], own_slw (n := 29) hUa hw' rfl hdU, fun ad e => by cases e; exact (hw'.own 29 _ _ _ rfl).2.elim id False.elim⟩⟩)
    · skip
      obtain ⟨e, rfl⟩ : ∃ e, d = e + 1 := ⟨d - 1, by omega⟩
      rw [show ((e + 1 : Nat) : Int) - 1 = (e : Int) from by omega]
      have hpe := Nat.two_pow_pos e
      refine lx_binB true rfl rfl (fun _ => rfl) (fun _ => bin_geq_i _ _ _) (by rw [decide_eq_true_eq]; omega) rfl rfl ?_
      refine lx_nil ?_
      refine x_true rfl ?_
      refine x_skip ?_
      refine x_seq ?_
      refine x_block ?_
      refine xs_plain (E := EE []) ?_
      refine lx_move rfl rfl rfl ?_
      refine lx_len rfl (fun _ => len_slice Tryd.underlying22 _ _ _ _) rfl rfl ?_
      refine lx_assign rfl rfl rfl ?_
      refine lx_nil ?_
      refine x_seq ?_
      refine xs_plain (E := EE []) ?_
      refine lx_move rfl rfl rfl ?_
      refine lx_binB true rfl rfl (fun _ => rfl) (fun _ => bin_lss_i _ _ _) (by simp; omega) rfl rfl ?_
      refine lx_nil ?_
      refine x_true rfl ?_
      refine x_plain (E := EE []) ?_
      refine lx_move rfl rfl rfl ?_
      refine lx_move rfl rfl rfl ?_
      refine lx_bin (v := I (((2 ^ e : Nat) : Int))) rfl rfl (fun _ => rfl) (fun _ => shl1_i _ e (by omega) _) rfl rfl ?_
      refine lx_min (z := (((min lc.length (2 ^ e)) : Nat) : Int)) rfl rfl (by split <;> omega) rfl rfl ?_
      refine lx_assign rfl rfl rfl ?_
      refine lx_nil ?_
      refine xs_plain (E := EE []) ?_
      refine lx_move rfl rfl rfl ?_
      refine lx_move rfl rfl rfl ?_
      refine lx_bin rfl rfl (fun _ => rfl) (fun _ => bin_shr_i_u64 _ _ _ (by omega)) rfl rfl ?_
      refine lx_bin rfl rfl (fun _ => rfl) (fun _ => bin_and_u64 _ _ _) rfl rfl ?_
      cases hbit : x0.toNat.testBit e
      · skip
        refine lx_binB false rfl rfl (fun _ => rfl) (fun _ => bin_eql_u64 _ _ _) (by rw [Int.toNat_natCast, bitU]; exact hbit) rfl rfl ?_
        refine lx_nil ?_
        refine x_false rfl ?_
        refine xs_drawn (E := EE []) mixed (by kernel_rfl) (by kernel_rfl) (by kernel_rfl) ?_
        refine lx_move rfl rfl rfl ?_
        refine lx_move rfl rfl rfl ?_
        refine lx_loada 4 rfl rfl Tryd.isAgg27 Tryd.sizeOf27 rfl rfl rfl ?_
        refine lx_move rfl rfl rfl ?_
        refine lx_move rfl rfl rfl ?_
        refine lx_slsl (l := (min lc.length (2 ^ e))) (h' := lc.length) rfl Tryd.underlying22 Tryd.sizeOf29 rfl rfl ⟨by omega, by omega⟩ rfl rfl ?_
        rw [show (if cp = (min lc.length (2 ^ e)) then ac else ac.map (·.add ((min lc.length (2 ^ e)) * 32))) = cutR ac cp (min lc.length (2 ^ e)) from rfl]
        refine lx_move rfl rfl rfl ?_
        refine lx_callC rfl rfl ent21 (fun w' hw' hG => htree_calls bm e (by omega) (lc.drop (min lc.length (2 ^ e))) (hlc.drop _) _ (by rw [List.length_drop]) (by omega) (cutR ac cp (min lc.length (2 ^ e))) (cp - (min lc.length (2 ^ e))) (by omega) w' hG (ho.of_same ((hp_below hw').block _ ho.lt)) ((hrc.grow (hp_below hw')).drop (by omega) _)) rfl rfl ?_
        refine lx_isW (s := 32) e rfl rfl Tryd.underlying22 Tryd.sizeOf29 rfl (by omega) rfl rfl ?_
        refine lx_storeo 29 ((List.replicate (32 * e) 0#8 ++ (tre P2 Z0 e (lc.drop (min lc.length (2 ^ e))) ++ U.flatten)).map U8) hGF rfl rfl rfl Tryd.sizeOf29 (by rw [List.length_map]; exact tre_len (hlc.drop _) e) (one_u8 _) (by simp [tre_len (hlc.drop _) e]; omega) (lay_br (tre_len (hlc.drop _) e) _) rfl ?_
        refine lx_nil ?_
        refine x_plain (E := EE []) ?_
        refine lx_move rfl rfl rfl ?_
        refine lx_move rfl rfl rfl ?_
        refine lx_slsl (l := 0) (h' := (min lc.length (2 ^ e))) rfl Tryd.underlying22 Tryd.sizeOf29 rfl rfl ⟨Nat.zero_le _, by omega⟩ rfl rfl ?_
        rw [cutR0, Nat.sub_zero, Nat.sub_zero]
        refine lx_assign rfl rfl rfl ?_
        refine lx_nil ?_
        refine x_plain (E := EE []) ?_
        refine lx_move rfl rfl rfl ?_
        refine lx_bin (v := I (((e : Int) - 1))) rfl rfl (fun _ => rfl) (fun _ => bin_sub_i _ _ _ (by unfold inI; omega)) rfl rfl ?_
        refine lx_assign rfl rfl rfl ?_
        refine lx_nil ?_
        repeat (refine kblk_n ?_)
        refine kseq_n ?_
        exact ⟨rfl, ⟨e, (lc.take (min lc.length (2 ^ e))), tre P2 Z0 e (lc.drop (min lc.length (2 ^ e))) :: U, ac, cp, by rw [hbr, brF, hbit, cond_false, take_minR, drop_minR, List.append_assoc]; rfl, by simp; omega, hlc.take _, all_cons (tre_len (hlc.drop _) e) hUa, by rw [List.length_take]; omega, by rw [List.length_take]; omega, hrc.take _⟩, _, by show e < e + 1; omega, rfl, ⟨by show _ = some (Value.slice ac (lc.take (min lc.length (2 ^ e))).length cp); rw [show (lc.take (min lc.length (2 ^ e))).length = (min lc.length (2 ^ e)) from by rw [List.length_take]; omega]; rfl, rfl, rfl, rfl, rfl, trivial⟩, ⟨rfl, rfl, trivial⟩⟩
      · skip
        refine lx_binB true rfl rfl (fun _ => rfl) (fun _ => bin_eql_u64 _ _ _) (by rw [Int.toNat_natCast, bitU]; exact hbit) rfl rfl ?_
        refine lx_nil ?_
        refine x_true rfl ?_
        refine xs_drawn (E := EE []) mixed (by kernel_rfl) (by kernel_rfl) (by kernel_rfl) ?_
        refine lx_move rfl rfl rfl ?_
        refine lx_move rfl rfl rfl ?_
        refine lx_loada 4 rfl rfl Tryd.isAgg27 Tryd.sizeOf27 rfl rfl rfl ?_
        refine lx_move rfl rfl rfl ?_
        refine lx_move rfl rfl rfl ?_
        refine lx_slsl (l := 0) (h' := (min lc.length (2 ^ e))) rfl Tryd.underlying22 Tryd.sizeOf29 rfl rfl ⟨Nat.zero_le _, by omega⟩ rfl rfl ?_
        rw [cutR0, Nat.sub_zero, Nat.sub_zero]
        refine lx_move rfl rfl rfl ?_
        refine lx_callC rfl rfl ent21 (fun w' hw' hG => htree_calls bm e (by omega) (lc.take (min lc.length (2 ^ e))) (hlc.take _) _ (by rw [List.length_take]; omega) (by omega) ac cp (by omega) w' hG (ho.of_same ((hp_below hw').block _ ho.lt)) ((hrc.grow (hp_below hw')).take _)) rfl rfl ?_
        refine lx_isW (s := 32) e rfl rfl Tryd.underlying22 Tryd.sizeOf29 rfl (by omega) rfl rfl ?_
        refine lx_storeo 29 ((List.replicate (32 * e) 0#8 ++ (tre P2 Z0 e (lc.take (min lc.length (2 ^ e))) ++ U.flatten)).map U8) hGF rfl rfl rfl Tryd.sizeOf29 (by rw [List.length_map]; exact tre_len (hlc.take _) e) (one_u8 _) (by simp [tre_len (hlc.take _) e]; omega) (lay_br (tre_len (hlc.take _) e) _) rfl ?_
        refine lx_nil ?_
        refine x_plain (E := EE []) ?_
        refine lx_move rfl rfl rfl ?_
        refine lx_move rfl rfl rfl ?_
        refine lx_slsl (l := (min lc.length (2 ^ e))) (h' := lc.length) rfl Tryd.underlying22 Tryd.sizeOf29 rfl rfl ⟨by omega, by omega⟩ rfl rfl ?_
        rw [show (if cp = (min lc.length (2 ^ e)) then ac else ac.map (·.add ((min lc.length (2 ^ e)) * 32))) = cutR ac cp (min lc.length (2 ^ e)) from rfl]
        refine lx_assign rfl rfl rfl ?_
        refine lx_nil ?_
        refine x_plain (E := EE []) ?_
        refine lx_move rfl rfl rfl ?_
        refine lx_bin (v := I (((e : Int) - 1))) rfl rfl (fun _ => rfl) (fun _ => bin_sub_i _ _ _ (by unfold inI; omega)) rfl rfl ?_
        refine lx_assign rfl rfl rfl ?_
        refine lx_nil ?_
        repeat (refine kblk_n ?_)
        refine kseq_n ?_
        exact ⟨rfl, ⟨e, (lc.drop (min lc.length (2 ^ e))), tre P2 Z0 e (lc.take (min lc.length (2 ^ e))) :: U, cutR ac cp (min lc.length (2 ^ e)), cp - (min lc.length (2 ^ e)), by rw [hbr, brF, hbit, cond_true, take_minR, drop_minR, List.append_assoc]; rfl, by simp; omega, hlc.drop _, all_cons (tre_len (hlc.take _) e) hUa, by rw [List.length_drop]; omega, by rw [List.length_drop]; omega, hrc.drop hcc _⟩, _, by show e < e + 1; omega, rfl, ⟨by show _ = some (Value.slice (cutR ac cp (min lc.length (2 ^ e))) (lc.drop (min lc.length (2 ^ e))).length (cp - (min lc.length (2 ^ e)))); rw [List.length_drop]; rfl, rfl, rfl, rfl, rfl, trivial⟩, ⟨rfl, rfl, trivial⟩⟩
end Go.Proofs.YtfnnbaoilldpaaaDoor
