/-
  The program's points.
-/
import Derived.Test.YtmpcccpnblfloaaGreatDoorT1
import Derived.Test.YtmpcccpnblfloaaGreatDoorX5
import Derived.Test.YtmpcccpnblfloaaGreatDoorX4
import Derived.Test.YtmpcccpnblfloaaGreatDoorX3
namespace Go.Proofs.YtmpcccpnblfloaaGreatDoor
open Go.RowKit
set_option maxRecDepth 100000
set_option maxHeartbeats 1000000
attribute [local simp] fe_len nm_len AS_len SS_len MONT_len RM_len FRs_len BYs_len by48_len PLl TWOl ONEl N1l IVPl HFPl RTPl FL_len SP_len fe2_len SP2_len FM_len
attribute [local simp] GL_len

theorem ent102 : Enters Tryz.prog 102 := fun _ _ => by kernel_rfl
/-- Is the bit set? the highest is the first. -/
def pb (bs : List (BitVec 8)) (m : Nat) : Bool := decide (pbit bs m = 1#8)
abbrev oB (bs : List (BitVec 8)) (m : Nat) : List Nat := oL (pb bs) (8 * bs.length) m
/-- The places as values. -/
def NLs (l : List Nat) : List (List Value) := l.map fun n : Nat => [I (n : Int)]
theorem NLs_len (l : List Nat) : (NLs l).length = l.length := by simp [NLs]
theorem pb_at (bs : List (BitVec 8)) (i j : Nat) (hj : j < 8) : bs.getD i 0 >>> (7 - j) &&& 1#8 = pbit bs (8 * i + j) := by
  rw [pbit, show (8 * i + j) / 8 = i by omega, show (8 * i + j) % 8 = j by omega]
theorem pb_y {bs : List (BitVec 8)} {m : Nat} (h : pbit bs m = 1#8) : pb bs m = true := decide_eq_true h
theorem pb_n {bs : List (BitVec 8)} {m : Nat} (h : ¬ pbit bs m = 1#8) : ¬ pb bs m = true := fun e => h (of_decide_eq_true e)
theorem oB_at {bs : List (BitVec 8)} {m : Nat} (hm : m < 8 * bs.length) (h : pbit bs m = 1#8) : (NLs (oB bs (8 * bs.length)))[(oB bs m).length]? = some [I ((8 * bs.length - 1 - m : Nat) : Int)] := by
  rw [NLs, List.getElem?_map, oL_at hm (pb_y h)]
  rfl
theorem oB_y {bs : List (BitVec 8)} {m : Nat} (h : pbit bs m = 1#8) : (oB bs (m + 1)).length = (oB bs m).length + 1 := oL_ly (pb_y h)
theorem oB_n {bs : List (BitVec 8)} {m : Nat} (h : ¬ pbit bs m = 1#8) : (oB bs (m + 1)).length = (oB bs m).length := oL_ln (pb_n h)
theorem vN_B (bs : List (BitVec 8)) : ∀ m, vN (pb bs) m = BTn bs m
  | 0 => rfl
  | m + 1 => by
    rw [vN, vN_B bs m, BTn]
    rcases bit_one bs m with ⟨h, e⟩ | ⟨h, e⟩
    · rw [if_pos (pb_y h), e]
    · rw [if_neg (pb_n h), e]
theorem oB_sum (bs : List (BitVec 8)) : SOg (oB bs (8 * bs.length)) = BN bs bs.length := by rw [oL_all, vN_B, BTn_eight]
theorem RdD_grow {bb : Nat} {e : Option Addr} {cap : Nat} {bs : List (BitVec 8)} {w w' : World} (h : RdD bb e cap bs w) (hg : Grow w w') : RdD bb e cap bs w' := ⟨(hg.cell (block_lt_of_cell h.1)).trans h.1, h.2.grow hg⟩
theorem g1bits_calls (sv : Value) (hs : sv.cells = #[sv]) (w : World) (hw : Gt w) : Calls Tryz.prog 64 [sv].toArray w (fun e w' => ∃ b1, e = .returned (.func (.func 102) #[] #[.pointer (some ⟨b1, 0, none⟩)]) ∧ Grow w w' ∧ w.heap.size ≤ b1 ∧ OwnB w' b1 [sv] 22) := by
  have hGF : BOk Gt (pl w) := gt_low.plain hw
  refine calls_of_X (G := Gt) Tryz.func64 rfl rfl (Hp (pl w) []) (hp_refl (pl w) trivial rides_true) (good_hp hGF) ?_
  refine xs_plain (E := EE []) ?_
  refine lx_box 1 hGF rfl rfl rfl ?_
  intro b1
  refine lx_assign rfl rfl rfl ?_
  refine lx_nil ?_
  refine xs_plain (E := EE []) ?_
  refine lx_func rfl rfl rfl rfl ?_
  refine lx_assign rfl rfl rfl ?_
  refine lx_nil ?_
  refine x_ret ?_
  repeat (first | refine kseq_ret ?_ | refine kblk_ret ?_)
  exact kret_tmp rfl rfl (fun w hw => ⟨b1, rfl, hp_below hw, (hw.own 1 b1 _ _ rfl).2.elim id False.elim, (by have := (hw.own 1 b1 _ _ rfl).1; rw [hs] at this; exact this)⟩)
theorem g1bits_seq (bb : Nat) (e : Option Addr) (cap : Nat) (bs : List (BitVec 8)) (hlen : bs.length ≤ 1000000) : SeqOk Tryz.prog Gt 102 [.pointer (some ⟨bb, 0, none⟩)] (NLs (oB bs (8 * bs.length))) (RdD bb e cap bs) := by
  intro l J Jx hJ hJx hRd hGx hY w hj
  have okJ : ∀ k, BOk Gt (Bi w (fun Y => J Y k)) := fun k => ⟨fun _ _ _ h => (hRd _ _ _ h.rid).1, hJ k⟩
  have okX : ∀ k, BOk Gt (Bi w (fun Y => Jx Y k)) := fun k => ⟨fun _ _ _ h => hGx _ _ _ h.rid, hJx k⟩
  have c1 : ∀ k L w', Hp (Bi w (fun Y => J Y k)) L w' → RdD bb e cap bs w' := fun k L w' h => (hRd _ _ _ h.rid).2
  have hby := (hRd _ _ _ hj).2.2
  refine calls_of_X (G := Gt) Tryz.func102 rfl rfl (Hp (Bi w (fun Y => J Y 0)) []) (hp_refl (Bi w _) hj (hJ 0)) (good_hp (okJ 0)) ?_
  refine xs_plain (E := EE []) ?_
  refine lx_load rfl Tryz.isAgg22 (fun w h => (c1 _ _ w h).1) rfl rfl ?_
  refine lx_len rfl (fun _ => len_slice Tryz.underlying22 _ _ _ _) rfl rfl ?_
  refine lx_move rfl rfl rfl ?_
  refine lx_nil ?_
  refine x_block ?_
  refine x_forB (ι := { i : Nat // i ≤ bs.length }) (fun x => [(0, .func (.yield l) #[] #[]), (1, .pointer (some ⟨bb, 0, none⟩)), (6, .slice e bs.length cap), (7, I (bs.length : Int)), (8, I (x.1 : Int))]) (fun x => Bi w (fun Y => J Y (oB bs (8 * x.1)).length)) (fun x => []) (fun x => bs.length - x.1) ⟨0, Nat.zero_le _⟩ (fun _ => okJ _) rfl ⟨rfl, rfl, rfl, rfl, rfl, trivial⟩ trivial ?_
  rintro ⟨i, hi⟩
  dsimp only
  refine xs_plain (E := EE []) ?_
  refine lx_bin rfl rfl (fun _ => rfl) (fun _ => bin_lss_i _ _ _) rfl rfl ?_
  refine lx_nil ?_
  refine x_seq ?_
  refine x_if rfl (fun hc => ?_) (fun hc => ?_)
  · have hi2 : i < bs.length := by simp at hc; omega
    refine x_skip ?_
    refine x_seq ?_
    refine x_block ?_
    refine xs_plain (E := EE []) ?_
    refine lx_move rfl rfl rfl ?_
    obtain ⟨ad, rfl, _⟩ := hby i _ (gm U8 bs 0 i (by omega))
    refine lx_isA i rfl rfl Tryz.underlying22 Tryz.sizeOf5 rfl (by omega) rfl rfl ?_
    refine lx_load rfl Tryz.isAgg5 (fun w' h => by obtain ⟨ad', e', hc'⟩ := (c1 _ _ w' h).2 i _ (gm U8 bs 0 i (by omega)); cases e'; exact hc') rfl rfl ?_
    refine lx_assign rfl rfl rfl ?_
    refine lx_assign rfl rfl rfl ?_
    refine lx_nil ?_
    refine xs_plain (E := EE []) ?_
    refine lx_assign rfl rfl rfl ?_
    refine lx_nil ?_
    refine x_block ?_
    refine x_forB (ι := { j : Nat // j ≤ 8 }) (fun x => [(0, .func (.yield l) #[] #[]), (1, .pointer (some ⟨bb, 0, none⟩)), (6, .slice (some ad) bs.length cap), (7, I (bs.length : Int)), (8, I (i : Int)), (3, I (i : Int)), (4, U8 (bs.getD i 0)), (5, I (7 - (x.1 : Int)))]) (fun x => Bi w (fun Y => J Y (oB bs (8 * i + x.1)).length)) (fun x => []) (fun x => 8 - x.1) ⟨0, Nat.zero_le _⟩ (fun _ => okJ _) rfl ⟨rfl, rfl, rfl, rfl, rfl, rfl, rfl, rfl, trivial⟩ trivial ?_
    rintro ⟨j, hj⟩
    dsimp only
    by_cases h1 : pbit bs (8 * i + j) = 1#8
    · skip
      refine x_seq ?_
      refine xs_plain (E := EE []) ?_
      refine lx_move rfl rfl rfl ?_
      refine lx_bin (v := .bool (decide (j < 8))) rfl rfl (fun _ => rfl) (fun _ => (bin_geq_i _ _ _).trans (by rw [show decide ((7 - (j : Int)) ≥ 0) = decide (j < 8) from decide_eq_decide.2 (by omega)])) rfl rfl ?_
      refine lx_nil ?_
      refine x_if rfl (fun hc => ?_) (fun hc => ?_)
      · have hj2 : j < 8 := by simpa using hc
        refine x_skip ?_
        refine x_seq ?_
        refine x_block ?_
        refine xs_plain (E := EE []) ?_
        refine lx_move rfl rfl rfl ?_
        refine lx_move rfl rfl rfl ?_
        refine lx_bin (v := U8 (bs.getD i 0 >>> (7 - j))) rfl rfl (fun _ => rfl) (fun _ => (bin_shr_i_u8 _ _ _ (by omega)).trans (by rw [show (7 - (j : Int)).toNat = 7 - j by omega])) rfl rfl ?_
        refine lx_bin (v := U8 (pbit bs (8 * i + j))) rfl rfl (fun _ => rfl) (fun _ => (bin_and_u8 _ _ 1#8).trans (by rw [pb_at bs i j hj2])) rfl rfl ?_
        refine lx_bin (v := .bool true) rfl rfl (fun _ => rfl) (fun w => (bin_eql_u8 _ _ _).trans (congrArg (fun b => Result.ok (Value.bool b) w) (beq_iff_eq.2 h1))) rfl rfl ?_
        refine lx_move rfl rfl rfl ?_
        refine lx_move rfl rfl rfl ?_
        refine lx_load rfl Tryz.isAgg22 (fun w h => (c1 _ _ w h).1) rfl rfl ?_
        refine lx_len rfl (fun _ => len_slice Tryz.underlying22 _ _ _ _) rfl rfl ?_
        refine lx_bin (v := I ((bs.length : Int) - 1)) rfl rfl (fun _ => rfl) (fun _ => bin_sub_i _ _ _ (by unfold inI; omega)) rfl rfl ?_
        refine lx_move rfl rfl rfl ?_
        refine lx_bin (v := I ((bs.length - 1 - i : Nat) : Int)) rfl rfl (fun _ => rfl) (fun _ => (bin_sub_i _ _ _ (by unfold inI; omega)).trans (by rw [show (bs.length : Int) - 1 - (i : Int) = ((bs.length - 1 - i : Nat) : Int) by omega])) rfl rfl ?_
        refine lx_bin (v := I ((8 * (bs.length - 1 - i) : Nat) : Int)) rfl rfl (fun _ => rfl) (fun _ => (bin_mul_i _ _ _ (by unfold inI; omega)).trans (by rw [show (8 : Int) * ((bs.length - 1 - i : Nat) : Int) = ((8 * (bs.length - 1 - i) : Nat) : Int) by omega])) rfl rfl ?_
        refine lx_move rfl rfl rfl ?_
        refine lx_bin (v := I ((8 * bs.length - 1 - (8 * i + j) : Nat) : Int)) rfl rfl (fun _ => rfl) (fun _ => (bin_add_i _ _ _ (by unfold inI; omega)).trans (by rw [show ((8 * (bs.length - 1 - i) : Nat) : Int) + (7 - (j : Int)) = ((8 * bs.length - 1 - (8 * i + j) : Nat) : Int) by omega])) rfl rfl ?_
        refine lx_yield (hY.b (k := (oB bs (8 * i + j)).length) (oB_at (by omega) h1) w) (okJ _) (okX _) rfl rfl rfl rfl rfl ?_ ?_
        · skip
          refine lx_un rfl (fun _ => un_not _) rfl rfl ?_
          refine lx_pick rfl rfl rfl rfl rfl ?_
          refine lx_nil ?_
          refine x_false rfl ?_
          refine x_skip ?_
          refine x_plain (E := EE []) ?_
          refine lx_move rfl rfl rfl ?_
          refine lx_bin (v := I (7 - ((j + 1 : Nat) : Int))) rfl rfl (fun _ => rfl) (fun _ => (bin_sub_i _ _ _ (by unfold inI; omega)).trans (by rw [show 7 - (j : Int) - 1 = 7 - ((j + 1 : Nat) : Int) by omega])) rfl rfl ?_
          refine lx_assign rfl rfl rfl ?_
          refine lx_nil ?_
          repeat (refine kblk_n ?_)
          refine kseq_n ?_
          rw [← oB_y h1]
          exact ⟨rfl, ⟨j + 1, by omega⟩, _, by show 8 - (j + 1) < 8 - j; omega, rfl, ⟨rfl, rfl, rfl, rfl, rfl, rfl, rfl, rfl, trivial⟩, trivial⟩
        · skip
          refine lx_un rfl (fun _ => un_not _) rfl rfl ?_
          refine lx_pick rfl rfl rfl rfl rfl ?_
          refine lx_nil ?_
          refine x_true rfl ?_
          refine x_ret ?_
          repeat (first | refine kseq_ret ?_ | refine kblk_ret ?_)
          repeat (first | refine kseq_x ?_ | refine kblk_x ?_ | refine kblk_p rfl ?_ | refine kseq_ret ?_ | refine kblk_ret ?_)
          exact kret_none rfl (fun w hw => ⟨⟨_, rfl⟩, .inr ⟨_, drop_yof (hJx _) hw.rid⟩⟩)
      · obtain rfl : j = 8 := by simp at hc; omega
        refine x_exit ?_
        refine x_plain (E := EE []) ?_
        refine lx_bin rfl rfl (fun _ => rfl) (fun _ => bin_add_i _ _ _ (by unfold inI; omega)) rfl rfl ?_
        refine lx_move rfl rfl rfl ?_
        refine lx_nil ?_
        repeat (refine kblk_n ?_)
        refine kseq_n ?_
        exact ⟨rfl, ⟨i + 1, by omega⟩, _, by show bs.length - (i + 1) < bs.length - i; omega, rfl, ⟨rfl, rfl, rfl, rfl, rfl, trivial⟩, trivial⟩
    · skip
      refine x_seq ?_
      refine xs_plain (E := EE [3000000]) ?_
      refine lx_move rfl rfl rfl ?_
      refine lx_bin (v := .bool (decide (j < 8))) rfl rfl (fun _ => rfl) (fun _ => (bin_geq_i _ _ _).trans (by rw [show decide ((7 - (j : Int)) ≥ 0) = decide (j < 8) from decide_eq_decide.2 (by omega)])) rfl rfl ?_
      refine lx_nil ?_
      refine x_if rfl (fun hc => ?_) (fun hc => ?_)
      · have hj2 : j < 8 := by simpa using hc
        refine x_skip ?_
        refine x_seq ?_
        refine x_block ?_
        refine xs_plain (E := EE [3000000]) ?_
        refine lx_move rfl rfl rfl ?_
        refine lx_move rfl rfl rfl ?_
        refine lx_bin (v := U8 (bs.getD i 0 >>> (7 - j))) rfl rfl (fun _ => rfl) (fun _ => (bin_shr_i_u8 _ _ _ (by omega)).trans (by rw [show (7 - (j : Int)).toNat = 7 - j by omega])) rfl rfl ?_
        refine lx_bin (v := U8 (pbit bs (8 * i + j))) rfl rfl (fun _ => rfl) (fun _ => (bin_and_u8 _ _ 1#8).trans (by rw [pb_at bs i j hj2])) rfl rfl ?_
        refine lx_bin (v := .bool false) rfl rfl (fun _ => rfl) (fun w => (bin_eql_u8 _ _ _).trans (congrArg (fun b => Result.ok (Value.bool b) w) (beq_eq_false_iff_ne.2 h1))) rfl rfl ?_
        refine lx_move rfl rfl rfl ?_
        refine lx_skip rfl rfl rfl ?_
        refine lx_skip rfl rfl rfl ?_
        refine lx_skip rfl rfl rfl ?_
        refine lx_skip rfl rfl rfl ?_
        refine lx_skip rfl rfl rfl ?_
        refine lx_skip rfl rfl rfl ?_
        refine lx_skip rfl rfl rfl ?_
        refine lx_skip rfl rfl rfl ?_
        refine lx_skip rfl rfl rfl ?_
        refine lx_skip rfl rfl rfl ?_
        refine lx_skip rfl rfl rfl ?_
        refine lx_pick rfl rfl rfl rfl rfl ?_
        refine lx_nil ?_
        refine x_false rfl ?_
        refine x_skip ?_
        refine x_plain (E := EE [3000000]) ?_
        refine lx_move rfl rfl rfl ?_
        refine lx_bin (v := I (7 - ((j + 1 : Nat) : Int))) rfl rfl (fun _ => rfl) (fun _ => (bin_sub_i _ _ _ (by unfold inI; omega)).trans (by rw [show 7 - (j : Int) - 1 = 7 - ((j + 1 : Nat) : Int) by omega])) rfl rfl ?_
        refine lx_assign rfl rfl rfl ?_
        refine lx_nil ?_
        repeat (refine kblk_n ?_)
        refine kseq_n ?_
        rw [← oB_n h1]
        exact ⟨rfl, ⟨j + 1, by omega⟩, _, by show 8 - (j + 1) < 8 - j; omega, rfl, ⟨rfl, rfl, rfl, rfl, rfl, rfl, rfl, rfl, trivial⟩, trivial⟩
      · obtain rfl : j = 8 := by simp at hc; omega
        refine x_exit ?_
        refine x_plain (E := EE [3000000]) ?_
        refine lx_bin rfl rfl (fun _ => rfl) (fun _ => bin_add_i _ _ _ (by unfold inI; omega)) rfl rfl ?_
        refine lx_move rfl rfl rfl ?_
        refine lx_nil ?_
        repeat (refine kblk_n ?_)
        refine kseq_n ?_
        exact ⟨rfl, ⟨i + 1, by omega⟩, _, by show bs.length - (i + 1) < bs.length - i; omega, rfl, ⟨rfl, rfl, rfl, rfl, rfl, trivial⟩, trivial⟩
  · obtain rfl : i = bs.length := by simp at hc; omega
    refine x_exit ?_
    repeat (first | refine kseq_x ?_ | refine kblk_x ?_ | refine kblk_p rfl ?_ | refine kseq_ret ?_ | refine kblk_ret ?_)
    refine kend_none rfl (fun w hw => ⟨⟨_, rfl⟩, .inl ?_⟩)
    have := drop_yof (hJ _) hw.rid
    rw [NLs_len]
    exact this
def dbN (x : Zp × Zp × Zp) : Nat → Zp × Zp × Zp
  | 0 => x
  | n + 1 => dbF (dbN x n)
theorem dbN_jr {x : Zp × Zp × Zp} {P : Pt Zp} (hP : E1.onP P) {q : Nat} (hx : E1.jr x (E1.times P q)) : ∀ n, E1.jr (dbN x n) (E1.times P (q * 2 ^ n))
  | 0 => by rw [Nat.pow_zero, Nat.mul_one]; exact hx
  | n + 1 => by
    have hd := dbF_jr (E1.times_on hP _) (dbN_jr hP hx n)
    rw [E1.dbl_times hP, Nat.mul_left_comm, ← Nat.pow_succ'] at hd
    exact hd
theorem jdoubled (x : Zp × Zp × Zp) (n : Int) (hn : n ≤ 1000000000) : Pure Tryz.prog Gt 101 [JV x, I n] (JV (dbN x n.toNat)) := by
  intro w hw
  have hGF : BOk Gt (pl w) := gt_low.plain hw
  refine calls_of_X (G := Gt) Tryz.func101 rfl rfl (Hp (pl w) []) (hp_refl (pl w) trivial rides_true) (good_hp hGF) ?_
  refine xs_plain (E := EE []) ?_
  refine lx_boxr 2 hGF rfl rfl rfl ?_
  intro b2
  refine lx_allocr 4 hGF zj31 rfl rfl ?_
  intro b4
  refine lx_nil ?_
  refine x_seq ?_
  refine xs_plain (E := EE []) ?_
  refine lx_move rfl rfl rfl ?_
  refine lx_move rfl rfl rfl ?_
  refine lx_nil ?_
  refine x_block ?_
  refine x_for (ι := { i : Nat // i ≤ n.toNat }) (fun y => [(2, .pointer (some ⟨b2, 0, none⟩)), (4, .pointer (some ⟨b4, 0, none⟩)), (5, I n), (6, I (y.1 : Int))]) (fun y => [(2, b2, (fe ((dbN x y.1).1) ++ (fe ((dbN x y.1).2.1) ++ fe ((dbN x y.1).2.2))).map U64, 31), (4, b4, (fe 0 ++ (fe 0 ++ fe 0)).map U64, 31)]) (fun y => n.toNat - y.1) ⟨0, Nat.zero_le _⟩ hGF ⟨rfl, rfl, rfl, rfl, trivial⟩ ⟨rfl, rfl, trivial⟩ ?_
  rintro ⟨i, hi⟩
  dsimp only
  refine xs_plain (E := EE []) ?_
  refine lx_bin (v := .bool (decide ((i : Int) < n))) rfl rfl (fun _ => rfl) (fun _ => bin_lss_i _ _ _) rfl rfl ?_
  refine lx_nil ?_
  refine x_seq ?_
  refine x_if rfl (fun hc => ?_) (fun hc => ?_)
  · have hi2 : i < n.toNat := by simp at hc; omega
    refine x_skip ?_
    refine x_seq ?_
    refine x_block ?_
    refine x_plain (E := EE []) ?_
    refine lx_loada 2 rfl rfl Tryz.isAgg31 Tryz.sizeOf31 (by simp) rfl rfl ?_
    refine lx_call rfl rfl ent25 (jdbl (dbN x i)) rfl rfl ?_
    refine lx_storea 2 hGF rfl rfl rfl Tryz.sizeOf31 (by simp) (by simp) (one_u64 _) rfl ?_
    refine lx_nil ?_
    refine x_plain (E := EE []) ?_
    refine lx_bin rfl rfl (fun _ => rfl) (fun _ => bin_add_i _ _ _ (by unfold inI; omega)) rfl rfl ?_
    refine lx_move rfl rfl rfl ?_
    refine lx_nil ?_
    repeat (refine kblk_n ?_)
    refine kseq_n ?_
    exact ⟨rfl, ⟨i + 1, by omega⟩, _, by show n.toNat - (i + 1) < n.toNat - i; omega, rfl, ⟨rfl, rfl, rfl, rfl, trivial⟩, ⟨rfl, rfl, trivial⟩⟩
  · obtain rfl : i = n.toNat := by simp at hc; omega
    refine x_exit ?_
    refine xs_plain (E := EE []) ?_
    refine lx_loada 2 rfl rfl Tryz.isAgg31 Tryz.sizeOf31 (by simp) rfl rfl ?_
    refine lx_storea 4 hGF rfl rfl rfl Tryz.sizeOf31 (by simp) (by simp) (one_u64 _) rfl ?_
    refine lx_nil ?_
    refine x_ret ?_
    repeat (first | refine kseq_ret ?_ | refine kblk_ret ?_)
    exact kret_own 4 rfl rfl rfl Tryz.isAgg31 Tryz.sizeOf31 (by simp) (fun w hw => ⟨rfl, hp_below hw⟩)
theorem jdbN (x : Zp × Zp × Zp) (a : Nat) (ha : a < 100000000) : Pure Tryz.prog Gt 101 [JV x, I (a : Int)] (JV (dbN x a)) := by
  have h := jdoubled x (a : Int) (by omega)
  rw [Int.toNat_natCast] at h
  exact h
theorem jdbS (x : Zp × Zp × Zp) (a b : Nat) (ha : a < 100000000) : Pure Tryz.prog Gt 101 [JV x, I ((a : Int) - (b : Int))] (JV (dbN x (a - b))) := by
  have h := jdoubled x ((a : Int) - (b : Int)) (by omega)
  rw [Int.toNat_sub] at h
  exact h
/-- A bit more: its place, and what is summed up to it. -/
def stp (x : Zp × Zp × Zp) (A : (Zp × Zp × Zp) × Nat) (b : Nat) : (Zp × Zp × Zp) × Nat := (adF (dbN A.1 (A.2 - b)) x, b)
def stK (x : Zp × Zp × Zp) (L : List Nat) (k : Nat) : (Zp × Zp × Zp) × Nat := (L.take k).foldl (stp x) ((0, 0, 0), 0)
theorem stK_step (x : Zp × Zp × Zp) {L : List Nat} {k n : Nat} (h : L[k]? = some n) : stK x L (k + 1) = stp x (stK x L k) n := by
  rw [stK, List.take_add_one, h, List.foldl_append]
  rfl
theorem stK_1 (x : Zp × Zp × Zp) {L : List Nat} {k n : Nat} (h : L[k]? = some n) : (stK x L (k + 1)).1 = adF (dbN (stK x L k).1 ((stK x L k).2 - n)) x := by rw [stK_step x h]; rfl
theorem stK_2 (x : Zp × Zp × Zp) {L : List Nat} {k n : Nat} (h : L[k]? = some n) : (stK x L (k + 1)).2 = n := by rw [stK_step x h]; rfl
theorem stK_lt (x : Zp × Zp × Zp) {L : List Nat} {B : Nat} (h0 : 0 < B) (hL : ∀ b ∈ L, b < B) : ∀ k, k ≤ L.length → (stK x L k).2 < B
  | 0, _ => h0
  | k + 1, hk => by
    obtain ⟨n, hn⟩ : ∃ n, L[k]? = some n := ⟨L[k]'(by omega), List.getElem?_eq_getElem (by omega)⟩
    rw [stK_2 x hn]
    exact hL n (List.mem_of_getElem? hn)
/-- So many times as the places say. -/
def tmF (x : Zp × Zp × Zp) (L : List Nat) : Zp × Zp × Zp := dbN (stK x L L.length).1 (stK x L L.length).2
theorem stp_jr {x : Zp × Zp × Zp} {P : Pt Zp} (hP : E1.onP P) (hx : E1.jr x P) : ∀ (L : List Nat) (A : (Zp × Zp × Zp) × Nat) (q : Nat), L.Pairwise (fun a b => b ≤ a) → E1.jr A.1 (E1.times P q) → (q = 0 ∨ ∀ b ∈ L, b ≤ A.2) → ∃ q', E1.jr (L.foldl (stp x) A).1 (E1.times P q') ∧ q' * 2 ^ (L.foldl (stp x) A).2 = q * 2 ^ A.2 + SOg L
  | [], A, q, _, hA, _ => ⟨q, hA, rfl⟩
  | b :: L, A, q, hp, hA, hq => by
    rw [List.pairwise_cons] at hp
    have hd := dbN_jr hP hA (A.2 - b)
    have ha := adF_jr (E1.times_on hP _) hP hd hx
    obtain ⟨q', h1, h2⟩ := stp_jr hP hx L (stp x A b) (q * 2 ^ (A.2 - b) + 1) hp.2 ha (.inr hp.1)
    refine ⟨q', h1, h2.trans ?_⟩
    show (q * 2 ^ (A.2 - b) + 1) * 2 ^ b + SOg L = q * 2 ^ A.2 + (2 ^ b + SOg L)
    rcases hq with rfl | hq
    · rw [Nat.zero_mul, Nat.zero_mul]; omega
    · have hb := hq b List.mem_cons_self
      rw [Nat.add_mul, Nat.mul_assoc, ← Nat.pow_add, show A.2 - b + b = A.2 from by omega]
      omega
theorem tmF_jr {x : Zp × Zp × Zp} {P : Pt Zp} (hP : E1.onP P) (hx : E1.jr x P) {L : List Nat} (hL : L.Pairwise (fun a b => b ≤ a)) : E1.jr (tmF x L) (E1.times P (SOg L)) := by
  obtain ⟨q, h1, h2⟩ := stp_jr hP hx L ((0, 0, 0), 0) 0 hL rfl (.inl rfl)
  have e : stK x L L.length = L.foldl (stp x) ((0, 0, 0), 0) := by rw [stK, List.take_length]
  rw [Nat.zero_mul, Nat.zero_add] at h2
  have h := dbN_jr hP h1 (L.foldl (stp x) ((0, 0, 0), 0)).2
  rw [h2] at h
  rw [tmF, e]
  exact h
theorem NLs_get {L : List Nat} {k : Nat} {v : List Value} (h : (NLs L)[k]? = some v) : ∃ n : Nat, L[k]? = some n ∧ [I (n : Int)] = v := by
  rw [NLs, List.getElem?_map] at h
  cases e : L[k]? with
  | none => rw [e] at h; cases h
  | some y => rw [e] at h; exact ⟨y, rfl, Option.some.inj h⟩
theorem jtimes_calls (x : Zp × Zp × Zp) (gf : Nat) (caps : List Value) (L : List Nat) (Rd : Cls) (he : Enters Tryz.prog gf) (hseq : SeqOk Tryz.prog Gt gf caps (NLs L) Rd) (hL : ∀ b ∈ L, b < 100000000) (w : World) (hw : Gt w) (hRs : ∀ w', Grow w w' → Rd w') :
    Calls Tryz.prog 63 [JV x, .func (.func gf) #[] caps.toArray].toArray w (fun r w' => r = .returned (JV (tmF x L)) ∧ Grow w w') := by
  have hGF : BOk Gt (pl w) := gt_low.plain hw
  refine calls_of_XM (G := Gt) Tryz.func63 rfl rfl (Hp (pl w) []) (hp_refl (pl w) trivial rides_true) (good_hp hGF) ?_
  refine xs_plain (E := EE []) ?_
  refine lx_boxr 2 hGF rfl rfl rfl ?_
  intro b2
  refine lx_allocr 4 hGF zj31 rfl rfl ?_
  intro b4
  refine lx_nil ?_
  refine xs_plain (E := EE []) ?_
  refine lx_allocr 5 hGF zj31 rfl rfl ?_
  intro b5
  refine lx_nil ?_
  refine xs_plain (E := EE []) ?_
  refine lx_alloc 6 hGF Tryz.zeroValue3 rfl rfl ?_
  intro b6
  refine lx_store 6 hGF rfl rfl rfl Tryz.sizeOf3 rfl (by first | decide | simp) rfl ?_
  refine lx_nil ?_
  refine x_seq ?_
  refine xs_plain (E := EE []) ?_
  refine lx_move rfl rfl rfl ?_
  refine lx_nil ?_
  refine x_block ?_
  refine x_range (fun _ => pl w) (fun _ _ => pl w) (fun _ => hGF) (fun _ _ => hGF) (fun _ => rfl) (fun _ _ => rfl) rfl rfl he hseq (fun x hx => by obtain ⟨k, hk, rfl⟩ := List.mem_map.1 hx; rfl) rfl (fun k => [(2, b2, (fe ((x).1) ++ (fe ((x).2.1) ++ fe ((x).2.2))).map U64, 31), (4, b4, (fe 0 ++ (fe 0 ++ fe 0)).map U64, 31), (5, b5, (fe (((stK x L k).1).1) ++ (fe (((stK x L k).1).2.1) ++ fe (((stK x L k).1).2.2))).map U64, 31), (6, b6, [I ((stK x L k).2 : Int)], 3)]) (fun _ _ _ => False) ⟨rfl, rfl, rfl, rfl, trivial⟩ (fun k _ w' h => hRs w' (h.below (fun _ h => h))) ?_ ?_ (fun _ _ _ _ _ h => h.elim)
  · intro k v hx R hR
    obtain ⟨n, hn, rfl⟩ := NLs_get hx
    have hk : k < L.length := (List.getElem?_eq_some_iff.1 hn).1
    have hb := stK_lt x (by omega) hL k (Nat.le_of_lt hk)
    have hn2 := hL n (List.mem_of_getElem? hn)
    refine x_plain (E := EE []) ?_
    refine lx_assign rfl rfl rfl ?_
    refine lx_nil ?_
    refine ⟨rfl, _, rfl, ?_⟩
    refine x_block ?_
    refine xs_drawn (E := EE []) mixed (by kernel_rfl) (by kernel_rfl) (by kernel_rfl) ?_
    refine lx_loada 5 rfl rfl Tryz.isAgg31 Tryz.sizeOf31 (by simp) rfl rfl ?_
    refine lx_loadl 6 rfl rfl rfl Tryz.isAgg3 rfl rfl ?_
    refine lx_move rfl rfl rfl ?_
    refine lx_bin (v := I (((stK x L k).2 : Int) - (n : Int))) rfl rfl (fun _ => rfl) (fun _ => bin_sub_i _ _ _ (by unfold inI; omega)) rfl rfl ?_
    refine lx_call rfl rfl ent101 (jdbS (stK x L k).1 (stK x L k).2 n hb) rfl rfl ?_
    refine lx_loada 2 rfl rfl Tryz.isAgg31 Tryz.sizeOf31 (by simp) rfl rfl ?_
    refine lx_call rfl rfl ent19 (jadd _ _) rfl rfl ?_
    refine lx_storea 5 (hR (pl w) rfl hGF).2.1 rfl rfl rfl Tryz.sizeOf31 (by simp) (by simp) (one_u64 _) rfl ?_
    refine lx_nil ?_
    refine x_plain (E := EE []) ?_
    refine lx_move rfl rfl rfl ?_
    refine lx_store 6 (hR (pl w) rfl hGF).2.1 rfl rfl rfl Tryz.sizeOf3 rfl (by first | decide | simp) rfl ?_
    refine lx_nil ?_
    repeat (refine kblk_n ?_)
    exact ⟨_, rfl, ⟨rfl, rfl, by rw [stK_1 x hn]; rfl, by rw [stK_2 x hn]; rfl, trivial⟩⟩
  · intro D hD
    have hb := stK_lt x (by omega) hL L.length (Nat.le_refl _)
    rw [NLs_len]
    refine xs_plain (E := EE []) ?_
    refine lx_loada 5 rfl rfl Tryz.isAgg31 Tryz.sizeOf31 (by simp) rfl rfl ?_
    refine lx_loadl 6 rfl rfl rfl Tryz.isAgg3 rfl rfl ?_
    refine lx_call rfl rfl ent101 (jdbN (stK x L L.length).1 (stK x L L.length).2 hb) rfl rfl ?_
    refine lx_storea 4 hD rfl rfl rfl Tryz.sizeOf31 (by simp) (by simp) (one_u64 _) rfl ?_
    refine lx_nil ?_
    refine x_ret ?_
    repeat (first | refine kseq_ret ?_ | refine kblk_ret ?_)
    exact kretM_1 (.inl rfl) rides_true (kret_own 4 rfl rfl rfl Tryz.isAgg31 Tryz.sizeOf31 (by simp) (fun w hw => ⟨rfl, hp_below hw⟩))
def mlB (x : Zp × Zp × Zp) (bs : List (BitVec 8)) : Zp × Zp × Zp := tmF x (oB bs (8 * bs.length))
theorem mlB_jr {x : Zp × Zp × Zp} {P : Pt Zp} (hP : E1.onP P) (hx : E1.jr x P) {bs : List (BitVec 8)} {m : Nat} (hm : BN bs bs.length = m) : E1.jr (mlB x bs) (E1.times P m) := by
  subst hm
  rw [← oB_sum]; exact tmF_jr hP hx (oL_pw _ _ _ (Nat.le_refl _))
theorem jmul_calls (x : Zp × Zp × Zp) (e : Option Addr) (cap : Nat) (bs : List (BitVec 8)) (hlen : bs.length ≤ 1000000) (w : World) (hw : Gt w) (hby : BytesAt w e bs) :
    Calls Tryz.prog 22 [JV x, .slice e bs.length cap].toArray w (fun r w' => r = .returned (JV (mlB x bs)) ∧ Grow w w') := by
  have hGF : BOk Gt (pl w) := gt_low.plain hw
  refine calls_of_X (G := Gt) Tryz.func22 rfl rfl (Hp (pl w) []) (hp_refl (pl w) trivial rides_true) (good_hp hGF) ?_
  refine xs_plain (E := EE [64, 2000064]) ?_
  refine lx_boxr 2 hGF rfl rfl rfl ?_
  intro b2
  refine lx_allocr 4 hGF zj31 rfl rfl ?_
  intro b4
  refine lx_nil ?_
  refine xs_drawn (E := EE [64, 2000064]) mixed (by kernel_rfl) (by kernel_rfl) (by kernel_rfl) ?_
  refine lx_loada 2 rfl rfl Tryz.isAgg31 Tryz.sizeOf31 (by simp) rfl rfl ?_
  refine lx_move rfl rfl rfl ?_
  refine lx_callG rfl rfl ent64 rfl rfl (fun w' hw' => (g1bits_calls _ rfl w' (hGF.g _ _ _ hw')).mono fun e' w'' h => ?_)
  obtain ⟨c1, rfl, hg, h1, ho⟩ := h
  refine ⟨_, _, rfl, good_hp hGF, hw'.news rides_true hg [(33, c1, [.slice e bs.length cap], 22)] ?_ inj_one, hp_fresh rides_true rfl, ?_⟩
  · intro n' b' c' t' hl
    rcases lkB_cons hl with ⟨_, e⟩ | ⟨_, hl⟩
    · cases e; exact ⟨h1, ho⟩
    · cases hl
  clear hw' hg h1 ho
  refine lx_callC rfl rfl ent63 (fun w' hC hG => jtimes_calls x 102 [.pointer (some ⟨c1, 0, none⟩)] (oB bs (8 * bs.length)) (RdD c1 e cap bs) ent102 (g1bits_seq c1 e cap bs (by omega)) (fun b hb => by have := oL_lt hb (Nat.le_refl _); omega) w' hG (fun w'' hg => RdD_grow ⟨hp_cell (n := 33) rfl rfl w' hC, hby.grow (hC.below (fun _ h => h))⟩ hg)) rfl rfl ?_
  refine lx_storea 4 hGF rfl rfl rfl Tryz.sizeOf31 (by simp) (by simp) (one_u64 _) rfl ?_
  refine lx_nil ?_
  refine x_ret ?_
  repeat (first | refine kseq_ret ?_ | refine kblk_ret ?_)
  exact kret_own 4 rfl rfl rfl Tryz.isAgg31 Tryz.sizeOf31 (by simp) (fun w hw => ⟨rfl, hp_below hw⟩)
def TRB : List (BitVec 8) := [0#8, 0#8, 0#8, 0#8, 0#8, 0#8, 0#8, 0#8, 95#8, 25#8, 103#8, 47#8, 223#8, 118#8, 206#8, 81#8, 186#8, 105#8, 198#8, 7#8, 106#8, 15#8, 119#8, 234#8, 221#8, 179#8, 169#8, 59#8, 230#8, 248#8, 150#8, 136#8, 222#8, 23#8, 216#8, 19#8, 98#8, 10#8, 0#8, 2#8, 46#8, 1#8, 255#8, 255#8, 255#8, 254#8, 255#8, 254#8]
theorem FV_tr : FV TRB = zp TRN := by rw [FV, if_pos ⟨rfl, by decide +kernel⟩, show BN TRB 48 = TRN by decide +kernel]
theorem tr_calls {c : Zp} (hc : zp TRN = c) (e : Option Addr) (cap : Nat) (w : World) (hw : Gt w) (hby : BytesAt w e TRB) : Calls Tryz.prog 68 [.slice e TRB.length cap].toArray w (fun r w' => r = .returned (.tuple #[EV c, .bool (FO TRB)]) ∧ Grow w w') := by
  have h := ffrom_calls e cap TRB w hw hby
  rw [FV_tr, hc] at h
  exact h
def UB8 : List (BitVec 8) := [210#8, 1#8, 0#8, 0#8, 0#8, 1#8, 0#8, 0#8]
theorem UB8_n : BN UB8 UB8.length = UG := by decide +kernel
theorem jmulU {f : Zp × Zp × Zp → Zp × Zp × Zp} (hf : ∀ x, mlB x UB8 = f x) (x : Zp × Zp × Zp) (b c : Nat) (w : World) (hw : Gt w) (h : w.rangeAt b 0 (UB8.map U8)) : Calls Tryz.prog 22 [JV x, .slice (some ⟨b, 0, none⟩) UB8.length c].toArray w (fun r w' => r = .returned (JV (f x)) ∧ Grow w w') := by
  have k := jmul_calls x (some ⟨b, 0, none⟩) c UB8 (by decide) w hw (BytesAt.range h)
  rw [hf] at k
  exact k
/-- Turned. -/
def tuJ (c : Zp) (x : Zp × Zp × Zp) : Zp × Zp × Zp := (x.1 * c, x.2.1, x.2.2)
theorem tu_z (c x z : Zp) : x * (z * z) * c = c * x * (z * z) := by grind
theorem tu_jr {c : Zp} {x : Zp × Zp × Zp} {p : Zp × Zp} (hx : E1.jr x (some p)) : E1.jr (tuJ c x) (some (c * p.1, p.2)) := by
  refine ⟨hx.1, ?_, hx.2.2⟩
  have h1 : x.1 = p.1 * (x.2.2 * x.2.2) := hx.2.1
  show x.1 * c = c * p.1 * (x.2.2 * x.2.2)
  rw [h1]
  exact tu_z _ _ _
theorem tu_none {c : Zp} {x : Zp × Zp × Zp} (hx : E1.jr x none) : E1.jr (tuJ c x) none := show x.2.2 = E1.R.zero from hx
theorem TW1_some (p : Zp × Zp) : TW1.p (some p) = some (zp TRN * p.1, p.2) := congrArg some (TW1_m p)
theorem tuJ_jr {x : Zp × Zp × Zp} {P : Pt Zp} (hx : E1.jr x P) : E1.jr (tuJ (zp TRN) x) (TW1.p P) := by
  cases P with
  | none => exact tu_none hx
  | some p => rw [TW1_some]; exact tu_jr hx
abbrev ngJ (x : Zp × Zp × Zp) : Zp × Zp × Zp := (x.1, -x.2.1, x.2.2)
theorem ing_G {bs : List (BitVec 8)} {m : Nat} (hm : BN bs bs.length = m) {x : Zp × Zp × Zp} {P : Pt Zp} (hP : E1.onP P) (hx : E1.jr x P) : eqJ (ngJ (mlB (mlB x bs) bs)) (tuJ (zp TRN) x) ↔ E1.ne (E1.times (E1.times P m) m) = TW1.p P := eqJ_iff (E1.jr_n (mlB_jr (E1.times_on hP m) (mlB_jr hP hx hm) hm)) (tuJ_jr hx)
theorem ing_iff {x : Zp × Zp × Zp} {P : Pt Zp} (hP : E1.onP P) (hx : E1.jr x P) : eqJ (ngJ (mlB (mlB x UB8) UB8)) (tuJ (zp TRN) x) ↔ E1.times P ORD = none := (ing_G UB8_n hP hx).trans (g1_in hP)
theorem jing {f : Zp × Zp × Zp → Zp × Zp × Zp} (hf : ∀ x, mlB x UB8 = f x) {c : Zp} (hc : zp TRN = c) (x : Zp × Zp × Zp) (hd : Decidable (eqJ (ngJ (f (f x))) (tuJ c x))) (b : Bool) (hb : b = decide (eqJ (ngJ (f (f x))) (tuJ c x))) : Pure Tryz.prog Gt 34 [JV x] (.bool b) := by
  intro w hw
  have hGF : BOk Gt (pl w) := gt_low.plain hw
  refine calls_of_X (G := Gt) Tryz.func34 rfl rfl (Hp (pl w) []) (hp_refl (pl w) trivial rides_true) (good_hp hGF) ?_
  refine xs_plain (E := EE [1000022]) ?_
  refine lx_boxr 1 hGF rfl rfl rfl ?_
  intro b1
  refine lx_assign rfl rfl rfl ?_
  refine lx_nil ?_
  refine xs_plain (E := EE [1000022]) ?_
  refine lx_bsl 7 TRB hGF rfl rfl rfl (by decide) (by decide) Tryz.underlying22 Tryz.sizeOf5 Tryz.zeroValue5 rfl rfl ?_
  intro b7
  refine lx_cvs 7 rfl hGF rfl rfl Tryz.underlying22 Tryz.underlying5 rfl rfl ?_
  refine lx_callC rfl rfl ent68 (fun w' hC hG => tr_calls hc _ _ w' hG (BytesAt.range (hC.own 7 b7 _ _ rfl).1.range)) rfl rfl ?_
  refine lx_move rfl rfl rfl ?_
  refine lx_ext rfl rfl rfl rfl ?_
  refine lx_ext rfl rfl rfl rfl ?_
  refine lx_allocr 3 hGF zv28 rfl rfl ?_
  intro b3
  refine lx_storea 3 hGF rfl rfl rfl Tryz.sizeOf28 (by simp) (by simp) (one_u64 _) rfl ?_
  refine lx_assign rfl rfl rfl ?_
  refine lx_nil ?_
  refine xs_drawA (E := EE [1000022, 2999999]) [0, 1, 2, 3, 4, 5, 6, 7, 8] [⟨9, 5, 31, (fe 0 ++ (fe 0 ++ fe 0)).map U64⟩] [10] mixed rfl (by kernel_rfl) (by kernel_rfl) (by kernel_rfl) (by kernel_rfl) (by kernel_rfl) (by kernel_rfl) (by decide) (by intro x hx; simp only [List.mem_cons, List.not_mem_nil, or_false] at hx; subst hx; exact isAlloc_mk rfl zj31 rfl) ?_
  refine lx_fak 0 rfl Tryz.underlying31 rfl Tryz.sizeOf28 (by decide) rfl rfl rfl ?_
  refine lx_loado 1 _ rfl rfl Tryz.isAgg28 Tryz.sizeOf28 (by simp) ld_l rfl rfl ?_
  refine lx_loada 3 rfl rfl Tryz.isAgg28 Tryz.sizeOf28 (by simp) rfl rfl ?_
  refine lx_call rfl rfl ent55 (fmul_pure _ _) rfl rfl ?_
  refine lx_fak 6 rfl Tryz.underlying31 rfl Tryz.sizeOf28 (by decide) rfl rfl rfl ?_
  refine lx_loado 1 _ rfl rfl Tryz.isAgg28 Tryz.sizeOf28 (by simp) (ld_m (by simp)) rfl rfl ?_
  refine lx_fak 12 rfl Tryz.underlying31 rfl Tryz.sizeOf28 (by decide) rfl rfl rfl ?_
  refine lx_loado 1 _ rfl rfl Tryz.isAgg28 Tryz.sizeOf28 (by simp) (ld_rr (m := 6) (n := 6) (by simp) (by simp) rfl) rfl rfl ?_
  refine lx_three012 three31 rfl rfl rfl (by simp) (by simp) (by simp) rfl rfl ?_
  refine lx_nil ?_
  refine ⟨_, _, rfl, hGF, by intro x hx; simp only [List.mem_cons, List.not_mem_nil, or_false] at hx; subst hx; rfl, by intro x hx; simp only [List.mem_cons, List.not_mem_nil, or_false] at hx; subst hx; rfl, fun adr => ?_⟩
  refine lx_storea 5 hGF rfl rfl rfl Tryz.sizeOf31 (by simp) (by simp) (one_u64 _) rfl ?_
  refine lx_nil ?_
  refine xs_tree (EE [2999998, 2999996, 1000022]) mixed (by kernel_rfl) (by kernel_rfl) ?_
  refine tr_pre (m := 9) [0, 8] (by kernel_rfl) ?_
  refine lx_loada 1 rfl rfl Tryz.isAgg31 Tryz.sizeOf31 (by simp) rfl rfl ?_
  refine lx_loada 5 rfl rfl Tryz.isAgg31 Tryz.sizeOf31 (by simp) rfl rfl ?_
  refine lx_nil ?_
  refine tr_any (m := 8) [1, 4] (by kernel_rfl) (by kernel_rfl) (by decide) ?_
  intro i hi
  simp only [List.mem_cons, List.not_mem_nil, or_false] at hi
  rcases hi with rfl | rfl
  · skip
    refine lx_bslG 22 UB8 hGF rfl rfl rfl rfl (by decide) (by decide) Tryz.underlying22 Tryz.sizeOf5 Tryz.zeroValue5 rfl rfl ?_
    intro b22
    refine lx_nil ?_
    refine tr_any (m := 7) [2, 4] (by kernel_rfl) (by kernel_rfl) (by decide) ?_
    intro i hi
    simp only [List.mem_cons, List.not_mem_nil, or_false] at hi
    rcases hi with rfl | rfl
    · skip
      refine lx_cvsG 22 rfl hGF rfl rfl Tryz.underlying22 Tryz.underlying5 rfl rfl ?_
      refine lx_nil ?_
      refine tr_pre (m := 6) [3] (by kernel_rfl) ?_
      refine lx_callC rfl rfl ent22 (fun w' hC hG => jmulU hf _ _ _ w' hG (hp_row (n := 22) rfl w' hC)) rfl rfl ?_
      refine lx_nil ?_
      refine tr_pre (m := 5) [4] (by kernel_rfl) ?_
      refine lx_bslG 25 UB8 hGF rfl rfl rfl rfl (by decide) (by decide) Tryz.underlying22 Tryz.sizeOf5 Tryz.zeroValue5 rfl rfl ?_
      intro b25
      refine lx_nil ?_
      refine tr_pre (m := 4) [5] (by kernel_rfl) ?_
      refine lx_cvsG 25 rfl hGF rfl rfl Tryz.underlying22 Tryz.underlying5 rfl rfl ?_
      refine lx_nil ?_
      refine tr_pre (m := 0) [6, 7, 9, 10] (by kernel_rfl) ?_
      refine lx_callC rfl rfl ent22 (fun w' hC hG => jmulU hf _ _ _ w' hG (hp_row (n := 25) rfl w' hC)) rfl rfl ?_
      refine lx_call rfl rfl ent17 (jneg _) rfl rfl ?_
      refine lx_call rfl rfl ent16 (jequal _ _ hd b hb) rfl rfl ?_
      refine lx_assign rfl rfl rfl ?_
      refine lx_nil ?_
      refine tr_nil (by kernel_rfl) ?_
      refine kseq_n ?_
      refine x_ret ?_
      repeat (first | refine kseq_ret ?_ | refine kblk_ret ?_)
      exact kret_tmp rfl rfl (fun w hw => ⟨rfl, hp_below hw⟩)
    · skip
      refine lx_bslG 25 UB8 hGF rfl rfl rfl rfl (by decide) (by decide) Tryz.underlying22 Tryz.sizeOf5 Tryz.zeroValue5 rfl rfl ?_
      intro b25
      refine lx_nil ?_
      refine tr_any (m := 6) [2, 5] (by kernel_rfl) (by kernel_rfl) (by decide) ?_
      intro i hi
      simp only [List.mem_cons, List.not_mem_nil, or_false] at hi
      rcases hi with rfl | rfl
      · skip
        refine lx_cvsG 22 rfl hGF rfl rfl Tryz.underlying22 Tryz.underlying5 rfl rfl ?_
        refine lx_nil ?_
        refine tr_pre (m := 5) [3] (by kernel_rfl) ?_
        refine lx_callC rfl rfl ent22 (fun w' hC hG => jmulU hf _ _ _ w' hG (hp_row (n := 22) rfl w' hC)) rfl rfl ?_
        refine lx_nil ?_
        refine tr_pre (m := 4) [5] (by kernel_rfl) ?_
        refine lx_cvsG 25 rfl hGF rfl rfl Tryz.underlying22 Tryz.underlying5 rfl rfl ?_
        refine lx_nil ?_
        refine tr_pre (m := 0) [6, 7, 9, 10] (by kernel_rfl) ?_
        refine lx_callC rfl rfl ent22 (fun w' hC hG => jmulU hf _ _ _ w' hG (hp_row (n := 25) rfl w' hC)) rfl rfl ?_
        refine lx_call rfl rfl ent17 (jneg _) rfl rfl ?_
        refine lx_call rfl rfl ent16 (jequal _ _ hd b hb) rfl rfl ?_
        refine lx_assign rfl rfl rfl ?_
        refine lx_nil ?_
        refine tr_nil (by kernel_rfl) ?_
        refine kseq_n ?_
        refine x_ret ?_
        repeat (first | refine kseq_ret ?_ | refine kblk_ret ?_)
        exact kret_tmp rfl rfl (fun w hw => ⟨rfl, hp_below hw⟩)
      · skip
        refine lx_cvsG 25 rfl hGF rfl rfl Tryz.underlying22 Tryz.underlying5 rfl rfl ?_
        refine lx_nil ?_
        refine tr_pre (m := 5) [2] (by kernel_rfl) ?_
        refine lx_cvsG 22 rfl hGF rfl rfl Tryz.underlying22 Tryz.underlying5 rfl rfl ?_
        refine lx_nil ?_
        refine tr_pre (m := 0) [3, 6, 7, 9, 10] (by kernel_rfl) ?_
        refine lx_callC rfl rfl ent22 (fun w' hC hG => jmulU hf _ _ _ w' hG (hp_row (n := 22) rfl w' hC)) rfl rfl ?_
        refine lx_callC rfl rfl ent22 (fun w' hC hG => jmulU hf _ _ _ w' hG (hp_row (n := 25) rfl w' hC)) rfl rfl ?_
        refine lx_call rfl rfl ent17 (jneg _) rfl rfl ?_
        refine lx_call rfl rfl ent16 (jequal _ _ hd b hb) rfl rfl ?_
        refine lx_assign rfl rfl rfl ?_
        refine lx_nil ?_
        refine tr_nil (by kernel_rfl) ?_
        refine kseq_n ?_
        refine x_ret ?_
        repeat (first | refine kseq_ret ?_ | refine kblk_ret ?_)
        exact kret_tmp rfl rfl (fun w hw => ⟨rfl, hp_below hw⟩)
  · skip
    refine lx_bslG 25 UB8 hGF rfl rfl rfl rfl (by decide) (by decide) Tryz.underlying22 Tryz.sizeOf5 Tryz.zeroValue5 rfl rfl ?_
    intro b25
    refine lx_nil ?_
    refine tr_any (m := 7) [1, 5] (by kernel_rfl) (by kernel_rfl) (by decide) ?_
    intro i hi
    simp only [List.mem_cons, List.not_mem_nil, or_false] at hi
    rcases hi with rfl | rfl
    · skip
      refine lx_bslG 22 UB8 hGF rfl rfl rfl rfl (by decide) (by decide) Tryz.underlying22 Tryz.sizeOf5 Tryz.zeroValue5 rfl rfl ?_
      intro b22
      refine lx_nil ?_
      refine tr_any (m := 6) [2, 5] (by kernel_rfl) (by kernel_rfl) (by decide) ?_
      intro i hi
      simp only [List.mem_cons, List.not_mem_nil, or_false] at hi
      rcases hi with rfl | rfl
      · skip
        refine lx_cvsG 22 rfl hGF rfl rfl Tryz.underlying22 Tryz.underlying5 rfl rfl ?_
        refine lx_nil ?_
        refine tr_pre (m := 5) [3] (by kernel_rfl) ?_
        refine lx_callC rfl rfl ent22 (fun w' hC hG => jmulU hf _ _ _ w' hG (hp_row (n := 22) rfl w' hC)) rfl rfl ?_
        refine lx_nil ?_
        refine tr_pre (m := 4) [5] (by kernel_rfl) ?_
        refine lx_cvsG 25 rfl hGF rfl rfl Tryz.underlying22 Tryz.underlying5 rfl rfl ?_
        refine lx_nil ?_
        refine tr_pre (m := 0) [6, 7, 9, 10] (by kernel_rfl) ?_
        refine lx_callC rfl rfl ent22 (fun w' hC hG => jmulU hf _ _ _ w' hG (hp_row (n := 25) rfl w' hC)) rfl rfl ?_
        refine lx_call rfl rfl ent17 (jneg _) rfl rfl ?_
        refine lx_call rfl rfl ent16 (jequal _ _ hd b hb) rfl rfl ?_
        refine lx_assign rfl rfl rfl ?_
        refine lx_nil ?_
        refine tr_nil (by kernel_rfl) ?_
        refine kseq_n ?_
        refine x_ret ?_
        repeat (first | refine kseq_ret ?_ | refine kblk_ret ?_)
        exact kret_tmp rfl rfl (fun w hw => ⟨rfl, hp_below hw⟩)
      · skip
        refine lx_cvsG 25 rfl hGF rfl rfl Tryz.underlying22 Tryz.underlying5 rfl rfl ?_
        refine lx_nil ?_
        refine tr_pre (m := 5) [2] (by kernel_rfl) ?_
        refine lx_cvsG 22 rfl hGF rfl rfl Tryz.underlying22 Tryz.underlying5 rfl rfl ?_
        refine lx_nil ?_
        refine tr_pre (m := 0) [3, 6, 7, 9, 10] (by kernel_rfl) ?_
        refine lx_callC rfl rfl ent22 (fun w' hC hG => jmulU hf _ _ _ w' hG (hp_row (n := 22) rfl w' hC)) rfl rfl ?_
        refine lx_callC rfl rfl ent22 (fun w' hC hG => jmulU hf _ _ _ w' hG (hp_row (n := 25) rfl w' hC)) rfl rfl ?_
        refine lx_call rfl rfl ent17 (jneg _) rfl rfl ?_
        refine lx_call rfl rfl ent16 (jequal _ _ hd b hb) rfl rfl ?_
        refine lx_assign rfl rfl rfl ?_
        refine lx_nil ?_
        refine tr_nil (by kernel_rfl) ?_
        refine kseq_n ?_
        refine x_ret ?_
        repeat (first | refine kseq_ret ?_ | refine kblk_ret ?_)
        exact kret_tmp rfl rfl (fun w hw => ⟨rfl, hp_below hw⟩)
    · skip
      refine lx_cvsG 25 rfl hGF rfl rfl Tryz.underlying22 Tryz.underlying5 rfl rfl ?_
      refine lx_nil ?_
      refine tr_pre (m := 6) [1] (by kernel_rfl) ?_
      refine lx_bslG 22 UB8 hGF rfl rfl rfl rfl (by decide) (by decide) Tryz.underlying22 Tryz.sizeOf5 Tryz.zeroValue5 rfl rfl ?_
      intro b22
      refine lx_nil ?_
      refine tr_pre (m := 5) [2] (by kernel_rfl) ?_
      refine lx_cvsG 22 rfl hGF rfl rfl Tryz.underlying22 Tryz.underlying5 rfl rfl ?_
      refine lx_nil ?_
      refine tr_pre (m := 0) [3, 6, 7, 9, 10] (by kernel_rfl) ?_
      refine lx_callC rfl rfl ent22 (fun w' hC hG => jmulU hf _ _ _ w' hG (hp_row (n := 22) rfl w' hC)) rfl rfl ?_
      refine lx_callC rfl rfl ent22 (fun w' hC hG => jmulU hf _ _ _ w' hG (hp_row (n := 25) rfl w' hC)) rfl rfl ?_
      refine lx_call rfl rfl ent17 (jneg _) rfl rfl ?_
      refine lx_call rfl rfl ent16 (jequal _ _ hd b hb) rfl rfl ?_
      refine lx_assign rfl rfl rfl ?_
      refine lx_nil ?_
      refine tr_nil (by kernel_rfl) ?_
      refine kseq_n ?_
      refine x_ret ?_
      repeat (first | refine kseq_ret ?_ | refine kblk_ret ?_)
      exact kret_tmp rfl rfl (fun w hw => ⟨rfl, hp_below hw⟩)
def gInf : GP := ⟨(0, 0, 0), none, True.intro, rfl⟩
def gGen : GP := ⟨(zp G1x, zp G1y, 1), some G1p, onP_some G1_on, g1_jr⟩
def gAdd (p q : GP) : GP := ⟨adF p.J q.J, E1.ad p.P q.P, E1.ad_on p.on q.on, adF_jr p.on q.on p.jr q.jr⟩
def gDbl (p : GP) : GP := ⟨dbF p.J, E1.ad p.P p.P, E1.ad_on p.on p.on, dbF_jr p.on p.jr⟩
def gNeg (p : GP) : GP := ⟨(p.J.1, -p.J.2.1, p.J.2.2), E1.ne p.P, E1.ne_on p.on, E1.jr_n p.jr⟩
def gMul (p : GP) (bs : List (BitVec 8)) : GP := ⟨mlB p.J bs, E1.times p.P (BN bs bs.length), E1.times_on p.on _, mlB_jr p.on p.jr rfl⟩
theorem zv31 (w : World) : (zeroValue 31).run Tryz.prog w = .ok (PtV gInf) w := zj31 w
theorem xy_w {J : Zp × Zp × Zp} {p : Zp × Zp} (h : E1.jr J (some p)) {v : Zp} (hv : J.2.2 * v = 1) : J.1 * (v * v) = p.1 ∧ J.2.1 * (v * v * v) = p.2 := by
  have hx : J.1 = p.1 * (J.2.2 * J.2.2) := h.2.1
  have hy : J.2.1 = p.2 * (J.2.2 * J.2.2 * J.2.2) := h.2.2
  obtain ⟨z, hz⟩ : ∃ z, J.2.2 = z := ⟨_, rfl⟩
  rw [hz] at hx hy hv
  refine ⟨?_, ?_⟩
  · rw [hx, show p.1 * (z * z) * (v * v) = p.1 * ((z * v) * (z * v)) from by grind, hv, z_11, z_m1]
  · rw [hy, show p.2 * (z * z * z) * (v * v * v) = p.2 * ((z * v) * ((z * v) * (z * v))) from by grind, hv, z_11, z_11, z_m1]
theorem xy_eq {J : Zp × Zp × Zp} {P : Pt Zp} (h : E1.jr J P) (hn : ¬ P = none) {v : Zp} (hv : ¬ J.2.2 = 0 → J.2.2 * v = 1) : J.1 * (v * v) = PX P ∧ J.2.1 * (v * v * v) = PY P := by
  cases P with
  | none => exact absurd rfl hn
  | some p => exact xy_w h (hv h.1)
theorem gen_p  : Pure Tryz.prog Gt 26 [] (PtV gGen) := jgen
theorem inf_p  : Pure Tryz.prog Gt 20 [] (PtV gInf) := jinf
theorem isInf_p (p : GP) : Pure Tryz.prog Gt 15 [PtV p] (.bool (decide (p.P = none))) := by
  have h := jisInf p.J
  rw [show decide (p.J.2.2 = 0) = decide (p.P = none) from decide_eq_decide.2 (E1.jr_z p.jr)] at h
  exact h
theorem equal_p (p q : GP) : Pure Tryz.prog Gt 16 [PtV p, PtV q] (.bool (decide (p.P = q.P))) := 
  have hd : Decidable (eqJ p.J q.J) := decidable_of_iff _ (eqJ_iff p.jr q.jr).symm
  jequal p.J q.J hd _ (decide_eq_decide.2 (eqJ_iff p.jr q.jr).symm)
theorem add_p (p q : GP) : Pure Tryz.prog Gt 19 [PtV p, PtV q] (PtV (gAdd p q)) := jadd p.J q.J
theorem dbl_p (p : GP) : Pure Tryz.prog Gt 25 [PtV p] (PtV (gDbl p)) := jdbl p.J
theorem neg_p (p : GP) : Pure Tryz.prog Gt 17 [PtV p] (PtV (gNeg p)) := jneg p.J
theorem xy_n (p : GP) (h : p.P = none) : Pure Tryz.prog Gt 65 [PtV p] (.tuple #[EV 0, EV 0, .bool false]) := jxy_n p.J ((E1.jr_z p.jr).2 h)
theorem xy_s (p : GP) (h : ¬ p.P = none) : Pure Tryz.prog Gt 65 [PtV p] (.tuple #[EV (PX p.P), EV (PY p.P), .bool true]) := by
  have k := jxy_s p.J (fun e => h ((E1.jr_z p.jr).1 e))
  have e := xy_eq p.jr h (v := p.J.2.2 ^ (PP - 2)) (fun h => zinv h)
  rw [e.1, e.2] at k
  exact k
theorem inGroup_p (p : GP) : Pure Tryz.prog Gt 34 [PtV p] (.bool (decide (E1.times p.P ORD = none))) := 
  have hd : Decidable (eqJ (ngJ (mlB (mlB p.J UB8) UB8)) (tuJ (zp TRN) p.J)) := decidable_of_iff _ (ing_iff p.on p.jr).symm
  jing (fun _ => rfl) rfl p.J hd _ (decide_eq_decide.2 (ing_iff p.on p.jr).symm)
theorem mul_c (p : GP) (e : Option Addr) (cap : Nat) (bs : List (BitVec 8)) (hlen : bs.length ≤ 1000) (w : World) (hw : Gt w) (hby : BytesAt w e bs) : Calls Tryz.prog 22 [PtV p, .slice e bs.length cap].toArray w (fun r w' => r = .returned (PtV (gMul p bs)) ∧ Grow w w') := jmul_calls p.J e cap bs (by omega) w hw hby
end Go.Proofs.YtmpcccpnblfloaaGreatDoor
