/-
  Numbers as bytes; copies.
-/
import Derived.Test.YtlaanjcnfindnaaG0
import Derived.Test.YtlaanjcnfindnaaX2
namespace Go.Proofs.Ytlaanjcnfindnaa
open Go.RowKit
set_option maxRecDepth 100000
set_option maxHeartbeats 1000000

theorem ent88 : Enters Try.prog 88 := fun _ _ => by kernel_rfl
theorem ent93 : Enters Try.prog 93 := fun _ _ => by kernel_rfl
theorem ent91 : Enters Try.prog 91 := fun _ _ => by kernel_rfl
theorem ent76 : Enters Try.prog 76 := fun _ _ => by kernel_rfl
theorem ent29 : Enters Try.prog 29 := fun _ _ => by kernel_rfl
theorem ti5 : TI Try.prog 5 (.int .u8 0) 1 1 := ti_mk (by kernel_rfl)
/-- A slice of bytes of one's own, new to a world. -/
def Fr8 (w w' : World) (v : Value) (xs : List (BitVec 8)) : Prop := ∃ a cap, v = .slice a xs.length cap ∧ SlV 5 w' a cap (xs.map U8) ∧ New w a
theorem fr8_all {w w' : World} {L : Hl} {n b : Nat} {xs : List (BitVec 8)} (hp : Hp (pl w) L w') (hl : lkB L n = some (b, xs.map U8, 5)) : Fr8 w w' (.slice (some ⟨b, 0, none⟩) xs.length xs.length) xs :=
  ⟨_, _, rfl, .inr ⟨b, _, rfl, (hp.own n b _ 5 hl).1, by simp, by simp, by rw [List.take_of_length_le (Nat.le_refl _)]⟩, fun _ e => by cases e; exact (hp.own n b _ 5 hl).2.elim id False.elim⟩
theorem fr8_nil (w w' : World) : Fr8 w w' (.slice none 0 0) [] := ⟨none, 0, rfl, .inl ⟨rfl, rfl, rfl⟩, fun _ e => by cases e⟩
def le8 (n : BitVec 64) (k : Nat) : List (BitVec 8) := (List.range k).map fun i => (n >>> (8 * i)).setWidth 8
theorem le8_len (n : BitVec 64) (k : Nat) : (le8 n k).length = k := by simp [le8]
theorem le8_s (n : BitVec 64) (k : Nat) : le8 n (k + 1) = le8 n k ++ [(n >>> (8 * k)).setWidth 8] := by simp [le8, List.range_succ]
theorem pad_set {α : Type} (xs : List α) (x z : α) (m : Nat) : (xs ++ List.replicate (m + 1) z).set xs.length x = (xs ++ [x]) ++ List.replicate m z := by
  rw [List.set_append_right _ _ (Nat.le_refl _), Nat.sub_self, List.replicate_succ, List.set_cons_zero, List.append_assoc]
  rfl
theorem le8_set (n : BitVec 64) (k : Nat) (hk : k < 8) : (le8 n k ++ List.replicate (8 - k) 0#8).set k ((n >>> (8 * k)).setWidth 8) = le8 n (k + 1) ++ List.replicate (8 - (k + 1)) 0#8 := by
  have := pad_set (le8 n k) ((n >>> (8 * k)).setWidth 8) 0#8 (7 - k)
  rw [le8_len, show 7 - k + 1 = 8 - k from by omega] at this
  rw [this, le8_s, show 8 - (k + 1) = 7 - k from by omega]
theorem shr8 (n : BitVec 64) (k : Nat) (t : TypeId) (w : World) : (binOp .shr t (U64 n) (I (8 * (k : Int)))).run Try.prog w = .ok (U64 (n >>> (8 * k))) w :=
  (bin_shr_i_u64 t n _ (by omega)).trans (by rw [show ((8 * (k : Int))).toNat = 8 * k from by omega])
theorem shl8 (n : BitVec 64) (k : Nat) (t : TypeId) (w : World) : (binOp .shl t (U64 n) (I (8 * (k : Int)))).run Try.prog w = .ok (U64 (n <<< (8 * k))) w :=
  (bin_shl_i_u64 t n _ (by omega)).trans (by rw [show ((8 * (k : Int))).toNat = 8 * k from by omega])
attribute [local simp] le8_len
theorem bon_calls (n : BitVec 64) (w : World) (hw : Gt w) : Calls Try.prog 88 [U64 n].toArray w (fun e w' => ∃ v, e = .returned v ∧ Grow w w' ∧ Fr8 w w' v (le8 n 8)) := by
  have hGF : BOk Gt (pl w) := gt_low.plain hw
  refine calls_of_X (G := Gt) Try.func88 rfl rfl (Hp (pl w) []) (hp_refl (pl w) trivial rides_true) (good_hp hGF) ?_
  refine xs_plain (E := EE []) ?_
  refine lx_assign rfl rfl rfl ?_
  refine lx_nil ?_
  refine xs_plain (E := EE []) ?_
  refine lx_mkslC (l := 8) (m := 8) (c := (List.replicate (8) 0#8).map U8) 5 hGF rfl rfl (Nat.le_refl _) Try.underlying46 ti5 ⟨by omega, by omega, by omega⟩ (by rw [Nat.mul_one]; exact made8 _) rfl rfl ?_
  intro b5
  refine lx_assign rfl rfl rfl ?_
  refine lx_nil ?_
  refine x_seq ?_
  refine xs_plain (E := EE []) ?_
  refine lx_move rfl rfl rfl ?_
  refine lx_len rfl (fun _ => len_slice Try.underlying46 _ _ _ _) rfl rfl ?_
  refine lx_move rfl rfl rfl ?_
  refine lx_nil ?_
  refine x_block ?_
  refine x_for (ι := { i : Nat // i ≤ 8 }) (fun x => [(0, U64 n), (3, .slice (some ⟨b5, 0, none⟩) 8 8), (7, I 8), (8, I (x.1 : Int))]) (fun x => [(5, b5, (le8 n x.1 ++ List.replicate (8 - x.1) 0#8).map U8, 5)]) (fun x => 8 - x.1) ⟨0, by omega⟩ hGF ⟨rfl, rfl, rfl, rfl, trivial⟩ ⟨rfl, trivial⟩ ?_
  rintro ⟨k, hk⟩
  dsimp only
  refine xs_plain (E := EE []) ?_
  refine lx_bin rfl rfl (fun _ => rfl) (fun _ => bin_lss_i _ _ _) rfl rfl ?_
  refine lx_nil ?_
  refine x_seq ?_
  refine x_if rfl (fun hc => ?_) (fun hc => ?_)
  · have hlt : k < 8 := by simp at hc; omega
    clear hc
    refine x_skip ?_
    refine x_seq ?_
    refine x_block ?_
    refine xs_plain (E := EE []) ?_
    refine lx_move rfl rfl rfl ?_
    refine lx_assign rfl rfl rfl ?_
    refine lx_nil ?_
    refine x_plain (E := EE []) ?_
    refine lx_move rfl rfl rfl ?_
    refine lx_move rfl rfl rfl ?_
    refine lx_move rfl rfl rfl ?_
    refine lx_move rfl rfl rfl ?_
    refine lx_bin rfl rfl (fun _ => rfl) (fun _ => bin_mul_i _ _ _ (by unfold inI; omega)) rfl rfl ?_
    refine lx_bin (v := U64 (n >>> (8 * k))) rfl rfl (fun _ => rfl) (fun _ => shr8 n k _ _) rfl rfl ?_
    refine lx_conv rfl rfl (fun _ => conv_u64_u8 Try.underlying22 Try.underlying5 _) rfl rfl ?_
    refine lx_is1 k rfl rfl Try.underlying46 Try.sizeOf5 rfl hlt rfl rfl ?_
    refine lx_storem 5 U8 hGF rfl rfl rfl Try.sizeOf5 rfl (by simp; omega) rfl ?_
    rw [show 0 + k = k from Nat.zero_add k, le8_set n k hlt]
    refine lx_nil ?_
    refine x_plain (E := EE []) ?_
    refine lx_bin (v := I (((k + 1 : Nat) : Int))) rfl rfl (fun _ => rfl) (fun _ => (bin_add_i _ _ _ (by unfold inI; omega)).trans (by rfl)) rfl rfl ?_
    refine lx_move rfl rfl rfl ?_
    refine lx_nil ?_
    repeat (refine kblk_n ?_)
    refine kseq_n ?_
    exact ⟨rfl, ⟨k + 1, by omega⟩, _, by show 8 - (k + 1) < 8 - k; omega, rfl, ⟨rfl, rfl, rfl, rfl, trivial⟩, ⟨rfl, trivial⟩⟩
  · obtain rfl : k = 8 := by simp at hc; omega
    refine x_exit ?_
    refine xs_plain (E := EE []) ?_
    refine lx_move rfl rfl rfl ?_
    refine lx_assign rfl rfl rfl ?_
    refine lx_nil ?_
    refine x_ret ?_
    repeat (first | refine kseq_ret ?_ | refine kblk_ret ?_)
    exact kret_tmp rfl rfl (fun w' hw' => ⟨_, rfl, hp_below hw', fr8_all (n := 5) (xs := le8 n 8) hw' (by simp; rfl)⟩)
/-- So many bytes. -/
def szB (n : Nat) : Nat := (n + 7) / 8
theorem szo_pure (n : Nat) (hn : n < 9223372036854775808) : Pure Try.prog Gt 93 [I (n : Int)] (I (szB n : Nat)) := by
  intro w hw
  have hGF : BOk Gt (pl w) := gt_low.plain hw
  refine calls_of_X (G := Gt) Try.func93 rfl rfl (Hp (pl w) []) (hp_refl (pl w) trivial rides_true) (good_hp hGF) ?_
  refine xs_plain (E := EE []) ?_
  refine lx_assign rfl rfl rfl ?_
  refine lx_nil ?_
  refine xs_plain (E := EE []) ?_
  refine lx_move rfl rfl rfl ?_
  refine lx_bin (v := I (((n / 8 : Nat) : Int))) rfl rfl (fun _ => rfl) (fun _ => (bin_quo_i _ _ _ (by omega) (by unfold inI; rw [Int.tdiv_eq_ediv_of_nonneg (by omega)]; omega)).trans (by rw [Int.tdiv_eq_ediv_of_nonneg (by omega)]; rfl)) rfl rfl ?_
  refine lx_assign rfl rfl rfl ?_
  refine lx_nil ?_
  refine x_seq ?_
  refine xs_plain (E := EE []) ?_
  refine lx_move rfl rfl rfl ?_
  refine lx_bin (v := I (((n % 8 : Nat) : Int))) rfl rfl (fun _ => rfl) (fun _ => (bin_rem_i _ _ _ (by omega)).trans (by rw [Int.tmod_eq_emod_of_nonneg (by omega)]; rfl)) rfl rfl ?_
  refine lx_bin rfl rfl (fun _ => rfl) (fun _ => bin_neq_i _ _ _) rfl rfl ?_
  refine lx_nil ?_
  refine x_if rfl (fun hc => ?_) (fun hc => ?_)
  · have h8 : n % 8 ≠ 0 := by simp at hc; omega
    clear hc
    refine x_plain (E := EE []) ?_
    refine lx_move rfl rfl rfl ?_
    refine lx_bin (v := I (((n / 8 + 1 : Nat) : Int))) rfl rfl (fun _ => rfl) (fun _ => (bin_add_i _ _ _ (by unfold inI; omega)).trans (by rfl)) rfl rfl ?_
    refine lx_assign rfl rfl rfl ?_
    refine lx_nil ?_
    refine xs_plain (E := EE []) ?_
    refine lx_move rfl rfl rfl ?_
    refine lx_assign rfl rfl rfl ?_
    refine lx_nil ?_
    refine x_ret ?_
    repeat (first | refine kseq_ret ?_ | refine kblk_ret ?_)
    exact kret_tmp rfl rfl (fun w hw => ⟨by unfold szB; congr 2; omega, hp_below hw⟩)
  · have h8 : n % 8 = 0 := by simp at hc; omega
    clear hc
    refine x_skip ?_
    refine xs_plain (E := EE []) ?_
    refine lx_move rfl rfl rfl ?_
    refine lx_assign rfl rfl rfl ?_
    refine lx_nil ?_
    refine x_ret ?_
    repeat (first | refine kseq_ret ?_ | refine kblk_ret ?_)
    exact kret_tmp rfl rfl (fun w hw => ⟨by unfold szB; congr 2; omega, hp_below hw⟩)
/-- The number of bytes, the lowest first. -/
def pn (bs : List (BitVec 8)) : Nat → BitVec 64
  | 0 => 0#64
  | k + 1 => pn bs k ||| (bs.getD k 0#8).setWidth 64 <<< (8 * k)
theorem at8 {w : World} {a : Option Addr} {bs : List (BitVec 8)} (h : BytesAt w a bs) {k : Nat} (hk : k < bs.length) : ∃ ad, a = some ad ∧ w.cell? (ad.add k) = some (U8 (bs.getD k 0#8)) :=
  h k _ (gm U8 bs 0#8 k hk)
theorem fr8_osl {w w' : World} {L : Hl} {n : Nat} {a : Option Addr} {cap : Nat} {xs : List (BitVec 8)} (h : OwnSl L n 5 a cap xs) (hp : Hp (pl w) L w') : Fr8 w w' (.slice a xs.length cap) xs :=
  ⟨a, cap, rfl, h.slv hp, fun ad e => by
    rcases h with ⟨rfl, _⟩ | ⟨b, c, rfl, hl, _⟩
    · cases e
    · cases e; exact (hp.own n b c 5 hl).2.elim id False.elim⟩
theorem nof_calls (bs : List (BitVec 8)) (a : Option Addr) (cap : Nat) (hl : bs.length ≤ 1000000) (w : World) (hw : Gt w) (hb : BytesAt w a bs) : Calls Try.prog 91 [.slice a bs.length cap].toArray w (fun e w' => e = .returned (U64 (pn bs bs.length)) ∧ Grow w w') := by
  have hGF : BOk Gt (pl w) := gt_low.plain hw
  refine calls_of_X (G := Gt) Try.func91 rfl rfl (Hp (pl w) []) (hp_refl (pl w) trivial rides_true) (good_hp hGF) ?_
  refine xs_plain (E := EE []) ?_
  refine lx_assign rfl rfl rfl ?_
  refine lx_nil ?_
  refine xs_plain (E := EE []) ?_
  refine lx_assign rfl rfl rfl ?_
  refine lx_nil ?_
  refine x_seq ?_
  refine xs_plain (E := EE []) ?_
  refine lx_move rfl rfl rfl ?_
  refine lx_len rfl (fun _ => len_slice Try.underlying46 _ _ _ _) rfl rfl ?_
  refine lx_move rfl rfl rfl ?_
  refine lx_nil ?_
  refine x_block ?_
  refine x_for (ι := { i : Nat // i ≤ bs.length }) (fun x => [(3, U64 (pn bs x.1)), (6, .slice a bs.length cap), (7, I (bs.length : Int)), (8, I (x.1 : Int))]) (fun x => []) (fun x => bs.length - x.1) ⟨0, by omega⟩ hGF ⟨rfl, rfl, rfl, rfl, trivial⟩ trivial ?_
  rintro ⟨k, hk⟩
  dsimp only
  refine xs_plain (E := EE []) ?_
  refine lx_bin rfl rfl (fun _ => rfl) (fun _ => bin_lss_i _ _ _) rfl rfl ?_
  refine lx_nil ?_
  refine x_seq ?_
  refine x_if rfl (fun hc => ?_) (fun hc => ?_)
  · have hlt : k < bs.length := by simp at hc; omega
    clear hc
    obtain ⟨ad, rfl, hcell⟩ := at8 hb hlt
    refine x_skip ?_
    refine x_seq ?_
    refine x_block ?_
    refine xs_plain (E := EE []) ?_
    refine lx_move rfl rfl rfl ?_
    refine lx_isA k rfl rfl Try.underlying46 Try.sizeOf5 rfl hlt rfl rfl ?_
    refine lx_load rfl Try.isAgg5 (fun w' h => ((hp_below h).cell (block_lt_of_cell hcell)).trans hcell) rfl rfl ?_
    refine lx_assign rfl rfl rfl ?_
    refine lx_assign rfl rfl rfl ?_
    refine lx_nil ?_
    refine x_plain (E := EE []) ?_
    refine lx_move rfl rfl rfl ?_
    refine lx_move rfl rfl rfl ?_
    refine lx_conv rfl rfl (fun _ => conv_u8_u64 Try.underlying5 Try.underlying22 _) rfl rfl ?_
    refine lx_move rfl rfl rfl ?_
    refine lx_bin (v := I (8 * (k : Int))) rfl rfl (fun _ => rfl) (fun _ => bin_mul_i _ _ _ (by unfold inI; omega)) rfl rfl ?_
    refine lx_bin (v := U64 ((bs.getD k 0#8).setWidth 64 <<< (8 * k))) rfl rfl (fun _ => rfl) (fun _ => shl8 _ k _ _) rfl rfl ?_
    refine lx_bin rfl rfl (fun _ => rfl) (fun _ => bin_or_u64 _ _ _) rfl rfl ?_
    refine lx_assign rfl rfl rfl ?_
    refine lx_nil ?_
    refine x_plain (E := EE []) ?_
    refine lx_bin (v := I (((k + 1 : Nat) : Int))) rfl rfl (fun _ => rfl) (fun _ => (bin_add_i _ _ _ (by unfold inI; omega)).trans (by rfl)) rfl rfl ?_
    refine lx_move rfl rfl rfl ?_
    refine lx_nil ?_
    repeat (refine kblk_n ?_)
    refine kseq_n ?_
    exact ⟨rfl, ⟨k + 1, by omega⟩, _, by show bs.length - (k + 1) < bs.length - k; omega, rfl, ⟨rfl, rfl, rfl, rfl, trivial⟩, trivial⟩
  · obtain rfl : k = bs.length := by simp at hc; omega
    refine x_exit ?_
    refine xs_plain (E := EE []) ?_
    refine lx_move rfl rfl rfl ?_
    refine lx_assign rfl rfl rfl ?_
    refine lx_nil ?_
    refine x_ret ?_
    repeat (first | refine kseq_ret ?_ | refine kblk_ret ?_)
    exact kret_tmp rfl rfl (fun w' hw' => ⟨rfl, hp_below hw'⟩)
theorem cln_calls (bs : List (BitVec 8)) (a : Option Addr) (cap : Nat) (hl : bs.length ≤ 1000000) (w : World) (hw : Gt w) (hb : BytesAt w a bs) : Calls Try.prog 76 [.slice a bs.length cap].toArray w (fun e w' => ∃ v, e = .returned v ∧ Grow w w' ∧ Fr8 w w' v (bs)) := by
  have hGF : BOk Gt (pl w) := gt_low.plain hw
  refine calls_of_X (G := Gt) Try.func76 rfl rfl (Hp (pl w) []) (hp_refl (pl w) trivial rides_true) (good_hp hGF) ?_
  refine xs_plain (E := EE []) ?_
  refine lx_assign rfl rfl rfl ?_
  refine lx_nil ?_
  refine x_seq ?_
  refine xs_plain (E := EE []) ?_
  refine lx_move rfl rfl rfl ?_
  refine lx_bin rfl rfl (fun _ => rfl) (fun w' => bin_eq_sn Try.underlying46 _ _ _ w') rfl rfl ?_
  refine lx_nil ?_
  refine x_if rfl (fun hc => ?_) (fun hc => ?_)
  · obtain rfl : a = none := by simpa using hc
    obtain rfl : bs = [] := by
      cases bs with
      | nil => rfl
      | cons x r => obtain ⟨_, e, _⟩ := hb 0 (U8 x) rfl; cases e
    refine xs_plain (E := EE []) ?_
    refine lx_assign rfl rfl rfl ?_
    refine lx_nil ?_
    refine x_ret ?_
    repeat (first | refine kseq_ret ?_ | refine kblk_ret ?_)
    exact kret_tmp rfl rfl (fun w' hw' => ⟨_, rfl, hp_below hw', fr8_nil _ _⟩)
  · clear hc
    refine x_skip ?_
    refine xs_plain (E := EE []) ?_
    refine lx_bs0 5 hGF Try.underlying46 Try.sizeOf5 rfl rfl ?_
    intro b5
    refine lx_move rfl rfl rfl ?_
    refine lx_appendS (xs := []) (ys := bs) 5 hGF rfl rfl Try.underlying46 Try.underlying46 ti5 (.inr ⟨b5, [], rfl, rfl, rfl, Nat.le_refl _, rfl⟩) (fun w' h => hb.grow (hp_below h)) (by simp; omega) rfl rfl (fun a7 cap7 L7 own7 oth7 => ?_)
    refine lx_assign rfl rfl rfl ?_
    refine lx_nil ?_
    refine x_ret ?_
    repeat (first | refine kseq_ret ?_ | refine kblk_ret ?_)
    exact kret_tmp rfl rfl (fun w' hw' => ⟨_, rfl, hp_below hw', fr8_osl own7 hw'⟩)
theorem plc_calls (i : Int) (m : Nat) (h0 : 0 < m) (hm : m ≤ 1000000) (w : World) (hw : Gt w) : Calls Try.prog 29 [I i, I (m : Int)].toArray w (fun e w' => ∃ k : Nat, e = .returned (I (k : Int)) ∧ k < m ∧ Grow w w') := by
  have h1 := Int.tmod_lt_of_pos i (b := (m : Int)) (by omega)
  have h2 := Int.lt_tmod_of_pos i (b := (m : Int)) (by omega)
  have hGF : BOk Gt (pl w) := gt_low.plain hw
  refine calls_of_X (G := Gt) Try.func29 rfl rfl (Hp (pl w) []) (hp_refl (pl w) trivial rides_true) (good_hp hGF) ?_
  refine xs_plain (E := EE []) ?_
  refine lx_assign rfl rfl rfl ?_
  refine lx_nil ?_
  refine xs_plain (E := EE []) ?_
  refine lx_move rfl rfl rfl ?_
  refine lx_move rfl rfl rfl ?_
  refine lx_bin (v := I (i.tmod (m : Int))) rfl rfl (fun _ => rfl) (fun _ => bin_rem_i _ _ _ (by omega)) rfl rfl ?_
  refine lx_assign rfl rfl rfl ?_
  refine lx_nil ?_
  refine x_seq ?_
  refine xs_plain (E := EE []) ?_
  refine lx_move rfl rfl rfl ?_
  refine lx_bin rfl rfl (fun _ => rfl) (fun _ => bin_lss_i _ _ _) rfl rfl ?_
  refine lx_nil ?_
  refine x_if rfl (fun hc => ?_) (fun hc => ?_)
  · simp only [decide_eq_true_eq] at hc
    refine x_plain (E := EE []) ?_
    refine lx_move rfl rfl rfl ?_
    refine lx_move rfl rfl rfl ?_
    refine lx_bin (v := I (i.tmod (m : Int) + m)) rfl rfl (fun _ => rfl) (fun _ => bin_add_i _ _ _ (by unfold inI; omega)) rfl rfl ?_
    refine lx_assign rfl rfl rfl ?_
    refine lx_nil ?_
    refine xs_plain (E := EE []) ?_
    refine lx_move rfl rfl rfl ?_
    refine lx_assign rfl rfl rfl ?_
    refine lx_nil ?_
    refine x_ret ?_
    repeat (first | refine kseq_ret ?_ | refine kblk_ret ?_)
    exact kret_tmp rfl rfl (fun w' hw' => ⟨(if i.tmod (m : Int) < 0 then i.tmod (m : Int) + m else i.tmod (m : Int)).toNat, by congr 2; split <;> omega, by split <;> omega, hp_below hw'⟩)
  · simp only [decide_eq_false_iff_not] at hc
    refine x_skip ?_
    refine xs_plain (E := EE []) ?_
    refine lx_move rfl rfl rfl ?_
    refine lx_assign rfl rfl rfl ?_
    refine lx_nil ?_
    refine x_ret ?_
    repeat (first | refine kseq_ret ?_ | refine kblk_ret ?_)
    exact kret_tmp rfl rfl (fun w' hw' => ⟨(if i.tmod (m : Int) < 0 then i.tmod (m : Int) + m else i.tmod (m : Int)).toNat, by congr 2; split <;> omega, by split <;> omega, hp_below hw'⟩)
end Go.Proofs.Ytlaanjcnfindnaa
