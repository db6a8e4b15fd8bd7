/-
  The walks of the laws LimbsSums, LimbsMods, LimbsMonts.
-/
import Derived.Test.YteohckfbphdngaaN9
namespace Go.Proofs.Yteohckfbphdngaa
open Go.RowKit
set_option maxRecDepth 100000
set_option maxHeartbeats 1000000
theorem back_eq (a b : List (BitVec 64)) (ha : a.length = 6) : (SS (AS a b 6).1 b 6).1 = a := by
  have h1 := AS_val6 a b
  have h2 := SS_val6 (AS a b 6).1 b
  have h3 := V_lt6 (SS (AS a b 6).1 b 6).1
  have h4 := V_lt6 a
  refine V_inj 6 (SS_len _ _ _) ha ?_
  rcases bit_cases _ (AS_c a b 6) with ⟨_, e1⟩ | ⟨_, e1⟩ <;> rcases bit_cases _ (SS_c (AS a b 6).1 b 6) with ⟨_, e2⟩ | ⟨_, e2⟩ <;> rw [e1] at h1 <;> rw [e2] at h2 <;> omega
theorem again_eq (a b : List (BitVec 64)) (ha : a.length = 6) : (AS (SS a b 6).1 b 6).1 = a := by
  have h1 := SS_val6 a b
  have h2 := AS_val6 (SS a b 6).1 b
  have h3 := V_lt6 (AS (SS a b 6).1 b 6).1
  have h4 := V_lt6 a
  refine V_inj 6 (AS_len _ _ _) ha ?_
  rcases bit_cases _ (SS_c a b 6) with ⟨_, e1⟩ | ⟨_, e1⟩ <;> rcases bit_cases _ (AS_c (SS a b 6).1 b 6) with ⟨_, e2⟩ | ⟨_, e2⟩ <;> rw [e1] at h1 <;> rw [e2] at h2 <;> omega
theorem less_eq (a b : List (BitVec 64)) : LT a b 6 = ((SS a b 6).2 == 1#64) := by
  have h1 := SS_val6 a b
  have h3 := V_lt6 (SS a b 6).1
  have h4 := V_lt6 b
  rw [LT_val]
  rcases bit_cases _ (SS_c a b 6) with ⟨e0, e1⟩ | ⟨e0, e1⟩ <;> rw [e1] at h1
  · rw [decide_eq_false (by omega), e0]; rfl
  · rw [decide_eq_true (by omega), e0]; rfl
theorem less_irr (a : List (BitVec 64)) : LT a a 6 = false := by rw [LT_val, decide_eq_false (Nat.lt_irrefl _)]
theorem less_true (a b : List (BitVec 64)) (ha : a.length = 6) (hb : b.length = 6) (h : LT a b 6 = true) : Pure Try.prog Gt 14 [.agg (a.map U64).toArray, .agg (b.map U64).toArray] (.bool true) := by
  rw [← h]; exact less_pure a b ha hb
theorem mod_less (t m : List (BitVec 64)) (hm : m.length = 6) (hz : ¬ m = List.replicate 6 0) : LT (MOD t m) m 6 = true := by
  rw [LT_val, MOD_val t m hm hz, decide_eq_true (Nat.mod_lt _ (V_pos m hm hz))]
theorem and_mod (x : BitVec 64) : x &&& 1#64 = x % 2 := by
  apply BitVec.eq_of_toNat_eq
  rw [BitVec.toNat_and, BitVec.toNat_umod]
  exact Nat.and_one_is_mod _
theorem pow_gen2 (n k : Nat) : 2 ^ (64 * (n + k)) = 2 ^ (64 * k) * 2 ^ (64 * n) := by rw [Nat.mul_add, Nat.pow_add, Nat.mul_comm]
theorem pow_add6 (k : Nat) : 2 ^ (64 * (6 + k)) = 2 ^ (64 * k) * R6 := by rw [R6_def]; exact pow_gen2 6 k
theorem V_back (r : List (BitVec 64)) : V (List.replicate 6 0 ++ r) 12 = V r 6 * R6 := by
  have z : ∀ k, k ≤ 6 → V (List.replicate 6 0 ++ r) k = 0 := fun k => by
    induction k with
    | zero => intro _; rfl
    | succ k ih =>
      intro hk
      have : (List.replicate 6 0 ++ r).getD k 0 = 0 := by
        rw [List.getD_eq_getElem?_getD, List.getElem?_append_left (by simp; omega), List.getElem?_replicate, if_pos (by omega)]
        rfl
      rw [V, ih (by omega), this, show (0 : BitVec 64).toNat = 0 from rfl, Nat.zero_mul]
  have key : ∀ k, V (List.replicate 6 0 ++ r) (6 + k) = V r k * R6 := fun k => by
    induction k with
    | zero => rw [z 6 (Nat.le_refl _), V, Nat.zero_mul]
    | succ k ih =>
      have : (List.replicate 6 0 ++ r).getD (6 + k) 0 = r.getD k 0 := by
        simp only [List.getD_eq_getElem?_getD]
        rw [List.getElem?_append_right (by simp), List.length_replicate, Nat.add_sub_cancel_left]
      rw [← Nat.add_assoc, V, ih, this, V, pow_add6, Nat.add_mul, Nat.mul_assoc]
  exact key 6
theorem mont_mod (a b m : List (BitVec 64)) (ha : a.length = 6) (hm : m.length = 6) (h : ¬ m.getD 0 0 % 2 = 0) : MOD (List.replicate 6 0 ++ MONT a b m) m = MOD (MU a b 6) m := by
  have hz := odd_nz m (odd_ne m h)
  refine V_inj 6 (MOD_len _ _) (MOD_len _ _) ?_
  rw [MOD_val _ m hm hz, MOD_val _ m hm hz, V_back, (MONT_val a b m ha hm h).2, MU_val a b 6 (Nat.le_refl _)]
theorem lay_back (r : List (BitVec 64)) (h : r.length = 6) : lay 6 (r.map U64) ((List.replicate 12 0#64).map U64) = (List.replicate 6 0 ++ r).map U64 := by
  rw [lay_eq _ _ _ (by simp [h])]
  simp [h]

theorem sums_law (a b : List (BitVec 64)) (ha : a.length = 6) (hb : b.length = 6) : Pure Try.prog Gt 3 [.agg ((a).map U64).toArray, .agg ((b).map U64).toArray] (.bool true) := by
  intro w hw
  have hGF : BOk Gt (pl w) := gt_low.plain hw
  refine calls_of_X (G := Gt) Try.func3 rfl rfl (Hp (pl w) []) (hp_refl (pl w) trivial rides_true) (good_hp hGF) ?_
  refine xs_plain (E := EE []) ?_
  refine lx_boxr 2 hGF rfl rfl rfl ?_
  intro b2
  refine lx_boxr 3 hGF rfl rfl rfl ?_
  intro b3
  refine lx_assign rfl rfl rfl ?_
  refine lx_nil ?_
  refine x_seq ?_
  refine xs_plain (E := EE []) ?_
  refine lx_call rfl rfl ent9 (known_pure) rfl rfl ?_
  refine lx_un (v := .bool false) rfl (fun _ => un_not _) rfl rfl ?_
  refine lx_nil ?_
  refine x_false rfl ?_
  refine x_skip ?_
  refine xs_plain (E := EE []) ?_
  refine lx_loada 2 rfl rfl Try.isAgg23 Try.sizeOf23 (by rw [List.length_map, ha]) rfl rfl ?_
  refine lx_loada 3 rfl rfl Try.isAgg23 Try.sizeOf23 (by rw [List.length_map, hb]) rfl rfl ?_
  refine lx_call rfl rfl ent10 (add_pure a b ha hb) rfl rfl ?_
  refine lx_move rfl rfl rfl ?_
  refine lx_ext rfl rfl rfl rfl ?_
  refine lx_ext rfl rfl rfl rfl ?_
  refine lx_allocr 5 hGF zv23 rfl rfl ?_
  intro b5
  refine lx_storea 5 hGF rfl rfl rfl Try.sizeOf23 (by rw [List.length_map, AS_len _ _ _]) (by rw [List.length_map, List.length_replicate]) (one_u64 _) rfl ?_
  refine lx_assign rfl rfl rfl ?_
  refine lx_nil ?_
  refine xs_plain (E := EE []) ?_
  refine lx_loada 2 rfl rfl Try.isAgg23 Try.sizeOf23 (by rw [List.length_map, ha]) rfl rfl ?_
  refine lx_loada 3 rfl rfl Try.isAgg23 Try.sizeOf23 (by rw [List.length_map, hb]) rfl rfl ?_
  refine lx_call rfl rfl ent11 (sub_pure a b ha hb) rfl rfl ?_
  refine lx_move rfl rfl rfl ?_
  refine lx_ext rfl rfl rfl rfl ?_
  refine lx_ext rfl rfl rfl rfl ?_
  refine lx_allocr 7 hGF zv23 rfl rfl ?_
  intro b7
  refine lx_storea 7 hGF rfl rfl rfl Try.sizeOf23 (by rw [List.length_map, SS_len _ _ _]) (by rw [List.length_map, List.length_replicate]) (one_u64 _) rfl ?_
  refine lx_assign rfl rfl rfl ?_
  refine lx_nil ?_
  refine xs_plain (E := EE []) ?_
  refine lx_loada 2 rfl rfl Try.isAgg23 Try.sizeOf23 (by rw [List.length_map, ha]) rfl rfl ?_
  refine lx_loada 3 rfl rfl Try.isAgg23 Try.sizeOf23 (by rw [List.length_map, hb]) rfl rfl ?_
  refine lx_call rfl rfl ent12 (radd_pure a b ha hb) rfl rfl ?_
  refine lx_move rfl rfl rfl ?_
  refine lx_ext rfl rfl rfl rfl ?_
  refine lx_ext rfl rfl rfl rfl ?_
  refine lx_allocr 9 hGF zv27 rfl rfl ?_
  intro b9
  refine lx_storea 9 hGF rfl rfl rfl Try.sizeOf27 (by rw [List.length_map, AS_len _ _ _]) (by rw [List.length_map, List.length_replicate]) (one_u64 _) rfl ?_
  refine lx_assign rfl rfl rfl ?_
  refine lx_nil ?_
  refine xs_plain (E := EE []) ?_
  refine lx_loada 2 rfl rfl Try.isAgg23 Try.sizeOf23 (by rw [List.length_map, ha]) rfl rfl ?_
  refine lx_loada 3 rfl rfl Try.isAgg23 Try.sizeOf23 (by rw [List.length_map, hb]) rfl rfl ?_
  refine lx_call rfl rfl ent13 (rsub_pure a b ha hb) rfl rfl ?_
  refine lx_move rfl rfl rfl ?_
  refine lx_ext rfl rfl rfl rfl ?_
  refine lx_ext rfl rfl rfl rfl ?_
  refine lx_allocr 11 hGF zv27 rfl rfl ?_
  intro b11
  refine lx_storea 11 hGF rfl rfl rfl Try.sizeOf27 (by rw [List.length_map, SS_len _ _ _]) (by rw [List.length_map, List.length_replicate]) (one_u64 _) rfl ?_
  refine lx_assign rfl rfl rfl ?_
  refine lx_nil ?_
  refine xs_plain (E := EE []) ?_
  refine lx_loada 5 rfl rfl Try.isAgg23 Try.sizeOf23 (by rw [List.length_map, AS_len]) rfl rfl ?_
  refine lx_loada 3 rfl rfl Try.isAgg23 Try.sizeOf23 (by rw [List.length_map, hb]) rfl rfl ?_
  refine lx_call rfl rfl ent11 (sub_pure (AS a b 6).1 b (AS_len _ _ _) hb) rfl rfl ?_
  refine lx_move rfl rfl rfl ?_
  refine lx_ext rfl rfl rfl rfl ?_
  refine lx_ext rfl rfl rfl rfl ?_
  refine lx_allocr 13 hGF zv23 rfl rfl ?_
  intro b13
  refine lx_storea 13 hGF rfl rfl rfl Try.sizeOf23 (by rw [List.length_map, SS_len _ _ _]) (by rw [List.length_map, List.length_replicate]) (one_u64 _) rfl ?_
  refine lx_assign rfl rfl rfl ?_
  refine lx_nil ?_
  refine xs_plain (E := EE []) ?_
  refine lx_loada 7 rfl rfl Try.isAgg23 Try.sizeOf23 (by rw [List.length_map, SS_len]) rfl rfl ?_
  refine lx_loada 3 rfl rfl Try.isAgg23 Try.sizeOf23 (by rw [List.length_map, hb]) rfl rfl ?_
  refine lx_call rfl rfl ent10 (add_pure (SS a b 6).1 b (SS_len _ _ _) hb) rfl rfl ?_
  refine lx_move rfl rfl rfl ?_
  refine lx_ext rfl rfl rfl rfl ?_
  refine lx_ext rfl rfl rfl rfl ?_
  refine lx_allocr 15 hGF zv23 rfl rfl ?_
  intro b15
  refine lx_storea 15 hGF rfl rfl rfl Try.sizeOf23 (by rw [List.length_map, AS_len _ _ _]) (by rw [List.length_map, List.length_replicate]) (one_u64 _) rfl ?_
  refine lx_assign rfl rfl rfl ?_
  refine lx_nil ?_
  refine xs_plain (E := EE []) ?_
  refine lx_loada 5 rfl rfl Try.isAgg23 Try.sizeOf23 (by rw [List.length_map, AS_len]) rfl rfl ?_
  refine lx_loada 9 rfl rfl Try.isAgg27 Try.sizeOf27 (by rw [List.length_map, AS_len]) rfl rfl ?_
  refine lx_bin (v := .bool true) rfl rfl (fun w => eqg _ _ _ _ _ w) (fun w => (eq23 (AS a b 6).1 (AS a b 6).1 (AS_len _ _ _) (AS_len _ _ _) w).trans (by rw [decide_eq_true rfl])) rfl rfl ?_
  refine lx_move rfl rfl rfl ?_
  refine lx_move rfl rfl rfl ?_
  refine lx_move rfl rfl rfl ?_
  refine lx_bin (v := .bool true) rfl rfl (fun _ => rfl) (fun w => (bin_eql_u64 _ _ _).trans (congrArg (fun b => Result.ok (Value.bool b) w) (beq_iff_eq.2 (rfl)))) rfl rfl ?_
  refine lx_pick rfl rfl rfl rfl rfl ?_
  refine lx_move rfl rfl rfl ?_
  refine lx_loada 7 rfl rfl Try.isAgg23 Try.sizeOf23 (by rw [List.length_map, SS_len]) rfl rfl ?_
  refine lx_loada 11 rfl rfl Try.isAgg27 Try.sizeOf27 (by rw [List.length_map, SS_len]) rfl rfl ?_
  refine lx_bin (v := .bool true) rfl rfl (fun w => eqg _ _ _ _ _ w) (fun w => (eq23 (SS a b 6).1 (SS a b 6).1 (SS_len _ _ _) (SS_len _ _ _) w).trans (by rw [decide_eq_true rfl])) rfl rfl ?_
  refine lx_pick rfl rfl rfl rfl rfl ?_
  refine lx_move rfl rfl rfl ?_
  refine lx_move rfl rfl rfl ?_
  refine lx_move rfl rfl rfl ?_
  refine lx_bin (v := .bool true) rfl rfl (fun _ => rfl) (fun w => (bin_eql_u64 _ _ _).trans (congrArg (fun b => Result.ok (Value.bool b) w) (beq_iff_eq.2 (rfl)))) rfl rfl ?_
  refine lx_pick rfl rfl rfl rfl rfl ?_
  refine lx_move rfl rfl rfl ?_
  refine lx_loada 13 rfl rfl Try.isAgg23 Try.sizeOf23 (by rw [List.length_map, SS_len]) rfl rfl ?_
  refine lx_loada 2 rfl rfl Try.isAgg23 Try.sizeOf23 (by rw [List.length_map, ha]) rfl rfl ?_
  refine lx_bin (v := .bool true) rfl rfl (fun w => eqg _ _ _ _ _ w) (fun w => (eq23 (SS (AS a b 6).1 b 6).1 a (SS_len _ _ _) ha w).trans (by rw [decide_eq_true (back_eq a b ha)])) rfl rfl ?_
  refine lx_pick rfl rfl rfl rfl rfl ?_
  refine lx_move rfl rfl rfl ?_
  refine lx_loada 15 rfl rfl Try.isAgg23 Try.sizeOf23 (by rw [List.length_map, AS_len]) rfl rfl ?_
  refine lx_loada 2 rfl rfl Try.isAgg23 Try.sizeOf23 (by rw [List.length_map, ha]) rfl rfl ?_
  refine lx_bin (v := .bool true) rfl rfl (fun w => eqg _ _ _ _ _ w) (fun w => (eq23 (AS (SS a b 6).1 b 6).1 a (AS_len _ _ _) ha w).trans (by rw [decide_eq_true (again_eq a b ha)])) rfl rfl ?_
  refine lx_pick rfl rfl rfl rfl rfl ?_
  refine lx_move rfl rfl rfl ?_
  refine lx_loada 2 rfl rfl Try.isAgg23 Try.sizeOf23 (by rw [List.length_map, ha]) rfl rfl ?_
  refine lx_loada 3 rfl rfl Try.isAgg23 Try.sizeOf23 (by rw [List.length_map, hb]) rfl rfl ?_
  refine lx_call rfl rfl ent14 (less_pure a b ha hb) rfl rfl ?_
  refine lx_move rfl rfl rfl ?_
  refine lx_bin rfl rfl (fun _ => rfl) (fun _ => bin_eql_u64 _ _ _) rfl rfl ?_
  refine lx_bin (v := .bool true) rfl rfl (fun _ => rfl) (fun w => (bin_eql_bool 4 Try.underlying4 _ _ w).trans (congrArg (fun b => Result.ok (Value.bool b) w) (beq_iff_eq.2 (less_eq a b)))) rfl rfl ?_
  refine lx_pick rfl rfl rfl rfl rfl ?_
  refine lx_move rfl rfl rfl ?_
  refine lx_loada 2 rfl rfl Try.isAgg23 Try.sizeOf23 (by rw [List.length_map, ha]) rfl rfl ?_
  refine lx_loada 2 rfl rfl Try.isAgg23 Try.sizeOf23 (by rw [List.length_map, ha]) rfl rfl ?_
  refine lx_call rfl rfl ent14 (less_pure a a ha ha) rfl rfl ?_
  refine lx_un (v := .bool true) rfl (fun _ => (un_not _).trans (by rw [less_irr]; rfl)) rfl rfl ?_
  refine lx_pick rfl rfl rfl rfl rfl ?_
  refine lx_assign rfl rfl rfl ?_
  refine lx_nil ?_
  refine x_ret ?_
  repeat (first | refine kseq_ret ?_ | refine kblk_ret ?_)
  exact kret_tmp rfl rfl (fun w hw => ⟨rfl, hp_below hw⟩)
theorem mods_law (t m : List (BitVec 64)) (ht : t.length = 12) (hm : m.length = 6) : Pure Try.prog Gt 5 [.agg ((t).map U64).toArray, .agg ((m).map U64).toArray] (.bool true) := by
  intro w hw
  have hGF : BOk Gt (pl w) := gt_low.plain hw
  refine calls_of_X (G := Gt) Try.func5 rfl rfl (Hp (pl w) []) (hp_refl (pl w) trivial rides_true) (good_hp hGF) ?_
  by_cases hz : m = List.replicate 6 0
  · skip
    refine xs_plain (E := EE []) ?_
    refine lx_boxr 2 hGF rfl rfl rfl ?_
    intro b2
    refine lx_boxr 3 hGF rfl rfl rfl ?_
    intro b3
    refine lx_assign rfl rfl rfl ?_
    refine lx_nil ?_
    refine x_seq ?_
    refine xs_plain (E := EE []) ?_
    refine lx_call rfl rfl ent9 (known_pure) rfl rfl ?_
    refine lx_un (v := .bool false) rfl (fun _ => un_not _) rfl rfl ?_
    refine lx_nil ?_
    refine x_false rfl ?_
    refine x_skip ?_
    refine xs_plain (E := EE []) ?_
    refine lx_loada 2 rfl rfl Try.isAgg31 Try.sizeOf31 (by rw [List.length_map, ht]) rfl rfl ?_
    refine lx_loada 3 rfl rfl Try.isAgg23 Try.sizeOf23 (by rw [List.length_map, hm]) rfl rfl ?_
    refine lx_call rfl rfl ent17 (mod_pure t m ht hm) rfl rfl ?_
    refine lx_allocr 5 hGF zv23 rfl rfl ?_
    intro b5
    refine lx_storea 5 hGF rfl rfl rfl Try.sizeOf23 (by rw [List.length_map, MOD_len _ _]) (by rw [List.length_map, List.length_replicate]) (one_u64 _) rfl ?_
    refine lx_nil ?_
    refine xs_drawn (E := EE []) mixed (by kernel_rfl) (by kernel_rfl) (by kernel_rfl) ?_
    refine lx_loada 5 rfl rfl Try.isAgg23 Try.sizeOf23 (by rw [List.length_map, MOD_len]) rfl rfl ?_
    refine lx_loada 2 rfl rfl Try.isAgg31 Try.sizeOf31 (by rw [List.length_map, ht]) rfl rfl ?_
    refine lx_loada 3 rfl rfl Try.isAgg23 Try.sizeOf23 (by rw [List.length_map, hm]) rfl rfl ?_
    refine lx_call rfl rfl ent18 (rmod_pure t m ht hm) rfl rfl ?_
    refine lx_bin (v := .bool true) rfl rfl (fun w => eqg _ _ _ _ _ w) (fun w => (eq23 (MOD t m) (MOD t m) (MOD_len _ _) (MOD_len _ _) w).trans (by rw [decide_eq_true rfl])) rfl rfl ?_
    refine lx_move rfl rfl rfl ?_
    refine lx_loada 3 rfl rfl Try.isAgg23 Try.sizeOf23 (by rw [List.length_map, hm]) rfl rfl ?_
    refine lx_buildz zv23 Try.underlying23 Try.sizeOf22 rfl rfl ?_
    refine lx_bin (v := .bool true) rfl rfl (fun w => eqg _ _ _ _ _ w) (fun w => (eq23 m (List.replicate 6 0) hm rfl w).trans (by rw [decide_eq_true hz])) rfl rfl ?_
    refine lx_move rfl rfl rfl ?_
    refine lx_skip rfl rfl rfl ?_
    refine lx_skip rfl rfl rfl ?_
    refine lx_skip rfl rfl rfl ?_
    refine lx_pick rfl rfl rfl rfl rfl ?_
    refine lx_pick rfl rfl rfl rfl rfl ?_
    refine lx_assign rfl rfl rfl ?_
    refine lx_nil ?_
    refine x_ret ?_
    repeat (first | refine kseq_ret ?_ | refine kblk_ret ?_)
    exact kret_tmp rfl rfl (fun w hw => ⟨rfl, hp_below hw⟩)
  · skip
    refine xs_plain (E := EE []) ?_
    refine lx_boxr 2 hGF rfl rfl rfl ?_
    intro b2
    refine lx_boxr 3 hGF rfl rfl rfl ?_
    intro b3
    refine lx_assign rfl rfl rfl ?_
    refine lx_nil ?_
    refine x_seq ?_
    refine xs_plain (E := EE []) ?_
    refine lx_call rfl rfl ent9 (known_pure) rfl rfl ?_
    refine lx_un (v := .bool false) rfl (fun _ => un_not _) rfl rfl ?_
    refine lx_nil ?_
    refine x_false rfl ?_
    refine x_skip ?_
    refine xs_plain (E := EE []) ?_
    refine lx_loada 2 rfl rfl Try.isAgg31 Try.sizeOf31 (by rw [List.length_map, ht]) rfl rfl ?_
    refine lx_loada 3 rfl rfl Try.isAgg23 Try.sizeOf23 (by rw [List.length_map, hm]) rfl rfl ?_
    refine lx_call rfl rfl ent17 (mod_pure t m ht hm) rfl rfl ?_
    refine lx_allocr 5 hGF zv23 rfl rfl ?_
    intro b5
    refine lx_storea 5 hGF rfl rfl rfl Try.sizeOf23 (by rw [List.length_map, MOD_len _ _]) (by rw [List.length_map, List.length_replicate]) (one_u64 _) rfl ?_
    refine lx_nil ?_
    refine xs_drawn (E := EE []) mixed (by kernel_rfl) (by kernel_rfl) (by kernel_rfl) ?_
    refine lx_loada 5 rfl rfl Try.isAgg23 Try.sizeOf23 (by rw [List.length_map, MOD_len]) rfl rfl ?_
    refine lx_loada 2 rfl rfl Try.isAgg31 Try.sizeOf31 (by rw [List.length_map, ht]) rfl rfl ?_
    refine lx_loada 3 rfl rfl Try.isAgg23 Try.sizeOf23 (by rw [List.length_map, hm]) rfl rfl ?_
    refine lx_call rfl rfl ent18 (rmod_pure t m ht hm) rfl rfl ?_
    refine lx_bin (v := .bool true) rfl rfl (fun w => eqg _ _ _ _ _ w) (fun w => (eq23 (MOD t m) (MOD t m) (MOD_len _ _) (MOD_len _ _) w).trans (by rw [decide_eq_true rfl])) rfl rfl ?_
    refine lx_move rfl rfl rfl ?_
    refine lx_loada 3 rfl rfl Try.isAgg23 Try.sizeOf23 (by rw [List.length_map, hm]) rfl rfl ?_
    refine lx_buildz zv23 Try.underlying23 Try.sizeOf22 rfl rfl ?_
    refine lx_bin (v := .bool false) rfl rfl (fun w => eqg _ _ _ _ _ w) (fun w => (eq23 m (List.replicate 6 0) hm rfl w).trans (by rw [decide_eq_false hz])) rfl rfl ?_
    refine lx_move rfl rfl rfl ?_
    refine lx_loada 5 rfl rfl Try.isAgg23 Try.sizeOf23 (by rw [List.length_map, MOD_len]) rfl rfl ?_
    refine lx_loada 3 rfl rfl Try.isAgg23 Try.sizeOf23 (by rw [List.length_map, hm]) rfl rfl ?_
    refine lx_call rfl rfl ent14 (less_true (MOD t m) m (MOD_len _ _) hm (mod_less t m hm hz)) rfl rfl ?_
    refine lx_pick rfl rfl rfl rfl rfl ?_
    refine lx_pick rfl rfl rfl rfl rfl ?_
    refine lx_assign rfl rfl rfl ?_
    refine lx_nil ?_
    refine x_ret ?_
    repeat (first | refine kseq_ret ?_ | refine kblk_ret ?_)
    exact kret_tmp rfl rfl (fun w hw => ⟨rfl, hp_below hw⟩)
theorem monts_law (a b m : List (BitVec 64)) (ha : a.length = 6) (hb : b.length = 6) (hm : m.length = 6) : Pure Try.prog Gt 6 [.agg ((a).map U64).toArray, .agg ((b).map U64).toArray, .agg ((m).map U64).toArray] (.bool true) := by
  intro w hw
  have hGF : BOk Gt (pl w) := gt_low.plain hw
  refine calls_of_X (G := Gt) Try.func6 rfl rfl (Hp (pl w) []) (hp_refl (pl w) trivial rides_true) (good_hp hGF) ?_
  by_cases h0 : m.getD 0 0 % 2 = 0
  · skip
    refine xs_plain (E := EE []) ?_
    refine lx_boxr 3 hGF rfl rfl rfl ?_
    intro b3
    refine lx_boxr 4 hGF rfl rfl rfl ?_
    intro b4
    refine lx_boxr 5 hGF rfl rfl rfl ?_
    intro b5
    refine lx_assign rfl rfl rfl ?_
    refine lx_nil ?_
    refine x_seq ?_
    refine xs_plain (E := EE []) ?_
    refine lx_call rfl rfl ent9 (known_pure) rfl rfl ?_
    refine lx_un (v := .bool false) rfl (fun _ => un_not _) rfl rfl ?_
    refine lx_nil ?_
    refine x_false rfl ?_
    refine x_skip ?_
    refine xs_plain (E := EE []) ?_
    refine lx_loada 3 rfl rfl Try.isAgg23 Try.sizeOf23 (by rw [List.length_map, ha]) rfl rfl ?_
    refine lx_loada 4 rfl rfl Try.isAgg23 Try.sizeOf23 (by rw [List.length_map, hb]) rfl rfl ?_
    refine lx_loada 5 rfl rfl Try.isAgg23 Try.sizeOf23 (by rw [List.length_map, hm]) rfl rfl ?_
    refine lx_call rfl rfl ent19 (mont_pure a b m ha hb hm) rfl rfl ?_
    refine lx_allocr 7 hGF zv23 rfl rfl ?_
    intro b7
    refine lx_storea 7 hGF rfl rfl rfl Try.sizeOf23 (by rw [List.length_map, MONT_len _ _ _]) (by rw [List.length_map, List.length_replicate]) (one_u64 _) rfl ?_
    refine lx_nil ?_
    refine x_seq ?_
    refine xs_plain (E := EE []) ?_
    refine lx_ia0 (0) rfl rfl Try.underlying23 Try.sizeOf22 (by omega) (by omega) rfl rfl ?_
    refine lx_loadm 5 U64 0 rfl rfl Try.isAgg22 (by rw [hm]; omega) rfl rfl ?_
    refine lx_bin rfl rfl (fun _ => rfl) (fun _ => bin_and_u64 _ _ _) rfl rfl ?_
    refine lx_bin (v := .bool true) rfl rfl (fun _ => rfl) (fun w => (bin_eql_u64 _ _ _).trans (congrArg (fun b => Result.ok (Value.bool b) w) (beq_iff_eq.2 ((and_mod _).trans h0)))) rfl rfl ?_
    refine lx_nil ?_
    refine x_true rfl ?_
    refine xs_plain (E := EE []) ?_
    refine lx_loada 7 rfl rfl Try.isAgg23 Try.sizeOf23 (by rw [List.length_map, MONT_len]) rfl rfl ?_
    refine lx_buildz zv23 Try.underlying23 Try.sizeOf22 rfl rfl ?_
    refine lx_bin (v := .bool true) rfl rfl (fun w => eqg _ _ _ _ _ w) (fun w => (eq23 (MONT a b m) (List.replicate 6 0) (MONT_len _ _ _) rfl w).trans (by rw [decide_eq_true (by rw [MONT, if_pos h0])])) rfl rfl ?_
    refine lx_assign rfl rfl rfl ?_
    refine lx_nil ?_
    refine x_ret ?_
    repeat (first | refine kseq_ret ?_ | refine kblk_ret ?_)
    exact kret_tmp rfl rfl (fun w hw => ⟨rfl, hp_below hw⟩)
  · skip
    refine xs_plain (E := EE []) ?_
    refine lx_boxr 3 hGF rfl rfl rfl ?_
    intro b3
    refine lx_boxr 4 hGF rfl rfl rfl ?_
    intro b4
    refine lx_boxr 5 hGF rfl rfl rfl ?_
    intro b5
    refine lx_assign rfl rfl rfl ?_
    refine lx_nil ?_
    refine x_seq ?_
    refine xs_plain (E := EE []) ?_
    refine lx_call rfl rfl ent9 (known_pure) rfl rfl ?_
    refine lx_un (v := .bool false) rfl (fun _ => un_not _) rfl rfl ?_
    refine lx_nil ?_
    refine x_false rfl ?_
    refine x_skip ?_
    refine xs_plain (E := EE []) ?_
    refine lx_loada 3 rfl rfl Try.isAgg23 Try.sizeOf23 (by rw [List.length_map, ha]) rfl rfl ?_
    refine lx_loada 4 rfl rfl Try.isAgg23 Try.sizeOf23 (by rw [List.length_map, hb]) rfl rfl ?_
    refine lx_loada 5 rfl rfl Try.isAgg23 Try.sizeOf23 (by rw [List.length_map, hm]) rfl rfl ?_
    refine lx_call rfl rfl ent19 (mont_pure a b m ha hb hm) rfl rfl ?_
    refine lx_allocr 7 hGF zv23 rfl rfl ?_
    intro b7
    refine lx_storea 7 hGF rfl rfl rfl Try.sizeOf23 (by rw [List.length_map, MONT_len _ _ _]) (by rw [List.length_map, List.length_replicate]) (one_u64 _) rfl ?_
    refine lx_nil ?_
    refine x_seq ?_
    refine xs_plain (E := EE []) ?_
    refine lx_ia0 (0) rfl rfl Try.underlying23 Try.sizeOf22 (by omega) (by omega) rfl rfl ?_
    refine lx_loadm 5 U64 0 rfl rfl Try.isAgg22 (by rw [hm]; omega) rfl rfl ?_
    refine lx_bin rfl rfl (fun _ => rfl) (fun _ => bin_and_u64 _ _ _) rfl rfl ?_
    refine lx_bin (v := .bool false) rfl rfl (fun _ => rfl) (fun w => (bin_eql_u64 _ _ _).trans (congrArg (fun b => Result.ok (Value.bool b) w) (beq_eq_false_iff_ne.2 (fun e => h0 ((and_mod _).symm.trans e))))) rfl rfl ?_
    refine lx_nil ?_
    refine x_false rfl ?_
    refine x_skip ?_
    refine xs_plain (E := EE []) ?_
    refine lx_allocr 8 hGF zv31 rfl rfl ?_
    intro b8
    refine lx_nil ?_
    refine xs_drawn (E := EE []) mixed (by kernel_rfl) (by kernel_rfl) (by kernel_rfl) ?_
    refine lx_slarr1 (l := 6) (h' := 12) rfl Try.underlying31 Try.sizeOf22 rfl rfl (by omega) (by omega) rfl rfl ?_
    refine lx_slarr1 (l := 0) (h' := 6) rfl Try.underlying23 Try.sizeOf22 rfl rfl (by omega) (by omega) rfl rfl ?_
    refine lx_copy (cs := (MONT a b m).map U64) 8 hGF rfl rfl rfl Try.underlying40 info22 (by rw [List.length_map, MONT_len]; rfl) (fun w' h j v hv => by rw [Addr.add_mid]; exact hp_row (n := 7) rfl w' h j v hv) (one_u64 _) (by rw [List.length_map, List.length_map, MONT_len]; decide) rfl rfl ?_
    rw [lay_back (MONT a b m) (MONT_len _ _ _)]
    refine lx_nil ?_
    refine xs_drawn (E := EE []) mixed (by kernel_rfl) (by kernel_rfl) (by kernel_rfl) ?_
    refine lx_loada 7 rfl rfl Try.isAgg23 Try.sizeOf23 (by rw [List.length_map, MONT_len]) rfl rfl ?_
    refine lx_loada 5 rfl rfl Try.isAgg23 Try.sizeOf23 (by rw [List.length_map, hm]) rfl rfl ?_
    refine lx_call rfl rfl ent14 (less_true (MONT a b m) m (MONT_len _ _ _) hm (by rw [LT_val, decide_eq_true (MONT_val a b m ha hm h0).1])) rfl rfl ?_
    refine lx_move rfl rfl rfl ?_
    refine lx_loada 8 rfl rfl Try.isAgg31 Try.sizeOf31 (by rw [List.length_map, List.length_append, MONT_len]; rfl) rfl rfl ?_
    refine lx_loada 5 rfl rfl Try.isAgg23 Try.sizeOf23 (by rw [List.length_map, hm]) rfl rfl ?_
    refine lx_call rfl rfl ent18 (rmod_pure (List.replicate 6 0 ++ MONT a b m) m (by rw [List.length_append, MONT_len]; rfl) hm) rfl rfl ?_
    refine lx_loada 3 rfl rfl Try.isAgg23 Try.sizeOf23 (by rw [List.length_map, ha]) rfl rfl ?_
    refine lx_loada 4 rfl rfl Try.isAgg23 Try.sizeOf23 (by rw [List.length_map, hb]) rfl rfl ?_
    refine lx_call rfl rfl ent16 (times_pure a b ha hb) rfl rfl ?_
    refine lx_loada 5 rfl rfl Try.isAgg23 Try.sizeOf23 (by rw [List.length_map, hm]) rfl rfl ?_
    refine lx_call rfl rfl ent18 (rmod_pure (MU a b 6) m (MU_len _ _ _) hm) rfl rfl ?_
    refine lx_bin (v := .bool true) rfl rfl (fun w => eqg27 _ _ _ _ _ w) (fun w => (eq27 (MOD (List.replicate 6 0 ++ MONT a b m) m) (MOD (MU a b 6) m) (MOD_len _ _) (MOD_len _ _) w).trans (by rw [decide_eq_true (mont_mod a b m ha hm h0)])) rfl rfl ?_
    refine lx_pick rfl rfl rfl rfl rfl ?_
    refine lx_assign rfl rfl rfl ?_
    refine lx_nil ?_
    refine x_ret ?_
    repeat (first | refine kseq_ret ?_ | refine kblk_ret ?_)
    exact kret_tmp rfl rfl (fun w hw => ⟨rfl, hp_below hw⟩)
end Go.Proofs.Yteohckfbphdngaa
