/-
  The document's clock; what is known; the laws.
-/
import Derived.Test.YtdkgiilmanhpbaaTA
import Derived.Test.YtdkgiilmanhpbaaX3
namespace Go.Proofs.Ytdkgiilmanhpbaa
open Go.RowKit
set_option maxRecDepth 100000
set_option maxHeartbeats 1000000

theorem ent8 : Enters Try.prog 8 := fun _ _ => by kernel_rfl
theorem ent7 : Enters Try.prog 7 := fun _ _ => by kernel_rfl
def p2 (k : Nat) : Int := 2 ^ k
/-- One of the first powers of two. -/
def pwr (z : Int) : Nat → Bool
  | 0 => false
  | k + 1 => pwr z k || z == p2 k
theorem pwr_t {z : Int} {k : Nat} (h : pwr z k = true) : pwr z (k + 1) = true := by show (pwr z k || _) = true; rw [h]; rfl
theorem pwr_f {z : Int} {k : Nat} (h : pwr z k = false) : pwr z (k + 1) = (z == p2 k) := by show (pwr z k || _) = _; rw [h]; rfl
theorem pwr10 (z : Int) : pwr z 10 = sizeOk z := by
  rw [Bool.eq_iff_iff]
  unfold sizeOk
  simp only [pwr, p2, decide_eq_true_eq, Bool.or_eq_true, beq_iff_eq, List.mem_cons, List.not_mem_nil, or_false]
  constructor
  · rintro (((((((((((h | h) | h) | h) | h) | h) | h) | h) | h) | h) | h)) <;> first | (cases h; done) | (subst h; decide)
  · rintro (h | h | h | h | h | h | h | h | h | h) <;> subst h <;> decide
theorem p2_le {k : Nat} (hk : k ≤ 10) : (p2 k ≤ 512) ↔ k < 10 := by
  have key : ∀ k : Fin 11, (p2 k.1 ≤ 512) ↔ k.1 < 10 := by decide +kernel
  exact key ⟨k, by omega⟩
theorem p2_s (k : Nat) : 2 * p2 k = p2 (k + 1) := by unfold p2; rw [Int.pow_succ, Int.mul_comm]
theorem p2_in {k : Nat} (hk : k < 10) : inI (2 * p2 k) := by
  have key : ∀ k : Fin 10, -9223372036854775808 ≤ 2 * p2 k.1 ∧ 2 * p2 k.1 ≤ 9223372036854775807 := by decide +kernel
  exact key ⟨k, hk⟩
theorem rig_p (c : Cf) (hc_ : c.Ok) (w : World) (hw : Gt w) : Calls Try.prog 8 [.agg c.cs.toArray].toArray w (fun e w' => e = .returned (.bool c.rt) ∧ Grow w w') := by
  have hGF : BOk Gt (pl w) := gt_low.plain hw
  refine calls_of_X (G := Gt) Try.func8 rfl rfl (Hp (pl w) []) (hp_refl (pl w) trivial rides_true) (good_hp hGF) ?_
  refine xs_plain (E := EE []) ?_
  refine lx_boxr 1 hGF rfl rfl rfl ?_
  intro b1
  refine lx_assign rfl rfl rfl ?_
  refine lx_nil ?_
  refine xs_plain (E := EE []) ?_
  refine lx_assign rfl rfl rfl ?_
  refine lx_nil ?_
  refine x_seq ?_
  refine xs_plain (E := EE []) ?_
  refine lx_assign rfl rfl rfl ?_
  refine lx_nil ?_
  refine x_block ?_
  refine x_for (ι := { i : Nat // i ≤ 10 }) (fun x => [(0, .agg c.cs.toArray), (1, .pointer (some ⟨b1, 0, none⟩)), (3, .bool (pwr c.z x.1)), (4, I (p2 x.1))]) (fun x => [(1, b1, c.cs, 27)]) (fun x => 10 - x.1) ⟨0, by omega⟩ hGF ⟨rfl, rfl, rfl, rfl, trivial⟩ ⟨rfl, trivial⟩ ?_
  rintro ⟨k, hk⟩
  dsimp only
  refine x_seq ?_
  refine xs_plain (E := EE []) ?_
  refine lx_move rfl rfl rfl ?_
  refine lx_bin (v := .bool (decide (p2 k ≤ 512))) rfl rfl (fun _ => rfl) (fun _ => bin_leq_i _ _ _) rfl rfl ?_
  refine lx_nil ?_
  refine x_if rfl (fun hc => ?_) (fun hc => ?_)
  · have hlt : k < 10 := (p2_le hk).1 (by simpa using hc)
    clear hc
    refine x_skip ?_
    refine x_seq ?_
    refine x_block ?_
    refine x_plain (E := EE []) ?_
    refine lx_move rfl rfl rfl ?_
    rcases Bool.eq_false_or_eq_true (pwr c.z k) with hp | hp
    · skip
      rw [hp]
      refine lx_move rfl rfl rfl ?_
      refine lx_skip rfl rfl rfl ?_
      refine lx_skip rfl rfl rfl ?_
      refine lx_skip rfl rfl rfl ?_
      refine lx_skip rfl rfl rfl ?_
      refine lx_pick rfl rfl rfl rfl rfl ?_
      refine lx_assign rfl rfl rfl ?_
      refine lx_nil ?_
      refine x_plain (E := EE []) ?_
      refine lx_move rfl rfl rfl ?_
      refine lx_bin (v := I (p2 (k + 1))) rfl rfl (fun _ => rfl) (fun _ => (bin_mul_i _ _ _ (p2_in hlt)).trans (by rw [p2_s])) rfl rfl ?_
      refine lx_assign rfl rfl rfl ?_
      refine lx_nil ?_
      repeat (refine kblk_n ?_)
      refine kseq_n ?_
      exact ⟨rfl, ⟨k + 1, by omega⟩, _, by show 10 - (k + 1) < 10 - k; omega, rfl, ⟨rfl, rfl, by show some (Value.bool true) = some (.bool (pwr c.z (k + 1))); rw [pwr_t hp], rfl, trivial⟩, ⟨rfl, trivial⟩⟩
    · skip
      rw [hp]
      refine lx_move rfl rfl rfl ?_
      refine lx_fak 38 rfl Try.underlying27 rfl Try.sizeOf3 (by decide) rfl rfl rfl ?_
      refine lx_load (v := I c.z) rfl Try.isAgg3 (fun w' hw' => by have := (hp_row (n := 1) rfl w' hw') 38 _ (Cf.at_z hc_); rwa [Nat.zero_add] at this) rfl rfl ?_
      refine lx_move rfl rfl rfl ?_
      refine lx_bin (v := .bool (c.z == p2 k)) rfl rfl (fun _ => rfl) (fun _ => bin_eql_i _ _ _) rfl rfl ?_
      refine lx_pick rfl rfl rfl rfl rfl ?_
      refine lx_assign rfl rfl rfl ?_
      refine lx_nil ?_
      refine x_plain (E := EE []) ?_
      refine lx_move rfl rfl rfl ?_
      refine lx_bin (v := I (p2 (k + 1))) rfl rfl (fun _ => rfl) (fun _ => (bin_mul_i _ _ _ (p2_in hlt)).trans (by rw [p2_s])) rfl rfl ?_
      refine lx_assign rfl rfl rfl ?_
      refine lx_nil ?_
      repeat (refine kblk_n ?_)
      refine kseq_n ?_
      exact ⟨rfl, ⟨k + 1, by omega⟩, _, by show 10 - (k + 1) < 10 - k; omega, rfl, ⟨rfl, rfl, by show some (Value.bool (c.z == p2 k)) = some (.bool (pwr c.z (k + 1))); rw [pwr_f hp], rfl, trivial⟩, ⟨rfl, trivial⟩⟩
  · obtain rfl : k = 10 := by have := mt (p2_le hk).2 (by simpa using hc); omega
    clear hc
    refine x_exit ?_
    refine xs_plain (E := EE []) ?_
    refine lx_fak 36 rfl Try.underlying27 rfl Try.sizeOf25 (by decide) rfl rfl rfl ?_
    refine lx_load (v := U64 c.s) rfl Try.isAgg25 (fun w' hw' => by have := (hp_row (n := 1) rfl w' hw') 36 _ (Cf.at_s hc_); rwa [Nat.zero_add] at this) rfl rfl ?_
    rcases Bool.eq_false_or_eq_true (decide (1#64 ≤ c.s)) with h1 | h1
    · skip
      refine lx_binB true rfl rfl (fun _ => rfl) (fun _ => bin_geq_u64 _ c.s 1#64) (h1) rfl rfl ?_
      refine lx_move rfl rfl rfl ?_
      refine lx_fak 36 rfl Try.underlying27 rfl Try.sizeOf25 (by decide) rfl rfl rfl ?_
      refine lx_load (v := U64 c.s) rfl Try.isAgg25 (fun w' hw' => by have := (hp_row (n := 1) rfl w' hw') 36 _ (Cf.at_s hc_); rwa [Nat.zero_add] at this) rfl rfl ?_
      rcases Bool.eq_false_or_eq_true (decide (c.s ≤ 65536#64)) with h2 | h2
      · skip
        refine lx_binB true rfl rfl (fun _ => rfl) (fun _ => bin_leq_u64 _ c.s 65536#64) (h2) rfl rfl ?_
        refine lx_pick rfl rfl rfl rfl rfl ?_
        refine lx_move rfl rfl rfl ?_
        refine lx_fak 37 rfl Try.underlying27 rfl Try.sizeOf25 (by decide) rfl rfl rfl ?_
        refine lx_load (v := U64 c.e) rfl Try.isAgg25 (fun w' hw' => by have := (hp_row (n := 1) rfl w' hw') 37 _ (Cf.at_e hc_); rwa [Nat.zero_add] at this) rfl rfl ?_
        rcases Bool.eq_false_or_eq_true (decide (1#64 ≤ c.e)) with h3 | h3
        · skip
          refine lx_binB true rfl rfl (fun _ => rfl) (fun _ => bin_geq_u64 _ c.e 1#64) (h3) rfl rfl ?_
          refine lx_pick rfl rfl rfl rfl rfl ?_
          refine lx_move rfl rfl rfl ?_
          refine lx_fak 37 rfl Try.underlying27 rfl Try.sizeOf25 (by decide) rfl rfl rfl ?_
          refine lx_load (v := U64 c.e) rfl Try.isAgg25 (fun w' hw' => by have := (hp_row (n := 1) rfl w' hw') 37 _ (Cf.at_e hc_); rwa [Nat.zero_add] at this) rfl rfl ?_
          rcases Bool.eq_false_or_eq_true (decide (c.e ≤ 65536#64)) with h4 | h4
          · skip
            refine lx_binB true rfl rfl (fun _ => rfl) (fun _ => bin_leq_u64 _ c.e 65536#64) (h4) rfl rfl ?_
            refine lx_pick rfl rfl rfl rfl rfl ?_
            refine lx_move rfl rfl rfl ?_
            refine lx_move rfl rfl rfl ?_
            refine lx_pick rfl rfl rfl rfl rfl ?_
            refine lx_assign rfl rfl rfl ?_
            refine lx_nil ?_
            refine x_ret ?_
            repeat (first | refine kseq_ret ?_ | refine kblk_ret ?_)
            exact kret_tmp rfl rfl (fun w' hw' => ⟨by unfold Cf.rt lenOk; rw [h1, h2, h3, h4, ← pwr10]; rfl, hp_below hw'⟩)
          · skip
            refine lx_binB false rfl rfl (fun _ => rfl) (fun _ => bin_leq_u64 _ c.e 65536#64) (h4) rfl rfl ?_
            refine lx_pick rfl rfl rfl rfl rfl ?_
            refine lx_move rfl rfl rfl ?_
            refine lx_skip rfl rfl rfl ?_
            refine lx_pick rfl rfl rfl rfl rfl ?_
            refine lx_assign rfl rfl rfl ?_
            refine lx_nil ?_
            refine x_ret ?_
            repeat (first | refine kseq_ret ?_ | refine kblk_ret ?_)
            exact kret_tmp rfl rfl (fun w' hw' => ⟨by unfold Cf.rt lenOk; rw [h1, h2, h3, h4]; rfl, hp_below hw'⟩)
        · skip
          refine lx_binB false rfl rfl (fun _ => rfl) (fun _ => bin_geq_u64 _ c.e 1#64) (h3) rfl rfl ?_
          refine lx_pick rfl rfl rfl rfl rfl ?_
          refine lx_move rfl rfl rfl ?_
          refine lx_skip rfl rfl rfl ?_
          refine lx_skip rfl rfl rfl ?_
          refine lx_skip rfl rfl rfl ?_
          refine lx_pick rfl rfl rfl rfl rfl ?_
          refine lx_move rfl rfl rfl ?_
          refine lx_skip rfl rfl rfl ?_
          refine lx_pick rfl rfl rfl rfl rfl ?_
          refine lx_assign rfl rfl rfl ?_
          refine lx_nil ?_
          refine x_ret ?_
          repeat (first | refine kseq_ret ?_ | refine kblk_ret ?_)
          exact kret_tmp rfl rfl (fun w' hw' => ⟨by unfold Cf.rt lenOk; rw [h1, h2, h3]; rfl, hp_below hw'⟩)
      · skip
        refine lx_binB false rfl rfl (fun _ => rfl) (fun _ => bin_leq_u64 _ c.s 65536#64) (h2) rfl rfl ?_
        refine lx_pick rfl rfl rfl rfl rfl ?_
        refine lx_move rfl rfl rfl ?_
        refine lx_skip rfl rfl rfl ?_
        refine lx_skip rfl rfl rfl ?_
        refine lx_skip rfl rfl rfl ?_
        refine lx_pick rfl rfl rfl rfl rfl ?_
        refine lx_move rfl rfl rfl ?_
        refine lx_skip rfl rfl rfl ?_
        refine lx_skip rfl rfl rfl ?_
        refine lx_skip rfl rfl rfl ?_
        refine lx_pick rfl rfl rfl rfl rfl ?_
        refine lx_move rfl rfl rfl ?_
        refine lx_skip rfl rfl rfl ?_
        refine lx_pick rfl rfl rfl rfl rfl ?_
        refine lx_assign rfl rfl rfl ?_
        refine lx_nil ?_
        refine x_ret ?_
        repeat (first | refine kseq_ret ?_ | refine kblk_ret ?_)
        exact kret_tmp rfl rfl (fun w' hw' => ⟨by unfold Cf.rt lenOk; rw [h1, h2]; rfl, hp_below hw'⟩)
    · skip
      refine lx_binB false rfl rfl (fun _ => rfl) (fun _ => bin_geq_u64 _ c.s 1#64) (h1) rfl rfl ?_
      refine lx_move rfl rfl rfl ?_
      refine lx_skip rfl rfl rfl ?_
      refine lx_skip rfl rfl rfl ?_
      refine lx_skip rfl rfl rfl ?_
      refine lx_pick rfl rfl rfl rfl rfl ?_
      refine lx_move rfl rfl rfl ?_
      refine lx_skip rfl rfl rfl ?_
      refine lx_skip rfl rfl rfl ?_
      refine lx_skip rfl rfl rfl ?_
      refine lx_pick rfl rfl rfl rfl rfl ?_
      refine lx_move rfl rfl rfl ?_
      refine lx_skip rfl rfl rfl ?_
      refine lx_skip rfl rfl rfl ?_
      refine lx_skip rfl rfl rfl ?_
      refine lx_pick rfl rfl rfl rfl rfl ?_
      refine lx_move rfl rfl rfl ?_
      refine lx_skip rfl rfl rfl ?_
      refine lx_pick rfl rfl rfl rfl rfl ?_
      refine lx_assign rfl rfl rfl ?_
      refine lx_nil ?_
      refine x_ret ?_
      repeat (first | refine kseq_ret ?_ | refine kblk_ret ?_)
      exact kret_tmp rfl rfl (fun w' hw' => ⟨by unfold Cf.rt lenOk; rw [h1]; rfl, hp_below hw'⟩)
end Go.Proofs.Ytdkgiilmanhpbaa
