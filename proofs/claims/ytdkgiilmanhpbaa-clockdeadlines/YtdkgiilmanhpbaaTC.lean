/-
  The document's deadline; what is known; the laws.
-/
import Derived.Test.YtdkgiilmanhpbaaTB
namespace Go.Proofs.Ytdkgiilmanhpbaa
open Go.RowKit
set_option maxRecDepth 100000
set_option maxHeartbeats 1000000

theorem len_le {n : BitVec 64} (h : lenOk n = true) : 1 ≤ n.toNat ∧ n.toNat ≤ 65536 := by
  unfold lenOk at h
  rw [Bool.and_eq_true, decide_eq_true_eq, decide_eq_true_eq, BitVec.le_def, BitVec.le_def] at h
  exact h
section
variable {c : Cf} (h : c.rt = true)
include h
theorem t_nat : (c.s * c.e).toNat = c.s.toNat * c.e.toNat ∧ 1 ≤ c.s.toNat * c.e.toNat ∧ c.s.toNat * c.e.toNat ≤ 4294967296 := by
  have h1 := len_le (rt_s h)
  have h2 := len_le (rt_e h)
  have h3 : c.s.toNat * c.e.toNat ≤ 65536 * 65536 := Nat.mul_le_mul h1.2 h2.2
  have h4 : 1 * 1 ≤ c.s.toNat * c.e.toNat := Nat.mul_le_mul h1.1 h2.1
  exact ⟨by rw [BitVec.toNat_mul, Nat.mod_eq_of_lt (by omega)], by omega, by omega⟩
end
theorem ov_t {x y : BitVec 64} (h : 18446744073709551616 ≤ x.toNat + y.toNat) : decide (18446744073709551615#64 - y < x) = true := by
  have h1 := y.isLt
  have e : (18446744073709551615#64 - y).toNat = 18446744073709551615 - y.toNat := BitVec.toNat_sub_of_le (by rw [BitVec.le_def]; show y.toNat ≤ 18446744073709551615; omega)
  rw [decide_eq_true_eq, BitVec.lt_def, e]
  omega
theorem ov_f {x y : BitVec 64} (h : x.toNat + y.toNat < 18446744073709551616) : decide (18446744073709551615#64 - y < x) = false := by
  have h1 := y.isLt
  have e : (18446744073709551615#64 - y).toNat = 18446744073709551615 - y.toNat := BitVec.toNat_sub_of_le (by rw [BitVec.le_def]; show y.toNat ≤ 18446744073709551615; omega)
  rw [decide_eq_false_iff_not, BitVec.lt_def, e]
  omega
theorem dl_or (c : Cf) (m : BitVec 64) : (c.dl m).2 ≠ 0 ∨ ((c.dl m).2 = 0 ∧ m < (c.dl m).1) := by
  unfold Cf.dl
  by_cases h : c.rt = true
  · rw [if_pos h]
    by_cases h2 : m.toNat + (c.s * c.e).toNat < 18446744073709551616
    · rw [if_pos h2]
      refine .inr ⟨rfl, ?_⟩
      show m < m + c.s * c.e
      rw [BitVec.lt_def, BitVec.toNat_add, Nat.mod_eq_of_lt h2]
      have := t_nat h
      omega
    · rw [if_neg h2]; exact .inl (by decide)
  · rw [if_neg h]; exact .inl (by decide)
section
variable {c : Cf} (h : c.rt = true) (n : BitVec 64)
include h
end
theorem rde_p (c : Cf) (hc_ : c.Ok) (n : BitVec 64) (w : World) (hw : Gt w) : Calls Try.prog 14 [.agg c.cs.toArray, U64 n].toArray w (fun e w' => e = .returned (.tuple #[U64 (c.dl n).1, I (c.dl n).2]) ∧ Grow w w') := by
  have hGF : BOk Gt (pl w) := gt_low.plain hw
  refine calls_of_X (G := Gt) Try.func14 rfl rfl (Hp (pl w) []) (hp_refl (pl w) trivial rides_true) (good_hp hGF) ?_
  refine xs_plain (E := EE []) ?_
  refine lx_boxr 2 hGF rfl rfl rfl ?_
  intro b2
  refine lx_assign rfl rfl rfl ?_
  refine lx_assign rfl rfl rfl ?_
  refine lx_nil ?_
  refine x_seq ?_
  refine xs_plain (E := EE []) ?_
  refine lx_loadr (cs := c.cs) rfl Try.isAgg27 Try.sizeOf27 (Cf.len hc_) (fun w' hw' j v hv => by have := (hp_row (n := 2) rfl w' hw') _ v (Cf.all j v hv); rwa [Nat.zero_add] at this) rfl rfl ?_
  rcases Bool.eq_false_or_eq_true (c.rt) with hr | hr
  · skip
    refine lx_callB true rfl rfl ent8 (rig_p c hc_) (hr) rfl rfl ?_
    refine lx_un rfl (fun _ => un_not _) rfl rfl ?_
    refine lx_nil ?_
    refine x_false rfl ?_
    refine x_skip ?_
    refine xs_plain (E := EE []) ?_
    refine lx_fak 36 rfl Try.underlying27 rfl Try.sizeOf25 (by decide) rfl rfl rfl ?_
    refine lx_load (v := U64 c.s) rfl Try.isAgg25 (fun w' hw' => by have := (hp_row (n := 2) rfl w' hw') 36 _ (Cf.at_s hc_); rwa [Nat.zero_add] at this) rfl rfl ?_
    refine lx_fak 37 rfl Try.underlying27 rfl Try.sizeOf25 (by decide) rfl rfl rfl ?_
    refine lx_load (v := U64 c.e) rfl Try.isAgg25 (fun w' hw' => by have := (hp_row (n := 2) rfl w' hw') 37 _ (Cf.at_e hc_); rwa [Nat.zero_add] at this) rfl rfl ?_
    refine lx_bin rfl rfl (fun _ => rfl) (fun _ => bin_mul_u64 _ _ _) rfl rfl ?_
    refine lx_assign rfl rfl rfl ?_
    refine lx_nil ?_
    refine x_seq ?_
    refine xs_plain (E := EE []) ?_
    refine lx_move rfl rfl rfl ?_
    refine lx_move rfl rfl rfl ?_
    refine lx_bin (v := U64 (18446744073709551615#64 - c.s * c.e)) rfl rfl (fun _ => rfl) (fun _ => bin_sub_u64 _ 18446744073709551615#64 _) rfl rfl ?_
    rcases Nat.lt_or_ge (n.toNat + (c.s * c.e).toNat) 18446744073709551616 with ho | ho
    · skip
      refine lx_binB false rfl rfl (fun _ => rfl) (fun _ => bin_gtr_u64 _ n (18446744073709551615#64 - c.s * c.e)) (ov_f ho) rfl rfl ?_
      refine lx_nil ?_
      refine x_false rfl ?_
      refine x_skip ?_
      refine xs_plain (E := EE []) ?_
      refine lx_move rfl rfl rfl ?_
      refine lx_move rfl rfl rfl ?_
      refine lx_bin rfl rfl (fun _ => rfl) (fun _ => bin_add_u64 _ _ _) rfl rfl ?_
      refine lx_assign rfl rfl rfl ?_
      refine lx_assign rfl rfl rfl ?_
      refine lx_nil ?_
      refine x_ret ?_
      repeat (first | refine kseq_ret ?_ | refine kblk_ret ?_)
      exact kret_tt rfl rfl rfl (fun w' hw' => ⟨by unfold Cf.dl; rw [if_pos hr, if_pos ho]; rfl, hp_below hw'⟩)
    · skip
      refine lx_binB true rfl rfl (fun _ => rfl) (fun _ => bin_gtr_u64 _ n (18446744073709551615#64 - c.s * c.e)) (ov_t ho) rfl rfl ?_
      refine lx_nil ?_
      refine x_true rfl ?_
      refine xs_plain (E := EE []) ?_
      refine lx_assign rfl rfl rfl ?_
      refine lx_assign rfl rfl rfl ?_
      refine lx_nil ?_
      refine x_ret ?_
      repeat (first | refine kseq_ret ?_ | refine kblk_ret ?_)
      exact kret_tt rfl rfl rfl (fun w' hw' => ⟨by unfold Cf.dl; rw [if_pos hr, if_neg (by omega)]; rfl, hp_below hw'⟩)
  · skip
    refine lx_callB false rfl rfl ent8 (rig_p c hc_) (hr) rfl rfl ?_
    refine lx_un rfl (fun _ => un_not _) rfl rfl ?_
    refine lx_nil ?_
    refine x_true rfl ?_
    refine xs_plain (E := EE []) ?_
    refine lx_assign rfl rfl rfl ?_
    refine lx_assign rfl rfl rfl ?_
    refine lx_nil ?_
    refine x_ret ?_
    repeat (first | refine kseq_ret ?_ | refine kblk_ret ?_)
    exact kret_tt rfl rfl rfl (fun w' hw' => ⟨by unfold Cf.dl; rw [hr]; rfl, hp_below hw'⟩)
def Cf0 : Cf := ⟨List.replicate 32 0#8, List.replicate 4 0#8, 32#64, 256#64, 512⟩
def CfZ : Cf := ⟨List.replicate 32 0#8, List.replicate 4 0#8, 0#64, 0#64, 0⟩
theorem Cf0_ok : Cf0.Ok := ⟨rfl, rfl⟩
theorem CfZ_ok : CfZ.Ok := ⟨rfl, rfl⟩
theorem Cf.one (c : Cf) : c.cs.all (·.oneCell') = true := by
  simp only [Cf.cs, List.all_append, one_u8, Bool.true_and]
  rfl
theorem zvCf (w : World) : (zeroValue 27).run Try.prog w = .ok (.agg CfZ.cs.toArray) w := (Try.zeroValue27 w).trans (by rfl)
theorem bldZ (w : World) : (Instr.build 27 #[]).run Try.prog w = .ok (.agg CfZ.cs.toArray) w := run_buildP (c := CfZ.cs) zvCf Try.underlying27 (ps := #[(0, 32), (32, 4), (36, 1), (37, 1), (38, 1)]) (fun w => by simp [Try.sizeOf25, Try.sizeOf23, Try.sizeOf24, Try.sizeOf3]) [] rfl w
theorem bldCf (w : World) : (Instr.build 27 #[(2, U64 32#64), (3, U64 256#64), (4, I 512)]).run Try.prog w = .ok (.agg Cf0.cs.toArray) w := run_buildP (c := CfZ.cs) zvCf Try.underlying27 (ps := #[(0, 32), (32, 4), (36, 1), (37, 1), (38, 1)]) (fun w => by simp [Try.sizeOf25, Try.sizeOf23, Try.sizeOf24, Try.sizeOf3]) [(2, U64 32#64), (3, U64 256#64), (4, I 512)] rfl w
theorem known21  (w : World) (hw : Gt w) : Calls Try.prog 7 [].toArray w (fun e w' => e = .returned (.bool true) ∧ Grow w w') := by
  have hGF : BOk Gt (pl w) := gt_low.plain hw
  refine calls_of_X (G := Gt) Try.func7 rfl rfl (Hp (pl w) []) (hp_refl (pl w) trivial rides_true) (good_hp hGF) ?_
  refine xs_plain (E := EE []) ?_
  refine lx_assign rfl rfl rfl ?_
  refine lx_nil ?_
  refine xs_plain (E := EE []) ?_
  refine lx_build (ps := [(2, .const (U64 32#64)), (3, .const (U64 256#64)), (4, .const (I 512))]) (vs := [U64 32#64, U64 256#64, I 512]) (v := .agg Cf0.cs.toArray) rfl (fun w => bldCf w) rfl rfl ?_
  refine lx_allocr 1 hGF zvCf rfl rfl ?_
  intro b1
  refine lx_storea 1 hGF rfl rfl rfl Try.sizeOf27 (Cf.len Cf0_ok) (Cf.len CfZ_ok) (Cf.one _) rfl ?_
  refine lx_nil ?_
  refine xs_plain (E := EE []) ?_
  refine lx_loadr (cs := Cf0.cs) rfl Try.isAgg27 Try.sizeOf27 (Cf.len Cf0_ok) (fun w' hw' j v hv => by have := (hp_row (n := 1) rfl w' hw') _ v (Cf.all j v hv); rwa [Nat.zero_add] at this) rfl rfl ?_
  refine lx_call rfl rfl ent13 (dea_p Cf0 Cf0_ok 5#64) rfl rfl ?_
  refine lx_move rfl rfl rfl ?_
  refine lx_ext rfl rfl rfl rfl ?_
  refine lx_ext rfl rfl rfl rfl ?_
  refine lx_assign rfl rfl rfl ?_
  refine lx_assign rfl rfl rfl ?_
  refine lx_nil ?_
  refine xs_plain (E := EE []) ?_
  refine lx_loadr (cs := Cf0.cs) rfl Try.isAgg27 Try.sizeOf27 (Cf.len Cf0_ok) (fun w' hw' j v hv => by have := (hp_row (n := 1) rfl w' hw') _ v (Cf.all j v hv); rwa [Nat.zero_add] at this) rfl rfl ?_
  refine lx_call rfl rfl ent13 (dea_p Cf0 Cf0_ok 18446744073709551615#64) rfl rfl ?_
  refine lx_move rfl rfl rfl ?_
  refine lx_ext rfl rfl rfl rfl ?_
  refine lx_ext rfl rfl rfl rfl ?_
  refine lx_assign rfl rfl rfl ?_
  refine lx_assign rfl rfl rfl ?_
  refine lx_nil ?_
  refine xs_plain (E := EE []) ?_
  refine lx_loadr (cs := Cf0.cs) rfl Try.isAgg27 Try.sizeOf27 (Cf.len Cf0_ok) (fun w' hw' j v hv => by have := (hp_row (n := 1) rfl w' hw') _ v (Cf.all j v hv); rwa [Nat.zero_add] at this) rfl rfl ?_
  refine lx_call rfl rfl ent9 (chk_p Cf0 Cf0_ok) rfl rfl ?_
  refine lx_binB true rfl rfl (fun _ => rfl) (fun _ => bin_eql_i _ (Cf0.chk) 0) (by decide +kernel) rfl rfl ?_
  refine lx_move rfl rfl rfl ?_
  refine lx_build (ps := []) (vs := []) (v := .agg CfZ.cs.toArray) rfl (fun w => bldZ w) rfl rfl ?_
  refine lx_call rfl rfl ent9 (chk_p CfZ CfZ_ok) rfl rfl ?_
  refine lx_binB true rfl rfl (fun _ => rfl) (fun _ => bin_eql_i _ (CfZ.chk) 210) (by decide +kernel) rfl rfl ?_
  refine lx_pick rfl rfl rfl rfl rfl ?_
  refine lx_move rfl rfl rfl ?_
  refine lx_loadr (cs := Cf0.cs) rfl Try.isAgg27 Try.sizeOf27 (Cf.len Cf0_ok) (fun w' hw' j v hv => by have := (hp_row (n := 1) rfl w' hw') _ v (Cf.all j v hv); rwa [Nat.zero_add] at this) rfl rfl ?_
  refine lx_call rfl rfl ent11 (per_p Cf0 Cf0_ok 8192#64) rfl rfl ?_
  refine lx_binB true rfl rfl (fun _ => rfl) (fun _ => bin_eql_u64 _ ((Cf0.pe 8192#64)) 1#64) (by decide +kernel) rfl rfl ?_
  refine lx_pick rfl rfl rfl rfl rfl ?_
  refine lx_move rfl rfl rfl ?_
  refine lx_loadr (cs := Cf0.cs) rfl Try.isAgg27 Try.sizeOf27 (Cf.len Cf0_ok) (fun w' hw' j v hv => by have := (hp_row (n := 1) rfl w' hw') _ v (Cf.all j v hv); rwa [Nat.zero_add] at this) rfl rfl ?_
  refine lx_call rfl rfl ent10 (epo_p Cf0 Cf0_ok 64#64) rfl rfl ?_
  refine lx_binB true rfl rfl (fun _ => rfl) (fun _ => bin_eql_u64 _ ((Cf0.ep 64#64)) 2#64) (by decide +kernel) rfl rfl ?_
  refine lx_pick rfl rfl rfl rfl rfl ?_
  refine lx_move rfl rfl rfl ?_
  refine lx_loadr (cs := Cf0.cs) rfl Try.isAgg27 Try.sizeOf27 (Cf.len Cf0_ok) (fun w' hw' j v hv => by have := (hp_row (n := 1) rfl w' hw') _ v (Cf.all j v hv); rwa [Nat.zero_add] at this) rfl rfl ?_
  refine lx_call rfl rfl ent12 (tim_p Cf0 Cf0_ok) rfl rfl ?_
  refine lx_binB true rfl rfl (fun _ => rfl) (fun _ => bin_eql_u64 _ (Cf0.tm) 8192#64) (by decide +kernel) rfl rfl ?_
  refine lx_pick rfl rfl rfl rfl rfl ?_
  refine lx_move rfl rfl rfl ?_
  refine lx_move rfl rfl rfl ?_
  refine lx_binB true rfl rfl (fun _ => rfl) (fun _ => bin_eql_u64 _ ((Cf0.dl 5#64).1) 8197#64) (by decide +kernel) rfl rfl ?_
  refine lx_pick rfl rfl rfl rfl rfl ?_
  refine lx_move rfl rfl rfl ?_
  refine lx_move rfl rfl rfl ?_
  refine lx_binB true rfl rfl (fun _ => rfl) (fun _ => bin_eql_i _ ((Cf0.dl 5#64).2) 0) (by decide +kernel) rfl rfl ?_
  refine lx_pick rfl rfl rfl rfl rfl ?_
  refine lx_move rfl rfl rfl ?_
  refine lx_move rfl rfl rfl ?_
  refine lx_binB true rfl rfl (fun _ => rfl) (fun _ => bin_eql_i _ ((Cf0.dl 18446744073709551615#64).2) 211) (by decide +kernel) rfl rfl ?_
  refine lx_pick rfl rfl rfl rfl rfl ?_
  refine lx_move rfl rfl rfl ?_
  refine lx_call rfl rfl ent15 (thr_p 3#64 8#64) rfl rfl ?_
  refine lx_binB true rfl rfl (fun _ => rfl) (fun _ => bin_eql_u64 _ ((mxU 3#64 8#64 / 2#64)) 4#64) (by decide +kernel) rfl rfl ?_
  refine lx_pick rfl rfl rfl rfl rfl ?_
  refine lx_assign rfl rfl rfl ?_
  refine lx_nil ?_
  refine x_ret ?_
  repeat (first | refine kseq_ret ?_ | refine kblk_ret ?_)
  exact kret_tmp rfl rfl (fun w' hw' => ⟨rfl, hp_below hw'⟩)
theorem dead_law (c : Cf) (hc_ : c.Ok) (n : BitVec 64) (b : Bool) (w : World) (hw : Gt w) : Calls Try.prog 4 [.agg c.cs.toArray, U64 n, .bool b].toArray w (fun e w' => e = .returned (.bool true) ∧ Grow w w') := by
  have hGF : BOk Gt (pl w) := gt_low.plain hw
  refine calls_of_X (G := Gt) Try.func4 rfl rfl (Hp (pl w) []) (hp_refl (pl w) trivial rides_true) (good_hp hGF) ?_
  refine xs_plain (E := EE []) ?_
  refine lx_boxr 3 hGF rfl rfl rfl ?_
  intro b3
  refine lx_assign rfl rfl rfl ?_
  refine lx_nil ?_
  refine x_seq ?_
  refine xs_plain (E := EE []) ?_
  refine lx_callB true rfl rfl ent7 (known21) rfl rfl rfl ?_
  refine lx_un rfl (fun _ => un_not _) rfl rfl ?_
  refine lx_nil ?_
  refine x_false rfl ?_
  refine x_skip ?_
  refine x_seq ?_
  refine xs_plain (E := EE []) ?_
  rcases Bool.eq_false_or_eq_true (b) with hb | hb
  · skip
    subst hb
    refine lx_move rfl rfl rfl ?_
    refine lx_nil ?_
    refine x_true rfl ?_
    refine x_plain (E := EE []) ?_
    refine lx_move rfl rfl rfl ?_
    refine lx_bin (v := U64 (n % 100000#64)) rfl rfl (fun _ => rfl) (fun _ => bin_rem_u64 _ _ _ (by decide)) rfl rfl ?_
    refine lx_bin (v := U64 (18446744073709551615#64 - n % 100000#64)) rfl rfl (fun _ => rfl) (fun _ => bin_sub_u64 _ 18446744073709551615#64 _) rfl rfl ?_
    obtain ⟨m, hm⟩ : ∃ m, 18446744073709551615#64 - n % 100000#64 = m := ⟨_, rfl⟩
    rw [hm]
    refine lx_assign rfl rfl rfl ?_
    refine lx_nil ?_
    refine xs_plain (E := EE []) ?_
    refine lx_loadr (cs := c.cs) rfl Try.isAgg27 Try.sizeOf27 (Cf.len hc_) (fun w' hw' j v hv => by have := (hp_row (n := 3) rfl w' hw') _ v (Cf.all j v hv); rwa [Nat.zero_add] at this) rfl rfl ?_
    refine lx_move rfl rfl rfl ?_
    refine lx_call rfl rfl ent13 (dea_p c hc_ m) rfl rfl ?_
    refine lx_move rfl rfl rfl ?_
    refine lx_ext rfl rfl rfl rfl ?_
    refine lx_ext rfl rfl rfl rfl ?_
    refine lx_assign rfl rfl rfl ?_
    refine lx_assign rfl rfl rfl ?_
    refine lx_nil ?_
    refine xs_plain (E := EE []) ?_
    refine lx_loadr (cs := c.cs) rfl Try.isAgg27 Try.sizeOf27 (Cf.len hc_) (fun w' hw' j v hv => by have := (hp_row (n := 3) rfl w' hw') _ v (Cf.all j v hv); rwa [Nat.zero_add] at this) rfl rfl ?_
    refine lx_move rfl rfl rfl ?_
    refine lx_call rfl rfl ent14 (rde_p c hc_ m) rfl rfl ?_
    refine lx_move rfl rfl rfl ?_
    refine lx_ext rfl rfl rfl rfl ?_
    refine lx_ext rfl rfl rfl rfl ?_
    refine lx_assign rfl rfl rfl ?_
    refine lx_assign rfl rfl rfl ?_
    refine lx_nil ?_
    refine xs_plain (E := EE []) ?_
    refine lx_move rfl rfl rfl ?_
    refine lx_move rfl rfl rfl ?_
    refine lx_binB true rfl rfl (fun _ => rfl) (fun _ => bin_eql_u64 _ (c.dl m).1 (c.dl m).1) (beq_self_eq_true _) rfl rfl ?_
    refine lx_move rfl rfl rfl ?_
    refine lx_move rfl rfl rfl ?_
    refine lx_move rfl rfl rfl ?_
    refine lx_binB true rfl rfl (fun _ => rfl) (fun _ => bin_eql_i _ (c.dl m).2 (c.dl m).2) (beq_self_eq_true _) rfl rfl ?_
    refine lx_pick rfl rfl rfl rfl rfl ?_
    refine lx_move rfl rfl rfl ?_
    refine lx_move rfl rfl rfl ?_
    rcases dl_or c m with hz | ⟨hz, hz2⟩
    · skip
      refine lx_binB true rfl rfl (fun _ => rfl) (fun _ => bin_neq_i _ (c.dl m).2 0) (by rw [bne_iff_ne]; exact hz) rfl rfl ?_
      refine lx_move rfl rfl rfl ?_
      refine lx_skip rfl rfl rfl ?_
      refine lx_skip rfl rfl rfl ?_
      refine lx_skip rfl rfl rfl ?_
      refine lx_pick rfl rfl rfl rfl rfl ?_
      refine lx_pick rfl rfl rfl rfl rfl ?_
      refine lx_assign rfl rfl rfl ?_
      refine lx_nil ?_
      refine x_ret ?_
      repeat (first | refine kseq_ret ?_ | refine kblk_ret ?_)
      exact kret_tmp rfl rfl (fun w' hw' => ⟨rfl, hp_below hw'⟩)
    · skip
      refine lx_binB false rfl rfl (fun _ => rfl) (fun _ => bin_neq_i _ (c.dl m).2 0) (by rw [hz]; rfl) rfl rfl ?_
      refine lx_move rfl rfl rfl ?_
      refine lx_move rfl rfl rfl ?_
      refine lx_move rfl rfl rfl ?_
      refine lx_binB true rfl rfl (fun _ => rfl) (fun _ => bin_gtr_u64 _ (c.dl m).1 m) (decide_eq_true hz2) rfl rfl ?_
      refine lx_pick rfl rfl rfl rfl rfl ?_
      refine lx_pick rfl rfl rfl rfl rfl ?_
      refine lx_assign rfl rfl rfl ?_
      refine lx_nil ?_
      refine x_ret ?_
      repeat (first | refine kseq_ret ?_ | refine kblk_ret ?_)
      exact kret_tmp rfl rfl (fun w' hw' => ⟨rfl, hp_below hw'⟩)
  · skip
    subst hb
    obtain ⟨m, rfl⟩ : ∃ m, m = n := ⟨_, rfl⟩
    refine lx_move rfl rfl rfl ?_
    refine lx_nil ?_
    refine x_false rfl ?_
    refine x_skip ?_
    refine xs_plain (E := EE []) ?_
    refine lx_loadr (cs := c.cs) rfl Try.isAgg27 Try.sizeOf27 (Cf.len hc_) (fun w' hw' j v hv => by have := (hp_row (n := 3) rfl w' hw') _ v (Cf.all j v hv); rwa [Nat.zero_add] at this) rfl rfl ?_
    refine lx_move rfl rfl rfl ?_
    refine lx_call rfl rfl ent13 (dea_p c hc_ m) rfl rfl ?_
    refine lx_move rfl rfl rfl ?_
    refine lx_ext rfl rfl rfl rfl ?_
    refine lx_ext rfl rfl rfl rfl ?_
    refine lx_assign rfl rfl rfl ?_
    refine lx_assign rfl rfl rfl ?_
    refine lx_nil ?_
    refine xs_plain (E := EE []) ?_
    refine lx_loadr (cs := c.cs) rfl Try.isAgg27 Try.sizeOf27 (Cf.len hc_) (fun w' hw' j v hv => by have := (hp_row (n := 3) rfl w' hw') _ v (Cf.all j v hv); rwa [Nat.zero_add] at this) rfl rfl ?_
    refine lx_move rfl rfl rfl ?_
    refine lx_call rfl rfl ent14 (rde_p c hc_ m) rfl rfl ?_
    refine lx_move rfl rfl rfl ?_
    refine lx_ext rfl rfl rfl rfl ?_
    refine lx_ext rfl rfl rfl rfl ?_
    refine lx_assign rfl rfl rfl ?_
    refine lx_assign rfl rfl rfl ?_
    refine lx_nil ?_
    refine xs_plain (E := EE []) ?_
    refine lx_move rfl rfl rfl ?_
    refine lx_move rfl rfl rfl ?_
    refine lx_binB true rfl rfl (fun _ => rfl) (fun _ => bin_eql_u64 _ (c.dl m).1 (c.dl m).1) (beq_self_eq_true _) rfl rfl ?_
    refine lx_move rfl rfl rfl ?_
    refine lx_move rfl rfl rfl ?_
    refine lx_move rfl rfl rfl ?_
    refine lx_binB true rfl rfl (fun _ => rfl) (fun _ => bin_eql_i _ (c.dl m).2 (c.dl m).2) (beq_self_eq_true _) rfl rfl ?_
    refine lx_pick rfl rfl rfl rfl rfl ?_
    refine lx_move rfl rfl rfl ?_
    refine lx_move rfl rfl rfl ?_
    rcases dl_or c m with hz | ⟨hz, hz2⟩
    · skip
      refine lx_binB true rfl rfl (fun _ => rfl) (fun _ => bin_neq_i _ (c.dl m).2 0) (by rw [bne_iff_ne]; exact hz) rfl rfl ?_
      refine lx_move rfl rfl rfl ?_
      refine lx_skip rfl rfl rfl ?_
      refine lx_skip rfl rfl rfl ?_
      refine lx_skip rfl rfl rfl ?_
      refine lx_pick rfl rfl rfl rfl rfl ?_
      refine lx_pick rfl rfl rfl rfl rfl ?_
      refine lx_assign rfl rfl rfl ?_
      refine lx_nil ?_
      refine x_ret ?_
      repeat (first | refine kseq_ret ?_ | refine kblk_ret ?_)
      exact kret_tmp rfl rfl (fun w' hw' => ⟨rfl, hp_below hw'⟩)
    · skip
      refine lx_binB false rfl rfl (fun _ => rfl) (fun _ => bin_neq_i _ (c.dl m).2 0) (by rw [hz]; rfl) rfl rfl ?_
      refine lx_move rfl rfl rfl ?_
      refine lx_move rfl rfl rfl ?_
      refine lx_move rfl rfl rfl ?_
      refine lx_binB true rfl rfl (fun _ => rfl) (fun _ => bin_gtr_u64 _ (c.dl m).1 m) (decide_eq_true hz2) rfl rfl ?_
      refine lx_pick rfl rfl rfl rfl rfl ?_
      refine lx_pick rfl rfl rfl rfl rfl ?_
      refine lx_assign rfl rfl rfl ?_
      refine lx_nil ?_
      refine x_ret ?_
      repeat (first | refine kseq_ret ?_ | refine kblk_ret ?_)
      exact kret_tmp rfl rfl (fun w' hw' => ⟨rfl, hp_below hw'⟩)
end Go.Proofs.Ytdkgiilmanhpbaa
