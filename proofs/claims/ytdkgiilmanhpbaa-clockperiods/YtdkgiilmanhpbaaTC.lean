/-
  The document's deadline; what is known; the laws.
-/
import Derived.Test.YtdkgiilmanhpbaaTB
namespace Go.Proofs.Ytdkgiilmanhpbaa
open Go.RowKit
set_option maxRecDepth 100000
set_option maxHeartbeats 1000000

theorem len_le {n : BitVec 64} (h : lenOk n = true) : 1 ≤ n.toNat ∧ n.toNat ≤ 65536 := by
  unfold lenOk at h
  rw [Bool.and_eq_true, decide_eq_true_eq, decide_eq_true_eq, BitVec.le_def, BitVec.le_def] at h
  exact h
section
variable {c : Cf} (h : c.rt = true)
include h
theorem t_nat : (c.s * c.e).toNat = c.s.toNat * c.e.toNat ∧ 1 ≤ c.s.toNat * c.e.toNat ∧ c.s.toNat * c.e.toNat ≤ 4294967296 := by
  have h1 := len_le (rt_s h)
  have h2 := len_le (rt_e h)
  have h3 : c.s.toNat * c.e.toNat ≤ 65536 * 65536 := Nat.mul_le_mul h1.2 h2.2
  have h4 : 1 * 1 ≤ c.s.toNat * c.e.toNat := Nat.mul_le_mul h1.1 h2.1
  exact ⟨by rw [BitVec.toNat_mul, Nat.mod_eq_of_lt (by omega)], by omega, by omega⟩
theorem t_ne : c.s * c.e ≠ 0#64 := fun e => by
  have h1 := t_nat h
  rw [e] at h1
  have : (0#64).toNat = 0 := rfl
  omega
theorem pe_nat (n : BitVec 64) : (c.pe n).toNat = n.toNat / (c.s * c.e).toNat := by
  rw [pe_t h, (t_nat h).1, BitVec.toNat_udiv, BitVec.toNat_udiv, Nat.div_div_eq_div_mul]
end
/-- A period's first slot. -/
theorem fi_nat (c : Cf) (n : BitVec 64) : (n - n % (c.s * c.e)).toNat = (c.s * c.e).toNat * (n.toNat / (c.s * c.e).toNat) := by
  have h1 := Nat.div_add_mod n.toNat (c.s * c.e).toNat
  have h2 : (n % (c.s * c.e)).toNat = n.toNat % (c.s * c.e).toNat := BitVec.toNat_umod
  rw [BitVec.toNat_sub_of_le (by rw [BitVec.le_def, h2]; exact Nat.mod_le _ _), h2]
  omega
theorem ov_t {x y : BitVec 64} (h : 18446744073709551616 ≤ x.toNat + y.toNat) : decide (18446744073709551615#64 - y < x) = true := by
  have h1 := y.isLt
  have e : (18446744073709551615#64 - y).toNat = 18446744073709551615 - y.toNat := BitVec.toNat_sub_of_le (by rw [BitVec.le_def]; show y.toNat ≤ 18446744073709551615; omega)
  rw [decide_eq_true_eq, BitVec.lt_def, e]
  omega
theorem ov_f {x y : BitVec 64} (h : x.toNat + y.toNat < 18446744073709551616) : decide (18446744073709551615#64 - y < x) = false := by
  have h1 := y.isLt
  have e : (18446744073709551615#64 - y).toNat = 18446744073709551615 - y.toNat := BitVec.toNat_sub_of_le (by rw [BitVec.le_def]; show y.toNat ≤ 18446744073709551615; omega)
  rw [decide_eq_false_iff_not, BitVec.lt_def, e]
  omega
section
variable {c : Cf} (h : c.rt = true) (n : BitVec 64)
include h
theorem per_a : c.pe (n - n % (c.s * c.e)) = c.pe n := by
  refine BitVec.eq_of_toNat_eq ?_
  rw [pe_nat h, pe_nat h, fi_nat c, Nat.mul_div_cancel_left _ (by have := t_nat h; omega)]
theorem per_b (hp : 0#64 < n - n % (c.s * c.e)) : c.pe (n - n % (c.s * c.e) - 1#64) = c.pe n - 1#64 := by
  refine BitVec.eq_of_toNat_eq ?_
  rw [BitVec.lt_def, fi_nat c] at hp
  have h0 : (0#64).toNat = 0 := rfl
  have h1 : (1#64).toNat = 1 := rfl
  have ht := t_nat h
  have hq : 1 ≤ n.toNat / (c.s * c.e).toNat := by
    rcases Nat.eq_zero_or_pos (n.toNat / (c.s * c.e).toNat) with e | e
    · rw [e] at hp; omega
    · exact e
  rw [pe_nat h, BitVec.toNat_sub_of_le (by rw [BitVec.le_def, fi_nat c]; omega), fi_nat c, BitVec.toNat_sub_of_le (by rw [BitVec.le_def, pe_nat h]; omega), pe_nat h, h1]
  generalize (c.s * c.e).toNat = t at *
  obtain ⟨q, hq2⟩ : ∃ q, n.toNat / t = q + 1 := ⟨_, (Nat.sub_add_cancel hq).symm⟩
  rw [hq2, Nat.mul_succ, show t * q + t - 1 = t * q + (t - 1) from by omega, Nat.mul_add_div (by omega), Nat.div_eq_of_lt (by omega), Nat.add_zero, Nat.add_sub_cancel]
theorem per_c (ho : 18446744073709551616 ≤ (n - n % (c.s * c.e)).toNat + (c.s * c.e).toNat) : c.pe 18446744073709551615#64 = c.pe n := by
  refine BitVec.eq_of_toNat_eq ?_
  have ht := t_nat h
  have hn := n.isLt
  have hd := Nat.div_add_mod n.toNat (c.s * c.e).toNat
  rw [fi_nat c] at ho
  rw [pe_nat h, pe_nat h, show (18446744073709551615#64).toNat = 18446744073709551615 from rfl]
  generalize (c.s * c.e).toNat = t at *
  have hm := Nat.mod_lt n.toNat (show 0 < t by omega)
  generalize n.toNat / t = q at *
  rw [show 18446744073709551615 = t * q + (18446744073709551615 - t * q) from by omega, Nat.mul_add_div (by omega), Nat.div_eq_of_lt (by omega), Nat.add_zero]
theorem per_d (ho : (n - n % (c.s * c.e)).toNat + (c.s * c.e).toNat < 18446744073709551616) : c.pe (n - n % (c.s * c.e) + c.s * c.e) = c.pe n + 1#64 ∧ c.pe (n - n % (c.s * c.e) + c.s * c.e - 1#64) = c.pe n := by
  have ht := t_nat h
  have h1 : (1#64).toNat = 1 := rfl
  have e1 : (n - n % (c.s * c.e) + c.s * c.e).toNat = (c.s * c.e).toNat * (n.toNat / (c.s * c.e).toNat) + (c.s * c.e).toNat := by rw [BitVec.toNat_add, Nat.mod_eq_of_lt ho, fi_nat c]
  have hq : n.toNat / (c.s * c.e).toNat < 18446744073709551615 := by
    rw [fi_nat c] at ho
    have := Nat.mul_le_mul_right (n.toNat / (c.s * c.e).toNat) (show 1 ≤ (c.s * c.e).toNat by omega)
    omega
  constructor
  · refine BitVec.eq_of_toNat_eq ?_
    rw [pe_nat h, e1, BitVec.toNat_add, pe_nat h, h1, Nat.mod_eq_of_lt (by omega), Nat.mul_add_div (by omega), Nat.div_self (by omega)]
  · refine BitVec.eq_of_toNat_eq ?_
    rw [pe_nat h, BitVec.toNat_sub_of_le (by rw [BitVec.le_def, e1]; omega), e1, pe_nat h, h1]
    generalize (c.s * c.e).toNat = t at *
    have h2 : t * (n.toNat / t) + t - 1 = t * (n.toNat / t) + (t - 1) := by omega
    rw [h2, Nat.mul_add_div (by omega), Nat.div_eq_of_lt (show t - 1 < t by omega), Nat.add_zero]
end
def Cf0 : Cf := ⟨List.replicate 32 0#8, List.replicate 4 0#8, 32#64, 256#64, 512⟩
def CfZ : Cf := ⟨List.replicate 32 0#8, List.replicate 4 0#8, 0#64, 0#64, 0⟩
theorem Cf0_ok : Cf0.Ok := ⟨rfl, rfl⟩
theorem CfZ_ok : CfZ.Ok := ⟨rfl, rfl⟩
theorem Cf.one (c : Cf) : c.cs.all (·.oneCell') = true := by
  simp only [Cf.cs, List.all_append, one_u8, Bool.true_and]
  rfl
theorem zvCf (w : World) : (zeroValue 27).run Try.prog w = .ok (.agg CfZ.cs.toArray) w := (Try.zeroValue27 w).trans (by rfl)
theorem bldZ (w : World) : (Instr.build 27 #[]).run Try.prog w = .ok (.agg CfZ.cs.toArray) w := run_buildP (c := CfZ.cs) zvCf Try.underlying27 (ps := #[(0, 32), (32, 4), (36, 1), (37, 1), (38, 1)]) (fun w => by simp [Try.sizeOf25, Try.sizeOf23, Try.sizeOf24, Try.sizeOf3]) [] rfl w
theorem bldCf (w : World) : (Instr.build 27 #[(2, U64 32#64), (3, U64 256#64), (4, I 512)]).run Try.prog w = .ok (.agg Cf0.cs.toArray) w := run_buildP (c := CfZ.cs) zvCf Try.underlying27 (ps := #[(0, 32), (32, 4), (36, 1), (37, 1), (38, 1)]) (fun w => by simp [Try.sizeOf25, Try.sizeOf23, Try.sizeOf24, Try.sizeOf3]) [(2, U64 32#64), (3, U64 256#64), (4, I 512)] rfl w
theorem known21  (w : World) (hw : Gt w) : Calls Try.prog 7 [].toArray w (fun e w' => e = .returned (.bool true) ∧ Grow w w') := by
  have hGF : BOk Gt (pl w) := gt_low.plain hw
  refine calls_of_X (G := Gt) Try.func7 rfl rfl (Hp (pl w) []) (hp_refl (pl w) trivial rides_true) (good_hp hGF) ?_
  refine xs_plain (E := EE []) ?_
  refine lx_assign rfl rfl rfl ?_
  refine lx_nil ?_
  refine xs_plain (E := EE []) ?_
  refine lx_build (ps := [(2, .const (U64 32#64)), (3, .const (U64 256#64)), (4, .const (I 512))]) (vs := [U64 32#64, U64 256#64, I 512]) (v := .agg Cf0.cs.toArray) rfl (fun w => bldCf w) rfl rfl ?_
  refine lx_allocr 1 hGF zvCf rfl rfl ?_
  intro b1
  refine lx_storea 1 hGF rfl rfl rfl Try.sizeOf27 (Cf.len Cf0_ok) (Cf.len CfZ_ok) (Cf.one _) rfl ?_
  refine lx_nil ?_
  refine xs_plain (E := EE []) ?_
  refine lx_loadr (cs := Cf0.cs) rfl Try.isAgg27 Try.sizeOf27 (Cf.len Cf0_ok) (fun w' hw' j v hv => by have := (hp_row (n := 1) rfl w' hw') _ v (Cf.all j v hv); rwa [Nat.zero_add] at this) rfl rfl ?_
  refine lx_call rfl rfl ent13 (dea_p Cf0 Cf0_ok 5#64) rfl rfl ?_
  refine lx_move rfl rfl rfl ?_
  refine lx_ext rfl rfl rfl rfl ?_
  refine lx_ext rfl rfl rfl rfl ?_
  refine lx_assign rfl rfl rfl ?_
  refine lx_assign rfl rfl rfl ?_
  refine lx_nil ?_
  refine xs_plain (E := EE []) ?_
  refine lx_loadr (cs := Cf0.cs) rfl Try.isAgg27 Try.sizeOf27 (Cf.len Cf0_ok) (fun w' hw' j v hv => by have := (hp_row (n := 1) rfl w' hw') _ v (Cf.all j v hv); rwa [Nat.zero_add] at this) rfl rfl ?_
  refine lx_call rfl rfl ent13 (dea_p Cf0 Cf0_ok 18446744073709551615#64) rfl rfl ?_
  refine lx_move rfl rfl rfl ?_
  refine lx_ext rfl rfl rfl rfl ?_
  refine lx_ext rfl rfl rfl rfl ?_
  refine lx_assign rfl rfl rfl ?_
  refine lx_assign rfl rfl rfl ?_
  refine lx_nil ?_
  refine xs_plain (E := EE []) ?_
  refine lx_loadr (cs := Cf0.cs) rfl Try.isAgg27 Try.sizeOf27 (Cf.len Cf0_ok) (fun w' hw' j v hv => by have := (hp_row (n := 1) rfl w' hw') _ v (Cf.all j v hv); rwa [Nat.zero_add] at this) rfl rfl ?_
  refine lx_call rfl rfl ent9 (chk_p Cf0 Cf0_ok) rfl rfl ?_
  refine lx_binB true rfl rfl (fun _ => rfl) (fun _ => bin_eql_i _ (Cf0.chk) 0) (by decide +kernel) rfl rfl ?_
  refine lx_move rfl rfl rfl ?_
  refine lx_build (ps := []) (vs := []) (v := .agg CfZ.cs.toArray) rfl (fun w => bldZ w) rfl rfl ?_
  refine lx_call rfl rfl ent9 (chk_p CfZ CfZ_ok) rfl rfl ?_
  refine lx_binB true rfl rfl (fun _ => rfl) (fun _ => bin_eql_i _ (CfZ.chk) 210) (by decide +kernel) rfl rfl ?_
  refine lx_pick rfl rfl rfl rfl rfl ?_
  refine lx_move rfl rfl rfl ?_
  refine lx_loadr (cs := Cf0.cs) rfl Try.isAgg27 Try.sizeOf27 (Cf.len Cf0_ok) (fun w' hw' j v hv => by have := (hp_row (n := 1) rfl w' hw') _ v (Cf.all j v hv); rwa [Nat.zero_add] at this) rfl rfl ?_
  refine lx_call rfl rfl ent11 (per_p Cf0 Cf0_ok 8192#64) rfl rfl ?_
  refine lx_binB true rfl rfl (fun _ => rfl) (fun _ => bin_eql_u64 _ ((Cf0.pe 8192#64)) 1#64) (by decide +kernel) rfl rfl ?_
  refine lx_pick rfl rfl rfl rfl rfl ?_
  refine lx_move rfl rfl rfl ?_
  refine lx_loadr (cs := Cf0.cs) rfl Try.isAgg27 Try.sizeOf27 (Cf.len Cf0_ok) (fun w' hw' j v hv => by have := (hp_row (n := 1) rfl w' hw') _ v (Cf.all j v hv); rwa [Nat.zero_add] at this) rfl rfl ?_
  refine lx_call rfl rfl ent10 (epo_p Cf0 Cf0_ok 64#64) rfl rfl ?_
  refine lx_binB true rfl rfl (fun _ => rfl) (fun _ => bin_eql_u64 _ ((Cf0.ep 64#64)) 2#64) (by decide +kernel) rfl rfl ?_
  refine lx_pick rfl rfl rfl rfl rfl ?_
  refine lx_move rfl rfl rfl ?_
  refine lx_loadr (cs := Cf0.cs) rfl Try.isAgg27 Try.sizeOf27 (Cf.len Cf0_ok) (fun w' hw' j v hv => by have := (hp_row (n := 1) rfl w' hw') _ v (Cf.all j v hv); rwa [Nat.zero_add] at this) rfl rfl ?_
  refine lx_call rfl rfl ent12 (tim_p Cf0 Cf0_ok) rfl rfl ?_
  refine lx_binB true rfl rfl (fun _ => rfl) (fun _ => bin_eql_u64 _ (Cf0.tm) 8192#64) (by decide +kernel) rfl rfl ?_
  refine lx_pick rfl rfl rfl rfl rfl ?_
  refine lx_move rfl rfl rfl ?_
  refine lx_move rfl rfl rfl ?_
  refine lx_binB true rfl rfl (fun _ => rfl) (fun _ => bin_eql_u64 _ ((Cf0.dl 5#64).1) 8197#64) (by decide +kernel) rfl rfl ?_
  refine lx_pick rfl rfl rfl rfl rfl ?_
  refine lx_move rfl rfl rfl ?_
  refine lx_move rfl rfl rfl ?_
  refine lx_binB true rfl rfl (fun _ => rfl) (fun _ => bin_eql_i _ ((Cf0.dl 5#64).2) 0) (by decide +kernel) rfl rfl ?_
  refine lx_pick rfl rfl rfl rfl rfl ?_
  refine lx_move rfl rfl rfl ?_
  refine lx_move rfl rfl rfl ?_
  refine lx_binB true rfl rfl (fun _ => rfl) (fun _ => bin_eql_i _ ((Cf0.dl 18446744073709551615#64).2) 211) (by decide +kernel) rfl rfl ?_
  refine lx_pick rfl rfl rfl rfl rfl ?_
  refine lx_move rfl rfl rfl ?_
  refine lx_call rfl rfl ent15 (thr_p 3#64 8#64) rfl rfl ?_
  refine lx_binB true rfl rfl (fun _ => rfl) (fun _ => bin_eql_u64 _ ((mxU 3#64 8#64 / 2#64)) 4#64) (by decide +kernel) rfl rfl ?_
  refine lx_pick rfl rfl rfl rfl rfl ?_
  refine lx_assign rfl rfl rfl ?_
  refine lx_nil ?_
  refine x_ret ?_
  repeat (first | refine kseq_ret ?_ | refine kblk_ret ?_)
  exact kret_tmp rfl rfl (fun w' hw' => ⟨rfl, hp_below hw'⟩)
theorem per_law (c : Cf) (hc_ : c.Ok) (n : BitVec 64) (w : World) (hw : Gt w) : Calls Try.prog 6 [.agg c.cs.toArray, U64 n].toArray w (fun e w' => e = .returned (.bool true) ∧ Grow w w') := by
  have hGF : BOk Gt (pl w) := gt_low.plain hw
  refine calls_of_X (G := Gt) Try.func6 rfl rfl (Hp (pl w) []) (hp_refl (pl w) trivial rides_true) (good_hp hGF) ?_
  refine xs_plain (E := EE []) ?_
  refine lx_boxr 2 hGF rfl rfl rfl ?_
  intro b2
  refine lx_assign rfl rfl rfl ?_
  refine lx_nil ?_
  refine x_seq ?_
  refine xs_plain (E := EE []) ?_
  refine lx_callB true rfl rfl ent7 (known21) rfl rfl rfl ?_
  refine lx_un rfl (fun _ => un_not _) rfl rfl ?_
  refine lx_nil ?_
  refine x_false rfl ?_
  refine x_skip ?_
  refine x_seq ?_
  refine xs_plain (E := EE []) ?_
  refine lx_loadr (cs := c.cs) rfl Try.isAgg27 Try.sizeOf27 (Cf.len hc_) (fun w' hw' j v hv => by have := (hp_row (n := 2) rfl w' hw') _ v (Cf.all j v hv); rwa [Nat.zero_add] at this) rfl rfl ?_
  rcases Bool.eq_false_or_eq_true (c.rt) with hr | hr
  · skip
    refine lx_callB true rfl rfl ent8 (rig_p c hc_) (hr) rfl rfl ?_
    refine lx_un rfl (fun _ => un_not _) rfl rfl ?_
    refine lx_nil ?_
    refine x_false rfl ?_
    refine x_skip ?_
    refine xs_plain (E := EE []) ?_
    refine lx_fak 36 rfl Try.underlying27 rfl Try.sizeOf25 (by decide) rfl rfl rfl ?_
    refine lx_load (v := U64 c.s) rfl Try.isAgg25 (fun w' hw' => by have := (hp_row (n := 2) rfl w' hw') 36 _ (Cf.at_s hc_); rwa [Nat.zero_add] at this) rfl rfl ?_
    refine lx_fak 37 rfl Try.underlying27 rfl Try.sizeOf25 (by decide) rfl rfl rfl ?_
    refine lx_load (v := U64 c.e) rfl Try.isAgg25 (fun w' hw' => by have := (hp_row (n := 2) rfl w' hw') 37 _ (Cf.at_e hc_); rwa [Nat.zero_add] at this) rfl rfl ?_
    refine lx_bin rfl rfl (fun _ => rfl) (fun _ => bin_mul_u64 _ _ _) rfl rfl ?_
    refine lx_assign rfl rfl rfl ?_
    refine lx_nil ?_
    refine xs_plain (E := EE []) ?_
    refine lx_loadr (cs := c.cs) rfl Try.isAgg27 Try.sizeOf27 (Cf.len hc_) (fun w' hw' j v hv => by have := (hp_row (n := 2) rfl w' hw') _ v (Cf.all j v hv); rwa [Nat.zero_add] at this) rfl rfl ?_
    refine lx_move rfl rfl rfl ?_
    refine lx_call rfl rfl ent11 (per_p c hc_ n) rfl rfl ?_
    refine lx_assign rfl rfl rfl ?_
    refine lx_nil ?_
    refine xs_plain (E := EE []) ?_
    refine lx_move rfl rfl rfl ?_
    refine lx_move rfl rfl rfl ?_
    refine lx_move rfl rfl rfl ?_
    refine lx_bin (v := U64 (n % (c.s * c.e))) rfl rfl (fun _ => rfl) (fun _ => bin_rem_u64 _ _ _ (t_ne hr)) rfl rfl ?_
    refine lx_bin (v := U64 (n - (n % (c.s * c.e)))) rfl rfl (fun _ => rfl) (fun _ => bin_sub_u64 _ n (n % (c.s * c.e))) rfl rfl ?_
    refine lx_assign rfl rfl rfl ?_
    refine lx_nil ?_
    refine x_seq ?_
    refine xs_plain (E := EE []) ?_
    refine lx_loadr (cs := c.cs) rfl Try.isAgg27 Try.sizeOf27 (Cf.len hc_) (fun w' hw' j v hv => by have := (hp_row (n := 2) rfl w' hw') _ v (Cf.all j v hv); rwa [Nat.zero_add] at this) rfl rfl ?_
    refine lx_move rfl rfl rfl ?_
    refine lx_call rfl rfl ent11 (per_p c hc_ (n - n % (c.s * c.e))) rfl rfl ?_
    refine lx_move rfl rfl rfl ?_
    refine lx_binB false rfl rfl (fun _ => rfl) (fun _ => bin_neq_u64 _ (c.pe (n - n % (c.s * c.e))) (c.pe n)) (by rw [per_a hr n]; exact bne_self_eq_false _) rfl rfl ?_
    refine lx_move rfl rfl rfl ?_
    refine lx_move rfl rfl rfl ?_
    rcases Bool.eq_false_or_eq_true (decide (0#64 < (n - n % (c.s * c.e)))) with hp | hp
    · skip
      refine lx_binB true rfl rfl (fun _ => rfl) (fun _ => bin_gtr_u64 _ (n - n % (c.s * c.e)) 0#64) (hp) rfl rfl ?_
      refine lx_move rfl rfl rfl ?_
      refine lx_loadr (cs := c.cs) rfl Try.isAgg27 Try.sizeOf27 (Cf.len hc_) (fun w' hw' j v hv => by have := (hp_row (n := 2) rfl w' hw') _ v (Cf.all j v hv); rwa [Nat.zero_add] at this) rfl rfl ?_
      refine lx_move rfl rfl rfl ?_
      refine lx_bin (v := U64 ((n - n % (c.s * c.e)) - 1#64)) rfl rfl (fun _ => rfl) (fun _ => bin_sub_u64 _ (n - n % (c.s * c.e)) 1#64) rfl rfl ?_
      refine lx_call rfl rfl ent11 (per_p c hc_ ((n - n % (c.s * c.e)) - 1#64)) rfl rfl ?_
      refine lx_move rfl rfl rfl ?_
      refine lx_bin (v := U64 ((c.pe n) - 1#64)) rfl rfl (fun _ => rfl) (fun _ => bin_sub_u64 _ (c.pe n) 1#64) rfl rfl ?_
      refine lx_binB false rfl rfl (fun _ => rfl) (fun _ => bin_neq_u64 _ (c.pe ((n - n % (c.s * c.e)) - 1#64)) (c.pe n - 1#64)) (by rw [per_b hr n (of_decide_eq_true hp)]; exact bne_self_eq_false _) rfl rfl ?_
      refine lx_pick rfl rfl rfl rfl rfl ?_
      refine lx_pick rfl rfl rfl rfl rfl ?_
      refine lx_nil ?_
      refine x_false rfl ?_
      refine x_skip ?_
      refine x_seq ?_
      refine xs_plain (E := EE []) ?_
      refine lx_move rfl rfl rfl ?_
      refine lx_move rfl rfl rfl ?_
      refine lx_bin (v := U64 (18446744073709551615#64 - (c.s * c.e))) rfl rfl (fun _ => rfl) (fun _ => bin_sub_u64 _ 18446744073709551615#64 (c.s * c.e)) rfl rfl ?_
      rcases Nat.lt_or_ge ((n - n % (c.s * c.e)).toNat + (c.s * c.e).toNat) 18446744073709551616 with ho | ho
      · skip
        refine lx_binB false rfl rfl (fun _ => rfl) (fun _ => bin_gtr_u64 _ (n - n % (c.s * c.e)) (18446744073709551615#64 - (c.s * c.e))) (ov_f ho) rfl rfl ?_
        refine lx_nil ?_
        refine x_false rfl ?_
        refine x_skip ?_
        refine xs_plain (E := EE []) ?_
        refine lx_loadr (cs := c.cs) rfl Try.isAgg27 Try.sizeOf27 (Cf.len hc_) (fun w' hw' j v hv => by have := (hp_row (n := 2) rfl w' hw') _ v (Cf.all j v hv); rwa [Nat.zero_add] at this) rfl rfl ?_
        refine lx_move rfl rfl rfl ?_
        refine lx_move rfl rfl rfl ?_
        refine lx_bin (v := U64 ((n - n % (c.s * c.e)) + (c.s * c.e))) rfl rfl (fun _ => rfl) (fun _ => bin_add_u64 _ (n - n % (c.s * c.e)) (c.s * c.e)) rfl rfl ?_
        refine lx_call rfl rfl ent11 (per_p c hc_ ((n - n % (c.s * c.e)) + (c.s * c.e))) rfl rfl ?_
        refine lx_move rfl rfl rfl ?_
        refine lx_bin (v := U64 ((c.pe n) + 1#64)) rfl rfl (fun _ => rfl) (fun _ => bin_add_u64 _ (c.pe n) 1#64) rfl rfl ?_
        refine lx_binB true rfl rfl (fun _ => rfl) (fun _ => bin_eql_u64 _ (c.pe ((n - n % (c.s * c.e)) + (c.s * c.e))) (c.pe n + 1#64)) (by rw [(per_d hr n ho).1]; exact beq_self_eq_true _) rfl rfl ?_
        refine lx_move rfl rfl rfl ?_
        refine lx_loadr (cs := c.cs) rfl Try.isAgg27 Try.sizeOf27 (Cf.len hc_) (fun w' hw' j v hv => by have := (hp_row (n := 2) rfl w' hw') _ v (Cf.all j v hv); rwa [Nat.zero_add] at this) rfl rfl ?_
        refine lx_move rfl rfl rfl ?_
        refine lx_move rfl rfl rfl ?_
        refine lx_bin (v := U64 ((n - n % (c.s * c.e)) + (c.s * c.e))) rfl rfl (fun _ => rfl) (fun _ => bin_add_u64 _ (n - n % (c.s * c.e)) (c.s * c.e)) rfl rfl ?_
        refine lx_bin (v := U64 (((n - n % (c.s * c.e)) + (c.s * c.e)) - 1#64)) rfl rfl (fun _ => rfl) (fun _ => bin_sub_u64 _ ((n - n % (c.s * c.e)) + (c.s * c.e)) 1#64) rfl rfl ?_
        refine lx_call rfl rfl ent11 (per_p c hc_ ((n - n % (c.s * c.e)) + (c.s * c.e) - 1#64)) rfl rfl ?_
        refine lx_move rfl rfl rfl ?_
        refine lx_binB true rfl rfl (fun _ => rfl) (fun _ => bin_eql_u64 _ (c.pe ((n - n % (c.s * c.e)) + (c.s * c.e) - 1#64)) (c.pe n)) (by rw [(per_d hr n ho).2]; exact beq_self_eq_true _) rfl rfl ?_
        refine lx_pick rfl rfl rfl rfl rfl ?_
        refine lx_assign rfl rfl rfl ?_
        refine lx_nil ?_
        refine x_ret ?_
        repeat (first | refine kseq_ret ?_ | refine kblk_ret ?_)
        exact kret_tmp rfl rfl (fun w' hw' => ⟨rfl, hp_below hw'⟩)
      · skip
        refine lx_binB true rfl rfl (fun _ => rfl) (fun _ => bin_gtr_u64 _ (n - n % (c.s * c.e)) (18446744073709551615#64 - (c.s * c.e))) (ov_t ho) rfl rfl ?_
        refine lx_nil ?_
        refine x_true rfl ?_
        refine xs_plain (E := EE []) ?_
        refine lx_loadr (cs := c.cs) rfl Try.isAgg27 Try.sizeOf27 (Cf.len hc_) (fun w' hw' j v hv => by have := (hp_row (n := 2) rfl w' hw') _ v (Cf.all j v hv); rwa [Nat.zero_add] at this) rfl rfl ?_
        refine lx_call rfl rfl ent11 (per_p c hc_ 18446744073709551615#64) rfl rfl ?_
        refine lx_move rfl rfl rfl ?_
        refine lx_binB true rfl rfl (fun _ => rfl) (fun _ => bin_eql_u64 _ (c.pe 18446744073709551615#64) (c.pe n)) (by rw [per_c hr n ho]; exact beq_self_eq_true _) rfl rfl ?_
        refine lx_assign rfl rfl rfl ?_
        refine lx_nil ?_
        refine x_ret ?_
        repeat (first | refine kseq_ret ?_ | refine kblk_ret ?_)
        exact kret_tmp rfl rfl (fun w' hw' => ⟨rfl, hp_below hw'⟩)
    · skip
      refine lx_binB false rfl rfl (fun _ => rfl) (fun _ => bin_gtr_u64 _ (n - n % (c.s * c.e)) 0#64) (hp) rfl rfl ?_
      refine lx_move rfl rfl rfl ?_
      refine lx_skip rfl rfl rfl ?_
      refine lx_skip rfl rfl rfl ?_
      refine lx_skip rfl rfl rfl ?_
      refine lx_skip rfl rfl rfl ?_
      refine lx_skip rfl rfl rfl ?_
      refine lx_skip rfl rfl rfl ?_
      refine lx_skip rfl rfl rfl ?_
      refine lx_pick rfl rfl rfl rfl rfl ?_
      refine lx_pick rfl rfl rfl rfl rfl ?_
      refine lx_nil ?_
      refine x_false rfl ?_
      refine x_skip ?_
      refine x_seq ?_
      refine xs_plain (E := EE []) ?_
      refine lx_move rfl rfl rfl ?_
      refine lx_move rfl rfl rfl ?_
      refine lx_bin (v := U64 (18446744073709551615#64 - (c.s * c.e))) rfl rfl (fun _ => rfl) (fun _ => bin_sub_u64 _ 18446744073709551615#64 (c.s * c.e)) rfl rfl ?_
      rcases Nat.lt_or_ge ((n - n % (c.s * c.e)).toNat + (c.s * c.e).toNat) 18446744073709551616 with ho | ho
      · skip
        refine lx_binB false rfl rfl (fun _ => rfl) (fun _ => bin_gtr_u64 _ (n - n % (c.s * c.e)) (18446744073709551615#64 - (c.s * c.e))) (ov_f ho) rfl rfl ?_
        refine lx_nil ?_
        refine x_false rfl ?_
        refine x_skip ?_
        refine xs_plain (E := EE []) ?_
        refine lx_loadr (cs := c.cs) rfl Try.isAgg27 Try.sizeOf27 (Cf.len hc_) (fun w' hw' j v hv => by have := (hp_row (n := 2) rfl w' hw') _ v (Cf.all j v hv); rwa [Nat.zero_add] at this) rfl rfl ?_
        refine lx_move rfl rfl rfl ?_
        refine lx_move rfl rfl rfl ?_
        refine lx_bin (v := U64 ((n - n % (c.s * c.e)) + (c.s * c.e))) rfl rfl (fun _ => rfl) (fun _ => bin_add_u64 _ (n - n % (c.s * c.e)) (c.s * c.e)) rfl rfl ?_
        refine lx_call rfl rfl ent11 (per_p c hc_ ((n - n % (c.s * c.e)) + (c.s * c.e))) rfl rfl ?_
        refine lx_move rfl rfl rfl ?_
        refine lx_bin (v := U64 ((c.pe n) + 1#64)) rfl rfl (fun _ => rfl) (fun _ => bin_add_u64 _ (c.pe n) 1#64) rfl rfl ?_
        refine lx_binB true rfl rfl (fun _ => rfl) (fun _ => bin_eql_u64 _ (c.pe ((n - n % (c.s * c.e)) + (c.s * c.e))) (c.pe n + 1#64)) (by rw [(per_d hr n ho).1]; exact beq_self_eq_true _) rfl rfl ?_
        refine lx_move rfl rfl rfl ?_
        refine lx_loadr (cs := c.cs) rfl Try.isAgg27 Try.sizeOf27 (Cf.len hc_) (fun w' hw' j v hv => by have := (hp_row (n := 2) rfl w' hw') _ v (Cf.all j v hv); rwa [Nat.zero_add] at this) rfl rfl ?_
        refine lx_move rfl rfl rfl ?_
        refine lx_move rfl rfl rfl ?_
        refine lx_bin (v := U64 ((n - n % (c.s * c.e)) + (c.s * c.e))) rfl rfl (fun _ => rfl) (fun _ => bin_add_u64 _ (n - n % (c.s * c.e)) (c.s * c.e)) rfl rfl ?_
        refine lx_bin (v := U64 (((n - n % (c.s * c.e)) + (c.s * c.e)) - 1#64)) rfl rfl (fun _ => rfl) (fun _ => bin_sub_u64 _ ((n - n % (c.s * c.e)) + (c.s * c.e)) 1#64) rfl rfl ?_
        refine lx_call rfl rfl ent11 (per_p c hc_ ((n - n % (c.s * c.e)) + (c.s * c.e) - 1#64)) rfl rfl ?_
        refine lx_move rfl rfl rfl ?_
        refine lx_binB true rfl rfl (fun _ => rfl) (fun _ => bin_eql_u64 _ (c.pe ((n - n % (c.s * c.e)) + (c.s * c.e) - 1#64)) (c.pe n)) (by rw [(per_d hr n ho).2]; exact beq_self_eq_true _) rfl rfl ?_
        refine lx_pick rfl rfl rfl rfl rfl ?_
        refine lx_assign rfl rfl rfl ?_
        refine lx_nil ?_
        refine x_ret ?_
        repeat (first | refine kseq_ret ?_ | refine kblk_ret ?_)
        exact kret_tmp rfl rfl (fun w' hw' => ⟨rfl, hp_below hw'⟩)
      · skip
        refine lx_binB true rfl rfl (fun _ => rfl) (fun _ => bin_gtr_u64 _ (n - n % (c.s * c.e)) (18446744073709551615#64 - (c.s * c.e))) (ov_t ho) rfl rfl ?_
        refine lx_nil ?_
        refine x_true rfl ?_
        refine xs_plain (E := EE []) ?_
        refine lx_loadr (cs := c.cs) rfl Try.isAgg27 Try.sizeOf27 (Cf.len hc_) (fun w' hw' j v hv => by have := (hp_row (n := 2) rfl w' hw') _ v (Cf.all j v hv); rwa [Nat.zero_add] at this) rfl rfl ?_
        refine lx_call rfl rfl ent11 (per_p c hc_ 18446744073709551615#64) rfl rfl ?_
        refine lx_move rfl rfl rfl ?_
        refine lx_binB true rfl rfl (fun _ => rfl) (fun _ => bin_eql_u64 _ (c.pe 18446744073709551615#64) (c.pe n)) (by rw [per_c hr n ho]; exact beq_self_eq_true _) rfl rfl ?_
        refine lx_assign rfl rfl rfl ?_
        refine lx_nil ?_
        refine x_ret ?_
        repeat (first | refine kseq_ret ?_ | refine kblk_ret ?_)
        exact kret_tmp rfl rfl (fun w' hw' => ⟨rfl, hp_below hw'⟩)
  · skip
    refine lx_callB false rfl rfl ent8 (rig_p c hc_) (hr) rfl rfl ?_
    refine lx_un rfl (fun _ => un_not _) rfl rfl ?_
    refine lx_nil ?_
    refine x_true rfl ?_
    refine xs_plain (E := EE []) ?_
    refine lx_assign rfl rfl rfl ?_
    refine lx_nil ?_
    refine x_ret ?_
    repeat (first | refine kseq_ret ?_ | refine kblk_ret ?_)
    exact kret_tmp rfl rfl (fun w' hw' => ⟨rfl, hp_below hw'⟩)
end Go.Proofs.Ytdkgiilmanhpbaa
