/-
  The document's deadline; what is known; the laws.
-/
import Derived.Test.YtdkgiilmanhpbaaTB
namespace Go.Proofs.Ytdkgiilmanhpbaa
open Go.RowKit
set_option maxRecDepth 100000
set_option maxHeartbeats 1000000

section
variable {c : Cf} (h : c.rt = true)
include h
end
theorem mxU_comm (a b : BitVec 64) : mxU a b = mxU b a := by
  unfold mxU
  have h1 : a < b ↔ a.toNat < b.toNat := BitVec.lt_def
  have h2 : b < a ↔ b.toNat < a.toNat := BitVec.lt_def
  by_cases h : a < b
  · rw [if_pos h, if_neg (fun h' => by have := h1.1 h; have := h2.1 h'; omega)]
  · rw [if_neg h]
    by_cases h' : b < a
    · rw [if_pos h']
    · rw [if_neg h']
      have : ¬ a.toNat < b.toNat := fun x => h (h1.2 x)
      have : ¬ b.toNat < a.toNat := fun x => h' (h2.2 x)
      exact BitVec.eq_of_toNat_eq (by omega)
section
variable {c : Cf} (h : c.rt = true) (n : BitVec 64)
include h
end
def Cf0 : Cf := ⟨List.replicate 32 0#8, List.replicate 4 0#8, 32#64, 256#64, 512⟩
def CfZ : Cf := ⟨List.replicate 32 0#8, List.replicate 4 0#8, 0#64, 0#64, 0⟩
theorem Cf0_ok : Cf0.Ok := ⟨rfl, rfl⟩
theorem CfZ_ok : CfZ.Ok := ⟨rfl, rfl⟩
theorem Cf.one (c : Cf) : c.cs.all (·.oneCell') = true := by
  simp only [Cf.cs, List.all_append, one_u8, Bool.true_and]
  rfl
theorem zvCf (w : World) : (zeroValue 27).run Try.prog w = .ok (.agg CfZ.cs.toArray) w := (Try.zeroValue27 w).trans (by rfl)
theorem bldZ (w : World) : (Instr.build 27 #[]).run Try.prog w = .ok (.agg CfZ.cs.toArray) w := run_buildP (c := CfZ.cs) zvCf Try.underlying27 (ps := #[(0, 32), (32, 4), (36, 1), (37, 1), (38, 1)]) (fun w => by simp [Try.sizeOf25, Try.sizeOf23, Try.sizeOf24, Try.sizeOf3]) [] rfl w
theorem bldCf (w : World) : (Instr.build 27 #[(2, U64 32#64), (3, U64 256#64), (4, I 512)]).run Try.prog w = .ok (.agg Cf0.cs.toArray) w := run_buildP (c := CfZ.cs) zvCf Try.underlying27 (ps := #[(0, 32), (32, 4), (36, 1), (37, 1), (38, 1)]) (fun w => by simp [Try.sizeOf25, Try.sizeOf23, Try.sizeOf24, Try.sizeOf3]) [(2, U64 32#64), (3, U64 256#64), (4, I 512)] rfl w
theorem known21  (w : World) (hw : Gt w) : Calls Try.prog 7 [].toArray w (fun e w' => e = .returned (.bool true) ∧ Grow w w') := by
  have hGF : BOk Gt (pl w) := gt_low.plain hw
  refine calls_of_X (G := Gt) Try.func7 rfl rfl (Hp (pl w) []) (hp_refl (pl w) trivial rides_true) (good_hp hGF) ?_
  refine xs_plain (E := EE []) ?_
  refine lx_assign rfl rfl rfl ?_
  refine lx_nil ?_
  refine xs_plain (E := EE []) ?_
  refine lx_build (ps := [(2, .const (U64 32#64)), (3, .const (U64 256#64)), (4, .const (I 512))]) (vs := [U64 32#64, U64 256#64, I 512]) (v := .agg Cf0.cs.toArray) rfl (fun w => bldCf w) rfl rfl ?_
  refine lx_allocr 1 hGF zvCf rfl rfl ?_
  intro b1
  refine lx_storea 1 hGF rfl rfl rfl Try.sizeOf27 (Cf.len Cf0_ok) (Cf.len CfZ_ok) (Cf.one _) rfl ?_
  refine lx_nil ?_
  refine xs_plain (E := EE []) ?_
  refine lx_loadr (cs := Cf0.cs) rfl Try.isAgg27 Try.sizeOf27 (Cf.len Cf0_ok) (fun w' hw' j v hv => by have := (hp_row (n := 1) rfl w' hw') _ v (Cf.all j v hv); rwa [Nat.zero_add] at this) rfl rfl ?_
  refine lx_call rfl rfl ent13 (dea_p Cf0 Cf0_ok 5#64) rfl rfl ?_
  refine lx_move rfl rfl rfl ?_
  refine lx_ext rfl rfl rfl rfl ?_
  refine lx_ext rfl rfl rfl rfl ?_
  refine lx_assign rfl rfl rfl ?_
  refine lx_assign rfl rfl rfl ?_
  refine lx_nil ?_
  refine xs_plain (E := EE []) ?_
  refine lx_loadr (cs := Cf0.cs) rfl Try.isAgg27 Try.sizeOf27 (Cf.len Cf0_ok) (fun w' hw' j v hv => by have := (hp_row (n := 1) rfl w' hw') _ v (Cf.all j v hv); rwa [Nat.zero_add] at this) rfl rfl ?_
  refine lx_call rfl rfl ent13 (dea_p Cf0 Cf0_ok 18446744073709551615#64) rfl rfl ?_
  refine lx_move rfl rfl rfl ?_
  refine lx_ext rfl rfl rfl rfl ?_
  refine lx_ext rfl rfl rfl rfl ?_
  refine lx_assign rfl rfl rfl ?_
  refine lx_assign rfl rfl rfl ?_
  refine lx_nil ?_
  refine xs_plain (E := EE []) ?_
  refine lx_loadr (cs := Cf0.cs) rfl Try.isAgg27 Try.sizeOf27 (Cf.len Cf0_ok) (fun w' hw' j v hv => by have := (hp_row (n := 1) rfl w' hw') _ v (Cf.all j v hv); rwa [Nat.zero_add] at this) rfl rfl ?_
  refine lx_call rfl rfl ent9 (chk_p Cf0 Cf0_ok) rfl rfl ?_
  refine lx_binB true rfl rfl (fun _ => rfl) (fun _ => bin_eql_i _ (Cf0.chk) 0) (by decide +kernel) rfl rfl ?_
  refine lx_move rfl rfl rfl ?_
  refine lx_build (ps := []) (vs := []) (v := .agg CfZ.cs.toArray) rfl (fun w => bldZ w) rfl rfl ?_
  refine lx_call rfl rfl ent9 (chk_p CfZ CfZ_ok) rfl rfl ?_
  refine lx_binB true rfl rfl (fun _ => rfl) (fun _ => bin_eql_i _ (CfZ.chk) 210) (by decide +kernel) rfl rfl ?_
  refine lx_pick rfl rfl rfl rfl rfl ?_
  refine lx_move rfl rfl rfl ?_
  refine lx_loadr (cs := Cf0.cs) rfl Try.isAgg27 Try.sizeOf27 (Cf.len Cf0_ok) (fun w' hw' j v hv => by have := (hp_row (n := 1) rfl w' hw') _ v (Cf.all j v hv); rwa [Nat.zero_add] at this) rfl rfl ?_
  refine lx_call rfl rfl ent11 (per_p Cf0 Cf0_ok 8192#64) rfl rfl ?_
  refine lx_binB true rfl rfl (fun _ => rfl) (fun _ => bin_eql_u64 _ ((Cf0.pe 8192#64)) 1#64) (by decide +kernel) rfl rfl ?_
  refine lx_pick rfl rfl rfl rfl rfl ?_
  refine lx_move rfl rfl rfl ?_
  refine lx_loadr (cs := Cf0.cs) rfl Try.isAgg27 Try.sizeOf27 (Cf.len Cf0_ok) (fun w' hw' j v hv => by have := (hp_row (n := 1) rfl w' hw') _ v (Cf.all j v hv); rwa [Nat.zero_add] at this) rfl rfl ?_
  refine lx_call rfl rfl ent10 (epo_p Cf0 Cf0_ok 64#64) rfl rfl ?_
  refine lx_binB true rfl rfl (fun _ => rfl) (fun _ => bin_eql_u64 _ ((Cf0.ep 64#64)) 2#64) (by decide +kernel) rfl rfl ?_
  refine lx_pick rfl rfl rfl rfl rfl ?_
  refine lx_move rfl rfl rfl ?_
  refine lx_loadr (cs := Cf0.cs) rfl Try.isAgg27 Try.sizeOf27 (Cf.len Cf0_ok) (fun w' hw' j v hv => by have := (hp_row (n := 1) rfl w' hw') _ v (Cf.all j v hv); rwa [Nat.zero_add] at this) rfl rfl ?_
  refine lx_call rfl rfl ent12 (tim_p Cf0 Cf0_ok) rfl rfl ?_
  refine lx_binB true rfl rfl (fun _ => rfl) (fun _ => bin_eql_u64 _ (Cf0.tm) 8192#64) (by decide +kernel) rfl rfl ?_
  refine lx_pick rfl rfl rfl rfl rfl ?_
  refine lx_move rfl rfl rfl ?_
  refine lx_move rfl rfl rfl ?_
  refine lx_binB true rfl rfl (fun _ => rfl) (fun _ => bin_eql_u64 _ ((Cf0.dl 5#64).1) 8197#64) (by decide +kernel) rfl rfl ?_
  refine lx_pick rfl rfl rfl rfl rfl ?_
  refine lx_move rfl rfl rfl ?_
  refine lx_move rfl rfl rfl ?_
  refine lx_binB true rfl rfl (fun _ => rfl) (fun _ => bin_eql_i _ ((Cf0.dl 5#64).2) 0) (by decide +kernel) rfl rfl ?_
  refine lx_pick rfl rfl rfl rfl rfl ?_
  refine lx_move rfl rfl rfl ?_
  refine lx_move rfl rfl rfl ?_
  refine lx_binB true rfl rfl (fun _ => rfl) (fun _ => bin_eql_i _ ((Cf0.dl 18446744073709551615#64).2) 211) (by decide +kernel) rfl rfl ?_
  refine lx_pick rfl rfl rfl rfl rfl ?_
  refine lx_move rfl rfl rfl ?_
  refine lx_call rfl rfl ent15 (thr_p 3#64 8#64) rfl rfl ?_
  refine lx_binB true rfl rfl (fun _ => rfl) (fun _ => bin_eql_u64 _ ((mxU 3#64 8#64 / 2#64)) 4#64) (by decide +kernel) rfl rfl ?_
  refine lx_pick rfl rfl rfl rfl rfl ?_
  refine lx_assign rfl rfl rfl ?_
  refine lx_nil ?_
  refine x_ret ?_
  repeat (first | refine kseq_ret ?_ | refine kblk_ret ?_)
  exact kret_tmp rfl rfl (fun w' hw' => ⟨rfl, hp_below hw'⟩)
theorem thr_law (a b : BitVec 64) (w : World) (hw : Gt w) : Calls Try.prog 5 [U64 a, U64 b].toArray w (fun e w' => e = .returned (.bool true) ∧ Grow w w') := by
  have hGF : BOk Gt (pl w) := gt_low.plain hw
  refine calls_of_X (G := Gt) Try.func5 rfl rfl (Hp (pl w) []) (hp_refl (pl w) trivial rides_true) (good_hp hGF) ?_
  refine xs_plain (E := EE []) ?_
  refine lx_assign rfl rfl rfl ?_
  refine lx_nil ?_
  refine x_seq ?_
  refine xs_plain (E := EE []) ?_
  refine lx_callB true rfl rfl ent7 (known21) rfl rfl rfl ?_
  refine lx_un rfl (fun _ => un_not _) rfl rfl ?_
  refine lx_nil ?_
  refine x_false rfl ?_
  refine x_skip ?_
  refine xs_plain (E := EE []) ?_
  refine lx_move rfl rfl rfl ?_
  refine lx_move rfl rfl rfl ?_
  refine lx_call rfl rfl ent15 (thr_p a b) rfl rfl ?_
  refine lx_move rfl rfl rfl ?_
  refine lx_move rfl rfl rfl ?_
  refine lx_maxU rfl rfl rfl rfl ?_
  refine lx_bin (v := U64 (mxU a b / 2#64)) rfl rfl (fun _ => rfl) (fun _ => bin_quo_u64 _ _ _ (by decide)) rfl rfl ?_
  refine lx_binB true rfl rfl (fun _ => rfl) (fun _ => bin_eql_u64 _ (mxU a b / 2#64) (mxU a b / 2#64)) (beq_self_eq_true _) rfl rfl ?_
  refine lx_move rfl rfl rfl ?_
  refine lx_move rfl rfl rfl ?_
  refine lx_move rfl rfl rfl ?_
  refine lx_call rfl rfl ent15 (thr_p b a) rfl rfl ?_
  refine lx_move rfl rfl rfl ?_
  refine lx_move rfl rfl rfl ?_
  refine lx_call rfl rfl ent15 (thr_p a b) rfl rfl ?_
  refine lx_binB true rfl rfl (fun _ => rfl) (fun _ => bin_eql_u64 _ (mxU b a / 2#64) (mxU a b / 2#64)) (by rw [mxU_comm b a]; exact beq_self_eq_true _) rfl rfl ?_
  refine lx_pick rfl rfl rfl rfl rfl ?_
  refine lx_assign rfl rfl rfl ?_
  refine lx_nil ?_
  refine x_ret ?_
  repeat (first | refine kseq_ret ?_ | refine kblk_ret ?_)
  exact kret_tmp rfl rfl (fun w' hw' => ⟨rfl, hp_below hw'⟩)
end Go.Proofs.Ytdkgiilmanhpbaa
