/-
 The walks of package fp: elements of p.
 The walks of package fp: powers.
 The walks of package fp: powers, inverses, roots, signs.
 The walks of package fp: inverses, roots, signs, bytes.
-/
import Derived.Test.YthkmeodnlidpfaaDoorX6
import Derived.Test.YthkmeodnlidpfaaDoorX4
import Derived.Test.YthkmeodnlidpfaaDoorX3
import Derived.Test.YthkmeodnlidpfaaDoorX5
set_option maxRecDepth 100000
set_option maxHeartbeats 1000000
namespace Go.Proofs.YthkmeodnlidpfaaDoor
section
open Go.RowKit
theorem PLl : PL.length = 6 := rfl
theorem TWOl : TWO.length = 6 := rfl
theorem ONEl : ONE.length = 6 := rfl
theorem N1l : N1.length = 6 := rfl
theorem IVPl : IVP.length = 6 := rfl
theorem HFPl : HFP.length = 6 := rfl
theorem RTPl : RTP.length = 6 := rfl
attribute [local simp] fe_len nm_len AS_len SS_len MONT_len RM_len FRs_len BYs_len by48_len PLl TWOl ONEl N1l IVPl HFPl RTPl
abbrev EV (x : Zp) : Value := .agg ((fe x).map U64).toArray
abbrev NV (n : List (BitVec 64)) : Value := .agg (n.map U64).toArray
theorem zv35 (w : World) : (zeroValue 35).run Tryd.prog w = .ok (.agg ((List.replicate 6 (0#64)).map U64).toArray) w := (Tryd.zeroValue35 w).trans (by rfl)
theorem eqg33 (op : BinOp) (x y : Operand) (xs ys : Array Value) (w : World) : (eqGuard op 33 x y (.agg xs) (.agg ys)).run Tryd.prog w = .ok () w := run_eqGuard_agg w op 33 x y xs ys (by kernel_rfl)
theorem eqv33 (xs ys : List (BitVec 64)) (h : xs.length = 6) (h' : ys.length = 6) (w : World) : (binOp .eql 33 (.agg (xs.map U64).toArray) (.agg (ys.map U64).toArray)).run Tryd.prog w = .ok (.bool (decide (xs = ys))) w := bin_eq64 Tryd.underlying33 Tryd.underlying32 Tryd.sizeOf32 Tryd.isAgg32 xs ys h h' w
theorem decide_fe (x y : Zp) : decide (fe x = fe y) = decide (x = y) := decide_eq_decide.2 fe_inj
theorem beq_t {x y : BitVec 64} (h : (x == y) = true) : x = y := beq_iff_eq.1 h
theorem beq_f {x y : BitVec 64} (h : (x == y) = false) : ¬ x = y := beq_eq_false_iff_ne.1 h
theorem ent12 : Enters Tryd.prog 12 := fun _ _ => by kernel_rfl
theorem ent35 : Enters Tryd.prog 35 := fun _ _ => by kernel_rfl
theorem ent32 : Enters Tryd.prog 32 := fun _ _ => by kernel_rfl
theorem ent39 : Enters Tryd.prog 39 := fun _ _ => by kernel_rfl
theorem ent30 : Enters Tryd.prog 30 := fun _ _ => by kernel_rfl
theorem ent42 : Enters Tryd.prog 42 := fun _ _ => by kernel_rfl
theorem ent38 : Enters Tryd.prog 38 := fun _ _ => by kernel_rfl
theorem ent48 : Enters Tryd.prog 48 := fun _ _ => by kernel_rfl
theorem ent41 : Enters Tryd.prog 41 := fun _ _ => by kernel_rfl
theorem ent55 : Enters Tryd.prog 55 := fun _ _ => by kernel_rfl
theorem ent46 : Enters Tryd.prog 46 := fun _ _ => by kernel_rfl
theorem ent65 : Enters Tryd.prog 65 := fun _ _ => by kernel_rfl
theorem ent56 : Enters Tryd.prog 56 := fun _ _ => by kernel_rfl
theorem ent68 : Enters Tryd.prog 68 := fun _ _ => by kernel_rfl
theorem ent69 : Enters Tryd.prog 69 := fun _ _ => by kernel_rfl
theorem fmul_pure (x y : Zp) : Pure Tryd.prog Gt 41 [EV x, EV y] (EV (x * y)) := by
 intro w hw
 have hGF : BOk Gt (pl w) := gt_low.plain hw
 refine calls_of_X (G := Gt) Tryd.func41 rfl rfl (Hp (pl w) []) (hp_refl (pl w) trivial rides_true) (good_hp hGF) ?_
 refine xs_plain (E := EE []) ?_
 refine lx_boxr 2 hGF rfl rfl rfl ?_
 intro b2
 refine lx_boxr 3 hGF rfl rfl rfl ?_
 intro b3
 refine lx_allocr 4 hGF zv35 rfl rfl ?_
 intro b4
 refine lx_nil ?_
 refine xs_plain (E := EE []) ?_
 refine lx_fak 0 rfl Tryd.underlying35 rfl Tryd.sizeOf33 (by decide) rfl rfl rfl ?_
 refine lx_loada 2 rfl rfl Tryd.isAgg33 Tryd.sizeOf33 (by simp) rfl rfl ?_
 refine lx_fak 0 rfl Tryd.underlying35 rfl Tryd.sizeOf33 (by decide) rfl rfl rfl ?_
 refine lx_loada 3 rfl rfl Tryd.isAgg33 Tryd.sizeOf33 (by simp) rfl rfl ?_
 refine lx_gl hGF Tryd.isAgg33 Tryd.sizeOf33 (by simp) (fun _ h => h.g1) rfl rfl ?_
 refine lx_call rfl rfl ent47 (mont_pure _ _ _ (by simp) (by simp) (by simp)) rfl rfl ?_
 refine lx_buildS rfl (by simp) Tryd.underlying35 rfl Tryd.sizeOf33 zv35 rfl rfl ?_
 refine lx_storea 4 hGF rfl rfl rfl Tryd.sizeOf35 (by simp) (by simp) (one_u64 _) rfl ?_
 refine lx_nil ?_
 refine x_ret ?_
 repeat (first | refine kseq_ret ?_ | refine kblk_ret ?_)
 exact kret_own 4 rfl rfl rfl Tryd.isAgg35 Tryd.sizeOf35 (by simp) (fun w hw => ⟨by rw [MONT_fe], hp_below hw⟩)
theorem felem_pure (n : List (BitVec 64)) (hn : n.length = 6) : Pure Tryd.prog Gt 30 [NV n] (EV (zp (V n 6))) := by
 intro w hw
 have hGF : BOk Gt (pl w) := gt_low.plain hw
 refine calls_of_X (G := Gt) Tryd.func30 rfl rfl (Hp (pl w) []) (hp_refl (pl w) trivial rides_true) (good_hp hGF) ?_
 refine xs_plain (E := EE []) ?_
 refine lx_boxr 1 hGF rfl rfl rfl ?_
 intro b1
 refine lx_allocr 2 hGF zv35 rfl rfl ?_
 intro b2
 refine lx_nil ?_
 refine xs_plain (E := EE []) ?_
 refine lx_gl hGF Tryd.isAgg33 Tryd.sizeOf33 (by first | (simp; done) | simp [hn]) (fun _ h => h.g0) rfl rfl ?_
 refine lx_loada 1 rfl rfl Tryd.isAgg33 Tryd.sizeOf33 (by first | (simp; done) | simp [hn]) rfl rfl ?_
 refine lx_gl hGF Tryd.isAgg33 Tryd.sizeOf33 (by first | (simp; done) | simp [hn]) (fun _ h => h.g1) rfl rfl ?_
 refine lx_call rfl rfl ent47 (mont_pure _ _ _ (by first | (simp; done) | simp [hn]) (by first | (simp; done) | simp [hn]) (by first | (simp; done) | simp [hn])) rfl rfl ?_
 refine lx_buildS rfl (by first | (simp; done) | simp [hn]) Tryd.underlying35 rfl Tryd.sizeOf33 zv35 rfl rfl ?_
 refine lx_storea 2 hGF rfl rfl rfl Tryd.sizeOf35 (by first | (simp; done) | simp [hn]) (by first | (simp; done) | simp [hn]) (one_u64 _) rfl ?_
 refine lx_nil ?_
 refine x_ret ?_
 repeat (first | refine kseq_ret ?_ | refine kblk_ret ?_)
 exact kret_own 2 rfl rfl rfl Tryd.isAgg35 Tryd.sizeOf35 (by first | (simp; done) | simp [hn]) (fun w hw => ⟨by rw [MONT_two], hp_below hw⟩)
theorem V_cons0 (n : BitVec 64) : ∀ k, V (n :: List.replicate 5 0) (k + 1) = n.toNat
 | 0 => by rw [V_succ, V, Nat.mul_zero, Nat.pow_zero, Nat.mul_one, Nat.zero_add]; rfl
 | k + 1 => by
  have h0 : (n :: List.replicate 5 (0 : BitVec 64)).getD (k + 1) 0 = 0 := by
   rw [List.getD_eq_getElem?_getD, List.getElem?_cons_succ, List.getElem?_replicate]
   split <;> rfl
  rw [V_succ, V_cons0 n k, h0, show (0 : BitVec 64).toNat = 0 from rfl, Nat.zero_mul, Nat.add_zero]
theorem V_small (n : BitVec 64) : V (n :: List.replicate 5 0) 6 = n.toNat := V_cons0 n 5
theorem fof_pure (n : BitVec 64) : Pure Tryd.prog Gt 12 [U64 n] (EV (zp n.toNat)) := by
 intro w hw
 have hGF : BOk Gt (pl w) := gt_low.plain hw
 refine calls_of_X (G := Gt) Tryd.func12 rfl rfl (Hp (pl w) []) (hp_refl (pl w) trivial rides_true) (good_hp hGF) ?_
 refine xs_plain (E := EE []) ?_
 refine lx_allocr 2 hGF zv35 rfl rfl ?_
 intro b2
 refine lx_nil ?_
 refine xs_plain (E := EE []) ?_
 refine lx_move rfl rfl rfl ?_
 refine lx_build1 n rfl Tryd.underlying33 Tryd.sizeOf32 zv33 rfl rfl ?_
 refine lx_call rfl rfl ent30 (felem_pure _ (by simp)) rfl rfl ?_
 refine lx_storea 2 hGF rfl rfl rfl Tryd.sizeOf35 (by simp) (by simp) (one_u64 _) rfl ?_
 refine lx_nil ?_
 refine x_ret ?_
 repeat (first | refine kseq_ret ?_ | refine kblk_ret ?_)
 exact kret_own 2 rfl rfl rfl Tryd.isAgg35 Tryd.sizeOf35 (by simp) (fun w hw => ⟨by rw [V_small], hp_below hw⟩)
theorem fequal_pure (x y : Zp) : Pure Tryd.prog Gt 32 [EV x, EV y] (.bool (decide (x = y))) := by
 intro w hw
 have hGF : BOk Gt (pl w) := gt_low.plain hw
 refine calls_of_X (G := Gt) Tryd.func32 rfl rfl (Hp (pl w) []) (hp_refl (pl w) trivial rides_true) (good_hp hGF) ?_
 refine xs_plain (E := EE []) ?_
 refine lx_boxr 2 hGF rfl rfl rfl ?_
 intro b2
 refine lx_boxr 3 hGF rfl rfl rfl ?_
 intro b3
 refine lx_assign rfl rfl rfl ?_
 refine lx_nil ?_
 refine xs_plain (E := EE []) ?_
 refine lx_fak 0 rfl Tryd.underlying35 rfl Tryd.sizeOf33 (by decide) rfl rfl rfl ?_
 refine lx_loada 2 rfl rfl Tryd.isAgg33 Tryd.sizeOf33 (by simp) rfl rfl ?_
 refine lx_fak 0 rfl Tryd.underlying35 rfl Tryd.sizeOf33 (by decide) rfl rfl rfl ?_
 refine lx_loada 3 rfl rfl Tryd.isAgg33 Tryd.sizeOf33 (by simp) rfl rfl ?_
 refine lx_bin rfl rfl (fun _ => eqg33 _ _ _ _ _ _) (fun w => eqv33 _ _ (by simp) (by simp) w) rfl rfl ?_
 refine lx_assign rfl rfl rfl ?_
 refine lx_nil ?_
 refine x_ret ?_
 repeat (first | refine kseq_ret ?_ | refine kblk_ret ?_)
 exact kret_tmp rfl rfl (fun w hw => ⟨by rw [decide_fe], hp_below hw⟩)
theorem fisZero_pure (x : Zp) : Pure Tryd.prog Gt 39 [EV x] (.bool (decide (x = 0))) := by
 intro w hw
 have hGF : BOk Gt (pl w) := gt_low.plain hw
 refine calls_of_X (G := Gt) Tryd.func39 rfl rfl (Hp (pl w) []) (hp_refl (pl w) trivial rides_true) (good_hp hGF) ?_
 refine xs_plain (E := EE []) ?_
 refine lx_boxr 1 hGF rfl rfl rfl ?_
 intro b1
 refine lx_assign rfl rfl rfl ?_
 refine lx_nil ?_
 refine xs_plain (E := EE []) ?_
 refine lx_fak 0 rfl Tryd.underlying35 rfl Tryd.sizeOf33 (by decide) rfl rfl rfl ?_
 refine lx_loada 1 rfl rfl Tryd.isAgg33 Tryd.sizeOf33 (by simp) rfl rfl ?_
 refine lx_buildz zv33 Tryd.underlying33 Tryd.sizeOf32 rfl rfl ?_
 refine lx_bin rfl rfl (fun _ => eqg33 _ _ _ _ _ _) (fun w => eqv33 _ _ (by simp) (by simp) w) rfl rfl ?_
 refine lx_assign rfl rfl rfl ?_
 refine lx_nil ?_
 refine x_ret ?_
 repeat (first | refine kseq_ret ?_ | refine kblk_ret ?_)
 exact kret_tmp rfl rfl (fun w hw => ⟨by rw [← fe_0, decide_fe], hp_below hw⟩)
theorem fadd_pure (x y : Zp) : Pure Tryd.prog Gt 42 [EV x, EV y] (EV (x + y)) := by
 intro w hw
 have hGF : BOk Gt (pl w) := gt_low.plain hw
 refine calls_of_X (G := Gt) Tryd.func42 rfl rfl (Hp (pl w) []) (hp_refl (pl w) trivial rides_true) (good_hp hGF) ?_
 refine xs_plain (E := EE []) ?_
 refine lx_boxr 2 hGF rfl rfl rfl ?_
 intro b2
 refine lx_boxr 3 hGF rfl rfl rfl ?_
 intro b3
 refine lx_allocr 4 hGF zv35 rfl rfl ?_
 intro b4
 refine lx_nil ?_
 refine xs_plain (E := EE []) ?_
 refine lx_fak 0 rfl Tryd.underlying35 rfl Tryd.sizeOf33 (by decide) rfl rfl rfl ?_
 refine lx_loada 2 rfl rfl Tryd.isAgg33 Tryd.sizeOf33 (by simp) rfl rfl ?_
 refine lx_fak 0 rfl Tryd.underlying35 rfl Tryd.sizeOf33 (by decide) rfl rfl rfl ?_
 refine lx_loada 3 rfl rfl Tryd.isAgg33 Tryd.sizeOf33 (by simp) rfl rfl ?_
 refine lx_call rfl rfl ent54 (add_pure _ _ (by simp) (by simp)) rfl rfl ?_
 refine lx_move rfl rfl rfl ?_
 refine lx_ext rfl rfl rfl rfl ?_
 refine lx_ext rfl rfl rfl rfl ?_
 refine lx_allocr 5 hGF zv33 rfl rfl ?_
 intro b5
 refine lx_storea 5 hGF rfl rfl rfl Tryd.sizeOf33 (by simp) (by simp) (one_u64 _) rfl ?_
 refine lx_assign rfl rfl rfl ?_
 refine lx_nil ?_
 refine xs_plain (E := EE []) ?_
 refine lx_loada 5 rfl rfl Tryd.isAgg33 Tryd.sizeOf33 (by simp) rfl rfl ?_
 refine lx_gl hGF Tryd.isAgg33 Tryd.sizeOf33 (by simp) (fun _ h => h.g1) rfl rfl ?_
 refine lx_call rfl rfl ent53 (sub_pure _ _ (by simp) (by simp)) rfl rfl ?_
 refine lx_move rfl rfl rfl ?_
 refine lx_ext rfl rfl rfl rfl ?_
 refine lx_ext rfl rfl rfl rfl ?_
 refine lx_allocr 7 hGF zv33 rfl rfl ?_
 intro b7
 refine lx_storea 7 hGF rfl rfl rfl Tryd.sizeOf33 (by simp) (by simp) (one_u64 _) rfl ?_
 refine lx_assign rfl rfl rfl ?_
 refine lx_nil ?_
 refine x_seq ?_
 refine xs_plain (E := EE []) ?_
 refine lx_move rfl rfl rfl ?_
 refine lx_bin rfl rfl (fun _ => rfl) (fun _ => bin_eql_u64 _ _ _) rfl rfl ?_
 refine lx_nil ?_
 refine x_if rfl (fun hc => ?_) (fun hc => ?_)
 ·skip
  refine xs_plain (E := EE []) ?_
  refine lx_loada 5 rfl rfl Tryd.isAgg33 Tryd.sizeOf33 (by simp) rfl rfl ?_
  refine lx_buildS rfl (by simp) Tryd.underlying35 rfl Tryd.sizeOf33 zv35 rfl rfl ?_
  refine lx_storea 4 hGF rfl rfl rfl Tryd.sizeOf35 (by simp) (by simp) (one_u64 _) rfl ?_
  refine lx_nil ?_
  refine x_ret ?_
  repeat (first | refine kseq_ret ?_ | refine kblk_ret ?_)
  exact kret_own 4 rfl rfl rfl Tryd.isAgg35 Tryd.sizeOf35 (by simp) (fun w hw => ⟨by rw [add_low (sum_lt (beq_t hc))], hp_below hw⟩)
 ·skip
  refine x_skip ?_
  refine xs_plain (E := EE []) ?_
  refine lx_loada 7 rfl rfl Tryd.isAgg33 Tryd.sizeOf33 (by simp) rfl rfl ?_
  refine lx_buildS rfl (by simp) Tryd.underlying35 rfl Tryd.sizeOf33 zv35 rfl rfl ?_
  refine lx_storea 4 hGF rfl rfl rfl Tryd.sizeOf35 (by simp) (by simp) (one_u64 _) rfl ?_
  refine lx_nil ?_
  refine x_ret ?_
  repeat (first | refine kseq_ret ?_ | refine kblk_ret ?_)
  exact kret_own 4 rfl rfl rfl Tryd.isAgg35 Tryd.sizeOf35 (by simp) (fun w hw => ⟨by rw [add_high (one_or (SS_c _ _ _) (beq_f hc))], hp_below hw⟩)
theorem fsub_pure (x y : Zp) : Pure Tryd.prog Gt 38 [EV x, EV y] (EV (x - y)) := by
 intro w hw
 have hGF : BOk Gt (pl w) := gt_low.plain hw
 refine calls_of_X (G := Gt) Tryd.func38 rfl rfl (Hp (pl w) []) (hp_refl (pl w) trivial rides_true) (good_hp hGF) ?_
 refine xs_plain (E := EE []) ?_
 refine lx_boxr 2 hGF rfl rfl rfl ?_
 intro b2
 refine lx_boxr 3 hGF rfl rfl rfl ?_
 intro b3
 refine lx_allocr 4 hGF zv35 rfl rfl ?_
 intro b4
 refine lx_nil ?_
 refine xs_plain (E := EE []) ?_
 refine lx_fak 0 rfl Tryd.underlying35 rfl Tryd.sizeOf33 (by decide) rfl rfl rfl ?_
 refine lx_loada 2 rfl rfl Tryd.isAgg33 Tryd.sizeOf33 (by simp) rfl rfl ?_
 refine lx_fak 0 rfl Tryd.underlying35 rfl Tryd.sizeOf33 (by decide) rfl rfl rfl ?_
 refine lx_loada 3 rfl rfl Tryd.isAgg33 Tryd.sizeOf33 (by simp) rfl rfl ?_
 refine lx_call rfl rfl ent53 (sub_pure _ _ (by simp) (by simp)) rfl rfl ?_
 refine lx_move rfl rfl rfl ?_
 refine lx_ext rfl rfl rfl rfl ?_
 refine lx_ext rfl rfl rfl rfl ?_
 refine lx_allocr 5 hGF zv33 rfl rfl ?_
 intro b5
 refine lx_storea 5 hGF rfl rfl rfl Tryd.sizeOf33 (by simp) (by simp) (one_u64 _) rfl ?_
 refine lx_assign rfl rfl rfl ?_
 refine lx_nil ?_
 refine x_seq ?_
 refine xs_plain (E := EE []) ?_
 refine lx_move rfl rfl rfl ?_
 refine lx_bin rfl rfl (fun _ => rfl) (fun _ => bin_eql_u64 _ _ _) rfl rfl ?_
 refine lx_nil ?_
 refine x_if rfl (fun hc => ?_) (fun hc => ?_)
 ·skip
  refine x_plain (E := EE []) ?_
  refine lx_loada 5 rfl rfl Tryd.isAgg33 Tryd.sizeOf33 (by simp) rfl rfl ?_
  refine lx_gl hGF Tryd.isAgg33 Tryd.sizeOf33 (by simp) (fun _ h => h.g1) rfl rfl ?_
  refine lx_call rfl rfl ent54 (add_pure _ _ (by simp) (by simp)) rfl rfl ?_
  refine lx_move rfl rfl rfl ?_
  refine lx_ext rfl rfl rfl rfl ?_
  refine lx_ext rfl rfl rfl rfl ?_
  refine lx_storea 5 hGF rfl rfl rfl Tryd.sizeOf33 (by simp) (by simp) (one_u64 _) rfl ?_
  refine lx_nil ?_
  refine xs_plain (E := EE []) ?_
  refine lx_loada 5 rfl rfl Tryd.isAgg33 Tryd.sizeOf33 (by simp) rfl rfl ?_
  refine lx_buildS rfl (by simp) Tryd.underlying35 rfl Tryd.sizeOf33 zv35 rfl rfl ?_
  refine lx_storea 4 hGF rfl rfl rfl Tryd.sizeOf35 (by simp) (by simp) (one_u64 _) rfl ?_
  refine lx_nil ?_
  refine x_ret ?_
  repeat (first | refine kseq_ret ?_ | refine kblk_ret ?_)
  exact kret_own 4 rfl rfl rfl Tryd.isAgg35 Tryd.sizeOf35 (by simp) (fun w hw => ⟨by rw [sub_low (beq_t hc)], hp_below hw⟩)
 ·skip
  refine x_skip ?_
  refine xs_plain (E := EE []) ?_
  refine lx_loada 5 rfl rfl Tryd.isAgg33 Tryd.sizeOf33 (by simp) rfl rfl ?_
  refine lx_buildS rfl (by simp) Tryd.underlying35 rfl Tryd.sizeOf33 zv35 rfl rfl ?_
  refine lx_storea 4 hGF rfl rfl rfl Tryd.sizeOf35 (by simp) (by simp) (one_u64 _) rfl ?_
  refine lx_nil ?_
  refine x_ret ?_
  repeat (first | refine kseq_ret ?_ | refine kblk_ret ?_)
  exact kret_own 4 rfl rfl rfl Tryd.isAgg35 Tryd.sizeOf35 (by simp) (fun w hw => ⟨by rw [sub_high (one_or (SS_c _ _ _) (beq_f hc))], hp_below hw⟩)
theorem fneg_pure (x : Zp) : Pure Tryd.prog Gt 48 [EV x] (EV (-x)) := by
 intro w hw
 have hGF : BOk Gt (pl w) := gt_low.plain hw
 refine calls_of_X (G := Gt) Tryd.func48 rfl rfl (Hp (pl w) []) (hp_refl (pl w) trivial rides_true) (good_hp hGF) ?_
 refine xs_plain (E := EE []) ?_
 refine lx_boxr 1 hGF rfl rfl rfl ?_
 intro b1
 refine lx_allocr 2 hGF zv35 rfl rfl ?_
 intro b2
 refine lx_nil ?_
 refine xs_plain (E := EE []) ?_
 refine lx_builds zv35 Tryd.underlying35 (bm_one Tryd.sizeOf33) rfl rfl ?_
 refine lx_loada 1 rfl rfl Tryd.isAgg35 Tryd.sizeOf35 (by simp) rfl rfl ?_
 refine lx_call rfl rfl ent38 ((show Pure Tryd.prog Gt 38 [NV (List.replicate 6 0#64), EV x] (EV (0 - x)) by rw [← fe_0]; exact fsub_pure 0 x)) rfl rfl ?_
 refine lx_storea 2 hGF rfl rfl rfl Tryd.sizeOf35 (by simp) (by simp) (one_u64 _) rfl ?_
 refine lx_nil ?_
 refine x_ret ?_
 repeat (first | refine kseq_ret ?_ | refine kblk_ret ?_)
 exact kret_own 2 rfl rfl rfl Tryd.isAgg35 Tryd.sizeOf35 (by simp) (fun w hw => ⟨by rw [show (0 : Zp) - x = -x by grind], hp_below hw⟩)
theorem fsquare_pure (x : Zp) : Pure Tryd.prog Gt 55 [EV x] (EV (x * x)) := by
 intro w hw
 have hGF : BOk Gt (pl w) := gt_low.plain hw
 refine calls_of_X (G := Gt) Tryd.func55 rfl rfl (Hp (pl w) []) (hp_refl (pl w) trivial rides_true) (good_hp hGF) ?_
 refine xs_plain (E := EE []) ?_
 refine lx_boxr 1 hGF rfl rfl rfl ?_
 intro b1
 refine lx_allocr 2 hGF zv35 rfl rfl ?_
 intro b2
 refine lx_nil ?_
 refine xs_plain (E := EE []) ?_
 refine lx_loada 1 rfl rfl Tryd.isAgg35 Tryd.sizeOf35 (by simp) rfl rfl ?_
 refine lx_loada 1 rfl rfl Tryd.isAgg35 Tryd.sizeOf35 (by simp) rfl rfl ?_
 refine lx_call rfl rfl ent41 (fmul_pure _ _) rfl rfl ?_
 refine lx_storea 2 hGF rfl rfl rfl Tryd.sizeOf35 (by simp) (by simp) (one_u64 _) rfl ?_
 refine lx_nil ?_
 refine x_ret ?_
 repeat (first | refine kseq_ret ?_ | refine kblk_ret ?_)
 exact kret_own 2 rfl rfl rfl Tryd.isAgg35 Tryd.sizeOf35 (by simp) (fun w hw => ⟨rfl, hp_below hw⟩)
end
section
open Go.RowKit
theorem ent71 : Enters Tryd.prog 71 := fun _ _ => by kernel_rfl
attribute [local simp] fe_len nm_len AS_len SS_len MONT_len RM_len FRs_len BYs_len by48_len PLl TWOl ONEl N1l IVPl HFPl RTPl FL_len SP_len
theorem zv102 (w : World) : (zeroValue 102).run Tryd.prog w = .ok (.agg ((FL (fun _ => List.replicate 6 0#64) 16).map U64).toArray) w := (Tryd.zeroValue102 w).trans (by rfl)
theorem fof1_pure : Pure Tryd.prog Gt 12 [U64 1#64] (EV 1) := fof_pure 1#64
theorem fsmall_pure (x : Zp) : Pure Tryd.prog Gt 68 [EV x] (.agg ((SP x 16).map U64).toArray) := by
 intro w hw
 have hGF : BOk Gt (pl w) := gt_low.plain hw
 refine calls_of_X (G := Gt) Tryd.func68 rfl rfl (Hp (pl w) []) (hp_refl (pl w) trivial rides_true) (good_hp hGF) ?_
 refine xs_plain (E := EE []) ?_
 refine lx_boxr 1 hGF rfl rfl rfl ?_
 intro b1
 refine lx_allocr 2 hGF zv102 rfl rfl ?_
 intro b2
 refine lx_nil ?_
 refine xs_plain (E := EE []) ?_
 refine lx_call rfl rfl ent12 (fof1_pure) rfl rfl ?_
 refine lx_buildA rfl (by simp) (by decide) Tryd.underlying102 Tryd.sizeOf35 zv102 rfl rfl ?_
 refine lx_allocr 3 hGF zv102 rfl rfl ?_
 intro b3
 refine lx_storea 3 hGF rfl rfl rfl Tryd.sizeOf102 (by simp) (by simp) (one_u64 _) rfl ?_
 refine lx_nil ?_
 refine x_seq ?_
 refine xs_plain (E := EE []) ?_
 refine lx_assign rfl rfl rfl ?_
 refine lx_nil ?_
 refine x_block ?_
 refine x_for (ι := { i : Nat // 1 ≤ i ∧ i ≤ 16 }) (fun y => [(1, .pointer (some ⟨b1, 0, none⟩)), (2, .pointer (some ⟨b2, 0, none⟩)), (3, .pointer (some ⟨b3, 0, none⟩)), (4, I (y.1 : Int))]) (fun y => [(1, b1, (fe x).map U64, 35), (2, b2, (FL (fun _ => List.replicate 6 0#64) 16).map U64, 102), (3, b3, (SP x y.1).map U64, 102)]) (fun y => 16 - y.1) ⟨1, by omega⟩ hGF ⟨rfl, rfl, rfl, rfl, trivial⟩ ⟨rfl, rfl, by rw [← SP_one]; rfl, trivial⟩ ?_
 rintro ⟨i, hi⟩
 dsimp only
 refine x_seq ?_
 refine xs_plain (E := EE []) ?_
 refine lx_move rfl rfl rfl ?_
 refine lx_bin rfl rfl (fun _ => rfl) (fun _ => bin_lss_i _ _ _) rfl rfl ?_
 refine lx_nil ?_
 refine x_if rfl (fun hc => ?_) (fun hc => ?_)
 ·simp only [decide_eq_true_eq] at hc
  refine x_skip ?_
  refine x_seq ?_
  refine x_block ?_
  refine x_drawn (E := EE []) mixed (by kernel_rfl) (by kernel_rfl) (by kernel_rfl) ?_
  refine lx_move rfl rfl rfl ?_
  refine lx_move rfl rfl rfl ?_
  refine lx_bin rfl rfl (fun _ => rfl) (fun _ => bin_sub_i _ _ _ (by unfold inI; omega)) rfl rfl ?_
  refine lx_iak (i - 1) (6 * (i - 1)) rfl rfl Tryd.underlying102 Tryd.sizeOf35 (by omega) (by omega) (by omega) rfl rfl ?_
  refine lx_loado 3 ((fe (x ^ (i - 1))).map U64) rfl rfl Tryd.isAgg35 Tryd.sizeOf35 (by simp) (SP_load x i (i - 1) (by omega) (by omega) _ rfl) rfl rfl ?_
  refine lx_loada 1 rfl rfl Tryd.isAgg35 Tryd.sizeOf35 (by simp) rfl rfl ?_
  refine lx_call rfl rfl ent41 (fmul_pure _ _) rfl rfl ?_
  refine lx_iak (i) (6 * (i)) rfl rfl Tryd.underlying102 Tryd.sizeOf35 (by omega) (by omega) (by omega) rfl rfl ?_
  refine lx_storeo 3 ((SP x (i + 1)).map U64) hGF rfl rfl rfl Tryd.sizeOf35 (by simp) (one_u64 _) (by rw [List.length_map, List.length_map, fe_len, SP_len]; omega) (SP_step x i (by omega) (by omega) _ rfl) rfl ?_
  refine lx_nil ?_
  refine x_plain (E := EE []) ?_
  refine lx_move rfl rfl rfl ?_
  refine lx_bin rfl rfl (fun _ => rfl) (fun _ => bin_add_i _ _ _ (by unfold inI; omega)) rfl rfl ?_
  refine lx_assign rfl rfl rfl ?_
  refine lx_nil ?_
  repeat (refine kblk_n ?_)
  refine kseq_n ?_
  exact ⟨rfl, ⟨i + 1, by omega⟩, _, by show 16 - (i + 1) < 16 - i; omega, rfl, ⟨rfl, rfl, rfl, rfl, trivial⟩, ⟨rfl, rfl, rfl, trivial⟩⟩
 ·obtain rfl : i = 16 := by simp at hc; omega
  refine x_exit ?_
  refine xs_plain (E := EE []) ?_
  refine lx_loada 3 rfl rfl Tryd.isAgg102 Tryd.sizeOf102 (by simp) rfl rfl ?_
  refine lx_storea 2 hGF rfl rfl rfl Tryd.sizeOf102 (by simp) (by simp) (one_u64 _) rfl ?_
  refine lx_nil ?_
  refine x_ret ?_
  repeat (first | refine kseq_ret ?_ | refine kblk_ret ?_)
  exact kret_own 2 rfl rfl rfl Tryd.isAgg102 Tryd.sizeOf102 (by simp) (fun w hw => ⟨rfl, hp_below hw⟩)
def RdD (bb : Nat) (e : Option Addr) (cap : Nat) (bs : List (BitVec 8)) : Cls := fun W => W.cell? ⟨bb, 0, none⟩ = some (.slice e bs.length cap) ∧ BytesAt W e bs
def NB (bs : List (BitVec 8)) : List (List Value) := (List.range (2 * bs.length)).map fun m => [U8 (NBv bs m)]
theorem NB_len (bs : List (BitVec 8)) : (NB bs).length = 2 * bs.length := by simp [NB]
theorem NB_get (bs : List (BitVec 8)) (m : Nat) (h : m < 2 * bs.length) : (NB bs)[m]? = some [U8 (NBv bs m)] := by
 rw [NB, List.getElem?_map, List.getElem?_range h]; rfl
theorem NB_at (bs : List (BitVec 8)) (m : Nat) (x : List Value) (h : (NB bs)[m]? = some x) : m < 2 * bs.length ∧ x = [U8 (NBv bs m)] := by
 have hm : m < 2 * bs.length := by
  rcases Nat.lt_or_ge m (2 * bs.length) with h' | h'
  ·exact h'
  ·rw [List.getElem?_eq_none (by rw [NB_len]; exact h')] at h; cases h
 rw [NB_get bs m hm] at h
 exact ⟨hm, (Option.some.inj h).symm⟩
theorem NB_hi (bs : List (BitVec 8)) (i : Nat) (h : i < bs.length) : (NB bs)[2 * i]? = some [U8 (bs.getD i 0 >>> 4)] := by
 rw [NB_get bs _ (by omega), NBv, if_pos (by omega), show 2 * i / 2 = i by omega]
theorem NB_lo (bs : List (BitVec 8)) (i : Nat) (h : i < bs.length) : (NB bs)[2 * i + 1]? = some [U8 (bs.getD i 0 % 16#8)] := by
 rw [NB_get bs _ (by omega), NBv, if_neg (by omega), show (2 * i + 1) / 2 = i by omega]
theorem fdigits_calls (sv : Value) (hs : sv.cells = #[sv]) (w : World) (hw : Gt w) : Calls Tryd.prog 69 [sv].toArray w (fun e w' => ∃ b1, e = .returned (.func (.func 71) #[] #[.pointer (some ⟨b1, 0, none⟩)]) ∧ Grow w w' ∧ w.heap.size ≤ b1 ∧ OwnB w' b1 [sv] 71) := by
 have hGF : BOk Gt (pl w) := gt_low.plain hw
 refine calls_of_X (G := Gt) Tryd.func69 rfl rfl (Hp (pl w) []) (hp_refl (pl w) trivial rides_true) (good_hp hGF) ?_
 refine xs_plain (E := EE []) ?_
 refine lx_box 1 hGF rfl rfl rfl ?_
 intro b1
 refine lx_assign rfl rfl rfl ?_
 refine lx_nil ?_
 refine xs_plain (E := EE []) ?_
 refine lx_func rfl rfl rfl rfl ?_
 refine lx_assign rfl rfl rfl ?_
 refine lx_nil ?_
 refine x_ret ?_
 repeat (first | refine kseq_ret ?_ | refine kblk_ret ?_)
 exact kret_tmp rfl rfl (fun w hw => ⟨b1, rfl, hp_below hw, (hw.own 1 b1 _ _ rfl).2.elim id False.elim, (by have := (hw.own 1 b1 _ _ rfl).1; rw [hs] at this; exact this)⟩)
theorem fdigits_seq (bb : Nat) (e : Option Addr) (cap : Nat) (bs : List (BitVec 8)) (hlen : bs.length ≤ 1000000) : SeqOk Tryd.prog Gt 71 [.pointer (some ⟨bb, 0, none⟩)] (NB bs) (RdD bb e cap bs) := by
 intro l J Jx hJ hJx hRd hGx hY w hj
 have okJ : ∀ k, BOk Gt (Bi w (fun Y => J Y k)) := fun k => ⟨fun _ _ _ h => (hRd _ _ _ h.rid).1, hJ k⟩
 have okX : ∀ k, BOk Gt (Bi w (fun Y => Jx Y k)) := fun k => ⟨fun _ _ _ h => hGx _ _ _ h.rid, hJx k⟩
 have c1 : ∀ k L w', Hp (Bi w (fun Y => J Y k)) L w' → RdD bb e cap bs w' := fun k L w' h => (hRd _ _ _ h.rid).2
 have hby := (hRd _ _ _ hj).2.2
 refine calls_of_X (G := Gt) Tryd.func71 rfl rfl (Hp (Bi w (fun Y => J Y 0)) []) (hp_refl (Bi w _) hj (hJ 0)) (good_hp (okJ 0)) ?_
 refine xs_plain (E := EE []) ?_
 refine lx_load rfl Tryd.isAgg71 (fun w h => (c1 _ _ w h).1) rfl rfl ?_
 refine lx_len rfl (fun _ => len_slice Tryd.underlying71 _ _ _ _) rfl rfl ?_
 refine lx_move rfl rfl rfl ?_
 refine lx_nil ?_
 refine x_block ?_
 refine x_forB (ι := { i : Nat // i ≤ bs.length }) (fun x => [(0, .func (.yield l) #[] #[]), (1, .pointer (some ⟨bb, 0, none⟩)), (5, .slice e bs.length cap), (6, I (bs.length : Int)), (7, I (x.1 : Int))]) (fun x => Bi w (fun Y => J Y (2 * x.1))) (fun x => []) (fun x => bs.length - x.1) ⟨0, Nat.zero_le _⟩ (fun _ => okJ _) rfl ⟨rfl, rfl, rfl, rfl, rfl, trivial⟩ trivial ?_
 rintro ⟨i, hi⟩
 dsimp only
 refine xs_plain (E := EE []) ?_
 refine lx_bin rfl rfl (fun _ => rfl) (fun _ => bin_lss_i _ _ _) rfl rfl ?_
 refine lx_nil ?_
 refine x_seq ?_
 refine x_if rfl (fun hc => ?_) (fun hc => ?_)
 ·simp only [decide_eq_true_eq] at hc
  have hi2 : i < bs.length := by omega
  refine x_skip ?_
  refine x_seq ?_
  refine x_block ?_
  refine xs_plain (E := EE []) ?_
  obtain ⟨ad, rfl, _⟩ := hby i _ (gm U8 bs 0 i (by omega))
  refine lx_isA i rfl rfl Tryd.underlying71 Tryd.sizeOf5 rfl (by omega) rfl rfl ?_
  refine lx_load rfl Tryd.isAgg5 (fun w' h => by obtain ⟨ad', e', hc'⟩ := (c1 _ _ w' h).2 i _ (gm U8 bs 0 i (by omega)); cases e'; exact hc') rfl rfl ?_
  refine lx_assign rfl rfl rfl ?_
  refine lx_nil ?_
  refine xs_plainC (E := EE []) 4 ?_
  refine lx_move rfl rfl rfl ?_
  refine lx_move rfl rfl rfl ?_
  refine lx_bin (v := U8 (bs.getD i 0 >>> 4)) rfl rfl (fun _ => rfl) (fun _ => bin_shr_u8 _ _ 4#64) rfl rfl ?_
  refine lx_yield (hY.b (k := 2 * i) (NB_hi bs i (by omega)) w) (okJ _) (okX _) rfl rfl rfl rfl rfl ?_ ?_
  ·skip
   refine lx_nil ?_
   refine ⟨EE [], ?_⟩
   refine lx_un rfl (fun _ => un_not _) rfl rfl ?_
   refine lx_move rfl rfl rfl ?_
   refine lx_move rfl rfl rfl ?_
   refine lx_move rfl rfl rfl ?_
   refine lx_bin (v := U8 (bs.getD i 0 % 16#8)) rfl rfl (fun _ => rfl) (fun _ => bin_rem_u8 _ _ 16#8 (by decide)) rfl rfl ?_
   refine lx_yield (hY.b (k := 2 * i + 1) (NB_lo bs i (by omega)) w) (okJ _) (okX _) rfl rfl rfl rfl rfl ?_ ?_
   ·skip
    refine lx_un rfl (fun _ => un_not _) rfl rfl ?_
    refine lx_pick rfl rfl rfl rfl rfl ?_
    refine lx_nil ?_
    refine x_false rfl ?_
    refine x_skip ?_
    refine x_plain (E := EE []) ?_
    refine lx_bin rfl rfl (fun _ => rfl) (fun _ => bin_add_i _ _ _ (by unfold inI; omega)) rfl rfl ?_
    refine lx_move rfl rfl rfl ?_
    refine lx_nil ?_
    rw [show 2 * i + 1 + 1 = 2 * (i + 1) by omega]
    repeat (refine kblk_n ?_)
    refine kseq_n ?_
    exact ⟨rfl, ⟨i + 1, by omega⟩, _, by show bs.length - (i + 1) < bs.length - i; omega, rfl, ⟨rfl, rfl, rfl, rfl, rfl, trivial⟩, trivial⟩
   ·skip
    refine lx_un rfl (fun _ => un_not _) rfl rfl ?_
    refine lx_pick rfl rfl rfl rfl rfl ?_
    refine lx_nil ?_
    refine x_true rfl ?_
    refine x_ret ?_
    repeat (first | refine kseq_ret ?_ | refine kblk_ret ?_)
    repeat (first | refine kseq_x ?_ | refine kblk_x ?_ | refine kblk_p rfl ?_ | refine kseq_ret ?_ | refine kblk_ret ?_)
    exact kret_none rfl (fun w hw => ⟨⟨_, rfl⟩, .inr ⟨_, drop_yof (hJx _) hw.rid⟩⟩)
  ·skip
   refine lx_nil ?_
   refine ⟨EE [3000000], ?_⟩
   refine lx_un rfl (fun _ => un_not _) rfl rfl ?_
   refine lx_move rfl rfl rfl ?_
   refine lx_skip rfl rfl rfl ?_
   refine lx_skip rfl rfl rfl ?_
   refine lx_skip rfl rfl rfl ?_
   refine lx_skip rfl rfl rfl ?_
   refine lx_skip rfl rfl rfl ?_
   refine lx_pick rfl rfl rfl rfl rfl ?_
   refine lx_nil ?_
   refine x_true rfl ?_
   refine x_ret ?_
   repeat (first | refine kseq_ret ?_ | refine kblk_ret ?_)
   repeat (first | refine kseq_x ?_ | refine kblk_x ?_ | refine kblk_p rfl ?_ | refine kseq_ret ?_ | refine kblk_ret ?_)
   exact kret_none rfl (fun w hw => ⟨⟨_, rfl⟩, .inr ⟨_, drop_yof (hJx _) hw.rid⟩⟩)
 ·simp only [decide_eq_false_iff_not] at hc
  obtain rfl : i = bs.length := by omega
  refine x_exit ?_
  repeat (first | refine kseq_x ?_ | refine kblk_x ?_ | refine kblk_p rfl ?_ | refine kseq_ret ?_ | refine kblk_ret ?_)
  refine kend_none rfl (fun w hw => ⟨⟨_, rfl⟩, .inl ?_⟩)
  have := drop_yof (hJ _) hw.rid
  rw [NB_len]
  exact this
end
section
open Go.RowKit
attribute [local simp] fe_len nm_len AS_len SS_len MONT_len RM_len FRs_len BYs_len by48_len PLl TWOl ONEl N1l IVPl HFPl RTPl FL_len SP_len
theorem fpow_calls (x : Zp) (e : Option Addr) (cap : Nat) (bs : List (BitVec 8)) (hlen : bs.length ≤ 1000000) (w : World) (hw : Gt w) (hby : BytesAt w e bs) :
  Calls Tryd.prog 65 [EV x, .slice e bs.length cap].toArray w (fun r w' => r = .returned (EV (x ^ BN bs bs.length)) ∧ Grow w w') := by
 have hGF : BOk Gt (pl w) := gt_low.plain hw
 refine calls_of_XM (G := Gt) Tryd.func65 rfl rfl (Hp (pl w) []) (hp_refl (pl w) trivial rides_true) (good_hp hGF) ?_
 refine xs_plain (E := EE [69]) ?_
 refine lx_boxr 2 hGF rfl rfl rfl ?_
 intro b2
 refine lx_allocr 4 hGF zv35 rfl rfl ?_
 intro b4
 refine lx_nil ?_
 refine xs_plain (E := EE [69]) ?_
 refine lx_loada 2 rfl rfl Tryd.isAgg35 Tryd.sizeOf35 (by simp) rfl rfl ?_
 refine lx_call rfl rfl ent68 (fsmall_pure _) rfl rfl ?_
 refine lx_allocr 5 hGF zv102 rfl rfl ?_
 intro b5
 refine lx_storea 5 hGF rfl rfl rfl Tryd.sizeOf102 (by simp) (by simp) (one_u64 _) rfl ?_
 refine lx_nil ?_
 refine xs_plain (E := EE [69]) ?_
 refine lx_iak 0 0 rfl rfl Tryd.underlying102 Tryd.sizeOf35 rfl (by decide) rfl rfl rfl ?_
 refine lx_loado 5 ((fe (x ^ 0)).map U64) rfl rfl Tryd.isAgg35 Tryd.sizeOf35 (by simp) (SP_load x 16 0 (by decide) (by decide) 0 rfl) rfl rfl ?_
 refine lx_allocr 6 hGF zv35 rfl rfl ?_
 intro b6
 refine lx_storea 6 hGF rfl rfl rfl Tryd.sizeOf35 (by simp) (by simp) (one_u64 _) rfl ?_
 refine lx_nil ?_
 refine x_seq ?_
 refine xs_plain (E := EE [69]) ?_
 refine lx_move rfl rfl rfl ?_
 refine lx_callE rfl rfl ent69 rfl rfl (fun w' hw' => (fdigits_calls _ rfl w' (hGF.g _ _ _ hw')).mono fun e' w'' h => ?_)
 obtain ⟨c1, rfl, hg, h1, ho⟩ := h
 refine ⟨_, _, rfl, good_hp hGF, hw'.news rides_true hg [(33, c1, [.slice e bs.length cap], 71)] ?_ inj_one, ?_⟩
 ·intro n' b' c' t' hl
  rcases lkB_cons hl with ⟨_, e⟩ | ⟨_, hl⟩
  ·cases e; exact ⟨h1, ho⟩
  ·cases hl
 clear hw' hg h1 ho
 refine lx_nil ?_
 refine x_block ?_
 refine x_range (fun _ => pl w) (fun _ _ => pl w) (fun _ => hGF) (fun _ _ => hGF) (fun _ => rfl) (fun _ _ => rfl) rfl rfl ent71 (fdigits_seq c1 e cap bs hlen) (fun x hx => by obtain ⟨k, hk, rfl⟩ := List.mem_map.1 hx; rfl) rfl (fun k => [(2, b2, (fe x).map U64, 35), (4, b4, (List.replicate 6 0#64).map U64, 35), (5, b5, (SP x 16).map U64, 102), (6, b6, (fe (x ^ DN bs k)).map U64, 35), (33, c1, [.slice e bs.length cap], 71)]) (fun _ _ _ => False) ⟨rfl, rfl, rfl, by rw [DN]; rfl, rfl, trivial⟩ (fun k _ w' h => ⟨hp_cell (n := 33) rfl rfl w' h, hby.grow (h.below (fun _ h => h))⟩) ?_ ?_ (fun _ _ _ _ _ h => h.elim)
 ·intro k v hx R hR
  obtain ⟨hk, rfl⟩ := NB_at bs k v hx
  have hlt := NBv_lt bs k
  refine x_plain (E := EE [69]) ?_
  refine lx_assign rfl rfl rfl ?_
  refine lx_nil ?_
  refine ⟨rfl, _, rfl, ?_⟩
  refine x_block ?_
  refine x_seq ?_
  refine xs_plain (E := EE [69]) ?_
  refine lx_move rfl rfl rfl ?_
  refine lx_nil ?_
  refine x_block ?_
  refine x_for (ι := { i : Nat // i ≤ 4 }) (fun j => [(5, .pointer (some ⟨b5, 0, none⟩)), (6, .pointer (some ⟨b6, 0, none⟩)), (7, U8 (NBv bs k)), (15, I (j.1 : Int))]) (fun j => [(2, b2, (fe x).map U64, 35), (4, b4, (List.replicate 6 0#64).map U64, 35), (5, b5, (SP x 16).map U64, 102), (6, b6, (fe (x ^ (2 ^ j.1 * DN bs k))).map U64, 35), (33, c1, [.slice e bs.length cap], 71)]) (fun j => 4 - j.1) ⟨0, by omega⟩ (hR (pl w) rfl hGF).2.1 ⟨rfl, rfl, rfl, rfl, trivial⟩ ⟨rfl, rfl, rfl, by rw [Nat.pow_zero, Nat.one_mul]; rfl, rfl, trivial⟩ ?_
  rintro ⟨j, hj⟩
  dsimp only
  refine xs_plain (E := EE [69]) ?_
  refine lx_bin rfl rfl (fun _ => rfl) (fun _ => bin_lss_i _ _ _) rfl rfl ?_
  refine lx_nil ?_
  refine x_seq ?_
  refine x_if rfl (fun hc => ?_) (fun hc => ?_)
  ·simp only [decide_eq_true_eq] at hc
   refine x_skip ?_
   refine x_seq ?_
   refine x_block ?_
   refine x_plain (E := EE [69]) ?_
   refine lx_loada 6 rfl rfl Tryd.isAgg35 Tryd.sizeOf35 (by simp) rfl rfl ?_
   refine lx_call rfl rfl ent55 (fsquare_pure _) rfl rfl ?_
   refine lx_storea 6 (hR (pl w) rfl hGF).2.1 rfl rfl rfl Tryd.sizeOf35 (by simp) (by simp) (one_u64 _) rfl ?_
   refine lx_nil ?_
   refine x_plain (E := EE [69]) ?_
   refine lx_bin rfl rfl (fun _ => rfl) (fun _ => bin_add_i _ _ _ (by unfold inI; omega)) rfl rfl ?_
   refine lx_move rfl rfl rfl ?_
   refine lx_nil ?_
   repeat (refine kblk_n ?_)
   refine kseq_n ?_
   exact ⟨rfl, ⟨j + 1, by omega⟩, _, by show 4 - (j + 1) < 4 - j; omega, rfl, ⟨rfl, rfl, rfl, rfl, trivial⟩, ⟨rfl, rfl, rfl, by rw [← sq_step]; rfl, rfl, trivial⟩⟩
  ·obtain rfl : j = 4 := by simp at hc; omega
   refine x_exit ?_
   refine x_drawn (E := EE [69]) mixed (by kernel_rfl) (by kernel_rfl) (by kernel_rfl) ?_
   refine lx_loada 6 rfl rfl Tryd.isAgg35 Tryd.sizeOf35 (by simp) rfl rfl ?_
   refine lx_move rfl rfl rfl ?_
   refine lx_iak8 (6 * (NBv bs k).toNat) rfl rfl Tryd.underlying102 Tryd.sizeOf35 hlt (by omega) rfl rfl ?_
   refine lx_loado 5 ((fe (x ^ (NBv bs k).toNat)).map U64) rfl rfl Tryd.isAgg35 Tryd.sizeOf35 (by simp) (SP_load x 16 _ hlt (Nat.le_refl _) _ rfl) rfl rfl ?_
   refine lx_call rfl rfl ent41 (dig_step x bs k ▸ fmul_pure (x ^ (2 ^ 4 * DN bs k)) (x ^ (NBv bs k).toNat)) rfl rfl ?_
   refine lx_storea 6 (hR (pl w) rfl hGF).2.1 rfl rfl rfl Tryd.sizeOf35 (by simp) (by simp) (one_u64 _) rfl ?_
   refine lx_nil ?_
   repeat (refine kblk_n ?_)
   exact ⟨_, rfl, ⟨rfl, rfl, rfl, rfl, rfl, trivial⟩⟩
 ·intro D hD
  rw [NB_len, DN_two]
  refine xs_plain (E := EE [69]) ?_
  refine lx_loada 6 rfl rfl Tryd.isAgg35 Tryd.sizeOf35 (by simp) rfl rfl ?_
  refine lx_storea 4 hD rfl rfl rfl Tryd.sizeOf35 (by simp) (by simp) (one_u64 _) rfl ?_
  refine lx_nil ?_
  refine x_ret ?_
  repeat (first | refine kseq_ret ?_ | refine kblk_ret ?_)
  exact kretM_1 (.inl rfl) rides_true (kret_own 4 rfl rfl rfl Tryd.isAgg35 Tryd.sizeOf35 (by simp) (fun w hw => ⟨rfl, hp_below hw⟩))
end
section
open Go.RowKit
attribute [local simp] fe_len nm_len AS_len SS_len MONT_len RM_len FRs_len BYs_len by48_len PLl TWOl ONEl N1l IVPl HFPl RTPl FL_len SP_len
theorem fpow48 (x : Zp) (b : Nat) (t : TypeId) (bs : List (BitVec 8)) (h48 : bs.length = 48) (w : World) (hw : Gt w) (ho : OwnB w b (bs.map U8) t) :
  Calls Tryd.prog 65 [EV x, .slice (some ⟨b, 0, none⟩) 48 48].toArray w (fun r w' => r = .returned (EV (x ^ BN bs 48)) ∧ Grow w w') := by
 have h := fpow_calls x (some ⟨b, 0, none⟩) 48 bs (by omega) w hw (BytesAt.range ho.range)
 rw [h48] at h
 exact h
theorem lfrom_small (a : Option Addr) (len cap : Nat) (bs : List (BitVec 8)) (hl : bs.length = len) (h : len ≤ 48) (w : World) (hw : Gt w) (hby : BytesAt w a bs) :
  Calls Tryd.prog 51 [.slice a len cap].toArray w (fun e w' => e = .returned (.tuple #[NV (FRs bs bs.length), .bool true]) ∧ Grow w w') := by
 subst hl
 exact (from_calls a cap bs w hw hby).mono fun e w' ⟨he, hg⟩ => ⟨by rw [he, if_neg (by omega)], hg⟩
theorem fpower_pure (x : Zp) (n : List (BitVec 64)) (hn : n.length = 6) : Pure Tryd.prog Gt 56 [EV x, NV n] (EV (x ^ V n 6)) := by
 intro w hw
 have hGF : BOk Gt (pl w) := gt_low.plain hw
 refine calls_of_X (G := Gt) Tryd.func56 rfl rfl (Hp (pl w) []) (hp_refl (pl w) trivial rides_true) (good_hp hGF) ?_
 refine xs_plain (E := EE []) ?_
 refine lx_boxr 2 hGF rfl rfl rfl ?_
 intro b2
 refine lx_boxr 3 hGF rfl rfl rfl ?_
 intro b3
 refine lx_allocr 4 hGF zv35 rfl rfl ?_
 intro b4
 refine lx_nil ?_
 refine xs_plain (E := EE []) ?_
 refine lx_loada 3 rfl rfl Tryd.isAgg33 Tryd.sizeOf33 (by first | (simp; done) | simp [hn]) rfl rfl ?_
 refine lx_call rfl rfl ent64 (bytesOf_pure _ (by first | (simp; done) | simp [hn])) rfl rfl ?_
 refine lx_allocr 5 hGF zv95 rfl rfl ?_
 intro b5
 refine lx_storea 5 hGF rfl rfl rfl Tryd.sizeOf95 (by first | (simp; done) | simp [hn]) (by first | (simp; done) | simp [hn]) (one_u8 _) rfl ?_
 refine lx_nil ?_
 refine xs_drawn (E := EE []) mixed (by kernel_rfl) (by kernel_rfl) (by kernel_rfl) ?_
 refine lx_loada 2 rfl rfl Tryd.isAgg35 Tryd.sizeOf35 (by first | (simp; done) | simp [hn]) rfl rfl ?_
 refine lx_slarr1 (l := 0) (h' := 48) rfl Tryd.underlying95 Tryd.sizeOf5 rfl rfl (by omega) (by omega) rfl rfl ?_
 refine lx_callC rfl rfl ent65 (fun w hC hG => fpow48 x _ _ (BYs n 48) (by first | (simp; done) | simp [hn]) w hG (hC.own 5 _ _ _ rfl).1) rfl rfl ?_
 refine lx_storea 4 hGF rfl rfl rfl Tryd.sizeOf35 (by first | (simp; done) | simp [hn]) (by first | (simp; done) | simp [hn]) (one_u64 _) rfl ?_
 refine lx_nil ?_
 refine x_ret ?_
 repeat (first | refine kseq_ret ?_ | refine kblk_ret ?_)
 exact kret_own 4 rfl rfl rfl Tryd.isAgg35 Tryd.sizeOf35 (by first | (simp; done) | simp [hn]) (fun w hw => ⟨by rw [BN_BYs n hn 48 rfl], hp_below hw⟩)
theorem finv_pure (x : Zp) : Pure Tryd.prog Gt 46 [EV x] (EV (x ^ (PP - 2))) := by
 intro w hw
 have hGF : BOk Gt (pl w) := gt_low.plain hw
 refine calls_of_X (G := Gt) Tryd.func46 rfl rfl (Hp (pl w) []) (hp_refl (pl w) trivial rides_true) (good_hp hGF) ?_
 refine xs_plain (E := EE []) ?_
 refine lx_boxr 1 hGF rfl rfl rfl ?_
 intro b1
 refine lx_allocr 2 hGF zv35 rfl rfl ?_
 intro b2
 refine lx_nil ?_
 refine xs_plain (E := EE []) ?_
 refine lx_loada 1 rfl rfl Tryd.isAgg35 Tryd.sizeOf35 (by simp) rfl rfl ?_
 refine lx_gl hGF Tryd.isAgg33 Tryd.sizeOf33 (by simp) (fun _ h => h.g2) rfl rfl ?_
 refine lx_call rfl rfl ent56 (fpower_pure _ _ (by simp)) rfl rfl ?_
 refine lx_storea 2 hGF rfl rfl rfl Tryd.sizeOf35 (by simp) (by simp) (one_u64 _) rfl ?_
 refine lx_nil ?_
 refine x_ret ?_
 repeat (first | refine kseq_ret ?_ | refine kblk_ret ?_)
 exact kret_own 2 rfl rfl rfl Tryd.isAgg35 Tryd.sizeOf35 (by simp) (fun w hw => ⟨by rw [← IVP_val], hp_below hw⟩)
theorem ffrom_calls (e : Option Addr) (cap : Nat) (bs : List (BitVec 8)) (w : World) (hw : Gt w) (hby : BytesAt w e bs) :
  Calls Tryd.prog 35 [.slice e bs.length cap].toArray w (fun r w' => r = .returned (.tuple #[EV (FV bs), .bool (FO bs)]) ∧ Grow w w') := by
 have hGF : BOk Gt (pl w) := gt_low.plain hw
 refine calls_of_X (G := Gt) Tryd.func35 rfl rfl (Hp (pl w) []) (hp_refl (pl w) trivial rides_true) (good_hp hGF) ?_
 refine xs_plain (E := EE []) ?_
 refine lx_allocr 2 hGF zv35 rfl rfl ?_
 intro b2
 refine lx_assign rfl rfl rfl ?_
 refine lx_nil ?_
 refine x_seq ?_
 refine xs_plain (E := EE []) ?_
 refine lx_move rfl rfl rfl ?_
 refine lx_len rfl (fun _ => len_slice Tryd.underlying71 _ _ _ _) rfl rfl ?_
 refine lx_bin rfl rfl (fun _ => rfl) (fun _ => bin_neq_i _ _ _) rfl rfl ?_
 refine lx_nil ?_
 refine x_if rfl (fun hc => ?_) (fun hc => ?_)
 ·have hc : ¬ bs.length = 48 := by simp at hc; omega
  refine xs_plain (E := EE []) ?_
  refine lx_builds zv35 Tryd.underlying35 (bm_one Tryd.sizeOf33) rfl rfl ?_
  refine lx_storea 2 hGF rfl rfl rfl Tryd.sizeOf35 (by simp) (by simp) (one_u64 _) rfl ?_
  refine lx_assign rfl rfl rfl ?_
  refine lx_nil ?_
  refine x_ret ?_
  repeat (first | refine kseq_ret ?_ | refine kblk_ret ?_)
  exact kret_ct 2 rfl rfl rfl rfl Tryd.isAgg35 Tryd.sizeOf35 (by simp) (fun w hw => ⟨by rw [FV, FO, if_neg (fun h => hc h.1), decide_eq_false (fun h => hc h.1), ← fe_0] <;> rfl, hp_below hw⟩)
 ·have h48 : bs.length = 48 := by simp at hc; omega
  clear hc
  refine x_skip ?_
  refine xs_plain (E := EE []) ?_
  refine lx_move rfl rfl rfl ?_
  refine lx_callC rfl rfl ent51 (fun w' hC hG => lfrom_small e bs.length cap bs rfl (by omega) w' hG (hby.grow (hp_below hC))) rfl rfl ?_
  refine lx_move rfl rfl rfl ?_
  refine lx_ext rfl rfl rfl rfl ?_
  refine lx_ext rfl rfl rfl rfl ?_
  refine lx_allocr 4 hGF zv33 rfl rfl ?_
  intro b4
  refine lx_storea 4 hGF rfl rfl rfl Tryd.sizeOf33 (by simp) (by simp) (one_u64 _) rfl ?_
  refine lx_assign rfl rfl rfl ?_
  refine lx_nil ?_
  refine x_seq ?_
  refine xs_plain (E := EE []) ?_
  refine lx_move rfl rfl rfl ?_
  refine lx_un rfl (fun _ => un_not _) rfl rfl ?_
  refine lx_move rfl rfl rfl ?_
  refine lx_loada 4 rfl rfl Tryd.isAgg33 Tryd.sizeOf33 (by simp) rfl rfl ?_
  refine lx_gl hGF Tryd.isAgg33 Tryd.sizeOf33 (by simp) (fun _ h => h.g1) rfl rfl ?_
  refine lx_call rfl rfl ent52 (less_pure _ _ (by simp) (by simp)) rfl rfl ?_
  refine lx_un rfl (fun _ => un_not _) rfl rfl ?_
  refine lx_pick rfl rfl rfl rfl rfl ?_
  refine lx_nil ?_
  refine x_if rfl (fun hc => ?_) (fun hc => ?_)
  ·have e0 : V (FRs bs bs.length) 6 = BN bs 48 := by rw [V_FRs bs (by omega), h48]
   have hl : ¬ BN bs 48 < PP := by rw [LT_val, PL_val, e0] at hc; simpa using hc
   clear hc
   refine xs_plain (E := EE []) ?_
   refine lx_builds zv35 Tryd.underlying35 (bm_one Tryd.sizeOf33) rfl rfl ?_
   refine lx_storea 2 hGF rfl rfl rfl Tryd.sizeOf35 (by simp) (by simp) (one_u64 _) rfl ?_
   refine lx_assign rfl rfl rfl ?_
   refine lx_nil ?_
   refine x_ret ?_
   repeat (first | refine kseq_ret ?_ | refine kblk_ret ?_)
   exact kret_ct 2 rfl rfl rfl rfl Tryd.isAgg35 Tryd.sizeOf35 (by simp) (fun w hw => ⟨by rw [FV, FO, if_neg (fun h => hl h.2), decide_eq_false (fun h => hl h.2), ← fe_0] <;> rfl, hp_below hw⟩)
  ·have e0 : V (FRs bs bs.length) 6 = BN bs 48 := by rw [V_FRs bs (by omega), h48]
   have hl : BN bs 48 < PP := by rw [LT_val, PL_val, e0] at hc; simpa using hc
   clear hc
   refine x_skip ?_
   refine xs_plain (E := EE []) ?_
   refine lx_loada 4 rfl rfl Tryd.isAgg33 Tryd.sizeOf33 (by simp) rfl rfl ?_
   refine lx_call rfl rfl ent30 (felem_pure _ (by simp)) rfl rfl ?_
   refine lx_storea 2 hGF rfl rfl rfl Tryd.sizeOf35 (by simp) (by simp) (one_u64 _) rfl ?_
   refine lx_assign rfl rfl rfl ?_
   refine lx_nil ?_
   refine x_ret ?_
   repeat (first | refine kseq_ret ?_ | refine kblk_ret ?_)
   exact kret_ct 2 rfl rfl rfl rfl Tryd.isAgg35 Tryd.sizeOf35 (by simp) (fun w hw => ⟨by rw [FV, FO, if_pos ⟨h48, hl⟩, decide_eq_true ⟨h48, hl⟩, V_FRs bs (by omega), h48] <;> rfl, hp_below hw⟩)
end
end Go.Proofs.YthkmeodnlidpfaaDoor
