/-
  The walks of package fp: elements of p.
  The walks of package fp: powers.
  The walks of package fp: powers, inverses, roots, signs.
  The walks of package fp: inverses, roots, signs, bytes.
-/
import Derived.Test.YtdkmalaffcfoeaaGreatDoorX7
import Derived.Test.YtdkmalaffcfoeaaGreatDoorX3
import Derived.Test.YtdkmalaffcfoeaaGreatDoorX6
import Derived.Test.YtdkmalaffcfoeaaGreatDoorX5
namespace Go.Proofs.YtdkmalaffcfoeaaGreatDoor
open Go.RowKit
set_option maxRecDepth 100000
set_option maxHeartbeats 1000000

theorem PLl : PL.length = 6 := rfl
theorem TWOl : TWO.length = 6 := rfl
theorem ONEl : ONE.length = 6 := rfl
theorem N1l : N1.length = 6 := rfl
theorem IVPl : IVP.length = 6 := rfl
theorem HFPl : HFP.length = 6 := rfl
theorem RTPl : RTP.length = 6 := rfl
attribute [local simp] fe_len nm_len AS_len SS_len MONT_len RM_len FRs_len BYs_len by48_len PLl TWOl ONEl N1l IVPl HFPl RTPl
/-- An element as a value. -/
abbrev EV (x : Zp) : Value := .agg ((fe x).map U64).toArray
abbrev NV (n : List (BitVec 64)) : Value := .agg (n.map U64).toArray
theorem zv27 (w : World) : (zeroValue 27).run Tryz.prog w = .ok (.agg ((List.replicate 6 (0#64)).map U64).toArray) w := (Tryz.zeroValue27 w).trans (by rfl)
theorem eqg25 (op : BinOp) (x y : Operand) (xs ys : Array Value) (w : World) : (eqGuard op 25 x y (.agg xs) (.agg ys)).run Tryz.prog w = .ok () w := run_eqGuard_agg w op 25 x y xs ys (by kernel_rfl)
theorem eqv25 (xs ys : List (BitVec 64)) (h : xs.length = 6) (h' : ys.length = 6) (w : World) : (binOp .eql 25 (.agg (xs.map U64).toArray) (.agg (ys.map U64).toArray)).run Tryz.prog w = .ok (.bool (decide (xs = ys))) w := bin_eq64 Tryz.underlying25 Tryz.underlying24 Tryz.sizeOf24 Tryz.isAgg24 xs ys h h' w
theorem decide_fe (x y : Zp) : decide (fe x = fe y) = decide (x = y) := decide_eq_decide.2 fe_inj
theorem beq_t {x y : BitVec 64} (h : (x == y) = true) : x = y := beq_iff_eq.1 h
theorem beq_f {x y : BitVec 64} (h : (x == y) = false) : ¬ x = y := beq_eq_false_iff_ne.1 h
theorem ent30 : Enters Tryz.prog 30 := fun _ _ => by kernel_rfl
theorem ent127 : Enters Tryz.prog 127 := fun _ _ => by kernel_rfl
theorem ent29 : Enters Tryz.prog 29 := fun _ _ => by kernel_rfl
theorem ent95 : Enters Tryz.prog 95 := fun _ _ => by kernel_rfl
theorem ent110 : Enters Tryz.prog 110 := fun _ _ => by kernel_rfl
theorem ent53 : Enters Tryz.prog 53 := fun _ _ => by kernel_rfl
theorem ent76 : Enters Tryz.prog 76 := fun _ _ => by kernel_rfl
theorem ent102 : Enters Tryz.prog 102 := fun _ _ => by kernel_rfl
theorem ent75 : Enters Tryz.prog 75 := fun _ _ => by kernel_rfl
theorem ent85 : Enters Tryz.prog 85 := fun _ _ => by kernel_rfl
theorem ent55 : Enters Tryz.prog 55 := fun _ _ => by kernel_rfl
theorem ent74 : Enters Tryz.prog 74 := fun _ _ => by kernel_rfl
theorem ent114 : Enters Tryz.prog 114 := fun _ _ => by kernel_rfl
theorem ent80 : Enters Tryz.prog 80 := fun _ _ => by kernel_rfl
theorem ent133 : Enters Tryz.prog 133 := fun _ _ => by kernel_rfl
theorem ent115 : Enters Tryz.prog 115 := fun _ _ => by kernel_rfl
theorem ent138 : Enters Tryz.prog 138 := fun _ _ => by kernel_rfl
theorem ent139 : Enters Tryz.prog 139 := fun _ _ => by kernel_rfl
theorem ent82 : Enters Tryz.prog 82 := fun _ _ => by kernel_rfl
theorem ent54 : Enters Tryz.prog 54 := fun _ _ => by kernel_rfl
theorem ent116 : Enters Tryz.prog 116 := fun _ _ => by kernel_rfl
theorem fmul_pure (x y : Zp) : Pure Tryz.prog Gt 74 [EV x, EV y] (EV (x * y)) := by
  intro w hw
  have hGF : BOk Gt (pl w) := gt_low.plain hw
  refine calls_of_X (G := Gt) Tryz.func74 rfl rfl (Hp (pl w) []) (hp_refl (pl w) trivial rides_true) (good_hp hGF) ?_
  refine xs_plain (E := EE []) ?_
  refine lx_boxr 2 hGF rfl rfl rfl ?_
  intro b2
  refine lx_boxr 3 hGF rfl rfl rfl ?_
  intro b3
  refine lx_allocr 4 hGF zv27 rfl rfl ?_
  intro b4
  refine lx_nil ?_
  refine xs_plain (E := EE []) ?_
  refine lx_fak 0 rfl Tryz.underlying27 rfl Tryz.sizeOf25 (by decide) rfl rfl rfl ?_
  refine lx_loada 2 rfl rfl Tryz.isAgg25 Tryz.sizeOf25 (by simp) rfl rfl ?_
  refine lx_fak 0 rfl Tryz.underlying27 rfl Tryz.sizeOf25 (by decide) rfl rfl rfl ?_
  refine lx_loada 3 rfl rfl Tryz.isAgg25 Tryz.sizeOf25 (by simp) rfl rfl ?_
  refine lx_gl hGF Tryz.isAgg25 Tryz.sizeOf25 (by simp) (fun _ h => h.g1) rfl rfl ?_
  refine lx_call rfl rfl ent111 (mont_pure _ _ _ (by simp) (by simp) (by simp)) rfl rfl ?_
  refine lx_buildS rfl (by simp) Tryz.underlying27 rfl Tryz.sizeOf25 zv27 rfl rfl ?_
  refine lx_storea 4 hGF rfl rfl rfl Tryz.sizeOf27 (by simp) (by simp) (one_u64 _) rfl ?_
  refine lx_nil ?_
  refine x_ret ?_
  repeat (first | refine kseq_ret ?_ | refine kblk_ret ?_)
  exact kret_own 4 rfl rfl rfl Tryz.isAgg27 Tryz.sizeOf27 (by simp) (fun w hw => ⟨by rw [MONT_fe], hp_below hw⟩)
theorem felem_pure (n : List (BitVec 64)) (hn : n.length = 6) : Pure Tryz.prog Gt 76 [NV n] (EV (zp (V n 6))) := by
  intro w hw
  have hGF : BOk Gt (pl w) := gt_low.plain hw
  refine calls_of_X (G := Gt) Tryz.func76 rfl rfl (Hp (pl w) []) (hp_refl (pl w) trivial rides_true) (good_hp hGF) ?_
  refine xs_plain (E := EE []) ?_
  refine lx_boxr 1 hGF rfl rfl rfl ?_
  intro b1
  refine lx_allocr 2 hGF zv27 rfl rfl ?_
  intro b2
  refine lx_nil ?_
  refine xs_plain (E := EE []) ?_
  refine lx_gl hGF Tryz.isAgg25 Tryz.sizeOf25 (by first | (simp; done) | simp [hn]) (fun _ h => h.g0) rfl rfl ?_
  refine lx_loada 1 rfl rfl Tryz.isAgg25 Tryz.sizeOf25 (by first | (simp; done) | simp [hn]) rfl rfl ?_
  refine lx_gl hGF Tryz.isAgg25 Tryz.sizeOf25 (by first | (simp; done) | simp [hn]) (fun _ h => h.g1) rfl rfl ?_
  refine lx_call rfl rfl ent111 (mont_pure _ _ _ (by first | (simp; done) | simp [hn]) (by first | (simp; done) | simp [hn]) (by first | (simp; done) | simp [hn])) rfl rfl ?_
  refine lx_buildS rfl (by first | (simp; done) | simp [hn]) Tryz.underlying27 rfl Tryz.sizeOf25 zv27 rfl rfl ?_
  refine lx_storea 2 hGF rfl rfl rfl Tryz.sizeOf27 (by first | (simp; done) | simp [hn]) (by first | (simp; done) | simp [hn]) (one_u64 _) rfl ?_
  refine lx_nil ?_
  refine x_ret ?_
  repeat (first | refine kseq_ret ?_ | refine kblk_ret ?_)
  exact kret_own 2 rfl rfl rfl Tryz.isAgg27 Tryz.sizeOf27 (by first | (simp; done) | simp [hn]) (fun w hw => ⟨by rw [MONT_two], hp_below hw⟩)
theorem fnumber_pure (x : Zp) : Pure Tryz.prog Gt 102 [EV x] (NV (nm x)) := by
  intro w hw
  have hGF : BOk Gt (pl w) := gt_low.plain hw
  refine calls_of_X (G := Gt) Tryz.func102 rfl rfl (Hp (pl w) []) (hp_refl (pl w) trivial rides_true) (good_hp hGF) ?_
  refine xs_plain (E := EE []) ?_
  refine lx_boxr 1 hGF rfl rfl rfl ?_
  intro b1
  refine lx_allocr 2 hGF zv25 rfl rfl ?_
  intro b2
  refine lx_nil ?_
  refine xs_plain (E := EE []) ?_
  refine lx_fak 0 rfl Tryz.underlying27 rfl Tryz.sizeOf25 (by decide) rfl rfl rfl ?_
  refine lx_loada 1 rfl rfl Tryz.isAgg25 Tryz.sizeOf25 (by simp) rfl rfl ?_
  refine lx_build1 1 rfl Tryz.underlying25 Tryz.sizeOf24 zv25 rfl rfl ?_
  refine lx_gl hGF Tryz.isAgg25 Tryz.sizeOf25 (by simp) (fun _ h => h.g1) rfl rfl ?_
  refine lx_call rfl rfl ent111 (mont_pure _ _ _ (by simp) (by simp) (by simp)) rfl rfl ?_
  refine lx_storea 2 hGF rfl rfl rfl Tryz.sizeOf25 (by simp) (by simp) (one_u64 _) rfl ?_
  refine lx_nil ?_
  refine x_ret ?_
  repeat (first | refine kseq_ret ?_ | refine kblk_ret ?_)
  exact kret_own 2 rfl rfl rfl Tryz.isAgg25 Tryz.sizeOf25 (by simp) (fun w hw => ⟨by rw [← MONT_one]; rfl, hp_below hw⟩)
theorem V_cons0 (n : BitVec 64) : ∀ k, V (n :: List.replicate 5 0) (k + 1) = n.toNat
  | 0 => by rw [V_succ, V, Nat.mul_zero, Nat.pow_zero, Nat.mul_one, Nat.zero_add]; rfl
  | k + 1 => by
    have h0 : (n :: List.replicate 5 (0 : BitVec 64)).getD (k + 1) 0 = 0 := by
      rw [List.getD_eq_getElem?_getD, List.getElem?_cons_succ, List.getElem?_replicate]
      split <;> rfl
    rw [V_succ, V_cons0 n k, h0, show (0 : BitVec 64).toNat = 0 from rfl, Nat.zero_mul, Nat.add_zero]
theorem V_small (n : BitVec 64) : V (n :: List.replicate 5 0) 6 = n.toNat := V_cons0 n 5
theorem fof_pure (n : BitVec 64) : Pure Tryz.prog Gt 30 [U64 n] (EV (zp n.toNat)) := by
  intro w hw
  have hGF : BOk Gt (pl w) := gt_low.plain hw
  refine calls_of_X (G := Gt) Tryz.func30 rfl rfl (Hp (pl w) []) (hp_refl (pl w) trivial rides_true) (good_hp hGF) ?_
  refine xs_plain (E := EE []) ?_
  refine lx_allocr 2 hGF zv27 rfl rfl ?_
  intro b2
  refine lx_nil ?_
  refine xs_plain (E := EE []) ?_
  refine lx_move rfl rfl rfl ?_
  refine lx_build1 n rfl Tryz.underlying25 Tryz.sizeOf24 zv25 rfl rfl ?_
  refine lx_call rfl rfl ent76 (felem_pure _ (by simp)) rfl rfl ?_
  refine lx_storea 2 hGF rfl rfl rfl Tryz.sizeOf27 (by simp) (by simp) (one_u64 _) rfl ?_
  refine lx_nil ?_
  refine x_ret ?_
  repeat (first | refine kseq_ret ?_ | refine kblk_ret ?_)
  exact kret_own 2 rfl rfl rfl Tryz.isAgg27 Tryz.sizeOf27 (by simp) (fun w hw => ⟨by rw [V_small], hp_below hw⟩)
theorem fequal_pure (x y : Zp) : Pure Tryz.prog Gt 110 [EV x, EV y] (.bool (decide (x = y))) := by
  intro w hw
  have hGF : BOk Gt (pl w) := gt_low.plain hw
  refine calls_of_X (G := Gt) Tryz.func110 rfl rfl (Hp (pl w) []) (hp_refl (pl w) trivial rides_true) (good_hp hGF) ?_
  refine xs_plain (E := EE []) ?_
  refine lx_boxr 2 hGF rfl rfl rfl ?_
  intro b2
  refine lx_boxr 3 hGF rfl rfl rfl ?_
  intro b3
  refine lx_assign rfl rfl rfl ?_
  refine lx_nil ?_
  refine xs_plain (E := EE []) ?_
  refine lx_fak 0 rfl Tryz.underlying27 rfl Tryz.sizeOf25 (by decide) rfl rfl rfl ?_
  refine lx_loada 2 rfl rfl Tryz.isAgg25 Tryz.sizeOf25 (by simp) rfl rfl ?_
  refine lx_fak 0 rfl Tryz.underlying27 rfl Tryz.sizeOf25 (by decide) rfl rfl rfl ?_
  refine lx_loada 3 rfl rfl Tryz.isAgg25 Tryz.sizeOf25 (by simp) rfl rfl ?_
  refine lx_bin rfl rfl (fun _ => eqg25 _ _ _ _ _ _) (fun w => eqv25 _ _ (by simp) (by simp) w) rfl rfl ?_
  refine lx_assign rfl rfl rfl ?_
  refine lx_nil ?_
  refine x_ret ?_
  repeat (first | refine kseq_ret ?_ | refine kblk_ret ?_)
  exact kret_tmp rfl rfl (fun w hw => ⟨by rw [decide_fe], hp_below hw⟩)
theorem fisZero_pure (x : Zp) : Pure Tryz.prog Gt 53 [EV x] (.bool (decide (x = 0))) := by
  intro w hw
  have hGF : BOk Gt (pl w) := gt_low.plain hw
  refine calls_of_X (G := Gt) Tryz.func53 rfl rfl (Hp (pl w) []) (hp_refl (pl w) trivial rides_true) (good_hp hGF) ?_
  refine xs_plain (E := EE []) ?_
  refine lx_boxr 1 hGF rfl rfl rfl ?_
  intro b1
  refine lx_assign rfl rfl rfl ?_
  refine lx_nil ?_
  refine xs_plain (E := EE []) ?_
  refine lx_fak 0 rfl Tryz.underlying27 rfl Tryz.sizeOf25 (by decide) rfl rfl rfl ?_
  refine lx_loada 1 rfl rfl Tryz.isAgg25 Tryz.sizeOf25 (by simp) rfl rfl ?_
  refine lx_buildz zv25 Tryz.underlying25 Tryz.sizeOf24 rfl rfl ?_
  refine lx_bin rfl rfl (fun _ => eqg25 _ _ _ _ _ _) (fun w => eqv25 _ _ (by simp) (by simp) w) rfl rfl ?_
  refine lx_assign rfl rfl rfl ?_
  refine lx_nil ?_
  refine x_ret ?_
  repeat (first | refine kseq_ret ?_ | refine kblk_ret ?_)
  exact kret_tmp rfl rfl (fun w hw => ⟨by rw [← fe_0, decide_fe], hp_below hw⟩)
theorem fadd_pure (x y : Zp) : Pure Tryz.prog Gt 75 [EV x, EV y] (EV (x + y)) := by
  intro w hw
  have hGF : BOk Gt (pl w) := gt_low.plain hw
  refine calls_of_X (G := Gt) Tryz.func75 rfl rfl (Hp (pl w) []) (hp_refl (pl w) trivial rides_true) (good_hp hGF) ?_
  refine xs_plain (E := EE []) ?_
  refine lx_boxr 2 hGF rfl rfl rfl ?_
  intro b2
  refine lx_boxr 3 hGF rfl rfl rfl ?_
  intro b3
  refine lx_allocr 4 hGF zv27 rfl rfl ?_
  intro b4
  refine lx_nil ?_
  refine xs_plain (E := EE []) ?_
  refine lx_fak 0 rfl Tryz.underlying27 rfl Tryz.sizeOf25 (by decide) rfl rfl rfl ?_
  refine lx_loada 2 rfl rfl Tryz.isAgg25 Tryz.sizeOf25 (by simp) rfl rfl ?_
  refine lx_fak 0 rfl Tryz.underlying27 rfl Tryz.sizeOf25 (by decide) rfl rfl rfl ?_
  refine lx_loada 3 rfl rfl Tryz.isAgg25 Tryz.sizeOf25 (by simp) rfl rfl ?_
  refine lx_call rfl rfl ent112 (add_pure _ _ (by simp) (by simp)) rfl rfl ?_
  refine lx_move rfl rfl rfl ?_
  refine lx_ext rfl rfl rfl rfl ?_
  refine lx_ext rfl rfl rfl rfl ?_
  refine lx_allocr 5 hGF zv25 rfl rfl ?_
  intro b5
  refine lx_storea 5 hGF rfl rfl rfl Tryz.sizeOf25 (by simp) (by simp) (one_u64 _) rfl ?_
  refine lx_assign rfl rfl rfl ?_
  refine lx_nil ?_
  refine xs_plain (E := EE []) ?_
  refine lx_loada 5 rfl rfl Tryz.isAgg25 Tryz.sizeOf25 (by simp) rfl rfl ?_
  refine lx_gl hGF Tryz.isAgg25 Tryz.sizeOf25 (by simp) (fun _ h => h.g1) rfl rfl ?_
  refine lx_call rfl rfl ent113 (sub_pure _ _ (by simp) (by simp)) rfl rfl ?_
  refine lx_move rfl rfl rfl ?_
  refine lx_ext rfl rfl rfl rfl ?_
  refine lx_ext rfl rfl rfl rfl ?_
  refine lx_allocr 7 hGF zv25 rfl rfl ?_
  intro b7
  refine lx_storea 7 hGF rfl rfl rfl Tryz.sizeOf25 (by simp) (by simp) (one_u64 _) rfl ?_
  refine lx_assign rfl rfl rfl ?_
  refine lx_nil ?_
  refine x_seq ?_
  refine xs_plain (E := EE []) ?_
  refine lx_move rfl rfl rfl ?_
  refine lx_bin rfl rfl (fun _ => rfl) (fun _ => bin_eql_u64 _ _ _) rfl rfl ?_
  refine lx_nil ?_
  refine x_if rfl (fun hc => ?_) (fun hc => ?_)
  · skip
    refine xs_plain (E := EE []) ?_
    refine lx_loada 5 rfl rfl Tryz.isAgg25 Tryz.sizeOf25 (by simp) rfl rfl ?_
    refine lx_buildS rfl (by simp) Tryz.underlying27 rfl Tryz.sizeOf25 zv27 rfl rfl ?_
    refine lx_storea 4 hGF rfl rfl rfl Tryz.sizeOf27 (by simp) (by simp) (one_u64 _) rfl ?_
    refine lx_nil ?_
    refine x_ret ?_
    repeat (first | refine kseq_ret ?_ | refine kblk_ret ?_)
    exact kret_own 4 rfl rfl rfl Tryz.isAgg27 Tryz.sizeOf27 (by simp) (fun w hw => ⟨by rw [add_low (sum_lt (beq_t hc))], hp_below hw⟩)
  · skip
    refine x_skip ?_
    refine xs_plain (E := EE []) ?_
    refine lx_loada 7 rfl rfl Tryz.isAgg25 Tryz.sizeOf25 (by simp) rfl rfl ?_
    refine lx_buildS rfl (by simp) Tryz.underlying27 rfl Tryz.sizeOf25 zv27 rfl rfl ?_
    refine lx_storea 4 hGF rfl rfl rfl Tryz.sizeOf27 (by simp) (by simp) (one_u64 _) rfl ?_
    refine lx_nil ?_
    refine x_ret ?_
    repeat (first | refine kseq_ret ?_ | refine kblk_ret ?_)
    exact kret_own 4 rfl rfl rfl Tryz.isAgg27 Tryz.sizeOf27 (by simp) (fun w hw => ⟨by rw [add_high (one_or (SS_c _ _ _) (beq_f hc))], hp_below hw⟩)
theorem fsub_pure (x y : Zp) : Pure Tryz.prog Gt 85 [EV x, EV y] (EV (x - y)) := by
  intro w hw
  have hGF : BOk Gt (pl w) := gt_low.plain hw
  refine calls_of_X (G := Gt) Tryz.func85 rfl rfl (Hp (pl w) []) (hp_refl (pl w) trivial rides_true) (good_hp hGF) ?_
  refine xs_plain (E := EE []) ?_
  refine lx_boxr 2 hGF rfl rfl rfl ?_
  intro b2
  refine lx_boxr 3 hGF rfl rfl rfl ?_
  intro b3
  refine lx_allocr 4 hGF zv27 rfl rfl ?_
  intro b4
  refine lx_nil ?_
  refine xs_plain (E := EE []) ?_
  refine lx_fak 0 rfl Tryz.underlying27 rfl Tryz.sizeOf25 (by decide) rfl rfl rfl ?_
  refine lx_loada 2 rfl rfl Tryz.isAgg25 Tryz.sizeOf25 (by simp) rfl rfl ?_
  refine lx_fak 0 rfl Tryz.underlying27 rfl Tryz.sizeOf25 (by decide) rfl rfl rfl ?_
  refine lx_loada 3 rfl rfl Tryz.isAgg25 Tryz.sizeOf25 (by simp) rfl rfl ?_
  refine lx_call rfl rfl ent113 (sub_pure _ _ (by simp) (by simp)) rfl rfl ?_
  refine lx_move rfl rfl rfl ?_
  refine lx_ext rfl rfl rfl rfl ?_
  refine lx_ext rfl rfl rfl rfl ?_
  refine lx_allocr 5 hGF zv25 rfl rfl ?_
  intro b5
  refine lx_storea 5 hGF rfl rfl rfl Tryz.sizeOf25 (by simp) (by simp) (one_u64 _) rfl ?_
  refine lx_assign rfl rfl rfl ?_
  refine lx_nil ?_
  refine x_seq ?_
  refine xs_plain (E := EE []) ?_
  refine lx_move rfl rfl rfl ?_
  refine lx_bin rfl rfl (fun _ => rfl) (fun _ => bin_eql_u64 _ _ _) rfl rfl ?_
  refine lx_nil ?_
  refine x_if rfl (fun hc => ?_) (fun hc => ?_)
  · skip
    refine x_plain (E := EE []) ?_
    refine lx_loada 5 rfl rfl Tryz.isAgg25 Tryz.sizeOf25 (by simp) rfl rfl ?_
    refine lx_gl hGF Tryz.isAgg25 Tryz.sizeOf25 (by simp) (fun _ h => h.g1) rfl rfl ?_
    refine lx_call rfl rfl ent112 (add_pure _ _ (by simp) (by simp)) rfl rfl ?_
    refine lx_move rfl rfl rfl ?_
    refine lx_ext rfl rfl rfl rfl ?_
    refine lx_ext rfl rfl rfl rfl ?_
    refine lx_storea 5 hGF rfl rfl rfl Tryz.sizeOf25 (by simp) (by simp) (one_u64 _) rfl ?_
    refine lx_nil ?_
    refine xs_plain (E := EE []) ?_
    refine lx_loada 5 rfl rfl Tryz.isAgg25 Tryz.sizeOf25 (by simp) rfl rfl ?_
    refine lx_buildS rfl (by simp) Tryz.underlying27 rfl Tryz.sizeOf25 zv27 rfl rfl ?_
    refine lx_storea 4 hGF rfl rfl rfl Tryz.sizeOf27 (by simp) (by simp) (one_u64 _) rfl ?_
    refine lx_nil ?_
    refine x_ret ?_
    repeat (first | refine kseq_ret ?_ | refine kblk_ret ?_)
    exact kret_own 4 rfl rfl rfl Tryz.isAgg27 Tryz.sizeOf27 (by simp) (fun w hw => ⟨by rw [sub_low (beq_t hc)], hp_below hw⟩)
  · skip
    refine x_skip ?_
    refine xs_plain (E := EE []) ?_
    refine lx_loada 5 rfl rfl Tryz.isAgg25 Tryz.sizeOf25 (by simp) rfl rfl ?_
    refine lx_buildS rfl (by simp) Tryz.underlying27 rfl Tryz.sizeOf25 zv27 rfl rfl ?_
    refine lx_storea 4 hGF rfl rfl rfl Tryz.sizeOf27 (by simp) (by simp) (one_u64 _) rfl ?_
    refine lx_nil ?_
    refine x_ret ?_
    repeat (first | refine kseq_ret ?_ | refine kblk_ret ?_)
    exact kret_own 4 rfl rfl rfl Tryz.isAgg27 Tryz.sizeOf27 (by simp) (fun w hw => ⟨by rw [sub_high (one_or (SS_c _ _ _) (beq_f hc))], hp_below hw⟩)
theorem fneg_pure (x : Zp) : Pure Tryz.prog Gt 55 [EV x] (EV (-x)) := by
  intro w hw
  have hGF : BOk Gt (pl w) := gt_low.plain hw
  refine calls_of_X (G := Gt) Tryz.func55 rfl rfl (Hp (pl w) []) (hp_refl (pl w) trivial rides_true) (good_hp hGF) ?_
  refine xs_plain (E := EE []) ?_
  refine lx_boxr 1 hGF rfl rfl rfl ?_
  intro b1
  refine lx_allocr 2 hGF zv27 rfl rfl ?_
  intro b2
  refine lx_nil ?_
  refine xs_plain (E := EE []) ?_
  refine lx_builds zv27 Tryz.underlying27 (bm_one Tryz.sizeOf25) rfl rfl ?_
  refine lx_loada 1 rfl rfl Tryz.isAgg27 Tryz.sizeOf27 (by simp) rfl rfl ?_
  refine lx_call rfl rfl ent85 ((show Pure Tryz.prog Gt 85 [NV (List.replicate 6 0#64), EV x] (EV (0 - x)) by rw [← fe_0]; exact fsub_pure 0 x)) rfl rfl ?_
  refine lx_storea 2 hGF rfl rfl rfl Tryz.sizeOf27 (by simp) (by simp) (one_u64 _) rfl ?_
  refine lx_nil ?_
  refine x_ret ?_
  repeat (first | refine kseq_ret ?_ | refine kblk_ret ?_)
  exact kret_own 2 rfl rfl rfl Tryz.isAgg27 Tryz.sizeOf27 (by simp) (fun w hw => ⟨by rw [show (0 : Zp) - x = -x by grind], hp_below hw⟩)
theorem fsquare_pure (x : Zp) : Pure Tryz.prog Gt 114 [EV x] (EV (x * x)) := by
  intro w hw
  have hGF : BOk Gt (pl w) := gt_low.plain hw
  refine calls_of_X (G := Gt) Tryz.func114 rfl rfl (Hp (pl w) []) (hp_refl (pl w) trivial rides_true) (good_hp hGF) ?_
  refine xs_plain (E := EE []) ?_
  refine lx_boxr 1 hGF rfl rfl rfl ?_
  intro b1
  refine lx_allocr 2 hGF zv27 rfl rfl ?_
  intro b2
  refine lx_nil ?_
  refine xs_plain (E := EE []) ?_
  refine lx_loada 1 rfl rfl Tryz.isAgg27 Tryz.sizeOf27 (by simp) rfl rfl ?_
  refine lx_loada 1 rfl rfl Tryz.isAgg27 Tryz.sizeOf27 (by simp) rfl rfl ?_
  refine lx_call rfl rfl ent74 (fmul_pure _ _) rfl rfl ?_
  refine lx_storea 2 hGF rfl rfl rfl Tryz.sizeOf27 (by simp) (by simp) (one_u64 _) rfl ?_
  refine lx_nil ?_
  refine x_ret ?_
  repeat (first | refine kseq_ret ?_ | refine kblk_ret ?_)
  exact kret_own 2 rfl rfl rfl Tryz.isAgg27 Tryz.sizeOf27 (by simp) (fun w hw => ⟨rfl, hp_below hw⟩)
theorem fbytes_pure (x : Zp) : Pure Tryz.prog Gt 95 [EV x] (.agg ((by48 x).map U8).toArray) := by
  intro w hw
  have hGF : BOk Gt (pl w) := gt_low.plain hw
  refine calls_of_X (G := Gt) Tryz.func95 rfl rfl (Hp (pl w) []) (hp_refl (pl w) trivial rides_true) (good_hp hGF) ?_
  refine xs_plain (E := EE []) ?_
  refine lx_boxr 1 hGF rfl rfl rfl ?_
  intro b1
  refine lx_allocr 2 hGF zv98 rfl rfl ?_
  intro b2
  refine lx_nil ?_
  refine xs_plain (E := EE []) ?_
  refine lx_loada 1 rfl rfl Tryz.isAgg27 Tryz.sizeOf27 (by simp) rfl rfl ?_
  refine lx_call rfl rfl ent102 (fnumber_pure _) rfl rfl ?_
  refine lx_call rfl rfl ent121 (bytesOf_pure _ (by simp)) rfl rfl ?_
  refine lx_storea 2 hGF rfl rfl rfl Tryz.sizeOf98 (by simp) (by simp) (one_u8 _) rfl ?_
  refine lx_nil ?_
  refine x_ret ?_
  repeat (first | refine kseq_ret ?_ | refine kblk_ret ?_)
  exact kret_own 2 rfl rfl rfl Tryz.isAgg98 Tryz.sizeOf98 (by simp) (fun w hw => ⟨rfl, hp_below hw⟩)
end Go.Proofs.YtdkmalaffcfoeaaGreatDoor

namespace Go.Proofs.YtdkmalaffcfoeaaGreatDoor
open Go.RowKit
set_option maxRecDepth 100000
set_option maxHeartbeats 1000000

theorem ent141 : Enters Tryz.prog 141 := fun _ _ => by kernel_rfl
attribute [local simp] fe_len nm_len AS_len SS_len MONT_len RM_len FRs_len BYs_len by48_len PLl TWOl ONEl N1l IVPl HFPl RTPl FL_len SP_len
theorem zv138 (w : World) : (zeroValue 138).run Tryz.prog w = .ok (.agg ((FL (fun _ => List.replicate 6 0#64) 16).map U64).toArray) w := (Tryz.zeroValue138 w).trans (by rfl)
theorem fof1_pure : Pure Tryz.prog Gt 30 [U64 1#64] (EV 1) := fof_pure 1#64
theorem fsmall_pure (x : Zp) : Pure Tryz.prog Gt 138 [EV x] (.agg ((SP x 16).map U64).toArray) := by
  intro w hw
  have hGF : BOk Gt (pl w) := gt_low.plain hw
  refine calls_of_X (G := Gt) Tryz.func138 rfl rfl (Hp (pl w) []) (hp_refl (pl w) trivial rides_true) (good_hp hGF) ?_
  refine xs_plain (E := EE []) ?_
  refine lx_boxr 1 hGF rfl rfl rfl ?_
  intro b1
  refine lx_allocr 2 hGF zv138 rfl rfl ?_
  intro b2
  refine lx_nil ?_
  refine xs_plain (E := EE []) ?_
  refine lx_call rfl rfl ent30 (fof1_pure) rfl rfl ?_
  refine lx_buildA rfl (by simp) (by decide) Tryz.underlying138 Tryz.sizeOf27 zv138 rfl rfl ?_
  refine lx_allocr 3 hGF zv138 rfl rfl ?_
  intro b3
  refine lx_storea 3 hGF rfl rfl rfl Tryz.sizeOf138 (by simp) (by simp) (one_u64 _) rfl ?_
  refine lx_nil ?_
  refine x_seq ?_
  refine xs_plain (E := EE []) ?_
  refine lx_assign rfl rfl rfl ?_
  refine lx_nil ?_
  refine x_block ?_
  refine x_for (ι := { i : Nat // 1 ≤ i ∧ i ≤ 16 }) (fun y => [(1, .pointer (some ⟨b1, 0, none⟩)), (2, .pointer (some ⟨b2, 0, none⟩)), (3, .pointer (some ⟨b3, 0, none⟩)), (4, I (y.1 : Int))]) (fun y => [(1, b1, (fe x).map U64, 27), (2, b2, (FL (fun _ => List.replicate 6 0#64) 16).map U64, 138), (3, b3, (SP x y.1).map U64, 138)]) (fun y => 16 - y.1) ⟨1, by omega⟩ hGF ⟨rfl, rfl, rfl, rfl, trivial⟩ ⟨rfl, rfl, by rw [← SP_one]; rfl, trivial⟩ ?_
  rintro ⟨i, hi⟩
  dsimp only
  refine x_seq ?_
  refine xs_plain (E := EE []) ?_
  refine lx_move rfl rfl rfl ?_
  refine lx_bin rfl rfl (fun _ => rfl) (fun _ => bin_lss_i _ _ _) rfl rfl ?_
  refine lx_nil ?_
  refine x_if rfl (fun hc => ?_) (fun hc => ?_)
  · simp only [decide_eq_true_eq] at hc
    refine x_skip ?_
    refine x_seq ?_
    refine x_block ?_
    refine x_drawn (E := EE []) mixed (by kernel_rfl) (by kernel_rfl) (by kernel_rfl) ?_
    refine lx_move rfl rfl rfl ?_
    refine lx_move rfl rfl rfl ?_
    refine lx_bin rfl rfl (fun _ => rfl) (fun _ => bin_sub_i _ _ _ (by unfold inI; omega)) rfl rfl ?_
    refine lx_iak (i - 1) (6 * (i - 1)) rfl rfl Tryz.underlying138 Tryz.sizeOf27 (by omega) (by omega) (by omega) rfl rfl ?_
    refine lx_loado 3 ((fe (x ^ (i - 1))).map U64) rfl rfl Tryz.isAgg27 Tryz.sizeOf27 (by simp) (SP_load x i (i - 1) (by omega) (by omega) _ rfl) rfl rfl ?_
    refine lx_loada 1 rfl rfl Tryz.isAgg27 Tryz.sizeOf27 (by simp) rfl rfl ?_
    refine lx_call rfl rfl ent74 (fmul_pure _ _) rfl rfl ?_
    refine lx_iak (i) (6 * (i)) rfl rfl Tryz.underlying138 Tryz.sizeOf27 (by omega) (by omega) (by omega) rfl rfl ?_
    refine lx_storeo 3 ((SP x (i + 1)).map U64) hGF rfl rfl rfl Tryz.sizeOf27 (by simp) (one_u64 _) (by rw [List.length_map, List.length_map, fe_len, SP_len]; omega) (SP_step x i (by omega) (by omega) _ rfl) rfl ?_
    refine lx_nil ?_
    refine x_plain (E := EE []) ?_
    refine lx_move rfl rfl rfl ?_
    refine lx_bin rfl rfl (fun _ => rfl) (fun _ => bin_add_i _ _ _ (by unfold inI; omega)) rfl rfl ?_
    refine lx_assign rfl rfl rfl ?_
    refine lx_nil ?_
    repeat (refine kblk_n ?_)
    refine kseq_n ?_
    exact ⟨rfl, ⟨i + 1, by omega⟩, _, by show 16 - (i + 1) < 16 - i; omega, rfl, ⟨rfl, rfl, rfl, rfl, trivial⟩, ⟨rfl, rfl, rfl, trivial⟩⟩
  · obtain rfl : i = 16 := by simp at hc; omega
    refine x_exit ?_
    refine xs_plain (E := EE []) ?_
    refine lx_loada 3 rfl rfl Tryz.isAgg138 Tryz.sizeOf138 (by simp) rfl rfl ?_
    refine lx_storea 2 hGF rfl rfl rfl Tryz.sizeOf138 (by simp) (by simp) (one_u64 _) rfl ?_
    refine lx_nil ?_
    refine x_ret ?_
    repeat (first | refine kseq_ret ?_ | refine kblk_ret ?_)
    exact kret_own 2 rfl rfl rfl Tryz.isAgg138 Tryz.sizeOf138 (by simp) (fun w hw => ⟨rfl, hp_below hw⟩)
/-- What the iterator over the digits reads; what it yields. -/
def RdD (bb : Nat) (e : Option Addr) (cap : Nat) (bs : List (BitVec 8)) : Cls := fun W => W.cell? ⟨bb, 0, none⟩ = some (.slice e bs.length cap) ∧ BytesAt W e bs
def NB (bs : List (BitVec 8)) : List (List Value) := (List.range (2 * bs.length)).map fun m => [U8 (NBv bs m)]
theorem NB_len (bs : List (BitVec 8)) : (NB bs).length = 2 * bs.length := by simp [NB]
theorem NB_get (bs : List (BitVec 8)) (m : Nat) (h : m < 2 * bs.length) : (NB bs)[m]? = some [U8 (NBv bs m)] := by
  rw [NB, List.getElem?_map, List.getElem?_range h]; rfl
theorem NB_at (bs : List (BitVec 8)) (m : Nat) (x : List Value) (h : (NB bs)[m]? = some x) : m < 2 * bs.length ∧ x = [U8 (NBv bs m)] := by
  have hm : m < 2 * bs.length := by
    rcases Nat.lt_or_ge m (2 * bs.length) with h' | h'
    · exact h'
    · rw [List.getElem?_eq_none (by rw [NB_len]; exact h')] at h; cases h
  rw [NB_get bs m hm] at h
  exact ⟨hm, (Option.some.inj h).symm⟩
theorem NB_hi (bs : List (BitVec 8)) (i : Nat) (h : i < bs.length) : (NB bs)[2 * i]? = some [U8 (bs.getD i 0 >>> 4)] := by
  rw [NB_get bs _ (by omega), NBv, if_pos (by omega), show 2 * i / 2 = i by omega]
theorem NB_lo (bs : List (BitVec 8)) (i : Nat) (h : i < bs.length) : (NB bs)[2 * i + 1]? = some [U8 (bs.getD i 0 % 16#8)] := by
  rw [NB_get bs _ (by omega), NBv, if_neg (by omega), show (2 * i + 1) / 2 = i by omega]
theorem fdigits_calls (sv : Value) (hs : sv.cells = #[sv]) (w : World) (hw : Gt w) : Calls Tryz.prog 139 [sv].toArray w (fun e w' => ∃ b1, e = .returned (.func (.func 141) #[] #[.pointer (some ⟨b1, 0, none⟩)]) ∧ Grow w w' ∧ w.heap.size ≤ b1 ∧ OwnB w' b1 [sv] 22) := by
  have hGF : BOk Gt (pl w) := gt_low.plain hw
  refine calls_of_X (G := Gt) Tryz.func139 rfl rfl (Hp (pl w) []) (hp_refl (pl w) trivial rides_true) (good_hp hGF) ?_
  refine xs_plain (E := EE []) ?_
  refine lx_box 1 hGF rfl rfl rfl ?_
  intro b1
  refine lx_assign rfl rfl rfl ?_
  refine lx_nil ?_
  refine xs_plain (E := EE []) ?_
  refine lx_func rfl rfl rfl rfl ?_
  refine lx_assign rfl rfl rfl ?_
  refine lx_nil ?_
  refine x_ret ?_
  repeat (first | refine kseq_ret ?_ | refine kblk_ret ?_)
  exact kret_tmp rfl rfl (fun w hw => ⟨b1, rfl, hp_below hw, (hw.own 1 b1 _ _ rfl).2.elim id False.elim, (by have := (hw.own 1 b1 _ _ rfl).1; rw [hs] at this; exact this)⟩)
theorem fdigits_seq (bb : Nat) (e : Option Addr) (cap : Nat) (bs : List (BitVec 8)) (hlen : bs.length ≤ 1000000) : SeqOk Tryz.prog Gt 141 [.pointer (some ⟨bb, 0, none⟩)] (NB bs) (RdD bb e cap bs) := by
  intro l J Jx hJ hJx hRd hGx hY w hj
  have okJ : ∀ k, BOk Gt (Bi w (fun Y => J Y k)) := fun k => ⟨fun _ _ _ h => (hRd _ _ _ h.rid).1, hJ k⟩
  have okX : ∀ k, BOk Gt (Bi w (fun Y => Jx Y k)) := fun k => ⟨fun _ _ _ h => hGx _ _ _ h.rid, hJx k⟩
  have c1 : ∀ k L w', Hp (Bi w (fun Y => J Y k)) L w' → RdD bb e cap bs w' := fun k L w' h => (hRd _ _ _ h.rid).2
  have hby := (hRd _ _ _ hj).2.2
  refine calls_of_X (G := Gt) Tryz.func141 rfl rfl (Hp (Bi w (fun Y => J Y 0)) []) (hp_refl (Bi w _) hj (hJ 0)) (good_hp (okJ 0)) ?_
  refine xs_plain (E := EE []) ?_
  refine lx_load rfl Tryz.isAgg22 (fun w h => (c1 _ _ w h).1) rfl rfl ?_
  refine lx_len rfl (fun _ => len_slice Tryz.underlying22 _ _ _ _) rfl rfl ?_
  refine lx_move rfl rfl rfl ?_
  refine lx_nil ?_
  refine x_block ?_
  refine x_forB (ι := { i : Nat // i ≤ bs.length }) (fun x => [(0, .func (.yield l) #[] #[]), (1, .pointer (some ⟨bb, 0, none⟩)), (5, .slice e bs.length cap), (6, I (bs.length : Int)), (7, I (x.1 : Int))]) (fun x => Bi w (fun Y => J Y (2 * x.1))) (fun x => []) (fun x => bs.length - x.1) ⟨0, Nat.zero_le _⟩ (fun _ => okJ _) rfl ⟨rfl, rfl, rfl, rfl, rfl, trivial⟩ trivial ?_
  rintro ⟨i, hi⟩
  dsimp only
  refine xs_plain (E := EE []) ?_
  refine lx_bin rfl rfl (fun _ => rfl) (fun _ => bin_lss_i _ _ _) rfl rfl ?_
  refine lx_nil ?_
  refine x_seq ?_
  refine x_if rfl (fun hc => ?_) (fun hc => ?_)
  · simp only [decide_eq_true_eq] at hc
    have hi2 : i < bs.length := by omega
    refine x_skip ?_
    refine x_seq ?_
    refine x_block ?_
    refine xs_plain (E := EE []) ?_
    obtain ⟨ad, rfl, _⟩ := hby i _ (gm U8 bs 0 i (by omega))
    refine lx_isA i rfl rfl Tryz.underlying22 Tryz.sizeOf5 rfl (by omega) rfl rfl ?_
    refine lx_load rfl Tryz.isAgg5 (fun w' h => by obtain ⟨ad', e', hc'⟩ := (c1 _ _ w' h).2 i _ (gm U8 bs 0 i (by omega)); cases e'; exact hc') rfl rfl ?_
    refine lx_assign rfl rfl rfl ?_
    refine lx_nil ?_
    refine xs_plainC (E := EE []) 4 ?_
    refine lx_move rfl rfl rfl ?_
    refine lx_move rfl rfl rfl ?_
    refine lx_bin (v := U8 (bs.getD i 0 >>> 4)) rfl rfl (fun _ => rfl) (fun _ => bin_shr_u8 _ _ 4#64) rfl rfl ?_
    refine lx_yield (hY.b (k := 2 * i) (NB_hi bs i (by omega)) w) (okJ _) (okX _) rfl rfl rfl rfl rfl ?_ ?_
    · skip
      refine lx_nil ?_
      refine ⟨EE [], ?_⟩
      refine lx_un rfl (fun _ => un_not _) rfl rfl ?_
      refine lx_move rfl rfl rfl ?_
      refine lx_move rfl rfl rfl ?_
      refine lx_move rfl rfl rfl ?_
      refine lx_bin (v := U8 (bs.getD i 0 % 16#8)) rfl rfl (fun _ => rfl) (fun _ => bin_rem_u8 _ _ 16#8 (by decide)) rfl rfl ?_
      refine lx_yield (hY.b (k := 2 * i + 1) (NB_lo bs i (by omega)) w) (okJ _) (okX _) rfl rfl rfl rfl rfl ?_ ?_
      · skip
        refine lx_un rfl (fun _ => un_not _) rfl rfl ?_
        refine lx_pick rfl rfl rfl rfl rfl ?_
        refine lx_nil ?_
        refine x_false rfl ?_
        refine x_skip ?_
        refine x_plain (E := EE []) ?_
        refine lx_bin rfl rfl (fun _ => rfl) (fun _ => bin_add_i _ _ _ (by unfold inI; omega)) rfl rfl ?_
        refine lx_move rfl rfl rfl ?_
        refine lx_nil ?_
        rw [show 2 * i + 1 + 1 = 2 * (i + 1) by omega]
        repeat (refine kblk_n ?_)
        refine kseq_n ?_
        exact ⟨rfl, ⟨i + 1, by omega⟩, _, by show bs.length - (i + 1) < bs.length - i; omega, rfl, ⟨rfl, rfl, rfl, rfl, rfl, trivial⟩, trivial⟩
      · skip
        refine lx_un rfl (fun _ => un_not _) rfl rfl ?_
        refine lx_pick rfl rfl rfl rfl rfl ?_
        refine lx_nil ?_
        refine x_true rfl ?_
        refine x_ret ?_
        repeat (first | refine kseq_ret ?_ | refine kblk_ret ?_)
        repeat (first | refine kseq_x ?_ | refine kblk_x ?_ | refine kblk_p rfl ?_ | refine kseq_ret ?_ | refine kblk_ret ?_)
        exact kret_none rfl (fun w hw => ⟨⟨_, rfl⟩, .inr ⟨_, drop_yof (hJx _) hw.rid⟩⟩)
    · skip
      refine lx_nil ?_
      refine ⟨EE [3000000], ?_⟩
      refine lx_un rfl (fun _ => un_not _) rfl rfl ?_
      refine lx_move rfl rfl rfl ?_
      refine lx_skip rfl rfl rfl ?_
      refine lx_skip rfl rfl rfl ?_
      refine lx_skip rfl rfl rfl ?_
      refine lx_skip rfl rfl rfl ?_
      refine lx_skip rfl rfl rfl ?_
      refine lx_pick rfl rfl rfl rfl rfl ?_
      refine lx_nil ?_
      refine x_true rfl ?_
      refine x_ret ?_
      repeat (first | refine kseq_ret ?_ | refine kblk_ret ?_)
      repeat (first | refine kseq_x ?_ | refine kblk_x ?_ | refine kblk_p rfl ?_ | refine kseq_ret ?_ | refine kblk_ret ?_)
      exact kret_none rfl (fun w hw => ⟨⟨_, rfl⟩, .inr ⟨_, drop_yof (hJx _) hw.rid⟩⟩)
  · simp only [decide_eq_false_iff_not] at hc
    obtain rfl : i = bs.length := by omega
    refine x_exit ?_
    repeat (first | refine kseq_x ?_ | refine kblk_x ?_ | refine kblk_p rfl ?_ | refine kseq_ret ?_ | refine kblk_ret ?_)
    refine kend_none rfl (fun w hw => ⟨⟨_, rfl⟩, .inl ?_⟩)
    have := drop_yof (hJ _) hw.rid
    rw [NB_len]
    exact this
end Go.Proofs.YtdkmalaffcfoeaaGreatDoor

namespace Go.Proofs.YtdkmalaffcfoeaaGreatDoor
open Go.RowKit
set_option maxRecDepth 100000
set_option maxHeartbeats 1000000
attribute [local simp] fe_len nm_len AS_len SS_len MONT_len RM_len FRs_len BYs_len by48_len PLl TWOl ONEl N1l IVPl HFPl RTPl FL_len SP_len

theorem fpow_calls (x : Zp) (e : Option Addr) (cap : Nat) (bs : List (BitVec 8)) (hlen : bs.length ≤ 1000000) (w : World) (hw : Gt w) (hby : BytesAt w e bs) :
    Calls Tryz.prog 133 [EV x, .slice e bs.length cap].toArray w (fun r w' => r = .returned (EV (x ^ BN bs bs.length)) ∧ Grow w w') := by
  have hGF : BOk Gt (pl w) := gt_low.plain hw
  refine calls_of_XM (G := Gt) Tryz.func133 rfl rfl (Hp (pl w) []) (hp_refl (pl w) trivial rides_true) (good_hp hGF) ?_
  refine xs_plain (E := EE [139]) ?_
  refine lx_boxr 2 hGF rfl rfl rfl ?_
  intro b2
  refine lx_allocr 4 hGF zv27 rfl rfl ?_
  intro b4
  refine lx_nil ?_
  refine xs_plain (E := EE [139]) ?_
  refine lx_loada 2 rfl rfl Tryz.isAgg27 Tryz.sizeOf27 (by simp) rfl rfl ?_
  refine lx_call rfl rfl ent138 (fsmall_pure _) rfl rfl ?_
  refine lx_allocr 5 hGF zv138 rfl rfl ?_
  intro b5
  refine lx_storea 5 hGF rfl rfl rfl Tryz.sizeOf138 (by simp) (by simp) (one_u64 _) rfl ?_
  refine lx_nil ?_
  refine xs_plain (E := EE [139]) ?_
  refine lx_iak 0 0 rfl rfl Tryz.underlying138 Tryz.sizeOf27 rfl (by decide) rfl rfl rfl ?_
  refine lx_loado 5 ((fe (x ^ 0)).map U64) rfl rfl Tryz.isAgg27 Tryz.sizeOf27 (by simp) (SP_load x 16 0 (by decide) (by decide) 0 rfl) rfl rfl ?_
  refine lx_allocr 6 hGF zv27 rfl rfl ?_
  intro b6
  refine lx_storea 6 hGF rfl rfl rfl Tryz.sizeOf27 (by simp) (by simp) (one_u64 _) rfl ?_
  refine lx_nil ?_
  refine x_seq ?_
  refine xs_plain (E := EE [139]) ?_
  refine lx_move rfl rfl rfl ?_
  refine lx_callE rfl rfl ent139 rfl rfl (fun w' hw' => (fdigits_calls _ rfl w' (hGF.g _ _ _ hw')).mono fun e' w'' h => ?_)
  obtain ⟨c1, rfl, hg, h1, ho⟩ := h
  refine ⟨_, _, rfl, good_hp hGF, hw'.news rides_true hg [(33, c1, [.slice e bs.length cap], 22)] ?_ inj_one, ?_⟩
  · intro n' b' c' t' hl
    rcases lkB_cons hl with ⟨_, e⟩ | ⟨_, hl⟩
    · cases e; exact ⟨h1, ho⟩
    · cases hl
  clear hw' hg h1 ho
  refine lx_nil ?_
  refine x_block ?_
  refine x_range (fun _ => pl w) (fun _ _ => pl w) (fun _ => hGF) (fun _ _ => hGF) (fun _ => rfl) (fun _ _ => rfl) rfl rfl ent141 (fdigits_seq c1 e cap bs hlen) (fun x hx => by obtain ⟨k, hk, rfl⟩ := List.mem_map.1 hx; rfl) rfl (fun k => [(2, b2, (fe x).map U64, 27), (4, b4, (List.replicate 6 0#64).map U64, 27), (5, b5, (SP x 16).map U64, 138), (6, b6, (fe (x ^ DN bs k)).map U64, 27), (33, c1, [.slice e bs.length cap], 22)]) (fun _ _ _ => False) ⟨rfl, rfl, rfl, by rw [DN]; rfl, rfl, trivial⟩ (fun k _ w' h => ⟨hp_cell (n := 33) rfl rfl w' h, hby.grow (h.below (fun _ h => h))⟩) ?_ ?_ (fun _ _ _ _ _ h => h.elim)
  · intro k v hx R hR
    obtain ⟨hk, rfl⟩ := NB_at bs k v hx
    have hlt := NBv_lt bs k
    refine x_plain (E := EE [139]) ?_
    refine lx_assign rfl rfl rfl ?_
    refine lx_nil ?_
    refine ⟨rfl, _, rfl, ?_⟩
    refine x_block ?_
    refine x_seq ?_
    refine xs_plain (E := EE [139]) ?_
    refine lx_move rfl rfl rfl ?_
    refine lx_nil ?_
    refine x_block ?_
    refine x_for (ι := { i : Nat // i ≤ 4 }) (fun j => [(5, .pointer (some ⟨b5, 0, none⟩)), (6, .pointer (some ⟨b6, 0, none⟩)), (7, U8 (NBv bs k)), (15, I (j.1 : Int))]) (fun j => [(2, b2, (fe x).map U64, 27), (4, b4, (List.replicate 6 0#64).map U64, 27), (5, b5, (SP x 16).map U64, 138), (6, b6, (fe (x ^ (2 ^ j.1 * DN bs k))).map U64, 27), (33, c1, [.slice e bs.length cap], 22)]) (fun j => 4 - j.1) ⟨0, by omega⟩ (hR (pl w) rfl hGF).2.1 ⟨rfl, rfl, rfl, rfl, trivial⟩ ⟨rfl, rfl, rfl, by rw [Nat.pow_zero, Nat.one_mul]; rfl, rfl, trivial⟩ ?_
    rintro ⟨j, hj⟩
    dsimp only
    refine xs_plain (E := EE [139]) ?_
    refine lx_bin rfl rfl (fun _ => rfl) (fun _ => bin_lss_i _ _ _) rfl rfl ?_
    refine lx_nil ?_
    refine x_seq ?_
    refine x_if rfl (fun hc => ?_) (fun hc => ?_)
    · simp only [decide_eq_true_eq] at hc
      refine x_skip ?_
      refine x_seq ?_
      refine x_block ?_
      refine x_plain (E := EE [139]) ?_
      refine lx_loada 6 rfl rfl Tryz.isAgg27 Tryz.sizeOf27 (by simp) rfl rfl ?_
      refine lx_call rfl rfl ent114 (fsquare_pure _) rfl rfl ?_
      refine lx_storea 6 (hR (pl w) rfl hGF).2.1 rfl rfl rfl Tryz.sizeOf27 (by simp) (by simp) (one_u64 _) rfl ?_
      refine lx_nil ?_
      refine x_plain (E := EE [139]) ?_
      refine lx_bin rfl rfl (fun _ => rfl) (fun _ => bin_add_i _ _ _ (by unfold inI; omega)) rfl rfl ?_
      refine lx_move rfl rfl rfl ?_
      refine lx_nil ?_
      repeat (refine kblk_n ?_)
      refine kseq_n ?_
      exact ⟨rfl, ⟨j + 1, by omega⟩, _, by show 4 - (j + 1) < 4 - j; omega, rfl, ⟨rfl, rfl, rfl, rfl, trivial⟩, ⟨rfl, rfl, rfl, by rw [← sq_step]; rfl, rfl, trivial⟩⟩
    · obtain rfl : j = 4 := by simp at hc; omega
      refine x_exit ?_
      refine x_drawn (E := EE [139]) mixed (by kernel_rfl) (by kernel_rfl) (by kernel_rfl) ?_
      refine lx_loada 6 rfl rfl Tryz.isAgg27 Tryz.sizeOf27 (by simp) rfl rfl ?_
      refine lx_move rfl rfl rfl ?_
      refine lx_iak8 (6 * (NBv bs k).toNat) rfl rfl Tryz.underlying138 Tryz.sizeOf27 hlt (by omega) rfl rfl ?_
      refine lx_loado 5 ((fe (x ^ (NBv bs k).toNat)).map U64) rfl rfl Tryz.isAgg27 Tryz.sizeOf27 (by simp) (SP_load x 16 _ hlt (Nat.le_refl _) _ rfl) rfl rfl ?_
      refine lx_call rfl rfl ent74 (dig_step x bs k ▸ fmul_pure (x ^ (2 ^ 4 * DN bs k)) (x ^ (NBv bs k).toNat)) rfl rfl ?_
      refine lx_storea 6 (hR (pl w) rfl hGF).2.1 rfl rfl rfl Tryz.sizeOf27 (by simp) (by simp) (one_u64 _) rfl ?_
      refine lx_nil ?_
      repeat (refine kblk_n ?_)
      exact ⟨_, rfl, ⟨rfl, rfl, rfl, rfl, rfl, trivial⟩⟩
  · intro D hD
    rw [NB_len, DN_two]
    refine xs_plain (E := EE [139]) ?_
    refine lx_loada 6 rfl rfl Tryz.isAgg27 Tryz.sizeOf27 (by simp) rfl rfl ?_
    refine lx_storea 4 hD rfl rfl rfl Tryz.sizeOf27 (by simp) (by simp) (one_u64 _) rfl ?_
    refine lx_nil ?_
    refine x_ret ?_
    repeat (first | refine kseq_ret ?_ | refine kblk_ret ?_)
    exact kretM_1 (.inl rfl) rides_true (kret_own 4 rfl rfl rfl Tryz.isAgg27 Tryz.sizeOf27 (by simp) (fun w hw => ⟨rfl, hp_below hw⟩))
end Go.Proofs.YtdkmalaffcfoeaaGreatDoor

namespace Go.Proofs.YtdkmalaffcfoeaaGreatDoor
open Go.RowKit
set_option maxRecDepth 100000
set_option maxHeartbeats 1000000
attribute [local simp] fe_len nm_len AS_len SS_len MONT_len RM_len FRs_len BYs_len by48_len PLl TWOl ONEl N1l IVPl HFPl RTPl FL_len SP_len

theorem fpow48 (x : Zp) (b : Nat) (t : TypeId) (bs : List (BitVec 8)) (h48 : bs.length = 48) (w : World) (hw : Gt w) (ho : OwnB w b (bs.map U8) t) :
    Calls Tryz.prog 133 [EV x, .slice (some ⟨b, 0, none⟩) 48 48].toArray w (fun r w' => r = .returned (EV (x ^ BN bs 48)) ∧ Grow w w') := by
  have h := fpow_calls x (some ⟨b, 0, none⟩) 48 bs (by omega) w hw (BytesAt.range ho.range)
  rw [h48] at h
  exact h
theorem lfrom_small (a : Option Addr) (len cap : Nat) (bs : List (BitVec 8)) (hl : bs.length = len) (h : len ≤ 48) (w : World) (hw : Gt w) (hby : BytesAt w a bs) :
    Calls Tryz.prog 73 [.slice a len cap].toArray w (fun e w' => e = .returned (.tuple #[NV (FRs bs bs.length), .bool true]) ∧ Grow w w') := by
  subst hl
  exact (from_calls a cap bs w hw hby).mono fun e w' ⟨he, hg⟩ => ⟨by rw [he, if_neg (by omega)], hg⟩
theorem fpower_pure (x : Zp) (n : List (BitVec 64)) (hn : n.length = 6) : Pure Tryz.prog Gt 115 [EV x, NV n] (EV (x ^ V n 6)) := by
  intro w hw
  have hGF : BOk Gt (pl w) := gt_low.plain hw
  refine calls_of_X (G := Gt) Tryz.func115 rfl rfl (Hp (pl w) []) (hp_refl (pl w) trivial rides_true) (good_hp hGF) ?_
  refine xs_plain (E := EE []) ?_
  refine lx_boxr 2 hGF rfl rfl rfl ?_
  intro b2
  refine lx_boxr 3 hGF rfl rfl rfl ?_
  intro b3
  refine lx_allocr 4 hGF zv27 rfl rfl ?_
  intro b4
  refine lx_nil ?_
  refine xs_plain (E := EE []) ?_
  refine lx_loada 3 rfl rfl Tryz.isAgg25 Tryz.sizeOf25 (by first | (simp; done) | simp [hn]) rfl rfl ?_
  refine lx_call rfl rfl ent121 (bytesOf_pure _ (by first | (simp; done) | simp [hn])) rfl rfl ?_
  refine lx_allocr 5 hGF zv98 rfl rfl ?_
  intro b5
  refine lx_storea 5 hGF rfl rfl rfl Tryz.sizeOf98 (by first | (simp; done) | simp [hn]) (by first | (simp; done) | simp [hn]) (one_u8 _) rfl ?_
  refine lx_nil ?_
  refine xs_drawn (E := EE []) mixed (by kernel_rfl) (by kernel_rfl) (by kernel_rfl) ?_
  refine lx_loada 2 rfl rfl Tryz.isAgg27 Tryz.sizeOf27 (by first | (simp; done) | simp [hn]) rfl rfl ?_
  refine lx_slarr1 (l := 0) (h' := 48) rfl Tryz.underlying98 Tryz.sizeOf5 rfl rfl (by omega) (by omega) rfl rfl ?_
  refine lx_callC rfl rfl ent133 (fun w hC hG => fpow48 x _ _ (BYs n 48) (by first | (simp; done) | simp [hn]) w hG (hC.own 5 _ _ _ rfl).1) rfl rfl ?_
  refine lx_storea 4 hGF rfl rfl rfl Tryz.sizeOf27 (by first | (simp; done) | simp [hn]) (by first | (simp; done) | simp [hn]) (one_u64 _) rfl ?_
  refine lx_nil ?_
  refine x_ret ?_
  repeat (first | refine kseq_ret ?_ | refine kblk_ret ?_)
  exact kret_own 4 rfl rfl rfl Tryz.isAgg27 Tryz.sizeOf27 (by first | (simp; done) | simp [hn]) (fun w hw => ⟨by rw [BN_BYs n hn 48 rfl], hp_below hw⟩)
theorem finv_pure (x : Zp) : Pure Tryz.prog Gt 80 [EV x] (EV (x ^ (PP - 2))) := by
  intro w hw
  have hGF : BOk Gt (pl w) := gt_low.plain hw
  refine calls_of_X (G := Gt) Tryz.func80 rfl rfl (Hp (pl w) []) (hp_refl (pl w) trivial rides_true) (good_hp hGF) ?_
  refine xs_plain (E := EE []) ?_
  refine lx_boxr 1 hGF rfl rfl rfl ?_
  intro b1
  refine lx_allocr 2 hGF zv27 rfl rfl ?_
  intro b2
  refine lx_nil ?_
  refine xs_plain (E := EE []) ?_
  refine lx_loada 1 rfl rfl Tryz.isAgg27 Tryz.sizeOf27 (by simp) rfl rfl ?_
  refine lx_gl hGF Tryz.isAgg25 Tryz.sizeOf25 (by simp) (fun _ h => h.g2) rfl rfl ?_
  refine lx_call rfl rfl ent115 (fpower_pure _ _ (by simp)) rfl rfl ?_
  refine lx_storea 2 hGF rfl rfl rfl Tryz.sizeOf27 (by simp) (by simp) (one_u64 _) rfl ?_
  refine lx_nil ?_
  refine x_ret ?_
  repeat (first | refine kseq_ret ?_ | refine kblk_ret ?_)
  exact kret_own 2 rfl rfl rfl Tryz.isAgg27 Tryz.sizeOf27 (by simp) (fun w hw => ⟨by rw [← IVP_val], hp_below hw⟩)
theorem fodd_pure (x : Zp) : Pure Tryz.prog Gt 54 [EV x] (.bool (decide (x.val % 2 = 1))) := by
  intro w hw
  have hGF : BOk Gt (pl w) := gt_low.plain hw
  refine calls_of_X (G := Gt) Tryz.func54 rfl rfl (Hp (pl w) []) (hp_refl (pl w) trivial rides_true) (good_hp hGF) ?_
  refine xs_plain (E := EE []) ?_
  refine lx_boxr 1 hGF rfl rfl rfl ?_
  intro b1
  refine lx_assign rfl rfl rfl ?_
  refine lx_nil ?_
  refine xs_plain (E := EE []) ?_
  refine lx_loada 1 rfl rfl Tryz.isAgg27 Tryz.sizeOf27 (by simp) rfl rfl ?_
  refine lx_call rfl rfl ent102 (fnumber_pure _) rfl rfl ?_
  refine lx_idxm U64 0 (0) rfl rfl Tryz.underlying25 Tryz.sizeOf24 Tryz.isAgg24 (by omega) (by omega) (by simp) rfl rfl ?_
  refine lx_bin rfl rfl (fun _ => rfl) (fun _ => bin_rem_u64 _ _ _ (by decide)) rfl rfl ?_
  refine lx_bin rfl rfl (fun _ => rfl) (fun _ => bin_eql_u64 _ _ _) rfl rfl ?_
  refine lx_assign rfl rfl rfl ?_
  refine lx_nil ?_
  refine x_ret ?_
  repeat (first | refine kseq_ret ?_ | refine kblk_ret ?_)
  exact kret_tmp rfl rfl (fun w hw => ⟨by rw [← odd_eq] <;> rfl, hp_below hw⟩)
theorem flarge_pure (x : Zp) : Pure Tryz.prog Gt 116 [EV x] (.bool (decide (hf < x.val))) := by
  intro w hw
  have hGF : BOk Gt (pl w) := gt_low.plain hw
  refine calls_of_X (G := Gt) Tryz.func116 rfl rfl (Hp (pl w) []) (hp_refl (pl w) trivial rides_true) (good_hp hGF) ?_
  refine xs_plain (E := EE []) ?_
  refine lx_boxr 1 hGF rfl rfl rfl ?_
  intro b1
  refine lx_assign rfl rfl rfl ?_
  refine lx_nil ?_
  refine xs_drawn (E := EE []) mixed (by kernel_rfl) (by kernel_rfl) (by kernel_rfl) ?_
  refine lx_gl hGF Tryz.isAgg25 Tryz.sizeOf25 (by simp) (fun _ h => h.g4) rfl rfl ?_
  refine lx_loada 1 rfl rfl Tryz.isAgg27 Tryz.sizeOf27 (by simp) rfl rfl ?_
  refine lx_call rfl rfl ent102 (fnumber_pure _) rfl rfl ?_
  refine lx_call rfl rfl ent128 (less_pure _ _ (by simp) (by simp)) rfl rfl ?_
  refine lx_assign rfl rfl rfl ?_
  refine lx_nil ?_
  refine x_ret ?_
  repeat (first | refine kseq_ret ?_ | refine kblk_ret ?_)
  exact kret_tmp rfl rfl (fun w hw => ⟨by rw [← large_eq], hp_below hw⟩)
theorem RTP_pow (x : Zp) : Pure Tryz.prog Gt 115 [EV x, NV RTP] (EV (SQr x)) := by
  have h := fpower_pure x RTP rfl
  rw [RTP_val] at h
  exact h
theorem fsqrt_pure (x : Zp) : Pure Tryz.prog Gt 82 [EV x] (.tuple #[EV (SQ x), .bool (decide (SQr x * SQr x = x))]) := by
  intro w hw
  have hGF : BOk Gt (pl w) := gt_low.plain hw
  refine calls_of_X (G := Gt) Tryz.func82 rfl rfl (Hp (pl w) []) (hp_refl (pl w) trivial rides_true) (good_hp hGF) ?_
  refine xs_plain (E := EE []) ?_
  refine lx_boxr 1 hGF rfl rfl rfl ?_
  intro b1
  refine lx_allocr 2 hGF zv27 rfl rfl ?_
  intro b2
  refine lx_assign rfl rfl rfl ?_
  refine lx_nil ?_
  refine xs_plain (E := EE []) ?_
  refine lx_loada 1 rfl rfl Tryz.isAgg27 Tryz.sizeOf27 (by simp) rfl rfl ?_
  refine lx_gl hGF Tryz.isAgg25 Tryz.sizeOf25 (by simp) (fun _ h => h.g3) rfl rfl ?_
  refine lx_call rfl rfl ent115 (RTP_pow x) rfl rfl ?_
  refine lx_allocr 4 hGF zv27 rfl rfl ?_
  intro b4
  refine lx_storea 4 hGF rfl rfl rfl Tryz.sizeOf27 (by simp) (by simp) (one_u64 _) rfl ?_
  refine lx_nil ?_
  refine x_seq ?_
  refine xs_drawn (E := EE []) mixed (by kernel_rfl) (by kernel_rfl) (by kernel_rfl) ?_
  refine lx_loada 4 rfl rfl Tryz.isAgg27 Tryz.sizeOf27 (by simp) rfl rfl ?_
  refine lx_call rfl rfl ent114 (fsquare_pure _) rfl rfl ?_
  refine lx_loada 1 rfl rfl Tryz.isAgg27 Tryz.sizeOf27 (by simp) rfl rfl ?_
  refine lx_call rfl rfl ent110 (fequal_pure _ _) rfl rfl ?_
  refine lx_un rfl (fun _ => un_not _) rfl rfl ?_
  refine lx_nil ?_
  refine x_if rfl (fun hc => ?_) (fun hc => ?_)
  · have hs : ¬ SQr x * SQr x = x := by simpa using hc
    refine xs_plain (E := EE []) ?_
    refine lx_builds zv27 Tryz.underlying27 (bm_one Tryz.sizeOf25) rfl rfl ?_
    refine lx_storea 2 hGF rfl rfl rfl Tryz.sizeOf27 (by simp) (by simp) (one_u64 _) rfl ?_
    refine lx_assign rfl rfl rfl ?_
    refine lx_nil ?_
    refine x_ret ?_
    repeat (first | refine kseq_ret ?_ | refine kblk_ret ?_)
    exact kret_ct 2 rfl rfl rfl rfl Tryz.isAgg27 Tryz.sizeOf27 (by simp) (fun w hw => ⟨by rw [SQ, if_neg hs, decide_eq_false hs, ← fe_0] <;> rfl, hp_below hw⟩)
  · have hs : SQr x * SQr x = x := by simpa using hc
    clear hc
    refine x_skip ?_
    refine x_seq ?_
    refine xs_plain (E := EE []) ?_
    refine lx_loada 4 rfl rfl Tryz.isAgg27 Tryz.sizeOf27 (by simp) rfl rfl ?_
    refine lx_call rfl rfl ent116 (flarge_pure _) rfl rfl ?_
    refine lx_nil ?_
    refine x_if rfl (fun hc => ?_) (fun hc => ?_)
    · simp only [decide_eq_true_eq] at hc
      refine x_plain (E := EE []) ?_
      refine lx_loada 4 rfl rfl Tryz.isAgg27 Tryz.sizeOf27 (by simp) rfl rfl ?_
      refine lx_call rfl rfl ent55 (fneg_pure _) rfl rfl ?_
      refine lx_storea 4 hGF rfl rfl rfl Tryz.sizeOf27 (by simp) (by simp) (one_u64 _) rfl ?_
      refine lx_nil ?_
      refine xs_plain (E := EE []) ?_
      refine lx_loada 4 rfl rfl Tryz.isAgg27 Tryz.sizeOf27 (by simp) rfl rfl ?_
      refine lx_storea 2 hGF rfl rfl rfl Tryz.sizeOf27 (by simp) (by simp) (one_u64 _) rfl ?_
      refine lx_assign rfl rfl rfl ?_
      refine lx_nil ?_
      refine x_ret ?_
      repeat (first | refine kseq_ret ?_ | refine kblk_ret ?_)
      exact kret_ct 2 rfl rfl rfl rfl Tryz.isAgg27 Tryz.sizeOf27 (by simp) (fun w hw => ⟨by rw [SQ, if_pos hs, SQn, if_pos hc, decide_eq_true hs] <;> rfl, hp_below hw⟩)
    · simp only [decide_eq_false_iff_not] at hc
      refine x_skip ?_
      refine xs_plain (E := EE []) ?_
      refine lx_loada 4 rfl rfl Tryz.isAgg27 Tryz.sizeOf27 (by simp) rfl rfl ?_
      refine lx_storea 2 hGF rfl rfl rfl Tryz.sizeOf27 (by simp) (by simp) (one_u64 _) rfl ?_
      refine lx_assign rfl rfl rfl ?_
      refine lx_nil ?_
      refine x_ret ?_
      repeat (first | refine kseq_ret ?_ | refine kblk_ret ?_)
      exact kret_ct 2 rfl rfl rfl rfl Tryz.isAgg27 Tryz.sizeOf27 (by simp) (fun w hw => ⟨by rw [SQ, if_pos hs, SQn, if_neg hc, decide_eq_true hs] <;> rfl, hp_below hw⟩)
theorem ffrom_calls (e : Option Addr) (cap : Nat) (bs : List (BitVec 8)) (w : World) (hw : Gt w) (hby : BytesAt w e bs) :
    Calls Tryz.prog 127 [.slice e bs.length cap].toArray w (fun r w' => r = .returned (.tuple #[EV (FV bs), .bool (FO bs)]) ∧ Grow w w') := by
  have hGF : BOk Gt (pl w) := gt_low.plain hw
  refine calls_of_X (G := Gt) Tryz.func127 rfl rfl (Hp (pl w) []) (hp_refl (pl w) trivial rides_true) (good_hp hGF) ?_
  refine xs_plain (E := EE []) ?_
  refine lx_allocr 2 hGF zv27 rfl rfl ?_
  intro b2
  refine lx_assign rfl rfl rfl ?_
  refine lx_nil ?_
  refine x_seq ?_
  refine xs_plain (E := EE []) ?_
  refine lx_move rfl rfl rfl ?_
  refine lx_len rfl (fun _ => len_slice Tryz.underlying22 _ _ _ _) rfl rfl ?_
  refine lx_bin rfl rfl (fun _ => rfl) (fun _ => bin_neq_i _ _ _) rfl rfl ?_
  refine lx_nil ?_
  refine x_if rfl (fun hc => ?_) (fun hc => ?_)
  · have hc : ¬ bs.length = 48 := by simp at hc; omega
    refine xs_plain (E := EE []) ?_
    refine lx_builds zv27 Tryz.underlying27 (bm_one Tryz.sizeOf25) rfl rfl ?_
    refine lx_storea 2 hGF rfl rfl rfl Tryz.sizeOf27 (by simp) (by simp) (one_u64 _) rfl ?_
    refine lx_assign rfl rfl rfl ?_
    refine lx_nil ?_
    refine x_ret ?_
    repeat (first | refine kseq_ret ?_ | refine kblk_ret ?_)
    exact kret_ct 2 rfl rfl rfl rfl Tryz.isAgg27 Tryz.sizeOf27 (by simp) (fun w hw => ⟨by rw [FV, FO, if_neg (fun h => hc h.1), decide_eq_false (fun h => hc h.1), ← fe_0] <;> rfl, hp_below hw⟩)
  · have h48 : bs.length = 48 := by simp at hc; omega
    clear hc
    refine x_skip ?_
    refine xs_plain (E := EE []) ?_
    refine lx_move rfl rfl rfl ?_
    refine lx_callC rfl rfl ent73 (fun w' hC hG => lfrom_small e bs.length cap bs rfl (by omega) w' hG (hby.grow (hp_below hC))) rfl rfl ?_
    refine lx_move rfl rfl rfl ?_
    refine lx_ext rfl rfl rfl rfl ?_
    refine lx_ext rfl rfl rfl rfl ?_
    refine lx_allocr 4 hGF zv25 rfl rfl ?_
    intro b4
    refine lx_storea 4 hGF rfl rfl rfl Tryz.sizeOf25 (by simp) (by simp) (one_u64 _) rfl ?_
    refine lx_assign rfl rfl rfl ?_
    refine lx_nil ?_
    refine x_seq ?_
    refine xs_plain (E := EE []) ?_
    refine lx_move rfl rfl rfl ?_
    refine lx_un rfl (fun _ => un_not _) rfl rfl ?_
    refine lx_move rfl rfl rfl ?_
    refine lx_loada 4 rfl rfl Tryz.isAgg25 Tryz.sizeOf25 (by simp) rfl rfl ?_
    refine lx_gl hGF Tryz.isAgg25 Tryz.sizeOf25 (by simp) (fun _ h => h.g1) rfl rfl ?_
    refine lx_call rfl rfl ent128 (less_pure _ _ (by simp) (by simp)) rfl rfl ?_
    refine lx_un rfl (fun _ => un_not _) rfl rfl ?_
    refine lx_pick rfl rfl rfl rfl rfl ?_
    refine lx_nil ?_
    refine x_if rfl (fun hc => ?_) (fun hc => ?_)
    · have e0 : V (FRs bs bs.length) 6 = BN bs 48 := by rw [V_FRs bs (by omega), h48]
      have hl : ¬ BN bs 48 < PP := by rw [LT_val, PL_val, e0] at hc; simpa using hc
      clear hc
      refine xs_plain (E := EE []) ?_
      refine lx_builds zv27 Tryz.underlying27 (bm_one Tryz.sizeOf25) rfl rfl ?_
      refine lx_storea 2 hGF rfl rfl rfl Tryz.sizeOf27 (by simp) (by simp) (one_u64 _) rfl ?_
      refine lx_assign rfl rfl rfl ?_
      refine lx_nil ?_
      refine x_ret ?_
      repeat (first | refine kseq_ret ?_ | refine kblk_ret ?_)
      exact kret_ct 2 rfl rfl rfl rfl Tryz.isAgg27 Tryz.sizeOf27 (by simp) (fun w hw => ⟨by rw [FV, FO, if_neg (fun h => hl h.2), decide_eq_false (fun h => hl h.2), ← fe_0] <;> rfl, hp_below hw⟩)
    · have e0 : V (FRs bs bs.length) 6 = BN bs 48 := by rw [V_FRs bs (by omega), h48]
      have hl : BN bs 48 < PP := by rw [LT_val, PL_val, e0] at hc; simpa using hc
      clear hc
      refine x_skip ?_
      refine xs_plain (E := EE []) ?_
      refine lx_loada 4 rfl rfl Tryz.isAgg25 Tryz.sizeOf25 (by simp) rfl rfl ?_
      refine lx_call rfl rfl ent76 (felem_pure _ (by simp)) rfl rfl ?_
      refine lx_storea 2 hGF rfl rfl rfl Tryz.sizeOf27 (by simp) (by simp) (one_u64 _) rfl ?_
      refine lx_assign rfl rfl rfl ?_
      refine lx_nil ?_
      refine x_ret ?_
      repeat (first | refine kseq_ret ?_ | refine kblk_ret ?_)
      exact kret_ct 2 rfl rfl rfl rfl Tryz.isAgg27 Tryz.sizeOf27 (by simp) (fun w hw => ⟨by rw [FV, FO, if_pos ⟨h48, hl⟩, decide_eq_true ⟨h48, hl⟩, V_FRs bs (by omega), h48] <;> rfl, hp_below hw⟩)
/-- Where the loop over pieces stands. -/
structure WSt (w : World) (bs : List (BitVec 8)) where
  (k : Nat) (a : Option Addr) (c : Nat)
  hk : k ≤ bs.length
  hc : bs.length - k ≤ c
  hb : BytesAt w a (bs.drop k)
  hm : k = 0 ∨ (bs.length - k) % 48 = 0
theorem piece_len (bs : List (BitVec 8)) (k cut : Nat) (h : cut ≤ bs.length - k) : ((bs.drop k).take cut).length = cut := by
  rw [List.length_take, List.length_drop]; omega
theorem fmulR_pure (y : Zp) : Pure Tryz.prog Gt 74 [EV y, NV TWO] (EV (y * RZ)) := TWO_fe ▸ fmul_pure y RZ
theorem felemP_pure (bs : List (BitVec 8)) (h : bs.length ≤ 48) : Pure Tryz.prog Gt 76 [NV (FRs bs bs.length)] (EV (zp (BN bs bs.length))) := V_FRs bs h ▸ felem_pure (FRs bs bs.length) (FRs_len _ _)
theorem fwide_calls (e : Option Addr) (cap : Nat) (bs : List (BitVec 8)) (hlen : bs.length ≤ 1000000) (hcap : bs.length ≤ cap) (w : World) (hw : Gt w) (hby : BytesAt w e bs) :
    Calls Tryz.prog 29 [.slice e bs.length cap].toArray w (fun r w' => r = .returned (EV (ZB bs)) ∧ Grow w w') := by
  have hGF : BOk Gt (pl w) := gt_low.plain hw
  refine calls_of_X (G := Gt) Tryz.func29 rfl rfl (Hp (pl w) []) (hp_refl (pl w) trivial rides_true) (good_hp hGF) ?_
  refine xs_plain (E := EE []) ?_
  refine lx_allocr 2 hGF zv27 rfl rfl ?_
  intro b2
  refine lx_nil ?_
  refine xs_plain (E := EE []) ?_
  refine lx_allocr 3 hGF zv27 rfl rfl ?_
  intro b3
  refine lx_nil ?_
  refine x_seq ?_
  refine x_block ?_
  refine x_for (ι := WSt w bs) (fun x => [(0, .slice x.a (bs.length - x.k) x.c), (2, .pointer (some ⟨b2, 0, none⟩)), (3, .pointer (some ⟨b3, 0, none⟩))]) (fun x => [(2, b2, (List.replicate 6 0#64).map U64, 27), (3, b3, (fe (zp (BN bs x.k))).map U64, 27)]) (fun x => (bs.length - x.k)) ⟨0, e, cap, Nat.zero_le _, hcap, hby, .inl rfl⟩ hGF ⟨rfl, rfl, rfl, trivial⟩ ⟨rfl, by rw [BN, zp_0, fe_0]; rfl, trivial⟩ ?_
  intro x
  refine x_seq ?_
  refine xs_plain (E := EE []) ?_
  refine lx_move rfl rfl rfl ?_
  refine lx_len rfl (fun _ => len_slice Tryz.underlying22 _ _ _ _) rfl rfl ?_
  refine lx_bin rfl rfl (fun _ => rfl) (fun _ => bin_gtr_i _ _ _) rfl rfl ?_
  refine lx_nil ?_
  refine x_if rfl (fun hc => ?_) (fun hc => ?_)
  · have hn : 0 < (bs.length - x.k) := by simp at hc; omega
    clear hc
    have hlenx := x.hk
    have hcut := cut_rest hn
    have hnext : BytesAt w (if x.c = (((bs.length - x.k) - 1) % 48 + 1) then x.a else x.a.map (·.add ((((bs.length - x.k) - 1) % 48 + 1) * 1))) (bs.drop (x.k + (((bs.length - x.k) - 1) % 48 + 1))) := by
      have := x.hb.drop (cap := x.c) (l := (((bs.length - x.k) - 1) % 48 + 1)) (by rw [List.length_drop]; exact x.hc) (by omega)
      rw [List.drop_drop] at this
      exact this
    have hstep : zp (BN bs x.k) * RZ + zp (BN ((bs.drop x.k).take (((bs.length - x.k) - 1) % 48 + 1)) ((bs.drop x.k).take (((bs.length - x.k) - 1) % 48 + 1)).length) = zp (BN bs (x.k + (((bs.length - x.k) - 1) % 48 + 1))) := by
      rw [piece_len bs x.k _ hcut.2.1, BN_take]
      exact wide_step bs x.k _ (or_map id (cut_of hn) x.hm)
    refine x_skip ?_
    refine x_block ?_
    refine xs_plain (E := EE []) ?_
    refine lx_move rfl rfl rfl ?_
    refine lx_len rfl (fun _ => len_slice Tryz.underlying22 _ _ _ _) rfl rfl ?_
    refine lx_bin (v := I (((bs.length - x.k) - 1 : Nat) : Int)) rfl rfl (fun _ => rfl) (fun _ => (bin_sub_i _ _ _ (by unfold inI; omega)).trans (by rw [show ((bs.length - x.k : Nat) : Int) - 1 = ((bs.length - x.k - 1 : Nat) : Int) by omega])) rfl rfl ?_
    refine lx_bin (v := I ((((bs.length - x.k) - 1) % 48 : Nat) : Int)) rfl rfl (fun _ => rfl) (fun _ => bin_rem_i _ _ _ (by decide)) rfl rfl ?_
    refine lx_bin (v := I (((((bs.length - x.k) - 1) % 48 + 1) : Nat) : Int)) rfl rfl (fun _ => rfl) (fun _ => bin_add_i _ _ _ (by unfold inI; omega)) rfl rfl ?_
    refine lx_assign rfl rfl rfl ?_
    refine lx_nil ?_
    refine xs_plain (E := EE []) ?_
    refine lx_move rfl rfl rfl ?_
    refine lx_move rfl rfl rfl ?_
    refine lx_slsl (l := 0) (h' := (((bs.length - x.k) - 1) % 48 + 1)) rfl Tryz.underlying22 Tryz.sizeOf5 rfl rfl ⟨Nat.zero_le _, Nat.le_trans hcut.2.1 x.hc⟩ rfl rfl ?_
    refine lx_callC rfl rfl ent73 (fun w' hC hG => lfrom_small _ (((bs.length - x.k) - 1) % 48 + 1) _ ((bs.drop x.k).take (((bs.length - x.k) - 1) % 48 + 1)) (piece_len bs x.k _ hcut.2.1) hcut.2.2 w' hG ((x.hb.cut 0 (((bs.length - x.k) - 1) % 48 + 1) (by rw [List.length_drop]; exact x.hc)).grow (hp_below hC))) rfl rfl ?_
    refine lx_move rfl rfl rfl ?_
    refine lx_ext rfl rfl rfl rfl ?_
    refine lx_ext rfl rfl rfl rfl ?_
    refine lx_allocr 5 hGF zv25 rfl rfl ?_
    intro b5
    refine lx_storea 5 hGF rfl rfl rfl Tryz.sizeOf25 (by simp) (by simp) (one_u64 _) rfl ?_
    refine lx_assign rfl rfl rfl ?_
    refine lx_nil ?_
    refine xs_drawn (E := EE []) mixed (by kernel_rfl) (by kernel_rfl) (by kernel_rfl) ?_
    refine lx_loada 3 rfl rfl Tryz.isAgg27 Tryz.sizeOf27 (by simp) rfl rfl ?_
    refine lx_gl hGF Tryz.isAgg25 Tryz.sizeOf25 (by simp) (fun _ h => h.g0) rfl rfl ?_
    refine lx_buildS rfl (by simp) Tryz.underlying27 rfl Tryz.sizeOf25 zv27 rfl rfl ?_
    refine lx_call rfl rfl ent74 (fmulR_pure _) rfl rfl ?_
    refine lx_loada 5 rfl rfl Tryz.isAgg25 Tryz.sizeOf25 (by simp) rfl rfl ?_
    refine lx_call rfl rfl ent76 (felemP_pure ((bs.drop x.k).take (((bs.length - x.k) - 1) % 48 + 1)) (by rw [piece_len bs x.k _ hcut.2.1]; exact hcut.2.2)) rfl rfl ?_
    refine lx_call rfl rfl ent75 (fadd_pure _ _) rfl rfl ?_
    refine lx_storea 3 hGF rfl rfl rfl Tryz.sizeOf27 (by simp) (by simp) (one_u64 _) rfl ?_
    refine lx_nil ?_
    refine x_plain (E := EE []) ?_
    refine lx_move rfl rfl rfl ?_
    refine lx_move rfl rfl rfl ?_
    refine lx_slsl (l := (((bs.length - x.k) - 1) % 48 + 1)) (h' := (bs.length - x.k)) rfl Tryz.underlying22 Tryz.sizeOf5 rfl rfl ⟨hcut.2.1, x.hc⟩ rfl rfl ?_
    refine lx_assign rfl rfl rfl ?_
    refine lx_nil ?_
    repeat (refine kblk_n ?_)
    refine kseq_n ?_
    exact ⟨rfl, ⟨x.k + (((bs.length - x.k) - 1) % 48 + 1), _, x.c - (((bs.length - x.k) - 1) % 48 + 1), by have := x.hk; omega, by have := x.hc; omega, hnext, .inr (by rw [Nat.sub_add_eq]; exact hcut.1)⟩, _, by show bs.length - (x.k + (((bs.length - x.k) - 1) % 48 + 1)) < bs.length - x.k; omega, rfl, ⟨congrArg (fun n => some (Value.slice _ n _)) (Nat.sub_sub bs.length x.k (((bs.length - x.k) - 1) % 48 + 1)), rfl, rfl, trivial⟩, ⟨rfl, by rw [← hstep]; rfl, trivial⟩⟩
  · have hn : x.k = bs.length := by simp at hc; have := x.hk; omega
    clear hc
    refine x_exit ?_
    refine xs_plain (E := EE []) ?_
    refine lx_loada 3 rfl rfl Tryz.isAgg27 Tryz.sizeOf27 (by simp) rfl rfl ?_
    refine lx_storea 2 hGF rfl rfl rfl Tryz.sizeOf27 (by simp) (by simp) (one_u64 _) rfl ?_
    refine lx_nil ?_
    refine x_ret ?_
    repeat (first | refine kseq_ret ?_ | refine kblk_ret ?_)
    exact kret_own 2 rfl rfl rfl Tryz.isAgg27 Tryz.sizeOf27 (by simp) (fun w hw => ⟨by rw [hn]; rfl, hp_below hw⟩)
end Go.Proofs.YtdkmalaffcfoeaaGreatDoor
