/-
 The walks of package fp: elements of p.
 The walks of package fp: powers.
 The walks of package fp: powers, inverses, roots, signs.
 The walks of package fp: inverses, roots, signs, bytes.
-/
import Derived.Test.YthkmeodnlidpfaaGreatDoorX7
import Derived.Test.YthkmeodnlidpfaaGreatDoorX3
import Derived.Test.YthkmeodnlidpfaaGreatDoorX6
import Derived.Test.YthkmeodnlidpfaaGreatDoorX5
set_option maxRecDepth 100000
set_option maxHeartbeats 1000000
namespace Go.Proofs.YthkmeodnlidpfaaGreatDoor
section
open Go.RowKit
theorem PLl : PL.length = 6 := rfl
theorem TWOl : TWO.length = 6 := rfl
theorem ONEl : ONE.length = 6 := rfl
theorem N1l : N1.length = 6 := rfl
theorem IVPl : IVP.length = 6 := rfl
theorem HFPl : HFP.length = 6 := rfl
theorem RTPl : RTP.length = 6 := rfl
attribute [local simp] fe_len nm_len AS_len SS_len MONT_len RM_len FRs_len BYs_len by48_len PLl TWOl ONEl N1l IVPl HFPl RTPl
theorem rC1 {Q P : Prop} (k : Q) (h : Q → P := by intro k; (refine LY.run ?_); (repeat (first | refine y_move rfl rfl rfl ?_ | refine y_assign rfl rfl rfl ?_ | ((refine fl27_0W rfl rfl ?_ rfl rfl rfl rfl ?_); (· simp)) | ((refine ra25 rfl rfl ?_ rfl rfl ?_); (· simp)) | ((refine ra27 rfl rfl ?_ rfl rfl ?_); (· simp)) | ((refine sa27 hGF rfl rfl rfl ?_ ?_ (one_u64 _) rfl ?_); (· simp); (· simp)) | ((refine sa25 hGF rfl rfl rfl ?_ ?_ (one_u64 _) rfl ?_); (· simp); (· simp)) | ((refine sa102 hGF rfl rfl rfl ?_ ?_ (one_u8 _) rfl ?_); (· simp); (· simp)) | refine y_ext rfl rfl rfl rfl ?_)); (first | refine y_nil ?_ | refine LY.mk ?_); exact k) : P := h k
theorem pC1 {Q P : Prop} (k : Q) (h : Q → P := by intro k; (refine xp ?_); (refine rC1 ?_); exact k) : P := h k
abbrev EV (x : Zp) : Value := .agg ((fe x).map U64).toArray
abbrev NV (n : List (BitVec 64)) : Value := .agg (n.map U64).toArray
theorem zv27 (w : World) : (zeroValue 27).run Tryz.prog w = .ok (.agg ((List.replicate 6 (0#64)).map U64).toArray) w := (Tryz.zeroValue27 w).trans (by rfl)
theorem eqg25 (op : BinOp) (x y : Operand) (xs ys : Array Value) (w : World) : (eqGuard op 25 x y (.agg xs) (.agg ys)).run Tryz.prog w = .ok () w := run_eqGuard_agg w op 25 x y xs ys (by kernel_rfl)
theorem eqv25 (xs ys : List (BitVec 64)) (h : xs.length = 6) (h' : ys.length = 6) (w : World) : (binOp .eql 25 (.agg (xs.map U64).toArray) (.agg (ys.map U64).toArray)).run Tryz.prog w = .ok (.bool (decide (xs = ys))) w := bin_eq64 Tryz.underlying25 Tryz.underlying24 Tryz.sizeOf24 Tryz.isAgg24 xs ys h h' w
theorem decide_fe (x y : Zp) : decide (fe x = fe y) = decide (x = y) := decide_eq_decide.2 fe_inj
theorem beq_t {x y : BitVec 64} (h : (x == y) = true) : x = y := beq_iff_eq.1 h
theorem beq_f {x y : BitVec 64} (h : (x == y) = false) : ¬ x = y := beq_eq_false_iff_ne.1 h
theorem ent25 : Enters Tryz.prog 25 := fun _ _ => by kernel_rfl
theorem ent61 : Enters Tryz.prog 61 := fun _ _ => by kernel_rfl
theorem ent11 : Enters Tryz.prog 11 := fun _ _ => by kernel_rfl
theorem ent58 : Enters Tryz.prog 58 := fun _ _ => by kernel_rfl
theorem ent81 : Enters Tryz.prog 81 := fun _ _ => by kernel_rfl
theorem ent94 : Enters Tryz.prog 94 := fun _ _ => by kernel_rfl
theorem ent37 : Enters Tryz.prog 37 := fun _ _ => by kernel_rfl
theorem ent109 : Enters Tryz.prog 109 := fun _ _ => by kernel_rfl
theorem ent36 : Enters Tryz.prog 36 := fun _ _ => by kernel_rfl
theorem ent93 : Enters Tryz.prog 93 := fun _ _ => by kernel_rfl
theorem ent87 : Enters Tryz.prog 87 := fun _ _ => by kernel_rfl
theorem ent35 : Enters Tryz.prog 35 := fun _ _ => by kernel_rfl
theorem ent125 : Enters Tryz.prog 125 := fun _ _ => by kernel_rfl
theorem ent99 : Enters Tryz.prog 99 := fun _ _ => by kernel_rfl
theorem ent156 : Enters Tryz.prog 156 := fun _ _ => by kernel_rfl
theorem ent141 : Enters Tryz.prog 141 := fun _ _ => by kernel_rfl
theorem ent160 : Enters Tryz.prog 160 := fun _ _ => by kernel_rfl
theorem ent161 : Enters Tryz.prog 161 := fun _ _ => by kernel_rfl
theorem fmul_pure (x y : Zp) : Pure Tryz.prog Gt 35 [EV x, EV y] (EV (x * y)) := by
 refine pure_X Tryz.func35 fun w hw hGF => ?_
 refine xp ?_
 refine lb fun b2 => ?_
 refine lb fun b3 => ?_
 refine la zv27 fun b4 => ?_
 refine lx_nil ?_
 refine pC1 ?_
 refine lx_gl hGF Tryz.isAgg25 Tryz.sizeOf25 (by simp) (fun _ h => h.g1) rfl rfl ?_
 refine lx_call rfl rfl ent88 (mont_pure _ _ _ (by simp) (by simp) (by simp)) rfl rfl ?_
 refine lx_buildS rfl (by simp) Tryz.underlying27 rfl Tryz.sizeOf25 zv27 rfl rfl ?_
 refine rC1 ?_
 refine rt ?_
 exact kret_own 4 rfl rfl rfl Tryz.isAgg27 Tryz.sizeOf27 (by simp) (fun w hw => ⟨by rw [MONT_fe], hp_below hw⟩)
theorem felem_pure (n : List (BitVec 64)) (hn : n.length = 6) : Pure Tryz.prog Gt 37 [NV n] (EV (zp (V n 6))) := by
 refine pure_X Tryz.func37 fun w hw hGF => ?_
 refine xp ?_
 refine lb fun b1 => ?_
 refine la zv27 fun b2 => ?_
 refine lx_nil ?_
 refine xp ?_
 refine lx_gl hGF Tryz.isAgg25 Tryz.sizeOf25 (by first | (simp; done) | simp [hn]) (fun _ h => h.g0) rfl rfl ?_
 refine lx_loada 1 rfl rfl Tryz.isAgg25 Tryz.sizeOf25 (by first | (simp; done) | simp [hn]) rfl rfl ?_
 refine lx_gl hGF Tryz.isAgg25 Tryz.sizeOf25 (by first | (simp; done) | simp [hn]) (fun _ h => h.g1) rfl rfl ?_
 refine lx_call rfl rfl ent88 (mont_pure _ _ _ (by first | (simp; done) | simp [hn]) (by first | (simp; done) | simp [hn]) (by first | (simp; done) | simp [hn])) rfl rfl ?_
 refine lx_buildS rfl (by first | (simp; done) | simp [hn]) Tryz.underlying27 rfl Tryz.sizeOf25 zv27 rfl rfl ?_
 refine lx_storea 2 hGF rfl rfl rfl Tryz.sizeOf27 (by first | (simp; done) | simp [hn]) (by first | (simp; done) | simp [hn]) (one_u64 _) rfl ?_
 refine lx_nil ?_
 refine rt ?_
 exact kret_own 2 rfl rfl rfl Tryz.isAgg27 Tryz.sizeOf27 (by first | (simp; done) | simp [hn]) (fun w hw => ⟨by rw [MONT_two], hp_below hw⟩)
theorem fnumber_pure (x : Zp) : Pure Tryz.prog Gt 109 [EV x] (NV (nm x)) := by
 refine pure_X Tryz.func109 fun w hw hGF => ?_
 refine xp ?_
 refine lb fun b1 => ?_
 refine la zv25 fun b2 => ?_
 refine lx_nil ?_
 refine pC1 ?_
 refine lx_build1 1 rfl Tryz.underlying25 Tryz.sizeOf24 zv25 rfl rfl ?_
 refine lx_gl hGF Tryz.isAgg25 Tryz.sizeOf25 (by simp) (fun _ h => h.g1) rfl rfl ?_
 refine lx_call rfl rfl ent88 (mont_pure _ _ _ (by simp) (by simp) (by simp)) rfl rfl ?_
 refine rC1 ?_
 refine rt ?_
 exact kret_own 2 rfl rfl rfl Tryz.isAgg25 Tryz.sizeOf25 (by simp) (fun w hw => ⟨by rw [← MONT_one]; rfl, hp_below hw⟩)
theorem V_cons0 (n : BitVec 64) : ∀ k, V (n :: List.replicate 5 0) (k + 1) = n.toNat
 | 0 => by rw [V_succ, V, Nat.mul_zero, Nat.pow_zero, Nat.mul_one, Nat.zero_add]; rfl
 | k + 1 => by
  have h0 : (n :: List.replicate 5 (0 : BitVec 64)).getD (k + 1) 0 = 0 := by
   rw [List.getD_eq_getElem?_getD, List.getElem?_cons_succ, List.getElem?_replicate]
   split <;> rfl
  rw [V_succ, V_cons0 n k, h0, show (0 : BitVec 64).toNat = 0 from rfl, Nat.zero_mul, Nat.add_zero]
theorem V_small (n : BitVec 64) : V (n :: List.replicate 5 0) 6 = n.toNat := V_cons0 n 5
theorem fof_pure (n : BitVec 64) : Pure Tryz.prog Gt 25 [U64 n] (EV (zp n.toNat)) := by
 refine pure_X Tryz.func25 fun w hw hGF => ?_
 refine xp ?_
 refine la zv27 fun b2 => ?_
 refine lx_nil ?_
 refine pC1 ?_
 refine lx_build1 n rfl Tryz.underlying25 Tryz.sizeOf24 zv25 rfl rfl ?_
 refine lx_call rfl rfl ent37 (felem_pure _ (by simp)) rfl rfl ?_
 refine rC1 ?_
 refine rt ?_
 exact kret_own 2 rfl rfl rfl Tryz.isAgg27 Tryz.sizeOf27 (by simp) (fun w hw => ⟨by rw [V_small], hp_below hw⟩)
theorem fequal_pure (x y : Zp) : Pure Tryz.prog Gt 81 [EV x, EV y] (.bool (decide (x = y))) := by
 refine pure_X Tryz.func81 fun w hw hGF => ?_
 refine xp ?_
 refine lb fun b2 => ?_
 refine lb fun b3 => ?_
 refine rC1 ?_
 refine pC1 ?_
 refine lx_bin rfl rfl (fun _ => eqg25 _ _ _ _ _ _) (fun w => eqv25 _ _ (by simp) (by simp) w) rfl rfl ?_
 refine rC1 ?_
 refine rt ?_
 exact kret_tmp rfl rfl (fun w hw => ⟨by rw [decide_fe], hp_below hw⟩)
theorem fisZero_pure (x : Zp) : Pure Tryz.prog Gt 94 [EV x] (.bool (decide (x = 0))) := by
 refine pure_X Tryz.func94 fun w hw hGF => ?_
 refine xp ?_
 refine lb fun b1 => ?_
 refine rC1 ?_
 refine pC1 ?_
 refine lx_buildz zv25 Tryz.underlying25 Tryz.sizeOf24 rfl rfl ?_
 refine lx_bin rfl rfl (fun _ => eqg25 _ _ _ _ _ _) (fun w => eqv25 _ _ (by simp) (by simp) w) rfl rfl ?_
 refine rC1 ?_
 refine rt ?_
 exact kret_tmp rfl rfl (fun w hw => ⟨by rw [← fe_0, decide_fe], hp_below hw⟩)
theorem fadd_pure (x y : Zp) : Pure Tryz.prog Gt 36 [EV x, EV y] (EV (x + y)) := by
 refine pure_X Tryz.func36 fun w hw hGF => ?_
 refine xp ?_
 refine lb fun b2 => ?_
 refine lb fun b3 => ?_
 refine la zv27 fun b4 => ?_
 refine lx_nil ?_
 refine pC1 ?_
 refine lx_call rfl rfl ent89 (add_pure _ _ (by simp) (by simp)) rfl rfl ?_
 refine rC1 ?_
 refine la zv25 fun b5 => ?_
 refine rC1 ?_
 refine pC1 ?_
 refine lx_gl hGF Tryz.isAgg25 Tryz.sizeOf25 (by simp) (fun _ h => h.g1) rfl rfl ?_
 refine lx_call rfl rfl ent90 (sub_pure _ _ (by simp) (by simp)) rfl rfl ?_
 refine rC1 ?_
 refine la zv25 fun b7 => ?_
 refine rC1 ?_
 refine x_seq ?_
 refine pC1 ?_
 refine lx_bin rfl rfl (fun _ => rfl) (fun _ => bin_eql_u64 _ _ _) rfl rfl ?_
 refine lx_nil ?_
 refine x_if rfl (fun hc => ?_) (fun hc => ?_)
 ·skip
  refine pC1 ?_
  refine lx_buildS rfl (by simp) Tryz.underlying27 rfl Tryz.sizeOf25 zv27 rfl rfl ?_
  refine rC1 ?_
  refine rt ?_
  exact kret_own 4 rfl rfl rfl Tryz.isAgg27 Tryz.sizeOf27 (by simp) (fun w hw => ⟨by rw [add_low (sum_lt (beq_t hc))], hp_below hw⟩)
 ·skip
  refine x_skip ?_
  refine pC1 ?_
  refine lx_buildS rfl (by simp) Tryz.underlying27 rfl Tryz.sizeOf25 zv27 rfl rfl ?_
  refine rC1 ?_
  refine rt ?_
  exact kret_own 4 rfl rfl rfl Tryz.isAgg27 Tryz.sizeOf27 (by simp) (fun w hw => ⟨by rw [add_high (one_or (SS_c _ _ _) (beq_f hc))], hp_below hw⟩)
theorem fsub_pure (x y : Zp) : Pure Tryz.prog Gt 93 [EV x, EV y] (EV (x - y)) := by
 refine pure_X Tryz.func93 fun w hw hGF => ?_
 refine xp ?_
 refine lb fun b2 => ?_
 refine lb fun b3 => ?_
 refine la zv27 fun b4 => ?_
 refine lx_nil ?_
 refine pC1 ?_
 refine lx_call rfl rfl ent90 (sub_pure _ _ (by simp) (by simp)) rfl rfl ?_
 refine rC1 ?_
 refine la zv25 fun b5 => ?_
 refine rC1 ?_
 refine x_seq ?_
 refine pC1 ?_
 refine lx_bin rfl rfl (fun _ => rfl) (fun _ => bin_eql_u64 _ _ _) rfl rfl ?_
 refine lx_nil ?_
 refine x_if rfl (fun hc => ?_) (fun hc => ?_)
 ·skip
  refine x_plain (E := EE []) ?_
  refine rC1 ?_
  refine lx_gl hGF Tryz.isAgg25 Tryz.sizeOf25 (by simp) (fun _ h => h.g1) rfl rfl ?_
  refine lx_call rfl rfl ent89 (add_pure _ _ (by simp) (by simp)) rfl rfl ?_
  refine rC1 ?_
  refine pC1 ?_
  refine lx_buildS rfl (by simp) Tryz.underlying27 rfl Tryz.sizeOf25 zv27 rfl rfl ?_
  refine rC1 ?_
  refine rt ?_
  exact kret_own 4 rfl rfl rfl Tryz.isAgg27 Tryz.sizeOf27 (by simp) (fun w hw => ⟨by rw [sub_low (beq_t hc)], hp_below hw⟩)
 ·skip
  refine x_skip ?_
  refine pC1 ?_
  refine lx_buildS rfl (by simp) Tryz.underlying27 rfl Tryz.sizeOf25 zv27 rfl rfl ?_
  refine rC1 ?_
  refine rt ?_
  exact kret_own 4 rfl rfl rfl Tryz.isAgg27 Tryz.sizeOf27 (by simp) (fun w hw => ⟨by rw [sub_high (one_or (SS_c _ _ _) (beq_f hc))], hp_below hw⟩)
theorem fneg_pure (x : Zp) : Pure Tryz.prog Gt 87 [EV x] (EV (-x)) := by
 refine pure_X Tryz.func87 fun w hw hGF => ?_
 refine xp ?_
 refine lb fun b1 => ?_
 refine la zv27 fun b2 => ?_
 refine lx_nil ?_
 refine xp ?_
 refine lx_builds zv27 Tryz.underlying27 (bm_one Tryz.sizeOf25) rfl rfl ?_
 refine rC1 ?_
 refine lx_call rfl rfl ent93 ((show Pure Tryz.prog Gt 93 [NV (List.replicate 6 0#64), EV x] (EV (0 - x)) by rw [← fe_0]; exact fsub_pure 0 x)) rfl rfl ?_
 refine rC1 ?_
 refine rt ?_
 exact kret_own 2 rfl rfl rfl Tryz.isAgg27 Tryz.sizeOf27 (by simp) (fun w hw => ⟨by rw [show (0 : Zp) - x = -x by grind], hp_below hw⟩)
theorem fsquare_pure (x : Zp) : Pure Tryz.prog Gt 125 [EV x] (EV (x * x)) := by
 refine pure_X Tryz.func125 fun w hw hGF => ?_
 refine xp ?_
 refine lb fun b1 => ?_
 refine la zv27 fun b2 => ?_
 refine lx_nil ?_
 refine pC1 ?_
 refine lc ent35 (fmul_pure _ _) ?_
 refine rC1 ?_
 refine rt ?_
 exact kret_own 2 rfl rfl rfl Tryz.isAgg27 Tryz.sizeOf27 (by simp) (fun w hw => ⟨rfl, hp_below hw⟩)
theorem fbytes_pure (x : Zp) : Pure Tryz.prog Gt 58 [EV x] (.agg ((by48 x).map U8).toArray) := by
 refine pure_X Tryz.func58 fun w hw hGF => ?_
 refine xp ?_
 refine lb fun b1 => ?_
 refine la zv102 fun b2 => ?_
 refine lx_nil ?_
 refine pC1 ?_
 refine lc ent109 (fnumber_pure _) ?_
 refine lx_call rfl rfl ent108 (bytesOf_pure _ (by simp)) rfl rfl ?_
 refine rC1 ?_
 refine rt ?_
 exact kret_own 2 rfl rfl rfl Tryz.isAgg102 Tryz.sizeOf102 (by simp) (fun w hw => ⟨rfl, hp_below hw⟩)
end
section
open Go.RowKit
theorem ent162 : Enters Tryz.prog 162 := fun _ _ => by kernel_rfl
attribute [local simp] fe_len nm_len AS_len SS_len MONT_len RM_len FRs_len BYs_len by48_len PLl TWOl ONEl N1l IVPl HFPl RTPl FL_len SP_len
theorem rC2 {Q P : Prop} (k : Q) (h : Q → P := by intro k; (refine LY.run ?_); (repeat (first | refine y_move rfl rfl rfl ?_ | refine y_assign rfl rfl rfl ?_ | ((refine ra27 rfl rfl ?_ rfl rfl ?_); (· simp)) | ((refine ra185 rfl rfl ?_ rfl rfl ?_); (· simp)) | ((refine sa185 hGF rfl rfl rfl ?_ ?_ (one_u64 _) rfl ?_); (· simp); (· simp)) | refine y_pick rfl rfl rfl rfl rfl ?_)); (first | refine y_nil ?_ | refine LY.mk ?_); exact k) : P := h k
theorem pC2 {Q P : Prop} (k : Q) (h : Q → P := by intro k; (refine xp ?_); (refine rC2 ?_); exact k) : P := h k
theorem zv185 (w : World) : (zeroValue 185).run Tryz.prog w = .ok (.agg ((FL (fun _ => List.replicate 6 0#64) 16).map U64).toArray) w := (Tryz.zeroValue185 w).trans (by rfl)
theorem fof1_pure : Pure Tryz.prog Gt 25 [U64 1#64] (EV 1) := fof_pure 1#64
theorem fsmall_pure (x : Zp) : Pure Tryz.prog Gt 160 [EV x] (.agg ((SP x 16).map U64).toArray) := by
 refine pure_X Tryz.func160 fun w hw hGF => ?_
 refine xp ?_
 refine lb fun b1 => ?_
 refine la zv185 fun b2 => ?_
 refine lx_nil ?_
 refine xp ?_
 refine lc ent25 (fof1_pure) ?_
 refine lx_buildA rfl (by simp) (by decide) Tryz.underlying185 Tryz.sizeOf27 zv185 rfl rfl ?_
 refine la zv185 fun b3 => ?_
 refine rC2 ?_
 refine x_seq ?_
 refine pC2 ?_
 refine x_block ?_
 refine x_for (ι := { i : Nat // 1 ≤ i ∧ i ≤ 16 }) (fun y => [(1, .pointer (some ⟨b1, 0, none⟩)), (2, .pointer (some ⟨b2, 0, none⟩)), (3, .pointer (some ⟨b3, 0, none⟩)), (4, I (y.1 : Int))]) (fun y => [(1, b1, (fe x).map U64, 27), (2, b2, (FL (fun _ => List.replicate 6 0#64) 16).map U64, 185), (3, b3, (SP x y.1).map U64, 185)]) (fun y => 16 - y.1) ⟨1, by omega⟩ hGF ⟨rfl, rfl, rfl, rfl, trivial⟩ ⟨rfl, rfl, by rw [← SP_one]; rfl, trivial⟩ ?_
 rintro ⟨i, hi⟩
 dsimp only
 refine x_seq ?_
 refine pC2 ?_
 refine lx_bin rfl rfl (fun _ => rfl) (fun _ => bin_lss_i _ _ _) rfl rfl ?_
 refine lx_nil ?_
 refine x_if rfl (fun hc => ?_) (fun hc => ?_)
 ·simp only [decide_eq_true_eq] at hc
  refine x_skip ?_
  refine x_seq ?_
  refine x_block ?_
  refine x_drawn (E := EE []) mixed (by kernel_rfl) (by kernel_rfl) (by kernel_rfl) ?_
  refine rC2 ?_
  refine lx_bin rfl rfl (fun _ => rfl) (fun _ => bin_sub_i _ _ _ (by unfold inI; omega)) rfl rfl ?_
  refine lx_iak (i - 1) (6 * (i - 1)) rfl rfl Tryz.underlying185 Tryz.sizeOf27 (by omega) (by omega) (by omega) rfl rfl ?_
  refine lx_loado 3 ((fe (x ^ (i - 1))).map U64) rfl rfl Tryz.isAgg27 Tryz.sizeOf27 (by simp) (SP_load x i (i - 1) (by omega) (by omega) _ rfl) rfl rfl ?_
  refine rC2 ?_
  refine lc ent35 (fmul_pure _ _) ?_
  refine lx_iak (i) (6 * (i)) rfl rfl Tryz.underlying185 Tryz.sizeOf27 (by omega) (by omega) (by omega) rfl rfl ?_
  refine lx_storeo 3 ((SP x (i + 1)).map U64) hGF rfl rfl rfl Tryz.sizeOf27 (by simp) (one_u64 _) (by rw [List.length_map, List.length_map, fe_len, SP_len]; omega) (SP_step x i (by omega) (by omega) _ rfl) rfl ?_
  refine lx_nil ?_
  refine x_plain (E := EE []) ?_
  refine rC2 ?_
  refine lx_bin rfl rfl (fun _ => rfl) (fun _ => bin_add_i _ _ _ (by unfold inI; omega)) rfl rfl ?_
  refine rC2 ?_
  repeat (refine kblk_n ?_)
  refine kseq_n ?_
  exact ⟨rfl, ⟨i + 1, by omega⟩, _, by show 16 - (i + 1) < 16 - i; omega, rfl, ⟨rfl, rfl, rfl, rfl, trivial⟩, ⟨rfl, rfl, rfl, trivial⟩⟩
 ·obtain rfl : i = 16 := by simp at hc; omega
  refine x_exit ?_
  refine pC2 ?_
  refine rt ?_
  exact kret_own 2 rfl rfl rfl Tryz.isAgg185 Tryz.sizeOf185 (by simp) (fun w hw => ⟨rfl, hp_below hw⟩)
def RdD (bb : Nat) (e : Option Addr) (cap : Nat) (bs : List (BitVec 8)) : Cls := fun W => W.cell? ⟨bb, 0, none⟩ = some (.slice e bs.length cap) ∧ BytesAt W e bs
def NB (bs : List (BitVec 8)) : List (List Value) := (List.range (2 * bs.length)).map fun m => [U8 (NBv bs m)]
theorem NB_len (bs : List (BitVec 8)) : (NB bs).length = 2 * bs.length := by simp [NB]
theorem NB_get (bs : List (BitVec 8)) (m : Nat) (h : m < 2 * bs.length) : (NB bs)[m]? = some [U8 (NBv bs m)] := by
 rw [NB, List.getElem?_map, List.getElem?_range h]; rfl
theorem NB_at (bs : List (BitVec 8)) (m : Nat) (x : List Value) (h : (NB bs)[m]? = some x) : m < 2 * bs.length ∧ x = [U8 (NBv bs m)] := by
 have hm : m < 2 * bs.length := by
  rcases Nat.lt_or_ge m (2 * bs.length) with h' | h'
  ·exact h'
  ·rw [List.getElem?_eq_none (by rw [NB_len]; exact h')] at h; cases h
 rw [NB_get bs m hm] at h
 exact ⟨hm, (Option.some.inj h).symm⟩
theorem NB_hi (bs : List (BitVec 8)) (i : Nat) (h : i < bs.length) : (NB bs)[2 * i]? = some [U8 (bs.getD i 0 >>> 4)] := by
 rw [NB_get bs _ (by omega), NBv, if_pos (by omega), show 2 * i / 2 = i by omega]
theorem NB_lo (bs : List (BitVec 8)) (i : Nat) (h : i < bs.length) : (NB bs)[2 * i + 1]? = some [U8 (bs.getD i 0 % 16#8)] := by
 rw [NB_get bs _ (by omega), NBv, if_neg (by omega), show (2 * i + 1) / 2 = i by omega]
theorem fdigits_calls (sv : Value) (hs : sv.cells = #[sv]) (w : World) (hw : Gt w) : Calls Tryz.prog 161 [sv].toArray w (fun e w' => ∃ b1, e = .returned (.func (.func 162) #[] #[.pointer (some ⟨b1, 0, none⟩)]) ∧ Grow w w' ∧ w.heap.size ≤ b1 ∧ OwnB w' b1 [sv] 22) := by
 have hGF : BOk Gt (pl w) := gt_low.plain hw
 refine calls_of_X (G := Gt) Tryz.func161 rfl rfl (Hp (pl w) []) (hp_refl (pl w) trivial rides_true) (good_hp hGF) ?_
 refine xp ?_
 refine lx_box 1 hGF rfl rfl rfl ?_
 intro b1
 refine rC2 ?_
 refine xp ?_
 refine lx_func rfl rfl rfl rfl ?_
 refine rC2 ?_
 refine rt ?_
 exact kret_tmp rfl rfl (fun w hw => ⟨b1, rfl, hp_below hw, (hw.own 1 b1 _ _ rfl).2.elim id False.elim, (by have := (hw.own 1 b1 _ _ rfl).1; rw [hs] at this; exact this)⟩)
theorem fdigits_seq (bb : Nat) (e : Option Addr) (cap : Nat) (bs : List (BitVec 8)) (hlen : bs.length ≤ 1000000) : SeqOk Tryz.prog Gt 162 [.pointer (some ⟨bb, 0, none⟩)] (NB bs) (RdD bb e cap bs) := by
 intro l J Jx hJ hJx hRd hGx hY w hj
 have okJ : ∀ k, BOk Gt (Bi w (fun Y => J Y k)) := fun k => ⟨fun _ _ _ h => (hRd _ _ _ h.rid).1, hJ k⟩
 have okX : ∀ k, BOk Gt (Bi w (fun Y => Jx Y k)) := fun k => ⟨fun _ _ _ h => hGx _ _ _ h.rid, hJx k⟩
 have c1 : ∀ k L w', Hp (Bi w (fun Y => J Y k)) L w' → RdD bb e cap bs w' := fun k L w' h => (hRd _ _ _ h.rid).2
 have hby := (hRd _ _ _ hj).2.2
 refine calls_of_X (G := Gt) Tryz.func162 rfl rfl (Hp (Bi w (fun Y => J Y 0)) []) (hp_refl (Bi w _) hj (hJ 0)) (good_hp (okJ 0)) ?_
 refine xp ?_
 refine lx_load rfl Tryz.isAgg22 (fun w h => (c1 _ _ w h).1) rfl rfl ?_
 refine lx_len rfl (fun _ => len_slice Tryz.underlying22 _ _ _ _) rfl rfl ?_
 refine rC2 ?_
 refine x_block ?_
 refine x_forB (ι := { i : Nat // i ≤ bs.length }) (fun x => [(0, .func (.yield l) #[] #[]), (1, .pointer (some ⟨bb, 0, none⟩)), (5, .slice e bs.length cap), (6, I (bs.length : Int)), (7, I (x.1 : Int))]) (fun x => Bi w (fun Y => J Y (2 * x.1))) (fun x => []) (fun x => bs.length - x.1) ⟨0, Nat.zero_le _⟩ (fun _ => okJ _) rfl ⟨rfl, rfl, rfl, rfl, rfl, trivial⟩ trivial ?_
 rintro ⟨i, hi⟩
 dsimp only
 refine xp ?_
 refine lx_bin rfl rfl (fun _ => rfl) (fun _ => bin_lss_i _ _ _) rfl rfl ?_
 refine lx_nil ?_
 refine x_seq ?_
 refine x_if rfl (fun hc => ?_) (fun hc => ?_)
 ·simp only [decide_eq_true_eq] at hc
  have hi2 : i < bs.length := by omega
  refine x_skip ?_
  refine x_seq ?_
  refine x_block ?_
  refine xp ?_
  obtain ⟨ad, rfl, _⟩ := hby i _ (gm U8 bs 0 i (by omega))
  refine lx_isA i rfl rfl Tryz.underlying22 Tryz.sizeOf5 rfl (by omega) rfl rfl ?_
  refine lx_load rfl Tryz.isAgg5 (fun w' h => by obtain ⟨ad', e', hc'⟩ := (c1 _ _ w' h).2 i _ (gm U8 bs 0 i (by omega)); cases e'; exact hc') rfl rfl ?_
  refine rC2 ?_
  refine xs_plainC (E := EE []) 4 ?_
  refine rC2 ?_
  refine lx_bin (v := U8 (bs.getD i 0 >>> 4)) rfl rfl (fun _ => rfl) (fun _ => bin_shr_u8 _ _ 4#64) rfl rfl ?_
  refine lx_yield (hY.b (k := 2 * i) (NB_hi bs i (by omega)) w) (okJ _) (okX _) rfl rfl rfl rfl rfl ?_ ?_
  ·skip
   refine lx_nil ?_
   refine ⟨EE [], ?_⟩
   refine lx_un rfl (fun _ => un_not _) rfl rfl ?_
   refine rC2 ?_
   refine lx_bin (v := U8 (bs.getD i 0 % 16#8)) rfl rfl (fun _ => rfl) (fun _ => bin_rem_u8 _ _ 16#8 (by decide)) rfl rfl ?_
   refine lx_yield (hY.b (k := 2 * i + 1) (NB_lo bs i (by omega)) w) (okJ _) (okX _) rfl rfl rfl rfl rfl ?_ ?_
   ·skip
    refine lx_un rfl (fun _ => un_not _) rfl rfl ?_
    refine rC2 ?_
    refine x_false rfl ?_
    refine x_skip ?_
    refine x_plain (E := EE []) ?_
    refine lx_bin rfl rfl (fun _ => rfl) (fun _ => bin_add_i _ _ _ (by unfold inI; omega)) rfl rfl ?_
    refine rC2 ?_
    rw [show 2 * i + 1 + 1 = 2 * (i + 1) by omega]
    repeat (refine kblk_n ?_)
    refine kseq_n ?_
    exact ⟨rfl, ⟨i + 1, by omega⟩, _, by show bs.length - (i + 1) < bs.length - i; omega, rfl, ⟨rfl, rfl, rfl, rfl, rfl, trivial⟩, trivial⟩
   ·skip
    refine lx_un rfl (fun _ => un_not _) rfl rfl ?_
    refine rC2 ?_
    refine x_true rfl ?_
    refine rt ?_
    repeat (first | refine kseq_x ?_ | refine kblk_x ?_ | refine kblk_p rfl ?_ | refine kseq_ret ?_ | refine kblk_ret ?_)
    exact kret_none rfl (fun w hw => ⟨⟨_, rfl⟩, .inr ⟨_, drop_yof (hJx _) hw.rid⟩⟩)
  ·skip
   refine lx_nil ?_
   refine ⟨EE [3000000], ?_⟩
   refine lx_un rfl (fun _ => un_not _) rfl rfl ?_
   refine rC2 ?_
   refine lx_skip rfl rfl rfl ?_
   refine lx_skip rfl rfl rfl ?_
   refine lx_skip rfl rfl rfl ?_
   refine lx_skip rfl rfl rfl ?_
   refine lx_skip rfl rfl rfl ?_
   refine rC2 ?_
   refine x_true rfl ?_
   refine rt ?_
   repeat (first | refine kseq_x ?_ | refine kblk_x ?_ | refine kblk_p rfl ?_ | refine kseq_ret ?_ | refine kblk_ret ?_)
   exact kret_none rfl (fun w hw => ⟨⟨_, rfl⟩, .inr ⟨_, drop_yof (hJx _) hw.rid⟩⟩)
 ·simp only [decide_eq_false_iff_not] at hc
  obtain rfl : i = bs.length := by omega
  refine x_exit ?_
  repeat (first | refine kseq_x ?_ | refine kblk_x ?_ | refine kblk_p rfl ?_ | refine kseq_ret ?_ | refine kblk_ret ?_)
  refine kend_none rfl (fun w hw => ⟨⟨_, rfl⟩, .inl ?_⟩)
  have := drop_yof (hJ _) hw.rid
  rw [NB_len]
  exact this
end
section
open Go.RowKit
attribute [local simp] fe_len nm_len AS_len SS_len MONT_len RM_len FRs_len BYs_len by48_len PLl TWOl ONEl N1l IVPl HFPl RTPl FL_len SP_len
theorem rC3 {Q P : Prop} (k : Q) (h : Q → P := by intro k; (refine LY.run ?_); (repeat (first | refine y_move rfl rfl rfl ?_ | refine y_assign rfl rfl rfl ?_ | ((refine ra27 rfl rfl ?_ rfl rfl ?_); (· simp)) | ((refine sa185 hGF rfl rfl rfl ?_ ?_ (one_u64 _) rfl ?_); (· simp); (· simp)) | ((refine sa27 hGF rfl rfl rfl ?_ ?_ (one_u64 _) rfl ?_); (· simp); (· simp)))); (first | refine y_nil ?_ | refine LY.mk ?_); exact k) : P := h k
theorem fpow_calls (x : Zp) (e : Option Addr) (cap : Nat) (bs : List (BitVec 8)) (hlen : bs.length ≤ 1000000) (w : World) (hw : Gt w) (hby : BytesAt w e bs) :
  Calls Tryz.prog 156 [EV x, .slice e bs.length cap].toArray w (fun r w' => r = .returned (EV (x ^ BN bs bs.length)) ∧ Grow w w') := by
 have hGF : BOk Gt (pl w) := gt_low.plain hw
 refine calls_of_XM (G := Gt) Tryz.func156 rfl rfl (Hp (pl w) []) (hp_refl (pl w) trivial rides_true) (good_hp hGF) ?_
 refine xs_plain (E := EE [161]) ?_
 refine lb fun b2 => ?_
 refine la zv27 fun b4 => ?_
 refine lx_nil ?_
 refine xs_plain (E := EE [161]) ?_
 refine rC3 ?_
 refine lc ent160 (fsmall_pure _) ?_
 refine la zv185 fun b5 => ?_
 refine rC3 ?_
 refine xs_plain (E := EE [161]) ?_
 refine lx_iak 0 0 rfl rfl Tryz.underlying185 Tryz.sizeOf27 rfl (by decide) rfl rfl rfl ?_
 refine lx_loado 5 ((fe (x ^ 0)).map U64) rfl rfl Tryz.isAgg27 Tryz.sizeOf27 (by simp) (SP_load x 16 0 (by decide) (by decide) 0 rfl) rfl rfl ?_
 refine la zv27 fun b6 => ?_
 refine rC3 ?_
 refine x_seq ?_
 refine xs_plain (E := EE [161]) ?_
 refine rC3 ?_
 refine lx_callE rfl rfl ent161 rfl rfl (fun w' hw' => (fdigits_calls _ rfl w' (hGF.g _ _ _ hw')).mono fun e' w'' h => ?_)
 obtain ⟨c1, rfl, hg, h1, ho⟩ := h
 refine ⟨_, _, rfl, good_hp hGF, hw'.news rides_true hg [(33, c1, [.slice e bs.length cap], 22)] ?_ inj_one, ?_⟩
 ·intro n' b' c' t' hl
  rcases lkB_cons hl with ⟨_, e⟩ | ⟨_, hl⟩
  ·cases e; exact ⟨h1, ho⟩
  ·cases hl
 clear hw' hg h1 ho
 refine lx_nil ?_
 refine x_block ?_
 refine x_range (fun _ => pl w) (fun _ _ => pl w) (fun _ => hGF) (fun _ _ => hGF) (fun _ => rfl) (fun _ _ => rfl) rfl rfl ent162 (fdigits_seq c1 e cap bs hlen) (fun x hx => by obtain ⟨k, hk, rfl⟩ := List.mem_map.1 hx; rfl) rfl (fun k => [(2, b2, (fe x).map U64, 27), (4, b4, (List.replicate 6 0#64).map U64, 27), (5, b5, (SP x 16).map U64, 185), (6, b6, (fe (x ^ DN bs k)).map U64, 27), (33, c1, [.slice e bs.length cap], 22)]) (fun _ _ _ => False) ⟨rfl, rfl, rfl, by rw [DN]; rfl, rfl, trivial⟩ (fun k _ w' h => ⟨hp_cell (n := 33) rfl rfl w' h, hby.grow (h.below (fun _ h => h))⟩) ?_ ?_ (fun _ _ _ _ _ h => h.elim)
 ·intro k v hx R hR
  obtain ⟨hk, rfl⟩ := NB_at bs k v hx
  have hlt := NBv_lt bs k
  refine x_plain (E := EE [161]) ?_
  refine rC3 ?_
  refine ⟨rfl, _, rfl, ?_⟩
  refine x_block ?_
  refine x_seq ?_
  refine xs_plain (E := EE [161]) ?_
  refine rC3 ?_
  refine x_block ?_
  refine x_for (ι := { i : Nat // i ≤ 4 }) (fun j => [(5, .pointer (some ⟨b5, 0, none⟩)), (6, .pointer (some ⟨b6, 0, none⟩)), (7, U8 (NBv bs k)), (15, I (j.1 : Int))]) (fun j => [(2, b2, (fe x).map U64, 27), (4, b4, (List.replicate 6 0#64).map U64, 27), (5, b5, (SP x 16).map U64, 185), (6, b6, (fe (x ^ (2 ^ j.1 * DN bs k))).map U64, 27), (33, c1, [.slice e bs.length cap], 22)]) (fun j => 4 - j.1) ⟨0, by omega⟩ (hR (pl w) rfl hGF).2.1 ⟨rfl, rfl, rfl, rfl, trivial⟩ ⟨rfl, rfl, rfl, by rw [Nat.pow_zero, Nat.one_mul]; rfl, rfl, trivial⟩ ?_
  rintro ⟨j, hj⟩
  dsimp only
  refine xs_plain (E := EE [161]) ?_
  refine lx_bin rfl rfl (fun _ => rfl) (fun _ => bin_lss_i _ _ _) rfl rfl ?_
  refine lx_nil ?_
  refine x_seq ?_
  refine x_if rfl (fun hc => ?_) (fun hc => ?_)
  ·simp only [decide_eq_true_eq] at hc
   refine x_skip ?_
   refine x_seq ?_
   refine x_block ?_
   refine x_plain (E := EE [161]) ?_
   refine rC3 ?_
   refine lc ent125 (fsquare_pure _) ?_
   refine lx_storea 6 (hR (pl w) rfl hGF).2.1 rfl rfl rfl Tryz.sizeOf27 (by simp) (by simp) (one_u64 _) rfl ?_
   refine lx_nil ?_
   refine x_plain (E := EE [161]) ?_
   refine lx_bin rfl rfl (fun _ => rfl) (fun _ => bin_add_i _ _ _ (by unfold inI; omega)) rfl rfl ?_
   refine rC3 ?_
   repeat (refine kblk_n ?_)
   refine kseq_n ?_
   exact ⟨rfl, ⟨j + 1, by omega⟩, _, by show 4 - (j + 1) < 4 - j; omega, rfl, ⟨rfl, rfl, rfl, rfl, trivial⟩, ⟨rfl, rfl, rfl, by rw [← sq_step]; rfl, rfl, trivial⟩⟩
  ·obtain rfl : j = 4 := by simp at hc; omega
   refine x_exit ?_
   refine x_drawn (E := EE [161]) mixed (by kernel_rfl) (by kernel_rfl) (by kernel_rfl) ?_
   refine rC3 ?_
   refine lx_iak8 (6 * (NBv bs k).toNat) rfl rfl Tryz.underlying185 Tryz.sizeOf27 hlt (by omega) rfl rfl ?_
   refine lx_loado 5 ((fe (x ^ (NBv bs k).toNat)).map U64) rfl rfl Tryz.isAgg27 Tryz.sizeOf27 (by simp) (SP_load x 16 _ hlt (Nat.le_refl _) _ rfl) rfl rfl ?_
   refine lx_call rfl rfl ent35 (dig_step x bs k ▸ fmul_pure (x ^ (2 ^ 4 * DN bs k)) (x ^ (NBv bs k).toNat)) rfl rfl ?_
   refine lx_storea 6 (hR (pl w) rfl hGF).2.1 rfl rfl rfl Tryz.sizeOf27 (by simp) (by simp) (one_u64 _) rfl ?_
   refine lx_nil ?_
   repeat (refine kblk_n ?_)
   exact ⟨_, rfl, ⟨rfl, rfl, rfl, rfl, rfl, trivial⟩⟩
 ·intro D hD
  rw [NB_len, DN_two]
  refine xs_plain (E := EE [161]) ?_
  refine rC3 ?_
  refine lx_storea 4 hD rfl rfl rfl Tryz.sizeOf27 (by simp) (by simp) (one_u64 _) rfl ?_
  refine lx_nil ?_
  refine rt ?_
  exact kretM_1 (.inl rfl) rides_true (kret_own 4 rfl rfl rfl Tryz.isAgg27 Tryz.sizeOf27 (by simp) (fun w hw => ⟨rfl, hp_below hw⟩))
end
section
open Go.RowKit
attribute [local simp] fe_len nm_len AS_len SS_len MONT_len RM_len FRs_len BYs_len by48_len PLl TWOl ONEl N1l IVPl HFPl RTPl FL_len SP_len
theorem rC4 {Q P : Prop} (k : Q) (h : Q → P := by intro k; (refine LY.run ?_); (repeat (first | refine y_move rfl rfl rfl ?_ | refine y_assign rfl rfl rfl ?_ | ((refine ra27 rfl rfl ?_ rfl rfl ?_); (· simp)) | ((refine ra25 rfl rfl ?_ rfl rfl ?_); (· simp)) | ((refine sa27 hGF rfl rfl rfl ?_ ?_ (one_u64 _) rfl ?_); (· simp); (· simp)) | ((refine sa25 hGF rfl rfl rfl ?_ ?_ (one_u64 _) rfl ?_); (· simp); (· simp)) | refine y_ext rfl rfl rfl rfl ?_ | refine y_pick rfl rfl rfl rfl rfl ?_)); (first | refine y_nil ?_ | refine LY.mk ?_); exact k) : P := h k
theorem pC4 {Q P : Prop} (k : Q) (h : Q → P := by intro k; (refine xp ?_); (refine rC4 ?_); exact k) : P := h k
theorem fpow48 (x : Zp) (b : Nat) (t : TypeId) (bs : List (BitVec 8)) (h48 : bs.length = 48) (w : World) (hw : Gt w) (ho : OwnB w b (bs.map U8) t) :
  Calls Tryz.prog 156 [EV x, .slice (some ⟨b, 0, none⟩) 48 48].toArray w (fun r w' => r = .returned (EV (x ^ BN bs 48)) ∧ Grow w w') := by
 have h := fpow_calls x (some ⟨b, 0, none⟩) 48 bs (by omega) w hw (BytesAt.range ho.range)
 rw [h48] at h
 exact h
theorem lfrom_small (a : Option Addr) (len cap : Nat) (bs : List (BitVec 8)) (hl : bs.length = len) (h : len ≤ 48) (w : World) (hw : Gt w) (hby : BytesAt w a bs) :
  Calls Tryz.prog 34 [.slice a len cap].toArray w (fun e w' => e = .returned (.tuple #[NV (FRs bs bs.length), .bool true]) ∧ Grow w w') := by
 subst hl
 exact (from_calls a cap bs w hw hby).mono fun e w' ⟨he, hg⟩ => ⟨by rw [he, if_neg (by omega)], hg⟩
theorem fpower_pure (x : Zp) (n : List (BitVec 64)) (hn : n.length = 6) : Pure Tryz.prog Gt 141 [EV x, NV n] (EV (x ^ V n 6)) := by
 refine pure_X Tryz.func141 fun w hw hGF => ?_
 refine xp ?_
 refine lb fun b2 => ?_
 refine lb fun b3 => ?_
 refine la zv27 fun b4 => ?_
 refine lx_nil ?_
 refine xp ?_
 refine lx_loada 3 rfl rfl Tryz.isAgg25 Tryz.sizeOf25 (by first | (simp; done) | simp [hn]) rfl rfl ?_
 refine lx_call rfl rfl ent108 (bytesOf_pure _ (by first | (simp; done) | simp [hn])) rfl rfl ?_
 refine la zv102 fun b5 => ?_
 refine lx_storea 5 hGF rfl rfl rfl Tryz.sizeOf102 (by first | (simp; done) | simp [hn]) (by first | (simp; done) | simp [hn]) (one_u8 _) rfl ?_
 refine lx_nil ?_
 refine xs_drawn (E := EE []) mixed (by kernel_rfl) (by kernel_rfl) (by kernel_rfl) ?_
 refine lx_loada 2 rfl rfl Tryz.isAgg27 Tryz.sizeOf27 (by first | (simp; done) | simp [hn]) rfl rfl ?_
 refine lx_slarr1 (l := 0) (h' := 48) rfl Tryz.underlying102 Tryz.sizeOf5 rfl rfl (by omega) (by omega) rfl rfl ?_
 refine lx_callC rfl rfl ent156 (fun w hC hG => fpow48 x _ _ (BYs n 48) (by first | (simp; done) | simp [hn]) w hG (hC.own 5 _ _ _ rfl).1) rfl rfl ?_
 refine lx_storea 4 hGF rfl rfl rfl Tryz.sizeOf27 (by first | (simp; done) | simp [hn]) (by first | (simp; done) | simp [hn]) (one_u64 _) rfl ?_
 refine lx_nil ?_
 refine rt ?_
 exact kret_own 4 rfl rfl rfl Tryz.isAgg27 Tryz.sizeOf27 (by first | (simp; done) | simp [hn]) (fun w hw => ⟨by rw [BN_BYs n hn 48 rfl], hp_below hw⟩)
theorem finv_pure (x : Zp) : Pure Tryz.prog Gt 99 [EV x] (EV (x ^ (PP - 2))) := by
 refine pure_X Tryz.func99 fun w hw hGF => ?_
 refine xp ?_
 refine lb fun b1 => ?_
 refine la zv27 fun b2 => ?_
 refine lx_nil ?_
 refine pC4 ?_
 refine lx_gl hGF Tryz.isAgg25 Tryz.sizeOf25 (by simp) (fun _ h => h.g2) rfl rfl ?_
 refine lx_call rfl rfl ent141 (fpower_pure _ _ (by simp)) rfl rfl ?_
 refine rC4 ?_
 refine rt ?_
 exact kret_own 2 rfl rfl rfl Tryz.isAgg27 Tryz.sizeOf27 (by simp) (fun w hw => ⟨by rw [← IVP_val], hp_below hw⟩)
theorem ffrom_calls (e : Option Addr) (cap : Nat) (bs : List (BitVec 8)) (w : World) (hw : Gt w) (hby : BytesAt w e bs) :
  Calls Tryz.prog 61 [.slice e bs.length cap].toArray w (fun r w' => r = .returned (.tuple #[EV (FV bs), .bool (FO bs)]) ∧ Grow w w') := by
 have hGF : BOk Gt (pl w) := gt_low.plain hw
 refine calls_of_X (G := Gt) Tryz.func61 rfl rfl (Hp (pl w) []) (hp_refl (pl w) trivial rides_true) (good_hp hGF) ?_
 refine xp ?_
 refine la zv27 fun b2 => ?_
 refine rC4 ?_
 refine x_seq ?_
 refine pC4 ?_
 refine lx_len rfl (fun _ => len_slice Tryz.underlying22 _ _ _ _) rfl rfl ?_
 refine lx_bin rfl rfl (fun _ => rfl) (fun _ => bin_neq_i _ _ _) rfl rfl ?_
 refine lx_nil ?_
 refine x_if rfl (fun hc => ?_) (fun hc => ?_)
 ·have hc : ¬ bs.length = 48 := by simp at hc; omega
  refine xp ?_
  refine lx_builds zv27 Tryz.underlying27 (bm_one Tryz.sizeOf25) rfl rfl ?_
  refine rC4 ?_
  refine rt ?_
  exact kret_ct 2 rfl rfl rfl rfl Tryz.isAgg27 Tryz.sizeOf27 (by simp) (fun w hw => ⟨by rw [FV, FO, if_neg (fun h => hc h.1), decide_eq_false (fun h => hc h.1), ← fe_0] <;> rfl, hp_below hw⟩)
 ·have h48 : bs.length = 48 := by simp at hc; omega
  clear hc
  refine x_skip ?_
  refine pC4 ?_
  refine lx_callC rfl rfl ent34 (fun w' hC hG => lfrom_small e bs.length cap bs rfl (by omega) w' hG (hby.grow (hp_below hC))) rfl rfl ?_
  refine rC4 ?_
  refine la zv25 fun b4 => ?_
  refine rC4 ?_
  refine x_seq ?_
  refine pC4 ?_
  refine lx_un rfl (fun _ => un_not _) rfl rfl ?_
  refine rC4 ?_
  refine lx_gl hGF Tryz.isAgg25 Tryz.sizeOf25 (by simp) (fun _ h => h.g1) rfl rfl ?_
  refine lx_call rfl rfl ent112 (less_pure _ _ (by simp) (by simp)) rfl rfl ?_
  refine lx_un rfl (fun _ => un_not _) rfl rfl ?_
  refine rC4 ?_
  refine x_if rfl (fun hc => ?_) (fun hc => ?_)
  ·have e0 : V (FRs bs bs.length) 6 = BN bs 48 := by rw [V_FRs bs (by omega), h48]
   have hl : ¬ BN bs 48 < PP := by rw [LT_val, PL_val, e0] at hc; simpa using hc
   clear hc
   refine xp ?_
   refine lx_builds zv27 Tryz.underlying27 (bm_one Tryz.sizeOf25) rfl rfl ?_
   refine rC4 ?_
   refine rt ?_
   exact kret_ct 2 rfl rfl rfl rfl Tryz.isAgg27 Tryz.sizeOf27 (by simp) (fun w hw => ⟨by rw [FV, FO, if_neg (fun h => hl h.2), decide_eq_false (fun h => hl h.2), ← fe_0] <;> rfl, hp_below hw⟩)
  ·have e0 : V (FRs bs bs.length) 6 = BN bs 48 := by rw [V_FRs bs (by omega), h48]
   have hl : BN bs 48 < PP := by rw [LT_val, PL_val, e0] at hc; simpa using hc
   clear hc
   refine x_skip ?_
   refine pC4 ?_
   refine lx_call rfl rfl ent37 (felem_pure _ (by simp)) rfl rfl ?_
   refine rC4 ?_
   refine rt ?_
   exact kret_ct 2 rfl rfl rfl rfl Tryz.isAgg27 Tryz.sizeOf27 (by simp) (fun w hw => ⟨by rw [FV, FO, if_pos ⟨h48, hl⟩, decide_eq_true ⟨h48, hl⟩, V_FRs bs (by omega), h48] <;> rfl, hp_below hw⟩)
structure WSt (w : World) (bs : List (BitVec 8)) where
 (k : Nat) (a : Option Addr) (c : Nat)
 hk : k ≤ bs.length
 hc : bs.length - k ≤ c
 hb : BytesAt w a (bs.drop k)
 hm : k = 0 ∨ (bs.length - k) % 48 = 0
theorem piece_len (bs : List (BitVec 8)) (k cut : Nat) (h : cut ≤ bs.length - k) : ((bs.drop k).take cut).length = cut := by
 rw [List.length_take, List.length_drop]; omega
theorem fmulR_pure (y : Zp) : Pure Tryz.prog Gt 35 [EV y, NV TWO] (EV (y * RZ)) := TWO_fe ▸ fmul_pure y RZ
theorem felemP_pure (bs : List (BitVec 8)) (h : bs.length ≤ 48) : Pure Tryz.prog Gt 37 [NV (FRs bs bs.length)] (EV (zp (BN bs bs.length))) := V_FRs bs h ▸ felem_pure (FRs bs bs.length) (FRs_len _ _)
theorem fwide_calls (e : Option Addr) (cap : Nat) (bs : List (BitVec 8)) (hlen : bs.length ≤ 1000000) (hcap : bs.length ≤ cap) (w : World) (hw : Gt w) (hby : BytesAt w e bs) :
  Calls Tryz.prog 11 [.slice e bs.length cap].toArray w (fun r w' => r = .returned (EV (ZB bs)) ∧ Grow w w') := by
 have hGF : BOk Gt (pl w) := gt_low.plain hw
 refine calls_of_X (G := Gt) Tryz.func11 rfl rfl (Hp (pl w) []) (hp_refl (pl w) trivial rides_true) (good_hp hGF) ?_
 refine xp ?_
 refine la zv27 fun b2 => ?_
 refine lx_nil ?_
 refine xp ?_
 refine la zv27 fun b3 => ?_
 refine lx_nil ?_
 refine x_seq ?_
 refine x_block ?_
 refine x_for (ι := WSt w bs) (fun x => [(0, .slice x.a (bs.length - x.k) x.c), (2, .pointer (some ⟨b2, 0, none⟩)), (3, .pointer (some ⟨b3, 0, none⟩))]) (fun x => [(2, b2, (List.replicate 6 0#64).map U64, 27), (3, b3, (fe (zp (BN bs x.k))).map U64, 27)]) (fun x => (bs.length - x.k)) ⟨0, e, cap, Nat.zero_le _, hcap, hby, .inl rfl⟩ hGF ⟨rfl, rfl, rfl, trivial⟩ ⟨rfl, by rw [BN, zp_0, fe_0]; rfl, trivial⟩ ?_
 intro x
 refine x_seq ?_
 refine pC4 ?_
 refine lx_len rfl (fun _ => len_slice Tryz.underlying22 _ _ _ _) rfl rfl ?_
 refine lx_bin rfl rfl (fun _ => rfl) (fun _ => bin_gtr_i _ _ _) rfl rfl ?_
 refine lx_nil ?_
 refine x_if rfl (fun hc => ?_) (fun hc => ?_)
 ·have hn : 0 < (bs.length - x.k) := by simp at hc; omega
  clear hc
  have hlenx := x.hk
  have hcut := cut_rest hn
  have hnext : BytesAt w (if x.c = (((bs.length - x.k) - 1) % 48 + 1) then x.a else x.a.map (·.add ((((bs.length - x.k) - 1) % 48 + 1) * 1))) (bs.drop (x.k + (((bs.length - x.k) - 1) % 48 + 1))) := by
   have := x.hb.drop (cap := x.c) (l := (((bs.length - x.k) - 1) % 48 + 1)) (by rw [List.length_drop]; exact x.hc) (by omega)
   rw [List.drop_drop] at this
   exact this
  have hstep : zp (BN bs x.k) * RZ + zp (BN ((bs.drop x.k).take (((bs.length - x.k) - 1) % 48 + 1)) ((bs.drop x.k).take (((bs.length - x.k) - 1) % 48 + 1)).length) = zp (BN bs (x.k + (((bs.length - x.k) - 1) % 48 + 1))) := by
   rw [piece_len bs x.k _ hcut.2.1, BN_take]
   exact wide_step bs x.k _ (or_map id (cut_of hn) x.hm)
  refine x_skip ?_
  refine x_block ?_
  refine pC4 ?_
  refine lx_len rfl (fun _ => len_slice Tryz.underlying22 _ _ _ _) rfl rfl ?_
  refine lx_bin (v := I (((bs.length - x.k) - 1 : Nat) : Int)) rfl rfl (fun _ => rfl) (fun _ => (bin_sub_i _ _ _ (by unfold inI; omega)).trans (by rw [show ((bs.length - x.k : Nat) : Int) - 1 = ((bs.length - x.k - 1 : Nat) : Int) by omega])) rfl rfl ?_
  refine lx_bin (v := I ((((bs.length - x.k) - 1) % 48 : Nat) : Int)) rfl rfl (fun _ => rfl) (fun _ => bin_rem_i _ _ _ (by decide)) rfl rfl ?_
  refine lx_bin (v := I (((((bs.length - x.k) - 1) % 48 + 1) : Nat) : Int)) rfl rfl (fun _ => rfl) (fun _ => bin_add_i _ _ _ (by unfold inI; omega)) rfl rfl ?_
  refine rC4 ?_
  refine pC4 ?_
  refine lx_slsl (l := 0) (h' := (((bs.length - x.k) - 1) % 48 + 1)) rfl Tryz.underlying22 Tryz.sizeOf5 rfl rfl ⟨Nat.zero_le _, Nat.le_trans hcut.2.1 x.hc⟩ rfl rfl ?_
  refine lx_callC rfl rfl ent34 (fun w' hC hG => lfrom_small _ (((bs.length - x.k) - 1) % 48 + 1) _ ((bs.drop x.k).take (((bs.length - x.k) - 1) % 48 + 1)) (piece_len bs x.k _ hcut.2.1) hcut.2.2 w' hG ((x.hb.cut 0 (((bs.length - x.k) - 1) % 48 + 1) (by rw [List.length_drop]; exact x.hc)).grow (hp_below hC))) rfl rfl ?_
  refine rC4 ?_
  refine la zv25 fun b5 => ?_
  refine rC4 ?_
  refine xs_drawn (E := EE []) mixed (by kernel_rfl) (by kernel_rfl) (by kernel_rfl) ?_
  refine rC4 ?_
  refine lx_gl hGF Tryz.isAgg25 Tryz.sizeOf25 (by simp) (fun _ h => h.g0) rfl rfl ?_
  refine lx_buildS rfl (by simp) Tryz.underlying27 rfl Tryz.sizeOf25 zv27 rfl rfl ?_
  refine lc ent35 (fmulR_pure _) ?_
  refine rC4 ?_
  refine lx_call rfl rfl ent37 (felemP_pure ((bs.drop x.k).take (((bs.length - x.k) - 1) % 48 + 1)) (by rw [piece_len bs x.k _ hcut.2.1]; exact hcut.2.2)) rfl rfl ?_
  refine lc ent36 (fadd_pure _ _) ?_
  refine rC4 ?_
  refine x_plain (E := EE []) ?_
  refine rC4 ?_
  refine lx_slsl (l := (((bs.length - x.k) - 1) % 48 + 1)) (h' := (bs.length - x.k)) rfl Tryz.underlying22 Tryz.sizeOf5 rfl rfl ⟨hcut.2.1, x.hc⟩ rfl rfl ?_
  refine rC4 ?_
  repeat (refine kblk_n ?_)
  refine kseq_n ?_
  exact ⟨rfl, ⟨x.k + (((bs.length - x.k) - 1) % 48 + 1), _, x.c - (((bs.length - x.k) - 1) % 48 + 1), by have := x.hk; omega, by have := x.hc; omega, hnext, .inr (by rw [Nat.sub_add_eq]; exact hcut.1)⟩, _, by show bs.length - (x.k + (((bs.length - x.k) - 1) % 48 + 1)) < bs.length - x.k; omega, rfl, ⟨congrArg (fun n => some (Value.slice _ n _)) (Nat.sub_sub bs.length x.k (((bs.length - x.k) - 1) % 48 + 1)), rfl, rfl, trivial⟩, ⟨rfl, by rw [← hstep]; rfl, trivial⟩⟩
 ·have hn : x.k = bs.length := by simp at hc; have := x.hk; omega
  clear hc
  refine x_exit ?_
  refine pC4 ?_
  refine rt ?_
  exact kret_own 2 rfl rfl rfl Tryz.isAgg27 Tryz.sizeOf27 (by simp) (fun w hw => ⟨by rw [hn]; rfl, hp_below hw⟩)
end
end Go.Proofs.YthkmeodnlidpfaaGreatDoor
