/-
  The walk of the law LimbsProducts.
-/
import Derived.Test.YteohckfbphdngaaN10
import Derived.Test.YteohckfbphdngaaE24
namespace Go.Proofs.Yteohckfbphdngaa
open Go.RowKit
set_option maxRecDepth 100000
set_option maxHeartbeats 1000000
theorem eqg31 (op : BinOp) (x y : Operand) (xs ys : Array Value) (w : World) : (eqGuard op 31 x y (.agg xs) (.agg ys)).run Try.prog w = .ok () w := run_eqGuard_agg w op 31 x y xs ys (by kernel_rfl)
theorem ne31 (xs ys : List (BitVec 64)) (h : xs.length = 12) (h' : ys.length = 12) (e : xs = ys) (w : World) : (binOp .neq 31 (.agg (xs.map U64).toArray) (.agg (ys.map U64).toArray)).run Try.prog w = .ok (.bool false) w := by
  rw [bin_ne64 Try.underlying31 Try.underlying22 Try.sizeOf22 Try.isAgg22 xs ys h h' w, decide_eq_true e]; rfl
/-- The highest part halved. -/
def HV (a : List (BitVec 64)) : List (BitVec 64) := a.set 5 (a.getD 5 0 >>> 1)
theorem HV_len (a : List (BitVec 64)) (h : a.length = 6) : (HV a).length = 6 := by rw [HV, List.length_set, h]
theorem hv_aux {v x q W : Nat} (hv : v < q) (hx : 2 * x + 2 ≤ W) : 2 * (v + x * q) < q * W := by
  have h1 : (2 * x + 2) * q ≤ W * q := Nat.mul_le_mul_right _ hx
  rw [Nat.add_mul, Nat.mul_assoc, Nat.mul_comm W] at h1
  omega
theorem HV_val (a : List (BitVec 64)) (h : a.length = 6) : 2 * V (HV a) 6 < R6 := by
  have e : V (HV a) 6 = V a 5 + (a.getD 5 0 >>> 1).toNat * 2 ^ (64 * 5) := by
    refine (V_succ _ 5).trans ?_
    rw [HV, V_set_le _ _ _ 5 (Nat.le_refl _), getD_set_self _ _ _ (by rw [h]; decide)]
  have h1 := V_lt a 5
  have h2 : 2 * (a.getD 5 0 >>> 1).toNat + 2 ≤ 18446744073709551616 := by
    have := (a.getD 5 0).isLt
    rw [BitVec.toNat_ushiftRight, Nat.shiftRight_eq_div_pow]
    omega
  rw [e, R6_pow]
  clear e
  generalize 2 ^ (64 * 5) = q at *
  exact hv_aux h1 h2
theorem no_carry (a b : List (BitVec 64)) (ha : 2 * V a 6 < R6) (hb : 2 * V b 6 < R6) : (AS a b 6).2 = 0 ∧ V (AS a b 6).1 6 = V a 6 + V b 6 := by
  have h := AS_val6 a b
  rcases bit_cases _ (AS_c a b 6) with ⟨e, e1⟩ | ⟨e, e1⟩ <;> rw [e1] at h
  · exact ⟨e, by omega⟩
  · omega
/-- What is carried into part i. -/
def cw (x y : List (BitVec 64)) (i : Nat) : Nat := (V x i + V y i) / 2 ^ (64 * i)
theorem cw_le (x y : List (BitVec 64)) (i : Nat) : cw x y i ≤ 1 := by
  have h1 := V_lt x i
  have h2 := V_lt y i
  have : cw x y i < 2 := (Nat.div_lt_iff_lt_mul (Nat.two_pow_pos _)).2 (by omega)
  omega
theorem V_pref (l : List (BitVec 64)) (n i : Nat) (h : i ≤ n) : V l n % 2 ^ (64 * i) = V l i := by
  obtain ⟨k, hk⟩ := V_high l i n h
  rw [hk, Nat.add_mul_mod_self_left, Nat.mod_eq_of_lt (V_lt l i)]
theorem z_pref (x y z : List (BitVec 64)) (n : Nat) (hV : V x n + V y n = V z n) (i : Nat) (h : i ≤ n) : V z i = (V x i + V y i) % 2 ^ (64 * i) := by
  rw [← V_pref z n i h, ← hV, Nat.add_mod, V_pref x n i h, V_pref y n i h]
theorem cw_aux {vx vy vz c q W xi yi zi c' : Nat} (hq : 0 < q) (h0 : vx + vy = vz + c * q) (_hz : vz < q) (h1 : vx + xi * q + (vy + yi * q) = vz + zi * q + c' * (q * W)) : xi + yi + c = zi + c' * W := by
  have e : (xi + yi + c) * q = (zi + c' * W) * q := by
    rw [Nat.add_mul, Nat.add_mul, Nat.add_mul, Nat.mul_assoc c' W q, Nat.mul_comm W q]
    omega
  exact Nat.eq_of_mul_eq_mul_right hq e
theorem cw_step (x y z : List (BitVec 64)) (n : Nat) (hV : V x n + V y n = V z n) (i : Nat) (h : i < n) : (x.getD i 0).toNat + (y.getD i 0).toNat + cw x y i = (z.getD i 0).toNat + cw x y (i + 1) * 18446744073709551616 := by
  have a1 := z_pref x y z n hV i (by omega)
  have a2 := z_pref x y z n hV (i + 1) (by omega)
  have b1 : V x i + V y i = V z i + cw x y i * 2 ^ (64 * i) := by rw [a1, cw, Nat.mul_comm ((V x i + V y i) / 2 ^ (64 * i))]; exact (Nat.mod_add_div _ _).symm
  have b2 : V x (i + 1) + V y (i + 1) = V z (i + 1) + cw x y (i + 1) * 2 ^ (64 * (i + 1)) := by rw [a2, cw, Nat.mul_comm ((V x (i + 1) + V y (i + 1)) / 2 ^ (64 * (i + 1)))]; exact (Nat.mod_add_div _ _).symm
  rw [V, V, V, pow64] at b2
  exact cw_aux (Nat.two_pow_pos _) b1 (V_lt z i) b2
theorem cw_end (x y z : List (BitVec 64)) (n : Nat) (hV : V x n + V y n = V z n) : cw x y n = 0 := by
  rw [cw, hV]
  exact Nat.div_eq_of_lt (V_lt z n)
def CB (x y : List (BitVec 64)) (i : Nat) : BitVec 64 := BitVec.ofNat 64 (cw x y i)
theorem CB_val (x y : List (BitVec 64)) (i : Nat) : (CB x y i).toNat = cw x y i := by
  have := cw_le x y i
  rw [CB, BitVec.toNat_ofNat]
  omega
theorem CB_zero (x y : List (BitVec 64)) : CB x y 0 = 0 := by
  rw [CB, cw]
  simp [V]
theorem sum_eq (x y z : List (BitVec 64)) (n : Nat) (hV : V x n + V y n = V z n) (i : Nat) (h : i < n) : x.getD i 0 + y.getD i 0 + CB x y i = z.getD i 0 := by
  have hs := cw_step x y z n hV i h
  have hz := (z.getD i 0).isLt
  apply BitVec.eq_of_toNat_eq
  rw [BitVec.toNat_add, BitVec.toNat_add, CB_val]
  omega
theorem carry_eq (x y z : List (BitVec 64)) (n : Nat) (hV : V x n + V y n = V z n) (i : Nat) (h : i < n) : CB x y (i + 1) = if x.getD i 0 + y.getD i 0 + CB x y i < x.getD i 0 + y.getD i 0 then 1 else if x.getD i 0 + y.getD i 0 < x.getD i 0 then 1 else 0 := by
  have hs := cw_step x y z n hV i h
  have hz := (z.getD i 0).isLt
  have hx := (x.getD i 0).isLt
  have hy := (y.getD i 0).isLt
  have hc := cw_le x y i
  have hc' := cw_le x y (i + 1)
  apply BitVec.eq_of_toNat_eq
  rw [CB_val]
  simp only [BitVec.lt_def, BitVec.toNat_add, CB_val, Nat.reducePow]
  generalize (x.getD i 0).toNat = a at *
  generalize (y.getD i 0).toNat = b at *
  generalize (z.getD i 0).toNat = c at *
  generalize cw x y i = u at *
  generalize cw x y (i + 1) = v at *
  split
  · show v = 1; omega
  · split
    · show v = 1; omega
    · show v = 0; omega

theorem products_law (a b c : List (BitVec 64)) (ha : a.length = 6) (hb : b.length = 6) (hc_ : c.length = 6) : Pure Try.prog Gt 4 [.agg ((a).map U64).toArray, .agg ((b).map U64).toArray, .agg ((c).map U64).toArray] (.bool true) := by
  intro w hw
  have hGF : BOk Gt (pl w) := gt_low.plain hw
  refine calls_of_X (G := Gt) Try.func4 rfl rfl (Hp (pl w) []) (hp_refl (pl w) trivial rides_true) (good_hp hGF) ?_
  refine xs_plain (E := EE []) ?_
  refine lx_boxr 3 hGF rfl rfl rfl ?_
  intro b3
  refine lx_boxr 4 hGF rfl rfl rfl ?_
  intro b4
  refine lx_boxr 5 hGF rfl rfl rfl ?_
  intro b5
  refine lx_assign rfl rfl rfl ?_
  refine lx_nil ?_
  refine x_seq ?_
  refine xs_plain (E := EE []) ?_
  refine lx_call rfl rfl ent9 (known_pure) rfl rfl ?_
  refine lx_un (v := .bool false) rfl (fun _ => un_not _) rfl rfl ?_
  refine lx_nil ?_
  refine x_false rfl ?_
  refine x_skip ?_
  refine xs_plain (E := EE []) ?_
  refine lx_loada 3 rfl rfl Try.isAgg23 Try.sizeOf23 (by rw [List.length_map, ha]) rfl rfl ?_
  refine lx_loada 4 rfl rfl Try.isAgg23 Try.sizeOf23 (by rw [List.length_map, hb]) rfl rfl ?_
  refine lx_call rfl rfl ent15 (mul_pure a b ha hb) rfl rfl ?_
  refine lx_allocr 7 hGF zv31 rfl rfl ?_
  intro b7
  refine lx_storea 7 hGF rfl rfl rfl Try.sizeOf31 (by rw [List.length_map, MU_len _ _ _]) (by rw [List.length_map, List.length_replicate]) (one_u64 _) rfl ?_
  refine lx_nil ?_
  refine x_seq ?_
  refine xs_drawn (E := EE []) mixed (by kernel_rfl) (by kernel_rfl) (by kernel_rfl) ?_
  refine lx_loada 7 rfl rfl Try.isAgg31 Try.sizeOf31 (by rw [List.length_map, MU_len]) rfl rfl ?_
  refine lx_loada 3 rfl rfl Try.isAgg23 Try.sizeOf23 (by rw [List.length_map, ha]) rfl rfl ?_
  refine lx_loada 4 rfl rfl Try.isAgg23 Try.sizeOf23 (by rw [List.length_map, hb]) rfl rfl ?_
  refine lx_call rfl rfl ent16 (times_pure a b ha hb) rfl rfl ?_
  refine lx_bin (v := .bool false) rfl rfl (fun w => eqg31 _ _ _ _ _ w) (fun w => ne31 (MU a b 6) (MU a b 6) (MU_len _ _ _) (MU_len _ _ _) rfl w) rfl rfl ?_
  refine lx_move rfl rfl rfl ?_
  refine lx_loada 7 rfl rfl Try.isAgg31 Try.sizeOf31 (by rw [List.length_map, MU_len]) rfl rfl ?_
  refine lx_loada 4 rfl rfl Try.isAgg23 Try.sizeOf23 (by rw [List.length_map, hb]) rfl rfl ?_
  refine lx_loada 3 rfl rfl Try.isAgg23 Try.sizeOf23 (by rw [List.length_map, ha]) rfl rfl ?_
  refine lx_call rfl rfl ent15 (mul_pure b a hb ha) rfl rfl ?_
  refine lx_bin (v := .bool false) rfl rfl (fun w => eqg31 _ _ _ _ _ w) (fun w => ne31 (MU a b 6) (MU b a 6) (MU_len _ _ _) (MU_len _ _ _) (mu_comm a b) w) rfl rfl ?_
  refine lx_pick rfl rfl rfl rfl rfl ?_
  refine lx_nil ?_
  refine x_false rfl ?_
  refine x_skip ?_
  refine xs_drawK (E := EE []) (fun X => X = Hp (pl w) [(4, b4, b.map U64, 23)]) (mkB [41]) (rkB [39]) [0, 1, 2, 3, 4, 5, 6, 7, 8, 9] mixed rfl (by kernel_rfl) (by kernel_rfl) (by kernel_rfl) ?_
  refine lxk_s rfl rfl ?_
  refine lx_ia0 (5) rfl rfl Try.underlying23 Try.sizeOf22 (by omega) (by omega) rfl rfl ?_
  refine lx_nil ?_
  refine lxk_s rfl rfl ?_
  refine lx_loadm 3 U64 0 rfl rfl Try.isAgg22 (by rw [ha]; omega) rfl rfl ?_
  refine lx_nil ?_
  refine lxk_s rfl rfl ?_
  refine lx_bin rfl rfl (fun _ => rfl) (fun _ => bin_shr_u64 _ _ _) rfl rfl ?_
  refine lx_nil ?_
  refine lxk_s rfl rfl ?_
  refine lx_ia0 (5) rfl rfl Try.underlying23 Try.sizeOf22 (by omega) (by omega) rfl rfl ?_
  refine lx_nil ?_
  refine lxk_q (X := Hp (pl w) [(4, b4, b.map U64, 23)]) rfl (hp_sub rides_true ⟨rfl, trivial⟩) (fun _ => rfl) ?_
  refine lx_loadm 4 U64 0 rfl rfl Try.isAgg22 (by rw [hb]; omega) rfl rfl ?_
  refine lx_nil ?_
  refine lxk_s rfl rfl ?_
  refine lx_bin rfl rfl (fun _ => rfl) (fun _ => bin_shr_u64 _ _ _) rfl rfl ?_
  refine lx_nil ?_
  refine lxk_s rfl rfl ?_
  refine lx_ia0 (5) rfl rfl Try.underlying23 Try.sizeOf22 (by omega) (by omega) rfl rfl ?_
  refine lx_nil ?_
  refine lxk_e rfl ?_
  refine lx_storem 3 U64 hGF rfl rfl rfl Try.sizeOf22 rfl (by rw [ha]; omega) rfl ?_
  refine lx_nil ?_
  refine ⟨fun _ X hX _ => by subst hX; exact hp_sub rides_true ⟨rfl, trivial⟩, ?_⟩
  refine lxk_s rfl rfl ?_
  refine lx_ia0 (5) rfl rfl Try.underlying23 Try.sizeOf22 (by omega) (by omega) rfl rfl ?_
  refine lx_nil ?_
  refine lxk_e rfl ?_
  refine lx_storem 4 U64 hGF rfl rfl rfl Try.sizeOf22 rfl (by rw [hb]; omega) rfl ?_
  refine lx_nil ?_
  refine ⟨fun h => (by cases h), ?_⟩
  refine lxk_nil ?_
  rw [show a.set 5 (a.getD 5 0 >>> (1#64).toNat) = HV a from rfl, show b.set 5 (b.getD 5 0 >>> (1#64).toNat) = HV b from rfl]
  refine xs_plain (E := EE []) ?_
  refine lx_loada 3 rfl rfl Try.isAgg23 Try.sizeOf23 (by rw [List.length_map, HV_len a ha]) rfl rfl ?_
  refine lx_loada 4 rfl rfl Try.isAgg23 Try.sizeOf23 (by rw [List.length_map, HV_len b hb]) rfl rfl ?_
  refine lx_call rfl rfl ent10 (add_pure (HV a) (HV b) (HV_len a ha) (HV_len b hb)) rfl rfl ?_
  refine lx_move rfl rfl rfl ?_
  refine lx_ext rfl rfl rfl rfl ?_
  refine lx_ext rfl rfl rfl rfl ?_
  refine lx_allocr 8 hGF zv23 rfl rfl ?_
  intro b8
  refine lx_storea 8 hGF rfl rfl rfl Try.sizeOf23 (by rw [List.length_map, AS_len _ _ _]) (by rw [List.length_map, List.length_replicate]) (one_u64 _) rfl ?_
  refine lx_assign rfl rfl rfl ?_
  refine lx_nil ?_
  refine xs_drawA (E := EE [2999999]) [0, 1, 2, 3, 4, 5, 6, 7, 8] [⟨9, 10, 31, (List.replicate 12 0#64).map U64⟩, ⟨10, 11, 31, (List.replicate 12 0#64).map U64⟩, ⟨11, 12, 31, (List.replicate 12 0#64).map U64⟩] [12, 13, 14] mixed rfl (by kernel_rfl) (by kernel_rfl) (by kernel_rfl) (by kernel_rfl) (by kernel_rfl) (by kernel_rfl) (by decide) (by intro x hx; simp only [List.mem_cons, List.not_mem_nil, or_false] at hx; rcases hx with rfl | rfl | rfl <;> exact isAlloc_mk rfl zv31 rfl) ?_
  refine lx_loada 3 rfl rfl Try.isAgg23 Try.sizeOf23 (by rw [List.length_map, HV_len a ha]) rfl rfl ?_
  refine lx_loada 5 rfl rfl Try.isAgg23 Try.sizeOf23 (by rw [List.length_map, hc_]) rfl rfl ?_
  refine lx_call rfl rfl ent15 (mul_pure (HV a) c (HV_len a ha) hc_) rfl rfl ?_
  refine lx_loada 4 rfl rfl Try.isAgg23 Try.sizeOf23 (by rw [List.length_map, HV_len b hb]) rfl rfl ?_
  refine lx_loada 5 rfl rfl Try.isAgg23 Try.sizeOf23 (by rw [List.length_map, hc_]) rfl rfl ?_
  refine lx_call rfl rfl ent15 (mul_pure (HV b) c (HV_len b hb) hc_) rfl rfl ?_
  refine lx_loada 8 rfl rfl Try.isAgg23 Try.sizeOf23 (by rw [List.length_map, AS_len]) rfl rfl ?_
  refine lx_loada 5 rfl rfl Try.isAgg23 Try.sizeOf23 (by rw [List.length_map, hc_]) rfl rfl ?_
  refine lx_call rfl rfl ent15 (mul_pure (AS (HV a) (HV b) 6).1 c (AS_len _ _ _) hc_) rfl rfl ?_
  refine lx_nil ?_
  refine ⟨_, _, rfl, hGF, by intro x hx; simp only [List.mem_cons, List.not_mem_nil, or_false] at hx; rcases hx with rfl | rfl | rfl <;> rfl, by intro x hx; simp only [List.mem_cons, List.not_mem_nil, or_false] at hx; rcases hx with rfl | rfl | rfl <;> rfl, fun adr => ?_⟩
  refine lx_storea 10 hGF rfl rfl rfl Try.sizeOf31 (by rw [List.length_map, MU_len]) (by rw [List.length_map, List.length_replicate]) (one_u64 _) rfl ?_
  refine lx_storea 11 hGF rfl rfl rfl Try.sizeOf31 (by rw [List.length_map, MU_len]) (by rw [List.length_map, List.length_replicate]) (one_u64 _) rfl ?_
  refine lx_storea 12 hGF rfl rfl rfl Try.sizeOf31 (by rw [List.length_map, MU_len]) (by rw [List.length_map, List.length_replicate]) (one_u64 _) rfl ?_
  refine lx_nil ?_
  have hV : V (MU (HV a) c 6) 12 + V (MU (HV b) c 6) 12 = V (MU (AS (HV a) (HV b) 6).1 c 6) 12 := by rw [MU_val _ _ 6 (Nat.le_refl _), MU_val _ _ 6 (Nat.le_refl _), MU_val _ _ 6 (Nat.le_refl _), (no_carry (HV a) (HV b) (HV_val a ha) (HV_val b hb)).2, Nat.add_mul]
  have hX : (MU (HV a) c 6).length = 12 := MU_len _ _ _
  have hY : (MU (HV b) c 6).length = 12 := MU_len _ _ _
  have hZ : (MU (AS (HV a) (HV b) 6).1 c 6).length = 12 := MU_len _ _ _
  generalize (MU (HV a) c 6) = X at *
  generalize (MU (HV b) c 6) = Y at *
  generalize (MU (AS (HV a) (HV b) 6).1 c 6) = Z at *
  refine xs_plain (E := EE []) ?_
  refine lx_assign rfl rfl rfl ?_
  refine lx_nil ?_
  refine x_seq ?_
  refine xs_plain (E := EE []) ?_
  refine lx_assign rfl rfl rfl ?_
  refine lx_nil ?_
  refine x_block ?_
  refine x_for (ι := { i : Nat // i ≤ 12 }) (fun x => [(9, U64 (AS (HV a) (HV b) 6).2), (10, .pointer (some ⟨adr 10, 0, none⟩)), (11, .pointer (some ⟨adr 11, 0, none⟩)), (12, .pointer (some ⟨adr 12, 0, none⟩)), (13, U64 (CB X Y x.1)), (14, I (x.1 : Int))]) (fun x => [(10, adr 10, X.map U64, 31), (11, adr 11, Y.map U64, 31), (12, adr 12, Z.map U64, 31)]) (fun x => 12 - x.1) ⟨0, by omega⟩ hGF ⟨rfl, rfl, rfl, rfl, (show lk _ 13 = some (U64 (CB X Y 0)) by rw [CB_zero]; rfl), rfl, trivial⟩ ⟨rfl, rfl, rfl, trivial⟩ ?_
  rintro ⟨i, hi⟩
  dsimp only
  refine x_seq ?_
  refine xs_plain (E := EE []) ?_
  refine lx_move rfl rfl rfl ?_
  refine lx_bin rfl rfl (fun _ => rfl) (fun _ => bin_lss_i _ _ _) rfl rfl ?_
  refine lx_nil ?_
  refine x_if rfl (fun hc => ?_) (fun hc => ?_)
  · simp only [decide_eq_true_eq] at hc
    refine x_skip ?_
    refine x_seq ?_
    refine x_block ?_
    refine xs_drawn (E := EE []) mixed (by kernel_rfl) (by kernel_rfl) (by kernel_rfl) ?_
    refine lx_move rfl rfl rfl ?_
    refine lx_ia0 (i) rfl rfl Try.underlying31 Try.sizeOf22 (by omega) (by omega) rfl rfl ?_
    refine lx_loadm 10 U64 0 rfl rfl Try.isAgg22 (by rw [hX]; omega) rfl rfl ?_
    refine lx_move rfl rfl rfl ?_
    refine lx_ia0 (i) rfl rfl Try.underlying31 Try.sizeOf22 (by omega) (by omega) rfl rfl ?_
    refine lx_loadm 11 U64 0 rfl rfl Try.isAgg22 (by rw [hY]; omega) rfl rfl ?_
    refine lx_bin rfl rfl (fun _ => rfl) (fun _ => bin_add_u64 _ _ _) rfl rfl ?_
    refine lx_assign rfl rfl rfl ?_
    refine lx_nil ?_
    refine xs_plain (E := EE []) ?_
    refine lx_assign rfl rfl rfl ?_
    refine lx_nil ?_
    refine x_seq ?_
    refine xs_plain (E := EE []) ?_
    refine lx_move rfl rfl rfl ?_
    refine lx_move rfl rfl rfl ?_
    refine lx_ia0 (i) rfl rfl Try.underlying31 Try.sizeOf22 (by omega) (by omega) rfl rfl ?_
    refine lx_loadm 10 U64 0 rfl rfl Try.isAgg22 (by rw [hX]; omega) rfl rfl ?_
    refine lx_bin rfl rfl (fun _ => rfl) (fun _ => bin_lss_u64 _ _ _) rfl rfl ?_
    refine lx_nil ?_
    refine x_if rfl (fun hc => ?_) (fun hc => ?_)
    · simp only [decide_eq_true_eq] at hc
      have h1 := hc
      refine x_plain (E := EE []) ?_
      refine lx_assign rfl rfl rfl ?_
      refine lx_nil ?_
      refine xs_plain (E := EE []) ?_
      refine lx_move rfl rfl rfl ?_
      refine lx_move rfl rfl rfl ?_
      refine lx_bin rfl rfl (fun _ => rfl) (fun _ => bin_add_u64 _ _ _) rfl rfl ?_
      refine lx_assign rfl rfl rfl ?_
      refine lx_nil ?_
      refine x_seq ?_
      refine xs_plain (E := EE []) ?_
      refine lx_move rfl rfl rfl ?_
      refine lx_move rfl rfl rfl ?_
      refine lx_bin rfl rfl (fun _ => rfl) (fun _ => bin_lss_u64 _ _ _) rfl rfl ?_
      refine lx_nil ?_
      refine x_if rfl (fun hc => ?_) (fun hc => ?_)
      · simp only [decide_eq_true_eq] at hc
        have h2 := hc
        refine x_plain (E := EE []) ?_
        refine lx_assign rfl rfl rfl ?_
        refine lx_nil ?_
        refine x_seq ?_
        refine xs_plain (E := EE []) ?_
        refine lx_move rfl rfl rfl ?_
        refine lx_move rfl rfl rfl ?_
        refine lx_ia0 (i) rfl rfl Try.underlying31 Try.sizeOf22 (by omega) (by omega) rfl rfl ?_
        refine lx_loadm 12 U64 0 rfl rfl Try.isAgg22 (by rw [hZ]; omega) rfl rfl ?_
        refine lx_bin (v := .bool false) rfl rfl (fun _ => rfl) (fun w => (bin_neq_u64 _ _ _).trans (congrArg (fun b => Result.ok (Value.bool b) w) (bne_eq_false_iff_eq.2 (sum_eq X Y Z 12 hV i (by omega))))) rfl rfl ?_
        refine lx_nil ?_
        refine x_false rfl ?_
        refine x_skip ?_
        refine x_plain (E := EE []) ?_
        refine lx_move rfl rfl rfl ?_
        refine lx_assign rfl rfl rfl ?_
        refine lx_nil ?_
        refine x_plain (E := EE []) ?_
        refine lx_move rfl rfl rfl ?_
        refine lx_bin rfl rfl (fun _ => rfl) (fun _ => bin_add_i _ _ _ (by unfold inI; omega)) rfl rfl ?_
        refine lx_assign rfl rfl rfl ?_
        refine lx_nil ?_
        repeat (refine kblk_n ?_)
        refine kseq_n ?_
        exact ⟨rfl, ⟨i + 1, by omega⟩, _, by show 12 - (i + 1) < 12 - i; omega, rfl, ⟨rfl, rfl, rfl, rfl, (show lk _ 13 = some (U64 (CB X Y (i + 1))) by rw [carry_eq X Y Z 12 hV i (by omega)]; first | rw [if_pos h2]; rfl | rw [if_neg h2, if_pos h1]; rfl | rw [if_neg h2, if_neg h1]; rfl), rfl, trivial⟩, ⟨rfl, rfl, rfl, trivial⟩⟩
      · simp only [decide_eq_false_iff_not] at hc
        have h2 := hc
        refine x_skip ?_
        refine x_seq ?_
        refine xs_plain (E := EE []) ?_
        refine lx_move rfl rfl rfl ?_
        refine lx_move rfl rfl rfl ?_
        refine lx_ia0 (i) rfl rfl Try.underlying31 Try.sizeOf22 (by omega) (by omega) rfl rfl ?_
        refine lx_loadm 12 U64 0 rfl rfl Try.isAgg22 (by rw [hZ]; omega) rfl rfl ?_
        refine lx_bin (v := .bool false) rfl rfl (fun _ => rfl) (fun w => (bin_neq_u64 _ _ _).trans (congrArg (fun b => Result.ok (Value.bool b) w) (bne_eq_false_iff_eq.2 (sum_eq X Y Z 12 hV i (by omega))))) rfl rfl ?_
        refine lx_nil ?_
        refine x_false rfl ?_
        refine x_skip ?_
        refine x_plain (E := EE []) ?_
        refine lx_move rfl rfl rfl ?_
        refine lx_assign rfl rfl rfl ?_
        refine lx_nil ?_
        refine x_plain (E := EE []) ?_
        refine lx_move rfl rfl rfl ?_
        refine lx_bin rfl rfl (fun _ => rfl) (fun _ => bin_add_i _ _ _ (by unfold inI; omega)) rfl rfl ?_
        refine lx_assign rfl rfl rfl ?_
        refine lx_nil ?_
        repeat (refine kblk_n ?_)
        refine kseq_n ?_
        exact ⟨rfl, ⟨i + 1, by omega⟩, _, by show 12 - (i + 1) < 12 - i; omega, rfl, ⟨rfl, rfl, rfl, rfl, (show lk _ 13 = some (U64 (CB X Y (i + 1))) by rw [carry_eq X Y Z 12 hV i (by omega)]; first | rw [if_pos h2]; rfl | rw [if_neg h2, if_pos h1]; rfl | rw [if_neg h2, if_neg h1]; rfl), rfl, trivial⟩, ⟨rfl, rfl, rfl, trivial⟩⟩
    · simp only [decide_eq_false_iff_not] at hc
      have h1 := hc
      refine x_skip ?_
      refine xs_plain (E := EE []) ?_
      refine lx_move rfl rfl rfl ?_
      refine lx_move rfl rfl rfl ?_
      refine lx_bin rfl rfl (fun _ => rfl) (fun _ => bin_add_u64 _ _ _) rfl rfl ?_
      refine lx_assign rfl rfl rfl ?_
      refine lx_nil ?_
      refine x_seq ?_
      refine xs_plain (E := EE []) ?_
      refine lx_move rfl rfl rfl ?_
      refine lx_move rfl rfl rfl ?_
      refine lx_bin rfl rfl (fun _ => rfl) (fun _ => bin_lss_u64 _ _ _) rfl rfl ?_
      refine lx_nil ?_
      refine x_if rfl (fun hc => ?_) (fun hc => ?_)
      · simp only [decide_eq_true_eq] at hc
        have h2 := hc
        refine x_plain (E := EE []) ?_
        refine lx_assign rfl rfl rfl ?_
        refine lx_nil ?_
        refine x_seq ?_
        refine xs_plain (E := EE []) ?_
        refine lx_move rfl rfl rfl ?_
        refine lx_move rfl rfl rfl ?_
        refine lx_ia0 (i) rfl rfl Try.underlying31 Try.sizeOf22 (by omega) (by omega) rfl rfl ?_
        refine lx_loadm 12 U64 0 rfl rfl Try.isAgg22 (by rw [hZ]; omega) rfl rfl ?_
        refine lx_bin (v := .bool false) rfl rfl (fun _ => rfl) (fun w => (bin_neq_u64 _ _ _).trans (congrArg (fun b => Result.ok (Value.bool b) w) (bne_eq_false_iff_eq.2 (sum_eq X Y Z 12 hV i (by omega))))) rfl rfl ?_
        refine lx_nil ?_
        refine x_false rfl ?_
        refine x_skip ?_
        refine x_plain (E := EE []) ?_
        refine lx_move rfl rfl rfl ?_
        refine lx_assign rfl rfl rfl ?_
        refine lx_nil ?_
        refine x_plain (E := EE []) ?_
        refine lx_move rfl rfl rfl ?_
        refine lx_bin rfl rfl (fun _ => rfl) (fun _ => bin_add_i _ _ _ (by unfold inI; omega)) rfl rfl ?_
        refine lx_assign rfl rfl rfl ?_
        refine lx_nil ?_
        repeat (refine kblk_n ?_)
        refine kseq_n ?_
        exact ⟨rfl, ⟨i + 1, by omega⟩, _, by show 12 - (i + 1) < 12 - i; omega, rfl, ⟨rfl, rfl, rfl, rfl, (show lk _ 13 = some (U64 (CB X Y (i + 1))) by rw [carry_eq X Y Z 12 hV i (by omega)]; first | rw [if_pos h2]; rfl | rw [if_neg h2, if_pos h1]; rfl | rw [if_neg h2, if_neg h1]; rfl), rfl, trivial⟩, ⟨rfl, rfl, rfl, trivial⟩⟩
      · simp only [decide_eq_false_iff_not] at hc
        have h2 := hc
        refine x_skip ?_
        refine x_seq ?_
        refine xs_plain (E := EE []) ?_
        refine lx_move rfl rfl rfl ?_
        refine lx_move rfl rfl rfl ?_
        refine lx_ia0 (i) rfl rfl Try.underlying31 Try.sizeOf22 (by omega) (by omega) rfl rfl ?_
        refine lx_loadm 12 U64 0 rfl rfl Try.isAgg22 (by rw [hZ]; omega) rfl rfl ?_
        refine lx_bin (v := .bool false) rfl rfl (fun _ => rfl) (fun w => (bin_neq_u64 _ _ _).trans (congrArg (fun b => Result.ok (Value.bool b) w) (bne_eq_false_iff_eq.2 (sum_eq X Y Z 12 hV i (by omega))))) rfl rfl ?_
        refine lx_nil ?_
        refine x_false rfl ?_
        refine x_skip ?_
        refine x_plain (E := EE []) ?_
        refine lx_move rfl rfl rfl ?_
        refine lx_assign rfl rfl rfl ?_
        refine lx_nil ?_
        refine x_plain (E := EE []) ?_
        refine lx_move rfl rfl rfl ?_
        refine lx_bin rfl rfl (fun _ => rfl) (fun _ => bin_add_i _ _ _ (by unfold inI; omega)) rfl rfl ?_
        refine lx_assign rfl rfl rfl ?_
        refine lx_nil ?_
        repeat (refine kblk_n ?_)
        refine kseq_n ?_
        exact ⟨rfl, ⟨i + 1, by omega⟩, _, by show 12 - (i + 1) < 12 - i; omega, rfl, ⟨rfl, rfl, rfl, rfl, (show lk _ 13 = some (U64 (CB X Y (i + 1))) by rw [carry_eq X Y Z 12 hV i (by omega)]; first | rw [if_pos h2]; rfl | rw [if_neg h2, if_pos h1]; rfl | rw [if_neg h2, if_neg h1]; rfl), rfl, trivial⟩, ⟨rfl, rfl, rfl, trivial⟩⟩
  · obtain rfl : i = 12 := by simp at hc; omega
    refine x_exit ?_
    refine xs_plain (E := EE []) ?_
    refine lx_move rfl rfl rfl ?_
    refine lx_bin (v := .bool true) rfl rfl (fun _ => rfl) (fun w => (bin_eql_u64 _ _ _).trans (congrArg (fun b => Result.ok (Value.bool b) w) (beq_iff_eq.2 ((no_carry (HV a) (HV b) (HV_val a ha) (HV_val b hb)).1)))) rfl rfl ?_
    refine lx_move rfl rfl rfl ?_
    refine lx_move rfl rfl rfl ?_
    refine lx_bin (v := .bool true) rfl rfl (fun _ => rfl) (fun w => (bin_eql_u64 _ _ _).trans (congrArg (fun b => Result.ok (Value.bool b) w) (beq_iff_eq.2 (by rw [CB, cw_end X Y Z 12 hV])))) rfl rfl ?_
    refine lx_pick rfl rfl rfl rfl rfl ?_
    refine lx_assign rfl rfl rfl ?_
    refine lx_nil ?_
    refine x_ret ?_
    repeat (first | refine kseq_ret ?_ | refine kblk_ret ?_)
    exact kret_tmp rfl rfl (fun w hw => ⟨rfl, hp_below hw⟩)
end Go.Proofs.Yteohckfbphdngaa
