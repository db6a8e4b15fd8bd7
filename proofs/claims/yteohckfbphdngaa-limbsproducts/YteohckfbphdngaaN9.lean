/-
  The walk of the chapter's example.
-/
import Derived.Test.YteohckfbphdngaaN6
import Derived.Test.YteohckfbphdngaaN8
namespace Go.Proofs.Yteohckfbphdngaa
open Go.RowKit
set_option maxRecDepth 100000
set_option maxHeartbeats 1000000
section
variable {P : Program} {G : Cls} {ro : Option Nat} {ops : Array Oper} {N : Nat} {ds : List Deferred} {fs : List Nat} {Z : Fr → Cls → Prop} {F : Fr} {C : Cls} {rest : List Oper}
variable {d : Nat} {ty : TypeId} {pos : String} {af : Array Edge} {gd : Option (Nat × Bool)} {B : Bs} {L : Hl}
theorem run_build0 {t e : TypeId} {len : Nat} {z : List Value} {v : Value} (hu : P.underlying t = some (.array len e)) (hs : ∀ w, (sizeOf e).run P w = .ok 1 w) (hz : ∀ w, (zeroValue t).run P w = .ok (.agg z.toArray) w) (hl : 1 ≤ z.length)
    (hv : v.oneCell' = true) (w : World) : (Instr.build t #[(0, v)]).run P w = .ok (.agg (z.set 0 v).toArray) w := by
  have h := fill_row [v] 0 z (by simpa using hl) (by simpa using hv)
  simp only [Nat.mul_one] at h
  have e1 : (List.range' 0 [v].length).zip [v] = [(0, v)] := rfl
  have e2 : lay 0 [v] z = z.set 0 v := rfl
  rw [e1, e2] at h
  simp [Instr.build, hz, run_underlying hu, hs, Value.cells, h]
/-- An array of which the first element alone is told. -/
theorem lx_build0 {t e : TypeId} {n len : Nat} {x : Operand} {v : BitVec 64} (hx : evF F x = some (U64 v)) (hu : P.underlying t = some (.array len e)) (hs : ∀ w, (sizeOf e).run P w = .ok 1 w) (hz : ∀ w, (zeroValue t).run P w = .ok (.agg ((List.replicate n 0#64).map U64).toArray) w) (hn : Nat.ble 1 n = true)
    (hw : wantF ops F ⟨some d, .build t #[(0, x)], ty, pos, af, gd⟩ = some true) (hd : Nat.blt d N = true)
    (h : Lx P G ro ops N ds (EE fs) Z rest ((d, .agg (((List.replicate n 0#64).set 0 v).map U64).toArray) :: F) C) : Lx P G ro ops N ds (EE fs) Z (⟨some d, .build t #[(0, x)], ty, pos, af, gd⟩ :: rest) F C := by
  have hr : ∀ w, (Instr.build t (([(0, x)].map (·.1)).zip [U64 v]).toArray).run P w = .ok (.agg (((List.replicate n 0#64).set 0 v).map U64).toArray) w := fun w => by
    rw [List.map_set]
    exact run_build0 hu hs hz (by rw [List.length_map, List.length_replicate]; exact Nat.le_of_ble_eq_true hn) rfl w
  exact lx_build (ps := [(0, x)]) (vs := [U64 v]) (by simp only [List.map_cons, List.map_nil, evL, hx]) hr hw hd h
theorem bin_eql_bool (t : TypeId) (hu : P.underlying t = some .bool) (a b : Bool) (w : World) : (binOp .eql t (.bool a) (.bool b)).run P w = .ok (.bool (a == b)) w := by
  have h : ∀ d : Nat, (Op.equalIn (d + 1) t (.bool a) (.bool b)).run P w = .ok (a == b) w := fun d => by simp [Op.equalIn, run_underlying hu]
  simp only [binOp]
  simp [Op.equal, Op.maxDepth, h 9999]
end
theorem from_small (a : Option Addr) (len cap : Nat) (bs : List (BitVec 8)) (hlen : bs.length = len) (h : bs.length ≤ 48) (w : World) (hw : Gt w) (hby : BytesAt w a bs) :
    Calls Try.prog 20 [.slice a len cap].toArray w (fun e w' => e = .returned (.tuple #[.agg ((FRs bs bs.length).map U64).toArray, .bool true]) ∧ Grow w w') := by
  subst hlen
  refine (from_calls a cap bs w hw hby).mono fun e w' ⟨he, hg⟩ => ⟨?_, hg⟩
  rw [he, if_neg (by omega)]
abbrev Z6 : List (BitVec 64) := List.replicate 6 0#64
abbrev E6 (x : BitVec 64) : List (BitVec 64) := Z6.set 0 x
abbrev H6 : List (BitVec 64) := [0#64, 0#64, 0#64, 0#64, 0#64, 9223372036854775808#64]
abbrev T7 : List (BitVec 64) := (List.replicate 12 0#64).set 0 7#64
theorem k_d5 : (SS Z6 (E6 1#64) 6).1.getD 5 0 = 18446744073709551615#64 := by decide +kernel
theorem k_d1 : (SS Z6 (E6 1#64) 6).2 = 1#64 := by decide +kernel
theorem k_s : (AS (SS Z6 (E6 1#64) 6).1 (E6 1#64) 6).1 = Z6 := by decide +kernel
theorem k_c : (AS (SS Z6 (E6 1#64) 6).1 (E6 1#64) 6).2 = 1#64 := by decide +kernel
theorem k_f : (FRs [1#8, 2#8] 2).getD 0 0 = 258#64 := by decide +kernel
theorem k_v : V T7 12 = 7 ∧ V (E6 4#64) 6 = 4 ∧ V (E6 3#64) 6 = 3 ∧ V (E6 5#64) 6 = 5 ∧ V (E6 9#64) 6 = 9 := by decide +kernel
theorem k_m : (MOD T7 (E6 4#64)).getD 0 0 = 3#64 := by
  have h := MOD_val T7 (E6 4#64) rfl (by decide +kernel)
  rw [k_v.1, k_v.2.1] at h
  rw [V_inj 6 (MOD_len _ _) (show (E6 3#64).length = 6 from rfl) (h.trans k_v.2.2.1.symm)]
  rfl
theorem k_t : ¬ MONT (E6 3#64) H6 (E6 5#64) = E6 9#64 := fun e => by
  have h := (MONT_val (E6 3#64) H6 (E6 5#64) rfl rfl (by decide +kernel)).1
  rw [e, k_v.2.2.2.2, k_v.2.2.2.1] at h
  omega
theorem k_l : LT (E6 1#64) (E6 2#64) 6 = true := by decide +kernel
theorem k_o : ones (E6 5#64) 384 = [2, 0] := by decide +kernel
theorem k_b : BT (E6 5#64) = [[I 2], [I 0]] := by rw [BT, k_o]; rfl
/-- What is reckoned of the bits of 5. -/
def bv (k : Nat) : Int := if k = 0 then 0 else if k = 1 then 2 else 20
theorem bv_step (k : Nat) (x : List Value) (h : (BT (E6 5#64))[k]? = some x) : ∃ n : Int, x = [I n] ∧ 10 * bv k + n = bv (k + 1) ∧ 0 ≤ n ∧ n ≤ 2 ∧ 0 ≤ bv k ∧ bv k ≤ 20 := by
  rw [k_b] at h
  match k, h with
  | 0, h => simp at h; exact ⟨2, h.symm, by decide, by decide, by decide, by decide, by decide⟩
  | 1, h => simp at h; exact ⟨0, h.symm, by decide, by decide, by decide, by decide, by decide⟩
  | k + 2, h => simp at h

theorem ne23 (xs ys : List (BitVec 64)) (h : xs.length = 6) (h' : ys.length = 6) (w : World) : (binOp .neq 23 (.agg (xs.map U64).toArray) (.agg (ys.map U64).toArray)).run Try.prog w = .ok (.bool (!decide (xs = ys))) w := bin_ne64 Try.underlying23 Try.underlying22 Try.sizeOf22 Try.isAgg22 xs ys h h' w
theorem known_pure  : Pure Try.prog Gt 9 [] (.bool true) := by
  intro w hw
  have hGF : BOk Gt (pl w) := gt_low.plain hw
  refine calls_of_XM (G := Gt) Try.func9 rfl rfl (Hp (pl w) []) (hp_refl (pl w) trivial rides_true) (good_hp hGF) ?_
  refine xs_plain (E := EE [28]) ?_
  refine lx_assign rfl rfl rfl ?_
  refine lx_nil ?_
  refine xs_plain (E := EE [28]) ?_
  refine lx_buildz zv23 Try.underlying23 Try.sizeOf22 rfl rfl ?_
  refine lx_build0 (n := 6) rfl Try.underlying23 Try.sizeOf22 zv23 rfl rfl rfl ?_
  refine lx_call rfl rfl ent11 (sub_pure Z6 (E6 1#64) rfl rfl) rfl rfl ?_
  refine lx_move rfl rfl rfl ?_
  refine lx_ext rfl rfl rfl rfl ?_
  refine lx_ext rfl rfl rfl rfl ?_
  refine lx_allocr 1 hGF zv23 rfl rfl ?_
  intro b1
  refine lx_storea 1 hGF rfl rfl rfl Try.sizeOf23 (by rw [List.length_map, SS_len _ _ _]) (by rw [List.length_map, List.length_replicate]) (one_u64 _) rfl ?_
  refine lx_assign rfl rfl rfl ?_
  refine lx_nil ?_
  refine xs_plain (E := EE [28]) ?_
  refine lx_loada 1 rfl rfl Try.isAgg23 Try.sizeOf23 (by rw [List.length_map, SS_len]) rfl rfl ?_
  refine lx_build0 (n := 6) rfl Try.underlying23 Try.sizeOf22 zv23 rfl rfl rfl ?_
  refine lx_call rfl rfl ent10 (add_pure (SS Z6 (E6 1#64) 6).1 (E6 1#64) (SS_len _ _ _) rfl) rfl rfl ?_
  refine lx_move rfl rfl rfl ?_
  refine lx_ext rfl rfl rfl rfl ?_
  refine lx_ext rfl rfl rfl rfl ?_
  refine lx_allocr 3 hGF zv23 rfl rfl ?_
  intro b3
  refine lx_storea 3 hGF rfl rfl rfl Try.sizeOf23 (by rw [List.length_map, AS_len _ _ _]) (by rw [List.length_map, List.length_replicate]) (one_u64 _) rfl ?_
  refine lx_assign rfl rfl rfl ?_
  refine lx_nil ?_
  refine xs_plain (E := EE [28]) ?_
  refine lx_bsl 25 [1#8, 2#8] hGF rfl rfl rfl (by decide) (by decide) Try.underlying41 Try.sizeOf5 Try.zeroValue5 rfl rfl ?_
  intro b25
  refine lx_callC rfl rfl ent20 (fun w' hw' hG => from_small _ _ _ [1#8, 2#8] rfl (by decide) w' hG (BytesAt.range (hp_row (n := 25) rfl w' hw'))) rfl rfl ?_
  refine lx_move rfl rfl rfl ?_
  refine lx_ext rfl rfl rfl rfl ?_
  refine lx_ext rfl rfl rfl rfl ?_
  refine lx_allocr 5 hGF zv23 rfl rfl ?_
  intro b5
  refine lx_storea 5 hGF rfl rfl rfl Try.sizeOf23 (by rw [List.length_map, FRs_len _ _]) (by rw [List.length_map, List.length_replicate]) (one_u64 _) rfl ?_
  refine lx_assign rfl rfl rfl ?_
  refine lx_nil ?_
  refine xs_plain (E := EE [28]) ?_
  refine lx_build0 (n := 12) rfl Try.underlying31 Try.sizeOf22 zv31 rfl rfl rfl ?_
  refine lx_build0 (n := 6) rfl Try.underlying23 Try.sizeOf22 zv23 rfl rfl rfl ?_
  refine lx_call rfl rfl ent17 (mod_pure T7 (E6 4#64) rfl rfl) rfl rfl ?_
  refine lx_allocr 7 hGF zv23 rfl rfl ?_
  intro b7
  refine lx_storea 7 hGF rfl rfl rfl Try.sizeOf23 (by rw [List.length_map, MOD_len _ _]) (by rw [List.length_map, List.length_replicate]) (one_u64 _) rfl ?_
  refine lx_nil ?_
  refine xs_plain (E := EE [28]) ?_
  refine lx_build0 (n := 6) rfl Try.underlying23 Try.sizeOf22 zv23 rfl rfl rfl ?_
  refine lx_buildr (vs := H6.map U64) (n := 6) rfl rfl Try.underlying23 Try.sizeOf22 Try.zeroValue23 rfl rfl rfl rfl ?_
  refine lx_build0 (n := 6) rfl Try.underlying23 Try.sizeOf22 zv23 rfl rfl rfl ?_
  refine lx_call rfl rfl ent19 (mont_pure (E6 3#64) H6 (E6 5#64) rfl rfl rfl) rfl rfl ?_
  refine lx_allocr 8 hGF zv23 rfl rfl ?_
  intro b8
  refine lx_storea 8 hGF rfl rfl rfl Try.sizeOf23 (by rw [List.length_map, MONT_len _ _ _]) (by rw [List.length_map, List.length_replicate]) (one_u64 _) rfl ?_
  refine lx_nil ?_
  refine x_seq ?_
  refine xs_plain (E := EE [28]) ?_
  refine lx_ia0 (5) rfl rfl Try.underlying23 Try.sizeOf22 (by omega) (by omega) rfl rfl ?_
  refine lx_loadm 1 U64 0 rfl rfl Try.isAgg22 (by rw [SS_len]; omega) rfl rfl ?_
  refine lx_bin (v := .bool false) rfl rfl (fun _ => rfl) (fun w => (bin_neq_u64 _ _ _).trans (congrArg (fun b => Result.ok (Value.bool b) w) (bne_eq_false_iff_eq.2 k_d5))) rfl rfl ?_
  refine lx_nil ?_
  refine x_false rfl ?_
  refine x_skip ?_
  refine xs_plain (E := EE [28]) ?_
  refine lx_alloc 9 hGF Try.zeroValue3 rfl rfl ?_
  intro b9
  refine lx_store 9 hGF rfl rfl rfl Try.sizeOf3 rfl (by first | decide | simp) rfl ?_
  refine lx_nil ?_
  refine xs_plain (E := EE [28]) ?_
  refine lx_build0 (n := 6) rfl Try.underlying23 Try.sizeOf22 zv23 rfl rfl rfl ?_
  refine lx_callE rfl rfl ent28 rfl rfl (fun w' hw' => (bits_calls (E6 5#64) rfl w' (hGF.g _ _ _ hw')).mono fun e w'' h => ?_)
  obtain ⟨c1, rfl, hg, h1, ho⟩ := h
  refine ⟨_, _, rfl, good_hp hGF, hw'.news rides_true hg [(40, c1, (E6 5#64).map U64, 23)] ?_ inj_one, ?_⟩
  · intro n' b' c' t' hl
    rcases lkB_cons hl with ⟨_, e⟩ | ⟨_, hl⟩
    · cases e; exact ⟨h1, ho⟩
    · cases hl
  clear hw' hg h1 ho
  refine lx_assign rfl rfl rfl ?_
  refine lx_nil ?_
  refine x_seq ?_
  refine xs_plain (E := EE [28]) ?_
  refine lx_move rfl rfl rfl ?_
  refine lx_bin (v := .bool false) rfl rfl (fun _ => rfl) (fun w => bin_eq_fn Try.underlying57 _ _ _ w) rfl rfl ?_
  refine lx_nil ?_
  refine x_false rfl ?_
  refine x_skip ?_
  refine x_seq ?_
  refine xs_plain (E := EE [28]) ?_
  refine lx_move rfl rfl rfl ?_
  refine lx_nil ?_
  refine x_block ?_
  refine x_range (fun _ => pl w) (fun _ _ => pl w) (fun _ => hGF) (fun _ _ => hGF) (fun _ => rfl) (fun _ _ => rfl) rfl rfl ent36 (bits_seq c1 (E6 5#64) rfl) (fun x hx => by obtain ⟨k, hk, rfl⟩ := List.mem_map.1 hx; rfl) rfl (fun k => [(1, b1, (SS Z6 (E6 1#64) 6).1.map U64, 23), (3, b3, (AS (SS Z6 (E6 1#64) 6).1 (E6 1#64) 6).1.map U64, 23), (5, b5, (FRs [1#8, 2#8] 2).map U64, 23), (7, b7, (MOD T7 (E6 4#64)).map U64, 23), (8, b8, (MONT (E6 3#64) H6 (E6 5#64)).map U64, 23), (9, b9, [I (bv k)], 3), (40, c1, (E6 5#64).map U64, 23)]) (fun _ _ _ => False) ⟨rfl, rfl, rfl, rfl, rfl, rfl, rfl, trivial⟩ (fun k _ w' h => hp_row (n := 40) rfl w' h) ?_ ?_ (fun _ _ _ _ _ h => h.elim)
  · intro k x hx R hR
    obtain ⟨n, rfl, hst, hn0, hn1, hb0, hb1⟩ := bv_step k x hx
    refine x_plain (E := EE [28]) ?_
    refine lx_assign rfl rfl rfl ?_
    refine lx_nil ?_
    refine ⟨rfl, _, rfl, ?_⟩
    refine x_block ?_
    refine x_plain (E := EE [28]) ?_
    refine lx_loadl 9 rfl rfl rfl Try.isAgg3 rfl rfl ?_
    refine lx_bin rfl rfl (fun _ => rfl) (fun _ => bin_mul_i _ _ _ (by unfold inI; omega)) rfl rfl ?_
    refine lx_move rfl rfl rfl ?_
    refine lx_bin (v := I (bv (k + 1))) rfl rfl (fun _ => rfl) (fun _ => (bin_add_i _ _ _ (by unfold inI; omega)).trans (by rw [hst])) rfl rfl ?_
    refine lx_store 9 (hR (pl w) rfl hGF).2.1 rfl rfl rfl Try.sizeOf3 rfl (by first | decide | simp) rfl ?_
    refine lx_nil ?_
    exact ⟨_, rfl, ⟨rfl, rfl, rfl, rfl, rfl, rfl, rfl, trivial⟩⟩
  · intro D hD
    rw [BT_len, k_o]
    refine xs_plain (E := EE [28]) ?_
    refine lx_ia0 (5) rfl rfl Try.underlying23 Try.sizeOf22 (by omega) (by omega) rfl rfl ?_
    refine lx_loadm 1 U64 0 rfl rfl Try.isAgg22 (by rw [SS_len]; omega) rfl rfl ?_
    refine lx_bin (v := .bool true) rfl rfl (fun _ => rfl) (fun w => (bin_eql_u64 _ _ _).trans (congrArg (fun b => Result.ok (Value.bool b) w) (beq_iff_eq.2 (k_d5)))) rfl rfl ?_
    refine lx_move rfl rfl rfl ?_
    refine lx_move rfl rfl rfl ?_
    refine lx_bin (v := .bool true) rfl rfl (fun _ => rfl) (fun w => (bin_eql_u64 _ _ _).trans (congrArg (fun b => Result.ok (Value.bool b) w) (beq_iff_eq.2 (k_d1)))) rfl rfl ?_
    refine lx_pick rfl rfl rfl rfl rfl ?_
    refine lx_move rfl rfl rfl ?_
    refine lx_loada 3 rfl rfl Try.isAgg23 Try.sizeOf23 (by rw [List.length_map, AS_len]) rfl rfl ?_
    refine lx_buildz zv23 Try.underlying23 Try.sizeOf22 rfl rfl ?_
    refine lx_bin (v := .bool true) rfl rfl (fun w => eqg _ _ _ _ _ w) (fun w => (eq23 (AS (SS Z6 (E6 1#64) 6).1 (E6 1#64) 6).1 Z6 (AS_len _ _ _) rfl w).trans (by rw [decide_eq_true k_s])) rfl rfl ?_
    refine lx_pick rfl rfl rfl rfl rfl ?_
    refine lx_move rfl rfl rfl ?_
    refine lx_move rfl rfl rfl ?_
    refine lx_bin (v := .bool true) rfl rfl (fun _ => rfl) (fun w => (bin_eql_u64 _ _ _).trans (congrArg (fun b => Result.ok (Value.bool b) w) (beq_iff_eq.2 (k_c)))) rfl rfl ?_
    refine lx_pick rfl rfl rfl rfl rfl ?_
    refine lx_move rfl rfl rfl ?_
    refine lx_ia0 (0) rfl rfl Try.underlying23 Try.sizeOf22 (by omega) (by omega) rfl rfl ?_
    refine lx_loadm 5 U64 0 rfl rfl Try.isAgg22 (by rw [FRs_len]; omega) rfl rfl ?_
    refine lx_bin (v := .bool true) rfl rfl (fun _ => rfl) (fun w => (bin_eql_u64 _ _ _).trans (congrArg (fun b => Result.ok (Value.bool b) w) (beq_iff_eq.2 (k_f)))) rfl rfl ?_
    refine lx_pick rfl rfl rfl rfl rfl ?_
    refine lx_move rfl rfl rfl ?_
    refine lx_move rfl rfl rfl ?_
    refine lx_pick rfl rfl rfl rfl rfl ?_
    refine lx_move rfl rfl rfl ?_
    refine lx_ia0 (0) rfl rfl Try.underlying23 Try.sizeOf22 (by omega) (by omega) rfl rfl ?_
    refine lx_loadm 7 U64 0 rfl rfl Try.isAgg22 (by rw [MOD_len]; omega) rfl rfl ?_
    refine lx_bin (v := .bool true) rfl rfl (fun _ => rfl) (fun w => (bin_eql_u64 _ _ _).trans (congrArg (fun b => Result.ok (Value.bool b) w) (beq_iff_eq.2 (k_m)))) rfl rfl ?_
    refine lx_pick rfl rfl rfl rfl rfl ?_
    refine lx_move rfl rfl rfl ?_
    refine lx_loada 8 rfl rfl Try.isAgg23 Try.sizeOf23 (by rw [List.length_map, MONT_len]) rfl rfl ?_
    refine lx_build0 (n := 6) rfl Try.underlying23 Try.sizeOf22 zv23 rfl rfl rfl ?_
    refine lx_bin (v := .bool true) rfl rfl (fun w => eqg _ _ _ _ _ w) (fun w => (ne23 (MONT (E6 3#64) H6 (E6 5#64)) (E6 9#64) (MONT_len _ _ _) rfl w).trans (by rw [decide_eq_false k_t]; rfl)) rfl rfl ?_
    refine lx_pick rfl rfl rfl rfl rfl ?_
    refine lx_move rfl rfl rfl ?_
    refine lx_loadl 9 rfl rfl rfl Try.isAgg3 rfl rfl ?_
    refine lx_bin (v := .bool true) rfl rfl (fun _ => rfl) (fun w => (bin_eql_i _ _ _).trans (by rfl)) rfl rfl ?_
    refine lx_pick rfl rfl rfl rfl rfl ?_
    refine lx_move rfl rfl rfl ?_
    refine lx_build0 (n := 6) rfl Try.underlying23 Try.sizeOf22 zv23 rfl rfl rfl ?_
    refine lx_build0 (n := 6) rfl Try.underlying23 Try.sizeOf22 zv23 rfl rfl rfl ?_
    refine lx_call rfl rfl ent14 (less_pure (E6 1#64) (E6 2#64) rfl rfl) rfl rfl ?_
    refine lx_pick rfl rfl rfl rfl rfl ?_
    refine lx_assign rfl rfl rfl ?_
    refine lx_nil ?_
    refine x_ret ?_
    repeat (first | refine kseq_ret ?_ | refine kblk_ret ?_)
    exact kretM_1 (.inl rfl) rides_true (kret_tmp rfl rfl (fun w hw => ⟨by rw [k_l]; rfl, hp_below hw⟩))
end Go.Proofs.Yteohckfbphdngaa
