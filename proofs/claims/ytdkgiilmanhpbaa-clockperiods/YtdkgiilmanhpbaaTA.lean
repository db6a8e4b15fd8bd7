/-
  The program's clock: settings that are right, epochs, periods, deadlines.
-/
import Derived.Test.YtdkgiilmanhpbaaG0
import Derived.Test.YtdkgiilmanhpbaaX2
import Derived.Laws.Externs
namespace Go.Proofs.Ytdkgiilmanhpbaa
open Go.RowKit
set_option maxRecDepth 100000
set_option maxHeartbeats 1000000

theorem ent9 : Enters Try.prog 9 := fun _ _ => by kernel_rfl
theorem ent10 : Enters Try.prog 10 := fun _ _ => by kernel_rfl
theorem ent11 : Enters Try.prog 11 := fun _ _ => by kernel_rfl
theorem ent12 : Enters Try.prog 12 := fun _ _ => by kernel_rfl
theorem ent13 : Enters Try.prog 13 := fun _ _ => by kernel_rfl
theorem ent15 : Enters Try.prog 15 := fun _ _ => by kernel_rfl
theorem ent16 : Enters Try.prog 16 := fun _ _ => by kernel_rfl
theorem ent17 : Enters Try.prog 17 := fun _ _ => by kernel_rfl
theorem ent18 : Enters Try.prog 18 := fun _ _ => by kernel_rfl
/-- Settings, as they lie in cells. -/
structure Cf where
  g : List (BitVec 8)
  v : List (BitVec 8)
  s : BitVec 64
  e : BitVec 64
  z : Int
def Cf.cs (c : Cf) : List Value := c.g.map U8 ++ (c.v.map U8 ++ [U64 c.s, U64 c.e, I c.z])
structure Cf.Ok (c : Cf) : Prop where
  g : c.g.length = 32
  v : c.v.length = 4
theorem Cf.len {c : Cf} (h : c.Ok) : c.cs.length = 39 := by simp [Cf.cs, h.g, h.v]
theorem Cf.all {c : Cf} : ∀ j v, c.cs[j]? = some v → c.cs[0 + j]? = some v := fun j v hv => by rw [Nat.zero_add]; exact hv
theorem Cf.end_ {c : Cf} (h : c.Ok) (j : Nat) : c.cs[36 + j]? = [U64 c.s, U64 c.e, I c.z][j]? := by
  rw [Cf.cs, ← List.append_assoc, List.getElem?_append_right (by simp [h.g, h.v])]
  congr 1
  simp [h.g, h.v]
theorem Cf.at_s {c : Cf} (h : c.Ok) : c.cs[36]? = some (U64 c.s) := c.end_ h 0
theorem Cf.at_e {c : Cf} (h : c.Ok) : c.cs[37]? = some (U64 c.e) := c.end_ h 1
theorem Cf.at_z {c : Cf} (h : c.Ok) : c.cs[38]? = some (I c.z) := c.end_ h 2
def lenOk (n : BitVec 64) : Bool := decide (1#64 ≤ n) && decide (n ≤ 65536#64)
def sizeOk (z : Int) : Bool := decide (z ∈ [1, 2, 4, 8, 16, 32, 64, 128, 256, 512])
def Cf.rt (c : Cf) : Bool := lenOk c.s && (lenOk c.e && sizeOk c.z)
def Cf.chk (c : Cf) : Int := if c.rt then 0 else 210
def Cf.ep (c : Cf) (n : BitVec 64) : BitVec 64 := if c.rt then n / c.s else 0#64
def Cf.pe (c : Cf) (n : BitVec 64) : BitVec 64 := if c.rt then n / c.s / c.e else 0#64
def Cf.tm (c : Cf) : BitVec 64 := if c.rt then c.s * c.e else 0#64
theorem chk_t {c : Cf} (h : c.rt = true) : c.chk = 0 := by unfold Cf.chk; rw [if_pos h]
theorem chk_f {c : Cf} (h : c.rt = false) : c.chk = 210 := by unfold Cf.chk; rw [h]; rfl
theorem ep_t {c : Cf} (h : c.rt = true) (n : BitVec 64) : c.ep n = n / c.s := by unfold Cf.ep; rw [if_pos h]
theorem ep_f {c : Cf} (h : c.rt = false) (n : BitVec 64) : c.ep n = 0#64 := by unfold Cf.ep; rw [h]; rfl
theorem pe_t {c : Cf} (h : c.rt = true) (n : BitVec 64) : c.pe n = n / c.s / c.e := by unfold Cf.pe; rw [if_pos h]
theorem pe_f {c : Cf} (h : c.rt = false) (n : BitVec 64) : c.pe n = 0#64 := by unfold Cf.pe; rw [h]; rfl
theorem tm_t {c : Cf} (h : c.rt = true) : c.tm = c.s * c.e := by unfold Cf.tm; rw [if_pos h]
theorem tm_f {c : Cf} (h : c.rt = false) : c.tm = 0#64 := by unfold Cf.tm; rw [h]; rfl
theorem len_pos {n : BitVec 64} (h : lenOk n = true) : n ≠ 0#64 := by
  intro e
  subst e
  revert h
  decide
theorem rt_s {c : Cf} (h : c.rt = true) : lenOk c.s = true := by unfold Cf.rt at h; rw [Bool.and_eq_true, Bool.and_eq_true] at h; exact h.1
theorem rt_e {c : Cf} (h : c.rt = true) : lenOk c.e = true := by unfold Cf.rt at h; rw [Bool.and_eq_true, Bool.and_eq_true] at h; exact h.2.1
/-- Numbers and-ed. -/
def andI (a b : Int) : Int := IntKind.wrap .i64 ((BitVec.ofInt 64 a &&& BitVec.ofInt 64 b).toNat : Int)
theorem bin_and_i {P : Program} (t : TypeId) (a b : Int) (w : World) : (binOp .and t (I a) (I b)).run P w = .ok (I (andI a b)) w := rfl
theorem andI_pow (z : Int) (h : 1 ≤ z) (h2 : z ≤ 512) : (andI z (z - 1) == 0) = sizeOk z := by
  obtain ⟨n, rfl⟩ := Int.eq_ofNat_of_zero_le (show 0 ≤ z by omega)
  have key : ∀ n : Fin 513, 1 ≤ n.1 → (andI (n.1 : Int) ((n.1 : Int) - 1) == 0) = sizeOk (n.1 : Int) := by decide +kernel
  exact key ⟨n, by omega⟩ (by simp; omega)
theorem size_lo {z : Int} (h : ¬ z ≥ 1) : sizeOk z = false := by
  unfold sizeOk
  rw [decide_eq_false_iff_not]
  intro hm
  simp only [List.mem_cons, List.not_mem_nil, or_false] at hm
  omega
theorem size_hi {z : Int} (h : ¬ z ≤ 512) : sizeOk z = false := by
  unfold sizeOk
  rw [decide_eq_false_iff_not]
  intro hm
  simp only [List.mem_cons, List.not_mem_nil, or_false] at hm
  omega
def sumS : BitVec 64 → List (BitVec 64) → BitVec 64 × Int
  | o, [] => (o, 0)
  | o, x :: r => if o.toNat + x.toNat < 18446744073709551616 then sumS (o + x) r else (0#64, 211)
theorem sumS_drop {l : List (BitVec 64)} {k : Nat} (o : BitVec 64) (hk : k < l.length) : sumS o (l.drop k) = if o.toNat + (l.getD k 0#64).toNat < 18446744073709551616 then sumS (o + l.getD k 0#64) (l.drop (k + 1)) else (0#64, 211) := by
  have e : l.getD k 0#64 = l[k] := by rw [List.getD_eq_getElem?_getD, List.getElem?_eq_getElem hk]; rfl
  rw [List.drop_eq_getElem_cons hk, e]
  rfl
def cy (x y : BitVec 64) : BitVec 64 := if x.toNat + y.toNat < 18446744073709551616 then 0#64 else 1#64
theorem add64 (x y : BitVec 64) (w : World) : (callFunc 19 [U64 x, U64 y, .int .u64 0].toArray).run Try.prog w = .ok (.value (.tuple #[U64 (x + y), U64 (cy x y)])) w := by
  show (callFunc 19 #[U64 x, U64 y, .int .u64 0]).run Try.prog w = _
  rw [run_callFunc_extern Try.func19 (by kernel_rfl) (by kernel_rfl) (by kernel_rfl) (e := add64Entry) (by kernel_rfl)]
  simp only [U64]
  rw [run_add64 _ _ _ (by omega) (by omega) (by omega) (by omega)]
  have h1 := x.isLt
  have h2 := y.isLt
  have e1 : ((x.toNat : Int) + (y.toNat : Int) + 0) % 18446744073709551616 = ((x + y).toNat : Int) := by rw [BitVec.toNat_add]; omega
  have e2 : ((x.toNat : Int) + (y.toNat : Int) + 0) / 18446744073709551616 = ((cy x y).toNat : Int) := by
    unfold cy
    split
    · show _ = (0 : Int); omega
    · show _ = (1 : Int); omega
  rw [e1, e2]
  rfl
/-- What a deadline is. -/
def Cf.dl (c : Cf) (n : BitVec 64) : BitVec 64 × Int := if c.rt then (if n.toNat + (c.s * c.e).toNat < 18446744073709551616 then (n + c.s * c.e, 0) else (0#64, 211)) else (0#64, 210)
theorem dl_f {c : Cf} (h : c.rt = false) (n : BitVec 64) : c.dl n = (0#64, 210) := by unfold Cf.dl; rw [h]; rfl
theorem dl_t {c : Cf} (h : c.rt = true) (n : BitVec 64) : c.dl n = sumS 0#64 [n, c.tm] := by
  unfold Cf.dl
  rw [if_pos h, tm_t h]
  have hn := n.isLt
  simp only [sumS, BitVec.zero_add, BitVec.toNat_ofNat, Nat.zero_mod, Nat.zero_add]
  rw [if_pos hn]
def mxU (a b : BitVec 64) : BitVec 64 := if a < b then b else a
section
variable {P : Program} {G : Cls} {ro : Option Nat} {ops : Array Oper} {N : Nat} {ds : List Deferred} {fs : List Nat} {Z : Fr → Cls → Prop} {F : Fr} {C : Cls} {rest : List Oper}
variable {d : Nat} {ty : TypeId} {pos : String} {af : Array Edge} {gd : Option (Nat × Bool)}
theorem lx_maxU {a1 a2 : TypeId} {x y : Operand} {i j : BitVec 64} (hx : evF F x = some (U64 i)) (hy : evF F y = some (U64 j))
    (hw : wantF ops F ⟨some d, .call { callee := .builtin .max, args := #[x, y], argTypes := #[a1, a2] }, ty, pos, af, gd⟩ = some true) (hd : Nat.blt d N = true)
    (h : Lx P G ro ops N ds (EE fs) Z rest ((d, U64 (mxU i j)) :: F) C) : Lx P G ro ops N ds (EE fs) Z (⟨some d, .call { callee := .builtin .max, args := #[x, y], argTypes := #[a1, a2] }, ty, pos, af, gd⟩ :: rest) F C :=
  lx_val (v := U64 (mxU i j)) rfl hw hd (fun _ h => by cases h) (fun a w ha _ => by
    have := run_max_int2 (P := P) w #[a1, a2] ty .u64 .u64 (i.toNat : Int) (j.toNat : Int)
    have e : (if (j.toNat : Int) > (i.toNat : Int) then (j.toNat : Int) else (i.toNat : Int)) = ((mxU i j).toNat : Int) := by
      unfold mxU
      have hl : i < j ↔ i.toNat < j.toNat := BitVec.lt_def
      by_cases hij : i < j
      · rw [if_pos hij, if_pos (by have := hl.1 hij; omega)]
      · rw [if_neg hij, if_neg (fun h => hij (hl.2 (by omega)))]
    rw [e] at this
    simp only [execOp, resolve, invoke, builtin, Sem.run_bind, Sem.run_pure, Result.andThen_ok, List.map_toArray, List.map_cons, List.map_nil, ha.ev hx, ha.ev hy, U64, this]) h
end
theorem isl_p (n : BitVec 64) (w : World) (hw : Gt w) : Calls Try.prog 16 [U64 n].toArray w (fun e w' => e = .returned (.bool (lenOk n)) ∧ Grow w w') := by
  have hGF : BOk Gt (pl w) := gt_low.plain hw
  refine calls_of_X (G := Gt) Try.func16 rfl rfl (Hp (pl w) []) (hp_refl (pl w) trivial rides_true) (good_hp hGF) ?_
  refine xs_plain (E := EE []) ?_
  refine lx_assign rfl rfl rfl ?_
  refine lx_nil ?_
  refine xs_plain (E := EE []) ?_
  refine lx_move rfl rfl rfl ?_
  rcases Bool.eq_false_or_eq_true (decide (1#64 ≤ n)) with h1 | h1
  · skip
    refine lx_binB true rfl rfl (fun _ => rfl) (fun _ => bin_geq_u64 _ n 1#64) (h1) rfl rfl ?_
    refine lx_move rfl rfl rfl ?_
    refine lx_move rfl rfl rfl ?_
    rcases Bool.eq_false_or_eq_true (decide (n ≤ 65536#64)) with h2 | h2
    · skip
      refine lx_binB true rfl rfl (fun _ => rfl) (fun _ => bin_leq_u64 _ n 65536#64) (h2) rfl rfl ?_
      refine lx_pick rfl rfl rfl rfl rfl ?_
      refine lx_assign rfl rfl rfl ?_
      refine lx_nil ?_
      refine x_ret ?_
      repeat (first | refine kseq_ret ?_ | refine kblk_ret ?_)
      exact kret_tmp rfl rfl (fun w' hw' => ⟨by unfold lenOk; rw [h1, h2]; rfl, hp_below hw'⟩)
    · skip
      refine lx_binB false rfl rfl (fun _ => rfl) (fun _ => bin_leq_u64 _ n 65536#64) (h2) rfl rfl ?_
      refine lx_pick rfl rfl rfl rfl rfl ?_
      refine lx_assign rfl rfl rfl ?_
      refine lx_nil ?_
      refine x_ret ?_
      repeat (first | refine kseq_ret ?_ | refine kblk_ret ?_)
      exact kret_tmp rfl rfl (fun w' hw' => ⟨by unfold lenOk; rw [h1, h2]; rfl, hp_below hw'⟩)
  · skip
    refine lx_binB false rfl rfl (fun _ => rfl) (fun _ => bin_geq_u64 _ n 1#64) (h1) rfl rfl ?_
    refine lx_move rfl rfl rfl ?_
    refine lx_skip rfl rfl rfl ?_
    refine lx_skip rfl rfl rfl ?_
    refine lx_pick rfl rfl rfl rfl rfl ?_
    refine lx_assign rfl rfl rfl ?_
    refine lx_nil ?_
    refine x_ret ?_
    repeat (first | refine kseq_ret ?_ | refine kblk_ret ?_)
    exact kret_tmp rfl rfl (fun w' hw' => ⟨by unfold lenOk; rw [h1]; rfl, hp_below hw'⟩)
theorem isz_p (z : Int) (w : World) (hw : Gt w) : Calls Try.prog 17 [I z].toArray w (fun e w' => e = .returned (.bool (sizeOk z)) ∧ Grow w w') := by
  have hGF : BOk Gt (pl w) := gt_low.plain hw
  refine calls_of_X (G := Gt) Try.func17 rfl rfl (Hp (pl w) []) (hp_refl (pl w) trivial rides_true) (good_hp hGF) ?_
  refine xs_plain (E := EE []) ?_
  refine lx_assign rfl rfl rfl ?_
  refine lx_nil ?_
  refine xs_plain (E := EE []) ?_
  refine lx_move rfl rfl rfl ?_
  rcases Bool.eq_false_or_eq_true (decide (z ≥ 1)) with h1 | h1
  · skip
    refine lx_binB true rfl rfl (fun _ => rfl) (fun _ => bin_geq_i _ z 1) (h1) rfl rfl ?_
    refine lx_move rfl rfl rfl ?_
    refine lx_move rfl rfl rfl ?_
    rcases Bool.eq_false_or_eq_true (decide (z ≤ 512)) with h2 | h2
    · skip
      refine lx_binB true rfl rfl (fun _ => rfl) (fun _ => bin_leq_i _ z 512) (h2) rfl rfl ?_
      refine lx_pick rfl rfl rfl rfl rfl ?_
      refine lx_move rfl rfl rfl ?_
      refine lx_move rfl rfl rfl ?_
      refine lx_move rfl rfl rfl ?_
      refine lx_bin (v := I (z - 1)) rfl rfl (fun _ => rfl) (fun _ => bin_sub_i _ _ _ (by unfold inI; simp at h1 h2; omega)) rfl rfl ?_
      refine lx_bin (v := I (andI z (z - 1))) rfl rfl (fun _ => rfl) (fun _ => bin_and_i _ _ _ _) rfl rfl ?_
      refine lx_bin (v := .bool (sizeOk z)) rfl rfl (fun _ => rfl) (fun _ => (bin_eql_i _ _ _).trans (by rw [andI_pow z (by simpa using h1) (by simpa using h2)])) rfl rfl ?_
      refine lx_pick rfl rfl rfl rfl rfl ?_
      refine lx_assign rfl rfl rfl ?_
      refine lx_nil ?_
      refine x_ret ?_
      repeat (first | refine kseq_ret ?_ | refine kblk_ret ?_)
      exact kret_tmp rfl rfl (fun w' hw' => ⟨rfl, hp_below hw'⟩)
    · skip
      refine lx_binB false rfl rfl (fun _ => rfl) (fun _ => bin_leq_i _ z 512) (h2) rfl rfl ?_
      refine lx_pick rfl rfl rfl rfl rfl ?_
      refine lx_move rfl rfl rfl ?_
      refine lx_skip rfl rfl rfl ?_
      refine lx_skip rfl rfl rfl ?_
      refine lx_skip rfl rfl rfl ?_
      refine lx_skip rfl rfl rfl ?_
      refine lx_skip rfl rfl rfl ?_
      refine lx_pick rfl rfl rfl rfl rfl ?_
      refine lx_assign rfl rfl rfl ?_
      refine lx_nil ?_
      refine x_ret ?_
      repeat (first | refine kseq_ret ?_ | refine kblk_ret ?_)
      exact kret_tmp rfl rfl (fun w' hw' => ⟨by rw [size_hi (of_decide_eq_false h2)]; rfl, hp_below hw'⟩)
  · skip
    refine lx_binB false rfl rfl (fun _ => rfl) (fun _ => bin_geq_i _ z 1) (h1) rfl rfl ?_
    refine lx_move rfl rfl rfl ?_
    refine lx_skip rfl rfl rfl ?_
    refine lx_skip rfl rfl rfl ?_
    refine lx_pick rfl rfl rfl rfl rfl ?_
    refine lx_move rfl rfl rfl ?_
    refine lx_skip rfl rfl rfl ?_
    refine lx_skip rfl rfl rfl ?_
    refine lx_skip rfl rfl rfl ?_
    refine lx_skip rfl rfl rfl ?_
    refine lx_skip rfl rfl rfl ?_
    refine lx_pick rfl rfl rfl rfl rfl ?_
    refine lx_assign rfl rfl rfl ?_
    refine lx_nil ?_
    refine x_ret ?_
    repeat (first | refine kseq_ret ?_ | refine kblk_ret ?_)
    exact kret_tmp rfl rfl (fun w' hw' => ⟨by rw [size_lo (of_decide_eq_false h1)]; rfl, hp_below hw'⟩)
theorem chk_p (c : Cf) (hc_ : c.Ok) (w : World) (hw : Gt w) : Calls Try.prog 9 [.agg c.cs.toArray].toArray w (fun e w' => e = .returned (I c.chk) ∧ Grow w w') := by
  have hGF : BOk Gt (pl w) := gt_low.plain hw
  refine calls_of_X (G := Gt) Try.func9 rfl rfl (Hp (pl w) []) (hp_refl (pl w) trivial rides_true) (good_hp hGF) ?_
  refine xs_plain (E := EE []) ?_
  refine lx_boxr 1 hGF rfl rfl rfl ?_
  intro b1
  refine lx_assign rfl rfl rfl ?_
  refine lx_nil ?_
  refine x_seq ?_
  refine xs_plain (E := EE []) ?_
  refine lx_fak 36 rfl Try.underlying27 rfl Try.sizeOf25 (by decide) rfl rfl rfl ?_
  refine lx_load (v := U64 c.s) rfl Try.isAgg25 (fun w' hw' => by have := (hp_row (n := 1) rfl w' hw') 36 _ (Cf.at_s hc_); rwa [Nat.zero_add] at this) rfl rfl ?_
  rcases Bool.eq_false_or_eq_true (lenOk c.s) with h1 | h1
  · skip
    refine lx_callB true rfl rfl ent16 (isl_p c.s) (h1) rfl rfl ?_
    refine lx_un rfl (fun _ => un_not _) rfl rfl ?_
    refine lx_move rfl rfl rfl ?_
    refine lx_fak 37 rfl Try.underlying27 rfl Try.sizeOf25 (by decide) rfl rfl rfl ?_
    refine lx_load (v := U64 c.e) rfl Try.isAgg25 (fun w' hw' => by have := (hp_row (n := 1) rfl w' hw') 37 _ (Cf.at_e hc_); rwa [Nat.zero_add] at this) rfl rfl ?_
    rcases Bool.eq_false_or_eq_true (lenOk c.e) with h2 | h2
    · skip
      refine lx_callB true rfl rfl ent16 (isl_p c.e) (h2) rfl rfl ?_
      refine lx_un rfl (fun _ => un_not _) rfl rfl ?_
      refine lx_pick rfl rfl rfl rfl rfl ?_
      refine lx_move rfl rfl rfl ?_
      refine lx_fak 38 rfl Try.underlying27 rfl Try.sizeOf3 (by decide) rfl rfl rfl ?_
      refine lx_load (v := I c.z) rfl Try.isAgg3 (fun w' hw' => by have := (hp_row (n := 1) rfl w' hw') 38 _ (Cf.at_z hc_); rwa [Nat.zero_add] at this) rfl rfl ?_
      rcases Bool.eq_false_or_eq_true (sizeOk c.z) with h3 | h3
      · skip
        refine lx_callB true rfl rfl ent17 (isz_p c.z) (h3) rfl rfl ?_
        refine lx_un rfl (fun _ => un_not _) rfl rfl ?_
        refine lx_pick rfl rfl rfl rfl rfl ?_
        refine lx_nil ?_
        refine x_false rfl ?_
        refine x_skip ?_
        refine xs_plain (E := EE []) ?_
        refine lx_assign rfl rfl rfl ?_
        refine lx_nil ?_
        refine x_ret ?_
        repeat (first | refine kseq_ret ?_ | refine kblk_ret ?_)
        exact kret_tmp rfl rfl (fun w' hw' => ⟨by unfold Cf.chk Cf.rt; rw [h1, h2, h3]; rfl, hp_below hw'⟩)
      · skip
        refine lx_callB false rfl rfl ent17 (isz_p c.z) (h3) rfl rfl ?_
        refine lx_un rfl (fun _ => un_not _) rfl rfl ?_
        refine lx_pick rfl rfl rfl rfl rfl ?_
        refine lx_nil ?_
        refine x_true rfl ?_
        refine xs_plain (E := EE []) ?_
        refine lx_assign rfl rfl rfl ?_
        refine lx_nil ?_
        refine x_ret ?_
        repeat (first | refine kseq_ret ?_ | refine kblk_ret ?_)
        exact kret_tmp rfl rfl (fun w' hw' => ⟨by unfold Cf.chk Cf.rt; rw [h1, h2, h3]; rfl, hp_below hw'⟩)
    · skip
      refine lx_callB false rfl rfl ent16 (isl_p c.e) (h2) rfl rfl ?_
      refine lx_un rfl (fun _ => un_not _) rfl rfl ?_
      refine lx_pick rfl rfl rfl rfl rfl ?_
      refine lx_move rfl rfl rfl ?_
      refine lx_skip rfl rfl rfl ?_
      refine lx_skip rfl rfl rfl ?_
      refine lx_skip rfl rfl rfl ?_
      refine lx_skip rfl rfl rfl ?_
      refine lx_pick rfl rfl rfl rfl rfl ?_
      refine lx_nil ?_
      refine x_true rfl ?_
      refine xs_plain (E := EE []) ?_
      refine lx_assign rfl rfl rfl ?_
      refine lx_nil ?_
      refine x_ret ?_
      repeat (first | refine kseq_ret ?_ | refine kblk_ret ?_)
      exact kret_tmp rfl rfl (fun w' hw' => ⟨by unfold Cf.chk Cf.rt; rw [h1, h2]; rfl, hp_below hw'⟩)
  · skip
    refine lx_callB false rfl rfl ent16 (isl_p c.s) (h1) rfl rfl ?_
    refine lx_un rfl (fun _ => un_not _) rfl rfl ?_
    refine lx_move rfl rfl rfl ?_
    refine lx_skip rfl rfl rfl ?_
    refine lx_skip rfl rfl rfl ?_
    refine lx_skip rfl rfl rfl ?_
    refine lx_skip rfl rfl rfl ?_
    refine lx_pick rfl rfl rfl rfl rfl ?_
    refine lx_move rfl rfl rfl ?_
    refine lx_skip rfl rfl rfl ?_
    refine lx_skip rfl rfl rfl ?_
    refine lx_skip rfl rfl rfl ?_
    refine lx_skip rfl rfl rfl ?_
    refine lx_pick rfl rfl rfl rfl rfl ?_
    refine lx_nil ?_
    refine x_true rfl ?_
    refine xs_plain (E := EE []) ?_
    refine lx_assign rfl rfl rfl ?_
    refine lx_nil ?_
    refine x_ret ?_
    repeat (first | refine kseq_ret ?_ | refine kblk_ret ?_)
    exact kret_tmp rfl rfl (fun w' hw' => ⟨by unfold Cf.chk Cf.rt; rw [h1]; rfl, hp_below hw'⟩)
theorem epo_p (c : Cf) (hc_ : c.Ok) (n : BitVec 64) (w : World) (hw : Gt w) : Calls Try.prog 10 [.agg c.cs.toArray, U64 n].toArray w (fun e w' => e = .returned (U64 (c.ep n)) ∧ Grow w w') := by
  have hGF : BOk Gt (pl w) := gt_low.plain hw
  refine calls_of_X (G := Gt) Try.func10 rfl rfl (Hp (pl w) []) (hp_refl (pl w) trivial rides_true) (good_hp hGF) ?_
  refine xs_plain (E := EE []) ?_
  refine lx_boxr 2 hGF rfl rfl rfl ?_
  intro b2
  refine lx_assign rfl rfl rfl ?_
  refine lx_nil ?_
  refine x_seq ?_
  refine xs_plain (E := EE []) ?_
  refine lx_loadr (cs := c.cs) rfl Try.isAgg27 Try.sizeOf27 (Cf.len hc_) (fun w' hw' j v hv => by have := (hp_row (n := 2) rfl w' hw') _ v (Cf.all j v hv); rwa [Nat.zero_add] at this) rfl rfl ?_
  refine lx_call rfl rfl ent9 (chk_p c hc_) rfl rfl ?_
  rcases Bool.eq_false_or_eq_true (c.rt) with hr | hr
  · skip
    refine lx_binB false rfl rfl (fun _ => rfl) (fun _ => bin_neq_i _ c.chk 0) (by rw [chk_t hr]; rfl) rfl rfl ?_
    refine lx_nil ?_
    refine x_false rfl ?_
    refine x_skip ?_
    refine xs_plain (E := EE []) ?_
    refine lx_move rfl rfl rfl ?_
    refine lx_fak 36 rfl Try.underlying27 rfl Try.sizeOf25 (by decide) rfl rfl rfl ?_
    refine lx_load (v := U64 c.s) rfl Try.isAgg25 (fun w' hw' => by have := (hp_row (n := 2) rfl w' hw') 36 _ (Cf.at_s hc_); rwa [Nat.zero_add] at this) rfl rfl ?_
    refine lx_bin (v := U64 (n / c.s)) rfl rfl (fun _ => rfl) (fun _ => bin_quo_u64 _ _ _ (len_pos (rt_s hr))) rfl rfl ?_
    refine lx_assign rfl rfl rfl ?_
    refine lx_nil ?_
    refine x_ret ?_
    repeat (first | refine kseq_ret ?_ | refine kblk_ret ?_)
    exact kret_tmp rfl rfl (fun w' hw' => ⟨by rw [ep_t hr], hp_below hw'⟩)
  · skip
    refine lx_binB true rfl rfl (fun _ => rfl) (fun _ => bin_neq_i _ c.chk 0) (by rw [chk_f hr]; rfl) rfl rfl ?_
    refine lx_nil ?_
    refine x_true rfl ?_
    refine xs_plain (E := EE []) ?_
    refine lx_assign rfl rfl rfl ?_
    refine lx_nil ?_
    refine x_ret ?_
    repeat (first | refine kseq_ret ?_ | refine kblk_ret ?_)
    exact kret_tmp rfl rfl (fun w' hw' => ⟨by rw [ep_f hr]; rfl, hp_below hw'⟩)
theorem per_p (c : Cf) (hc_ : c.Ok) (n : BitVec 64) (w : World) (hw : Gt w) : Calls Try.prog 11 [.agg c.cs.toArray, U64 n].toArray w (fun e w' => e = .returned (U64 (c.pe n)) ∧ Grow w w') := by
  have hGF : BOk Gt (pl w) := gt_low.plain hw
  refine calls_of_X (G := Gt) Try.func11 rfl rfl (Hp (pl w) []) (hp_refl (pl w) trivial rides_true) (good_hp hGF) ?_
  refine xs_plain (E := EE []) ?_
  refine lx_boxr 2 hGF rfl rfl rfl ?_
  intro b2
  refine lx_assign rfl rfl rfl ?_
  refine lx_nil ?_
  refine x_seq ?_
  refine xs_plain (E := EE []) ?_
  refine lx_loadr (cs := c.cs) rfl Try.isAgg27 Try.sizeOf27 (Cf.len hc_) (fun w' hw' j v hv => by have := (hp_row (n := 2) rfl w' hw') _ v (Cf.all j v hv); rwa [Nat.zero_add] at this) rfl rfl ?_
  refine lx_call rfl rfl ent9 (chk_p c hc_) rfl rfl ?_
  rcases Bool.eq_false_or_eq_true (c.rt) with hr | hr
  · skip
    refine lx_binB false rfl rfl (fun _ => rfl) (fun _ => bin_neq_i _ c.chk 0) (by rw [chk_t hr]; rfl) rfl rfl ?_
    refine lx_nil ?_
    refine x_false rfl ?_
    refine x_skip ?_
    refine xs_drawn (E := EE []) mixed (by kernel_rfl) (by kernel_rfl) (by kernel_rfl) ?_
    refine lx_loadr (cs := c.cs) rfl Try.isAgg27 Try.sizeOf27 (Cf.len hc_) (fun w' hw' j v hv => by have := (hp_row (n := 2) rfl w' hw') _ v (Cf.all j v hv); rwa [Nat.zero_add] at this) rfl rfl ?_
    refine lx_move rfl rfl rfl ?_
    refine lx_call rfl rfl ent10 (epo_p c hc_ n) rfl rfl ?_
    refine lx_fak 37 rfl Try.underlying27 rfl Try.sizeOf25 (by decide) rfl rfl rfl ?_
    refine lx_load (v := U64 c.e) rfl Try.isAgg25 (fun w' hw' => by have := (hp_row (n := 2) rfl w' hw') 37 _ (Cf.at_e hc_); rwa [Nat.zero_add] at this) rfl rfl ?_
    refine lx_bin (v := U64 (c.ep n / c.e)) rfl rfl (fun _ => rfl) (fun _ => bin_quo_u64 _ _ _ (len_pos (rt_e hr))) rfl rfl ?_
    refine lx_assign rfl rfl rfl ?_
    refine lx_nil ?_
    refine x_ret ?_
    repeat (first | refine kseq_ret ?_ | refine kblk_ret ?_)
    exact kret_tmp rfl rfl (fun w' hw' => ⟨by rw [pe_t hr, ep_t hr], hp_below hw'⟩)
  · skip
    refine lx_binB true rfl rfl (fun _ => rfl) (fun _ => bin_neq_i _ c.chk 0) (by rw [chk_f hr]; rfl) rfl rfl ?_
    refine lx_nil ?_
    refine x_true rfl ?_
    refine xs_plain (E := EE []) ?_
    refine lx_assign rfl rfl rfl ?_
    refine lx_nil ?_
    refine x_ret ?_
    repeat (first | refine kseq_ret ?_ | refine kblk_ret ?_)
    exact kret_tmp rfl rfl (fun w' hw' => ⟨by rw [pe_f hr]; rfl, hp_below hw'⟩)
theorem tim_p (c : Cf) (hc_ : c.Ok) (w : World) (hw : Gt w) : Calls Try.prog 12 [.agg c.cs.toArray].toArray w (fun e w' => e = .returned (U64 c.tm) ∧ Grow w w') := by
  have hGF : BOk Gt (pl w) := gt_low.plain hw
  refine calls_of_X (G := Gt) Try.func12 rfl rfl (Hp (pl w) []) (hp_refl (pl w) trivial rides_true) (good_hp hGF) ?_
  refine xs_plain (E := EE []) ?_
  refine lx_boxr 1 hGF rfl rfl rfl ?_
  intro b1
  refine lx_assign rfl rfl rfl ?_
  refine lx_nil ?_
  refine x_seq ?_
  refine xs_plain (E := EE []) ?_
  refine lx_loadr (cs := c.cs) rfl Try.isAgg27 Try.sizeOf27 (Cf.len hc_) (fun w' hw' j v hv => by have := (hp_row (n := 1) rfl w' hw') _ v (Cf.all j v hv); rwa [Nat.zero_add] at this) rfl rfl ?_
  refine lx_call rfl rfl ent9 (chk_p c hc_) rfl rfl ?_
  rcases Bool.eq_false_or_eq_true (c.rt) with hr | hr
  · skip
    refine lx_binB false rfl rfl (fun _ => rfl) (fun _ => bin_neq_i _ c.chk 0) (by rw [chk_t hr]; rfl) rfl rfl ?_
    refine lx_nil ?_
    refine x_false rfl ?_
    refine x_skip ?_
    refine xs_plain (E := EE []) ?_
    refine lx_fak 36 rfl Try.underlying27 rfl Try.sizeOf25 (by decide) rfl rfl rfl ?_
    refine lx_load (v := U64 c.s) rfl Try.isAgg25 (fun w' hw' => by have := (hp_row (n := 1) rfl w' hw') 36 _ (Cf.at_s hc_); rwa [Nat.zero_add] at this) rfl rfl ?_
    refine lx_fak 37 rfl Try.underlying27 rfl Try.sizeOf25 (by decide) rfl rfl rfl ?_
    refine lx_load (v := U64 c.e) rfl Try.isAgg25 (fun w' hw' => by have := (hp_row (n := 1) rfl w' hw') 37 _ (Cf.at_e hc_); rwa [Nat.zero_add] at this) rfl rfl ?_
    refine lx_bin rfl rfl (fun _ => rfl) (fun _ => bin_mul_u64 _ _ _) rfl rfl ?_
    refine lx_assign rfl rfl rfl ?_
    refine lx_nil ?_
    refine x_ret ?_
    repeat (first | refine kseq_ret ?_ | refine kblk_ret ?_)
    exact kret_tmp rfl rfl (fun w' hw' => ⟨by rw [tm_t hr], hp_below hw'⟩)
  · skip
    refine lx_binB true rfl rfl (fun _ => rfl) (fun _ => bin_neq_i _ c.chk 0) (by rw [chk_f hr]; rfl) rfl rfl ?_
    refine lx_nil ?_
    refine x_true rfl ?_
    refine xs_plain (E := EE []) ?_
    refine lx_assign rfl rfl rfl ?_
    refine lx_nil ?_
    refine x_ret ?_
    repeat (first | refine kseq_ret ?_ | refine kblk_ret ?_)
    exact kret_tmp rfl rfl (fun w' hw' => ⟨by rw [tm_f hr]; rfl, hp_below hw'⟩)
theorem sum_calls (l : List (BitVec 64)) (a : Option Addr) (cap : Nat) (hl : l.length ≤ 1000000) (w : World) (hw : Gt w) (hb : CellsAt w a (l.map U64)) : Calls Try.prog 18 [.slice a l.length cap].toArray w (fun e w' => e = .returned (.tuple #[U64 (sumS 0#64 l).1, I (sumS 0#64 l).2]) ∧ Grow w w') := by
  have hGF : BOk Gt (pl w) := gt_low.plain hw
  refine calls_of_X (G := Gt) Try.func18 rfl rfl (Hp (pl w) []) (hp_refl (pl w) trivial rides_true) (good_hp hGF) ?_
  refine xs_plain (E := EE []) ?_
  refine lx_assign rfl rfl rfl ?_
  refine lx_assign rfl rfl rfl ?_
  refine lx_nil ?_
  refine x_scope ?_
  refine xs_plain (E := EE []) ?_
  refine lx_assign rfl rfl rfl ?_
  refine lx_assign rfl rfl rfl ?_
  refine lx_nil ?_
  refine x_seq ?_
  refine x_label ?_
  refine x_seq ?_
  refine xs_plain (E := EE []) ?_
  refine lx_move rfl rfl rfl ?_
  refine lx_len rfl (fun _ => len_slice Try.underlying45 _ _ _ _) rfl rfl ?_
  refine lx_move rfl rfl rfl ?_
  refine lx_nil ?_
  refine x_block ?_
  refine x_for (ι := { x : Nat × BitVec 64 // x.1 ≤ l.length ∧ sumS 0#64 l = sumS x.2 (l.drop x.1) }) (fun x => [(0, .slice a l.length cap), (4, U64 x.1.2), (5, I 0), (10, .slice a l.length cap), (11, I (l.length : Int)), (12, I (x.1.1 : Int))]) (fun x => []) (fun x => l.length - x.1.1) ⟨(0, 0#64), Nat.zero_le _, rfl⟩ hGF ⟨rfl, rfl, rfl, rfl, rfl, rfl, trivial⟩ trivial ?_
  rintro ⟨⟨k, o⟩, hk, hs⟩
  dsimp only
  dsimp only at hk hs ⊢
  refine xs_plain (E := EE []) ?_
  refine lx_bin rfl rfl (fun _ => rfl) (fun _ => bin_lss_i _ _ _) rfl rfl ?_
  refine lx_nil ?_
  refine x_seq ?_
  refine x_if rfl (fun hc => ?_) (fun hc => ?_)
  · have hlt : k < l.length := by simp at hc; omega
    clear hc
    obtain ⟨ad, rfl, hcell⟩ := hb k _ (gm U64 l 0#64 k hlt)
    rw [sumS_drop o hlt] at hs
    generalize l.getD k 0#64 = x at hcell hs
    refine x_skip ?_
    refine x_seq ?_
    refine x_block ?_
    refine xs_plain (E := EE []) ?_
    refine lx_isA k rfl rfl Try.underlying45 Try.sizeOf25 rfl hlt rfl rfl ?_
    refine lx_load rfl Try.isAgg25 (fun w' h => ((hp_below h).cell (block_lt_of_cell hcell)).trans hcell) rfl rfl ?_
    refine lx_assign rfl rfl rfl ?_
    refine lx_nil ?_
    refine xs_plain (E := EE []) ?_
    refine lx_move rfl rfl rfl ?_
    refine lx_move rfl rfl rfl ?_
    refine lx_ext1 rfl rfl (fun w => add64 o x w) rfl rfl ?_
    refine lx_move rfl rfl rfl ?_
    refine lx_ext rfl rfl rfl rfl ?_
    refine lx_ext rfl rfl rfl rfl ?_
    refine lx_assign rfl rfl rfl ?_
    refine lx_assign rfl rfl rfl ?_
    refine lx_nil ?_
    refine xs_plain (E := EE []) ?_
    refine lx_move rfl rfl rfl ?_
    refine lx_nil ?_
    refine x_block ?_
    refine xs_plain (E := EE []) ?_
    rcases Nat.lt_or_ge (o.toNat + x.toNat) 18446744073709551616 with hov | hov
    · skip
      rw [if_pos hov] at hs
      refine lx_binB true rfl rfl (fun _ => rfl) (fun _ => bin_eql_u64 _ (cy o x) 0#64) (by unfold cy; rw [if_pos hov]; rfl) rfl rfl ?_
      refine lx_assign rfl rfl rfl ?_
      refine lx_nil ?_
      refine x_true rfl ?_
      refine x_plain (E := EE []) ?_
      refine lx_move rfl rfl rfl ?_
      refine lx_assign rfl rfl rfl ?_
      refine lx_nil ?_
      refine x_plain (E := EE []) ?_
      refine lx_bin (v := I (((k + 1 : Nat) : Int))) rfl rfl (fun _ => rfl) (fun _ => (bin_add_i _ _ _ (by unfold inI; omega)).trans (by rfl)) rfl rfl ?_
      refine lx_move rfl rfl rfl ?_
      refine lx_nil ?_
      repeat (refine kblk_n ?_)
      refine kseq_n ?_
      exact ⟨rfl, ⟨(k + 1, o + x), hlt, hs⟩, _, by show l.length - (k + 1) < l.length - k; omega, rfl, ⟨rfl, rfl, rfl, rfl, rfl, rfl, trivial⟩, trivial⟩
    · skip
      rw [if_neg (by omega)] at hs
      refine lx_binB false rfl rfl (fun _ => rfl) (fun _ => bin_eql_u64 _ (cy o x) 0#64) (by unfold cy; rw [if_neg (by omega)]; rfl) rfl rfl ?_
      refine lx_assign rfl rfl rfl ?_
      refine lx_nil ?_
      refine x_false rfl ?_
      refine xs_plain (E := EE []) ?_
      refine lx_assign rfl rfl rfl ?_
      refine lx_assign rfl rfl rfl ?_
      refine lx_nil ?_
      refine x_exit ?_
      refine xs_plain (E := EE []) ?_
      refine lx_move rfl rfl rfl ?_
      refine lx_move rfl rfl rfl ?_
      refine lx_assign rfl rfl rfl ?_
      refine lx_assign rfl rfl rfl ?_
      refine lx_nil ?_
      refine x_ret ?_
      repeat (first | refine kseq_ret ?_ | refine kblk_ret ?_ | refine kng_ret ?_)
      exact kret_tt rfl rfl rfl (fun w' hw' => ⟨by rw [hs]; rfl, hp_below hw'⟩)
  · obtain rfl : k = l.length := by simp at hc; omega
    clear hc
    refine x_exit ?_
    refine xs_plain (E := EE []) ?_
    refine lx_move rfl rfl rfl ?_
    refine lx_move rfl rfl rfl ?_
    refine lx_assign rfl rfl rfl ?_
    refine lx_assign rfl rfl rfl ?_
    refine lx_nil ?_
    refine x_ret ?_
    repeat (first | refine kseq_ret ?_ | refine kblk_ret ?_ | refine kng_ret ?_)
    exact kret_tt rfl rfl rfl (fun w' hw' => ⟨by rw [hs, List.drop_length]; rfl, hp_below hw'⟩)
theorem dea_p (c : Cf) (hc_ : c.Ok) (n : BitVec 64) (w : World) (hw : Gt w) : Calls Try.prog 13 [.agg c.cs.toArray, U64 n].toArray w (fun e w' => e = .returned (.tuple #[U64 (c.dl n).1, I (c.dl n).2]) ∧ Grow w w') := by
  have hGF : BOk Gt (pl w) := gt_low.plain hw
  refine calls_of_X (G := Gt) Try.func13 rfl rfl (Hp (pl w) []) (hp_refl (pl w) trivial rides_true) (good_hp hGF) ?_
  refine xs_plain (E := EE []) ?_
  refine lx_boxr 2 hGF rfl rfl rfl ?_
  intro b2
  refine lx_assign rfl rfl rfl ?_
  refine lx_assign rfl rfl rfl ?_
  refine lx_nil ?_
  refine x_seq ?_
  refine xs_plain (E := EE []) ?_
  refine lx_loadr (cs := c.cs) rfl Try.isAgg27 Try.sizeOf27 (Cf.len hc_) (fun w' hw' j v hv => by have := (hp_row (n := 2) rfl w' hw') _ v (Cf.all j v hv); rwa [Nat.zero_add] at this) rfl rfl ?_
  refine lx_call rfl rfl ent9 (chk_p c hc_) rfl rfl ?_
  refine lx_assign rfl rfl rfl ?_
  refine lx_nil ?_
  refine xs_plain (E := EE []) ?_
  refine lx_move rfl rfl rfl ?_
  rcases Bool.eq_false_or_eq_true (c.rt) with hr | hr
  · skip
    refine lx_binB false rfl rfl (fun _ => rfl) (fun _ => bin_neq_i _ c.chk 0) (by rw [chk_t hr]; rfl) rfl rfl ?_
    refine lx_nil ?_
    refine x_false rfl ?_
    refine x_skip ?_
    refine xs_plain (E := EE []) ?_
    refine lx_move rfl rfl rfl ?_
    refine lx_loadr (cs := c.cs) rfl Try.isAgg27 Try.sizeOf27 (Cf.len hc_) (fun w' hw' j v hv => by have := (hp_row (n := 2) rfl w' hw') _ v (Cf.all j v hv); rwa [Nat.zero_add] at this) rfl rfl ?_
    refine lx_call rfl rfl ent12 (tim_p c hc_) rfl rfl ?_
    refine lx_bslV 15 [U64 n, U64 c.tm] hGF rfl rfl rfl (by decide) (by decide) Try.underlying45 Try.sizeOf25 Try.zeroValue25 rfl rfl rfl ?_
    intro b15
    refine lx_callC rfl rfl ent18 (fun w' hw' hG => sum_calls [n, c.tm] _ 2 (by show 2 ≤ 1000000; decide) w' hG (CellsAt.range (hp_row (n := 15) rfl w' hw'))) rfl rfl ?_
    refine lx_ext rfl rfl rfl rfl ?_
    refine lx_ext rfl rfl rfl rfl ?_
    refine lx_assign rfl rfl rfl ?_
    refine lx_assign rfl rfl rfl ?_
    refine lx_nil ?_
    refine x_ret ?_
    repeat (first | refine kseq_ret ?_ | refine kblk_ret ?_)
    exact kret_tt rfl rfl rfl (fun w' hw' => ⟨by rw [dl_t hr]; rfl, hp_below hw'⟩)
  · skip
    refine lx_binB true rfl rfl (fun _ => rfl) (fun _ => bin_neq_i _ c.chk 0) (by rw [chk_f hr]; rfl) rfl rfl ?_
    refine lx_nil ?_
    refine x_true rfl ?_
    refine xs_plain (E := EE []) ?_
    refine lx_move rfl rfl rfl ?_
    refine lx_assign rfl rfl rfl ?_
    refine lx_assign rfl rfl rfl ?_
    refine lx_nil ?_
    refine x_ret ?_
    repeat (first | refine kseq_ret ?_ | refine kblk_ret ?_)
    exact kret_tt rfl rfl rfl (fun w' hw' => ⟨by rw [dl_f hr, chk_f hr]; rfl, hp_below hw'⟩)
theorem thr_p (a b : BitVec 64) (w : World) (hw : Gt w) : Calls Try.prog 15 [U64 a, U64 b].toArray w (fun e w' => e = .returned (U64 (mxU a b / 2#64)) ∧ Grow w w') := by
  have hGF : BOk Gt (pl w) := gt_low.plain hw
  refine calls_of_X (G := Gt) Try.func15 rfl rfl (Hp (pl w) []) (hp_refl (pl w) trivial rides_true) (good_hp hGF) ?_
  refine xs_plain (E := EE []) ?_
  refine lx_assign rfl rfl rfl ?_
  refine lx_nil ?_
  refine xs_plain (E := EE []) ?_
  refine lx_move rfl rfl rfl ?_
  refine lx_move rfl rfl rfl ?_
  refine lx_maxU rfl rfl rfl rfl ?_
  refine lx_bin (v := U64 (mxU a b / 2#64)) rfl rfl (fun _ => rfl) (fun _ => bin_quo_u64 _ _ _ (by decide)) rfl rfl ?_
  refine lx_assign rfl rfl rfl ?_
  refine lx_nil ?_
  refine x_ret ?_
  repeat (first | refine kseq_ret ?_ | refine kblk_ret ?_)
  exact kret_tmp rfl rfl (fun w' hw' => ⟨rfl, hp_below hw'⟩)
end Go.Proofs.Ytdkgiilmanhpbaa
