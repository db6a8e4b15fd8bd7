/-
  The engine, part 4: the operations that yield a value and leave memory alone.
-/
import Derived.Test.YteohckfbphdngaaE3
import Derived.Laws.Rows
import Derived.Deep.MidRow
namespace Go.Proofs.Yteohckfbphdngaa
open Go.RowKit

/-! ### Arithmetic on the typed numbers -/
section
variable {P : Program} {w : World}
theorem wrap_u (k : IntKind) (hk : k.signed = false) (n : Nat) : k.wrap (n : Int) = ((n % 2 ^ k.bits : Nat) : Int) := by
  simp [IntKind.wrap, hk]
theorem wrap_lt (k : IntKind) (hk : k.signed = false) (n : Nat) (h : n < 2 ^ k.bits) : k.wrap (n : Int) = (n : Int) := by
  rw [wrap_u k hk, Nat.mod_eq_of_lt h]
theorem wrap_bv (k : IntKind) (hk : k.signed = false) (x : BitVec k.bits) : k.wrap (x.toNat : Int) = (x.toNat : Int) := wrap_lt k hk _ x.isLt
theorem ofInt_toNat {w : Nat} (x : BitVec w) : BitVec.ofInt w (x.toNat : Int) = x := by
  rw [BitVec.ofInt_natCast, BitVec.ofNat_toNat]; simp
theorem wrap_sub_u (k : IntKind) (hk : k.signed = false) (a b : BitVec k.bits) : k.wrap ((a.toNat : Int) - (b.toNat : Int)) = ((a - b).toNat : Int) := by
  simp only [IntKind.wrap, hk, Bool.false_and]
  rw [if_neg (by simp), BitVec.toNat_sub]
  have hb := b.isLt
  have : ((2 ^ k.bits - b.toNat + a.toNat : Nat) : Int) = (a.toNat : Int) - b.toNat + 2 ^ k.bits := by
    have h2 : ((2 ^ k.bits - b.toNat : Nat) : Int) = (2 : Int) ^ k.bits - b.toNat := by
      rw [Int.ofNat_sub (by omega)]; simp
    rw [Int.natCast_add, h2]; omega
  rw [Int.natCast_emod, this]
  simp


theorem bin_add_u8 (t : TypeId) (a b : BitVec 8) : (binOp .add t (U8 a) (U8 b)).run P w = .ok (U8 (a + b)) w := by
  have h := wrap_u .u8 rfl (a.toNat + b.toNat)
  simp only [Int.natCast_add] at h
  simp only [binOp, U8, Op.intArith]
  simp [h, BitVec.toNat_add, IntKind.bits]
theorem bin_sub_u8 (t : TypeId) (a b : BitVec 8) : (binOp .sub t (U8 a) (U8 b)).run P w = .ok (U8 (a - b)) w := by
  show Result.ok (Value.int .u8 (IntKind.wrap .u8 ((a.toNat : Int) - (b.toNat : Int)))) w = _
  rw [show IntKind.wrap .u8 ((a.toNat : Int) - (b.toNat : Int)) = ((a - b).toNat : Int) from wrap_sub_u .u8 rfl a b]; rfl
theorem bin_mul_u8 (t : TypeId) (a b : BitVec 8) : (binOp .mul t (U8 a) (U8 b)).run P w = .ok (U8 (a * b)) w := by
  have h := wrap_u .u8 rfl (a.toNat * b.toNat)
  simp only [Int.natCast_mul] at h
  simp only [binOp, U8, Op.intArith]
  simp [h, BitVec.toNat_mul, IntKind.bits]
theorem bin_and_u8 (t : TypeId) (a b : BitVec 8) : (binOp .and t (U8 a) (U8 b)).run P w = .ok (U8 (a &&& b)) w := by
  have h : IntKind.wrap .u8 ((a &&& b : BitVec 8).toNat : Int) = ((a &&& b : BitVec 8).toNat : Int) := wrap_bv .u8 rfl (a &&& b)
  show Result.ok (Value.int .u8 (IntKind.wrap .u8 ((BitVec.ofInt 8 (a.toNat : Int) &&& BitVec.ofInt 8 (b.toNat : Int)).toNat : Int))) w = _
  rw [ofInt_toNat a, ofInt_toNat b, h]; rfl
theorem bin_or_u8 (t : TypeId) (a b : BitVec 8) : (binOp .or t (U8 a) (U8 b)).run P w = .ok (U8 (a ||| b)) w := by
  have h : IntKind.wrap .u8 ((a ||| b : BitVec 8).toNat : Int) = ((a ||| b : BitVec 8).toNat : Int) := wrap_bv .u8 rfl (a ||| b)
  show Result.ok (Value.int .u8 (IntKind.wrap .u8 ((BitVec.ofInt 8 (a.toNat : Int) ||| BitVec.ofInt 8 (b.toNat : Int)).toNat : Int))) w = _
  rw [ofInt_toNat a, ofInt_toNat b, h]; rfl
theorem bin_xor_u8 (t : TypeId) (a b : BitVec 8) : (binOp .xor t (U8 a) (U8 b)).run P w = .ok (U8 (a ^^^ b)) w := by
  have h : IntKind.wrap .u8 ((a ^^^ b : BitVec 8).toNat : Int) = ((a ^^^ b : BitVec 8).toNat : Int) := wrap_bv .u8 rfl (a ^^^ b)
  show Result.ok (Value.int .u8 (IntKind.wrap .u8 ((BitVec.ofInt 8 (a.toNat : Int) ^^^ BitVec.ofInt 8 (b.toNat : Int)).toNat : Int))) w = _
  rw [ofInt_toNat a, ofInt_toNat b, h]; rfl
theorem bin_andNot_u8 (t : TypeId) (a b : BitVec 8) : (binOp .andNot t (U8 a) (U8 b)).run P w = .ok (U8 (a &&& ~~~b)) w := by
  have h : IntKind.wrap .u8 ((a &&& ~~~b : BitVec 8).toNat : Int) = ((a &&& ~~~b : BitVec 8).toNat : Int) := wrap_bv .u8 rfl (a &&& ~~~b)
  show Result.ok (Value.int .u8 (IntKind.wrap .u8 ((BitVec.ofInt 8 (a.toNat : Int) &&& ~~~BitVec.ofInt 8 (b.toNat : Int)).toNat : Int))) w = _
  rw [ofInt_toNat a, ofInt_toNat b, h]; rfl
theorem un_xor_u8 (a : BitVec 8) : (Op.unary .xor (U8 a)).run P w = .ok (U8 (~~~a)) w := by
  have h : IntKind.wrap .u8 ((~~~a : BitVec 8).toNat : Int) = ((~~~a : BitVec 8).toNat : Int) := wrap_bv .u8 rfl (~~~a)
  show Result.ok (Value.int .u8 (IntKind.wrap .u8 ((BitVec.ofInt 8 (if IntKind.signed .u8 then -1 else IntKind.max .u8) ^^^ BitVec.ofInt 8 (a.toNat : Int)).toNat : Int))) w = _
  rw [ofInt_toNat a, show BitVec.ofInt 8 (if IntKind.signed .u8 then -1 else IntKind.max .u8) = BitVec.allOnes 8 from by decide, BitVec.allOnes_xor, h]; rfl
theorem shl_u8 (a : BitVec 8) (yk : IntKind) (s : Nat) : (Op.shift .shl .u8 (a.toNat : Int) yk (s : Int)).run P w = .ok (U8 (a <<< s)) w := by
  have h : IntKind.wrap .u8 ((a.toNat : Int) * 2 ^ (min s 8)) = ((a <<< s).toNat : Int) := by
    have h := wrap_u .u8 rfl (a.toNat * 2 ^ (min s 8))
    simp only [Int.natCast_mul, Int.natCast_pow] at h
    refine (show IntKind.wrap .u8 ((a.toNat : Int) * 2 ^ (min s 8)) = _ from h).trans ?_
    rw [BitVec.toNat_shiftLeft, Nat.shiftLeft_eq]
    congr 1
    show a.toNat * 2 ^ (min s 8) % 2 ^ 8 = _
    rcases Nat.le_total s 8 with h1 | h1
    · rw [Nat.min_eq_left h1]
    · rw [Nat.min_eq_right h1, Nat.mul_mod_left, show s = 8 + (s - 8) from by omega, Nat.pow_add, ← Nat.mul_assoc, Nat.mul_right_comm, Nat.mul_mod_left]
  show (if (s : Int) < 0 then _ else _ : Sem Value).run P w = _
  rw [if_neg (by omega)]
  show Result.ok (Value.int .u8 (IntKind.wrap .u8 ((a.toNat : Int) * 2 ^ (min (s : Int).toNat 8)))) w = _
  rw [Int.toNat_natCast, h]; rfl
theorem shr_u8 (a : BitVec 8) (yk : IntKind) (s : Nat) : (Op.shift .shr .u8 (a.toNat : Int) yk (s : Int)).run P w = .ok (U8 (a >>> s)) w := by
  have h : (a.toNat : Int).fdiv (2 ^ (min s 8)) = ((a >>> s).toNat : Int) := by
    rw [BitVec.toNat_ushiftRight, Nat.shiftRight_eq_div_pow]
    have h1 : (a.toNat : Int).fdiv (2 ^ (min s 8)) = ((a.toNat / 2 ^ (min s 8) : Nat) : Int) := by
      rw [Int.fdiv_eq_ediv_of_nonneg _ (by have := Nat.two_pow_pos (min s 8); exact Int.le_of_lt (by exact_mod_cast this))]
      simp
    rw [h1]
    congr 1
    rcases Nat.le_total s 8 with h2 | h2
    · rw [Nat.min_eq_left h2]
    · rw [Nat.min_eq_right h2, Nat.div_eq_of_lt a.isLt, Nat.div_eq_of_lt (Nat.lt_of_lt_of_le a.isLt (Nat.pow_le_pow_right (by omega) h2))]
  show (if (s : Int) < 0 then _ else _ : Sem Value).run P w = _
  rw [if_neg (by omega)]
  show Result.ok (Value.int .u8 ((a.toNat : Int).fdiv (2 ^ (min (s : Int).toNat 8)))) w = _
  rw [Int.toNat_natCast, h]; rfl
theorem bin_shl_u8 (t : TypeId) (a : BitVec 8) (s : BitVec 64) : (binOp .shl t (U8 a) (U64 s)).run P w = .ok (U8 (a <<< s.toNat)) w := shl_u8 a .u64 s.toNat
theorem bin_shr_u8 (t : TypeId) (a : BitVec 8) (s : BitVec 64) : (binOp .shr t (U8 a) (U64 s)).run P w = .ok (U8 (a >>> s.toNat)) w := shr_u8 a .u64 s.toNat
theorem bin_shl_i_u8 (t : TypeId) (a : BitVec 8) (s : Int) (hs : 0 ≤ s) : (binOp .shl t (U8 a) (I s)).run P w = .ok (U8 (a <<< s.toNat)) w := by
  obtain ⟨m, rfl⟩ := Int.eq_ofNat_of_zero_le hs
  exact shl_u8 a .i64 m
theorem bin_shr_i_u8 (t : TypeId) (a : BitVec 8) (s : Int) (hs : 0 ≤ s) : (binOp .shr t (U8 a) (I s)).run P w = .ok (U8 (a >>> s.toNat)) w := by
  obtain ⟨m, rfl⟩ := Int.eq_ofNat_of_zero_le hs
  exact shr_u8 a .i64 m
theorem bin_quo_u8 (t : TypeId) (a b : BitVec 8) (hb : b ≠ 0) : (binOp .quo t (U8 a) (U8 b)).run P w = .ok (U8 (a / b)) w := by
  have hb' : ¬ ((b.toNat : Int) = 0) := fun h => hb (BitVec.eq_of_toNat_eq (by simpa using h))
  have h : IntKind.wrap .u8 ((a / b : BitVec 8).toNat : Int) = ((a / b : BitVec 8).toNat : Int) := wrap_bv .u8 rfl (a / b)
  show (Op.intDiv .quo .u8 _ _).run P w = _
  simp only [Op.intDiv, if_neg hb', Sem.run_pure]
  rw [show ((a.toNat : Int).tdiv (b.toNat : Int)) = ((a / b).toNat : Int) from by rw [BitVec.toNat_udiv, Int.ofNat_tdiv], h]; rfl
theorem bin_rem_u8 (t : TypeId) (a b : BitVec 8) (hb : b ≠ 0) : (binOp .rem t (U8 a) (U8 b)).run P w = .ok (U8 (a % b)) w := by
  have hb' : ¬ ((b.toNat : Int) = 0) := fun h => hb (BitVec.eq_of_toNat_eq (by simpa using h))
  show (Op.intDiv .rem .u8 _ _).run P w = _
  simp only [Op.intDiv, if_neg hb', Sem.run_pure]
  rw [show ((a.toNat : Int).tmod (b.toNat : Int)) = ((a % b).toNat : Int) from by rw [BitVec.toNat_umod, Int.ofNat_tmod]]; rfl
theorem bin_eql_u8 (t : TypeId) (a b : BitVec 8) : (binOp .eql t (U8 a) (U8 b)).run P w = .ok (.bool (a == b)) w := by
  show (Op.intCmp .eql _ _).run P w = _
  simp only [Op.intCmp, Sem.run_pure]
  congr 2
  rw [Bool.eq_iff_iff]
  simp only [beq_iff_eq]
  exact ⟨fun h => BitVec.eq_of_toNat_eq (by omega), fun h => by rw [h]⟩
theorem bin_neq_u8 (t : TypeId) (a b : BitVec 8) : (binOp .neq t (U8 a) (U8 b)).run P w = .ok (.bool (a != b)) w := by
  show (Op.intCmp .neq _ _).run P w = _
  simp only [Op.intCmp, Sem.run_pure]
  congr 2
  rw [Bool.eq_iff_iff]
  simp only [bne_iff_ne, ne_eq]
  exact ⟨fun h e => h (by rw [e]), fun h e => h (BitVec.eq_of_toNat_eq (by omega))⟩
theorem bin_lss_u8 (t : TypeId) (a b : BitVec 8) : (binOp .lss t (U8 a) (U8 b)).run P w = .ok (.bool (decide (a < b))) w := by
  show (Op.intCmp .lss _ _).run P w = _
  simp only [Op.intCmp, Sem.run_pure]
  congr 2
  rw [Bool.eq_iff_iff]
  simp only [decide_eq_true_eq, BitVec.lt_def]
  omega
theorem bin_leq_u8 (t : TypeId) (a b : BitVec 8) : (binOp .leq t (U8 a) (U8 b)).run P w = .ok (.bool (decide (a ≤ b))) w := by
  show (Op.intCmp .leq _ _).run P w = _
  simp only [Op.intCmp, Sem.run_pure]
  congr 2
  rw [Bool.eq_iff_iff]
  simp only [decide_eq_true_eq, BitVec.le_def]
  omega
theorem bin_gtr_u8 (t : TypeId) (a b : BitVec 8) : (binOp .gtr t (U8 a) (U8 b)).run P w = .ok (.bool (decide (b < a))) w := by
  show (Op.intCmp .gtr _ _).run P w = _
  simp only [Op.intCmp, Sem.run_pure]
  congr 2
  rw [Bool.eq_iff_iff]
  simp only [decide_eq_true_eq, BitVec.lt_def]
  omega
theorem bin_geq_u8 (t : TypeId) (a b : BitVec 8) : (binOp .geq t (U8 a) (U8 b)).run P w = .ok (.bool (decide (b ≤ a))) w := by
  show (Op.intCmp .geq _ _).run P w = _
  simp only [Op.intCmp, Sem.run_pure]
  congr 2
  rw [Bool.eq_iff_iff]
  simp only [decide_eq_true_eq, BitVec.le_def]
  omega


theorem bin_add_u32 (t : TypeId) (a b : BitVec 32) : (binOp .add t (U32 a) (U32 b)).run P w = .ok (U32 (a + b)) w := by
  have h := wrap_u .u32 rfl (a.toNat + b.toNat)
  simp only [Int.natCast_add] at h
  simp only [binOp, U32, Op.intArith]
  simp [h, BitVec.toNat_add, IntKind.bits]
theorem bin_sub_u32 (t : TypeId) (a b : BitVec 32) : (binOp .sub t (U32 a) (U32 b)).run P w = .ok (U32 (a - b)) w := by
  show Result.ok (Value.int .u32 (IntKind.wrap .u32 ((a.toNat : Int) - (b.toNat : Int)))) w = _
  rw [show IntKind.wrap .u32 ((a.toNat : Int) - (b.toNat : Int)) = ((a - b).toNat : Int) from wrap_sub_u .u32 rfl a b]; rfl
theorem bin_mul_u32 (t : TypeId) (a b : BitVec 32) : (binOp .mul t (U32 a) (U32 b)).run P w = .ok (U32 (a * b)) w := by
  have h := wrap_u .u32 rfl (a.toNat * b.toNat)
  simp only [Int.natCast_mul] at h
  simp only [binOp, U32, Op.intArith]
  simp [h, BitVec.toNat_mul, IntKind.bits]
theorem bin_and_u32 (t : TypeId) (a b : BitVec 32) : (binOp .and t (U32 a) (U32 b)).run P w = .ok (U32 (a &&& b)) w := by
  have h : IntKind.wrap .u32 ((a &&& b : BitVec 32).toNat : Int) = ((a &&& b : BitVec 32).toNat : Int) := wrap_bv .u32 rfl (a &&& b)
  show Result.ok (Value.int .u32 (IntKind.wrap .u32 ((BitVec.ofInt 32 (a.toNat : Int) &&& BitVec.ofInt 32 (b.toNat : Int)).toNat : Int))) w = _
  rw [ofInt_toNat a, ofInt_toNat b, h]; rfl
theorem bin_or_u32 (t : TypeId) (a b : BitVec 32) : (binOp .or t (U32 a) (U32 b)).run P w = .ok (U32 (a ||| b)) w := by
  have h : IntKind.wrap .u32 ((a ||| b : BitVec 32).toNat : Int) = ((a ||| b : BitVec 32).toNat : Int) := wrap_bv .u32 rfl (a ||| b)
  show Result.ok (Value.int .u32 (IntKind.wrap .u32 ((BitVec.ofInt 32 (a.toNat : Int) ||| BitVec.ofInt 32 (b.toNat : Int)).toNat : Int))) w = _
  rw [ofInt_toNat a, ofInt_toNat b, h]; rfl
theorem bin_xor_u32 (t : TypeId) (a b : BitVec 32) : (binOp .xor t (U32 a) (U32 b)).run P w = .ok (U32 (a ^^^ b)) w := by
  have h : IntKind.wrap .u32 ((a ^^^ b : BitVec 32).toNat : Int) = ((a ^^^ b : BitVec 32).toNat : Int) := wrap_bv .u32 rfl (a ^^^ b)
  show Result.ok (Value.int .u32 (IntKind.wrap .u32 ((BitVec.ofInt 32 (a.toNat : Int) ^^^ BitVec.ofInt 32 (b.toNat : Int)).toNat : Int))) w = _
  rw [ofInt_toNat a, ofInt_toNat b, h]; rfl
theorem bin_andNot_u32 (t : TypeId) (a b : BitVec 32) : (binOp .andNot t (U32 a) (U32 b)).run P w = .ok (U32 (a &&& ~~~b)) w := by
  have h : IntKind.wrap .u32 ((a &&& ~~~b : BitVec 32).toNat : Int) = ((a &&& ~~~b : BitVec 32).toNat : Int) := wrap_bv .u32 rfl (a &&& ~~~b)
  show Result.ok (Value.int .u32 (IntKind.wrap .u32 ((BitVec.ofInt 32 (a.toNat : Int) &&& ~~~BitVec.ofInt 32 (b.toNat : Int)).toNat : Int))) w = _
  rw [ofInt_toNat a, ofInt_toNat b, h]; rfl
theorem un_xor_u32 (a : BitVec 32) : (Op.unary .xor (U32 a)).run P w = .ok (U32 (~~~a)) w := by
  have h : IntKind.wrap .u32 ((~~~a : BitVec 32).toNat : Int) = ((~~~a : BitVec 32).toNat : Int) := wrap_bv .u32 rfl (~~~a)
  show Result.ok (Value.int .u32 (IntKind.wrap .u32 ((BitVec.ofInt 32 (if IntKind.signed .u32 then -1 else IntKind.max .u32) ^^^ BitVec.ofInt 32 (a.toNat : Int)).toNat : Int))) w = _
  rw [ofInt_toNat a, show BitVec.ofInt 32 (if IntKind.signed .u32 then -1 else IntKind.max .u32) = BitVec.allOnes 32 from by decide, BitVec.allOnes_xor, h]; rfl
theorem shl_u32 (a : BitVec 32) (yk : IntKind) (s : Nat) : (Op.shift .shl .u32 (a.toNat : Int) yk (s : Int)).run P w = .ok (U32 (a <<< s)) w := by
  have h : IntKind.wrap .u32 ((a.toNat : Int) * 2 ^ (min s 32)) = ((a <<< s).toNat : Int) := by
    have h := wrap_u .u32 rfl (a.toNat * 2 ^ (min s 32))
    simp only [Int.natCast_mul, Int.natCast_pow] at h
    refine (show IntKind.wrap .u32 ((a.toNat : Int) * 2 ^ (min s 32)) = _ from h).trans ?_
    rw [BitVec.toNat_shiftLeft, Nat.shiftLeft_eq]
    congr 1
    show a.toNat * 2 ^ (min s 32) % 2 ^ 32 = _
    rcases Nat.le_total s 32 with h1 | h1
    · rw [Nat.min_eq_left h1]
    · rw [Nat.min_eq_right h1, Nat.mul_mod_left, show s = 32 + (s - 32) from by omega, Nat.pow_add, ← Nat.mul_assoc, Nat.mul_right_comm, Nat.mul_mod_left]
  show (if (s : Int) < 0 then _ else _ : Sem Value).run P w = _
  rw [if_neg (by omega)]
  show Result.ok (Value.int .u32 (IntKind.wrap .u32 ((a.toNat : Int) * 2 ^ (min (s : Int).toNat 32)))) w = _
  rw [Int.toNat_natCast, h]; rfl
theorem shr_u32 (a : BitVec 32) (yk : IntKind) (s : Nat) : (Op.shift .shr .u32 (a.toNat : Int) yk (s : Int)).run P w = .ok (U32 (a >>> s)) w := by
  have h : (a.toNat : Int).fdiv (2 ^ (min s 32)) = ((a >>> s).toNat : Int) := by
    rw [BitVec.toNat_ushiftRight, Nat.shiftRight_eq_div_pow]
    have h1 : (a.toNat : Int).fdiv (2 ^ (min s 32)) = ((a.toNat / 2 ^ (min s 32) : Nat) : Int) := by
      rw [Int.fdiv_eq_ediv_of_nonneg _ (by have := Nat.two_pow_pos (min s 32); exact Int.le_of_lt (by exact_mod_cast this))]
      simp
    rw [h1]
    congr 1
    rcases Nat.le_total s 32 with h2 | h2
    · rw [Nat.min_eq_left h2]
    · rw [Nat.min_eq_right h2, Nat.div_eq_of_lt a.isLt, Nat.div_eq_of_lt (Nat.lt_of_lt_of_le a.isLt (Nat.pow_le_pow_right (by omega) h2))]
  show (if (s : Int) < 0 then _ else _ : Sem Value).run P w = _
  rw [if_neg (by omega)]
  show Result.ok (Value.int .u32 ((a.toNat : Int).fdiv (2 ^ (min (s : Int).toNat 32)))) w = _
  rw [Int.toNat_natCast, h]; rfl
theorem bin_shl_u32 (t : TypeId) (a : BitVec 32) (s : BitVec 64) : (binOp .shl t (U32 a) (U64 s)).run P w = .ok (U32 (a <<< s.toNat)) w := shl_u32 a .u64 s.toNat
theorem bin_shr_u32 (t : TypeId) (a : BitVec 32) (s : BitVec 64) : (binOp .shr t (U32 a) (U64 s)).run P w = .ok (U32 (a >>> s.toNat)) w := shr_u32 a .u64 s.toNat
theorem bin_shl_i_u32 (t : TypeId) (a : BitVec 32) (s : Int) (hs : 0 ≤ s) : (binOp .shl t (U32 a) (I s)).run P w = .ok (U32 (a <<< s.toNat)) w := by
  obtain ⟨m, rfl⟩ := Int.eq_ofNat_of_zero_le hs
  exact shl_u32 a .i64 m
theorem bin_shr_i_u32 (t : TypeId) (a : BitVec 32) (s : Int) (hs : 0 ≤ s) : (binOp .shr t (U32 a) (I s)).run P w = .ok (U32 (a >>> s.toNat)) w := by
  obtain ⟨m, rfl⟩ := Int.eq_ofNat_of_zero_le hs
  exact shr_u32 a .i64 m
theorem bin_quo_u32 (t : TypeId) (a b : BitVec 32) (hb : b ≠ 0) : (binOp .quo t (U32 a) (U32 b)).run P w = .ok (U32 (a / b)) w := by
  have hb' : ¬ ((b.toNat : Int) = 0) := fun h => hb (BitVec.eq_of_toNat_eq (by simpa using h))
  have h : IntKind.wrap .u32 ((a / b : BitVec 32).toNat : Int) = ((a / b : BitVec 32).toNat : Int) := wrap_bv .u32 rfl (a / b)
  show (Op.intDiv .quo .u32 _ _).run P w = _
  simp only [Op.intDiv, if_neg hb', Sem.run_pure]
  rw [show ((a.toNat : Int).tdiv (b.toNat : Int)) = ((a / b).toNat : Int) from by rw [BitVec.toNat_udiv, Int.ofNat_tdiv], h]; rfl
theorem bin_rem_u32 (t : TypeId) (a b : BitVec 32) (hb : b ≠ 0) : (binOp .rem t (U32 a) (U32 b)).run P w = .ok (U32 (a % b)) w := by
  have hb' : ¬ ((b.toNat : Int) = 0) := fun h => hb (BitVec.eq_of_toNat_eq (by simpa using h))
  show (Op.intDiv .rem .u32 _ _).run P w = _
  simp only [Op.intDiv, if_neg hb', Sem.run_pure]
  rw [show ((a.toNat : Int).tmod (b.toNat : Int)) = ((a % b).toNat : Int) from by rw [BitVec.toNat_umod, Int.ofNat_tmod]]; rfl
theorem bin_eql_u32 (t : TypeId) (a b : BitVec 32) : (binOp .eql t (U32 a) (U32 b)).run P w = .ok (.bool (a == b)) w := by
  show (Op.intCmp .eql _ _).run P w = _
  simp only [Op.intCmp, Sem.run_pure]
  congr 2
  rw [Bool.eq_iff_iff]
  simp only [beq_iff_eq]
  exact ⟨fun h => BitVec.eq_of_toNat_eq (by omega), fun h => by rw [h]⟩
theorem bin_neq_u32 (t : TypeId) (a b : BitVec 32) : (binOp .neq t (U32 a) (U32 b)).run P w = .ok (.bool (a != b)) w := by
  show (Op.intCmp .neq _ _).run P w = _
  simp only [Op.intCmp, Sem.run_pure]
  congr 2
  rw [Bool.eq_iff_iff]
  simp only [bne_iff_ne, ne_eq]
  exact ⟨fun h e => h (by rw [e]), fun h e => h (BitVec.eq_of_toNat_eq (by omega))⟩
theorem bin_lss_u32 (t : TypeId) (a b : BitVec 32) : (binOp .lss t (U32 a) (U32 b)).run P w = .ok (.bool (decide (a < b))) w := by
  show (Op.intCmp .lss _ _).run P w = _
  simp only [Op.intCmp, Sem.run_pure]
  congr 2
  rw [Bool.eq_iff_iff]
  simp only [decide_eq_true_eq, BitVec.lt_def]
  omega
theorem bin_leq_u32 (t : TypeId) (a b : BitVec 32) : (binOp .leq t (U32 a) (U32 b)).run P w = .ok (.bool (decide (a ≤ b))) w := by
  show (Op.intCmp .leq _ _).run P w = _
  simp only [Op.intCmp, Sem.run_pure]
  congr 2
  rw [Bool.eq_iff_iff]
  simp only [decide_eq_true_eq, BitVec.le_def]
  omega
theorem bin_gtr_u32 (t : TypeId) (a b : BitVec 32) : (binOp .gtr t (U32 a) (U32 b)).run P w = .ok (.bool (decide (b < a))) w := by
  show (Op.intCmp .gtr _ _).run P w = _
  simp only [Op.intCmp, Sem.run_pure]
  congr 2
  rw [Bool.eq_iff_iff]
  simp only [decide_eq_true_eq, BitVec.lt_def]
  omega
theorem bin_geq_u32 (t : TypeId) (a b : BitVec 32) : (binOp .geq t (U32 a) (U32 b)).run P w = .ok (.bool (decide (b ≤ a))) w := by
  show (Op.intCmp .geq _ _).run P w = _
  simp only [Op.intCmp, Sem.run_pure]
  congr 2
  rw [Bool.eq_iff_iff]
  simp only [decide_eq_true_eq, BitVec.le_def]
  omega


theorem bin_add_u64 (t : TypeId) (a b : BitVec 64) : (binOp .add t (U64 a) (U64 b)).run P w = .ok (U64 (a + b)) w := by
  have h := wrap_u .u64 rfl (a.toNat + b.toNat)
  simp only [Int.natCast_add] at h
  simp only [binOp, U64, Op.intArith]
  simp [h, BitVec.toNat_add, IntKind.bits]
theorem bin_sub_u64 (t : TypeId) (a b : BitVec 64) : (binOp .sub t (U64 a) (U64 b)).run P w = .ok (U64 (a - b)) w := by
  show Result.ok (Value.int .u64 (IntKind.wrap .u64 ((a.toNat : Int) - (b.toNat : Int)))) w = _
  rw [show IntKind.wrap .u64 ((a.toNat : Int) - (b.toNat : Int)) = ((a - b).toNat : Int) from wrap_sub_u .u64 rfl a b]; rfl
theorem bin_mul_u64 (t : TypeId) (a b : BitVec 64) : (binOp .mul t (U64 a) (U64 b)).run P w = .ok (U64 (a * b)) w := by
  have h := wrap_u .u64 rfl (a.toNat * b.toNat)
  simp only [Int.natCast_mul] at h
  simp only [binOp, U64, Op.intArith]
  simp [h, BitVec.toNat_mul, IntKind.bits]
theorem bin_and_u64 (t : TypeId) (a b : BitVec 64) : (binOp .and t (U64 a) (U64 b)).run P w = .ok (U64 (a &&& b)) w := by
  have h : IntKind.wrap .u64 ((a &&& b : BitVec 64).toNat : Int) = ((a &&& b : BitVec 64).toNat : Int) := wrap_bv .u64 rfl (a &&& b)
  show Result.ok (Value.int .u64 (IntKind.wrap .u64 ((BitVec.ofInt 64 (a.toNat : Int) &&& BitVec.ofInt 64 (b.toNat : Int)).toNat : Int))) w = _
  rw [ofInt_toNat a, ofInt_toNat b, h]; rfl
theorem bin_or_u64 (t : TypeId) (a b : BitVec 64) : (binOp .or t (U64 a) (U64 b)).run P w = .ok (U64 (a ||| b)) w := by
  have h : IntKind.wrap .u64 ((a ||| b : BitVec 64).toNat : Int) = ((a ||| b : BitVec 64).toNat : Int) := wrap_bv .u64 rfl (a ||| b)
  show Result.ok (Value.int .u64 (IntKind.wrap .u64 ((BitVec.ofInt 64 (a.toNat : Int) ||| BitVec.ofInt 64 (b.toNat : Int)).toNat : Int))) w = _
  rw [ofInt_toNat a, ofInt_toNat b, h]; rfl
theorem bin_xor_u64 (t : TypeId) (a b : BitVec 64) : (binOp .xor t (U64 a) (U64 b)).run P w = .ok (U64 (a ^^^ b)) w := by
  have h : IntKind.wrap .u64 ((a ^^^ b : BitVec 64).toNat : Int) = ((a ^^^ b : BitVec 64).toNat : Int) := wrap_bv .u64 rfl (a ^^^ b)
  show Result.ok (Value.int .u64 (IntKind.wrap .u64 ((BitVec.ofInt 64 (a.toNat : Int) ^^^ BitVec.ofInt 64 (b.toNat : Int)).toNat : Int))) w = _
  rw [ofInt_toNat a, ofInt_toNat b, h]; rfl
theorem bin_andNot_u64 (t : TypeId) (a b : BitVec 64) : (binOp .andNot t (U64 a) (U64 b)).run P w = .ok (U64 (a &&& ~~~b)) w := by
  have h : IntKind.wrap .u64 ((a &&& ~~~b : BitVec 64).toNat : Int) = ((a &&& ~~~b : BitVec 64).toNat : Int) := wrap_bv .u64 rfl (a &&& ~~~b)
  show Result.ok (Value.int .u64 (IntKind.wrap .u64 ((BitVec.ofInt 64 (a.toNat : Int) &&& ~~~BitVec.ofInt 64 (b.toNat : Int)).toNat : Int))) w = _
  rw [ofInt_toNat a, ofInt_toNat b, h]; rfl
theorem un_xor_u64 (a : BitVec 64) : (Op.unary .xor (U64 a)).run P w = .ok (U64 (~~~a)) w := by
  have h : IntKind.wrap .u64 ((~~~a : BitVec 64).toNat : Int) = ((~~~a : BitVec 64).toNat : Int) := wrap_bv .u64 rfl (~~~a)
  show Result.ok (Value.int .u64 (IntKind.wrap .u64 ((BitVec.ofInt 64 (if IntKind.signed .u64 then -1 else IntKind.max .u64) ^^^ BitVec.ofInt 64 (a.toNat : Int)).toNat : Int))) w = _
  rw [ofInt_toNat a, show BitVec.ofInt 64 (if IntKind.signed .u64 then -1 else IntKind.max .u64) = BitVec.allOnes 64 from by decide, BitVec.allOnes_xor, h]; rfl
theorem shl_u64 (a : BitVec 64) (yk : IntKind) (s : Nat) : (Op.shift .shl .u64 (a.toNat : Int) yk (s : Int)).run P w = .ok (U64 (a <<< s)) w := by
  have h : IntKind.wrap .u64 ((a.toNat : Int) * 2 ^ (min s 64)) = ((a <<< s).toNat : Int) := by
    have h := wrap_u .u64 rfl (a.toNat * 2 ^ (min s 64))
    simp only [Int.natCast_mul, Int.natCast_pow] at h
    refine (show IntKind.wrap .u64 ((a.toNat : Int) * 2 ^ (min s 64)) = _ from h).trans ?_
    rw [BitVec.toNat_shiftLeft, Nat.shiftLeft_eq]
    congr 1
    show a.toNat * 2 ^ (min s 64) % 2 ^ 64 = _
    rcases Nat.le_total s 64 with h1 | h1
    · rw [Nat.min_eq_left h1]
    · rw [Nat.min_eq_right h1, Nat.mul_mod_left, show s = 64 + (s - 64) from by omega, Nat.pow_add, ← Nat.mul_assoc, Nat.mul_right_comm, Nat.mul_mod_left]
  show (if (s : Int) < 0 then _ else _ : Sem Value).run P w = _
  rw [if_neg (by omega)]
  show Result.ok (Value.int .u64 (IntKind.wrap .u64 ((a.toNat : Int) * 2 ^ (min (s : Int).toNat 64)))) w = _
  rw [Int.toNat_natCast, h]; rfl
theorem shr_u64 (a : BitVec 64) (yk : IntKind) (s : Nat) : (Op.shift .shr .u64 (a.toNat : Int) yk (s : Int)).run P w = .ok (U64 (a >>> s)) w := by
  have h : (a.toNat : Int).fdiv (2 ^ (min s 64)) = ((a >>> s).toNat : Int) := by
    rw [BitVec.toNat_ushiftRight, Nat.shiftRight_eq_div_pow]
    have h1 : (a.toNat : Int).fdiv (2 ^ (min s 64)) = ((a.toNat / 2 ^ (min s 64) : Nat) : Int) := by
      rw [Int.fdiv_eq_ediv_of_nonneg _ (by have := Nat.two_pow_pos (min s 64); exact Int.le_of_lt (by exact_mod_cast this))]
      simp
    rw [h1]
    congr 1
    rcases Nat.le_total s 64 with h2 | h2
    · rw [Nat.min_eq_left h2]
    · rw [Nat.min_eq_right h2, Nat.div_eq_of_lt a.isLt, Nat.div_eq_of_lt (Nat.lt_of_lt_of_le a.isLt (Nat.pow_le_pow_right (by omega) h2))]
  show (if (s : Int) < 0 then _ else _ : Sem Value).run P w = _
  rw [if_neg (by omega)]
  show Result.ok (Value.int .u64 ((a.toNat : Int).fdiv (2 ^ (min (s : Int).toNat 64)))) w = _
  rw [Int.toNat_natCast, h]; rfl
theorem bin_shl_u64 (t : TypeId) (a : BitVec 64) (s : BitVec 64) : (binOp .shl t (U64 a) (U64 s)).run P w = .ok (U64 (a <<< s.toNat)) w := shl_u64 a .u64 s.toNat
theorem bin_shr_u64 (t : TypeId) (a : BitVec 64) (s : BitVec 64) : (binOp .shr t (U64 a) (U64 s)).run P w = .ok (U64 (a >>> s.toNat)) w := shr_u64 a .u64 s.toNat
theorem bin_shl_i_u64 (t : TypeId) (a : BitVec 64) (s : Int) (hs : 0 ≤ s) : (binOp .shl t (U64 a) (I s)).run P w = .ok (U64 (a <<< s.toNat)) w := by
  obtain ⟨m, rfl⟩ := Int.eq_ofNat_of_zero_le hs
  exact shl_u64 a .i64 m
theorem bin_shr_i_u64 (t : TypeId) (a : BitVec 64) (s : Int) (hs : 0 ≤ s) : (binOp .shr t (U64 a) (I s)).run P w = .ok (U64 (a >>> s.toNat)) w := by
  obtain ⟨m, rfl⟩ := Int.eq_ofNat_of_zero_le hs
  exact shr_u64 a .i64 m
theorem bin_quo_u64 (t : TypeId) (a b : BitVec 64) (hb : b ≠ 0) : (binOp .quo t (U64 a) (U64 b)).run P w = .ok (U64 (a / b)) w := by
  have hb' : ¬ ((b.toNat : Int) = 0) := fun h => hb (BitVec.eq_of_toNat_eq (by simpa using h))
  have h : IntKind.wrap .u64 ((a / b : BitVec 64).toNat : Int) = ((a / b : BitVec 64).toNat : Int) := wrap_bv .u64 rfl (a / b)
  show (Op.intDiv .quo .u64 _ _).run P w = _
  simp only [Op.intDiv, if_neg hb', Sem.run_pure]
  rw [show ((a.toNat : Int).tdiv (b.toNat : Int)) = ((a / b).toNat : Int) from by rw [BitVec.toNat_udiv, Int.ofNat_tdiv], h]; rfl
theorem bin_rem_u64 (t : TypeId) (a b : BitVec 64) (hb : b ≠ 0) : (binOp .rem t (U64 a) (U64 b)).run P w = .ok (U64 (a % b)) w := by
  have hb' : ¬ ((b.toNat : Int) = 0) := fun h => hb (BitVec.eq_of_toNat_eq (by simpa using h))
  show (Op.intDiv .rem .u64 _ _).run P w = _
  simp only [Op.intDiv, if_neg hb', Sem.run_pure]
  rw [show ((a.toNat : Int).tmod (b.toNat : Int)) = ((a % b).toNat : Int) from by rw [BitVec.toNat_umod, Int.ofNat_tmod]]; rfl
theorem bin_eql_u64 (t : TypeId) (a b : BitVec 64) : (binOp .eql t (U64 a) (U64 b)).run P w = .ok (.bool (a == b)) w := by
  show (Op.intCmp .eql _ _).run P w = _
  simp only [Op.intCmp, Sem.run_pure]
  congr 2
  rw [Bool.eq_iff_iff]
  simp only [beq_iff_eq]
  exact ⟨fun h => BitVec.eq_of_toNat_eq (by omega), fun h => by rw [h]⟩
theorem bin_neq_u64 (t : TypeId) (a b : BitVec 64) : (binOp .neq t (U64 a) (U64 b)).run P w = .ok (.bool (a != b)) w := by
  show (Op.intCmp .neq _ _).run P w = _
  simp only [Op.intCmp, Sem.run_pure]
  congr 2
  rw [Bool.eq_iff_iff]
  simp only [bne_iff_ne, ne_eq]
  exact ⟨fun h e => h (by rw [e]), fun h e => h (BitVec.eq_of_toNat_eq (by omega))⟩
theorem bin_lss_u64 (t : TypeId) (a b : BitVec 64) : (binOp .lss t (U64 a) (U64 b)).run P w = .ok (.bool (decide (a < b))) w := by
  show (Op.intCmp .lss _ _).run P w = _
  simp only [Op.intCmp, Sem.run_pure]
  congr 2
  rw [Bool.eq_iff_iff]
  simp only [decide_eq_true_eq, BitVec.lt_def]
  omega
theorem bin_leq_u64 (t : TypeId) (a b : BitVec 64) : (binOp .leq t (U64 a) (U64 b)).run P w = .ok (.bool (decide (a ≤ b))) w := by
  show (Op.intCmp .leq _ _).run P w = _
  simp only [Op.intCmp, Sem.run_pure]
  congr 2
  rw [Bool.eq_iff_iff]
  simp only [decide_eq_true_eq, BitVec.le_def]
  omega
theorem bin_gtr_u64 (t : TypeId) (a b : BitVec 64) : (binOp .gtr t (U64 a) (U64 b)).run P w = .ok (.bool (decide (b < a))) w := by
  show (Op.intCmp .gtr _ _).run P w = _
  simp only [Op.intCmp, Sem.run_pure]
  congr 2
  rw [Bool.eq_iff_iff]
  simp only [decide_eq_true_eq, BitVec.lt_def]
  omega
theorem bin_geq_u64 (t : TypeId) (a b : BitVec 64) : (binOp .geq t (U64 a) (U64 b)).run P w = .ok (.bool (decide (b ≤ a))) w := by
  show (Op.intCmp .geq _ _).run P w = _
  simp only [Op.intCmp, Sem.run_pure]
  congr 2
  rw [Bool.eq_iff_iff]
  simp only [decide_eq_true_eq, BitVec.le_def]
  omega


/-- Within the range of int. -/
def inI (n : Int) : Prop := -9223372036854775808 ≤ n ∧ n ≤ 9223372036854775807
theorem wrap_i64 (n : Int) (h : inI n) : IntKind.wrap .i64 n = n := by
  unfold inI at h
  simp only [IntKind.wrap, IntKind.signed, IntKind.bits, Bool.true_and]
  split <;> rename_i h' <;> simp at h' <;> omega
theorem bin_add_i (t : TypeId) (a b : Int) (h : inI (a + b)) : (binOp .add t (I a) (I b)).run P w = .ok (I (a + b)) w := by
  show (Op.intArith .add .i64 a b).run P w = _
  simp only [Op.intArith, Sem.run_pure, wrap_i64 _ h]
theorem bin_sub_i (t : TypeId) (a b : Int) (h : inI (a - b)) : (binOp .sub t (I a) (I b)).run P w = .ok (I (a - b)) w := by
  show (Op.intArith .sub .i64 a b).run P w = _
  simp only [Op.intArith, Sem.run_pure, wrap_i64 _ h]
theorem bin_mul_i (t : TypeId) (a b : Int) (h : inI (a * b)) : (binOp .mul t (I a) (I b)).run P w = .ok (I (a * b)) w := by
  show (Op.intArith .mul .i64 a b).run P w = _
  simp only [Op.intArith, Sem.run_pure, wrap_i64 _ h]
theorem bin_quo_i (t : TypeId) (a b : Int) (hb : b ≠ 0) (h : inI (a.tdiv b)) : (binOp .quo t (I a) (I b)).run P w = .ok (I (a.tdiv b)) w := by
  show (Op.intDiv .quo .i64 a b).run P w = _
  simp only [Op.intDiv, if_neg hb, Sem.run_pure, wrap_i64 _ h]
theorem bin_rem_i (t : TypeId) (a b : Int) (hb : b ≠ 0) : (binOp .rem t (I a) (I b)).run P w = .ok (I (a.tmod b)) w := by
  show (Op.intDiv .rem .i64 a b).run P w = _
  simp only [Op.intDiv, if_neg hb, Sem.run_pure]
theorem bin_eql_i (t : TypeId) (a b : Int) : (binOp .eql t (I a) (I b)).run P w = .ok (.bool (a == b)) w := rfl
theorem bin_neq_i (t : TypeId) (a b : Int) : (binOp .neq t (I a) (I b)).run P w = .ok (.bool (a != b)) w := rfl
theorem bin_lss_i (t : TypeId) (a b : Int) : (binOp .lss t (I a) (I b)).run P w = .ok (.bool (decide (a < b))) w := rfl
theorem bin_leq_i (t : TypeId) (a b : Int) : (binOp .leq t (I a) (I b)).run P w = .ok (.bool (decide (a ≤ b))) w := rfl
theorem bin_gtr_i (t : TypeId) (a b : Int) : (binOp .gtr t (I a) (I b)).run P w = .ok (.bool (decide (a > b))) w := rfl
theorem bin_geq_i (t : TypeId) (a b : Int) : (binOp .geq t (I a) (I b)).run P w = .ok (.bool (decide (a ≥ b))) w := rfl
theorem un_neg_i (a : Int) (h : inI (0 - a)) : (Op.unary .neg (I a)).run P w = .ok (I (0 - a)) w := by
  show (Op.intArith .sub .i64 0 a).run P w = _
  simp only [Op.intArith, Sem.run_pure, wrap_i64 _ h]
theorem un_not (b : Bool) : (Op.unary .not (.bool b)).run P w = .ok (.bool !b) w := rfl
end


/-! ### Conversions between numbers -/
section
variable {P : Program} {w : World}
theorem conv_int {s d : TypeId} {sd : TypeDesc} {k : IntKind} (hs : P.underlying s = some sd) (hd : P.underlying d = some (.int k)) (j : IntKind) (n : Int) :
    (convert s d (.int j n)).run P w = .ok (.int k (k.wrap n)) w := by
  simp only [convert, Sem.run_bind, run_underlying hs, run_underlying hd, Result.andThen_ok]
  rfl

theorem conv_u8_u8 {s d : TypeId} {sd : TypeDesc} (hs : P.underlying s = some sd) (hd : P.underlying d = some (.int .u8)) (x : BitVec 8) : (convert s d (U8 x)).run P w = .ok (U8 (x.setWidth 8)) w := by
  have h := wrap_u .u8 rfl x.toNat
  rw [show (U8 x) = Value.int .u8 (x.toNat : Int) from rfl, conv_int hs hd, h, ← BitVec.toNat_setWidth]; rfl

theorem conv_u8_u32 {s d : TypeId} {sd : TypeDesc} (hs : P.underlying s = some sd) (hd : P.underlying d = some (.int .u32)) (x : BitVec 8) : (convert s d (U8 x)).run P w = .ok (U32 (x.setWidth 32)) w := by
  have h := wrap_u .u32 rfl x.toNat
  rw [show (U8 x) = Value.int .u8 (x.toNat : Int) from rfl, conv_int hs hd, h, ← BitVec.toNat_setWidth]; rfl

theorem conv_u8_u64 {s d : TypeId} {sd : TypeDesc} (hs : P.underlying s = some sd) (hd : P.underlying d = some (.int .u64)) (x : BitVec 8) : (convert s d (U8 x)).run P w = .ok (U64 (x.setWidth 64)) w := by
  have h := wrap_u .u64 rfl x.toNat
  rw [show (U8 x) = Value.int .u8 (x.toNat : Int) from rfl, conv_int hs hd, h, ← BitVec.toNat_setWidth]; rfl

theorem conv_i_u8 {s d : TypeId} {sd : TypeDesc} (hs : P.underlying s = some sd) (hd : P.underlying d = some (.int .u8)) (x : Int) : (convert s d (I x)).run P w = .ok (U8 (BitVec.ofInt 8 x)) w := by
  rw [conv_int hs hd]
  have : IntKind.wrap .u8 x = ((BitVec.ofInt 8 x).toNat : Int) := by
    simp only [IntKind.wrap, IntKind.signed, IntKind.bits, Bool.false_and]
    rw [if_neg (by simp), BitVec.toNat_ofInt, Int.toNat_of_nonneg (Int.emod_nonneg _ (by decide))]
    rfl
  rw [this]; rfl

theorem conv_u32_u8 {s d : TypeId} {sd : TypeDesc} (hs : P.underlying s = some sd) (hd : P.underlying d = some (.int .u8)) (x : BitVec 32) : (convert s d (U32 x)).run P w = .ok (U8 (x.setWidth 8)) w := by
  have h := wrap_u .u8 rfl x.toNat
  rw [show (U32 x) = Value.int .u32 (x.toNat : Int) from rfl, conv_int hs hd, h, ← BitVec.toNat_setWidth]; rfl

theorem conv_u32_u32 {s d : TypeId} {sd : TypeDesc} (hs : P.underlying s = some sd) (hd : P.underlying d = some (.int .u32)) (x : BitVec 32) : (convert s d (U32 x)).run P w = .ok (U32 (x.setWidth 32)) w := by
  have h := wrap_u .u32 rfl x.toNat
  rw [show (U32 x) = Value.int .u32 (x.toNat : Int) from rfl, conv_int hs hd, h, ← BitVec.toNat_setWidth]; rfl

theorem conv_u32_u64 {s d : TypeId} {sd : TypeDesc} (hs : P.underlying s = some sd) (hd : P.underlying d = some (.int .u64)) (x : BitVec 32) : (convert s d (U32 x)).run P w = .ok (U64 (x.setWidth 64)) w := by
  have h := wrap_u .u64 rfl x.toNat
  rw [show (U32 x) = Value.int .u32 (x.toNat : Int) from rfl, conv_int hs hd, h, ← BitVec.toNat_setWidth]; rfl

theorem conv_i_u32 {s d : TypeId} {sd : TypeDesc} (hs : P.underlying s = some sd) (hd : P.underlying d = some (.int .u32)) (x : Int) : (convert s d (I x)).run P w = .ok (U32 (BitVec.ofInt 32 x)) w := by
  rw [conv_int hs hd]
  have : IntKind.wrap .u32 x = ((BitVec.ofInt 32 x).toNat : Int) := by
    simp only [IntKind.wrap, IntKind.signed, IntKind.bits, Bool.false_and]
    rw [if_neg (by simp), BitVec.toNat_ofInt, Int.toNat_of_nonneg (Int.emod_nonneg _ (by decide))]
    rfl
  rw [this]; rfl

theorem conv_u64_u8 {s d : TypeId} {sd : TypeDesc} (hs : P.underlying s = some sd) (hd : P.underlying d = some (.int .u8)) (x : BitVec 64) : (convert s d (U64 x)).run P w = .ok (U8 (x.setWidth 8)) w := by
  have h := wrap_u .u8 rfl x.toNat
  rw [show (U64 x) = Value.int .u64 (x.toNat : Int) from rfl, conv_int hs hd, h, ← BitVec.toNat_setWidth]; rfl

theorem conv_u64_u32 {s d : TypeId} {sd : TypeDesc} (hs : P.underlying s = some sd) (hd : P.underlying d = some (.int .u32)) (x : BitVec 64) : (convert s d (U64 x)).run P w = .ok (U32 (x.setWidth 32)) w := by
  have h := wrap_u .u32 rfl x.toNat
  rw [show (U64 x) = Value.int .u64 (x.toNat : Int) from rfl, conv_int hs hd, h, ← BitVec.toNat_setWidth]; rfl

theorem conv_u64_u64 {s d : TypeId} {sd : TypeDesc} (hs : P.underlying s = some sd) (hd : P.underlying d = some (.int .u64)) (x : BitVec 64) : (convert s d (U64 x)).run P w = .ok (U64 (x.setWidth 64)) w := by
  have h := wrap_u .u64 rfl x.toNat
  rw [show (U64 x) = Value.int .u64 (x.toNat : Int) from rfl, conv_int hs hd, h, ← BitVec.toNat_setWidth]; rfl

theorem conv_i_u64 {s d : TypeId} {sd : TypeDesc} (hs : P.underlying s = some sd) (hd : P.underlying d = some (.int .u64)) (x : Int) : (convert s d (I x)).run P w = .ok (U64 (BitVec.ofInt 64 x)) w := by
  rw [conv_int hs hd]
  have : IntKind.wrap .u64 x = ((BitVec.ofInt 64 x).toNat : Int) := by
    simp only [IntKind.wrap, IntKind.signed, IntKind.bits, Bool.false_and]
    rw [if_neg (by simp), BitVec.toNat_ofInt, Int.toNat_of_nonneg (Int.emod_nonneg _ (by decide))]
    rfl
  rw [this]; rfl

theorem conv_u8_i {s d : TypeId} {sd : TypeDesc} (hs : P.underlying s = some sd) (hd : P.underlying d = some (.int .i64)) (x : BitVec 8) : (convert s d (U8 x)).run P w = .ok (I (x.toNat : Int)) w := by
  have h := x.isLt
  rw [show (U8 x) = Value.int .u8 (x.toNat : Int) from rfl, conv_int hs hd, wrap_i64 _ (by unfold inI; omega)]

theorem conv_u32_i {s d : TypeId} {sd : TypeDesc} (hs : P.underlying s = some sd) (hd : P.underlying d = some (.int .i64)) (x : BitVec 32) : (convert s d (U32 x)).run P w = .ok (I (x.toNat : Int)) w := by
  have h := x.isLt
  rw [show (U32 x) = Value.int .u32 (x.toNat : Int) from rfl, conv_int hs hd, wrap_i64 _ (by unfold inI; omega)]

theorem conv_u64_i {s d : TypeId} {sd : TypeDesc} (hs : P.underlying s = some sd) (hd : P.underlying d = some (.int .i64)) (x : BitVec 64) (hx : x.toNat < 9223372036854775808) : (convert s d (U64 x)).run P w = .ok (I (x.toNat : Int)) w := by
  rw [show (U64 x) = Value.int .u64 (x.toNat : Int) from rfl, conv_int hs hd, wrap_i64 _ (by unfold inI; omega)]
end
end Go.Proofs.Yteohckfbphdngaa
