/-
  What is known of the package-level variables.
  Powers by digits of four bits, and by bits. Nothing here names a program.
  Signs, roots, numbers of many bytes: as functions of elements. Nothing here names a program.
  What the laws of layer 3 say of elements. Nothing here names a program.
  The field of p^2 elements: a + b i. Nothing here names a program.
  What the walks of package fp2 meet: signs, powers, roots. Nothing here names a program.
  The fields of p^6 and p^12 elements, over pairs: that they are fields; the power of p. Nothing here names a program.
  The curves; the generator's order. Nothing here names a program.
  Curves over two fields, one in the other: points, sums, times. Nothing here names a program.
  Points: when a sum is none; times and the order; the generator. Nothing here names a program.
  The second curve; its generator's order. Nothing here names a program.
  The second curve: nine times the generator; a point's numbers as the reference holds them. Nothing here names a program.
  Bits of bytes by masks. Nothing here names a program.
  Curves y y = x x x + b: maps of a curve into itself; points of an order, by their number. Nothing here names a program.
  The places of the set bits of a number, the highest first. Nothing here names a program.
  Sums by three numbers, as the program makes them, over any field. Nothing here names a program.
  Curves y y = x x x + b: how many points have an order: what they make 0 is of so many powers. Nothing here names a program.
  Numbers made points: the other curve, its map to the second curve. Nothing here names a program.
  What is reckoned of the other curve by other ways; signs; its points have no x where a denominator is 0. Nothing here names a program.
-/
import Derived.Test.YtdkmalaffcfoeaaGreatDoorX4
import Derived.Test.YtdkmalaffcfoeaaGreatDoorRows
import Derived.Test.YtdkmalaffcfoeaaGreatDoorX3
import Derived.Test.YtdkmalaffcfoeaaGreatDoorX1
namespace Go.Proofs.YtdkmalaffcfoeaaGreatDoor
open Go.RowKit
set_option maxRecDepth 100000
def IVP : List (BitVec 64) := [0xb9feffffffffaaa9#64, 0x1eabfffeb153ffff#64, 0x6730d2a0f6b0f624#64, 0x64774b84f38512bf#64, 0x4b1ba7b6434bacd7#64, 0x1a0111ea397fe69a#64]
def RTP : List (BitVec 64) := [0xee7fbfffffffeaab#64, 0x7aaffffac54ffff#64, 0xd9cc34a83dac3d89#64, 0xd91dd2e13ce144af#64, 0x92c6e9ed90d2eb35#64, 0x680447a8e5ff9a6#64]
def HFP : List (BitVec 64) := [0xdcff7fffffffd555#64, 0xf55ffff58a9ffff#64, 0xb39869507b587b12#64, 0xb23ba5c279c2895f#64, 0x258dd3db21a5d66b#64, 0xd0088f51cbff34d#64]
theorem IVP_val : V IVP 6 = PP - 2 := by decide +kernel
theorem RTP_val : V RTP 6 = (PP + 1) / 4 := by decide +kernel
theorem HFP_val : V HFP 6 = (PP - 1) / 2 := by decide +kernel
/-- The package-level variables read as the program's text lays them. -/
structure Gt (w : World) : Prop where
  g0 : w.rangeAt 0 0 (TWO.map U64)
  g1 : w.rangeAt 1 0 (PL.map U64)
  g2 : w.rangeAt 2 0 (IVP.map U64)
  g3 : w.rangeAt 3 0 (RTP.map U64)
  g4 : w.rangeAt 4 0 (HFP.map U64)
theorem range_same {w w' : World} {b : Nat} {cs : List Value} (hk : w'.heap[b]? = w.heap[b]?) (h : w.rangeAt b 0 cs) : w'.rangeAt b 0 cs := fun j v hv => by
  rw [World.cell?_of_block (w := w) hk]
  exact h j v hv
theorem gt_low : GLow Gt 5 where
  size := fun w h => by
    have := block_lt_of_cell (h.g4 0 _ (by rfl : (HFP.map U64)[0]? = some (U64 0xdcff7fffffffd555#64)))
    exact this
  same := fun w w' hk h => ⟨range_same (hk 0 (by omega)) h.g0, range_same (hk 1 (by omega)) h.g1, range_same (hk 2 (by omega)) h.g2, range_same (hk 3 (by omega)) h.g3, range_same (hk 4 (by omega)) h.g4⟩
theorem mixed : Tryz.prog.follows .mixedOrders = true := by kernel_rfl
end Go.Proofs.YtdkmalaffcfoeaaGreatDoor

namespace Go.Proofs.YtdkmalaffcfoeaaGreatDoor
set_option maxRecDepth 100000
/-- The digits of bytes, two a byte, the high one first; the number of the first ones. -/
def NBv (bs : List (BitVec 8)) (m : Nat) : BitVec 8 := if m % 2 = 0 then bs.getD (m / 2) 0 >>> 4 else bs.getD (m / 2) 0 % 16#8
theorem NBv_lt (bs : List (BitVec 8)) (m : Nat) : (NBv bs m).toNat < 16 := by
  have h := (bs.getD (m / 2) 0).isLt
  unfold NBv
  split
  · rw [BitVec.toNat_ushiftRight, Nat.shiftRight_eq_div_pow]; omega
  · rw [BitVec.toNat_umod]; exact Nat.mod_lt _ (by decide)
def DN (bs : List (BitVec 8)) : Nat → Nat
  | 0 => 0
  | m + 1 => 16 * DN bs m + (NBv bs m).toNat
theorem DN_two (bs : List (BitVec 8)) : ∀ k, DN bs (2 * k) = BN bs k
  | 0 => rfl
  | k + 1 => by
    have h := (bs.getD k 0).isLt
    have e0 : NBv bs (2 * k) = bs.getD k 0 >>> 4 := by
      rw [NBv, if_pos (by omega), show 2 * k / 2 = k by omega]
    have e1 : NBv bs (2 * k + 1) = bs.getD k 0 % 16#8 := by
      rw [NBv, if_neg (by omega), show (2 * k + 1) / 2 = k by omega]
    rw [show 2 * (k + 1) = 2 * k + 1 + 1 by omega, DN, DN, DN_two bs k, BN, e0, e1, BitVec.toNat_ushiftRight, Nat.shiftRight_eq_div_pow, BitVec.toNat_umod, show (16#8).toNat = 16 from rfl]
    omega
theorem sq_step (x : Zp) (j D : Nat) : x ^ (2 ^ j * D) * x ^ (2 ^ j * D) = x ^ (2 ^ (j + 1) * D) := by
  rw [← padd, Nat.pow_succ, show 2 ^ j * 2 * D = 2 ^ j * D + 2 ^ j * D by rw [Nat.mul_right_comm]; omega]
theorem dig_step (x : Zp) (bs : List (BitVec 8)) (k : Nat) : x ^ (2 ^ 4 * DN bs k) * x ^ (NBv bs k).toNat = x ^ DN bs (k + 1) := by
  rw [← padd, DN]
/-! ### Sixteen powers -/
def SP (x : Zp) (i : Nat) : List (BitVec 64) := FL (fun j => if j < i then fe (x ^ j) else List.replicate 6 0) 16
theorem SP_len (x : Zp) (i : Nat) : (SP x i).length = 96 := FL_len _ _
theorem SP_one (x : Zp) : FL (fun i => if i = 0 then fe 1 else List.replicate 6 0) 16 = SP x 1 := FL_congr fun i _ => by
  by_cases h : i = 0
  · rw [if_pos h, if_pos (by omega), h, p0]
  · rw [if_neg h, if_neg (by omega)]
theorem SP_load (x : Zp) (i k : Nat) (hk : k < i) (hi : i ≤ 16) (o : Nat) (ho : o = 6 * k) : ∀ j v, ((fe (x ^ k)).map U64)[j]? = some v → ((SP x i).map U64)[o + j]? = some v := by
  have h := FL_load (fun j => if j < i then fe (x ^ j) else List.replicate 6 0) 16 k (by omega) (by simp only [if_pos hk]; exact fe_len _) o ho
  simp only [if_pos hk] at h
  exact h
theorem SP_step (x : Zp) (i : Nat) (h1 : 1 ≤ i) (hi : i < 16) (o : Nat) (ho : o = 6 * i) : lay o ((fe (x ^ (i - 1) * x)).map U64) ((SP x i).map U64) = (SP x (i + 1)).map U64 := by
  rw [SP, FL_lay _ 16 i _ hi (fe_len _) o ho]
  congr 1
  refine FL_congr fun j _ => ?_
  by_cases h : j = i
  · rw [if_pos h, if_pos (by omega), h, ← ps, show i - 1 + 1 = i by omega]
  · rw [if_neg h]
    by_cases h' : j < i
    · rw [if_pos h', if_pos (by omega)]
    · rw [if_neg h', if_neg (by omega)]
end Go.Proofs.YtdkmalaffcfoeaaGreatDoor

namespace Go.Proofs.YtdkmalaffcfoeaaGreatDoor
set_option maxRecDepth 100000
theorem low_bit (l : List (BitVec 64)) : (l.getD 0 0).toNat % 2 = V l 6 % 2 := by
  have h := V_bit l 6 0 (by decide)
  rw [Nat.testBit_zero, Nat.zero_div, Nat.zero_mod, BitVec.getLsbD, Nat.testBit_zero] at h
  have h' := decide_eq_decide.1 h
  omega
theorem odd_eq (x : Zp) : ((nm x).getD 0 0 % 2#64 == 1#64) = decide (x.val % 2 = 1) := by
  have h := low_bit (nm x)
  rw [V_nm] at h
  rw [← h]
  by_cases e : (nm x).getD 0 0 % 2#64 = 1#64
  · have := congrArg BitVec.toNat e
    rw [BitVec.toNat_umod] at this
    rw [beq_iff_eq.2 e, decide_eq_true]
    exact this
  · rw [beq_eq_false_iff_ne.2 e, decide_eq_false]
    intro h'
    apply e
    apply BitVec.eq_of_toNat_eq
    rw [BitVec.toNat_umod]
    exact h'
theorem odd_and (x : Zp) : decide ((nm x).getD 0 0 &&& 1#64 = 1#64) = decide (x.val % 2 = 1) := by
  have h := low_bit (nm x)
  rw [V_nm] at h
  rw [← h]
  apply decide_eq_decide.2
  constructor
  · intro e
    have := congrArg BitVec.toNat e
    rw [BitVec.toNat_and, show (1#64).toNat = 1 from rfl, Nat.and_one_is_mod] at this
    exact this
  · intro e
    apply BitVec.eq_of_toNat_eq
    rw [BitVec.toNat_and, show (1#64).toNat = 1 from rfl, Nat.and_one_is_mod]
    exact e
def hf : Nat := (PP - 1) / 2
def rg : Nat := (PP + 1) / 4
theorem PP_mod : PP % 4 = 3 := by decide +kernel
theorem PP_big : 1000 < PP := by decide +kernel
theorem hf_val : 2 * hf + 1 = PP := by have := PP_mod; unfold hf; omega
theorem rg_val : 4 * rg = PP + 1 := by have := PP_mod; unfold rg; omega
theorem hf_odd : hf % 2 = 1 := by have := PP_mod; have := hf_val; omega
theorem rg_hf : 2 * rg = hf + 1 := by have := rg_val; have := hf_val; omega
theorem large_eq (x : Zp) : LT HFP (nm x) 6 = decide (hf < x.val) := by rw [LT_val, V_nm, HFP_val]; rfl
theorem hf_pos : ∃ n, hf = n + 1 := ⟨hf - 1, by have := hf_val; have := PP_big; omega⟩
def SQr (x : Zp) : Zp := x ^ rg
def SQn (x : Zp) : Zp := if hf < (SQr x).val then -(SQr x) else SQr x
def SQ (x : Zp) : Zp := if SQr x * SQr x = x then SQn x else 0
/-- Bytes that are an element's. -/
def FO (bs : List (BitVec 8)) : Bool := decide (bs.length = 48 ∧ BN bs 48 < PP)
def FV (bs : List (BitVec 8)) : Zp := if bs.length = 48 ∧ BN bs 48 < PP then zp (BN bs 48) else 0
def ZB (bs : List (BitVec 8)) : Zp := zp (BN bs bs.length)
theorem R6_256g {k : Nat} (h : R6 = 2 ^ k) (hk : k = 8 * 48) : R6 = 256 ^ 48 := by rw [pow256, h, hk]
theorem R6_256 : R6 = 256 ^ 48 := R6_256g R6_def rfl
theorem wide_step (bs : List (BitVec 8)) (k cut : Nat) (h : k = 0 ∨ cut = 48) : zp (BN bs k) * RZ + zp (BN (bs.drop k) cut) = zp (BN bs (k + cut)) := by
  rw [BN_add bs k cut, zp_add, zp_mul]
  rcases h with rfl | rfl
  · rw [BN, zp_0]; grind
  · rw [← R6_256]; rfl
theorem cut_of {n : Nat} (h0 : 0 < n) (h : n % 48 = 0) : (n - 1) % 48 + 1 = 48 := by omega
theorem cut_rest {n : Nat} (h0 : 0 < n) : (n - ((n - 1) % 48 + 1)) % 48 = 0 ∧ (n - 1) % 48 + 1 ≤ n ∧ (n - 1) % 48 + 1 ≤ 48 := by omega
theorem BN_take (bs : List (BitVec 8)) (n : Nat) : BN (bs.take n) n = BN bs n := BN_congr n fun i hi => by
  rw [List.getD_eq_getElem?_getD, List.getD_eq_getElem?_getD, List.getElem?_take, if_pos hi]
end Go.Proofs.YtdkmalaffcfoeaaGreatDoor

namespace Go.Proofs.YtdkmalaffcfoeaaGreatDoor
set_option maxRecDepth 100000
theorem neg_val {a : Zp} (h : a ≠ 0) : (-a).val = PP - a.val := by
  have h0 : a.val ≠ 0 := fun e => h (Fin.ext e)
  have hl := a.isLt
  have e : zp (PP - a.val) + a = 0 := by
    have : zp (PP - a.val) + zp a.val = 0 := by rw [← zp_add, show PP - a.val + a.val = PP by omega, zp_PP]
    rw [zp_of] at this
    exact this
  have e2 : -a = zp (PP - a.val) := by grind
  rw [e2, zp_val, Nat.mod_eq_of_lt (by omega)]
theorem sgn_large {a : Zp} (h : ¬ a = 0) : (decide (hf < a.val) != decide (hf < (-a).val)) = true := by
  have hl := a.isLt
  have hp := hf_val
  rw [neg_val h]
  by_cases h1 : hf < a.val
  · rw [decide_eq_true h1, decide_eq_false (by omega)]; rfl
  · rw [decide_eq_false h1, decide_eq_true (by omega)]; rfl
/-- The half power of a square but 0. -/
theorem fermat2 {a : Zp} (h : a ≠ 0) : a ^ hf * a ^ hf = 1 := by
  rw [← padd, show hf + hf = PP - 1 by have := hf_val; omega, fermat h]
theorem half_or {a : Zp} (h : a ≠ 0) : a ^ hf = 1 ∨ a ^ hf = -1 := by
  have e := fermat2 h
  have : (a ^ hf - 1) * (a ^ hf + 1) = 0 := by grind
  rcases zmul0 this with h | h
  · left; grind
  · right; grind
theorem one_neg : ¬ (1 : Zp) = -1 := fun h => by
  have h2 : (1 : Zp) + 1 = 0 := (congrArg (fun z => z + (1 : Zp)) h).trans (by grind)
  have h3 := congrArg Fin.val h2
  rw [Fin.val_add, show (1 : Zp).val = 1 % PP from rfl, Nat.mod_eq_of_lt pr_p.1, Nat.mod_eq_of_lt (by have := PP_big; omega)] at h3
  cases h3
theorem sq_root (a : Zp) : SQr a * SQr a = a ^ hf * a := by rw [SQr, ← padd, ← Nat.two_mul, rg_hf, ps]
theorem SQ_sq {a : Zp} (h : SQr a * SQr a = a) : SQ a * SQ a = a := by
  rw [SQ, if_pos h, SQn]
  split
  · grind
  · exact h
theorem SQ_small {a : Zp} (h : SQr a * SQr a = a) : ¬ hf < (SQ a).val := by
  rw [SQ, if_pos h, SQn]
  split
  · rename_i h1
    have h0 : SQr a ≠ 0 := fun e => by rw [e] at h1; exact absurd h1 (Nat.not_lt_zero _)
    rw [neg_val h0]
    have := hf_val
    omega
  · rename_i h1; exact h1
/-- A square has a root: itself, or its opposite. -/
theorem sq_has (a : Zp) : SQr (a * a) * SQr (a * a) = a * a := by
  rw [sq_root]
  by_cases h : a = 0
  · rw [h]; grind
  · rw [mpow, fermat2 h]; grind
theorem neg_odd (a : Zp) (n : Nat) : (-a) ^ (2 * n + 1) = -(a ^ (2 * n + 1)) := by
  rw [ps, ps, pmul, pmul, show (-a) ^ 2 = a ^ 2 by grind]; grind
theorem neg_hf (a : Zp) : (-a) ^ hf = -(a ^ hf) := by
  obtain ⟨n, hn⟩ : ∃ n, hf = 2 * n + 1 := ⟨hf / 2, by have := hf_odd; omega⟩
  rw [hn]; exact neg_odd a n
/-- Halves. -/
theorem two_ne : zp 2 ≠ 0 := fun h => by
  have := congrArg Fin.val h
  rw [zp_val, Nat.mod_eq_of_lt (by have := PP_big; omega)] at this
  cases this
theorem zp_24 : zp 4 = zp 2 * zp 2 ∧ zp 2 = 1 + 1 := ⟨zp_mul 2 2, zp_add 1 1⟩
end Go.Proofs.YtdkmalaffcfoeaaGreatDoor

namespace Go.Proofs.YtdkmalaffcfoeaaGreatDoor
set_option maxRecDepth 100000
abbrev W2 := Zp × Zp
def ad2 (x y : W2) : W2 := (x.1 + y.1, x.2 + y.2)
def ng2 (x : W2) : W2 := (-x.1, -x.2)
def sb2 (x y : W2) : W2 := (x.1 - y.1, x.2 - y.2)
def ml2 (x y : W2) : W2 := (x.1 * y.1 - x.2 * y.2, x.1 * y.2 + x.2 * y.1)
def cj2 (x : W2) : W2 := (x.1, -x.2)
def sc2 (x : W2) (c : Zp) : W2 := (x.1 * c, x.2 * c)
def nm2 (x : W2) : Zp := x.1 * x.1 + x.2 * x.2
def iv2 (x : W2) : W2 := (x.1 * nm2 x ^ (PP - 2), -x.2 * nm2 x ^ (PP - 2))
def on2 : W2 := (1, 0)
def ze2 : W2 := (0, 0)
theorem w2_ext {x y : W2} (h1 : x.1 = y.1) (h2 : x.2 = y.2) : x = y := Prod.ext h1 h2
def R2 : Rg W2 where
  zero := ze2
  one := on2
  add := ad2
  mul := ml2
  neg := ng2
  add_assoc := fun a b c => w2_ext (by simp only [ad2]; grind) (by simp only [ad2]; grind)
  add_comm := fun a b => w2_ext (by simp only [ad2]; grind) (by simp only [ad2]; grind)
  add_zero := fun a => w2_ext (by simp only [ad2, ze2]; grind) (by simp only [ad2, ze2]; grind)
  add_neg := fun a => w2_ext (by simp only [ad2, ng2, ze2]; grind) (by simp only [ad2, ng2, ze2]; grind)
  mul_assoc := fun a b c => w2_ext (by simp only [ml2]; grind) (by simp only [ml2]; grind)
  mul_comm := fun a b => w2_ext (by simp only [ml2]; grind) (by simp only [ml2]; grind)
  mul_one := fun a => w2_ext (by simp only [ml2, on2]; grind) (by simp only [ml2, on2]; grind)
  mul_add := fun a b c => w2_ext (by simp only [ml2, ad2]; grind) (by simp only [ml2, ad2]; grind)
theorem sb2_eq (x y : W2) : sb2 x y = ad2 x (ng2 y) := w2_ext (by simp only [sb2, ad2, ng2]; grind) (by simp only [sb2, ad2, ng2]; grind)
theorem nm2_mul (x y : W2) : nm2 (ml2 x y) = nm2 x * nm2 y := by simp only [nm2, ml2]; grind
/-! ### -1 is no square -/
theorem pow_pm1 {a : Zp} (h : a ≠ 0) : (a * a) ^ hf = 1 := by rw [mpow, fermat2 h]
theorem neg_zero1 {a : Zp} (h : 0 = -a) : a = 0 := by grind
theorem z_m1 (a : Zp) : a * 1 = a := by grind
theorem z_neg (a : Zp) : -(-a) = a := by grind
theorem z_m0 (a : Zp) : a * 0 = 0 := by grind
theorem no_i {a b : Zp} (h : a * a + b * b = 0) : b = 0 := by
  by_cases hb : b = 0
  · exact hb
  · exfalso
    have e : a * a = -(b * b) := by grind
    have e2 : (a * a) ^ hf = -1 := by rw [e, neg_hf, pow_pm1 hb]
    by_cases ha : a = 0
    · obtain ⟨n, hn⟩ := hf_pos
      rw [ha, z_m0, hn, zerop] at e2
      exact one_ne0 (neg_zero1 e2)
    · rw [pow_pm1 ha] at e2
      exact one_neg e2
theorem nm2_zero {x : W2} (h : nm2 x = 0) : x = ze2 := by
  have h1 := no_i h
  have h2 := no_i (a := x.2) (b := x.1) (by rw [← h]; simp only [nm2]; grind)
  exact w2_ext h2 h1
theorem z_00a : (0 : Zp) + 0 = 0 := by simp
theorem nm2_ze : nm2 ze2 = 0 := by simp only [nm2, ze2]; rw [z_m0, z_00a]
theorem nm2_ne {x : W2} (h : x ≠ ze2) : nm2 x ≠ 0 := fun e => h (nm2_zero e)
theorem iv2_mul {x : W2} (h : x ≠ ze2) : ml2 x (iv2 x) = on2 := by
  have hz := zinv (nm2_ne h)
  have e : nm2 x = x.1 * x.1 + x.2 * x.2 := rfl
  have k : ∀ j : Zp, nm2 x * j = 1 → ml2 x (x.1 * j, -x.2 * j) = on2 := fun j hj => by
    rw [e] at hj
    refine w2_ext ?_ ?_
    · simp only [ml2, on2]; grind
    · simp only [ml2, on2]; grind
  exact k _ hz
theorem ml2_zero {x y : W2} (h : ml2 x y = ze2) : x = ze2 ∨ y = ze2 := by
  have e := nm2_mul x y
  rw [h, nm2_ze] at e
  rcases zmul0 e.symm with h | h
  · exact .inl (nm2_zero h)
  · exact .inr (nm2_zero h)
/-! ### Powers -/
def pw2 (x : W2) (n : Nat) : W2 := R2.pw x n
theorem z_0m (a : Zp) : 0 * a = 0 := by grind
theorem z_00 : (0 : Zp) + 0 = 0 := by simp
theorem ml2_rr (a b : Zp) : ml2 (a, 0) (b, 0) = (a * b, 0) := w2_ext (by simp only [ml2]; grind) (by simp only [ml2]; rw [z_m0, z_0m, z_00])
theorem ml2_ii (a b : Zp) : ml2 (0, a) (0, b) = (-(a * b), 0) := w2_ext (by simp only [ml2]; grind) (by simp only [ml2]; rw [z_m0, z_0m, z_00])
theorem z_11 : (1 : Zp) * 1 = 1 := z_m1 1
/-! ### Roots -/
theorem sq2_eq {x y : W2} (h : ml2 x x = ml2 y y) : x = y ∨ x = ng2 y := by
  have hk : ml2 (sb2 x y) (ad2 x y) = ze2 := by
    have h1 := congrArg Prod.fst h
    have h2 := congrArg Prod.snd h
    simp only [ml2] at h1 h2
    refine w2_ext ?_ ?_
    · simp only [ml2, sb2, ad2, ze2]; grind
    · simp only [ml2, sb2, ad2, ze2]; grind
  rcases ml2_zero hk with h | h
  · left
    have h1 := congrArg Prod.fst h
    have h2 := congrArg Prod.snd h
    simp only [sb2, ze2] at h1 h2
    exact w2_ext (by grind) (by grind)
  · right
    have h1 := congrArg Prod.fst h
    have h2 := congrArg Prod.snd h
    simp only [ad2, ze2] at h1 h2
    exact w2_ext (by simp only [ng2]; grind) (by simp only [ng2]; grind)
def LG2 (x : W2) : Bool := if x.2 = 0 then decide (hf < x.1.val) else decide (hf < x.2.val)
theorem large_neg {a : Zp} (h : a ≠ 0) : decide (hf < (-a).val) = !decide (hf < a.val) := by
  have := sgn_large h
  cases h1 : decide (hf < a.val) <;> cases h2 : decide (hf < (-a).val) <;> rw [h1, h2] at this <;> first | rfl | cases this
theorem neg_eq0 {a : Zp} : -a = 0 ↔ a = 0 := ⟨fun h => by grind, fun h => by rw [h]; grind⟩
theorem LG2_neg {x : W2} (h : x ≠ ze2) : LG2 (ng2 x) = !LG2 x := by
  unfold LG2 ng2
  by_cases h2 : x.2 = 0
  · rw [if_pos (neg_eq0.2 h2), if_pos h2]
    exact large_neg fun e => h (w2_ext e h2)
  · rw [if_neg (fun e => h2 (neg_eq0.1 e)), if_neg h2]
    exact large_neg h2
theorem LG2_ze : LG2 ze2 = false := by decide +kernel
theorem ng2_ze : ng2 ze2 = ze2 := w2_ext (by simp only [ng2, ze2]; grind) (by simp only [ng2, ze2]; grind)
theorem ng2_sq (x : W2) : ml2 (ng2 x) (ng2 x) = ml2 x x := w2_ext (by simp only [ml2, ng2]; grind) (by simp only [ml2, ng2]; grind)
/-- Of the roots of an element just one isn't large. -/
theorem root2_one {x y : W2} (h : ml2 x x = ml2 y y) (hx : LG2 x = false) (hy : LG2 y = false) : x = y := by
  rcases sq2_eq h with e | e
  · exact e
  · by_cases h0 : y = ze2
    · rw [e, h0, ng2_ze]
    · rw [e, LG2_neg h0, hy] at hx; cases hx
/-- A square of Zp: has a root there. -/
def IsQ (a : Zp) : Prop := SQr a * SQr a = a
theorem isQ_of {a s : Zp} (h : s * s = a) : IsQ a := by rw [← h]; exact sq_has s
theorem isQ_iff (a : Zp) : IsQ a ↔ a = 0 ∨ a ^ hf = 1 := by
  unfold IsQ
  rw [sq_root]
  constructor
  · intro h
    by_cases h0 : a = 0
    · exact .inl h0
    · right
      have : (a ^ hf - 1) * a = 0 := by grind
      rcases zmul0 this with h | h
      · grind
      · exact absurd h h0
  · rintro (h | h)
    · rw [h]; grind
    · rw [h]; grind
theorem isQ_or (a : Zp) : IsQ a ∨ IsQ (-a) := by
  by_cases h : a = 0
  · exact .inl ((isQ_iff a).2 (.inl h))
  · rcases half_or h with h1 | h1
    · exact .inl ((isQ_iff a).2 (.inr h1))
    · right
      refine (isQ_iff (-a)).2 (.inr ?_)
      rw [neg_hf, h1]; grind
/-- Of two that multiply to the opposite of a square but 0 just one is a square. -/
theorem isQ_half {a b c : Zp} (h : a * b = -(c * c)) (hc : c ≠ 0) : (IsQ a ∧ ¬ IsQ b) ∨ (¬ IsQ a ∧ IsQ b) := by
  have ha : a ≠ 0 := fun e => hc (no_i (a := 0) (b := c) (by rw [e] at h; grind))
  have hb : b ≠ 0 := fun e => hc (no_i (a := 0) (b := c) (by rw [e] at h; grind))
  have e : a ^ hf * b ^ hf = -1 := by rw [← mpow, h, neg_hf, pow_pm1 hc]
  rcases half_or ha with h1 | h1
  · left
    refine ⟨(isQ_iff a).2 (.inr h1), fun k => ?_⟩
    rcases (isQ_iff b).1 k with k | k
    · exact hb k
    · rw [h1, k] at e; exact one_neg (by grind)
  · right
    refine ⟨fun k => ?_, (isQ_iff b).2 (.inr (by rw [h1] at e; grind))⟩
    rcases (isQ_iff a).1 k with k | k
    · exact ha k
    · rw [h1] at k; exact one_neg k.symm
theorem isQ_mulself (a : Zp) : IsQ (a * a) := isQ_of rfl
/-- A square's norm is a square. -/
theorem nm2_sq {x s : W2} (h : ml2 s s = x) : IsQ (nm2 x) := by rw [← h, nm2_mul]; exact isQ_mulself _
/-- The root of an element with i, of the norm's root and the half that is a square. -/
theorem root2_of {x : W2} {n s t h2 : Zp} (hn : n * n = nm2 x) (h2e : (1 + 1) * h2 = 1) (hs : s * s = (x.1 + n) * h2 ∨ s * s = (x.1 - n) * h2) (ht : s * t = 1) : ml2 (s, x.2 * h2 * t) (s, x.2 * h2 * t) = x := by
  have e : nm2 x = x.1 * x.1 + x.2 * x.2 := rfl
  rw [e] at hn
  have key : s * s - x.2 * h2 * t * (x.2 * h2 * t) = x.1 := by
    have e1 : x.2 * h2 * t * (x.2 * h2 * t) = (x.2 * x.2) * (h2 * h2) * (t * t) := by grind
    have e2 : x.2 * x.2 = n * n - x.1 * x.1 := by grind
    rcases hs with hs | hs
    · have e3 : (n * n - x.1 * x.1) * (h2 * h2) = s * s * ((n - x.1) * h2) := by grind
      have e4 : s * s * ((n - x.1) * h2) * (t * t) = (n - x.1) * h2 := by
        have : s * s * (t * t) = 1 := by grind
        grind
      rw [e1, e2, e3, e4, hs]
      grind
    · have e3 : (n * n - x.1 * x.1) * (h2 * h2) = s * s * (-(n + x.1) * h2) := by grind
      have e4 : s * s * (-(n + x.1) * h2) * (t * t) = -(n + x.1) * h2 := by
        have : s * s * (t * t) = 1 := by grind
        grind
      rw [e1, e2, e3, e4, hs]
      grind
  refine w2_ext key ?_
  simp only [ml2]
  have e5 : s * (x.2 * h2 * t) + x.2 * h2 * t * s = x.2 * ((1 + 1) * h2) * (s * t) := by grind
  rw [e5, h2e, ht]
  grind
theorem half_is : ∃ j : Zp, (1 + 1) * j = 1 := ⟨zp 2 ^ (PP - 2), by have h := zinv two_ne; rw [show (1 + 1 : Zp) = zp 2 from zp_24.2.symm]; exact h⟩
theorem half_sq {x : W2} {n j : Zp} (hn : n * n = nm2 x) : ((x.1 + n) * j) * ((x.1 - n) * j) = -(x.2 * j * (x.2 * j)) := by
  have hn' : n * n = x.1 * x.1 + x.2 * x.2 := hn
  grind
theorem half_no {x : W2} {j : Zp} (hj : (1 + 1) * j = 1) (h2 : x.2 ≠ 0) : x.2 * j ≠ 0 := fun e => by
  rcases zmul0 e with e | e
  · exact h2 e
  · rw [e] at hj; exact one_ne0 (hj.symm.trans (z_m0 _))
theorem no_half {a b c : Zp} (h : a * b = -(c * c)) (hc : c ≠ 0) : a ≠ 0 ∧ b ≠ 0 :=
  ⟨fun e => hc (no_i (a := 0) (b := c) (by rw [e] at h; grind)), fun e => hc (no_i (a := 0) (b := c) (by rw [e] at h; grind))⟩
theorem sqr_ne {a : Zp} (h : IsQ a) (h0 : a ≠ 0) : SQr a ≠ 0 := fun e => h0 (by
  have h' : SQr a * SQr a = a := h
  rw [e, z_m0] at h'
  exact h'.symm)
/-- Just elements whose norm is a square have roots. -/
theorem isQ2_iff (x : W2) : (∃ s, ml2 s s = x) ↔ IsQ (nm2 x) := by
  refine ⟨fun ⟨s, h⟩ => nm2_sq h, fun h => ?_⟩
  by_cases h2 : x.2 = 0
  · rcases isQ_or x.1 with hq | hq
    · exact ⟨(SQr x.1, 0), by rw [ml2_rr, show SQr x.1 * SQr x.1 = x.1 from hq]; exact w2_ext rfl h2.symm⟩
    · exact ⟨(0, SQr (-x.1)), by rw [ml2_ii, show SQr (-x.1) * SQr (-x.1) = -x.1 from hq, z_neg]; exact w2_ext rfl h2.symm⟩
  · obtain ⟨j, hj⟩ := half_is
    have hp := half_sq (x := x) (j := j) (n := SQr (nm2 x)) h
    have hb := half_no hj h2
    have hne := no_half hp hb
    rcases isQ_half hp hb with ⟨hq, _⟩ | ⟨_, hq⟩
    · exact ⟨_, root2_of h hj (.inl hq) (zinv (sqr_ne hq hne.1))⟩
    · exact ⟨_, root2_of h hj (.inr hq) (zinv (sqr_ne hq hne.2))⟩
end Go.Proofs.YtdkmalaffcfoeaaGreatDoor

namespace Go.Proofs.YtdkmalaffcfoeaaGreatDoor
set_option maxRecDepth 100000
/-! ### Equality, signs -/
theorem dec2_t {x y : W2} (h : x.1 = y.1) : decide (x.2 = y.2) = decide (x = y) := decide_eq_decide.2 ⟨fun h' => w2_ext h h', fun h' => by rw [h']⟩
theorem dec2_f {x y : W2} (h : ¬ x.1 = y.1) : false = decide (x = y) := (decide_eq_false fun h' => h (by rw [h'])).symm
theorem fe2_iff {x y : W2} : fe x.1 ++ fe x.2 = fe y.1 ++ fe y.2 ↔ x = y := by
  constructor
  · intro h
    have := List.append_inj h (by rw [fe_len, fe_len])
    exact w2_ext (fe_inj.1 this.1) (fe_inj.1 this.2)
  · intro h; rw [h]
theorem fe2_dec (x y : W2) : decide (fe x.1 ++ fe x.2 = fe y.1 ++ fe y.2) = decide (x = y) := decide_eq_decide.2 fe2_iff
def SG2 (x : W2) : Int := if x.1.val % 2 = 1 then 1 else if x.1 = 0 then (if x.2.val % 2 = 1 then 1 else 0) else 0
theorem odd_flip {a : Zp} (h : a ≠ 0) : (-a).val % 2 = 1 ↔ ¬ a.val % 2 = 1 := by
  have hl := a.isLt
  have hp := PP_mod
  rw [neg_val h]
  omega
theorem val_0 : (0 : Zp).val % 2 ≠ 1 := by decide +kernel
theorem ng0 : -(0 : Zp) = 0 := neg_eq0.2 rfl
theorem SG2_in (x : W2) : SG2 x = 0 ∨ SG2 x = 1 := by
  unfold SG2
  split
  · exact .inr rfl
  · split
    · split
      · exact .inr rfl
      · exact .inl rfl
    · exact .inl rfl
theorem SG2_neg {x : W2} (h : x ≠ ze2) : SG2 x + SG2 (ng2 x) = 1 := by
  by_cases h1 : x.1 = 0
  · have h2 : x.2 ≠ 0 := fun e => h (w2_ext h1 e)
    have e1 : ¬ x.1.val % 2 = 1 := by rw [h1]; exact val_0
    have e2 : ¬ (ng2 x).1.val % 2 = 1 := by show ¬ (-x.1).val % 2 = 1; rw [h1, ng0]; exact val_0
    have e3 : (ng2 x).1 = 0 := by show -x.1 = 0; rw [h1, ng0]
    have e4 := odd_flip h2
    rw [SG2, SG2, if_neg e1, if_pos h1, if_neg e2, if_pos e3]
    show (if x.2.val % 2 = 1 then 1 else 0) + (if (-x.2).val % 2 = 1 then 1 else 0) = (1 : Int)
    by_cases h3 : x.2.val % 2 = 1
    · rw [if_pos h3, if_neg (fun e => e4.1 e h3)]; rfl
    · rw [if_neg h3, if_pos (e4.2 h3)]; rfl
  · have e3 : ¬ (ng2 x).1 = 0 := fun e => h1 (neg_eq0.1 e)
    have e4 := odd_flip h1
    rw [SG2, SG2, if_neg h1, if_neg e3]
    show (if x.1.val % 2 = 1 then 1 else 0) + (if (-x.1).val % 2 = 1 then 1 else 0) = (1 : Int)
    by_cases h3 : x.1.val % 2 = 1
    · rw [if_pos h3, if_neg (fun e => e4.1 e h3)]; rfl
    · rw [if_neg h3, if_pos (e4.2 h3)]; rfl
/-! ### Powers by digits -/
def fe2 (x : W2) : List (BitVec 64) := fe x.1 ++ fe x.2
theorem fe2_len (x : W2) : (fe2 x).length = 12 := by rw [fe2, List.length_append, fe_len, fe_len]
def SP2 (x : W2) (i : Nat) : List (BitVec 64) := FM (fun j => if j < i then fe2 (pw2 x j) else fe2 ze2) 16
theorem SP2_len (x : W2) (i : Nat) : (SP2 x i).length = 192 := FM_len _ _
/-! ### Roots -/
theorem LG_re {a : Zp} (h : ¬ hf < a.val) : LG2 (a, 0) = false := by
  show (if (0 : Zp) = 0 then decide (hf < a.val) else decide (hf < (0 : Zp).val)) = false
  rw [if_pos rfl]; exact decide_eq_false h
theorem LG_im {a : Zp} (h : ¬ hf < a.val) : LG2 (0, a) = false := by
  show (if a = 0 then decide (hf < (0 : Zp).val) else decide (hf < a.val)) = false
  split
  · exact decide_eq_false (Nat.not_lt_zero _)
  · exact decide_eq_false h
/-- The root of an element without i. -/
def RO (c : Zp) : W2 := if SQr c * SQr c = c then (SQ c, 0) else (0, SQ (-c))
theorem neg_isQ {c : Zp} (h : ¬ SQr c * SQr c = c) : SQr (-c) * SQr (-c) = -c := (isQ_or c).resolve_left h
theorem RO_sq (c : Zp) : ml2 (RO c) (RO c) = (c, 0) := by
  unfold RO
  split
  · rename_i h
    rw [ml2_rr, SQ_sq h]
  · rename_i h
    rw [ml2_ii, SQ_sq (neg_isQ h), z_neg]
theorem RO_small (c : Zp) : LG2 (RO c) = false := by
  unfold RO
  split
  · rename_i h
    exact LG_re (SQ_small h)
  · rename_i h
    exact LG_im (SQ_small (neg_isQ h))
theorem rb_a {s t j a b n : Zp} (ht : t * t = s + s) (hj : t * j = 1) (hs : s = a + n) (hn : n * n = a * a + b * b) : s * j * (s * j) - b * j * (b * j) = a := by
  have e : (s + s) * (j * j) = 1 := by
    rw [← ht]
    have : t * t * (j * j) = (t * j) * (t * j) := by grind
    rw [this, hj, z_11]
  have e2 : s * s - b * b = (s + s) * a := by
    subst hs
    grind
  have e3 : s * j * (s * j) - b * j * (b * j) = (s * s - b * b) * (j * j) := by grind
  have e4 : (s + s) * a * (j * j) = (s + s) * (j * j) * a := by grind
  rw [e3, e2, e4, e]
  grind
theorem rb_b {s t j b : Zp} (ht : t * t = s + s) (hj : t * j = 1) : s * j * (b * j) + b * j * (s * j) = b := by
  have e : (s + s) * (j * j) = 1 := by
    rw [← ht]
    have : t * t * (j * j) = (t * j) * (t * j) := by grind
    rw [this, hj, z_11]
  have e3 : s * j * (b * j) + b * j * (s * j) = (s + s) * (j * j) * b := by grind
  rw [e3, e]
  grind
theorem rb_c {s t j a b n : Zp} (ht : t * t = -(s + s)) (hj : t * j = 1) (hs : s = a + n) (hn : n * n = a * a + b * b) : b * j * (b * j) - -s * j * (-s * j) = a := by
  have e : -(s + s) * (j * j) = 1 := by
    rw [← ht]
    have : t * t * (j * j) = (t * j) * (t * j) := by grind
    rw [this, hj, z_11]
  have e2 : b * b - s * s = -(s + s) * a := by
    subst hs
    grind
  have e3 : b * j * (b * j) - -s * j * (-s * j) = (b * b - s * s) * (j * j) := by grind
  have e4 : -(s + s) * a * (j * j) = -(s + s) * (j * j) * a := by grind
  rw [e3, e2, e4, e]
  grind
theorem rb_d {s t j b : Zp} (ht : t * t = -(s + s)) (hj : t * j = 1) : b * j * (-s * j) + -s * j * (b * j) = b := by
  have e : -(s + s) * (j * j) = 1 := by
    rw [← ht]
    have : t * t * (j * j) = (t * j) * (t * j) := by grind
    rw [this, hj, z_11]
  have e3 : b * j * (-s * j) + -s * j * (b * j) = -(s + s) * (j * j) * b := by grind
  rw [e3, e]
  grind
theorem dbl_ne {s : Zp} (h : s ≠ 0) : s + s ≠ 0 := fun e => by
  obtain ⟨j, hj⟩ := half_is
  have : s = (s + s) * j := by
    have e1 : (s + s) * j = s * ((1 + 1) * j) := by grind
    rw [e1, hj, z_m1]
  rw [e, z_0m] at this
  exact h this
theorem sum_ne {a b n : Zp} (hn : n * n = a * a + b * b) (hb : b ≠ 0) : a + n ≠ 0 := fun e => by
  have : b * b = (a + n) * (n - a) := by grind
  rw [e, z_0m] at this
  exact hb ((zmul0 this).elim id id)
theorem sq_ne {a t : Zp} (h : t * t = a) (ha : a ≠ 0) : t ≠ 0 := fun e => ha (by rw [← h, e, z_m0])
/-- A root by a root of the norm, as the program reckons. -/
def RBs (x : W2) (n : Zp) : Zp := x.1 + n + (x.1 + n)
def RB (x : W2) (n : Zp) : W2 :=
  if SQr (RBs x n) * SQr (RBs x n) = RBs x n then ((x.1 + n) * SQ (RBs x n) ^ (PP - 2), x.2 * SQ (RBs x n) ^ (PP - 2))
  else (x.2 * SQ (-RBs x n) ^ (PP - 2), -(x.1 + n) * SQ (-RBs x n) ^ (PP - 2))
theorem RB_sq {x : W2} {n : Zp} (hn : n * n = nm2 x) (h2 : x.2 ≠ 0) : ml2 (RB x n) (RB x n) = x := by
  have hd : RBs x n ≠ 0 := dbl_ne (sum_ne hn h2)
  have hm : -RBs x n ≠ 0 := fun e => hd (neg_eq0.1 e)
  unfold RB
  split
  · rename_i h
    have e := SQ_sq h
    have hj := zinv (sq_ne e hd)
    generalize SQ (RBs x n) ^ (PP - 2) = j at *
    generalize SQ (RBs x n) = t at *
    exact w2_ext (rb_a e hj rfl hn) (rb_b e hj)
  · rename_i h
    have e := SQ_sq (neg_isQ h)
    have hj := zinv (sq_ne e hm)
    generalize SQ (-RBs x n) ^ (PP - 2) = j at *
    generalize SQ (-RBs x n) = t at *
    exact w2_ext (rb_c e hj rfl hn) (rb_d e hj)
/-- The same as the reference reckons. -/
def RF (x : W2) (n h : Zp) : W2 :=
  if SQr ((x.1 + n) * h) * SQr ((x.1 + n) * h) = (x.1 + n) * h then (SQ ((x.1 + n) * h), x.2 * h * SQ ((x.1 + n) * h) ^ (PP - 2))
  else (SQ ((x.1 - n) * h), x.2 * h * SQ ((x.1 - n) * h) ^ (PP - 2))
theorem RF_sq {x : W2} {n h : Zp} (hn : n * n = nm2 x) (hh : (1 + 1) * h = 1) (h2 : x.2 ≠ 0) : ml2 (RF x n h) (RF x n h) = x := by
  have hs := half_sq (j := h) hn
  have hc := half_no hh h2
  have hne := no_half hs hc
  have hq := isQ_half hs hc
  unfold RF
  split
  · rename_i q
    have e := SQ_sq q
    exact root2_of hn hh (.inl e) (zinv (sq_ne e hne.1))
  · rename_i q
    have q2 : IsQ ((x.1 - n) * h) := by
      rcases hq with ⟨a, _⟩ | ⟨_, b⟩
      · exact absurd a q
      · exact b
    have e := SQ_sq q2
    exact root2_of hn hh (.inr e) (zinv (sq_ne e hne.2))
/-- Of an element and its opposite the one that isn't large. -/
def NL (x : W2) : W2 := if LG2 x = true then ng2 x else x
theorem NL_sq (x : W2) : ml2 (NL x) (NL x) = ml2 x x := by
  unfold NL
  split
  · exact ng2_sq x
  · rfl
theorem NL_small (x : W2) : LG2 (NL x) = false := by
  unfold NL
  split
  · rename_i h
    have hx : x ≠ ze2 := fun e => by rw [e, LG2_ze] at h; cases h
    rw [LG2_neg hx, h]; rfl
  · rename_i h
    exact Bool.eq_false_iff.2 h
theorem root_same {x r q : W2} (hr : ml2 r r = x) (hl : LG2 r = false) (hq : ml2 q q = x) (hl' : LG2 q = false) : q = r := root2_one (hq.trans hr.symm) hl' hl
theorem root_re {x r : W2} (hr : ml2 r r = x) (hl : LG2 r = false) (h : x.2 = 0) : RO x.1 = r := root_same hr hl ((RO_sq x.1).trans (w2_ext rfl h.symm)) (RO_small _)
theorem root_rb {x r : W2} (hr : ml2 r r = x) (hl : LG2 r = false) (h : x.2 ≠ 0) : NL (RB x (SQ (nm2 x))) = r := root_same hr hl ((NL_sq _).trans (RB_sq (SQ_sq (nm2_sq hr)) h)) (NL_small _)
theorem root_rf {x r : W2} {j : Zp} (hr : ml2 r r = x) (hl : LG2 r = false) (hj : (1 + 1) * j = 1) (h : x.2 ≠ 0) : NL (RF x (SQ (nm2 x)) j) = r := root_same hr hl ((NL_sq _).trans (RF_sq (SQ_sq (nm2_sq hr)) hj h)) (NL_small _)
theorem no_re {x : W2} (h : ¬ IsQ (nm2 x)) : x.2 ≠ 0 := fun e => h ((isQ2_iff x).1 ⟨RO x.1, (RO_sq x.1).trans (w2_ext rfl e.symm)⟩)
theorem half_two : (1 + 1) * zp 2 ^ (PP - 2) = (1 : Zp) := by
  have h := zinv two_ne
  rw [show (1 + 1 : Zp) = zp 2 from zp_24.2.symm]; exact h
end Go.Proofs.YtdkmalaffcfoeaaGreatDoor

namespace Go.Proofs.YtdkmalaffcfoeaaGreatDoor
set_option maxRecDepth 100000
abbrev W6 := W2 × W2 × W2
def th : Nat := (PP - 1) / 3
/-! ### The power of p -/
/-! ### Six parts, as the reference multiplies them -/
end Go.Proofs.YtdkmalaffcfoeaaGreatDoor

namespace Go.Proofs.YtdkmalaffcfoeaaGreatDoor
set_option maxRecDepth 100000
section
variable {α : Type} [DecidableEq α] (C : Ec α)
end
/-! ### Over p -/
def E2w : Ec W2 where
  R := R2
  iv := iv2
  b := (zp 4, zp 4)
  hi := fun _ h => iv2_mul h
  h2 := by decide +kernel
  h3 := by decide +kernel
  hb := by decide +kernel
end Go.Proofs.YtdkmalaffcfoeaaGreatDoor

namespace Go.Proofs.YtdkmalaffcfoeaaGreatDoor
set_option maxRecDepth 100000
/-- A field in another, with the curve's number. -/
structure Em {α β : Type} (C : Ec α) (D : Ec β) where
  f : α → β
  h0 : f C.R.zero = D.R.zero
  ha : ∀ a b, f (C.R.add a b) = D.R.add (f a) (f b)
  hm : ∀ a b, f (C.R.mul a b) = D.R.mul (f a) (f b)
  hn : ∀ a, f (C.R.neg a) = D.R.neg (f a)
  hi : ∀ a b, f a = f b → a = b
  hb : f C.b = D.b
section
variable {α β : Type} {C : Ec α} {D : Ec β} (e : Em C D)
def Em.q (p : α × α) : β × β := (e.f p.1, e.f p.2)
def Em.p : Pt α → Pt β
  | none => none
  | some p => some (e.q p)
theorem Em.sub (a b : α) : e.f (C.sub a b) = D.sub (e.f a) (e.f b) := by rw [Ec.sub, Ec.sub, e.ha, e.hn]
theorem Em.on {p : α × α} (h : C.on p) : D.on (e.q p) := by
  have := congrArg e.f h
  rw [e.hm, e.ha, e.hm, e.hm, e.hb] at this
  exact this
theorem Em.onP {P : Pt α} (h : C.onP P) : D.onP (e.p P) := by
  cases P with
  | none => trivial
  | some p => exact e.on h
theorem Em.sl {p q : α × α} {s : α} (h : C.Sl p q s) : D.Sl (e.q p) (e.q q) (e.f s) := by
  have h1 := congrArg e.f h.1
  have h2 := congrArg e.f h.2
  rw [e.hm, e.sub, e.sub] at h1
  rw [e.hm, e.ha, e.ha, e.ha, e.hm, e.hm, e.hm] at h2
  exact ⟨h1, h2⟩
theorem Em.opp {p q : α × α} : D.opp (e.q p) (e.q q) ↔ C.opp p q :=
  ⟨fun h => ⟨e.hi _ _ h.1, e.hi _ _ (by rw [e.ha, e.h0]; exact h.2)⟩, fun h => ⟨congrArg e.f h.1, by
    have := congrArg e.f h.2
    rw [e.ha, e.h0] at this
    exact this⟩⟩
theorem Em.th (p q : α × α) (s : α) : D.th (e.q p) (e.q q) (e.f s) = e.q (C.th p q s) := by
  have hx : D.x3 (e.q p) (e.q q) (e.f s) = e.f (C.x3 p q s) := by rw [Ec.x3, Ec.x3, e.sub, e.sub, e.hm]; rfl
  refine Prod.ext hx ?_
  show D.sub (D.R.mul (e.f s) (D.sub (e.f p.1) (D.x3 (e.q p) (e.q q) (e.f s)))) (e.f p.2) = e.f (C.sub (C.R.mul s (C.sub p.1 (C.x3 p q s))) p.2)
  rw [hx, e.sub, e.hm, e.sub]
theorem Em.ne (P : Pt α) : e.p (C.ne P) = D.ne (e.p P) := by
  cases P with
  | none => rfl
  | some p => exact congrArg some (Prod.ext rfl (e.hn _))
theorem Em.inj {P Q : Pt α} (h : e.p P = e.p Q) : P = Q := by
  cases P with
  | none =>
    cases Q with
    | none => rfl
    | some q => cases h
  | some p =>
    cases Q with
    | none => cases h
    | some q =>
      have h := Option.some.inj h
      exact congrArg some (Prod.ext (e.hi _ _ (congrArg Prod.fst h)) (e.hi _ _ (congrArg Prod.snd h)))
theorem Em.jr {J : α × α × α} {P : Pt α} (h : C.jr J P) : D.jr (e.f J.1, e.f J.2.1, e.f J.2.2) (e.p P) := by
  cases P with
  | none => exact (congrArg e.f h).trans e.h0
  | some p =>
    refine ⟨fun h' => h.1 (e.hi _ _ (h'.trans e.h0.symm)), ?_, ?_⟩
    · have := congrArg e.f h.2.1
      rw [e.hm, Ec.z2, e.hm] at this
      exact this
    · have := congrArg e.f h.2.2
      rw [e.hm, Ec.z3, e.hm, e.hm] at this
      exact this
end
section
variable {α β : Type} [DecidableEq α] [DecidableEq β] {C : Ec α} {D : Ec β} (e : Em C D)
theorem Em.ad {P Q : Pt α} (hP : C.onP P) (hQ : C.onP Q) : e.p (C.ad P Q) = D.ad (e.p P) (e.p Q) := by
  cases P with
  | none => rfl
  | some p =>
    cases Q with
    | none => rw [C.ad_nr]; exact (D.ad_nr _).symm
    | some q =>
      by_cases ho : C.opp p q
      · rw [C.ad_opp ho]; exact (D.ad_opp (e.opp.2 ho)).symm
      · obtain ⟨s, hs⟩ := C.sl_is hP hQ ho
        rw [C.ad_sl hP hQ ho hs]
        exact ((D.ad_sl (e.on hP) (e.on hQ) (fun h => ho (e.opp.1 h)) (e.sl hs)).trans (congrArg some (e.th p q s))).symm
theorem Em.times {P : Pt α} (hP : C.onP P) : ∀ n, e.p (C.times P n) = D.times (e.p P) n
  | 0 => rfl
  | n + 1 => by
    show e.p (C.ad (C.times P n) P) = D.ad (D.times (e.p P) n) (e.p P)
    rw [e.ad (C.times_on hP n) hP, Em.times hP n]
end
end Go.Proofs.YtdkmalaffcfoeaaGreatDoor

namespace Go.Proofs.YtdkmalaffcfoeaaGreatDoor
set_option maxRecDepth 100000
section
variable {α : Type} (C : Ec α)
theorem Ec.jr_z {J : α × α × α} {P : Pt α} (h : C.jr J P) : J.2.2 = C.R.zero ↔ P = none := by
  cases P with
  | none => exact ⟨fun _ => rfl, fun _ => h⟩
  | some p => exact ⟨fun e => absurd e h.1, fun e => by cases e⟩
theorem Ec.sc2 (a z c : α) : C.R.mul (C.R.mul a (C.z2 z)) (C.z2 c) = C.R.mul a (C.z2 (C.R.mul z c)) := Rg.same (R := C.R) (ρ := ev C.R [a, z, c]) (tm (tm (tv 0) (tm (tv 1) (tv 1))) (tm (tv 2) (tv 2))) (tm (tv 0) (tm (tm (tv 1) (tv 2)) (tm (tv 1) (tv 2)))) (by kernel_rfl)
/-- A point by its two numbers. -/
theorem Ec.jr_at (p : α × α) (h1 : C.R.one ≠ C.R.zero) : C.jr (p.1, p.2, C.R.one) (some p) := by
  refine ⟨h1, ?_, ?_⟩
  · show p.1 = C.R.mul p.1 (C.R.mul C.R.one C.R.one)
    rw [C.R.mul_one, C.R.mul_one]
  · show p.2 = C.R.mul p.2 (C.R.mul (C.R.mul C.R.one C.R.one) C.R.one)
    rw [C.R.mul_one, C.R.mul_one, C.R.mul_one]
end
section
variable {α : Type} [DecidableEq α] (C : Ec α)
theorem Ec.ad_none {P Q : Pt α} (hP : C.onP P) (hQ : C.onP Q) (h : C.ad P Q = none) : Q = C.ne P := by
  have := C.undo hP hQ
  rw [h, C.ad_nr] at this
  exact this.symm
theorem Ec.ad_ne_iff {P Q : Pt α} (hP : C.onP P) (hQ : C.onP Q) : C.ad P (C.ne Q) = none ↔ P = Q :=
  ⟨fun h => by
    have := C.ad_none hP (C.ne_on hQ) h
    have := congrArg C.ne this
    rw [C.ne_ne, C.ne_ne] at this
    exact this.symm, fun h => by rw [h]; exact C.ad_ne Q⟩
end
end Go.Proofs.YtdkmalaffcfoeaaGreatDoor

namespace Go.Proofs.YtdkmalaffcfoeaaGreatDoor
set_option maxRecDepth 100000
end Go.Proofs.YtdkmalaffcfoeaaGreatDoor

namespace Go.Proofs.YtdkmalaffcfoeaaGreatDoor
set_option maxRecDepth 100000
def RJ2 : Pt W2 → W6
  | none => (ze2, ze2, ze2)
  | some p => (p.1, p.2, on2)
theorem on2_ne : on2 ≠ ze2 := fun h => absurd (congrArg Prod.fst h) one_ne0
theorem jr2_at (p : W2 × W2) : E2w.jr (p.1, p.2, on2) (some p) := E2w.jr_at p on2_ne
theorem RJ2_jr (P : Pt W2) : E2w.jr (RJ2 P) P := by
  cases P with
  | none => rfl
  | some p => exact jr2_at p
end Go.Proofs.YtdkmalaffcfoeaaGreatDoor

namespace Go.Proofs.YtdkmalaffcfoeaaGreatDoor
end Go.Proofs.YtdkmalaffcfoeaaGreatDoor

namespace Go.Proofs.YtdkmalaffcfoeaaGreatDoor
set_option maxRecDepth 100000
/-- A map of one curve into another: it keeps sums and products; (w w f x, w w w f y) is a point where (x, y) is. -/
structure Hw {α β : Type} (C : Ec α) (D : Ec β) where
  f : α → β
  w : β
  fa : ∀ a b, f (C.R.add a b) = D.R.add (f a) (f b)
  fm : ∀ a b, f (C.R.mul a b) = D.R.mul (f a) (f b)
  fn : ∀ a, f (C.R.neg a) = D.R.neg (f a)
  f0 : f C.R.zero = D.R.zero
  fi : ∀ a, f a = D.R.zero → a = C.R.zero
  wn : w ≠ D.R.zero
  wb : D.R.mul (D.R.mul (D.R.mul w (D.R.mul w w)) (D.R.mul w (D.R.mul w w))) (f C.b) = D.b
section
variable {α β : Type} {C : Ec α} {D : Ec β} (T : Hw C D)
def Hw.m (p : α × α) : β × β := (D.R.mul (D.R.mul T.w T.w) (T.f p.1), D.R.mul (D.R.mul T.w (D.R.mul T.w T.w)) (T.f p.2))
theorem Hw.fs (a b : α) : T.f (C.sub a b) = D.sub (T.f a) (T.f b) := by
  show T.f (C.R.add a (C.R.neg b)) = D.R.add (T.f a) (D.R.neg (T.f b))
  rw [T.fa, T.fn]
theorem Hw.inj {a b : α} (h : T.f a = T.f b) : a = b := C.sub0 (T.fi _ (by rw [T.fs, h, D.sub_self]))
theorem Hw.w2 : D.R.mul T.w T.w ≠ D.R.zero := fun h => (D.fd.two h).elim T.wn T.wn
theorem Hw.w3 : D.R.mul T.w (D.R.mul T.w T.w) ≠ D.R.zero := fun h => (D.fd.two h).elim T.wn T.w2
def Hw.p : Pt α → Pt β
  | none => none
  | some q => some (T.m q)
theorem Hw.sl {p q : α × α} {s : α} (h : C.Sl p q s) : D.Sl (T.m p) (T.m q) (D.R.mul T.w (T.f s)) := by
  have k1 : D.R.mul (T.f s) (D.sub (T.f p.1) (T.f q.1)) = D.sub (T.f p.2) (T.f q.2) := by
    have e := congrArg T.f h.1
    rw [T.fm, T.fs, T.fs] at e
    exact e
  have k2 : D.R.mul (T.f s) (D.R.add (T.f p.2) (T.f q.2)) = D.R.add (D.R.add (D.R.mul (T.f p.1) (T.f p.1)) (D.R.mul (T.f p.1) (T.f q.1))) (D.R.mul (T.f q.1) (T.f q.1)) := by
    have e := congrArg T.f h.2
    rw [T.fm, T.fa, T.fa, T.fa, T.fm, T.fm, T.fm] at e
    exact e
  exact ⟨Rg.lc (R := D.R) (Rg.same (R := D.R) (ρ := ev D.R [T.f p.1, T.f p.2, T.f q.1, T.f q.2, T.f s, T.w, T.f C.b, D.b]) (ta (tm (tm (tv 5) (tv 4)) (ta (tm (tm (tv 5) (tv 5)) (tv 0)) (tn (tm (tm (tv 5) (tv 5)) (tv 2))))) (tm (tm (tv 5) (tm (tv 5) (tv 5))) (ta (tv 1) (tn (tv 3))))) (ta (ta (tm (tm (tv 5) (tm (tv 5) (tv 5))) (tv 1)) (tn (tm (tm (tv 5) (tm (tv 5) (tv 5))) (tv 3)))) (tm (tm (tv 5) (tm (tv 5) (tv 5))) (tm (tv 4) (ta (tv 0) (tn (tv 2)))))) (by kernel_rfl)) (lcm k1), Rg.lc (R := D.R) (Rg.same (R := D.R) (ρ := ev D.R [T.f p.1, T.f p.2, T.f q.1, T.f q.2, T.f s, T.w, T.f C.b, D.b]) (ta (tm (tm (tv 5) (tv 4)) (ta (tm (tm (tv 5) (tm (tv 5) (tv 5))) (tv 1)) (tm (tm (tv 5) (tm (tv 5) (tv 5))) (tv 3)))) (tm (tm (tm (tv 5) (tv 5)) (tm (tv 5) (tv 5))) (ta (ta (tm (tv 0) (tv 0)) (tm (tv 0) (tv 2))) (tm (tv 2) (tv 2))))) (ta (ta (ta (tm (tm (tm (tv 5) (tv 5)) (tv 0)) (tm (tm (tv 5) (tv 5)) (tv 0))) (tm (tm (tm (tv 5) (tv 5)) (tv 0)) (tm (tm (tv 5) (tv 5)) (tv 2)))) (tm (tm (tm (tv 5) (tv 5)) (tv 2)) (tm (tm (tv 5) (tv 5)) (tv 2)))) (tm (tm (tm (tv 5) (tv 5)) (tm (tv 5) (tv 5))) (tm (tv 4) (ta (tv 1) (tv 3))))) (by kernel_rfl)) (lcm k2)⟩
theorem Hw.th (p q : α × α) (s : α) : D.th (T.m p) (T.m q) (D.R.mul T.w (T.f s)) = T.m (C.th p q s) := by
  have ex : T.f (C.x3 p q s) = D.sub (D.sub (D.R.mul (T.f s) (T.f s)) (T.f p.1)) (T.f q.1) := by
    show T.f (C.sub (C.sub (C.R.mul s s) p.1) q.1) = _
    rw [T.fs, T.fs, T.fm]
  have ey : T.f (C.sub (C.R.mul s (C.sub p.1 (C.x3 p q s))) p.2) = D.sub (D.R.mul (T.f s) (D.sub (T.f p.1) (D.sub (D.sub (D.R.mul (T.f s) (T.f s)) (T.f p.1)) (T.f q.1)))) (T.f p.2) := by
    rw [T.fs, T.fm, T.fs, ex]
  refine Prod.ext ?_ ?_
  · show D.sub (D.sub (D.R.mul (D.R.mul T.w (T.f s)) (D.R.mul T.w (T.f s))) (D.R.mul (D.R.mul T.w T.w) (T.f p.1))) (D.R.mul (D.R.mul T.w T.w) (T.f q.1)) = D.R.mul (D.R.mul T.w T.w) (T.f (C.x3 p q s))
    rw [ex]
    exact Rg.same (R := D.R) (ρ := ev D.R [T.f p.1, T.f p.2, T.f q.1, T.f q.2, T.f s, T.w, T.f C.b, D.b]) (ta (ta (tm (tm (tv 5) (tv 4)) (tm (tv 5) (tv 4))) (tn (tm (tm (tv 5) (tv 5)) (tv 0)))) (tn (tm (tm (tv 5) (tv 5)) (tv 2)))) (tm (tm (tv 5) (tv 5)) (ta (ta (tm (tv 4) (tv 4)) (tn (tv 0))) (tn (tv 2)))) (by kernel_rfl)
  · show D.sub (D.R.mul (D.R.mul T.w (T.f s)) (D.sub (D.R.mul (D.R.mul T.w T.w) (T.f p.1)) (D.sub (D.sub (D.R.mul (D.R.mul T.w (T.f s)) (D.R.mul T.w (T.f s))) (D.R.mul (D.R.mul T.w T.w) (T.f p.1))) (D.R.mul (D.R.mul T.w T.w) (T.f q.1))))) (D.R.mul (D.R.mul T.w (D.R.mul T.w T.w)) (T.f p.2)) = D.R.mul (D.R.mul T.w (D.R.mul T.w T.w)) (T.f (C.sub (C.R.mul s (C.sub p.1 (C.x3 p q s))) p.2))
    rw [ey]
    exact Rg.same (R := D.R) (ρ := ev D.R [T.f p.1, T.f p.2, T.f q.1, T.f q.2, T.f s, T.w, T.f C.b, D.b]) (ta (tm (tm (tv 5) (tv 4)) (ta (tm (tm (tv 5) (tv 5)) (tv 0)) (tn (ta (ta (tm (tm (tv 5) (tv 4)) (tm (tv 5) (tv 4))) (tn (tm (tm (tv 5) (tv 5)) (tv 0)))) (tn (tm (tm (tv 5) (tv 5)) (tv 2))))))) (tn (tm (tm (tv 5) (tm (tv 5) (tv 5))) (tv 1)))) (tm (tm (tv 5) (tm (tv 5) (tv 5))) (ta (tm (tv 4) (ta (tv 0) (tn (ta (ta (tm (tv 4) (tv 4)) (tn (tv 0))) (tn (tv 2)))))) (tn (tv 1)))) (by kernel_rfl)
theorem Hw.opp {p q : α × α} : D.opp (T.m p) (T.m q) ↔ C.opp p q := by
  refine ⟨fun h => ⟨?_, ?_⟩, fun h => ⟨?_, ?_⟩⟩
  · have e : D.R.mul (D.R.mul T.w T.w) (D.sub (T.f p.1) (T.f q.1)) = D.R.zero := Rg.lc (R := D.R) (Rg.same (R := D.R) (ρ := ev D.R [T.f p.1, T.f p.2, T.f q.1, T.f q.2, T.f p.1, T.w, T.f C.b, D.b]) (ta (tm (tm (tv 5) (tv 5)) (ta (tv 0) (tn (tv 2)))) (tm to1 (tm (tm (tv 5) (tv 5)) (tv 2)))) (ta tz0 (tm to1 (tm (tm (tv 5) (tv 5)) (tv 0)))) (by kernel_rfl)) (lcm h.1)
    exact T.inj (D.sub0 ((D.fd.two e).resolve_left T.w2))
  · have e : D.R.mul (D.R.mul T.w (D.R.mul T.w T.w)) (D.R.add (T.f p.2) (T.f q.2)) = D.R.zero := Rg.lc (R := D.R) (Rg.same (R := D.R) (ρ := ev D.R [T.f p.1, T.f p.2, T.f q.1, T.f q.2, T.f p.1, T.w, T.f C.b, D.b]) (ta (tm (tm (tv 5) (tm (tv 5) (tv 5))) (ta (tv 1) (tv 3))) (tm to1 tz0)) (ta tz0 (tm to1 (ta (tm (tm (tv 5) (tm (tv 5) (tv 5))) (tv 1)) (tm (tm (tv 5) (tm (tv 5) (tv 5))) (tv 3))))) (by kernel_rfl)) (lcm h.2)
    have k := (D.fd.two e).resolve_left T.w3
    rw [← T.fa] at k
    exact T.fi _ k
  · show D.R.mul (D.R.mul T.w T.w) (T.f p.1) = D.R.mul (D.R.mul T.w T.w) (T.f q.1)
    rw [h.1]
  · have k : D.R.add (T.f p.2) (T.f q.2) = D.R.zero := by rw [← T.fa, h.2, T.f0]
    exact Rg.lc (R := D.R) (Rg.same (R := D.R) (ρ := ev D.R [T.f p.1, T.f p.2, T.f q.1, T.f q.2, T.f p.1, T.w, T.f C.b, D.b]) (ta (ta (tm (tm (tv 5) (tm (tv 5) (tv 5))) (tv 1)) (tm (tm (tv 5) (tm (tv 5) (tv 5))) (tv 3))) (tm (tm (tv 5) (tm (tv 5) (tv 5))) tz0)) (ta tz0 (tm (tm (tv 5) (tm (tv 5) (tv 5))) (ta (tv 1) (tv 3)))) (by kernel_rfl)) (lcm k)
variable [DecidableEq α] [DecidableEq β]
end
/-! ### Points of one order -/
section
variable {α : Type} [DecidableEq α] (C : Ec α)
theorem Ec.can {P Q S : Pt α} (hP : C.onP P) (hQ : C.onP Q) (hS : C.onP S) (h : C.ad P Q = C.ad P S) : Q = S := by
  rw [← C.undo hP hQ, h, C.undo hP hS]
end
end Go.Proofs.YtdkmalaffcfoeaaGreatDoor

namespace Go.Proofs.YtdkmalaffcfoeaaGreatDoor
set_option maxRecDepth 100000
end Go.Proofs.YtdkmalaffcfoeaaGreatDoor

namespace Go.Proofs.YtdkmalaffcfoeaaGreatDoor
set_option maxRecDepth 100000
section
variable {α : Type} (C : Ec α)
/-- Doubled. -/
def Ec.dbA (x : α × α × α) : α × α × α :=
  let a := C.R.add x.2.1 x.2.1
  let s := C.R.mul x.1 x.1
  let u := C.R.add (C.R.add s s) s
  let h := C.R.mul a a
  let b := C.R.mul h x.1
  let X := C.sub (C.sub (C.R.mul u u) b) b
  (X, C.sub (C.R.mul u (C.sub b X)) (C.R.mul (C.R.mul h a) x.2.1), C.R.mul x.2.2 a)
/-- Added, where x is another. -/
def Ec.adG (x y : α × α × α) : α × α × α :=
  let u := C.R.mul x.1 (C.R.mul y.2.2 y.2.2)
  let s := C.R.mul (C.R.mul x.2.1 (C.R.mul y.2.2 y.2.2)) y.2.2
  let h := C.sub (C.R.mul y.1 (C.R.mul x.2.2 x.2.2)) u
  let r := C.sub (C.R.mul (C.R.mul y.2.1 (C.R.mul x.2.2 x.2.2)) x.2.2) s
  let q := C.R.mul h h
  let c := C.R.mul q h
  let w := C.R.mul q u
  let X := C.sub (C.sub (C.sub (C.R.mul r r) c) w) w
  (X, C.sub (C.R.mul r (C.sub w X)) (C.R.mul c s), C.R.mul (C.R.mul x.2.2 y.2.2) h)
theorem Ec.same_iff {p q : α × α} {x y : α × α × α} (h : C.jr x (some p)) (k : C.jr y (some q)) : (C.R.mul x.1 (C.R.mul y.2.2 y.2.2) = C.R.mul y.1 (C.R.mul x.2.2 x.2.2) ↔ p.1 = q.1) ∧ (C.R.mul (C.R.mul x.2.1 (C.R.mul y.2.2 y.2.2)) y.2.2 = C.R.mul (C.R.mul y.2.1 (C.R.mul x.2.2 x.2.2)) x.2.2 ↔ p.2 = q.2) := by
  have hx : x.1 = C.R.mul p.1 (C.R.mul x.2.2 x.2.2) := h.2.1
  have hy : x.2.1 = C.R.mul p.2 (C.R.mul (C.R.mul x.2.2 x.2.2) x.2.2) := h.2.2
  have kx : y.1 = C.R.mul q.1 (C.R.mul y.2.2 y.2.2) := k.2.1
  have ky : y.2.1 = C.R.mul q.2 (C.R.mul (C.R.mul y.2.2 y.2.2) y.2.2) := k.2.2
  have n2 := C.mul_ne (C.z2_ne h.1) (C.z2_ne k.1)
  have n3 := C.mul_ne (C.z3_ne h.1) (C.z3_ne k.1)
  rw [hx, hy, kx, ky]
  refine ⟨⟨fun e => C.mul_can n2 ?_, fun e => ?_⟩, ⟨fun e => C.mul_can n3 ?_, fun e => ?_⟩⟩
  · show C.R.mul p.1 (C.R.mul (C.R.mul x.2.2 x.2.2) (C.R.mul y.2.2 y.2.2)) = C.R.mul q.1 (C.R.mul (C.R.mul x.2.2 x.2.2) (C.R.mul y.2.2 y.2.2))
    exact Rg.lc (R := C.R) (Rg.same (R := C.R) (ρ := ev C.R [p.1, q.1, x.2.2, y.2.2]) (ta (tm (tv 0) (tm (tm (tv 2) (tv 2)) (tm (tv 3) (tv 3)))) (tm to1 (tm (tm (tv 1) (tm (tv 3) (tv 3))) (tm (tv 2) (tv 2))))) (ta (tm (tv 1) (tm (tm (tv 2) (tv 2)) (tm (tv 3) (tv 3)))) (tm to1 (tm (tm (tv 0) (tm (tv 2) (tv 2))) (tm (tv 3) (tv 3))))) (by kernel_rfl)) (lcm e)
  · rw [e]
    exact Rg.same (R := C.R) (ρ := ev C.R [p.1, q.1, x.2.2, y.2.2]) (tm (tm (tv 1) (tm (tv 2) (tv 2))) (tm (tv 3) (tv 3))) (tm (tm (tv 1) (tm (tv 3) (tv 3))) (tm (tv 2) (tv 2))) (by kernel_rfl)
  · show C.R.mul p.2 (C.R.mul (C.R.mul (C.R.mul x.2.2 x.2.2) x.2.2) (C.R.mul (C.R.mul y.2.2 y.2.2) y.2.2)) = C.R.mul q.2 (C.R.mul (C.R.mul (C.R.mul x.2.2 x.2.2) x.2.2) (C.R.mul (C.R.mul y.2.2 y.2.2) y.2.2))
    exact Rg.lc (R := C.R) (Rg.same (R := C.R) (ρ := ev C.R [p.2, q.2, x.2.2, y.2.2]) (ta (tm (tv 0) (tm (tm (tm (tv 2) (tv 2)) (tv 2)) (tm (tm (tv 3) (tv 3)) (tv 3)))) (tm to1 (tm (tm (tm (tv 1) (tm (tm (tv 3) (tv 3)) (tv 3))) (tm (tv 2) (tv 2))) (tv 2)))) (ta (tm (tv 1) (tm (tm (tm (tv 2) (tv 2)) (tv 2)) (tm (tm (tv 3) (tv 3)) (tv 3)))) (tm to1 (tm (tm (tm (tv 0) (tm (tm (tv 2) (tv 2)) (tv 2))) (tm (tv 3) (tv 3))) (tv 3)))) (by kernel_rfl)) (lcm e)
  · rw [e]
    exact Rg.same (R := C.R) (ρ := ev C.R [p.2, q.2, x.2.2, y.2.2]) (tm (tm (tm (tv 1) (tm (tm (tv 2) (tv 2)) (tv 2))) (tm (tv 3) (tv 3))) (tv 3)) (tm (tm (tm (tv 1) (tm (tm (tv 3) (tv 3)) (tv 3))) (tm (tv 2) (tv 2))) (tv 2)) (by kernel_rfl)
theorem Ec.same_iff' {p q : α × α} {x y : α × α × α} (h : C.jr x (some p)) (k : C.jr y (some q)) : (C.R.mul x.1 (C.R.mul y.2.2 y.2.2) = C.R.mul y.1 (C.R.mul x.2.2 x.2.2) ↔ p.1 = q.1) ∧ (C.R.mul x.2.1 (C.R.mul (C.R.mul y.2.2 y.2.2) y.2.2) = C.R.mul y.2.1 (C.R.mul (C.R.mul x.2.2 x.2.2) x.2.2) ↔ p.2 = q.2) := by
  have s := C.same_iff h k
  rw [C.R.mul_assoc, C.R.mul_assoc y.2.1] at s
  exact s
/-- Are they one point? -/
def Ec.eqJ (x y : α × α × α) : Prop := (x.2.2 = C.R.zero ∧ y.2.2 = C.R.zero) ∨ (¬ x.2.2 = C.R.zero ∧ ¬ y.2.2 = C.R.zero ∧ C.R.mul x.1 (C.R.mul y.2.2 y.2.2) = C.R.mul y.1 (C.R.mul x.2.2 x.2.2) ∧ C.R.mul x.2.1 (C.R.mul (C.R.mul y.2.2 y.2.2) y.2.2) = C.R.mul y.2.1 (C.R.mul (C.R.mul x.2.2 x.2.2) x.2.2))
theorem Ec.eqJ_iff {x y : α × α × α} {P Q : Pt α} (h : C.jr x P) (k : C.jr y Q) : C.eqJ x y ↔ P = Q := by
  cases P with
  | none =>
    cases Q with
    | none => exact ⟨fun _ => rfl, fun _ => .inl ⟨h, k⟩⟩
    | some q => exact ⟨fun e => e.elim (fun e => absurd e.2 k.1) (fun e => absurd h e.1), fun e => by cases e⟩
  | some p =>
    cases Q with
    | none => exact ⟨fun e => e.elim (fun e => absurd e.1 h.1) (fun e => absurd k e.2.1), fun e => by cases e⟩
    | some q =>
      have s := C.same_iff' h k
      exact ⟨fun e => e.elim (fun e => absurd e.1 h.1) (fun e => congrArg some (Prod.ext (s.1.1 e.2.2.1) (s.2.1 e.2.2.2))), fun e => .inr ⟨h.1, k.1, s.1.2 (congrArg Prod.fst (Option.some.inj e)), s.2.2 (congrArg Prod.snd (Option.some.inj e))⟩⟩
theorem Ec.xy_w {J : α × α × α} {p : α × α} (h : C.jr J (some p)) {v : α} (hv : C.R.mul J.2.2 v = C.R.one) : C.R.mul J.1 (C.R.mul v v) = p.1 ∧ C.R.mul J.2.1 (C.R.mul (C.R.mul v v) v) = p.2 := by
  have hx : J.1 = C.R.mul p.1 (C.R.mul J.2.2 J.2.2) := h.2.1
  have hy : J.2.1 = C.R.mul p.2 (C.R.mul (C.R.mul J.2.2 J.2.2) J.2.2) := h.2.2
  have e2 : C.R.mul (C.R.mul J.2.2 v) (C.R.mul J.2.2 v) = C.R.one := by rw [hv, C.R.mul_one]
  refine ⟨?_, ?_⟩
  · rw [hx]
    exact Rg.lc (R := C.R) (Rg.same (R := C.R) (ρ := ev C.R [p.1, J.2.2, v]) (ta (tm (tm (tv 0) (tm (tv 1) (tv 1))) (tm (tv 2) (tv 2))) (tm (tv 0) to1)) (ta (tv 0) (tm (tv 0) (tm (tm (tv 1) (tv 2)) (tm (tv 1) (tv 2))))) (by kernel_rfl)) (lcm e2)
  · rw [hy]
    exact Rg.lc (R := C.R) (Rg.same (R := C.R) (ρ := ev C.R [p.2, J.2.2, v]) (ta (tm (tm (tv 0) (tm (tm (tv 1) (tv 1)) (tv 1))) (tm (tm (tv 2) (tv 2)) (tv 2))) (ta (tm (tm (tv 0) (tm (tv 1) (tv 2))) to1) (tm (tv 0) to1))) (ta (tv 0) (ta (tm (tm (tv 0) (tm (tv 1) (tv 2))) (tm (tm (tv 1) (tv 2)) (tm (tv 1) (tv 2)))) (tm (tv 0) (tm (tv 1) (tv 2))))) (by kernel_rfl)) (lca (lcm e2) (lcm hv))
theorem Ec.jr_zI {J : α × α × α} {P : Pt α} (h : C.jr J P) : J.2.2 = C.R.zero ↔ P = none := by
  cases P with
  | none => exact ⟨fun _ => rfl, fun _ => h⟩
  | some p => exact ⟨fun e => absurd e h.1, fun e => by cases e⟩
end
section
variable {α : Type} [DecidableEq α] (C : Ec α)
/-- Added. -/
def Ec.adA (x y : α × α × α) : α × α × α := if x.2.2 = C.R.zero then y else if y.2.2 = C.R.zero then x else if C.jh x.1 x.2.2 y.1 y.2.2 = C.R.zero then (if C.jq x.2.1 x.2.2 y.2.1 y.2.2 = C.R.zero then C.dbA x else (C.R.zero, C.R.zero, C.R.zero)) else C.adG x y
def Ec.dbN (x : α × α × α) : Nat → α × α × α
  | 0 => x
  | n + 1 => C.dbA (Ec.dbN x n)
/-- A bit more: its place, and what is summed up to it. -/
def Ec.stp (x : α × α × α) (A : (α × α × α) × Nat) (b : Nat) : (α × α × α) × Nat := (C.adA (C.dbN A.1 (A.2 - b)) x, b)
end
end Go.Proofs.YtdkmalaffcfoeaaGreatDoor

namespace Go.Proofs.YtdkmalaffcfoeaaGreatDoor
set_option maxRecDepth 100000
/-! ### Sums of powers -/
section
variable {α : Type} (R : Rg α)
def Rg.pev : List α → α → α
  | [], _ => R.zero
  | a :: p, x => R.add a (R.mul x (Rg.pev p x))
def Rg.pa : List α → List α → List α
  | [], q => q
  | a :: p, [] => a :: p
  | a :: p, b :: q => R.add a b :: Rg.pa p q
def Rg.pk (c : α) (p : List α) : List α := p.map (R.mul c)
def Rg.pp : List α → List α → List α
  | [], _ => []
  | _ :: _, [] => []
  | a :: p, b :: q => Rg.pa R (Rg.pk R a (b :: q)) (R.zero :: Rg.pp p (b :: q))
theorem Rg.pev_pa (x : α) : ∀ p q, R.pev (R.pa p q) x = R.add (R.pev p x) (R.pev q x)
  | [], q => (R.zero_add _).symm
  | a :: p, [] => (R.add_zero _).symm
  | a :: p, b :: q => by
    show R.add (R.add a b) (R.mul x (R.pev (R.pa p q) x)) = R.add (R.add a (R.mul x (R.pev p x))) (R.add b (R.mul x (R.pev q x)))
    rw [Rg.pev_pa x p q, R.mul_add, R.add_four]
theorem Rg.pev_pk (c x : α) : ∀ p, R.pev (R.pk c p) x = R.mul c (R.pev p x)
  | [] => (R.mul_zero _).symm
  | a :: p => by
    show R.add (R.mul c a) (R.mul x (R.pev (R.pk c p) x)) = R.mul c (R.add a (R.mul x (R.pev p x)))
    rw [Rg.pev_pk c x p, R.mul_add, R.mul_left_comm]
theorem Rg.pev_pp (x : α) : ∀ p q, R.pev (R.pp p q) x = R.mul (R.pev p x) (R.pev q x)
  | [], q => (R.zero_mul _).symm
  | a :: p, [] => (R.mul_zero _).symm
  | a :: p, b :: q => by
    show R.pev (R.pa (R.pk a (b :: q)) (R.zero :: R.pp p (b :: q))) x = R.mul (R.add a (R.mul x (R.pev p x))) (R.pev (b :: q) x)
    rw [R.pev_pa, R.pev_pk, R.add_mul, R.mul_assoc, ← Rg.pev_pp x p (b :: q)]
    show R.add _ (R.add R.zero _) = _
    rw [R.zero_add]
theorem Rg.len_pa : ∀ (p q : List α) (n : Nat), p.length ≤ n → q.length ≤ n → (R.pa p q).length ≤ n
  | [], _, _, _, h => h
  | _ :: _, [], _, h, _ => h
  | a :: p, b :: q, n, h, k => by
    have h : p.length + 1 ≤ n := h
    have k : q.length + 1 ≤ n := k
    have := Rg.len_pa p q (n - 1) (by omega) (by omega)
    show (R.pa p q).length + 1 ≤ n
    omega
theorem Rg.len_pp : ∀ p q : List α, (R.pp p q).length ≤ p.length + q.length - 1 ∧ (p.length = 0 → (R.pp p q).length = 0) ∧ (q.length = 0 → (R.pp p q).length = 0)
  | [], q => ⟨Nat.zero_le _, fun _ => rfl, fun _ => rfl⟩
  | a :: p, [] => ⟨Nat.zero_le _, fun _ => rfl, fun _ => rfl⟩
  | a :: p, b :: q => by
    refine ⟨?_, fun h => absurd h (Nat.succ_ne_zero _), fun h => absurd h (Nat.succ_ne_zero _)⟩
    have ih := Rg.len_pp p (b :: q)
    have e1 : (b :: q).length = q.length + 1 := rfl
    have e2 : (a :: p).length = p.length + 1 := rfl
    have h1 : (R.pk a (b :: q)).length = q.length + 1 := by rw [Rg.pk, List.length_map]; rfl
    refine R.len_pa _ _ _ (by omega) ?_
    show (R.pp p (b :: q)).length + 1 ≤ _
    rcases Nat.eq_zero_or_pos p.length with h0 | h0
    · have := ih.2.1 h0
      omega
    · omega
theorem Rg.mul_ex (p q : List α) : ∃ s : List α, s.length ≤ p.length + q.length - 1 ∧ (p.length = 0 → s.length = 0) ∧ (q.length = 0 → s.length = 0) ∧ ∀ x, R.pev s x = R.mul (R.pev p x) (R.pev q x) := ⟨R.pp p q, (R.len_pp p q).1, (R.len_pp p q).2.1, (R.len_pp p q).2.2, fun x => R.pev_pp x p q⟩
theorem Rg.add_ex (p q : List α) (n : Nat) (h : p.length ≤ n) (k : q.length ≤ n) : ∃ s : List α, s.length ≤ n ∧ ∀ x, R.pev s x = R.add (R.pev p x) (R.pev q x) := ⟨R.pa p q, R.len_pa p q n h k, fun x => R.pev_pa x p q⟩
/-- A root is split off. -/
theorem Rg.split (a : α) : ∀ p : List α, ∃ q : List α, q.length ≤ p.length - 1 ∧ ∀ x, R.pev p x = R.add (R.mul (R.pev q x) (R.add x (R.neg a))) (R.pev p a)
  | [] => ⟨[], Nat.le_refl _, fun x => by show R.zero = R.add (R.mul R.zero _) R.zero; rw [R.zero_mul, R.add_zero]⟩
  | [c] => ⟨[], Nat.le_refl _, fun x => by show R.add c (R.mul x R.zero) = R.add (R.mul R.zero _) (R.add c (R.mul a R.zero)); rw [R.zero_mul, R.zero_add, R.mul_zero, R.mul_zero]⟩
  | c :: d :: p => by
    obtain ⟨q, h1, h2⟩ := Rg.split a (d :: p)
    refine ⟨R.pev (d :: p) a :: q, ?_, fun x => ?_⟩
    · have e1 : (d :: p).length = p.length + 1 := rfl
      show q.length + 1 ≤ p.length + 2 - 1
      omega
    · show R.add c (R.mul x (R.pev (d :: p) x)) = R.add (R.mul (R.add (R.pev (d :: p) a) (R.mul x (R.pev q x))) (R.add x (R.neg a))) (R.add c (R.mul a (R.pev (d :: p) a)))
      rw [h2 x]
      generalize R.pev (d :: p) a = t
      generalize R.pev q x = u
      exact Rg.same (R := R) (ρ := ev R [c, x, t, u, a]) (ta (tv 0) (tm (tv 1) (ta (tm (tv 3) (ta (tv 1) (tn (tv 4)))) (tv 2)))) (ta (tm (ta (tv 2) (tm (tv 1) (tv 3))) (ta (tv 1) (tn (tv 4)))) (ta (tv 0) (tm (tv 4) (tv 2)))) (by kernel_rfl)
/-- One of fewer powers than roots is 0 everywhere. -/
theorem Rg.roots (hR : Fd R) : ∀ (n : Nat) (p : List α) (xs : Nat → α), p.length ≤ n → (∀ i j, i < j → j < n → xs i ≠ xs j) → (∀ i, i < n → R.pev p (xs i) = R.zero) → ∀ x, R.pev p x = R.zero
  | 0, p, _, h, _, _ => fun x => by
    obtain rfl : p = [] := List.eq_nil_of_length_eq_zero (by omega)
    rfl
  | n + 1, p, xs, h, hi, h0 => fun x => by
    obtain ⟨q, h1, h2⟩ := R.split (xs n) p
    have hp : ∀ x, R.pev p x = R.mul (R.pev q x) (R.add x (R.neg (xs n))) := fun x => by rw [h2 x, h0 n (by omega), R.add_zero]
    have hq := Rg.roots hR n q xs (by omega) (fun i j hij hj => hi i j hij (by omega)) (fun i hin => by
      have e := h0 i (by omega)
      rw [hp] at e
      refine (hR.two e).resolve_right fun e2 => hi i n hin (by omega) ?_
      have := R.neg_of e2
      rw [← R.neg_neg (xs i), ← this, R.neg_neg]) x
    rw [hp, hq, R.zero_mul]
end
theorem len_A {d e a a' A : Nat} (h1 : a ≤ d + 1) (k1 : a' ≤ e + 1) (lA : A ≤ a + a' - 1) : A ≤ d + e + 1 := by omega
theorem len_D {d e b b' B D : Nat} (h2 : b ≤ d - 1) (k2 : b' ≤ e - 1) (lB : B ≤ b + b' - 1) (lB1 : b = 0 → B = 0) (lB2 : b' = 0 → B = 0) (lD : D ≤ 4 + B - 1) (lD2 : B = 0 → D = 0) : D ≤ d + e + 1 := by
  rcases Nat.eq_zero_or_pos B with h0 | h0
  · rw [lD2 h0]; omega
  · have hb : 0 < b := Nat.pos_of_ne_zero fun e => by have := lB1 e; omega
    have hb' : 0 < b' := Nat.pos_of_ne_zero fun e => by have := lB2 e; omega
    omega
theorem len_E {d e a b E : Nat} (h1 : a ≤ d + 1) (k2 : b ≤ e - 1) (lE : E ≤ a + b - 1) (lE2 : b = 0 → E = 0) : E ≤ d + e - 1 := by
  rcases Nat.eq_zero_or_pos b with h0 | h0
  · rw [lE2 h0]; omega
  · omega
/-! ### What is made of a point's numbers -/
section
variable {α : Type} (C : Ec α)
/-- It is a(x) + y b(x) on the curve, a of at most d powers, b of two fewer. -/
def Ec.DW (d : Nat) (F : α → α → α) : Prop := ∃ a b : List α, a.length ≤ d + 1 ∧ b.length ≤ d - 1 ∧ ∀ x y, C.on (x, y) → F x y = C.R.add (C.R.pev a x) (C.R.mul y (C.R.pev b x))
theorem Ec.DW.up {C : Ec α} {d e : Nat} {F : α → α → α} (h : C.DW d F) (hd : d ≤ e) : C.DW e F := by
  obtain ⟨a, b, h1, h2, h3⟩ := h
  exact ⟨a, b, by omega, by omega, h3⟩
theorem Ec.DW.add {C : Ec α} {d : Nat} {F G : α → α → α} (h : C.DW d F) (k : C.DW d G) : C.DW d (fun x y => C.R.add (F x y) (G x y)) := by
  obtain ⟨a, b, h1, h2, h3⟩ := h
  obtain ⟨a', b', k1, k2, k3⟩ := k
  refine ⟨C.R.pa a a', C.R.pa b b', C.R.len_pa _ _ _ h1 k1, C.R.len_pa _ _ _ h2 k2, fun x y hxy => ?_⟩
  show C.R.add (F x y) (G x y) = _
  rw [h3 x y hxy, k3 x y hxy, C.R.pev_pa, C.R.pev_pa, C.R.mul_add, C.R.add_four]
theorem Ec.DW.neg {C : Ec α} {d : Nat} {F : α → α → α} (h : C.DW d F) : C.DW d (fun x y => C.R.neg (F x y)) := by
  obtain ⟨a, b, h1, h2, h3⟩ := h
  refine ⟨C.R.pk (C.R.neg C.R.one) a, C.R.pk (C.R.neg C.R.one) b, by rw [Rg.pk, List.length_map]; exact h1, by rw [Rg.pk, List.length_map]; exact h2, fun x y hxy => ?_⟩
  show C.R.neg (F x y) = _
  rw [h3 x y hxy, C.R.pev_pk, C.R.pev_pk]
  generalize C.R.pev a x = s
  generalize C.R.pev b x = t
  exact Rg.same (R := C.R) (ρ := ev C.R [s, t, y]) (tn (ta (tv 0) (tm (tv 2) (tv 1)))) (ta (tm (tn to1) (tv 0)) (tm (tv 2) (tm (tn to1) (tv 1)))) (by kernel_rfl)
theorem Ec.DW.sub {C : Ec α} {d : Nat} {F G : α → α → α} (h : C.DW d F) (k : C.DW d G) : C.DW d (fun x y => C.sub (F x y) (G x y)) := h.add k.neg
theorem Ec.DW.mul {C : Ec α} {d e : Nat} {F G : α → α → α} (h : C.DW d F) (k : C.DW e G) : C.DW (d + e) (fun x y => C.R.mul (F x y) (G x y)) := by
  obtain ⟨a, b, h1, h2, h3⟩ := h
  obtain ⟨a', b', k1, k2, k3⟩ := k
  obtain ⟨A, lA, _, _, hA⟩ := C.R.mul_ex a a'
  obtain ⟨B, lB, lB1, lB2, hB⟩ := C.R.mul_ex b b'
  obtain ⟨c, hc, h4⟩ : ∃ c : List α, c.length = 4 ∧ ∀ x, C.R.pev c x = C.R.add C.b (C.R.mul x (C.R.add C.R.zero (C.R.mul x (C.R.add C.R.zero (C.R.mul x (C.R.add C.R.one (C.R.mul x C.R.zero))))))) := ⟨[C.b, C.R.zero, C.R.zero, C.R.one], rfl, fun _ => rfl⟩
  obtain ⟨D, lD, _, lD2, hD⟩ := C.R.mul_ex c B
  obtain ⟨E, lE, _, lE2, hE⟩ := C.R.mul_ex a b'
  obtain ⟨G', lG, _, lG2, hG⟩ := C.R.mul_ex a' b
  have dD : D.length ≤ d + e + 1 := len_D h2 k2 lB lB1 lB2 (by rw [hc] at lD; exact lD) lD2
  have dE : E.length ≤ d + e - 1 := len_E h1 k2 lE lE2
  have dG : G'.length ≤ d + e - 1 := by rw [Nat.add_comm d e]; exact len_E k1 h2 lG lG2
  have dA : A.length ≤ d + e + 1 := len_A h1 k1 lA
  obtain ⟨S, lS, hS⟩ := C.R.add_ex A D (d + e + 1) dA dD
  obtain ⟨U, lU, hU⟩ := C.R.add_ex E G' (d + e - 1) dE dG
  refine ⟨S, U, lS, lU, fun x y hxy => ?_⟩
  · have hy : C.R.mul y y = C.R.add (C.R.mul x (C.R.mul x x)) C.b := hxy
    show C.R.mul (F x y) (G x y) = _
    rw [h3 x y hxy, k3 x y hxy, hS, hU, hA, hD, h4, hB, hE, hG]
    generalize C.R.pev a x = s
    generalize C.R.pev b x = t
    generalize C.R.pev a' x = s'
    generalize C.R.pev b' x = t'
    exact Rg.lc (R := C.R) (Rg.same (R := C.R) (ρ := ev C.R [s, t, s', t', x, y, C.b]) (ta (tm (ta (tv 0) (tm (tv 5) (tv 1))) (ta (tv 2) (tm (tv 5) (tv 3)))) (tm (tm (tv 1) (tv 3)) (ta (tm (tv 4) (tm (tv 4) (tv 4))) (tv 6)))) (ta (ta (ta (tm (tv 0) (tv 2)) (tm (ta (tv 6) (tm (tv 4) (ta tz0 (tm (tv 4) (ta tz0 (tm (tv 4) (ta to1 (tm (tv 4) tz0)))))))) (tm (tv 1) (tv 3)))) (tm (tv 5) (ta (tm (tv 0) (tv 3)) (tm (tv 2) (tv 1))))) (tm (tm (tv 1) (tv 3)) (tm (tv 5) (tv 5)))) (by kernel_rfl)) (lcm hy)
theorem Ec.DW.x (C : Ec α) : C.DW 1 (fun x _ => x) := ⟨[C.R.zero, C.R.one], [], Nat.le_refl _, Nat.zero_le _, fun x y _ => by
  show x = C.R.add (C.R.add C.R.zero (C.R.mul x (C.R.add C.R.one (C.R.mul x C.R.zero)))) (C.R.mul y C.R.zero)
  exact Rg.same (R := C.R) (ρ := ev C.R [x, y]) (tv 0) (ta (ta tz0 (tm (tv 0) (ta to1 (tm (tv 0) tz0)))) (tm (tv 1) tz0)) (by kernel_rfl)⟩
theorem Ec.DW.y (C : Ec α) : C.DW 2 (fun _ y => y) := ⟨[], [C.R.one], Nat.zero_le _, Nat.le_refl _, fun x y _ => by
  show y = C.R.add C.R.zero (C.R.mul y (C.R.add C.R.one (C.R.mul x C.R.zero)))
  exact Rg.same (R := C.R) (ρ := ev C.R [x, y]) (tv 1) (ta tz0 (tm (tv 1) (ta to1 (tm (tv 0) tz0)))) (by kernel_rfl)⟩
theorem Ec.DW.one (C : Ec α) : C.DW 0 (fun _ _ => C.R.one) := ⟨[C.R.one], [], Nat.le_refl _, Nat.zero_le _, fun x y _ => by
  show C.R.one = C.R.add (C.R.add C.R.one (C.R.mul x C.R.zero)) (C.R.mul y C.R.zero)
  exact Rg.same (R := C.R) (ρ := ev C.R [x, y]) to1 (ta (ta to1 (tm (tv 0) tz0)) (tm (tv 1) tz0)) (by kernel_rfl)⟩
theorem Ec.one_ne : C.R.one ≠ C.R.zero := fun h => C.h2 (by rw [h, C.R.add_zero])
/-- Double and add, with no question asked. -/
def Ec.js (x y : α) : List Bool → α × α × α → α × α × α
  | [], A => A
  | false :: r, A => Ec.js x y r (C.jd A.1 A.2.1 A.2.2)
  | true :: r, A => Ec.js x y r (C.ja (C.jd A.1 A.2.1 A.2.2).1 (C.jd A.1 A.2.1 A.2.2).2.1 (C.jd A.1 A.2.1 A.2.2).2.2 x y C.R.one)
/-- How many powers at most. -/
def mB : List Bool → Nat → Nat
  | [], m => m
  | false :: r, m => mB r (4 * m)
  | true :: r, m => mB r (3 * (4 * m) + 2)
structure Ec.DJ (m : Nat) (A : α → α → α × α × α) : Prop where
  X : C.DW (2 * m) (fun x y => (A x y).1)
  Y : C.DW (3 * m) (fun x y => (A x y).2.1)
  Z : C.DW m (fun x y => (A x y).2.2)
theorem Ec.DJ.d {C : Ec α} {m : Nat} {A : α → α → α × α × α} (h : C.DJ m A) : C.DJ (4 * m) (fun x y => C.jd (A x y).1 (A x y).2.1 (A x y).2.2) := by
  have XX := h.X.mul h.X
  have M := (XX.add XX).add XX
  have MM := M.mul M
  have YY := h.Y.mul h.Y
  have XY := h.X.mul YY
  have S2 := XY.add XY
  have S := S2.add S2
  have Y4 := YY.mul YY
  have Y8 := (Y4.add Y4).add (Y4.add Y4)
  have YZ := h.Y.mul h.Z
  have X' := ((MM.up (e := 2 * (4 * m)) (by omega)).sub (S.up (by omega))).sub (S.up (by omega))
  refine ⟨X', ?_, (YZ.add YZ).up (by omega)⟩
  exact ((M.mul ((S.up (e := 2 * (4 * m)) (by omega)).sub X')).up (by omega)).sub ((Y8.add Y8).up (by omega))
theorem Ec.DJ.a {C : Ec α} {m : Nat} {A : α → α → α × α × α} (h : C.DJ m A) : C.DJ (3 * m + 2) (fun x y => C.ja (A x y).1 (A x y).2.1 (A x y).2.2 x y C.R.one) := by
  have o1 := Ec.DW.one C
  have ZZ := h.Z.mul h.Z
  have hx := (Ec.DW.x C).mul ZZ
  have hX := h.X.mul (o1.mul o1)
  have H := (hx.up (e := 2 * m + 1) (by omega)).sub (hX.up (by omega))
  have hy := ((Ec.DW.y C).mul ZZ).mul h.Z
  have hY := (h.Y.mul (o1.mul o1)).mul o1
  have Q := (hy.up (e := 3 * m + 2) (by omega)).sub (hY.up (by omega))
  have HH := H.mul H
  have HHH := HH.mul H
  have W := hX.mul HH
  have X' := (((Q.mul Q).up (e := 2 * (3 * m + 2)) (by omega)).sub (HHH.up (by omega))).sub (W.up (by omega)) |>.sub (W.up (by omega))
  refine ⟨X', ?_, ((h.Z.mul o1).mul H).up (by omega)⟩
  exact ((Q.mul ((W.up (e := 2 * (3 * m + 2)) (by omega)).sub X')).up (by omega)).sub ((hY.mul HHH).up (by omega))
theorem Ec.DJ.s {C : Ec α} : ∀ (l : List Bool) (m : Nat) (A : α → α → α × α × α), C.DJ m A → C.DJ (mB l m) (fun x y => C.js x y l (A x y))
  | [], _, _, h => h
  | false :: r, _, _, h => Ec.DJ.s r _ _ h.d
  | true :: r, _, _, h => Ec.DJ.s r _ _ h.d.a
theorem Ec.DJ.p (C : Ec α) : C.DJ 1 (fun x y => (x, y, C.R.one)) := ⟨(Ec.DW.x C).up (by omega), (Ec.DW.y C).up (by omega), (Ec.DW.one C).up (by omega)⟩
end
section
variable {α : Type} [DecidableEq α] (C : Ec α)
end
end Go.Proofs.YtdkmalaffcfoeaaGreatDoor

namespace Go.Proofs.YtdkmalaffcfoeaaGreatDoor
set_option maxRecDepth 100000
/-! ### Products of what has no root -/
theorem isQ_mul {a b : Zp} (ha : IsQ a) (hb : IsQ b) : IsQ (a * b) := isQ_of (s := SQr a * SQr b) (by
  have ha : SQr a * SQr a = a := ha
  have hb : SQr b * SQr b = b := hb
  generalize SQr a = s at *
  generalize SQr b = t at *
  subst ha hb
  grind)
theorem noQ_mul {a b : Zp} (ha : ¬ IsQ a) (hb : ¬ IsQ b) : IsQ (a * b) := by
  have h := isQ_mul ((isQ_or a).resolve_left ha) ((isQ_or b).resolve_left hb)
  rw [show -a * -b = a * b by grind] at h
  exact h
def S5 : Zp := zp 0x186417302d5a65347a88b0f999ab2b504614aa5e2eebdeb1a014c40bceb7d2306c12a6d436befcf94d39c9db7b263cd4
theorem S5_sq : S5 * S5 = -(zp 5) := by decide +kernel
theorem noQ_5 : ¬ IsQ (zp 5) := by
  rcases isQ_half (a := zp 5) (b := -(zp 5)) (c := zp 5) (by generalize zp 5 = a; grind) (by decide +kernel) with h | h
  · exact absurd (isQ_of S5_sq) h.2
  · exact h.1
/-! ### The other curve -/
def OA : W2 := (0, zp 240)
def OB : W2 := (zp 1012, zp 1012)
def OZ : W2 := ng2 (zp 2, zp 1)
def gO (x : W2) : W2 := ad2 (ad2 (ml2 (ml2 x x) x) (ml2 OA x)) OB
def zu2 (u : W2) : W2 := ml2 (ml2 OZ u) u
def tu2 (u : W2) : W2 := ad2 (ml2 (zu2 u) (zu2 u)) (zu2 u)
def X1c : W2 := (zp 0x1a59d4b6bbf912a32d63b43028e2deeebe8d5d97ca64b6d66f64ac7a265a9305e1a40da5edb81b4e3ac4f5c28f5bd27, zp 0x15103a07f641331bb298f5ed3ba1230aa0bcc9f87d923077324df24a0f7ffa93045d3d6f94c17ae10efa11eb851e7336)
def R1c : W2 := (zp 0x28a5c165c0f2b6f84373bd5beb9a30d9ffef84fe5dc9a01a5e6825ee681d72252e4afbaf882c28f1c2935d806d2f71b, zp 0x17407d2938baedf8f3a537708747853994282b0535a8c4d8ffd7c0ebe3e31b581e4adea8190ec4a4a8ecaae9fd615d8a)
theorem X1c_mul : ml2 X1c (ml2 OZ OA) = OB := by decide +kernel
theorem R1c_sq : ml2 R1c R1c = gO X1c := by decide +kernel
theorem ZA_ne : ml2 OZ OA ≠ ze2 := by decide +kernel
theorem OA_ne : OA ≠ ze2 := by decide +kernel
theorem ml2_assoc (a b c : W2) : ml2 (ml2 a b) c = ml2 a (ml2 b c) := R2.mul_assoc a b c
theorem X1c_is : ml2 OB (iv2 (ml2 OZ OA)) = X1c := by
  rw [← X1c_mul, ml2_assoc, iv2_mul ZA_ne]
  exact R2.mul_one X1c
def x1O (u : W2) : W2 := if tu2 u = ze2 then ml2 OB (iv2 (ml2 OZ OA)) else ml2 (ml2 (ng2 OB) (iv2 OA)) (ad2 on2 (iv2 (tu2 u)))
theorem x1_eq {u : W2} (h : tu2 u ≠ ze2) : ml2 (ml2 OA (x1O u)) (tu2 u) = ml2 (ng2 OB) (ad2 (tu2 u) on2) := by
  have e1 := iv2_mul OA_ne
  have e2 := iv2_mul h
  rw [show x1O u = ml2 (ml2 (ng2 OB) (iv2 OA)) (ad2 on2 (iv2 (tu2 u))) from if_neg h]
  generalize tu2 u = t at *
  generalize iv2 t = s at *
  generalize iv2 OA = a' at *
  generalize OA = a at *
  generalize ng2 OB = b at *
  exact Rg.lc (R := R2) (Rg.same (R := R2) (ρ := ev R2 [a, a', b, t, s]) (ta (tm (tm (tv 0) (tm (tm (tv 2) (tv 1)) (ta to1 (tv 4)))) (tv 3)) (ta (tm (tm (tm (tv 2) (tv 3)) (ta to1 (tv 4))) to1) (tm (tv 2) to1))) (ta (tm (tv 2) (ta (tv 3) to1)) (ta (tm (tm (tm (tv 2) (tv 3)) (ta to1 (tv 4))) (tm (tv 0) (tv 1))) (tm (tv 2) (tm (tv 3) (tv 4))))) (by kernel_rfl)) (lca (lcm e1) (lcm e2))
theorem g_x2 {u : W2} (h : tu2 u ≠ ze2) : gO (ml2 (zu2 u) (x1O u)) = ml2 (ml2 (ml2 (zu2 u) (zu2 u)) (zu2 u)) (gO (x1O u)) := by
  have k := x1_eq h
  unfold tu2 at k
  unfold gO
  generalize zu2 u = z at *
  generalize x1O u = x at *
  generalize OA = a at *
  generalize OB = b at *
  exact Rg.lc (R := R2) (Rg.same (R := R2) (ρ := ev R2 [a, b, z, x]) (ta (ta (ta (tm (tm (tm (tv 2) (tv 3)) (tm (tv 2) (tv 3))) (tm (tv 2) (tv 3))) (tm (tv 0) (tm (tv 2) (tv 3)))) (tv 1)) (tm (ta to1 (tn (tv 2))) (tm (tn (tv 1)) (ta (ta (tm (tv 2) (tv 2)) (tv 2)) to1)))) (ta (tm (tm (tm (tv 2) (tv 2)) (tv 2)) (ta (ta (tm (tm (tv 3) (tv 3)) (tv 3)) (tm (tv 0) (tv 3))) (tv 1))) (tm (ta to1 (tn (tv 2))) (tm (tm (tv 0) (tv 3)) (ta (tm (tv 2) (tv 2)) (tv 2))))) (by kernel_rfl)) (lcm k)
theorem nm_zu (u : W2) : nm2 (zu2 u) = zp 5 * (nm2 u * nm2 u) := by
  rw [zu2, nm2_mul, nm2_mul, show nm2 OZ = zp 5 by decide +kernel]
  generalize zp 5 = a
  generalize nm2 u = n
  grind
/-- One of both places has a root. -/
theorem swu_has {u : W2} (h : ¬ IsQ (nm2 (gO (x1O u)))) : IsQ (nm2 (gO (ml2 (zu2 u) (x1O u)))) := by
  by_cases ht : tu2 u = ze2
  · refine absurd ((isQ2_iff _).1 ⟨R1c, ?_⟩) h
    rw [R1c_sq, show x1O u = ml2 OB (iv2 (ml2 OZ OA)) from if_pos ht, X1c_is]
  · rw [g_x2 ht, nm2_mul, nm2_mul, nm2_mul, nm_zu]
    have k := isQ_mul (noQ_mul noQ_5 h) (isQ_mulself (zp 5 * (nm2 u * nm2 u) * (nm2 u)))
    generalize nm2 (gO (x1O u)) = g at *
    generalize nm2 u = n at *
    generalize zp 5 = a at *
    rw [show a * (n * n) * (a * (n * n)) * (a * (n * n)) * g = a * g * (a * (n * n) * n * (a * (n * n) * n)) by grind]
    exact k
/-! ### The map to the second curve -/
def iXN : List W2 := [(zp 0x5c759507e8e333ebb5b7a9a47d7ed8532c52d39fd3a042a88b58423c50ae15d5c2638e343d9c71c6238aaaaaaaa97d6, zp 0x5c759507e8e333ebb5b7a9a47d7ed8532c52d39fd3a042a88b58423c50ae15d5c2638e343d9c71c6238aaaaaaaa97d6), (0, zp 0x11560bf17baa99bc32126fced787c88f984f87adf7ae0c7f9a208c6b4f20a4181472aaa9cb8d555526a9ffffffffc71a), (zp 0x11560bf17baa99bc32126fced787c88f984f87adf7ae0c7f9a208c6b4f20a4181472aaa9cb8d555526a9ffffffffc71e, zp 0x8ab05f8bdd54cde190937e76bc3e447cc27c3d6fbd7063fcd104635a790520c0a395554e5c6aaaa9354ffffffffe38d), (zp 0x171d6541fa38ccfaed6dea691f5fb614cb14b4e7f4e810aa22d6108f142b85757098e38d0f671c7188e2aaaaaaaa5ed1, 0)]
def iXD : List W2 := [(0, -zp 72), (zp 0xc, -zp 12), (zp 0x1, 0)]
def iYN : List W2 := [(zp 0x1530477c7ab4113b59a4c18b076d11930f7da5d4a07f649bf54439d87d27e500fc8c25ebf8c92f6812cfc71c71c6d706, zp 0x1530477c7ab4113b59a4c18b076d11930f7da5d4a07f649bf54439d87d27e500fc8c25ebf8c92f6812cfc71c71c6d706), (0, zp 0x5c759507e8e333ebb5b7a9a47d7ed8532c52d39fd3a042a88b58423c50ae15d5c2638e343d9c71c6238aaaaaaaa97be), (zp 0x11560bf17baa99bc32126fced787c88f984f87adf7ae0c7f9a208c6b4f20a4181472aaa9cb8d555526a9ffffffffc71c, zp 0x8ab05f8bdd54cde190937e76bc3e447cc27c3d6fbd7063fcd104635a790520c0a395554e5c6aaaa9354ffffffffe38f), (zp 0x124c9ad43b6cf79bfbf7043de3811ad0761b0f37a1e26286b0e977c69aa274524e79097a56dc4bd9e1b371c71c718b10, 0)]
def iYD : List W2 := [(-zp 432, -zp 432), (0, -zp 216), (zp 0x12, -zp 18), (zp 0x1, 0)]
theorem iso_poly : R2.pp (R2.pp iYN iYN) (R2.pp [OB, OA, ze2, on2] (R2.pp iXD (R2.pp iXD iXD))) = R2.pp (R2.pp iYD iYD) (R2.pa (R2.pp iXN (R2.pp iXN iXN)) (R2.pk (zp 4, zp 4) (R2.pp iXD (R2.pp iXD iXD)))) := by decide +kernel
theorem gO_pev (x : W2) : R2.pev [OB, OA, ze2, on2] x = gO x := by
  show ad2 OB (ml2 x (ad2 OA (ml2 x (ad2 ze2 (ml2 x (ad2 on2 (ml2 x ze2))))))) = ad2 (ad2 (ml2 (ml2 x x) x) (ml2 OA x)) OB
  generalize OA = a
  generalize OB = b
  exact Rg.same (R := R2) (ρ := ev R2 [a, b, x]) (ta (tv 1) (tm (tv 2) (ta (tv 0) (tm (tv 2) (ta tz0 (tm (tv 2) (ta to1 (tm (tv 2) tz0)))))))) (ta (ta (tm (tm (tv 2) (tv 2)) (tv 2)) (tm (tv 0) (tv 2))) (tv 1)) (by kernel_rfl)
theorem iso_eq (x : W2) : ml2 (ml2 (R2.pev iYN x) (R2.pev iYN x)) (ml2 (gO x) (ml2 (R2.pev iXD x) (ml2 (R2.pev iXD x) (R2.pev iXD x)))) = ml2 (ml2 (R2.pev iYD x) (R2.pev iYD x)) (ad2 (ml2 (R2.pev iXN x) (ml2 (R2.pev iXN x) (R2.pev iXN x))) (ml2 (zp 4, zp 4) (ml2 (R2.pev iXD x) (ml2 (R2.pev iXD x) (R2.pev iXD x))))) := by
  have h := congrArg (fun l => R2.pev l x) iso_poly
  simp only [R2.pev_pp, R2.pev_pa, R2.pev_pk, gO_pev] at h
  exact h
/-- Points of the other curve go to points of the second. -/
theorem iso_on {x y : W2} (h : ml2 y y = gO x) (hx : R2.pev iXD x ≠ ze2) (hy : R2.pev iYD x ≠ ze2) : E2w.on (ml2 (R2.pev iXN x) (iv2 (R2.pev iXD x)), ml2 (ml2 y (R2.pev iYN x)) (iv2 (R2.pev iYD x))) := by
  have e := iso_eq x
  rw [← h] at e
  have e1 := iv2_mul hx
  have e2 := iv2_mul hy
  show ml2 (ml2 (ml2 y (R2.pev iYN x)) (iv2 (R2.pev iYD x))) (ml2 (ml2 y (R2.pev iYN x)) (iv2 (R2.pev iYD x))) = ad2 (ml2 (ml2 (R2.pev iXN x) (iv2 (R2.pev iXD x))) (ml2 (ml2 (R2.pev iXN x) (iv2 (R2.pev iXD x))) (ml2 (R2.pev iXN x) (iv2 (R2.pev iXD x))))) (zp 4, zp 4)
  generalize R2.pev iXN x = xn at *
  generalize R2.pev iXD x = xd at *
  generalize R2.pev iYN x = yn at *
  generalize R2.pev iYD x = yd at *
  generalize iv2 xd = s at *
  generalize iv2 yd = t at *
  generalize ((zp 4, zp 4) : W2) = b at *
  exact Rg.lc (R := R2) (Rg.same (R := R2) (ρ := ev R2 [y, xn, xd, yn, yd, s, t, b]) (ta (tm (tm (tm (tv 0) (tv 3)) (tv 6)) (tm (tm (tv 0) (tv 3)) (tv 6))) (ta (ta (tm (tm (tm (tm (tv 5) (tv 5)) (tv 5)) (tm (tv 6) (tv 6))) (tm (tm (tv 4) (tv 4)) (ta (tm (tv 1) (tm (tv 1) (tv 1))) (tm (tv 7) (tm (tv 2) (tm (tv 2) (tv 2))))))) (tm (tm (ta (tn (tm (tm (tm (tv 0) (tv 0)) (tm (tv 3) (tv 3))) (tm (tv 6) (tv 6)))) (tv 7)) (ta (ta (tm (tm (tv 2) (tv 5)) (tm (tv 2) (tv 5))) (tm (tv 2) (tv 5))) to1)) to1)) (tm (tm (ta (tm (tm (tv 1) (tm (tv 1) (tv 1))) (tm (tm (tv 5) (tv 5)) (tv 5))) (tm (tv 7) (tm (tm (tm (tv 2) (tv 5)) (tm (tv 2) (tv 5))) (tm (tv 2) (tv 5))))) (ta (tm (tv 4) (tv 6)) to1)) to1))) (ta (ta (tm (tm (tv 1) (tv 5)) (tm (tm (tv 1) (tv 5)) (tm (tv 1) (tv 5)))) (tv 7)) (ta (ta (tm (tm (tm (tm (tv 5) (tv 5)) (tv 5)) (tm (tv 6) (tv 6))) (tm (tm (tv 3) (tv 3)) (tm (tm (tv 0) (tv 0)) (tm (tv 2) (tm (tv 2) (tv 2)))))) (tm (tm (ta (tn (tm (tm (tm (tv 0) (tv 0)) (tm (tv 3) (tv 3))) (tm (tv 6) (tv 6)))) (tv 7)) (ta (ta (tm (tm (tv 2) (tv 5)) (tm (tv 2) (tv 5))) (tm (tv 2) (tv 5))) to1)) (tm (tv 2) (tv 5)))) (tm (tm (ta (tm (tm (tv 1) (tm (tv 1) (tv 1))) (tm (tm (tv 5) (tv 5)) (tv 5))) (tm (tv 7) (tm (tm (tm (tv 2) (tv 5)) (tm (tv 2) (tv 5))) (tm (tv 2) (tv 5))))) (ta (tm (tv 4) (tv 6)) to1)) (tm (tv 4) (tv 6))))) (by kernel_rfl)) (lca (lca (lcm e) (lcm e1)) (lcm e2))
end Go.Proofs.YtdkmalaffcfoeaaGreatDoor

namespace Go.Proofs.YtdkmalaffcfoeaaGreatDoor
set_option maxRecDepth 100000
theorem iv2_ml {a b : W2} (ha : a ≠ ze2) (hb : b ≠ ze2) : iv2 (ml2 a b) = ml2 (iv2 a) (iv2 b) := by
  have e0 := iv2_mul (x := ml2 a b) (fun h => (ml2_zero h).elim ha hb)
  have e1 := iv2_mul ha
  have e2 := iv2_mul hb
  generalize iv2 (ml2 a b) = w at *
  generalize iv2 a = s at *
  generalize iv2 b = t at *
  exact Rg.lc (R := R2) (Rg.same (R := R2) (ρ := ev R2 [a, b, s, t, w]) (ta (tv 4) (ta (ta (tm (tm (tv 2) (tv 3)) to1) (tm (tn (tm (tv 4) (tm (tv 1) (tv 3)))) to1)) (tm (tn (tv 4)) to1))) (ta (tm (tv 2) (tv 3)) (ta (ta (tm (tm (tv 2) (tv 3)) (tm (tm (tv 0) (tv 1)) (tv 4))) (tm (tn (tm (tv 4) (tm (tv 1) (tv 3)))) (tm (tv 0) (tv 2)))) (tm (tn (tv 4)) (tm (tv 1) (tv 3))))) (by kernel_rfl)) (lca (lca (lcm e0) (lcm e1)) (lcm e2))
theorem ng2_ne {x : W2} (h : x ≠ ze2) : ng2 x ≠ ze2 := fun e => h (by
  have := congrArg ng2 e
  rw [ng2_ze] at this
  exact (R2.neg_neg x).symm.trans this)
/-! ### The first x -/
theorem sq_gO (x : W2) : ad2 (ml2 (ad2 (ml2 x x) OA) x) OB = gO x := by
  unfold gO
  generalize OA = a
  generalize OB = b
  exact Rg.same (R := R2) (ρ := ev R2 [x, a, b]) (ta (tm (ta (tm (tv 0) (tv 0)) (tv 1)) (tv 0)) (tv 2)) (ta (ta (tm (tm (tv 0) (tv 0)) (tv 0)) (tm (tv 1) (tv 0))) (tv 2)) (by kernel_rfl)
theorem sc_zu (u : W2) : ml2 (ml2 u u) OZ = zu2 u := by
  unfold zu2
  generalize OZ = z
  exact Rg.same (R := R2) (ρ := ev R2 [u, z]) (tm (tm (tv 0) (tv 0)) (tv 1)) (tm (tm (tv 1) (tv 0)) (tv 0)) (by kernel_rfl)
theorem zu_ng (u : W2) : zu2 (ng2 u) = zu2 u := by
  unfold zu2
  generalize OZ = z
  exact Rg.same (R := R2) (ρ := ev R2 [u, z]) (tm (tm (tv 1) (tn (tv 0))) (tn (tv 0))) (tm (tm (tv 1) (tv 0)) (tv 0)) (by kernel_rfl)
theorem tu_ng (u : W2) : tu2 (ng2 u) = tu2 u := by rw [tu2, tu2, zu_ng]
theorem x1_ng (u : W2) : x1O (ng2 u) = x1O u := by rw [x1O, x1O, tu_ng]
theorem first_y {u : W2} (h : tu2 u = ze2) : ml2 (ml2 OB (ad2 (tu2 u) on2)) (iv2 (ml2 OZ OA)) = x1O u := by
  rw [show x1O u = ml2 OB (iv2 (ml2 OZ OA)) from if_pos h, h, show ad2 ze2 on2 = on2 from R2.zero_add on2, show ml2 OB on2 = OB from R2.mul_one OB]
theorem first_n {u : W2} (h : ¬ tu2 u = ze2) : ml2 (ml2 OB (ad2 (tu2 u) on2)) (iv2 (ml2 (ng2 (tu2 u)) OA)) = x1O u := by
  rw [show x1O u = ml2 (ml2 (ng2 OB) (iv2 OA)) (ad2 on2 (iv2 (tu2 u))) from if_neg h]
  have e0 := iv2_mul (x := ml2 (ng2 (tu2 u)) OA) (fun k => (ml2_zero k).elim (ng2_ne h) OA_ne)
  have e1 := iv2_mul OA_ne
  have e2 := iv2_mul h
  generalize iv2 (ml2 (ng2 (tu2 u)) OA) = w at *
  generalize tu2 u = t at *
  generalize iv2 t = s at *
  generalize iv2 OA = a' at *
  generalize OA = a at *
  generalize OB = b at *
  exact Rg.lc (R := R2) (Rg.same (R := R2) (ρ := ev R2 [a, a', b, t, s, w]) (ta (tm (tm (tv 2) (ta (tv 3) to1)) (tv 5)) (ta (ta (tm (tm (tn (tv 2)) (tm (tv 1) (ta to1 (tv 4)))) to1) (tm (tn (tm (tv 2) (tm (tv 5) (tm (tv 3) (ta to1 (tv 4)))))) to1)) (tm (tn (tm (tv 2) (tv 5))) to1))) (ta (tm (tm (tn (tv 2)) (tv 1)) (ta to1 (tv 4))) (ta (ta (tm (tm (tn (tv 2)) (tm (tv 1) (ta to1 (tv 4)))) (tm (tm (tn (tv 3)) (tv 0)) (tv 5))) (tm (tn (tm (tv 2) (tm (tv 5) (tm (tv 3) (ta to1 (tv 4)))))) (tm (tv 0) (tv 1)))) (tm (tn (tm (tv 2) (tv 5))) (tm (tv 3) (tv 4))))) (by kernel_rfl)) (lca (lca (lcm e0) (lcm e1)) (lcm e2))
/-! ### Signs -/
/-- The root that has u's sign. -/
def sgS (r u : W2) : W2 := if SG2 r = SG2 u then r else ng2 r
theorem sgS_sq (r u : W2) : ml2 (sgS r u) (sgS r u) = ml2 r r := by
  unfold sgS
  split
  · rfl
  · exact ng2_sq r
theorem sgS_ng {r u : W2} (h : u ≠ ze2) : sgS r (ng2 u) = ng2 (sgS r u) := by
  have k := SG2_neg h
  by_cases e : SG2 r = SG2 u
  · rw [show sgS r u = r from if_pos e, sgS, if_neg (by rcases SG2_in r with a | a <;> rcases SG2_in u with b | b <;> omega)]
  · rw [show sgS r u = ng2 r from if_neg e, sgS, if_pos (by rcases SG2_in r with a | a <;> rcases SG2_in u with b | b <;> omega)]
    exact (R2.neg_neg r).symm
/-- The place that u is mapped to: x, and a root r, not large. -/
structure SwR (u x r : W2) : Prop where
  sq : ml2 r r = gO x
  lg : LG2 r = false
  at1 : x = x1O u ∨ (¬ IsQ (nm2 (gO (x1O u))) ∧ x = ml2 (zu2 u) (x1O u))
theorem swu_ex (u : W2) : ∃ x r, SwR u x r := by
  by_cases h : IsQ (nm2 (gO (x1O u)))
  · obtain ⟨r, hr⟩ := (isQ2_iff _).2 h
    exact ⟨_, NL r, (NL_sq r).trans hr, NL_small r, .inl rfl⟩
  · obtain ⟨r, hr⟩ := (isQ2_iff _).2 (swu_has h)
    exact ⟨_, NL r, (NL_sq r).trans hr, NL_small r, .inr ⟨h, rfl⟩⟩
theorem SwR.neg {u x r : W2} (h : SwR u x r) : SwR (ng2 u) x r := ⟨h.sq, h.lg, by rw [x1_ng, zu_ng]; exact h.at1⟩
theorem SwR.on {u x r : W2} (h : SwR u x r) : ml2 (sgS r u) (sgS r u) = gO x := (sgS_sq r u).trans h.sq
theorem tu_ze : tu2 ze2 = ze2 := by decide +kernel
theorem X1c_ne : X1c ≠ ze2 := by decide +kernel
theorem SwR.ze {x r : W2} (h : SwR ze2 x r) : x ≠ ze2 := by
  have e : x1O ze2 = X1c := (if_pos tu_ze).trans X1c_is
  rcases h.at1 with k | k
  · rw [k, e]; exact X1c_ne
  · refine absurd ((isQ2_iff _).1 ⟨R1c, ?_⟩) k.1
    rw [R1c_sq, e]
/-! ### The map to the second curve -/
def C6 : W2 := (zp 6, -zp 6)
theorem iXD_6 : iXD = [ml2 C6 C6, ad2 C6 C6, on2] := by decide +kernel
theorem iYD_6 : iYD = [ml2 C6 (ml2 C6 C6), ad2 (ml2 C6 C6) (ad2 (ml2 C6 C6) (ml2 C6 C6)), ad2 C6 (ad2 C6 C6), on2] := by decide +kernel
theorem xd_eq (x : W2) : R2.pev iXD x = ml2 (ad2 x C6) (ad2 x C6) := by
  rw [iXD_6]
  generalize C6 = c
  exact Rg.same (R := R2) (ρ := ev R2 [x, c]) (ta (tm (tv 1) (tv 1)) (tm (tv 0) (ta (ta (tv 1) (tv 1)) (tm (tv 0) (ta to1 (tm (tv 0) tz0)))))) (tm (ta (tv 0) (tv 1)) (ta (tv 0) (tv 1))) (by kernel_rfl)
theorem yd_eq (x : W2) : R2.pev iYD x = ml2 (ad2 x C6) (ml2 (ad2 x C6) (ad2 x C6)) := by
  rw [iYD_6]
  generalize C6 = c
  exact Rg.same (R := R2) (ρ := ev R2 [x, c]) (ta (tm (tv 1) (tm (tv 1) (tv 1))) (tm (tv 0) (ta (ta (tm (tv 1) (tv 1)) (ta (tm (tv 1) (tv 1)) (tm (tv 1) (tv 1)))) (tm (tv 0) (ta (ta (tv 1) (ta (tv 1) (tv 1))) (tm (tv 0) (ta to1 (tm (tv 0) tz0)))))))) (tm (ta (tv 0) (tv 1)) (tm (ta (tv 0) (tv 1)) (ta (tv 0) (tv 1)))) (by kernel_rfl)
def R32 : Zp := zp 0x1764c4d4cfa3326ab57cbfed7f4a64378dc56542f8ff574f159cb76173021e735e4c97e34b82fa6cc8627df6f1f0af2
theorem R32_sq : R32 * R32 = -(zp 32) := by decide +kernel
theorem noQ_32 : ¬ IsQ (zp 32) := by
  rcases isQ_half (a := zp 32) (b := -(zp 32)) (c := zp 32) (by generalize zp 32 = a; grind) (by decide +kernel) with h | h
  · exact absurd (isQ_of R32_sq) h.2
  · exact h.1
theorem g_pole : nm2 (gO (ng2 C6)) = zp 32 := by decide +kernel
theorem no_pole {x y : W2} (h : ml2 y y = gO x) : ad2 x C6 ≠ ze2 := fun k => by
  have e : x = ng2 C6 := by
    have h := k
    generalize C6 = c at *
    exact Rg.lc (R := R2) (Rg.same (R := R2) (ρ := ev R2 [x, c]) (ta (tv 0) (tm to1 tz0)) (ta (tn (tv 1)) (tm to1 (ta (tv 0) (tv 1)))) (by kernel_rfl)) (lcm h)
  have q := nm2_sq h
  rw [e, g_pole] at q
  exact noQ_32 q
theorem xd_ne {x y : W2} (h : ml2 y y = gO x) : R2.pev iXD x ≠ ze2 := fun e => (ml2_zero ((xd_eq x).symm.trans e)).elim (no_pole h) (no_pole h)
theorem yd_ne {x y : W2} (h : ml2 y y = gO x) : R2.pev iYD x ≠ ze2 := fun e => (ml2_zero ((yd_eq x).symm.trans e)).elim (no_pole h) (fun e => (ml2_zero e).elim (no_pole h) (no_pole h))
def XIs (x : W2) : W2 := ml2 (R2.pev iXN x) (iv2 (R2.pev iXD x))
def YIs (x y : W2) : W2 := ml2 (ml2 y (R2.pev iYN x)) (iv2 (R2.pev iYD x))
theorem xi_eq {n d e : W2} (hd : d ≠ ze2) (he : e ≠ ze2) : ml2 (ml2 n e) (iv2 (ml2 d e)) = ml2 n (iv2 d) := by
  rw [iv2_ml hd he]
  have e2 := iv2_mul he
  generalize iv2 d = s at *
  generalize iv2 e = t at *
  exact Rg.lc (R := R2) (Rg.same (R := R2) (ρ := ev R2 [n, d, e, s, t]) (ta (tm (tm (tv 0) (tv 2)) (tm (tv 3) (tv 4))) (tm (tm (tv 0) (tv 3)) to1)) (ta (tm (tv 0) (tv 3)) (tm (tm (tv 0) (tv 3)) (tm (tv 2) (tv 4)))) (by kernel_rfl)) (lcm e2)
theorem yi_eq {n d e : W2} (hd : d ≠ ze2) (he : e ≠ ze2) : ml2 (ml2 n d) (iv2 (ml2 d e)) = ml2 n (iv2 e) := by
  rw [iv2_ml hd he]
  have e1 := iv2_mul hd
  generalize iv2 d = s at *
  generalize iv2 e = t at *
  exact Rg.lc (R := R2) (Rg.same (R := R2) (ρ := ev R2 [n, d, e, s, t]) (ta (tm (tm (tv 0) (tv 1)) (tm (tv 3) (tv 4))) (tm (tm (tv 0) (tv 4)) to1)) (ta (tm (tv 0) (tv 4)) (tm (tm (tv 0) (tv 4)) (tm (tv 1) (tv 3)))) (by kernel_rfl)) (lcm e1)
theorem yi_ng (x y : W2) : YIs x (ng2 y) = ng2 (YIs x y) := by
  unfold YIs
  generalize R2.pev iYN x = n
  generalize iv2 (R2.pev iYD x) = t
  exact Rg.same (R := R2) (ρ := ev R2 [y, n, t]) (tm (tm (tn (tv 0)) (tv 1)) (tv 2)) (tn (tm (tm (tv 0) (tv 1)) (tv 2))) (by kernel_rfl)
theorem iso_at {x y : W2} (h : ml2 y y = gO x) : E2w.on (XIs x, YIs x y) := iso_on h (xd_ne h) (yd_ne h)
/-! ### Coefficients, the highest first -/
def HK (f : Nat → W2) (x : W2) : Nat → W2
  | 0 => ze2
  | k + 1 => ad2 (ml2 (HK f x k) x) (f k)
theorem HK_4 (f : Nat → W2) (x : W2) : HK f x 4 = R2.pev [f 3, f 2, f 1, f 0] x := by
  show ad2 (ml2 (ad2 (ml2 (ad2 (ml2 (ad2 (ml2 ze2 x) (f 0)) x) (f 1)) x) (f 2)) x) (f 3) = R2.pev [f 3, f 2, f 1, f 0] x
  generalize f 0 = a3
  generalize f 1 = a2
  generalize f 2 = a1
  generalize f 3 = a0
  exact Rg.same (R := R2) (ρ := ev R2 [a0, a1, a2, a3, x]) (ta (tm (ta (tm (ta (tm (ta (tm tz0 (tv 4)) (tv 3)) (tv 4)) (tv 2)) (tv 4)) (tv 1)) (tv 4)) (tv 0)) (ta (tv 0) (tm (tv 4) (ta (tv 1) (tm (tv 4) (ta (tv 2) (tm (tv 4) (ta (tv 3) (tm (tv 4) tz0)))))))) (by kernel_rfl)
theorem HK_z (f : Nat → W2) (x : W2) (h : f 0 = ze2) : HK f x 4 = R2.pev [f 3, f 2, f 1] x := by
  show ad2 (ml2 (ad2 (ml2 (ad2 (ml2 (ad2 (ml2 ze2 x) (f 0)) x) (f 1)) x) (f 2)) x) (f 3) = R2.pev [f 3, f 2, f 1] x
  rw [h]
  generalize f 1 = a2
  generalize f 2 = a1
  generalize f 3 = a0
  exact Rg.same (R := R2) (ρ := ev R2 [a0, a1, a2, x]) (ta (tm (ta (tm (ta (tm (ta (tm tz0 (tv 3)) tz0) (tv 3)) (tv 2)) (tv 3)) (tv 1)) (tv 3)) (tv 0)) (ta (tv 0) (tm (tv 3) (ta (tv 1) (tm (tv 3) (ta (tv 2) (tm (tv 3) tz0)))))) (by kernel_rfl)
theorem HK_3 (f : Nat → W2) (x : W2) : HK f x 3 = R2.pev [f 2, f 1, f 0] x := by
  show ad2 (ml2 (ad2 (ml2 (ad2 (ml2 ze2 x) (f 0)) x) (f 1)) x) (f 2) = R2.pev [f 2, f 1, f 0] x
  generalize f 0 = a2
  generalize f 1 = a1
  generalize f 2 = a0
  exact Rg.same (R := R2) (ρ := ev R2 [a0, a1, a2, x]) (ta (tm (ta (tm (ta (tm tz0 (tv 3)) (tv 2)) (tv 3)) (tv 1)) (tv 3)) (tv 0)) (ta (tv 0) (tm (tv 3) (ta (tv 1) (tm (tv 3) (ta (tv 2) (tm (tv 3) tz0)))))) (by kernel_rfl)
/-! ### What the laws ask besides -/
theorem noQ_21 : ¬ IsQ (nm2 (iv2 (zp 2, zp 1))) := fun h => by
  have e : zp 5 * nm2 (iv2 (zp 2, zp 1)) = 1 := by
    have q := nm2_mul (zp 2, zp 1) (iv2 (zp 2, zp 1))
    rw [iv2_mul (by decide +kernel), show nm2 (zp 2, zp 1) = zp 5 by decide +kernel] at q
    rw [← q]; decide +kernel
  have h : SQr (nm2 (iv2 (zp 2, zp 1))) * SQr (nm2 (iv2 (zp 2, zp 1))) = nm2 (iv2 (zp 2, zp 1)) := h
  refine noQ_5 (isQ_of (s := zp 5 * SQr (nm2 (iv2 (zp 2, zp 1)))) ?_)
  generalize nm2 (iv2 (zp 2, zp 1)) = n at *
  generalize SQr n = s at *
  generalize zp 5 = a at *
  subst h
  grind
end Go.Proofs.YtdkmalaffcfoeaaGreatDoor
