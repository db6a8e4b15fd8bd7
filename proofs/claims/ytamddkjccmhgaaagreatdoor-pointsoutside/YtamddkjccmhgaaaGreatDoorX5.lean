/-
  What is known of the package-level variables.
  Powers by digits of four bits, and by bits. Nothing here names a program.
  Signs, roots, numbers of many bytes: as functions of elements. Nothing here names a program.
  What the laws of layer 3 say of elements. Nothing here names a program.
  The field of p^2 elements: a + b i. Nothing here names a program.
  What the walks of package fp2 meet: signs, powers, roots. Nothing here names a program.
  The fields of p^6 and p^12 elements, over pairs: that they are fields; the power of p. Nothing here names a program.
  Inverses in the fields of p^6 and p^12 elements, as the reference reckons them. Nothing here names a program.
  Elements of fp6 among those of six parts. Nothing here names a program.
  The curves; the generator's order. Nothing here names a program.
  Curves over two fields, one in the other: points, sums, times. Nothing here names a program.
  Points: when a sum is none; times and the order; the generator. Nothing here names a program.
  Bits of bytes by masks. Nothing here names a program.
  The first curve's points of the order r: turned by a third root of 1. Nothing here names a program.
  The second curve; its generator's order. Nothing here names a program.
  The second curve: nine times the generator; a point's numbers as the reference holds them. Nothing here names a program.
  The second curve's points of the order r: over the field of p^12 elements. Nothing here names a program.
  The second curve's points of the order r: conjugates, turned. Nothing here names a program.
-/
import Derived.Test.YtamddkjccmhgaaaGreatDoorX4
import Derived.Test.YtamddkjccmhgaaaGreatDoorRows
import Derived.Test.YtamddkjccmhgaaaGreatDoorX3
import Derived.Test.YtamddkjccmhgaaaGreatDoorX1
namespace Go.Proofs.YtamddkjccmhgaaaGreatDoor
open Go.RowKit
set_option maxRecDepth 100000
def HFP : List (BitVec 64) := [0xdcff7fffffffd555#64, 0xf55ffff58a9ffff#64, 0xb39869507b587b12#64, 0xb23ba5c279c2895f#64, 0x258dd3db21a5d66b#64, 0xd0088f51cbff34d#64]
def RTP : List (BitVec 64) := [0xee7fbfffffffeaab#64, 0x7aaffffac54ffff#64, 0xd9cc34a83dac3d89#64, 0xd91dd2e13ce144af#64, 0x92c6e9ed90d2eb35#64, 0x680447a8e5ff9a6#64]
def IVP : List (BitVec 64) := [0xb9feffffffffaaa9#64, 0x1eabfffeb153ffff#64, 0x6730d2a0f6b0f624#64, 0x64774b84f38512bf#64, 0x4b1ba7b6434bacd7#64, 0x1a0111ea397fe69a#64]
theorem HFP_val : V HFP 6 = (PP - 1) / 2 := by decide +kernel
theorem RTP_val : V RTP 6 = (PP + 1) / 4 := by decide +kernel
theorem IVP_val : V IVP 6 = PP - 2 := by decide +kernel
/-- The package-level variables read as the program's text lays them. -/
structure Gt (w : World) : Prop where
  g0 : w.rangeAt 0 0 (TWO.map U64)
  g1 : w.rangeAt 1 0 (PL.map U64)
  g2 : w.rangeAt 2 0 (HFP.map U64)
  g3 : w.rangeAt 3 0 (RTP.map U64)
  g4 : w.rangeAt 4 0 (IVP.map U64)
theorem range_same {w w' : World} {b : Nat} {cs : List Value} (hk : w'.heap[b]? = w.heap[b]?) (h : w.rangeAt b 0 cs) : w'.rangeAt b 0 cs := fun j v hv => by
  rw [World.cell?_of_block (w := w) hk]
  exact h j v hv
theorem gt_low : GLow Gt 5 where
  size := fun w h => by
    have := block_lt_of_cell (h.g4 0 _ (by rfl : (IVP.map U64)[0]? = some (U64 0xb9feffffffffaaa9#64)))
    exact this
  same := fun w w' hk h => ⟨range_same (hk 0 (by omega)) h.g0, range_same (hk 1 (by omega)) h.g1, range_same (hk 2 (by omega)) h.g2, range_same (hk 3 (by omega)) h.g3, range_same (hk 4 (by omega)) h.g4⟩
theorem mixed : Tryz.prog.follows .mixedOrders = true := by kernel_rfl
end Go.Proofs.YtamddkjccmhgaaaGreatDoor

namespace Go.Proofs.YtamddkjccmhgaaaGreatDoor
set_option maxRecDepth 100000
/-- The digits of bytes, two a byte, the high one first; the number of the first ones. -/
def NBv (bs : List (BitVec 8)) (m : Nat) : BitVec 8 := if m % 2 = 0 then bs.getD (m / 2) 0 >>> 4 else bs.getD (m / 2) 0 % 16#8
theorem NBv_lt (bs : List (BitVec 8)) (m : Nat) : (NBv bs m).toNat < 16 := by
  have h := (bs.getD (m / 2) 0).isLt
  unfold NBv
  split
  · rw [BitVec.toNat_ushiftRight, Nat.shiftRight_eq_div_pow]; omega
  · rw [BitVec.toNat_umod]; exact Nat.mod_lt _ (by decide)
def DN (bs : List (BitVec 8)) : Nat → Nat
  | 0 => 0
  | m + 1 => 16 * DN bs m + (NBv bs m).toNat
theorem DN_two (bs : List (BitVec 8)) : ∀ k, DN bs (2 * k) = BN bs k
  | 0 => rfl
  | k + 1 => by
    have h := (bs.getD k 0).isLt
    have e0 : NBv bs (2 * k) = bs.getD k 0 >>> 4 := by
      rw [NBv, if_pos (by omega), show 2 * k / 2 = k by omega]
    have e1 : NBv bs (2 * k + 1) = bs.getD k 0 % 16#8 := by
      rw [NBv, if_neg (by omega), show (2 * k + 1) / 2 = k by omega]
    rw [show 2 * (k + 1) = 2 * k + 1 + 1 by omega, DN, DN, DN_two bs k, BN, e0, e1, BitVec.toNat_ushiftRight, Nat.shiftRight_eq_div_pow, BitVec.toNat_umod, show (16#8).toNat = 16 from rfl]
    omega
theorem sq_step (x : Zp) (j D : Nat) : x ^ (2 ^ j * D) * x ^ (2 ^ j * D) = x ^ (2 ^ (j + 1) * D) := by
  rw [← padd, Nat.pow_succ, show 2 ^ j * 2 * D = 2 ^ j * D + 2 ^ j * D by rw [Nat.mul_right_comm]; omega]
theorem dig_step (x : Zp) (bs : List (BitVec 8)) (k : Nat) : x ^ (2 ^ 4 * DN bs k) * x ^ (NBv bs k).toNat = x ^ DN bs (k + 1) := by
  rw [← padd, DN]
/-! ### Sixteen powers -/
def SP (x : Zp) (i : Nat) : List (BitVec 64) := FL (fun j => if j < i then fe (x ^ j) else List.replicate 6 0) 16
theorem SP_len (x : Zp) (i : Nat) : (SP x i).length = 96 := FL_len _ _
theorem SP_one (x : Zp) : FL (fun i => if i = 0 then fe 1 else List.replicate 6 0) 16 = SP x 1 := FL_congr fun i _ => by
  by_cases h : i = 0
  · rw [if_pos h, if_pos (by omega), h, p0]
  · rw [if_neg h, if_neg (by omega)]
theorem SP_load (x : Zp) (i k : Nat) (hk : k < i) (hi : i ≤ 16) (o : Nat) (ho : o = 6 * k) : ∀ j v, ((fe (x ^ k)).map U64)[j]? = some v → ((SP x i).map U64)[o + j]? = some v := by
  have h := FL_load (fun j => if j < i then fe (x ^ j) else List.replicate 6 0) 16 k (by omega) (by simp only [if_pos hk]; exact fe_len _) o ho
  simp only [if_pos hk] at h
  exact h
theorem SP_step (x : Zp) (i : Nat) (h1 : 1 ≤ i) (hi : i < 16) (o : Nat) (ho : o = 6 * i) : lay o ((fe (x ^ (i - 1) * x)).map U64) ((SP x i).map U64) = (SP x (i + 1)).map U64 := by
  rw [SP, FL_lay _ 16 i _ hi (fe_len _) o ho]
  congr 1
  refine FL_congr fun j _ => ?_
  by_cases h : j = i
  · rw [if_pos h, if_pos (by omega), h, ← ps, show i - 1 + 1 = i by omega]
  · rw [if_neg h]
    by_cases h' : j < i
    · rw [if_pos h', if_pos (by omega)]
    · rw [if_neg h', if_neg (by omega)]
end Go.Proofs.YtamddkjccmhgaaaGreatDoor

namespace Go.Proofs.YtamddkjccmhgaaaGreatDoor
set_option maxRecDepth 100000
def hf : Nat := (PP - 1) / 2
def rg : Nat := (PP + 1) / 4
theorem PP_mod : PP % 4 = 3 := by decide +kernel
theorem PP_big : 1000 < PP := by decide +kernel
theorem hf_val : 2 * hf + 1 = PP := by have := PP_mod; unfold hf; omega
theorem rg_val : 4 * rg = PP + 1 := by have := PP_mod; unfold rg; omega
theorem hf_odd : hf % 2 = 1 := by have := PP_mod; have := hf_val; omega
theorem rg_hf : 2 * rg = hf + 1 := by have := rg_val; have := hf_val; omega
theorem large_eq (x : Zp) : LT HFP (nm x) 6 = decide (hf < x.val) := by rw [LT_val, V_nm, HFP_val]; rfl
theorem hf_pos : ∃ n, hf = n + 1 := ⟨hf - 1, by have := hf_val; have := PP_big; omega⟩
def SQr (x : Zp) : Zp := x ^ rg
def SQn (x : Zp) : Zp := if hf < (SQr x).val then -(SQr x) else SQr x
def SQ (x : Zp) : Zp := if SQr x * SQr x = x then SQn x else 0
/-- Bytes that are an element's. -/
def FO (bs : List (BitVec 8)) : Bool := decide (bs.length = 48 ∧ BN bs 48 < PP)
def FV (bs : List (BitVec 8)) : Zp := if bs.length = 48 ∧ BN bs 48 < PP then zp (BN bs 48) else 0
def ZB (bs : List (BitVec 8)) : Zp := zp (BN bs bs.length)
theorem R6_256g {k : Nat} (h : R6 = 2 ^ k) (hk : k = 8 * 48) : R6 = 256 ^ 48 := by rw [pow256, h, hk]
theorem R6_256 : R6 = 256 ^ 48 := R6_256g R6_def rfl
theorem wide_step (bs : List (BitVec 8)) (k cut : Nat) (h : k = 0 ∨ cut = 48) : zp (BN bs k) * RZ + zp (BN (bs.drop k) cut) = zp (BN bs (k + cut)) := by
  rw [BN_add bs k cut, zp_add, zp_mul]
  rcases h with rfl | rfl
  · rw [BN, zp_0]; grind
  · rw [← R6_256]; rfl
theorem cut_of {n : Nat} (h0 : 0 < n) (h : n % 48 = 0) : (n - 1) % 48 + 1 = 48 := by omega
theorem cut_rest {n : Nat} (h0 : 0 < n) : (n - ((n - 1) % 48 + 1)) % 48 = 0 ∧ (n - 1) % 48 + 1 ≤ n ∧ (n - 1) % 48 + 1 ≤ 48 := by omega
theorem BN_take (bs : List (BitVec 8)) (n : Nat) : BN (bs.take n) n = BN bs n := BN_congr n fun i hi => by
  rw [List.getD_eq_getElem?_getD, List.getD_eq_getElem?_getD, List.getElem?_take, if_pos hi]
end Go.Proofs.YtamddkjccmhgaaaGreatDoor

namespace Go.Proofs.YtamddkjccmhgaaaGreatDoor
set_option maxRecDepth 100000
theorem neg_val {a : Zp} (h : a ≠ 0) : (-a).val = PP - a.val := by
  have h0 : a.val ≠ 0 := fun e => h (Fin.ext e)
  have hl := a.isLt
  have e : zp (PP - a.val) + a = 0 := by
    have : zp (PP - a.val) + zp a.val = 0 := by rw [← zp_add, show PP - a.val + a.val = PP by omega, zp_PP]
    rw [zp_of] at this
    exact this
  have e2 : -a = zp (PP - a.val) := by grind
  rw [e2, zp_val, Nat.mod_eq_of_lt (by omega)]
theorem sgn_large {a : Zp} (h : ¬ a = 0) : (decide (hf < a.val) != decide (hf < (-a).val)) = true := by
  have hl := a.isLt
  have hp := hf_val
  rw [neg_val h]
  by_cases h1 : hf < a.val
  · rw [decide_eq_true h1, decide_eq_false (by omega)]; rfl
  · rw [decide_eq_false h1, decide_eq_true (by omega)]; rfl
/-- The half power of a square but 0. -/
theorem fermat2 {a : Zp} (h : a ≠ 0) : a ^ hf * a ^ hf = 1 := by
  rw [← padd, show hf + hf = PP - 1 by have := hf_val; omega, fermat h]
theorem half_or {a : Zp} (h : a ≠ 0) : a ^ hf = 1 ∨ a ^ hf = -1 := by
  have e := fermat2 h
  have : (a ^ hf - 1) * (a ^ hf + 1) = 0 := by grind
  rcases zmul0 this with h | h
  · left; grind
  · right; grind
theorem one_neg : ¬ (1 : Zp) = -1 := fun h => by
  have h2 : (1 : Zp) + 1 = 0 := (congrArg (fun z => z + (1 : Zp)) h).trans (by grind)
  have h3 := congrArg Fin.val h2
  rw [Fin.val_add, show (1 : Zp).val = 1 % PP from rfl, Nat.mod_eq_of_lt pr_p.1, Nat.mod_eq_of_lt (by have := PP_big; omega)] at h3
  cases h3
theorem sq_root (a : Zp) : SQr a * SQr a = a ^ hf * a := by rw [SQr, ← padd, ← Nat.two_mul, rg_hf, ps]
theorem SQ_sq {a : Zp} (h : SQr a * SQr a = a) : SQ a * SQ a = a := by
  rw [SQ, if_pos h, SQn]
  split
  · grind
  · exact h
theorem SQ_small {a : Zp} (h : SQr a * SQr a = a) : ¬ hf < (SQ a).val := by
  rw [SQ, if_pos h, SQn]
  split
  · rename_i h1
    have h0 : SQr a ≠ 0 := fun e => by rw [e] at h1; exact absurd h1 (Nat.not_lt_zero _)
    rw [neg_val h0]
    have := hf_val
    omega
  · rename_i h1; exact h1
/-- A square has a root: itself, or its opposite. -/
theorem sq_has (a : Zp) : SQr (a * a) * SQr (a * a) = a * a := by
  rw [sq_root]
  by_cases h : a = 0
  · rw [h]; grind
  · rw [mpow, fermat2 h]; grind
theorem sq_eq {x y : Zp} (h : x * x = y * y) : x = y ∨ x = -y := by
  have : (x - y) * (x + y) = 0 := by grind
  rcases zmul0 this with h | h
  · left; grind
  · right; grind
theorem SQ_of (a : Zp) : SQ (a * a) = a ∨ SQ (a * a) = -a := sq_eq (SQ_sq (sq_has a))
theorem neg_odd (a : Zp) (n : Nat) : (-a) ^ (2 * n + 1) = -(a ^ (2 * n + 1)) := by
  rw [ps, ps, pmul, pmul, show (-a) ^ 2 = a ^ 2 by grind]; grind
theorem neg_hf (a : Zp) : (-a) ^ hf = -(a ^ hf) := by
  obtain ⟨n, hn⟩ : ∃ n, hf = 2 * n + 1 := ⟨hf / 2, by have := hf_odd; omega⟩
  rw [hn]; exact neg_odd a n
/-- Halves. -/
theorem two_ne : zp 2 ≠ 0 := fun h => by
  have := congrArg Fin.val h
  rw [zp_val, Nat.mod_eq_of_lt (by have := PP_big; omega)] at this
  cases this
theorem zp_24 : zp 4 = zp 2 * zp 2 ∧ zp 2 = 1 + 1 := ⟨zp_mul 2 2, zp_add 1 1⟩
end Go.Proofs.YtamddkjccmhgaaaGreatDoor

namespace Go.Proofs.YtamddkjccmhgaaaGreatDoor
set_option maxRecDepth 100000
abbrev W2 := Zp × Zp
def ad2 (x y : W2) : W2 := (x.1 + y.1, x.2 + y.2)
def ng2 (x : W2) : W2 := (-x.1, -x.2)
def sb2 (x y : W2) : W2 := (x.1 - y.1, x.2 - y.2)
def ml2 (x y : W2) : W2 := (x.1 * y.1 - x.2 * y.2, x.1 * y.2 + x.2 * y.1)
def cj2 (x : W2) : W2 := (x.1, -x.2)
def sc2 (x : W2) (c : Zp) : W2 := (x.1 * c, x.2 * c)
def xi2 (x : W2) : W2 := (x.1 - x.2, x.1 + x.2)
def nm2 (x : W2) : Zp := x.1 * x.1 + x.2 * x.2
def iv2 (x : W2) : W2 := (x.1 * nm2 x ^ (PP - 2), -x.2 * nm2 x ^ (PP - 2))
def on2 : W2 := (1, 0)
def ze2 : W2 := (0, 0)
theorem w2_ext {x y : W2} (h1 : x.1 = y.1) (h2 : x.2 = y.2) : x = y := Prod.ext h1 h2
def R2 : Rg W2 where
  zero := ze2
  one := on2
  add := ad2
  mul := ml2
  neg := ng2
  add_assoc := fun a b c => w2_ext (by simp only [ad2]; grind) (by simp only [ad2]; grind)
  add_comm := fun a b => w2_ext (by simp only [ad2]; grind) (by simp only [ad2]; grind)
  add_zero := fun a => w2_ext (by simp only [ad2, ze2]; grind) (by simp only [ad2, ze2]; grind)
  add_neg := fun a => w2_ext (by simp only [ad2, ng2, ze2]; grind) (by simp only [ad2, ng2, ze2]; grind)
  mul_assoc := fun a b c => w2_ext (by simp only [ml2]; grind) (by simp only [ml2]; grind)
  mul_comm := fun a b => w2_ext (by simp only [ml2]; grind) (by simp only [ml2]; grind)
  mul_one := fun a => w2_ext (by simp only [ml2, on2]; grind) (by simp only [ml2, on2]; grind)
  mul_add := fun a b c => w2_ext (by simp only [ml2, ad2]; grind) (by simp only [ml2, ad2]; grind)
theorem sb2_eq (x y : W2) : sb2 x y = ad2 x (ng2 y) := w2_ext (by simp only [sb2, ad2, ng2]; grind) (by simp only [sb2, ad2, ng2]; grind)
theorem xi2_eq (x : W2) : xi2 x = ml2 x (1, 1) := w2_ext (by simp only [xi2, ml2]; grind) (by simp only [xi2, ml2]; grind)
theorem nm2_mul (x y : W2) : nm2 (ml2 x y) = nm2 x * nm2 y := by simp only [nm2, ml2]; grind
theorem cj2_mul (x y : W2) : cj2 (ml2 x y) = ml2 (cj2 x) (cj2 y) := w2_ext (by simp only [ml2, cj2]; grind) (by simp only [ml2, cj2]; grind)
theorem cj2_add (x y : W2) : cj2 (ad2 x y) = ad2 (cj2 x) (cj2 y) := w2_ext (by simp only [ad2, cj2]) (by simp only [ad2, cj2]; grind)
/-! ### -1 is no square -/
theorem pow_pm1 {a : Zp} (h : a ≠ 0) : (a * a) ^ hf = 1 := by rw [mpow, fermat2 h]
theorem neg_zero1 {a : Zp} (h : 0 = -a) : a = 0 := by grind
theorem z_m1 (a : Zp) : a * 1 = a := by grind
theorem z_neg (a : Zp) : -(-a) = a := by grind
theorem z_m0 (a : Zp) : a * 0 = 0 := by grind
theorem no_i {a b : Zp} (h : a * a + b * b = 0) : b = 0 := by
  by_cases hb : b = 0
  · exact hb
  · exfalso
    have e : a * a = -(b * b) := by grind
    have e2 : (a * a) ^ hf = -1 := by rw [e, neg_hf, pow_pm1 hb]
    by_cases ha : a = 0
    · obtain ⟨n, hn⟩ := hf_pos
      rw [ha, z_m0, hn, zerop] at e2
      exact one_ne0 (neg_zero1 e2)
    · rw [pow_pm1 ha] at e2
      exact one_neg e2
theorem nm2_zero {x : W2} (h : nm2 x = 0) : x = ze2 := by
  have h1 := no_i h
  have h2 := no_i (a := x.2) (b := x.1) (by rw [← h]; simp only [nm2]; grind)
  exact w2_ext h2 h1
theorem z_00a : (0 : Zp) + 0 = 0 := by simp
theorem nm2_ze : nm2 ze2 = 0 := by simp only [nm2, ze2]; rw [z_m0, z_00a]
theorem nm2_ne {x : W2} (h : x ≠ ze2) : nm2 x ≠ 0 := fun e => h (nm2_zero e)
theorem iv2_mul {x : W2} (h : x ≠ ze2) : ml2 x (iv2 x) = on2 := by
  have hz := zinv (nm2_ne h)
  have e : nm2 x = x.1 * x.1 + x.2 * x.2 := rfl
  have k : ∀ j : Zp, nm2 x * j = 1 → ml2 x (x.1 * j, -x.2 * j) = on2 := fun j hj => by
    rw [e] at hj
    refine w2_ext ?_ ?_
    · simp only [ml2, on2]; grind
    · simp only [ml2, on2]; grind
  exact k _ hz
theorem ml2_zero {x y : W2} (h : ml2 x y = ze2) : x = ze2 ∨ y = ze2 := by
  have e := nm2_mul x y
  rw [h, nm2_ze] at e
  rcases zmul0 e.symm with h | h
  · exact .inl (nm2_zero h)
  · exact .inr (nm2_zero h)
/-! ### Powers -/
def pw2 (x : W2) (n : Nat) : W2 := R2.pw x n
theorem z_0m (a : Zp) : 0 * a = 0 := by grind
theorem z_00 : (0 : Zp) + 0 = 0 := by simp
theorem ml2_rr (a b : Zp) : ml2 (a, 0) (b, 0) = (a * b, 0) := w2_ext (by simp only [ml2]; grind) (by simp only [ml2]; rw [z_m0, z_0m, z_00])
theorem ml2_ii (a b : Zp) : ml2 (0, a) (0, b) = (-(a * b), 0) := w2_ext (by simp only [ml2]; grind) (by simp only [ml2]; rw [z_m0, z_0m, z_00])
theorem z_11 : (1 : Zp) * 1 = 1 := z_m1 1
/-! ### Roots -/
theorem sq2_eq {x y : W2} (h : ml2 x x = ml2 y y) : x = y ∨ x = ng2 y := by
  have hk : ml2 (sb2 x y) (ad2 x y) = ze2 := by
    have h1 := congrArg Prod.fst h
    have h2 := congrArg Prod.snd h
    simp only [ml2] at h1 h2
    refine w2_ext ?_ ?_
    · simp only [ml2, sb2, ad2, ze2]; grind
    · simp only [ml2, sb2, ad2, ze2]; grind
  rcases ml2_zero hk with h | h
  · left
    have h1 := congrArg Prod.fst h
    have h2 := congrArg Prod.snd h
    simp only [sb2, ze2] at h1 h2
    exact w2_ext (by grind) (by grind)
  · right
    have h1 := congrArg Prod.fst h
    have h2 := congrArg Prod.snd h
    simp only [ad2, ze2] at h1 h2
    exact w2_ext (by simp only [ng2]; grind) (by simp only [ng2]; grind)
def LG2 (x : W2) : Bool := if x.2 = 0 then decide (hf < x.1.val) else decide (hf < x.2.val)
theorem large_neg {a : Zp} (h : a ≠ 0) : decide (hf < (-a).val) = !decide (hf < a.val) := by
  have := sgn_large h
  cases h1 : decide (hf < a.val) <;> cases h2 : decide (hf < (-a).val) <;> rw [h1, h2] at this <;> first | rfl | cases this
theorem neg_eq0 {a : Zp} : -a = 0 ↔ a = 0 := ⟨fun h => by grind, fun h => by rw [h]; grind⟩
theorem LG2_neg {x : W2} (h : x ≠ ze2) : LG2 (ng2 x) = !LG2 x := by
  unfold LG2 ng2
  by_cases h2 : x.2 = 0
  · rw [if_pos (neg_eq0.2 h2), if_pos h2]
    exact large_neg fun e => h (w2_ext e h2)
  · rw [if_neg (fun e => h2 (neg_eq0.1 e)), if_neg h2]
    exact large_neg h2
theorem LG2_ze : LG2 ze2 = false := by decide +kernel
theorem ng2_ze : ng2 ze2 = ze2 := w2_ext (by simp only [ng2, ze2]; grind) (by simp only [ng2, ze2]; grind)
theorem ng2_sq (x : W2) : ml2 (ng2 x) (ng2 x) = ml2 x x := w2_ext (by simp only [ml2, ng2]; grind) (by simp only [ml2, ng2]; grind)
/-- Of the roots of an element just one isn't large. -/
theorem root2_one {x y : W2} (h : ml2 x x = ml2 y y) (hx : LG2 x = false) (hy : LG2 y = false) : x = y := by
  rcases sq2_eq h with e | e
  · exact e
  · by_cases h0 : y = ze2
    · rw [e, h0, ng2_ze]
    · rw [e, LG2_neg h0, hy] at hx; cases hx
/-- A square of Zp: has a root there. -/
def IsQ (a : Zp) : Prop := SQr a * SQr a = a
theorem isQ_of {a s : Zp} (h : s * s = a) : IsQ a := by rw [← h]; exact sq_has s
theorem isQ_iff (a : Zp) : IsQ a ↔ a = 0 ∨ a ^ hf = 1 := by
  unfold IsQ
  rw [sq_root]
  constructor
  · intro h
    by_cases h0 : a = 0
    · exact .inl h0
    · right
      have : (a ^ hf - 1) * a = 0 := by grind
      rcases zmul0 this with h | h
      · grind
      · exact absurd h h0
  · rintro (h | h)
    · rw [h]; grind
    · rw [h]; grind
theorem isQ_or (a : Zp) : IsQ a ∨ IsQ (-a) := by
  by_cases h : a = 0
  · exact .inl ((isQ_iff a).2 (.inl h))
  · rcases half_or h with h1 | h1
    · exact .inl ((isQ_iff a).2 (.inr h1))
    · right
      refine (isQ_iff (-a)).2 (.inr ?_)
      rw [neg_hf, h1]; grind
/-- Of two that multiply to the opposite of a square but 0 just one is a square. -/
theorem isQ_half {a b c : Zp} (h : a * b = -(c * c)) (hc : c ≠ 0) : (IsQ a ∧ ¬ IsQ b) ∨ (¬ IsQ a ∧ IsQ b) := by
  have ha : a ≠ 0 := fun e => hc (no_i (a := 0) (b := c) (by rw [e] at h; grind))
  have hb : b ≠ 0 := fun e => hc (no_i (a := 0) (b := c) (by rw [e] at h; grind))
  have e : a ^ hf * b ^ hf = -1 := by rw [← mpow, h, neg_hf, pow_pm1 hc]
  rcases half_or ha with h1 | h1
  · left
    refine ⟨(isQ_iff a).2 (.inr h1), fun k => ?_⟩
    rcases (isQ_iff b).1 k with k | k
    · exact hb k
    · rw [h1, k] at e; exact one_neg (by grind)
  · right
    refine ⟨fun k => ?_, (isQ_iff b).2 (.inr (by rw [h1] at e; grind))⟩
    rcases (isQ_iff a).1 k with k | k
    · exact ha k
    · rw [h1] at k; exact one_neg k.symm
theorem isQ_mulself (a : Zp) : IsQ (a * a) := isQ_of rfl
/-- A square's norm is a square. -/
theorem nm2_sq {x s : W2} (h : ml2 s s = x) : IsQ (nm2 x) := by rw [← h, nm2_mul]; exact isQ_mulself _
/-- The root of an element with i, of the norm's root and the half that is a square. -/
theorem root2_of {x : W2} {n s t h2 : Zp} (hn : n * n = nm2 x) (h2e : (1 + 1) * h2 = 1) (hs : s * s = (x.1 + n) * h2 ∨ s * s = (x.1 - n) * h2) (ht : s * t = 1) : ml2 (s, x.2 * h2 * t) (s, x.2 * h2 * t) = x := by
  have e : nm2 x = x.1 * x.1 + x.2 * x.2 := rfl
  rw [e] at hn
  have key : s * s - x.2 * h2 * t * (x.2 * h2 * t) = x.1 := by
    have e1 : x.2 * h2 * t * (x.2 * h2 * t) = (x.2 * x.2) * (h2 * h2) * (t * t) := by grind
    have e2 : x.2 * x.2 = n * n - x.1 * x.1 := by grind
    rcases hs with hs | hs
    · have e3 : (n * n - x.1 * x.1) * (h2 * h2) = s * s * ((n - x.1) * h2) := by grind
      have e4 : s * s * ((n - x.1) * h2) * (t * t) = (n - x.1) * h2 := by
        have : s * s * (t * t) = 1 := by grind
        grind
      rw [e1, e2, e3, e4, hs]
      grind
    · have e3 : (n * n - x.1 * x.1) * (h2 * h2) = s * s * (-(n + x.1) * h2) := by grind
      have e4 : s * s * (-(n + x.1) * h2) * (t * t) = -(n + x.1) * h2 := by
        have : s * s * (t * t) = 1 := by grind
        grind
      rw [e1, e2, e3, e4, hs]
      grind
  refine w2_ext key ?_
  simp only [ml2]
  have e5 : s * (x.2 * h2 * t) + x.2 * h2 * t * s = x.2 * ((1 + 1) * h2) * (s * t) := by grind
  rw [e5, h2e, ht]
  grind
theorem half_is : ∃ j : Zp, (1 + 1) * j = 1 := ⟨zp 2 ^ (PP - 2), by have h := zinv two_ne; rw [show (1 + 1 : Zp) = zp 2 from zp_24.2.symm]; exact h⟩
theorem half_sq {x : W2} {n j : Zp} (hn : n * n = nm2 x) : ((x.1 + n) * j) * ((x.1 - n) * j) = -(x.2 * j * (x.2 * j)) := by
  have hn' : n * n = x.1 * x.1 + x.2 * x.2 := hn
  grind
theorem half_no {x : W2} {j : Zp} (hj : (1 + 1) * j = 1) (h2 : x.2 ≠ 0) : x.2 * j ≠ 0 := fun e => by
  rcases zmul0 e with e | e
  · exact h2 e
  · rw [e] at hj; exact one_ne0 (hj.symm.trans (z_m0 _))
theorem no_half {a b c : Zp} (h : a * b = -(c * c)) (hc : c ≠ 0) : a ≠ 0 ∧ b ≠ 0 :=
  ⟨fun e => hc (no_i (a := 0) (b := c) (by rw [e] at h; grind)), fun e => hc (no_i (a := 0) (b := c) (by rw [e] at h; grind))⟩
theorem sqr_ne {a : Zp} (h : IsQ a) (h0 : a ≠ 0) : SQr a ≠ 0 := fun e => h0 (by
  have h' : SQr a * SQr a = a := h
  rw [e, z_m0] at h'
  exact h'.symm)
/-- Just elements whose norm is a square have roots. -/
theorem isQ2_iff (x : W2) : (∃ s, ml2 s s = x) ↔ IsQ (nm2 x) := by
  refine ⟨fun ⟨s, h⟩ => nm2_sq h, fun h => ?_⟩
  by_cases h2 : x.2 = 0
  · rcases isQ_or x.1 with hq | hq
    · exact ⟨(SQr x.1, 0), by rw [ml2_rr, show SQr x.1 * SQr x.1 = x.1 from hq]; exact w2_ext rfl h2.symm⟩
    · exact ⟨(0, SQr (-x.1)), by rw [ml2_ii, show SQr (-x.1) * SQr (-x.1) = -x.1 from hq, z_neg]; exact w2_ext rfl h2.symm⟩
  · obtain ⟨j, hj⟩ := half_is
    have hp := half_sq (x := x) (j := j) (n := SQr (nm2 x)) h
    have hb := half_no hj h2
    have hne := no_half hp hb
    rcases isQ_half hp hb with ⟨hq, _⟩ | ⟨_, hq⟩
    · exact ⟨_, root2_of h hj (.inl hq) (zinv (sqr_ne hq hne.1))⟩
    · exact ⟨_, root2_of h hj (.inr hq) (zinv (sqr_ne hq hne.2))⟩
end Go.Proofs.YtamddkjccmhgaaaGreatDoor

namespace Go.Proofs.YtamddkjccmhgaaaGreatDoor
set_option maxRecDepth 100000
/-! ### Equality, signs -/
theorem dec2_t {x y : W2} (h : x.1 = y.1) : decide (x.2 = y.2) = decide (x = y) := decide_eq_decide.2 ⟨fun h' => w2_ext h h', fun h' => by rw [h']⟩
theorem dec2_f {x y : W2} (h : ¬ x.1 = y.1) : false = decide (x = y) := (decide_eq_false fun h' => h (by rw [h'])).symm
/-! ### Powers by digits -/
def fe2 (x : W2) : List (BitVec 64) := fe x.1 ++ fe x.2
theorem fe2_len (x : W2) : (fe2 x).length = 12 := by rw [fe2, List.length_append, fe_len, fe_len]
def SP2 (x : W2) (i : Nat) : List (BitVec 64) := FM (fun j => if j < i then fe2 (pw2 x j) else fe2 ze2) 16
theorem SP2_len (x : W2) (i : Nat) : (SP2 x i).length = 192 := FM_len _ _
/-! ### Roots -/
theorem LG_re {a : Zp} (h : ¬ hf < a.val) : LG2 (a, 0) = false := by
  show (if (0 : Zp) = 0 then decide (hf < a.val) else decide (hf < (0 : Zp).val)) = false
  rw [if_pos rfl]; exact decide_eq_false h
theorem LG_im {a : Zp} (h : ¬ hf < a.val) : LG2 (0, a) = false := by
  show (if a = 0 then decide (hf < (0 : Zp).val) else decide (hf < a.val)) = false
  split
  · exact decide_eq_false (Nat.not_lt_zero _)
  · exact decide_eq_false h
/-- The root of an element without i. -/
def RO (c : Zp) : W2 := if SQr c * SQr c = c then (SQ c, 0) else (0, SQ (-c))
theorem neg_isQ {c : Zp} (h : ¬ SQr c * SQr c = c) : SQr (-c) * SQr (-c) = -c := (isQ_or c).resolve_left h
theorem RO_sq (c : Zp) : ml2 (RO c) (RO c) = (c, 0) := by
  unfold RO
  split
  · rename_i h
    rw [ml2_rr, SQ_sq h]
  · rename_i h
    rw [ml2_ii, SQ_sq (neg_isQ h), z_neg]
theorem RO_small (c : Zp) : LG2 (RO c) = false := by
  unfold RO
  split
  · rename_i h
    exact LG_re (SQ_small h)
  · rename_i h
    exact LG_im (SQ_small (neg_isQ h))
theorem rb_a {s t j a b n : Zp} (ht : t * t = s + s) (hj : t * j = 1) (hs : s = a + n) (hn : n * n = a * a + b * b) : s * j * (s * j) - b * j * (b * j) = a := by
  have e : (s + s) * (j * j) = 1 := by
    rw [← ht]
    have : t * t * (j * j) = (t * j) * (t * j) := by grind
    rw [this, hj, z_11]
  have e2 : s * s - b * b = (s + s) * a := by
    subst hs
    grind
  have e3 : s * j * (s * j) - b * j * (b * j) = (s * s - b * b) * (j * j) := by grind
  have e4 : (s + s) * a * (j * j) = (s + s) * (j * j) * a := by grind
  rw [e3, e2, e4, e]
  grind
theorem rb_b {s t j b : Zp} (ht : t * t = s + s) (hj : t * j = 1) : s * j * (b * j) + b * j * (s * j) = b := by
  have e : (s + s) * (j * j) = 1 := by
    rw [← ht]
    have : t * t * (j * j) = (t * j) * (t * j) := by grind
    rw [this, hj, z_11]
  have e3 : s * j * (b * j) + b * j * (s * j) = (s + s) * (j * j) * b := by grind
  rw [e3, e]
  grind
theorem rb_c {s t j a b n : Zp} (ht : t * t = -(s + s)) (hj : t * j = 1) (hs : s = a + n) (hn : n * n = a * a + b * b) : b * j * (b * j) - -s * j * (-s * j) = a := by
  have e : -(s + s) * (j * j) = 1 := by
    rw [← ht]
    have : t * t * (j * j) = (t * j) * (t * j) := by grind
    rw [this, hj, z_11]
  have e2 : b * b - s * s = -(s + s) * a := by
    subst hs
    grind
  have e3 : b * j * (b * j) - -s * j * (-s * j) = (b * b - s * s) * (j * j) := by grind
  have e4 : -(s + s) * a * (j * j) = -(s + s) * (j * j) * a := by grind
  rw [e3, e2, e4, e]
  grind
theorem rb_d {s t j b : Zp} (ht : t * t = -(s + s)) (hj : t * j = 1) : b * j * (-s * j) + -s * j * (b * j) = b := by
  have e : -(s + s) * (j * j) = 1 := by
    rw [← ht]
    have : t * t * (j * j) = (t * j) * (t * j) := by grind
    rw [this, hj, z_11]
  have e3 : b * j * (-s * j) + -s * j * (b * j) = -(s + s) * (j * j) * b := by grind
  rw [e3, e]
  grind
theorem dbl_ne {s : Zp} (h : s ≠ 0) : s + s ≠ 0 := fun e => by
  obtain ⟨j, hj⟩ := half_is
  have : s = (s + s) * j := by
    have e1 : (s + s) * j = s * ((1 + 1) * j) := by grind
    rw [e1, hj, z_m1]
  rw [e, z_0m] at this
  exact h this
theorem sum_ne {a b n : Zp} (hn : n * n = a * a + b * b) (hb : b ≠ 0) : a + n ≠ 0 := fun e => by
  have : b * b = (a + n) * (n - a) := by grind
  rw [e, z_0m] at this
  exact hb ((zmul0 this).elim id id)
theorem sq_ne {a t : Zp} (h : t * t = a) (ha : a ≠ 0) : t ≠ 0 := fun e => ha (by rw [← h, e, z_m0])
/-- A root by a root of the norm, as the program reckons. -/
def RBs (x : W2) (n : Zp) : Zp := x.1 + n + (x.1 + n)
def RB (x : W2) (n : Zp) : W2 :=
  if SQr (RBs x n) * SQr (RBs x n) = RBs x n then ((x.1 + n) * SQ (RBs x n) ^ (PP - 2), x.2 * SQ (RBs x n) ^ (PP - 2))
  else (x.2 * SQ (-RBs x n) ^ (PP - 2), -(x.1 + n) * SQ (-RBs x n) ^ (PP - 2))
theorem RB_sq {x : W2} {n : Zp} (hn : n * n = nm2 x) (h2 : x.2 ≠ 0) : ml2 (RB x n) (RB x n) = x := by
  have hd : RBs x n ≠ 0 := dbl_ne (sum_ne hn h2)
  have hm : -RBs x n ≠ 0 := fun e => hd (neg_eq0.1 e)
  unfold RB
  split
  · rename_i h
    have e := SQ_sq h
    have hj := zinv (sq_ne e hd)
    generalize SQ (RBs x n) ^ (PP - 2) = j at *
    generalize SQ (RBs x n) = t at *
    exact w2_ext (rb_a e hj rfl hn) (rb_b e hj)
  · rename_i h
    have e := SQ_sq (neg_isQ h)
    have hj := zinv (sq_ne e hm)
    generalize SQ (-RBs x n) ^ (PP - 2) = j at *
    generalize SQ (-RBs x n) = t at *
    exact w2_ext (rb_c e hj rfl hn) (rb_d e hj)
/-- Of an element and its opposite the one that isn't large. -/
def NL (x : W2) : W2 := if LG2 x = true then ng2 x else x
theorem NL_sq (x : W2) : ml2 (NL x) (NL x) = ml2 x x := by
  unfold NL
  split
  · exact ng2_sq x
  · rfl
theorem NL_small (x : W2) : LG2 (NL x) = false := by
  unfold NL
  split
  · rename_i h
    have hx : x ≠ ze2 := fun e => by rw [e, LG2_ze] at h; cases h
    rw [LG2_neg hx, h]; rfl
  · rename_i h
    exact Bool.eq_false_iff.2 h
theorem root_same {x r q : W2} (hr : ml2 r r = x) (hl : LG2 r = false) (hq : ml2 q q = x) (hl' : LG2 q = false) : q = r := root2_one (hq.trans hr.symm) hl' hl
theorem root_re {x r : W2} (hr : ml2 r r = x) (hl : LG2 r = false) (h : x.2 = 0) : RO x.1 = r := root_same hr hl ((RO_sq x.1).trans (w2_ext rfl h.symm)) (RO_small _)
theorem root_rb {x r : W2} (hr : ml2 r r = x) (hl : LG2 r = false) (h : x.2 ≠ 0) : NL (RB x (SQ (nm2 x))) = r := root_same hr hl ((NL_sq _).trans (RB_sq (SQ_sq (nm2_sq hr)) h)) (NL_small _)
theorem no_re {x : W2} (h : ¬ IsQ (nm2 x)) : x.2 ≠ 0 := fun e => h ((isQ2_iff x).1 ⟨RO x.1, (RO_sq x.1).trans (w2_ext rfl e.symm)⟩)
end Go.Proofs.YtamddkjccmhgaaaGreatDoor

namespace Go.Proofs.YtamddkjccmhgaaaGreatDoor
set_option maxRecDepth 100000
def XI : W2 := (1, 1)
abbrev W6 := W2 × W2 × W2
def K6 : Rg W6 := Rg.cub R2 XI
def VV : W6 := (ze2, on2, ze2)
abbrev W12 := W6 × W6
def K12 : Rg W12 := Rg.quad K6 VV
theorem fd2 : Fd R2 := fun a h => ⟨iv2 a, iv2_mul h⟩
theorem zp_pows (a : Nat) : ∀ n : Nat, zp a ^ n = zp (a ^ n)
  | 0 => p0 _
  | n + 1 => by rw [ps, zp_pows a n, Nat.pow_succ, zp_mul]
theorem zp_pm (a n f : Nat) (h : n < 2 ^ f) : zp a ^ n = zp (pm a PP f n) := by rw [pm_eq _ _ _ _ h, zp_mod, zp_pows]
theorem lt_R6 {k n : Nat} (hk : R6 = 2 ^ k) (h : n < PP) : n < 2 ^ k := hk ▸ Nat.lt_trans h PP_R6
def th : Nat := (PP - 1) / 3
theorem th_val : 3 * th = PP - 1 := by decide +kernel
theorem val_one {n : Nat} (h : zp n = 1) (hn : n < PP) : n = 1 := by
  have := congrArg Fin.val h
  rw [zp_val, Nat.mod_eq_of_lt hn, show (1 : Zp).val = 1 % PP from rfl, Nat.mod_eq_of_lt pr_p.1] at this
  exact this
theorem pm_th : pm 2 PP (64 * 6) th ≠ 1 ∧ pm 2 PP (64 * 6) th < PP := by decide +kernel
theorem pm_hf : pm 2 PP (64 * 6) hf ≠ 1 ∧ pm 2 PP (64 * 6) hf < PP := by decide +kernel
theorem two_th : zp 2 ^ th ≠ 1 := fun h => by
  rw [zp_pm 2 th (64 * 6) (lt_R6 R6_def (by have := th_val; have := PP_big; omega))] at h
  exact pm_th.1 (val_one h pm_th.2)
theorem two_hf : zp 2 ^ hf ≠ 1 := fun h => by
  rw [zp_pm 2 hf (64 * 6) (lt_R6 R6_def (by have := hf_val; have := PP_big; omega))] at h
  exact pm_hf.1 (val_one h pm_hf.2)
theorem xi_nm : nm2 XI = zp 2 := by
  simp only [nm2, XI]; rw [z_11]; exact zp_24.2.symm
theorem no_cube (s : W2) : R2.mul s (R2.mul s s) ≠ XI := fun h => by
  have e : nm2 s * (nm2 s * nm2 s) = zp 2 := by rw [← nm2_mul, ← nm2_mul, ← xi_nm]; exact congrArg nm2 h
  have e3 : nm2 s ^ 3 = zp 2 := by rw [← e]; grind
  have hn : nm2 s ≠ 0 := fun h0 => two_ne (by rw [← e, h0, z_m0, z_m0])
  exact two_th (by rw [← e3, ← pmul, th_val, fermat hn])
theorem no_sq (s : W2) : R2.mul s s ≠ XI := fun h => by
  have e : IsQ (zp 2) := by rw [← xi_nm]; exact nm2_sq h
  rcases (isQ_iff _).1 e with h | h
  · exact two_ne h
  · exact two_hf h
theorem fd6 : Fd K6 := fd_cub fd2 no_cube
theorem nm_VV : cnm R2 XI VV = XI := by decide +kernel
theorem no_sqV (s : W6) : K6.mul s s ≠ VV := fun h => by
  have e := cnm_mul R2 XI s s
  rw [show cmul R2 XI s s = VV from h, nm_VV] at e
  exact no_sq _ e.symm
/-! ### The power of p -/
def em (c : W2) : W12 := ((c, ze2, ze2), (ze2, ze2, ze2))
theorem em_mul (a b : W2) : K12.mul (em a) (em b) = em (ml2 a b) := Prod.ext (Prod.ext (Rg.same (R := R2) (ρ := ev R2 [a, b, XI]) (ta (ta (tm (tv 0) (tv 1)) (tm (tv 2) (ta (tm tz0 tz0) (tm tz0 tz0)))) (ta (tm tz0 (ta (tm tz0 tz0) (tm (tv 2) (ta (tm tz0 tz0) (tm tz0 tz0))))) (tm (tv 2) (ta (tm to1 (ta (ta (tm tz0 tz0) (tm tz0 tz0)) (tm tz0 tz0))) (tm tz0 (ta (ta (tm tz0 tz0) (tm tz0 tz0)) (tm (tv 2) (tm tz0 tz0)))))))) (tm (tv 0) (tv 1)) (by kernel_rfl)) (Prod.ext (Rg.same (R := R2) (ρ := ev R2 [a, b, XI]) (ta (ta (ta (tm (tv 0) tz0) (tm tz0 (tv 1))) (tm (tv 2) (tm tz0 tz0))) (ta (ta (tm tz0 (ta (ta (tm tz0 tz0) (tm tz0 tz0)) (tm (tv 2) (tm tz0 tz0)))) (tm to1 (ta (tm tz0 tz0) (tm (tv 2) (ta (tm tz0 tz0) (tm tz0 tz0)))))) (tm (tv 2) (tm tz0 (ta (ta (tm tz0 tz0) (tm tz0 tz0)) (tm tz0 tz0)))))) tz0 (by kernel_rfl)) (Rg.same (R := R2) (ρ := ev R2 [a, b, XI]) (ta (ta (ta (tm (tv 0) tz0) (tm tz0 tz0)) (tm tz0 (tv 1))) (ta (ta (tm tz0 (ta (ta (tm tz0 tz0) (tm tz0 tz0)) (tm tz0 tz0))) (tm to1 (ta (ta (tm tz0 tz0) (tm tz0 tz0)) (tm (tv 2) (tm tz0 tz0))))) (tm tz0 (ta (tm tz0 tz0) (tm (tv 2) (ta (tm tz0 tz0) (tm tz0 tz0))))))) tz0 (by kernel_rfl)))) (Prod.ext (Rg.same (R := R2) (ρ := ev R2 [a, b, XI]) (ta (ta (tm (tv 0) tz0) (tm (tv 2) (ta (tm tz0 tz0) (tm tz0 tz0)))) (ta (tm tz0 (tv 1)) (tm (tv 2) (ta (tm tz0 tz0) (tm tz0 tz0))))) tz0 (by kernel_rfl)) (Prod.ext (Rg.same (R := R2) (ρ := ev R2 [a, b, XI]) (ta (ta (ta (tm (tv 0) tz0) (tm tz0 tz0)) (tm (tv 2) (tm tz0 tz0))) (ta (ta (tm tz0 tz0) (tm tz0 (tv 1))) (tm (tv 2) (tm tz0 tz0)))) tz0 (by kernel_rfl)) (Rg.same (R := R2) (ρ := ev R2 [a, b, XI]) (ta (ta (ta (tm (tv 0) tz0) (tm tz0 tz0)) (tm tz0 tz0)) (ta (ta (tm tz0 tz0) (tm tz0 tz0)) (tm tz0 (tv 1)))) tz0 (by kernel_rfl))))
/-! ### Six parts, as the reference multiplies them -/
theorem txi {ρ : Nat → W2} {p : Po} {a : W2} (k : Nat) (ha : R2.d ρ p = a) (hk : ρ k = XI) : R2.d ρ (pmul' p (pv k)) = xi2 a := by rw [R2.d_mul, ha, R2.d_var, hk]; exact (xi2_eq a).symm
theorem tsb {ρ : Nat → W2} {p q : Po} {a b : W2} (ha : R2.d ρ p = a) (hb : R2.d ρ q = b) : R2.d ρ (padd' p (pneg' q)) = sb2 a b := by rw [R2.d_add, R2.d_neg, ha, hb, sb2_eq]; rfl
end Go.Proofs.YtamddkjccmhgaaaGreatDoor

namespace Go.Proofs.YtamddkjccmhgaaaGreatDoor
set_option maxRecDepth 100000
def i3a (a b c : W2) : W2 := sb2 (ml2 a a) (xi2 (ml2 b c))
def i3b (a b c : W2) : W2 := sb2 (xi2 (ml2 c c)) (ml2 a b)
def i3c (a b c : W2) : W2 := sb2 (ml2 b b) (ml2 a c)
def i3n (a b c : W2) : W2 := ad2 (ml2 a (i3a a b c)) (xi2 (ad2 (ml2 c (i3b a b c)) (ml2 b (i3c a b c))))
theorem i3a_eq (a b c : W2) : i3a a b c = (cadj R2 XI (a, b, c)).1 := Rg.same (R := R2) (ρ := ev R2 [a, b, c, XI]) (tsb (tm (tv 0) (tv 0)) (txi 3 (tm (tv 1) (tv 2)) rfl)) (ta (tm (tv 0) (tv 0)) (tn (tm (tv 3) (tm (tv 1) (tv 2))))) (by kernel_rfl)
theorem i3b_eq (a b c : W2) : i3b a b c = (cadj R2 XI (a, b, c)).2.1 := Rg.same (R := R2) (ρ := ev R2 [a, b, c, XI]) (tsb (txi 3 (tm (tv 2) (tv 2)) rfl) (tm (tv 0) (tv 1))) (ta (tm (tv 3) (tm (tv 2) (tv 2))) (tn (tm (tv 0) (tv 1)))) (by kernel_rfl)
theorem i3c_eq (a b c : W2) : i3c a b c = (cadj R2 XI (a, b, c)).2.2 := Rg.same (R := R2) (ρ := ev R2 [a, b, c, XI]) (tsb (tm (tv 1) (tv 1)) (tm (tv 0) (tv 2))) (ta (tm (tv 1) (tv 1)) (tn (tm (tv 0) (tv 2)))) (by kernel_rfl)
theorem i3n_eq (a b c : W2) : i3n a b c = cnm R2 XI (a, b, c) := Rg.same (R := R2) (ρ := ev R2 [a, b, c, XI]) (ta (tm (tv 0) (tsb (tm (tv 0) (tv 0)) (txi 3 (tm (tv 1) (tv 2)) rfl))) (txi 3 (ta (tm (tv 2) (tsb (txi 3 (tm (tv 2) (tv 2)) rfl) (tm (tv 0) (tv 1)))) (tm (tv 1) (tsb (tm (tv 1) (tv 1)) (tm (tv 0) (tv 2))))) rfl)) (ta (tm (tv 0) (ta (tm (tv 0) (tv 0)) (tn (tm (tv 3) (tm (tv 1) (tv 2)))))) (tm (tv 3) (ta (tm (tv 2) (ta (tm (tv 3) (tm (tv 2) (tv 2))) (tn (tm (tv 0) (tv 1))))) (tm (tv 1) (ta (tm (tv 1) (tv 1)) (tn (tm (tv 0) (tv 2)))))))) (by kernel_rfl)
/-- The inverse, of 0: 0. -/
def iv6 (x : W6) : W6 := (ml2 (i3a x.1 x.2.1 x.2.2) (iv2 (i3n x.1 x.2.1 x.2.2)), ml2 (i3b x.1 x.2.1 x.2.2) (iv2 (i3n x.1 x.2.1 x.2.2)), ml2 (i3c x.1 x.2.1 x.2.2) (iv2 (i3n x.1 x.2.1 x.2.2)))
theorem iv6_mul {x : W6} (h : x ≠ K6.zero) : K6.mul x (iv6 x) = K6.one := by
  have hn : cnm R2 XI x ≠ ze2 := fun e => h (cub_zero fd2 no_cube e)
  have hi : R2.mul (cnm R2 XI x) (iv2 (cnm R2 XI x)) = R2.one := iv2_mul hn
  have e := cub_inv (R := R2) (z := XI) x hi
  unfold iv6
  rw [i3a_eq, i3b_eq, i3c_eq, i3n_eq]
  exact e
def iv12 (x : W12) : W12 := K12.mul (x.1, K6.neg x.2) (iv6 (qnm K6 VV x), K6.zero)
theorem q_re {α : Type} (R : Rg α) (z a b : α) : qmul R z (a, R.zero) (b, R.zero) = (R.mul a b, R.zero) := Prod.ext (Rg.same (R := R) (ρ := ev R [a, b, z]) (ta (tm (tv 0) (tv 1)) (tm (tv 2) (tm tz0 tz0))) (tm (tv 0) (tv 1)) (by kernel_rfl)) (Rg.same (R := R) (ρ := ev R [a, b, z]) (ta (tm (tv 0) tz0) (tm tz0 (tv 1))) tz0 (by kernel_rfl))
theorem iv12_mul {x : W12} (h : x ≠ K12.zero) : K12.mul x (iv12 x) = K12.one := by
  have hn : qnm K6 VV x ≠ K6.zero := fun e => h (quad_zero fd6 no_sqV e)
  have e := qnm_cj K6 VV x
  rw [iv12, ← K12.mul_assoc]
  show K12.mul (qmul K6 VV x (x.1, K6.neg x.2)) (iv6 (qnm K6 VV x), K6.zero) = K12.one
  rw [e]
  show qmul K6 VV (qnm K6 VV x, K6.zero) (iv6 (qnm K6 VV x), K6.zero) = K12.one
  rw [q_re, iv6_mul hn]
  rfl
/-! ### Six parts turned -/
/-! ### Powers by bits, in any ring -/
end Go.Proofs.YtamddkjccmhgaaaGreatDoor

namespace Go.Proofs.YtamddkjccmhgaaaGreatDoor
set_option maxRecDepth 100000
def sc6 (x : W6) (c : W2) : W6 := (ml2 x.1 c, ml2 x.2.1 c, ml2 x.2.2 c)
theorem sc6_eq (x : W6) (c : W2) : K6.mul x (c, ze2, ze2) = sc6 x c := Prod.ext (Rg.same (R := R2) (ρ := ev R2 [x.1, x.2.1, x.2.2, c, XI]) (ta (tm (tv 0) (tv 3)) (tm (tv 4) (ta (tm (tv 1) tz0) (tm (tv 2) tz0)))) (tm (tv 0) (tv 3)) (by kernel_rfl)) (Prod.ext (Rg.same (R := R2) (ρ := ev R2 [x.1, x.2.1, x.2.2, c, XI]) (ta (ta (tm (tv 0) tz0) (tm (tv 1) (tv 3))) (tm (tv 4) (tm (tv 2) tz0))) (tm (tv 1) (tv 3)) (by kernel_rfl)) (Rg.same (R := R2) (ρ := ev R2 [x.1, x.2.1, x.2.2, c, XI]) (ta (ta (tm (tv 0) tz0) (tm (tv 1) tz0)) (tm (tv 2) (tv 3))) (tm (tv 2) (tv 3)) (by kernel_rfl)))
def r6 (x : W6) : W12 := (x, K6.zero)
theorem r6_mul (x y : W6) : K12.mul (r6 x) (r6 y) = r6 (K6.mul x y) := q_re K6 VV x y
theorem r6_scale (x : W6) (c : W2) : K12.mul (r6 x) (em c) = r6 (sc6 x c) := by
  rw [← sc6_eq]; exact r6_mul x (c, ze2, ze2)
/-! ### The chapter's examples -/
end Go.Proofs.YtamddkjccmhgaaaGreatDoor

namespace Go.Proofs.YtamddkjccmhgaaaGreatDoor
set_option maxRecDepth 100000
section
variable {α : Type} [DecidableEq α] (C : Ec α)
/-- So many times by bits, the highest first. -/
def Ec.jm (J : α × α × α) : List Bool → α × α × α → α × α × α
  | [], A => A
  | b :: r, A => Ec.jm J r (if b then C.jaF (C.jdF A) J else C.jdF A)
def bitsN : List Bool → Nat → Nat
  | [], n => n
  | b :: r, n => bitsN r (2 * n + (if b then 1 else 0))
theorem Ec.jr_m {J : α × α × α} {P : Pt α} (hP : C.onP P) (h : C.jr J P) : ∀ (l : List Bool) (A : α × α × α) (n : Nat), C.jr A (C.times P n) → C.jr (C.jm J l A) (C.times P (bitsN l n))
  | [], _, _, hA => hA
  | b :: r, A, n, hA => by
    have hd := C.jr_d (C.times_on hP n) hA
    rw [← C.times_add hP, ← Nat.two_mul] at hd
    cases b with
    | false => exact Ec.jr_m hP h r _ _ hd
    | true =>
      have ha := C.jr_a (C.times_on hP (2 * n)) hP hd h
      exact Ec.jr_m hP h r _ (2 * n + 1) ha
end
/-! ### Over p -/
def RZp : Rg Zp where
  zero := 0
  one := 1
  add := fun a b => a + b
  mul := fun a b => a * b
  neg := fun a => -a
  add_assoc := fun a b c => by grind
  add_comm := fun a b => by grind
  add_zero := fun a => by grind
  add_neg := fun a => by grind
  mul_assoc := fun a b c => by grind
  mul_comm := fun a b => by grind
  mul_one := fun a => by grind
  mul_add := fun a b c => by grind
def E1 : Ec Zp where
  R := RZp
  iv := fun a => a ^ (PP - 2)
  b := zp 4
  hi := fun _ h => zinv h
  h2 := by decide +kernel
  h3 := by decide +kernel
  hb := by decide +kernel
def E2w : Ec W2 where
  R := R2
  iv := iv2
  b := (zp 4, zp 4)
  hi := fun _ h => iv2_mul h
  h2 := by decide +kernel
  h3 := by decide +kernel
  hb := by decide +kernel
def G1x : Nat := 0x17f1d3a73197d7942695638c4fa9ac0fc3688c4f9774b905a14e3a3f171bac586c55e83ff97a1aeffb3af00adb22c6bb
def G1y : Nat := 0x8b3f481e3aaa0f1a09e30ed741d8ae4fcf5e095d5d00af600db18cb2c04b3edd03cc744a2888ae40caa232946c5e7e1
def G1p : Zp × Zp := (zp G1x, zp G1y)
theorem G1_on : E1.on G1p := by
  unfold Ec.on
  decide +kernel
def ORD : Nat := 0x73eda753299d7d483339d80809a1d80553bda402fffe5bfeffffffff00000001
def bitsOf : Nat → Nat → List Bool → List Bool
  | 0, _, l => l
  | f + 1, n, l => bitsOf f (n / 2) ((n % 2 == 1) :: l)
theorem rn_bits : bitsN (bitsOf 255 ORD []) 0 = ORD := by decide +kernel
theorem g1_z : (E1.jm (zp G1x, zp G1y, 1) (bitsOf 255 ORD []) (0, 0, 0)).2.2 = 0 := by decide +kernel
theorem g1_jr : E1.jr (zp G1x, zp G1y, 1) (some G1p) := ⟨one_ne0, by decide +kernel, by decide +kernel⟩
theorem jr_none {α : Type} (C : Ec α) {J : α × α × α} {P : Pt α} (h : C.jr J P) (hz : J.2.2 = C.R.zero) : P = none := by
  cases P with
  | none => rfl
  | some p => exact absurd hz h.1
theorem jm_none {α : Type} [DecidableEq α] (C : Ec α) {J : α × α × α} {P : Pt α} (hP : C.onP P) (h : C.jr J P) (l : List Bool) {n : Nat} (hn : bitsN l 0 = n) (hz : (C.jm J l (C.R.zero, C.R.zero, C.R.zero)).2.2 = C.R.zero) : C.times P n = none := by
  have k := C.jr_m hP h l (C.R.zero, C.R.zero, C.R.zero) 0 (show C.R.zero = C.R.zero from rfl)
  rw [hn] at k
  exact jr_none C k hz
/-- r times the generator is the infinite point. -/
theorem g1_order : E1.times (some G1p) ORD = none := jm_none E1 (P := some G1p) G1_on g1_jr (bitsOf 255 ORD []) rn_bits g1_z
end Go.Proofs.YtamddkjccmhgaaaGreatDoor

namespace Go.Proofs.YtamddkjccmhgaaaGreatDoor
set_option maxRecDepth 100000
/-- A field in another, with the curve's number. -/
structure Em {α β : Type} (C : Ec α) (D : Ec β) where
  f : α → β
  h0 : f C.R.zero = D.R.zero
  ha : ∀ a b, f (C.R.add a b) = D.R.add (f a) (f b)
  hm : ∀ a b, f (C.R.mul a b) = D.R.mul (f a) (f b)
  hn : ∀ a, f (C.R.neg a) = D.R.neg (f a)
  hi : ∀ a b, f a = f b → a = b
  hb : f C.b = D.b
section
variable {α β : Type} {C : Ec α} {D : Ec β} (e : Em C D)
def Em.q (p : α × α) : β × β := (e.f p.1, e.f p.2)
def Em.p : Pt α → Pt β
  | none => none
  | some p => some (e.q p)
theorem Em.sub (a b : α) : e.f (C.sub a b) = D.sub (e.f a) (e.f b) := by rw [Ec.sub, Ec.sub, e.ha, e.hn]
theorem Em.on {p : α × α} (h : C.on p) : D.on (e.q p) := by
  have := congrArg e.f h
  rw [e.hm, e.ha, e.hm, e.hm, e.hb] at this
  exact this
theorem Em.onP {P : Pt α} (h : C.onP P) : D.onP (e.p P) := by
  cases P with
  | none => trivial
  | some p => exact e.on h
theorem Em.sl {p q : α × α} {s : α} (h : C.Sl p q s) : D.Sl (e.q p) (e.q q) (e.f s) := by
  have h1 := congrArg e.f h.1
  have h2 := congrArg e.f h.2
  rw [e.hm, e.sub, e.sub] at h1
  rw [e.hm, e.ha, e.ha, e.ha, e.hm, e.hm, e.hm] at h2
  exact ⟨h1, h2⟩
theorem Em.opp {p q : α × α} : D.opp (e.q p) (e.q q) ↔ C.opp p q :=
  ⟨fun h => ⟨e.hi _ _ h.1, e.hi _ _ (by rw [e.ha, e.h0]; exact h.2)⟩, fun h => ⟨congrArg e.f h.1, by
    have := congrArg e.f h.2
    rw [e.ha, e.h0] at this
    exact this⟩⟩
theorem Em.th (p q : α × α) (s : α) : D.th (e.q p) (e.q q) (e.f s) = e.q (C.th p q s) := by
  have hx : D.x3 (e.q p) (e.q q) (e.f s) = e.f (C.x3 p q s) := by rw [Ec.x3, Ec.x3, e.sub, e.sub, e.hm]; rfl
  refine Prod.ext hx ?_
  show D.sub (D.R.mul (e.f s) (D.sub (e.f p.1) (D.x3 (e.q p) (e.q q) (e.f s)))) (e.f p.2) = e.f (C.sub (C.R.mul s (C.sub p.1 (C.x3 p q s))) p.2)
  rw [hx, e.sub, e.hm, e.sub]
theorem Em.ne (P : Pt α) : e.p (C.ne P) = D.ne (e.p P) := by
  cases P with
  | none => rfl
  | some p => exact congrArg some (Prod.ext rfl (e.hn _))
theorem Em.inj {P Q : Pt α} (h : e.p P = e.p Q) : P = Q := by
  cases P with
  | none =>
    cases Q with
    | none => rfl
    | some q => cases h
  | some p =>
    cases Q with
    | none => cases h
    | some q =>
      have h := Option.some.inj h
      exact congrArg some (Prod.ext (e.hi _ _ (congrArg Prod.fst h)) (e.hi _ _ (congrArg Prod.snd h)))
theorem Em.jr {J : α × α × α} {P : Pt α} (h : C.jr J P) : D.jr (e.f J.1, e.f J.2.1, e.f J.2.2) (e.p P) := by
  cases P with
  | none => exact (congrArg e.f h).trans e.h0
  | some p =>
    refine ⟨fun h' => h.1 (e.hi _ _ (h'.trans e.h0.symm)), ?_, ?_⟩
    · have := congrArg e.f h.2.1
      rw [e.hm, Ec.z2, e.hm] at this
      exact this
    · have := congrArg e.f h.2.2
      rw [e.hm, Ec.z3, e.hm, e.hm] at this
      exact this
end
section
variable {α β : Type} [DecidableEq α] [DecidableEq β] {C : Ec α} {D : Ec β} (e : Em C D)
theorem Em.ad {P Q : Pt α} (hP : C.onP P) (hQ : C.onP Q) : e.p (C.ad P Q) = D.ad (e.p P) (e.p Q) := by
  cases P with
  | none => rfl
  | some p =>
    cases Q with
    | none => rw [C.ad_nr]; exact (D.ad_nr _).symm
    | some q =>
      by_cases ho : C.opp p q
      · rw [C.ad_opp ho]; exact (D.ad_opp (e.opp.2 ho)).symm
      · obtain ⟨s, hs⟩ := C.sl_is hP hQ ho
        rw [C.ad_sl hP hQ ho hs]
        exact ((D.ad_sl (e.on hP) (e.on hQ) (fun h => ho (e.opp.1 h)) (e.sl hs)).trans (congrArg some (e.th p q s))).symm
theorem Em.times {P : Pt α} (hP : C.onP P) : ∀ n, e.p (C.times P n) = D.times (e.p P) n
  | 0 => rfl
  | n + 1 => by
    show e.p (C.ad (C.times P n) P) = D.ad (D.times (e.p P) n) (e.p P)
    rw [e.ad (C.times_on hP n) hP, Em.times hP n]
end
theorem z_s0' (a : Zp) : a - 0 = a := by grind
theorem z_a0' (a : Zp) : a + 0 = a := by grind
theorem z_n0' : -(0 : Zp) = 0 := neg_eq0.2 rfl
end Go.Proofs.YtamddkjccmhgaaaGreatDoor

namespace Go.Proofs.YtamddkjccmhgaaaGreatDoor
set_option maxRecDepth 100000
section
variable {α : Type} (C : Ec α)
theorem Ec.jr_z {J : α × α × α} {P : Pt α} (h : C.jr J P) : J.2.2 = C.R.zero ↔ P = none := by
  cases P with
  | none => exact ⟨fun _ => rfl, fun _ => h⟩
  | some p => exact ⟨fun e => absurd e h.1, fun e => by cases e⟩
theorem Ec.sc2 (a z c : α) : C.R.mul (C.R.mul a (C.z2 z)) (C.z2 c) = C.R.mul a (C.z2 (C.R.mul z c)) := Rg.same (R := C.R) (ρ := ev C.R [a, z, c]) (tm (tm (tv 0) (tm (tv 1) (tv 1))) (tm (tv 2) (tv 2))) (tm (tv 0) (tm (tm (tv 1) (tv 2)) (tm (tv 1) (tv 2)))) (by kernel_rfl)
/-- A point by its two numbers. -/
theorem Ec.jr_at (p : α × α) (h1 : C.R.one ≠ C.R.zero) : C.jr (p.1, p.2, C.R.one) (some p) := by
  refine ⟨h1, ?_, ?_⟩
  · show p.1 = C.R.mul p.1 (C.R.mul C.R.one C.R.one)
    rw [C.R.mul_one, C.R.mul_one]
  · show p.2 = C.R.mul p.2 (C.R.mul (C.R.mul C.R.one C.R.one) C.R.one)
    rw [C.R.mul_one, C.R.mul_one, C.R.mul_one]
end
section
variable {α : Type} [DecidableEq α] (C : Ec α)
theorem Ec.dbl_times {P : Pt α} (hP : C.onP P) (n : Nat) : C.ad (C.times P n) (C.times P n) = C.times P (2 * n) := by rw [← C.times_add hP, Nat.two_mul]
end
/-- A point's numbers, as the reference holds them. -/
def RJ : Pt Zp → W6
  | none => (ze2, ze2, ze2)
  | some p => ((p.1, 0), (p.2, 0), on2)
end Go.Proofs.YtamddkjccmhgaaaGreatDoor

namespace Go.Proofs.YtamddkjccmhgaaaGreatDoor
end Go.Proofs.YtamddkjccmhgaaaGreatDoor

namespace Go.Proofs.YtamddkjccmhgaaaGreatDoor
set_option maxRecDepth 100000
section
variable {α : Type} [DecidableEq α] {C : Ec α} (T : Tw C)
theorem Tw.in_of {P : Pt α} (hP : C.onP P) (line : C.ad (C.ad P (T.p P)) (T.p (T.p P)) = none) {U r : Nat} (hU : r + U * U = (U * U) * (U * U) + 1) (h : C.ne (C.times (C.times P U) U) = T.p P) : C.times P r = none := by
  rw [← C.times_mul hP] at h
  generalize U * U = V at h hU
  have hQ := C.times_on hP V
  have e2 : T.p (T.p P) = C.times P (V * V) := by
    rw [← h, T.p_ne, T.p_times hP, ← h, C.times_ne hQ, C.ne_ne, C.times_mul hP]
  have hS := C.times_on hP (V * V)
  rw [e2, ← h] at line
  have e3 : C.ad (C.times P r) (C.times P V) = C.ad (C.times P (V * V)) P := by rw [← C.times_add hP, hU]; rfl
  have e4 : C.ad (C.ad (C.times P r) (C.times P V)) (C.ne (C.times P V)) = C.times P r := by
    rw [C.ad_assoc (C.times_on hP r) hQ (C.ne_on hQ), C.ad_ne, C.ad_nr]
  rw [← e4, e3, C.ad_assoc hS hP (C.ne_on hQ), C.ad_comm hS (C.ad_on hP (C.ne_on hQ)), line]
theorem Tw.out_of {G : Pt α} (hG : C.onP G) {U : Nat} (h : C.ne (C.times (C.times G U) U) = T.p G) (e : Nat) : C.ne (C.times (C.times (C.times G e) U) U) = T.p (C.times G e) := by
  have h1 := C.times_on hG U
  rw [T.p_times hG, ← h, C.times_ne (C.times_on h1 U), C.times_swap h1 U e, C.times_swap hG U e]
end
theorem jr_is {α : Type} (C : Ec α) {J : α × α × α} {P : Pt α} {x y : α} (h : C.jr J P) (hz : J.2.2 ≠ C.R.zero) (hx : J.1 = C.R.mul x (C.z2 J.2.2)) (hy : J.2.1 = C.R.mul y (C.z3 J.2.2)) : P = some (x, y) := by
  cases P with
  | none => exact absurd h hz
  | some p =>
    refine congrArg some (Prod.ext ?_ ?_)
    · exact C.mul_can (C.z2_ne hz) (h.2.1.symm.trans hx)
    · exact C.mul_can (C.z3_ne hz) (h.2.2.symm.trans hy)
theorem jm_is {α : Type} [DecidableEq α] (C : Ec α) {J K : α × α × α} {P : Pt α} (hP : C.onP P) (h : C.jr J P) (l : List Bool) {n : Nat} (hn : bitsN l 0 = n) (hK : C.jm J l (C.R.zero, C.R.zero, C.R.zero) = K) {x y : α} (hz : K.2.2 ≠ C.R.zero) (hx : K.1 = C.R.mul x (C.z2 K.2.2)) (hy : K.2.1 = C.R.mul y (C.z3 K.2.2)) : C.times P n = some (x, y) := by
  have k := C.jr_m hP h l (C.R.zero, C.R.zero, C.R.zero) 0 (show C.R.zero = C.R.zero from rfl)
  rw [hn, hK] at k
  exact jr_is C k hz hx hy
theorem inv_pr {p : Nat} (hp : Pr p) {d : Nat} (h0 : 0 < d) (h1 : d < p) : ∃ e, (d * e) % p = 1 := by
  refine ⟨d ^ (p - 2), ?_⟩
  have h2 : 1 < p := hp.1
  rw [← Nat.pow_succ', show (p - 2).succ = p - 1 from by omega]
  exact hp.fermat1 fun h => absurd (Nat.le_of_dvd h0 h) (by omega)
/-! ### The first curve -/
/-- A third root of 1. -/
def TRN : Nat := 0x5f19672fdf76ce51ba69c6076a0f77eaddb3a93be6f89688de17d813620a00022e01fffffffefffe
theorem TRN_w2 : zp TRN * zp TRN * (zp TRN * zp TRN) = zp TRN := by decide +kernel
theorem TRN_w3 : zp TRN * zp TRN * (zp TRN * zp TRN * (zp TRN * zp TRN)) = 1 := by decide +kernel
theorem TRN_sum : zp TRN * zp TRN + zp TRN + 1 = 0 := by decide +kernel
theorem TRN_wn : zp TRN * zp TRN ≠ 0 := by decide +kernel
def TW1 : Tw E1 where
  f := fun a => a
  w := zp TRN * zp TRN
  fa := fun _ _ => rfl
  fm := fun _ _ => rfl
  fn := fun _ => rfl
  f0 := rfl
  fi := fun _ h => h
  wn := TRN_wn
  wb := by decide +kernel
theorem TW1_m (q : Zp × Zp) : TW1.m q = (zp TRN * q.1, q.2) := by
  refine Prod.ext ?_ ?_
  · show zp TRN * zp TRN * (zp TRN * zp TRN) * q.1 = zp TRN * q.1
    rw [TRN_w2]
  · show zp TRN * zp TRN * (zp TRN * zp TRN * (zp TRN * zp TRN)) * q.2 = q.2
    rw [TRN_w3]
    generalize q.2 = y
    grind
theorem line_c {c x y : Zp} (hc : c * c + c + 1 = 0) (hp : E1.on (x, y)) (hq : E1.on (c * x, y)) : E1.ad (E1.ad (some (x, y)) (some (c * x, y))) (some (c * (c * x), y)) = none := by
  have ho : ¬ E1.opp (x, y) (c * x, y) := by
    intro h
    have h1 : x = c * x := h.1
    have hy : y = 0 := E1.dbl0 h.2
    have h3 : (1 + 1 + 1) * x = 0 := by
      have e : (c * c + c + 1) * x = c * (c * x) + c * x + x := by grind
      rw [hc, ← h1, ← h1] at e
      grind
    have hx : x = 0 := (zmul0 h3).resolve_left E1.h3
    subst hx hy
    have k : (0 : Zp) * 0 = 0 * (0 * 0) + zp 4 := hp
    exact absurd k (by decide +kernel)
  have hs : E1.Sl (x, y) (c * x, y) 0 := by
    refine ⟨?_, ?_⟩
    · show (0 : Zp) * (x + -(c * x)) = y + -y
      grind
    · show (0 : Zp) * (y + y) = x * x + x * (c * x) + c * x * (c * x)
      have e : x * x + x * (c * x) + c * x * (c * x) = (c * c + c + 1) * (x * x) := by grind
      rw [e, hc]
      grind
  rw [E1.ad_sl hp hq ho hs]
  refine E1.ad_opp ⟨?_, ?_⟩
  · show (0 : Zp) * 0 + -x + -(c * x) = c * (c * x)
    have e : c * (c * x) - ((0 : Zp) * 0 + -x + -(c * x)) = (c * c + c + 1) * x := by grind
    rw [hc] at e
    grind
  · show (0 : Zp) * (x + -((0 : Zp) * 0 + -x + -(c * x))) + -y + y = 0
    grind
theorem TW1_line {P : Pt Zp} (hP : E1.onP P) : E1.ad (E1.ad P (TW1.p P)) (TW1.p (TW1.p P)) = none := by
  cases P with
  | none => rfl
  | some q =>
    have e : TW1.p (some q) = some (zp TRN * q.1, q.2) := congrArg some (TW1_m q)
    have e' : TW1.p (some (zp TRN * q.1, q.2)) = some (zp TRN * (zp TRN * q.1), q.2) := congrArg some (TW1_m _)
    have hq : E1.onP (TW1.p (some q)) := TW1.p_on hP
    rw [e] at hq
    rw [e, e']
    exact line_c TRN_sum hP hq
/-- The number whose fourth power less its square, and 1, is r. -/
def UG : Nat := 0xd201000000010000
theorem UG_ord : ORD + UG * UG = (UG * UG) * (UG * UG) + 1 := by decide +kernel
def UGJ : Zp × Zp × Zp := E1.jm (zp G1x, zp G1y, 1) (bitsOf 128 (UG * UG) []) (0, 0, 0)
theorem UGJ_eq : E1.jm (zp G1x, zp G1y, 1) (bitsOf 128 (UG * UG) []) (E1.R.zero, E1.R.zero, E1.R.zero) = UGJ := by unfold UGJ; rfl
theorem ug_bits : bitsN (bitsOf 128 (UG * UG) []) 0 = UG * UG := by decide +kernel
theorem ugj : UGJ.2.2 ≠ 0 ∧ UGJ.1 = zp TRN * zp G1x * (UGJ.2.2 * UGJ.2.2) ∧ UGJ.2.1 = -(zp G1y) * (UGJ.2.2 * UGJ.2.2 * UGJ.2.2) := by decide +kernel
theorem G1_uu : E1.times (some G1p) (UG * UG) = some (zp TRN * zp G1x, -(zp G1y)) := jm_is E1 (P := some G1p) G1_on g1_jr (bitsOf 128 (UG * UG) []) ug_bits UGJ_eq ugj.1 ugj.2.1 ugj.2.2
theorem G1_on' : E1.onP (some G1p) := G1_on
theorem G1_tw : E1.ne (E1.times (E1.times (some G1p) UG) UG) = TW1.p (some G1p) := by
  rw [← E1.times_mul G1_on', G1_uu]
  refine congrArg some ((Prod.ext rfl ?_ : _ = (zp TRN * zp G1x, zp G1y)).trans (TW1_m G1p).symm)
  show - -(zp G1y) = zp G1y
  generalize zp G1y = y
  grind
/-- A point's number: x, and which of the two y. -/
def cdP : Pt Zp → Nat
  | none => 0
  | some p => 1 + (2 * p.1.val + p.2.val % 2)
theorem cd_lt (S : Pt Zp) : cdP S < 2 * PP + 1 := by
  cases S with
  | none => exact Nat.succ_pos _
  | some p =>
    show 1 + (2 * p.1.val + p.2.val % 2) < 2 * PP + 1
    have := p.1.isLt
    omega
theorem cd_y {a b : Zp} (h : a * a = b * b) (k : a.val % 2 = b.val % 2) : a = b := by
  have e : (a - b) * (a + b) = 0 := by grind
  rcases zmul0 e with h1 | h1
  · grind
  · have e2 : a = -b := by grind
    by_cases hb : b = 0
    · rw [e2, hb]; decide +kernel
    · exfalso
      rw [e2, neg_val hb] at k
      have h2 := b.isLt
      have h3 : PP % 2 = 1 := by decide +kernel
      omega
theorem cd_inj {S S' : Pt Zp} (h : E1.onP S) (h' : E1.onP S') (e : cdP S = cdP S') : S = S' := by
  cases S with
  | none =>
    cases S' with
    | none => rfl
    | some q => exact absurd (show 0 = 1 + (2 * q.1.val + q.2.val % 2) from e) (by omega)
  | some p =>
    cases S' with
    | none => exact absurd (show 1 + (2 * p.1.val + p.2.val % 2) = 0 from e) (by omega)
    | some q =>
      have e : 1 + (2 * p.1.val + p.2.val % 2) = 1 + (2 * q.1.val + q.2.val % 2) := e
      have ex : p.1 = q.1 := Fin.ext (by omega)
      have k1 : p.2 * p.2 = p.1 * (p.1 * p.1) + zp 4 := h
      have k2 : q.2 * q.2 = q.1 * (q.1 * q.1) + zp 4 := h'
      refine congrArg some (Prod.ext ex (cd_y (k1.trans ?_) (by omega)))
      rw [k2, ex]
theorem pr_ord : Pr ORD := by
  have e : ORD = RR := by decide +kernel
  rw [e]; exact pr_r
theorem G1_ne : (some G1p : Pt Zp) ≠ none := fun h => by cases h
/-- All points of the order r are so many times the generator. -/
theorem g1_cyc {P : Pt Zp} (hP : E1.onP P) (h : E1.times P ORD = none) : ∃ e, P = E1.times (some G1p) e :=
  E1.cyc G1_on' hP (fun _ h0 h1 => inv_pr pr_ord h0 h1) g1_order h G1_ne (2 * PP + 1) cdP (fun S _ => cd_lt S) (fun _ _ h h' e => cd_inj h h' e) (by decide +kernel)
/-- r times a point is the infinite one just where it turned is its opposite so many times. -/
theorem g1_in {P : Pt Zp} (hP : E1.onP P) : E1.ne (E1.times (E1.times P UG) UG) = TW1.p P ↔ E1.times P ORD = none := by
  constructor
  · exact fun h => TW1.in_of hP (TW1_line hP) UG_ord h
  · intro h
    obtain ⟨e, rfl⟩ := g1_cyc hP h
    exact TW1.out_of G1_on' G1_tw e
end Go.Proofs.YtamddkjccmhgaaaGreatDoor

namespace Go.Proofs.YtamddkjccmhgaaaGreatDoor
set_option maxRecDepth 100000
def G2p : W2 × W2 := ((zp 0x24aa2b2f08f0a91260805272dc51051c6e47ad4fa403b02b4510b647ae3d1770bac0326a805bbefd48056c8c121bdb8, zp 0x13e02b6052719f607dacd3a088274f65596bd0d09920b61ab5da61bbdc7f5049334cf11213945d57e5ac7d055d042b7e), (zp 0xce5d527727d6e118cc9cdc6da2e351aadfd9baa8cbdd3a76d429a695160d12c923ac9cc3baca289e193548608b82801, zp 0x606c4a02ea734cc32acd2b02bc28b99cb3e287e85a763af267492ab572e99ab3f370d275cec1da1aaa9075ff05f79be))
theorem G2_on : E2w.on G2p := by
  unfold Ec.on
  decide +kernel
theorem g2_jr : E2w.jr (G2p.1, G2p.2, on2) (some G2p) := ⟨by decide +kernel, by decide +kernel, by decide +kernel⟩
theorem g2_z : (E2w.jm (G2p.1, G2p.2, on2) (bitsOf 255 ORD []) (ze2, ze2, ze2)).2.2 = ze2 := by decide +kernel
/-- r times the second generator is the infinite point. -/
theorem g2_order : E2w.times (some G2p) ORD = none := jm_none E2w (P := some G2p) G2_on g2_jr (bitsOf 255 ORD []) rn_bits g2_z
end Go.Proofs.YtamddkjccmhgaaaGreatDoor

namespace Go.Proofs.YtamddkjccmhgaaaGreatDoor
set_option maxRecDepth 100000
def RJ2 : Pt W2 → W6
  | none => (ze2, ze2, ze2)
  | some p => (p.1, p.2, on2)
theorem on2_ne : on2 ≠ ze2 := fun h => absurd (congrArg Prod.fst h) one_ne0
theorem jr2_at (p : W2 × W2) : E2w.jr (p.1, p.2, on2) (some p) := E2w.jr_at p on2_ne
end Go.Proofs.YtamddkjccmhgaaaGreatDoor

namespace Go.Proofs.YtamddkjccmhgaaaGreatDoor
set_option maxRecDepth 100000
section
variable {α β : Type} {C : Ec α} {D : Ec β} (T : Hw C D)
theorem Hw.f1 : T.f C.R.one = D.R.one := by
  have e : D.R.mul (T.f C.R.one) (D.sub (T.f C.R.one) D.R.one) = D.R.zero := by
    have k := T.fm C.R.one C.R.one
    rw [C.R.mul_one] at k
    exact Rg.lc (R := D.R) (Rg.same (R := D.R) (ρ := ev D.R [T.f C.R.one]) (ta (tm (tv 0) (ta (tv 0) (tn to1))) (tm (tn to1) (tm (tv 0) (tv 0)))) (ta tz0 (tm (tn to1) (tv 0))) (by kernel_rfl)) (lcm k)
  exact D.sub0 ((D.fd.two e).resolve_left fun h => C.one_ne (T.fi _ h))
def Hw.fj (A : α × α × α) : β × β × β := (T.f A.1, T.f A.2.1, T.f A.2.2)
theorem Hw.jd_f (X Y Z : α) : D.jd (T.f X) (T.f Y) (T.f Z) = T.fj (C.jd X Y Z) := by
  simp only [Ec.jd, Hw.fj, T.fs, T.fm, T.fa]
theorem Hw.ja_f (X Y Z X' Y' Z' : α) : D.ja (T.f X) (T.f Y) (T.f Z) (T.f X') (T.f Y') (T.f Z') = T.fj (C.ja X Y Z X' Y' Z') := by
  simp only [Ec.ja, Hw.fj, T.fs, T.fm]
theorem Hw.js_f (x y : α) : ∀ (l : List Bool) (A : α × α × α), D.js (T.f x) (T.f y) l (T.fj A) = T.fj (C.js x y l A)
  | [], _ => rfl
  | false :: r, A => by
    show D.js (T.f x) (T.f y) r (D.jd (T.f A.1) (T.f A.2.1) (T.f A.2.2)) = T.fj (C.js x y r (C.jd A.1 A.2.1 A.2.2))
    rw [T.jd_f]
    exact Hw.js_f x y r _
  | true :: r, A => by
    show D.js (T.f x) (T.f y) r (D.ja (D.jd (T.f A.1) (T.f A.2.1) (T.f A.2.2)).1 (D.jd (T.f A.1) (T.f A.2.1) (T.f A.2.2)).2.1 (D.jd (T.f A.1) (T.f A.2.1) (T.f A.2.2)).2.2 (T.f x) (T.f y) D.R.one) = T.fj (C.js x y r (C.ja (C.jd A.1 A.2.1 A.2.2).1 (C.jd A.1 A.2.1 A.2.2).2.1 (C.jd A.1 A.2.1 A.2.2).2.2 x y C.R.one))
    rw [T.jd_f, ← T.f1]
    exact (congrArg (D.js (T.f x) (T.f y) r) (T.ja_f _ _ _ _ _ _)).trans (Hw.js_f x y r _)
theorem Hw.js_ne (x y : α) (l : List Bool) (h : (C.js x y l (x, y, C.R.one)).2.2 ≠ C.R.zero) : (D.js (T.f x) (T.f y) l (T.f x, T.f y, D.R.one)).2.2 ≠ D.R.zero := fun e => h (T.fi _ (by
  have k := T.js_f x y l (x, y, C.R.one)
  have k2 : D.js (T.f x) (T.f y) l (T.f x, T.f y, D.R.one) = T.fj (C.js x y l (x, y, C.R.one)) := by rw [← k, ← T.f1]; rfl
  rw [k2] at e
  exact e))
end
/-! ### Over p^12 -/
def E12 : Ec W12 where
  R := K12
  iv := iv12
  b := em (zp 4, zp 4)
  hi := fun _ h => iv12_mul h
  h2 := by decide +kernel
  h3 := by decide +kernel
  hb := by decide +kernel
theorem em_add (a b : W2) : em (ad2 a b) = K12.add (em a) (em b) := Prod.ext (Prod.ext rfl (Prod.ext (R2.add_zero _).symm (R2.add_zero _).symm)) (Prod.ext (R2.add_zero _).symm (Prod.ext (R2.add_zero _).symm (R2.add_zero _).symm))
theorem em_neg (a : W2) : em (ng2 a) = K12.neg (em a) := Prod.ext (Prod.ext rfl (Prod.ext R2.neg_zero.symm R2.neg_zero.symm)) (Prod.ext R2.neg_zero.symm (Prod.ext R2.neg_zero.symm R2.neg_zero.symm))
theorem em_inj0 {a : W2} (h : em a = K12.zero) : a = ze2 := congrArg (fun x : W12 => x.1.1) h
/-- Pairs among them. -/
def HE : Hw E2w E12 where
  f := em
  w := K12.one
  fa := em_add
  fm := fun a b => (em_mul a b).symm
  fn := em_neg
  f0 := rfl
  fi := fun _ h => em_inj0 h
  wn := by decide +kernel
  wb := by decide +kernel
/-- A sixth root of 1 + i. -/
def WW : W12 := (K6.zero, K6.one)
def re2 (a : Zp) : W2 := (a, 0)
theorem re2_add (a b : Zp) : re2 (a + b) = ad2 (re2 a) (re2 b) := w2_ext rfl (by show (0 : Zp) = 0 + 0; exact (z_a0' 0).symm)
theorem re2_mul (a b : Zp) : re2 (a * b) = ml2 (re2 a) (re2 b) := w2_ext (by show a * b = a * b - 0 * 0; rw [z_m0, z_s0']) (by show (0 : Zp) = a * 0 + 0 * b; rw [z_m0, z_0m, z_a0'])
theorem re2_neg (a : Zp) : re2 (-a) = ng2 (re2 a) := w2_ext rfl (by show (0 : Zp) = -0; exact z_n0'.symm)
theorem re2_inj0 {a : Zp} (h : re2 a = ze2) : a = 0 := congrArg Prod.fst h
/-- The first curve's points among them. -/
def HB : Hw E1 E12 where
  f := fun a => em (re2 a)
  w := WW
  fa := fun a b => by show em (re2 (a + b)) = _; rw [re2_add, em_add]; rfl
  fm := fun a b => by show em (re2 (a * b)) = _; rw [re2_mul, ← em_mul]; rfl
  fn := fun a => by show em (re2 (-a)) = _; rw [re2_neg, em_neg]; rfl
  f0 := rfl
  fi := fun _ h => re2_inj0 (em_inj0 h)
  wn := by decide +kernel
  wb := by decide +kernel
theorem WW2 : K12.mul WW WW = r6 VV := by decide +kernel
theorem sc6_VV (c : W2) : sc6 VV c = (ze2, c, ze2) := Prod.ext (R2.zero_mul c) (Prod.ext (R2.one_mul c) (R2.zero_mul c))
theorem WW_x (c : W2) : K12.mul (K12.mul WW WW) (em c) = r6 (ze2, c, ze2) := by rw [WW2, r6_scale, sc6_VV]
theorem WW_r6 (x : W6) : K12.mul WW (r6 x) = (K6.zero, x) := by
  refine Prod.ext ?_ ?_
  · show K6.add (K6.mul K6.zero x) (K6.mul VV (K6.mul K6.one K6.zero)) = K6.zero
    rw [K6.zero_mul, K6.mul_zero, K6.mul_zero, K6.add_zero]
  · show K6.add (K6.mul K6.zero K6.zero) (K6.mul K6.one x) = x
    rw [K6.zero_mul, K6.zero_add, K6.one_mul]
theorem WW_y (c : W2) : K12.mul (K12.mul WW (K12.mul WW WW)) (em c) = (K6.zero, (ze2, c, ze2)) := by rw [K12.mul_assoc, WW_x, WW_r6]
/-- No point of both. -/
theorem sep12 (S : Pt W2) (S' : Pt Zp) (_ : E2w.onP S) (h' : E1.onP S') (h : HE.p S = HB.p S') : S' = none := by
  cases S' with
  | none => rfl
  | some q =>
    cases S with
    | none => cases h
    | some s =>
      exfalso
      have h : HE.m s = HB.m q := Option.some.inj h
      have hx : K12.mul (K12.mul K12.one K12.one) (em s.1) = K12.mul (K12.mul WW WW) (em (re2 q.1)) := congrArg Prod.fst h
      have hy : K12.mul (K12.mul K12.one (K12.mul K12.one K12.one)) (em s.2) = K12.mul (K12.mul WW (K12.mul WW WW)) (em (re2 q.2)) := congrArg Prod.snd h
      rw [WW_x, K12.one_mul, K12.one_mul] at hx
      rw [WW_y, K12.one_mul, K12.one_mul, K12.one_mul] at hy
      have x0 : q.1 = 0 := re2_inj0 (congrArg (fun x : W12 => x.1.2.1) hx).symm
      have y0 : q.2 = 0 := re2_inj0 (congrArg (fun x : W12 => x.2.2.1) hy).symm
      have k : q.2 * q.2 = q.1 * (q.1 * q.1) + zp 4 := h'
      rw [x0, y0] at k
      exact absurd k (by decide +kernel)
/-- A point of another order. -/
def AX : W2 := (zp 2, 0)
def AY : W2 := (zp 0x18c6b864ae17dc9da64203ffefb966306425a7bc6aeb7c75247438372716284a4173830420cd476ba1a365b95bfcec38, zp 0x172e93db764a8400a7d5071b6b6f5de0da2f0f4a063119abca014006b7c40a2cfe291a1924e65db0d6d0fcfbf3bf3d5c)
theorem A_on : E2w.on (AX, AY) := by
  unfold Ec.on
  decide +kernel
def l12 : List Bool := (bitsOf 255 ORD []).tail
theorem l12_n : bitsM l12 1 = ORD := by decide +kernel
theorem l12_m : 2 * mB l12 1 < ((ORD - 1) / 2) * (ORD * ORD) := by decide +kernel
theorem l12_h : 2 * ((ORD - 1) / 2) < ORD := by decide +kernel
theorem A_1 : (E2w.js AX AY l12 (AX, AY, on2)).2.2 ≠ ze2 := by decide +kernel
theorem A_2 : (E2w.js AX (ng2 AY) l12 (AX, ng2 AY, on2)).2.2 ≠ ze2 := by decide +kernel
theorem HE_m (s : W2 × W2) : HE.m s = (em s.1, em s.2) := by
  refine Prod.ext ?_ ?_
  · show K12.mul (K12.mul K12.one K12.one) (em s.1) = em s.1
    rw [K12.one_mul, K12.one_mul]
  · show K12.mul (K12.mul K12.one (K12.mul K12.one K12.one)) (em s.2) = em s.2
    rw [K12.one_mul, K12.one_mul, K12.one_mul]
theorem A12_on : E12.on (em AX, em AY) := by
  have h := HE.m_on A_on
  rw [HE_m] at h
  exact h
theorem G2_ne : (some G2p : Pt W2) ≠ none := fun h => by cases h
theorem G2_on' : E2w.onP (some G2p) := G2_on
/-- All points of the second curve of the order r are so many times its generator. -/
theorem g2_cyc {l : List Bool} {r h : Nat} (hr : Pr r) (hl : bitsM l 1 = r) (hM : 2 * mB l 1 < h * (r * r)) (hh : 2 * h < r) (n1 : (E2w.js AX AY l (AX, AY, on2)).2.2 ≠ ze2) (n2 : (E2w.js AX (ng2 AY) l (AX, ng2 AY, on2)).2.2 ≠ ze2) (g1 : E1.times (some G1p) r = none) (g2 : E2w.times (some G2p) r = none) {P : Pt W2} (hP : E2w.onP P) (hp : E2w.times P r = none) : ∃ e, P = E2w.times (some G2p) e := by
  have m2 := HE.js_ne AX (ng2 AY) l n2
  have en : em (ng2 AY) = E12.R.neg (em AY) := em_neg AY
  have m2' : (E12.js (em AX) (em (ng2 AY)) l (em AX, em (ng2 AY), E12.R.one)).2.2 ≠ E12.R.zero := m2
  rw [en] at m2'
  exact tors_cyc HE HB sep12 (fun _ h0 h1 => inv_pr hr h0 h1) G2_on' hP G1_on' g2 hp g1 G2_ne G1_ne hl A12_on (HE.js_ne AX AY l n1) m2' hh hM
theorem g2_gen {P : Pt W2} (hP : E2w.onP P) (h : E2w.times P ORD = none) : ∃ e, P = E2w.times (some G2p) e := g2_cyc pr_ord l12_n l12_m l12_h A_1 A_2 g1_order g2_order hP h
end Go.Proofs.YtamddkjccmhgaaaGreatDoor

namespace Go.Proofs.YtamddkjccmhgaaaGreatDoor
set_option maxRecDepth 100000
section
variable {α : Type} [DecidableEq α] (C : Ec α)
/-- Three points of one y, the third roots of 1 times an x, are on a line. -/
theorem Ec.line {c x y : α} (hc : C.R.add (C.R.add (C.R.mul c c) c) C.R.one = C.R.zero) (hp : C.on (x, y)) (hq : C.on (C.R.mul c x, y)) : C.ad (C.ad (some (x, y)) (some (C.R.mul c x, y))) (some (C.R.mul c (C.R.mul c x), y)) = none := by
  have ho : ¬ C.opp (x, y) (C.R.mul c x, y) := by
    intro h
    have h1 : x = C.R.mul c x := h.1
    have hy : y = C.R.zero := C.dbl0 h.2
    have e : C.R.mul (C.R.add (C.R.add C.R.one C.R.one) C.R.one) x = C.R.zero := Rg.lc (R := C.R) (Rg.same (R := C.R) (ρ := ev C.R [x, y, c]) (ta (tm (ta (ta to1 to1) to1) (tv 0)) (ta (tm (tv 0) tz0) (tm (ta (ta to1 to1) (tv 2)) (tm (tv 2) (tv 0))))) (ta tz0 (ta (tm (tv 0) (ta (ta (tm (tv 2) (tv 2)) (tv 2)) to1)) (tm (ta (ta to1 to1) (tv 2)) (tv 0)))) (by kernel_rfl)) (lca (lcm hc) (lcm h1))
    have hx : x = C.R.zero := (C.fd.two e).resolve_left C.h3
    subst hx hy
    have k : C.R.mul C.R.zero C.R.zero = C.R.add (C.R.mul C.R.zero (C.R.mul C.R.zero C.R.zero)) C.b := hp
    rw [C.R.mul_zero, C.R.mul_zero, C.R.zero_add] at k
    exact C.hb k.symm
  have hs : C.Sl (x, y) (C.R.mul c x, y) C.R.zero := by
    refine ⟨?_, ?_⟩
    · show C.R.mul C.R.zero (C.R.add x (C.R.neg (C.R.mul c x))) = C.R.add y (C.R.neg y)
      exact Rg.same (R := C.R) (ρ := ev C.R [x, y, c]) (tm tz0 (ta (tv 0) (tn (tm (tv 2) (tv 0))))) (ta (tv 1) (tn (tv 1))) (by kernel_rfl)
    · show C.R.mul C.R.zero (C.R.add y y) = C.R.add (C.R.add (C.R.mul x x) (C.R.mul x (C.R.mul c x))) (C.R.mul (C.R.mul c x) (C.R.mul c x))
      exact Rg.lc (R := C.R) (Rg.same (R := C.R) (ρ := ev C.R [x, y, c]) (ta (tm tz0 (ta (tv 1) (tv 1))) (tm (tn (tm (tv 0) (tv 0))) tz0)) (ta (ta (ta (tm (tv 0) (tv 0)) (tm (tv 0) (tm (tv 2) (tv 0)))) (tm (tm (tv 2) (tv 0)) (tm (tv 2) (tv 0)))) (tm (tn (tm (tv 0) (tv 0))) (ta (ta (tm (tv 2) (tv 2)) (tv 2)) to1))) (by kernel_rfl)) (lcm hc)
  rw [C.ad_sl hp hq ho hs]
  refine C.ad_opp ⟨?_, ?_⟩
  · show C.R.add (C.R.add (C.R.mul C.R.zero C.R.zero) (C.R.neg x)) (C.R.neg (C.R.mul c x)) = C.R.mul c (C.R.mul c x)
    exact Rg.lc (R := C.R) (Rg.same (R := C.R) (ρ := ev C.R [x, y, c]) (ta (ta (ta (tm tz0 tz0) (tn (tv 0))) (tn (tm (tv 2) (tv 0)))) (tm (tn (tv 0)) tz0)) (ta (tm (tv 2) (tm (tv 2) (tv 0))) (tm (tn (tv 0)) (ta (ta (tm (tv 2) (tv 2)) (tv 2)) to1))) (by kernel_rfl)) (lcm hc)
  · show C.R.add (C.R.add (C.R.mul C.R.zero _) (C.R.neg y)) y = C.R.zero
    rw [C.R.zero_mul, C.R.zero_add, C.R.add_comm, C.R.add_neg]
variable {C} (T : Tw C)
theorem Hw.psi_in {P : Pt α} (hP : C.onP P) (line : C.ad (C.ad P (C.ne (T.p (T.p P)))) (T.p (T.p (T.p (T.p P)))) = none) {U r : Nat} (hU : r + U * U = (U * U) * (U * U) + 1) (h : C.ne (C.times P U) = T.p P) : C.times P r = none := by
  have two : ∀ {Q : Pt α}, C.onP Q → C.ne (C.times Q U) = T.p Q → T.p (T.p Q) = C.times Q (U * U) := fun {Q} hQ hq => by
    rw [← hq, T.p_ne, T.p_times hQ, ← hq, C.times_ne (C.times_on hQ U), C.ne_ne, C.times_mul hQ]
  have e2 := two hP h
  have hV := C.times_on hP (U * U)
  have h4 : C.ne (C.times (C.times P (U * U)) U) = T.p (C.times P (U * U)) := by
    rw [T.p_times hP, ← h, C.times_ne (C.times_on hP U), C.times_swap hP]
  have e4 := two hV h4
  rw [← C.times_mul hP] at e4
  rw [e2, e4] at line
  generalize U * U = V at *
  have hS := C.times_on hP (V * V)
  have e3 : C.ad (C.times P r) (C.times P V) = C.ad (C.times P (V * V)) P := by rw [← C.times_add hP, hU]; rfl
  have e5 : C.ad (C.ad (C.times P r) (C.times P V)) (C.ne (C.times P V)) = C.times P r := by
    rw [C.ad_assoc (C.times_on hP r) hV (C.ne_on hV), C.ad_ne, C.ad_nr]
  rw [← e5, e3, C.ad_assoc hS hP (C.ne_on hV), C.ad_comm hS (C.ad_on hP (C.ne_on hV)), line]
theorem Hw.psi_out {G : Pt α} (hG : C.onP G) {U : Nat} (h : C.ne (C.times G U) = T.p G) (e : Nat) : C.ne (C.times (C.times G e) U) = T.p (C.times G e) := by
  rw [T.p_times hG, ← h, C.times_ne (C.times_on hG U), C.times_swap hG e U]
end
/-! ### The second curve -/
def PW : W2 := (zp 0x5b2cfd9013a5fd8df47fa6b48b1e045f39816240c0b8fee8beadf4d8e9c0566c63a3e6e257f87329b18fae980078116, zp 0x5b2cfd9013a5fd8df47fa6b48b1e045f39816240c0b8fee8beadf4d8e9c0566c63a3e6e257f87329b18fae980078116)
/-- By what the conjugates are multiplied. -/
def TXn : Nat := 0x1a0111ea397fe699ec02408663d4de85aa0d857d89759ad4897d29650fb85f9b409427eb4f49fffd8bfd00000000aaad
def TY0 : Nat := 0x135203e60180a68ee2e9c448d77a2cd91c3dedd930b1cf60ef396489f61eb45e304466cf3e67fa0af1ee7b04121bdea2
def TY1 : Nat := 0x6af0e0437ff400b6831e36d6bd17ffe48395dabc2d3435e77f76e17009241c5ee67992f72ec05f4c81084fbede3cc09
def TX2 : W2 := (0, zp TXn)
def TY2 : W2 := (zp TY0, zp TY1)
theorem PW_2 : ml2 PW PW = TX2 := by decide +kernel
theorem PW_3 : ml2 PW (ml2 PW PW) = TY2 := by decide +kernel
theorem cj2_neg (x : W2) : cj2 (ng2 x) = ng2 (cj2 x) := rfl
theorem cj2_inj0 {x : W2} (h : cj2 x = ze2) : x = ze2 := by
  have h1 : x.1 = 0 := congrArg Prod.fst h
  have h2 : -x.2 = 0 := congrArg Prod.snd h
  exact w2_ext h1 (neg_eq0.1 h2)
def TW2 : Tw E2w where
  f := cj2
  w := PW
  fa := cj2_add
  fm := cj2_mul
  fn := cj2_neg
  f0 := by decide +kernel
  fi := fun _ h => cj2_inj0 h
  wn := by decide +kernel
  wb := by decide +kernel
theorem TW2_m (q : W2 × W2) : TW2.m q = (ml2 TX2 (cj2 q.1), ml2 TY2 (cj2 q.2)) := by
  refine Prod.ext ?_ ?_
  · show ml2 (ml2 PW PW) (cj2 q.1) = ml2 TX2 (cj2 q.1)
    rw [PW_2]
  · show ml2 (ml2 PW (ml2 PW PW)) (cj2 q.2) = ml2 TY2 (cj2 q.2)
    rw [PW_3]
/-- A third root of 1. -/
def TR2 : W2 := ml2 TX2 (cj2 TX2)
theorem TR2_sum : ad2 (ad2 (ml2 TR2 TR2) TR2) on2 = ze2 := by decide +kernel
theorem TY2_n : ml2 TY2 (cj2 TY2) = ng2 on2 := by decide +kernel
theorem cj2_cj (x : W2) : cj2 (cj2 x) = x := w2_ext rfl (by show - -x.2 = x.2; generalize x.2 = a; grind)
theorem TW2_2 (q : W2 × W2) : TW2.m (TW2.m q) = (ml2 TR2 q.1, ng2 q.2) := by
  rw [TW2_m, TW2_m]
  refine Prod.ext ?_ ?_
  · show ml2 TX2 (cj2 (ml2 TX2 (cj2 q.1))) = ml2 (ml2 TX2 (cj2 TX2)) q.1
    rw [cj2_mul, cj2_cj]
    exact (R2.mul_assoc _ _ _).symm
  · show ml2 TY2 (cj2 (ml2 TY2 (cj2 q.2))) = ng2 q.2
    rw [cj2_mul, cj2_cj]
    refine (R2.mul_assoc _ _ _).symm.trans ?_
    show ml2 (ml2 TY2 (cj2 TY2)) q.2 = ng2 q.2
    rw [TY2_n]
    refine (R2.neg_mul _ _).trans ?_
    exact congrArg ng2 (R2.one_mul q.2)
theorem TW2_line {P : Pt W2} (hP : E2w.onP P) : E2w.ad (E2w.ad P (E2w.ne (TW2.p (TW2.p P)))) (TW2.p (TW2.p (TW2.p (TW2.p P)))) = none := by
  cases P with
  | none => rfl
  | some q =>
    have e2 : ∀ s : W2 × W2, TW2.p (TW2.p (some s)) = some (ml2 TR2 s.1, ng2 s.2) := fun s => congrArg some (TW2_2 s)
    have o2 : E2w.onP (TW2.p (TW2.p (some q))) := TW2.p_on (TW2.p_on hP)
    rw [e2] at o2
    have nn : ∀ a : W2, ng2 (ng2 a) = a := R2.neg_neg
    have on3 := E2w.ne_on o2
    rw [show E2w.ne (some (ml2 TR2 q.1, ng2 q.2)) = some (ml2 TR2 q.1, ng2 (ng2 q.2)) from rfl, nn] at on3
    rw [e2, e2, show E2w.ne (some (ml2 TR2 q.1, ng2 q.2)) = some (ml2 TR2 q.1, ng2 (ng2 q.2)) from rfl, nn]
    show E2w.ad (E2w.ad (some (q.1, q.2)) (some (ml2 TR2 q.1, q.2))) (some (ml2 TR2 (ml2 TR2 q.1), q.2)) = none
    exact E2w.line TR2_sum hP on3
def UGJ2 : W6 := E2w.jm (G2p.1, G2p.2, on2) (bitsOf 64 UG []) (ze2, ze2, ze2)
theorem UGJ2_eq : E2w.jm (G2p.1, G2p.2, on2) (bitsOf 64 UG []) (E2w.R.zero, E2w.R.zero, E2w.R.zero) = UGJ2 := by unfold UGJ2; rfl
theorem ug64 : bitsN (bitsOf 64 UG []) 0 = UG := by decide +kernel
theorem ugj2 : UGJ2.2.2 ≠ ze2 ∧ UGJ2.1 = ml2 (ml2 TX2 (cj2 G2p.1)) (ml2 UGJ2.2.2 UGJ2.2.2) ∧ UGJ2.2.1 = ml2 (ng2 (ml2 TY2 (cj2 G2p.2))) (ml2 (ml2 UGJ2.2.2 UGJ2.2.2) UGJ2.2.2) := by decide +kernel
theorem G2_u : E2w.times (some G2p) UG = some (ml2 TX2 (cj2 G2p.1), ng2 (ml2 TY2 (cj2 G2p.2))) := jm_is E2w (P := some G2p) G2_on g2_jr (bitsOf 64 UG []) ug64 UGJ2_eq ugj2.1 ugj2.2.1 ugj2.2.2
theorem G2_tw : E2w.ne (E2w.times (some G2p) UG) = TW2.p (some G2p) := by
  rw [G2_u]
  refine congrArg some ((Prod.ext rfl ?_ : _ = (ml2 TX2 (cj2 G2p.1), ml2 TY2 (cj2 G2p.2))).trans (TW2_m G2p).symm)
  show ng2 (ng2 (ml2 TY2 (cj2 G2p.2))) = ml2 TY2 (cj2 G2p.2)
  exact R2.neg_neg _
/-- r times a point is the infinite one just where it turned is its opposite so many times. -/
theorem g2_in {P : Pt W2} (hP : E2w.onP P) : E2w.ne (E2w.times P UG) = TW2.p P ↔ E2w.times P ORD = none := by
  constructor
  · exact fun h => TW2.psi_in hP (TW2_line hP) UG_ord h
  · intro h
    obtain ⟨e, rfl⟩ := g2_gen hP h
    exact TW2.psi_out G2_on' G2_tw e
end Go.Proofs.YtamddkjccmhgaaaGreatDoor
