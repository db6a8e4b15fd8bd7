/-
  What is known of the package-level variables.
  Powers by digits of four bits, and by bits. Nothing here names a program.
  Signs, roots, numbers of many bytes: as functions of elements. Nothing here names a program.
  What the laws of layer 3 say of elements. Nothing here names a program.
  The field of p^2 elements: a + b i. Nothing here names a program.
  What the walks of package fp2 meet: signs, powers, roots. Nothing here names a program.
  The fields of p^6 and p^12 elements, over pairs: that they are fields; the power of p. Nothing here names a program.
  Inverses in the fields of p^6 and p^12 elements, as the reference reckons them. Nothing here names a program.
  Elements of fp6 among those of six parts. Nothing here names a program.
  The powers of p in the field of p^6 elements. Nothing here names a program.
  Powers of p in the field of p^6 elements by a third root of 1. Nothing here names a program.
  The powers of p in the field of p^12 elements, its conjugates. Nothing here names a program.
-/
import Derived.Test.YtbpifgcbkhohbaaDoorX4
import Derived.Test.YtbpifgcbkhohbaaDoorRows
import Derived.Test.YtbpifgcbkhohbaaDoorX3
namespace Go.Proofs.YtbpifgcbkhohbaaDoor
open Go.RowKit
set_option maxRecDepth 100000
def IVP : List (BitVec 64) := [0xb9feffffffffaaa9#64, 0x1eabfffeb153ffff#64, 0x6730d2a0f6b0f624#64, 0x64774b84f38512bf#64, 0x4b1ba7b6434bacd7#64, 0x1a0111ea397fe69a#64]
def HFP : List (BitVec 64) := [0xdcff7fffffffd555#64, 0xf55ffff58a9ffff#64, 0xb39869507b587b12#64, 0xb23ba5c279c2895f#64, 0x258dd3db21a5d66b#64, 0xd0088f51cbff34d#64]
theorem HFP_val : V HFP 6 = (PP - 1) / 2 := by decide +kernel
def RTP : List (BitVec 64) := [0xee7fbfffffffeaab#64, 0x7aaffffac54ffff#64, 0xd9cc34a83dac3d89#64, 0xd91dd2e13ce144af#64, 0x92c6e9ed90d2eb35#64, 0x680447a8e5ff9a6#64]
theorem RTP_val : V RTP 6 = (PP + 1) / 4 := by decide +kernel
theorem IVP_val : V IVP 6 = PP - 2 := by decide +kernel
/-- The package-level variables read as the program's text lays them. -/
structure Gt (w : World) : Prop where
  g0 : w.rangeAt 0 0 (TWO.map U64)
  g1 : w.rangeAt 1 0 (PL.map U64)
  g2 : w.rangeAt 2 0 (IVP.map U64)
theorem range_same {w w' : World} {b : Nat} {cs : List Value} (hk : w'.heap[b]? = w.heap[b]?) (h : w.rangeAt b 0 cs) : w'.rangeAt b 0 cs := fun j v hv => by
  rw [World.cell?_of_block (w := w) hk]
  exact h j v hv
theorem gt_low : GLow Gt 3 where
  size := fun w h => by
    have := block_lt_of_cell (h.g2 0 _ (by rfl : (IVP.map U64)[0]? = some (U64 0xb9feffffffffaaa9#64)))
    exact this
  same := fun w w' hk h => ⟨range_same (hk 0 (by omega)) h.g0, range_same (hk 1 (by omega)) h.g1, range_same (hk 2 (by omega)) h.g2⟩
theorem mixed : Tryd.prog.follows .mixedOrders = true := by kernel_rfl
end Go.Proofs.YtbpifgcbkhohbaaDoor

namespace Go.Proofs.YtbpifgcbkhohbaaDoor
set_option maxRecDepth 100000
/-- The digits of bytes, two a byte, the high one first; the number of the first ones. -/
def NBv (bs : List (BitVec 8)) (m : Nat) : BitVec 8 := if m % 2 = 0 then bs.getD (m / 2) 0 >>> 4 else bs.getD (m / 2) 0 % 16#8
theorem NBv_lt (bs : List (BitVec 8)) (m : Nat) : (NBv bs m).toNat < 16 := by
  have h := (bs.getD (m / 2) 0).isLt
  unfold NBv
  split
  · rw [BitVec.toNat_ushiftRight, Nat.shiftRight_eq_div_pow]; omega
  · rw [BitVec.toNat_umod]; exact Nat.mod_lt _ (by decide)
def DN (bs : List (BitVec 8)) : Nat → Nat
  | 0 => 0
  | m + 1 => 16 * DN bs m + (NBv bs m).toNat
theorem DN_two (bs : List (BitVec 8)) : ∀ k, DN bs (2 * k) = BN bs k
  | 0 => rfl
  | k + 1 => by
    have h := (bs.getD k 0).isLt
    have e0 : NBv bs (2 * k) = bs.getD k 0 >>> 4 := by
      rw [NBv, if_pos (by omega), show 2 * k / 2 = k by omega]
    have e1 : NBv bs (2 * k + 1) = bs.getD k 0 % 16#8 := by
      rw [NBv, if_neg (by omega), show (2 * k + 1) / 2 = k by omega]
    rw [show 2 * (k + 1) = 2 * k + 1 + 1 by omega, DN, DN, DN_two bs k, BN, e0, e1, BitVec.toNat_ushiftRight, Nat.shiftRight_eq_div_pow, BitVec.toNat_umod, show (16#8).toNat = 16 from rfl]
    omega
theorem sq_step (x : Zp) (j D : Nat) : x ^ (2 ^ j * D) * x ^ (2 ^ j * D) = x ^ (2 ^ (j + 1) * D) := by
  rw [← padd, Nat.pow_succ, show 2 ^ j * 2 * D = 2 ^ j * D + 2 ^ j * D by rw [Nat.mul_right_comm]; omega]
theorem dig_step (x : Zp) (bs : List (BitVec 8)) (k : Nat) : x ^ (2 ^ 4 * DN bs k) * x ^ (NBv bs k).toNat = x ^ DN bs (k + 1) := by
  rw [← padd, DN]
/-! ### Sixteen powers -/
def SP (x : Zp) (i : Nat) : List (BitVec 64) := FL (fun j => if j < i then fe (x ^ j) else List.replicate 6 0) 16
theorem SP_len (x : Zp) (i : Nat) : (SP x i).length = 96 := FL_len _ _
theorem SP_one (x : Zp) : FL (fun i => if i = 0 then fe 1 else List.replicate 6 0) 16 = SP x 1 := FL_congr fun i _ => by
  by_cases h : i = 0
  · rw [if_pos h, if_pos (by omega), h, p0]
  · rw [if_neg h, if_neg (by omega)]
theorem SP_load (x : Zp) (i k : Nat) (hk : k < i) (hi : i ≤ 16) (o : Nat) (ho : o = 6 * k) : ∀ j v, ((fe (x ^ k)).map U64)[j]? = some v → ((SP x i).map U64)[o + j]? = some v := by
  have h := FL_load (fun j => if j < i then fe (x ^ j) else List.replicate 6 0) 16 k (by omega) (by simp only [if_pos hk]; exact fe_len _) o ho
  simp only [if_pos hk] at h
  exact h
theorem SP_step (x : Zp) (i : Nat) (h1 : 1 ≤ i) (hi : i < 16) (o : Nat) (ho : o = 6 * i) : lay o ((fe (x ^ (i - 1) * x)).map U64) ((SP x i).map U64) = (SP x (i + 1)).map U64 := by
  rw [SP, FL_lay _ 16 i _ hi (fe_len _) o ho]
  congr 1
  refine FL_congr fun j _ => ?_
  by_cases h : j = i
  · rw [if_pos h, if_pos (by omega), h, ← ps, show i - 1 + 1 = i by omega]
  · rw [if_neg h]
    by_cases h' : j < i
    · rw [if_pos h', if_pos (by omega)]
    · rw [if_neg h', if_neg (by omega)]
end Go.Proofs.YtbpifgcbkhohbaaDoor

namespace Go.Proofs.YtbpifgcbkhohbaaDoor
set_option maxRecDepth 100000
theorem low_bit (l : List (BitVec 64)) : (l.getD 0 0).toNat % 2 = V l 6 % 2 := by
  have h := V_bit l 6 0 (by decide)
  rw [Nat.testBit_zero, Nat.zero_div, Nat.zero_mod, BitVec.getLsbD, Nat.testBit_zero] at h
  have h' := decide_eq_decide.1 h
  omega
theorem odd_eq (x : Zp) : ((nm x).getD 0 0 % 2#64 == 1#64) = decide (x.val % 2 = 1) := by
  have h := low_bit (nm x)
  rw [V_nm] at h
  rw [← h]
  by_cases e : (nm x).getD 0 0 % 2#64 = 1#64
  · have := congrArg BitVec.toNat e
    rw [BitVec.toNat_umod] at this
    rw [beq_iff_eq.2 e, decide_eq_true]
    exact this
  · rw [beq_eq_false_iff_ne.2 e, decide_eq_false]
    intro h'
    apply e
    apply BitVec.eq_of_toNat_eq
    rw [BitVec.toNat_umod]
    exact h'
theorem odd_and (x : Zp) : decide ((nm x).getD 0 0 &&& 1#64 = 1#64) = decide (x.val % 2 = 1) := by
  have h := low_bit (nm x)
  rw [V_nm] at h
  rw [← h]
  apply decide_eq_decide.2
  constructor
  · intro e
    have := congrArg BitVec.toNat e
    rw [BitVec.toNat_and, show (1#64).toNat = 1 from rfl, Nat.and_one_is_mod] at this
    exact this
  · intro e
    apply BitVec.eq_of_toNat_eq
    rw [BitVec.toNat_and, show (1#64).toNat = 1 from rfl, Nat.and_one_is_mod]
    exact e
def hf : Nat := (PP - 1) / 2
def rg : Nat := (PP + 1) / 4
theorem PP_mod : PP % 4 = 3 := by decide +kernel
theorem PP_big : 1000 < PP := by decide +kernel
theorem hf_val : 2 * hf + 1 = PP := by have := PP_mod; unfold hf; omega
theorem rg_val : 4 * rg = PP + 1 := by have := PP_mod; unfold rg; omega
theorem hf_odd : hf % 2 = 1 := by have := PP_mod; have := hf_val; omega
theorem rg_hf : 2 * rg = hf + 1 := by have := rg_val; have := hf_val; omega
theorem large_eq (x : Zp) : LT HFP (nm x) 6 = decide (hf < x.val) := by rw [LT_val, V_nm, HFP_val]; rfl
theorem pow_eq0 {x : Zp} : ∀ {n : Nat}, x ^ (n + 1) = 0 → x = 0
  | 0, h => by rw [p1] at h; exact h
  | n + 1, h => by
    rw [ps] at h
    rcases zmul0 h with h | h
    · exact pow_eq0 h
    · exact h
theorem hf_pos : ∃ n, hf = n + 1 := ⟨hf - 1, by have := hf_val; have := PP_big; omega⟩
theorem hf_zero (x : Zp) : x ^ hf = 0 ↔ x = 0 := by
  obtain ⟨n, hn⟩ := hf_pos
  rw [hn]
  exact ⟨pow_eq0, fun h => by rw [h, zerop]⟩
def LEG (x : Zp) : Int := if x = 0 then 0 else if x ^ hf = 1 then 1 else -1
def SQr (x : Zp) : Zp := x ^ rg
def SQn (x : Zp) : Zp := if hf < (SQr x).val then -(SQr x) else SQr x
def SQ (x : Zp) : Zp := if SQr x * SQr x = x then SQn x else 0
/-- Bytes that are an element's. -/
def FO (bs : List (BitVec 8)) : Bool := decide (bs.length = 48 ∧ BN bs 48 < PP)
def FV (bs : List (BitVec 8)) : Zp := if bs.length = 48 ∧ BN bs 48 < PP then zp (BN bs 48) else 0
def ZB (bs : List (BitVec 8)) : Zp := zp (BN bs bs.length)
theorem R6_256g {k : Nat} (h : R6 = 2 ^ k) (hk : k = 8 * 48) : R6 = 256 ^ 48 := by rw [pow256, h, hk]
theorem R6_256 : R6 = 256 ^ 48 := R6_256g R6_def rfl
theorem wide_step (bs : List (BitVec 8)) (k cut : Nat) (h : k = 0 ∨ cut = 48) : zp (BN bs k) * RZ + zp (BN (bs.drop k) cut) = zp (BN bs (k + cut)) := by
  rw [BN_add bs k cut, zp_add, zp_mul]
  rcases h with rfl | rfl
  · rw [BN, zp_0]; grind
  · rw [← R6_256]; rfl
theorem cut_of {n : Nat} (h0 : 0 < n) (h : n % 48 = 0) : (n - 1) % 48 + 1 = 48 := by omega
theorem cut_rest {n : Nat} (h0 : 0 < n) : (n - ((n - 1) % 48 + 1)) % 48 = 0 ∧ (n - 1) % 48 + 1 ≤ n ∧ (n - 1) % 48 + 1 ≤ 48 := by omega
theorem BN_take (bs : List (BitVec 8)) (n : Nat) : BN (bs.take n) n = BN bs n := BN_congr n fun i hi => by
  rw [List.getD_eq_getElem?_getD, List.getD_eq_getElem?_getD, List.getElem?_take, if_pos hi]
end Go.Proofs.YtbpifgcbkhohbaaDoor

namespace Go.Proofs.YtbpifgcbkhohbaaDoor
set_option maxRecDepth 100000
theorem neg_val {a : Zp} (h : a ≠ 0) : (-a).val = PP - a.val := by
  have h0 : a.val ≠ 0 := fun e => h (Fin.ext e)
  have hl := a.isLt
  have e : zp (PP - a.val) + a = 0 := by
    have : zp (PP - a.val) + zp a.val = 0 := by rw [← zp_add, show PP - a.val + a.val = PP by omega, zp_PP]
    rw [zp_of] at this
    exact this
  have e2 : -a = zp (PP - a.val) := by grind
  rw [e2, zp_val, Nat.mod_eq_of_lt (by omega)]
theorem sgn_odd {a : Zp} (h : ¬ a = 0) : (decide (a.val % 2 = 1) != decide ((-a).val % 2 = 1)) = true := by
  have hl := a.isLt
  have hp := PP_mod
  rw [neg_val h]
  by_cases h1 : a.val % 2 = 1
  · rw [decide_eq_true h1, decide_eq_false (by omega)]; rfl
  · rw [decide_eq_false h1, decide_eq_true (by omega)]; rfl
theorem sgn_large {a : Zp} (h : ¬ a = 0) : (decide (hf < a.val) != decide (hf < (-a).val)) = true := by
  have hl := a.isLt
  have hp := hf_val
  rw [neg_val h]
  by_cases h1 : hf < a.val
  · rw [decide_eq_true h1, decide_eq_false (by omega)]; rfl
  · rw [decide_eq_false h1, decide_eq_true (by omega)]; rfl
theorem odd_0 {a : Zp} (h : a = 0) : decide (a.val % 2 = 1) = false := by
  rw [h]; rfl
theorem large_0 {a : Zp} (h : a = 0) : decide (hf < a.val) = false := by
  rw [h]; exact decide_eq_false (Nat.not_lt_zero _)
theorem inv_0 : (0 : Zp) ^ (PP - 2) = 0 := by
  rw [show PP - 2 = (PP - 3) + 1 by have := PP_big; omega]; exact zerop _
/-- The half power of a square but 0. -/
theorem fermat2 {a : Zp} (h : a ≠ 0) : a ^ hf * a ^ hf = 1 := by
  rw [← padd, show hf + hf = PP - 1 by have := hf_val; omega, fermat h]
theorem half_or {a : Zp} (h : a ≠ 0) : a ^ hf = 1 ∨ a ^ hf = -1 := by
  have e := fermat2 h
  have : (a ^ hf - 1) * (a ^ hf + 1) = 0 := by grind
  rcases zmul0 this with h | h
  · left; grind
  · right; grind
theorem one_neg : ¬ (1 : Zp) = -1 := fun h => by
  have h2 : (1 : Zp) + 1 = 0 := (congrArg (fun z => z + (1 : Zp)) h).trans (by grind)
  have h3 := congrArg Fin.val h2
  rw [Fin.val_add, show (1 : Zp).val = 1 % PP from rfl, Nat.mod_eq_of_lt pr_p.1, Nat.mod_eq_of_lt (by have := PP_big; omega)] at h3
  cases h3
theorem sq_root (a : Zp) : SQr a * SQr a = a ^ hf * a := by rw [SQr, ← padd, ← Nat.two_mul, rg_hf, ps]
theorem eq_neg {a b : Zp} (h : a + b = 0) : a = -b := by grind
/-- Just squares, and 0, have roots. -/
theorem root_iff (a : Zp) : SQr a * SQr a = a ↔ 0 ≤ LEG a := by
  rw [sq_root, LEG]
  by_cases h : a = 0
  · rw [if_pos h, h]
    exact ⟨fun _ => by decide, fun _ => by grind⟩
  · rw [if_neg h]
    rcases half_or h with h1 | h1
    · rw [if_pos h1, h1]
      exact ⟨fun _ => by decide, fun _ => by grind⟩
    · rw [if_neg (fun e => one_neg (e.symm.trans h1)), h1]
      refine ⟨fun e => ?_, fun e => absurd e (by decide)⟩
      exfalso
      apply h
      have h2 : (1 + 1) * a = 0 := by grind
      rcases zmul0 h2 with h3 | h3
      · exact absurd (eq_neg h3) one_neg
      · exact h3
theorem SQ_sq {a : Zp} (h : SQr a * SQr a = a) : SQ a * SQ a = a := by
  rw [SQ, if_pos h, SQn]
  split
  · grind
  · exact h
theorem SQ_small {a : Zp} (h : SQr a * SQr a = a) : ¬ hf < (SQ a).val := by
  rw [SQ, if_pos h, SQn]
  split
  · rename_i h1
    have h0 : SQr a ≠ 0 := fun e => by rw [e] at h1; exact absurd h1 (Nat.not_lt_zero _)
    rw [neg_val h0]
    have := hf_val
    omega
  · rename_i h1; exact h1
/-- A square has a root: itself, or its opposite. -/
theorem sq_has (a : Zp) : SQr (a * a) * SQr (a * a) = a * a := by
  rw [sq_root]
  by_cases h : a = 0
  · rw [h]; grind
  · rw [mpow, fermat2 h]; grind
theorem sq_eq {x y : Zp} (h : x * x = y * y) : x = y ∨ x = -y := by
  have : (x - y) * (x + y) = 0 := by grind
  rcases zmul0 this with h | h
  · left; grind
  · right; grind
theorem SQ_of (a : Zp) : SQ (a * a) = a ∨ SQ (a * a) = -a := sq_eq (SQ_sq (sq_has a))
theorem neg_odd (a : Zp) (n : Nat) : (-a) ^ (2 * n + 1) = -(a ^ (2 * n + 1)) := by
  rw [ps, ps, pmul, pmul, show (-a) ^ 2 = a ^ 2 by grind]; grind
theorem neg_hf (a : Zp) : (-a) ^ hf = -(a ^ hf) := by
  obtain ⟨n, hn⟩ : ∃ n, hf = 2 * n + 1 := ⟨hf / 2, by have := hf_odd; omega⟩
  rw [hn]; exact neg_odd a n
theorem LEG_neg (a : Zp) : LEG a * LEG (-a) ≤ 0 := by
  by_cases h : a = 0
  · rw [LEG, if_pos h, Int.zero_mul]; exact Int.le_refl _
  · have hn : ¬ -a = 0 := fun e => h (by grind)
    rw [LEG, LEG, if_neg h, if_neg hn, neg_hf]
    rcases half_or h with h1 | h1
    · rw [if_pos h1, h1, if_neg (fun e => one_neg e.symm)]; decide
    · rw [if_neg (fun e => one_neg (e.symm.trans h1)), h1, if_pos (show -(-1 : Zp) = 1 by grind)]; decide
theorem LEG_in (a : Zp) : LEG a = 0 ∨ LEG a = 1 ∨ LEG a = -1 := by
  rw [LEG]
  split
  · exact .inl rfl
  · split
    · exact .inr (.inl rfl)
    · exact .inr (.inr rfl)
/-- Halves. -/
theorem two_ne : zp 2 ≠ 0 := fun h => by
  have := congrArg Fin.val h
  rw [zp_val, Nat.mod_eq_of_lt (by have := PP_big; omega)] at this
  cases this
theorem zp_24 : zp 4 = zp 2 * zp 2 ∧ zp 2 = 1 + 1 := ⟨zp_mul 2 2, zp_add 1 1⟩
theorem disc (a b : Zp) : (a + b) * (a + b) - a * b * zp 4 = (a - b) * (a - b) := by
  rw [zp_24.1, zp_24.2]; grind
theorem solve {a b d : Zp} (hd : d = a - b ∨ d = -(a - b)) : ((a + b + d) * zp 2 ^ (PP - 2) = a ∧ (a + b - d) * zp 2 ^ (PP - 2) = b) ∨ ((a + b + d) * zp 2 ^ (PP - 2) = b ∧ (a + b - d) * zp 2 ^ (PP - 2) = a) := by
  have h := zinv two_ne
  generalize zp 2 ^ (PP - 2) = i at h
  rw [zp_24.2] at h
  rcases hd with rfl | rfl
  · left; constructor <;> grind
  · right; constructor <;> grind
end Go.Proofs.YtbpifgcbkhohbaaDoor

namespace Go.Proofs.YtbpifgcbkhohbaaDoor
set_option maxRecDepth 100000
abbrev W2 := Zp × Zp
def ad2 (x y : W2) : W2 := (x.1 + y.1, x.2 + y.2)
def ng2 (x : W2) : W2 := (-x.1, -x.2)
def sb2 (x y : W2) : W2 := (x.1 - y.1, x.2 - y.2)
def ml2 (x y : W2) : W2 := (x.1 * y.1 - x.2 * y.2, x.1 * y.2 + x.2 * y.1)
def cj2 (x : W2) : W2 := (x.1, -x.2)
def sc2 (x : W2) (c : Zp) : W2 := (x.1 * c, x.2 * c)
def xi2 (x : W2) : W2 := (x.1 - x.2, x.1 + x.2)
def nm2 (x : W2) : Zp := x.1 * x.1 + x.2 * x.2
def iv2 (x : W2) : W2 := (x.1 * nm2 x ^ (PP - 2), -x.2 * nm2 x ^ (PP - 2))
def on2 : W2 := (1, 0)
def ze2 : W2 := (0, 0)
theorem w2_ext {x y : W2} (h1 : x.1 = y.1) (h2 : x.2 = y.2) : x = y := Prod.ext h1 h2
def R2 : Rg W2 where
  zero := ze2
  one := on2
  add := ad2
  mul := ml2
  neg := ng2
  add_assoc := fun a b c => w2_ext (by simp only [ad2]; grind) (by simp only [ad2]; grind)
  add_comm := fun a b => w2_ext (by simp only [ad2]; grind) (by simp only [ad2]; grind)
  add_zero := fun a => w2_ext (by simp only [ad2, ze2]; grind) (by simp only [ad2, ze2]; grind)
  add_neg := fun a => w2_ext (by simp only [ad2, ng2, ze2]; grind) (by simp only [ad2, ng2, ze2]; grind)
  mul_assoc := fun a b c => w2_ext (by simp only [ml2]; grind) (by simp only [ml2]; grind)
  mul_comm := fun a b => w2_ext (by simp only [ml2]; grind) (by simp only [ml2]; grind)
  mul_one := fun a => w2_ext (by simp only [ml2, on2]; grind) (by simp only [ml2, on2]; grind)
  mul_add := fun a b c => w2_ext (by simp only [ml2, ad2]; grind) (by simp only [ml2, ad2]; grind)
theorem sb2_eq (x y : W2) : sb2 x y = ad2 x (ng2 y) := w2_ext (by simp only [sb2, ad2, ng2]; grind) (by simp only [sb2, ad2, ng2]; grind)
theorem xi2_eq (x : W2) : xi2 x = ml2 x (1, 1) := w2_ext (by simp only [xi2, ml2]; grind) (by simp only [xi2, ml2]; grind)
theorem nm2_mul (x y : W2) : nm2 (ml2 x y) = nm2 x * nm2 y := by simp only [nm2, ml2]; grind
theorem nm2_cj (x : W2) : ml2 x (cj2 x) = (nm2 x, 0) := w2_ext (by simp only [ml2, cj2, nm2]; grind) (by simp only [ml2, cj2]; grind)
theorem cj2_mul (x y : W2) : cj2 (ml2 x y) = ml2 (cj2 x) (cj2 y) := w2_ext (by simp only [ml2, cj2]; grind) (by simp only [ml2, cj2]; grind)
theorem cj2_add (x y : W2) : cj2 (ad2 x y) = ad2 (cj2 x) (cj2 y) := w2_ext (by simp only [ad2, cj2]) (by simp only [ad2, cj2]; grind)
/-! ### -1 is no square -/
theorem pow_pm1 {a : Zp} (h : a ≠ 0) : (a * a) ^ hf = 1 := by rw [mpow, fermat2 h]
theorem neg1_hf : (-1 : Zp) ^ hf = -1 := by rw [neg_hf, onep]
theorem neg_zero1 {a : Zp} (h : 0 = -a) : a = 0 := by grind
theorem z_m1 (a : Zp) : a * 1 = a := by grind
theorem z_neg (a : Zp) : -(-a) = a := by grind
theorem z_m0 (a : Zp) : a * 0 = 0 := by grind
theorem no_i {a b : Zp} (h : a * a + b * b = 0) : b = 0 := by
  by_cases hb : b = 0
  · exact hb
  · exfalso
    have e : a * a = -(b * b) := by grind
    have e2 : (a * a) ^ hf = -1 := by rw [e, neg_hf, pow_pm1 hb]
    by_cases ha : a = 0
    · obtain ⟨n, hn⟩ := hf_pos
      rw [ha, z_m0, hn, zerop] at e2
      exact one_ne0 (neg_zero1 e2)
    · rw [pow_pm1 ha] at e2
      exact one_neg e2
theorem nm2_zero {x : W2} (h : nm2 x = 0) : x = ze2 := by
  have h1 := no_i h
  have h2 := no_i (a := x.2) (b := x.1) (by rw [← h]; simp only [nm2]; grind)
  exact w2_ext h2 h1
theorem z_00a : (0 : Zp) + 0 = 0 := by simp
theorem nm2_ze : nm2 ze2 = 0 := by simp only [nm2, ze2]; rw [z_m0, z_00a]
theorem nm2_ne {x : W2} (h : x ≠ ze2) : nm2 x ≠ 0 := fun e => h (nm2_zero e)
theorem iv2_mul {x : W2} (h : x ≠ ze2) : ml2 x (iv2 x) = on2 := by
  have hz := zinv (nm2_ne h)
  have e : nm2 x = x.1 * x.1 + x.2 * x.2 := rfl
  have k : ∀ j : Zp, nm2 x * j = 1 → ml2 x (x.1 * j, -x.2 * j) = on2 := fun j hj => by
    rw [e] at hj
    refine w2_ext ?_ ?_
    · simp only [ml2, on2]; grind
    · simp only [ml2, on2]; grind
  exact k _ hz
theorem iv2_ze : iv2 ze2 = ze2 := w2_ext (by simp only [iv2, ze2]; grind) (by simp only [iv2, ze2]; grind)
theorem ml2_zero {x y : W2} (h : ml2 x y = ze2) : x = ze2 ∨ y = ze2 := by
  have e := nm2_mul x y
  rw [h, nm2_ze] at e
  rcases zmul0 e.symm with h | h
  · exact .inl (nm2_zero h)
  · exact .inr (nm2_zero h)
/-! ### Powers -/
def pw2 (x : W2) (n : Nat) : W2 := R2.pw x n
theorem pw2_0 (x : W2) : pw2 x 0 = on2 := rfl
theorem pw2_s (x : W2) (n : Nat) : pw2 x (n + 1) = ml2 (pw2 x n) x := rfl
theorem pw2_add (x : W2) (m n : Nat) : pw2 x (m + n) = ml2 (pw2 x m) (pw2 x n) := R2.pw_add x m n
theorem pw2_mul (x : W2) (m n : Nat) : pw2 x (m * n) = pw2 (pw2 x m) n := R2.pw_mul x m n
theorem mul_pw2 (x y : W2) (n : Nat) : pw2 (ml2 x y) n = ml2 (pw2 x n) (pw2 y n) := R2.mul_pw x y n
theorem z_0m (a : Zp) : 0 * a = 0 := by grind
theorem z_00 : (0 : Zp) + 0 = 0 := by simp
theorem ml2_rr (a b : Zp) : ml2 (a, 0) (b, 0) = (a * b, 0) := w2_ext (by simp only [ml2]; grind) (by simp only [ml2]; rw [z_m0, z_0m, z_00])
theorem ml2_ri (a b : Zp) : ml2 (a, 0) (0, b) = (0, a * b) := w2_ext (by simp only [ml2]; rw [z_m0, z_0m]; simp) (by simp only [ml2]; grind)
theorem ml2_ii (a b : Zp) : ml2 (0, a) (0, b) = (-(a * b), 0) := w2_ext (by simp only [ml2]; grind) (by simp only [ml2]; rw [z_m0, z_0m, z_00])
theorem z_11 : (1 : Zp) * 1 = 1 := z_m1 1
theorem z_nn (a : Zp) : -a * -a = a * a := by grind
theorem pw2_re (a : Zp) : ∀ n, pw2 (a, 0) n = (a ^ n, 0)
  | 0 => w2_ext (p0 a).symm rfl
  | n + 1 => by rw [pw2_s, pw2_re a n, ml2_rr, ps]
theorem pw2_i : pw2 (0, 1) PP = (0, -1) := by
  have h1 : pw2 (0, 1) 1 = (0, 1) := R2.pw_one _
  have h2 : pw2 (0, 1) 2 = (-1, 0) := by rw [pw2_s, h1, ml2_ii, z_11]
  have h3 : pw2 (0, 1) 3 = (0, -1) := by rw [pw2_s, h2, ml2_ri, z_m1]
  have h4 : pw2 (0, 1) 4 = on2 := by rw [pw2_s, h3, ml2_ii, z_m1, z_neg]; rfl
  obtain ⟨k, hk⟩ : ∃ k, PP = 4 * k + 3 := ⟨PP / 4, by have := PP_mod; omega⟩
  have e : pw2 (0, 1) PP = pw2 (0, 1) (4 * k + 3) := congrArg (fun n => pw2 (0, 1) n) hk
  have h5 : pw2 on2 k = on2 := R2.one_pw k
  rw [e, pw2_add, pw2_mul, h4, h3, h5]
  exact R2.one_mul _
theorem pow_PP (a : Zp) : a ^ PP = a := by
  by_cases h : a = 0
  · rw [h]; exact zerop PQ
  · have e : a ^ PP = a ^ (PP - 1 + 1) := congrArg (fun n => a ^ n) (show PQ + 1 = PQ + 1 - 1 + 1 from rfl)
    rw [e, ps, fermat h]; grind
theorem R2_nat : ∀ n, R2.nat n = (zp n, 0)
  | 0 => rfl
  | n + 1 => by
    show ad2 (R2.nat n) on2 = _
    rw [R2_nat n]
    exact w2_ext (by simp only [ad2, on2]; rw [zp_add, zp_1]) z_00
/-- The power of p is the conjugate. -/
theorem pw2_PP (x : W2) : pw2 x PP = cj2 x := by
  have e : x = ad2 (x.1, 0) (ml2 (x.2, 0) (0, 1)) := w2_ext (by simp only [ad2, ml2]; grind) (by simp only [ad2, ml2]; grind)
  have hf := R2.frob pr_p ((R2_nat PP).trans (by rw [zp_PP]; rfl)) (x.1, 0) (ml2 (x.2, 0) (0, 1))
  have h2 : pw2 x PP = ad2 (pw2 (x.1, 0) PP) (pw2 (ml2 (x.2, 0) (0, 1)) PP) := (congrArg (fun y => pw2 y PP) e).trans hf
  rw [h2, mul_pw2, pw2_re, pw2_re, pw2_i, pow_PP, pow_PP]
  exact w2_ext (by simp only [ad2, ml2, cj2]; grind) (by simp only [ad2, ml2, cj2]; grind)
/-! ### Roots -/
theorem sq2_eq {x y : W2} (h : ml2 x x = ml2 y y) : x = y ∨ x = ng2 y := by
  have hk : ml2 (sb2 x y) (ad2 x y) = ze2 := by
    have h1 := congrArg Prod.fst h
    have h2 := congrArg Prod.snd h
    simp only [ml2] at h1 h2
    refine w2_ext ?_ ?_
    · simp only [ml2, sb2, ad2, ze2]; grind
    · simp only [ml2, sb2, ad2, ze2]; grind
  rcases ml2_zero hk with h | h
  · left
    have h1 := congrArg Prod.fst h
    have h2 := congrArg Prod.snd h
    simp only [sb2, ze2] at h1 h2
    exact w2_ext (by grind) (by grind)
  · right
    have h1 := congrArg Prod.fst h
    have h2 := congrArg Prod.snd h
    simp only [ad2, ze2] at h1 h2
    exact w2_ext (by simp only [ng2]; grind) (by simp only [ng2]; grind)
def LG2 (x : W2) : Bool := if x.2 = 0 then decide (hf < x.1.val) else decide (hf < x.2.val)
theorem large_neg {a : Zp} (h : a ≠ 0) : decide (hf < (-a).val) = !decide (hf < a.val) := by
  have := sgn_large h
  cases h1 : decide (hf < a.val) <;> cases h2 : decide (hf < (-a).val) <;> rw [h1, h2] at this <;> first | rfl | cases this
theorem neg_eq0 {a : Zp} : -a = 0 ↔ a = 0 := ⟨fun h => by grind, fun h => by rw [h]; grind⟩
theorem LG2_neg {x : W2} (h : x ≠ ze2) : LG2 (ng2 x) = !LG2 x := by
  unfold LG2 ng2
  by_cases h2 : x.2 = 0
  · rw [if_pos (neg_eq0.2 h2), if_pos h2]
    exact large_neg fun e => h (w2_ext e h2)
  · rw [if_neg (fun e => h2 (neg_eq0.1 e)), if_neg h2]
    exact large_neg h2
theorem LG2_ze : LG2 ze2 = false := by decide +kernel
theorem ng2_ze : ng2 ze2 = ze2 := w2_ext (by simp only [ng2, ze2]; grind) (by simp only [ng2, ze2]; grind)
theorem ng2_sq (x : W2) : ml2 (ng2 x) (ng2 x) = ml2 x x := w2_ext (by simp only [ml2, ng2]; grind) (by simp only [ml2, ng2]; grind)
/-- Of the roots of an element just one isn't large. -/
theorem root2_one {x y : W2} (h : ml2 x x = ml2 y y) (hx : LG2 x = false) (hy : LG2 y = false) : x = y := by
  rcases sq2_eq h with e | e
  · exact e
  · by_cases h0 : y = ze2
    · rw [e, h0, ng2_ze]
    · rw [e, LG2_neg h0, hy] at hx; cases hx
/-- A square of Zp: has a root there. -/
def IsQ (a : Zp) : Prop := SQr a * SQr a = a
theorem isQ_of {a s : Zp} (h : s * s = a) : IsQ a := by rw [← h]; exact sq_has s
theorem isQ_iff (a : Zp) : IsQ a ↔ a = 0 ∨ a ^ hf = 1 := by
  unfold IsQ
  rw [sq_root]
  constructor
  · intro h
    by_cases h0 : a = 0
    · exact .inl h0
    · right
      have : (a ^ hf - 1) * a = 0 := by grind
      rcases zmul0 this with h | h
      · grind
      · exact absurd h h0
  · rintro (h | h)
    · rw [h]; grind
    · rw [h]; grind
theorem isQ_or (a : Zp) : IsQ a ∨ IsQ (-a) := by
  by_cases h : a = 0
  · exact .inl ((isQ_iff a).2 (.inl h))
  · rcases half_or h with h1 | h1
    · exact .inl ((isQ_iff a).2 (.inr h1))
    · right
      refine (isQ_iff (-a)).2 (.inr ?_)
      rw [neg_hf, h1]; grind
/-- Of two that multiply to the opposite of a square but 0 just one is a square. -/
theorem isQ_half {a b c : Zp} (h : a * b = -(c * c)) (hc : c ≠ 0) : (IsQ a ∧ ¬ IsQ b) ∨ (¬ IsQ a ∧ IsQ b) := by
  have ha : a ≠ 0 := fun e => hc (no_i (a := 0) (b := c) (by rw [e] at h; grind))
  have hb : b ≠ 0 := fun e => hc (no_i (a := 0) (b := c) (by rw [e] at h; grind))
  have e : a ^ hf * b ^ hf = -1 := by rw [← mpow, h, neg_hf, pow_pm1 hc]
  rcases half_or ha with h1 | h1
  · left
    refine ⟨(isQ_iff a).2 (.inr h1), fun k => ?_⟩
    rcases (isQ_iff b).1 k with k | k
    · exact hb k
    · rw [h1, k] at e; exact one_neg (by grind)
  · right
    refine ⟨fun k => ?_, (isQ_iff b).2 (.inr (by rw [h1] at e; grind))⟩
    rcases (isQ_iff a).1 k with k | k
    · exact ha k
    · rw [h1] at k; exact one_neg k.symm
theorem isQ_mulself (a : Zp) : IsQ (a * a) := isQ_of rfl
/-- A square's norm is a square. -/
theorem nm2_sq {x s : W2} (h : ml2 s s = x) : IsQ (nm2 x) := by rw [← h, nm2_mul]; exact isQ_mulself _
/-- The root of an element with i, of the norm's root and the half that is a square. -/
theorem root2_of {x : W2} {n s t h2 : Zp} (hn : n * n = nm2 x) (h2e : (1 + 1) * h2 = 1) (hs : s * s = (x.1 + n) * h2 ∨ s * s = (x.1 - n) * h2) (ht : s * t = 1) : ml2 (s, x.2 * h2 * t) (s, x.2 * h2 * t) = x := by
  have e : nm2 x = x.1 * x.1 + x.2 * x.2 := rfl
  rw [e] at hn
  have key : s * s - x.2 * h2 * t * (x.2 * h2 * t) = x.1 := by
    have e1 : x.2 * h2 * t * (x.2 * h2 * t) = (x.2 * x.2) * (h2 * h2) * (t * t) := by grind
    have e2 : x.2 * x.2 = n * n - x.1 * x.1 := by grind
    rcases hs with hs | hs
    · have e3 : (n * n - x.1 * x.1) * (h2 * h2) = s * s * ((n - x.1) * h2) := by grind
      have e4 : s * s * ((n - x.1) * h2) * (t * t) = (n - x.1) * h2 := by
        have : s * s * (t * t) = 1 := by grind
        grind
      rw [e1, e2, e3, e4, hs]
      grind
    · have e3 : (n * n - x.1 * x.1) * (h2 * h2) = s * s * (-(n + x.1) * h2) := by grind
      have e4 : s * s * (-(n + x.1) * h2) * (t * t) = -(n + x.1) * h2 := by
        have : s * s * (t * t) = 1 := by grind
        grind
      rw [e1, e2, e3, e4, hs]
      grind
  refine w2_ext key ?_
  simp only [ml2]
  have e5 : s * (x.2 * h2 * t) + x.2 * h2 * t * s = x.2 * ((1 + 1) * h2) * (s * t) := by grind
  rw [e5, h2e, ht]
  grind
theorem half_is : ∃ j : Zp, (1 + 1) * j = 1 := ⟨zp 2 ^ (PP - 2), by have h := zinv two_ne; rw [show (1 + 1 : Zp) = zp 2 from zp_24.2.symm]; exact h⟩
theorem half_sq {x : W2} {n j : Zp} (hn : n * n = nm2 x) : ((x.1 + n) * j) * ((x.1 - n) * j) = -(x.2 * j * (x.2 * j)) := by
  have hn' : n * n = x.1 * x.1 + x.2 * x.2 := hn
  grind
theorem half_no {x : W2} {j : Zp} (hj : (1 + 1) * j = 1) (h2 : x.2 ≠ 0) : x.2 * j ≠ 0 := fun e => by
  rcases zmul0 e with e | e
  · exact h2 e
  · rw [e] at hj; exact one_ne0 (hj.symm.trans (z_m0 _))
theorem no_half {a b c : Zp} (h : a * b = -(c * c)) (hc : c ≠ 0) : a ≠ 0 ∧ b ≠ 0 :=
  ⟨fun e => hc (no_i (a := 0) (b := c) (by rw [e] at h; grind)), fun e => hc (no_i (a := 0) (b := c) (by rw [e] at h; grind))⟩
theorem sqr_ne {a : Zp} (h : IsQ a) (h0 : a ≠ 0) : SQr a ≠ 0 := fun e => h0 (by
  have h' : SQr a * SQr a = a := h
  rw [e, z_m0] at h'
  exact h'.symm)
/-- Just elements whose norm is a square have roots. -/
theorem isQ2_iff (x : W2) : (∃ s, ml2 s s = x) ↔ IsQ (nm2 x) := by
  refine ⟨fun ⟨s, h⟩ => nm2_sq h, fun h => ?_⟩
  by_cases h2 : x.2 = 0
  · rcases isQ_or x.1 with hq | hq
    · exact ⟨(SQr x.1, 0), by rw [ml2_rr, show SQr x.1 * SQr x.1 = x.1 from hq]; exact w2_ext rfl h2.symm⟩
    · exact ⟨(0, SQr (-x.1)), by rw [ml2_ii, show SQr (-x.1) * SQr (-x.1) = -x.1 from hq, z_neg]; exact w2_ext rfl h2.symm⟩
  · obtain ⟨j, hj⟩ := half_is
    have hp := half_sq (x := x) (j := j) (n := SQr (nm2 x)) h
    have hb := half_no hj h2
    have hne := no_half hp hb
    rcases isQ_half hp hb with ⟨hq, _⟩ | ⟨_, hq⟩
    · exact ⟨_, root2_of h hj (.inl hq) (zinv (sqr_ne hq hne.1))⟩
    · exact ⟨_, root2_of h hj (.inr hq) (zinv (sqr_ne hq hne.2))⟩
end Go.Proofs.YtbpifgcbkhohbaaDoor

namespace Go.Proofs.YtbpifgcbkhohbaaDoor
set_option maxRecDepth 100000
/-! ### Equality, signs -/
theorem w2_iff {x y : W2} : x = y ↔ x.1 = y.1 ∧ x.2 = y.2 := ⟨fun h => by rw [h]; exact ⟨rfl, rfl⟩, fun h => w2_ext h.1 h.2⟩
theorem dec2_t {x y : W2} (h : x.1 = y.1) : decide (x.2 = y.2) = decide (x = y) := decide_eq_decide.2 ⟨fun h' => w2_ext h h', fun h' => by rw [h']⟩
theorem dec2_f {x y : W2} (h : ¬ x.1 = y.1) : false = decide (x = y) := (decide_eq_false fun h' => h (by rw [h'])).symm
theorem fe2_iff {x y : W2} : fe x.1 ++ fe x.2 = fe y.1 ++ fe y.2 ↔ x = y := by
  constructor
  · intro h
    have := List.append_inj h (by rw [fe_len, fe_len])
    exact w2_ext (fe_inj.1 this.1) (fe_inj.1 this.2)
  · intro h; rw [h]
theorem fe2_dec (x y : W2) : decide (fe x.1 ++ fe x.2 = fe y.1 ++ fe y.2) = decide (x = y) := decide_eq_decide.2 fe2_iff
def SG2 (x : W2) : Int := if x.1.val % 2 = 1 then 1 else if x.1 = 0 then (if x.2.val % 2 = 1 then 1 else 0) else 0
theorem odd_flip {a : Zp} (h : a ≠ 0) : (-a).val % 2 = 1 ↔ ¬ a.val % 2 = 1 := by
  have hl := a.isLt
  have hp := PP_mod
  rw [neg_val h]
  omega
theorem val_0 : (0 : Zp).val % 2 ≠ 1 := by decide +kernel
theorem ng0 : -(0 : Zp) = 0 := neg_eq0.2 rfl
theorem SG2_ze : SG2 ze2 = 0 := by
  show (if (0 : Zp).val % 2 = 1 then 1 else if (0 : Zp) = 0 then (if (0 : Zp).val % 2 = 1 then 1 else 0) else 0) = (0 : Int)
  rw [if_neg val_0, if_pos rfl]
  exact if_neg val_0
theorem SG2_in (x : W2) : SG2 x = 0 ∨ SG2 x = 1 := by
  unfold SG2
  split
  · exact .inr rfl
  · split
    · split
      · exact .inr rfl
      · exact .inl rfl
    · exact .inl rfl
theorem SG2_neg {x : W2} (h : x ≠ ze2) : SG2 x + SG2 (ng2 x) = 1 := by
  by_cases h1 : x.1 = 0
  · have h2 : x.2 ≠ 0 := fun e => h (w2_ext h1 e)
    have e1 : ¬ x.1.val % 2 = 1 := by rw [h1]; exact val_0
    have e2 : ¬ (ng2 x).1.val % 2 = 1 := by show ¬ (-x.1).val % 2 = 1; rw [h1, ng0]; exact val_0
    have e3 : (ng2 x).1 = 0 := by show -x.1 = 0; rw [h1, ng0]
    have e4 := odd_flip h2
    rw [SG2, SG2, if_neg e1, if_pos h1, if_neg e2, if_pos e3]
    show (if x.2.val % 2 = 1 then 1 else 0) + (if (-x.2).val % 2 = 1 then 1 else 0) = (1 : Int)
    by_cases h3 : x.2.val % 2 = 1
    · rw [if_pos h3, if_neg (fun e => e4.1 e h3)]; rfl
    · rw [if_neg h3, if_pos (e4.2 h3)]; rfl
  · have e3 : ¬ (ng2 x).1 = 0 := fun e => h1 (neg_eq0.1 e)
    have e4 := odd_flip h1
    rw [SG2, SG2, if_neg h1, if_neg e3]
    show (if x.1.val % 2 = 1 then 1 else 0) + (if (-x.1).val % 2 = 1 then 1 else 0) = (1 : Int)
    by_cases h3 : x.1.val % 2 = 1
    · rw [if_pos h3, if_neg (fun e => e4.1 e h3)]; rfl
    · rw [if_neg h3, if_pos (e4.2 h3)]; rfl
/-! ### Powers by digits -/
theorem sq_step2 (x : W2) (j D : Nat) : ml2 (pw2 x (2 ^ j * D)) (pw2 x (2 ^ j * D)) = pw2 x (2 ^ (j + 1) * D) := by
  rw [← pw2_add, Nat.pow_succ, show 2 ^ j * 2 * D = 2 ^ j * D + 2 ^ j * D by rw [Nat.mul_right_comm]; omega]
theorem dig_step2 (x : W2) (bs : List (BitVec 8)) (k : Nat) : ml2 (pw2 x (2 ^ 4 * DN bs k)) (pw2 x (NBv bs k).toNat) = pw2 x (DN bs (k + 1)) := by
  rw [← pw2_add, DN]
def fe2 (x : W2) : List (BitVec 64) := fe x.1 ++ fe x.2
theorem fe2_len (x : W2) : (fe2 x).length = 12 := by rw [fe2, List.length_append, fe_len, fe_len]
def SP2 (x : W2) (i : Nat) : List (BitVec 64) := FM (fun j => if j < i then fe2 (pw2 x j) else fe2 ze2) 16
theorem SP2_len (x : W2) (i : Nat) : (SP2 x i).length = 192 := FM_len _ _
theorem SP2_one (x : W2) : FM (fun i => if i = 0 then fe2 on2 else fe2 ze2) 16 = SP2 x 1 := FM_congr fun i _ => by
  by_cases h : i = 0
  · rw [if_pos h, if_pos (by omega), h, pw2_0]
  · rw [if_neg h, if_neg (by omega)]
theorem SP2_load (x : W2) (i k : Nat) (hk : k < i) (hi : i ≤ 16) (o : Nat) (ho : o = 12 * k) : ∀ j v, ((fe2 (pw2 x k)).map U64)[j]? = some v → ((SP2 x i).map U64)[o + j]? = some v := by
  have h := FM_load (fun j => if j < i then fe2 (pw2 x j) else fe2 ze2) 16 k (by omega) (by simp only [if_pos hk]; exact fe2_len _) o ho
  simp only [if_pos hk] at h
  exact h
theorem SP2_step (x : W2) (i : Nat) (h1 : 1 ≤ i) (hi : i < 16) (o : Nat) (ho : o = 12 * i) : lay o ((fe2 (ml2 (pw2 x (i - 1)) x)).map U64) ((SP2 x i).map U64) = (SP2 x (i + 1)).map U64 := by
  rw [SP2, FM_lay _ 16 i _ hi (fe2_len _) o ho]
  congr 1
  refine FM_congr fun j _ => ?_
  by_cases h : j = i
  · rw [if_pos h, if_pos (by omega), h, ← pw2_s, show i - 1 + 1 = i by omega]
  · rw [if_neg h]
    by_cases h' : j < i
    · rw [if_pos h', if_pos (by omega)]
    · rw [if_neg h', if_neg (by omega)]
/-! ### Roots -/
theorem SQ_0 : SQ 0 * SQ 0 = 0 := by
  have : SQr (0 : Zp) * SQr 0 = 0 := (isQ_iff 0).2 (.inl rfl)
  exact SQ_sq this
theorem LG_re {a : Zp} (h : ¬ hf < a.val) : LG2 (a, 0) = false := by
  show (if (0 : Zp) = 0 then decide (hf < a.val) else decide (hf < (0 : Zp).val)) = false
  rw [if_pos rfl]; exact decide_eq_false h
theorem LG_im {a : Zp} (h : ¬ hf < a.val) : LG2 (0, a) = false := by
  show (if a = 0 then decide (hf < (0 : Zp).val) else decide (hf < a.val)) = false
  split
  · exact decide_eq_false (Nat.not_lt_zero _)
  · exact decide_eq_false h
/-- The root of an element without i. -/
def RO (c : Zp) : W2 := if SQr c * SQr c = c then (SQ c, 0) else (0, SQ (-c))
theorem neg_isQ {c : Zp} (h : ¬ SQr c * SQr c = c) : SQr (-c) * SQr (-c) = -c := (isQ_or c).resolve_left h
theorem RO_sq (c : Zp) : ml2 (RO c) (RO c) = (c, 0) := by
  unfold RO
  split
  · rename_i h
    rw [ml2_rr, SQ_sq h]
  · rename_i h
    rw [ml2_ii, SQ_sq (neg_isQ h), z_neg]
theorem RO_small (c : Zp) : LG2 (RO c) = false := by
  unfold RO
  split
  · rename_i h
    exact LG_re (SQ_small h)
  · rename_i h
    exact LG_im (SQ_small (neg_isQ h))
theorem rb_a {s t j a b n : Zp} (ht : t * t = s + s) (hj : t * j = 1) (hs : s = a + n) (hn : n * n = a * a + b * b) : s * j * (s * j) - b * j * (b * j) = a := by
  have e : (s + s) * (j * j) = 1 := by
    rw [← ht]
    have : t * t * (j * j) = (t * j) * (t * j) := by grind
    rw [this, hj, z_11]
  have e2 : s * s - b * b = (s + s) * a := by
    subst hs
    grind
  have e3 : s * j * (s * j) - b * j * (b * j) = (s * s - b * b) * (j * j) := by grind
  have e4 : (s + s) * a * (j * j) = (s + s) * (j * j) * a := by grind
  rw [e3, e2, e4, e]
  grind
theorem rb_b {s t j b : Zp} (ht : t * t = s + s) (hj : t * j = 1) : s * j * (b * j) + b * j * (s * j) = b := by
  have e : (s + s) * (j * j) = 1 := by
    rw [← ht]
    have : t * t * (j * j) = (t * j) * (t * j) := by grind
    rw [this, hj, z_11]
  have e3 : s * j * (b * j) + b * j * (s * j) = (s + s) * (j * j) * b := by grind
  rw [e3, e]
  grind
theorem rb_c {s t j a b n : Zp} (ht : t * t = -(s + s)) (hj : t * j = 1) (hs : s = a + n) (hn : n * n = a * a + b * b) : b * j * (b * j) - -s * j * (-s * j) = a := by
  have e : -(s + s) * (j * j) = 1 := by
    rw [← ht]
    have : t * t * (j * j) = (t * j) * (t * j) := by grind
    rw [this, hj, z_11]
  have e2 : b * b - s * s = -(s + s) * a := by
    subst hs
    grind
  have e3 : b * j * (b * j) - -s * j * (-s * j) = (b * b - s * s) * (j * j) := by grind
  have e4 : -(s + s) * a * (j * j) = -(s + s) * (j * j) * a := by grind
  rw [e3, e2, e4, e]
  grind
theorem rb_d {s t j b : Zp} (ht : t * t = -(s + s)) (hj : t * j = 1) : b * j * (-s * j) + -s * j * (b * j) = b := by
  have e : -(s + s) * (j * j) = 1 := by
    rw [← ht]
    have : t * t * (j * j) = (t * j) * (t * j) := by grind
    rw [this, hj, z_11]
  have e3 : b * j * (-s * j) + -s * j * (b * j) = -(s + s) * (j * j) * b := by grind
  rw [e3, e]
  grind
theorem dbl_ne {s : Zp} (h : s ≠ 0) : s + s ≠ 0 := fun e => by
  obtain ⟨j, hj⟩ := half_is
  have : s = (s + s) * j := by
    have e1 : (s + s) * j = s * ((1 + 1) * j) := by grind
    rw [e1, hj, z_m1]
  rw [e, z_0m] at this
  exact h this
theorem sum_ne {a b n : Zp} (hn : n * n = a * a + b * b) (hb : b ≠ 0) : a + n ≠ 0 := fun e => by
  have : b * b = (a + n) * (n - a) := by grind
  rw [e, z_0m] at this
  exact hb ((zmul0 this).elim id id)
theorem sq_ne {a t : Zp} (h : t * t = a) (ha : a ≠ 0) : t ≠ 0 := fun e => ha (by rw [← h, e, z_m0])
/-- A root by a root of the norm, as the program reckons. -/
def RBs (x : W2) (n : Zp) : Zp := x.1 + n + (x.1 + n)
def RB (x : W2) (n : Zp) : W2 :=
  if SQr (RBs x n) * SQr (RBs x n) = RBs x n then ((x.1 + n) * SQ (RBs x n) ^ (PP - 2), x.2 * SQ (RBs x n) ^ (PP - 2))
  else (x.2 * SQ (-RBs x n) ^ (PP - 2), -(x.1 + n) * SQ (-RBs x n) ^ (PP - 2))
theorem RB_sq {x : W2} {n : Zp} (hn : n * n = nm2 x) (h2 : x.2 ≠ 0) : ml2 (RB x n) (RB x n) = x := by
  have hd : RBs x n ≠ 0 := dbl_ne (sum_ne hn h2)
  have hm : -RBs x n ≠ 0 := fun e => hd (neg_eq0.1 e)
  unfold RB
  split
  · rename_i h
    have e := SQ_sq h
    have hj := zinv (sq_ne e hd)
    generalize SQ (RBs x n) ^ (PP - 2) = j at *
    generalize SQ (RBs x n) = t at *
    exact w2_ext (rb_a e hj rfl hn) (rb_b e hj)
  · rename_i h
    have e := SQ_sq (neg_isQ h)
    have hj := zinv (sq_ne e hm)
    generalize SQ (-RBs x n) ^ (PP - 2) = j at *
    generalize SQ (-RBs x n) = t at *
    exact w2_ext (rb_c e hj rfl hn) (rb_d e hj)
/-- The same as the reference reckons. -/
def RF (x : W2) (n h : Zp) : W2 :=
  if SQr ((x.1 + n) * h) * SQr ((x.1 + n) * h) = (x.1 + n) * h then (SQ ((x.1 + n) * h), x.2 * h * SQ ((x.1 + n) * h) ^ (PP - 2))
  else (SQ ((x.1 - n) * h), x.2 * h * SQ ((x.1 - n) * h) ^ (PP - 2))
theorem RF_sq {x : W2} {n h : Zp} (hn : n * n = nm2 x) (hh : (1 + 1) * h = 1) (h2 : x.2 ≠ 0) : ml2 (RF x n h) (RF x n h) = x := by
  have hs := half_sq (j := h) hn
  have hc := half_no hh h2
  have hne := no_half hs hc
  have hq := isQ_half hs hc
  unfold RF
  split
  · rename_i q
    have e := SQ_sq q
    exact root2_of hn hh (.inl e) (zinv (sq_ne e hne.1))
  · rename_i q
    have q2 : IsQ ((x.1 - n) * h) := by
      rcases hq with ⟨a, _⟩ | ⟨_, b⟩
      · exact absurd a q
      · exact b
    have e := SQ_sq q2
    exact root2_of hn hh (.inr e) (zinv (sq_ne e hne.2))
/-- Of an element and its opposite the one that isn't large. -/
def NL (x : W2) : W2 := if LG2 x = true then ng2 x else x
theorem NL_sq (x : W2) : ml2 (NL x) (NL x) = ml2 x x := by
  unfold NL
  split
  · exact ng2_sq x
  · rfl
theorem NL_small (x : W2) : LG2 (NL x) = false := by
  unfold NL
  split
  · rename_i h
    have hx : x ≠ ze2 := fun e => by rw [e, LG2_ze] at h; cases h
    rw [LG2_neg hx, h]; rfl
  · rename_i h
    exact Bool.eq_false_iff.2 h
theorem root_has {x : W2} (h : IsQ (nm2 x)) : ∃ r, ml2 r r = x ∧ LG2 r = false := by
  obtain ⟨s, hs⟩ := (isQ2_iff x).2 h
  exact ⟨NL s, (NL_sq s).trans hs, NL_small s⟩
theorem root_same {x r q : W2} (hr : ml2 r r = x) (hl : LG2 r = false) (hq : ml2 q q = x) (hl' : LG2 q = false) : q = r := root2_one (hq.trans hr.symm) hl' hl
theorem root_re {x r : W2} (hr : ml2 r r = x) (hl : LG2 r = false) (h : x.2 = 0) : RO x.1 = r := root_same hr hl ((RO_sq x.1).trans (w2_ext rfl h.symm)) (RO_small _)
theorem root_rb {x r : W2} (hr : ml2 r r = x) (hl : LG2 r = false) (h : x.2 ≠ 0) : NL (RB x (SQ (nm2 x))) = r := root_same hr hl ((NL_sq _).trans (RB_sq (SQ_sq (nm2_sq hr)) h)) (NL_small _)
theorem root_rf {x r : W2} {j : Zp} (hr : ml2 r r = x) (hl : LG2 r = false) (hj : (1 + 1) * j = 1) (h : x.2 ≠ 0) : NL (RF x (SQ (nm2 x)) j) = r := root_same hr hl ((NL_sq _).trans (RF_sq (SQ_sq (nm2_sq hr)) hj h)) (NL_small _)
theorem no_re {x : W2} (h : ¬ IsQ (nm2 x)) : x.2 ≠ 0 := fun e => h ((isQ2_iff x).1 ⟨RO x.1, (RO_sq x.1).trans (w2_ext rfl e.symm)⟩)
theorem half_two : (1 + 1) * zp 2 ^ (PP - 2) = (1 : Zp) := by
  have h := zinv two_ne
  rw [show (1 + 1 : Zp) = zp 2 from zp_24.2.symm]; exact h
theorem isQ_leg (a : Zp) : decide (0 ≤ LEG a) = decide (SQr a * SQr a = a) := decide_eq_decide.2 (root_iff a).symm
end Go.Proofs.YtbpifgcbkhohbaaDoor

namespace Go.Proofs.YtbpifgcbkhohbaaDoor
set_option maxRecDepth 100000
def XI : W2 := (1, 1)
abbrev W6 := W2 × W2 × W2
def K6 : Rg W6 := Rg.cub R2 XI
def VV : W6 := (ze2, on2, ze2)
abbrev W12 := W6 × W6
def K12 : Rg W12 := Rg.quad K6 VV
theorem fd2 : Fd R2 := fun a h => ⟨iv2 a, iv2_mul h⟩
theorem zp_pows (a : Nat) : ∀ n : Nat, zp a ^ n = zp (a ^ n)
  | 0 => p0 _
  | n + 1 => by rw [ps, zp_pows a n, Nat.pow_succ, zp_mul]
theorem zp_pm (a n f : Nat) (h : n < 2 ^ f) : zp a ^ n = zp (pm a PP f n) := by rw [pm_eq _ _ _ _ h, zp_mod, zp_pows]
theorem lt_R6 {k n : Nat} (hk : R6 = 2 ^ k) (h : n < PP) : n < 2 ^ k := hk ▸ Nat.lt_trans h PP_R6
def th : Nat := (PP - 1) / 3
def sx : Nat := (PP - 1) / 6
theorem th_val : 3 * th = PP - 1 := by decide +kernel
theorem sx_val : 6 * sx + 1 = PP := by decide +kernel
theorem val_one {n : Nat} (h : zp n = 1) (hn : n < PP) : n = 1 := by
  have := congrArg Fin.val h
  rw [zp_val, Nat.mod_eq_of_lt hn, show (1 : Zp).val = 1 % PP from rfl, Nat.mod_eq_of_lt pr_p.1] at this
  exact this
theorem pm_th : pm 2 PP (64 * 6) th ≠ 1 ∧ pm 2 PP (64 * 6) th < PP := by decide +kernel
theorem pm_hf : pm 2 PP (64 * 6) hf ≠ 1 ∧ pm 2 PP (64 * 6) hf < PP := by decide +kernel
theorem two_th : zp 2 ^ th ≠ 1 := fun h => by
  rw [zp_pm 2 th (64 * 6) (lt_R6 R6_def (by have := th_val; have := PP_big; omega))] at h
  exact pm_th.1 (val_one h pm_th.2)
theorem two_hf : zp 2 ^ hf ≠ 1 := fun h => by
  rw [zp_pm 2 hf (64 * 6) (lt_R6 R6_def (by have := hf_val; have := PP_big; omega))] at h
  exact pm_hf.1 (val_one h pm_hf.2)
theorem xi_nm : nm2 XI = zp 2 := by
  simp only [nm2, XI]; rw [z_11]; exact zp_24.2.symm
theorem no_cube (s : W2) : R2.mul s (R2.mul s s) ≠ XI := fun h => by
  have e : nm2 s * (nm2 s * nm2 s) = zp 2 := by rw [← nm2_mul, ← nm2_mul, ← xi_nm]; exact congrArg nm2 h
  have e3 : nm2 s ^ 3 = zp 2 := by rw [← e]; grind
  have hn : nm2 s ≠ 0 := fun h0 => two_ne (by rw [← e, h0, z_m0, z_m0])
  exact two_th (by rw [← e3, ← pmul, th_val, fermat hn])
theorem no_sq (s : W2) : R2.mul s s ≠ XI := fun h => by
  have e : IsQ (zp 2) := by rw [← xi_nm]; exact nm2_sq h
  rcases (isQ_iff _).1 e with h | h
  · exact two_ne h
  · exact two_hf h
theorem fd6 : Fd K6 := fd_cub fd2 no_cube
theorem nm_VV : cnm R2 XI VV = XI := by decide +kernel
theorem no_sqV (s : W6) : K6.mul s s ≠ VV := fun h => by
  have e := cnm_mul R2 XI s s
  rw [show cmul R2 XI s s = VV from h, nm_VV] at e
  exact no_sq _ e.symm
theorem fd12 : Fd K12 := fd_quad fd6 no_sqV
theorem Rg.inv_one {α : Type} (R : Rg α) {x y y' : α} (h : R.mul x y = R.one) (h' : R.mul x y' = R.one) : y = y' := by
  have e : R.mul (R.mul x y) y' = R.mul (R.mul x y') y := by rw [R.mul_assoc, R.mul_assoc, R.mul_comm y]
  rw [h, h', R.one_mul, R.one_mul] at e
  exact e.symm
/-! ### The power of p -/
theorem K12_nat : K12.nat PP = K12.zero := by
  have e2 : R2.nat PP = R2.zero := (R2_nat PP).trans (by rw [zp_PP]; rfl)
  have e6 : K6.nat PP = K6.zero := (cub_nat (R := R2) (z := XI) PP).trans (by rw [e2]; rfl)
  exact (quad_nat (R := K6) (z := VV) PP).trans (by rw [e6]; rfl)
theorem K12_frob (x y : W12) : K12.pw (K12.add x y) PP = K12.add (K12.pw x PP) (K12.pw y PP) := K12.frob pr_p K12_nat x y
def em (c : W2) : W12 := ((c, ze2, ze2), (ze2, ze2, ze2))
def wk (k : Nat) : W12 := K12.pw ((ze2, ze2, ze2), (on2, ze2, ze2)) k
theorem em_mul (a b : W2) : K12.mul (em a) (em b) = em (ml2 a b) := Prod.ext (Prod.ext (Rg.same (R := R2) (ρ := ev R2 [a, b, XI]) (ta (ta (tm (tv 0) (tv 1)) (tm (tv 2) (ta (tm tz0 tz0) (tm tz0 tz0)))) (ta (tm tz0 (ta (tm tz0 tz0) (tm (tv 2) (ta (tm tz0 tz0) (tm tz0 tz0))))) (tm (tv 2) (ta (tm to1 (ta (ta (tm tz0 tz0) (tm tz0 tz0)) (tm tz0 tz0))) (tm tz0 (ta (ta (tm tz0 tz0) (tm tz0 tz0)) (tm (tv 2) (tm tz0 tz0)))))))) (tm (tv 0) (tv 1)) (by kernel_rfl)) (Prod.ext (Rg.same (R := R2) (ρ := ev R2 [a, b, XI]) (ta (ta (ta (tm (tv 0) tz0) (tm tz0 (tv 1))) (tm (tv 2) (tm tz0 tz0))) (ta (ta (tm tz0 (ta (ta (tm tz0 tz0) (tm tz0 tz0)) (tm (tv 2) (tm tz0 tz0)))) (tm to1 (ta (tm tz0 tz0) (tm (tv 2) (ta (tm tz0 tz0) (tm tz0 tz0)))))) (tm (tv 2) (tm tz0 (ta (ta (tm tz0 tz0) (tm tz0 tz0)) (tm tz0 tz0)))))) tz0 (by kernel_rfl)) (Rg.same (R := R2) (ρ := ev R2 [a, b, XI]) (ta (ta (ta (tm (tv 0) tz0) (tm tz0 tz0)) (tm tz0 (tv 1))) (ta (ta (tm tz0 (ta (ta (tm tz0 tz0) (tm tz0 tz0)) (tm tz0 tz0))) (tm to1 (ta (ta (tm tz0 tz0) (tm tz0 tz0)) (tm (tv 2) (tm tz0 tz0))))) (tm tz0 (ta (tm tz0 tz0) (tm (tv 2) (ta (tm tz0 tz0) (tm tz0 tz0))))))) tz0 (by kernel_rfl)))) (Prod.ext (Rg.same (R := R2) (ρ := ev R2 [a, b, XI]) (ta (ta (tm (tv 0) tz0) (tm (tv 2) (ta (tm tz0 tz0) (tm tz0 tz0)))) (ta (tm tz0 (tv 1)) (tm (tv 2) (ta (tm tz0 tz0) (tm tz0 tz0))))) tz0 (by kernel_rfl)) (Prod.ext (Rg.same (R := R2) (ρ := ev R2 [a, b, XI]) (ta (ta (ta (tm (tv 0) tz0) (tm tz0 tz0)) (tm (tv 2) (tm tz0 tz0))) (ta (ta (tm tz0 tz0) (tm tz0 (tv 1))) (tm (tv 2) (tm tz0 tz0)))) tz0 (by kernel_rfl)) (Rg.same (R := R2) (ρ := ev R2 [a, b, XI]) (ta (ta (ta (tm (tv 0) tz0) (tm tz0 tz0)) (tm tz0 tz0)) (ta (ta (tm tz0 tz0) (tm tz0 tz0)) (tm tz0 (tv 1)))) tz0 (by kernel_rfl))))
theorem em_pw (c : W2) : ∀ n, K12.pw (em c) n = em (pw2 c n)
  | 0 => rfl
  | n + 1 => by
    rw [Rg.pw, em_pw c n, em_mul, pw2_s]
theorem wk0 : wk 0 = ((on2, ze2, ze2), (ze2, ze2, ze2)) := by decide +kernel
theorem wk1 : wk 1 = ((ze2, ze2, ze2), (on2, ze2, ze2)) := by decide +kernel
theorem wk2 : wk 2 = ((ze2, on2, ze2), (ze2, ze2, ze2)) := by decide +kernel
theorem wk3 : wk 3 = ((ze2, ze2, ze2), (ze2, on2, ze2)) := by decide +kernel
theorem wk4 : wk 4 = ((ze2, ze2, on2), (ze2, ze2, ze2)) := by decide +kernel
theorem wk5 : wk 5 = ((ze2, ze2, ze2), (ze2, ze2, on2)) := by decide +kernel
theorem wk6 : wk 6 = em XI := by decide +kernel
theorem parts_sum (c0 c1 c2 c3 c4 c5 : W2) : K12.add (K12.add (K12.add (K12.add (K12.add (K12.mul (em c0) (wk 0)) (K12.mul (em c1) (wk 1))) (K12.mul (em c2) (wk 2))) (K12.mul (em c3) (wk 3))) (K12.mul (em c4) (wk 4))) (K12.mul (em c5) (wk 5)) = ((c0, c2, c4), (c1, c3, c5)) := by
  rw [wk0, wk1, wk2, wk3, wk4, wk5]
  exact Prod.ext (Prod.ext (Rg.same (R := R2) (ρ := ev R2 [c0, c1, c2, c3, c4, c5, XI]) (ta (ta (ta (ta (ta (ta (ta (tm (tv 0) to1) (tm (tv 6) (ta (tm tz0 tz0) (tm tz0 tz0)))) (ta (tm tz0 (ta (tm tz0 tz0) (tm (tv 6) (ta (tm tz0 tz0) (tm tz0 tz0))))) (tm (tv 6) (ta (tm to1 (ta (ta (tm tz0 tz0) (tm tz0 tz0)) (tm tz0 tz0))) (tm tz0 (ta (ta (tm tz0 tz0) (tm tz0 tz0)) (tm (tv 6) (tm tz0 tz0)))))))) (ta (ta (tm (tv 1) tz0) (tm (tv 6) (ta (tm tz0 tz0) (tm tz0 tz0)))) (ta (tm tz0 (ta (tm tz0 to1) (tm (tv 6) (ta (tm tz0 tz0) (tm tz0 tz0))))) (tm (tv 6) (ta (tm to1 (ta (ta (tm tz0 tz0) (tm tz0 tz0)) (tm tz0 to1))) (tm tz0 (ta (ta (tm tz0 tz0) (tm tz0 to1)) (tm (tv 6) (tm tz0 tz0))))))))) (ta (ta (tm (tv 2) tz0) (tm (tv 6) (ta (tm tz0 tz0) (tm tz0 to1)))) (ta (tm tz0 (ta (tm tz0 tz0) (tm (tv 6) (ta (tm tz0 tz0) (tm tz0 tz0))))) (tm (tv 6) (ta (tm to1 (ta (ta (tm tz0 tz0) (tm tz0 tz0)) (tm tz0 tz0))) (tm tz0 (ta (ta (tm tz0 tz0) (tm tz0 tz0)) (tm (tv 6) (tm tz0 tz0))))))))) (ta (ta (tm (tv 3) tz0) (tm (tv 6) (ta (tm tz0 tz0) (tm tz0 tz0)))) (ta (tm tz0 (ta (tm tz0 tz0) (tm (tv 6) (ta (tm tz0 tz0) (tm tz0 to1))))) (tm (tv 6) (ta (tm to1 (ta (ta (tm tz0 tz0) (tm tz0 to1)) (tm tz0 tz0))) (tm tz0 (ta (ta (tm tz0 to1) (tm tz0 tz0)) (tm (tv 6) (tm tz0 tz0))))))))) (ta (ta (tm (tv 4) tz0) (tm (tv 6) (ta (tm tz0 to1) (tm tz0 tz0)))) (ta (tm tz0 (ta (tm tz0 tz0) (tm (tv 6) (ta (tm tz0 tz0) (tm tz0 tz0))))) (tm (tv 6) (ta (tm to1 (ta (ta (tm tz0 tz0) (tm tz0 tz0)) (tm tz0 tz0))) (tm tz0 (ta (ta (tm tz0 tz0) (tm tz0 tz0)) (tm (tv 6) (tm tz0 tz0))))))))) (ta (ta (tm (tv 5) tz0) (tm (tv 6) (ta (tm tz0 tz0) (tm tz0 tz0)))) (ta (tm tz0 (ta (tm tz0 tz0) (tm (tv 6) (ta (tm tz0 to1) (tm tz0 tz0))))) (tm (tv 6) (ta (tm to1 (ta (ta (tm tz0 to1) (tm tz0 tz0)) (tm tz0 tz0))) (tm tz0 (ta (ta (tm tz0 tz0) (tm tz0 tz0)) (tm (tv 6) (tm tz0 to1))))))))) (tv 0) (by kernel_rfl)) (Prod.ext (Rg.same (R := R2) (ρ := ev R2 [c0, c1, c2, c3, c4, c5, XI]) (ta (ta (ta (ta (ta (ta (ta (ta (tm (tv 0) tz0) (tm tz0 to1)) (tm (tv 6) (tm tz0 tz0))) (ta (ta (tm tz0 (ta (ta (tm tz0 tz0) (tm tz0 tz0)) (tm (tv 6) (tm tz0 tz0)))) (tm to1 (ta (tm tz0 tz0) (tm (tv 6) (ta (tm tz0 tz0) (tm tz0 tz0)))))) (tm (tv 6) (tm tz0 (ta (ta (tm tz0 tz0) (tm tz0 tz0)) (tm tz0 tz0)))))) (ta (ta (ta (tm (tv 1) tz0) (tm tz0 tz0)) (tm (tv 6) (tm tz0 tz0))) (ta (ta (tm tz0 (ta (ta (tm tz0 tz0) (tm tz0 to1)) (tm (tv 6) (tm tz0 tz0)))) (tm to1 (ta (tm tz0 to1) (tm (tv 6) (ta (tm tz0 tz0) (tm tz0 tz0)))))) (tm (tv 6) (tm tz0 (ta (ta (tm tz0 tz0) (tm tz0 tz0)) (tm tz0 to1))))))) (ta (ta (ta (tm (tv 2) to1) (tm tz0 tz0)) (tm (tv 6) (tm tz0 tz0))) (ta (ta (tm tz0 (ta (ta (tm tz0 tz0) (tm tz0 tz0)) (tm (tv 6) (tm tz0 tz0)))) (tm to1 (ta (tm tz0 tz0) (tm (tv 6) (ta (tm tz0 tz0) (tm tz0 tz0)))))) (tm (tv 6) (tm tz0 (ta (ta (tm tz0 tz0) (tm tz0 tz0)) (tm tz0 tz0))))))) (ta (ta (ta (tm (tv 3) tz0) (tm tz0 tz0)) (tm (tv 6) (tm tz0 tz0))) (ta (ta (tm tz0 (ta (ta (tm tz0 to1) (tm tz0 tz0)) (tm (tv 6) (tm tz0 tz0)))) (tm to1 (ta (tm tz0 tz0) (tm (tv 6) (ta (tm tz0 tz0) (tm tz0 to1)))))) (tm (tv 6) (tm tz0 (ta (ta (tm tz0 tz0) (tm tz0 to1)) (tm tz0 tz0))))))) (ta (ta (ta (tm (tv 4) tz0) (tm tz0 tz0)) (tm (tv 6) (tm tz0 to1))) (ta (ta (tm tz0 (ta (ta (tm tz0 tz0) (tm tz0 tz0)) (tm (tv 6) (tm tz0 tz0)))) (tm to1 (ta (tm tz0 tz0) (tm (tv 6) (ta (tm tz0 tz0) (tm tz0 tz0)))))) (tm (tv 6) (tm tz0 (ta (ta (tm tz0 tz0) (tm tz0 tz0)) (tm tz0 tz0))))))) (ta (ta (ta (tm (tv 5) tz0) (tm tz0 tz0)) (tm (tv 6) (tm tz0 tz0))) (ta (ta (tm tz0 (ta (ta (tm tz0 tz0) (tm tz0 tz0)) (tm (tv 6) (tm tz0 to1)))) (tm to1 (ta (tm tz0 tz0) (tm (tv 6) (ta (tm tz0 to1) (tm tz0 tz0)))))) (tm (tv 6) (tm tz0 (ta (ta (tm tz0 to1) (tm tz0 tz0)) (tm tz0 tz0))))))) (tv 2) (by kernel_rfl)) (Rg.same (R := R2) (ρ := ev R2 [c0, c1, c2, c3, c4, c5, XI]) (ta (ta (ta (ta (ta (ta (ta (ta (tm (tv 0) tz0) (tm tz0 tz0)) (tm tz0 to1)) (ta (ta (tm tz0 (ta (ta (tm tz0 tz0) (tm tz0 tz0)) (tm tz0 tz0))) (tm to1 (ta (ta (tm tz0 tz0) (tm tz0 tz0)) (tm (tv 6) (tm tz0 tz0))))) (tm tz0 (ta (tm tz0 tz0) (tm (tv 6) (ta (tm tz0 tz0) (tm tz0 tz0))))))) (ta (ta (ta (tm (tv 1) tz0) (tm tz0 tz0)) (tm tz0 tz0)) (ta (ta (tm tz0 (ta (ta (tm tz0 tz0) (tm tz0 tz0)) (tm tz0 to1))) (tm to1 (ta (ta (tm tz0 tz0) (tm tz0 to1)) (tm (tv 6) (tm tz0 tz0))))) (tm tz0 (ta (tm tz0 to1) (tm (tv 6) (ta (tm tz0 tz0) (tm tz0 tz0)))))))) (ta (ta (ta (tm (tv 2) tz0) (tm tz0 to1)) (tm tz0 tz0)) (ta (ta (tm tz0 (ta (ta (tm tz0 tz0) (tm tz0 tz0)) (tm tz0 tz0))) (tm to1 (ta (ta (tm tz0 tz0) (tm tz0 tz0)) (tm (tv 6) (tm tz0 tz0))))) (tm tz0 (ta (tm tz0 tz0) (tm (tv 6) (ta (tm tz0 tz0) (tm tz0 tz0)))))))) (ta (ta (ta (tm (tv 3) tz0) (tm tz0 tz0)) (tm tz0 tz0)) (ta (ta (tm tz0 (ta (ta (tm tz0 tz0) (tm tz0 to1)) (tm tz0 tz0))) (tm to1 (ta (ta (tm tz0 to1) (tm tz0 tz0)) (tm (tv 6) (tm tz0 tz0))))) (tm tz0 (ta (tm tz0 tz0) (tm (tv 6) (ta (tm tz0 tz0) (tm tz0 to1)))))))) (ta (ta (ta (tm (tv 4) to1) (tm tz0 tz0)) (tm tz0 tz0)) (ta (ta (tm tz0 (ta (ta (tm tz0 tz0) (tm tz0 tz0)) (tm tz0 tz0))) (tm to1 (ta (ta (tm tz0 tz0) (tm tz0 tz0)) (tm (tv 6) (tm tz0 tz0))))) (tm tz0 (ta (tm tz0 tz0) (tm (tv 6) (ta (tm tz0 tz0) (tm tz0 tz0)))))))) (ta (ta (ta (tm (tv 5) tz0) (tm tz0 tz0)) (tm tz0 tz0)) (ta (ta (tm tz0 (ta (ta (tm tz0 to1) (tm tz0 tz0)) (tm tz0 tz0))) (tm to1 (ta (ta (tm tz0 tz0) (tm tz0 tz0)) (tm (tv 6) (tm tz0 to1))))) (tm tz0 (ta (tm tz0 tz0) (tm (tv 6) (ta (tm tz0 to1) (tm tz0 tz0)))))))) (tv 4) (by kernel_rfl)))) (Prod.ext (Rg.same (R := R2) (ρ := ev R2 [c0, c1, c2, c3, c4, c5, XI]) (ta (ta (ta (ta (ta (ta (ta (tm (tv 0) tz0) (tm (tv 6) (ta (tm tz0 tz0) (tm tz0 tz0)))) (ta (tm tz0 to1) (tm (tv 6) (ta (tm tz0 tz0) (tm tz0 tz0))))) (ta (ta (tm (tv 1) to1) (tm (tv 6) (ta (tm tz0 tz0) (tm tz0 tz0)))) (ta (tm tz0 tz0) (tm (tv 6) (ta (tm tz0 tz0) (tm tz0 tz0)))))) (ta (ta (tm (tv 2) tz0) (tm (tv 6) (ta (tm tz0 tz0) (tm tz0 tz0)))) (ta (tm tz0 tz0) (tm (tv 6) (ta (tm tz0 tz0) (tm tz0 to1)))))) (ta (ta (tm (tv 3) tz0) (tm (tv 6) (ta (tm tz0 tz0) (tm tz0 to1)))) (ta (tm tz0 tz0) (tm (tv 6) (ta (tm tz0 tz0) (tm tz0 tz0)))))) (ta (ta (tm (tv 4) tz0) (tm (tv 6) (ta (tm tz0 tz0) (tm tz0 tz0)))) (ta (tm tz0 tz0) (tm (tv 6) (ta (tm tz0 to1) (tm tz0 tz0)))))) (ta (ta (tm (tv 5) tz0) (tm (tv 6) (ta (tm tz0 to1) (tm tz0 tz0)))) (ta (tm tz0 tz0) (tm (tv 6) (ta (tm tz0 tz0) (tm tz0 tz0)))))) (tv 1) (by kernel_rfl)) (Prod.ext (Rg.same (R := R2) (ρ := ev R2 [c0, c1, c2, c3, c4, c5, XI]) (ta (ta (ta (ta (ta (ta (ta (ta (tm (tv 0) tz0) (tm tz0 tz0)) (tm (tv 6) (tm tz0 tz0))) (ta (ta (tm tz0 tz0) (tm tz0 to1)) (tm (tv 6) (tm tz0 tz0)))) (ta (ta (ta (tm (tv 1) tz0) (tm tz0 to1)) (tm (tv 6) (tm tz0 tz0))) (ta (ta (tm tz0 tz0) (tm tz0 tz0)) (tm (tv 6) (tm tz0 tz0))))) (ta (ta (ta (tm (tv 2) tz0) (tm tz0 tz0)) (tm (tv 6) (tm tz0 tz0))) (ta (ta (tm tz0 to1) (tm tz0 tz0)) (tm (tv 6) (tm tz0 tz0))))) (ta (ta (ta (tm (tv 3) to1) (tm tz0 tz0)) (tm (tv 6) (tm tz0 tz0))) (ta (ta (tm tz0 tz0) (tm tz0 tz0)) (tm (tv 6) (tm tz0 tz0))))) (ta (ta (ta (tm (tv 4) tz0) (tm tz0 tz0)) (tm (tv 6) (tm tz0 tz0))) (ta (ta (tm tz0 tz0) (tm tz0 tz0)) (tm (tv 6) (tm tz0 to1))))) (ta (ta (ta (tm (tv 5) tz0) (tm tz0 tz0)) (tm (tv 6) (tm tz0 to1))) (ta (ta (tm tz0 tz0) (tm tz0 tz0)) (tm (tv 6) (tm tz0 tz0))))) (tv 3) (by kernel_rfl)) (Rg.same (R := R2) (ρ := ev R2 [c0, c1, c2, c3, c4, c5, XI]) (ta (ta (ta (ta (ta (ta (ta (ta (tm (tv 0) tz0) (tm tz0 tz0)) (tm tz0 tz0)) (ta (ta (tm tz0 tz0) (tm tz0 tz0)) (tm tz0 to1))) (ta (ta (ta (tm (tv 1) tz0) (tm tz0 tz0)) (tm tz0 to1)) (ta (ta (tm tz0 tz0) (tm tz0 tz0)) (tm tz0 tz0)))) (ta (ta (ta (tm (tv 2) tz0) (tm tz0 tz0)) (tm tz0 tz0)) (ta (ta (tm tz0 tz0) (tm tz0 to1)) (tm tz0 tz0)))) (ta (ta (ta (tm (tv 3) tz0) (tm tz0 to1)) (tm tz0 tz0)) (ta (ta (tm tz0 tz0) (tm tz0 tz0)) (tm tz0 tz0)))) (ta (ta (ta (tm (tv 4) tz0) (tm tz0 tz0)) (tm tz0 tz0)) (ta (ta (tm tz0 to1) (tm tz0 tz0)) (tm tz0 tz0)))) (ta (ta (ta (tm (tv 5) to1) (tm tz0 tz0)) (tm tz0 tz0)) (ta (ta (tm tz0 tz0) (tm tz0 tz0)) (tm tz0 tz0)))) (tv 5) (by kernel_rfl))))
/-- The sixth part of p - 1 as a power of 1 + i: what a power of p takes out of w. -/
def GA : W2 := pw2 XI sx
theorem wk_add (m n : Nat) : wk (m + n) = K12.mul (wk m) (wk n) := K12.pw_add _ m n
theorem wk_PP : K12.pw (wk 1) PP = K12.mul (em GA) (wk 1) := by
  have e : K12.pw (wk 1) PP = K12.pw (wk 1) (6 * sx + 1) := congrArg (fun n => K12.pw (wk 1) n) sx_val.symm
  have e1 : wk 1 = ((ze2, ze2, ze2), (on2, ze2, ze2)) := wk1
  have e6 : K12.pw (wk 1) 6 = em XI := by rw [e1]; exact wk6
  rw [e, K12.pw_add, K12.pw_mul, e6, em_pw, K12.pw_one]; rfl
theorem wk_pw (k : Nat) : K12.pw (wk k) PP = K12.mul (em (pw2 GA k)) (wk k) := by
  have e1 : wk 1 = ((ze2, ze2, ze2), (on2, ze2, ze2)) := wk1
  have e : wk k = K12.pw (wk 1) k := by rw [e1]; rfl
  rw [e, ← K12.pw_mul, Nat.mul_comm, K12.pw_mul, wk_PP, K12.mul_pw, em_pw]
theorem part_pw (c : W2) (k : Nat) : K12.pw (K12.mul (em c) (wk k)) PP = K12.mul (em (ml2 (cj2 c) (pw2 GA k))) (wk k) := by
  rw [K12.mul_pw, em_pw, pw2_PP, wk_pw, ← K12.mul_assoc, em_mul]
def FR12 (x : W12) : W12 := ((ml2 (cj2 x.1.1) (pw2 GA 0), ml2 (cj2 x.1.2.1) (pw2 GA 2), ml2 (cj2 x.1.2.2) (pw2 GA 4)), (ml2 (cj2 x.2.1) (pw2 GA 1), ml2 (cj2 x.2.2.1) (pw2 GA 3), ml2 (cj2 x.2.2.2) (pw2 GA 5)))
/-- The power of p, part by part. -/
theorem frob12 (x : W12) : K12.pw x PP = FR12 x := by
  have h := parts_sum x.1.1 x.2.1 x.1.2.1 x.2.2.1 x.1.2.2 x.2.2.2
  have e : K12.pw x PP = K12.pw ((x.1.1, x.1.2.1, x.1.2.2), (x.2.1, x.2.2.1, x.2.2.2)) PP := rfl
  rw [e, ← h, K12_frob, K12_frob, K12_frob, K12_frob, K12_frob, part_pw, part_pw, part_pw, part_pw, part_pw, part_pw, parts_sum]
  rfl
/-! ### Six parts, as the reference multiplies them -/
def tq (f : Nat → W2) : W12 := ((f 0, f 2, f 4), (f 1, f 3, f 5))
/-- The sum of the first n products a_i b_k, i + k being m. -/
def LP (a b : Nat → W2) : Nat → Nat → W2
  | 0, _ => ze2
  | n + 1, m => if n / 6 + n % 6 = m then ad2 (LP a b n m) (ml2 (a (n / 6)) (b (n % 6))) else LP a b n m
def TMf (a b : Nat → W2) (i : Nat) : W2 := if i < 5 then ad2 (LP a b 36 i) (xi2 (LP a b 36 (i + 6))) else LP a b 36 i
theorem txi {ρ : Nat → W2} {p : Po} {a : W2} (k : Nat) (ha : R2.d ρ p = a) (hk : ρ k = XI) : R2.d ρ (pmul' p (pv k)) = xi2 a := by rw [R2.d_mul, ha, R2.d_var, hk]; exact (xi2_eq a).symm
theorem tsb {ρ : Nat → W2} {p q : Po} {a b : W2} (ha : R2.d ρ p = a) (hb : R2.d ρ q = b) : R2.d ρ (padd' p (pneg' q)) = sb2 a b := by rw [R2.d_add, R2.d_neg, ha, hb, sb2_eq]; rfl
theorem LP0 (a b : Nat → W2) : LP a b 36 0 = ad2 (ze2) (ml2 (a 0) (b 0)) := by kernel_rfl
theorem LP1 (a b : Nat → W2) : LP a b 36 1 = ad2 (ad2 (ze2) (ml2 (a 0) (b 1))) (ml2 (a 1) (b 0)) := by kernel_rfl
theorem LP2 (a b : Nat → W2) : LP a b 36 2 = ad2 (ad2 (ad2 (ze2) (ml2 (a 0) (b 2))) (ml2 (a 1) (b 1))) (ml2 (a 2) (b 0)) := by kernel_rfl
theorem LP3 (a b : Nat → W2) : LP a b 36 3 = ad2 (ad2 (ad2 (ad2 (ze2) (ml2 (a 0) (b 3))) (ml2 (a 1) (b 2))) (ml2 (a 2) (b 1))) (ml2 (a 3) (b 0)) := by kernel_rfl
theorem LP4 (a b : Nat → W2) : LP a b 36 4 = ad2 (ad2 (ad2 (ad2 (ad2 (ze2) (ml2 (a 0) (b 4))) (ml2 (a 1) (b 3))) (ml2 (a 2) (b 2))) (ml2 (a 3) (b 1))) (ml2 (a 4) (b 0)) := by kernel_rfl
theorem LP5 (a b : Nat → W2) : LP a b 36 5 = ad2 (ad2 (ad2 (ad2 (ad2 (ad2 (ze2) (ml2 (a 0) (b 5))) (ml2 (a 1) (b 4))) (ml2 (a 2) (b 3))) (ml2 (a 3) (b 2))) (ml2 (a 4) (b 1))) (ml2 (a 5) (b 0)) := by kernel_rfl
theorem LP6 (a b : Nat → W2) : LP a b 36 6 = ad2 (ad2 (ad2 (ad2 (ad2 (ze2) (ml2 (a 1) (b 5))) (ml2 (a 2) (b 4))) (ml2 (a 3) (b 3))) (ml2 (a 4) (b 2))) (ml2 (a 5) (b 1)) := by kernel_rfl
theorem LP7 (a b : Nat → W2) : LP a b 36 7 = ad2 (ad2 (ad2 (ad2 (ze2) (ml2 (a 2) (b 5))) (ml2 (a 3) (b 4))) (ml2 (a 4) (b 3))) (ml2 (a 5) (b 2)) := by kernel_rfl
theorem LP8 (a b : Nat → W2) : LP a b 36 8 = ad2 (ad2 (ad2 (ze2) (ml2 (a 3) (b 5))) (ml2 (a 4) (b 4))) (ml2 (a 5) (b 3)) := by kernel_rfl
theorem LP9 (a b : Nat → W2) : LP a b 36 9 = ad2 (ad2 (ze2) (ml2 (a 4) (b 5))) (ml2 (a 5) (b 4)) := by kernel_rfl
theorem LP10 (a b : Nat → W2) : LP a b 36 10 = ad2 (ze2) (ml2 (a 5) (b 5)) := by kernel_rfl
theorem TM0 (a b : Nat → W2) : TMf a b 0 = (K12.mul (tq a) (tq b)).1.1 := by
  rw [TMf, if_pos (by decide), show 0 + 6 = 6 from rfl]
  rw [LP0, LP6]
  exact Rg.same (R := R2) (ρ := ev R2 [a 0, a 1, a 2, a 3, a 4, a 5, b 0, b 1, b 2, b 3, b 4, b 5, XI]) (ta (ta tz0 (tm (tv 0) (tv 6))) (txi 12 (ta (ta (ta (ta (ta tz0 (tm (tv 1) (tv 11))) (tm (tv 2) (tv 10))) (tm (tv 3) (tv 9))) (tm (tv 4) (tv 8))) (tm (tv 5) (tv 7))) rfl)) (ta (ta (tm (tv 0) (tv 6)) (tm (tv 12) (ta (tm (tv 2) (tv 10)) (tm (tv 4) (tv 8))))) (ta (tm tz0 (ta (tm (tv 1) (tv 7)) (tm (tv 12) (ta (tm (tv 3) (tv 11)) (tm (tv 5) (tv 9)))))) (tm (tv 12) (ta (tm to1 (ta (ta (tm (tv 1) (tv 11)) (tm (tv 3) (tv 9))) (tm (tv 5) (tv 7)))) (tm tz0 (ta (ta (tm (tv 1) (tv 9)) (tm (tv 3) (tv 7))) (tm (tv 12) (tm (tv 5) (tv 11))))))))) (by kernel_rfl)
theorem TM2 (a b : Nat → W2) : TMf a b 2 = (K12.mul (tq a) (tq b)).1.2.1 := by
  rw [TMf, if_pos (by decide), show 2 + 6 = 8 from rfl]
  rw [LP2, LP8]
  exact Rg.same (R := R2) (ρ := ev R2 [a 0, a 1, a 2, a 3, a 4, a 5, b 0, b 1, b 2, b 3, b 4, b 5, XI]) (ta (ta (ta (ta tz0 (tm (tv 0) (tv 8))) (tm (tv 1) (tv 7))) (tm (tv 2) (tv 6))) (txi 12 (ta (ta (ta tz0 (tm (tv 3) (tv 11))) (tm (tv 4) (tv 10))) (tm (tv 5) (tv 9))) rfl)) (ta (ta (ta (tm (tv 0) (tv 8)) (tm (tv 2) (tv 6))) (tm (tv 12) (tm (tv 4) (tv 10)))) (ta (ta (tm tz0 (ta (ta (tm (tv 1) (tv 9)) (tm (tv 3) (tv 7))) (tm (tv 12) (tm (tv 5) (tv 11))))) (tm to1 (ta (tm (tv 1) (tv 7)) (tm (tv 12) (ta (tm (tv 3) (tv 11)) (tm (tv 5) (tv 9))))))) (tm (tv 12) (tm tz0 (ta (ta (tm (tv 1) (tv 11)) (tm (tv 3) (tv 9))) (tm (tv 5) (tv 7))))))) (by kernel_rfl)
theorem TM4 (a b : Nat → W2) : TMf a b 4 = (K12.mul (tq a) (tq b)).1.2.2 := by
  rw [TMf, if_pos (by decide), show 4 + 6 = 10 from rfl]
  rw [LP4, LP10]
  exact Rg.same (R := R2) (ρ := ev R2 [a 0, a 1, a 2, a 3, a 4, a 5, b 0, b 1, b 2, b 3, b 4, b 5, XI]) (ta (ta (ta (ta (ta (ta tz0 (tm (tv 0) (tv 10))) (tm (tv 1) (tv 9))) (tm (tv 2) (tv 8))) (tm (tv 3) (tv 7))) (tm (tv 4) (tv 6))) (txi 12 (ta tz0 (tm (tv 5) (tv 11))) rfl)) (ta (ta (ta (tm (tv 0) (tv 10)) (tm (tv 2) (tv 8))) (tm (tv 4) (tv 6))) (ta (ta (tm tz0 (ta (ta (tm (tv 1) (tv 11)) (tm (tv 3) (tv 9))) (tm (tv 5) (tv 7)))) (tm to1 (ta (ta (tm (tv 1) (tv 9)) (tm (tv 3) (tv 7))) (tm (tv 12) (tm (tv 5) (tv 11)))))) (tm tz0 (ta (tm (tv 1) (tv 7)) (tm (tv 12) (ta (tm (tv 3) (tv 11)) (tm (tv 5) (tv 9)))))))) (by kernel_rfl)
theorem TM1 (a b : Nat → W2) : TMf a b 1 = (K12.mul (tq a) (tq b)).2.1 := by
  rw [TMf, if_pos (by decide), show 1 + 6 = 7 from rfl]
  rw [LP1, LP7]
  exact Rg.same (R := R2) (ρ := ev R2 [a 0, a 1, a 2, a 3, a 4, a 5, b 0, b 1, b 2, b 3, b 4, b 5, XI]) (ta (ta (ta tz0 (tm (tv 0) (tv 7))) (tm (tv 1) (tv 6))) (txi 12 (ta (ta (ta (ta tz0 (tm (tv 2) (tv 11))) (tm (tv 3) (tv 10))) (tm (tv 4) (tv 9))) (tm (tv 5) (tv 8))) rfl)) (ta (ta (tm (tv 0) (tv 7)) (tm (tv 12) (ta (tm (tv 2) (tv 11)) (tm (tv 4) (tv 9))))) (ta (tm (tv 1) (tv 6)) (tm (tv 12) (ta (tm (tv 3) (tv 10)) (tm (tv 5) (tv 8)))))) (by kernel_rfl)
theorem TM3 (a b : Nat → W2) : TMf a b 3 = (K12.mul (tq a) (tq b)).2.2.1 := by
  rw [TMf, if_pos (by decide), show 3 + 6 = 9 from rfl]
  rw [LP3, LP9]
  exact Rg.same (R := R2) (ρ := ev R2 [a 0, a 1, a 2, a 3, a 4, a 5, b 0, b 1, b 2, b 3, b 4, b 5, XI]) (ta (ta (ta (ta (ta tz0 (tm (tv 0) (tv 9))) (tm (tv 1) (tv 8))) (tm (tv 2) (tv 7))) (tm (tv 3) (tv 6))) (txi 12 (ta (ta tz0 (tm (tv 4) (tv 11))) (tm (tv 5) (tv 10))) rfl)) (ta (ta (ta (tm (tv 0) (tv 9)) (tm (tv 2) (tv 7))) (tm (tv 12) (tm (tv 4) (tv 11)))) (ta (ta (tm (tv 1) (tv 8)) (tm (tv 3) (tv 6))) (tm (tv 12) (tm (tv 5) (tv 10))))) (by kernel_rfl)
theorem TM5 (a b : Nat → W2) : TMf a b 5 = (K12.mul (tq a) (tq b)).2.2.2 := by
  rw [TMf, if_neg (by decide)]
  rw [LP5]
  exact Rg.same (R := R2) (ρ := ev R2 [a 0, a 1, a 2, a 3, a 4, a 5, b 0, b 1, b 2, b 3, b 4, b 5, XI]) (ta (ta (ta (ta (ta (ta tz0 (tm (tv 0) (tv 11))) (tm (tv 1) (tv 10))) (tm (tv 2) (tv 9))) (tm (tv 3) (tv 8))) (tm (tv 4) (tv 7))) (tm (tv 5) (tv 6))) (ta (ta (ta (tm (tv 0) (tv 11)) (tm (tv 2) (tv 9))) (tm (tv 4) (tv 7))) (ta (ta (tm (tv 1) (tv 10)) (tm (tv 3) (tv 8))) (tm (tv 5) (tv 6)))) (by kernel_rfl)
theorem tq_mul (a b : Nat → W2) : tq (TMf a b) = K12.mul (tq a) (tq b) := Prod.ext (Prod.ext (TM0 a b) (Prod.ext (TM2 a b) (TM4 a b))) (Prod.ext (TM1 a b) (Prod.ext (TM3 a b) (TM5 a b)))
end Go.Proofs.YtbpifgcbkhohbaaDoor

namespace Go.Proofs.YtbpifgcbkhohbaaDoor
set_option maxRecDepth 100000
def i3a (a b c : W2) : W2 := sb2 (ml2 a a) (xi2 (ml2 b c))
def i3b (a b c : W2) : W2 := sb2 (xi2 (ml2 c c)) (ml2 a b)
def i3c (a b c : W2) : W2 := sb2 (ml2 b b) (ml2 a c)
def i3n (a b c : W2) : W2 := ad2 (ml2 a (i3a a b c)) (xi2 (ad2 (ml2 c (i3b a b c)) (ml2 b (i3c a b c))))
theorem i3a_eq (a b c : W2) : i3a a b c = (cadj R2 XI (a, b, c)).1 := Rg.same (R := R2) (ρ := ev R2 [a, b, c, XI]) (tsb (tm (tv 0) (tv 0)) (txi 3 (tm (tv 1) (tv 2)) rfl)) (ta (tm (tv 0) (tv 0)) (tn (tm (tv 3) (tm (tv 1) (tv 2))))) (by kernel_rfl)
theorem i3b_eq (a b c : W2) : i3b a b c = (cadj R2 XI (a, b, c)).2.1 := Rg.same (R := R2) (ρ := ev R2 [a, b, c, XI]) (tsb (txi 3 (tm (tv 2) (tv 2)) rfl) (tm (tv 0) (tv 1))) (ta (tm (tv 3) (tm (tv 2) (tv 2))) (tn (tm (tv 0) (tv 1)))) (by kernel_rfl)
theorem i3c_eq (a b c : W2) : i3c a b c = (cadj R2 XI (a, b, c)).2.2 := Rg.same (R := R2) (ρ := ev R2 [a, b, c, XI]) (tsb (tm (tv 1) (tv 1)) (tm (tv 0) (tv 2))) (ta (tm (tv 1) (tv 1)) (tn (tm (tv 0) (tv 2)))) (by kernel_rfl)
theorem i3n_eq (a b c : W2) : i3n a b c = cnm R2 XI (a, b, c) := Rg.same (R := R2) (ρ := ev R2 [a, b, c, XI]) (ta (tm (tv 0) (tsb (tm (tv 0) (tv 0)) (txi 3 (tm (tv 1) (tv 2)) rfl))) (txi 3 (ta (tm (tv 2) (tsb (txi 3 (tm (tv 2) (tv 2)) rfl) (tm (tv 0) (tv 1)))) (tm (tv 1) (tsb (tm (tv 1) (tv 1)) (tm (tv 0) (tv 2))))) rfl)) (ta (tm (tv 0) (ta (tm (tv 0) (tv 0)) (tn (tm (tv 3) (tm (tv 1) (tv 2)))))) (tm (tv 3) (ta (tm (tv 2) (ta (tm (tv 3) (tm (tv 2) (tv 2))) (tn (tm (tv 0) (tv 1))))) (tm (tv 1) (ta (tm (tv 1) (tv 1)) (tn (tm (tv 0) (tv 2)))))))) (by kernel_rfl)
/-- The inverse, of 0: 0. -/
def iv6 (x : W6) : W6 := (ml2 (i3a x.1 x.2.1 x.2.2) (iv2 (i3n x.1 x.2.1 x.2.2)), ml2 (i3b x.1 x.2.1 x.2.2) (iv2 (i3n x.1 x.2.1 x.2.2)), ml2 (i3c x.1 x.2.1 x.2.2) (iv2 (i3n x.1 x.2.1 x.2.2)))
theorem iv6_mul {x : W6} (h : x ≠ K6.zero) : K6.mul x (iv6 x) = K6.one := by
  have hn : cnm R2 XI x ≠ ze2 := fun e => h (cub_zero fd2 no_cube e)
  have hi : R2.mul (cnm R2 XI x) (iv2 (cnm R2 XI x)) = R2.one := iv2_mul hn
  have e := cub_inv (R := R2) (z := XI) x hi
  unfold iv6
  rw [i3a_eq, i3b_eq, i3c_eq, i3n_eq]
  exact e
theorem xi2_ze : xi2 ze2 = ze2 := by decide +kernel
theorem ml2_ze (x : W2) : ml2 ze2 x = ze2 := R2.zero_mul x
theorem sb2_ze : sb2 ze2 ze2 = ze2 := by decide +kernel
theorem iv6_ze : iv6 K6.zero = K6.zero := by
  have e1 : i3a ze2 ze2 ze2 = ze2 := by rw [i3a, ml2_ze, xi2_ze, sb2_ze]
  have e2 : i3b ze2 ze2 ze2 = ze2 := by rw [i3b, ml2_ze, xi2_ze, sb2_ze]
  have e3 : i3c ze2 ze2 ze2 = ze2 := by rw [i3c, ml2_ze, sb2_ze]
  show (ml2 (i3a ze2 ze2 ze2) (iv2 (i3n ze2 ze2 ze2)), ml2 (i3b ze2 ze2 ze2) (iv2 (i3n ze2 ze2 ze2)), ml2 (i3c ze2 ze2 ze2) (iv2 (i3n ze2 ze2 ze2))) = (ze2, ze2, ze2)
  rw [e1, e2, e3, ml2_ze]
def iv12 (x : W12) : W12 := K12.mul (x.1, K6.neg x.2) (iv6 (qnm K6 VV x), K6.zero)
theorem q_re {α : Type} (R : Rg α) (z a b : α) : qmul R z (a, R.zero) (b, R.zero) = (R.mul a b, R.zero) := Prod.ext (Rg.same (R := R) (ρ := ev R [a, b, z]) (ta (tm (tv 0) (tv 1)) (tm (tv 2) (tm tz0 tz0))) (tm (tv 0) (tv 1)) (by kernel_rfl)) (Rg.same (R := R) (ρ := ev R [a, b, z]) (ta (tm (tv 0) tz0) (tm tz0 (tv 1))) tz0 (by kernel_rfl))
theorem iv12_mul {x : W12} (h : x ≠ K12.zero) : K12.mul x (iv12 x) = K12.one := by
  have hn : qnm K6 VV x ≠ K6.zero := fun e => h (quad_zero fd6 no_sqV e)
  have e := qnm_cj K6 VV x
  rw [iv12, ← K12.mul_assoc]
  show K12.mul (qmul K6 VV x (x.1, K6.neg x.2)) (iv6 (qnm K6 VV x), K6.zero) = K12.one
  rw [e]
  show qmul K6 VV (qnm K6 VV x, K6.zero) (iv6 (qnm K6 VV x), K6.zero) = K12.one
  rw [q_re, iv6_mul hn]
  rfl
theorem iv12_ze : iv12 K12.zero = K12.zero := by
  have e : ((K12.zero : W12).1, K6.neg (K12.zero : W12).2) = K12.zero := Prod.ext rfl K6.neg_zero
  rw [iv12, e, K12.zero_mul]
/-! ### Six parts turned -/
def tcj (f : Nat → W2) (i : Nat) : W2 := if i % 2 = 1 then ng2 (f i) else f i
theorem tq_cj (f : Nat → W2) : tq (tcj f) = ((tq f).1, K6.neg (tq f).2) := rfl
/-! ### Powers by bits, in any ring -/
theorem Rg.bt_y {α : Type} (R : Rg α) (x : α) {n m : Nat} (h : m = 2 * n + 1) : R.mul (R.mul (R.pw x n) (R.pw x n)) x = R.pw x m := by
  rw [← R.pw_add, h, Nat.two_mul]; rfl
theorem Rg.bt_n {α : Type} (R : Rg α) (x : α) {n m : Nat} (h : m = 2 * n) : R.mul (R.pw x n) (R.pw x n) = R.pw x m := by
  rw [← R.pw_add, h, Nat.two_mul]
end Go.Proofs.YtbpifgcbkhohbaaDoor

namespace Go.Proofs.YtbpifgcbkhohbaaDoor
set_option maxRecDepth 100000
def sb6 (x y : W6) : W6 := (sb2 x.1 y.1, sb2 x.2.1 y.2.1, sb2 x.2.2 y.2.2)
def sc6 (x : W6) (c : W2) : W6 := (ml2 x.1 c, ml2 x.2.1 c, ml2 x.2.2 c)
def v6 (x : W6) : W6 := (xi2 x.2.2, x.1, x.2.1)
theorem sb6_eq (x y : W6) : sb6 x y = K6.add x (K6.neg y) := Prod.ext (sb2_eq _ _) (Prod.ext (sb2_eq _ _) (sb2_eq _ _))
theorem sc6_eq (x : W6) (c : W2) : K6.mul x (c, ze2, ze2) = sc6 x c := Prod.ext (Rg.same (R := R2) (ρ := ev R2 [x.1, x.2.1, x.2.2, c, XI]) (ta (tm (tv 0) (tv 3)) (tm (tv 4) (ta (tm (tv 1) tz0) (tm (tv 2) tz0)))) (tm (tv 0) (tv 3)) (by kernel_rfl)) (Prod.ext (Rg.same (R := R2) (ρ := ev R2 [x.1, x.2.1, x.2.2, c, XI]) (ta (ta (tm (tv 0) tz0) (tm (tv 1) (tv 3))) (tm (tv 4) (tm (tv 2) tz0))) (tm (tv 1) (tv 3)) (by kernel_rfl)) (Rg.same (R := R2) (ρ := ev R2 [x.1, x.2.1, x.2.2, c, XI]) (ta (ta (tm (tv 0) tz0) (tm (tv 1) tz0)) (tm (tv 2) (tv 3))) (tm (tv 2) (tv 3)) (by kernel_rfl)))
theorem v6_eq (x : W6) : K6.mul x VV = v6 x := Prod.ext (Rg.same (R := R2) (ρ := ev R2 [x.1, x.2.1, x.2.2, XI]) (ta (tm (tv 0) tz0) (tm (tv 3) (ta (tm (tv 1) tz0) (tm (tv 2) to1)))) (txi 3 (tv 2) rfl) (by kernel_rfl)) (Prod.ext (Rg.same (R := R2) (ρ := ev R2 [x.1, x.2.1, x.2.2, XI]) (ta (ta (tm (tv 0) to1) (tm (tv 1) tz0)) (tm (tv 3) (tm (tv 2) tz0))) (tv 0) (by kernel_rfl)) (Rg.same (R := R2) (ρ := ev R2 [x.1, x.2.1, x.2.2, XI]) (ta (ta (tm (tv 0) tz0) (tm (tv 1) to1)) (tm (tv 2) tz0)) (tv 1) (by kernel_rfl)))
def r6 (x : W6) : W12 := (x, K6.zero)
theorem r6_inj {x y : W6} (h : r6 x = r6 y) : x = y := congrArg Prod.fst h
theorem r6_add (x y : W6) : K12.add (r6 x) (r6 y) = r6 (K6.add x y) := Prod.ext rfl (K6.add_zero K6.zero)
theorem r6_neg (x : W6) : K12.neg (r6 x) = r6 (K6.neg x) := Prod.ext rfl K6.neg_zero
theorem r6_sub (x y : W6) : K12.add (r6 x) (K12.neg (r6 y)) = r6 (sb6 x y) := by rw [r6_neg, r6_add, sb6_eq]
theorem r6_mul (x y : W6) : K12.mul (r6 x) (r6 y) = r6 (K6.mul x y) := q_re K6 VV x y
theorem r6_scale (x : W6) (c : W2) : K12.mul (r6 x) (em c) = r6 (sc6 x c) := by
  rw [← sc6_eq]; exact r6_mul x (c, ze2, ze2)
theorem r6_v (x : W6) : K12.mul (r6 x) (r6 VV) = r6 (v6 x) := by rw [r6_mul, v6_eq]
theorem r6_ze : r6 K6.zero = K12.zero := rfl
theorem r6_inv (x : W6) : iv12 (r6 x) = r6 (iv6 x) := by
  by_cases h : x = K6.zero
  · rw [h, r6_ze, iv12_ze, iv6_ze, r6_ze]
  · have h1 : K12.mul (r6 x) (iv12 (r6 x)) = K12.one := iv12_mul (fun e => h (r6_inj e))
    have h2 : K12.mul (r6 x) (r6 (iv6 x)) = K12.one := by rw [r6_mul, iv6_mul h]; rfl
    exact K12.inv_one h1 h2
theorem sb6_add (x y : W6) : K6.add (sb6 x y) y = x := by
  rw [sb6_eq, K6.add_assoc, K6.add_comm (K6.neg y), K6.add_neg, K6.add_zero]
/-! ### The chapter's examples -/
def VE : W6 := v6 K6.one
theorem ve_ne : VE ≠ K6.zero := by decide +kernel
theorem ve_cube : K6.mul (K6.mul VE VE) VE = (XI, ze2, ze2) := by decide +kernel
theorem ve_sq : K6.mul VE VE = (ze2, ze2, on2) := by decide +kernel
end Go.Proofs.YtbpifgcbkhohbaaDoor

namespace Go.Proofs.YtbpifgcbkhohbaaDoor
set_option maxRecDepth 100000
/-- What a power of p takes out of v. -/
def g2 : W2 := pw2 XI th
def fr6 (x : W6) : W6 := (cj2 x.1, ml2 (cj2 x.2.1) g2, ml2 (cj2 x.2.2) (ml2 g2 g2))
theorem th_sx : sx * 2 = th := by decide +kernel
theorem GA_2 : pw2 GA 2 = g2 := by
  rw [GA, ← pw2_mul, th_sx]; rfl
theorem GA_4 : pw2 GA 4 = ml2 g2 g2 := by rw [show 4 = 2 + 2 from rfl, pw2_add, GA_2]
theorem cj2_ze : cj2 ze2 = ze2 := by decide +kernel
theorem FR_r6 (x : W6) : FR12 (r6 x) = r6 (fr6 x) := by
  have e1 : ml2 (cj2 x.1) (pw2 GA 0) = cj2 x.1 := R2.mul_one _
  have e2 : ∀ c : W2, ml2 (cj2 ze2) c = ze2 := fun c => by rw [cj2_ze, ml2_ze]
  show ((ml2 (cj2 x.1) (pw2 GA 0), ml2 (cj2 x.2.1) (pw2 GA 2), ml2 (cj2 x.2.2) (pw2 GA 4)), (ml2 (cj2 ze2) (pw2 GA 1), ml2 (cj2 ze2) (pw2 GA 3), ml2 (cj2 ze2) (pw2 GA 5))) = r6 (fr6 x)
  rw [e1, GA_2, GA_4, e2, e2, e2]; rfl
theorem fr6_pw (x : W6) : K12.pw (r6 x) PP = r6 (fr6 x) := (frob12 (r6 x)).trans (FR_r6 x)
theorem fr6_mul (x y : W6) : fr6 (K6.mul x y) = K6.mul (fr6 x) (fr6 y) := r6_inj (by
  rw [← fr6_pw, ← r6_mul, K12.mul_pw, fr6_pw, fr6_pw, r6_mul])
theorem fr6_add (x y : W6) : fr6 (K6.add x y) = K6.add (fr6 x) (fr6 y) := r6_inj (by
  rw [← fr6_pw, ← r6_add, K12_frob, fr6_pw, fr6_pw, r6_add])
/-- Many powers of p. -/
def frn (x : W6) : Nat → W6
  | 0 => x
  | n + 1 => fr6 (frn x n)
theorem frn_add (x : W6) (m : Nat) : ∀ n, frn x (m + n) = frn (frn x m) n
  | 0 => rfl
  | n + 1 => by rw [← Nat.add_assoc, frn, frn_add x m n]; rfl
theorem frn_mul (x y : W6) : ∀ n, frn (K6.mul x y) n = K6.mul (frn x n) (frn y n)
  | 0 => rfl
  | n + 1 => by rw [frn, frn_mul x y n, fr6_mul]; rfl
theorem frn_sum (x y : W6) : ∀ n, frn (K6.add x y) n = K6.add (frn x n) (frn y n)
  | 0 => rfl
  | n + 1 => by rw [frn, frn_sum x y n, fr6_add]; rfl
theorem z_a0 (a : Zp) : a + 0 = a := by grind
theorem nm2_pw (x : W2) : ∀ n, nm2 (pw2 x n) = nm2 x ^ n
  | 0 => by
    show nm2 on2 = _
    rw [p0, nm2, on2]
    show (1 : Zp) * 1 + 0 * 0 = 1
    rw [z_11, z_m0]; exact z_a0 1
  | n + 1 => by rw [pw2_s, nm2_mul, nm2_pw x n, ps]
def OM : W2 := (nm2 g2, 0)
theorem om_cube : ml2 OM (ml2 OM OM) = on2 := by
  have e : nm2 g2 ^ 3 = 1 := by rw [g2, nm2_pw, xi_nm, ← pmul, Nat.mul_comm, th_val, fermat two_ne]
  rw [OM, ml2_rr, ml2_rr]
  have e3 : nm2 g2 * (nm2 g2 * nm2 g2) = 1 := by rw [← e]; grind
  rw [e3]; rfl
theorem cj2_cj (x : W2) : cj2 (cj2 x) = x := w2_ext rfl (z_neg _)
theorem cj_turn (c g : W2) : ml2 (cj2 (ml2 (cj2 c) g)) g = ml2 c (nm2 g, 0) := by
  rw [cj2_mul, cj2_cj, show ml2 (ml2 c (cj2 g)) g = ml2 c (ml2 (cj2 g) g) from R2.mul_assoc _ _ _, show ml2 (cj2 g) g = ml2 g (cj2 g) from R2.mul_comm _ _, nm2_cj]
theorem om_two : ((nm2 (ml2 g2 g2), 0) : W2) = ml2 OM OM := by rw [OM, ml2_rr, nm2_mul]
theorem fr6_two (x : W6) : fr6 (fr6 x) = (x.1, ml2 x.2.1 OM, ml2 x.2.2 (ml2 OM OM)) := by
  show (cj2 (cj2 x.1), ml2 (cj2 (ml2 (cj2 x.2.1) g2)) g2, ml2 (cj2 (ml2 (cj2 x.2.2) (ml2 g2 g2))) (ml2 g2 g2)) = _
  rw [cj2_cj, cj_turn, cj_turn, om_two]; rfl
theorem om_th (c : W2) : ml2 (ml2 (ml2 c OM) OM) OM = c := by
  have e : ml2 (ml2 (ml2 c OM) OM) OM = ml2 c (ml2 OM (ml2 OM OM)) := by
    rw [show ml2 (ml2 c OM) OM = ml2 c (ml2 OM OM) from R2.mul_assoc _ _ _, show ml2 (ml2 c (ml2 OM OM)) OM = ml2 c (ml2 (ml2 OM OM) OM) from R2.mul_assoc _ _ _, show ml2 (ml2 OM OM) OM = ml2 OM (ml2 OM OM) from R2.mul_assoc _ _ _]
  rw [e, om_cube]; exact R2.mul_one c
theorem om_th2 (c : W2) : ml2 (ml2 (ml2 c (ml2 OM OM)) (ml2 OM OM)) (ml2 OM OM) = c := by
  have h : ∀ a : W2, ml2 a (ml2 OM OM) = ml2 (ml2 a OM) OM := fun a => (R2.mul_assoc a OM OM).symm
  rw [h, h, h]
  have e := om_th c
  rw [e, om_th]
theorem frn_six (x : W6) : frn x 6 = x := by
  show fr6 (fr6 (fr6 (fr6 (fr6 (fr6 x))))) = x
  rw [fr6_two x, fr6_two (x.1, ml2 x.2.1 OM, ml2 x.2.2 (ml2 OM OM)), fr6_two]
  exact Prod.ext rfl (Prod.ext (om_th _) (om_th2 _))
theorem frn_mod (x : W6) (n : Nat) : frn x (n % 6) = frn x n := by
  have h : ∀ m, frn x (6 * m) = x := fun m => by
    induction m with
    | zero => rfl
    | succ m ih => rw [Nat.mul_succ, frn_add, ih, frn_six]
  have e : n = 6 * (n / 6) + n % 6 := by omega
  have e2 : frn x n = frn x (6 * (n / 6) + n % 6) := congrArg (frn x) e
  rw [e2, frn_add, h]
theorem frn_one (x : W6) : r6 (frn x 1) = FR12 (r6 x) := (FR_r6 x).symm
end Go.Proofs.YtbpifgcbkhohbaaDoor

namespace Go.Proofs.YtbpifgcbkhohbaaDoor
set_option maxRecDepth 100000
def THB : List (BitVec 8) := [26#8, 1#8, 17#8, 234#8, 57#8, 127#8, 230#8, 153#8, 236#8, 2#8, 64#8, 134#8, 99#8, 212#8, 222#8, 133#8, 170#8, 13#8, 133#8, 125#8, 137#8, 117#8, 154#8, 212#8, 137#8, 125#8, 41#8, 101#8, 15#8, 184#8, 95#8, 155#8, 64#8, 148#8, 39#8, 235#8, 79#8, 73#8, 255#8, 253#8, 139#8, 253#8, 0#8, 0#8, 0#8, 0#8, 170#8, 172#8]
def TRn : Nat := 4002409555221667392624310435006688643935503118305586438271171395842971157480381377015405980053539358417135540939436
theorem THB_len : THB.length = 48 := rfl
theorem THB_n : BN THB 48 = TRn := by decide +kernel
theorem TRn_lt : TRn < PP := by decide +kernel
theorem FV_THB : FV THB = zp TRn := by rw [FV, if_pos ⟨THB_len, by rw [THB_n]; exact TRn_lt⟩, THB_n]
def WR : Zp := zp TRn
theorem pm_sx : pm 2 PP (64 * 6) sx + TRn = PP := by decide +kernel
theorem z_s0 (a : Zp) : a - 0 = a := by grind
theorem z_0s (a : Zp) : 0 - a = -a := by grind
theorem z_0a (a : Zp) : 0 + a = a := by grind
theorem z_n0 : -(0 : Zp) = 0 := neg_eq0.2 rfl
theorem neg_sum {a b : Zp} (h : a + b = 0) : -a = b := by grind
theorem WR_neg : -(zp 2 ^ sx) = WR := neg_sum (by
  rw [zp_pm 2 sx (64 * 6) (lt_R6 R6_def (by have := sx_val; have := PP_big; omega)), WR, ← zp_add, pm_sx, zp_PP])
theorem xi_sq : pw2 XI 2 = (0, zp 2) := by decide +kernel
theorem re_im (a b : Zp) : ml2 (a, 0) (0, b) = (0, a * b) := w2_ext (by simp only [ml2]; rw [z_m0, z_0m, z_s0]) (by simp only [ml2]; rw [z_m0, z_a0])
theorem im_im (a b : Zp) : ml2 (0, a) (0, b) = (-(a * b), 0) := w2_ext (by simp only [ml2]; rw [z_m0, z_0s]) (by simp only [ml2]; rw [z_0m, z_m0, z_a0])
theorem im_4 (c : Zp) : pw2 (0, c) 4 = (c ^ 4, 0) := by
  show ml2 (ml2 (ml2 (ml2 on2 (0, c)) (0, c)) (0, c)) (0, c) = _
  rw [show ml2 on2 (0, c) = (0, c) from R2.one_mul _, im_im, re_im, im_im]
  exact w2_ext (by grind) rfl
theorem im_3 (c : Zp) : pw2 (0, c) 3 = (0, -(c ^ 3)) := by
  show ml2 (ml2 (ml2 on2 (0, c)) (0, c)) (0, c) = _
  rw [show ml2 on2 (0, c) = (0, c) from R2.one_mul _, im_im, re_im]
  exact w2_ext rfl (by grind)
theorem im_4s (c : Zp) : ∀ s, pw2 (0, c) (4 * s) = (c ^ (4 * s), 0)
  | 0 => by show on2 = _; rw [Nat.mul_zero, p0]; rfl
  | s + 1 => by rw [Nat.mul_succ, pw2_add, im_4s c s, im_4, ml2_rr, padd]
theorem sx_four : 4 * (sx / 4) + 3 = sx := by decide +kernel
theorem im_3s (c : Zp) (s : Nat) : pw2 (0, c) (4 * s + 3) = (0, -(c ^ (4 * s + 3))) := by
  rw [pw2_add, im_4s, im_3, re_im, padd]
  exact w2_ext rfl (by grind)
theorem im_sx (c : Zp) : pw2 (0, c) sx = (0, -(c ^ sx)) := by
  have h := im_3s c (sx / 4)
  rw [sx_four] at h
  exact h
theorem g2_WR : g2 = (0, WR) := by
  have e : pw2 XI th = pw2 (pw2 XI 2) sx := by rw [← pw2_mul, Nat.mul_comm, th_sx]
  rw [g2, e, xi_sq, im_sx, WR_neg]
/-- What v is multiplied by. -/
def GW (n : Nat) : W2 := if n % 2 = 1 then (0, WR ^ n) else (WR ^ n, 0)
def cjn (n : Nat) (x : W2) : W2 := if n % 2 = 1 then cj2 x else x
theorem cj_re (a : Zp) : cj2 (a, 0) = (a, 0) := w2_ext rfl z_n0
theorem cj_im (a : Zp) : cj2 (0, a) = (0, -a) := rfl
theorem GW_0 : GW 0 = on2 := by rw [GW, if_neg (by decide), p0]; rfl
theorem GW_s (n : Nat) : ml2 (cj2 (GW n)) g2 = GW (n + 1) := by
  rw [g2_WR, GW, GW, ps]
  by_cases h : n % 2 = 1
  · rw [if_pos h, if_neg (by omega), cj_im, im_im]
    exact w2_ext (by grind) rfl
  · rw [if_neg h, if_pos (by omega), cj_re, re_im]
theorem cjn_s (n : Nat) (x : W2) : cj2 (cjn n x) = cjn (n + 1) x := by
  rw [cjn, cjn]
  by_cases h : n % 2 = 1
  · rw [if_pos h, if_neg (by omega), cj2_cj]
  · rw [if_neg h, if_pos (by omega)]
/-- A part of the power. -/
def frp (x : W2) (n k : Nat) : W2 := ml2 (cjn n x) (pw2 (GW n) k)
theorem frp_0 (x : W2) (n : Nat) : frp x n 0 = cjn n x := R2.mul_one _
theorem frp_1 (x : W2) (n : Nat) : frp x n 1 = ml2 (cjn n x) (GW n) := by rw [frp]; exact congrArg (ml2 (cjn n x)) (R2.one_mul _)
theorem frp_2 (x : W2) (n : Nat) : frp x n 2 = ml2 (cjn n x) (ml2 (GW n) (GW n)) := by rw [frp]; exact congrArg (fun y => ml2 (cjn n x) (ml2 y (GW n))) (R2.one_mul _)
theorem fr_mid (a b c : W2) : ml2 (ml2 a b) c = ml2 a (ml2 b c) := R2.mul_assoc a b c
theorem fr_sq (a b : W2) : ml2 (ml2 a a) (ml2 b b) = ml2 (ml2 a b) (ml2 a b) := Rg.same (R := R2) (ρ := ev R2 [a, b]) (tm (tm (tv 0) (tv 0)) (tm (tv 1) (tv 1))) (tm (tm (tv 0) (tv 1)) (tm (tv 0) (tv 1))) (by kernel_rfl)
theorem frn_eq (x : W6) : ∀ n, frn x n = (frp x.1 n 0, frp x.2.1 n 1, frp x.2.2 n 2)
  | 0 => by
    rw [frp_0, frp_1, frp_2, GW_0, show ml2 on2 on2 = on2 from R2.mul_one _]
    exact Prod.ext rfl (Prod.ext (R2.mul_one _).symm (R2.mul_one _).symm)
  | n + 1 => by
    rw [frn, frn_eq x n, fr6, frp_0, frp_1, frp_2, frp_0, frp_1, frp_2]
    refine Prod.ext (cjn_s n x.1) (Prod.ext ?_ ?_)
    · show ml2 (cj2 (ml2 (cjn n x.2.1) (GW n))) g2 = _
      rw [cj2_mul, cjn_s, fr_mid, GW_s]
    · show ml2 (cj2 (ml2 (cjn n x.2.2) (ml2 (GW n) (GW n)))) (ml2 g2 g2) = _
      rw [cj2_mul, cj2_mul, cjn_s, fr_mid, fr_sq, GW_s]
theorem tm6b (n : Int) : (n.tmod 6 + 6).tmod 6 = (((n % 6).toNat : Nat) : Int) := by
  have h : n.tmod 6 = n % 6 ∨ n.tmod 6 = n % 6 - 6 := by
    rw [Int.tmod_eq_emod]
    split
    · left; omega
    · right; rfl
  have e : (n.tmod 6 + 6).tmod 6 = (n.tmod 6 + 6) % 6 := by rw [Int.tmod_eq_emod_of_nonneg (by omega)]
  rw [e]
  omega
end Go.Proofs.YtbpifgcbkhohbaaDoor

namespace Go.Proofs.YtbpifgcbkhohbaaDoor
set_option maxRecDepth 100000
/-! ### The powers of p -/
theorem FR12_mul (x y : W12) : FR12 (K12.mul x y) = K12.mul (FR12 x) (FR12 y) := by
  rw [← frob12, ← frob12, ← frob12, K12.mul_pw]
theorem FR12_add (x y : W12) : FR12 (K12.add x y) = K12.add (FR12 x) (FR12 y) := by
  rw [← frob12, ← frob12, ← frob12, K12_frob]
def fn12 (x : W12) : Nat → W12
  | 0 => x
  | n + 1 => FR12 (fn12 x n)
theorem fn12_add (x : W12) (m : Nat) : ∀ n, fn12 x (m + n) = fn12 (fn12 x m) n
  | 0 => rfl
  | n + 1 => by rw [← Nat.add_assoc, fn12, fn12_add x m n]; rfl
theorem fn12_mul (x y : W12) : ∀ n, fn12 (K12.mul x y) n = K12.mul (fn12 x n) (fn12 y n)
  | 0 => rfl
  | n + 1 => by rw [fn12, fn12_mul x y n, FR12_mul]; rfl
/-- The parts times the powers of a number. -/
def sc12 (z : Zp) (x : W12) : W12 := ((ml2 x.1.1 (z ^ 0, 0), ml2 x.1.2.1 (z ^ 2, 0), ml2 x.1.2.2 (z ^ 4, 0)), (ml2 x.2.1 (z ^ 1, 0), ml2 x.2.2.1 (z ^ 3, 0), ml2 x.2.2.2 (z ^ 5, 0)))
theorem sc_two (c : W2) (a b : Zp) (k : Nat) : ml2 (ml2 c (b ^ k, 0)) (a ^ k, 0) = ml2 c ((a * b) ^ k, 0) := by
  rw [fr_mid, ml2_rr]
  have e : b ^ k * a ^ k = (a * b) ^ k := by
    induction k with
    | zero => rw [p0, p0, p0]; exact z_11
    | succ k ih => rw [ps, ps, ps, ← ih]; grind
  rw [e]
theorem sc12_sc (a b : Zp) (x : W12) : sc12 a (sc12 b x) = sc12 (a * b) x :=
  Prod.ext (Prod.ext (sc_two _ _ _ _) (Prod.ext (sc_two _ _ _ _) (sc_two _ _ _ _))) (Prod.ext (sc_two _ _ _ _) (Prod.ext (sc_two _ _ _ _) (sc_two _ _ _ _)))
def ZE : Zp := nm2 GA
theorem ZE_pw (k : Nat) : nm2 (pw2 GA k) = ZE ^ k := nm2_pw GA k
theorem ga_turn (c : W2) (k : Nat) : ml2 (cj2 (ml2 (cj2 c) (pw2 GA k))) (pw2 GA k) = ml2 c (ZE ^ k, 0) := by rw [cj_turn, ZE_pw]
theorem FR12_two (x : W12) : FR12 (FR12 x) = sc12 ZE x :=
  Prod.ext (Prod.ext (ga_turn _ _) (Prod.ext (ga_turn _ _) (ga_turn _ _))) (Prod.ext (ga_turn _ _) (Prod.ext (ga_turn _ _) (ga_turn _ _)))
theorem ZE_two : ZE = zp 2 ^ sx := by rw [ZE, GA, nm2_pw, xi_nm]
theorem sx_hf : sx * 3 = hf := by decide +kernel
theorem sq_one {a : Zp} (h : a * a = 1) (h1 : a ≠ 1) : a = -1 := by
  have e : (a - 1) * (a + 1) = 0 := by grind
  rcases zmul0 e with e | e
  · exact absurd (by grind) h1
  · grind
theorem hf_two : hf + hf = PP - 1 := by decide +kernel
theorem two_hfn : zp 2 ^ hf = -1 := sq_one (by rw [← padd, hf_two, fermat two_ne]) two_hf
theorem ZE_three : ZE * (ZE * ZE) = -1 := by
  have e : ZE * (ZE * ZE) = ZE ^ 3 := by generalize ZE = a; grind
  rw [e, ZE_two, ← pmul, sx_hf, two_hfn]
theorem fn12_sixZ (x : W12) : fn12 x 6 = sc12 (ZE * (ZE * ZE)) x := by
  show FR12 (FR12 (FR12 (FR12 (FR12 (FR12 x))))) = _
  rw [FR12_two x, FR12_two (sc12 ZE x), FR12_two, sc12_sc ZE ZE x, sc12_sc]
/-- The conjugate. -/
def cj12 (x : W12) : W12 := (x.1, K6.neg x.2)
theorem ev_one (c : W2) (n : Nat) : ml2 c ((-1 : Zp) ^ (2 * n), 0) = c := by
  have e : (-1 : Zp) ^ (2 * n) = 1 := by
    induction n with
    | zero => exact p0 _
    | succ n ih => rw [Nat.mul_succ, padd, ih]; generalize hm : (-1 : Zp) = a; have : a * a = 1 := by rw [← hm, z_nn, z_11]
                   grind
  rw [e]; exact R2.mul_one c
theorem od_one (c : W2) (n : Nat) : ml2 c ((-1 : Zp) ^ (2 * n + 1), 0) = ng2 c := by
  have e : ml2 c ((-1 : Zp) ^ (2 * n + 1), 0) = ml2 (ml2 c ((-1 : Zp) ^ (2 * n), 0)) (-1, 0) := by rw [fr_mid, ml2_rr, ps]
  rw [e, ev_one]
  generalize hm : (-1 : Zp) = a
  refine w2_ext ?_ ?_
  · show c.1 * a - c.2 * 0 = -c.1
    rw [z_m0, z_s0, ← hm]; grind
  · show c.1 * 0 + c.2 * a = -c.2
    rw [z_m0, z_0a, ← hm]; grind
theorem fn12_six (x : W12) : fn12 x 6 = cj12 x := by
  rw [fn12_sixZ, ZE_three]
  exact Prod.ext (Prod.ext (ev_one _ 0) (Prod.ext (ev_one _ 1) (ev_one _ 2))) (Prod.ext (od_one _ 0) (Prod.ext (od_one _ 1) (od_one _ 2)))
theorem cj12_cj (x : W12) : cj12 (cj12 x) = x := Prod.ext rfl (K6.neg_neg x.2)
theorem fn12_twelve (x : W12) : fn12 x 12 = x := by rw [show 12 = 6 + 6 from rfl, fn12_add, fn12_six, fn12_six, cj12_cj]
theorem fn12_mod (x : W12) (n : Nat) : fn12 x (n % 12) = fn12 x n := by
  have h : ∀ m, fn12 x (12 * m) = x := fun m => by
    induction m with
    | zero => rfl
    | succ m ih => rw [Nat.mul_succ, fn12_add, ih, fn12_twelve]
  have e : n = 12 * (n / 12) + n % 12 := by omega
  have e2 : fn12 x n = fn12 x (12 * (n / 12) + n % 12) := congrArg (fn12 x) e
  rw [e2, fn12_add, h]
/-! ### The conjugate's laws -/
theorem cj12_mul (x y : W12) : cj12 (K12.mul x y) = K12.mul (cj12 x) (cj12 y) := by rw [← fn12_six, ← fn12_six, ← fn12_six, fn12_mul]
theorem cj12_one : cj12 K12.one = K12.one := Prod.ext rfl K6.neg_zero
theorem cj12_norm (x : W12) : K12.mul x (cj12 x) = (qnm K6 VV x, K6.zero) := qnm_cj K6 VV x
theorem cj12_ne {x : W12} (h : x ≠ K12.zero) : cj12 x ≠ K12.zero := fun e => h (by rw [← cj12_cj x, e]; exact Prod.ext rfl K6.neg_zero)
theorem cj12_inv {x : W12} (h : x ≠ K12.zero) : cj12 (iv12 (cj12 x)) = iv12 x := by
  have h1 : K12.mul x (cj12 (iv12 (cj12 x))) = K12.one := by
    have e := congrArg cj12 (iv12_mul (cj12_ne h))
    rw [cj12_mul, cj12_cj, cj12_one] at e
    exact e
  exact K12.inv_one h1 (iv12_mul h)
/-- One divided by its conjugate. -/
theorem unit12 {x : W12} (h : x ≠ K12.zero) : K12.mul (cj12 (K12.mul x (iv12 (cj12 x)))) (K12.mul x (iv12 (cj12 x))) = K12.one := by
  rw [cj12_mul, cj12_inv h, K12.mul_comm x, K12.mul_four, iv12_mul (cj12_ne h), K12.one_mul, K12.mul_comm, iv12_mul h]
theorem K12_one_ne : K12.one ≠ K12.zero := by decide +kernel
theorem unit12_inv {u : W12} (h : K12.mul (cj12 u) u = K12.one) : cj12 u = iv12 u := by
  have hu : u ≠ K12.zero := fun e => K12_one_ne (by rw [← h, e, K12.mul_zero])
  exact K12.inv_one ((K12.mul_comm u (cj12 u)).trans h) (iv12_mul hu)
theorem sb12_eq (x y : W12) : ((sb6 x.1 y.1, sb6 x.2 y.2) : W12) = K12.add x (K12.neg y) := Prod.ext (sb6_eq _ _) (sb6_eq _ _)
def sb12 (x y : W12) : W12 := (sb6 x.1 y.1, sb6 x.2 y.2)
theorem sb12_add (x y : W12) : K12.add (sb12 x y) y = x := Prod.ext (sb6_add _ _) (sb6_add _ _)
theorem tvv {ρ : Nat → W6} {p : Po} {a : W6} (k : Nat) (ha : K6.d ρ p = a) (hk : ρ k = VV) : K6.d ρ (pmul' p (pv k)) = v6 a := by rw [K6.d_mul, ha, K6.d_var, hk]; exact v6_eq a
theorem tsb6 {ρ : Nat → W6} {p q : Po} {a b : W6} (ha : K6.d ρ p = a) (hb : K6.d ρ q = b) : K6.d ρ (padd' p (pneg' q)) = sb6 a b := by rw [K6.d_add, K6.d_neg, ha, hb, sb6_eq]
end Go.Proofs.YtbpifgcbkhohbaaDoor
