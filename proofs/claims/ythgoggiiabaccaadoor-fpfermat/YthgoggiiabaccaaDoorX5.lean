/-
  What is known of the package-level variables.
  Powers by digits of four bits, and by bits. Nothing here names a program.
  Signs, roots, numbers of many bytes: as functions of elements. Nothing here names a program.
  What the laws of layer 3 say of elements. Nothing here names a program.
-/
import Derived.Test.YthgoggiiabaccaaDoorX4
import Derived.Test.YthgoggiiabaccaaDoorRows
import Derived.Test.YthgoggiiabaccaaDoorX3
namespace Go.Proofs.YthgoggiiabaccaaDoor
open Go.RowKit
set_option maxRecDepth 100000
def IVP : List (BitVec 64) := [0xb9feffffffffaaa9#64, 0x1eabfffeb153ffff#64, 0x6730d2a0f6b0f624#64, 0x64774b84f38512bf#64, 0x4b1ba7b6434bacd7#64, 0x1a0111ea397fe69a#64]
def RTP : List (BitVec 64) := [0xee7fbfffffffeaab#64, 0x7aaffffac54ffff#64, 0xd9cc34a83dac3d89#64, 0xd91dd2e13ce144af#64, 0x92c6e9ed90d2eb35#64, 0x680447a8e5ff9a6#64]
def HFP : List (BitVec 64) := [0xdcff7fffffffd555#64, 0xf55ffff58a9ffff#64, 0xb39869507b587b12#64, 0xb23ba5c279c2895f#64, 0x258dd3db21a5d66b#64, 0xd0088f51cbff34d#64]
theorem IVP_val : V IVP 6 = PP - 2 := by decide +kernel
theorem RTP_val : V RTP 6 = (PP + 1) / 4 := by decide +kernel
theorem HFP_val : V HFP 6 = (PP - 1) / 2 := by decide +kernel
/-- The package-level variables read as the program's text lays them. -/
structure Gt (w : World) : Prop where
  g0 : w.rangeAt 0 0 (PL.map U64)
  g1 : w.rangeAt 1 0 (TWO.map U64)
  g2 : w.rangeAt 2 0 (IVP.map U64)
  g3 : w.rangeAt 3 0 (RTP.map U64)
  g4 : w.rangeAt 4 0 (HFP.map U64)
theorem range_same {w w' : World} {b : Nat} {cs : List Value} (hk : w'.heap[b]? = w.heap[b]?) (h : w.rangeAt b 0 cs) : w'.rangeAt b 0 cs := fun j v hv => by
  rw [World.cell?_of_block (w := w) hk]
  exact h j v hv
theorem gt_low : GLow Gt 5 where
  size := fun w h => by
    have := block_lt_of_cell (h.g4 0 _ (by rfl : (HFP.map U64)[0]? = some (U64 0xdcff7fffffffd555#64)))
    exact this
  same := fun w w' hk h => ⟨range_same (hk 0 (by omega)) h.g0, range_same (hk 1 (by omega)) h.g1, range_same (hk 2 (by omega)) h.g2, range_same (hk 3 (by omega)) h.g3, range_same (hk 4 (by omega)) h.g4⟩
theorem mixed : Tryd.prog.follows .mixedOrders = true := by kernel_rfl
end Go.Proofs.YthgoggiiabaccaaDoor

namespace Go.Proofs.YthgoggiiabaccaaDoor
set_option maxRecDepth 100000
/-- The digits of bytes, two a byte, the high one first; the number of the first ones. -/
def NBv (bs : List (BitVec 8)) (m : Nat) : BitVec 8 := if m % 2 = 0 then bs.getD (m / 2) 0 >>> 4 else bs.getD (m / 2) 0 % 16#8
theorem NBv_lt (bs : List (BitVec 8)) (m : Nat) : (NBv bs m).toNat < 16 := by
  have h := (bs.getD (m / 2) 0).isLt
  unfold NBv
  split
  · rw [BitVec.toNat_ushiftRight, Nat.shiftRight_eq_div_pow]; omega
  · rw [BitVec.toNat_umod]; exact Nat.mod_lt _ (by decide)
def DN (bs : List (BitVec 8)) : Nat → Nat
  | 0 => 0
  | m + 1 => 16 * DN bs m + (NBv bs m).toNat
theorem DN_two (bs : List (BitVec 8)) : ∀ k, DN bs (2 * k) = BN bs k
  | 0 => rfl
  | k + 1 => by
    have h := (bs.getD k 0).isLt
    have e0 : NBv bs (2 * k) = bs.getD k 0 >>> 4 := by
      rw [NBv, if_pos (by omega), show 2 * k / 2 = k by omega]
    have e1 : NBv bs (2 * k + 1) = bs.getD k 0 % 16#8 := by
      rw [NBv, if_neg (by omega), show (2 * k + 1) / 2 = k by omega]
    rw [show 2 * (k + 1) = 2 * k + 1 + 1 by omega, DN, DN, DN_two bs k, BN, e0, e1, BitVec.toNat_ushiftRight, Nat.shiftRight_eq_div_pow, BitVec.toNat_umod, show (16#8).toNat = 16 from rfl]
    omega
theorem sq_step (x : Zp) (j D : Nat) : x ^ (2 ^ j * D) * x ^ (2 ^ j * D) = x ^ (2 ^ (j + 1) * D) := by
  rw [← padd, Nat.pow_succ, show 2 ^ j * 2 * D = 2 ^ j * D + 2 ^ j * D by rw [Nat.mul_right_comm]; omega]
theorem dig_step (x : Zp) (bs : List (BitVec 8)) (k : Nat) : x ^ (2 ^ 4 * DN bs k) * x ^ (NBv bs k).toNat = x ^ DN bs (k + 1) := by
  rw [← padd, DN]
/-! ### Sixteen powers -/
def SP (x : Zp) (i : Nat) : List (BitVec 64) := FL (fun j => if j < i then fe (x ^ j) else List.replicate 6 0) 16
theorem SP_len (x : Zp) (i : Nat) : (SP x i).length = 96 := FL_len _ _
theorem SP_one (x : Zp) : FL (fun i => if i = 0 then fe 1 else List.replicate 6 0) 16 = SP x 1 := FL_congr fun i _ => by
  by_cases h : i = 0
  · rw [if_pos h, if_pos (by omega), h, p0]
  · rw [if_neg h, if_neg (by omega)]
theorem SP_load (x : Zp) (i k : Nat) (hk : k < i) (hi : i ≤ 16) (o : Nat) (ho : o = 6 * k) : ∀ j v, ((fe (x ^ k)).map U64)[j]? = some v → ((SP x i).map U64)[o + j]? = some v := by
  have h := FL_load (fun j => if j < i then fe (x ^ j) else List.replicate 6 0) 16 k (by omega) (by simp only [if_pos hk]; exact fe_len _) o ho
  simp only [if_pos hk] at h
  exact h
theorem SP_step (x : Zp) (i : Nat) (h1 : 1 ≤ i) (hi : i < 16) (o : Nat) (ho : o = 6 * i) : lay o ((fe (x ^ (i - 1) * x)).map U64) ((SP x i).map U64) = (SP x (i + 1)).map U64 := by
  rw [SP, FL_lay _ 16 i _ hi (fe_len _) o ho]
  congr 1
  refine FL_congr fun j _ => ?_
  by_cases h : j = i
  · rw [if_pos h, if_pos (by omega), h, ← ps, show i - 1 + 1 = i by omega]
  · rw [if_neg h]
    by_cases h' : j < i
    · rw [if_pos h', if_pos (by omega)]
    · rw [if_neg h', if_neg (by omega)]
end Go.Proofs.YthgoggiiabaccaaDoor

namespace Go.Proofs.YthgoggiiabaccaaDoor
set_option maxRecDepth 100000
theorem low_bit (l : List (BitVec 64)) : (l.getD 0 0).toNat % 2 = V l 6 % 2 := by
  have h := V_bit l 6 0 (by decide)
  rw [Nat.testBit_zero, Nat.zero_div, Nat.zero_mod, BitVec.getLsbD, Nat.testBit_zero] at h
  have h' := decide_eq_decide.1 h
  omega
theorem odd_eq (x : Zp) : ((nm x).getD 0 0 % 2#64 == 1#64) = decide (x.val % 2 = 1) := by
  have h := low_bit (nm x)
  rw [V_nm] at h
  rw [← h]
  by_cases e : (nm x).getD 0 0 % 2#64 = 1#64
  · have := congrArg BitVec.toNat e
    rw [BitVec.toNat_umod] at this
    rw [beq_iff_eq.2 e, decide_eq_true]
    exact this
  · rw [beq_eq_false_iff_ne.2 e, decide_eq_false]
    intro h'
    apply e
    apply BitVec.eq_of_toNat_eq
    rw [BitVec.toNat_umod]
    exact h'
theorem odd_and (x : Zp) : decide ((nm x).getD 0 0 &&& 1#64 = 1#64) = decide (x.val % 2 = 1) := by
  have h := low_bit (nm x)
  rw [V_nm] at h
  rw [← h]
  apply decide_eq_decide.2
  constructor
  · intro e
    have := congrArg BitVec.toNat e
    rw [BitVec.toNat_and, show (1#64).toNat = 1 from rfl, Nat.and_one_is_mod] at this
    exact this
  · intro e
    apply BitVec.eq_of_toNat_eq
    rw [BitVec.toNat_and, show (1#64).toNat = 1 from rfl, Nat.and_one_is_mod]
    exact e
def hf : Nat := (PP - 1) / 2
def rg : Nat := (PP + 1) / 4
theorem PP_mod : PP % 4 = 3 := by decide +kernel
theorem PP_big : 1000 < PP := by decide +kernel
theorem hf_val : 2 * hf + 1 = PP := by have := PP_mod; unfold hf; omega
theorem rg_val : 4 * rg = PP + 1 := by have := PP_mod; unfold rg; omega
theorem hf_odd : hf % 2 = 1 := by have := PP_mod; have := hf_val; omega
theorem rg_hf : 2 * rg = hf + 1 := by have := rg_val; have := hf_val; omega
theorem large_eq (x : Zp) : LT HFP (nm x) 6 = decide (hf < x.val) := by rw [LT_val, V_nm, HFP_val]; rfl
theorem pow_eq0 {x : Zp} : ∀ {n : Nat}, x ^ (n + 1) = 0 → x = 0
  | 0, h => by rw [p1] at h; exact h
  | n + 1, h => by
    rw [ps] at h
    rcases zmul0 h with h | h
    · exact pow_eq0 h
    · exact h
theorem hf_pos : ∃ n, hf = n + 1 := ⟨hf - 1, by have := hf_val; have := PP_big; omega⟩
theorem hf_zero (x : Zp) : x ^ hf = 0 ↔ x = 0 := by
  obtain ⟨n, hn⟩ := hf_pos
  rw [hn]
  exact ⟨pow_eq0, fun h => by rw [h, zerop]⟩
def LEG (x : Zp) : Int := if x = 0 then 0 else if x ^ hf = 1 then 1 else -1
def SQr (x : Zp) : Zp := x ^ rg
def SQn (x : Zp) : Zp := if hf < (SQr x).val then -(SQr x) else SQr x
def SQ (x : Zp) : Zp := if SQr x * SQr x = x then SQn x else 0
/-- Bytes that are an element's. -/
def FO (bs : List (BitVec 8)) : Bool := decide (bs.length = 48 ∧ BN bs 48 < PP)
def FV (bs : List (BitVec 8)) : Zp := if bs.length = 48 ∧ BN bs 48 < PP then zp (BN bs 48) else 0
def ZB (bs : List (BitVec 8)) : Zp := zp (BN bs bs.length)
theorem R6_256g {k : Nat} (h : R6 = 2 ^ k) (hk : k = 8 * 48) : R6 = 256 ^ 48 := by rw [pow256, h, hk]
theorem R6_256 : R6 = 256 ^ 48 := R6_256g R6_def rfl
theorem wide_step (bs : List (BitVec 8)) (k cut : Nat) (h : k = 0 ∨ cut = 48) : zp (BN bs k) * RZ + zp (BN (bs.drop k) cut) = zp (BN bs (k + cut)) := by
  rw [BN_add bs k cut, zp_add, zp_mul]
  rcases h with rfl | rfl
  · rw [BN, zp_0]; grind
  · rw [← R6_256]; rfl
theorem cut_of {n : Nat} (h0 : 0 < n) (h : n % 48 = 0) : (n - 1) % 48 + 1 = 48 := by omega
theorem cut_rest {n : Nat} (h0 : 0 < n) : (n - ((n - 1) % 48 + 1)) % 48 = 0 ∧ (n - 1) % 48 + 1 ≤ n ∧ (n - 1) % 48 + 1 ≤ 48 := by omega
theorem BN_take (bs : List (BitVec 8)) (n : Nat) : BN (bs.take n) n = BN bs n := BN_congr n fun i hi => by
  rw [List.getD_eq_getElem?_getD, List.getD_eq_getElem?_getD, List.getElem?_take, if_pos hi]
end Go.Proofs.YthgoggiiabaccaaDoor

namespace Go.Proofs.YthgoggiiabaccaaDoor
set_option maxRecDepth 100000
theorem neg_val {a : Zp} (h : a ≠ 0) : (-a).val = PP - a.val := by
  have h0 : a.val ≠ 0 := fun e => h (Fin.ext e)
  have hl := a.isLt
  have e : zp (PP - a.val) + a = 0 := by
    have : zp (PP - a.val) + zp a.val = 0 := by rw [← zp_add, show PP - a.val + a.val = PP by omega, zp_PP]
    rw [zp_of] at this
    exact this
  have e2 : -a = zp (PP - a.val) := by grind
  rw [e2, zp_val, Nat.mod_eq_of_lt (by omega)]
theorem sgn_odd {a : Zp} (h : ¬ a = 0) : (decide (a.val % 2 = 1) != decide ((-a).val % 2 = 1)) = true := by
  have hl := a.isLt
  have hp := PP_mod
  rw [neg_val h]
  by_cases h1 : a.val % 2 = 1
  · rw [decide_eq_true h1, decide_eq_false (by omega)]; rfl
  · rw [decide_eq_false h1, decide_eq_true (by omega)]; rfl
theorem sgn_large {a : Zp} (h : ¬ a = 0) : (decide (hf < a.val) != decide (hf < (-a).val)) = true := by
  have hl := a.isLt
  have hp := hf_val
  rw [neg_val h]
  by_cases h1 : hf < a.val
  · rw [decide_eq_true h1, decide_eq_false (by omega)]; rfl
  · rw [decide_eq_false h1, decide_eq_true (by omega)]; rfl
theorem odd_0 {a : Zp} (h : a = 0) : decide (a.val % 2 = 1) = false := by
  rw [h]; rfl
theorem large_0 {a : Zp} (h : a = 0) : decide (hf < a.val) = false := by
  rw [h]; exact decide_eq_false (Nat.not_lt_zero _)
theorem inv_0 : (0 : Zp) ^ (PP - 2) = 0 := by
  rw [show PP - 2 = (PP - 3) + 1 by have := PP_big; omega]; exact zerop _
/-- The half power of a square but 0. -/
theorem fermat2 {a : Zp} (h : a ≠ 0) : a ^ hf * a ^ hf = 1 := by
  rw [← padd, show hf + hf = PP - 1 by have := hf_val; omega, fermat h]
theorem half_or {a : Zp} (h : a ≠ 0) : a ^ hf = 1 ∨ a ^ hf = -1 := by
  have e := fermat2 h
  have : (a ^ hf - 1) * (a ^ hf + 1) = 0 := by grind
  rcases zmul0 this with h | h
  · left; grind
  · right; grind
theorem one_neg : ¬ (1 : Zp) = -1 := fun h => by
  have h2 : (1 : Zp) + 1 = 0 := (congrArg (fun z => z + (1 : Zp)) h).trans (by grind)
  have h3 := congrArg Fin.val h2
  rw [Fin.val_add, show (1 : Zp).val = 1 % PP from rfl, Nat.mod_eq_of_lt pr_p.1, Nat.mod_eq_of_lt (by have := PP_big; omega)] at h3
  cases h3
theorem sq_root (a : Zp) : SQr a * SQr a = a ^ hf * a := by rw [SQr, ← padd, ← Nat.two_mul, rg_hf, ps]
theorem eq_neg {a b : Zp} (h : a + b = 0) : a = -b := by grind
/-- Just squares, and 0, have roots. -/
theorem root_iff (a : Zp) : SQr a * SQr a = a ↔ 0 ≤ LEG a := by
  rw [sq_root, LEG]
  by_cases h : a = 0
  · rw [if_pos h, h]
    exact ⟨fun _ => by decide, fun _ => by grind⟩
  · rw [if_neg h]
    rcases half_or h with h1 | h1
    · rw [if_pos h1, h1]
      exact ⟨fun _ => by decide, fun _ => by grind⟩
    · rw [if_neg (fun e => one_neg (e.symm.trans h1)), h1]
      refine ⟨fun e => ?_, fun e => absurd e (by decide)⟩
      exfalso
      apply h
      have h2 : (1 + 1) * a = 0 := by grind
      rcases zmul0 h2 with h3 | h3
      · exact absurd (eq_neg h3) one_neg
      · exact h3
theorem SQ_sq {a : Zp} (h : SQr a * SQr a = a) : SQ a * SQ a = a := by
  rw [SQ, if_pos h, SQn]
  split
  · grind
  · exact h
theorem SQ_small {a : Zp} (h : SQr a * SQr a = a) : ¬ hf < (SQ a).val := by
  rw [SQ, if_pos h, SQn]
  split
  · rename_i h1
    have h0 : SQr a ≠ 0 := fun e => by rw [e] at h1; exact absurd h1 (Nat.not_lt_zero _)
    rw [neg_val h0]
    have := hf_val
    omega
  · rename_i h1; exact h1
/-- A square has a root: itself, or its opposite. -/
theorem sq_has (a : Zp) : SQr (a * a) * SQr (a * a) = a * a := by
  rw [sq_root]
  by_cases h : a = 0
  · rw [h]; grind
  · rw [mpow, fermat2 h]; grind
theorem sq_eq {x y : Zp} (h : x * x = y * y) : x = y ∨ x = -y := by
  have : (x - y) * (x + y) = 0 := by grind
  rcases zmul0 this with h | h
  · left; grind
  · right; grind
theorem SQ_of (a : Zp) : SQ (a * a) = a ∨ SQ (a * a) = -a := sq_eq (SQ_sq (sq_has a))
theorem neg_odd (a : Zp) (n : Nat) : (-a) ^ (2 * n + 1) = -(a ^ (2 * n + 1)) := by
  rw [ps, ps, pmul, pmul, show (-a) ^ 2 = a ^ 2 by grind]; grind
theorem neg_hf (a : Zp) : (-a) ^ hf = -(a ^ hf) := by
  obtain ⟨n, hn⟩ : ∃ n, hf = 2 * n + 1 := ⟨hf / 2, by have := hf_odd; omega⟩
  rw [hn]; exact neg_odd a n
theorem LEG_neg (a : Zp) : LEG a * LEG (-a) ≤ 0 := by
  by_cases h : a = 0
  · rw [LEG, if_pos h, Int.zero_mul]; exact Int.le_refl _
  · have hn : ¬ -a = 0 := fun e => h (by grind)
    rw [LEG, LEG, if_neg h, if_neg hn, neg_hf]
    rcases half_or h with h1 | h1
    · rw [if_pos h1, h1, if_neg (fun e => one_neg e.symm)]; decide
    · rw [if_neg (fun e => one_neg (e.symm.trans h1)), h1, if_pos (show -(-1 : Zp) = 1 by grind)]; decide
theorem LEG_in (a : Zp) : LEG a = 0 ∨ LEG a = 1 ∨ LEG a = -1 := by
  rw [LEG]
  split
  · exact .inl rfl
  · split
    · exact .inr (.inl rfl)
    · exact .inr (.inr rfl)
/-- Halves. -/
theorem two_ne : zp 2 ≠ 0 := fun h => by
  have := congrArg Fin.val h
  rw [zp_val, Nat.mod_eq_of_lt (by have := PP_big; omega)] at this
  cases this
theorem zp_24 : zp 4 = zp 2 * zp 2 ∧ zp 2 = 1 + 1 := ⟨zp_mul 2 2, zp_add 1 1⟩
theorem disc (a b : Zp) : (a + b) * (a + b) - a * b * zp 4 = (a - b) * (a - b) := by
  rw [zp_24.1, zp_24.2]; grind
theorem solve {a b d : Zp} (hd : d = a - b ∨ d = -(a - b)) : ((a + b + d) * zp 2 ^ (PP - 2) = a ∧ (a + b - d) * zp 2 ^ (PP - 2) = b) ∨ ((a + b + d) * zp 2 ^ (PP - 2) = b ∧ (a + b - d) * zp 2 ^ (PP - 2) = a) := by
  have h := zinv two_ne
  generalize zp 2 ^ (PP - 2) = i at h
  rw [zp_24.2] at h
  rcases hd with rfl | rfl
  · left; constructor <;> grind
  · right; constructor <;> grind
end Go.Proofs.YthgoggiiabaccaaDoor
