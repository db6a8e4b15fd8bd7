/-
 What is known of the package-level variables.
 Powers by digits of four bits, and by bits. Nothing here names a program.
 Signs, roots, numbers of many bytes: as functions of elements. Nothing here names a program.
 What the laws of layer 3 say of elements. Nothing here names a program.
 The field of p^2 elements: a + b i. Nothing here names a program.
 What the walks of package fp2 meet: signs, powers, roots. Nothing here names a program.
 The fields of p^6 and p^12 elements, over pairs: that they are fields; the power of p. Nothing here names a program.
 Inverses in the fields of p^6 and p^12 elements, as the reference reckons them. Nothing here names a program.
 Elements of fp6 among those of six parts. Nothing here names a program.
 The curves; the generator's order. Nothing here names a program.
 Curves over two fields, one in the other: points, sums, times. Nothing here names a program.
 Points: when a sum is none; times and the order; the generator. Nothing here names a program.
 Bits of bytes by masks. Nothing here names a program.
 The first curve's points of the order r: turned by a third root of 1. Nothing here names a program.
 The second curve; its generator's order. Nothing here names a program.
 The second curve: nine times the generator; a point's numbers as the reference holds them. Nothing here names a program.
 The second curve's points of the order r: over the field of p^12 elements. Nothing here names a program.
 The second curve's points of the order r: conjugates, turned. Nothing here names a program.
 Short forms of the engine's steps, by types.
-/
import Derived.Test.YtpnpiblphnpfiaaGreatDoorX4
import Derived.Test.YtpnpiblphnpfiaaGreatDoorRows
import Derived.Test.YtpnpiblphnpfiaaGreatDoorX3
import Derived.Test.YtpnpiblphnpfiaaGreatDoorX1
import Derived.Test.YtpnpiblphnpfiaaGreatDoorX2
set_option maxRecDepth 100000
set_option maxHeartbeats 1000000
namespace Go.Proofs.YtpnpiblphnpfiaaGreatDoor
section
open Go.RowKit
def IVP : List (BitVec 64) := [0xb9feffffffffaaa9#64, 0x1eabfffeb153ffff#64, 0x6730d2a0f6b0f624#64, 0x64774b84f38512bf#64, 0x4b1ba7b6434bacd7#64, 0x1a0111ea397fe69a#64]
def HFP : List (BitVec 64) := [0xdcff7fffffffd555#64, 0xf55ffff58a9ffff#64, 0xb39869507b587b12#64, 0xb23ba5c279c2895f#64, 0x258dd3db21a5d66b#64, 0xd0088f51cbff34d#64]
def RTP : List (BitVec 64) := [0xee7fbfffffffeaab#64, 0x7aaffffac54ffff#64, 0xd9cc34a83dac3d89#64, 0xd91dd2e13ce144af#64, 0x92c6e9ed90d2eb35#64, 0x680447a8e5ff9a6#64]
theorem yc : V IVP 6 = PP - 2 := by decide +kernel
structure Gt (w : World) : Prop where
 g0 : w.rangeAt 0 0 (TWO.map U64)
 g1 : w.rangeAt 1 0 (LIFT.map U64)
 g2 : w.rangeAt 2 0 (ML.map U64)
 g3 : w.rangeAt 3 0 (PL.map U64)
 g4 : w.rangeAt 4 0 (IVP.map U64)
theorem d8 {w w' : World} {b : Nat} {cs : List Value} (hk : w'.heap[b]? = w.heap[b]?) (h : w.rangeAt b 0 cs) : w'.rangeAt b 0 cs := fun j v hv => by
 rw [World.cell?_of_block (w := w) hk]
 exact h j v hv
theorem gt_low : GLow Gt 5 where
 size := fun w h => by
  have := block_lt_of_cell (h.g4 0 _ (by rfl : (IVP.map U64)[0]? = some (U64 0xb9feffffffffaaa9#64)))
  exact this
 same := fun w w' hk h => ⟨d8 (hk 0 (by omega)) h.g0, d8 (hk 1 (by omega)) h.g1, d8 (hk 2 (by omega)) h.g2, d8 (hk 3 (by omega)) h.g3, d8 (hk 4 (by omega)) h.g4⟩
theorem bi : Tryz.prog.follows .mixedOrders = true := by kernel_rfl
end
section
def NBv (bs : List (BitVec 8)) (m : Nat) : BitVec 8 := if m % 2 = 0 then bs.getD (m / 2) 0 >>> 4 else bs.getD (m / 2) 0 % 16#8
theorem CW (bs : List (BitVec 8)) (m : Nat) : (NBv bs m).toNat < 16 := by
 have h := (bs.getD (m / 2) 0).isLt
 unfold NBv
 split
 ·rw [BitVec.toNat_ushiftRight, Nat.shiftRight_eq_div_pow]; omega
 ·rw [BitVec.toNat_umod]; exact Nat.mod_lt _ (by decide)
def DN (bs : List (BitVec 8)) : Nat → Nat
 | 0 => 0
 | m + 1 => 16 * DN bs m + (NBv bs m).toNat
theorem vE (bs : List (BitVec 8)) : ∀ k, DN bs (2 * k) = BN bs k
 | 0 => rfl
 | k + 1 => by
  have h := (bs.getD k 0).isLt
  have e0 : NBv bs (2 * k) = bs.getD k 0 >>> 4 := by
   rw [NBv, if_pos (by omega), show 2 * k / 2 = k by omega]
  have e1 : NBv bs (2 * k + 1) = bs.getD k 0 % 16#8 := by
   rw [NBv, if_neg (by omega), show (2 * k + 1) / 2 = k by omega]
  rw [show 2 * (k + 1) = 2 * k + 1 + 1 by omega, DN, DN, vE bs k, BN, e0, e1, BitVec.toNat_ushiftRight, Nat.shiftRight_eq_div_pow, BitVec.toNat_umod, show (16#8).toNat = 16 from rfl]
  omega
theorem yT (x : Zp) (j D : Nat) : x ^ (2 ^ j * D) * x ^ (2 ^ j * D) = x ^ (2 ^ (j + 1) * D) := by
 rw [← lg, Nat.pow_succ, show 2 ^ j * 2 * D = 2 ^ j * D + 2 ^ j * D by rw [Nat.mul_right_comm]; omega]
theorem w7 (x : Zp) (bs : List (BitVec 8)) (k : Nat) : x ^ (2 ^ 4 * DN bs k) * x ^ (NBv bs k).toNat = x ^ DN bs (k + 1) := by
 rw [← lg, DN]
/-! ### Sixteen powers -/
def SP (x : Zp) (i : Nat) : List (BitVec 64) := FL (fun j => if j < i then fe (x ^ j) else List.replicate 6 0) 16
theorem a9 (x : Zp) (i : Nat) : (SP x i).length = 96 := aR _ _
theorem Cu (x : Zp) : FL (fun i => if i = 0 then fe 1 else List.replicate 6 0) 16 = SP x 1 := nJ fun i _ => by
 by_cases h : i = 0
 ·rw [if_pos h, if_pos (by omega), h, p0]
 ·rw [if_neg h, if_neg (by omega)]
theorem mE (x : Zp) (i k : Nat) (hk : k < i) (hi : i ≤ 16) (o : Nat) (ho : o = 6 * k) : ∀ j v, ((fe (x ^ k)).map U64)[j]? = some v → ((SP x i).map U64)[o + j]? = some v := by
 have h := zj (fun j => if j < i then fe (x ^ j) else List.replicate 6 0) 16 k (by omega) (by simp only [if_pos hk]; exact aL _) o ho
 simp only [if_pos hk] at h
 exact h
theorem yw (x : Zp) (i : Nat) (h1 : 1 ≤ i) (hi : i < 16) (o : Nat) (ho : o = 6 * i) : lay o ((fe (x ^ (i - 1) * x)).map U64) ((SP x i).map U64) = (SP x (i + 1)).map U64 := by
 rw [SP, u0 _ 16 i _ hi (aL _) o ho]
 congr 1
 refine nJ fun j _ => ?_
 by_cases h : j = i
 ·rw [if_pos h, if_pos (by omega), h, ← ps, show i - 1 + 1 = i by omega]
 ·rw [if_neg h]
  by_cases h' : j < i
  ·rw [if_pos h', if_pos (by omega)]
  ·rw [if_neg h', if_neg (by omega)]
end
section
def hf : Nat := (PP - 1) / 2
def rg : Nat := (PP + 1) / 4
theorem mN : PP % 4 = 3 := by decide +kernel
theorem iY : 1000 < PP := by decide +kernel
theorem jU : 2 * hf + 1 = PP := by have := mN; unfold hf; omega
theorem A2 : 4 * rg = PP + 1 := by have := mN; unfold rg; omega
theorem BE : hf % 2 = 1 := by have := mN; have := jU; omega
theorem Ft : 2 * rg = hf + 1 := by have := A2; have := jU; omega
theorem DY : ∃ n, hf = n + 1 := ⟨hf - 1, by have := jU; have := iY; omega⟩
def SQr (x : Zp) : Zp := x ^ rg
def SQn (x : Zp) : Zp := if hf < (SQr x).val then -(SQr x) else SQr x
def SQ (x : Zp) : Zp := if SQr x * SQr x = x then SQn x else 0
def FO (bs : List (BitVec 8)) : Bool := decide (bs.length = 48 ∧ BN bs 48 < PP)
def FV (bs : List (BitVec 8)) : Zp := if bs.length = 48 ∧ BN bs 48 < PP then zp (BN bs 48) else 0
end
section
theorem rK {a : Zp} (h : a ≠ 0) : a ^ hf * a ^ hf = 1 := by
 rw [← lg, show hf + hf = PP - 1 by have := jU; omega, fermat h]
theorem xv : ¬ (1 : Zp) = -1 := fun h => by
 have h2 : (1 : Zp) + 1 = 0 := (congrArg (fun z => z + (1 : Zp)) h).trans (by grind)
 have h3 := congrArg Fin.val h2
 rw [Fin.val_add, show (1 : Zp).val = 1 % PP from rfl, Nat.mod_eq_of_lt pr_p.1, Nat.mod_eq_of_lt (by have := iY; omega)] at h3
 cases h3
theorem rE (a : Zp) : SQr a * SQr a = a ^ hf * a := by rw [SQr, ← lg, ← Nat.two_mul, Ft, ps]
theorem BB (a : Zp) : SQr (a * a) * SQr (a * a) = a * a := by
 rw [rE]
 by_cases h : a = 0
 ·rw [h]; grind
 ·rw [Db, rK h]; grind
theorem x9 (a : Zp) (n : Nat) : (-a) ^ (2 * n + 1) = -(a ^ (2 * n + 1)) := by
 rw [ps, ps, ww, ww, show (-a) ^ 2 = a ^ 2 by grind]; grind
theorem A1 (a : Zp) : (-a) ^ hf = -(a ^ hf) := by
 obtain ⟨n, hn⟩ : ∃ n, hf = 2 * n + 1 := ⟨hf / 2, by have := BE; omega⟩
 rw [hn]; exact x9 a n
theorem qo : zp 2 ≠ 0 := fun h => by
 have := congrArg Fin.val h
 rw [de, Nat.mod_eq_of_lt (by have := iY; omega)] at this
 cases this
theorem Eh : zp 4 = zp 2 * zp 2 ∧ zp 2 = 1 + 1 := ⟨gV 2 2, d6 1 1⟩
end
section
abbrev W2 := Zp × Zp
def ad2 (x y : W2) : W2 := (x.1 + y.1, x.2 + y.2)
def ng2 (x : W2) : W2 := (-x.1, -x.2)
def sb2 (x y : W2) : W2 := (x.1 - y.1, x.2 - y.2)
def ml2 (x y : W2) : W2 := (x.1 * y.1 - x.2 * y.2, x.1 * y.2 + x.2 * y.1)
def cj2 (x : W2) : W2 := (x.1, -x.2)
def sc2 (x : W2) (c : Zp) : W2 := (x.1 * c, x.2 * c)
def xi2 (x : W2) : W2 := (x.1 - x.2, x.1 + x.2)
def nm2 (x : W2) : Zp := x.1 * x.1 + x.2 * x.2
def iv2 (x : W2) : W2 := (x.1 * nm2 x ^ (PP - 2), -x.2 * nm2 x ^ (PP - 2))
def on2 : W2 := (1, 0)
def ze2 : W2 := (0, 0)
theorem bn {x y : W2} (h1 : x.1 = y.1) (h2 : x.2 = y.2) : x = y := Prod.ext h1 h2
def R2 : Rg W2 where
 zero := ze2
 one := on2
 add := ad2
 mul := ml2
 neg := ng2
 add_assoc := fun a b c => bn (by simp only [ad2]; grind) (by simp only [ad2]; grind)
 add_comm := fun a b => bn (by simp only [ad2]; grind) (by simp only [ad2]; grind)
 add_zero := fun a => bn (by simp only [ad2, ze2]; grind) (by simp only [ad2, ze2]; grind)
 add_neg := fun a => bn (by simp only [ad2, ng2, ze2]; grind) (by simp only [ad2, ng2, ze2]; grind)
 mul_assoc := fun a b c => bn (by simp only [ml2]; grind) (by simp only [ml2]; grind)
 mul_comm := fun a b => bn (by simp only [ml2]; grind) (by simp only [ml2]; grind)
 mul_one := fun a => bn (by simp only [ml2, on2]; grind) (by simp only [ml2, on2]; grind)
 mul_add := fun a b c => bn (by simp only [ml2, ad2]; grind) (by simp only [ml2, ad2]; grind)
theorem gQ (x y : W2) : sb2 x y = ad2 x (ng2 y) := bn (by simp only [sb2, ad2, ng2]; grind) (by simp only [sb2, ad2, ng2]; grind)
theorem vv (x : W2) : xi2 x = ml2 x (1, 1) := bn (by simp only [xi2, ml2]; grind) (by simp only [xi2, ml2]; grind)
theorem jv (x y : W2) : nm2 (ml2 x y) = nm2 x * nm2 y := by simp only [nm2, ml2]; grind
theorem B0 (x : W2) : ml2 x (cj2 x) = (nm2 x, 0) := bn (by simp only [ml2, cj2, nm2]; grind) (by simp only [ml2, cj2]; grind)
theorem gI (x y : W2) : cj2 (ml2 x y) = ml2 (cj2 x) (cj2 y) := bn (by simp only [ml2, cj2]; grind) (by simp only [ml2, cj2]; grind)
theorem yO (x y : W2) : cj2 (ad2 x y) = ad2 (cj2 x) (cj2 y) := bn (by simp only [ad2, cj2]) (by simp only [ad2, cj2]; grind)
/-! ### -1 is no square -/
theorem r4 {a : Zp} (h : a ≠ 0) : (a * a) ^ hf = 1 := by rw [Db, rK h]
theorem s4 {a : Zp} (h : 0 = -a) : a = 0 := by grind
theorem mo (a : Zp) : a * 1 = a := by grind
theorem z0 (a : Zp) : -(-a) = a := by grind
theorem fR (a : Zp) : a * 0 = 0 := by grind
theorem FQ {a b : Zp} (h : a * a + b * b = 0) : b = 0 := by
 by_cases hb : b = 0
 ·exact hb
 ·exfalso
  have e : a * a = -(b * b) := by grind
  have e2 : (a * a) ^ hf = -1 := by rw [e, A1, r4 hb]
  by_cases ha : a = 0
  ·obtain ⟨n, hn⟩ := DY
   rw [ha, fR, hn, Ar] at e2
   exact mr (s4 e2)
  ·rw [r4 ha] at e2
   exact xv e2
theorem vR {x : W2} (h : nm2 x = 0) : x = ze2 := by
 have h1 := FQ h
 have h2 := FQ (a := x.2) (b := x.1) (by rw [← h]; simp only [nm2]; grind)
 exact bn h2 h1
theorem DF {x : W2} (h : x ≠ ze2) : nm2 x ≠ 0 := fun e => h (vR e)
theorem jy {x : W2} (h : x ≠ ze2) : ml2 x (iv2 x) = on2 := by
 have hz := u3 (DF h)
 have e : nm2 x = x.1 * x.1 + x.2 * x.2 := rfl
 have k : ∀ j : Zp, nm2 x * j = 1 → ml2 x (x.1 * j, -x.2 * j) = on2 := fun j hj => by
  rw [e] at hj
  refine bn ?_ ?_
  ·simp only [ml2, on2]; grind
  ·simp only [ml2, on2]; grind
 exact k _ hz
/-! ### Powers -/
def pw2 (x : W2) (n : Nat) : W2 := R2.pw x n
theorem im (x : W2) (n : Nat) : pw2 x (n + 1) = ml2 (pw2 x n) x := rfl
theorem ic (x : W2) (m n : Nat) : pw2 x (m + n) = ml2 (pw2 x m) (pw2 x n) := R2.pw_add x m n
theorem qE (x : W2) (m n : Nat) : pw2 x (m * n) = pw2 (pw2 x m) n := R2.pw_mul x m n
theorem y6 (x y : W2) (n : Nat) : pw2 (ml2 x y) n = ml2 (pw2 x n) (pw2 y n) := R2.mul_pw x y n
theorem p8 (a : Zp) : 0 * a = 0 := by grind
theorem A4 : (0 : Zp) + 0 = 0 := by simp
theorem mt (a b : Zp) : ml2 (a, 0) (b, 0) = (a * b, 0) := bn (by simp only [ml2]; grind) (by simp only [ml2]; rw [fR, p8, A4])
theorem Dc (a b : Zp) : ml2 (a, 0) (0, b) = (0, a * b) := bn (by simp only [ml2]; rw [fR, p8]; simp) (by simp only [ml2]; grind)
theorem uH (a b : Zp) : ml2 (0, a) (0, b) = (-(a * b), 0) := bn (by simp only [ml2]; grind) (by simp only [ml2]; rw [fR, p8, A4])
theorem nB : (1 : Zp) * 1 = 1 := mo 1
theorem z_nn (a : Zp) : -a * -a = a * a := by grind
theorem pR (a : Zp) : ∀ n, pw2 (a, 0) n = (a ^ n, 0)
 | 0 => bn (p0 a).symm rfl
 | n + 1 => by rw [im, pR a n, mt, ps]
theorem Gb : pw2 (0, 1) PP = (0, -1) := by
 have h1 : pw2 (0, 1) 1 = (0, 1) := R2.pw_one _
 have h2 : pw2 (0, 1) 2 = (-1, 0) := by rw [im, h1, uH, nB]
 have h3 : pw2 (0, 1) 3 = (0, -1) := by rw [im, h2, Dc, mo]
 have h4 : pw2 (0, 1) 4 = on2 := by rw [im, h3, uH, mo, z0]; rfl
 obtain ⟨k, hk⟩ : ∃ k, PP = 4 * k + 3 := ⟨PP / 4, by have := mN; omega⟩
 have e : pw2 (0, 1) PP = pw2 (0, 1) (4 * k + 3) := congrArg (fun n => pw2 (0, 1) n) hk
 have h5 : pw2 on2 k = on2 := R2.one_pw k
 rw [e, ic, qE, h4, h3, h5]
 exact R2.one_mul _
theorem wR (a : Zp) : a ^ PP = a := by
 by_cases h : a = 0
 ·rw [h]; exact Ar PQ
 ·have e : a ^ PP = a ^ (PP - 1 + 1) := congrArg (fun n => a ^ n) (show PQ + 1 = PQ + 1 - 1 + 1 from rfl)
  rw [e, ps, fermat h]; grind
theorem oT : ∀ n, R2.nat n = (zp n, 0)
 | 0 => rfl
 | n + 1 => by
  show ad2 (R2.nat n) on2 = _
  rw [oT n]
  exact bn (by simp only [ad2, on2]; rw [d6, zp_1]) A4
theorem v5 (x : W2) : pw2 x PP = cj2 x := by
 have e : x = ad2 (x.1, 0) (ml2 (x.2, 0) (0, 1)) := bn (by simp only [ad2, ml2]; grind) (by simp only [ad2, ml2]; grind)
 have hf := R2.frob pr_p ((oT PP).trans (by rw [kM]; rfl)) (x.1, 0) (ml2 (x.2, 0) (0, 1))
 have h2 : pw2 x PP = ad2 (pw2 (x.1, 0) PP) (pw2 (ml2 (x.2, 0) (0, 1)) PP) := (congrArg (fun y => pw2 y PP) e).trans hf
 rw [h2, y6, pR, pR, Gb, wR, wR]
 exact bn (by simp only [ad2, ml2, cj2]; grind) (by simp only [ad2, ml2, cj2]; grind)
/-! ### Roots -/
theorem qP {a : Zp} : -a = 0 ↔ a = 0 := ⟨fun h => by grind, fun h => by rw [h]; grind⟩
def IsQ (a : Zp) : Prop := SQr a * SQr a = a
theorem Dv {a s : Zp} (h : s * s = a) : IsQ a := by rw [← h]; exact BB s
theorem yA (a : Zp) : IsQ a ↔ a = 0 ∨ a ^ hf = 1 := by
 unfold IsQ
 rw [rE]
 constructor
 ·intro h
  by_cases h0 : a = 0
  ·exact .inl h0
  ·right
   have : (a ^ hf - 1) * a = 0 := by grind
   rcases wK this with h | h
   ·grind
   ·exact absurd h h0
 ·rintro (h | h)
  ·rw [h]; grind
  ·rw [h]; grind
theorem ow (a : Zp) : IsQ (a * a) := Dv rfl
theorem A0 {x s : W2} (h : ml2 s s = x) : IsQ (nm2 x) := by rw [← h, jv]; exact ow _
end
section
/-! ### Equality, signs -/
theorem wE {x y : W2} (h : x.1 = y.1) : decide (x.2 = y.2) = decide (x = y) := decide_eq_decide.2 ⟨fun h' => bn h h', fun h' => by rw [h']⟩
theorem vr {x y : W2} (h : ¬ x.1 = y.1) : false = decide (x = y) := (decide_eq_false fun h' => h (by rw [h'])).symm
/-! ### Powers by digits -/
def fe2 (x : W2) : List (BitVec 64) := fe x.1 ++ fe x.2
theorem aJ (x : W2) : (fe2 x).length = 12 := by rw [fe2, List.length_append, aL, aL]
def SP2 (x : W2) (i : Nat) : List (BitVec 64) := FM (fun j => if j < i then fe2 (pw2 x j) else fe2 ze2) 16
theorem aW (x : W2) (i : Nat) : (SP2 x i).length = 192 := a5 _ _
/-! ### Roots -/
end
section
def XI : W2 := (1, 1)
abbrev W6 := W2 × W2 × W2
def K6 : Rg W6 := Rg.cub R2 XI
def VV : W6 := (ze2, on2, ze2)
abbrev W12 := W6 × W6
def K12 : Rg W12 := Rg.quad K6 VV
theorem fd2 : Fd R2 := fun a h => ⟨iv2 a, jy h⟩
theorem qS (a : Nat) : ∀ n : Nat, zp a ^ n = zp (a ^ n)
 | 0 => p0 _
 | n + 1 => by rw [ps, qS a n, Nat.pow_succ, gV]
theorem tQ (a n f : Nat) (h : n < 2 ^ f) : zp a ^ n = zp (pm a PP f n) := by rw [rJ _ _ _ _ h, p9, qS]
theorem tw {k n : Nat} (hk : R6 = 2 ^ k) (h : n < PP) : n < 2 ^ k := hk ▸ Nat.lt_trans h ue
def th : Nat := (PP - 1) / 3
def sx : Nat := (PP - 1) / 6
theorem uK : 3 * th = PP - 1 := by decide +kernel
theorem sx_val : 6 * sx + 1 = PP := by decide +kernel
theorem rm {n : Nat} (h : zp n = 1) (hn : n < PP) : n = 1 := by
 have := congrArg Fin.val h
 rw [de, Nat.mod_eq_of_lt hn, show (1 : Zp).val = 1 % PP from rfl, Nat.mod_eq_of_lt pr_p.1] at this
 exact this
theorem AC : pm 2 PP (64 * 6) th ≠ 1 ∧ pm 2 PP (64 * 6) th < PP := by decide +kernel
theorem Ac : pm 2 PP (64 * 6) hf ≠ 1 ∧ pm 2 PP (64 * 6) hf < PP := by decide +kernel
theorem Bq : zp 2 ^ th ≠ 1 := fun h => by
 rw [tQ 2 th (64 * 6) (tw dh (by have := uK; have := iY; omega))] at h
 exact AC.1 (rm h AC.2)
theorem vG : zp 2 ^ hf ≠ 1 := fun h => by
 rw [tQ 2 hf (64 * 6) (tw dh (by have := jU; have := iY; omega))] at h
 exact Ac.1 (rm h Ac.2)
theorem uG : nm2 XI = zp 2 := by
 simp only [nm2, XI]; rw [nB]; exact Eh.2.symm
theorem qN (s : W2) : R2.mul s (R2.mul s s) ≠ XI := fun h => by
 have e : nm2 s * (nm2 s * nm2 s) = zp 2 := by rw [← jv, ← jv, ← uG]; exact congrArg nm2 h
 have e3 : nm2 s ^ 3 = zp 2 := by rw [← e]; grind
 have hn : nm2 s ≠ 0 := fun h0 => qo (by rw [← e, h0, fR, fR])
 exact Bq (by rw [← e3, ← ww, uK, fermat hn])
theorem z1 (s : W2) : R2.mul s s ≠ XI := fun h => by
 have e : IsQ (zp 2) := by rw [← uG]; exact A0 h
 rcases (yA _).1 e with h | h
 ·exact qo h
 ·exact vG h
theorem fd6 : Fd K6 := Bz fd2 qN
theorem Gn : cnm R2 XI VV = XI := by decide +kernel
theorem u5 (s : W6) : K6.mul s s ≠ VV := fun h => by
 have e := xW R2 XI s s
 rw [show uV R2 XI s s = VV from h, Gn] at e
 exact z1 _ e.symm
theorem fd12 : Fd K12 := zh fd6 u5
theorem Rg.inv_one {α : Type} (R : Rg α) {x y y' : α} (h : R.mul x y = R.one) (h' : R.mul x y' = R.one) : y = y' := by
 have e : R.mul (R.mul x y) y' = R.mul (R.mul x y') y := by rw [R.mul_assoc, R.mul_assoc, R.mul_comm y]
 rw [h, h', R.one_mul, R.one_mul] at e
 exact e.symm
/-! ### The power of p -/
theorem yf : K12.nat PP = K12.zero := by
 have e2 : R2.nat PP = R2.zero := (oT PP).trans (by rw [kM]; rfl)
 have e6 : K6.nat PP = K6.zero := (y3 (R := R2) (z := XI) PP).trans (by rw [e2]; rfl)
 exact (tR (R := K6) (z := VV) PP).trans (by rw [e6]; rfl)
theorem fl (x y : W12) : K12.pw (K12.add x y) PP = K12.add (K12.pw x PP) (K12.pw y PP) := K12.frob pr_p yf x y
def em (c : W2) : W12 := ((c, ze2, ze2), (ze2, ze2, ze2))
def wk (k : Nat) : W12 := K12.pw ((ze2, ze2, ze2), (on2, ze2, ze2)) k
theorem cY (a b : W2) : K12.mul (em a) (em b) = em (ml2 a b) := Prod.ext (Prod.ext (zq R2 [a, b, XI] (ta (ta (tm j0 j1) (tm j2 (ta (tm tz0 tz0) (tm tz0 tz0)))) (ta (tm tz0 (ta (tm tz0 tz0) (tm j2 (ta (tm tz0 tz0) (tm tz0 tz0))))) (tm j2 (ta (tm to1 (ta (ta (tm tz0 tz0) (tm tz0 tz0)) (tm tz0 tz0))) (tm tz0 (ta (ta (tm tz0 tz0) (tm tz0 tz0)) (tm j2 (tm tz0 tz0)))))))) (tm j0 j1)) (Prod.ext (zq R2 [a, b, XI] (ta (ta (ta (tm j0 tz0) (tm tz0 j1)) (tm j2 (tm tz0 tz0))) (ta (ta (tm tz0 (ta (ta (tm tz0 tz0) (tm tz0 tz0)) (tm j2 (tm tz0 tz0)))) (tm to1 (ta (tm tz0 tz0) (tm j2 (ta (tm tz0 tz0) (tm tz0 tz0)))))) (tm j2 (tm tz0 (ta (ta (tm tz0 tz0) (tm tz0 tz0)) (tm tz0 tz0)))))) tz0) (zq R2 [a, b, XI] (ta (ta (ta (tm j0 tz0) (tm tz0 tz0)) (tm tz0 j1)) (ta (ta (tm tz0 (ta (ta (tm tz0 tz0) (tm tz0 tz0)) (tm tz0 tz0))) (tm to1 (ta (ta (tm tz0 tz0) (tm tz0 tz0)) (tm j2 (tm tz0 tz0))))) (tm tz0 (ta (tm tz0 tz0) (tm j2 (ta (tm tz0 tz0) (tm tz0 tz0))))))) tz0))) (Prod.ext (zq R2 [a, b, XI] (ta (ta (tm j0 tz0) (tm j2 (ta (tm tz0 tz0) (tm tz0 tz0)))) (ta (tm tz0 j1) (tm j2 (ta (tm tz0 tz0) (tm tz0 tz0))))) tz0) (Prod.ext (zq R2 [a, b, XI] (ta (ta (ta (tm j0 tz0) (tm tz0 tz0)) (tm j2 (tm tz0 tz0))) (ta (ta (tm tz0 tz0) (tm tz0 j1)) (tm j2 (tm tz0 tz0)))) tz0) (zq R2 [a, b, XI] (ta (ta (ta (tm j0 tz0) (tm tz0 tz0)) (tm tz0 tz0)) (ta (ta (tm tz0 tz0) (tm tz0 tz0)) (tm tz0 j1))) tz0)))
theorem n4 (c : W2) : ∀ n, K12.pw (em c) n = em (pw2 c n)
 | 0 => rfl
 | n + 1 => by
  rw [Rg.pw, n4 c n, cY, im]
theorem wk0 : wk 0 = ((on2, ze2, ze2), (ze2, ze2, ze2)) := by decide +kernel
theorem wk1 : wk 1 = ((ze2, ze2, ze2), (on2, ze2, ze2)) := by decide +kernel
theorem wk2 : wk 2 = ((ze2, on2, ze2), (ze2, ze2, ze2)) := by decide +kernel
theorem wk3 : wk 3 = ((ze2, ze2, ze2), (ze2, on2, ze2)) := by decide +kernel
theorem wk4 : wk 4 = ((ze2, ze2, on2), (ze2, ze2, ze2)) := by decide +kernel
theorem wk5 : wk 5 = ((ze2, ze2, ze2), (ze2, ze2, on2)) := by decide +kernel
theorem wk6 : wk 6 = em XI := by decide +kernel
theorem lM (c0 c1 c2 c3 c4 c5 : W2) : K12.add (K12.add (K12.add (K12.add (K12.add (K12.mul (em c0) (wk 0)) (K12.mul (em c1) (wk 1))) (K12.mul (em c2) (wk 2))) (K12.mul (em c3) (wk 3))) (K12.mul (em c4) (wk 4))) (K12.mul (em c5) (wk 5)) = ((c0, c2, c4), (c1, c3, c5)) := by
 rw [wk0, wk1, wk2, wk3, wk4, wk5]
 exact Prod.ext (Prod.ext (zq R2 [c0, c1, c2, c3, c4, c5, XI] (ta (ta (ta (ta (ta (ta (ta (tm j0 to1) (tm j6 (ta (tm tz0 tz0) (tm tz0 tz0)))) (ta (tm tz0 (ta (tm tz0 tz0) (tm j6 (ta (tm tz0 tz0) (tm tz0 tz0))))) (tm j6 (ta (tm to1 (ta (ta (tm tz0 tz0) (tm tz0 tz0)) (tm tz0 tz0))) (tm tz0 (ta (ta (tm tz0 tz0) (tm tz0 tz0)) (tm j6 (tm tz0 tz0)))))))) (ta (ta (tm j1 tz0) (tm j6 (ta (tm tz0 tz0) (tm tz0 tz0)))) (ta (tm tz0 (ta (tm tz0 to1) (tm j6 (ta (tm tz0 tz0) (tm tz0 tz0))))) (tm j6 (ta (tm to1 (ta (ta (tm tz0 tz0) (tm tz0 tz0)) (tm tz0 to1))) (tm tz0 (ta (ta (tm tz0 tz0) (tm tz0 to1)) (tm j6 (tm tz0 tz0))))))))) (ta (ta (tm j2 tz0) (tm j6 (ta (tm tz0 tz0) (tm tz0 to1)))) (ta (tm tz0 (ta (tm tz0 tz0) (tm j6 (ta (tm tz0 tz0) (tm tz0 tz0))))) (tm j6 (ta (tm to1 (ta (ta (tm tz0 tz0) (tm tz0 tz0)) (tm tz0 tz0))) (tm tz0 (ta (ta (tm tz0 tz0) (tm tz0 tz0)) (tm j6 (tm tz0 tz0))))))))) (ta (ta (tm j3 tz0) (tm j6 (ta (tm tz0 tz0) (tm tz0 tz0)))) (ta (tm tz0 (ta (tm tz0 tz0) (tm j6 (ta (tm tz0 tz0) (tm tz0 to1))))) (tm j6 (ta (tm to1 (ta (ta (tm tz0 tz0) (tm tz0 to1)) (tm tz0 tz0))) (tm tz0 (ta (ta (tm tz0 to1) (tm tz0 tz0)) (tm j6 (tm tz0 tz0))))))))) (ta (ta (tm j4 tz0) (tm j6 (ta (tm tz0 to1) (tm tz0 tz0)))) (ta (tm tz0 (ta (tm tz0 tz0) (tm j6 (ta (tm tz0 tz0) (tm tz0 tz0))))) (tm j6 (ta (tm to1 (ta (ta (tm tz0 tz0) (tm tz0 tz0)) (tm tz0 tz0))) (tm tz0 (ta (ta (tm tz0 tz0) (tm tz0 tz0)) (tm j6 (tm tz0 tz0))))))))) (ta (ta (tm j5 tz0) (tm j6 (ta (tm tz0 tz0) (tm tz0 tz0)))) (ta (tm tz0 (ta (tm tz0 tz0) (tm j6 (ta (tm tz0 to1) (tm tz0 tz0))))) (tm j6 (ta (tm to1 (ta (ta (tm tz0 to1) (tm tz0 tz0)) (tm tz0 tz0))) (tm tz0 (ta (ta (tm tz0 tz0) (tm tz0 tz0)) (tm j6 (tm tz0 to1))))))))) j0) (Prod.ext (zq R2 [c0, c1, c2, c3, c4, c5, XI] (ta (ta (ta (ta (ta (ta (ta (ta (tm j0 tz0) (tm tz0 to1)) (tm j6 (tm tz0 tz0))) (ta (ta (tm tz0 (ta (ta (tm tz0 tz0) (tm tz0 tz0)) (tm j6 (tm tz0 tz0)))) (tm to1 (ta (tm tz0 tz0) (tm j6 (ta (tm tz0 tz0) (tm tz0 tz0)))))) (tm j6 (tm tz0 (ta (ta (tm tz0 tz0) (tm tz0 tz0)) (tm tz0 tz0)))))) (ta (ta (ta (tm j1 tz0) (tm tz0 tz0)) (tm j6 (tm tz0 tz0))) (ta (ta (tm tz0 (ta (ta (tm tz0 tz0) (tm tz0 to1)) (tm j6 (tm tz0 tz0)))) (tm to1 (ta (tm tz0 to1) (tm j6 (ta (tm tz0 tz0) (tm tz0 tz0)))))) (tm j6 (tm tz0 (ta (ta (tm tz0 tz0) (tm tz0 tz0)) (tm tz0 to1))))))) (ta (ta (ta (tm j2 to1) (tm tz0 tz0)) (tm j6 (tm tz0 tz0))) (ta (ta (tm tz0 (ta (ta (tm tz0 tz0) (tm tz0 tz0)) (tm j6 (tm tz0 tz0)))) (tm to1 (ta (tm tz0 tz0) (tm j6 (ta (tm tz0 tz0) (tm tz0 tz0)))))) (tm j6 (tm tz0 (ta (ta (tm tz0 tz0) (tm tz0 tz0)) (tm tz0 tz0))))))) (ta (ta (ta (tm j3 tz0) (tm tz0 tz0)) (tm j6 (tm tz0 tz0))) (ta (ta (tm tz0 (ta (ta (tm tz0 to1) (tm tz0 tz0)) (tm j6 (tm tz0 tz0)))) (tm to1 (ta (tm tz0 tz0) (tm j6 (ta (tm tz0 tz0) (tm tz0 to1)))))) (tm j6 (tm tz0 (ta (ta (tm tz0 tz0) (tm tz0 to1)) (tm tz0 tz0))))))) (ta (ta (ta (tm j4 tz0) (tm tz0 tz0)) (tm j6 (tm tz0 to1))) (ta (ta (tm tz0 (ta (ta (tm tz0 tz0) (tm tz0 tz0)) (tm j6 (tm tz0 tz0)))) (tm to1 (ta (tm tz0 tz0) (tm j6 (ta (tm tz0 tz0) (tm tz0 tz0)))))) (tm j6 (tm tz0 (ta (ta (tm tz0 tz0) (tm tz0 tz0)) (tm tz0 tz0))))))) (ta (ta (ta (tm j5 tz0) (tm tz0 tz0)) (tm j6 (tm tz0 tz0))) (ta (ta (tm tz0 (ta (ta (tm tz0 tz0) (tm tz0 tz0)) (tm j6 (tm tz0 to1)))) (tm to1 (ta (tm tz0 tz0) (tm j6 (ta (tm tz0 to1) (tm tz0 tz0)))))) (tm j6 (tm tz0 (ta (ta (tm tz0 to1) (tm tz0 tz0)) (tm tz0 tz0))))))) j2) (zq R2 [c0, c1, c2, c3, c4, c5, XI] (ta (ta (ta (ta (ta (ta (ta (ta (tm j0 tz0) (tm tz0 tz0)) (tm tz0 to1)) (ta (ta (tm tz0 (ta (ta (tm tz0 tz0) (tm tz0 tz0)) (tm tz0 tz0))) (tm to1 (ta (ta (tm tz0 tz0) (tm tz0 tz0)) (tm j6 (tm tz0 tz0))))) (tm tz0 (ta (tm tz0 tz0) (tm j6 (ta (tm tz0 tz0) (tm tz0 tz0))))))) (ta (ta (ta (tm j1 tz0) (tm tz0 tz0)) (tm tz0 tz0)) (ta (ta (tm tz0 (ta (ta (tm tz0 tz0) (tm tz0 tz0)) (tm tz0 to1))) (tm to1 (ta (ta (tm tz0 tz0) (tm tz0 to1)) (tm j6 (tm tz0 tz0))))) (tm tz0 (ta (tm tz0 to1) (tm j6 (ta (tm tz0 tz0) (tm tz0 tz0)))))))) (ta (ta (ta (tm j2 tz0) (tm tz0 to1)) (tm tz0 tz0)) (ta (ta (tm tz0 (ta (ta (tm tz0 tz0) (tm tz0 tz0)) (tm tz0 tz0))) (tm to1 (ta (ta (tm tz0 tz0) (tm tz0 tz0)) (tm j6 (tm tz0 tz0))))) (tm tz0 (ta (tm tz0 tz0) (tm j6 (ta (tm tz0 tz0) (tm tz0 tz0)))))))) (ta (ta (ta (tm j3 tz0) (tm tz0 tz0)) (tm tz0 tz0)) (ta (ta (tm tz0 (ta (ta (tm tz0 tz0) (tm tz0 to1)) (tm tz0 tz0))) (tm to1 (ta (ta (tm tz0 to1) (tm tz0 tz0)) (tm j6 (tm tz0 tz0))))) (tm tz0 (ta (tm tz0 tz0) (tm j6 (ta (tm tz0 tz0) (tm tz0 to1)))))))) (ta (ta (ta (tm j4 to1) (tm tz0 tz0)) (tm tz0 tz0)) (ta (ta (tm tz0 (ta (ta (tm tz0 tz0) (tm tz0 tz0)) (tm tz0 tz0))) (tm to1 (ta (ta (tm tz0 tz0) (tm tz0 tz0)) (tm j6 (tm tz0 tz0))))) (tm tz0 (ta (tm tz0 tz0) (tm j6 (ta (tm tz0 tz0) (tm tz0 tz0)))))))) (ta (ta (ta (tm j5 tz0) (tm tz0 tz0)) (tm tz0 tz0)) (ta (ta (tm tz0 (ta (ta (tm tz0 to1) (tm tz0 tz0)) (tm tz0 tz0))) (tm to1 (ta (ta (tm tz0 tz0) (tm tz0 tz0)) (tm j6 (tm tz0 to1))))) (tm tz0 (ta (tm tz0 tz0) (tm j6 (ta (tm tz0 to1) (tm tz0 tz0)))))))) j4))) (Prod.ext (zq R2 [c0, c1, c2, c3, c4, c5, XI] (ta (ta (ta (ta (ta (ta (ta (tm j0 tz0) (tm j6 (ta (tm tz0 tz0) (tm tz0 tz0)))) (ta (tm tz0 to1) (tm j6 (ta (tm tz0 tz0) (tm tz0 tz0))))) (ta (ta (tm j1 to1) (tm j6 (ta (tm tz0 tz0) (tm tz0 tz0)))) (ta (tm tz0 tz0) (tm j6 (ta (tm tz0 tz0) (tm tz0 tz0)))))) (ta (ta (tm j2 tz0) (tm j6 (ta (tm tz0 tz0) (tm tz0 tz0)))) (ta (tm tz0 tz0) (tm j6 (ta (tm tz0 tz0) (tm tz0 to1)))))) (ta (ta (tm j3 tz0) (tm j6 (ta (tm tz0 tz0) (tm tz0 to1)))) (ta (tm tz0 tz0) (tm j6 (ta (tm tz0 tz0) (tm tz0 tz0)))))) (ta (ta (tm j4 tz0) (tm j6 (ta (tm tz0 tz0) (tm tz0 tz0)))) (ta (tm tz0 tz0) (tm j6 (ta (tm tz0 to1) (tm tz0 tz0)))))) (ta (ta (tm j5 tz0) (tm j6 (ta (tm tz0 to1) (tm tz0 tz0)))) (ta (tm tz0 tz0) (tm j6 (ta (tm tz0 tz0) (tm tz0 tz0)))))) j1) (Prod.ext (zq R2 [c0, c1, c2, c3, c4, c5, XI] (ta (ta (ta (ta (ta (ta (ta (ta (tm j0 tz0) (tm tz0 tz0)) (tm j6 (tm tz0 tz0))) (ta (ta (tm tz0 tz0) (tm tz0 to1)) (tm j6 (tm tz0 tz0)))) (ta (ta (ta (tm j1 tz0) (tm tz0 to1)) (tm j6 (tm tz0 tz0))) (ta (ta (tm tz0 tz0) (tm tz0 tz0)) (tm j6 (tm tz0 tz0))))) (ta (ta (ta (tm j2 tz0) (tm tz0 tz0)) (tm j6 (tm tz0 tz0))) (ta (ta (tm tz0 to1) (tm tz0 tz0)) (tm j6 (tm tz0 tz0))))) (ta (ta (ta (tm j3 to1) (tm tz0 tz0)) (tm j6 (tm tz0 tz0))) (ta (ta (tm tz0 tz0) (tm tz0 tz0)) (tm j6 (tm tz0 tz0))))) (ta (ta (ta (tm j4 tz0) (tm tz0 tz0)) (tm j6 (tm tz0 tz0))) (ta (ta (tm tz0 tz0) (tm tz0 tz0)) (tm j6 (tm tz0 to1))))) (ta (ta (ta (tm j5 tz0) (tm tz0 tz0)) (tm j6 (tm tz0 to1))) (ta (ta (tm tz0 tz0) (tm tz0 tz0)) (tm j6 (tm tz0 tz0))))) j3) (zq R2 [c0, c1, c2, c3, c4, c5, XI] (ta (ta (ta (ta (ta (ta (ta (ta (tm j0 tz0) (tm tz0 tz0)) (tm tz0 tz0)) (ta (ta (tm tz0 tz0) (tm tz0 tz0)) (tm tz0 to1))) (ta (ta (ta (tm j1 tz0) (tm tz0 tz0)) (tm tz0 to1)) (ta (ta (tm tz0 tz0) (tm tz0 tz0)) (tm tz0 tz0)))) (ta (ta (ta (tm j2 tz0) (tm tz0 tz0)) (tm tz0 tz0)) (ta (ta (tm tz0 tz0) (tm tz0 to1)) (tm tz0 tz0)))) (ta (ta (ta (tm j3 tz0) (tm tz0 to1)) (tm tz0 tz0)) (ta (ta (tm tz0 tz0) (tm tz0 tz0)) (tm tz0 tz0)))) (ta (ta (ta (tm j4 tz0) (tm tz0 tz0)) (tm tz0 tz0)) (ta (ta (tm tz0 to1) (tm tz0 tz0)) (tm tz0 tz0)))) (ta (ta (ta (tm j5 to1) (tm tz0 tz0)) (tm tz0 tz0)) (ta (ta (tm tz0 tz0) (tm tz0 tz0)) (tm tz0 tz0)))) j5)))
def GA : W2 := pw2 XI sx
theorem AD : K12.pw (wk 1) PP = K12.mul (em GA) (wk 1) := by
 have e : K12.pw (wk 1) PP = K12.pw (wk 1) (6 * sx + 1) := congrArg (fun n => K12.pw (wk 1) n) sx_val.symm
 have e1 : wk 1 = ((ze2, ze2, ze2), (on2, ze2, ze2)) := wk1
 have e6 : K12.pw (wk 1) 6 = em XI := by rw [e1]; exact wk6
 rw [e, K12.pw_add, K12.pw_mul, e6, n4, K12.pw_one]; rfl
theorem GS (k : Nat) : K12.pw (wk k) PP = K12.mul (em (pw2 GA k)) (wk k) := by
 have e1 : wk 1 = ((ze2, ze2, ze2), (on2, ze2, ze2)) := wk1
 have e : wk k = K12.pw (wk 1) k := by rw [e1]; rfl
 rw [e, ← K12.pw_mul, Nat.mul_comm, K12.pw_mul, AD, K12.mul_pw, n4]
theorem gH (c : W2) (k : Nat) : K12.pw (K12.mul (em c) (wk k)) PP = K12.mul (em (ml2 (cj2 c) (pw2 GA k))) (wk k) := by
 rw [K12.mul_pw, n4, v5, GS, ← K12.mul_assoc, cY]
def bp (x : W12) : W12 := ((ml2 (cj2 x.1.1) (pw2 GA 0), ml2 (cj2 x.1.2.1) (pw2 GA 2), ml2 (cj2 x.1.2.2) (pw2 GA 4)), (ml2 (cj2 x.2.1) (pw2 GA 1), ml2 (cj2 x.2.2.1) (pw2 GA 3), ml2 (cj2 x.2.2.2) (pw2 GA 5)))
theorem dr (x : W12) : K12.pw x PP = bp x := by
 have h := lM x.1.1 x.2.1 x.1.2.1 x.2.2.1 x.1.2.2 x.2.2.2
 have e : K12.pw x PP = K12.pw ((x.1.1, x.1.2.1, x.1.2.2), (x.2.1, x.2.2.1, x.2.2.2)) PP := rfl
 rw [e, ← h, fl, fl, fl, fl, fl, gH, gH, gH, gH, gH, gH, lM]
 rfl
/-! ### Six parts, as the reference multiplies them -/
def tq (f : Nat → W2) : W12 := ((f 0, f 2, f 4), (f 1, f 3, f 5))
theorem txi {ρ : Nat → W2} {p : Po} {a : W2} (k : Nat) (ha : R2.d ρ p = a) (hk : ρ k = XI) : R2.d ρ (n9 p (pv k)) = xi2 a := by rw [R2.d_mul, ha, R2.d_var, hk]; exact (vv a).symm
theorem tsb {ρ : Nat → W2} {p q : Po} {a b : W2} (ha : R2.d ρ p = a) (hb : R2.d ρ q = b) : R2.d ρ (kG p (oH q)) = sb2 a b := by rw [R2.d_add, R2.d_neg, ha, hb, gQ]; rfl
end
section
def i3a (a b c : W2) : W2 := sb2 (ml2 a a) (xi2 (ml2 b c))
def i3b (a b c : W2) : W2 := sb2 (xi2 (ml2 c c)) (ml2 a b)
def i3c (a b c : W2) : W2 := sb2 (ml2 b b) (ml2 a c)
def i3n (a b c : W2) : W2 := ad2 (ml2 a (i3a a b c)) (xi2 (ad2 (ml2 c (i3b a b c)) (ml2 b (i3c a b c))))
theorem B6 (a b c : W2) : i3a a b c = (iJ R2 XI (a, b, c)).1 := zq R2 [a, b, c, XI] (tsb (tm j0 j0) (txi 3 (tm j1 j2) rfl)) (ta (tm j0 j0) (tn (tm j3 (tm j1 j2))))
theorem Dt (a b c : W2) : i3b a b c = (iJ R2 XI (a, b, c)).2.1 := zq R2 [a, b, c, XI] (tsb (txi 3 (tm j2 j2) rfl) (tm j0 j1)) (ta (tm j3 (tm j2 j2)) (tn (tm j0 j1)))
theorem DR (a b c : W2) : i3c a b c = (iJ R2 XI (a, b, c)).2.2 := zq R2 [a, b, c, XI] (tsb (tm j1 j1) (tm j0 j2)) (ta (tm j1 j1) (tn (tm j0 j2)))
theorem BA (a b c : W2) : i3n a b c = cnm R2 XI (a, b, c) := zq R2 [a, b, c, XI] (ta (tm j0 (tsb (tm j0 j0) (txi 3 (tm j1 j2) rfl))) (txi 3 (ta (tm j2 (tsb (txi 3 (tm j2 j2) rfl) (tm j0 j1))) (tm j1 (tsb (tm j1 j1) (tm j0 j2)))) rfl)) (ta (tm j0 (ta (tm j0 j0) (tn (tm j3 (tm j1 j2))))) (tm j3 (ta (tm j2 (ta (tm j3 (tm j2 j2)) (tn (tm j0 j1)))) (tm j1 (ta (tm j1 j1) (tn (tm j0 j2)))))))
def iv6 (x : W6) : W6 := (ml2 (i3a x.1 x.2.1 x.2.2) (iv2 (i3n x.1 x.2.1 x.2.2)), ml2 (i3b x.1 x.2.1 x.2.2) (iv2 (i3n x.1 x.2.1 x.2.2)), ml2 (i3c x.1 x.2.1 x.2.2) (iv2 (i3n x.1 x.2.1 x.2.2)))
theorem yy {x : W6} (h : x ≠ K6.zero) : K6.mul x (iv6 x) = K6.one := by
 have hn : cnm R2 XI x ≠ ze2 := fun e => h (oh fd2 qN e)
 have hi : R2.mul (cnm R2 XI x) (iv2 (cnm R2 XI x)) = R2.one := jy hn
 have e := rH (R := R2) (z := XI) x hi
 unfold iv6
 rw [B6, Dt, DR, BA]
 exact e
theorem wt (x : W2) : ml2 ze2 x = ze2 := R2.zero_mul x
def ff (x : W12) : W12 := K12.mul (x.1, K6.neg x.2) (iv6 (qnm K6 VV x), K6.zero)
theorem Ei {α : Type} (R : Rg α) (z a b : α) : o0 R z (a, R.zero) (b, R.zero) = (R.mul a b, R.zero) := Prod.ext (zq R [a, b, z] (ta (tm j0 j1) (tm j2 (tm tz0 tz0))) (tm j0 j1)) (zq R [a, b, z] (ta (tm j0 tz0) (tm tz0 j1)) tz0)
theorem g7 {x : W12} (h : x ≠ K12.zero) : K12.mul x (ff x) = K12.one := by
 have hn : qnm K6 VV x ≠ K6.zero := fun e => h (lz fd6 u5 e)
 have e := C9 K6 VV x
 rw [ff, ← K12.mul_assoc]
 show K12.mul (o0 K6 VV x (x.1, K6.neg x.2)) (iv6 (qnm K6 VV x), K6.zero) = K12.one
 rw [e]
 show o0 K6 VV (qnm K6 VV x, K6.zero) (iv6 (qnm K6 VV x), K6.zero) = K12.one
 rw [Ei, yy hn]
 rfl
theorem xN : ff K12.zero = K12.zero := by
 have e : ((K12.zero : W12).1, K6.neg (K12.zero : W12).2) = K12.zero := Prod.ext rfl K6.neg_zero
 rw [ff, e, K12.zero_mul]
/-! ### Six parts turned -/
/-! ### Powers by bits, in any ring -/
theorem Rg.bt_y {α : Type} (R : Rg α) (x : α) {n m : Nat} (h : m = 2 * n + 1) : R.mul (R.mul (R.pw x n) (R.pw x n)) x = R.pw x m := by
 rw [← R.pw_add, h, Nat.two_mul]; rfl
theorem Rg.bt_n {α : Type} (R : Rg α) (x : α) {n m : Nat} (h : m = 2 * n) : R.mul (R.pw x n) (R.pw x n) = R.pw x m := by
 rw [← R.pw_add, h, Nat.two_mul]
end
section
def sb6 (x y : W6) : W6 := (sb2 x.1 y.1, sb2 x.2.1 y.2.1, sb2 x.2.2 y.2.2)
def sc6 (x : W6) (c : W2) : W6 := (ml2 x.1 c, ml2 x.2.1 c, ml2 x.2.2 c)
def v6 (x : W6) : W6 := (xi2 x.2.2, x.1, x.2.1)
theorem pS (x y : W6) : sb6 x y = K6.add x (K6.neg y) := Prod.ext (gQ _ _) (Prod.ext (gQ _ _) (gQ _ _))
theorem wr (x : W6) (c : W2) : K6.mul x (c, ze2, ze2) = sc6 x c := Prod.ext (zq R2 [x.1, x.2.1, x.2.2, c, XI] (ta (tm j0 j3) (tm j4 (ta (tm j1 tz0) (tm j2 tz0)))) (tm j0 j3)) (Prod.ext (zq R2 [x.1, x.2.1, x.2.2, c, XI] (ta (ta (tm j0 tz0) (tm j1 j3)) (tm j4 (tm j2 tz0))) (tm j1 j3)) (zq R2 [x.1, x.2.1, x.2.2, c, XI] (ta (ta (tm j0 tz0) (tm j1 tz0)) (tm j2 j3)) (tm j2 j3)))
theorem rR (x : W6) : K6.mul x VV = v6 x := Prod.ext (zq R2 [x.1, x.2.1, x.2.2, XI] (ta (tm j0 tz0) (tm j3 (ta (tm j1 tz0) (tm j2 to1)))) (txi 3 j2 rfl)) (Prod.ext (zq R2 [x.1, x.2.1, x.2.2, XI] (ta (ta (tm j0 to1) (tm j1 tz0)) (tm j3 (tm j2 tz0))) j0) (zq R2 [x.1, x.2.1, x.2.2, XI] (ta (ta (tm j0 tz0) (tm j1 to1)) (tm j2 tz0)) j1))
def r6 (x : W6) : W12 := (x, K6.zero)
theorem wO {x y : W6} (h : r6 x = r6 y) : x = y := congrArg Prod.fst h
theorem CH (x y : W6) : K12.add (r6 x) (r6 y) = r6 (K6.add x y) := Prod.ext rfl (K6.add_zero K6.zero)
theorem wD (x : W6) : K12.neg (r6 x) = r6 (K6.neg x) := Prod.ext rfl K6.neg_zero
theorem uN (x y : W6) : K12.mul (r6 x) (r6 y) = r6 (K6.mul x y) := Ei K6 VV x y
theorem og (x : W6) (c : W2) : K12.mul (r6 x) (em c) = r6 (sc6 x c) := by
 rw [← wr]; exact uN x (c, ze2, ze2)
/-! ### The chapter's examples -/
end
section
section
variable {α : Type} [DecidableEq α] (C : Ec α)
def Ec.jm (J : α × α × α) : List Bool → α × α × α → α × α × α
 | [], A => A
 | b :: r, A => Ec.jm J r (if b then C.jaF (C.jdF A) J else C.jdF A)
def lL : List Bool → Nat → Nat
 | [], n => n
 | b :: r, n => lL r (2 * n + (if b then 1 else 0))
theorem Ec.jr_m {J : α × α × α} {P : Pt α} (hP : C.onP P) (h : C.jr J P) : ∀ (l : List Bool) (A : α × α × α) (n : Nat), C.jr A (C.times P n) → C.jr (C.jm J l A) (C.times P (lL l n))
 | [], _, _, hA => hA
 | b :: r, A, n, hA => by
  have hd := C.jr_d (C.times_on hP n) hA
  rw [← C.times_add hP, ← Nat.two_mul] at hd
  cases b with
  | false => exact Ec.jr_m hP h r _ _ hd
  | true =>
   have ha := C.jr_a (C.times_on hP (2 * n)) hP hd h
   exact Ec.jr_m hP h r _ (2 * n + 1) ha
end
/-! ### Over p -/
def RZp : Rg Zp where
 zero := 0
 one := 1
 add := fun a b => a + b
 mul := fun a b => a * b
 neg := fun a => -a
 add_assoc := fun a b c => by grind
 add_comm := fun a b => by grind
 add_zero := fun a => by grind
 add_neg := fun a => by grind
 mul_assoc := fun a b c => by grind
 mul_comm := fun a b => by grind
 mul_one := fun a => by grind
 mul_add := fun a b c => by grind
def E1 : Ec Zp where
 R := RZp
 iv := fun a => a ^ (PP - 2)
 b := zp 4
 hi := fun _ h => u3 h
 h2 := by decide +kernel
 h3 := by decide +kernel
 hb := by decide +kernel
def E2w : Ec W2 where
 R := R2
 iv := iv2
 b := (zp 4, zp 4)
 hi := fun _ h => jy h
 h2 := by decide +kernel
 h3 := by decide +kernel
 hb := by decide +kernel
def G1x : Nat := 0x17f1d3a73197d7942695638c4fa9ac0fc3688c4f9774b905a14e3a3f171bac586c55e83ff97a1aeffb3af00adb22c6bb
def G1y : Nat := 0x8b3f481e3aaa0f1a09e30ed741d8ae4fcf5e095d5d00af600db18cb2c04b3edd03cc744a2888ae40caa232946c5e7e1
def G1p : Zp × Zp := (zp G1x, zp G1y)
theorem v9 : E1.on G1p := by
 unfold Ec.on
 decide +kernel
def ORD : Nat := 0x73eda753299d7d483339d80809a1d80553bda402fffe5bfeffffffff00000001
def eh : Nat → Nat → List Bool → List Bool
 | 0, _, l => l
 | f + 1, n, l => eh f (n / 2) ((n % 2 == 1) :: l)
theorem q8 : lL (eh 255 ORD []) 0 = ORD := by decide +kernel
theorem g1_z : (E1.jm (zp G1x, zp G1y, 1) (eh 255 ORD []) (0, 0, 0)).2.2 = 0 := by decide +kernel
theorem zy : E1.jr (zp G1x, zp G1y, 1) (some G1p) := ⟨mr, by decide +kernel, by decide +kernel⟩
theorem xt {α : Type} (C : Ec α) {J : α × α × α} {P : Pt α} (h : C.jr J P) (hz : J.2.2 = C.R.zero) : P = none := by
 cases P with
 | none => rfl
 | some p => exact absurd hz h.1
theorem rF {α : Type} [DecidableEq α] (C : Ec α) {J : α × α × α} {P : Pt α} (hP : C.onP P) (h : C.jr J P) (l : List Bool) {n : Nat} (hn : lL l 0 = n) (hz : (C.jm J l (C.R.zero, C.R.zero, C.R.zero)).2.2 = C.R.zero) : C.times P n = none := by
 have k := C.jr_m hP h l (C.R.zero, C.R.zero, C.R.zero) 0 (show C.R.zero = C.R.zero from rfl)
 rw [hn] at k
 exact xt C k hz
theorem tE : E1.times (some G1p) ORD = none := rF E1 (P := some G1p) v9 zy (eh 255 ORD []) q8 g1_z
end
section
structure Em {α β : Type} (C : Ec α) (D : Ec β) where
 f : α → β
 h0 : f C.R.zero = D.R.zero
 ha : ∀ a b, f (C.R.add a b) = D.R.add (f a) (f b)
 hm : ∀ a b, f (C.R.mul a b) = D.R.mul (f a) (f b)
 hn : ∀ a, f (C.R.neg a) = D.R.neg (f a)
 hi : ∀ a b, f a = f b → a = b
 hb : f C.b = D.b
section
variable {α β : Type} {C : Ec α} {D : Ec β} (e : Em C D)
def Em.q (p : α × α) : β × β := (e.f p.1, e.f p.2)
def Em.p : Pt α → Pt β
 | none => none
 | some p => some (e.q p)
theorem Em.sub (a b : α) : e.f (C.sub a b) = D.sub (e.f a) (e.f b) := by rw [Ec.sub, Ec.sub, e.ha, e.hn]
theorem Em.on {p : α × α} (h : C.on p) : D.on (e.q p) := by
 have := congrArg e.f h
 rw [e.hm, e.ha, e.hm, e.hm, e.hb] at this
 exact this
theorem Em.onP {P : Pt α} (h : C.onP P) : D.onP (e.p P) := by
 cases P with
 | none => trivial
 | some p => exact e.on h
theorem Em.sl {p q : α × α} {s : α} (h : C.Sl p q s) : D.Sl (e.q p) (e.q q) (e.f s) := by
 have h1 := congrArg e.f h.1
 have h2 := congrArg e.f h.2
 rw [e.hm, e.sub, e.sub] at h1
 rw [e.hm, e.ha, e.ha, e.ha, e.hm, e.hm, e.hm] at h2
 exact ⟨h1, h2⟩
theorem Em.opp {p q : α × α} : D.opp (e.q p) (e.q q) ↔ C.opp p q :=
 ⟨fun h => ⟨e.hi _ _ h.1, e.hi _ _ (by rw [e.ha, e.h0]; exact h.2)⟩, fun h => ⟨congrArg e.f h.1, by
  have := congrArg e.f h.2
  rw [e.ha, e.h0] at this
  exact this⟩⟩
theorem Em.th (p q : α × α) (s : α) : D.th (e.q p) (e.q q) (e.f s) = e.q (C.th p q s) := by
 have hx : D.x3 (e.q p) (e.q q) (e.f s) = e.f (C.x3 p q s) := by rw [Ec.x3, Ec.x3, e.sub, e.sub, e.hm]; rfl
 refine Prod.ext hx ?_
 show D.sub (D.R.mul (e.f s) (D.sub (e.f p.1) (D.x3 (e.q p) (e.q q) (e.f s)))) (e.f p.2) = e.f (C.sub (C.R.mul s (C.sub p.1 (C.x3 p q s))) p.2)
 rw [hx, e.sub, e.hm, e.sub]
theorem Em.ne (P : Pt α) : e.p (C.ne P) = D.ne (e.p P) := by
 cases P with
 | none => rfl
 | some p => exact congrArg some (Prod.ext rfl (e.hn _))
theorem Em.inj {P Q : Pt α} (h : e.p P = e.p Q) : P = Q := by
 cases P with
 | none =>
  cases Q with
  | none => rfl
  | some q => cases h
 | some p =>
  cases Q with
  | none => cases h
  | some q =>
   have h := Option.some.inj h
   exact congrArg some (Prod.ext (e.hi _ _ (congrArg Prod.fst h)) (e.hi _ _ (congrArg Prod.snd h)))
theorem Em.jr {J : α × α × α} {P : Pt α} (h : C.jr J P) : D.jr (e.f J.1, e.f J.2.1, e.f J.2.2) (e.p P) := by
 cases P with
 | none => exact (congrArg e.f h).trans e.h0
 | some p =>
  refine ⟨fun h' => h.1 (e.hi _ _ (h'.trans e.h0.symm)), ?_, ?_⟩
  ·have := congrArg e.f h.2.1
   rw [e.hm, Ec.z2, e.hm] at this
   exact this
  ·have := congrArg e.f h.2.2
   rw [e.hm, Ec.z3, e.hm, e.hm] at this
   exact this
end
section
variable {α β : Type} [DecidableEq α] [DecidableEq β] {C : Ec α} {D : Ec β} (e : Em C D)
theorem Em.ad {P Q : Pt α} (hP : C.onP P) (hQ : C.onP Q) : e.p (C.ad P Q) = D.ad (e.p P) (e.p Q) := by
 cases P with
 | none => rfl
 | some p =>
  cases Q with
  | none => rw [C.ad_nr]; exact (D.ad_nr _).symm
  | some q =>
   by_cases ho : C.opp p q
   ·rw [C.ad_opp ho]; exact (D.ad_opp (e.opp.2 ho)).symm
   ·obtain ⟨s, hs⟩ := C.sl_is hP hQ ho
    rw [C.ad_sl hP hQ ho hs]
    exact ((D.ad_sl (e.on hP) (e.on hQ) (fun h => ho (e.opp.1 h)) (e.sl hs)).trans (congrArg some (e.th p q s))).symm
theorem Em.times {P : Pt α} (hP : C.onP P) : ∀ n, e.p (C.times P n) = D.times (e.p P) n
 | 0 => rfl
 | n + 1 => by
  show e.p (C.ad (C.times P n) P) = D.ad (D.times (e.p P) n) (e.p P)
  rw [e.ad (C.times_on hP n) hP, Em.times hP n]
end
theorem z7 (a : Zp) : a - 0 = a := by grind
theorem un (a : Zp) : a + 0 = a := by grind
theorem z_n0' : -(0 : Zp) = 0 := qP.2 rfl
end
section
section
variable {α : Type} (C : Ec α)
theorem Ec.jr_z {J : α × α × α} {P : Pt α} (h : C.jr J P) : J.2.2 = C.R.zero ↔ P = none := by
 cases P with
 | none => exact ⟨fun _ => rfl, fun _ => h⟩
 | some p => exact ⟨fun e => absurd e h.1, fun e => by cases e⟩
theorem Ec.sc2 (a z c : α) : C.R.mul (C.R.mul a (C.z2 z)) (C.z2 c) = C.R.mul a (C.z2 (C.R.mul z c)) := zq C.R [a, z, c] (tm (tm j0 (tm j1 j1)) (tm j2 j2)) (tm j0 (tm (tm j1 j2) (tm j1 j2)))
theorem Ec.jr_at (p : α × α) (h1 : C.R.one ≠ C.R.zero) : C.jr (p.1, p.2, C.R.one) (some p) := by
 refine ⟨h1, ?_, ?_⟩
 ·show p.1 = C.R.mul p.1 (C.R.mul C.R.one C.R.one)
  rw [C.R.mul_one, C.R.mul_one]
 ·show p.2 = C.R.mul p.2 (C.R.mul (C.R.mul C.R.one C.R.one) C.R.one)
  rw [C.R.mul_one, C.R.mul_one, C.R.mul_one]
end
section
variable {α : Type} [DecidableEq α] (C : Ec α)
theorem Ec.times_comm {P : Pt α} (hP : C.onP P) (m n : Nat) : C.times (C.times P m) n = C.times (C.times P n) m := by
 rw [← C.times_mul hP, ← C.times_mul hP, Nat.mul_comm]
theorem Ec.times_ord {P : Pt α} (hP : C.onP P) {r : Nat} (h : C.times P r = none) (k : Nat) : C.times (C.times P k) r = none := by
 rw [C.times_comm hP, h, C.times_none]
theorem Ec.dbl_times {P : Pt α} (hP : C.onP P) (n : Nat) : C.ad (C.times P n) (C.times P n) = C.times P (2 * n) := by rw [← C.times_add hP, Nat.two_mul]
end
end
section
section
variable {α : Type} [DecidableEq α] {C : Ec α} (T : Tw C)
end
theorem EZ {α : Type} (C : Ec α) {J : α × α × α} {P : Pt α} {x y : α} (h : C.jr J P) (hz : J.2.2 ≠ C.R.zero) (hx : J.1 = C.R.mul x (C.z2 J.2.2)) (hy : J.2.1 = C.R.mul y (C.z3 J.2.2)) : P = some (x, y) := by
 cases P with
 | none => exact absurd h hz
 | some p =>
  refine congrArg some (Prod.ext ?_ ?_)
  ·exact C.mul_can (C.z2_ne hz) (h.2.1.symm.trans hx)
  ·exact C.mul_can (C.z3_ne hz) (h.2.2.symm.trans hy)
theorem Ex {α : Type} [DecidableEq α] (C : Ec α) {J K : α × α × α} {P : Pt α} (hP : C.onP P) (h : C.jr J P) (l : List Bool) {n : Nat} (hn : lL l 0 = n) (hK : C.jm J l (C.R.zero, C.R.zero, C.R.zero) = K) {x y : α} (hz : K.2.2 ≠ C.R.zero) (hx : K.1 = C.R.mul x (C.z2 K.2.2)) (hy : K.2.1 = C.R.mul y (C.z3 K.2.2)) : C.times P n = some (x, y) := by
 have k := C.jr_m hP h l (C.R.zero, C.R.zero, C.R.zero) 0 (show C.R.zero = C.R.zero from rfl)
 rw [hn, hK] at k
 exact EZ C k hz hx hy
theorem oZ {p : Nat} (hp : Pr p) {d : Nat} (h0 : 0 < d) (h1 : d < p) : ∃ e, (d * e) % p = 1 := by
 refine ⟨d ^ (p - 2), ?_⟩
 have h2 : 1 < p := hp.1
 rw [← Nat.pow_succ', show (p - 2).succ = p - 1 from by omega]
 exact hp.fermat1 fun h => absurd (Nat.le_of_dvd h0 h) (by omega)
/-! ### The first curve -/
def UG : Nat := 0xd201000000010000
theorem Ce : ORD + UG * UG = (UG * UG) * (UG * UG) + 1 := by decide +kernel
theorem pZ : E1.onP (some G1p) := v9
theorem mM : Pr ORD := by
 have e : ORD = RR := by decide +kernel
 rw [e]; exact pr_r
theorem FA : (some G1p : Pt Zp) ≠ none := fun h => by cases h
end
section
def G2p : W2 × W2 := ((zp 0x24aa2b2f08f0a91260805272dc51051c6e47ad4fa403b02b4510b647ae3d1770bac0326a805bbefd48056c8c121bdb8, zp 0x13e02b6052719f607dacd3a088274f65596bd0d09920b61ab5da61bbdc7f5049334cf11213945d57e5ac7d055d042b7e), (zp 0xce5d527727d6e118cc9cdc6da2e351aadfd9baa8cbdd3a76d429a695160d12c923ac9cc3baca289e193548608b82801, zp 0x606c4a02ea734cc32acd2b02bc28b99cb3e287e85a763af267492ab572e99ab3f370d275cec1da1aaa9075ff05f79be))
theorem jD : E2w.on G2p := by
 unfold Ec.on
 decide +kernel
theorem tt : E2w.jr (G2p.1, G2p.2, on2) (some G2p) := ⟨by decide +kernel, by decide +kernel, by decide +kernel⟩
theorem g2_z : (E2w.jm (G2p.1, G2p.2, on2) (eh 255 ORD []) (ze2, ze2, ze2)).2.2 = ze2 := by decide +kernel
theorem fY : E2w.times (some G2p) ORD = none := rF E2w (P := some G2p) jD tt (eh 255 ORD []) q8 g2_z
end
section
theorem tH : on2 ≠ ze2 := fun h => absurd (congrArg Prod.fst h) mr
theorem vg (p : W2 × W2) : E2w.jr (p.1, p.2, on2) (some p) := E2w.jr_at p tH
end
section
section
variable {α β : Type} {C : Ec α} {D : Ec β} (T : Hw C D)
theorem Hw.f1 : T.f C.R.one = D.R.one := by
 have e : D.R.mul (T.f C.R.one) (D.sub (T.f C.R.one) D.R.one) = D.R.zero := by
  have k := T.fm C.R.one C.R.one
  rw [C.R.mul_one] at k
  exact Rg.lc (R := D.R) (zq D.R [T.f C.R.one] (ta (tm j0 (ta j0 (tn to1))) (tm (tn to1) (tm j0 j0))) (ta tz0 (tm (tn to1) j0))) (lcm k)
 exact D.sub0 ((D.fd.two e).resolve_left fun h => C.one_ne (T.fi _ h))
def Hw.fj (A : α × α × α) : β × β × β := (T.f A.1, T.f A.2.1, T.f A.2.2)
theorem Hw.jd_f (X Y Z : α) : D.jd (T.f X) (T.f Y) (T.f Z) = T.fj (C.jd X Y Z) := by
 simp only [Ec.jd, Hw.fj, T.fs, T.fm, T.fa]
theorem Hw.ja_f (X Y Z X' Y' Z' : α) : D.ja (T.f X) (T.f Y) (T.f Z) (T.f X') (T.f Y') (T.f Z') = T.fj (C.ja X Y Z X' Y' Z') := by
 simp only [Ec.ja, Hw.fj, T.fs, T.fm]
theorem Hw.js_f (x y : α) : ∀ (l : List Bool) (A : α × α × α), D.js (T.f x) (T.f y) l (T.fj A) = T.fj (C.js x y l A)
 | [], _ => rfl
 | false :: r, A => by
  show D.js (T.f x) (T.f y) r (D.jd (T.f A.1) (T.f A.2.1) (T.f A.2.2)) = T.fj (C.js x y r (C.jd A.1 A.2.1 A.2.2))
  rw [T.jd_f]
  exact Hw.js_f x y r _
 | true :: r, A => by
  show D.js (T.f x) (T.f y) r (D.ja (D.jd (T.f A.1) (T.f A.2.1) (T.f A.2.2)).1 (D.jd (T.f A.1) (T.f A.2.1) (T.f A.2.2)).2.1 (D.jd (T.f A.1) (T.f A.2.1) (T.f A.2.2)).2.2 (T.f x) (T.f y) D.R.one) = T.fj (C.js x y r (C.ja (C.jd A.1 A.2.1 A.2.2).1 (C.jd A.1 A.2.1 A.2.2).2.1 (C.jd A.1 A.2.1 A.2.2).2.2 x y C.R.one))
  rw [T.jd_f, ← T.f1]
  exact (congrArg (D.js (T.f x) (T.f y) r) (T.ja_f _ _ _ _ _ _)).trans (Hw.js_f x y r _)
theorem Hw.js_ne (x y : α) (l : List Bool) (h : (C.js x y l (x, y, C.R.one)).2.2 ≠ C.R.zero) : (D.js (T.f x) (T.f y) l (T.f x, T.f y, D.R.one)).2.2 ≠ D.R.zero := fun e => h (T.fi _ (by
 have k := T.js_f x y l (x, y, C.R.one)
 have k2 : D.js (T.f x) (T.f y) l (T.f x, T.f y, D.R.one) = T.fj (C.js x y l (x, y, C.R.one)) := by rw [← k, ← T.f1]; rfl
 rw [k2] at e
 exact e))
end
/-! ### Over p^12 -/
def E12 : Ec W12 where
 R := K12
 iv := ff
 b := em (zp 4, zp 4)
 hi := fun _ h => g7 h
 h2 := by decide +kernel
 h3 := by decide +kernel
 hb := by decide +kernel
theorem xb (a b : W2) : em (ad2 a b) = K12.add (em a) (em b) := Prod.ext (Prod.ext rfl (Prod.ext (R2.add_zero _).symm (R2.add_zero _).symm)) (Prod.ext (R2.add_zero _).symm (Prod.ext (R2.add_zero _).symm (R2.add_zero _).symm))
theorem oS (a : W2) : em (ng2 a) = K12.neg (em a) := Prod.ext (Prod.ext rfl (Prod.ext R2.neg_zero.symm R2.neg_zero.symm)) (Prod.ext R2.neg_zero.symm (Prod.ext R2.neg_zero.symm R2.neg_zero.symm))
theorem qw {a : W2} (h : em a = K12.zero) : a = ze2 := congrArg (fun x : W12 => x.1.1) h
def HE : Hw E2w E12 where
 f := em
 w := K12.one
 fa := xb
 fm := fun a b => (cY a b).symm
 fn := oS
 f0 := rfl
 fi := fun _ h => qw h
 wn := by decide +kernel
 wb := by decide +kernel
def WW : W12 := (K6.zero, K6.one)
def re2 (a : Zp) : W2 := (a, 0)
theorem xm (a b : Zp) : re2 (a + b) = ad2 (re2 a) (re2 b) := bn rfl (by show (0 : Zp) = 0 + 0; exact (un 0).symm)
theorem zf (a b : Zp) : re2 (a * b) = ml2 (re2 a) (re2 b) := bn (by show a * b = a * b - 0 * 0; rw [fR, z7]) (by show (0 : Zp) = a * 0 + 0 * b; rw [fR, p8, un])
theorem yV (a : Zp) : re2 (-a) = ng2 (re2 a) := bn rfl (by show (0 : Zp) = -0; exact z_n0'.symm)
theorem kW {a : Zp} (h : re2 a = ze2) : a = 0 := congrArg Prod.fst h
def HB : Hw E1 E12 where
 f := fun a => em (re2 a)
 w := WW
 fa := fun a b => by show em (re2 (a + b)) = _; rw [xm, xb]; rfl
 fm := fun a b => by show em (re2 (a * b)) = _; rw [zf, ← cY]; rfl
 fn := fun a => by show em (re2 (-a)) = _; rw [yV, oS]; rfl
 f0 := rfl
 fi := fun _ h => kW (qw h)
 wn := by decide +kernel
 wb := by decide +kernel
theorem WW2 : K12.mul WW WW = r6 VV := by decide +kernel
theorem CG (c : W2) : sc6 VV c = (ze2, c, ze2) := Prod.ext (R2.zero_mul c) (Prod.ext (R2.one_mul c) (R2.zero_mul c))
theorem yD (c : W2) : K12.mul (K12.mul WW WW) (em c) = r6 (ze2, c, ze2) := by rw [WW2, og, CG]
theorem F2 (x : W6) : K12.mul WW (r6 x) = (K6.zero, x) := by
 refine Prod.ext ?_ ?_
 ·show K6.add (K6.mul K6.zero x) (K6.mul VV (K6.mul K6.one K6.zero)) = K6.zero
  rw [K6.zero_mul, K6.mul_zero, K6.mul_zero, K6.add_zero]
 ·show K6.add (K6.mul K6.zero K6.zero) (K6.mul K6.one x) = x
  rw [K6.zero_mul, K6.zero_add, K6.one_mul]
theorem Ff (c : W2) : K12.mul (K12.mul WW (K12.mul WW WW)) (em c) = (K6.zero, (ze2, c, ze2)) := by rw [K12.mul_assoc, yD, F2]
theorem EO (S : Pt W2) (S' : Pt Zp) (_ : E2w.onP S) (h' : E1.onP S') (h : HE.p S = HB.p S') : S' = none := by
 cases S' with
 | none => rfl
 | some q =>
  cases S with
  | none => cases h
  | some s =>
   exfalso
   have h : HE.m s = HB.m q := Option.some.inj h
   have hx : K12.mul (K12.mul K12.one K12.one) (em s.1) = K12.mul (K12.mul WW WW) (em (re2 q.1)) := congrArg Prod.fst h
   have hy : K12.mul (K12.mul K12.one (K12.mul K12.one K12.one)) (em s.2) = K12.mul (K12.mul WW (K12.mul WW WW)) (em (re2 q.2)) := congrArg Prod.snd h
   rw [yD, K12.one_mul, K12.one_mul] at hx
   rw [Ff, K12.one_mul, K12.one_mul, K12.one_mul] at hy
   have x0 : q.1 = 0 := kW (congrArg (fun x : W12 => x.1.2.1) hx).symm
   have y0 : q.2 = 0 := kW (congrArg (fun x : W12 => x.2.2.1) hy).symm
   have k : q.2 * q.2 = q.1 * (q.1 * q.1) + zp 4 := h'
   rw [x0, y0] at k
   exact absurd k (by decide +kernel)
def AX : W2 := (zp 2, 0)
def AY : W2 := (zp 0x18c6b864ae17dc9da64203ffefb966306425a7bc6aeb7c75247438372716284a4173830420cd476ba1a365b95bfcec38, zp 0x172e93db764a8400a7d5071b6b6f5de0da2f0f4a063119abca014006b7c40a2cfe291a1924e65db0d6d0fcfbf3bf3d5c)
theorem A_on : E2w.on (AX, AY) := by
 unfold Ec.on
 decide +kernel
def l12 : List Bool := (eh 255 ORD []).tail
theorem He : bD l12 1 = ORD := by decide +kernel
theorem En : 2 * mB l12 1 < ((ORD - 1) / 2) * (ORD * ORD) := by decide +kernel
theorem Fp : 2 * ((ORD - 1) / 2) < ORD := by decide +kernel
theorem A_1 : (E2w.js AX AY l12 (AX, AY, on2)).2.2 ≠ ze2 := by decide +kernel
theorem A_2 : (E2w.js AX (ng2 AY) l12 (AX, ng2 AY, on2)).2.2 ≠ ze2 := by decide +kernel
theorem vu (s : W2 × W2) : HE.m s = (em s.1, em s.2) := by
 refine Prod.ext ?_ ?_
 ·show K12.mul (K12.mul K12.one K12.one) (em s.1) = em s.1
  rw [K12.one_mul, K12.one_mul]
 ·show K12.mul (K12.mul K12.one (K12.mul K12.one K12.one)) (em s.2) = em s.2
  rw [K12.one_mul, K12.one_mul, K12.one_mul]
theorem BU : E12.on (em AX, em AY) := by
 have h := HE.m_on A_on
 rw [vu] at h
 exact h
theorem FR : (some G2p : Pt W2) ≠ none := fun h => by cases h
theorem iU : E2w.onP (some G2p) := jD
theorem DD {l : List Bool} {r h : Nat} (hr : Pr r) (hl : bD l 1 = r) (hM : 2 * mB l 1 < h * (r * r)) (hh : 2 * h < r) (n1 : (E2w.js AX AY l (AX, AY, on2)).2.2 ≠ ze2) (n2 : (E2w.js AX (ng2 AY) l (AX, ng2 AY, on2)).2.2 ≠ ze2) (g1 : E1.times (some G1p) r = none) (g2 : E2w.times (some G2p) r = none) {P : Pt W2} (hP : E2w.onP P) (hp : E2w.times P r = none) : ∃ e, P = E2w.times (some G2p) e := by
 have m2 := HE.js_ne AX (ng2 AY) l n2
 have en : em (ng2 AY) = E12.R.neg (em AY) := oS AY
 have m2' : (E12.js (em AX) (em (ng2 AY)) l (em AX, em (ng2 AY), E12.R.one)).2.2 ≠ E12.R.zero := m2
 rw [en] at m2'
 exact tK HE HB EO (fun _ h0 h1 => oZ hr h0 h1) iU hP pZ g2 hp g1 FR FA hl BU (HE.js_ne AX AY l n1) m2' hh hM
theorem Bp {P : Pt W2} (hP : E2w.onP P) (h : E2w.times P ORD = none) : ∃ e, P = E2w.times (some G2p) e := DD mM He En Fp A_1 A_2 tE fY hP h
end
section
section
variable {α : Type} [DecidableEq α] (C : Ec α)
theorem Ec.line {c x y : α} (hc : C.R.add (C.R.add (C.R.mul c c) c) C.R.one = C.R.zero) (hp : C.on (x, y)) (hq : C.on (C.R.mul c x, y)) : C.ad (C.ad (some (x, y)) (some (C.R.mul c x, y))) (some (C.R.mul c (C.R.mul c x), y)) = none := by
 have ho : ¬ C.opp (x, y) (C.R.mul c x, y) := by
  intro h
  have h1 : x = C.R.mul c x := h.1
  have hy : y = C.R.zero := C.dbl0 h.2
  have e : C.R.mul (C.R.add (C.R.add C.R.one C.R.one) C.R.one) x = C.R.zero := Rg.lc (R := C.R) (zq C.R [x, y, c] (ta (tm (ta (ta to1 to1) to1) j0) (ta (tm j0 tz0) (tm (ta (ta to1 to1) j2) (tm j2 j0)))) (ta tz0 (ta (tm j0 (ta (ta (tm j2 j2) j2) to1)) (tm (ta (ta to1 to1) j2) j0)))) (lca (lcm hc) (lcm h1))
  have hx : x = C.R.zero := (C.fd.two e).resolve_left C.h3
  subst hx hy
  have k : C.R.mul C.R.zero C.R.zero = C.R.add (C.R.mul C.R.zero (C.R.mul C.R.zero C.R.zero)) C.b := hp
  rw [C.R.mul_zero, C.R.mul_zero, C.R.zero_add] at k
  exact C.hb k.symm
 have hs : C.Sl (x, y) (C.R.mul c x, y) C.R.zero := by
  refine ⟨?_, ?_⟩
  ·show C.R.mul C.R.zero (C.R.add x (C.R.neg (C.R.mul c x))) = C.R.add y (C.R.neg y)
   exact zq C.R [x, y, c] (tm tz0 (ta j0 (tn (tm j2 j0)))) (ta j1 (tn j1))
  ·show C.R.mul C.R.zero (C.R.add y y) = C.R.add (C.R.add (C.R.mul x x) (C.R.mul x (C.R.mul c x))) (C.R.mul (C.R.mul c x) (C.R.mul c x))
   exact Rg.lc (R := C.R) (zq C.R [x, y, c] (ta (tm tz0 (ta j1 j1)) (tm (tn (tm j0 j0)) tz0)) (ta (ta (ta (tm j0 j0) (tm j0 (tm j2 j0))) (tm (tm j2 j0) (tm j2 j0))) (tm (tn (tm j0 j0)) (ta (ta (tm j2 j2) j2) to1)))) (lcm hc)
 rw [C.ad_sl hp hq ho hs]
 refine C.ad_opp ⟨?_, ?_⟩
 ·show C.R.add (C.R.add (C.R.mul C.R.zero C.R.zero) (C.R.neg x)) (C.R.neg (C.R.mul c x)) = C.R.mul c (C.R.mul c x)
  exact Rg.lc (R := C.R) (zq C.R [x, y, c] (ta (ta (ta (tm tz0 tz0) (tn j0)) (tn (tm j2 j0))) (tm (tn j0) tz0)) (ta (tm j2 (tm j2 j0)) (tm (tn j0) (ta (ta (tm j2 j2) j2) to1)))) (lcm hc)
 ·show C.R.add (C.R.add (C.R.mul C.R.zero _) (C.R.neg y)) y = C.R.zero
  rw [C.R.zero_mul, C.R.zero_add, C.R.add_comm, C.R.add_neg]
variable {C} (T : Tw C)
theorem Hw.psi_in {P : Pt α} (hP : C.onP P) (line : C.ad (C.ad P (C.ne (T.p (T.p P)))) (T.p (T.p (T.p (T.p P)))) = none) {U r : Nat} (hU : r + U * U = (U * U) * (U * U) + 1) (h : C.ne (C.times P U) = T.p P) : C.times P r = none := by
 have two : ∀ {Q : Pt α}, C.onP Q → C.ne (C.times Q U) = T.p Q → T.p (T.p Q) = C.times Q (U * U) := fun {Q} hQ hq => by
  rw [← hq, T.p_ne, T.p_times hQ, ← hq, C.times_ne (C.times_on hQ U), C.ne_ne, C.times_mul hQ]
 have e2 := two hP h
 have hV := C.times_on hP (U * U)
 have h4 : C.ne (C.times (C.times P (U * U)) U) = T.p (C.times P (U * U)) := by
  rw [T.p_times hP, ← h, C.times_ne (C.times_on hP U), C.times_swap hP]
 have e4 := two hV h4
 rw [← C.times_mul hP] at e4
 rw [e2, e4] at line
 generalize U * U = V at *
 have hS := C.times_on hP (V * V)
 have e3 : C.ad (C.times P r) (C.times P V) = C.ad (C.times P (V * V)) P := by rw [← C.times_add hP, hU]; rfl
 have e5 : C.ad (C.ad (C.times P r) (C.times P V)) (C.ne (C.times P V)) = C.times P r := by
  rw [C.ad_assoc (C.times_on hP r) hV (C.ne_on hV), C.ad_ne, C.ad_nr]
 rw [← e5, e3, C.ad_assoc hS hP (C.ne_on hV), C.ad_comm hS (C.ad_on hP (C.ne_on hV)), line]
theorem Hw.psi_out {G : Pt α} (hG : C.onP G) {U : Nat} (h : C.ne (C.times G U) = T.p G) (e : Nat) : C.ne (C.times (C.times G e) U) = T.p (C.times G e) := by
 rw [T.p_times hG, ← h, C.times_ne (C.times_on hG U), C.times_swap hG e U]
end
/-! ### The second curve -/
def PW : W2 := (zp 0x5b2cfd9013a5fd8df47fa6b48b1e045f39816240c0b8fee8beadf4d8e9c0566c63a3e6e257f87329b18fae980078116, zp 0x5b2cfd9013a5fd8df47fa6b48b1e045f39816240c0b8fee8beadf4d8e9c0566c63a3e6e257f87329b18fae980078116)
def TXn : Nat := 0x1a0111ea397fe699ec02408663d4de85aa0d857d89759ad4897d29650fb85f9b409427eb4f49fffd8bfd00000000aaad
def TY0 : Nat := 0x135203e60180a68ee2e9c448d77a2cd91c3dedd930b1cf60ef396489f61eb45e304466cf3e67fa0af1ee7b04121bdea2
def TY1 : Nat := 0x6af0e0437ff400b6831e36d6bd17ffe48395dabc2d3435e77f76e17009241c5ee67992f72ec05f4c81084fbede3cc09
def TX2 : W2 := (0, zp TXn)
def TY2 : W2 := (zp TY0, zp TY1)
theorem PW_2 : ml2 PW PW = TX2 := by decide +kernel
theorem PW_3 : ml2 PW (ml2 PW PW) = TY2 := by decide +kernel
theorem yd (x : W2) : cj2 (ng2 x) = ng2 (cj2 x) := rfl
theorem tS {x : W2} (h : cj2 x = ze2) : x = ze2 := by
 have h1 : x.1 = 0 := congrArg Prod.fst h
 have h2 : -x.2 = 0 := congrArg Prod.snd h
 exact bn h1 (qP.1 h2)
def TW2 : Tw E2w where
 f := cj2
 w := PW
 fa := yO
 fm := gI
 fn := yd
 f0 := by decide +kernel
 fi := fun _ h => tS h
 wn := by decide +kernel
 wb := by decide +kernel
theorem um (q : W2 × W2) : TW2.m q = (ml2 TX2 (cj2 q.1), ml2 TY2 (cj2 q.2)) := by
 refine Prod.ext ?_ ?_
 ·show ml2 (ml2 PW PW) (cj2 q.1) = ml2 TX2 (cj2 q.1)
  rw [PW_2]
 ·show ml2 (ml2 PW (ml2 PW PW)) (cj2 q.2) = ml2 TY2 (cj2 q.2)
  rw [PW_3]
def TR2 : W2 := ml2 TX2 (cj2 TX2)
theorem yb : ad2 (ad2 (ml2 TR2 TR2) TR2) on2 = ze2 := by decide +kernel
theorem ES : ml2 TY2 (cj2 TY2) = ng2 on2 := by decide +kernel
theorem v7 (x : W2) : cj2 (cj2 x) = x := bn rfl (by show - -x.2 = x.2; generalize x.2 = a; grind)
theorem Gv (q : W2 × W2) : TW2.m (TW2.m q) = (ml2 TR2 q.1, ng2 q.2) := by
 rw [um, um]
 refine Prod.ext ?_ ?_
 ·show ml2 TX2 (cj2 (ml2 TX2 (cj2 q.1))) = ml2 (ml2 TX2 (cj2 TX2)) q.1
  rw [gI, v7]
  exact (R2.mul_assoc _ _ _).symm
 ·show ml2 TY2 (cj2 (ml2 TY2 (cj2 q.2))) = ng2 q.2
  rw [gI, v7]
  refine (R2.mul_assoc _ _ _).symm.trans ?_
  show ml2 (ml2 TY2 (cj2 TY2)) q.2 = ng2 q.2
  rw [ES]
  refine (R2.neg_mul _ _).trans ?_
  exact congrArg ng2 (R2.one_mul q.2)
theorem w5 {P : Pt W2} (hP : E2w.onP P) : E2w.ad (E2w.ad P (E2w.ne (TW2.p (TW2.p P)))) (TW2.p (TW2.p (TW2.p (TW2.p P)))) = none := by
 cases P with
 | none => rfl
 | some q =>
  have e2 : ∀ s : W2 × W2, TW2.p (TW2.p (some s)) = some (ml2 TR2 s.1, ng2 s.2) := fun s => congrArg some (Gv s)
  have o2 : E2w.onP (TW2.p (TW2.p (some q))) := TW2.p_on (TW2.p_on hP)
  rw [e2] at o2
  have nn : ∀ a : W2, ng2 (ng2 a) = a := R2.neg_neg
  have on3 := E2w.ne_on o2
  rw [show E2w.ne (some (ml2 TR2 q.1, ng2 q.2)) = some (ml2 TR2 q.1, ng2 (ng2 q.2)) from rfl, nn] at on3
  rw [e2, e2, show E2w.ne (some (ml2 TR2 q.1, ng2 q.2)) = some (ml2 TR2 q.1, ng2 (ng2 q.2)) from rfl, nn]
  show E2w.ad (E2w.ad (some (q.1, q.2)) (some (ml2 TR2 q.1, q.2))) (some (ml2 TR2 (ml2 TR2 q.1), q.2)) = none
  exact E2w.line yb hP on3
def lf : W6 := E2w.jm (G2p.1, G2p.2, on2) (eh 64 UG []) (ze2, ze2, ze2)
theorem xj : E2w.jm (G2p.1, G2p.2, on2) (eh 64 UG []) (E2w.R.zero, E2w.R.zero, E2w.R.zero) = lf := by unfold lf; rfl
theorem ug64 : lL (eh 64 UG []) 0 = UG := by decide +kernel
theorem A6 : lf.2.2 ≠ ze2 ∧ lf.1 = ml2 (ml2 TX2 (cj2 G2p.1)) (ml2 lf.2.2 lf.2.2) ∧ lf.2.1 = ml2 (ng2 (ml2 TY2 (cj2 G2p.2))) (ml2 (ml2 lf.2.2 lf.2.2) lf.2.2) := by decide +kernel
theorem G2_u : E2w.times (some G2p) UG = some (ml2 TX2 (cj2 G2p.1), ng2 (ml2 TY2 (cj2 G2p.2))) := Ex E2w (P := some G2p) jD tt (eh 64 UG []) ug64 xj A6.1 A6.2.1 A6.2.2
theorem F6 : E2w.ne (E2w.times (some G2p) UG) = TW2.p (some G2p) := by
 rw [G2_u]
 refine congrArg some ((Prod.ext rfl ?_ : _ = (ml2 TX2 (cj2 G2p.1), ml2 TY2 (cj2 G2p.2))).trans (um G2p).symm)
 show ng2 (ng2 (ml2 TY2 (cj2 G2p.2))) = ml2 TY2 (cj2 G2p.2)
 exact R2.neg_neg _
theorem zZ {P : Pt W2} (hP : E2w.onP P) : E2w.ne (E2w.times P UG) = TW2.p P ↔ E2w.times P ORD = none := by
 constructor
 ·exact fun h => TW2.psi_in hP (w5 hP) Ce h
 ·intro h
  obtain ⟨e, rfl⟩ := Bp hP h
  exact TW2.psi_out iU F6 e
end
section
open Go.RowKit
theorem a7 {f : FuncId} {fn : Func} {c : Code} {args : List Value} {v : Value} (hf : Tryz.prog.funcs[f]? = some fn) (h : ∀ w, Gt w → BOk Gt (pl w) → X Tryz.prog Gt none fn.ntmps [] c (f9 0 args) (Hp (pl w) []) (jf Tryz.prog fn (fun e w' => e = .returned v ∧ Grow w w'))) (hb : fn.body = some c := by exact rfl) (hn : Nat.ble args.length fn.ntmps = true := by exact rfl) : Pure Tryz.prog Gt f args v := fun w hw => aN (G := Gt) hf hb hn (Hp (pl w) []) (aZ (pl w) trivial ai) (ap (gt_low.plain hw)) (h w hw (gt_low.plain hw))
section
variable {G : Cls} {ro : Option Nat} {ops : Array Oper} {N : Nat} {ds : List Deferred} {fs : List Nat} {Z : Fr → Cls → Prop} {F : Fr} {C : Cls} {rest : List Oper}
variable {d : Nat} {ty : TypeId} {pos : String} {af : Array Edge} {gd : Option (Nat × Bool)} {B : Bs} {L : Hl}
structure LY (P : Program) (G : Cls) (ro : Option Nat) (ops : Array Oper) (N : Nat) (ds : List Deferred) (E : Oper → Bool) (Z : Fr → Cls → Prop) (l : List Oper) (F : Fr) (C : Cls) : Prop where
 run : Lx P G ro ops N ds E Z l F C
theorem xp {P : Program} {id : Nat} {l : List Oper} {y : Code} {K : KK} (h : Lx P G ro l.toArray N ds (EE []) (fun F' C' => X P G ro N ds y F' C' K) l F C) : X P G ro N ds (.seq (.region id l.toArray false) y) F C K := ab h
theorem rt {Q P : Prop} (k : Q) (h : Q → P := by intro k; (refine cG ?_); (repeat (first | refine aQ ?_ | refine aP ?_)); exact k) : P := h k
theorem ka (d : Nat) (v : Value) (F : Fr) : evF ((d, v) :: F) (.tmp d) = some v := by simp [evF, lk]
theorem cn {P : Program} {E : Oper → Bool} (h : Z F C) : LY P G ro ops N ds E Z [] F C := ⟨aa h⟩
theorem bK {x : Operand} {v : Value} (hx : evF F x = some v) (hw : aq ops F ⟨some d, .move x, ty, pos, af, gd⟩ = some true) (hd : Nat.blt d N = true) (h : LY Tryz.prog G ro ops N ds (EE fs) Z rest ((d, v) :: F) C) : LY Tryz.prog G ro ops N ds (EE fs) Z (⟨some d, .move x, ty, pos, af, gd⟩ :: rest) F C := ⟨aC hx hw hd h.run⟩
theorem bk {x : Operand} {v : Value} (hx : evF F x = some v) (hw : aq ops F ⟨some d, .assign x, ty, pos, af, gd⟩ = some true) (hd : Nat.blt d N = true) (h : LY Tryz.prog G ro ops N ds (EE fs) Z rest ((d, v) :: F) C) : LY Tryz.prog G ro ops N ds (EE fs) Z (⟨some d, .assign x, ty, pos, af, gd⟩ :: rest) F C := ⟨aK hx hw hd h.run⟩
theorem go {x : Operand} {i : Nat} {vs : Array Value} {v : Value} (hx : evF F x = some (.tuple vs)) (hv : vs[i]? = some v) (hw : aq ops F ⟨some d, .extract x i, ty, pos, af, gd⟩ = some true) (hd : Nat.blt d N = true) (h : LY Tryz.prog G ro ops N ds (EE fs) Z rest ((d, v) :: F) C) : LY Tryz.prog G ro ops N ds (EE fs) Z (⟨some d, .extract x i, ty, pos, af, gd⟩ :: rest) F C := ⟨ch hx hv hw hd h.run⟩
theorem fD {c x y : Operand} {b : Bool} {vx vy : Value} (hc : evF F c = some (.bool b)) (hx : evF F x = some vx) (hy : evF F y = some vy) (hw : aq ops F ⟨some d, .pick c x y, ty, pos, af, gd⟩ = some true) (hd : Nat.blt d N = true) (h : LY Tryz.prog G ro ops N ds (EE fs) Z rest ((d, if b then vx else vy) :: F) C) : LY Tryz.prog G ro ops N ds (EE fs) Z (⟨some d, .pick c x y, ty, pos, af, gd⟩ :: rest) F C := ⟨rT hc hx hy hw hd h.run⟩
theorem bP {f : Nat} {al : List Operand} {at' : Array TypeId} {vs : List Value} {v : Value} (hf : fs.any (Nat.beq f) = false) (ha : evL F al = some vs) (he : ae Tryz.prog f) (hp : Pure Tryz.prog G f vs v) (hw : aq ops F ⟨some d, .call { callee := .value (.func f), args := al.toArray, argTypes := at' }, ty, pos, af, gd⟩ = some true) (hd : Nat.blt d N = true) (h : LY Tryz.prog G ro ops N ds (EE fs) Z rest ((d, v) :: F) C) : LY Tryz.prog G ro ops N ds (EE fs) Z (⟨some d, .call { callee := .value (.func f), args := al.toArray, argTypes := at' }, ty, pos, af, gd⟩ :: rest) F C := ⟨az hf ha he hp hw hd h.run⟩
theorem la {t : TypeId} {l : List Value} (hz : ∀ w, (zeroValue t).run Tryz.prog w = .ok (.agg l.toArray) w) (h : ∀ b, Lx Tryz.prog G ro ops N ds (EE fs) Z rest ((d, .pointer (some ⟨b, 0, none⟩)) :: F) (Hp B ((d, b, l, t) :: L))) (hG : BOk G B := by exact hGF) (hw : aq ops F ⟨some d, .alloc t, ty, pos, af, gd⟩ = some true := by exact rfl) (hd : Nat.blt d N = true := by exact rfl) (hgr : fs.any (Nat.beq 2999999) = false := by exact rfl) : Lx Tryz.prog G ro ops N ds (EE fs) Z (⟨some d, .alloc t, ty, pos, af, gd⟩ :: rest) F (Hp B L) := bM d hG hz hw hd h hgr
theorem lb {t : TypeId} {x : Operand} {l : List Value} (h : ∀ b, Lx Tryz.prog G ro ops N ds (EE fs) Z rest ((d, .pointer (some ⟨b, 0, none⟩)) :: F) (Hp B ((d, b, l, t) :: L))) (hG : BOk G B := by exact hGF) (hx : evF F x = some (.agg l.toArray) := by exact rfl) (hw : aq ops F ⟨some d, .box t x, ty, pos, af, gd⟩ = some true := by exact rfl) (hd : Nat.blt d N = true := by exact rfl) : Lx Tryz.prog G ro ops N ds (EE fs) Z (⟨some d, .box t x, ty, pos, af, gd⟩ :: rest) F (Hp B L) := dj d hG hx hw hd h
theorem lc {f : Nat} {al : List Operand} {at' : Array TypeId} {vs : List Value} {v : Value} (he : ae Tryz.prog f) (hp : Pure Tryz.prog G f vs v) (h : Lx Tryz.prog G ro ops N ds (EE fs) Z rest ((d, v) :: F) C) (hf : fs.any (Nat.beq f) = false := by exact rfl) (ha : evL F al = some vs := by exact rfl) (hw : aq ops F ⟨some d, .call { callee := .value (.func f), args := al.toArray, argTypes := at' }, ty, pos, af, gd⟩ = some true := by exact rfl) (hd : Nat.blt d N = true := by exact rfl) : Lx Tryz.prog G ro ops N ds (EE fs) Z (⟨some d, .call { callee := .value (.func f), args := al.toArray, argTypes := at' }, ty, pos, af, gd⟩ :: rest) F C := az hf ha he hp hw hd h
theorem zg {n b d2 : Nat} {et ty2 : TypeId} {pos2 : String} {af2 : Array Edge} {gd2 : Option (Nat × Bool)} {c : List Value} (hx : evF F (.tmp n) = some (.pointer (some ⟨b, 0, none⟩))) (hl : lkB L n = some (b, c, et)) (hm : c.length = 6) (hw : aq ops F ⟨some d, .fieldAddr 27 (.tmp n) 0, ty, pos, af, gd⟩ = some true) (hd : Nat.blt d N = true) (hw2 : aq ops ((d, .pointer (some ⟨b, 0, none⟩)) :: F) ⟨some d2, .load 25 (.tmp d), ty2, pos2, af2, gd2⟩ = some true) (hd2 : Nat.blt d2 N = true) (h : LY Tryz.prog G ro ops N ds (EE fs) Z rest ((d2, .agg c.toArray) :: (d, .pointer (some ⟨b, 0, none⟩)) :: F) (Hp B L)) : LY Tryz.prog G ro ops N ds (EE fs) Z (⟨some d, .fieldAddr 27 (.tmp n) 0, ty, pos, af, gd⟩ :: ⟨some d2, .load 25 (.tmp d), ty2, pos2, af2, gd2⟩ :: rest) F (Hp B L) :=
 ⟨bR 0 hx Tryz.underlying27 rfl Tryz.sizeOf25 (by decide) rfl hw hd (a8 n _ (ka _ _ _) hl Tryz.isAgg25 Tryz.sizeOf25 hm (fun j v h => (by rw [Nat.zero_add]; exact h)) hw2 hd2 h.run)⟩
theorem yH {n b d2 : Nat} {et ty2 : TypeId} {pos2 : String} {af2 : Array Edge} {gd2 : Option (Nat × Bool)} {u v : List (BitVec 64)} (hx : evF F (.tmp n) = some (.pointer (some ⟨b, 0, none⟩))) (hl : lkB L n = some (b, (u ++ v).map U64, et)) (hm : u.length = 12) (hw : aq ops F ⟨some d, .fieldAddr 47 (.tmp n) 0, ty, pos, af, gd⟩ = some true) (hd : Nat.blt d N = true) (hw2 : aq ops ((d, .pointer (some ⟨b, 0, none⟩)) :: F) ⟨some d2, .load 33 (.tmp d), ty2, pos2, af2, gd2⟩ = some true) (hd2 : Nat.blt d2 N = true) (h : LY Tryz.prog G ro ops N ds (EE fs) Z rest ((d2, .agg (u.map U64).toArray) :: (d, .pointer (some ⟨b, 0, none⟩)) :: F) (Hp B L)) : LY Tryz.prog G ro ops N ds (EE fs) Z (⟨some d, .fieldAddr 47 (.tmp n) 0, ty, pos, af, gd⟩ :: ⟨some d2, .load 33 (.tmp d), ty2, pos2, af2, gd2⟩ :: rest) F (Hp B L) :=
 ⟨bR 0 hx Tryz.underlying47 rfl Tryz.sizeOf33 (by decide) rfl hw hd (a8 n _ (ka _ _ _) hl Tryz.isAgg33 Tryz.sizeOf33 ((List.length_map _).trans hm) (m8) hw2 hd2 h.run)⟩
theorem xf {n b d2 : Nat} {et ty2 : TypeId} {pos2 : String} {af2 : Array Edge} {gd2 : Option (Nat × Bool)} {u v z : List (BitVec 64)} (hx : evF F (.tmp n) = some (.pointer (some ⟨b, 0, none⟩))) (hl : lkB L n = some (b, (u ++ (v ++ z)).map U64, et)) (hu : u.length = 12) (hm : v.length = 12) (hw : aq ops F ⟨some d, .fieldAddr 47 (.tmp n) 1, ty, pos, af, gd⟩ = some true) (hd : Nat.blt d N = true) (hw2 : aq ops ((d, .pointer (some ⟨b, 12, none⟩)) :: F) ⟨some d2, .load 33 (.tmp d), ty2, pos2, af2, gd2⟩ = some true) (hd2 : Nat.blt d2 N = true) (h : LY Tryz.prog G ro ops N ds (EE fs) Z rest ((d2, .agg (v.map U64).toArray) :: (d, .pointer (some ⟨b, 12, none⟩)) :: F) (Hp B L)) : LY Tryz.prog G ro ops N ds (EE fs) Z (⟨some d, .fieldAddr 47 (.tmp n) 1, ty, pos, af, gd⟩ :: ⟨some d2, .load 33 (.tmp d), ty2, pos2, af2, gd2⟩ :: rest) F (Hp B L) :=
 ⟨bR 12 hx Tryz.underlying47 rfl Tryz.sizeOf33 (by decide) rfl hw hd (a8 n _ (ka _ _ _) hl Tryz.isAgg33 Tryz.sizeOf33 ((List.length_map _).trans hm) (BR hu) hw2 hd2 h.run)⟩
theorem yG {n b d2 : Nat} {et ty2 : TypeId} {pos2 : String} {af2 : Array Edge} {gd2 : Option (Nat × Bool)} {u v z : List (BitVec 64)} (hx : evF F (.tmp n) = some (.pointer (some ⟨b, 0, none⟩))) (hl : lkB L n = some (b, (u ++ (v ++ z)).map U64, et)) (hu : u.length = 12) (hv : v.length = 12) (hm : z.length = 12) (hw : aq ops F ⟨some d, .fieldAddr 47 (.tmp n) 2, ty, pos, af, gd⟩ = some true) (hd : Nat.blt d N = true) (hw2 : aq ops ((d, .pointer (some ⟨b, 24, none⟩)) :: F) ⟨some d2, .load 33 (.tmp d), ty2, pos2, af2, gd2⟩ = some true) (hd2 : Nat.blt d2 N = true) (h : LY Tryz.prog G ro ops N ds (EE fs) Z rest ((d2, .agg (z.map U64).toArray) :: (d, .pointer (some ⟨b, 24, none⟩)) :: F) (Hp B L)) : LY Tryz.prog G ro ops N ds (EE fs) Z (⟨some d, .fieldAddr 47 (.tmp n) 2, ty, pos, af, gd⟩ :: ⟨some d2, .load 33 (.tmp d), ty2, pos2, af2, gd2⟩ :: rest) F (Hp B L) :=
 ⟨bR 24 hx Tryz.underlying47 rfl Tryz.sizeOf33 (by decide) rfl hw hd (a8 n _ (ka _ _ _) hl Tryz.isAgg33 Tryz.sizeOf33 ((List.length_map _).trans hm) (ua hu hv rfl) hw2 hd2 h.run)⟩
theorem ym {n b d2 : Nat} {et ty2 : TypeId} {pos2 : String} {af2 : Array Edge} {gd2 : Option (Nat × Bool)} {u v : List (BitVec 64)} (hx : evF F (.tmp n) = some (.pointer (some ⟨b, 0, none⟩))) (hl : lkB L n = some (b, (u ++ v).map U64, et)) (hm : u.length = 36) (hw : aq ops F ⟨some d, .fieldAddr 49 (.tmp n) 0, ty, pos, af, gd⟩ = some true) (hd : Nat.blt d N = true) (hw2 : aq ops ((d, .pointer (some ⟨b, 0, none⟩)) :: F) ⟨some d2, .load 47 (.tmp d), ty2, pos2, af2, gd2⟩ = some true) (hd2 : Nat.blt d2 N = true) (h : LY Tryz.prog G ro ops N ds (EE fs) Z rest ((d2, .agg (u.map U64).toArray) :: (d, .pointer (some ⟨b, 0, none⟩)) :: F) (Hp B L)) : LY Tryz.prog G ro ops N ds (EE fs) Z (⟨some d, .fieldAddr 49 (.tmp n) 0, ty, pos, af, gd⟩ :: ⟨some d2, .load 47 (.tmp d), ty2, pos2, af2, gd2⟩ :: rest) F (Hp B L) :=
 ⟨bR 0 hx Tryz.underlying49 rfl Tryz.sizeOf47 (by decide) rfl hw hd (a8 n _ (ka _ _ _) hl Tryz.isAgg47 Tryz.sizeOf47 ((List.length_map _).trans hm) (m8) hw2 hd2 h.run)⟩
theorem yF {n b d2 : Nat} {et ty2 : TypeId} {pos2 : String} {af2 : Array Edge} {gd2 : Option (Nat × Bool)} {u v : List (BitVec 64)} (hx : evF F (.tmp n) = some (.pointer (some ⟨b, 0, none⟩))) (hl : lkB L n = some (b, (u ++ v).map U64, et)) (hu : u.length = 36) (hm : v.length = 36) (hw : aq ops F ⟨some d, .fieldAddr 49 (.tmp n) 1, ty, pos, af, gd⟩ = some true) (hd : Nat.blt d N = true) (hw2 : aq ops ((d, .pointer (some ⟨b, 36, none⟩)) :: F) ⟨some d2, .load 47 (.tmp d), ty2, pos2, af2, gd2⟩ = some true) (hd2 : Nat.blt d2 N = true) (h : LY Tryz.prog G ro ops N ds (EE fs) Z rest ((d2, .agg (v.map U64).toArray) :: (d, .pointer (some ⟨b, 36, none⟩)) :: F) (Hp B L)) : LY Tryz.prog G ro ops N ds (EE fs) Z (⟨some d, .fieldAddr 49 (.tmp n) 1, ty, pos, af, gd⟩ :: ⟨some d2, .load 47 (.tmp d), ty2, pos2, af2, gd2⟩ :: rest) F (Hp B L) :=
 ⟨bR 36 hx Tryz.underlying49 rfl Tryz.sizeOf47 (by decide) rfl hw hd (a8 n _ (ka _ _ _) hl Tryz.isAgg47 Tryz.sizeOf47 ((List.length_map _).trans hm) (qd hu) hw2 hd2 h.run)⟩
theorem rq {n b d2 : Nat} {et ty2 : TypeId} {pos2 : String} {af2 : Array Edge} {gd2 : Option (Nat × Bool)} {c : List Value} (hx : evF F (.tmp n) = some (.pointer (some ⟨b, 0, none⟩))) (hl : lkB L n = some (b, c, et)) (hm : c.length = 6) (hw : aq ops F ⟨some d, .fieldAddr 63 (.tmp n) 0, ty, pos, af, gd⟩ = some true) (hd : Nat.blt d N = true) (hw2 : aq ops ((d, .pointer (some ⟨b, 0, none⟩)) :: F) ⟨some d2, .load 25 (.tmp d), ty2, pos2, af2, gd2⟩ = some true) (hd2 : Nat.blt d2 N = true) (h : LY Tryz.prog G ro ops N ds (EE fs) Z rest ((d2, .agg c.toArray) :: (d, .pointer (some ⟨b, 0, none⟩)) :: F) (Hp B L)) : LY Tryz.prog G ro ops N ds (EE fs) Z (⟨some d, .fieldAddr 63 (.tmp n) 0, ty, pos, af, gd⟩ :: ⟨some d2, .load 25 (.tmp d), ty2, pos2, af2, gd2⟩ :: rest) F (Hp B L) :=
 ⟨bR 0 hx Tryz.underlying63 rfl Tryz.sizeOf25 (by decide) rfl hw hd (a8 n _ (ka _ _ _) hl Tryz.isAgg25 Tryz.sizeOf25 hm (fun j v h => (by rw [Nat.zero_add]; exact h)) hw2 hd2 h.run)⟩
theorem CC {n b : Nat} {c : List Value} {et : TypeId} (hx : evF F (.tmp n) = some (.pointer (some ⟨b, 0, none⟩))) (hl : lkB L n = some (b, c, et)) (hm : c.length = 6) (hw : aq ops F ⟨some d, .load 25 (.tmp n), ty, pos, af, gd⟩ = some true) (hd : Nat.blt d N = true) (h : LY Tryz.prog G ro ops N ds (EE fs) Z rest ((d, .agg c.toArray) :: F) (Hp B L)) : LY Tryz.prog G ro ops N ds (EE fs) Z (⟨some d, .load 25 (.tmp n), ty, pos, af, gd⟩ :: rest) F (Hp B L) := ⟨ay n hx hl Tryz.isAgg25 Tryz.sizeOf25 hm hw hd h.run⟩
theorem nZ {n b : Nat} {c : List Value} {et : TypeId} (hx : evF F (.tmp n) = some (.pointer (some ⟨b, 0, none⟩))) (hl : lkB L n = some (b, c, et)) (hm : c.length = 6) (hw : aq ops F ⟨some d, .load 27 (.tmp n), ty, pos, af, gd⟩ = some true) (hd : Nat.blt d N = true) (h : LY Tryz.prog G ro ops N ds (EE fs) Z rest ((d, .agg c.toArray) :: F) (Hp B L)) : LY Tryz.prog G ro ops N ds (EE fs) Z (⟨some d, .load 27 (.tmp n), ty, pos, af, gd⟩ :: rest) F (Hp B L) := ⟨ay n hx hl Tryz.isAgg27 Tryz.sizeOf27 hm hw hd h.run⟩
theorem xr {n b : Nat} {c : List Value} {et : TypeId} (hx : evF F (.tmp n) = some (.pointer (some ⟨b, 0, none⟩))) (hl : lkB L n = some (b, c, et)) (hm : c.length = 18) (hw : aq ops F ⟨some d, .load 29 (.tmp n), ty, pos, af, gd⟩ = some true) (hd : Nat.blt d N = true) (h : LY Tryz.prog G ro ops N ds (EE fs) Z rest ((d, .agg c.toArray) :: F) (Hp B L)) : LY Tryz.prog G ro ops N ds (EE fs) Z (⟨some d, .load 29 (.tmp n), ty, pos, af, gd⟩ :: rest) F (Hp B L) := ⟨ay n hx hl Tryz.isAgg29 Tryz.sizeOf29 hm hw hd h.run⟩
theorem vm {n b : Nat} {c : List Value} {et : TypeId} (hx : evF F (.tmp n) = some (.pointer (some ⟨b, 0, none⟩))) (hl : lkB L n = some (b, c, et)) (hm : c.length = 12) (hw : aq ops F ⟨some d, .load 33 (.tmp n), ty, pos, af, gd⟩ = some true) (hd : Nat.blt d N = true) (h : LY Tryz.prog G ro ops N ds (EE fs) Z rest ((d, .agg c.toArray) :: F) (Hp B L)) : LY Tryz.prog G ro ops N ds (EE fs) Z (⟨some d, .load 33 (.tmp n), ty, pos, af, gd⟩ :: rest) F (Hp B L) := ⟨ay n hx hl Tryz.isAgg33 Tryz.sizeOf33 hm hw hd h.run⟩
theorem xV {n b : Nat} {c : List Value} {et : TypeId} (hx : evF F (.tmp n) = some (.pointer (some ⟨b, 0, none⟩))) (hl : lkB L n = some (b, c, et)) (hm : c.length = 36) (hw : aq ops F ⟨some d, .load 35 (.tmp n), ty, pos, af, gd⟩ = some true) (hd : Nat.blt d N = true) (h : LY Tryz.prog G ro ops N ds (EE fs) Z rest ((d, .agg c.toArray) :: F) (Hp B L)) : LY Tryz.prog G ro ops N ds (EE fs) Z (⟨some d, .load 35 (.tmp n), ty, pos, af, gd⟩ :: rest) F (Hp B L) := ⟨ay n hx hl Tryz.isAgg35 Tryz.sizeOf35 hm hw hd h.run⟩
theorem El {n b : Nat} {c : List Value} {et : TypeId} (hx : evF F (.tmp n) = some (.pointer (some ⟨b, 0, none⟩))) (hl : lkB L n = some (b, c, et)) (hm : c.length = 36) (hw : aq ops F ⟨some d, .load 47 (.tmp n), ty, pos, af, gd⟩ = some true) (hd : Nat.blt d N = true) (h : LY Tryz.prog G ro ops N ds (EE fs) Z rest ((d, .agg c.toArray) :: F) (Hp B L)) : LY Tryz.prog G ro ops N ds (EE fs) Z (⟨some d, .load 47 (.tmp n), ty, pos, af, gd⟩ :: rest) F (Hp B L) := ⟨ay n hx hl Tryz.isAgg47 Tryz.sizeOf47 hm hw hd h.run⟩
theorem vS {n b : Nat} {c : List Value} {et : TypeId} (hx : evF F (.tmp n) = some (.pointer (some ⟨b, 0, none⟩))) (hl : lkB L n = some (b, c, et)) (hm : c.length = 72) (hw : aq ops F ⟨some d, .load 49 (.tmp n), ty, pos, af, gd⟩ = some true) (hd : Nat.blt d N = true) (h : LY Tryz.prog G ro ops N ds (EE fs) Z rest ((d, .agg c.toArray) :: F) (Hp B L)) : LY Tryz.prog G ro ops N ds (EE fs) Z (⟨some d, .load 49 (.tmp n), ty, pos, af, gd⟩ :: rest) F (Hp B L) := ⟨ay n hx hl Tryz.isAgg49 Tryz.sizeOf49 hm hw hd h.run⟩
theorem ra53 {n b : Nat} {c : List Value} {et : TypeId} (hx : evF F (.tmp n) = some (.pointer (some ⟨b, 0, none⟩))) (hl : lkB L n = some (b, c, et)) (hm : c.length = 36) (hw : aq ops F ⟨some d, .load 53 (.tmp n), ty, pos, af, gd⟩ = some true) (hd : Nat.blt d N = true) (h : LY Tryz.prog G ro ops N ds (EE fs) Z rest ((d, .agg c.toArray) :: F) (Hp B L)) : LY Tryz.prog G ro ops N ds (EE fs) Z (⟨some d, .load 53 (.tmp n), ty, pos, af, gd⟩ :: rest) F (Hp B L) := ⟨ay n hx hl Tryz.isAgg53 Tryz.sizeOf53 hm hw hd h.run⟩
theorem BI {n b : Nat} {c : List Value} {et : TypeId} (hx : evF F (.tmp n) = some (.pointer (some ⟨b, 0, none⟩))) (hl : lkB L n = some (b, c, et)) (hm : c.length = 6) (hw : aq ops F ⟨some d, .load 63 (.tmp n), ty, pos, af, gd⟩ = some true) (hd : Nat.blt d N = true) (h : LY Tryz.prog G ro ops N ds (EE fs) Z rest ((d, .agg c.toArray) :: F) (Hp B L)) : LY Tryz.prog G ro ops N ds (EE fs) Z (⟨some d, .load 63 (.tmp n), ty, pos, af, gd⟩ :: rest) F (Hp B L) := ⟨ay n hx hl Tryz.isAgg63 Tryz.sizeOf63 hm hw hd h.run⟩
theorem EW {n b : Nat} {c : List Value} {et : TypeId} (hx : evF F (.tmp n) = some (.pointer (some ⟨b, 0, none⟩))) (hl : lkB L n = some (b, c, et)) (hm : c.length = 36) (hw : aq ops F ⟨some d, .load 178 (.tmp n), ty, pos, af, gd⟩ = some true) (hd : Nat.blt d N = true) (h : LY Tryz.prog G ro ops N ds (EE fs) Z rest ((d, .agg c.toArray) :: F) (Hp B L)) : LY Tryz.prog G ro ops N ds (EE fs) Z (⟨some d, .load 178 (.tmp n), ty, pos, af, gd⟩ :: rest) F (Hp B L) := ⟨ay n hx hl Tryz.isAgg178 Tryz.sizeOf178 hm hw hd h.run⟩
theorem FK {n b : Nat} {c : List Value} {et : TypeId} (hx : evF F (.tmp n) = some (.pointer (some ⟨b, 0, none⟩))) (hl : lkB L n = some (b, c, et)) (hm : c.length = 72) (hw : aq ops F ⟨some d, .load 192 (.tmp n), ty, pos, af, gd⟩ = some true) (hd : Nat.blt d N = true) (h : LY Tryz.prog G ro ops N ds (EE fs) Z rest ((d, .agg c.toArray) :: F) (Hp B L)) : LY Tryz.prog G ro ops N ds (EE fs) Z (⟨some d, .load 192 (.tmp n), ty, pos, af, gd⟩ :: rest) F (Hp B L) := ⟨ay n hx hl Tryz.isAgg192 Tryz.sizeOf192 hm hw hd h.run⟩
theorem Eb {n b : Nat} {c : List Value} {et : TypeId} (hx : evF F (.tmp n) = some (.pointer (some ⟨b, 0, none⟩))) (hl : lkB L n = some (b, c, et)) (hm : c.length = 96) (hw : aq ops F ⟨some d, .load 209 (.tmp n), ty, pos, af, gd⟩ = some true) (hd : Nat.blt d N = true) (h : LY Tryz.prog G ro ops N ds (EE fs) Z rest ((d, .agg c.toArray) :: F) (Hp B L)) : LY Tryz.prog G ro ops N ds (EE fs) Z (⟨some d, .load 209 (.tmp n), ty, pos, af, gd⟩ :: rest) F (Hp B L) := ⟨ay n hx hl Tryz.isAgg209 Tryz.sizeOf209 hm hw hd h.run⟩
theorem Bg {n b : Nat} {y : Operand} {c vs : List Value} {et : TypeId} (hG : BOk G B) (hx : evF F (.tmp n) = some (.pointer (some ⟨b, 0, none⟩))) (hy : evF F y = some (.agg vs.toArray)) (hl : lkB L n = some (b, c, et)) (hm : vs.length = 6) (hc : c.length = 6) (hv : vs.all (·.oneCell') = true) (hw : aq ops F ⟨none, .store 25 (.tmp n) y, ty, pos, af, gd⟩ = some true) (h : LY Tryz.prog G ro ops N ds (EE fs) Z rest F (Hp B ((n, b, vs, et) :: L))) : LY Tryz.prog G ro ops N ds (EE fs) Z (⟨none, .store 25 (.tmp n) y, ty, pos, af, gd⟩ :: rest) F (Hp B L) := ⟨ao n hG hx hy hl Tryz.sizeOf25 hm hc hv hw h.run⟩
theorem oX {n b : Nat} {y : Operand} {c vs : List Value} {et : TypeId} (hG : BOk G B) (hx : evF F (.tmp n) = some (.pointer (some ⟨b, 0, none⟩))) (hy : evF F y = some (.agg vs.toArray)) (hl : lkB L n = some (b, c, et)) (hm : vs.length = 6) (hc : c.length = 6) (hv : vs.all (·.oneCell') = true) (hw : aq ops F ⟨none, .store 27 (.tmp n) y, ty, pos, af, gd⟩ = some true) (h : LY Tryz.prog G ro ops N ds (EE fs) Z rest F (Hp B ((n, b, vs, et) :: L))) : LY Tryz.prog G ro ops N ds (EE fs) Z (⟨none, .store 27 (.tmp n) y, ty, pos, af, gd⟩ :: rest) F (Hp B L) := ⟨ao n hG hx hy hl Tryz.sizeOf27 hm hc hv hw h.run⟩
theorem xH {n b : Nat} {y : Operand} {c vs : List Value} {et : TypeId} (hG : BOk G B) (hx : evF F (.tmp n) = some (.pointer (some ⟨b, 0, none⟩))) (hy : evF F y = some (.agg vs.toArray)) (hl : lkB L n = some (b, c, et)) (hm : vs.length = 18) (hc : c.length = 18) (hv : vs.all (·.oneCell') = true) (hw : aq ops F ⟨none, .store 29 (.tmp n) y, ty, pos, af, gd⟩ = some true) (h : LY Tryz.prog G ro ops N ds (EE fs) Z rest F (Hp B ((n, b, vs, et) :: L))) : LY Tryz.prog G ro ops N ds (EE fs) Z (⟨none, .store 29 (.tmp n) y, ty, pos, af, gd⟩ :: rest) F (Hp B L) := ⟨ao n hG hx hy hl Tryz.sizeOf29 hm hc hv hw h.run⟩
theorem xU {n b : Nat} {y : Operand} {c vs : List Value} {et : TypeId} (hG : BOk G B) (hx : evF F (.tmp n) = some (.pointer (some ⟨b, 0, none⟩))) (hy : evF F y = some (.agg vs.toArray)) (hl : lkB L n = some (b, c, et)) (hm : vs.length = 12) (hc : c.length = 12) (hv : vs.all (·.oneCell') = true) (hw : aq ops F ⟨none, .store 33 (.tmp n) y, ty, pos, af, gd⟩ = some true) (h : LY Tryz.prog G ro ops N ds (EE fs) Z rest F (Hp B ((n, b, vs, et) :: L))) : LY Tryz.prog G ro ops N ds (EE fs) Z (⟨none, .store 33 (.tmp n) y, ty, pos, af, gd⟩ :: rest) F (Hp B L) := ⟨ao n hG hx hy hl Tryz.sizeOf33 hm hc hv hw h.run⟩
theorem xS {n b : Nat} {y : Operand} {c vs : List Value} {et : TypeId} (hG : BOk G B) (hx : evF F (.tmp n) = some (.pointer (some ⟨b, 0, none⟩))) (hy : evF F y = some (.agg vs.toArray)) (hl : lkB L n = some (b, c, et)) (hm : vs.length = 36) (hc : c.length = 36) (hv : vs.all (·.oneCell') = true) (hw : aq ops F ⟨none, .store 35 (.tmp n) y, ty, pos, af, gd⟩ = some true) (h : LY Tryz.prog G ro ops N ds (EE fs) Z rest F (Hp B ((n, b, vs, et) :: L))) : LY Tryz.prog G ro ops N ds (EE fs) Z (⟨none, .store 35 (.tmp n) y, ty, pos, af, gd⟩ :: rest) F (Hp B L) := ⟨ao n hG hx hy hl Tryz.sizeOf35 hm hc hv hw h.run⟩
theorem sa44 {n b : Nat} {y : Operand} {c vs : List Value} {et : TypeId} (hG : BOk G B) (hx : evF F (.tmp n) = some (.pointer (some ⟨b, 0, none⟩))) (hy : evF F y = some (.agg vs.toArray)) (hl : lkB L n = some (b, c, et)) (hm : vs.length = 72) (hc : c.length = 72) (hv : vs.all (·.oneCell') = true) (hw : aq ops F ⟨none, .store 44 (.tmp n) y, ty, pos, af, gd⟩ = some true) (h : LY Tryz.prog G ro ops N ds (EE fs) Z rest F (Hp B ((n, b, vs, et) :: L))) : LY Tryz.prog G ro ops N ds (EE fs) Z (⟨none, .store 44 (.tmp n) y, ty, pos, af, gd⟩ :: rest) F (Hp B L) := ⟨ao n hG hx hy hl Tryz.sizeOf44 hm hc hv hw h.run⟩
theorem Fq {n b : Nat} {y : Operand} {c vs : List Value} {et : TypeId} (hG : BOk G B) (hx : evF F (.tmp n) = some (.pointer (some ⟨b, 0, none⟩))) (hy : evF F y = some (.agg vs.toArray)) (hl : lkB L n = some (b, c, et)) (hm : vs.length = 36) (hc : c.length = 36) (hv : vs.all (·.oneCell') = true) (hw : aq ops F ⟨none, .store 47 (.tmp n) y, ty, pos, af, gd⟩ = some true) (h : LY Tryz.prog G ro ops N ds (EE fs) Z rest F (Hp B ((n, b, vs, et) :: L))) : LY Tryz.prog G ro ops N ds (EE fs) Z (⟨none, .store 47 (.tmp n) y, ty, pos, af, gd⟩ :: rest) F (Hp B L) := ⟨ao n hG hx hy hl Tryz.sizeOf47 hm hc hv hw h.run⟩
theorem o8 {n b : Nat} {y : Operand} {c vs : List Value} {et : TypeId} (hG : BOk G B) (hx : evF F (.tmp n) = some (.pointer (some ⟨b, 0, none⟩))) (hy : evF F y = some (.agg vs.toArray)) (hl : lkB L n = some (b, c, et)) (hm : vs.length = 72) (hc : c.length = 72) (hv : vs.all (·.oneCell') = true) (hw : aq ops F ⟨none, .store 49 (.tmp n) y, ty, pos, af, gd⟩ = some true) (h : LY Tryz.prog G ro ops N ds (EE fs) Z rest F (Hp B ((n, b, vs, et) :: L))) : LY Tryz.prog G ro ops N ds (EE fs) Z (⟨none, .store 49 (.tmp n) y, ty, pos, af, gd⟩ :: rest) F (Hp B L) := ⟨ao n hG hx hy hl Tryz.sizeOf49 hm hc hv hw h.run⟩
theorem EY {n b : Nat} {y : Operand} {c vs : List Value} {et : TypeId} (hG : BOk G B) (hx : evF F (.tmp n) = some (.pointer (some ⟨b, 0, none⟩))) (hy : evF F y = some (.agg vs.toArray)) (hl : lkB L n = some (b, c, et)) (hm : vs.length = 6) (hc : c.length = 6) (hv : vs.all (·.oneCell') = true) (hw : aq ops F ⟨none, .store 63 (.tmp n) y, ty, pos, af, gd⟩ = some true) (h : LY Tryz.prog G ro ops N ds (EE fs) Z rest F (Hp B ((n, b, vs, et) :: L))) : LY Tryz.prog G ro ops N ds (EE fs) Z (⟨none, .store 63 (.tmp n) y, ty, pos, af, gd⟩ :: rest) F (Hp B L) := ⟨ao n hG hx hy hl Tryz.sizeOf63 hm hc hv hw h.run⟩
theorem sa65 {n b : Nat} {y : Operand} {c vs : List Value} {et : TypeId} (hG : BOk G B) (hx : evF F (.tmp n) = some (.pointer (some ⟨b, 0, none⟩))) (hy : evF F y = some (.agg vs.toArray)) (hl : lkB L n = some (b, c, et)) (hm : vs.length = 32) (hc : c.length = 32) (hv : vs.all (·.oneCell') = true) (hw : aq ops F ⟨none, .store 65 (.tmp n) y, ty, pos, af, gd⟩ = some true) (h : LY Tryz.prog G ro ops N ds (EE fs) Z rest F (Hp B ((n, b, vs, et) :: L))) : LY Tryz.prog G ro ops N ds (EE fs) Z (⟨none, .store 65 (.tmp n) y, ty, pos, af, gd⟩ :: rest) F (Hp B L) := ⟨ao n hG hx hy hl Tryz.sizeOf65 hm hc hv hw h.run⟩
theorem sa77 {n b : Nat} {y : Operand} {c vs : List Value} {et : TypeId} (hG : BOk G B) (hx : evF F (.tmp n) = some (.pointer (some ⟨b, 0, none⟩))) (hy : evF F y = some (.agg vs.toArray)) (hl : lkB L n = some (b, c, et)) (hm : vs.length = 54) (hc : c.length = 54) (hv : vs.all (·.oneCell') = true) (hw : aq ops F ⟨none, .store 77 (.tmp n) y, ty, pos, af, gd⟩ = some true) (h : LY Tryz.prog G ro ops N ds (EE fs) Z rest F (Hp B ((n, b, vs, et) :: L))) : LY Tryz.prog G ro ops N ds (EE fs) Z (⟨none, .store 77 (.tmp n) y, ty, pos, af, gd⟩ :: rest) F (Hp B L) := ⟨ao n hG hx hy hl Tryz.sizeOf77 hm hc hv hw h.run⟩
theorem An {n b : Nat} {y : Operand} {c vs : List Value} {et : TypeId} (hG : BOk G B) (hx : evF F (.tmp n) = some (.pointer (some ⟨b, 0, none⟩))) (hy : evF F y = some (.agg vs.toArray)) (hl : lkB L n = some (b, c, et)) (hm : vs.length = 48) (hc : c.length = 48) (hv : vs.all (·.oneCell') = true) (hw : aq ops F ⟨none, .store 115 (.tmp n) y, ty, pos, af, gd⟩ = some true) (h : LY Tryz.prog G ro ops N ds (EE fs) Z rest F (Hp B ((n, b, vs, et) :: L))) : LY Tryz.prog G ro ops N ds (EE fs) Z (⟨none, .store 115 (.tmp n) y, ty, pos, af, gd⟩ :: rest) F (Hp B L) := ⟨ao n hG hx hy hl Tryz.sizeOf115 hm hc hv hw h.run⟩
theorem ER {n b : Nat} {y : Operand} {c vs : List Value} {et : TypeId} (hG : BOk G B) (hx : evF F (.tmp n) = some (.pointer (some ⟨b, 0, none⟩))) (hy : evF F y = some (.agg vs.toArray)) (hl : lkB L n = some (b, c, et)) (hm : vs.length = 36) (hc : c.length = 36) (hv : vs.all (·.oneCell') = true) (hw : aq ops F ⟨none, .store 178 (.tmp n) y, ty, pos, af, gd⟩ = some true) (h : LY Tryz.prog G ro ops N ds (EE fs) Z rest F (Hp B ((n, b, vs, et) :: L))) : LY Tryz.prog G ro ops N ds (EE fs) Z (⟨none, .store 178 (.tmp n) y, ty, pos, af, gd⟩ :: rest) F (Hp B L) := ⟨ao n hG hx hy hl Tryz.sizeOf178 hm hc hv hw h.run⟩
theorem GG {n b : Nat} {y : Operand} {c vs : List Value} {et : TypeId} (hG : BOk G B) (hx : evF F (.tmp n) = some (.pointer (some ⟨b, 0, none⟩))) (hy : evF F y = some (.agg vs.toArray)) (hl : lkB L n = some (b, c, et)) (hm : vs.length = 72) (hc : c.length = 72) (hv : vs.all (·.oneCell') = true) (hw : aq ops F ⟨none, .store 192 (.tmp n) y, ty, pos, af, gd⟩ = some true) (h : LY Tryz.prog G ro ops N ds (EE fs) Z rest F (Hp B ((n, b, vs, et) :: L))) : LY Tryz.prog G ro ops N ds (EE fs) Z (⟨none, .store 192 (.tmp n) y, ty, pos, af, gd⟩ :: rest) F (Hp B L) := ⟨ao n hG hx hy hl Tryz.sizeOf192 hm hc hv hw h.run⟩
theorem zE {n b : Nat} {y : Operand} {c vs : List Value} {et : TypeId} (hG : BOk G B) (hx : evF F (.tmp n) = some (.pointer (some ⟨b, 0, none⟩))) (hy : evF F y = some (.agg vs.toArray)) (hl : lkB L n = some (b, c, et)) (hm : vs.length = 96) (hc : c.length = 96) (hv : vs.all (·.oneCell') = true) (hw : aq ops F ⟨none, .store 209 (.tmp n) y, ty, pos, af, gd⟩ = some true) (h : LY Tryz.prog G ro ops N ds (EE fs) Z rest F (Hp B ((n, b, vs, et) :: L))) : LY Tryz.prog G ro ops N ds (EE fs) Z (⟨none, .store 209 (.tmp n) y, ty, pos, af, gd⟩ :: rest) F (Hp B L) := ⟨ao n hG hx hy hl Tryz.sizeOf209 hm hc hv hw h.run⟩
end
end
end Go.Proofs.YtpnpiblphnpfiaaGreatDoor
