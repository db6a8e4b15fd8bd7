/-
 What is known of the package-level variables.
 Powers by digits of four bits, and by bits. Nothing here names a program.
 Signs, roots, numbers of many bytes: as functions of elements. Nothing here names a program.
 What the laws of layer 3 say of elements. Nothing here names a program.
 The field of p^2 elements: a + b i. Nothing here names a program.
 What the walks of package fp2 meet: signs, powers, roots. Nothing here names a program.
 The fields of p^6 and p^12 elements, over pairs: that they are fields; the power of p. Nothing here names a program.
 Inverses in the fields of p^6 and p^12 elements, as the reference reckons them. Nothing here names a program.
 Elements of fp6 among those of six parts. Nothing here names a program.
 The curves; the generator's order. Nothing here names a program.
 Curves over two fields, one in the other: points, sums, times. Nothing here names a program.
 Points: when a sum is none; times and the order; the generator. Nothing here names a program.
 Bits of bytes by masks. Nothing here names a program.
 The first curve's points of the order r: turned by a third root of 1. Nothing here names a program.
 The second curve; its generator's order. Nothing here names a program.
 The second curve: nine times the generator; a point's numbers as the reference holds them. Nothing here names a program.
 The second curve's points of the order r: over the field of p^12 elements. Nothing here names a program.
 The second curve's points of the order r: conjugates, turned. Nothing here names a program.
 Short forms of the engine's steps, by types.
-/
import Derived.Test.YtpnpiblphnpfiaaGreatDoorX4
import Derived.Test.YtpnpiblphnpfiaaGreatDoorRows
import Derived.Test.YtpnpiblphnpfiaaGreatDoorX3
import Derived.Test.YtpnpiblphnpfiaaGreatDoorX1
import Derived.Test.YtpnpiblphnpfiaaGreatDoorX2
set_option maxRecDepth 100000
set_option maxHeartbeats 1000000
namespace Go.Proofs.YtpnpiblphnpfiaaGreatDoor
section
open Go.RowKit
def IVP : List (BitVec 64) := [0xb9feffffffffaaa9#64, 0x1eabfffeb153ffff#64, 0x6730d2a0f6b0f624#64, 0x64774b84f38512bf#64, 0x4b1ba7b6434bacd7#64, 0x1a0111ea397fe69a#64]
def HFP : List (BitVec 64) := [0xdcff7fffffffd555#64, 0xf55ffff58a9ffff#64, 0xb39869507b587b12#64, 0xb23ba5c279c2895f#64, 0x258dd3db21a5d66b#64, 0xd0088f51cbff34d#64]
def RTP : List (BitVec 64) := [0xee7fbfffffffeaab#64, 0x7aaffffac54ffff#64, 0xd9cc34a83dac3d89#64, 0xd91dd2e13ce144af#64, 0x92c6e9ed90d2eb35#64, 0x680447a8e5ff9a6#64]
theorem yS : V IVP 6 = PP - 2 := by decide +kernel
structure Gt (w : World) : Prop where
 g0 : w.rangeAt 0 0 (TWO.map U64)
 g3 : w.rangeAt 3 0 (PL.map U64)
 g4 : w.rangeAt 4 0 (IVP.map U64)
theorem gZ {w w' : World} {b : Nat} {cs : List Value} (hk : w'.heap[b]? = w.heap[b]?) (h : w.rangeAt b 0 cs) : w'.rangeAt b 0 cs := fun j v hv => by
 rw [World.cell?_of_block (w := w) hk]
 exact h j v hv
theorem gt_low : GLow Gt 5 where
 size := fun w h => by
  have := block_lt_of_cell (h.g4 0 _ (by rfl : (IVP.map U64)[0]? = some (U64 0xb9feffffffffaaa9#64)))
  exact this
 same := fun w w' hk h => ⟨gZ (hk 0 (by omega)) h.g0, gZ (hk 3 (by omega)) h.g3, gZ (hk 4 (by omega)) h.g4⟩
theorem a5 : Tryz.prog.follows .mixedOrders = true := by kernel_rfl
end
section
def NBv (bs : List (BitVec 8)) (m : Nat) : BitVec 8 := if m % 2 = 0 then bs.getD (m / 2) 0 >>> 4 else bs.getD (m / 2) 0 % 16#8
theorem B4 (bs : List (BitVec 8)) (m : Nat) : (NBv bs m).toNat < 16 := by
 have h := (bs.getD (m / 2) 0).isLt
 unfold NBv
 split
 ·rw [BitVec.toNat_ushiftRight, Nat.shiftRight_eq_div_pow]; omega
 ·rw [BitVec.toNat_umod]; exact Nat.mod_lt _ (by decide)
def DN (bs : List (BitVec 8)) : Nat → Nat
 | 0 => 0
 | m + 1 => 16 * DN bs m + (NBv bs m).toNat
theorem ua (bs : List (BitVec 8)) : ∀ k, DN bs (2 * k) = BN bs k
 | 0 => rfl
 | k + 1 => by
  have h := (bs.getD k 0).isLt
  have e0 : NBv bs (2 * k) = bs.getD k 0 >>> 4 := by
   rw [NBv, if_pos (by omega), show 2 * k / 2 = k by omega]
  have e1 : NBv bs (2 * k + 1) = bs.getD k 0 % 16#8 := by
   rw [NBv, if_neg (by omega), show (2 * k + 1) / 2 = k by omega]
  rw [show 2 * (k + 1) = 2 * k + 1 + 1 by omega, DN, DN, ua bs k, BN, e0, e1, BitVec.toNat_ushiftRight, Nat.shiftRight_eq_div_pow, BitVec.toNat_umod, show (16#8).toNat = 16 from rfl]
  omega
theorem yJ (x : Zp) (j D : Nat) : x ^ (2 ^ j * D) * x ^ (2 ^ j * D) = x ^ (2 ^ (j + 1) * D) := by
 rw [← jE, Nat.pow_succ, show 2 ^ j * 2 * D = 2 ^ j * D + 2 ^ j * D by rw [Nat.mul_right_comm]; omega]
theorem uj (x : Zp) (bs : List (BitVec 8)) (k : Nat) : x ^ (2 ^ 4 * DN bs k) * x ^ (NBv bs k).toNat = x ^ DN bs (k + 1) := by
 rw [← jE, DN]
/-! ### Sixteen powers -/
def SP (x : Zp) (i : Nat) : List (BitVec 64) := FL (fun j => if j < i then fe (x ^ j) else List.replicate 6 0) 16
theorem bv (x : Zp) (i : Nat) : (SP x i).length = 96 := bq _ _
theorem Cq (x : Zp) : FL (fun i => if i = 0 then fe 1 else List.replicate 6 0) 16 = SP x 1 := oU fun i _ => by
 by_cases h : i = 0
 ·rw [if_pos h, if_pos (by omega), h, p0]
 ·rw [if_neg h, if_neg (by omega)]
theorem m8 (x : Zp) (i k : Nat) (hk : k < i) (hi : i ≤ 16) (o : Nat) (ho : o = 6 * k) : ∀ j v, ((fe (x ^ k)).map U64)[j]? = some v → ((SP x i).map U64)[o + j]? = some v := by
 have h := zi (fun j => if j < i then fe (x ^ j) else List.replicate 6 0) 16 k (by omega) (by simp only [if_pos hk]; exact a8 _) o ho
 simp only [if_pos hk] at h
 exact h
theorem zV (x : Zp) (i : Nat) (h1 : 1 ≤ i) (hi : i < 16) (o : Nat) (ho : o = 6 * i) : lay o ((fe (x ^ (i - 1) * x)).map U64) ((SP x i).map U64) = (SP x (i + 1)).map U64 := by
 rw [SP, vT _ 16 i _ hi (a8 _) o ho]
 congr 1
 refine oU fun j _ => ?_
 by_cases h : j = i
 ·rw [if_pos h, if_pos (by omega), h, ← ps, show i - 1 + 1 = i by omega]
 ·rw [if_neg h]
  by_cases h' : j < i
  ·rw [if_pos h', if_pos (by omega)]
  ·rw [if_neg h', if_neg (by omega)]
end
section
def hf : Nat := (PP - 1) / 2
def rg : Nat := (PP + 1) / 4
theorem nt : PP % 4 = 3 := by decide +kernel
theorem iV : 1000 < PP := by decide +kernel
theorem lf : 2 * hf + 1 = PP := by have := nt; unfold hf; omega
theorem De : 4 * rg = PP + 1 := by have := nt; unfold rg; omega
theorem DC : hf % 2 = 1 := by have := nt; have := lf; omega
theorem Ir : 2 * rg = hf + 1 := by have := De; have := lf; omega
theorem CE : ∃ n, hf = n + 1 := ⟨hf - 1, by have := lf; have := iV; omega⟩
def SQr (x : Zp) : Zp := x ^ rg
def SQn (x : Zp) : Zp := if hf < (SQr x).val then -(SQr x) else SQr x
def SQ (x : Zp) : Zp := if SQr x * SQr x = x then SQn x else 0
def FO (bs : List (BitVec 8)) : Bool := decide (bs.length = 48 ∧ BN bs 48 < PP)
def FV (bs : List (BitVec 8)) : Zp := if bs.length = 48 ∧ BN bs 48 < PP then zp (BN bs 48) else 0
end
section
theorem rN {a : Zp} (h : a ≠ 0) : a ^ hf * a ^ hf = 1 := by
 rw [← jE, show hf + hf = PP - 1 by have := lf; omega, fermat h]
theorem zX : ¬ (1 : Zp) = -1 := fun h => by
 have h2 : (1 : Zp) + 1 = 0 := (congrArg (fun z => z + (1 : Zp)) h).trans (by grind)
 have h3 := congrArg Fin.val h2
 rw [Fin.val_add, show (1 : Zp).val = 1 % PP from rfl, Nat.mod_eq_of_lt pr_p.1, Nat.mod_eq_of_lt (by have := iV; omega)] at h3
 cases h3
theorem rV (a : Zp) : SQr a * SQr a = a ^ hf * a := by rw [SQr, ← jE, ← Nat.two_mul, Ir, ps]
theorem DU (a : Zp) : SQr (a * a) * SQr (a * a) = a * a := by
 rw [rV]
 by_cases h : a = 0
 ·rw [h]; grind
 ·rw [Fq, rN h]; grind
theorem z8 (a : Zp) (n : Nat) : (-a) ^ (2 * n + 1) = -(a ^ (2 * n + 1)) := by
 rw [ps, ps, uZ, uZ, show (-a) ^ 2 = a ^ 2 by grind]; grind
theorem B7 (a : Zp) : (-a) ^ hf = -(a ^ hf) := by
 obtain ⟨n, hn⟩ : ∃ n, hf = 2 * n + 1 := ⟨hf / 2, by have := DC; omega⟩
 rw [hn]; exact z8 a n
theorem qf : zp 2 ≠ 0 := fun h => by
 have := congrArg Fin.val h
 rw [dv, Nat.mod_eq_of_lt (by have := iV; omega)] at this
 cases this
theorem Iy : zp 4 = zp 2 * zp 2 ∧ zp 2 = 1 + 1 := ⟨fQ 2 2, ek 1 1⟩
end
section
abbrev W2 := Zp × Zp
def ad2 (x y : W2) : W2 := (x.1 + y.1, x.2 + y.2)
def ng2 (x : W2) : W2 := (-x.1, -x.2)
def sb2 (x y : W2) : W2 := (x.1 - y.1, x.2 - y.2)
def ml2 (x y : W2) : W2 := (x.1 * y.1 - x.2 * y.2, x.1 * y.2 + x.2 * y.1)
def cj2 (x : W2) : W2 := (x.1, -x.2)
def sc2 (x : W2) (c : Zp) : W2 := (x.1 * c, x.2 * c)
def xi2 (x : W2) : W2 := (x.1 - x.2, x.1 + x.2)
def nm2 (x : W2) : Zp := x.1 * x.1 + x.2 * x.2
def iv2 (x : W2) : W2 := (x.1 * nm2 x ^ (PP - 2), -x.2 * nm2 x ^ (PP - 2))
def on2 : W2 := (1, 0)
def ze2 : W2 := (0, 0)
theorem bM {x y : W2} (h1 : x.1 = y.1) (h2 : x.2 = y.2) : x = y := Prod.ext h1 h2
def R2 : Rg W2 where
 zero := ze2
 one := on2
 add := ad2
 mul := ml2
 neg := ng2
 add_assoc := fun a b c => bM (by simp only [ad2]; grind) (by simp only [ad2]; grind)
 add_comm := fun a b => bM (by simp only [ad2]; grind) (by simp only [ad2]; grind)
 add_zero := fun a => bM (by simp only [ad2, ze2]; grind) (by simp only [ad2, ze2]; grind)
 add_neg := fun a => bM (by simp only [ad2, ng2, ze2]; grind) (by simp only [ad2, ng2, ze2]; grind)
 mul_assoc := fun a b c => bM (by simp only [ml2]; grind) (by simp only [ml2]; grind)
 mul_comm := fun a b => bM (by simp only [ml2]; grind) (by simp only [ml2]; grind)
 mul_one := fun a => bM (by simp only [ml2, on2]; grind) (by simp only [ml2, on2]; grind)
 mul_add := fun a b c => bM (by simp only [ml2, ad2]; grind) (by simp only [ml2, ad2]; grind)
theorem fW (x y : W2) : sb2 x y = ad2 x (ng2 y) := bM (by simp only [sb2, ad2, ng2]; grind) (by simp only [sb2, ad2, ng2]; grind)
theorem xt (x : W2) : xi2 x = ml2 x (1, 1) := bM (by simp only [xi2, ml2]; grind) (by simp only [xi2, ml2]; grind)
theorem jT (x y : W2) : nm2 (ml2 x y) = nm2 x * nm2 y := by simp only [nm2, ml2]; grind
theorem Ee (x : W2) : ml2 x (cj2 x) = (nm2 x, 0) := bM (by simp only [ml2, cj2, nm2]; grind) (by simp only [ml2, cj2]; grind)
theorem mM (x y : W2) : cj2 (ml2 x y) = ml2 (cj2 x) (cj2 y) := bM (by simp only [ml2, cj2]; grind) (by simp only [ml2, cj2]; grind)
/-! ### -1 is no square -/
theorem rz {a : Zp} (h : a ≠ 0) : (a * a) ^ hf = 1 := by rw [Fq, rN h]
theorem tH {a : Zp} (h : 0 = -a) : a = 0 := by grind
theorem nE (a : Zp) : a * 1 = a := by grind
theorem A2 (a : Zp) : -(-a) = a := by grind
theorem fZ (a : Zp) : a * 0 = 0 := by grind
theorem Io {a b : Zp} (h : a * a + b * b = 0) : b = 0 := by
 by_cases hb : b = 0
 ·exact hb
 ·exfalso
  have e : a * a = -(b * b) := by grind
  have e2 : (a * a) ^ hf = -1 := by rw [e, B7, rz hb]
  by_cases ha : a = 0
  ·obtain ⟨n, hn⟩ := CE
   rw [ha, fZ, hn, A6] at e2
   exact nk (tH e2)
  ·rw [rz ha] at e2
   exact zX e2
theorem uq {x : W2} (h : nm2 x = 0) : x = ze2 := by
 have h1 := Io h
 have h2 := Io (a := x.2) (b := x.1) (by rw [← h]; simp only [nm2]; grind)
 exact bM h2 h1
theorem Eh {x : W2} (h : x ≠ ze2) : nm2 x ≠ 0 := fun e => h (uq e)
theorem ic {x : W2} (h : x ≠ ze2) : ml2 x (iv2 x) = on2 := by
 have hz := yp (Eh h)
 have e : nm2 x = x.1 * x.1 + x.2 * x.2 := rfl
 have k : ∀ j : Zp, nm2 x * j = 1 → ml2 x (x.1 * j, -x.2 * j) = on2 := fun j hj => by
  rw [e] at hj
  refine bM ?_ ?_
  ·simp only [ml2, on2]; grind
  ·simp only [ml2, on2]; grind
 exact k _ hz
/-! ### Powers -/
def pw2 (x : W2) (n : Nat) : W2 := R2.pw x n
theorem Gg (x : W2) : pw2 x 0 = on2 := rfl
theorem iL (x : W2) (n : Nat) : pw2 x (n + 1) = ml2 (pw2 x n) x := rfl
theorem iy (x : W2) (m n : Nat) : pw2 x (m + n) = ml2 (pw2 x m) (pw2 x n) := R2.pw_add x m n
theorem sZ (x : W2) (m n : Nat) : pw2 x (m * n) = pw2 (pw2 x m) n := R2.pw_mul x m n
theorem zE (x y : W2) (n : Nat) : pw2 (ml2 x y) n = ml2 (pw2 x n) (pw2 y n) := R2.mul_pw x y n
theorem nV (a : Zp) : 0 * a = 0 := by grind
theorem yV : (0 : Zp) + 0 = 0 := by simp
theorem nb (a b : Zp) : ml2 (a, 0) (b, 0) = (a * b, 0) := bM (by simp only [ml2]; grind) (by simp only [ml2]; rw [fZ, nV, yV])
theorem Fc (a b : Zp) : ml2 (a, 0) (0, b) = (0, a * b) := bM (by simp only [ml2]; rw [fZ, nV]; simp) (by simp only [ml2]; grind)
theorem vG (a b : Zp) : ml2 (0, a) (0, b) = (-(a * b), 0) := bM (by simp only [ml2]; grind) (by simp only [ml2]; rw [fZ, nV, yV])
theorem nM : (1 : Zp) * 1 = 1 := nE 1
theorem z_nn (a : Zp) : -a * -a = a * a := by grind
theorem qm (a : Zp) : ∀ n, pw2 (a, 0) n = (a ^ n, 0)
 | 0 => bM (p0 a).symm rfl
 | n + 1 => by rw [iL, qm a n, nb, ps]
theorem Gj : pw2 (0, 1) PP = (0, -1) := by
 have h1 : pw2 (0, 1) 1 = (0, 1) := R2.pw_one _
 have h2 : pw2 (0, 1) 2 = (-1, 0) := by rw [iL, h1, vG, nM]
 have h3 : pw2 (0, 1) 3 = (0, -1) := by rw [iL, h2, Fc, nE]
 have h4 : pw2 (0, 1) 4 = on2 := by rw [iL, h3, vG, nE, A2]; rfl
 obtain ⟨k, hk⟩ : ∃ k, PP = 4 * k + 3 := ⟨PP / 4, by have := nt; omega⟩
 have e : pw2 (0, 1) PP = pw2 (0, 1) (4 * k + 3) := congrArg (fun n => pw2 (0, 1) n) hk
 have h5 : pw2 on2 k = on2 := R2.one_pw k
 rw [e, iy, sZ, h4, h3, h5]
 exact R2.one_mul _
theorem w9 (a : Zp) : a ^ PP = a := by
 by_cases h : a = 0
 ·rw [h]; exact A6 PQ
 ·have e : a ^ PP = a ^ (PP - 1 + 1) := congrArg (fun n => a ^ n) (show PQ + 1 = PQ + 1 - 1 + 1 from rfl)
  rw [e, ps, fermat h]; grind
theorem qh : ∀ n, R2.nat n = (zp n, 0)
 | 0 => rfl
 | n + 1 => by
  show ad2 (R2.nat n) on2 = _
  rw [qh n]
  exact bM (by simp only [ad2, on2]; rw [ek, HV]) yV
theorem BZ (x : W2) : pw2 x PP = cj2 x := by
 have e : x = ad2 (x.1, 0) (ml2 (x.2, 0) (0, 1)) := bM (by simp only [ad2, ml2]; grind) (by simp only [ad2, ml2]; grind)
 have hf := R2.frob pr_p ((qh PP).trans (by rw [jC]; rfl)) (x.1, 0) (ml2 (x.2, 0) (0, 1))
 have h2 : pw2 x PP = ad2 (pw2 (x.1, 0) PP) (pw2 (ml2 (x.2, 0) (0, 1)) PP) := (congrArg (fun y => pw2 y PP) e).trans hf
 rw [h2, zE, qm, qm, Gj, w9, w9]
 exact bM (by simp only [ad2, ml2, cj2]; grind) (by simp only [ad2, ml2, cj2]; grind)
/-! ### Roots -/
theorem Ah {a : Zp} : -a = 0 ↔ a = 0 := ⟨fun h => by grind, fun h => by rw [h]; grind⟩
def IsQ (a : Zp) : Prop := SQr a * SQr a = a
theorem Fa {a s : Zp} (h : s * s = a) : IsQ a := by rw [← h]; exact DU s
theorem zR (a : Zp) : IsQ a ↔ a = 0 ∨ a ^ hf = 1 := by
 unfold IsQ
 rw [rV]
 constructor
 ·intro h
  by_cases h0 : a = 0
  ·exact .inl h0
  ·right
   have : (a ^ hf - 1) * a = 0 := by grind
   rcases sI this with h | h
   ·grind
   ·exact absurd h h0
 ·rintro (h | h)
  ·rw [h]; grind
  ·rw [h]; grind
theorem nU (a : Zp) : IsQ (a * a) := Fa rfl
theorem Dy {x s : W2} (h : ml2 s s = x) : IsQ (nm2 x) := by rw [← h, jT]; exact nU _
end
section
/-! ### Equality, signs -/
theorem qo {x y : W2} (h : x.1 = y.1) : decide (x.2 = y.2) = decide (x = y) := decide_eq_decide.2 ⟨fun h' => bM h h', fun h' => by rw [h']⟩
theorem pL {x y : W2} (h : ¬ x.1 = y.1) : false = decide (x = y) := (decide_eq_false fun h' => h (by rw [h'])).symm
/-! ### Powers by digits -/
def fe2 (x : W2) : List (BitVec 64) := fe x.1 ++ fe x.2
theorem a7 (x : W2) : (fe2 x).length = 12 := by rw [fe2, List.length_append, a8, a8]
def SP2 (x : W2) (i : Nat) : List (BitVec 64) := FM (fun j => if j < i then fe2 (pw2 x j) else fe2 ze2) 16
theorem br (x : W2) (i : Nat) : (SP2 x i).length = 192 := bh _ _
/-! ### Roots -/
end
section
def XI : W2 := (1, 1)
abbrev W6 := W2 × W2 × W2
def K6 : Rg W6 := Rg.cub R2 XI
def VV : W6 := (ze2, on2, ze2)
abbrev W12 := W6 × W6
def K12 : Rg W12 := Rg.quad K6 VV
theorem fd2 : Fd R2 := fun a h => ⟨iv2 a, ic h⟩
theorem rC (a : Nat) : ∀ n : Nat, zp a ^ n = zp (a ^ n)
 | 0 => p0 _
 | n + 1 => by rw [ps, rC a n, Nat.pow_succ, fQ]
theorem vF (a n f : Nat) (h : n < 2 ^ f) : zp a ^ n = zp (pm a PP f n) := by rw [rP _ _ _ _ h, p9, rC]
theorem u2 {k n : Nat} (hk : R6 = 2 ^ k) (h : n < PP) : n < 2 ^ k := hk ▸ Nat.lt_trans h sH
def th : Nat := (PP - 1) / 3
def sx : Nat := (PP - 1) / 6
theorem vI : 3 * th = PP - 1 := by decide +kernel
theorem sx_val : 6 * sx + 1 = PP := by decide +kernel
theorem sK {n : Nat} (h : zp n = 1) (hn : n < PP) : n = 1 := by
 have := congrArg Fin.val h
 rw [dv, Nat.mod_eq_of_lt hn, show (1 : Zp).val = 1 % PP from rfl, Nat.mod_eq_of_lt pr_p.1] at this
 exact this
theorem A7 : pm 2 PP (64 * 6) th ≠ 1 ∧ pm 2 PP (64 * 6) th < PP := by decide +kernel
theorem A3 : pm 2 PP (64 * 6) hf ≠ 1 ∧ pm 2 PP (64 * 6) hf < PP := by decide +kernel
theorem CH : zp 2 ^ th ≠ 1 := fun h => by
 rw [vF 2 th (64 * 6) (u2 dQ (by have := vI; have := iV; omega))] at h
 exact A7.1 (sK h A7.2)
theorem uE : zp 2 ^ hf ≠ 1 := fun h => by
 rw [vF 2 hf (64 * 6) (u2 dQ (by have := lf; have := iV; omega))] at h
 exact A3.1 (sK h A3.2)
theorem wK : nm2 XI = zp 2 := by
 simp only [nm2, XI]; rw [nM]; exact Iy.2.symm
theorem rX (s : W2) : R2.mul s (R2.mul s s) ≠ XI := fun h => by
 have e : nm2 s * (nm2 s * nm2 s) = zp 2 := by rw [← jT, ← jT, ← wK]; exact congrArg nm2 h
 have e3 : nm2 s ^ 3 = zp 2 := by rw [← e]; grind
 have hn : nm2 s ≠ 0 := fun h0 => qf (by rw [← e, h0, fZ, fZ])
 exact CH (by rw [← e3, ← uZ, vI, fermat hn])
theorem GR (s : W2) : R2.mul s s ≠ XI := fun h => by
 have e : IsQ (zp 2) := by rw [← wK]; exact Dy h
 rcases (zR _).1 e with h | h
 ·exact qf h
 ·exact uE h
theorem fd6 : Fd K6 := CG fd2 rX
theorem Ix : cnm R2 XI VV = XI := by decide +kernel
theorem ww (s : W6) : K6.mul s s ≠ VV := fun h => by
 have e := yR R2 XI s s
 rw [show vl R2 XI s s = VV from h, Ix] at e
 exact GR _ e.symm
theorem fd12 : Fd K12 := zC fd6 ww
theorem Rg.inv_one {α : Type} (R : Rg α) {x y y' : α} (h : R.mul x y = R.one) (h' : R.mul x y' = R.one) : y = y' := by
 have e : R.mul (R.mul x y) y' = R.mul (R.mul x y') y := by rw [R.mul_assoc, R.mul_assoc, R.mul_comm y]
 rw [h, h', R.one_mul, R.one_mul] at e
 exact e.symm
/-! ### The power of p -/
theorem zS : K12.nat PP = K12.zero := by
 have e2 : R2.nat PP = R2.zero := (qh PP).trans (by rw [jC]; rfl)
 have e6 : K6.nat PP = K6.zero := (zz (R := R2) (z := XI) PP).trans (by rw [e2]; rfl)
 exact (xN (R := K6) (z := VV) PP).trans (by rw [e6]; rfl)
theorem gp (x y : W12) : K12.pw (K12.add x y) PP = K12.add (K12.pw x PP) (K12.pw y PP) := K12.frob pr_p zS x y
def em (c : W2) : W12 := ((c, ze2, ze2), (ze2, ze2, ze2))
def wk (k : Nat) : W12 := K12.pw ((ze2, ze2, ze2), (on2, ze2, ze2)) k
theorem mT (a b : W2) : K12.mul (em a) (em b) = em (ml2 a b) := Prod.ext (Prod.ext (zq R2 [a, b, XI] (ta (ta (tm j0 j1) (tm j2 (ta (tm tz0 tz0) (tm tz0 tz0)))) (ta (tm tz0 (ta (tm tz0 tz0) (tm j2 (ta (tm tz0 tz0) (tm tz0 tz0))))) (tm j2 (ta (tm to1 (ta (ta (tm tz0 tz0) (tm tz0 tz0)) (tm tz0 tz0))) (tm tz0 (ta (ta (tm tz0 tz0) (tm tz0 tz0)) (tm j2 (tm tz0 tz0)))))))) (tm j0 j1)) (Prod.ext (zq R2 [a, b, XI] (ta (ta (ta (tm j0 tz0) (tm tz0 j1)) (tm j2 (tm tz0 tz0))) (ta (ta (tm tz0 (ta (ta (tm tz0 tz0) (tm tz0 tz0)) (tm j2 (tm tz0 tz0)))) (tm to1 (ta (tm tz0 tz0) (tm j2 (ta (tm tz0 tz0) (tm tz0 tz0)))))) (tm j2 (tm tz0 (ta (ta (tm tz0 tz0) (tm tz0 tz0)) (tm tz0 tz0)))))) tz0) (zq R2 [a, b, XI] (ta (ta (ta (tm j0 tz0) (tm tz0 tz0)) (tm tz0 j1)) (ta (ta (tm tz0 (ta (ta (tm tz0 tz0) (tm tz0 tz0)) (tm tz0 tz0))) (tm to1 (ta (ta (tm tz0 tz0) (tm tz0 tz0)) (tm j2 (tm tz0 tz0))))) (tm tz0 (ta (tm tz0 tz0) (tm j2 (ta (tm tz0 tz0) (tm tz0 tz0))))))) tz0))) (Prod.ext (zq R2 [a, b, XI] (ta (ta (tm j0 tz0) (tm j2 (ta (tm tz0 tz0) (tm tz0 tz0)))) (ta (tm tz0 j1) (tm j2 (ta (tm tz0 tz0) (tm tz0 tz0))))) tz0) (Prod.ext (zq R2 [a, b, XI] (ta (ta (ta (tm j0 tz0) (tm tz0 tz0)) (tm j2 (tm tz0 tz0))) (ta (ta (tm tz0 tz0) (tm tz0 j1)) (tm j2 (tm tz0 tz0)))) tz0) (zq R2 [a, b, XI] (ta (ta (ta (tm j0 tz0) (tm tz0 tz0)) (tm tz0 tz0)) (ta (ta (tm tz0 tz0) (tm tz0 tz0)) (tm tz0 j1))) tz0)))
theorem sy (c : W2) : ∀ n, K12.pw (em c) n = em (pw2 c n)
 | 0 => rfl
 | n + 1 => by
  rw [Rg.pw, sy c n, mT, iL]
theorem wk0 : wk 0 = ((on2, ze2, ze2), (ze2, ze2, ze2)) := by decide +kernel
theorem wk1 : wk 1 = ((ze2, ze2, ze2), (on2, ze2, ze2)) := by decide +kernel
theorem wk2 : wk 2 = ((ze2, on2, ze2), (ze2, ze2, ze2)) := by decide +kernel
theorem wk3 : wk 3 = ((ze2, ze2, ze2), (ze2, on2, ze2)) := by decide +kernel
theorem wk4 : wk 4 = ((ze2, ze2, on2), (ze2, ze2, ze2)) := by decide +kernel
theorem wk5 : wk 5 = ((ze2, ze2, ze2), (ze2, ze2, on2)) := by decide +kernel
theorem wk6 : wk 6 = em XI := by decide +kernel
theorem mp (c0 c1 c2 c3 c4 c5 : W2) : K12.add (K12.add (K12.add (K12.add (K12.add (K12.mul (em c0) (wk 0)) (K12.mul (em c1) (wk 1))) (K12.mul (em c2) (wk 2))) (K12.mul (em c3) (wk 3))) (K12.mul (em c4) (wk 4))) (K12.mul (em c5) (wk 5)) = ((c0, c2, c4), (c1, c3, c5)) := by
 rw [wk0, wk1, wk2, wk3, wk4, wk5]
 exact Prod.ext (Prod.ext (zq R2 [c0, c1, c2, c3, c4, c5, XI] (ta (ta (ta (ta (ta (ta (ta (tm j0 to1) (tm j6 (ta (tm tz0 tz0) (tm tz0 tz0)))) (ta (tm tz0 (ta (tm tz0 tz0) (tm j6 (ta (tm tz0 tz0) (tm tz0 tz0))))) (tm j6 (ta (tm to1 (ta (ta (tm tz0 tz0) (tm tz0 tz0)) (tm tz0 tz0))) (tm tz0 (ta (ta (tm tz0 tz0) (tm tz0 tz0)) (tm j6 (tm tz0 tz0)))))))) (ta (ta (tm j1 tz0) (tm j6 (ta (tm tz0 tz0) (tm tz0 tz0)))) (ta (tm tz0 (ta (tm tz0 to1) (tm j6 (ta (tm tz0 tz0) (tm tz0 tz0))))) (tm j6 (ta (tm to1 (ta (ta (tm tz0 tz0) (tm tz0 tz0)) (tm tz0 to1))) (tm tz0 (ta (ta (tm tz0 tz0) (tm tz0 to1)) (tm j6 (tm tz0 tz0))))))))) (ta (ta (tm j2 tz0) (tm j6 (ta (tm tz0 tz0) (tm tz0 to1)))) (ta (tm tz0 (ta (tm tz0 tz0) (tm j6 (ta (tm tz0 tz0) (tm tz0 tz0))))) (tm j6 (ta (tm to1 (ta (ta (tm tz0 tz0) (tm tz0 tz0)) (tm tz0 tz0))) (tm tz0 (ta (ta (tm tz0 tz0) (tm tz0 tz0)) (tm j6 (tm tz0 tz0))))))))) (ta (ta (tm j3 tz0) (tm j6 (ta (tm tz0 tz0) (tm tz0 tz0)))) (ta (tm tz0 (ta (tm tz0 tz0) (tm j6 (ta (tm tz0 tz0) (tm tz0 to1))))) (tm j6 (ta (tm to1 (ta (ta (tm tz0 tz0) (tm tz0 to1)) (tm tz0 tz0))) (tm tz0 (ta (ta (tm tz0 to1) (tm tz0 tz0)) (tm j6 (tm tz0 tz0))))))))) (ta (ta (tm j4 tz0) (tm j6 (ta (tm tz0 to1) (tm tz0 tz0)))) (ta (tm tz0 (ta (tm tz0 tz0) (tm j6 (ta (tm tz0 tz0) (tm tz0 tz0))))) (tm j6 (ta (tm to1 (ta (ta (tm tz0 tz0) (tm tz0 tz0)) (tm tz0 tz0))) (tm tz0 (ta (ta (tm tz0 tz0) (tm tz0 tz0)) (tm j6 (tm tz0 tz0))))))))) (ta (ta (tm j5 tz0) (tm j6 (ta (tm tz0 tz0) (tm tz0 tz0)))) (ta (tm tz0 (ta (tm tz0 tz0) (tm j6 (ta (tm tz0 to1) (tm tz0 tz0))))) (tm j6 (ta (tm to1 (ta (ta (tm tz0 to1) (tm tz0 tz0)) (tm tz0 tz0))) (tm tz0 (ta (ta (tm tz0 tz0) (tm tz0 tz0)) (tm j6 (tm tz0 to1))))))))) j0) (Prod.ext (zq R2 [c0, c1, c2, c3, c4, c5, XI] (ta (ta (ta (ta (ta (ta (ta (ta (tm j0 tz0) (tm tz0 to1)) (tm j6 (tm tz0 tz0))) (ta (ta (tm tz0 (ta (ta (tm tz0 tz0) (tm tz0 tz0)) (tm j6 (tm tz0 tz0)))) (tm to1 (ta (tm tz0 tz0) (tm j6 (ta (tm tz0 tz0) (tm tz0 tz0)))))) (tm j6 (tm tz0 (ta (ta (tm tz0 tz0) (tm tz0 tz0)) (tm tz0 tz0)))))) (ta (ta (ta (tm j1 tz0) (tm tz0 tz0)) (tm j6 (tm tz0 tz0))) (ta (ta (tm tz0 (ta (ta (tm tz0 tz0) (tm tz0 to1)) (tm j6 (tm tz0 tz0)))) (tm to1 (ta (tm tz0 to1) (tm j6 (ta (tm tz0 tz0) (tm tz0 tz0)))))) (tm j6 (tm tz0 (ta (ta (tm tz0 tz0) (tm tz0 tz0)) (tm tz0 to1))))))) (ta (ta (ta (tm j2 to1) (tm tz0 tz0)) (tm j6 (tm tz0 tz0))) (ta (ta (tm tz0 (ta (ta (tm tz0 tz0) (tm tz0 tz0)) (tm j6 (tm tz0 tz0)))) (tm to1 (ta (tm tz0 tz0) (tm j6 (ta (tm tz0 tz0) (tm tz0 tz0)))))) (tm j6 (tm tz0 (ta (ta (tm tz0 tz0) (tm tz0 tz0)) (tm tz0 tz0))))))) (ta (ta (ta (tm j3 tz0) (tm tz0 tz0)) (tm j6 (tm tz0 tz0))) (ta (ta (tm tz0 (ta (ta (tm tz0 to1) (tm tz0 tz0)) (tm j6 (tm tz0 tz0)))) (tm to1 (ta (tm tz0 tz0) (tm j6 (ta (tm tz0 tz0) (tm tz0 to1)))))) (tm j6 (tm tz0 (ta (ta (tm tz0 tz0) (tm tz0 to1)) (tm tz0 tz0))))))) (ta (ta (ta (tm j4 tz0) (tm tz0 tz0)) (tm j6 (tm tz0 to1))) (ta (ta (tm tz0 (ta (ta (tm tz0 tz0) (tm tz0 tz0)) (tm j6 (tm tz0 tz0)))) (tm to1 (ta (tm tz0 tz0) (tm j6 (ta (tm tz0 tz0) (tm tz0 tz0)))))) (tm j6 (tm tz0 (ta (ta (tm tz0 tz0) (tm tz0 tz0)) (tm tz0 tz0))))))) (ta (ta (ta (tm j5 tz0) (tm tz0 tz0)) (tm j6 (tm tz0 tz0))) (ta (ta (tm tz0 (ta (ta (tm tz0 tz0) (tm tz0 tz0)) (tm j6 (tm tz0 to1)))) (tm to1 (ta (tm tz0 tz0) (tm j6 (ta (tm tz0 to1) (tm tz0 tz0)))))) (tm j6 (tm tz0 (ta (ta (tm tz0 to1) (tm tz0 tz0)) (tm tz0 tz0))))))) j2) (zq R2 [c0, c1, c2, c3, c4, c5, XI] (ta (ta (ta (ta (ta (ta (ta (ta (tm j0 tz0) (tm tz0 tz0)) (tm tz0 to1)) (ta (ta (tm tz0 (ta (ta (tm tz0 tz0) (tm tz0 tz0)) (tm tz0 tz0))) (tm to1 (ta (ta (tm tz0 tz0) (tm tz0 tz0)) (tm j6 (tm tz0 tz0))))) (tm tz0 (ta (tm tz0 tz0) (tm j6 (ta (tm tz0 tz0) (tm tz0 tz0))))))) (ta (ta (ta (tm j1 tz0) (tm tz0 tz0)) (tm tz0 tz0)) (ta (ta (tm tz0 (ta (ta (tm tz0 tz0) (tm tz0 tz0)) (tm tz0 to1))) (tm to1 (ta (ta (tm tz0 tz0) (tm tz0 to1)) (tm j6 (tm tz0 tz0))))) (tm tz0 (ta (tm tz0 to1) (tm j6 (ta (tm tz0 tz0) (tm tz0 tz0)))))))) (ta (ta (ta (tm j2 tz0) (tm tz0 to1)) (tm tz0 tz0)) (ta (ta (tm tz0 (ta (ta (tm tz0 tz0) (tm tz0 tz0)) (tm tz0 tz0))) (tm to1 (ta (ta (tm tz0 tz0) (tm tz0 tz0)) (tm j6 (tm tz0 tz0))))) (tm tz0 (ta (tm tz0 tz0) (tm j6 (ta (tm tz0 tz0) (tm tz0 tz0)))))))) (ta (ta (ta (tm j3 tz0) (tm tz0 tz0)) (tm tz0 tz0)) (ta (ta (tm tz0 (ta (ta (tm tz0 tz0) (tm tz0 to1)) (tm tz0 tz0))) (tm to1 (ta (ta (tm tz0 to1) (tm tz0 tz0)) (tm j6 (tm tz0 tz0))))) (tm tz0 (ta (tm tz0 tz0) (tm j6 (ta (tm tz0 tz0) (tm tz0 to1)))))))) (ta (ta (ta (tm j4 to1) (tm tz0 tz0)) (tm tz0 tz0)) (ta (ta (tm tz0 (ta (ta (tm tz0 tz0) (tm tz0 tz0)) (tm tz0 tz0))) (tm to1 (ta (ta (tm tz0 tz0) (tm tz0 tz0)) (tm j6 (tm tz0 tz0))))) (tm tz0 (ta (tm tz0 tz0) (tm j6 (ta (tm tz0 tz0) (tm tz0 tz0)))))))) (ta (ta (ta (tm j5 tz0) (tm tz0 tz0)) (tm tz0 tz0)) (ta (ta (tm tz0 (ta (ta (tm tz0 to1) (tm tz0 tz0)) (tm tz0 tz0))) (tm to1 (ta (ta (tm tz0 tz0) (tm tz0 tz0)) (tm j6 (tm tz0 to1))))) (tm tz0 (ta (tm tz0 tz0) (tm j6 (ta (tm tz0 to1) (tm tz0 tz0)))))))) j4))) (Prod.ext (zq R2 [c0, c1, c2, c3, c4, c5, XI] (ta (ta (ta (ta (ta (ta (ta (tm j0 tz0) (tm j6 (ta (tm tz0 tz0) (tm tz0 tz0)))) (ta (tm tz0 to1) (tm j6 (ta (tm tz0 tz0) (tm tz0 tz0))))) (ta (ta (tm j1 to1) (tm j6 (ta (tm tz0 tz0) (tm tz0 tz0)))) (ta (tm tz0 tz0) (tm j6 (ta (tm tz0 tz0) (tm tz0 tz0)))))) (ta (ta (tm j2 tz0) (tm j6 (ta (tm tz0 tz0) (tm tz0 tz0)))) (ta (tm tz0 tz0) (tm j6 (ta (tm tz0 tz0) (tm tz0 to1)))))) (ta (ta (tm j3 tz0) (tm j6 (ta (tm tz0 tz0) (tm tz0 to1)))) (ta (tm tz0 tz0) (tm j6 (ta (tm tz0 tz0) (tm tz0 tz0)))))) (ta (ta (tm j4 tz0) (tm j6 (ta (tm tz0 tz0) (tm tz0 tz0)))) (ta (tm tz0 tz0) (tm j6 (ta (tm tz0 to1) (tm tz0 tz0)))))) (ta (ta (tm j5 tz0) (tm j6 (ta (tm tz0 to1) (tm tz0 tz0)))) (ta (tm tz0 tz0) (tm j6 (ta (tm tz0 tz0) (tm tz0 tz0)))))) j1) (Prod.ext (zq R2 [c0, c1, c2, c3, c4, c5, XI] (ta (ta (ta (ta (ta (ta (ta (ta (tm j0 tz0) (tm tz0 tz0)) (tm j6 (tm tz0 tz0))) (ta (ta (tm tz0 tz0) (tm tz0 to1)) (tm j6 (tm tz0 tz0)))) (ta (ta (ta (tm j1 tz0) (tm tz0 to1)) (tm j6 (tm tz0 tz0))) (ta (ta (tm tz0 tz0) (tm tz0 tz0)) (tm j6 (tm tz0 tz0))))) (ta (ta (ta (tm j2 tz0) (tm tz0 tz0)) (tm j6 (tm tz0 tz0))) (ta (ta (tm tz0 to1) (tm tz0 tz0)) (tm j6 (tm tz0 tz0))))) (ta (ta (ta (tm j3 to1) (tm tz0 tz0)) (tm j6 (tm tz0 tz0))) (ta (ta (tm tz0 tz0) (tm tz0 tz0)) (tm j6 (tm tz0 tz0))))) (ta (ta (ta (tm j4 tz0) (tm tz0 tz0)) (tm j6 (tm tz0 tz0))) (ta (ta (tm tz0 tz0) (tm tz0 tz0)) (tm j6 (tm tz0 to1))))) (ta (ta (ta (tm j5 tz0) (tm tz0 tz0)) (tm j6 (tm tz0 to1))) (ta (ta (tm tz0 tz0) (tm tz0 tz0)) (tm j6 (tm tz0 tz0))))) j3) (zq R2 [c0, c1, c2, c3, c4, c5, XI] (ta (ta (ta (ta (ta (ta (ta (ta (tm j0 tz0) (tm tz0 tz0)) (tm tz0 tz0)) (ta (ta (tm tz0 tz0) (tm tz0 tz0)) (tm tz0 to1))) (ta (ta (ta (tm j1 tz0) (tm tz0 tz0)) (tm tz0 to1)) (ta (ta (tm tz0 tz0) (tm tz0 tz0)) (tm tz0 tz0)))) (ta (ta (ta (tm j2 tz0) (tm tz0 tz0)) (tm tz0 tz0)) (ta (ta (tm tz0 tz0) (tm tz0 to1)) (tm tz0 tz0)))) (ta (ta (ta (tm j3 tz0) (tm tz0 to1)) (tm tz0 tz0)) (ta (ta (tm tz0 tz0) (tm tz0 tz0)) (tm tz0 tz0)))) (ta (ta (ta (tm j4 tz0) (tm tz0 tz0)) (tm tz0 tz0)) (ta (ta (tm tz0 to1) (tm tz0 tz0)) (tm tz0 tz0)))) (ta (ta (ta (tm j5 to1) (tm tz0 tz0)) (tm tz0 tz0)) (ta (ta (tm tz0 tz0) (tm tz0 tz0)) (tm tz0 tz0)))) j5)))
def GA : W2 := pw2 XI sx
theorem FX : K12.pw (wk 1) PP = K12.mul (em GA) (wk 1) := by
 have e : K12.pw (wk 1) PP = K12.pw (wk 1) (6 * sx + 1) := congrArg (fun n => K12.pw (wk 1) n) sx_val.symm
 have e1 : wk 1 = ((ze2, ze2, ze2), (on2, ze2, ze2)) := wk1
 have e6 : K12.pw (wk 1) 6 = em XI := by rw [e1]; exact wk6
 rw [e, K12.pw_add, K12.pw_mul, e6, sy, K12.pw_one]; rfl
theorem Ik (k : Nat) : K12.pw (wk k) PP = K12.mul (em (pw2 GA k)) (wk k) := by
 have e1 : wk 1 = ((ze2, ze2, ze2), (on2, ze2, ze2)) := wk1
 have e : wk k = K12.pw (wk 1) k := by rw [e1]; rfl
 rw [e, ← K12.pw_mul, Nat.mul_comm, K12.pw_mul, FX, K12.mul_pw, sy]
theorem gE (c : W2) (k : Nat) : K12.pw (K12.mul (em c) (wk k)) PP = K12.mul (em (ml2 (cj2 c) (pw2 GA k))) (wk k) := by
 rw [K12.mul_pw, sy, BZ, Ik, ← K12.mul_assoc, mT]
def bX (x : W12) : W12 := ((ml2 (cj2 x.1.1) (pw2 GA 0), ml2 (cj2 x.1.2.1) (pw2 GA 2), ml2 (cj2 x.1.2.2) (pw2 GA 4)), (ml2 (cj2 x.2.1) (pw2 GA 1), ml2 (cj2 x.2.2.1) (pw2 GA 3), ml2 (cj2 x.2.2.2) (pw2 GA 5)))
theorem lm (x : W12) : K12.pw x PP = bX x := by
 have h := mp x.1.1 x.2.1 x.1.2.1 x.2.2.1 x.1.2.2 x.2.2.2
 have e : K12.pw x PP = K12.pw ((x.1.1, x.1.2.1, x.1.2.2), (x.2.1, x.2.2.1, x.2.2.2)) PP := rfl
 rw [e, ← h, gp, gp, gp, gp, gp, gE, gE, gE, gE, gE, gE, mp]
 rfl
/-! ### Six parts, as the reference multiplies them -/
def tq (f : Nat → W2) : W12 := ((f 0, f 2, f 4), (f 1, f 3, f 5))
def LP (a b : Nat → W2) : Nat → Nat → W2
 | 0, _ => ze2
 | n + 1, m => if n / 6 + n % 6 = m then ad2 (LP a b n m) (ml2 (a (n / 6)) (b (n % 6))) else LP a b n m
def TMf (a b : Nat → W2) (i : Nat) : W2 := if i < 5 then ad2 (LP a b 36 i) (xi2 (LP a b 36 (i + 6))) else LP a b 36 i
theorem txi {ρ : Nat → W2} {p : Po} {a : W2} (k : Nat) (ha : R2.d ρ p = a) (hk : ρ k = XI) : R2.d ρ (ph p (pv k)) = xi2 a := by rw [R2.d_mul, ha, R2.d_var, hk]; exact (xt a).symm
theorem tsb {ρ : Nat → W2} {p q : Po} {a b : W2} (ha : R2.d ρ p = a) (hb : R2.d ρ q = b) : R2.d ρ (kq p (oG q)) = sb2 a b := by rw [R2.d_add, R2.d_neg, ha, hb, fW]; rfl
theorem LP0 (a b : Nat → W2) : LP a b 36 0 = ad2 (ze2) (ml2 (a 0) (b 0)) := by kernel_rfl
theorem LP1 (a b : Nat → W2) : LP a b 36 1 = ad2 (ad2 (ze2) (ml2 (a 0) (b 1))) (ml2 (a 1) (b 0)) := by kernel_rfl
theorem LP2 (a b : Nat → W2) : LP a b 36 2 = ad2 (ad2 (ad2 (ze2) (ml2 (a 0) (b 2))) (ml2 (a 1) (b 1))) (ml2 (a 2) (b 0)) := by kernel_rfl
theorem LP3 (a b : Nat → W2) : LP a b 36 3 = ad2 (ad2 (ad2 (ad2 (ze2) (ml2 (a 0) (b 3))) (ml2 (a 1) (b 2))) (ml2 (a 2) (b 1))) (ml2 (a 3) (b 0)) := by kernel_rfl
theorem LP4 (a b : Nat → W2) : LP a b 36 4 = ad2 (ad2 (ad2 (ad2 (ad2 (ze2) (ml2 (a 0) (b 4))) (ml2 (a 1) (b 3))) (ml2 (a 2) (b 2))) (ml2 (a 3) (b 1))) (ml2 (a 4) (b 0)) := by kernel_rfl
theorem LP5 (a b : Nat → W2) : LP a b 36 5 = ad2 (ad2 (ad2 (ad2 (ad2 (ad2 (ze2) (ml2 (a 0) (b 5))) (ml2 (a 1) (b 4))) (ml2 (a 2) (b 3))) (ml2 (a 3) (b 2))) (ml2 (a 4) (b 1))) (ml2 (a 5) (b 0)) := by kernel_rfl
theorem LP6 (a b : Nat → W2) : LP a b 36 6 = ad2 (ad2 (ad2 (ad2 (ad2 (ze2) (ml2 (a 1) (b 5))) (ml2 (a 2) (b 4))) (ml2 (a 3) (b 3))) (ml2 (a 4) (b 2))) (ml2 (a 5) (b 1)) := by kernel_rfl
theorem LP7 (a b : Nat → W2) : LP a b 36 7 = ad2 (ad2 (ad2 (ad2 (ze2) (ml2 (a 2) (b 5))) (ml2 (a 3) (b 4))) (ml2 (a 4) (b 3))) (ml2 (a 5) (b 2)) := by kernel_rfl
theorem LP8 (a b : Nat → W2) : LP a b 36 8 = ad2 (ad2 (ad2 (ze2) (ml2 (a 3) (b 5))) (ml2 (a 4) (b 4))) (ml2 (a 5) (b 3)) := by kernel_rfl
theorem LP9 (a b : Nat → W2) : LP a b 36 9 = ad2 (ad2 (ze2) (ml2 (a 4) (b 5))) (ml2 (a 5) (b 4)) := by kernel_rfl
theorem LP10 (a b : Nat → W2) : LP a b 36 10 = ad2 (ze2) (ml2 (a 5) (b 5)) := by kernel_rfl
theorem TM0 (a b : Nat → W2) : TMf a b 0 = (K12.mul (tq a) (tq b)).1.1 := by
 rw [TMf, if_pos (by decide), show 0 + 6 = 6 from rfl]
 rw [LP0, LP6]
 exact zq R2 [a 0, a 1, a 2, a 3, a 4, a 5, b 0, b 1, b 2, b 3, b 4, b 5, XI] (ta (ta tz0 (tm j0 j6)) (txi 12 (ta (ta (ta (ta (ta tz0 (tm j1 j11)) (tm j2 j10)) (tm j3 j9)) (tm j4 j8)) (tm j5 j7)) rfl)) (ta (ta (tm j0 j6) (tm j12 (ta (tm j2 j10) (tm j4 j8)))) (ta (tm tz0 (ta (tm j1 j7) (tm j12 (ta (tm j3 j11) (tm j5 j9))))) (tm j12 (ta (tm to1 (ta (ta (tm j1 j11) (tm j3 j9)) (tm j5 j7))) (tm tz0 (ta (ta (tm j1 j9) (tm j3 j7)) (tm j12 (tm j5 j11))))))))
theorem TM2 (a b : Nat → W2) : TMf a b 2 = (K12.mul (tq a) (tq b)).1.2.1 := by
 rw [TMf, if_pos (by decide), show 2 + 6 = 8 from rfl]
 rw [LP2, LP8]
 exact zq R2 [a 0, a 1, a 2, a 3, a 4, a 5, b 0, b 1, b 2, b 3, b 4, b 5, XI] (ta (ta (ta (ta tz0 (tm j0 j8)) (tm j1 j7)) (tm j2 j6)) (txi 12 (ta (ta (ta tz0 (tm j3 j11)) (tm j4 j10)) (tm j5 j9)) rfl)) (ta (ta (ta (tm j0 j8) (tm j2 j6)) (tm j12 (tm j4 j10))) (ta (ta (tm tz0 (ta (ta (tm j1 j9) (tm j3 j7)) (tm j12 (tm j5 j11)))) (tm to1 (ta (tm j1 j7) (tm j12 (ta (tm j3 j11) (tm j5 j9)))))) (tm j12 (tm tz0 (ta (ta (tm j1 j11) (tm j3 j9)) (tm j5 j7))))))
theorem TM4 (a b : Nat → W2) : TMf a b 4 = (K12.mul (tq a) (tq b)).1.2.2 := by
 rw [TMf, if_pos (by decide), show 4 + 6 = 10 from rfl]
 rw [LP4, LP10]
 exact zq R2 [a 0, a 1, a 2, a 3, a 4, a 5, b 0, b 1, b 2, b 3, b 4, b 5, XI] (ta (ta (ta (ta (ta (ta tz0 (tm j0 j10)) (tm j1 j9)) (tm j2 j8)) (tm j3 j7)) (tm j4 j6)) (txi 12 (ta tz0 (tm j5 j11)) rfl)) (ta (ta (ta (tm j0 j10) (tm j2 j8)) (tm j4 j6)) (ta (ta (tm tz0 (ta (ta (tm j1 j11) (tm j3 j9)) (tm j5 j7))) (tm to1 (ta (ta (tm j1 j9) (tm j3 j7)) (tm j12 (tm j5 j11))))) (tm tz0 (ta (tm j1 j7) (tm j12 (ta (tm j3 j11) (tm j5 j9)))))))
theorem TM1 (a b : Nat → W2) : TMf a b 1 = (K12.mul (tq a) (tq b)).2.1 := by
 rw [TMf, if_pos (by decide), show 1 + 6 = 7 from rfl]
 rw [LP1, LP7]
 exact zq R2 [a 0, a 1, a 2, a 3, a 4, a 5, b 0, b 1, b 2, b 3, b 4, b 5, XI] (ta (ta (ta tz0 (tm j0 j7)) (tm j1 j6)) (txi 12 (ta (ta (ta (ta tz0 (tm j2 j11)) (tm j3 j10)) (tm j4 j9)) (tm j5 j8)) rfl)) (ta (ta (tm j0 j7) (tm j12 (ta (tm j2 j11) (tm j4 j9)))) (ta (tm j1 j6) (tm j12 (ta (tm j3 j10) (tm j5 j8)))))
theorem TM3 (a b : Nat → W2) : TMf a b 3 = (K12.mul (tq a) (tq b)).2.2.1 := by
 rw [TMf, if_pos (by decide), show 3 + 6 = 9 from rfl]
 rw [LP3, LP9]
 exact zq R2 [a 0, a 1, a 2, a 3, a 4, a 5, b 0, b 1, b 2, b 3, b 4, b 5, XI] (ta (ta (ta (ta (ta tz0 (tm j0 j9)) (tm j1 j8)) (tm j2 j7)) (tm j3 j6)) (txi 12 (ta (ta tz0 (tm j4 j11)) (tm j5 j10)) rfl)) (ta (ta (ta (tm j0 j9) (tm j2 j7)) (tm j12 (tm j4 j11))) (ta (ta (tm j1 j8) (tm j3 j6)) (tm j12 (tm j5 j10))))
theorem TM5 (a b : Nat → W2) : TMf a b 5 = (K12.mul (tq a) (tq b)).2.2.2 := by
 rw [TMf, if_neg (by decide)]
 rw [LP5]
 exact zq R2 [a 0, a 1, a 2, a 3, a 4, a 5, b 0, b 1, b 2, b 3, b 4, b 5, XI] (ta (ta (ta (ta (ta (ta tz0 (tm j0 j11)) (tm j1 j10)) (tm j2 j9)) (tm j3 j8)) (tm j4 j7)) (tm j5 j6)) (ta (ta (ta (tm j0 j11) (tm j2 j9)) (tm j4 j7)) (ta (ta (tm j1 j10) (tm j3 j8)) (tm j5 j6)))
theorem qC (a b : Nat → W2) : tq (TMf a b) = K12.mul (tq a) (tq b) := Prod.ext (Prod.ext (TM0 a b) (Prod.ext (TM2 a b) (TM4 a b))) (Prod.ext (TM1 a b) (Prod.ext (TM3 a b) (TM5 a b)))
end
section
def i3a (a b c : W2) : W2 := sb2 (ml2 a a) (xi2 (ml2 b c))
def i3b (a b c : W2) : W2 := sb2 (xi2 (ml2 c c)) (ml2 a b)
def i3c (a b c : W2) : W2 := sb2 (ml2 b b) (ml2 a c)
def i3n (a b c : W2) : W2 := ad2 (ml2 a (i3a a b c)) (xi2 (ad2 (ml2 c (i3b a b c)) (ml2 b (i3c a b c))))
theorem D2 (a b c : W2) : i3a a b c = (jf R2 XI (a, b, c)).1 := zq R2 [a, b, c, XI] (tsb (tm j0 j0) (txi 3 (tm j1 j2) rfl)) (ta (tm j0 j0) (tn (tm j3 (tm j1 j2))))
theorem Fx (a b c : W2) : i3b a b c = (jf R2 XI (a, b, c)).2.1 := zq R2 [a, b, c, XI] (tsb (txi 3 (tm j2 j2) rfl) (tm j0 j1)) (ta (tm j3 (tm j2 j2)) (tn (tm j0 j1)))
theorem Ep (a b c : W2) : i3c a b c = (jf R2 XI (a, b, c)).2.2 := zq R2 [a, b, c, XI] (tsb (tm j1 j1) (tm j0 j2)) (ta (tm j1 j1) (tn (tm j0 j2)))
theorem BV (a b c : W2) : i3n a b c = cnm R2 XI (a, b, c) := zq R2 [a, b, c, XI] (ta (tm j0 (tsb (tm j0 j0) (txi 3 (tm j1 j2) rfl))) (txi 3 (ta (tm j2 (tsb (txi 3 (tm j2 j2) rfl) (tm j0 j1))) (tm j1 (tsb (tm j1 j1) (tm j0 j2)))) rfl)) (ta (tm j0 (ta (tm j0 j0) (tn (tm j3 (tm j1 j2))))) (tm j3 (ta (tm j2 (ta (tm j3 (tm j2 j2)) (tn (tm j0 j1)))) (tm j1 (ta (tm j1 j1) (tn (tm j0 j2)))))))
def iv6 (x : W6) : W6 := (ml2 (i3a x.1 x.2.1 x.2.2) (iv2 (i3n x.1 x.2.1 x.2.2)), ml2 (i3b x.1 x.2.1 x.2.2) (iv2 (i3n x.1 x.2.1 x.2.2)), ml2 (i3c x.1 x.2.1 x.2.2) (iv2 (i3n x.1 x.2.1 x.2.2)))
theorem yD {x : W6} (h : x ≠ K6.zero) : K6.mul x (iv6 x) = K6.one := by
 have hn : cnm R2 XI x ≠ ze2 := fun e => h (nS fd2 rX e)
 have hi : R2.mul (cnm R2 XI x) (iv2 (cnm R2 XI x)) = R2.one := ic hn
 have e := qZ (R := R2) (z := XI) x hi
 unfold iv6
 rw [D2, Fx, Ep, BV]
 exact e
theorem DY (x : W2) : ml2 ze2 x = ze2 := R2.zero_mul x
def ez (x : W12) : W12 := K12.mul (x.1, K6.neg x.2) (iv6 (qnm K6 VV x), K6.zero)
theorem Hh {α : Type} (R : Rg α) (z a b : α) : pX R z (a, R.zero) (b, R.zero) = (R.mul a b, R.zero) := Prod.ext (zq R [a, b, z] (ta (tm j0 j1) (tm j2 (tm tz0 tz0))) (tm j0 j1)) (zq R [a, b, z] (ta (tm j0 tz0) (tm tz0 j1)) tz0)
theorem iH {x : W12} (h : x ≠ K12.zero) : K12.mul x (ez x) = K12.one := by
 have hn : qnm K6 VV x ≠ K6.zero := fun e => h (mw fd6 ww e)
 have e := xB K6 VV x
 rw [ez, ← K12.mul_assoc]
 show K12.mul (pX K6 VV x (x.1, K6.neg x.2)) (iv6 (qnm K6 VV x), K6.zero) = K12.one
 rw [e]
 show pX K6 VV (qnm K6 VV x, K6.zero) (iv6 (qnm K6 VV x), K6.zero) = K12.one
 rw [Hh, yD hn]
 rfl
theorem z9 : ez K12.zero = K12.zero := by
 have e : ((K12.zero : W12).1, K6.neg (K12.zero : W12).2) = K12.zero := Prod.ext rfl K6.neg_zero
 rw [ez, e, K12.zero_mul]
/-! ### Six parts turned -/
def tcj (f : Nat → W2) (i : Nat) : W2 := if i % 2 = 1 then ng2 (f i) else f i
theorem A8 (f : Nat → W2) : tq (tcj f) = ((tq f).1, K6.neg (tq f).2) := rfl
/-! ### Powers by bits, in any ring -/
theorem Rg.bt_y {α : Type} (R : Rg α) (x : α) {n m : Nat} (h : m = 2 * n + 1) : R.mul (R.mul (R.pw x n) (R.pw x n)) x = R.pw x m := by
 rw [← R.pw_add, h, Nat.two_mul]; rfl
theorem Rg.bt_n {α : Type} (R : Rg α) (x : α) {n m : Nat} (h : m = 2 * n) : R.mul (R.pw x n) (R.pw x n) = R.pw x m := by
 rw [← R.pw_add, h, Nat.two_mul]
end
section
def sb6 (x y : W6) : W6 := (sb2 x.1 y.1, sb2 x.2.1 y.2.1, sb2 x.2.2 y.2.2)
def sc6 (x : W6) (c : W2) : W6 := (ml2 x.1 c, ml2 x.2.1 c, ml2 x.2.2 c)
def v6 (x : W6) : W6 := (xi2 x.2.2, x.1, x.2.1)
theorem qE (x y : W6) : sb6 x y = K6.add x (K6.neg y) := Prod.ext (fW _ _) (Prod.ext (fW _ _) (fW _ _))
theorem wt (x : W6) (c : W2) : K6.mul x (c, ze2, ze2) = sc6 x c := Prod.ext (zq R2 [x.1, x.2.1, x.2.2, c, XI] (ta (tm j0 j3) (tm j4 (ta (tm j1 tz0) (tm j2 tz0)))) (tm j0 j3)) (Prod.ext (zq R2 [x.1, x.2.1, x.2.2, c, XI] (ta (ta (tm j0 tz0) (tm j1 j3)) (tm j4 (tm j2 tz0))) (tm j1 j3)) (zq R2 [x.1, x.2.1, x.2.2, c, XI] (ta (ta (tm j0 tz0) (tm j1 tz0)) (tm j2 j3)) (tm j2 j3)))
theorem sC (x : W6) : K6.mul x VV = v6 x := Prod.ext (zq R2 [x.1, x.2.1, x.2.2, XI] (ta (tm j0 tz0) (tm j3 (ta (tm j1 tz0) (tm j2 to1)))) (txi 3 j2 rfl)) (Prod.ext (zq R2 [x.1, x.2.1, x.2.2, XI] (ta (ta (tm j0 to1) (tm j1 tz0)) (tm j3 (tm j2 tz0))) j0) (zq R2 [x.1, x.2.1, x.2.2, XI] (ta (ta (tm j0 tz0) (tm j1 to1)) (tm j2 tz0)) j1))
def r6 (x : W6) : W12 := (x, K6.zero)
theorem yq {x y : W6} (h : r6 x = r6 y) : x = y := congrArg Prod.fst h
theorem DE (x y : W6) : K12.add (r6 x) (r6 y) = r6 (K6.add x y) := Prod.ext rfl (K6.add_zero K6.zero)
theorem EZ (x : W6) : K12.neg (r6 x) = r6 (K6.neg x) := Prod.ext rfl K6.neg_zero
theorem uy (x y : W6) : K12.mul (r6 x) (r6 y) = r6 (K6.mul x y) := Hh K6 VV x y
theorem oF (x : W6) (c : W2) : K12.mul (r6 x) (em c) = r6 (sc6 x c) := by
 rw [← wt]; exact uy x (c, ze2, ze2)
/-! ### The chapter's examples -/
end
section
section
variable {α : Type} [DecidableEq α] (C : Ec α)
def Ec.jm (J : α × α × α) : List Bool → α × α × α → α × α × α
 | [], A => A
 | b :: r, A => Ec.jm J r (if b then C.jaF (C.jdF A) J else C.jdF A)
def sk : List Bool → Nat → Nat
 | [], n => n
 | b :: r, n => sk r (2 * n + (if b then 1 else 0))
theorem Ec.jr_m {J : α × α × α} {P : Pt α} (hP : C.onP P) (h : C.jr J P) : ∀ (l : List Bool) (A : α × α × α) (n : Nat), C.jr A (C.times P n) → C.jr (C.jm J l A) (C.times P (sk l n))
 | [], _, _, hA => hA
 | b :: r, A, n, hA => by
  have hd := C.jr_d (C.times_on hP n) hA
  rw [← C.times_add hP, ← Nat.two_mul] at hd
  cases b with
  | false => exact Ec.jr_m hP h r _ _ hd
  | true =>
   have ha := C.jr_a (C.times_on hP (2 * n)) hP hd h
   exact Ec.jr_m hP h r _ (2 * n + 1) ha
end
/-! ### Over p -/
def RZp : Rg Zp where
 zero := 0
 one := 1
 add := fun a b => a + b
 mul := fun a b => a * b
 neg := fun a => -a
 add_assoc := fun a b c => by grind
 add_comm := fun a b => by grind
 add_zero := fun a => by grind
 add_neg := fun a => by grind
 mul_assoc := fun a b c => by grind
 mul_comm := fun a b => by grind
 mul_one := fun a => by grind
 mul_add := fun a b c => by grind
def E1 : Ec Zp where
 R := RZp
 iv := fun a => a ^ (PP - 2)
 b := zp 4
 hi := fun _ h => yp h
 h2 := by decide +kernel
 h3 := by decide +kernel
 hb := by decide +kernel
def E1w : Ec W2 where
 R := R2
 iv := iv2
 b := (zp 4, 0)
 hi := fun _ h => ic h
 h2 := by decide +kernel
 h3 := by decide +kernel
 hb := by decide +kernel
def E2w : Ec W2 where
 R := R2
 iv := iv2
 b := (zp 4, zp 4)
 hi := fun _ h => ic h
 h2 := by decide +kernel
 h3 := by decide +kernel
 hb := by decide +kernel
def G1x : Nat := 0x17f1d3a73197d7942695638c4fa9ac0fc3688c4f9774b905a14e3a3f171bac586c55e83ff97a1aeffb3af00adb22c6bb
def G1y : Nat := 0x8b3f481e3aaa0f1a09e30ed741d8ae4fcf5e095d5d00af600db18cb2c04b3edd03cc744a2888ae40caa232946c5e7e1
def G1p : Zp × Zp := (zp G1x, zp G1y)
theorem Iw : E1.on G1p := by
 unfold Ec.on
 decide +kernel
def ORD : Nat := 0x73eda753299d7d483339d80809a1d80553bda402fffe5bfeffffffff00000001
def mO : Nat → Nat → List Bool → List Bool
 | 0, _, l => l
 | f + 1, n, l => mO f (n / 2) ((n % 2 == 1) :: l)
theorem z7 : sk (mO 255 ORD []) 0 = ORD := by decide +kernel
theorem Iq : E1.jr (zp G1x, zp G1y, 1) (some G1p) := ⟨nk, by decide +kernel, by decide +kernel⟩
theorem An {α : Type} (C : Ec α) {J : α × α × α} {P : Pt α} (h : C.jr J P) (hz : J.2.2 = C.R.zero) : P = none := by
 cases P with
 | none => rfl
 | some p => exact absurd hz h.1
theorem zy {α : Type} [DecidableEq α] (C : Ec α) {J : α × α × α} {P : Pt α} (hP : C.onP P) (h : C.jr J P) (l : List Bool) {n : Nat} (hn : sk l 0 = n) (hz : (C.jm J l (C.R.zero, C.R.zero, C.R.zero)).2.2 = C.R.zero) : C.times P n = none := by
 have k := C.jr_m hP h l (C.R.zero, C.R.zero, C.R.zero) 0 (show C.R.zero = C.R.zero from rfl)
 rw [hn] at k
 exact An C k hz
end
section
structure Em {α β : Type} (C : Ec α) (D : Ec β) where
 f : α → β
 h0 : f C.R.zero = D.R.zero
 ha : ∀ a b, f (C.R.add a b) = D.R.add (f a) (f b)
 hm : ∀ a b, f (C.R.mul a b) = D.R.mul (f a) (f b)
 hn : ∀ a, f (C.R.neg a) = D.R.neg (f a)
 hi : ∀ a b, f a = f b → a = b
 hb : f C.b = D.b
section
variable {α β : Type} {C : Ec α} {D : Ec β} (e : Em C D)
def Em.q (p : α × α) : β × β := (e.f p.1, e.f p.2)
def Em.p : Pt α → Pt β
 | none => none
 | some p => some (e.q p)
theorem Em.sub (a b : α) : e.f (C.sub a b) = D.sub (e.f a) (e.f b) := by rw [Ec.sub, Ec.sub, e.ha, e.hn]
theorem Em.on {p : α × α} (h : C.on p) : D.on (e.q p) := by
 have := congrArg e.f h
 rw [e.hm, e.ha, e.hm, e.hm, e.hb] at this
 exact this
theorem Em.onP {P : Pt α} (h : C.onP P) : D.onP (e.p P) := by
 cases P with
 | none => trivial
 | some p => exact e.on h
theorem Em.sl {p q : α × α} {s : α} (h : C.Sl p q s) : D.Sl (e.q p) (e.q q) (e.f s) := by
 have h1 := congrArg e.f h.1
 have h2 := congrArg e.f h.2
 rw [e.hm, e.sub, e.sub] at h1
 rw [e.hm, e.ha, e.ha, e.ha, e.hm, e.hm, e.hm] at h2
 exact ⟨h1, h2⟩
theorem Em.opp {p q : α × α} : D.opp (e.q p) (e.q q) ↔ C.opp p q :=
 ⟨fun h => ⟨e.hi _ _ h.1, e.hi _ _ (by rw [e.ha, e.h0]; exact h.2)⟩, fun h => ⟨congrArg e.f h.1, by
  have := congrArg e.f h.2
  rw [e.ha, e.h0] at this
  exact this⟩⟩
theorem Em.th (p q : α × α) (s : α) : D.th (e.q p) (e.q q) (e.f s) = e.q (C.th p q s) := by
 have hx : D.x3 (e.q p) (e.q q) (e.f s) = e.f (C.x3 p q s) := by rw [Ec.x3, Ec.x3, e.sub, e.sub, e.hm]; rfl
 refine Prod.ext hx ?_
 show D.sub (D.R.mul (e.f s) (D.sub (e.f p.1) (D.x3 (e.q p) (e.q q) (e.f s)))) (e.f p.2) = e.f (C.sub (C.R.mul s (C.sub p.1 (C.x3 p q s))) p.2)
 rw [hx, e.sub, e.hm, e.sub]
theorem Em.ne (P : Pt α) : e.p (C.ne P) = D.ne (e.p P) := by
 cases P with
 | none => rfl
 | some p => exact congrArg some (Prod.ext rfl (e.hn _))
theorem Em.inj {P Q : Pt α} (h : e.p P = e.p Q) : P = Q := by
 cases P with
 | none =>
  cases Q with
  | none => rfl
  | some q => cases h
 | some p =>
  cases Q with
  | none => cases h
  | some q =>
   have h := Option.some.inj h
   exact congrArg some (Prod.ext (e.hi _ _ (congrArg Prod.fst h)) (e.hi _ _ (congrArg Prod.snd h)))
theorem Em.jr {J : α × α × α} {P : Pt α} (h : C.jr J P) : D.jr (e.f J.1, e.f J.2.1, e.f J.2.2) (e.p P) := by
 cases P with
 | none => exact (congrArg e.f h).trans e.h0
 | some p =>
  refine ⟨fun h' => h.1 (e.hi _ _ (h'.trans e.h0.symm)), ?_, ?_⟩
  ·have := congrArg e.f h.2.1
   rw [e.hm, Ec.z2, e.hm] at this
   exact this
  ·have := congrArg e.f h.2.2
   rw [e.hm, Ec.z3, e.hm, e.hm] at this
   exact this
end
section
variable {α β : Type} [DecidableEq α] [DecidableEq β] {C : Ec α} {D : Ec β} (e : Em C D)
theorem Em.ad {P Q : Pt α} (hP : C.onP P) (hQ : C.onP Q) : e.p (C.ad P Q) = D.ad (e.p P) (e.p Q) := by
 cases P with
 | none => rfl
 | some p =>
  cases Q with
  | none => rw [C.ad_nr]; exact (D.ad_nr _).symm
  | some q =>
   by_cases ho : C.opp p q
   ·rw [C.ad_opp ho]; exact (D.ad_opp (e.opp.2 ho)).symm
   ·obtain ⟨s, hs⟩ := C.sl_is hP hQ ho
    rw [C.ad_sl hP hQ ho hs]
    exact ((D.ad_sl (e.on hP) (e.on hQ) (fun h => ho (e.opp.1 h)) (e.sl hs)).trans (congrArg some (e.th p q s))).symm
theorem Em.times {P : Pt α} (hP : C.onP P) : ∀ n, e.p (C.times P n) = D.times (e.p P) n
 | 0 => rfl
 | n + 1 => by
  show e.p (C.ad (C.times P n) P) = D.ad (D.times (e.p P) n) (e.p P)
  rw [e.ad (C.times_on hP n) hP, Em.times hP n]
end
theorem BE (a : Zp) : a - 0 = a := by grind
theorem uM (a : Zp) : a + 0 = a := by grind
theorem z_n0' : -(0 : Zp) = 0 := Ah.2 rfl
end
section
section
variable {α : Type} (C : Ec α)
theorem Ec.jr_z {J : α × α × α} {P : Pt α} (h : C.jr J P) : J.2.2 = C.R.zero ↔ P = none := by
 cases P with
 | none => exact ⟨fun _ => rfl, fun _ => h⟩
 | some p => exact ⟨fun e => absurd e h.1, fun e => by cases e⟩
theorem Ec.sc2 (a z c : α) : C.R.mul (C.R.mul a (C.z2 z)) (C.z2 c) = C.R.mul a (C.z2 (C.R.mul z c)) := zq C.R [a, z, c] (tm (tm j0 (tm j1 j1)) (tm j2 j2)) (tm j0 (tm (tm j1 j2) (tm j1 j2)))
theorem Ec.jr_at (p : α × α) (h1 : C.R.one ≠ C.R.zero) : C.jr (p.1, p.2, C.R.one) (some p) := by
 refine ⟨h1, ?_, ?_⟩
 ·show p.1 = C.R.mul p.1 (C.R.mul C.R.one C.R.one)
  rw [C.R.mul_one, C.R.mul_one]
 ·show p.2 = C.R.mul p.2 (C.R.mul (C.R.mul C.R.one C.R.one) C.R.one)
  rw [C.R.mul_one, C.R.mul_one, C.R.mul_one]
end
section
variable {α : Type} [DecidableEq α] (C : Ec α)
theorem Ec.times_comm {P : Pt α} (hP : C.onP P) (m n : Nat) : C.times (C.times P m) n = C.times (C.times P n) m := by
 rw [← C.times_mul hP, ← C.times_mul hP, Nat.mul_comm]
theorem Ec.times_ord {P : Pt α} (hP : C.onP P) {r : Nat} (h : C.times P r = none) (k : Nat) : C.times (C.times P k) r = none := by
 rw [C.times_comm hP, h, C.times_none]
theorem Ec.dbl_times {P : Pt α} (hP : C.onP P) (n : Nat) : C.ad (C.times P n) (C.times P n) = C.times P (2 * n) := by rw [← C.times_add hP, Nat.two_mul]
end
def RJ : Pt Zp → W6
 | none => (ze2, ze2, ze2)
 | some p => ((p.1, 0), (p.2, 0), on2)
end
section
section
variable {α : Type} [DecidableEq α] {C : Ec α} (T : Tw C)
end
theorem Ef {p : Nat} (hp : Pr p) {d : Nat} (h0 : 0 < d) (h1 : d < p) : ∃ e, (d * e) % p = 1 := by
 refine ⟨d ^ (p - 2), ?_⟩
 have h2 : 1 < p := hp.1
 rw [← Nat.pow_succ', show (p - 2).succ = p - 1 from by omega]
 exact hp.fermat1 fun h => absurd (Nat.le_of_dvd h0 h) (by omega)
/-! ### The first curve -/
def UG : Nat := 0xd201000000010000
theorem Dt : Pr ORD := by
 have e : ORD = RR := by decide +kernel
 rw [e]; exact pr_r
end
section
def G2p : W2 × W2 := ((zp 0x24aa2b2f08f0a91260805272dc51051c6e47ad4fa403b02b4510b647ae3d1770bac0326a805bbefd48056c8c121bdb8, zp 0x13e02b6052719f607dacd3a088274f65596bd0d09920b61ab5da61bbdc7f5049334cf11213945d57e5ac7d055d042b7e), (zp 0xce5d527727d6e118cc9cdc6da2e351aadfd9baa8cbdd3a76d429a695160d12c923ac9cc3baca289e193548608b82801, zp 0x606c4a02ea734cc32acd2b02bc28b99cb3e287e85a763af267492ab572e99ab3f370d275cec1da1aaa9075ff05f79be))
theorem mq : E2w.on G2p := by
 unfold Ec.on
 decide +kernel
theorem Aw : E2w.jr (G2p.1, G2p.2, on2) (some G2p) := ⟨by decide +kernel, by decide +kernel, by decide +kernel⟩
theorem g2_z : (E2w.jm (G2p.1, G2p.2, on2) (mO 255 ORD []) (ze2, ze2, ze2)).2.2 = ze2 := by decide +kernel
theorem n6 : E2w.times (some G2p) ORD = none := zy E2w (P := some G2p) mq Aw (mO 255 ORD []) z7 g2_z
end
section
def RJ2 : Pt W2 → W6
 | none => (ze2, ze2, ze2)
 | some p => (p.1, p.2, on2)
theorem f5 : on2 ≠ ze2 := fun h => absurd (congrArg Prod.fst h) nk
theorem nd (p : W2 × W2) : E2w.jr (p.1, p.2, on2) (some p) := E2w.jr_at p f5
theorem wE (P : Pt W2) : E2w.jr (RJ2 P) P := by
 cases P with
 | none => rfl
 | some p => exact nd p
end
section
section
variable {α β : Type} {C : Ec α} {D : Ec β} (T : Hw C D)
theorem Hw.f1 : T.f C.R.one = D.R.one := by
 have e : D.R.mul (T.f C.R.one) (D.sub (T.f C.R.one) D.R.one) = D.R.zero := by
  have k := T.fm C.R.one C.R.one
  rw [C.R.mul_one] at k
  exact Rg.lc (R := D.R) (zq D.R [T.f C.R.one] (ta (tm j0 (ta j0 (tn to1))) (tm (tn to1) (tm j0 j0))) (ta tz0 (tm (tn to1) j0))) (lcm k)
 exact D.sub0 ((D.fd.two e).resolve_left fun h => C.one_ne (T.fi _ h))
end
/-! ### Over p^12 -/
def E12 : Ec W12 where
 R := K12
 iv := ez
 b := em (zp 4, zp 4)
 hi := fun _ h => iH h
 h2 := by decide +kernel
 h3 := by decide +kernel
 hb := by decide +kernel
theorem yd (a b : W2) : em (ad2 a b) = K12.add (em a) (em b) := Prod.ext (Prod.ext rfl (Prod.ext (R2.add_zero _).symm (R2.add_zero _).symm)) (Prod.ext (R2.add_zero _).symm (Prod.ext (R2.add_zero _).symm (R2.add_zero _).symm))
theorem xY (a : W2) : em (ng2 a) = K12.neg (em a) := Prod.ext (Prod.ext rfl (Prod.ext R2.neg_zero.symm R2.neg_zero.symm)) (Prod.ext R2.neg_zero.symm (Prod.ext R2.neg_zero.symm R2.neg_zero.symm))
theorem sO {a : W2} (h : em a = K12.zero) : a = ze2 := congrArg (fun x : W12 => x.1.1) h
def HE : Hw E2w E12 where
 f := em
 w := K12.one
 fa := yd
 fm := fun a b => (mT a b).symm
 fn := xY
 f0 := rfl
 fi := fun _ h => sO h
 wn := by decide +kernel
 wb := by decide +kernel
def WW : W12 := (K6.zero, K6.one)
def re2 (a : Zp) : W2 := (a, 0)
theorem zN (a b : Zp) : re2 (a + b) = ad2 (re2 a) (re2 b) := bM rfl (by show (0 : Zp) = 0 + 0; exact (uM 0).symm)
theorem zL (a b : Zp) : re2 (a * b) = ml2 (re2 a) (re2 b) := bM (by show a * b = a * b - 0 * 0; rw [fZ, BE]) (by show (0 : Zp) = a * 0 + 0 * b; rw [fZ, nV, uM])
theorem yW (a : Zp) : re2 (-a) = ng2 (re2 a) := bM rfl (by show (0 : Zp) = -0; exact z_n0'.symm)
theorem ye {a : Zp} (h : re2 a = ze2) : a = 0 := congrArg Prod.fst h
def HB : Hw E1 E12 where
 f := fun a => em (re2 a)
 w := WW
 fa := fun a b => by show em (re2 (a + b)) = _; rw [zN, yd]; rfl
 fm := fun a b => by show em (re2 (a * b)) = _; rw [zL, ← mT]; rfl
 fn := fun a => by show em (re2 (-a)) = _; rw [yW, xY]; rfl
 f0 := rfl
 fi := fun _ h => ye (sO h)
 wn := by decide +kernel
 wb := by decide +kernel
theorem WW2 : K12.mul WW WW = r6 VV := by decide +kernel
theorem E5 (c : W2) : sc6 VV c = (ze2, c, ze2) := Prod.ext (R2.zero_mul c) (Prod.ext (R2.one_mul c) (R2.zero_mul c))
theorem Fk (c : W2) : K12.mul (K12.mul WW WW) (em c) = r6 (ze2, c, ze2) := by rw [WW2, oF, E5]
theorem GF (x : W6) : K12.mul WW (r6 x) = (K6.zero, x) := by
 refine Prod.ext ?_ ?_
 ·show K6.add (K6.mul K6.zero x) (K6.mul VV (K6.mul K6.one K6.zero)) = K6.zero
  rw [K6.zero_mul, K6.mul_zero, K6.mul_zero, K6.add_zero]
 ·show K6.add (K6.mul K6.zero K6.zero) (K6.mul K6.one x) = x
  rw [K6.zero_mul, K6.zero_add, K6.one_mul]
theorem WW_y (c : W2) : K12.mul (K12.mul WW (K12.mul WW WW)) (em c) = (K6.zero, (ze2, c, ze2)) := by rw [K12.mul_assoc, Fk, GF]
theorem FR (s : W2 × W2) : HE.m s = (em s.1, em s.2) := by
 refine Prod.ext ?_ ?_
 ·show K12.mul (K12.mul K12.one K12.one) (em s.1) = em s.1
  rw [K12.one_mul, K12.one_mul]
 ·show K12.mul (K12.mul K12.one (K12.mul K12.one K12.one)) (em s.2) = em s.2
  rw [K12.one_mul, K12.one_mul, K12.one_mul]
theorem D0 : E2w.onP (some G2p) := mq
end
section
section
variable {α : Type} [DecidableEq α] (C : Ec α)
theorem Ec.line {c x y : α} (hc : C.R.add (C.R.add (C.R.mul c c) c) C.R.one = C.R.zero) (hp : C.on (x, y)) (hq : C.on (C.R.mul c x, y)) : C.ad (C.ad (some (x, y)) (some (C.R.mul c x, y))) (some (C.R.mul c (C.R.mul c x), y)) = none := by
 have ho : ¬ C.opp (x, y) (C.R.mul c x, y) := by
  intro h
  have h1 : x = C.R.mul c x := h.1
  have hy : y = C.R.zero := C.dbl0 h.2
  have e : C.R.mul (C.R.add (C.R.add C.R.one C.R.one) C.R.one) x = C.R.zero := Rg.lc (R := C.R) (zq C.R [x, y, c] (ta (tm (ta (ta to1 to1) to1) j0) (ta (tm j0 tz0) (tm (ta (ta to1 to1) j2) (tm j2 j0)))) (ta tz0 (ta (tm j0 (ta (ta (tm j2 j2) j2) to1)) (tm (ta (ta to1 to1) j2) j0)))) (lca (lcm hc) (lcm h1))
  have hx : x = C.R.zero := (C.fd.two e).resolve_left C.h3
  subst hx hy
  have k : C.R.mul C.R.zero C.R.zero = C.R.add (C.R.mul C.R.zero (C.R.mul C.R.zero C.R.zero)) C.b := hp
  rw [C.R.mul_zero, C.R.mul_zero, C.R.zero_add] at k
  exact C.hb k.symm
 have hs : C.Sl (x, y) (C.R.mul c x, y) C.R.zero := by
  refine ⟨?_, ?_⟩
  ·show C.R.mul C.R.zero (C.R.add x (C.R.neg (C.R.mul c x))) = C.R.add y (C.R.neg y)
   exact zq C.R [x, y, c] (tm tz0 (ta j0 (tn (tm j2 j0)))) (ta j1 (tn j1))
  ·show C.R.mul C.R.zero (C.R.add y y) = C.R.add (C.R.add (C.R.mul x x) (C.R.mul x (C.R.mul c x))) (C.R.mul (C.R.mul c x) (C.R.mul c x))
   exact Rg.lc (R := C.R) (zq C.R [x, y, c] (ta (tm tz0 (ta j1 j1)) (tm (tn (tm j0 j0)) tz0)) (ta (ta (ta (tm j0 j0) (tm j0 (tm j2 j0))) (tm (tm j2 j0) (tm j2 j0))) (tm (tn (tm j0 j0)) (ta (ta (tm j2 j2) j2) to1)))) (lcm hc)
 rw [C.ad_sl hp hq ho hs]
 refine C.ad_opp ⟨?_, ?_⟩
 ·show C.R.add (C.R.add (C.R.mul C.R.zero C.R.zero) (C.R.neg x)) (C.R.neg (C.R.mul c x)) = C.R.mul c (C.R.mul c x)
  exact Rg.lc (R := C.R) (zq C.R [x, y, c] (ta (ta (ta (tm tz0 tz0) (tn j0)) (tn (tm j2 j0))) (tm (tn j0) tz0)) (ta (tm j2 (tm j2 j0)) (tm (tn j0) (ta (ta (tm j2 j2) j2) to1)))) (lcm hc)
 ·show C.R.add (C.R.add (C.R.mul C.R.zero _) (C.R.neg y)) y = C.R.zero
  rw [C.R.zero_mul, C.R.zero_add, C.R.add_comm, C.R.add_neg]
variable {C} (T : Tw C)
end
/-! ### The second curve -/
end
section
open Go.RowKit
theorem aN {f : FuncId} {fn : Func} {c : Code} {args : List Value} {v : Value} (hf : Tryz.prog.funcs[f]? = some fn) (h : ∀ w, Gt w → BOk Gt (pl w) → X Tryz.prog Gt none fn.ntmps [] c (gt 0 args) (Hp (pl w) []) (jk Tryz.prog fn (fun e w' => e = .returned v ∧ Grow w w'))) (hb : fn.body = some c := by exact rfl) (hn : Nat.ble args.length fn.ntmps = true := by exact rfl) : Pure Tryz.prog Gt f args v := fun w hw => aF (G := Gt) hf hb hn (Hp (pl w) []) (aP (pl w) trivial ap) (aw (gt_low.plain hw)) (h w hw (gt_low.plain hw))
section
variable {G : Cls} {ro : Option Nat} {ops : Array Oper} {N : Nat} {ds : List Deferred} {fs : List Nat} {Z : Fr → Cls → Prop} {F : Fr} {C : Cls} {rest : List Oper}
variable {d : Nat} {ty : TypeId} {pos : String} {af : Array Edge} {gd : Option (Nat × Bool)} {B : Bs} {L : Hl}
structure LY (P : Program) (G : Cls) (ro : Option Nat) (ops : Array Oper) (N : Nat) (ds : List Deferred) (E : Oper → Bool) (Z : Fr → Cls → Prop) (l : List Oper) (F : Fr) (C : Cls) : Prop where
 run : Lx P G ro ops N ds E Z l F C
theorem xp {P : Program} {id : Nat} {l : List Oper} {y : Code} {K : KK} (h : Lx P G ro l.toArray N ds (EE []) (fun F' C' => X P G ro N ds y F' C' K) l F C) : X P G ro N ds (.seq (.region id l.toArray false) y) F C K := ac h
theorem rt {Q P : Prop} (k : Q) (h : Q → P := by intro k; (refine eO ?_); (repeat (first | refine bl ?_ | refine bn ?_)); exact k) : P := h k
theorem jx (d : Nat) (v : Value) (F : Fr) : evF ((d, v) :: F) (.tmp d) = some v := by simp [evF, lk]
theorem bY {P : Program} {E : Oper → Bool} (h : Z F C) : LY P G ro ops N ds E Z [] F C := ⟨aa h⟩
theorem bH {x : Operand} {v : Value} (hx : evF F x = some v) (hw : aD ops F ⟨some d, .move x, ty, pos, af, gd⟩ = some true) (hd : Nat.blt d N = true) (h : LY Tryz.prog G ro ops N ds (EE fs) Z rest ((d, v) :: F) C) : LY Tryz.prog G ro ops N ds (EE fs) Z (⟨some d, .move x, ty, pos, af, gd⟩ :: rest) F C := ⟨aK hx hw hd h.run⟩
theorem bd {x : Operand} {v : Value} (hx : evF F x = some v) (hw : aD ops F ⟨some d, .assign x, ty, pos, af, gd⟩ = some true) (hd : Nat.blt d N = true) (h : LY Tryz.prog G ro ops N ds (EE fs) Z rest ((d, v) :: F) C) : LY Tryz.prog G ro ops N ds (EE fs) Z (⟨some d, .assign x, ty, pos, af, gd⟩ :: rest) F C := ⟨aX hx hw hd h.run⟩
theorem ee {x : Operand} {i : Nat} {vs : Array Value} {v : Value} (hx : evF F x = some (.tuple vs)) (hv : vs[i]? = some v) (hw : aD ops F ⟨some d, .extract x i, ty, pos, af, gd⟩ = some true) (hd : Nat.blt d N = true) (h : LY Tryz.prog G ro ops N ds (EE fs) Z rest ((d, v) :: F) C) : LY Tryz.prog G ro ops N ds (EE fs) Z (⟨some d, .extract x i, ty, pos, af, gd⟩ :: rest) F C := ⟨cw hx hv hw hd h.run⟩
theorem gi {c x y : Operand} {b : Bool} {vx vy : Value} (hc : evF F c = some (.bool b)) (hx : evF F x = some vx) (hy : evF F y = some vy) (hw : aD ops F ⟨some d, .pick c x y, ty, pos, af, gd⟩ = some true) (hd : Nat.blt d N = true) (h : LY Tryz.prog G ro ops N ds (EE fs) Z rest ((d, if b then vx else vy) :: F) C) : LY Tryz.prog G ro ops N ds (EE fs) Z (⟨some d, .pick c x y, ty, pos, af, gd⟩ :: rest) F C := ⟨rS hc hx hy hw hd h.run⟩
theorem bw {f : Nat} {al : List Operand} {at' : Array TypeId} {vs : List Value} {v : Value} (hf : fs.any (Nat.beq f) = false) (ha : evL F al = some vs) (he : ae Tryz.prog f) (hp : Pure Tryz.prog G f vs v) (hw : aD ops F ⟨some d, .call { callee := .value (.func f), args := al.toArray, argTypes := at' }, ty, pos, af, gd⟩ = some true) (hd : Nat.blt d N = true) (h : LY Tryz.prog G ro ops N ds (EE fs) Z rest ((d, v) :: F) C) : LY Tryz.prog G ro ops N ds (EE fs) Z (⟨some d, .call { callee := .value (.func f), args := al.toArray, argTypes := at' }, ty, pos, af, gd⟩ :: rest) F C := ⟨aE hf ha he hp hw hd h.run⟩
theorem la {t : TypeId} {l : List Value} (hz : ∀ w, (zeroValue t).run Tryz.prog w = .ok (.agg l.toArray) w) (h : ∀ b, Lx Tryz.prog G ro ops N ds (EE fs) Z rest ((d, .pointer (some ⟨b, 0, none⟩)) :: F) (Hp B ((d, b, l, t) :: L))) (hG : BOk G B := by exact hGF) (hw : aD ops F ⟨some d, .alloc t, ty, pos, af, gd⟩ = some true := by exact rfl) (hd : Nat.blt d N = true := by exact rfl) (hgr : fs.any (Nat.beq 2999999) = false := by exact rfl) : Lx Tryz.prog G ro ops N ds (EE fs) Z (⟨some d, .alloc t, ty, pos, af, gd⟩ :: rest) F (Hp B L) := ca d hG hz hw hd h hgr
theorem lb {t : TypeId} {x : Operand} {l : List Value} (h : ∀ b, Lx Tryz.prog G ro ops N ds (EE fs) Z rest ((d, .pointer (some ⟨b, 0, none⟩)) :: F) (Hp B ((d, b, l, t) :: L))) (hG : BOk G B := by exact hGF) (hx : evF F x = some (.agg l.toArray) := by exact rfl) (hw : aD ops F ⟨some d, .box t x, ty, pos, af, gd⟩ = some true := by exact rfl) (hd : Nat.blt d N = true := by exact rfl) : Lx Tryz.prog G ro ops N ds (EE fs) Z (⟨some d, .box t x, ty, pos, af, gd⟩ :: rest) F (Hp B L) := dJ d hG hx hw hd h
theorem lc {f : Nat} {al : List Operand} {at' : Array TypeId} {vs : List Value} {v : Value} (he : ae Tryz.prog f) (hp : Pure Tryz.prog G f vs v) (h : Lx Tryz.prog G ro ops N ds (EE fs) Z rest ((d, v) :: F) C) (hf : fs.any (Nat.beq f) = false := by exact rfl) (ha : evL F al = some vs := by exact rfl) (hw : aD ops F ⟨some d, .call { callee := .value (.func f), args := al.toArray, argTypes := at' }, ty, pos, af, gd⟩ = some true := by exact rfl) (hd : Nat.blt d N = true := by exact rfl) : Lx Tryz.prog G ro ops N ds (EE fs) Z (⟨some d, .call { callee := .value (.func f), args := al.toArray, argTypes := at' }, ty, pos, af, gd⟩ :: rest) F C := aE hf ha he hp hw hd h
theorem z5 {n b d2 : Nat} {et ty2 : TypeId} {pos2 : String} {af2 : Array Edge} {gd2 : Option (Nat × Bool)} {c : List Value} (hx : evF F (.tmp n) = some (.pointer (some ⟨b, 0, none⟩))) (hl : lkB L n = some (b, c, et)) (hm : c.length = 6) (hw : aD ops F ⟨some d, .fieldAddr 27 (.tmp n) 0, ty, pos, af, gd⟩ = some true) (hd : Nat.blt d N = true) (hw2 : aD ops ((d, .pointer (some ⟨b, 0, none⟩)) :: F) ⟨some d2, .load 25 (.tmp d), ty2, pos2, af2, gd2⟩ = some true) (hd2 : Nat.blt d2 N = true) (h : LY Tryz.prog G ro ops N ds (EE fs) Z rest ((d2, .agg c.toArray) :: (d, .pointer (some ⟨b, 0, none⟩)) :: F) (Hp B L)) : LY Tryz.prog G ro ops N ds (EE fs) Z (⟨some d, .fieldAddr 27 (.tmp n) 0, ty, pos, af, gd⟩ :: ⟨some d2, .load 25 (.tmp d), ty2, pos2, af2, gd2⟩ :: rest) F (Hp B L) :=
 ⟨bz 0 hx Tryz.underlying27 rfl Tryz.sizeOf25 (by decide) rfl hw hd (aU n _ (jx _ _ _) hl Tryz.isAgg25 Tryz.sizeOf25 hm (fun j v h => (by rw [Nat.zero_add]; exact h)) hw2 hd2 h.run)⟩
theorem yv {n b d2 : Nat} {et ty2 : TypeId} {pos2 : String} {af2 : Array Edge} {gd2 : Option (Nat × Bool)} {u v : List (BitVec 64)} (hx : evF F (.tmp n) = some (.pointer (some ⟨b, 0, none⟩))) (hl : lkB L n = some (b, (u ++ v).map U64, et)) (hm : u.length = 6) (hw : aD ops F ⟨some d, .fieldAddr 33 (.tmp n) 0, ty, pos, af, gd⟩ = some true) (hd : Nat.blt d N = true) (hw2 : aD ops ((d, .pointer (some ⟨b, 0, none⟩)) :: F) ⟨some d2, .load 27 (.tmp d), ty2, pos2, af2, gd2⟩ = some true) (hd2 : Nat.blt d2 N = true) (h : LY Tryz.prog G ro ops N ds (EE fs) Z rest ((d2, .agg (u.map U64).toArray) :: (d, .pointer (some ⟨b, 0, none⟩)) :: F) (Hp B L)) : LY Tryz.prog G ro ops N ds (EE fs) Z (⟨some d, .fieldAddr 33 (.tmp n) 0, ty, pos, af, gd⟩ :: ⟨some d2, .load 27 (.tmp d), ty2, pos2, af2, gd2⟩ :: rest) F (Hp B L) :=
 ⟨bz 0 hx Tryz.underlying33 rfl Tryz.sizeOf27 (by decide) rfl hw hd (aU n _ (jx _ _ _) hl Tryz.isAgg27 Tryz.sizeOf27 ((List.length_map _).trans hm) (lN) hw2 hd2 h.run)⟩
theorem yQ {n b d2 : Nat} {et ty2 : TypeId} {pos2 : String} {af2 : Array Edge} {gd2 : Option (Nat × Bool)} {u v : List (BitVec 64)} (hx : evF F (.tmp n) = some (.pointer (some ⟨b, 0, none⟩))) (hl : lkB L n = some (b, (u ++ v).map U64, et)) (hu : u.length = 6) (hm : v.length = 6) (hw : aD ops F ⟨some d, .fieldAddr 33 (.tmp n) 1, ty, pos, af, gd⟩ = some true) (hd : Nat.blt d N = true) (hw2 : aD ops ((d, .pointer (some ⟨b, 6, none⟩)) :: F) ⟨some d2, .load 27 (.tmp d), ty2, pos2, af2, gd2⟩ = some true) (hd2 : Nat.blt d2 N = true) (h : LY Tryz.prog G ro ops N ds (EE fs) Z rest ((d2, .agg (v.map U64).toArray) :: (d, .pointer (some ⟨b, 6, none⟩)) :: F) (Hp B L)) : LY Tryz.prog G ro ops N ds (EE fs) Z (⟨some d, .fieldAddr 33 (.tmp n) 1, ty, pos, af, gd⟩ :: ⟨some d2, .load 27 (.tmp d), ty2, pos2, af2, gd2⟩ :: rest) F (Hp B L) :=
 ⟨bz 6 hx Tryz.underlying33 rfl Tryz.sizeOf27 (by decide) rfl hw hd (aU n _ (jx _ _ _) hl Tryz.isAgg27 Tryz.sizeOf27 ((List.length_map _).trans hm) (oV hu) hw2 hd2 h.run)⟩
theorem yH {n b d2 : Nat} {et ty2 : TypeId} {pos2 : String} {af2 : Array Edge} {gd2 : Option (Nat × Bool)} {u v : List (BitVec 64)} (hx : evF F (.tmp n) = some (.pointer (some ⟨b, 0, none⟩))) (hl : lkB L n = some (b, (u ++ v).map U64, et)) (hm : u.length = 12) (hw : aD ops F ⟨some d, .fieldAddr 47 (.tmp n) 0, ty, pos, af, gd⟩ = some true) (hd : Nat.blt d N = true) (hw2 : aD ops ((d, .pointer (some ⟨b, 0, none⟩)) :: F) ⟨some d2, .load 33 (.tmp d), ty2, pos2, af2, gd2⟩ = some true) (hd2 : Nat.blt d2 N = true) (h : LY Tryz.prog G ro ops N ds (EE fs) Z rest ((d2, .agg (u.map U64).toArray) :: (d, .pointer (some ⟨b, 0, none⟩)) :: F) (Hp B L)) : LY Tryz.prog G ro ops N ds (EE fs) Z (⟨some d, .fieldAddr 47 (.tmp n) 0, ty, pos, af, gd⟩ :: ⟨some d2, .load 33 (.tmp d), ty2, pos2, af2, gd2⟩ :: rest) F (Hp B L) :=
 ⟨bz 0 hx Tryz.underlying47 rfl Tryz.sizeOf33 (by decide) rfl hw hd (aU n _ (jx _ _ _) hl Tryz.isAgg33 Tryz.sizeOf33 ((List.length_map _).trans hm) (lN) hw2 hd2 h.run)⟩
theorem y6 {n b d2 : Nat} {et ty2 : TypeId} {pos2 : String} {af2 : Array Edge} {gd2 : Option (Nat × Bool)} {u v z : List (BitVec 64)} (hx : evF F (.tmp n) = some (.pointer (some ⟨b, 0, none⟩))) (hl : lkB L n = some (b, (u ++ (v ++ z)).map U64, et)) (hu : u.length = 12) (hm : v.length = 12) (hw : aD ops F ⟨some d, .fieldAddr 47 (.tmp n) 1, ty, pos, af, gd⟩ = some true) (hd : Nat.blt d N = true) (hw2 : aD ops ((d, .pointer (some ⟨b, 12, none⟩)) :: F) ⟨some d2, .load 33 (.tmp d), ty2, pos2, af2, gd2⟩ = some true) (hd2 : Nat.blt d2 N = true) (h : LY Tryz.prog G ro ops N ds (EE fs) Z rest ((d2, .agg (v.map U64).toArray) :: (d, .pointer (some ⟨b, 12, none⟩)) :: F) (Hp B L)) : LY Tryz.prog G ro ops N ds (EE fs) Z (⟨some d, .fieldAddr 47 (.tmp n) 1, ty, pos, af, gd⟩ :: ⟨some d2, .load 33 (.tmp d), ty2, pos2, af2, gd2⟩ :: rest) F (Hp B L) :=
 ⟨bz 12 hx Tryz.underlying47 rfl Tryz.sizeOf33 (by decide) rfl hw hd (aU n _ (jx _ _ _) hl Tryz.isAgg33 Tryz.sizeOf33 ((List.length_map _).trans hm) (Df hu) hw2 hd2 h.run)⟩
theorem zl {n b d2 : Nat} {et ty2 : TypeId} {pos2 : String} {af2 : Array Edge} {gd2 : Option (Nat × Bool)} {u v z : List (BitVec 64)} (hx : evF F (.tmp n) = some (.pointer (some ⟨b, 0, none⟩))) (hl : lkB L n = some (b, (u ++ (v ++ z)).map U64, et)) (hu : u.length = 12) (hv : v.length = 12) (hm : z.length = 12) (hw : aD ops F ⟨some d, .fieldAddr 47 (.tmp n) 2, ty, pos, af, gd⟩ = some true) (hd : Nat.blt d N = true) (hw2 : aD ops ((d, .pointer (some ⟨b, 24, none⟩)) :: F) ⟨some d2, .load 33 (.tmp d), ty2, pos2, af2, gd2⟩ = some true) (hd2 : Nat.blt d2 N = true) (h : LY Tryz.prog G ro ops N ds (EE fs) Z rest ((d2, .agg (z.map U64).toArray) :: (d, .pointer (some ⟨b, 24, none⟩)) :: F) (Hp B L)) : LY Tryz.prog G ro ops N ds (EE fs) Z (⟨some d, .fieldAddr 47 (.tmp n) 2, ty, pos, af, gd⟩ :: ⟨some d2, .load 33 (.tmp d), ty2, pos2, af2, gd2⟩ :: rest) F (Hp B L) :=
 ⟨bz 24 hx Tryz.underlying47 rfl Tryz.sizeOf33 (by decide) rfl hw hd (aU n _ (jx _ _ _) hl Tryz.isAgg33 Tryz.sizeOf33 ((List.length_map _).trans hm) (xo hu hv rfl) hw2 hd2 h.run)⟩
theorem yY {n b d2 : Nat} {et ty2 : TypeId} {pos2 : String} {af2 : Array Edge} {gd2 : Option (Nat × Bool)} {u v : List (BitVec 64)} (hx : evF F (.tmp n) = some (.pointer (some ⟨b, 0, none⟩))) (hl : lkB L n = some (b, (u ++ v).map U64, et)) (hm : u.length = 36) (hw : aD ops F ⟨some d, .fieldAddr 49 (.tmp n) 0, ty, pos, af, gd⟩ = some true) (hd : Nat.blt d N = true) (hw2 : aD ops ((d, .pointer (some ⟨b, 0, none⟩)) :: F) ⟨some d2, .load 47 (.tmp d), ty2, pos2, af2, gd2⟩ = some true) (hd2 : Nat.blt d2 N = true) (h : LY Tryz.prog G ro ops N ds (EE fs) Z rest ((d2, .agg (u.map U64).toArray) :: (d, .pointer (some ⟨b, 0, none⟩)) :: F) (Hp B L)) : LY Tryz.prog G ro ops N ds (EE fs) Z (⟨some d, .fieldAddr 49 (.tmp n) 0, ty, pos, af, gd⟩ :: ⟨some d2, .load 47 (.tmp d), ty2, pos2, af2, gd2⟩ :: rest) F (Hp B L) :=
 ⟨bz 0 hx Tryz.underlying49 rfl Tryz.sizeOf47 (by decide) rfl hw hd (aU n _ (jx _ _ _) hl Tryz.isAgg47 Tryz.sizeOf47 ((List.length_map _).trans hm) (lN) hw2 hd2 h.run)⟩
theorem z4 {n b d2 : Nat} {et ty2 : TypeId} {pos2 : String} {af2 : Array Edge} {gd2 : Option (Nat × Bool)} {u v : List (BitVec 64)} (hx : evF F (.tmp n) = some (.pointer (some ⟨b, 0, none⟩))) (hl : lkB L n = some (b, (u ++ v).map U64, et)) (hu : u.length = 36) (hm : v.length = 36) (hw : aD ops F ⟨some d, .fieldAddr 49 (.tmp n) 1, ty, pos, af, gd⟩ = some true) (hd : Nat.blt d N = true) (hw2 : aD ops ((d, .pointer (some ⟨b, 36, none⟩)) :: F) ⟨some d2, .load 47 (.tmp d), ty2, pos2, af2, gd2⟩ = some true) (hd2 : Nat.blt d2 N = true) (h : LY Tryz.prog G ro ops N ds (EE fs) Z rest ((d2, .agg (v.map U64).toArray) :: (d, .pointer (some ⟨b, 36, none⟩)) :: F) (Hp B L)) : LY Tryz.prog G ro ops N ds (EE fs) Z (⟨some d, .fieldAddr 49 (.tmp n) 1, ty, pos, af, gd⟩ :: ⟨some d2, .load 47 (.tmp d), ty2, pos2, af2, gd2⟩ :: rest) F (Hp B L) :=
 ⟨bz 36 hx Tryz.underlying49 rfl Tryz.sizeOf47 (by decide) rfl hw hd (aU n _ (jx _ _ _) hl Tryz.isAgg47 Tryz.sizeOf47 ((List.length_map _).trans hm) (oV hu) hw2 hd2 h.run)⟩
theorem GX {n b : Nat} {c : List Value} {et : TypeId} (hx : evF F (.tmp n) = some (.pointer (some ⟨b, 0, none⟩))) (hl : lkB L n = some (b, c, et)) (hm : c.length = 6) (hw : aD ops F ⟨some d, .load 25 (.tmp n), ty, pos, af, gd⟩ = some true) (hd : Nat.blt d N = true) (h : LY Tryz.prog G ro ops N ds (EE fs) Z rest ((d, .agg c.toArray) :: F) (Hp B L)) : LY Tryz.prog G ro ops N ds (EE fs) Z (⟨some d, .load 25 (.tmp n), ty, pos, af, gd⟩ :: rest) F (Hp B L) := ⟨aq n hx hl Tryz.isAgg25 Tryz.sizeOf25 hm hw hd h.run⟩
theorem mK {n b : Nat} {c : List Value} {et : TypeId} (hx : evF F (.tmp n) = some (.pointer (some ⟨b, 0, none⟩))) (hl : lkB L n = some (b, c, et)) (hm : c.length = 6) (hw : aD ops F ⟨some d, .load 27 (.tmp n), ty, pos, af, gd⟩ = some true) (hd : Nat.blt d N = true) (h : LY Tryz.prog G ro ops N ds (EE fs) Z rest ((d, .agg c.toArray) :: F) (Hp B L)) : LY Tryz.prog G ro ops N ds (EE fs) Z (⟨some d, .load 27 (.tmp n), ty, pos, af, gd⟩ :: rest) F (Hp B L) := ⟨aq n hx hl Tryz.isAgg27 Tryz.sizeOf27 hm hw hd h.run⟩
theorem zG {n b : Nat} {c : List Value} {et : TypeId} (hx : evF F (.tmp n) = some (.pointer (some ⟨b, 0, none⟩))) (hl : lkB L n = some (b, c, et)) (hm : c.length = 18) (hw : aD ops F ⟨some d, .load 29 (.tmp n), ty, pos, af, gd⟩ = some true) (hd : Nat.blt d N = true) (h : LY Tryz.prog G ro ops N ds (EE fs) Z rest ((d, .agg c.toArray) :: F) (Hp B L)) : LY Tryz.prog G ro ops N ds (EE fs) Z (⟨some d, .load 29 (.tmp n), ty, pos, af, gd⟩ :: rest) F (Hp B L) := ⟨aq n hx hl Tryz.isAgg29 Tryz.sizeOf29 hm hw hd h.run⟩
theorem tk {n b : Nat} {c : List Value} {et : TypeId} (hx : evF F (.tmp n) = some (.pointer (some ⟨b, 0, none⟩))) (hl : lkB L n = some (b, c, et)) (hm : c.length = 12) (hw : aD ops F ⟨some d, .load 33 (.tmp n), ty, pos, af, gd⟩ = some true) (hd : Nat.blt d N = true) (h : LY Tryz.prog G ro ops N ds (EE fs) Z rest ((d, .agg c.toArray) :: F) (Hp B L)) : LY Tryz.prog G ro ops N ds (EE fs) Z (⟨some d, .load 33 (.tmp n), ty, pos, af, gd⟩ :: rest) F (Hp B L) := ⟨aq n hx hl Tryz.isAgg33 Tryz.sizeOf33 hm hw hd h.run⟩
theorem Ad {n b : Nat} {c : List Value} {et : TypeId} (hx : evF F (.tmp n) = some (.pointer (some ⟨b, 0, none⟩))) (hl : lkB L n = some (b, c, et)) (hm : c.length = 36) (hw : aD ops F ⟨some d, .load 35 (.tmp n), ty, pos, af, gd⟩ = some true) (hd : Nat.blt d N = true) (h : LY Tryz.prog G ro ops N ds (EE fs) Z rest ((d, .agg c.toArray) :: F) (Hp B L)) : LY Tryz.prog G ro ops N ds (EE fs) Z (⟨some d, .load 35 (.tmp n), ty, pos, af, gd⟩ :: rest) F (Hp B L) := ⟨aq n hx hl Tryz.isAgg35 Tryz.sizeOf35 hm hw hd h.run⟩
theorem ra38 {n b : Nat} {c : List Value} {et : TypeId} (hx : evF F (.tmp n) = some (.pointer (some ⟨b, 0, none⟩))) (hl : lkB L n = some (b, c, et)) (hm : c.length = 6) (hw : aD ops F ⟨some d, .load 38 (.tmp n), ty, pos, af, gd⟩ = some true) (hd : Nat.blt d N = true) (h : LY Tryz.prog G ro ops N ds (EE fs) Z rest ((d, .agg c.toArray) :: F) (Hp B L)) : LY Tryz.prog G ro ops N ds (EE fs) Z (⟨some d, .load 38 (.tmp n), ty, pos, af, gd⟩ :: rest) F (Hp B L) := ⟨aq n hx hl Tryz.isAgg38 Tryz.sizeOf38 hm hw hd h.run⟩
theorem zZ {n b : Nat} {c : List Value} {et : TypeId} (hx : evF F (.tmp n) = some (.pointer (some ⟨b, 0, none⟩))) (hl : lkB L n = some (b, c, et)) (hm : c.length = 12) (hw : aD ops F ⟨some d, .load 42 (.tmp n), ty, pos, af, gd⟩ = some true) (hd : Nat.blt d N = true) (h : LY Tryz.prog G ro ops N ds (EE fs) Z rest ((d, .agg c.toArray) :: F) (Hp B L)) : LY Tryz.prog G ro ops N ds (EE fs) Z (⟨some d, .load 42 (.tmp n), ty, pos, af, gd⟩ :: rest) F (Hp B L) := ⟨aq n hx hl Tryz.isAgg42 Tryz.sizeOf42 hm hw hd h.run⟩
theorem vw {n b : Nat} {c : List Value} {et : TypeId} (hx : evF F (.tmp n) = some (.pointer (some ⟨b, 0, none⟩))) (hl : lkB L n = some (b, c, et)) (hm : c.length = 72) (hw : aD ops F ⟨some d, .load 44 (.tmp n), ty, pos, af, gd⟩ = some true) (hd : Nat.blt d N = true) (h : LY Tryz.prog G ro ops N ds (EE fs) Z rest ((d, .agg c.toArray) :: F) (Hp B L)) : LY Tryz.prog G ro ops N ds (EE fs) Z (⟨some d, .load 44 (.tmp n), ty, pos, af, gd⟩ :: rest) F (Hp B L) := ⟨aq n hx hl Tryz.isAgg44 Tryz.sizeOf44 hm hw hd h.run⟩
theorem HJ {n b : Nat} {c : List Value} {et : TypeId} (hx : evF F (.tmp n) = some (.pointer (some ⟨b, 0, none⟩))) (hl : lkB L n = some (b, c, et)) (hm : c.length = 36) (hw : aD ops F ⟨some d, .load 47 (.tmp n), ty, pos, af, gd⟩ = some true) (hd : Nat.blt d N = true) (h : LY Tryz.prog G ro ops N ds (EE fs) Z rest ((d, .agg c.toArray) :: F) (Hp B L)) : LY Tryz.prog G ro ops N ds (EE fs) Z (⟨some d, .load 47 (.tmp n), ty, pos, af, gd⟩ :: rest) F (Hp B L) := ⟨aq n hx hl Tryz.isAgg47 Tryz.sizeOf47 hm hw hd h.run⟩
theorem uk {n b : Nat} {c : List Value} {et : TypeId} (hx : evF F (.tmp n) = some (.pointer (some ⟨b, 0, none⟩))) (hl : lkB L n = some (b, c, et)) (hm : c.length = 72) (hw : aD ops F ⟨some d, .load 49 (.tmp n), ty, pos, af, gd⟩ = some true) (hd : Nat.blt d N = true) (h : LY Tryz.prog G ro ops N ds (EE fs) Z rest ((d, .agg c.toArray) :: F) (Hp B L)) : LY Tryz.prog G ro ops N ds (EE fs) Z (⟨some d, .load 49 (.tmp n), ty, pos, af, gd⟩ :: rest) F (Hp B L) := ⟨aq n hx hl Tryz.isAgg49 Tryz.sizeOf49 hm hw hd h.run⟩
theorem Ig {n b : Nat} {c : List Value} {et : TypeId} (hx : evF F (.tmp n) = some (.pointer (some ⟨b, 0, none⟩))) (hl : lkB L n = some (b, c, et)) (hm : c.length = 36) (hw : aD ops F ⟨some d, .load 53 (.tmp n), ty, pos, af, gd⟩ = some true) (hd : Nat.blt d N = true) (h : LY Tryz.prog G ro ops N ds (EE fs) Z rest ((d, .agg c.toArray) :: F) (Hp B L)) : LY Tryz.prog G ro ops N ds (EE fs) Z (⟨some d, .load 53 (.tmp n), ty, pos, af, gd⟩ :: rest) F (Hp B L) := ⟨aq n hx hl Tryz.isAgg53 Tryz.sizeOf53 hm hw hd h.run⟩
theorem IJ {n b : Nat} {c : List Value} {et : TypeId} (hx : evF F (.tmp n) = some (.pointer (some ⟨b, 0, none⟩))) (hl : lkB L n = some (b, c, et)) (hm : c.length = 36) (hw : aD ops F ⟨some d, .load 178 (.tmp n), ty, pos, af, gd⟩ = some true) (hd : Nat.blt d N = true) (h : LY Tryz.prog G ro ops N ds (EE fs) Z rest ((d, .agg c.toArray) :: F) (Hp B L)) : LY Tryz.prog G ro ops N ds (EE fs) Z (⟨some d, .load 178 (.tmp n), ty, pos, af, gd⟩ :: rest) F (Hp B L) := ⟨aq n hx hl Tryz.isAgg178 Tryz.sizeOf178 hm hw hd h.run⟩
theorem Id {n b : Nat} {c : List Value} {et : TypeId} (hx : evF F (.tmp n) = some (.pointer (some ⟨b, 0, none⟩))) (hl : lkB L n = some (b, c, et)) (hm : c.length = 72) (hw : aD ops F ⟨some d, .load 192 (.tmp n), ty, pos, af, gd⟩ = some true) (hd : Nat.blt d N = true) (h : LY Tryz.prog G ro ops N ds (EE fs) Z rest ((d, .agg c.toArray) :: F) (Hp B L)) : LY Tryz.prog G ro ops N ds (EE fs) Z (⟨some d, .load 192 (.tmp n), ty, pos, af, gd⟩ :: rest) F (Hp B L) := ⟨aq n hx hl Tryz.isAgg192 Tryz.sizeOf192 hm hw hd h.run⟩
theorem GQ {n b : Nat} {c : List Value} {et : TypeId} (hx : evF F (.tmp n) = some (.pointer (some ⟨b, 0, none⟩))) (hl : lkB L n = some (b, c, et)) (hm : c.length = 96) (hw : aD ops F ⟨some d, .load 209 (.tmp n), ty, pos, af, gd⟩ = some true) (hd : Nat.blt d N = true) (h : LY Tryz.prog G ro ops N ds (EE fs) Z rest ((d, .agg c.toArray) :: F) (Hp B L)) : LY Tryz.prog G ro ops N ds (EE fs) Z (⟨some d, .load 209 (.tmp n), ty, pos, af, gd⟩ :: rest) F (Hp B L) := ⟨aq n hx hl Tryz.isAgg209 Tryz.sizeOf209 hm hw hd h.run⟩
theorem Im {n b : Nat} {y : Operand} {c vs : List Value} {et : TypeId} (hG : BOk G B) (hx : evF F (.tmp n) = some (.pointer (some ⟨b, 0, none⟩))) (hy : evF F y = some (.agg vs.toArray)) (hl : lkB L n = some (b, c, et)) (hm : vs.length = 6) (hc : c.length = 6) (hv : vs.all (·.oneCell') = true) (hw : aD ops F ⟨none, .store 25 (.tmp n) y, ty, pos, af, gd⟩ = some true) (h : LY Tryz.prog G ro ops N ds (EE fs) Z rest F (Hp B ((n, b, vs, et) :: L))) : LY Tryz.prog G ro ops N ds (EE fs) Z (⟨none, .store 25 (.tmp n) y, ty, pos, af, gd⟩ :: rest) F (Hp B L) := ⟨ai n hG hx hy hl Tryz.sizeOf25 hm hc hv hw h.run⟩
theorem ou {n b : Nat} {y : Operand} {c vs : List Value} {et : TypeId} (hG : BOk G B) (hx : evF F (.tmp n) = some (.pointer (some ⟨b, 0, none⟩))) (hy : evF F y = some (.agg vs.toArray)) (hl : lkB L n = some (b, c, et)) (hm : vs.length = 6) (hc : c.length = 6) (hv : vs.all (·.oneCell') = true) (hw : aD ops F ⟨none, .store 27 (.tmp n) y, ty, pos, af, gd⟩ = some true) (h : LY Tryz.prog G ro ops N ds (EE fs) Z rest F (Hp B ((n, b, vs, et) :: L))) : LY Tryz.prog G ro ops N ds (EE fs) Z (⟨none, .store 27 (.tmp n) y, ty, pos, af, gd⟩ :: rest) F (Hp B L) := ⟨ai n hG hx hy hl Tryz.sizeOf27 hm hc hv hw h.run⟩
theorem Ci {n b : Nat} {y : Operand} {c vs : List Value} {et : TypeId} (hG : BOk G B) (hx : evF F (.tmp n) = some (.pointer (some ⟨b, 0, none⟩))) (hy : evF F y = some (.agg vs.toArray)) (hl : lkB L n = some (b, c, et)) (hm : vs.length = 18) (hc : c.length = 18) (hv : vs.all (·.oneCell') = true) (hw : aD ops F ⟨none, .store 29 (.tmp n) y, ty, pos, af, gd⟩ = some true) (h : LY Tryz.prog G ro ops N ds (EE fs) Z rest F (Hp B ((n, b, vs, et) :: L))) : LY Tryz.prog G ro ops N ds (EE fs) Z (⟨none, .store 29 (.tmp n) y, ty, pos, af, gd⟩ :: rest) F (Hp B L) := ⟨ai n hG hx hy hl Tryz.sizeOf29 hm hc hv hw h.run⟩
theorem vS {n b : Nat} {y : Operand} {c vs : List Value} {et : TypeId} (hG : BOk G B) (hx : evF F (.tmp n) = some (.pointer (some ⟨b, 0, none⟩))) (hy : evF F y = some (.agg vs.toArray)) (hl : lkB L n = some (b, c, et)) (hm : vs.length = 12) (hc : c.length = 12) (hv : vs.all (·.oneCell') = true) (hw : aD ops F ⟨none, .store 33 (.tmp n) y, ty, pos, af, gd⟩ = some true) (h : LY Tryz.prog G ro ops N ds (EE fs) Z rest F (Hp B ((n, b, vs, et) :: L))) : LY Tryz.prog G ro ops N ds (EE fs) Z (⟨none, .store 33 (.tmp n) y, ty, pos, af, gd⟩ :: rest) F (Hp B L) := ⟨ai n hG hx hy hl Tryz.sizeOf33 hm hc hv hw h.run⟩
theorem CY {n b : Nat} {y : Operand} {c vs : List Value} {et : TypeId} (hG : BOk G B) (hx : evF F (.tmp n) = some (.pointer (some ⟨b, 0, none⟩))) (hy : evF F y = some (.agg vs.toArray)) (hl : lkB L n = some (b, c, et)) (hm : vs.length = 36) (hc : c.length = 36) (hv : vs.all (·.oneCell') = true) (hw : aD ops F ⟨none, .store 35 (.tmp n) y, ty, pos, af, gd⟩ = some true) (h : LY Tryz.prog G ro ops N ds (EE fs) Z rest F (Hp B ((n, b, vs, et) :: L))) : LY Tryz.prog G ro ops N ds (EE fs) Z (⟨none, .store 35 (.tmp n) y, ty, pos, af, gd⟩ :: rest) F (Hp B L) := ⟨ai n hG hx hy hl Tryz.sizeOf35 hm hc hv hw h.run⟩
theorem sa38 {n b : Nat} {y : Operand} {c vs : List Value} {et : TypeId} (hG : BOk G B) (hx : evF F (.tmp n) = some (.pointer (some ⟨b, 0, none⟩))) (hy : evF F y = some (.agg vs.toArray)) (hl : lkB L n = some (b, c, et)) (hm : vs.length = 6) (hc : c.length = 6) (hv : vs.all (·.oneCell') = true) (hw : aD ops F ⟨none, .store 38 (.tmp n) y, ty, pos, af, gd⟩ = some true) (h : LY Tryz.prog G ro ops N ds (EE fs) Z rest F (Hp B ((n, b, vs, et) :: L))) : LY Tryz.prog G ro ops N ds (EE fs) Z (⟨none, .store 38 (.tmp n) y, ty, pos, af, gd⟩ :: rest) F (Hp B L) := ⟨ai n hG hx hy hl Tryz.sizeOf38 hm hc hv hw h.run⟩
theorem sa40 {n b : Nat} {y : Operand} {c vs : List Value} {et : TypeId} (hG : BOk G B) (hx : evF F (.tmp n) = some (.pointer (some ⟨b, 0, none⟩))) (hy : evF F y = some (.agg vs.toArray)) (hl : lkB L n = some (b, c, et)) (hm : vs.length = 6) (hc : c.length = 6) (hv : vs.all (·.oneCell') = true) (hw : aD ops F ⟨none, .store 40 (.tmp n) y, ty, pos, af, gd⟩ = some true) (h : LY Tryz.prog G ro ops N ds (EE fs) Z rest F (Hp B ((n, b, vs, et) :: L))) : LY Tryz.prog G ro ops N ds (EE fs) Z (⟨none, .store 40 (.tmp n) y, ty, pos, af, gd⟩ :: rest) F (Hp B L) := ⟨ai n hG hx hy hl Tryz.sizeOf40 hm hc hv hw h.run⟩
theorem tD {n b : Nat} {y : Operand} {c vs : List Value} {et : TypeId} (hG : BOk G B) (hx : evF F (.tmp n) = some (.pointer (some ⟨b, 0, none⟩))) (hy : evF F y = some (.agg vs.toArray)) (hl : lkB L n = some (b, c, et)) (hm : vs.length = 12) (hc : c.length = 12) (hv : vs.all (·.oneCell') = true) (hw : aD ops F ⟨none, .store 42 (.tmp n) y, ty, pos, af, gd⟩ = some true) (h : LY Tryz.prog G ro ops N ds (EE fs) Z rest F (Hp B ((n, b, vs, et) :: L))) : LY Tryz.prog G ro ops N ds (EE fs) Z (⟨none, .store 42 (.tmp n) y, ty, pos, af, gd⟩ :: rest) F (Hp B L) := ⟨ai n hG hx hy hl Tryz.sizeOf42 hm hc hv hw h.run⟩
theorem tz {n b : Nat} {y : Operand} {c vs : List Value} {et : TypeId} (hG : BOk G B) (hx : evF F (.tmp n) = some (.pointer (some ⟨b, 0, none⟩))) (hy : evF F y = some (.agg vs.toArray)) (hl : lkB L n = some (b, c, et)) (hm : vs.length = 72) (hc : c.length = 72) (hv : vs.all (·.oneCell') = true) (hw : aD ops F ⟨none, .store 44 (.tmp n) y, ty, pos, af, gd⟩ = some true) (h : LY Tryz.prog G ro ops N ds (EE fs) Z rest F (Hp B ((n, b, vs, et) :: L))) : LY Tryz.prog G ro ops N ds (EE fs) Z (⟨none, .store 44 (.tmp n) y, ty, pos, af, gd⟩ :: rest) F (Hp B L) := ⟨ai n hG hx hy hl Tryz.sizeOf44 hm hc hv hw h.run⟩
theorem FA {n b : Nat} {y : Operand} {c vs : List Value} {et : TypeId} (hG : BOk G B) (hx : evF F (.tmp n) = some (.pointer (some ⟨b, 0, none⟩))) (hy : evF F y = some (.agg vs.toArray)) (hl : lkB L n = some (b, c, et)) (hm : vs.length = 36) (hc : c.length = 36) (hv : vs.all (·.oneCell') = true) (hw : aD ops F ⟨none, .store 47 (.tmp n) y, ty, pos, af, gd⟩ = some true) (h : LY Tryz.prog G ro ops N ds (EE fs) Z rest F (Hp B ((n, b, vs, et) :: L))) : LY Tryz.prog G ro ops N ds (EE fs) Z (⟨none, .store 47 (.tmp n) y, ty, pos, af, gd⟩ :: rest) F (Hp B L) := ⟨ai n hG hx hy hl Tryz.sizeOf47 hm hc hv hw h.run⟩
theorem pF {n b : Nat} {y : Operand} {c vs : List Value} {et : TypeId} (hG : BOk G B) (hx : evF F (.tmp n) = some (.pointer (some ⟨b, 0, none⟩))) (hy : evF F y = some (.agg vs.toArray)) (hl : lkB L n = some (b, c, et)) (hm : vs.length = 72) (hc : c.length = 72) (hv : vs.all (·.oneCell') = true) (hw : aD ops F ⟨none, .store 49 (.tmp n) y, ty, pos, af, gd⟩ = some true) (h : LY Tryz.prog G ro ops N ds (EE fs) Z rest F (Hp B ((n, b, vs, et) :: L))) : LY Tryz.prog G ro ops N ds (EE fs) Z (⟨none, .store 49 (.tmp n) y, ty, pos, af, gd⟩ :: rest) F (Hp B L) := ⟨ai n hG hx hy hl Tryz.sizeOf49 hm hc hv hw h.run⟩
theorem E6 {n b : Nat} {y : Operand} {c vs : List Value} {et : TypeId} (hG : BOk G B) (hx : evF F (.tmp n) = some (.pointer (some ⟨b, 0, none⟩))) (hy : evF F y = some (.agg vs.toArray)) (hl : lkB L n = some (b, c, et)) (hm : vs.length = 36) (hc : c.length = 36) (hv : vs.all (·.oneCell') = true) (hw : aD ops F ⟨none, .store 53 (.tmp n) y, ty, pos, af, gd⟩ = some true) (h : LY Tryz.prog G ro ops N ds (EE fs) Z rest F (Hp B ((n, b, vs, et) :: L))) : LY Tryz.prog G ro ops N ds (EE fs) Z (⟨none, .store 53 (.tmp n) y, ty, pos, af, gd⟩ :: rest) F (Hp B L) := ⟨ai n hG hx hy hl Tryz.sizeOf53 hm hc hv hw h.run⟩
theorem sa77 {n b : Nat} {y : Operand} {c vs : List Value} {et : TypeId} (hG : BOk G B) (hx : evF F (.tmp n) = some (.pointer (some ⟨b, 0, none⟩))) (hy : evF F y = some (.agg vs.toArray)) (hl : lkB L n = some (b, c, et)) (hm : vs.length = 54) (hc : c.length = 54) (hv : vs.all (·.oneCell') = true) (hw : aD ops F ⟨none, .store 77 (.tmp n) y, ty, pos, af, gd⟩ = some true) (h : LY Tryz.prog G ro ops N ds (EE fs) Z rest F (Hp B ((n, b, vs, et) :: L))) : LY Tryz.prog G ro ops N ds (EE fs) Z (⟨none, .store 77 (.tmp n) y, ty, pos, af, gd⟩ :: rest) F (Hp B L) := ⟨ai n hG hx hy hl Tryz.sizeOf77 hm hc hv hw h.run⟩
theorem BF {n b : Nat} {y : Operand} {c vs : List Value} {et : TypeId} (hG : BOk G B) (hx : evF F (.tmp n) = some (.pointer (some ⟨b, 0, none⟩))) (hy : evF F y = some (.agg vs.toArray)) (hl : lkB L n = some (b, c, et)) (hm : vs.length = 48) (hc : c.length = 48) (hv : vs.all (·.oneCell') = true) (hw : aD ops F ⟨none, .store 115 (.tmp n) y, ty, pos, af, gd⟩ = some true) (h : LY Tryz.prog G ro ops N ds (EE fs) Z rest F (Hp B ((n, b, vs, et) :: L))) : LY Tryz.prog G ro ops N ds (EE fs) Z (⟨none, .store 115 (.tmp n) y, ty, pos, af, gd⟩ :: rest) F (Hp B L) := ⟨ai n hG hx hy hl Tryz.sizeOf115 hm hc hv hw h.run⟩
theorem GY {n b : Nat} {y : Operand} {c vs : List Value} {et : TypeId} (hG : BOk G B) (hx : evF F (.tmp n) = some (.pointer (some ⟨b, 0, none⟩))) (hy : evF F y = some (.agg vs.toArray)) (hl : lkB L n = some (b, c, et)) (hm : vs.length = 36) (hc : c.length = 36) (hv : vs.all (·.oneCell') = true) (hw : aD ops F ⟨none, .store 178 (.tmp n) y, ty, pos, af, gd⟩ = some true) (h : LY Tryz.prog G ro ops N ds (EE fs) Z rest F (Hp B ((n, b, vs, et) :: L))) : LY Tryz.prog G ro ops N ds (EE fs) Z (⟨none, .store 178 (.tmp n) y, ty, pos, af, gd⟩ :: rest) F (Hp B L) := ⟨ai n hG hx hy hl Tryz.sizeOf178 hm hc hv hw h.run⟩
theorem GS {n b : Nat} {y : Operand} {c vs : List Value} {et : TypeId} (hG : BOk G B) (hx : evF F (.tmp n) = some (.pointer (some ⟨b, 0, none⟩))) (hy : evF F y = some (.agg vs.toArray)) (hl : lkB L n = some (b, c, et)) (hm : vs.length = 72) (hc : c.length = 72) (hv : vs.all (·.oneCell') = true) (hw : aD ops F ⟨none, .store 192 (.tmp n) y, ty, pos, af, gd⟩ = some true) (h : LY Tryz.prog G ro ops N ds (EE fs) Z rest F (Hp B ((n, b, vs, et) :: L))) : LY Tryz.prog G ro ops N ds (EE fs) Z (⟨none, .store 192 (.tmp n) y, ty, pos, af, gd⟩ :: rest) F (Hp B L) := ⟨ai n hG hx hy hl Tryz.sizeOf192 hm hc hv hw h.run⟩
theorem AM {n b : Nat} {y : Operand} {c vs : List Value} {et : TypeId} (hG : BOk G B) (hx : evF F (.tmp n) = some (.pointer (some ⟨b, 0, none⟩))) (hy : evF F y = some (.agg vs.toArray)) (hl : lkB L n = some (b, c, et)) (hm : vs.length = 96) (hc : c.length = 96) (hv : vs.all (·.oneCell') = true) (hw : aD ops F ⟨none, .store 209 (.tmp n) y, ty, pos, af, gd⟩ = some true) (h : LY Tryz.prog G ro ops N ds (EE fs) Z rest F (Hp B ((n, b, vs, et) :: L))) : LY Tryz.prog G ro ops N ds (EE fs) Z (⟨none, .store 209 (.tmp n) y, ty, pos, af, gd⟩ :: rest) F (Hp B L) := ⟨ai n hG hx hy hl Tryz.sizeOf209 hm hc hv hw h.run⟩
end
end
end Go.Proofs.YtpnpiblphnpfiaaGreatDoor
