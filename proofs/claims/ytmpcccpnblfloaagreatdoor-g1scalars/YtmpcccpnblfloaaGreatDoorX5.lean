/-
  What is known of the package-level variables.
  Powers by digits of four bits, and by bits. Nothing here names a program.
  Signs, roots, numbers of many bytes: as functions of elements. Nothing here names a program.
  What the laws of layer 3 say of elements. Nothing here names a program.
  The field of p^2 elements: a + b i. Nothing here names a program.
  What the walks of package fp2 meet: signs, powers, roots. Nothing here names a program.
  The fields of p^6 and p^12 elements, over pairs: that they are fields; the power of p. Nothing here names a program.
  The curves; the generator's order. Nothing here names a program.
  Curves over two fields, one in the other: points, sums, times. Nothing here names a program.
  Points: when a sum is none; times and the order; the generator. Nothing here names a program.
  Bits of bytes by masks. Nothing here names a program.
  The first curve's points of the order r: turned by a third root of 1. Nothing here names a program.
-/
import Derived.Test.YtmpcccpnblfloaaGreatDoorX4
import Derived.Test.YtmpcccpnblfloaaGreatDoorRows
import Derived.Test.YtmpcccpnblfloaaGreatDoorX3
import Derived.Test.YtmpcccpnblfloaaGreatDoorX1
namespace Go.Proofs.YtmpcccpnblfloaaGreatDoor
open Go.RowKit
set_option maxRecDepth 100000
def IVP : List (BitVec 64) := [0xb9feffffffffaaa9#64, 0x1eabfffeb153ffff#64, 0x6730d2a0f6b0f624#64, 0x64774b84f38512bf#64, 0x4b1ba7b6434bacd7#64, 0x1a0111ea397fe69a#64]
def HFP : List (BitVec 64) := [0xdcff7fffffffd555#64, 0xf55ffff58a9ffff#64, 0xb39869507b587b12#64, 0xb23ba5c279c2895f#64, 0x258dd3db21a5d66b#64, 0xd0088f51cbff34d#64]
def RTP : List (BitVec 64) := [0xee7fbfffffffeaab#64, 0x7aaffffac54ffff#64, 0xd9cc34a83dac3d89#64, 0xd91dd2e13ce144af#64, 0x92c6e9ed90d2eb35#64, 0x680447a8e5ff9a6#64]
theorem IVP_val : V IVP 6 = PP - 2 := by decide +kernel
/-- The package-level variables read as the program's text lays them. -/
structure Gt (w : World) : Prop where
  g0 : w.rangeAt 0 0 (LIFT.map U64)
  g1 : w.rangeAt 1 0 (ML.map U64)
  g2 : w.rangeAt 2 0 (TWO.map U64)
  g4 : w.rangeAt 4 0 (PL.map U64)
  g6 : w.rangeAt 6 0 (IVP.map U64)
theorem range_same {w w' : World} {b : Nat} {cs : List Value} (hk : w'.heap[b]? = w.heap[b]?) (h : w.rangeAt b 0 cs) : w'.rangeAt b 0 cs := fun j v hv => by
  rw [World.cell?_of_block (w := w) hk]
  exact h j v hv
theorem gt_low : GLow Gt 7 where
  size := fun w h => by
    have := block_lt_of_cell (h.g6 0 _ (by rfl : (IVP.map U64)[0]? = some (U64 0xb9feffffffffaaa9#64)))
    exact this
  same := fun w w' hk h => ⟨range_same (hk 0 (by omega)) h.g0, range_same (hk 1 (by omega)) h.g1, range_same (hk 2 (by omega)) h.g2, range_same (hk 4 (by omega)) h.g4, range_same (hk 6 (by omega)) h.g6⟩
theorem mixed : Tryz.prog.follows .mixedOrders = true := by kernel_rfl
end Go.Proofs.YtmpcccpnblfloaaGreatDoor

namespace Go.Proofs.YtmpcccpnblfloaaGreatDoor
set_option maxRecDepth 100000
/-- The digits of bytes, two a byte, the high one first; the number of the first ones. -/
def NBv (bs : List (BitVec 8)) (m : Nat) : BitVec 8 := if m % 2 = 0 then bs.getD (m / 2) 0 >>> 4 else bs.getD (m / 2) 0 % 16#8
theorem NBv_lt (bs : List (BitVec 8)) (m : Nat) : (NBv bs m).toNat < 16 := by
  have h := (bs.getD (m / 2) 0).isLt
  unfold NBv
  split
  · rw [BitVec.toNat_ushiftRight, Nat.shiftRight_eq_div_pow]; omega
  · rw [BitVec.toNat_umod]; exact Nat.mod_lt _ (by decide)
def DN (bs : List (BitVec 8)) : Nat → Nat
  | 0 => 0
  | m + 1 => 16 * DN bs m + (NBv bs m).toNat
theorem DN_two (bs : List (BitVec 8)) : ∀ k, DN bs (2 * k) = BN bs k
  | 0 => rfl
  | k + 1 => by
    have h := (bs.getD k 0).isLt
    have e0 : NBv bs (2 * k) = bs.getD k 0 >>> 4 := by
      rw [NBv, if_pos (by omega), show 2 * k / 2 = k by omega]
    have e1 : NBv bs (2 * k + 1) = bs.getD k 0 % 16#8 := by
      rw [NBv, if_neg (by omega), show (2 * k + 1) / 2 = k by omega]
    rw [show 2 * (k + 1) = 2 * k + 1 + 1 by omega, DN, DN, DN_two bs k, BN, e0, e1, BitVec.toNat_ushiftRight, Nat.shiftRight_eq_div_pow, BitVec.toNat_umod, show (16#8).toNat = 16 from rfl]
    omega
theorem sq_step (x : Zp) (j D : Nat) : x ^ (2 ^ j * D) * x ^ (2 ^ j * D) = x ^ (2 ^ (j + 1) * D) := by
  rw [← padd, Nat.pow_succ, show 2 ^ j * 2 * D = 2 ^ j * D + 2 ^ j * D by rw [Nat.mul_right_comm]; omega]
theorem dig_step (x : Zp) (bs : List (BitVec 8)) (k : Nat) : x ^ (2 ^ 4 * DN bs k) * x ^ (NBv bs k).toNat = x ^ DN bs (k + 1) := by
  rw [← padd, DN]
/-! ### Sixteen powers -/
def SP (x : Zp) (i : Nat) : List (BitVec 64) := FL (fun j => if j < i then fe (x ^ j) else List.replicate 6 0) 16
theorem SP_len (x : Zp) (i : Nat) : (SP x i).length = 96 := FL_len _ _
theorem SP_one (x : Zp) : FL (fun i => if i = 0 then fe 1 else List.replicate 6 0) 16 = SP x 1 := FL_congr fun i _ => by
  by_cases h : i = 0
  · rw [if_pos h, if_pos (by omega), h, p0]
  · rw [if_neg h, if_neg (by omega)]
theorem SP_load (x : Zp) (i k : Nat) (hk : k < i) (hi : i ≤ 16) (o : Nat) (ho : o = 6 * k) : ∀ j v, ((fe (x ^ k)).map U64)[j]? = some v → ((SP x i).map U64)[o + j]? = some v := by
  have h := FL_load (fun j => if j < i then fe (x ^ j) else List.replicate 6 0) 16 k (by omega) (by simp only [if_pos hk]; exact fe_len _) o ho
  simp only [if_pos hk] at h
  exact h
theorem SP_step (x : Zp) (i : Nat) (h1 : 1 ≤ i) (hi : i < 16) (o : Nat) (ho : o = 6 * i) : lay o ((fe (x ^ (i - 1) * x)).map U64) ((SP x i).map U64) = (SP x (i + 1)).map U64 := by
  rw [SP, FL_lay _ 16 i _ hi (fe_len _) o ho]
  congr 1
  refine FL_congr fun j _ => ?_
  by_cases h : j = i
  · rw [if_pos h, if_pos (by omega), h, ← ps, show i - 1 + 1 = i by omega]
  · rw [if_neg h]
    by_cases h' : j < i
    · rw [if_pos h', if_pos (by omega)]
    · rw [if_neg h', if_neg (by omega)]
end Go.Proofs.YtmpcccpnblfloaaGreatDoor

namespace Go.Proofs.YtmpcccpnblfloaaGreatDoor
set_option maxRecDepth 100000
def hf : Nat := (PP - 1) / 2
theorem PP_mod : PP % 4 = 3 := by decide +kernel
theorem PP_big : 1000 < PP := by decide +kernel
theorem hf_val : 2 * hf + 1 = PP := by have := PP_mod; unfold hf; omega
theorem hf_odd : hf % 2 = 1 := by have := PP_mod; have := hf_val; omega
theorem hf_pos : ∃ n, hf = n + 1 := ⟨hf - 1, by have := hf_val; have := PP_big; omega⟩
/-- Bytes that are an element's. -/
def FO (bs : List (BitVec 8)) : Bool := decide (bs.length = 48 ∧ BN bs 48 < PP)
def FV (bs : List (BitVec 8)) : Zp := if bs.length = 48 ∧ BN bs 48 < PP then zp (BN bs 48) else 0
end Go.Proofs.YtmpcccpnblfloaaGreatDoor

namespace Go.Proofs.YtmpcccpnblfloaaGreatDoor
set_option maxRecDepth 100000
theorem neg_val {a : Zp} (h : a ≠ 0) : (-a).val = PP - a.val := by
  have h0 : a.val ≠ 0 := fun e => h (Fin.ext e)
  have hl := a.isLt
  have e : zp (PP - a.val) + a = 0 := by
    have : zp (PP - a.val) + zp a.val = 0 := by rw [← zp_add, show PP - a.val + a.val = PP by omega, zp_PP]
    rw [zp_of] at this
    exact this
  have e2 : -a = zp (PP - a.val) := by grind
  rw [e2, zp_val, Nat.mod_eq_of_lt (by omega)]
/-- The half power of a square but 0. -/
theorem fermat2 {a : Zp} (h : a ≠ 0) : a ^ hf * a ^ hf = 1 := by
  rw [← padd, show hf + hf = PP - 1 by have := hf_val; omega, fermat h]
theorem one_neg : ¬ (1 : Zp) = -1 := fun h => by
  have h2 : (1 : Zp) + 1 = 0 := (congrArg (fun z => z + (1 : Zp)) h).trans (by grind)
  have h3 := congrArg Fin.val h2
  rw [Fin.val_add, show (1 : Zp).val = 1 % PP from rfl, Nat.mod_eq_of_lt pr_p.1, Nat.mod_eq_of_lt (by have := PP_big; omega)] at h3
  cases h3
theorem neg_odd (a : Zp) (n : Nat) : (-a) ^ (2 * n + 1) = -(a ^ (2 * n + 1)) := by
  rw [ps, ps, pmul, pmul, show (-a) ^ 2 = a ^ 2 by grind]; grind
theorem neg_hf (a : Zp) : (-a) ^ hf = -(a ^ hf) := by
  obtain ⟨n, hn⟩ : ∃ n, hf = 2 * n + 1 := ⟨hf / 2, by have := hf_odd; omega⟩
  rw [hn]; exact neg_odd a n
end Go.Proofs.YtmpcccpnblfloaaGreatDoor

namespace Go.Proofs.YtmpcccpnblfloaaGreatDoor
set_option maxRecDepth 100000
abbrev W2 := Zp × Zp
def ad2 (x y : W2) : W2 := (x.1 + y.1, x.2 + y.2)
def ng2 (x : W2) : W2 := (-x.1, -x.2)
def sb2 (x y : W2) : W2 := (x.1 - y.1, x.2 - y.2)
def ml2 (x y : W2) : W2 := (x.1 * y.1 - x.2 * y.2, x.1 * y.2 + x.2 * y.1)
def nm2 (x : W2) : Zp := x.1 * x.1 + x.2 * x.2
def iv2 (x : W2) : W2 := (x.1 * nm2 x ^ (PP - 2), -x.2 * nm2 x ^ (PP - 2))
def on2 : W2 := (1, 0)
def ze2 : W2 := (0, 0)
theorem w2_ext {x y : W2} (h1 : x.1 = y.1) (h2 : x.2 = y.2) : x = y := Prod.ext h1 h2
def R2 : Rg W2 where
  zero := ze2
  one := on2
  add := ad2
  mul := ml2
  neg := ng2
  add_assoc := fun a b c => w2_ext (by simp only [ad2]; grind) (by simp only [ad2]; grind)
  add_comm := fun a b => w2_ext (by simp only [ad2]; grind) (by simp only [ad2]; grind)
  add_zero := fun a => w2_ext (by simp only [ad2, ze2]; grind) (by simp only [ad2, ze2]; grind)
  add_neg := fun a => w2_ext (by simp only [ad2, ng2, ze2]; grind) (by simp only [ad2, ng2, ze2]; grind)
  mul_assoc := fun a b c => w2_ext (by simp only [ml2]; grind) (by simp only [ml2]; grind)
  mul_comm := fun a b => w2_ext (by simp only [ml2]; grind) (by simp only [ml2]; grind)
  mul_one := fun a => w2_ext (by simp only [ml2, on2]; grind) (by simp only [ml2, on2]; grind)
  mul_add := fun a b c => w2_ext (by simp only [ml2, ad2]; grind) (by simp only [ml2, ad2]; grind)
theorem sb2_eq (x y : W2) : sb2 x y = ad2 x (ng2 y) := w2_ext (by simp only [sb2, ad2, ng2]; grind) (by simp only [sb2, ad2, ng2]; grind)
/-! ### -1 is no square -/
theorem pow_pm1 {a : Zp} (h : a ≠ 0) : (a * a) ^ hf = 1 := by rw [mpow, fermat2 h]
theorem neg_zero1 {a : Zp} (h : 0 = -a) : a = 0 := by grind
theorem z_m1 (a : Zp) : a * 1 = a := by grind
theorem z_m0 (a : Zp) : a * 0 = 0 := by grind
theorem no_i {a b : Zp} (h : a * a + b * b = 0) : b = 0 := by
  by_cases hb : b = 0
  · exact hb
  · exfalso
    have e : a * a = -(b * b) := by grind
    have e2 : (a * a) ^ hf = -1 := by rw [e, neg_hf, pow_pm1 hb]
    by_cases ha : a = 0
    · obtain ⟨n, hn⟩ := hf_pos
      rw [ha, z_m0, hn, zerop] at e2
      exact one_ne0 (neg_zero1 e2)
    · rw [pow_pm1 ha] at e2
      exact one_neg e2
theorem nm2_zero {x : W2} (h : nm2 x = 0) : x = ze2 := by
  have h1 := no_i h
  have h2 := no_i (a := x.2) (b := x.1) (by rw [← h]; simp only [nm2]; grind)
  exact w2_ext h2 h1
theorem nm2_ne {x : W2} (h : x ≠ ze2) : nm2 x ≠ 0 := fun e => h (nm2_zero e)
theorem iv2_mul {x : W2} (h : x ≠ ze2) : ml2 x (iv2 x) = on2 := by
  have hz := zinv (nm2_ne h)
  have e : nm2 x = x.1 * x.1 + x.2 * x.2 := rfl
  have k : ∀ j : Zp, nm2 x * j = 1 → ml2 x (x.1 * j, -x.2 * j) = on2 := fun j hj => by
    rw [e] at hj
    refine w2_ext ?_ ?_
    · simp only [ml2, on2]; grind
    · simp only [ml2, on2]; grind
  exact k _ hz
/-! ### Powers -/
def pw2 (x : W2) (n : Nat) : W2 := R2.pw x n
theorem z_0m (a : Zp) : 0 * a = 0 := by grind
theorem z_00 : (0 : Zp) + 0 = 0 := by simp
theorem z_11 : (1 : Zp) * 1 = 1 := z_m1 1
/-! ### Roots -/
theorem neg_eq0 {a : Zp} : -a = 0 ↔ a = 0 := ⟨fun h => by grind, fun h => by rw [h]; grind⟩
end Go.Proofs.YtmpcccpnblfloaaGreatDoor

namespace Go.Proofs.YtmpcccpnblfloaaGreatDoor
set_option maxRecDepth 100000
/-! ### Equality, signs -/
theorem dec2_t {x y : W2} (h : x.1 = y.1) : decide (x.2 = y.2) = decide (x = y) := decide_eq_decide.2 ⟨fun h' => w2_ext h h', fun h' => by rw [h']⟩
theorem dec2_f {x y : W2} (h : ¬ x.1 = y.1) : false = decide (x = y) := (decide_eq_false fun h' => h (by rw [h'])).symm
theorem fe2_iff {x y : W2} : fe x.1 ++ fe x.2 = fe y.1 ++ fe y.2 ↔ x = y := by
  constructor
  · intro h
    have := List.append_inj h (by rw [fe_len, fe_len])
    exact w2_ext (fe_inj.1 this.1) (fe_inj.1 this.2)
  · intro h; rw [h]
theorem fe2_dec (x y : W2) : decide (fe x.1 ++ fe x.2 = fe y.1 ++ fe y.2) = decide (x = y) := decide_eq_decide.2 fe2_iff
/-! ### Powers by digits -/
def fe2 (x : W2) : List (BitVec 64) := fe x.1 ++ fe x.2
theorem fe2_len (x : W2) : (fe2 x).length = 12 := by rw [fe2, List.length_append, fe_len, fe_len]
def SP2 (x : W2) (i : Nat) : List (BitVec 64) := FM (fun j => if j < i then fe2 (pw2 x j) else fe2 ze2) 16
theorem SP2_len (x : W2) (i : Nat) : (SP2 x i).length = 192 := FM_len _ _
/-! ### Roots -/
end Go.Proofs.YtmpcccpnblfloaaGreatDoor

namespace Go.Proofs.YtmpcccpnblfloaaGreatDoor
set_option maxRecDepth 100000
abbrev W6 := W2 × W2 × W2
abbrev W12 := W6 × W6
def th : Nat := (PP - 1) / 3
/-! ### The power of p -/
def em (c : W2) : W12 := ((c, ze2, ze2), (ze2, ze2, ze2))
/-! ### Six parts, as the reference multiplies them -/
end Go.Proofs.YtmpcccpnblfloaaGreatDoor

namespace Go.Proofs.YtmpcccpnblfloaaGreatDoor
set_option maxRecDepth 100000
section
variable {α : Type} [DecidableEq α] (C : Ec α)
/-- So many times by bits, the highest first. -/
def Ec.jm (J : α × α × α) : List Bool → α × α × α → α × α × α
  | [], A => A
  | b :: r, A => Ec.jm J r (if b then C.jaF (C.jdF A) J else C.jdF A)
def bitsN : List Bool → Nat → Nat
  | [], n => n
  | b :: r, n => bitsN r (2 * n + (if b then 1 else 0))
theorem Ec.jr_m {J : α × α × α} {P : Pt α} (hP : C.onP P) (h : C.jr J P) : ∀ (l : List Bool) (A : α × α × α) (n : Nat), C.jr A (C.times P n) → C.jr (C.jm J l A) (C.times P (bitsN l n))
  | [], _, _, hA => hA
  | b :: r, A, n, hA => by
    have hd := C.jr_d (C.times_on hP n) hA
    rw [← C.times_add hP, ← Nat.two_mul] at hd
    cases b with
    | false => exact Ec.jr_m hP h r _ _ hd
    | true =>
      have ha := C.jr_a (C.times_on hP (2 * n)) hP hd h
      exact Ec.jr_m hP h r _ (2 * n + 1) ha
end
/-! ### Over p -/
def RZp : Rg Zp where
  zero := 0
  one := 1
  add := fun a b => a + b
  mul := fun a b => a * b
  neg := fun a => -a
  add_assoc := fun a b c => by grind
  add_comm := fun a b => by grind
  add_zero := fun a => by grind
  add_neg := fun a => by grind
  mul_assoc := fun a b c => by grind
  mul_comm := fun a b => by grind
  mul_one := fun a => by grind
  mul_add := fun a b c => by grind
def E1 : Ec Zp where
  R := RZp
  iv := fun a => a ^ (PP - 2)
  b := zp 4
  hi := fun _ h => zinv h
  h2 := by decide +kernel
  h3 := by decide +kernel
  hb := by decide +kernel
def E1w : Ec W2 where
  R := R2
  iv := iv2
  b := (zp 4, 0)
  hi := fun _ h => iv2_mul h
  h2 := by decide +kernel
  h3 := by decide +kernel
  hb := by decide +kernel
def G1x : Nat := 0x17f1d3a73197d7942695638c4fa9ac0fc3688c4f9774b905a14e3a3f171bac586c55e83ff97a1aeffb3af00adb22c6bb
def G1y : Nat := 0x8b3f481e3aaa0f1a09e30ed741d8ae4fcf5e095d5d00af600db18cb2c04b3edd03cc744a2888ae40caa232946c5e7e1
def G1p : Zp × Zp := (zp G1x, zp G1y)
theorem G1_on : E1.on G1p := by
  unfold Ec.on
  decide +kernel
def ORD : Nat := 0x73eda753299d7d483339d80809a1d80553bda402fffe5bfeffffffff00000001
def bitsOf : Nat → Nat → List Bool → List Bool
  | 0, _, l => l
  | f + 1, n, l => bitsOf f (n / 2) ((n % 2 == 1) :: l)
theorem rn_bits : bitsN (bitsOf 255 ORD []) 0 = ORD := by decide +kernel
theorem g1_z : (E1.jm (zp G1x, zp G1y, 1) (bitsOf 255 ORD []) (0, 0, 0)).2.2 = 0 := by decide +kernel
theorem g1_jr : E1.jr (zp G1x, zp G1y, 1) (some G1p) := ⟨one_ne0, by decide +kernel, by decide +kernel⟩
theorem jr_none {α : Type} (C : Ec α) {J : α × α × α} {P : Pt α} (h : C.jr J P) (hz : J.2.2 = C.R.zero) : P = none := by
  cases P with
  | none => rfl
  | some p => exact absurd hz h.1
theorem jm_none {α : Type} [DecidableEq α] (C : Ec α) {J : α × α × α} {P : Pt α} (hP : C.onP P) (h : C.jr J P) (l : List Bool) {n : Nat} (hn : bitsN l 0 = n) (hz : (C.jm J l (C.R.zero, C.R.zero, C.R.zero)).2.2 = C.R.zero) : C.times P n = none := by
  have k := C.jr_m hP h l (C.R.zero, C.R.zero, C.R.zero) 0 (show C.R.zero = C.R.zero from rfl)
  rw [hn] at k
  exact jr_none C k hz
/-- r times the generator is the infinite point. -/
theorem g1_order : E1.times (some G1p) ORD = none := jm_none E1 (P := some G1p) G1_on g1_jr (bitsOf 255 ORD []) rn_bits g1_z
end Go.Proofs.YtmpcccpnblfloaaGreatDoor

namespace Go.Proofs.YtmpcccpnblfloaaGreatDoor
set_option maxRecDepth 100000
/-- A field in another, with the curve's number. -/
structure Em {α β : Type} (C : Ec α) (D : Ec β) where
  f : α → β
  h0 : f C.R.zero = D.R.zero
  ha : ∀ a b, f (C.R.add a b) = D.R.add (f a) (f b)
  hm : ∀ a b, f (C.R.mul a b) = D.R.mul (f a) (f b)
  hn : ∀ a, f (C.R.neg a) = D.R.neg (f a)
  hi : ∀ a b, f a = f b → a = b
  hb : f C.b = D.b
section
variable {α β : Type} {C : Ec α} {D : Ec β} (e : Em C D)
def Em.q (p : α × α) : β × β := (e.f p.1, e.f p.2)
def Em.p : Pt α → Pt β
  | none => none
  | some p => some (e.q p)
theorem Em.sub (a b : α) : e.f (C.sub a b) = D.sub (e.f a) (e.f b) := by rw [Ec.sub, Ec.sub, e.ha, e.hn]
theorem Em.on {p : α × α} (h : C.on p) : D.on (e.q p) := by
  have := congrArg e.f h
  rw [e.hm, e.ha, e.hm, e.hm, e.hb] at this
  exact this
theorem Em.onP {P : Pt α} (h : C.onP P) : D.onP (e.p P) := by
  cases P with
  | none => trivial
  | some p => exact e.on h
theorem Em.sl {p q : α × α} {s : α} (h : C.Sl p q s) : D.Sl (e.q p) (e.q q) (e.f s) := by
  have h1 := congrArg e.f h.1
  have h2 := congrArg e.f h.2
  rw [e.hm, e.sub, e.sub] at h1
  rw [e.hm, e.ha, e.ha, e.ha, e.hm, e.hm, e.hm] at h2
  exact ⟨h1, h2⟩
theorem Em.opp {p q : α × α} : D.opp (e.q p) (e.q q) ↔ C.opp p q :=
  ⟨fun h => ⟨e.hi _ _ h.1, e.hi _ _ (by rw [e.ha, e.h0]; exact h.2)⟩, fun h => ⟨congrArg e.f h.1, by
    have := congrArg e.f h.2
    rw [e.ha, e.h0] at this
    exact this⟩⟩
theorem Em.th (p q : α × α) (s : α) : D.th (e.q p) (e.q q) (e.f s) = e.q (C.th p q s) := by
  have hx : D.x3 (e.q p) (e.q q) (e.f s) = e.f (C.x3 p q s) := by rw [Ec.x3, Ec.x3, e.sub, e.sub, e.hm]; rfl
  refine Prod.ext hx ?_
  show D.sub (D.R.mul (e.f s) (D.sub (e.f p.1) (D.x3 (e.q p) (e.q q) (e.f s)))) (e.f p.2) = e.f (C.sub (C.R.mul s (C.sub p.1 (C.x3 p q s))) p.2)
  rw [hx, e.sub, e.hm, e.sub]
theorem Em.ne (P : Pt α) : e.p (C.ne P) = D.ne (e.p P) := by
  cases P with
  | none => rfl
  | some p => exact congrArg some (Prod.ext rfl (e.hn _))
theorem Em.inj {P Q : Pt α} (h : e.p P = e.p Q) : P = Q := by
  cases P with
  | none =>
    cases Q with
    | none => rfl
    | some q => cases h
  | some p =>
    cases Q with
    | none => cases h
    | some q =>
      have h := Option.some.inj h
      exact congrArg some (Prod.ext (e.hi _ _ (congrArg Prod.fst h)) (e.hi _ _ (congrArg Prod.snd h)))
theorem Em.jr {J : α × α × α} {P : Pt α} (h : C.jr J P) : D.jr (e.f J.1, e.f J.2.1, e.f J.2.2) (e.p P) := by
  cases P with
  | none => exact (congrArg e.f h).trans e.h0
  | some p =>
    refine ⟨fun h' => h.1 (e.hi _ _ (h'.trans e.h0.symm)), ?_, ?_⟩
    · have := congrArg e.f h.2.1
      rw [e.hm, Ec.z2, e.hm] at this
      exact this
    · have := congrArg e.f h.2.2
      rw [e.hm, Ec.z3, e.hm, e.hm] at this
      exact this
end
section
variable {α β : Type} [DecidableEq α] [DecidableEq β] {C : Ec α} {D : Ec β} (e : Em C D)
theorem Em.ad {P Q : Pt α} (hP : C.onP P) (hQ : C.onP Q) : e.p (C.ad P Q) = D.ad (e.p P) (e.p Q) := by
  cases P with
  | none => rfl
  | some p =>
    cases Q with
    | none => rw [C.ad_nr]; exact (D.ad_nr _).symm
    | some q =>
      by_cases ho : C.opp p q
      · rw [C.ad_opp ho]; exact (D.ad_opp (e.opp.2 ho)).symm
      · obtain ⟨s, hs⟩ := C.sl_is hP hQ ho
        rw [C.ad_sl hP hQ ho hs]
        exact ((D.ad_sl (e.on hP) (e.on hQ) (fun h => ho (e.opp.1 h)) (e.sl hs)).trans (congrArg some (e.th p q s))).symm
theorem Em.times {P : Pt α} (hP : C.onP P) : ∀ n, e.p (C.times P n) = D.times (e.p P) n
  | 0 => rfl
  | n + 1 => by
    show e.p (C.ad (C.times P n) P) = D.ad (D.times (e.p P) n) (e.p P)
    rw [e.ad (C.times_on hP n) hP, Em.times hP n]
end
theorem z_s0' (a : Zp) : a - 0 = a := by grind
theorem z_a0' (a : Zp) : a + 0 = a := by grind
theorem z_n0' : -(0 : Zp) = 0 := neg_eq0.2 rfl
theorem zz (a b : Zp) : ml2 (a, 0) (b, 0) = (a * b, 0) := Prod.ext (by simp only [ml2]; rw [z_m0, z_s0']) (by simp only [ml2]; rw [z_m0, z_0m, z_a0'])
/-- The numbers without i. -/
def em1 : Em E1 E1w where
  f := fun a => (a, 0)
  h0 := rfl
  ha := fun _ _ => Prod.ext rfl (z_a0' 0).symm
  hm := fun a b => (zz a b).symm
  hn := fun _ => Prod.ext rfl z_n0'.symm
  hi := fun _ _ h => congrArg Prod.fst h
  hb := rfl
end Go.Proofs.YtmpcccpnblfloaaGreatDoor

namespace Go.Proofs.YtmpcccpnblfloaaGreatDoor
set_option maxRecDepth 100000
section
variable {α : Type} (C : Ec α)
theorem Ec.jr_z {J : α × α × α} {P : Pt α} (h : C.jr J P) : J.2.2 = C.R.zero ↔ P = none := by
  cases P with
  | none => exact ⟨fun _ => rfl, fun _ => h⟩
  | some p => exact ⟨fun e => absurd e h.1, fun e => by cases e⟩
end
section
variable {α : Type} [DecidableEq α] (C : Ec α)
theorem Ec.ad_none {P Q : Pt α} (hP : C.onP P) (hQ : C.onP Q) (h : C.ad P Q = none) : Q = C.ne P := by
  have := C.undo hP hQ
  rw [h, C.ad_nr] at this
  exact this.symm
theorem Ec.ad_ne_iff {P Q : Pt α} (hP : C.onP P) (hQ : C.onP Q) : C.ad P (C.ne Q) = none ↔ P = Q :=
  ⟨fun h => by
    have := C.ad_none hP (C.ne_on hQ) h
    have := congrArg C.ne this
    rw [C.ne_ne, C.ne_ne] at this
    exact this.symm, fun h => by rw [h]; exact C.ad_ne Q⟩
theorem Ec.times_comm {P : Pt α} (hP : C.onP P) (m n : Nat) : C.times (C.times P m) n = C.times (C.times P n) m := by
  rw [← C.times_mul hP, ← C.times_mul hP, Nat.mul_comm]
theorem Ec.times_one (P : Pt α) : C.times P 1 = P := rfl
theorem Ec.times_ord {P : Pt α} (hP : C.onP P) {r : Nat} (h : C.times P r = none) (k : Nat) : C.times (C.times P k) r = none := by
  rw [C.times_comm hP, h, C.times_none]
theorem Ec.times_mod {P : Pt α} (hP : C.onP P) {r : Nat} (h : C.times P r = none) (n : Nat) : C.times P (n % r) = C.times P n := by
  have e : C.times P n = C.times P (r * (n / r) + n % r) := by rw [Nat.div_add_mod]
  rw [e, C.times_add hP, C.times_mul hP, h, C.times_none]; rfl
theorem Ec.times_sub {P : Pt α} (hP : C.onP P) {r : Nat} (h : C.times P r = none) {n : Nat} (hn : n ≤ r) : C.times P (r - n) = C.ne (C.times P n) := by
  refine C.ad_none (C.times_on hP n) (C.times_on hP _) ?_
  rw [← C.times_add hP, show n + (r - n) = r by omega, h]
theorem Ec.dbl_times {P : Pt α} (hP : C.onP P) (n : Nat) : C.ad (C.times P n) (C.times P n) = C.times P (2 * n) := by rw [← C.times_add hP, Nat.two_mul]
end
theorem jm_some {α : Type} [DecidableEq α] (C : Ec α) {J : α × α × α} {P : Pt α} (hP : C.onP P) (h : C.jr J P) (l : List Bool) {n : Nat} (hn : bitsN l 0 = n) (hz : (C.jm J l (C.R.zero, C.R.zero, C.R.zero)).2.2 ≠ C.R.zero) : C.times P n ≠ none := by
  have k := C.jr_m hP h l (C.R.zero, C.R.zero, C.R.zero) 0 (show C.R.zero = C.R.zero from rfl)
  rw [hn] at k
  exact fun e => hz ((C.jr_z k).2 e)
theorem g1_nine : (E1.jm (zp G1x, zp G1y, 1) (bitsOf 4 9 []) (0, 0, 0)).2.2 ≠ 0 := by decide +kernel
theorem nine_bits : bitsN (bitsOf 4 9 []) 0 = 9 := by decide +kernel
theorem g1_times9 : E1.times (some G1p) 9 ≠ none := jm_some E1 (P := some G1p) G1_on g1_jr (bitsOf 4 9 []) nine_bits g1_nine
/-- A point's numbers, as the reference holds them. -/
def RJ : Pt Zp → W6
  | none => (ze2, ze2, ze2)
  | some p => ((p.1, 0), (p.2, 0), on2)
theorem RJ_jr (P : Pt Zp) : E1w.jr (RJ P) (em1.p P) := by
  cases P with
  | none => rfl
  | some p => 
    refine ⟨fun h => absurd (congrArg Prod.fst h) one_ne0, ?_, ?_⟩
    · show ((p.1, 0) : W2) = R2.mul (p.1, 0) (R2.mul R2.one R2.one)
      rw [R2.mul_one, R2.mul_one]
    · show ((p.2, 0) : W2) = R2.mul (p.2, 0) (R2.mul (R2.mul R2.one R2.one) R2.one)
      rw [R2.mul_one, R2.mul_one, R2.mul_one]
end Go.Proofs.YtmpcccpnblfloaaGreatDoor

namespace Go.Proofs.YtmpcccpnblfloaaGreatDoor
end Go.Proofs.YtmpcccpnblfloaaGreatDoor

namespace Go.Proofs.YtmpcccpnblfloaaGreatDoor
set_option maxRecDepth 100000
section
variable {α : Type} [DecidableEq α] {C : Ec α} (T : Tw C)
theorem Tw.in_of {P : Pt α} (hP : C.onP P) (line : C.ad (C.ad P (T.p P)) (T.p (T.p P)) = none) {U r : Nat} (hU : r + U * U = (U * U) * (U * U) + 1) (h : C.ne (C.times (C.times P U) U) = T.p P) : C.times P r = none := by
  rw [← C.times_mul hP] at h
  generalize U * U = V at h hU
  have hQ := C.times_on hP V
  have e2 : T.p (T.p P) = C.times P (V * V) := by
    rw [← h, T.p_ne, T.p_times hP, ← h, C.times_ne hQ, C.ne_ne, C.times_mul hP]
  have hS := C.times_on hP (V * V)
  rw [e2, ← h] at line
  have e3 : C.ad (C.times P r) (C.times P V) = C.ad (C.times P (V * V)) P := by rw [← C.times_add hP, hU]; rfl
  have e4 : C.ad (C.ad (C.times P r) (C.times P V)) (C.ne (C.times P V)) = C.times P r := by
    rw [C.ad_assoc (C.times_on hP r) hQ (C.ne_on hQ), C.ad_ne, C.ad_nr]
  rw [← e4, e3, C.ad_assoc hS hP (C.ne_on hQ), C.ad_comm hS (C.ad_on hP (C.ne_on hQ)), line]
theorem Tw.out_of {G : Pt α} (hG : C.onP G) {U : Nat} (h : C.ne (C.times (C.times G U) U) = T.p G) (e : Nat) : C.ne (C.times (C.times (C.times G e) U) U) = T.p (C.times G e) := by
  have h1 := C.times_on hG U
  rw [T.p_times hG, ← h, C.times_ne (C.times_on h1 U), C.times_swap h1 U e, C.times_swap hG U e]
end
theorem jr_is {α : Type} (C : Ec α) {J : α × α × α} {P : Pt α} {x y : α} (h : C.jr J P) (hz : J.2.2 ≠ C.R.zero) (hx : J.1 = C.R.mul x (C.z2 J.2.2)) (hy : J.2.1 = C.R.mul y (C.z3 J.2.2)) : P = some (x, y) := by
  cases P with
  | none => exact absurd h hz
  | some p =>
    refine congrArg some (Prod.ext ?_ ?_)
    · exact C.mul_can (C.z2_ne hz) (h.2.1.symm.trans hx)
    · exact C.mul_can (C.z3_ne hz) (h.2.2.symm.trans hy)
theorem jm_is {α : Type} [DecidableEq α] (C : Ec α) {J K : α × α × α} {P : Pt α} (hP : C.onP P) (h : C.jr J P) (l : List Bool) {n : Nat} (hn : bitsN l 0 = n) (hK : C.jm J l (C.R.zero, C.R.zero, C.R.zero) = K) {x y : α} (hz : K.2.2 ≠ C.R.zero) (hx : K.1 = C.R.mul x (C.z2 K.2.2)) (hy : K.2.1 = C.R.mul y (C.z3 K.2.2)) : C.times P n = some (x, y) := by
  have k := C.jr_m hP h l (C.R.zero, C.R.zero, C.R.zero) 0 (show C.R.zero = C.R.zero from rfl)
  rw [hn, hK] at k
  exact jr_is C k hz hx hy
theorem inv_pr {p : Nat} (hp : Pr p) {d : Nat} (h0 : 0 < d) (h1 : d < p) : ∃ e, (d * e) % p = 1 := by
  refine ⟨d ^ (p - 2), ?_⟩
  have h2 : 1 < p := hp.1
  rw [← Nat.pow_succ', show (p - 2).succ = p - 1 from by omega]
  exact hp.fermat1 fun h => absurd (Nat.le_of_dvd h0 h) (by omega)
/-! ### The first curve -/
/-- A third root of 1. -/
def TRN : Nat := 0x5f19672fdf76ce51ba69c6076a0f77eaddb3a93be6f89688de17d813620a00022e01fffffffefffe
theorem TRN_w2 : zp TRN * zp TRN * (zp TRN * zp TRN) = zp TRN := by decide +kernel
theorem TRN_w3 : zp TRN * zp TRN * (zp TRN * zp TRN * (zp TRN * zp TRN)) = 1 := by decide +kernel
theorem TRN_sum : zp TRN * zp TRN + zp TRN + 1 = 0 := by decide +kernel
theorem TRN_wn : zp TRN * zp TRN ≠ 0 := by decide +kernel
def TW1 : Tw E1 where
  f := fun a => a
  w := zp TRN * zp TRN
  fa := fun _ _ => rfl
  fm := fun _ _ => rfl
  fn := fun _ => rfl
  f0 := rfl
  fi := fun _ h => h
  wn := TRN_wn
  wb := by decide +kernel
theorem TW1_m (q : Zp × Zp) : TW1.m q = (zp TRN * q.1, q.2) := by
  refine Prod.ext ?_ ?_
  · show zp TRN * zp TRN * (zp TRN * zp TRN) * q.1 = zp TRN * q.1
    rw [TRN_w2]
  · show zp TRN * zp TRN * (zp TRN * zp TRN * (zp TRN * zp TRN)) * q.2 = q.2
    rw [TRN_w3]
    generalize q.2 = y
    grind
theorem line_c {c x y : Zp} (hc : c * c + c + 1 = 0) (hp : E1.on (x, y)) (hq : E1.on (c * x, y)) : E1.ad (E1.ad (some (x, y)) (some (c * x, y))) (some (c * (c * x), y)) = none := by
  have ho : ¬ E1.opp (x, y) (c * x, y) := by
    intro h
    have h1 : x = c * x := h.1
    have hy : y = 0 := E1.dbl0 h.2
    have h3 : (1 + 1 + 1) * x = 0 := by
      have e : (c * c + c + 1) * x = c * (c * x) + c * x + x := by grind
      rw [hc, ← h1, ← h1] at e
      grind
    have hx : x = 0 := (zmul0 h3).resolve_left E1.h3
    subst hx hy
    have k : (0 : Zp) * 0 = 0 * (0 * 0) + zp 4 := hp
    exact absurd k (by decide +kernel)
  have hs : E1.Sl (x, y) (c * x, y) 0 := by
    refine ⟨?_, ?_⟩
    · show (0 : Zp) * (x + -(c * x)) = y + -y
      grind
    · show (0 : Zp) * (y + y) = x * x + x * (c * x) + c * x * (c * x)
      have e : x * x + x * (c * x) + c * x * (c * x) = (c * c + c + 1) * (x * x) := by grind
      rw [e, hc]
      grind
  rw [E1.ad_sl hp hq ho hs]
  refine E1.ad_opp ⟨?_, ?_⟩
  · show (0 : Zp) * 0 + -x + -(c * x) = c * (c * x)
    have e : c * (c * x) - ((0 : Zp) * 0 + -x + -(c * x)) = (c * c + c + 1) * x := by grind
    rw [hc] at e
    grind
  · show (0 : Zp) * (x + -((0 : Zp) * 0 + -x + -(c * x))) + -y + y = 0
    grind
theorem TW1_line {P : Pt Zp} (hP : E1.onP P) : E1.ad (E1.ad P (TW1.p P)) (TW1.p (TW1.p P)) = none := by
  cases P with
  | none => rfl
  | some q =>
    have e : TW1.p (some q) = some (zp TRN * q.1, q.2) := congrArg some (TW1_m q)
    have e' : TW1.p (some (zp TRN * q.1, q.2)) = some (zp TRN * (zp TRN * q.1), q.2) := congrArg some (TW1_m _)
    have hq : E1.onP (TW1.p (some q)) := TW1.p_on hP
    rw [e] at hq
    rw [e, e']
    exact line_c TRN_sum hP hq
/-- The number whose fourth power less its square, and 1, is r. -/
def UG : Nat := 0xd201000000010000
theorem UG_ord : ORD + UG * UG = (UG * UG) * (UG * UG) + 1 := by decide +kernel
def UGJ : Zp × Zp × Zp := E1.jm (zp G1x, zp G1y, 1) (bitsOf 128 (UG * UG) []) (0, 0, 0)
theorem UGJ_eq : E1.jm (zp G1x, zp G1y, 1) (bitsOf 128 (UG * UG) []) (E1.R.zero, E1.R.zero, E1.R.zero) = UGJ := by unfold UGJ; rfl
theorem ug_bits : bitsN (bitsOf 128 (UG * UG) []) 0 = UG * UG := by decide +kernel
theorem ugj : UGJ.2.2 ≠ 0 ∧ UGJ.1 = zp TRN * zp G1x * (UGJ.2.2 * UGJ.2.2) ∧ UGJ.2.1 = -(zp G1y) * (UGJ.2.2 * UGJ.2.2 * UGJ.2.2) := by decide +kernel
theorem G1_uu : E1.times (some G1p) (UG * UG) = some (zp TRN * zp G1x, -(zp G1y)) := jm_is E1 (P := some G1p) G1_on g1_jr (bitsOf 128 (UG * UG) []) ug_bits UGJ_eq ugj.1 ugj.2.1 ugj.2.2
theorem G1_on' : E1.onP (some G1p) := G1_on
theorem G1_tw : E1.ne (E1.times (E1.times (some G1p) UG) UG) = TW1.p (some G1p) := by
  rw [← E1.times_mul G1_on', G1_uu]
  refine congrArg some ((Prod.ext rfl ?_ : _ = (zp TRN * zp G1x, zp G1y)).trans (TW1_m G1p).symm)
  show - -(zp G1y) = zp G1y
  generalize zp G1y = y
  grind
/-- A point's number: x, and which of the two y. -/
def cdP : Pt Zp → Nat
  | none => 0
  | some p => 1 + (2 * p.1.val + p.2.val % 2)
theorem cd_lt (S : Pt Zp) : cdP S < 2 * PP + 1 := by
  cases S with
  | none => exact Nat.succ_pos _
  | some p =>
    show 1 + (2 * p.1.val + p.2.val % 2) < 2 * PP + 1
    have := p.1.isLt
    omega
theorem cd_y {a b : Zp} (h : a * a = b * b) (k : a.val % 2 = b.val % 2) : a = b := by
  have e : (a - b) * (a + b) = 0 := by grind
  rcases zmul0 e with h1 | h1
  · grind
  · have e2 : a = -b := by grind
    by_cases hb : b = 0
    · rw [e2, hb]; decide +kernel
    · exfalso
      rw [e2, neg_val hb] at k
      have h2 := b.isLt
      have h3 : PP % 2 = 1 := by decide +kernel
      omega
theorem cd_inj {S S' : Pt Zp} (h : E1.onP S) (h' : E1.onP S') (e : cdP S = cdP S') : S = S' := by
  cases S with
  | none =>
    cases S' with
    | none => rfl
    | some q => exact absurd (show 0 = 1 + (2 * q.1.val + q.2.val % 2) from e) (by omega)
  | some p =>
    cases S' with
    | none => exact absurd (show 1 + (2 * p.1.val + p.2.val % 2) = 0 from e) (by omega)
    | some q =>
      have e : 1 + (2 * p.1.val + p.2.val % 2) = 1 + (2 * q.1.val + q.2.val % 2) := e
      have ex : p.1 = q.1 := Fin.ext (by omega)
      have k1 : p.2 * p.2 = p.1 * (p.1 * p.1) + zp 4 := h
      have k2 : q.2 * q.2 = q.1 * (q.1 * q.1) + zp 4 := h'
      refine congrArg some (Prod.ext ex (cd_y (k1.trans ?_) (by omega)))
      rw [k2, ex]
theorem pr_ord : Pr ORD := by
  have e : ORD = RR := by decide +kernel
  rw [e]; exact pr_r
theorem G1_ne : (some G1p : Pt Zp) ≠ none := fun h => by cases h
/-- All points of the order r are so many times the generator. -/
theorem g1_cyc {P : Pt Zp} (hP : E1.onP P) (h : E1.times P ORD = none) : ∃ e, P = E1.times (some G1p) e :=
  E1.cyc G1_on' hP (fun _ h0 h1 => inv_pr pr_ord h0 h1) g1_order h G1_ne (2 * PP + 1) cdP (fun S _ => cd_lt S) (fun _ _ h h' e => cd_inj h h' e) (by decide +kernel)
/-- r times a point is the infinite one just where it turned is its opposite so many times. -/
theorem g1_in {P : Pt Zp} (hP : E1.onP P) : E1.ne (E1.times (E1.times P UG) UG) = TW1.p P ↔ E1.times P ORD = none := by
  constructor
  · exact fun h => TW1.in_of hP (TW1_line hP) UG_ord h
  · intro h
    obtain ⟨e, rfl⟩ := g1_cyc hP h
    exact TW1.out_of G1_on' G1_tw e
end Go.Proofs.YtmpcccpnblfloaaGreatDoor
