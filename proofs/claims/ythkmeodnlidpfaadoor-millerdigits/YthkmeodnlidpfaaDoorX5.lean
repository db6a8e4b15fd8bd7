/-
 What is known of the package-level variables.
 Powers by digits of four bits, and by bits. Nothing here names a program.
 Signs, roots, numbers of many bytes: as functions of elements. Nothing here names a program.
 What the laws of layer 3 say of elements. Nothing here names a program.
 The field of p^2 elements: a + b i. Nothing here names a program.
 What the walks of package fp2 meet: signs, powers, roots. Nothing here names a program.
 The fields of p^6 and p^12 elements, over pairs: that they are fields; the power of p. Nothing here names a program.
 Inverses in the fields of p^6 and p^12 elements, as the reference reckons them. Nothing here names a program.
 Elements of fp6 among those of six parts. Nothing here names a program.
 The curves; the generator's order. Nothing here names a program.
 Curves over two fields, one in the other: points, sums, times. Nothing here names a program.
 Points: when a sum is none; times and the order; the generator. Nothing here names a program.
 Bits of bytes by masks. Nothing here names a program.
 The first curve's points of the order r: turned by a third root of 1. Nothing here names a program.
 The second curve; its generator's order. Nothing here names a program.
 The second curve: nine times the generator; a point's numbers as the reference holds them. Nothing here names a program.
 The second curve's points of the order r: over the field of p^12 elements. Nothing here names a program.
 The second curve's points of the order r: conjugates, turned. Nothing here names a program.
-/
import Derived.Test.YthkmeodnlidpfaaDoorX4
import Derived.Test.YthkmeodnlidpfaaDoorRows
import Derived.Test.YthkmeodnlidpfaaDoorX3
import Derived.Test.YthkmeodnlidpfaaDoorX1
set_option maxRecDepth 100000
set_option maxHeartbeats 1000000
namespace Go.Proofs.YthkmeodnlidpfaaDoor
section
open Go.RowKit
def IVP : List (BitVec 64) := [0xb9feffffffffaaa9#64, 0x1eabfffeb153ffff#64, 0x6730d2a0f6b0f624#64, 0x64774b84f38512bf#64, 0x4b1ba7b6434bacd7#64, 0x1a0111ea397fe69a#64]
def HFP : List (BitVec 64) := [0xdcff7fffffffd555#64, 0xf55ffff58a9ffff#64, 0xb39869507b587b12#64, 0xb23ba5c279c2895f#64, 0x258dd3db21a5d66b#64, 0xd0088f51cbff34d#64]
def RTP : List (BitVec 64) := [0xee7fbfffffffeaab#64, 0x7aaffffac54ffff#64, 0xd9cc34a83dac3d89#64, 0xd91dd2e13ce144af#64, 0x92c6e9ed90d2eb35#64, 0x680447a8e5ff9a6#64]
theorem IVP_val : V IVP 6 = PP - 2 := by decide +kernel
structure Gt (w : World) : Prop where
 g0 : w.rangeAt 0 0 (TWO.map U64)
 g1 : w.rangeAt 1 0 (PL.map U64)
 g2 : w.rangeAt 2 0 (IVP.map U64)
theorem range_same {w w' : World} {b : Nat} {cs : List Value} (hk : w'.heap[b]? = w.heap[b]?) (h : w.rangeAt b 0 cs) : w'.rangeAt b 0 cs := fun j v hv => by
 rw [World.cell?_of_block (w := w) hk]
 exact h j v hv
theorem gt_low : GLow Gt 3 where
 size := fun w h => by
  have := block_lt_of_cell (h.g2 0 _ (by rfl : (IVP.map U64)[0]? = some (U64 0xb9feffffffffaaa9#64)))
  exact this
 same := fun w w' hk h => ⟨range_same (hk 0 (by omega)) h.g0, range_same (hk 1 (by omega)) h.g1, range_same (hk 2 (by omega)) h.g2⟩
theorem mixed : Tryd.prog.follows .mixedOrders = true := by kernel_rfl
end
section
def NBv (bs : List (BitVec 8)) (m : Nat) : BitVec 8 := if m % 2 = 0 then bs.getD (m / 2) 0 >>> 4 else bs.getD (m / 2) 0 % 16#8
theorem NBv_lt (bs : List (BitVec 8)) (m : Nat) : (NBv bs m).toNat < 16 := by
 have h := (bs.getD (m / 2) 0).isLt
 unfold NBv
 split
 ·rw [BitVec.toNat_ushiftRight, Nat.shiftRight_eq_div_pow]; omega
 ·rw [BitVec.toNat_umod]; exact Nat.mod_lt _ (by decide)
def DN (bs : List (BitVec 8)) : Nat → Nat
 | 0 => 0
 | m + 1 => 16 * DN bs m + (NBv bs m).toNat
theorem DN_two (bs : List (BitVec 8)) : ∀ k, DN bs (2 * k) = BN bs k
 | 0 => rfl
 | k + 1 => by
  have h := (bs.getD k 0).isLt
  have e0 : NBv bs (2 * k) = bs.getD k 0 >>> 4 := by
   rw [NBv, if_pos (by omega), show 2 * k / 2 = k by omega]
  have e1 : NBv bs (2 * k + 1) = bs.getD k 0 % 16#8 := by
   rw [NBv, if_neg (by omega), show (2 * k + 1) / 2 = k by omega]
  rw [show 2 * (k + 1) = 2 * k + 1 + 1 by omega, DN, DN, DN_two bs k, BN, e0, e1, BitVec.toNat_ushiftRight, Nat.shiftRight_eq_div_pow, BitVec.toNat_umod, show (16#8).toNat = 16 from rfl]
  omega
theorem sq_step (x : Zp) (j D : Nat) : x ^ (2 ^ j * D) * x ^ (2 ^ j * D) = x ^ (2 ^ (j + 1) * D) := by
 rw [← padd, Nat.pow_succ, show 2 ^ j * 2 * D = 2 ^ j * D + 2 ^ j * D by rw [Nat.mul_right_comm]; omega]
theorem dig_step (x : Zp) (bs : List (BitVec 8)) (k : Nat) : x ^ (2 ^ 4 * DN bs k) * x ^ (NBv bs k).toNat = x ^ DN bs (k + 1) := by
 rw [← padd, DN]
/-! ### Sixteen powers -/
def SP (x : Zp) (i : Nat) : List (BitVec 64) := FL (fun j => if j < i then fe (x ^ j) else List.replicate 6 0) 16
theorem SP_len (x : Zp) (i : Nat) : (SP x i).length = 96 := FL_len _ _
theorem SP_one (x : Zp) : FL (fun i => if i = 0 then fe 1 else List.replicate 6 0) 16 = SP x 1 := FL_congr fun i _ => by
 by_cases h : i = 0
 ·rw [if_pos h, if_pos (by omega), h, p0]
 ·rw [if_neg h, if_neg (by omega)]
theorem SP_load (x : Zp) (i k : Nat) (hk : k < i) (hi : i ≤ 16) (o : Nat) (ho : o = 6 * k) : ∀ j v, ((fe (x ^ k)).map U64)[j]? = some v → ((SP x i).map U64)[o + j]? = some v := by
 have h := FL_load (fun j => if j < i then fe (x ^ j) else List.replicate 6 0) 16 k (by omega) (by simp only [if_pos hk]; exact fe_len _) o ho
 simp only [if_pos hk] at h
 exact h
theorem SP_step (x : Zp) (i : Nat) (h1 : 1 ≤ i) (hi : i < 16) (o : Nat) (ho : o = 6 * i) : lay o ((fe (x ^ (i - 1) * x)).map U64) ((SP x i).map U64) = (SP x (i + 1)).map U64 := by
 rw [SP, FL_lay _ 16 i _ hi (fe_len _) o ho]
 congr 1
 refine FL_congr fun j _ => ?_
 by_cases h : j = i
 ·rw [if_pos h, if_pos (by omega), h, ← ps, show i - 1 + 1 = i by omega]
 ·rw [if_neg h]
  by_cases h' : j < i
  ·rw [if_pos h', if_pos (by omega)]
  ·rw [if_neg h', if_neg (by omega)]
end
section
def hf : Nat := (PP - 1) / 2
theorem PP_mod : PP % 4 = 3 := by decide +kernel
theorem PP_big : 1000 < PP := by decide +kernel
theorem hf_val : 2 * hf + 1 = PP := by have := PP_mod; unfold hf; omega
theorem hf_odd : hf % 2 = 1 := by have := PP_mod; have := hf_val; omega
theorem hf_pos : ∃ n, hf = n + 1 := ⟨hf - 1, by have := hf_val; have := PP_big; omega⟩
def FO (bs : List (BitVec 8)) : Bool := decide (bs.length = 48 ∧ BN bs 48 < PP)
def FV (bs : List (BitVec 8)) : Zp := if bs.length = 48 ∧ BN bs 48 < PP then zp (BN bs 48) else 0
end
section
theorem fermat2 {a : Zp} (h : a ≠ 0) : a ^ hf * a ^ hf = 1 := by
 rw [← padd, show hf + hf = PP - 1 by have := hf_val; omega, fermat h]
theorem one_neg : ¬ (1 : Zp) = -1 := fun h => by
 have h2 : (1 : Zp) + 1 = 0 := (congrArg (fun z => z + (1 : Zp)) h).trans (by grind)
 have h3 := congrArg Fin.val h2
 rw [Fin.val_add, show (1 : Zp).val = 1 % PP from rfl, Nat.mod_eq_of_lt pr_p.1, Nat.mod_eq_of_lt (by have := PP_big; omega)] at h3
 cases h3
theorem neg_odd (a : Zp) (n : Nat) : (-a) ^ (2 * n + 1) = -(a ^ (2 * n + 1)) := by
 rw [ps, ps, pmul, pmul, show (-a) ^ 2 = a ^ 2 by grind]; grind
theorem neg_hf (a : Zp) : (-a) ^ hf = -(a ^ hf) := by
 obtain ⟨n, hn⟩ : ∃ n, hf = 2 * n + 1 := ⟨hf / 2, by have := hf_odd; omega⟩
 rw [hn]; exact neg_odd a n
end
section
abbrev W2 := Zp × Zp
def ad2 (x y : W2) : W2 := (x.1 + y.1, x.2 + y.2)
def ng2 (x : W2) : W2 := (-x.1, -x.2)
def sb2 (x y : W2) : W2 := (x.1 - y.1, x.2 - y.2)
def ml2 (x y : W2) : W2 := (x.1 * y.1 - x.2 * y.2, x.1 * y.2 + x.2 * y.1)
def cj2 (x : W2) : W2 := (x.1, -x.2)
def sc2 (x : W2) (c : Zp) : W2 := (x.1 * c, x.2 * c)
def nm2 (x : W2) : Zp := x.1 * x.1 + x.2 * x.2
def iv2 (x : W2) : W2 := (x.1 * nm2 x ^ (PP - 2), -x.2 * nm2 x ^ (PP - 2))
def on2 : W2 := (1, 0)
def ze2 : W2 := (0, 0)
theorem w2_ext {x y : W2} (h1 : x.1 = y.1) (h2 : x.2 = y.2) : x = y := Prod.ext h1 h2
def R2 : Rg W2 where
 zero := ze2
 one := on2
 add := ad2
 mul := ml2
 neg := ng2
 add_assoc := fun a b c => w2_ext (by simp only [ad2]; grind) (by simp only [ad2]; grind)
 add_comm := fun a b => w2_ext (by simp only [ad2]; grind) (by simp only [ad2]; grind)
 add_zero := fun a => w2_ext (by simp only [ad2, ze2]; grind) (by simp only [ad2, ze2]; grind)
 add_neg := fun a => w2_ext (by simp only [ad2, ng2, ze2]; grind) (by simp only [ad2, ng2, ze2]; grind)
 mul_assoc := fun a b c => w2_ext (by simp only [ml2]; grind) (by simp only [ml2]; grind)
 mul_comm := fun a b => w2_ext (by simp only [ml2]; grind) (by simp only [ml2]; grind)
 mul_one := fun a => w2_ext (by simp only [ml2, on2]; grind) (by simp only [ml2, on2]; grind)
 mul_add := fun a b c => w2_ext (by simp only [ml2, ad2]; grind) (by simp only [ml2, ad2]; grind)
theorem sb2_eq (x y : W2) : sb2 x y = ad2 x (ng2 y) := w2_ext (by simp only [sb2, ad2, ng2]; grind) (by simp only [sb2, ad2, ng2]; grind)
/-! ### -1 is no square -/
theorem pow_pm1 {a : Zp} (h : a ≠ 0) : (a * a) ^ hf = 1 := by rw [mpow, fermat2 h]
theorem neg_zero1 {a : Zp} (h : 0 = -a) : a = 0 := by grind
theorem z_m0 (a : Zp) : a * 0 = 0 := by grind
theorem no_i {a b : Zp} (h : a * a + b * b = 0) : b = 0 := by
 by_cases hb : b = 0
 ·exact hb
 ·exfalso
  have e : a * a = -(b * b) := by grind
  have e2 : (a * a) ^ hf = -1 := by rw [e, neg_hf, pow_pm1 hb]
  by_cases ha : a = 0
  ·obtain ⟨n, hn⟩ := hf_pos
   rw [ha, z_m0, hn, zerop] at e2
   exact one_ne0 (neg_zero1 e2)
  ·rw [pow_pm1 ha] at e2
   exact one_neg e2
theorem nm2_zero {x : W2} (h : nm2 x = 0) : x = ze2 := by
 have h1 := no_i h
 have h2 := no_i (a := x.2) (b := x.1) (by rw [← h]; simp only [nm2]; grind)
 exact w2_ext h2 h1
theorem nm2_ne {x : W2} (h : x ≠ ze2) : nm2 x ≠ 0 := fun e => h (nm2_zero e)
theorem iv2_mul {x : W2} (h : x ≠ ze2) : ml2 x (iv2 x) = on2 := by
 have hz := zinv (nm2_ne h)
 have e : nm2 x = x.1 * x.1 + x.2 * x.2 := rfl
 have k : ∀ j : Zp, nm2 x * j = 1 → ml2 x (x.1 * j, -x.2 * j) = on2 := fun j hj => by
  rw [e] at hj
  refine w2_ext ?_ ?_
  ·simp only [ml2, on2]; grind
  ·simp only [ml2, on2]; grind
 exact k _ hz
/-! ### Powers -/
def pw2 (x : W2) (n : Nat) : W2 := R2.pw x n
/-! ### Roots -/
end
section
/-! ### Equality, signs -/
theorem dec2_t {x y : W2} (h : x.1 = y.1) : decide (x.2 = y.2) = decide (x = y) := decide_eq_decide.2 ⟨fun h' => w2_ext h h', fun h' => by rw [h']⟩
theorem dec2_f {x y : W2} (h : ¬ x.1 = y.1) : false = decide (x = y) := (decide_eq_false fun h' => h (by rw [h'])).symm
/-! ### Powers by digits -/
def fe2 (x : W2) : List (BitVec 64) := fe x.1 ++ fe x.2
theorem fe2_len (x : W2) : (fe2 x).length = 12 := by rw [fe2, List.length_append, fe_len, fe_len]
def SP2 (x : W2) (i : Nat) : List (BitVec 64) := FM (fun j => if j < i then fe2 (pw2 x j) else fe2 ze2) 16
theorem SP2_len (x : W2) (i : Nat) : (SP2 x i).length = 192 := FM_len _ _
/-! ### Roots -/
end
section
def XI : W2 := (1, 1)
abbrev W6 := W2 × W2 × W2
def K6 : Rg W6 := Rg.cub R2 XI
def VV : W6 := (ze2, on2, ze2)
abbrev W12 := W6 × W6
def K12 : Rg W12 := Rg.quad K6 VV
def th : Nat := (PP - 1) / 3
def sx : Nat := (PP - 1) / 6
/-! ### The power of p -/
def GA : W2 := pw2 XI sx
def FR12 (x : W12) : W12 := ((ml2 (cj2 x.1.1) (pw2 GA 0), ml2 (cj2 x.1.2.1) (pw2 GA 2), ml2 (cj2 x.1.2.2) (pw2 GA 4)), (ml2 (cj2 x.2.1) (pw2 GA 1), ml2 (cj2 x.2.2.1) (pw2 GA 3), ml2 (cj2 x.2.2.2) (pw2 GA 5)))
/-! ### Six parts, as the reference multiplies them -/
end
section
/-! ### Six parts turned -/
/-! ### Powers by bits, in any ring -/
end
section
/-! ### The chapter's examples -/
end
section
section
variable {α : Type} [DecidableEq α] (C : Ec α)
end
/-! ### Over p -/
def E2w : Ec W2 where
 R := R2
 iv := iv2
 b := (zp 4, zp 4)
 hi := fun _ h => iv2_mul h
 h2 := by decide +kernel
 h3 := by decide +kernel
 hb := by decide +kernel
def ORD : Nat := 0x73eda753299d7d483339d80809a1d80553bda402fffe5bfeffffffff00000001
end
section
structure Em {α β : Type} (C : Ec α) (D : Ec β) where
 f : α → β
 h0 : f C.R.zero = D.R.zero
 ha : ∀ a b, f (C.R.add a b) = D.R.add (f a) (f b)
 hm : ∀ a b, f (C.R.mul a b) = D.R.mul (f a) (f b)
 hn : ∀ a, f (C.R.neg a) = D.R.neg (f a)
 hi : ∀ a b, f a = f b → a = b
 hb : f C.b = D.b
section
variable {α β : Type} {C : Ec α} {D : Ec β} (e : Em C D)
def Em.q (p : α × α) : β × β := (e.f p.1, e.f p.2)
def Em.p : Pt α → Pt β
 | none => none
 | some p => some (e.q p)
theorem Em.sub (a b : α) : e.f (C.sub a b) = D.sub (e.f a) (e.f b) := by rw [Ec.sub, Ec.sub, e.ha, e.hn]
theorem Em.on {p : α × α} (h : C.on p) : D.on (e.q p) := by
 have := congrArg e.f h
 rw [e.hm, e.ha, e.hm, e.hm, e.hb] at this
 exact this
theorem Em.onP {P : Pt α} (h : C.onP P) : D.onP (e.p P) := by
 cases P with
 | none => trivial
 | some p => exact e.on h
theorem Em.sl {p q : α × α} {s : α} (h : C.Sl p q s) : D.Sl (e.q p) (e.q q) (e.f s) := by
 have h1 := congrArg e.f h.1
 have h2 := congrArg e.f h.2
 rw [e.hm, e.sub, e.sub] at h1
 rw [e.hm, e.ha, e.ha, e.ha, e.hm, e.hm, e.hm] at h2
 exact ⟨h1, h2⟩
theorem Em.opp {p q : α × α} : D.opp (e.q p) (e.q q) ↔ C.opp p q :=
 ⟨fun h => ⟨e.hi _ _ h.1, e.hi _ _ (by rw [e.ha, e.h0]; exact h.2)⟩, fun h => ⟨congrArg e.f h.1, by
  have := congrArg e.f h.2
  rw [e.ha, e.h0] at this
  exact this⟩⟩
theorem Em.th (p q : α × α) (s : α) : D.th (e.q p) (e.q q) (e.f s) = e.q (C.th p q s) := by
 have hx : D.x3 (e.q p) (e.q q) (e.f s) = e.f (C.x3 p q s) := by rw [Ec.x3, Ec.x3, e.sub, e.sub, e.hm]; rfl
 refine Prod.ext hx ?_
 show D.sub (D.R.mul (e.f s) (D.sub (e.f p.1) (D.x3 (e.q p) (e.q q) (e.f s)))) (e.f p.2) = e.f (C.sub (C.R.mul s (C.sub p.1 (C.x3 p q s))) p.2)
 rw [hx, e.sub, e.hm, e.sub]
theorem Em.ne (P : Pt α) : e.p (C.ne P) = D.ne (e.p P) := by
 cases P with
 | none => rfl
 | some p => exact congrArg some (Prod.ext rfl (e.hn _))
theorem Em.inj {P Q : Pt α} (h : e.p P = e.p Q) : P = Q := by
 cases P with
 | none =>
  cases Q with
  | none => rfl
  | some q => cases h
 | some p =>
  cases Q with
  | none => cases h
  | some q =>
   have h := Option.some.inj h
   exact congrArg some (Prod.ext (e.hi _ _ (congrArg Prod.fst h)) (e.hi _ _ (congrArg Prod.snd h)))
theorem Em.jr {J : α × α × α} {P : Pt α} (h : C.jr J P) : D.jr (e.f J.1, e.f J.2.1, e.f J.2.2) (e.p P) := by
 cases P with
 | none => exact (congrArg e.f h).trans e.h0
 | some p =>
  refine ⟨fun h' => h.1 (e.hi _ _ (h'.trans e.h0.symm)), ?_, ?_⟩
  ·have := congrArg e.f h.2.1
   rw [e.hm, Ec.z2, e.hm] at this
   exact this
  ·have := congrArg e.f h.2.2
   rw [e.hm, Ec.z3, e.hm, e.hm] at this
   exact this
end
section
variable {α β : Type} [DecidableEq α] [DecidableEq β] {C : Ec α} {D : Ec β} (e : Em C D)
theorem Em.ad {P Q : Pt α} (hP : C.onP P) (hQ : C.onP Q) : e.p (C.ad P Q) = D.ad (e.p P) (e.p Q) := by
 cases P with
 | none => rfl
 | some p =>
  cases Q with
  | none => rw [C.ad_nr]; exact (D.ad_nr _).symm
  | some q =>
   by_cases ho : C.opp p q
   ·rw [C.ad_opp ho]; exact (D.ad_opp (e.opp.2 ho)).symm
   ·obtain ⟨s, hs⟩ := C.sl_is hP hQ ho
    rw [C.ad_sl hP hQ ho hs]
    exact ((D.ad_sl (e.on hP) (e.on hQ) (fun h => ho (e.opp.1 h)) (e.sl hs)).trans (congrArg some (e.th p q s))).symm
theorem Em.times {P : Pt α} (hP : C.onP P) : ∀ n, e.p (C.times P n) = D.times (e.p P) n
 | 0 => rfl
 | n + 1 => by
  show e.p (C.ad (C.times P n) P) = D.ad (D.times (e.p P) n) (e.p P)
  rw [e.ad (C.times_on hP n) hP, Em.times hP n]
end
theorem z_s0' (a : Zp) : a - 0 = a := by grind
end
section
section
variable {α : Type} (C : Ec α)
theorem Ec.sc2 (a z c : α) : C.R.mul (C.R.mul a (C.z2 z)) (C.z2 c) = C.R.mul a (C.z2 (C.R.mul z c)) := zq C.R [a, z, c] (tm (tm j0 (tm j1 j1)) (tm j2 j2)) (tm j0 (tm (tm j1 j2) (tm j1 j2)))
end
section
variable {α : Type} [DecidableEq α] (C : Ec α)
end
end
section
section
variable {α : Type} [DecidableEq α] {C : Ec α} (T : Tw C)
end
/-! ### The first curve -/
end
section
def G2p : W2 × W2 := ((zp 0x24aa2b2f08f0a91260805272dc51051c6e47ad4fa403b02b4510b647ae3d1770bac0326a805bbefd48056c8c121bdb8, zp 0x13e02b6052719f607dacd3a088274f65596bd0d09920b61ab5da61bbdc7f5049334cf11213945d57e5ac7d055d042b7e), (zp 0xce5d527727d6e118cc9cdc6da2e351aadfd9baa8cbdd3a76d429a695160d12c923ac9cc3baca289e193548608b82801, zp 0x606c4a02ea734cc32acd2b02bc28b99cb3e287e85a763af267492ab572e99ab3f370d275cec1da1aaa9075ff05f79be))
theorem G2_on : E2w.on G2p := by
 unfold Ec.on
 decide +kernel
theorem g2_jr : E2w.jr (G2p.1, G2p.2, on2) (some G2p) := ⟨by decide +kernel, by decide +kernel, by decide +kernel⟩
end
section
section
variable {α β : Type} {C : Ec α} {D : Ec β} (T : Hw C D)
theorem Hw.f1 : T.f C.R.one = D.R.one := by
 have e : D.R.mul (T.f C.R.one) (D.sub (T.f C.R.one) D.R.one) = D.R.zero := by
  have k := T.fm C.R.one C.R.one
  rw [C.R.mul_one] at k
  exact Rg.lc (R := D.R) (zq D.R [T.f C.R.one] (ta (tm j0 (ta j0 (tn to1))) (tm (tn to1) (tm j0 j0))) (ta tz0 (tm (tn to1) j0))) (lcm k)
 exact D.sub0 ((D.fd.two e).resolve_left fun h => C.one_ne (T.fi _ h))
end
/-! ### Over p^12 -/
def re2 (a : Zp) : W2 := (a, 0)
end
section
section
variable {α : Type} [DecidableEq α] (C : Ec α)
theorem Ec.line {c x y : α} (hc : C.R.add (C.R.add (C.R.mul c c) c) C.R.one = C.R.zero) (hp : C.on (x, y)) (hq : C.on (C.R.mul c x, y)) : C.ad (C.ad (some (x, y)) (some (C.R.mul c x, y))) (some (C.R.mul c (C.R.mul c x), y)) = none := by
 have ho : ¬ C.opp (x, y) (C.R.mul c x, y) := by
  intro h
  have h1 : x = C.R.mul c x := h.1
  have hy : y = C.R.zero := C.dbl0 h.2
  have e : C.R.mul (C.R.add (C.R.add C.R.one C.R.one) C.R.one) x = C.R.zero := Rg.lc (R := C.R) (zq C.R [x, y, c] (ta (tm (ta (ta to1 to1) to1) j0) (ta (tm j0 tz0) (tm (ta (ta to1 to1) j2) (tm j2 j0)))) (ta tz0 (ta (tm j0 (ta (ta (tm j2 j2) j2) to1)) (tm (ta (ta to1 to1) j2) j0)))) (lca (lcm hc) (lcm h1))
  have hx : x = C.R.zero := (C.fd.two e).resolve_left C.h3
  subst hx hy
  have k : C.R.mul C.R.zero C.R.zero = C.R.add (C.R.mul C.R.zero (C.R.mul C.R.zero C.R.zero)) C.b := hp
  rw [C.R.mul_zero, C.R.mul_zero, C.R.zero_add] at k
  exact C.hb k.symm
 have hs : C.Sl (x, y) (C.R.mul c x, y) C.R.zero := by
  refine ⟨?_, ?_⟩
  ·show C.R.mul C.R.zero (C.R.add x (C.R.neg (C.R.mul c x))) = C.R.add y (C.R.neg y)
   exact zq C.R [x, y, c] (tm tz0 (ta j0 (tn (tm j2 j0)))) (ta j1 (tn j1))
  ·show C.R.mul C.R.zero (C.R.add y y) = C.R.add (C.R.add (C.R.mul x x) (C.R.mul x (C.R.mul c x))) (C.R.mul (C.R.mul c x) (C.R.mul c x))
   exact Rg.lc (R := C.R) (zq C.R [x, y, c] (ta (tm tz0 (ta j1 j1)) (tm (tn (tm j0 j0)) tz0)) (ta (ta (ta (tm j0 j0) (tm j0 (tm j2 j0))) (tm (tm j2 j0) (tm j2 j0))) (tm (tn (tm j0 j0)) (ta (ta (tm j2 j2) j2) to1)))) (lcm hc)
 rw [C.ad_sl hp hq ho hs]
 refine C.ad_opp ⟨?_, ?_⟩
 ·show C.R.add (C.R.add (C.R.mul C.R.zero C.R.zero) (C.R.neg x)) (C.R.neg (C.R.mul c x)) = C.R.mul c (C.R.mul c x)
  exact Rg.lc (R := C.R) (zq C.R [x, y, c] (ta (ta (ta (tm tz0 tz0) (tn j0)) (tn (tm j2 j0))) (tm (tn j0) tz0)) (ta (tm j2 (tm j2 j0)) (tm (tn j0) (ta (ta (tm j2 j2) j2) to1)))) (lcm hc)
 ·show C.R.add (C.R.add (C.R.mul C.R.zero _) (C.R.neg y)) y = C.R.zero
  rw [C.R.zero_mul, C.R.zero_add, C.R.add_comm, C.R.add_neg]
variable {C} (T : Tw C)
end
/-! ### The second curve -/
end
end Go.Proofs.YthkmeodnlidpfaaDoor
