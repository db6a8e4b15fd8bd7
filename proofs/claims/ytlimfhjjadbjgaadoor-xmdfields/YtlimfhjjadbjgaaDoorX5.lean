/-
  What is known of the package-level variables.
  Powers by digits of four bits, and by bits. Nothing here names a program.
  Signs, roots, numbers of many bytes: as functions of elements. Nothing here names a program.
  What the laws of layer 3 say of elements. Nothing here names a program.
  The field of p^2 elements: a + b i. Nothing here names a program.
  What the walks of package fp2 meet: signs, powers, roots. Nothing here names a program.
-/
import Derived.Test.YtlimfhjjadbjgaaDoorX4
import Derived.Test.YtlimfhjjadbjgaaDoorRows
import Derived.Test.YtlimfhjjadbjgaaDoorX3
namespace Go.Proofs.YtlimfhjjadbjgaaDoor
open Go.RowKit
set_option maxRecDepth 100000
def KW : List (BitVec 32) := [0x428a2f98#32, 0x71374491#32, 0xb5c0fbcf#32, 0xe9b5dba5#32, 0x3956c25b#32, 0x59f111f1#32, 0x923f82a4#32, 0xab1c5ed5#32, 0xd807aa98#32, 0x12835b01#32, 0x243185be#32, 0x550c7dc3#32, 0x72be5d74#32, 0x80deb1fe#32, 0x9bdc06a7#32, 0xc19bf174#32, 0xe49b69c1#32, 0xefbe4786#32, 0xfc19dc6#32, 0x240ca1cc#32, 0x2de92c6f#32, 0x4a7484aa#32, 0x5cb0a9dc#32, 0x76f988da#32, 0x983e5152#32, 0xa831c66d#32, 0xb00327c8#32, 0xbf597fc7#32, 0xc6e00bf3#32, 0xd5a79147#32, 0x6ca6351#32, 0x14292967#32, 0x27b70a85#32, 0x2e1b2138#32, 0x4d2c6dfc#32, 0x53380d13#32, 0x650a7354#32, 0x766a0abb#32, 0x81c2c92e#32, 0x92722c85#32, 0xa2bfe8a1#32, 0xa81a664b#32, 0xc24b8b70#32, 0xc76c51a3#32, 0xd192e819#32, 0xd6990624#32, 0xf40e3585#32, 0x106aa070#32, 0x19a4c116#32, 0x1e376c08#32, 0x2748774c#32, 0x34b0bcb5#32, 0x391c0cb3#32, 0x4ed8aa4a#32, 0x5b9cca4f#32, 0x682e6ff3#32, 0x748f82ee#32, 0x78a5636f#32, 0x84c87814#32, 0x8cc70208#32, 0x90befffa#32, 0xa4506ceb#32, 0xbef9a3f7#32, 0xc67178f2#32]
def IVP : List (BitVec 64) := [0xb9feffffffffaaa9#64, 0x1eabfffeb153ffff#64, 0x6730d2a0f6b0f624#64, 0x64774b84f38512bf#64, 0x4b1ba7b6434bacd7#64, 0x1a0111ea397fe69a#64]
def HFP : List (BitVec 64) := [0xdcff7fffffffd555#64, 0xf55ffff58a9ffff#64, 0xb39869507b587b12#64, 0xb23ba5c279c2895f#64, 0x258dd3db21a5d66b#64, 0xd0088f51cbff34d#64]
def RTP : List (BitVec 64) := [0xee7fbfffffffeaab#64, 0x7aaffffac54ffff#64, 0xd9cc34a83dac3d89#64, 0xd91dd2e13ce144af#64, 0x92c6e9ed90d2eb35#64, 0x680447a8e5ff9a6#64]
/-- The package-level variables read as the program's text lays them. -/
structure Gt (w : World) : Prop where
  g0 : w.rangeAt 0 0 (TWO.map U64)
  g1 : w.rangeAt 1 0 (KW.map U32)
  g2 : w.rangeAt 2 0 (PL.map U64)
theorem range_same {w w' : World} {b : Nat} {cs : List Value} (hk : w'.heap[b]? = w.heap[b]?) (h : w.rangeAt b 0 cs) : w'.rangeAt b 0 cs := fun j v hv => by
  rw [World.cell?_of_block (w := w) hk]
  exact h j v hv
theorem gt_low : GLow Gt 3 where
  size := fun w h => by
    have := block_lt_of_cell (h.g2 0 _ (by rfl : (PL.map U64)[0]? = some (U64 0xb9feffffffffaaab#64)))
    exact this
  same := fun w w' hk h => ⟨range_same (hk 0 (by omega)) h.g0, range_same (hk 1 (by omega)) h.g1, range_same (hk 2 (by omega)) h.g2⟩
theorem mixed : Tryd.prog.follows .mixedOrders = true := by kernel_rfl
end Go.Proofs.YtlimfhjjadbjgaaDoor

namespace Go.Proofs.YtlimfhjjadbjgaaDoor
set_option maxRecDepth 100000
/-! ### Sixteen powers -/
end Go.Proofs.YtlimfhjjadbjgaaDoor

namespace Go.Proofs.YtlimfhjjadbjgaaDoor
set_option maxRecDepth 100000
def hf : Nat := (PP - 1) / 2
theorem PP_big : 1000 < PP := by decide +kernel
def ZB (bs : List (BitVec 8)) : Zp := zp (BN bs bs.length)
theorem R6_256g {k : Nat} (h : R6 = 2 ^ k) (hk : k = 8 * 48) : R6 = 256 ^ 48 := by rw [pow256, h, hk]
theorem R6_256 : R6 = 256 ^ 48 := R6_256g R6_def rfl
theorem wide_step (bs : List (BitVec 8)) (k cut : Nat) (h : k = 0 ∨ cut = 48) : zp (BN bs k) * RZ + zp (BN (bs.drop k) cut) = zp (BN bs (k + cut)) := by
  rw [BN_add bs k cut, zp_add, zp_mul]
  rcases h with rfl | rfl
  · rw [BN, zp_0]; grind
  · rw [← R6_256]; rfl
theorem cut_of {n : Nat} (h0 : 0 < n) (h : n % 48 = 0) : (n - 1) % 48 + 1 = 48 := by omega
theorem cut_rest {n : Nat} (h0 : 0 < n) : (n - ((n - 1) % 48 + 1)) % 48 = 0 ∧ (n - 1) % 48 + 1 ≤ n ∧ (n - 1) % 48 + 1 ≤ 48 := by omega
theorem BN_take (bs : List (BitVec 8)) (n : Nat) : BN (bs.take n) n = BN bs n := BN_congr n fun i hi => by
  rw [List.getD_eq_getElem?_getD, List.getD_eq_getElem?_getD, List.getElem?_take, if_pos hi]
end Go.Proofs.YtlimfhjjadbjgaaDoor

namespace Go.Proofs.YtlimfhjjadbjgaaDoor
set_option maxRecDepth 100000
end Go.Proofs.YtlimfhjjadbjgaaDoor

namespace Go.Proofs.YtlimfhjjadbjgaaDoor
set_option maxRecDepth 100000
abbrev W2 := Zp × Zp
def ad2 (x y : W2) : W2 := (x.1 + y.1, x.2 + y.2)
def ng2 (x : W2) : W2 := (-x.1, -x.2)
def ml2 (x y : W2) : W2 := (x.1 * y.1 - x.2 * y.2, x.1 * y.2 + x.2 * y.1)
def on2 : W2 := (1, 0)
def ze2 : W2 := (0, 0)
theorem w2_ext {x y : W2} (h1 : x.1 = y.1) (h2 : x.2 = y.2) : x = y := Prod.ext h1 h2
def R2 : Rg W2 where
  zero := ze2
  one := on2
  add := ad2
  mul := ml2
  neg := ng2
  add_assoc := fun a b c => w2_ext (by simp only [ad2]; grind) (by simp only [ad2]; grind)
  add_comm := fun a b => w2_ext (by simp only [ad2]; grind) (by simp only [ad2]; grind)
  add_zero := fun a => w2_ext (by simp only [ad2, ze2]; grind) (by simp only [ad2, ze2]; grind)
  add_neg := fun a => w2_ext (by simp only [ad2, ng2, ze2]; grind) (by simp only [ad2, ng2, ze2]; grind)
  mul_assoc := fun a b c => w2_ext (by simp only [ml2]; grind) (by simp only [ml2]; grind)
  mul_comm := fun a b => w2_ext (by simp only [ml2]; grind) (by simp only [ml2]; grind)
  mul_one := fun a => w2_ext (by simp only [ml2, on2]; grind) (by simp only [ml2, on2]; grind)
  mul_add := fun a b c => w2_ext (by simp only [ml2, ad2]; grind) (by simp only [ml2, ad2]; grind)
/-! ### -1 is no square -/
/-! ### Powers -/
/-! ### Roots -/
end Go.Proofs.YtlimfhjjadbjgaaDoor

namespace Go.Proofs.YtlimfhjjadbjgaaDoor
set_option maxRecDepth 100000
/-! ### Equality, signs -/
/-! ### Powers by digits -/
/-! ### Roots -/
end Go.Proofs.YtlimfhjjadbjgaaDoor
