/-
  Pairs; the document's pairs of numbers.
  The document's Fields.
  The law XmdFields.
-/
import Derived.Test.YtlimfhjjadbjgaaDoorQ4
import Derived.Test.YtlimfhjjadbjgaaDoorX9
import Derived.Test.YtlimfhjjadbjgaaDoorX5
import Derived.Test.YtlimfhjjadbjgaaDoorX3
namespace Go.Proofs.YtlimfhjjadbjgaaDoor
open Go.RowKit
set_option maxRecDepth 100000
set_option maxHeartbeats 1000000
attribute [local simp] fe_len nm_len AS_len SS_len MONT_len RM_len FRs_len BYs_len by48_len PLl TWOl ONEl N1l IVPl HFPl RTPl List.length_append WDs_len

theorem ent15 : Enters Tryd.prog 15 := fun _ _ => by kernel_rfl
/-- An element of fp2 as a value. -/
abbrev EV2 (x : W2) : Value := .agg ((fe x.1 ++ fe x.2).map U64).toArray
theorem zf50 (w : World) : (zeroValue 50).run Tryd.prog w = .ok (.agg ((fe 0).map U64).toArray) w := by rw [fe_0]; exact (Tryd.zeroValue50 w).trans (by rfl)
theorem zv52 (w : World) : (zeroValue 52).run Tryd.prog w = .ok (.agg ((fe 0 ++ fe 0).map U64).toArray) w := by rw [fe_0]; exact (Tryd.zeroValue52 w).trans (by rfl)
theorem two52 : Two Tryd.prog 52 ⟨ "C0", 50, 0, false, "", "", 0⟩ ⟨ "C1", 50, 6, false, "", "", 48⟩ 6 6 (fe 0) (fe 0) := ⟨Tryd.underlying52, rfl, rfl, Tryd.sizeOf50, Tryd.sizeOf50, zv52, fe_len 0, fe_len 0⟩
namespace Xm
end Xm
end Go.Proofs.YtlimfhjjadbjgaaDoor

namespace Go.Proofs.YtlimfhjjadbjgaaDoor
open Go.RowKit
set_option maxRecDepth 100000
set_option maxHeartbeats 1000000
attribute [local simp] fe_len nm_len AS_len SS_len MONT_len RM_len FRs_len BYs_len by48_len PLl TWOl ONEl N1l IVPl HFPl RTPl List.length_append WDs_len RW_len
namespace Xm
attribute [local simp] Sh.SHA_len B0_len F_len R_len Xk_len O_len Sh.MK_len D_len

/-- The i-th pair of numbers. -/
def N2 (bs : List (BitVec 8)) (i : Nat) : W2 := (ZB ((bs.drop (128 * i)).take 64), ZB ((bs.drop (128 * i + 64)).take 64))
def N2r (bs : List (BitVec 8)) (i : Nat) : List (BitVec 64) := fe (N2 bs i).1 ++ fe (N2 bs i).2
theorem N2r_len (bs : List (BitVec 8)) (i : Nat) : (N2r bs i).length = 12 := by rw [N2r, List.length_append, fe_len, fe_len]
/-- Pairs in a slice. -/
def At2 (w : World) (a : Option Addr) (n : Nat) (f : Nat → List (BitVec 64)) : Prop := n = 0 ∨ ∃ b, a = some ⟨b, 0, none⟩ ∧ w.rangeAt b 0 ((RW 12 (f) n).map U64)
def FBad (msg dst : List (BitVec 8)) (z : Int) : Prop := z < 0 ∨ 32 < z ∨ 255 < dst.length ∨ 65536 < msg.length
structure RFt (msg dst : List (BitVec 8)) (z : Int) (w : World) (v : Value) : Prop where
  bad : FBad msg dst z → v = .tuple #[.slice none 0 0, I 130]
  ok : ¬ FBad msg dst z → ∃ a cap, v = .tuple #[.slice a z.toNat cap, I 0] ∧ At2 w a z.toNat (N2r (E msg dst (128 * z.toNat)))
attribute [local simp] N2r_len
end Xm
end Go.Proofs.YtlimfhjjadbjgaaDoor

namespace Go.Proofs.YtlimfhjjadbjgaaDoor
open Go.RowKit
set_option maxRecDepth 100000
set_option maxHeartbeats 1000000
attribute [local simp] fe_len nm_len AS_len SS_len MONT_len RM_len FRs_len BYs_len by48_len PLl TWOl ONEl N1l IVPl HFPl RTPl List.length_append WDs_len RW_len
namespace Xm
attribute [local simp] Sh.SHA_len B0_len F_len R_len Xk_len O_len Sh.MK_len D_len
attribute [local simp] N2r_len

theorem range_grow {w w' : World} {b : Nat} {cs : List Value} (h : w.rangeAt b 0 cs) (hg : Grow w w') : w'.rangeAt b 0 cs := fun j v hv => (hg.cell (block_lt_of_cell (h j v hv))).trans (h j v hv)
/-- What the program's Fields is asked for. -/
def PFC : Prop := ∀ (a1 : Option Addr) (cap1 : Nat) (msg : List (BitVec 8)) (a2 : Option Addr) (cap2 : Nat) (dst : List (BitVec 8)) (z : Int) (w : World), msg.length ≤ 100000 → msg.length ≤ cap1 → dst.length ≤ 100000 → dst.length ≤ cap2 → Gt w → BytesAt w a1 msg → BytesAt w a2 dst → Calls Tryd.prog 12 [.slice a1 msg.length cap1, .slice a2 dst.length cap2, I z].toArray w (fun e w' => ∃ v, e = .returned v ∧ Grow w w' ∧ RFt msg dst z w' v)
end Xm
end Go.Proofs.YtlimfhjjadbjgaaDoor
