/-
  The walk of pharosref1.Pad.
  The walks of pharosref1.Table and pharosref1.New.
  The walk of Maker.Sum.
  The document's sum is SHA: the reference's words, rounds and blocks against the program's.
-/
import Derived.Test.YtlimfhjjadbjgaaDoorQ2
import Derived.Test.YtlimfhjjadbjgaaDoorX2
namespace Go.Proofs.YtlimfhjjadbjgaaDoor
open Go.RowKit
set_option maxRecDepth 100000
set_option maxHeartbeats 1000000
namespace Sh
end Sh
end Go.Proofs.YtlimfhjjadbjgaaDoor

namespace Go.Proofs.YtlimfhjjadbjgaaDoor
open Go.RowKit
set_option maxRecDepth 100000
namespace Sh
/-- What a Maker holds. -/
def MK : List (BitVec 32) := IV ++ KW

end Sh
end Go.Proofs.YtlimfhjjadbjgaaDoor

namespace Go.Proofs.YtlimfhjjadbjgaaDoor
open Go.RowKit
set_option maxRecDepth 100000
set_option maxHeartbeats 2000000
namespace Sh
def wk (p : List (BitVec 8)) (o : Nat) (x : BitVec 32) : Nat → BitVec 32
  | 0 => x
  | k + 1 => (wk p o x k <<< 8) ||| (p.getD (o + k) 0).setWidth 32
def V1 (p : List (BitVec 8)) (q : Nat) : Nat → List (BitVec 32)
  | 0 => List.replicate 64 0#32
  | i + 1 => (V1 p q i).set i (wk p (q + 4 * i) ((V1 p q i).getD i 0) 4)
theorem set_same (l : List (BitVec 32)) (i : Nat) (h : i < l.length) : l = l.set i (l.getD i 0) := by
  have e : l.getD i 0 = l[i] := by simp [h]
  rw [e, List.set_getElem_self]
theorem getD_set (l : List (BitVec 32)) (i : Nat) (x : BitVec 32) (h : i < l.length) : (l.set i x).getD i 0 = x := by simp [h]
def r0 (x : BitVec 32) : BitVec 32 := turn x 7 ^^^ turn x 18 ^^^ (x >>> 3)
def r1 (x : BitVec 32) : BitVec 32 := turn x 17 ^^^ turn x 19 ^^^ (x >>> 10)
theorem MK_len : MK.length = 72 := rfl
end Sh
end Go.Proofs.YtlimfhjjadbjgaaDoor

namespace Go.Proofs.YtlimfhjjadbjgaaDoor
open Go.RowKit
set_option maxRecDepth 100000

namespace Sh
end Sh
end Go.Proofs.YtlimfhjjadbjgaaDoor
