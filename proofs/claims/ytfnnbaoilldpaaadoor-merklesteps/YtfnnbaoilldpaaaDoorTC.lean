/-
  The document's roots; what a branch comes to; whether it proves.
-/
import Derived.Test.YtfnnbaoilldpaaaDoorTB
namespace Go.Proofs.YtfnnbaoilldpaaaDoor
open Go.RowKit
set_option maxRecDepth 100000
set_option maxHeartbeats 1000000
open Sh
theorem eqg29 (op : BinOp) (x y : Operand) (xs ys : Array Value) (w : World) : (eqGuard op 29 x y (.agg xs) (.agg ys)).run Tryd.prog w = .ok () w := run_eqGuard_agg w op 29 x y xs ys (by kernel_rfl)
theorem eqv29 (xs ys : List (BitVec 8)) (h : xs.length = 32) (h' : ys.length = 32) (w : World) : (binOp .eql 29 (.agg (xs.map U8).toArray) (.agg (ys.map U8).toArray)).run Tryd.prog w = .ok (.bool (decide (xs = ys))) w := bin_eq8 Tryd.underlying29 Tryd.underlying5 Tryd.sizeOf5 Tryd.isAgg5 xs ys h h' w
theorem bitU (x : BitVec 64) (i : Nat) : (x >>> i &&& 1#64 == 1#64) = x.toNat.testBit i := by
  rw [BitVec.testBit_toNat]
  have h : (x >>> i).getLsbD 0 = x.getLsbD i := by simp
  rw [← h, BitVec.and_one_eq_setWidth_ofBool_getLsbD]
  cases (x >>> i).getLsbD 0 <;> decide
theorem fldL {i : Nat} (l : List Rt) (k : Nat) (v : Rt) (h : v.length = 32) : (fld P2 i k v l).length = 32 := fld_len P2 (Q := fun x => x.length = 32) P2_len l k v h
/-- Whether a branch proves a leaf at a place under a root. -/
def vfy (leaf : Rt) (b : List Rt) (x : BitVec 64) (root : Rt) : Bool := decide (fld P2 x.toNat 0 leaf b = root) && (decide (64 ≤ b.length) || x >>> b.length == 0#64)
theorem bldZ (w : World) : (Instr.build 29 #[]).run Tryd.prog w = .ok (.agg (Z0.map U8).toArray) w := by
  simp [Instr.build, run_underlying Tryd.underlying29, Tryd.sizeOf5, Value.cells, Instr.fill]; rfl
end Go.Proofs.YtfnnbaoilldpaaaDoor
