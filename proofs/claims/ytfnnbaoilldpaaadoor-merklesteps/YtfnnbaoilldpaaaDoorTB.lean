/-
  The document's noughts, depths, trees and roots.
-/
import Derived.Test.YtfnnbaoilldpaaaDoorTA
namespace Go.Proofs.YtfnnbaoilldpaaaDoor
open Go.RowKit
set_option maxRecDepth 100000
set_option maxHeartbeats 1000000
open Sh
theorem shl1_i (t : TypeId) (k : Nat) (hk : k ≤ 62) (w : World) : (binOp .shl t (I 1) (I (k : Int))).run Tryd.prog w = .ok (I ((2 ^ k : Nat) : Int)) w := by
  have hlt : 2 ^ k ≤ 2 ^ 62 := Nat.pow_le_pow_right (by decide) hk
  have h62 : 2 ^ 62 = 4611686018427387904 := by decide
  show (Op.shift .shl .i64 (1 : Int) .i64 (k : Int)).run Tryd.prog w = _
  unfold Op.shift
  rw [if_neg (by omega)]
  show Result.ok (Value.int .i64 (IntKind.wrap .i64 ((1 : Int) * 2 ^ (min (k : Int).toNat 64)))) w = _
  rw [Int.toNat_natCast, Nat.min_eq_left (by omega), Int.one_mul]
  have e : (2 : Int) ^ k = ((2 ^ k : Nat) : Int) := by simp
  have hpos := Nat.two_pow_pos k
  rw [e, wrap_i64 _ (by unfold inI; omega)]
end Go.Proofs.YtfnnbaoilldpaaaDoor
