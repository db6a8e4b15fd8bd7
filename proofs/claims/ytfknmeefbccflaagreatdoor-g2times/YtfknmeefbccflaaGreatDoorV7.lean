/-
  The laws G2Groups, G2Times.
-/
import Derived.Test.YtfknmeefbccflaaGreatDoorV6
namespace Go.Proofs.YtfknmeefbccflaaGreatDoor
open Go.RowKit
set_option maxRecDepth 100000
set_option maxHeartbeats 1000000
attribute [local simp] fe_len nm_len AS_len SS_len MONT_len RM_len FRs_len BYs_len by48_len PLl TWOl ONEl N1l IVPl HFPl RTPl FL_len SP_len fe2_len SP2_len FM_len GL_len

theorem BN_app (xs ys : List (BitVec 8)) : BN (xs ++ ys) (xs ++ ys).length = BN xs xs.length * 256 ^ ys.length + BN ys ys.length := by
  rw [List.length_append, BN_add]
  congr 1
  · congr 1
    refine BN_congr _ fun i hi => ?_
    rw [List.getD_eq_getElem?_getD, List.getD_eq_getElem?_getD, List.getElem?_append_left hi]
  · rw [List.drop_left]
theorem BN_zeros (bs : List (BitVec 8)) : BN ([0#8, 0#8] ++ bs) ([0#8, 0#8] ++ bs).length = BN bs bs.length := by
  rw [BN_app, show BN [0#8, 0#8] ([0#8, 0#8] : List (BitVec 8)).length = 0 from rfl, Nat.zero_mul, Nat.zero_add]
theorem ti5x : TI Tryz.prog 5 (.int .u8 0) 1 1 := ti_mk (by kernel_rfl)
end Go.Proofs.YtfknmeefbccflaaGreatDoor
