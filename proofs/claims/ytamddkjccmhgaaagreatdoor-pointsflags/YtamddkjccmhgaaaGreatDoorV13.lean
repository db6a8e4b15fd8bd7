/-
  The law PointsBack.
-/
import Derived.Test.YtamddkjccmhgaaaGreatDoorV12
namespace Go.Proofs.YtamddkjccmhgaaaGreatDoor
open Go.RowKit
set_option maxRecDepth 100000
set_option maxHeartbeats 1000000
attribute [local simp] fe_len nm_len AS_len SS_len MONT_len RM_len FRs_len BYs_len by48_len PLl TWOl ONEl N1l IVPl HFPl RTPl FL_len SP_len fe2_len SP2_len FM_len J1.GL_len J2.GL_len MK_len OR0_len EN1_len EN2_len

theorem ord1_mul (bs : List (BitVec 8)) : E1.times (J1.gMul J1.gGen bs).P ORD = none := by
  show E1.times (E1.times (some G1p) (BN bs bs.length)) ORD = none
  generalize BN bs bs.length = m
  have h := g1_order
  revert h
  generalize ORD = k
  intro h
  rw [E1.times_comm G1_on' m k, h]
  exact E1.times_none m
theorem ord1_neg {p : J1.GP} (h : E1.times p.P ORD = none) : E1.times (J1.gNeg p).P ORD = none := by
  show E1.times (E1.ne p.P) ORD = none
  revert h
  generalize ORD = k
  intro h
  rw [E1.times_ne p.on, h]; rfl
end Go.Proofs.YtamddkjccmhgaaaGreatDoor
