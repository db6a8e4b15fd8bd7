/-
  The laws PointsDecode1, PointsDecode2.
-/
import Derived.Test.YtamddkjccmhgaaaGreatDoorV11
namespace Go.Proofs.YtamddkjccmhgaaaGreatDoor
open Go.RowKit
set_option maxRecDepth 100000
set_option maxHeartbeats 1000000
attribute [local simp] fe_len nm_len AS_len SS_len MONT_len RM_len FRs_len BYs_len by48_len PLl TWOl ONEl N1l IVPl HFPl RTPl FL_len SP_len fe2_len SP2_len FM_len J1.GL_len J2.GL_len MK_len OR0_len EN1_len EN2_len

end Go.Proofs.YtamddkjccmhgaaaGreatDoor
