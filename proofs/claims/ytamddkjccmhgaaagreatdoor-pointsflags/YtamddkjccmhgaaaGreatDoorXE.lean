/-
  What the laws of layer 10 share, of the first group: the document's points of the program's; Lift.
  What the laws of layer 10 share, of the second group: the document's points of the program's; Lift.
-/
import Derived.Test.YtamddkjccmhgaaaGreatDoorXD
import Derived.Test.YtamddkjccmhgaaaGreatDoorX3
namespace Go.Proofs.YtamddkjccmhgaaaGreatDoor
open Go.RowKit
set_option maxRecDepth 100000
set_option maxHeartbeats 1000000
attribute [local simp] fe_len nm_len AS_len SS_len MONT_len RM_len FRs_len BYs_len by48_len PLl TWOl ONEl N1l IVPl HFPl RTPl FL_len SP_len fe2_len SP2_len FM_len J1.GL_len

namespace J1
theorem neg_neg0 (a : Zp) : -(-a) = a := by grind
end J1
end Go.Proofs.YtamddkjccmhgaaaGreatDoor

namespace Go.Proofs.YtamddkjccmhgaaaGreatDoor
open Go.RowKit
set_option maxRecDepth 100000
set_option maxHeartbeats 1000000
attribute [local simp] fe_len nm_len AS_len SS_len MONT_len RM_len FRs_len BYs_len by48_len PLl TWOl ONEl N1l IVPl HFPl RTPl FL_len SP_len fe2_len SP2_len FM_len J2.GL_len

namespace J2
end J2
end Go.Proofs.YtamddkjccmhgaaaGreatDoor
