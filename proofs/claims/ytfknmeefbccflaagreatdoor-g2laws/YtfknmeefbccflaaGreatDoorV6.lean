/-
  The law G2Adds.
-/
import Derived.Test.YtfknmeefbccflaaGreatDoorV5
import Derived.Test.YtfknmeefbccflaaGreatDoorX3
namespace Go.Proofs.YtfknmeefbccflaaGreatDoor
open Go.RowKit
set_option maxRecDepth 100000
set_option maxHeartbeats 1000000
attribute [local simp] fe_len nm_len AS_len SS_len MONT_len RM_len FRs_len BYs_len by48_len PLl TWOl ONEl N1l IVPl HFPl RTPl FL_len SP_len fe2_len SP2_len FM_len GL_len

end Go.Proofs.YtfknmeefbccflaaGreatDoor
