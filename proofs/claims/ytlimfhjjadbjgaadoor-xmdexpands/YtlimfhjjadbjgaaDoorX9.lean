/-
  The document's numbers of many bytes.
-/
import Derived.Test.YtlimfhjjadbjgaaDoorX8
import Derived.Test.YtlimfhjjadbjgaaDoorX7
namespace Go.Proofs.YtlimfhjjadbjgaaDoor
open Go.RowKit
set_option maxRecDepth 100000
set_option maxHeartbeats 1000000
attribute [local simp] fe_len nm_len AS_len SS_len MONT_len RM_len FRs_len BYs_len by48_len PLl TWOl ONEl N1l IVPl HFPl RTPl WDs_len

/-! ### The reference's numbers of many bytes -/
end Go.Proofs.YtlimfhjjadbjgaaDoor
