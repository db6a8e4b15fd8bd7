/- Y3b -/
import Derived.Test.YtfgacclgjklgnaaGreatDoorY3a
import Derived.Test.YtfgacclgjklgnaaGreatDoorY3k
import Derived.Test.YtfgacclgjklgnaaGreatDoorY3m
namespace Go.Proofs.YtfgacclgjklgnaaGreatDoor
open Go.Proofs.Tryz
open Go.ChangeShapes Go.WideShapes Go.ChangeAt Go.RowKit
set_option maxRecDepth 100000
theorem pu:joinedFacts prog 4 Tryz.f4 Rows.blsLongSpec Rows.blsLongRow=true:=by
 unfold joinedFacts
 rw[nq,kX,mO,qm]
 kernel_rfl
theorem sY:Rows.BlsLongSaid:=
 OpenClaim.holds_of_wide 4 Tryz.f4 rfl rfl rfl rfl rfl rfl rfl ⟨rfl,rfl,rfl,rfl,rfl⟩ rfl rfl rfl rfl rfl kr func4 pu
  (of_decide_eq_true kr) (by unfold Func.isWrapper;first|(rw[if_pos (by decide+kernel)];kernel_rfl)|(rw[if_neg (by decide+kernel)];exact ⟨rfl,rfl⟩))
  (fun os started H enc _=>ot os started H enc)
end Go.Proofs.YtfgacclgjklgnaaGreatDoor
