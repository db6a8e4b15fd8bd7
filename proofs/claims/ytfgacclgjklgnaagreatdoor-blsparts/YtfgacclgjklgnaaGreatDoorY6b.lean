/- Y6b -/
import Derived.Test.YtfgacclgjklgnaaGreatDoorY6a
import Derived.Test.YtfgacclgjklgnaaGreatDoorY6k
import Derived.Test.YtfgacclgjklgnaaGreatDoorY6m
namespace Go.Proofs.YtfgacclgjklgnaaGreatDoor
open Go.Proofs.Tryz
open Go.ChangeShapes Go.WideShapes Go.ChangeAt Go.RowKit
set_option maxRecDepth 100000
theorem nX:joinedFacts prog 10 Tryz.f10 Rows.blsPartsSpec Rows.blsPartsRow=true:=by
 unfold joinedFacts
 rw[mP,kP,l9,qq]
 kernel_rfl
theorem qL:Rows.BlsPartsSaid:=
 OpenClaim.holds_of_wide 10 Tryz.f10 rfl rfl rfl rfl rfl rfl rfl ⟨rfl,rfl,rfl,rfl,rfl⟩ rfl rfl rfl rfl rfl kr func10 nX
  (of_decide_eq_true kr) (by unfold Func.isWrapper;first|(rw[if_pos (by decide+kernel)];kernel_rfl)|(rw[if_neg (by decide+kernel)];exact ⟨rfl,rfl⟩))
  (fun os started H enc _=>nP os started H enc)
end Go.Proofs.YtfgacclgjklgnaaGreatDoor
