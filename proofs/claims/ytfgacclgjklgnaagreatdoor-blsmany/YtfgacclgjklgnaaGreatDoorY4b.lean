/- Y4b -/
import Derived.Test.YtfgacclgjklgnaaGreatDoorY4a
import Derived.Test.YtfgacclgjklgnaaGreatDoorY4k
import Derived.Test.YtfgacclgjklgnaaGreatDoorY4m
namespace Go.Proofs.YtfgacclgjklgnaaGreatDoor
open Go.Proofs.Tryz
open Go.ChangeShapes Go.WideShapes Go.ChangeAt Go.RowKit
set_option maxRecDepth 100000
theorem pt:joinedFacts prog 9 Tryz.f9 Rows.blsManySpec Rows.blsManyRow=true:=by
 unfold joinedFacts
 rw[nH,lf,mU,qB]
 kernel_rfl
theorem rz:Rows.BlsManySaid:=
 OpenClaim.holds_of_wide 9 Tryz.f9 rfl rfl rfl rfl rfl rfl rfl ⟨rfl,rfl,rfl,rfl,rfl⟩ rfl rfl rfl rfl rfl kr func9 pt
  (of_decide_eq_true kr) (by unfold Func.isWrapper;first|(rw[if_pos (by decide+kernel)];kernel_rfl)|(rw[if_neg (by decide+kernel)];exact ⟨rfl,rfl⟩))
  (fun os started H enc _=>o7 os started H enc)
end Go.Proofs.YtfgacclgjklgnaaGreatDoor
