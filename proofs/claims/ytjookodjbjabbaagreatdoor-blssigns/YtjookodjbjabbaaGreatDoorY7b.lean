/- Y7b -/
import Derived.Test.YtjookodjbjabbaaGreatDoorY7a
import Derived.Test.YtjookodjbjabbaaGreatDoorY7k
import Derived.Test.YtjookodjbjabbaaGreatDoorY7m
namespace Go.Proofs.YtjookodjbjabbaaGreatDoor
open Go.Proofs.Tryz
open Go.ChangeShapes Go.WideShapes Go.ChangeAt Go.RowKit
set_option maxRecDepth 100000
theorem o0:joinedFacts prog 3 Tryz.f3 Rows.blsSignsSpec Rows.blsSignsRow=true:=by
 unfold joinedFacts
 rw[n4,lZ,mY,rF]
 kernel_rfl
theorem sA:Rows.BlsSignsSaid:=
 OpenClaim.holds_of_wide 3 Tryz.f3 rfl rfl rfl rfl rfl rfl rfl ⟨rfl,rfl,rfl,rfl,rfl⟩ rfl rfl rfl rfl rfl kr func3 o0
  (of_decide_eq_true kr) (by unfold Func.isWrapper;first|(rw[if_pos (by decide+kernel)];kernel_rfl)|(rw[if_neg (by decide+kernel)];exact ⟨rfl,rfl⟩))
  (fun os started H enc _=>o7 os started H enc)
end Go.Proofs.YtjookodjbjabbaaGreatDoor
