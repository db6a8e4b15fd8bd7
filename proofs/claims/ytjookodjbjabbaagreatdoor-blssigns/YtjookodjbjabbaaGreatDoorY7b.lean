/- Y7b -/
import Derived.Test.YtjookodjbjabbaaGreatDoorY7a
import Derived.Test.YtjookodjbjabbaaGreatDoorY7k
import Derived.Test.YtjookodjbjabbaaGreatDoorY7m
namespace Go.Proofs.YtjookodjbjabbaaGreatDoor
open Go.Proofs.Tryz
open Go.ChangeShapes Go.WideShapes Go.ChangeAt Go.RowKit
set_option maxRecDepth 100000
theorem nY:joinedFacts prog 3 Tryz.f3 Rows.blsSignsSpec Rows.blsSignsRow=true:=by
 unfold joinedFacts;rw[mY,k4,me,qa]
 kernel_rfl
theorem qV:Rows.BlsSignsSaid:=
 OpenClaim.holds_of_wide 3 Tryz.f3 O O O O O O O ⟨rfl,rfl,rfl,rfl,rfl⟩ O O O O O kr func3 nY
  (of_decide_eq_true kr) (by unfold Func.isWrapper;first|(rw[if_pos (by decide+kernel)];kernel_rfl)|(rw[if_neg (by decide+kernel)];exact ⟨rfl,rfl⟩))
  (λos started H enc _=>n9 os started H enc)
end Go.Proofs.YtjookodjbjabbaaGreatDoor
