/- Y7b -/
import Derived.Test.YtjookodjbjabbaaGreatDoorY7a
import Derived.Test.YtjookodjbjabbaaGreatDoorY7k
import Derived.Test.YtjookodjbjabbaaGreatDoorY7m
namespace Go.Proofs.YtjookodjbjabbaaGreatDoor
open Go.Proofs.Tryz
open Go.ChangeShapes Go.WideShapes Go.ChangeAt Go.RowKit
set_option maxRecDepth 100000
theorem oo:joinedFacts prog 3 Tryz.f3 Rows.blsSignsSpec Rows.blsSignsRow=true:=by
 unfold joinedFacts;rw[nu,ll,mA,o8]
 kernel_rfl
theorem rf:Rows.BlsSignsSaid:=
 OpenClaim.holds_of_wide 3 Tryz.f3 O O O O O O O ⟨rfl,rfl,rfl,rfl,rfl⟩ O O O O O kr func3 oo
  (of_decide_eq_true kr) (by unfold Func.isWrapper;first|(rw[if_pos (by decide+kernel)];kernel_rfl)|(rw[if_neg (by decide+kernel)];exact ⟨rfl,rfl⟩))
  (λos started H enc _=>oa os started H enc)
end Go.Proofs.YtjookodjbjabbaaGreatDoor
