/- Y7b -/
import Derived.Test.YtfakhlafilbjkaaGreatDoorY7a
import Derived.Test.YtfakhlafilbjkaaGreatDoorY7k
import Derived.Test.YtfakhlafilbjkaaGreatDoorY7m
namespace Go.Proofs.YtfakhlafilbjkaaGreatDoor
open Go.Proofs.Tryz
open Go.ChangeShapes Go.WideShapes Go.ChangeAt Go.RowKit
set_option maxRecDepth 100000
theorem mI:joinedFacts prog 7 Tryz.f7 Rows.rulesMarksSpec Rows.rulesMarksRow=true:=by
 unfold joinedFacts;rw[ly,j0,kV,m5]
 kernel_rfl
theorem nG:Rows.RulesMarksSaid:=
 OpenClaim.holds_of_wide 7 Tryz.f7 O O O O O O O ⟨rfl,rfl,rfl,rfl,rfl⟩ O O O O O kr func7 mI
  (of_decide_eq_true kr) (by unfold Func.isWrapper;first|(rw[if_pos (by decide+kernel)];kernel_rfl)|(rw[if_neg (by decide+kernel)];exact ⟨rfl,rfl⟩))
  (λos started H enc _=>lJ os started H enc)
end Go.Proofs.YtfakhlafilbjkaaGreatDoor
