/- Y3b -/
import Derived.Test.YtfakhlafilbjkaaGreatDoorY3a
import Derived.Test.YtfakhlafilbjkaaGreatDoorY3k
import Derived.Test.YtfakhlafilbjkaaGreatDoorY3m
namespace Go.Proofs.YtfakhlafilbjkaaGreatDoor
open Go.Proofs.Tryz
open Go.ChangeShapes Go.WideShapes Go.ChangeAt Go.RowKit
set_option maxRecDepth 100000
theorem mN:joinedFacts prog 3 Tryz.f3 Rows.rulesBeginSpec Rows.rulesBeginRow=true:=by
 unfold joinedFacts;rw[lL,kg,lj,nC]
 kernel_rfl
theorem nX:Rows.RulesBeginSaid:=
 OpenClaim.holds_of_wide 3 Tryz.f3 O O O O O O O ⟨rfl,rfl,rfl,rfl,rfl⟩ O O O O O kr func3 mN
  (of_decide_eq_true kr) (by unfold Func.isWrapper;first|(rw[if_pos (by decide+kernel)];kernel_rfl)|(rw[if_neg (by decide+kernel)];exact ⟨rfl,rfl⟩))
  (λos started H enc _=>mD os started H enc)
end Go.Proofs.YtfakhlafilbjkaaGreatDoor
