/- Y4b -/
import Derived.Test.YtfakhlafilbjkaaGreatDoorY4a
import Derived.Test.YtfakhlafilbjkaaGreatDoorY4k
import Derived.Test.YtfakhlafilbjkaaGreatDoorY4m
namespace Go.Proofs.YtfakhlafilbjkaaGreatDoor
open Go.Proofs.Tryz
open Go.ChangeShapes Go.WideShapes Go.ChangeAt Go.RowKit
set_option maxRecDepth 100000
theorem lg:joinedFacts prog 4 Tryz.f4 Rows.rulesBetterSpec Rows.rulesBetterRow=true:=by
 unfold joinedFacts;rw[kX,jM,kv,lU]
 kernel_rfl
theorem mM:Rows.RulesBetterSaid:=
 OpenClaim.holds_of_wide 4 Tryz.f4 O O O O O O O ⟨rfl,rfl,rfl,rfl,rfl⟩ O O O O O kr func4 lg
  (of_decide_eq_true kr) (by unfold Func.isWrapper;first|(rw[if_pos (by decide+kernel)];kernel_rfl)|(rw[if_neg (by decide+kernel)];exact ⟨rfl,rfl⟩))
  (λos started H enc _=>lz os started H enc)
end Go.Proofs.YtfakhlafilbjkaaGreatDoor
