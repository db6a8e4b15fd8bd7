/- Y5b -/
import Derived.Test.YtfakhlafilbjkaaGreatDoorY5a
import Derived.Test.YtfakhlafilbjkaaGreatDoorY5k
import Derived.Test.YtfakhlafilbjkaaGreatDoorY5m
namespace Go.Proofs.YtfakhlafilbjkaaGreatDoor
open Go.Proofs.Tryz
open Go.ChangeShapes Go.WideShapes Go.ChangeAt Go.RowKit
set_option maxRecDepth 100000
theorem lF:joinedFacts prog 5 Tryz.f5 Rows.rulesKindsSpec Rows.rulesKindsRow=true:=by
 unfold joinedFacts;rw[kZ,jV,kN,mX]
 kernel_rfl
theorem nq:Rows.RulesKindsSaid:=
 OpenClaim.holds_of_wide 5 Tryz.f5 O O O O O O O ⟨rfl,rfl,rfl,rfl,rfl⟩ O O O O O kr func5 lF
  (of_decide_eq_true kr) (by unfold Func.isWrapper;first|(rw[if_pos (by decide+kernel)];kernel_rfl)|(rw[if_neg (by decide+kernel)];exact ⟨rfl,rfl⟩))
  (λos started H enc _=>lI os started H enc)
end Go.Proofs.YtfakhlafilbjkaaGreatDoor
