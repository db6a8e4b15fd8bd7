/- Y6b -/
import Derived.Test.YtfakhlafilbjkaaGreatDoorY6a
import Derived.Test.YtfakhlafilbjkaaGreatDoorY6k
import Derived.Test.YtfakhlafilbjkaaGreatDoorY6m
namespace Go.Proofs.YtfakhlafilbjkaaGreatDoor
open Go.Proofs.Tryz
open Go.ChangeShapes Go.WideShapes Go.ChangeAt Go.RowKit
set_option maxRecDepth 100000
theorem j5:joinedFacts prog 6 Tryz.f6 Rows.rulesSettingsSpec Rows.rulesSettingsRow=true:=by
 unfold joinedFacts;rw[jW,jk,jB,kP]
 kernel_rfl
theorem li:Rows.RulesSettingsSaid:=
 OpenClaim.holds_of_wide 6 Tryz.f6 O O O O O O O ⟨rfl,rfl,rfl,rfl,rfl⟩ O O O O O kr func6 j5
  (of_decide_eq_true kr) (by unfold Func.isWrapper;first|(rw[if_pos (by decide+kernel)];kernel_rfl)|(rw[if_neg (by decide+kernel)];exact ⟨rfl,rfl⟩))
  (λos started H enc _=>jZ os started H enc)
end Go.Proofs.YtfakhlafilbjkaaGreatDoor
