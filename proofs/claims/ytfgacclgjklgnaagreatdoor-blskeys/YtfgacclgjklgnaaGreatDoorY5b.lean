/- Y5b -/
import Derived.Test.YtfgacclgjklgnaaGreatDoorY5a
import Derived.Test.YtfgacclgjklgnaaGreatDoorY5k
import Derived.Test.YtfgacclgjklgnaaGreatDoorY5m
namespace Go.Proofs.YtfgacclgjklgnaaGreatDoor
open Go.Proofs.Tryz
open Go.ChangeShapes Go.WideShapes Go.ChangeAt Go.RowKit
set_option maxRecDepth 100000
theorem qQ:joinedFacts prog 5 Tryz.f5 Rows.blsKeysSpec Rows.blsKeysRow=true:=by
 unfold joinedFacts;rw[oT,l8,nw,rT]
 kernel_rfl
theorem tM:Rows.BlsKeysSaid:=
 OpenClaim.holds_of_wide 5 Tryz.f5 O O O O O O O ⟨rfl,rfl,rfl,rfl,rfl⟩ O O O O O kr func5 qQ
  (of_decide_eq_true kr) (by unfold Func.isWrapper;first|(rw[if_pos (by decide+kernel)];kernel_rfl)|(rw[if_neg (by decide+kernel)];exact ⟨rfl,rfl⟩))
  (λos started H enc _=>pV os started H enc)
end Go.Proofs.YtfgacclgjklgnaaGreatDoor
