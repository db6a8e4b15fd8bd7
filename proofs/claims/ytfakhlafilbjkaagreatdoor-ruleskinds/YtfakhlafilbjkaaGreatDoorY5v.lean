/- Y5v -/
import Derived.Test.YtfakhlafilbjkaaGreatDoorY1
import Derived.SevenTiedAt
namespace Go.Proofs.YtfakhlafilbjkaaGreatDoor
open Go.Proofs.Tryz
open Go.ChangeShapes Go.WideShapes Go.ChangeAt Go.RowKit
set_option maxRecDepth 100000
theorem pV(os:Os):Input.okWideB prog ((World.doorLaid prog 400 os).forCall (λ_ _=>0) ⟨#[], #[.agg wUp.toArray,.agg wSt.toArray],[]⟩) 5 ⟨#[], #[.agg wUp.toArray,.agg wSt.toArray],[]⟩=true:=kr
end Go.Proofs.YtfakhlafilbjkaaGreatDoor
