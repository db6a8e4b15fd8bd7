/- Y7v -/
import Derived.Test.YtfakhlafilbjkaaGreatDoorY1
import Derived.SevenTiedAt
namespace Go.Proofs.YtfakhlafilbjkaaGreatDoor
open Go.Proofs.Tryz
open Go.ChangeShapes Go.WideShapes Go.ChangeAt Go.RowKit
set_option maxRecDepth 100000
theorem p8(os:Os):Input.okWideB prog ((World.doorLaid prog 400 os).forCall (λ_ _=>0) ⟨#[], #[.int .i64 0,.int .i64 0,.int .u16 0],[]⟩) 7 ⟨#[], #[.int .i64 0,.int .i64 0,.int .u16 0],[]⟩=true:=kr
end Go.Proofs.YtfakhlafilbjkaaGreatDoor
