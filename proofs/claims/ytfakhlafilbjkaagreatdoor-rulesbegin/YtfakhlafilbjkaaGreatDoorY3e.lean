/- Y3e -/
import Derived.Test.YtfakhlafilbjkaaGreatDoorY1
import Derived.Test.YtfakhlafilbjkaaGreatDoorCards
import Derived.SevenTiedAt
namespace Go.Proofs.YtfakhlafilbjkaaGreatDoor
open Go.Proofs.Tryz
open Go.ChangeShapes Go.WideShapes Go.ChangeAt Go.RowKit
set_option maxRecDepth 100000
theorem qw:false=prog.looks []:=kr
end Go.Proofs.YtfakhlafilbjkaaGreatDoor
