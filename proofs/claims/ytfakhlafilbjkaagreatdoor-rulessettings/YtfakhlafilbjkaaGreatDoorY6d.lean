/- Y6d -/
import Derived.Test.YtfakhlafilbjkaaGreatDoorY1
import Derived.Test.YtfakhlafilbjkaaGreatDoorCards
import Derived.SevenTiedAt
namespace Go.Proofs.YtfakhlafilbjkaaGreatDoor
open Go.ChangeShapes Go.WideShapes Go.ChangeAt Go.RowKit
set_option maxRecDepth 100000
theorem m7:false=Rows.rulesSettingsRow.goesBy Tryz.pinned.checked.prog:=kr
end Go.Proofs.YtfakhlafilbjkaaGreatDoor
