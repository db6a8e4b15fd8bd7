/- Y3c -/
import Derived.Test.YtfakhlafilbjkaaGreatDoorY1
import Derived.Test.YtfakhlafilbjkaaGreatDoorCards
import Derived.SevenTiedAt
namespace Go.Proofs.YtfakhlafilbjkaaGreatDoor
open Go.Proofs.Tryz
open Go.ChangeShapes Go.WideShapes Go.ChangeAt Go.RowKit
set_option maxRecDepth 100000
theorem qq:Tryz.pinned.checked.prog.mainIs=some (true, "6b16bc03c34bd4f6e4e12d4743638303f4650dea26c87840b8e1c73dfcbb475c".toList):=kr
theorem rulesBegin_c3:prog.funcNamed "pharos/pharoslaw23.RulesBegin" =some 3:=kr
end Go.Proofs.YtfakhlafilbjkaaGreatDoor
