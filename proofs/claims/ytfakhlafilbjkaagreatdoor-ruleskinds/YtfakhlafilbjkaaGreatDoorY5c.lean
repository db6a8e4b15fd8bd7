/- Y5c -/
import Derived.Test.YtfakhlafilbjkaaGreatDoorY1
import Derived.Test.YtfakhlafilbjkaaGreatDoorCards
import Derived.SevenTiedAt
namespace Go.Proofs.YtfakhlafilbjkaaGreatDoor
open Go.Proofs.Tryz
open Go.ChangeShapes Go.WideShapes Go.ChangeAt Go.RowKit
set_option maxRecDepth 100000
theorem pT:Tryz.pinned.checked.prog.mainIs=some (true, "6b16bc03c34bd4f6e4e12d4743638303f4650dea26c87840b8e1c73dfcbb475c".toList):=kr
theorem rulesKinds_c3:prog.funcNamed "pharos/pharoslaw23.RulesKinds" =some 5:=kr
end Go.Proofs.YtfakhlafilbjkaaGreatDoor
