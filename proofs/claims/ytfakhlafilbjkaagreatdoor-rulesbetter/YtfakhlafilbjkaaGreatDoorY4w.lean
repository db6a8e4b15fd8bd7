/- Y4w -/
import Derived.Test.YtfakhlafilbjkaaGreatDoorY1
import Derived.SevenTiedAt
namespace Go.Proofs.YtfakhlafilbjkaaGreatDoor
open Go.Proofs.Tryz
open Go.ChangeShapes Go.WideShapes Go.ChangeAt Go.RowKit
set_option maxRecDepth 100000
theorem oN:prog.inits.idxOf? 4=none:=kr
theorem pQ(os:Os):((World.doorLaid prog 400 os).forCall (λ_ _=>0) ⟨#[], #[.agg wCf.toArray,.agg wUp.toArray,.agg wUp.toArray],[]⟩).Shaped prog:=World.shaped_of_RefB kr kr
theorem py(os:Os)(H:Type)(enc:TypeId×Value->H):Rows.rulesBetterSpec.preB enc prog Tryz.f4 [] false ((World.doorLaid prog 400 os).forCall (λ_ _=>0) ⟨#[], #[.agg wCf.toArray,.agg wUp.toArray,.agg wUp.toArray],[]⟩).memory #[.agg wCf.toArray,.agg wUp.toArray,.agg wUp.toArray] 8=true:=kr
theorem oH(os:Os)(H:Type)(enc:TypeId×Value->H):Rows.rulesBetterSpec.sizedB enc prog Tryz.f4 false ((World.doorLaid prog 400 os).forCall (λ_ _=>0) ⟨#[], #[.agg wCf.toArray,.agg wUp.toArray,.agg wUp.toArray],[]⟩).memory #[.agg wCf.toArray,.agg wUp.toArray,.agg wUp.toArray] 8=true:=kr
theorem nH:prog.readableRec 50=true:=kr
theorem nI:50<prog.types.size:=of_decide_eq_true kr
theorem jZ:prog.readableRec 71=true:=kr
theorem j2:71<prog.types.size:=of_decide_eq_true kr
end Go.Proofs.YtfakhlafilbjkaaGreatDoor
