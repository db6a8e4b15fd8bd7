/- Y5w -/
import Derived.Test.YtfakhlafilbjkaaGreatDoorY1
import Derived.SevenTiedAt
namespace Go.Proofs.YtfakhlafilbjkaaGreatDoor
open Go.Proofs.Tryz
open Go.ChangeShapes Go.WideShapes Go.ChangeAt Go.RowKit
set_option maxRecDepth 100000
theorem pS:prog.inits.idxOf? 5=none:=kr
theorem pP(os:Os):((World.doorLaid prog 400 os).forCall (λ_ _=>0) ⟨#[], #[.agg wUp.toArray,.agg wSt.toArray],[]⟩).Shaped prog:=World.shaped_of_RefB kr kr
theorem pR(os:Os)(H:Type)(enc:TypeId×Value->H):Rows.rulesKindsSpec.preB enc prog Tryz.f5 [] false ((World.doorLaid prog 400 os).forCall (λ_ _=>0) ⟨#[], #[.agg wUp.toArray,.agg wSt.toArray],[]⟩).memory #[.agg wUp.toArray,.agg wSt.toArray] 8=true:=kr
theorem p9(os:Os)(H:Type)(enc:TypeId×Value->H):Rows.rulesKindsSpec.sizedB enc prog Tryz.f5 false ((World.doorLaid prog 400 os).forCall (λ_ _=>0) ⟨#[], #[.agg wUp.toArray,.agg wSt.toArray],[]⟩).memory #[.agg wUp.toArray,.agg wSt.toArray] 8=true:=kr
theorem oo:prog.readableRec 71=true:=kr
theorem oT:71<prog.types.size:=of_decide_eq_true kr
theorem oN:prog.readableRec 53=true:=kr
theorem n0:53<prog.types.size:=of_decide_eq_true kr
end Go.Proofs.YtfakhlafilbjkaaGreatDoor
