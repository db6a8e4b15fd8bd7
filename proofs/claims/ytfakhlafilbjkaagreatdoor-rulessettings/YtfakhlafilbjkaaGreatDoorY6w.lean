/- Y6w -/
import Derived.Test.YtfakhlafilbjkaaGreatDoorY1
import Derived.SevenTiedAt
namespace Go.Proofs.YtfakhlafilbjkaaGreatDoor
open Go.Proofs.Tryz
open Go.ChangeShapes Go.WideShapes Go.ChangeAt Go.RowKit
set_option maxRecDepth 100000
theorem mO:prog.inits.idxOf? 6=none:=kr
theorem nk(os:Os):((World.doorLaid prog 400 os).forCall (λ_ _=>0) ⟨#[], #[.agg wCf.toArray,.agg wUp.toArray,.agg wSt.toArray],[]⟩).Shaped prog:=World.shaped_of_RefB kr kr
theorem mQ(os:Os)(H:Type)(enc:TypeId×Value->H):Rows.rulesSettingsSpec.preB enc prog Tryz.f6 [] false ((World.doorLaid prog 400 os).forCall (λ_ _=>0) ⟨#[], #[.agg wCf.toArray,.agg wUp.toArray,.agg wSt.toArray],[]⟩).memory #[.agg wCf.toArray,.agg wUp.toArray,.agg wSt.toArray] 8=true:=kr
theorem mL(os:Os)(H:Type)(enc:TypeId×Value->H):Rows.rulesSettingsSpec.sizedB enc prog Tryz.f6 false ((World.doorLaid prog 400 os).forCall (λ_ _=>0) ⟨#[], #[.agg wCf.toArray,.agg wUp.toArray,.agg wSt.toArray],[]⟩).memory #[.agg wCf.toArray,.agg wUp.toArray,.agg wSt.toArray] 8=true:=kr
theorem lY:prog.readableRec 50=true:=kr
theorem my:50<prog.types.size:=of_decide_eq_true kr
theorem lB:prog.readableRec 71=true:=kr
theorem lF:71<prog.types.size:=of_decide_eq_true kr
theorem lG:prog.readableRec 53=true:=kr
theorem mq:53<prog.types.size:=of_decide_eq_true kr
end Go.Proofs.YtfakhlafilbjkaaGreatDoor
