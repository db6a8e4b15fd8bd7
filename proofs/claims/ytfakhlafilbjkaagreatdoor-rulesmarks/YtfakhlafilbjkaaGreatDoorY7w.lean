/- Y7w -/
import Derived.Test.YtfakhlafilbjkaaGreatDoorY1
import Derived.SevenTiedAt
namespace Go.Proofs.YtfakhlafilbjkaaGreatDoor
open Go.Proofs.Tryz
open Go.ChangeShapes Go.WideShapes Go.ChangeAt Go.RowKit
set_option maxRecDepth 100000
theorem qi:prog.inits.idxOf? 7=none:=kr
theorem qd(os:Os):((World.doorLaid prog 400 os).forCall (λ_ _=>0) ⟨#[], #[.int .i64 0,.int .i64 0,.int .u16 0],[]⟩).Shaped prog:=World.shaped_of_RefB kr kr
theorem pV(os:Os)(H:Type)(enc:TypeId×Value->H):Rows.rulesMarksSpec.preB enc prog Tryz.f7 [] false ((World.doorLaid prog 400 os).forCall (λ_ _=>0) ⟨#[], #[.int .i64 0,.int .i64 0,.int .u16 0],[]⟩).memory #[.int .i64 0,.int .i64 0,.int .u16 0] 8=true:=kr
theorem qh(os:Os)(H:Type)(enc:TypeId×Value->H):Rows.rulesMarksSpec.sizedB enc prog Tryz.f7 false ((World.doorLaid prog 400 os).forCall (λ_ _=>0) ⟨#[], #[.int .i64 0,.int .i64 0,.int .u16 0],[]⟩).memory #[.int .i64 0,.int .i64 0,.int .u16 0] 8=true:=kr
theorem k6:prog.readableRec 3=true:=kr
theorem kX:3<prog.types.size:=of_decide_eq_true kr
theorem oF:prog.readableRec 23=true:=kr
theorem oV:23<prog.types.size:=of_decide_eq_true kr
end Go.Proofs.YtfakhlafilbjkaaGreatDoor
