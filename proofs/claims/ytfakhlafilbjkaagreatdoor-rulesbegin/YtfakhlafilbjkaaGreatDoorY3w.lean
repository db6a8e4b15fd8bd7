/- Y3w -/
import Derived.Test.YtfakhlafilbjkaaGreatDoorY1
import Derived.SevenTiedAt
namespace Go.Proofs.YtfakhlafilbjkaaGreatDoor
open Go.Proofs.Tryz
open Go.ChangeShapes Go.WideShapes Go.ChangeAt Go.RowKit
set_option maxRecDepth 100000
theorem qn:prog.inits.idxOf? 3=none:=kr
theorem qu(os:Os):((World.doorLaid prog 400 os).forCall (λ_ _=>0) ⟨#[], #[.int .u64 0,.int .i64 0,.int .u16 0,.int .i64 0,.int .i64 0],[]⟩).Shaped prog:=World.shaped_of_RefB kr kr
theorem qD(os:Os)(H:Type)(enc:TypeId×Value->H):Rows.rulesBeginSpec.preB enc prog Tryz.f3 [] false ((World.doorLaid prog 400 os).forCall (λ_ _=>0) ⟨#[], #[.int .u64 0,.int .i64 0,.int .u16 0,.int .i64 0,.int .i64 0],[]⟩).memory #[.int .u64 0,.int .i64 0,.int .u16 0,.int .i64 0,.int .i64 0] 8=true:=kr
theorem qp(os:Os)(H:Type)(enc:TypeId×Value->H):Rows.rulesBeginSpec.sizedB enc prog Tryz.f3 false ((World.doorLaid prog 400 os).forCall (λ_ _=>0) ⟨#[], #[.int .u64 0,.int .i64 0,.int .u16 0,.int .i64 0,.int .i64 0],[]⟩).memory #[.int .u64 0,.int .i64 0,.int .u16 0,.int .i64 0,.int .i64 0] 8=true:=kr
theorem pL:prog.readableRec 22=true:=kr
theorem oV:22<prog.types.size:=of_decide_eq_true kr
theorem jx:prog.readableRec 3=true:=kr
theorem jD:3<prog.types.size:=of_decide_eq_true kr
theorem pY:prog.readableRec 23=true:=kr
theorem pX:23<prog.types.size:=of_decide_eq_true kr
end Go.Proofs.YtfakhlafilbjkaaGreatDoor
