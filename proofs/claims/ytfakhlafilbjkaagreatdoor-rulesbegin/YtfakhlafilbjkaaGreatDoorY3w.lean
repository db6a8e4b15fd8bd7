/- Y3w -/
import Derived.Test.YtfakhlafilbjkaaGreatDoorY1
import Derived.SevenTiedAt
namespace Go.Proofs.YtfakhlafilbjkaaGreatDoor
open Go.Proofs.Tryz
open Go.ChangeShapes Go.WideShapes Go.ChangeAt Go.RowKit
set_option maxRecDepth 100000
theorem qi:prog.inits.idxOf? 3=none:=kr
theorem qp(os:Os):((World.doorLaid prog 400 os).forCall (λ_ _=>0) ⟨#[], #[.int .u64 0,.int .i64 0,.int .u16 0,.int .i64 0,.int .i64 0],[]⟩).Shaped prog:=World.shaped_of_RefB kr kr
theorem ql(os:Os)(H:Type)(enc:TypeId×Value->H):Rows.rulesBeginSpec.preB enc prog Tryz.f3 [] false ((World.doorLaid prog 400 os).forCall (λ_ _=>0) ⟨#[], #[.int .u64 0,.int .i64 0,.int .u16 0,.int .i64 0,.int .i64 0],[]⟩).memory #[.int .u64 0,.int .i64 0,.int .u16 0,.int .i64 0,.int .i64 0] 8=true:=kr
theorem qo(os:Os)(H:Type)(enc:TypeId×Value->H):Rows.rulesBeginSpec.sizedB enc prog Tryz.f3 false ((World.doorLaid prog 400 os).forCall (λ_ _=>0) ⟨#[], #[.int .u64 0,.int .i64 0,.int .u16 0,.int .i64 0,.int .i64 0],[]⟩).memory #[.int .u64 0,.int .i64 0,.int .u16 0,.int .i64 0,.int .i64 0] 8=true:=kr
theorem po:prog.readableRec 22=true:=kr
theorem pD:22<prog.types.size:=of_decide_eq_true kr
theorem jy:prog.readableRec 3=true:=kr
theorem ju:3<prog.types.size:=of_decide_eq_true kr
theorem oU:prog.readableRec 23=true:=kr
theorem o0:23<prog.types.size:=of_decide_eq_true kr
end Go.Proofs.YtfakhlafilbjkaaGreatDoor
