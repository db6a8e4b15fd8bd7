/- Y1 -/
import Derived.Test.YtfakhlafilbjkaaGreatDoorY0
import Derived.Test.YtfakhlafilbjkaaGreatDoorL4
import Derived.SizedLaws
namespace Go.Proofs.YtfakhlafilbjkaaGreatDoor
open Go.ChangeShapes Go.WideShapes Go.ChangeAt Go.RowKit
set_option maxRecDepth 100000
section
variable {W:World} {H:Type} {enc:TypeId×Value->H} {base:Nat} {spare:Nat->Bool} {held:Bool} {fuel:Nat}
theorem yD{n:Int}(h:(Lit.int .u16 n).wf=true): ∃T:BitVec 64,T=BitVec.ofInt 64 n/\T.toNat<65536:=by
 simp only[Lit.wf,Bool.and_eq_true,decide_eq_true_eq]at h;have h1:IntKind.u16.min=0:=rfl;have h2:IntKind.u16.max=65535:=rfl;rw[h1,h2]at h;refine ⟨_,rfl, ?_⟩;rw[BitVec.toNat_ofInt];omega
end
end Go.Proofs.YtfakhlafilbjkaaGreatDoor
