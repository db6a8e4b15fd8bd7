/- Y1 -/
import Derived.Test.YtfakhlafilbjkaaGreatDoorY0
import Derived.Test.YtfakhlafilbjkaaGreatDoorL4
import Derived.SizedLaws
namespace Go.Proofs.YtfakhlafilbjkaaGreatDoor
open Go.ChangeShapes Go.WideShapes Go.ChangeAt Go.RowKit
set_option maxRecDepth 100000
theorem yp{n:Int}(h:(Lit.int .u64 n).wf=true): ∃x:BitVec 64,(.int .u64 n:Value)=U64 x:=by
 simp only[Lit.wf,Bool.and_eq_true,decide_eq_true_eq]at h;have h1:IntKind.u64.min=0:=rfl;have h2:IntKind.u64.max=18446744073709551615:=rfl;rw[h1,h2]at h;refine ⟨BitVec.ofNat 64 n.toNat, ?_⟩;simp only[U64,BitVec.toNat_ofNat];congr 1;omega
section
variable {W:World} {H:Type} {enc:TypeId×Value->H} {base:Nat} {spare:Nat->Bool} {held:Bool} {fuel:Nat}
theorem y4{n:Int}(h:(Lit.int .u16 n).wf=true): ∃T:BitVec 64,T=BitVec.ofInt 64 n/\T.toNat<65536:=by
 simp only[Lit.wf,Bool.and_eq_true,decide_eq_true_eq]at h;have h1:IntKind.u16.min=0:=rfl;have h2:IntKind.u16.max=65535:=rfl;rw[h1,h2]at h;refine ⟨_,rfl, ?_⟩;rw[BitVec.toNat_ofInt];omega
end
end Go.Proofs.YtfakhlafilbjkaaGreatDoor
