/-
  The document's clock; what is known; the laws.
-/
import Derived.Test.YtdkgiilmanhpbaaTA
import Derived.Test.YtdkgiilmanhpbaaX3
namespace Go.Proofs.Ytdkgiilmanhpbaa
open Go.RowKit
set_option maxRecDepth 100000
set_option maxHeartbeats 1000000

theorem ent7 : Enters Try.prog 7 := fun _ _ => by kernel_rfl
def p2 (k : Nat) : Int := 2 ^ k
end Go.Proofs.Ytdkgiilmanhpbaa
