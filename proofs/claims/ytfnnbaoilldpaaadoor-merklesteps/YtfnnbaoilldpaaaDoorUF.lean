/-
  What was asked of the program's trees stands.
-/
import Derived.Test.YtfnnbaoilldpaaaDoorTE
import Derived.Test.YtfnnbaoilldpaaaDoorUE
namespace Go.Proofs.YtfnnbaoilldpaaaDoor
open Go.RowKit
set_option maxRecDepth 100000
set_option maxHeartbeats 1000000
theorem pm : MerkleP where
  zero := mzero_calls
  rootN := fun n a len cap w hw hn _ => mroot_n n a len cap hn w hw
  rootY := fun n h63 l hl len hlen hln a cap _ hn w hw hr => mroot_y n h63 l hl len hlen hln a cap hn w hw hr
  ver := fun v0 hv0 b hl len hlen hln a cap _ x0 root hroot w hw hr => by
    subst hlen
    exact mver_calls v0 hv0 b hl hln a cap x0 root hroot w hw hr
  bra := fun D hD l hl len hlen hln a cap hc x0 w hw hr => by
    subst hlen
    exact mbra_calls D hD l hl hln a cap hc x0 w hw hr
end Go.Proofs.YtfnnbaoilldpaaaDoor
