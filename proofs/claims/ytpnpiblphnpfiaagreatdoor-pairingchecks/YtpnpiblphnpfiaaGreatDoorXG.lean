/-
 What the laws of layer 10 share, of the first group: the document's points of the program's; Lift.
 What the laws of layer 11 share, of the second group: the document's points of the program's; Lift.
 The reference's XY.
 The reference's elements of twelve as rows; the laws' refs; Line.
 The reference's Line.
 The reference's Line, of points: the document's.
-/
import Derived.Test.YtpnpiblphnpfiaaGreatDoorXD
import Derived.Test.YtpnpiblphnpfiaaGreatDoorX3
import Derived.Test.YtpnpiblphnpfiaaGreatDoorX5
import Derived.Test.YtpnpiblphnpfiaaGreatDoorXJ
import Derived.Test.YtpnpiblphnpfiaaGreatDoorXF
import Derived.Test.YtpnpiblphnpfiaaGreatDoorX2
set_option maxRecDepth 100000
set_option maxHeartbeats 1000000
namespace Go.Proofs.YtpnpiblphnpfiaaGreatDoor
section
open Go.RowKit
attribute [local simp] aL ba aI aH aB bc aF aE aG PLl cf cb N1l ca bY ce aR a9 aJ aW a5 J1.bd
namespace J1
theorem yR {P : Pt Zp} (h : ¬ P = none) : P = some (PX P, PY P) := by
 cases P with
 | none => exact absurd rfl h
 | some p => rfl
end J1
end
section
open Go.RowKit
attribute [local simp] aL ba aI aH aB bc aF aE aG PLl cf cb N1l ca bY ce aR a9 aJ aW a5 J2.bd
namespace J2
end J2
end
section
open Go.RowKit
attribute [local simp] aL ba aI aH aB bc aF aE aG PLl cf cb N1l ca bY ce aR a9 aJ aW a5 J1.bd J2.bd
end
section
open Go.RowKit
attribute [local simp] aL ba aI aH aB bc aF aE aG PLl cf cb N1l ca bY ce aR a9 aJ aW a5 J1.bd J2.bd
namespace Q6
end Q6
end
section
open Go.RowKit
attribute [local simp] aL ba aI aH aB bc aF aE aG PLl cf cb N1l ca bY ce aR a9 aJ aW a5 J1.bd J2.bd
namespace Q6
def LT (a : W2 × W2) (s x y : W2) : W12 := ((E2w.sub (ml2 s a.1) a.2, ng2 (ml2 s x), ze2), (ze2, y, ze2))
end Q6
end
section
namespace Q6
end Q6
end
end Go.Proofs.YtpnpiblphnpfiaaGreatDoor
