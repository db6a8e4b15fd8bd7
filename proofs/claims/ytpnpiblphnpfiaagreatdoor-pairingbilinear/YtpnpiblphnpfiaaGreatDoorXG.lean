/-
 What the laws of layer 10 share, of the first group: the document's points of the program's; Lift.
 What the laws of layer 11 share, of the second group: the document's points of the program's; Lift.
 The reference's XY.
 The reference's elements of twelve as rows; the laws' refs; Line.
 The reference's Line.
 The reference's Line, of points: the document's.
-/
import Derived.Test.YtpnpiblphnpfiaaGreatDoorXD
import Derived.Test.YtpnpiblphnpfiaaGreatDoorX3
import Derived.Test.YtpnpiblphnpfiaaGreatDoorX5
import Derived.Test.YtpnpiblphnpfiaaGreatDoorXJ
import Derived.Test.YtpnpiblphnpfiaaGreatDoorXF
import Derived.Test.YtpnpiblphnpfiaaGreatDoorX2
set_option maxRecDepth 100000
set_option maxHeartbeats 1000000
namespace Go.Proofs.YtpnpiblphnpfiaaGreatDoor
section
open Go.RowKit
attribute [local simp] aP bc aM aH aA a9 aF aE aG PLl bY ca N1l cb cf bZ aU ba aN aZ a7 J1.bk
namespace J1
theorem zK {P : Pt Zp} (h : ¬ P = none) : P = some (PX P, PY P) := by
 cases P with
 | none => exact absurd rfl h
 | some p => rfl
end J1
end
section
open Go.RowKit
attribute [local simp] aP bc aM aH aA a9 aF aE aG PLl bY ca N1l cb cf bZ aU ba aN aZ a7 J2.bk
namespace J2
end J2
end
section
open Go.RowKit
attribute [local simp] aP bc aM aH aA a9 aF aE aG PLl bY ca N1l cb cf bZ aU ba aN aZ a7 J1.bk J2.bk
end
section
open Go.RowKit
attribute [local simp] aP bc aM aH aA a9 aF aE aG PLl bY ca N1l cb cf bZ aU ba aN aZ a7 J1.bk J2.bk
namespace Q6
end Q6
end
section
open Go.RowKit
attribute [local simp] aP bc aM aH aA a9 aF aE aG PLl bY ca N1l cb cf bZ aU ba aN aZ a7 J1.bk J2.bk
namespace Q6
def LT (a : W2 × W2) (s x y : W2) : W12 := ((E2w.sub (ml2 s a.1) a.2, ng2 (ml2 s x), ze2), (ze2, y, ze2))
end Q6
end
section
namespace Q6
end Q6
end
end Go.Proofs.YtpnpiblphnpfiaaGreatDoor
