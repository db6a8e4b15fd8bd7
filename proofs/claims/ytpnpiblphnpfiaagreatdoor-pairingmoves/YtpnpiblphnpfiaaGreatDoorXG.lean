/-
 What the laws of layer 10 share, of the first group: the document's points of the program's; Lift.
 What the laws of layer 11 share, of the second group: the document's points of the program's; Lift.
 The reference's XY.
 The reference's elements of twelve as rows; the laws' refs; Line.
 The reference's Line.
 The reference's Line, of points: the document's.
-/
import Derived.Test.YtpnpiblphnpfiaaGreatDoorXD
import Derived.Test.YtpnpiblphnpfiaaGreatDoorX3
import Derived.Test.YtpnpiblphnpfiaaGreatDoorX5
import Derived.Test.YtpnpiblphnpfiaaGreatDoorXJ
import Derived.Test.YtpnpiblphnpfiaaGreatDoorXF
import Derived.Test.YtpnpiblphnpfiaaGreatDoorX2
set_option maxRecDepth 100000
set_option maxHeartbeats 1000000
namespace Go.Proofs.YtpnpiblphnpfiaaGreatDoor
section
open Go.RowKit
attribute [local simp] aO aZ aJ aF ay aY aE aB aD PLl bY ca N1l bZ bU cb aU a5 aI aV aQ J1.a6
namespace J1
theorem xY {P : Pt Zp} (h : ¬ P = none) : P = some (PX P, PY P) := by
 cases P with
 | none => exact absurd rfl h
 | some p => rfl
end J1
end
section
open Go.RowKit
attribute [local simp] aO aZ aJ aF ay aY aE aB aD PLl bY ca N1l bZ bU cb aU a5 aI aV aQ J2.a6
namespace J2
end J2
end
section
open Go.RowKit
attribute [local simp] aO aZ aJ aF ay aY aE aB aD PLl bY ca N1l bZ bU cb aU a5 aI aV aQ J1.a6 J2.a6
end
section
open Go.RowKit
attribute [local simp] aO aZ aJ aF ay aY aE aB aD PLl bY ca N1l bZ bU cb aU a5 aI aV aQ J1.a6 J2.a6
namespace Q6
abbrev TT (x : W12) : Value := TV (p12 x)
theorem gC (f : Nat → List (BitVec 64)) (n : Nat) (h : (f n).length = 12) : FM f (n + 1) = FM f n ++ f n := List.ext_getElem? fun m => by
 by_cases h1 : m < 12 * n
 ·rw [iO _ _ _ (by omega), List.getElem?_append_left (by rw [aQ]; exact h1), iO _ _ _ h1]
 ·by_cases h2 : m < 12 * (n + 1)
  ·rw [iO _ _ _ h2, List.getElem?_append_right (by rw [aQ]; omega), aQ, show m / 12 = n by omega, show m % 12 = m - 12 * n by omega, List.getD_eq_getElem?_getD, List.getElem?_eq_getElem (by rw [h]; omega)]; rfl
  ·rw [List.getElem?_eq_none (by rw [aQ]; omega), List.getElem?_eq_none (by rw [List.length_append, aQ, h]; omega)]
theorem ff_0 (x : W12) : FF (p12 x) 0 = fe x.1.1.1 ++ fe x.1.1.2 := rfl
theorem ff_1 (x : W12) : FF (p12 x) 1 = fe x.2.1.1 ++ fe x.2.1.2 := rfl
theorem ff_2 (x : W12) : FF (p12 x) 2 = fe x.1.2.1.1 ++ fe x.1.2.1.2 := rfl
theorem ff_3 (x : W12) : FF (p12 x) 3 = fe x.2.2.1.1 ++ fe x.2.2.1.2 := rfl
theorem ff_4 (x : W12) : FF (p12 x) 4 = fe x.1.2.2.1 ++ fe x.1.2.2.2 := rfl
theorem ff_5 (x : W12) : FF (p12 x) 5 = fe x.2.2.2.1 ++ fe x.2.2.2.2 := rfl
theorem FM_6 (f : Nat → List (BitVec 64)) (h : ∀ i, (f i).length = 12) : FM f 6 = f 0 ++ (f 1 ++ (f 2 ++ (f 3 ++ (f 4 ++ f 5)))) := by
 rw [gC _ 5 (h _), gC _ 4 (h _), gC _ 3 (h _), gC _ 2 (h _), gC _ 1 (h _), gC _ 0 (h _), show FM f 0 = [] from rfl]
 simp only [List.append_assoc, List.nil_append]
theorem DS (a b c d e f g h i j k m : Zp) : cel [a, b, c, d, e, f, g, h, i, j, k, m] = fe a ++ (fe b ++ (fe c ++ (fe d ++ (fe e ++ (fe f ++ (fe g ++ (fe h ++ (fe i ++ (fe j ++ (fe k ++ fe m)))))))))) := rfl
theorem VT (x : W12) : TT x = dn rid (.inl [x.1.1.1, x.1.1.2, x.2.1.1, x.2.1.2, x.1.2.1.1, x.1.2.1.2, x.2.2.1.1, x.2.2.1.2, x.1.2.2.1, x.1.2.2.2, x.2.2.2.1, x.2.2.2.2]) := by
 show Value.agg ((FM (FF (p12 x)) 6).map U64).toArray = Value.agg ((cel [x.1.1.1, x.1.1.2, x.2.1.1, x.2.1.2, x.1.2.1.1, x.1.2.1.2, x.2.2.1.1, x.2.2.1.2, x.1.2.2.1, x.1.2.2.2, x.2.2.2.1, x.2.2.2.2]).map U64).toArray
 rw [FM_6 (FF (p12 x)) (fun _ => aI _), DS, ff_0, ff_1, ff_2, ff_3, ff_4, ff_5]
 simp only [List.append_assoc]
theorem D7 (x : W12) : Pure Tryz.prog Gt 17 [bt x] (TT x) := (bv (l1 (V12 _)) (VT _) (pE J2.TO55 Tryz.func17 [.inl [x.1.1.1, x.1.1.2, x.1.2.1.1, x.1.2.1.2, x.1.2.2.1, x.1.2.2.2, x.2.1.1, x.2.1.2, x.2.2.1.1, x.2.2.1.2, x.2.2.2.1, x.2.2.2.2]] (.inl (.inl [x.1.1.1, x.1.1.2, x.2.1.1, x.2.1.2, x.1.2.1.1, x.1.2.1.2, x.2.2.1.1, x.2.2.1.2, x.1.2.2.1, x.1.2.2.2, x.2.2.2.1, x.2.2.2.2])) (let t0 := (x.1.1.1, x.1.1.2); let t1 := (x.2.1.1, x.2.1.2); let t2 := (x.1.2.1.1, x.1.2.1.2); let t3 := (x.2.2.1.1, x.2.2.1.2); let t4 := (x.1.2.2.1, x.1.2.2.2); let t5 := (x.2.2.2.1, x.2.2.2.2); (.inl (.inl [t0.1, t0.2, t1.1, t1.2, t2.1, t2.2, t3.1, t3.2, t4.1, t4.2, t5.1, t5.2]), [])) [] (by kernel_rfl) aP rfl))
end Q6
end
section
open Go.RowKit
attribute [local simp] aO aZ aJ aF ay aY aE aB aD PLl bY ca N1l bZ bU cb aU a5 aI aV aQ J1.a6 J2.a6
namespace Q6
def LT (a : W2 × W2) (s x y : W2) : W12 := ((E2w.sub (ml2 s a.1) a.2, ng2 (ml2 s x), ze2), (ze2, y, ze2))
end Q6
end
section
namespace Q6
end Q6
end
end Go.Proofs.YtpnpiblphnpfiaaGreatDoor
