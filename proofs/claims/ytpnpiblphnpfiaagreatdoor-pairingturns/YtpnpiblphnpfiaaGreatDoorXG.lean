/-
 What the laws of layer 10 share, of the first group: the document's points of the program's; Lift.
 What the laws of layer 11 share, of the second group: the document's points of the program's; Lift.
 The reference's XY.
 The reference's elements of twelve as rows; the laws' refs; Line.
 The reference's Line.
 The reference's Line, of points: the document's.
-/
import Derived.Test.YtpnpiblphnpfiaaGreatDoorXD
import Derived.Test.YtpnpiblphnpfiaaGreatDoorX3
import Derived.Test.YtpnpiblphnpfiaaGreatDoorX5
import Derived.Test.YtpnpiblphnpfiaaGreatDoorXJ
import Derived.Test.YtpnpiblphnpfiaaGreatDoorXF
import Derived.Test.YtpnpiblphnpfiaaGreatDoorX2
set_option maxRecDepth 100000
set_option maxHeartbeats 1000000
namespace Go.Proofs.YtpnpiblphnpfiaaGreatDoor
section
open Go.RowKit
attribute [local simp] a6 bq aH aB aP aZ aO aM aT PLl cB cC N1l cH cG cz bk br a5 bn bd J1.bC
theorem rV3 {Q P : Prop} (k : Q) (h : Q → P := by intro k; (refine LY.run ?_); (repeat (first | refine bH rfl rfl rfl ?_ | refine bc rfl rfl rfl ?_ | ((refine nE rfl rfl ?_ rfl rfl ?_); (· simp)) | ((refine vJ rfl rfl ?_ rfl rfl ?_); (· simp)) | ((refine ra38 rfl rfl ?_ rfl rfl ?_); (· simp)) | ((refine pD hGF rfl rfl rfl ?_ ?_ (ak _) rfl ?_); (· simp); (· simp)) | ((refine HP hGF rfl rfl rfl ?_ ?_ (ak _) rfl ?_); (· simp); (· simp)) | ((refine Ct hGF rfl rfl rfl ?_ ?_ (im _) rfl ?_); (· simp); (· simp)) | ((refine sa40 hGF rfl rfl rfl ?_ ?_ (ak _) rfl ?_); (· simp); (· simp)) | ((refine sa38 hGF rfl rfl rfl ?_ ?_ (ak _) rfl ?_); (· simp); (· simp)) | refine eD rfl rfl rfl rfl ?_)); (first | refine bY ?_ | refine LY.mk ?_); exact k) : P := h k
theorem pV3 {Q P : Prop} (k : Q) (h : Q → P := by intro k; (refine xp ?_); (refine rV3 ?_); exact k) : P := h k
theorem ent54 : ac Tryz.prog 54 := fun _ _ => by kernel_rfl
namespace J1
theorem Ac {P : Pt Zp} (h : ¬ P = none) : P = some (PX P, PY P) := by
 cases P with
 | none => exact absurd rfl h
 | some p => rfl
theorem Ep (x : Zp) (b : Nat) (t : TypeId) (w : World) (hw : Gt w) (ho : OwnB w b ((uv x).map U8) t) :
  Calls Tryz.prog 126 [.slice (some ⟨b, 0, none⟩) 48 48].toArray w (fun r w' => r = .returned (.tuple #[NV (nm x), .bool true]) ∧ Grow w w') := by
 have h := zM b t (uv x) (aT x) w hw ho
 rw [xz] at h
 exact h
theorem Bx (x : Zp) : Pure Tryz.prog Gt 59 [EV x] (EV x) := by
 refine aR Tryz.func59 fun w hw hGF => ?_
 refine xp ?_
 refine lb fun b1 => ?_
 refine la zv40 fun b2 => ?_
 refine aa ?_
 refine pV3 ?_
 refine lc ent125 (pA _) ?_
 refine la zv115 fun b3 => ?_
 refine rV3 ?_
 refine xp ?_
 refine eM (l := 0) (h' := 48) rfl Tryz.underlying115 Tryz.sizeOf5 rfl rfl (by omega) (by omega) rfl rfl ?_
 refine bO rfl rfl ent126 (fun w' hC hG => Ep x _ _ w' hG (hC.own 3 _ _ _ rfl).1) rfl rfl ?_
 refine rV3 ?_
 refine la zv38 fun b4 => ?_
 refine rV3 ?_
 refine pV3 ?_
 refine lc ent127 (rofE _) ?_
 refine rV3 ?_
 refine rt ?_
 exact ay 2 rfl rfl rfl Tryz.isAgg40 Tryz.sizeOf40 (by simp) (fun w hw => ⟨rfl, ah hw⟩)
def TO56 : Tb Tryz.prog Gt := TO55.add (d6 (g := fun x => x) ent59 Bx)
end J1
end
section
open Go.RowKit
attribute [local simp] a6 bq aH aB aP aZ aO aM aT PLl cB cC N1l cH cG cz bk br a5 bn bd J2.bC
theorem rV4 {Q P : Prop} (k : Q) (h : Q → P := by intro k; (refine LY.run ?_); (repeat (first | refine bH rfl rfl rfl ?_ | refine bc rfl rfl rfl ?_ | ((refine Aq rfl rfl ?_ rfl rfl rfl rfl ?_); (· simp)) | ((refine A7 rfl rfl ?_ ?_ rfl rfl rfl rfl ?_); (· simp); (· simp)) | ((refine we rfl rfl ?_ rfl rfl ?_); (· simp)) | ((refine ul rfl rfl ?_ rfl rfl ?_); (· simp)) | ((refine xd hGF rfl rfl rfl ?_ ?_ (ak _) rfl ?_); (· simp); (· simp)) | ((refine HP hGF rfl rfl rfl ?_ ?_ (ak _) rfl ?_); (· simp); (· simp)) | ((refine wH hGF rfl rfl rfl ?_ ?_ (ak _) rfl ?_); (· simp); (· simp)) | refine eD rfl rfl rfl rfl ?_ | refine bw (f := 59) rfl rfl ent59 (J1.Bx _) rfl rfl ?_)); (first | refine bY ?_ | refine LY.mk ?_); exact k) : P := h k
namespace J2
theorem e2p (x : W2) : Pure Tryz.prog Gt 54 [EV2 x] (EV2 x) := by
 refine aR Tryz.func54 fun w hw hGF => ?_
 refine xp ?_
 refine lb fun b1 => ?_
 refine la zv42 fun b2 => ?_
 refine aa ?_
 refine bu (E := EE []) a7 (by kernel_rfl) (by kernel_rfl) (by kernel_rfl) ?_
 refine rV4 ?_
 refine dx Bp rfl rfl (by simp) (by simp) rfl rfl ?_
 refine rV4 ?_
 refine rt ?_
 exact ay 2 rfl rfl rfl Tryz.isAgg42 Tryz.sizeOf42 (by simp) (fun w hw => ⟨by rfl, ah hw⟩)
def TO56 : Tb Tryz.prog Gt := TO55.add (cE (g := fun x => x) ent54 e2p)
end J2
end
section
open Go.RowKit
attribute [local simp] a6 bq aH aB aP aZ aO aM aT PLl cB cC N1l cH cG cz bk br a5 bn bd J1.bC J2.bC
def XYJ (x : W6) : W2 × W2 := if x.2.2 = on2 then (x.1, x.2.1) else (ml2 x.1 (ml2 (iv2 x.2.2) (iv2 x.2.2)), ml2 (ml2 x.2.1 (ml2 (iv2 x.2.2) (iv2 x.2.2))) (iv2 x.2.2))
theorem fY {a b : W2} : [a.1, a.2] = [b.1, b.2] ↔ a = b := ⟨fun h => by simp only [List.cons.injEq, and_true] at h; exact Prod.ext h.1 h.2, fun h => by rw [h]⟩
theorem r9xy (x : W6) : Pure Tryz.prog Gt 118 [EV6 x] (.tuple #[EV2 (XYJ x).1, EV2 (XYJ x).2]) := by
 by_cases h : x.2.2 = on2
 ·exact (a8 (l1 (V6 _)) rfl (pE J2.TO56 Tryz.func118 [.inl [x.1.1, x.1.2, x.2.1.1, x.2.1.2, x.2.2.1, x.2.2.2]] (.inr [.inl [((XYJ x).1).1, ((XYJ x).1).2], .inl [((XYJ x).2).1, ((XYJ x).2).2]]) (let t0 := on2; (.inr [.inl [x.1.1, x.1.2], .inl [x.2.1.1, x.2.1.2]], [(decide ([x.2.2.1, x.2.2.2] = [t0.1, t0.2]), true)])) [some true] (by kernel_rfl) (az (decide_eq_true (fY.2 h)) aE) (by rw [show XYJ x = _ from if_pos h] <;> exact rfl)))
 ·exact (a8 (l1 (V6 _)) rfl (pE J2.TO56 Tryz.func118 [.inl [x.1.1, x.1.2, x.2.1.1, x.2.1.2, x.2.2.1, x.2.2.2]] (.inr [.inl [((XYJ x).1).1, ((XYJ x).1).2], .inl [((XYJ x).2).1, ((XYJ x).2).2]]) (let t0 := on2; let t1 := iv2 (x.2.2.1, x.2.2.2); let t2 := ml2 (t1.1, t1.2) (t1.1, t1.2); let t3 := ml2 (x.1.1, x.1.2) (t2.1, t2.2); let t4 := ml2 (x.2.1.1, x.2.1.2) (t2.1, t2.2); let t5 := ml2 (t4.1, t4.2) (t1.1, t1.2); (.inr [.inl [t3.1, t3.2], .inl [t5.1, t5.2]], [(decide ([x.2.2.1, x.2.2.2] = [t0.1, t0.2]), false)])) [some false] (by kernel_rfl) (az (decide_eq_false fun e => h (fY.1 e)) aE) (by rw [show XYJ x = _ from if_neg h] <;> exact rfl)))
theorem pI {f : Nat} {g : W6 → W2 × W2} (en : ac Tryz.prog f) (h : ∀ a, Pure Tryz.prog Gt f [EV6 a] (.tuple #[EV2 (g a).1, EV2 (g a).2])) : Snd Tryz.prog Gt f (c1 q6.ag q2.rd2 g) := dQ q6.ag q2.rd2 en (fun a => a8 (l1 (V6 _).symm) rfl (h a))
def TO201 : Tb Tryz.prog Gt := J2.TO56.add (pI (g := XYJ) ent118 r9xy)
end
section
open Go.RowKit
attribute [local simp] a6 bq aH aB aP aZ aO aM aT PLl cB cC N1l cH cG cz bk br a5 bn bd J1.bC J2.bC
theorem ent120 : ac Tryz.prog 120 := fun _ _ => by kernel_rfl
namespace Q6
abbrev TT (x : W12) : Value := TV (p12 x)
theorem gN (f : Nat → List (BitVec 64)) (n : Nat) (h : (f n).length = 12) : FM f (n + 1) = FM f n ++ f n := List.ext_getElem? fun m => by
 by_cases h1 : m < 12 * n
 ·rw [jE _ _ _ (by omega), List.getElem?_append_left (by rw [bd]; exact h1), jE _ _ _ h1]
 ·by_cases h2 : m < 12 * (n + 1)
  ·rw [jE _ _ _ h2, List.getElem?_append_right (by rw [bd]; omega), bd, show m / 12 = n by omega, show m % 12 = m - 12 * n by omega, List.getD_eq_getElem?_getD, List.getElem?_eq_getElem (by rw [h]; omega)]; rfl
  ·rw [List.getElem?_eq_none (by rw [bd]; omega), List.getElem?_eq_none (by rw [List.length_append, bd, h]; omega)]
theorem ff_0 (x : W12) : FF (p12 x) 0 = fe x.1.1.1 ++ fe x.1.1.2 := rfl
theorem ff_1 (x : W12) : FF (p12 x) 1 = fe x.2.1.1 ++ fe x.2.1.2 := rfl
theorem ff_2 (x : W12) : FF (p12 x) 2 = fe x.1.2.1.1 ++ fe x.1.2.1.2 := rfl
theorem ff_3 (x : W12) : FF (p12 x) 3 = fe x.2.2.1.1 ++ fe x.2.2.1.2 := rfl
theorem ff_4 (x : W12) : FF (p12 x) 4 = fe x.1.2.2.1 ++ fe x.1.2.2.2 := rfl
theorem ff_5 (x : W12) : FF (p12 x) 5 = fe x.2.2.2.1 ++ fe x.2.2.2.2 := rfl
theorem FM_6 (f : Nat → List (BitVec 64)) (h : ∀ i, (f i).length = 12) : FM f 6 = f 0 ++ (f 1 ++ (f 2 ++ (f 3 ++ (f 4 ++ f 5)))) := by
 rw [gN _ 5 (h _), gN _ 4 (h _), gN _ 3 (h _), gN _ 2 (h _), gN _ 1 (h _), gN _ 0 (h _), show FM f 0 = [] from rfl]
 simp only [List.append_assoc, List.nil_append]
theorem CW (a b c d e f g h i j k m : Zp) : cel [a, b, c, d, e, f, g, h, i, j, k, m] = fe a ++ (fe b ++ (fe c ++ (fe d ++ (fe e ++ (fe f ++ (fe g ++ (fe h ++ (fe i ++ (fe j ++ (fe k ++ fe m)))))))))) := rfl
theorem VT (x : W12) : TT x = dn rid (.inl [x.1.1.1, x.1.1.2, x.2.1.1, x.2.1.2, x.1.2.1.1, x.1.2.1.2, x.2.2.1.1, x.2.2.1.2, x.1.2.2.1, x.1.2.2.2, x.2.2.2.1, x.2.2.2.2]) := by
 show Value.agg ((FM (FF (p12 x)) 6).map U64).toArray = Value.agg ((cel [x.1.1.1, x.1.1.2, x.2.1.1, x.2.1.2, x.1.2.1.1, x.1.2.1.2, x.2.2.1.1, x.2.2.1.2, x.1.2.2.1, x.1.2.2.2, x.2.2.2.1, x.2.2.2.2]).map U64).toArray
 rw [FM_6 (FF (p12 x)) (fun _ => a5 _), CW, ff_0, ff_1, ff_2, ff_3, ff_4, ff_5]
 simp only [List.append_assoc]
theorem rH {f : Nat → W2} {x : W12} (h : tq f = x) : TV f = TT x := by
 subst h
 refine congrArg (fun l => Value.agg (List.map U64 l).toArray) (eo fun i hi => ?_)
 match i, hi with
 | 0, _ => rfl
 | 1, _ => rfl
 | 2, _ => rfl
 | 3, _ => rfl
 | 4, _ => rfl
 | 5, _ => rfl
theorem C6 (x y : W12) : Pure Tryz.prog Gt 72 [TT x, TT y] (TT (K12.mul x y)) := by rw [← rH (show tq (TMf (p12 x) (p12 y)) = K12.mul x y from qw (p12 x) (p12 y))]; exact B4 _ _
theorem jV {f : Nat} {g : W12 → W12 → W12} (en : ac Tryz.prog f) (h : ∀ a b, Pure Tryz.prog Gt f [TT a, TT b] (TT (g a b))) : Snd Tryz.prog Gt f (c2 qT.ag qT.ag qT.rd g) := dM qT.ag qT.ag qT.rd en (fun a b => a8 (l2 (VT _).symm (VT _).symm) (VT _).symm (h a b))
def TO202 : Tb Tryz.prog Gt := TO201.add (jV (g := K12.mul) ent72 C6)
theorem vr (x : W12) : Pure Tryz.prog Gt 71 [TT x] (TT (bz x)) := by rw [← rH (show tq (tcj (p12 x)) = bz x from rfl)]; exact qL _
theorem fQ {f : Nat} {g : W12 → W12} (en : ac Tryz.prog f) (h : ∀ a, Pure Tryz.prog Gt f [TT a] (TT (g a))) : Snd Tryz.prog Gt f (c1 qT.ag qT.rd g) := dQ qT.ag qT.rd en (fun a => a8 (l1 (VT _).symm) (VT _).symm (h a))
def TO203 : Tb Tryz.prog Gt := TO202.add (fQ (g := bz) ent71 vr)
theorem GE (x : W12) : Pure Tryz.prog Gt 73 [TT x] (TT (eK x)) := by rw [← rH (show tq (TIf (p12 x)) = eK x from FC (p12 x))]; exact Jh _
def TO204 : Tb Tryz.prog Gt := TO203.add (fQ (g := eK) ent73 GE)
theorem tone  : Pure Tryz.prog Gt 116 [] (TT K12.one) := (a8 rfl (VT _) (pE TO204 Tryz.func116 [] (.inl (.inl [K12.one.1.1.1, K12.one.1.1.2, K12.one.2.1.1, K12.one.2.1.2, K12.one.1.2.1.1, K12.one.1.2.1.2, K12.one.2.2.1.1, K12.one.2.2.1.2, K12.one.1.2.2.1, K12.one.1.2.2.2, K12.one.2.2.2.1, K12.one.2.2.2.2])) (let t0 := on2; (.inl (.inl [t0.1, t0.2, 0, 0, 0, 0, 0, 0, 0, 0, 0, 0]), [])) [] (by kernel_rfl) aE rfl))
theorem Jg {f : Nat} {g : W12} (en : ac Tryz.prog f) (h : Pure Tryz.prog Gt f [] (TT g)) : Snd Tryz.prog Gt f (c0 qT.rd g) := mz qT.rd en (a8 rfl (VT _).symm h)
def TO205 : Tb Tryz.prog Gt := TO204.add (Jg (g := K12.one) ent116 tone)
theorem yG (x : W12) : Pure Tryz.prog Gt 17 [bE x] (TT x) := (a8 (l1 (V12 _)) (VT _) (pE TO205 Tryz.func17 [.inl [x.1.1.1, x.1.1.2, x.1.2.1.1, x.1.2.1.2, x.1.2.2.1, x.1.2.2.2, x.2.1.1, x.2.1.2, x.2.2.1.1, x.2.2.1.2, x.2.2.2.1, x.2.2.2.2]] (.inl (.inl [x.1.1.1, x.1.1.2, x.2.1.1, x.2.1.2, x.1.2.1.1, x.1.2.1.2, x.2.2.1.1, x.2.2.1.2, x.1.2.2.1, x.1.2.2.2, x.2.2.2.1, x.2.2.2.2])) (let t0 := (x.1.1.1, x.1.1.2); let t1 := (x.2.1.1, x.2.1.2); let t2 := (x.1.2.1.1, x.1.2.1.2); let t3 := (x.2.2.1.1, x.2.2.1.2); let t4 := (x.1.2.2.1, x.1.2.2.2); let t5 := (x.2.2.2.1, x.2.2.2.2); (.inl (.inl [t0.1, t0.2, t1.1, t1.2, t2.1, t2.2, t3.1, t3.2, t4.1, t4.2, t5.1, t5.2]), [])) [] (by kernel_rfl) aE rfl))
theorem oF {f : Nat} {g : W12 → W12} (en : ac Tryz.prog f) (h : ∀ a, Pure Tryz.prog Gt f [bE a] (TT (g a))) : Snd Tryz.prog Gt f (c1 q12.ag qT.rd g) := dQ q12.ag qT.rd en (fun a => a8 (l1 (V12 _).symm) (VT _).symm (h a))
def TO206 : Tb Tryz.prog Gt := TO205.add (oF (g := fun x => x) ent17 yG)
end Q6
end
section
open Go.RowKit
attribute [local simp] a6 bq aH aB aP aZ aO aM aT PLl cB cC N1l cH cG cz bk br a5 bn bd J1.bC J2.bC
namespace Q6
theorem l4 {a b c d e f g h : Value} (i : a = b) (j : c = d) (k : e = f) (m : g = h) : [a, c, e, g] = [b, d, f, h] := by rw [i, j, k, m]
theorem I5 {p : Prop} [Decidable p] (h : ¬ p) : (!decide p) = true := by rw [decide_eq_false h]; rfl
theorem xe {p : Prop} [Decidable p] (h : p) : (!decide p) = false := by rw [decide_eq_true h]; rfl
def LT (a : W2 × W2) (s x y : W2) : W12 := ((E2w.sub (ml2 s a.1) a.2, ng2 (ml2 s x), ze2), (ze2, y, ze2))
def TGS (a : W2 × W2) : W2 := ml2 (ad2 (ad2 (ml2 a.1 a.1) (ml2 a.1 a.1)) (ml2 a.1 a.1)) (iv2 (ad2 a.2 a.2))
def CHS (a b : W2 × W2) : W2 := ml2 (E2w.sub b.2 a.2) (iv2 (E2w.sub b.1 a.1))
def LNA (a b : W2 × W2) (x y : W2) : W12 × Bool :=
 if a.1 = b.1 then if a.2 = b.2 then if a.2 = ze2 then (K12.one, false) else (LT a (TGS a) x y, true) else (K12.one, false) else (LT a (CHS a b) x y, true)
def LNr (r q : W6) (x y : W2) : W12 × Bool := if r.2.2 = ze2 then (K12.one, false) else if q.2.2 = ze2 then (K12.one, false) else LNA (XYJ r) (XYJ q) x y
theorem A6 (r q : W6) (x y : W2) : Pure Tryz.prog Gt 120 [EV6 r, EV6 q, EV2 x, EV2 y] (.tuple #[TT (LNr r q x y).1, .bool (LNr r q x y).2]) := by
 by_cases h : r.2.2 = ze2
 ·exact (a8 (l4 (V6 _) (V6 _) rfl rfl) (t2 (VT _)) (pE TO206 Tryz.func120 [.inl [r.1.1, r.1.2, r.2.1.1, r.2.1.2, r.2.2.1, r.2.2.2], .inl [q.1.1, q.1.2, q.2.1.1, q.2.1.2, q.2.2.1, q.2.2.2], .inl [x.1, x.2], .inl [y.1, y.2]] (.inr [.inl [((LNr r q x y).1).1.1.1, ((LNr r q x y).1).1.1.2, ((LNr r q x y).1).2.1.1, ((LNr r q x y).1).2.1.2, ((LNr r q x y).1).1.2.1.1, ((LNr r q x y).1).1.2.1.2, ((LNr r q x y).1).2.2.1.1, ((LNr r q x y).1).2.2.1.2, ((LNr r q x y).1).1.2.2.1, ((LNr r q x y).1).1.2.2.2, ((LNr r q x y).1).2.2.2.1, ((LNr r q x y).1).2.2.2.2], .inr (.inl ((LNr r q x y).2))]) (let t0 := K12.one; (.inr [.inl [t0.1.1.1, t0.1.1.2, t0.2.1.1, t0.2.1.2, t0.1.2.1.1, t0.1.2.1.2, t0.2.2.1.1, t0.2.2.1.2, t0.1.2.2.1, t0.1.2.2.2, t0.2.2.2.1, t0.2.2.2.2], .inr (.inl false)], [(decide (r.2.2 = ze2), true)])) [some true] (by kernel_rfl) (az (decide_eq_true h) aE) (by rw [show LNr r q x y = _ from if_pos h] <;> exact rfl)))
 ·by_cases h2 : q.2.2 = ze2
  ·exact (a8 (l4 (V6 _) (V6 _) rfl rfl) (t2 (VT _)) (pE TO206 Tryz.func120 [.inl [r.1.1, r.1.2, r.2.1.1, r.2.1.2, r.2.2.1, r.2.2.2], .inl [q.1.1, q.1.2, q.2.1.1, q.2.1.2, q.2.2.1, q.2.2.2], .inl [x.1, x.2], .inl [y.1, y.2]] (.inr [.inl [((LNr r q x y).1).1.1.1, ((LNr r q x y).1).1.1.2, ((LNr r q x y).1).2.1.1, ((LNr r q x y).1).2.1.2, ((LNr r q x y).1).1.2.1.1, ((LNr r q x y).1).1.2.1.2, ((LNr r q x y).1).2.2.1.1, ((LNr r q x y).1).2.2.1.2, ((LNr r q x y).1).1.2.2.1, ((LNr r q x y).1).1.2.2.2, ((LNr r q x y).1).2.2.2.1, ((LNr r q x y).1).2.2.2.2], .inr (.inl ((LNr r q x y).2))]) (let t0 := K12.one; (.inr [.inl [t0.1.1.1, t0.1.1.2, t0.2.1.1, t0.2.1.2, t0.1.2.1.1, t0.1.2.1.2, t0.2.2.1.1, t0.2.2.1.2, t0.1.2.2.1, t0.1.2.2.2, t0.2.2.2.1, t0.2.2.2.2], .inr (.inl false)], [(decide (r.2.2 = ze2), false), (decide (q.2.2 = ze2), true)])) [some false, some true] (by kernel_rfl) (az (decide_eq_false h) (az (decide_eq_true h2) aE)) (by rw [show LNr r q x y = _ from (if_neg h).trans (if_pos h2)] <;> exact rfl)))
  ·by_cases h3 : (XYJ r).1 = (XYJ q).1
   ·by_cases h4 : (XYJ r).2 = (XYJ q).2
    ·by_cases h5 : (XYJ r).2 = ze2
     ·exact (a8 (l4 (V6 _) (V6 _) rfl rfl) (t2 (VT _)) (pE TO206 Tryz.func120 [.inl [r.1.1, r.1.2, r.2.1.1, r.2.1.2, r.2.2.1, r.2.2.2], .inl [q.1.1, q.1.2, q.2.1.1, q.2.1.2, q.2.2.1, q.2.2.2], .inl [x.1, x.2], .inl [y.1, y.2]] (.inr [.inl [((LNr r q x y).1).1.1.1, ((LNr r q x y).1).1.1.2, ((LNr r q x y).1).2.1.1, ((LNr r q x y).1).2.1.2, ((LNr r q x y).1).1.2.1.1, ((LNr r q x y).1).1.2.1.2, ((LNr r q x y).1).2.2.1.1, ((LNr r q x y).1).2.2.1.2, ((LNr r q x y).1).1.2.2.1, ((LNr r q x y).1).1.2.2.2, ((LNr r q x y).1).2.2.2.1, ((LNr r q x y).1).2.2.2.2], .inr (.inl ((LNr r q x y).2))]) (let t0 := K12.one; let t1 := (XYJ r).1; let t2 := (XYJ r).2; let t3 := (XYJ q).1; let t4 := (XYJ q).2; (.inr [.inl [t0.1.1.1, t0.1.1.2, t0.2.1.1, t0.2.1.2, t0.1.2.1.1, t0.1.2.1.2, t0.2.2.1.1, t0.2.2.1.2, t0.1.2.2.1, t0.1.2.2.2, t0.2.2.2.1, t0.2.2.2.2], .inr (.inl false)], [(decide (r.2.2 = ze2), false), (decide (q.2.2 = ze2), false), (!decide ([t1.1, t1.2] = [t3.1, t3.2]), false), (!decide ([t2.1, t2.2] = [t4.1, t4.2]), false), (decide ((t2.1, t2.2) = ze2), true)])) [some false, some false, some false, some false, some true] (by kernel_rfl) (az (decide_eq_false h) (az (decide_eq_false h2) (az (xe (fY.2 h3)) (az (xe (fY.2 h4)) (az (decide_eq_true h5) aE))))) (by rw [show LNr r q x y = _ from (if_neg h).trans ((if_neg h2).trans ((if_pos h3).trans ((if_pos h4).trans (if_pos h5))))] <;> exact rfl)))
     ·exact (a8 (l4 (V6 _) (V6 _) rfl rfl) (t2 (VT _)) (pE TO206 Tryz.func120 [.inl [r.1.1, r.1.2, r.2.1.1, r.2.1.2, r.2.2.1, r.2.2.2], .inl [q.1.1, q.1.2, q.2.1.1, q.2.1.2, q.2.2.1, q.2.2.2], .inl [x.1, x.2], .inl [y.1, y.2]] (.inr [.inl [((LNr r q x y).1).1.1.1, ((LNr r q x y).1).1.1.2, ((LNr r q x y).1).2.1.1, ((LNr r q x y).1).2.1.2, ((LNr r q x y).1).1.2.1.1, ((LNr r q x y).1).1.2.1.2, ((LNr r q x y).1).2.2.1.1, ((LNr r q x y).1).2.2.1.2, ((LNr r q x y).1).1.2.2.1, ((LNr r q x y).1).1.2.2.2, ((LNr r q x y).1).2.2.2.1, ((LNr r q x y).1).2.2.2.2], .inr (.inl ((LNr r q x y).2))]) (let t1 := (XYJ r).1; let t2 := (XYJ r).2; let t3 := (XYJ q).1; let t4 := (XYJ q).2; let t5 := ml2 (t1.1, t1.2) (t1.1, t1.2); let t6 := ad2 (t5.1, t5.2) (t5.1, t5.2); let t7 := ad2 (t6.1, t6.2) (t5.1, t5.2); let t8 := ad2 (t2.1, t2.2) (t2.1, t2.2); let t9 := iv2 (t8.1, t8.2); let t10 := ml2 (t7.1, t7.2) (t9.1, t9.2); let t11 := ml2 (t10.1, t10.2) (t1.1, t1.2); let t12 := E2w.sub (t11.1, t11.2) (t2.1, t2.2); let t13 := ml2 (t10.1, t10.2) x; let t14 := ng2 (t13.1, t13.2); (.inr [.inl [t12.1, t12.2, 0, 0, t14.1, t14.2, y.1, y.2, 0, 0, 0, 0], .inr (.inl true)], [(decide (r.2.2 = ze2), false), (decide (q.2.2 = ze2), false), (!decide ([t1.1, t1.2] = [t3.1, t3.2]), false), (!decide ([t2.1, t2.2] = [t4.1, t4.2]), false), (decide ((t2.1, t2.2) = ze2), false)])) [some false, some false, some false, some false, some false] (by kernel_rfl) (az (decide_eq_false h) (az (decide_eq_false h2) (az (xe (fY.2 h3)) (az (xe (fY.2 h4)) (az (decide_eq_false h5) aE))))) (by rw [show LNr r q x y = _ from (if_neg h).trans ((if_neg h2).trans ((if_pos h3).trans ((if_pos h4).trans (if_neg h5))))] <;> exact rfl)))
    ·exact (a8 (l4 (V6 _) (V6 _) rfl rfl) (t2 (VT _)) (pE TO206 Tryz.func120 [.inl [r.1.1, r.1.2, r.2.1.1, r.2.1.2, r.2.2.1, r.2.2.2], .inl [q.1.1, q.1.2, q.2.1.1, q.2.1.2, q.2.2.1, q.2.2.2], .inl [x.1, x.2], .inl [y.1, y.2]] (.inr [.inl [((LNr r q x y).1).1.1.1, ((LNr r q x y).1).1.1.2, ((LNr r q x y).1).2.1.1, ((LNr r q x y).1).2.1.2, ((LNr r q x y).1).1.2.1.1, ((LNr r q x y).1).1.2.1.2, ((LNr r q x y).1).2.2.1.1, ((LNr r q x y).1).2.2.1.2, ((LNr r q x y).1).1.2.2.1, ((LNr r q x y).1).1.2.2.2, ((LNr r q x y).1).2.2.2.1, ((LNr r q x y).1).2.2.2.2], .inr (.inl ((LNr r q x y).2))]) (let t0 := K12.one; let t1 := (XYJ r).1; let t2 := (XYJ r).2; let t3 := (XYJ q).1; let t4 := (XYJ q).2; (.inr [.inl [t0.1.1.1, t0.1.1.2, t0.2.1.1, t0.2.1.2, t0.1.2.1.1, t0.1.2.1.2, t0.2.2.1.1, t0.2.2.1.2, t0.1.2.2.1, t0.1.2.2.2, t0.2.2.2.1, t0.2.2.2.2], .inr (.inl false)], [(decide (r.2.2 = ze2), false), (decide (q.2.2 = ze2), false), (!decide ([t1.1, t1.2] = [t3.1, t3.2]), false), (!decide ([t2.1, t2.2] = [t4.1, t4.2]), true)])) [some false, some false, some false, some true] (by kernel_rfl) (az (decide_eq_false h) (az (decide_eq_false h2) (az (xe (fY.2 h3)) (az (I5 fun e => h4 (fY.1 e)) aE)))) (by rw [show LNr r q x y = _ from (if_neg h).trans ((if_neg h2).trans ((if_pos h3).trans (if_neg h4)))] <;> exact rfl)))
   ·exact (a8 (l4 (V6 _) (V6 _) rfl rfl) (t2 (VT _)) (pE TO206 Tryz.func120 [.inl [r.1.1, r.1.2, r.2.1.1, r.2.1.2, r.2.2.1, r.2.2.2], .inl [q.1.1, q.1.2, q.2.1.1, q.2.1.2, q.2.2.1, q.2.2.2], .inl [x.1, x.2], .inl [y.1, y.2]] (.inr [.inl [((LNr r q x y).1).1.1.1, ((LNr r q x y).1).1.1.2, ((LNr r q x y).1).2.1.1, ((LNr r q x y).1).2.1.2, ((LNr r q x y).1).1.2.1.1, ((LNr r q x y).1).1.2.1.2, ((LNr r q x y).1).2.2.1.1, ((LNr r q x y).1).2.2.1.2, ((LNr r q x y).1).1.2.2.1, ((LNr r q x y).1).1.2.2.2, ((LNr r q x y).1).2.2.2.1, ((LNr r q x y).1).2.2.2.2], .inr (.inl ((LNr r q x y).2))]) (let t1 := (XYJ r).1; let t2 := (XYJ r).2; let t3 := (XYJ q).1; let t4 := (XYJ q).2; let t5 := E2w.sub (t4.1, t4.2) (t2.1, t2.2); let t6 := E2w.sub (t3.1, t3.2) (t1.1, t1.2); let t7 := iv2 (t6.1, t6.2); let t8 := ml2 (t5.1, t5.2) (t7.1, t7.2); let t9 := ml2 (t8.1, t8.2) (t1.1, t1.2); let t10 := E2w.sub (t9.1, t9.2) (t2.1, t2.2); let t11 := ml2 (t8.1, t8.2) x; let t12 := ng2 (t11.1, t11.2); (.inr [.inl [t10.1, t10.2, 0, 0, t12.1, t12.2, y.1, y.2, 0, 0, 0, 0], .inr (.inl true)], [(decide (r.2.2 = ze2), false), (decide (q.2.2 = ze2), false), (!decide ([t1.1, t1.2] = [t3.1, t3.2]), true)])) [some false, some false, some true] (by kernel_rfl) (az (decide_eq_false h) (az (decide_eq_false h2) (az (I5 fun e => h3 (fY.1 e)) aE))) (by rw [show LNr r q x y = _ from (if_neg h).trans ((if_neg h2).trans (if_neg h3))] <;> exact rfl)))
theorem eS {f : Nat} {g : W6 → W6 → W2 → W2 → W12} {k : W6 → W6 → W2 → W2 → Bool} (en : ac Tryz.prog f) (h : ∀ a b c d, Pure Tryz.prog Gt f [EV6 a, EV6 b, EV2 c, EV2 d] (.tuple #[TT (g a b c d), .bool (k a b c d)])) : Snd Tryz.prog Gt f (c4 q6.ag q6.ag q2.ag q2.ag qT.rdB (fun a b c d => ((g a b c d), (k a b c d)))) := IQ q6.ag q6.ag q2.ag q2.ag qT.rdB en (fun a b c d => a8 (l4 (V6 _).symm (V6 _).symm rfl rfl) (t2 (VT _).symm) (h a b c d))
def TO207 : Tb Tryz.prog Gt := TO206.add (eS (g := fun r q x y => (LNr r q x y).1) (k := fun r q x y => (LNr r q x y).2) ent120 A6)
end Q6
end
section
namespace Q6
end Q6
end
end Go.Proofs.YtpnpiblphnpfiaaGreatDoor
