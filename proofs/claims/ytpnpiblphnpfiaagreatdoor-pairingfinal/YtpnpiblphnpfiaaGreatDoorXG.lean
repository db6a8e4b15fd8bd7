/-
 What the laws of layer 10 share, of the first group: the document's points of the program's; Lift.
 What the laws of layer 11 share, of the second group: the document's points of the program's; Lift.
 The reference's XY.
 The reference's elements of twelve as rows; the laws' refs; Line.
 The reference's Line.
 The reference's Line, of points: the document's.
-/
import Derived.Test.YtpnpiblphnpfiaaGreatDoorXD
import Derived.Test.YtpnpiblphnpfiaaGreatDoorX3
import Derived.Test.YtpnpiblphnpfiaaGreatDoorX5
import Derived.Test.YtpnpiblphnpfiaaGreatDoorXJ
import Derived.Test.YtpnpiblphnpfiaaGreatDoorXF
import Derived.Test.YtpnpiblphnpfiaaGreatDoorX2
set_option maxRecDepth 100000
set_option maxHeartbeats 1000000
namespace Go.Proofs.YtpnpiblphnpfiaaGreatDoor
section
open Go.RowKit
attribute [local simp] aZ bk aF aA aN aW aL aK aR PLl cy cx N1l cv cw cz bh bl aX bi ba J1.bu
theorem rV3 {Q P : Prop} (k : Q) (h : Q → P := by intro k; (refine LY.run ?_); (repeat (first | refine bC rfl rfl rfl ?_ | refine bc rfl rfl rfl ?_ | ((refine nr rfl rfl ?_ rfl rfl ?_); (· simp)) | ((refine C8 rfl rfl ?_ rfl rfl ?_); (· simp)) | ((refine ra38 rfl rfl ?_ rfl rfl ?_); (· simp)) | ((refine og hGF rfl rfl rfl ?_ ?_ (ak _) rfl ?_); (· simp); (· simp)) | ((refine EM hGF rfl rfl rfl ?_ ?_ (ak _) rfl ?_); (· simp); (· simp)) | ((refine Aq hGF rfl rfl rfl ?_ ?_ (gW _) rfl ?_); (· simp); (· simp)) | ((refine sa40 hGF rfl rfl rfl ?_ ?_ (ak _) rfl ?_); (· simp); (· simp)) | ((refine sa38 hGF rfl rfl rfl ?_ ?_ (ak _) rfl ?_); (· simp); (· simp)) | refine d5 rfl rfl rfl rfl ?_)); (first | refine bV ?_ | refine LY.mk ?_); exact k) : P := h k
theorem pV3 {Q P : Prop} (k : Q) (h : Q → P := by intro k; (refine xp ?_); (refine rV3 ?_); exact k) : P := h k
theorem ent54 : ac Tryz.prog 54 := fun _ _ => by kernel_rfl
namespace J1
theorem y3 {P : Pt Zp} (h : ¬ P = none) : P = some (PX P, PY P) := by
 cases P with
 | none => exact absurd rfl h
 | some p => rfl
theorem BG (x : Zp) (b : Nat) (t : TypeId) (w : World) (hw : Gt w) (ho : OwnB w b ((uD x).map U8) t) :
  Calls Tryz.prog 126 [.slice (some ⟨b, 0, none⟩) 48 48].toArray w (fun r w' => r = .returned (.tuple #[NV (nm x), .bool true]) ∧ Grow w w') := by
 have h := y2 b t (uD x) (aR x) w hw ho
 rw [u1] at h
 exact h
theorem AO (x : Zp) : Pure Tryz.prog Gt 59 [EV x] (EV x) := by
 refine aU Tryz.func59 fun w hw hGF => ?_
 refine xp ?_
 refine lb fun b1 => ?_
 refine la zv40 fun b2 => ?_
 refine aa ?_
 refine pV3 ?_
 refine lc ent125 (nE _) ?_
 refine la zv115 fun b3 => ?_
 refine rV3 ?_
 refine xp ?_
 refine ei (l := 0) (h' := 48) rfl Tryz.underlying115 Tryz.sizeOf5 rfl rfl (by omega) (by omega) rfl rfl ?_
 refine bR rfl rfl ent126 (fun w' hC hG => BG x _ _ w' hG (hC.own 3 _ _ _ rfl).1) rfl rfl ?_
 refine rV3 ?_
 refine la zv38 fun b4 => ?_
 refine rV3 ?_
 refine pV3 ?_
 refine lc ent127 (rofE _) ?_
 refine rV3 ?_
 refine rt ?_
 exact aw 2 rfl rfl rfl Tryz.isAgg40 Tryz.sizeOf40 (by simp) (fun w hw => ⟨rfl, ah hw⟩)
def TO56 : Tb Tryz.prog Gt := TO55.add (dN (g := fun x => x) ent59 AO)
end J1
end
section
open Go.RowKit
attribute [local simp] aZ bk aF aA aN aW aL aK aR PLl cy cx N1l cv cw cz bh bl aX bi ba J2.bu
theorem rV4 {Q P : Prop} (k : Q) (h : Q → P := by intro k; (refine LY.run ?_); (repeat (first | refine bC rfl rfl rfl ?_ | refine bc rfl rfl rfl ?_ | ((refine xm rfl rfl ?_ rfl rfl rfl rfl ?_); (· simp)) | ((refine xJ rfl rfl ?_ ?_ rfl rfl rfl rfl ?_); (· simp); (· simp)) | ((refine Ca rfl rfl ?_ rfl rfl ?_); (· simp)) | ((refine sU rfl rfl ?_ rfl rfl ?_); (· simp)) | ((refine tM hGF rfl rfl rfl ?_ ?_ (ak _) rfl ?_); (· simp); (· simp)) | ((refine EM hGF rfl rfl rfl ?_ ?_ (ak _) rfl ?_); (· simp); (· simp)) | ((refine uL hGF rfl rfl rfl ?_ ?_ (ak _) rfl ?_); (· simp); (· simp)) | refine d5 rfl rfl rfl rfl ?_ | refine bz (f := 59) rfl rfl ent59 (J1.AO _) rfl rfl ?_)); (first | refine bV ?_ | refine LY.mk ?_); exact k) : P := h k
namespace J2
theorem e2p (x : W2) : Pure Tryz.prog Gt 54 [EV2 x] (EV2 x) := by
 refine aU Tryz.func54 fun w hw hGF => ?_
 refine xp ?_
 refine lb fun b1 => ?_
 refine la zv42 fun b2 => ?_
 refine aa ?_
 refine bx (E := EE []) a7 (by kernel_rfl) (by kernel_rfl) (by kernel_rfl) ?_
 refine rV4 ?_
 refine eD zG rfl rfl (by simp) (by simp) rfl rfl ?_
 refine rV4 ?_
 refine rt ?_
 exact aw 2 rfl rfl rfl Tryz.isAgg42 Tryz.sizeOf42 (by simp) (fun w hw => ⟨by rfl, ah hw⟩)
def TO56 : Tb Tryz.prog Gt := TO55.add (cB (g := fun x => x) ent54 e2p)
end J2
end
section
open Go.RowKit
attribute [local simp] aZ bk aF aA aN aW aL aK aR PLl cy cx N1l cv cw cz bh bl aX bi ba J1.bu J2.bu
def XYJ (x : W6) : W2 × W2 := if x.2.2 = on2 then (x.1, x.2.1) else (ml2 x.1 (ml2 (iv2 x.2.2) (iv2 x.2.2)), ml2 (ml2 x.2.1 (ml2 (iv2 x.2.2) (iv2 x.2.2))) (iv2 x.2.2))
theorem fJ {a b : W2} : [a.1, a.2] = [b.1, b.2] ↔ a = b := ⟨fun h => by simp only [List.cons.injEq, and_true] at h; exact Prod.ext h.1 h.2, fun h => by rw [h]⟩
theorem r9xy (x : W6) : Pure Tryz.prog Gt 118 [EV6 x] (.tuple #[EV2 (XYJ x).1, EV2 (XYJ x).2]) := by
 by_cases h : x.2.2 = on2
 ·exact (a5 (l1 (V6 _)) rfl (pE J2.TO56 Tryz.func118 [.inl [x.1.1, x.1.2, x.2.1.1, x.2.1.2, x.2.2.1, x.2.2.2]] (.inr [.inl [((XYJ x).1).1, ((XYJ x).1).2], .inl [((XYJ x).2).1, ((XYJ x).2).2]]) (let t0 := on2; (.inr [.inl [x.1.1, x.1.2], .inl [x.2.1.1, x.2.1.2]], [(decide ([x.2.2.1, x.2.2.2] = [t0.1, t0.2]), true)])) [some true] (by kernel_rfl) (ay (decide_eq_true (fJ.2 h)) aD) (by rw [show XYJ x = _ from if_pos h] <;> exact rfl)))
 ·exact (a5 (l1 (V6 _)) rfl (pE J2.TO56 Tryz.func118 [.inl [x.1.1, x.1.2, x.2.1.1, x.2.1.2, x.2.2.1, x.2.2.2]] (.inr [.inl [((XYJ x).1).1, ((XYJ x).1).2], .inl [((XYJ x).2).1, ((XYJ x).2).2]]) (let t0 := on2; let t1 := iv2 (x.2.2.1, x.2.2.2); let t2 := ml2 (t1.1, t1.2) (t1.1, t1.2); let t3 := ml2 (x.1.1, x.1.2) (t2.1, t2.2); let t4 := ml2 (x.2.1.1, x.2.1.2) (t2.1, t2.2); let t5 := ml2 (t4.1, t4.2) (t1.1, t1.2); (.inr [.inl [t3.1, t3.2], .inl [t5.1, t5.2]], [(decide ([x.2.2.1, x.2.2.2] = [t0.1, t0.2]), false)])) [some false] (by kernel_rfl) (ay (decide_eq_false fun e => h (fJ.1 e)) aD) (by rw [show XYJ x = _ from if_neg h] <;> exact rfl)))
theorem oG {f : Nat} {g : W6 → W2 × W2} (en : ac Tryz.prog f) (h : ∀ a, Pure Tryz.prog Gt f [EV6 a] (.tuple #[EV2 (g a).1, EV2 (g a).2])) : Snd Tryz.prog Gt f (c1 q6.ag q2.rd2 g) := dB q6.ag q2.rd2 en (fun a => a5 (l1 (V6 _).symm) rfl (h a))
def TO201 : Tb Tryz.prog Gt := J2.TO56.add (oG (g := XYJ) ent118 r9xy)
end
section
open Go.RowKit
attribute [local simp] aZ bk aF aA aN aW aL aK aR PLl cy cx N1l cv cw cz bh bl aX bi ba J1.bu J2.bu
theorem ent120 : ac Tryz.prog 120 := fun _ _ => by kernel_rfl
namespace Q6
abbrev TT (x : W12) : Value := TV (p12 x)
theorem gq (f : Nat → List (BitVec 64)) (n : Nat) (h : (f n).length = 12) : FM f (n + 1) = FM f n ++ f n := List.ext_getElem? fun m => by
 by_cases h1 : m < 12 * n
 ·rw [iN _ _ _ (by omega), List.getElem?_append_left (by rw [ba]; exact h1), iN _ _ _ h1]
 ·by_cases h2 : m < 12 * (n + 1)
  ·rw [iN _ _ _ h2, List.getElem?_append_right (by rw [ba]; omega), ba, show m / 12 = n by omega, show m % 12 = m - 12 * n by omega, List.getD_eq_getElem?_getD, List.getElem?_eq_getElem (by rw [h]; omega)]; rfl
  ·rw [List.getElem?_eq_none (by rw [ba]; omega), List.getElem?_eq_none (by rw [List.length_append, ba, h]; omega)]
theorem ff_0 (x : W12) : FF (p12 x) 0 = fe x.1.1.1 ++ fe x.1.1.2 := rfl
theorem ff_1 (x : W12) : FF (p12 x) 1 = fe x.2.1.1 ++ fe x.2.1.2 := rfl
theorem ff_2 (x : W12) : FF (p12 x) 2 = fe x.1.2.1.1 ++ fe x.1.2.1.2 := rfl
theorem ff_3 (x : W12) : FF (p12 x) 3 = fe x.2.2.1.1 ++ fe x.2.2.1.2 := rfl
theorem ff_4 (x : W12) : FF (p12 x) 4 = fe x.1.2.2.1 ++ fe x.1.2.2.2 := rfl
theorem ff_5 (x : W12) : FF (p12 x) 5 = fe x.2.2.2.1 ++ fe x.2.2.2.2 := rfl
theorem FM_6 (f : Nat → List (BitVec 64)) (h : ∀ i, (f i).length = 12) : FM f 6 = f 0 ++ (f 1 ++ (f 2 ++ (f 3 ++ (f 4 ++ f 5)))) := by
 rw [gq _ 5 (h _), gq _ 4 (h _), gq _ 3 (h _), gq _ 2 (h _), gq _ 1 (h _), gq _ 0 (h _), show FM f 0 = [] from rfl]
 simp only [List.append_assoc, List.nil_append]
theorem CG (a b c d e f g h i j k m : Zp) : cel [a, b, c, d, e, f, g, h, i, j, k, m] = fe a ++ (fe b ++ (fe c ++ (fe d ++ (fe e ++ (fe f ++ (fe g ++ (fe h ++ (fe i ++ (fe j ++ (fe k ++ fe m)))))))))) := rfl
theorem VT (x : W12) : TT x = dn rid (.inl [x.1.1.1, x.1.1.2, x.2.1.1, x.2.1.2, x.1.2.1.1, x.1.2.1.2, x.2.2.1.1, x.2.2.1.2, x.1.2.2.1, x.1.2.2.2, x.2.2.2.1, x.2.2.2.2]) := by
 show Value.agg ((FM (FF (p12 x)) 6).map U64).toArray = Value.agg ((cel [x.1.1.1, x.1.1.2, x.2.1.1, x.2.1.2, x.1.2.1.1, x.1.2.1.2, x.2.2.1.1, x.2.2.1.2, x.1.2.2.1, x.1.2.2.2, x.2.2.2.1, x.2.2.2.2]).map U64).toArray
 rw [FM_6 (FF (p12 x)) (fun _ => aX _), CG, ff_0, ff_1, ff_2, ff_3, ff_4, ff_5]
 simp only [List.append_assoc]
theorem qK {f : Nat → W2} {x : W12} (h : tq f = x) : TV f = TT x := by
 subst h
 refine congrArg (fun l => Value.agg (List.map U64 l).toArray) (d3 fun i hi => ?_)
 match i, hi with
 | 0, _ => rfl
 | 1, _ => rfl
 | 2, _ => rfl
 | 3, _ => rfl
 | 4, _ => rfl
 | 5, _ => rfl
theorem CV (x y : W12) : Pure Tryz.prog Gt 72 [TT x, TT y] (TT (K12.mul x y)) := by rw [← qK (show tq (TMf (p12 x) (p12 y)) = K12.mul x y from qE (p12 x) (p12 y))]; exact zH _ _
theorem jt {f : Nat} {g : W12 → W12 → W12} (en : ac Tryz.prog f) (h : ∀ a b, Pure Tryz.prog Gt f [TT a, TT b] (TT (g a b))) : Snd Tryz.prog Gt f (c2 qT.ag qT.ag qT.rd g) := dk qT.ag qT.ag qT.rd en (fun a b => a5 (l2 (VT _).symm (VT _).symm) (VT _).symm (h a b))
def TO202 : Tb Tryz.prog Gt := TO201.add (jt (g := K12.mul) ent72 CV)
theorem uz (x : W12) : Pure Tryz.prog Gt 71 [TT x] (TT (bw x)) := by rw [← qK (show tq (tcj (p12 x)) = bw x from rfl)]; exact px _
theorem fy {f : Nat} {g : W12 → W12} (en : ac Tryz.prog f) (h : ∀ a, Pure Tryz.prog Gt f [TT a] (TT (g a))) : Snd Tryz.prog Gt f (c1 qT.ag qT.rd g) := dB qT.ag qT.rd en (fun a => a5 (l1 (VT _).symm) (VT _).symm (h a))
def TO203 : Tb Tryz.prog Gt := TO202.add (fy (g := bw) ent71 uz)
theorem Fe (x : W12) : Pure Tryz.prog Gt 73 [TT x] (TT (d8 x)) := by rw [← qK (show tq (TIf (p12 x)) = d8 x from CM (p12 x))]; exact E8 _
def TO204 : Tb Tryz.prog Gt := TO203.add (fy (g := d8) ent73 Fe)
theorem tone  : Pure Tryz.prog Gt 116 [] (TT K12.one) := (a5 rfl (VT _) (pE TO204 Tryz.func116 [] (.inl (.inl [K12.one.1.1.1, K12.one.1.1.2, K12.one.2.1.1, K12.one.2.1.2, K12.one.1.2.1.1, K12.one.1.2.1.2, K12.one.2.2.1.1, K12.one.2.2.1.2, K12.one.1.2.2.1, K12.one.1.2.2.2, K12.one.2.2.2.1, K12.one.2.2.2.2])) (let t0 := on2; (.inl (.inl [t0.1, t0.2, 0, 0, 0, 0, 0, 0, 0, 0, 0, 0]), [])) [] (by kernel_rfl) aD rfl))
theorem Hb {f : Nat} {g : W12} (en : ac Tryz.prog f) (h : Pure Tryz.prog Gt f [] (TT g)) : Snd Tryz.prog Gt f (c0 qT.rd g) := lL qT.rd en (a5 rfl (VT _).symm h)
def TO205 : Tb Tryz.prog Gt := TO204.add (Hb (g := K12.one) ent116 tone)
theorem mt (x : W12) : Pure Tryz.prog Gt 17 [bv x] (TT x) := (a5 (l1 (V12 _)) (VT _) (pE TO205 Tryz.func17 [.inl [x.1.1.1, x.1.1.2, x.1.2.1.1, x.1.2.1.2, x.1.2.2.1, x.1.2.2.2, x.2.1.1, x.2.1.2, x.2.2.1.1, x.2.2.1.2, x.2.2.2.1, x.2.2.2.2]] (.inl (.inl [x.1.1.1, x.1.1.2, x.2.1.1, x.2.1.2, x.1.2.1.1, x.1.2.1.2, x.2.2.1.1, x.2.2.1.2, x.1.2.2.1, x.1.2.2.2, x.2.2.2.1, x.2.2.2.2])) (let t0 := (x.1.1.1, x.1.1.2); let t1 := (x.2.1.1, x.2.1.2); let t2 := (x.1.2.1.1, x.1.2.1.2); let t3 := (x.2.2.1.1, x.2.2.1.2); let t4 := (x.1.2.2.1, x.1.2.2.2); let t5 := (x.2.2.2.1, x.2.2.2.2); (.inl (.inl [t0.1, t0.2, t1.1, t1.2, t2.1, t2.2, t3.1, t3.2, t4.1, t4.2, t5.1, t5.2]), [])) [] (by kernel_rfl) aD rfl))
theorem oU {f : Nat} {g : W12 → W12} (en : ac Tryz.prog f) (h : ∀ a, Pure Tryz.prog Gt f [bv a] (TT (g a))) : Snd Tryz.prog Gt f (c1 q12.ag qT.rd g) := dB q12.ag qT.rd en (fun a => a5 (l1 (V12 _).symm) (VT _).symm (h a))
def TO206 : Tb Tryz.prog Gt := TO205.add (oU (g := fun x => x) ent17 mt)
end Q6
end
section
open Go.RowKit
attribute [local simp] aZ bk aF aA aN aW aL aK aR PLl cy cx N1l cv cw cz bh bl aX bi ba J1.bu J2.bu
namespace Q6
theorem l4 {a b c d e f g h : Value} (i : a = b) (j : c = d) (k : e = f) (m : g = h) : [a, c, e, g] = [b, d, f, h] := by rw [i, j, k, m]
theorem FP {p : Prop} [Decidable p] (h : ¬ p) : (!decide p) = true := by rw [decide_eq_false h]; rfl
theorem wC {p : Prop} [Decidable p] (h : p) : (!decide p) = false := by rw [decide_eq_true h]; rfl
def LT (a : W2 × W2) (s x y : W2) : W12 := ((E2w.sub (ml2 s a.1) a.2, ng2 (ml2 s x), ze2), (ze2, y, ze2))
def TGS (a : W2 × W2) : W2 := ml2 (ad2 (ad2 (ml2 a.1 a.1) (ml2 a.1 a.1)) (ml2 a.1 a.1)) (iv2 (ad2 a.2 a.2))
def CHS (a b : W2 × W2) : W2 := ml2 (E2w.sub b.2 a.2) (iv2 (E2w.sub b.1 a.1))
def LNA (a b : W2 × W2) (x y : W2) : W12 × Bool :=
 if a.1 = b.1 then if a.2 = b.2 then if a.2 = ze2 then (K12.one, false) else (LT a (TGS a) x y, true) else (K12.one, false) else (LT a (CHS a b) x y, true)
def LNr (r q : W6) (x y : W2) : W12 × Bool := if r.2.2 = ze2 then (K12.one, false) else if q.2.2 = ze2 then (K12.one, false) else LNA (XYJ r) (XYJ q) x y
theorem yW (r q : W6) (x y : W2) : Pure Tryz.prog Gt 120 [EV6 r, EV6 q, EV2 x, EV2 y] (.tuple #[TT (LNr r q x y).1, .bool (LNr r q x y).2]) := by
 by_cases h : r.2.2 = ze2
 ·exact (a5 (l4 (V6 _) (V6 _) rfl rfl) (t2 (VT _)) (pE TO206 Tryz.func120 [.inl [r.1.1, r.1.2, r.2.1.1, r.2.1.2, r.2.2.1, r.2.2.2], .inl [q.1.1, q.1.2, q.2.1.1, q.2.1.2, q.2.2.1, q.2.2.2], .inl [x.1, x.2], .inl [y.1, y.2]] (.inr [.inl [((LNr r q x y).1).1.1.1, ((LNr r q x y).1).1.1.2, ((LNr r q x y).1).2.1.1, ((LNr r q x y).1).2.1.2, ((LNr r q x y).1).1.2.1.1, ((LNr r q x y).1).1.2.1.2, ((LNr r q x y).1).2.2.1.1, ((LNr r q x y).1).2.2.1.2, ((LNr r q x y).1).1.2.2.1, ((LNr r q x y).1).1.2.2.2, ((LNr r q x y).1).2.2.2.1, ((LNr r q x y).1).2.2.2.2], .inr (.inl ((LNr r q x y).2))]) (let t0 := K12.one; (.inr [.inl [t0.1.1.1, t0.1.1.2, t0.2.1.1, t0.2.1.2, t0.1.2.1.1, t0.1.2.1.2, t0.2.2.1.1, t0.2.2.1.2, t0.1.2.2.1, t0.1.2.2.2, t0.2.2.2.1, t0.2.2.2.2], .inr (.inl false)], [(decide (r.2.2 = ze2), true)])) [some true] (by kernel_rfl) (ay (decide_eq_true h) aD) (by rw [show LNr r q x y = _ from if_pos h] <;> exact rfl)))
 ·by_cases h2 : q.2.2 = ze2
  ·exact (a5 (l4 (V6 _) (V6 _) rfl rfl) (t2 (VT _)) (pE TO206 Tryz.func120 [.inl [r.1.1, r.1.2, r.2.1.1, r.2.1.2, r.2.2.1, r.2.2.2], .inl [q.1.1, q.1.2, q.2.1.1, q.2.1.2, q.2.2.1, q.2.2.2], .inl [x.1, x.2], .inl [y.1, y.2]] (.inr [.inl [((LNr r q x y).1).1.1.1, ((LNr r q x y).1).1.1.2, ((LNr r q x y).1).2.1.1, ((LNr r q x y).1).2.1.2, ((LNr r q x y).1).1.2.1.1, ((LNr r q x y).1).1.2.1.2, ((LNr r q x y).1).2.2.1.1, ((LNr r q x y).1).2.2.1.2, ((LNr r q x y).1).1.2.2.1, ((LNr r q x y).1).1.2.2.2, ((LNr r q x y).1).2.2.2.1, ((LNr r q x y).1).2.2.2.2], .inr (.inl ((LNr r q x y).2))]) (let t0 := K12.one; (.inr [.inl [t0.1.1.1, t0.1.1.2, t0.2.1.1, t0.2.1.2, t0.1.2.1.1, t0.1.2.1.2, t0.2.2.1.1, t0.2.2.1.2, t0.1.2.2.1, t0.1.2.2.2, t0.2.2.2.1, t0.2.2.2.2], .inr (.inl false)], [(decide (r.2.2 = ze2), false), (decide (q.2.2 = ze2), true)])) [some false, some true] (by kernel_rfl) (ay (decide_eq_false h) (ay (decide_eq_true h2) aD)) (by rw [show LNr r q x y = _ from (if_neg h).trans (if_pos h2)] <;> exact rfl)))
  ·by_cases h3 : (XYJ r).1 = (XYJ q).1
   ·by_cases h4 : (XYJ r).2 = (XYJ q).2
    ·by_cases h5 : (XYJ r).2 = ze2
     ·exact (a5 (l4 (V6 _) (V6 _) rfl rfl) (t2 (VT _)) (pE TO206 Tryz.func120 [.inl [r.1.1, r.1.2, r.2.1.1, r.2.1.2, r.2.2.1, r.2.2.2], .inl [q.1.1, q.1.2, q.2.1.1, q.2.1.2, q.2.2.1, q.2.2.2], .inl [x.1, x.2], .inl [y.1, y.2]] (.inr [.inl [((LNr r q x y).1).1.1.1, ((LNr r q x y).1).1.1.2, ((LNr r q x y).1).2.1.1, ((LNr r q x y).1).2.1.2, ((LNr r q x y).1).1.2.1.1, ((LNr r q x y).1).1.2.1.2, ((LNr r q x y).1).2.2.1.1, ((LNr r q x y).1).2.2.1.2, ((LNr r q x y).1).1.2.2.1, ((LNr r q x y).1).1.2.2.2, ((LNr r q x y).1).2.2.2.1, ((LNr r q x y).1).2.2.2.2], .inr (.inl ((LNr r q x y).2))]) (let t0 := K12.one; let t1 := (XYJ r).1; let t2 := (XYJ r).2; let t3 := (XYJ q).1; let t4 := (XYJ q).2; (.inr [.inl [t0.1.1.1, t0.1.1.2, t0.2.1.1, t0.2.1.2, t0.1.2.1.1, t0.1.2.1.2, t0.2.2.1.1, t0.2.2.1.2, t0.1.2.2.1, t0.1.2.2.2, t0.2.2.2.1, t0.2.2.2.2], .inr (.inl false)], [(decide (r.2.2 = ze2), false), (decide (q.2.2 = ze2), false), (!decide ([t1.1, t1.2] = [t3.1, t3.2]), false), (!decide ([t2.1, t2.2] = [t4.1, t4.2]), false), (decide ((t2.1, t2.2) = ze2), true)])) [some false, some false, some false, some false, some true] (by kernel_rfl) (ay (decide_eq_false h) (ay (decide_eq_false h2) (ay (wC (fJ.2 h3)) (ay (wC (fJ.2 h4)) (ay (decide_eq_true h5) aD))))) (by rw [show LNr r q x y = _ from (if_neg h).trans ((if_neg h2).trans ((if_pos h3).trans ((if_pos h4).trans (if_pos h5))))] <;> exact rfl)))
     ·exact (a5 (l4 (V6 _) (V6 _) rfl rfl) (t2 (VT _)) (pE TO206 Tryz.func120 [.inl [r.1.1, r.1.2, r.2.1.1, r.2.1.2, r.2.2.1, r.2.2.2], .inl [q.1.1, q.1.2, q.2.1.1, q.2.1.2, q.2.2.1, q.2.2.2], .inl [x.1, x.2], .inl [y.1, y.2]] (.inr [.inl [((LNr r q x y).1).1.1.1, ((LNr r q x y).1).1.1.2, ((LNr r q x y).1).2.1.1, ((LNr r q x y).1).2.1.2, ((LNr r q x y).1).1.2.1.1, ((LNr r q x y).1).1.2.1.2, ((LNr r q x y).1).2.2.1.1, ((LNr r q x y).1).2.2.1.2, ((LNr r q x y).1).1.2.2.1, ((LNr r q x y).1).1.2.2.2, ((LNr r q x y).1).2.2.2.1, ((LNr r q x y).1).2.2.2.2], .inr (.inl ((LNr r q x y).2))]) (let t1 := (XYJ r).1; let t2 := (XYJ r).2; let t3 := (XYJ q).1; let t4 := (XYJ q).2; let t5 := ml2 (t1.1, t1.2) (t1.1, t1.2); let t6 := ad2 (t5.1, t5.2) (t5.1, t5.2); let t7 := ad2 (t6.1, t6.2) (t5.1, t5.2); let t8 := ad2 (t2.1, t2.2) (t2.1, t2.2); let t9 := iv2 (t8.1, t8.2); let t10 := ml2 (t7.1, t7.2) (t9.1, t9.2); let t11 := ml2 (t10.1, t10.2) (t1.1, t1.2); let t12 := E2w.sub (t11.1, t11.2) (t2.1, t2.2); let t13 := ml2 (t10.1, t10.2) x; let t14 := ng2 (t13.1, t13.2); (.inr [.inl [t12.1, t12.2, 0, 0, t14.1, t14.2, y.1, y.2, 0, 0, 0, 0], .inr (.inl true)], [(decide (r.2.2 = ze2), false), (decide (q.2.2 = ze2), false), (!decide ([t1.1, t1.2] = [t3.1, t3.2]), false), (!decide ([t2.1, t2.2] = [t4.1, t4.2]), false), (decide ((t2.1, t2.2) = ze2), false)])) [some false, some false, some false, some false, some false] (by kernel_rfl) (ay (decide_eq_false h) (ay (decide_eq_false h2) (ay (wC (fJ.2 h3)) (ay (wC (fJ.2 h4)) (ay (decide_eq_false h5) aD))))) (by rw [show LNr r q x y = _ from (if_neg h).trans ((if_neg h2).trans ((if_pos h3).trans ((if_pos h4).trans (if_neg h5))))] <;> exact rfl)))
    ·exact (a5 (l4 (V6 _) (V6 _) rfl rfl) (t2 (VT _)) (pE TO206 Tryz.func120 [.inl [r.1.1, r.1.2, r.2.1.1, r.2.1.2, r.2.2.1, r.2.2.2], .inl [q.1.1, q.1.2, q.2.1.1, q.2.1.2, q.2.2.1, q.2.2.2], .inl [x.1, x.2], .inl [y.1, y.2]] (.inr [.inl [((LNr r q x y).1).1.1.1, ((LNr r q x y).1).1.1.2, ((LNr r q x y).1).2.1.1, ((LNr r q x y).1).2.1.2, ((LNr r q x y).1).1.2.1.1, ((LNr r q x y).1).1.2.1.2, ((LNr r q x y).1).2.2.1.1, ((LNr r q x y).1).2.2.1.2, ((LNr r q x y).1).1.2.2.1, ((LNr r q x y).1).1.2.2.2, ((LNr r q x y).1).2.2.2.1, ((LNr r q x y).1).2.2.2.2], .inr (.inl ((LNr r q x y).2))]) (let t0 := K12.one; let t1 := (XYJ r).1; let t2 := (XYJ r).2; let t3 := (XYJ q).1; let t4 := (XYJ q).2; (.inr [.inl [t0.1.1.1, t0.1.1.2, t0.2.1.1, t0.2.1.2, t0.1.2.1.1, t0.1.2.1.2, t0.2.2.1.1, t0.2.2.1.2, t0.1.2.2.1, t0.1.2.2.2, t0.2.2.2.1, t0.2.2.2.2], .inr (.inl false)], [(decide (r.2.2 = ze2), false), (decide (q.2.2 = ze2), false), (!decide ([t1.1, t1.2] = [t3.1, t3.2]), false), (!decide ([t2.1, t2.2] = [t4.1, t4.2]), true)])) [some false, some false, some false, some true] (by kernel_rfl) (ay (decide_eq_false h) (ay (decide_eq_false h2) (ay (wC (fJ.2 h3)) (ay (FP fun e => h4 (fJ.1 e)) aD)))) (by rw [show LNr r q x y = _ from (if_neg h).trans ((if_neg h2).trans ((if_pos h3).trans (if_neg h4)))] <;> exact rfl)))
   ·exact (a5 (l4 (V6 _) (V6 _) rfl rfl) (t2 (VT _)) (pE TO206 Tryz.func120 [.inl [r.1.1, r.1.2, r.2.1.1, r.2.1.2, r.2.2.1, r.2.2.2], .inl [q.1.1, q.1.2, q.2.1.1, q.2.1.2, q.2.2.1, q.2.2.2], .inl [x.1, x.2], .inl [y.1, y.2]] (.inr [.inl [((LNr r q x y).1).1.1.1, ((LNr r q x y).1).1.1.2, ((LNr r q x y).1).2.1.1, ((LNr r q x y).1).2.1.2, ((LNr r q x y).1).1.2.1.1, ((LNr r q x y).1).1.2.1.2, ((LNr r q x y).1).2.2.1.1, ((LNr r q x y).1).2.2.1.2, ((LNr r q x y).1).1.2.2.1, ((LNr r q x y).1).1.2.2.2, ((LNr r q x y).1).2.2.2.1, ((LNr r q x y).1).2.2.2.2], .inr (.inl ((LNr r q x y).2))]) (let t1 := (XYJ r).1; let t2 := (XYJ r).2; let t3 := (XYJ q).1; let t4 := (XYJ q).2; let t5 := E2w.sub (t4.1, t4.2) (t2.1, t2.2); let t6 := E2w.sub (t3.1, t3.2) (t1.1, t1.2); let t7 := iv2 (t6.1, t6.2); let t8 := ml2 (t5.1, t5.2) (t7.1, t7.2); let t9 := ml2 (t8.1, t8.2) (t1.1, t1.2); let t10 := E2w.sub (t9.1, t9.2) (t2.1, t2.2); let t11 := ml2 (t8.1, t8.2) x; let t12 := ng2 (t11.1, t11.2); (.inr [.inl [t10.1, t10.2, 0, 0, t12.1, t12.2, y.1, y.2, 0, 0, 0, 0], .inr (.inl true)], [(decide (r.2.2 = ze2), false), (decide (q.2.2 = ze2), false), (!decide ([t1.1, t1.2] = [t3.1, t3.2]), true)])) [some false, some false, some true] (by kernel_rfl) (ay (decide_eq_false h) (ay (decide_eq_false h2) (ay (FP fun e => h3 (fJ.1 e)) aD))) (by rw [show LNr r q x y = _ from (if_neg h).trans ((if_neg h2).trans (if_neg h3))] <;> exact rfl)))
theorem ez {f : Nat} {g : W6 → W6 → W2 → W2 → W12} {k : W6 → W6 → W2 → W2 → Bool} (en : ac Tryz.prog f) (h : ∀ a b c d, Pure Tryz.prog Gt f [EV6 a, EV6 b, EV2 c, EV2 d] (.tuple #[TT (g a b c d), .bool (k a b c d)])) : Snd Tryz.prog Gt f (c4 q6.ag q6.ag q2.ag q2.ag qT.rdB (fun a b c d => ((g a b c d), (k a b c d)))) := FR q6.ag q6.ag q2.ag q2.ag qT.rdB en (fun a b c d => a5 (l4 (V6 _).symm (V6 _).symm rfl rfl) (t2 (VT _).symm) (h a b c d))
def TO207 : Tb Tryz.prog Gt := TO206.add (ez (g := fun r q x y => (LNr r q x y).1) (k := fun r q x y => (LNr r q x y).2) ent120 yW)
end Q6
end
section
namespace Q6
end Q6
end
end Go.Proofs.YtpnpiblphnpfiaaGreatDoor
