/-
 What the laws of layer 10 share, of the first group: the document's points of the program's; Lift.
 What the laws of layer 11 share, of the second group: the document's points of the program's; Lift.
 The reference's XY.
 The reference's elements of twelve as rows; the laws' refs; Line.
 The reference's Line.
 The reference's Line, of points: the document's.
-/
import Derived.Test.YtpnpiblphnpfiaaGreatDoorXD
import Derived.Test.YtpnpiblphnpfiaaGreatDoorX3
import Derived.Test.YtpnpiblphnpfiaaGreatDoorX5
import Derived.Test.YtpnpiblphnpfiaaGreatDoorXJ
import Derived.Test.YtpnpiblphnpfiaaGreatDoorXF
import Derived.Test.YtpnpiblphnpfiaaGreatDoorX2
set_option maxRecDepth 100000
set_option maxHeartbeats 1000000
namespace Go.Proofs.YtpnpiblphnpfiaaGreatDoor
section
open Go.RowKit
attribute [local simp] a8 bt aI aC aR a6 aQ aM aW PLl cH cJ N1l cI cL cM bq bv a7 br bh J1.bG
theorem rV3 {Q P : Prop} (k : Q) (h : Q → P := by intro k; (refine LY.run ?_); (repeat (first | refine bH rfl rfl rfl ?_ | refine bd rfl rfl rfl ?_ | ((refine mK rfl rfl ?_ rfl rfl ?_); (· simp)) | ((refine zG rfl rfl ?_ rfl rfl ?_); (· simp)) | ((refine ra38 rfl rfl ?_ rfl rfl ?_); (· simp)) | ((refine ou hGF rfl rfl rfl ?_ ?_ (ak _) rfl ?_); (· simp); (· simp)) | ((refine E6 hGF rfl rfl rfl ?_ ?_ (ak _) rfl ?_); (· simp); (· simp)) | ((refine BF hGF rfl rfl rfl ?_ ?_ (g6 _) rfl ?_); (· simp); (· simp)) | ((refine sa40 hGF rfl rfl rfl ?_ ?_ (ak _) rfl ?_); (· simp); (· simp)) | ((refine sa38 hGF rfl rfl rfl ?_ ?_ (ak _) rfl ?_); (· simp); (· simp)) | refine ee rfl rfl rfl rfl ?_)); (first | refine bY ?_ | refine LY.mk ?_); exact k) : P := h k
theorem pV3 {Q P : Prop} (k : Q) (h : Q → P := by intro k; (refine xp ?_); (refine rV3 ?_); exact k) : P := h k
theorem ent54 : ae Tryz.prog 54 := fun _ _ => by kernel_rfl
theorem ent20 : ae Tryz.prog 20 := fun _ _ => by kernel_rfl
theorem ent21 : ae Tryz.prog 21 := fun _ _ => by kernel_rfl
namespace J1
theorem zo {P : Pt Zp} (h : ¬ P = none) : P = some (PX P, PY P) := by
 cases P with
 | none => exact absurd rfl h
 | some p => rfl
theorem C5 {P : Pt Zp} (h : ¬ P = none) : RJ P = ((PX P, 0), (PY P, 0), on2) := by
 cases P with
 | none => exact absurd rfl h
 | some p => rfl
theorem Dz (x : Zp) (b : Nat) (t : TypeId) (w : World) (hw : Gt w) (ho : OwnB w b ((uw x).map U8) t) :
  Calls Tryz.prog 126 [.slice (some ⟨b, 0, none⟩) 48 48].toArray w (fun r w' => r = .returned (.tuple #[NV (nm x), .bool true]) ∧ Grow w w') := by
 have h := zO b t (uw x) (aW x) w hw ho
 rw [wo] at h
 exact h
theorem sM (x : Zp) : Pure Tryz.prog Gt 59 [EV x] (EV x) := by
 refine aN Tryz.func59 fun w hw hGF => ?_
 refine xp ?_
 refine lb fun b1 => ?_
 refine la zv40 fun b2 => ?_
 refine aa ?_
 refine pV3 ?_
 refine lc ent125 (oR _) ?_
 refine la zv115 fun b3 => ?_
 refine rV3 ?_
 refine xp ?_
 refine eH (l := 0) (h' := 48) rfl Tryz.underlying115 Tryz.sizeOf5 rfl rfl (by omega) (by omega) rfl rfl ?_
 refine bN rfl rfl ent126 (fun w' hC hG => Dz x _ _ w' hG (hC.own 3 _ _ _ rfl).1) rfl rfl ?_
 refine rV3 ?_
 refine la zv38 fun b4 => ?_
 refine rV3 ?_
 refine pV3 ?_
 refine lc ent127 (rofE _) ?_
 refine rV3 ?_
 refine rt ?_
 exact av 2 rfl rfl rfl Tryz.isAgg40 Tryz.sizeOf40 (by simp) (fun w hw => ⟨rfl, ah hw⟩)
def TO56 : Tb Tryz.prog Gt := TO55.add (dW (g := fun x => x) ent59 sM)
theorem le (p : GP) : Pure Tryz.prog Gt 20 [PtV p] (EV6 (RJ p.P)) := by
 intro w hw
 have hGF : BOk Gt (pl w) := gt_low.plain hw
 by_cases h : p.P = none
 ·skip
  rw [h]
  refine aF (G := Gt) Tryz.func20 rfl rfl (Hp (pl w) []) (aP (pl w) trivial ap) (aw hGF) ?_
  refine xp ?_
  refine lb fun b1 => ?_
  refine la zv53 fun b2 => ?_
  refine aa ?_
  refine pV3 ?_
  refine lc ent57 (xP p h) ?_
  refine rV3 ?_
  refine la zv27 fun b3 => ?_
  refine la zv27 fun b4 => ?_
  refine rV3 ?_
  refine am ?_
  refine pV3 ?_
  refine bJ rfl (fun _ => bu _) rfl rfl ?_
  refine aa ?_
  refine bL rfl ?_
  refine xp ?_
  refine lW rQ rfl rfl ?_
  refine rV3 ?_
  refine rt ?_
  exact av 2 rfl rfl rfl Tryz.isAgg53 Tryz.sizeOf53 (by simp) (fun w hw => ⟨rfl, ah hw⟩)
 ·skip
  rw [C5 h]
  refine aF (G := Gt) Tryz.func20 rfl rfl (Hp (pl w) []) (aP (pl w) trivial ap) (aw hGF) ?_
  refine xp ?_
  refine lb fun b1 => ?_
  refine la zv53 fun b2 => ?_
  refine aa ?_
  refine pV3 ?_
  refine lc ent57 (tp p h) ?_
  refine rV3 ?_
  refine la zv27 fun b3 => ?_
  refine la zv27 fun b4 => ?_
  refine rV3 ?_
  refine am ?_
  refine pV3 ?_
  refine bJ rfl (fun _ => bu _) rfl rfl ?_
  refine aa ?_
  refine ba rfl ?_
  refine aB ?_
  refine bj (E := EE []) a5 (by kernel_rfl) (by kernel_rfl) (by kernel_rfl) ?_
  refine rV3 ?_
  refine lc ent59 (sM _) ?_
  refine sE sA rfl (by simp) rfl rfl ?_
  refine rV3 ?_
  refine lc ent59 (sM _) ?_
  refine sE sA rfl (by simp) rfl rfl ?_
  refine aE rfl rfl ent58 (Ac (PX p.P, 0) (PY p.P, 0)) rfl rfl ?_
  refine rV3 ?_
  refine rt ?_
  exact av 2 rfl rfl rfl Tryz.isAgg53 Tryz.sizeOf53 (by simp) (fun w hw => ⟨rfl, ah hw⟩)
end J1
end
section
open Go.RowKit
attribute [local simp] a8 bt aI aC aR a6 aQ aM aW PLl cH cJ N1l cI cL cM bq bv a7 br bh J2.bG
theorem rV4 {Q P : Prop} (k : Q) (h : Q → P := by intro k; (refine LY.run ?_); (repeat (first | refine bH rfl rfl rfl ?_ | refine bd rfl rfl rfl ?_ | ((refine yv rfl rfl ?_ rfl rfl rfl rfl ?_); (· simp)) | ((refine yQ rfl rfl ?_ ?_ rfl rfl rfl rfl ?_); (· simp); (· simp)) | ((refine Ad rfl rfl ?_ rfl rfl ?_); (· simp)) | ((refine tk rfl rfl ?_ rfl rfl ?_); (· simp)) | ((refine vS hGF rfl rfl rfl ?_ ?_ (ak _) rfl ?_); (· simp); (· simp)) | ((refine E6 hGF rfl rfl rfl ?_ ?_ (ak _) rfl ?_); (· simp); (· simp)) | ((refine tD hGF rfl rfl rfl ?_ ?_ (ak _) rfl ?_); (· simp); (· simp)) | refine ee rfl rfl rfl rfl ?_ | refine bw (f := 59) rfl rfl ent59 (J1.sM _) rfl rfl ?_)); (first | refine bY ?_ | refine LY.mk ?_); exact k) : P := h k
theorem pV4 {Q P : Prop} (k : Q) (h : Q → P := by intro k; (refine xp ?_); (refine rV4 ?_); exact k) : P := h k
theorem DL (x : W6) : E1w.jdF x = E2w.jdF x := rfl
theorem B8 (x y : W6) : E1w.jaF x y = E2w.jaF x y := rfl
namespace J2
theorem C5 {P : Pt W2} (h : ¬ P = none) : RJ2 P = (PX P, PY P, on2) := by
 cases P with
 | none => exact absurd rfl h
 | some p => rfl
theorem e2p (x : W2) : Pure Tryz.prog Gt 54 [EV2 x] (EV2 x) := by
 refine aN Tryz.func54 fun w hw hGF => ?_
 refine xp ?_
 refine lb fun b1 => ?_
 refine la zv42 fun b2 => ?_
 refine aa ?_
 refine bj (E := EE []) a5 (by kernel_rfl) (by kernel_rfl) (by kernel_rfl) ?_
 refine rV4 ?_
 refine eS sA rfl rfl (by simp) (by simp) rfl rfl ?_
 refine rV4 ?_
 refine rt ?_
 exact av 2 rfl rfl rfl Tryz.isAgg42 Tryz.sizeOf42 (by simp) (fun w hw => ⟨by rfl, ah hw⟩)
def TO56 : Tb Tryz.prog Gt := TO55.add (cF (g := fun x => x) ent54 e2p)
theorem le (p : GP) : Pure Tryz.prog Gt 21 [PtV p] (EV6 (RJ2 p.P)) := by
 intro w hw
 have hGF : BOk Gt (pl w) := gt_low.plain hw
 by_cases h : p.P = none
 ·skip
  rw [h]
  refine aF (G := Gt) Tryz.func21 rfl rfl (Hp (pl w) []) (aP (pl w) trivial ap) (aw hGF) ?_
  refine xp ?_
  refine lb fun b1 => ?_
  refine la zv53 fun b2 => ?_
  refine aa ?_
  refine pV4 ?_
  refine lc ent60 (xP p h) ?_
  refine rV4 ?_
  refine la zv33 fun b3 => ?_
  refine la zv33 fun b4 => ?_
  refine rV4 ?_
  refine am ?_
  refine pV4 ?_
  refine bJ rfl (fun _ => bu _) rfl rfl ?_
  refine aa ?_
  refine bL rfl ?_
  refine xp ?_
  refine lW rQ rfl rfl ?_
  refine rV4 ?_
  refine rt ?_
  exact av 2 rfl rfl rfl Tryz.isAgg53 Tryz.sizeOf53 (by simp) (fun w hw => ⟨rfl, ah hw⟩)
 ·skip
  rw [C5 h]
  refine aF (G := Gt) Tryz.func21 rfl rfl (Hp (pl w) []) (aP (pl w) trivial ap) (aw hGF) ?_
  refine xp ?_
  refine lb fun b1 => ?_
  refine la zv53 fun b2 => ?_
  refine aa ?_
  refine pV4 ?_
  refine lc ent60 (tp p h) ?_
  refine rV4 ?_
  refine la zv33 fun b3 => ?_
  refine la zv33 fun b4 => ?_
  refine rV4 ?_
  refine am ?_
  refine pV4 ?_
  refine bJ rfl (fun _ => bu _) rfl rfl ?_
  refine aa ?_
  refine ba rfl ?_
  refine aB ?_
  refine bj (E := EE []) a5 (by kernel_rfl) (by kernel_rfl) (by kernel_rfl) ?_
  refine rV4 ?_
  refine lc ent54 (e2p _) ?_
  refine rV4 ?_
  refine lc ent54 (e2p _) ?_
  refine aE rfl rfl ent58 (Ac (PX p.P) (PY p.P)) rfl rfl ?_
  refine rV4 ?_
  refine rt ?_
  exact av 2 rfl rfl rfl Tryz.isAgg53 Tryz.sizeOf53 (by simp) (fun w hw => ⟨rfl, ah hw⟩)
end J2
end
section
open Go.RowKit
attribute [local simp] a8 bt aI aC aR a6 aQ aM aW PLl cH cJ N1l cI cL cM bq bv a7 br bh J1.bG J2.bG
def XYJ (x : W6) : W2 × W2 := if x.2.2 = on2 then (x.1, x.2.1) else (ml2 x.1 (ml2 (iv2 x.2.2) (iv2 x.2.2)), ml2 (ml2 x.2.1 (ml2 (iv2 x.2.2) (iv2 x.2.2))) (iv2 x.2.2))
theorem fR {a b : W2} : [a.1, a.2] = [b.1, b.2] ↔ a = b := ⟨fun h => by simp only [List.cons.injEq, and_true] at h; exact Prod.ext h.1 h.2, fun h => by rw [h]⟩
theorem Ho (x : W6) : Pure Tryz.prog Gt 118 [EV6 x] (.tuple #[EV2 (XYJ x).1, EV2 (XYJ x).2]) := by
 by_cases h : x.2.2 = on2
 ·exact (a9 (l1 (V6 _)) rfl (pE J2.TO56 Tryz.func118 [.inl [x.1.1, x.1.2, x.2.1.1, x.2.1.2, x.2.2.1, x.2.2.2]] (.inr [.inl [((XYJ x).1).1, ((XYJ x).1).2], .inl [((XYJ x).2).1, ((XYJ x).2).2]]) (let t0 := on2; (.inr [.inl [x.1.1, x.1.2], .inl [x.2.1.1, x.2.1.2]], [(decide ([x.2.2.1, x.2.2.2] = [t0.1, t0.2]), true)])) [some true] (by kernel_rfl) (az (decide_eq_true (fR.2 h)) aG) (by rw [show XYJ x = _ from if_pos h] <;> exact rfl)))
 ·exact (a9 (l1 (V6 _)) rfl (pE J2.TO56 Tryz.func118 [.inl [x.1.1, x.1.2, x.2.1.1, x.2.1.2, x.2.2.1, x.2.2.2]] (.inr [.inl [((XYJ x).1).1, ((XYJ x).1).2], .inl [((XYJ x).2).1, ((XYJ x).2).2]]) (let t0 := on2; let t1 := iv2 (x.2.2.1, x.2.2.2); let t2 := ml2 (t1.1, t1.2) (t1.1, t1.2); let t3 := ml2 (x.1.1, x.1.2) (t2.1, t2.2); let t4 := ml2 (x.2.1.1, x.2.1.2) (t2.1, t2.2); let t5 := ml2 (t4.1, t4.2) (t1.1, t1.2); (.inr [.inl [t3.1, t3.2], .inl [t5.1, t5.2]], [(decide ([x.2.2.1, x.2.2.2] = [t0.1, t0.2]), false)])) [some false] (by kernel_rfl) (az (decide_eq_false fun e => h (fR.1 e)) aG) (by rw [show XYJ x = _ from if_neg h] <;> exact rfl)))
theorem nL {f : Nat} {g : W6 → W2 × W2} (en : ae Tryz.prog f) (h : ∀ a, Pure Tryz.prog Gt f [EV6 a] (.tuple #[EV2 (g a).1, EV2 (g a).2])) : Snd Tryz.prog Gt f (c1 q6.ag q2.rd2 g) := dK q6.ag q2.rd2 en (fun a => a9 (l1 (V6 _).symm) rfl (h a))
def TO201 : Tb Tryz.prog Gt := J2.TO56.add (nL (g := XYJ) ent118 Ho)
end
section
open Go.RowKit
attribute [local simp] a8 bt aI aC aR a6 aQ aM aW PLl cH cJ N1l cI cL cM bq bv a7 br bh J1.bG J2.bG
theorem ent120 : ae Tryz.prog 120 := fun _ _ => by kernel_rfl
namespace Q6
abbrev TT (x : W12) : Value := TV (p12 x)
theorem gF (f : Nat → List (BitVec 64)) (n : Nat) (h : (f n).length = 12) : FM f (n + 1) = FM f n ++ f n := List.ext_getElem? fun m => by
 by_cases h1 : m < 12 * n
 ·rw [je _ _ _ (by omega), List.getElem?_append_left (by rw [bh]; exact h1), je _ _ _ h1]
 ·by_cases h2 : m < 12 * (n + 1)
  ·rw [je _ _ _ h2, List.getElem?_append_right (by rw [bh]; omega), bh, show m / 12 = n by omega, show m % 12 = m - 12 * n by omega, List.getD_eq_getElem?_getD, List.getElem?_eq_getElem (by rw [h]; omega)]; rfl
  ·rw [List.getElem?_eq_none (by rw [bh]; omega), List.getElem?_eq_none (by rw [List.length_append, bh, h]; omega)]
theorem ff_0 (x : W12) : FF (p12 x) 0 = fe x.1.1.1 ++ fe x.1.1.2 := rfl
theorem ff_1 (x : W12) : FF (p12 x) 1 = fe x.2.1.1 ++ fe x.2.1.2 := rfl
theorem ff_2 (x : W12) : FF (p12 x) 2 = fe x.1.2.1.1 ++ fe x.1.2.1.2 := rfl
theorem ff_3 (x : W12) : FF (p12 x) 3 = fe x.2.2.1.1 ++ fe x.2.2.1.2 := rfl
theorem ff_4 (x : W12) : FF (p12 x) 4 = fe x.1.2.2.1 ++ fe x.1.2.2.2 := rfl
theorem ff_5 (x : W12) : FF (p12 x) 5 = fe x.2.2.2.1 ++ fe x.2.2.2.2 := rfl
theorem FM_6 (f : Nat → List (BitVec 64)) (h : ∀ i, (f i).length = 12) : FM f 6 = f 0 ++ (f 1 ++ (f 2 ++ (f 3 ++ (f 4 ++ f 5)))) := by
 rw [gF _ 5 (h _), gF _ 4 (h _), gF _ 3 (h _), gF _ 2 (h _), gF _ 1 (h _), gF _ 0 (h _), show FM f 0 = [] from rfl]
 simp only [List.append_assoc, List.nil_append]
theorem Fe (a b c d e f g h i j k m : Zp) : cel [a, b, c, d, e, f, g, h, i, j, k, m] = fe a ++ (fe b ++ (fe c ++ (fe d ++ (fe e ++ (fe f ++ (fe g ++ (fe h ++ (fe i ++ (fe j ++ (fe k ++ fe m)))))))))) := rfl
theorem VT (x : W12) : TT x = dn rid (.inl [x.1.1.1, x.1.1.2, x.2.1.1, x.2.1.2, x.1.2.1.1, x.1.2.1.2, x.2.2.1.1, x.2.2.1.2, x.1.2.2.1, x.1.2.2.2, x.2.2.2.1, x.2.2.2.2]) := by
 show Value.agg ((FM (FF (p12 x)) 6).map U64).toArray = Value.agg ((cel [x.1.1.1, x.1.1.2, x.2.1.1, x.2.1.2, x.1.2.1.1, x.1.2.1.2, x.2.2.1.1, x.2.2.1.2, x.1.2.2.1, x.1.2.2.2, x.2.2.2.1, x.2.2.2.2]).map U64).toArray
 rw [FM_6 (FF (p12 x)) (fun _ => a7 _), Fe, ff_0, ff_1, ff_2, ff_3, ff_4, ff_5]
 simp only [List.append_assoc]
theorem r5 {f : Nat → W2} {x : W12} (h : tq f = x) : TV f = TT x := by
 subst h
 refine congrArg (fun l => Value.agg (List.map U64 l).toArray) (d8 fun i hi => ?_)
 match i, hi with
 | 0, _ => rfl
 | 1, _ => rfl
 | 2, _ => rfl
 | 3, _ => rfl
 | 4, _ => rfl
 | 5, _ => rfl
theorem zg (x y : W12) : Pure Tryz.prog Gt 72 [TT x, TT y] (TT (K12.mul x y)) := by rw [← r5 (show tq (TMf (p12 x) (p12 y)) = K12.mul x y from qC (p12 x) (p12 y))]; exact At _ _
theorem jI {f : Nat} {g : W12 → W12 → W12} (en : ae Tryz.prog f) (h : ∀ a b, Pure Tryz.prog Gt f [TT a, TT b] (TT (g a b))) : Snd Tryz.prog Gt f (c2 qT.ag qT.ag qT.rd g) := dB qT.ag qT.ag qT.rd en (fun a b => a9 (l2 (VT _).symm (VT _).symm) (VT _).symm (h a b))
def TO202 : Tb Tryz.prog Gt := TO201.add (jI (g := K12.mul) ent72 zg)
theorem sw (x : W12) : Pure Tryz.prog Gt 71 [TT x] (TT (bB x)) := by rw [← r5 (show tq (tcj (p12 x)) = bB x from rfl)]; exact pI _
theorem fI {f : Nat} {g : W12 → W12} (en : ae Tryz.prog f) (h : ∀ a, Pure Tryz.prog Gt f [TT a] (TT (g a))) : Snd Tryz.prog Gt f (c1 qT.ag qT.rd g) := dK qT.ag qT.rd en (fun a => a9 (l1 (VT _).symm) (VT _).symm (h a))
def TO203 : Tb Tryz.prog Gt := TO202.add (fI (g := bB) ent71 sw)
theorem G7 (x : W12) : Pure Tryz.prog Gt 73 [TT x] (TT (ez x)) := by rw [← r5 (show tq (TIf (p12 x)) = ez x from E4 (p12 x))]; exact Gf _
def TO204 : Tb Tryz.prog Gt := TO203.add (fI (g := ez) ent73 G7)
theorem HI  : Pure Tryz.prog Gt 116 [] (TT K12.one) := (a9 rfl (VT _) (pE TO204 Tryz.func116 [] (.inl (.inl [K12.one.1.1.1, K12.one.1.1.2, K12.one.2.1.1, K12.one.2.1.2, K12.one.1.2.1.1, K12.one.1.2.1.2, K12.one.2.2.1.1, K12.one.2.2.1.2, K12.one.1.2.2.1, K12.one.1.2.2.2, K12.one.2.2.2.1, K12.one.2.2.2.2])) (let t0 := on2; (.inl (.inl [t0.1, t0.2, 0, 0, 0, 0, 0, 0, 0, 0, 0, 0]), [])) [] (by kernel_rfl) aG rfl))
theorem ID {f : Nat} {g : W12} (en : ae Tryz.prog f) (h : Pure Tryz.prog Gt f [] (TT g)) : Snd Tryz.prog Gt f (c0 qT.rd g) := mD qT.rd en (a9 rfl (VT _).symm h)
def TO205 : Tb Tryz.prog Gt := TO204.add (ID (g := K12.one) ent116 HI)
theorem wl (x : W12) : Pure Tryz.prog Gt 17 [bE x] (TT x) := (a9 (l1 (V12 _)) (VT _) (pE TO205 Tryz.func17 [.inl [x.1.1.1, x.1.1.2, x.1.2.1.1, x.1.2.1.2, x.1.2.2.1, x.1.2.2.2, x.2.1.1, x.2.1.2, x.2.2.1.1, x.2.2.1.2, x.2.2.2.1, x.2.2.2.2]] (.inl (.inl [x.1.1.1, x.1.1.2, x.2.1.1, x.2.1.2, x.1.2.1.1, x.1.2.1.2, x.2.2.1.1, x.2.2.1.2, x.1.2.2.1, x.1.2.2.2, x.2.2.2.1, x.2.2.2.2])) (let t0 := (x.1.1.1, x.1.1.2); let t1 := (x.2.1.1, x.2.1.2); let t2 := (x.1.2.1.1, x.1.2.1.2); let t3 := (x.2.2.1.1, x.2.2.1.2); let t4 := (x.1.2.2.1, x.1.2.2.2); let t5 := (x.2.2.2.1, x.2.2.2.2); (.inl (.inl [t0.1, t0.2, t1.1, t1.2, t2.1, t2.2, t3.1, t3.2, t4.1, t4.2, t5.1, t5.2]), [])) [] (by kernel_rfl) aG rfl))
theorem oq {f : Nat} {g : W12 → W12} (en : ae Tryz.prog f) (h : ∀ a, Pure Tryz.prog Gt f [bE a] (TT (g a))) : Snd Tryz.prog Gt f (c1 q12.ag qT.rd g) := dK q12.ag qT.rd en (fun a => a9 (l1 (V12 _).symm) (VT _).symm (h a))
def TO206 : Tb Tryz.prog Gt := TO205.add (oq (g := fun x => x) ent17 wl)
end Q6
end
section
open Go.RowKit
attribute [local simp] a8 bt aI aC aR a6 aQ aM aW PLl cH cJ N1l cI cL cM bq bv a7 br bh J1.bG J2.bG
namespace Q6
theorem l4 {a b c d e f g h : Value} (i : a = b) (j : c = d) (k : e = f) (m : g = h) : [a, c, e, g] = [b, d, f, h] := by rw [i, j, k, m]
theorem FU {p : Prop} [Decidable p] (h : ¬ p) : (!decide p) = true := by rw [decide_eq_false h]; rfl
theorem vp {p : Prop} [Decidable p] (h : p) : (!decide p) = false := by rw [decide_eq_true h]; rfl
def LT (a : W2 × W2) (s x y : W2) : W12 := ((E2w.sub (ml2 s a.1) a.2, ng2 (ml2 s x), ze2), (ze2, y, ze2))
def TGS (a : W2 × W2) : W2 := ml2 (ad2 (ad2 (ml2 a.1 a.1) (ml2 a.1 a.1)) (ml2 a.1 a.1)) (iv2 (ad2 a.2 a.2))
def CHS (a b : W2 × W2) : W2 := ml2 (E2w.sub b.2 a.2) (iv2 (E2w.sub b.1 a.1))
def LNA (a b : W2 × W2) (x y : W2) : W12 × Bool :=
 if a.1 = b.1 then if a.2 = b.2 then if a.2 = ze2 then (K12.one, false) else (LT a (TGS a) x y, true) else (K12.one, false) else (LT a (CHS a b) x y, true)
def LNr (r q : W6) (x y : W2) : W12 × Bool := if r.2.2 = ze2 then (K12.one, false) else if q.2.2 = ze2 then (K12.one, false) else LNA (XYJ r) (XYJ q) x y
theorem sP (r q : W6) (x y : W2) : Pure Tryz.prog Gt 120 [EV6 r, EV6 q, EV2 x, EV2 y] (.tuple #[TT (LNr r q x y).1, .bool (LNr r q x y).2]) := by
 by_cases h : r.2.2 = ze2
 ·exact (a9 (l4 (V6 _) (V6 _) rfl rfl) (t2 (VT _)) (pE TO206 Tryz.func120 [.inl [r.1.1, r.1.2, r.2.1.1, r.2.1.2, r.2.2.1, r.2.2.2], .inl [q.1.1, q.1.2, q.2.1.1, q.2.1.2, q.2.2.1, q.2.2.2], .inl [x.1, x.2], .inl [y.1, y.2]] (.inr [.inl [((LNr r q x y).1).1.1.1, ((LNr r q x y).1).1.1.2, ((LNr r q x y).1).2.1.1, ((LNr r q x y).1).2.1.2, ((LNr r q x y).1).1.2.1.1, ((LNr r q x y).1).1.2.1.2, ((LNr r q x y).1).2.2.1.1, ((LNr r q x y).1).2.2.1.2, ((LNr r q x y).1).1.2.2.1, ((LNr r q x y).1).1.2.2.2, ((LNr r q x y).1).2.2.2.1, ((LNr r q x y).1).2.2.2.2], .inr (.inl ((LNr r q x y).2))]) (let t0 := K12.one; (.inr [.inl [t0.1.1.1, t0.1.1.2, t0.2.1.1, t0.2.1.2, t0.1.2.1.1, t0.1.2.1.2, t0.2.2.1.1, t0.2.2.1.2, t0.1.2.2.1, t0.1.2.2.2, t0.2.2.2.1, t0.2.2.2.2], .inr (.inl false)], [(decide (r.2.2 = ze2), true)])) [some true] (by kernel_rfl) (az (decide_eq_true h) aG) (by rw [show LNr r q x y = _ from if_pos h] <;> exact rfl)))
 ·by_cases h2 : q.2.2 = ze2
  ·exact (a9 (l4 (V6 _) (V6 _) rfl rfl) (t2 (VT _)) (pE TO206 Tryz.func120 [.inl [r.1.1, r.1.2, r.2.1.1, r.2.1.2, r.2.2.1, r.2.2.2], .inl [q.1.1, q.1.2, q.2.1.1, q.2.1.2, q.2.2.1, q.2.2.2], .inl [x.1, x.2], .inl [y.1, y.2]] (.inr [.inl [((LNr r q x y).1).1.1.1, ((LNr r q x y).1).1.1.2, ((LNr r q x y).1).2.1.1, ((LNr r q x y).1).2.1.2, ((LNr r q x y).1).1.2.1.1, ((LNr r q x y).1).1.2.1.2, ((LNr r q x y).1).2.2.1.1, ((LNr r q x y).1).2.2.1.2, ((LNr r q x y).1).1.2.2.1, ((LNr r q x y).1).1.2.2.2, ((LNr r q x y).1).2.2.2.1, ((LNr r q x y).1).2.2.2.2], .inr (.inl ((LNr r q x y).2))]) (let t0 := K12.one; (.inr [.inl [t0.1.1.1, t0.1.1.2, t0.2.1.1, t0.2.1.2, t0.1.2.1.1, t0.1.2.1.2, t0.2.2.1.1, t0.2.2.1.2, t0.1.2.2.1, t0.1.2.2.2, t0.2.2.2.1, t0.2.2.2.2], .inr (.inl false)], [(decide (r.2.2 = ze2), false), (decide (q.2.2 = ze2), true)])) [some false, some true] (by kernel_rfl) (az (decide_eq_false h) (az (decide_eq_true h2) aG)) (by rw [show LNr r q x y = _ from (if_neg h).trans (if_pos h2)] <;> exact rfl)))
  ·by_cases h3 : (XYJ r).1 = (XYJ q).1
   ·by_cases h4 : (XYJ r).2 = (XYJ q).2
    ·by_cases h5 : (XYJ r).2 = ze2
     ·exact (a9 (l4 (V6 _) (V6 _) rfl rfl) (t2 (VT _)) (pE TO206 Tryz.func120 [.inl [r.1.1, r.1.2, r.2.1.1, r.2.1.2, r.2.2.1, r.2.2.2], .inl [q.1.1, q.1.2, q.2.1.1, q.2.1.2, q.2.2.1, q.2.2.2], .inl [x.1, x.2], .inl [y.1, y.2]] (.inr [.inl [((LNr r q x y).1).1.1.1, ((LNr r q x y).1).1.1.2, ((LNr r q x y).1).2.1.1, ((LNr r q x y).1).2.1.2, ((LNr r q x y).1).1.2.1.1, ((LNr r q x y).1).1.2.1.2, ((LNr r q x y).1).2.2.1.1, ((LNr r q x y).1).2.2.1.2, ((LNr r q x y).1).1.2.2.1, ((LNr r q x y).1).1.2.2.2, ((LNr r q x y).1).2.2.2.1, ((LNr r q x y).1).2.2.2.2], .inr (.inl ((LNr r q x y).2))]) (let t0 := K12.one; let t1 := (XYJ r).1; let t2 := (XYJ r).2; let t3 := (XYJ q).1; let t4 := (XYJ q).2; (.inr [.inl [t0.1.1.1, t0.1.1.2, t0.2.1.1, t0.2.1.2, t0.1.2.1.1, t0.1.2.1.2, t0.2.2.1.1, t0.2.2.1.2, t0.1.2.2.1, t0.1.2.2.2, t0.2.2.2.1, t0.2.2.2.2], .inr (.inl false)], [(decide (r.2.2 = ze2), false), (decide (q.2.2 = ze2), false), (!decide ([t1.1, t1.2] = [t3.1, t3.2]), false), (!decide ([t2.1, t2.2] = [t4.1, t4.2]), false), (decide ((t2.1, t2.2) = ze2), true)])) [some false, some false, some false, some false, some true] (by kernel_rfl) (az (decide_eq_false h) (az (decide_eq_false h2) (az (vp (fR.2 h3)) (az (vp (fR.2 h4)) (az (decide_eq_true h5) aG))))) (by rw [show LNr r q x y = _ from (if_neg h).trans ((if_neg h2).trans ((if_pos h3).trans ((if_pos h4).trans (if_pos h5))))] <;> exact rfl)))
     ·exact (a9 (l4 (V6 _) (V6 _) rfl rfl) (t2 (VT _)) (pE TO206 Tryz.func120 [.inl [r.1.1, r.1.2, r.2.1.1, r.2.1.2, r.2.2.1, r.2.2.2], .inl [q.1.1, q.1.2, q.2.1.1, q.2.1.2, q.2.2.1, q.2.2.2], .inl [x.1, x.2], .inl [y.1, y.2]] (.inr [.inl [((LNr r q x y).1).1.1.1, ((LNr r q x y).1).1.1.2, ((LNr r q x y).1).2.1.1, ((LNr r q x y).1).2.1.2, ((LNr r q x y).1).1.2.1.1, ((LNr r q x y).1).1.2.1.2, ((LNr r q x y).1).2.2.1.1, ((LNr r q x y).1).2.2.1.2, ((LNr r q x y).1).1.2.2.1, ((LNr r q x y).1).1.2.2.2, ((LNr r q x y).1).2.2.2.1, ((LNr r q x y).1).2.2.2.2], .inr (.inl ((LNr r q x y).2))]) (let t1 := (XYJ r).1; let t2 := (XYJ r).2; let t3 := (XYJ q).1; let t4 := (XYJ q).2; let t5 := ml2 (t1.1, t1.2) (t1.1, t1.2); let t6 := ad2 (t5.1, t5.2) (t5.1, t5.2); let t7 := ad2 (t6.1, t6.2) (t5.1, t5.2); let t8 := ad2 (t2.1, t2.2) (t2.1, t2.2); let t9 := iv2 (t8.1, t8.2); let t10 := ml2 (t7.1, t7.2) (t9.1, t9.2); let t11 := ml2 (t10.1, t10.2) (t1.1, t1.2); let t12 := E2w.sub (t11.1, t11.2) (t2.1, t2.2); let t13 := ml2 (t10.1, t10.2) x; let t14 := ng2 (t13.1, t13.2); (.inr [.inl [t12.1, t12.2, 0, 0, t14.1, t14.2, y.1, y.2, 0, 0, 0, 0], .inr (.inl true)], [(decide (r.2.2 = ze2), false), (decide (q.2.2 = ze2), false), (!decide ([t1.1, t1.2] = [t3.1, t3.2]), false), (!decide ([t2.1, t2.2] = [t4.1, t4.2]), false), (decide ((t2.1, t2.2) = ze2), false)])) [some false, some false, some false, some false, some false] (by kernel_rfl) (az (decide_eq_false h) (az (decide_eq_false h2) (az (vp (fR.2 h3)) (az (vp (fR.2 h4)) (az (decide_eq_false h5) aG))))) (by rw [show LNr r q x y = _ from (if_neg h).trans ((if_neg h2).trans ((if_pos h3).trans ((if_pos h4).trans (if_neg h5))))] <;> exact rfl)))
    ·exact (a9 (l4 (V6 _) (V6 _) rfl rfl) (t2 (VT _)) (pE TO206 Tryz.func120 [.inl [r.1.1, r.1.2, r.2.1.1, r.2.1.2, r.2.2.1, r.2.2.2], .inl [q.1.1, q.1.2, q.2.1.1, q.2.1.2, q.2.2.1, q.2.2.2], .inl [x.1, x.2], .inl [y.1, y.2]] (.inr [.inl [((LNr r q x y).1).1.1.1, ((LNr r q x y).1).1.1.2, ((LNr r q x y).1).2.1.1, ((LNr r q x y).1).2.1.2, ((LNr r q x y).1).1.2.1.1, ((LNr r q x y).1).1.2.1.2, ((LNr r q x y).1).2.2.1.1, ((LNr r q x y).1).2.2.1.2, ((LNr r q x y).1).1.2.2.1, ((LNr r q x y).1).1.2.2.2, ((LNr r q x y).1).2.2.2.1, ((LNr r q x y).1).2.2.2.2], .inr (.inl ((LNr r q x y).2))]) (let t0 := K12.one; let t1 := (XYJ r).1; let t2 := (XYJ r).2; let t3 := (XYJ q).1; let t4 := (XYJ q).2; (.inr [.inl [t0.1.1.1, t0.1.1.2, t0.2.1.1, t0.2.1.2, t0.1.2.1.1, t0.1.2.1.2, t0.2.2.1.1, t0.2.2.1.2, t0.1.2.2.1, t0.1.2.2.2, t0.2.2.2.1, t0.2.2.2.2], .inr (.inl false)], [(decide (r.2.2 = ze2), false), (decide (q.2.2 = ze2), false), (!decide ([t1.1, t1.2] = [t3.1, t3.2]), false), (!decide ([t2.1, t2.2] = [t4.1, t4.2]), true)])) [some false, some false, some false, some true] (by kernel_rfl) (az (decide_eq_false h) (az (decide_eq_false h2) (az (vp (fR.2 h3)) (az (FU fun e => h4 (fR.1 e)) aG)))) (by rw [show LNr r q x y = _ from (if_neg h).trans ((if_neg h2).trans ((if_pos h3).trans (if_neg h4)))] <;> exact rfl)))
   ·exact (a9 (l4 (V6 _) (V6 _) rfl rfl) (t2 (VT _)) (pE TO206 Tryz.func120 [.inl [r.1.1, r.1.2, r.2.1.1, r.2.1.2, r.2.2.1, r.2.2.2], .inl [q.1.1, q.1.2, q.2.1.1, q.2.1.2, q.2.2.1, q.2.2.2], .inl [x.1, x.2], .inl [y.1, y.2]] (.inr [.inl [((LNr r q x y).1).1.1.1, ((LNr r q x y).1).1.1.2, ((LNr r q x y).1).2.1.1, ((LNr r q x y).1).2.1.2, ((LNr r q x y).1).1.2.1.1, ((LNr r q x y).1).1.2.1.2, ((LNr r q x y).1).2.2.1.1, ((LNr r q x y).1).2.2.1.2, ((LNr r q x y).1).1.2.2.1, ((LNr r q x y).1).1.2.2.2, ((LNr r q x y).1).2.2.2.1, ((LNr r q x y).1).2.2.2.2], .inr (.inl ((LNr r q x y).2))]) (let t1 := (XYJ r).1; let t2 := (XYJ r).2; let t3 := (XYJ q).1; let t4 := (XYJ q).2; let t5 := E2w.sub (t4.1, t4.2) (t2.1, t2.2); let t6 := E2w.sub (t3.1, t3.2) (t1.1, t1.2); let t7 := iv2 (t6.1, t6.2); let t8 := ml2 (t5.1, t5.2) (t7.1, t7.2); let t9 := ml2 (t8.1, t8.2) (t1.1, t1.2); let t10 := E2w.sub (t9.1, t9.2) (t2.1, t2.2); let t11 := ml2 (t8.1, t8.2) x; let t12 := ng2 (t11.1, t11.2); (.inr [.inl [t10.1, t10.2, 0, 0, t12.1, t12.2, y.1, y.2, 0, 0, 0, 0], .inr (.inl true)], [(decide (r.2.2 = ze2), false), (decide (q.2.2 = ze2), false), (!decide ([t1.1, t1.2] = [t3.1, t3.2]), true)])) [some false, some false, some true] (by kernel_rfl) (az (decide_eq_false h) (az (decide_eq_false h2) (az (FU fun e => h3 (fR.1 e)) aG))) (by rw [show LNr r q x y = _ from (if_neg h).trans ((if_neg h2).trans (if_neg h3))] <;> exact rfl)))
theorem eT {f : Nat} {g : W6 → W6 → W2 → W2 → W12} {k : W6 → W6 → W2 → W2 → Bool} (en : ae Tryz.prog f) (h : ∀ a b c d, Pure Tryz.prog Gt f [EV6 a, EV6 b, EV2 c, EV2 d] (.tuple #[TT (g a b c d), .bool (k a b c d)])) : Snd Tryz.prog Gt f (c4 q6.ag q6.ag q2.ag q2.ag qT.rdB (fun a b c d => ((g a b c d), (k a b c d)))) := Gd q6.ag q6.ag q2.ag q2.ag qT.rdB en (fun a b c d => a9 (l4 (V6 _).symm (V6 _).symm rfl rfl) (t2 (VT _).symm) (h a b c d))
def TO207 : Tb Tryz.prog Gt := TO206.add (eT (g := fun r q x y => (LNr r q x y).1) (k := fun r q x y => (LNr r q x y).2) ent120 sP)
end Q6
end
section
namespace Q6
def LGB (a b : Pt W2) : Bool := match a, b with
 | some a, some b => decide (¬ (a.1 = b.1 ∧ ad2 a.2 b.2 = ze2))
 | _, _ => false
theorem A1 (a : W2 × W2) (s : W2) (x y : Zp) : LT a s (re2 x) (re2 y) = LN a s (x, y) := by
 show ((E2w.sub (ml2 s a.1) a.2, ng2 (ml2 s (re2 x)), ze2), (ze2, re2 y, ze2)) = _
 rw [show E2w.sub (ml2 s a.1) a.2 = sb2 (ml2 s a.1) a.2 from (fW _ _).symm]; rfl
theorem Gi {a : W2 × W2} (ha : E2w.on a) (h : a.2 ≠ ze2) : E2w.Sl a a (TGS a) := by
 have e : E2w.slope a a = TGS a := if_pos rfl
 rw [← e]
 exact E2w.sl_slope ha ha fun o => h (E2w.dbl0 o.2)
theorem IR {a b : W2 × W2} (ha : E2w.on a) (hb : E2w.on b) (h : ¬ a.1 = b.1) : E2w.Sl a b (CHS a b) := by
 have e : E2w.slope b a = CHS a b := if_neg fun k => h k.symm
 rw [← e]
 exact E2w.sl_comm (E2w.sl_slope hb ha fun o => h o.1.symm)
theorem DO {a b : W2 × W2} (ha : E2w.on a) (hb : E2w.on b) (h : a.1 = b.1) (hn : ¬ a.2 = b.2) : E2w.opp a b := by
 by_cases o : E2w.opp a b
 ·exact o
 ·obtain ⟨s, hs⟩ := E2w.sl_is ha hb o
  have e := hs.1
  rw [h, E2w.sub_self] at e
  exact absurd (E2w.sub0 (e.symm.trans (show E2w.R.mul s E2w.R.zero = E2w.R.zero from E2w.R.mul_zero s))) hn
theorem EP {a b : W2 × W2} (ha : E2w.on a) (hb : E2w.on b) (x y : Zp) : LNA a b (re2 x) (re2 y) = (LG (some a) (some b) (x, y), LGB (some a) (some b)) := by
 by_cases h1 : a.1 = b.1
 ·by_cases h2 : a.2 = b.2
  ·have e : a = b := Prod.ext h1 h2
   subst e
   by_cases h3 : a.2 = ze2
   ·have o : E2w.opp a a := ⟨rfl, by rw [h3]; exact E2w.R.add_zero _⟩
    rw [show LNA a a (re2 x) (re2 y) = (K12.one, false) from (if_pos h1).trans ((if_pos h2).trans (if_pos h3)), Cn o]
    exact congrArg _ (show false = decide (¬ (_ ∧ _)) from (decide_eq_false fun k => k o).symm)
   ·have o : ¬ E2w.opp a a := fun o => h3 (E2w.dbl0 o.2)
    rw [show LNA a a (re2 x) (re2 y) = (LT a (TGS a) (re2 x) (re2 y), true) from (if_pos h1).trans ((if_pos h2).trans (if_neg h3)), pQ ha ha o (Gi ha h3), A1]
    exact congrArg _ (show true = decide (¬ (_ ∧ _)) from (decide_eq_true (show ¬ (_ ∧ _) from o)).symm)
  ·have o := DO ha hb h1 h2
   rw [show LNA a b (re2 x) (re2 y) = (K12.one, false) from (if_pos h1).trans (if_neg h2), Cn o]
   exact congrArg _ (show false = decide (¬ (_ ∧ _)) from (decide_eq_false fun k => k o).symm)
 ·have o : ¬ E2w.opp a b := fun o => h1 o.1
  rw [show LNA a b (re2 x) (re2 y) = (LT a (CHS a b) (re2 x) (re2 y), true) from if_neg h1, pQ ha hb o (IR ha hb h1), A1]
  exact congrArg _ (show true = decide (¬ (_ ∧ _)) from (decide_eq_true (show ¬ (_ ∧ _) from o)).symm)
theorem mL (a : W2 × W2) : XYJ (a.1, a.2, on2) = a := if_pos rfl
theorem wH {R Q : Pt W2} (hR : E2w.onP R) (hQ : E2w.onP Q) (x y : Zp) : LNr (RJ2 R) (RJ2 Q) (re2 x) (re2 y) = (LG R Q (x, y), LGB R Q) := by
 cases R with
 | none => exact if_pos rfl
 | some a =>
  cases Q with
  | none => exact (if_neg f5).trans (if_pos rfl)
  | some b =>
   refine ((if_neg f5).trans (if_neg f5)).trans ?_
   rw [show RJ2 (some a) = (a.1, a.2, on2) from rfl, show RJ2 (some b) = (b.1, b.2, on2) from rfl, mL, mL]
   exact EP hR hQ x y
theorem wu {J : W6} {p : W2 × W2} (h : E2w.jr J (some p)) : XYJ J = p := by
 by_cases hz : J.2.2 = on2
 ·rw [show XYJ J = (J.1, J.2.1) from if_pos hz]
  have e : J = (J.1, J.2.1, on2) := by rw [← hz]
  rw [e] at h
  exact Option.some.inj (E2w.jr_one (E2w.jr_at (J.1, J.2.1) f5) h)
 ·rw [show XYJ J = _ from if_neg hz]
  obtain ⟨h0, h1, h2⟩ := h
  have k : ml2 J.2.2 (iv2 J.2.2) = on2 := ic h0
  have e1 : ml2 J.1 (ml2 (iv2 J.2.2) (iv2 J.2.2)) = p.1 := by
   rw [h1]
   refine (zq R2 [p.1, J.2.2, iv2 J.2.2] (tm (tm j0 (tm j1 j1)) (tm j2 j2)) (tm j0 (tm (tm j1 j2) (tm j1 j2)))).trans ?_
   show ml2 p.1 (ml2 (ml2 J.2.2 (iv2 J.2.2)) (ml2 J.2.2 (iv2 J.2.2))) = p.1
   rw [k, show ml2 on2 on2 = on2 from R2.one_mul _]
   exact R2.mul_one _
  have e2 : ml2 (ml2 J.2.1 (ml2 (iv2 J.2.2) (iv2 J.2.2))) (iv2 J.2.2) = p.2 := by
   rw [h2]
   refine (zq R2 [p.2, J.2.2, iv2 J.2.2] (tm (tm (tm j0 (tm (tm j1 j1) j1)) (tm j2 j2)) j2) (tm j0 (tm (tm (tm j1 j2) (tm j1 j2)) (tm j1 j2)))).trans ?_
   show ml2 p.2 (ml2 (ml2 (ml2 J.2.2 (iv2 J.2.2)) (ml2 J.2.2 (iv2 J.2.2))) (ml2 J.2.2 (iv2 J.2.2))) = p.2
   rw [k, show ml2 on2 on2 = on2 from R2.one_mul _, show ml2 on2 on2 = on2 from R2.one_mul _]
   exact R2.mul_one _
  rw [e1, e2]
end Q6
end
end Go.Proofs.YtpnpiblphnpfiaaGreatDoor
