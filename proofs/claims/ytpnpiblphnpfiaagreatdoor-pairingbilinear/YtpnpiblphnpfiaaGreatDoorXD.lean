/-
 The program's points.
 The program's points.
-/
import Derived.Test.YtpnpiblphnpfiaaGreatDoorXC
import Derived.Test.YtpnpiblphnpfiaaGreatDoorX5
import Derived.Test.YtpnpiblphnpfiaaGreatDoorX4
import Derived.Test.YtpnpiblphnpfiaaGreatDoorX3
set_option maxRecDepth 100000
set_option maxHeartbeats 1000000
namespace Go.Proofs.YtpnpiblphnpfiaaGreatDoor
section
open Go.RowKit
theorem ent157 : ae Tryz.prog 157 := fun _ _ => by kernel_rfl
theorem ent50 : ae Tryz.prog 50 := fun _ _ => by kernel_rfl
theorem ent45 : ae Tryz.prog 45 := fun _ _ => by kernel_rfl
theorem ent109 : ae Tryz.prog 109 := fun _ _ => by kernel_rfl
theorem ent108 : ae Tryz.prog 108 := fun _ _ => by kernel_rfl
theorem ent52 : ae Tryz.prog 52 := fun _ _ => by kernel_rfl
theorem ent14 : ae Tryz.prog 14 := fun _ _ => by kernel_rfl
theorem ent53 : ae Tryz.prog 53 := fun _ _ => by kernel_rfl
theorem ent51 : ae Tryz.prog 51 := fun _ _ => by kernel_rfl
theorem ent60 : ae Tryz.prog 60 := fun _ _ => by kernel_rfl
theorem ent13 : ae Tryz.prog 13 := fun _ _ => by kernel_rfl
theorem ent32 : ae Tryz.prog 32 := fun _ _ => by kernel_rfl
namespace J2
attribute [local simp] aP bc aM aH aA a9 aF aE aG PLl bY ca N1l cb cf bZ aU ba aN aZ a7
theorem rI4 {Q P : Prop} (k : Q) (h : Q → P := by intro k; (refine LY.run ?_); (repeat (first | refine bI rfl rfl rfl ?_ | refine bd rfl rfl rfl ?_ | ((refine xe rfl rfl ?_ rfl rfl ?_); (· simp)) | ((refine oe rfl rfl ?_ rfl rfl ?_); (· simp)) | ((refine zj hGF rfl rfl rfl ?_ ?_ (ak _) rfl ?_); (· simp); (· simp)) | ((refine qI hGF rfl rfl rfl ?_ ?_ (ak _) rfl ?_); (· simp); (· simp)) | ((refine u0 hGF rfl rfl rfl ?_ ?_ (ak _) rfl ?_); (· simp); (· simp)) | refine gh rfl rfl rfl rfl ?_)); (first | refine cm ?_ | refine LY.mk ?_); exact k) : P := h k
theorem pI4 {Q P : Prop} (k : Q) (h : Q → P := by intro k; (refine xp ?_); (refine rI4 ?_); exact k) : P := h k
structure GP where
 J : W6
 P : Pt W2
 on : E2w.onP P
 jr : E2w.jr J P
def GL (p : GP) : List (BitVec 64) := ((fe p.J.1.1 ++ fe p.J.1.2) ++ ((fe p.J.2.1.1 ++ fe p.J.2.1.2) ++ (fe p.J.2.2.1 ++ fe p.J.2.2.2)))
theorem bk (p : GP) : (GL p).length = 36 := by simp [GL]
attribute [local simp] bk
abbrev PtV (p : GP) : Value := .agg ((GL p).map U64).toArray
def PX : Pt W2 → W2
 | none => ze2
 | some p => p.1
def PY : Pt W2 → W2
 | none => ze2
 | some p => p.2
def RS4 (x : W2) : W2 := ad2 (ml2 (ml2 x x) x) E2w.b
theorem jM {p : W2 × W2} (h : E2w.on p) : E2w.onP (some p) := h
theorem sL (w : World) : (zeroValue 35).run Tryz.prog w = .ok (.agg (((fe 0 ++ fe 0) ++ ((fe 0 ++ fe 0) ++ (fe 0 ++ fe 0))).map U64).toArray) w := by rw [jF]; exact (Tryz.zeroValue35 w).trans (by rfl)
theorem Bl (x y : W2) : Pure Tryz.prog Gt 154 [EV2 x, EV2 y] (EV2 (E2w.sub x y)) := by
 have h := vj x y
 rw [gY] at h
 exact h
def TO49 : Tb Tryz.prog Gt := TO30.add (de (g := E2w.sub) ent154 Bl)
theorem pC (x : W6) : Pure Tryz.prog Gt 45 [EV6 x] (.bool (decide (x.2.2 = ze2))) := (bv (l1 (V6 _)) rfl (pE TO49 Tryz.func45 [.inl [x.1.1, x.1.2, x.2.1.1, x.2.1.2, x.2.2.1, x.2.2.2]] (.inl (.inr (.inl (decide (x.2.2 = ze2))))) (.inl (.inr (.inl (decide ((x.2.2.1, x.2.2.2) = ze2)))), []) [] (by kernel_rfl) aR rfl))
def TO50 : Tb Tryz.prog Gt := TO49.add (lC (g := fun x => decide (x.2.2 = ze2)) ent45 pC)
theorem wl {f : Nat} {g : W6} (en : ae Tryz.prog f) (h : Pure Tryz.prog Gt f [] (EV6 g)) : Snd Tryz.prog Gt f (c0 q6.rd g) := oy q6.rd en (bv rfl (V6 _).symm h)
theorem wq (x : W6) : Pure Tryz.prog Gt 157 [EV6 x] (EV6 (E2w.dbA x)) := (bv (l1 (V6 _)) (V6 _) (pE TO50 Tryz.func157 [.inl [x.1.1, x.1.2, x.2.1.1, x.2.1.2, x.2.2.1, x.2.2.2]] (.inl (.inl [(E2w.dbA x).1.1, (E2w.dbA x).1.2, (E2w.dbA x).2.1.1, (E2w.dbA x).2.1.2, (E2w.dbA x).2.2.1, (E2w.dbA x).2.2.2])) (let t0 := ad2 (x.2.1.1, x.2.1.2) (x.2.1.1, x.2.1.2); let t1 := ml2 (x.1.1, x.1.2) (x.1.1, x.1.2); let t2 := ad2 (t1.1, t1.2) (t1.1, t1.2); let t3 := ad2 (t2.1, t2.2) (t1.1, t1.2); let t4 := ml2 (t0.1, t0.2) (t0.1, t0.2); let t5 := ml2 (t4.1, t4.2) (x.1.1, x.1.2); let t6 := ml2 (t3.1, t3.2) (t3.1, t3.2); let t7 := E2w.sub (t6.1, t6.2) (t5.1, t5.2); let t8 := E2w.sub (t7.1, t7.2) (t5.1, t5.2); let t9 := E2w.sub (t5.1, t5.2) (t8.1, t8.2); let t10 := ml2 (t3.1, t3.2) (t9.1, t9.2); let t11 := ml2 (t4.1, t4.2) (t0.1, t0.2); let t12 := ml2 (t11.1, t11.2) (x.2.1.1, x.2.1.2); let t13 := E2w.sub (t10.1, t10.2) (t12.1, t12.2); let t14 := ml2 (x.2.2.1, x.2.2.2) (t0.1, t0.2); (.inl (.inl [t8.1, t8.2, t13.1, t13.2, t14.1, t14.2]), [])) [] (by kernel_rfl) aR rfl))
def TO53 : Tb Tryz.prog Gt := TO50.add (bQ (g := E2w.dbA) ent157 wq)
theorem qu (x y : W6) : Pure Tryz.prog Gt 109 [EV6 x, EV6 y] (EV6 (E2w.adA x y)) := by
 by_cases h1 : x.2.2 = ze2
 ·exact (bv (l2 (V6 _) (V6 _)) (V6 _) (pE TO53 Tryz.func109 [.inl [x.1.1, x.1.2, x.2.1.1, x.2.1.2, x.2.2.1, x.2.2.2], .inl [y.1.1, y.1.2, y.2.1.1, y.2.1.2, y.2.2.1, y.2.2.2]] (.inl (.inl [(E2w.adA x y).1.1, (E2w.adA x y).1.2, (E2w.adA x y).2.1.1, (E2w.adA x y).2.1.2, (E2w.adA x y).2.2.1, (E2w.adA x y).2.2.2])) (.inl (.inl [y.1.1, y.1.2, y.2.1.1, y.2.1.2, y.2.2.1, y.2.2.2]), [(decide (x.2.2 = ze2), true)]) [some true] (by kernel_rfl) (aT (decide_eq_true h1) aR) (by rw [show E2w.adA x y = y from if_pos h1] <;> exact rfl)))
 ·by_cases h2 : y.2.2 = ze2
  ·exact (bv (l2 (V6 _) (V6 _)) (V6 _) (pE TO53 Tryz.func109 [.inl [x.1.1, x.1.2, x.2.1.1, x.2.1.2, x.2.2.1, x.2.2.2], .inl [y.1.1, y.1.2, y.2.1.1, y.2.1.2, y.2.2.1, y.2.2.2]] (.inl (.inl [(E2w.adA x y).1.1, (E2w.adA x y).1.2, (E2w.adA x y).2.1.1, (E2w.adA x y).2.1.2, (E2w.adA x y).2.2.1, (E2w.adA x y).2.2.2])) (.inl (.inl [x.1.1, x.1.2, x.2.1.1, x.2.1.2, x.2.2.1, x.2.2.2]), [(decide (x.2.2 = ze2), false), (decide (y.2.2 = ze2), true)]) [some false, some true] (by kernel_rfl) (aT (decide_eq_false h1) (aT (decide_eq_true h2) aR)) (by rw [show E2w.adA x y = x from (if_neg h1).trans (if_pos h2)] <;> exact rfl)))
  ·by_cases h3 : E2w.jh x.1 x.2.2 y.1 y.2.2 = ze2
   ·by_cases h4 : E2w.jq x.2.1 x.2.2 y.2.1 y.2.2 = ze2
    ·exact (bv (l2 (V6 _) (V6 _)) (V6 _) (pE TO53 Tryz.func109 [.inl [x.1.1, x.1.2, x.2.1.1, x.2.1.2, x.2.2.1, x.2.2.2], .inl [y.1.1, y.1.2, y.2.1.1, y.2.1.2, y.2.2.1, y.2.2.2]] (.inl (.inl [(E2w.adA x y).1.1, (E2w.adA x y).1.2, (E2w.adA x y).2.1.1, (E2w.adA x y).2.1.2, (E2w.adA x y).2.2.1, (E2w.adA x y).2.2.2])) (let t0 := ml2 (x.2.2.1, x.2.2.2) (x.2.2.1, x.2.2.2); let t1 := ml2 (y.2.2.1, y.2.2.2) (y.2.2.1, y.2.2.2); let t2 := ml2 (x.1.1, x.1.2) (t1.1, t1.2); let t3 := ml2 (x.2.1.1, x.2.1.2) (t1.1, t1.2); let t4 := ml2 (t3.1, t3.2) (y.2.2.1, y.2.2.2); let t5 := ml2 (y.1.1, y.1.2) (t0.1, t0.2); let t6 := E2w.sub (t5.1, t5.2) (t2.1, t2.2); let t7 := ml2 (y.2.1.1, y.2.1.2) (t0.1, t0.2); let t8 := ml2 (t7.1, t7.2) (x.2.2.1, x.2.2.2); let t9 := E2w.sub (t8.1, t8.2) (t4.1, t4.2); let t10 := E2w.dbA x; (.inl (.inl [t10.1.1, t10.1.2, t10.2.1.1, t10.2.1.2, t10.2.2.1, t10.2.2.2]), [(decide (x.2.2 = ze2), false), (decide (y.2.2 = ze2), false), (decide ((t6.1, t6.2) = ze2), true), (decide ((t9.1, t9.2) = ze2), true)])) [some false, some false, some true, some true] (by kernel_rfl) (aT (decide_eq_false h1) (aT (decide_eq_false h2) (aT (decide_eq_true h3) (aT (decide_eq_true h4) aR)))) (by rw [show E2w.adA x y = E2w.dbA x from (if_neg h1).trans ((if_neg h2).trans ((if_pos h3).trans (if_pos h4)))] <;> exact rfl)))
    ·exact (bv (l2 (V6 _) (V6 _)) (V6 _) (pE TO53 Tryz.func109 [.inl [x.1.1, x.1.2, x.2.1.1, x.2.1.2, x.2.2.1, x.2.2.2], .inl [y.1.1, y.1.2, y.2.1.1, y.2.1.2, y.2.2.1, y.2.2.2]] (.inl (.inl [(E2w.adA x y).1.1, (E2w.adA x y).1.2, (E2w.adA x y).2.1.1, (E2w.adA x y).2.1.2, (E2w.adA x y).2.2.1, (E2w.adA x y).2.2.2])) (let t0 := ml2 (x.2.2.1, x.2.2.2) (x.2.2.1, x.2.2.2); let t1 := ml2 (y.2.2.1, y.2.2.2) (y.2.2.1, y.2.2.2); let t2 := ml2 (x.1.1, x.1.2) (t1.1, t1.2); let t3 := ml2 (x.2.1.1, x.2.1.2) (t1.1, t1.2); let t4 := ml2 (t3.1, t3.2) (y.2.2.1, y.2.2.2); let t5 := ml2 (y.1.1, y.1.2) (t0.1, t0.2); let t6 := E2w.sub (t5.1, t5.2) (t2.1, t2.2); let t7 := ml2 (y.2.1.1, y.2.1.2) (t0.1, t0.2); let t8 := ml2 (t7.1, t7.2) (x.2.2.1, x.2.2.2); let t9 := E2w.sub (t8.1, t8.2) (t4.1, t4.2); (.inl (.inl [0, 0, 0, 0, 0, 0]), [(decide (x.2.2 = ze2), false), (decide (y.2.2 = ze2), false), (decide ((t6.1, t6.2) = ze2), true), (decide ((t9.1, t9.2) = ze2), false), (decide ((t6.1, t6.2) = ze2), true)])) [some false, some false, some true, some false, some true] (by kernel_rfl) (aT (decide_eq_false h1) (aT (decide_eq_false h2) (aT (decide_eq_true h3) (aT (decide_eq_false h4) (aT (decide_eq_true h3) aR))))) (by rw [show E2w.adA x y = (ze2, ze2, ze2) from (if_neg h1).trans ((if_neg h2).trans ((if_pos h3).trans (if_neg h4)))] <;> exact rfl)))
   ·exact (bv (l2 (V6 _) (V6 _)) (V6 _) (pE TO53 Tryz.func109 [.inl [x.1.1, x.1.2, x.2.1.1, x.2.1.2, x.2.2.1, x.2.2.2], .inl [y.1.1, y.1.2, y.2.1.1, y.2.1.2, y.2.2.1, y.2.2.2]] (.inl (.inl [(E2w.adA x y).1.1, (E2w.adA x y).1.2, (E2w.adA x y).2.1.1, (E2w.adA x y).2.1.2, (E2w.adA x y).2.2.1, (E2w.adA x y).2.2.2])) (let t0 := ml2 (x.2.2.1, x.2.2.2) (x.2.2.1, x.2.2.2); let t1 := ml2 (y.2.2.1, y.2.2.2) (y.2.2.1, y.2.2.2); let t2 := ml2 (x.1.1, x.1.2) (t1.1, t1.2); let t3 := ml2 (x.2.1.1, x.2.1.2) (t1.1, t1.2); let t4 := ml2 (t3.1, t3.2) (y.2.2.1, y.2.2.2); let t5 := ml2 (y.1.1, y.1.2) (t0.1, t0.2); let t6 := E2w.sub (t5.1, t5.2) (t2.1, t2.2); let t7 := ml2 (y.2.1.1, y.2.1.2) (t0.1, t0.2); let t8 := ml2 (t7.1, t7.2) (x.2.2.1, x.2.2.2); let t9 := E2w.sub (t8.1, t8.2) (t4.1, t4.2); let t10 := ml2 (t6.1, t6.2) (t6.1, t6.2); let t11 := ml2 (t10.1, t10.2) (t6.1, t6.2); let t12 := ml2 (t10.1, t10.2) (t2.1, t2.2); let t13 := ml2 (t9.1, t9.2) (t9.1, t9.2); let t14 := E2w.sub (t13.1, t13.2) (t11.1, t11.2); let t15 := E2w.sub (t14.1, t14.2) (t12.1, t12.2); let t16 := E2w.sub (t15.1, t15.2) (t12.1, t12.2); let t17 := E2w.sub (t12.1, t12.2) (t16.1, t16.2); let t18 := ml2 (t9.1, t9.2) (t17.1, t17.2); let t19 := ml2 (t11.1, t11.2) (t4.1, t4.2); let t20 := E2w.sub (t18.1, t18.2) (t19.1, t19.2); let t21 := ml2 (x.2.2.1, x.2.2.2) (y.2.2.1, y.2.2.2); let t22 := ml2 (t21.1, t21.2) (t6.1, t6.2); (.inl (.inl [t16.1, t16.2, t20.1, t20.2, t22.1, t22.2]), [(decide (x.2.2 = ze2), false), (decide (y.2.2 = ze2), false), (decide ((t6.1, t6.2) = ze2), false), (decide ((t6.1, t6.2) = ze2), false)])) [some false, some false, some false, some false] (by kernel_rfl) (aT (decide_eq_false h1) (aT (decide_eq_false h2) (aT (decide_eq_false h3) (aT (decide_eq_false h3) aR)))) (by rw [show E2w.adA x y = E2w.adG x y from (if_neg h1).trans ((if_neg h2).trans (if_neg h3))] <;> exact rfl)))
def TO54 : Tb Tryz.prog Gt := TO53.add (bH (g := E2w.adA) ent109 qu)
theorem sr (x : W6) (h : x.2.2 = ze2) : Pure Tryz.prog Gt 60 [EV6 x] (.tuple #[EV2 ze2, EV2 ze2, .bool false]) := (bv (l1 (V6 _)) rfl (pE TO54 Tryz.func60 [.inl [x.1.1, x.1.2, x.2.1.1, x.2.1.2, x.2.2.1, x.2.2.2]] (.inr [.inl [ze2.1, ze2.2], .inl [ze2.1, ze2.2], .inr (.inl false)]) (.inr [.inl [0, 0], .inl [0, 0], .inr (.inl false)], [(decide (x.2.2 = ze2), true)]) [some true] (by kernel_rfl) (aT (decide_eq_true h) aR) rfl))
theorem rT (x : W6) (h : ¬ x.2.2 = ze2) : Pure Tryz.prog Gt 60 [EV6 x] (.tuple #[EV2 (ml2 x.1 (ml2 (iv2 x.2.2) (iv2 x.2.2))), EV2 (ml2 x.2.1 (ml2 (ml2 (iv2 x.2.2) (iv2 x.2.2)) (iv2 x.2.2))), .bool true]) := (bv (l1 (V6 _)) rfl (pE TO54 Tryz.func60 [.inl [x.1.1, x.1.2, x.2.1.1, x.2.1.2, x.2.2.1, x.2.2.2]] (.inr [.inl [(ml2 x.1 (ml2 (iv2 x.2.2) (iv2 x.2.2))).1, (ml2 x.1 (ml2 (iv2 x.2.2) (iv2 x.2.2))).2], .inl [(ml2 x.2.1 (ml2 (ml2 (iv2 x.2.2) (iv2 x.2.2)) (iv2 x.2.2))).1, (ml2 x.2.1 (ml2 (ml2 (iv2 x.2.2) (iv2 x.2.2)) (iv2 x.2.2))).2], .inr (.inl true)]) (let t0 := iv2 (x.2.2.1, x.2.2.2); let t1 := ml2 (t0.1, t0.2) (t0.1, t0.2); let t2 := ml2 (x.1.1, x.1.2) (t1.1, t1.2); let t3 := ml2 (t1.1, t1.2) (t0.1, t0.2); let t4 := ml2 (x.2.1.1, x.2.1.2) (t3.1, t3.2); (.inr [.inl [t2.1, t2.2], .inl [t4.1, t4.2], .inr (.inl true)], [(decide (x.2.2 = ze2), false)])) [some false] (by kernel_rfl) (aT (decide_eq_false h) aR) rfl))
theorem uA (a b : W2) : Pure Tryz.prog Gt 51 [EV2 a, EV2 b] (EV6 (a, b, on2)) := (bv rfl (V6 _) (pE TO54 Tryz.func51 [.inl [a.1, a.2], .inl [b.1, b.2]] (.inl (.inl [(a, b, on2).1.1, (a, b, on2).1.2, (a, b, on2).2.1.1, (a, b, on2).2.1.2, (a, b, on2).2.2.1, (a, b, on2).2.2.2])) (let t0 := on2; (.inl (.inl [a.1, a.2, b.1, b.2, t0.1, t0.2]), [])) [] (by kernel_rfl) aR rfl))
def TO55 : Tb Tryz.prog Gt := TO54.add (jc (g := fun a b => (a, b, on2)) ent51 uA)
theorem sE {w : World} {b : Nat} {c : List Value} {xs : List (BitVec 8)} (h : w.rangeAt b 0 c) (ht : c.take xs.length = xs.map U8) : BytesAt w (some ⟨b, 0, none⟩) xs := by
 refine BytesAt.range fun j v hv => h j v ?_
 rw [← ht, List.getElem?_take] at hv
 split at hv
 ·exact hv
 ·cases hv
theorem sk (s0 : ByteArray) (xs : List (BitVec 8)) (h0 : s0.data.toList = xs.map (fun x => UInt8.ofBitVec x)) : Pure Tryz.prog Gt 50 [.string s0] (EV (FV xs)) := by
 refine a8 Tryz.func50 fun w hw hGF => ?_
 refine ab (E := EE [1000022]) ?_
 refine la zv27 fun b2 => ?_
 refine aa ?_
 refine ab (E := EE [1000022]) ?_
 refine rI4 ?_
 refine B7 7 (xs := xs) rfl hGF rfl Tryz.underlying9 Tryz.underlying22 Tryz.underlying5 h0 rfl rfl (fun b7 c7 k7 e7 l7 t7 => ?_)
 refine bE rfl rfl ent46 (fun w' hC hG => eM _ _ xs w' hG (sE (cK (n := 7) rfl w' hC) t7)) rfl rfl ?_
 refine rI4 ?_
 refine la zv27 fun b3 => ?_
 refine rI4 ?_
 refine ab (E := EE [1000022]) ?_
 refine rI4 ?_
 refine rt ?_
 exact av 2 rfl rfl rfl Tryz.isAgg27 Tryz.sizeOf27 (by simp) (fun w hw => ⟨rfl, ah hw⟩)
def GX0 : List (BitVec 8) := [2#8, 74#8, 162#8, 178#8, 240#8, 143#8, 10#8, 145#8, 38#8, 8#8, 5#8, 39#8, 45#8, 197#8, 16#8, 81#8, 198#8, 228#8, 122#8, 212#8, 250#8, 64#8, 59#8, 2#8, 180#8, 81#8, 11#8, 100#8, 122#8, 227#8, 209#8, 119#8, 11#8, 172#8, 3#8, 38#8, 168#8, 5#8, 187#8, 239#8, 212#8, 128#8, 86#8, 200#8, 193#8, 33#8, 189#8, 184#8]
theorem E0 : FV GX0 = G2p.1.1 := by rw [FV, if_pos ⟨rfl, by decide +kernel⟩]; decide +kernel
theorem E3 {a : Zp} (ha : G2p.1.1 = a) (s0 : ByteArray) (h0 : s0.data.toList = GX0.map (fun x => UInt8.ofBitVec x)) : Pure Tryz.prog Gt 50 [.string s0] (EV a) := by
 have h := sk s0 GX0 h0
 rw [E0, ha] at h
 exact h
def GX1 : List (BitVec 8) := [19#8, 224#8, 43#8, 96#8, 82#8, 113#8, 159#8, 96#8, 125#8, 172#8, 211#8, 160#8, 136#8, 39#8, 79#8, 101#8, 89#8, 107#8, 208#8, 208#8, 153#8, 32#8, 182#8, 26#8, 181#8, 218#8, 97#8, 187#8, 220#8, 127#8, 80#8, 73#8, 51#8, 76#8, 241#8, 18#8, 19#8, 148#8, 93#8, 87#8, 229#8, 172#8, 125#8, 5#8, 93#8, 4#8, 43#8, 126#8]
theorem Gx : FV GX1 = G2p.1.2 := by rw [FV, if_pos ⟨rfl, by decide +kernel⟩]; decide +kernel
theorem EK {a : Zp} (ha : G2p.1.2 = a) (s0 : ByteArray) (h0 : s0.data.toList = GX1.map (fun x => UInt8.ofBitVec x)) : Pure Tryz.prog Gt 50 [.string s0] (EV a) := by
 have h := sk s0 GX1 h0
 rw [Gx, ha] at h
 exact h
def GY0 : List (BitVec 8) := [12#8, 229#8, 213#8, 39#8, 114#8, 125#8, 110#8, 17#8, 140#8, 201#8, 205#8, 198#8, 218#8, 46#8, 53#8, 26#8, 173#8, 253#8, 155#8, 170#8, 140#8, 189#8, 211#8, 167#8, 109#8, 66#8, 154#8, 105#8, 81#8, 96#8, 209#8, 44#8, 146#8, 58#8, 201#8, 204#8, 59#8, 172#8, 162#8, 137#8, 225#8, 147#8, 84#8, 134#8, 8#8, 184#8, 40#8, 1#8]
theorem Gv : FV GY0 = G2p.2.1 := by rw [FV, if_pos ⟨rfl, by decide +kernel⟩]; decide +kernel
theorem G1 {a : Zp} (ha : G2p.2.1 = a) (s0 : ByteArray) (h0 : s0.data.toList = GY0.map (fun x => UInt8.ofBitVec x)) : Pure Tryz.prog Gt 50 [.string s0] (EV a) := by
 have h := sk s0 GY0 h0
 rw [Gv, ha] at h
 exact h
def GY1 : List (BitVec 8) := [6#8, 6#8, 196#8, 160#8, 46#8, 167#8, 52#8, 204#8, 50#8, 172#8, 210#8, 176#8, 43#8, 194#8, 139#8, 153#8, 203#8, 62#8, 40#8, 126#8, 133#8, 167#8, 99#8, 175#8, 38#8, 116#8, 146#8, 171#8, 87#8, 46#8, 153#8, 171#8, 63#8, 55#8, 13#8, 39#8, 92#8, 236#8, 29#8, 161#8, 170#8, 169#8, 7#8, 95#8, 240#8, 95#8, 121#8, 190#8]
theorem ES : FV GY1 = G2p.2.2 := by rw [FV, if_pos ⟨rfl, by decide +kernel⟩]; decide +kernel
theorem FA {a : Zp} (ha : G2p.2.2 = a) (s0 : ByteArray) (h0 : s0.data.toList = GY1.map (fun x => UInt8.ofBitVec x)) : Pure Tryz.prog Gt 50 [.string s0] (EV a) := by
 have h := sk s0 GY1 h0
 rw [ES, ha] at h
 exact h
theorem EY {a b c d : Zp} (ha : G2p.1.1 = a) (hb : G2p.1.2 = b) (hc : G2p.2.1 = c) (hd : G2p.2.2 = d) : Pure Tryz.prog Gt 13 [] (EV6 ((a, b), (c, d), on2)) := by
 refine a8 Tryz.func13 fun w hw hGF => ?_
 refine xp ?_
 refine la sL fun b0 => ?_
 refine aa ?_
 refine xp ?_
 refine lc ent50 (E3 ha _ rfl) ?_
 refine lc ent50 (EK hb _ rfl) ?_
 refine fM v9 rfl rfl (by simp) (by simp) rfl rfl ?_
 refine la zv33 fun b1 => ?_
 refine rI4 ?_
 refine xp ?_
 refine lc ent50 (G1 hc _ rfl) ?_
 refine lc ent50 (FA hd _ rfl) ?_
 refine fM v9 rfl rfl (by simp) (by simp) rfl rfl ?_
 refine la zv33 fun b2 => ?_
 refine rI4 ?_
 refine pI4 ?_
 refine aD rfl rfl ent51 (uA (a, b) (c, d)) rfl rfl ?_
 refine rI4 ?_
 refine rt ?_
 exact av 0 rfl rfl rfl Tryz.isAgg35 Tryz.sizeOf35 (by simp) (fun w hw => ⟨rfl, ah hw⟩)
theorem DB : Pure Tryz.prog Gt 13 [] (EV6 (G2p.1, G2p.2, on2)) := EY rfl rfl rfl rfl
end J2
end
section
open Go.RowKit
theorem ent110 : ae Tryz.prog 110 := fun _ _ => by kernel_rfl
namespace J2
attribute [local simp] aP bc aM aH aA a9 aF aE aG PLl bY ca N1l cb cf bZ aU ba aN aZ a7
theorem rI6 {Q P : Prop} (k : Q) (h : Q → P := by intro k; (refine LY.run ?_); (repeat (first | refine bI rfl rfl rfl ?_ | refine bd rfl rfl rfl ?_ | ((refine wJ rfl rfl ?_ rfl rfl ?_); (· simp)) | ((refine u0 hGF rfl rfl rfl ?_ ?_ (ak _) rfl ?_); (· simp); (· simp)) | refine fI rfl rfl rfl rfl rfl ?_)); (first | refine cm ?_ | refine LY.mk ?_); exact k) : P := h k
theorem pI6 {Q P : Prop} (k : Q) (h : Q → P := by intro k; (refine xp ?_); (refine rI6 ?_); exact k) : P := h k
attribute [local simp] bk
def pb (bs : List (BitVec 8)) (m : Nat) : Bool := decide (ce bs m = 1#8)
abbrev oB (bs : List (BitVec 8)) (m : Nat) : List Nat := oL (pb bs) (8 * bs.length) m
def NLs (l : List Nat) : List (List Value) := l.map fun n : Nat => [I (n : Int)]
theorem ia (l : List Nat) : (NLs l).length = l.length := by simp [NLs]
theorem nf (bs : List (BitVec 8)) (i j : Nat) (hj : j < 8) : bs.getD i 0 >>> (7 - j) &&& 1#8 = ce bs (8 * i + j) := by
 rw [ce, show (8 * i + j) / 8 = i by omega, show (8 * i + j) % 8 = j by omega]
theorem pi {bs : List (BitVec 8)} {m : Nat} (h : ce bs m = 1#8) : pb bs m = true := decide_eq_true h
theorem wP {bs : List (BitVec 8)} {m : Nat} (h : ¬ ce bs m = 1#8) : ¬ pb bs m = true := fun e => h (of_decide_eq_true e)
theorem uX {bs : List (BitVec 8)} {m : Nat} (hm : m < 8 * bs.length) (h : ce bs m = 1#8) : (NLs (oB bs (8 * bs.length)))[(oB bs m).length]? = some [I ((8 * bs.length - 1 - m : Nat) : Int)] := by
 rw [NLs, List.getElem?_map, Au hm (pi h)]
 rfl
theorem DS {bs : List (BitVec 8)} {m : Nat} (h : ce bs m = 1#8) : (oB bs (m + 1)).length = (oB bs m).length + 1 := AC (pi h)
theorem Dz {bs : List (BitVec 8)} {m : Nat} (h : ¬ ce bs m = 1#8) : (oB bs (m + 1)).length = (oB bs m).length := A6 (wP h)
theorem ve (bs : List (BitVec 8)) : ∀ m, vN (pb bs) m = BTn bs m
 | 0 => rfl
 | m + 1 => by
  rw [vN, ve bs m, BTn]
  rcases gA bs m with ⟨h, e⟩ | ⟨h, e⟩
  ·rw [if_pos (pi h), e]
  ·rw [if_neg (wP h), e]
theorem qB (bs : List (BitVec 8)) : SOg (oB bs (8 * bs.length)) = BN bs bs.length := by rw [pK, ve, gw]
theorem kU {bb : Nat} {e : Option Addr} {cap : Nat} {bs : List (BitVec 8)} {w w' : World} (h : RdD bb e cap bs w) (hg : Grow w w') : RdD bb e cap bs w' := ⟨(hg.cell (block_lt_of_cell h.1)).trans h.1, h.2.grow hg⟩
theorem fK (sv : Value) (hs : sv.cells = #[sv]) (w : World) (hw : Gt w) : Calls Tryz.prog 53 [sv].toArray w (fun e w' => ∃ b1, e = .returned (.func (.func 110) #[] #[.pointer (some ⟨b1, 0, none⟩)]) ∧ Grow w w' ∧ w.heap.size ≤ b1 ∧ OwnB w' b1 [sv] 22) := by
 have hGF : BOk Gt (pl w) := gt_low.plain hw
 refine aB (G := Gt) Tryz.func53 rfl rfl (Hp (pl w) []) (aJ (pl w) trivial ai) (ap hGF) ?_
 refine xp ?_
 refine gi 1 hGF rfl rfl rfl ?_
 intro b1
 refine rI6 ?_
 refine xp ?_
 refine eQ rfl rfl rfl rfl ?_
 refine rI6 ?_
 refine rt ?_
 exact a5 rfl rfl (fun w hw => ⟨b1, rfl, ah hw, (hw.own 1 b1 _ _ rfl).2.elim id False.elim, (by have := (hw.own 1 b1 _ _ rfl).1; rw [hs] at this; exact this)⟩)
theorem gQ (bb : Nat) (e : Option Addr) (cap : Nat) (bs : List (BitVec 8)) (hlen : bs.length ≤ 1000000) : eu Tryz.prog Gt 110 [.pointer (some ⟨bb, 0, none⟩)] (NLs (oB bs (8 * bs.length))) (RdD bb e cap bs) := by
 intro l J Jx hJ hJx hRd hGx hY w hj
 have okJ : ∀ k, BOk Gt (Bi w (fun Y => J Y k)) := fun k => ⟨fun _ _ _ h => (hRd _ _ _ h.rid).1, hJ k⟩
 have okX : ∀ k, BOk Gt (Bi w (fun Y => Jx Y k)) := fun k => ⟨fun _ _ _ h => hGx _ _ _ h.rid, hJx k⟩
 have c1 : ∀ k L w', Hp (Bi w (fun Y => J Y k)) L w' → RdD bb e cap bs w' := fun k L w' h => (hRd _ _ _ h.rid).2
 have hby := (hRd _ _ _ hj).2.2
 refine aB (G := Gt) Tryz.func110 rfl rfl (Hp (Bi w (fun Y => J Y 0)) []) (aJ (Bi w _) hj (hJ 0)) (ap (okJ 0)) ?_
 refine xp ?_
 refine cr rfl Tryz.isAgg22 (fun w h => (c1 _ _ w h).1) rfl rfl ?_
 refine bt rfl (fun _ => aK Tryz.underlying22 _ _ _ _) rfl rfl ?_
 refine rI6 ?_
 refine aj ?_
 refine dV (ι := { i : Nat // i ≤ bs.length }) (fun x => [(0, .func (.yield l) #[] #[]), (1, .pointer (some ⟨bb, 0, none⟩)), (6, .slice e bs.length cap), (7, I (bs.length : Int)), (8, I (x.1 : Int))]) (fun x => Bi w (fun Y => J Y (oB bs (8 * x.1)).length)) (fun x => []) (fun x => bs.length - x.1) ⟨0, Nat.zero_le _⟩ (fun _ => okJ _) rfl ⟨rfl, rfl, rfl, rfl, rfl, trivial⟩ trivial ?_
 rintro ⟨i, hi⟩
 dsimp only
 refine xp ?_
 refine ac rfl rfl (fun _ => rfl) (fun _ => aQ _ _ _) rfl rfl ?_
 refine aa ?_
 refine ao ?_
 refine bM rfl (fun hc => ?_) (fun hc => ?_)
 ·have hi2 : i < bs.length := by simp at hc; omega
  refine az ?_
  refine ao ?_
  refine aj ?_
  refine pI6 ?_
  obtain ⟨ad, rfl, _⟩ := hby i _ (gm U8 bs 0 i (by omega))
  refine ku i rfl rfl Tryz.underlying22 Tryz.sizeOf5 rfl (by omega) rfl rfl ?_
  refine cr rfl Tryz.isAgg5 (fun w' h => by obtain ⟨ad', e', hc'⟩ := (c1 _ _ w' h).2 i _ (gm U8 bs 0 i (by omega)); cases e'; exact hc') rfl rfl ?_
  refine rI6 ?_
  refine pI6 ?_
  refine aj ?_
  refine dV (ι := { j : Nat // j ≤ 8 }) (fun x => [(0, .func (.yield l) #[] #[]), (1, .pointer (some ⟨bb, 0, none⟩)), (6, .slice (some ad) bs.length cap), (7, I (bs.length : Int)), (8, I (i : Int)), (3, I (i : Int)), (4, U8 (bs.getD i 0)), (5, I (7 - (x.1 : Int)))]) (fun x => Bi w (fun Y => J Y (oB bs (8 * i + x.1)).length)) (fun x => []) (fun x => 8 - x.1) ⟨0, Nat.zero_le _⟩ (fun _ => okJ _) rfl ⟨rfl, rfl, rfl, rfl, rfl, rfl, rfl, rfl, trivial⟩ trivial ?_
  rintro ⟨j, hj⟩
  dsimp only
  by_cases h1 : ce bs (8 * i + j) = 1#8
  ·skip
   refine ao ?_
   refine pI6 ?_
   refine ac (v := .bool (decide (j < 8))) rfl rfl (fun _ => rfl) (fun _ => (di _ _ _).trans (by rw [show decide ((7 - (j : Int)) ≥ 0) = decide (j < 8) from decide_eq_decide.2 (by omega)])) rfl rfl ?_
   refine aa ?_
   refine bM rfl (fun hc => ?_) (fun hc => ?_)
   ·have hj2 : j < 8 := by simpa using hc
    refine az ?_
    refine ao ?_
    refine aj ?_
    refine pI6 ?_
    refine ac (v := U8 (bs.getD i 0 >>> (7 - j))) rfl rfl (fun _ => rfl) (fun _ => (d7 _ _ _ (by omega)).trans (by rw [show (7 - (j : Int)).toNat = 7 - j by omega])) rfl rfl ?_
    refine ac (v := U8 (ce bs (8 * i + j))) rfl rfl (fun _ => rfl) (fun _ => (ei _ _ 1#8).trans (by rw [nf bs i j hj2])) rfl rfl ?_
    refine ac (v := .bool true) rfl rfl (fun _ => rfl) (fun w => (fB _ _ _).trans (congrArg (fun b => Result.ok (Value.bool b) w) (beq_iff_eq.2 h1))) rfl rfl ?_
    refine rI6 ?_
    refine cr rfl Tryz.isAgg22 (fun w h => (c1 _ _ w h).1) rfl rfl ?_
    refine bt rfl (fun _ => aK Tryz.underlying22 _ _ _ _) rfl rfl ?_
    refine ac (v := I ((bs.length : Int) - 1)) rfl rfl (fun _ => rfl) (fun _ => bj _ _ _ (by unfold inI; omega)) rfl rfl ?_
    refine rI6 ?_
    refine ac (v := I ((bs.length - 1 - i : Nat) : Int)) rfl rfl (fun _ => rfl) (fun _ => (bj _ _ _ (by unfold inI; omega)).trans (by rw [show (bs.length : Int) - 1 - (i : Int) = ((bs.length - 1 - i : Nat) : Int) by omega])) rfl rfl ?_
    refine ac (v := I ((8 * (bs.length - 1 - i) : Nat) : Int)) rfl rfl (fun _ => rfl) (fun _ => (ft _ _ _ (by unfold inI; omega)).trans (by rw [show (8 : Int) * ((bs.length - 1 - i : Nat) : Int) = ((8 * (bs.length - 1 - i) : Nat) : Int) by omega])) rfl rfl ?_
    refine rI6 ?_
    refine ac (v := I ((8 * bs.length - 1 - (8 * i + j) : Nat) : Int)) rfl rfl (fun _ => rfl) (fun _ => (aI _ _ _ (by unfold inI; omega)).trans (by rw [show ((8 * (bs.length - 1 - i) : Nat) : Int) + (7 - (j : Int)) = ((8 * bs.length - 1 - (8 * i + j) : Nat) : Int) by omega])) rfl rfl ?_
    refine db (hY.b (k := (oB bs (8 * i + j)).length) (uX (by omega) h1) w) (okJ _) (okX _) rfl rfl rfl rfl rfl ?_ ?_
    ·skip
     refine bx rfl (fun _ => bf _) rfl rfl ?_
     refine rI6 ?_
     refine bl rfl ?_
     refine az ?_
     refine aq (E := EE []) ?_
     refine rI6 ?_
     refine ac (v := I (7 - ((j + 1 : Nat) : Int))) rfl rfl (fun _ => rfl) (fun _ => (bj _ _ _ (by unfold inI; omega)).trans (by rw [show 7 - (j : Int) - 1 = 7 - ((j + 1 : Nat) : Int) by omega])) rfl rfl ?_
     refine rI6 ?_
     repeat (refine aO ?_)
     refine bi ?_
     rw [← DS h1]
     exact ⟨rfl, ⟨j + 1, by omega⟩, _, by show 8 - (j + 1) < 8 - j; omega, rfl, ⟨rfl, rfl, rfl, rfl, rfl, rfl, rfl, rfl, trivial⟩, trivial⟩
    ·skip
     refine bx rfl (fun _ => bf _) rfl rfl ?_
     refine rI6 ?_
     refine bV rfl ?_
     refine rt ?_
     repeat (first | refine cO ?_ | refine bJ ?_ | refine cR rfl ?_ | refine aY ?_ | refine aX ?_)
     exact cF rfl (fun w hw => ⟨⟨_, rfl⟩, .inr ⟨_, bG (hJx _) hw.rid⟩⟩)
   ·obtain rfl : j = 8 := by simp at hc; omega
    refine aW ?_
    refine aq (E := EE []) ?_
    refine ac rfl rfl (fun _ => rfl) (fun _ => aI _ _ _ (by unfold inI; omega)) rfl rfl ?_
    refine rI6 ?_
    repeat (refine aO ?_)
    refine bi ?_
    exact ⟨rfl, ⟨i + 1, by omega⟩, _, by show bs.length - (i + 1) < bs.length - i; omega, rfl, ⟨rfl, rfl, rfl, rfl, rfl, trivial⟩, trivial⟩
  ·skip
   refine ao ?_
   refine ab (E := EE [3000000]) ?_
   refine rI6 ?_
   refine ac (v := .bool (decide (j < 8))) rfl rfl (fun _ => rfl) (fun _ => (di _ _ _).trans (by rw [show decide ((7 - (j : Int)) ≥ 0) = decide (j < 8) from decide_eq_decide.2 (by omega)])) rfl rfl ?_
   refine aa ?_
   refine bM rfl (fun hc => ?_) (fun hc => ?_)
   ·have hj2 : j < 8 := by simpa using hc
    refine az ?_
    refine ao ?_
    refine aj ?_
    refine ab (E := EE [3000000]) ?_
    refine rI6 ?_
    refine ac (v := U8 (bs.getD i 0 >>> (7 - j))) rfl rfl (fun _ => rfl) (fun _ => (d7 _ _ _ (by omega)).trans (by rw [show (7 - (j : Int)).toNat = 7 - j by omega])) rfl rfl ?_
    refine ac (v := U8 (ce bs (8 * i + j))) rfl rfl (fun _ => rfl) (fun _ => (ei _ _ 1#8).trans (by rw [nf bs i j hj2])) rfl rfl ?_
    refine ac (v := .bool false) rfl rfl (fun _ => rfl) (fun w => (fB _ _ _).trans (congrArg (fun b => Result.ok (Value.bool b) w) (beq_eq_false_iff_ne.2 h1))) rfl rfl ?_
    refine rI6 ?_
    refine aC rfl rfl rfl ?_
    refine aC rfl rfl rfl ?_
    refine aC rfl rfl rfl ?_
    refine aC rfl rfl rfl ?_
    refine aC rfl rfl rfl ?_
    refine aC rfl rfl rfl ?_
    refine aC rfl rfl rfl ?_
    refine aC rfl rfl rfl ?_
    refine aC rfl rfl rfl ?_
    refine aC rfl rfl rfl ?_
    refine aC rfl rfl rfl ?_
    refine rI6 ?_
    refine bl rfl ?_
    refine az ?_
    refine aq (E := EE [3000000]) ?_
    refine rI6 ?_
    refine ac (v := I (7 - ((j + 1 : Nat) : Int))) rfl rfl (fun _ => rfl) (fun _ => (bj _ _ _ (by unfold inI; omega)).trans (by rw [show 7 - (j : Int) - 1 = 7 - ((j + 1 : Nat) : Int) by omega])) rfl rfl ?_
    refine rI6 ?_
    repeat (refine aO ?_)
    refine bi ?_
    rw [← Dz h1]
    exact ⟨rfl, ⟨j + 1, by omega⟩, _, by show 8 - (j + 1) < 8 - j; omega, rfl, ⟨rfl, rfl, rfl, rfl, rfl, rfl, rfl, rfl, trivial⟩, trivial⟩
   ·obtain rfl : j = 8 := by simp at hc; omega
    refine aW ?_
    refine aq (E := EE [3000000]) ?_
    refine ac rfl rfl (fun _ => rfl) (fun _ => aI _ _ _ (by unfold inI; omega)) rfl rfl ?_
    refine rI6 ?_
    repeat (refine aO ?_)
    refine bi ?_
    exact ⟨rfl, ⟨i + 1, by omega⟩, _, by show bs.length - (i + 1) < bs.length - i; omega, rfl, ⟨rfl, rfl, rfl, rfl, rfl, trivial⟩, trivial⟩
 ·obtain rfl : i = bs.length := by simp at hc; omega
  refine aW ?_
  repeat (first | refine cO ?_ | refine bJ ?_ | refine cR rfl ?_ | refine aY ?_ | refine aX ?_)
  refine cS rfl (fun w hw => ⟨⟨_, rfl⟩, .inl ?_⟩)
  have := bG (hJ _) hw.rid
  rw [ia]
  exact this
theorem fU (x : W6) (n : Int) (hn : n ≤ 1000000000) : Pure Tryz.prog Gt 108 [EV6 x, I n] (EV6 (E2w.dbN x n.toNat)) := by
 refine a8 Tryz.func108 fun w hw hGF => ?_
 refine xp ?_
 refine lb fun b2 => ?_
 refine la sL fun b4 => ?_
 refine aa ?_
 refine ao ?_
 refine pI6 ?_
 refine aj ?_
 refine cy (ι := { i : Nat // i ≤ n.toNat }) (fun y => [(2, .pointer (some ⟨b2, 0, none⟩)), (4, .pointer (some ⟨b4, 0, none⟩)), (5, I n), (6, I (y.1 : Int))]) (fun y => [(2, b2, ((fe ((E2w.dbN x y.1).1).1 ++ fe ((E2w.dbN x y.1).1).2) ++ ((fe ((E2w.dbN x y.1).2.1).1 ++ fe ((E2w.dbN x y.1).2.1).2) ++ (fe ((E2w.dbN x y.1).2.2).1 ++ fe ((E2w.dbN x y.1).2.2).2))).map U64, 35), (4, b4, ((fe 0 ++ fe 0) ++ ((fe 0 ++ fe 0) ++ (fe 0 ++ fe 0))).map U64, 35)]) (fun y => n.toNat - y.1) ⟨0, Nat.zero_le _⟩ hGF ⟨rfl, rfl, rfl, rfl, trivial⟩ ⟨rfl, rfl, trivial⟩ ?_
 rintro ⟨i, hi⟩
 dsimp only
 refine xp ?_
 refine ac (v := .bool (decide ((i : Int) < n))) rfl rfl (fun _ => rfl) (fun _ => aQ _ _ _) rfl rfl ?_
 refine aa ?_
 refine ao ?_
 refine bM rfl (fun hc => ?_) (fun hc => ?_)
 ·have hi2 : i < n.toNat := by simp at hc; omega
  refine az ?_
  refine ao ?_
  refine aj ?_
  refine aq (E := EE []) ?_
  refine rI6 ?_
  refine aD rfl rfl ent157 (wq (E2w.dbN x i)) rfl rfl ?_
  refine rI6 ?_
  refine aq (E := EE []) ?_
  refine ac rfl rfl (fun _ => rfl) (fun _ => aI _ _ _ (by unfold inI; omega)) rfl rfl ?_
  refine rI6 ?_
  repeat (refine aO ?_)
  refine bi ?_
  exact ⟨rfl, ⟨i + 1, by omega⟩, _, by show n.toNat - (i + 1) < n.toNat - i; omega, rfl, ⟨rfl, rfl, rfl, rfl, trivial⟩, ⟨rfl, rfl, trivial⟩⟩
 ·obtain rfl : i = n.toNat := by simp at hc; omega
  refine aW ?_
  refine pI6 ?_
  refine rt ?_
  exact av 4 rfl rfl rfl Tryz.isAgg35 Tryz.sizeOf35 (by simp) (fun w hw => ⟨rfl, ah hw⟩)
theorem CT (x : W6) (a : Nat) (ha : a < 100000000) : Pure Tryz.prog Gt 108 [EV6 x, I (a : Int)] (EV6 (E2w.dbN x a)) := by
 have h := fU x (a : Int) (by omega)
 rw [Int.toNat_natCast] at h
 exact h
theorem Di (x : W6) (a b : Nat) (ha : a < 100000000) : Pure Tryz.prog Gt 108 [EV6 x, I ((a : Int) - (b : Int))] (EV6 (E2w.dbN x (a - b))) := by
 have h := fU x ((a : Int) - (b : Int)) (by omega)
 rw [Int.toNat_sub] at h
 exact h
theorem mx {L : List Nat} {k : Nat} {v : List Value} (h : (NLs L)[k]? = some v) : ∃ n : Nat, L[k]? = some n ∧ [I (n : Int)] = v := by
 rw [NLs, List.getElem?_map] at h
 cases e : L[k]? with
 | none => rw [e] at h; cases h
 | some y => rw [e] at h; exact ⟨y, rfl, Option.some.inj h⟩
theorem dp (x : W6) (gf : Nat) (caps : List Value) (L : List Nat) (Rd : Cls) (he : ae Tryz.prog gf) (hseq : eu Tryz.prog Gt gf caps (NLs L) Rd) (hL : ∀ b ∈ L, b < 100000000) (w : World) (hw : Gt w) (hRs : ∀ w', Grow w w' → Rd w') :
  Calls Tryz.prog 52 [EV6 x, .func (.func gf) #[] caps.toArray].toArray w (fun r w' => r = .returned (EV6 (E2w.tmF x L)) ∧ Grow w w') := by
 have hGF : BOk Gt (pl w) := gt_low.plain hw
 refine bD (G := Gt) Tryz.func52 rfl rfl (Hp (pl w) []) (aJ (pl w) trivial ai) (ap hGF) ?_
 refine xp ?_
 refine lb fun b2 => ?_
 refine la sL fun b4 => ?_
 refine aa ?_
 refine xp ?_
 refine la sL fun b5 => ?_
 refine aa ?_
 refine xp ?_
 refine dU 6 hGF Tryz.zeroValue3 rfl rfl ?_
 intro b6
 refine cx 6 hGF rfl rfl rfl Tryz.sizeOf3 rfl (by first | decide | simp) rfl ?_
 refine aa ?_
 refine ao ?_
 refine pI6 ?_
 refine aj ?_
 refine cZ (fun _ => pl w) (fun _ _ => pl w) (fun _ => hGF) (fun _ _ => hGF) (fun _ => rfl) (fun _ _ => rfl) rfl rfl he hseq (fun x hx => by obtain ⟨k, hk, rfl⟩ := List.mem_map.1 hx; rfl) rfl (fun k => [(2, b2, ((fe ((x).1).1 ++ fe ((x).1).2) ++ ((fe ((x).2.1).1 ++ fe ((x).2.1).2) ++ (fe ((x).2.2).1 ++ fe ((x).2.2).2))).map U64, 35), (4, b4, ((fe 0 ++ fe 0) ++ ((fe 0 ++ fe 0) ++ (fe 0 ++ fe 0))).map U64, 35), (5, b5, ((fe (((E2w.stK x L k).1).1).1 ++ fe (((E2w.stK x L k).1).1).2) ++ ((fe (((E2w.stK x L k).1).2.1).1 ++ fe (((E2w.stK x L k).1).2.1).2) ++ (fe (((E2w.stK x L k).1).2.2).1 ++ fe (((E2w.stK x L k).1).2.2).2))).map U64, 35), (6, b6, [I ((E2w.stK x L k).2 : Int)], 3)]) (fun _ _ _ => False) ⟨rfl, rfl, rfl, rfl, trivial⟩ (fun k _ w' h => hRs w' (h.below (fun _ h => h))) ?_ ?_ (fun _ _ _ _ _ h => h.elim)
 ·intro k v hx R hR
  obtain ⟨n, hn, rfl⟩ := mx hx
  have hk : k < L.length := (List.getElem?_eq_some_iff.1 hn).1
  have hb := E2w.stK_lt x (by omega) hL k (Nat.le_of_lt hk)
  have hn2 := hL n (List.mem_of_getElem? hn)
  refine aq (E := EE []) ?_
  refine rI6 ?_
  refine ⟨rfl, _, rfl, ?_⟩
  refine aj ?_
  refine bw (E := EE []) bq (by kernel_rfl) (by kernel_rfl) (by kernel_rfl) ?_
  refine rI6 ?_
  refine bR 6 rfl rfl rfl Tryz.isAgg3 rfl rfl ?_
  refine rI6 ?_
  refine ac (v := I (((E2w.stK x L k).2 : Int) - (n : Int))) rfl rfl (fun _ => rfl) (fun _ => bj _ _ _ (by unfold inI; omega)) rfl rfl ?_
  refine aD rfl rfl ent108 (Di (E2w.stK x L k).1 (E2w.stK x L k).2 n hb) rfl rfl ?_
  refine rI6 ?_
  refine lc ent109 (qu _ _) ?_
  refine am 5 (hR (pl w) rfl hGF).2.1 rfl rfl rfl Tryz.sizeOf35 (by simp) (by simp) (ak _) rfl ?_
  refine aa ?_
  refine aq (E := EE []) ?_
  refine rI6 ?_
  refine cx 6 (hR (pl w) rfl hGF).2.1 rfl rfl rfl Tryz.sizeOf3 rfl (by first | decide | simp) rfl ?_
  refine aa ?_
  repeat (refine aO ?_)
  exact ⟨_, rfl, ⟨rfl, rfl, by rw [E2w.stK_1 x hn]; rfl, by rw [E2w.stK_2 x hn]; rfl, trivial⟩⟩
 ·intro D hD
  have hb := E2w.stK_lt x (by omega) hL L.length (Nat.le_refl _)
  rw [ia]
  refine pI6 ?_
  refine bR 6 rfl rfl rfl Tryz.isAgg3 rfl rfl ?_
  refine aD rfl rfl ent108 (CT (E2w.stK x L L.length).1 (E2w.stK x L L.length).2 hb) rfl rfl ?_
  refine am 4 hD rfl rfl rfl Tryz.sizeOf35 (by simp) (by simp) (ak _) rfl ?_
  refine aa ?_
  refine rt ?_
  exact cn (.inl rfl) ai (av 4 rfl rfl rfl Tryz.isAgg35 Tryz.sizeOf35 (by simp) (fun w hw => ⟨rfl, ah hw⟩))
def mlB (x : W6) (bs : List (BitVec 8)) : W6 := E2w.tmF x (oB bs (8 * bs.length))
theorem o7 {x : W6} {P : Pt W2} (hP : E2w.onP P) (hx : E2w.jr x P) {bs : List (BitVec 8)} {m : Nat} (hm : BN bs bs.length = m) : E2w.jr (mlB x bs) (E2w.times P m) := by
 subst hm
 rw [← qB]; exact E2w.tmF_jr hP hx (oE _ _ _ (Nat.le_refl _))
theorem gT (x : W6) (e : Option Addr) (cap : Nat) (bs : List (BitVec 8)) (hlen : bs.length ≤ 1000000) (w : World) (hw : Gt w) (hby : BytesAt w e bs) :
  Calls Tryz.prog 14 [EV6 x, .slice e bs.length cap].toArray w (fun r w' => r = .returned (EV6 (mlB x bs)) ∧ Grow w w') := by
 have hGF : BOk Gt (pl w) := gt_low.plain hw
 refine aB (G := Gt) Tryz.func14 rfl rfl (Hp (pl w) []) (aJ (pl w) trivial ai) (ap hGF) ?_
 refine ab (E := EE [53, 2000053]) ?_
 refine lb fun b2 => ?_
 refine la sL fun b4 => ?_
 refine aa ?_
 refine bw (E := EE [53, 2000053]) bq (by kernel_rfl) (by kernel_rfl) (by kernel_rfl) ?_
 refine rI6 ?_
 refine ig rfl rfl ent53 rfl rfl (fun w' hw' => (fK _ rfl w' (hGF.g _ _ _ hw')).mono fun e' w'' h => ?_)
 obtain ⟨c1, rfl, hg, h1, ho⟩ := h
 refine ⟨_, _, rfl, ap hGF, hw'.news ai hg [(33, c1, [.slice e bs.length cap], 22)] ?_ cH, fY ai rfl, ?_⟩
 ·intro n' b' c' t' hl
  rcases a6 hl with ⟨_, e⟩ | ⟨_, hl⟩
  ·cases e; exact ⟨h1, ho⟩
  ·cases hl
 clear hw' hg h1 ho
 refine bE rfl rfl ent52 (fun w' hC hG => dp x 110 [.pointer (some ⟨c1, 0, none⟩)] (oB bs (8 * bs.length)) (RdD c1 e cap bs) ent110 (gQ c1 e cap bs (by omega)) (fun b hb => by have := tT hb (Nat.le_refl _); omega) w' hG (fun w'' hg => kU ⟨ci (n := 33) rfl rfl w' hC, hby.grow (hC.below (fun _ h => h))⟩ hg)) rfl rfl ?_
 refine rI6 ?_
 refine rt ?_
 exact av 4 rfl rfl rfl Tryz.isAgg35 Tryz.sizeOf35 (by simp) (fun w hw => ⟨rfl, ah hw⟩)
def gInf : GP := ⟨(ze2, ze2, ze2), none, True.intro, rfl⟩
def gGen : GP := ⟨(G2p.1, G2p.2, on2), some G2p, jM le, vm⟩
def ti (p q : GP) : GP := ⟨E2w.adA p.J q.J, E2w.ad p.P q.P, E2w.ad_on p.on q.on, E2w.adA_jr p.on q.on p.jr q.jr⟩
def tw (p : GP) (bs : List (BitVec 8)) : GP := ⟨mlB p.J bs, E2w.times p.P (BN bs bs.length), E2w.times_on p.on _, o7 p.on p.jr rfl⟩
theorem zv35 (w : World) : (zeroValue 35).run Tryz.prog w = .ok (PtV gInf) w := sL w
theorem vz {J : W6} {P : Pt W2} (h : E2w.jr J P) (hn : ¬ P = none) : ml2 J.1 (ml2 (iv2 J.2.2) (iv2 J.2.2)) = PX P ∧ ml2 J.2.1 (ml2 (ml2 (iv2 J.2.2) (iv2 J.2.2)) (iv2 J.2.2)) = PY P := by
 cases P with
 | none => exact absurd rfl hn
 | some p => exact E2w.xy_w h (E2w.hi _ h.1)
theorem nq  : Pure Tryz.prog Gt 13 [] (PtV gGen) := DB
theorem Ap (p q : GP) : Pure Tryz.prog Gt 109 [PtV p, PtV q] (PtV (ti p q)) := qu p.J q.J
theorem Ea (p : GP) (h : p.P = none) : Pure Tryz.prog Gt 60 [PtV p] (.tuple #[EV2 ze2, EV2 ze2, .bool false]) := sr p.J ((E2w.jr_zI p.jr).2 h)
theorem yW (p : GP) (h : ¬ p.P = none) : Pure Tryz.prog Gt 60 [PtV p] (.tuple #[EV2 (PX p.P), EV2 (PY p.P), .bool true]) := by
 have k := rT p.J (fun e => h ((E2w.jr_zI p.jr).1 e))
 have e := vz p.jr h
 rw [e.1, e.2] at k
 exact k
theorem vd (p : GP) (e : Option Addr) (cap : Nat) (bs : List (BitVec 8)) (hlen : bs.length ≤ 1000) (w : World) (hw : Gt w) (hby : BytesAt w e bs) : Calls Tryz.prog 14 [PtV p, .slice e bs.length cap].toArray w (fun r w' => r = .returned (PtV (tw p bs)) ∧ Grow w w') := gT p.J e cap bs (by omega) w hw hby
end J2
end
end Go.Proofs.YtpnpiblphnpfiaaGreatDoor
