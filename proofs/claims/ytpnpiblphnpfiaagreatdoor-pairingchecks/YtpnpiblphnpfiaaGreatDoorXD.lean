/-
 The program's points.
 The program's points.
-/
import Derived.Test.YtpnpiblphnpfiaaGreatDoorXC
import Derived.Test.YtpnpiblphnpfiaaGreatDoorX5
import Derived.Test.YtpnpiblphnpfiaaGreatDoorX4
import Derived.Test.YtpnpiblphnpfiaaGreatDoorX3
set_option maxRecDepth 100000
set_option maxHeartbeats 1000000
namespace Go.Proofs.YtpnpiblphnpfiaaGreatDoor
section
open Go.RowKit
theorem ent157 : ae Tryz.prog 157 := fun _ _ => by kernel_rfl
theorem ent50 : ae Tryz.prog 50 := fun _ _ => by kernel_rfl
theorem ent45 : ae Tryz.prog 45 := fun _ _ => by kernel_rfl
theorem ent109 : ae Tryz.prog 109 := fun _ _ => by kernel_rfl
theorem ent108 : ae Tryz.prog 108 := fun _ _ => by kernel_rfl
theorem ent52 : ae Tryz.prog 52 := fun _ _ => by kernel_rfl
theorem ent51 : ae Tryz.prog 51 := fun _ _ => by kernel_rfl
theorem ent60 : ae Tryz.prog 60 := fun _ _ => by kernel_rfl
theorem ent13 : ae Tryz.prog 13 := fun _ _ => by kernel_rfl
theorem ent32 : ae Tryz.prog 32 := fun _ _ => by kernel_rfl
namespace J2
attribute [local simp] aL ba aI aH aB bc aF aE aG PLl cf cb N1l ca bY ce aR a9 aJ aW a5
theorem rI4 {Q P : Prop} (k : Q) (h : Q → P := by intro k; (refine LY.run ?_); (repeat (first | refine bK rfl rfl rfl ?_ | refine bk rfl rfl rfl ?_ | ((refine vm rfl rfl ?_ rfl rfl ?_); (· simp)) | ((refine nZ rfl rfl ?_ rfl rfl ?_); (· simp)) | ((refine xU hGF rfl rfl rfl ?_ ?_ (ak _) rfl ?_); (· simp); (· simp)) | ((refine oX hGF rfl rfl rfl ?_ ?_ (ak _) rfl ?_); (· simp); (· simp)) | ((refine xS hGF rfl rfl rfl ?_ ?_ (ak _) rfl ?_); (· simp); (· simp)) | refine go rfl rfl rfl rfl ?_)); (first | refine cn ?_ | refine LY.mk ?_); exact k) : P := h k
theorem pI4 {Q P : Prop} (k : Q) (h : Q → P := by intro k; (refine xp ?_); (refine rI4 ?_); exact k) : P := h k
structure GP where
 J : W6
 P : Pt W2
 on : E2w.onP P
 jr : E2w.jr J P
def GL (p : GP) : List (BitVec 64) := ((fe p.J.1.1 ++ fe p.J.1.2) ++ ((fe p.J.2.1.1 ++ fe p.J.2.1.2) ++ (fe p.J.2.2.1 ++ fe p.J.2.2.2)))
theorem bd (p : GP) : (GL p).length = 36 := by simp [GL]
attribute [local simp] bd
abbrev PtV (p : GP) : Value := .agg ((GL p).map U64).toArray
def PX : Pt W2 → W2
 | none => ze2
 | some p => p.1
def PY : Pt W2 → W2
 | none => ze2
 | some p => p.2
def RS4 (x : W2) : W2 := ad2 (ml2 (ml2 x x) x) E2w.b
theorem kp {p : W2 × W2} (h : E2w.on p) : E2w.onP (some p) := h
theorem w4 (w : World) : (zeroValue 35).run Tryz.prog w = .ok (.agg (((fe 0 ++ fe 0) ++ ((fe 0 ++ fe 0) ++ (fe 0 ++ fe 0))).map U64).toArray) w := by rw [kF]; exact (Tryz.zeroValue35 w).trans (by rfl)
theorem B3 (x y : W2) : Pure Tryz.prog Gt 154 [EV2 x, EV2 y] (EV2 (E2w.sub x y)) := by
 have h := tM x y
 rw [gQ] at h
 exact h
def TO49 : Tb Tryz.prog Gt := TO30.add (dd (g := E2w.sub) ent154 B3)
theorem oW (x : W6) : Pure Tryz.prog Gt 45 [EV6 x] (.bool (decide (x.2.2 = ze2))) := (bx (l1 (V6 _)) rfl (pE TO49 Tryz.func45 [.inl [x.1.1, x.1.2, x.2.1.1, x.2.1.2, x.2.2.1, x.2.2.2]] (.inl (.inr (.inl (decide (x.2.2 = ze2))))) (.inl (.inr (.inl (decide ((x.2.2.1, x.2.2.2) = ze2)))), []) [] (by kernel_rfl) aT rfl))
def TO50 : Tb Tryz.prog Gt := TO49.add (lW (g := fun x => decide (x.2.2 = ze2)) ent45 oW)
theorem vH {f : Nat} {g : W6} (en : ae Tryz.prog f) (h : Pure Tryz.prog Gt f [] (EV6 g)) : Snd Tryz.prog Gt f (c0 q6.rd g) := nf q6.rd en (bx rfl (V6 _).symm h)
theorem uC (x : W6) : Pure Tryz.prog Gt 157 [EV6 x] (EV6 (E2w.dbA x)) := (bx (l1 (V6 _)) (V6 _) (pE TO50 Tryz.func157 [.inl [x.1.1, x.1.2, x.2.1.1, x.2.1.2, x.2.2.1, x.2.2.2]] (.inl (.inl [(E2w.dbA x).1.1, (E2w.dbA x).1.2, (E2w.dbA x).2.1.1, (E2w.dbA x).2.1.2, (E2w.dbA x).2.2.1, (E2w.dbA x).2.2.2])) (let t0 := ad2 (x.2.1.1, x.2.1.2) (x.2.1.1, x.2.1.2); let t1 := ml2 (x.1.1, x.1.2) (x.1.1, x.1.2); let t2 := ad2 (t1.1, t1.2) (t1.1, t1.2); let t3 := ad2 (t2.1, t2.2) (t1.1, t1.2); let t4 := ml2 (t0.1, t0.2) (t0.1, t0.2); let t5 := ml2 (t4.1, t4.2) (x.1.1, x.1.2); let t6 := ml2 (t3.1, t3.2) (t3.1, t3.2); let t7 := E2w.sub (t6.1, t6.2) (t5.1, t5.2); let t8 := E2w.sub (t7.1, t7.2) (t5.1, t5.2); let t9 := E2w.sub (t5.1, t5.2) (t8.1, t8.2); let t10 := ml2 (t3.1, t3.2) (t9.1, t9.2); let t11 := ml2 (t4.1, t4.2) (t0.1, t0.2); let t12 := ml2 (t11.1, t11.2) (x.2.1.1, x.2.1.2); let t13 := E2w.sub (t10.1, t10.2) (t12.1, t12.2); let t14 := ml2 (x.2.2.1, x.2.2.2) (t0.1, t0.2); (.inl (.inl [t8.1, t8.2, t13.1, t13.2, t14.1, t14.2]), [])) [] (by kernel_rfl) aT rfl))
def TO53 : Tb Tryz.prog Gt := TO50.add (bS (g := E2w.dbA) ent157 uC)
theorem uS (x y : W6) : Pure Tryz.prog Gt 109 [EV6 x, EV6 y] (EV6 (E2w.adA x y)) := by
 by_cases h1 : x.2.2 = ze2
 ·exact (bx (l2 (V6 _) (V6 _)) (V6 _) (pE TO53 Tryz.func109 [.inl [x.1.1, x.1.2, x.2.1.1, x.2.1.2, x.2.2.1, x.2.2.2], .inl [y.1.1, y.1.2, y.2.1.1, y.2.1.2, y.2.2.1, y.2.2.2]] (.inl (.inl [(E2w.adA x y).1.1, (E2w.adA x y).1.2, (E2w.adA x y).2.1.1, (E2w.adA x y).2.1.2, (E2w.adA x y).2.2.1, (E2w.adA x y).2.2.2])) (.inl (.inl [y.1.1, y.1.2, y.2.1.1, y.2.1.2, y.2.2.1, y.2.2.2]), [(decide (x.2.2 = ze2), true)]) [some true] (by kernel_rfl) (aY (decide_eq_true h1) aT) (by rw [show E2w.adA x y = y from if_pos h1] <;> exact rfl)))
 ·by_cases h2 : y.2.2 = ze2
  ·exact (bx (l2 (V6 _) (V6 _)) (V6 _) (pE TO53 Tryz.func109 [.inl [x.1.1, x.1.2, x.2.1.1, x.2.1.2, x.2.2.1, x.2.2.2], .inl [y.1.1, y.1.2, y.2.1.1, y.2.1.2, y.2.2.1, y.2.2.2]] (.inl (.inl [(E2w.adA x y).1.1, (E2w.adA x y).1.2, (E2w.adA x y).2.1.1, (E2w.adA x y).2.1.2, (E2w.adA x y).2.2.1, (E2w.adA x y).2.2.2])) (.inl (.inl [x.1.1, x.1.2, x.2.1.1, x.2.1.2, x.2.2.1, x.2.2.2]), [(decide (x.2.2 = ze2), false), (decide (y.2.2 = ze2), true)]) [some false, some true] (by kernel_rfl) (aY (decide_eq_false h1) (aY (decide_eq_true h2) aT)) (by rw [show E2w.adA x y = x from (if_neg h1).trans (if_pos h2)] <;> exact rfl)))
  ·by_cases h3 : E2w.jh x.1 x.2.2 y.1 y.2.2 = ze2
   ·by_cases h4 : E2w.jq x.2.1 x.2.2 y.2.1 y.2.2 = ze2
    ·exact (bx (l2 (V6 _) (V6 _)) (V6 _) (pE TO53 Tryz.func109 [.inl [x.1.1, x.1.2, x.2.1.1, x.2.1.2, x.2.2.1, x.2.2.2], .inl [y.1.1, y.1.2, y.2.1.1, y.2.1.2, y.2.2.1, y.2.2.2]] (.inl (.inl [(E2w.adA x y).1.1, (E2w.adA x y).1.2, (E2w.adA x y).2.1.1, (E2w.adA x y).2.1.2, (E2w.adA x y).2.2.1, (E2w.adA x y).2.2.2])) (let t0 := ml2 (x.2.2.1, x.2.2.2) (x.2.2.1, x.2.2.2); let t1 := ml2 (y.2.2.1, y.2.2.2) (y.2.2.1, y.2.2.2); let t2 := ml2 (x.1.1, x.1.2) (t1.1, t1.2); let t3 := ml2 (x.2.1.1, x.2.1.2) (t1.1, t1.2); let t4 := ml2 (t3.1, t3.2) (y.2.2.1, y.2.2.2); let t5 := ml2 (y.1.1, y.1.2) (t0.1, t0.2); let t6 := E2w.sub (t5.1, t5.2) (t2.1, t2.2); let t7 := ml2 (y.2.1.1, y.2.1.2) (t0.1, t0.2); let t8 := ml2 (t7.1, t7.2) (x.2.2.1, x.2.2.2); let t9 := E2w.sub (t8.1, t8.2) (t4.1, t4.2); let t10 := E2w.dbA x; (.inl (.inl [t10.1.1, t10.1.2, t10.2.1.1, t10.2.1.2, t10.2.2.1, t10.2.2.2]), [(decide (x.2.2 = ze2), false), (decide (y.2.2 = ze2), false), (decide ((t6.1, t6.2) = ze2), true), (decide ((t9.1, t9.2) = ze2), true)])) [some false, some false, some true, some true] (by kernel_rfl) (aY (decide_eq_false h1) (aY (decide_eq_false h2) (aY (decide_eq_true h3) (aY (decide_eq_true h4) aT)))) (by rw [show E2w.adA x y = E2w.dbA x from (if_neg h1).trans ((if_neg h2).trans ((if_pos h3).trans (if_pos h4)))] <;> exact rfl)))
    ·exact (bx (l2 (V6 _) (V6 _)) (V6 _) (pE TO53 Tryz.func109 [.inl [x.1.1, x.1.2, x.2.1.1, x.2.1.2, x.2.2.1, x.2.2.2], .inl [y.1.1, y.1.2, y.2.1.1, y.2.1.2, y.2.2.1, y.2.2.2]] (.inl (.inl [(E2w.adA x y).1.1, (E2w.adA x y).1.2, (E2w.adA x y).2.1.1, (E2w.adA x y).2.1.2, (E2w.adA x y).2.2.1, (E2w.adA x y).2.2.2])) (let t0 := ml2 (x.2.2.1, x.2.2.2) (x.2.2.1, x.2.2.2); let t1 := ml2 (y.2.2.1, y.2.2.2) (y.2.2.1, y.2.2.2); let t2 := ml2 (x.1.1, x.1.2) (t1.1, t1.2); let t3 := ml2 (x.2.1.1, x.2.1.2) (t1.1, t1.2); let t4 := ml2 (t3.1, t3.2) (y.2.2.1, y.2.2.2); let t5 := ml2 (y.1.1, y.1.2) (t0.1, t0.2); let t6 := E2w.sub (t5.1, t5.2) (t2.1, t2.2); let t7 := ml2 (y.2.1.1, y.2.1.2) (t0.1, t0.2); let t8 := ml2 (t7.1, t7.2) (x.2.2.1, x.2.2.2); let t9 := E2w.sub (t8.1, t8.2) (t4.1, t4.2); (.inl (.inl [0, 0, 0, 0, 0, 0]), [(decide (x.2.2 = ze2), false), (decide (y.2.2 = ze2), false), (decide ((t6.1, t6.2) = ze2), true), (decide ((t9.1, t9.2) = ze2), false), (decide ((t6.1, t6.2) = ze2), true)])) [some false, some false, some true, some false, some true] (by kernel_rfl) (aY (decide_eq_false h1) (aY (decide_eq_false h2) (aY (decide_eq_true h3) (aY (decide_eq_false h4) (aY (decide_eq_true h3) aT))))) (by rw [show E2w.adA x y = (ze2, ze2, ze2) from (if_neg h1).trans ((if_neg h2).trans ((if_pos h3).trans (if_neg h4)))] <;> exact rfl)))
   ·exact (bx (l2 (V6 _) (V6 _)) (V6 _) (pE TO53 Tryz.func109 [.inl [x.1.1, x.1.2, x.2.1.1, x.2.1.2, x.2.2.1, x.2.2.2], .inl [y.1.1, y.1.2, y.2.1.1, y.2.1.2, y.2.2.1, y.2.2.2]] (.inl (.inl [(E2w.adA x y).1.1, (E2w.adA x y).1.2, (E2w.adA x y).2.1.1, (E2w.adA x y).2.1.2, (E2w.adA x y).2.2.1, (E2w.adA x y).2.2.2])) (let t0 := ml2 (x.2.2.1, x.2.2.2) (x.2.2.1, x.2.2.2); let t1 := ml2 (y.2.2.1, y.2.2.2) (y.2.2.1, y.2.2.2); let t2 := ml2 (x.1.1, x.1.2) (t1.1, t1.2); let t3 := ml2 (x.2.1.1, x.2.1.2) (t1.1, t1.2); let t4 := ml2 (t3.1, t3.2) (y.2.2.1, y.2.2.2); let t5 := ml2 (y.1.1, y.1.2) (t0.1, t0.2); let t6 := E2w.sub (t5.1, t5.2) (t2.1, t2.2); let t7 := ml2 (y.2.1.1, y.2.1.2) (t0.1, t0.2); let t8 := ml2 (t7.1, t7.2) (x.2.2.1, x.2.2.2); let t9 := E2w.sub (t8.1, t8.2) (t4.1, t4.2); let t10 := ml2 (t6.1, t6.2) (t6.1, t6.2); let t11 := ml2 (t10.1, t10.2) (t6.1, t6.2); let t12 := ml2 (t10.1, t10.2) (t2.1, t2.2); let t13 := ml2 (t9.1, t9.2) (t9.1, t9.2); let t14 := E2w.sub (t13.1, t13.2) (t11.1, t11.2); let t15 := E2w.sub (t14.1, t14.2) (t12.1, t12.2); let t16 := E2w.sub (t15.1, t15.2) (t12.1, t12.2); let t17 := E2w.sub (t12.1, t12.2) (t16.1, t16.2); let t18 := ml2 (t9.1, t9.2) (t17.1, t17.2); let t19 := ml2 (t11.1, t11.2) (t4.1, t4.2); let t20 := E2w.sub (t18.1, t18.2) (t19.1, t19.2); let t21 := ml2 (x.2.2.1, x.2.2.2) (y.2.2.1, y.2.2.2); let t22 := ml2 (t21.1, t21.2) (t6.1, t6.2); (.inl (.inl [t16.1, t16.2, t20.1, t20.2, t22.1, t22.2]), [(decide (x.2.2 = ze2), false), (decide (y.2.2 = ze2), false), (decide ((t6.1, t6.2) = ze2), false), (decide ((t6.1, t6.2) = ze2), false)])) [some false, some false, some false, some false] (by kernel_rfl) (aY (decide_eq_false h1) (aY (decide_eq_false h2) (aY (decide_eq_false h3) (aY (decide_eq_false h3) aT)))) (by rw [show E2w.adA x y = E2w.adG x y from (if_neg h1).trans ((if_neg h2).trans (if_neg h3))] <;> exact rfl)))
def TO54 : Tb Tryz.prog Gt := TO53.add (bG (g := E2w.adA) ent109 uS)
theorem rM (x : W6) (h : x.2.2 = ze2) : Pure Tryz.prog Gt 60 [EV6 x] (.tuple #[EV2 ze2, EV2 ze2, .bool false]) := (bx (l1 (V6 _)) rfl (pE TO54 Tryz.func60 [.inl [x.1.1, x.1.2, x.2.1.1, x.2.1.2, x.2.2.1, x.2.2.2]] (.inr [.inl [ze2.1, ze2.2], .inl [ze2.1, ze2.2], .inr (.inl false)]) (.inr [.inl [0, 0], .inl [0, 0], .inr (.inl false)], [(decide (x.2.2 = ze2), true)]) [some true] (by kernel_rfl) (aY (decide_eq_true h) aT) rfl))
theorem qV (x : W6) (h : ¬ x.2.2 = ze2) : Pure Tryz.prog Gt 60 [EV6 x] (.tuple #[EV2 (ml2 x.1 (ml2 (iv2 x.2.2) (iv2 x.2.2))), EV2 (ml2 x.2.1 (ml2 (ml2 (iv2 x.2.2) (iv2 x.2.2)) (iv2 x.2.2))), .bool true]) := (bx (l1 (V6 _)) rfl (pE TO54 Tryz.func60 [.inl [x.1.1, x.1.2, x.2.1.1, x.2.1.2, x.2.2.1, x.2.2.2]] (.inr [.inl [(ml2 x.1 (ml2 (iv2 x.2.2) (iv2 x.2.2))).1, (ml2 x.1 (ml2 (iv2 x.2.2) (iv2 x.2.2))).2], .inl [(ml2 x.2.1 (ml2 (ml2 (iv2 x.2.2) (iv2 x.2.2)) (iv2 x.2.2))).1, (ml2 x.2.1 (ml2 (ml2 (iv2 x.2.2) (iv2 x.2.2)) (iv2 x.2.2))).2], .inr (.inl true)]) (let t0 := iv2 (x.2.2.1, x.2.2.2); let t1 := ml2 (t0.1, t0.2) (t0.1, t0.2); let t2 := ml2 (x.1.1, x.1.2) (t1.1, t1.2); let t3 := ml2 (t1.1, t1.2) (t0.1, t0.2); let t4 := ml2 (x.2.1.1, x.2.1.2) (t3.1, t3.2); (.inr [.inl [t2.1, t2.2], .inl [t4.1, t4.2], .inr (.inl true)], [(decide (x.2.2 = ze2), false)])) [some false] (by kernel_rfl) (aY (decide_eq_false h) aT) rfl))
theorem v3 (a b : W2) : Pure Tryz.prog Gt 51 [EV2 a, EV2 b] (EV6 (a, b, on2)) := (bx rfl (V6 _) (pE TO54 Tryz.func51 [.inl [a.1, a.2], .inl [b.1, b.2]] (.inl (.inl [(a, b, on2).1.1, (a, b, on2).1.2, (a, b, on2).2.1.1, (a, b, on2).2.1.2, (a, b, on2).2.2.1, (a, b, on2).2.2.2])) (let t0 := on2; (.inl (.inl [a.1, a.2, b.1, b.2, t0.1, t0.2]), [])) [] (by kernel_rfl) aT rfl))
def TO55 : Tb Tryz.prog Gt := TO54.add (je (g := fun a b => (a, b, on2)) ent51 v3)
theorem sO {w : World} {b : Nat} {c : List Value} {xs : List (BitVec 8)} (h : w.rangeAt b 0 c) (ht : c.take xs.length = xs.map U8) : BytesAt w (some ⟨b, 0, none⟩) xs := by
 refine BytesAt.range fun j v hv => h j v ?_
 rw [← ht, List.getElem?_take] at hv
 split at hv
 ·exact hv
 ·cases hv
theorem qR (s0 : ByteArray) (xs : List (BitVec 8)) (h0 : s0.data.toList = xs.map (fun x => UInt8.ofBitVec x)) : Pure Tryz.prog Gt 50 [.string s0] (EV (FV xs)) := by
 refine a7 Tryz.func50 fun w hw hGF => ?_
 refine ab (E := EE [1000022]) ?_
 refine la zv27 fun b2 => ?_
 refine aa ?_
 refine ab (E := EE [1000022]) ?_
 refine rI4 ?_
 refine B7 7 (xs := xs) rfl hGF rfl Tryz.underlying9 Tryz.underlying22 Tryz.underlying5 h0 rfl rfl (fun b7 c7 k7 e7 l7 t7 => ?_)
 refine bz rfl rfl ent46 (fun w' hC hG => eI _ _ xs w' hG (sO (cx (n := 7) rfl w' hC) t7)) rfl rfl ?_
 refine rI4 ?_
 refine la zv27 fun b3 => ?_
 refine rI4 ?_
 refine ab (E := EE [1000022]) ?_
 refine rI4 ?_
 refine rt ?_
 exact aw 2 rfl rfl rfl Tryz.isAgg27 Tryz.sizeOf27 (by simp) (fun w hw => ⟨rfl, ac hw⟩)
def GX0 : List (BitVec 8) := [2#8, 74#8, 162#8, 178#8, 240#8, 143#8, 10#8, 145#8, 38#8, 8#8, 5#8, 39#8, 45#8, 197#8, 16#8, 81#8, 198#8, 228#8, 122#8, 212#8, 250#8, 64#8, 59#8, 2#8, 180#8, 81#8, 11#8, 100#8, 122#8, 227#8, 209#8, 119#8, 11#8, 172#8, 3#8, 38#8, 168#8, 5#8, 187#8, 239#8, 212#8, 128#8, 86#8, 200#8, 193#8, 33#8, 189#8, 184#8]
theorem EJ : FV GX0 = G2p.1.1 := by rw [FV, if_pos ⟨rfl, by decide +kernel⟩]; decide +kernel
theorem Es {a : Zp} (ha : G2p.1.1 = a) (s0 : ByteArray) (h0 : s0.data.toList = GX0.map (fun x => UInt8.ofBitVec x)) : Pure Tryz.prog Gt 50 [.string s0] (EV a) := by
 have h := qR s0 GX0 h0
 rw [EJ, ha] at h
 exact h
def GX1 : List (BitVec 8) := [19#8, 224#8, 43#8, 96#8, 82#8, 113#8, 159#8, 96#8, 125#8, 172#8, 211#8, 160#8, 136#8, 39#8, 79#8, 101#8, 89#8, 107#8, 208#8, 208#8, 153#8, 32#8, 182#8, 26#8, 181#8, 218#8, 97#8, 187#8, 220#8, 127#8, 80#8, 73#8, 51#8, 76#8, 241#8, 18#8, 19#8, 148#8, 93#8, 87#8, 229#8, 172#8, 125#8, 5#8, 93#8, 4#8, 43#8, 126#8]
theorem GQ : FV GX1 = G2p.1.2 := by rw [FV, if_pos ⟨rfl, by decide +kernel⟩]; decide +kernel
theorem Fh {a : Zp} (ha : G2p.1.2 = a) (s0 : ByteArray) (h0 : s0.data.toList = GX1.map (fun x => UInt8.ofBitVec x)) : Pure Tryz.prog Gt 50 [.string s0] (EV a) := by
 have h := qR s0 GX1 h0
 rw [GQ, ha] at h
 exact h
def GY0 : List (BitVec 8) := [12#8, 229#8, 213#8, 39#8, 114#8, 125#8, 110#8, 17#8, 140#8, 201#8, 205#8, 198#8, 218#8, 46#8, 53#8, 26#8, 173#8, 253#8, 155#8, 170#8, 140#8, 189#8, 211#8, 167#8, 109#8, 66#8, 154#8, 105#8, 81#8, 96#8, 209#8, 44#8, 146#8, 58#8, 201#8, 204#8, 59#8, 172#8, 162#8, 137#8, 225#8, 147#8, 84#8, 134#8, 8#8, 184#8, 40#8, 1#8]
theorem GM : FV GY0 = G2p.2.1 := by rw [FV, if_pos ⟨rfl, by decide +kernel⟩]; decide +kernel
theorem E6 {a : Zp} (ha : G2p.2.1 = a) (s0 : ByteArray) (h0 : s0.data.toList = GY0.map (fun x => UInt8.ofBitVec x)) : Pure Tryz.prog Gt 50 [.string s0] (EV a) := by
 have h := qR s0 GY0 h0
 rw [GM, ha] at h
 exact h
def GY1 : List (BitVec 8) := [6#8, 6#8, 196#8, 160#8, 46#8, 167#8, 52#8, 204#8, 50#8, 172#8, 210#8, 176#8, 43#8, 194#8, 139#8, 153#8, 203#8, 62#8, 40#8, 126#8, 133#8, 167#8, 99#8, 175#8, 38#8, 116#8, 146#8, 171#8, 87#8, 46#8, 153#8, 171#8, 63#8, 55#8, 13#8, 39#8, 92#8, 236#8, 29#8, 161#8, 170#8, 169#8, 7#8, 95#8, 240#8, 95#8, 121#8, 190#8]
theorem Fu : FV GY1 = G2p.2.2 := by rw [FV, if_pos ⟨rfl, by decide +kernel⟩]; decide +kernel
theorem Gm {a : Zp} (ha : G2p.2.2 = a) (s0 : ByteArray) (h0 : s0.data.toList = GY1.map (fun x => UInt8.ofBitVec x)) : Pure Tryz.prog Gt 50 [.string s0] (EV a) := by
 have h := qR s0 GY1 h0
 rw [Fu, ha] at h
 exact h
theorem Gy {a b c d : Zp} (ha : G2p.1.1 = a) (hb : G2p.1.2 = b) (hc : G2p.2.1 = c) (hd : G2p.2.2 = d) : Pure Tryz.prog Gt 13 [] (EV6 ((a, b), (c, d), on2)) := by
 refine a7 Tryz.func13 fun w hw hGF => ?_
 refine xp ?_
 refine la w4 fun b0 => ?_
 refine aa ?_
 refine xp ?_
 refine lc ent50 (Es ha _ rfl) ?_
 refine lc ent50 (Fh hb _ rfl) ?_
 refine dw vC rfl rfl (by simp) (by simp) rfl rfl ?_
 refine la zv33 fun b1 => ?_
 refine rI4 ?_
 refine xp ?_
 refine lc ent50 (E6 hc _ rfl) ?_
 refine lc ent50 (Gm hd _ rfl) ?_
 refine dw vC rfl rfl (by simp) (by simp) rfl rfl ?_
 refine la zv33 fun b2 => ?_
 refine rI4 ?_
 refine pI4 ?_
 refine az rfl rfl ent51 (v3 (a, b) (c, d)) rfl rfl ?_
 refine rI4 ?_
 refine rt ?_
 exact aw 0 rfl rfl rfl Tryz.isAgg35 Tryz.sizeOf35 (by simp) (fun w hw => ⟨rfl, ac hw⟩)
theorem C5 : Pure Tryz.prog Gt 13 [] (EV6 (G2p.1, G2p.2, on2)) := Gy rfl rfl rfl rfl
end J2
end
section
open Go.RowKit
namespace J2
attribute [local simp] aL ba aI aH aB bc aF aE aG PLl cf cb N1l ca bY ce aR a9 aJ aW a5
theorem rI6 {Q P : Prop} (k : Q) (h : Q → P := by intro k; (refine LY.run ?_); (repeat (first | refine bK rfl rfl rfl ?_ | refine bk rfl rfl rfl ?_ | ((refine xV rfl rfl ?_ rfl rfl ?_); (· simp)) | ((refine xS hGF rfl rfl rfl ?_ ?_ (ak _) rfl ?_); (· simp); (· simp)) | refine fD rfl rfl rfl rfl rfl ?_)); (first | refine cn ?_ | refine LY.mk ?_); exact k) : P := h k
theorem pI6 {Q P : Prop} (k : Q) (h : Q → P := by intro k; (refine xp ?_); (refine rI6 ?_); exact k) : P := h k
attribute [local simp] bd
def pb (bs : List (BitVec 8)) (m : Nat) : Bool := decide (iT bs m = 1#8)
abbrev oB (bs : List (BitVec 8)) (m : Nat) : List Nat := oL (pb bs) (8 * bs.length) m
def NLs (l : List Nat) : List (List Value) := l.map fun n : Nat => [I (n : Int)]
theorem mg (l : List Nat) : (NLs l).length = l.length := by simp [NLs]
theorem gk (x : W6) (n : Int) (hn : n ≤ 1000000000) : Pure Tryz.prog Gt 108 [EV6 x, I n] (EV6 (E2w.dbN x n.toNat)) := by
 refine a7 Tryz.func108 fun w hw hGF => ?_
 refine xp ?_
 refine lb fun b2 => ?_
 refine la w4 fun b4 => ?_
 refine aa ?_
 refine aj ?_
 refine pI6 ?_
 refine am ?_
 refine cp (ι := { i : Nat // i ≤ n.toNat }) (fun y => [(2, .pointer (some ⟨b2, 0, none⟩)), (4, .pointer (some ⟨b4, 0, none⟩)), (5, I n), (6, I (y.1 : Int))]) (fun y => [(2, b2, ((fe ((E2w.dbN x y.1).1).1 ++ fe ((E2w.dbN x y.1).1).2) ++ ((fe ((E2w.dbN x y.1).2.1).1 ++ fe ((E2w.dbN x y.1).2.1).2) ++ (fe ((E2w.dbN x y.1).2.2).1 ++ fe ((E2w.dbN x y.1).2.2).2))).map U64, 35), (4, b4, ((fe 0 ++ fe 0) ++ ((fe 0 ++ fe 0) ++ (fe 0 ++ fe 0))).map U64, 35)]) (fun y => n.toNat - y.1) ⟨0, Nat.zero_le _⟩ hGF ⟨rfl, rfl, rfl, rfl, trivial⟩ ⟨rfl, rfl, trivial⟩ ?_
 rintro ⟨i, hi⟩
 dsimp only
 refine xp ?_
 refine ah (v := .bool (decide ((i : Int) < n))) rfl rfl (fun _ => rfl) (fun _ => aA _ _ _) rfl rfl ?_
 refine aa ?_
 refine aj ?_
 refine bZ rfl (fun hc => ?_) (fun hc => ?_)
 ·have hi2 : i < n.toNat := by simp at hc; omega
  refine aD ?_
  refine aj ?_
  refine am ?_
  refine av (E := EE []) ?_
  refine rI6 ?_
  refine az rfl rfl ent157 (uC (E2w.dbN x i)) rfl rfl ?_
  refine rI6 ?_
  refine av (E := EE []) ?_
  refine ah rfl rfl (fun _ => rfl) (fun _ => aO _ _ _ (by unfold inI; omega)) rfl rfl ?_
  refine rI6 ?_
  repeat (refine a6 ?_)
  refine bC ?_
  exact ⟨rfl, ⟨i + 1, by omega⟩, _, by show n.toNat - (i + 1) < n.toNat - i; omega, rfl, ⟨rfl, rfl, rfl, rfl, trivial⟩, ⟨rfl, rfl, trivial⟩⟩
 ·obtain rfl : i = n.toNat := by simp at hc; omega
  refine bf ?_
  refine pI6 ?_
  refine rt ?_
  exact aw 4 rfl rfl rfl Tryz.isAgg35 Tryz.sizeOf35 (by simp) (fun w hw => ⟨rfl, ac hw⟩)
theorem B9 (x : W6) (a : Nat) (ha : a < 100000000) : Pure Tryz.prog Gt 108 [EV6 x, I (a : Int)] (EV6 (E2w.dbN x a)) := by
 have h := gk x (a : Int) (by omega)
 rw [Int.toNat_natCast] at h
 exact h
theorem AN (x : W6) (a b : Nat) (ha : a < 100000000) : Pure Tryz.prog Gt 108 [EV6 x, I ((a : Int) - (b : Int))] (EV6 (E2w.dbN x (a - b))) := by
 have h := gk x ((a : Int) - (b : Int)) (by omega)
 rw [Int.toNat_sub] at h
 exact h
theorem m3 {L : List Nat} {k : Nat} {v : List Value} (h : (NLs L)[k]? = some v) : ∃ n : Nat, L[k]? = some n ∧ [I (n : Int)] = v := by
 rw [NLs, List.getElem?_map] at h
 cases e : L[k]? with
 | none => rw [e] at h; cases h
 | some y => rw [e] at h; exact ⟨y, rfl, Option.some.inj h⟩
theorem fI (x : W6) (gf : Nat) (caps : List Value) (L : List Nat) (Rd : Cls) (he : ae Tryz.prog gf) (hseq : fO Tryz.prog Gt gf caps (NLs L) Rd) (hL : ∀ b ∈ L, b < 100000000) (w : World) (hw : Gt w) (hRs : ∀ w', Grow w w' → Rd w') :
  Calls Tryz.prog 52 [EV6 x, .func (.func gf) #[] caps.toArray].toArray w (fun r w' => r = .returned (EV6 (E2w.tmF x L)) ∧ Grow w w') := by
 have hGF : BOk Gt (pl w) := gt_low.plain hw
 refine bE (G := Gt) Tryz.func52 rfl rfl (Hp (pl w) []) (aZ (pl w) trivial ai) (ap hGF) ?_
 refine xp ?_
 refine lb fun b2 => ?_
 refine la w4 fun b4 => ?_
 refine aa ?_
 refine xp ?_
 refine la w4 fun b5 => ?_
 refine aa ?_
 refine xp ?_
 refine dI 6 hGF Tryz.zeroValue3 rfl rfl ?_
 intro b6
 refine cu 6 hGF rfl rfl rfl Tryz.sizeOf3 rfl (by first | decide | simp) rfl ?_
 refine aa ?_
 refine aj ?_
 refine pI6 ?_
 refine am ?_
 refine db (fun _ => pl w) (fun _ _ => pl w) (fun _ => hGF) (fun _ _ => hGF) (fun _ => rfl) (fun _ _ => rfl) rfl rfl he hseq (fun x hx => by obtain ⟨k, hk, rfl⟩ := List.mem_map.1 hx; rfl) rfl (fun k => [(2, b2, ((fe ((x).1).1 ++ fe ((x).1).2) ++ ((fe ((x).2.1).1 ++ fe ((x).2.1).2) ++ (fe ((x).2.2).1 ++ fe ((x).2.2).2))).map U64, 35), (4, b4, ((fe 0 ++ fe 0) ++ ((fe 0 ++ fe 0) ++ (fe 0 ++ fe 0))).map U64, 35), (5, b5, ((fe (((E2w.stK x L k).1).1).1 ++ fe (((E2w.stK x L k).1).1).2) ++ ((fe (((E2w.stK x L k).1).2.1).1 ++ fe (((E2w.stK x L k).1).2.1).2) ++ (fe (((E2w.stK x L k).1).2.2).1 ++ fe (((E2w.stK x L k).1).2.2).2))).map U64, 35), (6, b6, [I ((E2w.stK x L k).2 : Int)], 3)]) (fun _ _ _ => False) ⟨rfl, rfl, rfl, rfl, trivial⟩ (fun k _ w' h => hRs w' (h.below (fun _ h => h))) ?_ ?_ (fun _ _ _ _ _ h => h.elim)
 ·intro k v hx R hR
  obtain ⟨n, hn, rfl⟩ := m3 hx
  have hk : k < L.length := (List.getElem?_eq_some_iff.1 hn).1
  have hb := E2w.stK_lt x (by omega) hL k (Nat.le_of_lt hk)
  have hn2 := hL n (List.mem_of_getElem? hn)
  refine av (E := EE []) ?_
  refine rI6 ?_
  refine ⟨rfl, _, rfl, ?_⟩
  refine am ?_
  refine bl (E := EE []) bi (by kernel_rfl) (by kernel_rfl) (by kernel_rfl) ?_
  refine rI6 ?_
  refine bT 6 rfl rfl rfl Tryz.isAgg3 rfl rfl ?_
  refine rI6 ?_
  refine ah (v := I (((E2w.stK x L k).2 : Int) - (n : Int))) rfl rfl (fun _ => rfl) (fun _ => bL _ _ _ (by unfold inI; omega)) rfl rfl ?_
  refine az rfl rfl ent108 (AN (E2w.stK x L k).1 (E2w.stK x L k).2 n hb) rfl rfl ?_
  refine rI6 ?_
  refine lc ent109 (uS _ _) ?_
  refine ao 5 (hR (pl w) rfl hGF).2.1 rfl rfl rfl Tryz.sizeOf35 (by simp) (by simp) (ak _) rfl ?_
  refine aa ?_
  refine av (E := EE []) ?_
  refine rI6 ?_
  refine cu 6 (hR (pl w) rfl hGF).2.1 rfl rfl rfl Tryz.sizeOf3 rfl (by first | decide | simp) rfl ?_
  refine aa ?_
  repeat (refine a6 ?_)
  exact ⟨_, rfl, ⟨rfl, rfl, by rw [E2w.stK_1 x hn]; rfl, by rw [E2w.stK_2 x hn]; rfl, trivial⟩⟩
 ·intro D hD
  have hb := E2w.stK_lt x (by omega) hL L.length (Nat.le_refl _)
  rw [mg]
  refine pI6 ?_
  refine bT 6 rfl rfl rfl Tryz.isAgg3 rfl rfl ?_
  refine az rfl rfl ent108 (B9 (E2w.stK x L L.length).1 (E2w.stK x L L.length).2 hb) rfl rfl ?_
  refine ao 4 hD rfl rfl rfl Tryz.sizeOf35 (by simp) (by simp) (ak _) rfl ?_
  refine aa ?_
  refine rt ?_
  exact cr (.inl rfl) ai (aw 4 rfl rfl rfl Tryz.isAgg35 Tryz.sizeOf35 (by simp) (fun w hw => ⟨rfl, ac hw⟩))
def gInf : GP := ⟨(ze2, ze2, ze2), none, True.intro, rfl⟩
def gGen : GP := ⟨(G2p.1, G2p.2, on2), some G2p, kp jD, tt⟩
theorem zv35 (w : World) : (zeroValue 35).run Tryz.prog w = .ok (PtV gInf) w := w4 w
theorem tG {J : W6} {P : Pt W2} (h : E2w.jr J P) (hn : ¬ P = none) : ml2 J.1 (ml2 (iv2 J.2.2) (iv2 J.2.2)) = PX P ∧ ml2 J.2.1 (ml2 (ml2 (iv2 J.2.2) (iv2 J.2.2)) (iv2 J.2.2)) = PY P := by
 cases P with
 | none => exact absurd rfl hn
 | some p => exact E2w.xy_w h (E2w.hi _ h.1)
theorem nA  : Pure Tryz.prog Gt 13 [] (PtV gGen) := C5
theorem Ds (p : GP) (h : p.P = none) : Pure Tryz.prog Gt 60 [PtV p] (.tuple #[EV2 ze2, EV2 ze2, .bool false]) := rM p.J ((E2w.jr_zI p.jr).2 h)
theorem x7 (p : GP) (h : ¬ p.P = none) : Pure Tryz.prog Gt 60 [PtV p] (.tuple #[EV2 (PX p.P), EV2 (PY p.P), .bool true]) := by
 have k := qV p.J (fun e => h ((E2w.jr_zI p.jr).1 e))
 have e := tG p.jr h
 rw [e.1, e.2] at k
 exact k
end J2
end
end Go.Proofs.YtpnpiblphnpfiaaGreatDoor
