/-
 The reference's points: sums, doubles, opposites.
 The reference's points: the generator, which numbers are points, times, the order.
-/
import Derived.Test.YtpnpiblphnpfiaaGreatDoorXA
import Derived.Test.YtpnpiblphnpfiaaGreatDoorX5
import Derived.Test.YtpnpiblphnpfiaaGreatDoorX3
set_option maxRecDepth 100000
set_option maxHeartbeats 1000000
namespace Go.Proofs.YtpnpiblphnpfiaaGreatDoor
section
open Go.RowKit
attribute [local simp] aZ bk aF aA aN aW aL aK aR PLl cy cx N1l cv cw cz bh bl aX bi ba
theorem rV1 {Q P : Prop} (k : Q) (h : Q → P := by intro k; (refine LY.run ?_); (repeat (first | refine bC rfl rfl rfl ?_ | ((refine uL hGF rfl rfl rfl ?_ ?_ (ak _) rfl ?_); (· simp); (· simp)) | refine bz (f := 135) rfl rfl ent135 (jz _) rfl rfl ?_)); (first | refine bV ?_ | refine LY.mk ?_); exact k) : P := h k
theorem pV1 {Q P : Prop} (k : Q) (h : Q → P := by intro k; (refine xp ?_); (refine rV1 ?_); exact k) : P := h k
theorem ent117 : ac Tryz.prog 117 := fun _ _ => by kernel_rfl
theorem ent58 : ac Tryz.prog 58 := fun _ _ => by kernel_rfl
theorem ent118 : ac Tryz.prog 118 := fun _ _ => by kernel_rfl
theorem ent121 : ac Tryz.prog 121 := fun _ _ => by kernel_rfl
theorem ent122 : ac Tryz.prog 122 := fun _ _ => by kernel_rfl
theorem ent68 : ac Tryz.prog 68 := fun _ _ => by kernel_rfl
abbrev EV6 (x : W6) : Value := .agg (((fe (x.1).1 ++ fe (x.1).2) ++ ((fe (x.2.1).1 ++ fe (x.2.1).2) ++ (fe (x.2.2).1 ++ fe (x.2.2).2))).map U64).toArray
theorem e6 {a b c a' b' c' : W2} (h1 : a = a') (h2 : b = b') (h3 : c = c') : Ending.returned (.agg (((fe (a).1 ++ fe (a).2) ++ ((fe (b).1 ++ fe (b).2) ++ (fe (c).1 ++ fe (c).2))).map U64).toArray) = .returned (.agg (((fe (a').1 ++ fe (a').2) ++ ((fe (b').1 ++ fe (b').2) ++ (fe (c').1 ++ fe (c').2))).map U64).toArray) := by rw [h1, h2, h3]
def q6 : Sh W6 := q2.two (q2.two q2 2) 2
theorem V6 (x : W6) : EV6 x = dn rid (.inl [x.1.1, x.1.2, x.2.1.1, x.2.1.2, x.2.2.1, x.2.2.2]) := by
 show Value.agg _ = Value.agg _
 rw [clv, show cel [x.1.1, x.1.2, x.2.1.1, x.2.1.2, x.2.2.1, x.2.2.2] = fe x.1.1 ++ (fe x.1.2 ++ (fe x.2.1.1 ++ (fe x.2.1.2 ++ (fe x.2.2.1 ++ fe x.2.2.2)))) from rfl]
 rw [List.append_assoc, List.append_assoc]
theorem a5 {f : Nat} {a a' : List Value} {v v' : Value} (ha : a = a') (hv : v = v') (h : Pure Tryz.prog Gt f a' v') : Pure Tryz.prog Gt f a v := by rw [ha, hv]; exact h
theorem l1 {a b : Value} (h : a = b) : [a] = [b] := by rw [h]
theorem l2 {a b c d : Value} (h : a = b) (k : c = d) : [a, c] = [b, d] := by rw [h, k]
theorem l3 {a b c d e f : Value} (h : a = b) (k : c = d) (l : e = f) : [a, c, e] = [b, d, f] := by rw [h, k, l]
theorem t2 {a b c : Value} (h : a = b) : Value.tuple #[a, c] = .tuple #[b, c] := by rw [h]
theorem B6 (x y : W2) : Pure Tryz.prog Gt 166 [EV2 x, EV2 y] (EV2 (E1w.sub x y)) := by
 have h := xd x y
 rw [fW] at h
 exact h
def sm2 (a b : BitVec 64) : W2 := (zp a.toNat, zp b.toNat)
def TO43 : Tb Tryz.prog Gt := TO42.add (bO (g := E1w.sub) ent166 B6)
theorem rh (a b : BitVec 64) : Pure Tryz.prog Gt 68 [U64 a, U64 b] (EV2 (sm2 a b)) := by
 refine aU Tryz.func68 fun w hw hGF => ?_
 refine xp ?_
 refine la zv42 fun b4 => ?_
 refine aa ?_
 refine pV1 ?_
 refine eD zG rfl rfl (by simp) (by simp) rfl rfl ?_
 refine rV1 ?_
 refine rt ?_
 exact aw 4 rfl rfl rfl Tryz.isAgg42 Tryz.sizeOf42 (by simp) (fun w hw => ⟨rfl, ah hw⟩)
theorem lr {f : Nat} {g : BitVec 64 → BitVec 64 → W2} (en : ac Tryz.prog f) (h : ∀ a b, Pure Tryz.prog Gt f [U64 a, U64 b] (EV2 (g a b))) : Snd Tryz.prog Gt f (c2 agU agU q2.rd g) := dk agU agU q2.rd en h
def TO44 : Tb Tryz.prog Gt := TO43.add (lr (g := sm2) ent68 rh)
theorem Bv (x : W6) : Pure Tryz.prog Gt 117 [EV6 x] (.bool (decide (x.2.2 = ze2))) := (a5 (l1 (V6 _)) rfl (pE TO44 Tryz.func117 [.inl [x.1.1, x.1.2, x.2.1.1, x.2.1.2, x.2.2.1, x.2.2.2]] (.inl (.inr (.inl (decide (x.2.2 = ze2))))) (.inl (.inr (.inl (decide ((x.2.2.1, x.2.2.2) = ze2)))), []) [] (by kernel_rfl) aD rfl))
theorem iI {f : Nat} {g : W6 → Bool} (en : ac Tryz.prog f) (h : ∀ a, Pure Tryz.prog Gt f [EV6 a] (.bool (g a))) : Snd Tryz.prog Gt f (c1 q6.ag rdB g) := dB q6.ag rdB en (fun a => a5 (l1 (V6 _).symm) rfl (h a))
def TO45 : Tb Tryz.prog Gt := TO44.add (iI (g := fun x => decide (x.2.2 = ze2)) ent117 Bv)
theorem r9at (a b : W2) : Pure Tryz.prog Gt 58 [EV2 a, EV2 b] (EV6 (a, b, on2)) := (a5 rfl (V6 _) (pE TO45 Tryz.func58 [.inl [a.1, a.2], .inl [b.1, b.2]] (.inl (.inl [(a, b, on2).1.1, (a, b, on2).1.2, (a, b, on2).2.1.1, (a, b, on2).2.1.2, (a, b, on2).2.2.1, (a, b, on2).2.2.2])) (let t0 := on2; (.inl (.inl [a.1, a.2, b.1, b.2, t0.1, t0.2]), [])) [] (by kernel_rfl) aD rfl))
theorem fT {f : Nat} {g : W2 → W2 → W6} (en : ac Tryz.prog f) (h : ∀ a b, Pure Tryz.prog Gt f [EV2 a, EV2 b] (EV6 (g a b))) : Snd Tryz.prog Gt f (c2 q2.ag q2.ag q6.rd g) := dk q2.ag q2.ag q6.rd en (fun a b => a5 rfl (V6 _).symm (h a b))
def TO46 : Tb Tryz.prog Gt := TO45.add (fT (g := fun a b => (a, b, on2)) ent58 r9at)
theorem vL (x : W6) : Pure Tryz.prog Gt 121 [EV6 x] (EV6 (E1w.jdF x)) := by
 by_cases h : x.2.2 = ze2
 ·exact (a5 (l1 (V6 _)) (V6 _) (pE TO46 Tryz.func121 [.inl [x.1.1, x.1.2, x.2.1.1, x.2.1.2, x.2.2.1, x.2.2.2]] (.inl (.inl [(E1w.jdF x).1.1, (E1w.jdF x).1.2, (E1w.jdF x).2.1.1, (E1w.jdF x).2.1.2, (E1w.jdF x).2.2.1, (E1w.jdF x).2.2.2])) (.inl (.inl [0, 0, 0, 0, 0, 0]), [(decide (x.2.2 = ze2), true)]) [some true] (by kernel_rfl) (ay (decide_eq_true h) aD) (by rw [show E1w.jdF x = (ze2, ze2, ze2) from if_pos (.inl h)] <;> exact rfl)))
 ·by_cases h2 : x.2.1 = ze2
  ·exact (a5 (l1 (V6 _)) (V6 _) (pE TO46 Tryz.func121 [.inl [x.1.1, x.1.2, x.2.1.1, x.2.1.2, x.2.2.1, x.2.2.2]] (.inl (.inl [(E1w.jdF x).1.1, (E1w.jdF x).1.2, (E1w.jdF x).2.1.1, (E1w.jdF x).2.1.2, (E1w.jdF x).2.2.1, (E1w.jdF x).2.2.2])) (.inl (.inl [0, 0, 0, 0, 0, 0]), [(decide (x.2.2 = ze2), false), (decide ((x.2.1.1, x.2.1.2) = ze2), true)]) [some false, some true] (by kernel_rfl) (ay (decide_eq_false h) (ay (decide_eq_true h2) aD)) (by rw [show E1w.jdF x = (ze2, ze2, ze2) from if_pos (.inr h2)] <;> exact rfl)))
  ·exact (a5 (l1 (V6 _)) (V6 _) (pE TO46 Tryz.func121 [.inl [x.1.1, x.1.2, x.2.1.1, x.2.1.2, x.2.2.1, x.2.2.2]] (.inl (.inl [(E1w.jdF x).1.1, (E1w.jdF x).1.2, (E1w.jdF x).2.1.1, (E1w.jdF x).2.1.2, (E1w.jdF x).2.2.1, (E1w.jdF x).2.2.2])) (let t0 := ml2 (x.1.1, x.1.2) (x.1.1, x.1.2); let t1 := ml2 (x.2.1.1, x.2.1.2) (x.2.1.1, x.2.1.2); let t2 := ml2 (x.1.1, x.1.2) (t1.1, t1.2); let t3 := ad2 (t2.1, t2.2) (t2.1, t2.2); let t4 := ad2 (t3.1, t3.2) (t3.1, t3.2); let t5 := ad2 (t0.1, t0.2) (t0.1, t0.2); let t6 := ad2 (t5.1, t5.2) (t0.1, t0.2); let t7 := ml2 (t6.1, t6.2) (t6.1, t6.2); let t8 := E1w.sub (t7.1, t7.2) (t4.1, t4.2); let t9 := E1w.sub (t8.1, t8.2) (t4.1, t4.2); let t10 := ml2 (t1.1, t1.2) (t1.1, t1.2); let t11 := ad2 (t10.1, t10.2) (t10.1, t10.2); let t12 := ad2 (t11.1, t11.2) (t11.1, t11.2); let t13 := ad2 (t12.1, t12.2) (t12.1, t12.2); let t14 := ml2 (x.2.1.1, x.2.1.2) (x.2.2.1, x.2.2.2); let t15 := E1w.sub (t4.1, t4.2) (t9.1, t9.2); let t16 := ml2 (t6.1, t6.2) (t15.1, t15.2); let t17 := E1w.sub (t16.1, t16.2) (t13.1, t13.2); let t18 := ad2 (t14.1, t14.2) (t14.1, t14.2); (.inl (.inl [t9.1, t9.2, t17.1, t17.2, t18.1, t18.2]), [(decide (x.2.2 = ze2), false), (decide ((x.2.1.1, x.2.1.2) = ze2), false)])) [some false, some false] (by kernel_rfl) (ay (decide_eq_false h) (ay (decide_eq_false h2) aD)) (by rw [show E1w.jdF x = E1w.jd x.1 x.2.1 x.2.2 from if_neg (fun e => e.elim h h2)] <;> exact rfl)))
theorem bM {f : Nat} {g : W6 → W6} (en : ac Tryz.prog f) (h : ∀ a, Pure Tryz.prog Gt f [EV6 a] (EV6 (g a))) : Snd Tryz.prog Gt f (c1 q6.ag q6.rd g) := dB q6.ag q6.rd en (fun a => a5 (l1 (V6 _).symm) (V6 _).symm (h a))
def TO47 : Tb Tryz.prog Gt := TO46.add (bM (g := E1w.jdF) ent121 vL)
theorem GX (x y : W6) : Pure Tryz.prog Gt 122 [EV6 x, EV6 y] (EV6 (E1w.jaF x y)) := by
 by_cases h1 : x.2.2 = ze2
 ·exact (a5 (l2 (V6 _) (V6 _)) (V6 _) (pE TO47 Tryz.func122 [.inl [x.1.1, x.1.2, x.2.1.1, x.2.1.2, x.2.2.1, x.2.2.2], .inl [y.1.1, y.1.2, y.2.1.1, y.2.1.2, y.2.2.1, y.2.2.2]] (.inl (.inl [(E1w.jaF x y).1.1, (E1w.jaF x y).1.2, (E1w.jaF x y).2.1.1, (E1w.jaF x y).2.1.2, (E1w.jaF x y).2.2.1, (E1w.jaF x y).2.2.2])) (.inl (.inl [y.1.1, y.1.2, y.2.1.1, y.2.1.2, y.2.2.1, y.2.2.2]), [(decide (x.2.2 = ze2), true)]) [some true] (by kernel_rfl) (ay (decide_eq_true h1) aD) (by rw [show E1w.jaF x y = y from if_pos h1] <;> exact rfl)))
 ·by_cases h2 : y.2.2 = ze2
  ·exact (a5 (l2 (V6 _) (V6 _)) (V6 _) (pE TO47 Tryz.func122 [.inl [x.1.1, x.1.2, x.2.1.1, x.2.1.2, x.2.2.1, x.2.2.2], .inl [y.1.1, y.1.2, y.2.1.1, y.2.1.2, y.2.2.1, y.2.2.2]] (.inl (.inl [(E1w.jaF x y).1.1, (E1w.jaF x y).1.2, (E1w.jaF x y).2.1.1, (E1w.jaF x y).2.1.2, (E1w.jaF x y).2.2.1, (E1w.jaF x y).2.2.2])) (.inl (.inl [x.1.1, x.1.2, x.2.1.1, x.2.1.2, x.2.2.1, x.2.2.2]), [(decide (x.2.2 = ze2), false), (decide (y.2.2 = ze2), true)]) [some false, some true] (by kernel_rfl) (ay (decide_eq_false h1) (ay (decide_eq_true h2) aD)) (by rw [show E1w.jaF x y = x from (if_neg h1).trans (if_pos h2)] <;> exact rfl)))
  ·by_cases h3 : E1w.jh x.1 x.2.2 y.1 y.2.2 = ze2
   ·by_cases h4 : E1w.jq x.2.1 x.2.2 y.2.1 y.2.2 = ze2
    ·exact (a5 (l2 (V6 _) (V6 _)) (V6 _) (pE TO47 Tryz.func122 [.inl [x.1.1, x.1.2, x.2.1.1, x.2.1.2, x.2.2.1, x.2.2.2], .inl [y.1.1, y.1.2, y.2.1.1, y.2.1.2, y.2.2.1, y.2.2.2]] (.inl (.inl [(E1w.jaF x y).1.1, (E1w.jaF x y).1.2, (E1w.jaF x y).2.1.1, (E1w.jaF x y).2.1.2, (E1w.jaF x y).2.2.1, (E1w.jaF x y).2.2.2])) (let t0 := ml2 (x.2.2.1, x.2.2.2) (x.2.2.1, x.2.2.2); let t1 := ml2 (y.2.2.1, y.2.2.2) (y.2.2.1, y.2.2.2); let t2 := ml2 (x.1.1, x.1.2) (t1.1, t1.2); let t3 := ml2 (y.1.1, y.1.2) (t0.1, t0.2); let t4 := ml2 (x.2.1.1, x.2.1.2) (t1.1, t1.2); let t5 := ml2 (t4.1, t4.2) (y.2.2.1, y.2.2.2); let t6 := ml2 (y.2.1.1, y.2.1.2) (t0.1, t0.2); let t7 := ml2 (t6.1, t6.2) (x.2.2.1, x.2.2.2); let t8 := E1w.sub (t3.1, t3.2) (t2.1, t2.2); let t9 := E1w.sub (t7.1, t7.2) (t5.1, t5.2); let t10 := E1w.jdF x; (.inl (.inl [t10.1.1, t10.1.2, t10.2.1.1, t10.2.1.2, t10.2.2.1, t10.2.2.2]), [(decide (x.2.2 = ze2), false), (decide (y.2.2 = ze2), false), (decide ((t8.1, t8.2) = ze2), true), (decide ((t9.1, t9.2) = ze2), true)])) [some false, some false, some true, some true] (by kernel_rfl) (ay (decide_eq_false h1) (ay (decide_eq_false h2) (ay (decide_eq_true h3) (ay (decide_eq_true h4) aD)))) (by rw [show E1w.jaF x y = E1w.jdF x from (if_neg h1).trans ((if_neg h2).trans ((if_pos h3).trans (if_pos h4)))] <;> exact rfl)))
    ·exact (a5 (l2 (V6 _) (V6 _)) (V6 _) (pE TO47 Tryz.func122 [.inl [x.1.1, x.1.2, x.2.1.1, x.2.1.2, x.2.2.1, x.2.2.2], .inl [y.1.1, y.1.2, y.2.1.1, y.2.1.2, y.2.2.1, y.2.2.2]] (.inl (.inl [(E1w.jaF x y).1.1, (E1w.jaF x y).1.2, (E1w.jaF x y).2.1.1, (E1w.jaF x y).2.1.2, (E1w.jaF x y).2.2.1, (E1w.jaF x y).2.2.2])) (let t0 := ml2 (x.2.2.1, x.2.2.2) (x.2.2.1, x.2.2.2); let t1 := ml2 (y.2.2.1, y.2.2.2) (y.2.2.1, y.2.2.2); let t2 := ml2 (x.1.1, x.1.2) (t1.1, t1.2); let t3 := ml2 (y.1.1, y.1.2) (t0.1, t0.2); let t4 := ml2 (x.2.1.1, x.2.1.2) (t1.1, t1.2); let t5 := ml2 (t4.1, t4.2) (y.2.2.1, y.2.2.2); let t6 := ml2 (y.2.1.1, y.2.1.2) (t0.1, t0.2); let t7 := ml2 (t6.1, t6.2) (x.2.2.1, x.2.2.2); let t8 := E1w.sub (t3.1, t3.2) (t2.1, t2.2); let t9 := E1w.sub (t7.1, t7.2) (t5.1, t5.2); (.inl (.inl [0, 0, 0, 0, 0, 0]), [(decide (x.2.2 = ze2), false), (decide (y.2.2 = ze2), false), (decide ((t8.1, t8.2) = ze2), true), (decide ((t9.1, t9.2) = ze2), false)])) [some false, some false, some true, some false] (by kernel_rfl) (ay (decide_eq_false h1) (ay (decide_eq_false h2) (ay (decide_eq_true h3) (ay (decide_eq_false h4) aD)))) (by rw [show E1w.jaF x y = (ze2, ze2, ze2) from (if_neg h1).trans ((if_neg h2).trans ((if_pos h3).trans (if_neg h4)))] <;> exact rfl)))
   ·exact (a5 (l2 (V6 _) (V6 _)) (V6 _) (pE TO47 Tryz.func122 [.inl [x.1.1, x.1.2, x.2.1.1, x.2.1.2, x.2.2.1, x.2.2.2], .inl [y.1.1, y.1.2, y.2.1.1, y.2.1.2, y.2.2.1, y.2.2.2]] (.inl (.inl [(E1w.jaF x y).1.1, (E1w.jaF x y).1.2, (E1w.jaF x y).2.1.1, (E1w.jaF x y).2.1.2, (E1w.jaF x y).2.2.1, (E1w.jaF x y).2.2.2])) (let t0 := ml2 (x.2.2.1, x.2.2.2) (x.2.2.1, x.2.2.2); let t1 := ml2 (y.2.2.1, y.2.2.2) (y.2.2.1, y.2.2.2); let t2 := ml2 (x.1.1, x.1.2) (t1.1, t1.2); let t3 := ml2 (y.1.1, y.1.2) (t0.1, t0.2); let t4 := ml2 (x.2.1.1, x.2.1.2) (t1.1, t1.2); let t5 := ml2 (t4.1, t4.2) (y.2.2.1, y.2.2.2); let t6 := ml2 (y.2.1.1, y.2.1.2) (t0.1, t0.2); let t7 := ml2 (t6.1, t6.2) (x.2.2.1, x.2.2.2); let t8 := E1w.sub (t3.1, t3.2) (t2.1, t2.2); let t9 := E1w.sub (t7.1, t7.2) (t5.1, t5.2); let t10 := ml2 (t8.1, t8.2) (t8.1, t8.2); let t11 := ml2 (t10.1, t10.2) (t8.1, t8.2); let t12 := ml2 (t2.1, t2.2) (t10.1, t10.2); let t13 := ml2 (t9.1, t9.2) (t9.1, t9.2); let t14 := E1w.sub (t13.1, t13.2) (t11.1, t11.2); let t15 := E1w.sub (t14.1, t14.2) (t12.1, t12.2); let t16 := E1w.sub (t15.1, t15.2) (t12.1, t12.2); let t17 := E1w.sub (t12.1, t12.2) (t16.1, t16.2); let t18 := ml2 (t9.1, t9.2) (t17.1, t17.2); let t19 := ml2 (t5.1, t5.2) (t11.1, t11.2); let t20 := E1w.sub (t18.1, t18.2) (t19.1, t19.2); let t21 := ml2 (x.2.2.1, x.2.2.2) (y.2.2.1, y.2.2.2); let t22 := ml2 (t21.1, t21.2) (t8.1, t8.2); (.inl (.inl [t16.1, t16.2, t20.1, t20.2, t22.1, t22.2]), [(decide (x.2.2 = ze2), false), (decide (y.2.2 = ze2), false), (decide ((t8.1, t8.2) = ze2), false)])) [some false, some false, some false] (by kernel_rfl) (ay (decide_eq_false h1) (ay (decide_eq_false h2) (ay (decide_eq_false h3) aD))) (by rw [show E1w.jaF x y = E1w.ja x.1 x.2.1 x.2.2 y.1 y.2.1 y.2.2 from (if_neg h1).trans ((if_neg h2).trans (if_neg h3))] <;> exact rfl)))
theorem bJ {f : Nat} {g : W6 → W6 → W6} (en : ac Tryz.prog f) (h : ∀ a b, Pure Tryz.prog Gt f [EV6 a, EV6 b] (EV6 (g a b))) : Snd Tryz.prog Gt f (c2 q6.ag q6.ag q6.rd g) := dk q6.ag q6.ag q6.rd en (fun a b => a5 (l2 (V6 _).symm (V6 _).symm) (V6 _).symm (h a b))
def TO48 : Tb Tryz.prog Gt := TO47.add (bJ (g := E1w.jaF) ent122 GX)
end
section
open Go.RowKit
attribute [local simp] aZ bk aF aA aN aW aL aK aR PLl cy cx N1l cv cw cz bh bl aX bi ba
def RRL : List (BitVec 64) := [18446744069414584321#64, 6034159408538082302#64, 3691218898639771653#64, 8353516859464449352#64, 0#64, 0#64]
def RB48 : List (BitVec 8) := BYs RRL 48
theorem tH : RB48.length = 48 := by decide +kernel
theorem zg : RRL.length = 6 := rfl
attribute [local simp] tH zg
end
end Go.Proofs.YtpnpiblphnpfiaaGreatDoor
