/-
 The program's points.
 The program's points.
-/
import Derived.Test.YtpnpiblphnpfiaaGreatDoorXB
import Derived.Test.YtpnpiblphnpfiaaGreatDoorX5
import Derived.Test.YtpnpiblphnpfiaaGreatDoorX4
import Derived.Test.YtpnpiblphnpfiaaGreatDoorX3
set_option maxRecDepth 100000
set_option maxHeartbeats 1000000
namespace Go.Proofs.YtpnpiblphnpfiaaGreatDoor
section
open Go.RowKit
theorem ent49 : ae Tryz.prog 49 := fun _ _ => by kernel_rfl
theorem ent15 : ae Tryz.prog 15 := fun _ _ => by kernel_rfl
theorem ent34 : ae Tryz.prog 34 := fun _ _ => by kernel_rfl
theorem ent31 : ae Tryz.prog 31 := fun _ _ => by kernel_rfl
theorem ent57 : ae Tryz.prog 57 := fun _ _ => by kernel_rfl
theorem ent12 : ae Tryz.prog 12 := fun _ _ => by kernel_rfl
theorem ent11 : ae Tryz.prog 11 := fun _ _ => by kernel_rfl
theorem ent47 : ae Tryz.prog 47 := fun _ _ => by kernel_rfl
theorem ent89 : ae Tryz.prog 89 := fun _ _ => by kernel_rfl
theorem ent85 : ae Tryz.prog 85 := fun _ _ => by kernel_rfl
theorem ent105 : ae Tryz.prog 105 := fun _ _ => by kernel_rfl
theorem ent48 : ae Tryz.prog 48 := fun _ _ => by kernel_rfl
namespace J1
attribute [local simp] aP bc aM aH aA a9 aF aE aG PLl bY ca N1l cb cf bZ aU ba aN aZ a7
theorem rI1 {Q P : Prop} (k : Q) (h : Q → P := by intro k; (refine LY.run ?_); (repeat (first | refine bI rfl rfl rfl ?_ | refine bd rfl rfl rfl ?_ | ((refine oe rfl rfl ?_ rfl rfl ?_); (· simp)) | ((refine qI hGF rfl rfl rfl ?_ ?_ (ak _) rfl ?_); (· simp); (· simp)) | ((refine wO hGF rfl rfl rfl ?_ ?_ (ak _) rfl ?_); (· simp); (· simp)) | refine gh rfl rfl rfl rfl ?_)); (first | refine cm ?_ | refine LY.mk ?_); exact k) : P := h k
structure GP where
 J : Zp × Zp × Zp
 P : Pt Zp
 on : E1.onP P
 jr : E1.jr J P
def GL (p : GP) : List (BitVec 64) := fe p.J.1 ++ (fe p.J.2.1 ++ fe p.J.2.2)
theorem bk (p : GP) : (GL p).length = 18 := by simp [GL]
attribute [local simp] bk
abbrev PtV (p : GP) : Value := .agg ((GL p).map U64).toArray
def PX : Pt Zp → Zp
 | none => 0
 | some p => p.1
def PY : Pt Zp → Zp
 | none => 0
 | some p => p.2
def RS4 (x : Zp) : Zp := x * x * x + zp 4
def LY (x : Zp) (l : Bool) : Zp := if decide (hf < (SQ (RS4 x)).val) = l then SQ (RS4 x) else -(SQ (RS4 x))
theorem jM {p : Zp × Zp} (h : E1.on p) : E1.onP (some p) := h
abbrev JV (J : Zp × Zp × Zp) : Value := .agg ((fe (J.1) ++ (fe (J.2.1) ++ fe (J.2.2))).map U64).toArray
theorem tu (w : World) : (zeroValue 29).run Tryz.prog w = .ok (.agg ((fe 0 ++ (fe 0 ++ fe 0)).map U64).toArray) w := by rw [jF]; exact (Tryz.zeroValue29 w).trans (by rfl)
theorem jsub (a b : Zp) : a - b = E1.sub a b := by show a - b = a + -b; grind
theorem He (x y : Zp) : Pure Tryz.prog Gt 87 [EV x, EV y] (EV (E1.sub x y)) := by
 have h := iQ x y
 rw [jsub] at h
 exact h
def TO49 : Tb Tryz.prog Gt := TO30.add (df (g := E1.sub) ent87 He)
theorem pC (x : Zp × Zp × Zp) : Pure Tryz.prog Gt 85 [JV x] (.bool (decide (x.2.2 = 0))) := pE TO49 Tryz.func85 [.inl [x.1, x.2.1, x.2.2]] (.inl (.inr (.inl (decide (x.2.2 = 0))))) (.inl (.inr (.inl (decide (x.2.2 = 0)))), []) [] (by kernel_rfl) aR rfl
theorem tt {f : Nat} {g : (Zp × Zp × Zp) → Bool} (en : ae Tryz.prog f) (h : ∀ a, Pure Tryz.prog Gt f [JV a] (.bool (g a))) : Snd Tryz.prog Gt f (c1 q3.ag rdB g) := eB q3.ag rdB en h
def TO50 : Tb Tryz.prog Gt := TO49.add (tt (g := fun x => decide (x.2.2 = 0)) ent85 pC)
theorem ph {f : Nat} {g : (Zp × Zp × Zp) → (Zp × Zp × Zp)} (en : ae Tryz.prog f) (h : ∀ a, Pure Tryz.prog Gt f [JV a] (JV (g a))) : Snd Tryz.prog Gt f (c1 q3.ag q3.rd g) := eB q3.ag q3.rd en h
theorem Hg  : Pure Tryz.prog Gt 15 [] (JV (0, 0, 0)) := pE TO50 Tryz.func15 [] (.inl (.inl [(0, 0, 0).1, (0, 0, 0).2.1, (0, 0, 0).2.2])) (.inl (.inl [0, 0, 0]), []) [] (by kernel_rfl) aR rfl
theorem E2 {f : Nat} {g : (Zp × Zp × Zp)} (en : ae Tryz.prog f) (h : Pure Tryz.prog Gt f [] (JV g)) : Snd Tryz.prog Gt f (c0 q3.rd g) := oy q3.rd en h
def TO52 : Tb Tryz.prog Gt := TO50.add (E2 (g := (0, 0, 0)) ent15 Hg)
def dbF (x : Zp × Zp × Zp) : Zp × Zp × Zp :=
 let a := x.2.1 + x.2.1
 let s := x.1 * x.1
 let u := s + s + s
 let h := a * a
 let b := h * x.1
 let X := E1.sub (E1.sub (u * u) b) b
 (X, E1.sub (u * E1.sub b X) (h * a * x.2.1), x.2.2 * a)
theorem wq (x : Zp × Zp × Zp) : Pure Tryz.prog Gt 89 [JV x] (JV (dbF x)) := pE TO52 Tryz.func89 [.inl [x.1, x.2.1, x.2.2]] (.inl (.inl [(dbF x).1, (dbF x).2.1, (dbF x).2.2])) (let t0 := x.2.1 + x.2.1; let t1 := (x.1 * x.1) + (x.1 * x.1); let t2 := t1 + (x.1 * x.1); let t3 := (t0 * t0) * x.1; let t4 := E1.sub (t2 * t2) t3; let t5 := E1.sub t3 (E1.sub t4 t3); let t6 := (t0 * t0) * t0; let t7 := E1.sub (t2 * t5) (t6 * x.2.1); (.inl (.inl [E1.sub t4 t3, t7, x.2.2 * t0]), [])) [] (by kernel_rfl) aR rfl
def TO53 : Tb Tryz.prog Gt := TO52.add (ph (g := dbF) ent89 wq)
theorem db_s (x y : Zp) : (y + y) * (y + y) * x = (x * (y * y) + x * (y * y)) + (x * (y * y) + x * (y * y)) := by grind
theorem db_c (y : Zp) : (y + y) * (y + y) * (y + y) * y = (((y * y) * (y * y) + (y * y) * (y * y)) + ((y * y) * (y * y) + (y * y) * (y * y))) + (((y * y) * (y * y) + (y * y) * (y * y)) + ((y * y) * (y * y) + (y * y) * (y * y))) := by grind
theorem db_z (y z : Zp) : z * (y + y) = y * z + y * z := by grind
theorem dbl_ext (m : Zp) {s s' c c' z z' : Zp} (hs : s = s') (hc : c = c') (hz : z = z') : (E1.sub (E1.sub (m * m) s) s, E1.sub (m * E1.sub s (E1.sub (E1.sub (m * m) s) s)) c, z) = (E1.sub (E1.sub (m * m) s') s', E1.sub (m * E1.sub s' (E1.sub (E1.sub (m * m) s') s')) c', z') := by rw [hs, hc, hz]
theorem Cx (x : Zp × Zp × Zp) : dbF x = E1.jd x.1 x.2.1 x.2.2 := dbl_ext (x.1 * x.1 + x.1 * x.1 + x.1 * x.1) (db_s x.1 x.2.1) (db_c x.2.1) (db_z x.2.1 x.2.2)
theorem ux {x : Zp × Zp × Zp} {P : Pt Zp} (hP : E1.onP P) (h : E1.jr x P) : E1.jr (dbF x) (E1.ad P P) := by
 have k := E1.jr_d hP h
 by_cases hz : x.2.2 = E1.R.zero ∨ x.2.1 = E1.R.zero
 ·rw [show E1.jdF x = (E1.R.zero, E1.R.zero, E1.R.zero) from if_pos hz] at k
  rw [(E1.jr_z k).1 rfl]
  show x.2.2 * (x.2.1 + x.2.1) = (0 : Zp)
  rcases hz with e | e
  ·rw [show x.2.2 = (0 : Zp) from e, qp]
  ·rw [show x.2.1 = (0 : Zp) from e, tJ, fS]
 ·rw [show E1.jdF x = E1.jd x.1 x.2.1 x.2.2 from if_neg hz, ← Cx] at k
  exact k
def adG (x y : Zp × Zp × Zp) : Zp × Zp × Zp :=
 let u := x.1 * (y.2.2 * y.2.2)
 let s := x.2.1 * (y.2.2 * y.2.2) * y.2.2
 let h := E1.sub (y.1 * (x.2.2 * x.2.2)) u
 let r := E1.sub (y.2.1 * (x.2.2 * x.2.2) * x.2.2) s
 let q := h * h
 let c := q * h
 let w := q * u
 let X := E1.sub (E1.sub (E1.sub (r * r) c) w) w
 (X, E1.sub (r * E1.sub w X) (c * s), x.2.2 * y.2.2 * h)
def adF (x y : Zp × Zp × Zp) : Zp × Zp × Zp := if x.2.2 = 0 then y else if y.2.2 = 0 then x else if E1.jh x.1 x.2.2 y.1 y.2.2 = 0 then (if E1.jq x.2.1 x.2.2 y.2.1 y.2.2 = 0 then dbF x else (0, 0, 0)) else adG x y
theorem u3 (a b : Zp) : a * b = b * a := by grind
theorem add_ext {a w w' r k k' z : Zp} (hw : w = w') (hk : k = k') : (E1.sub (E1.sub a w) w, E1.sub (r * E1.sub w (E1.sub (E1.sub a w) w)) k, z) = (E1.sub (E1.sub a w') w', E1.sub (r * E1.sub w' (E1.sub (E1.sub a w') w')) k', z) := by rw [hw, hk]
theorem adG_ja (x y : Zp × Zp × Zp) : adG x y = E1.ja x.1 x.2.1 x.2.2 y.1 y.2.1 y.2.2 := add_ext (u3 _ _) (u3 _ _)
theorem same_iff {p q : Zp × Zp} {x y : Zp × Zp × Zp} (h : E1.jr x (some p)) (k : E1.jr y (some q)) : (x.1 * (y.2.2 * y.2.2) = y.1 * (x.2.2 * x.2.2) ↔ p.1 = q.1) ∧ (x.2.1 * (y.2.2 * y.2.2) * y.2.2 = y.2.1 * (x.2.2 * x.2.2) * x.2.2 ↔ p.2 = q.2) := by
 have hx : x.1 = p.1 * (x.2.2 * x.2.2) := h.2.1
 have hy : x.2.1 = p.2 * (x.2.2 * x.2.2 * x.2.2) := h.2.2
 have kx : y.1 = q.1 * (y.2.2 * y.2.2) := k.2.1
 have ky : y.2.1 = q.2 * (y.2.2 * y.2.2 * y.2.2) := k.2.2
 have n2 := E1.mul_ne (E1.z2_ne h.1) (E1.z2_ne k.1)
 have n3 := E1.mul_ne (E1.z3_ne h.1) (E1.z3_ne k.1)
 obtain ⟨z, hz⟩ : ∃ z, x.2.2 = z := ⟨_, rfl⟩
 obtain ⟨v, hv⟩ : ∃ v, y.2.2 = v := ⟨_, rfl⟩
 rw [hz] at hx hy n2 n3
 rw [hv] at kx ky n2 n3
 rw [hx, hy, kx, ky, hz, hv]
 refine ⟨⟨fun e => E1.mul_can n2 ?_, fun e => by rw [e]; grind⟩, ⟨fun e => E1.mul_can n3 ?_, fun e => by rw [e]; grind⟩⟩
 ·show p.1 * (z * z * (v * v)) = q.1 * (z * z * (v * v))
  grind
 ·show p.2 * (z * z * z * (v * v * v)) = q.2 * (z * z * z * (v * v * v))
  grind
theorem tG {x y : Zp × Zp × Zp} {P Q : Pt Zp} (_ : E1.onP P) (_ : E1.onP Q) (h : E1.jr x P) (k : E1.jr y Q) (h1 : ¬ x.2.2 = 0) (h2 : ¬ y.2.2 = 0) (h3 : E1.jh x.1 x.2.2 y.1 y.2.2 = 0) (h4 : E1.jq x.2.1 x.2.2 y.2.1 y.2.2 = 0) : Q = P := by
 cases P with
 | none => exact absurd h h1
 | some p =>
  cases Q with
  | none => exact absurd k h2
  | some q =>
   have s := same_iff h k
   exact congrArg some (Prod.ext (s.1.1 (E1.sub0 h3).symm).symm (s.2.1 (E1.sub0 h4).symm).symm)
theorem u9 {x y : Zp × Zp × Zp} {P Q : Pt Zp} (hP : E1.onP P) (hQ : E1.onP Q) (h : E1.jr x P) (k : E1.jr y Q) : E1.jr (adF x y) (E1.ad P Q) := by
 have j := E1.jr_a hP hQ h k
 by_cases h1 : x.2.2 = 0
 ·rw [show E1.jaF x y = y from if_pos h1] at j
  rw [show adF x y = y from if_pos h1]; exact j
 by_cases h2 : y.2.2 = 0
 ·rw [show E1.jaF x y = x from (if_neg h1).trans (if_pos h2)] at j
  rw [show adF x y = x from (if_neg h1).trans (if_pos h2)]; exact j
 by_cases h3 : E1.jh x.1 x.2.2 y.1 y.2.2 = 0
 ·by_cases h4 : E1.jq x.2.1 x.2.2 y.2.1 y.2.2 = 0
  ·rw [show adF x y = dbF x from (if_neg h1).trans ((if_neg h2).trans ((if_pos h3).trans (if_pos h4)))]
   have e : Q = P := tG hP hQ h k h1 h2 h3 h4
   rw [e]; exact ux hP h
  ·rw [show E1.jaF x y = (E1.R.zero, E1.R.zero, E1.R.zero) from (if_neg h1).trans ((if_neg h2).trans ((if_pos h3).trans (if_neg h4)))] at j
   rw [show adF x y = (0, 0, 0) from (if_neg h1).trans ((if_neg h2).trans ((if_pos h3).trans (if_neg h4)))]; exact j
 ·rw [show E1.jaF x y = E1.ja x.1 x.2.1 x.2.2 y.1 y.2.1 y.2.2 from (if_neg h1).trans ((if_neg h2).trans (if_neg h3)), ← adG_ja] at j
  rw [show adF x y = adG x y from (if_neg h1).trans ((if_neg h2).trans (if_neg h3))]; exact j
theorem qu (x y : Zp × Zp × Zp) : Pure Tryz.prog Gt 34 [JV x, JV y] (JV (adF x y)) := by
 by_cases h1 : x.2.2 = 0
 ·exact pE TO53 Tryz.func34 [.inl [x.1, x.2.1, x.2.2], .inl [y.1, y.2.1, y.2.2]] (.inl (.inl [(adF x y).1, (adF x y).2.1, (adF x y).2.2])) (.inl (.inl [y.1, y.2.1, y.2.2]), [(decide (x.2.2 = 0), true)]) [some true] (by kernel_rfl) (aT (decide_eq_true h1) aR) (by rw [show adF x y = y from if_pos h1] <;> exact rfl)
 ·by_cases h2 : y.2.2 = 0
  ·exact pE TO53 Tryz.func34 [.inl [x.1, x.2.1, x.2.2], .inl [y.1, y.2.1, y.2.2]] (.inl (.inl [(adF x y).1, (adF x y).2.1, (adF x y).2.2])) (.inl (.inl [x.1, x.2.1, x.2.2]), [(decide (x.2.2 = 0), false), (decide (y.2.2 = 0), true)]) [some false, some true] (by kernel_rfl) (aT (decide_eq_false h1) (aT (decide_eq_true h2) aR)) (by rw [show adF x y = x from (if_neg h1).trans (if_pos h2)] <;> exact rfl)
  ·by_cases h3 : E1.jh x.1 x.2.2 y.1 y.2.2 = 0
   ·by_cases h4 : E1.jq x.2.1 x.2.2 y.2.1 y.2.2 = 0
    ·exact pE TO53 Tryz.func34 [.inl [x.1, x.2.1, x.2.2], .inl [y.1, y.2.1, y.2.2]] (.inl (.inl [(adF x y).1, (adF x y).2.1, (adF x y).2.2])) (let t0 := x.2.2 * x.2.2; let t1 := y.2.2 * y.2.2; let t2 := (x.2.1 * t1) * y.2.2; let t3 := E1.sub (y.1 * t0) (x.1 * t1); let t4 := (y.2.1 * t0) * x.2.2; let t5 := dbF x; (.inl (.inl [t5.1, t5.2.1, t5.2.2]), [(decide (x.2.2 = 0), false), (decide (y.2.2 = 0), false), (decide (t3 = 0), true), (decide ((E1.sub t4 t2) = 0), true)])) [some false, some false, some true, some true] (by kernel_rfl) (aT (decide_eq_false h1) (aT (decide_eq_false h2) (aT (decide_eq_true h3) (aT (decide_eq_true h4) aR)))) (by rw [show adF x y = dbF x from (if_neg h1).trans ((if_neg h2).trans ((if_pos h3).trans (if_pos h4)))] <;> exact rfl)
    ·exact pE TO53 Tryz.func34 [.inl [x.1, x.2.1, x.2.2], .inl [y.1, y.2.1, y.2.2]] (.inl (.inl [(adF x y).1, (adF x y).2.1, (adF x y).2.2])) (let t0 := x.2.2 * x.2.2; let t1 := y.2.2 * y.2.2; let t2 := (x.2.1 * t1) * y.2.2; let t3 := E1.sub (y.1 * t0) (x.1 * t1); let t4 := (y.2.1 * t0) * x.2.2; (.inl (.inl [0, 0, 0]), [(decide (x.2.2 = 0), false), (decide (y.2.2 = 0), false), (decide (t3 = 0), true), (decide ((E1.sub t4 t2) = 0), false), (decide (t3 = 0), true)])) [some false, some false, some true, some false, some true] (by kernel_rfl) (aT (decide_eq_false h1) (aT (decide_eq_false h2) (aT (decide_eq_true h3) (aT (decide_eq_false h4) (aT (decide_eq_true h3) aR))))) (by rw [show adF x y = (0, 0, 0) from (if_neg h1).trans ((if_neg h2).trans ((if_pos h3).trans (if_neg h4)))] <;> exact rfl)
   ·exact pE TO53 Tryz.func34 [.inl [x.1, x.2.1, x.2.2], .inl [y.1, y.2.1, y.2.2]] (.inl (.inl [(adF x y).1, (adF x y).2.1, (adF x y).2.2])) (let t0 := x.2.2 * x.2.2; let t1 := y.2.2 * y.2.2; let t2 := (x.2.1 * t1) * y.2.2; let t3 := E1.sub (y.1 * t0) (x.1 * t1); let t4 := (y.2.1 * t0) * x.2.2; let t5 := (t3 * t3) * t3; let t6 := (t3 * t3) * (x.1 * t1); let t7 := (E1.sub t4 t2) * (E1.sub t4 t2); let t8 := E1.sub (E1.sub t7 t5) t6; let t9 := E1.sub t6 (E1.sub t8 t6); let t10 := (E1.sub t4 t2) * t9; let t11 := E1.sub t10 (t5 * t2); let t12 := x.2.2 * y.2.2; (.inl (.inl [E1.sub t8 t6, t11, t12 * t3]), [(decide (x.2.2 = 0), false), (decide (y.2.2 = 0), false), (decide (t3 = 0), false), (decide (t3 = 0), false)])) [some false, some false, some false, some false] (by kernel_rfl) (aT (decide_eq_false h1) (aT (decide_eq_false h2) (aT (decide_eq_false h3) (aT (decide_eq_false h3) aR)))) (by rw [show adF x y = adG x y from (if_neg h1).trans ((if_neg h2).trans (if_neg h3))] <;> exact rfl)
theorem je {f : Nat} {g : (Zp × Zp × Zp) → (Zp × Zp × Zp) → (Zp × Zp × Zp)} (en : ae Tryz.prog f) (h : ∀ a b, Pure Tryz.prog Gt f [JV a, JV b] (JV (g a b))) : Snd Tryz.prog Gt f (c2 q3.ag q3.ag q3.rd g) := dP q3.ag q3.ag q3.rd en h
def TO54 : Tb Tryz.prog Gt := TO53.add (je (g := adF) ent34 qu)
theorem sr (x : Zp × Zp × Zp) (h : x.2.2 = 0) : Pure Tryz.prog Gt 57 [JV x] (.tuple #[EV 0, EV 0, .bool false]) := pE TO54 Tryz.func57 [.inl [x.1, x.2.1, x.2.2]] (.inr [.inl [0], .inl [0], .inr (.inl false)]) (.inr [.inl [0], .inl [0], .inr (.inl false)], [(decide (x.2.2 = 0), true)]) [some true] (by kernel_rfl) (aT (decide_eq_true h) aR) rfl
theorem rT (x : Zp × Zp × Zp) (h : ¬ x.2.2 = 0) : Pure Tryz.prog Gt 57 [JV x] (.tuple #[EV (x.1 * (x.2.2 ^ (PP - 2) * x.2.2 ^ (PP - 2))), EV (x.2.1 * (x.2.2 ^ (PP - 2) * x.2.2 ^ (PP - 2) * x.2.2 ^ (PP - 2))), .bool true]) := pE TO54 Tryz.func57 [.inl [x.1, x.2.1, x.2.2]] (.inr [.inl [x.1 * (x.2.2 ^ (PP - 2) * x.2.2 ^ (PP - 2))], .inl [x.2.1 * (x.2.2 ^ (PP - 2) * x.2.2 ^ (PP - 2) * x.2.2 ^ (PP - 2))], .inr (.inl true)]) (let t0 := x.2.2 ^ (PP - 2); let t1 := x.1 * (t0 * t0); let t2 := (t0 * t0) * t0; (.inr [.inl [t1], .inl [x.2.1 * t2], .inr (.inl true)], [(decide (x.2.2 = 0), false)])) [some false] (by kernel_rfl) (aT (decide_eq_false h) aR) rfl
theorem uA (a b : Zp) : Pure Tryz.prog Gt 47 [EV a, EV b] (JV (a, b, 1)) := pE TO54 Tryz.func47 [.inl [a], .inl [b]] (.inl (.inl [(a, b, 1).1, (a, b, 1).2.1, (a, b, 1).2.2])) (.inl (.inl [a, b, 1]), []) [] (by kernel_rfl) aR rfl
theorem jf {f : Nat} {g : Zp → Zp → (Zp × Zp × Zp)} (en : ae Tryz.prog f) (h : ∀ a b, Pure Tryz.prog Gt f [EV a, EV b] (JV (g a b))) : Snd Tryz.prog Gt f (c2 q1.ag q1.ag q3.rd g) := dP q1.ag q1.ag q3.rd en h
def TO55 : Tb Tryz.prog Gt := TO54.add (jf (g := fun a b => (a, b, 1)) ent47 uA)
def GXB : List (BitVec 8) := [23#8, 241#8, 211#8, 167#8, 49#8, 151#8, 215#8, 148#8, 38#8, 149#8, 99#8, 140#8, 79#8, 169#8, 172#8, 15#8, 195#8, 104#8, 140#8, 79#8, 151#8, 116#8, 185#8, 5#8, 161#8, 78#8, 58#8, 63#8, 23#8, 27#8, 172#8, 88#8, 108#8, 85#8, 232#8, 63#8, 249#8, 122#8, 26#8, 239#8, 251#8, 58#8, 240#8, 10#8, 219#8, 34#8, 198#8, 187#8]
def GYB : List (BitVec 8) := [8#8, 179#8, 244#8, 129#8, 227#8, 170#8, 160#8, 241#8, 160#8, 158#8, 48#8, 237#8, 116#8, 29#8, 138#8, 228#8, 252#8, 245#8, 224#8, 149#8, 213#8, 208#8, 10#8, 246#8, 0#8, 219#8, 24#8, 203#8, 44#8, 4#8, 179#8, 237#8, 208#8, 60#8, 199#8, 68#8, 162#8, 136#8, 138#8, 228#8, 12#8, 170#8, 35#8, 41#8, 70#8, 197#8, 231#8, 225#8]
theorem Gu : FV GXB = zp G1x := by rw [FV, if_pos ⟨rfl, by decide +kernel⟩, show BN GXB 48 = G1x by decide +kernel]
theorem Gc : FV GYB = zp G1y := by rw [FV, if_pos ⟨rfl, by decide +kernel⟩, show BN GYB 48 = G1y by decide +kernel]
theorem uU (e : Option Addr) (cap : Nat) (w : World) (hw : Gt w) (hby : BytesAt w e GXB) : Calls Tryz.prog 46 [.slice e GXB.length cap].toArray w (fun r w' => r = .returned (.tuple #[EV (zp G1x), .bool (FO GXB)]) ∧ Grow w w') := by
 have h := eM e cap GXB w hw hby
 rw [Gu] at h
 exact h
theorem tK (e : Option Addr) (cap : Nat) (w : World) (hw : Gt w) (hby : BytesAt w e GYB) : Calls Tryz.prog 46 [.slice e GYB.length cap].toArray w (fun r w' => r = .returned (.tuple #[EV (zp G1y), .bool (FO GYB)]) ∧ Grow w w') := by
 have h := eM e cap GYB w hw hby
 rw [Gc] at h
 exact h
theorem DB : Pure Tryz.prog Gt 11 [] (JV (zp G1x, zp G1y, 1)) := by
 refine a8 Tryz.func11 fun w hw hGF => ?_
 refine ab (E := EE [1000022]) ?_
 refine la tu fun b0 => ?_
 refine aa ?_
 refine ab (E := EE [1000022]) ?_
 refine pf 6 GXB hGF rfl rfl rfl (by decide) (by decide) Tryz.underlying22 Tryz.sizeOf5 Tryz.zeroValue5 rfl rfl ?_
 intro b6
 refine qe 6 rfl hGF rfl rfl Tryz.underlying22 Tryz.underlying5 rfl rfl ?_
 refine bE rfl rfl ent46 (fun w' hC hG => uU _ _ w' hG (BytesAt.range (hC.own 6 b6 _ _ rfl).1.range)) rfl rfl ?_
 refine rI1 ?_
 refine la zv27 fun b1 => ?_
 refine rI1 ?_
 refine ab (E := EE [1000022]) ?_
 refine pf 12 GYB hGF rfl rfl rfl (by decide) (by decide) Tryz.underlying22 Tryz.sizeOf5 Tryz.zeroValue5 rfl rfl ?_
 intro b12
 refine qe 12 rfl hGF rfl rfl Tryz.underlying22 Tryz.underlying5 rfl rfl ?_
 refine bE rfl rfl ent46 (fun w' hC hG => tK _ _ w' hG (BytesAt.range (hC.own 12 b12 _ _ rfl).1.range)) rfl rfl ?_
 refine rI1 ?_
 refine la zv27 fun b3 => ?_
 refine rI1 ?_
 refine ab (E := EE [1000022]) ?_
 refine rI1 ?_
 refine lc ent47 (uA _ _) ?_
 refine rI1 ?_
 refine rt ?_
 exact av 0 rfl rfl rfl Tryz.isAgg29 Tryz.sizeOf29 (by simp) (fun w hw => ⟨rfl, ah hw⟩)
end J1
end
section
open Go.RowKit
theorem ent106 : ae Tryz.prog 106 := fun _ _ => by kernel_rfl
namespace J1
attribute [local simp] aP bc aM aH aA a9 aF aE aG PLl bY ca N1l cb cf bZ aU ba aN aZ a7
theorem rI3 {Q P : Prop} (k : Q) (h : Q → P := by intro k; (refine LY.run ?_); (repeat (first | refine bI rfl rfl rfl ?_ | refine bd rfl rfl rfl ?_ | ((refine wE rfl rfl ?_ rfl rfl ?_); (· simp)) | ((refine wO hGF rfl rfl rfl ?_ ?_ (ak _) rfl ?_); (· simp); (· simp)) | refine fI rfl rfl rfl rfl rfl ?_)); (first | refine cm ?_ | refine LY.mk ?_); exact k) : P := h k
theorem pI3 {Q P : Prop} (k : Q) (h : Q → P := by intro k; (refine xp ?_); (refine rI3 ?_); exact k) : P := h k
attribute [local simp] bk
def pb (bs : List (BitVec 8)) (m : Nat) : Bool := decide (ce bs m = 1#8)
abbrev oB (bs : List (BitVec 8)) (m : Nat) : List Nat := oL (pb bs) (8 * bs.length) m
def NLs (l : List Nat) : List (List Value) := l.map fun n : Nat => [I (n : Int)]
theorem ia (l : List Nat) : (NLs l).length = l.length := by simp [NLs]
theorem nf (bs : List (BitVec 8)) (i j : Nat) (hj : j < 8) : bs.getD i 0 >>> (7 - j) &&& 1#8 = ce bs (8 * i + j) := by
 rw [ce, show (8 * i + j) / 8 = i by omega, show (8 * i + j) % 8 = j by omega]
theorem pi {bs : List (BitVec 8)} {m : Nat} (h : ce bs m = 1#8) : pb bs m = true := decide_eq_true h
theorem wP {bs : List (BitVec 8)} {m : Nat} (h : ¬ ce bs m = 1#8) : ¬ pb bs m = true := fun e => h (of_decide_eq_true e)
theorem uX {bs : List (BitVec 8)} {m : Nat} (hm : m < 8 * bs.length) (h : ce bs m = 1#8) : (NLs (oB bs (8 * bs.length)))[(oB bs m).length]? = some [I ((8 * bs.length - 1 - m : Nat) : Int)] := by
 rw [NLs, List.getElem?_map, Au hm (pi h)]
 rfl
theorem DS {bs : List (BitVec 8)} {m : Nat} (h : ce bs m = 1#8) : (oB bs (m + 1)).length = (oB bs m).length + 1 := AC (pi h)
theorem Dz {bs : List (BitVec 8)} {m : Nat} (h : ¬ ce bs m = 1#8) : (oB bs (m + 1)).length = (oB bs m).length := A6 (wP h)
theorem ve (bs : List (BitVec 8)) : ∀ m, vN (pb bs) m = BTn bs m
 | 0 => rfl
 | m + 1 => by
  rw [vN, ve bs m, BTn]
  rcases gA bs m with ⟨h, e⟩ | ⟨h, e⟩
  ·rw [if_pos (pi h), e]
  ·rw [if_neg (wP h), e]
theorem qB (bs : List (BitVec 8)) : SOg (oB bs (8 * bs.length)) = BN bs bs.length := by rw [pK, ve, gw]
theorem kU {bb : Nat} {e : Option Addr} {cap : Nat} {bs : List (BitVec 8)} {w w' : World} (h : RdD bb e cap bs w) (hg : Grow w w') : RdD bb e cap bs w' := ⟨(hg.cell (block_lt_of_cell h.1)).trans h.1, h.2.grow hg⟩
theorem fK (sv : Value) (hs : sv.cells = #[sv]) (w : World) (hw : Gt w) : Calls Tryz.prog 49 [sv].toArray w (fun e w' => ∃ b1, e = .returned (.func (.func 106) #[] #[.pointer (some ⟨b1, 0, none⟩)]) ∧ Grow w w' ∧ w.heap.size ≤ b1 ∧ OwnB w' b1 [sv] 22) := by
 have hGF : BOk Gt (pl w) := gt_low.plain hw
 refine aB (G := Gt) Tryz.func49 rfl rfl (Hp (pl w) []) (aJ (pl w) trivial ai) (ap hGF) ?_
 refine xp ?_
 refine gi 1 hGF rfl rfl rfl ?_
 intro b1
 refine rI3 ?_
 refine xp ?_
 refine eQ rfl rfl rfl rfl ?_
 refine rI3 ?_
 refine rt ?_
 exact a5 rfl rfl (fun w hw => ⟨b1, rfl, ah hw, (hw.own 1 b1 _ _ rfl).2.elim id False.elim, (by have := (hw.own 1 b1 _ _ rfl).1; rw [hs] at this; exact this)⟩)
theorem gQ (bb : Nat) (e : Option Addr) (cap : Nat) (bs : List (BitVec 8)) (hlen : bs.length ≤ 1000000) : eu Tryz.prog Gt 106 [.pointer (some ⟨bb, 0, none⟩)] (NLs (oB bs (8 * bs.length))) (RdD bb e cap bs) := by
 intro l J Jx hJ hJx hRd hGx hY w hj
 have okJ : ∀ k, BOk Gt (Bi w (fun Y => J Y k)) := fun k => ⟨fun _ _ _ h => (hRd _ _ _ h.rid).1, hJ k⟩
 have okX : ∀ k, BOk Gt (Bi w (fun Y => Jx Y k)) := fun k => ⟨fun _ _ _ h => hGx _ _ _ h.rid, hJx k⟩
 have c1 : ∀ k L w', Hp (Bi w (fun Y => J Y k)) L w' → RdD bb e cap bs w' := fun k L w' h => (hRd _ _ _ h.rid).2
 have hby := (hRd _ _ _ hj).2.2
 refine aB (G := Gt) Tryz.func106 rfl rfl (Hp (Bi w (fun Y => J Y 0)) []) (aJ (Bi w _) hj (hJ 0)) (ap (okJ 0)) ?_
 refine xp ?_
 refine cr rfl Tryz.isAgg22 (fun w h => (c1 _ _ w h).1) rfl rfl ?_
 refine bt rfl (fun _ => aK Tryz.underlying22 _ _ _ _) rfl rfl ?_
 refine rI3 ?_
 refine aj ?_
 refine dV (ι := { i : Nat // i ≤ bs.length }) (fun x => [(0, .func (.yield l) #[] #[]), (1, .pointer (some ⟨bb, 0, none⟩)), (6, .slice e bs.length cap), (7, I (bs.length : Int)), (8, I (x.1 : Int))]) (fun x => Bi w (fun Y => J Y (oB bs (8 * x.1)).length)) (fun x => []) (fun x => bs.length - x.1) ⟨0, Nat.zero_le _⟩ (fun _ => okJ _) rfl ⟨rfl, rfl, rfl, rfl, rfl, trivial⟩ trivial ?_
 rintro ⟨i, hi⟩
 dsimp only
 refine xp ?_
 refine ac rfl rfl (fun _ => rfl) (fun _ => aQ _ _ _) rfl rfl ?_
 refine aa ?_
 refine ao ?_
 refine bM rfl (fun hc => ?_) (fun hc => ?_)
 ·have hi2 : i < bs.length := by simp at hc; omega
  refine az ?_
  refine ao ?_
  refine aj ?_
  refine pI3 ?_
  obtain ⟨ad, rfl, _⟩ := hby i _ (gm U8 bs 0 i (by omega))
  refine ku i rfl rfl Tryz.underlying22 Tryz.sizeOf5 rfl (by omega) rfl rfl ?_
  refine cr rfl Tryz.isAgg5 (fun w' h => by obtain ⟨ad', e', hc'⟩ := (c1 _ _ w' h).2 i _ (gm U8 bs 0 i (by omega)); cases e'; exact hc') rfl rfl ?_
  refine rI3 ?_
  refine pI3 ?_
  refine aj ?_
  refine dV (ι := { j : Nat // j ≤ 8 }) (fun x => [(0, .func (.yield l) #[] #[]), (1, .pointer (some ⟨bb, 0, none⟩)), (6, .slice (some ad) bs.length cap), (7, I (bs.length : Int)), (8, I (i : Int)), (3, I (i : Int)), (4, U8 (bs.getD i 0)), (5, I (7 - (x.1 : Int)))]) (fun x => Bi w (fun Y => J Y (oB bs (8 * i + x.1)).length)) (fun x => []) (fun x => 8 - x.1) ⟨0, Nat.zero_le _⟩ (fun _ => okJ _) rfl ⟨rfl, rfl, rfl, rfl, rfl, rfl, rfl, rfl, trivial⟩ trivial ?_
  rintro ⟨j, hj⟩
  dsimp only
  by_cases h1 : ce bs (8 * i + j) = 1#8
  ·skip
   refine ao ?_
   refine pI3 ?_
   refine ac (v := .bool (decide (j < 8))) rfl rfl (fun _ => rfl) (fun _ => (di _ _ _).trans (by rw [show decide ((7 - (j : Int)) ≥ 0) = decide (j < 8) from decide_eq_decide.2 (by omega)])) rfl rfl ?_
   refine aa ?_
   refine bM rfl (fun hc => ?_) (fun hc => ?_)
   ·have hj2 : j < 8 := by simpa using hc
    refine az ?_
    refine ao ?_
    refine aj ?_
    refine pI3 ?_
    refine ac (v := U8 (bs.getD i 0 >>> (7 - j))) rfl rfl (fun _ => rfl) (fun _ => (d7 _ _ _ (by omega)).trans (by rw [show (7 - (j : Int)).toNat = 7 - j by omega])) rfl rfl ?_
    refine ac (v := U8 (ce bs (8 * i + j))) rfl rfl (fun _ => rfl) (fun _ => (ei _ _ 1#8).trans (by rw [nf bs i j hj2])) rfl rfl ?_
    refine ac (v := .bool true) rfl rfl (fun _ => rfl) (fun w => (fB _ _ _).trans (congrArg (fun b => Result.ok (Value.bool b) w) (beq_iff_eq.2 h1))) rfl rfl ?_
    refine rI3 ?_
    refine cr rfl Tryz.isAgg22 (fun w h => (c1 _ _ w h).1) rfl rfl ?_
    refine bt rfl (fun _ => aK Tryz.underlying22 _ _ _ _) rfl rfl ?_
    refine ac (v := I ((bs.length : Int) - 1)) rfl rfl (fun _ => rfl) (fun _ => bj _ _ _ (by unfold inI; omega)) rfl rfl ?_
    refine rI3 ?_
    refine ac (v := I ((bs.length - 1 - i : Nat) : Int)) rfl rfl (fun _ => rfl) (fun _ => (bj _ _ _ (by unfold inI; omega)).trans (by rw [show (bs.length : Int) - 1 - (i : Int) = ((bs.length - 1 - i : Nat) : Int) by omega])) rfl rfl ?_
    refine ac (v := I ((8 * (bs.length - 1 - i) : Nat) : Int)) rfl rfl (fun _ => rfl) (fun _ => (ft _ _ _ (by unfold inI; omega)).trans (by rw [show (8 : Int) * ((bs.length - 1 - i : Nat) : Int) = ((8 * (bs.length - 1 - i) : Nat) : Int) by omega])) rfl rfl ?_
    refine rI3 ?_
    refine ac (v := I ((8 * bs.length - 1 - (8 * i + j) : Nat) : Int)) rfl rfl (fun _ => rfl) (fun _ => (aI _ _ _ (by unfold inI; omega)).trans (by rw [show ((8 * (bs.length - 1 - i) : Nat) : Int) + (7 - (j : Int)) = ((8 * bs.length - 1 - (8 * i + j) : Nat) : Int) by omega])) rfl rfl ?_
    refine db (hY.b (k := (oB bs (8 * i + j)).length) (uX (by omega) h1) w) (okJ _) (okX _) rfl rfl rfl rfl rfl ?_ ?_
    ·skip
     refine bx rfl (fun _ => bf _) rfl rfl ?_
     refine rI3 ?_
     refine bl rfl ?_
     refine az ?_
     refine aq (E := EE []) ?_
     refine rI3 ?_
     refine ac (v := I (7 - ((j + 1 : Nat) : Int))) rfl rfl (fun _ => rfl) (fun _ => (bj _ _ _ (by unfold inI; omega)).trans (by rw [show 7 - (j : Int) - 1 = 7 - ((j + 1 : Nat) : Int) by omega])) rfl rfl ?_
     refine rI3 ?_
     repeat (refine aO ?_)
     refine bi ?_
     rw [← DS h1]
     exact ⟨rfl, ⟨j + 1, by omega⟩, _, by show 8 - (j + 1) < 8 - j; omega, rfl, ⟨rfl, rfl, rfl, rfl, rfl, rfl, rfl, rfl, trivial⟩, trivial⟩
    ·skip
     refine bx rfl (fun _ => bf _) rfl rfl ?_
     refine rI3 ?_
     refine bV rfl ?_
     refine rt ?_
     repeat (first | refine cO ?_ | refine bJ ?_ | refine cR rfl ?_ | refine aY ?_ | refine aX ?_)
     exact cF rfl (fun w hw => ⟨⟨_, rfl⟩, .inr ⟨_, bG (hJx _) hw.rid⟩⟩)
   ·obtain rfl : j = 8 := by simp at hc; omega
    refine aW ?_
    refine aq (E := EE []) ?_
    refine ac rfl rfl (fun _ => rfl) (fun _ => aI _ _ _ (by unfold inI; omega)) rfl rfl ?_
    refine rI3 ?_
    repeat (refine aO ?_)
    refine bi ?_
    exact ⟨rfl, ⟨i + 1, by omega⟩, _, by show bs.length - (i + 1) < bs.length - i; omega, rfl, ⟨rfl, rfl, rfl, rfl, rfl, trivial⟩, trivial⟩
  ·skip
   refine ao ?_
   refine ab (E := EE [3000000]) ?_
   refine rI3 ?_
   refine ac (v := .bool (decide (j < 8))) rfl rfl (fun _ => rfl) (fun _ => (di _ _ _).trans (by rw [show decide ((7 - (j : Int)) ≥ 0) = decide (j < 8) from decide_eq_decide.2 (by omega)])) rfl rfl ?_
   refine aa ?_
   refine bM rfl (fun hc => ?_) (fun hc => ?_)
   ·have hj2 : j < 8 := by simpa using hc
    refine az ?_
    refine ao ?_
    refine aj ?_
    refine ab (E := EE [3000000]) ?_
    refine rI3 ?_
    refine ac (v := U8 (bs.getD i 0 >>> (7 - j))) rfl rfl (fun _ => rfl) (fun _ => (d7 _ _ _ (by omega)).trans (by rw [show (7 - (j : Int)).toNat = 7 - j by omega])) rfl rfl ?_
    refine ac (v := U8 (ce bs (8 * i + j))) rfl rfl (fun _ => rfl) (fun _ => (ei _ _ 1#8).trans (by rw [nf bs i j hj2])) rfl rfl ?_
    refine ac (v := .bool false) rfl rfl (fun _ => rfl) (fun w => (fB _ _ _).trans (congrArg (fun b => Result.ok (Value.bool b) w) (beq_eq_false_iff_ne.2 h1))) rfl rfl ?_
    refine rI3 ?_
    refine aC rfl rfl rfl ?_
    refine aC rfl rfl rfl ?_
    refine aC rfl rfl rfl ?_
    refine aC rfl rfl rfl ?_
    refine aC rfl rfl rfl ?_
    refine aC rfl rfl rfl ?_
    refine aC rfl rfl rfl ?_
    refine aC rfl rfl rfl ?_
    refine aC rfl rfl rfl ?_
    refine aC rfl rfl rfl ?_
    refine aC rfl rfl rfl ?_
    refine rI3 ?_
    refine bl rfl ?_
    refine az ?_
    refine aq (E := EE [3000000]) ?_
    refine rI3 ?_
    refine ac (v := I (7 - ((j + 1 : Nat) : Int))) rfl rfl (fun _ => rfl) (fun _ => (bj _ _ _ (by unfold inI; omega)).trans (by rw [show 7 - (j : Int) - 1 = 7 - ((j + 1 : Nat) : Int) by omega])) rfl rfl ?_
    refine rI3 ?_
    repeat (refine aO ?_)
    refine bi ?_
    rw [← Dz h1]
    exact ⟨rfl, ⟨j + 1, by omega⟩, _, by show 8 - (j + 1) < 8 - j; omega, rfl, ⟨rfl, rfl, rfl, rfl, rfl, rfl, rfl, rfl, trivial⟩, trivial⟩
   ·obtain rfl : j = 8 := by simp at hc; omega
    refine aW ?_
    refine aq (E := EE [3000000]) ?_
    refine ac rfl rfl (fun _ => rfl) (fun _ => aI _ _ _ (by unfold inI; omega)) rfl rfl ?_
    refine rI3 ?_
    repeat (refine aO ?_)
    refine bi ?_
    exact ⟨rfl, ⟨i + 1, by omega⟩, _, by show bs.length - (i + 1) < bs.length - i; omega, rfl, ⟨rfl, rfl, rfl, rfl, rfl, trivial⟩, trivial⟩
 ·obtain rfl : i = bs.length := by simp at hc; omega
  refine aW ?_
  repeat (first | refine cO ?_ | refine bJ ?_ | refine cR rfl ?_ | refine aY ?_ | refine aX ?_)
  refine cS rfl (fun w hw => ⟨⟨_, rfl⟩, .inl ?_⟩)
  have := bG (hJ _) hw.rid
  rw [ia]
  exact this
def dbN (x : Zp × Zp × Zp) : Nat → Zp × Zp × Zp
 | 0 => x
 | n + 1 => dbF (dbN x n)
theorem dbN_jr {x : Zp × Zp × Zp} {P : Pt Zp} (hP : E1.onP P) {q : Nat} (hx : E1.jr x (E1.times P q)) : ∀ n, E1.jr (dbN x n) (E1.times P (q * 2 ^ n))
 | 0 => by rw [Nat.pow_zero, Nat.mul_one]; exact hx
 | n + 1 => by
  have hd := ux (E1.times_on hP _) (dbN_jr hP hx n)
  rw [E1.dbl_times hP, Nat.mul_left_comm, ← Nat.pow_succ'] at hd
  exact hd
theorem fU (x : Zp × Zp × Zp) (n : Int) (hn : n ≤ 1000000000) : Pure Tryz.prog Gt 105 [JV x, I n] (JV (dbN x n.toNat)) := by
 refine a8 Tryz.func105 fun w hw hGF => ?_
 refine xp ?_
 refine lb fun b2 => ?_
 refine la tu fun b4 => ?_
 refine aa ?_
 refine ao ?_
 refine pI3 ?_
 refine aj ?_
 refine cy (ι := { i : Nat // i ≤ n.toNat }) (fun y => [(2, .pointer (some ⟨b2, 0, none⟩)), (4, .pointer (some ⟨b4, 0, none⟩)), (5, I n), (6, I (y.1 : Int))]) (fun y => [(2, b2, (fe ((dbN x y.1).1) ++ (fe ((dbN x y.1).2.1) ++ fe ((dbN x y.1).2.2))).map U64, 29), (4, b4, (fe 0 ++ (fe 0 ++ fe 0)).map U64, 29)]) (fun y => n.toNat - y.1) ⟨0, Nat.zero_le _⟩ hGF ⟨rfl, rfl, rfl, rfl, trivial⟩ ⟨rfl, rfl, trivial⟩ ?_
 rintro ⟨i, hi⟩
 dsimp only
 refine xp ?_
 refine ac (v := .bool (decide ((i : Int) < n))) rfl rfl (fun _ => rfl) (fun _ => aQ _ _ _) rfl rfl ?_
 refine aa ?_
 refine ao ?_
 refine bM rfl (fun hc => ?_) (fun hc => ?_)
 ·have hi2 : i < n.toNat := by simp at hc; omega
  refine az ?_
  refine ao ?_
  refine aj ?_
  refine aq (E := EE []) ?_
  refine rI3 ?_
  refine aD rfl rfl ent89 (wq (dbN x i)) rfl rfl ?_
  refine rI3 ?_
  refine aq (E := EE []) ?_
  refine ac rfl rfl (fun _ => rfl) (fun _ => aI _ _ _ (by unfold inI; omega)) rfl rfl ?_
  refine rI3 ?_
  repeat (refine aO ?_)
  refine bi ?_
  exact ⟨rfl, ⟨i + 1, by omega⟩, _, by show n.toNat - (i + 1) < n.toNat - i; omega, rfl, ⟨rfl, rfl, rfl, rfl, trivial⟩, ⟨rfl, rfl, trivial⟩⟩
 ·obtain rfl : i = n.toNat := by simp at hc; omega
  refine aW ?_
  refine pI3 ?_
  refine rt ?_
  exact av 4 rfl rfl rfl Tryz.isAgg29 Tryz.sizeOf29 (by simp) (fun w hw => ⟨rfl, ah hw⟩)
theorem CT (x : Zp × Zp × Zp) (a : Nat) (ha : a < 100000000) : Pure Tryz.prog Gt 105 [JV x, I (a : Int)] (JV (dbN x a)) := by
 have h := fU x (a : Int) (by omega)
 rw [Int.toNat_natCast] at h
 exact h
theorem Di (x : Zp × Zp × Zp) (a b : Nat) (ha : a < 100000000) : Pure Tryz.prog Gt 105 [JV x, I ((a : Int) - (b : Int))] (JV (dbN x (a - b))) := by
 have h := fU x ((a : Int) - (b : Int)) (by omega)
 rw [Int.toNat_sub] at h
 exact h
def stp (x : Zp × Zp × Zp) (A : (Zp × Zp × Zp) × Nat) (b : Nat) : (Zp × Zp × Zp) × Nat := (adF (dbN A.1 (A.2 - b)) x, b)
def stK (x : Zp × Zp × Zp) (L : List Nat) (k : Nat) : (Zp × Zp × Zp) × Nat := (L.take k).foldl (stp x) ((0, 0, 0), 0)
theorem stK_step (x : Zp × Zp × Zp) {L : List Nat} {k n : Nat} (h : L[k]? = some n) : stK x L (k + 1) = stp x (stK x L k) n := by
 rw [stK, List.take_add_one, h, List.foldl_append]
 rfl
theorem stK_1 (x : Zp × Zp × Zp) {L : List Nat} {k n : Nat} (h : L[k]? = some n) : (stK x L (k + 1)).1 = adF (dbN (stK x L k).1 ((stK x L k).2 - n)) x := by rw [stK_step x h]; rfl
theorem stK_2 (x : Zp × Zp × Zp) {L : List Nat} {k n : Nat} (h : L[k]? = some n) : (stK x L (k + 1)).2 = n := by rw [stK_step x h]; rfl
theorem stK_lt (x : Zp × Zp × Zp) {L : List Nat} {B : Nat} (h0 : 0 < B) (hL : ∀ b ∈ L, b < B) : ∀ k, k ≤ L.length → (stK x L k).2 < B
 | 0, _ => h0
 | k + 1, hk => by
  obtain ⟨n, hn⟩ : ∃ n, L[k]? = some n := ⟨L[k]'(by omega), List.getElem?_eq_getElem (by omega)⟩
  rw [stK_2 x hn]
  exact hL n (List.mem_of_getElem? hn)
def tmF (x : Zp × Zp × Zp) (L : List Nat) : Zp × Zp × Zp := dbN (stK x L L.length).1 (stK x L L.length).2
theorem stp_jr {x : Zp × Zp × Zp} {P : Pt Zp} (hP : E1.onP P) (hx : E1.jr x P) : ∀ (L : List Nat) (A : (Zp × Zp × Zp) × Nat) (q : Nat), L.Pairwise (fun a b => b ≤ a) → E1.jr A.1 (E1.times P q) → (q = 0 ∨ ∀ b ∈ L, b ≤ A.2) → ∃ q', E1.jr (L.foldl (stp x) A).1 (E1.times P q') ∧ q' * 2 ^ (L.foldl (stp x) A).2 = q * 2 ^ A.2 + SOg L
 | [], A, q, _, hA, _ => ⟨q, hA, rfl⟩
 | b :: L, A, q, hp, hA, hq => by
  rw [List.pairwise_cons] at hp
  have hd := dbN_jr hP hA (A.2 - b)
  have ha := u9 (E1.times_on hP _) hP hd hx
  obtain ⟨q', h1, h2⟩ := stp_jr hP hx L (stp x A b) (q * 2 ^ (A.2 - b) + 1) hp.2 ha (.inr hp.1)
  refine ⟨q', h1, h2.trans ?_⟩
  show (q * 2 ^ (A.2 - b) + 1) * 2 ^ b + SOg L = q * 2 ^ A.2 + (2 ^ b + SOg L)
  rcases hq with rfl | hq
  ·rw [Nat.zero_mul, Nat.zero_mul]; omega
  ·have hb := hq b List.mem_cons_self
   rw [Nat.add_mul, Nat.mul_assoc, ← Nat.pow_add, show A.2 - b + b = A.2 from by omega]
   omega
theorem tmF_jr {x : Zp × Zp × Zp} {P : Pt Zp} (hP : E1.onP P) (hx : E1.jr x P) {L : List Nat} (hL : L.Pairwise (fun a b => b ≤ a)) : E1.jr (tmF x L) (E1.times P (SOg L)) := by
 obtain ⟨q, h1, h2⟩ := stp_jr hP hx L ((0, 0, 0), 0) 0 hL rfl (.inl rfl)
 have e : stK x L L.length = L.foldl (stp x) ((0, 0, 0), 0) := by rw [stK, List.take_length]
 rw [Nat.zero_mul, Nat.zero_add] at h2
 have h := dbN_jr hP h1 (L.foldl (stp x) ((0, 0, 0), 0)).2
 rw [h2] at h
 rw [tmF, e]
 exact h
theorem mx {L : List Nat} {k : Nat} {v : List Value} (h : (NLs L)[k]? = some v) : ∃ n : Nat, L[k]? = some n ∧ [I (n : Int)] = v := by
 rw [NLs, List.getElem?_map] at h
 cases e : L[k]? with
 | none => rw [e] at h; cases h
 | some y => rw [e] at h; exact ⟨y, rfl, Option.some.inj h⟩
theorem dp (x : Zp × Zp × Zp) (gf : Nat) (caps : List Value) (L : List Nat) (Rd : Cls) (he : ae Tryz.prog gf) (hseq : eu Tryz.prog Gt gf caps (NLs L) Rd) (hL : ∀ b ∈ L, b < 100000000) (w : World) (hw : Gt w) (hRs : ∀ w', Grow w w' → Rd w') :
  Calls Tryz.prog 48 [JV x, .func (.func gf) #[] caps.toArray].toArray w (fun r w' => r = .returned (JV (tmF x L)) ∧ Grow w w') := by
 have hGF : BOk Gt (pl w) := gt_low.plain hw
 refine bD (G := Gt) Tryz.func48 rfl rfl (Hp (pl w) []) (aJ (pl w) trivial ai) (ap hGF) ?_
 refine xp ?_
 refine lb fun b2 => ?_
 refine la tu fun b4 => ?_
 refine aa ?_
 refine xp ?_
 refine la tu fun b5 => ?_
 refine aa ?_
 refine xp ?_
 refine dU 6 hGF Tryz.zeroValue3 rfl rfl ?_
 intro b6
 refine cx 6 hGF rfl rfl rfl Tryz.sizeOf3 rfl (by first | decide | simp) rfl ?_
 refine aa ?_
 refine ao ?_
 refine pI3 ?_
 refine aj ?_
 refine cZ (fun _ => pl w) (fun _ _ => pl w) (fun _ => hGF) (fun _ _ => hGF) (fun _ => rfl) (fun _ _ => rfl) rfl rfl he hseq (fun x hx => by obtain ⟨k, hk, rfl⟩ := List.mem_map.1 hx; rfl) rfl (fun k => [(2, b2, (fe ((x).1) ++ (fe ((x).2.1) ++ fe ((x).2.2))).map U64, 29), (4, b4, (fe 0 ++ (fe 0 ++ fe 0)).map U64, 29), (5, b5, (fe (((stK x L k).1).1) ++ (fe (((stK x L k).1).2.1) ++ fe (((stK x L k).1).2.2))).map U64, 29), (6, b6, [I ((stK x L k).2 : Int)], 3)]) (fun _ _ _ => False) ⟨rfl, rfl, rfl, rfl, trivial⟩ (fun k _ w' h => hRs w' (h.below (fun _ h => h))) ?_ ?_ (fun _ _ _ _ _ h => h.elim)
 ·intro k v hx R hR
  obtain ⟨n, hn, rfl⟩ := mx hx
  have hk : k < L.length := (List.getElem?_eq_some_iff.1 hn).1
  have hb := stK_lt x (by omega) hL k (Nat.le_of_lt hk)
  have hn2 := hL n (List.mem_of_getElem? hn)
  refine aq (E := EE []) ?_
  refine rI3 ?_
  refine ⟨rfl, _, rfl, ?_⟩
  refine aj ?_
  refine bw (E := EE []) bq (by kernel_rfl) (by kernel_rfl) (by kernel_rfl) ?_
  refine rI3 ?_
  refine bR 6 rfl rfl rfl Tryz.isAgg3 rfl rfl ?_
  refine rI3 ?_
  refine ac (v := I (((stK x L k).2 : Int) - (n : Int))) rfl rfl (fun _ => rfl) (fun _ => bj _ _ _ (by unfold inI; omega)) rfl rfl ?_
  refine aD rfl rfl ent105 (Di (stK x L k).1 (stK x L k).2 n hb) rfl rfl ?_
  refine rI3 ?_
  refine lc ent34 (qu _ _) ?_
  refine am 5 (hR (pl w) rfl hGF).2.1 rfl rfl rfl Tryz.sizeOf29 (by simp) (by simp) (ak _) rfl ?_
  refine aa ?_
  refine aq (E := EE []) ?_
  refine rI3 ?_
  refine cx 6 (hR (pl w) rfl hGF).2.1 rfl rfl rfl Tryz.sizeOf3 rfl (by first | decide | simp) rfl ?_
  refine aa ?_
  repeat (refine aO ?_)
  exact ⟨_, rfl, ⟨rfl, rfl, by rw [stK_1 x hn]; rfl, by rw [stK_2 x hn]; rfl, trivial⟩⟩
 ·intro D hD
  have hb := stK_lt x (by omega) hL L.length (Nat.le_refl _)
  rw [ia]
  refine pI3 ?_
  refine bR 6 rfl rfl rfl Tryz.isAgg3 rfl rfl ?_
  refine aD rfl rfl ent105 (CT (stK x L L.length).1 (stK x L L.length).2 hb) rfl rfl ?_
  refine am 4 hD rfl rfl rfl Tryz.sizeOf29 (by simp) (by simp) (ak _) rfl ?_
  refine aa ?_
  refine rt ?_
  exact cn (.inl rfl) ai (av 4 rfl rfl rfl Tryz.isAgg29 Tryz.sizeOf29 (by simp) (fun w hw => ⟨rfl, ah hw⟩))
def mlB (x : Zp × Zp × Zp) (bs : List (BitVec 8)) : Zp × Zp × Zp := tmF x (oB bs (8 * bs.length))
theorem o7 {x : Zp × Zp × Zp} {P : Pt Zp} (hP : E1.onP P) (hx : E1.jr x P) {bs : List (BitVec 8)} {m : Nat} (hm : BN bs bs.length = m) : E1.jr (mlB x bs) (E1.times P m) := by
 subst hm
 rw [← qB]; exact tmF_jr hP hx (oE _ _ _ (Nat.le_refl _))
theorem gT (x : Zp × Zp × Zp) (e : Option Addr) (cap : Nat) (bs : List (BitVec 8)) (hlen : bs.length ≤ 1000000) (w : World) (hw : Gt w) (hby : BytesAt w e bs) :
  Calls Tryz.prog 12 [JV x, .slice e bs.length cap].toArray w (fun r w' => r = .returned (JV (mlB x bs)) ∧ Grow w w') := by
 have hGF : BOk Gt (pl w) := gt_low.plain hw
 refine aB (G := Gt) Tryz.func12 rfl rfl (Hp (pl w) []) (aJ (pl w) trivial ai) (ap hGF) ?_
 refine ab (E := EE [49, 2000049]) ?_
 refine lb fun b2 => ?_
 refine la tu fun b4 => ?_
 refine aa ?_
 refine bw (E := EE [49, 2000049]) bq (by kernel_rfl) (by kernel_rfl) (by kernel_rfl) ?_
 refine rI3 ?_
 refine ig rfl rfl ent49 rfl rfl (fun w' hw' => (fK _ rfl w' (hGF.g _ _ _ hw')).mono fun e' w'' h => ?_)
 obtain ⟨c1, rfl, hg, h1, ho⟩ := h
 refine ⟨_, _, rfl, ap hGF, hw'.news ai hg [(33, c1, [.slice e bs.length cap], 22)] ?_ cH, fY ai rfl, ?_⟩
 ·intro n' b' c' t' hl
  rcases a6 hl with ⟨_, e⟩ | ⟨_, hl⟩
  ·cases e; exact ⟨h1, ho⟩
  ·cases hl
 clear hw' hg h1 ho
 refine bE rfl rfl ent48 (fun w' hC hG => dp x 106 [.pointer (some ⟨c1, 0, none⟩)] (oB bs (8 * bs.length)) (RdD c1 e cap bs) ent106 (gQ c1 e cap bs (by omega)) (fun b hb => by have := tT hb (Nat.le_refl _); omega) w' hG (fun w'' hg => kU ⟨ci (n := 33) rfl rfl w' hC, hby.grow (hC.below (fun _ h => h))⟩ hg)) rfl rfl ?_
 refine rI3 ?_
 refine rt ?_
 exact av 4 rfl rfl rfl Tryz.isAgg29 Tryz.sizeOf29 (by simp) (fun w hw => ⟨rfl, ah hw⟩)
def gInf : GP := ⟨(0, 0, 0), none, True.intro, rfl⟩
def gGen : GP := ⟨(zp G1x, zp G1y, 1), some G1p, jM uT, AD⟩
def ti (p q : GP) : GP := ⟨adF p.J q.J, E1.ad p.P q.P, E1.ad_on p.on q.on, u9 p.on q.on p.jr q.jr⟩
def tw (p : GP) (bs : List (BitVec 8)) : GP := ⟨mlB p.J bs, E1.times p.P (BN bs bs.length), E1.times_on p.on _, o7 p.on p.jr rfl⟩
theorem zv29 (w : World) : (zeroValue 29).run Tryz.prog w = .ok (PtV gInf) w := tu w
theorem xy_w {J : Zp × Zp × Zp} {p : Zp × Zp} (h : E1.jr J (some p)) {v : Zp} (hv : J.2.2 * v = 1) : J.1 * (v * v) = p.1 ∧ J.2.1 * (v * v * v) = p.2 := by
 have hx : J.1 = p.1 * (J.2.2 * J.2.2) := h.2.1
 have hy : J.2.1 = p.2 * (J.2.2 * J.2.2 * J.2.2) := h.2.2
 obtain ⟨z, hz⟩ : ∃ z, J.2.2 = z := ⟨_, rfl⟩
 rw [hz] at hx hy hv
 refine ⟨?_, ?_⟩
 ·rw [hx, show p.1 * (z * z) * (v * v) = p.1 * ((z * v) * (z * v)) from by grind, hv, nW, mU]
 ·rw [hy, show p.2 * (z * z * z) * (v * v * v) = p.2 * ((z * v) * ((z * v) * (z * v))) from by grind, hv, nW, nW, mU]
theorem vz {J : Zp × Zp × Zp} {P : Pt Zp} (h : E1.jr J P) (hn : ¬ P = none) {v : Zp} (hv : ¬ J.2.2 = 0 → J.2.2 * v = 1) : J.1 * (v * v) = PX P ∧ J.2.1 * (v * v * v) = PY P := by
 cases P with
 | none => exact absurd rfl hn
 | some p => exact xy_w h (hv h.1)
theorem nq  : Pure Tryz.prog Gt 11 [] (PtV gGen) := DB
theorem GY  : Pure Tryz.prog Gt 15 [] (PtV gInf) := Hg
theorem Ap (p q : GP) : Pure Tryz.prog Gt 34 [PtV p, PtV q] (PtV (ti p q)) := qu p.J q.J
theorem Ea (p : GP) (h : p.P = none) : Pure Tryz.prog Gt 57 [PtV p] (.tuple #[EV 0, EV 0, .bool false]) := sr p.J ((E1.jr_z p.jr).2 h)
theorem yW (p : GP) (h : ¬ p.P = none) : Pure Tryz.prog Gt 57 [PtV p] (.tuple #[EV (PX p.P), EV (PY p.P), .bool true]) := by
 have k := rT p.J (fun e => h ((E1.jr_z p.jr).1 e))
 have e := vz p.jr h (v := p.J.2.2 ^ (PP - 2)) (fun h => ur h)
 rw [e.1, e.2] at k
 exact k
theorem vd (p : GP) (e : Option Addr) (cap : Nat) (bs : List (BitVec 8)) (hlen : bs.length ≤ 1000) (w : World) (hw : Gt w) (hby : BytesAt w e bs) : Calls Tryz.prog 12 [PtV p, .slice e bs.length cap].toArray w (fun r w' => r = .returned (PtV (tw p bs)) ∧ Grow w w') := gT p.J e cap bs (by omega) w hw hby
end J1
end
end Go.Proofs.YtpnpiblphnpfiaaGreatDoor
