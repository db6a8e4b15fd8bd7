/-
 Curves y y = x x x + b: lines, at other points. Nothing here names a program.
 Curves y y = x x x + b: lines under a map of products that upright lines vanish by. Nothing here names a program.
 The powers of p in the field of p^6 elements. Nothing here names a program.
 Powers of p in the field of p^6 elements by a third root of 1. Nothing here names a program.
 The powers of p in the field of p^12 elements, its conjugates. Nothing here names a program.
 Powers of p in the field of p^12 elements, part by part, and by those of p^6. Nothing here names a program.
 The long power of the pairing; that it takes all of p^6 elements to 1, and has the order r. Nothing here names a program.
 The pairing is linear on both sides. Nothing here names a program.
 The loop over p^12 elements by numbers of the second curve's points: lines as the document writes them. Nothing here names a program.
 The generators' pairing: the loop by slopes that are given. Nothing here names a program.
 The pairing of so many times the generators; its order; the document's conjugate. Nothing here names a program.
 The program's walk through the loop: doubled and added without inverses, its lines the document's up to elements of p^2. Nothing here names a program.
 The program's loop over several pairs: the product of the document's values, up to an element of p^6. Nothing here names a program.
-/
import Derived.Test.YthkmeodnlidpfaaGreatDoorX4
import Derived.Test.YthkmeodnlidpfaaGreatDoorX5
set_option maxRecDepth 100000
set_option maxHeartbeats 1000000
namespace Go.Proofs.YthkmeodnlidpfaaGreatDoor
section
section
variable {α : Type} (C : Ec α)
def Ec.ln (a : α × α) (s : α) (p : α × α) : α := C.sub (C.sub p.2 a.2) (C.R.mul s (C.sub p.1 a.1))
theorem Ec.ln_same {a b p : α × α} {s : α} (h : C.Sl a b s) : C.ln a s p = C.ln b s p :=
 Rg.lc (R := C.R) (zq C.R [a.1, a.2, b.1, b.2, s, p.1, p.2, C.b] (ta (ta (ta j6 (tn j1)) (tn (tm j4 (ta j5 (tn j0))))) (tm to1 (ta j1 (tn j3)))) (ta (ta (ta j6 (tn j3)) (tn (tm j4 (ta j5 (tn j2))))) (tm to1 (tm j4 (ta j0 (tn j2)))))) (lcm h.1)
theorem Ec.ln_ng (a p : α × α) (s : α) : C.ln (C.ng a) (C.R.neg s) p = C.R.neg (C.ln a s (C.ng p)) :=
 zq C.R [a.1, a.2, s, p.1, p.2] (ta (ta j4 (tn (tn j1))) (tn (tm (tn j2) (ta j3 (tn j0))))) (tn (ta (ta (tn j4) (tn j1)) (tn (tm j2 (ta j3 (tn j0))))))
theorem Ec.ln_th {a b p : α × α} {s : α} (h : C.Sl a b s) : C.ln (C.ng (C.th a b s)) s p = C.ln a s p := (C.ln_same (C.sl_th h)).symm.trans (C.ln_same h).symm
theorem Ec.ln_norm {a b p : α × α} {s : α} (ha : C.on a) (hp : C.on p) (h : C.Sl a b s) : C.R.mul (C.ln a s p) (C.ln a s (C.ng p)) = C.R.neg (C.R.mul (C.sub p.1 a.1) (C.R.mul (C.sub p.1 b.1) (C.sub p.1 (C.x3 a b s)))) :=
 Rg.lc (R := C.R) (zq C.R [a.1, a.2, b.1, b.2, s, p.1, p.2, C.b] (ta (tm (ta (ta j6 (tn j1)) (tn (tm j4 (ta j5 (tn j0))))) (ta (ta (tn j6) (tn j1)) (tn (tm j4 (ta j5 (tn j0)))))) (ta (ta (ta (tm (tn to1) (ta (tm j5 (tm j5 j5)) j7)) (tm to1 (ta (tm j0 (tm j0 j0)) j7))) (tm (tm (ta j5 (tn j0)) (tn j4)) (ta j1 (tn j3)))) (tm (ta j5 (tn j0)) (ta (ta (tm j0 j0) (tm j0 j2)) (tm j2 j2))))) (ta (tn (tm (ta j5 (tn j0)) (tm (ta j5 (tn j2)) (ta j5 (tn (ta (ta (tm j4 j4) (tn j0)) (tn j2))))))) (ta (ta (ta (tm (tn to1) (tm j6 j6)) (tm to1 (tm j1 j1))) (tm (tm (ta j5 (tn j0)) (tn j4)) (tm j4 (ta j0 (tn j2))))) (tm (ta j5 (tn j0)) (tm j4 (ta j1 j3)))))) (lca (lca (lca (lcm hp) (lcm ha)) (lcm h.1)) (lcm h.2))
def Ec.nn (d : α × α) (s t : α) (p : α × α) : α := C.R.add (C.sub (C.R.mul p.1 p.1) (C.R.mul (C.R.add s t) p.2)) (C.R.add (C.R.mul (C.R.add d.1 (C.R.mul s t)) p.1) (C.R.add (C.R.mul d.1 (C.sub d.1 (C.R.mul s t))) (C.R.mul (C.sub s t) d.2)))
theorem Ec.ln_two {d p : α × α} {s t : α} (hd : C.on d) (hp : C.on p) : C.R.mul (C.ln (C.ng d) s p) (C.ln d t p) = C.R.mul (C.sub p.1 d.1) (C.nn d s t p) :=
 Rg.lc (R := C.R) (zq C.R [d.1, d.2, s, t, p.1, p.2, C.b] (ta (tm (ta (ta j5 (tn (tn j1))) (tn (tm j2 (ta j4 (tn j0))))) (ta (ta j5 (tn j1)) (tn (tm j3 (ta j4 (tn j0)))))) (ta (tm to1 (ta (tm j4 (tm j4 j4)) j6)) (tm (tn to1) (ta (tm j0 (tm j0 j0)) j6)))) (ta (tm (ta j4 (tn j0)) (ta (ta (tm j4 j4) (tn (tm (ta j2 j3) j5))) (ta (tm (ta j0 (tm j2 j3)) j4) (ta (tm j0 (ta j0 (tn (tm j2 j3)))) (tm (ta j2 (tn j3)) j1))))) (ta (tm to1 (tm j5 j5)) (tm (tn to1) (tm j1 j1))))) (lca (lcm hp) (lcm hd))
theorem Ec.nn_at {d q : α × α} {s t : α} (h : C.Sl q (C.ng d) s) : C.nn d s t q = C.R.zero :=
 Rg.lc (R := C.R) (zq C.R [d.1, d.2, s, t, q.1, q.2, C.b] (ta (ta (ta (tm j4 j4) (tn (tm (ta j2 j3) j5))) (ta (tm (ta j0 (tm j2 j3)) j4) (ta (tm j0 (ta j0 (tn (tm j2 j3)))) (tm (ta j2 (tn j3)) j1)))) (ta (tm (tn to1) (ta (ta (tm j4 j4) (tm j4 j0)) (tm j0 j0))) (tm j3 (ta j5 (tn (tn j1)))))) (ta tz0 (ta (tm (tn to1) (tm j2 (ta j5 (tn j1)))) (tm j3 (tm j2 (ta j4 (tn j0))))))) (lca (lcm h.2) (lcm h.1))
theorem Ec.nn_eq {d e p q : α × α} {s t s2 t2 : α} (h1 : C.R.add s t = C.R.add s2 t2) (h2 : C.R.add d.1 (C.R.mul s t) = C.R.add e.1 (C.R.mul s2 t2)) (h3 : C.nn d s t q = C.R.zero) (h4 : C.nn e s2 t2 q = C.R.zero) : C.nn d s t p = C.nn e s2 t2 p :=
 Rg.lc (R := C.R) (zq C.R [d.1, d.2, e.1, e.2, s, t, s2, t2, p.1, p.2, q.1, q.2] (ta (ta (ta (tm j8 j8) (tn (tm (ta j4 j5) j9))) (ta (tm (ta j0 (tm j4 j5)) j8) (ta (tm j0 (ta j0 (tn (tm j4 j5)))) (tm (ta j4 (tn j5)) j1)))) (ta (ta (ta (tm to1 tz0) (tm (tn to1) tz0)) (tm (ta j11 (tn j9)) (ta j6 j7))) (tm (ta j8 (tn j10)) (ta j2 (tm j6 j7))))) (ta (ta (ta (tm j8 j8) (tn (tm (ta j6 j7) j9))) (ta (tm (ta j2 (tm j6 j7)) j8) (ta (tm j2 (ta j2 (tn (tm j6 j7)))) (tm (ta j6 (tn j7)) j3)))) (ta (ta (ta (tm to1 (ta (ta (tm j10 j10) (tn (tm (ta j4 j5) j11))) (ta (tm (ta j0 (tm j4 j5)) j10) (ta (tm j0 (ta j0 (tn (tm j4 j5)))) (tm (ta j4 (tn j5)) j1))))) (tm (tn to1) (ta (ta (tm j10 j10) (tn (tm (ta j6 j7) j11))) (ta (tm (ta j2 (tm j6 j7)) j10) (ta (tm j2 (ta j2 (tn (tm j6 j7)))) (tm (ta j6 (tn j7)) j3)))))) (tm (ta j11 (tn j9)) (ta j4 j5))) (tm (ta j8 (tn j10)) (ta j0 (tm j4 j5)))))) (lca (lca (lca (lcm h3) (lcm h4)) (lcm h1)) (lcm h2))
structure Ec.R3 (x y z s t : α) : Prop where
 e1 : C.R.add (C.R.add x y) z = C.R.mul s s
 e2 : C.R.add (C.R.mul x y) (C.R.mul (C.R.add x y) z) = C.R.neg (C.R.add (C.R.mul s t) (C.R.mul s t))
 e3 : C.R.mul (C.R.mul x y) z = C.sub (C.R.mul t t) C.b
theorem Ec.r3 {a b : α × α} {s : α} (ha : C.on a) (h : C.Sl a b s) : C.R3 a.1 b.1 (C.x3 a b s) s (C.sub a.2 (C.R.mul s a.1)) :=
 ⟨zq C.R [a.1, a.2, b.1, b.2, s, C.b] (ta (ta j0 j2) (ta (ta (tm j4 j4) (tn j0)) (tn j2))) (tm j4 j4), Rg.lc (R := C.R) (zq C.R [a.1, a.2, b.1, b.2, s, C.b] (ta (ta (tm j0 j2) (tm (ta j0 j2) (ta (ta (tm j4 j4) (tn j0)) (tn j2)))) (ta (tm to1 (ta (ta (tm j0 j0) (tm j0 j2)) (tm j2 j2))) (tm (tn j4) (ta j1 (tn j3))))) (ta (tn (ta (tm j4 (ta j1 (tn (tm j4 j0)))) (tm j4 (ta j1 (tn (tm j4 j0)))))) (ta (tm to1 (tm j4 (ta j1 j3))) (tm (tn j4) (tm j4 (ta j0 (tn j2))))))) (lca (lcm h.2) (lcm h.1)), Rg.lc (R := C.R) (zq C.R [a.1, a.2, b.1, b.2, s, C.b] (ta (tm (tm j0 j2) (ta (ta (tm j4 j4) (tn j0)) (tn j2))) (ta (ta (tm j0 (ta (ta (tm j0 j0) (tm j0 j2)) (tm j2 j2))) (tm (tn (tm j0 j4)) (ta j1 (tn j3)))) (tm (tn to1) (ta (tm j0 (tm j0 j0)) j5)))) (ta (ta (tm (ta j1 (tn (tm j4 j0))) (ta j1 (tn (tm j4 j0)))) (tn j5)) (ta (ta (tm j0 (tm j4 (ta j1 j3))) (tm (tn (tm j0 j4)) (tm j4 (ta j0 (tn j2))))) (tm (tn to1) (tm j1 j1))))) (lca (lca (lcm h.2) (lcm h.1)) (lcm ha))⟩
theorem Ec.nn_ways {A B D p : α × α} {a c g t : α} (ha : C.Sl A B a) (hc : C.Sl D B c) (hg : C.Sl (C.th A B a) D g) (ht : C.Sl (C.th D B c) A t) (ho : ¬ C.opp (C.th A B a) D) (ho' : ¬ C.opp (C.th D B c) A) (hn : a ≠ c) : C.nn (C.th A B a) a g p = C.nn (C.th D B c) c t p := by
 have h1 := C.assoc_g ha hc hg ho
 have h2 := C.assoc_g hc ha ht ho'
 have et := C.assoc_t hn h1 h2
 subst et
 refine C.nn_eq (q := B) ?_ ?_ (C.nn_at (C.sl_th ha)) (C.nn_at (C.sl_th hc))
 ·exact zq C.R [A.1, A.2, B.1, B.2, D.1, D.2, a, c, g] (ta j6 j8) (ta j7 (ta (ta j8 j6) (tn j7)))
 ·exact Rg.lc (R := C.R) (zq C.R [A.1, A.2, B.1, B.2, D.1, D.2, a, c, g] (ta (ta (ta (ta (tm j6 j6) (tn j0)) (tn j2)) (tm j6 j8)) (tm to1 tz0)) (ta (ta (ta (ta (tm j7 j7) (tn j4)) (tn j2)) (tm j7 (ta (ta j8 j6) (tn j7)))) (tm to1 (ta (tm (ta j6 (tn j7)) j8) (tn (ta (ta (ta (tm j6 j7) (tn j2)) (tn j4)) (tn (ta (ta (tm j6 j6) (tn j0)) (tn j2))))))))) (lcm h1)
end
end
section
section
variable {α : Type}
theorem bitsM_c (d : Bool) (r : List Bool) (n : Nat) : bitsM (d :: r) n = bitsM r (2 * n + d.toNat) := by cases d <;> rfl
theorem Rg.turn (R : Rg α) {x y z u v w z' w' : α} (h : R.mul (R.mul x y) z = R.mul (R.mul u v) w) (hz : R.mul z' z = R.one) (hw : R.mul w' w = R.one) : R.mul (R.mul x y) w' = R.mul (R.mul u v) z' :=
 Rg.lc (R := R) (zq R [x, y, z, u, v, w, z', w'] (ta (tm (tm j0 j1) j7) (ta (ta (tm (tm j7 j6) (tm (tm j3 j4) j5)) (tm (tn (tm (tm j0 j1) j7)) to1)) (tm (tm (tm j3 j4) j6) to1))) (ta (tm (tm j3 j4) j6) (ta (ta (tm (tm j7 j6) (tm (tm j0 j1) j2)) (tm (tn (tm (tm j0 j1) j7)) (tm j6 j2))) (tm (tm (tm j3 j4) j6) (tm j7 j5))))) (lca (lca (lcm h) (lcm hz)) (lcm hw))
theorem Rg.four_w (R : Rg α) {p q r s t u v w x : α} (h1 : R.mul q r = R.mul s t) (h2 : R.mul v r = R.mul w x) (h3 : R.mul p q = R.mul u v) : R.mul (R.mul p s) t = R.mul (R.mul u w) x :=
 Rg.lc (R := R) (zq R [p, q, r, s, t, u, v, w, x] (ta (tm (tm j0 j3) j4) (ta (ta (tm (tn j0) (tm j3 j4)) (tm j5 (tm j7 j8))) (tm j2 (tm j5 j6)))) (ta (tm (tm j5 j7) j8) (ta (ta (tm (tn j0) (tm j1 j2)) (tm j5 (tm j6 j2))) (tm j2 (tm j0 j1))))) (lca (lca (lcm h1) (lcm h2)) (lcm h3))
end
section
variable {α : Type} [DecidableEq α] (C : Ec α)
def Ec.gl : Pt α → Pt α → Pt α → α
 | some a, some b, some p => if a.1 = b.1 ∧ C.R.add a.2 b.2 = C.R.zero then C.R.one else C.ln a (C.slope a b) p
 | _, _, _ => C.R.one
theorem Ec.gl_l (B P : Pt α) : C.gl none B P = C.R.one := rfl
theorem Ec.gl_m (A P : Pt α) : C.gl A none P = C.R.one := by cases A <;> rfl
theorem Ec.gl_r (A B : Pt α) : C.gl A B none = C.R.one := by
 cases A with
 | none => rfl
 | some a => cases B <;> rfl
theorem Ec.gl_opp {a b : α × α} (h : C.opp a b) (P : Pt α) : C.gl (some a) (some b) P = C.R.one := by
 cases P with
 | none => rfl
 | some p => exact if_pos h
theorem Ec.gl_sl {a b : α × α} {s : α} (ha : C.on a) (hb : C.on b) (ho : ¬ C.opp a b) (hs : C.Sl a b s) (p : α × α) : C.gl (some a) (some b) (some p) = C.ln a s p := by
 rw [← C.sl_one (C.sl_slope ha hb ho) hs ho]
 exact if_neg ho
theorem Ec.gl_comm {A B : Pt α} (hA : C.onP A) (hB : C.onP B) (P : Pt α) : C.gl A B P = C.gl B A P := by
 cases A with
 | none => rw [C.gl_m]; rfl
 | some a =>
  cases B with
  | none => rfl
  | some b =>
   cases P with
   | none => rfl
   | some p =>
    by_cases ho : C.opp a b
    ·rw [C.gl_opp ho, C.gl_opp (C.opp_comm ho)]
    ·have hs := C.sl_slope hA hB ho
     rw [C.gl_sl hA hB ho hs, C.gl_sl hB hA (fun h => ho (C.opp_comm h)) (C.sl_comm hs), C.ln_same hs]
structure Ec.Fz (F : α → α) (SA SP : Pt α → Prop) : Prop where
 mul : ∀ a b, F (C.R.mul a b) = C.R.mul (F a) (F b)
 one : F C.R.one = C.R.one
 neg : ∀ a, F (C.R.neg a) = F a
 aon : ∀ {A}, SA A → C.onP A
 aad : ∀ {A B}, SA A → SA B → SA (C.ad A B)
 ane : ∀ {A}, SA A → SA (C.ne A)
 pon : ∀ {P}, SP P → C.onP P
 pad : ∀ {P Q}, SP P → SP Q → SP (C.ad P Q)
 pne : ∀ {P}, SP P → SP (C.ne P)
 van : ∀ {a p}, SA (some a) → SP (some p) → F (C.sub p.1 a.1) = C.R.one
variable {C} {F : α → α} {SA SP : Pt α → Prop}
theorem Ec.Fz.inv (Z : C.Fz F SA SP) {A B P : Pt α} (hA : SA A) (hB : SA B) (hP : SP P) : C.R.mul (F (C.gl A B P)) (F (C.gl A B (C.ne P))) = C.R.one := by
 cases A with
 | none => rw [C.gl_l, C.gl_l, Z.one, C.R.mul_one]
 | some a =>
  cases B with
  | none => rw [C.gl_m, C.gl_m, Z.one, C.R.mul_one]
  | some b =>
   cases P with
   | none => rw [show C.ne none = none from rfl, C.gl_r, Z.one, C.R.mul_one]
   | some p =>
    by_cases ho : C.opp a b
    ·rw [C.gl_opp ho, C.gl_opp ho, Z.one, C.R.mul_one]
    ·have hs := C.sl_slope (Z.aon hA) (Z.aon hB) ho
     have h3 := Z.aad hA hB
     rw [C.ad_sl (Z.aon hA) (Z.aon hB) ho hs] at h3
     rw [show C.ne (some p) = some (C.ng p) from rfl, C.gl_sl (Z.aon hA) (Z.aon hB) ho hs, C.gl_sl (Z.aon hA) (Z.aon hB) ho hs, ← Z.mul, C.ln_norm (Z.aon hA) (Z.pon hP) hs, Z.neg, Z.mul, Z.mul, Z.van hA hP, Z.van hB hP, show F (C.sub p.1 (C.x3 a b (C.slope a b))) = C.R.one from Z.van h3 hP, C.R.mul_one, C.R.mul_one]
theorem Ec.Fz.opp (Z : C.Fz F SA SP) {A B : Pt α} (hA : SA A) (hB : SA B) (P : Pt α) : F (C.gl (C.ne A) (C.ne B) P) = F (C.gl A B (C.ne P)) := by
 cases A with
 | none => rfl
 | some a =>
  cases B with
  | none => rfl
  | some b =>
   cases P with
   | none => rfl
   | some p =>
    have hiff : C.opp (C.ng a) (C.ng b) → C.opp a b := fun h => ⟨h.1, by
     have := h.2
     rw [show (C.ng a).2 = C.R.neg a.2 from rfl, show (C.ng b).2 = C.R.neg b.2 from rfl, ← C.R.neg_add] at this
     rw [← C.R.neg_neg (C.R.add a.2 b.2), this, C.R.neg_zero]⟩
    by_cases ho : C.opp a b
    ·have ho' : C.opp (C.ng a) (C.ng b) := ⟨ho.1, by
      rw [show (C.ng a).2 = C.R.neg a.2 from rfl, show (C.ng b).2 = C.R.neg b.2 from rfl, ← C.R.neg_add, ho.2, C.R.neg_zero]⟩
     rw [C.gl_opp ho]
     exact congrArg F (C.gl_opp ho' _)
    ·have hs := C.sl_slope (Z.aon hA) (Z.aon hB) ho
     show F (C.gl (some (C.ng a)) (some (C.ng b)) (some p)) = F (C.gl (some a) (some b) (some (C.ng p)))
     rw [C.gl_sl (C.ng_on (Z.aon hA)) (C.ng_on (Z.aon hB)) (fun h => ho (hiff h)) (C.sl_ng hs), C.gl_sl (Z.aon hA) (Z.aon hB) ho hs, C.ln_ng, Z.neg]
theorem Ec.Fz.third (Z : C.Fz F SA SP) {A B : Pt α} (hA : SA A) (hB : SA B) (P : Pt α) : C.gl A (C.ne (C.ad A B)) P = C.gl A B P := by
 cases A with
 | none => rfl
 | some a =>
  cases B with
  | none => rw [C.ad_nr, C.gl_m]; exact C.gl_opp (C.opp_ng a) P
  | some b =>
   by_cases ho : C.opp a b
   ·rw [C.ad_opp ho, C.gl_opp ho]; exact C.gl_m _ _
   ·cases P with
    | none => rw [C.gl_r, C.gl_r]
    | some p =>
     have hs := C.sl_slope (Z.aon hA) (Z.aon hB) ho
     have h3 := Z.aad hA hB
     have u := C.undo (Z.aon hA) (Z.aon hB)
     have k := C.ne_ad (C.ne_on (Z.aon hA)) (Z.aon h3)
     rw [u, C.ne_ne] at k
     rw [C.ad_sl (Z.aon hA) (Z.aon hB) ho hs] at h3 k ⊢
     have s3 : C.Sl a (C.ng (C.th a b (C.slope a b))) (C.slope a b) := by
      have q := C.sl_th (C.sl_comm hs)
      rw [← C.th_comm hs] at q
      exact q
     have o3 : ¬ C.opp a (C.ng (C.th a b (C.slope a b))) := fun h => by
      have k2 : C.ne (some b) = C.ad (some a) (some (C.ng (C.th a b (C.slope a b)))) := k
      rw [C.ad_opp h] at k2
      cases k2
     exact (C.gl_sl (Z.aon hA) (C.ng_on (Z.aon h3)) o3 s3 p).trans (C.gl_sl (Z.aon hA) (Z.aon hB) ho hs p).symm
theorem Ec.Fz.co_opp (Z : C.Fz F SA SP) {A B D P : Pt α} (hB : SA B) (hD : SA D) (hP : SP P) (e : A = C.ne B) : C.R.mul (F (C.gl D B P)) (F (C.gl (C.ad D B) A P)) = C.R.one := by
 subst e
 have hnB := Z.ane hB
 have hnD := Z.ane hD
 have hDB := Z.aad hD hB
 have t := Z.third hnB hnD P
 have e2 : C.ne (C.ad (C.ne B) (C.ne D)) = C.ad D B := by rw [← C.ne_ad (Z.aon hB) (Z.aon hD), C.ne_ne, C.ad_comm (Z.aon hB) (Z.aon hD)]
 rw [e2] at t
 rw [C.gl_comm (Z.aon hDB) (Z.aon hnB), t, Z.opp hB hD, C.gl_comm (Z.aon hD) (Z.aon hB)]
 exact Z.inv hB hD hP
theorem Ec.Fz.co_fin (Z : C.Fz F SA SP) {a b d p : α × α} (hA : SA (some a)) (hB : SA (some b)) (hD : SA (some d)) (hP : SP (some p)) (o1 : ¬ C.opp a b) (o2 : ¬ C.opp d b) : C.R.mul (F (C.gl (some a) (some b) (some p))) (F (C.gl (C.ad (some a) (some b)) (some d) (some p))) = C.R.mul (F (C.gl (some d) (some b) (some p))) (F (C.gl (C.ad (some d) (some b)) (some a) (some p))) := by
 have oa := Z.aon hA
 have ob := Z.aon hB
 have od := Z.aon hD
 have hs := C.sl_slope oa ob o1
 have hc := C.sl_slope od ob o2
 have h1 := Z.aad hA hB
 have h2 := Z.aad hD hB
 have e1 := C.ad_sl oa ob o1 hs
 have e2 := C.ad_sl od ob o2 hc
 rw [e1] at h1
 rw [e2] at h2
 have asc : C.ad (C.ad (some a) (some b)) (some d) = C.ad (C.ad (some d) (some b)) (some a) := by
  rw [C.ad_assoc oa ob od, C.ad_comm ob od, C.ad_comm oa (C.ad_on od ob)]
 by_cases o3 : C.opp (C.th a b (C.slope a b)) d
 ·have o4 : C.opp (C.th d b (C.slope d b)) a := by
   rw [e1, e2, C.ad_opp o3] at asc
   by_cases h : C.opp (C.th d b (C.slope d b)) a
   ·exact h
   ·rw [C.ad_sl (Z.aon h2) oa h (C.sl_slope (Z.aon h2) oa h)] at asc
    cases asc
  rw [e1, e2, C.gl_opp o3, C.gl_opp o4]
  have t := Z.third hB hA (some p)
  have e3 : C.ne (C.ad (some b) (some a)) = some d := by
   rw [C.ad_comm ob oa, e1]
   exact congrArg some (C.opp_eq o3).symm
  rw [e3] at t
  rw [C.gl_comm od ob, t, C.gl_comm ob oa]
 ·have o4 : ¬ C.opp (C.th d b (C.slope d b)) a := fun h => by
   rw [e1, e2, C.ad_opp h, C.ad_sl (Z.aon h1) od o3 (C.sl_slope (Z.aon h1) od o3)] at asc
   cases asc
  by_cases hn : C.slope a b = C.slope d b
  ·have hc' := hc
   rw [← hn] at hc'
   rcases C.line_three hs hc' with h | h
   ·subst h; rfl
   ·exact absurd h o3
  ·have hg := C.sl_slope (Z.aon h1) od o3
   have ht := C.sl_slope (Z.aon h2) oa o4
   rw [e1, e2, C.gl_sl oa ob o1 hs, C.gl_sl od ob o2 hc, C.gl_sl (Z.aon h1) od o3 hg, C.gl_sl (Z.aon h2) oa o4 ht, ← Z.mul, ← Z.mul, ← C.ln_th hs, ← C.ln_th hc, C.ln_two (Z.aon h1) (Z.pon hP), C.ln_two (Z.aon h2) (Z.pon hP), Z.mul, Z.mul, Z.van h1 hP, Z.van h2 hP, C.nn_ways hs hc hg ht o3 o4 hn]
theorem Ec.Fz.co (Z : C.Fz F SA SP) {A B D P : Pt α} (hA : SA A) (hB : SA B) (hD : SA D) (hP : SP P) : C.R.mul (F (C.gl A B P)) (F (C.gl (C.ad A B) D P)) = C.R.mul (F (C.gl D B P)) (F (C.gl (C.ad D B) A P)) := by
 cases A with
 | none => rw [C.gl_m, C.gl_l, C.ad_nl, C.gl_comm (Z.aon hB) (Z.aon hD), C.R.mul_comm]
 | some a =>
  cases B with
  | none => rw [C.gl_m, C.gl_m, C.ad_nr, C.ad_nr, C.gl_comm (Z.aon hA) (Z.aon hD)]
  | some b =>
   cases D with
   | none => rw [C.gl_m, C.gl_l, C.ad_nl, C.gl_comm (Z.aon hA) (Z.aon hB), C.R.mul_comm]
   | some d =>
    cases P with
    | none => rw [C.gl_r, C.gl_r, C.gl_r, C.gl_r]
    | some p =>
     by_cases o1 : C.opp a b
     ·have ea : (some a : Pt α) = C.ne (some b) := congrArg some (C.opp_eq (C.opp_comm o1))
      have k := Z.co_opp hB hD hP ea
      rw [k, C.gl_opp o1, C.ad_opp o1, C.gl_l, Z.one, C.R.mul_one]
     ·by_cases o2 : C.opp d b
      ·have ed : (some d : Pt α) = C.ne (some b) := congrArg some (C.opp_eq (C.opp_comm o2))
       have k := Z.co_opp hB hA hP ed
       rw [k, C.gl_opp o2, C.ad_opp o2, C.gl_l, Z.one, C.R.mul_one]
      ·exact Z.co_fin hA hB hD hP o1 o2
theorem Ec.Fz.quad (Z : C.Fz F SA SP) {A B K D P : Pt α} (hA : SA A) (hB : SA B) (hK : SA K) (hD : SA D) (hP : SP P) : C.R.mul (C.R.mul (F (C.gl A K P)) (F (C.gl B D P))) (F (C.gl (C.ad A K) (C.ad B D) P)) = C.R.mul (C.R.mul (F (C.gl A B P)) (F (C.gl K D P))) (F (C.gl (C.ad A B) (C.ad K D) P)) := by
 have oA := Z.aon hA
 have oB := Z.aon hB
 have oK := Z.aon hK
 have oD := Z.aon hD
 have hAK := Z.aad hA hK
 have hAB := Z.aad hA hB
 have hBD := Z.aad hB hD
 have hKD := Z.aad hK hD
 have c1 := Z.co hAK hB hD hP
 have c2 := Z.co hAB hK hD hP
 have c3 := Z.co hA hK hB hP
 have c4 := Z.co hA hB hK hP
 have e1 : C.ad (C.ad A K) B = C.ad (C.ad A B) K := by rw [C.ad_assoc oA oK oB, C.ad_comm oK oB, C.ad_assoc oA oB oK]
 rw [C.ad_comm oD oB, C.gl_comm oD oB, C.gl_comm (Z.aon hBD) (Z.aon hAK), e1] at c1
 rw [C.ad_comm oD oK, C.gl_comm oD oK, C.gl_comm (Z.aon hKD) (Z.aon hAB)] at c2
 rw [C.gl_comm oK oB, C.ad_comm oK oB] at c4
 exact C.R.four_w c1 c2 (c3.trans c4.symm)
end
section
variable {α : Type} [DecidableEq α] (C : Ec α)
variable {C} {F : α → α} {SA SP : Pt α → Prop}
end
end
section
def g2 : W2 := pw2 XI th
theorem z_a0 (a : Zp) : a + 0 = a := by grind
theorem nm2_pw (x : W2) : ∀ n, nm2 (pw2 x n) = nm2 x ^ n
 | 0 => by
  show nm2 on2 = _
  rw [p0, nm2, on2]
  show (1 : Zp) * 1 + 0 * 0 = 1
  rw [z_11, z_m0]; exact z_a0 1
 | n + 1 => by rw [pw2_s, nm2_mul, nm2_pw x n, ps]
theorem cj2_cc (x : W2) : cj2 (cj2 x) = x := w2_ext rfl (z_neg _)
theorem cj_turn (c g : W2) : ml2 (cj2 (ml2 (cj2 c) g)) g = ml2 c (nm2 g, 0) := by
 rw [cj2_mul, cj2_cc, show ml2 (ml2 c (cj2 g)) g = ml2 c (ml2 (cj2 g) g) from R2.mul_assoc _ _ _, show ml2 (cj2 g) g = ml2 g (cj2 g) from R2.mul_comm _ _, nm2_cj]
end
section
theorem z_s0 (a : Zp) : a - 0 = a := by grind
theorem z_0a (a : Zp) : 0 + a = a := by grind
theorem fr_mid (a b c : W2) : ml2 (ml2 a b) c = ml2 a (ml2 b c) := R2.mul_assoc a b c
end
section
/-! ### The powers of p -/
def fn12 (x : W12) : Nat → W12
 | 0 => x
 | n + 1 => FR12 (fn12 x n)
def sc12 (z : Zp) (x : W12) : W12 := ((ml2 x.1.1 (z ^ 0, 0), ml2 x.1.2.1 (z ^ 2, 0), ml2 x.1.2.2 (z ^ 4, 0)), (ml2 x.2.1 (z ^ 1, 0), ml2 x.2.2.1 (z ^ 3, 0), ml2 x.2.2.2 (z ^ 5, 0)))
theorem sc_two (c : W2) (a b : Zp) (k : Nat) : ml2 (ml2 c (b ^ k, 0)) (a ^ k, 0) = ml2 c ((a * b) ^ k, 0) := by
 rw [fr_mid, ml2_rr]
 have e : b ^ k * a ^ k = (a * b) ^ k := by
  induction k with
  | zero => rw [p0, p0, p0]; exact z_11
  | succ k ih => rw [ps, ps, ps, ← ih]; grind
 rw [e]
theorem sc12_sc (a b : Zp) (x : W12) : sc12 a (sc12 b x) = sc12 (a * b) x :=
 Prod.ext (Prod.ext (sc_two _ _ _ _) (Prod.ext (sc_two _ _ _ _) (sc_two _ _ _ _))) (Prod.ext (sc_two _ _ _ _) (Prod.ext (sc_two _ _ _ _) (sc_two _ _ _ _)))
def ZE : Zp := nm2 GA
theorem ZE_pw (k : Nat) : nm2 (pw2 GA k) = ZE ^ k := nm2_pw GA k
theorem ga_turn (c : W2) (k : Nat) : ml2 (cj2 (ml2 (cj2 c) (pw2 GA k))) (pw2 GA k) = ml2 c (ZE ^ k, 0) := by rw [cj_turn, ZE_pw]
theorem FR12_two (x : W12) : FR12 (FR12 x) = sc12 ZE x :=
 Prod.ext (Prod.ext (ga_turn _ _) (Prod.ext (ga_turn _ _) (ga_turn _ _))) (Prod.ext (ga_turn _ _) (Prod.ext (ga_turn _ _) (ga_turn _ _)))
theorem ZE_two : ZE = zp 2 ^ sx := by rw [ZE, GA, nm2_pw, xi_nm]
theorem sx_hf : sx * 3 = hf := by decide +kernel
theorem sq_one {a : Zp} (h : a * a = 1) (h1 : a ≠ 1) : a = -1 := by
 have e : (a - 1) * (a + 1) = 0 := by grind
 rcases zmul0 e with e | e
 ·exact absurd (by grind) h1
 ·grind
theorem hf_two : hf + hf = PP - 1 := by decide +kernel
theorem two_hfn : zp 2 ^ hf = -1 := sq_one (by rw [← padd, hf_two, fermat two_ne]) two_hf
theorem ZE_three : ZE * (ZE * ZE) = -1 := by
 have e : ZE * (ZE * ZE) = ZE ^ 3 := by generalize ZE = a; grind
 rw [e, ZE_two, ← pmul, sx_hf, two_hfn]
theorem fn12_sixZ (x : W12) : fn12 x 6 = sc12 (ZE * (ZE * ZE)) x := by
 show FR12 (FR12 (FR12 (FR12 (FR12 (FR12 x))))) = _
 rw [FR12_two x, FR12_two (sc12 ZE x), FR12_two, sc12_sc ZE ZE x, sc12_sc]
def cj12 (x : W12) : W12 := (x.1, K6.neg x.2)
theorem ev_one (c : W2) (n : Nat) : ml2 c ((-1 : Zp) ^ (2 * n), 0) = c := by
 have e : (-1 : Zp) ^ (2 * n) = 1 := by
  induction n with
  | zero => exact p0 _
  | succ n ih => rw [Nat.mul_succ, padd, ih]; generalize hm : (-1 : Zp) = a; have : a * a = 1 := by rw [← hm, z_nn, z_11]
                 grind
 rw [e]; exact R2.mul_one c
theorem od_one (c : W2) (n : Nat) : ml2 c ((-1 : Zp) ^ (2 * n + 1), 0) = ng2 c := by
 have e : ml2 c ((-1 : Zp) ^ (2 * n + 1), 0) = ml2 (ml2 c ((-1 : Zp) ^ (2 * n), 0)) (-1, 0) := by rw [fr_mid, ml2_rr, ps]
 rw [e, ev_one]
 generalize hm : (-1 : Zp) = a
 refine w2_ext ?_ ?_
 ·show c.1 * a - c.2 * 0 = -c.1
  rw [z_m0, z_s0, ← hm]; grind
 ·show c.1 * 0 + c.2 * a = -c.2
  rw [z_m0, z_0a, ← hm]; grind
theorem fn12_six (x : W12) : fn12 x 6 = cj12 x := by
 rw [fn12_sixZ, ZE_three]
 exact Prod.ext (Prod.ext (ev_one _ 0) (Prod.ext (ev_one _ 1) (ev_one _ 2))) (Prod.ext (od_one _ 0) (Prod.ext (od_one _ 1) (od_one _ 2)))
/-! ### The conjugate's laws -/
theorem tvv {ρ : Nat → W6} {p : Po} {a : W6} (k : Nat) (ha : K6.d ρ p = a) (hk : ρ k = VV) : K6.d ρ (pmul' p (pv k)) = v6 a := by rw [K6.d_mul, ha, K6.d_var, hk]; exact v6_eq a
theorem tsb6 {ρ : Nat → W6} {p q : Po} {a b : W6} (ha : K6.d ρ p = a) (hb : K6.d ρ q = b) : K6.d ρ (padd' p (pneg' q)) = sb6 a b := by rw [K6.d_add, K6.d_neg, ha, hb, sb6_eq]
end
section
/-! ### The sixth root, as numbers -/
end
section
theorem pw_fn (x : W12) : ∀ n, K12.pw x (PP ^ n) = fn12 x n
 | 0 => by rw [Nat.pow_zero, K12.pw_one]; rfl
 | n + 1 => by rw [Nat.pow_succ, K12.pw_mul, pw_fn x n, frob12]; rfl
theorem pw_six (x : W12) : K12.pw x (PP ^ 6) = cj12 x := (pw_fn x 6).trans (fn12_six x)
theorem pw_can {x : W12} (h : x ≠ K12.zero) {n : Nat} (e : K12.pw x (n + 1) = x) : K12.pw x n = K12.one := by
 have k : K12.mul (K12.mul (K12.pw x n) x) (iv12 x) = K12.mul x (iv12 x) := congrArg (fun y => K12.mul y (iv12 x)) e
 rw [K12.mul_assoc, iv12_mul h, K12.mul_one] at k
 exact k
theorem pw_dvd {x : W12} {m n : Nat} (h : K12.pw x m = K12.one) (hd : n % m = 0) : K12.pw x n = K12.one := by
 have e : n = m * (n / m) := by have := Nat.div_add_mod n m; omega
 rw [e, K12.pw_mul, h, K12.one_pw]
theorem N6_s : PP ^ 6 - 1 + 1 = PP ^ 6 := by decide +kernel
theorem pw_r6 {z : W6} (h : z ≠ K6.zero) : K12.pw (r6 z) (PP ^ 6 - 1) = K12.one :=
 pw_can (fun e => h (r6_inj e)) (by rw [N6_s, pw_six]; exact Prod.ext rfl K6.neg_zero)
/-! ### As the reference reckons it -/
section
variable {u p2 p6 n : Nat} (h2 : ∀ x, FR12 (FR12 x) = K12.pw x p2) (h6 : ∀ x, cj12 x = K12.pw x p6)
end
def FN (e : Nat) (x : W12) : W12 := K12.pw x e
section
variable {e : Nat}
theorem FN_mul (x y : W12) : FN e (K12.mul x y) = K12.mul (FN e x) (FN e y) := K12.mul_pw x y e
theorem FN_r6 (h6 : e % (PP ^ 6 - 1) = 0) {z : W6} (h : z ≠ K6.zero) : FN e (r6 z) = K12.one := pw_dvd (pw_r6 h) h6
theorem r6_one : r6 K6.one = K12.one := rfl
end
/-! ### Upright lines -/
end
section
section
variable {α β : Type} {C : Ec α} {D : Ec β} (T : Hw C D)
theorem Hw.ln (a p : α × α) (s : α) : D.ln (T.m a) (D.R.mul T.w (T.f s)) (T.m p) = D.R.mul (D.R.mul T.w (D.R.mul T.w T.w)) (T.f (C.ln a s p)) := by
 unfold Ec.ln
 rw [T.fs, T.fs, T.fm, T.fs]
 exact zq D.R [T.w, T.f a.1, T.f a.2, T.f s, T.f p.1, T.f p.2] (ta (ta (tm (tm j0 (tm j0 j0)) j5) (tn (tm (tm j0 (tm j0 j0)) j2))) (tn (tm (tm j0 j3) (ta (tm (tm j0 j0) j4) (tn (tm (tm j0 j0) j1)))))) (tm (tm j0 (tm j0 j0)) (ta (ta j5 (tn j2)) (tn (tm j3 (ta j4 (tn j1))))))
theorem Hw.gl [DecidableEq α] [DecidableEq β] {A B P : Pt α} (hA : C.onP A) (hB : C.onP B) {F : β → β} (hF : ∀ a b, F (D.R.mul a b) = D.R.mul (F a) (F b)) (hw : F (D.R.mul T.w (D.R.mul T.w T.w)) = D.R.one) : F (D.gl (T.p A) (T.p B) (T.p P)) = F (T.f (C.gl A B P)) := by
 cases A with
 | none => rw [C.gl_l, T.f1]; rfl
 | some a =>
  cases B with
  | none => rw [C.gl_m, T.f1]; rfl
  | some b =>
   cases P with
   | none => rw [C.gl_r, T.f1]; rfl
   | some p =>
    by_cases ho : C.opp a b
    ·rw [C.gl_opp ho, T.f1]
     exact congrArg F (D.gl_opp (T.opp.2 ho) _)
    ·have hs := C.sl_slope hA hB ho
     rw [C.gl_sl hA hB ho hs]
     refine (congrArg F (D.gl_sl (T.m_on hA) (T.m_on hB) (fun h => ho (T.opp.1 h)) (T.sl hs) (T.m p))).trans ?_
     rw [T.ln, hF, hw, D.R.one_mul]
end
/-! ### The power of p, as a map of the curve -/
/-! ### The loop's value -/
section
variable {e : Nat} (h6 : e % (PP ^ 6 - 1) = 0) (hr : e * ORD % (PP ^ 12 - 1) = 0) (he : e - 1 + 1 = e)
theorem tm1 {α : Type} [DecidableEq α] (C : Ec α) (Q : Pt α) : C.times Q 1 = Q := rfl
end
end
section
def LN (r : W2 × W2) (s : W2) (q : Zp × Zp) : W12 := ((sb2 (ml2 s r.1) r.2, ng2 (ml2 s (re2 q.1)), ze2), (ze2, re2 q.2, ze2))
theorem a0 (x : W2) : ad2 x ze2 = x := R2.add_zero x
theorem l0 (x : W2) : ad2 ze2 x = x := R2.zero_add x
def LG (a b : Pt W2) (q : Zp × Zp) : W12 := match a, b with
 | some a, some b => if a.1 = b.1 ∧ ad2 a.2 b.2 = ze2 then K12.one else LN a (E2w.slope a b) q
 | _, _ => K12.one
theorem LG_s {a b : W2 × W2} {s : W2} (ha : E2w.on a) (hb : E2w.on b) (ho : ¬ E2w.opp a b) (hs : E2w.Sl a b s) (q : Zp × Zp) : LG (some a) (some b) q = LN a s q := by
 rw [← E2w.sl_one (E2w.sl_slope ha hb ho) hs ho]
 exact if_neg ho
theorem LG_o {a b : W2 × W2} (h : E2w.opp a b) (q : Zp × Zp) : LG (some a) (some b) q = K12.one := if_pos h
def MSW (q : Zp × Zp) (Q : Pt W2) (d : Bool) (st : W12 × Pt W2) : W12 × Pt W2 :=
 if d then (K12.mul (K12.mul (K12.mul st.1 st.1) (LG st.2 st.2 q)) (LG (E2w.ad st.2 st.2) Q q), E2w.ad (E2w.ad st.2 st.2) Q) else (K12.mul (K12.mul st.1 st.1) (LG st.2 st.2 q), E2w.ad st.2 st.2)
def MLW (q : Zp × Zp) (Q : Pt W2) : List Bool → W12 × Pt W2 → W12 × Pt W2
 | [], st => st
 | d :: r, st => MLW q Q r (MSW q Q d st)
end
section
set_option maxRecDepth 1000000
/-! ### The power -/
end
section
section
variable {e : Nat} {l : List Bool}
end
/-! ### The generators' -/
end
section
section
variable {α : Type} (C : Ec α)
def Ec.t3 (x : α) : α := C.R.add (C.R.add (C.R.mul x x) (C.R.mul x x)) (C.R.mul x x)
def Ec.wdL (J : α × α × α) : α × α × α := (C.sub (C.R.mul (C.t3 J.1) J.1) (C.R.mul (C.R.add J.2.1 J.2.1) J.2.1), C.R.mul (C.t3 J.1) (C.R.mul J.2.2 J.2.2), C.R.mul (C.R.mul J.2.2 (C.R.add J.2.1 J.2.1)) (C.R.mul J.2.2 J.2.2))
def Ec.wdJ (J : α × α × α) : α × α × α :=
 let u := C.t3 J.1
 let d := C.R.mul (C.R.add J.2.1 J.2.1) J.2.1
 let h := C.R.add d d
 let b := C.R.mul h J.1
 let X := C.sub (C.sub (C.R.mul u u) b) b
 (X, C.sub (C.R.mul u (C.sub b X)) (C.R.mul h d), C.R.mul J.2.2 (C.R.add J.2.1 J.2.1))
def Ec.wjU (J : α × α × α) (q : α × α) : α := C.sub (C.R.mul (C.R.mul q.2 (C.R.mul J.2.2 J.2.2)) J.2.2) J.2.1
def Ec.wjA (J : α × α × α) (q : α × α) : α := C.sub (C.R.mul q.1 (C.R.mul J.2.2 J.2.2)) J.1
def Ec.wjL (J : α × α × α) (q : α × α) : α × α × α := (C.sub (C.R.mul (C.wjU J q) q.1) (C.R.mul (C.R.mul J.2.2 (C.wjA J q)) q.2), C.wjU J q, C.R.mul J.2.2 (C.wjA J q))
def Ec.wjJ (J : α × α × α) (q : α × α) : α × α × α :=
 let u := C.wjU J q
 let a := C.wjA J q
 let s := C.R.mul a a
 let t := C.R.mul s a
 let b := C.R.mul s J.1
 let X := C.sub (C.sub (C.sub (C.R.mul u u) t) b) b
 (X, C.sub (C.R.mul u (C.sub b X)) (C.R.mul t J.2.1), C.R.mul J.2.2 a)
theorem Ec.wdJ_dbA (J : α × α × α) : C.wdJ J = C.dbA J := C.dbl_ext (C.t3 J.1)
 (zq C.R [J.1, J.2.1, J.2.2] (tm (ta (tm (ta j1 j1) j1) (tm (ta j1 j1) j1)) j0) (tm (tm (ta j1 j1) (ta j1 j1)) j0))
 (zq C.R [J.1, J.2.1, J.2.2] (tm (ta (tm (ta j1 j1) j1) (tm (ta j1 j1) j1)) (tm (ta j1 j1) j1)) (tm (tm (tm (ta j1 j1) (ta j1 j1)) (ta j1 j1)) j1))
 rfl
theorem Ec.wjJ_adG (J : α × α × α) (q : α × α) : C.adG J (q.1, q.2, C.R.one) = C.wjJ J q := by
 unfold Ec.adG
 simp only [C.R.mul_one]
 rfl
theorem Ec.wdL_ln {a : α × α} {J : α × α × α} (h : C.jr J (some a)) {s : α} (hs : C.R.mul s (C.R.add a.2 a.2) = C.t3 a.1) : (C.wdL J).1 = C.R.mul (C.wdL J).2.2 (C.sub (C.R.mul s a.1) a.2) ∧ (C.wdL J).2.1 = C.R.mul (C.wdL J).2.2 s := by
 have hx : J.1 = C.R.mul a.1 (C.R.mul J.2.2 J.2.2) := h.2.1
 have hy : J.2.1 = C.R.mul a.2 (C.R.mul (C.R.mul J.2.2 J.2.2) J.2.2) := h.2.2
 have hs : C.R.mul s (C.R.add a.2 a.2) = C.R.add (C.R.add (C.R.mul a.1 a.1) (C.R.mul a.1 a.1)) (C.R.mul a.1 a.1) := hs
 unfold Ec.wdL
 rw [hx, hy]
 exact ⟨Rg.lc (R := C.R) (zq C.R [a.1, a.2, J.2.2, s] (ta (ta (tm (ta (ta (tm (tm j0 (tm j2 j2)) (tm j0 (tm j2 j2))) (tm (tm j0 (tm j2 j2)) (tm j0 (tm j2 j2)))) (tm (tm j0 (tm j2 j2)) (tm j0 (tm j2 j2)))) (tm j0 (tm j2 j2))) (tn (tm (ta (tm j1 (tm (tm j2 j2) j2)) (tm j1 (tm (tm j2 j2) j2))) (tm j1 (tm (tm j2 j2) j2))))) (tm (tn (tm (tm (tm j2 j2) (tm (tm j2 j2) (tm j2 j2))) j0)) (ta (ta (tm j0 j0) (tm j0 j0)) (tm j0 j0)))) (ta (tm (tm (tm j2 (ta (tm j1 (tm (tm j2 j2) j2)) (tm j1 (tm (tm j2 j2) j2)))) (tm j2 j2)) (ta (tm j3 j0) (tn j1))) (tm (tn (tm (tm (tm j2 j2) (tm (tm j2 j2) (tm j2 j2))) j0)) (tm j3 (ta j1 j1))))) (lcm hs), Rg.lc (R := C.R) (zq C.R [a.1, a.2, J.2.2, s] (ta (tm (ta (ta (tm (tm j0 (tm j2 j2)) (tm j0 (tm j2 j2))) (tm (tm j0 (tm j2 j2)) (tm j0 (tm j2 j2)))) (tm (tm j0 (tm j2 j2)) (tm j0 (tm j2 j2)))) (tm j2 j2)) (tm (tn (tm (tm j2 j2) (tm (tm j2 j2) (tm j2 j2)))) (ta (ta (tm j0 j0) (tm j0 j0)) (tm j0 j0)))) (ta (tm (tm (tm j2 (ta (tm j1 (tm (tm j2 j2) j2)) (tm j1 (tm (tm j2 j2) j2)))) (tm j2 j2)) j3) (tm (tn (tm (tm j2 j2) (tm (tm j2 j2) (tm j2 j2)))) (tm j3 (ta j1 j1))))) (lcm hs)⟩
theorem Ec.wjL_ln {a q : α × α} {J : α × α × α} (h : C.jr J (some a)) {s : α} (hs : C.R.mul s (C.sub a.1 q.1) = C.sub a.2 q.2) : (C.wjL J q).1 = C.R.mul (C.wjL J q).2.2 (C.sub (C.R.mul s a.1) a.2) ∧ (C.wjL J q).2.1 = C.R.mul (C.wjL J q).2.2 s := by
 have hx : J.1 = C.R.mul a.1 (C.R.mul J.2.2 J.2.2) := h.2.1
 have hy : J.2.1 = C.R.mul a.2 (C.R.mul (C.R.mul J.2.2 J.2.2) J.2.2) := h.2.2
 unfold Ec.wjL Ec.wjU Ec.wjA
 rw [hx, hy]
 exact ⟨Rg.lc (R := C.R) (zq C.R [a.1, a.2, J.2.2, s, q.1, q.2] (ta (ta (tm (ta (tm (tm j5 (tm j2 j2)) j2) (tn (tm j1 (tm (tm j2 j2) j2)))) j4) (tn (tm (tm j2 (ta (tm j4 (tm j2 j2)) (tn (tm j0 (tm j2 j2))))) j5))) (tm (tm (tm (tm j2 j2) j2) j0) (ta j1 (tn j5)))) (ta (tm (tm j2 (ta (tm j4 (tm j2 j2)) (tn (tm j0 (tm j2 j2))))) (ta (tm j3 j0) (tn j1))) (tm (tm (tm (tm j2 j2) j2) j0) (tm j3 (ta j0 (tn j4)))))) (lcm hs), Rg.lc (R := C.R) (zq C.R [a.1, a.2, J.2.2, s, q.1, q.2] (ta (ta (tm (tm j5 (tm j2 j2)) j2) (tn (tm j1 (tm (tm j2 j2) j2)))) (tm (tm (tm j2 j2) j2) (ta j1 (tn j5)))) (ta (tm (tm j2 (ta (tm j4 (tm j2 j2)) (tn (tm j0 (tm j2 j2))))) j3) (tm (tm (tm j2 j2) j2) (tm j3 (ta j0 (tn j4)))))) (lcm hs)⟩
theorem Ec.wdL_ne {a : α × α} {J : α × α × α} (h : C.jr J (some a)) (ha : a.2 ≠ C.R.zero) : (C.wdL J).2.2 ≠ C.R.zero := by
 have hy : J.2.1 ≠ C.R.zero := by rw [h.2.2]; exact C.mul_ne ha (C.z3_ne h.1)
 exact C.mul_ne (C.mul_ne h.1 fun e => hy (C.dbl0 e)) (C.z2_ne h.1)
theorem Ec.wjA_ne {a q : α × α} {J : α × α × α} (h : C.jr J (some a)) (ha : a.1 ≠ q.1) : C.wjA J q ≠ C.R.zero := fun e => ha (by
 have hx : J.1 = C.R.mul a.1 (C.R.mul J.2.2 J.2.2) := h.2.1
 have k := C.sub0 e
 rw [hx] at k
 exact (C.mul_can (C.z2_ne h.1) k).symm)
theorem Ec.wjL_ne {a q : α × α} {J : α × α × α} (h : C.jr J (some a)) (ha : a.1 ≠ q.1) : (C.wjL J q).2.2 ≠ C.R.zero := C.mul_ne h.1 (C.wjA_ne h ha)
end
section
variable {α : Type} [DecidableEq α] (C : Ec α)
theorem Ec.wdJ_jr {J : α × α × α} {P : Pt α} (hP : C.onP P) (h : C.jr J P) : C.jr (C.wdJ J) (C.ad P P) := by rw [C.wdJ_dbA]; exact C.dbA_jr hP h
theorem Ec.wjJ_jr {J : α × α × α} {a q : α × α} (h1 : C.R.one ≠ C.R.zero) (ha : C.on a) (hq : C.on q) (h : C.jr J (some a)) (hn : a.1 ≠ q.1) : C.jr (C.wjJ J q) (C.ad (some a) (some q)) := by
 have k := C.adA_jr (P := some a) (Q := some q) ha hq h (C.jr_at q h1)
 have e : C.jh J.1 J.2.2 q.1 C.R.one ≠ C.R.zero := fun e => C.wjA_ne h hn (by
  show C.sub (C.R.mul q.1 (C.R.mul J.2.2 J.2.2)) J.1 = C.R.zero
  have e : C.sub (C.R.mul q.1 (C.R.mul J.2.2 J.2.2)) (C.R.mul J.1 (C.R.mul C.R.one C.R.one)) = C.R.zero := e
  rw [C.R.mul_one, C.R.mul_one] at e
  exact e)
 rw [show C.adA J (q.1, q.2, C.R.one) = C.adG J (q.1, q.2, C.R.one) from (if_neg h.1).trans ((if_neg h1).trans (if_neg e)), C.wjJ_adG] at k
 exact k
end
theorem em_at (c : W2) (y : W12) : K12.mul (em c) y = ((ml2 c y.1.1, ml2 c y.1.2.1, ml2 c y.1.2.2), (ml2 c y.2.1, ml2 c y.2.2.1, ml2 c y.2.2.2)) :=
 Prod.ext (Prod.ext (zq R2 [c, y.1.1, y.1.2.1, y.1.2.2, y.2.1, y.2.2.1, y.2.2.2, XI] (ta (ta (tm j0 j1) (tm j7 (ta (tm tz0 j3) (tm tz0 j2)))) (ta (tm tz0 (ta (tm tz0 j4) (tm j7 (ta (tm tz0 j6) (tm tz0 j5))))) (tm j7 (ta (tm to1 (ta (ta (tm tz0 j6) (tm tz0 j5)) (tm tz0 j4))) (tm tz0 (ta (ta (tm tz0 j5) (tm tz0 j4)) (tm j7 (tm tz0 j6)))))))) (tm j0 j1)) (Prod.ext (zq R2 [c, y.1.1, y.1.2.1, y.1.2.2, y.2.1, y.2.2.1, y.2.2.2, XI] (ta (ta (ta (tm j0 j2) (tm tz0 j1)) (tm j7 (tm tz0 j3))) (ta (ta (tm tz0 (ta (ta (tm tz0 j5) (tm tz0 j4)) (tm j7 (tm tz0 j6)))) (tm to1 (ta (tm tz0 j4) (tm j7 (ta (tm tz0 j6) (tm tz0 j5)))))) (tm j7 (tm tz0 (ta (ta (tm tz0 j6) (tm tz0 j5)) (tm tz0 j4)))))) (tm j0 j2)) (zq R2 [c, y.1.1, y.1.2.1, y.1.2.2, y.2.1, y.2.2.1, y.2.2.2, XI] (ta (ta (ta (tm j0 j3) (tm tz0 j2)) (tm tz0 j1)) (ta (ta (tm tz0 (ta (ta (tm tz0 j6) (tm tz0 j5)) (tm tz0 j4))) (tm to1 (ta (ta (tm tz0 j5) (tm tz0 j4)) (tm j7 (tm tz0 j6))))) (tm tz0 (ta (tm tz0 j4) (tm j7 (ta (tm tz0 j6) (tm tz0 j5))))))) (tm j0 j3)))) (Prod.ext (zq R2 [c, y.1.1, y.1.2.1, y.1.2.2, y.2.1, y.2.2.1, y.2.2.2, XI] (ta (ta (tm j0 j4) (tm j7 (ta (tm tz0 j6) (tm tz0 j5)))) (ta (tm tz0 j1) (tm j7 (ta (tm tz0 j3) (tm tz0 j2))))) (tm j0 j4)) (Prod.ext (zq R2 [c, y.1.1, y.1.2.1, y.1.2.2, y.2.1, y.2.2.1, y.2.2.2, XI] (ta (ta (ta (tm j0 j5) (tm tz0 j4)) (tm j7 (tm tz0 j6))) (ta (ta (tm tz0 j2) (tm tz0 j1)) (tm j7 (tm tz0 j3)))) (tm j0 j5)) (zq R2 [c, y.1.1, y.1.2.1, y.1.2.2, y.2.1, y.2.2.1, y.2.2.2, XI] (ta (ta (ta (tm j0 j6) (tm tz0 j5)) (tm tz0 j4)) (ta (ta (tm tz0 j3) (tm tz0 j2)) (tm tz0 j1))) (tm j0 j6))))
theorem sc_re (x : W2) (c : Zp) : sc2 x c = ml2 x (re2 c) := w2_ext (by show x.1 * c = x.1 * c - x.2 * 0; rw [z_m0, z_s0']) (by show x.2 * c = x.1 * 0 + x.2 * c; rw [z_m0, z_0a])
def LNE (L : W2 × W2 × W2) (p : Zp × Zp) : W12 := ((L.1, ng2 (sc2 L.2.1 p.1), ze2), (ze2, sc2 L.2.2 p.2, ze2))
theorem LNE_ln {L : W2 × W2 × W2} {a : W2 × W2} {s : W2} (h : L.1 = ml2 L.2.2 (E2w.sub (ml2 s a.1) a.2) ∧ L.2.1 = ml2 L.2.2 s) (p : Zp × Zp) : LNE L p = K12.mul (em L.2.2) (LN a s p) := by
 rw [em_at, LNE, LN]
 refine Prod.ext (Prod.ext ?_ (Prod.ext ?_ ?_)) (Prod.ext ?_ (Prod.ext ?_ ?_))
 ·show L.1 = ml2 L.2.2 (sb2 (ml2 s a.1) a.2)
  rw [sb2_eq]; exact h.1
 ·show ng2 (sc2 L.2.1 p.1) = ml2 L.2.2 (ng2 (ml2 s (re2 p.1)))
  rw [sc_re, h.2]
  exact zq R2 [L.2.2, s, re2 p.1] (tn (tm (tm j0 j1) j2)) (tm j0 (tn (tm j1 j2)))
 ·exact (R2.mul_zero _).symm
 ·exact (R2.mul_zero _).symm
 ·show sc2 L.2.2 p.2 = ml2 L.2.2 (re2 p.2)
  exact sc_re _ _
 ·exact (R2.mul_zero _).symm
end
section
abbrev WK := (Zp × Zp) × (W2 × W2) × W6
def LNR (L : W2 × W2 × W2) (p : Zp × Zp) : W6 := (L.1, ng2 (sc2 L.2.1 p.1), sc2 L.2.2 p.2)
def lel (t : W6) : W12 := ((t.1, t.2.1, ze2), (ze2, t.2.2, ze2))
def wDb (w : WK) : WK := (w.1, w.2.1, E2w.wdJ w.2.2)
def rDb (w : WK) : W6 := LNR (E2w.wdL w.2.2) w.1
def wJn (w : WK) : WK := if w.2.2.2.2 = ze2 then (w.1, w.2.1, (w.2.1.1, w.2.1.2, on2)) else (w.1, w.2.1, E2w.wjJ w.2.2 w.2.1)
def rJn (w : WK) : W6 := if w.2.2.2.2 = ze2 then (on2, ze2, ze2) else LNR (E2w.wjL w.2.2 w.2.1) w.1
def fAll (g : WK → W6) : List WK → W12 → W12
 | [], f => f
 | w :: l, f => fAll g l (K12.mul (lel (g w)) f)
def rdF (d : Bool) (S : List WK × W12) : List WK × W12 :=
 bif d then ((S.1.map wDb).map wJn, fAll rJn (S.1.map wDb) (fAll rDb S.1 (K12.mul S.2 S.2))) else (S.1.map wDb, fAll rDb S.1 (K12.mul S.2 S.2))
def rdK (l : List Bool) (S : List WK × W12) : List WK × W12 := l.foldl (fun S d => rdF d S) S
theorem rdK_app (l : List Bool) (d : Bool) (S : List WK × W12) : rdK (l ++ [d]) S = rdF d (rdK l S) := by rw [rdK, List.foldl_append]; rfl
/-! ### Products -/
def pr12 : List W12 → W12
 | [] => K12.one
 | x :: l => K12.mul x (pr12 l)
theorem fAll_pr (g : WK → W6) : ∀ (l : List WK) (f : W12), fAll g l f = K12.mul (pr12 (l.map fun w => lel (g w))) f
 | [], f => (K12.one_mul f).symm
 | w :: l, f => by
  rw [fAll, fAll_pr g l, List.map_cons, pr12, K12.mul_comm (lel (g w)), ← K12.mul_assoc, K12.mul_comm (K12.mul _ f), ← K12.mul_assoc]
theorem pr12_mul (g h : WK → W12) : ∀ l : List WK, pr12 (l.map fun w => K12.mul (g w) (h w)) = K12.mul (pr12 (l.map g)) (pr12 (l.map h))
 | [] => (K12.one_mul _).symm
 | w :: l => by rw [List.map_cons, pr12, pr12_mul g h l, K12.mul_four]; rfl
def Up6 (a b : W12) : Prop := ∃ c : W6, c ≠ K6.zero ∧ a = K12.mul (r6 c) b
theorem Up6.refl (a : W12) : Up6 a a := ⟨K6.one, by decide +kernel, by rw [r6_one, K12.one_mul]⟩
theorem ne6 {a b : W6} (ha : a ≠ K6.zero) (hb : b ≠ K6.zero) : K6.mul a b ≠ K6.zero := fun e => (fd6.two e).elim ha hb
theorem Up6.mul {a b c d : W12} (h : Up6 a b) (k : Up6 c d) : Up6 (K12.mul a c) (K12.mul b d) := by
 obtain ⟨x, hx, rfl⟩ := h
 obtain ⟨y, hy, rfl⟩ := k
 exact ⟨K6.mul x y, ne6 hx hy, by rw [K12.mul_four, r6_mul]⟩
theorem Up6.pr {g h : WK → W12} : ∀ {l : List WK}, (∀ w ∈ l, Up6 (g w) (h w)) → Up6 (pr12 (l.map g)) (pr12 (l.map h))
 | [], _ => Up6.refl _
 | w :: _, k => (k w List.mem_cons_self).mul (Up6.pr fun v hv => k v (List.mem_cons_of_mem _ hv))
theorem Up6.fn {e : Nat} (h6 : e % (PP ^ 6 - 1) = 0) {a b : W12} (h : Up6 a b) : FN e a = FN e b := by
 obtain ⟨x, hx, rfl⟩ := h
 rw [FN_mul, FN_r6 h6 hx, K12.one_mul]
theorem Up6.ne {a b : W12} (h : Up6 a b) (hb : b ≠ K12.zero) : a ≠ K12.zero := by
 obtain ⟨x, hx, rfl⟩ := h
 exact fun e => (fd12.two e).elim (fun e => hx (r6_inj e)) hb
/-! ### One round -/
theorem hrO {d : Nat} (h0 : 0 < d) (h1 : d < ORD) : ∃ e, (d * e) % ORD = 1 := inv_pr pr_ord h0 h1
theorem tm_ne {q : W2 × W2} (hq : E2w.on q) (qr : E2w.times (some q) ORD = none) {m : Nat} (h0 : 0 < m) (h1 : m < ORD) : E2w.times (some q) m ≠ none := fun e => by
 have k := E2w.times_inj (Q := some q) hq (fun d => hrO) qr (fun e => by cases e) (m := m) (n := 0) h1 (by omega) e
 omega
structure WOk (w : WK) (m : Nat) : Prop where
 on : E2w.on w.2.1
 qr : E2w.times (some w.2.1) ORD = none
 jr : E2w.jr w.2.2 (E2w.times (some w.2.1) m)
theorem some_of {α : Type} {P : Option α} (h : P ≠ none) : ∃ a, P = some a := by
 cases P with
 | none => exact absurd rfl h
 | some a => exact ⟨a, rfl⟩
theorem sl_t3 {a : W2 × W2} {s : W2} (h : E2w.Sl a a s) : E2w.R.mul s (E2w.R.add a.2 a.2) = E2w.t3 a.1 := h.2
theorem lel_LNE (L : W2 × W2 × W2) (p : Zp × Zp) : lel (LNR L p) = LNE L p := rfl
theorem WOk.dbl {w : WK} {m : Nat} (h : WOk w m) (h0 : 0 < m) (h1 : 2 * m < ORD) : WOk (wDb w) (2 * m) ∧ Up6 (lel (rDb w)) (LG (E2w.times (some w.2.1) m) (E2w.times (some w.2.1) m) w.1) := by
 have hon : E2w.onP (E2w.times (some w.2.1) m) := E2w.times_on (P := some w.2.1) h.on m
 refine ⟨⟨h.on, h.qr, ?_⟩, ?_⟩
 ·show E2w.jr (E2w.wdJ w.2.2) (E2w.times (some w.2.1) (2 * m))
  rw [← E2w.dbl_times (P := some w.2.1) h.on]
  exact E2w.wdJ_jr hon h.jr
 ·obtain ⟨a, ha⟩ := some_of (tm_ne h.on h.qr h0 (by omega))
  have hj := h.jr
  rw [ha] at hj hon ⊢
  have ho : ¬ E2w.opp a a := fun o => tm_ne h.on h.qr (m := 2 * m) (by omega) h1 (by rw [← E2w.dbl_times (P := some w.2.1) h.on, ha]; exact E2w.ad_opp o)
  have hy : a.2 ≠ ze2 := fun e => ho ⟨rfl, by rw [e]; exact R2.add_zero _⟩
  have hs := E2w.sl_slope hon hon ho
  rw [rDb, lel_LNE, LNE_ln (E2w.wdL_ln hj (sl_t3 hs)), LG_s hon hon ho hs]
  exact ⟨_, fun e => E2w.wdL_ne hj hy (congrArg Prod.fst e), rfl⟩
theorem WOk.jn {w : WK} {m : Nat} (h : WOk w m) (h0 : 1 < m) (h1 : m + 1 < ORD) : WOk (wJn w) (m + 1) ∧ Up6 (lel (rJn w)) (LG (E2w.times (some w.2.1) m) (some w.2.1) w.1) := by
 have hon : E2w.onP (E2w.times (some w.2.1) m) := E2w.times_on (P := some w.2.1) h.on m
 obtain ⟨a, ha⟩ := some_of (tm_ne h.on h.qr (m := m) (by omega) (by omega))
 have hj := h.jr
 rw [ha] at hj hon
 have hz : ¬ w.2.2.2.2 = ze2 := hj.1
 have ho : ¬ E2w.opp a w.2.1 := fun o => tm_ne h.on h.qr (m := m + 1) (by omega) h1 (by
  show E2w.ad (E2w.times (some w.2.1) m) (some w.2.1) = none
  rw [ha]; exact E2w.ad_opp o)
 have hx : a.1 ≠ w.2.1.1 := fun hx => by
  by_cases hy : a.2 = w.2.1.2
  ·have e : E2w.times (some w.2.1) m = E2w.times (some w.2.1) 1 := by rw [ha, tm1]; exact congrArg some (Prod.ext hx hy)
   have := E2w.times_inj (Q := some w.2.1) h.on (fun d => hrO) h.qr (fun e => by cases e) (m := m) (n := 1) (by omega) (by omega) e
   omega
  ·obtain ⟨s, hs⟩ := E2w.sl_is hon h.on ho
   have e := hs.1
   rw [hx, E2w.sub_self] at e
   exact hy (E2w.sub0 (e.symm.trans (show E2w.R.mul s E2w.R.zero = E2w.R.zero from E2w.R.mul_zero s)))
 have hs := E2w.sl_slope hon h.on ho
 refine ⟨?_, ?_⟩
 ·rw [show wJn w = (w.1, w.2.1, E2w.wjJ w.2.2 w.2.1) from if_neg hz]
  refine ⟨h.on, h.qr, ?_⟩
  show E2w.jr (E2w.wjJ w.2.2 w.2.1) (E2w.ad (E2w.times (some w.2.1) m) (some w.2.1))
  rw [ha]
  exact E2w.wjJ_jr on2_ne hon h.on hj hx
 ·rw [show rJn w = LNR (E2w.wjL w.2.2 w.2.1) w.1 from if_neg hz, lel_LNE, LNE_ln (E2w.wjL_ln hj hs.1), ha, LG_s hon h.on ho hs]
  exact ⟨_, fun e => E2w.wjL_ne hj hx (congrArg Prod.fst e), rfl⟩
/-! ### All rounds -/
def MV (l : List Bool) (w : WK) : W12 × Pt W2 := MLW w.1 (some w.2.1) l (K12.one, some w.2.1)
theorem MLW_app (q : Zp × Zp) (Q : Pt W2) (d : Bool) : ∀ (l : List Bool) (st : W12 × Pt W2), MLW q Q (l ++ [d]) st = MSW q Q d (MLW q Q l st)
 | [], _ => rfl
 | e :: l, st => MLW_app q Q d l (MSW q Q e st)
theorem bitsM_app (d : Bool) : ∀ (l : List Bool) (n : Nat), bitsM (l ++ [d]) n = 2 * bitsM l n + d.toNat
 | [], n => by cases d <;> rfl
 | e :: l, n => by rw [List.cons_append, bitsM_c, bitsM_c]; exact bitsM_app d l _
theorem MV_same {w v : WK} (h1 : v.1 = w.1) (h2 : v.2.1 = w.2.1) (l : List Bool) : MV l v = MV l w := by rw [MV, MV, h1, h2]
theorem wJn_1 (w : WK) : (wJn w).1 = w.1 := by unfold wJn; split <;> rfl
theorem wJn_2 (w : WK) : (wJn w).2.1 = w.2.1 := by unfold wJn; split <;> rfl
structure RdOk (l : List Bool) (S : List WK × W12) : Prop where
 w : ∀ w ∈ S.1, WOk w (bitsM l 1) ∧ (MV l w).2 = E2w.times (some w.2.1) (bitsM l 1)
 f : Up6 S.2 (pr12 (S.1.map fun w => (MV l w).1))
theorem RdOk.step {l : List Bool} {S : List WK × W12} (h : RdOk l S) (d : Bool) (h0 : 0 < bitsM l 1) (h1 : 2 * bitsM l 1 + 1 < ORD) : RdOk (l ++ [d]) (rdF d S) := by
 have k1 : ∀ w ∈ S.1, WOk (wDb w) (2 * bitsM l 1) ∧ Up6 (lel (rDb w)) (LG (MV l w).2 (MV l w).2 w.1) := fun w hw => by
  have e := (h.w w hw).1.dbl h0 (by omega)
  rw [(h.w w hw).2]; exact e
 have m1 : ∀ w ∈ S.1, (MV (l ++ [false]) w) = (K12.mul (K12.mul (MV l w).1 (MV l w).1) (LG (MV l w).2 (MV l w).2 w.1), E2w.ad (MV l w).2 (MV l w).2) := fun w _ => MLW_app _ _ _ _ _
 have f1 : Up6 (fAll rDb S.1 (K12.mul S.2 S.2)) (pr12 (S.1.map fun w => K12.mul (K12.mul (MV l w).1 (MV l w).1) (LG (MV l w).2 (MV l w).2 w.1))) := by
  rw [fAll_pr, K12.mul_comm, pr12_mul (fun w => K12.mul (MV l w).1 (MV l w).1), pr12_mul]
  exact (h.f.mul h.f).mul (Up6.pr fun w hw => (k1 w hw).2)
 cases d with
 | false =>
  refine ⟨fun w hw => ?_, ?_⟩
  ·obtain ⟨v, hv, rfl⟩ := List.mem_map.1 hw
   rw [bitsM_app]
   refine ⟨(k1 v hv).1, ?_⟩
   rw [MV_same (v := wDb v) (w := v) rfl rfl, m1 v hv]
   show E2w.ad (MV l v).2 (MV l v).2 = _
   rw [(h.w v hv).2]
   exact E2w.dbl_times (P := some v.2.1) (h.w v hv).1.on _
  ·have e : (S.1.map wDb).map (fun w => (MV (l ++ [false]) w).1) = S.1.map fun w => K12.mul (K12.mul (MV l w).1 (MV l w).1) (LG (MV l w).2 (MV l w).2 w.1) := by
    rw [List.map_map]
    exact List.map_congr_left fun w hw => show (MV (l ++ [false]) (wDb w)).1 = _ from by rw [MV_same (v := wDb w) (w := w) rfl rfl, m1 w hw]
   show Up6 (fAll rDb S.1 (K12.mul S.2 S.2)) (pr12 ((S.1.map wDb).map (fun w => (MV (l ++ [false]) w).1)))
   rw [e]; exact f1
 | true =>
  have ed : ∀ w ∈ S.1, E2w.ad (MV l w).2 (MV l w).2 = E2w.times (some w.2.1) (2 * bitsM l 1) := fun w hw => by
   rw [(h.w w hw).2]
   exact E2w.dbl_times (P := some w.2.1) (h.w w hw).1.on _
  have m2 : ∀ w ∈ S.1, (MV (l ++ [true]) w) = (K12.mul (K12.mul (K12.mul (MV l w).1 (MV l w).1) (LG (MV l w).2 (MV l w).2 w.1)) (LG (E2w.times (some w.2.1) (2 * bitsM l 1)) (some w.2.1) w.1), E2w.ad (E2w.times (some w.2.1) (2 * bitsM l 1)) (some w.2.1)) := fun w hw => by
   rw [← ed w hw]; exact MLW_app _ _ _ _ _
  have k2 : ∀ w ∈ S.1, WOk (wJn (wDb w)) (2 * bitsM l 1 + 1) ∧ Up6 (lel (rJn (wDb w))) (LG (E2w.times (some w.2.1) (2 * bitsM l 1)) (some w.2.1) w.1) := fun w hw => (k1 w hw).1.jn (by omega) (by omega)
  refine ⟨fun w hw => ?_, ?_⟩
  ·obtain ⟨u, hu, rfl⟩ := List.mem_map.1 (show w ∈ (S.1.map wDb).map wJn from hw)
   obtain ⟨v, hv, rfl⟩ := List.mem_map.1 hu
   rw [bitsM_app]
   refine ⟨(k2 v hv).1, ?_⟩
   rw [MV_same (v := wJn (wDb v)) (w := v) (wJn_1 _) (wJn_2 _), m2 v hv, show (wJn (wDb v)).2.1 = v.2.1 from wJn_2 _]
   rfl
  ·have e : ((S.1.map wDb).map wJn).map (fun w => (MV (l ++ [true]) w).1) = S.1.map fun w => K12.mul (K12.mul (K12.mul (MV l w).1 (MV l w).1) (LG (MV l w).2 (MV l w).2 w.1)) (LG (E2w.times (some w.2.1) (2 * bitsM l 1)) (some w.2.1) w.1) := by
    rw [List.map_map, List.map_map]
    exact List.map_congr_left fun w hw => show (MV (l ++ [true]) (wJn (wDb w))).1 = _ from by rw [MV_same (v := wJn (wDb w)) (w := w) (wJn_1 _) (wJn_2 _), m2 w hw]
   show Up6 (fAll rJn (S.1.map wDb) (fAll rDb S.1 (K12.mul S.2 S.2))) (pr12 (((S.1.map wDb).map wJn).map (fun w => (MV (l ++ [true]) w).1)))
   rw [e, fAll_pr, K12.mul_comm, pr12_mul (fun w => K12.mul (K12.mul (MV l w).1 (MV l w).1) (LG (MV l w).2 (MV l w).2 w.1)), List.map_map]
   exact f1.mul (Up6.pr fun w hw => (k2 w hw).2)
theorem bitsM_lt : ∀ (l : List Bool) (n : Nat), bitsM l n < (n + 1) * 2 ^ l.length
 | [], n => by show n < (n + 1) * 1; omega
 | d :: l, n => by
  rw [bitsM_c, List.length_cons, Nat.pow_succ]
  refine Nat.lt_of_lt_of_le (bitsM_lt l _) ?_
  rw [Nat.mul_comm (2 ^ l.length) 2, ← Nat.mul_assoc]
  exact Nat.mul_le_mul_right _ (by cases d <;> simp [Bool.toNat] <;> omega)
theorem bitsM_pos : ∀ (l : List Bool) (n : Nat), 0 < n → 0 < bitsM l n
 | [], n, h => h
 | d :: l, n, h => by rw [bitsM_c]; exact bitsM_pos l _ (by omega)
theorem RdOk.all {S : List WK × W12} (h : RdOk [] S) : ∀ (n : Nat) (l : List Bool), l.length = n → n ≤ 63 → RdOk l (rdK l S)
 | 0, l, hl, _ => by obtain rfl := List.length_eq_zero_iff.1 hl; exact h
 | n + 1, l, hl, hn => by
  obtain ⟨r, d, rfl⟩ : ∃ r d, l = r ++ [d] := ⟨l.dropLast, l.getLast (fun e => by rw [e] at hl; cases hl), (List.dropLast_concat_getLast _).symm⟩
  have hr : r.length = n := by rw [List.length_append] at hl; simpa using hl
  rw [rdK_app]
  refine (RdOk.all h n r hr (by omega)).step d (bitsM_pos r 1 Nat.one_pos) ?_
  have h1 := bitsM_lt r 1
  have h2 : 2 ^ r.length ≤ 2 ^ 62 := Nat.pow_le_pow_right (by omega) (by omega)
  have h3 : 4 * 2 ^ 62 + 1 < ORD := by decide +kernel
  omega
end
end Go.Proofs.YthkmeodnlidpfaaGreatDoor
