/-
 Curves y y = x x x + b: lines, at other points. Nothing here names a program.
 Curves y y = x x x + b: lines under a map of products that upright lines vanish by. Nothing here names a program.
 The powers of p in the field of p^6 elements. Nothing here names a program.
 Powers of p in the field of p^6 elements by a third root of 1. Nothing here names a program.
 The powers of p in the field of p^12 elements, its conjugates. Nothing here names a program.
 Powers of p in the field of p^12 elements, part by part, and by those of p^6. Nothing here names a program.
 The long power of the pairing; that it takes all of p^6 elements to 1, and has the order r. Nothing here names a program.
 The pairing is linear on both sides. Nothing here names a program.
 The loop over p^12 elements by numbers of the second curve's points: lines as the document writes them. Nothing here names a program.
 The generators' pairing: the loop by slopes that are given. Nothing here names a program.
 The pairing of so many times the generators; its order; the document's conjugate. Nothing here names a program.
 The program's walk through the loop: doubled and added without inverses, its lines the document's up to elements of p^2. Nothing here names a program.
-/
import Derived.Test.YthkmeodnlidpfaaDoorX4
import Derived.Test.YthkmeodnlidpfaaDoorX5
set_option maxRecDepth 100000
set_option maxHeartbeats 1000000
namespace Go.Proofs.YthkmeodnlidpfaaDoor
section
section
variable {α : Type} (C : Ec α)
def Ec.ln (a : α × α) (s : α) (p : α × α) : α := C.sub (C.sub p.2 a.2) (C.R.mul s (C.sub p.1 a.1))
theorem Ec.ln_same {a b p : α × α} {s : α} (h : C.Sl a b s) : C.ln a s p = C.ln b s p :=
 Rg.lc (R := C.R) (zq C.R [a.1, a.2, b.1, b.2, s, p.1, p.2, C.b] (ta (ta (ta j6 (tn j1)) (tn (tm j4 (ta j5 (tn j0))))) (tm to1 (ta j1 (tn j3)))) (ta (ta (ta j6 (tn j3)) (tn (tm j4 (ta j5 (tn j2))))) (tm to1 (tm j4 (ta j0 (tn j2)))))) (lcm h.1)
theorem Ec.ln_ng (a p : α × α) (s : α) : C.ln (C.ng a) (C.R.neg s) p = C.R.neg (C.ln a s (C.ng p)) :=
 zq C.R [a.1, a.2, s, p.1, p.2] (ta (ta j4 (tn (tn j1))) (tn (tm (tn j2) (ta j3 (tn j0))))) (tn (ta (ta (tn j4) (tn j1)) (tn (tm j2 (ta j3 (tn j0))))))
theorem Ec.ln_th {a b p : α × α} {s : α} (h : C.Sl a b s) : C.ln (C.ng (C.th a b s)) s p = C.ln a s p := (C.ln_same (C.sl_th h)).symm.trans (C.ln_same h).symm
theorem Ec.ln_norm {a b p : α × α} {s : α} (ha : C.on a) (hp : C.on p) (h : C.Sl a b s) : C.R.mul (C.ln a s p) (C.ln a s (C.ng p)) = C.R.neg (C.R.mul (C.sub p.1 a.1) (C.R.mul (C.sub p.1 b.1) (C.sub p.1 (C.x3 a b s)))) :=
 Rg.lc (R := C.R) (zq C.R [a.1, a.2, b.1, b.2, s, p.1, p.2, C.b] (ta (tm (ta (ta j6 (tn j1)) (tn (tm j4 (ta j5 (tn j0))))) (ta (ta (tn j6) (tn j1)) (tn (tm j4 (ta j5 (tn j0)))))) (ta (ta (ta (tm (tn to1) (ta (tm j5 (tm j5 j5)) j7)) (tm to1 (ta (tm j0 (tm j0 j0)) j7))) (tm (tm (ta j5 (tn j0)) (tn j4)) (ta j1 (tn j3)))) (tm (ta j5 (tn j0)) (ta (ta (tm j0 j0) (tm j0 j2)) (tm j2 j2))))) (ta (tn (tm (ta j5 (tn j0)) (tm (ta j5 (tn j2)) (ta j5 (tn (ta (ta (tm j4 j4) (tn j0)) (tn j2))))))) (ta (ta (ta (tm (tn to1) (tm j6 j6)) (tm to1 (tm j1 j1))) (tm (tm (ta j5 (tn j0)) (tn j4)) (tm j4 (ta j0 (tn j2))))) (tm (ta j5 (tn j0)) (tm j4 (ta j1 j3)))))) (lca (lca (lca (lcm hp) (lcm ha)) (lcm h.1)) (lcm h.2))
def Ec.nn (d : α × α) (s t : α) (p : α × α) : α := C.R.add (C.sub (C.R.mul p.1 p.1) (C.R.mul (C.R.add s t) p.2)) (C.R.add (C.R.mul (C.R.add d.1 (C.R.mul s t)) p.1) (C.R.add (C.R.mul d.1 (C.sub d.1 (C.R.mul s t))) (C.R.mul (C.sub s t) d.2)))
theorem Ec.ln_two {d p : α × α} {s t : α} (hd : C.on d) (hp : C.on p) : C.R.mul (C.ln (C.ng d) s p) (C.ln d t p) = C.R.mul (C.sub p.1 d.1) (C.nn d s t p) :=
 Rg.lc (R := C.R) (zq C.R [d.1, d.2, s, t, p.1, p.2, C.b] (ta (tm (ta (ta j5 (tn (tn j1))) (tn (tm j2 (ta j4 (tn j0))))) (ta (ta j5 (tn j1)) (tn (tm j3 (ta j4 (tn j0)))))) (ta (tm to1 (ta (tm j4 (tm j4 j4)) j6)) (tm (tn to1) (ta (tm j0 (tm j0 j0)) j6)))) (ta (tm (ta j4 (tn j0)) (ta (ta (tm j4 j4) (tn (tm (ta j2 j3) j5))) (ta (tm (ta j0 (tm j2 j3)) j4) (ta (tm j0 (ta j0 (tn (tm j2 j3)))) (tm (ta j2 (tn j3)) j1))))) (ta (tm to1 (tm j5 j5)) (tm (tn to1) (tm j1 j1))))) (lca (lcm hp) (lcm hd))
theorem Ec.nn_at {d q : α × α} {s t : α} (h : C.Sl q (C.ng d) s) : C.nn d s t q = C.R.zero :=
 Rg.lc (R := C.R) (zq C.R [d.1, d.2, s, t, q.1, q.2, C.b] (ta (ta (ta (tm j4 j4) (tn (tm (ta j2 j3) j5))) (ta (tm (ta j0 (tm j2 j3)) j4) (ta (tm j0 (ta j0 (tn (tm j2 j3)))) (tm (ta j2 (tn j3)) j1)))) (ta (tm (tn to1) (ta (ta (tm j4 j4) (tm j4 j0)) (tm j0 j0))) (tm j3 (ta j5 (tn (tn j1)))))) (ta tz0 (ta (tm (tn to1) (tm j2 (ta j5 (tn j1)))) (tm j3 (tm j2 (ta j4 (tn j0))))))) (lca (lcm h.2) (lcm h.1))
theorem Ec.nn_eq {d e p q : α × α} {s t s2 t2 : α} (h1 : C.R.add s t = C.R.add s2 t2) (h2 : C.R.add d.1 (C.R.mul s t) = C.R.add e.1 (C.R.mul s2 t2)) (h3 : C.nn d s t q = C.R.zero) (h4 : C.nn e s2 t2 q = C.R.zero) : C.nn d s t p = C.nn e s2 t2 p :=
 Rg.lc (R := C.R) (zq C.R [d.1, d.2, e.1, e.2, s, t, s2, t2, p.1, p.2, q.1, q.2] (ta (ta (ta (tm j8 j8) (tn (tm (ta j4 j5) j9))) (ta (tm (ta j0 (tm j4 j5)) j8) (ta (tm j0 (ta j0 (tn (tm j4 j5)))) (tm (ta j4 (tn j5)) j1)))) (ta (ta (ta (tm to1 tz0) (tm (tn to1) tz0)) (tm (ta j11 (tn j9)) (ta j6 j7))) (tm (ta j8 (tn j10)) (ta j2 (tm j6 j7))))) (ta (ta (ta (tm j8 j8) (tn (tm (ta j6 j7) j9))) (ta (tm (ta j2 (tm j6 j7)) j8) (ta (tm j2 (ta j2 (tn (tm j6 j7)))) (tm (ta j6 (tn j7)) j3)))) (ta (ta (ta (tm to1 (ta (ta (tm j10 j10) (tn (tm (ta j4 j5) j11))) (ta (tm (ta j0 (tm j4 j5)) j10) (ta (tm j0 (ta j0 (tn (tm j4 j5)))) (tm (ta j4 (tn j5)) j1))))) (tm (tn to1) (ta (ta (tm j10 j10) (tn (tm (ta j6 j7) j11))) (ta (tm (ta j2 (tm j6 j7)) j10) (ta (tm j2 (ta j2 (tn (tm j6 j7)))) (tm (ta j6 (tn j7)) j3)))))) (tm (ta j11 (tn j9)) (ta j4 j5))) (tm (ta j8 (tn j10)) (ta j0 (tm j4 j5)))))) (lca (lca (lca (lcm h3) (lcm h4)) (lcm h1)) (lcm h2))
theorem Ec.nn_ways {A B D p : α × α} {a c g t : α} (ha : C.Sl A B a) (hc : C.Sl D B c) (hg : C.Sl (C.th A B a) D g) (ht : C.Sl (C.th D B c) A t) (ho : ¬ C.opp (C.th A B a) D) (ho' : ¬ C.opp (C.th D B c) A) (hn : a ≠ c) : C.nn (C.th A B a) a g p = C.nn (C.th D B c) c t p := by
 have h1 := C.assoc_g ha hc hg ho
 have h2 := C.assoc_g hc ha ht ho'
 have et := C.assoc_t hn h1 h2
 subst et
 refine C.nn_eq (q := B) ?_ ?_ (C.nn_at (C.sl_th ha)) (C.nn_at (C.sl_th hc))
 ·exact zq C.R [A.1, A.2, B.1, B.2, D.1, D.2, a, c, g] (ta j6 j8) (ta j7 (ta (ta j8 j6) (tn j7)))
 ·exact Rg.lc (R := C.R) (zq C.R [A.1, A.2, B.1, B.2, D.1, D.2, a, c, g] (ta (ta (ta (ta (tm j6 j6) (tn j0)) (tn j2)) (tm j6 j8)) (tm to1 tz0)) (ta (ta (ta (ta (tm j7 j7) (tn j4)) (tn j2)) (tm j7 (ta (ta j8 j6) (tn j7)))) (tm to1 (ta (tm (ta j6 (tn j7)) j8) (tn (ta (ta (ta (tm j6 j7) (tn j2)) (tn j4)) (tn (ta (ta (tm j6 j6) (tn j0)) (tn j2))))))))) (lcm h1)
end
end
section
section
variable {α : Type}
theorem Rg.turn (R : Rg α) {x y z u v w z' w' : α} (h : R.mul (R.mul x y) z = R.mul (R.mul u v) w) (hz : R.mul z' z = R.one) (hw : R.mul w' w = R.one) : R.mul (R.mul x y) w' = R.mul (R.mul u v) z' :=
 Rg.lc (R := R) (zq R [x, y, z, u, v, w, z', w'] (ta (tm (tm j0 j1) j7) (ta (ta (tm (tm j7 j6) (tm (tm j3 j4) j5)) (tm (tn (tm (tm j0 j1) j7)) to1)) (tm (tm (tm j3 j4) j6) to1))) (ta (tm (tm j3 j4) j6) (ta (ta (tm (tm j7 j6) (tm (tm j0 j1) j2)) (tm (tn (tm (tm j0 j1) j7)) (tm j6 j2))) (tm (tm (tm j3 j4) j6) (tm j7 j5))))) (lca (lca (lcm h) (lcm hz)) (lcm hw))
theorem Rg.four_w (R : Rg α) {p q r s t u v w x : α} (h1 : R.mul q r = R.mul s t) (h2 : R.mul v r = R.mul w x) (h3 : R.mul p q = R.mul u v) : R.mul (R.mul p s) t = R.mul (R.mul u w) x :=
 Rg.lc (R := R) (zq R [p, q, r, s, t, u, v, w, x] (ta (tm (tm j0 j3) j4) (ta (ta (tm (tn j0) (tm j3 j4)) (tm j5 (tm j7 j8))) (tm j2 (tm j5 j6)))) (ta (tm (tm j5 j7) j8) (ta (ta (tm (tn j0) (tm j1 j2)) (tm j5 (tm j6 j2))) (tm j2 (tm j0 j1))))) (lca (lca (lcm h1) (lcm h2)) (lcm h3))
end
section
variable {α : Type} [DecidableEq α] (C : Ec α)
def Ec.gl : Pt α → Pt α → Pt α → α
 | some a, some b, some p => if a.1 = b.1 ∧ C.R.add a.2 b.2 = C.R.zero then C.R.one else C.ln a (C.slope a b) p
 | _, _, _ => C.R.one
theorem Ec.gl_l (B P : Pt α) : C.gl none B P = C.R.one := rfl
theorem Ec.gl_m (A P : Pt α) : C.gl A none P = C.R.one := by cases A <;> rfl
theorem Ec.gl_r (A B : Pt α) : C.gl A B none = C.R.one := by
 cases A with
 | none => rfl
 | some a => cases B <;> rfl
theorem Ec.gl_opp {a b : α × α} (h : C.opp a b) (P : Pt α) : C.gl (some a) (some b) P = C.R.one := by
 cases P with
 | none => rfl
 | some p => exact if_pos h
theorem Ec.gl_sl {a b : α × α} {s : α} (ha : C.on a) (hb : C.on b) (ho : ¬ C.opp a b) (hs : C.Sl a b s) (p : α × α) : C.gl (some a) (some b) (some p) = C.ln a s p := by
 rw [← C.sl_one (C.sl_slope ha hb ho) hs ho]
 exact if_neg ho
theorem Ec.gl_comm {A B : Pt α} (hA : C.onP A) (hB : C.onP B) (P : Pt α) : C.gl A B P = C.gl B A P := by
 cases A with
 | none => rw [C.gl_m]; rfl
 | some a =>
  cases B with
  | none => rfl
  | some b =>
   cases P with
   | none => rfl
   | some p =>
    by_cases ho : C.opp a b
    ·rw [C.gl_opp ho, C.gl_opp (C.opp_comm ho)]
    ·have hs := C.sl_slope hA hB ho
     rw [C.gl_sl hA hB ho hs, C.gl_sl hB hA (fun h => ho (C.opp_comm h)) (C.sl_comm hs), C.ln_same hs]
structure Ec.Fz (F : α → α) (SA SP : Pt α → Prop) : Prop where
 mul : ∀ a b, F (C.R.mul a b) = C.R.mul (F a) (F b)
 one : F C.R.one = C.R.one
 neg : ∀ a, F (C.R.neg a) = F a
 aon : ∀ {A}, SA A → C.onP A
 aad : ∀ {A B}, SA A → SA B → SA (C.ad A B)
 ane : ∀ {A}, SA A → SA (C.ne A)
 pon : ∀ {P}, SP P → C.onP P
 pad : ∀ {P Q}, SP P → SP Q → SP (C.ad P Q)
 pne : ∀ {P}, SP P → SP (C.ne P)
 van : ∀ {a p}, SA (some a) → SP (some p) → F (C.sub p.1 a.1) = C.R.one
variable {C} {F : α → α} {SA SP : Pt α → Prop}
theorem Ec.Fz.inv (Z : C.Fz F SA SP) {A B P : Pt α} (hA : SA A) (hB : SA B) (hP : SP P) : C.R.mul (F (C.gl A B P)) (F (C.gl A B (C.ne P))) = C.R.one := by
 cases A with
 | none => rw [C.gl_l, C.gl_l, Z.one, C.R.mul_one]
 | some a =>
  cases B with
  | none => rw [C.gl_m, C.gl_m, Z.one, C.R.mul_one]
  | some b =>
   cases P with
   | none => rw [show C.ne none = none from rfl, C.gl_r, Z.one, C.R.mul_one]
   | some p =>
    by_cases ho : C.opp a b
    ·rw [C.gl_opp ho, C.gl_opp ho, Z.one, C.R.mul_one]
    ·have hs := C.sl_slope (Z.aon hA) (Z.aon hB) ho
     have h3 := Z.aad hA hB
     rw [C.ad_sl (Z.aon hA) (Z.aon hB) ho hs] at h3
     rw [show C.ne (some p) = some (C.ng p) from rfl, C.gl_sl (Z.aon hA) (Z.aon hB) ho hs, C.gl_sl (Z.aon hA) (Z.aon hB) ho hs, ← Z.mul, C.ln_norm (Z.aon hA) (Z.pon hP) hs, Z.neg, Z.mul, Z.mul, Z.van hA hP, Z.van hB hP, show F (C.sub p.1 (C.x3 a b (C.slope a b))) = C.R.one from Z.van h3 hP, C.R.mul_one, C.R.mul_one]
theorem Ec.Fz.opp (Z : C.Fz F SA SP) {A B : Pt α} (hA : SA A) (hB : SA B) (P : Pt α) : F (C.gl (C.ne A) (C.ne B) P) = F (C.gl A B (C.ne P)) := by
 cases A with
 | none => rfl
 | some a =>
  cases B with
  | none => rfl
  | some b =>
   cases P with
   | none => rfl
   | some p =>
    have hiff : C.opp (C.ng a) (C.ng b) → C.opp a b := fun h => ⟨h.1, by
     have := h.2
     rw [show (C.ng a).2 = C.R.neg a.2 from rfl, show (C.ng b).2 = C.R.neg b.2 from rfl, ← C.R.neg_add] at this
     rw [← C.R.neg_neg (C.R.add a.2 b.2), this, C.R.neg_zero]⟩
    by_cases ho : C.opp a b
    ·have ho' : C.opp (C.ng a) (C.ng b) := ⟨ho.1, by
      rw [show (C.ng a).2 = C.R.neg a.2 from rfl, show (C.ng b).2 = C.R.neg b.2 from rfl, ← C.R.neg_add, ho.2, C.R.neg_zero]⟩
     rw [C.gl_opp ho]
     exact congrArg F (C.gl_opp ho' _)
    ·have hs := C.sl_slope (Z.aon hA) (Z.aon hB) ho
     show F (C.gl (some (C.ng a)) (some (C.ng b)) (some p)) = F (C.gl (some a) (some b) (some (C.ng p)))
     rw [C.gl_sl (C.ng_on (Z.aon hA)) (C.ng_on (Z.aon hB)) (fun h => ho (hiff h)) (C.sl_ng hs), C.gl_sl (Z.aon hA) (Z.aon hB) ho hs, C.ln_ng, Z.neg]
theorem Ec.Fz.third (Z : C.Fz F SA SP) {A B : Pt α} (hA : SA A) (hB : SA B) (P : Pt α) : C.gl A (C.ne (C.ad A B)) P = C.gl A B P := by
 cases A with
 | none => rfl
 | some a =>
  cases B with
  | none => rw [C.ad_nr, C.gl_m]; exact C.gl_opp (C.opp_ng a) P
  | some b =>
   by_cases ho : C.opp a b
   ·rw [C.ad_opp ho, C.gl_opp ho]; exact C.gl_m _ _
   ·cases P with
    | none => rw [C.gl_r, C.gl_r]
    | some p =>
     have hs := C.sl_slope (Z.aon hA) (Z.aon hB) ho
     have h3 := Z.aad hA hB
     have u := C.undo (Z.aon hA) (Z.aon hB)
     have k := C.ne_ad (C.ne_on (Z.aon hA)) (Z.aon h3)
     rw [u, C.ne_ne] at k
     rw [C.ad_sl (Z.aon hA) (Z.aon hB) ho hs] at h3 k ⊢
     have s3 : C.Sl a (C.ng (C.th a b (C.slope a b))) (C.slope a b) := by
      have q := C.sl_th (C.sl_comm hs)
      rw [← C.th_comm hs] at q
      exact q
     have o3 : ¬ C.opp a (C.ng (C.th a b (C.slope a b))) := fun h => by
      have k2 : C.ne (some b) = C.ad (some a) (some (C.ng (C.th a b (C.slope a b)))) := k
      rw [C.ad_opp h] at k2
      cases k2
     exact (C.gl_sl (Z.aon hA) (C.ng_on (Z.aon h3)) o3 s3 p).trans (C.gl_sl (Z.aon hA) (Z.aon hB) ho hs p).symm
theorem Ec.Fz.co_opp (Z : C.Fz F SA SP) {A B D P : Pt α} (hB : SA B) (hD : SA D) (hP : SP P) (e : A = C.ne B) : C.R.mul (F (C.gl D B P)) (F (C.gl (C.ad D B) A P)) = C.R.one := by
 subst e
 have hnB := Z.ane hB
 have hnD := Z.ane hD
 have hDB := Z.aad hD hB
 have t := Z.third hnB hnD P
 have e2 : C.ne (C.ad (C.ne B) (C.ne D)) = C.ad D B := by rw [← C.ne_ad (Z.aon hB) (Z.aon hD), C.ne_ne, C.ad_comm (Z.aon hB) (Z.aon hD)]
 rw [e2] at t
 rw [C.gl_comm (Z.aon hDB) (Z.aon hnB), t, Z.opp hB hD, C.gl_comm (Z.aon hD) (Z.aon hB)]
 exact Z.inv hB hD hP
theorem Ec.Fz.co_fin (Z : C.Fz F SA SP) {a b d p : α × α} (hA : SA (some a)) (hB : SA (some b)) (hD : SA (some d)) (hP : SP (some p)) (o1 : ¬ C.opp a b) (o2 : ¬ C.opp d b) : C.R.mul (F (C.gl (some a) (some b) (some p))) (F (C.gl (C.ad (some a) (some b)) (some d) (some p))) = C.R.mul (F (C.gl (some d) (some b) (some p))) (F (C.gl (C.ad (some d) (some b)) (some a) (some p))) := by
 have oa := Z.aon hA
 have ob := Z.aon hB
 have od := Z.aon hD
 have hs := C.sl_slope oa ob o1
 have hc := C.sl_slope od ob o2
 have h1 := Z.aad hA hB
 have h2 := Z.aad hD hB
 have e1 := C.ad_sl oa ob o1 hs
 have e2 := C.ad_sl od ob o2 hc
 rw [e1] at h1
 rw [e2] at h2
 have asc : C.ad (C.ad (some a) (some b)) (some d) = C.ad (C.ad (some d) (some b)) (some a) := by
  rw [C.ad_assoc oa ob od, C.ad_comm ob od, C.ad_comm oa (C.ad_on od ob)]
 by_cases o3 : C.opp (C.th a b (C.slope a b)) d
 ·have o4 : C.opp (C.th d b (C.slope d b)) a := by
   rw [e1, e2, C.ad_opp o3] at asc
   by_cases h : C.opp (C.th d b (C.slope d b)) a
   ·exact h
   ·rw [C.ad_sl (Z.aon h2) oa h (C.sl_slope (Z.aon h2) oa h)] at asc
    cases asc
  rw [e1, e2, C.gl_opp o3, C.gl_opp o4]
  have t := Z.third hB hA (some p)
  have e3 : C.ne (C.ad (some b) (some a)) = some d := by
   rw [C.ad_comm ob oa, e1]
   exact congrArg some (C.opp_eq o3).symm
  rw [e3] at t
  rw [C.gl_comm od ob, t, C.gl_comm ob oa]
 ·have o4 : ¬ C.opp (C.th d b (C.slope d b)) a := fun h => by
   rw [e1, e2, C.ad_opp h, C.ad_sl (Z.aon h1) od o3 (C.sl_slope (Z.aon h1) od o3)] at asc
   cases asc
  by_cases hn : C.slope a b = C.slope d b
  ·have hc' := hc
   rw [← hn] at hc'
   rcases C.line_three hs hc' with h | h
   ·subst h; rfl
   ·exact absurd h o3
  ·have hg := C.sl_slope (Z.aon h1) od o3
   have ht := C.sl_slope (Z.aon h2) oa o4
   rw [e1, e2, C.gl_sl oa ob o1 hs, C.gl_sl od ob o2 hc, C.gl_sl (Z.aon h1) od o3 hg, C.gl_sl (Z.aon h2) oa o4 ht, ← Z.mul, ← Z.mul, ← C.ln_th hs, ← C.ln_th hc, C.ln_two (Z.aon h1) (Z.pon hP), C.ln_two (Z.aon h2) (Z.pon hP), Z.mul, Z.mul, Z.van h1 hP, Z.van h2 hP, C.nn_ways hs hc hg ht o3 o4 hn]
theorem Ec.Fz.co (Z : C.Fz F SA SP) {A B D P : Pt α} (hA : SA A) (hB : SA B) (hD : SA D) (hP : SP P) : C.R.mul (F (C.gl A B P)) (F (C.gl (C.ad A B) D P)) = C.R.mul (F (C.gl D B P)) (F (C.gl (C.ad D B) A P)) := by
 cases A with
 | none => rw [C.gl_m, C.gl_l, C.ad_nl, C.gl_comm (Z.aon hB) (Z.aon hD), C.R.mul_comm]
 | some a =>
  cases B with
  | none => rw [C.gl_m, C.gl_m, C.ad_nr, C.ad_nr, C.gl_comm (Z.aon hA) (Z.aon hD)]
  | some b =>
   cases D with
   | none => rw [C.gl_m, C.gl_l, C.ad_nl, C.gl_comm (Z.aon hA) (Z.aon hB), C.R.mul_comm]
   | some d =>
    cases P with
    | none => rw [C.gl_r, C.gl_r, C.gl_r, C.gl_r]
    | some p =>
     by_cases o1 : C.opp a b
     ·have ea : (some a : Pt α) = C.ne (some b) := congrArg some (C.opp_eq (C.opp_comm o1))
      have k := Z.co_opp hB hD hP ea
      rw [k, C.gl_opp o1, C.ad_opp o1, C.gl_l, Z.one, C.R.mul_one]
     ·by_cases o2 : C.opp d b
      ·have ed : (some d : Pt α) = C.ne (some b) := congrArg some (C.opp_eq (C.opp_comm o2))
       have k := Z.co_opp hB hA hP ed
       rw [k, C.gl_opp o2, C.ad_opp o2, C.gl_l, Z.one, C.R.mul_one]
      ·exact Z.co_fin hA hB hD hP o1 o2
theorem Ec.Fz.quad (Z : C.Fz F SA SP) {A B K D P : Pt α} (hA : SA A) (hB : SA B) (hK : SA K) (hD : SA D) (hP : SP P) : C.R.mul (C.R.mul (F (C.gl A K P)) (F (C.gl B D P))) (F (C.gl (C.ad A K) (C.ad B D) P)) = C.R.mul (C.R.mul (F (C.gl A B P)) (F (C.gl K D P))) (F (C.gl (C.ad A B) (C.ad K D) P)) := by
 have oA := Z.aon hA
 have oB := Z.aon hB
 have oK := Z.aon hK
 have oD := Z.aon hD
 have hAK := Z.aad hA hK
 have hAB := Z.aad hA hB
 have hBD := Z.aad hB hD
 have hKD := Z.aad hK hD
 have c1 := Z.co hAK hB hD hP
 have c2 := Z.co hAB hK hD hP
 have c3 := Z.co hA hK hB hP
 have c4 := Z.co hA hB hK hP
 have e1 : C.ad (C.ad A K) B = C.ad (C.ad A B) K := by rw [C.ad_assoc oA oK oB, C.ad_comm oK oB, C.ad_assoc oA oB oK]
 rw [C.ad_comm oD oB, C.gl_comm oD oB, C.gl_comm (Z.aon hBD) (Z.aon hAK), e1] at c1
 rw [C.ad_comm oD oK, C.gl_comm oD oK, C.gl_comm (Z.aon hKD) (Z.aon hAB)] at c2
 rw [C.gl_comm oK oB, C.ad_comm oK oB] at c4
 exact C.R.four_w c1 c2 (c3.trans c4.symm)
end
section
variable {α : Type} [DecidableEq α] (C : Ec α)
variable {C} {F : α → α} {SA SP : Pt α → Prop}
end
end
section
def g2 : W2 := pw2 XI th
end
section
theorem z_0a (a : Zp) : 0 + a = a := by grind
end
section
/-! ### The powers of p -/
def cj12 (x : W12) : W12 := (x.1, K6.neg x.2)
/-! ### The conjugate's laws -/
end
section
/-! ### The sixth root, as numbers -/
end
section
/-! ### As the reference reckons it -/
section
variable {u p2 p6 n : Nat} (h2 : ∀ x, FR12 (FR12 x) = K12.pw x p2) (h6 : ∀ x, cj12 x = K12.pw x p6)
end
section
variable {e : Nat}
end
/-! ### Upright lines -/
end
section
section
variable {α β : Type} {C : Ec α} {D : Ec β} (T : Hw C D)
theorem Hw.ln (a p : α × α) (s : α) : D.ln (T.m a) (D.R.mul T.w (T.f s)) (T.m p) = D.R.mul (D.R.mul T.w (D.R.mul T.w T.w)) (T.f (C.ln a s p)) := by
 unfold Ec.ln
 rw [T.fs, T.fs, T.fm, T.fs]
 exact zq D.R [T.w, T.f a.1, T.f a.2, T.f s, T.f p.1, T.f p.2] (ta (ta (tm (tm j0 (tm j0 j0)) j5) (tn (tm (tm j0 (tm j0 j0)) j2))) (tn (tm (tm j0 j3) (ta (tm (tm j0 j0) j4) (tn (tm (tm j0 j0) j1)))))) (tm (tm j0 (tm j0 j0)) (ta (ta j5 (tn j2)) (tn (tm j3 (ta j4 (tn j1))))))
theorem Hw.gl [DecidableEq α] [DecidableEq β] {A B P : Pt α} (hA : C.onP A) (hB : C.onP B) {F : β → β} (hF : ∀ a b, F (D.R.mul a b) = D.R.mul (F a) (F b)) (hw : F (D.R.mul T.w (D.R.mul T.w T.w)) = D.R.one) : F (D.gl (T.p A) (T.p B) (T.p P)) = F (T.f (C.gl A B P)) := by
 cases A with
 | none => rw [C.gl_l, T.f1]; rfl
 | some a =>
  cases B with
  | none => rw [C.gl_m, T.f1]; rfl
  | some b =>
   cases P with
   | none => rw [C.gl_r, T.f1]; rfl
   | some p =>
    by_cases ho : C.opp a b
    ·rw [C.gl_opp ho, T.f1]
     exact congrArg F (D.gl_opp (T.opp.2 ho) _)
    ·have hs := C.sl_slope hA hB ho
     rw [C.gl_sl hA hB ho hs]
     refine (congrArg F (D.gl_sl (T.m_on hA) (T.m_on hB) (fun h => ho (T.opp.1 h)) (T.sl hs) (T.m p))).trans ?_
     rw [T.ln, hF, hw, D.R.one_mul]
end
/-! ### The power of p, as a map of the curve -/
/-! ### The loop's value -/
section
variable {e : Nat} (h6 : e % (PP ^ 6 - 1) = 0) (hr : e * ORD % (PP ^ 12 - 1) = 0) (he : e - 1 + 1 = e)
end
end
section
def LN (r : W2 × W2) (s : W2) (q : Zp × Zp) : W12 := ((sb2 (ml2 s r.1) r.2, ng2 (ml2 s (re2 q.1)), ze2), (ze2, re2 q.2, ze2))
theorem n0 : ng2 ze2 = ze2 := R2.neg_zero
theorem a0 (x : W2) : ad2 x ze2 = x := R2.add_zero x
theorem l0 (x : W2) : ad2 ze2 x = x := R2.zero_add x
def LG (a b : Pt W2) (q : Zp × Zp) : W12 := match a, b with
 | some a, some b => if a.1 = b.1 ∧ ad2 a.2 b.2 = ze2 then K12.one else LN a (E2w.slope a b) q
 | _, _ => K12.one
theorem LG_s {a b : W2 × W2} {s : W2} (ha : E2w.on a) (hb : E2w.on b) (ho : ¬ E2w.opp a b) (hs : E2w.Sl a b s) (q : Zp × Zp) : LG (some a) (some b) q = LN a s q := by
 rw [← E2w.sl_one (E2w.sl_slope ha hb ho) hs ho]
 exact if_neg ho
theorem LG_o {a b : W2 × W2} (h : E2w.opp a b) (q : Zp × Zp) : LG (some a) (some b) q = K12.one := if_pos h
end
section
set_option maxRecDepth 1000000
/-! ### The power -/
end
section
section
variable {e : Nat} {l : List Bool}
end
/-! ### The generators' -/
end
section
section
variable {α : Type} (C : Ec α)
def Ec.t3 (x : α) : α := C.R.add (C.R.add (C.R.mul x x) (C.R.mul x x)) (C.R.mul x x)
end
section
variable {α : Type} [DecidableEq α] (C : Ec α)
end
theorem sc_re (x : W2) (c : Zp) : sc2 x c = ml2 x (re2 c) := w2_ext (by show x.1 * c = x.1 * c - x.2 * 0; rw [z_m0, z_s0']) (by show x.2 * c = x.1 * 0 + x.2 * c; rw [z_m0, z_0a])
end
end Go.Proofs.YthkmeodnlidpfaaDoor
