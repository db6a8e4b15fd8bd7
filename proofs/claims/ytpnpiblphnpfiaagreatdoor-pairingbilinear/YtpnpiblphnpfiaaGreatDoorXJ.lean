/-
 Curves y y = x x x + b: lines, at other points. Nothing here names a program.
 Curves y y = x x x + b: lines under a map of products that upright lines vanish by. Nothing here names a program.
 The powers of p in the field of p^6 elements. Nothing here names a program.
 Powers of p in the field of p^6 elements by a third root of 1. Nothing here names a program.
 The powers of p in the field of p^12 elements, its conjugates. Nothing here names a program.
 Powers of p in the field of p^12 elements, part by part, and by those of p^6. Nothing here names a program.
 Mathematics for fp12: the sixth root as bytes.
 The long power of the pairing; that it takes all of p^6 elements to 1, and has the order r. Nothing here names a program.
 The pairing is linear on both sides. Nothing here names a program.
 The loop over p^12 elements by numbers of the second curve's points: lines as the document writes them. Nothing here names a program.
 The generators' pairing: the loop by slopes that are given. Nothing here names a program.
 The pairing of so many times the generators; its order; the document's conjugate. Nothing here names a program.
 The program's walk through the loop: doubled and added without inverses, its lines the document's up to elements of p^2. Nothing here names a program.
 The program's loop over several pairs: the product of the document's values, up to an element of p^6. Nothing here names a program.
-/
import Derived.Test.YtpnpiblphnpfiaaGreatDoorX4
import Derived.Test.YtpnpiblphnpfiaaGreatDoorX5
set_option maxRecDepth 100000
set_option maxHeartbeats 1000000
namespace Go.Proofs.YtpnpiblphnpfiaaGreatDoor
section
section
variable {α : Type} (C : Ec α)
def Ec.ln (a : α × α) (s : α) (p : α × α) : α := C.sub (C.sub p.2 a.2) (C.R.mul s (C.sub p.1 a.1))
theorem Ec.ln_same {a b p : α × α} {s : α} (h : C.Sl a b s) : C.ln a s p = C.ln b s p :=
 Rg.lc (R := C.R) (zq C.R [a.1, a.2, b.1, b.2, s, p.1, p.2, C.b] (ta (ta (ta j6 (tn j1)) (tn (tm j4 (ta j5 (tn j0))))) (tm to1 (ta j1 (tn j3)))) (ta (ta (ta j6 (tn j3)) (tn (tm j4 (ta j5 (tn j2))))) (tm to1 (tm j4 (ta j0 (tn j2)))))) (lcm h.1)
theorem Ec.ln_ng (a p : α × α) (s : α) : C.ln (C.ng a) (C.R.neg s) p = C.R.neg (C.ln a s (C.ng p)) :=
 zq C.R [a.1, a.2, s, p.1, p.2] (ta (ta j4 (tn (tn j1))) (tn (tm (tn j2) (ta j3 (tn j0))))) (tn (ta (ta (tn j4) (tn j1)) (tn (tm j2 (ta j3 (tn j0))))))
theorem Ec.ln_th {a b p : α × α} {s : α} (h : C.Sl a b s) : C.ln (C.ng (C.th a b s)) s p = C.ln a s p := (C.ln_same (C.sl_th h)).symm.trans (C.ln_same h).symm
theorem Ec.ln_norm {a b p : α × α} {s : α} (ha : C.on a) (hp : C.on p) (h : C.Sl a b s) : C.R.mul (C.ln a s p) (C.ln a s (C.ng p)) = C.R.neg (C.R.mul (C.sub p.1 a.1) (C.R.mul (C.sub p.1 b.1) (C.sub p.1 (C.x3 a b s)))) :=
 Rg.lc (R := C.R) (zq C.R [a.1, a.2, b.1, b.2, s, p.1, p.2, C.b] (ta (tm (ta (ta j6 (tn j1)) (tn (tm j4 (ta j5 (tn j0))))) (ta (ta (tn j6) (tn j1)) (tn (tm j4 (ta j5 (tn j0)))))) (ta (ta (ta (tm (tn to1) (ta (tm j5 (tm j5 j5)) j7)) (tm to1 (ta (tm j0 (tm j0 j0)) j7))) (tm (tm (ta j5 (tn j0)) (tn j4)) (ta j1 (tn j3)))) (tm (ta j5 (tn j0)) (ta (ta (tm j0 j0) (tm j0 j2)) (tm j2 j2))))) (ta (tn (tm (ta j5 (tn j0)) (tm (ta j5 (tn j2)) (ta j5 (tn (ta (ta (tm j4 j4) (tn j0)) (tn j2))))))) (ta (ta (ta (tm (tn to1) (tm j6 j6)) (tm to1 (tm j1 j1))) (tm (tm (ta j5 (tn j0)) (tn j4)) (tm j4 (ta j0 (tn j2))))) (tm (ta j5 (tn j0)) (tm j4 (ta j1 j3)))))) (lca (lca (lca (lcm hp) (lcm ha)) (lcm h.1)) (lcm h.2))
def Ec.nn (d : α × α) (s t : α) (p : α × α) : α := C.R.add (C.sub (C.R.mul p.1 p.1) (C.R.mul (C.R.add s t) p.2)) (C.R.add (C.R.mul (C.R.add d.1 (C.R.mul s t)) p.1) (C.R.add (C.R.mul d.1 (C.sub d.1 (C.R.mul s t))) (C.R.mul (C.sub s t) d.2)))
theorem Ec.ln_two {d p : α × α} {s t : α} (hd : C.on d) (hp : C.on p) : C.R.mul (C.ln (C.ng d) s p) (C.ln d t p) = C.R.mul (C.sub p.1 d.1) (C.nn d s t p) :=
 Rg.lc (R := C.R) (zq C.R [d.1, d.2, s, t, p.1, p.2, C.b] (ta (tm (ta (ta j5 (tn (tn j1))) (tn (tm j2 (ta j4 (tn j0))))) (ta (ta j5 (tn j1)) (tn (tm j3 (ta j4 (tn j0)))))) (ta (tm to1 (ta (tm j4 (tm j4 j4)) j6)) (tm (tn to1) (ta (tm j0 (tm j0 j0)) j6)))) (ta (tm (ta j4 (tn j0)) (ta (ta (tm j4 j4) (tn (tm (ta j2 j3) j5))) (ta (tm (ta j0 (tm j2 j3)) j4) (ta (tm j0 (ta j0 (tn (tm j2 j3)))) (tm (ta j2 (tn j3)) j1))))) (ta (tm to1 (tm j5 j5)) (tm (tn to1) (tm j1 j1))))) (lca (lcm hp) (lcm hd))
theorem Ec.nn_at {d q : α × α} {s t : α} (h : C.Sl q (C.ng d) s) : C.nn d s t q = C.R.zero :=
 Rg.lc (R := C.R) (zq C.R [d.1, d.2, s, t, q.1, q.2, C.b] (ta (ta (ta (tm j4 j4) (tn (tm (ta j2 j3) j5))) (ta (tm (ta j0 (tm j2 j3)) j4) (ta (tm j0 (ta j0 (tn (tm j2 j3)))) (tm (ta j2 (tn j3)) j1)))) (ta (tm (tn to1) (ta (ta (tm j4 j4) (tm j4 j0)) (tm j0 j0))) (tm j3 (ta j5 (tn (tn j1)))))) (ta tz0 (ta (tm (tn to1) (tm j2 (ta j5 (tn j1)))) (tm j3 (tm j2 (ta j4 (tn j0))))))) (lca (lcm h.2) (lcm h.1))
theorem Ec.nn_eq {d e p q : α × α} {s t s2 t2 : α} (h1 : C.R.add s t = C.R.add s2 t2) (h2 : C.R.add d.1 (C.R.mul s t) = C.R.add e.1 (C.R.mul s2 t2)) (h3 : C.nn d s t q = C.R.zero) (h4 : C.nn e s2 t2 q = C.R.zero) : C.nn d s t p = C.nn e s2 t2 p :=
 Rg.lc (R := C.R) (zq C.R [d.1, d.2, e.1, e.2, s, t, s2, t2, p.1, p.2, q.1, q.2] (ta (ta (ta (tm j8 j8) (tn (tm (ta j4 j5) j9))) (ta (tm (ta j0 (tm j4 j5)) j8) (ta (tm j0 (ta j0 (tn (tm j4 j5)))) (tm (ta j4 (tn j5)) j1)))) (ta (ta (ta (tm to1 tz0) (tm (tn to1) tz0)) (tm (ta j11 (tn j9)) (ta j6 j7))) (tm (ta j8 (tn j10)) (ta j2 (tm j6 j7))))) (ta (ta (ta (tm j8 j8) (tn (tm (ta j6 j7) j9))) (ta (tm (ta j2 (tm j6 j7)) j8) (ta (tm j2 (ta j2 (tn (tm j6 j7)))) (tm (ta j6 (tn j7)) j3)))) (ta (ta (ta (tm to1 (ta (ta (tm j10 j10) (tn (tm (ta j4 j5) j11))) (ta (tm (ta j0 (tm j4 j5)) j10) (ta (tm j0 (ta j0 (tn (tm j4 j5)))) (tm (ta j4 (tn j5)) j1))))) (tm (tn to1) (ta (ta (tm j10 j10) (tn (tm (ta j6 j7) j11))) (ta (tm (ta j2 (tm j6 j7)) j10) (ta (tm j2 (ta j2 (tn (tm j6 j7)))) (tm (ta j6 (tn j7)) j3)))))) (tm (ta j11 (tn j9)) (ta j4 j5))) (tm (ta j8 (tn j10)) (ta j0 (tm j4 j5)))))) (lca (lca (lca (lcm h3) (lcm h4)) (lcm h1)) (lcm h2))
structure Ec.R3 (x y z s t : α) : Prop where
 e1 : C.R.add (C.R.add x y) z = C.R.mul s s
 e2 : C.R.add (C.R.mul x y) (C.R.mul (C.R.add x y) z) = C.R.neg (C.R.add (C.R.mul s t) (C.R.mul s t))
 e3 : C.R.mul (C.R.mul x y) z = C.sub (C.R.mul t t) C.b
theorem Ec.r3 {a b : α × α} {s : α} (ha : C.on a) (h : C.Sl a b s) : C.R3 a.1 b.1 (C.x3 a b s) s (C.sub a.2 (C.R.mul s a.1)) :=
 ⟨zq C.R [a.1, a.2, b.1, b.2, s, C.b] (ta (ta j0 j2) (ta (ta (tm j4 j4) (tn j0)) (tn j2))) (tm j4 j4), Rg.lc (R := C.R) (zq C.R [a.1, a.2, b.1, b.2, s, C.b] (ta (ta (tm j0 j2) (tm (ta j0 j2) (ta (ta (tm j4 j4) (tn j0)) (tn j2)))) (ta (tm to1 (ta (ta (tm j0 j0) (tm j0 j2)) (tm j2 j2))) (tm (tn j4) (ta j1 (tn j3))))) (ta (tn (ta (tm j4 (ta j1 (tn (tm j4 j0)))) (tm j4 (ta j1 (tn (tm j4 j0)))))) (ta (tm to1 (tm j4 (ta j1 j3))) (tm (tn j4) (tm j4 (ta j0 (tn j2))))))) (lca (lcm h.2) (lcm h.1)), Rg.lc (R := C.R) (zq C.R [a.1, a.2, b.1, b.2, s, C.b] (ta (tm (tm j0 j2) (ta (ta (tm j4 j4) (tn j0)) (tn j2))) (ta (ta (tm j0 (ta (ta (tm j0 j0) (tm j0 j2)) (tm j2 j2))) (tm (tn (tm j0 j4)) (ta j1 (tn j3)))) (tm (tn to1) (ta (tm j0 (tm j0 j0)) j5)))) (ta (ta (tm (ta j1 (tn (tm j4 j0))) (ta j1 (tn (tm j4 j0)))) (tn j5)) (ta (ta (tm j0 (tm j4 (ta j1 j3))) (tm (tn (tm j0 j4)) (tm j4 (ta j0 (tn j2))))) (tm (tn to1) (tm j1 j1))))) (lca (lca (lcm h.2) (lcm h.1)) (lcm ha))⟩
theorem Ec.r3_two {x y z s t u v w m k : α} (g : C.R3 x y z s t) (h : C.R3 u v w m k) : (C.R.mul (C.R.mul (C.R.add (C.R.mul (C.sub m s) u) (C.sub k t)) (C.R.add (C.R.mul (C.sub m s) v) (C.sub k t))) (C.R.add (C.R.mul (C.sub m s) w) (C.sub k t))) = C.R.neg (C.R.mul (C.R.mul (C.R.add (C.R.mul (C.sub s m) x) (C.sub t k)) (C.R.add (C.R.mul (C.sub s m) y) (C.sub t k))) (C.R.add (C.R.mul (C.sub s m) z) (C.sub t k))) :=
 Rg.lc (R := C.R) (zq C.R [x, y, z, s, t, u, v, w, m, k, C.b] (ta (tm (tm (ta (tm (ta j8 (tn j3)) j5) (ta j9 (tn j4))) (ta (tm (ta j8 (tn j3)) j6) (ta j9 (tn j4)))) (ta (tm (ta j8 (tn j3)) j7) (ta j9 (tn j4)))) (ta (ta (ta (ta (ta (tm (tm (ta j8 (tn j3)) (tm (ta j9 (tn j4)) (ta j9 (tn j4)))) (tm j8 j8)) (tm (tm (tm (ta j8 (tn j3)) (ta j8 (tn j3))) (ta j9 (tn j4))) (tn (ta (tm j8 j9) (tm j8 j9))))) (tm (tm (tm (ta j8 (tn j3)) (ta j8 (tn j3))) (ta j8 (tn j3))) (ta (tm j9 j9) (tn j10)))) (tm (tm (ta j3 (tn j8)) (tm (ta j4 (tn j9)) (ta j4 (tn j9)))) (tm j3 j3))) (tm (tm (tm (ta j3 (tn j8)) (ta j3 (tn j8))) (ta j4 (tn j9))) (tn (ta (tm j3 j4) (tm j3 j4))))) (tm (tm (tm (ta j3 (tn j8)) (ta j3 (tn j8))) (ta j3 (tn j8))) (ta (tm j4 j4) (tn j10))))) (ta (tn (tm (tm (ta (tm (ta j3 (tn j8)) j0) (ta j4 (tn j9))) (ta (tm (ta j3 (tn j8)) j1) (ta j4 (tn j9)))) (ta (tm (ta j3 (tn j8)) j2) (ta j4 (tn j9))))) (ta (ta (ta (ta (ta (tm (tm (ta j8 (tn j3)) (tm (ta j9 (tn j4)) (ta j9 (tn j4)))) (ta (ta j5 j6) j7)) (tm (tm (tm (ta j8 (tn j3)) (ta j8 (tn j3))) (ta j9 (tn j4))) (ta (tm j5 j6) (tm (ta j5 j6) j7)))) (tm (tm (tm (ta j8 (tn j3)) (ta j8 (tn j3))) (ta j8 (tn j3))) (tm (tm j5 j6) j7))) (tm (tm (ta j3 (tn j8)) (tm (ta j4 (tn j9)) (ta j4 (tn j9)))) (ta (ta j0 j1) j2))) (tm (tm (tm (ta j3 (tn j8)) (ta j3 (tn j8))) (ta j4 (tn j9))) (ta (tm j0 j1) (tm (ta j0 j1) j2)))) (tm (tm (tm (ta j3 (tn j8)) (ta j3 (tn j8))) (ta j3 (tn j8))) (tm (tm j0 j1) j2))))) (lca (lca (lca (lca (lca (lcm h.e1) (lcm h.e2)) (lcm h.e3)) (lcm g.e1)) (lcm g.e2)) (lcm g.e3))
theorem Ec.ln_on {a q p : α × α} {s m : α} (h : C.ln q m p = C.R.zero) : C.ln a s p = C.R.add (C.R.mul (C.sub m s) p.1) (C.sub (C.sub q.2 (C.R.mul m q.1)) (C.sub a.2 (C.R.mul s a.1))) :=
 Rg.lc (R := C.R) (zq C.R [a.1, a.2, s, q.1, q.2, m, p.1, p.2] (ta (ta (ta j7 (tn j1)) (tn (tm j2 (ta j6 (tn j0))))) (tm to1 tz0)) (ta (ta (tm (ta j5 (tn j2)) j6) (ta (ta j4 (tn (tm j5 j3))) (tn (ta j1 (tn (tm j2 j0)))))) (tm to1 (ta (ta j7 (tn j4)) (tn (tm j5 (ta j6 (tn j3)))))))) (lcm h)
theorem Ec.ln_self (a : α × α) (s : α) : C.ln a s a = C.R.zero := zq C.R [a.1, a.2, s] (ta (ta j1 (tn j1)) (tn (tm j2 (ta j0 (tn j0))))) tz0
theorem Ec.ln_o {a b : α × α} {s : α} (h : C.Sl a b s) : C.ln a s b = C.R.zero := (C.ln_same h).trans (C.ln_self b s)
theorem Ec.ln_3 {a b : α × α} {s : α} (h : C.Sl a b s) : C.ln a s (C.ng (C.th a b s)) = C.R.zero := (C.ln_th h).symm.trans (C.ln_self _ s)
theorem Ec.recip {a b p q : α × α} {s m : α} (ha : C.on a) (hp : C.on p) (h : C.Sl a b s) (k : C.Sl p q m) :
  C.R.mul (C.R.mul (C.ln a s p) (C.ln a s q)) (C.ln a s (C.ng (C.th p q m))) = C.R.neg (C.R.mul (C.R.mul (C.ln p m a) (C.ln p m b)) (C.ln p m (C.ng (C.th a b s)))) := by
 rw [C.ln_on (a := a) (s := s) (C.ln_self p m), C.ln_on (a := a) (s := s) (C.ln_o k), C.ln_on (a := a) (s := s) (C.ln_3 k), C.ln_on (a := p) (s := m) (C.ln_self a s), C.ln_on (a := p) (s := m) (C.ln_o h), C.ln_on (a := p) (s := m) (C.ln_3 h)]
 exact C.r3_two (C.r3 ha h) (C.r3 hp k)
theorem Ec.nn_ways {A B D p : α × α} {a c g t : α} (ha : C.Sl A B a) (hc : C.Sl D B c) (hg : C.Sl (C.th A B a) D g) (ht : C.Sl (C.th D B c) A t) (ho : ¬ C.opp (C.th A B a) D) (ho' : ¬ C.opp (C.th D B c) A) (hn : a ≠ c) : C.nn (C.th A B a) a g p = C.nn (C.th D B c) c t p := by
 have h1 := C.assoc_g ha hc hg ho
 have h2 := C.assoc_g hc ha ht ho'
 have et := C.assoc_t hn h1 h2
 subst et
 refine C.nn_eq (q := B) ?_ ?_ (C.nn_at (C.sl_th ha)) (C.nn_at (C.sl_th hc))
 ·exact zq C.R [A.1, A.2, B.1, B.2, D.1, D.2, a, c, g] (ta j6 j8) (ta j7 (ta (ta j8 j6) (tn j7)))
 ·exact Rg.lc (R := C.R) (zq C.R [A.1, A.2, B.1, B.2, D.1, D.2, a, c, g] (ta (ta (ta (ta (tm j6 j6) (tn j0)) (tn j2)) (tm j6 j8)) (tm to1 tz0)) (ta (ta (ta (ta (tm j7 j7) (tn j4)) (tn j2)) (tm j7 (ta (ta j8 j6) (tn j7)))) (tm to1 (ta (tm (ta j6 (tn j7)) j8) (tn (ta (ta (ta (tm j6 j7) (tn j2)) (tn j4)) (tn (ta (ta (tm j6 j6) (tn j0)) (tn j2))))))))) (lcm h1)
end
end
section
section
variable {α : Type}
theorem gJ (d : Bool) (r : List Bool) (n : Nat) : bC (d :: r) n = bC r (2 * n + d.toNat) := by cases d <;> rfl
theorem Rg.turn (R : Rg α) {x y z u v w z' w' : α} (h : R.mul (R.mul x y) z = R.mul (R.mul u v) w) (hz : R.mul z' z = R.one) (hw : R.mul w' w = R.one) : R.mul (R.mul x y) w' = R.mul (R.mul u v) z' :=
 Rg.lc (R := R) (zq R [x, y, z, u, v, w, z', w'] (ta (tm (tm j0 j1) j7) (ta (ta (tm (tm j7 j6) (tm (tm j3 j4) j5)) (tm (tn (tm (tm j0 j1) j7)) to1)) (tm (tm (tm j3 j4) j6) to1))) (ta (tm (tm j3 j4) j6) (ta (ta (tm (tm j7 j6) (tm (tm j0 j1) j2)) (tm (tn (tm (tm j0 j1) j7)) (tm j6 j2))) (tm (tm (tm j3 j4) j6) (tm j7 j5))))) (lca (lca (lcm h) (lcm hz)) (lcm hw))
theorem Rg.four_w (R : Rg α) {p q r s t u v w x : α} (h1 : R.mul q r = R.mul s t) (h2 : R.mul v r = R.mul w x) (h3 : R.mul p q = R.mul u v) : R.mul (R.mul p s) t = R.mul (R.mul u w) x :=
 Rg.lc (R := R) (zq R [p, q, r, s, t, u, v, w, x] (ta (tm (tm j0 j3) j4) (ta (ta (tm (tn j0) (tm j3 j4)) (tm j5 (tm j7 j8))) (tm j2 (tm j5 j6)))) (ta (tm (tm j5 j7) j8) (ta (ta (tm (tn j0) (tm j1 j2)) (tm j5 (tm j6 j2))) (tm j2 (tm j0 j1))))) (lca (lca (lcm h1) (lcm h2)) (lcm h3))
theorem Rg.st_d (R : Rg α) {f1 f2 k f3 H g1 g2 k2 g3 : α} (h : R.mul (R.mul f1 f2) k = R.mul f3 H) (r : R.mul (R.mul g1 g2) k2 = R.mul (R.mul k k) g3) : R.mul (R.mul (R.mul (R.mul f1 f1) g1) (R.mul (R.mul f2 f2) g2)) k2 = R.mul (R.mul (R.mul f3 f3) g3) (R.mul H H) :=
 Rg.lc (R := R) (zq R [f1, f2, k, f3, H, g1, g2, k2, g3] (ta (tm (tm (tm (tm j0 j0) j5) (tm (tm j1 j1) j6)) j7) (ta (tm (ta (tm j8 (tm (tm j0 j1) j2)) (tm j8 (tm j3 j4))) (tm j3 j4)) (tm (tm (tm j0 j0) (tm j1 j1)) (tm (tm j2 j2) j8)))) (ta (tm (tm (tm j3 j3) j8) (tm j4 j4)) (ta (tm (ta (tm j8 (tm (tm j0 j1) j2)) (tm j8 (tm j3 j4))) (tm (tm j0 j1) j2)) (tm (tm (tm j0 j0) (tm j1 j1)) (tm (tm j5 j6) j7))))) (lca (lcm h) (lcm r))
theorem Rg.st_a (R : Rg α) {f1 f2 k f3 H g1 g2 k2 g3 q : α} (h : R.mul (R.mul f1 f2) k = R.mul f3 H) (r : R.mul (R.mul g1 g2) k2 = R.mul (R.mul k q) g3) : R.mul (R.mul (R.mul f1 g1) (R.mul f2 g2)) k2 = R.mul (R.mul f3 g3) (R.mul H q) :=
 Rg.lc (R := R) (zq R [f1, f2, k, f3, H, g1, g2, k2, g3, q] (ta (tm (tm (tm j0 j5) (tm j1 j6)) j7) (ta (tm (tm j9 j8) (tm j3 j4)) (tm (tm j0 j1) (tm (tm j2 j9) j8)))) (ta (tm (tm j3 j8) (tm j4 j9)) (ta (tm (tm j9 j8) (tm (tm j0 j1) j2)) (tm (tm j0 j1) (tm (tm j5 j6) j7))))) (lca (lcm h) (lcm r))
end
section
variable {α : Type} [DecidableEq α] (C : Ec α)
def Ec.gl : Pt α → Pt α → Pt α → α
 | some a, some b, some p => if a.1 = b.1 ∧ C.R.add a.2 b.2 = C.R.zero then C.R.one else C.ln a (C.slope a b) p
 | _, _, _ => C.R.one
theorem Ec.gl_l (B P : Pt α) : C.gl none B P = C.R.one := rfl
theorem Ec.gl_m (A P : Pt α) : C.gl A none P = C.R.one := by cases A <;> rfl
theorem Ec.gl_r (A B : Pt α) : C.gl A B none = C.R.one := by
 cases A with
 | none => rfl
 | some a => cases B <;> rfl
theorem Ec.gl_opp {a b : α × α} (h : C.opp a b) (P : Pt α) : C.gl (some a) (some b) P = C.R.one := by
 cases P with
 | none => rfl
 | some p => exact if_pos h
theorem Ec.gl_sl {a b : α × α} {s : α} (ha : C.on a) (hb : C.on b) (ho : ¬ C.opp a b) (hs : C.Sl a b s) (p : α × α) : C.gl (some a) (some b) (some p) = C.ln a s p := by
 rw [← C.sl_one (C.sl_slope ha hb ho) hs ho]
 exact if_neg ho
theorem Ec.gl_comm {A B : Pt α} (hA : C.onP A) (hB : C.onP B) (P : Pt α) : C.gl A B P = C.gl B A P := by
 cases A with
 | none => rw [C.gl_m]; rfl
 | some a =>
  cases B with
  | none => rfl
  | some b =>
   cases P with
   | none => rfl
   | some p =>
    by_cases ho : C.opp a b
    ·rw [C.gl_opp ho, C.gl_opp (C.opp_comm ho)]
    ·have hs := C.sl_slope hA hB ho
     rw [C.gl_sl hA hB ho hs, C.gl_sl hB hA (fun h => ho (C.opp_comm h)) (C.sl_comm hs), C.ln_same hs]
structure Ec.Fz (F : α → α) (SA SP : Pt α → Prop) : Prop where
 mul : ∀ a b, F (C.R.mul a b) = C.R.mul (F a) (F b)
 one : F C.R.one = C.R.one
 neg : ∀ a, F (C.R.neg a) = F a
 aon : ∀ {A}, SA A → C.onP A
 aad : ∀ {A B}, SA A → SA B → SA (C.ad A B)
 ane : ∀ {A}, SA A → SA (C.ne A)
 pon : ∀ {P}, SP P → C.onP P
 pad : ∀ {P Q}, SP P → SP Q → SP (C.ad P Q)
 pne : ∀ {P}, SP P → SP (C.ne P)
 van : ∀ {a p}, SA (some a) → SP (some p) → F (C.sub p.1 a.1) = C.R.one
variable {C} {F : α → α} {SA SP : Pt α → Prop}
theorem Ec.Fz.swap (Z : C.Fz F SA SP) : C.Fz F SP SA where
 mul := Z.mul
 one := Z.one
 neg := Z.neg
 aon := Z.pon
 aad := Z.pad
 ane := Z.pne
 pon := Z.aon
 pad := Z.aad
 pne := Z.ane
 van := fun {p a} hp ha => by
  have e : C.sub a.1 p.1 = C.R.neg (C.sub p.1 a.1) := zq C.R [a.1, p.1] (ta j0 (tn j1)) (tn (ta j1 (tn j0)))
  rw [e, Z.neg, Z.van ha hp]
theorem Ec.Fz.inv (Z : C.Fz F SA SP) {A B P : Pt α} (hA : SA A) (hB : SA B) (hP : SP P) : C.R.mul (F (C.gl A B P)) (F (C.gl A B (C.ne P))) = C.R.one := by
 cases A with
 | none => rw [C.gl_l, C.gl_l, Z.one, C.R.mul_one]
 | some a =>
  cases B with
  | none => rw [C.gl_m, C.gl_m, Z.one, C.R.mul_one]
  | some b =>
   cases P with
   | none => rw [show C.ne none = none from rfl, C.gl_r, Z.one, C.R.mul_one]
   | some p =>
    by_cases ho : C.opp a b
    ·rw [C.gl_opp ho, C.gl_opp ho, Z.one, C.R.mul_one]
    ·have hs := C.sl_slope (Z.aon hA) (Z.aon hB) ho
     have h3 := Z.aad hA hB
     rw [C.ad_sl (Z.aon hA) (Z.aon hB) ho hs] at h3
     rw [show C.ne (some p) = some (C.ng p) from rfl, C.gl_sl (Z.aon hA) (Z.aon hB) ho hs, C.gl_sl (Z.aon hA) (Z.aon hB) ho hs, ← Z.mul, C.ln_norm (Z.aon hA) (Z.pon hP) hs, Z.neg, Z.mul, Z.mul, Z.van hA hP, Z.van hB hP, show F (C.sub p.1 (C.x3 a b (C.slope a b))) = C.R.one from Z.van h3 hP, C.R.mul_one, C.R.mul_one]
theorem Ec.Fz.opp (Z : C.Fz F SA SP) {A B : Pt α} (hA : SA A) (hB : SA B) (P : Pt α) : F (C.gl (C.ne A) (C.ne B) P) = F (C.gl A B (C.ne P)) := by
 cases A with
 | none => rfl
 | some a =>
  cases B with
  | none => rfl
  | some b =>
   cases P with
   | none => rfl
   | some p =>
    have hiff : C.opp (C.ng a) (C.ng b) → C.opp a b := fun h => ⟨h.1, by
     have := h.2
     rw [show (C.ng a).2 = C.R.neg a.2 from rfl, show (C.ng b).2 = C.R.neg b.2 from rfl, ← C.R.neg_add] at this
     rw [← C.R.neg_neg (C.R.add a.2 b.2), this, C.R.neg_zero]⟩
    by_cases ho : C.opp a b
    ·have ho' : C.opp (C.ng a) (C.ng b) := ⟨ho.1, by
      rw [show (C.ng a).2 = C.R.neg a.2 from rfl, show (C.ng b).2 = C.R.neg b.2 from rfl, ← C.R.neg_add, ho.2, C.R.neg_zero]⟩
     rw [C.gl_opp ho]
     exact congrArg F (C.gl_opp ho' _)
    ·have hs := C.sl_slope (Z.aon hA) (Z.aon hB) ho
     show F (C.gl (some (C.ng a)) (some (C.ng b)) (some p)) = F (C.gl (some a) (some b) (some (C.ng p)))
     rw [C.gl_sl (C.ng_on (Z.aon hA)) (C.ng_on (Z.aon hB)) (fun h => ho (hiff h)) (C.sl_ng hs), C.gl_sl (Z.aon hA) (Z.aon hB) ho hs, C.ln_ng, Z.neg]
theorem Ec.Fz.third (Z : C.Fz F SA SP) {A B : Pt α} (hA : SA A) (hB : SA B) (P : Pt α) : C.gl A (C.ne (C.ad A B)) P = C.gl A B P := by
 cases A with
 | none => rfl
 | some a =>
  cases B with
  | none => rw [C.ad_nr, C.gl_m]; exact C.gl_opp (C.opp_ng a) P
  | some b =>
   by_cases ho : C.opp a b
   ·rw [C.ad_opp ho, C.gl_opp ho]; exact C.gl_m _ _
   ·cases P with
    | none => rw [C.gl_r, C.gl_r]
    | some p =>
     have hs := C.sl_slope (Z.aon hA) (Z.aon hB) ho
     have h3 := Z.aad hA hB
     have u := C.undo (Z.aon hA) (Z.aon hB)
     have k := C.ne_ad (C.ne_on (Z.aon hA)) (Z.aon h3)
     rw [u, C.ne_ne] at k
     rw [C.ad_sl (Z.aon hA) (Z.aon hB) ho hs] at h3 k ⊢
     have s3 : C.Sl a (C.ng (C.th a b (C.slope a b))) (C.slope a b) := by
      have q := C.sl_th (C.sl_comm hs)
      rw [← C.th_comm hs] at q
      exact q
     have o3 : ¬ C.opp a (C.ng (C.th a b (C.slope a b))) := fun h => by
      have k2 : C.ne (some b) = C.ad (some a) (some (C.ng (C.th a b (C.slope a b)))) := k
      rw [C.ad_opp h] at k2
      cases k2
     exact (C.gl_sl (Z.aon hA) (C.ng_on (Z.aon h3)) o3 s3 p).trans (C.gl_sl (Z.aon hA) (Z.aon hB) ho hs p).symm
theorem Ec.Fz.co_opp (Z : C.Fz F SA SP) {A B D P : Pt α} (hB : SA B) (hD : SA D) (hP : SP P) (e : A = C.ne B) : C.R.mul (F (C.gl D B P)) (F (C.gl (C.ad D B) A P)) = C.R.one := by
 subst e
 have hnB := Z.ane hB
 have hnD := Z.ane hD
 have hDB := Z.aad hD hB
 have t := Z.third hnB hnD P
 have e2 : C.ne (C.ad (C.ne B) (C.ne D)) = C.ad D B := by rw [← C.ne_ad (Z.aon hB) (Z.aon hD), C.ne_ne, C.ad_comm (Z.aon hB) (Z.aon hD)]
 rw [e2] at t
 rw [C.gl_comm (Z.aon hDB) (Z.aon hnB), t, Z.opp hB hD, C.gl_comm (Z.aon hD) (Z.aon hB)]
 exact Z.inv hB hD hP
theorem Ec.Fz.co_fin (Z : C.Fz F SA SP) {a b d p : α × α} (hA : SA (some a)) (hB : SA (some b)) (hD : SA (some d)) (hP : SP (some p)) (o1 : ¬ C.opp a b) (o2 : ¬ C.opp d b) : C.R.mul (F (C.gl (some a) (some b) (some p))) (F (C.gl (C.ad (some a) (some b)) (some d) (some p))) = C.R.mul (F (C.gl (some d) (some b) (some p))) (F (C.gl (C.ad (some d) (some b)) (some a) (some p))) := by
 have oa := Z.aon hA
 have ob := Z.aon hB
 have od := Z.aon hD
 have hs := C.sl_slope oa ob o1
 have hc := C.sl_slope od ob o2
 have h1 := Z.aad hA hB
 have h2 := Z.aad hD hB
 have e1 := C.ad_sl oa ob o1 hs
 have e2 := C.ad_sl od ob o2 hc
 rw [e1] at h1
 rw [e2] at h2
 have asc : C.ad (C.ad (some a) (some b)) (some d) = C.ad (C.ad (some d) (some b)) (some a) := by
  rw [C.ad_assoc oa ob od, C.ad_comm ob od, C.ad_comm oa (C.ad_on od ob)]
 by_cases o3 : C.opp (C.th a b (C.slope a b)) d
 ·have o4 : C.opp (C.th d b (C.slope d b)) a := by
   rw [e1, e2, C.ad_opp o3] at asc
   by_cases h : C.opp (C.th d b (C.slope d b)) a
   ·exact h
   ·rw [C.ad_sl (Z.aon h2) oa h (C.sl_slope (Z.aon h2) oa h)] at asc
    cases asc
  rw [e1, e2, C.gl_opp o3, C.gl_opp o4]
  have t := Z.third hB hA (some p)
  have e3 : C.ne (C.ad (some b) (some a)) = some d := by
   rw [C.ad_comm ob oa, e1]
   exact congrArg some (C.opp_eq o3).symm
  rw [e3] at t
  rw [C.gl_comm od ob, t, C.gl_comm ob oa]
 ·have o4 : ¬ C.opp (C.th d b (C.slope d b)) a := fun h => by
   rw [e1, e2, C.ad_opp h, C.ad_sl (Z.aon h1) od o3 (C.sl_slope (Z.aon h1) od o3)] at asc
   cases asc
  by_cases hn : C.slope a b = C.slope d b
  ·have hc' := hc
   rw [← hn] at hc'
   rcases C.line_three hs hc' with h | h
   ·subst h; rfl
   ·exact absurd h o3
  ·have hg := C.sl_slope (Z.aon h1) od o3
   have ht := C.sl_slope (Z.aon h2) oa o4
   rw [e1, e2, C.gl_sl oa ob o1 hs, C.gl_sl od ob o2 hc, C.gl_sl (Z.aon h1) od o3 hg, C.gl_sl (Z.aon h2) oa o4 ht, ← Z.mul, ← Z.mul, ← C.ln_th hs, ← C.ln_th hc, C.ln_two (Z.aon h1) (Z.pon hP), C.ln_two (Z.aon h2) (Z.pon hP), Z.mul, Z.mul, Z.van h1 hP, Z.van h2 hP, C.nn_ways hs hc hg ht o3 o4 hn]
theorem Ec.Fz.co (Z : C.Fz F SA SP) {A B D P : Pt α} (hA : SA A) (hB : SA B) (hD : SA D) (hP : SP P) : C.R.mul (F (C.gl A B P)) (F (C.gl (C.ad A B) D P)) = C.R.mul (F (C.gl D B P)) (F (C.gl (C.ad D B) A P)) := by
 cases A with
 | none => rw [C.gl_m, C.gl_l, C.ad_nl, C.gl_comm (Z.aon hB) (Z.aon hD), C.R.mul_comm]
 | some a =>
  cases B with
  | none => rw [C.gl_m, C.gl_m, C.ad_nr, C.ad_nr, C.gl_comm (Z.aon hA) (Z.aon hD)]
  | some b =>
   cases D with
   | none => rw [C.gl_m, C.gl_l, C.ad_nl, C.gl_comm (Z.aon hA) (Z.aon hB), C.R.mul_comm]
   | some d =>
    cases P with
    | none => rw [C.gl_r, C.gl_r, C.gl_r, C.gl_r]
    | some p =>
     by_cases o1 : C.opp a b
     ·have ea : (some a : Pt α) = C.ne (some b) := congrArg some (C.opp_eq (C.opp_comm o1))
      have k := Z.co_opp hB hD hP ea
      rw [k, C.gl_opp o1, C.ad_opp o1, C.gl_l, Z.one, C.R.mul_one]
     ·by_cases o2 : C.opp d b
      ·have ed : (some d : Pt α) = C.ne (some b) := congrArg some (C.opp_eq (C.opp_comm o2))
       have k := Z.co_opp hB hA hP ed
       rw [k, C.gl_opp o2, C.ad_opp o2, C.gl_l, Z.one, C.R.mul_one]
      ·exact Z.co_fin hA hB hD hP o1 o2
theorem Ec.Fz.rcp (Z : C.Fz F SA SP) {A B P Q : Pt α} (hA : SA A) (hB : SA B) (hP : SP P) (hQ : SP Q) : C.R.mul (C.R.mul (F (C.gl A B P)) (F (C.gl A B Q))) (F (C.gl P Q (C.ad A B))) = C.R.mul (C.R.mul (F (C.gl P Q A)) (F (C.gl P Q B))) (F (C.gl A B (C.ad P Q))) := by
 cases A with
 | none => rw [C.gl_l, C.gl_l, C.gl_l, C.gl_r, C.ad_nl, Z.one, C.R.one_mul, C.R.one_mul, C.R.mul_one]
 | some a =>
  cases B with
  | none => rw [C.gl_m, C.gl_m, C.gl_m, C.gl_r, C.ad_nr, Z.one, C.R.one_mul, C.R.one_mul, C.R.mul_one, C.R.mul_one]
  | some b =>
   cases P with
   | none => rw [C.gl_l, C.gl_l, C.gl_l, C.gl_r, C.ad_nl, Z.one, C.R.one_mul, C.R.one_mul, C.R.one_mul, C.R.mul_one]
   | some p =>
    cases Q with
    | none => rw [C.gl_m, C.gl_m, C.gl_m, C.gl_r, C.ad_nr, Z.one, C.R.one_mul, C.R.one_mul, C.R.mul_one, C.R.mul_one]
    | some q =>
     by_cases o1 : C.opp a b
     ·have k := Z.swap.inv hP hQ hA
      have eb : (some b : Pt α) = C.ne (some a) := congrArg some (C.opp_eq o1)
      rw [← eb] at k
      rw [k, C.ad_opp o1, C.gl_r, C.gl_opp o1, C.gl_opp o1, C.gl_opp o1, Z.one, C.R.mul_one, C.R.mul_one]
     ·by_cases o2 : C.opp p q
      ·have k := Z.inv hA hB hP
       have eq : (some q : Pt α) = C.ne (some p) := congrArg some (C.opp_eq o2)
       rw [← eq] at k
       rw [k, C.ad_opp o2, C.gl_r, C.gl_opp o2, C.gl_opp o2, C.gl_opp o2, Z.one, C.R.mul_one, C.R.mul_one]
      ·have hs := C.sl_slope (Z.aon hA) (Z.aon hB) o1
       have hm := C.sl_slope (Z.pon hP) (Z.pon hQ) o2
       have h3 := Z.aad hA hB
       have h4 := Z.pad hP hQ
       have k1 := Z.inv hA hB h4
       have k2 := Z.swap.inv hP hQ h3
       rw [C.ad_sl (Z.aon hA) (Z.aon hB) o1 hs] at k2 ⊢
       rw [C.ad_sl (Z.pon hP) (Z.pon hQ) o2 hm] at k1 ⊢
       have r := congrArg F (C.recip (Z.aon hA) (Z.pon hP) hs hm)
       rw [Z.neg, Z.mul, Z.mul, Z.mul, Z.mul, ← C.gl_sl (Z.aon hA) (Z.aon hB) o1 hs, ← C.gl_sl (Z.aon hA) (Z.aon hB) o1 hs, ← C.gl_sl (Z.aon hA) (Z.aon hB) o1 hs, ← C.gl_sl (Z.pon hP) (Z.pon hQ) o2 hm, ← C.gl_sl (Z.pon hP) (Z.pon hQ) o2 hm, ← C.gl_sl (Z.pon hP) (Z.pon hQ) o2 hm] at r
       exact C.R.turn r k1 k2
theorem Ec.Fz.quad (Z : C.Fz F SA SP) {A B K D P : Pt α} (hA : SA A) (hB : SA B) (hK : SA K) (hD : SA D) (hP : SP P) : C.R.mul (C.R.mul (F (C.gl A K P)) (F (C.gl B D P))) (F (C.gl (C.ad A K) (C.ad B D) P)) = C.R.mul (C.R.mul (F (C.gl A B P)) (F (C.gl K D P))) (F (C.gl (C.ad A B) (C.ad K D) P)) := by
 have oA := Z.aon hA
 have oB := Z.aon hB
 have oK := Z.aon hK
 have oD := Z.aon hD
 have hAK := Z.aad hA hK
 have hAB := Z.aad hA hB
 have hBD := Z.aad hB hD
 have hKD := Z.aad hK hD
 have c1 := Z.co hAK hB hD hP
 have c2 := Z.co hAB hK hD hP
 have c3 := Z.co hA hK hB hP
 have c4 := Z.co hA hB hK hP
 have e1 : C.ad (C.ad A K) B = C.ad (C.ad A B) K := by rw [C.ad_assoc oA oK oB, C.ad_comm oK oB, C.ad_assoc oA oB oK]
 rw [C.ad_comm oD oB, C.gl_comm oD oB, C.gl_comm (Z.aon hBD) (Z.aon hAK), e1] at c1
 rw [C.ad_comm oD oK, C.gl_comm oD oK, C.gl_comm (Z.aon hKD) (Z.aon hAB)] at c2
 rw [C.gl_comm oK oB, C.ad_comm oK oB] at c4
 exact C.R.four_w c1 c2 (c3.trans c4.symm)
end
section
variable {α : Type} [DecidableEq α] (C : Ec α)
def Ec.mst (Q P : Pt α) (d : Bool) (st : α × Pt α) : α × Pt α :=
 if d then (C.R.mul (C.R.mul (C.R.mul st.1 st.1) (C.gl st.2 st.2 P)) (C.gl (C.ad st.2 st.2) Q P), C.ad (C.ad st.2 st.2) Q) else (C.R.mul (C.R.mul st.1 st.1) (C.gl st.2 st.2 P), C.ad st.2 st.2)
def Ec.mil (Q P : Pt α) : List Bool → α × Pt α → α × Pt α
 | [], st => st
 | d :: r, st => Ec.mil Q P r (C.mst Q P d st)
theorem Ec.mst_2 {Q P : Pt α} (hQ : C.onP Q) (d : Bool) {st : α × Pt α} {n : Nat} (h : st.2 = C.times Q n) : (C.mst Q P d st).2 = C.times Q (2 * n + d.toNat) := by
 cases d with
 | true => show C.ad (C.ad st.2 st.2) Q = C.times Q (2 * n + 1); rw [h, ← C.times_add hQ, ← Nat.two_mul]; rfl
 | false => show C.ad st.2 st.2 = C.times Q (2 * n); rw [h, ← C.times_add hQ, ← Nat.two_mul]
variable {C} {F : α → α} {SA SP : Pt α → Prop}
theorem Ec.Fz.tin (Z : C.Fz F SA SP) {Q : Pt α} (hQ : SA Q) (h0 : SA none) : ∀ n, SA (C.times Q n)
 | 0 => h0
 | n + 1 => Z.aad (Ec.Fz.tin Z hQ h0 n) hQ
theorem Ec.Fz.lin1 (Z : C.Fz F SA SP) {Q P P' : Pt α} (hQ : SA Q) (h0 : SA none) (hP : SP P) (hP' : SP P') : ∀ (l : List Bool) (a b c : α × Pt α) (n : Nat), a.2 = C.times Q n → b.2 = C.times Q n → c.2 = C.times Q n →
  C.R.mul (C.R.mul (F a.1) (F b.1)) (F (C.gl P P' (C.times Q n))) = C.R.mul (F c.1) (C.R.pw (F (C.gl P P' Q)) n) →
  C.R.mul (C.R.mul (F (C.mil Q P l a).1) (F (C.mil Q P' l b).1)) (F (C.gl P P' (C.times Q (bC l n)))) = C.R.mul (F (C.mil Q (C.ad P P') l c).1) (C.R.pw (F (C.gl P P' Q)) (bC l n))
 | [], _, _, _, _, _, _, _, h => h
 | d :: r, a, b, c, n, ha, hb, hc, h => by
  have oQ := Z.aon hQ
  rw [gJ]
  refine Ec.Fz.lin1 Z hQ h0 hP hP' r _ _ _ (2 * n + d.toNat) (C.mst_2 oQ d ha) (C.mst_2 oQ d hb) (C.mst_2 oQ d hc) ?_
  have hR := Z.tin hQ h0 n
  have r1 := Z.rcp hR hR hP hP'
  have s1 := C.R.st_d h r1
  have e2 : C.ad (C.times Q n) (C.times Q n) = C.times Q (2 * n) := by rw [← C.times_add oQ, ← Nat.two_mul]
  have e3 : C.R.mul (C.R.pw (F (C.gl P P' Q)) n) (C.R.pw (F (C.gl P P' Q)) n) = C.R.pw (F (C.gl P P' Q)) (2 * n) := by rw [← C.R.pw_add, ← Nat.two_mul]
  cases d with
  | false =>
   show C.R.mul (C.R.mul (F (C.R.mul (C.R.mul a.1 a.1) (C.gl a.2 a.2 P))) (F (C.R.mul (C.R.mul b.1 b.1) (C.gl b.2 b.2 P')))) (F (C.gl P P' (C.times Q (2 * n)))) = C.R.mul (F (C.R.mul (C.R.mul c.1 c.1) (C.gl c.2 c.2 (C.ad P P')))) (C.R.pw (F (C.gl P P' Q)) (2 * n))
   rw [ha, hb, hc, Z.mul, Z.mul, Z.mul, Z.mul, Z.mul, Z.mul, ← e3, ← e2]
   exact s1
  | true =>
   show C.R.mul (C.R.mul (F (C.R.mul (C.R.mul (C.R.mul a.1 a.1) (C.gl a.2 a.2 P)) (C.gl (C.ad a.2 a.2) Q P))) (F (C.R.mul (C.R.mul (C.R.mul b.1 b.1) (C.gl b.2 b.2 P')) (C.gl (C.ad b.2 b.2) Q P')))) (F (C.gl P P' (C.ad (C.times Q (2 * n)) Q))) = C.R.mul (F (C.R.mul (C.R.mul (C.R.mul c.1 c.1) (C.gl c.2 c.2 (C.ad P P'))) (C.gl (C.ad c.2 c.2) Q (C.ad P P')))) (C.R.mul (C.R.pw (F (C.gl P P' Q)) (2 * n)) (F (C.gl P P' Q)))
   rw [e2, e3] at s1
   have s2 := C.R.st_a s1 (Z.rcp (Z.tin hQ h0 (2 * n)) hQ hP hP')
   rw [ha, hb, hc, e2, Z.mul, Z.mul, Z.mul, Z.mul, Z.mul, Z.mul, Z.mul, Z.mul, Z.mul]
   exact s2
theorem Ec.Fz.lin2 (Z : C.Fz F SA SP) {Q Q' P : Pt α} (hQ : SA Q) (hQ' : SA Q') (h0 : SA none) (hP : SP P) : ∀ (l : List Bool) (a b c : α × Pt α) (n : Nat), a.2 = C.times Q n → b.2 = C.times Q' n → c.2 = C.times (C.ad Q Q') n →
  C.R.mul (C.R.mul (F a.1) (F b.1)) (F (C.gl (C.times Q n) (C.times Q' n) P)) = C.R.mul (F c.1) (C.R.pw (F (C.gl Q Q' P)) n) →
  C.R.mul (C.R.mul (F (C.mil Q P l a).1) (F (C.mil Q' P l b).1)) (F (C.gl (C.times Q (bC l n)) (C.times Q' (bC l n)) P)) = C.R.mul (F (C.mil (C.ad Q Q') P l c).1) (C.R.pw (F (C.gl Q Q' P)) (bC l n))
 | [], _, _, _, _, _, _, _, h => h
 | d :: r, a, b, c, n, ha, hb, hc, h => by
  have oQ := Z.aon hQ
  have oQ' := Z.aon hQ'
  rw [gJ]
  refine Ec.Fz.lin2 Z hQ hQ' h0 hP r _ _ _ (2 * n + d.toNat) (C.mst_2 oQ d ha) (C.mst_2 oQ' d hb) (C.mst_2 (C.ad_on oQ oQ') d hc) ?_
  have hR := Z.tin hQ h0 n
  have hR' := Z.tin hQ' h0 n
  have r1 := Z.quad hR hR' hR hR' hP
  have s1 := C.R.st_d h r1
  have e2 : C.ad (C.times Q n) (C.times Q n) = C.times Q (2 * n) := by rw [← C.times_add oQ, ← Nat.two_mul]
  have e2' : C.ad (C.times Q' n) (C.times Q' n) = C.times Q' (2 * n) := by rw [← C.times_add oQ', ← Nat.two_mul]
  have ec : C.times (C.ad Q Q') n = C.ad (C.times Q n) (C.times Q' n) := C.times_ad oQ oQ' n
  have e3 : C.R.mul (C.R.pw (F (C.gl Q Q' P)) n) (C.R.pw (F (C.gl Q Q' P)) n) = C.R.pw (F (C.gl Q Q' P)) (2 * n) := by rw [← C.R.pw_add, ← Nat.two_mul]
  cases d with
  | false =>
   show C.R.mul (C.R.mul (F (C.R.mul (C.R.mul a.1 a.1) (C.gl a.2 a.2 P))) (F (C.R.mul (C.R.mul b.1 b.1) (C.gl b.2 b.2 P)))) (F (C.gl (C.times Q (2 * n)) (C.times Q' (2 * n)) P)) = C.R.mul (F (C.R.mul (C.R.mul c.1 c.1) (C.gl c.2 c.2 P))) (C.R.pw (F (C.gl Q Q' P)) (2 * n))
   rw [ha, hb, hc, ec, Z.mul, Z.mul, Z.mul, Z.mul, Z.mul, Z.mul, ← e3, ← e2, ← e2']
   exact s1
  | true =>
   show C.R.mul (C.R.mul (F (C.R.mul (C.R.mul (C.R.mul a.1 a.1) (C.gl a.2 a.2 P)) (C.gl (C.ad a.2 a.2) Q P))) (F (C.R.mul (C.R.mul (C.R.mul b.1 b.1) (C.gl b.2 b.2 P)) (C.gl (C.ad b.2 b.2) Q' P)))) (F (C.gl (C.ad (C.times Q (2 * n)) Q) (C.ad (C.times Q' (2 * n)) Q') P)) = C.R.mul (F (C.R.mul (C.R.mul (C.R.mul c.1 c.1) (C.gl c.2 c.2 P)) (C.gl (C.ad c.2 c.2) (C.ad Q Q') P))) (C.R.mul (C.R.pw (F (C.gl Q Q' P)) (2 * n)) (F (C.gl Q Q' P)))
   rw [e2, e2', e3] at s1
   have ec2 : C.ad (C.ad (C.times Q n) (C.times Q' n)) (C.ad (C.times Q n) (C.times Q' n)) = C.ad (C.times Q (2 * n)) (C.times Q' (2 * n)) := by
    rw [← ec, ← C.times_add (C.ad_on oQ oQ'), ← Nat.two_mul, C.times_ad oQ oQ']
   have s2 := C.R.st_a s1 (Z.quad (Z.tin hQ h0 (2 * n)) (Z.tin hQ' h0 (2 * n)) hQ hQ' hP)
   rw [ha, hb, hc, ec, ec2, e2, e2', Z.mul, Z.mul, Z.mul, Z.mul, Z.mul, Z.mul, Z.mul, Z.mul, Z.mul]
   exact s2
end
end
section
def g2 : W2 := pw2 XI th
theorem DC (a : Zp) : a + 0 = a := by grind
theorem pH (x : W2) : ∀ n, nm2 (pw2 x n) = nm2 x ^ n
 | 0 => by
  show nm2 on2 = _
  rw [p0, nm2, on2]
  show (1 : Zp) * 1 + 0 * 0 = 1
  rw [nW, fS]; exact DC 1
 | n + 1 => by rw [im, jk, pH x n, ps]
theorem wm (x : W2) : cj2 (cj2 x) = x := bn rfl (zU _)
theorem zg (c g : W2) : ml2 (cj2 (ml2 (cj2 c) g)) g = ml2 c (nm2 g, 0) := by
 rw [gD, wm, show ml2 (ml2 c (cj2 g)) g = ml2 c (ml2 (cj2 g) g) from R2.mul_assoc _ _ _, show ml2 (cj2 g) g = ml2 g (cj2 g) from R2.mul_comm _ _, D1]
end
section
theorem F9 (a : Zp) : a - 0 = a := by grind
theorem GM (a : Zp) : 0 - a = -a := by grind
theorem Bd (a : Zp) : 0 + a = a := by grind
theorem mY {a b : Zp} (h : a + b = 0) : -a = b := by grind
theorem Gy : pw2 XI 2 = (0, zp 2) := by decide +kernel
theorem wo (a b : Zp) : ml2 (a, 0) (0, b) = (0, a * b) := bn (by simp only [ml2]; rw [fS, qp, F9]) (by simp only [ml2]; rw [fS, DC])
theorem we (a b : Zp) : ml2 (0, a) (0, b) = (-(a * b), 0) := bn (by simp only [ml2]; rw [fS, GM]) (by simp only [ml2]; rw [qp, fS, DC])
theorem im_4 (c : Zp) : pw2 (0, c) 4 = (c ^ 4, 0) := by
 show ml2 (ml2 (ml2 (ml2 on2 (0, c)) (0, c)) (0, c)) (0, c) = _
 rw [show ml2 on2 (0, c) = (0, c) from R2.one_mul _, we, wo, we]
 exact bn (by grind) rfl
theorem im_3 (c : Zp) : pw2 (0, c) 3 = (0, -(c ^ 3)) := by
 show ml2 (ml2 (ml2 on2 (0, c)) (0, c)) (0, c) = _
 rw [show ml2 on2 (0, c) = (0, c) from R2.one_mul _, we, wo]
 exact bn rfl (by grind)
theorem zZ (c : Zp) : ∀ s, pw2 (0, c) (4 * s) = (c ^ (4 * s), 0)
 | 0 => by show on2 = _; rw [Nat.mul_zero, p0]; rfl
 | s + 1 => by rw [Nat.mul_succ, io, zZ c s, im_4, mb, lm]
theorem FD (c : Zp) (s : Nat) : pw2 (0, c) (4 * s + 3) = (0, -(c ^ (4 * s + 3))) := by
 rw [io, zZ, im_3, wo, lm]
 exact bn rfl (by grind)
def cjn (n : Nat) (x : W2) : W2 := if n % 2 = 1 then cj2 x else x
theorem GO (n : Nat) (x : W2) : cj2 (cjn n x) = cjn (n + 1) x := by
 rw [cjn, cjn]
 by_cases h : n % 2 = 1
 ·rw [if_pos h, if_neg (by omega), wm]
 ·rw [if_neg h, if_pos (by omega)]
theorem qH (a b c : W2) : ml2 (ml2 a b) c = ml2 a (ml2 b c) := R2.mul_assoc a b c
end
section
/-! ### The powers of p -/
theorem ew (x y : W12) : bp (K12.mul x y) = K12.mul (bp x) (bp y) := by
 rw [← dz, ← dz, ← dz, K12.mul_pw]
theorem nO (x y : W12) : bp (K12.add x y) = K12.add (bp x) (bp y) := by
 rw [← dz, ← dz, ← dz, fw]
def fO (x : W12) : Nat → W12
 | 0 => x
 | n + 1 => bp (fO x n)
theorem kw (x : W12) (m : Nat) : ∀ n, fO x (m + n) = fO (fO x m) n
 | 0 => rfl
 | n + 1 => by rw [← Nat.add_assoc, fO, kw x m n]; rfl
theorem nQ (x y : W12) : ∀ n, fO (K12.mul x y) n = K12.mul (fO x n) (fO y n)
 | 0 => rfl
 | n + 1 => by rw [fO, nQ x y n, ew]; rfl
def sJ (z : Zp) (x : W12) : W12 := ((ml2 x.1.1 (z ^ 0, 0), ml2 x.1.2.1 (z ^ 2, 0), ml2 x.1.2.2 (z ^ 4, 0)), (ml2 x.2.1 (z ^ 1, 0), ml2 x.2.2.1 (z ^ 3, 0), ml2 x.2.2.2 (z ^ 5, 0)))
theorem iW (c : W2) (a b : Zp) (k : Nat) : ml2 (ml2 c (b ^ k, 0)) (a ^ k, 0) = ml2 c ((a * b) ^ k, 0) := by
 rw [qH, mb]
 have e : b ^ k * a ^ k = (a * b) ^ k := by
  induction k with
  | zero => rw [p0, p0, p0]; exact nW
  | succ k ih => rw [ps, ps, ps, ← ih]; grind
 rw [e]
theorem sh (a b : Zp) (x : W12) : sJ a (sJ b x) = sJ (a * b) x :=
 Prod.ext (Prod.ext (iW _ _ _ _) (Prod.ext (iW _ _ _ _) (iW _ _ _ _))) (Prod.ext (iW _ _ _ _) (Prod.ext (iW _ _ _ _) (iW _ _ _ _)))
def ZE : Zp := nm2 GA
theorem Fg (k : Nat) : nm2 (pw2 GA k) = ZE ^ k := pH GA k
theorem gI (c : W2) (k : Nat) : ml2 (cj2 (ml2 (cj2 c) (pw2 GA k))) (pw2 GA k) = ml2 c (ZE ^ k, 0) := by rw [zg, Fg]
theorem kM (x : W12) : bp (bp x) = sJ ZE x :=
 Prod.ext (Prod.ext (gI _ _) (Prod.ext (gI _ _) (gI _ _))) (Prod.ext (gI _ _) (Prod.ext (gI _ _) (gI _ _)))
theorem Du : ZE = zp 2 ^ sx := by rw [ZE, GA, pH, wz]
theorem HP : sx * 3 = hf := by decide +kernel
theorem Dn {a : Zp} (h : a * a = 1) (h1 : a ≠ 1) : a = -1 := by
 have e : (a - 1) * (a + 1) = 0 := by grind
 rcases vA e with e | e
 ·exact absurd (by grind) h1
 ·grind
theorem CQ : hf + hf = PP - 1 := by decide +kernel
theorem yN : zp 2 ^ hf = -1 := Dn (by rw [← lm, CQ, fermat pQ]) tS
theorem xJ : ZE * (ZE * ZE) = -1 := by
 have e : ZE * (ZE * ZE) = ZE ^ 3 := by generalize ZE = a; grind
 rw [e, Du, ← vt, HP, yN]
theorem sW (x : W12) : fO x 6 = sJ (ZE * (ZE * ZE)) x := by
 show bp (bp (bp (bp (bp (bp x))))) = _
 rw [kM x, kM (sJ ZE x), kM, sh ZE ZE x, sh]
def bu (x : W12) : W12 := (x.1, K6.neg x.2)
theorem mv (c : W2) (n : Nat) : ml2 c ((-1 : Zp) ^ (2 * n), 0) = c := by
 have e : (-1 : Zp) ^ (2 * n) = 1 := by
  induction n with
  | zero => exact p0 _
  | succ n ih => rw [Nat.mul_succ, lm, ih]; generalize hm : (-1 : Zp) = a; have : a * a = 1 := by rw [← hm, z_nn, nW]
                 grind
 rw [e]; exact R2.mul_one c
theorem pJ (c : W2) (n : Nat) : ml2 c ((-1 : Zp) ^ (2 * n + 1), 0) = ng2 c := by
 have e : ml2 c ((-1 : Zp) ^ (2 * n + 1), 0) = ml2 (ml2 c ((-1 : Zp) ^ (2 * n), 0)) (-1, 0) := by rw [qH, mb, ps]
 rw [e, mv]
 generalize hm : (-1 : Zp) = a
 refine bn ?_ ?_
 ·show c.1 * a - c.2 * 0 = -c.1
  rw [fS, F9, ← hm]; grind
 ·show c.1 * 0 + c.2 * a = -c.2
  rw [fS, Bd, ← hm]; grind
theorem fh (x : W12) : fO x 6 = bu x := by
 rw [sW, xJ]
 exact Prod.ext (Prod.ext (mv _ 0) (Prod.ext (mv _ 1) (mv _ 2))) (Prod.ext (pJ _ 0) (Prod.ext (pJ _ 1) (pJ _ 2)))
theorem jo (x : W12) : bu (bu x) = x := Prod.ext rfl (K6.neg_neg x.2)
theorem iZ (x : W12) : fO x 12 = x := by rw [show 12 = 6 + 6 from rfl, kw, fh, fh, jo]
/-! ### The conjugate's laws -/
theorem fu (x y : W12) : bu (K12.mul x y) = K12.mul (bu x) (bu y) := by rw [← fh, ← fh, ← fh, nQ]
theorem dM : bu K12.one = K12.one := Prod.ext rfl K6.neg_zero
theorem kP : K12.one ≠ K12.zero := by decide +kernel
theorem tvv {ρ : Nat → W6} {p : Po} {a : W6} (k : Nat) (ha : K6.d ρ p = a) (hk : ρ k = VV) : K6.d ρ (oX p (pv k)) = v6 a := by rw [K6.d_mul, ha, K6.d_var, hk]; exact si a
theorem vq {ρ : Nat → W6} {p q : Po} {a b : W6} (ha : K6.d ρ p = a) (hb : K6.d ρ q = b) : K6.d ρ (jK p (oG q)) = sb6 a b := by rw [K6.d_add, K6.d_neg, ha, hb, qy]
end
section
def GV : Nat → W2
 | 0 => on2
 | n + 1 => ml2 (cj2 (GV n)) GA
theorem Er : cj2 on2 = on2 := by decide +kernel
theorem uO (y : W2) : ∀ k, cj2 (pw2 y k) = pw2 (cj2 y) k
 | 0 => Er
 | k + 1 => by rw [im, gD, uO y k, im]
theorem qh (a b : W2) (k : Nat) : ml2 (pw2 a k) (pw2 b k) = pw2 (ml2 a b) k := (R2.mul_pw a b k).symm
def frq (c : W2) (n k : Nat) : W2 := ml2 (cjn n c) (pw2 (GV n) k)
theorem l4 (c : W2) (n k : Nat) : ml2 (cj2 (frq c n k)) (pw2 GA k) = frq c (n + 1) k := by
 rw [frq, gD, GO, qH, uO, qh]; rfl
theorem lQ (c : W2) (k : Nat) : frq c 0 k = c := by
 have e : pw2 (GV 0) k = on2 := R2.one_pw k
 rw [frq, e]; exact R2.mul_one c
theorem su (x : W12) : ∀ n, fO x n = ((frq x.1.1 n 0, frq x.1.2.1 n 2, frq x.1.2.2 n 4), (frq x.2.1 n 1, frq x.2.2.1 n 3, frq x.2.2.2 n 5))
 | 0 => by rw [lQ, lQ, lQ, lQ, lQ, lQ]; rfl
 | n + 1 => by
  rw [fO, su x n]
  exact Prod.ext (Prod.ext (l4 _ _ _) (Prod.ext (l4 _ _ _) (l4 _ _ _))) (Prod.ext (l4 _ _ _) (Prod.ext (l4 _ _ _) (l4 _ _ _)))
/-! ### The sixth root, as numbers -/
def sxh : Nat := (sx - 1) / 2
def CNn : Nat := 151655185184498381465642749684540099398075398968325446656007613510403227271200139370504932015952886146304766135027
theorem rx : 2 * sxh + 1 = sx := by decide +kernel
theorem u4 : 4 * (sxh / 4) + 3 = sxh := by decide +kernel
theorem Ch (c : Zp) : pw2 (0, c) sxh = (0, -(c ^ sxh)) := by
 have h := FD c (sxh / 4)
 rw [u4] at h
 exact h
theorem Cu : pm 2 PP (64 * 6) sxh + CNn = PP := by decide +kernel
theorem D8 : -(zp 2 ^ sxh) = zp CNn := mY (by
 rw [vL 2 sxh (64 * 6) (uK dv (by have := sx_val; have := rx; have := iM; omega)), ← eo, Cu, kj])
theorem qq : GA = (-(zp CNn), zp CNn) := by
 have e : pw2 XI sx = ml2 (pw2 (pw2 XI 2) sxh) XI := by rw [← rW, ← rx]; rfl
 rw [GA, e, Gy, Ch, D8]
 generalize zp CNn = a
 refine bn ?_ ?_
 ·show 0 * 1 - a * 1 = -a
  rw [mU, mU, GM]
 ·show 0 * 1 + a * 1 = a
  rw [mU, mU, Bd]
end
section
def SXB : List (BitVec 8) := [25#8, 4#8, 211#8, 191#8, 2#8, 187#8, 6#8, 103#8, 194#8, 49#8, 190#8, 180#8, 32#8, 44#8, 13#8, 31#8, 15#8, 214#8, 3#8, 253#8, 60#8, 189#8, 95#8, 79#8, 123#8, 36#8, 67#8, 215#8, 132#8, 186#8, 185#8, 196#8, 246#8, 126#8, 165#8, 61#8, 99#8, 231#8, 129#8, 61#8, 141#8, 7#8, 117#8, 237#8, 146#8, 35#8, 95#8, 184#8]
def SRn : Nat := 3850754370037169011952147076051364057158807420970682438676050522613628423219637725072182697113062777891589506424760
theorem y7 : SXB.length = 48 := rfl
theorem Ay : BN SXB 48 = SRn := by decide +kernel
theorem BC : SRn < PP := by decide +kernel
theorem CX : FV SXB = zp SRn := by rw [FV, if_pos ⟨y7, by rw [Ay]; exact BC⟩, Ay]
def SR : Zp := zp SRn
theorem wD : CNn + SRn = PP := by decide +kernel
theorem SR_a : -(zp CNn) = SR := mY (by rw [SR, ← eo, wD, kj])
theorem SR_b : -SR = zp CNn := mY (by rw [SR, ← eo, Nat.add_comm, wD, kj])
theorem Fb : ((SR, -SR) : W2) = GA := by rw [qq, SR_a, SR_b]
theorem Gn (n : Int) : (n.tmod 12 + 12).tmod 12 = (((n % 12).toNat : Nat) : Int) := by
 have h : n.tmod 12 = n % 12 ∨ n.tmod 12 = n % 12 - 12 := by
  rw [Int.tmod_eq_emod]
  split
  ·left; omega
  ·right; rfl
 have e : (n.tmod 12 + 12).tmod 12 = (n.tmod 12 + 12) % 12 := by rw [Int.tmod_eq_emod_of_nonneg (by omega)]
 rw [e]
 omega
theorem vu (n : Int) : inI (n.tmod 12 + 12) := by
 have h : n.tmod 12 = n % 12 ∨ n.tmod 12 = n % 12 - 12 := by
  rw [Int.tmod_eq_emod]
  split
  ·left; omega
  ·right; rfl
 unfold inI; omega
theorem CS : ∀ (j : Nat), j < 8 → ∀ b : BitVec 8, (b &&& (128#8 >>> j) != 0#8) = decide ((b >>> (7 - j)) &&& 1#8 = 1#8)
 | 0, _ => by decide +kernel
 | 1, _ => by decide +kernel
 | 2, _ => by decide +kernel
 | 3, _ => by decide +kernel
 | 4, _ => by decide +kernel
 | 5, _ => by decide +kernel
 | 6, _ => by decide +kernel
 | 7, _ => by decide +kernel
theorem CU : ∀ (j : Nat), j < 8 → (0#8 : BitVec 8) < 128#8 >>> j
 | 0, _ | 1, _ | 2, _ | 3, _ | 4, _ | 5, _ | 6, _ | 7, _ => by decide
theorem Db (j : Nat) : (128#8 >>> j) >>> 1 = 128#8 >>> (j + 1) := (BitVec.shiftRight_add 128#8 j 1).symm
end
section
theorem sj (x : W12) : ∀ n, K12.pw x (PP ^ n) = fO x n
 | 0 => by rw [Nat.pow_zero, K12.pw_one]; rfl
 | n + 1 => by rw [Nat.pow_succ, K12.pw_mul, sj x n, dz]; rfl
theorem qa (x : W12) : K12.pw x (PP ^ 6) = bu x := (sj x 6).trans (fh x)
theorem DF (x : W12) : K12.pw x (PP ^ 2) = bp (bp x) := sj x 2
theorem G5 (x : W12) : K12.pw x (PP ^ 12) = x := (sj x 12).trans (iZ x)
theorem ui {x : W12} (h : x ≠ K12.zero) {n : Nat} (e : K12.pw x (n + 1) = x) : K12.pw x n = K12.one := by
 have k : K12.mul (K12.mul (K12.pw x n) x) (fq x) = K12.mul x (fq x) := congrArg (fun y => K12.mul y (fq x)) e
 rw [K12.mul_assoc, ij h, K12.mul_one] at k
 exact k
theorem pn {x : W12} {m n : Nat} (h : K12.pw x m = K12.one) (hd : n % m = 0) : K12.pw x n = K12.one := by
 have e : n = m * (n / m) := by have := Nat.div_add_mod n m; omega
 rw [e, K12.pw_mul, h, K12.one_pw]
theorem Gs : PP ^ 12 - 1 + 1 = PP ^ 12 := by decide +kernel
theorem GE : PP ^ 12 - 2 + 1 = PP ^ 12 - 1 := by decide +kernel
theorem N6_s : PP ^ 6 - 1 + 1 = PP ^ 6 := by decide +kernel
theorem r8 {x : W12} (h : x ≠ K12.zero) : K12.pw x (PP ^ 12 - 1) = K12.one := ui h (by rw [Gs]; exact G5 x)
theorem B5 {x : W12} (h : x ≠ K12.zero) {n m : Nat} (hm : n + 1 = m) (e : K12.pw x m = K12.one) : fq x = K12.pw x n := by
 subst hm
 exact K12.inv_one (ij h) ((K12.mul_comm _ _).trans e)
theorem EU {x : W12} (h : x ≠ K12.zero) : fq x = K12.pw x (PP ^ 12 - 2) := B5 h GE (r8 h)
theorem EI {z : W6} (h : z ≠ K6.zero) : K12.pw (r6 z) (PP ^ 6 - 1) = K12.one :=
 ui (fun e => h (vM e)) (by rw [N6_s, qa]; exact Prod.ext rfl K6.neg_zero)
/-! ### As the reference reckons it -/
def tnd (u : Nat) (x : W12) : W12 := bu (K12.pw x u)
def fi1 (x : W12) : W12 := K12.mul (bu x) (fq x)
def fi2 (x : W12) : W12 := K12.mul (bp (bp x)) x
def fi3 (u : Nat) (x : W12) : W12 := K12.mul (tnd u x) (bu x)
def fi4 (u : Nat) (x : W12) : W12 := K12.mul (tnd u x) (bp x)
def fi5 (u : Nat) (x : W12) : W12 := K12.mul (K12.mul (tnd u (tnd u x)) (bp (bp x))) (bu x)
def fi6 (u : Nat) (x : W12) : W12 := K12.mul (K12.mul (K12.mul (fi5 u (fi4 u (fi3 u (fi3 u x)))) x) x) x
def kG (u : Nat) (x : W12) : W12 := fi6 u (fi2 (fi1 x))
def FEu (u p1 p2 p6 n : Nat) : Nat := (p6 + n) * ((p2 + 1) * ((((u * p6 + p6) * (u * p6 + p6)) * (u * p6 + p1)) * ((u * p6) * (u * p6) + p2 + p6) + 1 + 1 + 1))
def FE : Nat := FEu UG PP (PP ^ 2) (PP ^ 6) (PP ^ 12 - 2)
section
variable {u p2 p6 n : Nat} (h2 : ∀ x, bp (bp x) = K12.pw x p2) (h6 : ∀ x, bu x = K12.pw x p6)
theorem Hz (x : W12) (m : Nat) : K12.mul (K12.pw x m) x = K12.pw x (m + 1) := rfl
theorem my (h6 : ∀ x, bu x = K12.pw x p6) (x : W12) : tnd u x = K12.pw x (u * p6) := by rw [tnd, h6, ← K12.pw_mul]
theorem BA (h6 : ∀ x, bu x = K12.pw x p6) {x : W12} (h : fq x = K12.pw x n) : fi1 x = K12.pw x (p6 + n) := by rw [fi1, h6, h, ← K12.pw_add]
theorem Dc (h2 : ∀ x, bp (bp x) = K12.pw x p2) (x : W12) : fi2 x = K12.pw x (p2 + 1) := by rw [fi2, h2, Hz]
theorem w9 (h6 : ∀ x, bu x = K12.pw x p6) (x : W12) : fi3 u x = K12.pw x (u * p6 + p6) := by rw [fi3, my h6, h6, ← K12.pw_add]
theorem CF {p1 : Nat} (h1 : ∀ x, bp x = K12.pw x p1) (h6 : ∀ x, bu x = K12.pw x p6) (x : W12) : fi4 u x = K12.pw x (u * p6 + p1) := by rw [fi4, my h6, h1, ← K12.pw_add]
theorem Dp (h2 : ∀ x, bp (bp x) = K12.pw x p2) (h6 : ∀ x, bu x = K12.pw x p6) (x : W12) : fi5 u x = K12.pw x ((u * p6) * (u * p6) + p2 + p6) := by
 rw [fi5, my h6 (tnd u x), my h6 x, ← K12.pw_mul, h2, h6, ← K12.pw_add, ← K12.pw_add]
theorem Dl {p1 : Nat} (h1 : ∀ x, bp x = K12.pw x p1) (h2 : ∀ x, bp (bp x) = K12.pw x p2) (h6 : ∀ x, bu x = K12.pw x p6) (x : W12) : fi6 u x = K12.pw x ((((u * p6 + p6) * (u * p6 + p6)) * (u * p6 + p1)) * ((u * p6) * (u * p6) + p2 + p6) + 1 + 1 + 1) := by
 rw [fi6, w9 h6 x, w9 h6, ← K12.pw_mul, CF h1 h6, ← K12.pw_mul, Dp h2 h6, ← K12.pw_mul]
 rfl
theorem yx {p1 : Nat} (h1 : ∀ x, bp x = K12.pw x p1) (h2 : ∀ x, bp (bp x) = K12.pw x p2) (h6 : ∀ x, bu x = K12.pw x p6) {x : W12} (h : fq x = K12.pw x n) : kG u x = K12.pw x (FEu u p1 p2 p6 n) := by
 rw [kG, Dl h1 h2 h6, Dc h2, BA h6 h, ← K12.pw_mul, ← K12.pw_mul]
 rfl
end
theorem ii {n : Nat} (h : n - 1 + 1 = n) : K12.pw K12.zero n = K12.zero := by rw [← h]; exact K12.zero_pw _
theorem Cf (x : W12) : fq x = K12.pw x (PP ^ 12 - 2) := by
 by_cases h : x = K12.zero
 ·rw [h, yV]
  exact (ii (by decide +kernel)).symm
 ·exact EU h
theorem wU (x : W12) : kG UG x = K12.pw x FE := yx (fun x => (dz x).symm) (fun x => (DF x).symm) (fun x => (qa x).symm) (Cf x)
theorem sK : FE * ORD % (PP ^ 12 - 1) = 0 := by decide +kernel
theorem sG : FE % (PP ^ 6 - 1) = 0 := by decide +kernel
theorem jY : FE - 1 + 1 = FE := by decide +kernel
theorem UP_r : (UG + PP) % ORD = 0 := by decide +kernel
def FN (e : Nat) (x : W12) : W12 := K12.pw x e
section
variable {e : Nat}
theorem lf (x y : W12) : FN e (K12.mul x y) = K12.mul (FN e x) (FN e y) := K12.mul_pw x y e
theorem gb : FN e K12.one = K12.one := K12.one_pw e
theorem qX (h6 : e % (PP ^ 6 - 1) = 0) {z : W6} (h : z ≠ K6.zero) : FN e (r6 z) = K12.one := pn (EI h) h6
theorem D9 (hr : e * ORD % (PP ^ 12 - 1) = 0) {x : W12} (h : x ≠ K12.zero) : K12.pw (FN e x) ORD = K12.one := by
 rw [FN, ← K12.pw_mul]
 exact pn (r8 h) hr
theorem HQ (x : W12) : FN e (bp x) = K12.pw (FN e x) PP := by
 rw [FN, FN, ← dz, ← K12.pw_mul, Nat.mul_comm, K12.pw_mul]
theorem wW : r6 K6.one = K12.one := rfl
theorem B0 (h6 : e % (PP ^ 6 - 1) = 0) (x : W12) : FN e (K12.neg x) = FN e x := by
 have k : K12.neg x = K12.mul (r6 (K6.neg K6.one)) x := by
  rw [← vQ, wW, K12.neg_mul, K12.one_mul]
 rw [k, lf, qX h6 (by decide +kernel), K12.one_mul]
end
/-! ### Upright lines -/
theorem CA {i t y : W2} (hi : ml2 t i = on2) (k : ml2 y y = ml2 (ml2 t t) XI) : False := by
 have hh : ml2 i t = on2 := (R2.mul_comm i t).trans hi
 have a1 : ml2 (ml2 i y) (ml2 i y) = ml2 (ml2 i i) (ml2 y y) := R2.mul_four i y i y
 have a2 : ml2 (ml2 i i) (ml2 t t) = ml2 (ml2 i t) (ml2 i t) := R2.mul_four i i t t
 have a3 : ml2 (ml2 i i) (ml2 (ml2 t t) XI) = ml2 (ml2 (ml2 i i) (ml2 t t)) XI := (R2.mul_assoc _ _ _).symm
 have a4 : ml2 (ml2 on2 on2) XI = XI := (congrArg (fun q => ml2 q XI) (R2.one_mul on2)).trans (R2.one_mul XI)
 exact AJ (ml2 i y) (a1.trans (by rw [k, a3, a2, hh, a4]))
theorem xi4 : ((zp 4, zp 4) : W2) = ml2 (ml2 (zp 2, 0) (zp 2, 0)) XI := by decide +kernel
theorem zC : ((zp 2, 0) : W2) ≠ ze2 := by decide +kernel
theorem GU {s : W2 × W2} (h : E2w.on s) : s.1 ≠ ze2 := fun e => by
 have k : ml2 s.2 s.2 = ad2 (ml2 s.1 (ml2 s.1 s.1)) (zp 4, zp 4) := h
 rw [e, uZ] at k
 have k2 : ml2 s.2 s.2 = (zp 4, zp 4) := k.trans (R2.zero_add _)
 exact CA (jj zC) (k2.trans xi4)
theorem Eb {s : W2 × W2} (h : E2w.on s) (c : W2) : ((ng2 s.1, c, ze2) : W6) ≠ K6.zero := fun e => GU h (by
 have k : ng2 s.1 = ze2 := congrArg Prod.fst e
 rw [← R2.neg_neg s.1]
 exact (congrArg ng2 k).trans R2.neg_zero)
theorem xB (s : W2 × W2) (q : Zp × Zp) : E12.sub (HB.m q).1 (HE.m s).1 = r6 (ng2 s.1, re2 q.1, ze2) := by
 have e : (HB.m q).1 = r6 (ze2, re2 q.1, ze2) := xV (re2 q.1)
 rw [e, u2]
 show K12.add (r6 (ze2, re2 q.1, ze2)) (K12.neg (r6 (s.1, ze2, ze2))) = _
 rw [vQ, CV]
 exact congrArg r6 (Prod.ext (R2.zero_add _) (Prod.ext (by show ad2 (re2 q.1) (ng2 ze2) = re2 q.1; exact (congrArg (ad2 (re2 q.1)) R2.neg_zero).trans (R2.add_zero _)) (R2.add_neg ze2)))
def Sp2 (A : Pt W12) : Prop := ∃ S : Pt W2, E2w.onP S ∧ A = HE.p S
def Sp1 (A : Pt W12) : Prop := ∃ S : Pt Zp, E1.onP S ∧ A = HB.p S
theorem FZ {e : Nat} (h6 : e % (PP ^ 6 - 1) = 0) : E12.Fz (FN e) Sp2 Sp1 where
 mul := lf
 one := gb
 neg := B0 h6
 aon := fun {_} h => by obtain ⟨S, hS, rfl⟩ := h; exact HE.p_on hS
 aad := fun {_ _} h k => by
  obtain ⟨S, hS, rfl⟩ := h
  obtain ⟨T, hT, rfl⟩ := k
  exact ⟨_, E2w.ad_on hS hT, (HE.p_ad hS hT).symm⟩
 ane := fun {_} h => by obtain ⟨S, hS, rfl⟩ := h; exact ⟨_, E2w.ne_on hS, (HE.p_ne S).symm⟩
 pon := fun {_} h => by obtain ⟨S, hS, rfl⟩ := h; exact HB.p_on hS
 pad := fun {_ _} h k => by
  obtain ⟨S, hS, rfl⟩ := h
  obtain ⟨T, hT, rfl⟩ := k
  exact ⟨_, E1.ad_on hS hT, (HB.p_ad hS hT).symm⟩
 pne := fun {_} h => by obtain ⟨S, hS, rfl⟩ := h; exact ⟨_, E1.ne_on hS, (HB.p_ne S).symm⟩
 van := fun {a p} h k => by
  obtain ⟨S, hS, u⟩ := h
  obtain ⟨T, hT, f⟩ := k
  cases S with
  | none => cases u
  | some s =>
   cases T with
   | none => cases f
   | some q =>
    have u : a = HE.m s := Option.some.inj u
    have f : p = HB.m q := Option.some.inj f
    subst u f
    rw [xB]
    exact qX h6 (Eb hS _)
end
section
section
variable {α β : Type} {C : Ec α} {D : Ec β} (T : Hw C D)
theorem Hw.ln (a p : α × α) (s : α) : D.ln (T.m a) (D.R.mul T.w (T.f s)) (T.m p) = D.R.mul (D.R.mul T.w (D.R.mul T.w T.w)) (T.f (C.ln a s p)) := by
 unfold Ec.ln
 rw [T.fs, T.fs, T.fm, T.fs]
 exact zq D.R [T.w, T.f a.1, T.f a.2, T.f s, T.f p.1, T.f p.2] (ta (ta (tm (tm j0 (tm j0 j0)) j5) (tn (tm (tm j0 (tm j0 j0)) j2))) (tn (tm (tm j0 j3) (ta (tm (tm j0 j0) j4) (tn (tm (tm j0 j0) j1)))))) (tm (tm j0 (tm j0 j0)) (ta (ta j5 (tn j2)) (tn (tm j3 (ta j4 (tn j1))))))
theorem Hw.gl [DecidableEq α] [DecidableEq β] {A B P : Pt α} (hA : C.onP A) (hB : C.onP B) {F : β → β} (hF : ∀ a b, F (D.R.mul a b) = D.R.mul (F a) (F b)) (hw : F (D.R.mul T.w (D.R.mul T.w T.w)) = D.R.one) : F (D.gl (T.p A) (T.p B) (T.p P)) = F (T.f (C.gl A B P)) := by
 cases A with
 | none => rw [C.gl_l, T.f1]; rfl
 | some a =>
  cases B with
  | none => rw [C.gl_m, T.f1]; rfl
  | some b =>
   cases P with
   | none => rw [C.gl_r, T.f1]; rfl
   | some p =>
    by_cases ho : C.opp a b
    ·rw [C.gl_opp ho, T.f1]
     exact congrArg F (D.gl_opp (T.opp.2 ho) _)
    ·have hs := C.sl_slope hA hB ho
     rw [C.gl_sl hA hB ho hs]
     refine (congrArg F (D.gl_sl (T.m_on hA) (T.m_on hB) (fun h => ho (T.opp.1 h)) (T.sl hs) (T.m p))).trans ?_
     rw [T.ln, hF, hw, D.R.one_mul]
theorem Rg.last {α : Type} (R : Rg α) {a b k c h k' : α} (x : R.mul (R.mul a b) k = R.mul c h) (y : R.mul k' k = R.one) (z : R.mul h k' = R.one) : R.mul a b = c :=
 Rg.lc (R := R) (zq R [a, b, k, c, h, k'] (ta (tm j0 j1) (ta (ta (tm j5 (tm j3 j4)) (tm (tn (tm j0 j1)) to1)) (tm j3 to1))) (ta j3 (ta (ta (tm j5 (tm (tm j0 j1) j2)) (tm (tn (tm j0 j1)) (tm j5 j2))) (tm j3 (tm j4 j5))))) (lca (lca (lcm x) (lcm y)) (lcm z))
end
/-! ### The power of p, as a map of the curve -/
theorem tQ (x : W12) : bp (K12.neg x) = K12.neg (bp x) := by
 have e : K12.add (bp x) (bp (K12.neg x)) = K12.zero := by
  rw [← nO, K12.add_neg, ← dz]
  exact ii (by decide +kernel)
 exact K12.neg_of e
theorem lz : bp K12.zero = K12.zero := by rw [← dz]; exact ii (by decide +kernel)
theorem sB {x : W12} (h : bp x = K12.zero) : x = K12.zero := by
 have e := iZ x
 rw [show 12 = 1 + 11 from rfl, kw, show fO x 1 = bp x from rfl, h] at e
 rw [← e]
 have k : ∀ n, fO K12.zero n = K12.zero := fun n => by
  induction n with
  | zero => rfl
  | succ n ih => rw [fO, ih, lz]
 exact k 11
theorem oh (c : W2) : bp (em c) = em (cj2 c) := by rw [← dz, n5, vo]
theorem G6 : ml2 (ml2 (ml2 PW (ml2 PW PW)) (ml2 PW (ml2 PW PW))) (cj2 (zp 4, zp 4)) = (zp 4, zp 4) := by decide +kernel
theorem E4 : ml2 PW GA = on2 := by rw [qq]; decide +kernel
def TW12 : Tw E12 where
 f := bp
 w := em PW
 fa := nO
 fm := ew
 fn := tQ
 f0 := lz
 fi := fun _ h => sB h
 wn := by decide +kernel
 wb := by
  show K12.mul (K12.mul (K12.mul (em PW) (K12.mul (em PW) (em PW))) (K12.mul (em PW) (K12.mul (em PW) (em PW)))) (bp (em (zp 4, zp 4))) = em (zp 4, zp 4)
  rw [oh, c9, c9, c9, c9, G6]
theorem se (S : Pt W2) : TW12.p (HE.p S) = HE.p (TW2.p S) := by
 cases S with
 | none => rfl
 | some s =>
  refine congrArg some ?_
  show TW12.m (HE.m s) = HE.m (TW2.m s)
  rw [u2, u2]
  refine Prod.ext ?_ ?_
  ·show K12.mul (K12.mul (em PW) (em PW)) (bp (em s.1)) = em (ml2 (ml2 PW PW) (cj2 s.1))
   rw [oh, c9, c9]
  ·show K12.mul (K12.mul (em PW) (K12.mul (em PW) (em PW))) (bp (em s.2)) = em (ml2 (ml2 PW (ml2 PW PW)) (cj2 s.2))
   rw [oh, c9, c9, c9]
theorem WW_1 : WW = wk 1 := wk1.symm
theorem Gw : K12.mul (em PW) (bp WW) = WW := by
 rw [← dz, WW_1, Al, ← K12.mul_assoc, c9, E4]
 exact K12.one_mul _
theorem tY (a : Zp) : cj2 (re2 a) = re2 a := bn rfl (by show -(0 : Zp) = 0; exact z_n0')
theorem v7 (S : Pt Zp) : TW12.p (HB.p S) = HB.p S := by
 cases S with
 | none => rfl
 | some q =>
  refine congrArg some ?_
  have h := Gw
  refine Prod.ext ?_ ?_
  ·show K12.mul (K12.mul (em PW) (em PW)) (bp (K12.mul (K12.mul WW WW) (em (re2 q.1)))) = K12.mul (K12.mul WW WW) (em (re2 q.1))
   rw [ew, ew, oh, tY, ← K12.mul_assoc, K12.mul_four, h]
  ·show K12.mul (K12.mul (em PW) (K12.mul (em PW) (em PW))) (bp (K12.mul (K12.mul WW (K12.mul WW WW)) (em (re2 q.2)))) = K12.mul (K12.mul WW (K12.mul WW WW)) (em (re2 q.2))
   rw [ew, ew, ew, oh, tY, ← K12.mul_assoc, K12.mul_four (em PW) (K12.mul (em PW) (em PW)), K12.mul_four (em PW) (em PW) (bp WW) (bp WW), h]
/-! ### The loop's value -/
def MLv (l : List Bool) (P : Pt Zp) (Q : Pt W2) : W12 := (E12.mil (HE.p Q) (HB.p P) l (K12.one, HE.p Q)).1
section
variable {e : Nat} (h6 : e % (PP ^ 6 - 1) = 0) (hr : e * ORD % (PP ^ 12 - 1) = 0) (he : e - 1 + 1 = e)
theorem FN_0 (he : e - 1 + 1 = e) : FN e K12.zero = K12.zero := ii he
theorem Ac (he : e - 1 + 1 = e) {x y : W12} (h : K12.mul (FN e x) y = K12.one) : x ≠ K12.zero := fun z => by
 rw [z, FN_0 he, K12.zero_mul] at h
 exact kP h.symm
theorem tm1 {α : Type} [DecidableEq α] (C : Ec α) (Q : Pt α) : C.times Q 1 = Q := rfl
theorem Ej {Q : Pt W2} (hQ : E2w.onP Q) (h : E2w.ne (E2w.times Q UG) = TW2.p Q) : E12.times (HE.p Q) UG = E12.ne (TW12.p (HE.p Q)) := by
 rw [← HE.p_times hQ, se, ← h, HE.p_ne, E12.ne_ne]
theorem Gb (h6 : e % (PP ^ 6 - 1) = 0) : FN e (E12.R.mul TW12.w (E12.R.mul TW12.w TW12.w)) = E12.R.one := by
 have k : E12.R.mul TW12.w (E12.R.mul TW12.w TW12.w) = r6 (ml2 PW (ml2 PW PW), ze2, ze2) := by
  show K12.mul (em PW) (K12.mul (em PW) (em PW)) = _
  rw [c9, c9]; rfl
 rw [k]
 exact qX h6 (by decide +kernel)
theorem AO (h6 : e % (PP ^ 6 - 1) = 0) {A B P : Pt W12} (hA : E12.onP A) (hB : E12.onP B) : FN e (E12.gl (TW12.p A) (TW12.p B) (TW12.p P)) = K12.pw (FN e (E12.gl A B P)) PP :=
 (TW12.gl hA hB (F := FN e) lf (Gb h6)).trans (HQ _)
theorem At {x : W12} (h : K12.pw x ORD = K12.one) : K12.mul (K12.pw x UG) (K12.pw x PP) = K12.one := by
 rw [← K12.pw_add]
 exact pn h UP_r
theorem Hu (h6 : e % (PP ^ 6 - 1) = 0) (hr : e * ORD % (PP ^ 12 - 1) = 0) (he : e - 1 + 1 = e) {l : List Bool} (hl : bC l 1 = UG) {P P' : Pt Zp} (hP : E1.onP P) (hP' : E1.onP P') {Q : Pt W2} (hQ : E2w.onP Q) (hu : E2w.ne (E2w.times Q UG) = TW2.p Q) :
  K12.mul (FN e (MLv l P Q)) (FN e (MLv l P' Q)) = FN e (MLv l (E1.ad P P') Q) := by
 have Z := FZ h6
 have sQ : Sp2 (HE.p Q) := ⟨Q, hQ, rfl⟩
 have s0 : Sp2 none := ⟨none, True.intro, rfl⟩
 have sP : Sp1 (HB.p P) := ⟨P, hP, rfl⟩
 have sP' : Sp1 (HB.p P') := ⟨P', hP', rfl⟩
 have sT : Sp2 (TW12.p (HE.p Q)) := ⟨TW2.p Q, TW2.p_on hQ, se Q⟩
 have k := Z.lin1 sQ s0 sP sP' l (K12.one, HE.p Q) (K12.one, HE.p Q) (K12.one, HE.p Q) 1 rfl rfl rfl (by rw [tm1, gb]; show K12.mul (K12.mul K12.one K12.one) _ = K12.mul K12.one (K12.pw _ 1); rw [K12.pw_one, K12.one_mul, K12.one_mul])
 rw [hl, Ej hQ hu, ← HB.p_ad hP hP'] at k
 have i := Z.swap.inv sP sP' sT
 have t := AO h6 (P := HE.p Q) (HB.p_on hP) (HB.p_on hP')
 rw [v7, v7] at t
 have z := Z.swap.inv sP sP' sQ
 have o := At (D9 hr (Ac he z))
 rw [← t] at o
 exact K12.last k i o
theorem ML_2 (h6 : e % (PP ^ 6 - 1) = 0) (hr : e * ORD % (PP ^ 12 - 1) = 0) (he : e - 1 + 1 = e) {l : List Bool} (hl : bC l 1 = UG) {P : Pt Zp} (hP : E1.onP P) {Q Q' : Pt W2} (hQ : E2w.onP Q) (hQ' : E2w.onP Q') (hu : E2w.ne (E2w.times Q UG) = TW2.p Q) (hu' : E2w.ne (E2w.times Q' UG) = TW2.p Q') :
  K12.mul (FN e (MLv l P Q)) (FN e (MLv l P Q')) = FN e (MLv l P (E2w.ad Q Q')) := by
 have Z := FZ h6
 have sQ : Sp2 (HE.p Q) := ⟨Q, hQ, rfl⟩
 have sQ' : Sp2 (HE.p Q') := ⟨Q', hQ', rfl⟩
 have s0 : Sp2 none := ⟨none, True.intro, rfl⟩
 have sP : Sp1 (HB.p P) := ⟨P, hP, rfl⟩
 have sT : Sp2 (TW12.p (HE.p Q)) := ⟨TW2.p Q, TW2.p_on hQ, se Q⟩
 have sT' : Sp2 (TW12.p (HE.p Q')) := ⟨TW2.p Q', TW2.p_on hQ', se Q'⟩
 have k := Z.lin2 sQ sQ' s0 sP l (K12.one, HE.p Q) (K12.one, HE.p Q') (K12.one, E12.ad (HE.p Q) (HE.p Q')) 1 rfl rfl rfl (by rw [tm1, tm1, gb]; show K12.mul (K12.mul K12.one K12.one) _ = K12.mul K12.one (K12.pw _ 1); rw [K12.pw_one, K12.one_mul, K12.one_mul])
 rw [hl, Ej hQ hu, Ej hQ' hu', ← HE.p_ad hQ hQ', Z.opp sT sT'] at k
 have i := Z.inv sT sT' sP
 have t := AO h6 (P := HB.p P) (HE.p_on hQ) (HE.p_on hQ')
 rw [v7] at t
 have z := Z.inv sQ sQ' sP
 have o := At (D9 hr (Ac he z))
 rw [← t] at o
 exact K12.last k i o
theorem Ae {α : Type} [DecidableEq α] (C : Ec α) {Q P : Pt α} (h : ∀ A B, C.gl A B P = C.R.one) : ∀ (l : List Bool) (st : α × Pt α), st.1 = C.R.one → (C.mil Q P l st).1 = C.R.one
 | [], _, e => e
 | d :: r, st, e => by
  refine Ae C h r _ ?_
  cases d with
  | false => show C.R.mul (C.R.mul st.1 st.1) (C.gl _ _ P) = C.R.one; rw [h, e, C.R.mul_one, C.R.mul_one]
  | true => show C.R.mul (C.R.mul (C.R.mul st.1 st.1) (C.gl _ _ P)) (C.gl _ _ P) = C.R.one; rw [h, h, e, C.R.mul_one, C.R.mul_one, C.R.mul_one]
theorem AE {α : Type} [DecidableEq α] (C : Ec α) {P : Pt α} : ∀ (l : List Bool) (st : α × Pt α), st.1 = C.R.one → st.2 = none → (C.mil none P l st).1 = C.R.one
 | [], _, e, _ => e
 | d :: r, st, e, f => by
  refine AE C r _ ?_ ?_
  ·cases d with
   | false => show C.R.mul (C.R.mul st.1 st.1) (C.gl st.2 st.2 P) = C.R.one; rw [f, C.gl_l, e, C.R.mul_one, C.R.mul_one]
   | true => show C.R.mul (C.R.mul (C.R.mul st.1 st.1) (C.gl st.2 st.2 P)) (C.gl _ none P) = C.R.one; rw [f, C.gl_l, C.gl_m, e, C.R.mul_one, C.R.mul_one, C.R.mul_one]
  ·cases d with
   | false => show C.ad st.2 st.2 = none; rw [f]; rfl
   | true => show C.ad (C.ad st.2 st.2) none = none; rw [f]; rfl
theorem v4 (l : List Bool) (Q : Pt W2) : MLv l none Q = K12.one := Ae E12 (fun A B => E12.gl_r A B) l _ rfl
theorem xr (l : List Bool) (P : Pt Zp) : MLv l P none = K12.one := AE E12 l _ rfl rfl
theorem Av (h6 : e % (PP ^ 6 - 1) = 0) (hr : e * ORD % (PP ^ 12 - 1) = 0) (he : e - 1 + 1 = e) {l : List Bool} (hl : bC l 1 = UG) {P : Pt Zp} (hP : E1.onP P) {Q : Pt W2} (hQ : E2w.onP Q) (hu : E2w.ne (E2w.times Q UG) = TW2.p Q) : ∀ k, FN e (MLv l (E1.times P k) Q) = K12.pw (FN e (MLv l P Q)) k
 | 0 => by rw [show E1.times P 0 = none from rfl, v4]; exact gb
 | k + 1 => by
  have i := Av h6 hr he hl hP hQ hu k
  rw [show E1.times P (k + 1) = E1.ad (E1.times P k) P from rfl, ← Hu h6 hr he hl (E1.times_on hP k) hP hQ hu, i]
  rfl
theorem tw_t {Q : Pt W2} (hQ : E2w.onP Q) (hu : E2w.ne (E2w.times Q UG) = TW2.p Q) (k : Nat) : E2w.ne (E2w.times (E2w.times Q k) UG) = TW2.p (E2w.times Q k) := TW2.psi_out hQ hu k
theorem Bc (h6 : e % (PP ^ 6 - 1) = 0) (hr : e * ORD % (PP ^ 12 - 1) = 0) (he : e - 1 + 1 = e) {l : List Bool} (hl : bC l 1 = UG) {P : Pt Zp} (hP : E1.onP P) {Q : Pt W2} (hQ : E2w.onP Q) (hu : E2w.ne (E2w.times Q UG) = TW2.p Q) : ∀ k, FN e (MLv l P (E2w.times Q k)) = K12.pw (FN e (MLv l P Q)) k
 | 0 => by rw [show E2w.times Q 0 = none from rfl, xr]; exact gb
 | k + 1 => by
  have i := Bc h6 hr he hl hP hQ hu k
  rw [show E2w.times Q (k + 1) = E2w.ad (E2w.times Q k) Q from rfl, ← ML_2 h6 hr he hl hP (E2w.times_on hQ k) hQ (tw_t hQ hu k) hu, i]
  rfl
end
end
section
def LN (r : W2 × W2) (s : W2) (q : Zp × Zp) : W12 := ((sb2 (ml2 s r.1) r.2, ng2 (ml2 s (re2 q.1)), ze2), (ze2, re2 q.2, ze2))
theorem HB_m (q : Zp × Zp) : HB.m q = (r6 (ze2, re2 q.1, ze2), (K6.zero, (ze2, re2 q.2, ze2))) := Prod.ext (xV (re2 q.1)) (Hm (re2 q.2))
theorem n0 : ng2 ze2 = ze2 := R2.neg_zero
theorem a0 (x : W2) : ad2 x ze2 = x := R2.add_zero x
theorem l0 (x : W2) : ad2 ze2 x = x := R2.zero_add x
theorem BM (r : W2 × W2) (s : W2) (q : Zp × Zp) : E12.ln (HE.m r) (em s) (HB.m q) = LN r s q := by
 have e1 : E12.sub (HB.m q).1 (HE.m r).1 = r6 (ng2 r.1, re2 q.1, ze2) := xB r q
 have e2 : K12.mul (em s) (r6 (ng2 r.1, re2 q.1, ze2)) = r6 (ml2 (ng2 r.1) s, ml2 (re2 q.1) s, ze2) := by
  rw [K12.mul_comm, ni]
  exact congrArg r6 (Prod.ext rfl (Prod.ext rfl (uZ s)))
 have e3 : E12.sub (HB.m q).2 (HE.m r).2 = ((ng2 r.2, ze2, ze2), (ze2, re2 q.2, ze2)) := by
  rw [HB_m, u2]
  show K12.add (K6.zero, (ze2, re2 q.2, ze2)) (K12.neg (em r.2)) = _
  refine Prod.ext (Prod.ext ?_ (Prod.ext ?_ ?_)) (Prod.ext ?_ (Prod.ext ?_ ?_))
  ·exact l0 _
  ·show ad2 ze2 (ng2 ze2) = ze2; rw [n0]; exact l0 _
  ·show ad2 ze2 (ng2 ze2) = ze2; rw [n0]; exact l0 _
  ·show ad2 ze2 (ng2 ze2) = ze2; rw [n0]; exact l0 _
  ·show ad2 (re2 q.2) (ng2 ze2) = re2 q.2; rw [n0]; exact a0 _
  ·show ad2 ze2 (ng2 ze2) = ze2; rw [n0]; exact l0 _
 unfold Ec.ln
 rw [e1, e3]
 show K12.add ((ng2 r.2, ze2, ze2), (ze2, re2 q.2, ze2)) (K12.neg (K12.mul (em s) (r6 (ng2 r.1, re2 q.1, ze2)))) = LN r s q
 rw [e2]
 refine Prod.ext (Prod.ext ?_ (Prod.ext ?_ ?_)) (Prod.ext ?_ (Prod.ext ?_ ?_))
 ·show ad2 (ng2 r.2) (ng2 (ml2 (ng2 r.1) s)) = sb2 (ml2 s r.1) r.2
  rw [gY]
  exact zq R2 [r.1, r.2, s] (ta (tn j1) (tn (tm (tn j0) j2))) (ta (tm j2 j0) (tn j1))
 ·show ad2 ze2 (ng2 (ml2 (re2 q.1) s)) = ng2 (ml2 s (re2 q.1))
  rw [l0, show ml2 (re2 q.1) s = ml2 s (re2 q.1) from R2.mul_comm _ _]
 ·show ad2 ze2 (ng2 ze2) = ze2; rw [n0]; exact l0 _
 ·show ad2 ze2 (ng2 ze2) = ze2; rw [n0]; exact l0 _
 ·show ad2 (re2 q.2) (ng2 ze2) = re2 q.2; rw [n0]; exact a0 _
 ·show ad2 ze2 (ng2 ze2) = ze2; rw [n0]; exact l0 _
def LG (a b : Pt W2) (q : Zp × Zp) : W12 := match a, b with
 | some a, some b => if a.1 = b.1 ∧ ad2 a.2 b.2 = ze2 then K12.one else LN a (E2w.slope a b) q
 | _, _ => K12.one
theorem wt {a b : W2 × W2} {s : W2} (ha : E2w.on a) (hb : E2w.on b) (ho : ¬ E2w.opp a b) (hs : E2w.Sl a b s) (q : Zp × Zp) : LG (some a) (some b) q = LN a s q := by
 rw [← E2w.sl_one (E2w.sl_slope ha hb ho) hs ho]
 exact if_neg ho
theorem LG_o {a b : W2 × W2} (h : E2w.opp a b) (q : Zp × Zp) : LG (some a) (some b) q = K12.one := if_pos h
theorem A8 {A B : Pt W2} (hA : E2w.onP A) (hB : E2w.onP B) (q : Zp × Zp) : E12.gl (HE.p A) (HE.p B) (HB.p (some q)) = LG A B q := by
 cases A with
 | none => rfl
 | some a =>
  cases B with
  | none => rfl
  | some b =>
   by_cases ho : E2w.opp a b
   ·rw [LG_o ho]
    exact E12.gl_opp (HE.opp.2 ho) _
   ·have hs := E2w.sl_slope hA hB ho
    rw [wt hA hB ho hs]
    have h := HE.sl hs
    rw [show E12.R.mul HE.w (HE.f (E2w.slope a b)) = em (E2w.slope a b) from K12.one_mul _] at h
    refine (E12.gl_sl (HE.m_on hA) (HE.m_on hB) (fun k => ho (HE.opp.1 k)) h (HB.m q)).trans ?_
    exact BM a (E2w.slope a b) q
def MSW (q : Zp × Zp) (Q : Pt W2) (d : Bool) (st : W12 × Pt W2) : W12 × Pt W2 :=
 if d then (K12.mul (K12.mul (K12.mul st.1 st.1) (LG st.2 st.2 q)) (LG (E2w.ad st.2 st.2) Q q), E2w.ad (E2w.ad st.2 st.2) Q) else (K12.mul (K12.mul st.1 st.1) (LG st.2 st.2 q), E2w.ad st.2 st.2)
def MLW (q : Zp × Zp) (Q : Pt W2) : List Bool → W12 × Pt W2 → W12 × Pt W2
 | [], st => st
 | d :: r, st => MLW q Q r (MSW q Q d st)
theorem tR (q : Zp × Zp) {Q : Pt W2} (hQ : E2w.onP Q) : ∀ (l : List Bool) (f : W12) (R : Pt W2), E2w.onP R → E12.mil (HE.p Q) (HB.p (some q)) l (f, HE.p R) = ((MLW q Q l (f, R)).1, HE.p (MLW q Q l (f, R)).2)
 | [], _, _, _ => rfl
 | d :: r, f, R, hR => by
  have h2 := E2w.ad_on hR hR
  have g1 := A8 hR hR q
  have e2 : E12.ad (HE.p R) (HE.p R) = HE.p (E2w.ad R R) := (HE.p_ad hR hR).symm
  cases d with
  | false =>
   show E12.mil (HE.p Q) (HB.p (some q)) r (K12.mul (K12.mul f f) (E12.gl (HE.p R) (HE.p R) (HB.p (some q))), E12.ad (HE.p R) (HE.p R)) = ((MLW q Q r (K12.mul (K12.mul f f) (LG R R q), E2w.ad R R)).1, HE.p (MLW q Q r (K12.mul (K12.mul f f) (LG R R q), E2w.ad R R)).2)
   rw [g1, e2]
   exact tR q hQ r _ _ h2
  | true =>
   have g2 := A8 h2 hQ q
   have e3 : E12.ad (HE.p (E2w.ad R R)) (HE.p Q) = HE.p (E2w.ad (E2w.ad R R) Q) := (HE.p_ad h2 hQ).symm
   show E12.mil (HE.p Q) (HB.p (some q)) r (K12.mul (K12.mul (K12.mul f f) (E12.gl (HE.p R) (HE.p R) (HB.p (some q)))) (E12.gl (E12.ad (HE.p R) (HE.p R)) (HE.p Q) (HB.p (some q))), E12.ad (E12.ad (HE.p R) (HE.p R)) (HE.p Q)) = ((MLW q Q r (K12.mul (K12.mul (K12.mul f f) (LG R R q)) (LG (E2w.ad R R) Q q), E2w.ad (E2w.ad R R) Q)).1, HE.p (MLW q Q r (K12.mul (K12.mul (K12.mul f f) (LG R R q)) (LG (E2w.ad R R) Q q), E2w.ad (E2w.ad R R) Q)).2)
   rw [g1, e2, g2, e3]
   exact tR q hQ r _ _ (E2w.ad_on h2 hQ)
theorem Fp (l : List Bool) (q : Zp × Zp) {Q : Pt W2} (hQ : E2w.onP Q) : MLv l (some q) Q = (MLW q Q l (K12.one, Q)).1 := congrArg Prod.fst (tR q hQ l K12.one Q hQ)
end
section
set_option maxRecDepth 1000000
def CST (q : Zp × Zp) (Q : W2 × W2) (e : Bool × W2 × W2) (st : Bool × W12 × (W2 × W2)) : Bool × W12 × (W2 × W2) :=
 let s := e.2.1
 let R := st.2.2
 let c := st.1 && decide (ml2 s (ad2 R.2 R.2) = ad2 (ad2 (ml2 R.1 R.1) (ml2 R.1 R.1)) (ml2 R.1 R.1)) && !decide (ad2 R.2 R.2 = ze2)
 let f := K12.mul (K12.mul st.2.1 st.2.1) (LN R s q)
 let T := E2w.th R R s
 bif e.1 then (c && decide (ml2 e.2.2 (E2w.sub T.1 Q.1) = E2w.sub T.2 Q.2) && !decide (E2w.sub T.1 Q.1 = ze2), K12.mul f (LN T e.2.2 q), E2w.th T Q e.2.2) else (c, f, T)
def CRN (q : Zp × Zp) (Q : W2 × W2) : List (Bool × W2 × W2) → Bool × W12 × (W2 × W2) → Bool × W12 × (W2 × W2)
 | [], st => st
 | e :: r, st => CRN q Q r (CST q Q e st)
def SLP : List (Bool × W2 × W2) := [(true, (zp 0x15a76ee3d8d1c3451005d56067cd27cf7598a85f81c23cd926ad0ec05ad6440f1df034cf36701a5831c9fb39250e2ea9, zp 0x16d96e785c797fb5d6afcb1400d7656829a6a71c42deb7ddce5cd2ccda4704dc0e4b92b69009367bbf6e6aa19488df66), (zp 0x14b92565b748c30f253912c6cf3aaa45c2b370e810ea9361db7b84172cb1e68ddd09eb1296e0f84058018a4538d64e8b, zp 0x3c50d0829bdc305ff694cc9bf914addbdcbe307142bf7cc7b8d9115b96656327dd7978009cdcddf4728a38086aebcd7)), (false, (zp 0x56ceab5d5d994dee0ca07fc0d41aa908b1a833b94e768d2dec05cffe4a869aed2a64ee86a72f085ee4e78bd4c2aef8e, zp 0x39b596a976f556e5ea4016a3111e14b674a67295a242cf3b343a6878db6ec20bcac1275d23aad6cd3e84e398a4e7bc8), ze2), (true, (zp 0x6e3ef02d1a04e74ab468f6e04f007b067140de16796e93717f97204641356999f8abc87a7d6c3a51d2dc5c2080aa3d, zp 0x1bd56d5682c8e27f4e58d1fe16609b948cecacbf47561314d3adbfd218516e28b5be780d59a6e961956b585b6151749), (zp 0x8ecc09a9c1f157a41ff8574dbd225e6d360104b08b70bcde984dbdeecb87e54d15afa1ad4d82ecc86926478060abf07, zp 0x1459dcc20ccec09d6ac723641fbd91572a9f1c1cccb841f8f081b995baf77ded82e6c1ee979b5618adb99987cc3e887f)), (false, (zp 0x75707a467e7543c28370330bea9b6e4adf41fa1060713eedb760c98b7aad959e5dfc28db5abe92a46d0ff04a4205803, zp 0x14061839f139644bb20e864718cfc9c1ee8960c06ff2c240598a8a6da7ed2bcc091f594d8b0715d2f6a16be8d5828197), ze2), (false, (zp 0x1deabfaeb3374b50119ecb98148910d6004895792caa88dad948685eedfe9d3ac7315ff9bd8fa7a943e0e3a924e7492, zp 0x7c9b05e8adef4de506459f7be98bf07cbd25fe6f4ac154f7c01f5d8a4b9368fc9cbb8ebfedf28954ae85d6e9f58c709), ze2), (true, (zp 0xee6eb50b6c77d09551c6a60826f728738a490c04918351790b28f2aca89efec977f5d8be5ab1530cd829c00c02bb5ad, zp 0xfe2b8fdab71a2b128d2ad1b08e43b756d77e33ad8d6a444a32fb2ef9c6d1098adde218e3fb06d66bf9f7d4b7015a6b4), (zp 0x14bf838fa391c4a090ebbbe743ae2a27fa167025d88ff625b3bef3953ab3e70c52b7f1fa0e81fa12d05c20409b6ab80d, zp 0xf45e1251275798ebc25a384129e9223de8b300c58513dc4d4e26bb101a87dc37eb1f2ad58f5ce986c824b89b843b64e)), (false, (zp 0x15f5f0afe4eeb7545fb13eb055c6ad903c2a3e4b9f14a8dae81217db1696daa3753ccd844396189ffbd89d01fe27fa5b, zp 0x1040f087e9a0b6633fa13692b8f5f46e2bd5fc15d81b368ac9d2464eda778b0051c1027ed3da9931ffbf361f326b7282), ze2), (false, (zp 0xf10733fed03fc5b7ae27fc457630dce3b4db45cbad696a6351c7771105a0a1096dd87f04527a34a70ec377ccd63a5b2, zp 0x855b8b1eedbf578f7498f370324634590aee6093dd239d9306991a8af53fac94e1e9b5253a208df401e3d6bf657857c), ze2), (false, (zp 0x17900cb270764782b3eca3d2ec46a86181ef1ff2f83172010bc299acce5e8da96b6b932d6c92af226aa27e2cbe8fae21, zp 0x1be7df7094ce56532653ce2da33c37fe337917d32826e1bd09104615d27b1dba405157c82358801a5440afa7826f03e), ze2), (false, (zp 0x15ed1256df8e5e5ca95b56c878630a1ca624fae6d5770503fc7cd3706f331af3de61fabf6cf96397e7b79f2fc8c8275d, zp 0xf5886abb33616f07cfac605cd5194bd83d804f9da8e5cdaffa3eb442aaeb1342a8a3887ee76aa06cc2a711c9ed0f30e), ze2), (false, (zp 0x249a870907df1494e56fc219e01fde22386755f816c125f4c2cdefe8611811647fac337765ce308dd13ea9ec917f81d, zp 0xa59546d0d9d0d18614e98790bdde01f23d77cc2219a64e16678659f6f9ca9e64f594e30c3cd52b28123518842661348), ze2), (false, (zp 0x3ca74026cf32fba56ec4ffaf56bfc4d589fd5479b90e9a3832640fbf5ff16fd5c8661358f86bbd730aa1df76e95257, zp 0x16f491b5bd383da7e70c0012e06dce324741a7e96cd8fccf402fb94e1c54fc0073a49b0577775e0ba37cd47da598900), ze2), (false, (zp 0x9a76bae205af60fb63330d38d4d0d00c4d2739ae3a0b1763a9bcdec2fe60921bf629abd453bf5d35812bbf0123c972a, zp 0x79042a88c84c694ffd3fa1257cfc1f1da9301aff5ef309c649bf53444907381a7d0f976a5e2fc320bd337a5e6bf6e59), ze2), (false, (zp 0x135ff64b4d73a3a2d0f886b2eb84e8fad6b7625c837aa2728eeaf2f380047dfe3a21b11ba36890bfc74afe64e9f3840c, zp 0xcc7efdc19164223dbcb0b43e4ee3c4f4c650fbfe5a0a3700cd16a519987e4aabf6bd8d16fa3e40ac2853a97b01176dd), ze2), (true, (zp 0x148a5374166cf336bdfb590ab3e98a0f2d52eb1fc8addbd73d021e6c59ff8b91a8fb6bd02a0d320eaaf52d68933508fe, zp 0xfbfa5d5aa28b0148c5da91a16d59eff4dc469e9a00aa1e6c9128ca3eaf8fb765006eba3df1bbeb0847972fc9cc9f5ae), (zp 0xd75df1478e683d022e71dda20b2ee156e2703ab722d3d6699c526b1363aa3d7edf86279a9db8b55b3ee3937fc331282, zp 0xf657335d9eabb7551b40995f1aed0135a3006438f62b0aa29f3faebba16ed6dc4cf9025d255e0b22ef5ea34500caaa1)), (false, (zp 0x1137f470c8f7d00baa56e5c03e76ea8acb143c96671cbc65033e67ed9f2b5e180252357114e4f467f4709129c1d6d6d7, zp 0xf23701cea5719c6d8b0d3f3bc8572953d8f42a55fe9970085a5304db0b3422f71d7ac93a2a95cfa92d0088ab1308e85), ze2), (false, (zp 0x373d7203575fda92e7b4b0239b7c7695d2524211d5341f332c9317a9c538a1808d10350e8ab375f9e79671f77c33b38, zp 0x7b03ee28e327f04166f5075f657d148ed56fbf731787b28e9d5746328bce07da2a04f4154a74ef22bb2c45a0f0992be), ze2), (false, (zp 0x18b70eb629a79ff3f983498518b16faf0521c1c5a11c352341629374ff0d1ac17362c7944d2b6e4cdcfd83a0692003b0, zp 0x11fa0abe9f21dc673b14d9174289133e7279c670978cd5690526f609b923d7ba3b37b63cf6dd615a649c30b33d8b88ac), ze2), (false, (zp 0x2fc21e36ad4d0da0a00add9bd428c9c44f9a83980265ddd5cac54906e73bae3b43599982d6310ed50636162786d1b75, zp 0x2b70c4ecc512e5b7a263f208e2d6c8495568d22744ab3f376045a0b6f715c18ef69c37a80e8a4f63bb295c1f909c9f8), ze2), (false, (zp 0x10b916005fc2476498beed417afa88358fa085d4db1d9e6f864b49b4b96dc11dcb31a6b2f313b674fee5c83040549617, zp 0x185827ff9e3c833ac46e1e1674a0ba0ae49290dd243bdc6145d1d4d76b0b03b8d7da125b0a5f1bacd2bc2f38d4e1a34d), ze2), (false, (zp 0x1274aa625858db0bb675b3bfaf508b2248a1fe6ffc5d18d0da3e0d01e0bbb52a301585cf3ce32e18da41a2016fbf41b1, zp 0xcd9b76612194b440cbd9c67af3784151a3a1a7585c177cf0df8603dfa938bc22d0aa98e4cbc0be362614fff6f6d4898), ze2), (false, (zp 0x232f7c41bf2d0ca9a4a656040864a9ec51fc3fceddf7498e96b0c22d39fbbbe7f55d6bc35a50965750c7716c237772d, zp 0x126b7366a9ba4cdc1648b905eb2d53ffa24eaa0527809305911e6efcf7cc8f0983f3a122ebd5d6880bc93e525c5283bd), ze2), (false, (zp 0x3c52126f27d2dd758ab077088f758a89df448c1dd45282d9c2237332a12d63f617991e090b1d3aaedd7ae3ae5ef62ec, zp 0x19ee364564c01cbdf0bd4257877b0d7e053d12f91fa49c91b79fc38b4398e2af5a4ac3f48bf85f2a28b11ffbcc48f29d), ze2), (false, (zp 0x287b1e39767a3c2d102a8257d4c97a8e9d64c41cf2dffa1ce9896e5addb637375420be149369971c3fc33245bb7b9cb, zp 0xdccc3a8b263abdc2c1112a2ba4e1537236425a49e10a76b09b6128f5e000427659557e16f6e6c10c2da68b535025ac5), ze2), (false, (zp 0xeba32ca0fdf04b16e700d02d09be055097f3f4285b74b299e633711f24267eeff96b84c9658e94dff575b044fd12535, zp 0x1853f7c388088cef95618ee7fc016b0e19f5a9dafe6150af099ff3b68fe53867aeee330edac31a776bf2f2a7eb8d07b1), ze2), (false, (zp 0x10e5f821e745ef290f77339938e8c939bcfc597914fa0bc4ea7d0b2339e762ea1d7417bc1393c1940f25665663934fc8, zp 0x14df29fafe098da44c7fd336e97eb8687dab2a2a640c57f41257c93b17f3e38108e6f373fb68057499c7406aa1ace48), ze2), (false, (zp 0x10ff70c91cbb8869a0659bf2337805ebca15d19f40277942937c0d4560eae2eee4b7ce1e54863ab6d50bc9ff4874b6e6, zp 0x1951ff3142b9a208e5e69e5942f145b0f85554ee195ae299cddbe3decddda92adfd9039a7b3cfe640c29faece9a85e53), ze2), (false, (zp 0x15d2f6b35415870ddc7054f2e32a1465866e01898f1f3b142c02b4ccd505fbbb8d8bd06421805f763874894483dc214c, zp 0x183abed5b2d1d128fa596426b89ca852d2ba8b3590cd530181c4e72fdd8802ef73ab15eff6749d4bc9865ee9e261110a), ze2), (false, (zp 0xab36c91eeeaabb24820b390406d92af351a91a43b294110a69e73a9a0f2894ad32c28d81f078a90be515d55a39025dd, zp 0x1029fa62305109a4d20176b9533e34319846e866ad7ddd36f64973cbec18695bfc945495873b5a72e8ea0e7d255b970a), ze2), (false, (zp 0x8bda1d762c986632aeaca1e09c08bb4fe0abcaefc921a404b66f01a40c86e83fded68478deb02d48f2ee3be7ae899ed, zp 0x6d4fe75b0153bdec12dba827c67f5884f061f219cb8ff55faddee2a55b5154b35e2696672be08cacb4795f5ddd8497f), ze2), (false, (zp 0x5a79df85b0a96adf6e2dab8a322ce58631513aed92ce0df838145c7842da8419fcaba0e89eec90cedffb5559d9f7cd6, zp 0x11b7c924610a8268c34b8259fb3d98acbbe375c161f9d2a8712f911d31ea73387b467687f36133a552f9211634fe2feb), ze2), (false, (zp 0x1971f0b4a71e609b35922e78337b308d7d37a5e715e2c6a7544aef13d7757e76ac4a6a2ca05df784a5a683833d2e1464, zp 0x503aa962b29d72a5d9f6cf2771a45a92c45f43bb070b7fd3fe5162dcc95efeedb645acb9afd8643829c2749745e919d), ze2), (false, (zp 0x1657a4b33e1400ef6e296282ea313e60d4b8240679b0175efcbc9d2df3136cbd1a372ac4bb42fc51b2f0d50a3d7a6796, zp 0x10992497f5f8bf44511213229f6a20404576105e15a4930cab44b72c1fc2f89b5eaa0345af91b402ecc6cf1a742796cf), ze2), (false, (zp 0x16691c1bdf57ba041abb3d97c8d34c6b4580edfc55e023b1234a9695204bd44f55ea4de60e51e461db9c85f42519fea6, zp 0xcfbf5ccb325675b1a3becefdee4fe1d3c64b3fedec5632647f7df16fff0877b21676607a81022cb0b3b0c523ae71819), ze2), (false, (zp 0xe743528ce0c94e1a76f2f6006448cecfde912a7d2029dbcc74774ca1af660eaed4d832930d36077b6d0262e218111c1, zp 0x133d21c52017365921207d63c8fb346621601764fa91b40acd681358d077b827cc148be2e1f8a574cee0dad622d6fead), ze2), (false, (zp 0x1902b1e10713c8d95829b014d6b5d3a93563b2103c29cec1e7983befc104f7bd4886ad3a08f8bf2310745715d8e60675, zp 0x142c2105c569b0e7aee457f14605027ef09f9b7d03fcc1c2c81c0dc22eff61dca36ea27f392c934ad398e9471a2a3e6f), ze2), (false, (zp 0x27b1b3c904791e3fa942dcd803b24ff12a9cd7524a26b87c8dd9dfb56ea54ca5c9d26e68acd42eff277e12a1c665cd8, zp 0x162f5c264c2d2728aaa1f652ee6cbf6da2000115b0cca0d89754d630e027f9217dd0fba67a880435688221e820d4164e), ze2), (false, (zp 0x13a3cf500109646aac4d69e33e86b7943ceda2cc678e671964192efc9a09299ad173b34e4a074239eac7dc93b8113ddd, zp 0x12f734fc3463dc7adb90dccbbaeda04445ec73fe1fd859d6076071bd0d45623a4cfe964789c20af4b5a694d4d6d9d45d), ze2), (false, (zp 0x65c82633f9d4d20c07f6ad4f79c2172e21b91ba79a5ea2dd1453a4587d6c2ca2341043e1ed40e3c2cfcc055cd4958d6, zp 0x18a18bd0be954bbff600c7c1403276e7635ed1cd34473d3d086bc2e62775af5eae61d9aac8398341fc07277f183c17d5), ze2), (false, (zp 0x31ae02e34d7d21957899dbef96a7955cf8a3345e89477c101ffc8c27a2046327376e250e6882416d7bc0be138e4eeb2, zp 0x1900bee131450e7d7a914ea489fb49e1a36591a6b189f964d0a0095db108dfd24e92848f148232d34a8da37b7adc99a7), ze2), (false, (zp 0x141accc8970ace156fe95a366883383b5a445ca79fc407ee3f3bd12ca9ef48ef6199a7f46231a3597b09b6d5fda5c712, zp 0x18b35a8fd65ba4cbd734a0eea368fc9a21efabd91ace37d98ff3e0c3028ea8f24ee6fb30e0c805067330b20430c585c8), ze2), (false, (zp 0xaaafef3c4298542248b3a58135c684f9ac0e0a34315e044a7d66db543d3c6a626f79dea7ee6a5f3ce669de80b52ba42, zp 0x13d96385b510deff2f4d1d32ee0060a937926e9b6d6adb90abac56946f0699334fa765e60e0b267ea1f8e8dc2b83d62e), ze2), (false, (zp 0xfc955cb99bde258d876019716b9fdec9340c8f3aefa561ca412df73ae5febbec296a5fb95db0469c00d953ee476c048, zp 0x8fd02881a5331dfb0922a3b31368cfad1bcb8ef19b9d382fb88180286d20648b40806c083c7d7a804031b10c844d0cb), ze2), (false, (zp 0x5b8f08ef767ca4cf5f36622b89e509fc5decaef9cb221f15b64b681867d0f5505b9f13931f476324f857ca9daa71d3f, zp 0xa3b4aea7c32a8fc4d9a662b03710c6daa7cac50a8ca6de8554f99004f5b1f2a21b026098f44b24a23750c8f0fa6270d), ze2), (false, (zp 0x9a64184b516425353d3342b7f1e2595a7bf3cb9644dc3a23ae401e3a2c43950dd3e14a5813cf8d46ec722731cb2e790, zp 0xaf426e78303a8cf5a43520e362a12402d4cd3c50c5a5bc14b9c5ee3da9ae172d5612c391be4ad4c913b7f23ef8afc45), ze2), (false, (zp 0xdd9144f8c45e6091a6714d772bf4739ae7b1a8652c823a2aca6cfb5457ca1adc99138fe3c31209a4897e0f66a542078, zp 0xda6ef8b0ede3a09d1a5c00b21acf101ca7ff6cd9129e67a30ff4bdf679bd4a2b87fa34cc8942e9d5abaeec4938f2308), ze2), (true, (zp 0xea4a92fd6a7fada6c37e836f596f65d4b4a37bb57a0834973113079387e96d6d637efa84423b0a3a6bf47efd924c3dd, zp 0x5b7be247f2850b9608773bab9b9db45ba9d0959b3bd8de5770a36eaa83f3dcc1d95b34760a0823f91354f28328297ee), (zp 0x1142615b871d4c4963ef8ed842f9a579c71af04bbc4b9297c161b22f8b6c5a58a8fb3af7ec52a6b7026c9e97f3d6b0f8, zp 0x78e5e678d7c7e2754875c536346f6c41cfb8f5fdb95af2c9163b27340c90d31ae05f3aaa202c3156a09893b72234b5e)), (false, (zp 0xa0bad126c265d46d51689b72d7dd2e4d3d0945ac3d9cb888b9250b2bed82359a757e1269c4a4d3c7bb2576aeac0337b, zp 0x133a4335f59c0259f1a3ff195a51b1c4671888accdca74afa50259b7484098611c2cb9fdf65a98dff64d2a0fc947454f), ze2), (false, (zp 0xfb69c6a2cbfc9dfb9b0142745ea7f0421cb2dd4e5b4ed7b1142cd575c788d8d19a24ba9dd3830612c58d544327ca0f0, zp 0x10635d3a601f92ab21801ab8e85be88d689d67e6e9835268f7cee1313a095fe9e31b7072875ab3c75d3a4e43d10b2503), ze2), (false, (zp 0x28a36f542a28f6997a811fc2ce6cbed2508c5d828082677745110cbba12e028cd54150ccc1f58585e1d7b5bd45c4c1f, zp 0xac2c40f46751f043fe2833bd583e9bfd967becef21bf75f65d407bf06f076619981fe2e541d567dcc7fbea97520cd94), ze2), (false, (zp 0x125e8f976f7536a2e85ea3cfefd8d2d0063990aea5570748e35370c03766b0439ba9bc0cf8c9e8b4405badfa94226735, zp 0xc0299d504b8b7bb5ff23b7fce15918bb8dbd901b96858640d5946aef2f36a4cb42aee9b8f2d3d1bd687824c71ce27fa), ze2), (false, (zp 0x182115eb42220d34f08e487de33ed175b6d1a029dda7c9aa05a1ef8d1d2c315dd8bc62125863cf017f4f31c0054a3612, zp 0xfc2db9cb25d08faf7c8327f5daebc21a409de8913242d73b8d9e10bc6022a0994e39a0b90bfad204b39a3cbcac7b4), ze2), (false, (zp 0x159ff2806d40ff15099d52045de59d8956f5a84da299063ef6c216059e7a2a6b1a09d23cd53473f5ac7b5e99de412ea4, zp 0x69a7d5ac5a38cce584e0b0f05b60b25f325eb68e4cbd45d0014e4ca22ebdbc559a20177fdccb0d7c9716c23df3ced8f), ze2), (false, (zp 0x142182d337d4bdd0a9dc0152289c80bcf75761bc030bda9dcfd112580006deba5077fd8a5edf9450f71e9104f1c374e9, zp 0x113f465ca312058e0cd541d6b90435a9e7260873c34a0cd455f40359611c687f96c91dbee3f1affdcbbd3809a6881f8e), ze2), (false, (zp 0x10933118bcf1940615957a6c1c7bca0054ff60c0db1566767322d2c5cd33e33d6fd2e0ca2639eca99f5b1f6e6d095faa, zp 0x14ef91f0b47d2bf1313ba159c090bf9a071c2af83528b3613d49af8c8914a7628366761443e0d74cf14359d83cc60326), ze2), (false, (zp 0x5cf357e8473bba00386d2380ef2bbb3e118498031e2471fae5017af4c09ed67c5c2e5257a3deb7872768f839060087e, zp 0x82938f41814229b1224b32b425aed5972aa5f4b4d21ffc7a3913baa2c3f8f7499ac76a63b373a0d0a649113f5c7b2fe), ze2), (false, (zp 0x13847679c97ef8978b3f64c9ba622ef466154b88c6206dc00a65c7c83d9e863106be2e6e6acbdd11b2e3bf3c4e9a8fc7, zp 0x5c65be3c6a8b37e95aaa4725d46595304e94133e1524dc41b86d1ea5e2cb0e5656952930a29270a27fe8eff7ff52747), ze2), (false, (zp 0x78af2f8549231aa92bba1b374d54bf4748e38d3b2c782b3c9d8a7b7d87389e25b856b97ee48f089c7a4594a201092eb, zp 0x157a7e87571314c4eeffcc641151b627d67176b268c6b18bf425406455688e07fe496eb261acc46ca422be84be4fee75), ze2), (false, (zp 0x8f022244af0b719146e8cfb7409e84a31ef57e217e3d45daa059fc26f53a4b15d861e5d1b9ff207335fcb7b28f48654, zp 0x72c117c18b8dfa89321c27cec88b9f86c99799b380ebac98fde2d5c9ef41c16128658961fa9d79eb0320e586c2d096a), ze2), (false, (zp 0x86675ec3781ecc255b9b8f657bd72dc32622552c01c3a14efa70797ab04d5777f18cae0d8934218abbe5eda42e0374, zp 0x99b7b955ea60c02306dd0199067fb6cb2810aa19e5e838d4d7d18f24dc5139d8829c6be0db3cdd784259d6f00a05188), ze2), (false, (zp 0xf16056dd2e8b5f8240d4ac75aac0cfc9b43343826136afbd4f0931c31459109811008d17464425eeb75a1d3a3486fba, zp 0x134957b7abe963c5d074abc911c5cbb3ae17332e06f5b415438805278ea9e18b001cf7daee0993ef125a22747400b5ea), ze2), (false, (zp 0x2d6c8112234d7f18ea478ea7df5eabb84672fab4d4a6e1014e0585cd696c72e9adb4736ed72eccb4e30eeaf3b992446, zp 0x444323d14c7a3549b9f6b2738ce286aeea4511ddcb23d59ff0488c63a739029f85aec2295586dac212579b39f39df97), ze2), (false, (zp 0x65fb0c0d47de8795557bd2f9f4eb741ac78b510ccf452abbc66726ddee31b37d058d7e5bdda2d3c31051f4071ae2945, zp 0x7f9fda3fa03c5295720441d73a813ffff40ee810a12214b0d4ee64da91ea67b8a4525b4b9c37518dd4a05df7a4d6dc1), ze2)]
def tg : W12 := (((zp 0x751557ccd0e568de8f2b6c9f8f0c3bcbd02d177144b44df610160b7a5c9df7b7084529642e3f9f6c6a0c093f01edb9a, zp 0x3a018fa8cb36c23248e299ea03286248eeed1f2c477cfb32d68411a7a4c39c8741d2f067c4dd900046c11057db6c575), (zp 0x687e3f086b7fe854eb89ec494de48b9e990f2ab5c5fe133e1208a380c74369889fb3d2a78177955e698be2dd2fb45c3, zp 0x3acc6bf13ea3ac3b01a5c03abfef0c65cef58c07e598ffa21262310c5c2546736e1ee12c6dae45c57cf14fdb4e6267a), (zp 0x7dda3a1efb947cc5d9b7061a85915bf24fb6353fe36d140edbff59fb68939a96ee5b7ab1a42c199edce862e308ff8f1, zp 0x10cc233519fa1da957cef3a4a301bf377e55ec0d97992861f1b11d171adf7408eff43fd7b9da15f8b4457b89b4436c89)), ((zp 0x561a60b89349ab4c1588e00f947f89e0399f1db01e296680a8676d7a09c1aa0228137835f3785c862c07a51633e9827, zp 0x942697638f329bab144afd26647be9054081e8cbded9967d18dc6743108dd74a3c9192e0144f5f2e49b3c2a6dcc8031), (zp 0xb236d849561bab4b1f77b57cb239fea2be7fe053dad9633df74103a97aea745b282344eb89cefc69cef32172fd991ca, zp 0xb72354a46c6ab3f59daa873619913479319807d21d60483fcac8615a4947d9e963d2162b242d34a16a3b267671044b2), (zp 0xecae24d88e6a1c653c20e9a46d901d9cb46546b243182a91bfdfa4742a7e961ccf3ee8c5babca70e8635cfd91b9e4eb, zp 0x19a1163b48107ce80131adee28ba723847b582239eb55a22663968b12bdbc72c03f16a1ccd75cc6e8b84f06847c637c6)))
theorem sf : (CRN G1p G2p SLP (true, K12.one, G2p)).1 = true ∧ (CRN G1p G2p SLP (true, K12.one, G2p)).2.1 = tg := by decide +kernel
theorem EA {q : Zp × Zp} {Q : W2 × W2} {e : Bool × W2 × W2} {st : Bool × W12 × (W2 × W2)} (h : (CST q Q e st).1 = true) : st.1 = true := by
 obtain ⟨d, s, t⟩ := e
 cases d <;> simp [CST] at h
 ·exact h.1.1
 ·exact h.1.1.1.1
theorem wV {q : Zp × Zp} {Q : W2 × W2} : ∀ (l : List (Bool × W2 × W2)) (st : Bool × W12 × (W2 × W2)), (CRN q Q l st).1 = true → st.1 = true
 | [], _, h => h
 | _ :: r, _, h => EA (wV r _ h)
theorem Fo {q : Zp × Zp} {Q : W2 × W2} (hQ : E2w.on Q) (e : Bool × W2 × W2) (c : Bool) (f : W12) (R : W2 × W2) (hR : E2w.on R) (h : (CST q Q e (c, f, R)).1 = true) : MSW q (some Q) e.1 (f, some R) = ((CST q Q e (c, f, R)).2.1, some (CST q Q e (c, f, R)).2.2) ∧ E2w.on (CST q Q e (c, f, R)).2.2 := by
 obtain ⟨d, s, t⟩ := e
 have dbl : (ml2 s (ad2 R.2 R.2) = ad2 (ad2 (ml2 R.1 R.1) (ml2 R.1 R.1)) (ml2 R.1 R.1)) ∧ ¬ ad2 R.2 R.2 = ze2 := by
  cases d <;> simp [CST] at h
  ·exact ⟨h.1.2, h.2⟩
  ·exact ⟨h.1.1.1.2, h.1.1.2⟩
 have hs : E2w.Sl R R s := ⟨by
  show ml2 s (E2w.sub R.1 R.1) = E2w.sub R.2 R.2
  rw [E2w.sub_self, E2w.sub_self]; exact R2.mul_zero s, dbl.1⟩
 have ho : ¬ E2w.opp R R := fun k => dbl.2 k.2
 have hT : E2w.on (E2w.th R R s) := E2w.th_on hR hs
 have eA : E2w.ad (some R) (some R) = some (E2w.th R R s) := E2w.ad_sl hR hR ho hs
 have eL : LG (some R) (some R) q = LN R s q := wt hR hR ho hs q
 cases d with
 | false =>
  refine ⟨?_, hT⟩
  show (K12.mul (K12.mul f f) (LG (some R) (some R) q), E2w.ad (some R) (some R)) = _
  rw [eL, eA]; rfl
 | true =>
  have ad : (ml2 t (E2w.sub (E2w.th R R s).1 Q.1) = E2w.sub (E2w.th R R s).2 Q.2) ∧ ¬ E2w.sub (E2w.th R R s).1 Q.1 = ze2 := by
   simp [CST] at h
   exact ⟨h.1.2, h.2⟩
  have h3 : (CST q Q (true, s, t) (c, f, R)).2.2 = E2w.th (E2w.th R R s) Q t := rfl
  have h4 : (CST q Q (true, s, t) (c, f, R)).2.1 = K12.mul (K12.mul (K12.mul f f) (LN R s q)) (LN (E2w.th R R s) t q) := rfl
  generalize E2w.th R R s = T at *
  have ho2 : ¬ E2w.opp T Q := fun k => ad.2 (by rw [k.1]; exact E2w.sub_self _)
  obtain ⟨s', hs'⟩ := E2w.sl_is hT hQ ho2
  have e0 : ml2 (E2w.sub t s') (E2w.sub T.1 Q.1) = ze2 := by
   have k1 : ml2 t (E2w.sub T.1 Q.1) = ml2 s' (E2w.sub T.1 Q.1) := ad.1.trans hs'.1.symm
   have k2 : ml2 (E2w.sub t s') (E2w.sub T.1 Q.1) = E2w.sub (ml2 t (E2w.sub T.1 Q.1)) (ml2 s' (E2w.sub T.1 Q.1)) := zq R2 [t, s', E2w.sub T.1 Q.1] (tm (ta j0 (tn j1)) j2) (ta (tm j0 j2) (tn (tm j1 j2)))
   rw [k2, k1]; exact E2w.sub_self _
  have et : t = s' := E2w.sub0 ((E2w.fd.two e0).resolve_right ad.2)
  subst et
  refine ⟨?_, by rw [h3]; exact E2w.th_on hQ hs'⟩
  show (K12.mul (K12.mul (K12.mul f f) (LG (some R) (some R) q)) (LG (E2w.ad (some R) (some R)) (some Q) q), E2w.ad (E2w.ad (some R) (some R)) (some Q)) = _
  rw [eL, eA, wt hT hQ ho2 hs', E2w.ad_sl hT hQ ho2 hs', h3, h4]
theorem Ax {q : Zp × Zp} {Q : W2 × W2} (hQ : E2w.on Q) : ∀ (l : List (Bool × W2 × W2)) (c : Bool) (f : W12) (R : W2 × W2), E2w.on R → (CRN q Q l (c, f, R)).1 = true → (MLW q (some Q) (l.map (·.1)) (f, some R)).1 = (CRN q Q l (c, f, R)).2.1
 | [], _, _, _, _, _ => rfl
 | e :: r, c, f, R, hR, h => by
  obtain ⟨k, hk⟩ := Fo hQ e c f R hR (wV r _ h)
  show (MLW q (some Q) (r.map (·.1)) (MSW q (some Q) e.1 (f, some R))).1 = (CRN q Q r (CST q Q e (c, f, R))).2.1
  rw [k]
  exact Ax hQ r _ _ _ hk h
def L63 : List Bool := SLP.map (·.1)
theorem ld : bC L63 1 = UG := by decide +kernel
theorem xx : MLv L63 (some G1p) (some G2p) = tg := by
 rw [Fp L63 G1p (Q := some G2p) le]
 exact (Ax le SLP true K12.one G2p le sf.1).trans sf.2
/-! ### The power -/
def PB (x : W12) : List Bool → W12 → W12
 | [], a => a
 | true :: r, a => PB x r (K12.mul (K12.mul a a) x)
 | false :: r, a => PB x r (K12.mul a a)
theorem wS (x : W12) : ∀ (l : List Bool) (n : Nat), PB x l (K12.pw x n) = K12.pw x (bC l n)
 | [], _ => rfl
 | true :: r, n => by
  rw [PB, K12.bt_y x (m := 2 * n + 1) rfl]; exact wS x r _
 | false :: r, n => by
  rw [PB, K12.bt_n x (m := 2 * n) rfl]; exact wS x r _
def tB (x : W12) : W12 := bu (PB x L63 x)
theorem Fi : tnd UG = tB := funext fun x => by
 have h := wS x L63 1
 rw [ld, K12.pw_one] at h
 rw [tnd, tB, h]
def GL2 : W2 := (-(zp CNn), zp CNn)
def FRL (x : W12) : W12 := ((ml2 (cj2 x.1.1) (pw2 GL2 0), ml2 (cj2 x.1.2.1) (pw2 GL2 2), ml2 (cj2 x.1.2.2) (pw2 GL2 4)), (ml2 (cj2 x.2.1) (pw2 GL2 1), ml2 (cj2 x.2.2.1) (pw2 GL2 3), ml2 (cj2 x.2.2.2) (pw2 GL2 5)))
theorem DD : bp = FRL := funext fun x => by
 unfold bp FRL
 rw [qq]; rfl
def FB (t fr : W12 → W12) (x g : W12) : W12 :=
 let y := (fun z => K12.mul (fr (fr z)) z) (K12.mul (bu x) g)
 let a := (fun z => K12.mul (t z) (bu z)) ((fun z => K12.mul (t z) (bu z)) y)
 let b := (fun z => K12.mul (t z) (fr z)) a
 K12.mul (K12.mul (K12.mul ((fun z => K12.mul (K12.mul (t (t z)) (fr (fr z))) (bu z)) b) y) y) y
theorem FC (x : W12) : kG UG x = FB (tnd UG) bp x (fq x) := rfl
def Bh : W12 := (((zp 0xce727e858bbb9928346f5f63078338c7240c3c0f51d0d8fc9a8f3b8a5fed6405148c0b3b78ba0a9bc9a422e4c4bb728, zp 0x14ce6b96183974c58f58cd74bd7c3b080f0d4de47339d2418829ee96bbbfee14c081679e859a685d4f16c798234f6b2f), (zp 0x2451f6353159b095014fbfd0e128e40540103d69fdc7e3e95283fcebb2d1d938c54d6edccbffc7e52ee9c3e18b1e220, zp 0xa246ca94d81b403c032955435a445a2c05098cd3889dcb11fe7e1797ee812367a710b5f31205b84f828730ca165f490), (zp 0x26f25bfba3b1e45506f413dd9cd9a24e462e0f20df53918999da0b3fa0721e965c265cb64107666f43035a69cd7facf, zp 0x15b7f16e466d2aa21a692e40767e3253951e28ed56b53ad4c4d8fa768411025c5d9d5d8ea3e72bf26704d14dbb508efc)), ((zp 0x3266b63a5f104086324367e0d66992cb27853afa44126409a7bd2d906bc8be1e454716eeb0857866883225b50d0ce9b, zp 0x163715665461fe08dc8a265b4dd5dfed3eb47f2e76ce6eace292457ed334257792d8d9466ca14e77473ada42bd9f38b0), (zp 0x13af347b51c3b839e912192461f574243bddb4f2eaeb526ce8147722964ad520e2e8a22bd8f375fa3b9fc473cf207a44, zp 0x37009aa7a6ad750b9dad9423274f8d9725ae96f136a10316b6026ac37ecc0afd2eb082edae871555f4875ed92364c15), (zp 0xd278227e1eb20596407fd509534c958a725b6fa487995cdb6ab119621ba8cd9572b86ce8dedf41fd03a897624967acc, zp 0x193b4f09ebca8d5ba691493455ac94c9de769317c75af61e46fec0ec4159b1d0666cd93f079f9b6838eacbf8e3fcb7c3)))
theorem EZ : K12.mul tg Bh = K12.one := by decide +kernel
theorem Fy : tg ≠ K12.zero := by decide +kernel
theorem M_iv : fq tg = Bh := K12.inv_one (ij Fy) EZ
theorem Gq : FB tB FRL tg Bh ≠ K12.one := by decide +kernel
theorem Bo : FN FE (MLv L63 (some G1p) (some G2p)) ≠ K12.one := by
 rw [xx, FN, ← wU, FC, Fi, DD, M_iv]
 exact Gq
end
section
theorem i2 (x : W12) : ∀ n, bu (K12.pw x n) = K12.pw (bu x) n
 | 0 => dM
 | n + 1 => by rw [Rg.pw, fu, i2 x n]; rfl
def PR (l : List Bool) (e : Nat) (P : Pt Zp) (Q : Pt W2) : W12 := FN e (bu (MLv l P Q))
theorem iC (l : List Bool) (e : Nat) (P : Pt Zp) (Q : Pt W2) : PR l e P Q = bu (FN e (MLv l P Q)) := (i2 _ e).symm
section
variable {e : Nat} {l : List Bool}
theorem zN (h6 : e % (PP ^ 6 - 1) = 0) (hr : e * ORD % (PP ^ 12 - 1) = 0) (he : e - 1 + 1 = e) (hl : bC l 1 = UG) {P : Pt Zp} (hP : E1.onP P) {Q : Pt W2} (hQ : E2w.onP Q) (hq : E2w.times Q ORD = none) (k : Nat) : PR l e (E1.times P k) Q = K12.pw (PR l e P Q) k := by
 rw [iC, iC, Av h6 hr he hl hP hQ ((vD hQ).2 hq), i2]
theorem AF (h6 : e % (PP ^ 6 - 1) = 0) (hr : e * ORD % (PP ^ 12 - 1) = 0) (he : e - 1 + 1 = e) (hl : bC l 1 = UG) {P : Pt Zp} (hP : E1.onP P) {Q : Pt W2} (hQ : E2w.onP Q) (hq : E2w.times Q ORD = none) (k : Nat) : PR l e P (E2w.times Q k) = K12.pw (PR l e P Q) k := by
 rw [iC, iC, Bc h6 hr he hl hP hQ ((vD hQ).2 hq), i2]
theorem PR_1 (h6 : e % (PP ^ 6 - 1) = 0) (hr : e * ORD % (PP ^ 12 - 1) = 0) (he : e - 1 + 1 = e) (hl : bC l 1 = UG) {P P' : Pt Zp} (hP : E1.onP P) (hP' : E1.onP P') {Q : Pt W2} (hQ : E2w.onP Q) (hq : E2w.times Q ORD = none) : K12.mul (PR l e P Q) (PR l e P' Q) = PR l e (E1.ad P P') Q := by
 rw [iC, iC, iC, ← fu, Hu h6 hr he hl hP hP' hQ ((vD hQ).2 hq)]
theorem G7 (Q : Pt W2) : PR l e none Q = K12.one := by rw [PR, v4, dM]; exact gb
theorem GW (P : Pt Zp) : PR l e P none = K12.one := by rw [PR, xr, dM]; exact gb
end
/-! ### The generators' -/
def EG : W12 := PR L63 FE (some G1p) (some G2p)
theorem Aq : EG ≠ K12.one := fun h => Bo (by
 have k := congrArg bu h
 rw [EG, iC, jo, dM] at k
 exact k)
theorem EG_r : K12.pw EG ORD = K12.one := by
 rw [EG, iC, ← i2, D9 sK (by rw [xx]; exact Fy), dM]
end
section
section
variable {α : Type} (C : Ec α)
def Ec.t3 (x : α) : α := C.R.add (C.R.add (C.R.mul x x) (C.R.mul x x)) (C.R.mul x x)
def Ec.wdL (J : α × α × α) : α × α × α := (C.sub (C.R.mul (C.t3 J.1) J.1) (C.R.mul (C.R.add J.2.1 J.2.1) J.2.1), C.R.mul (C.t3 J.1) (C.R.mul J.2.2 J.2.2), C.R.mul (C.R.mul J.2.2 (C.R.add J.2.1 J.2.1)) (C.R.mul J.2.2 J.2.2))
def Ec.wdJ (J : α × α × α) : α × α × α :=
 let u := C.t3 J.1
 let d := C.R.mul (C.R.add J.2.1 J.2.1) J.2.1
 let h := C.R.add d d
 let b := C.R.mul h J.1
 let X := C.sub (C.sub (C.R.mul u u) b) b
 (X, C.sub (C.R.mul u (C.sub b X)) (C.R.mul h d), C.R.mul J.2.2 (C.R.add J.2.1 J.2.1))
def Ec.wjU (J : α × α × α) (q : α × α) : α := C.sub (C.R.mul (C.R.mul q.2 (C.R.mul J.2.2 J.2.2)) J.2.2) J.2.1
def Ec.wjA (J : α × α × α) (q : α × α) : α := C.sub (C.R.mul q.1 (C.R.mul J.2.2 J.2.2)) J.1
def Ec.wjL (J : α × α × α) (q : α × α) : α × α × α := (C.sub (C.R.mul (C.wjU J q) q.1) (C.R.mul (C.R.mul J.2.2 (C.wjA J q)) q.2), C.wjU J q, C.R.mul J.2.2 (C.wjA J q))
def Ec.wjJ (J : α × α × α) (q : α × α) : α × α × α :=
 let u := C.wjU J q
 let a := C.wjA J q
 let s := C.R.mul a a
 let t := C.R.mul s a
 let b := C.R.mul s J.1
 let X := C.sub (C.sub (C.sub (C.R.mul u u) t) b) b
 (X, C.sub (C.R.mul u (C.sub b X)) (C.R.mul t J.2.1), C.R.mul J.2.2 a)
theorem Ec.wdJ_dbA (J : α × α × α) : C.wdJ J = C.dbA J := C.dbl_ext (C.t3 J.1)
 (zq C.R [J.1, J.2.1, J.2.2] (tm (ta (tm (ta j1 j1) j1) (tm (ta j1 j1) j1)) j0) (tm (tm (ta j1 j1) (ta j1 j1)) j0))
 (zq C.R [J.1, J.2.1, J.2.2] (tm (ta (tm (ta j1 j1) j1) (tm (ta j1 j1) j1)) (tm (ta j1 j1) j1)) (tm (tm (tm (ta j1 j1) (ta j1 j1)) (ta j1 j1)) j1))
 rfl
theorem Ec.wjJ_adG (J : α × α × α) (q : α × α) : C.adG J (q.1, q.2, C.R.one) = C.wjJ J q := by
 unfold Ec.adG
 simp only [C.R.mul_one]
 rfl
theorem Ec.wdL_ln {a : α × α} {J : α × α × α} (h : C.jr J (some a)) {s : α} (hs : C.R.mul s (C.R.add a.2 a.2) = C.t3 a.1) : (C.wdL J).1 = C.R.mul (C.wdL J).2.2 (C.sub (C.R.mul s a.1) a.2) ∧ (C.wdL J).2.1 = C.R.mul (C.wdL J).2.2 s := by
 have hx : J.1 = C.R.mul a.1 (C.R.mul J.2.2 J.2.2) := h.2.1
 have hy : J.2.1 = C.R.mul a.2 (C.R.mul (C.R.mul J.2.2 J.2.2) J.2.2) := h.2.2
 have hs : C.R.mul s (C.R.add a.2 a.2) = C.R.add (C.R.add (C.R.mul a.1 a.1) (C.R.mul a.1 a.1)) (C.R.mul a.1 a.1) := hs
 unfold Ec.wdL
 rw [hx, hy]
 exact ⟨Rg.lc (R := C.R) (zq C.R [a.1, a.2, J.2.2, s] (ta (ta (tm (ta (ta (tm (tm j0 (tm j2 j2)) (tm j0 (tm j2 j2))) (tm (tm j0 (tm j2 j2)) (tm j0 (tm j2 j2)))) (tm (tm j0 (tm j2 j2)) (tm j0 (tm j2 j2)))) (tm j0 (tm j2 j2))) (tn (tm (ta (tm j1 (tm (tm j2 j2) j2)) (tm j1 (tm (tm j2 j2) j2))) (tm j1 (tm (tm j2 j2) j2))))) (tm (tn (tm (tm (tm j2 j2) (tm (tm j2 j2) (tm j2 j2))) j0)) (ta (ta (tm j0 j0) (tm j0 j0)) (tm j0 j0)))) (ta (tm (tm (tm j2 (ta (tm j1 (tm (tm j2 j2) j2)) (tm j1 (tm (tm j2 j2) j2)))) (tm j2 j2)) (ta (tm j3 j0) (tn j1))) (tm (tn (tm (tm (tm j2 j2) (tm (tm j2 j2) (tm j2 j2))) j0)) (tm j3 (ta j1 j1))))) (lcm hs), Rg.lc (R := C.R) (zq C.R [a.1, a.2, J.2.2, s] (ta (tm (ta (ta (tm (tm j0 (tm j2 j2)) (tm j0 (tm j2 j2))) (tm (tm j0 (tm j2 j2)) (tm j0 (tm j2 j2)))) (tm (tm j0 (tm j2 j2)) (tm j0 (tm j2 j2)))) (tm j2 j2)) (tm (tn (tm (tm j2 j2) (tm (tm j2 j2) (tm j2 j2)))) (ta (ta (tm j0 j0) (tm j0 j0)) (tm j0 j0)))) (ta (tm (tm (tm j2 (ta (tm j1 (tm (tm j2 j2) j2)) (tm j1 (tm (tm j2 j2) j2)))) (tm j2 j2)) j3) (tm (tn (tm (tm j2 j2) (tm (tm j2 j2) (tm j2 j2)))) (tm j3 (ta j1 j1))))) (lcm hs)⟩
theorem Ec.wjL_ln {a q : α × α} {J : α × α × α} (h : C.jr J (some a)) {s : α} (hs : C.R.mul s (C.sub a.1 q.1) = C.sub a.2 q.2) : (C.wjL J q).1 = C.R.mul (C.wjL J q).2.2 (C.sub (C.R.mul s a.1) a.2) ∧ (C.wjL J q).2.1 = C.R.mul (C.wjL J q).2.2 s := by
 have hx : J.1 = C.R.mul a.1 (C.R.mul J.2.2 J.2.2) := h.2.1
 have hy : J.2.1 = C.R.mul a.2 (C.R.mul (C.R.mul J.2.2 J.2.2) J.2.2) := h.2.2
 unfold Ec.wjL Ec.wjU Ec.wjA
 rw [hx, hy]
 exact ⟨Rg.lc (R := C.R) (zq C.R [a.1, a.2, J.2.2, s, q.1, q.2] (ta (ta (tm (ta (tm (tm j5 (tm j2 j2)) j2) (tn (tm j1 (tm (tm j2 j2) j2)))) j4) (tn (tm (tm j2 (ta (tm j4 (tm j2 j2)) (tn (tm j0 (tm j2 j2))))) j5))) (tm (tm (tm (tm j2 j2) j2) j0) (ta j1 (tn j5)))) (ta (tm (tm j2 (ta (tm j4 (tm j2 j2)) (tn (tm j0 (tm j2 j2))))) (ta (tm j3 j0) (tn j1))) (tm (tm (tm (tm j2 j2) j2) j0) (tm j3 (ta j0 (tn j4)))))) (lcm hs), Rg.lc (R := C.R) (zq C.R [a.1, a.2, J.2.2, s, q.1, q.2] (ta (ta (tm (tm j5 (tm j2 j2)) j2) (tn (tm j1 (tm (tm j2 j2) j2)))) (tm (tm (tm j2 j2) j2) (ta j1 (tn j5)))) (ta (tm (tm j2 (ta (tm j4 (tm j2 j2)) (tn (tm j0 (tm j2 j2))))) j3) (tm (tm (tm j2 j2) j2) (tm j3 (ta j0 (tn j4)))))) (lcm hs)⟩
theorem Ec.wdL_ne {a : α × α} {J : α × α × α} (h : C.jr J (some a)) (ha : a.2 ≠ C.R.zero) : (C.wdL J).2.2 ≠ C.R.zero := by
 have hy : J.2.1 ≠ C.R.zero := by rw [h.2.2]; exact C.mul_ne ha (C.z3_ne h.1)
 exact C.mul_ne (C.mul_ne h.1 fun e => hy (C.dbl0 e)) (C.z2_ne h.1)
theorem Ec.wjA_ne {a q : α × α} {J : α × α × α} (h : C.jr J (some a)) (ha : a.1 ≠ q.1) : C.wjA J q ≠ C.R.zero := fun e => ha (by
 have hx : J.1 = C.R.mul a.1 (C.R.mul J.2.2 J.2.2) := h.2.1
 have k := C.sub0 e
 rw [hx] at k
 exact (C.mul_can (C.z2_ne h.1) k).symm)
theorem Ec.wjL_ne {a q : α × α} {J : α × α × α} (h : C.jr J (some a)) (ha : a.1 ≠ q.1) : (C.wjL J q).2.2 ≠ C.R.zero := C.mul_ne h.1 (C.wjA_ne h ha)
end
section
variable {α : Type} [DecidableEq α] (C : Ec α)
theorem Ec.wdJ_jr {J : α × α × α} {P : Pt α} (hP : C.onP P) (h : C.jr J P) : C.jr (C.wdJ J) (C.ad P P) := by rw [C.wdJ_dbA]; exact C.dbA_jr hP h
theorem Ec.wjJ_jr {J : α × α × α} {a q : α × α} (h1 : C.R.one ≠ C.R.zero) (ha : C.on a) (hq : C.on q) (h : C.jr J (some a)) (hn : a.1 ≠ q.1) : C.jr (C.wjJ J q) (C.ad (some a) (some q)) := by
 have k := C.adA_jr (P := some a) (Q := some q) ha hq h (C.jr_at q h1)
 have e : C.jh J.1 J.2.2 q.1 C.R.one ≠ C.R.zero := fun e => C.wjA_ne h hn (by
  show C.sub (C.R.mul q.1 (C.R.mul J.2.2 J.2.2)) J.1 = C.R.zero
  have e : C.sub (C.R.mul q.1 (C.R.mul J.2.2 J.2.2)) (C.R.mul J.1 (C.R.mul C.R.one C.R.one)) = C.R.zero := e
  rw [C.R.mul_one, C.R.mul_one] at e
  exact e)
 rw [show C.adA J (q.1, q.2, C.R.one) = C.adG J (q.1, q.2, C.R.one) from (if_neg h.1).trans ((if_neg h1).trans (if_neg e)), C.wjJ_adG] at k
 exact k
end
theorem ET (c : W2) (y : W12) : K12.mul (em c) y = ((ml2 c y.1.1, ml2 c y.1.2.1, ml2 c y.1.2.2), (ml2 c y.2.1, ml2 c y.2.2.1, ml2 c y.2.2.2)) :=
 Prod.ext (Prod.ext (zq R2 [c, y.1.1, y.1.2.1, y.1.2.2, y.2.1, y.2.2.1, y.2.2.2, XI] (ta (ta (tm j0 j1) (tm j7 (ta (tm tz0 j3) (tm tz0 j2)))) (ta (tm tz0 (ta (tm tz0 j4) (tm j7 (ta (tm tz0 j6) (tm tz0 j5))))) (tm j7 (ta (tm to1 (ta (ta (tm tz0 j6) (tm tz0 j5)) (tm tz0 j4))) (tm tz0 (ta (ta (tm tz0 j5) (tm tz0 j4)) (tm j7 (tm tz0 j6)))))))) (tm j0 j1)) (Prod.ext (zq R2 [c, y.1.1, y.1.2.1, y.1.2.2, y.2.1, y.2.2.1, y.2.2.2, XI] (ta (ta (ta (tm j0 j2) (tm tz0 j1)) (tm j7 (tm tz0 j3))) (ta (ta (tm tz0 (ta (ta (tm tz0 j5) (tm tz0 j4)) (tm j7 (tm tz0 j6)))) (tm to1 (ta (tm tz0 j4) (tm j7 (ta (tm tz0 j6) (tm tz0 j5)))))) (tm j7 (tm tz0 (ta (ta (tm tz0 j6) (tm tz0 j5)) (tm tz0 j4)))))) (tm j0 j2)) (zq R2 [c, y.1.1, y.1.2.1, y.1.2.2, y.2.1, y.2.2.1, y.2.2.2, XI] (ta (ta (ta (tm j0 j3) (tm tz0 j2)) (tm tz0 j1)) (ta (ta (tm tz0 (ta (ta (tm tz0 j6) (tm tz0 j5)) (tm tz0 j4))) (tm to1 (ta (ta (tm tz0 j5) (tm tz0 j4)) (tm j7 (tm tz0 j6))))) (tm tz0 (ta (tm tz0 j4) (tm j7 (ta (tm tz0 j6) (tm tz0 j5))))))) (tm j0 j3)))) (Prod.ext (zq R2 [c, y.1.1, y.1.2.1, y.1.2.2, y.2.1, y.2.2.1, y.2.2.2, XI] (ta (ta (tm j0 j4) (tm j7 (ta (tm tz0 j6) (tm tz0 j5)))) (ta (tm tz0 j1) (tm j7 (ta (tm tz0 j3) (tm tz0 j2))))) (tm j0 j4)) (Prod.ext (zq R2 [c, y.1.1, y.1.2.1, y.1.2.2, y.2.1, y.2.2.1, y.2.2.2, XI] (ta (ta (ta (tm j0 j5) (tm tz0 j4)) (tm j7 (tm tz0 j6))) (ta (ta (tm tz0 j2) (tm tz0 j1)) (tm j7 (tm tz0 j3)))) (tm j0 j5)) (zq R2 [c, y.1.1, y.1.2.1, y.1.2.2, y.2.1, y.2.2.1, y.2.2.2, XI] (ta (ta (ta (tm j0 j6) (tm tz0 j5)) (tm tz0 j4)) (ta (ta (tm tz0 j3) (tm tz0 j2)) (tm tz0 j1))) (tm j0 j6))))
theorem zQ (x : W2) (c : Zp) : sc2 x c = ml2 x (re2 c) := bn (by show x.1 * c = x.1 * c - x.2 * 0; rw [fS, zV]) (by show x.2 * c = x.1 * 0 + x.2 * c; rw [fS, Bd])
def LNE (L : W2 × W2 × W2) (p : Zp × Zp) : W12 := ((L.1, ng2 (sc2 L.2.1 p.1), ze2), (ze2, sc2 L.2.2 p.2, ze2))
theorem wX {L : W2 × W2 × W2} {a : W2 × W2} {s : W2} (h : L.1 = ml2 L.2.2 (E2w.sub (ml2 s a.1) a.2) ∧ L.2.1 = ml2 L.2.2 s) (p : Zp × Zp) : LNE L p = K12.mul (em L.2.2) (LN a s p) := by
 rw [ET, LNE, LN]
 refine Prod.ext (Prod.ext ?_ (Prod.ext ?_ ?_)) (Prod.ext ?_ (Prod.ext ?_ ?_))
 ·show L.1 = ml2 L.2.2 (sb2 (ml2 s a.1) a.2)
  rw [gY]; exact h.1
 ·show ng2 (sc2 L.2.1 p.1) = ml2 L.2.2 (ng2 (ml2 s (re2 p.1)))
  rw [zQ, h.2]
  exact zq R2 [L.2.2, s, re2 p.1] (tn (tm (tm j0 j1) j2)) (tm j0 (tn (tm j1 j2)))
 ·exact (R2.mul_zero _).symm
 ·exact (R2.mul_zero _).symm
 ·show sc2 L.2.2 p.2 = ml2 L.2.2 (re2 p.2)
  exact zQ _ _
 ·exact (R2.mul_zero _).symm
end
section
abbrev WK := (Zp × Zp) × (W2 × W2) × W6
def LNR (L : W2 × W2 × W2) (p : Zp × Zp) : W6 := (L.1, ng2 (sc2 L.2.1 p.1), sc2 L.2.2 p.2)
def lel (t : W6) : W12 := ((t.1, t.2.1, ze2), (ze2, t.2.2, ze2))
def wDb (w : WK) : WK := (w.1, w.2.1, E2w.wdJ w.2.2)
def rDb (w : WK) : W6 := LNR (E2w.wdL w.2.2) w.1
def wJn (w : WK) : WK := if w.2.2.2.2 = ze2 then (w.1, w.2.1, (w.2.1.1, w.2.1.2, on2)) else (w.1, w.2.1, E2w.wjJ w.2.2 w.2.1)
def rJn (w : WK) : W6 := if w.2.2.2.2 = ze2 then (on2, ze2, ze2) else LNR (E2w.wjL w.2.2 w.2.1) w.1
def cX (g : WK → W6) : List WK → W12 → W12
 | [], f => f
 | w :: l, f => cX g l (K12.mul (lel (g w)) f)
def rdF (d : Bool) (S : List WK × W12) : List WK × W12 :=
 bif d then ((S.1.map wDb).map wJn, cX rJn (S.1.map wDb) (cX rDb S.1 (K12.mul S.2 S.2))) else (S.1.map wDb, cX rDb S.1 (K12.mul S.2 S.2))
def rdK (l : List Bool) (S : List WK × W12) : List WK × W12 := l.foldl (fun S d => rdF d S) S
theorem rO (l : List Bool) (d : Bool) (S : List WK × W12) : rdK (l ++ [d]) S = rdF d (rdK l S) := by rw [rdK, List.foldl_append]; rfl
/-! ### Products -/
def d6 : List W12 → W12
 | [] => K12.one
 | x :: l => K12.mul x (d6 l)
theorem mI (g : WK → W6) : ∀ (l : List WK) (f : W12), cX g l f = K12.mul (d6 (l.map fun w => lel (g w))) f
 | [], f => (K12.one_mul f).symm
 | w :: l, f => by
  rw [cX, mI g l, List.map_cons, d6, K12.mul_comm (lel (g w)), ← K12.mul_assoc, K12.mul_comm (K12.mul _ f), ← K12.mul_assoc]
theorem iD (g h : WK → W12) : ∀ l : List WK, d6 (l.map fun w => K12.mul (g w) (h w)) = K12.mul (d6 (l.map g)) (d6 (l.map h))
 | [] => (K12.one_mul _).symm
 | w :: l => by rw [List.map_cons, d6, iD g h l, K12.mul_four]; rfl
def Up6 (a b : W12) : Prop := ∃ c : W6, c ≠ K6.zero ∧ a = K12.mul (r6 c) b
theorem Up6.refl (a : W12) : Up6 a a := ⟨K6.one, by decide +kernel, by rw [wW, K12.one_mul]⟩
theorem ne6 {a b : W6} (ha : a ≠ K6.zero) (hb : b ≠ K6.zero) : K6.mul a b ≠ K6.zero := fun e => (fd6.two e).elim ha hb
theorem Up6.mul {a b c d : W12} (h : Up6 a b) (k : Up6 c d) : Up6 (K12.mul a c) (K12.mul b d) := by
 obtain ⟨x, hx, rfl⟩ := h
 obtain ⟨y, hy, rfl⟩ := k
 exact ⟨K6.mul x y, ne6 hx hy, by rw [K12.mul_four, tF]⟩
theorem Up6.cj {a b : W12} (h : Up6 a b) : Up6 (bu a) (bu b) := by
 obtain ⟨x, hx, rfl⟩ := h
 exact ⟨x, hx, by rw [fu]; exact congrArg (fun y => K12.mul y _) (Prod.ext rfl K6.neg_zero)⟩
theorem Up6.pr {g h : WK → W12} : ∀ {l : List WK}, (∀ w ∈ l, Up6 (g w) (h w)) → Up6 (d6 (l.map g)) (d6 (l.map h))
 | [], _ => Up6.refl _
 | w :: _, k => (k w List.mem_cons_self).mul (Up6.pr fun v hv => k v (List.mem_cons_of_mem _ hv))
theorem Up6.fn {e : Nat} (h6 : e % (PP ^ 6 - 1) = 0) {a b : W12} (h : Up6 a b) : FN e a = FN e b := by
 obtain ⟨x, hx, rfl⟩ := h
 rw [lf, qX h6 hx, K12.one_mul]
theorem Up6.ne {a b : W12} (h : Up6 a b) (hb : b ≠ K12.zero) : a ≠ K12.zero := by
 obtain ⟨x, hx, rfl⟩ := h
 exact fun e => (fd12.two e).elim (fun e => hx (vM e)) hb
/-! ### One round -/
theorem hrO {d : Nat} (h0 : 0 < d) (h1 : d < ORD) : ∃ e, (d * e) % ORD = 1 := ua xu h0 h1
theorem oo {q : W2 × W2} (hq : E2w.on q) (qr : E2w.times (some q) ORD = none) {m : Nat} (h0 : 0 < m) (h1 : m < ORD) : E2w.times (some q) m ≠ none := fun e => by
 have k := E2w.times_inj (Q := some q) hq (fun d => hrO) qr (fun e => by cases e) (m := m) (n := 0) h1 (by omega) e
 omega
structure WOk (w : WK) (m : Nat) : Prop where
 on : E2w.on w.2.1
 qr : E2w.times (some w.2.1) ORD = none
 jr : E2w.jr w.2.2 (E2w.times (some w.2.1) m)
theorem hO {α : Type} {P : Option α} (h : P ≠ none) : ∃ a, P = some a := by
 cases P with
 | none => exact absurd rfl h
 | some a => exact ⟨a, rfl⟩
theorem EN {a : W2 × W2} {s : W2} (h : E2w.Sl a a s) : E2w.R.mul s (E2w.R.add a.2 a.2) = E2w.t3 a.1 := h.2
theorem rC (L : W2 × W2 × W2) (p : Zp × Zp) : lel (LNR L p) = LNE L p := rfl
theorem WOk.dbl {w : WK} {m : Nat} (h : WOk w m) (h0 : 0 < m) (h1 : 2 * m < ORD) : WOk (wDb w) (2 * m) ∧ Up6 (lel (rDb w)) (LG (E2w.times (some w.2.1) m) (E2w.times (some w.2.1) m) w.1) := by
 have hon : E2w.onP (E2w.times (some w.2.1) m) := E2w.times_on (P := some w.2.1) h.on m
 refine ⟨⟨h.on, h.qr, ?_⟩, ?_⟩
 ·show E2w.jr (E2w.wdJ w.2.2) (E2w.times (some w.2.1) (2 * m))
  rw [← E2w.dbl_times (P := some w.2.1) h.on]
  exact E2w.wdJ_jr hon h.jr
 ·obtain ⟨a, ha⟩ := hO (oo h.on h.qr h0 (by omega))
  have hj := h.jr
  rw [ha] at hj hon ⊢
  have ho : ¬ E2w.opp a a := fun o => oo h.on h.qr (m := 2 * m) (by omega) h1 (by rw [← E2w.dbl_times (P := some w.2.1) h.on, ha]; exact E2w.ad_opp o)
  have hy : a.2 ≠ ze2 := fun e => ho ⟨rfl, by rw [e]; exact R2.add_zero _⟩
  have hs := E2w.sl_slope hon hon ho
  rw [rDb, rC, wX (E2w.wdL_ln hj (EN hs)), wt hon hon ho hs]
  exact ⟨_, fun e => E2w.wdL_ne hj hy (congrArg Prod.fst e), rfl⟩
theorem WOk.jn {w : WK} {m : Nat} (h : WOk w m) (h0 : 1 < m) (h1 : m + 1 < ORD) : WOk (wJn w) (m + 1) ∧ Up6 (lel (rJn w)) (LG (E2w.times (some w.2.1) m) (some w.2.1) w.1) := by
 have hon : E2w.onP (E2w.times (some w.2.1) m) := E2w.times_on (P := some w.2.1) h.on m
 obtain ⟨a, ha⟩ := hO (oo h.on h.qr (m := m) (by omega) (by omega))
 have hj := h.jr
 rw [ha] at hj hon
 have hz : ¬ w.2.2.2.2 = ze2 := hj.1
 have ho : ¬ E2w.opp a w.2.1 := fun o => oo h.on h.qr (m := m + 1) (by omega) h1 (by
  show E2w.ad (E2w.times (some w.2.1) m) (some w.2.1) = none
  rw [ha]; exact E2w.ad_opp o)
 have hx : a.1 ≠ w.2.1.1 := fun hx => by
  by_cases hy : a.2 = w.2.1.2
  ·have e : E2w.times (some w.2.1) m = E2w.times (some w.2.1) 1 := by rw [ha, tm1]; exact congrArg some (Prod.ext hx hy)
   have := E2w.times_inj (Q := some w.2.1) h.on (fun d => hrO) h.qr (fun e => by cases e) (m := m) (n := 1) (by omega) (by omega) e
   omega
  ·obtain ⟨s, hs⟩ := E2w.sl_is hon h.on ho
   have e := hs.1
   rw [hx, E2w.sub_self] at e
   exact hy (E2w.sub0 (e.symm.trans (show E2w.R.mul s E2w.R.zero = E2w.R.zero from E2w.R.mul_zero s)))
 have hs := E2w.sl_slope hon h.on ho
 refine ⟨?_, ?_⟩
 ·rw [show wJn w = (w.1, w.2.1, E2w.wjJ w.2.2 w.2.1) from if_neg hz]
  refine ⟨h.on, h.qr, ?_⟩
  show E2w.jr (E2w.wjJ w.2.2 w.2.1) (E2w.ad (E2w.times (some w.2.1) m) (some w.2.1))
  rw [ha]
  exact E2w.wjJ_jr wg hon h.on hj hx
 ·rw [show rJn w = LNR (E2w.wjL w.2.2 w.2.1) w.1 from if_neg hz, rC, wX (E2w.wjL_ln hj hs.1), ha, wt hon h.on ho hs]
  exact ⟨_, fun e => E2w.wjL_ne hj hx (congrArg Prod.fst e), rfl⟩
/-! ### All rounds -/
def MV (l : List Bool) (w : WK) : W12 × Pt W2 := MLW w.1 (some w.2.1) l (K12.one, some w.2.1)
theorem mZ (q : Zp × Zp) (Q : Pt W2) (d : Bool) : ∀ (l : List Bool) (st : W12 × Pt W2), MLW q Q (l ++ [d]) st = MSW q Q d (MLW q Q l st)
 | [], _ => rfl
 | e :: l, st => mZ q Q d l (MSW q Q e st)
theorem fg (d : Bool) : ∀ (l : List Bool) (n : Nat), bC (l ++ [d]) n = 2 * bC l n + d.toNat
 | [], n => by cases d <;> rfl
 | e :: l, n => by rw [List.cons_append, gJ, gJ]; exact fg d l _
theorem gz {w v : WK} (h1 : v.1 = w.1) (h2 : v.2.1 = w.2.1) (l : List Bool) : MV l v = MV l w := by rw [MV, MV, h1, h2]
theorem xG (w : WK) : (wJn w).1 = w.1 := by unfold wJn; split <;> rfl
theorem r9 (w : WK) : (wJn w).2.1 = w.2.1 := by unfold wJn; split <;> rfl
structure RdOk (l : List Bool) (S : List WK × W12) : Prop where
 w : ∀ w ∈ S.1, WOk w (bC l 1) ∧ (MV l w).2 = E2w.times (some w.2.1) (bC l 1)
 f : Up6 S.2 (d6 (S.1.map fun w => (MV l w).1))
theorem RdOk.step {l : List Bool} {S : List WK × W12} (h : RdOk l S) (d : Bool) (h0 : 0 < bC l 1) (h1 : 2 * bC l 1 + 1 < ORD) : RdOk (l ++ [d]) (rdF d S) := by
 have k1 : ∀ w ∈ S.1, WOk (wDb w) (2 * bC l 1) ∧ Up6 (lel (rDb w)) (LG (MV l w).2 (MV l w).2 w.1) := fun w hw => by
  have e := (h.w w hw).1.dbl h0 (by omega)
  rw [(h.w w hw).2]; exact e
 have m1 : ∀ w ∈ S.1, (MV (l ++ [false]) w) = (K12.mul (K12.mul (MV l w).1 (MV l w).1) (LG (MV l w).2 (MV l w).2 w.1), E2w.ad (MV l w).2 (MV l w).2) := fun w _ => mZ _ _ _ _ _
 have f1 : Up6 (cX rDb S.1 (K12.mul S.2 S.2)) (d6 (S.1.map fun w => K12.mul (K12.mul (MV l w).1 (MV l w).1) (LG (MV l w).2 (MV l w).2 w.1))) := by
  rw [mI, K12.mul_comm, iD (fun w => K12.mul (MV l w).1 (MV l w).1), iD]
  exact (h.f.mul h.f).mul (Up6.pr fun w hw => (k1 w hw).2)
 cases d with
 | false =>
  refine ⟨fun w hw => ?_, ?_⟩
  ·obtain ⟨v, hv, rfl⟩ := List.mem_map.1 hw
   rw [fg]
   refine ⟨(k1 v hv).1, ?_⟩
   rw [gz (v := wDb v) (w := v) rfl rfl, m1 v hv]
   show E2w.ad (MV l v).2 (MV l v).2 = _
   rw [(h.w v hv).2]
   exact E2w.dbl_times (P := some v.2.1) (h.w v hv).1.on _
  ·have e : (S.1.map wDb).map (fun w => (MV (l ++ [false]) w).1) = S.1.map fun w => K12.mul (K12.mul (MV l w).1 (MV l w).1) (LG (MV l w).2 (MV l w).2 w.1) := by
    rw [List.map_map]
    exact List.map_congr_left fun w hw => show (MV (l ++ [false]) (wDb w)).1 = _ from by rw [gz (v := wDb w) (w := w) rfl rfl, m1 w hw]
   show Up6 (cX rDb S.1 (K12.mul S.2 S.2)) (d6 ((S.1.map wDb).map (fun w => (MV (l ++ [false]) w).1)))
   rw [e]; exact f1
 | true =>
  have ed : ∀ w ∈ S.1, E2w.ad (MV l w).2 (MV l w).2 = E2w.times (some w.2.1) (2 * bC l 1) := fun w hw => by
   rw [(h.w w hw).2]
   exact E2w.dbl_times (P := some w.2.1) (h.w w hw).1.on _
  have m2 : ∀ w ∈ S.1, (MV (l ++ [true]) w) = (K12.mul (K12.mul (K12.mul (MV l w).1 (MV l w).1) (LG (MV l w).2 (MV l w).2 w.1)) (LG (E2w.times (some w.2.1) (2 * bC l 1)) (some w.2.1) w.1), E2w.ad (E2w.times (some w.2.1) (2 * bC l 1)) (some w.2.1)) := fun w hw => by
   rw [← ed w hw]; exact mZ _ _ _ _ _
  have k2 : ∀ w ∈ S.1, WOk (wJn (wDb w)) (2 * bC l 1 + 1) ∧ Up6 (lel (rJn (wDb w))) (LG (E2w.times (some w.2.1) (2 * bC l 1)) (some w.2.1) w.1) := fun w hw => (k1 w hw).1.jn (by omega) (by omega)
  refine ⟨fun w hw => ?_, ?_⟩
  ·obtain ⟨u, hu, rfl⟩ := List.mem_map.1 (show w ∈ (S.1.map wDb).map wJn from hw)
   obtain ⟨v, hv, rfl⟩ := List.mem_map.1 hu
   rw [fg]
   refine ⟨(k2 v hv).1, ?_⟩
   rw [gz (v := wJn (wDb v)) (w := v) (xG _) (r9 _), m2 v hv, show (wJn (wDb v)).2.1 = v.2.1 from r9 _]
   rfl
  ·have e : ((S.1.map wDb).map wJn).map (fun w => (MV (l ++ [true]) w).1) = S.1.map fun w => K12.mul (K12.mul (K12.mul (MV l w).1 (MV l w).1) (LG (MV l w).2 (MV l w).2 w.1)) (LG (E2w.times (some w.2.1) (2 * bC l 1)) (some w.2.1) w.1) := by
    rw [List.map_map, List.map_map]
    exact List.map_congr_left fun w hw => show (MV (l ++ [true]) (wJn (wDb w))).1 = _ from by rw [gz (v := wJn (wDb w)) (w := w) (xG _) (r9 _), m2 w hw]
   show Up6 (cX rJn (S.1.map wDb) (cX rDb S.1 (K12.mul S.2 S.2))) (d6 (((S.1.map wDb).map wJn).map (fun w => (MV (l ++ [true]) w).1)))
   rw [e, mI, K12.mul_comm, iD (fun w => K12.mul (K12.mul (MV l w).1 (MV l w).1) (LG (MV l w).2 (MV l w).2 w.1)), List.map_map]
   exact f1.mul (Up6.pr fun w hw => (k2 w hw).2)
theorem jE : ∀ (l : List Bool) (n : Nat), bC l n < (n + 1) * 2 ^ l.length
 | [], n => by show n < (n + 1) * 1; omega
 | d :: l, n => by
  rw [gJ, List.length_cons, Nat.pow_succ]
  refine Nat.lt_of_lt_of_le (jE l _) ?_
  rw [Nat.mul_comm (2 ^ l.length) 2, ← Nat.mul_assoc]
  exact Nat.mul_le_mul_right _ (by cases d <;> simp [Bool.toNat] <;> omega)
theorem iG : ∀ (l : List Bool) (n : Nat), 0 < n → 0 < bC l n
 | [], n, h => h
 | d :: l, n, h => by rw [gJ]; exact iG l _ (by omega)
theorem RdOk.all {S : List WK × W12} (h : RdOk [] S) : ∀ (n : Nat) (l : List Bool), l.length = n → n ≤ 63 → RdOk l (rdK l S)
 | 0, l, hl, _ => by obtain rfl := List.length_eq_zero_iff.1 hl; exact h
 | n + 1, l, hl, hn => by
  obtain ⟨r, d, rfl⟩ : ∃ r d, l = r ++ [d] := ⟨l.dropLast, l.getLast (fun e => by rw [e] at hl; cases hl), (List.dropLast_concat_getLast _).symm⟩
  have hr : r.length = n := by rw [List.length_append] at hl; simpa using hl
  rw [rO]
  refine (RdOk.all h n r hr (by omega)).step d (iG r 1 Nat.one_pos) ?_
  have h1 := jE r 1
  have h2 : 2 ^ r.length ≤ 2 ^ 62 := Nat.pow_le_pow_right (by omega) (by omega)
  have h3 : 4 * 2 ^ 62 + 1 < ORD := by decide +kernel
  omega
def wkB (p : Zp × Zp) (q : W2 × W2) : WK := (p, q, (q.1, q.2, on2))
theorem kV : ∀ l : List WK, d6 (l.map fun _ => K12.one) = K12.one
 | [] => rfl
 | _ :: l => by rw [List.map_cons, d6, kV l, K12.one_mul]
theorem xY (W : List WK) (hW : ∀ w ∈ W, w = wkB w.1 w.2.1 ∧ E2w.on w.2.1 ∧ E2w.times (some w.2.1) ORD = none) : Up6 (bu (rdK L63 (W, K12.one)).2) (bu (d6 (W.map fun w => MLv L63 (some w.1) (some w.2.1)))) := by
 have h0 : RdOk [] (W, K12.one) := ⟨fun w hw => by
  obtain ⟨e, h1, h2⟩ := hW w hw
  refine ⟨⟨h1, h2, ?_⟩, rfl⟩
  show E2w.jr w.2.2 (E2w.times (some w.2.1) 1)
  rw [tm1, e]
  exact vT w.2.1, by
  show Up6 K12.one (d6 (W.map fun _ => K12.one))
  rw [kV]; exact Up6.refl _⟩
 have h := h0.all 63 L63 (by decide +kernel) (Nat.le_refl _)
 have e1 : ∀ (l : List Bool) (S : List WK × W12), (rdK l S).1.map (fun w => (MV L63 w).1) = S.1.map (fun w => (MV L63 w).1) := by
  intro l
  induction l with
  | nil => intro S; rfl
  | cons d l ih =>
   intro S
   refine (ih (rdF d S)).trans ?_
   cases d with
   | false =>
    show (S.1.map wDb).map _ = _
    rw [List.map_map]
    exact List.map_congr_left fun w _ => show (MV L63 (wDb w)).1 = _ from by rw [gz (v := wDb w) (w := w) rfl rfl]
   | true =>
    show ((S.1.map wDb).map wJn).map _ = _
    rw [List.map_map, List.map_map]
    exact List.map_congr_left fun w _ => show (MV L63 (wJn (wDb w))).1 = _ from by rw [gz (v := wJn (wDb w)) (w := w) (xG _) (r9 _)]
 have hf := h.f
 rw [e1] at hf
 refine Up6.cj ?_
 rw [show (W.map fun w => MLv L63 (some w.1) (some w.2.1)) = W.map (fun w => (MV L63 w).1) from List.map_congr_left fun w hw => Fp L63 w.1 (Q := some w.2.1) (hW w hw).2.1]
 exact hf
end
end Go.Proofs.YtpnpiblphnpfiaaGreatDoor
