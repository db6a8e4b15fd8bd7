/-
 The program's points.
 The program's points.
-/
import Derived.Test.YtpnpiblphnpfiaaGreatDoorXB
import Derived.Test.YtpnpiblphnpfiaaGreatDoorX5
import Derived.Test.YtpnpiblphnpfiaaGreatDoorX4
import Derived.Test.YtpnpiblphnpfiaaGreatDoorX3
set_option maxRecDepth 100000
set_option maxHeartbeats 1000000
namespace Go.Proofs.YtpnpiblphnpfiaaGreatDoor
section
open Go.RowKit
theorem ent15 : ae Tryz.prog 15 := fun _ _ => by kernel_rfl
theorem ent34 : ae Tryz.prog 34 := fun _ _ => by kernel_rfl
theorem ent57 : ae Tryz.prog 57 := fun _ _ => by kernel_rfl
theorem ent11 : ae Tryz.prog 11 := fun _ _ => by kernel_rfl
theorem ent47 : ae Tryz.prog 47 := fun _ _ => by kernel_rfl
theorem ent89 : ae Tryz.prog 89 := fun _ _ => by kernel_rfl
theorem ent42 : ae Tryz.prog 42 := fun _ _ => by kernel_rfl
theorem ent85 : ae Tryz.prog 85 := fun _ _ => by kernel_rfl
namespace J1
attribute [local simp] aY bj aF aA aL aW aM aK aO PLl cq cn N1l cm cp ck bd bk aX bg ba
theorem rI1 {Q P : Prop} (k : Q) (h : Q → P := by intro k; (refine LY.run ?_); (repeat (first | refine bC rfl rfl rfl ?_ | refine a7 rfl rfl rfl ?_ | ((refine m6 rfl rfl ?_ rfl rfl ?_); (· simp)) | ((refine oY hGF rfl rfl rfl ?_ ?_ (ak _) rfl ?_); (· simp); (· simp)) | ((refine Ix hGF rfl rfl rfl ?_ ?_ (ak _) rfl ?_); (· simp); (· simp)) | refine ec rfl rfl rfl rfl ?_)); (first | refine bO ?_ | refine LY.mk ?_); exact k) : P := h k
structure GP where
 J : Zp × Zp × Zp
 P : Pt Zp
 on : E1.onP P
 jr : E1.jr J P
def GL (p : GP) : List (BitVec 64) := fe p.J.1 ++ (fe p.J.2.1 ++ fe p.J.2.2)
theorem br (p : GP) : (GL p).length = 18 := by simp [GL]
attribute [local simp] br
abbrev PtV (p : GP) : Value := .agg ((GL p).map U64).toArray
def PX : Pt Zp → Zp
 | none => 0
 | some p => p.1
def PY : Pt Zp → Zp
 | none => 0
 | some p => p.2
def RS4 (x : Zp) : Zp := x * x * x + zp 4
def LY (x : Zp) (l : Bool) : Zp := if decide (hf < (SQ (RS4 x)).val) = l then SQ (RS4 x) else -(SQ (RS4 x))
theorem kO {p : Zp × Zp} (h : E1.on p) : E1.onP (some p) := h
abbrev JV (J : Zp × Zp × Zp) : Value := .agg ((fe (J.1) ++ (fe (J.2.1) ++ fe (J.2.2))).map U64).toArray
theorem zj29 (w : World) : (zeroValue 29).run Tryz.prog w = .ok (.agg ((fe 0 ++ (fe 0 ++ fe 0)).map U64).toArray) w := by rw [i4]; exact (Tryz.zeroValue29 w).trans (by rfl)
theorem jsub (a b : Zp) : a - b = E1.sub a b := by show a - b = a + -b; grind
theorem Ig (x y : Zp) : Pure Tryz.prog Gt 87 [EV x, EV y] (EV (E1.sub x y)) := by
 have h := iW x y
 rw [jsub] at h
 exact h
def TO49 : Tb Tryz.prog Gt := TO48.add (cd (g := E1.sub) ent87 Ig)
theorem qK (x : Zp × Zp × Zp) : Pure Tryz.prog Gt 85 [JV x] (.bool (decide (x.2.2 = 0))) := pE TO49 Tryz.func85 [.inl [x.1, x.2.1, x.2.2]] (.inl (.inr (.inl (decide (x.2.2 = 0))))) (.inl (.inr (.inl (decide (x.2.2 = 0)))), []) [] (by kernel_rfl) aG rfl
theorem ua {f : Nat} {g : (Zp × Zp × Zp) → Bool} (en : ae Tryz.prog f) (h : ∀ a, Pure Tryz.prog Gt f [JV a] (.bool (g a))) : Snd Tryz.prog Gt f (c1 q3.ag rdB g) := dB q3.ag rdB en h
def TO50 : Tb Tryz.prog Gt := TO49.add (ua (g := fun x => decide (x.2.2 = 0)) ent85 qK)
theorem Fc (x : Zp × Zp × Zp) : Pure Tryz.prog Gt 42 [JV x] (JV (x.1, -x.2.1, x.2.2)) := pE TO50 Tryz.func42 [.inl [x.1, x.2.1, x.2.2]] (.inl (.inl [(x.1, -x.2.1, x.2.2).1, (x.1, -x.2.1, x.2.2).2.1, (x.1, -x.2.1, x.2.2).2.2])) (.inl (.inl [x.1, -x.2.1, x.2.2]), []) [] (by kernel_rfl) aG rfl
theorem kw {f : Nat} {g : (Zp × Zp × Zp) → (Zp × Zp × Zp)} (en : ae Tryz.prog f) (h : ∀ a, Pure Tryz.prog Gt f [JV a] (JV (g a))) : Snd Tryz.prog Gt f (c1 q3.ag q3.rd g) := dB q3.ag q3.rd en h
def TO51 : Tb Tryz.prog Gt := TO50.add (kw (g := fun x => (x.1, -x.2.1, x.2.2)) ent42 Fc)
theorem yb  : Pure Tryz.prog Gt 15 [] (JV (0, 0, 0)) := pE TO51 Tryz.func15 [] (.inl (.inl [(0, 0, 0).1, (0, 0, 0).2.1, (0, 0, 0).2.2])) (.inl (.inl [0, 0, 0]), []) [] (by kernel_rfl) aG rfl
theorem GE {f : Nat} {g : (Zp × Zp × Zp)} (en : ae Tryz.prog f) (h : Pure Tryz.prog Gt f [] (JV g)) : Snd Tryz.prog Gt f (c0 q3.rd g) := mm q3.rd en h
def TO52 : Tb Tryz.prog Gt := TO51.add (GE (g := (0, 0, 0)) ent15 yb)
def dbF (x : Zp × Zp × Zp) : Zp × Zp × Zp :=
 let a := x.2.1 + x.2.1
 let s := x.1 * x.1
 let u := s + s + s
 let h := a * a
 let b := h * x.1
 let X := E1.sub (E1.sub (u * u) b) b
 (X, E1.sub (u * E1.sub b X) (h * a * x.2.1), x.2.2 * a)
theorem Ds (x : Zp × Zp × Zp) : Pure Tryz.prog Gt 89 [JV x] (JV (dbF x)) := pE TO52 Tryz.func89 [.inl [x.1, x.2.1, x.2.2]] (.inl (.inl [(dbF x).1, (dbF x).2.1, (dbF x).2.2])) (let t0 := x.2.1 + x.2.1; let t1 := (x.1 * x.1) + (x.1 * x.1); let t2 := t1 + (x.1 * x.1); let t3 := (t0 * t0) * x.1; let t4 := E1.sub (t2 * t2) t3; let t5 := E1.sub t3 (E1.sub t4 t3); let t6 := (t0 * t0) * t0; let t7 := E1.sub (t2 * t5) (t6 * x.2.1); (.inl (.inl [E1.sub t4 t3, t7, x.2.2 * t0]), [])) [] (by kernel_rfl) aG rfl
def TO53 : Tb Tryz.prog Gt := TO52.add (kw (g := dbF) ent89 Ds)
theorem dbl_ext (m : Zp) {s s' c c' z z' : Zp} (hs : s = s') (hc : c = c') (hz : z = z') : (E1.sub (E1.sub (m * m) s) s, E1.sub (m * E1.sub s (E1.sub (E1.sub (m * m) s) s)) c, z) = (E1.sub (E1.sub (m * m) s') s', E1.sub (m * E1.sub s' (E1.sub (E1.sub (m * m) s') s')) c', z') := by rw [hs, hc, hz]
def adG (x y : Zp × Zp × Zp) : Zp × Zp × Zp :=
 let u := x.1 * (y.2.2 * y.2.2)
 let s := x.2.1 * (y.2.2 * y.2.2) * y.2.2
 let h := E1.sub (y.1 * (x.2.2 * x.2.2)) u
 let r := E1.sub (y.2.1 * (x.2.2 * x.2.2) * x.2.2) s
 let q := h * h
 let c := q * h
 let w := q * u
 let X := E1.sub (E1.sub (E1.sub (r * r) c) w) w
 (X, E1.sub (r * E1.sub w X) (c * s), x.2.2 * y.2.2 * h)
def adF (x y : Zp × Zp × Zp) : Zp × Zp × Zp := if x.2.2 = 0 then y else if y.2.2 = 0 then x else if E1.jh x.1 x.2.2 y.1 y.2.2 = 0 then (if E1.jq x.2.1 x.2.2 y.2.1 y.2.2 = 0 then dbF x else (0, 0, 0)) else adG x y
theorem uv (a b : Zp) : a * b = b * a := by grind
theorem add_ext {a w w' r k k' z : Zp} (hw : w = w') (hk : k = k') : (E1.sub (E1.sub a w) w, E1.sub (r * E1.sub w (E1.sub (E1.sub a w) w)) k, z) = (E1.sub (E1.sub a w') w', E1.sub (r * E1.sub w' (E1.sub (E1.sub a w') w')) k', z) := by rw [hw, hk]
theorem adG_ja (x y : Zp × Zp × Zp) : adG x y = E1.ja x.1 x.2.1 x.2.2 y.1 y.2.1 y.2.2 := add_ext (uv _ _) (uv _ _)
theorem same_iff {p q : Zp × Zp} {x y : Zp × Zp × Zp} (h : E1.jr x (some p)) (k : E1.jr y (some q)) : (x.1 * (y.2.2 * y.2.2) = y.1 * (x.2.2 * x.2.2) ↔ p.1 = q.1) ∧ (x.2.1 * (y.2.2 * y.2.2) * y.2.2 = y.2.1 * (x.2.2 * x.2.2) * x.2.2 ↔ p.2 = q.2) := by
 have hx : x.1 = p.1 * (x.2.2 * x.2.2) := h.2.1
 have hy : x.2.1 = p.2 * (x.2.2 * x.2.2 * x.2.2) := h.2.2
 have kx : y.1 = q.1 * (y.2.2 * y.2.2) := k.2.1
 have ky : y.2.1 = q.2 * (y.2.2 * y.2.2 * y.2.2) := k.2.2
 have n2 := E1.mul_ne (E1.z2_ne h.1) (E1.z2_ne k.1)
 have n3 := E1.mul_ne (E1.z3_ne h.1) (E1.z3_ne k.1)
 obtain ⟨z, hz⟩ : ∃ z, x.2.2 = z := ⟨_, rfl⟩
 obtain ⟨v, hv⟩ : ∃ v, y.2.2 = v := ⟨_, rfl⟩
 rw [hz] at hx hy n2 n3
 rw [hv] at kx ky n2 n3
 rw [hx, hy, kx, ky, hz, hv]
 refine ⟨⟨fun e => E1.mul_can n2 ?_, fun e => by rw [e]; grind⟩, ⟨fun e => E1.mul_can n3 ?_, fun e => by rw [e]; grind⟩⟩
 ·show p.1 * (z * z * (v * v)) = q.1 * (z * z * (v * v))
  grind
 ·show p.2 * (z * z * z * (v * v * v)) = q.2 * (z * z * z * (v * v * v))
  grind
theorem Fq (x y : Zp × Zp × Zp) : Pure Tryz.prog Gt 34 [JV x, JV y] (JV (adF x y)) := by
 by_cases h1 : x.2.2 = 0
 ·exact pE TO53 Tryz.func34 [.inl [x.1, x.2.1, x.2.2], .inl [y.1, y.2.1, y.2.2]] (.inl (.inl [(adF x y).1, (adF x y).2.1, (adF x y).2.2])) (.inl (.inl [y.1, y.2.1, y.2.2]), [(decide (x.2.2 = 0), true)]) [some true] (by kernel_rfl) (az (decide_eq_true h1) aG) (by rw [show adF x y = y from if_pos h1] <;> exact rfl)
 ·by_cases h2 : y.2.2 = 0
  ·exact pE TO53 Tryz.func34 [.inl [x.1, x.2.1, x.2.2], .inl [y.1, y.2.1, y.2.2]] (.inl (.inl [(adF x y).1, (adF x y).2.1, (adF x y).2.2])) (.inl (.inl [x.1, x.2.1, x.2.2]), [(decide (x.2.2 = 0), false), (decide (y.2.2 = 0), true)]) [some false, some true] (by kernel_rfl) (az (decide_eq_false h1) (az (decide_eq_true h2) aG)) (by rw [show adF x y = x from (if_neg h1).trans (if_pos h2)] <;> exact rfl)
  ·by_cases h3 : E1.jh x.1 x.2.2 y.1 y.2.2 = 0
   ·by_cases h4 : E1.jq x.2.1 x.2.2 y.2.1 y.2.2 = 0
    ·exact pE TO53 Tryz.func34 [.inl [x.1, x.2.1, x.2.2], .inl [y.1, y.2.1, y.2.2]] (.inl (.inl [(adF x y).1, (adF x y).2.1, (adF x y).2.2])) (let t0 := x.2.2 * x.2.2; let t1 := y.2.2 * y.2.2; let t2 := (x.2.1 * t1) * y.2.2; let t3 := E1.sub (y.1 * t0) (x.1 * t1); let t4 := (y.2.1 * t0) * x.2.2; let t5 := dbF x; (.inl (.inl [t5.1, t5.2.1, t5.2.2]), [(decide (x.2.2 = 0), false), (decide (y.2.2 = 0), false), (decide (t3 = 0), true), (decide ((E1.sub t4 t2) = 0), true)])) [some false, some false, some true, some true] (by kernel_rfl) (az (decide_eq_false h1) (az (decide_eq_false h2) (az (decide_eq_true h3) (az (decide_eq_true h4) aG)))) (by rw [show adF x y = dbF x from (if_neg h1).trans ((if_neg h2).trans ((if_pos h3).trans (if_pos h4)))] <;> exact rfl)
    ·exact pE TO53 Tryz.func34 [.inl [x.1, x.2.1, x.2.2], .inl [y.1, y.2.1, y.2.2]] (.inl (.inl [(adF x y).1, (adF x y).2.1, (adF x y).2.2])) (let t0 := x.2.2 * x.2.2; let t1 := y.2.2 * y.2.2; let t2 := (x.2.1 * t1) * y.2.2; let t3 := E1.sub (y.1 * t0) (x.1 * t1); let t4 := (y.2.1 * t0) * x.2.2; (.inl (.inl [0, 0, 0]), [(decide (x.2.2 = 0), false), (decide (y.2.2 = 0), false), (decide (t3 = 0), true), (decide ((E1.sub t4 t2) = 0), false), (decide (t3 = 0), true)])) [some false, some false, some true, some false, some true] (by kernel_rfl) (az (decide_eq_false h1) (az (decide_eq_false h2) (az (decide_eq_true h3) (az (decide_eq_false h4) (az (decide_eq_true h3) aG))))) (by rw [show adF x y = (0, 0, 0) from (if_neg h1).trans ((if_neg h2).trans ((if_pos h3).trans (if_neg h4)))] <;> exact rfl)
   ·exact pE TO53 Tryz.func34 [.inl [x.1, x.2.1, x.2.2], .inl [y.1, y.2.1, y.2.2]] (.inl (.inl [(adF x y).1, (adF x y).2.1, (adF x y).2.2])) (let t0 := x.2.2 * x.2.2; let t1 := y.2.2 * y.2.2; let t2 := (x.2.1 * t1) * y.2.2; let t3 := E1.sub (y.1 * t0) (x.1 * t1); let t4 := (y.2.1 * t0) * x.2.2; let t5 := (t3 * t3) * t3; let t6 := (t3 * t3) * (x.1 * t1); let t7 := (E1.sub t4 t2) * (E1.sub t4 t2); let t8 := E1.sub (E1.sub t7 t5) t6; let t9 := E1.sub t6 (E1.sub t8 t6); let t10 := (E1.sub t4 t2) * t9; let t11 := E1.sub t10 (t5 * t2); let t12 := x.2.2 * y.2.2; (.inl (.inl [E1.sub t8 t6, t11, t12 * t3]), [(decide (x.2.2 = 0), false), (decide (y.2.2 = 0), false), (decide (t3 = 0), false), (decide (t3 = 0), false)])) [some false, some false, some false, some false] (by kernel_rfl) (az (decide_eq_false h1) (az (decide_eq_false h2) (az (decide_eq_false h3) (az (decide_eq_false h3) aG)))) (by rw [show adF x y = adG x y from (if_neg h1).trans ((if_neg h2).trans (if_neg h3))] <;> exact rfl)
theorem jH {f : Nat} {g : (Zp × Zp × Zp) → (Zp × Zp × Zp) → (Zp × Zp × Zp)} (en : ae Tryz.prog f) (h : ∀ a b, Pure Tryz.prog Gt f [JV a, JV b] (JV (g a b))) : Snd Tryz.prog Gt f (c2 q3.ag q3.ag q3.rd g) := dv q3.ag q3.ag q3.rd en h
def TO54 : Tb Tryz.prog Gt := TO53.add (jH (g := adF) ent34 Fq)
theorem rU (x : Zp × Zp × Zp) (h : x.2.2 = 0) : Pure Tryz.prog Gt 57 [JV x] (.tuple #[EV 0, EV 0, .bool false]) := pE TO54 Tryz.func57 [.inl [x.1, x.2.1, x.2.2]] (.inr [.inl [0], .inl [0], .inr (.inl false)]) (.inr [.inl [0], .inl [0], .inr (.inl false)], [(decide (x.2.2 = 0), true)]) [some true] (by kernel_rfl) (az (decide_eq_true h) aG) rfl
theorem sU (x : Zp × Zp × Zp) (h : ¬ x.2.2 = 0) : Pure Tryz.prog Gt 57 [JV x] (.tuple #[EV (x.1 * (x.2.2 ^ (PP - 2) * x.2.2 ^ (PP - 2))), EV (x.2.1 * (x.2.2 ^ (PP - 2) * x.2.2 ^ (PP - 2) * x.2.2 ^ (PP - 2))), .bool true]) := pE TO54 Tryz.func57 [.inl [x.1, x.2.1, x.2.2]] (.inr [.inl [x.1 * (x.2.2 ^ (PP - 2) * x.2.2 ^ (PP - 2))], .inl [x.2.1 * (x.2.2 ^ (PP - 2) * x.2.2 ^ (PP - 2) * x.2.2 ^ (PP - 2))], .inr (.inl true)]) (let t0 := x.2.2 ^ (PP - 2); let t1 := x.1 * (t0 * t0); let t2 := (t0 * t0) * t0; (.inr [.inl [t1], .inl [x.2.1 * t2], .inr (.inl true)], [(decide (x.2.2 = 0), false)])) [some false] (by kernel_rfl) (az (decide_eq_false h) aG) rfl
theorem yh (a b : Zp) : Pure Tryz.prog Gt 47 [EV a, EV b] (JV (a, b, 1)) := pE TO54 Tryz.func47 [.inl [a], .inl [b]] (.inl (.inl [(a, b, 1).1, (a, b, 1).2.1, (a, b, 1).2.2])) (.inl (.inl [a, b, 1]), []) [] (by kernel_rfl) aG rfl
theorem jM {f : Nat} {g : Zp → Zp → (Zp × Zp × Zp)} (en : ae Tryz.prog f) (h : ∀ a b, Pure Tryz.prog Gt f [EV a, EV b] (JV (g a b))) : Snd Tryz.prog Gt f (c2 q1.ag q1.ag q3.rd g) := dv q1.ag q1.ag q3.rd en h
def TO55 : Tb Tryz.prog Gt := TO54.add (jM (g := fun a b => (a, b, 1)) ent47 yh)
def GXB : List (BitVec 8) := [23#8, 241#8, 211#8, 167#8, 49#8, 151#8, 215#8, 148#8, 38#8, 149#8, 99#8, 140#8, 79#8, 169#8, 172#8, 15#8, 195#8, 104#8, 140#8, 79#8, 151#8, 116#8, 185#8, 5#8, 161#8, 78#8, 58#8, 63#8, 23#8, 27#8, 172#8, 88#8, 108#8, 85#8, 232#8, 63#8, 249#8, 122#8, 26#8, 239#8, 251#8, 58#8, 240#8, 10#8, 219#8, 34#8, 198#8, 187#8]
def GYB : List (BitVec 8) := [8#8, 179#8, 244#8, 129#8, 227#8, 170#8, 160#8, 241#8, 160#8, 158#8, 48#8, 237#8, 116#8, 29#8, 138#8, 228#8, 252#8, 245#8, 224#8, 149#8, 213#8, 208#8, 10#8, 246#8, 0#8, 219#8, 24#8, 203#8, 44#8, 4#8, 179#8, 237#8, 208#8, 60#8, 199#8, 68#8, 162#8, 136#8, 138#8, 228#8, 12#8, 170#8, 35#8, 41#8, 70#8, 197#8, 231#8, 225#8]
theorem Ja : FV GXB = zp G1x := by rw [FV, if_pos ⟨rfl, by decide +kernel⟩, show BN GXB 48 = G1x by decide +kernel]
theorem Jk : FV GYB = zp G1y := by rw [FV, if_pos ⟨rfl, by decide +kernel⟩, show BN GYB 48 = G1y by decide +kernel]
theorem uL (e : Option Addr) (cap : Nat) (w : World) (hw : Gt w) (hby : BytesAt w e GXB) : Calls Tryz.prog 46 [.slice e GXB.length cap].toArray w (fun r w' => r = .returned (.tuple #[EV (zp G1x), .bool (FO GXB)]) ∧ Grow w w') := by
 have h := fj e cap GXB w hw hby
 rw [Ja] at h
 exact h
theorem w5 (e : Option Addr) (cap : Nat) (w : World) (hw : Gt w) (hby : BytesAt w e GYB) : Calls Tryz.prog 46 [.slice e GYB.length cap].toArray w (fun r w' => r = .returned (.tuple #[EV (zp G1y), .bool (FO GYB)]) ∧ Grow w w') := by
 have h := fj e cap GYB w hw hby
 rw [Jk] at h
 exact h
theorem Cl : Pure Tryz.prog Gt 11 [] (JV (zp G1x, zp G1y, 1)) := by
 refine aQ Tryz.func11 fun w hw hGF => ?_
 refine ac (E := EE [1000022]) ?_
 refine la zj29 fun b0 => ?_
 refine aa ?_
 refine ac (E := EE [1000022]) ?_
 refine qY 6 GXB hGF rfl rfl rfl (by decide) (by decide) Tryz.underlying22 Tryz.sizeOf5 Tryz.zeroValue5 rfl rfl ?_
 intro b6
 refine rq 6 rfl hGF rfl rfl Tryz.underlying22 Tryz.underlying5 rfl rfl ?_
 refine bS rfl rfl ent46 (fun w' hC hG => uL _ _ w' hG (BytesAt.range (hC.own 6 b6 _ _ rfl).1.range)) rfl rfl ?_
 refine rI1 ?_
 refine la zv27 fun b1 => ?_
 refine rI1 ?_
 refine ac (E := EE [1000022]) ?_
 refine qY 12 GYB hGF rfl rfl rfl (by decide) (by decide) Tryz.underlying22 Tryz.sizeOf5 Tryz.zeroValue5 rfl rfl ?_
 intro b12
 refine rq 12 rfl hGF rfl rfl Tryz.underlying22 Tryz.underlying5 rfl rfl ?_
 refine bS rfl rfl ent46 (fun w' hC hG => w5 _ _ w' hG (BytesAt.range (hC.own 12 b12 _ _ rfl).1.range)) rfl rfl ?_
 refine rI1 ?_
 refine la zv27 fun b3 => ?_
 refine rI1 ?_
 refine ac (E := EE [1000022]) ?_
 refine rI1 ?_
 refine lc ent47 (yh _ _) ?_
 refine rI1 ?_
 refine rt ?_
 exact av 0 rfl rfl rfl Tryz.isAgg29 Tryz.sizeOf29 (by simp) (fun w hw => ⟨rfl, ah hw⟩)
end J1
end
section
open Go.RowKit
namespace J1
attribute [local simp] aY bj aF aA aL aW aM aK aO PLl cq cn N1l cm cp ck bd bk aX bg ba
attribute [local simp] br
def pb (bs : List (BitVec 8)) (m : Nat) : Bool := decide (dj bs m = 1#8)
abbrev oB (bs : List (BitVec 8)) (m : Nat) : List Nat := oL (pb bs) (8 * bs.length) m
def dbN (x : Zp × Zp × Zp) : Nat → Zp × Zp × Zp
 | 0 => x
 | n + 1 => dbF (dbN x n)
def stp (x : Zp × Zp × Zp) (A : (Zp × Zp × Zp) × Nat) (b : Nat) : (Zp × Zp × Zp) × Nat := (adF (dbN A.1 (A.2 - b)) x, b)
def gInf : GP := ⟨(0, 0, 0), none, True.intro, rfl⟩
def gGen : GP := ⟨(zp G1x, zp G1y, 1), some G1p, kO ID, Ii⟩
theorem xy_w {J : Zp × Zp × Zp} {p : Zp × Zp} (h : E1.jr J (some p)) {v : Zp} (hv : J.2.2 * v = 1) : J.1 * (v * v) = p.1 ∧ J.2.1 * (v * v * v) = p.2 := by
 have hx : J.1 = p.1 * (J.2.2 * J.2.2) := h.2.1
 have hy : J.2.1 = p.2 * (J.2.2 * J.2.2 * J.2.2) := h.2.2
 obtain ⟨z, hz⟩ : ∃ z, J.2.2 = z := ⟨_, rfl⟩
 rw [hz] at hx hy hv
 refine ⟨?_, ?_⟩
 ·rw [hx, show p.1 * (z * z) * (v * v) = p.1 * ((z * v) * (z * v)) from by grind, hv, oM, na]
 ·rw [hy, show p.2 * (z * z * z) * (v * v * v) = p.2 * ((z * v) * ((z * v) * (z * v))) from by grind, hv, oM, oM, na]
theorem uB {J : Zp × Zp × Zp} {P : Pt Zp} (h : E1.jr J P) (hn : ¬ P = none) {v : Zp} (hv : ¬ J.2.2 = 0 → J.2.2 * v = 1) : J.1 * (v * v) = PX P ∧ J.2.1 * (v * v * v) = PY P := by
 cases P with
 | none => exact absurd rfl hn
 | some p => exact xy_w h (hv h.1)
theorem pG  : Pure Tryz.prog Gt 11 [] (PtV gGen) := Cl
theorem A2  : Pure Tryz.prog Gt 15 [] (PtV gInf) := yb
theorem F9 (p : GP) (h : p.P = none) : Pure Tryz.prog Gt 57 [PtV p] (.tuple #[EV 0, EV 0, .bool false]) := rU p.J ((E1.jr_z p.jr).2 h)
theorem y5 (p : GP) (h : ¬ p.P = none) : Pure Tryz.prog Gt 57 [PtV p] (.tuple #[EV (PX p.P), EV (PY p.P), .bool true]) := by
 have k := sU p.J (fun e => h ((E1.jr_z p.jr).1 e))
 have e := uB p.jr h (v := p.J.2.2 ^ (PP - 2)) (fun h => ya h)
 rw [e.1, e.2] at k
 exact k
end J1
end
end Go.Proofs.YtpnpiblphnpfiaaGreatDoor
