/-
 The walks of package fp2: sums and products.
 The walks of package fp2: signs and roots; the reference's elements.
 The walks of package fp2: powers; the reference's powers.
-/
import Derived.Test.YtpnpiblphnpfiaaGreatDoorX9
import Derived.Test.YtpnpiblphnpfiaaGreatDoorX5
import Derived.Test.YtpnpiblphnpfiaaGreatDoorX3
import Derived.Test.YtpnpiblphnpfiaaGreatDoorXO
set_option maxRecDepth 100000
set_option maxHeartbeats 1000000
namespace Go.Proofs.YtpnpiblphnpfiaaGreatDoor
section
open Go.RowKit
attribute [local simp] aP bc aM aH aA a9 aF aE aG PLl bY ca N1l cb cf bZ aU ba aN aZ a7
theorem ent107 : ae Tryz.prog 107 := fun _ _ => by kernel_rfl
theorem ent152 : ae Tryz.prog 152 := fun _ _ => by kernel_rfl
theorem ent102 : ae Tryz.prog 102 := fun _ _ => by kernel_rfl
theorem ent153 : ae Tryz.prog 153 := fun _ _ => by kernel_rfl
theorem ent154 : ae Tryz.prog 154 := fun _ _ => by kernel_rfl
theorem ent101 : ae Tryz.prog 101 := fun _ _ => by kernel_rfl
theorem ent171 : ae Tryz.prog 171 := fun _ _ => by kernel_rfl
theorem ent130 : ae Tryz.prog 130 := fun _ _ => by kernel_rfl
theorem ent129 : ae Tryz.prog 129 := fun _ _ => by kernel_rfl
theorem ent172 : ae Tryz.prog 172 := fun _ _ => by kernel_rfl
theorem ent155 : ae Tryz.prog 155 := fun _ _ => by kernel_rfl
theorem ent128 : ae Tryz.prog 128 := fun _ _ => by kernel_rfl
theorem ent173 : ae Tryz.prog 173 := fun _ _ => by kernel_rfl
abbrev EV2 (x : W2) : Value := .agg ((fe x.1 ++ fe x.2).map U64).toArray
theorem zv33 (w : World) : (zeroValue 33).run Tryz.prog w = .ok (.agg ((fe 0 ++ fe 0).map U64).toArray) w := by rw [jF]; exact (Tryz.zeroValue33 w).trans (by rfl)
theorem v9 : Two Tryz.prog 33 ⟨ "C0", 27, 0, false, "", "", 0⟩ ⟨ "C1", 27, 6, false, "", "", 48⟩ 6 6 (fe 0) (fe 0) := ⟨Tryz.underlying33, rfl, rfl, Tryz.sizeOf27, Tryz.sizeOf27, zv33, aP 0, aP 0⟩
theorem e2 {a b c d : Zp} (h1 : a = c) (h2 : b = d) : Ending.returned (.agg ((fe a ++ fe b).map U64).toArray) = .returned (.agg ((fe c ++ fe d).map U64).toArray) := by rw [h1, h2]
theorem rb {a b : Bool} (h : a = b) : Ending.returned (.bool a) = .returned (.bool b) := by rw [h]
def q3 : Sh (Zp × Zp × Zp) := q1.two (q1.two q1 1) 1
theorem pE {f : FuncId} {fn : Func} {c : Code} (T : Tb Tryz.prog Gt) (hf : Tryz.prog.funcs[f]? = some fn) (a : List S0) (v : S1) (vc : S1 × CB) (p : Pa) (h : xF T fn c a p = some vc) (hc : Ok vc.2) (e : vc.1 = v) (hb : fn.body = some c := by rfl) (hn : Nat.ble a.length fn.ntmps = true := by rfl) : Pure Tryz.prog Gt f (a.map (dn rid)) (dn1 rid v) := by rw [← e]; exact B1 (v := vc.1) (cs := vc.2) T bq gtS hf hb h hc hn rid
theorem el2 {a b c d : Zp} (h1 : a = c) (h2 : b = d) : (Sum.inl (Sum.inl [a, b]) : S1) = .inl (.inl [c, d]) := by rw [h1, h2]
theorem eb {a b : Bool} (h : a = b) : (Sum.inl (.inr (.inl a)) : S1) = .inl (.inr (.inl b)) := by rw [h]
theorem df {f : Nat} {g : Zp → Zp → Zp} (en : ae Tryz.prog f) (h : ∀ a b, Pure Tryz.prog Gt f [EV a, EV b] (EV (g a b))) : Snd Tryz.prog Gt f (c2 q1.ag q1.ag q1.rd g) := dP q1.ag q1.ag q1.rd en h
def TO1 : Tb Tryz.prog Gt := TB.add (df (g := fun x y => x * y) ent63 gy)
theorem tk {f : Nat} {g : BitVec 64 → Zp} (en : ae Tryz.prog f) (h : ∀ a, Pure Tryz.prog Gt f [U64 a] (EV (g a))) : Snd Tryz.prog Gt f (c1 agU q1.rd g) := eB agU q1.rd en h
def TO2 : Tb Tryz.prog Gt := TO1.add (tk (g := fun n => zp n.toNat) ent104 nk)
theorem jI {f : Nat} {g : Zp → Zp → Bool} (en : ae Tryz.prog f) (h : ∀ a b, Pure Tryz.prog Gt f [EV a, EV b] (.bool (g a b))) : Snd Tryz.prog Gt f (c2 q1.ag q1.ag rdB g) := dP q1.ag q1.ag rdB en h
def TO3 : Tb Tryz.prog Gt := TO2.add (jI (g := fun x y => decide (x = y)) ent188 nT)
theorem tf {f : Nat} {g : Zp → Bool} (en : ae Tryz.prog f) (h : ∀ a, Pure Tryz.prog Gt f [EV a] (.bool (g a))) : Snd Tryz.prog Gt f (c1 q1.ag rdB g) := eB q1.ag rdB en h
def TO4 : Tb Tryz.prog Gt := TO3.add (tf (g := fun x => decide (x = 0)) ent88 mq)
def TO5 : Tb Tryz.prog Gt := TO4.add (df (g := fun x y => x + y) ent64 sM)
def TO6 : Tb Tryz.prog Gt := TO5.add (df (g := fun x y => x - y) ent87 iQ)
theorem gO {f : Nat} {g : Zp → Zp} (en : ae Tryz.prog f) (h : ∀ a, Pure Tryz.prog Gt f [EV a] (EV (g a))) : Snd Tryz.prog Gt f (c1 q1.ag q1.rd g) := eB q1.ag q1.rd en h
def TO7 : Tb Tryz.prog Gt := TO6.add (gO (g := fun x => -x) ent100 lJ)
def TO8 : Tb Tryz.prog Gt := TO7.add (gO (g := fun x => x * x) ent86 g9)
theorem pY {f : Nat} {g : Zp} (en : ae Tryz.prog f) (h : Pure Tryz.prog Gt f [U64 1#64] (EV g)) : Snd Tryz.prog Gt f (c1 (agL 1) q1.rd (fun _ => g)) := eB (agL 1) q1.rd en (fun _ => h)
def TO9 : Tb Tryz.prog Gt := TO8.add (pY (g := 1) ent104 lW)
def TO10 : Tb Tryz.prog Gt := TO9.add (gO (g := fun x => x ^ (PP - 2)) ent123 tp)
theorem u7  : Pure Tryz.prog Gt 107 [] (EV2 on2) := pE TO10 Tryz.func107 [] (.inl (.inl [on2.1, on2.2])) (.inl (.inl [1, 0]), []) [] (by kernel_rfl) aR rfl
theorem Gh {f : Nat} {g : W2} (en : ae Tryz.prog f) (h : Pure Tryz.prog Gt f [] (EV2 g)) : Snd Tryz.prog Gt f (c0 q2.rd g) := oy q2.rd en h
def TO18 : Tb Tryz.prog Gt := TO10.add (Gh (g := on2) ent107 u7)
theorem ri (x y : W2) : Pure Tryz.prog Gt 152 [EV2 x, EV2 y] (.bool (decide (x = y))) := by
 by_cases h : x.1 = y.1
 ·exact pE TO18 Tryz.func152 [.inl [x.1, x.2], .inl [y.1, y.2]] (.inl (.inr (.inl (decide (x = y))))) (.inl (.inr (.inl (decide (x.2 = y.2)))), [(decide (x.1 = y.1), true)]) [some true] (by kernel_rfl) (aT (decide_eq_true h) aR) (eb (uc h))
 ·exact pE TO18 Tryz.func152 [.inl [x.1, x.2], .inl [y.1, y.2]] (.inl (.inr (.inl (decide (x = y))))) (.inl (.inr (.inl false)), [(decide (x.1 = y.1), false)]) [some false] (by kernel_rfl) (aT (decide_eq_false h) aR) (eb (wI h))
theorem kF {f : Nat} {g : W2 → W2 → Bool} (en : ae Tryz.prog f) (h : ∀ a b, Pure Tryz.prog Gt f [EV2 a, EV2 b] (.bool (g a b))) : Snd Tryz.prog Gt f (c2 q2.ag q2.ag rdB g) := dP q2.ag q2.ag rdB en h
def TO19 : Tb Tryz.prog Gt := TO18.add (kF (g := fun x y => decide (x = y)) ent152 ri)
theorem nZ (x : W2) : Pure Tryz.prog Gt 102 [EV2 x] (.bool (decide (x = ze2))) := by
 by_cases h : x.1 = 0
 ·exact pE TO19 Tryz.func102 [.inl [x.1, x.2]] (.inl (.inr (.inl (decide (x = ze2))))) (.inl (.inr (.inl (decide (x.2 = 0)))), [(decide (x.1 = 0), true)]) [some true] (by kernel_rfl) (aT (decide_eq_true h) aR) (eb (uc (y := ze2) h))
 ·exact pE TO19 Tryz.func102 [.inl [x.1, x.2]] (.inl (.inr (.inl (decide (x = ze2))))) (.inl (.inr (.inl false)), [(decide (x.1 = 0), false)]) [some false] (by kernel_rfl) (aT (decide_eq_false h) aR) (eb (wI (y := ze2) h))
theorem ts {f : Nat} {g : W2 → Bool} (en : ae Tryz.prog f) (h : ∀ a, Pure Tryz.prog Gt f [EV2 a] (.bool (g a))) : Snd Tryz.prog Gt f (c1 q2.ag rdB g) := eB q2.ag rdB en h
def TO20 : Tb Tryz.prog Gt := TO19.add (ts (g := fun x => decide (x = ze2)) ent102 nZ)
theorem AW (x y : W2) : Pure Tryz.prog Gt 153 [EV2 x, EV2 y] (EV2 (ad2 x y)) := pE TO20 Tryz.func153 [.inl [x.1, x.2], .inl [y.1, y.2]] (.inl (.inl [(ad2 x y).1, (ad2 x y).2])) (.inl (.inl [x.1 + y.1, x.2 + y.2]), []) [] (by kernel_rfl) aR rfl
theorem de {f : Nat} {g : W2 → W2 → W2} (en : ae Tryz.prog f) (h : ∀ a b, Pure Tryz.prog Gt f [EV2 a, EV2 b] (EV2 (g a b))) : Snd Tryz.prog Gt f (c2 q2.ag q2.ag q2.rd g) := dP q2.ag q2.ag q2.rd en h
def TO21 : Tb Tryz.prog Gt := TO20.add (de (g := ad2) ent153 AW)
theorem vj (x y : W2) : Pure Tryz.prog Gt 154 [EV2 x, EV2 y] (EV2 (sb2 x y)) := pE TO21 Tryz.func154 [.inl [x.1, x.2], .inl [y.1, y.2]] (.inl (.inl [(sb2 x y).1, (sb2 x y).2])) (.inl (.inl [x.1 - y.1, x.2 - y.2]), []) [] (by kernel_rfl) aR rfl
def TO22 : Tb Tryz.prog Gt := TO21.add (de (g := sb2) ent154 vj)
theorem Fj (x : W2) : Pure Tryz.prog Gt 101 [EV2 x] (EV2 (ng2 x)) := pE TO22 Tryz.func101 [.inl [x.1, x.2]] (.inl (.inl [(ng2 x).1, (ng2 x).2])) (.inl (.inl [-x.1, -x.2]), []) [] (by kernel_rfl) aR rfl
theorem ej {f : Nat} {g : W2 → W2} (en : ae Tryz.prog f) (h : ∀ a, Pure Tryz.prog Gt f [EV2 a] (EV2 (g a))) : Snd Tryz.prog Gt f (c1 q2.ag q2.rd g) := eB q2.ag q2.rd en h
def TO23 : Tb Tryz.prog Gt := TO22.add (ej (g := ng2) ent101 Fj)
theorem tN (x : W2) : Pure Tryz.prog Gt 171 [EV2 x] (EV2 (cj2 x)) := pE TO23 Tryz.func171 [.inl [x.1, x.2]] (.inl (.inl [(cj2 x).1, (cj2 x).2])) (.inl (.inl [x.1, -x.2]), []) [] (by kernel_rfl) aR rfl
def TO24 : Tb Tryz.prog Gt := TO23.add (ej (g := cj2) ent171 tN)
theorem k4 (x y : W2) : Pure Tryz.prog Gt 130 [EV2 x, EV2 y] (EV2 (ml2 x y)) := pE TO24 Tryz.func130 [.inl [x.1, x.2], .inl [y.1, y.2]] (.inl (.inl [(ml2 x y).1, (ml2 x y).2])) (let t0 := (x.1 + x.2) * (y.1 + y.2); let t1 := (x.1 * y.1) - (x.2 * y.2); let t2 := t0 - (x.1 * y.1); let t3 := t2 - (x.2 * y.2); (.inl (.inl [t1, t3]), [])) [] (by kernel_rfl) aR (el2 (by first | (simp only [ml2]; done) | (simp only [ml2]; grind)) (by first | (simp only [ml2]; done) | (simp only [ml2]; grind)))
def TO25 : Tb Tryz.prog Gt := TO24.add (de (g := ml2) ent130 k4)
theorem nN (x : W2) : Pure Tryz.prog Gt 129 [EV2 x] (EV2 (ml2 x x)) := pE TO25 Tryz.func129 [.inl [x.1, x.2]] (.inl (.inl [(ml2 x x).1, (ml2 x x).2])) (let t0 := (x.1 + x.2) * (x.1 - x.2); let t1 := (x.1 * x.2) + (x.1 * x.2); (.inl (.inl [t0, t1]), [])) [] (by kernel_rfl) aR (el2 (by first | (simp only [ml2]; done) | (simp only [ml2]; grind)) (by first | (simp only [ml2]; done) | (simp only [ml2]; grind)))
def TO26 : Tb Tryz.prog Gt := TO25.add (ej (g := fun x => ml2 x x) ent129 nN)
theorem zD (x : W2) (c : Zp) : Pure Tryz.prog Gt 172 [EV2 x, EV c] (EV2 (sc2 x c)) := pE TO26 Tryz.func172 [.inl [x.1, x.2], .inl [c]] (.inl (.inl [(sc2 x c).1, (sc2 x c).2])) (.inl (.inl [x.1 * c, x.2 * c]), []) [] (by kernel_rfl) aR rfl
theorem i9 {f : Nat} {g : W2 → Zp → W2} (en : ae Tryz.prog f) (h : ∀ a b, Pure Tryz.prog Gt f [EV2 a, EV b] (EV2 (g a b))) : Snd Tryz.prog Gt f (c2 q2.ag q1.ag q2.rd g) := dP q2.ag q1.ag q2.rd en h
def TO27 : Tb Tryz.prog Gt := TO26.add (i9 (g := sc2) ent172 zD)
theorem HK (x : W2) : Pure Tryz.prog Gt 155 [EV2 x] (EV2 (xi2 x)) := pE TO27 Tryz.func155 [.inl [x.1, x.2]] (.inl (.inl [(xi2 x).1, (xi2 x).2])) (.inl (.inl [x.1 - x.2, x.1 + x.2]), []) [] (by kernel_rfl) aR rfl
def TO28 : Tb Tryz.prog Gt := TO27.add (ej (g := xi2) ent155 HK)
theorem ED (x : W2) : Pure Tryz.prog Gt 173 [EV2 x] (EV (nm2 x)) := pE TO28 Tryz.func173 [.inl [x.1, x.2]] (.inl (.inl [nm2 x])) (let t0 := (x.1 * x.1) + (x.2 * x.2); (.inl (.inl [t0]), [])) [] (by kernel_rfl) aR rfl
theorem qf {f : Nat} {g : W2 → Zp} (en : ae Tryz.prog f) (h : ∀ a, Pure Tryz.prog Gt f [EV2 a] (EV (g a))) : Snd Tryz.prog Gt f (c1 q2.ag q1.rd g) := eB q2.ag q1.rd en h
def TO29 : Tb Tryz.prog Gt := TO28.add (qf (g := nm2) ent173 ED)
theorem AG (x : W2) : Pure Tryz.prog Gt 128 [EV2 x] (EV2 (iv2 x)) := pE TO29 Tryz.func128 [.inl [x.1, x.2]] (.inl (.inl [(iv2 x).1, (iv2 x).2])) (let t0 := cj2 x; let t1 := (nm2 x) ^ (PP - 2); let t2 := sc2 (t0.1, t0.2) t1; (.inl (.inl [t2.1, t2.2]), [])) [] (by kernel_rfl) aR rfl
def TO30 : Tb Tryz.prog Gt := TO29.add (ej (g := iv2) ent128 AG)
end
section
open Go.RowKit
attribute [local simp] aP bc aM aH aA a9 aF aE aG PLl bY ca N1l cb cf bZ aU ba aN aZ a7
end
section
open Go.RowKit
attribute [local simp] aP bc aM aH aA a9 aF aE aG PLl bY ca N1l cb cf bZ aU ba aN aZ a7
theorem bt_y (x : W2) (bs : List (BitVec 8)) (i : Nat) (h : ce bs i = 1#8) : ml2 (ml2 (pw2 x (BTn bs i)) (pw2 x (BTn bs i))) x = pw2 x (BTn bs (i + 1)) := by
 rcases gA bs i with ⟨_, e⟩ | ⟨h', _⟩
 ·rw [← io, ← im, BTn, e, Nat.two_mul]
 ·exact absurd h h'
theorem bt_n (x : W2) (bs : List (BitVec 8)) (i : Nat) (h : ¬ ce bs i = 1#8) : ml2 (pw2 x (BTn bs i)) (pw2 x (BTn bs i)) = pw2 x (BTn bs (i + 1)) := by
 rcases gA bs i with ⟨h', _⟩ | ⟨_, e⟩
 ·exact absurd h' h
 ·rw [← io, BTn, e, Nat.two_mul, Nat.add_zero]
end
end Go.Proofs.YtpnpiblphnpfiaaGreatDoor
