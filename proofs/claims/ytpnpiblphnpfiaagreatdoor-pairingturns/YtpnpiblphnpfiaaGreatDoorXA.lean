/-
 The walks of package fp2: sums and products.
 The walks of package fp2: signs and roots; the reference's elements.
 The walks of package fp2: powers; the reference's powers.
-/
import Derived.Test.YtpnpiblphnpfiaaGreatDoorX9
import Derived.Test.YtpnpiblphnpfiaaGreatDoorX5
import Derived.Test.YtpnpiblphnpfiaaGreatDoorX3
import Derived.Test.YtpnpiblphnpfiaaGreatDoorXO
set_option maxRecDepth 100000
set_option maxHeartbeats 1000000
namespace Go.Proofs.YtpnpiblphnpfiaaGreatDoor
section
open Go.RowKit
attribute [local simp] a6 bq aH aB aP aZ aO aM aT PLl cB cC N1l cH cG cz bk br a5 bn bd
theorem ent107 : ac Tryz.prog 107 := fun _ _ => by kernel_rfl
theorem ent152 : ac Tryz.prog 152 := fun _ _ => by kernel_rfl
theorem ent102 : ac Tryz.prog 102 := fun _ _ => by kernel_rfl
theorem ent153 : ac Tryz.prog 153 := fun _ _ => by kernel_rfl
theorem ent154 : ac Tryz.prog 154 := fun _ _ => by kernel_rfl
theorem ent101 : ac Tryz.prog 101 := fun _ _ => by kernel_rfl
theorem ent171 : ac Tryz.prog 171 := fun _ _ => by kernel_rfl
theorem ent130 : ac Tryz.prog 130 := fun _ _ => by kernel_rfl
theorem ent129 : ac Tryz.prog 129 := fun _ _ => by kernel_rfl
theorem ent172 : ac Tryz.prog 172 := fun _ _ => by kernel_rfl
theorem ent155 : ac Tryz.prog 155 := fun _ _ => by kernel_rfl
theorem ent128 : ac Tryz.prog 128 := fun _ _ => by kernel_rfl
theorem ent173 : ac Tryz.prog 173 := fun _ _ => by kernel_rfl
theorem ent124 : ac Tryz.prog 124 := fun _ _ => by kernel_rfl
theorem ent164 : ac Tryz.prog 164 := fun _ _ => by kernel_rfl
theorem ent139 : ac Tryz.prog 139 := fun _ _ => by kernel_rfl
theorem ent166 : ac Tryz.prog 166 := fun _ _ => by kernel_rfl
theorem ent138 : ac Tryz.prog 138 := fun _ _ => by kernel_rfl
theorem ent142 : ac Tryz.prog 142 := fun _ _ => by kernel_rfl
theorem ent136 : ac Tryz.prog 136 := fun _ _ => by kernel_rfl
theorem ent190 : ac Tryz.prog 190 := fun _ _ => by kernel_rfl
theorem ent165 : ac Tryz.prog 165 := fun _ _ => by kernel_rfl
theorem ent140 : ac Tryz.prog 140 := fun _ _ => by kernel_rfl
theorem ent69 : ac Tryz.prog 69 := fun _ _ => by kernel_rfl
abbrev EV2 (x : W2) : Value := .agg ((fe x.1 ++ fe x.2).map U64).toArray
theorem zv33 (w : World) : (zeroValue 33).run Tryz.prog w = .ok (.agg ((fe 0 ++ fe 0).map U64).toArray) w := by rw [ju]; exact (Tryz.zeroValue33 w).trans (by rfl)
theorem uB : Two Tryz.prog 33 ⟨ "C0", 27, 0, false, "", "", 0⟩ ⟨ "C1", 27, 6, false, "", "", 48⟩ 6 6 (fe 0) (fe 0) := ⟨Tryz.underlying33, rfl, rfl, Tryz.sizeOf27, Tryz.sizeOf27, zv33, a6 0, a6 0⟩
theorem zv42 (w : World) : (zeroValue 42).run Tryz.prog w = .ok (.agg ((fe 0 ++ fe 0).map U64).toArray) w := by rw [ju]; exact (Tryz.zeroValue42 w).trans (by rfl)
theorem Bp : Two Tryz.prog 42 ⟨ "A", 40, 0, false, "", "", 0⟩ ⟨ "B", 40, 6, false, "", "", 48⟩ 6 6 (fe 0) (fe 0) := ⟨Tryz.underlying42, rfl, rfl, Tryz.sizeOf40, Tryz.sizeOf40, zv42, a6 0, a6 0⟩
theorem e2 {a b c d : Zp} (h1 : a = c) (h2 : b = d) : Ending.returned (.agg ((fe a ++ fe b).map U64).toArray) = .returned (.agg ((fe c ++ fe d).map U64).toArray) := by rw [h1, h2]
theorem rb {a b : Bool} (h : a = b) : Ending.returned (.bool a) = .returned (.bool b) := by rw [h]
def q3 : Sh (Zp × Zp × Zp) := q1.two (q1.two q1 1) 1
theorem pE {f : FuncId} {fn : Func} {c : Code} (T : Tb Tryz.prog Gt) (hf : Tryz.prog.funcs[f]? = some fn) (a : List S0) (v : S1) (vc : S1 × CB) (p : Pa) (h : xF T fn c a p = some vc) (hc : Ok vc.2) (e : vc.1 = v) (hb : fn.body = some c := by rfl) (hn : Nat.ble a.length fn.ntmps = true := by rfl) : Pure Tryz.prog Gt f (a.map (dn rid)) (dn1 rid v) := by rw [← e]; exact CQ (v := vc.1) (cs := vc.2) T a7 gtS hf hb h hc hn rid
theorem el2 {a b c d : Zp} (h1 : a = c) (h2 : b = d) : (Sum.inl (Sum.inl [a, b]) : S1) = .inl (.inl [c, d]) := by rw [h1, h2]
theorem eb {a b : Bool} (h : a = b) : (Sum.inl (.inr (.inl a)) : S1) = .inl (.inr (.inl b)) := by rw [h]
theorem cf {f : Nat} {g : Zp → Zp → Zp} (en : ac Tryz.prog f) (h : ∀ a b, Pure Tryz.prog Gt f [EV a, EV b] (EV (g a b))) : Snd Tryz.prog Gt f (c2 q1.ag q1.ag q1.rd g) := dM q1.ag q1.ag q1.rd en h
def TO1 : Tb Tryz.prog Gt := TB.add (cf (g := fun x y => x * y) ent63 g6)
theorem mp {f : Nat} {g : BitVec 64 → Zp} (en : ac Tryz.prog f) (h : ∀ a, Pure Tryz.prog Gt f [U64 a] (EV (g a))) : Snd Tryz.prog Gt f (c1 agU q1.rd g) := dQ agU q1.rd en h
def TO2 : Tb Tryz.prog Gt := TO1.add (mp (g := fun n => zp n.toNat) ent104 ot)
theorem ll {f : Nat} {g : Zp → Zp → Bool} (en : ac Tryz.prog f) (h : ∀ a b, Pure Tryz.prog Gt f [EV a, EV b] (.bool (g a b))) : Snd Tryz.prog Gt f (c2 q1.ag q1.ag rdB g) := dM q1.ag q1.ag rdB en h
def TO3 : Tb Tryz.prog Gt := TO2.add (ll (g := fun x y => decide (x = y)) ent188 pH)
theorem mA {f : Nat} {g : Zp → Bool} (en : ac Tryz.prog f) (h : ∀ a, Pure Tryz.prog Gt f [EV a] (.bool (g a))) : Snd Tryz.prog Gt f (c1 q1.ag rdB g) := dQ q1.ag rdB en h
def TO4 : Tb Tryz.prog Gt := TO3.add (mA (g := fun x => decide (x = 0)) ent88 nX)
def TO5 : Tb Tryz.prog Gt := TO4.add (cf (g := fun x y => x + y) ent64 uc)
def TO6 : Tb Tryz.prog Gt := TO5.add (cf (g := fun x y => x - y) ent87 jg)
theorem d6 {f : Nat} {g : Zp → Zp} (en : ac Tryz.prog f) (h : ∀ a, Pure Tryz.prog Gt f [EV a] (EV (g a))) : Snd Tryz.prog Gt f (c1 q1.ag q1.rd g) := dQ q1.ag q1.rd en h
def TO7 : Tb Tryz.prog Gt := TO6.add (d6 (g := fun x => -x) ent100 mC)
def TO8 : Tb Tryz.prog Gt := TO7.add (d6 (g := fun x => x * x) ent86 i5)
theorem kF {f : Nat} {g : Zp} (en : ac Tryz.prog f) (h : Pure Tryz.prog Gt f [U64 1#64] (EV g)) : Snd Tryz.prog Gt f (c1 (agL 1) q1.rd (fun _ => g)) := dQ (agL 1) q1.rd en (fun _ => h)
def TO9 : Tb Tryz.prog Gt := TO8.add (kF (g := 1) ent104 mv)
def TO10 : Tb Tryz.prog Gt := TO9.add (d6 (g := fun x => x ^ (PP - 2)) ent123 tQ)
def TO11 : Tb Tryz.prog Gt := TO10.add (cf (g := fun x y => x * y) ent179 Hs)
def TO12 : Tb Tryz.prog Gt := TO11.add (cf (g := fun x y => x + y) ent182 Ju)
def TO13 : Tb Tryz.prog Gt := TO12.add (cf (g := fun x y => x - y) ent181 JK)
def TO14 : Tb Tryz.prog Gt := TO13.add (d6 (g := fun x => -x) ent183 Hh)
def TO15 : Tb Tryz.prog Gt := TO14.add (d6 (g := fun x => x ^ (PP - 2)) ent191 HG)
def TO16 : Tb Tryz.prog Gt := TO15.add (mA (g := fun x => decide (x = 0)) ent180 uA)
def TO17 : Tb Tryz.prog Gt := TO16.add (mp (g := fun n => zp n.toNat) ent135 kq)
theorem xv  : Pure Tryz.prog Gt 107 [] (EV2 on2) := pE TO17 Tryz.func107 [] (.inl (.inl [on2.1, on2.2])) (.inl (.inl [1, 0]), []) [] (by kernel_rfl) aE rfl
theorem BW {f : Nat} {g : W2} (en : ac Tryz.prog f) (h : Pure Tryz.prog Gt f [] (EV2 g)) : Snd Tryz.prog Gt f (c0 q2.rd g) := mz q2.rd en h
def TO18 : Tb Tryz.prog Gt := TO17.add (BW (g := on2) ent107 xv)
theorem sp (x y : W2) : Pure Tryz.prog Gt 152 [EV2 x, EV2 y] (.bool (decide (x = y))) := by
 by_cases h : x.1 = y.1
 ·exact pE TO18 Tryz.func152 [.inl [x.1, x.2], .inl [y.1, y.2]] (.inl (.inr (.inl (decide (x = y))))) (.inl (.inr (.inl (decide (x.2 = y.2)))), [(decide (x.1 = y.1), true)]) [some true] (by kernel_rfl) (az (decide_eq_true h) aE) (eb (qe h))
 ·exact pE TO18 Tryz.func152 [.inl [x.1, x.2], .inl [y.1, y.2]] (.inl (.inr (.inl (decide (x = y))))) (.inl (.inr (.inl false)), [(decide (x.1 = y.1), false)]) [some false] (by kernel_rfl) (az (decide_eq_false h) aE) (eb (qM h))
theorem lv {f : Nat} {g : W2 → W2 → Bool} (en : ac Tryz.prog f) (h : ∀ a b, Pure Tryz.prog Gt f [EV2 a, EV2 b] (.bool (g a b))) : Snd Tryz.prog Gt f (c2 q2.ag q2.ag rdB g) := dM q2.ag q2.ag rdB en h
def TO19 : Tb Tryz.prog Gt := TO18.add (lv (g := fun x y => decide (x = y)) ent152 sp)
theorem oN (x : W2) : Pure Tryz.prog Gt 102 [EV2 x] (.bool (decide (x = ze2))) := by
 by_cases h : x.1 = 0
 ·exact pE TO19 Tryz.func102 [.inl [x.1, x.2]] (.inl (.inr (.inl (decide (x = ze2))))) (.inl (.inr (.inl (decide (x.2 = 0)))), [(decide (x.1 = 0), true)]) [some true] (by kernel_rfl) (az (decide_eq_true h) aE) (eb (qe (y := ze2) h))
 ·exact pE TO19 Tryz.func102 [.inl [x.1, x.2]] (.inl (.inr (.inl (decide (x = ze2))))) (.inl (.inr (.inl false)), [(decide (x.1 = 0), false)]) [some false] (by kernel_rfl) (az (decide_eq_false h) aE) (eb (qM (y := ze2) h))
theorem mM {f : Nat} {g : W2 → Bool} (en : ac Tryz.prog f) (h : ∀ a, Pure Tryz.prog Gt f [EV2 a] (.bool (g a))) : Snd Tryz.prog Gt f (c1 q2.ag rdB g) := dQ q2.ag rdB en h
def TO20 : Tb Tryz.prog Gt := TO19.add (mM (g := fun x => decide (x = ze2)) ent102 oN)
theorem Bg (x y : W2) : Pure Tryz.prog Gt 153 [EV2 x, EV2 y] (EV2 (ad2 x y)) := pE TO20 Tryz.func153 [.inl [x.1, x.2], .inl [y.1, y.2]] (.inl (.inl [(ad2 x y).1, (ad2 x y).2])) (.inl (.inl [x.1 + y.1, x.2 + y.2]), []) [] (by kernel_rfl) aE rfl
theorem bU {f : Nat} {g : W2 → W2 → W2} (en : ac Tryz.prog f) (h : ∀ a b, Pure Tryz.prog Gt f [EV2 a, EV2 b] (EV2 (g a b))) : Snd Tryz.prog Gt f (c2 q2.ag q2.ag q2.rd g) := dM q2.ag q2.ag q2.rd en h
def TO21 : Tb Tryz.prog Gt := TO20.add (bU (g := ad2) ent153 Bg)
theorem yX (x y : W2) : Pure Tryz.prog Gt 154 [EV2 x, EV2 y] (EV2 (sb2 x y)) := pE TO21 Tryz.func154 [.inl [x.1, x.2], .inl [y.1, y.2]] (.inl (.inl [(sb2 x y).1, (sb2 x y).2])) (.inl (.inl [x.1 - y.1, x.2 - y.2]), []) [] (by kernel_rfl) aE rfl
def TO22 : Tb Tryz.prog Gt := TO21.add (bU (g := sb2) ent154 yX)
theorem Jv (x : W2) : Pure Tryz.prog Gt 101 [EV2 x] (EV2 (ng2 x)) := pE TO22 Tryz.func101 [.inl [x.1, x.2]] (.inl (.inl [(ng2 x).1, (ng2 x).2])) (.inl (.inl [-x.1, -x.2]), []) [] (by kernel_rfl) aE rfl
theorem cE {f : Nat} {g : W2 → W2} (en : ac Tryz.prog f) (h : ∀ a, Pure Tryz.prog Gt f [EV2 a] (EV2 (g a))) : Snd Tryz.prog Gt f (c1 q2.ag q2.rd g) := dQ q2.ag q2.rd en h
def TO23 : Tb Tryz.prog Gt := TO22.add (cE (g := ng2) ent101 Jv)
theorem w8 (x : W2) : Pure Tryz.prog Gt 171 [EV2 x] (EV2 (cj2 x)) := pE TO23 Tryz.func171 [.inl [x.1, x.2]] (.inl (.inl [(cj2 x).1, (cj2 x).2])) (.inl (.inl [x.1, -x.2]), []) [] (by kernel_rfl) aE rfl
def TO24 : Tb Tryz.prog Gt := TO23.add (cE (g := cj2) ent171 w8)
theorem lC (x y : W2) : Pure Tryz.prog Gt 130 [EV2 x, EV2 y] (EV2 (ml2 x y)) := pE TO24 Tryz.func130 [.inl [x.1, x.2], .inl [y.1, y.2]] (.inl (.inl [(ml2 x y).1, (ml2 x y).2])) (let t0 := (x.1 + x.2) * (y.1 + y.2); let t1 := (x.1 * y.1) - (x.2 * y.2); let t2 := t0 - (x.1 * y.1); let t3 := t2 - (x.2 * y.2); (.inl (.inl [t1, t3]), [])) [] (by kernel_rfl) aE (el2 (by first | (simp only [ml2]; done) | (simp only [ml2]; grind)) (by first | (simp only [ml2]; done) | (simp only [ml2]; grind)))
def TO25 : Tb Tryz.prog Gt := TO24.add (bU (g := ml2) ent130 lC)
theorem om (x : W2) : Pure Tryz.prog Gt 129 [EV2 x] (EV2 (ml2 x x)) := pE TO25 Tryz.func129 [.inl [x.1, x.2]] (.inl (.inl [(ml2 x x).1, (ml2 x x).2])) (let t0 := (x.1 + x.2) * (x.1 - x.2); let t1 := (x.1 * x.2) + (x.1 * x.2); (.inl (.inl [t0, t1]), [])) [] (by kernel_rfl) aE (el2 (by first | (simp only [ml2]; done) | (simp only [ml2]; grind)) (by first | (simp only [ml2]; done) | (simp only [ml2]; grind)))
def TO26 : Tb Tryz.prog Gt := TO25.add (cE (g := fun x => ml2 x x) ent129 om)
theorem z8 (x : W2) (c : Zp) : Pure Tryz.prog Gt 172 [EV2 x, EV c] (EV2 (sc2 x c)) := pE TO26 Tryz.func172 [.inl [x.1, x.2], .inl [c]] (.inl (.inl [(sc2 x c).1, (sc2 x c).2])) (.inl (.inl [x.1 * c, x.2 * c]), []) [] (by kernel_rfl) aE rfl
theorem jZ {f : Nat} {g : W2 → Zp → W2} (en : ac Tryz.prog f) (h : ∀ a b, Pure Tryz.prog Gt f [EV2 a, EV b] (EV2 (g a b))) : Snd Tryz.prog Gt f (c2 q2.ag q1.ag q2.rd g) := dM q2.ag q1.ag q2.rd en h
def TO27 : Tb Tryz.prog Gt := TO26.add (jZ (g := sc2) ent172 z8)
theorem IE (x : W2) : Pure Tryz.prog Gt 155 [EV2 x] (EV2 (xi2 x)) := pE TO27 Tryz.func155 [.inl [x.1, x.2]] (.inl (.inl [(xi2 x).1, (xi2 x).2])) (.inl (.inl [x.1 - x.2, x.1 + x.2]), []) [] (by kernel_rfl) aE rfl
def TO28 : Tb Tryz.prog Gt := TO27.add (cE (g := xi2) ent155 IE)
theorem Du (x : W2) : Pure Tryz.prog Gt 173 [EV2 x] (EV (nm2 x)) := pE TO28 Tryz.func173 [.inl [x.1, x.2]] (.inl (.inl [nm2 x])) (let t0 := (x.1 * x.1) + (x.2 * x.2); (.inl (.inl [t0]), [])) [] (by kernel_rfl) aE rfl
theorem lf {f : Nat} {g : W2 → Zp} (en : ac Tryz.prog f) (h : ∀ a, Pure Tryz.prog Gt f [EV2 a] (EV (g a))) : Snd Tryz.prog Gt f (c1 q2.ag q1.rd g) := dQ q2.ag q1.rd en h
def TO29 : Tb Tryz.prog Gt := TO28.add (lf (g := nm2) ent173 Du)
theorem Cf (x : W2) : Pure Tryz.prog Gt 128 [EV2 x] (EV2 (iv2 x)) := pE TO29 Tryz.func128 [.inl [x.1, x.2]] (.inl (.inl [(iv2 x).1, (iv2 x).2])) (let t0 := cj2 x; let t1 := (nm2 x) ^ (PP - 2); let t2 := sc2 (t0.1, t0.2) t1; (.inl (.inl [t2.1, t2.2]), [])) [] (by kernel_rfl) aE rfl
def TO30 : Tb Tryz.prog Gt := TO29.add (cE (g := iv2) ent128 Cf)
end
section
open Go.RowKit
attribute [local simp] a6 bq aH aB aP aZ aO aM aT PLl cB cC N1l cH cG cz bk br a5 bn bd
theorem zK : Pure Tryz.prog Gt 135 [U64 1#64] (EV 1) := kq 1#64
theorem zH : Pure Tryz.prog Gt 135 [U64 2#64] (EV (zp 2)) := kq 2#64
def TO31 : Tb Tryz.prog Gt := TO30.add (kF (g := 1) ent135 zK)
theorem q7 {f : Nat} {g : Zp} (en : ac Tryz.prog f) (h : Pure Tryz.prog Gt f [U64 2#64] (EV g)) : Snd Tryz.prog Gt f (c1 (agL 2) q1.rd (fun _ => g)) := dQ (agL 2) q1.rd en (fun _ => h)
def TO32 : Tb Tryz.prog Gt := TO31.add (q7 (g := zp 2) ent135 zH)
theorem xw  : Pure Tryz.prog Gt 124 [] (EV2 on2) := pE TO32 Tryz.func124 [] (.inl (.inl [on2.1, on2.2])) (.inl (.inl [1, 0]), []) [] (by kernel_rfl) aE rfl
def TO33 : Tb Tryz.prog Gt := TO32.add (BW (g := on2) ent124 xw)
theorem wT (x : W2) : Pure Tryz.prog Gt 164 [EV2 x] (.bool (decide (x = ze2))) := by
 by_cases h : x.1 = 0
 ·exact pE TO33 Tryz.func164 [.inl [x.1, x.2]] (.inl (.inr (.inl (decide (x = ze2))))) (.inl (.inr (.inl (decide (x.2 = 0)))), [(decide (x.1 = 0), true)]) [some true] (by kernel_rfl) (az (decide_eq_true h) aE) (eb (qe (y := ze2) h))
 ·exact pE TO33 Tryz.func164 [.inl [x.1, x.2]] (.inl (.inr (.inl (decide (x = ze2))))) (.inl (.inr (.inl false)), [(decide (x.1 = 0), false)]) [some false] (by kernel_rfl) (az (decide_eq_false h) aE) (eb (qM (y := ze2) h))
def TO34 : Tb Tryz.prog Gt := TO33.add (mM (g := fun x => decide (x = ze2)) ent164 wT)
theorem wF (x y : W2) : Pure Tryz.prog Gt 139 [EV2 x, EV2 y] (EV2 (ad2 x y)) := pE TO34 Tryz.func139 [.inl [x.1, x.2], .inl [y.1, y.2]] (.inl (.inl [(ad2 x y).1, (ad2 x y).2])) (.inl (.inl [x.1 + y.1, x.2 + y.2]), []) [] (by kernel_rfl) aE rfl
def TO35 : Tb Tryz.prog Gt := TO34.add (bU (g := ad2) ent139 wF)
theorem ye (x y : W2) : Pure Tryz.prog Gt 166 [EV2 x, EV2 y] (EV2 (sb2 x y)) := pE TO35 Tryz.func166 [.inl [x.1, x.2], .inl [y.1, y.2]] (.inl (.inl [(sb2 x y).1, (sb2 x y).2])) (.inl (.inl [x.1 - y.1, x.2 - y.2]), []) [] (by kernel_rfl) aE rfl
def TO36 : Tb Tryz.prog Gt := TO35.add (bU (g := sb2) ent166 ye)
theorem BD (x : W2) : Pure Tryz.prog Gt 138 [EV2 x] (EV2 (ng2 x)) := pE TO36 Tryz.func138 [.inl [x.1, x.2]] (.inl (.inl [(ng2 x).1, (ng2 x).2])) (.inl (.inl [-x.1, -x.2]), []) [] (by kernel_rfl) aE rfl
def TO37 : Tb Tryz.prog Gt := TO36.add (cE (g := ng2) ent138 BD)
theorem uU (x : W2) : Pure Tryz.prog Gt 142 [EV2 x] (EV2 (cj2 x)) := pE TO37 Tryz.func142 [.inl [x.1, x.2]] (.inl (.inl [(cj2 x).1, (cj2 x).2])) (.inl (.inl [x.1, -x.2]), []) [] (by kernel_rfl) aE rfl
def TO38 : Tb Tryz.prog Gt := TO37.add (cE (g := cj2) ent142 uU)
theorem D7 (x : W2) : Pure Tryz.prog Gt 140 [EV2 x] (EV2 (xi2 x)) := pE TO38 Tryz.func140 [.inl [x.1, x.2]] (.inl (.inl [(xi2 x).1, (xi2 x).2])) (.inl (.inl [x.1 - x.2, x.1 + x.2]), []) [] (by kernel_rfl) aE rfl
def TO39 : Tb Tryz.prog Gt := TO38.add (cE (g := xi2) ent140 D7)
theorem mT (x y : W2) : Pure Tryz.prog Gt 136 [EV2 x, EV2 y] (EV2 (ml2 x y)) := by
 by_cases h : x.2 = 0
 ·by_cases h2 : y.2 = 0
  ·exact pE TO39 Tryz.func136 [.inl [x.1, x.2], .inl [y.1, y.2]] (.inl (.inl [(ml2 x y).1, (ml2 x y).2])) (.inl (.inl [x.1 * y.1, 0]), [(decide (x.2 = 0), true), (decide (y.2 = 0), true)]) [some true, some true] (by kernel_rfl) (az (decide_eq_true h) (az (decide_eq_true h2) aE)) (el2 (by simp only [ml2]; rw [h]; grind) (by simp only [ml2]; rw [h, h2, fW, oe, Ae]))
  ·exact pE TO39 Tryz.func136 [.inl [x.1, x.2], .inl [y.1, y.2]] (.inl (.inl [(ml2 x y).1, (ml2 x y).2])) (let t0 := (x.1 * y.1) - (x.2 * y.2); let t1 := (x.1 + x.2) * (y.1 + y.2); let t2 := t1 - (x.1 * y.1); let t3 := t2 - (x.2 * y.2); (.inl (.inl [t0, t3]), [(decide (x.2 = 0), true), (decide (y.2 = 0), false)])) [some true, some false] (by kernel_rfl) (az (decide_eq_true h) (az (decide_eq_false h2) aE)) (el2 (by first | (simp only [ml2]; done) | (simp only [ml2]; grind)) (by first | (simp only [ml2]; done) | (simp only [ml2]; grind)))
 ·exact pE TO39 Tryz.func136 [.inl [x.1, x.2], .inl [y.1, y.2]] (.inl (.inl [(ml2 x y).1, (ml2 x y).2])) (let t0 := (x.1 * y.1) - (x.2 * y.2); let t1 := (x.1 + x.2) * (y.1 + y.2); let t2 := t1 - (x.1 * y.1); let t3 := t2 - (x.2 * y.2); (.inl (.inl [t0, t3]), [(decide (x.2 = 0), false)])) [some false] (by kernel_rfl) (az (decide_eq_false h) aE) (el2 (by first | (simp only [ml2]; done) | (simp only [ml2]; grind)) (by first | (simp only [ml2]; done) | (simp only [ml2]; grind)))
def TO40 : Tb Tryz.prog Gt := TO39.add (bU (g := ml2) ent136 mT)
theorem Gl (x : W2) : Pure Tryz.prog Gt 190 [EV2 x] (EV (nm2 x)) := pE TO40 Tryz.func190 [.inl [x.1, x.2]] (.inl (.inl [nm2 x])) (let t0 := (x.1 * x.1) + (x.2 * x.2); (.inl (.inl [t0]), [])) [] (by kernel_rfl) aE rfl
def TO41 : Tb Tryz.prog Gt := TO40.add (lf (g := nm2) ent190 Gl)
theorem CD (x : W2) : Pure Tryz.prog Gt 165 [EV2 x] (EV2 (iv2 x)) := pE TO41 Tryz.func165 [.inl [x.1, x.2]] (.inl (.inl [(iv2 x).1, (iv2 x).2])) (let t0 := (nm2 x) ^ (PP - 2); (.inl (.inl [x.1 * t0, (-x.2) * t0]), [])) [] (by kernel_rfl) aE rfl
def TO42 : Tb Tryz.prog Gt := TO41.add (cE (g := iv2) ent165 CD)
end
section
open Go.RowKit
attribute [local simp] a6 bq aH aB aP aZ aO aM aT PLl cB cC N1l cH cG cz bk br a5 bn bd
theorem rU3 {Q P : Prop} (k : Q) (h : Q → P := by intro k; (refine LY.run ?_); (repeat (first | refine bH rfl rfl rfl ?_ | refine bc rfl rfl rfl ?_ | ((refine FH rfl rfl ?_ rfl rfl ?_); (· simp)) | ((refine wH hGF rfl rfl rfl ?_ ?_ (ak _) rfl ?_); (· simp); (· simp)) | refine bw (f := 136) rfl rfl ent136 (mT _ _) rfl rfl ?_)); (first | refine bY ?_ | refine LY.mk ?_); exact k) : P := h k
theorem pU3 {Q P : Prop} (k : Q) (h : Q → P := by intro k; (refine xp ?_); (refine rU3 ?_); exact k) : P := h k
theorem bt_y (x : W2) (bs : List (BitVec 8)) (i : Nat) (h : cI bs i = 1#8) : ml2 (ml2 (pw2 x (BTn bs i)) (pw2 x (BTn bs i))) x = pw2 x (BTn bs (i + 1)) := by
 rcases iV bs i with ⟨_, e⟩ | ⟨h', _⟩
 ·rw [← iY, ← iw, BTn, e, Nat.two_mul]
 ·exact absurd h h'
theorem bt_n (x : W2) (bs : List (BitVec 8)) (i : Nat) (h : ¬ cI bs i = 1#8) : ml2 (pw2 x (BTn bs i)) (pw2 x (BTn bs i)) = pw2 x (BTn bs (i + 1)) := by
 rcases iV bs i with ⟨h', _⟩ | ⟨_, e⟩
 ·exact absurd h' h
 ·rw [← iY, BTn, e, Nat.two_mul, Nat.add_zero]
theorem ov (x : W2) (e : Option Addr) (cap : Nat) (bs : List (BitVec 8)) (hlen : bs.length ≤ 4096) (w : World) (hw : Gt w) (hby : BytesAt w e bs) :
  Calls Tryz.prog 69 [EV2 x, .slice e bs.length cap].toArray w (fun r w' => r = .returned (EV2 (pw2 x (BN bs bs.length))) ∧ Grow w w') := by
 have hGF : BOk Gt (pl w) := gt_low.plain hw
 refine aK (G := Gt) Tryz.func69 rfl rfl (Hp (pl w) []) (aX (pl w) trivial ap) (aw hGF) ?_
 refine xp ?_
 refine lb fun b2 => ?_
 refine la zv42 fun b4 => ?_
 refine aa ?_
 refine xp ?_
 refine lc ent124 (xw) ?_
 refine la zv42 fun b5 => ?_
 refine rU3 ?_
 refine ao ?_
 refine pU3 ?_
 refine am ?_
 refine bK (ι := { i : Nat // i ≤ 8 * bs.length }) (fun y => [(1, .slice e bs.length cap), (2, .pointer (some ⟨b2, 0, none⟩)), (4, .pointer (some ⟨b4, 0, none⟩)), (5, .pointer (some ⟨b5, 0, none⟩)), (6, I (y.1 : Int))]) (fun y => [(2, b2, (fe (x).1 ++ fe (x).2).map U64, 42), (4, b4, (fe 0 ++ fe 0).map U64, 42), (5, b5, (fe (pw2 x (BTn bs y.1)).1 ++ fe (pw2 x (BTn bs y.1)).2).map U64, 42)]) (fun y => 8 * bs.length - y.1) ⟨0, Nat.zero_le _⟩ hGF ⟨rfl, rfl, rfl, rfl, rfl, trivial⟩ ⟨rfl, rfl, by rw [BTn, GY]; rfl, trivial⟩ ?_
 rintro ⟨i, hi⟩
 dsimp only
 refine ao ?_
 refine pU3 ?_
 refine bN rfl (fun _ => a9 Tryz.underlying22 _ _ _ _) rfl rfl ?_
 refine ab (v := I ((8 * bs.length : Nat) : Int)) rfl rfl (fun _ => rfl) (fun _ => (dp _ _ _ (by unfold inI; omega)).trans (by rw [show (8 : Int) * (bs.length : Int) = ((8 * bs.length : Nat) : Int) by omega])) rfl rfl ?_
 refine ab rfl rfl (fun _ => rfl) (fun _ => aG _ _ _) rfl rfl ?_
 refine aa ?_
 refine bJ rfl (fun hc => ?_) (fun hc => ?_)
 ·simp only [decide_eq_true_eq] at hc
  refine aD ?_
  refine ao ?_
  refine am ?_
  refine pU3 ?_
  refine pU3 ?_
  refine ab (v := I ((i / 8 : Nat) : Int)) rfl rfl (fun _ => rfl) (fun _ => eO _ _ _ (by decide) (show inI ((i / 8 : Nat) : Int) by unfold inI; omega)) rfl rfl ?_
  obtain ⟨ad, rfl, _⟩ := hby (i / 8) _ (gm U8 bs 0 (i / 8) (by omega))
  refine ie (i / 8) rfl rfl Tryz.underlying22 Tryz.sizeOf5 rfl (by omega) rfl rfl ?_
  refine cn rfl Tryz.isAgg5 (fun w' h => by obtain ⟨ad', e, hc⟩ := (hby.grow (ah h)) (i / 8) _ (gm U8 bs 0 (i / 8) (by omega)); cases e; exact hc) rfl rfl ?_
  refine rU3 ?_
  refine ab (v := I ((i % 8 : Nat) : Int)) rfl rfl (fun _ => rfl) (fun _ => dj _ _ _ (by decide)) rfl rfl ?_
  refine ab (v := I ((7 - i % 8 : Nat) : Int)) rfl rfl (fun _ => rfl) (fun _ => (bi _ _ _ (by unfold inI; omega)).trans (by rw [show ((7 : Int) - ((i % 8 : Nat) : Int)) = ((7 - i % 8 : Nat) : Int) by omega])) rfl rfl ?_
  refine ab (v := U8 (bs.getD (i / 8) 0 >>> (7 - i % 8))) rfl rfl (fun _ => rfl) (fun _ => de _ _ _ (by omega)) rfl rfl ?_
  refine ab (v := U8 (cI bs i)) rfl rfl (fun _ => rfl) (fun _ => dU _ _ 1#8) rfl rfl ?_
  refine ab (v := .bool (decide (cI bs i = 1#8))) rfl rfl (fun _ => rfl) (fun _ => (dV _ _ 1#8).trans rfl) rfl rfl ?_
  refine aa ?_
  refine bJ rfl (fun hc => ?_) (fun hc => ?_)
  ·simp only [decide_eq_true_eq] at hc
   have hq := hc
   refine au (E := EE []) ?_
   refine rU3 ?_
   refine au (E := EE []) ?_
   refine rU3 ?_
   refine ab rfl rfl (fun _ => rfl) (fun _ => aA _ _ _ (by unfold inI; omega)) rfl rfl ?_
   refine rU3 ?_
   repeat (refine aL ?_)
   refine aY ?_
   exact ⟨rfl, ⟨i + 1, by omega⟩, _, by show 8 * bs.length - (i + 1) < 8 * bs.length - i; omega, rfl, ⟨rfl, rfl, rfl, rfl, rfl, trivial⟩, ⟨rfl, rfl, by first | (rw [← bt_y x bs i hq]; rfl) | (rw [← bt_n x bs i hq]; rfl), trivial⟩⟩
  ·simp only [decide_eq_false_iff_not] at hc
   have hq := hc
   refine aD ?_
   refine au (E := EE []) ?_
   refine rU3 ?_
   refine ab rfl rfl (fun _ => rfl) (fun _ => aA _ _ _ (by unfold inI; omega)) rfl rfl ?_
   refine rU3 ?_
   repeat (refine aL ?_)
   refine aY ?_
   exact ⟨rfl, ⟨i + 1, by omega⟩, _, by show 8 * bs.length - (i + 1) < 8 * bs.length - i; omega, rfl, ⟨rfl, rfl, rfl, rfl, rfl, trivial⟩, ⟨rfl, rfl, by first | (rw [← bt_y x bs i hq]; rfl) | (rw [← bt_n x bs i hq]; rfl), trivial⟩⟩
 ·obtain rfl : i = 8 * bs.length := by simp at hc; omega
  refine aV ?_
  refine pU3 ?_
  refine rt ?_
  exact ay 4 rfl rfl rfl Tryz.isAgg42 Tryz.sizeOf42 (by simp) (fun w hw => ⟨by rw [← fE], ah hw⟩)
end
end Go.Proofs.YtpnpiblphnpfiaaGreatDoor
