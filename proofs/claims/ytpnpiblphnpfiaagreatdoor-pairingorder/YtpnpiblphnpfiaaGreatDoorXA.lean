/-
 The walks of package fp2: sums and products.
 The walks of package fp2: signs and roots; the reference's elements.
 The walks of package fp2: powers; the reference's powers.
-/
import Derived.Test.YtpnpiblphnpfiaaGreatDoorX9
import Derived.Test.YtpnpiblphnpfiaaGreatDoorX5
import Derived.Test.YtpnpiblphnpfiaaGreatDoorX3
import Derived.Test.YtpnpiblphnpfiaaGreatDoorXO
set_option maxRecDepth 100000
set_option maxHeartbeats 1000000
namespace Go.Proofs.YtpnpiblphnpfiaaGreatDoor
section
open Go.RowKit
attribute [local simp] aY bj aF aA aL aW aM aK aO PLl cq cn N1l cm cp ck bd bk aX bg ba
theorem ent107 : ae Tryz.prog 107 := fun _ _ => by kernel_rfl
theorem ent152 : ae Tryz.prog 152 := fun _ _ => by kernel_rfl
theorem ent102 : ae Tryz.prog 102 := fun _ _ => by kernel_rfl
theorem ent153 : ae Tryz.prog 153 := fun _ _ => by kernel_rfl
theorem ent154 : ae Tryz.prog 154 := fun _ _ => by kernel_rfl
theorem ent101 : ae Tryz.prog 101 := fun _ _ => by kernel_rfl
theorem ent171 : ae Tryz.prog 171 := fun _ _ => by kernel_rfl
theorem ent130 : ae Tryz.prog 130 := fun _ _ => by kernel_rfl
theorem ent129 : ae Tryz.prog 129 := fun _ _ => by kernel_rfl
theorem ent172 : ae Tryz.prog 172 := fun _ _ => by kernel_rfl
theorem ent155 : ae Tryz.prog 155 := fun _ _ => by kernel_rfl
theorem ent128 : ae Tryz.prog 128 := fun _ _ => by kernel_rfl
theorem ent173 : ae Tryz.prog 173 := fun _ _ => by kernel_rfl
theorem ent124 : ae Tryz.prog 124 := fun _ _ => by kernel_rfl
theorem ent164 : ae Tryz.prog 164 := fun _ _ => by kernel_rfl
theorem ent139 : ae Tryz.prog 139 := fun _ _ => by kernel_rfl
theorem ent166 : ae Tryz.prog 166 := fun _ _ => by kernel_rfl
theorem ent138 : ae Tryz.prog 138 := fun _ _ => by kernel_rfl
theorem ent142 : ae Tryz.prog 142 := fun _ _ => by kernel_rfl
theorem ent136 : ae Tryz.prog 136 := fun _ _ => by kernel_rfl
theorem ent190 : ae Tryz.prog 190 := fun _ _ => by kernel_rfl
theorem ent165 : ae Tryz.prog 165 := fun _ _ => by kernel_rfl
theorem ent140 : ae Tryz.prog 140 := fun _ _ => by kernel_rfl
theorem ent69 : ae Tryz.prog 69 := fun _ _ => by kernel_rfl
abbrev EV2 (x : W2) : Value := .agg ((fe x.1 ++ fe x.2).map U64).toArray
theorem zv33 (w : World) : (zeroValue 33).run Tryz.prog w = .ok (.agg ((fe 0 ++ fe 0).map U64).toArray) w := by rw [i4]; exact (Tryz.zeroValue33 w).trans (by rfl)
theorem xh : Two Tryz.prog 33 ⟨ "C0", 27, 0, false, "", "", 0⟩ ⟨ "C1", 27, 6, false, "", "", 48⟩ 6 6 (fe 0) (fe 0) := ⟨Tryz.underlying33, rfl, rfl, Tryz.sizeOf27, Tryz.sizeOf27, zv33, aY 0, aY 0⟩
theorem zv42 (w : World) : (zeroValue 42).run Tryz.prog w = .ok (.agg ((fe 0 ++ fe 0).map U64).toArray) w := by rw [i4]; exact (Tryz.zeroValue42 w).trans (by rfl)
theorem AX : Two Tryz.prog 42 ⟨ "A", 40, 0, false, "", "", 0⟩ ⟨ "B", 40, 6, false, "", "", 48⟩ 6 6 (fe 0) (fe 0) := ⟨Tryz.underlying42, rfl, rfl, Tryz.sizeOf40, Tryz.sizeOf40, zv42, aY 0, aY 0⟩
theorem e2 {a b c d : Zp} (h1 : a = c) (h2 : b = d) : Ending.returned (.agg ((fe a ++ fe b).map U64).toArray) = .returned (.agg ((fe c ++ fe d).map U64).toArray) := by rw [h1, h2]
theorem rb {a b : Bool} (h : a = b) : Ending.returned (.bool a) = .returned (.bool b) := by rw [h]
def q3 : Sh (Zp × Zp × Zp) := q1.two (q1.two q1 1) 1
theorem pE {f : FuncId} {fn : Func} {c : Code} (T : Tb Tryz.prog Gt) (hf : Tryz.prog.funcs[f]? = some fn) (a : List S0) (v : S1) (vc : S1 × CB) (p : Pa) (h : xF T fn c a p = some vc) (hc : Ok vc.2) (e : vc.1 = v) (hb : fn.body = some c := by rfl) (hn : Nat.ble a.length fn.ntmps = true := by rfl) : Pure Tryz.prog Gt f (a.map (dn rid)) (dn1 rid v) := by rw [← e]; exact CK (v := vc.1) (cs := vc.2) T a9 gtS hf hb h hc hn rid
theorem el2 {a b c d : Zp} (h1 : a = c) (h2 : b = d) : (Sum.inl (Sum.inl [a, b]) : S1) = .inl (.inl [c, d]) := by rw [h1, h2]
theorem eb {a b : Bool} (h : a = b) : (Sum.inl (.inr (.inl a)) : S1) = .inl (.inr (.inl b)) := by rw [h]
theorem cd {f : Nat} {g : Zp → Zp → Zp} (en : ae Tryz.prog f) (h : ∀ a b, Pure Tryz.prog Gt f [EV a, EV b] (EV (g a b))) : Snd Tryz.prog Gt f (c2 q1.ag q1.ag q1.rd g) := dv q1.ag q1.ag q1.rd en h
def TO1 : Tb Tryz.prog Gt := TB.add (cd (g := fun x y => x * y) ent63 gL)
theorem my {f : Nat} {g : BitVec 64 → Zp} (en : ae Tryz.prog f) (h : ∀ a, Pure Tryz.prog Gt f [U64 a] (EV (g a))) : Snd Tryz.prog Gt f (c1 agU q1.rd g) := dB agU q1.rd en h
def TO2 : Tb Tryz.prog Gt := TO1.add (my (g := fun n => zp n.toNat) ent104 pC)
theorem kM {f : Nat} {g : Zp → Zp → Bool} (en : ae Tryz.prog f) (h : ∀ a b, Pure Tryz.prog Gt f [EV a, EV b] (.bool (g a b))) : Snd Tryz.prog Gt f (c2 q1.ag q1.ag rdB g) := dv q1.ag q1.ag rdB en h
def TO3 : Tb Tryz.prog Gt := TO2.add (kM (g := fun x y => decide (x = y)) ent188 pL)
theorem mp {f : Nat} {g : Zp → Bool} (en : ae Tryz.prog f) (h : ∀ a, Pure Tryz.prog Gt f [EV a] (.bool (g a))) : Snd Tryz.prog Gt f (c1 q1.ag rdB g) := dB q1.ag rdB en h
def TO4 : Tb Tryz.prog Gt := TO3.add (mp (g := fun x => decide (x = 0)) ent88 nz)
def TO5 : Tb Tryz.prog Gt := TO4.add (cd (g := fun x y => x + y) ent64 tG)
def TO6 : Tb Tryz.prog Gt := TO5.add (cd (g := fun x y => x - y) ent87 iW)
theorem dM {f : Nat} {g : Zp → Zp} (en : ae Tryz.prog f) (h : ∀ a, Pure Tryz.prog Gt f [EV a] (EV (g a))) : Snd Tryz.prog Gt f (c1 q1.ag q1.rd g) := dB q1.ag q1.rd en h
def TO7 : Tb Tryz.prog Gt := TO6.add (dM (g := fun x => -x) ent100 mC)
def TO8 : Tb Tryz.prog Gt := TO7.add (dM (g := fun x => x * x) ent86 iK)
theorem le {f : Nat} {g : Zp} (en : ae Tryz.prog f) (h : Pure Tryz.prog Gt f [U64 1#64] (EV g)) : Snd Tryz.prog Gt f (c1 (agL 1) q1.rd (fun _ => g)) := dB (agL 1) q1.rd en (fun _ => h)
def TO9 : Tb Tryz.prog Gt := TO8.add (le (g := 1) ent104 mz)
def TO10 : Tb Tryz.prog Gt := TO9.add (dM (g := fun x => x ^ (PP - 2)) ent123 ug)
def TO11 : Tb Tryz.prog Gt := TO10.add (cd (g := fun x y => x * y) ent179 GG)
def TO12 : Tb Tryz.prog Gt := TO11.add (cd (g := fun x y => x + y) ent182 Hc)
def TO13 : Tb Tryz.prog Gt := TO12.add (cd (g := fun x y => x - y) ent181 IJ)
def TO14 : Tb Tryz.prog Gt := TO13.add (dM (g := fun x => -x) ent183 IE)
def TO15 : Tb Tryz.prog Gt := TO14.add (dM (g := fun x => x ^ (PP - 2)) ent191 Ga)
def TO16 : Tb Tryz.prog Gt := TO15.add (mp (g := fun x => decide (x = 0)) ent180 vD)
def TO17 : Tb Tryz.prog Gt := TO16.add (my (g := fun n => zp n.toNat) ent135 jZ)
theorem w4  : Pure Tryz.prog Gt 107 [] (EV2 on2) := pE TO17 Tryz.func107 [] (.inl (.inl [on2.1, on2.2])) (.inl (.inl [1, 0]), []) [] (by kernel_rfl) aG rfl
theorem A6 {f : Nat} {g : W2} (en : ae Tryz.prog f) (h : Pure Tryz.prog Gt f [] (EV2 g)) : Snd Tryz.prog Gt f (c0 q2.rd g) := mm q2.rd en h
def TO18 : Tb Tryz.prog Gt := TO17.add (A6 (g := on2) ent107 w4)
theorem sV (x y : W2) : Pure Tryz.prog Gt 152 [EV2 x, EV2 y] (.bool (decide (x = y))) := by
 by_cases h : x.1 = y.1
 ·exact pE TO18 Tryz.func152 [.inl [x.1, x.2], .inl [y.1, y.2]] (.inl (.inr (.inl (decide (x = y))))) (.inl (.inr (.inl (decide (x.2 = y.2)))), [(decide (x.1 = y.1), true)]) [some true] (by kernel_rfl) (az (decide_eq_true h) aG) (eb (p5 h))
 ·exact pE TO18 Tryz.func152 [.inl [x.1, x.2], .inl [y.1, y.2]] (.inl (.inr (.inl (decide (x = y))))) (.inl (.inr (.inl false)), [(decide (x.1 = y.1), false)]) [some false] (by kernel_rfl) (az (decide_eq_false h) aG) (eb (qf h))
theorem kW {f : Nat} {g : W2 → W2 → Bool} (en : ae Tryz.prog f) (h : ∀ a b, Pure Tryz.prog Gt f [EV2 a, EV2 b] (.bool (g a b))) : Snd Tryz.prog Gt f (c2 q2.ag q2.ag rdB g) := dv q2.ag q2.ag rdB en h
def TO19 : Tb Tryz.prog Gt := TO18.add (kW (g := fun x y => decide (x = y)) ent152 sV)
theorem pH (x : W2) : Pure Tryz.prog Gt 102 [EV2 x] (.bool (decide (x = ze2))) := by
 by_cases h : x.1 = 0
 ·exact pE TO19 Tryz.func102 [.inl [x.1, x.2]] (.inl (.inr (.inl (decide (x = ze2))))) (.inl (.inr (.inl (decide (x.2 = 0)))), [(decide (x.1 = 0), true)]) [some true] (by kernel_rfl) (az (decide_eq_true h) aG) (eb (p5 (y := ze2) h))
 ·exact pE TO19 Tryz.func102 [.inl [x.1, x.2]] (.inl (.inr (.inl (decide (x = ze2))))) (.inl (.inr (.inl false)), [(decide (x.1 = 0), false)]) [some false] (by kernel_rfl) (az (decide_eq_false h) aG) (eb (qf (y := ze2) h))
theorem mh {f : Nat} {g : W2 → Bool} (en : ae Tryz.prog f) (h : ∀ a, Pure Tryz.prog Gt f [EV2 a] (.bool (g a))) : Snd Tryz.prog Gt f (c1 q2.ag rdB g) := dB q2.ag rdB en h
def TO20 : Tb Tryz.prog Gt := TO19.add (mh (g := fun x => decide (x = ze2)) ent102 pH)
theorem Bp (x y : W2) : Pure Tryz.prog Gt 153 [EV2 x, EV2 y] (EV2 (ad2 x y)) := pE TO20 Tryz.func153 [.inl [x.1, x.2], .inl [y.1, y.2]] (.inl (.inl [(ad2 x y).1, (ad2 x y).2])) (.inl (.inl [x.1 + y.1, x.2 + y.2]), []) [] (by kernel_rfl) aG rfl
theorem bP {f : Nat} {g : W2 → W2 → W2} (en : ae Tryz.prog f) (h : ∀ a b, Pure Tryz.prog Gt f [EV2 a, EV2 b] (EV2 (g a b))) : Snd Tryz.prog Gt f (c2 q2.ag q2.ag q2.rd g) := dv q2.ag q2.ag q2.rd en h
def TO21 : Tb Tryz.prog Gt := TO20.add (bP (g := ad2) ent153 Bp)
theorem yi (x y : W2) : Pure Tryz.prog Gt 154 [EV2 x, EV2 y] (EV2 (sb2 x y)) := pE TO21 Tryz.func154 [.inl [x.1, x.2], .inl [y.1, y.2]] (.inl (.inl [(sb2 x y).1, (sb2 x y).2])) (.inl (.inl [x.1 - y.1, x.2 - y.2]), []) [] (by kernel_rfl) aG rfl
def TO22 : Tb Tryz.prog Gt := TO21.add (bP (g := sb2) ent154 yi)
theorem GO (x : W2) : Pure Tryz.prog Gt 101 [EV2 x] (EV2 (ng2 x)) := pE TO22 Tryz.func101 [.inl [x.1, x.2]] (.inl (.inl [(ng2 x).1, (ng2 x).2])) (.inl (.inl [-x.1, -x.2]), []) [] (by kernel_rfl) aG rfl
theorem cE {f : Nat} {g : W2 → W2} (en : ae Tryz.prog f) (h : ∀ a, Pure Tryz.prog Gt f [EV2 a] (EV2 (g a))) : Snd Tryz.prog Gt f (c1 q2.ag q2.rd g) := dB q2.ag q2.rd en h
def TO23 : Tb Tryz.prog Gt := TO22.add (cE (g := ng2) ent101 GO)
theorem xI (x : W2) : Pure Tryz.prog Gt 171 [EV2 x] (EV2 (cj2 x)) := pE TO23 Tryz.func171 [.inl [x.1, x.2]] (.inl (.inl [(cj2 x).1, (cj2 x).2])) (.inl (.inl [x.1, -x.2]), []) [] (by kernel_rfl) aG rfl
def TO24 : Tb Tryz.prog Gt := TO23.add (cE (g := cj2) ent171 xI)
theorem lq (x y : W2) : Pure Tryz.prog Gt 130 [EV2 x, EV2 y] (EV2 (ml2 x y)) := pE TO24 Tryz.func130 [.inl [x.1, x.2], .inl [y.1, y.2]] (.inl (.inl [(ml2 x y).1, (ml2 x y).2])) (let t0 := (x.1 + x.2) * (y.1 + y.2); let t1 := (x.1 * y.1) - (x.2 * y.2); let t2 := t0 - (x.1 * y.1); let t3 := t2 - (x.2 * y.2); (.inl (.inl [t1, t3]), [])) [] (by kernel_rfl) aG (el2 (by first | (simp only [ml2]; done) | (simp only [ml2]; grind)) (by first | (simp only [ml2]; done) | (simp only [ml2]; grind)))
def TO25 : Tb Tryz.prog Gt := TO24.add (bP (g := ml2) ent130 lq)
theorem o5 (x : W2) : Pure Tryz.prog Gt 129 [EV2 x] (EV2 (ml2 x x)) := pE TO25 Tryz.func129 [.inl [x.1, x.2]] (.inl (.inl [(ml2 x x).1, (ml2 x x).2])) (let t0 := (x.1 + x.2) * (x.1 - x.2); let t1 := (x.1 * x.2) + (x.1 * x.2); (.inl (.inl [t0, t1]), [])) [] (by kernel_rfl) aG (el2 (by first | (simp only [ml2]; done) | (simp only [ml2]; grind)) (by first | (simp only [ml2]; done) | (simp only [ml2]; grind)))
def TO26 : Tb Tryz.prog Gt := TO25.add (cE (g := fun x => ml2 x x) ent129 o5)
theorem y4 (x : W2) (c : Zp) : Pure Tryz.prog Gt 172 [EV2 x, EV c] (EV2 (sc2 x c)) := pE TO26 Tryz.func172 [.inl [x.1, x.2], .inl [c]] (.inl (.inl [(sc2 x c).1, (sc2 x c).2])) (.inl (.inl [x.1 * c, x.2 * c]), []) [] (by kernel_rfl) aG rfl
theorem jI {f : Nat} {g : W2 → Zp → W2} (en : ae Tryz.prog f) (h : ∀ a b, Pure Tryz.prog Gt f [EV2 a, EV b] (EV2 (g a b))) : Snd Tryz.prog Gt f (c2 q2.ag q1.ag q2.rd g) := dv q2.ag q1.ag q2.rd en h
def TO27 : Tb Tryz.prog Gt := TO26.add (jI (g := sc2) ent172 y4)
theorem IO (x : W2) : Pure Tryz.prog Gt 155 [EV2 x] (EV2 (xi2 x)) := pE TO27 Tryz.func155 [.inl [x.1, x.2]] (.inl (.inl [(xi2 x).1, (xi2 x).2])) (.inl (.inl [x.1 - x.2, x.1 + x.2]), []) [] (by kernel_rfl) aG rfl
def TO28 : Tb Tryz.prog Gt := TO27.add (cE (g := xi2) ent155 IO)
theorem EF (x : W2) : Pure Tryz.prog Gt 173 [EV2 x] (EV (nm2 x)) := pE TO28 Tryz.func173 [.inl [x.1, x.2]] (.inl (.inl [nm2 x])) (let t0 := (x.1 * x.1) + (x.2 * x.2); (.inl (.inl [t0]), [])) [] (by kernel_rfl) aG rfl
theorem lC {f : Nat} {g : W2 → Zp} (en : ae Tryz.prog f) (h : ∀ a, Pure Tryz.prog Gt f [EV2 a] (EV (g a))) : Snd Tryz.prog Gt f (c1 q2.ag q1.rd g) := dB q2.ag q1.rd en h
def TO29 : Tb Tryz.prog Gt := TO28.add (lC (g := nm2) ent173 EF)
theorem BZ (x : W2) : Pure Tryz.prog Gt 128 [EV2 x] (EV2 (iv2 x)) := pE TO29 Tryz.func128 [.inl [x.1, x.2]] (.inl (.inl [(iv2 x).1, (iv2 x).2])) (let t0 := cj2 x; let t1 := (nm2 x) ^ (PP - 2); let t2 := sc2 (t0.1, t0.2) t1; (.inl (.inl [t2.1, t2.2]), [])) [] (by kernel_rfl) aG rfl
def TO30 : Tb Tryz.prog Gt := TO29.add (cE (g := iv2) ent128 BZ)
end
section
open Go.RowKit
attribute [local simp] aY bj aF aA aL aW aM aK aO PLl cq cn N1l cm cp ck bd bk aX bg ba
theorem yS : Pure Tryz.prog Gt 135 [U64 1#64] (EV 1) := jZ 1#64
theorem z6 : Pure Tryz.prog Gt 135 [U64 2#64] (EV (zp 2)) := jZ 2#64
def TO31 : Tb Tryz.prog Gt := TO30.add (le (g := 1) ent135 yS)
theorem rm {f : Nat} {g : Zp} (en : ae Tryz.prog f) (h : Pure Tryz.prog Gt f [U64 2#64] (EV g)) : Snd Tryz.prog Gt f (c1 (agL 2) q1.rd (fun _ => g)) := dB (agL 2) q1.rd en (fun _ => h)
def TO32 : Tb Tryz.prog Gt := TO31.add (rm (g := zp 2) ent135 z6)
theorem xD  : Pure Tryz.prog Gt 124 [] (EV2 on2) := pE TO32 Tryz.func124 [] (.inl (.inl [on2.1, on2.2])) (.inl (.inl [1, 0]), []) [] (by kernel_rfl) aG rfl
def TO33 : Tb Tryz.prog Gt := TO32.add (A6 (g := on2) ent124 xD)
theorem xg (x : W2) : Pure Tryz.prog Gt 164 [EV2 x] (.bool (decide (x = ze2))) := by
 by_cases h : x.1 = 0
 ·exact pE TO33 Tryz.func164 [.inl [x.1, x.2]] (.inl (.inr (.inl (decide (x = ze2))))) (.inl (.inr (.inl (decide (x.2 = 0)))), [(decide (x.1 = 0), true)]) [some true] (by kernel_rfl) (az (decide_eq_true h) aG) (eb (p5 (y := ze2) h))
 ·exact pE TO33 Tryz.func164 [.inl [x.1, x.2]] (.inl (.inr (.inl (decide (x = ze2))))) (.inl (.inr (.inl false)), [(decide (x.1 = 0), false)]) [some false] (by kernel_rfl) (az (decide_eq_false h) aG) (eb (qf (y := ze2) h))
def TO34 : Tb Tryz.prog Gt := TO33.add (mh (g := fun x => decide (x = ze2)) ent164 xg)
theorem xN (x y : W2) : Pure Tryz.prog Gt 139 [EV2 x, EV2 y] (EV2 (ad2 x y)) := pE TO34 Tryz.func139 [.inl [x.1, x.2], .inl [y.1, y.2]] (.inl (.inl [(ad2 x y).1, (ad2 x y).2])) (.inl (.inl [x.1 + y.1, x.2 + y.2]), []) [] (by kernel_rfl) aG rfl
def TO35 : Tb Tryz.prog Gt := TO34.add (bP (g := ad2) ent139 xN)
theorem uu (x y : W2) : Pure Tryz.prog Gt 166 [EV2 x, EV2 y] (EV2 (sb2 x y)) := pE TO35 Tryz.func166 [.inl [x.1, x.2], .inl [y.1, y.2]] (.inl (.inl [(sb2 x y).1, (sb2 x y).2])) (.inl (.inl [x.1 - y.1, x.2 - y.2]), []) [] (by kernel_rfl) aG rfl
def TO36 : Tb Tryz.prog Gt := TO35.add (bP (g := sb2) ent166 uu)
theorem A1 (x : W2) : Pure Tryz.prog Gt 138 [EV2 x] (EV2 (ng2 x)) := pE TO36 Tryz.func138 [.inl [x.1, x.2]] (.inl (.inl [(ng2 x).1, (ng2 x).2])) (.inl (.inl [-x.1, -x.2]), []) [] (by kernel_rfl) aG rfl
def TO37 : Tb Tryz.prog Gt := TO36.add (cE (g := ng2) ent138 A1)
theorem vP (x : W2) : Pure Tryz.prog Gt 142 [EV2 x] (EV2 (cj2 x)) := pE TO37 Tryz.func142 [.inl [x.1, x.2]] (.inl (.inl [(cj2 x).1, (cj2 x).2])) (.inl (.inl [x.1, -x.2]), []) [] (by kernel_rfl) aG rfl
def TO38 : Tb Tryz.prog Gt := TO37.add (cE (g := cj2) ent142 vP)
theorem E7 (x : W2) : Pure Tryz.prog Gt 140 [EV2 x] (EV2 (xi2 x)) := pE TO38 Tryz.func140 [.inl [x.1, x.2]] (.inl (.inl [(xi2 x).1, (xi2 x).2])) (.inl (.inl [x.1 - x.2, x.1 + x.2]), []) [] (by kernel_rfl) aG rfl
def TO39 : Tb Tryz.prog Gt := TO38.add (cE (g := xi2) ent140 E7)
theorem mo (x y : W2) : Pure Tryz.prog Gt 136 [EV2 x, EV2 y] (EV2 (ml2 x y)) := by
 by_cases h : x.2 = 0
 ·by_cases h2 : y.2 = 0
  ·exact pE TO39 Tryz.func136 [.inl [x.1, x.2], .inl [y.1, y.2]] (.inl (.inl [(ml2 x y).1, (ml2 x y).2])) (.inl (.inl [x.1 * y.1, 0]), [(decide (x.2 = 0), true), (decide (y.2 = 0), true)]) [some true, some true] (by kernel_rfl) (az (decide_eq_true h) (az (decide_eq_true h2) aG)) (el2 (by simp only [ml2]; rw [h]; grind) (by simp only [ml2]; rw [h, h2, gh, qv, yJ]))
  ·exact pE TO39 Tryz.func136 [.inl [x.1, x.2], .inl [y.1, y.2]] (.inl (.inl [(ml2 x y).1, (ml2 x y).2])) (let t0 := (x.1 * y.1) - (x.2 * y.2); let t1 := (x.1 + x.2) * (y.1 + y.2); let t2 := t1 - (x.1 * y.1); let t3 := t2 - (x.2 * y.2); (.inl (.inl [t0, t3]), [(decide (x.2 = 0), true), (decide (y.2 = 0), false)])) [some true, some false] (by kernel_rfl) (az (decide_eq_true h) (az (decide_eq_false h2) aG)) (el2 (by first | (simp only [ml2]; done) | (simp only [ml2]; grind)) (by first | (simp only [ml2]; done) | (simp only [ml2]; grind)))
 ·exact pE TO39 Tryz.func136 [.inl [x.1, x.2], .inl [y.1, y.2]] (.inl (.inl [(ml2 x y).1, (ml2 x y).2])) (let t0 := (x.1 * y.1) - (x.2 * y.2); let t1 := (x.1 + x.2) * (y.1 + y.2); let t2 := t1 - (x.1 * y.1); let t3 := t2 - (x.2 * y.2); (.inl (.inl [t0, t3]), [(decide (x.2 = 0), false)])) [some false] (by kernel_rfl) (az (decide_eq_false h) aG) (el2 (by first | (simp only [ml2]; done) | (simp only [ml2]; grind)) (by first | (simp only [ml2]; done) | (simp only [ml2]; grind)))
def TO40 : Tb Tryz.prog Gt := TO39.add (bP (g := ml2) ent136 mo)
theorem Dn (x : W2) : Pure Tryz.prog Gt 190 [EV2 x] (EV (nm2 x)) := pE TO40 Tryz.func190 [.inl [x.1, x.2]] (.inl (.inl [nm2 x])) (let t0 := (x.1 * x.1) + (x.2 * x.2); (.inl (.inl [t0]), [])) [] (by kernel_rfl) aG rfl
def TO41 : Tb Tryz.prog Gt := TO40.add (lC (g := nm2) ent190 Dn)
theorem BU (x : W2) : Pure Tryz.prog Gt 165 [EV2 x] (EV2 (iv2 x)) := pE TO41 Tryz.func165 [.inl [x.1, x.2]] (.inl (.inl [(iv2 x).1, (iv2 x).2])) (let t0 := (nm2 x) ^ (PP - 2); (.inl (.inl [x.1 * t0, (-x.2) * t0]), [])) [] (by kernel_rfl) aG rfl
def TO42 : Tb Tryz.prog Gt := TO41.add (cE (g := iv2) ent165 BU)
end
section
open Go.RowKit
attribute [local simp] aY bj aF aA aL aW aM aK aO PLl cq cn N1l cm cp ck bd bk aX bg ba
theorem rU3 {Q P : Prop} (k : Q) (h : Q → P := by intro k; (refine LY.run ?_); (repeat (first | refine bC rfl rfl rfl ?_ | refine a7 rfl rfl rfl ?_ | ((refine CL rfl rfl ?_ rfl rfl ?_); (· simp)) | ((refine vu hGF rfl rfl rfl ?_ ?_ (ak _) rfl ?_); (· simp); (· simp)) | refine bz (f := 136) rfl rfl ent136 (mo _ _) rfl rfl ?_)); (first | refine bO ?_ | refine LY.mk ?_); exact k) : P := h k
theorem pU3 {Q P : Prop} (k : Q) (h : Q → P := by intro k; (refine xp ?_); (refine rU3 ?_); exact k) : P := h k
theorem bt_y (x : W2) (bs : List (BitVec 8)) (i : Nat) (h : dj bs i = 1#8) : ml2 (ml2 (pw2 x (BTn bs i)) (pw2 x (BTn bs i))) x = pw2 x (BTn bs (i + 1)) := by
 rcases ig bs i with ⟨_, e⟩ | ⟨h', _⟩
 ·rw [← iN, ← ii, BTn, e, Nat.two_mul]
 ·exact absurd h h'
theorem bt_n (x : W2) (bs : List (BitVec 8)) (i : Nat) (h : ¬ dj bs i = 1#8) : ml2 (pw2 x (BTn bs i)) (pw2 x (BTn bs i)) = pw2 x (BTn bs (i + 1)) := by
 rcases ig bs i with ⟨h', _⟩ | ⟨_, e⟩
 ·exact absurd h' h
 ·rw [← iN, BTn, e, Nat.two_mul, Nat.add_zero]
theorem n4 (x : W2) (e : Option Addr) (cap : Nat) (bs : List (BitVec 8)) (hlen : bs.length ≤ 4096) (w : World) (hw : Gt w) (hby : BytesAt w e bs) :
  Calls Tryz.prog 69 [EV2 x, .slice e bs.length cap].toArray w (fun r w' => r = .returned (EV2 (pw2 x (BN bs bs.length))) ∧ Grow w w') := by
 have hGF : BOk Gt (pl w) := gt_low.plain hw
 refine aN (G := Gt) Tryz.func69 rfl rfl (Hp (pl w) []) (a5 (pl w) trivial aq) (ay hGF) ?_
 refine xp ?_
 refine lb fun b2 => ?_
 refine la zv42 fun b4 => ?_
 refine aa ?_
 refine xp ?_
 refine lc ent124 (xD) ?_
 refine la zv42 fun b5 => ?_
 refine rU3 ?_
 refine ao ?_
 refine pU3 ?_
 refine ap ?_
 refine bL (ι := { i : Nat // i ≤ 8 * bs.length }) (fun y => [(1, .slice e bs.length cap), (2, .pointer (some ⟨b2, 0, none⟩)), (4, .pointer (some ⟨b4, 0, none⟩)), (5, .pointer (some ⟨b5, 0, none⟩)), (6, I (y.1 : Int))]) (fun y => [(2, b2, (fe (x).1 ++ fe (x).2).map U64, 42), (4, b4, (fe 0 ++ fe 0).map U64, 42), (5, b5, (fe (pw2 x (BTn bs y.1)).1 ++ fe (pw2 x (BTn bs y.1)).2).map U64, 42)]) (fun y => 8 * bs.length - y.1) ⟨0, Nat.zero_le _⟩ hGF ⟨rfl, rfl, rfl, rfl, rfl, trivial⟩ ⟨rfl, rfl, by rw [BTn, Ir]; rfl, trivial⟩ ?_
 rintro ⟨i, hi⟩
 dsimp only
 refine ao ?_
 refine pU3 ?_
 refine bV rfl (fun _ => bi Tryz.underlying22 _ _ _ _) rfl rfl ?_
 refine ab (v := I ((8 * bs.length : Nat) : Int)) rfl rfl (fun _ => rfl) (fun _ => (dK _ _ _ (by unfold inI; omega)).trans (by rw [show (8 : Int) * (bs.length : Int) = ((8 * bs.length : Nat) : Int) by omega])) rfl rfl ?_
 refine ab rfl rfl (fun _ => rfl) (fun _ => aH _ _ _) rfl rfl ?_
 refine aa ?_
 refine bE rfl (fun hc => ?_) (fun hc => ?_)
 ·simp only [decide_eq_true_eq] at hc
  refine aD ?_
  refine ao ?_
  refine ap ?_
  refine pU3 ?_
  refine pU3 ?_
  refine ab (v := I ((i / 8 : Nat) : Int)) rfl rfl (fun _ => rfl) (fun _ => ew _ _ _ (by decide) (show inI ((i / 8 : Nat) : Int) by unfold inI; omega)) rfl rfl ?_
  obtain ⟨ad, rfl, _⟩ := hby (i / 8) _ (gm U8 bs 0 (i / 8) (by omega))
  refine jf (i / 8) rfl rfl Tryz.underlying22 Tryz.sizeOf5 rfl (by omega) rfl rfl ?_
  refine cP rfl Tryz.isAgg5 (fun w' h => by obtain ⟨ad', e, hc⟩ := (hby.grow (ah h)) (i / 8) _ (gm U8 bs 0 (i / 8) (by omega)); cases e; exact hc) rfl rfl ?_
  refine rU3 ?_
  refine ab (v := I ((i % 8 : Nat) : Int)) rfl rfl (fun _ => rfl) (fun _ => cN _ _ _ (by decide)) rfl rfl ?_
  refine ab (v := I ((7 - i % 8 : Nat) : Int)) rfl rfl (fun _ => rfl) (fun _ => (bF _ _ _ (by unfold inI; omega)).trans (by rw [show ((7 : Int) - ((i % 8 : Nat) : Int)) = ((7 - i % 8 : Nat) : Int) by omega])) rfl rfl ?_
  refine ab (v := U8 (bs.getD (i / 8) 0 >>> (7 - i % 8))) rfl rfl (fun _ => rfl) (fun _ => iJ _ _ _ (by omega)) rfl rfl ?_
  refine ab (v := U8 (dj bs i)) rfl rfl (fun _ => rfl) (fun _ => ia _ _ 1#8) rfl rfl ?_
  refine ab (v := .bool (decide (dj bs i = 1#8))) rfl rfl (fun _ => rfl) (fun _ => (kI _ _ 1#8).trans rfl) rfl rfl ?_
  refine aa ?_
  refine bE rfl (fun hc => ?_) (fun hc => ?_)
  ·simp only [decide_eq_true_eq] at hc
   have hq := hc
   refine aw (E := EE []) ?_
   refine rU3 ?_
   refine aw (E := EE []) ?_
   refine rU3 ?_
   refine ab rfl rfl (fun _ => rfl) (fun _ => aC _ _ _ (by unfold inI; omega)) rfl rfl ?_
   refine rU3 ?_
   repeat (refine aR ?_)
   refine bc ?_
   exact ⟨rfl, ⟨i + 1, by omega⟩, _, by show 8 * bs.length - (i + 1) < 8 * bs.length - i; omega, rfl, ⟨rfl, rfl, rfl, rfl, rfl, trivial⟩, ⟨rfl, rfl, by first | (rw [← bt_y x bs i hq]; rfl) | (rw [← bt_n x bs i hq]; rfl), trivial⟩⟩
  ·simp only [decide_eq_false_iff_not] at hc
   have hq := hc
   refine aD ?_
   refine aw (E := EE []) ?_
   refine rU3 ?_
   refine ab rfl rfl (fun _ => rfl) (fun _ => aC _ _ _ (by unfold inI; omega)) rfl rfl ?_
   refine rU3 ?_
   repeat (refine aR ?_)
   refine bc ?_
   exact ⟨rfl, ⟨i + 1, by omega⟩, _, by show 8 * bs.length - (i + 1) < 8 * bs.length - i; omega, rfl, ⟨rfl, rfl, rfl, rfl, rfl, trivial⟩, ⟨rfl, rfl, by first | (rw [← bt_y x bs i hq]; rfl) | (rw [← bt_n x bs i hq]; rfl), trivial⟩⟩
 ·obtain rfl : i = 8 * bs.length := by simp at hc; omega
  refine aZ ?_
  refine pU3 ?_
  refine rt ?_
  exact av 4 rfl rfl rfl Tryz.isAgg42 Tryz.sizeOf42 (by simp) (fun w hw => ⟨by rw [← gI], ah hw⟩)
end
end Go.Proofs.YtpnpiblphnpfiaaGreatDoor
