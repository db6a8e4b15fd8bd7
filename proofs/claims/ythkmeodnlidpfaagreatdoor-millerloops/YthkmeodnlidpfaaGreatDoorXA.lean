/-
 The walks of package fp2: sums and products.
 The walks of package fp2: signs and roots; the reference's elements.
 The walks of package fp2: powers; the reference's powers.
-/
import Derived.Test.YthkmeodnlidpfaaGreatDoorX9
import Derived.Test.YthkmeodnlidpfaaGreatDoorX5
import Derived.Test.YthkmeodnlidpfaaGreatDoorX3
import Derived.Test.YthkmeodnlidpfaaGreatDoorXO
set_option maxRecDepth 100000
set_option maxHeartbeats 1000000
namespace Go.Proofs.YthkmeodnlidpfaaGreatDoor
section
open Go.RowKit
attribute [local simp] fe_len nm_len AS_len SS_len MONT_len RM_len FRs_len BYs_len by48_len PLl TWOl ONEl N1l IVPl HFPl RTPl FL_len SP_len fe2_len SP2_len FM_len
theorem ent45 : Enters Tryz.prog 45 := fun _ _ => by kernel_rfl
theorem ent26 : Enters Tryz.prog 26 := fun _ _ => by kernel_rfl
theorem ent40 : Enters Tryz.prog 40 := fun _ _ => by kernel_rfl
theorem ent95 : Enters Tryz.prog 95 := fun _ _ => by kernel_rfl
theorem ent39 : Enters Tryz.prog 39 := fun _ _ => by kernel_rfl
theorem ent33 : Enters Tryz.prog 33 := fun _ _ => by kernel_rfl
theorem ent96 : Enters Tryz.prog 96 := fun _ _ => by kernel_rfl
theorem ent42 : Enters Tryz.prog 42 := fun _ _ => by kernel_rfl
theorem ent92 : Enters Tryz.prog 92 := fun _ _ => by kernel_rfl
theorem ent97 : Enters Tryz.prog 97 := fun _ _ => by kernel_rfl
theorem ent150 : Enters Tryz.prog 150 := fun _ _ => by kernel_rfl
theorem ent43 : Enters Tryz.prog 43 := fun _ _ => by kernel_rfl
theorem ent98 : Enters Tryz.prog 98 := fun _ _ => by kernel_rfl
theorem ent100 : Enters Tryz.prog 100 := fun _ _ => by kernel_rfl
theorem ent53 : Enters Tryz.prog 53 := fun _ _ => by kernel_rfl
theorem ent54 : Enters Tryz.prog 54 := fun _ _ => by kernel_rfl
theorem ent50 : Enters Tryz.prog 50 := fun _ _ => by kernel_rfl
theorem ent55 : Enters Tryz.prog 55 := fun _ _ => by kernel_rfl
theorem ent153 : Enters Tryz.prog 153 := fun _ _ => by kernel_rfl
theorem ent51 : Enters Tryz.prog 51 := fun _ _ => by kernel_rfl
theorem ent105 : Enters Tryz.prog 105 := fun _ _ => by kernel_rfl
theorem ent52 : Enters Tryz.prog 52 := fun _ _ => by kernel_rfl
theorem ent123 : Enters Tryz.prog 123 := fun _ _ => by kernel_rfl
theorem ent127 : Enters Tryz.prog 127 := fun _ _ => by kernel_rfl
abbrev EV2 (x : W2) : Value := .agg ((fe x.1 ++ fe x.2).map U64).toArray
theorem zv29 (w : World) : (zeroValue 29).run Tryz.prog w = .ok (.agg ((fe 0 ++ fe 0).map U64).toArray) w := by rw [fe_0]; exact (Tryz.zeroValue29 w).trans (by rfl)
theorem two29 : Two Tryz.prog 29 ⟨ "C0", 27, 0, false, "", "", 0⟩ ⟨ "C1", 27, 6, false, "", "", 48⟩ 6 6 (fe 0) (fe 0) := ⟨Tryz.underlying29, rfl, rfl, Tryz.sizeOf27, Tryz.sizeOf27, zv29, fe_len 0, fe_len 0⟩
theorem zv46 (w : World) : (zeroValue 46).run Tryz.prog w = .ok (.agg ((fe 0 ++ fe 0).map U64).toArray) w := by rw [fe_0]; exact (Tryz.zeroValue46 w).trans (by rfl)
theorem two46 : Two Tryz.prog 46 ⟨ "A", 44, 0, false, "", "", 0⟩ ⟨ "B", 44, 6, false, "", "", 48⟩ 6 6 (fe 0) (fe 0) := ⟨Tryz.underlying46, rfl, rfl, Tryz.sizeOf44, Tryz.sizeOf44, zv46, fe_len 0, fe_len 0⟩
theorem e2 {a b c d : Zp} (h1 : a = c) (h2 : b = d) : Ending.returned (.agg ((fe a ++ fe b).map U64).toArray) = .returned (.agg ((fe c ++ fe d).map U64).toArray) := by rw [h1, h2]
theorem rb {a b : Bool} (h : a = b) : Ending.returned (.bool a) = .returned (.bool b) := by rw [h]
def q3 : Sh (Zp × Zp × Zp) := q1.two (q1.two q1 1) 1
theorem pE {f : FuncId} {fn : Func} {c : Code} (T : Tb Tryz.prog Gt) (hf : Tryz.prog.funcs[f]? = some fn) (a : List S0) (v : S1) (vc : S1 × CB) (p : Pa) (h : xF T fn c a p = some vc) (hc : Ok vc.2) (e : vc.1 = v) (hb : fn.body = some c := by rfl) (hn : Nat.ble a.length fn.ntmps = true := by rfl) : Pure Tryz.prog Gt f (a.map (dn rid)) (dn1 rid v) := by rw [← e]; exact pure_S (v := vc.1) (cs := vc.2) T mixed gtS hf hb h hc hn rid
theorem el2 {a b c d : Zp} (h1 : a = c) (h2 : b = d) : (Sum.inl (Sum.inl [a, b]) : S1) = .inl (.inl [c, d]) := by rw [h1, h2]
theorem eb {a b : Bool} (h : a = b) : (Sum.inl (.inr (.inl a)) : S1) = .inl (.inr (.inl b)) := by rw [h]
theorem wq1ag_q1ag_q1rd {f : Nat} {g : Zp → Zp → Zp} (en : Enters Tryz.prog f) (h : ∀ a b, Pure Tryz.prog Gt f [EV a, EV b] (EV (g a b))) : Snd Tryz.prog Gt f (c2 q1.ag q1.ag q1.rd g) := c2_ok q1.ag q1.ag q1.rd en h
def TO1 : Tb Tryz.prog Gt := TB.add (wq1ag_q1ag_q1rd (g := fun x y => x * y) ent35 fmul_pure)
theorem wagU_q1rd {f : Nat} {g : BitVec 64 → Zp} (en : Enters Tryz.prog f) (h : ∀ a, Pure Tryz.prog Gt f [U64 a] (EV (g a))) : Snd Tryz.prog Gt f (c1 agU q1.rd g) := c1_ok agU q1.rd en h
def TO2 : Tb Tryz.prog Gt := TO1.add (wagU_q1rd (g := fun n => zp n.toNat) ent25 fof_pure)
theorem wq1ag_q1ag_rdB {f : Nat} {g : Zp → Zp → Bool} (en : Enters Tryz.prog f) (h : ∀ a b, Pure Tryz.prog Gt f [EV a, EV b] (.bool (g a b))) : Snd Tryz.prog Gt f (c2 q1.ag q1.ag rdB g) := c2_ok q1.ag q1.ag rdB en h
def TO3 : Tb Tryz.prog Gt := TO2.add (wq1ag_q1ag_rdB (g := fun x y => decide (x = y)) ent81 fequal_pure)
theorem wq1ag_rdB {f : Nat} {g : Zp → Bool} (en : Enters Tryz.prog f) (h : ∀ a, Pure Tryz.prog Gt f [EV a] (.bool (g a))) : Snd Tryz.prog Gt f (c1 q1.ag rdB g) := c1_ok q1.ag rdB en h
def TO4 : Tb Tryz.prog Gt := TO3.add (wq1ag_rdB (g := fun x => decide (x = 0)) ent94 fisZero_pure)
def TO5 : Tb Tryz.prog Gt := TO4.add (wq1ag_q1ag_q1rd (g := fun x y => x + y) ent36 fadd_pure)
def TO6 : Tb Tryz.prog Gt := TO5.add (wq1ag_q1ag_q1rd (g := fun x y => x - y) ent93 fsub_pure)
theorem wq1ag_q1rd {f : Nat} {g : Zp → Zp} (en : Enters Tryz.prog f) (h : ∀ a, Pure Tryz.prog Gt f [EV a] (EV (g a))) : Snd Tryz.prog Gt f (c1 q1.ag q1.rd g) := c1_ok q1.ag q1.rd en h
def TO7 : Tb Tryz.prog Gt := TO6.add (wq1ag_q1rd (g := fun x => -x) ent87 fneg_pure)
def TO8 : Tb Tryz.prog Gt := TO7.add (wq1ag_q1rd (g := fun x => x * x) ent125 fsquare_pure)
theorem wagL1_q1rd {f : Nat} {g : Zp} (en : Enters Tryz.prog f) (h : Pure Tryz.prog Gt f [U64 1#64] (EV g)) : Snd Tryz.prog Gt f (c1 (agL 1) q1.rd (fun _ => g)) := c1_ok (agL 1) q1.rd en (fun _ => h)
def TO9 : Tb Tryz.prog Gt := TO8.add (wagL1_q1rd (g := 1) ent25 fof1_pure)
def TO10 : Tb Tryz.prog Gt := TO9.add (wq1ag_q1rd (g := fun x => x ^ (PP - 2)) ent99 finv_pure)
def TO11 : Tb Tryz.prog Gt := TO10.add (wq1ag_q1ag_q1rd (g := fun x y => x * y) ent102 rmulE)
def TO12 : Tb Tryz.prog Gt := TO11.add (wq1ag_q1ag_q1rd (g := fun x y => x + y) ent104 raddE)
def TO13 : Tb Tryz.prog Gt := TO12.add (wq1ag_q1ag_q1rd (g := fun x y => x - y) ent101 rsubE)
def TO14 : Tb Tryz.prog Gt := TO13.add (wq1ag_q1rd (g := fun x => -x) ent107 rnegE)
def TO15 : Tb Tryz.prog Gt := TO14.add (wq1ag_q1rd (g := fun x => x ^ (PP - 2)) ent106 rinvE)
def TO16 : Tb Tryz.prog Gt := TO15.add (wq1ag_rdB (g := fun x => decide (x = 0)) ent103 risZeroE)
def TO17 : Tb Tryz.prog Gt := TO16.add (wagU_q1rd (g := fun n => zp n.toNat) ent142 rsmallE)
theorem e2one  : Pure Tryz.prog Gt 45 [] (EV2 on2) := pE TO17 Tryz.func45 [] (.inl (.inl [on2.1, on2.2])) (.inl (.inl [1, 0]), []) [] (by kernel_rfl) ok_nil rfl
theorem wq2rd {f : Nat} {g : W2} (en : Enters Tryz.prog f) (h : Pure Tryz.prog Gt f [] (EV2 g)) : Snd Tryz.prog Gt f (c0 q2.rd g) := c0_ok q2.rd en h
def TO18 : Tb Tryz.prog Gt := TO17.add (wq2rd (g := on2) ent45 e2one)
theorem e2equal (x y : W2) : Pure Tryz.prog Gt 26 [EV2 x, EV2 y] (.bool (decide (x = y))) := by
 by_cases h : x.1 = y.1
 ·exact pE TO18 Tryz.func26 [.inl [x.1, x.2], .inl [y.1, y.2]] (.inl (.inr (.inl (decide (x = y))))) (.inl (.inr (.inl (decide (x.2 = y.2)))), [(decide (x.1 = y.1), true)]) [some true] (by kernel_rfl) (ok_cons (decide_eq_true h) ok_nil) (eb (dec2_t h))
 ·exact pE TO18 Tryz.func26 [.inl [x.1, x.2], .inl [y.1, y.2]] (.inl (.inr (.inl (decide (x = y))))) (.inl (.inr (.inl false)), [(decide (x.1 = y.1), false)]) [some false] (by kernel_rfl) (ok_cons (decide_eq_false h) ok_nil) (eb (dec2_f h))
theorem wq2ag_q2ag_rdB {f : Nat} {g : W2 → W2 → Bool} (en : Enters Tryz.prog f) (h : ∀ a b, Pure Tryz.prog Gt f [EV2 a, EV2 b] (.bool (g a b))) : Snd Tryz.prog Gt f (c2 q2.ag q2.ag rdB g) := c2_ok q2.ag q2.ag rdB en h
def TO19 : Tb Tryz.prog Gt := TO18.add (wq2ag_q2ag_rdB (g := fun x y => decide (x = y)) ent26 e2equal)
theorem e2isZero (x : W2) : Pure Tryz.prog Gt 40 [EV2 x] (.bool (decide (x = ze2))) := by
 by_cases h : x.1 = 0
 ·exact pE TO19 Tryz.func40 [.inl [x.1, x.2]] (.inl (.inr (.inl (decide (x = ze2))))) (.inl (.inr (.inl (decide (x.2 = 0)))), [(decide (x.1 = 0), true)]) [some true] (by kernel_rfl) (ok_cons (decide_eq_true h) ok_nil) (eb (dec2_t (y := ze2) h))
 ·exact pE TO19 Tryz.func40 [.inl [x.1, x.2]] (.inl (.inr (.inl (decide (x = ze2))))) (.inl (.inr (.inl false)), [(decide (x.1 = 0), false)]) [some false] (by kernel_rfl) (ok_cons (decide_eq_false h) ok_nil) (eb (dec2_f (y := ze2) h))
theorem wq2ag_rdB {f : Nat} {g : W2 → Bool} (en : Enters Tryz.prog f) (h : ∀ a, Pure Tryz.prog Gt f [EV2 a] (.bool (g a))) : Snd Tryz.prog Gt f (c1 q2.ag rdB g) := c1_ok q2.ag rdB en h
def TO20 : Tb Tryz.prog Gt := TO19.add (wq2ag_rdB (g := fun x => decide (x = ze2)) ent40 e2isZero)
theorem e2add (x y : W2) : Pure Tryz.prog Gt 95 [EV2 x, EV2 y] (EV2 (ad2 x y)) := pE TO20 Tryz.func95 [.inl [x.1, x.2], .inl [y.1, y.2]] (.inl (.inl [(ad2 x y).1, (ad2 x y).2])) (.inl (.inl [x.1 + y.1, x.2 + y.2]), []) [] (by kernel_rfl) ok_nil rfl
theorem wq2ag_q2ag_q2rd {f : Nat} {g : W2 → W2 → W2} (en : Enters Tryz.prog f) (h : ∀ a b, Pure Tryz.prog Gt f [EV2 a, EV2 b] (EV2 (g a b))) : Snd Tryz.prog Gt f (c2 q2.ag q2.ag q2.rd g) := c2_ok q2.ag q2.ag q2.rd en h
def TO21 : Tb Tryz.prog Gt := TO20.add (wq2ag_q2ag_q2rd (g := ad2) ent95 e2add)
theorem e2sub (x y : W2) : Pure Tryz.prog Gt 39 [EV2 x, EV2 y] (EV2 (sb2 x y)) := pE TO21 Tryz.func39 [.inl [x.1, x.2], .inl [y.1, y.2]] (.inl (.inl [(sb2 x y).1, (sb2 x y).2])) (.inl (.inl [x.1 - y.1, x.2 - y.2]), []) [] (by kernel_rfl) ok_nil rfl
def TO22 : Tb Tryz.prog Gt := TO21.add (wq2ag_q2ag_q2rd (g := sb2) ent39 e2sub)
theorem e2neg (x : W2) : Pure Tryz.prog Gt 33 [EV2 x] (EV2 (ng2 x)) := pE TO22 Tryz.func33 [.inl [x.1, x.2]] (.inl (.inl [(ng2 x).1, (ng2 x).2])) (.inl (.inl [-x.1, -x.2]), []) [] (by kernel_rfl) ok_nil rfl
theorem wq2ag_q2rd {f : Nat} {g : W2 → W2} (en : Enters Tryz.prog f) (h : ∀ a, Pure Tryz.prog Gt f [EV2 a] (EV2 (g a))) : Snd Tryz.prog Gt f (c1 q2.ag q2.rd g) := c1_ok q2.ag q2.rd en h
def TO23 : Tb Tryz.prog Gt := TO22.add (wq2ag_q2rd (g := ng2) ent33 e2neg)
theorem e2conj (x : W2) : Pure Tryz.prog Gt 96 [EV2 x] (EV2 (cj2 x)) := pE TO23 Tryz.func96 [.inl [x.1, x.2]] (.inl (.inl [(cj2 x).1, (cj2 x).2])) (.inl (.inl [x.1, -x.2]), []) [] (by kernel_rfl) ok_nil rfl
def TO24 : Tb Tryz.prog Gt := TO23.add (wq2ag_q2rd (g := cj2) ent96 e2conj)
theorem e2mul (x y : W2) : Pure Tryz.prog Gt 42 [EV2 x, EV2 y] (EV2 (ml2 x y)) := pE TO24 Tryz.func42 [.inl [x.1, x.2], .inl [y.1, y.2]] (.inl (.inl [(ml2 x y).1, (ml2 x y).2])) (let t0 := (x.1 + x.2) * (y.1 + y.2); let t1 := (x.1 * y.1) - (x.2 * y.2); let t2 := t0 - (x.1 * y.1); let t3 := t2 - (x.2 * y.2); (.inl (.inl [t1, t3]), [])) [] (by kernel_rfl) ok_nil (el2 (by first | (simp only [ml2]; done) | (simp only [ml2]; grind)) (by first | (simp only [ml2]; done) | (simp only [ml2]; grind)))
def TO25 : Tb Tryz.prog Gt := TO24.add (wq2ag_q2ag_q2rd (g := ml2) ent42 e2mul)
theorem e2square (x : W2) : Pure Tryz.prog Gt 92 [EV2 x] (EV2 (ml2 x x)) := pE TO25 Tryz.func92 [.inl [x.1, x.2]] (.inl (.inl [(ml2 x x).1, (ml2 x x).2])) (let t0 := (x.1 + x.2) * (x.1 - x.2); let t1 := (x.1 * x.2) + (x.1 * x.2); (.inl (.inl [t0, t1]), [])) [] (by kernel_rfl) ok_nil (el2 (by first | (simp only [ml2]; done) | (simp only [ml2]; grind)) (by first | (simp only [ml2]; done) | (simp only [ml2]; grind)))
def TO26 : Tb Tryz.prog Gt := TO25.add (wq2ag_q2rd (g := fun x => ml2 x x) ent92 e2square)
theorem e2scale (x : W2) (c : Zp) : Pure Tryz.prog Gt 97 [EV2 x, EV c] (EV2 (sc2 x c)) := pE TO26 Tryz.func97 [.inl [x.1, x.2], .inl [c]] (.inl (.inl [(sc2 x c).1, (sc2 x c).2])) (.inl (.inl [x.1 * c, x.2 * c]), []) [] (by kernel_rfl) ok_nil rfl
theorem wq2ag_q1ag_q2rd {f : Nat} {g : W2 → Zp → W2} (en : Enters Tryz.prog f) (h : ∀ a b, Pure Tryz.prog Gt f [EV2 a, EV b] (EV2 (g a b))) : Snd Tryz.prog Gt f (c2 q2.ag q1.ag q2.rd g) := c2_ok q2.ag q1.ag q2.rd en h
def TO27 : Tb Tryz.prog Gt := TO26.add (wq2ag_q1ag_q2rd (g := sc2) ent97 e2scale)
theorem e2xi (x : W2) : Pure Tryz.prog Gt 150 [EV2 x] (EV2 (xi2 x)) := pE TO27 Tryz.func150 [.inl [x.1, x.2]] (.inl (.inl [(xi2 x).1, (xi2 x).2])) (.inl (.inl [x.1 - x.2, x.1 + x.2]), []) [] (by kernel_rfl) ok_nil rfl
def TO28 : Tb Tryz.prog Gt := TO27.add (wq2ag_q2rd (g := xi2) ent150 e2xi)
theorem e2norm (x : W2) : Pure Tryz.prog Gt 98 [EV2 x] (EV (nm2 x)) := pE TO28 Tryz.func98 [.inl [x.1, x.2]] (.inl (.inl [nm2 x])) (let t0 := (x.1 * x.1) + (x.2 * x.2); (.inl (.inl [t0]), [])) [] (by kernel_rfl) ok_nil rfl
theorem wq2ag_q1rd {f : Nat} {g : W2 → Zp} (en : Enters Tryz.prog f) (h : ∀ a, Pure Tryz.prog Gt f [EV2 a] (EV (g a))) : Snd Tryz.prog Gt f (c1 q2.ag q1.rd g) := c1_ok q2.ag q1.rd en h
def TO29 : Tb Tryz.prog Gt := TO28.add (wq2ag_q1rd (g := nm2) ent98 e2norm)
theorem e2inv (x : W2) : Pure Tryz.prog Gt 43 [EV2 x] (EV2 (iv2 x)) := pE TO29 Tryz.func43 [.inl [x.1, x.2]] (.inl (.inl [(iv2 x).1, (iv2 x).2])) (let t0 := cj2 x; let t1 := (nm2 x) ^ (PP - 2); let t2 := sc2 (t0.1, t0.2) t1; (.inl (.inl [t2.1, t2.2]), [])) [] (by kernel_rfl) ok_nil rfl
def TO30 : Tb Tryz.prog Gt := TO29.add (wq2ag_q2rd (g := iv2) ent43 e2inv)
end
section
open Go.RowKit
attribute [local simp] fe_len nm_len AS_len SS_len MONT_len RM_len FRs_len BYs_len by48_len PLl TWOl ONEl N1l IVPl HFPl RTPl FL_len SP_len fe2_len SP2_len FM_len
theorem rsmall1 : Pure Tryz.prog Gt 142 [U64 1#64] (EV 1) := rsmallE 1#64
theorem rsmall2 : Pure Tryz.prog Gt 142 [U64 2#64] (EV (zp 2)) := rsmallE 2#64
def TO31 : Tb Tryz.prog Gt := TO30.add (wagL1_q1rd (g := 1) ent142 rsmall1)
theorem wagL2_q1rd {f : Nat} {g : Zp} (en : Enters Tryz.prog f) (h : Pure Tryz.prog Gt f [U64 2#64] (EV g)) : Snd Tryz.prog Gt f (c1 (agL 2) q1.rd (fun _ => g)) := c1_ok (agL 2) q1.rd en (fun _ => h)
def TO32 : Tb Tryz.prog Gt := TO31.add (wagL2_q1rd (g := zp 2) ent142 rsmall2)
theorem r5one  : Pure Tryz.prog Gt 100 [] (EV2 on2) := pE TO32 Tryz.func100 [] (.inl (.inl [on2.1, on2.2])) (.inl (.inl [1, 0]), []) [] (by kernel_rfl) ok_nil rfl
def TO33 : Tb Tryz.prog Gt := TO32.add (wq2rd (g := on2) ent100 r5one)
theorem r5isZero (x : W2) : Pure Tryz.prog Gt 53 [EV2 x] (.bool (decide (x = ze2))) := by
 by_cases h : x.1 = 0
 ·exact pE TO33 Tryz.func53 [.inl [x.1, x.2]] (.inl (.inr (.inl (decide (x = ze2))))) (.inl (.inr (.inl (decide (x.2 = 0)))), [(decide (x.1 = 0), true)]) [some true] (by kernel_rfl) (ok_cons (decide_eq_true h) ok_nil) (eb (dec2_t (y := ze2) h))
 ·exact pE TO33 Tryz.func53 [.inl [x.1, x.2]] (.inl (.inr (.inl (decide (x = ze2))))) (.inl (.inr (.inl false)), [(decide (x.1 = 0), false)]) [some false] (by kernel_rfl) (ok_cons (decide_eq_false h) ok_nil) (eb (dec2_f (y := ze2) h))
def TO34 : Tb Tryz.prog Gt := TO33.add (wq2ag_rdB (g := fun x => decide (x = ze2)) ent53 r5isZero)
theorem r5add (x y : W2) : Pure Tryz.prog Gt 54 [EV2 x, EV2 y] (EV2 (ad2 x y)) := pE TO34 Tryz.func54 [.inl [x.1, x.2], .inl [y.1, y.2]] (.inl (.inl [(ad2 x y).1, (ad2 x y).2])) (.inl (.inl [x.1 + y.1, x.2 + y.2]), []) [] (by kernel_rfl) ok_nil rfl
def TO35 : Tb Tryz.prog Gt := TO34.add (wq2ag_q2ag_q2rd (g := ad2) ent54 r5add)
theorem r5sub (x y : W2) : Pure Tryz.prog Gt 50 [EV2 x, EV2 y] (EV2 (sb2 x y)) := pE TO35 Tryz.func50 [.inl [x.1, x.2], .inl [y.1, y.2]] (.inl (.inl [(sb2 x y).1, (sb2 x y).2])) (.inl (.inl [x.1 - y.1, x.2 - y.2]), []) [] (by kernel_rfl) ok_nil rfl
def TO36 : Tb Tryz.prog Gt := TO35.add (wq2ag_q2ag_q2rd (g := sb2) ent50 r5sub)
theorem r5neg (x : W2) : Pure Tryz.prog Gt 55 [EV2 x] (EV2 (ng2 x)) := pE TO36 Tryz.func55 [.inl [x.1, x.2]] (.inl (.inl [(ng2 x).1, (ng2 x).2])) (.inl (.inl [-x.1, -x.2]), []) [] (by kernel_rfl) ok_nil rfl
def TO37 : Tb Tryz.prog Gt := TO36.add (wq2ag_q2rd (g := ng2) ent55 r5neg)
theorem r5conj (x : W2) : Pure Tryz.prog Gt 153 [EV2 x] (EV2 (cj2 x)) := pE TO37 Tryz.func153 [.inl [x.1, x.2]] (.inl (.inl [(cj2 x).1, (cj2 x).2])) (.inl (.inl [x.1, -x.2]), []) [] (by kernel_rfl) ok_nil rfl
def TO38 : Tb Tryz.prog Gt := TO37.add (wq2ag_q2rd (g := cj2) ent153 r5conj)
theorem r5xi (x : W2) : Pure Tryz.prog Gt 123 [EV2 x] (EV2 (xi2 x)) := pE TO38 Tryz.func123 [.inl [x.1, x.2]] (.inl (.inl [(xi2 x).1, (xi2 x).2])) (.inl (.inl [x.1 - x.2, x.1 + x.2]), []) [] (by kernel_rfl) ok_nil rfl
def TO39 : Tb Tryz.prog Gt := TO38.add (wq2ag_q2rd (g := xi2) ent123 r5xi)
theorem r5mul (x y : W2) : Pure Tryz.prog Gt 51 [EV2 x, EV2 y] (EV2 (ml2 x y)) := by
 by_cases h : x.2 = 0
 ·by_cases h2 : y.2 = 0
  ·exact pE TO39 Tryz.func51 [.inl [x.1, x.2], .inl [y.1, y.2]] (.inl (.inl [(ml2 x y).1, (ml2 x y).2])) (.inl (.inl [x.1 * y.1, 0]), [(decide (x.2 = 0), true), (decide (y.2 = 0), true)]) [some true, some true] (by kernel_rfl) (ok_cons (decide_eq_true h) (ok_cons (decide_eq_true h2) ok_nil)) (el2 (by simp only [ml2]; rw [h]; grind) (by simp only [ml2]; rw [h, h2, z_m0, z_0m, z_00]))
  ·exact pE TO39 Tryz.func51 [.inl [x.1, x.2], .inl [y.1, y.2]] (.inl (.inl [(ml2 x y).1, (ml2 x y).2])) (let t0 := (x.1 * y.1) - (x.2 * y.2); let t1 := (x.1 + x.2) * (y.1 + y.2); let t2 := t1 - (x.1 * y.1); let t3 := t2 - (x.2 * y.2); (.inl (.inl [t0, t3]), [(decide (x.2 = 0), true), (decide (y.2 = 0), false)])) [some true, some false] (by kernel_rfl) (ok_cons (decide_eq_true h) (ok_cons (decide_eq_false h2) ok_nil)) (el2 (by first | (simp only [ml2]; done) | (simp only [ml2]; grind)) (by first | (simp only [ml2]; done) | (simp only [ml2]; grind)))
 ·exact pE TO39 Tryz.func51 [.inl [x.1, x.2], .inl [y.1, y.2]] (.inl (.inl [(ml2 x y).1, (ml2 x y).2])) (let t0 := (x.1 * y.1) - (x.2 * y.2); let t1 := (x.1 + x.2) * (y.1 + y.2); let t2 := t1 - (x.1 * y.1); let t3 := t2 - (x.2 * y.2); (.inl (.inl [t0, t3]), [(decide (x.2 = 0), false)])) [some false] (by kernel_rfl) (ok_cons (decide_eq_false h) ok_nil) (el2 (by first | (simp only [ml2]; done) | (simp only [ml2]; grind)) (by first | (simp only [ml2]; done) | (simp only [ml2]; grind)))
def TO40 : Tb Tryz.prog Gt := TO39.add (wq2ag_q2ag_q2rd (g := ml2) ent51 r5mul)
theorem r5norm (x : W2) : Pure Tryz.prog Gt 105 [EV2 x] (EV (nm2 x)) := pE TO40 Tryz.func105 [.inl [x.1, x.2]] (.inl (.inl [nm2 x])) (let t0 := (x.1 * x.1) + (x.2 * x.2); (.inl (.inl [t0]), [])) [] (by kernel_rfl) ok_nil rfl
def TO41 : Tb Tryz.prog Gt := TO40.add (wq2ag_q1rd (g := nm2) ent105 r5norm)
theorem r5inv (x : W2) : Pure Tryz.prog Gt 52 [EV2 x] (EV2 (iv2 x)) := pE TO41 Tryz.func52 [.inl [x.1, x.2]] (.inl (.inl [(iv2 x).1, (iv2 x).2])) (let t0 := (nm2 x) ^ (PP - 2); (.inl (.inl [x.1 * t0, (-x.2) * t0]), [])) [] (by kernel_rfl) ok_nil rfl
def TO42 : Tb Tryz.prog Gt := TO41.add (wq2ag_q2rd (g := iv2) ent52 r5inv)
end
section
open Go.RowKit
attribute [local simp] fe_len nm_len AS_len SS_len MONT_len RM_len FRs_len BYs_len by48_len PLl TWOl ONEl N1l IVPl HFPl RTPl FL_len SP_len fe2_len SP2_len FM_len
theorem rU3 {Q P : Prop} (k : Q) (h : Q → P := by intro k; (refine LY.run ?_); (repeat (first | refine y_move rfl rfl rfl ?_ | refine y_assign rfl rfl rfl ?_ | ((refine ra46 rfl rfl ?_ rfl rfl ?_); (· simp)) | ((refine sa46 hGF rfl rfl rfl ?_ ?_ (one_u64 _) rfl ?_); (· simp); (· simp)) | refine y_call (f := 51) rfl rfl ent51 (r5mul _ _) rfl rfl ?_)); (first | refine y_nil ?_ | refine LY.mk ?_); exact k) : P := h k
theorem pU3 {Q P : Prop} (k : Q) (h : Q → P := by intro k; (refine xp ?_); (refine rU3 ?_); exact k) : P := h k
theorem bt_y (x : W2) (bs : List (BitVec 8)) (i : Nat) (h : pbit bs i = 1#8) : ml2 (ml2 (pw2 x (BTn bs i)) (pw2 x (BTn bs i))) x = pw2 x (BTn bs (i + 1)) := by
 rcases bit_one bs i with ⟨_, e⟩ | ⟨h', _⟩
 ·rw [← pw2_add, ← pw2_s, BTn, e, Nat.two_mul]
 ·exact absurd h h'
theorem bt_n (x : W2) (bs : List (BitVec 8)) (i : Nat) (h : ¬ pbit bs i = 1#8) : ml2 (pw2 x (BTn bs i)) (pw2 x (BTn bs i)) = pw2 x (BTn bs (i + 1)) := by
 rcases bit_one bs i with ⟨h', _⟩ | ⟨_, e⟩
 ·exact absurd h' h
 ·rw [← pw2_add, BTn, e, Nat.two_mul, Nat.add_zero]
theorem r5pow_calls (x : W2) (e : Option Addr) (cap : Nat) (bs : List (BitVec 8)) (hlen : bs.length ≤ 4096) (w : World) (hw : Gt w) (hby : BytesAt w e bs) :
  Calls Tryz.prog 127 [EV2 x, .slice e bs.length cap].toArray w (fun r w' => r = .returned (EV2 (pw2 x (BN bs bs.length))) ∧ Grow w w') := by
 have hGF : BOk Gt (pl w) := gt_low.plain hw
 refine calls_of_X (G := Gt) Tryz.func127 rfl rfl (Hp (pl w) []) (hp_refl (pl w) trivial rides_true) (good_hp hGF) ?_
 refine xp ?_
 refine lb fun b2 => ?_
 refine la zv46 fun b4 => ?_
 refine lx_nil ?_
 refine xp ?_
 refine lc ent100 (r5one) ?_
 refine la zv46 fun b5 => ?_
 refine rU3 ?_
 refine x_seq ?_
 refine pU3 ?_
 refine x_block ?_
 refine x_for (ι := { i : Nat // i ≤ 8 * bs.length }) (fun y => [(1, .slice e bs.length cap), (2, .pointer (some ⟨b2, 0, none⟩)), (4, .pointer (some ⟨b4, 0, none⟩)), (5, .pointer (some ⟨b5, 0, none⟩)), (6, I (y.1 : Int))]) (fun y => [(2, b2, (fe (x).1 ++ fe (x).2).map U64, 46), (4, b4, (fe 0 ++ fe 0).map U64, 46), (5, b5, (fe (pw2 x (BTn bs y.1)).1 ++ fe (pw2 x (BTn bs y.1)).2).map U64, 46)]) (fun y => 8 * bs.length - y.1) ⟨0, Nat.zero_le _⟩ hGF ⟨rfl, rfl, rfl, rfl, rfl, trivial⟩ ⟨rfl, rfl, by rw [BTn, pw2_0]; rfl, trivial⟩ ?_
 rintro ⟨i, hi⟩
 dsimp only
 refine x_seq ?_
 refine pU3 ?_
 refine lx_len rfl (fun _ => len_slice Tryz.underlying22 _ _ _ _) rfl rfl ?_
 refine lx_bin (v := I ((8 * bs.length : Nat) : Int)) rfl rfl (fun _ => rfl) (fun _ => (bin_mul_i _ _ _ (by unfold inI; omega)).trans (by rw [show (8 : Int) * (bs.length : Int) = ((8 * bs.length : Nat) : Int) by omega])) rfl rfl ?_
 refine lx_bin rfl rfl (fun _ => rfl) (fun _ => bin_lss_i _ _ _) rfl rfl ?_
 refine lx_nil ?_
 refine x_if rfl (fun hc => ?_) (fun hc => ?_)
 ·simp only [decide_eq_true_eq] at hc
  refine x_skip ?_
  refine x_seq ?_
  refine x_block ?_
  refine pU3 ?_
  refine pU3 ?_
  refine lx_bin (v := I ((i / 8 : Nat) : Int)) rfl rfl (fun _ => rfl) (fun _ => bin_quo_i _ _ _ (by decide) (show inI ((i / 8 : Nat) : Int) by unfold inI; omega)) rfl rfl ?_
  obtain ⟨ad, rfl, _⟩ := hby (i / 8) _ (gm U8 bs 0 (i / 8) (by omega))
  refine lx_isA (i / 8) rfl rfl Tryz.underlying22 Tryz.sizeOf5 rfl (by omega) rfl rfl ?_
  refine lx_load rfl Tryz.isAgg5 (fun w' h => by obtain ⟨ad', e, hc⟩ := (hby.grow (hp_below h)) (i / 8) _ (gm U8 bs 0 (i / 8) (by omega)); cases e; exact hc) rfl rfl ?_
  refine rU3 ?_
  refine lx_bin (v := I ((i % 8 : Nat) : Int)) rfl rfl (fun _ => rfl) (fun _ => bin_rem_i _ _ _ (by decide)) rfl rfl ?_
  refine lx_bin (v := I ((7 - i % 8 : Nat) : Int)) rfl rfl (fun _ => rfl) (fun _ => (bin_sub_i _ _ _ (by unfold inI; omega)).trans (by rw [show ((7 : Int) - ((i % 8 : Nat) : Int)) = ((7 - i % 8 : Nat) : Int) by omega])) rfl rfl ?_
  refine lx_bin (v := U8 (bs.getD (i / 8) 0 >>> (7 - i % 8))) rfl rfl (fun _ => rfl) (fun _ => bin_shr_i_u8 _ _ _ (by omega)) rfl rfl ?_
  refine lx_bin (v := U8 (pbit bs i)) rfl rfl (fun _ => rfl) (fun _ => bin_and_u8 _ _ 1#8) rfl rfl ?_
  refine lx_bin (v := .bool (decide (pbit bs i = 1#8))) rfl rfl (fun _ => rfl) (fun _ => (bin_eql_u8 _ _ 1#8).trans rfl) rfl rfl ?_
  refine lx_nil ?_
  refine x_if rfl (fun hc => ?_) (fun hc => ?_)
  ·simp only [decide_eq_true_eq] at hc
   have hq := hc
   refine x_plain (E := EE []) ?_
   refine rU3 ?_
   refine x_plain (E := EE []) ?_
   refine rU3 ?_
   refine lx_bin rfl rfl (fun _ => rfl) (fun _ => bin_add_i _ _ _ (by unfold inI; omega)) rfl rfl ?_
   refine rU3 ?_
   repeat (refine kblk_n ?_)
   refine kseq_n ?_
   exact ⟨rfl, ⟨i + 1, by omega⟩, _, by show 8 * bs.length - (i + 1) < 8 * bs.length - i; omega, rfl, ⟨rfl, rfl, rfl, rfl, rfl, trivial⟩, ⟨rfl, rfl, by first | (rw [← bt_y x bs i hq]; rfl) | (rw [← bt_n x bs i hq]; rfl), trivial⟩⟩
  ·simp only [decide_eq_false_iff_not] at hc
   have hq := hc
   refine x_skip ?_
   refine x_plain (E := EE []) ?_
   refine rU3 ?_
   refine lx_bin rfl rfl (fun _ => rfl) (fun _ => bin_add_i _ _ _ (by unfold inI; omega)) rfl rfl ?_
   refine rU3 ?_
   repeat (refine kblk_n ?_)
   refine kseq_n ?_
   exact ⟨rfl, ⟨i + 1, by omega⟩, _, by show 8 * bs.length - (i + 1) < 8 * bs.length - i; omega, rfl, ⟨rfl, rfl, rfl, rfl, rfl, trivial⟩, ⟨rfl, rfl, by first | (rw [← bt_y x bs i hq]; rfl) | (rw [← bt_n x bs i hq]; rfl), trivial⟩⟩
 ·obtain rfl : i = 8 * bs.length := by simp at hc; omega
  refine x_exit ?_
  refine pU3 ?_
  refine rt ?_
  exact kret_own 4 rfl rfl rfl Tryz.isAgg46 Tryz.sizeOf46 (by simp) (fun w hw => ⟨by rw [← BTn_eight], hp_below hw⟩)
end
end Go.Proofs.YthkmeodnlidpfaaGreatDoor
