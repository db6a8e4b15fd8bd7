/-
 The walks of package fp2: sums and products.
 The walks of package fp2: signs and roots; the reference's elements.
 The walks of package fp2: powers; the reference's powers.
-/
import Derived.Test.YthkmeodnlidpfaaDoorX9
import Derived.Test.YthkmeodnlidpfaaDoorX5
import Derived.Test.YthkmeodnlidpfaaDoorX3
import Derived.Test.YthkmeodnlidpfaaDoorXO
set_option maxRecDepth 100000
set_option maxHeartbeats 1000000
namespace Go.Proofs.YthkmeodnlidpfaaDoor
section
open Go.RowKit
attribute [local simp] fe_len nm_len AS_len SS_len MONT_len RM_len FRs_len BYs_len by48_len PLl TWOl ONEl N1l IVPl HFPl RTPl FL_len SP_len fe2_len SP2_len FM_len
theorem ent28 : Enters Tryd.prog 28 := fun _ _ => by kernel_rfl
theorem ent14 : Enters Tryd.prog 14 := fun _ _ => by kernel_rfl
theorem ent23 : Enters Tryd.prog 23 := fun _ _ => by kernel_rfl
theorem ent40 : Enters Tryd.prog 40 := fun _ _ => by kernel_rfl
theorem ent22 : Enters Tryd.prog 22 := fun _ _ => by kernel_rfl
theorem ent31 : Enters Tryd.prog 31 := fun _ _ => by kernel_rfl
theorem ent43 : Enters Tryd.prog 43 := fun _ _ => by kernel_rfl
theorem ent25 : Enters Tryd.prog 25 := fun _ _ => by kernel_rfl
theorem ent37 : Enters Tryd.prog 37 := fun _ _ => by kernel_rfl
theorem ent44 : Enters Tryd.prog 44 := fun _ _ => by kernel_rfl
theorem ent26 : Enters Tryd.prog 26 := fun _ _ => by kernel_rfl
theorem ent45 : Enters Tryd.prog 45 := fun _ _ => by kernel_rfl
abbrev EV2 (x : W2) : Value := .agg ((fe x.1 ++ fe x.2).map U64).toArray
theorem zv37 (w : World) : (zeroValue 37).run Tryd.prog w = .ok (.agg ((fe 0 ++ fe 0).map U64).toArray) w := by rw [fe_0]; exact (Tryd.zeroValue37 w).trans (by rfl)
theorem two37 : Two Tryd.prog 37 ⟨ "C0", 35, 0, false, "", "", 0⟩ ⟨ "C1", 35, 6, false, "", "", 48⟩ 6 6 (fe 0) (fe 0) := ⟨Tryd.underlying37, rfl, rfl, Tryd.sizeOf35, Tryd.sizeOf35, zv37, fe_len 0, fe_len 0⟩
theorem e2 {a b c d : Zp} (h1 : a = c) (h2 : b = d) : Ending.returned (.agg ((fe a ++ fe b).map U64).toArray) = .returned (.agg ((fe c ++ fe d).map U64).toArray) := by rw [h1, h2]
theorem rb {a b : Bool} (h : a = b) : Ending.returned (.bool a) = .returned (.bool b) := by rw [h]
def q3 : Sh (Zp × Zp × Zp) := q1.two (q1.two q1 1) 1
theorem pE {f : FuncId} {fn : Func} {c : Code} (T : Tb Tryd.prog Gt) (hf : Tryd.prog.funcs[f]? = some fn) (a : List S0) (v : S1) (vc : S1 × CB) (p : Pa) (h : xF T fn c a p = some vc) (hc : Ok vc.2) (e : vc.1 = v) (hb : fn.body = some c := by rfl) (hn : Nat.ble a.length fn.ntmps = true := by rfl) : Pure Tryd.prog Gt f (a.map (dn rid)) (dn1 rid v) := by rw [← e]; exact pure_S (v := vc.1) (cs := vc.2) T mixed gtS hf hb h hc hn rid
theorem el2 {a b c d : Zp} (h1 : a = c) (h2 : b = d) : (Sum.inl (Sum.inl [a, b]) : S1) = .inl (.inl [c, d]) := by rw [h1, h2]
theorem eb {a b : Bool} (h : a = b) : (Sum.inl (.inr (.inl a)) : S1) = .inl (.inr (.inl b)) := by rw [h]
theorem wq1ag_q1ag_q1rd {f : Nat} {g : Zp → Zp → Zp} (en : Enters Tryd.prog f) (h : ∀ a b, Pure Tryd.prog Gt f [EV a, EV b] (EV (g a b))) : Snd Tryd.prog Gt f (c2 q1.ag q1.ag q1.rd g) := c2_ok q1.ag q1.ag q1.rd en h
def TO1 : Tb Tryd.prog Gt := TB.add (wq1ag_q1ag_q1rd (g := fun x y => x * y) ent41 fmul_pure)
theorem wagU_q1rd {f : Nat} {g : BitVec 64 → Zp} (en : Enters Tryd.prog f) (h : ∀ a, Pure Tryd.prog Gt f [U64 a] (EV (g a))) : Snd Tryd.prog Gt f (c1 agU q1.rd g) := c1_ok agU q1.rd en h
def TO2 : Tb Tryd.prog Gt := TO1.add (wagU_q1rd (g := fun n => zp n.toNat) ent12 fof_pure)
theorem wq1ag_q1ag_rdB {f : Nat} {g : Zp → Zp → Bool} (en : Enters Tryd.prog f) (h : ∀ a b, Pure Tryd.prog Gt f [EV a, EV b] (.bool (g a b))) : Snd Tryd.prog Gt f (c2 q1.ag q1.ag rdB g) := c2_ok q1.ag q1.ag rdB en h
def TO3 : Tb Tryd.prog Gt := TO2.add (wq1ag_q1ag_rdB (g := fun x y => decide (x = y)) ent32 fequal_pure)
theorem wq1ag_rdB {f : Nat} {g : Zp → Bool} (en : Enters Tryd.prog f) (h : ∀ a, Pure Tryd.prog Gt f [EV a] (.bool (g a))) : Snd Tryd.prog Gt f (c1 q1.ag rdB g) := c1_ok q1.ag rdB en h
def TO4 : Tb Tryd.prog Gt := TO3.add (wq1ag_rdB (g := fun x => decide (x = 0)) ent39 fisZero_pure)
def TO5 : Tb Tryd.prog Gt := TO4.add (wq1ag_q1ag_q1rd (g := fun x y => x + y) ent42 fadd_pure)
def TO6 : Tb Tryd.prog Gt := TO5.add (wq1ag_q1ag_q1rd (g := fun x y => x - y) ent38 fsub_pure)
theorem wq1ag_q1rd {f : Nat} {g : Zp → Zp} (en : Enters Tryd.prog f) (h : ∀ a, Pure Tryd.prog Gt f [EV a] (EV (g a))) : Snd Tryd.prog Gt f (c1 q1.ag q1.rd g) := c1_ok q1.ag q1.rd en h
def TO7 : Tb Tryd.prog Gt := TO6.add (wq1ag_q1rd (g := fun x => -x) ent48 fneg_pure)
def TO8 : Tb Tryd.prog Gt := TO7.add (wq1ag_q1rd (g := fun x => x * x) ent55 fsquare_pure)
theorem wagL1_q1rd {f : Nat} {g : Zp} (en : Enters Tryd.prog f) (h : Pure Tryd.prog Gt f [U64 1#64] (EV g)) : Snd Tryd.prog Gt f (c1 (agL 1) q1.rd (fun _ => g)) := c1_ok (agL 1) q1.rd en (fun _ => h)
def TO9 : Tb Tryd.prog Gt := TO8.add (wagL1_q1rd (g := 1) ent12 fof1_pure)
def TO10 : Tb Tryd.prog Gt := TO9.add (wq1ag_q1rd (g := fun x => x ^ (PP - 2)) ent46 finv_pure)
theorem e2one  : Pure Tryd.prog Gt 28 [] (EV2 on2) := pE TO10 Tryd.func28 [] (.inl (.inl [on2.1, on2.2])) (.inl (.inl [1, 0]), []) [] (by kernel_rfl) ok_nil rfl
theorem wq2rd {f : Nat} {g : W2} (en : Enters Tryd.prog f) (h : Pure Tryd.prog Gt f [] (EV2 g)) : Snd Tryd.prog Gt f (c0 q2.rd g) := c0_ok q2.rd en h
def TO11 : Tb Tryd.prog Gt := TO10.add (wq2rd (g := on2) ent28 e2one)
theorem e2equal (x y : W2) : Pure Tryd.prog Gt 14 [EV2 x, EV2 y] (.bool (decide (x = y))) := by
 by_cases h : x.1 = y.1
 ·exact pE TO11 Tryd.func14 [.inl [x.1, x.2], .inl [y.1, y.2]] (.inl (.inr (.inl (decide (x = y))))) (.inl (.inr (.inl (decide (x.2 = y.2)))), [(decide (x.1 = y.1), true)]) [some true] (by kernel_rfl) (ok_cons (decide_eq_true h) ok_nil) (eb (dec2_t h))
 ·exact pE TO11 Tryd.func14 [.inl [x.1, x.2], .inl [y.1, y.2]] (.inl (.inr (.inl (decide (x = y))))) (.inl (.inr (.inl false)), [(decide (x.1 = y.1), false)]) [some false] (by kernel_rfl) (ok_cons (decide_eq_false h) ok_nil) (eb (dec2_f h))
theorem wq2ag_q2ag_rdB {f : Nat} {g : W2 → W2 → Bool} (en : Enters Tryd.prog f) (h : ∀ a b, Pure Tryd.prog Gt f [EV2 a, EV2 b] (.bool (g a b))) : Snd Tryd.prog Gt f (c2 q2.ag q2.ag rdB g) := c2_ok q2.ag q2.ag rdB en h
def TO12 : Tb Tryd.prog Gt := TO11.add (wq2ag_q2ag_rdB (g := fun x y => decide (x = y)) ent14 e2equal)
theorem e2isZero (x : W2) : Pure Tryd.prog Gt 23 [EV2 x] (.bool (decide (x = ze2))) := by
 by_cases h : x.1 = 0
 ·exact pE TO12 Tryd.func23 [.inl [x.1, x.2]] (.inl (.inr (.inl (decide (x = ze2))))) (.inl (.inr (.inl (decide (x.2 = 0)))), [(decide (x.1 = 0), true)]) [some true] (by kernel_rfl) (ok_cons (decide_eq_true h) ok_nil) (eb (dec2_t (y := ze2) h))
 ·exact pE TO12 Tryd.func23 [.inl [x.1, x.2]] (.inl (.inr (.inl (decide (x = ze2))))) (.inl (.inr (.inl false)), [(decide (x.1 = 0), false)]) [some false] (by kernel_rfl) (ok_cons (decide_eq_false h) ok_nil) (eb (dec2_f (y := ze2) h))
theorem wq2ag_rdB {f : Nat} {g : W2 → Bool} (en : Enters Tryd.prog f) (h : ∀ a, Pure Tryd.prog Gt f [EV2 a] (.bool (g a))) : Snd Tryd.prog Gt f (c1 q2.ag rdB g) := c1_ok q2.ag rdB en h
def TO13 : Tb Tryd.prog Gt := TO12.add (wq2ag_rdB (g := fun x => decide (x = ze2)) ent23 e2isZero)
theorem e2add (x y : W2) : Pure Tryd.prog Gt 40 [EV2 x, EV2 y] (EV2 (ad2 x y)) := pE TO13 Tryd.func40 [.inl [x.1, x.2], .inl [y.1, y.2]] (.inl (.inl [(ad2 x y).1, (ad2 x y).2])) (.inl (.inl [x.1 + y.1, x.2 + y.2]), []) [] (by kernel_rfl) ok_nil rfl
theorem wq2ag_q2ag_q2rd {f : Nat} {g : W2 → W2 → W2} (en : Enters Tryd.prog f) (h : ∀ a b, Pure Tryd.prog Gt f [EV2 a, EV2 b] (EV2 (g a b))) : Snd Tryd.prog Gt f (c2 q2.ag q2.ag q2.rd g) := c2_ok q2.ag q2.ag q2.rd en h
def TO14 : Tb Tryd.prog Gt := TO13.add (wq2ag_q2ag_q2rd (g := ad2) ent40 e2add)
theorem e2sub (x y : W2) : Pure Tryd.prog Gt 22 [EV2 x, EV2 y] (EV2 (sb2 x y)) := pE TO14 Tryd.func22 [.inl [x.1, x.2], .inl [y.1, y.2]] (.inl (.inl [(sb2 x y).1, (sb2 x y).2])) (.inl (.inl [x.1 - y.1, x.2 - y.2]), []) [] (by kernel_rfl) ok_nil rfl
def TO15 : Tb Tryd.prog Gt := TO14.add (wq2ag_q2ag_q2rd (g := sb2) ent22 e2sub)
theorem e2neg (x : W2) : Pure Tryd.prog Gt 31 [EV2 x] (EV2 (ng2 x)) := pE TO15 Tryd.func31 [.inl [x.1, x.2]] (.inl (.inl [(ng2 x).1, (ng2 x).2])) (.inl (.inl [-x.1, -x.2]), []) [] (by kernel_rfl) ok_nil rfl
theorem wq2ag_q2rd {f : Nat} {g : W2 → W2} (en : Enters Tryd.prog f) (h : ∀ a, Pure Tryd.prog Gt f [EV2 a] (EV2 (g a))) : Snd Tryd.prog Gt f (c1 q2.ag q2.rd g) := c1_ok q2.ag q2.rd en h
def TO16 : Tb Tryd.prog Gt := TO15.add (wq2ag_q2rd (g := ng2) ent31 e2neg)
theorem e2conj (x : W2) : Pure Tryd.prog Gt 43 [EV2 x] (EV2 (cj2 x)) := pE TO16 Tryd.func43 [.inl [x.1, x.2]] (.inl (.inl [(cj2 x).1, (cj2 x).2])) (.inl (.inl [x.1, -x.2]), []) [] (by kernel_rfl) ok_nil rfl
def TO17 : Tb Tryd.prog Gt := TO16.add (wq2ag_q2rd (g := cj2) ent43 e2conj)
theorem e2mul (x y : W2) : Pure Tryd.prog Gt 25 [EV2 x, EV2 y] (EV2 (ml2 x y)) := pE TO17 Tryd.func25 [.inl [x.1, x.2], .inl [y.1, y.2]] (.inl (.inl [(ml2 x y).1, (ml2 x y).2])) (let t0 := (x.1 + x.2) * (y.1 + y.2); let t1 := (x.1 * y.1) - (x.2 * y.2); let t2 := t0 - (x.1 * y.1); let t3 := t2 - (x.2 * y.2); (.inl (.inl [t1, t3]), [])) [] (by kernel_rfl) ok_nil (el2 (by first | (simp only [ml2]; done) | (simp only [ml2]; grind)) (by first | (simp only [ml2]; done) | (simp only [ml2]; grind)))
def TO18 : Tb Tryd.prog Gt := TO17.add (wq2ag_q2ag_q2rd (g := ml2) ent25 e2mul)
theorem e2square (x : W2) : Pure Tryd.prog Gt 37 [EV2 x] (EV2 (ml2 x x)) := pE TO18 Tryd.func37 [.inl [x.1, x.2]] (.inl (.inl [(ml2 x x).1, (ml2 x x).2])) (let t0 := (x.1 + x.2) * (x.1 - x.2); let t1 := (x.1 * x.2) + (x.1 * x.2); (.inl (.inl [t0, t1]), [])) [] (by kernel_rfl) ok_nil (el2 (by first | (simp only [ml2]; done) | (simp only [ml2]; grind)) (by first | (simp only [ml2]; done) | (simp only [ml2]; grind)))
def TO19 : Tb Tryd.prog Gt := TO18.add (wq2ag_q2rd (g := fun x => ml2 x x) ent37 e2square)
theorem e2scale (x : W2) (c : Zp) : Pure Tryd.prog Gt 44 [EV2 x, EV c] (EV2 (sc2 x c)) := pE TO19 Tryd.func44 [.inl [x.1, x.2], .inl [c]] (.inl (.inl [(sc2 x c).1, (sc2 x c).2])) (.inl (.inl [x.1 * c, x.2 * c]), []) [] (by kernel_rfl) ok_nil rfl
theorem wq2ag_q1ag_q2rd {f : Nat} {g : W2 → Zp → W2} (en : Enters Tryd.prog f) (h : ∀ a b, Pure Tryd.prog Gt f [EV2 a, EV b] (EV2 (g a b))) : Snd Tryd.prog Gt f (c2 q2.ag q1.ag q2.rd g) := c2_ok q2.ag q1.ag q2.rd en h
def TO20 : Tb Tryd.prog Gt := TO19.add (wq2ag_q1ag_q2rd (g := sc2) ent44 e2scale)
theorem e2norm (x : W2) : Pure Tryd.prog Gt 45 [EV2 x] (EV (nm2 x)) := pE TO20 Tryd.func45 [.inl [x.1, x.2]] (.inl (.inl [nm2 x])) (let t0 := (x.1 * x.1) + (x.2 * x.2); (.inl (.inl [t0]), [])) [] (by kernel_rfl) ok_nil rfl
theorem wq2ag_q1rd {f : Nat} {g : W2 → Zp} (en : Enters Tryd.prog f) (h : ∀ a, Pure Tryd.prog Gt f [EV2 a] (EV (g a))) : Snd Tryd.prog Gt f (c1 q2.ag q1.rd g) := c1_ok q2.ag q1.rd en h
def TO21 : Tb Tryd.prog Gt := TO20.add (wq2ag_q1rd (g := nm2) ent45 e2norm)
theorem e2inv (x : W2) : Pure Tryd.prog Gt 26 [EV2 x] (EV2 (iv2 x)) := pE TO21 Tryd.func26 [.inl [x.1, x.2]] (.inl (.inl [(iv2 x).1, (iv2 x).2])) (let t0 := cj2 x; let t1 := (nm2 x) ^ (PP - 2); let t2 := sc2 (t0.1, t0.2) t1; (.inl (.inl [t2.1, t2.2]), [])) [] (by kernel_rfl) ok_nil rfl
def TO22 : Tb Tryd.prog Gt := TO21.add (wq2ag_q2rd (g := iv2) ent26 e2inv)
end
section
open Go.RowKit
attribute [local simp] fe_len nm_len AS_len SS_len MONT_len RM_len FRs_len BYs_len by48_len PLl TWOl ONEl N1l IVPl HFPl RTPl FL_len SP_len fe2_len SP2_len FM_len
end
section
open Go.RowKit
attribute [local simp] fe_len nm_len AS_len SS_len MONT_len RM_len FRs_len BYs_len by48_len PLl TWOl ONEl N1l IVPl HFPl RTPl FL_len SP_len fe2_len SP2_len FM_len
end
end Go.Proofs.YthkmeodnlidpfaaDoor
