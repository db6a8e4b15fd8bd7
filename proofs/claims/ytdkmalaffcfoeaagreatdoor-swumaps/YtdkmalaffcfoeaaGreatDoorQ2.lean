/-
  The walks of package fp2: sums and products.
  The walks of package fp2: signs and roots; the reference's elements.
-/
import Derived.Test.YtdkmalaffcfoeaaGreatDoorX9
import Derived.Test.YtdkmalaffcfoeaaGreatDoorX5
import Derived.Test.YtdkmalaffcfoeaaGreatDoorX3
import Derived.Test.YtdkmalaffcfoeaaGreatDoorQ1
namespace Go.Proofs.YtdkmalaffcfoeaaGreatDoor
open Go.RowKit
set_option maxRecDepth 100000
set_option maxHeartbeats 1000000
attribute [local simp] fe_len nm_len AS_len SS_len MONT_len RM_len FRs_len BYs_len by48_len PLl TWOl ONEl N1l IVPl HFPl RTPl FL_len SP_len fe2_len SP2_len FM_len

theorem ent25 : Enters Tryz.prog 25 := fun _ _ => by kernel_rfl
theorem ent72 : Enters Tryz.prog 72 := fun _ _ => by kernel_rfl
theorem ent13 : Enters Tryz.prog 13 := fun _ _ => by kernel_rfl
theorem ent86 : Enters Tryz.prog 86 := fun _ _ => by kernel_rfl
theorem ent15 : Enters Tryz.prog 15 := fun _ _ => by kernel_rfl
theorem ent77 : Enters Tryz.prog 77 := fun _ _ => by kernel_rfl
theorem ent34 : Enters Tryz.prog 34 := fun _ _ => by kernel_rfl
theorem ent33 : Enters Tryz.prog 33 := fun _ _ => by kernel_rfl
theorem ent78 : Enters Tryz.prog 78 := fun _ _ => by kernel_rfl
theorem ent31 : Enters Tryz.prog 31 := fun _ _ => by kernel_rfl
theorem ent79 : Enters Tryz.prog 79 := fun _ _ => by kernel_rfl
theorem ent32 : Enters Tryz.prog 32 := fun _ _ => by kernel_rfl
theorem ent81 : Enters Tryz.prog 81 := fun _ _ => by kernel_rfl
theorem ent83 : Enters Tryz.prog 83 := fun _ _ => by kernel_rfl
theorem ent14 : Enters Tryz.prog 14 := fun _ _ => by kernel_rfl
theorem ent84 : Enters Tryz.prog 84 := fun _ _ => by kernel_rfl
theorem ent28 : Enters Tryz.prog 28 := fun _ _ => by kernel_rfl
theorem ent41 : Enters Tryz.prog 41 := fun _ _ => by kernel_rfl
theorem ent40 : Enters Tryz.prog 40 := fun _ _ => by kernel_rfl
theorem ent107 : Enters Tryz.prog 107 := fun _ _ => by kernel_rfl
theorem ent45 : Enters Tryz.prog 45 := fun _ _ => by kernel_rfl
theorem ent11 : Enters Tryz.prog 11 := fun _ _ => by kernel_rfl
theorem ent90 : Enters Tryz.prog 90 := fun _ _ => by kernel_rfl
theorem ent44 : Enters Tryz.prog 44 := fun _ _ => by kernel_rfl
theorem ent93 : Enters Tryz.prog 93 := fun _ _ => by kernel_rfl
theorem ent47 : Enters Tryz.prog 47 := fun _ _ => by kernel_rfl
theorem ent46 : Enters Tryz.prog 46 := fun _ _ => by kernel_rfl
/-- An element of fp2 as a value. -/
abbrev EV2 (x : W2) : Value := .agg ((fe x.1 ++ fe x.2).map U64).toArray
theorem zf27 (w : World) : (zeroValue 27).run Tryz.prog w = .ok (.agg ((fe 0).map U64).toArray) w := by rw [fe_0]; exact (Tryz.zeroValue27 w).trans (by rfl)
theorem zv29 (w : World) : (zeroValue 29).run Tryz.prog w = .ok (.agg ((fe 0 ++ fe 0).map U64).toArray) w := by rw [fe_0]; exact (Tryz.zeroValue29 w).trans (by rfl)
theorem two29 : Two Tryz.prog 29 ⟨ "C0", 27, 0, false, "", "", 0⟩ ⟨ "C1", 27, 6, false, "", "", 48⟩ 6 6 (fe 0) (fe 0) := ⟨Tryz.underlying29, rfl, rfl, Tryz.sizeOf27, Tryz.sizeOf27, zv29, fe_len 0, fe_len 0⟩
theorem zv37 (w : World) : (zeroValue 37).run Tryz.prog w = .ok (.agg ((fe 0 ++ fe 0).map U64).toArray) w := by rw [fe_0]; exact (Tryz.zeroValue37 w).trans (by rfl)
theorem two37 : Two Tryz.prog 37 ⟨ "A", 35, 0, false, "", "", 0⟩ ⟨ "B", 35, 6, false, "", "", 48⟩ 6 6 (fe 0) (fe 0) := ⟨Tryz.underlying37, rfl, rfl, Tryz.sizeOf35, Tryz.sizeOf35, zv37, fe_len 0, fe_len 0⟩
theorem eqf37 : EqF Tryz.prog 37 12 4 :=
  have h : EqF Tryz.prog 35 6 3 := eqf_one Tryz.underlying35 rfl (by decide) (by kernel_rfl) Tryz.isAgg33 Tryz.sizeOf33 (eqf_arr Tryz.underlying33 Tryz.underlying24 Tryz.sizeOf24 Tryz.isAgg24)
  eqf_two Tryz.underlying37 rfl rfl (by decide) (by decide) (by kernel_rfl) Tryz.isAgg35 Tryz.sizeOf35 h Tryz.isAgg35 Tryz.sizeOf35 h
theorem eqg37 (op : BinOp) (x y : Operand) (xs ys : Array Value) (w : World) : (eqGuard op 37 x y (.agg xs) (.agg ys)).run Tryz.prog w = .ok () w := run_eqGuard_agg w op 37 x y xs ys (by kernel_rfl)
theorem eqv37 (xs ys : List (BitVec 64)) (h : xs.length = 12) (h' : ys.length = 12) (w : World) : (binOp .eql 37 (.agg (xs.map U64).toArray) (.agg (ys.map U64).toArray)).run Tryz.prog w = .ok (.bool (decide (xs = ys))) w := bin_eqf eqf37 (by decide) xs ys h h' w
theorem e2 {a b c d : Zp} (h1 : a = c) (h2 : b = d) : Ending.returned (.agg ((fe a ++ fe b).map U64).toArray) = .returned (.agg ((fe c ++ fe d).map U64).toArray) := by rw [h1, h2]
theorem rb {a b : Bool} (h : a = b) : Ending.returned (.bool a) = .returned (.bool b) := by rw [h]
def q3 : Sh (Zp × Zp × Zp) := q1.two (q1.two q1 1) 1
theorem pE {f : FuncId} {fn : Func} {c : Code} (T : Tb Tryz.prog Gt) (hf : Tryz.prog.funcs[f]? = some fn) (a : List S0) (v : S1) (vc : S1 × CB) (p : Pa) (h : xF T fn c a p = some vc) (hc : Ok vc.2) (e : vc.1 = v) (hb : fn.body = some c := by rfl) (hn : Nat.ble a.length fn.ntmps = true := by rfl) : Pure Tryz.prog Gt f (a.map (dn rid)) (dn1 rid v) := by rw [← e]; exact pure_S (v := vc.1) (cs := vc.2) T mixed gtS hf hb h hc hn rid
theorem el2 {a b c d : Zp} (h1 : a = c) (h2 : b = d) : (Sum.inl (Sum.inl [a, b]) : S1) = .inl (.inl [c, d]) := by rw [h1, h2]
theorem eb {a b : Bool} (h : a = b) : (Sum.inl (.inr (.inl a)) : S1) = .inl (.inr (.inl b)) := by rw [h]
theorem ei {a b : Int} (h : a = b) : (Sum.inl (.inr (.inr (.inl (I a)))) : S1) = .inl (.inr (.inr (.inl (I b)))) := by rw [h]
theorem wq1ag_q1ag_q1rd {f : Nat} {g : Zp → Zp → Zp} (en : Enters Tryz.prog f) (h : ∀ a b, Pure Tryz.prog Gt f [EV a, EV b] (EV (g a b))) : Snd Tryz.prog Gt f (c2 q1.ag q1.ag q1.rd g) := c2_ok q1.ag q1.ag q1.rd en h
def TO1 : Tb Tryz.prog Gt := TB.add (wq1ag_q1ag_q1rd (g := fun x y => x * y) ent74 fmul_pure)
theorem wagU_q1rd {f : Nat} {g : BitVec 64 → Zp} (en : Enters Tryz.prog f) (h : ∀ a, Pure Tryz.prog Gt f [U64 a] (EV (g a))) : Snd Tryz.prog Gt f (c1 agU q1.rd g) := c1_ok agU q1.rd en h
def TO2 : Tb Tryz.prog Gt := TO1.add (wagU_q1rd (g := fun n => zp n.toNat) ent30 fof_pure)
theorem wq1ag_q1ag_rdB {f : Nat} {g : Zp → Zp → Bool} (en : Enters Tryz.prog f) (h : ∀ a b, Pure Tryz.prog Gt f [EV a, EV b] (.bool (g a b))) : Snd Tryz.prog Gt f (c2 q1.ag q1.ag rdB g) := c2_ok q1.ag q1.ag rdB en h
def TO3 : Tb Tryz.prog Gt := TO2.add (wq1ag_q1ag_rdB (g := fun x y => decide (x = y)) ent110 fequal_pure)
theorem wq1ag_rdB {f : Nat} {g : Zp → Bool} (en : Enters Tryz.prog f) (h : ∀ a, Pure Tryz.prog Gt f [EV a] (.bool (g a))) : Snd Tryz.prog Gt f (c1 q1.ag rdB g) := c1_ok q1.ag rdB en h
def TO4 : Tb Tryz.prog Gt := TO3.add (wq1ag_rdB (g := fun x => decide (x = 0)) ent53 fisZero_pure)
def TO5 : Tb Tryz.prog Gt := TO4.add (wq1ag_q1ag_q1rd (g := fun x y => x + y) ent75 fadd_pure)
def TO6 : Tb Tryz.prog Gt := TO5.add (wq1ag_q1ag_q1rd (g := fun x y => x - y) ent85 fsub_pure)
theorem wq1ag_q1rd {f : Nat} {g : Zp → Zp} (en : Enters Tryz.prog f) (h : ∀ a, Pure Tryz.prog Gt f [EV a] (EV (g a))) : Snd Tryz.prog Gt f (c1 q1.ag q1.rd g) := c1_ok q1.ag q1.rd en h
def TO7 : Tb Tryz.prog Gt := TO6.add (wq1ag_q1rd (g := fun x => -x) ent55 fneg_pure)
def TO8 : Tb Tryz.prog Gt := TO7.add (wq1ag_q1rd (g := fun x => x * x) ent114 fsquare_pure)
theorem wagL1_q1rd {f : Nat} {g : Zp} (en : Enters Tryz.prog f) (h : Pure Tryz.prog Gt f [U64 1#64] (EV g)) : Snd Tryz.prog Gt f (c1 (agL 1) q1.rd (fun _ => g)) := c1_ok (agL 1) q1.rd en (fun _ => h)
def TO9 : Tb Tryz.prog Gt := TO8.add (wagL1_q1rd (g := 1) ent30 fof1_pure)
def TO10 : Tb Tryz.prog Gt := TO9.add (wq1ag_q1rd (g := fun x => x ^ (PP - 2)) ent80 finv_pure)
def TO11 : Tb Tryz.prog Gt := TO10.add (wq1ag_rdB (g := fun x => decide (x.val % 2 = 1)) ent54 fodd_pure)
def TO12 : Tb Tryz.prog Gt := TO11.add (wq1ag_rdB (g := fun x => decide (hf < x.val)) ent116 flarge_pure)
theorem wq1ag_q1rdB {f : Nat} {g : Zp → Zp} {k : Zp → Bool} (en : Enters Tryz.prog f) (h : ∀ a, Pure Tryz.prog Gt f [EV a] (.tuple #[EV (g a), .bool (k a)])) : Snd Tryz.prog Gt f (c1 q1.ag q1.rdB (fun a => ((g a), (k a)))) := c1_ok q1.ag q1.rdB en h
def TO13 : Tb Tryz.prog Gt := TO12.add (wq1ag_q1rdB (g := SQ) (k := fun x => decide (SQr x * SQr x = x)) ent82 fsqrt_pure)
def TO14 : Tb Tryz.prog Gt := TO13.add (wq1ag_q1ag_q1rd (g := fun x y => x * y) ent49 rmulE)
def TO15 : Tb Tryz.prog Gt := TO14.add (wq1ag_q1ag_q1rd (g := fun x y => x + y) ent52 raddE)
def TO16 : Tb Tryz.prog Gt := TO15.add (wq1ag_q1ag_q1rd (g := fun x y => x - y) ent51 rsubE)
def TO17 : Tb Tryz.prog Gt := TO16.add (wq1ag_q1rd (g := fun x => -x) ent69 rnegE)
def TO18 : Tb Tryz.prog Gt := TO17.add (wq1ag_q1rd (g := fun x => x ^ (PP - 2)) ent91 rinvE)
def TO19 : Tb Tryz.prog Gt := TO18.add (wq1ag_rdB (g := fun x => decide (x = 0)) ent50 risZeroE)
def TO20 : Tb Tryz.prog Gt := TO19.add (wq1ag_rdB (g := fun x => decide (x.val % 2 = 1)) ent94 roddE)
def TO21 : Tb Tryz.prog Gt := TO20.add (wq1ag_rdB (g := fun x => decide (hf < x.val)) ent119 rlargeE)
def TO22 : Tb Tryz.prog Gt := TO21.add (wagU_q1rd (g := fun n => zp n.toNat) ent68 rsmallE)
def TO23 : Tb Tryz.prog Gt := TO22.add (wq1ag_q1rdB (g := SQ) (k := fun x => decide (SQr x * SQr x = x)) ent92 rsqrtE)
theorem e2one  : Pure Tryz.prog Gt 25 [] (EV2 on2) := pE TO23 Tryz.func25 [] (.inl (.inl [on2.1, on2.2])) (.inl (.inl [1, 0]), []) [] (by kernel_rfl) ok_nil rfl
theorem wq2rd {f : Nat} {g : W2} (en : Enters Tryz.prog f) (h : Pure Tryz.prog Gt f [] (EV2 g)) : Snd Tryz.prog Gt f (c0 q2.rd g) := c0_ok q2.rd en h
def TO24 : Tb Tryz.prog Gt := TO23.add (wq2rd (g := on2) ent25 e2one)
theorem e2equal (x y : W2) : Pure Tryz.prog Gt 72 [EV2 x, EV2 y] (.bool (decide (x = y))) := by
  by_cases h : x.1 = y.1
  · exact pE TO24 Tryz.func72 [.inl [x.1, x.2], .inl [y.1, y.2]] (.inl (.inr (.inl (decide (x = y))))) (.inl (.inr (.inl (decide (x.2 = y.2)))), [(decide (x.1 = y.1), true)]) [some true] (by kernel_rfl) (ok_cons (decide_eq_true h) ok_nil) (eb (dec2_t h))
  · exact pE TO24 Tryz.func72 [.inl [x.1, x.2], .inl [y.1, y.2]] (.inl (.inr (.inl (decide (x = y))))) (.inl (.inr (.inl false)), [(decide (x.1 = y.1), false)]) [some false] (by kernel_rfl) (ok_cons (decide_eq_false h) ok_nil) (eb (dec2_f h))
theorem wq2ag_q2ag_rdB {f : Nat} {g : W2 → W2 → Bool} (en : Enters Tryz.prog f) (h : ∀ a b, Pure Tryz.prog Gt f [EV2 a, EV2 b] (.bool (g a b))) : Snd Tryz.prog Gt f (c2 q2.ag q2.ag rdB g) := c2_ok q2.ag q2.ag rdB en h
def TO25 : Tb Tryz.prog Gt := TO24.add (wq2ag_q2ag_rdB (g := fun x y => decide (x = y)) ent72 e2equal)
theorem e2isZero (x : W2) : Pure Tryz.prog Gt 13 [EV2 x] (.bool (decide (x = ze2))) := by
  by_cases h : x.1 = 0
  · exact pE TO25 Tryz.func13 [.inl [x.1, x.2]] (.inl (.inr (.inl (decide (x = ze2))))) (.inl (.inr (.inl (decide (x.2 = 0)))), [(decide (x.1 = 0), true)]) [some true] (by kernel_rfl) (ok_cons (decide_eq_true h) ok_nil) (eb (dec2_t (y := ze2) h))
  · exact pE TO25 Tryz.func13 [.inl [x.1, x.2]] (.inl (.inr (.inl (decide (x = ze2))))) (.inl (.inr (.inl false)), [(decide (x.1 = 0), false)]) [some false] (by kernel_rfl) (ok_cons (decide_eq_false h) ok_nil) (eb (dec2_f (y := ze2) h))
theorem wq2ag_rdB {f : Nat} {g : W2 → Bool} (en : Enters Tryz.prog f) (h : ∀ a, Pure Tryz.prog Gt f [EV2 a] (.bool (g a))) : Snd Tryz.prog Gt f (c1 q2.ag rdB g) := c1_ok q2.ag rdB en h
def TO26 : Tb Tryz.prog Gt := TO25.add (wq2ag_rdB (g := fun x => decide (x = ze2)) ent13 e2isZero)
theorem e2add (x y : W2) : Pure Tryz.prog Gt 86 [EV2 x, EV2 y] (EV2 (ad2 x y)) := pE TO26 Tryz.func86 [.inl [x.1, x.2], .inl [y.1, y.2]] (.inl (.inl [(ad2 x y).1, (ad2 x y).2])) (.inl (.inl [x.1 + y.1, x.2 + y.2]), []) [] (by kernel_rfl) ok_nil rfl
theorem wq2ag_q2ag_q2rd {f : Nat} {g : W2 → W2 → W2} (en : Enters Tryz.prog f) (h : ∀ a b, Pure Tryz.prog Gt f [EV2 a, EV2 b] (EV2 (g a b))) : Snd Tryz.prog Gt f (c2 q2.ag q2.ag q2.rd g) := c2_ok q2.ag q2.ag q2.rd en h
def TO27 : Tb Tryz.prog Gt := TO26.add (wq2ag_q2ag_q2rd (g := ad2) ent86 e2add)
theorem e2neg (x : W2) : Pure Tryz.prog Gt 15 [EV2 x] (EV2 (ng2 x)) := pE TO27 Tryz.func15 [.inl [x.1, x.2]] (.inl (.inl [(ng2 x).1, (ng2 x).2])) (.inl (.inl [-x.1, -x.2]), []) [] (by kernel_rfl) ok_nil rfl
theorem wq2ag_q2rd {f : Nat} {g : W2 → W2} (en : Enters Tryz.prog f) (h : ∀ a, Pure Tryz.prog Gt f [EV2 a] (EV2 (g a))) : Snd Tryz.prog Gt f (c1 q2.ag q2.rd g) := c1_ok q2.ag q2.rd en h
def TO28 : Tb Tryz.prog Gt := TO27.add (wq2ag_q2rd (g := ng2) ent15 e2neg)
theorem e2conj (x : W2) : Pure Tryz.prog Gt 77 [EV2 x] (EV2 (cj2 x)) := pE TO28 Tryz.func77 [.inl [x.1, x.2]] (.inl (.inl [(cj2 x).1, (cj2 x).2])) (.inl (.inl [x.1, -x.2]), []) [] (by kernel_rfl) ok_nil rfl
def TO29 : Tb Tryz.prog Gt := TO28.add (wq2ag_q2rd (g := cj2) ent77 e2conj)
theorem e2mul (x y : W2) : Pure Tryz.prog Gt 34 [EV2 x, EV2 y] (EV2 (ml2 x y)) := pE TO29 Tryz.func34 [.inl [x.1, x.2], .inl [y.1, y.2]] (.inl (.inl [(ml2 x y).1, (ml2 x y).2])) (let t0 := (x.1 + x.2) * (y.1 + y.2); let t1 := (x.1 * y.1) - (x.2 * y.2); let t2 := t0 - (x.1 * y.1); let t3 := t2 - (x.2 * y.2); (.inl (.inl [t1, t3]), [])) [] (by kernel_rfl) ok_nil (el2 (by first | (simp only [ml2]; done) | (simp only [ml2]; grind)) (by first | (simp only [ml2]; done) | (simp only [ml2]; grind)))
def TO30 : Tb Tryz.prog Gt := TO29.add (wq2ag_q2ag_q2rd (g := ml2) ent34 e2mul)
theorem e2square (x : W2) : Pure Tryz.prog Gt 33 [EV2 x] (EV2 (ml2 x x)) := pE TO30 Tryz.func33 [.inl [x.1, x.2]] (.inl (.inl [(ml2 x x).1, (ml2 x x).2])) (let t0 := (x.1 + x.2) * (x.1 - x.2); let t1 := (x.1 * x.2) + (x.1 * x.2); (.inl (.inl [t0, t1]), [])) [] (by kernel_rfl) ok_nil (el2 (by first | (simp only [ml2]; done) | (simp only [ml2]; grind)) (by first | (simp only [ml2]; done) | (simp only [ml2]; grind)))
def TO31 : Tb Tryz.prog Gt := TO30.add (wq2ag_q2rd (g := fun x => ml2 x x) ent33 e2square)
theorem e2scale (x : W2) (c : Zp) : Pure Tryz.prog Gt 78 [EV2 x, EV c] (EV2 (sc2 x c)) := pE TO31 Tryz.func78 [.inl [x.1, x.2], .inl [c]] (.inl (.inl [(sc2 x c).1, (sc2 x c).2])) (.inl (.inl [x.1 * c, x.2 * c]), []) [] (by kernel_rfl) ok_nil rfl
theorem wq2ag_q1ag_q2rd {f : Nat} {g : W2 → Zp → W2} (en : Enters Tryz.prog f) (h : ∀ a b, Pure Tryz.prog Gt f [EV2 a, EV b] (EV2 (g a b))) : Snd Tryz.prog Gt f (c2 q2.ag q1.ag q2.rd g) := c2_ok q2.ag q1.ag q2.rd en h
def TO32 : Tb Tryz.prog Gt := TO31.add (wq2ag_q1ag_q2rd (g := sc2) ent78 e2scale)
theorem e2norm (x : W2) : Pure Tryz.prog Gt 79 [EV2 x] (EV (nm2 x)) := pE TO32 Tryz.func79 [.inl [x.1, x.2]] (.inl (.inl [nm2 x])) (let t0 := (x.1 * x.1) + (x.2 * x.2); (.inl (.inl [t0]), [])) [] (by kernel_rfl) ok_nil rfl
theorem wq2ag_q1rd {f : Nat} {g : W2 → Zp} (en : Enters Tryz.prog f) (h : ∀ a, Pure Tryz.prog Gt f [EV2 a] (EV (g a))) : Snd Tryz.prog Gt f (c1 q2.ag q1.rd g) := c1_ok q2.ag q1.rd en h
def TO33 : Tb Tryz.prog Gt := TO32.add (wq2ag_q1rd (g := nm2) ent79 e2norm)
theorem e2inv (x : W2) : Pure Tryz.prog Gt 31 [EV2 x] (EV2 (iv2 x)) := pE TO33 Tryz.func31 [.inl [x.1, x.2]] (.inl (.inl [(iv2 x).1, (iv2 x).2])) (let t0 := cj2 x; let t1 := (nm2 x) ^ (PP - 2); let t2 := sc2 (t0.1, t0.2) t1; (.inl (.inl [t2.1, t2.2]), [])) [] (by kernel_rfl) ok_nil rfl
def TO34 : Tb Tryz.prog Gt := TO33.add (wq2ag_q2rd (g := iv2) ent31 e2inv)
end Go.Proofs.YtdkmalaffcfoeaaGreatDoor

namespace Go.Proofs.YtdkmalaffcfoeaaGreatDoor
open Go.RowKit
set_option maxRecDepth 100000
set_option maxHeartbeats 1000000
attribute [local simp] fe_len nm_len AS_len SS_len MONT_len RM_len FRs_len BYs_len by48_len PLl TWOl ONEl N1l IVPl HFPl RTPl FL_len SP_len fe2_len SP2_len FM_len

theorem LG2_t {x : W2} (h : x.2 = 0) : decide (hf < x.1.val) = LG2 x := by rw [LG2, if_pos h]
theorem LG2_n {x : W2} (h : ¬ x.2 = 0) : decide (hf < x.2.val) = LG2 x := by rw [LG2, if_neg h]
theorem LG2_a {x : W2} (h : hf < x.2.val) : true = LG2 x := by
  have h0 : ¬ x.2 = 0 := fun e => by rw [e] at h; exact Nat.not_lt_zero _ h
  rw [← LG2_n h0, decide_eq_true h]
theorem LG2_c {x : W2} (h : ¬ hf < x.2.val) (h0 : ¬ x.2 = 0) : false = LG2 x := by rw [← LG2_n h0, decide_eq_false h]
theorem SG2_a {x : W2} (h : x.1.val % 2 = 1) : 1 = SG2 x := by rw [SG2, if_pos h]
theorem SG2_b {x : W2} (h : ¬ x.1.val % 2 = 1) (h0 : x.1 = 0) (h2 : x.2.val % 2 = 1) : 1 = SG2 x := by rw [SG2, if_neg h, if_pos h0, if_pos h2]
theorem SG2_c {x : W2} (h : ¬ x.1.val % 2 = 1) (h0 : x.1 = 0) (h2 : ¬ x.2.val % 2 = 1) : 0 = SG2 x := by rw [SG2, if_neg h, if_pos h0, if_neg h2]
theorem SG2_d {x : W2} (h : ¬ x.1.val % 2 = 1) (h0 : ¬ x.1 = 0) : 0 = SG2 x := by rw [SG2, if_neg h, if_neg h0]
theorem rsmall1 : Pure Tryz.prog Gt 68 [U64 1#64] (EV 1) := rsmallE 1#64
theorem rsmall2 : Pure Tryz.prog Gt 68 [U64 2#64] (EV (zp 2)) := rsmallE 2#64
def TO35 : Tb Tryz.prog Gt := TO34.add (wagL1_q1rd (g := 1) ent68 rsmall1)
theorem wagL2_q1rd {f : Nat} {g : Zp} (en : Enters Tryz.prog f) (h : Pure Tryz.prog Gt f [U64 2#64] (EV g)) : Snd Tryz.prog Gt f (c1 (agL 2) q1.rd (fun _ => g)) := c1_ok (agL 2) q1.rd en (fun _ => h)
def TO36 : Tb Tryz.prog Gt := TO35.add (wagL2_q1rd (g := zp 2) ent68 rsmall2)
theorem e2large (x : W2) : Pure Tryz.prog Gt 84 [EV2 x] (.bool (LG2 x)) := by
  by_cases h : hf < x.2.val
  · exact pE TO36 Tryz.func84 [.inl [x.1, x.2]] (.inl (.inr (.inl (LG2 x)))) (.inl (.inr (.inl true)), [(decide (hf < x.2.val), true)]) [some true] (by kernel_rfl) (ok_cons (decide_eq_true h) ok_nil) (eb (LG2_a h))
  · by_cases h0 : x.2 = 0
    · exact pE TO36 Tryz.func84 [.inl [x.1, x.2]] (.inl (.inr (.inl (LG2 x)))) (.inl (.inr (.inl (decide (hf < x.1.val)))), [(decide (hf < x.2.val), false), (decide (x.2 = 0), true)]) [some false, some true] (by kernel_rfl) (ok_cons (decide_eq_false h) (ok_cons (decide_eq_true h0) ok_nil)) (eb (LG2_t h0))
    · exact pE TO36 Tryz.func84 [.inl [x.1, x.2]] (.inl (.inr (.inl (LG2 x)))) (.inl (.inr (.inl false)), [(decide (hf < x.2.val), false), (decide (x.2 = 0), false)]) [some false, some false] (by kernel_rfl) (ok_cons (decide_eq_false h) (ok_cons (decide_eq_false h0) ok_nil)) (eb (LG2_c h h0))
def TO37 : Tb Tryz.prog Gt := TO36.add (wq2ag_rdB (g := LG2) ent84 e2large)
theorem e2sgn (x : W2) : Pure Tryz.prog Gt 14 [EV2 x] (I (SG2 x)) := by
  by_cases h : x.1.val % 2 = 1
  · exact pE TO37 Tryz.func14 [.inl [x.1, x.2]] (.inl (.inr (.inr (.inl (I (SG2 x)))))) (.inl (.inr (.inr (.inl (I 1)))), [(decide (x.1.val % 2 = 1), true)]) [some true] (by kernel_rfl) (ok_cons (decide_eq_true h) ok_nil) (ei (SG2_a h))
  · by_cases h0 : x.1 = 0
    · by_cases h2 : x.2.val % 2 = 1
      · exact pE TO37 Tryz.func14 [.inl [x.1, x.2]] (.inl (.inr (.inr (.inl (I (SG2 x)))))) (.inl (.inr (.inr (.inl (I 1)))), [(decide (x.1.val % 2 = 1), false), (decide (x.1 = 0), true), (decide (x.2.val % 2 = 1), true)]) [some false, some true, some true] (by kernel_rfl) (ok_cons (decide_eq_false h) (ok_cons (decide_eq_true h0) (ok_cons (decide_eq_true h2) ok_nil))) (ei (SG2_b h h0 h2))
      · exact pE TO37 Tryz.func14 [.inl [x.1, x.2]] (.inl (.inr (.inr (.inl (I (SG2 x)))))) (.inl (.inr (.inr (.inl (I 0)))), [(decide (x.1.val % 2 = 1), false), (decide (x.1 = 0), true), (decide (x.2.val % 2 = 1), false)]) [some false, some true, some false] (by kernel_rfl) (ok_cons (decide_eq_false h) (ok_cons (decide_eq_true h0) (ok_cons (decide_eq_false h2) ok_nil))) (ei (SG2_c h h0 h2))
    · exact pE TO37 Tryz.func14 [.inl [x.1, x.2]] (.inl (.inr (.inr (.inl (I (SG2 x)))))) (.inl (.inr (.inr (.inl (I 0)))), [(decide (x.1.val % 2 = 1), false), (decide (x.1 = 0), false)]) [some false, some false] (by kernel_rfl) (ok_cons (decide_eq_false h) (ok_cons (decide_eq_false h0) ok_nil)) (ei (SG2_d h h0))
theorem wq2ag_rdV {f : Nat} {g : W2 → Value} (en : Enters Tryz.prog f) (h : ∀ a, Pure Tryz.prog Gt f [EV2 a] ((g a))) : Snd Tryz.prog Gt f (c1 q2.ag rdV g) := c1_ok q2.ag rdV en h
def TO38 : Tb Tryz.prog Gt := TO37.add (wq2ag_rdV (g := fun x => I (SG2 x)) ent14 e2sgn)
theorem r5sgn (x : W2) : Pure Tryz.prog Gt 47 [EV2 x] (I (SG2 x)) := by
  by_cases h : x.1.val % 2 = 1
  · exact pE TO38 Tryz.func47 [.inl [x.1, x.2]] (.inl (.inr (.inr (.inl (I (SG2 x)))))) (.inl (.inr (.inr (.inl (I 1)))), [(decide (x.1.val % 2 = 1), true)]) [some true] (by kernel_rfl) (ok_cons (decide_eq_true h) ok_nil) (ei (SG2_a h))
  · by_cases h0 : x.1 = 0
    · by_cases h2 : x.2.val % 2 = 1
      · exact pE TO38 Tryz.func47 [.inl [x.1, x.2]] (.inl (.inr (.inr (.inl (I (SG2 x)))))) (.inl (.inr (.inr (.inl (I 1)))), [(decide (x.1.val % 2 = 1), false), (decide (x.1 = 0), true), (decide (x.2.val % 2 = 1), true)]) [some false, some true, some true] (by kernel_rfl) (ok_cons (decide_eq_false h) (ok_cons (decide_eq_true h0) (ok_cons (decide_eq_true h2) ok_nil))) (ei (SG2_b h h0 h2))
      · exact pE TO38 Tryz.func47 [.inl [x.1, x.2]] (.inl (.inr (.inr (.inl (I (SG2 x)))))) (.inl (.inr (.inr (.inl (I 0)))), [(decide (x.1.val % 2 = 1), false), (decide (x.1 = 0), true), (decide (x.2.val % 2 = 1), false)]) [some false, some true, some false] (by kernel_rfl) (ok_cons (decide_eq_false h) (ok_cons (decide_eq_true h0) (ok_cons (decide_eq_false h2) ok_nil))) (ei (SG2_c h h0 h2))
    · exact pE TO38 Tryz.func47 [.inl [x.1, x.2]] (.inl (.inr (.inr (.inl (I (SG2 x)))))) (.inl (.inr (.inr (.inl (I 0)))), [(decide (x.1.val % 2 = 1), false), (decide (x.1 = 0), false)]) [some false, some false] (by kernel_rfl) (ok_cons (decide_eq_false h) (ok_cons (decide_eq_false h0) ok_nil)) (ei (SG2_d h h0))
def TO39 : Tb Tryz.prog Gt := TO38.add (wq2ag_rdV (g := fun x => I (SG2 x)) ent47 r5sgn)
theorem r5one  : Pure Tryz.prog Gt 28 [] (EV2 on2) := pE TO39 Tryz.func28 [] (.inl (.inl [on2.1, on2.2])) (.inl (.inl [1, 0]), []) [] (by kernel_rfl) ok_nil rfl
def TO40 : Tb Tryz.prog Gt := TO39.add (wq2rd (g := on2) ent28 r5one)
theorem r5isZero (x : W2) : Pure Tryz.prog Gt 41 [EV2 x] (.bool (decide (x = ze2))) := by
  by_cases h : x.1 = 0
  · exact pE TO40 Tryz.func41 [.inl [x.1, x.2]] (.inl (.inr (.inl (decide (x = ze2))))) (.inl (.inr (.inl (decide (x.2 = 0)))), [(decide (x.1 = 0), true)]) [some true] (by kernel_rfl) (ok_cons (decide_eq_true h) ok_nil) (eb (dec2_t (y := ze2) h))
  · exact pE TO40 Tryz.func41 [.inl [x.1, x.2]] (.inl (.inr (.inl (decide (x = ze2))))) (.inl (.inr (.inl false)), [(decide (x.1 = 0), false)]) [some false] (by kernel_rfl) (ok_cons (decide_eq_false h) ok_nil) (eb (dec2_f (y := ze2) h))
def TO41 : Tb Tryz.prog Gt := TO40.add (wq2ag_rdB (g := fun x => decide (x = ze2)) ent41 r5isZero)
theorem r5add (x y : W2) : Pure Tryz.prog Gt 40 [EV2 x, EV2 y] (EV2 (ad2 x y)) := pE TO41 Tryz.func40 [.inl [x.1, x.2], .inl [y.1, y.2]] (.inl (.inl [(ad2 x y).1, (ad2 x y).2])) (.inl (.inl [x.1 + y.1, x.2 + y.2]), []) [] (by kernel_rfl) ok_nil rfl
def TO42 : Tb Tryz.prog Gt := TO41.add (wq2ag_q2ag_q2rd (g := ad2) ent40 r5add)
theorem r5sub (x y : W2) : Pure Tryz.prog Gt 107 [EV2 x, EV2 y] (EV2 (sb2 x y)) := pE TO42 Tryz.func107 [.inl [x.1, x.2], .inl [y.1, y.2]] (.inl (.inl [(sb2 x y).1, (sb2 x y).2])) (.inl (.inl [x.1 - y.1, x.2 - y.2]), []) [] (by kernel_rfl) ok_nil rfl
def TO43 : Tb Tryz.prog Gt := TO42.add (wq2ag_q2ag_q2rd (g := sb2) ent107 r5sub)
theorem r5neg (x : W2) : Pure Tryz.prog Gt 45 [EV2 x] (EV2 (ng2 x)) := pE TO43 Tryz.func45 [.inl [x.1, x.2]] (.inl (.inl [(ng2 x).1, (ng2 x).2])) (.inl (.inl [-x.1, -x.2]), []) [] (by kernel_rfl) ok_nil rfl
def TO44 : Tb Tryz.prog Gt := TO43.add (wq2ag_q2rd (g := ng2) ent45 r5neg)
theorem r5mul (x y : W2) : Pure Tryz.prog Gt 11 [EV2 x, EV2 y] (EV2 (ml2 x y)) := by
  by_cases h : x.2 = 0
  · by_cases h2 : y.2 = 0
    · exact pE TO44 Tryz.func11 [.inl [x.1, x.2], .inl [y.1, y.2]] (.inl (.inl [(ml2 x y).1, (ml2 x y).2])) (.inl (.inl [x.1 * y.1, 0]), [(decide (x.2 = 0), true), (decide (y.2 = 0), true)]) [some true, some true] (by kernel_rfl) (ok_cons (decide_eq_true h) (ok_cons (decide_eq_true h2) ok_nil)) (el2 (by simp only [ml2]; rw [h]; grind) (by simp only [ml2]; rw [h, h2, z_m0, z_0m, z_00]))
    · exact pE TO44 Tryz.func11 [.inl [x.1, x.2], .inl [y.1, y.2]] (.inl (.inl [(ml2 x y).1, (ml2 x y).2])) (let t0 := (x.1 * y.1) - (x.2 * y.2); let t1 := (x.1 + x.2) * (y.1 + y.2); let t2 := t1 - (x.1 * y.1); let t3 := t2 - (x.2 * y.2); (.inl (.inl [t0, t3]), [(decide (x.2 = 0), true), (decide (y.2 = 0), false)])) [some true, some false] (by kernel_rfl) (ok_cons (decide_eq_true h) (ok_cons (decide_eq_false h2) ok_nil)) (el2 (by first | (simp only [ml2]; done) | (simp only [ml2]; grind)) (by first | (simp only [ml2]; done) | (simp only [ml2]; grind)))
  · exact pE TO44 Tryz.func11 [.inl [x.1, x.2], .inl [y.1, y.2]] (.inl (.inl [(ml2 x y).1, (ml2 x y).2])) (let t0 := (x.1 * y.1) - (x.2 * y.2); let t1 := (x.1 + x.2) * (y.1 + y.2); let t2 := t1 - (x.1 * y.1); let t3 := t2 - (x.2 * y.2); (.inl (.inl [t0, t3]), [(decide (x.2 = 0), false)])) [some false] (by kernel_rfl) (ok_cons (decide_eq_false h) ok_nil) (el2 (by first | (simp only [ml2]; done) | (simp only [ml2]; grind)) (by first | (simp only [ml2]; done) | (simp only [ml2]; grind)))
def TO45 : Tb Tryz.prog Gt := TO44.add (wq2ag_q2ag_q2rd (g := ml2) ent11 r5mul)
theorem r5norm (x : W2) : Pure Tryz.prog Gt 90 [EV2 x] (EV (nm2 x)) := pE TO45 Tryz.func90 [.inl [x.1, x.2]] (.inl (.inl [nm2 x])) (let t0 := (x.1 * x.1) + (x.2 * x.2); (.inl (.inl [t0]), [])) [] (by kernel_rfl) ok_nil rfl
def TO46 : Tb Tryz.prog Gt := TO45.add (wq2ag_q1rd (g := nm2) ent90 r5norm)
theorem r5inv (x : W2) : Pure Tryz.prog Gt 44 [EV2 x] (EV2 (iv2 x)) := pE TO46 Tryz.func44 [.inl [x.1, x.2]] (.inl (.inl [(iv2 x).1, (iv2 x).2])) (let t0 := (nm2 x) ^ (PP - 2); (.inl (.inl [x.1 * t0, (-x.2) * t0]), [])) [] (by kernel_rfl) ok_nil rfl
def TO47 : Tb Tryz.prog Gt := TO46.add (wq2ag_q2rd (g := iv2) ent44 r5inv)
theorem r5large (x : W2) : Pure Tryz.prog Gt 93 [EV2 x] (.bool (LG2 x)) := by
  by_cases h : x.2 = 0
  · exact pE TO47 Tryz.func93 [.inl [x.1, x.2]] (.inl (.inr (.inl (LG2 x)))) (.inl (.inr (.inl (decide (hf < x.1.val)))), [(decide (x.2 = 0), true)]) [some true] (by kernel_rfl) (ok_cons (decide_eq_true h) ok_nil) (eb (LG2_t h))
  · exact pE TO47 Tryz.func93 [.inl [x.1, x.2]] (.inl (.inr (.inl (LG2 x)))) (.inl (.inr (.inl (decide (hf < x.2.val)))), [(decide (x.2 = 0), false)]) [some false] (by kernel_rfl) (ok_cons (decide_eq_false h) ok_nil) (eb (LG2_n h))
def TO48 : Tb Tryz.prog Gt := TO47.add (wq2ag_rdB (g := LG2) ent93 r5large)
theorem e2rootOfReal (c : Zp) : Pure Tryz.prog Gt 81 [EV c] (EV2 (RO c)) := by
  by_cases h : SQr c * SQr c = c
  · exact pE TO48 Tryz.func81 [.inl [c]] (.inl (.inl [(RO c).1, (RO c).2])) (.inl (.inl [SQ c, 0]), [(decide (SQr c * SQr c = c), true)]) [some true] (by kernel_rfl) (ok_cons (decide_eq_true h) ok_nil) (by rw [show RO c = (SQ c, 0) from if_pos h] <;> exact rfl)
  · exact pE TO48 Tryz.func81 [.inl [c]] (.inl (.inl [(RO c).1, (RO c).2])) (.inl (.inl [0, SQ (-c)]), [(decide (SQr c * SQr c = c), false)]) [some false] (by kernel_rfl) (ok_cons (decide_eq_false h) ok_nil) (by rw [show RO c = (0, SQ (-c)) from if_neg h] <;> exact rfl)
theorem wq1ag_q2rd {f : Nat} {g : Zp → W2} (en : Enters Tryz.prog f) (h : ∀ a, Pure Tryz.prog Gt f [EV a] (EV2 (g a))) : Snd Tryz.prog Gt f (c1 q1.ag q2.rd g) := c1_ok q1.ag q2.rd en h
def TO49 : Tb Tryz.prog Gt := TO48.add (wq1ag_q2rd (g := RO) ent81 e2rootOfReal)
theorem e2rootBy (x : W2) (n : Zp) : Pure Tryz.prog Gt 83 [EV2 x, EV n] (EV2 (RB x n)) := by
  by_cases h : SQr (RBs x n) * SQr (RBs x n) = RBs x n
  · exact pE TO49 Tryz.func83 [.inl [x.1, x.2], .inl [n]] (.inl (.inl [(RB x n).1, (RB x n).2])) (let t0 := (x.1 + n) + (x.1 + n); let t1 := (SQ t0) ^ (PP - 2); let t2 := (x.1 + n) * t1; (.inl (.inl [t2, x.2 * t1]), [(decide (SQr t0 * SQr t0 = t0), true)])) [some true] (by kernel_rfl) (ok_cons (decide_eq_true h) ok_nil) (by rw [show RB x n = _ from if_pos h] <;> exact rfl)
  · exact pE TO49 Tryz.func83 [.inl [x.1, x.2], .inl [n]] (.inl (.inl [(RB x n).1, (RB x n).2])) (let t0 := (x.1 + n) + (x.1 + n); let t1 := (SQ (-t0)) ^ (PP - 2); let t2 := (-(x.1 + n)) * t1; (.inl (.inl [x.2 * t1, t2]), [(decide (SQr t0 * SQr t0 = t0), false)])) [some false] (by kernel_rfl) (ok_cons (decide_eq_false h) ok_nil) (by rw [show RB x n = _ from if_neg h] <;> exact rfl)
def TO50 : Tb Tryz.prog Gt := TO49.add (wq2ag_q1ag_q2rd (g := RB) ent83 e2rootBy)
theorem eta2 {α : Type} (f : W2 → α) (x : W2) : f (x.1, x.2) = f x := rfl
theorem e2sqrtY (x r : W2) (hr : ml2 r r = x) (hl : LG2 r = false) : Pure Tryz.prog Gt 32 [EV2 x] (.tuple #[EV2 r, .bool true]) := by
  by_cases h : x.2 = 0
  · exact pE TO50 Tryz.func32 [.inl [x.1, x.2]] (.inr [.inl [r.1, r.2], .inr (.inl true)]) (let t0 := RO x.1; (.inr [.inl [t0.1, t0.2], .inr (.inl true)], [(decide (x.2 = 0), true)])) [some true] (by kernel_rfl) (ok_cons (decide_eq_true h) ok_nil) (by rw [← root_re hr hl h] <;> exact rfl)
  · by_cases hc : LG2 (RB x (SQ (nm2 x))) = true
    · exact pE TO50 Tryz.func32 [.inl [x.1, x.2]] (.inr [.inl [r.1, r.2], .inr (.inl true)]) (let t0 := RB x (SQ (nm2 x)); let t1 := ng2 (t0.1, t0.2); (.inr [.inl [t1.1, t1.2], .inr (.inl true)], [(decide (x.2 = 0), false), (decide (SQr (nm2 x) * SQr (nm2 x) = (nm2 x)), true), (LG2 (t0.1, t0.2), true)])) [some false, some true, some true] (by kernel_rfl) (ok_cons (decide_eq_false h) (ok_cons (decide_eq_true (nm2_sq hr)) (ok_cons ((eta2 LG2 (RB x (SQ (nm2 x)))).trans hc) ok_nil))) (by rw [← root_rb hr hl h, NL, if_pos hc, ← eta2 ng2 (RB x (SQ (nm2 x)))] <;> exact rfl)
    · exact pE TO50 Tryz.func32 [.inl [x.1, x.2]] (.inr [.inl [r.1, r.2], .inr (.inl true)]) (let t0 := RB x (SQ (nm2 x)); (.inr [.inl [t0.1, t0.2], .inr (.inl true)], [(decide (x.2 = 0), false), (decide (SQr (nm2 x) * SQr (nm2 x) = (nm2 x)), true), (LG2 (t0.1, t0.2), false)])) [some false, some true, some false] (by kernel_rfl) (ok_cons (decide_eq_false h) (ok_cons (decide_eq_true (nm2_sq hr)) (ok_cons ((eta2 LG2 (RB x (SQ (nm2 x)))).trans (Bool.eq_false_iff.2 hc)) ok_nil))) (by rw [← root_rb hr hl h, NL, if_neg hc] <;> exact rfl)
theorem e2sqrtN (x : W2) (hq : ¬ IsQ (nm2 x)) : Pure Tryz.prog Gt 32 [EV2 x] (.tuple #[EV2 ze2, .bool false]) := by
  exact pE TO50 Tryz.func32 [.inl [x.1, x.2]] (.inr [.inl [ze2.1, ze2.2], .inr (.inl false)]) (.inr [.inl [0, 0], .inr (.inl false)], [(decide (x.2 = 0), false), (decide (SQr (nm2 x) * SQr (nm2 x) = (nm2 x)), false)]) [some false, some false] (by kernel_rfl) (ok_cons (decide_eq_false (no_re hq)) (ok_cons (decide_eq_false hq) ok_nil)) rfl
theorem NL_t {x : W2} (h : LG2 x = true) : ng2 x = NL x := by rw [NL, if_pos h]
theorem NL_f {x : W2} (h : ¬ LG2 x = true) : x = NL x := by rw [NL, if_neg h]
theorem nf2 {y x : W2} (h : y = x) : (!decide ([y.1, y.2] = [x.1, x.2])) = false := by rw [h, decide_eq_true rfl]; rfl
theorem r5sqrtY (x r : W2) (hr : ml2 r r = x) (hl : LG2 r = false) : Pure Tryz.prog Gt 46 [EV2 x] (.tuple #[EV2 r, .bool true]) := by
  by_cases h : x.2 = 0
  · by_cases q : SQr x.1 * SQr x.1 = x.1
    · have e : r = (SQ x.1, 0) := (root_re hr hl h).symm.trans (if_pos q)
      exact pE TO50 Tryz.func46 [.inl [x.1, x.2]] (.inr [.inl [r.1, r.2], .inr (.inl true)]) (let t0 := ml2 (SQ x.1, 0) (SQ x.1, 0); (.inr [.inl [SQ x.1, 0], .inr (.inl true)], [(decide (x.2 = 0), true), (decide (SQr x.1 * SQr x.1 = x.1), true), (!decide ([t0.1, t0.2] = [x.1, x.2]), false), (LG2 (SQ x.1, 0), false)])) [some true, some true, some false, some false] (by kernel_rfl) (ok_cons (decide_eq_true h) (ok_cons (decide_eq_true q) (ok_cons (nf2 (y := ml2 (SQ x.1, 0) (SQ x.1, 0)) (x := x) (e ▸ hr)) (ok_cons (e ▸ hl) ok_nil)))) (by rw [e] <;> exact rfl)
    · have e : r = (0, SQ (-x.1)) := (root_re hr hl h).symm.trans (if_neg q)
      exact pE TO50 Tryz.func46 [.inl [x.1, x.2]] (.inr [.inl [r.1, r.2], .inr (.inl true)]) (let t0 := ml2 (0, SQ (-x.1)) (0, SQ (-x.1)); (.inr [.inl [0, SQ (-x.1)], .inr (.inl true)], [(decide (x.2 = 0), true), (decide (SQr x.1 * SQr x.1 = x.1), false), (!decide ([t0.1, t0.2] = [x.1, x.2]), false), (LG2 (0, SQ (-x.1)), false)])) [some true, some false, none, some false, some false] (by kernel_rfl) (ok_cons (decide_eq_true h) (ok_cons (decide_eq_false q) (ok_cons (nf2 (y := ml2 (0, SQ (-x.1)) (0, SQ (-x.1))) (x := x) (e ▸ hr)) (ok_cons (e ▸ hl) ok_nil)))) (by rw [e] <;> exact rfl)
  · by_cases q : SQr ((x.1 + (SQ (nm2 x))) * (zp 2 ^ (PP - 2))) * SQr ((x.1 + (SQ (nm2 x))) * (zp 2 ^ (PP - 2))) = (x.1 + (SQ (nm2 x))) * (zp 2 ^ (PP - 2))
    · by_cases hc : LG2 (SQ ((x.1 + (SQ (nm2 x))) * (zp 2 ^ (PP - 2))), x.2 * (zp 2 ^ (PP - 2)) * SQ ((x.1 + (SQ (nm2 x))) * (zp 2 ^ (PP - 2))) ^ (PP - 2)) = true
      · have e1 : RF x (SQ (nm2 x)) (zp 2 ^ (PP - 2)) = (SQ ((x.1 + (SQ (nm2 x))) * (zp 2 ^ (PP - 2))), x.2 * (zp 2 ^ (PP - 2)) * SQ ((x.1 + (SQ (nm2 x))) * (zp 2 ^ (PP - 2))) ^ (PP - 2)) := if_pos q
        have e : NL (SQ ((x.1 + (SQ (nm2 x))) * (zp 2 ^ (PP - 2))), x.2 * (zp 2 ^ (PP - 2)) * SQ ((x.1 + (SQ (nm2 x))) * (zp 2 ^ (PP - 2))) ^ (PP - 2)) = r := e1 ▸ root_rf hr hl half_two h
        have e0 : ml2 (SQ ((x.1 + (SQ (nm2 x))) * (zp 2 ^ (PP - 2))), x.2 * (zp 2 ^ (PP - 2)) * SQ ((x.1 + (SQ (nm2 x))) * (zp 2 ^ (PP - 2))) ^ (PP - 2)) (SQ ((x.1 + (SQ (nm2 x))) * (zp 2 ^ (PP - 2))), x.2 * (zp 2 ^ (PP - 2)) * SQ ((x.1 + (SQ (nm2 x))) * (zp 2 ^ (PP - 2))) ^ (PP - 2)) = x := e1 ▸ RF_sq (SQ_sq (nm2_sq hr)) half_two h
        exact pE TO50 Tryz.func46 [.inl [x.1, x.2]] (.inr [.inl [r.1, r.2], .inr (.inl true)]) (let t0 := (zp 2) ^ (PP - 2); let t1 := x.1 + (SQ (nm2 x)); let t2 := (SQ (t1 * t0)) ^ (PP - 2); let t3 := (x.2 * t0) * t2; let t4 := ml2 (SQ (t1 * t0), t3) (SQ (t1 * t0), t3); let t5 := ng2 (SQ (t1 * t0), t3); (.inr [.inl [t5.1, t5.2], .inr (.inl true)], [(decide (x.2 = 0), false), (decide (SQr (nm2 x) * SQr (nm2 x) = (nm2 x)), true), (decide (SQr (t1 * t0) * SQr (t1 * t0) = (t1 * t0)), true), (!decide ([t4.1, t4.2] = [x.1, x.2]), false), (LG2 (SQ (t1 * t0), t3), true)])) [some false, some true, some true, some false, some true] (by kernel_rfl) (ok_cons (decide_eq_false h) (ok_cons (decide_eq_true (nm2_sq hr)) (ok_cons (decide_eq_true q) (ok_cons (nf2 (y := ml2 (SQ ((x.1 + (SQ (nm2 x))) * (zp 2 ^ (PP - 2))), x.2 * (zp 2 ^ (PP - 2)) * SQ ((x.1 + (SQ (nm2 x))) * (zp 2 ^ (PP - 2))) ^ (PP - 2)) (SQ ((x.1 + (SQ (nm2 x))) * (zp 2 ^ (PP - 2))), x.2 * (zp 2 ^ (PP - 2)) * SQ ((x.1 + (SQ (nm2 x))) * (zp 2 ^ (PP - 2))) ^ (PP - 2))) (x := x) e0) (ok_cons (hc) ok_nil))))) (by rw [← e, ← NL_t hc] <;> exact rfl)
      · have e1 : RF x (SQ (nm2 x)) (zp 2 ^ (PP - 2)) = (SQ ((x.1 + (SQ (nm2 x))) * (zp 2 ^ (PP - 2))), x.2 * (zp 2 ^ (PP - 2)) * SQ ((x.1 + (SQ (nm2 x))) * (zp 2 ^ (PP - 2))) ^ (PP - 2)) := if_pos q
        have e : NL (SQ ((x.1 + (SQ (nm2 x))) * (zp 2 ^ (PP - 2))), x.2 * (zp 2 ^ (PP - 2)) * SQ ((x.1 + (SQ (nm2 x))) * (zp 2 ^ (PP - 2))) ^ (PP - 2)) = r := e1 ▸ root_rf hr hl half_two h
        have e0 : ml2 (SQ ((x.1 + (SQ (nm2 x))) * (zp 2 ^ (PP - 2))), x.2 * (zp 2 ^ (PP - 2)) * SQ ((x.1 + (SQ (nm2 x))) * (zp 2 ^ (PP - 2))) ^ (PP - 2)) (SQ ((x.1 + (SQ (nm2 x))) * (zp 2 ^ (PP - 2))), x.2 * (zp 2 ^ (PP - 2)) * SQ ((x.1 + (SQ (nm2 x))) * (zp 2 ^ (PP - 2))) ^ (PP - 2)) = x := e1 ▸ RF_sq (SQ_sq (nm2_sq hr)) half_two h
        exact pE TO50 Tryz.func46 [.inl [x.1, x.2]] (.inr [.inl [r.1, r.2], .inr (.inl true)]) (let t0 := (zp 2) ^ (PP - 2); let t1 := x.1 + (SQ (nm2 x)); let t2 := (SQ (t1 * t0)) ^ (PP - 2); let t3 := (x.2 * t0) * t2; let t4 := ml2 (SQ (t1 * t0), t3) (SQ (t1 * t0), t3); (.inr [.inl [SQ (t1 * t0), t3], .inr (.inl true)], [(decide (x.2 = 0), false), (decide (SQr (nm2 x) * SQr (nm2 x) = (nm2 x)), true), (decide (SQr (t1 * t0) * SQr (t1 * t0) = (t1 * t0)), true), (!decide ([t4.1, t4.2] = [x.1, x.2]), false), (LG2 (SQ (t1 * t0), t3), false)])) [some false, some true, some true, some false, some false] (by kernel_rfl) (ok_cons (decide_eq_false h) (ok_cons (decide_eq_true (nm2_sq hr)) (ok_cons (decide_eq_true q) (ok_cons (nf2 (y := ml2 (SQ ((x.1 + (SQ (nm2 x))) * (zp 2 ^ (PP - 2))), x.2 * (zp 2 ^ (PP - 2)) * SQ ((x.1 + (SQ (nm2 x))) * (zp 2 ^ (PP - 2))) ^ (PP - 2)) (SQ ((x.1 + (SQ (nm2 x))) * (zp 2 ^ (PP - 2))), x.2 * (zp 2 ^ (PP - 2)) * SQ ((x.1 + (SQ (nm2 x))) * (zp 2 ^ (PP - 2))) ^ (PP - 2))) (x := x) e0) (ok_cons (Bool.eq_false_iff.2 hc) ok_nil))))) (by rw [← e, ← NL_f hc] <;> exact rfl)
    · by_cases hc : LG2 (SQ ((x.1 - (SQ (nm2 x))) * (zp 2 ^ (PP - 2))), x.2 * (zp 2 ^ (PP - 2)) * SQ ((x.1 - (SQ (nm2 x))) * (zp 2 ^ (PP - 2))) ^ (PP - 2)) = true
      · have e1 : RF x (SQ (nm2 x)) (zp 2 ^ (PP - 2)) = (SQ ((x.1 - (SQ (nm2 x))) * (zp 2 ^ (PP - 2))), x.2 * (zp 2 ^ (PP - 2)) * SQ ((x.1 - (SQ (nm2 x))) * (zp 2 ^ (PP - 2))) ^ (PP - 2)) := if_neg q
        have e : NL (SQ ((x.1 - (SQ (nm2 x))) * (zp 2 ^ (PP - 2))), x.2 * (zp 2 ^ (PP - 2)) * SQ ((x.1 - (SQ (nm2 x))) * (zp 2 ^ (PP - 2))) ^ (PP - 2)) = r := e1 ▸ root_rf hr hl half_two h
        have e0 : ml2 (SQ ((x.1 - (SQ (nm2 x))) * (zp 2 ^ (PP - 2))), x.2 * (zp 2 ^ (PP - 2)) * SQ ((x.1 - (SQ (nm2 x))) * (zp 2 ^ (PP - 2))) ^ (PP - 2)) (SQ ((x.1 - (SQ (nm2 x))) * (zp 2 ^ (PP - 2))), x.2 * (zp 2 ^ (PP - 2)) * SQ ((x.1 - (SQ (nm2 x))) * (zp 2 ^ (PP - 2))) ^ (PP - 2)) = x := e1 ▸ RF_sq (SQ_sq (nm2_sq hr)) half_two h
        exact pE TO50 Tryz.func46 [.inl [x.1, x.2]] (.inr [.inl [r.1, r.2], .inr (.inl true)]) (let t0 := (zp 2) ^ (PP - 2); let t1 := x.1 + (SQ (nm2 x)); let t2 := x.1 - (SQ (nm2 x)); let t3 := (SQ (t2 * t0)) ^ (PP - 2); let t4 := (x.2 * t0) * t3; let t5 := ml2 (SQ (t2 * t0), t4) (SQ (t2 * t0), t4); let t6 := ng2 (SQ (t2 * t0), t4); (.inr [.inl [t6.1, t6.2], .inr (.inl true)], [(decide (x.2 = 0), false), (decide (SQr (nm2 x) * SQr (nm2 x) = (nm2 x)), true), (decide (SQr (t1 * t0) * SQr (t1 * t0) = (t1 * t0)), false), (!decide ([t5.1, t5.2] = [x.1, x.2]), false), (LG2 (SQ (t2 * t0), t4), true)])) [some false, some true, some false, none, some false, some true] (by kernel_rfl) (ok_cons (decide_eq_false h) (ok_cons (decide_eq_true (nm2_sq hr)) (ok_cons (decide_eq_false q) (ok_cons (nf2 (y := ml2 (SQ ((x.1 - (SQ (nm2 x))) * (zp 2 ^ (PP - 2))), x.2 * (zp 2 ^ (PP - 2)) * SQ ((x.1 - (SQ (nm2 x))) * (zp 2 ^ (PP - 2))) ^ (PP - 2)) (SQ ((x.1 - (SQ (nm2 x))) * (zp 2 ^ (PP - 2))), x.2 * (zp 2 ^ (PP - 2)) * SQ ((x.1 - (SQ (nm2 x))) * (zp 2 ^ (PP - 2))) ^ (PP - 2))) (x := x) e0) (ok_cons (hc) ok_nil))))) (by rw [← e, ← NL_t hc] <;> exact rfl)
      · have e1 : RF x (SQ (nm2 x)) (zp 2 ^ (PP - 2)) = (SQ ((x.1 - (SQ (nm2 x))) * (zp 2 ^ (PP - 2))), x.2 * (zp 2 ^ (PP - 2)) * SQ ((x.1 - (SQ (nm2 x))) * (zp 2 ^ (PP - 2))) ^ (PP - 2)) := if_neg q
        have e : NL (SQ ((x.1 - (SQ (nm2 x))) * (zp 2 ^ (PP - 2))), x.2 * (zp 2 ^ (PP - 2)) * SQ ((x.1 - (SQ (nm2 x))) * (zp 2 ^ (PP - 2))) ^ (PP - 2)) = r := e1 ▸ root_rf hr hl half_two h
        have e0 : ml2 (SQ ((x.1 - (SQ (nm2 x))) * (zp 2 ^ (PP - 2))), x.2 * (zp 2 ^ (PP - 2)) * SQ ((x.1 - (SQ (nm2 x))) * (zp 2 ^ (PP - 2))) ^ (PP - 2)) (SQ ((x.1 - (SQ (nm2 x))) * (zp 2 ^ (PP - 2))), x.2 * (zp 2 ^ (PP - 2)) * SQ ((x.1 - (SQ (nm2 x))) * (zp 2 ^ (PP - 2))) ^ (PP - 2)) = x := e1 ▸ RF_sq (SQ_sq (nm2_sq hr)) half_two h
        exact pE TO50 Tryz.func46 [.inl [x.1, x.2]] (.inr [.inl [r.1, r.2], .inr (.inl true)]) (let t0 := (zp 2) ^ (PP - 2); let t1 := x.1 + (SQ (nm2 x)); let t2 := x.1 - (SQ (nm2 x)); let t3 := (SQ (t2 * t0)) ^ (PP - 2); let t4 := (x.2 * t0) * t3; let t5 := ml2 (SQ (t2 * t0), t4) (SQ (t2 * t0), t4); (.inr [.inl [SQ (t2 * t0), t4], .inr (.inl true)], [(decide (x.2 = 0), false), (decide (SQr (nm2 x) * SQr (nm2 x) = (nm2 x)), true), (decide (SQr (t1 * t0) * SQr (t1 * t0) = (t1 * t0)), false), (!decide ([t5.1, t5.2] = [x.1, x.2]), false), (LG2 (SQ (t2 * t0), t4), false)])) [some false, some true, some false, none, some false, some false] (by kernel_rfl) (ok_cons (decide_eq_false h) (ok_cons (decide_eq_true (nm2_sq hr)) (ok_cons (decide_eq_false q) (ok_cons (nf2 (y := ml2 (SQ ((x.1 - (SQ (nm2 x))) * (zp 2 ^ (PP - 2))), x.2 * (zp 2 ^ (PP - 2)) * SQ ((x.1 - (SQ (nm2 x))) * (zp 2 ^ (PP - 2))) ^ (PP - 2)) (SQ ((x.1 - (SQ (nm2 x))) * (zp 2 ^ (PP - 2))), x.2 * (zp 2 ^ (PP - 2)) * SQ ((x.1 - (SQ (nm2 x))) * (zp 2 ^ (PP - 2))) ^ (PP - 2))) (x := x) e0) (ok_cons (Bool.eq_false_iff.2 hc) ok_nil))))) (by rw [← e, ← NL_f hc] <;> exact rfl)
theorem r5sqrtN (x : W2) (hq : ¬ IsQ (nm2 x)) : Pure Tryz.prog Gt 46 [EV2 x] (.tuple #[EV2 ze2, .bool false]) := by
  exact pE TO50 Tryz.func46 [.inl [x.1, x.2]] (.inr [.inl [ze2.1, ze2.2], .inr (.inl false)]) (.inr [.inl [0, 0], .inr (.inl false)], [(decide (x.2 = 0), false), (decide (SQr (nm2 x) * SQr (nm2 x) = (nm2 x)), false)]) [some false, some false] (by kernel_rfl) (ok_cons (decide_eq_false (no_re hq)) (ok_cons (decide_eq_false hq) ok_nil)) rfl
end Go.Proofs.YtdkmalaffcfoeaaGreatDoor
