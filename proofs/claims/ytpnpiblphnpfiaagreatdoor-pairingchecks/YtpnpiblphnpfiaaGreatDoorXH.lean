/-
 The program's lines.
 The program's lines times an element; Line; a way doubled, added to.
-/
import Derived.Test.YtpnpiblphnpfiaaGreatDoorXG
import Derived.Test.YtpnpiblphnpfiaaGreatDoorXJ
import Derived.Test.YtpnpiblphnpfiaaGreatDoorXO
set_option maxRecDepth 100000
set_option maxHeartbeats 1000000
namespace Go.Proofs.YtpnpiblphnpfiaaGreatDoor
section
open Go.RowKit
attribute [local simp] aL ba aI aH aB bc aF aE aG PLl cf cb N1l ca bY ce aR a9 aJ aW a5 J1.bd J2.bd
theorem ent55 : ae Tryz.prog 55 := fun _ _ => by kernel_rfl
theorem ent112 : ae Tryz.prog 112 := fun _ _ => by kernel_rfl
theorem ent160 : ae Tryz.prog 160 := fun _ _ => by kernel_rfl
theorem ent161 : ae Tryz.prog 161 := fun _ _ => by kernel_rfl
theorem ent111 : ae Tryz.prog 111 := fun _ _ => by kernel_rfl
theorem ent113 : ae Tryz.prog 113 := fun _ _ => by kernel_rfl
theorem ent114 : ae Tryz.prog 114 := fun _ _ => by kernel_rfl
theorem ent115 : ae Tryz.prog 115 := fun _ _ => by kernel_rfl
theorem ent162 : ae Tryz.prog 162 := fun _ _ => by kernel_rfl
theorem ent158 : ae Tryz.prog 158 := fun _ _ => by kernel_rfl
namespace Q6
def TO208 : Tb Tryz.prog Gt := J2.TO55.add (vH (g := K6.one) ent61 Aw)
theorem jS {f : Nat} {g : W6 → W6 → Bool} (en : ae Tryz.prog f) (h : ∀ a b, Pure Tryz.prog Gt f [EV6 a, EV6 b] (.bool (g a b))) : Snd Tryz.prog Gt f (c2 q6.ag q6.ag rdB g) := dJ q6.ag q6.ag rdB en (fun a b => bx (l2 (V6 _).symm (V6 _).symm) rfl (h a b))
def TO209 : Tb Tryz.prog Gt := TO208.add (jS (g := fun x y => decide (x = y)) ent84 jz)
def TO210 : Tb Tryz.prog Gt := TO209.add (lW (g := fun x => decide (x = K6.zero)) ent76 hH)
def TO211 : Tb Tryz.prog Gt := TO210.add (bG (g := K6.add) ent91 uU)
def TO212 : Tb Tryz.prog Gt := TO211.add (bG (g := sb6) ent93 ve)
def TO213 : Tb Tryz.prog Gt := TO212.add (bS (g := K6.neg) ent99 wv)
def TO214 : Tb Tryz.prog Gt := TO213.add (bG (g := K6.mul) ent90 v8)
def TO215 : Tb Tryz.prog Gt := TO214.add (bS (g := fun x => K6.mul x x) ent177 kS)
theorem jj {f : Nat} {g : W6 → W2 → W6} (en : ae Tryz.prog f) (h : ∀ a b, Pure Tryz.prog Gt f [EV6 a, EV2 b] (EV6 (g a b))) : Snd Tryz.prog Gt f (c2 q6.ag q2.ag q6.rd g) := dJ q6.ag q2.ag q6.rd en (fun a b => bx (l2 (V6 _).symm rfl) (V6 _).symm (h a b))
def TO216 : Tb Tryz.prog Gt := TO215.add (jj (g := sc6) ent163 qB)
def TO217 : Tb Tryz.prog Gt := TO216.add (bS (g := v6) ent92 k6v)
def TO218 : Tb Tryz.prog Gt := TO217.add (bS (g := oth) ent197 kB)
def TO219 : Tb Tryz.prog Gt := TO218.add (bS (g := iv6) ent178 wW)
def TO220 : Tb Tryz.prog Gt := TO219.add (tb (g := K12.one) ent22 iy)
def TO221 : Tb Tryz.prog Gt := TO220.add (fh (g := fun x y => decide (x = y)) ent33 gq)
def TO222 : Tb Tryz.prog Gt := TO221.add (kg (g := fun x => decide (x = K12.zero)) ent26 iI)
def TO223 : Tb Tryz.prog Gt := TO222.add (ck (g := bq) ent41 jp)
def TO224 : Tb Tryz.prog Gt := TO223.add (gN (g := K12.mul) ent35 v4)
def TO225 : Tb Tryz.prog Gt := TO224.add (ck (g := fun x => K12.mul x x) ent82 gC)
def TO226 : Tb Tryz.prog Gt := TO225.add (ck (g := ff) ent134 DX)
def XY3 (x : W6) : W2 × W2 × Bool := if x.2.2 = ze2 then (ze2, ze2, false) else (ml2 x.1 (ml2 (iv2 x.2.2) (iv2 x.2.2)), ml2 x.2.1 (ml2 (ml2 (iv2 x.2.2) (iv2 x.2.2)) (iv2 x.2.2)), true)
theorem xy3 (x : W6) : Pure Tryz.prog Gt 60 [EV6 x] (.tuple #[EV2 (XY3 x).1, EV2 (XY3 x).2.1, .bool (XY3 x).2.2]) := by
 by_cases h : x.2.2 = ze2
 ·rw [show XY3 x = (ze2, ze2, false) from if_pos h]; exact J2.rM x h
 ·rw [show XY3 x = _ from if_neg h]; exact J2.qV x h
theorem mD {f : Nat} {g : W6 → W2 × W2 × Bool} (en : ae Tryz.prog f) (h : ∀ a, Pure Tryz.prog Gt f [EV6 a] (.tuple #[EV2 (g a).1, EV2 (g a).2.1, .bool (g a).2.2])) : Snd Tryz.prog Gt f (c1 q6.ag q2.rdBB g) := ei q6.ag q2.rdBB en (fun a => bx (l1 (V6 _).symm) rfl (h a))
def TO227 : Tb Tryz.prog Gt := TO226.add (mD (g := XY3) ent60 xy3)
def TG2 (x y : W2) : W2 × W2 := (ad2 (ad2 (ml2 x x) (ml2 x x)) (ml2 x x), ad2 y y)
theorem mtan (x y : W2) : Pure Tryz.prog Gt 160 [EV2 x, EV2 y] (.tuple #[EV2 (TG2 x y).1, EV2 (TG2 x y).2]) := pE TO227 Tryz.func160 [.inl [x.1, x.2], .inl [y.1, y.2]] (.inr [.inl [((TG2 x y).1).1, ((TG2 x y).1).2], .inl [((TG2 x y).2).1, ((TG2 x y).2).2]]) (let t0 := ml2 x x; let t1 := ad2 (t0.1, t0.2) (t0.1, t0.2); let t2 := ad2 (t1.1, t1.2) (t0.1, t0.2); let t3 := ad2 y y; (.inr [.inl [t2.1, t2.2], .inl [t3.1, t3.2]], [])) [] (by kernel_rfl) aT rfl
theorem iX {f : Nat} {g : W2 → W2 → W2 × W2} (en : ae Tryz.prog f) (h : ∀ a b, Pure Tryz.prog Gt f [EV2 a, EV2 b] (.tuple #[EV2 (g a b).1, EV2 (g a b).2])) : Snd Tryz.prog Gt f (c2 q2.ag q2.ag q2.rd2 g) := dJ q2.ag q2.ag q2.rd2 en h
def TO228 : Tb Tryz.prog Gt := TO227.add (iX (g := TG2) ent160 mtan)
def LR5 (p q : Zp) (a b c : W2) : W6 := (a, ng2 (sc2 b p), sc2 c q)
theorem xX (p q : Zp) (a b c : W2) : Pure Tryz.prog Gt 161 [EV p, EV q, EV2 a, EV2 b, EV2 c] (EV6 (LR5 p q a b c)) := (bx rfl (V6 _) (pE TO228 Tryz.func161 [.inl [p], .inl [q], .inl [a.1, a.2], .inl [b.1, b.2], .inl [c.1, c.2]] (.inl (.inl [(LR5 p q a b c).1.1, (LR5 p q a b c).1.2, (LR5 p q a b c).2.1.1, (LR5 p q a b c).2.1.2, (LR5 p q a b c).2.2.1, (LR5 p q a b c).2.2.2])) (let t0 := sc2 b p; let t1 := ng2 (t0.1, t0.2); let t2 := sc2 c q; (.inl (.inl [a.1, a.2, t1.1, t1.2, t2.1, t2.2]), [])) [] (by kernel_rfl) aT rfl))
theorem dx {f : Nat} {g : Zp → Zp → W2 → W2 → W2 → W6} (en : ae Tryz.prog f) (h : ∀ a b c d e, Pure Tryz.prog Gt f [EV a, EV b, EV2 c, EV2 d, EV2 e] (EV6 (g a b c d e))) : Snd Tryz.prog Gt f (c5 q1.ag q1.ag q2.ag q2.ag q2.ag q6.rd g) := GK q1.ag q1.ag q2.ag q2.ag q2.ag q6.rd en (fun a b c d e => bx rfl (V6 _).symm (h a b c d e))
def TO229 : Tb Tryz.prog Gt := TO228.add (dx (g := LR5) ent161 xX)
def SHT (a : W6) (b c : W2) : W6 := (ad2 (ml2 a.1 b) (xi2 (ml2 a.2.2 c)), E2w.sub (E2w.sub (ml2 (ad2 a.1 a.2.1) (ad2 b c)) (ml2 a.1 b)) (ml2 a.2.1 c), ad2 (ml2 a.2.1 c) (ml2 a.2.2 b))
theorem DO (a : W6) (b c : W2) : Pure Tryz.prog Gt 162 [EV6 a, EV2 b, EV2 c] (EV6 (SHT a b c)) := (bx (l3 (V6 _) rfl rfl) (V6 _) (pE TO229 Tryz.func162 [.inl [a.1.1, a.1.2, a.2.1.1, a.2.1.2, a.2.2.1, a.2.2.2], .inl [b.1, b.2], .inl [c.1, c.2]] (.inl (.inl [(SHT a b c).1.1, (SHT a b c).1.2, (SHT a b c).2.1.1, (SHT a b c).2.1.2, (SHT a b c).2.2.1, (SHT a b c).2.2.2])) (let t0 := ml2 (a.1.1, a.1.2) b; let t1 := ml2 (a.2.1.1, a.2.1.2) c; let t2 := ad2 (a.1.1, a.1.2) (a.2.1.1, a.2.1.2); let t3 := ad2 b c; let t4 := ml2 (t2.1, t2.2) (t3.1, t3.2); let t5 := E2w.sub (t4.1, t4.2) (t0.1, t0.2); let t6 := E2w.sub (t5.1, t5.2) (t1.1, t1.2); let t7 := ml2 (a.2.2.1, a.2.2.2) c; let t8 := xi2 (t7.1, t7.2); let t9 := ad2 (t0.1, t0.2) (t8.1, t8.2); let t10 := ml2 (a.2.2.1, a.2.2.2) b; let t11 := ad2 (t1.1, t1.2) (t10.1, t10.2); (.inl (.inl [t9.1, t9.2, t6.1, t6.2, t11.1, t11.2]), [])) [] (by kernel_rfl) aT rfl))
theorem gj {f : Nat} {g : W6 → W2 → W2 → W6} (en : ae Tryz.prog f) (h : ∀ a b c, Pure Tryz.prog Gt f [EV6 a, EV2 b, EV2 c] (EV6 (g a b c))) : Snd Tryz.prog Gt f (c3 q6.ag q2.ag q2.ag q6.rd g) := EQ q6.ag q2.ag q2.ag q6.rd en (fun a b c => bx (l3 (V6 _).symm rfl rfl) (V6 _).symm (h a b c))
def TO230 : Tb Tryz.prog Gt := TO229.add (gj (g := SHT) ent162 DO)
end Q6
end
section
open Go.RowKit
attribute [local simp] aL ba aI aH aB bc aF aE aG PLl cf cb N1l ca bY ce aR a9 aJ aW a5 J1.bd J2.bd
namespace Q6
theorem vO (a : W6) (b c : W2) : SHT a b c = K6.mul a (b, c, ze2) := Prod.ext (zq R2 [a.1, a.2.1, a.2.2, b, c, XI] (ta (tm j0 j3) (txi 5 (tm j2 j4) rfl)) (ta (tm j0 j3) (tm j5 (ta (tm j1 tz0) (tm j2 j4))))) (Prod.ext (zq R2 [a.1, a.2.1, a.2.2, b, c, XI] (ta (ta (tm (ta j0 j1) (ta j3 j4)) (tn (tm j0 j3))) (tn (tm j1 j4))) (ta (ta (tm j0 j4) (tm j1 j3)) (tm j5 (tm j2 tz0)))) (zq R2 [a.1, a.2.1, a.2.2, b, c, XI] (ta (tm j1 j4) (tm j2 j3)) (ta (ta (tm j0 tz0) (tm j1 j4)) (tm j2 j3))))
def TMS (t : W6) (f : W12) : W12 := (K6.add (SHT f.1 t.1 t.2.1) (v6 (v6 (sc6 f.2 t.2.2))), sb6 (sb6 (SHT (K6.add f.1 f.2) t.1 (ad2 t.2.1 t.2.2)) (SHT f.1 t.1 t.2.1)) (v6 (sc6 f.2 t.2.2)))
theorem Au (t : W6) : lel t = ((t.1, t.2.1, ze2), K6.mul (t.2.2, ze2, ze2) VV) := Prod.ext rfl (by rw [rR]; exact Prod.ext (show ze2 = xi2 ze2 by rw [vv]; exact (R2.zero_mul _).symm) rfl)
theorem Du (t : W6) : (t.1, ad2 t.2.1 t.2.2, ze2) = K6.add (t.1, t.2.1, ze2) (K6.mul (t.2.2, ze2, ze2) VV) := by
 rw [← show ((lel t).2 : W6) = K6.mul (t.2.2, ze2, ze2) VV from congrArg Prod.snd (Au t)]
 exact Prod.ext (R2.add_zero _).symm (Prod.ext rfl (R2.add_zero _).symm)
theorem BC (t : W6) (f : W12) : TMS t f = K12.mul (lel t) f := by
 rw [TMS, Au, vO, vO, pS, pS, Du, ← wr, ← rR, ← rR]
 exact Prod.ext (zq K6 [f.1, f.2, (t.1, t.2.1, ze2), (t.2.2, ze2, ze2), VV] (ta (tm j0 j2) (tm (tm (tm j1 j3) j4) j4)) (ta (tm j2 j0) (tm j4 (tm (tm j3 j4) j1)))) (zq K6 [f.1, f.2, (t.1, t.2.1, ze2), (t.2.2, ze2, ze2), VV] (ta (ta (tm (ta j0 j1) (ta j2 (tm j3 j4))) (tn (tm j0 j2))) (tn (tm (tm j1 j3) j4))) (ta (tm j2 j1) (tm (tm j3 j4) j0)))
theorem r5 (t : W6) (f : W12) : Pure Tryz.prog Gt 114 [EV6 t, bu f] (bu (TMS t f)) := (bx (l2 (V6 _) (V12 _)) (V12 _) (pE TO230 Tryz.func114 [.inl [t.1.1, t.1.2, t.2.1.1, t.2.1.2, t.2.2.1, t.2.2.2], .inl [f.1.1.1, f.1.1.2, f.1.2.1.1, f.1.2.1.2, f.1.2.2.1, f.1.2.2.2, f.2.1.1, f.2.1.2, f.2.2.1.1, f.2.2.1.2, f.2.2.2.1, f.2.2.2.2]] (.inl (.inl [(TMS t f).1.1.1, (TMS t f).1.1.2, (TMS t f).1.2.1.1, (TMS t f).1.2.1.2, (TMS t f).1.2.2.1, (TMS t f).1.2.2.2, (TMS t f).2.1.1, (TMS t f).2.1.2, (TMS t f).2.2.1.1, (TMS t f).2.2.1.2, (TMS t f).2.2.2.1, (TMS t f).2.2.2.2])) (let t0 := SHT ((f.1.1.1, f.1.1.2), (f.1.2.1.1, f.1.2.1.2), (f.1.2.2.1, f.1.2.2.2)) (t.1.1, t.1.2) (t.2.1.1, t.2.1.2); let t1 := sc6 ((f.2.1.1, f.2.1.2), (f.2.2.1.1, f.2.2.1.2), (f.2.2.2.1, f.2.2.2.2)) (t.2.2.1, t.2.2.2); let t2 := v6 ((t1.1.1, t1.1.2), (t1.2.1.1, t1.2.1.2), (t1.2.2.1, t1.2.2.2)); let t3 := K6.add ((f.1.1.1, f.1.1.2), (f.1.2.1.1, f.1.2.1.2), (f.1.2.2.1, f.1.2.2.2)) ((f.2.1.1, f.2.1.2), (f.2.2.1.1, f.2.2.1.2), (f.2.2.2.1, f.2.2.2.2)); let t4 := ad2 (t.2.1.1, t.2.1.2) (t.2.2.1, t.2.2.2); let t5 := SHT ((t3.1.1, t3.1.2), (t3.2.1.1, t3.2.1.2), (t3.2.2.1, t3.2.2.2)) (t.1.1, t.1.2) (t4.1, t4.2); let t6 := v6 ((t2.1.1, t2.1.2), (t2.2.1.1, t2.2.1.2), (t2.2.2.1, t2.2.2.2)); let t7 := K6.add ((t0.1.1, t0.1.2), (t0.2.1.1, t0.2.1.2), (t0.2.2.1, t0.2.2.2)) ((t6.1.1, t6.1.2), (t6.2.1.1, t6.2.1.2), (t6.2.2.1, t6.2.2.2)); let t8 := sb6 ((t5.1.1, t5.1.2), (t5.2.1.1, t5.2.1.2), (t5.2.2.1, t5.2.2.2)) ((t0.1.1, t0.1.2), (t0.2.1.1, t0.2.1.2), (t0.2.2.1, t0.2.2.2)); let t9 := sb6 ((t8.1.1, t8.1.2), (t8.2.1.1, t8.2.1.2), (t8.2.2.1, t8.2.2.2)) ((t2.1.1, t2.1.2), (t2.2.1.1, t2.2.1.2), (t2.2.2.1, t2.2.2.2)); (.inl (.inl [t7.1.1, t7.1.2, t7.2.1.1, t7.2.1.2, t7.2.2.1, t7.2.2.2, t9.1.1, t9.1.2, t9.2.1.1, t9.2.1.2, t9.2.2.1, t9.2.2.2]), [])) [] (by kernel_rfl) aT rfl))
theorem eJ {f : Nat} {g : W6 → W12 → W12} (en : ae Tryz.prog f) (h : ∀ a b, Pure Tryz.prog Gt f [EV6 a, bu b] (bu (g a b))) : Snd Tryz.prog Gt f (c2 q6.ag q12.ag q12.rd g) := dJ q6.ag q12.ag q12.rd en (fun a b => bx (l2 (V6 _).symm (V12 _).symm) (V12 _).symm (h a b))
def TO231 : Tb Tryz.prog Gt := TO230.add (eJ (g := TMS) ent114 r5)
theorem pV (t : W6) (f : W12) : Pure Tryz.prog Gt 114 [EV6 t, bu f] (bu (K12.mul (lel t) f)) := by rw [← BC]; exact r5 t f
def TO232 : Tb Tryz.prog Gt := TO231.add (eJ (g := fun t f => K12.mul (lel t) f) ent114 pV)
def fQ (w : WK) : List Zp := [w.1.1, w.1.2, w.2.1.1.1, w.2.1.1.2, w.2.1.2.1, w.2.1.2.2, w.2.2.1.1, w.2.2.1.2, w.2.2.2.1.1, w.2.2.2.1.2, w.2.2.2.2.1, w.2.2.2.2.2]
theorem pM {f : FuncId} {fn : Func} {c : Code} (T : Tb Tryz.prog Gt) (hf : Tryz.prog.funcs[f]? = some fn) (a : List S0) (l l' : List Zp) (t : TypeId) (u : S0) (vc : S1 × CB) (p : Pa) (h : xM T fn c a l t p = some vc) (hc : Ok vc.2) (e : vc.1 = .inr [u, .inl l']) {b : Nat} {pre post : List Value} {w : World} (hw : Gt w) (hb : 5 ≤ b) (ho : OwnB w b (pre ++ (clv l ++ post)) t)
  (hbd : fn.body = some c := by rfl) (hn : Nat.ble (a.length + 1) fn.ntmps = true := by rfl) (hN : Nat.ble fn.ntmps 1000000 = true := by rfl) (ha : a.all npS = true := by rfl) :
  Calls Tryz.prog f (.pointer (some ⟨b, pre.length, none⟩) :: a.map (dn rid)).toArray w (fun e w' => e = .returned (dn rid u) ∧ Mod b w w' ∧ OwnB w' b (pre ++ (clv l' ++ post)) t) :=
 yB T bi hf hbd (cs := vc.2) (by rw [← e]; exact h) hc hn hN ha ((gt_low.from (M := fun k => k = b) hw (fun m hm => by subst hm; exact hb)).ok (B := plM w (fun k => k = b)) ai) ho
theorem Eu {P : Program} {f : FuncId} {xs ys : List Value} {w : World} {b : Nat} {v v' : Value} {c c' : List Value} {t : TypeId} (h : Calls P f xs.toArray w (fun e w' => e = .returned v ∧ Mod b w w' ∧ OwnB w' b c t)) (ha : ys = xs) (hv : v' = v) (hc : c' = c) : Calls P f ys.toArray w (fun e w' => e = .returned v' ∧ Mod b w w' ∧ OwnB w' b c' t) := by subst ha; subst hv; subst hc; exact h
theorem mdbl (w : WK) {b : Nat} {pre post : List Value} {W : World} (hw : Gt W) (hb : 5 ≤ b) (ho : OwnB W b (pre ++ (clv (fQ w) ++ post)) 141) :
  Calls Tryz.prog 113 [.pointer (some ⟨b, pre.length, none⟩)].toArray W (fun e W' => e = .returned (EV6 (rDb w)) ∧ Mod b W W' ∧ OwnB W' b (pre ++ (clv (fQ (wDb w)) ++ post)) 141) :=
 Eu (pM TO232 Tryz.func113 [] ([w.1.1, w.1.2, w.2.1.1.1, w.2.1.1.2, w.2.1.2.1, w.2.1.2.2, w.2.2.1.1, w.2.2.1.2, w.2.2.2.1.1, w.2.2.2.1.2, w.2.2.2.2.1, w.2.2.2.2.2]) (fQ (wDb w)) 141 (.inl [(rDb w).1.1, (rDb w).1.2, (rDb w).2.1.1, (rDb w).2.1.2, (rDb w).2.2.1, (rDb w).2.2.2]) (let t0 := (TG2 (w.2.2.1.1, w.2.2.1.2) (w.2.2.2.1.1, w.2.2.2.1.2)).1; let t1 := (TG2 (w.2.2.1.1, w.2.2.1.2) (w.2.2.2.1.1, w.2.2.2.1.2)).2; let t2 := ml2 (w.2.2.2.2.1, w.2.2.2.2.2) (t1.1, t1.2); let t3 := ml2 (t1.1, t1.2) (w.2.2.2.1.1, w.2.2.2.1.2); let t4 := ml2 (w.2.2.2.2.1, w.2.2.2.2.2) (w.2.2.2.2.1, w.2.2.2.2.2); let t5 := ml2 (t0.1, t0.2) (w.2.2.1.1, w.2.2.1.2); let t6 := E2w.sub (t5.1, t5.2) (t3.1, t3.2); let t7 := ml2 (t0.1, t0.2) (t4.1, t4.2); let t8 := ml2 (t2.1, t2.2) (t4.1, t4.2); let t9 := LR5 w.1.1 w.1.2 (t6.1, t6.2) (t7.1, t7.2) (t8.1, t8.2); let t10 := ad2 (t3.1, t3.2) (t3.1, t3.2); let t11 := ml2 (t10.1, t10.2) (w.2.2.1.1, w.2.2.1.2); let t12 := ml2 (t0.1, t0.2) (t0.1, t0.2); let t13 := E2w.sub (t12.1, t12.2) (t11.1, t11.2); let t14 := E2w.sub (t13.1, t13.2) (t11.1, t11.2); let t15 := E2w.sub (t11.1, t11.2) (t14.1, t14.2); let t16 := ml2 (t0.1, t0.2) (t15.1, t15.2); let t17 := ml2 (t10.1, t10.2) (t3.1, t3.2); let t18 := E2w.sub (t16.1, t16.2) (t17.1, t17.2); (.inr [.inl [t9.1.1, t9.1.2, t9.2.1.1, t9.2.1.2, t9.2.2.1, t9.2.2.2], .inl [w.1.1, w.1.2, w.2.1.1.1, w.2.1.1.2, w.2.1.2.1, w.2.1.2.2, t14.1, t14.2, t18.1, t18.2, t2.1, t2.2]], [])) [] (by kernel_rfl) aT rfl hw hb ho) rfl (V6 _) rfl
theorem mjn (w : WK) {b : Nat} {pre post : List Value} {W : World} (h : ¬ w.2.2.2.2 = ze2) (hw : Gt W) (hb : 5 ≤ b) (ho : OwnB W b (pre ++ (clv (fQ w) ++ post)) 141) :
  Calls Tryz.prog 115 [.pointer (some ⟨b, pre.length, none⟩)].toArray W (fun e W' => e = .returned (EV6 (rJn w)) ∧ Mod b W W' ∧ OwnB W' b (pre ++ (clv (fQ (wJn w)) ++ post)) 141) := by
 rw [show rJn w = LNR (E2w.wjL w.2.2 w.2.1) w.1 from if_neg h, show wJn w = (w.1, w.2.1, E2w.wjJ w.2.2 w.2.1) from if_neg h]
 exact Eu (pM TO232 Tryz.func115 [] ([w.1.1, w.1.2, w.2.1.1.1, w.2.1.1.2, w.2.1.2.1, w.2.1.2.2, w.2.2.1.1, w.2.2.1.2, w.2.2.2.1.1, w.2.2.2.1.2, w.2.2.2.2.1, w.2.2.2.2.2]) (fQ ((w.1, w.2.1, E2w.wjJ w.2.2 w.2.1))) 141 (.inl [(LNR (E2w.wjL w.2.2 w.2.1) w.1).1.1, (LNR (E2w.wjL w.2.2 w.2.1) w.1).1.2, (LNR (E2w.wjL w.2.2 w.2.1) w.1).2.1.1, (LNR (E2w.wjL w.2.2 w.2.1) w.1).2.1.2, (LNR (E2w.wjL w.2.2 w.2.1) w.1).2.2.1, (LNR (E2w.wjL w.2.2 w.2.1) w.1).2.2.2]) (let t0 := ml2 (w.2.2.2.2.1, w.2.2.2.2.2) (w.2.2.2.2.1, w.2.2.2.2.2); let t1 := ml2 (w.2.1.2.1, w.2.1.2.2) (t0.1, t0.2); let t2 := ml2 (t1.1, t1.2) (w.2.2.2.2.1, w.2.2.2.2.2); let t3 := E2w.sub (t2.1, t2.2) (w.2.2.2.1.1, w.2.2.2.1.2); let t4 := ml2 (w.2.1.1.1, w.2.1.1.2) (t0.1, t0.2); let t5 := E2w.sub (t4.1, t4.2) (w.2.2.1.1, w.2.2.1.2); let t6 := ml2 (w.2.2.2.2.1, w.2.2.2.2.2) (t5.1, t5.2); let t7 := ml2 (t3.1, t3.2) (w.2.1.1.1, w.2.1.1.2); let t8 := ml2 (t6.1, t6.2) (w.2.1.2.1, w.2.1.2.2); let t9 := E2w.sub (t7.1, t7.2) (t8.1, t8.2); let t10 := LR5 w.1.1 w.1.2 (t9.1, t9.2) (t3.1, t3.2) (t6.1, t6.2); let t11 := ml2 (t5.1, t5.2) (t5.1, t5.2); let t12 := ml2 (t11.1, t11.2) (t5.1, t5.2); let t13 := ml2 (t11.1, t11.2) (w.2.2.1.1, w.2.2.1.2); let t14 := ml2 (t3.1, t3.2) (t3.1, t3.2); let t15 := E2w.sub (t14.1, t14.2) (t12.1, t12.2); let t16 := E2w.sub (t15.1, t15.2) (t13.1, t13.2); let t17 := E2w.sub (t16.1, t16.2) (t13.1, t13.2); let t18 := E2w.sub (t13.1, t13.2) (t17.1, t17.2); let t19 := ml2 (t3.1, t3.2) (t18.1, t18.2); let t20 := ml2 (t12.1, t12.2) (w.2.2.2.1.1, w.2.2.2.1.2); let t21 := E2w.sub (t19.1, t19.2) (t20.1, t20.2); (.inr [.inl [t10.1.1, t10.1.2, t10.2.1.1, t10.2.1.2, t10.2.2.1, t10.2.2.2], .inl [w.1.1, w.1.2, w.2.1.1.1, w.2.1.1.2, w.2.1.2.1, w.2.1.2.2, t17.1, t17.2, t21.1, t21.2, t6.1, t6.2]], [(decide ((w.2.2.2.2.1, w.2.2.2.2.2) = ze2), false)])) [some false] (by kernel_rfl) (aY (decide_eq_false h) aT) rfl hw hb ho) rfl (V6 _) rfl
end Q6
end
end Go.Proofs.YtpnpiblphnpfiaaGreatDoor
