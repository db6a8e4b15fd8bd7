/-
  The reference's points: sums, doubles, opposites.
  The reference's points: the generator, which numbers are points, times, the order.
-/
import Derived.Test.YtdkmalaffcfoeaaGreatDoorQ2
import Derived.Test.YtdkmalaffcfoeaaGreatDoorX5
import Derived.Test.YtdkmalaffcfoeaaGreatDoorX3
namespace Go.Proofs.YtdkmalaffcfoeaaGreatDoor
open Go.RowKit
set_option maxRecDepth 100000
set_option maxHeartbeats 1000000
attribute [local simp] fe_len nm_len AS_len SS_len MONT_len RM_len FRs_len BYs_len by48_len PLl TWOl ONEl N1l IVPl HFPl RTPl FL_len SP_len fe2_len SP2_len FM_len

theorem ent64 : Enters Tryz.prog 64 := fun _ _ => by kernel_rfl
theorem ent61 : Enters Tryz.prog 61 := fun _ _ => by kernel_rfl
theorem ent108 : Enters Tryz.prog 108 := fun _ _ => by kernel_rfl
theorem ent62 : Enters Tryz.prog 62 := fun _ _ => by kernel_rfl
theorem ent63 : Enters Tryz.prog 63 := fun _ _ => by kernel_rfl
theorem ent19 : Enters Tryz.prog 19 := fun _ _ => by kernel_rfl
theorem ent109 : Enters Tryz.prog 109 := fun _ _ => by kernel_rfl
theorem ent89 : Enters Tryz.prog 89 := fun _ _ => by kernel_rfl
/-- A point of the reference as a value. -/
abbrev EV6 (x : W6) : Value := .agg (((fe (x.1).1 ++ fe (x.1).2) ++ ((fe (x.2.1).1 ++ fe (x.2.1).2) ++ (fe (x.2.2).1 ++ fe (x.2.2).2))).map U64).toArray
theorem zv51 (w : World) : (zeroValue 51).run Tryz.prog w = .ok (.agg (((fe 0 ++ fe 0) ++ ((fe 0 ++ fe 0) ++ (fe 0 ++ fe 0))).map U64).toArray) w := by rw [fe_0]; exact (Tryz.zeroValue51 w).trans (by rfl)
theorem three51 : Three Tryz.prog 51 ⟨ "X", 37, 0, false, "", "", 0⟩ ⟨ "Y", 37, 12, false, "", "", 96⟩ ⟨ "Z", 37, 24, false, "", "", 192⟩ 12 (fe 0 ++ fe 0) (fe 0 ++ fe 0) (fe 0 ++ fe 0) := ⟨Tryz.underlying51, rfl, rfl, rfl, Tryz.sizeOf37, Tryz.sizeOf37, Tryz.sizeOf37, zv51, by simp, by simp, by simp⟩
def q6 : Sh W6 := q2.two (q2.two q2 2) 2
theorem V6 (x : W6) : EV6 x = dn rid (.inl [x.1.1, x.1.2, x.2.1.1, x.2.1.2, x.2.2.1, x.2.2.2]) := by
  show Value.agg _ = Value.agg _
  rw [clv, show cel [x.1.1, x.1.2, x.2.1.1, x.2.1.2, x.2.2.1, x.2.2.2] = fe x.1.1 ++ (fe x.1.2 ++ (fe x.2.1.1 ++ (fe x.2.1.2 ++ (fe x.2.2.1 ++ fe x.2.2.2)))) from rfl]
  rw [List.append_assoc, List.append_assoc]
theorem pcast {f : Nat} {a a' : List Value} {v v' : Value} (ha : a = a') (hv : v = v') (h : Pure Tryz.prog Gt f a' v') : Pure Tryz.prog Gt f a v := by rw [ha, hv]; exact h
theorem l1 {a b : Value} (h : a = b) : [a] = [b] := by rw [h]
theorem l2 {a b c d : Value} (h : a = b) (k : c = d) : [a, c] = [b, d] := by rw [h, k]
theorem t2 {a b c : Value} (h : a = b) : Value.tuple #[a, c] = .tuple #[b, c] := by rw [h]
theorem r5subE (x y : W2) : Pure Tryz.prog Gt 107 [EV2 x, EV2 y] (EV2 (E2w.sub x y)) := by
  have h := r5sub x y
  rw [sb2_eq] at h
  exact h
def sm2 (a b : BitVec 64) : W2 := (zp a.toNat, zp b.toNat)
def TO51 : Tb Tryz.prog Gt := TO50.add (wq2ag_q2ag_q2rd (g := E2w.sub) ent107 r5subE)
theorem small5r (a b : BitVec 64) : Pure Tryz.prog Gt 89 [U64 a, U64 b] (EV2 (sm2 a b)) := by
  intro w hw
  have hGF : BOk Gt (pl w) := gt_low.plain hw
  refine calls_of_X (G := Gt) Tryz.func89 rfl rfl (Hp (pl w) []) (hp_refl (pl w) trivial rides_true) (good_hp hGF) ?_
  refine xs_plain (E := EE []) ?_
  refine lx_allocr 4 hGF zv37 rfl rfl ?_
  intro b4
  refine lx_nil ?_
  refine xs_plain (E := EE []) ?_
  refine lx_move rfl rfl rfl ?_
  refine lx_call rfl rfl ent68 (rsmallE _) rfl rfl ?_
  refine lx_move rfl rfl rfl ?_
  refine lx_call rfl rfl ent68 (rsmallE _) rfl rfl ?_
  refine lx_two two37 rfl rfl (by simp) (by simp) rfl rfl ?_
  refine lx_storea 4 hGF rfl rfl rfl Tryz.sizeOf37 (by simp) (by simp) (one_u64 _) rfl ?_
  refine lx_nil ?_
  refine x_ret ?_
  repeat (first | refine kseq_ret ?_ | refine kblk_ret ?_)
  exact kret_own 4 rfl rfl rfl Tryz.isAgg37 Tryz.sizeOf37 (by simp) (fun w hw => ⟨rfl, hp_below hw⟩)
theorem wagU_agU_q2rd {f : Nat} {g : BitVec 64 → BitVec 64 → W2} (en : Enters Tryz.prog f) (h : ∀ a b, Pure Tryz.prog Gt f [U64 a, U64 b] (EV2 (g a b))) : Snd Tryz.prog Gt f (c2 agU agU q2.rd g) := c2_ok agU agU q2.rd en h
def TO52 : Tb Tryz.prog Gt := TO51.add (wagU_agU_q2rd (g := sm2) ent89 small5r)
theorem r9none (x : W6) : Pure Tryz.prog Gt 64 [EV6 x] (.bool (decide (x.2.2 = ze2))) := (pcast (l1 (V6 _)) rfl (pE TO52 Tryz.func64 [.inl [x.1.1, x.1.2, x.2.1.1, x.2.1.2, x.2.2.1, x.2.2.2]] (.inl (.inr (.inl (decide (x.2.2 = ze2))))) (.inl (.inr (.inl (decide ((x.2.2.1, x.2.2.2) = ze2)))), []) [] (by kernel_rfl) ok_nil rfl))
theorem wq6ag_rdB {f : Nat} {g : W6 → Bool} (en : Enters Tryz.prog f) (h : ∀ a, Pure Tryz.prog Gt f [EV6 a] (.bool (g a))) : Snd Tryz.prog Gt f (c1 q6.ag rdB g) := c1_ok q6.ag rdB en (fun a => pcast (l1 (V6 _).symm) rfl (h a))
def TO53 : Tb Tryz.prog Gt := TO52.add (wq6ag_rdB (g := fun x => decide (x.2.2 = ze2)) ent64 r9none)
theorem r9at (a b : W2) : Pure Tryz.prog Gt 61 [EV2 a, EV2 b] (EV6 (a, b, on2)) := (pcast rfl (V6 _) (pE TO53 Tryz.func61 [.inl [a.1, a.2], .inl [b.1, b.2]] (.inl (.inl [(a, b, on2).1.1, (a, b, on2).1.2, (a, b, on2).2.1.1, (a, b, on2).2.1.2, (a, b, on2).2.2.1, (a, b, on2).2.2.2])) (let t0 := on2; (.inl (.inl [a.1, a.2, b.1, b.2, t0.1, t0.2]), [])) [] (by kernel_rfl) ok_nil rfl))
theorem wq2ag_q2ag_q6rd {f : Nat} {g : W2 → W2 → W6} (en : Enters Tryz.prog f) (h : ∀ a b, Pure Tryz.prog Gt f [EV2 a, EV2 b] (EV6 (g a b))) : Snd Tryz.prog Gt f (c2 q2.ag q2.ag q6.rd g) := c2_ok q2.ag q2.ag q6.rd en (fun a b => pcast rfl (V6 _).symm (h a b))
def TO54 : Tb Tryz.prog Gt := TO53.add (wq2ag_q2ag_q6rd (g := fun a b => (a, b, on2)) ent61 r9at)
theorem r9neg (x : W6) : Pure Tryz.prog Gt 63 [EV6 x] (EV6 (x.1, ng2 x.2.1, x.2.2)) := (pcast (l1 (V6 _)) (V6 _) (pE TO54 Tryz.func63 [.inl [x.1.1, x.1.2, x.2.1.1, x.2.1.2, x.2.2.1, x.2.2.2]] (.inl (.inl [(x.1, ng2 x.2.1, x.2.2).1.1, (x.1, ng2 x.2.1, x.2.2).1.2, (x.1, ng2 x.2.1, x.2.2).2.1.1, (x.1, ng2 x.2.1, x.2.2).2.1.2, (x.1, ng2 x.2.1, x.2.2).2.2.1, (x.1, ng2 x.2.1, x.2.2).2.2.2])) (let t0 := ng2 (x.2.1.1, x.2.1.2); (.inl (.inl [x.1.1, x.1.2, t0.1, t0.2, x.2.2.1, x.2.2.2]), [])) [] (by kernel_rfl) ok_nil rfl))
theorem wq6ag_q6rd {f : Nat} {g : W6 → W6} (en : Enters Tryz.prog f) (h : ∀ a, Pure Tryz.prog Gt f [EV6 a] (EV6 (g a))) : Snd Tryz.prog Gt f (c1 q6.ag q6.rd g) := c1_ok q6.ag q6.rd en (fun a => pcast (l1 (V6 _).symm) (V6 _).symm (h a))
def TO55 : Tb Tryz.prog Gt := TO54.add (wq6ag_q6rd (g := fun x => (x.1, ng2 x.2.1, x.2.2)) ent63 r9neg)
theorem r9double (x : W6) : Pure Tryz.prog Gt 108 [EV6 x] (EV6 (E2w.jdF x)) := by
  by_cases h : x.2.2 = ze2
  · exact (pcast (l1 (V6 _)) (V6 _) (pE TO55 Tryz.func108 [.inl [x.1.1, x.1.2, x.2.1.1, x.2.1.2, x.2.2.1, x.2.2.2]] (.inl (.inl [(E2w.jdF x).1.1, (E2w.jdF x).1.2, (E2w.jdF x).2.1.1, (E2w.jdF x).2.1.2, (E2w.jdF x).2.2.1, (E2w.jdF x).2.2.2])) (.inl (.inl [0, 0, 0, 0, 0, 0]), [(decide (x.2.2 = ze2), true)]) [some true] (by kernel_rfl) (ok_cons (decide_eq_true h) ok_nil) (by rw [show E2w.jdF x = (ze2, ze2, ze2) from if_pos (.inl h)] <;> exact rfl)))
  · by_cases h2 : x.2.1 = ze2
    · exact (pcast (l1 (V6 _)) (V6 _) (pE TO55 Tryz.func108 [.inl [x.1.1, x.1.2, x.2.1.1, x.2.1.2, x.2.2.1, x.2.2.2]] (.inl (.inl [(E2w.jdF x).1.1, (E2w.jdF x).1.2, (E2w.jdF x).2.1.1, (E2w.jdF x).2.1.2, (E2w.jdF x).2.2.1, (E2w.jdF x).2.2.2])) (.inl (.inl [0, 0, 0, 0, 0, 0]), [(decide (x.2.2 = ze2), false), (decide ((x.2.1.1, x.2.1.2) = ze2), true)]) [some false, some true] (by kernel_rfl) (ok_cons (decide_eq_false h) (ok_cons (decide_eq_true h2) ok_nil)) (by rw [show E2w.jdF x = (ze2, ze2, ze2) from if_pos (.inr h2)] <;> exact rfl)))
    · exact (pcast (l1 (V6 _)) (V6 _) (pE TO55 Tryz.func108 [.inl [x.1.1, x.1.2, x.2.1.1, x.2.1.2, x.2.2.1, x.2.2.2]] (.inl (.inl [(E2w.jdF x).1.1, (E2w.jdF x).1.2, (E2w.jdF x).2.1.1, (E2w.jdF x).2.1.2, (E2w.jdF x).2.2.1, (E2w.jdF x).2.2.2])) (let t0 := ml2 (x.1.1, x.1.2) (x.1.1, x.1.2); let t1 := ml2 (x.2.1.1, x.2.1.2) (x.2.1.1, x.2.1.2); let t2 := ml2 (x.1.1, x.1.2) (t1.1, t1.2); let t3 := ad2 (t2.1, t2.2) (t2.1, t2.2); let t4 := ad2 (t3.1, t3.2) (t3.1, t3.2); let t5 := ad2 (t0.1, t0.2) (t0.1, t0.2); let t6 := ad2 (t5.1, t5.2) (t0.1, t0.2); let t7 := ml2 (t6.1, t6.2) (t6.1, t6.2); let t8 := E2w.sub (t7.1, t7.2) (t4.1, t4.2); let t9 := E2w.sub (t8.1, t8.2) (t4.1, t4.2); let t10 := ml2 (t1.1, t1.2) (t1.1, t1.2); let t11 := ad2 (t10.1, t10.2) (t10.1, t10.2); let t12 := ad2 (t11.1, t11.2) (t11.1, t11.2); let t13 := ad2 (t12.1, t12.2) (t12.1, t12.2); let t14 := ml2 (x.2.1.1, x.2.1.2) (x.2.2.1, x.2.2.2); let t15 := E2w.sub (t4.1, t4.2) (t9.1, t9.2); let t16 := ml2 (t6.1, t6.2) (t15.1, t15.2); let t17 := E2w.sub (t16.1, t16.2) (t13.1, t13.2); let t18 := ad2 (t14.1, t14.2) (t14.1, t14.2); (.inl (.inl [t9.1, t9.2, t17.1, t17.2, t18.1, t18.2]), [(decide (x.2.2 = ze2), false), (decide ((x.2.1.1, x.2.1.2) = ze2), false)])) [some false, some false] (by kernel_rfl) (ok_cons (decide_eq_false h) (ok_cons (decide_eq_false h2) ok_nil)) (by rw [show E2w.jdF x = E2w.jd x.1 x.2.1 x.2.2 from if_neg (fun e => e.elim h h2)] <;> exact rfl)))
def TO56 : Tb Tryz.prog Gt := TO55.add (wq6ag_q6rd (g := E2w.jdF) ent108 r9double)
theorem r9add (x y : W6) : Pure Tryz.prog Gt 62 [EV6 x, EV6 y] (EV6 (E2w.jaF x y)) := by
  by_cases h1 : x.2.2 = ze2
  · exact (pcast (l2 (V6 _) (V6 _)) (V6 _) (pE TO56 Tryz.func62 [.inl [x.1.1, x.1.2, x.2.1.1, x.2.1.2, x.2.2.1, x.2.2.2], .inl [y.1.1, y.1.2, y.2.1.1, y.2.1.2, y.2.2.1, y.2.2.2]] (.inl (.inl [(E2w.jaF x y).1.1, (E2w.jaF x y).1.2, (E2w.jaF x y).2.1.1, (E2w.jaF x y).2.1.2, (E2w.jaF x y).2.2.1, (E2w.jaF x y).2.2.2])) (.inl (.inl [y.1.1, y.1.2, y.2.1.1, y.2.1.2, y.2.2.1, y.2.2.2]), [(decide (x.2.2 = ze2), true)]) [some true] (by kernel_rfl) (ok_cons (decide_eq_true h1) ok_nil) (by rw [show E2w.jaF x y = y from if_pos h1] <;> exact rfl)))
  · by_cases h2 : y.2.2 = ze2
    · exact (pcast (l2 (V6 _) (V6 _)) (V6 _) (pE TO56 Tryz.func62 [.inl [x.1.1, x.1.2, x.2.1.1, x.2.1.2, x.2.2.1, x.2.2.2], .inl [y.1.1, y.1.2, y.2.1.1, y.2.1.2, y.2.2.1, y.2.2.2]] (.inl (.inl [(E2w.jaF x y).1.1, (E2w.jaF x y).1.2, (E2w.jaF x y).2.1.1, (E2w.jaF x y).2.1.2, (E2w.jaF x y).2.2.1, (E2w.jaF x y).2.2.2])) (.inl (.inl [x.1.1, x.1.2, x.2.1.1, x.2.1.2, x.2.2.1, x.2.2.2]), [(decide (x.2.2 = ze2), false), (decide (y.2.2 = ze2), true)]) [some false, some true] (by kernel_rfl) (ok_cons (decide_eq_false h1) (ok_cons (decide_eq_true h2) ok_nil)) (by rw [show E2w.jaF x y = x from (if_neg h1).trans (if_pos h2)] <;> exact rfl)))
    · by_cases h3 : E2w.jh x.1 x.2.2 y.1 y.2.2 = ze2
      · by_cases h4 : E2w.jq x.2.1 x.2.2 y.2.1 y.2.2 = ze2
        · exact (pcast (l2 (V6 _) (V6 _)) (V6 _) (pE TO56 Tryz.func62 [.inl [x.1.1, x.1.2, x.2.1.1, x.2.1.2, x.2.2.1, x.2.2.2], .inl [y.1.1, y.1.2, y.2.1.1, y.2.1.2, y.2.2.1, y.2.2.2]] (.inl (.inl [(E2w.jaF x y).1.1, (E2w.jaF x y).1.2, (E2w.jaF x y).2.1.1, (E2w.jaF x y).2.1.2, (E2w.jaF x y).2.2.1, (E2w.jaF x y).2.2.2])) (let t0 := ml2 (x.2.2.1, x.2.2.2) (x.2.2.1, x.2.2.2); let t1 := ml2 (y.2.2.1, y.2.2.2) (y.2.2.1, y.2.2.2); let t2 := ml2 (x.1.1, x.1.2) (t1.1, t1.2); let t3 := ml2 (y.1.1, y.1.2) (t0.1, t0.2); let t4 := ml2 (x.2.1.1, x.2.1.2) (t1.1, t1.2); let t5 := ml2 (t4.1, t4.2) (y.2.2.1, y.2.2.2); let t6 := ml2 (y.2.1.1, y.2.1.2) (t0.1, t0.2); let t7 := ml2 (t6.1, t6.2) (x.2.2.1, x.2.2.2); let t8 := E2w.sub (t3.1, t3.2) (t2.1, t2.2); let t9 := E2w.sub (t7.1, t7.2) (t5.1, t5.2); let t10 := E2w.jdF x; (.inl (.inl [t10.1.1, t10.1.2, t10.2.1.1, t10.2.1.2, t10.2.2.1, t10.2.2.2]), [(decide (x.2.2 = ze2), false), (decide (y.2.2 = ze2), false), (decide ((t8.1, t8.2) = ze2), true), (decide ((t9.1, t9.2) = ze2), true)])) [some false, some false, some true, some true] (by kernel_rfl) (ok_cons (decide_eq_false h1) (ok_cons (decide_eq_false h2) (ok_cons (decide_eq_true h3) (ok_cons (decide_eq_true h4) ok_nil)))) (by rw [show E2w.jaF x y = E2w.jdF x from (if_neg h1).trans ((if_neg h2).trans ((if_pos h3).trans (if_pos h4)))] <;> exact rfl)))
        · exact (pcast (l2 (V6 _) (V6 _)) (V6 _) (pE TO56 Tryz.func62 [.inl [x.1.1, x.1.2, x.2.1.1, x.2.1.2, x.2.2.1, x.2.2.2], .inl [y.1.1, y.1.2, y.2.1.1, y.2.1.2, y.2.2.1, y.2.2.2]] (.inl (.inl [(E2w.jaF x y).1.1, (E2w.jaF x y).1.2, (E2w.jaF x y).2.1.1, (E2w.jaF x y).2.1.2, (E2w.jaF x y).2.2.1, (E2w.jaF x y).2.2.2])) (let t0 := ml2 (x.2.2.1, x.2.2.2) (x.2.2.1, x.2.2.2); let t1 := ml2 (y.2.2.1, y.2.2.2) (y.2.2.1, y.2.2.2); let t2 := ml2 (x.1.1, x.1.2) (t1.1, t1.2); let t3 := ml2 (y.1.1, y.1.2) (t0.1, t0.2); let t4 := ml2 (x.2.1.1, x.2.1.2) (t1.1, t1.2); let t5 := ml2 (t4.1, t4.2) (y.2.2.1, y.2.2.2); let t6 := ml2 (y.2.1.1, y.2.1.2) (t0.1, t0.2); let t7 := ml2 (t6.1, t6.2) (x.2.2.1, x.2.2.2); let t8 := E2w.sub (t3.1, t3.2) (t2.1, t2.2); let t9 := E2w.sub (t7.1, t7.2) (t5.1, t5.2); (.inl (.inl [0, 0, 0, 0, 0, 0]), [(decide (x.2.2 = ze2), false), (decide (y.2.2 = ze2), false), (decide ((t8.1, t8.2) = ze2), true), (decide ((t9.1, t9.2) = ze2), false)])) [some false, some false, some true, some false] (by kernel_rfl) (ok_cons (decide_eq_false h1) (ok_cons (decide_eq_false h2) (ok_cons (decide_eq_true h3) (ok_cons (decide_eq_false h4) ok_nil)))) (by rw [show E2w.jaF x y = (ze2, ze2, ze2) from (if_neg h1).trans ((if_neg h2).trans ((if_pos h3).trans (if_neg h4)))] <;> exact rfl)))
      · exact (pcast (l2 (V6 _) (V6 _)) (V6 _) (pE TO56 Tryz.func62 [.inl [x.1.1, x.1.2, x.2.1.1, x.2.1.2, x.2.2.1, x.2.2.2], .inl [y.1.1, y.1.2, y.2.1.1, y.2.1.2, y.2.2.1, y.2.2.2]] (.inl (.inl [(E2w.jaF x y).1.1, (E2w.jaF x y).1.2, (E2w.jaF x y).2.1.1, (E2w.jaF x y).2.1.2, (E2w.jaF x y).2.2.1, (E2w.jaF x y).2.2.2])) (let t0 := ml2 (x.2.2.1, x.2.2.2) (x.2.2.1, x.2.2.2); let t1 := ml2 (y.2.2.1, y.2.2.2) (y.2.2.1, y.2.2.2); let t2 := ml2 (x.1.1, x.1.2) (t1.1, t1.2); let t3 := ml2 (y.1.1, y.1.2) (t0.1, t0.2); let t4 := ml2 (x.2.1.1, x.2.1.2) (t1.1, t1.2); let t5 := ml2 (t4.1, t4.2) (y.2.2.1, y.2.2.2); let t6 := ml2 (y.2.1.1, y.2.1.2) (t0.1, t0.2); let t7 := ml2 (t6.1, t6.2) (x.2.2.1, x.2.2.2); let t8 := E2w.sub (t3.1, t3.2) (t2.1, t2.2); let t9 := E2w.sub (t7.1, t7.2) (t5.1, t5.2); let t10 := ml2 (t8.1, t8.2) (t8.1, t8.2); let t11 := ml2 (t10.1, t10.2) (t8.1, t8.2); let t12 := ml2 (t2.1, t2.2) (t10.1, t10.2); let t13 := ml2 (t9.1, t9.2) (t9.1, t9.2); let t14 := E2w.sub (t13.1, t13.2) (t11.1, t11.2); let t15 := E2w.sub (t14.1, t14.2) (t12.1, t12.2); let t16 := E2w.sub (t15.1, t15.2) (t12.1, t12.2); let t17 := E2w.sub (t12.1, t12.2) (t16.1, t16.2); let t18 := ml2 (t9.1, t9.2) (t17.1, t17.2); let t19 := ml2 (t5.1, t5.2) (t11.1, t11.2); let t20 := E2w.sub (t18.1, t18.2) (t19.1, t19.2); let t21 := ml2 (x.2.2.1, x.2.2.2) (y.2.2.1, y.2.2.2); let t22 := ml2 (t21.1, t21.2) (t8.1, t8.2); (.inl (.inl [t16.1, t16.2, t20.1, t20.2, t22.1, t22.2]), [(decide (x.2.2 = ze2), false), (decide (y.2.2 = ze2), false), (decide ((t8.1, t8.2) = ze2), false)])) [some false, some false, some false] (by kernel_rfl) (ok_cons (decide_eq_false h1) (ok_cons (decide_eq_false h2) (ok_cons (decide_eq_false h3) ok_nil))) (by rw [show E2w.jaF x y = E2w.ja x.1 x.2.1 x.2.2 y.1 y.2.1 y.2.2 from (if_neg h1).trans ((if_neg h2).trans (if_neg h3))] <;> exact rfl)))
theorem wq6ag_q6ag_q6rd {f : Nat} {g : W6 → W6 → W6} (en : Enters Tryz.prog f) (h : ∀ a b, Pure Tryz.prog Gt f [EV6 a, EV6 b] (EV6 (g a b))) : Snd Tryz.prog Gt f (c2 q6.ag q6.ag q6.rd g) := c2_ok q6.ag q6.ag q6.rd en (fun a b => pcast (l2 (V6 _).symm (V6 _).symm) (V6 _).symm (h a b))
def TO57 : Tb Tryz.prog Gt := TO56.add (wq6ag_q6ag_q6rd (g := E2w.jaF) ent62 r9add)
theorem r9equal (x y : W6) : Pure Tryz.prog Gt 19 [EV6 x, EV6 y] (.bool (decide ((E2w.jaF x (y.1, ng2 y.2.1, y.2.2)).2.2 = ze2))) := (pcast (l2 (V6 _) (V6 _)) rfl (pE TO57 Tryz.func19 [.inl [x.1.1, x.1.2, x.2.1.1, x.2.1.2, x.2.2.1, x.2.2.2], .inl [y.1.1, y.1.2, y.2.1.1, y.2.1.2, y.2.2.1, y.2.2.2]] (.inl (.inr (.inl (decide ((E2w.jaF x (y.1, ng2 y.2.1, y.2.2)).2.2 = ze2))))) (let t0 := (y.1, ng2 y.2.1, y.2.2); let t1 := E2w.jaF x ((t0.1.1, t0.1.2), (t0.2.1.1, t0.2.1.2), (t0.2.2.1, t0.2.2.2)); (.inl (.inr (.inl (decide (((t1.1.1, t1.1.2), (t1.2.1.1, t1.2.1.2), (t1.2.2.1, t1.2.2.2)).2.2 = ze2)))), [])) [] (by kernel_rfl) ok_nil rfl))
theorem wq6ag_q6ag_rdB {f : Nat} {g : W6 → W6 → Bool} (en : Enters Tryz.prog f) (h : ∀ a b, Pure Tryz.prog Gt f [EV6 a, EV6 b] (.bool (g a b))) : Snd Tryz.prog Gt f (c2 q6.ag q6.ag rdB g) := c2_ok q6.ag q6.ag rdB en (fun a b => pcast (l2 (V6 _).symm (V6 _).symm) rfl (h a b))
def TO58 : Tb Tryz.prog Gt := TO57.add (wq6ag_q6ag_rdB (g := fun x y => (decide ((E2w.jaF x (y.1, ng2 y.2.1, y.2.2)).2.2 = ze2))) ent19 r9equal)
end Go.Proofs.YtdkmalaffcfoeaaGreatDoor

namespace Go.Proofs.YtdkmalaffcfoeaaGreatDoor
open Go.RowKit
set_option maxRecDepth 100000
set_option maxHeartbeats 1000000
attribute [local simp] fe_len nm_len AS_len SS_len MONT_len RM_len FRs_len BYs_len by48_len PLl TWOl ONEl N1l IVPl HFPl RTPl FL_len SP_len fe2_len SP2_len FM_len

/-- r, as numbers and as bytes. -/
def RRL : List (BitVec 64) := [18446744069414584321#64, 6034159408538082302#64, 3691218898639771653#64, 8353516859464449352#64, 0#64, 0#64]
def RB48 : List (BitVec 8) := BYs RRL 48
theorem RB48_len : RB48.length = 48 := by decide +kernel
theorem RRL_len : RRL.length = 6 := rfl
attribute [local simp] RB48_len RRL_len
end Go.Proofs.YtdkmalaffcfoeaaGreatDoor
