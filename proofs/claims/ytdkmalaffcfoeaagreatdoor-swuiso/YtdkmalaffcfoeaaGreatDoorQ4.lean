/-
  The program's points.
  The program's points.
-/
import Derived.Test.YtdkmalaffcfoeaaGreatDoorQ3
import Derived.Test.YtdkmalaffcfoeaaGreatDoorX5
import Derived.Test.YtdkmalaffcfoeaaGreatDoorX3
namespace Go.Proofs.YtdkmalaffcfoeaaGreatDoor
open Go.RowKit
set_option maxRecDepth 100000
set_option maxHeartbeats 1000000
attribute [local simp] fe_len nm_len AS_len SS_len MONT_len RM_len FRs_len BYs_len by48_len PLl TWOl ONEl N1l IVPl HFPl RTPl FL_len SP_len fe2_len SP2_len FM_len

theorem ent59 : Enters Tryz.prog 59 := fun _ _ => by kernel_rfl
theorem ent26 : Enters Tryz.prog 26 := fun _ _ => by kernel_rfl
theorem ent22 : Enters Tryz.prog 22 := fun _ _ => by kernel_rfl
theorem ent23 : Enters Tryz.prog 23 := fun _ _ => by kernel_rfl
theorem ent71 : Enters Tryz.prog 71 := fun _ _ => by kernel_rfl
theorem ent17 : Enters Tryz.prog 17 := fun _ _ => by kernel_rfl
theorem ent60 : Enters Tryz.prog 60 := fun _ _ => by kernel_rfl
theorem ent106 : Enters Tryz.prog 106 := fun _ _ => by kernel_rfl
theorem ent105 : Enters Tryz.prog 105 := fun _ _ => by kernel_rfl
/-- A point of the program: three numbers that stand for a point of the curve. -/
structure GP where
  J : W6
  P : Pt W2
  on : E2w.onP P
  jr : E2w.jr J P
/-- Its cells. -/
def GL (p : GP) : List (BitVec 64) := ((fe p.J.1.1 ++ fe p.J.1.2) ++ ((fe p.J.2.1.1 ++ fe p.J.2.1.2) ++ (fe p.J.2.2.1 ++ fe p.J.2.2.2)))
theorem GL_len (p : GP) : (GL p).length = 36 := by simp [GL]
attribute [local simp] GL_len
/-- A point of the program as a value. -/
abbrev PtV (p : GP) : Value := .agg ((GL p).map U64).toArray
def PX : Pt W2 → W2
  | none => ze2
  | some p => p.1
def PY : Pt W2 → W2
  | none => ze2
  | some p => p.2
/-- The right side of the curve's equation; is it a square? -/
def RS4 (x : W2) : W2 := ad2 (ml2 (ml2 x x) x) E2w.b
theorem E1_rs {x y : W2} : E2w.on (x, y) ↔ ml2 y y = RS4 x := by
  show ml2 y y = ad2 (ml2 x (ml2 x x)) E2w.b ↔ ml2 y y = ad2 (ml2 (ml2 x x) x) E2w.b
  rw [show ml2 x (ml2 x x) = ml2 (ml2 x x) x from R2.mul_comm _ _]
theorem onP_some {p : W2 × W2} (h : E2w.on p) : E2w.onP (some p) := h
theorem zj46 (w : World) : (zeroValue 46).run Tryz.prog w = .ok (.agg (((fe 0 ++ fe 0) ++ ((fe 0 ++ fe 0) ++ (fe 0 ++ fe 0))).map U64).toArray) w := by rw [fe_0]; exact (Tryz.zeroValue46 w).trans (by rfl)
theorem jisInf (x : W6) : Pure Tryz.prog Gt 26 [EV6 x] (.bool (decide (x.2.2 = ze2))) := (pcast (l1 (V6 _)) rfl (pE TO58 Tryz.func26 [.inl [x.1.1, x.1.2, x.2.1.1, x.2.1.2, x.2.2.1, x.2.2.2]] (.inl (.inr (.inl (decide (x.2.2 = ze2))))) (.inl (.inr (.inl (decide ((x.2.2.1, x.2.2.2) = ze2)))), []) [] (by kernel_rfl) ok_nil rfl))
def TO59 : Tb Tryz.prog Gt := TO58.add (wq6ag_rdB (g := fun x => decide (x.2.2 = ze2)) ent26 jisInf)
theorem jneg (x : W6) : Pure Tryz.prog Gt 23 [EV6 x] (EV6 (x.1, ng2 x.2.1, x.2.2)) := (pcast (l1 (V6 _)) (V6 _) (pE TO59 Tryz.func23 [.inl [x.1.1, x.1.2, x.2.1.1, x.2.1.2, x.2.2.1, x.2.2.2]] (.inl (.inl [(x.1, ng2 x.2.1, x.2.2).1.1, (x.1, ng2 x.2.1, x.2.2).1.2, (x.1, ng2 x.2.1, x.2.2).2.1.1, (x.1, ng2 x.2.1, x.2.2).2.1.2, (x.1, ng2 x.2.1, x.2.2).2.2.1, (x.1, ng2 x.2.1, x.2.2).2.2.2])) (let t0 := ng2 (x.2.1.1, x.2.1.2); (.inl (.inl [x.1.1, x.1.2, t0.1, t0.2, x.2.2.1, x.2.2.2]), [])) [] (by kernel_rfl) ok_nil rfl))
def TO60 : Tb Tryz.prog Gt := TO59.add (wq6ag_q6rd (g := fun x => (x.1, ng2 x.2.1, x.2.2)) ent23 jneg)
theorem jinf  : Pure Tryz.prog Gt 59 [] (EV6 (ze2, ze2, ze2)) := (pcast rfl (V6 _) (pE TO60 Tryz.func59 [] (.inl (.inl [(ze2, ze2, ze2).1.1, (ze2, ze2, ze2).1.2, (ze2, ze2, ze2).2.1.1, (ze2, ze2, ze2).2.1.2, (ze2, ze2, ze2).2.2.1, (ze2, ze2, ze2).2.2.2])) (.inl (.inl [0, 0, 0, 0, 0, 0]), []) [] (by kernel_rfl) ok_nil rfl))
theorem wq6rd {f : Nat} {g : W6} (en : Enters Tryz.prog f) (h : Pure Tryz.prog Gt f [] (EV6 g)) : Snd Tryz.prog Gt f (c0 q6.rd g) := c0_ok q6.rd en (pcast rfl (V6 _).symm h)
def TO61 : Tb Tryz.prog Gt := TO60.add (wq6rd (g := (ze2, ze2, ze2)) ent59 jinf)
theorem jcube (a : W2) : Pure Tryz.prog Gt 71 [EV2 a] (EV2 (ml2 (ml2 a a) a)) := pE TO61 Tryz.func71 [.inl [a.1, a.2]] (.inl (.inl [(ml2 (ml2 a a) a).1, (ml2 (ml2 a a) a).2])) (let t0 := ml2 a a; let t1 := ml2 (t0.1, t0.2) a; (.inl (.inl [t1.1, t1.2]), [])) [] (by kernel_rfl) ok_nil rfl
def TO62 : Tb Tryz.prog Gt := TO61.add (wq2ag_q2rd (g := fun a => ml2 (ml2 a a) a) ent71 jcube)
theorem jequal (x y : W6) (hd : Decidable (E2w.eqJ x y)) (b : Bool) (hb : b = decide (E2w.eqJ x y)) : Pure Tryz.prog Gt 22 [EV6 x, EV6 y] (.bool b) := by
  by_cases h1 : x.2.2 = ze2
  · by_cases h2 : y.2.2 = ze2
    · exact (pcast (l2 (V6 _) (V6 _)) rfl (pE TO62 Tryz.func22 [.inl [x.1.1, x.1.2, x.2.1.1, x.2.1.2, x.2.2.1, x.2.2.2], .inl [y.1.1, y.1.2, y.2.1.1, y.2.1.2, y.2.2.1, y.2.2.2]] (.inl (.inr (.inl b))) (.inl (.inr (.inl true)), [(decide (x.2.2 = ze2), true), (decide (x.2.2 = ze2), true), (decide (y.2.2 = ze2), true)]) [some true, some true, some true] (by kernel_rfl) (ok_cons (decide_eq_true h1) (ok_cons (decide_eq_true h1) (ok_cons (decide_eq_true h2) ok_nil))) (by obtain rfl : b = true := hb.trans (decide_eq_true (.inl ⟨h1, h2⟩)) <;> exact rfl)))
    · exact (pcast (l2 (V6 _) (V6 _)) rfl (pE TO62 Tryz.func22 [.inl [x.1.1, x.1.2, x.2.1.1, x.2.1.2, x.2.2.1, x.2.2.2], .inl [y.1.1, y.1.2, y.2.1.1, y.2.1.2, y.2.2.1, y.2.2.2]] (.inl (.inr (.inl b))) (.inl (.inr (.inl false)), [(decide (x.2.2 = ze2), true), (decide (x.2.2 = ze2), true), (decide (y.2.2 = ze2), false)]) [some true, some true, some false] (by kernel_rfl) (ok_cons (decide_eq_true h1) (ok_cons (decide_eq_true h1) (ok_cons (decide_eq_false h2) ok_nil))) (by obtain rfl : b = false := hb.trans (decide_eq_false (fun e => e.elim (fun e => h2 e.2) (fun e => e.1 h1))) <;> exact rfl)))
  · by_cases h2 : y.2.2 = ze2
    · exact (pcast (l2 (V6 _) (V6 _)) rfl (pE TO62 Tryz.func22 [.inl [x.1.1, x.1.2, x.2.1.1, x.2.1.2, x.2.2.1, x.2.2.2], .inl [y.1.1, y.1.2, y.2.1.1, y.2.1.2, y.2.2.1, y.2.2.2]] (.inl (.inr (.inl b))) (.inl (.inr (.inl false)), [(decide (x.2.2 = ze2), false), (decide (y.2.2 = ze2), true), (decide (x.2.2 = ze2), false)]) [some false, some true, some false] (by kernel_rfl) (ok_cons (decide_eq_false h1) (ok_cons (decide_eq_true h2) (ok_cons (decide_eq_false h1) ok_nil))) (by obtain rfl : b = false := hb.trans (decide_eq_false (fun e => e.elim (fun e => h1 e.1) (fun e => e.2.1 h2))) <;> exact rfl)))
    · by_cases h3 : ml2 x.1 (ml2 y.2.2 y.2.2) = ml2 y.1 (ml2 x.2.2 x.2.2)
      · by_cases h4 : ml2 x.2.1 (ml2 (ml2 y.2.2 y.2.2) y.2.2) = ml2 y.2.1 (ml2 (ml2 x.2.2 x.2.2) x.2.2)
        · exact (pcast (l2 (V6 _) (V6 _)) rfl (pE TO62 Tryz.func22 [.inl [x.1.1, x.1.2, x.2.1.1, x.2.1.2, x.2.2.1, x.2.2.2], .inl [y.1.1, y.1.2, y.2.1.1, y.2.1.2, y.2.2.1, y.2.2.2]] (.inl (.inr (.inl b))) (let t0 := ml2 (ml2 (y.2.2.1, y.2.2.2) (y.2.2.1, y.2.2.2)) (y.2.2.1, y.2.2.2); let t1 := ml2 (x.2.1.1, x.2.1.2) (t0.1, t0.2); let t2 := ml2 (ml2 (x.2.2.1, x.2.2.2) (x.2.2.1, x.2.2.2)) (x.2.2.1, x.2.2.2); let t3 := ml2 (y.2.1.1, y.2.1.2) (t2.1, t2.2); let t4 := ml2 (y.2.2.1, y.2.2.2) (y.2.2.1, y.2.2.2); let t5 := ml2 (x.1.1, x.1.2) (t4.1, t4.2); let t6 := ml2 (x.2.2.1, x.2.2.2) (x.2.2.1, x.2.2.2); let t7 := ml2 (y.1.1, y.1.2) (t6.1, t6.2); (.inl (.inr (.inl true)), [(decide (x.2.2 = ze2), false), (decide (y.2.2 = ze2), false), (decide ((t5.1, t5.2) = (t7.1, t7.2)), true), (decide ((t1.1, t1.2) = (t3.1, t3.2)), true)])) [some false, some false, some true, some true] (by kernel_rfl) (ok_cons (decide_eq_false h1) (ok_cons (decide_eq_false h2) (ok_cons (decide_eq_true h3) (ok_cons (decide_eq_true h4) ok_nil)))) (by obtain rfl : b = true := hb.trans (decide_eq_true (.inr ⟨h1, h2, h3, h4⟩)) <;> exact rfl)))
        · exact (pcast (l2 (V6 _) (V6 _)) rfl (pE TO62 Tryz.func22 [.inl [x.1.1, x.1.2, x.2.1.1, x.2.1.2, x.2.2.1, x.2.2.2], .inl [y.1.1, y.1.2, y.2.1.1, y.2.1.2, y.2.2.1, y.2.2.2]] (.inl (.inr (.inl b))) (let t0 := ml2 (ml2 (y.2.2.1, y.2.2.2) (y.2.2.1, y.2.2.2)) (y.2.2.1, y.2.2.2); let t1 := ml2 (x.2.1.1, x.2.1.2) (t0.1, t0.2); let t2 := ml2 (ml2 (x.2.2.1, x.2.2.2) (x.2.2.1, x.2.2.2)) (x.2.2.1, x.2.2.2); let t3 := ml2 (y.2.1.1, y.2.1.2) (t2.1, t2.2); let t4 := ml2 (y.2.2.1, y.2.2.2) (y.2.2.1, y.2.2.2); let t5 := ml2 (x.1.1, x.1.2) (t4.1, t4.2); let t6 := ml2 (x.2.2.1, x.2.2.2) (x.2.2.1, x.2.2.2); let t7 := ml2 (y.1.1, y.1.2) (t6.1, t6.2); (.inl (.inr (.inl false)), [(decide (x.2.2 = ze2), false), (decide (y.2.2 = ze2), false), (decide ((t5.1, t5.2) = (t7.1, t7.2)), true), (decide ((t1.1, t1.2) = (t3.1, t3.2)), false)])) [some false, some false, some true, some false] (by kernel_rfl) (ok_cons (decide_eq_false h1) (ok_cons (decide_eq_false h2) (ok_cons (decide_eq_true h3) (ok_cons (decide_eq_false h4) ok_nil)))) (by obtain rfl : b = false := hb.trans (decide_eq_false (fun e => e.elim (fun e => h1 e.1) (fun e => h4 e.2.2.2))) <;> exact rfl)))
      · exact (pcast (l2 (V6 _) (V6 _)) rfl (pE TO62 Tryz.func22 [.inl [x.1.1, x.1.2, x.2.1.1, x.2.1.2, x.2.2.1, x.2.2.2], .inl [y.1.1, y.1.2, y.2.1.1, y.2.1.2, y.2.2.1, y.2.2.2]] (.inl (.inr (.inl b))) (let t4 := ml2 (y.2.2.1, y.2.2.2) (y.2.2.1, y.2.2.2); let t5 := ml2 (x.1.1, x.1.2) (t4.1, t4.2); let t6 := ml2 (x.2.2.1, x.2.2.2) (x.2.2.1, x.2.2.2); let t7 := ml2 (y.1.1, y.1.2) (t6.1, t6.2); (.inl (.inr (.inl false)), [(decide (x.2.2 = ze2), false), (decide (y.2.2 = ze2), false), (decide ((t5.1, t5.2) = (t7.1, t7.2)), false)])) [some false, some false, some false] (by kernel_rfl) (ok_cons (decide_eq_false h1) (ok_cons (decide_eq_false h2) (ok_cons (decide_eq_false h3) ok_nil))) (by obtain rfl : b = false := hb.trans (decide_eq_false (fun e => e.elim (fun e => h1 e.1) (fun e => h3 e.2.2.1))) <;> exact rfl)))
theorem jxy_n (x : W6) (h : x.2.2 = ze2) : Pure Tryz.prog Gt 17 [EV6 x] (.tuple #[EV2 ze2, EV2 ze2, .bool false]) := (pcast (l1 (V6 _)) rfl (pE TO62 Tryz.func17 [.inl [x.1.1, x.1.2, x.2.1.1, x.2.1.2, x.2.2.1, x.2.2.2]] (.inr [.inl [ze2.1, ze2.2], .inl [ze2.1, ze2.2], .inr (.inl false)]) (.inr [.inl [0, 0], .inl [0, 0], .inr (.inl false)], [(decide (x.2.2 = ze2), true)]) [some true] (by kernel_rfl) (ok_cons (decide_eq_true h) ok_nil) rfl))
theorem jxy_s (x : W6) (h : ¬ x.2.2 = ze2) : Pure Tryz.prog Gt 17 [EV6 x] (.tuple #[EV2 (ml2 x.1 (ml2 (iv2 x.2.2) (iv2 x.2.2))), EV2 (ml2 x.2.1 (ml2 (ml2 (iv2 x.2.2) (iv2 x.2.2)) (iv2 x.2.2))), .bool true]) := (pcast (l1 (V6 _)) rfl (pE TO62 Tryz.func17 [.inl [x.1.1, x.1.2, x.2.1.1, x.2.1.2, x.2.2.1, x.2.2.2]] (.inr [.inl [(ml2 x.1 (ml2 (iv2 x.2.2) (iv2 x.2.2))).1, (ml2 x.1 (ml2 (iv2 x.2.2) (iv2 x.2.2))).2], .inl [(ml2 x.2.1 (ml2 (ml2 (iv2 x.2.2) (iv2 x.2.2)) (iv2 x.2.2))).1, (ml2 x.2.1 (ml2 (ml2 (iv2 x.2.2) (iv2 x.2.2)) (iv2 x.2.2))).2], .inr (.inl true)]) (let t0 := iv2 (x.2.2.1, x.2.2.2); let t1 := ml2 (t0.1, t0.2) (t0.1, t0.2); let t2 := ml2 (x.1.1, x.1.2) (t1.1, t1.2); let t3 := ml2 (t1.1, t1.2) (t0.1, t0.2); let t4 := ml2 (x.2.1.1, x.2.1.2) (t3.1, t3.2); (.inr [.inl [t2.1, t2.2], .inl [t4.1, t4.2], .inr (.inl true)], [(decide (x.2.2 = ze2), false)])) [some false] (by kernel_rfl) (ok_cons (decide_eq_false h) ok_nil) rfl))
theorem jfin (a b : W2) : Pure Tryz.prog Gt 106 [EV2 a, EV2 b] (EV6 (a, b, on2)) := (pcast rfl (V6 _) (pE TO62 Tryz.func106 [.inl [a.1, a.2], .inl [b.1, b.2]] (.inl (.inl [(a, b, on2).1.1, (a, b, on2).1.2, (a, b, on2).2.1.1, (a, b, on2).2.1.2, (a, b, on2).2.2.1, (a, b, on2).2.2.2])) (let t0 := on2; (.inl (.inl [a.1, a.2, b.1, b.2, t0.1, t0.2]), [])) [] (by kernel_rfl) ok_nil rfl))
def TO63 : Tb Tryz.prog Gt := TO62.add (wq2ag_q2ag_q6rd (g := fun a b => (a, b, on2)) ent106 jfin)
theorem of4 : Pure Tryz.prog Gt 30 [U64 4#64] (EV (zp 4)) := fof_pure 4#64
theorem jright (a : W2) : Pure Tryz.prog Gt 105 [EV2 a] (EV2 (RS4 a)) := by
  intro w hw
  have hGF : BOk Gt (pl w) := gt_low.plain hw
  refine calls_of_X (G := Gt) Tryz.func105 rfl rfl (Hp (pl w) []) (hp_refl (pl w) trivial rides_true) (good_hp hGF) ?_
  refine xs_plain (E := EE []) ?_
  refine lx_boxr 1 hGF rfl rfl rfl ?_
  intro b1
  refine lx_allocr 2 hGF zv29 rfl rfl ?_
  intro b2
  refine lx_nil ?_
  refine xs_plain (E := EE []) ?_
  refine lx_loada 1 rfl rfl Tryz.isAgg29 Tryz.sizeOf29 (by simp) rfl rfl ?_
  refine lx_call rfl rfl ent71 (jcube _) rfl rfl ?_
  refine lx_call rfl rfl ent30 (of4) rfl rfl ?_
  refine lx_call rfl rfl ent30 (of4) rfl rfl ?_
  refine lx_two two29 rfl rfl (by simp) (by simp) rfl rfl ?_
  refine lx_call rfl rfl ent86 (e2add _ (zp 4, zp 4)) rfl rfl ?_
  refine lx_storea 2 hGF rfl rfl rfl Tryz.sizeOf29 (by simp) (by simp) (one_u64 _) rfl ?_
  refine lx_nil ?_
  refine x_ret ?_
  repeat (first | refine kseq_ret ?_ | refine kblk_ret ?_)
  exact kret_own 2 rfl rfl rfl Tryz.isAgg29 Tryz.sizeOf29 (by simp) (fun w hw => ⟨rfl, hp_below hw⟩)
theorem jaff_y (a b : W2) (h : ml2 b b = RS4 a) : Pure Tryz.prog Gt 60 [EV2 a, EV2 b] (.tuple #[EV6 (a, b, on2), .bool true]) := by
  intro w hw
  have hGF : BOk Gt (pl w) := gt_low.plain hw
  refine calls_of_X (G := Gt) Tryz.func60 rfl rfl (Hp (pl w) []) (hp_refl (pl w) trivial rides_true) (good_hp hGF) ?_
  refine xs_plain (E := EE []) ?_
  refine lx_boxr 2 hGF rfl rfl rfl ?_
  intro b2
  refine lx_boxr 3 hGF rfl rfl rfl ?_
  intro b3
  refine lx_allocr 4 hGF zj46 rfl rfl ?_
  intro b4
  refine lx_assign rfl rfl rfl ?_
  refine lx_nil ?_
  refine x_seq ?_
  refine xs_drawn (E := EE []) mixed (by kernel_rfl) (by kernel_rfl) (by kernel_rfl) ?_
  refine lx_loada 3 rfl rfl Tryz.isAgg29 Tryz.sizeOf29 (by simp) rfl rfl ?_
  refine lx_call rfl rfl ent33 (e2square _) rfl rfl ?_
  refine lx_loada 2 rfl rfl Tryz.isAgg29 Tryz.sizeOf29 (by simp) rfl rfl ?_
  refine lx_call rfl rfl ent105 (jright _) rfl rfl ?_
  refine lx_callB true rfl rfl ent72 (e2equal _ _) (decide_eq_true h) rfl rfl ?_
  refine lx_un rfl (fun _ => un_not _) rfl rfl ?_
  refine lx_nil ?_
  refine x_false rfl ?_
  refine x_skip ?_
  refine xs_plain (E := EE []) ?_
  refine lx_loada 2 rfl rfl Tryz.isAgg29 Tryz.sizeOf29 (by simp) rfl rfl ?_
  refine lx_loada 3 rfl rfl Tryz.isAgg29 Tryz.sizeOf29 (by simp) rfl rfl ?_
  refine lx_call rfl rfl ent106 (jfin _ _) rfl rfl ?_
  refine lx_storea 4 hGF rfl rfl rfl Tryz.sizeOf46 (by simp) (by simp) (one_u64 _) rfl ?_
  refine lx_assign rfl rfl rfl ?_
  refine lx_nil ?_
  refine x_ret ?_
  repeat (first | refine kseq_ret ?_ | refine kblk_ret ?_)
  exact kret_ct 4 rfl rfl rfl rfl Tryz.isAgg46 Tryz.sizeOf46 (by simp) (fun w hw => ⟨rfl, hp_below hw⟩)
end Go.Proofs.YtdkmalaffcfoeaaGreatDoor

namespace Go.Proofs.YtdkmalaffcfoeaaGreatDoor
open Go.RowKit
set_option maxRecDepth 100000
set_option maxHeartbeats 1000000
attribute [local simp] fe_len nm_len AS_len SS_len MONT_len RM_len FRs_len BYs_len by48_len PLl TWOl ONEl N1l IVPl HFPl RTPl FL_len SP_len fe2_len SP2_len FM_len
attribute [local simp] GL_len

def gInf : GP := ⟨(ze2, ze2, ze2), none, True.intro, rfl⟩
def gNeg (p : GP) : GP := ⟨(p.J.1, ng2 p.J.2.1, p.J.2.2), E2w.ne p.P, E2w.ne_on p.on, E2w.jr_n p.jr⟩
def gAff (x y : W2) (h : ml2 y y = RS4 x) : GP := ⟨(x, y, on2), some (x, y), onP_some (E1_rs.2 h), jr2_at (x, y)⟩
theorem zv46 (w : World) : (zeroValue 46).run Tryz.prog w = .ok (PtV gInf) w := zj46 w
theorem xy_eq {J : W6} {P : Pt W2} (h : E2w.jr J P) (hn : ¬ P = none) : ml2 J.1 (ml2 (iv2 J.2.2) (iv2 J.2.2)) = PX P ∧ ml2 J.2.1 (ml2 (ml2 (iv2 J.2.2) (iv2 J.2.2)) (iv2 J.2.2)) = PY P := by
  cases P with
  | none => exact absurd rfl hn
  | some p => exact E2w.xy_w h (E2w.hi _ h.1)
theorem isInf_p (p : GP) : Pure Tryz.prog Gt 26 [PtV p] (.bool (decide (p.P = none))) := by
  have h := jisInf p.J
  rw [show decide (p.J.2.2 = ze2) = decide (p.P = none) from decide_eq_decide.2 (E2w.jr_zI p.jr)] at h
  exact h
theorem equal_p (p q : GP) : Pure Tryz.prog Gt 22 [PtV p, PtV q] (.bool (decide (p.P = q.P))) := 
  have hd : Decidable (E2w.eqJ p.J q.J) := decidable_of_iff _ (E2w.eqJ_iff p.jr q.jr).symm
  jequal p.J q.J hd _ (decide_eq_decide.2 (E2w.eqJ_iff p.jr q.jr).symm)
theorem neg_p (p : GP) : Pure Tryz.prog Gt 23 [PtV p] (PtV (gNeg p)) := jneg p.J
theorem xy_n (p : GP) (h : p.P = none) : Pure Tryz.prog Gt 17 [PtV p] (.tuple #[EV2 ze2, EV2 ze2, .bool false]) := jxy_n p.J ((E2w.jr_zI p.jr).2 h)
theorem xy_s (p : GP) (h : ¬ p.P = none) : Pure Tryz.prog Gt 17 [PtV p] (.tuple #[EV2 (PX p.P), EV2 (PY p.P), .bool true]) := by
  have k := jxy_s p.J (fun e => h ((E2w.jr_zI p.jr).1 e))
  have e := xy_eq p.jr h
  rw [e.1, e.2] at k
  exact k
theorem aff_y (x y : W2) (h : ml2 y y = RS4 x) : Pure Tryz.prog Gt 60 [EV2 x, EV2 y] (.tuple #[PtV (gAff x y h), .bool true]) := jaff_y x y h
end Go.Proofs.YtdkmalaffcfoeaaGreatDoor
