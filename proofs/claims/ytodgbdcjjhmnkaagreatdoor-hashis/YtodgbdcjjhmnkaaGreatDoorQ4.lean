/-
 The program's points.
 The program's points.
-/
import Derived.Test.YtodgbdcjjhmnkaaGreatDoorQ3
import Derived.Test.YtodgbdcjjhmnkaaGreatDoorX5
import Derived.Test.YtodgbdcjjhmnkaaGreatDoorX3
import Derived.Test.YtodgbdcjjhmnkaaGreatDoorXW
set_option maxRecDepth 100000
set_option maxHeartbeats 1000000
namespace Go.Proofs.YtodgbdcjjhmnkaaGreatDoor
open Go.Proofs.Tryz
section
open Go.RowKit
attribute [local simp] bp bQ aI aB bj bc aX aW bv PLl eK eI N1l eP eU eW bJ bV bY bX cH
theorem ent15:am Tryz.prog 15:=fun _ _=>by kernel_rfl
theorem ent50:am Tryz.prog 50:=fun _ _=>by kernel_rfl
theorem ent44:am Tryz.prog 44:=fun _ _=>by kernel_rfl
theorem ent45:am Tryz.prog 45:=fun _ _=>by kernel_rfl
theorem ent140:am Tryz.prog 140:=fun _ _=>by kernel_rfl
theorem ent11:am Tryz.prog 11:=fun _ _=>by kernel_rfl
theorem ent38:am Tryz.prog 38:=fun _ _=>by kernel_rfl
theorem ent18:am Tryz.prog 18:=fun _ _=>by kernel_rfl
theorem ent58:am Tryz.prog 58:=fun _ _=>by kernel_rfl
theorem ent48:am Tryz.prog 48:=fun _ _=>by kernel_rfl
theorem ent99:am Tryz.prog 99:=fun _ _=>by kernel_rfl
structure GP where
 J:W6
 P:Pt W2
 on:E2w.onP P
 jr:E2w.jr J P
def GL(p:GP):List (BitVec 64):=((fe p.J.1.1++fe p.J.1.2)++((fe p.J.2.1.1++fe p.J.2.1.2)++(fe p.J.2.2.1++fe p.J.2.2.2)))
theorem eT(p:GP):(GL p).length=36:=by simp[GL]
attribute [local simp] eT
abbrev PtV(p:GP):Value:=.agg ((GL p).map U64).toArray
def PX:Pt W2→W2
 |none=>ze2
 |some p=>p.1
def PY:Pt W2→W2
 |none=>ze2
 |some p=>p.2
def RS4(x:W2):W2:=ad2 (ml2 (ml2 x x) x) E2w.b
theorem B1{x y:W2}:E2w.on (x,y)↔ml2 y y=RS4 x:=by
 show ml2 y y=ad2 (ml2 x (ml2 x x)) E2w.b↔ml2 y y=ad2 (ml2 (ml2 x x) x) E2w.b
 rw[show ml2 x (ml2 x x)=ml2 (ml2 x x) x from R2.mul_comm _ _]
theorem ir{p:W2×W2}(h:E2w.on p):E2w.onP (some p):=h
theorem rT(w:World):(zeroValue 31).run Tryz.prog w=.ok (.agg (((fe 0++fe 0)++((fe 0++fe 0)++(fe 0++fe 0))).map U64).toArray) w:=by rw[ij];exact (zeroValue31 w).trans (by rfl)
theorem vT:Three Tryz.prog 31 ⟨ "x",29,0,false, "", "pharos/g2",0⟩ ⟨ "y",29,12,false, "", "pharos/g2",96⟩ ⟨ "z",29,24,false, "", "pharos/g2",192⟩ 12 (fe 0++fe 0) (fe 0++fe 0) (fe 0++fe 0):=⟨underlying31,rfl,rfl,rfl,sizeOf29,sizeOf29,sizeOf29,rT,by simp,by simp,by simp⟩
theorem HJ(x y:W2):Pure Tryz.prog Gt 98 [EV2 x,EV2 y] (EV2 (E2w.sub x y)):=by
 have h:=EY x y
 rw[sW]at h
 exact h
def TO60:Tb Tryz.prog Gt:=TO59.add (bS (g:=E2w.sub) ent98 HJ)
theorem Ja(x:W6):Pure Tryz.prog Gt 48 [EV6 x] (.bool (decide (x.2.2=ze2))):=(bW (l1 (V6 _)) rfl (pE TO60 func48 [.inl [x.1.1,x.1.2,x.2.1.1,x.2.1.2,x.2.2.1,x.2.2.2]] (.inl (.inr (.inl (decide (x.2.2=ze2))))) (.inl (.inr (.inl (decide ((x.2.2.1,x.2.2.2)=ze2)))),[]) [] (by kernel_rfl) aD rfl))
def TO61:Tb Tryz.prog Gt:=TO60.add (nP (g:=fun x=>decide (x.2.2=ze2)) ent48 Ja)
theorem Ni(x:W6):Pure Tryz.prog Gt 18 [EV6 x] (EV6 (x.1,ng2 x.2.1,x.2.2)):=(bW (l1 (V6 _)) (V6 _) (pE TO61 func18 [.inl [x.1.1,x.1.2,x.2.1.1,x.2.1.2,x.2.2.1,x.2.2.2]] (.inl (.inl [(x.1,ng2 x.2.1,x.2.2).1.1,(x.1,ng2 x.2.1,x.2.2).1.2,(x.1,ng2 x.2.1,x.2.2).2.1.1,(x.1,ng2 x.2.1,x.2.2).2.1.2,(x.1,ng2 x.2.1,x.2.2).2.2.1,(x.1,ng2 x.2.1,x.2.2).2.2.2])) (let t0:=ng2 (x.2.1.1,x.2.1.2);(.inl (.inl [x.1.1,x.1.2,t0.1,t0.2,x.2.2.1,x.2.2.2]),[])) [] (by kernel_rfl) aD rfl))
def TO62:Tb Tryz.prog Gt:=TO61.add (g7 (g:=fun x=>(x.1,ng2 x.2.1,x.2.2)) ent18 Ni)
theorem jinf  :Pure Tryz.prog Gt 140 [] (EV6 (ze2,ze2,ze2)):=(bW rfl (V6 _) (pE TO62 func140 [] (.inl (.inl [(ze2,ze2,ze2).1.1,(ze2,ze2,ze2).1.2,(ze2,ze2,ze2).2.1.1,(ze2,ze2,ze2).2.1.2,(ze2,ze2,ze2).2.2.1,(ze2,ze2,ze2).2.2.2])) (.inl (.inl [0,0,0,0,0,0]),[]) [] (by kernel_rfl) aD rfl))
theorem KZ{f:Nat}{g:W6}(en:am Tryz.prog f)(h:Pure Tryz.prog Gt f [] (EV6 g)):Snd Tryz.prog Gt f (c0 q6.rd g):=Fi q6.rd en (bW rfl (V6 _).symm h)
def TO63:Tb Tryz.prog Gt:=TO62.add (KZ (g:=(ze2,ze2,ze2)) ent140 jinf)
theorem E4(a:W2):Pure Tryz.prog Gt 50 [EV2 a] (EV2 (ml2 (ml2 a a) a)):=pE TO63 func50 [.inl [a.1,a.2]] (.inl (.inl [(ml2 (ml2 a a) a).1,(ml2 (ml2 a a) a).2])) (let t0:=ml2 a a;let t1:=ml2 (t0.1,t0.2) a;(.inl (.inl [t1.1,t1.2]),[])) [] (by kernel_rfl) aD rfl
def TO64:Tb Tryz.prog Gt:=TO63.add (cY (g:=fun a=>ml2 (ml2 a a) a) ent50 E4)
theorem Lq(x:W6):Pure Tryz.prog Gt 99 [EV6 x] (EV6 (E2w.dbA x)):=(bW (l1 (V6 _)) (V6 _) (pE TO64 func99 [.inl [x.1.1,x.1.2,x.2.1.1,x.2.1.2,x.2.2.1,x.2.2.2]] (.inl (.inl [(E2w.dbA x).1.1,(E2w.dbA x).1.2,(E2w.dbA x).2.1.1,(E2w.dbA x).2.1.2,(E2w.dbA x).2.2.1,(E2w.dbA x).2.2.2])) (let t0:=ad2 (x.2.1.1,x.2.1.2) (x.2.1.1,x.2.1.2);let t1:=ml2 (x.1.1,x.1.2) (x.1.1,x.1.2);let t2:=ad2 (t1.1,t1.2) (t1.1,t1.2);let t3:=ad2 (t2.1,t2.2) (t1.1,t1.2);let t4:=ml2 (t0.1,t0.2) (t0.1,t0.2);let t5:=ml2 (t4.1,t4.2) (x.1.1,x.1.2);let t6:=ml2 (t3.1,t3.2) (t3.1,t3.2);let t7:=E2w.sub (t6.1,t6.2) (t5.1,t5.2);let t8:=E2w.sub (t7.1,t7.2) (t5.1,t5.2);let t9:=E2w.sub (t5.1,t5.2) (t8.1,t8.2);let t10:=ml2 (t3.1,t3.2) (t9.1,t9.2);let t11:=ml2 (t4.1,t4.2) (t0.1,t0.2);let t12:=ml2 (t11.1,t11.2) (x.2.1.1,x.2.1.2);let t13:=E2w.sub (t10.1,t10.2) (t12.1,t12.2);let t14:=ml2 (x.2.2.1,x.2.2.2) (t0.1,t0.2);(.inl (.inl [t8.1,t8.2,t13.1,t13.2,t14.1,t14.2]),[])) [] (by kernel_rfl) aD rfl))
def TO65:Tb Tryz.prog Gt:=TO64.add (g7 (g:=E2w.dbA) ent99 Lq)
theorem Jy(x y:W6):Pure Tryz.prog Gt 58 [EV6 x,EV6 y] (EV6 (E2w.adA x y)):=by
 by_cases h1:x.2.2=ze2
 ·exact (bW (l2 (V6 _) (V6 _)) (V6 _) (pE TO65 func58 [.inl [x.1.1,x.1.2,x.2.1.1,x.2.1.2,x.2.2.1,x.2.2.2],.inl [y.1.1,y.1.2,y.2.1.1,y.2.1.2,y.2.2.1,y.2.2.2]] (.inl (.inl [(E2w.adA x y).1.1,(E2w.adA x y).1.2,(E2w.adA x y).2.1.1,(E2w.adA x y).2.1.2,(E2w.adA x y).2.2.1,(E2w.adA x y).2.2.2])) (.inl (.inl [y.1.1,y.1.2,y.2.1.1,y.2.1.2,y.2.2.1,y.2.2.2]),[(decide (x.2.2=ze2),true)]) [some true] (by kernel_rfl) (ak (decide_eq_true h1) aD) (by rw[show E2w.adA x y=y from if_pos h1]<;>exact rfl)))
 ·by_cases h2:y.2.2=ze2
  ·exact (bW (l2 (V6 _) (V6 _)) (V6 _) (pE TO65 func58 [.inl [x.1.1,x.1.2,x.2.1.1,x.2.1.2,x.2.2.1,x.2.2.2],.inl [y.1.1,y.1.2,y.2.1.1,y.2.1.2,y.2.2.1,y.2.2.2]] (.inl (.inl [(E2w.adA x y).1.1,(E2w.adA x y).1.2,(E2w.adA x y).2.1.1,(E2w.adA x y).2.1.2,(E2w.adA x y).2.2.1,(E2w.adA x y).2.2.2])) (.inl (.inl [x.1.1,x.1.2,x.2.1.1,x.2.1.2,x.2.2.1,x.2.2.2]),[(decide (x.2.2=ze2),false),(decide (y.2.2=ze2),true)]) [some false,some true] (by kernel_rfl) (ak (decide_eq_false h1) (ak (decide_eq_true h2) aD)) (by rw[show E2w.adA x y=x from (if_neg h1).trans (if_pos h2)]<;>exact rfl)))
  ·by_cases h3:E2w.jh x.1 x.2.2 y.1 y.2.2=ze2
   ·by_cases h4:E2w.jq x.2.1 x.2.2 y.2.1 y.2.2=ze2
    ·exact (bW (l2 (V6 _) (V6 _)) (V6 _) (pE TO65 func58 [.inl [x.1.1,x.1.2,x.2.1.1,x.2.1.2,x.2.2.1,x.2.2.2],.inl [y.1.1,y.1.2,y.2.1.1,y.2.1.2,y.2.2.1,y.2.2.2]] (.inl (.inl [(E2w.adA x y).1.1,(E2w.adA x y).1.2,(E2w.adA x y).2.1.1,(E2w.adA x y).2.1.2,(E2w.adA x y).2.2.1,(E2w.adA x y).2.2.2])) (let t0:=ml2 (x.2.2.1,x.2.2.2) (x.2.2.1,x.2.2.2);let t1:=ml2 (y.2.2.1,y.2.2.2) (y.2.2.1,y.2.2.2);let t2:=ml2 (x.1.1,x.1.2) (t1.1,t1.2);let t3:=ml2 (x.2.1.1,x.2.1.2) (t1.1,t1.2);let t4:=ml2 (t3.1,t3.2) (y.2.2.1,y.2.2.2);let t5:=ml2 (y.1.1,y.1.2) (t0.1,t0.2);let t6:=E2w.sub (t5.1,t5.2) (t2.1,t2.2);let t7:=ml2 (y.2.1.1,y.2.1.2) (t0.1,t0.2);let t8:=ml2 (t7.1,t7.2) (x.2.2.1,x.2.2.2);let t9:=E2w.sub (t8.1,t8.2) (t4.1,t4.2);let t10:=E2w.dbA x;(.inl (.inl [t10.1.1,t10.1.2,t10.2.1.1,t10.2.1.2,t10.2.2.1,t10.2.2.2]),[(decide (x.2.2=ze2),false),(decide (y.2.2=ze2),false),(decide ((t6.1,t6.2)=ze2),true),(decide ((t9.1,t9.2)=ze2),true)])) [some false,some false,some true,some true] (by kernel_rfl) (ak (decide_eq_false h1) (ak (decide_eq_false h2) (ak (decide_eq_true h3) (ak (decide_eq_true h4) aD)))) (by rw[show E2w.adA x y=E2w.dbA x from (if_neg h1).trans ((if_neg h2).trans ((if_pos h3).trans (if_pos h4)))]<;>exact rfl)))
    ·exact (bW (l2 (V6 _) (V6 _)) (V6 _) (pE TO65 func58 [.inl [x.1.1,x.1.2,x.2.1.1,x.2.1.2,x.2.2.1,x.2.2.2],.inl [y.1.1,y.1.2,y.2.1.1,y.2.1.2,y.2.2.1,y.2.2.2]] (.inl (.inl [(E2w.adA x y).1.1,(E2w.adA x y).1.2,(E2w.adA x y).2.1.1,(E2w.adA x y).2.1.2,(E2w.adA x y).2.2.1,(E2w.adA x y).2.2.2])) (let t0:=ml2 (x.2.2.1,x.2.2.2) (x.2.2.1,x.2.2.2);let t1:=ml2 (y.2.2.1,y.2.2.2) (y.2.2.1,y.2.2.2);let t2:=ml2 (x.1.1,x.1.2) (t1.1,t1.2);let t3:=ml2 (x.2.1.1,x.2.1.2) (t1.1,t1.2);let t4:=ml2 (t3.1,t3.2) (y.2.2.1,y.2.2.2);let t5:=ml2 (y.1.1,y.1.2) (t0.1,t0.2);let t6:=E2w.sub (t5.1,t5.2) (t2.1,t2.2);let t7:=ml2 (y.2.1.1,y.2.1.2) (t0.1,t0.2);let t8:=ml2 (t7.1,t7.2) (x.2.2.1,x.2.2.2);let t9:=E2w.sub (t8.1,t8.2) (t4.1,t4.2);(.inl (.inl [0,0,0,0,0,0]),[(decide (x.2.2=ze2),false),(decide (y.2.2=ze2),false),(decide ((t6.1,t6.2)=ze2),true),(decide ((t9.1,t9.2)=ze2),false),(decide ((t6.1,t6.2)=ze2),true)])) [some false,some false,some true,some false,some true] (by kernel_rfl) (ak (decide_eq_false h1) (ak (decide_eq_false h2) (ak (decide_eq_true h3) (ak (decide_eq_false h4) (ak (decide_eq_true h3) aD))))) (by rw[show E2w.adA x y=(ze2,ze2,ze2)from (if_neg h1).trans ((if_neg h2).trans ((if_pos h3).trans (if_neg h4)))]<;>exact rfl)))
   ·exact (bW (l2 (V6 _) (V6 _)) (V6 _) (pE TO65 func58 [.inl [x.1.1,x.1.2,x.2.1.1,x.2.1.2,x.2.2.1,x.2.2.2],.inl [y.1.1,y.1.2,y.2.1.1,y.2.1.2,y.2.2.1,y.2.2.2]] (.inl (.inl [(E2w.adA x y).1.1,(E2w.adA x y).1.2,(E2w.adA x y).2.1.1,(E2w.adA x y).2.1.2,(E2w.adA x y).2.2.1,(E2w.adA x y).2.2.2])) (let t0:=ml2 (x.2.2.1,x.2.2.2) (x.2.2.1,x.2.2.2);let t1:=ml2 (y.2.2.1,y.2.2.2) (y.2.2.1,y.2.2.2);let t2:=ml2 (x.1.1,x.1.2) (t1.1,t1.2);let t3:=ml2 (x.2.1.1,x.2.1.2) (t1.1,t1.2);let t4:=ml2 (t3.1,t3.2) (y.2.2.1,y.2.2.2);let t5:=ml2 (y.1.1,y.1.2) (t0.1,t0.2);let t6:=E2w.sub (t5.1,t5.2) (t2.1,t2.2);let t7:=ml2 (y.2.1.1,y.2.1.2) (t0.1,t0.2);let t8:=ml2 (t7.1,t7.2) (x.2.2.1,x.2.2.2);let t9:=E2w.sub (t8.1,t8.2) (t4.1,t4.2);let t10:=ml2 (t6.1,t6.2) (t6.1,t6.2);let t11:=ml2 (t10.1,t10.2) (t6.1,t6.2);let t12:=ml2 (t10.1,t10.2) (t2.1,t2.2);let t13:=ml2 (t9.1,t9.2) (t9.1,t9.2);let t14:=E2w.sub (t13.1,t13.2) (t11.1,t11.2);let t15:=E2w.sub (t14.1,t14.2) (t12.1,t12.2);let t16:=E2w.sub (t15.1,t15.2) (t12.1,t12.2);let t17:=E2w.sub (t12.1,t12.2) (t16.1,t16.2);let t18:=ml2 (t9.1,t9.2) (t17.1,t17.2);let t19:=ml2 (t11.1,t11.2) (t4.1,t4.2);let t20:=E2w.sub (t18.1,t18.2) (t19.1,t19.2);let t21:=ml2 (x.2.2.1,x.2.2.2) (y.2.2.1,y.2.2.2);let t22:=ml2 (t21.1,t21.2) (t6.1,t6.2);(.inl (.inl [t16.1,t16.2,t20.1,t20.2,t22.1,t22.2]),[(decide (x.2.2=ze2),false),(decide (y.2.2=ze2),false),(decide ((t6.1,t6.2)=ze2),false),(decide ((t6.1,t6.2)=ze2),false)])) [some false,some false,some false,some false] (by kernel_rfl) (ak (decide_eq_false h1) (ak (decide_eq_false h2) (ak (decide_eq_false h3) (ak (decide_eq_false h3) aD)))) (by rw[show E2w.adA x y=E2w.adG x y from (if_neg h1).trans ((if_neg h2).trans (if_neg h3))]<;>exact rfl)))
def TO66:Tb Tryz.prog Gt:=TO65.add (h7 (g:=E2w.adA) ent58 Jy)
theorem Jq(x y:W6)(hd:Decidable (E2w.eqJ x y))(b:Bool)(hb:b=decide (E2w.eqJ x y)):Pure Tryz.prog Gt 19 [EV6 x,EV6 y] (.bool b):=by
 by_cases h1:x.2.2=ze2
 ·by_cases h2:y.2.2=ze2
  ·exact (bW (l2 (V6 _) (V6 _)) rfl (pE TO66 func19 [.inl [x.1.1,x.1.2,x.2.1.1,x.2.1.2,x.2.2.1,x.2.2.2],.inl [y.1.1,y.1.2,y.2.1.1,y.2.1.2,y.2.2.1,y.2.2.2]] (.inl (.inr (.inl b))) (.inl (.inr (.inl true)),[(decide (x.2.2=ze2),true),(decide (x.2.2=ze2),true),(decide (y.2.2=ze2),true)]) [some true,some true,some true] (by kernel_rfl) (ak (decide_eq_true h1) (ak (decide_eq_true h1) (ak (decide_eq_true h2) aD))) (by obtain rfl:b=true:=hb.trans (decide_eq_true (.inl ⟨h1,h2⟩))<;>exact rfl)))
  ·exact (bW (l2 (V6 _) (V6 _)) rfl (pE TO66 func19 [.inl [x.1.1,x.1.2,x.2.1.1,x.2.1.2,x.2.2.1,x.2.2.2],.inl [y.1.1,y.1.2,y.2.1.1,y.2.1.2,y.2.2.1,y.2.2.2]] (.inl (.inr (.inl b))) (.inl (.inr (.inl false)),[(decide (x.2.2=ze2),true),(decide (x.2.2=ze2),true),(decide (y.2.2=ze2),false)]) [some true,some true,some false] (by kernel_rfl) (ak (decide_eq_true h1) (ak (decide_eq_true h1) (ak (decide_eq_false h2) aD))) (by obtain rfl:b=false:=hb.trans (decide_eq_false (fun e=>e.elim (fun e=>h2 e.2) (fun e=>e.1 h1)))<;>exact rfl)))
 ·by_cases h2:y.2.2=ze2
  ·exact (bW (l2 (V6 _) (V6 _)) rfl (pE TO66 func19 [.inl [x.1.1,x.1.2,x.2.1.1,x.2.1.2,x.2.2.1,x.2.2.2],.inl [y.1.1,y.1.2,y.2.1.1,y.2.1.2,y.2.2.1,y.2.2.2]] (.inl (.inr (.inl b))) (.inl (.inr (.inl false)),[(decide (x.2.2=ze2),false),(decide (y.2.2=ze2),true),(decide (x.2.2=ze2),false)]) [some false,some true,some false] (by kernel_rfl) (ak (decide_eq_false h1) (ak (decide_eq_true h2) (ak (decide_eq_false h1) aD))) (by obtain rfl:b=false:=hb.trans (decide_eq_false (fun e=>e.elim (fun e=>h1 e.1) (fun e=>e.2.1 h2)))<;>exact rfl)))
  ·by_cases h3:ml2 x.1 (ml2 y.2.2 y.2.2)=ml2 y.1 (ml2 x.2.2 x.2.2)
   ·by_cases h4:ml2 x.2.1 (ml2 (ml2 y.2.2 y.2.2) y.2.2)=ml2 y.2.1 (ml2 (ml2 x.2.2 x.2.2) x.2.2)
    ·exact (bW (l2 (V6 _) (V6 _)) rfl (pE TO66 func19 [.inl [x.1.1,x.1.2,x.2.1.1,x.2.1.2,x.2.2.1,x.2.2.2],.inl [y.1.1,y.1.2,y.2.1.1,y.2.1.2,y.2.2.1,y.2.2.2]] (.inl (.inr (.inl b))) (let t0:=ml2 (ml2 (y.2.2.1,y.2.2.2) (y.2.2.1,y.2.2.2)) (y.2.2.1,y.2.2.2);let t1:=ml2 (x.2.1.1,x.2.1.2) (t0.1,t0.2);let t2:=ml2 (ml2 (x.2.2.1,x.2.2.2) (x.2.2.1,x.2.2.2)) (x.2.2.1,x.2.2.2);let t3:=ml2 (y.2.1.1,y.2.1.2) (t2.1,t2.2);let t4:=ml2 (y.2.2.1,y.2.2.2) (y.2.2.1,y.2.2.2);let t5:=ml2 (x.1.1,x.1.2) (t4.1,t4.2);let t6:=ml2 (x.2.2.1,x.2.2.2) (x.2.2.1,x.2.2.2);let t7:=ml2 (y.1.1,y.1.2) (t6.1,t6.2);(.inl (.inr (.inl true)),[(decide (x.2.2=ze2),false),(decide (y.2.2=ze2),false),(decide ((t5.1,t5.2)=(t7.1,t7.2)),true),(decide ((t1.1,t1.2)=(t3.1,t3.2)),true)])) [some false,some false,some true,some true] (by kernel_rfl) (ak (decide_eq_false h1) (ak (decide_eq_false h2) (ak (decide_eq_true h3) (ak (decide_eq_true h4) aD)))) (by obtain rfl:b=true:=hb.trans (decide_eq_true (.inr ⟨h1,h2,h3,h4⟩))<;>exact rfl)))
    ·exact (bW (l2 (V6 _) (V6 _)) rfl (pE TO66 func19 [.inl [x.1.1,x.1.2,x.2.1.1,x.2.1.2,x.2.2.1,x.2.2.2],.inl [y.1.1,y.1.2,y.2.1.1,y.2.1.2,y.2.2.1,y.2.2.2]] (.inl (.inr (.inl b))) (let t0:=ml2 (ml2 (y.2.2.1,y.2.2.2) (y.2.2.1,y.2.2.2)) (y.2.2.1,y.2.2.2);let t1:=ml2 (x.2.1.1,x.2.1.2) (t0.1,t0.2);let t2:=ml2 (ml2 (x.2.2.1,x.2.2.2) (x.2.2.1,x.2.2.2)) (x.2.2.1,x.2.2.2);let t3:=ml2 (y.2.1.1,y.2.1.2) (t2.1,t2.2);let t4:=ml2 (y.2.2.1,y.2.2.2) (y.2.2.1,y.2.2.2);let t5:=ml2 (x.1.1,x.1.2) (t4.1,t4.2);let t6:=ml2 (x.2.2.1,x.2.2.2) (x.2.2.1,x.2.2.2);let t7:=ml2 (y.1.1,y.1.2) (t6.1,t6.2);(.inl (.inr (.inl false)),[(decide (x.2.2=ze2),false),(decide (y.2.2=ze2),false),(decide ((t5.1,t5.2)=(t7.1,t7.2)),true),(decide ((t1.1,t1.2)=(t3.1,t3.2)),false)])) [some false,some false,some true,some false] (by kernel_rfl) (ak (decide_eq_false h1) (ak (decide_eq_false h2) (ak (decide_eq_true h3) (ak (decide_eq_false h4) aD)))) (by obtain rfl:b=false:=hb.trans (decide_eq_false (fun e=>e.elim (fun e=>h1 e.1) (fun e=>h4 e.2.2.2)))<;>exact rfl)))
   ·exact (bW (l2 (V6 _) (V6 _)) rfl (pE TO66 func19 [.inl [x.1.1,x.1.2,x.2.1.1,x.2.1.2,x.2.2.1,x.2.2.2],.inl [y.1.1,y.1.2,y.2.1.1,y.2.1.2,y.2.2.1,y.2.2.2]] (.inl (.inr (.inl b))) (let t4:=ml2 (y.2.2.1,y.2.2.2) (y.2.2.1,y.2.2.2);let t5:=ml2 (x.1.1,x.1.2) (t4.1,t4.2);let t6:=ml2 (x.2.2.1,x.2.2.2) (x.2.2.1,x.2.2.2);let t7:=ml2 (y.1.1,y.1.2) (t6.1,t6.2);(.inl (.inr (.inl false)),[(decide (x.2.2=ze2),false),(decide (y.2.2=ze2),false),(decide ((t5.1,t5.2)=(t7.1,t7.2)),false)])) [some false,some false,some false] (by kernel_rfl) (ak (decide_eq_false h1) (ak (decide_eq_false h2) (ak (decide_eq_false h3) aD))) (by obtain rfl:b=false:=hb.trans (decide_eq_false (fun e=>e.elim (fun e=>h1 e.1) (fun e=>h3 e.2.2.1)))<;>exact rfl)))
theorem Ov(x:W6)(h:x.2.2=ze2):Pure Tryz.prog Gt 20 [EV6 x] (.tuple #[EV2 ze2,EV2 ze2,.bool false]):=(bW (l1 (V6 _)) rfl (pE TO66 func20 [.inl [x.1.1,x.1.2,x.2.1.1,x.2.1.2,x.2.2.1,x.2.2.2]] (.inr [.inl [ze2.1,ze2.2],.inl [ze2.1,ze2.2],.inr (.inl false)]) (.inr [.inl [0,0],.inl [0,0],.inr (.inl false)],[(decide (x.2.2=ze2),true)]) [some true] (by kernel_rfl) (ak (decide_eq_true h) aD) rfl))
theorem MG(x:W6)(h: ¬x.2.2=ze2):Pure Tryz.prog Gt 20 [EV6 x] (.tuple #[EV2 (ml2 x.1 (ml2 (iv2 x.2.2) (iv2 x.2.2))),EV2 (ml2 x.2.1 (ml2 (ml2 (iv2 x.2.2) (iv2 x.2.2)) (iv2 x.2.2))),.bool true]):=(bW (l1 (V6 _)) rfl (pE TO66 func20 [.inl [x.1.1,x.1.2,x.2.1.1,x.2.1.2,x.2.2.1,x.2.2.2]] (.inr [.inl [(ml2 x.1 (ml2 (iv2 x.2.2) (iv2 x.2.2))).1,(ml2 x.1 (ml2 (iv2 x.2.2) (iv2 x.2.2))).2],.inl [(ml2 x.2.1 (ml2 (ml2 (iv2 x.2.2) (iv2 x.2.2)) (iv2 x.2.2))).1,(ml2 x.2.1 (ml2 (ml2 (iv2 x.2.2) (iv2 x.2.2)) (iv2 x.2.2))).2],.inr (.inl true)]) (let t0:=iv2 (x.2.2.1,x.2.2.2);let t1:=ml2 (t0.1,t0.2) (t0.1,t0.2);let t2:=ml2 (x.1.1,x.1.2) (t1.1,t1.2);let t3:=ml2 (t1.1,t1.2) (t0.1,t0.2);let t4:=ml2 (x.2.1.1,x.2.1.2) (t3.1,t3.2);(.inr [.inl [t2.1,t2.2],.inl [t4.1,t4.2],.inr (.inl true)],[(decide (x.2.2=ze2),false)])) [some false] (by kernel_rfl) (ak (decide_eq_false h) aD) rfl))
theorem NR(a b:W2):Pure Tryz.prog Gt 38 [EV2 a,EV2 b] (EV6 (a,b,on2)):=(bW rfl (V6 _) (pE TO66 func38 [.inl [a.1,a.2],.inl [b.1,b.2]] (.inl (.inl [(a,b,on2).1.1,(a,b,on2).1.2,(a,b,on2).2.1.1,(a,b,on2).2.1.2,(a,b,on2).2.2.1,(a,b,on2).2.2.2])) (let t0:=on2;(.inl (.inl [a.1,a.2,b.1,b.2,t0.1,t0.2]),[])) [] (by kernel_rfl) aD rfl))
def TO67:Tb Tryz.prog Gt:=TO66.add (ib (g:=fun a b=>(a,b,on2)) ent38 NR)
theorem of4:Pure Tryz.prog Gt 76 [U64 4#64] (EV (zp 4)):=dk 4#64
theorem Jh(a:W2):Pure Tryz.prog Gt 35 [EV2 a] (EV2 (RS4 a)):=by
 intro w hw
 refine Hf func35 rfl hw<|fun hGF=>Xp<|Bx 1 hGF rfl<|fun b1=>Al 2 hGF zv29<|fun b2=>aa<|Xp<|La 1 rfl rfl a9<|Ca rfl (E4 _)<|Ca rfl (of4)<|Ca rfl (of4)<|cq eF rfl rfl (by simp) (by simp) rfl rfl<|Ca rfl (wl _ (zp 4,zp 4))<|Sa 2 hGF rfl rfl rfl a9<|aa<|aq<|Rr<|?_
 exact aw 2 rfl rfl rfl isAgg29 sizeOf29 (by simp) (fun w hw=>⟨rfl,ac hw⟩)
theorem Jf(a b:W2)(h:ml2 b b=RS4 a):Pure Tryz.prog Gt 141 [EV2 a,EV2 b] (.tuple #[EV6 (a,b,on2),.bool true]):=by
 intro w hw
 refine Hf func141 rfl hw<|fun hGF=>Xp<|Bx 2 hGF rfl<|fun b2=>Bx 3 hGF rfl<|fun b3=>Al 4 hGF rT<|fun b4=>Asg rfl<|aa<|ah<|Xd []<|La 3 rfl rfl a9<|Ca rfl (ka _)<|La 2 rfl rfl a9<|Ca rfl (Jh _)<|Cbl true rfl ent52 (uJ _ _) (decide_eq_true h)<|bT rfl (fun _=>bI _) rfl rfl<|aa<|aV rfl<|au<|Xp<|La 2 rfl rfl a9<|La 3 rfl rfl a9<|Ca rfl (NR _ _)<|Sa 4 hGF rfl rfl rfl dj<|Asg rfl<|aa<|aq<|Rr<|?_
 exact bG 4 rfl rfl rfl rfl isAgg31 sizeOf31 (by simp) (fun w hw=>⟨rfl,ac hw⟩)
theorem kL{w:World}{b:Nat}{c:List Value}{xs:List (BitVec 8)}(h:w.rangeAt b 0 c)(ht:c.take xs.length=xs.map U8):BytesAt w (some ⟨b,0,none⟩) xs:=by
 refine BytesAt.range fun j v hv=>h j v ?_
 rw[←ht,List.getElem?_take]at hv
 split at hv
 ·exact hv
 ·cases hv
theorem Gz(s0:ByteArray)(xs:List (BitVec 8))(h0:s0.data.toList=xs.map (fun x=>UInt8.ofBitVec x)):Pure Tryz.prog Gt 43 [.string s0] (EV (FV xs)):=by
 intro w hw
 refine Hf func43 rfl hw<|fun hGF=>ae (E:=EE [1000022])<|Al 2 hGF zv27<|fun b2=>aa<|ae (E:=EE [1000022])<|Mv rfl<|?_
 refine x9 7 (xs:=xs) rfl hGF rfl underlying9 underlying22 underlying5 h0 rfl rfl (fun b7 c7 k7 e7 l7 t7=> ?_)
 refine Cc rfl ent87 (fun w' hC hG=>lr _ _ xs w' hG (kL (aU (n:=7) rfl w' hC) t7))<|Mv rfl<|Ext rfl rfl<|Ext rfl rfl<|Al 3 hGF zv27<|fun b3=>Sa 3 hGF rfl rfl rfl bU<|Asg rfl<|aa<|ae (E:=EE [1000022])<|La 3 rfl rfl bU<|Sa 2 hGF rfl rfl rfl bU<|aa<|aq<|Rr<|?_
 exact aw 2 rfl rfl rfl isAgg27 sizeOf27 (by simp) (fun w hw=>⟨rfl,ac hw⟩)
end
section
open Go.RowKit
attribute [local simp] bp bQ aI aB bj bc aX aW bv PLl eK eI N1l eP eU eW bJ bV bY bX cH
attribute [local simp] eT
theorem ent89:am Tryz.prog 89:=fun _ _=>by kernel_rfl
def pb(bs:List (BitVec 8))(m:Nat):Bool:=decide (dM bs m=1#8)
abbrev oB(bs:List (BitVec 8))(m:Nat):List Nat:=oL (pb bs) (8*bs.length) m
def NLs(l:List Nat):List (List Value):=l.map fun n:Nat=>[I (n:Int)]
theorem vG(l:List Nat):(NLs l).length=l.length:=by simp[NLs]
theorem Fl(bs:List (BitVec 8))(i j:Nat)(hj:j<8):bs.getD i 0>>>(7-j) &&& 1#8=dM bs (8*i+j):=by
 rw[dM,show (8*i+j) / 8=i by omega,show (8*i+j) % 8=j by omega]
theorem Iy{bs:List (BitVec 8)}{m:Nat}(h:dM bs m=1#8):pb bs m=true:=decide_eq_true h
theorem NH{bs:List (BitVec 8)}{m:Nat}(h: ¬dM bs m=1#8): ¬pb bs m=true:=fun e=>h (of_decide_eq_true e)
theorem Ki{bs:List (BitVec 8)}{m:Nat}(hm:m<8*bs.length)(h:dM bs m=1#8):(NLs (oB bs (8*bs.length)))[(oB bs m).length]? =some [I ((8*bs.length-1-m:Nat):Int)]:=by
 rw[NLs,List.getElem?_map,Ku hm (Iy h)]
 rfl
theorem oB_y{bs:List (BitVec 8)}{m:Nat}(h:dM bs m=1#8):(oB bs (m+1)).length=(oB bs m).length+1:=KP (Iy h)
theorem oB_n{bs:List (BitVec 8)}{m:Nat}(h: ¬dM bs m=1#8):(oB bs (m+1)).length=(oB bs m).length:=Mb (NH h)
theorem Oa(bs:List (BitVec 8)): ∀m,vN (pb bs) m=BTn bs m
 |0=>rfl
 |m+1=>by
  rw[vN,Oa bs m,BTn]
  rcases pO bs m with ⟨h,e⟩|⟨h,e⟩
  ·rw[if_pos (Iy h),e]
  ·rw[if_neg (NH h),e]
theorem I4(bs:List (BitVec 8)):SOg (oB bs (8*bs.length))=BN bs bs.length:=by rw[Jp,Oa,ge]
theorem yv{bb:Nat}{e:Option Addr}{cap:Nat}{bs:List (BitVec 8)}{w w':World}(h:RdD bb e cap bs w)(hg:Grow w w'):RdD bb e cap bs w':=⟨(hg.cell (block_lt_of_cell h.1)).trans h.1,h.2.grow hg⟩
theorem qj(sv:Value)(hs:sv.cells= #[sv])(w:World)(hw:Gt w):Calls Tryz.prog 45 [sv].toArray w (fun e w'=> ∃b1,e=.returned (.func (.func 89) #[] #[.pointer (some ⟨b1,0,none⟩)])∧Grow w w'∧w.heap.size≤b1∧OwnB w' b1 [sv] 22):=by
 refine Hf func45 rfl hw<|fun hGF=>Xp<|kv 1 hGF rfl rfl rfl<|fun b1=>Asg rfl<|aa<|Xp<|iY rfl rfl rfl rfl<|Asg rfl<|aa<|aq<|Rr<|?_
 exact aQ rfl rfl (fun w hw=>⟨b1,rfl,ac hw,(hw.own 1 b1 _ _ rfl).2.elim id False.elim,(by have:=(hw.own 1 b1 _ _ rfl).1;rw[hs]at this;exact this)⟩)
theorem s7(bb:Nat)(e:Option Addr)(cap:Nat)(bs:List (BitVec 8))(hlen:bs.length≤1000000):iI Tryz.prog Gt 89 [.pointer (some ⟨bb,0,none⟩)] (NLs (oB bs (8*bs.length))) (RdD bb e cap bs):=by
 intro l J Jx hJ hJx hRd hGx hY w hj
 have okJ: ∀k,BOk Gt (Bi w (fun Y=>J Y k)):=fun k=>⟨fun _ _ _ h=>(hRd _ _ _ h.rid).1,hJ k⟩
 have okX: ∀k,BOk Gt (Bi w (fun Y=>Jx Y k)):=fun k=>⟨fun _ _ _ h=>hGx _ _ _ h.rid,hJx k⟩
 have c1: ∀k L w',Hp (Bi w (fun Y=>J Y k)) L w'→RdD bb e cap bs w':=fun k L w' h=>(hRd _ _ _ h.rid).2
 have hby:=(hRd _ _ _ hj).2.2
 refine cN (G:=Gt) func89 rfl rfl (Hp (Bi w (fun Y=>J Y 0)) []) (cP (Bi w _) hj (hJ 0)) (az (okJ 0))<|Xp<|bC rfl isAgg22 (fun w h=>(c1 _ _ w h).1) rfl rfl<|aZ rfl (fun _=>aC underlying22 _ _ _ _) rfl rfl<|Mv rfl<|aa<|ai<|jk (ι:={i:Nat // i≤bs.length}) (fun x=>[(0,.func (.yield l) #[] #[]),(1,.pointer (some ⟨bb,0,none⟩)),(6,.slice e bs.length cap),(7,I (bs.length:Int)),(8,I (x.1:Int))]) (fun x=>Bi w (fun Y=>J Y (oB bs (8*x.1)).length)) (fun x=>[]) (fun x=>bs.length-x.1) ⟨0,Nat.zero_le _⟩ (fun _=>okJ _) rfl ⟨rfl,rfl,rfl,rfl,rfl,trivial⟩ trivial<|?_
 rintro ⟨i,hi⟩
 dsimp only
 refine Xp<|Bnr rfl rfl (fun _=>av _ _ _)<|aa<|ah<|?_
 refine ba rfl (fun hc=> ?_) (fun hc=> ?_)
 ·have hi2:i<bs.length:=by simp at hc;omega
  refine au<|ah<|ai<|Xp<|Mv rfl<|?_
  obtain ⟨ad,rfl,_⟩:=hby i _ (gm U8 bs 0 i (by omega))
  refine iN i rfl rfl underlying22 sizeOf5 rfl (by omega) rfl rfl<|bC rfl isAgg5 (fun w' h=>by obtain ⟨ad',e',hc'⟩:=(c1 _ _ w' h).2 i _ (gm U8 bs 0 i (by omega));cases e';exact hc') rfl rfl<|Asg rfl<|Asg rfl<|aa<|Xp<|Asg rfl<|aa<|ai<|jk (ι:={j:Nat // j≤8}) (fun x=>[(0,.func (.yield l) #[] #[]),(1,.pointer (some ⟨bb,0,none⟩)),(6,.slice (some ad) bs.length cap),(7,I (bs.length:Int)),(8,I (i:Int)),(3,I (i:Int)),(4,U8 (bs.getD i 0)),(5,I (7-(x.1:Int)))]) (fun x=>Bi w (fun Y=>J Y (oB bs (8*i+x.1)).length)) (fun x=>[]) (fun x=>8-x.1) ⟨0,Nat.zero_le _⟩ (fun _=>okJ _) rfl ⟨rfl,rfl,rfl,rfl,rfl,rfl,rfl,rfl,trivial⟩ trivial<|?_
  rintro ⟨j,hj⟩
  dsimp only
  by_cases h1:dM bs (8*i+j)=1#8
  ·refine ah<|Xp<|Mv rfl<|Bnr (v:=.bool (decide (j<8))) rfl rfl (fun _=>(cS _ _ _).trans (by rw[show decide ((7-(j:Int))≥0)=decide (j<8)from decide_eq_decide.2 (by omega)]))<|aa<|?_
   refine ba rfl (fun hc=> ?_) (fun hc=> ?_)
   ·have hj2:j<8:=by simpa using hc
    refine au<|ah<|ai<|Xp<|Mv rfl<|Mv rfl<|Bnr (v:=U8 (bs.getD i 0>>>(7-j))) rfl rfl (fun _=>(fD _ _ _ (by omega)).trans (by rw[show (7-(j:Int)).toNat=7-j by omega]))<|Bnr (v:=U8 (dM bs (8*i+j))) rfl rfl (fun _=>(gI _ _ 1#8).trans (by rw[Fl bs i j hj2]))<|Bnr (v:=.bool true) rfl rfl (fun w=>(dz _ _ _).trans (congrArg (fun b=>Result.ok (Value.bool b) w) (beq_iff_eq.2 h1)))<|Mv rfl<|Mv rfl<|bC rfl isAgg22 (fun w h=>(c1 _ _ w h).1) rfl rfl<|aZ rfl (fun _=>aC underlying22 _ _ _ _) rfl rfl<|Bnr (v:=I ((bs.length:Int)-1)) rfl rfl (fun _=>aL _ _ _ (by unfold inI;omega))<|Mv rfl<|Bnr (v:=I ((bs.length-1-i:Nat):Int)) rfl rfl (fun _=>(aL _ _ _ (by unfold inI;omega)).trans (by rw[show (bs.length:Int)-1-(i:Int)=((bs.length-1-i:Nat):Int) by omega]))<|Bnr (v:=I ((8*(bs.length-1-i):Nat):Int)) rfl rfl (fun _=>(aT _ _ _ (by unfold inI;omega)).trans (by rw[show (8:Int)*((bs.length-1-i:Nat):Int)=((8*(bs.length-1-i):Nat):Int) by omega]))<|Mv rfl<|Bnr (v:=I ((8*bs.length-1-(8*i+j):Nat):Int)) rfl rfl (fun _=>(ap _ _ _ (by unfold inI;omega)).trans (by rw[show ((8*(bs.length-1-i):Nat):Int)+(7-(j:Int))=((8*bs.length-1-(8*i+j):Nat):Int) by omega]))<|?_
    refine eB (hY.b (k:=(oB bs (8*i+j)).length) (Ki (by omega) h1) w) (okJ _) (okX _) rfl rfl rfl rfl rfl ?_ ?_
    ·refine bT rfl (fun _=>bI _) rfl rfl<|Pk rfl rfl rfl<|aa<|aV rfl<|au<|Xq<|Mv rfl<|Bnr (v:=I (7-((j+1:Nat):Int))) rfl rfl (fun _=>(aL _ _ _ (by unfold inI;omega)).trans (by rw[show 7-(j:Int)-1=7-((j+1:Nat):Int) by omega]))<|Asg rfl<|aa<|?_
     repeat (refine aJ ?_)
     refine aA ?_
     rw[←oB_y h1]
     exact ⟨rfl,⟨j+1,by omega⟩,_,by show 8-(j+1)<8-j;omega,rfl,⟨rfl,rfl,rfl,rfl,rfl,rfl,rfl,rfl,trivial⟩,trivial⟩
    ·refine bT rfl (fun _=>bI _) rfl rfl<|Pk rfl rfl rfl<|aa<|bf rfl<|aq<|Rr<|?_
     repeat (first|refine eV ?_|refine dw ?_|refine fP rfl ?_|refine ck ?_|refine cn ?_)
     exact fK rfl (fun w hw=>⟨⟨_,rfl⟩,.inr ⟨_,cf (hJx _) hw.rid⟩⟩)
   ·obtain rfl:j=8:=by simp at hc;omega
    refine aM<|Xq<|Bnr rfl rfl (fun _=>ap _ _ _ (by unfold inI;omega))<|Mv rfl<|aa<|?_
    repeat (refine aJ ?_)
    exact aA<|⟨rfl,⟨i+1,by omega⟩,_,by show bs.length-(i+1)<bs.length-i;omega,rfl,⟨rfl,rfl,rfl,rfl,rfl,trivial⟩,trivial⟩
  ·refine ah<|ae (E:=EE [3000000])<|Mv rfl<|Bnr (v:=.bool (decide (j<8))) rfl rfl (fun _=>(cS _ _ _).trans (by rw[show decide ((7-(j:Int))≥0)=decide (j<8)from decide_eq_decide.2 (by omega)]))<|aa<|?_
   refine ba rfl (fun hc=> ?_) (fun hc=> ?_)
   ·have hj2:j<8:=by simpa using hc
    refine au<|ah<|ai<|ae (E:=EE [3000000])<|Mv rfl<|Mv rfl<|Bnr (v:=U8 (bs.getD i 0>>>(7-j))) rfl rfl (fun _=>(fD _ _ _ (by omega)).trans (by rw[show (7-(j:Int)).toNat=7-j by omega]))<|Bnr (v:=U8 (dM bs (8*i+j))) rfl rfl (fun _=>(gI _ _ 1#8).trans (by rw[Fl bs i j hj2]))<|Bnr (v:=.bool false) rfl rfl (fun w=>(dz _ _ _).trans (congrArg (fun b=>Result.ok (Value.bool b) w) (beq_eq_false_iff_ne.2 h1)))<|Mv rfl<|Sk<|Sk<|Sk<|Sk<|Sk<|Sk<|Sk<|Sk<|Sk<|Sk<|Sk<|Pk rfl rfl rfl<|aa<|aV rfl<|au<|bM (E:=EE [3000000])<|Mv rfl<|Bnr (v:=I (7-((j+1:Nat):Int))) rfl rfl (fun _=>(aL _ _ _ (by unfold inI;omega)).trans (by rw[show 7-(j:Int)-1=7-((j+1:Nat):Int) by omega]))<|Asg rfl<|aa<|?_
    repeat (refine aJ ?_)
    refine aA ?_
    rw[←oB_n h1]
    exact ⟨rfl,⟨j+1,by omega⟩,_,by show 8-(j+1)<8-j;omega,rfl,⟨rfl,rfl,rfl,rfl,rfl,rfl,rfl,rfl,trivial⟩,trivial⟩
   ·obtain rfl:j=8:=by simp at hc;omega
    refine aM<|bM (E:=EE [3000000])<|Bnr rfl rfl (fun _=>ap _ _ _ (by unfold inI;omega))<|Mv rfl<|aa<|?_
    repeat (refine aJ ?_)
    exact aA<|⟨rfl,⟨i+1,by omega⟩,_,by show bs.length-(i+1)<bs.length-i;omega,rfl,⟨rfl,rfl,rfl,rfl,rfl,trivial⟩,trivial⟩
 ·obtain rfl:i=bs.length:=by simp at hc;omega
  refine aM ?_
  repeat (first|refine eV ?_|refine dw ?_|refine fP rfl ?_|refine ck ?_|refine cn ?_)
  refine cT rfl (fun w hw=>⟨⟨_,rfl⟩,.inl ?_⟩)
  have:=cf (hJ _) hw.rid
  rw[vG]
  exact this
theorem qQ(x:W6)(n:Int)(hn:n≤1000000000):Pure Tryz.prog Gt 88 [EV6 x,I n] (EV6 (E2w.dbN x n.toNat)):=by
 intro w hw
 refine Hf func88 rfl hw<|fun hGF=>Xp<|Bx 2 hGF rfl<|fun b2=>Al 4 hGF rT<|fun b4=>aa<|ah<|Xp<|Mv rfl<|Mv rfl<|aa<|ai<|bg (ι:={i:Nat // i≤n.toNat}) (fun y=>[(2,.pointer (some ⟨b2,0,none⟩)),(4,.pointer (some ⟨b4,0,none⟩)),(5,I n),(6,I (y.1:Int))]) (fun y=>[(2,b2,((fe ((E2w.dbN x y.1).1).1++fe ((E2w.dbN x y.1).1).2)++((fe ((E2w.dbN x y.1).2.1).1++fe ((E2w.dbN x y.1).2.1).2)++(fe ((E2w.dbN x y.1).2.2).1++fe ((E2w.dbN x y.1).2.2).2))).map U64,31),(4,b4,((fe 0++fe 0)++((fe 0++fe 0)++(fe 0++fe 0))).map U64,31)]) (fun y=>n.toNat-y.1) ⟨0,Nat.zero_le _⟩ hGF ⟨rfl,rfl,rfl,rfl,trivial⟩ ⟨rfl,rfl,trivial⟩<|?_
 rintro ⟨i,hi⟩
 dsimp only
 refine Xp<|Bnr (v:=.bool (decide ((i:Int)<n))) rfl rfl (fun _=>av _ _ _)<|aa<|ah<|?_
 refine ba rfl (fun hc=> ?_) (fun hc=> ?_)
 ·have hi2:i<n.toNat:=by simp at hc;omega
  refine au<|ah<|ai<|Xq<|La 2 rfl rfl dj<|Ca rfl (Lq (E2w.dbN x i))<|Sa 2 hGF rfl rfl rfl dj<|aa<|Xq<|Bnr rfl rfl (fun _=>ap _ _ _ (by unfold inI;omega))<|Mv rfl<|aa<|?_
  repeat (refine aJ ?_)
  exact aA<|⟨rfl,⟨i+1,by omega⟩,_,by show n.toNat-(i+1)<n.toNat-i;omega,rfl,⟨rfl,rfl,rfl,rfl,trivial⟩,⟨rfl,rfl,trivial⟩⟩
 ·obtain rfl:i=n.toNat:=by simp at hc;omega
  refine aM<|Xp<|La 2 rfl rfl dj<|Sa 4 hGF rfl rfl rfl dj<|aa<|aq<|Rr<|?_
  exact aw 4 rfl rfl rfl isAgg31 sizeOf31 (by simp) (fun w hw=>⟨rfl,ac hw⟩)
theorem jdbN(x:W6)(a:Nat)(ha:a<100000000):Pure Tryz.prog Gt 88 [EV6 x,I (a:Int)] (EV6 (E2w.dbN x a)):=by
 have h:=qQ x (a:Int) (by omega)
 rw[Int.toNat_natCast]at h
 exact h
theorem jdbS(x:W6)(a b:Nat)(ha:a<100000000):Pure Tryz.prog Gt 88 [EV6 x,I ((a:Int)-(b:Int))] (EV6 (E2w.dbN x (a-b))):=by
 have h:=qQ x ((a:Int)-(b:Int)) (by omega)
 rw[Int.toNat_sub]at h
 exact h
theorem EG{L:List Nat}{k:Nat}{v:List Value}(h:(NLs L)[k]? =some v): ∃n:Nat,L[k]? =some n∧[I (n:Int)]=v:=by
 rw[NLs,List.getElem?_map]at h
 cases e:L[k]? with
 |none=>rw[e]at h;cases h
 |some y=>rw[e]at h;exact ⟨y,rfl,Option.some.inj h⟩
theorem oR(x:W6)(gf:Nat)(caps:List Value)(L:List Nat)(Rd:Cls)(he:am Tryz.prog gf)(hseq:iI Tryz.prog Gt gf caps (NLs L) Rd)(hL: ∀b∈L,b<100000000)(w:World)(hw:Gt w)(hRs: ∀w',Grow w w'→Rd w'):
 Calls Tryz.prog 44 [EV6 x,.func (.func gf) #[] caps.toArray].toArray w (fun r w'=>r=.returned (EV6 (E2w.tmF x L))∧Grow w w'):=by
 have hGF:BOk Gt (pl w):=gt_low.plain hw
 refine el (G:=Gt) func44 rfl rfl (Hp (pl w) []) (cP (pl w) trivial ao) (az hGF)<|Xp<|Bx 2 hGF rfl<|fun b2=>Al 4 hGF rT<|fun b4=>aa<|Xp<|Al 5 hGF rT<|fun b5=>aa<|Xp<|jE 6 hGF zeroValue3 rfl rfl<|fun b6=>gh 6 hGF rfl rfl rfl sizeOf3 rfl (by first|decide|simp) rfl<|aa<|ah<|Xp<|Mv rfl<|aa<|ai<|?_
 refine iS (fun _=>pl w) (fun _ _=>pl w) (fun _=>hGF) (fun _ _=>hGF) (fun _=>rfl) (fun _ _=>rfl) rfl rfl he hseq (fun x hx=>by obtain ⟨k,hk,rfl⟩:=List.mem_map.1 hx;rfl) rfl (fun k=>[(2,b2,((fe ((x).1).1++fe ((x).1).2)++((fe ((x).2.1).1++fe ((x).2.1).2)++(fe ((x).2.2).1++fe ((x).2.2).2))).map U64,31),(4,b4,((fe 0++fe 0)++((fe 0++fe 0)++(fe 0++fe 0))).map U64,31),(5,b5,((fe (((E2w.stK x L k).1).1).1++fe (((E2w.stK x L k).1).1).2)++((fe (((E2w.stK x L k).1).2.1).1++fe (((E2w.stK x L k).1).2.1).2)++(fe (((E2w.stK x L k).1).2.2).1++fe (((E2w.stK x L k).1).2.2).2))).map U64,31),(6,b6,[I ((E2w.stK x L k).2:Int)],3)]) (fun _ _ _=>False) ⟨rfl,rfl,rfl,rfl,trivial⟩ (fun k _ w' h=>hRs w' (h.below (fun _ h=>h))) ?_ ?_ (fun _ _ _ _ _ h=>h.elim)
 ·intro k v hx R hR
  obtain ⟨n,hn,rfl⟩:=EG hx
  have hk:k<L.length:=(List.getElem?_eq_some_iff.1 hn).1
  have hb:=E2w.stK_lt x (by omega) hL k (Nat.le_of_lt hk)
  have hn2:=hL n (List.mem_of_getElem? hn)
  refine Xq<|Asg rfl<|aa<|?_
  refine ⟨rfl,_,rfl, ?_⟩
  refine ai<|Xd []<|La 5 rfl rfl dj<|gx 6 rfl rfl rfl isAgg3 rfl rfl<|Mv rfl<|Bnr (v:=I (((E2w.stK x L k).2:Int)-(n:Int))) rfl rfl (fun _=>aL _ _ _ (by unfold inI;omega))<|Ca rfl (jdbS (E2w.stK x L k).1 (E2w.stK x L k).2 n hb)<|La 2 rfl rfl dj<|Ca rfl (Jy _ _)<|aF 5 (hR (pl w) rfl hGF).2.1 rfl rfl rfl sizeOf31 (by simp) (by simp) (bq _) rfl<|aa<|Xq<|Mv rfl<|gh 6 (hR (pl w) rfl hGF).2.1 rfl rfl rfl sizeOf3 rfl (by first|decide|simp) rfl<|aa<|?_
  repeat (refine aJ ?_)
  exact ⟨_,rfl,⟨rfl,rfl,by rw[E2w.stK_1 x hn];rfl,by rw[E2w.stK_2 x hn];rfl,trivial⟩⟩
 ·intro D hD
  have hb:=E2w.stK_lt x (by omega) hL L.length (Nat.le_refl _)
  rw[vG]
  refine Xp<|La 5 rfl rfl dj<|gx 6 rfl rfl rfl isAgg3 rfl rfl<|Ca rfl (jdbN (E2w.stK x L L.length).1 (E2w.stK x L L.length).2 hb)<|Sa 4 hD rfl rfl rfl dj<|aa<|aq<|Rr<|?_
  exact i4 (.inl rfl) ao (aw 4 rfl rfl rfl isAgg31 sizeOf31 (by simp) (fun w hw=>⟨rfl,ac hw⟩))
def mlB(x:W6)(bs:List (BitVec 8)):W6:=E2w.tmF x (oB bs (8*bs.length))
theorem Ch{x:W6}{P:Pt W2}(hP:E2w.onP P)(hx:E2w.jr x P){bs:List (BitVec 8)}{m:Nat}(hm:BN bs bs.length=m):E2w.jr (mlB x bs) (E2w.times P m):=by
 subst hm
 rw[←I4];exact E2w.tmF_jr hP hx (zZ _ _ _ (Nat.le_refl _))
theorem nh(x:W6)(e:Option Addr)(cap:Nat)(bs:List (BitVec 8))(hlen:bs.length≤1000000)(w:World)(hw:Gt w)(hby:BytesAt w e bs):
 Calls Tryz.prog 15 [EV6 x,.slice e bs.length cap].toArray w (fun r w'=>r=.returned (EV6 (mlB x bs))∧Grow w w'):=by
 refine Hf func15 rfl hw<|fun hGF=>ae (E:=EE [45,2000045])<|Bx 2 hGF rfl<|fun b2=>Al 4 hGF rT<|fun b4=>aa<|Xd [45,2000045]<|La 2 rfl rfl dj<|Mv rfl<|?_
 refine bx rfl rfl ent45 rfl rfl (fun w' hw'=>(qj _ rfl w' (hGF.g _ _ _ hw')).mono fun e' w'' h=> ?_)
 obtain ⟨c1,rfl,hg,h1,ho⟩:=h
 refine ⟨_,_,rfl,az hGF,hw'.news ao hg [(33,c1,[.slice e bs.length cap],22)] ?_ bH,bB ao rfl, ?_⟩
 ·intro n' b' c' t' hl
  rcases aH hl with ⟨_,e⟩|⟨_,hl⟩
  ·cases e;exact ⟨h1,ho⟩
  ·cases hl
 clear hw' hg h1 ho
 refine Cc rfl ent44 (fun w' hC hG=>oR x 89 [.pointer (some ⟨c1,0,none⟩)] (oB bs (8*bs.length)) (RdD c1 e cap bs) ent89 (s7 c1 e cap bs (by omega)) (fun b hb=>by have:=LQ hb (Nat.le_refl _);omega) w' hG (fun w'' hg=>yv ⟨cg (n:=33) rfl rfl w' hC,hby.grow (hC.below (fun _ h=>h))⟩ hg))<|Sa 4 hGF rfl rfl rfl dj<|aa<|aq<|Rr<|?_
 exact aw 4 rfl rfl rfl isAgg31 sizeOf31 (by simp) (fun w hw=>⟨rfl,ac hw⟩)
def TBX:List (BitVec 8):=[26#8,1#8,17#8,234#8,57#8,127#8,230#8,153#8,236#8,2#8,64#8,134#8,99#8,212#8,222#8,133#8,170#8,13#8,133#8,125#8,137#8,117#8,154#8,212#8,137#8,125#8,41#8,101#8,15#8,184#8,95#8,155#8,64#8,148#8,39#8,235#8,79#8,73#8,255#8,253#8,139#8,253#8,0#8,0#8,0#8,0#8,170#8,173#8]
theorem NM:FV TBX=TX2.2:=by rw[FV,if_pos ⟨rfl,by decide+kernel⟩];decide+kernel
theorem Ml{a:Zp}(ha:TX2.2=a)(s0:ByteArray)(h0:s0.data.toList=TBX.map (fun x=>UInt8.ofBitVec x)):Pure Tryz.prog Gt 43 [.string s0] (EV a):=by
 have h:=Gz s0 TBX h0
 rw[NM,ha]at h
 exact h
def TBY:List (BitVec 8):=[19#8,82#8,3#8,230#8,1#8,128#8,166#8,142#8,226#8,233#8,196#8,72#8,215#8,122#8,44#8,217#8,28#8,61#8,237#8,217#8,48#8,177#8,207#8,96#8,239#8,57#8,100#8,137#8,246#8,30#8,180#8,94#8,48#8,68#8,102#8,207#8,62#8,103#8,250#8,10#8,241#8,238#8,123#8,4#8,18#8,27#8,222#8,162#8]
theorem LP:FV TBY=TY2.1:=by rw[FV,if_pos ⟨rfl,by decide+kernel⟩];decide+kernel
theorem LJ{a:Zp}(ha:TY2.1=a)(s0:ByteArray)(h0:s0.data.toList=TBY.map (fun x=>UInt8.ofBitVec x)):Pure Tryz.prog Gt 43 [.string s0] (EV a):=by
 have h:=Gz s0 TBY h0
 rw[LP,ha]at h
 exact h
def UB8:List (BitVec 8):=[210#8,1#8,0#8,0#8,0#8,1#8,0#8,0#8]
theorem Ng:BN UB8 UB8.length=UG:=by decide+kernel
theorem N6{f:W6→W6}(hf: ∀x,mlB x UB8=f x)(x:W6)(b c:Nat)(w:World)(hw:Gt w)(h:w.rangeAt b 0 (UB8.map U8)):Calls Tryz.prog 15 [EV6 x,.slice (some ⟨b,0,none⟩) UB8.length c].toArray w (fun r w'=>r=.returned (EV6 (f x))∧Grow w w'):=by
 have k:=nh x (some ⟨b,0,none⟩) c UB8 (by decide) w hw (BytesAt.range h)
 rw[hf]at k
 exact k
def tuJ(c d:W2)(x:W6):W6:=(ml2 (cj2 x.1) c,ml2 (cj2 x.2.1) d,cj2 x.2.2)
theorem Lu{c d:W2}{x:W6}{p:W2×W2}(hx:E2w.jr x (some p)):E2w.jr (tuJ c d x) (some (ml2 c (cj2 p.1),ml2 d (cj2 p.2))):=by
 have h1:x.1=ml2 p.1 (ml2 x.2.2 x.2.2):=hx.2.1
 have h2:x.2.1=ml2 p.2 (ml2 (ml2 x.2.2 x.2.2) x.2.2):=hx.2.2
 refine ⟨fun e=>hx.1 (rP e), ?_, ?_⟩
 ·show ml2 (cj2 x.1) c=ml2 (ml2 c (cj2 p.1)) (ml2 (cj2 x.2.2) (cj2 x.2.2))
  rw[h1,fF,fF]
  generalize cj2 p.1=a
  generalize cj2 x.2.2=z
  exact zq R2 [a,z,c] (tm (tm j0 (tm j1 j1)) j2) (tm (tm j2 j0) (tm j1 j1))
 ·show ml2 (cj2 x.2.1) d=ml2 (ml2 d (cj2 p.2)) (ml2 (ml2 (cj2 x.2.2) (cj2 x.2.2)) (cj2 x.2.2))
  rw[h2,fF,fF,fF]
  generalize cj2 p.2=a
  generalize cj2 x.2.2=z
  exact zq R2 [a,z,d] (tm (tm j0 (tm (tm j1 j1) j1)) j2) (tm (tm j2 j0) (tm (tm j1 j1) j1))
theorem DK{c d:W2}{x:W6}(hx:E2w.jr x none):E2w.jr (tuJ c d x) none:=by
 have h:x.2.2=ze2:=hx
 show cj2 x.2.2=ze2
 rw[h];exact TW2.f0
theorem zA(p:W2×W2):TW2.p (some p)=some (ml2 TX2 (cj2 p.1),ml2 TY2 (cj2 p.2)):=congrArg some (u7 p)
theorem Hc{x:W6}{P:Pt W2}(hx:E2w.jr x P):E2w.jr (tuJ TX2 TY2 x) (TW2.p P):=by
 cases P with
 |none=>exact DK hx
 |some p=>rw[zA];exact Lu hx
abbrev ngJ(x:W6):W6:=(x.1,ng2 x.2.1,x.2.2)
theorem Kk{bs:List (BitVec 8)}{m:Nat}(hm:BN bs bs.length=m){x:W6}{P:Pt W2}(hP:E2w.onP P)(hx:E2w.jr x P):E2w.eqJ (ngJ (mlB x bs)) (tuJ TX2 TY2 x)↔E2w.ne (E2w.times P m)=TW2.p P:=E2w.eqJ_iff (E2w.jr_n (Ch hP hx hm)) (Hc hx)
theorem u4{x:W6}{P:Pt W2}(hP:E2w.onP P)(hx:E2w.jr x P):E2w.eqJ (ngJ (mlB x UB8)) (tuJ TX2 TY2 x)↔E2w.times P ORD=none:=(Kk Ng hP hx).trans (Nd hP)
theorem EI{c d:Zp}(hc:TX2.2=c)(hd:TY2.1=d)(x:W6):Pure Tryz.prog Gt 34 [EV6 x] (EV6 (tuJ (0,c) (d,-d) x)):=by
 intro w hw
 refine Hf func34 rfl hw<|fun hGF=>Xp<|Bx 1 hGF rfl<|fun b1=>Al 2 hGF rT<|fun b2=>aa<|Xp<|Ca rfl (Ml hc _ rfl)<|Ca rfl (LJ hd _ rfl)<|Al 3 hGF zv27<|fun b3=>Al 4 hGF zv27<|fun b4=>Sa 3 hGF rfl rfl rfl bU<|Sa 4 hGF rfl rfl rfl bU<|aa<|Xd []<|Fa 0 rfl underlying31 rfl sizeOf29<|db 1 _ rfl rfl isAgg29 sizeOf29 (by simp) AN rfl rfl<|Ca rfl (pI _)<|La 3 rfl rfl bU<|kp eF rfl (by simp) rfl rfl<|Ca rfl (gt _ (0,c))<|Fa 12 rfl underlying31 rfl sizeOf29<|db 1 _ rfl rfl isAgg29 sizeOf29 (by simp) (ld_m (by simp)) rfl rfl<|Ca rfl (pI _)<|La 4 rfl rfl bU<|La 4 rfl rfl bU<|Ca rfl (dK _)<|cq eF rfl rfl (by simp) (by simp) rfl rfl<|Ca rfl (gt _ (d,-d))<|Fa 24 rfl underlying31 rfl sizeOf29<|db 1 _ rfl rfl isAgg29 sizeOf29 (by simp) (Nn (m:=12) (n:=12) (by simp) (by simp) rfl) rfl rfl<|Ca rfl (pI _)<|rU vT rfl rfl rfl (by simp) (by simp) (by simp) rfl rfl<|Sa 2 hGF rfl rfl rfl dj<|aa<|aq<|Rr<|?_
 exact aw 2 rfl rfl rfl isAgg31 sizeOf31 (by simp) (fun w hw=>⟨rfl,ac hw⟩)
theorem IQ:((0:Zp),TX2.2)=TX2:=rfl
theorem JH:(TY2.1,-TY2.1)=TY2:=by decide+kernel
theorem Ka{t:W6→W6}(ht: ∀x,tuJ TX2 TY2 x=t x)(x:W6):Pure Tryz.prog Gt 34 [EV6 x] (EV6 (t x)):=by
 have h:=EI rfl rfl x
 rw[IQ,JH,ht]at h
 exact h
theorem jing{f:W6→W6}(hf: ∀x,mlB x UB8=f x){t:W6→W6}(ht: ∀x,tuJ TX2 TY2 x=t x)(x:W6)(hd:Decidable (E2w.eqJ (ngJ (f x)) (t x)))(b:Bool)(hb:b=decide (E2w.eqJ (ngJ (f x)) (t x))):Pure Tryz.prog Gt 11 [EV6 x] (.bool b):=by
 intro w hw
 refine Hf func11 rfl hw<|fun hGF=>ae (E:=EE [1000022])<|Bx 1 hGF rfl<|fun b1=>Asg rfl<|aa<|o9 (EE [2999998,2999996,1000022]) eH (by kernel_rfl) (by kernel_rfl)<|aG (m:=7) [0,5] (by kernel_rfl)<|La 1 rfl rfl dj<|La 1 rfl rfl dj<|aa<|aG (m:=6) [1] (by kernel_rfl)<|Eo 4 UB8 hGF rfl rfl rfl rfl (by decide) (by decide) underlying22 sizeOf5 zeroValue5 rfl rfl<|fun b4=>aa<|aG (m:=5) [2] (by kernel_rfl)<|Da 4 rfl hGF rfl rfl underlying22 underlying5 rfl rfl<|aa<|aG (m:=0) [3,4,6,7,8] (by kernel_rfl)<|Cc rfl ent15 (fun w' hC hG=>N6 hf _ _ _ w' hG (aU (n:=4) rfl w' hC))<|Ca rfl (Ni _)<|Ca rfl (Ka ht x)<|Ca rfl (Jq _ _ hd b hb)<|Asg rfl<|aa<|cv (by kernel_rfl)<|aA<|aq<|Rr<|?_
 exact aQ rfl rfl (fun w hw=>⟨rfl,ac hw⟩)
def rO:GP:=⟨(ze2,ze2,ze2),none,True.intro,rfl⟩
def Ow(p q:GP):GP:=⟨E2w.adA p.J q.J,E2w.ad p.P q.P,E2w.ad_on p.on q.on,E2w.adA_jr p.on q.on p.jr q.jr⟩
def DC(p:GP)(bs:List (BitVec 8)):GP:=⟨mlB p.J bs,E2w.times p.P (BN bs bs.length),E2w.times_on p.on _,Ch p.on p.jr rfl⟩
def NN(x y:W2)(h:ml2 y y=RS4 x):GP:=⟨(x,y,on2),some (x,y),ir (B1.2 h),kP (x,y)⟩
theorem zv31(w:World):(zeroValue 31).run Tryz.prog w=.ok (PtV rO) w:=rT w
theorem N0{J:W6}{P:Pt W2}(h:E2w.jr J P)(hn: ¬P=none):ml2 J.1 (ml2 (iv2 J.2.2) (iv2 J.2.2))=PX P∧ml2 J.2.1 (ml2 (ml2 (iv2 J.2.2) (iv2 J.2.2)) (iv2 J.2.2))=PY P:=by
 cases P with
 |none=>exact absurd rfl hn
 |some p=>exact E2w.xy_w h (E2w.hi _ h.1)
theorem NT(p q:GP):Pure Tryz.prog Gt 58 [PtV p,PtV q] (PtV (Ow p q)):=Jy p.J q.J
theorem xy_n(p:GP)(h:p.P=none):Pure Tryz.prog Gt 20 [PtV p] (.tuple #[EV2 ze2,EV2 ze2,.bool false]):=Ov p.J ((E2w.jr_zI p.jr).2 h)
theorem Mx(p:GP)(h: ¬p.P=none):Pure Tryz.prog Gt 20 [PtV p] (.tuple #[EV2 (PX p.P),EV2 (PY p.P),.bool true]):=by
 have k:=MG p.J (fun e=>h ((E2w.jr_zI p.jr).1 e))
 have e:=N0 p.jr h
 rw[e.1,e.2]at k
 exact k
theorem Ly(x y:W2)(h:ml2 y y=RS4 x):Pure Tryz.prog Gt 141 [EV2 x,EV2 y] (.tuple #[PtV (NN x y h),.bool true]):=Jf x y h
theorem kQ(p:GP):Pure Tryz.prog Gt 11 [PtV p] (.bool (decide (E2w.times p.P ORD=none))):= 
 have hd:Decidable (E2w.eqJ (ngJ (mlB p.J UB8)) (tuJ TX2 TY2 p.J)):=decidable_of_iff _ (u4 p.on p.jr).symm
 jing (fun _=>rfl) (fun _=>rfl) p.J hd _ (decide_eq_decide.2 (u4 p.on p.jr).symm)
theorem Mn(p:GP)(e:Option Addr)(cap:Nat)(bs:List (BitVec 8))(hlen:bs.length≤1000)(w:World)(hw:Gt w)(hby:BytesAt w e bs):Calls Tryz.prog 15 [PtV p,.slice e bs.length cap].toArray w (fun r w'=>r=.returned (PtV (DC p bs))∧Grow w w'):=nh p.J e cap bs (by omega) w hw hby
end
end Go.Proofs.YtodgbdcjjhmnkaaGreatDoor
