/-
 The program's points.
 The program's points.
-/
import Derived.Test.YtodgbdcjjhmnkaaGreatDoorQ3
import Derived.Test.YtodgbdcjjhmnkaaGreatDoorX5
import Derived.Test.YtodgbdcjjhmnkaaGreatDoorX3
import Derived.Test.YtodgbdcjjhmnkaaGreatDoorXW
set_option maxRecDepth 100000
set_option maxHeartbeats 1000000
namespace Go.Proofs.YtodgbdcjjhmnkaaGreatDoor
open Go.Proofs.Tryz
section
open Go.RowKit
attribute [local simp] a8 bG aE az a6 aY aQ aK a9 PLl d8 ec N1l d6 d9 dR bC bL bN bO ce
theorem ent15:ah Tryz.prog 15:=fun _ _=>by kernel_rfl
theorem ent50:ah Tryz.prog 50:=fun _ _=>by kernel_rfl
theorem ent44:ah Tryz.prog 44:=fun _ _=>by kernel_rfl
theorem ent45:ah Tryz.prog 45:=fun _ _=>by kernel_rfl
theorem ent19:ah Tryz.prog 19:=fun _ _=>by kernel_rfl
theorem ent140:ah Tryz.prog 140:=fun _ _=>by kernel_rfl
theorem ent11:ah Tryz.prog 11:=fun _ _=>by kernel_rfl
theorem ent38:ah Tryz.prog 38:=fun _ _=>by kernel_rfl
theorem ent18:ah Tryz.prog 18:=fun _ _=>by kernel_rfl
theorem ent58:ah Tryz.prog 58:=fun _ _=>by kernel_rfl
theorem ent48:ah Tryz.prog 48:=fun _ _=>by kernel_rfl
theorem ent99:ah Tryz.prog 99:=fun _ _=>by kernel_rfl
structure GP where
 J:W6
 P:Pt W2
 on:E2w.onP P
 jr:E2w.jr J P
def GL(p:GP):List (BitVec 64):=((fe p.J.1.1++fe p.J.1.2)++((fe p.J.2.1.1++fe p.J.2.1.2)++(fe p.J.2.2.1++fe p.J.2.2.2)))
theorem dW(p:GP):(GL p).length=36:=by simp[GL]
attribute [local simp] dW
abbrev PtV(p:GP):Value:=.agg ((GL p).map U64).toArray
def PX:Pt W2→W2
 |none=>ze2
 |some p=>p.1
def PY:Pt W2→W2
 |none=>ze2
 |some p=>p.2
def RS4(x:W2):W2:=ad2 (ml2 (ml2 x x) x) E2w.b
abbrev LQ(x:W2):Prop:=IsQ (nm2 (RS4 x))
theorem wK{x y:W2}:E2w.on (x,y)↔ml2 y y=RS4 x:=by
 show ml2 y y=ad2 (ml2 x (ml2 x x)) E2w.b↔ml2 y y=ad2 (ml2 (ml2 x x) x) E2w.b
 rw[show ml2 x (ml2 x x)=ml2 (ml2 x x) x from R2.mul_comm _ _]
theorem iQ{p:W2×W2}(h:E2w.on p):E2w.onP (some p):=h
def sgY(r:W2):Bool→W2
 |true=>ng2 r
 |false=>r
theorem I1(r:W2):ml2 (ng2 r) (ng2 r)=ml2 r r:=zq R2 [r] (tm (tn j0) (tn j0)) (tm j0 j0)
theorem Ga{x r:W2}(hr:ml2 r r=RS4 x)(l:Bool):ml2 (sgY r l) (sgY r l)=RS4 x:=by
 cases l with
 |true=>exact (I1 r).trans hr
 |false=>exact hr
theorem AU{x:W2}(h:LQ x): ∃r,ml2 r r=RS4 x∧LG2 r=false:=by
 obtain ⟨r,hr⟩:=(ff (RS4 x)).2 h
 exact ⟨NL r,(tW r).trans hr,iO r⟩
theorem jE(w:World):(zeroValue 31).run Tryz.prog w=.ok (.agg (((fe 0++fe 0)++((fe 0++fe 0)++(fe 0++fe 0))).map U64).toArray) w:=by rw[gA];exact (zeroValue31 w).trans (by rfl)
theorem kN:Three Tryz.prog 31 ⟨ "x",29,0,false, "", "pharos/g2",0⟩ ⟨ "y",29,12,false, "", "pharos/g2",96⟩ ⟨ "z",29,24,false, "", "pharos/g2",192⟩ 12 (fe 0++fe 0) (fe 0++fe 0) (fe 0++fe 0):=⟨underlying31,rfl,rfl,rfl,sizeOf29,sizeOf29,sizeOf29,jE,by simp,by simp,by simp⟩
theorem Gv(x y:W2):Pure Tryz.prog Gt 98 [EV2 x,EV2 y] (EV2 (E2w.sub x y)):=by
 have h:=CR x y
 rw[qE]at h
 exact h
def TO60:Tb Tryz.prog Gt:=TO59.add (bI (g:=E2w.sub) ent98 Gv)
theorem Ep(x:W6):Pure Tryz.prog Gt 48 [EV6 x] (.bool (decide (x.2.2=ze2))):=(bM (l1 (V6 _)) rfl (pE TO60 func48 [.inl [x.1.1,x.1.2,x.2.1.1,x.2.1.2,x.2.2.1,x.2.2.2]] (.inl (.inr (.inl (decide (x.2.2=ze2))))) (.inl (.inr (.inl (decide ((x.2.2.1,x.2.2.2)=ze2)))),[]) [] (by kernel_rfl) aD rfl))
def TO61:Tb Tryz.prog Gt:=TO60.add (my (g:=fun x=>decide (x.2.2=ze2)) ent48 Ep)
theorem E5(x:W6):Pure Tryz.prog Gt 18 [EV6 x] (EV6 (x.1,ng2 x.2.1,x.2.2)):=(bM (l1 (V6 _)) (V6 _) (pE TO61 func18 [.inl [x.1.1,x.1.2,x.2.1.1,x.2.1.2,x.2.2.1,x.2.2.2]] (.inl (.inl [(x.1,ng2 x.2.1,x.2.2).1.1,(x.1,ng2 x.2.1,x.2.2).1.2,(x.1,ng2 x.2.1,x.2.2).2.1.1,(x.1,ng2 x.2.1,x.2.2).2.1.2,(x.1,ng2 x.2.1,x.2.2).2.2.1,(x.1,ng2 x.2.1,x.2.2).2.2.2])) (let t0:=ng2 (x.2.1.1,x.2.1.2);(.inl (.inl [x.1.1,x.1.2,t0.1,t0.2,x.2.2.1,x.2.2.2]),[])) [] (by kernel_rfl) aD rfl))
def TO62:Tb Tryz.prog Gt:=TO61.add (fX (g:=fun x=>(x.1,ng2 x.2.1,x.2.2)) ent18 E5)
theorem jinf  :Pure Tryz.prog Gt 140 [] (EV6 (ze2,ze2,ze2)):=(bM rfl (V6 _) (pE TO62 func140 [] (.inl (.inl [(ze2,ze2,ze2).1.1,(ze2,ze2,ze2).1.2,(ze2,ze2,ze2).2.1.1,(ze2,ze2,ze2).2.1.2,(ze2,ze2,ze2).2.2.1,(ze2,ze2,ze2).2.2.2])) (.inl (.inl [0,0,0,0,0,0]),[]) [] (by kernel_rfl) aD rfl))
theorem Kb{f:Nat}{g:W6}(en:ah Tryz.prog f)(h:Pure Tryz.prog Gt f [] (EV6 g)):Snd Tryz.prog Gt f (c0 q6.rd g):=DI q6.rd en (bM rfl (V6 _).symm h)
def TO63:Tb Tryz.prog Gt:=TO62.add (Kb (g:=(ze2,ze2,ze2)) ent140 jinf)
theorem Dr(a:W2):Pure Tryz.prog Gt 50 [EV2 a] (EV2 (ml2 (ml2 a a) a)):=pE TO63 func50 [.inl [a.1,a.2]] (.inl (.inl [(ml2 (ml2 a a) a).1,(ml2 (ml2 a a) a).2])) (let t0:=ml2 a a;let t1:=ml2 (t0.1,t0.2) a;(.inl (.inl [t1.1,t1.2]),[])) [] (by kernel_rfl) aD rfl
def TO64:Tb Tryz.prog Gt:=TO63.add (cE (g:=fun a=>ml2 (ml2 a a) a) ent50 Dr)
theorem JT(x:W6):Pure Tryz.prog Gt 99 [EV6 x] (EV6 (E2w.dbA x)):=(bM (l1 (V6 _)) (V6 _) (pE TO64 func99 [.inl [x.1.1,x.1.2,x.2.1.1,x.2.1.2,x.2.2.1,x.2.2.2]] (.inl (.inl [(E2w.dbA x).1.1,(E2w.dbA x).1.2,(E2w.dbA x).2.1.1,(E2w.dbA x).2.1.2,(E2w.dbA x).2.2.1,(E2w.dbA x).2.2.2])) (let t0:=ad2 (x.2.1.1,x.2.1.2) (x.2.1.1,x.2.1.2);let t1:=ml2 (x.1.1,x.1.2) (x.1.1,x.1.2);let t2:=ad2 (t1.1,t1.2) (t1.1,t1.2);let t3:=ad2 (t2.1,t2.2) (t1.1,t1.2);let t4:=ml2 (t0.1,t0.2) (t0.1,t0.2);let t5:=ml2 (t4.1,t4.2) (x.1.1,x.1.2);let t6:=ml2 (t3.1,t3.2) (t3.1,t3.2);let t7:=E2w.sub (t6.1,t6.2) (t5.1,t5.2);let t8:=E2w.sub (t7.1,t7.2) (t5.1,t5.2);let t9:=E2w.sub (t5.1,t5.2) (t8.1,t8.2);let t10:=ml2 (t3.1,t3.2) (t9.1,t9.2);let t11:=ml2 (t4.1,t4.2) (t0.1,t0.2);let t12:=ml2 (t11.1,t11.2) (x.2.1.1,x.2.1.2);let t13:=E2w.sub (t10.1,t10.2) (t12.1,t12.2);let t14:=ml2 (x.2.2.1,x.2.2.2) (t0.1,t0.2);(.inl (.inl [t8.1,t8.2,t13.1,t13.2,t14.1,t14.2]),[])) [] (by kernel_rfl) aD rfl))
def TO65:Tb Tryz.prog Gt:=TO64.add (fX (g:=E2w.dbA) ent99 JT)
theorem Gc(x y:W6):Pure Tryz.prog Gt 58 [EV6 x,EV6 y] (EV6 (E2w.adA x y)):=by
 by_cases h1:x.2.2=ze2
 ·exact (bM (l2 (V6 _) (V6 _)) (V6 _) (pE TO65 func58 [.inl [x.1.1,x.1.2,x.2.1.1,x.2.1.2,x.2.2.1,x.2.2.2],.inl [y.1.1,y.1.2,y.2.1.1,y.2.1.2,y.2.2.1,y.2.2.2]] (.inl (.inl [(E2w.adA x y).1.1,(E2w.adA x y).1.2,(E2w.adA x y).2.1.1,(E2w.adA x y).2.1.2,(E2w.adA x y).2.2.1,(E2w.adA x y).2.2.2])) (.inl (.inl [y.1.1,y.1.2,y.2.1.1,y.2.1.2,y.2.2.1,y.2.2.2]),[(decide (x.2.2=ze2),true)]) [some true] (by kernel_rfl) (am (decide_eq_true h1) aD) (by rw[show E2w.adA x y=y from if_pos h1]<;>exact rfl)))
 ·by_cases h2:y.2.2=ze2
  ·exact (bM (l2 (V6 _) (V6 _)) (V6 _) (pE TO65 func58 [.inl [x.1.1,x.1.2,x.2.1.1,x.2.1.2,x.2.2.1,x.2.2.2],.inl [y.1.1,y.1.2,y.2.1.1,y.2.1.2,y.2.2.1,y.2.2.2]] (.inl (.inl [(E2w.adA x y).1.1,(E2w.adA x y).1.2,(E2w.adA x y).2.1.1,(E2w.adA x y).2.1.2,(E2w.adA x y).2.2.1,(E2w.adA x y).2.2.2])) (.inl (.inl [x.1.1,x.1.2,x.2.1.1,x.2.1.2,x.2.2.1,x.2.2.2]),[(decide (x.2.2=ze2),false),(decide (y.2.2=ze2),true)]) [some false,some true] (by kernel_rfl) (am (decide_eq_false h1) (am (decide_eq_true h2) aD)) (by rw[show E2w.adA x y=x from (if_neg h1).trans (if_pos h2)]<;>exact rfl)))
  ·by_cases h3:E2w.jh x.1 x.2.2 y.1 y.2.2=ze2
   ·by_cases h4:E2w.jq x.2.1 x.2.2 y.2.1 y.2.2=ze2
    ·exact (bM (l2 (V6 _) (V6 _)) (V6 _) (pE TO65 func58 [.inl [x.1.1,x.1.2,x.2.1.1,x.2.1.2,x.2.2.1,x.2.2.2],.inl [y.1.1,y.1.2,y.2.1.1,y.2.1.2,y.2.2.1,y.2.2.2]] (.inl (.inl [(E2w.adA x y).1.1,(E2w.adA x y).1.2,(E2w.adA x y).2.1.1,(E2w.adA x y).2.1.2,(E2w.adA x y).2.2.1,(E2w.adA x y).2.2.2])) (let t0:=ml2 (x.2.2.1,x.2.2.2) (x.2.2.1,x.2.2.2);let t1:=ml2 (y.2.2.1,y.2.2.2) (y.2.2.1,y.2.2.2);let t2:=ml2 (x.1.1,x.1.2) (t1.1,t1.2);let t3:=ml2 (x.2.1.1,x.2.1.2) (t1.1,t1.2);let t4:=ml2 (t3.1,t3.2) (y.2.2.1,y.2.2.2);let t5:=ml2 (y.1.1,y.1.2) (t0.1,t0.2);let t6:=E2w.sub (t5.1,t5.2) (t2.1,t2.2);let t7:=ml2 (y.2.1.1,y.2.1.2) (t0.1,t0.2);let t8:=ml2 (t7.1,t7.2) (x.2.2.1,x.2.2.2);let t9:=E2w.sub (t8.1,t8.2) (t4.1,t4.2);let t10:=E2w.dbA x;(.inl (.inl [t10.1.1,t10.1.2,t10.2.1.1,t10.2.1.2,t10.2.2.1,t10.2.2.2]),[(decide (x.2.2=ze2),false),(decide (y.2.2=ze2),false),(decide ((t6.1,t6.2)=ze2),true),(decide ((t9.1,t9.2)=ze2),true)])) [some false,some false,some true,some true] (by kernel_rfl) (am (decide_eq_false h1) (am (decide_eq_false h2) (am (decide_eq_true h3) (am (decide_eq_true h4) aD)))) (by rw[show E2w.adA x y=E2w.dbA x from (if_neg h1).trans ((if_neg h2).trans ((if_pos h3).trans (if_pos h4)))]<;>exact rfl)))
    ·exact (bM (l2 (V6 _) (V6 _)) (V6 _) (pE TO65 func58 [.inl [x.1.1,x.1.2,x.2.1.1,x.2.1.2,x.2.2.1,x.2.2.2],.inl [y.1.1,y.1.2,y.2.1.1,y.2.1.2,y.2.2.1,y.2.2.2]] (.inl (.inl [(E2w.adA x y).1.1,(E2w.adA x y).1.2,(E2w.adA x y).2.1.1,(E2w.adA x y).2.1.2,(E2w.adA x y).2.2.1,(E2w.adA x y).2.2.2])) (let t0:=ml2 (x.2.2.1,x.2.2.2) (x.2.2.1,x.2.2.2);let t1:=ml2 (y.2.2.1,y.2.2.2) (y.2.2.1,y.2.2.2);let t2:=ml2 (x.1.1,x.1.2) (t1.1,t1.2);let t3:=ml2 (x.2.1.1,x.2.1.2) (t1.1,t1.2);let t4:=ml2 (t3.1,t3.2) (y.2.2.1,y.2.2.2);let t5:=ml2 (y.1.1,y.1.2) (t0.1,t0.2);let t6:=E2w.sub (t5.1,t5.2) (t2.1,t2.2);let t7:=ml2 (y.2.1.1,y.2.1.2) (t0.1,t0.2);let t8:=ml2 (t7.1,t7.2) (x.2.2.1,x.2.2.2);let t9:=E2w.sub (t8.1,t8.2) (t4.1,t4.2);(.inl (.inl [0,0,0,0,0,0]),[(decide (x.2.2=ze2),false),(decide (y.2.2=ze2),false),(decide ((t6.1,t6.2)=ze2),true),(decide ((t9.1,t9.2)=ze2),false),(decide ((t6.1,t6.2)=ze2),true)])) [some false,some false,some true,some false,some true] (by kernel_rfl) (am (decide_eq_false h1) (am (decide_eq_false h2) (am (decide_eq_true h3) (am (decide_eq_false h4) (am (decide_eq_true h3) aD))))) (by rw[show E2w.adA x y=(ze2,ze2,ze2)from (if_neg h1).trans ((if_neg h2).trans ((if_pos h3).trans (if_neg h4)))]<;>exact rfl)))
   ·exact (bM (l2 (V6 _) (V6 _)) (V6 _) (pE TO65 func58 [.inl [x.1.1,x.1.2,x.2.1.1,x.2.1.2,x.2.2.1,x.2.2.2],.inl [y.1.1,y.1.2,y.2.1.1,y.2.1.2,y.2.2.1,y.2.2.2]] (.inl (.inl [(E2w.adA x y).1.1,(E2w.adA x y).1.2,(E2w.adA x y).2.1.1,(E2w.adA x y).2.1.2,(E2w.adA x y).2.2.1,(E2w.adA x y).2.2.2])) (let t0:=ml2 (x.2.2.1,x.2.2.2) (x.2.2.1,x.2.2.2);let t1:=ml2 (y.2.2.1,y.2.2.2) (y.2.2.1,y.2.2.2);let t2:=ml2 (x.1.1,x.1.2) (t1.1,t1.2);let t3:=ml2 (x.2.1.1,x.2.1.2) (t1.1,t1.2);let t4:=ml2 (t3.1,t3.2) (y.2.2.1,y.2.2.2);let t5:=ml2 (y.1.1,y.1.2) (t0.1,t0.2);let t6:=E2w.sub (t5.1,t5.2) (t2.1,t2.2);let t7:=ml2 (y.2.1.1,y.2.1.2) (t0.1,t0.2);let t8:=ml2 (t7.1,t7.2) (x.2.2.1,x.2.2.2);let t9:=E2w.sub (t8.1,t8.2) (t4.1,t4.2);let t10:=ml2 (t6.1,t6.2) (t6.1,t6.2);let t11:=ml2 (t10.1,t10.2) (t6.1,t6.2);let t12:=ml2 (t10.1,t10.2) (t2.1,t2.2);let t13:=ml2 (t9.1,t9.2) (t9.1,t9.2);let t14:=E2w.sub (t13.1,t13.2) (t11.1,t11.2);let t15:=E2w.sub (t14.1,t14.2) (t12.1,t12.2);let t16:=E2w.sub (t15.1,t15.2) (t12.1,t12.2);let t17:=E2w.sub (t12.1,t12.2) (t16.1,t16.2);let t18:=ml2 (t9.1,t9.2) (t17.1,t17.2);let t19:=ml2 (t11.1,t11.2) (t4.1,t4.2);let t20:=E2w.sub (t18.1,t18.2) (t19.1,t19.2);let t21:=ml2 (x.2.2.1,x.2.2.2) (y.2.2.1,y.2.2.2);let t22:=ml2 (t21.1,t21.2) (t6.1,t6.2);(.inl (.inl [t16.1,t16.2,t20.1,t20.2,t22.1,t22.2]),[(decide (x.2.2=ze2),false),(decide (y.2.2=ze2),false),(decide ((t6.1,t6.2)=ze2),false),(decide ((t6.1,t6.2)=ze2),false)])) [some false,some false,some false,some false] (by kernel_rfl) (am (decide_eq_false h1) (am (decide_eq_false h2) (am (decide_eq_false h3) (am (decide_eq_false h3) aD)))) (by rw[show E2w.adA x y=E2w.adG x y from (if_neg h1).trans ((if_neg h2).trans (if_neg h3))]<;>exact rfl)))
def TO66:Tb Tryz.prog Gt:=TO65.add (gu (g:=E2w.adA) ent58 Gc)
theorem yP(x y:W6)(hd:Decidable (E2w.eqJ x y))(b:Bool)(hb:b=decide (E2w.eqJ x y)):Pure Tryz.prog Gt 19 [EV6 x,EV6 y] (.bool b):=by
 by_cases h1:x.2.2=ze2
 ·by_cases h2:y.2.2=ze2
  ·exact (bM (l2 (V6 _) (V6 _)) rfl (pE TO66 func19 [.inl [x.1.1,x.1.2,x.2.1.1,x.2.1.2,x.2.2.1,x.2.2.2],.inl [y.1.1,y.1.2,y.2.1.1,y.2.1.2,y.2.2.1,y.2.2.2]] (.inl (.inr (.inl b))) (.inl (.inr (.inl true)),[(decide (x.2.2=ze2),true),(decide (x.2.2=ze2),true),(decide (y.2.2=ze2),true)]) [some true,some true,some true] (by kernel_rfl) (am (decide_eq_true h1) (am (decide_eq_true h1) (am (decide_eq_true h2) aD))) (by obtain rfl:b=true:=hb.trans (decide_eq_true (.inl ⟨h1,h2⟩))<;>exact rfl)))
  ·exact (bM (l2 (V6 _) (V6 _)) rfl (pE TO66 func19 [.inl [x.1.1,x.1.2,x.2.1.1,x.2.1.2,x.2.2.1,x.2.2.2],.inl [y.1.1,y.1.2,y.2.1.1,y.2.1.2,y.2.2.1,y.2.2.2]] (.inl (.inr (.inl b))) (.inl (.inr (.inl false)),[(decide (x.2.2=ze2),true),(decide (x.2.2=ze2),true),(decide (y.2.2=ze2),false)]) [some true,some true,some false] (by kernel_rfl) (am (decide_eq_true h1) (am (decide_eq_true h1) (am (decide_eq_false h2) aD))) (by obtain rfl:b=false:=hb.trans (decide_eq_false (fun e=>e.elim (fun e=>h2 e.2) (fun e=>e.1 h1)))<;>exact rfl)))
 ·by_cases h2:y.2.2=ze2
  ·exact (bM (l2 (V6 _) (V6 _)) rfl (pE TO66 func19 [.inl [x.1.1,x.1.2,x.2.1.1,x.2.1.2,x.2.2.1,x.2.2.2],.inl [y.1.1,y.1.2,y.2.1.1,y.2.1.2,y.2.2.1,y.2.2.2]] (.inl (.inr (.inl b))) (.inl (.inr (.inl false)),[(decide (x.2.2=ze2),false),(decide (y.2.2=ze2),true),(decide (x.2.2=ze2),false)]) [some false,some true,some false] (by kernel_rfl) (am (decide_eq_false h1) (am (decide_eq_true h2) (am (decide_eq_false h1) aD))) (by obtain rfl:b=false:=hb.trans (decide_eq_false (fun e=>e.elim (fun e=>h1 e.1) (fun e=>e.2.1 h2)))<;>exact rfl)))
  ·by_cases h3:ml2 x.1 (ml2 y.2.2 y.2.2)=ml2 y.1 (ml2 x.2.2 x.2.2)
   ·by_cases h4:ml2 x.2.1 (ml2 (ml2 y.2.2 y.2.2) y.2.2)=ml2 y.2.1 (ml2 (ml2 x.2.2 x.2.2) x.2.2)
    ·exact (bM (l2 (V6 _) (V6 _)) rfl (pE TO66 func19 [.inl [x.1.1,x.1.2,x.2.1.1,x.2.1.2,x.2.2.1,x.2.2.2],.inl [y.1.1,y.1.2,y.2.1.1,y.2.1.2,y.2.2.1,y.2.2.2]] (.inl (.inr (.inl b))) (let t0:=ml2 (ml2 (y.2.2.1,y.2.2.2) (y.2.2.1,y.2.2.2)) (y.2.2.1,y.2.2.2);let t1:=ml2 (x.2.1.1,x.2.1.2) (t0.1,t0.2);let t2:=ml2 (ml2 (x.2.2.1,x.2.2.2) (x.2.2.1,x.2.2.2)) (x.2.2.1,x.2.2.2);let t3:=ml2 (y.2.1.1,y.2.1.2) (t2.1,t2.2);let t4:=ml2 (y.2.2.1,y.2.2.2) (y.2.2.1,y.2.2.2);let t5:=ml2 (x.1.1,x.1.2) (t4.1,t4.2);let t6:=ml2 (x.2.2.1,x.2.2.2) (x.2.2.1,x.2.2.2);let t7:=ml2 (y.1.1,y.1.2) (t6.1,t6.2);(.inl (.inr (.inl true)),[(decide (x.2.2=ze2),false),(decide (y.2.2=ze2),false),(decide ((t5.1,t5.2)=(t7.1,t7.2)),true),(decide ((t1.1,t1.2)=(t3.1,t3.2)),true)])) [some false,some false,some true,some true] (by kernel_rfl) (am (decide_eq_false h1) (am (decide_eq_false h2) (am (decide_eq_true h3) (am (decide_eq_true h4) aD)))) (by obtain rfl:b=true:=hb.trans (decide_eq_true (.inr ⟨h1,h2,h3,h4⟩))<;>exact rfl)))
    ·exact (bM (l2 (V6 _) (V6 _)) rfl (pE TO66 func19 [.inl [x.1.1,x.1.2,x.2.1.1,x.2.1.2,x.2.2.1,x.2.2.2],.inl [y.1.1,y.1.2,y.2.1.1,y.2.1.2,y.2.2.1,y.2.2.2]] (.inl (.inr (.inl b))) (let t0:=ml2 (ml2 (y.2.2.1,y.2.2.2) (y.2.2.1,y.2.2.2)) (y.2.2.1,y.2.2.2);let t1:=ml2 (x.2.1.1,x.2.1.2) (t0.1,t0.2);let t2:=ml2 (ml2 (x.2.2.1,x.2.2.2) (x.2.2.1,x.2.2.2)) (x.2.2.1,x.2.2.2);let t3:=ml2 (y.2.1.1,y.2.1.2) (t2.1,t2.2);let t4:=ml2 (y.2.2.1,y.2.2.2) (y.2.2.1,y.2.2.2);let t5:=ml2 (x.1.1,x.1.2) (t4.1,t4.2);let t6:=ml2 (x.2.2.1,x.2.2.2) (x.2.2.1,x.2.2.2);let t7:=ml2 (y.1.1,y.1.2) (t6.1,t6.2);(.inl (.inr (.inl false)),[(decide (x.2.2=ze2),false),(decide (y.2.2=ze2),false),(decide ((t5.1,t5.2)=(t7.1,t7.2)),true),(decide ((t1.1,t1.2)=(t3.1,t3.2)),false)])) [some false,some false,some true,some false] (by kernel_rfl) (am (decide_eq_false h1) (am (decide_eq_false h2) (am (decide_eq_true h3) (am (decide_eq_false h4) aD)))) (by obtain rfl:b=false:=hb.trans (decide_eq_false (fun e=>e.elim (fun e=>h1 e.1) (fun e=>h4 e.2.2.2)))<;>exact rfl)))
   ·exact (bM (l2 (V6 _) (V6 _)) rfl (pE TO66 func19 [.inl [x.1.1,x.1.2,x.2.1.1,x.2.1.2,x.2.2.1,x.2.2.2],.inl [y.1.1,y.1.2,y.2.1.1,y.2.1.2,y.2.2.1,y.2.2.2]] (.inl (.inr (.inl b))) (let t4:=ml2 (y.2.2.1,y.2.2.2) (y.2.2.1,y.2.2.2);let t5:=ml2 (x.1.1,x.1.2) (t4.1,t4.2);let t6:=ml2 (x.2.2.1,x.2.2.2) (x.2.2.1,x.2.2.2);let t7:=ml2 (y.1.1,y.1.2) (t6.1,t6.2);(.inl (.inr (.inl false)),[(decide (x.2.2=ze2),false),(decide (y.2.2=ze2),false),(decide ((t5.1,t5.2)=(t7.1,t7.2)),false)])) [some false,some false,some false] (by kernel_rfl) (am (decide_eq_false h1) (am (decide_eq_false h2) (am (decide_eq_false h3) aD))) (by obtain rfl:b=false:=hb.trans (decide_eq_false (fun e=>e.elim (fun e=>h1 e.1) (fun e=>h3 e.2.2.1)))<;>exact rfl)))
theorem Kd(x:W6)(h:x.2.2=ze2):Pure Tryz.prog Gt 20 [EV6 x] (.tuple #[EV2 ze2,EV2 ze2,.bool false]):=(bM (l1 (V6 _)) rfl (pE TO66 func20 [.inl [x.1.1,x.1.2,x.2.1.1,x.2.1.2,x.2.2.1,x.2.2.2]] (.inr [.inl [ze2.1,ze2.2],.inl [ze2.1,ze2.2],.inr (.inl false)]) (.inr [.inl [0,0],.inl [0,0],.inr (.inl false)],[(decide (x.2.2=ze2),true)]) [some true] (by kernel_rfl) (am (decide_eq_true h) aD) rfl))
theorem IJ(x:W6)(h: ¬x.2.2=ze2):Pure Tryz.prog Gt 20 [EV6 x] (.tuple #[EV2 (ml2 x.1 (ml2 (iv2 x.2.2) (iv2 x.2.2))),EV2 (ml2 x.2.1 (ml2 (ml2 (iv2 x.2.2) (iv2 x.2.2)) (iv2 x.2.2))),.bool true]):=(bM (l1 (V6 _)) rfl (pE TO66 func20 [.inl [x.1.1,x.1.2,x.2.1.1,x.2.1.2,x.2.2.1,x.2.2.2]] (.inr [.inl [(ml2 x.1 (ml2 (iv2 x.2.2) (iv2 x.2.2))).1,(ml2 x.1 (ml2 (iv2 x.2.2) (iv2 x.2.2))).2],.inl [(ml2 x.2.1 (ml2 (ml2 (iv2 x.2.2) (iv2 x.2.2)) (iv2 x.2.2))).1,(ml2 x.2.1 (ml2 (ml2 (iv2 x.2.2) (iv2 x.2.2)) (iv2 x.2.2))).2],.inr (.inl true)]) (let t0:=iv2 (x.2.2.1,x.2.2.2);let t1:=ml2 (t0.1,t0.2) (t0.1,t0.2);let t2:=ml2 (x.1.1,x.1.2) (t1.1,t1.2);let t3:=ml2 (t1.1,t1.2) (t0.1,t0.2);let t4:=ml2 (x.2.1.1,x.2.1.2) (t3.1,t3.2);(.inr [.inl [t2.1,t2.2],.inl [t4.1,t4.2],.inr (.inl true)],[(decide (x.2.2=ze2),false)])) [some false] (by kernel_rfl) (am (decide_eq_false h) aD) rfl))
theorem xH(a b:W2):Pure Tryz.prog Gt 38 [EV2 a,EV2 b] (EV6 (a,b,on2)):=(bM rfl (V6 _) (pE TO66 func38 [.inl [a.1,a.2],.inl [b.1,b.2]] (.inl (.inl [(a,b,on2).1.1,(a,b,on2).1.2,(a,b,on2).2.1.1,(a,b,on2).2.1.2,(a,b,on2).2.2.1,(a,b,on2).2.2.2])) (let t0:=on2;(.inl (.inl [a.1,a.2,b.1,b.2,t0.1,t0.2]),[])) [] (by kernel_rfl) aD rfl))
def TO67:Tb Tryz.prog Gt:=TO66.add (gx (g:=fun a b=>(a,b,on2)) ent38 xH)
theorem of4:Pure Tryz.prog Gt 76 [U64 4#64] (EV (zp 4)):=cU 4#64
theorem lY(a:W2):Pure Tryz.prog Gt 35 [EV2 a] (EV2 (RS4 a)):=by
 intro w hw
 refine Hf func35 rfl hw<|fun hGF=>Xp<|Bx 1 hGF rfl<|fun b1=>Al 2 hGF zv29<|fun b2=>aa<|Xp<|La 1 rfl rfl aM<|Ca rfl (Dr _)<|Ca rfl (of4)<|Ca rfl (of4)<|bP cO rfl rfl (by simp) (by simp) rfl rfl<|Ca rfl (uk _ (zp 4,zp 4))<|Sa 2 hGF rfl rfl rfl aM<|aa<|ap<|Rr<|?_
 exact av 2 rfl rfl rfl isAgg29 sizeOf29 (by simp) (fun w hw=>⟨rfl,ac hw⟩)
theorem Fk(a b:W2)(h:ml2 b b=RS4 a):Pure Tryz.prog Gt 141 [EV2 a,EV2 b] (.tuple #[EV6 (a,b,on2),.bool true]):=by
 intro w hw
 refine Hf func141 rfl hw<|fun hGF=>Xp<|Bx 2 hGF rfl<|fun b2=>Bx 3 hGF rfl<|fun b3=>Al 4 hGF jE<|fun b4=>Asg rfl<|aa<|ae<|Xd []<|La 3 rfl rfl aM<|Ca rfl (jk _)<|La 2 rfl rfl aM<|Ca rfl (lY _)<|Cbl true rfl ent52 (sH _ _) (decide_eq_true h)<|bz rfl (fun _=>bi _) rfl rfl<|aa<|aL rfl<|au<|Xp<|La 2 rfl rfl aM<|La 3 rfl rfl aM<|Ca rfl (xH _ _)<|Sa 4 hGF rfl rfl rfl bt<|Asg rfl<|aa<|ap<|Rr<|?_
 exact bw 4 rfl rfl rfl rfl isAgg31 sizeOf31 (by simp) (fun w hw=>⟨rfl,ac hw⟩)
theorem yc(a s:W2)(hs:Pure Tryz.prog Gt 36 [EV2 (RS4 a)] (.tuple #[EV2 s,.bool true])):Pure Tryz.prog Gt 12 [EV2 a,.bool true] (.tuple #[EV6 (a,ng2 s,on2),.bool true]):=by
 intro w hw
 refine Hf func12 rfl hw<|fun hGF=>Xp<|Bx 2 hGF rfl<|fun b2=>Al 4 hGF jE<|fun b4=>Asg rfl<|aa<|Xp<|La 2 rfl rfl aM<|Ca rfl (lY _)<|Ca rfl (hs)<|Mv rfl<|Ext rfl rfl<|Ext rfl rfl<|Al 6 hGF zv29<|fun b6=>Sa 6 hGF rfl rfl rfl aM<|Asg rfl<|aa<|ae<|Xp<|Mv rfl<|bz rfl (fun _=>bi _) rfl rfl<|aa<|aL rfl<|au<|ae<|Xp<|Mv rfl<|aa<|ba rfl<|Xq<|La 6 rfl rfl aM<|Ca rfl (zh _)<|Sa 6 hGF rfl rfl rfl aM<|aa<|Xp<|La 2 rfl rfl aM<|La 6 rfl rfl aM<|Ca rfl (xH _ _)<|Sa 4 hGF rfl rfl rfl bt<|Asg rfl<|?_
 refine aa<|ap<|Rr<|?_
 exact bw 4 rfl rfl rfl rfl isAgg31 sizeOf31 (by simp) (fun w hw=>⟨rfl,ac hw⟩)
theorem xe(a s:W2)(hs:Pure Tryz.prog Gt 36 [EV2 (RS4 a)] (.tuple #[EV2 s,.bool false])):Pure Tryz.prog Gt 12 [EV2 a,.bool true] (.tuple #[EV6 (ze2,ze2,ze2),.bool false]):=by
 intro w hw
 refine Hf func12 rfl hw<|fun hGF=>Xp<|Bx 2 hGF rfl<|fun b2=>Al 4 hGF jE<|fun b4=>Asg rfl<|aa<|Xp<|La 2 rfl rfl aM<|Ca rfl (lY _)<|Ca rfl (hs)<|Mv rfl<|Ext rfl rfl<|Ext rfl rfl<|Al 6 hGF zv29<|fun b6=>Sa 6 hGF rfl rfl rfl aM<|Asg rfl<|aa<|ae<|Xp<|Mv rfl<|bz rfl (fun _=>bi _) rfl rfl<|aa<|ba rfl<|Xp<|ig kN rfl rfl<|Sa 4 hGF rfl rfl rfl bt<|Asg rfl<|aa<|ap<|Rr<|?_
 exact bw 4 rfl rfl rfl rfl isAgg31 sizeOf31 (by simp) (fun w hw=>⟨rfl,ac hw⟩)
theorem w8(a s:W2)(hs:Pure Tryz.prog Gt 36 [EV2 (RS4 a)] (.tuple #[EV2 s,.bool true])):Pure Tryz.prog Gt 12 [EV2 a,.bool false] (.tuple #[EV6 (a,s,on2),.bool true]):=by
 intro w hw
 refine Hf func12 rfl hw<|fun hGF=>Xp<|Bx 2 hGF rfl<|fun b2=>Al 4 hGF jE<|fun b4=>Asg rfl<|aa<|Xp<|La 2 rfl rfl aM<|Ca rfl (lY _)<|Ca rfl (hs)<|Mv rfl<|Ext rfl rfl<|Ext rfl rfl<|Al 6 hGF zv29<|fun b6=>Sa 6 hGF rfl rfl rfl aM<|Asg rfl<|aa<|ae<|Xp<|Mv rfl<|bz rfl (fun _=>bi _) rfl rfl<|aa<|aL rfl<|au<|ae<|Xp<|Mv rfl<|aa<|aL rfl<|au<|Xp<|La 2 rfl rfl aM<|La 6 rfl rfl aM<|Ca rfl (xH _ _)<|Sa 4 hGF rfl rfl rfl bt<|Asg rfl<|aa<|ap<|Rr<|?_
 exact bw 4 rfl rfl rfl rfl isAgg31 sizeOf31 (by simp) (fun w hw=>⟨rfl,ac hw⟩)
theorem yz(a s:W2)(hs:Pure Tryz.prog Gt 36 [EV2 (RS4 a)] (.tuple #[EV2 s,.bool false])):Pure Tryz.prog Gt 12 [EV2 a,.bool false] (.tuple #[EV6 (ze2,ze2,ze2),.bool false]):=by
 intro w hw
 refine Hf func12 rfl hw<|fun hGF=>Xp<|Bx 2 hGF rfl<|fun b2=>Al 4 hGF jE<|fun b4=>Asg rfl<|aa<|Xp<|La 2 rfl rfl aM<|Ca rfl (lY _)<|Ca rfl (hs)<|Mv rfl<|Ext rfl rfl<|Ext rfl rfl<|Al 6 hGF zv29<|fun b6=>Sa 6 hGF rfl rfl rfl aM<|Asg rfl<|aa<|ae<|Xp<|Mv rfl<|bz rfl (fun _=>bi _) rfl rfl<|aa<|ba rfl<|Xp<|ig kN rfl rfl<|Sa 4 hGF rfl rfl rfl bt<|Asg rfl<|aa<|ap<|Rr<|?_
 exact bw 4 rfl rfl rfl rfl isAgg31 sizeOf31 (by simp) (fun w hw=>⟨rfl,ac hw⟩)
theorem jS{w:World}{b:Nat}{c:List Value}{xs:List (BitVec 8)}(h:w.rangeAt b 0 c)(ht:c.take xs.length=xs.map U8):BytesAt w (some ⟨b,0,none⟩) xs:=by
 refine BytesAt.range fun j v hv=>h j v ?_
 rw[←ht,List.getElem?_take]at hv
 split at hv
 ·exact hv
 ·cases hv
theorem mO(s0:ByteArray)(xs:List (BitVec 8))(h0:s0.data.toList=xs.map (fun x=>UInt8.ofBitVec x)):Pure Tryz.prog Gt 43 [.string s0] (EV (FV xs)):=by
 intro w hw
 refine Hf func43 rfl hw<|fun hGF=>ak (E:=EE [1000022])<|Al 2 hGF zv27<|fun b2=>aa<|ak (E:=EE [1000022])<|Mv rfl<|?_
 refine xf 7 (xs:=xs) rfl hGF rfl underlying9 underlying22 underlying5 h0 rfl rfl (fun b7 c7 k7 e7 l7 t7=> ?_)
 refine Cc rfl ent87 (fun w' hC hG=>jZ _ _ xs w' hG (jS (bv (n:=7) rfl w' hC) t7))<|Mv rfl<|Ext rfl rfl<|Ext rfl rfl<|Al 3 hGF zv27<|fun b3=>Sa 3 hGF rfl rfl rfl bK<|Asg rfl<|aa<|ak (E:=EE [1000022])<|La 3 rfl rfl bK<|Sa 2 hGF rfl rfl rfl bK<|aa<|ap<|Rr<|?_
 exact av 2 rfl rfl rfl isAgg27 sizeOf27 (by simp) (fun w hw=>⟨rfl,ac hw⟩)
def GX0:List (BitVec 8):=[2#8,74#8,162#8,178#8,240#8,143#8,10#8,145#8,38#8,8#8,5#8,39#8,45#8,197#8,16#8,81#8,198#8,228#8,122#8,212#8,250#8,64#8,59#8,2#8,180#8,81#8,11#8,100#8,122#8,227#8,209#8,119#8,11#8,172#8,3#8,38#8,168#8,5#8,187#8,239#8,212#8,128#8,86#8,200#8,193#8,33#8,189#8,184#8]
theorem Ls:FV GX0=G2p.1.1:=by rw[FV,if_pos ⟨rfl,by decide+kernel⟩];decide+kernel
theorem Le{a:Zp}(ha:G2p.1.1=a)(s0:ByteArray)(h0:s0.data.toList=GX0.map (fun x=>UInt8.ofBitVec x)):Pure Tryz.prog Gt 43 [.string s0] (EV a):=by
 have h:=mO s0 GX0 h0
 rw[Ls,ha]at h
 exact h
def GX1:List (BitVec 8):=[19#8,224#8,43#8,96#8,82#8,113#8,159#8,96#8,125#8,172#8,211#8,160#8,136#8,39#8,79#8,101#8,89#8,107#8,208#8,208#8,153#8,32#8,182#8,26#8,181#8,218#8,97#8,187#8,220#8,127#8,80#8,73#8,51#8,76#8,241#8,18#8,19#8,148#8,93#8,87#8,229#8,172#8,125#8,5#8,93#8,4#8,43#8,126#8]
theorem Ib:FV GX1=G2p.1.2:=by rw[FV,if_pos ⟨rfl,by decide+kernel⟩];decide+kernel
theorem JL{a:Zp}(ha:G2p.1.2=a)(s0:ByteArray)(h0:s0.data.toList=GX1.map (fun x=>UInt8.ofBitVec x)):Pure Tryz.prog Gt 43 [.string s0] (EV a):=by
 have h:=mO s0 GX1 h0
 rw[Ib,ha]at h
 exact h
def GY0:List (BitVec 8):=[12#8,229#8,213#8,39#8,114#8,125#8,110#8,17#8,140#8,201#8,205#8,198#8,218#8,46#8,53#8,26#8,173#8,253#8,155#8,170#8,140#8,189#8,211#8,167#8,109#8,66#8,154#8,105#8,81#8,96#8,209#8,44#8,146#8,58#8,201#8,204#8,59#8,172#8,162#8,137#8,225#8,147#8,84#8,134#8,8#8,184#8,40#8,1#8]
theorem Ko:FV GY0=G2p.2.1:=by rw[FV,if_pos ⟨rfl,by decide+kernel⟩];decide+kernel
theorem KJ{a:Zp}(ha:G2p.2.1=a)(s0:ByteArray)(h0:s0.data.toList=GY0.map (fun x=>UInt8.ofBitVec x)):Pure Tryz.prog Gt 43 [.string s0] (EV a):=by
 have h:=mO s0 GY0 h0
 rw[Ko,ha]at h
 exact h
def GY1:List (BitVec 8):=[6#8,6#8,196#8,160#8,46#8,167#8,52#8,204#8,50#8,172#8,210#8,176#8,43#8,194#8,139#8,153#8,203#8,62#8,40#8,126#8,133#8,167#8,99#8,175#8,38#8,116#8,146#8,171#8,87#8,46#8,153#8,171#8,63#8,55#8,13#8,39#8,92#8,236#8,29#8,161#8,170#8,169#8,7#8,95#8,240#8,95#8,121#8,190#8]
theorem J8:FV GY1=G2p.2.2:=by rw[FV,if_pos ⟨rfl,by decide+kernel⟩];decide+kernel
theorem Kw{a:Zp}(ha:G2p.2.2=a)(s0:ByteArray)(h0:s0.data.toList=GY1.map (fun x=>UInt8.ofBitVec x)):Pure Tryz.prog Gt 43 [.string s0] (EV a):=by
 have h:=mO s0 GY1 h0
 rw[J8,ha]at h
 exact h
theorem Jf{a b c d:Zp}(ha:G2p.1.1=a)(hb:G2p.1.2=b)(hc:G2p.2.1=c)(hd:G2p.2.2=d):Pure Tryz.prog Gt 14 [] (EV6 ((a,b),(c,d),on2)):=by
 intro w hw
 refine Hf func14 rfl hw<|fun hGF=>Xp<|Al 0 hGF jE<|fun b0=>aa<|Xp<|Ca rfl (Le ha _ rfl)<|Ca rfl (JL hb _ rfl)<|bP cO rfl rfl (by simp) (by simp) rfl rfl<|Al 1 hGF zv29<|fun b1=>Sa 1 hGF rfl rfl rfl aM<|aa<|Xp<|Ca rfl (KJ hc _ rfl)<|Ca rfl (Kw hd _ rfl)<|bP cO rfl rfl (by simp) (by simp) rfl rfl<|Al 2 hGF zv29<|fun b2=>Sa 2 hGF rfl rfl rfl aM<|aa<|Xp<|La 1 rfl rfl aM<|La 2 rfl rfl aM<|Ca rfl (xH (a,b) (c,d))<|Sa 0 hGF rfl rfl rfl bt<|aa<|ap<|Rr<|?_
 exact av 0 rfl rfl rfl isAgg31 sizeOf31 (by simp) (fun w hw=>⟨rfl,ac hw⟩)
theorem jgen:Pure Tryz.prog Gt 14 [] (EV6 (G2p.1,G2p.2,on2)):=Jf rfl rfl rfl rfl
end
section
open Go.RowKit
attribute [local simp] a8 bG aE az a6 aY aQ aK a9 PLl d8 ec N1l d6 d9 dR bC bL bN bO ce
attribute [local simp] dW
theorem ent89:ah Tryz.prog 89:=fun _ _=>by kernel_rfl
def pb(bs:List (BitVec 8))(m:Nat):Bool:=decide (cZ bs m=1#8)
abbrev oB(bs:List (BitVec 8))(m:Nat):List Nat:=oL (pb bs) (8*bs.length) m
def NLs(l:List Nat):List (List Value):=l.map fun n:Nat=>[I (n:Int)]
theorem tQ(l:List Nat):(NLs l).length=l.length:=by simp[NLs]
theorem Dd(bs:List (BitVec 8))(i j:Nat)(hj:j<8):bs.getD i 0>>>(7-j) &&& 1#8=cZ bs (8*i+j):=by
 rw[cZ,show (8*i+j) / 8=i by omega,show (8*i+j) % 8=j by omega]
theorem FN{bs:List (BitVec 8)}{m:Nat}(h:cZ bs m=1#8):pb bs m=true:=decide_eq_true h
theorem K4{bs:List (BitVec 8)}{m:Nat}(h: ¬cZ bs m=1#8): ¬pb bs m=true:=fun e=>h (of_decide_eq_true e)
theorem Lg{bs:List (BitVec 8)}{m:Nat}(hm:m<8*bs.length)(h:cZ bs m=1#8):(NLs (oB bs (8*bs.length)))[(oB bs m).length]? =some [I ((8*bs.length-1-m:Nat):Int)]:=by
 rw[NLs,List.getElem?_map,KG hm (FN h)]
 rfl
theorem oB_y{bs:List (BitVec 8)}{m:Nat}(h:cZ bs m=1#8):(oB bs (m+1)).length=(oB bs m).length+1:=JG (FN h)
theorem oB_n{bs:List (BitVec 8)}{m:Nat}(h: ¬cZ bs m=1#8):(oB bs (m+1)).length=(oB bs m).length:=I6 (K4 h)
theorem KO(bs:List (BitVec 8)): ∀m,vN (pb bs) m=BTn bs m
 |0=>rfl
 |m+1=>by
  rw[vN,KO bs m,BTn]
  rcases nt bs m with ⟨h,e⟩|⟨h,e⟩
  ·rw[if_pos (FN h),e]
  ·rw[if_neg (K4 h),e]
theorem Hm(bs:List (BitVec 8)):SOg (oB bs (8*bs.length))=BN bs bs.length:=by rw[G7,KO,fS]
theorem v6{bb:Nat}{e:Option Addr}{cap:Nat}{bs:List (BitVec 8)}{w w':World}(h:RdD bb e cap bs w)(hg:Grow w w'):RdD bb e cap bs w':=⟨(hg.cell (block_lt_of_cell h.1)).trans h.1,h.2.grow hg⟩
theorem nk(sv:Value)(hs:sv.cells= #[sv])(w:World)(hw:Gt w):Calls Tryz.prog 45 [sv].toArray w (fun e w'=> ∃b1,e=.returned (.func (.func 89) #[] #[.pointer (some ⟨b1,0,none⟩)])∧Grow w w'∧w.heap.size≤b1∧OwnB w' b1 [sv] 22):=by
 refine Hf func45 rfl hw<|fun hGF=>Xp<|jH 1 hGF rfl rfl rfl<|fun b1=>Asg rfl<|aa<|Xp<|ia rfl rfl rfl rfl<|Asg rfl<|aa<|ap<|Rr<|?_
 exact aJ rfl rfl (fun w hw=>⟨b1,rfl,ac hw,(hw.own 1 b1 _ _ rfl).2.elim id False.elim,(by have:=(hw.own 1 b1 _ _ rfl).1;rw[hs]at this;exact this)⟩)
theorem rj(bb:Nat)(e:Option Addr)(cap:Nat)(bs:List (BitVec 8))(hlen:bs.length≤1000000):gI Tryz.prog Gt 89 [.pointer (some ⟨bb,0,none⟩)] (NLs (oB bs (8*bs.length))) (RdD bb e cap bs):=by
 intro l J Jx hJ hJx hRd hGx hY w hj
 have okJ: ∀k,BOk Gt (Bi w (fun Y=>J Y k)):=fun k=>⟨fun _ _ _ h=>(hRd _ _ _ h.rid).1,hJ k⟩
 have okX: ∀k,BOk Gt (Bi w (fun Y=>Jx Y k)):=fun k=>⟨fun _ _ _ h=>hGx _ _ _ h.rid,hJx k⟩
 have c1: ∀k L w',Hp (Bi w (fun Y=>J Y k)) L w'→RdD bb e cap bs w':=fun k L w' h=>(hRd _ _ _ h.rid).2
 have hby:=(hRd _ _ _ hj).2.2
 refine cr (G:=Gt) func89 rfl rfl (Hp (Bi w (fun Y=>J Y 0)) []) (cu (Bi w _) hj (hJ 0)) (ay (okJ 0))<|Xp<|bp rfl isAgg22 (fun w h=>(c1 _ _ w h).1) rfl rfl<|aZ rfl (fun _=>aC underlying22 _ _ _ _) rfl rfl<|Mv rfl<|aa<|ai<|iA (ι:={i:Nat // i≤bs.length}) (fun x=>[(0,.func (.yield l) #[] #[]),(1,.pointer (some ⟨bb,0,none⟩)),(6,.slice e bs.length cap),(7,I (bs.length:Int)),(8,I (x.1:Int))]) (fun x=>Bi w (fun Y=>J Y (oB bs (8*x.1)).length)) (fun x=>[]) (fun x=>bs.length-x.1) ⟨0,Nat.zero_le _⟩ (fun _=>okJ _) rfl ⟨rfl,rfl,rfl,rfl,rfl,trivial⟩ trivial<|?_
 rintro ⟨i,hi⟩
 dsimp only
 refine Xp<|Bnr rfl rfl (fun _=>aA _ _ _)<|aa<|ae<|?_
 refine bj rfl (fun hc=> ?_) (fun hc=> ?_)
 ·have hi2:i<bs.length:=by simp at hc;omega
  refine au<|ae<|ai<|Xp<|Mv rfl<|?_
  obtain ⟨ad,rfl,_⟩:=hby i _ (gm U8 bs 0 i (by omega))
  refine iH i rfl rfl underlying22 sizeOf5 rfl (by omega) rfl rfl<|bp rfl isAgg5 (fun w' h=>by obtain ⟨ad',e',hc'⟩:=(c1 _ _ w' h).2 i _ (gm U8 bs 0 i (by omega));cases e';exact hc') rfl rfl<|Asg rfl<|Asg rfl<|aa<|Xp<|Asg rfl<|aa<|ai<|iA (ι:={j:Nat // j≤8}) (fun x=>[(0,.func (.yield l) #[] #[]),(1,.pointer (some ⟨bb,0,none⟩)),(6,.slice (some ad) bs.length cap),(7,I (bs.length:Int)),(8,I (i:Int)),(3,I (i:Int)),(4,U8 (bs.getD i 0)),(5,I (7-(x.1:Int)))]) (fun x=>Bi w (fun Y=>J Y (oB bs (8*i+x.1)).length)) (fun x=>[]) (fun x=>8-x.1) ⟨0,Nat.zero_le _⟩ (fun _=>okJ _) rfl ⟨rfl,rfl,rfl,rfl,rfl,rfl,rfl,rfl,trivial⟩ trivial<|?_
  rintro ⟨j,hj⟩
  dsimp only
  by_cases h1:cZ bs (8*i+j)=1#8
  ·refine ae<|Xp<|Mv rfl<|Bnr (v:=.bool (decide (j<8))) rfl rfl (fun _=>(dX _ _ _).trans (by rw[show decide ((7-(j:Int))≥0)=decide (j<8)from decide_eq_decide.2 (by omega)]))<|aa<|?_
   refine bj rfl (fun hc=> ?_) (fun hc=> ?_)
   ·have hj2:j<8:=by simpa using hc
    refine au<|ae<|ai<|Xp<|Mv rfl<|Mv rfl<|Bnr (v:=U8 (bs.getD i 0>>>(7-j))) rfl rfl (fun _=>(eE _ _ _ (by omega)).trans (by rw[show (7-(j:Int)).toNat=7-j by omega]))<|Bnr (v:=U8 (cZ bs (8*i+j))) rfl rfl (fun _=>(f8 _ _ 1#8).trans (by rw[Dd bs i j hj2]))<|Bnr (v:=.bool true) rfl rfl (fun w=>(cR _ _ _).trans (congrArg (fun b=>Result.ok (Value.bool b) w) (beq_iff_eq.2 h1)))<|Mv rfl<|Mv rfl<|bp rfl isAgg22 (fun w h=>(c1 _ _ w h).1) rfl rfl<|aZ rfl (fun _=>aC underlying22 _ _ _ _) rfl rfl<|Bnr (v:=I ((bs.length:Int)-1)) rfl rfl (fun _=>aX _ _ _ (by unfold inI;omega))<|Mv rfl<|Bnr (v:=I ((bs.length-1-i:Nat):Int)) rfl rfl (fun _=>(aX _ _ _ (by unfold inI;omega)).trans (by rw[show (bs.length:Int)-1-(i:Int)=((bs.length-1-i:Nat):Int) by omega]))<|Bnr (v:=I ((8*(bs.length-1-i):Nat):Int)) rfl rfl (fun _=>(a7 _ _ _ (by unfold inI;omega)).trans (by rw[show (8:Int)*((bs.length-1-i:Nat):Int)=((8*(bs.length-1-i):Nat):Int) by omega]))<|Mv rfl<|Bnr (v:=I ((8*bs.length-1-(8*i+j):Nat):Int)) rfl rfl (fun _=>(aw _ _ _ (by unfold inI;omega)).trans (by rw[show ((8*(bs.length-1-i):Nat):Int)+(7-(j:Int))=((8*bs.length-1-(8*i+j):Nat):Int) by omega]))<|?_
    refine dM (hY.b (k:=(oB bs (8*i+j)).length) (Lg (by omega) h1) w) (okJ _) (okX _) rfl rfl rfl rfl rfl ?_ ?_
    ·refine bz rfl (fun _=>bi _) rfl rfl<|Pk rfl rfl rfl<|aa<|aL rfl<|au<|Xq<|Mv rfl<|Bnr (v:=I (7-((j+1:Nat):Int))) rfl rfl (fun _=>(aX _ _ _ (by unfold inI;omega)).trans (by rw[show 7-(j:Int)-1=7-((j+1:Nat):Int) by omega]))<|Asg rfl<|aa<|?_
     repeat (refine aR ?_)
     refine aG ?_
     rw[←oB_y h1]
     exact ⟨rfl,⟨j+1,by omega⟩,_,by show 8-(j+1)<8-j;omega,rfl,⟨rfl,rfl,rfl,rfl,rfl,rfl,rfl,rfl,trivial⟩,trivial⟩
    ·refine bz rfl (fun _=>bi _) rfl rfl<|Pk rfl rfl rfl<|aa<|ba rfl<|ap<|Rr<|?_
     repeat (first|refine ew ?_|refine dH ?_|refine eT rfl ?_|refine ck ?_|refine cn ?_)
     exact eQ rfl (fun w hw=>⟨⟨_,rfl⟩,.inr ⟨_,bQ (hJx _) hw.rid⟩⟩)
   ·obtain rfl:j=8:=by simp at hc;omega
    refine aT<|Xq<|Bnr rfl rfl (fun _=>aw _ _ _ (by unfold inI;omega))<|Mv rfl<|aa<|?_
    repeat (refine aR ?_)
    exact aG<|⟨rfl,⟨i+1,by omega⟩,_,by show bs.length-(i+1)<bs.length-i;omega,rfl,⟨rfl,rfl,rfl,rfl,rfl,trivial⟩,trivial⟩
  ·refine ae<|ak (E:=EE [3000000])<|Mv rfl<|Bnr (v:=.bool (decide (j<8))) rfl rfl (fun _=>(dX _ _ _).trans (by rw[show decide ((7-(j:Int))≥0)=decide (j<8)from decide_eq_decide.2 (by omega)]))<|aa<|?_
   refine bj rfl (fun hc=> ?_) (fun hc=> ?_)
   ·have hj2:j<8:=by simpa using hc
    refine au<|ae<|ai<|ak (E:=EE [3000000])<|Mv rfl<|Mv rfl<|Bnr (v:=U8 (bs.getD i 0>>>(7-j))) rfl rfl (fun _=>(eE _ _ _ (by omega)).trans (by rw[show (7-(j:Int)).toNat=7-j by omega]))<|Bnr (v:=U8 (cZ bs (8*i+j))) rfl rfl (fun _=>(f8 _ _ 1#8).trans (by rw[Dd bs i j hj2]))<|Bnr (v:=.bool false) rfl rfl (fun w=>(cR _ _ _).trans (congrArg (fun b=>Result.ok (Value.bool b) w) (beq_eq_false_iff_ne.2 h1)))<|Mv rfl<|Sk<|Sk<|Sk<|Sk<|Sk<|Sk<|Sk<|Sk<|Sk<|Sk<|Sk<|Pk rfl rfl rfl<|aa<|aL rfl<|au<|cM (E:=EE [3000000])<|Mv rfl<|Bnr (v:=I (7-((j+1:Nat):Int))) rfl rfl (fun _=>(aX _ _ _ (by unfold inI;omega)).trans (by rw[show 7-(j:Int)-1=7-((j+1:Nat):Int) by omega]))<|Asg rfl<|aa<|?_
    repeat (refine aR ?_)
    refine aG ?_
    rw[←oB_n h1]
    exact ⟨rfl,⟨j+1,by omega⟩,_,by show 8-(j+1)<8-j;omega,rfl,⟨rfl,rfl,rfl,rfl,rfl,rfl,rfl,rfl,trivial⟩,trivial⟩
   ·obtain rfl:j=8:=by simp at hc;omega
    refine aT<|cM (E:=EE [3000000])<|Bnr rfl rfl (fun _=>aw _ _ _ (by unfold inI;omega))<|Mv rfl<|aa<|?_
    repeat (refine aR ?_)
    exact aG<|⟨rfl,⟨i+1,by omega⟩,_,by show bs.length-(i+1)<bs.length-i;omega,rfl,⟨rfl,rfl,rfl,rfl,rfl,trivial⟩,trivial⟩
 ·obtain rfl:i=bs.length:=by simp at hc;omega
  refine aT ?_
  repeat (first|refine ew ?_|refine dH ?_|refine eT rfl ?_|refine ck ?_|refine cn ?_)
  refine cv rfl (fun w hw=>⟨⟨_,rfl⟩,.inl ?_⟩)
  have:=bQ (hJ _) hw.rid
  rw[tQ]
  exact this
theorem pG(x:W6)(n:Int)(hn:n≤1000000000):Pure Tryz.prog Gt 88 [EV6 x,I n] (EV6 (E2w.dbN x n.toNat)):=by
 intro w hw
 refine Hf func88 rfl hw<|fun hGF=>Xp<|Bx 2 hGF rfl<|fun b2=>Al 4 hGF jE<|fun b4=>aa<|ae<|Xp<|Mv rfl<|Mv rfl<|aa<|ai<|bB (ι:={i:Nat // i≤n.toNat}) (fun y=>[(2,.pointer (some ⟨b2,0,none⟩)),(4,.pointer (some ⟨b4,0,none⟩)),(5,I n),(6,I (y.1:Int))]) (fun y=>[(2,b2,((fe ((E2w.dbN x y.1).1).1++fe ((E2w.dbN x y.1).1).2)++((fe ((E2w.dbN x y.1).2.1).1++fe ((E2w.dbN x y.1).2.1).2)++(fe ((E2w.dbN x y.1).2.2).1++fe ((E2w.dbN x y.1).2.2).2))).map U64,31),(4,b4,((fe 0++fe 0)++((fe 0++fe 0)++(fe 0++fe 0))).map U64,31)]) (fun y=>n.toNat-y.1) ⟨0,Nat.zero_le _⟩ hGF ⟨rfl,rfl,rfl,rfl,trivial⟩ ⟨rfl,rfl,trivial⟩<|?_
 rintro ⟨i,hi⟩
 dsimp only
 refine Xp<|Bnr (v:=.bool (decide ((i:Int)<n))) rfl rfl (fun _=>aA _ _ _)<|aa<|ae<|?_
 refine bj rfl (fun hc=> ?_) (fun hc=> ?_)
 ·have hi2:i<n.toNat:=by simp at hc;omega
  refine au<|ae<|ai<|Xq<|La 2 rfl rfl bt<|Ca rfl (JT (E2w.dbN x i))<|Sa 2 hGF rfl rfl rfl bt<|aa<|Xq<|Bnr rfl rfl (fun _=>aw _ _ _ (by unfold inI;omega))<|Mv rfl<|aa<|?_
  repeat (refine aR ?_)
  exact aG<|⟨rfl,⟨i+1,by omega⟩,_,by show n.toNat-(i+1)<n.toNat-i;omega,rfl,⟨rfl,rfl,rfl,rfl,trivial⟩,⟨rfl,rfl,trivial⟩⟩
 ·obtain rfl:i=n.toNat:=by simp at hc;omega
  refine aT<|Xp<|La 2 rfl rfl bt<|Sa 4 hGF rfl rfl rfl bt<|aa<|ap<|Rr<|?_
  exact av 4 rfl rfl rfl isAgg31 sizeOf31 (by simp) (fun w hw=>⟨rfl,ac hw⟩)
theorem jdbN(x:W6)(a:Nat)(ha:a<100000000):Pure Tryz.prog Gt 88 [EV6 x,I (a:Int)] (EV6 (E2w.dbN x a)):=by
 have h:=pG x (a:Int) (by omega)
 rw[Int.toNat_natCast]at h
 exact h
theorem jdbS(x:W6)(a b:Nat)(ha:a<100000000):Pure Tryz.prog Gt 88 [EV6 x,I ((a:Int)-(b:Int))] (EV6 (E2w.dbN x (a-b))):=by
 have h:=pG x ((a:Int)-(b:Int)) (by omega)
 rw[Int.toNat_sub]at h
 exact h
theorem CC{L:List Nat}{k:Nat}{v:List Value}(h:(NLs L)[k]? =some v): ∃n:Nat,L[k]? =some n∧[I (n:Int)]=v:=by
 rw[NLs,List.getElem?_map]at h
 cases e:L[k]? with
 |none=>rw[e]at h;cases h
 |some y=>rw[e]at h;exact ⟨y,rfl,Option.some.inj h⟩
theorem nW(x:W6)(gf:Nat)(caps:List Value)(L:List Nat)(Rd:Cls)(he:ah Tryz.prog gf)(hseq:gI Tryz.prog Gt gf caps (NLs L) Rd)(hL: ∀b∈L,b<100000000)(w:World)(hw:Gt w)(hRs: ∀w',Grow w w'→Rd w'):
 Calls Tryz.prog 44 [EV6 x,.func (.func gf) #[] caps.toArray].toArray w (fun r w'=>r=.returned (EV6 (E2w.tmF x L))∧Grow w w'):=by
 have hGF:BOk Gt (pl w):=gt_low.plain hw
 refine dq (G:=Gt) func44 rfl rfl (Hp (pl w) []) (cu (pl w) trivial ao) (ay hGF)<|Xp<|Bx 2 hGF rfl<|fun b2=>Al 4 hGF jE<|fun b4=>aa<|Xp<|Al 5 hGF jE<|fun b5=>aa<|Xp<|iS 6 hGF zeroValue3 rfl rfl<|fun b6=>fT 6 hGF rfl rfl rfl sizeOf3 rfl (by first|decide|simp) rfl<|aa<|ae<|Xp<|Mv rfl<|aa<|ai<|?_
 refine h7 (fun _=>pl w) (fun _ _=>pl w) (fun _=>hGF) (fun _ _=>hGF) (fun _=>rfl) (fun _ _=>rfl) rfl rfl he hseq (fun x hx=>by obtain ⟨k,hk,rfl⟩:=List.mem_map.1 hx;rfl) rfl (fun k=>[(2,b2,((fe ((x).1).1++fe ((x).1).2)++((fe ((x).2.1).1++fe ((x).2.1).2)++(fe ((x).2.2).1++fe ((x).2.2).2))).map U64,31),(4,b4,((fe 0++fe 0)++((fe 0++fe 0)++(fe 0++fe 0))).map U64,31),(5,b5,((fe (((E2w.stK x L k).1).1).1++fe (((E2w.stK x L k).1).1).2)++((fe (((E2w.stK x L k).1).2.1).1++fe (((E2w.stK x L k).1).2.1).2)++(fe (((E2w.stK x L k).1).2.2).1++fe (((E2w.stK x L k).1).2.2).2))).map U64,31),(6,b6,[I ((E2w.stK x L k).2:Int)],3)]) (fun _ _ _=>False) ⟨rfl,rfl,rfl,rfl,trivial⟩ (fun k _ w' h=>hRs w' (h.below (fun _ h=>h))) ?_ ?_ (fun _ _ _ _ _ h=>h.elim)
 ·intro k v hx R hR
  obtain ⟨n,hn,rfl⟩:=CC hx
  have hk:k<L.length:=(List.getElem?_eq_some_iff.1 hn).1
  have hb:=E2w.stK_lt x (by omega) hL k (Nat.le_of_lt hk)
  have hn2:=hL n (List.mem_of_getElem? hn)
  refine Xq<|Asg rfl<|aa<|?_
  refine ⟨rfl,_,rfl, ?_⟩
  refine ai<|Xd []<|La 5 rfl rfl bt<|gF 6 rfl rfl rfl isAgg3 rfl rfl<|Mv rfl<|Bnr (v:=I (((E2w.stK x L k).2:Int)-(n:Int))) rfl rfl (fun _=>aX _ _ _ (by unfold inI;omega))<|Ca rfl (jdbS (E2w.stK x L k).1 (E2w.stK x L k).2 n hb)<|La 2 rfl rfl bt<|Ca rfl (Gc _ _)<|aH 5 (hR (pl w) rfl hGF).2.1 rfl rfl rfl sizeOf31 (by simp) (by simp) (bg _) rfl<|aa<|Xq<|Mv rfl<|fT 6 (hR (pl w) rfl hGF).2.1 rfl rfl rfl sizeOf3 rfl (by first|decide|simp) rfl<|aa<|?_
  repeat (refine aR ?_)
  exact ⟨_,rfl,⟨rfl,rfl,by rw[E2w.stK_1 x hn];rfl,by rw[E2w.stK_2 x hn];rfl,trivial⟩⟩
 ·intro D hD
  have hb:=E2w.stK_lt x (by omega) hL L.length (Nat.le_refl _)
  rw[tQ]
  refine Xp<|La 5 rfl rfl bt<|gF 6 rfl rfl rfl isAgg3 rfl rfl<|Ca rfl (jdbN (E2w.stK x L L.length).1 (E2w.stK x L L.length).2 hb)<|Sa 4 hD rfl rfl rfl bt<|aa<|ap<|Rr<|?_
  exact ib (.inl rfl) ao (av 4 rfl rfl rfl isAgg31 sizeOf31 (by simp) (fun w hw=>⟨rfl,ac hw⟩))
def mlB(x:W6)(bs:List (BitVec 8)):W6:=E2w.tmF x (oB bs (8*bs.length))
theorem zV{x:W6}{P:Pt W2}(hP:E2w.onP P)(hx:E2w.jr x P){bs:List (BitVec 8)}{m:Nat}(hm:BN bs bs.length=m):E2w.jr (mlB x bs) (E2w.times P m):=by
 subst hm
 rw[←Hm];exact E2w.tmF_jr hP hx (zR _ _ _ (Nat.le_refl _))
theorem lJ(x:W6)(e:Option Addr)(cap:Nat)(bs:List (BitVec 8))(hlen:bs.length≤1000000)(w:World)(hw:Gt w)(hby:BytesAt w e bs):
 Calls Tryz.prog 15 [EV6 x,.slice e bs.length cap].toArray w (fun r w'=>r=.returned (EV6 (mlB x bs))∧Grow w w'):=by
 refine Hf func15 rfl hw<|fun hGF=>ak (E:=EE [45,2000045])<|Bx 2 hGF rfl<|fun b2=>Al 4 hGF jE<|fun b4=>aa<|Xd [45,2000045]<|La 2 rfl rfl bt<|Mv rfl<|?_
 refine bq rfl rfl ent45 rfl rfl (fun w' hw'=>(nk _ rfl w' (hGF.g _ _ _ hw')).mono fun e' w'' h=> ?_)
 obtain ⟨c1,rfl,hg,h1,ho⟩:=h
 refine ⟨_,_,rfl,ay hGF,hw'.news ao hg [(33,c1,[.slice e bs.length cap],22)] ?_ bJ,bx ao rfl, ?_⟩
 ·intro n' b' c' t' hl
  rcases aF hl with ⟨_,e⟩|⟨_,hl⟩
  ·cases e;exact ⟨h1,ho⟩
  ·cases hl
 clear hw' hg h1 ho
 refine Cc rfl ent44 (fun w' hC hG=>nW x 89 [.pointer (some ⟨c1,0,none⟩)] (oB bs (8*bs.length)) (RdD c1 e cap bs) ent89 (rj c1 e cap bs (by omega)) (fun b hb=>by have:=Lo hb (Nat.le_refl _);omega) w' hG (fun w'' hg=>v6 ⟨cm (n:=33) rfl rfl w' hC,hby.grow (hC.below (fun _ h=>h))⟩ hg))<|Sa 4 hGF rfl rfl rfl bt<|aa<|ap<|Rr<|?_
 exact av 4 rfl rfl rfl isAgg31 sizeOf31 (by simp) (fun w hw=>⟨rfl,ac hw⟩)
def TBX:List (BitVec 8):=[26#8,1#8,17#8,234#8,57#8,127#8,230#8,153#8,236#8,2#8,64#8,134#8,99#8,212#8,222#8,133#8,170#8,13#8,133#8,125#8,137#8,117#8,154#8,212#8,137#8,125#8,41#8,101#8,15#8,184#8,95#8,155#8,64#8,148#8,39#8,235#8,79#8,73#8,255#8,253#8,139#8,253#8,0#8,0#8,0#8,0#8,170#8,173#8]
theorem KV:FV TBX=TX2.2:=by rw[FV,if_pos ⟨rfl,by decide+kernel⟩];decide+kernel
theorem IT{a:Zp}(ha:TX2.2=a)(s0:ByteArray)(h0:s0.data.toList=TBX.map (fun x=>UInt8.ofBitVec x)):Pure Tryz.prog Gt 43 [.string s0] (EV a):=by
 have h:=mO s0 TBX h0
 rw[KV,ha]at h
 exact h
def TBY:List (BitVec 8):=[19#8,82#8,3#8,230#8,1#8,128#8,166#8,142#8,226#8,233#8,196#8,72#8,215#8,122#8,44#8,217#8,28#8,61#8,237#8,217#8,48#8,177#8,207#8,96#8,239#8,57#8,100#8,137#8,246#8,30#8,180#8,94#8,48#8,68#8,102#8,207#8,62#8,103#8,250#8,10#8,241#8,238#8,123#8,4#8,18#8,27#8,222#8,162#8]
theorem LL:FV TBY=TY2.1:=by rw[FV,if_pos ⟨rfl,by decide+kernel⟩];decide+kernel
theorem Jd{a:Zp}(ha:TY2.1=a)(s0:ByteArray)(h0:s0.data.toList=TBY.map (fun x=>UInt8.ofBitVec x)):Pure Tryz.prog Gt 43 [.string s0] (EV a):=by
 have h:=mO s0 TBY h0
 rw[LL,ha]at h
 exact h
def UB8:List (BitVec 8):=[210#8,1#8,0#8,0#8,0#8,1#8,0#8,0#8]
theorem Kz:BN UB8 UB8.length=UG:=by decide+kernel
theorem Il{f:W6→W6}(hf: ∀x,mlB x UB8=f x)(x:W6)(b c:Nat)(w:World)(hw:Gt w)(h:w.rangeAt b 0 (UB8.map U8)):Calls Tryz.prog 15 [EV6 x,.slice (some ⟨b,0,none⟩) UB8.length c].toArray w (fun r w'=>r=.returned (EV6 (f x))∧Grow w w'):=by
 have k:=lJ x (some ⟨b,0,none⟩) c UB8 (by decide) w hw (BytesAt.range h)
 rw[hf]at k
 exact k
def tuJ(c d:W2)(x:W6):W6:=(ml2 (cj2 x.1) c,ml2 (cj2 x.2.1) d,cj2 x.2.2)
theorem KB{c d:W2}{x:W6}{p:W2×W2}(hx:E2w.jr x (some p)):E2w.jr (tuJ c d x) (some (ml2 c (cj2 p.1),ml2 d (cj2 p.2))):=by
 have h1:x.1=ml2 p.1 (ml2 x.2.2 x.2.2):=hx.2.1
 have h2:x.2.1=ml2 p.2 (ml2 (ml2 x.2.2 x.2.2) x.2.2):=hx.2.2
 refine ⟨fun e=>hx.1 (qw e), ?_, ?_⟩
 ·show ml2 (cj2 x.1) c=ml2 (ml2 c (cj2 p.1)) (ml2 (cj2 x.2.2) (cj2 x.2.2))
  rw[h1,eK,eK]
  generalize cj2 p.1=a
  generalize cj2 x.2.2=z
  exact zq R2 [a,z,c] (tm (tm j0 (tm j1 j1)) j2) (tm (tm j2 j0) (tm j1 j1))
 ·show ml2 (cj2 x.2.1) d=ml2 (ml2 d (cj2 p.2)) (ml2 (ml2 (cj2 x.2.2) (cj2 x.2.2)) (cj2 x.2.2))
  rw[h2,eK,eK,eK]
  generalize cj2 p.2=a
  generalize cj2 x.2.2=z
  exact zq R2 [a,z,d] (tm (tm j0 (tm (tm j1 j1) j1)) j2) (tm (tm j2 j0) (tm (tm j1 j1) j1))
theorem B5{c d:W2}{x:W6}(hx:E2w.jr x none):E2w.jr (tuJ c d x) none:=by
 have h:x.2.2=ze2:=hx
 show cj2 x.2.2=ze2
 rw[h];exact TW2.f0
theorem zj(p:W2×W2):TW2.p (some p)=some (ml2 TX2 (cj2 p.1),ml2 TY2 (cj2 p.2)):=congrArg some (sG p)
theorem Gh{x:W6}{P:Pt W2}(hx:E2w.jr x P):E2w.jr (tuJ TX2 TY2 x) (TW2.p P):=by
 cases P with
 |none=>exact B5 hx
 |some p=>rw[zj];exact KB hx
abbrev ngJ(x:W6):W6:=(x.1,ng2 x.2.1,x.2.2)
theorem Jg{bs:List (BitVec 8)}{m:Nat}(hm:BN bs bs.length=m){x:W6}{P:Pt W2}(hP:E2w.onP P)(hx:E2w.jr x P):E2w.eqJ (ngJ (mlB x bs)) (tuJ TX2 TY2 x)↔E2w.ne (E2w.times P m)=TW2.p P:=E2w.eqJ_iff (E2w.jr_n (zV hP hx hm)) (Gh hx)
theorem sP{x:W6}{P:Pt W2}(hP:E2w.onP P)(hx:E2w.jr x P):E2w.eqJ (ngJ (mlB x UB8)) (tuJ TX2 TY2 x)↔E2w.times P ORD=none:=(Jg Kz hP hx).trans (Ky hP)
theorem BX{c d:Zp}(hc:TX2.2=c)(hd:TY2.1=d)(x:W6):Pure Tryz.prog Gt 34 [EV6 x] (EV6 (tuJ (0,c) (d,-d) x)):=by
 intro w hw
 refine Hf func34 rfl hw<|fun hGF=>Xp<|Bx 1 hGF rfl<|fun b1=>Al 2 hGF jE<|fun b2=>aa<|Xp<|Ca rfl (IT hc _ rfl)<|Ca rfl (Jd hd _ rfl)<|Al 3 hGF zv27<|fun b3=>Al 4 hGF zv27<|fun b4=>Sa 3 hGF rfl rfl rfl bK<|Sa 4 hGF rfl rfl rfl bK<|aa<|Xd []<|Fa 0 rfl underlying31 rfl sizeOf29<|cG 1 _ rfl rfl isAgg29 sizeOf29 (by simp) yy rfl rfl<|Ca rfl (nA _)<|La 3 rfl rfl bK<|i2 cO rfl (by simp) rfl rfl<|Ca rfl (fL _ (0,c))<|Fa 12 rfl underlying31 rfl sizeOf29<|cG 1 _ rfl rfl isAgg29 sizeOf29 (by simp) (ld_m (by simp)) rfl rfl<|Ca rfl (nA _)<|La 4 rfl rfl bK<|La 4 rfl rfl bK<|Ca rfl (c8 _)<|bP cO rfl rfl (by simp) (by simp) rfl rfl<|Ca rfl (fL _ (d,-d))<|Fa 24 rfl underlying31 rfl sizeOf29<|cG 1 _ rfl rfl isAgg29 sizeOf29 (by simp) (I7 (m:=12) (n:=12) (by simp) (by simp) rfl) rfl rfl<|Ca rfl (nA _)<|po kN rfl rfl rfl (by simp) (by simp) (by simp) rfl rfl<|Sa 2 hGF rfl rfl rfl bt<|aa<|ap<|Rr<|?_
 exact av 2 rfl rfl rfl isAgg31 sizeOf31 (by simp) (fun w hw=>⟨rfl,ac hw⟩)
theorem Ha:((0:Zp),TX2.2)=TX2:=rfl
theorem Ho:(TY2.1,-TY2.1)=TY2:=by decide+kernel
theorem Gr{t:W6→W6}(ht: ∀x,tuJ TX2 TY2 x=t x)(x:W6):Pure Tryz.prog Gt 34 [EV6 x] (EV6 (t x)):=by
 have h:=BX rfl rfl x
 rw[Ha,Ho,ht]at h
 exact h
theorem jing{f:W6→W6}(hf: ∀x,mlB x UB8=f x){t:W6→W6}(ht: ∀x,tuJ TX2 TY2 x=t x)(x:W6)(hd:Decidable (E2w.eqJ (ngJ (f x)) (t x)))(b:Bool)(hb:b=decide (E2w.eqJ (ngJ (f x)) (t x))):Pure Tryz.prog Gt 11 [EV6 x] (.bool b):=by
 intro w hw
 refine Hf func11 rfl hw<|fun hGF=>ak (E:=EE [1000022])<|Bx 1 hGF rfl<|fun b1=>Asg rfl<|aa<|nC (EE [2999998,2999996,1000022]) iq (by kernel_rfl) (by kernel_rfl)<|aO (m:=7) [0,5] (by kernel_rfl)<|La 1 rfl rfl bt<|La 1 rfl rfl bt<|aa<|aO (m:=6) [1] (by kernel_rfl)<|BP 4 UB8 hGF rfl rfl rfl rfl (by decide) (by decide) underlying22 sizeOf5 zeroValue5 rfl rfl<|fun b4=>aa<|aO (m:=5) [2] (by kernel_rfl)<|BW 4 rfl hGF rfl rfl underlying22 underlying5 rfl rfl<|aa<|aO (m:=0) [3,4,6,7,8] (by kernel_rfl)<|Cc rfl ent15 (fun w' hC hG=>Il hf _ _ _ w' hG (bv (n:=4) rfl w' hC))<|Ca rfl (E5 _)<|Ca rfl (Gr ht x)<|Ca rfl (yP _ _ hd b hb)<|Asg rfl<|aa<|da (by kernel_rfl)<|aG<|ap<|Rr<|?_
 exact aJ rfl rfl (fun w hw=>⟨rfl,ac hw⟩)
def jJ:GP:=⟨(ze2,ze2,ze2),none,True.intro,rfl⟩
def BQ:GP:=⟨(G2p.1,G2p.2,on2),some G2p,iQ tI,yF⟩
def Lj(p q:GP):GP:=⟨E2w.adA p.J q.J,E2w.ad p.P q.P,E2w.ad_on p.on q.on,E2w.adA_jr p.on q.on p.jr q.jr⟩
def qO(p:GP):GP:=⟨(p.J.1,ng2 p.J.2.1,p.J.2.2),E2w.ne p.P,E2w.ne_on p.on,E2w.jr_n p.jr⟩
def Bu(p:GP)(bs:List (BitVec 8)):GP:=⟨mlB p.J bs,E2w.times p.P (BN bs bs.length),E2w.times_on p.on _,zV p.on p.jr rfl⟩
def FF(x y:W2)(h:ml2 y y=RS4 x):GP:=⟨(x,y,on2),some (x,y),iQ (wK.2 h),nH (x,y)⟩
def gRt(x r:W2)(hr:ml2 r r=RS4 x)(l:Bool):GP:=FF x (sgY r l) (Ga hr l)
theorem zv31(w:World):(zeroValue 31).run Tryz.prog w=.ok (PtV jJ) w:=jE w
theorem KH{J:W6}{P:Pt W2}(h:E2w.jr J P)(hn: ¬P=none):ml2 J.1 (ml2 (iv2 J.2.2) (iv2 J.2.2))=PX P∧ml2 J.2.1 (ml2 (ml2 (iv2 J.2.2) (iv2 J.2.2)) (iv2 J.2.2))=PY P:=by
 cases P with
 |none=>exact absurd rfl hn
 |some p=>exact E2w.xy_w h (E2w.hi _ h.1)
theorem y4  :Pure Tryz.prog Gt 14 [] (PtV BQ):=jgen
theorem kP(p q:GP):Pure Tryz.prog Gt 19 [PtV p,PtV q] (.bool (decide (p.P=q.P))):= 
 have hd:Decidable (E2w.eqJ p.J q.J):=decidable_of_iff _ (E2w.eqJ_iff p.jr q.jr).symm
 yP p.J q.J hd _ (decide_eq_decide.2 (E2w.eqJ_iff p.jr q.jr).symm)
theorem JZ(p q:GP):Pure Tryz.prog Gt 58 [PtV p,PtV q] (PtV (Lj p q)):=Gc p.J q.J
theorem km(p:GP):Pure Tryz.prog Gt 18 [PtV p] (PtV (qO p)):=E5 p.J
theorem xy_n(p:GP)(h:p.P=none):Pure Tryz.prog Gt 20 [PtV p] (.tuple #[EV2 ze2,EV2 ze2,.bool false]):=Kd p.J ((E2w.jr_zI p.jr).2 h)
theorem I8(p:GP)(h: ¬p.P=none):Pure Tryz.prog Gt 20 [PtV p] (.tuple #[EV2 (PX p.P),EV2 (PY p.P),.bool true]):=by
 have k:=IJ p.J (fun e=>h ((E2w.jr_zI p.jr).1 e))
 have e:=KH p.jr h
 rw[e.1,e.2]at k
 exact k
theorem J1(x y:W2)(h:ml2 y y=RS4 x):Pure Tryz.prog Gt 141 [EV2 x,EV2 y] (.tuple #[PtV (FF x y h),.bool true]):=Fk x y h
theorem wB(x r:W2)(hr:ml2 r r=RS4 x)(hl:LG2 r=false)(l:Bool):Pure Tryz.prog Gt 12 [EV2 x,.bool l] (.tuple #[PtV (gRt x r hr l),.bool true]):=by
 cases l with
 |true=>exact yc x r (kG _ r hr hl)
 |false=>exact w8 x r (kG _ r hr hl)
theorem wt(x:W2)(l:Bool)(h: ¬LQ x):Pure Tryz.prog Gt 12 [EV2 x,.bool l] (.tuple #[PtV jJ,.bool false]):=by
 cases l with
 |true=>exact xe x _ (nd _ h)
 |false=>exact yz x _ (nd _ h)
theorem fQ(p:GP):Pure Tryz.prog Gt 11 [PtV p] (.bool (decide (E2w.times p.P ORD=none))):= 
 have hd:Decidable (E2w.eqJ (ngJ (mlB p.J UB8)) (tuJ TX2 TY2 p.J)):=decidable_of_iff _ (sP p.on p.jr).symm
 jing (fun _=>rfl) (fun _=>rfl) p.J hd _ (decide_eq_decide.2 (sP p.on p.jr).symm)
theorem ui(p:GP)(e:Option Addr)(cap:Nat)(bs:List (BitVec 8))(hlen:bs.length≤1000)(w:World)(hw:Gt w)(hby:BytesAt w e bs):Calls Tryz.prog 15 [PtV p,.slice e bs.length cap].toArray w (fun r w'=>r=.returned (PtV (Bu p bs))∧Grow w w'):=lJ p.J e cap bs (by omega) w hw hby
end
end Go.Proofs.YtodgbdcjjhmnkaaGreatDoor
