/-
 The reference's points: sums, doubles, opposites.
 The reference's points: the generator, which numbers are points, times, the order.
-/
import Derived.Test.YtodgbdcjjhmnkaaGreatDoorQ2
import Derived.Test.YtodgbdcjjhmnkaaGreatDoorX5
import Derived.Test.YtodgbdcjjhmnkaaGreatDoorX3
import Derived.Test.YtodgbdcjjhmnkaaGreatDoorXW
set_option maxRecDepth 100000
set_option maxHeartbeats 1000000
namespace Go.Proofs.YtodgbdcjjhmnkaaGreatDoor
open Go.Proofs.Tryz
section
open Go.RowKit
attribute [local simp] bp bQ aI aB bj bc aX aW bv PLl eK eI N1l eP eU eW bJ bV bY bX cH
theorem ent33:am Tryz.prog 33:=fun _ _=>by kernel_rfl
theorem ent30:am Tryz.prog 30:=fun _ _=>by kernel_rfl
theorem ent69:am Tryz.prog 69:=fun _ _=>by kernel_rfl
theorem ent28:am Tryz.prog 28:=fun _ _=>by kernel_rfl
theorem ent32:am Tryz.prog 32:=fun _ _=>by kernel_rfl
theorem ent10:am Tryz.prog 10:=fun _ _=>by kernel_rfl
theorem ent46:am Tryz.prog 46:=fun _ _=>by kernel_rfl
theorem ent153:am Tryz.prog 153:=fun _ _=>by kernel_rfl
abbrev EV6(x:W6):Value:=.agg (((fe (x.1).1++fe (x.1).2)++((fe (x.2.1).1++fe (x.2.1).2)++(fe (x.2.2).1++fe (x.2.2).2))).map U64).toArray
theorem zv41(w:World):(zeroValue 41).run Tryz.prog w=.ok (.agg (((fe 0++fe 0)++((fe 0++fe 0)++(fe 0++fe 0))).map U64).toArray) w:=by rw[ij];exact (zeroValue41 w).trans (by rfl)
theorem wd:Three Tryz.prog 41 ⟨ "X",39,0,false, "", "",0⟩ ⟨ "Y",39,12,false, "", "",96⟩ ⟨ "Z",39,24,false, "", "",192⟩ 12 (fe 0++fe 0) (fe 0++fe 0) (fe 0++fe 0):=⟨underlying41,rfl,rfl,rfl,sizeOf39,sizeOf39,sizeOf39,zv41,by simp,by simp,by simp⟩
theorem e6{a b c a' b' c':W2}(h1:a=a')(h2:b=b')(h3:c=c'):Ending.returned (.agg (((fe (a).1++fe (a).2)++((fe (b).1++fe (b).2)++(fe (c).1++fe (c).2))).map U64).toArray)=.returned (.agg (((fe (a').1++fe (a').2)++((fe (b').1++fe (b').2)++(fe (c').1++fe (c').2))).map U64).toArray):=by rw[h1,h2,h3]
def q6:Sh W6:=q2.two (q2.two q2 2) 2
theorem V6(x:W6):EV6 x=dn rid (.inl [x.1.1,x.1.2,x.2.1.1,x.2.1.2,x.2.2.1,x.2.2.2]):=by
 show Value.agg _=Value.agg _
 rw[clv,show cel [x.1.1,x.1.2,x.2.1.1,x.2.1.2,x.2.2.1,x.2.2.2]=fe x.1.1++(fe x.1.2++(fe x.2.1.1++(fe x.2.1.2++(fe x.2.2.1++fe x.2.2.2))))from rfl]
 rw[List.append_assoc,List.append_assoc]
theorem bW{f:Nat}{a a':List Value}{v v':Value}(ha:a=a')(hv:v=v')(h:Pure Tryz.prog Gt f a' v'):Pure Tryz.prog Gt f a v:=by rw[ha,hv];exact h
theorem l1{a b:Value}(h:a=b):[a]=[b]:=by rw[h]
theorem l2{a b c d:Value}(h:a=b)(k:c=d):[a,c]=[b,d]:=by rw[h,k]
theorem l3{a b c d e f:Value}(h:a=b)(k:c=d)(l:e=f):[a,c,e]=[b,d,f]:=by rw[h,k,l]
theorem t2{a b c:Value}(h:a=b):Value.tuple #[a,c]=.tuple #[b,c]:=by rw[h]
theorem Kg(x y:W2):Pure Tryz.prog Gt 67 [EV2 x,EV2 y] (EV2 (E2w.sub x y)):=by
 have h:=Fk x y
 rw[sW]at h
 exact h
def sm2(a b:BitVec 64):W2:=(zp a.toNat,zp b.toNat)
def TO52:Tb Tryz.prog Gt:=TO51.add (bS (g:=E2w.sub) ent67 Kg)
theorem vr(a b:BitVec 64):Pure Tryz.prog Gt 153 [U64 a,U64 b] (EV2 (sm2 a b)):=by
 intro w hw
 refine Hf func153 rfl hw<|fun hGF=>Xp<|Al 4 hGF zv39<|fun b4=>aa<|Xp<|Mv rfl<|Ca rfl (fE _)<|Mv rfl<|Ca rfl (fE _)<|cq n8 rfl rfl (by simp) (by simp) rfl rfl<|Sa 4 hGF rfl rfl rfl bw<|aa<|aq<|Rr<|?_
 exact aw 4 rfl rfl rfl isAgg39 sizeOf39 (by simp) (fun w hw=>⟨rfl,ac hw⟩)
theorem nC{f:Nat}{g:BitVec 64→BitVec 64→W2}(en:am Tryz.prog f)(h: ∀a b,Pure Tryz.prog Gt f [U64 a,U64 b] (EV2 (g a b))):Snd Tryz.prog Gt f (c2 agU agU q2.rd g):=kq agU agU q2.rd en h
def TO53:Tb Tryz.prog Gt:=TO52.add (nC (g:=sm2) ent153 vr)
theorem GQ(x:W6):Pure Tryz.prog Gt 33 [EV6 x] (.bool (decide (x.2.2=ze2))):=(bW (l1 (V6 _)) rfl (pE TO53 func33 [.inl [x.1.1,x.1.2,x.2.1.1,x.2.1.2,x.2.2.1,x.2.2.2]] (.inl (.inr (.inl (decide (x.2.2=ze2))))) (.inl (.inr (.inl (decide ((x.2.2.1,x.2.2.2)=ze2)))),[]) [] (by kernel_rfl) aD rfl))
theorem nP{f:Nat}{g:W6→Bool}(en:am Tryz.prog f)(h: ∀a,Pure Tryz.prog Gt f [EV6 a] (.bool (g a))):Snd Tryz.prog Gt f (c1 q6.ag rdB g):=gy q6.ag rdB en (fun a=>bW (l1 (V6 _).symm) rfl (h a))
def TO54:Tb Tryz.prog Gt:=TO53.add (nP (g:=fun x=>decide (x.2.2=ze2)) ent33 GQ)
theorem Id(a b:W2):Pure Tryz.prog Gt 30 [EV2 a,EV2 b] (EV6 (a,b,on2)):=(bW rfl (V6 _) (pE TO54 func30 [.inl [a.1,a.2],.inl [b.1,b.2]] (.inl (.inl [(a,b,on2).1.1,(a,b,on2).1.2,(a,b,on2).2.1.1,(a,b,on2).2.1.2,(a,b,on2).2.2.1,(a,b,on2).2.2.2])) (let t0:=on2;(.inl (.inl [a.1,a.2,b.1,b.2,t0.1,t0.2]),[])) [] (by kernel_rfl) aD rfl))
theorem ib{f:Nat}{g:W2→W2→W6}(en:am Tryz.prog f)(h: ∀a b,Pure Tryz.prog Gt f [EV2 a,EV2 b] (EV6 (g a b))):Snd Tryz.prog Gt f (c2 q2.ag q2.ag q6.rd g):=kq q2.ag q2.ag q6.rd en (fun a b=>bW rfl (V6 _).symm (h a b))
def TO55:Tb Tryz.prog Gt:=TO54.add (ib (g:=fun a b=>(a,b,on2)) ent30 Id)
theorem NZ(x:W6):Pure Tryz.prog Gt 32 [EV6 x] (EV6 (x.1,ng2 x.2.1,x.2.2)):=(bW (l1 (V6 _)) (V6 _) (pE TO55 func32 [.inl [x.1.1,x.1.2,x.2.1.1,x.2.1.2,x.2.2.1,x.2.2.2]] (.inl (.inl [(x.1,ng2 x.2.1,x.2.2).1.1,(x.1,ng2 x.2.1,x.2.2).1.2,(x.1,ng2 x.2.1,x.2.2).2.1.1,(x.1,ng2 x.2.1,x.2.2).2.1.2,(x.1,ng2 x.2.1,x.2.2).2.2.1,(x.1,ng2 x.2.1,x.2.2).2.2.2])) (let t0:=ng2 (x.2.1.1,x.2.1.2);(.inl (.inl [x.1.1,x.1.2,t0.1,t0.2,x.2.2.1,x.2.2.2]),[])) [] (by kernel_rfl) aD rfl))
theorem g7{f:Nat}{g:W6→W6}(en:am Tryz.prog f)(h: ∀a,Pure Tryz.prog Gt f [EV6 a] (EV6 (g a))):Snd Tryz.prog Gt f (c1 q6.ag q6.rd g):=gy q6.ag q6.rd en (fun a=>bW (l1 (V6 _).symm) (V6 _).symm (h a))
def TO56:Tb Tryz.prog Gt:=TO55.add (g7 (g:=fun x=>(x.1,ng2 x.2.1,x.2.2)) ent32 NZ)
theorem qY(x:W6):Pure Tryz.prog Gt 69 [EV6 x] (EV6 (E2w.jdF x)):=by
 by_cases h:x.2.2=ze2
 ·exact (bW (l1 (V6 _)) (V6 _) (pE TO56 func69 [.inl [x.1.1,x.1.2,x.2.1.1,x.2.1.2,x.2.2.1,x.2.2.2]] (.inl (.inl [(E2w.jdF x).1.1,(E2w.jdF x).1.2,(E2w.jdF x).2.1.1,(E2w.jdF x).2.1.2,(E2w.jdF x).2.2.1,(E2w.jdF x).2.2.2])) (.inl (.inl [0,0,0,0,0,0]),[(decide (x.2.2=ze2),true)]) [some true] (by kernel_rfl) (ak (decide_eq_true h) aD) (by rw[show E2w.jdF x=(ze2,ze2,ze2)from if_pos (.inl h)]<;>exact rfl)))
 ·by_cases h2:x.2.1=ze2
  ·exact (bW (l1 (V6 _)) (V6 _) (pE TO56 func69 [.inl [x.1.1,x.1.2,x.2.1.1,x.2.1.2,x.2.2.1,x.2.2.2]] (.inl (.inl [(E2w.jdF x).1.1,(E2w.jdF x).1.2,(E2w.jdF x).2.1.1,(E2w.jdF x).2.1.2,(E2w.jdF x).2.2.1,(E2w.jdF x).2.2.2])) (.inl (.inl [0,0,0,0,0,0]),[(decide (x.2.2=ze2),false),(decide ((x.2.1.1,x.2.1.2)=ze2),true)]) [some false,some true] (by kernel_rfl) (ak (decide_eq_false h) (ak (decide_eq_true h2) aD)) (by rw[show E2w.jdF x=(ze2,ze2,ze2)from if_pos (.inr h2)]<;>exact rfl)))
  ·exact (bW (l1 (V6 _)) (V6 _) (pE TO56 func69 [.inl [x.1.1,x.1.2,x.2.1.1,x.2.1.2,x.2.2.1,x.2.2.2]] (.inl (.inl [(E2w.jdF x).1.1,(E2w.jdF x).1.2,(E2w.jdF x).2.1.1,(E2w.jdF x).2.1.2,(E2w.jdF x).2.2.1,(E2w.jdF x).2.2.2])) (let t0:=ml2 (x.1.1,x.1.2) (x.1.1,x.1.2);let t1:=ml2 (x.2.1.1,x.2.1.2) (x.2.1.1,x.2.1.2);let t2:=ml2 (x.1.1,x.1.2) (t1.1,t1.2);let t3:=ad2 (t2.1,t2.2) (t2.1,t2.2);let t4:=ad2 (t3.1,t3.2) (t3.1,t3.2);let t5:=ad2 (t0.1,t0.2) (t0.1,t0.2);let t6:=ad2 (t5.1,t5.2) (t0.1,t0.2);let t7:=ml2 (t6.1,t6.2) (t6.1,t6.2);let t8:=E2w.sub (t7.1,t7.2) (t4.1,t4.2);let t9:=E2w.sub (t8.1,t8.2) (t4.1,t4.2);let t10:=ml2 (t1.1,t1.2) (t1.1,t1.2);let t11:=ad2 (t10.1,t10.2) (t10.1,t10.2);let t12:=ad2 (t11.1,t11.2) (t11.1,t11.2);let t13:=ad2 (t12.1,t12.2) (t12.1,t12.2);let t14:=ml2 (x.2.1.1,x.2.1.2) (x.2.2.1,x.2.2.2);let t15:=E2w.sub (t4.1,t4.2) (t9.1,t9.2);let t16:=ml2 (t6.1,t6.2) (t15.1,t15.2);let t17:=E2w.sub (t16.1,t16.2) (t13.1,t13.2);let t18:=ad2 (t14.1,t14.2) (t14.1,t14.2);(.inl (.inl [t9.1,t9.2,t17.1,t17.2,t18.1,t18.2]),[(decide (x.2.2=ze2),false),(decide ((x.2.1.1,x.2.1.2)=ze2),false)])) [some false,some false] (by kernel_rfl) (ak (decide_eq_false h) (ak (decide_eq_false h2) aD)) (by rw[show E2w.jdF x=E2w.jd x.1 x.2.1 x.2.2 from if_neg (fun e=>e.elim h h2)]<;>exact rfl)))
def TO57:Tb Tryz.prog Gt:=TO56.add (g7 (g:=E2w.jdF) ent69 qY)
theorem yq(x y:W6):Pure Tryz.prog Gt 28 [EV6 x,EV6 y] (EV6 (E2w.jaF x y)):=by
 by_cases h1:x.2.2=ze2
 ·exact (bW (l2 (V6 _) (V6 _)) (V6 _) (pE TO57 func28 [.inl [x.1.1,x.1.2,x.2.1.1,x.2.1.2,x.2.2.1,x.2.2.2],.inl [y.1.1,y.1.2,y.2.1.1,y.2.1.2,y.2.2.1,y.2.2.2]] (.inl (.inl [(E2w.jaF x y).1.1,(E2w.jaF x y).1.2,(E2w.jaF x y).2.1.1,(E2w.jaF x y).2.1.2,(E2w.jaF x y).2.2.1,(E2w.jaF x y).2.2.2])) (.inl (.inl [y.1.1,y.1.2,y.2.1.1,y.2.1.2,y.2.2.1,y.2.2.2]),[(decide (x.2.2=ze2),true)]) [some true] (by kernel_rfl) (ak (decide_eq_true h1) aD) (by rw[show E2w.jaF x y=y from if_pos h1]<;>exact rfl)))
 ·by_cases h2:y.2.2=ze2
  ·exact (bW (l2 (V6 _) (V6 _)) (V6 _) (pE TO57 func28 [.inl [x.1.1,x.1.2,x.2.1.1,x.2.1.2,x.2.2.1,x.2.2.2],.inl [y.1.1,y.1.2,y.2.1.1,y.2.1.2,y.2.2.1,y.2.2.2]] (.inl (.inl [(E2w.jaF x y).1.1,(E2w.jaF x y).1.2,(E2w.jaF x y).2.1.1,(E2w.jaF x y).2.1.2,(E2w.jaF x y).2.2.1,(E2w.jaF x y).2.2.2])) (.inl (.inl [x.1.1,x.1.2,x.2.1.1,x.2.1.2,x.2.2.1,x.2.2.2]),[(decide (x.2.2=ze2),false),(decide (y.2.2=ze2),true)]) [some false,some true] (by kernel_rfl) (ak (decide_eq_false h1) (ak (decide_eq_true h2) aD)) (by rw[show E2w.jaF x y=x from (if_neg h1).trans (if_pos h2)]<;>exact rfl)))
  ·by_cases h3:E2w.jh x.1 x.2.2 y.1 y.2.2=ze2
   ·by_cases h4:E2w.jq x.2.1 x.2.2 y.2.1 y.2.2=ze2
    ·exact (bW (l2 (V6 _) (V6 _)) (V6 _) (pE TO57 func28 [.inl [x.1.1,x.1.2,x.2.1.1,x.2.1.2,x.2.2.1,x.2.2.2],.inl [y.1.1,y.1.2,y.2.1.1,y.2.1.2,y.2.2.1,y.2.2.2]] (.inl (.inl [(E2w.jaF x y).1.1,(E2w.jaF x y).1.2,(E2w.jaF x y).2.1.1,(E2w.jaF x y).2.1.2,(E2w.jaF x y).2.2.1,(E2w.jaF x y).2.2.2])) (let t0:=ml2 (x.2.2.1,x.2.2.2) (x.2.2.1,x.2.2.2);let t1:=ml2 (y.2.2.1,y.2.2.2) (y.2.2.1,y.2.2.2);let t2:=ml2 (x.1.1,x.1.2) (t1.1,t1.2);let t3:=ml2 (y.1.1,y.1.2) (t0.1,t0.2);let t4:=ml2 (x.2.1.1,x.2.1.2) (t1.1,t1.2);let t5:=ml2 (t4.1,t4.2) (y.2.2.1,y.2.2.2);let t6:=ml2 (y.2.1.1,y.2.1.2) (t0.1,t0.2);let t7:=ml2 (t6.1,t6.2) (x.2.2.1,x.2.2.2);let t8:=E2w.sub (t3.1,t3.2) (t2.1,t2.2);let t9:=E2w.sub (t7.1,t7.2) (t5.1,t5.2);let t10:=E2w.jdF x;(.inl (.inl [t10.1.1,t10.1.2,t10.2.1.1,t10.2.1.2,t10.2.2.1,t10.2.2.2]),[(decide (x.2.2=ze2),false),(decide (y.2.2=ze2),false),(decide ((t8.1,t8.2)=ze2),true),(decide ((t9.1,t9.2)=ze2),true)])) [some false,some false,some true,some true] (by kernel_rfl) (ak (decide_eq_false h1) (ak (decide_eq_false h2) (ak (decide_eq_true h3) (ak (decide_eq_true h4) aD)))) (by rw[show E2w.jaF x y=E2w.jdF x from (if_neg h1).trans ((if_neg h2).trans ((if_pos h3).trans (if_pos h4)))]<;>exact rfl)))
    ·exact (bW (l2 (V6 _) (V6 _)) (V6 _) (pE TO57 func28 [.inl [x.1.1,x.1.2,x.2.1.1,x.2.1.2,x.2.2.1,x.2.2.2],.inl [y.1.1,y.1.2,y.2.1.1,y.2.1.2,y.2.2.1,y.2.2.2]] (.inl (.inl [(E2w.jaF x y).1.1,(E2w.jaF x y).1.2,(E2w.jaF x y).2.1.1,(E2w.jaF x y).2.1.2,(E2w.jaF x y).2.2.1,(E2w.jaF x y).2.2.2])) (let t0:=ml2 (x.2.2.1,x.2.2.2) (x.2.2.1,x.2.2.2);let t1:=ml2 (y.2.2.1,y.2.2.2) (y.2.2.1,y.2.2.2);let t2:=ml2 (x.1.1,x.1.2) (t1.1,t1.2);let t3:=ml2 (y.1.1,y.1.2) (t0.1,t0.2);let t4:=ml2 (x.2.1.1,x.2.1.2) (t1.1,t1.2);let t5:=ml2 (t4.1,t4.2) (y.2.2.1,y.2.2.2);let t6:=ml2 (y.2.1.1,y.2.1.2) (t0.1,t0.2);let t7:=ml2 (t6.1,t6.2) (x.2.2.1,x.2.2.2);let t8:=E2w.sub (t3.1,t3.2) (t2.1,t2.2);let t9:=E2w.sub (t7.1,t7.2) (t5.1,t5.2);(.inl (.inl [0,0,0,0,0,0]),[(decide (x.2.2=ze2),false),(decide (y.2.2=ze2),false),(decide ((t8.1,t8.2)=ze2),true),(decide ((t9.1,t9.2)=ze2),false)])) [some false,some false,some true,some false] (by kernel_rfl) (ak (decide_eq_false h1) (ak (decide_eq_false h2) (ak (decide_eq_true h3) (ak (decide_eq_false h4) aD)))) (by rw[show E2w.jaF x y=(ze2,ze2,ze2)from (if_neg h1).trans ((if_neg h2).trans ((if_pos h3).trans (if_neg h4)))]<;>exact rfl)))
   ·exact (bW (l2 (V6 _) (V6 _)) (V6 _) (pE TO57 func28 [.inl [x.1.1,x.1.2,x.2.1.1,x.2.1.2,x.2.2.1,x.2.2.2],.inl [y.1.1,y.1.2,y.2.1.1,y.2.1.2,y.2.2.1,y.2.2.2]] (.inl (.inl [(E2w.jaF x y).1.1,(E2w.jaF x y).1.2,(E2w.jaF x y).2.1.1,(E2w.jaF x y).2.1.2,(E2w.jaF x y).2.2.1,(E2w.jaF x y).2.2.2])) (let t0:=ml2 (x.2.2.1,x.2.2.2) (x.2.2.1,x.2.2.2);let t1:=ml2 (y.2.2.1,y.2.2.2) (y.2.2.1,y.2.2.2);let t2:=ml2 (x.1.1,x.1.2) (t1.1,t1.2);let t3:=ml2 (y.1.1,y.1.2) (t0.1,t0.2);let t4:=ml2 (x.2.1.1,x.2.1.2) (t1.1,t1.2);let t5:=ml2 (t4.1,t4.2) (y.2.2.1,y.2.2.2);let t6:=ml2 (y.2.1.1,y.2.1.2) (t0.1,t0.2);let t7:=ml2 (t6.1,t6.2) (x.2.2.1,x.2.2.2);let t8:=E2w.sub (t3.1,t3.2) (t2.1,t2.2);let t9:=E2w.sub (t7.1,t7.2) (t5.1,t5.2);let t10:=ml2 (t8.1,t8.2) (t8.1,t8.2);let t11:=ml2 (t10.1,t10.2) (t8.1,t8.2);let t12:=ml2 (t2.1,t2.2) (t10.1,t10.2);let t13:=ml2 (t9.1,t9.2) (t9.1,t9.2);let t14:=E2w.sub (t13.1,t13.2) (t11.1,t11.2);let t15:=E2w.sub (t14.1,t14.2) (t12.1,t12.2);let t16:=E2w.sub (t15.1,t15.2) (t12.1,t12.2);let t17:=E2w.sub (t12.1,t12.2) (t16.1,t16.2);let t18:=ml2 (t9.1,t9.2) (t17.1,t17.2);let t19:=ml2 (t5.1,t5.2) (t11.1,t11.2);let t20:=E2w.sub (t18.1,t18.2) (t19.1,t19.2);let t21:=ml2 (x.2.2.1,x.2.2.2) (y.2.2.1,y.2.2.2);let t22:=ml2 (t21.1,t21.2) (t8.1,t8.2);(.inl (.inl [t16.1,t16.2,t20.1,t20.2,t22.1,t22.2]),[(decide (x.2.2=ze2),false),(decide (y.2.2=ze2),false),(decide ((t8.1,t8.2)=ze2),false)])) [some false,some false,some false] (by kernel_rfl) (ak (decide_eq_false h1) (ak (decide_eq_false h2) (ak (decide_eq_false h3) aD))) (by rw[show E2w.jaF x y=E2w.ja x.1 x.2.1 x.2.2 y.1 y.2.1 y.2.2 from (if_neg h1).trans ((if_neg h2).trans (if_neg h3))]<;>exact rfl)))
theorem h7{f:Nat}{g:W6→W6→W6}(en:am Tryz.prog f)(h: ∀a b,Pure Tryz.prog Gt f [EV6 a,EV6 b] (EV6 (g a b))):Snd Tryz.prog Gt f (c2 q6.ag q6.ag q6.rd g):=kq q6.ag q6.ag q6.rd en (fun a b=>bW (l2 (V6 _).symm (V6 _).symm) (V6 _).symm (h a b))
def TO58:Tb Tryz.prog Gt:=TO57.add (h7 (g:=E2w.jaF) ent28 yq)
theorem uv(x y:W6):Pure Tryz.prog Gt 10 [EV6 x,EV6 y] (.bool (decide ((E2w.jaF x (y.1,ng2 y.2.1,y.2.2)).2.2=ze2))):=(bW (l2 (V6 _) (V6 _)) rfl (pE TO58 func10 [.inl [x.1.1,x.1.2,x.2.1.1,x.2.1.2,x.2.2.1,x.2.2.2],.inl [y.1.1,y.1.2,y.2.1.1,y.2.1.2,y.2.2.1,y.2.2.2]] (.inl (.inr (.inl (decide ((E2w.jaF x (y.1,ng2 y.2.1,y.2.2)).2.2=ze2))))) (let t0:=(y.1,ng2 y.2.1,y.2.2);let t1:=E2w.jaF x ((t0.1.1,t0.1.2),(t0.2.1.1,t0.2.1.2),(t0.2.2.1,t0.2.2.2));(.inl (.inr (.inl (decide (((t1.1.1,t1.1.2),(t1.2.1.1,t1.2.1.2),(t1.2.2.1,t1.2.2.2)).2.2=ze2)))),[])) [] (by kernel_rfl) aD rfl))
theorem mD{f:Nat}{g:W6→W6→Bool}(en:am Tryz.prog f)(h: ∀a b,Pure Tryz.prog Gt f [EV6 a,EV6 b] (.bool (g a b))):Snd Tryz.prog Gt f (c2 q6.ag q6.ag rdB g):=kq q6.ag q6.ag rdB en (fun a b=>bW (l2 (V6 _).symm (V6 _).symm) rfl (h a b))
def TO59:Tb Tryz.prog Gt:=TO58.add (mD (g:=fun x y=>(decide ((E2w.jaF x (y.1,ng2 y.2.1,y.2.2)).2.2=ze2))) ent10 uv)
end
section
open Go.RowKit
attribute [local simp] bp bQ aI aB bj bc aX aW bv PLl eK eI N1l eP eU eW bJ bV bY bX cH
def RMJ(x:W6)(bs:List (BitVec 8)):Nat→W6
 |0=>(ze2,ze2,ze2)
 |i+1=>if dM bs i=1#8 then E2w.jaF (E2w.jdF (RMJ x bs i)) x else E2w.jdF (RMJ x bs i)
theorem BY{x:W6}{bs:List (BitVec 8)}{i:Nat}(h:dM bs i=1#8):RMJ x bs (i+1)=E2w.jaF (E2w.jdF (RMJ x bs i)) x:=if_pos h
theorem Bv{x:W6}{bs:List (BitVec 8)}{i:Nat}(h: ¬dM bs i=1#8):RMJ x bs (i+1)=E2w.jdF (RMJ x bs i):=if_neg h
theorem Ar{x:W6}{P:Pt W2}(hP:E2w.onP P)(hx:E2w.jr x P)(bs:List (BitVec 8)): ∀i,E2w.jr (RMJ x bs i) (E2w.times P (BTn bs i))
 |0=>rfl
 |i+1=>by
  have hd:=E2w.jr_d (E2w.times_on hP _) (Ar hP hx bs i)
  rw[E2w.dbl_times hP]at hd
  rcases pO bs i with ⟨h,e⟩|⟨h,e⟩
  ·rw[BY h,BTn,e]
   exact E2w.jr_a (E2w.times_on hP _) hP hd hx
  ·rw[Bv h,BTn,e]
   exact hd
def RRL:List (BitVec 64):=[18446744069414584321#64,6034159408538082302#64,3691218898639771653#64,8353516859464449352#64,0#64,0#64]
def RB48:List (BitVec 8):=BYs RRL 48
theorem zN:RB48.length=48:=by decide+kernel
theorem D2:RRL.length=6:=rfl
attribute [local simp] zN D2
theorem nm_ze:nm 0=List.replicate 6 0#64:=by decide+kernel
theorem rL(x:W6)(e:Option Addr)(cap:Nat)(bs:List (BitVec 8))(hlen:bs.length≤4096)(w:World)(hw:Gt w)(hby:BytesAt w e bs):
 Calls Tryz.prog 46 [EV6 x,.slice e bs.length cap].toArray w (fun r w'=>r=.returned (EV6 (RMJ x bs (8*bs.length)))∧Grow w w'):=by
 refine Hf func46 rfl hw<|fun hGF=>Xp<|Bx 2 hGF rfl<|fun b2=>Al 4 hGF zv41<|fun b4=>aa<|Xp<|Al 5 hGF zv41<|fun b5=>aa<|ah<|Xp<|Asg rfl<|aa<|ai<|bg (ι:={i:Nat // i≤8*bs.length}) (fun y=>[(1,.slice e bs.length cap),(2,.pointer (some ⟨b2,0,none⟩)),(4,.pointer (some ⟨b4,0,none⟩)),(5,.pointer (some ⟨b5,0,none⟩)),(6,I (y.1:Int))]) (fun y=>[(2,b2,((fe ((x).1).1++fe ((x).1).2)++((fe ((x).2.1).1++fe ((x).2.1).2)++(fe ((x).2.2).1++fe ((x).2.2).2))).map U64,41),(4,b4,((fe 0++fe 0)++((fe 0++fe 0)++(fe 0++fe 0))).map U64,41),(5,b5,((fe ((RMJ x bs y.1).1).1++fe ((RMJ x bs y.1).1).2)++((fe ((RMJ x bs y.1).2.1).1++fe ((RMJ x bs y.1).2.1).2)++(fe ((RMJ x bs y.1).2.2).1++fe ((RMJ x bs y.1).2.2).2))).map U64,41)]) (fun y=>8*bs.length-y.1) ⟨0,Nat.zero_le _⟩ hGF ⟨rfl,rfl,rfl,rfl,rfl,trivial⟩ ⟨rfl,rfl,rfl,trivial⟩<|?_
 rintro ⟨i,hi⟩
 dsimp only
 refine ah<|Xp<|Mv rfl<|Mv rfl<|aZ rfl (fun _=>aC underlying22 _ _ _ _) rfl rfl<|Bnr (v:=I ((8*bs.length:Nat):Int)) rfl rfl (fun _=>(aT _ _ _ (by unfold inI;omega)).trans (by rw[show (8:Int)*(bs.length:Int)=((8*bs.length:Nat):Int) by omega]))<|Bnr rfl rfl (fun _=>av _ _ _)<|aa<|?_
 refine ba rfl (fun hc=> ?_) (fun hc=> ?_)
 ·simp only[decide_eq_true_eq]at hc
  refine au<|ah<|ai<|Xp<|La 5 rfl rfl gT<|Ca rfl (qY _)<|Sa 5 hGF rfl rfl rfl gT<|aa<|Xp<|Mv rfl<|Mv rfl<|Bnr (v:=I ((i / 8:Nat):Int)) rfl rfl (fun _=>dS _ _ _ (by decide) (show inI ((i / 8:Nat):Int) by unfold inI;omega))<|?_
  obtain ⟨ad,rfl,_⟩:=hby (i / 8) _ (gm U8 bs 0 (i / 8) (by omega))
  refine iN (i / 8) rfl rfl underlying22 sizeOf5 rfl (by omega) rfl rfl<|bC rfl isAgg5 (fun w' h=>by obtain ⟨ad',e,hc⟩:=(hby.grow (ac h)) (i / 8) _ (gm U8 bs 0 (i / 8) (by omega));cases e;exact hc) rfl rfl<|Mv rfl<|Bnr (v:=I ((i % 8:Nat):Int)) rfl rfl (fun _=>cV _ _ _ (by decide))<|Bnr (v:=I ((7-i % 8:Nat):Int)) rfl rfl (fun _=>(aL _ _ _ (by unfold inI;omega)).trans (by rw[show ((7:Int)-((i % 8:Nat):Int))=((7-i % 8:Nat):Int) by omega]))<|Bnr (v:=U8 (bs.getD (i / 8) 0>>>(7-i % 8))) rfl rfl (fun _=>fD _ _ _ (by omega))<|Bnr (v:=U8 (dM bs i)) rfl rfl (fun _=>gI _ _ 1#8)<|Bnr (v:=.bool (decide (dM bs i=1#8))) rfl rfl (fun _=>(dz _ _ 1#8).trans rfl)<|aa<|?_
  refine ba rfl (fun hc=> ?_) (fun hc=> ?_)
  ·have hq:dM bs i=1#8:=of_decide_eq_true hc
   refine Xq<|La 5 rfl rfl gT<|La 2 rfl rfl gT<|Ca rfl (yq _ _)<|Sa 5 hGF rfl rfl rfl gT<|aa<|Xq<|Mv rfl<|Bnr rfl rfl (fun _=>ap _ _ _ (by unfold inI;omega))<|Asg rfl<|aa<|?_
   repeat (refine aJ ?_)
   exact aA<|⟨rfl,⟨i+1,by omega⟩,_,by show 8*bs.length-(i+1)<8*bs.length-i;omega,rfl,⟨rfl,rfl,rfl,rfl,rfl,trivial⟩,⟨rfl,rfl,by first|(rw[BY hq];rfl)|(rw[Bv hq];rfl),trivial⟩⟩
  ·have hq: ¬dM bs i=1#8:=of_decide_eq_false hc
   refine au<|Xq<|Mv rfl<|Bnr rfl rfl (fun _=>ap _ _ _ (by unfold inI;omega))<|Asg rfl<|aa<|?_
   repeat (refine aJ ?_)
   exact aA<|⟨rfl,⟨i+1,by omega⟩,_,by show 8*bs.length-(i+1)<8*bs.length-i;omega,rfl,⟨rfl,rfl,rfl,rfl,rfl,trivial⟩,⟨rfl,rfl,by first|(rw[BY hq];rfl)|(rw[Bv hq];rfl),trivial⟩⟩
 ·obtain rfl:i=8*bs.length:=by simp at hc;omega
  refine aM<|Xp<|La 5 rfl rfl gT<|Sa 4 hGF rfl rfl rfl gT<|aa<|aq<|Rr<|?_
  exact aw 4 rfl rfl rfl isAgg41 sizeOf41 (by simp) (fun w hw=>⟨rfl,ac hw⟩)
end
end Go.Proofs.YtodgbdcjjhmnkaaGreatDoor
