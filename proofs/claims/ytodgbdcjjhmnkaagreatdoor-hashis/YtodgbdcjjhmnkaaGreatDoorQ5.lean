/-
 The walks of package swu: the other curve.
 The document's place on the other curve.
 The document's map to the second curve.
 The document's map to the second curve: Iso, Map.
-/
import Derived.Test.YtodgbdcjjhmnkaaGreatDoorQ4
import Derived.Test.YtodgbdcjjhmnkaaGreatDoorXJ
import Derived.Test.YtodgbdcjjhmnkaaGreatDoorX3
import Derived.Test.YtodgbdcjjhmnkaaGreatDoorX2
import Derived.Test.YtodgbdcjjhmnkaaGreatDoorXW
set_option maxRecDepth 100000
set_option maxHeartbeats 1000000
namespace Go.Proofs.YtodgbdcjjhmnkaaGreatDoor
open Go.Proofs.Tryz
section
open Go.RowKit
attribute [local simp] bp bQ aI aB bj bc aX aW bv PLl eK eI N1l eP eU eW bJ bV bY bX cH eT
theorem ent168:am Tryz.prog 168:=fun _ _=>by kernel_rfl
theorem ent167:am Tryz.prog 167:=fun _ _=>by kernel_rfl
theorem ent142:am Tryz.prog 142:=fun _ _=>by kernel_rfl
theorem ent144:am Tryz.prog 144:=fun _ _=>by kernel_rfl
theorem ent143:am Tryz.prog 143:=fun _ _=>by kernel_rfl
theorem ent138:am Tryz.prog 138:=fun _ _=>by kernel_rfl
theorem ent139:am Tryz.prog 139:=fun _ _=>by kernel_rfl
theorem ent165:am Tryz.prog 165:=fun _ _=>by kernel_rfl
theorem ent137:am Tryz.prog 137:=fun _ _=>by kernel_rfl
theorem ent116:am Tryz.prog 116:=fun _ _=>by kernel_rfl
theorem ent115:am Tryz.prog 115:=fun _ _=>by kernel_rfl
theorem ent113:am Tryz.prog 113:=fun _ _=>by kernel_rfl
theorem ent107:am Tryz.prog 107:=fun _ _=>by kernel_rfl
theorem pA  :Pure Tryz.prog Gt 168 [] (EV2 OA):=pE TO67 func168 [] (.inl (.inl [OA.1,OA.2])) (let t0:=zp (240#64).toNat;(.inl (.inl [0,t0]),[])) [] (by kernel_rfl) aD rfl
def TO68:Tb Tryz.prog Gt:=TO67.add (kX (g:=OA) ent168 pA)
theorem pB  :Pure Tryz.prog Gt 167 [] (EV2 OB):=pE TO68 func167 [] (.inl (.inl [OB.1,OB.2])) (let t0:=zp (1012#64).toNat;let t1:=zp (1012#64).toNat;(.inl (.inl [t0,t1]),[])) [] (by kernel_rfl) aD rfl
def TO69:Tb Tryz.prog Gt:=TO68.add (kX (g:=OB) ent167 pB)
theorem pZ  :Pure Tryz.prog Gt 142 [] (EV2 OZ):=pE TO69 func142 [] (.inl (.inl [OZ.1,OZ.2])) (let t0:=zp (2#64).toNat;let t1:=ng2 (t0,1);(.inl (.inl [t1.1,t1.2]),[])) [] (by kernel_rfl) aD rfl
def TO70:Tb Tryz.prog Gt:=TO69.add (kX (g:=OZ) ent142 pZ)
theorem psq(x:W2):Pure Tryz.prog Gt 144 [EV2 x] (EV2 (gO x)):=pE TO70 func144 [.inl [x.1,x.2]] (.inl (.inl [(gO x).1,(gO x).2])) (let t0:=ml2 x x;let t1:=OA;let t2:=ad2 (t0.1,t0.2) (t1.1,t1.2);let t3:=ml2 (t2.1,t2.2) x;let t4:=OB;let t5:=ad2 (t3.1,t3.2) (t4.1,t4.2);(.inl (.inl [t5.1,t5.2]),[])) [] (by kernel_rfl) aD (el2 (congrArg Prod.fst (Fg x)) (congrArg Prod.snd (Fg x)))
def TO71:Tb Tryz.prog Gt:=TO70.add (cY (g:=gO) ent144 psq)
def FXs(s:W2):W2:=if (ad2 (ml2 s s) s)=ze2 then ml2 (ml2 OB (ad2 (ad2 (ml2 s s) s) on2)) (iv2 (ml2 OZ OA))else ml2 (ml2 OB (ad2 (ad2 (ml2 s s) s) on2)) (iv2 (ml2 (ng2 (ad2 (ml2 s s) s)) OA))
theorem JJ(u:W2):FXs (zu2 u)=x1O u:=by
 by_cases h:tu2 u=ze2
 ·exact (if_pos h).trans (CV h)
 ·exact (if_neg h).trans (CW h)
theorem xY(s:W2):Pure Tryz.prog Gt 143 [EV2 s] (EV2 (FXs s)):=by
 by_cases h:(ad2 (ml2 s s) s)=ze2
 ·exact pE TO71 func143 [.inl [s.1,s.2]] (.inl (.inl [(FXs s).1,(FXs s).2])) (let t0:=ml2 s s;let t1:=ad2 (t0.1,t0.2) s;let t3:=OZ;let t4:=OB;let t5:=on2;let t6:=ad2 (t1.1,t1.2) (t5.1,t5.2);let t7:=ml2 (t4.1,t4.2) (t6.1,t6.2);let t8:=OA;let t9:=ml2 (t3.1,t3.2) (t8.1,t8.2);let t10:=iv2 (t9.1,t9.2);let t11:=ml2 (t7.1,t7.2) (t10.1,t10.2);(.inl (.inl [t11.1,t11.2]),[(decide ((t1.1,t1.2)=ze2),true)])) [some true] (by kernel_rfl) (ak (decide_eq_true h) aD) (by rw[show FXs s=_ from if_pos h]<;>exact rfl)
 ·exact pE TO71 func143 [.inl [s.1,s.2]] (.inl (.inl [(FXs s).1,(FXs s).2])) (let t0:=ml2 s s;let t1:=ad2 (t0.1,t0.2) s;let t2:=ng2 (t1.1,t1.2);let t3:=OB;let t4:=on2;let t5:=ad2 (t1.1,t1.2) (t4.1,t4.2);let t6:=ml2 (t3.1,t3.2) (t5.1,t5.2);let t7:=OA;let t8:=ml2 (t2.1,t2.2) (t7.1,t7.2);let t9:=iv2 (t8.1,t8.2);let t10:=ml2 (t6.1,t6.2) (t9.1,t9.2);(.inl (.inl [t10.1,t10.2]),[(decide ((t1.1,t1.2)=ze2),false)])) [some false] (by kernel_rfl) (ak (decide_eq_false h) aD) (by rw[show FXs s=_ from if_neg h]<;>exact rfl)
def TO72:Tb Tryz.prog Gt:=TO71.add (cY (g:=FXs) ent143 xY)
theorem sg_t{r u:W2}(h:SG2 r=SG2 u):(SG2 r !=SG2 u)=false:=by rw[h];exact bne_self_eq_false _
theorem sg_f{r u:W2}(h: ¬SG2 r=SG2 u):(SG2 r !=SG2 u)=true:=bne_iff_ne.2 h
theorem wK(r u:W2)(h:SG2 r=SG2 u):Pure Tryz.prog Gt 145 [EV2 r,I (SG2 u)] (EV2 r):=by
 intro w hw
 refine Hf func145 rfl hw<|fun hGF=>Xp<|Bx 2 hGF rfl<|fun b2=>Al 4 hGF zv29<|fun b4=>aa<|ah<|Xp<|La 2 rfl rfl a9<|Ca rfl (rN _)<|Mv rfl<|Bnb false rfl rfl (fun _=>bK _ _ _) (sg_t h)<|aa<|aV rfl<|au<|Xp<|La 2 rfl rfl a9<|Sa 4 hGF rfl rfl rfl a9<|aa<|aq<|Rr<|?_
 exact aw 4 rfl rfl rfl isAgg29 sizeOf29 (by simp) (fun w hw=>⟨rfl,ac hw⟩)
theorem xf(r u:W2)(h: ¬SG2 r=SG2 u):Pure Tryz.prog Gt 145 [EV2 r,I (SG2 u)] (EV2 (ng2 r)):=by
 intro w hw
 refine Hf func145 rfl hw<|fun hGF=>Xp<|Bx 2 hGF rfl<|fun b2=>Al 4 hGF zv29<|fun b4=>aa<|ah<|Xp<|La 2 rfl rfl a9<|Ca rfl (rN _)<|Mv rfl<|Bnb true rfl rfl (fun _=>bK _ _ _) (sg_f h)<|aa<|bf rfl<|Xp<|La 2 rfl rfl a9<|Ca rfl (Ff _)<|Sa 4 hGF rfl rfl rfl a9<|aa<|aq<|Rr<|?_
 exact aw 4 rfl rfl rfl isAgg29 sizeOf29 (by simp) (fun w hw=>⟨rfl,ac hw⟩)
theorem wh(r u:W2):Pure Tryz.prog Gt 145 [EV2 r,I (SG2 u)] (EV2 (sgS r u)):=by
 by_cases h:SG2 r=SG2 u
 ·rw[show sgS r u=r from if_pos h];exact wK r u h
 ·rw[show sgS r u=ng2 r from if_neg h];exact xf r u h
theorem Ai(u:W2):Pure Tryz.prog Gt 49 [EV2 (ml2 u u),EV2 OZ] (EV2 (zu2 u)):=by
 have h:=gt (ml2 u u) OZ
 rw[Oz]at h
 exact h
theorem uz(u:W2):Pure Tryz.prog Gt 143 [EV2 (zu2 u)] (EV2 (x1O u)):=by
 have h:=xY (zu2 u)
 rw[JJ]at h
 exact h
theorem GU(u r:W2)(hr:ml2 r r=gO (x1O u))(hl:LG2 r=false):Pure Tryz.prog Gt 101 [EV2 u] (.tuple #[EV2 (x1O u),EV2 (sgS r u)]):=by
 intro w hw
 refine Hf func101 rfl hw<|fun hGF=>Xp<|Bx 1 hGF rfl<|fun b1=>Al 2 hGF zv29<|fun b2=>Al 3 hGF zv29<|fun b3=>aa<|Xp<|La 1 rfl rfl a9<|Ca rfl (ka _)<|Ca rfl (pZ)<|Ca rfl (Ai u)<|Al 4 hGF zv29<|fun b4=>Sa 4 hGF rfl rfl rfl a9<|aa<|Xp<|La 4 rfl rfl a9<|Ca rfl (uz u)<|Al 5 hGF zv29<|fun b5=>Sa 5 hGF rfl rfl rfl a9<|aa<|Xp<|La 5 rfl rfl a9<|Ca rfl (psq _)<|Ca rfl (vz _ r hr hl)<|Mv rfl<|Ext rfl rfl<|Ext rfl rfl<|Al 6 hGF zv29<|fun b6=>Sa 6 hGF rfl rfl rfl a9<|Asg rfl<|aa<|ah<|Xp<|Mv rfl<|bT rfl (fun _=>bI _) rfl rfl<|aa<|aV rfl<|au<|Xd []<|La 5 rfl rfl a9<|?_
 refine La 6 rfl rfl a9<|La 1 rfl rfl a9<|Ca rfl (rN _)<|Ca rfl (wh r u)<|Sa 2 hGF rfl rfl rfl a9<|Sa 3 hGF rfl rfl rfl a9<|aa<|aq<|Rr<|?_
 exact g6 2 3 rfl rfl rfl rfl rfl isAgg29 sizeOf29 (by simp) (by simp) (fun w hw=>⟨rfl,ac hw⟩)
theorem JS(u r:W2)(hq: ¬IsQ (nm2 (gO (x1O u))))(hr:ml2 r r=gO (ml2 (zu2 u) (x1O u)))(hl:LG2 r=false):Pure Tryz.prog Gt 101 [EV2 u] (.tuple #[EV2 (ml2 (zu2 u) (x1O u)),EV2 (sgS r u)]):=by
 intro w hw
 refine Hf func101 rfl hw<|fun hGF=>Xp<|Bx 1 hGF rfl<|fun b1=>Al 2 hGF zv29<|fun b2=>Al 3 hGF zv29<|fun b3=>aa<|Xp<|La 1 rfl rfl a9<|Ca rfl (ka _)<|Ca rfl (pZ)<|Ca rfl (Ai u)<|Al 4 hGF zv29<|fun b4=>Sa 4 hGF rfl rfl rfl a9<|aa<|Xp<|La 4 rfl rfl a9<|Ca rfl (uz u)<|Al 5 hGF zv29<|fun b5=>Sa 5 hGF rfl rfl rfl a9<|aa<|Xp<|La 5 rfl rfl a9<|Ca rfl (psq _)<|Ca rfl (DO _ hq)<|Mv rfl<|Ext rfl rfl<|Ext rfl rfl<|Al 6 hGF zv29<|fun b6=>Sa 6 hGF rfl rfl rfl a9<|Asg rfl<|aa<|ah<|Xp<|Mv rfl<|bT rfl (fun _=>bI _) rfl rfl<|aa<|bf rfl<|Xp<|La 4 rfl rfl a9<|La 5 rfl rfl a9<|?_
 refine Ca rfl (gt (zu2 u) (x1O u))<|Sa 5 hGF rfl rfl rfl a9<|aa<|Xq<|La 5 rfl rfl a9<|Ca rfl (psq _)<|Ca rfl (vz _ r hr hl)<|Mv rfl<|Ext rfl rfl<|Ext rfl rfl<|Sa 6 hGF rfl rfl rfl a9<|aa<|Xd []<|La 5 rfl rfl a9<|La 6 rfl rfl a9<|La 1 rfl rfl a9<|Ca rfl (rN _)<|Ca rfl (wh r u)<|Sa 2 hGF rfl rfl rfl a9<|Sa 3 hGF rfl rfl rfl a9<|aa<|aq<|Rr<|?_
 exact g6 2 3 rfl rfl rfl rfl rfl isAgg29 sizeOf29 (by simp) (by simp) (fun w hw=>⟨rfl,ac hw⟩)
theorem pswu{u x r:W2}(h:SwR u x r):Pure Tryz.prog Gt 101 [EV2 u] (.tuple #[EV2 x,EV2 (sgS r u)]):=by
 obtain ⟨hr,hl,rfl|⟨hq,rfl⟩⟩:=h
 ·exact GU u r hr hl
 ·exact JS u r hq hr hl
end
section
open Go.RowKit
attribute [local simp] bp bQ aI aB bj bc aX aW bv PLl eK eI N1l eP eU eW bJ bV bY bX cH eT
theorem ra  :Pure Tryz.prog Gt 116 [] (EV2 OA):=pE TO72 func116 [] (.inl (.inl [OA.1,OA.2])) (let t0:=sm2 (0#64) (240#64);(.inl (.inl [t0.1,t0.2]),[])) [] (by kernel_rfl) aD rfl
def TO73:Tb Tryz.prog Gt:=TO72.add (kX (g:=OA) ent116 ra)
theorem Ap  :Pure Tryz.prog Gt 115 [] (EV2 OB):=pE TO73 func115 [] (.inl (.inl [OB.1,OB.2])) (let t0:=sm2 (1012#64) (1012#64);(.inl (.inl [t0.1,t0.2]),[])) [] (by kernel_rfl) aD rfl
def TO74:Tb Tryz.prog Gt:=TO73.add (kX (g:=OB) ent115 Ap)
theorem rz  :Pure Tryz.prog Gt 113 [] (EV2 OZ):=pE TO74 func113 [] (.inl (.inl [OZ.1,OZ.2])) (let t0:=sm2 (2#64) (1#64);let t1:=ng2 (t0.1,t0.2);(.inl (.inl [t1.1,t1.2]),[])) [] (by kernel_rfl) aD rfl
def TO75:Tb Tryz.prog Gt:=TO74.add (kX (g:=OZ) ent113 rz)
theorem rG(x:W2):Pure Tryz.prog Gt 117 [EV2 x] (EV2 (gO x)):=pE TO75 func117 [.inl [x.1,x.2]] (.inl (.inl [(gO x).1,(gO x).2])) (let t0:=ml2 x x;let t1:=ml2 (t0.1,t0.2) x;let t2:=OA;let t3:=ml2 (t2.1,t2.2) x;let t4:=ad2 (t1.1,t1.2) (t3.1,t3.2);let t5:=OB;let t6:=ad2 (t4.1,t4.2) (t5.1,t5.2);(.inl (.inl [t6.1,t6.2]),[])) [] (by kernel_rfl) aD rfl
theorem Jk(u r:W2)(hr:ml2 r r=gO (x1O u))(hl:LG2 r=false):Pure Tryz.prog Gt 65 [EV2 u] (.tuple #[EV2 (x1O u),EV2 (sgS r u)]):=by
 intro w hw
 refine Hf func65 rfl hw<|fun hGF=>Xp<|Bx 1 hGF rfl<|fun b1=>Al 2 hGF zv39<|fun b2=>Al 3 hGF zv39<|fun b3=>aa<|Xa [0,1,2,3,4] ⟨5,4,39,(fe 0++fe 0).map U64⟩ [6] (cB rfl zv39 rfl)<|Ca rfl (rz)<|La 1 rfl rfl bw<|Ca rfl (ek _ _)<|La 1 rfl rfl bw<|Ca rfl (show Pure Tryz.prog Gt 66 [EV2 (ml2 OZ u),EV2 u] (EV2 (zu2 u))from ek (ml2 OZ u) u)<|aa<|?_
 refine ⟨_,_,rfl,hGF,by intro x hx;simp only[List.mem_cons,List.not_mem_nil,or_false]at hx;subst hx;rfl,by intro x hx;simp only[List.mem_cons,List.not_mem_nil,or_false]at hx;subst hx;rfl,fun adr1=> ?_⟩
 refine Sa 4 hGF rfl rfl rfl bw<|aa<|Xa [0,1,2,3,4] ⟨5,5,39,(fe 0++fe 0).map U64⟩ [6] (cB rfl zv39 rfl)<|La 4 rfl rfl bw<|La 4 rfl rfl bw<|Ca rfl (ek _ _)<|La 4 rfl rfl bw<|Ca rfl (show Pure Tryz.prog Gt 114 [EV2 (ml2 (zu2 u) (zu2 u)),EV2 (zu2 u)] (EV2 (tu2 u))from oh _ _)<|aa<|?_
 refine ⟨_,_,rfl,hGF,by intro x hx;simp only[List.mem_cons,List.not_mem_nil,or_false]at hx;subst hx;rfl,by intro x hx;simp only[List.mem_cons,List.not_mem_nil,or_false]at hx;subst hx;rfl,fun adr2=> ?_⟩
 refine Sa 5 hGF rfl rfl rfl bw<|aa<|Xp<|Al 6 hGF zv39<|fun b6=>aa<|?_
 refine f8 (ι:=Unit) (fun _=>[(1,.pointer (some ⟨b1,0,none⟩)),(2,.pointer (some ⟨b2,0,none⟩)),(3,.pointer (some ⟨b3,0,none⟩)),(4,.pointer (some ⟨(adr1 4),0,none⟩)),(6,.pointer (some ⟨b6,0,none⟩))]) (fun _=>[(1,b1,(fe (u).1++fe (u).2).map U64,39),(2,b2,(fe 0++fe 0).map U64,39),(3,b3,(fe 0++fe 0).map U64,39),(4,adr1 4,(fe (zu2 u).1++fe (zu2 u).2).map U64,39),(6,b6,(fe (x1O u).1++fe (x1O u).2).map U64,39)]) hGF ?_ ?_
 ·refine Xp<|La 5 rfl rfl bw<|Ca rfl (iD _)<|aa<|?_
  refine ba rfl (fun hc=> ?_) (fun hc=> ?_)
  ·have ht:tu2 u=ze2:=of_decide_eq_true hc
   refine Xq<|Ca rfl (Ap)<|Ca rfl (rz)<|Ca rfl (ra)<|Ca rfl (ek _ _)<|Ca rfl (kj _)<|Ca rfl (ek _ _)<|Sa 6 hGF rfl rfl rfl bw<|aa<|aA<|?_
   exact ⟨rfl,(),_,rfl,⟨rfl,rfl,rfl,rfl,rfl,trivial⟩,⟨rfl,rfl,rfl,rfl,by rw[show x1O u=_ from if_pos ht]<;>rfl,trivial⟩⟩
  ·have ht: ¬tu2 u=ze2:=of_decide_eq_false hc
   refine Xe []<|Ca rfl (Ap)<|Ca rfl (nX _)<|Ca rfl (ra)<|Ca rfl (kj _)<|Ca rfl (ek _ _)<|Ca rfl (rA)<|La 5 rfl rfl bw<|Ca rfl (kj _)<|Ca rfl (oh _ _)<|Ca rfl (ek _ _)<|Sa 6 hGF rfl rfl rfl bw<|aa<|aA<|?_
   exact ⟨rfl,(),_,rfl,⟨rfl,rfl,rfl,rfl,rfl,trivial⟩,⟨rfl,rfl,rfl,rfl,by rw[show x1O u=_ from if_neg ht]<;>rfl,trivial⟩⟩
 ·intro _
  refine Xp<|La 6 rfl rfl bw<|Ca rfl (rG _)<|Ca rfl (uP _ r hr hl)<|Mv rfl<|Ext rfl rfl<|Ext rfl rfl<|Al 7 hGF zv39<|fun b7=>Sa 7 hGF rfl rfl rfl bw<|Asg rfl<|aa<|ah<|Xp<|Mv rfl<|bT rfl (fun _=>bI _) rfl rfl<|aa<|aV rfl<|au<|ah<|Xd []<|La 7 rfl rfl bw<|Ca rfl (qx _)<|La 1 rfl rfl bw<|Ca rfl (qx _)<|Bnr rfl rfl (fun _=>bK _ _ _)<|aa<|?_
  refine ba rfl (fun hc=> ?_) (fun hc=> ?_)
  ·have hs: ¬SG2 r=SG2 u:=bne_iff_ne.1 hc
   refine Xq<|La 7 rfl rfl bw<|Ca rfl (nX _)<|Sa 7 hGF rfl rfl rfl bw<|aa<|iG (E:=EE []) (fun X=>X=Hp (pl w) [(7,b7,(fe (ng2 r).1++fe (ng2 r).2).map U64,39)]) (mkB [2]) (rkB [62]) [0,1,2,3] eH rfl (by kernel_rfl) (by kernel_rfl) (by kernel_rfl)<|qU rfl rfl<|La 6 rfl rfl bw<|aa<|mR (X:=Hp (pl w) [(7,b7,(fe (ng2 r).1++fe (ng2 r).2).map U64,39)]) rfl (dv ao ⟨rfl,trivial⟩) (fun _=>rfl)<|La 7 rfl rfl bw<|aa<|iM rfl<|Sa 2 hGF rfl rfl rfl bw<|aa<|?_
   refine ⟨fun _ X hX _=>by subst hX;exact dv ao ⟨rfl,trivial⟩, ?_⟩
   refine iM rfl<|Sa 3 hGF rfl rfl rfl bw<|aa<|?_
   refine ⟨fun h=>(by cases h), ?_⟩
   refine iV<|aq<|Rr<|?_
   exact g6 2 3 rfl rfl rfl rfl rfl isAgg39 sizeOf39 (by simp) (by simp) (fun w hw=>⟨by rw[show sgS r u=_ from if_neg hs],ac hw⟩)
  ·have hs:SG2 r=SG2 u:=Decidable.byContradiction fun e=>(by rw[bne_iff_ne.2 e]at hc;cases hc)
   refine au<|iG (E:=EE []) (fun X=>X=Hp (pl w) [(7,b7,(fe (r).1++fe (r).2).map U64,39)]) (mkB [2]) (rkB [62]) [0,1,2,3] eH rfl (by kernel_rfl) (by kernel_rfl) (by kernel_rfl)<|qU rfl rfl<|La 6 rfl rfl bw<|aa<|mR (X:=Hp (pl w) [(7,b7,(fe (r).1++fe (r).2).map U64,39)]) rfl (dv ao ⟨rfl,trivial⟩) (fun _=>rfl)<|La 7 rfl rfl bw<|aa<|iM rfl<|Sa 2 hGF rfl rfl rfl bw<|aa<|?_
   refine ⟨fun _ X hX _=>by subst hX;exact dv ao ⟨rfl,trivial⟩, ?_⟩
   refine iM rfl<|Sa 3 hGF rfl rfl rfl bw<|aa<|?_
   refine ⟨fun h=>(by cases h), ?_⟩
   refine iV<|aq<|Rr<|?_
   exact g6 2 3 rfl rfl rfl rfl rfl isAgg39 sizeOf39 (by simp) (by simp) (fun w hw=>⟨by rw[show sgS r u=_ from if_pos hs],ac hw⟩)
theorem JF(u r:W2)(hq: ¬IsQ (nm2 (gO (x1O u))))(hr:ml2 r r=gO (ml2 (zu2 u) (x1O u)))(hl:LG2 r=false):Pure Tryz.prog Gt 65 [EV2 u] (.tuple #[EV2 (ml2 (zu2 u) (x1O u)),EV2 (sgS r u)]):=by
 intro w hw
 refine Hf func65 rfl hw<|fun hGF=>Xp<|Bx 1 hGF rfl<|fun b1=>Al 2 hGF zv39<|fun b2=>Al 3 hGF zv39<|fun b3=>aa<|Xa [0,1,2,3,4] ⟨5,4,39,(fe 0++fe 0).map U64⟩ [6] (cB rfl zv39 rfl)<|Ca rfl (rz)<|La 1 rfl rfl bw<|Ca rfl (ek _ _)<|La 1 rfl rfl bw<|Ca rfl (show Pure Tryz.prog Gt 66 [EV2 (ml2 OZ u),EV2 u] (EV2 (zu2 u))from ek (ml2 OZ u) u)<|aa<|?_
 refine ⟨_,_,rfl,hGF,by intro x hx;simp only[List.mem_cons,List.not_mem_nil,or_false]at hx;subst hx;rfl,by intro x hx;simp only[List.mem_cons,List.not_mem_nil,or_false]at hx;subst hx;rfl,fun adr1=> ?_⟩
 refine Sa 4 hGF rfl rfl rfl bw<|aa<|Xa [0,1,2,3,4] ⟨5,5,39,(fe 0++fe 0).map U64⟩ [6] (cB rfl zv39 rfl)<|La 4 rfl rfl bw<|La 4 rfl rfl bw<|Ca rfl (ek _ _)<|La 4 rfl rfl bw<|Ca rfl (show Pure Tryz.prog Gt 114 [EV2 (ml2 (zu2 u) (zu2 u)),EV2 (zu2 u)] (EV2 (tu2 u))from oh _ _)<|aa<|?_
 refine ⟨_,_,rfl,hGF,by intro x hx;simp only[List.mem_cons,List.not_mem_nil,or_false]at hx;subst hx;rfl,by intro x hx;simp only[List.mem_cons,List.not_mem_nil,or_false]at hx;subst hx;rfl,fun adr2=> ?_⟩
 refine Sa 5 hGF rfl rfl rfl bw<|aa<|Xp<|Al 6 hGF zv39<|fun b6=>aa<|?_
 refine f8 (ι:=Unit) (fun _=>[(1,.pointer (some ⟨b1,0,none⟩)),(2,.pointer (some ⟨b2,0,none⟩)),(3,.pointer (some ⟨b3,0,none⟩)),(4,.pointer (some ⟨(adr1 4),0,none⟩)),(6,.pointer (some ⟨b6,0,none⟩))]) (fun _=>[(1,b1,(fe (u).1++fe (u).2).map U64,39),(2,b2,(fe 0++fe 0).map U64,39),(3,b3,(fe 0++fe 0).map U64,39),(4,adr1 4,(fe (zu2 u).1++fe (zu2 u).2).map U64,39),(6,b6,(fe (x1O u).1++fe (x1O u).2).map U64,39)]) hGF ?_ ?_
 ·refine Xp<|La 5 rfl rfl bw<|Ca rfl (iD _)<|aa<|?_
  refine ba rfl (fun hc=> ?_) (fun hc=> ?_)
  ·have ht:tu2 u=ze2:=of_decide_eq_true hc
   refine Xq<|Ca rfl (Ap)<|Ca rfl (rz)<|Ca rfl (ra)<|Ca rfl (ek _ _)<|Ca rfl (kj _)<|Ca rfl (ek _ _)<|Sa 6 hGF rfl rfl rfl bw<|aa<|aA<|?_
   exact ⟨rfl,(),_,rfl,⟨rfl,rfl,rfl,rfl,rfl,trivial⟩,⟨rfl,rfl,rfl,rfl,by rw[show x1O u=_ from if_pos ht]<;>rfl,trivial⟩⟩
  ·have ht: ¬tu2 u=ze2:=of_decide_eq_false hc
   refine Xe []<|Ca rfl (Ap)<|Ca rfl (nX _)<|Ca rfl (ra)<|Ca rfl (kj _)<|Ca rfl (ek _ _)<|Ca rfl (rA)<|La 5 rfl rfl bw<|Ca rfl (kj _)<|Ca rfl (oh _ _)<|Ca rfl (ek _ _)<|Sa 6 hGF rfl rfl rfl bw<|aa<|aA<|?_
   exact ⟨rfl,(),_,rfl,⟨rfl,rfl,rfl,rfl,rfl,trivial⟩,⟨rfl,rfl,rfl,rfl,by rw[show x1O u=_ from if_neg ht]<;>rfl,trivial⟩⟩
 ·intro _
  refine Xp<|La 6 rfl rfl bw<|Ca rfl (rG _)<|Ca rfl (EN _ hq)<|Mv rfl<|Ext rfl rfl<|Ext rfl rfl<|Al 7 hGF zv39<|fun b7=>Sa 7 hGF rfl rfl rfl bw<|Asg rfl<|aa<|ah<|Xp<|Mv rfl<|bT rfl (fun _=>bI _) rfl rfl<|aa<|bf rfl<|Xp<|La 4 rfl rfl bw<|La 6 rfl rfl bw<|Ca rfl (ek _ _)<|Sa 6 hGF rfl rfl rfl bw<|aa<|Xq<|La 6 rfl rfl bw<|Ca rfl (rG _)<|Ca rfl (uP _ r hr hl)<|Mv rfl<|Ext rfl rfl<|Ext rfl rfl<|Sa 7 hGF rfl rfl rfl bw<|aa<|ah<|Xd []<|La 7 rfl rfl bw<|Ca rfl (qx _)<|La 1 rfl rfl bw<|Ca rfl (qx _)<|Bnr rfl rfl (fun _=>bK _ _ _)<|aa<|?_
  refine ba rfl (fun hc=> ?_) (fun hc=> ?_)
  ·have hs: ¬SG2 r=SG2 u:=bne_iff_ne.1 hc
   refine Xq<|La 7 rfl rfl bw<|Ca rfl (nX _)<|Sa 7 hGF rfl rfl rfl bw<|aa<|iG (E:=EE []) (fun X=>X=Hp (pl w) [(7,b7,(fe (ng2 r).1++fe (ng2 r).2).map U64,39)]) (mkB [2]) (rkB [62]) [0,1,2,3] eH rfl (by kernel_rfl) (by kernel_rfl) (by kernel_rfl)<|qU rfl rfl<|La 6 rfl rfl bw<|aa<|mR (X:=Hp (pl w) [(7,b7,(fe (ng2 r).1++fe (ng2 r).2).map U64,39)]) rfl (dv ao ⟨rfl,trivial⟩) (fun _=>rfl)<|La 7 rfl rfl bw<|aa<|iM rfl<|Sa 2 hGF rfl rfl rfl bw<|aa<|?_
   refine ⟨fun _ X hX _=>by subst hX;exact dv ao ⟨rfl,trivial⟩, ?_⟩
   refine iM rfl<|Sa 3 hGF rfl rfl rfl bw<|aa<|?_
   refine ⟨fun h=>(by cases h), ?_⟩
   refine iV<|aq<|Rr<|?_
   exact g6 2 3 rfl rfl rfl rfl rfl isAgg39 sizeOf39 (by simp) (by simp) (fun w hw=>⟨by rw[show sgS r u=_ from if_neg hs],ac hw⟩)
  ·have hs:SG2 r=SG2 u:=Decidable.byContradiction fun e=>(by rw[bne_iff_ne.2 e]at hc;cases hc)
   refine au<|iG (E:=EE []) (fun X=>X=Hp (pl w) [(7,b7,(fe (r).1++fe (r).2).map U64,39)]) (mkB [2]) (rkB [62]) [0,1,2,3] eH rfl (by kernel_rfl) (by kernel_rfl) (by kernel_rfl)<|qU rfl rfl<|La 6 rfl rfl bw<|aa<|mR (X:=Hp (pl w) [(7,b7,(fe (r).1++fe (r).2).map U64,39)]) rfl (dv ao ⟨rfl,trivial⟩) (fun _=>rfl)<|La 7 rfl rfl bw<|aa<|iM rfl<|Sa 2 hGF rfl rfl rfl bw<|aa<|?_
   refine ⟨fun _ X hX _=>by subst hX;exact dv ao ⟨rfl,trivial⟩, ?_⟩
   refine iM rfl<|Sa 3 hGF rfl rfl rfl bw<|aa<|?_
   refine ⟨fun h=>(by cases h), ?_⟩
   refine iV<|aq<|Rr<|?_
   exact g6 2 3 rfl rfl rfl rfl rfl isAgg39 sizeOf39 (by simp) (by simp) (fun w hw=>⟨by rw[show sgS r u=_ from if_pos hs],ac hw⟩)
theorem rswu{u x r:W2}(h:SwR u x r):Pure Tryz.prog Gt 65 [EV2 u] (.tuple #[EV2 x,EV2 (sgS r u)]):=by
 obtain ⟨hr,hl,rfl|⟨hq,rfl⟩⟩:=h
 ·exact Jk u r hr hl
 ·exact JF u r hq hr hl
end
section
open Go.RowKit
attribute [local simp] bp bQ aI aB bj bc aX aW bv PLl eK eI N1l eP eU eW bJ bV bY bX cH eT cb
theorem Ke(a b:Zp):Pure Tryz.prog Gt 61 [NV (nm a),NV (nm b)] (EV2 (a,b)):=by
 intro w hw
 refine Hf func61 rfl hw<|fun hGF=>Xp<|Bx 2 hGF rfl<|fun b2=>Bx 3 hGF rfl<|fun b3=>Al 4 hGF zv39<|fun b4=>aa<|Xd []<|La 2 rfl rfl bu<|Ca rfl (GM _)<|La 3 rfl rfl bu<|Ca rfl (GM _)<|cq n8 rfl rfl (by simp) (by simp) rfl rfl<|Sa 4 hGF rfl rfl rfl bw<|aa<|aq<|Rr<|?_
 exact aw 4 rfl rfl rfl isAgg39 sizeOf39 (by simp) (fun w hw=>⟨rfl,ac hw⟩)
theorem iO(a b:Zp):Pure Tryz.prog Gt 108 [NV (nm a),NV (nm b)] (EV2 (a,b)):=by
 intro w hw
 refine Hf func108 rfl hw<|fun hGF=>Xp<|Bx 2 hGF rfl<|fun b2=>Bx 3 hGF rfl<|fun b3=>Al 4 hGF zv39<|fun b4=>aa<|Xp<|La 2 rfl rfl bu<|La 3 rfl rfl bu<|Ca rfl (Ke _ _)<|Sa 4 hGF rfl rfl rfl bw<|aa<|aq<|Rr<|?_
 exact aw 4 rfl rfl rfl isAgg39 sizeOf39 (by simp) (fun w hw=>⟨rfl,ac hw⟩)
theorem m7(a b:BitVec 64):Pure Tryz.prog Gt 109 [U64 a,U64 b] (EV2 (ng2 (sm2 a b))):=by
 intro w hw
 refine Hf func109 rfl hw<|fun hGF=>Xp<|Al 4 hGF zv39<|fun b4=>aa<|Xp<|Mv rfl<|Mv rfl<|Ca rfl (vr _ _)<|Ca rfl (nX _)<|Sa 4 hGF rfl rfl rfl bw<|aa<|aq<|Rr<|?_
 exact aw 4 rfl rfl rfl isAgg39 sizeOf39 (by simp) (fun w hw=>⟨rfl,ac hw⟩)
def cXN:Nat→W2
 |0=>(zp 0x5c759507e8e333ebb5b7a9a47d7ed8532c52d39fd3a042a88b58423c50ae15d5c2638e343d9c71c6238aaaaaaaa97d6,zp 0x5c759507e8e333ebb5b7a9a47d7ed8532c52d39fd3a042a88b58423c50ae15d5c2638e343d9c71c6238aaaaaaaa97d6)
 |1=>(0,zp 0x11560bf17baa99bc32126fced787c88f984f87adf7ae0c7f9a208c6b4f20a4181472aaa9cb8d555526a9ffffffffc71a)
 |2=>(zp 0x11560bf17baa99bc32126fced787c88f984f87adf7ae0c7f9a208c6b4f20a4181472aaa9cb8d555526a9ffffffffc71e,zp 0x8ab05f8bdd54cde190937e76bc3e447cc27c3d6fbd7063fcd104635a790520c0a395554e5c6aaaa9354ffffffffe38d)
 |_=>(zp 0x171d6541fa38ccfaed6dea691f5fb614cb14b4e7f4e810aa22d6108f142b85757098e38d0f671c7188e2aaaaaaaa5ed1,0)
theorem Km:iXN=[cXN 0,cXN 1,cXN 2,cXN 3]:=rfl
theorem Ns:nm (zp 0x5c759507e8e333ebb5b7a9a47d7ed8532c52d39fd3a042a88b58423c50ae15d5c2638e343d9c71c6238aaaaaaaa97d6)=[7077594464397203414#64,6640057249351452444#64,9850925049107374429#64,3658379999393219626#64,13500519111022079365#64,416399692810564414#64]:=by decide+kernel
theorem AD:Pure Tryz.prog Gt 108 [NV [7077594464397203414#64,6640057249351452444#64,9850925049107374429#64,3658379999393219626#64,13500519111022079365#64,416399692810564414#64],NV [7077594464397203414#64,6640057249351452444#64,9850925049107374429#64,3658379999393219626#64,13500519111022079365#64,416399692810564414#64]] (EV2 (cXN 0)):=by
 have h:=iO (zp 0x5c759507e8e333ebb5b7a9a47d7ed8532c52d39fd3a042a88b58423c50ae15d5c2638e343d9c71c6238aaaaaaaa97d6) (zp 0x5c759507e8e333ebb5b7a9a47d7ed8532c52d39fd3a042a88b58423c50ae15d5c2638e343d9c71c6238aaaaaaaa97d6)
 rw[Ns]at h
 exact h
theorem we:nm (0)=[0#64,0#64,0#64,0#64,0#64,0#64]:=by decide+kernel
theorem Ky:nm (zp 0x11560bf17baa99bc32126fced787c88f984f87adf7ae0c7f9a208c6b4f20a4181472aaa9cb8d555526a9ffffffffc71a)=[2786039319482058522#64,1473427674344805717#64,11106031073612571672#64,10975139998179658879#64,3608069185647134863#64,1249199078431693244#64]:=by decide+kernel
theorem Bc:Pure Tryz.prog Gt 108 [NV [0#64,0#64,0#64,0#64,0#64,0#64],NV [2786039319482058522#64,1473427674344805717#64,11106031073612571672#64,10975139998179658879#64,3608069185647134863#64,1249199078431693244#64]] (EV2 (cXN 1)):=by
 have h:=iO (0) (zp 0x11560bf17baa99bc32126fced787c88f984f87adf7ae0c7f9a208c6b4f20a4181472aaa9cb8d555526a9ffffffffc71a)
 rw[we,Ky]at h
 exact h
theorem Nu:nm (zp 0x11560bf17baa99bc32126fced787c88f984f87adf7ae0c7f9a208c6b4f20a4181472aaa9cb8d555526a9ffffffffc71e)=[2786039319482058526#64,1473427674344805717#64,11106031073612571672#64,10975139998179658879#64,3608069185647134863#64,1249199078431693244#64]:=by decide+kernel
theorem Kr:nm (zp 0x8ab05f8bdd54cde190937e76bc3e447cc27c3d6fbd7063fcd104635a790520c0a395554e5c6aaaa9354ffffffffe38d)=[10616391696595805069#64,736713837172402858#64,14776387573661061644#64,14710942035944605247#64,1804034592823567431#64,624599539215846622#64]:=by decide+kernel
theorem BH:Pure Tryz.prog Gt 108 [NV [2786039319482058526#64,1473427674344805717#64,11106031073612571672#64,10975139998179658879#64,3608069185647134863#64,1249199078431693244#64],NV [10616391696595805069#64,736713837172402858#64,14776387573661061644#64,14710942035944605247#64,1804034592823567431#64,624599539215846622#64]] (EV2 (cXN 2)):=by
 have h:=iO (zp 0x11560bf17baa99bc32126fced787c88f984f87adf7ae0c7f9a208c6b4f20a4181472aaa9cb8d555526a9ffffffffc71e) (zp 0x8ab05f8bdd54cde190937e76bc3e447cc27c3d6fbd7063fcd104635a790520c0a395554e5c6aaaa9354ffffffffe38d)
 rw[Nu,Kr]at h
 exact h
theorem Mm:nm (zp 0x171d6541fa38ccfaed6dea691f5fb614cb14b4e7f4e810aa22d6108f142b85757098e38d0f671c7188e2aaaaaaaa5ed1)=[9863633783879261905#64,8113484923696258161#64,2510212049010394485#64,14633519997572878506#64,17108588296669214228#64,1665598771242257658#64]:=by decide+kernel
theorem BO:Pure Tryz.prog Gt 108 [NV [9863633783879261905#64,8113484923696258161#64,2510212049010394485#64,14633519997572878506#64,17108588296669214228#64,1665598771242257658#64],NV [0#64,0#64,0#64,0#64,0#64,0#64]] (EV2 (cXN 3)):=by
 have h:=iO (zp 0x171d6541fa38ccfaed6dea691f5fb614cb14b4e7f4e810aa22d6108f142b85757098e38d0f671c7188e2aaaaaaaa5ed1) (0)
 rw[Mm,we]at h
 exact h
def cYN:Nat→W2
 |0=>(zp 0x1530477c7ab4113b59a4c18b076d11930f7da5d4a07f649bf54439d87d27e500fc8c25ebf8c92f6812cfc71c71c6d706,zp 0x1530477c7ab4113b59a4c18b076d11930f7da5d4a07f649bf54439d87d27e500fc8c25ebf8c92f6812cfc71c71c6d706)
 |1=>(0,zp 0x5c759507e8e333ebb5b7a9a47d7ed8532c52d39fd3a042a88b58423c50ae15d5c2638e343d9c71c6238aaaaaaaa97be)
 |2=>(zp 0x11560bf17baa99bc32126fced787c88f984f87adf7ae0c7f9a208c6b4f20a4181472aaa9cb8d555526a9ffffffffc71c,zp 0x8ab05f8bdd54cde190937e76bc3e447cc27c3d6fbd7063fcd104635a790520c0a395554e5c6aaaa9354ffffffffe38f)
 |_=>(zp 0x124c9ad43b6cf79bfbf7043de3811ad0761b0f37a1e26286b0e977c69aa274524e79097a56dc4bd9e1b371c71c718b10,0)
theorem MD:iYN=[cYN 0,cYN 1,cYN 2,cYN 3]:=rfl
theorem Mj:nm (zp 0x1530477c7ab4113b59a4c18b076d11930f7da5d4a07f649bf54439d87d27e500fc8c25ebf8c92f6812cfc71c71c6d706)=[1355520937843676934#64,18197961889718808424#64,17673314439684154624#64,1116230615302104219#64,6459500568425337235#64,1526798873638736187#64]:=by decide+kernel
theorem z9:Pure Tryz.prog Gt 108 [NV [1355520937843676934#64,18197961889718808424#64,17673314439684154624#64,1116230615302104219#64,6459500568425337235#64,1526798873638736187#64],NV [1355520937843676934#64,18197961889718808424#64,17673314439684154624#64,1116230615302104219#64,6459500568425337235#64,1526798873638736187#64]] (EV2 (cYN 0)):=by
 have h:=iO (zp 0x1530477c7ab4113b59a4c18b076d11930f7da5d4a07f649bf54439d87d27e500fc8c25ebf8c92f6812cfc71c71c6d706) (zp 0x1530477c7ab4113b59a4c18b076d11930f7da5d4a07f649bf54439d87d27e500fc8c25ebf8c92f6812cfc71c71c6d706)
 rw[Mj]at h
 exact h
theorem MW:nm (zp 0x5c759507e8e333ebb5b7a9a47d7ed8532c52d39fd3a042a88b58423c50ae15d5c2638e343d9c71c6238aaaaaaaa97be)=[7077594464397203390#64,6640057249351452444#64,9850925049107374429#64,3658379999393219626#64,13500519111022079365#64,416399692810564414#64]:=by decide+kernel
theorem yh:Pure Tryz.prog Gt 108 [NV [0#64,0#64,0#64,0#64,0#64,0#64],NV [7077594464397203390#64,6640057249351452444#64,9850925049107374429#64,3658379999393219626#64,13500519111022079365#64,416399692810564414#64]] (EV2 (cYN 1)):=by
 have h:=iO (0) (zp 0x5c759507e8e333ebb5b7a9a47d7ed8532c52d39fd3a042a88b58423c50ae15d5c2638e343d9c71c6238aaaaaaaa97be)
 rw[we,MW]at h
 exact h
theorem M5:nm (zp 0x11560bf17baa99bc32126fced787c88f984f87adf7ae0c7f9a208c6b4f20a4181472aaa9cb8d555526a9ffffffffc71c)=[2786039319482058524#64,1473427674344805717#64,11106031073612571672#64,10975139998179658879#64,3608069185647134863#64,1249199078431693244#64]:=by decide+kernel
theorem LZ:nm (zp 0x8ab05f8bdd54cde190937e76bc3e447cc27c3d6fbd7063fcd104635a790520c0a395554e5c6aaaa9354ffffffffe38f)=[10616391696595805071#64,736713837172402858#64,14776387573661061644#64,14710942035944605247#64,1804034592823567431#64,624599539215846622#64]:=by decide+kernel
theorem zz:Pure Tryz.prog Gt 108 [NV [2786039319482058524#64,1473427674344805717#64,11106031073612571672#64,10975139998179658879#64,3608069185647134863#64,1249199078431693244#64],NV [10616391696595805071#64,736713837172402858#64,14776387573661061644#64,14710942035944605247#64,1804034592823567431#64,624599539215846622#64]] (EV2 (cYN 2)):=by
 have h:=iO (zp 0x11560bf17baa99bc32126fced787c88f984f87adf7ae0c7f9a208c6b4f20a4181472aaa9cb8d555526a9ffffffffc71c) (zp 0x8ab05f8bdd54cde190937e76bc3e447cc27c3d6fbd7063fcd104635a790520c0a395554e5c6aaaa9354ffffffffe38f)
 rw[M5,LZ]at h
 exact h
theorem HQ:nm (zp 0x124c9ad43b6cf79bfbf7043de3811ad0761b0f37a1e26286b0e977c69aa274524e79097a56dc4bd9e1b371c71c718b10)=[16263467779354626832#64,5654561228188306393#64,12747851915130467410#64,8510412652460270214#64,18155985086623849168#64,1318599027233453979#64]:=by decide+kernel
theorem Au:Pure Tryz.prog Gt 108 [NV [16263467779354626832#64,5654561228188306393#64,12747851915130467410#64,8510412652460270214#64,18155985086623849168#64,1318599027233453979#64],NV [0#64,0#64,0#64,0#64,0#64,0#64]] (EV2 (cYN 3)):=by
 have h:=iO (zp 0x124c9ad43b6cf79bfbf7043de3811ad0761b0f37a1e26286b0e977c69aa274524e79097a56dc4bd9e1b371c71c718b10) (0)
 rw[HQ,we]at h
 exact h
def cXD:Nat→W2
 |0=>ng2 (sm2 0#64 72#64)
 |1=>(zp 12,-zp 12)
 |_=>on2
def cYD:Nat→W2
 |0=>ng2 (sm2 432#64 432#64)
 |1=>ng2 (sm2 0#64 216#64)
 |2=>(zp 18,-zp 18)
 |_=>on2
theorem Ma:iXD=[cXD 0,cXD 1,cXD 2]:=by decide+kernel
theorem My:iYD=[cYD 0,cYD 1,cYD 2,cYD 3]:=by decide+kernel
def RPr(f:Nat→W2)(i:Nat):List (BitVec 64):=fe (f i).1++fe (f i).2
theorem cw(f:Nat→W2)(i:Nat):(RPr f i).length=12:=by simp[RPr]
attribute [local simp] cw
theorem lV(n:Nat)(f:Nat→W2)(x:W2)(b cap:Nat)(hn:n≤1000)(w:World)(hw:Gt w)(h:w.rangeAt b 0 ((RW 12 (RPr f) n).map U64)):
 Calls Tryz.prog 107 [.slice (some ⟨b,0,none⟩) n cap,EV2 x].toArray w (fun r w'=>r=.returned (EV2 (HK (fun k=>f (n-1-k)) x n))∧Grow w w'):=by
 refine Hf func107 rfl hw<|fun hGF=>Xp<|Bx 3 hGF rfl<|fun b3=>Al 4 hGF zv39<|fun b4=>aa<|Xp<|Al 5 hGF zv39<|fun b5=>aa<|ah<|Xp<|Mv rfl<|aZ rfl (fun _=>aC underlying69 _ _ _ _) rfl rfl<|Bnr (v:=I ((n:Int)-1-((0:Nat):Int))) rfl rfl (fun _=>(aL _ _ _ (by unfold inI;omega)).trans (by rw[show (n:Int)-1-((0:Nat):Int)=(n:Int)-1 by omega]))<|Asg rfl<|aa<|ai<|bg (ι:={i:Nat // i≤n}) (fun y=>[(0,.slice (some ⟨b,0,none⟩) n cap),(3,.pointer (some ⟨b3,0,none⟩)),(4,.pointer (some ⟨b4,0,none⟩)),(5,.pointer (some ⟨b5,0,none⟩)),(6,I ((n:Int)-1-(y.1:Int)))]) (fun y=>[(3,b3,(fe (x).1++fe (x).2).map U64,39),(4,b4,(fe 0++fe 0).map U64,39),(5,b5,(fe (HK (fun k=>f (n-1-k)) x y.1).1++fe (HK (fun k=>f (n-1-k)) x y.1).2).map U64,39)]) (fun y=>n-y.1) ⟨0,Nat.zero_le _⟩ hGF ⟨rfl,rfl,rfl,rfl,rfl,trivial⟩ ⟨rfl,rfl,rfl,trivial⟩<|?_
 rintro ⟨j,hj⟩
 dsimp only
 refine ah<|Xp<|Mv rfl<|bO (v:=.bool (decide ((0:Int)≤((n:Int)-1-(j:Int))))) rfl rfl (fun _=>rfl) (fun _=>cS _ _ _) rfl rfl<|aa<|?_
 refine ba rfl (fun hc=> ?_) (fun hc=> ?_)
 ·have hj2:j<n:=by have:=of_decide_eq_true hc;omega
  refine au<|ah<|ai<|Xe []<|La 5 rfl rfl bw<|La 3 rfl rfl bw<|Ca rfl (ek _ _)<|Mv rfl<|Mv rfl<|mW (s:=12) (n-1-j) rfl rfl underlying69 sizeOf39 (by omega) (by omega) rfl rfl<|dB (cs:=(RPr f (n-1-j)).map U64) rfl isAgg39 sizeOf39 (by simp) (fun w' h'=>kC (iE h (fun h=>h) w' h') (by omega) (cw _ _)) rfl rfl<|Ca rfl (oh _ (f (n-1-j)))<|Sa 5 hGF rfl rfl rfl bw<|aa<|Xq<|Mv rfl<|Bnr (v:=I ((n:Int)-1-((j+1:Nat):Int))) rfl rfl (fun _=>(aL _ _ _ (by unfold inI;omega)).trans (by rw[show (n:Int)-1-((j+1:Nat):Int)=(n:Int)-1-(j:Int)-1 by omega]))<|Asg rfl<|aa<|?_
  repeat (refine aJ ?_)
  exact aA<|⟨rfl,⟨j+1,by omega⟩,_,by show n-(j+1)<n-j;omega,rfl,⟨rfl,rfl,rfl,rfl,rfl,trivial⟩,⟨rfl,rfl,rfl,trivial⟩⟩
 ·obtain rfl:j=n:=by have:=of_decide_eq_false hc;omega
  refine aM<|Xp<|La 5 rfl rfl bw<|Sa 4 hGF rfl rfl rfl bw<|aa<|aq<|Rr<|?_
  exact aw 4 rfl rfl rfl isAgg39 sizeOf39 (by simp) (fun w hw=>⟨rfl,ac hw⟩)
theorem uU(x:W2)(b:Nat)(w:World)(hw:Gt w)(h:w.rangeAt b 0 ((RW 12 (RPr cXN) 4).map U64)):Calls Tryz.prog 107 [.slice (some ⟨b,0,none⟩) 4 4,EV2 x].toArray w (fun r w'=>r=.returned (EV2 (R2.pev iXN x))∧Grow w w'):=by
 have e:=lV 4 cXN x b 4 (by decide) w hw h
 rw[show HK (fun k=>cXN (4-1-k)) x 4=R2.pev iXN x from (wT _ x).trans (by rw[Km])]at e
 exact e
theorem uw(x:W2)(b:Nat)(w:World)(hw:Gt w)(h:w.rangeAt b 0 ((RW 12 (RPr cXD) 3).map U64)):Calls Tryz.prog 107 [.slice (some ⟨b,0,none⟩) 3 3,EV2 x].toArray w (fun r w'=>r=.returned (EV2 (R2.pev iXD x))∧Grow w w'):=by
 have e:=lV 3 cXD x b 3 (by decide) w hw h
 rw[show HK (fun k=>cXD (3-1-k)) x 3=R2.pev iXD x from (HK_3 _ x).trans (by rw[Ma])]at e
 exact e
theorem vd(x:W2)(b:Nat)(w:World)(hw:Gt w)(h:w.rangeAt b 0 ((RW 12 (RPr cYN) 4).map U64)):Calls Tryz.prog 107 [.slice (some ⟨b,0,none⟩) 4 4,EV2 x].toArray w (fun r w'=>r=.returned (EV2 (R2.pev iYN x))∧Grow w w'):=by
 have e:=lV 4 cYN x b 4 (by decide) w hw h
 rw[show HK (fun k=>cYN (4-1-k)) x 4=R2.pev iYN x from (wT _ x).trans (by rw[MD])]at e
 exact e
theorem vw(x:W2)(b:Nat)(w:World)(hw:Gt w)(h:w.rangeAt b 0 ((RW 12 (RPr cYD) 4).map U64)):Calls Tryz.prog 107 [.slice (some ⟨b,0,none⟩) 4 4,EV2 x].toArray w (fun r w'=>r=.returned (EV2 (R2.pev iYD x))∧Grow w w'):=by
 have e:=lV 4 cYD x b 4 (by decide) w hw h
 rw[show HK (fun k=>cYD (4-1-k)) x 4=R2.pev iYD x from (wT _ x).trans (by rw[My])]at e
 exact e
end
section
open Go.RowKit
attribute [local simp] bp bQ aI aB bj bc aX aW bv PLl eK eI N1l eP eU eW bJ bV bY bX cH eT cb cw
theorem riso(x y:W2)(h:ml2 y y=gO x):Pure Tryz.prog Gt 64 [EV2 x,EV2 y] (EV6 (XIs x,YIs x y,on2)):=by
 intro w hw
 refine Hf func64 rfl hw<|fun hGF=>Xp<|Bx 2 hGF rfl<|fun b2=>Bx 3 hGF rfl<|fun b3=>Al 4 hGF zv41<|fun b4=>aa<|?_
 refine f8 (ι:=Nat) (fun z=>[(2,.pointer (some ⟨b2,0,none⟩)),(3,.pointer (some ⟨b3,0,none⟩)),(4,.pointer (some ⟨b4,0,none⟩)),(5,.pointer (some ⟨z,0,none⟩))]) (fun z=>[(2,b2,(fe (x).1++fe (x).2).map U64,39),(3,b3,(fe (y).1++fe (y).2).map U64,39),(4,b4,((fe 0++fe 0)++((fe 0++fe 0)++(fe 0++fe 0))).map U64,41),(5,z,(fe (R2.pev iXN x).1++fe (R2.pev iXN x).2).map U64,39)]) hGF ?_ ?_
 ·refine jn (EE [2999998,2999999]) eH (by kernel_rfl) (by kernel_rfl)<|aG (m:=4) [0,1,2,3,4,5,6,7,8,9,10,11,13] (by kernel_rfl)<|bi (n:=6) rfl rfl underlying35 sizeOf24 zeroValue35 rfl rfl rfl rfl<|bi (n:=6) rfl rfl underlying35 sizeOf24 zeroValue35 rfl rfl rfl rfl<|Ca rfl (AD)<|bi (n:=6) rfl rfl underlying35 sizeOf24 zeroValue35 rfl rfl rfl rfl<|bi (n:=6) rfl rfl underlying35 sizeOf24 zeroValue35 rfl rfl rfl rfl<|Ca rfl (Bc)<|bi (n:=6) rfl rfl underlying35 sizeOf24 zeroValue35 rfl rfl rfl rfl<|bi (n:=6) rfl rfl underlying35 sizeOf24 zeroValue35 rfl rfl rfl rfl<|Ca rfl (BH)<|bi (n:=6) rfl rfl underlying35 sizeOf24 zeroValue35 rfl rfl rfl rfl<|bi (n:=6) rfl rfl underlying35 sizeOf24 zeroValue35 rfl rfl rfl rfl<|Ca rfl (BO)<|La 2 rfl rfl bw<|aa<|eJ (m:=3) [12,15] (by kernel_rfl) (by kernel_rfl) (by decide)<|?_
  intro i hi
  simp only[List.mem_cons,List.not_mem_nil,or_false]at hi
  rcases hi with rfl|rfl
  ·exact fc (s:=12) 21 (RPr cXN) (fe 0++fe 0) hGF rfl rfl rfl (fun i _=>cw _ _) (by decide) (by decide) underlying69 sizeOf39 (by simp) zv39 rfl rfl<|fun b21=>aa<|aG (m:=2) [14] (by kernel_rfl)<|Cc rfl ent107 (fun w' hC hG=>uU x _ w' hG (aU (n:=21) rfl w' hC))<|aa<|aG (m:=1) [15] (by kernel_rfl)<|a5 5 hGF zv39 rfl rfl rfl<|fun b5=>aa<|aG (m:=0) [16] (by kernel_rfl)<|Sa 5 hGF rfl rfl rfl bw<|aa<|cv (by kernel_rfl)<|aA<|⟨rfl,b5,_,rfl,⟨rfl,rfl,rfl,rfl,trivial⟩,⟨rfl,rfl,rfl,rfl,trivial⟩⟩
  ·exact a5 5 hGF zv39 rfl rfl rfl<|fun b5=>aa<|aG (m:=2) [12] (by kernel_rfl)<|fc (s:=12) 21 (RPr cXN) (fe 0++fe 0) hGF rfl rfl rfl (fun i _=>cw _ _) (by decide) (by decide) underlying69 sizeOf39 (by simp) zv39 rfl rfl<|fun b21=>aa<|aG (m:=1) [14] (by kernel_rfl)<|Cc rfl ent107 (fun w' hC hG=>uU x _ w' hG (aU (n:=21) rfl w' hC))<|aa<|aG (m:=0) [16] (by kernel_rfl)<|Sa 5 hGF rfl rfl rfl bw<|aa<|cv (by kernel_rfl)<|aA<|⟨rfl,b5,_,rfl,⟨rfl,rfl,rfl,rfl,trivial⟩,⟨rfl,rfl,rfl,rfl,trivial⟩⟩
 ·intro b5
  refine f8 (ι:=Nat) (fun z=>[(2,.pointer (some ⟨b2,0,none⟩)),(3,.pointer (some ⟨b3,0,none⟩)),(4,.pointer (some ⟨b4,0,none⟩)),(5,.pointer (some ⟨b5,0,none⟩)),(6,.pointer (some ⟨z,0,none⟩))]) (fun z=>[(2,b2,(fe (x).1++fe (x).2).map U64,39),(3,b3,(fe (y).1++fe (y).2).map U64,39),(4,b4,((fe 0++fe 0)++((fe 0++fe 0)++(fe 0++fe 0))).map U64,41),(5,b5,(fe (R2.pev iXN x).1++fe (R2.pev iXN x).2).map U64,39),(6,z,(fe (R2.pev iXD x).1++fe (R2.pev iXD x).2).map U64,39)]) hGF ?_ ?_
  ·refine jn (EE [2999998,2999999]) eH (by kernel_rfl) (by kernel_rfl)<|aG (m:=4) [0,1,2,3,4,5,7] (by kernel_rfl)<|Ca rfl (m7 0#64 72#64)<|Ca rfl (fE _)<|Ca rfl (fE _)<|Ca rfl (sp _)<|cq n8 rfl rfl (by simp) (by simp) rfl rfl<|Ca rfl (rA)<|La 2 rfl rfl bw<|aa<|eJ (m:=3) [6,9] (by kernel_rfl) (by kernel_rfl) (by decide)<|?_
   intro i hi
   simp only[List.mem_cons,List.not_mem_nil,or_false]at hi
   rcases hi with rfl|rfl
   ·exact fc (s:=12) 30 (RPr cXD) (fe 0++fe 0) hGF rfl rfl rfl (fun i _=>cw _ _) (by decide) (by decide) underlying69 sizeOf39 (by simp) zv39 rfl rfl<|fun b30=>aa<|aG (m:=2) [8] (by kernel_rfl)<|Cc rfl ent107 (fun w' hC hG=>uw x _ w' hG (aU (n:=30) rfl w' hC))<|aa<|aG (m:=1) [9] (by kernel_rfl)<|a5 6 hGF zv39 rfl rfl rfl<|fun b6=>aa<|aG (m:=0) [10] (by kernel_rfl)<|Sa 6 hGF rfl rfl rfl bw<|aa<|cv (by kernel_rfl)<|aA<|⟨rfl,b6,_,rfl,⟨rfl,rfl,rfl,rfl,rfl,trivial⟩,⟨rfl,rfl,rfl,rfl,rfl,trivial⟩⟩
   ·exact a5 6 hGF zv39 rfl rfl rfl<|fun b6=>aa<|aG (m:=2) [6] (by kernel_rfl)<|fc (s:=12) 30 (RPr cXD) (fe 0++fe 0) hGF rfl rfl rfl (fun i _=>cw _ _) (by decide) (by decide) underlying69 sizeOf39 (by simp) zv39 rfl rfl<|fun b30=>aa<|aG (m:=1) [8] (by kernel_rfl)<|Cc rfl ent107 (fun w' hC hG=>uw x _ w' hG (aU (n:=30) rfl w' hC))<|aa<|aG (m:=0) [10] (by kernel_rfl)<|Sa 6 hGF rfl rfl rfl bw<|aa<|cv (by kernel_rfl)<|aA<|⟨rfl,b6,_,rfl,⟨rfl,rfl,rfl,rfl,rfl,trivial⟩,⟨rfl,rfl,rfl,rfl,rfl,trivial⟩⟩
  ·intro b6
   refine f8 (ι:=Nat) (fun z=>[(2,.pointer (some ⟨b2,0,none⟩)),(3,.pointer (some ⟨b3,0,none⟩)),(4,.pointer (some ⟨b4,0,none⟩)),(5,.pointer (some ⟨b5,0,none⟩)),(6,.pointer (some ⟨b6,0,none⟩)),(7,.pointer (some ⟨z,0,none⟩))]) (fun z=>[(2,b2,(fe (x).1++fe (x).2).map U64,39),(3,b3,(fe (y).1++fe (y).2).map U64,39),(4,b4,((fe 0++fe 0)++((fe 0++fe 0)++(fe 0++fe 0))).map U64,41),(5,b5,(fe (R2.pev iXN x).1++fe (R2.pev iXN x).2).map U64,39),(6,b6,(fe (R2.pev iXD x).1++fe (R2.pev iXD x).2).map U64,39),(7,z,(fe (R2.pev iYN x).1++fe (R2.pev iYN x).2).map U64,39)]) hGF ?_ ?_
   ·refine jn (EE [2999998,2999999]) eH (by kernel_rfl) (by kernel_rfl)<|aG (m:=4) [0,1,2,3,4,5,6,7,8,9,10,11,13] (by kernel_rfl)<|bi (n:=6) rfl rfl underlying35 sizeOf24 zeroValue35 rfl rfl rfl rfl<|bi (n:=6) rfl rfl underlying35 sizeOf24 zeroValue35 rfl rfl rfl rfl<|Ca rfl (z9)<|bi (n:=6) rfl rfl underlying35 sizeOf24 zeroValue35 rfl rfl rfl rfl<|bi (n:=6) rfl rfl underlying35 sizeOf24 zeroValue35 rfl rfl rfl rfl<|Ca rfl (yh)<|bi (n:=6) rfl rfl underlying35 sizeOf24 zeroValue35 rfl rfl rfl rfl<|bi (n:=6) rfl rfl underlying35 sizeOf24 zeroValue35 rfl rfl rfl rfl<|Ca rfl (zz)<|bi (n:=6) rfl rfl underlying35 sizeOf24 zeroValue35 rfl rfl rfl rfl<|bi (n:=6) rfl rfl underlying35 sizeOf24 zeroValue35 rfl rfl rfl rfl<|Ca rfl (Au)<|La 2 rfl rfl bw<|aa<|eJ (m:=3) [12,15] (by kernel_rfl) (by kernel_rfl) (by decide)<|?_
    intro i hi
    simp only[List.mem_cons,List.not_mem_nil,or_false]at hi
    rcases hi with rfl|rfl
    ·exact fc (s:=12) 45 (RPr cYN) (fe 0++fe 0) hGF rfl rfl rfl (fun i _=>cw _ _) (by decide) (by decide) underlying69 sizeOf39 (by simp) zv39 rfl rfl<|fun b45=>aa<|aG (m:=2) [14] (by kernel_rfl)<|Cc rfl ent107 (fun w' hC hG=>vd x _ w' hG (aU (n:=45) rfl w' hC))<|aa<|aG (m:=1) [15] (by kernel_rfl)<|a5 7 hGF zv39 rfl rfl rfl<|fun b7=>aa<|aG (m:=0) [16] (by kernel_rfl)<|Sa 7 hGF rfl rfl rfl bw<|aa<|cv (by kernel_rfl)<|aA<|⟨rfl,b7,_,rfl,⟨rfl,rfl,rfl,rfl,rfl,rfl,trivial⟩,⟨rfl,rfl,rfl,rfl,rfl,rfl,trivial⟩⟩
    ·exact a5 7 hGF zv39 rfl rfl rfl<|fun b7=>aa<|aG (m:=2) [12] (by kernel_rfl)<|fc (s:=12) 45 (RPr cYN) (fe 0++fe 0) hGF rfl rfl rfl (fun i _=>cw _ _) (by decide) (by decide) underlying69 sizeOf39 (by simp) zv39 rfl rfl<|fun b45=>aa<|aG (m:=1) [14] (by kernel_rfl)<|Cc rfl ent107 (fun w' hC hG=>vd x _ w' hG (aU (n:=45) rfl w' hC))<|aa<|aG (m:=0) [16] (by kernel_rfl)<|Sa 7 hGF rfl rfl rfl bw<|aa<|cv (by kernel_rfl)<|aA<|⟨rfl,b7,_,rfl,⟨rfl,rfl,rfl,rfl,rfl,rfl,trivial⟩,⟨rfl,rfl,rfl,rfl,rfl,rfl,trivial⟩⟩
   ·intro b7
    refine f8 (ι:=Nat) (fun z=>[(2,.pointer (some ⟨b2,0,none⟩)),(3,.pointer (some ⟨b3,0,none⟩)),(4,.pointer (some ⟨b4,0,none⟩)),(5,.pointer (some ⟨b5,0,none⟩)),(6,.pointer (some ⟨b6,0,none⟩)),(7,.pointer (some ⟨b7,0,none⟩)),(8,.pointer (some ⟨z,0,none⟩))]) (fun z=>[(2,b2,(fe (x).1++fe (x).2).map U64,39),(3,b3,(fe (y).1++fe (y).2).map U64,39),(4,b4,((fe 0++fe 0)++((fe 0++fe 0)++(fe 0++fe 0))).map U64,41),(5,b5,(fe (R2.pev iXN x).1++fe (R2.pev iXN x).2).map U64,39),(6,b6,(fe (R2.pev iXD x).1++fe (R2.pev iXD x).2).map U64,39),(7,b7,(fe (R2.pev iYN x).1++fe (R2.pev iYN x).2).map U64,39),(8,z,(fe (R2.pev iYD x).1++fe (R2.pev iYD x).2).map U64,39)]) hGF ?_ ?_
    ·refine jn (EE [2999998,2999999]) eH (by kernel_rfl) (by kernel_rfl)<|aG (m:=4) [0,1,2,3,4,5,6,8] (by kernel_rfl)<|Ca rfl (m7 432#64 432#64)<|Ca rfl (m7 0#64 216#64)<|Ca rfl (fE _)<|Ca rfl (fE _)<|Ca rfl (sp _)<|cq n8 rfl rfl (by simp) (by simp) rfl rfl<|Ca rfl (rA)<|La 2 rfl rfl bw<|aa<|eJ (m:=3) [7,10] (by kernel_rfl) (by kernel_rfl) (by decide)<|?_
     intro i hi
     simp only[List.mem_cons,List.not_mem_nil,or_false]at hi
     rcases hi with rfl|rfl
     ·exact fc (s:=12) 55 (RPr cYD) (fe 0++fe 0) hGF rfl rfl rfl (fun i _=>cw _ _) (by decide) (by decide) underlying69 sizeOf39 (by simp) zv39 rfl rfl<|fun b55=>aa<|aG (m:=2) [9] (by kernel_rfl)<|Cc rfl ent107 (fun w' hC hG=>vw x _ w' hG (aU (n:=55) rfl w' hC))<|aa<|aG (m:=1) [10] (by kernel_rfl)<|a5 8 hGF zv39 rfl rfl rfl<|fun b8=>aa<|aG (m:=0) [11] (by kernel_rfl)<|Sa 8 hGF rfl rfl rfl bw<|aa<|cv (by kernel_rfl)<|aA<|⟨rfl,b8,_,rfl,⟨rfl,rfl,rfl,rfl,rfl,rfl,rfl,trivial⟩,⟨rfl,rfl,rfl,rfl,rfl,rfl,rfl,trivial⟩⟩
     ·exact a5 8 hGF zv39 rfl rfl rfl<|fun b8=>aa<|aG (m:=2) [7] (by kernel_rfl)<|fc (s:=12) 55 (RPr cYD) (fe 0++fe 0) hGF rfl rfl rfl (fun i _=>cw _ _) (by decide) (by decide) underlying69 sizeOf39 (by simp) zv39 rfl rfl<|fun b55=>aa<|aG (m:=1) [9] (by kernel_rfl)<|Cc rfl ent107 (fun w' hC hG=>vw x _ w' hG (aU (n:=55) rfl w' hC))<|aa<|aG (m:=0) [11] (by kernel_rfl)<|Sa 8 hGF rfl rfl rfl bw<|aa<|cv (by kernel_rfl)<|aA<|⟨rfl,b8,_,rfl,⟨rfl,rfl,rfl,rfl,rfl,rfl,rfl,trivial⟩,⟨rfl,rfl,rfl,rfl,rfl,rfl,rfl,trivial⟩⟩
    ·intro b8
     refine ah<|Xp<|La 6 rfl rfl bw<|Cbl false rfl ent68 (iD _) (decide_eq_false (ry h))<|Mv rfl<|La 8 rfl rfl bw<|Cbl false rfl ent68 (iD _) (decide_eq_false (qV h))<|Pk rfl rfl rfl<|aa<|aV rfl<|au<|Xd []<|La 5 rfl rfl bw<|La 6 rfl rfl bw<|Ca rfl (kj _)<|Ca rfl (ek _ _)<|La 3 rfl rfl bw<|La 7 rfl rfl bw<|Ca rfl (ek _ _)<|La 8 rfl rfl bw<|Ca rfl (kj _)<|Ca rfl (ek _ _)<|Ca rfl (Id _ _)<|Sa 4 hGF rfl rfl rfl gT<|aa<|aq<|Rr<|?_
     exact aw 4 rfl rfl rfl isAgg41 sizeOf41 (by simp) (fun w hw=>⟨rfl,ac hw⟩)
theorem rmap{u x r:W2}(h:SwR u x r):Pure Tryz.prog Gt 27 [EV2 u] (EV6 (XIs x,YIs x (sgS r u),on2)):=by
 intro w hw
 refine Hf func27 rfl hw<|fun hGF=>Xp<|Bx 1 hGF rfl<|fun b1=>Al 2 hGF zv41<|fun b2=>aa<|Xp<|La 1 rfl rfl bw<|Ca rfl (rswu h)<|Ext rfl rfl<|Ext rfl rfl<|Ca rfl (riso _ _ h.on)<|Sa 2 hGF rfl rfl rfl gT<|aa<|aq<|Rr<|?_
 exact aw 2 rfl rfl rfl isAgg41 sizeOf41 (by simp) (fun w hw=>⟨rfl,ac hw⟩)
end
end Go.Proofs.YtodgbdcjjhmnkaaGreatDoor
