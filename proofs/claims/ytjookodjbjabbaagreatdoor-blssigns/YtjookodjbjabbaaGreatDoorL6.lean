/- L6 -/
import Derived.Test.YtjookodjbjabbaaGreatDoorL5
set_option maxRecDepth 100000
set_option maxHeartbeats 1000000
namespace Go.Proofs.YtjookodjbjabbaaGreatDoor
open Go.Proofs.Tryz
section
open J2
open Go.RowKit
attribute [local simp] a6 bj aH aB aP aZ aQ aJ aM be bz a5 bv bB
theorem ent270:ak prog 270:=λ_ _=>kr
theorem ent269:ak prog 269:=λ_ _=>kr
theorem ent247:ak prog 247:=λ_ _=>kr
theorem ent249:ak prog 249:=λ_ _=>kr
theorem ent248:ak prog 248:=λ_ _=>kr
theorem ent244:ak prog 244:=λ_ _=>kr
theorem ent245:ak prog 245:=λ_ _=>kr
theorem ent267:ak prog 267:=λ_ _=>kr
theorem ent243:ak prog 243:=λ_ _=>kr
theorem ent144:ak prog 144:=λ_ _=>kr
theorem ent143:ak prog 143:=λ_ _=>kr
theorem ent142:ak prog 142:=λ_ _=>kr
theorem ent138:ak prog 138:=λ_ _=>kr
theorem pA  :PUR 270 [] (EV2 OA):=pE TO68 func270 [] (.inl (.inl [OA.1,OA.2])) (let t0:=zp (240#64).toNat;(.inl (.inl [0,t0]),[])) [] kr aE O
def TO69:Tb prog Gt:=TO68.add (oH (g:=OA) ent270 pA)
theorem pB  :PUR 269 [] (EV2 OB):=pE TO69 func269 [] (.inl (.inl [OB.1,OB.2])) (let t0:=zp (1012#64).toNat;let t1:=zp (1012#64).toNat;(.inl (.inl [t0,t1]),[])) [] kr aE O
def TO70:Tb prog Gt:=TO69.add (oH (g:=OB) ent269 pB)
theorem pZ  :PUR 247 [] (EV2 OZ):=pE TO70 func247 [] (.inl (.inl [OZ.1,OZ.2])) (let t0:=zp (2#64).toNat;let t1:=ng2 (t0,1);(.inl (.inl [t1.1,t1.2]),[])) [] kr aE O
def TO71:Tb prog Gt:=TO70.add (oH (g:=OZ) ent247 pZ)
theorem psq(x:W2):PUR 249 [EV2 x] (EV2 (gO x)):=pE TO71 func249 [.inl [x.1,x.2]] (.inl (.inl [(gO x).1,(gO x).2])) (let t0:=ml2 x x;let t1:=OA;let t2:=ad2 (t0.1,t0.2) (t1.1,t1.2);let t3:=ml2 (t2.1,t2.2) x;let t4:=OB;let t5:=ad2 (t3.1,t3.2) (t4.1,t4.2);(.inl (.inl [t5.1,t5.2]),[])) [] kr aE (el2 (congrArg Prod.fst (P7 x)) (congrArg Prod.snd (P7 x)))
def TO72:Tb prog Gt:=TO71.add (d9 (g:=gO) ent249 psq)
def FXs(s:W2):W2:=if (ad2 (ml2 s s) s)=ze2 then ml2 (ml2 OB (ad2 (ad2 (ml2 s s) s) on2)) (iv2 (ml2 OZ OA))else ml2 (ml2 OB (ad2 (ad2 (ml2 s s) s) on2)) (iv2 (ml2 (ng2 (ad2 (ml2 s s) s)) OA))
theorem TL(u:W2):FXs (zu2 u)=x1O u:=by
 by_cases h:tu2 u=ze2
 ·exact (if_pos h).trans (Mb h)
 ·exact (if_neg h).trans (Ma h)
theorem ES(s:W2):PUR 248 [EV2 s] (EV2 (FXs s)):=by
 by_cases h:(ad2 (ml2 s s) s)=ze2
 ·exact pE TO72 func248 [.inl [s.1,s.2]] (.inl (.inl [(FXs s).1,(FXs s).2])) (let t0:=ml2 s s;let t1:=ad2 (t0.1,t0.2) s;let t3:=OZ;let t4:=OB;let t5:=on2;let t6:=ad2 (t1.1,t1.2) (t5.1,t5.2);let t7:=ml2 (t4.1,t4.2) (t6.1,t6.2);let t8:=OA;let t9:=ml2 (t3.1,t3.2) (t8.1,t8.2);let t10:=iv2 (t9.1,t9.2);let t11:=ml2 (t7.1,t7.2) (t10.1,t10.2);(.inl (.inl [t11.1,t11.2]),[(decide ((t1.1,t1.2)=ze2),true)])) [some true] kr (ap (decide_eq_true h) aE) (by rw[show FXs s=_ from if_pos h]<;>exact rfl)
 ·exact pE TO72 func248 [.inl [s.1,s.2]] (.inl (.inl [(FXs s).1,(FXs s).2])) (let t0:=ml2 s s;let t1:=ad2 (t0.1,t0.2) s;let t2:=ng2 (t1.1,t1.2);let t3:=OB;let t4:=on2;let t5:=ad2 (t1.1,t1.2) (t4.1,t4.2);let t6:=ml2 (t3.1,t3.2) (t5.1,t5.2);let t7:=OA;let t8:=ml2 (t2.1,t2.2) (t7.1,t7.2);let t9:=iv2 (t8.1,t8.2);let t10:=ml2 (t6.1,t6.2) (t9.1,t9.2);(.inl (.inl [t10.1,t10.2]),[(decide ((t1.1,t1.2)=ze2),false)])) [some false] kr (ap (decide_eq_false h) aE) (by rw[show FXs s=_ from if_neg h]<;>exact rfl)
def TO73:Tb prog Gt:=TO72.add (d9 (g:=FXs) ent248 ES)
theorem sg_t{r u:W2}(h:SG2 r=SG2 u):(SG2 r !=SG2 u)=false:=by rw[h];exact bne_self_eq_false _
theorem sg_f{r u:W2}(h: ¬SG2 r=SG2 u):(SG2 r !=SG2 u)=true:=bne_iff_ne.2 h
theorem DR(r u:W2)(h:SG2 r=SG2 u):PUR 250 [EV2 r,I (SG2 u)] (EV2 r):=by
 intro w hw;refine Hf func250 O hw<|λhGF=>Xp<|Bx 2 hGF O<|λb2=>Al 4 hGF zv78<|λb4=>aa<|ah<|Xp<|La 2 O O aX<|Ca O (xx _)<|Mv O<|Bnb false O O (λ_=>bC _ _ _) (sg_t h)<|aa<|aD O<|aq<|Xp<|La 2 O O aX<|Sa 4 hGF O O O aX<|aa<|am<|Rr<|?_;exact av 4 O O O isAgg78 sizeOf78 sm (λw hw=>⟨rfl,ac hw⟩)
theorem En(r u:W2)(h: ¬SG2 r=SG2 u):PUR 250 [EV2 r,I (SG2 u)] (EV2 (ng2 r)):=by
 intro w hw;refine Hf func250 O hw<|λhGF=>Xp<|Bx 2 hGF O<|λb2=>Al 4 hGF zv78<|λb4=>aa<|ah<|Xp<|La 2 O O aX<|Ca O (xx _)<|Mv O<|Bnb true O O (λ_=>bC _ _ _) (sg_f h)<|aa<|aT O<|Xp<|La 2 O O aX<|Ca O (GE _)<|Sa 4 hGF O O O aX<|aa<|am<|Rr<|?_;exact av 4 O O O isAgg78 sizeOf78 sm (λw hw=>⟨rfl,ac hw⟩)
theorem AN(r u:W2):PUR 250 [EV2 r,I (SG2 u)] (EV2 (sgS r u)):=by
 by_cases h:SG2 r=SG2 u
 ·rw[show sgS r u=r from if_pos h];exact DR r u h
 ·rw[show sgS r u=ng2 r from if_neg h];exact En r u h
theorem HV(u:W2):PUR 130 [EV2 (ml2 u u),EV2 OZ] (EV2 (zu2 u)):=by
 have h:=dM (ml2 u u) OZ;rw[ZC]at h;exact h
theorem BS(u:W2):PUR 248 [EV2 (zu2 u)] (EV2 (x1O u)):=by
 have h:=ES (zu2 u);rw[TL]at h;exact h
theorem Rm(u r:W2)(hr:ml2 r r=gO (x1O u))(hl:LG2 r=false):PUR 209 [EV2 u] (.tuple #[EV2 (x1O u),EV2 (sgS r u)]):=by
 intro w hw;refine Hf func209 O hw<|λhGF=>Xp<|Bx 1 hGF O<|λb1=>Al 2 hGF zv78<|λb2=>Al 3 hGF zv78<|λb3=>aa<|Xp<|La 1 O O aX<|Ca O (iW _)<|Ca O (pZ)<|Ca O (HV u)<|Al 4 hGF zv78<|λb4=>Sa 4 hGF O O O aX<|aa<|Xp<|La 4 O O aX<|Ca O (BS u)<|Al 5 hGF zv78<|λb5=>Sa 5 hGF O O O aX<|aa<|Xp<|La 5 O O aX<|Ca O (psq _)<|Ca O (pK _ r hr hl)<|Mv O<|Ext O O<|Ext O O<|Al 6 hGF zv78<|λb6=>Sa 6 hGF O O O aX<|Asg O<|aa<|ah<|Xp<|Mv O<|bp O (λ_=>a8 _) O O<|aa<|aD O<|aq<|Xd []<|La 5 O O aX<|?_;refine La 6 O O aX<|La 1 O O aX<|Ca O (xx _)<|Ca O (AN r u)<|Sa 2 hGF O O O aX<|Sa 3 hGF O O O aX<|aa<|am<|Rr<|?_;exact iF 2 3 O O O O O isAgg78 sizeOf78 sm sm (λw hw=>⟨rfl,ac hw⟩)
theorem Vs(u r:W2)(hq: ¬IsQ (nm2 (gO (x1O u))))(hr:ml2 r r=gO (ml2 (zu2 u) (x1O u)))(hl:LG2 r=false):PUR 209 [EV2 u] (.tuple #[EV2 (ml2 (zu2 u) (x1O u)),EV2 (sgS r u)]):=by
 intro w hw;refine Hf func209 O hw<|λhGF=>Xp<|Bx 1 hGF O<|λb1=>Al 2 hGF zv78<|λb2=>Al 3 hGF zv78<|λb3=>aa<|Xp<|La 1 O O aX<|Ca O (iW _)<|Ca O (pZ)<|Ca O (HV u)<|Al 4 hGF zv78<|λb4=>Sa 4 hGF O O O aX<|aa<|Xp<|La 4 O O aX<|Ca O (BS u)<|Al 5 hGF zv78<|λb5=>Sa 5 hGF O O O aX<|aa<|Xp<|La 5 O O aX<|Ca O (psq _)<|Ca O (vB _ hq)<|Mv O<|Ext O O<|Ext O O<|Al 6 hGF zv78<|λb6=>Sa 6 hGF O O O aX<|Asg O<|aa<|ah<|Xp<|Mv O<|bp O (λ_=>a8 _) O O<|aa<|aT O<|Xp<|La 4 O O aX<|La 5 O O aX<|?_;refine Ca O (dM (zu2 u) (x1O u))<|Sa 5 hGF O O O aX<|aa<|Xq<|La 5 O O aX<|Ca O (psq _)<|Ca O (pK _ r hr hl)<|Mv O<|Ext O O<|Ext O O<|Sa 6 hGF O O O aX<|aa<|Xd []<|La 5 O O aX<|La 6 O O aX<|La 1 O O aX<|Ca O (xx _)<|Ca O (AN r u)<|Sa 2 hGF O O O aX<|Sa 3 hGF O O O aX<|aa<|am<|Rr<|?_;exact iF 2 3 O O O O O isAgg78 sizeOf78 sm sm (λw hw=>⟨rfl,ac hw⟩)
theorem pswu{u x r:W2}(h:SwR u x r):PUR 209 [EV2 u] (.tuple #[EV2 x,EV2 (sgS r u)]):=by
 obtain ⟨hr,hl,rfl|⟨hq,rfl⟩⟩:=h
 ·exact Rm u r hr hl
 ·exact Vs u r hq hr hl
end
section
open J2
open Go.RowKit
attribute [local simp] a6 bj aH aB aP aZ aQ aJ aM be bz a5 bv bB
theorem ra  :PUR 144 [] (EV2 OA):=pE TO73 func144 [] (.inl (.inl [OA.1,OA.2])) (let t0:=sm2 (0#64) (240#64);(.inl (.inl [t0.1,t0.2]),[])) [] kr aE O
def TO74:Tb prog Gt:=TO73.add (oH (g:=OA) ent144 ra)
theorem EB  :PUR 143 [] (EV2 OB):=pE TO74 func143 [] (.inl (.inl [OB.1,OB.2])) (let t0:=sm2 (1012#64) (1012#64);(.inl (.inl [t0.1,t0.2]),[])) [] kr aE O
def TO75:Tb prog Gt:=TO74.add (oH (g:=OB) ent143 EB)
theorem rz  :PUR 142 [] (EV2 OZ):=pE TO75 func142 [] (.inl (.inl [OZ.1,OZ.2])) (let t0:=sm2 (2#64) (1#64);let t1:=ng2 (t0.1,t0.2);(.inl (.inl [t1.1,t1.2]),[])) [] kr aE O
def TO76:Tb prog Gt:=TO75.add (oH (g:=OZ) ent142 rz)
theorem rG(x:W2):PUR 145 [EV2 x] (EV2 (gO x)):=pE TO76 func145 [.inl [x.1,x.2]] (.inl (.inl [(gO x).1,(gO x).2])) (let t0:=ml2 x x;let t1:=ml2 (t0.1,t0.2) x;let t2:=OA;let t3:=ml2 (t2.1,t2.2) x;let t4:=ad2 (t1.1,t1.2) (t3.1,t3.2);let t5:=OB;let t6:=ad2 (t4.1,t4.2) (t5.1,t5.2);(.inl (.inl [t6.1,t6.2]),[])) [] kr aE O
theorem Ss(u r:W2)(hr:ml2 r r=gO (x1O u))(hl:LG2 r=false):PUR 88 [EV2 u] (.tuple #[EV2 (x1O u),EV2 (sgS r u)]):=by
 intro w hw;refine Hf func88 O hw<|λhGF=>Xp<|Bx 1 hGF O<|λb1=>Al 2 hGF zv41<|λb2=>Al 3 hGF zv41<|λb3=>aa<|Xa [0,1,2,3,4] ⟨5,4,41,(fe 0++fe 0).map U64⟩ [6] (bE O zv41 O)<|Ca O (rz)<|La 1 O O bL<|Ca O (eN _ _)<|La 1 O O bL<|Ca O (show PUR 89 [EV2 (ml2 OZ u),EV2 u] (EV2 (zu2 u))from eN (ml2 OZ u) u)<|aa<|?_;refine ⟨_,_,rfl,hGF,by intro x hx;simp only[List.mem_cons,List.not_mem_nil,or_false]at hx;subst hx;rfl,by intro x hx;simp only[List.mem_cons,List.not_mem_nil,or_false]at hx;subst hx;rfl,λadr1=> ?_⟩
 refine Sa 4 hGF O O O bL<|aa<|Xa [0,1,2,3,4] ⟨5,5,41,(fe 0++fe 0).map U64⟩ [6] (bE O zv41 O)<|La 4 O O bL<|La 4 O O bL<|Ca O (eN _ _)<|La 4 O O bL<|Ca O (show PUR 101 [EV2 (ml2 (zu2 u) (zu2 u)),EV2 (zu2 u)] (EV2 (tu2 u))from sU _ _)<|aa<|?_;refine ⟨_,_,rfl,hGF,by intro x hx;simp only[List.mem_cons,List.not_mem_nil,or_false]at hx;subst hx;rfl,by intro x hx;simp only[List.mem_cons,List.not_mem_nil,or_false]at hx;subst hx;rfl,λadr2=> ?_⟩
 refine Sa 5 hGF O O O bL<|aa<|Xp<|Al 6 hGF zv41<|λb6=>aa<|?_;refine jw (ι:=Unit) (λ_=>[(1,pnt b1),(2,pnt b2),(3,pnt b3),(4,.pointer (some ⟨(adr1 4),0,none⟩)),(6,pnt b6)]) (λ_=>[(1,b1,(fe (u).1++fe (u).2).map U64,41),(2,b2,(fe 0++fe 0).map U64,41),(3,b3,(fe 0++fe 0).map U64,41),(4,adr1 4,(fe (zu2 u).1++fe (zu2 u).2).map U64,41),(6,b6,(fe (x1O u).1++fe (x1O u).2).map U64,41)]) hGF ?_ ?_
 ·refine Xp<|La 5 O O bL<|Ca O (kT _)<|aa<|?_
  refine bD O (λhc=> ?_) (λhc=> ?_)
  ·have ht:tu2 u=ze2:=of_decide_eq_true hc
   refine Xq<|Ca O (EB)<|Ca O (rz)<|Ca O (ra)<|Ca O (eN _ _)<|Ca O (me _)<|Ca O (eN _ _)<|Sa 6 hGF O O O bL<|aa<|aC<|?_;exact ⟨rfl,(),_,rfl,trv,⟨rfl,rfl,rfl,rfl,by rw[show x1O u=_ from if_pos ht]<;>rfl,trivial⟩⟩
  ·have ht: ¬tu2 u=ze2:=of_decide_eq_false hc
   refine Xe []<|Ca O (EB)<|Ca O (s6 _)<|Ca O (ra)<|Ca O (me _)<|Ca O (eN _ _)<|Ca O (oA)<|La 5 O O bL<|Ca O (me _)<|Ca O (sU _ _)<|Ca O (eN _ _)<|Sa 6 hGF O O O bL<|aa<|aC<|?_;exact ⟨rfl,(),_,rfl,trv,⟨rfl,rfl,rfl,rfl,by rw[show x1O u=_ from if_neg ht]<;>rfl,trivial⟩⟩
 ·intro _
  refine Xp<|La 6 O O bL<|Ca O (rG _)<|Ca O (Cs _ r hr hl)<|Mv O<|Ext O O<|Ext O O<|Al 7 hGF zv41<|λb7=>Sa 7 hGF O O O bL<|Asg O<|aa<|ah<|Xp<|Mv O<|bp O (λ_=>a8 _) O O<|aa<|aD O<|aq<|ah<|Xd []<|La 7 O O bL<|Ca O (xD _)<|La 1 O O bL<|Ca O (xD _)<|Bnr O O (λ_=>bC _ _ _)<|aa<|?_;refine bD O (λhc=> ?_) (λhc=> ?_)
  ·have hs: ¬SG2 r=SG2 u:=bne_iff_ne.1 hc
   refine Xq<|La 7 O O bL<|Ca O (s6 _)<|Sa 7 hGF O O O bL<|aa<|gz (E:=EE []) (λX=>X=Hp (pl w) [(7,b7,(fe (ng2 r).1++fe (ng2 r).2).map U64,41)]) (mkB [2]) (rkB [62]) [0,1,2,3] cV O kr kr kr<|dN O O<|La 6 O O bL<|aa<|kC (X:=Hp (pl w) [(7,b7,(fe (ng2 r).1++fe (ng2 r).2).map U64,41)]) O (cO ao trv) (λ_=>rfl)<|La 7 O O bL<|aa<|fK O<|Sa 2 hGF O O O bL<|aa<|?_;refine ⟨λ_ X hX _=>by subst hX;exact cO ao trv, ?_⟩
   refine fK O<|Sa 3 hGF O O O bL<|aa<|?_;refine ⟨λh=>(by cases h), ?_⟩
   refine fR<|am<|Rr<|?_;exact iF 2 3 O O O O O isAgg41 sizeOf41 sm sm (λw hw=>⟨by rw[show sgS r u=_ from if_neg hs],ac hw⟩)
  ·have hs:SG2 r=SG2 u:=Decidable.byContradiction λe=>(by rw[bne_iff_ne.2 e]at hc;cases hc)
   refine aq<|gz (E:=EE []) (λX=>X=Hp (pl w) [(7,b7,(fe (r).1++fe (r).2).map U64,41)]) (mkB [2]) (rkB [62]) [0,1,2,3] cV O kr kr kr<|dN O O<|La 6 O O bL<|aa<|kC (X:=Hp (pl w) [(7,b7,(fe (r).1++fe (r).2).map U64,41)]) O (cO ao trv) (λ_=>rfl)<|La 7 O O bL<|aa<|fK O<|Sa 2 hGF O O O bL<|aa<|?_;refine ⟨λ_ X hX _=>by subst hX;exact cO ao trv, ?_⟩
   refine fK O<|Sa 3 hGF O O O bL<|aa<|?_;refine ⟨λh=>(by cases h), ?_⟩
   refine fR<|am<|Rr<|?_;exact iF 2 3 O O O O O isAgg41 sizeOf41 sm sm (λw hw=>⟨by rw[show sgS r u=_ from if_pos hs],ac hw⟩)
theorem Uv(u r:W2)(hq: ¬IsQ (nm2 (gO (x1O u))))(hr:ml2 r r=gO (ml2 (zu2 u) (x1O u)))(hl:LG2 r=false):PUR 88 [EV2 u] (.tuple #[EV2 (ml2 (zu2 u) (x1O u)),EV2 (sgS r u)]):=by
 intro w hw;refine Hf func88 O hw<|λhGF=>Xp<|Bx 1 hGF O<|λb1=>Al 2 hGF zv41<|λb2=>Al 3 hGF zv41<|λb3=>aa<|Xa [0,1,2,3,4] ⟨5,4,41,(fe 0++fe 0).map U64⟩ [6] (bE O zv41 O)<|Ca O (rz)<|La 1 O O bL<|Ca O (eN _ _)<|La 1 O O bL<|Ca O (show PUR 89 [EV2 (ml2 OZ u),EV2 u] (EV2 (zu2 u))from eN (ml2 OZ u) u)<|aa<|?_;refine ⟨_,_,rfl,hGF,by intro x hx;simp only[List.mem_cons,List.not_mem_nil,or_false]at hx;subst hx;rfl,by intro x hx;simp only[List.mem_cons,List.not_mem_nil,or_false]at hx;subst hx;rfl,λadr1=> ?_⟩
 refine Sa 4 hGF O O O bL<|aa<|Xa [0,1,2,3,4] ⟨5,5,41,(fe 0++fe 0).map U64⟩ [6] (bE O zv41 O)<|La 4 O O bL<|La 4 O O bL<|Ca O (eN _ _)<|La 4 O O bL<|Ca O (show PUR 101 [EV2 (ml2 (zu2 u) (zu2 u)),EV2 (zu2 u)] (EV2 (tu2 u))from sU _ _)<|aa<|?_;refine ⟨_,_,rfl,hGF,by intro x hx;simp only[List.mem_cons,List.not_mem_nil,or_false]at hx;subst hx;rfl,by intro x hx;simp only[List.mem_cons,List.not_mem_nil,or_false]at hx;subst hx;rfl,λadr2=> ?_⟩
 refine Sa 5 hGF O O O bL<|aa<|Xp<|Al 6 hGF zv41<|λb6=>aa<|?_;refine jw (ι:=Unit) (λ_=>[(1,pnt b1),(2,pnt b2),(3,pnt b3),(4,.pointer (some ⟨(adr1 4),0,none⟩)),(6,pnt b6)]) (λ_=>[(1,b1,(fe (u).1++fe (u).2).map U64,41),(2,b2,(fe 0++fe 0).map U64,41),(3,b3,(fe 0++fe 0).map U64,41),(4,adr1 4,(fe (zu2 u).1++fe (zu2 u).2).map U64,41),(6,b6,(fe (x1O u).1++fe (x1O u).2).map U64,41)]) hGF ?_ ?_
 ·refine Xp<|La 5 O O bL<|Ca O (kT _)<|aa<|?_
  refine bD O (λhc=> ?_) (λhc=> ?_)
  ·have ht:tu2 u=ze2:=of_decide_eq_true hc
   refine Xq<|Ca O (EB)<|Ca O (rz)<|Ca O (ra)<|Ca O (eN _ _)<|Ca O (me _)<|Ca O (eN _ _)<|Sa 6 hGF O O O bL<|aa<|aC<|?_;exact ⟨rfl,(),_,rfl,trv,⟨rfl,rfl,rfl,rfl,by rw[show x1O u=_ from if_pos ht]<;>rfl,trivial⟩⟩
  ·have ht: ¬tu2 u=ze2:=of_decide_eq_false hc
   refine Xe []<|Ca O (EB)<|Ca O (s6 _)<|Ca O (ra)<|Ca O (me _)<|Ca O (eN _ _)<|Ca O (oA)<|La 5 O O bL<|Ca O (me _)<|Ca O (sU _ _)<|Ca O (eN _ _)<|Sa 6 hGF O O O bL<|aa<|aC<|?_;exact ⟨rfl,(),_,rfl,trv,⟨rfl,rfl,rfl,rfl,by rw[show x1O u=_ from if_neg ht]<;>rfl,trivial⟩⟩
 ·intro _
  refine Xp<|La 6 O O bL<|Ca O (rG _)<|Ca O (Mu _ hq)<|Mv O<|Ext O O<|Ext O O<|Al 7 hGF zv41<|λb7=>Sa 7 hGF O O O bL<|Asg O<|aa<|ah<|Xp<|Mv O<|bp O (λ_=>a8 _) O O<|aa<|aT O<|Xp<|La 4 O O bL<|La 6 O O bL<|Ca O (eN _ _)<|Sa 6 hGF O O O bL<|aa<|Xq<|La 6 O O bL<|Ca O (rG _)<|Ca O (Cs _ r hr hl)<|Mv O<|Ext O O<|Ext O O<|Sa 7 hGF O O O bL<|aa<|ah<|Xd []<|La 7 O O bL<|Ca O (xD _)<|La 1 O O bL<|Ca O (xD _)<|Bnr O O (λ_=>bC _ _ _)<|aa<|?_;refine bD O (λhc=> ?_) (λhc=> ?_)
  ·have hs: ¬SG2 r=SG2 u:=bne_iff_ne.1 hc
   refine Xq<|La 7 O O bL<|Ca O (s6 _)<|Sa 7 hGF O O O bL<|aa<|gz (E:=EE []) (λX=>X=Hp (pl w) [(7,b7,(fe (ng2 r).1++fe (ng2 r).2).map U64,41)]) (mkB [2]) (rkB [62]) [0,1,2,3] cV O kr kr kr<|dN O O<|La 6 O O bL<|aa<|kC (X:=Hp (pl w) [(7,b7,(fe (ng2 r).1++fe (ng2 r).2).map U64,41)]) O (cO ao trv) (λ_=>rfl)<|La 7 O O bL<|aa<|fK O<|Sa 2 hGF O O O bL<|aa<|?_;refine ⟨λ_ X hX _=>by subst hX;exact cO ao trv, ?_⟩
   refine fK O<|Sa 3 hGF O O O bL<|aa<|?_;refine ⟨λh=>(by cases h), ?_⟩
   refine fR<|am<|Rr<|?_;exact iF 2 3 O O O O O isAgg41 sizeOf41 sm sm (λw hw=>⟨by rw[show sgS r u=_ from if_neg hs],ac hw⟩)
  ·have hs:SG2 r=SG2 u:=Decidable.byContradiction λe=>(by rw[bne_iff_ne.2 e]at hc;cases hc)
   refine aq<|gz (E:=EE []) (λX=>X=Hp (pl w) [(7,b7,(fe (r).1++fe (r).2).map U64,41)]) (mkB [2]) (rkB [62]) [0,1,2,3] cV O kr kr kr<|dN O O<|La 6 O O bL<|aa<|kC (X:=Hp (pl w) [(7,b7,(fe (r).1++fe (r).2).map U64,41)]) O (cO ao trv) (λ_=>rfl)<|La 7 O O bL<|aa<|fK O<|Sa 2 hGF O O O bL<|aa<|?_;refine ⟨λ_ X hX _=>by subst hX;exact cO ao trv, ?_⟩
   refine fK O<|Sa 3 hGF O O O bL<|aa<|?_;refine ⟨λh=>(by cases h), ?_⟩
   refine fR<|am<|Rr<|?_;exact iF 2 3 O O O O O isAgg41 sizeOf41 sm sm (λw hw=>⟨by rw[show sgS r u=_ from if_pos hs],ac hw⟩)
theorem rswu{u x r:W2}(h:SwR u x r):PUR 88 [EV2 u] (.tuple #[EV2 x,EV2 (sgS r u)]):=by
 obtain ⟨hr,hl,rfl|⟨hq,rfl⟩⟩:=h
 ·exact Ss u r hr hl
 ·exact Uv u r hq hr hl
end
section
open J2
open Go.RowKit
attribute [local simp] a6 bj aH aB aP aZ aQ aJ aM be bz a5 bv bB cM
theorem Vc(a b:Zp):PUR 84 [NV (nm a),NV (nm b)] (EV2 (a,b)):=by
 intro w hw;refine Hf func84 O hw<|λhGF=>Xp<|Bx 2 hGF O<|λb2=>Bx 3 hGF O<|λb3=>Al 4 hGF zv41<|λb4=>aa<|Xd []<|La 2 O O cf<|Ca O (Lt _)<|La 3 O O cf<|Ca O (Lt _)<|cr tz O O sm sm O O<|Sa 4 hGF O O O bL<|aa<|am<|Rr<|?_;exact av 4 O O O isAgg41 sizeOf41 sm (λw hw=>⟨rfl,ac hw⟩)
theorem kW(a b:Zp):PUR 139 [NV (nm a),NV (nm b)] (EV2 (a,b)):=by
 intro w hw;refine Hf func139 O hw<|λhGF=>Xp<|Bx 2 hGF O<|λb2=>Bx 3 hGF O<|λb3=>Al 4 hGF zv41<|λb4=>aa<|Xp<|La 2 O O cf<|La 3 O O cf<|Ca O (Vc _ _)<|Sa 4 hGF O O O bL<|aa<|am<|Rr<|?_;exact av 4 O O O isAgg41 sizeOf41 sm (λw hw=>⟨rfl,ac hw⟩)
theorem rA(a b:BitVec 64):PUR 140 [U64 a,U64 b] (EV2 (ng2 (sm2 a b))):=by
 intro w hw;refine Hf func140 O hw<|λhGF=>Xp<|Al 4 hGF zv41<|λb4=>aa<|Xp<|Mv O<|Mv O<|Ca O (A1 _ _)<|Ca O (s6 _)<|Sa 4 hGF O O O bL<|aa<|am<|Rr<|?_;exact av 4 O O O isAgg41 sizeOf41 sm (λw hw=>⟨rfl,ac hw⟩)
def cXN:Nat->W2
 |0=>(zp 0x5c759507e8e333ebb5b7a9a47d7ed8532c52d39fd3a042a88b58423c50ae15d5c2638e343d9c71c6238aaaaaaaa97d6,zp 0x5c759507e8e333ebb5b7a9a47d7ed8532c52d39fd3a042a88b58423c50ae15d5c2638e343d9c71c6238aaaaaaaa97d6)
 |1=>(0,zp 0x11560bf17baa99bc32126fced787c88f984f87adf7ae0c7f9a208c6b4f20a4181472aaa9cb8d555526a9ffffffffc71a)
 |2=>(zp 0x11560bf17baa99bc32126fced787c88f984f87adf7ae0c7f9a208c6b4f20a4181472aaa9cb8d555526a9ffffffffc71e,zp 0x8ab05f8bdd54cde190937e76bc3e447cc27c3d6fbd7063fcd104635a790520c0a395554e5c6aaaa9354ffffffffe38d)
 |_=>(zp 0x171d6541fa38ccfaed6dea691f5fb614cb14b4e7f4e810aa22d6108f142b85757098e38d0f671c7188e2aaaaaaaa5ed1,0)
theorem Za:iXN=[cXN 0,cXN 1,cXN 2,cXN 3]:=rfl
theorem VM:nm (zp 0x5c759507e8e333ebb5b7a9a47d7ed8532c52d39fd3a042a88b58423c50ae15d5c2638e343d9c71c6238aaaaaaaa97d6)=[7077594464397203414#64,6640057249351452444#64,9850925049107374429#64,3658379999393219626#64,13500519111022079365#64,416399692810564414#64]:=by decide+kernel
theorem Hi:PUR 139 [NV [7077594464397203414#64,6640057249351452444#64,9850925049107374429#64,3658379999393219626#64,13500519111022079365#64,416399692810564414#64],NV [7077594464397203414#64,6640057249351452444#64,9850925049107374429#64,3658379999393219626#64,13500519111022079365#64,416399692810564414#64]] (EV2 (cXN 0)):=by
 have h:=kW (zp 0x5c759507e8e333ebb5b7a9a47d7ed8532c52d39fd3a042a88b58423c50ae15d5c2638e343d9c71c6238aaaaaaaa97d6) (zp 0x5c759507e8e333ebb5b7a9a47d7ed8532c52d39fd3a042a88b58423c50ae15d5c2638e343d9c71c6238aaaaaaaa97d6);rw[VM]at h;exact h
theorem Ct:nm (0)=[0#64,0#64,0#64,0#64,0#64,0#64]:=by decide+kernel
theorem VR:nm (zp 0x11560bf17baa99bc32126fced787c88f984f87adf7ae0c7f9a208c6b4f20a4181472aaa9cb8d555526a9ffffffffc71a)=[2786039319482058522#64,1473427674344805717#64,11106031073612571672#64,10975139998179658879#64,3608069185647134863#64,1249199078431693244#64]:=by decide+kernel
theorem Gz:PUR 139 [NV [0#64,0#64,0#64,0#64,0#64,0#64],NV [2786039319482058522#64,1473427674344805717#64,11106031073612571672#64,10975139998179658879#64,3608069185647134863#64,1249199078431693244#64]] (EV2 (cXN 1)):=by
 have h:=kW (0) (zp 0x11560bf17baa99bc32126fced787c88f984f87adf7ae0c7f9a208c6b4f20a4181472aaa9cb8d555526a9ffffffffc71a);rw[Ct,VR]at h;exact h
theorem W7:nm (zp 0x11560bf17baa99bc32126fced787c88f984f87adf7ae0c7f9a208c6b4f20a4181472aaa9cb8d555526a9ffffffffc71e)=[2786039319482058526#64,1473427674344805717#64,11106031073612571672#64,10975139998179658879#64,3608069185647134863#64,1249199078431693244#64]:=by decide+kernel
theorem Xx:nm (zp 0x8ab05f8bdd54cde190937e76bc3e447cc27c3d6fbd7063fcd104635a790520c0a395554e5c6aaaa9354ffffffffe38d)=[10616391696595805069#64,736713837172402858#64,14776387573661061644#64,14710942035944605247#64,1804034592823567431#64,624599539215846622#64]:=by decide+kernel
theorem FJ:PUR 139 [NV [2786039319482058526#64,1473427674344805717#64,11106031073612571672#64,10975139998179658879#64,3608069185647134863#64,1249199078431693244#64],NV [10616391696595805069#64,736713837172402858#64,14776387573661061644#64,14710942035944605247#64,1804034592823567431#64,624599539215846622#64]] (EV2 (cXN 2)):=by
 have h:=kW (zp 0x11560bf17baa99bc32126fced787c88f984f87adf7ae0c7f9a208c6b4f20a4181472aaa9cb8d555526a9ffffffffc71e) (zp 0x8ab05f8bdd54cde190937e76bc3e447cc27c3d6fbd7063fcd104635a790520c0a395554e5c6aaaa9354ffffffffe38d);rw[W7,Xx]at h;exact h
theorem WB:nm (zp 0x171d6541fa38ccfaed6dea691f5fb614cb14b4e7f4e810aa22d6108f142b85757098e38d0f671c7188e2aaaaaaaa5ed1)=[9863633783879261905#64,8113484923696258161#64,2510212049010394485#64,14633519997572878506#64,17108588296669214228#64,1665598771242257658#64]:=by decide+kernel
theorem HL:PUR 139 [NV [9863633783879261905#64,8113484923696258161#64,2510212049010394485#64,14633519997572878506#64,17108588296669214228#64,1665598771242257658#64],NV [0#64,0#64,0#64,0#64,0#64,0#64]] (EV2 (cXN 3)):=by
 have h:=kW (zp 0x171d6541fa38ccfaed6dea691f5fb614cb14b4e7f4e810aa22d6108f142b85757098e38d0f671c7188e2aaaaaaaa5ed1) (0);rw[WB,Ct]at h;exact h
def cYN:Nat->W2
 |0=>(zp 0x1530477c7ab4113b59a4c18b076d11930f7da5d4a07f649bf54439d87d27e500fc8c25ebf8c92f6812cfc71c71c6d706,zp 0x1530477c7ab4113b59a4c18b076d11930f7da5d4a07f649bf54439d87d27e500fc8c25ebf8c92f6812cfc71c71c6d706)
 |1=>(0,zp 0x5c759507e8e333ebb5b7a9a47d7ed8532c52d39fd3a042a88b58423c50ae15d5c2638e343d9c71c6238aaaaaaaa97be)
 |2=>(zp 0x11560bf17baa99bc32126fced787c88f984f87adf7ae0c7f9a208c6b4f20a4181472aaa9cb8d555526a9ffffffffc71c,zp 0x8ab05f8bdd54cde190937e76bc3e447cc27c3d6fbd7063fcd104635a790520c0a395554e5c6aaaa9354ffffffffe38f)
 |_=>(zp 0x124c9ad43b6cf79bfbf7043de3811ad0761b0f37a1e26286b0e977c69aa274524e79097a56dc4bd9e1b371c71c718b10,0)
theorem Xg:iYN=[cYN 0,cYN 1,cYN 2,cYN 3]:=rfl
theorem YL:nm (zp 0x1530477c7ab4113b59a4c18b076d11930f7da5d4a07f649bf54439d87d27e500fc8c25ebf8c92f6812cfc71c71c6d706)=[1355520937843676934#64,18197961889718808424#64,17673314439684154624#64,1116230615302104219#64,6459500568425337235#64,1526798873638736187#64]:=by decide+kernel
theorem GC:PUR 139 [NV [1355520937843676934#64,18197961889718808424#64,17673314439684154624#64,1116230615302104219#64,6459500568425337235#64,1526798873638736187#64],NV [1355520937843676934#64,18197961889718808424#64,17673314439684154624#64,1116230615302104219#64,6459500568425337235#64,1526798873638736187#64]] (EV2 (cYN 0)):=by
 have h:=kW (zp 0x1530477c7ab4113b59a4c18b076d11930f7da5d4a07f649bf54439d87d27e500fc8c25ebf8c92f6812cfc71c71c6d706) (zp 0x1530477c7ab4113b59a4c18b076d11930f7da5d4a07f649bf54439d87d27e500fc8c25ebf8c92f6812cfc71c71c6d706);rw[YL]at h;exact h
theorem Zn:nm (zp 0x5c759507e8e333ebb5b7a9a47d7ed8532c52d39fd3a042a88b58423c50ae15d5c2638e343d9c71c6238aaaaaaaa97be)=[7077594464397203390#64,6640057249351452444#64,9850925049107374429#64,3658379999393219626#64,13500519111022079365#64,416399692810564414#64]:=by decide+kernel
theorem Kk:PUR 139 [NV [0#64,0#64,0#64,0#64,0#64,0#64],NV [7077594464397203390#64,6640057249351452444#64,9850925049107374429#64,3658379999393219626#64,13500519111022079365#64,416399692810564414#64]] (EV2 (cYN 1)):=by
 have h:=kW (0) (zp 0x5c759507e8e333ebb5b7a9a47d7ed8532c52d39fd3a042a88b58423c50ae15d5c2638e343d9c71c6238aaaaaaaa97be);rw[Ct,Zn]at h;exact h
theorem Wn:nm (zp 0x11560bf17baa99bc32126fced787c88f984f87adf7ae0c7f9a208c6b4f20a4181472aaa9cb8d555526a9ffffffffc71c)=[2786039319482058524#64,1473427674344805717#64,11106031073612571672#64,10975139998179658879#64,3608069185647134863#64,1249199078431693244#64]:=by decide+kernel
theorem X9:nm (zp 0x8ab05f8bdd54cde190937e76bc3e447cc27c3d6fbd7063fcd104635a790520c0a395554e5c6aaaa9354ffffffffe38f)=[10616391696595805071#64,736713837172402858#64,14776387573661061644#64,14710942035944605247#64,1804034592823567431#64,624599539215846622#64]:=by decide+kernel
theorem GO:PUR 139 [NV [2786039319482058524#64,1473427674344805717#64,11106031073612571672#64,10975139998179658879#64,3608069185647134863#64,1249199078431693244#64],NV [10616391696595805071#64,736713837172402858#64,14776387573661061644#64,14710942035944605247#64,1804034592823567431#64,624599539215846622#64]] (EV2 (cYN 2)):=by
 have h:=kW (zp 0x11560bf17baa99bc32126fced787c88f984f87adf7ae0c7f9a208c6b4f20a4181472aaa9cb8d555526a9ffffffffc71c) (zp 0x8ab05f8bdd54cde190937e76bc3e447cc27c3d6fbd7063fcd104635a790520c0a395554e5c6aaaa9354ffffffffe38f);rw[Wn,X9]at h;exact h
theorem Sv:nm (zp 0x124c9ad43b6cf79bfbf7043de3811ad0761b0f37a1e26286b0e977c69aa274524e79097a56dc4bd9e1b371c71c718b10)=[16263467779354626832#64,5654561228188306393#64,12747851915130467410#64,8510412652460270214#64,18155985086623849168#64,1318599027233453979#64]:=by decide+kernel
theorem IT:PUR 139 [NV [16263467779354626832#64,5654561228188306393#64,12747851915130467410#64,8510412652460270214#64,18155985086623849168#64,1318599027233453979#64],NV [0#64,0#64,0#64,0#64,0#64,0#64]] (EV2 (cYN 3)):=by
 have h:=kW (zp 0x124c9ad43b6cf79bfbf7043de3811ad0761b0f37a1e26286b0e977c69aa274524e79097a56dc4bd9e1b371c71c718b10) (0);rw[Sv,Ct]at h;exact h
def cXD:Nat->W2
 |0=>ng2 (sm2 0#64 72#64)
 |1=>(zp 12,-zp 12)
 |_=>on2
def cYD:Nat->W2
 |0=>ng2 (sm2 432#64 432#64)
 |1=>ng2 (sm2 0#64 216#64)
 |2=>(zp 18,-zp 18)
 |_=>on2
theorem W3:iXD=[cXD 0,cXD 1,cXD 2]:=by decide+kernel
theorem ZN:iYD=[cYD 0,cYD 1,cYD 2,cYD 3]:=by decide+kernel
def RPr(f:Nat->W2)(i:Nat):L6:=fe (f i).1++fe (f i).2
theorem dJ(f:Nat->W2)(i:Nat):(RPr f i).length=12:=by simp[RPr]
attribute [local simp] dJ
theorem o8(n:Nat)(f:Nat->W2)(x:W2)(b cap:Nat)(hn:n<=1000)(w:World)(hw:Gt w)(h:w.rangeAt b 0 ((RW 12 (RPr f) n).map U64)):
 CLS 138 [.slice (spt b) n cap,EV2 x].toArray w (λr w'=>r=.returned (EV2 (HK (λk=>f (n-1-k)) x n))/\Grow w w'):=by
 refine Hf func138 O hw<|λhGF=>Xp<|Bx 3 hGF O<|λb3=>Al 4 hGF zv41<|λb4=>aa<|Xp<|Al 5 hGF zv41<|λb5=>aa<|ah<|Xp<|Mv O<|bf O (λ_=>aG underlying85 _ _ _ _) O O<|Bnr (v:=I ((n:Int)-1-((0:Nat):Int))) O O (λ_=>(aW _ _ _ oi).trans (by rw[show (n:Int)-1-((0:Nat):Int)=(n:Int)-1 by omega]))<|Asg O<|aa<|ai<|bH (ι:={i:Nat // i<=n}) (λy=>[(0,.slice (spt b) n cap),(3,pnt b3),(4,pnt b4),(5,pnt b5),(6,I ((n:Int)-1-(y.1:Int)))]) (λy=>[(3,b3,(fe (x).1++fe (x).2).map U64,41),(4,b4,(fe 0++fe 0).map U64,41),(5,b5,(fe (HK (λk=>f (n-1-k)) x y.1).1++fe (HK (λk=>f (n-1-k)) x y.1).2).map U64,41)]) (λy=>n-y.1) ⟨0,Nat.zero_le _⟩ hGF trv trv<|?_
 rintro ⟨j,hj⟩;dsimp only;refine ah<|Xp<|Mv O<|cu (v:=.bool (decide ((0:Int)<=((n:Int)-1-(j:Int))))) O O (λ_=>rfl) (λ_=>df _ _ _) O O<|aa<|?_;refine bD O (λhc=> ?_) (λhc=> ?_)
 ·have hj2:j<n:=by have:=of_decide_eq_true hc;omega
  refine aq<|ah<|ai<|Xe []<|La 5 O O bL<|La 3 O O bL<|Ca O (eN _ _)<|Mv O<|Mv O<|iZ (s:=12) (n-1-j) O O underlying85 sizeOf41 om om O O<|da (cs:=(RPr f (n-1-j)).map U64) O isAgg41 sizeOf41 sm (λw' h'=>gL (fb h (λh=>h) w' h') om (dJ _ _)) O O<|Ca O (sU _ (f (n-1-j)))<|Sa 5 hGF O O O bL<|aa<|Xq<|Mv O<|Bnr (v:=I ((n:Int)-1-((j+1:Nat):Int))) O O (λ_=>(aW _ _ _ oi).trans (by rw[show (n:Int)-1-((j+1:Nat):Int)=(n:Int)-1-(j:Int)-1 by omega]))<|Asg O<|aa<|?_
  repeat (refine aO ?_)
  exact aC<|⟨rfl,⟨j+1,om⟩,_,by show n-(j+1)<n-j;omega,rfl,trv,trv⟩
 ·obtain rfl:j=n:=by have:=of_decide_eq_false hc;omega
  refine aV<|Xp<|La 5 O O bL<|Sa 4 hGF O O O bL<|aa<|am<|Rr<|?_;exact av 4 O O O isAgg41 sizeOf41 sm (λw hw=>⟨rfl,ac hw⟩)
theorem BC(x:W2)(b:Nat)(w:World)(hw:Gt w)(h:w.rangeAt b 0 ((RW 12 (RPr cXN) 4).map U64)):CLS 138 [.slice (spt b) 4 4,EV2 x].toArray w (λr w'=>r=.returned (EV2 (R2.pev iXN x))/\Grow w w'):=by
 have e:=o8 4 cXN x b 4 dc w hw h;rw[show HK (λk=>cXN (4-1-k)) x 4=R2.pev iXN x from (Dp _ x).trans (by rw[Za])]at e
 exact e
theorem CR(x:W2)(b:Nat)(w:World)(hw:Gt w)(h:w.rangeAt b 0 ((RW 12 (RPr cXD) 3).map U64)):CLS 138 [.slice (spt b) 3 3,EV2 x].toArray w (λr w'=>r=.returned (EV2 (R2.pev iXD x))/\Grow w w'):=by
 have e:=o8 3 cXD x b 3 dc w hw h;rw[show HK (λk=>cXD (3-1-k)) x 3=R2.pev iXD x from (HK_3 _ x).trans (by rw[W3])]at e
 exact e
theorem AW(x:W2)(b:Nat)(w:World)(hw:Gt w)(h:w.rangeAt b 0 ((RW 12 (RPr cYN) 4).map U64)):CLS 138 [.slice (spt b) 4 4,EV2 x].toArray w (λr w'=>r=.returned (EV2 (R2.pev iYN x))/\Grow w w'):=by
 have e:=o8 4 cYN x b 4 dc w hw h;rw[show HK (λk=>cYN (4-1-k)) x 4=R2.pev iYN x from (Dp _ x).trans (by rw[Xg])]at e
 exact e
theorem BV(x:W2)(b:Nat)(w:World)(hw:Gt w)(h:w.rangeAt b 0 ((RW 12 (RPr cYD) 4).map U64)):CLS 138 [.slice (spt b) 4 4,EV2 x].toArray w (λr w'=>r=.returned (EV2 (R2.pev iYD x))/\Grow w w'):=by
 have e:=o8 4 cYD x b 4 dc w hw h;rw[show HK (λk=>cYD (4-1-k)) x 4=R2.pev iYD x from (Dp _ x).trans (by rw[ZN])]at e
 exact e
end
section
open J2
open Go.RowKit
attribute [local simp] a6 bj aH aB aP aZ aQ aJ aM be bz a5 bv bB cM dJ
theorem riso(x y:W2)(h:ml2 y y=gO x):PUR 87 [EV2 x,EV2 y] (EV6 (XIs x,YIs x y,on2)):=by
 intro w hw;refine Hf func87 O hw<|λhGF=>Xp<|Bx 2 hGF O<|λb2=>Bx 3 hGF O<|λb3=>Al 4 hGF zv43<|λb4=>aa<|?_;refine jw (ι:=Nat) (λz=>[(2,pnt b2),(3,pnt b3),(4,pnt b4),(5,pnt z)]) (λz=>[(2,b2,(fe (x).1++fe (x).2).map U64,41),(3,b3,(fe (y).1++fe (y).2).map U64,41),(4,b4,((fe 0++fe 0)++((fe 0++fe 0)++(fe 0++fe 0))).map U64,43),(5,z,(fe (R2.pev iXN x).1++fe (R2.pev iXN x).2).map U64,41)]) hGF ?_ ?_
 ·refine mD (EE [2999998,2999999]) cV kr kr<|aR (m:=4) [0,1,2,3,4,5,6,7,8,9,10,11,13] kr<|bT (n:=6) O O underlying37 sizeOf24 zeroValue37 O O O O<|bT (n:=6) O O underlying37 sizeOf24 zeroValue37 O O O O<|Ca O (Hi)<|bT (n:=6) O O underlying37 sizeOf24 zeroValue37 O O O O<|bT (n:=6) O O underlying37 sizeOf24 zeroValue37 O O O O<|Ca O (Gz)<|bT (n:=6) O O underlying37 sizeOf24 zeroValue37 O O O O<|bT (n:=6) O O underlying37 sizeOf24 zeroValue37 O O O O<|Ca O (FJ)<|bT (n:=6) O O underlying37 sizeOf24 zeroValue37 O O O O<|bT (n:=6) O O underlying37 sizeOf24 zeroValue37 O O O O<|Ca O (HL)<|La 2 O O bL<|aa<|eH (m:=3) [12,15] kr kr dc<|?_
  intro i hi;simp only[List.mem_cons,List.not_mem_nil,or_false]at hi;rcases hi with rfl|rfl
  ·exact eX (s:=12) 21 (RPr cXN) (fe 0++fe 0) hGF O O O (λi _=>dJ _ _) dc dc underlying85 sizeOf41 sm zv41 O O<|λb21=>aa<|aR (m:=2) [14] kr<|Cc O ent138 (λw' hC hG=>BC x _ w' hG (aI (n:=21) O w' hC))<|aa<|aR (m:=1) [15] kr<|bF 5 hGF zv41 O O O<|λb5=>aa<|aR (m:=0) [16] kr<|Sa 5 hGF O O O bL<|aa<|cI kr<|aC<|⟨rfl,b5,_,rfl,trv,trv⟩
  ·exact bF 5 hGF zv41 O O O<|λb5=>aa<|aR (m:=2) [12] kr<|eX (s:=12) 21 (RPr cXN) (fe 0++fe 0) hGF O O O (λi _=>dJ _ _) dc dc underlying85 sizeOf41 sm zv41 O O<|λb21=>aa<|aR (m:=1) [14] kr<|Cc O ent138 (λw' hC hG=>BC x _ w' hG (aI (n:=21) O w' hC))<|aa<|aR (m:=0) [16] kr<|Sa 5 hGF O O O bL<|aa<|cI kr<|aC<|⟨rfl,b5,_,rfl,trv,trv⟩
 ·intro b5
  refine jw (ι:=Nat) (λz=>[(2,pnt b2),(3,pnt b3),(4,pnt b4),(5,pnt b5),(6,pnt z)]) (λz=>[(2,b2,(fe (x).1++fe (x).2).map U64,41),(3,b3,(fe (y).1++fe (y).2).map U64,41),(4,b4,((fe 0++fe 0)++((fe 0++fe 0)++(fe 0++fe 0))).map U64,43),(5,b5,(fe (R2.pev iXN x).1++fe (R2.pev iXN x).2).map U64,41),(6,z,(fe (R2.pev iXD x).1++fe (R2.pev iXD x).2).map U64,41)]) hGF ?_ ?_
  ·refine mD (EE [2999998,2999999]) cV kr kr<|aR (m:=4) [0,1,2,3,4,5,7] kr<|Ca O (rA 0#64 72#64)<|Ca O (iD _)<|Ca O (iD _)<|Ca O (wc _)<|cr tz O O sm sm O O<|Ca O (oA)<|La 2 O O bL<|aa<|eH (m:=3) [6,9] kr kr dc<|?_
   intro i hi;simp only[List.mem_cons,List.not_mem_nil,or_false]at hi;rcases hi with rfl|rfl
   ·exact eX (s:=12) 30 (RPr cXD) (fe 0++fe 0) hGF O O O (λi _=>dJ _ _) dc dc underlying85 sizeOf41 sm zv41 O O<|λb30=>aa<|aR (m:=2) [8] kr<|Cc O ent138 (λw' hC hG=>CR x _ w' hG (aI (n:=30) O w' hC))<|aa<|aR (m:=1) [9] kr<|bF 6 hGF zv41 O O O<|λb6=>aa<|aR (m:=0) [10] kr<|Sa 6 hGF O O O bL<|aa<|cI kr<|aC<|⟨rfl,b6,_,rfl,trv,trv⟩
   ·exact bF 6 hGF zv41 O O O<|λb6=>aa<|aR (m:=2) [6] kr<|eX (s:=12) 30 (RPr cXD) (fe 0++fe 0) hGF O O O (λi _=>dJ _ _) dc dc underlying85 sizeOf41 sm zv41 O O<|λb30=>aa<|aR (m:=1) [8] kr<|Cc O ent138 (λw' hC hG=>CR x _ w' hG (aI (n:=30) O w' hC))<|aa<|aR (m:=0) [10] kr<|Sa 6 hGF O O O bL<|aa<|cI kr<|aC<|⟨rfl,b6,_,rfl,trv,trv⟩
  ·intro b6
   refine jw (ι:=Nat) (λz=>[(2,pnt b2),(3,pnt b3),(4,pnt b4),(5,pnt b5),(6,pnt b6),(7,pnt z)]) (λz=>[(2,b2,(fe (x).1++fe (x).2).map U64,41),(3,b3,(fe (y).1++fe (y).2).map U64,41),(4,b4,((fe 0++fe 0)++((fe 0++fe 0)++(fe 0++fe 0))).map U64,43),(5,b5,(fe (R2.pev iXN x).1++fe (R2.pev iXN x).2).map U64,41),(6,b6,(fe (R2.pev iXD x).1++fe (R2.pev iXD x).2).map U64,41),(7,z,(fe (R2.pev iYN x).1++fe (R2.pev iYN x).2).map U64,41)]) hGF ?_ ?_
   ·refine mD (EE [2999998,2999999]) cV kr kr<|aR (m:=4) [0,1,2,3,4,5,6,7,8,9,10,11,13] kr<|bT (n:=6) O O underlying37 sizeOf24 zeroValue37 O O O O<|bT (n:=6) O O underlying37 sizeOf24 zeroValue37 O O O O<|Ca O (GC)<|bT (n:=6) O O underlying37 sizeOf24 zeroValue37 O O O O<|bT (n:=6) O O underlying37 sizeOf24 zeroValue37 O O O O<|Ca O (Kk)<|bT (n:=6) O O underlying37 sizeOf24 zeroValue37 O O O O<|bT (n:=6) O O underlying37 sizeOf24 zeroValue37 O O O O<|Ca O (GO)<|bT (n:=6) O O underlying37 sizeOf24 zeroValue37 O O O O<|bT (n:=6) O O underlying37 sizeOf24 zeroValue37 O O O O<|Ca O (IT)<|La 2 O O bL<|aa<|eH (m:=3) [12,15] kr kr dc<|?_
    intro i hi;simp only[List.mem_cons,List.not_mem_nil,or_false]at hi;rcases hi with rfl|rfl
    ·exact eX (s:=12) 45 (RPr cYN) (fe 0++fe 0) hGF O O O (λi _=>dJ _ _) dc dc underlying85 sizeOf41 sm zv41 O O<|λb45=>aa<|aR (m:=2) [14] kr<|Cc O ent138 (λw' hC hG=>AW x _ w' hG (aI (n:=45) O w' hC))<|aa<|aR (m:=1) [15] kr<|bF 7 hGF zv41 O O O<|λb7=>aa<|aR (m:=0) [16] kr<|Sa 7 hGF O O O bL<|aa<|cI kr<|aC<|⟨rfl,b7,_,rfl,trv,trv⟩
    ·exact bF 7 hGF zv41 O O O<|λb7=>aa<|aR (m:=2) [12] kr<|eX (s:=12) 45 (RPr cYN) (fe 0++fe 0) hGF O O O (λi _=>dJ _ _) dc dc underlying85 sizeOf41 sm zv41 O O<|λb45=>aa<|aR (m:=1) [14] kr<|Cc O ent138 (λw' hC hG=>AW x _ w' hG (aI (n:=45) O w' hC))<|aa<|aR (m:=0) [16] kr<|Sa 7 hGF O O O bL<|aa<|cI kr<|aC<|⟨rfl,b7,_,rfl,trv,trv⟩
   ·intro b7
    refine jw (ι:=Nat) (λz=>[(2,pnt b2),(3,pnt b3),(4,pnt b4),(5,pnt b5),(6,pnt b6),(7,pnt b7),(8,pnt z)]) (λz=>[(2,b2,(fe (x).1++fe (x).2).map U64,41),(3,b3,(fe (y).1++fe (y).2).map U64,41),(4,b4,((fe 0++fe 0)++((fe 0++fe 0)++(fe 0++fe 0))).map U64,43),(5,b5,(fe (R2.pev iXN x).1++fe (R2.pev iXN x).2).map U64,41),(6,b6,(fe (R2.pev iXD x).1++fe (R2.pev iXD x).2).map U64,41),(7,b7,(fe (R2.pev iYN x).1++fe (R2.pev iYN x).2).map U64,41),(8,z,(fe (R2.pev iYD x).1++fe (R2.pev iYD x).2).map U64,41)]) hGF ?_ ?_
    ·refine mD (EE [2999998,2999999]) cV kr kr<|aR (m:=4) [0,1,2,3,4,5,6,8] kr<|Ca O (rA 432#64 432#64)<|Ca O (rA 0#64 216#64)<|Ca O (iD _)<|Ca O (iD _)<|Ca O (wc _)<|cr tz O O sm sm O O<|Ca O (oA)<|La 2 O O bL<|aa<|eH (m:=3) [7,10] kr kr dc<|?_
     intro i hi;simp only[List.mem_cons,List.not_mem_nil,or_false]at hi;rcases hi with rfl|rfl
     ·exact eX (s:=12) 55 (RPr cYD) (fe 0++fe 0) hGF O O O (λi _=>dJ _ _) dc dc underlying85 sizeOf41 sm zv41 O O<|λb55=>aa<|aR (m:=2) [9] kr<|Cc O ent138 (λw' hC hG=>BV x _ w' hG (aI (n:=55) O w' hC))<|aa<|aR (m:=1) [10] kr<|bF 8 hGF zv41 O O O<|λb8=>aa<|aR (m:=0) [11] kr<|Sa 8 hGF O O O bL<|aa<|cI kr<|aC<|⟨rfl,b8,_,rfl,trv,trv⟩
     ·exact bF 8 hGF zv41 O O O<|λb8=>aa<|aR (m:=2) [7] kr<|eX (s:=12) 55 (RPr cYD) (fe 0++fe 0) hGF O O O (λi _=>dJ _ _) dc dc underlying85 sizeOf41 sm zv41 O O<|λb55=>aa<|aR (m:=1) [9] kr<|Cc O ent138 (λw' hC hG=>BV x _ w' hG (aI (n:=55) O w' hC))<|aa<|aR (m:=0) [11] kr<|Sa 8 hGF O O O bL<|aa<|cI kr<|aC<|⟨rfl,b8,_,rfl,trv,trv⟩
    ·intro b8
     refine ah<|Xp<|La 6 O O bL<|Cbl false O ent57 (kT _) (decide_eq_false (wT h))<|Mv O<|La 8 O O bL<|Cbl false O ent57 (kT _) (decide_eq_false (vZ h))<|Pk O O O<|aa<|aD O<|aq<|Xd []<|La 5 O O bL<|La 6 O O bL<|Ca O (me _)<|Ca O (eN _ _)<|La 3 O O bL<|La 7 O O bL<|Ca O (eN _ _)<|La 8 O O bL<|Ca O (me _)<|Ca O (eN _ _)<|Ca O (Zq _ _)<|Sa 4 hGF O O O kp<|aa<|am<|Rr<|?_;exact av 4 O O O isAgg43 sizeOf43 sm (λw hw=>⟨rfl,ac hw⟩)
theorem rmap{u x r:W2}(h:SwR u x r):PUR 39 [EV2 u] (EV6 (XIs x,YIs x (sgS r u),on2)):=by
 intro w hw;refine Hf func39 O hw<|λhGF=>Xp<|Bx 1 hGF O<|λb1=>Al 2 hGF zv43<|λb2=>aa<|Xp<|La 1 O O bL<|Ca O (rswu h)<|Ext O O<|Ext O O<|Ca O (riso _ _ h.on)<|Sa 2 hGF O O O kp<|aa<|am<|Rr<|?_;exact av 2 O O O isAgg43 sizeOf43 sm (λw hw=>⟨rfl,ac hw⟩)
end
section
open J2
open Go.RowKit
attribute [local simp] a6 bj aH aB aP aZ aQ aJ aM be bz a5 bv bB cM dJ
theorem ent280:ak prog 280:=λ_ _=>kr
theorem lZ(s0:ByteArray)(xs:L8)(h0:s0.data.toList=xs.map (λx=>UInt8.ofBitVec x)):PUR 268 [.string s0] (EV (FV xs)):=by
 intro w hw;refine Hf func268 O hw<|λhGF=>ae (E:=EE [1000022])<|Al 2 hGF zv52<|λb2=>aa<|ae (E:=EE [1000022])<|Mv O<|?_;refine zW 7 (xs:=xs) O hGF O underlying9 underlying22 underlying5 h0 O O (λb7 c7 k7 e7 l7 t7=> ?_);refine Cc O ent74 (λw' hC hG=>ef _ _ xs w' hG (cF (aI (n:=7) O w' hC) t7))<|Mv O<|Ext O O<|Ext O O<|Al 3 hGF zv52<|λb3=>Sa 3 hGF O O O bO<|Asg O<|aa<|ae (E:=EE [1000022])<|La 3 O O bO<|Sa 2 hGF O O O bO<|aa<|am<|Rr<|?_;exact av 2 O O O isAgg52 sizeOf52 sm (λw hw=>⟨rfl,ac hw⟩)
def R24(f g:Nat->W2)(i:Nat):L6:=(fe (f i).1++fe (f i).2)++(fe (g i).1++fe (g i).2)
theorem km(f g:Nat->W2)(i:Nat):(R24 f g i).length=24:=by simp[R24]
attribute [local simp] km
def z4:Nat->W2:=λ_=>ze2
abbrev R4(f g:Nat->W2):Value:=aL (RW 24 (R24 f g) 4)
theorem zv297(w:World):(zeroValue 297).run prog w=.ok (aL ((fe 0++fe 0)++(fe 0++fe 0))) w:=by rw[jg];exact (zeroValue297 w).trans rr
theorem lp:Two prog 297 ⟨ "over",78,0,false, "", "pharos/swu",0⟩ ⟨ "under",78,12,false, "", "pharos/swu",96⟩ 12 12 (fe 0++fe 0) (fe 0++fe 0):=⟨underlying297,rfl,rfl,sizeOf78,sizeOf78,zv297,sm,sm⟩
theorem QW:RW 24 (R24 z4 z4) 4=List.replicate 96 0#64:=by
 have e: ∀i,R24 z4 z4 i=List.replicate 24 0#64:=λi=>by
  show (fe 0++fe 0)++(fe 0++fe 0)=List.replicate 24 0#64;rw[jg];rfl
 simp only[RW,e];rfl
theorem zv298(w:World):(zeroValue 298).run prog w=.ok (R4 z4 z4) w:=by
 show _=Result.ok (Value.agg ((RW 24 (R24 z4 z4) 4).map U64).toArray) w;rw[QW];exact (zeroValue298 w).trans rr
theorem B1(f z:Nat->L6): ∀i,i<4->yV f [0,1,2,3] z i=f i:=λi hi=>pN _ _ _ _ (.inl (by
 match i,hi with
 |0,_=>decide
 |1,_=>decide
 |2,_=>decide
 |3,_=>decide))
theorem rn(f g:Nat->W2)(w:World)(hw:Gt w):CLS 267 [R4 f g].toArray w (λe w'=> ∃b1,e=.returned (.func (.func 280) #[] #[pnt b1])/\Grow w w'/\w.heap.size<=b1/\OwnB w' b1 ((RW 24 (R24 f g) 4).map U64) 298):=by
 refine Hf func267 O hw<|λhGF=>Xp<|Bx 1 hGF O<|λb1=>Asg O<|aa<|Xp<|go O O O O<|Asg O<|aa<|am<|Rr<|?_;exact aF O O (λw hw=>⟨b1,rfl,ac hw,(hw.own 1 b1 _ _ O).2.elim id False.elim,(hw.own 1 b1 _ _ O).1⟩)
def PS4(f g:Nat->W2):List (List Value):=(List.range 4).map λ(k:Nat)=>[EV2 (f k),EV2 (g k)]
theorem vI(f g:Nat->W2):(PS4 f g).length=4:=by rw[PS4,List.length_map,List.length_range]
theorem Dh(f g:Nat->W2)(k:Nat)(h:k<4):(PS4 f g)[k]? =some [EV2 (f k),EV2 (g k)]:=by
 rw[PS4,List.getElem?_map,List.getElem?_range h];rfl
theorem QC(f g:Nat->W2)(k:Nat)(v:List Value)(h:(PS4 f g)[k]? =some v):k<4/\v=[EV2 (f k),EV2 (g k)]:=by
 have hk:k<4:=by
  rcases Nat.lt_or_ge k 4 with hk|hk
  ·exact hk
  ·rw[List.getElem?_eq_none (by rw[vI];exact hk)]at h;cases h
 exact ⟨hk,(Option.some.inj ((Dh f g k hk).symm.trans h)).symm⟩
def Qv(bb:Nat)(f g:Nat->W2):Cls:=λw=>w.rangeAt bb 0 ((RW 24 (R24 f g) 4).map U64)
theorem Hs(bb:Nat)(f g:Nat->W2):fP prog Gt 280 [pnt bb] (PS4 f g) (Qv bb f g):=by
 intro l J Jx hJ hJx hRd hGx hY w hj;have okJ: ∀k,BOk Gt (Bi w (λY=>J Y k)):=λk=>⟨λ_ _ _ h=>(hRd _ _ _ h.rid).1,hJ k⟩;have okX: ∀k,BOk Gt (Bi w (λY=>Jx Y k)):=λk=>⟨λ_ _ _ h=>hGx _ _ _ h.rid,hJx k⟩;have c1: ∀k L w',Hp (Bi w (λY=>J Y k)) L w'->Qv bb f g w':=λk L w' h=>(hRd _ _ _ h.rid).2;refine cv (G:=Gt) func280 O O (Hp (Bi w (λY=>J Y 0)) []) (cj (Bi w _) hj (hJ 0)) (az (okJ 0))<|Xp<|da O isAgg298 sizeOf298 sm (λw h=>c1 _ _ w h) O O<|Mv O<|aa<|ai<|gE (ι:={i:Nat // i<=4}) (λy=>[(0,.func (.yield l) #[] #[]),(1,pnt bb),(5,R4 f g),(6,I (y.1:Int))]) (λy=>Bi w (λY=>J Y y.1)) (λy=>[]) (λy=>4-y.1) ⟨0,Nat.zero_le _⟩ (λ_=>okJ _) O trv trivial<|?_;rintro ⟨i,hi⟩;dsimp only;refine Xp<|Bnr O O (λ_=>aw _ _ _)<|aa<|ah<|?_;refine bD O (λhc=> ?_) (λhc=> ?_)
 ·have hi2:i<4:=by simp at hc;omega
  refine aq<|ah<|ai<|Xp<|MZ (s:=24) (R24 f g) i O O underlying298 sizeOf297 isAgg297 O om (km _ _ _) O O<|Al 4 (okJ _) zv297<|λb4=>Sa 4 (okJ _) O O O Z3<|aa<|Xp<|Mv O<|Fa 0 O underlying297 O sizeOf78<|ay 4 _ O O isAgg78 sizeOf78 sm eu O O<|Fa 12 O underlying297 O sizeOf78<|ay 4 _ O O isAgg78 sizeOf78 sm (jk sm) O O<|?_;refine dB (hY.b (k:=i) (Dh f g i om) w) (okJ _) (okX _) O O O O O ?_ ?_
  ·refine bp O (λ_=>a8 _) O O<|aa<|aD O<|aq<|Xq<|Bnr O O (λ_=>au _ _ _ oi)<|Mv O<|aa<|?_
   repeat (refine aO ?_)
   exact aC<|⟨rfl,⟨i+1,om⟩,_,by show 4-(i+1)<4-i;omega,rfl,trv,trivial⟩
  ·refine bp O (λ_=>a8 _) O O<|aa<|aT O<|am<|Rr<|?_
   repeat (first|refine dC ?_|refine cm ?_|refine dP O ?_|refine bJ ?_|refine bM ?_)
   exact du O (λw hw=>⟨⟨_,rfl⟩,.inr ⟨_,ca (hJx _) hw.rid⟩⟩)
 ·obtain rfl:i=4:=by simp at hc;omega
  refine aV ?_
  repeat (first|refine dC ?_|refine cm ?_|refine dP O ?_|refine bJ ?_|refine bM ?_)
  refine cP O (λw hw=>⟨⟨_,rfl⟩,.inl ?_⟩);have:=ca (hJ _) hw.rid;rw[vI];exact this
end
section
open J2
open Go.RowKit
attribute [local simp] a6 bj aH aB aP aZ aQ aJ aM be bz a5 bv bB cM dJ km
theorem kd{w w':World}{b o:Nat}{cs:List Value}(hg:Grow w w')(h:w.rangeAt b o cs):w'.rangeAt b o cs:=λj v hj=>(hg.cell (block_lt_of_cell (h j v hj))).trans (h j v hj)
theorem pU(x:W2)(f g:Nat->W2)(bb:Nat)(w:World)(hw:Gt w)(hRs: ∀w',Grow w w'->Qv bb f g w'):
 CLS 243 [EV2 x,.func (.func 280) #[] #[pnt bb]].toArray w (λr w'=>r=.returned (.tuple #[EV2 (HK f x 4),EV2 (HK g x 4)])/\Grow w w'):=by
 have hGF:BOk Gt (pl w):=gt_low.plain hw;refine cw (G:=Gt) func243 O O (Hp (pl w) []) (cj (pl w) trivial ao) (az hGF)<|Xp<|Bx 2 hGF O<|λb2=>Al 4 hGF zv78<|λb4=>Al 5 hGF zv78<|λb5=>aa<|ah<|Xp<|Mv O<|aa<|ai<|?_;refine fq (λ_=>pl w) (λ_ _=>pl w) (λ_=>hGF) (λ_ _=>hGF) (λ_=>rfl) (λ_ _=>rfl) O O ent280 (Hs bb f g) (λx hx=>by obtain ⟨k,hk,rfl⟩:=List.mem_map.1 hx;rfl) O (λk=>[(2,b2,(fe (x).1++fe (x).2).map U64,78),(4,b4,(fe (HK f x k).1++fe (HK f x k).2).map U64,78),(5,b5,(fe (HK g x k).1++fe (HK g x k).2).map U64,78)]) (λ_ _ _=>False) trv (λk _ w' h=>hRs w' (h.below (λ_ h=>h))) ?_ ?_ (λ_ _ _ _ _ h=>h.elim)
 ·intro k v hx R hR
  obtain ⟨hk,rfl⟩:=QC f g k v hx;refine Xp<|dS 6 (hR (pl w) O hGF).1 zv78 O O<|λb6=>aA 6 (hR (pl w) O hGF).1 O O O sizeOf78 sm sm (bc _) O<|aa<|Xq<|dS 7 (hR (pl w) O hGF).1 zv78 O O<|λb7=>aA 7 (hR (pl w) O hGF).1 O O O sizeOf78 sm sm (bc _) O<|aa<|?_;refine ⟨rfl,_,rfl, ?_⟩;refine ai<|Xe []<|La 4 O O aX<|La 2 O O aX<|Ca O (dM _ _)<|La 6 O O aX<|Ca O (fC _ _)<|La 5 O O aX<|La 2 O O aX<|Ca O (dM _ _)<|La 7 O O aX<|Ca O (fC _ _)<|aA 4 (hR (pl w) O hGF).2.1 O O O sizeOf78 sm sm (bc _) O<|aA 5 (hR (pl w) O hGF).2.1 O O O sizeOf78 sm sm (bc _) O<|aa<|?_
  repeat (refine aO ?_)
  exact ⟨_,rfl,trv⟩
 ·intro D hD
  rw[vI];refine gz (E:=EE []) (λX=>X=Hp (B2 (pl w) D) [(5,b5,(fe (HK g x 4).1++fe (HK g x 4).2).map U64,78)]) (mkB [4]) (rkB [22]) [0,1,2,3] cV O kr kr kr<|dN O O<|La 4 O O aX<|aa<|kC (X:=Hp (B2 (pl w) D) [(5,b5,(fe (HK g x 4).1++fe (HK g x 4).2).map U64,78)]) O (cO hD.r trv) (λ_=>rfl)<|La 5 O O aX<|aa<|fK O<|Sa 4 hD O O O aX<|aa<|?_;refine ⟨λ_ X hX _=>by subst hX;exact cO hD.r trv, ?_⟩
  refine fK O<|Sa 5 hD O O O aX<|aa<|?_;refine ⟨λh=>(by cases h), ?_⟩
  refine fR<|am<|Rr<|?_;exact dX (.inl O) ao (iF 4 5 O O O O O isAgg78 sizeOf78 sm sm (λw hw=>⟨rfl,ac hw⟩))
def oX(k:Nat):W2:=cXN (3-k)
def oY(k:Nat):W2:=cYN (3-k)
def uX:Nat->W2
 |0=>ze2
 |1=>on2
 |2=>(zp 12,-zp 12)
 |_=>(0,-zp 72)
def uY:Nat->W2
 |0=>on2
 |1=>(zp 18,-zp 18)
 |2=>(0,-zp 216)
 |_=>(-zp 432,-zp 432)
theorem oX_h(x:W2):HK oX x 4=R2.pev iXN x:=Dp oX x
theorem oY_h(x:W2):HK oY x 4=R2.pev iYN x:=Dp oY x
theorem uX_h(x:W2):HK uX x 4=R2.pev iXD x:=(HK_z uX x O).trans (by rw[show [uX 3,uX 2,uX 1]=iXD by decide+kernel])
theorem uY_h(x:W2):HK uY x 4=R2.pev iYD x:=(Dp uY x).trans (by rw[show [uY 3,uY 2,uY 1,uY 0]=iYD by decide+kernel])
def pb0:L8:=[23#8,29#8,101#8,65#8,250#8,56#8,204#8,250#8,237#8,109#8,234#8,105#8,31#8,95#8,182#8,20#8,203#8,20#8,180#8,231#8,244#8,232#8,16#8,170#8,34#8,214#8,16#8,143#8,20#8,43#8,133#8,117#8,112#8,152#8,227#8,141#8,15#8,103#8,28#8,113#8,136#8,226#8,170#8,170#8,170#8,170#8,94#8,209#8]
theorem WA:FV pb0=zp 0x171d6541fa38ccfaed6dea691f5fb614cb14b4e7f4e810aa22d6108f142b85757098e38d0f671c7188e2aaaaaaaa5ed1:=by rw[FV,if_pos ⟨rfl,by decide+kernel⟩];decide+kernel
theorem ZV(s0:ByteArray)(h0:s0.data.toList=pb0.map (λx=>UInt8.ofBitVec x)){a:Zp}(ha:zp 0x171d6541fa38ccfaed6dea691f5fb614cb14b4e7f4e810aa22d6108f142b85757098e38d0f671c7188e2aaaaaaaa5ed1=a):PUR 268 [.string s0] (EV a):=by
 have h:=lZ s0 pb0 h0;rw[WA,ha]at h;exact h
def pb1:L8:=[17#8,86#8,11#8,241#8,123#8,170#8,153#8,188#8,50#8,18#8,111#8,206#8,215#8,135#8,200#8,143#8,152#8,79#8,135#8,173#8,247#8,174#8,12#8,127#8,154#8,32#8,140#8,107#8,79#8,32#8,164#8,24#8,20#8,114#8,170#8,169#8,203#8,141#8,85#8,85#8,38#8,169#8,255#8,255#8,255#8,255#8,199#8,30#8]
theorem V9:FV pb1=zp 0x11560bf17baa99bc32126fced787c88f984f87adf7ae0c7f9a208c6b4f20a4181472aaa9cb8d555526a9ffffffffc71e:=by rw[FV,if_pos ⟨rfl,by decide+kernel⟩];decide+kernel
theorem WM(s0:ByteArray)(h0:s0.data.toList=pb1.map (λx=>UInt8.ofBitVec x)){a:Zp}(ha:zp 0x11560bf17baa99bc32126fced787c88f984f87adf7ae0c7f9a208c6b4f20a4181472aaa9cb8d555526a9ffffffffc71e=a):PUR 268 [.string s0] (EV a):=by
 have h:=lZ s0 pb1 h0;rw[V9,ha]at h;exact h
def pb2:L8:=[8#8,171#8,5#8,248#8,189#8,213#8,76#8,222#8,25#8,9#8,55#8,231#8,107#8,195#8,228#8,71#8,204#8,39#8,195#8,214#8,251#8,215#8,6#8,63#8,205#8,16#8,70#8,53#8,167#8,144#8,82#8,12#8,10#8,57#8,85#8,84#8,229#8,198#8,170#8,170#8,147#8,84#8,255#8,255#8,255#8,255#8,227#8,141#8]
theorem Y5:FV pb2=zp 0x8ab05f8bdd54cde190937e76bc3e447cc27c3d6fbd7063fcd104635a790520c0a395554e5c6aaaa9354ffffffffe38d:=by rw[FV,if_pos ⟨rfl,by decide+kernel⟩];decide+kernel
theorem Wl(s0:ByteArray)(h0:s0.data.toList=pb2.map (λx=>UInt8.ofBitVec x)){a:Zp}(ha:zp 0x8ab05f8bdd54cde190937e76bc3e447cc27c3d6fbd7063fcd104635a790520c0a395554e5c6aaaa9354ffffffffe38d=a):PUR 268 [.string s0] (EV a):=by
 have h:=lZ s0 pb2 h0;rw[Y5,ha]at h;exact h
def pb3:L8:=[17#8,86#8,11#8,241#8,123#8,170#8,153#8,188#8,50#8,18#8,111#8,206#8,215#8,135#8,200#8,143#8,152#8,79#8,135#8,173#8,247#8,174#8,12#8,127#8,154#8,32#8,140#8,107#8,79#8,32#8,164#8,24#8,20#8,114#8,170#8,169#8,203#8,141#8,85#8,85#8,38#8,169#8,255#8,255#8,255#8,255#8,199#8,26#8]
theorem aaP:FV pb3=zp 0x11560bf17baa99bc32126fced787c88f984f87adf7ae0c7f9a208c6b4f20a4181472aaa9cb8d555526a9ffffffffc71a:=by rw[FV,if_pos ⟨rfl,by decide+kernel⟩];decide+kernel
theorem Wo(s0:ByteArray)(h0:s0.data.toList=pb3.map (λx=>UInt8.ofBitVec x)){a:Zp}(ha:zp 0x11560bf17baa99bc32126fced787c88f984f87adf7ae0c7f9a208c6b4f20a4181472aaa9cb8d555526a9ffffffffc71a=a):PUR 268 [.string s0] (EV a):=by
 have h:=lZ s0 pb3 h0;rw[aaP,ha]at h;exact h
def pb4:L8:=[5#8,199#8,89#8,80#8,126#8,142#8,51#8,62#8,187#8,91#8,122#8,154#8,71#8,215#8,237#8,133#8,50#8,197#8,45#8,57#8,253#8,58#8,4#8,42#8,136#8,181#8,132#8,35#8,197#8,10#8,225#8,93#8,92#8,38#8,56#8,227#8,67#8,217#8,199#8,28#8,98#8,56#8,170#8,170#8,170#8,170#8,151#8,214#8]
theorem WD:FV pb4=zp 0x5c759507e8e333ebb5b7a9a47d7ed8532c52d39fd3a042a88b58423c50ae15d5c2638e343d9c71c6238aaaaaaaa97d6:=by rw[FV,if_pos ⟨rfl,by decide+kernel⟩];decide+kernel
theorem OF(s0:ByteArray)(h0:s0.data.toList=pb4.map (λx=>UInt8.ofBitVec x)){a:Zp}(ha:zp 0x5c759507e8e333ebb5b7a9a47d7ed8532c52d39fd3a042a88b58423c50ae15d5c2638e343d9c71c6238aaaaaaaa97d6=a):PUR 268 [.string s0] (EV a):=by
 have h:=lZ s0 pb4 h0;rw[WD,ha]at h;exact h
theorem jz(w:World)(hw:Gt w):CLS 244 [].toArray w (λe w'=> ∃b1,e=.returned (.func (.func 280) #[] #[pnt b1])/\Grow w w'/\w.heap.size<=b1/\OwnB w' b1 ((RW 24 (R24 oX uX) 4).map U64) 298):=by
 refine Hf func244 O hw<|λhGF=>ae (E:=EE [267,2000267])<|Asg O<|aa<|ae (E:=EE [267,2000267])<|Ca O (ZV _ O O)<|CQ f9 O sm O O<|Mh f9 O O<|cr lp O O sm sm O O<|Ca O (WM _ O O)<|Ca O (Wl _ O O)<|cr f9 O O sm sm O O<|Ca O (sW)<|cr lp O O sm sm O O<|Ca O (Wo _ O O)<|mZ f9 O sm O O<|Ca O (eQ _)<|Ca O (eQ _)<|Ca O (ee _)<|cr f9 O O sm sm O O<|cr lp O O sm sm O O<|Ca O (OF _ O O)<|Ca O (OF _ O O)<|cr f9 O O sm sm O O<|Ca O (eQ _)<|Ca O (ee _)<|mZ f9 O sm O O<|cr lp O O sm sm O O<|qt (s:=24) (R24 oX uX) (R24 oX uX) [0,1,2,3] O O O (λi _=>km _ _ _) underlying298 sizeOf297 zv298 (B1 _ _) O O<|?_;refine bK O O ent267 O O (λw' hw'=>(rn oX uX w' (hGF.g _ _ _ hw')).mono λe' w'' h=> ?_);obtain ⟨c1,rfl,hg,h1,ho⟩:=h;refine ⟨_,_,rfl,az hGF,hw'.news ao hg [(33,c1,(RW 24 (R24 oX uX) 4).map U64,298)] ?_ bS,bQ ao O, ?_⟩
 ·intro n' b' c' t' hl
  rcases aK hl with ⟨_,e⟩|⟨_,hl⟩
  ·cases e;exact ⟨h1,ho⟩
  ·cases hl
 clear hw' hg h1 ho;refine Asg O<|aa<|am<|Rr<|?_;exact aF O O (λw hw=>⟨c1,rfl,ac hw,(hw.own 33 c1 _ _ O).2.elim id False.elim,(hw.own 33 c1 _ _ O).1⟩)
def pb5:L8:=[18#8,76#8,154#8,212#8,59#8,108#8,247#8,155#8,251#8,247#8,4#8,61#8,227#8,129#8,26#8,208#8,118#8,27#8,15#8,55#8,161#8,226#8,98#8,134#8,176#8,233#8,119#8,198#8,154#8,162#8,116#8,82#8,78#8,121#8,9#8,122#8,86#8,220#8,75#8,217#8,225#8,179#8,113#8,199#8,28#8,113#8,139#8,16#8]
theorem aaw:FV pb5=zp 0x124c9ad43b6cf79bfbf7043de3811ad0761b0f37a1e26286b0e977c69aa274524e79097a56dc4bd9e1b371c71c718b10:=by rw[FV,if_pos ⟨rfl,by decide+kernel⟩];decide+kernel
theorem Yy(s0:ByteArray)(h0:s0.data.toList=pb5.map (λx=>UInt8.ofBitVec x)){a:Zp}(ha:zp 0x124c9ad43b6cf79bfbf7043de3811ad0761b0f37a1e26286b0e977c69aa274524e79097a56dc4bd9e1b371c71c718b10=a):PUR 268 [.string s0] (EV a):=by
 have h:=lZ s0 pb5 h0;rw[aaw,ha]at h;exact h
def pb6:L8:=[17#8,86#8,11#8,241#8,123#8,170#8,153#8,188#8,50#8,18#8,111#8,206#8,215#8,135#8,200#8,143#8,152#8,79#8,135#8,173#8,247#8,174#8,12#8,127#8,154#8,32#8,140#8,107#8,79#8,32#8,164#8,24#8,20#8,114#8,170#8,169#8,203#8,141#8,85#8,85#8,38#8,169#8,255#8,255#8,255#8,255#8,199#8,28#8]
theorem Zh:FV pb6=zp 0x11560bf17baa99bc32126fced787c88f984f87adf7ae0c7f9a208c6b4f20a4181472aaa9cb8d555526a9ffffffffc71c:=by rw[FV,if_pos ⟨rfl,by decide+kernel⟩];decide+kernel
theorem YB(s0:ByteArray)(h0:s0.data.toList=pb6.map (λx=>UInt8.ofBitVec x)){a:Zp}(ha:zp 0x11560bf17baa99bc32126fced787c88f984f87adf7ae0c7f9a208c6b4f20a4181472aaa9cb8d555526a9ffffffffc71c=a):PUR 268 [.string s0] (EV a):=by
 have h:=lZ s0 pb6 h0;rw[Zh,ha]at h;exact h
def pb7:L8:=[8#8,171#8,5#8,248#8,189#8,213#8,76#8,222#8,25#8,9#8,55#8,231#8,107#8,195#8,228#8,71#8,204#8,39#8,195#8,214#8,251#8,215#8,6#8,63#8,205#8,16#8,70#8,53#8,167#8,144#8,82#8,12#8,10#8,57#8,85#8,84#8,229#8,198#8,170#8,170#8,147#8,84#8,255#8,255#8,255#8,255#8,227#8,143#8]
theorem aai:FV pb7=zp 0x8ab05f8bdd54cde190937e76bc3e447cc27c3d6fbd7063fcd104635a790520c0a395554e5c6aaaa9354ffffffffe38f:=by rw[FV,if_pos ⟨rfl,by decide+kernel⟩];decide+kernel
theorem Xl(s0:ByteArray)(h0:s0.data.toList=pb7.map (λx=>UInt8.ofBitVec x)){a:Zp}(ha:zp 0x8ab05f8bdd54cde190937e76bc3e447cc27c3d6fbd7063fcd104635a790520c0a395554e5c6aaaa9354ffffffffe38f=a):PUR 268 [.string s0] (EV a):=by
 have h:=lZ s0 pb7 h0;rw[aai,ha]at h;exact h
def pb8:L8:=[5#8,199#8,89#8,80#8,126#8,142#8,51#8,62#8,187#8,91#8,122#8,154#8,71#8,215#8,237#8,133#8,50#8,197#8,45#8,57#8,253#8,58#8,4#8,42#8,136#8,181#8,132#8,35#8,197#8,10#8,225#8,93#8,92#8,38#8,56#8,227#8,67#8,217#8,199#8,28#8,98#8,56#8,170#8,170#8,170#8,170#8,151#8,190#8]
theorem Yk:FV pb8=zp 0x5c759507e8e333ebb5b7a9a47d7ed8532c52d39fd3a042a88b58423c50ae15d5c2638e343d9c71c6238aaaaaaaa97be:=by rw[FV,if_pos ⟨rfl,by decide+kernel⟩];decide+kernel
theorem YP(s0:ByteArray)(h0:s0.data.toList=pb8.map (λx=>UInt8.ofBitVec x)){a:Zp}(ha:zp 0x5c759507e8e333ebb5b7a9a47d7ed8532c52d39fd3a042a88b58423c50ae15d5c2638e343d9c71c6238aaaaaaaa97be=a):PUR 268 [.string s0] (EV a):=by
 have h:=lZ s0 pb8 h0;rw[Yk,ha]at h;exact h
def pb9:L8:=[21#8,48#8,71#8,124#8,122#8,180#8,17#8,59#8,89#8,164#8,193#8,139#8,7#8,109#8,17#8,147#8,15#8,125#8,165#8,212#8,160#8,127#8,100#8,155#8,245#8,68#8,57#8,216#8,125#8,39#8,229#8,0#8,252#8,140#8,37#8,235#8,248#8,201#8,47#8,104#8,18#8,207#8,199#8,28#8,113#8,198#8,215#8,6#8]
theorem WF:FV pb9=zp 0x1530477c7ab4113b59a4c18b076d11930f7da5d4a07f649bf54439d87d27e500fc8c25ebf8c92f6812cfc71c71c6d706:=by rw[FV,if_pos ⟨rfl,by decide+kernel⟩];decide+kernel
theorem OJ(s0:ByteArray)(h0:s0.data.toList=pb9.map (λx=>UInt8.ofBitVec x)){a:Zp}(ha:zp 0x1530477c7ab4113b59a4c18b076d11930f7da5d4a07f649bf54439d87d27e500fc8c25ebf8c92f6812cfc71c71c6d706=a):PUR 268 [.string s0] (EV a):=by
 have h:=lZ s0 pb9 h0;rw[WF,ha]at h;exact h
theorem jB(w:World)(hw:Gt w):CLS 245 [].toArray w (λe w'=> ∃b1,e=.returned (.func (.func 280) #[] #[pnt b1])/\Grow w w'/\w.heap.size<=b1/\OwnB w' b1 ((RW 24 (R24 oY uY) 4).map U64) 298):=by
 refine Hf func245 O hw<|λhGF=>ae (E:=EE [267,2000267])<|Asg O<|aa<|ae (E:=EE [267,2000267])<|Ca O (Yy _ O O)<|CQ f9 O sm O O<|Ca O (sW)<|cr lp O O sm sm O O<|Ca O (YB _ O O)<|Ca O (Xl _ O O)<|cr f9 O O sm sm O O<|Ca O (eQ _)<|Ca O (eQ _)<|Ca O (ee _)<|cr f9 O O sm sm O O<|cr lp O O sm sm O O<|Ca O (YP _ O O)<|mZ f9 O sm O O<|Ca O (eQ _)<|Ca O (ee _)<|mZ f9 O sm O O<|cr lp O O sm sm O O<|Ca O (OJ _ O O)<|Ca O (OJ _ O O)<|cr f9 O O sm sm O O<|Ca O (eQ _)<|Ca O (ee _)<|Ca O (eQ _)<|Ca O (ee _)<|cr f9 O O sm sm O O<|cr lp O O sm sm O O<|qt (s:=24) (R24 oY uY) (R24 oY uY) [0,1,2,3] O O O (λi _=>km _ _ _) underlying298 sizeOf297 zv298 (B1 _ _) O O<|?_;refine bK O O ent267 O O (λw' hw'=>(rn oY uY w' (hGF.g _ _ _ hw')).mono λe' w'' h=> ?_);obtain ⟨c1,rfl,hg,h1,ho⟩:=h;refine ⟨_,_,rfl,az hGF,hw'.news ao hg [(33,c1,(RW 24 (R24 oY uY) 4).map U64,298)] ?_ bS,bQ ao O, ?_⟩
 ·intro n' b' c' t' hl
  rcases aK hl with ⟨_,e⟩|⟨_,hl⟩
  ·cases e;exact ⟨h1,ho⟩
  ·cases hl
 clear hw' hg h1 ho;refine Asg O<|aa<|am<|Rr<|?_;exact aF O O (λw hw=>⟨c1,rfl,ac hw,(hw.own 33 c1 _ _ O).2.elim id False.elim,(hw.own 33 c1 _ _ O).1⟩)
theorem qs(x:W2)(bb:Nat)(w:World)(hw:Gt w)(h:w.rangeAt bb 0 ((RW 24 (R24 oX uX) 4).map U64)):CLS 243 [EV2 x,.func (.func 280) #[] #[pnt bb]].toArray w (λr w'=>r=.returned (.tuple #[EV2 (R2.pev iXN x),EV2 (R2.pev iXD x)])/\Grow w w'):=by
 have e:=pU x oX uX bb w hw (λw' hg=>kd hg h);rw[oX_h,uX_h]at e;exact e
theorem rL(x:W2)(bb:Nat)(w:World)(hw:Gt w)(h:w.rangeAt bb 0 ((RW 24 (R24 oY uY) 4).map U64)):CLS 243 [EV2 x,.func (.func 280) #[] #[pnt bb]].toArray w (λr w'=>r=.returned (.tuple #[EV2 (R2.pev iYN x),EV2 (R2.pev iYD x)])/\Grow w w'):=by
 have e:=pU x oY uY bb w hw (λw' hg=>kd hg h);rw[oY_h,uY_h]at e;exact e
theorem ZS{x y:W2}(h:ml2 y y=gO x):PUR 130 [EV2 (ml2 (R2.pev iXN x) (R2.pev iYD x)),EV2 (iv2 (ml2 (R2.pev iXD x) (R2.pev iYD x)))] (EV2 (XIs x)):=by
 have e:=dM (ml2 (R2.pev iXN x) (R2.pev iYD x)) (iv2 (ml2 (R2.pev iXD x) (R2.pev iYD x)));rw[VU (wT h) (vZ h)]at e;exact e
theorem Yj{x y:W2}(h:ml2 y y=gO x):PUR 130 [EV2 (ml2 (ml2 y (R2.pev iYN x)) (R2.pev iXD x)),EV2 (iv2 (ml2 (R2.pev iXD x) (R2.pev iYD x)))] (EV2 (YIs x y)):=by
 have e:=dM (ml2 (ml2 y (R2.pev iYN x)) (R2.pev iXD x)) (iv2 (ml2 (R2.pev iXD x) (R2.pev iYD x)));rw[X0 (wT h) (vZ h)]at e;exact e
theorem M4{x y:W2}(h:ml2 y y=gO x): ¬ml2 (R2.pev iXD x) (R2.pev iYD x)=ze2:=λe=>(gX e).elim (wT h) (vZ h)
def aaU(x y:W2)(h:ml2 y y=gO x):GP:=To (XIs x) (YIs x y) (oG.1 (yT h))
theorem piso(x y:W2)(h:ml2 y y=gO x):PUR 208 [EV2 x,EV2 y] (PtV (aaU x y h)):=by
 intro w hw;refine Hf func208 O hw<|λhGF=>Xp<|Bx 2 hGF O<|λb2=>Bx 3 hGF O<|λb3=>Al 4 hGF zv80<|λb4=>aa<|?_;refine jw (ι:=Nat×Nat) (λz=>[(2,pnt b2),(3,pnt b3),(4,pnt b4),(5,pnt z.1),(6,pnt z.2)]) (λz=>[(2,b2,(fe (x).1++fe (x).2).map U64,78),(3,b3,(fe (y).1++fe (y).2).map U64,78),(4,b4,(GL gInf).map U64,80),(5,z.1,(fe (R2.pev iXN x).1++fe (R2.pev iXN x).2).map U64,78),(6,z.2,(fe (R2.pev iXD x).1++fe (R2.pev iXD x).2).map U64,78)]) hGF ?_ ?_
 ·refine mD (EE [244,2000244,2999999]) cV kr kr<|aR (m:=9) [0] kr<|La 2 O O aX<|aa<|eH (m:=8) [1,6,7] kr kr dc<|?_
  intro i hi;simp only[List.mem_cons,List.not_mem_nil,or_false]at hi;rcases hi with rfl|rfl|rfl
  ·refine bK O O ent244 O O (λw' hw'=>(jz w' (hGF.g _ _ _ hw')).mono λe' w'' h=> ?_)
   obtain ⟨c1,rfl,hg,h1,ho⟩:=h;refine ⟨_,_,rfl,az hGF,hw'.news ao hg [(33,c1,(RW 24 (R24 oX uX) 4).map U64,298)] ?_ bS,bQ ao O, ?_⟩
   ·intro n' b' c' t' hl
    rcases aK hl with ⟨_,e⟩|⟨_,hl⟩
    ·cases e;exact ⟨h1,ho⟩
    ·cases hl
   clear hw' hg h1 ho;refine aa<|aR (m:=4) [2,3,4,5] kr<|Cc O ent243 (λw' hC hG=>qs x _ w' hG (aI (n:=33) O w' hC))<|Mv O<|Ext O O<|Ext O O<|aa<|eH (m:=3) [6,7] kr kr dc<|?_;intro i hi;simp only[List.mem_cons,List.not_mem_nil,or_false]at hi;rcases hi with rfl|rfl
   ·exact bF 5 hGF zv78 O O O<|λb5=>aa<|aR (m:=2) [7] kr<|bF 6 hGF zv78 O O O<|λb6=>aa<|aR (m:=1) [8] kr<|Sa 5 hGF O O O aX<|aa<|aR (m:=0) [9] kr<|Sa 6 hGF O O O aX<|aa<|cI kr<|aC<|⟨rfl,(b5,b6),_,rfl,trv,trv⟩
   ·exact bF 6 hGF zv78 O O O<|λb6=>aa<|aR (m:=2) [6] kr<|bF 5 hGF zv78 O O O<|λb5=>aa<|aR (m:=1) [8] kr<|Sa 5 hGF O O O aX<|aa<|aR (m:=0) [9] kr<|Sa 6 hGF O O O aX<|aa<|cI kr<|aC<|⟨rfl,(b5,b6),_,rfl,trv,trv⟩
  ·refine bF 5 hGF zv78 O O O<|λb5=>aa<|eH (m:=7) [1,7] kr kr dc<|?_
   intro i hi;simp only[List.mem_cons,List.not_mem_nil,or_false]at hi;rcases hi with rfl|rfl
   ·refine bK O O ent244 O O (λw' hw'=>(jz w' (hGF.g _ _ _ hw')).mono λe' w'' h=> ?_)
    obtain ⟨c1,rfl,hg,h1,ho⟩:=h;refine ⟨_,_,rfl,az hGF,hw'.news ao hg [(33,c1,(RW 24 (R24 oX uX) 4).map U64,298)] ?_ bS,bQ ao O, ?_⟩
    ·intro n' b' c' t' hl
     rcases aK hl with ⟨_,e⟩|⟨_,hl⟩
     ·cases e;exact ⟨h1,ho⟩
     ·cases hl
    clear hw' hg h1 ho;exact aa<|aR (m:=3) [2,3,4,5] kr<|Cc O ent243 (λw' hC hG=>qs x _ w' hG (aI (n:=33) O w' hC))<|Mv O<|Ext O O<|Ext O O<|aa<|aR (m:=2) [7] kr<|bF 6 hGF zv78 O O O<|λb6=>aa<|aR (m:=1) [8] kr<|Sa 5 hGF O O O aX<|aa<|aR (m:=0) [9] kr<|Sa 6 hGF O O O aX<|aa<|cI kr<|aC<|⟨rfl,(b5,b6),_,rfl,trv,trv⟩
   ·refine bF 6 hGF zv78 O O O<|λb6=>aa<|aR (m:=6) [1] kr<|?_
    refine bK O O ent244 O O (λw' hw'=>(jz w' (hGF.g _ _ _ hw')).mono λe' w'' h=> ?_);obtain ⟨c1,rfl,hg,h1,ho⟩:=h;refine ⟨_,_,rfl,az hGF,hw'.news ao hg [(33,c1,(RW 24 (R24 oX uX) 4).map U64,298)] ?_ bS,bQ ao O, ?_⟩
    ·intro n' b' c' t' hl
     rcases aK hl with ⟨_,e⟩|⟨_,hl⟩
     ·cases e;exact ⟨h1,ho⟩
     ·cases hl
    clear hw' hg h1 ho;exact aa<|aR (m:=2) [2,3,4,5] kr<|Cc O ent243 (λw' hC hG=>qs x _ w' hG (aI (n:=33) O w' hC))<|Mv O<|Ext O O<|Ext O O<|aa<|aR (m:=1) [8] kr<|Sa 5 hGF O O O aX<|aa<|aR (m:=0) [9] kr<|Sa 6 hGF O O O aX<|aa<|cI kr<|aC<|⟨rfl,(b5,b6),_,rfl,trv,trv⟩
  ·refine bF 6 hGF zv78 O O O<|λb6=>aa<|eH (m:=7) [1,6] kr kr dc<|?_
   intro i hi;simp only[List.mem_cons,List.not_mem_nil,or_false]at hi;rcases hi with rfl|rfl
   ·refine bK O O ent244 O O (λw' hw'=>(jz w' (hGF.g _ _ _ hw')).mono λe' w'' h=> ?_)
    obtain ⟨c1,rfl,hg,h1,ho⟩:=h;refine ⟨_,_,rfl,az hGF,hw'.news ao hg [(33,c1,(RW 24 (R24 oX uX) 4).map U64,298)] ?_ bS,bQ ao O, ?_⟩
    ·intro n' b' c' t' hl
     rcases aK hl with ⟨_,e⟩|⟨_,hl⟩
     ·cases e;exact ⟨h1,ho⟩
     ·cases hl
    clear hw' hg h1 ho;exact aa<|aR (m:=3) [2,3,4,5] kr<|Cc O ent243 (λw' hC hG=>qs x _ w' hG (aI (n:=33) O w' hC))<|Mv O<|Ext O O<|Ext O O<|aa<|aR (m:=2) [6] kr<|bF 5 hGF zv78 O O O<|λb5=>aa<|aR (m:=1) [8] kr<|Sa 5 hGF O O O aX<|aa<|aR (m:=0) [9] kr<|Sa 6 hGF O O O aX<|aa<|cI kr<|aC<|⟨rfl,(b5,b6),_,rfl,trv,trv⟩
   ·refine bF 5 hGF zv78 O O O<|λb5=>aa<|aR (m:=6) [1] kr<|?_
    refine bK O O ent244 O O (λw' hw'=>(jz w' (hGF.g _ _ _ hw')).mono λe' w'' h=> ?_);obtain ⟨c1,rfl,hg,h1,ho⟩:=h;refine ⟨_,_,rfl,az hGF,hw'.news ao hg [(33,c1,(RW 24 (R24 oX uX) 4).map U64,298)] ?_ bS,bQ ao O, ?_⟩
    ·intro n' b' c' t' hl
     rcases aK hl with ⟨_,e⟩|⟨_,hl⟩
     ·cases e;exact ⟨h1,ho⟩
     ·cases hl
    clear hw' hg h1 ho;exact aa<|aR (m:=2) [2,3,4,5] kr<|Cc O ent243 (λw' hC hG=>qs x _ w' hG (aI (n:=33) O w' hC))<|Mv O<|Ext O O<|Ext O O<|aa<|aR (m:=1) [8] kr<|Sa 5 hGF O O O aX<|aa<|aR (m:=0) [9] kr<|Sa 6 hGF O O O aX<|aa<|cI kr<|aC<|⟨rfl,(b5,b6),_,rfl,trv,trv⟩
 ·rintro ⟨b5,b6⟩
  dsimp only;refine jw (ι:=Nat×Nat) (λz=>[(2,pnt b2),(3,pnt b3),(4,pnt b4),(5,pnt b5),(6,pnt b6),(7,pnt z.1),(8,pnt z.2)]) (λz=>[(2,b2,(fe (x).1++fe (x).2).map U64,78),(3,b3,(fe (y).1++fe (y).2).map U64,78),(4,b4,(GL gInf).map U64,80),(5,b5,(fe (R2.pev iXN x).1++fe (R2.pev iXN x).2).map U64,78),(6,b6,(fe (R2.pev iXD x).1++fe (R2.pev iXD x).2).map U64,78),(7,z.1,(fe (R2.pev iYN x).1++fe (R2.pev iYN x).2).map U64,78),(8,z.2,(fe (R2.pev iYD x).1++fe (R2.pev iYD x).2).map U64,78)]) hGF ?_ ?_
  ·refine mD (EE [245,2000245,2999999]) cV kr kr<|aR (m:=9) [0] kr<|La 2 O O aX<|aa<|eH (m:=8) [1,6,7] kr kr dc<|?_
   intro i hi;simp only[List.mem_cons,List.not_mem_nil,or_false]at hi;rcases hi with rfl|rfl|rfl
   ·refine bK O O ent245 O O (λw' hw'=>(jB w' (hGF.g _ _ _ hw')).mono λe' w'' h=> ?_)
    obtain ⟨c1,rfl,hg,h1,ho⟩:=h;refine ⟨_,_,rfl,az hGF,hw'.news ao hg [(33,c1,(RW 24 (R24 oY uY) 4).map U64,298)] ?_ bS,bQ ao O, ?_⟩
    ·intro n' b' c' t' hl
     rcases aK hl with ⟨_,e⟩|⟨_,hl⟩
     ·cases e;exact ⟨h1,ho⟩
     ·cases hl
    clear hw' hg h1 ho;refine aa<|aR (m:=4) [2,3,4,5] kr<|Cc O ent243 (λw' hC hG=>rL x _ w' hG (aI (n:=33) O w' hC))<|Mv O<|Ext O O<|Ext O O<|aa<|eH (m:=3) [6,7] kr kr dc<|?_;intro i hi;simp only[List.mem_cons,List.not_mem_nil,or_false]at hi;rcases hi with rfl|rfl
    ·exact bF 7 hGF zv78 O O O<|λb7=>aa<|aR (m:=2) [7] kr<|bF 8 hGF zv78 O O O<|λb8=>aa<|aR (m:=1) [8] kr<|Sa 7 hGF O O O aX<|aa<|aR (m:=0) [9] kr<|Sa 8 hGF O O O aX<|aa<|cI kr<|aC<|⟨rfl,(b7,b8),_,rfl,trv,trv⟩
    ·exact bF 8 hGF zv78 O O O<|λb8=>aa<|aR (m:=2) [6] kr<|bF 7 hGF zv78 O O O<|λb7=>aa<|aR (m:=1) [8] kr<|Sa 7 hGF O O O aX<|aa<|aR (m:=0) [9] kr<|Sa 8 hGF O O O aX<|aa<|cI kr<|aC<|⟨rfl,(b7,b8),_,rfl,trv,trv⟩
   ·refine bF 7 hGF zv78 O O O<|λb7=>aa<|eH (m:=7) [1,7] kr kr dc<|?_
    intro i hi;simp only[List.mem_cons,List.not_mem_nil,or_false]at hi;rcases hi with rfl|rfl
    ·refine bK O O ent245 O O (λw' hw'=>(jB w' (hGF.g _ _ _ hw')).mono λe' w'' h=> ?_)
     obtain ⟨c1,rfl,hg,h1,ho⟩:=h;refine ⟨_,_,rfl,az hGF,hw'.news ao hg [(33,c1,(RW 24 (R24 oY uY) 4).map U64,298)] ?_ bS,bQ ao O, ?_⟩
     ·intro n' b' c' t' hl
      rcases aK hl with ⟨_,e⟩|⟨_,hl⟩
      ·cases e;exact ⟨h1,ho⟩
      ·cases hl
     clear hw' hg h1 ho;exact aa<|aR (m:=3) [2,3,4,5] kr<|Cc O ent243 (λw' hC hG=>rL x _ w' hG (aI (n:=33) O w' hC))<|Mv O<|Ext O O<|Ext O O<|aa<|aR (m:=2) [7] kr<|bF 8 hGF zv78 O O O<|λb8=>aa<|aR (m:=1) [8] kr<|Sa 7 hGF O O O aX<|aa<|aR (m:=0) [9] kr<|Sa 8 hGF O O O aX<|aa<|cI kr<|aC<|⟨rfl,(b7,b8),_,rfl,trv,trv⟩
    ·refine bF 8 hGF zv78 O O O<|λb8=>aa<|aR (m:=6) [1] kr<|?_
     refine bK O O ent245 O O (λw' hw'=>(jB w' (hGF.g _ _ _ hw')).mono λe' w'' h=> ?_);obtain ⟨c1,rfl,hg,h1,ho⟩:=h;refine ⟨_,_,rfl,az hGF,hw'.news ao hg [(33,c1,(RW 24 (R24 oY uY) 4).map U64,298)] ?_ bS,bQ ao O, ?_⟩
     ·intro n' b' c' t' hl
      rcases aK hl with ⟨_,e⟩|⟨_,hl⟩
      ·cases e;exact ⟨h1,ho⟩
      ·cases hl
     clear hw' hg h1 ho;exact aa<|aR (m:=2) [2,3,4,5] kr<|Cc O ent243 (λw' hC hG=>rL x _ w' hG (aI (n:=33) O w' hC))<|Mv O<|Ext O O<|Ext O O<|aa<|aR (m:=1) [8] kr<|Sa 7 hGF O O O aX<|aa<|aR (m:=0) [9] kr<|Sa 8 hGF O O O aX<|aa<|cI kr<|aC<|⟨rfl,(b7,b8),_,rfl,trv,trv⟩
   ·refine bF 8 hGF zv78 O O O<|λb8=>aa<|eH (m:=7) [1,6] kr kr dc<|?_
    intro i hi;simp only[List.mem_cons,List.not_mem_nil,or_false]at hi;rcases hi with rfl|rfl
    ·refine bK O O ent245 O O (λw' hw'=>(jB w' (hGF.g _ _ _ hw')).mono λe' w'' h=> ?_)
     obtain ⟨c1,rfl,hg,h1,ho⟩:=h;refine ⟨_,_,rfl,az hGF,hw'.news ao hg [(33,c1,(RW 24 (R24 oY uY) 4).map U64,298)] ?_ bS,bQ ao O, ?_⟩
     ·intro n' b' c' t' hl
      rcases aK hl with ⟨_,e⟩|⟨_,hl⟩
      ·cases e;exact ⟨h1,ho⟩
      ·cases hl
     clear hw' hg h1 ho;exact aa<|aR (m:=3) [2,3,4,5] kr<|Cc O ent243 (λw' hC hG=>rL x _ w' hG (aI (n:=33) O w' hC))<|Mv O<|Ext O O<|Ext O O<|aa<|aR (m:=2) [6] kr<|bF 7 hGF zv78 O O O<|λb7=>aa<|aR (m:=1) [8] kr<|Sa 7 hGF O O O aX<|aa<|aR (m:=0) [9] kr<|Sa 8 hGF O O O aX<|aa<|cI kr<|aC<|⟨rfl,(b7,b8),_,rfl,trv,trv⟩
    ·refine bF 7 hGF zv78 O O O<|λb7=>aa<|aR (m:=6) [1] kr<|?_
     refine bK O O ent245 O O (λw' hw'=>(jB w' (hGF.g _ _ _ hw')).mono λe' w'' h=> ?_);obtain ⟨c1,rfl,hg,h1,ho⟩:=h;refine ⟨_,_,rfl,az hGF,hw'.news ao hg [(33,c1,(RW 24 (R24 oY uY) 4).map U64,298)] ?_ bS,bQ ao O, ?_⟩
     ·intro n' b' c' t' hl
      rcases aK hl with ⟨_,e⟩|⟨_,hl⟩
      ·cases e;exact ⟨h1,ho⟩
      ·cases hl
     clear hw' hg h1 ho;exact aa<|aR (m:=2) [2,3,4,5] kr<|Cc O ent243 (λw' hC hG=>rL x _ w' hG (aI (n:=33) O w' hC))<|Mv O<|Ext O O<|Ext O O<|aa<|aR (m:=1) [8] kr<|Sa 7 hGF O O O aX<|aa<|aR (m:=0) [9] kr<|Sa 8 hGF O O O aX<|aa<|cI kr<|aC<|⟨rfl,(b7,b8),_,rfl,trv,trv⟩
  ·rintro ⟨b7,b8⟩
   dsimp only;refine Xp<|La 6 O O aX<|La 8 O O aX<|Ca O (dM _ _)<|Al 9 hGF zv78<|λb9=>Sa 9 hGF O O O aX<|aa<|ah<|Xp<|La 9 O O aX<|Cbl false O ent175 (xh _) (decide_eq_false (M4 h))<|aa<|aD O<|aq<|Xp<|La 9 O O aX<|Ca O (JW _)<|Al 10 hGF zv78<|λb10=>Sa 10 hGF O O O aX<|aa<|Xa [0,1,2,3,4,5,6,7,8,9,10,11,12,13,14,15] ⟨16,11,80,(GL gInf).map U64⟩ [17,18] (bE O zv80 O)<|La 5 O O aX<|La 8 O O aX<|Ca O (dM _ _)<|La 10 O O aX<|Ca O (ZS h)<|La 3 O O aX<|La 7 O O aX<|Ca O (dM _ _)<|La 6 O O aX<|Ca O (dM _ _)<|La 10 O O aX<|Ca O (Yj h)<|Ca O (WH _ _ (oG.1 (yT h)))<|Mv O<|Ext O O<|Ext O O<|aa<|?_;refine ⟨_,_,rfl,hGF,by intro x hx;simp only[List.mem_cons,List.not_mem_nil,or_false]at hx;subst hx;rfl,by intro x hx;simp only[List.mem_cons,List.not_mem_nil,or_false]at hx;subst hx;rfl,λadr7=> ?_⟩
   refine Sa 11 hGF O O O cn<|Asg O<|aa<|Xp<|La 11 O O cn<|Sa 4 hGF O O O cn<|aa<|am<|Rr<|?_;exact av 4 O O O isAgg80 sizeOf80 sm (λw hw=>⟨rfl,ac hw⟩)
theorem pmap{u x r:W2}(h:SwR u x r):PUR 174 [EV2 u] (PtV (aaU x (sgS r u) h.on)):=by
 intro w hw;refine Hf func174 O hw<|λhGF=>Xp<|Bx 1 hGF O<|λb1=>Al 2 hGF zv80<|λb2=>aa<|Xp<|La 1 O O aX<|Ca O (pswu h)<|Ext O O<|Ext O O<|Ca O (piso _ _ h.on)<|Sa 2 hGF O O O cn<|aa<|am<|Rr<|?_;exact av 2 O O O isAgg80 sizeOf80 sm (λw hw=>⟨rfl,ac hw⟩)
end
section
open Go.RowKit
attribute [local simp] a6 bj aH aB aP aZ aQ aJ aM be bz a5 bv List.length_append gy
theorem ent37:ak prog 37:=λ_ _=>kr
namespace Xm
theorem rnum(p1 p2:L8):PUR 84 [NV (WDs p1 PL p1.length),NV (WDs p2 PL p2.length)] (EV2 (ZB p1,ZB p2)):=by
 intro w hw;refine Hf func84 O hw<|λhGF=>Xp<|Bx 2 hGF O<|λb2=>Bx 3 hGF O<|λb3=>Al 4 hGF zv41<|λb4=>aa<|Xd []<|La 2 O O cf<|Ca O (aaq p1)<|La 3 O O cf<|Ca O (aaq p2)<|cr tz O O sm sm O O<|Sa 4 hGF O O O bL<|aa<|am<|Rr<|?_;exact av 4 O O O isAgg41 sizeOf41 sm (λw hw=>⟨rfl,ac hw⟩)
end Xm
end
section
open Go.RowKit
attribute [local simp] a6 bj aH aB aP aZ aQ aJ aM be bz a5 bv List.length_append gy cM
namespace Xm
attribute [local simp] Sh.gV kX pV kG fH gu Sh.cb kE
theorem RW_s{s:Nat}(f:Nat->L6)(k:Nat)(h:(f k).length=s):RW s f (k+1)=RW s f k++f k:=List.ext_getElem? λm=>by
 rcases Nat.eq_zero_or_pos s with h0|h0
 ·subst h0
  rw[List.length_eq_zero_iff.1 h,List.append_nil,List.length_eq_zero_iff.1 (show (RW 0 f (k+1)).length=0 by rw[cM];omega),List.length_eq_zero_iff.1 (show (RW 0 f k).length=0 by rw[cM];omega)]
 by_cases h1:m<s*k
 ·rw[mE f (k+1) m (by rw[Nat.mul_succ];omega),List.getElem?_append_left (by rw[cM];exact h1),mE f k m h1]
 ·by_cases h2:m<s*(k+1)
  ·have e:m=s*k+(m-s*k):=om
   have hlt:m-s*k<s:=by rw[Nat.mul_succ]at h2;omega
   have d1:m / s=k:=by rw[e,Nat.mul_add_div h0,Nat.div_eq_of_lt hlt,Nat.add_zero]
   have d2:m % s=m-s*k:=by conv=>lhs;rw[e,Nat.mul_add_mod,Nat.mod_eq_of_lt hlt]
   rw[mE f (k+1) m h2,List.getElem?_append_right (by rw[cM];omega),cM,d1,d2,List.getD_eq_getElem?_getD,List.getElem?_eq_getElem (by rw[h];exact hlt)];rfl
  ·rw[List.getElem?_eq_none (by rw[cM];omega),List.getElem?_eq_none (by rw[List.length_append,cM,h];rw[Nat.mul_succ]at h2;omega)]
theorem LF{own L:Hl}{n:Nat}{e:TypeId}{s:Nat}{a0:Option Addr}{cap nx:Nat}{xs:List Value}(h:OwnW own n e s a0 cap nx xs)(hl:lkB L n=lkB own n):OwnW L n e s a0 cap nx xs:=by
 unfold OwnW at*;rw[hl];exact h
theorem tiE:TI prog 41 (aL (List.replicate 12 (0#64))) 12 96:=sL kr
def N2(bs:L8)(i:Nat):W2:=(ZB ((bs.drop (128*i)).take 64),ZB ((bs.drop (128*i+64)).take 64))
def N2r(bs:L8)(i:Nat):L6:=fe (N2 bs i).1++fe (N2 bs i).2
theorem N2r_len(bs:L8)(i:Nat):(N2r bs i).length=12:=by rw[N2r,List.length_append,a6,a6]
theorem GT(e:Option Addr)(cap len:Nat)(bs:L8)(hb:bs.length=len)(hlen:len<=1000)(w:World)(hw:Gt w)(hby:BytesAt w e bs):CLS 85 [.slice e len cap,NV PL].toArray w (λr w'=>r=.returned (NV (WDs bs PL bs.length))/\Grow w w'):=by
 subst hb;exact xN e cap bs PL O om w hw hby
def At2(w0 w:World)(a:Option Addr)(n:Nat)(f:Nat->L6):Prop:=n=0\/∃b,a=some ⟨b,0,none⟩/\w0.heap.size<=b/\w.rangeAt b 0 ((RW 12 (f) n).map U64)
def FBad(msg dst:L8)(z:Int):Prop:=z<0\/32<z\/255<dst.length\/65536<msg.length
structure RFt(msg dst:L8)(z:Int)(w0 w:World)(v:Value):Prop where
 bad:FBad msg dst z->v=.tuple #[.slice none 0 0,I 130]
 ok: ¬FBad msg dst z->∃a cap,v=.tuple #[.slice a z.toNat cap,I 0]/\At2 w0 w a z.toNat (N2r (E msg dst (128*z.toNat)))
structure LfV(f:Nat->L6)(m:Nat) where
 (k:Nat) (a0:Option Addr) (cap:Nat) (own:Hl)
 hk:k<=m
 hs:OwnW own 50 41 12 a0 cap k ((RW 12 (f) k).map U64)
 ho:own=[]\/∃z,own=[(50,z)]
attribute [local simp] N2r_len
theorem Wp(bm:Nat)(a1:Option Addr)(cap1:Nat)(msg:L8)(a2:Option Addr)(cap2:Nat)(dst:L8)(z:Int)(h:z<0)(w:World)(hw:Gt w):CLS 37 [pnt bm,.slice a1 msg.length cap1,.slice a2 dst.length cap2,I z].toArray w (λe w'=>e=.returned (.tuple #[.slice none 0 0,I 130])/\Grow w w'):=by
 refine Hf func37 O hw<|λhGF=>ae (E:=EE [83])<|Asg O<|Asg O<|aa<|ah<|ae (E:=EE [83])<|Mv O<|Bnb true O O (λ_=>aw _ _ _) (decide_eq_true om)<|Mv O<|Sk<|Sk<|Pk O O O<|aa<|aT O<|ae (E:=EE [83])<|Asg O<|Asg O<|aa<|am<|Rr<|?_;exact ch O O O (λw hw=>⟨rfl,ac hw⟩)
theorem WT(bm:Nat)(a1:Option Addr)(cap1:Nat)(msg:L8)(a2:Option Addr)(cap2:Nat)(dst:L8)(z:Int)(h:32<z)(w:World)(hw:Gt w):CLS 37 [pnt bm,.slice a1 msg.length cap1,.slice a2 dst.length cap2,I z].toArray w (λe w'=>e=.returned (.tuple #[.slice none 0 0,I 130])/\Grow w w'):=by
 refine Hf func37 O hw<|λhGF=>ae (E:=EE [83])<|Asg O<|Asg O<|aa<|ah<|ae (E:=EE [83])<|Mv O<|Bnb false O O (λ_=>aw _ _ _) (decide_eq_false om)<|Mv O<|Mv O<|Bnb true O O (λ_=>ba _ _ _) (decide_eq_true om)<|Pk O O O<|aa<|aT O<|ae (E:=EE [83])<|Asg O<|Asg O<|aa<|am<|Rr<|?_;exact ch O O O (λw hw=>⟨rfl,ac hw⟩)
theorem Zl(bm:Nat)(a1:Option Addr)(cap1:Nat)(msg:L8)(a2:Option Addr)(cap2:Nat)(dst:L8)(z:Int)(h0: ¬z<0)(h1: ¬32<z)(hl:255<dst.length\/65536<msg.length)(w:World)(hw:Gt w)(ho:OwnB w bm (Sh.MK.map U32) 94)(hb1:BytesAt w a1 msg)(hb2:BytesAt w a2 dst):CLS 37 [pnt bm,.slice a1 msg.length cap1,.slice a2 dst.length cap2,I z].toArray w (λe w'=>e=.returned (.tuple #[.slice none 0 0,I 130])/\Grow w w'):=by
 have hGF:BOk Gt (pl w):=gt_low.plain hw;have hgw:Grow w w:=Grow.refl w;refine Hd func37 O hGF<|ae (E:=EE [83])<|Asg O<|Asg O<|aa<|ah<|ae (E:=EE [83])<|Mv O<|Bnb false O O (λ_=>aw _ _ _) (decide_eq_false om)<|Mv O<|Mv O<|Bnb false O O (λ_=>ba _ _ _) (decide_eq_false om)<|Pk O O O<|aa<|aD O<|aq<|ae (E:=EE [83])<|Mv O<|Mv O<|Mv O<|Mv O<|Bnr O O (λ_=>bx _ _ _ oi)<|?_;refine jH O O ent83 O O gt_low (az hGF) (λw' hC hG=>Cu bm a1 cap1 msg a2 cap2 dst (128*z) w' hG (own_grow ho (hgw.trans (ac hC))) (hb1.grow (hgw.trans (ac hC))) (hb2.grow (hgw.trans (ac hC)))) (λw0 w1 v h0 hg hG1 hq=> ?_);replace hgw:=hgw.trans ((ac h0).trans hg);clear h0 hg hGF;have hGF:BOk Gt (pl w1):=gt_low.plain hG1;obtain rfl:=hq.bad (hl.elim (λh=>.inr (.inr (.inl h))) λh=>.inr (.inr (.inr h)));refine Mv O<|Ext O O<|Ext O O<|Asg O<|Asg O<|aa<|ah<|ae (E:=EE [83])<|Mv O<|Bnb true O O (λ_=>bC _ _ _) (rfl)<|aa<|aT O<|ae (E:=EE [83])<|Mv O<|Asg O<|Asg O<|aa<|am<|Rr<|?_;exact ch O O O (λw hw=>⟨rfl,hgw.trans (ac hw)⟩)
theorem R7(bm:Nat)(a1:Option Addr)(cap1:Nat)(msg:L8)(a2:Option Addr)(cap2:Nat)(dst:L8)(n:Nat)(hn:n<=32)(hd:dst.length<=255)(hm:msg.length<=65536)(w:World)(hw:Gt w)(ho:OwnB w bm (Sh.MK.map U32) 94)(hb1:BytesAt w a1 msg)(hb2:BytesAt w a2 dst):CLS 37 [pnt bm,.slice a1 msg.length cap1,.slice a2 dst.length cap2,I (n:Int)].toArray w (λe w'=> ∃a cap,e=.returned (.tuple #[.slice a n cap,I 0])/\Grow w w'/\At2 w w' a n (N2r (E msg dst (128*n)))):=by
 have hGF:BOk Gt (pl w):=gt_low.plain hw;have hgw:Grow w w:=Grow.refl w;refine Hd func37 O hGF<|ae (E:=EE [83])<|Asg O<|Asg O<|aa<|ah<|ae (E:=EE [83])<|Mv O<|Bnb false O O (λ_=>aw _ _ _) (decide_eq_false om)<|Mv O<|Mv O<|Bnb false O O (λ_=>ba _ _ _) (decide_eq_false om)<|Pk O O O<|aa<|aD O<|aq<|ae (E:=EE [83])<|Mv O<|Mv O<|Mv O<|Mv O<|Bnr O O (λ_=>bx _ _ _ oi)<|?_;refine jH O O ent83 O O gt_low (az hGF) (λw' hC hG=>Cu bm a1 cap1 msg a2 cap2 dst (128*(n:Int)) w' hG (own_grow ho (hgw.trans (ac hC))) (hb1.grow (hgw.trans (ac hC))) (hb2.grow (hgw.trans (ac hC)))) (λw0 w1 v h0 hg hG1 hq=> ?_);replace hgw:=hgw.trans ((ac h0).trans hg);clear h0 hg hGF;have hGF:BOk Gt (pl w1):=gt_low.plain hG1;obtain ⟨xa,xc,rfl,hx,hle⟩:=hq.ok (by rintro (h|h|h|h)<;>omega)
 rw[show ((128:Int)*(n:Int)).toNat=128*n by omega]at*
 have hxc:128*n<=xc:=by rw[kK]at hle;exact hle
 refine Mv O<|Ext O O<|Ext O O<|Asg O<|Asg O<|aa<|ah<|ae (E:=EE [83])<|Mv O<|Bnb false O O (λ_=>bC _ _ _) (rfl)<|aa<|aD O<|aq<|ae (E:=EE [83])<|Asg O<|aa<|ah<|ae (E:=EE [83])<|Asg O<|aa<|ai<|bH (ι:=LfV (N2r (E msg dst (128*n))) n) (λz=>[(3,I (n:Int)),(10,.slice xa (E msg dst (128*n)).length xc),(12,.slice z.a0 z.k z.cap),(13,I (z.k:Int))]) (λz=>z.own) (λz=>n-z.k) ⟨0,none,0,[],om,xB _ _ _ _,.inl O⟩ hGF trv trivial<|?_;rintro ⟨k,a0,cap,own,hk,hs,hown⟩;dsimp only at hs hown⊢;refine ah<|ae (E:=EE [83])<|Mv O<|Mv O<|Bnr O O (λ_=>aw _ _ _)<|aa<|?_;refine bD O (λhc=> ?_) (λhc=> ?_)
 ·have hlt:k<n:=by simp at hc;omega
  clear hc;refine aq<|ah<|ai<|Xe [83]<|Mv O<|Mv O<|Mv O<|Bnr (v:=I ((128*k:Nat):Int)) O O (λ_=>(bx _ _ _ oi).trans (by rw[show (128:Int)*(k:Int)=((128*k:Nat):Int) by omega]))<|Mv O<|Bnr (v:=I ((128*k:Nat):Int)) O O (λ_=>(bx _ _ _ oi).trans (by rw[show (128:Int)*(k:Int)=((128*k:Nat):Int) by omega]))<|Bnr (v:=I ((128*k+64:Nat):Int)) O O (λ_=>(au _ _ _ oi).trans rr)<|gh (l:=128*k) (h':=128*k+64) O underlying22 sizeOf5 O O om O O<|Ca O (gU)<|Cc O ent85 (λw' hC hG=>GT _ _ _ (((E msg dst (128*n)).drop (128*k)).take 64) (by rw[List.length_take,List.length_drop,kK];omega) om w' hG ((hx.cut (128*k) 64 hle).grow (ac hC)))<|Mv O<|Mv O<|Bnr (v:=I ((128*k:Nat):Int)) O O (λ_=>(bx _ _ _ oi).trans (by rw[show (128:Int)*(k:Int)=((128*k:Nat):Int) by omega]))<|Bnr (v:=I ((128*k+64:Nat):Int)) O O (λ_=>(au _ _ _ oi).trans rr)<|Mv O<|Bnr (v:=I ((128*k:Nat):Int)) O O (λ_=>(bx _ _ _ oi).trans (by rw[show (128:Int)*(k:Int)=((128*k:Nat):Int) by omega]))<|Bnr (v:=I ((128*k+128:Nat):Int)) O O (λ_=>(au _ _ _ oi).trans rr)<|gh (l:=128*k+64) (h':=128*k+128) O underlying22 sizeOf5 O O om O O<|Ca O (gU)<|Cc O ent85 (λw' hC hG=>GT _ _ _ (((E msg dst (128*n)).drop (128*k+64)).take 64) (by rw[List.length_take,List.length_drop,kK];omega) om w' hG ((hx.cut (128*k+64) 64 hle).grow (ac hC)))<|Ca O (rnum (((E msg dst (128*n)).drop (128*k)).take 64) (((E msg dst (128*n)).drop (128*k+64)).take 64))<|wR 58 ((N2r (E msg dst (128*n)) k).map U64) hGF O sm dc dc underlying85 sizeOf41 zv41 O O<|?_
  intro b58;refine qp (s:=12) (nx:=k) (ny:=1) (xs:=(RW 12 ((N2r (E msg dst (128*n)))) k).map U64) (ys:=(N2r (E msg dst (128*n)) k).map U64) 50 hGF O O underlying85 underlying85 tiE O (LF hs O) sm (λw' h=>aI (n:=58) O w' h) (bc _) dc om om O O (λbA cA capA eA lA tA=> ?_);refine Asg O<|aa<|bG (E:=EE [83])<|Mv O<|Bnr (v:=I ((k+1:Nat):Int)) O O (λ_=>(au _ _ _ oi).trans rr)<|Asg O<|aa<|?_
  repeat (first|refine aO ?_|refine cm ?_)
  refine aC ?_;have eR:(RW 12 ((N2r (E msg dst (128*n)))) (k+1)).map U64=(RW 12 ((N2r (E msg dst (128*n)))) k).map U64++(N2r (E msg dst (128*n)) k).map U64:=by rw[RW_s _ k (N2r_len _ _),List.map_append]
  exact ⟨rfl,⟨k+1,some ⟨bA,0,none⟩,capA,[(50,bA,cA,41)],om,.inr ⟨bA,cA,rfl,rfl,eA,om,by simp;omega,by rw[eR];exact tA⟩,.inr ⟨_,rfl⟩⟩,_,by show n-(k+1)<n-k;omega,rfl,trv,trv⟩
 ·obtain rfl:k=n:=by simp at hc;omega
  clear hc;refine aV<|ae (E:=EE [83])<|Mv O<|Asg O<|Asg O<|aa<|am<|?_
  repeat (first|refine bJ ?_|refine bM ?_|refine fh ?_)
  rcases hs with ⟨rfl,_,rfl,_⟩|⟨b,c,rfl,hl,_,_,_,ht⟩
  ·exact ch O O O (λw hw=>⟨_,_,rfl,hgw.trans (ac hw),.inl O⟩)
  ·refine ch O O O (λw hw=>⟨_,_,rfl,hgw.trans (ac hw),.inr ⟨b,rfl,(hw.own _ b c _ hl).2.elim (λh=>Nat.le_trans hgw.size h) False.elim,λj v hv=> ?_⟩⟩)
   rw[Nat.zero_add];refine cB hl ?_ w hw;rw[<-ht,List.getElem?_take]at hv;split at hv
   ·exact hv
   ·cases hv
end Xm
end
section
open Go.RowKit
attribute [local simp] a6 bj aH aB aP aZ aQ aJ aM be bz a5 bv List.length_append gy cM
namespace Xm
attribute [local simp] Sh.gV kX pV kG fH gu Sh.cb kE
attribute [local simp] N2r_len
theorem rfields(bm:Nat)(a1:Option Addr)(cap1:Nat)(msg:L8)(a2:Option Addr)(cap2:Nat)(dst:L8)(z:Int)(w:World)(hw:Gt w)(ho:OwnB w bm (Sh.MK.map U32) 94)(hb1:BytesAt w a1 msg)(hb2:BytesAt w a2 dst):CLS 37 [pnt bm,.slice a1 msg.length cap1,.slice a2 dst.length cap2,I z].toArray w (λe w'=> ∃v,e=.returned v/\Grow w w'/\RFt msg dst z w w' v):=by
 have err:FBad msg dst z->∀{e:Ending} {w':World},e=.returned (.tuple #[.slice none 0 0,I 130])/\Grow w w'->∃v,e=.returned v/\Grow w w'/\RFt msg dst z w w' v:=λhb _ _ h=>⟨_,h.1,h.2,λ_=>rfl,λhn=>absurd hb hn⟩;by_cases h0:z<0
 ·exact (Wp bm a1 cap1 msg a2 cap2 dst z h0 w hw).mono λ_ _ h=>err (.inl h0) h
 by_cases h1:32<z
 ·exact (WT bm a1 cap1 msg a2 cap2 dst z h1 w hw).mono λ_ _ h=>err (.inr (.inl h1)) h
 by_cases h2:255<dst.length\/65536<msg.length
 ·exact (Zl bm a1 cap1 msg a2 cap2 dst z h0 h1 h2 w hw ho hb1 hb2).mono λ_ _ h=>err (.inr (.inr h2)) h
 obtain ⟨n,rfl⟩: ∃n:Nat,z=(n:Int):=⟨z.toNat,om⟩;refine (R7 bm a1 cap1 msg a2 cap2 dst n om om om w hw ho hb1 hb2).mono λe w' ⟨a,cap,he,hg,hc⟩=>⟨_,he,hg,λhb=>absurd hb ?_,λ_=>⟨a,cap,rfl,hc⟩⟩;rintro (h|h|h|h)<;>omega
def PFC:Prop:= ∀(a1:Option Addr) (cap1:Nat) (msg:L8) (a2:Option Addr) (cap2:Nat) (dst:L8) (z:Int) (w:World),msg.length<=100000->msg.length<=cap1->dst.length<=100000->dst.length<=cap2->Gt w->BytesAt w a1 msg->BytesAt w a2 dst->CLS 171 [.slice a1 msg.length cap1,.slice a2 dst.length cap2,I z].toArray w (λe w'=> ∃v,e=.returned v/\Grow w w'/\RFt msg dst z w w' v)
end Xm
end
section
variable {γ δ:Type} (G:Ab γ) (H:Ab δ)
theorem Ab.h_ze{f:γ->δ}(hf: ∀a b,f (G.ad a b)=H.ad (f a) (f b)):f G.ze=H.ze:=H.can (a:=f G.ze) (by rw[<-hf,G.zl,H.zr])
theorem Ab.h_ng{f:γ->δ}(hf: ∀a b,f (G.ad a b)=H.ad (f a) (f b))(a:γ):f (G.ng a)=H.ng (f a):=H.ng_of (by rw[<-hf,G.nr,G.h_ze H hf])
theorem Ab.h_nm{f:γ->δ}(hf: ∀a b,f (G.ad a b)=H.ad (f a) (f b))(a:γ): ∀n,f (G.nm a n)=H.nm (f a) n
 |0=>G.h_ze H hf
 |n+1=>by rw[Ab.nm,hf,Ab.h_nm hf a n,Ab.nm]
end
section
variable {α:Type} [DecidableEq α] {C:Ec α}
theorem Ec.On.is{a:C.On}(h:a≠C.ab.ze): ∃hx:C.on (C.xy a.1),a=⟨some (C.xy a.1),hx⟩:=by
 obtain ⟨P,hP⟩:=a
 cases P with
 |none=>exact absurd O h
 |some p=>exact ⟨hP,rfl⟩
theorem Ec.listed{n:Nat}(S:Nat->C.On)(si: ∀i j,i<j->j<n->S i≠S j)(s0: ∀i,i<n->S i≠C.ab.ze): ∃L:List (α×α),L.length=n/\L.Pairwise (·≠ ·)/\∀q,q∈L->∃i,i<n/\∃hq:C.on q,S i=⟨some q,hq⟩:=by
 refine ⟨(List.range n).map λi=>C.xy (S i).1,sm, ?_,λq hq=> ?_⟩
 ·rw[List.pairwise_map]
  refine List.Pairwise.imp_of_mem (λ{i j} hi hj hij=> ?_) List.pairwise_lt_range;intro e;have hj':=List.mem_range.1 hj;obtain ⟨_,e1⟩:=Ec.On.is (s0 i om);obtain ⟨_,e2⟩:=Ec.On.is (s0 j hj');refine si i j hij hj' ?_;rw[e1,e2];exact Subtype.ext (congrArg some e)
 ·obtain ⟨i,hi,rfl⟩:=List.mem_map.1 hq
  have hi':=List.mem_range.1 hi;obtain ⟨h1,h2⟩:=Ec.On.is (s0 i hi');exact ⟨i,hi',h1,h2⟩
theorem Ec.all_same{f g:C.On->C.On}(hf: ∀a b,f (C.ab.ad a b)=C.ab.ad (f a) (f b))(hg: ∀a b,g (C.ab.ad a b)=C.ab.ad (g a) (g b))
 {J:α->α->α×α×α} {m:Nat} (hJ:C.DJ m J) (hV: ∀x y (h:C.on (x,y)),C.V (J x y) (g ⟨some (x,y),h⟩).1)
 {px py:α->α->α} {d:Nat} (hx:C.DW d px) (hy:C.DW d py) (hp: ∀x y (h:C.on (x,y)),(f ⟨some (x,y),h⟩).1=some (px x y,py x y))
 {n:Nat} {T:Nat->C.On} (ti: ∀i j,i<j->j<n->T i≠T j) (t0: ∀i,i<n->T i≠C.ab.ze) (t2: ∀i,i<n->C.ab.ng (T i)≠T i) (ts: ∀i,i<n->f (T i)=g (T i)) (hn:2*(4*m+d+1)<=n)
 {x0 y0:α} (h0:C.on (x0,y0)) (n1:(J x0 y0).2.2≠C.R.zero) (n2:(J x0 (C.R.neg y0)).2.2≠C.R.zero) (a:C.On):f a=g a:=by
 let Fx:α->α->α:=λx y=>C.R.mul (J x y).2.2 (C.sub (J x y).1 (C.R.mul (px x y) (C.R.mul (J x y).2.2 (J x y).2.2)))
 let Fy:α->α->α:=λx y=>C.R.mul (J x y).2.2 (C.sub (J x y).2.1 (C.R.mul (py x y) (C.R.mul (C.R.mul (J x y).2.2 (J x y).2.2) (J x y).2.2)))
 have ZZ:=hJ.Z.mul hJ.Z;have dx:C.DW (4*m+d) Fx:=(hJ.Z.mul ((hJ.X.up (e:=2*m+d) om).sub ((hx.mul ZZ).up om))).up om;have dy:C.DW (4*m+d) Fy:=(hJ.Z.mul ((hJ.Y.up (e:=3*m+d) om).sub ((hy.mul (ZZ.mul hJ.Z)).up om))).up om;have key: ∀x y (h:C.on (x,y)),f ⟨some (x,y),h⟩=g ⟨some (x,y),h⟩->Fx x y=C.R.zero/\Fy x y=C.R.zero:=λx y h e=>by
  rcases hV x y h with hz|hj
  ·constructor
   ·show C.R.mul (J x y).2.2 _=_
    rw[hz,C.R.zero_mul]
   ·show C.R.mul (J x y).2.2 _=_
    rw[hz,C.R.zero_mul]
  ·rw[<-e,hp x y h]at hj
   have k1:(J x y).1=C.R.mul (px x y) (C.R.mul (J x y).2.2 (J x y).2.2):=hj.2.1;have k2:(J x y).2.1=C.R.mul (py x y) (C.R.mul (C.R.mul (J x y).2.2 (J x y).2.2) (J x y).2.2):=hj.2.2;constructor
   ·show C.R.mul _ (C.sub (J x y).1 _)=_
    rw[<-k1,C.sub_self,C.R.mul_zero]
   ·show C.R.mul _ (C.sub (J x y).2.1 _)=_
    rw[<-k2,C.sub_self,C.R.mul_zero]
 obtain ⟨L,lL,dL,mL⟩:=Ec.listed T ti t0;have oL: ∀q,q∈L->C.on q:=λq hq=>(mL q hq).elim λ_ h=>h.2.elim λhq _=>hq;have yL: ∀q,q∈L->q.2≠C.R.zero:=λq hq e=>by
  obtain ⟨i,hi,hon,hT⟩:=mL q hq;refine t2 i hi ?_;rw[hT];refine Subtype.ext (congrArg some (Prod.ext O ?_));show C.R.neg q.2=q.2;rw[e,C.R.neg_zero]
 have zL: ∀q,q∈L->(Fx q.1 q.2=C.R.zero/\Fy q.1 q.2=C.R.zero)/\(Fx q.1 (C.R.neg q.2)=C.R.zero/\Fy q.1 (C.R.neg q.2)=C.R.zero):=λq hq=>by
  obtain ⟨i,hi,hon,hT⟩:=mL q hq;have e:=ts i hi;have e':f (C.ab.ng (T i))=g (C.ab.ng (T i)):=by rw[C.ab.h_ng C.ab hf,C.ab.h_ng C.ab hg,e]
  rw[hT]at e e';exact ⟨key q.1 q.2 hon e,key q.1 (C.R.neg q.2) (C.ng_on hon) e'⟩
 have zx: ∀x y,C.on (x,y)->Fx x y=C.R.zero:=λx y h=>dx.all om dL oL yL (λq hq=>⟨(zL q hq).1.1,(zL q hq).2.1⟩) h;have zy: ∀x y,C.on (x,y)->Fy x y=C.R.zero:=λx y h=>dy.all om dL oL yL (λq hq=>⟨(zL q hq).1.2,(zL q hq).2.2⟩) h;have gen: ∀x y (h:C.on (x,y)),(J x y).2.2≠C.R.zero->f ⟨some (x,y),h⟩=g ⟨some (x,y),h⟩:=λx y h hz=>by
  refine Subtype.ext ?_;rw[hp x y h];exact (PO C ((hV x y h).resolve_left hz) hz (C.sub0 ((C.fd.two (zx x y h)).resolve_left hz)) (C.sub0 ((C.fd.two (zy x y h)).resolve_left hz))).symm
 by_cases hex: ∃i,i<n/\C.ab.ad a (T i)=C.ab.ze
 ·obtain ⟨i,hi,e⟩:=hex
  rw[C.ab.comm]at e;rw[C.ab.ng_of e,C.ab.h_ng C.ab hf,C.ab.h_ng C.ab hg,ts i hi]
 have s0: ∀i,i<n->C.ab.ad a (T i)≠C.ab.ze:=λi hi e=>hex ⟨i,hi,e⟩;have si: ∀i j,i<j->j<n->C.ab.ad a (T i)≠C.ab.ad a (T j):=λi j hij hj e=>ti i j hij hj (C.ab.can e);obtain ⟨L',lL',dL',mL'⟩:=Ec.listed (λi=>C.ab.ad a (T i)) si s0;by_cases hez: ∃q,q∈L'/\(J q.1 q.2).2.2≠C.R.zero
 ·obtain ⟨q,hq,hz⟩:=hez
  obtain ⟨i,hi,hon,hT⟩:=mL' q hq;have e:=gen q.1 q.2 hon hz;have hT:C.ab.ad a (T i)=⟨some (q.1,q.2),hon⟩:=hT;rw[<-hT,hf,hg,ts i hi,C.ab.comm,C.ab.comm (g a)]at e;exact C.ab.can e
 ·exfalso
  obtain ⟨N,lN,hN⟩:=hJ.Z.norm;have hz:=C.rootsL (2*m+1) N L' lN om dL' (λq hq=>(mL' q hq).elim λ_ h=>h.2.elim λhq _=>hq) (λq hq=>by
   obtain ⟨i,hi,hon,hT⟩:=mL' q hq;rw[hN q.1 q.2 hon];have e:(J q.1 q.2).2.2=C.R.zero:=Classical.byContradiction λh=>hez ⟨q,hq,h⟩;rw[e,C.R.zero_mul]) x0
  rw[hN x0 y0 h0]at hz;exact (C.fd.two hz).elim n1 n2
end
/-! ### Sums of so many times two things -/
section
variable {γ:Type} (G:Ab γ)
def Ab.li(a d:γ)(k l:Int):γ:=G.ad (G.zm a k) (G.zm d l)
theorem Ab.li_ad(a d:γ)(k l k' l':Int):G.ad (G.li a d k l) (G.li a d k' l')=G.li a d (k+k') (l+l'):=by
 unfold Ab.li;rw[G.four,G.zm_add,G.zm_add]
theorem Ab.li_ng(a d:γ)(k l:Int):G.ng (G.li a d k l)=G.li a d (-k) (-l):=by
 unfold Ab.li;rw[G.ng_ad,G.zm_ng,G.zm_ng]
theorem Ab.li_nm(a d:γ)(k l:Int)(n:Nat):G.nm (G.li a d k l) n=G.li a d (k*n) (l*n):=by
 unfold Ab.li;rw[G.nm_ad,G.zm_mulN,G.zm_mulN]
theorem Ab.zm_1(a:γ):G.zm a 1=a:=(G.zm_nat a 1).trans (G.zl a)
theorem Ab.zm_0(a:γ):G.zm a 0=G.ze:=G.zm_nat a 0
theorem Ab.li_a(a d:γ):a=G.li a d 1 0:=by unfold Ab.li;rw[G.zm_1,G.zm_0,G.zr]
def Ab.gW(om:γ->γ)(u e:Nat)(a:γ):γ:=G.ad (G.nm (G.ad (G.nm (G.nm (G.ad a (G.ad (om a) (om a))) u) u) (G.ng (G.ad (G.ad a a) (om a)))) e) a
theorem Ab.gW_ad{om:γ->γ}(ho: ∀a b,om (G.ad a b)=G.ad (om a) (om b))(u e:Nat)(a b:γ):G.gW om u e (G.ad a b)=G.ad (G.gW om u e a) (G.gW om u e b):=by
 unfold Ab.gW;simp only[ho,G.nm_ad,G.nm_ng,G.ng_ad];have:Std.Associative G.ad:=⟨G.assoc⟩;have:Std.Commutative G.ad:=⟨G.comm⟩
 ac_rfl
theorem Ab.li_al(a d:γ)(k l:Int):G.ad a (G.li a d k l)=G.li a d (1+k) (0+l):=by
 have h:=G.li_ad a d 1 0 k l;rw[<-G.li_a]at h;exact h
theorem Ab.li_ar(a d:γ)(k l:Int):G.ad (G.li a d k l) a=G.li a d (k+1) (l+0):=by
 have h:=G.li_ad a d k l 1 0;rw[<-G.li_a]at h;exact h
theorem Ab.li_aa(a d:γ):G.ad a a=G.li a d (1+1) (0+0):=by
 have h:=G.li_ad a d 1 0 1 0;rw[<-G.li_a]at h;exact h
theorem Ab.gW_li{om:γ->γ}{u e:Nat}{a d:γ}{L M:Int}(h:om a=G.li a d L M):G.gW om u e a=G.li a d ((((1+(L+L))*u*u)+ -(1+1+L))*e+1) ((((0+(M+M))*u*u)+ -(0+0+M))*e+0):=by
 unfold Ab.gW;rw[h,G.li_ad,G.li_al,G.li_nm,G.li_nm,G.li_aa a d,G.li_ad,G.li_ng,G.li_ad,G.li_nm,G.li_ar]
end
/-! ### The same in numbers -/
section
variable {α:Type} (C:Ec α)
def Ec.jf1(c x y:α):α×α×α:=C.jA (x,y,C.R.one) (C.jD (C.jW c (x,y,C.R.one)))
def Ec.jf2(c:α)(lu:List Bool)(x y:α):α×α×α:=C.jx (C.jf1 c x y) lu (C.jf1 c x y)
def Ec.jf3(c:α)(lu:List Bool)(x y:α):α×α×α:=C.jx (C.jf2 c lu x y) lu (C.jf2 c lu x y)
def Ec.jf4(c:α)(lu:List Bool)(x y:α):α×α×α:=C.jA (C.jf3 c lu x y) (C.jN (C.jA (C.jD (x,y,C.R.one)) (C.jW c (x,y,C.R.one))))
def Ec.jf5(c:α)(lu le:List Bool)(x y:α):α×α×α:=C.jA (C.jx (C.jf4 c lu x y) le (C.jf4 c lu x y)) (x,y,C.R.one)
def mW2(lu:List Bool):Nat:=nB (3*(1+4*1)) lu (3*(1+4*1))
def mW4(lu:List Bool):Nat:=3*(nB (mW2 lu) lu (mW2 lu)+3*(4*1+1))
def mW5(lu le:List Bool):Nat:=3*(nB (mW4 lu) le (mW4 lu)+1)
theorem Ec.jf1_D(c:α):C.DJ (3*(1+4*1)) (λx y=>C.jf1 c x y):=(Ec.DJ.p C).ad ((Ec.DJ.p C).w c).d
theorem Ec.jf2_D(c:α)(lu:List Bool):C.DJ (mW2 lu) (λx y=>C.jf2 c lu x y):=Ec.DJ.x (C.jf1_D c) lu _ _ (C.jf1_D c)
theorem Ec.jf3_D(c:α)(lu:List Bool):C.DJ (nB (mW2 lu) lu (mW2 lu)) (λx y=>C.jf3 c lu x y):=Ec.DJ.x (C.jf2_D c lu) lu _ _ (C.jf2_D c lu)
theorem Ec.jf4_D(c:α)(lu:List Bool):C.DJ (mW4 lu) (λx y=>C.jf4 c lu x y):=(C.jf3_D c lu).ad ((Ec.DJ.p C).d.ad ((Ec.DJ.p C).w c)).n
theorem Ec.jf5_D(c:α)(lu le:List Bool):C.DJ (mW5 lu le) (λx y=>C.jf5 c lu le x y):=(Ec.DJ.x (C.jf4_D c lu) le _ _ (C.jf4_D c lu)).ad (Ec.DJ.p C)
end
section
variable {α β:Type} {C:Ec α} {D:Ec β} (T:Hw C D)
theorem Hw.jD_f(A:α×α×α):D.jD (T.fj A)=T.fj (C.jD A):=T.jd_f _ _ _
theorem Hw.jA_f(A B:α×α×α):D.jA (T.fj A) (T.fj B)=T.fj (C.jA A B):=T.ja_f _ _ _ _ _ _
theorem Hw.jN_f(A:α×α×α):D.jN (T.fj A)=T.fj (C.jN A):=by
 unfold Ec.jN Hw.fj;rw[T.fn]
theorem Hw.jW_f(c:α)(A:α×α×α):D.jW (T.f c) (T.fj A)=T.fj (C.jW c A):=by
 unfold Ec.jW Hw.fj;rw[T.fm]
theorem Hw.jx_f(B:α×α×α): ∀(l:List Bool) (A:α×α×α),D.jx (T.fj B) l (T.fj A)=T.fj (C.jx B l A)
 |[],_=>rfl
 |false::r,A=>by
  show D.jx (T.fj B) r (D.jD (T.fj A))=T.fj (C.jx B r (C.jD A));rw[T.jD_f];exact Hw.jx_f B r _
 |true::r,A=>by
  show D.jx (T.fj B) r (D.jA (D.jD (T.fj A)) (T.fj B))=T.fj (C.jx B r (C.jA (C.jD A) B));rw[T.jD_f,T.jA_f];exact Hw.jx_f B r _
theorem Hw.jf5_f(c:α)(lu le:List Bool)(x y:α):D.jf5 (T.f c) lu le (T.f x) (T.f y)=T.fj (C.jf5 c lu le x y):=by
 have e0:(T.f x,T.f y,D.R.one)=T.fj (x,y,C.R.one):=by rw[<-T.f1];rfl
 unfold Ec.jf5 Ec.jf4 Ec.jf3 Ec.jf2 Ec.jf1;rw[e0];simp only[T.jW_f,T.jD_f,T.jA_f,T.jx_f,T.jN_f]
theorem Hw.jf5_ne(c:α)(lu le:List Bool)(x y:α)(h:(C.jf5 c lu le x y).2.2≠C.R.zero):(D.jf5 (T.f c) lu le (T.f x) (T.f y)).2.2≠D.R.zero:=λe=>h (T.fi _ (by rw[T.jf5_f]at e;exact e))
def Hw.o(a:{P:Pt α // C.onP P}):{P:Pt β // D.onP P}:=⟨T.p a.1,T.p_on a.2⟩
end
section
variable {α β:Type} [DecidableEq α] [DecidableEq β] {C:Ec α} {D:Ec β}
theorem Hw.o_ad(T:Hw C D)(a b:C.On):T.o (C.ab.ad a b)=D.ab.ad (T.o a) (T.o b):=Subtype.ext (T.p_ad a.2 b.2)
theorem Ec.gW_is(T:Tw C)(u e:Nat){P:Pt α}(hP:C.onP P):(C.ab.gW T.o u e ⟨P,hP⟩).1=C.ad (C.times (C.ad (C.times (C.times (C.ad P (C.ad (T.p P) (T.p P))) u) u) (C.ne (C.ad (C.ad P P) (T.p P)))) e) P:=by
 unfold Ab.gW;show C.ad (C.ab.nm _ e).1 _=_;rw[C.ab_nm];show C.ad (C.times (C.ad (C.ab.nm _ u).1 _) e) _=_;rw[C.ab_nm,C.ab_nm];rfl
theorem Ec.jf5_V{T:Tw C}{c:α}(hT: ∀q,T.m q=(C.R.mul c q.1,q.2)){lu le:List Bool}{u e:Nat}(hu:fO lu 1=u)(he:fO le 1=e){x y:α}(h:C.on (x,y)):C.V (C.jf5 c lu le x y) (C.ab.gW T.o u e ⟨some (x,y),h⟩).1:=by
 rw[C.gW_is T u e (P:=some (x,y)) h];have hP:C.onP (some (x,y)):=h;have v0:C.V (x,y,C.R.one) (some (x,y)):=.inr (C.jr_here x y);have hW:=T.p_on hP;have vW:=v0.w hT;have hD:=C.ad_on hW hW;have v1:C.V (C.jf1 c x y) (C.ad (some (x,y)) (C.ad (T.p (some (x,y))) (T.p (some (x,y))))):=v0.a hP hD (vW.d hW);have h1:=C.ad_on hP hD;have v2:=Ec.V.x h1 v1 lu _ 1 v1;rw[hu]at v2;have h2:=C.times_on h1 u;have v3:=Ec.V.x h2 v2 lu _ 1 v2;rw[hu]at v3;have h3:=C.times_on h2 u;have hE:=C.ad_on (C.ad_on hP hP) hW;have v4:=v3.a h3 (C.ne_on hE) (((v0.d hP).a (C.ad_on hP hP) hW vW).n);have h4:=C.ad_on h3 (C.ne_on hE);have v5:=Ec.V.x h4 v4 le _ 1 v4;rw[he]at v5;exact v5.a (C.times_on h4 e) hP v0
end
/-! ### Points of the order r -/
section
variable {α β γ:Type} [DecidableEq α] [DecidableEq β] [DecidableEq γ] {C:Ec α} {B:Ec β} {D:Ec γ} (H:Hw C D) (K:Hw B D)
def Tij(g:C.On)(q:B.On)(r i:Nat):D.On:=D.ab.ad (H.o (C.ab.nm g (i % r))) (K.o (B.ab.nm q (i / r+1)))
theorem tP(g:C.On)(q:B.On)(r i:Nat):(Tij H K g q r i).1=D.ad (H.p (C.times g.1 (i % r))) (K.p (B.times q.1 (i / r+1))):=by
 show D.ad (H.p (C.ab.nm g (i % r)).1) (K.p (B.ab.nm q (i / r+1)).1)=_;rw[C.ab_nm,B.ab_nm]
structure TD(g:C.On)(q:B.On)(r:Nat):Prop where
 sep: ∀S S',C.onP S->B.onP S'->H.p S=K.p S'->S'=none
 hr: ∀d,0<d->d<r->∃e,(d*e) % r=1
 gr:C.times g.1 r=none
 qr:B.times q.1 r=none
 gn:g.1≠none
 qn:q.1≠none
 r0:0<r
 r2:r % 2=1
variable {H K} {r:Nat} {g:C.On} {q:B.On} (t:TD H K g q r)
theorem Um(t:TD H K g q r){i j:Nat}(hij:i<j)(hj:j<r*(r-1)):Tij H K g q r i≠Tij H K g q r j:=λe=>by
 have e:=congrArg Subtype.val e;rw[tP,tP]at e;have k:=Cg H K t.sep (C.times_on g.2 _) (C.times_on g.2 _) (B.times_on q.2 _) (B.times_on q.2 _) e;have hd: ∀i,i<r*(r-1)->i / r<r-1:=λi hi=>Nat.div_lt_of_lt_mul hi;have d1:=hd i om;have d2:=hd j hj;have k1:=C.times_inj g.2 t.hr t.gr t.gn (Nat.mod_lt i t.r0) (Nat.mod_lt j t.r0) k.1;have k2:=B.times_inj q.2 t.hr t.qr t.qn (Nat.add_lt_of_lt_sub d1) (Nat.add_lt_of_lt_sub d2) k.2;have a1:=Nat.div_add_mod i r;have a2:=Nat.div_add_mod j r;rw[k1,Nat.add_right_cancel k2]at a1;omega
theorem Wh(t:TD H K g q r){i:Nat}(hi:i<r*(r-1)):Tij H K g q r i≠D.ab.ze:=λe=>by
 have e:=congrArg Subtype.val e;rw[tP]at e;have d1:i / r<r-1:=Nat.div_lt_of_lt_mul hi;have hS:=C.times_on g.2 (i % r);have hV:=B.times_on q.2 (i / r+1);have e1:=D.opp_of (H.p_on hS) (K.p_on hV) e;rw[<-H.p_ne]at e1;exact B.cyc_no q.2 t.hr t.qr t.qn (d:=i / r+1) (Nat.succ_pos _) (Nat.add_lt_of_lt_sub d1) (t.sep _ _ (C.ne_on hS) hV e1.symm)
theorem VQ(t:TD H K g q r){i:Nat}(hi:i<r*(r-1)):D.ab.ng (Tij H K g q r i)≠Tij H K g q r i:=λe=>by
 have e:D.ne (Tij H K g q r i).1=(Tij H K g q r i).1:=congrArg Subtype.val e;rw[tP]at e;have d1:i / r<r-1:=Nat.div_lt_of_lt_mul hi;have hS:=C.times_on g.2 (i % r);have hV:=B.times_on q.2 (i / r+1);rw[D.ne_ad (H.p_on hS) (K.p_on hV),<-H.p_ne,<-K.p_ne]at e;have k:=(Cg H K t.sep (C.ne_on hS) hS (B.ne_on hV) hV e).2;have z:B.times q.1 (i / r+1+(i / r+1))=none:=by
  rw[B.times_add q.2]
  conv=>lhs;lhs;rw[<-k]
  exact B.ne_ad_self _
 have hr2:=t.r2;have hk1:i / r+1<r:=Nat.add_lt_of_lt_sub d1;have hk0:0<i / r+1:=Nat.succ_pos _;clear k e d1;generalize i / r+1=k at*;rcases Nat.lt_trichotomy (k+k) r with h|h|h
 ·exact B.cyc_no q.2 t.hr t.qr t.qn (d:=k+k) om h z
 ·omega
 ·have e2:B.times q.1 (r+(k+k-r))=none:=by rw[show r+(k+k-r)=k+k by omega];exact z
  rw[B.times_add q.2,t.qr]at e2;exact B.cyc_no q.2 t.hr t.qr t.qn (d:=k+k-r) om om e2
theorem YQ{f f':D.On->D.On}(hf: ∀a b,f (D.ab.ad a b)=D.ab.ad (f a) (f b))(hf': ∀a b,f' (D.ab.ad a b)=D.ab.ad (f' a) (f' b))(h1:f (H.o g)=f' (H.o g))(h2:f (K.o q)=f' (K.o q))(i:Nat):f (Tij H K g q r i)=f' (Tij H K g q r i):=by
 unfold Tij;rw[C.ab.h_nm D.ab H.o_ad,B.ab.h_nm D.ab K.o_ad,hf,hf',D.ab.h_nm D.ab hf,D.ab.h_nm D.ab hf,D.ab.h_nm D.ab hf',D.ab.h_nm D.ab hf',h1,h2]
end
/-! ### A third root of 1 over p^12 -/
def C3:W12:=em (re2 (zp TRN))
theorem C3_4:K12.mul (K12.mul C3 C3) (K12.mul C3 C3)=C3:=by decide+kernel
theorem C3_6:K12.mul (K12.mul C3 C3) (K12.mul (K12.mul C3 C3) (K12.mul C3 C3))=K12.one:=by decide+kernel
theorem C3_3:K12.mul C3 (K12.mul C3 C3)=K12.one:=by decide+kernel
theorem YV:K12.mul C3 C3=em TR2:=by decide+kernel
def OM3:Tw E12 where
 f:=λa=>a
 w:=K12.mul C3 C3
 fa:=λ_ _=>rfl
 fm:=λ_ _=>rfl
 fn:=λ_=>rfl
 f0:=rfl
 fi:=λ_ h=>h
 wn:=by decide+kernel
 wb:=by decide+kernel
theorem z9(q:W12×W12):OM3.m q=(K12.mul C3 q.1,q.2):=by
 refine Prod.ext ?_ ?_
 ·show K12.mul (K12.mul (K12.mul C3 C3) (K12.mul C3 C3)) q.1=K12.mul C3 q.1
  rw[C3_4]
 ·show K12.mul (K12.mul (K12.mul C3 C3) (K12.mul (K12.mul C3 C3) (K12.mul C3 C3))) q.2=q.2
  rw[C3_6,K12.one_mul]
theorem Xn(S:Pt Zp):OM3.p (HB.p S)=HB.p (TW1.p S):=by
 cases S with
 |none=>rfl
 |some q=>
  refine congrArg some ?_;rw[z9,wN];refine Prod.ext ?_ O;show K12.mul C3 (K12.mul (K12.mul WW WW) (em (re2 q.1)))=K12.mul (K12.mul WW WW) (em (re2 (zp TRN*q.1)));rw[BW,<-fE];exact K12.mul_left_comm _ _ _
theorem YR(S:Pt W2):OM3.p (OM3.p (HE.p S))=HE.p (E2w.ne (TW2.p (TW2.p S))):=by
 cases S with
 |none=>rfl
 |some s=>
  have e:E2w.ne (TW2.p (TW2.p (some s)))=some (ml2 TR2 s.1,s.2):=by
   show some (E2w.ng (TW2.m (TW2.m s)))=_;rw[NK];exact congrArg some (Prod.ext O (R2.neg_neg s.2))
  rw[e];refine congrArg some ?_;rw[JY,JY,z9,z9];refine Prod.ext ?_ O;show K12.mul C3 (K12.mul C3 (em s.1))=em (ml2 TR2 s.1);rw[<-K12.mul_assoc,YV,fE]
theorem OM_3(P:Pt W12):OM3.p (OM3.p (OM3.p P))=P:=by
 cases P with
 |none=>rfl
 |some q=>
  refine congrArg some ?_;rw[z9,z9,z9];refine Prod.ext ?_ O;show K12.mul C3 (K12.mul C3 (K12.mul C3 q.1))=q.1;rw[<-K12.mul_assoc,<-K12.mul_assoc,K12.mul_assoc C3,C3_3,K12.one_mul]
/-! ### The second curve, turned -/
def TN2:E2w.ab.Tn where
 f:=TW2.o
 fa:=TW2.o_ad
 f4:=λa=>by
  have h:E2w.ab.ad (E2w.ab.ad a (E2w.ab.ng (TW2.o (TW2.o a)))) (TW2.o (TW2.o (TW2.o (TW2.o a))))=E2w.ab.ze:=Subtype.ext (xq a.2);rw[E2w.ab.ng_of h,E2w.ab.ng_ad,E2w.ab.ng_ng,E2w.ab.comm]
theorem OI(s:E2w.On):OM3.o (HE.o s)=HE.o (E2w.ab.ad (TW2.o (TW2.o s)) (E2w.ab.ng s)):=by
 have two: ∀s:E2w.On,OM3.o (OM3.o (HE.o s))=HE.o (E2w.ab.ng (TW2.o (TW2.o s))):=λs=>Subtype.ext (YR s.1);have three: ∀a:E12.On,OM3.o (OM3.o (OM3.o a))=a:=λa=>Subtype.ext (OM_3 a.1);have h4:TW2.o (TW2.o (TW2.o (TW2.o s)))=E2w.ab.ad (TW2.o (TW2.o s)) (E2w.ab.ng s):=TN2.f4 s;have fn: ∀s,TW2.o (E2w.ab.ng s)=E2w.ab.ng (TW2.o s):=TN2.fn;rw[<-three (OM3.o (HE.o s)),two s,two,fn,fn,E2w.ab.ng_ng,h4]
def g1o:E1.On:=⟨some G1p,kv⟩
def g2o:E2w.On:=⟨some G2p,yw⟩
theorem V3{u:Nat}(h:E1.ne (E1.times (E1.times (some G1p) u) u)=TW1.p (some G1p)):OM3.o (HB.o g1o)=E12.ab.li (HB.o g1o) (HB.o g1o) (-((u*u:Nat):Int)) 0:=by
 have e1:OM3.o (HB.o g1o)=HB.o (TW1.o g1o):=Subtype.ext (Xn (some G1p));have e2:TW1.o g1o=E1.ab.ng (E1.ab.nm g1o (u*u)):=by
  refine Subtype.ext ?_;show TW1.p (some G1p)=E1.ne (E1.ab.nm g1o (u*u)).1;rw[<-h,E1.ab_nm,E1.times_mul g1o.2];rfl
 rw[e1,e2,E1.ab.h_ng E12.ab HB.o_ad,E1.ab.h_nm E12.ab HB.o_ad,Ab.li,E12.ab.zm_ng,E12.ab.zm_nat,E12.ab.zm_0,E12.ab.zr]
theorem Ol{u:Nat}(h:E2w.ne (E2w.times (some G2p) u)=TW2.p (some G2p)):TW2.o g2o=E2w.ab.ng (E2w.ab.nm g2o u):=by
 refine Subtype.ext ?_;show TW2.p (some G2p)=E2w.ne (E2w.ab.nm g2o u).1;rw[<-h,E2w.ab_nm];rfl
theorem VI{u:Nat}(h:E2w.ne (E2w.times (some G2p) u)=TW2.p (some G2p)):OM3.o (HE.o g2o)=E12.ab.li (HE.o g2o) (HE.o g2o) ((u*u:Nat)+ -1) 0:=by
 have e:=Ol h;have fn: ∀s,TW2.o (E2w.ab.ng s)=E2w.ab.ng (TW2.o s):=TN2.fn;have fm: ∀s n,TW2.o (E2w.ab.nm s n)=E2w.ab.nm (TW2.o s) n:=TN2.fm;rw[OI,e,fn,fm,e,E2w.ab.nm_ng,E2w.ab.ng_ng,<-E2w.ab.nm_mul,HE.o_ad,E2w.ab.h_nm E12.ab HE.o_ad,E2w.ab.h_ng E12.ab HE.o_ad,Ab.li,E12.ab.zm_add,E12.ab.zm_nat,E12.ab.zm_ng,E12.ab.zm_1,E12.ab.zm_0,E12.ab.zr]
theorem Ab.h_zm{γ δ:Type}(G:Ab γ)(H:Ab δ){f:γ->δ}(hf: ∀a b,f (G.ad a b)=H.ad (f a) (f b))(a:γ)(n:Int):f (G.zm a n)=H.zm (f a) n:=by
 rw[Ab.zm,hf,G.h_ng H hf,G.h_nm H hf,G.h_nm H hf];rfl
theorem o_px:E12.DW (2*PP) (λx _=>K12.mul (K12.mul (em PW) (em PW)) (cz x)):=by
 have k:=(((Ec.DW.x E12).pw PP).sm (K12.mul (em PW) (em PW))).up (e:=2*PP) (Nat.mul_le_mul_right PP dc);have e:(λx y=>E12.R.mul (K12.mul (em PW) (em PW)) (E12.R.pw x PP):W12->W12->W12)=λx _=>K12.mul (K12.mul (em PW) (em PW)) (cz x):=funext λx=>funext λ_=>congrArg (K12.mul (K12.mul (em PW) (em PW))) (gG x);rw[e]at k;exact k
theorem o_py:E12.DW (2*PP) (λ_ y=>K12.mul (K12.mul (em PW) (K12.mul (em PW) (em PW))) (cz y)):=by
 have k:=((Ec.DW.y E12).pw PP).sm (K12.mul (em PW) (K12.mul (em PW) (em PW)));have e:(λx y=>E12.R.mul (K12.mul (em PW) (K12.mul (em PW) (em PW))) (E12.R.pw y PP):W12->W12->W12)=λ_ y=>K12.mul (K12.mul (em PW) (K12.mul (em PW) (em PW))) (cz y):=funext λ_=>funext λy=>congrArg (K12.mul (K12.mul (em PW) (K12.mul (em PW) (em PW)))) (gG y);rw[e]at k;exact k
theorem AQ{γ:Type}(G:Ab γ){a:γ}{r:Nat}(h:G.nm a r=G.ze){m n k:Int}(e:m=n+k*r)(l:Int)(hl:l=0):G.li a a m l=G.zm a n:=by
 rw[Ab.li,hl,G.zm_0,G.zr,G.zm_mod h k e]
theorem Kn{u e r:Nat}{lu le:List Bool}(hu:fO lu 1=u)(he:fO le 1=e)(t:TD HE HB g2o g1o r)(t1:E1.ne (E1.times (E1.times (some G1p) u) u)=TW1.p (some G1p))(t2:E2w.ne (E2w.times (some G2p) u)=TW2.p (some G2p)){k1 k2:Int}
 (N1:(((1+(-((u*u:Nat):Int)+ -((u*u:Nat):Int)))*u*u)+ -(1+1+ -((u*u:Nat):Int)))*e+1=1+k1*r)
 (N2:(((1+(((u*u:Nat):Int)+ -1+(((u*u:Nat):Int)+ -1)))*u*u)+ -(1+1+(((u*u:Nat):Int)+ -1)))*e+1= -(u:Int)+k2*r)
 (hn:2*(4*mW5 lu le+2*PP+1)<=r*(r-1)) (n1:(E2w.jf5 (re2 (zp TRN)) lu le AX AY).2.2≠ze2) (n2:(E2w.jf5 (re2 (zp TRN)) lu le AX (ng2 AY)).2.2≠ze2) (a:E12.On):TW12.o a=E12.ab.gW OM3.o u e a:=by
 have z0:(((0+((0:Int)+0))*u*u)+ -(0+0+0))*e+0=0:=sm;have r1:E12.ab.nm (HB.o g1o) r=E12.ab.ze:=by
  rw[<-E1.ab.h_nm E12.ab HB.o_ad,show E1.ab.nm g1o r=E1.ab.ze from Subtype.ext (by rw[E1.ab_nm];exact t.qr)];rfl
 have r2:E12.ab.nm (HE.o g2o) r=E12.ab.ze:=by
  rw[<-E2w.ab.h_nm E12.ab HE.o_ad,show E2w.ab.nm g2o r=E2w.ab.ze from Subtype.ext (by rw[E2w.ab_nm];exact t.gr)];rfl
 have s1:TW12.o (HB.o g1o)=E12.ab.gW OM3.o u e (HB.o g1o):=by
  rw[E12.ab.gW_li (V3 t1),AQ E12.ab r1 N1 _ z0,E12.ab.zm_1];exact Subtype.ext (aaQ (some G1p))
 have s2:TW12.o (HE.o g2o)=E12.ab.gW OM3.o u e (HE.o g2o):=by
  rw[E12.ab.gW_li (VI t2),AQ E12.ab r2 N2 _ z0,E12.ab.zm_ng,E12.ab.zm_nat,<-E2w.ab.h_nm E12.ab HE.o_ad,<-E2w.ab.h_ng E12.ab HE.o_ad,<-Ol t2];exact Subtype.ext (Oq (some G2p))
 have m1:=HE.jf5_ne (re2 (zp TRN)) lu le AX AY n1;have m2:=HE.jf5_ne (re2 (zp TRN)) lu le AX (ng2 AY) n2;have en:HE.f (ng2 AY)=E12.R.neg (em AY):=uQ AY;rw[en]at m2;exact Ec.all_same TW12.o_ad (E12.ab.gW_ad OM3.o_ad u e) (E12.jf5_D C3 lu le) (λx y h=>Ec.jf5_V z9 hu he h) o_px o_py (λ_ _ _=>rfl) (T:=Tij HE HB g2o g1o r) (λ_ _=>Um t) (λ_=>Wh t) (λ_=>VQ t) (λi _=>YQ TW12.o_ad (E12.ab.gW_ad OM3.o_ad u e) s2 s1 i) hn Gw m1 m2 a
def rho(u e:Nat):Q4:=((((1+(-1+ -1))*u*u)+ -(1+1+ -1))*e+1,-1,(((0+(1+1))*u*u)+ -(0+0+1))*e+0,0)
theorem K3{u e:Nat}(h: ∀a:E12.On,TW12.o a=E12.ab.gW OM3.o u e a)(s:E2w.On):TN2.act (rho u e) s=E2w.ab.ze:=by
 have o1:OM3.o (HE.o s)=E12.ab.li (HE.o s) (HE.o (TW2.o (TW2.o s))) (-1) 1:=by
  rw[OI,HE.o_ad,E2w.ab.h_ng E12.ab HE.o_ad,Ab.li,E12.ab.zm_ng,E12.ab.zm_1,E12.ab.zm_1,E12.ab.comm]
 have o2:HE.o (TW2.o s)=E12.ab.gW OM3.o u e (HE.o s):=by
  rw[<-h];exact (Subtype.ext (Oq s.1)).symm
 rw[E12.ab.gW_li o1]at o2;have key:HE.o (TN2.act (rho u e) s)=E12.ab.ze:=by
  unfold Ab.Tn.act rho;dsimp only;generalize (((1+(-1+ -1))*(u:Int)*u)+ -(1+1+ -1))*e+1=N at*;generalize (((0+(1+1))*(u:Int)*u)+ -(0+0+1))*e+0=M at*;rw[HE.o_ad,HE.o_ad,HE.o_ad,E2w.ab.h_zm E12.ab HE.o_ad,E2w.ab.h_zm E12.ab HE.o_ad,E2w.ab.h_zm E12.ab HE.o_ad,E2w.ab.h_zm E12.ab HE.o_ad,E12.ab.zm_0,E12.ab.zr,E12.ab.zm_ng,E12.ab.zm_1];show E12.ab.ad (E12.ab.ad _ (E12.ab.ng (HE.o (TW2.o s)))) (E12.ab.zm (HE.o (TW2.o (TW2.o s))) M)=_;rw[o2,Ab.li,E12.ab.assoc,E12.ab.comm (E12.ab.ng _),<-E12.ab.assoc,E12.ab.nr]
 exact Subtype.ext (HE.p_none (congrArg Subtype.val key))
/-! ### The numbers -/
def EU:Nat:=(UG+1) / 3
def lU:List Bool:=(cT 64 UG []).tail
def lE:List Bool:=(cT 63 EU []).tail
theorem lU_n:fO lU 1=UG:=by decide+kernel
theorem lE_n:fO lE 1=EU:=by decide+kernel
theorem aaD:2*(4*mW5 lU lE+2*PP+1)<=ORD*(ORD-1):=by decide+kernel
theorem UE_1:(((1+(-((UG*UG:Nat):Int)+ -((UG*UG:Nat):Int)))*UG*UG)+ -(1+1+ -((UG*UG:Nat):Int)))*EU+1=1+(-2*(EU:Int))*ORD:=by decide+kernel
theorem UE_2:(((1+(((UG*UG:Nat):Int)+ -1+(((UG*UG:Nat):Int)+ -1)))*UG*UG)+ -(1+1+(((UG*UG:Nat):Int)+ -1)))*EU+1= -(UG:Int)+(2*(EU:Int))*ORD:=by decide+kernel
theorem A_j1:(E2w.jf5 (re2 (zp TRN)) lU lE AX AY).2.2≠ze2:=by decide+kernel
theorem A_j2:(E2w.jf5 (re2 (zp TRN)) lU lE AX (ng2 AY)).2.2≠ze2:=by decide+kernel
theorem g_td:TD HE HB g2o g1o ORD where
 sep:=N8
 hr:=λ_ h0 h1=>vd vg h0 h1
 gr:=xP
 qr:=lz
 gn:=N5
 qn:=GF
 r0:=by decide+kernel
 r2:=by decide+kernel
theorem IK(s:E2w.On):TN2.act (rho UG EU) s=E2w.ab.ze:=K3 (Kn lU_n lE_n g_td (by rw[Pp]) (by rw[OP]) UE_1 UE_2 aaD A_j1 A_j2) s
def HEF:Nat:=0xbc69f08f2ee75b3584c6a0ea91b352888e2a8e9145ad7689986ff031508ffe1329c2f178731db956d82bf015d1212b02ec0ec69d7477c1ae954cbc06689f6a359894c0adebbf6b4e8020005aaa95551
def gCR:Q4:=(3175829495326079093223974707421713920929943713226963548300320552577044122385062918806753210708010195697222845942564328869099989319341598650296202088398645760395354361788887860685712333010521923740843833774331222,-2749521005381415097445601975610628764608838291071271597781440591441299419767669058301640939377508500417419161008431142969189977575372134321247729372495869,-6351658990652158186447949414843427841901494212740239422985378386944926357135145186773538712190292049236902325813389887900305724281946913697173908505664764391934386717058131074714202240959035786517553541389331117,24014457331330004357332821391498562889222829239326244857160378356394428128870661260283833621775616097469146203160572)
theorem QY:((((HEF*ORD:Nat):Int),0,0,0):Q4)=Q4.add (0,0,0,0) (gCR.mul (rho UG EU)):=by decide+kernel
theorem FT(s:E2w.On):TN2.act (0,0,0,0) s=E2w.ab.ze:=TN2.act_nm 0 s
theorem Nr{P:Pt W2}(hP:E2w.onP P):E2w.times (E2w.times P HEF) ORD=none:=by
 have h:=TN2.act_same IK QY ⟨P,hP⟩;rw[FT,TN2.act_nm]at h;have k:=congrArg Subtype.val h;rw[E2w.ab_nm,E2w.times_mul hP]at k;exact k
theorem uo{a x y:W2}(ha:a≠ze2)(h:ml2 a x=ml2 a y):x=y:=by
 have e:=de ha;generalize iv2 a=s at*;exact zl R2 [a,s,x,y] 0x8 0x44575695382592 0x9 0x445756853856759567 (lca (lca (lcm h) (lcm e)) (lcm e))
theorem Rz{n s:Zp}(h:s*s= -n)(hn:n≠0): ¬IsQ n:=by
 rcases lj (a:=n) (b:= -n) (c:=n) (by grind) hn with k|k
 ·exact absurd (qb h) k.2
 ·exact k.1
theorem P9{u X:W2}(h:tu2 u≠ze2)(e:ml2 (ml2 OA X) (tu2 u)=ml2 (ng2 OB) (ad2 (tu2 u) on2)):x1O u=X:=by
 have k:=(Pf h).trans e.symm;have sw: ∀a x t:W2,ml2 (ml2 a x) t=ml2 (ml2 a t) x:=λa x t=>zx R2 [a,x,t] 0x55678 0x55687;rw[sw,sw OA X]at k;exact uo (λq=>(gX q).elim AZ h) k
theorem R0{u X R x r:W2}(h:tu2 u≠ze2)(e:ml2 (ml2 OA X) (tu2 u)=ml2 (ng2 OB) (ad2 (tu2 u) on2))(hr:ml2 R R=gO X)(hl:LG2 R=false)(s:SwR u x r):x=X/\r=R:=by
 have k:=P9 h e;have hx:x=X:=s.at1.elim (λq=>q.trans k) (λq=>absurd ((jE _).1 ⟨R,hr⟩) (k▸q.1));exact ⟨hx,jF hr hl (hx▸s.sq) s.lg⟩
theorem Tx{u X X' R x r:W2}{q:Zp}(h:tu2 u≠ze2)(e:ml2 (ml2 OA X) (tu2 u)=ml2 (ng2 OB) (ad2 (tu2 u) on2))(hn:q*q= -(nm2 (gO X)))(h0:nm2 (gO X)≠0)(hx':ml2 (zu2 u) X=X')(hr:ml2 R R=gO X')(hl:LG2 R=false)(s:SwR u x r):x=X'/\r=R:=by
 have k:=P9 h e;have hx:x=X':=s.at1.elim (λj=>absurd (fF (j.trans k▸s.sq)) (Rz hn h0)) (λj=>by rw[j.2,k];exact hx')
 exact ⟨hx,jF hr hl (hx▸s.sq) s.lg⟩
theorem OO{x X:W2}(h:R2.pev iXD x≠ze2)(e:ml2 (R2.pev iXD x) X=R2.pev iXN x):XIs x=X:=by
 refine uo h (Eq.trans ?_ e.symm);have k:=de h;unfold XIs;generalize R2.pev iXD x=d at*;generalize R2.pev iXN x=n at*;generalize iv2 d=s at*;exact zk R2 [d,n,s] 0x56578 0x7 0x7 0x2 0x568 k
theorem Pi{x y Y:W2}(h:R2.pev iYD x≠ze2)(e:ml2 (R2.pev iYD x) Y=ml2 y (R2.pev iYN x)):YIs x y=Y:=by
 refine uo h (Eq.trans ?_ e.symm);have k:=de h;unfold YIs;generalize R2.pev iYD x=d at*;generalize ml2 y (R2.pev iYN x)=n at*;generalize iv2 d=s at*;exact zk R2 [d,n,s] 0x56578 0x7 0x7 0x2 0x568 k
theorem F5:kQ (cT 636 HEF []) 0=HEF:=by decide+kernel
section
open J2
open Go.RowKit
attribute [local simp] a6 bj aH aB aP aZ aQ aJ aM be bz a5 bv bB cM dJ Xm.N2r_len
theorem ent86:ak prog 86:=λ_ _=>kr
theorem ent9:ak prog 9:=λ_ _=>kr
def dgt(c:BitVec 8):BitVec 8:=if 97#8<=c then c-97#8+10#8 else c-48#8
theorem vY(c:BitVec 8):PUR 137 [U8 c] (U8 (dgt c)):=by
 intro w hw;have hGF:BOk Gt (pl w):=gt_low.plain hw;by_cases h:97#8<=c
 ·rw[show dgt c=_ from if_pos h]
  refine Hd func137 O hGF<|Xp<|Asg O<|aa<|ah<|Xp<|Mv O<|Bnb true O O (λ_=>rf _ _ 97#8) (decide_eq_true h)<|aa<|aT O<|Xp<|Mv O<|Bnr O O (λ_=>qX _ _ _)<|Bnr O O (λ_=>yG _ _ _)<|Asg O<|aa<|am<|Rr<|?_;exact aF O O (λw hw=>⟨rfl,ac hw⟩)
 ·rw[show dgt c=_ from if_neg h]
  refine Hd func137 O hGF<|Xp<|Asg O<|aa<|ah<|Xp<|Mv O<|Bnb false O O (λ_=>rf _ _ 97#8) (decide_eq_false h)<|aa<|aD O<|aq<|Xp<|Mv O<|Bnr O O (λ_=>qX _ _ _)<|Asg O<|aa<|am<|Rr<|?_;exact aF O O (λw hw=>⟨rfl,ac hw⟩)
def HXL:List UInt8:=(List.append (List.append [48,98,99,54,57,102,48,56,102,50,101,101,55,53,98,51,53,56,52,99,54,97,48,101,97,57,49,98,51,53,50,56,56,56,101,50,97,56,101,57] [49,52,53,97,100,55,54,56,57,57,56,54,102,102,48,51,49,53,48,56,102,102,101,49,51,50,57,99,50,102,49,55,56,55,51,49,100,98,57,53]) (List.append [54,100,56,50,98,102,48,49,53,100,49,50,49,50,98,48,50,101,99,48,101,99,54,57,100,55,52,55,55,99,49,97,101,57,53,52,99,98,99,48] [54,54,56,57,102,54,97,51,53,57,56,57,52,99,48,97,100,101,98,98,102,54,98,52,101,56,48,50,48,48,48,53,97,97,97,57,53,53,53,49]))
def HX:L8:=[48#8,98#8,99#8,54#8,57#8,102#8,48#8,56#8,102#8,50#8,101#8,101#8,55#8,53#8,98#8,51#8,53#8,56#8,52#8,99#8,54#8,97#8,48#8,101#8,97#8,57#8,49#8,98#8,51#8,53#8,50#8,56#8,56#8,56#8,101#8,50#8,97#8,56#8,101#8,57#8,49#8,52#8,53#8,97#8,100#8,55#8,54#8,56#8,57#8,57#8,56#8,54#8,102#8,102#8,48#8,51#8,49#8,53#8,48#8,56#8,102#8,102#8,101#8,49#8,51#8,50#8,57#8,99#8,50#8,102#8,49#8,55#8,56#8,55#8,51#8,49#8,100#8,98#8,57#8,53#8,54#8,100#8,56#8,50#8,98#8,102#8,48#8,49#8,53#8,100#8,49#8,50#8,49#8,50#8,98#8,48#8,50#8,101#8,99#8,48#8,101#8,99#8,54#8,57#8,100#8,55#8,52#8,55#8,55#8,99#8,49#8,97#8,101#8,57#8,53#8,52#8,99#8,98#8,99#8,48#8,54#8,54#8,56#8,57#8,102#8,54#8,97#8,51#8,53#8,57#8,56#8,57#8,52#8,99#8,48#8,97#8,100#8,101#8,98#8,98#8,102#8,54#8,98#8,52#8,101#8,56#8,48#8,50#8,48#8,48#8,48#8,53#8,97#8,97#8,97#8,57#8,53#8,53#8,53#8,49#8]
def HBs:L8:=[11#8,198#8,159#8,8#8,242#8,238#8,117#8,179#8,88#8,76#8,106#8,14#8,169#8,27#8,53#8,40#8,136#8,226#8,168#8,233#8,20#8,90#8,215#8,104#8,153#8,134#8,255#8,3#8,21#8,8#8,255#8,225#8,50#8,156#8,47#8,23#8,135#8,49#8,219#8,149#8,109#8,130#8,191#8,1#8,93#8,18#8,18#8,176#8,46#8,192#8,236#8,105#8,215#8,71#8,124#8,26#8,233#8,84#8,203#8,192#8,102#8,137#8,246#8,163#8,89#8,137#8,76#8,10#8,222#8,187#8,246#8,180#8,232#8,2#8,0#8,5#8,170#8,169#8,85#8,81#8]
theorem Qj: ∀i:Fin 160,HXL.toArray[i.val]? =some (UInt8.ofBitVec (HX.getD i.val 0)):=by decide+kernel
theorem N4{i:Nat}{z:Int}(hz:z=(i:Int))(h:i<160):HXL.toArray[z.toNat]? =some (UInt8.ofBitVec (HX.getD i 0)):=by
 subst hz;rw[Int.toNat_natCast];exact Qj ⟨i,h⟩
theorem LL: ∀k:Fin 80,dgt (HX.getD (2*k.val) 0)<<<(4#64).toNat|||dgt (HX.getD (2*k.val+1) 0)=HBs.getD k.val 0:=by decide+kernel
theorem Uy{k:Nat}(h:k<80):dgt (HX.getD (2*k) 0)<<<(4#64).toNat|||dgt (HX.getD (2*k+1) 0)=HBs.getD k 0:=LL ⟨k,h⟩
theorem LX:HBs.length=80:=rfl
def HBk(k:Nat):List Value:=(HBs.take k).map U8
theorem mU{k:Nat}(h:k<=80):(HBk k).length=k:=by rw[HBk,List.length_map,List.length_take,show HBs.length=80 from O];omega
theorem Fk{k:Nat}(h:k<80):HBk k++[U8 (HBs.getD k 0)]=HBk (k+1):=by
 rw[HBk,HBk,List.take_add_one,List.getD_eq_getElem?_getD,List.getElem?_eq_getElem (show k<HBs.length from h),List.map_append];rfl
theorem Le:HBk 80=HBs.map U8:=rfl
theorem ti5s:TI prog 5 (.int .u8 0) 1 1:=sL kr
structure AppV(f:Nat->List Value)(e N:Nat) where
 (k:Nat) (a0:Option Addr) (cap:Nat) (own:Hl)
 hk:k<=N
 hs:OwnV own 50 e a0 cap (f k)
theorem OwnV.skip{L:Hl}{n:Nat}{e:TypeId}{a0:Option Addr}{cap:Nat}{xs:List Value}(h:OwnV L n e a0 cap xs)(m:Nat){x:Nat×List Value×TypeId}(hm:Nat.beq m n=false):OwnV ((m,x)::L) n e a0 cap xs:=by
 rcases h with h|⟨b,c,h1,h2,h3⟩
 ·exact .inl h
 ·exact .inr ⟨b,c,h1,by show (bif Nat.beq m n then some x else lkB L n)=_;rw[hm];exact h2,h3⟩
theorem TS(w:World)(hw:Gt w):CLS 86 [].toArray w (λe w'=> ∃b c cap,e=.returned (.slice (spt b) 80 cap)/\Grow w w'/\w.heap.size<=b/\OwnB w' b c 5/\c.take HBs.length=HBs.map U8):=by
 have hGF:BOk Gt (pl w):=gt_low.plain hw;have fin: ∀{L:Hl} {a0:Option Addr} {cap:Nat} {w':World},OwnV L 50 5 a0 cap (HBk 80)->Hp (pl w) L w'->∃b c cap',Ending.returned (.slice a0 (HBk 80).length cap)=.returned (.slice (spt b) 80 cap')/\Grow w w'/\w.heap.size<=b/\OwnB w' b c 5/\c.take HBs.length=HBs.map U8:=λ{L a0 cap w'} h hp=>by
  rcases h with ⟨_,h,_⟩|⟨b,c,rfl,hl,hc,hle,ht⟩
  ·have e:=mU (k:=80) om;rw[h]at e;cases e
  ·refine ⟨b,c,cap,by rw[mU om],ac hp,(hp.own _ _ _ _ hl).2.elim id False.elim,(hp.own _ _ _ _ hl).1, ?_⟩
   rw[mU om,Le]at ht;exact ht
 refine Hd func86 O hGF<|Xp<|Asg O<|aa<|Xp<|Asg O<|aa<|ah<|Xp<|Asg O<|aa<|ai<|bH (ι:=AppV HBk 5 80) (λx=>[(1,.slice x.a0 (HBk x.k).length x.cap),(2,I ((2*x.k:Nat):Int))]) (λx=>x.own) (λx=>80-x.k) ⟨0,none,0,[],om,Ja _ _ _⟩ hGF trv trivial<|?_;rintro ⟨k,a0,cap,own,hk,hs⟩;dsimp only at hs⊢;refine ah<|Xp<|Mv O<|Bnr (v:=.bool (decide (k<80))) O O (λ_=>(aw _ _ _).trans (by rw[show decide (((2*k:Nat):Int)<160)=decide (k<80)from decide_eq_decide.2 om]))<|aa<|?_
 refine bD O (λhc=> ?_) (λhc=> ?_)
 ·have hk2:k<80:=by simpa using hc
  refine aq<|ah<|ai<|Xe []<|Mv O<|Mv O<|uS (n:=HX.getD (2*k) 0) O O underlying9 om (N4 (i:=2*k) (rfl) om) O O<|Ca O (vY _)<|Bnr (v:=U8 (dgt (HX.getD (2*k) 0)<<<(4#64).toNat)) O O (λ_=>y4 _ _ 4#64)<|Mv O<|Bnr (v:=I (((2*k:Nat):Int)+1)) O O (λ_=>au _ _ _ oi)<|uS (n:=HX.getD (2*k+1) 0) O O underlying9 om (N4 (i:=2*k+1) om om) O O<|Ca O (vY _)<|Bnr (v:=U8 (HBs.getD k 0)) O O (λ_=>(gH _ _ _).trans (by rw[Uy hk2]))<|uw 17 [U8 (HBs.getD k 0)] hGF O O O dc dc underlying22 sizeOf5 zeroValue5 O O O<|?_
  intro b17;refine yx (xs:=HBk k) (ys:=[U8 (HBs.getD k 0)]) 50 hGF O O underlying22 underlying22 ti5s O (hs.skip 17 O) (λw' h=>aI (n:=17) O w' h) O sm (by rw[mU hk];show (k+1)*1<=_;omega) (by rw[mU hk];show k+1<=_;omega) O O (λbA cA capA eA lA tA=> ?_)
  subst eA;rw[Fk hk2]at lA tA⊢;refine Asg O<|aa<|Xq<|Mv O<|Bnr (v:=I ((2*(k+1):Nat):Int)) O O (λ_=>(au _ _ _ oi).trans (by rw[show ((2*k:Nat):Int)+2=((2*(k+1):Nat):Int) by omega]))<|Asg O<|aa<|?_
  repeat (refine aO ?_)
  exact aC<|⟨rfl,⟨k+1,some ⟨bA,0,none⟩,_,[(50,bA,cA,5)],om,.inr ⟨bA,cA,rfl,rfl,rfl,lA,tA⟩⟩,_,by show 80-(k+1)<80-k;omega,rfl,trv,trv⟩
 ·obtain rfl:k=80:=by simp at hc;omega
  refine aV<|Xp<|Mv O<|Asg O<|aa<|am<|Rr<|?_;exact aF O O (λw' hw'=>fin hs hw')
def RH(x:W6):W6:=RMJ x HBs (8*HBs.length)
theorem Ao(x:W6)(e:Option Addr)(cap:Nat)(bs:L8)(n:Nat)(hn:bs.length=n)(hl:n<=4096)(y:W6)(hy:RMJ x bs (8*bs.length)=y)(w:World)(hw:Gt w)(hby:BytesAt w e bs):CLS 18 [EV6 x,.slice e n cap].toArray w (λr w'=>r=.returned (EV6 y)/\Grow w w'):=by
 subst hn hy;exact xi x e cap bs hl w hw hby
theorem SC(x:W6)(b cap:Nat)(c:List Value)(w:World)(hw:Gt w)(h:w.rangeAt b 0 c)(ht:c.take HBs.length=HBs.map U8):CLS 18 [EV6 x,.slice (spt b) 80 cap].toArray w (λr w'=>r=.returned (EV6 (RH x))/\Grow w w'):=
 Ao x (spt b) cap HBs 80 LX dc (RH x) O w hw (cF h ht)
theorem P1{x:W6}{P Q:Pt W2}(hP:E2w.onP P)(hx:E2w.jr x P)(bs:L8)(m:Nat)(hn:BN bs bs.length=m)(y:W6)(hy:y=RMJ x bs (8*bs.length))(hQ:E2w.times P m=Q):E2w.jr y Q:=by
 subst hn hy hQ;rw[<-gP];exact Cn hP hx bs (8*bs.length)
theorem PA:BN HBs HBs.length=HEF:=by decide+kernel
theorem YH(x:W6):RH x=RMJ x HBs (8*HBs.length):=by rw[RH]
theorem XL{x:W6}{P Q:Pt W2}(hP:E2w.onP P)(hx:E2w.jr x P)(hQ:E2w.times P HEF=Q):E2w.jr (RH x) Q:=P1 hP hx HBs HEF PA (RH x) (YH x) hQ
theorem Hz(x:W6):PUR 38 [EV6 x] (EV6 (RH x)):=by
 intro w hw;refine Hf func38 O hw<|λhGF=>Xp<|Bx 1 hGF O<|λb1=>Al 2 hGF zv43<|λb2=>aa<|pg (EE [86,2000086]) cV kr kr<|aR (m:=0) [0,1,2,3] kr<|La 1 O O kp<|?_;refine bK O O ent86 O O (λw' hw'=>(TS w' (hGF.g _ _ _ hw')).mono λe' w'' h=> ?_);obtain ⟨c1,cc,cp,rfl,hg,h1,ho,ht⟩:=h;refine ⟨_,_,rfl,az hGF,hw'.news ao hg [(33,c1,cc,5)] ?_ bS,bQ ao O, ?_⟩
 ·intro n' b' c' t' hl
  rcases aK hl with ⟨_,e⟩|⟨_,hl⟩
  ·cases e;exact ⟨h1,ho⟩
  ·cases hl
 clear hw' hg h1 ho;refine Cc O ent18 (λw' hC hG=>SC x _ _ _ w' hG (aI (n:=33) O w' hC) ht)<|Sa 2 hGF O O O kp<|aa<|cI kr<|aC<|am<|Rr<|?_;exact av 2 O O O isAgg43 sizeOf43 sm (λw hw=>⟨rfl,ac hw⟩)
end
section
open J2
open Go.RowKit
attribute [local simp] a6 bj aH aB aP aZ aQ aJ aM be bz a5 bv bB cM dJ Xm.N2r_len
def U2n(msg dst:L8)(i:Nat):W2:=Xm.N2 (Xm.E msg dst 256) i
abbrev U2c(msg dst:L8):List Value:=(RW 12 (Xm.N2r (Xm.E msg dst 256)) 2).map U64
def SwA(u:W2)(A:W2×W2):Prop:= ∃x r,SwR u x r/\(XIs x,YIs x (sgS r u))=A
theorem Ik(u:W2): ∃A,SwA u A:=by
 obtain ⟨x,r,h⟩:=Tf u;exact ⟨_,x,r,h,rfl⟩
theorem ux{u:W2}{A:W2×W2}(h:SwA u A):E2w.on A:=by
 obtain ⟨x,r,s,rfl⟩:=h;exact yT s.on
theorem O0{u:W2}{A:W2×W2}(h:SwA u A):PUR 39 [EV2 u] (EV6 (A.1,A.2,on2)):=by
 obtain ⟨x,r,s,rfl⟩:=h;exact rmap s
def RHf(A B:W2×W2):W6:=RH (E2w.jaF (A.1,A.2,on2) (B.1,B.2,on2))
theorem I3(A B:W2×W2):PUR 38 [EV6 (E2w.jaF (A.1,A.2,on2) (B.1,B.2,on2))] (EV6 (RHf A B)):=by
 rw[RHf];exact Hz _
structure Sw2(msg dst:L8)(A B:W2×W2):Prop where
 s0:SwA (U2n msg dst 0) A
 s1:SwA (U2n msg dst 1) B
theorem s7{msg dst:L8}{w0 w:World}{v:Value}(h:Xm.RFt msg dst 2 w0 w v)(hb: ¬Xm.FBad msg dst 2): ∃b cap,v=.tuple #[.slice (spt b) 2 cap,I 0]/\w0.heap.size<=b/\w.rangeAt b 0 (U2c msg dst):=by
 obtain ⟨a,cap,hv,ha⟩:=h.ok hb;obtain ⟨b,rfl,hs,hr⟩:=ha.resolve_left dc;exact ⟨b,cap,hv,hs,hr⟩
theorem AK{msg dst:L8}{w:World}{b:Nat}(h:w.rangeAt b 0 (U2c msg dst)):b<w.heap.size:=by
 have hl:0<(U2c msg dst).length:=by simp[U2c]
 exact block_lt_of_cell (h 0 _ (List.getElem?_eq_getElem hl))
theorem J9{msg dst:L8}{w:World}{b:Nat}(h:w.rangeAt b 0 (U2c msg dst))(i:Nat)(hi:i<2):w.rangeAt b (0+12*i) ((fe (U2n msg dst i).1++fe (U2n msg dst i).2).map U64):=gL h hi (Xm.N2r_len _ _)
theorem Jc(bm:Nat)(a1:Option Addr)(cap1:Nat)(msg:L8)(a2:Option Addr)(cap2:Nat)(dst:L8)(w:World)(hw:Gt w)(ho:OwnB w bm (Sh.MK.map U32) 94)(hb1:BytesAt w a1 msg)(hb2:BytesAt w a2 dst)(hbad: ¬Xm.FBad msg dst 2){A B:W2×W2}(h:Sw2 msg dst A B):CLS 9 [pnt bm,.slice a1 msg.length cap1,.slice a2 dst.length cap2].toArray w (λe w'=>e=.returned (.tuple #[EV6 (RHf A B),I 0])/\Grow w w'):=by
 refine Hf func9 O hw<|λhGF=>ae (E:=EE [37,2000037])<|Al 6 hGF zv43<|λb6=>Asg O<|aa<|ae (E:=EE [37,2000037])<|Mv O<|Mv O<|Mv O<|?_;refine bK O O ent37 O O (λw' hw'=>(Xm.rfields bm a1 cap1 msg a2 cap2 dst 2 w' (hGF.g _ _ _ hw') (Xm.own_grow ho (ac hw')) (hb1.grow (ac hw')) (hb2.grow (ac hw'))).mono λe w'' h=> ?_);obtain ⟨v,rfl,hg,hq⟩:=h;obtain ⟨b,cap,rfl,hbs,hbr⟩:=s7 hq hbad;refine ⟨_,_,rfl,az (m9 hGF),Il hw' ao hg hbs (AK hbr) hbr,λ_ h=>jR h, ?_⟩;clear hq hg hw' hbs hbr;refine Mv O<|Ext O O<|Ext O O<|Asg O<|Asg O<|aa<|ah<|ae (E:=EE [37,2000037])<|Mv O<|Bnb false O O (λ_=>bC _ _ _) (rfl)<|aa<|aD O<|aq<|Xd [37,2000037]<|Mv O<|iZ (s:=12) 0 O O underlying85 sizeOf41 dc dc O O<|da (cs:=(fe (U2n msg dst 0).1++fe (U2n msg dst 0).2).map U64) O isAgg41 sizeOf41 sm (λw' h'=>J9 (w6 h') 0 dc) O O<|Ca O (O0 h.s0)<|Mv O<|iZ (s:=12) 1 O O underlying85 sizeOf41 dc dc O O<|da (cs:=(fe (U2n msg dst 1).1++fe (U2n msg dst 1).2).map U64) O isAgg41 sizeOf41 sm (λw' h'=>J9 (w6 h') 1 dc) O O<|Ca O (O0 h.s1)<|Ca O (IZ _ _)<|Ca O (I3 _ _)<|Sa 6 (m9 hGF) O O O kp<|Asg O<|aa<|am<|Rr<|?_;exact a7 6 O O O O isAgg43 sizeOf43 sm (λw hw=>⟨rfl,hbl hw⟩)
end
section
open J2
open Go.RowKit
attribute [local simp] a6 bj aH aB aP aZ aQ aJ aM be bz a5 bv bB cM dJ km
theorem ent78:ak prog 78:=λ_ _=>kr
structure PHs:Prop where
 bad: ∀msg dst,Xm.FBad msg dst 2->∃p:GP,p.P=none/\∀(a1:Option Addr) (cap1:Nat) (a2:Option Addr) (cap2:Nat) (w:World),msg.length<=65600->msg.length<=cap1->dst.length<=1000->dst.length<=cap2->Gt w->BytesAt w a1 msg->BytesAt w a2 dst->CLS 78 [.slice a1 msg.length cap1,.slice a2 dst.length cap2].toArray w (λe w'=>e=.returned (.tuple #[PtV p,I 130])/\Grow w w')
 ok: ∀msg dst A B,¬Xm.FBad msg dst 2->Sw2 msg dst A B->∃p:GP,p.P=E2w.times (E2w.ad (some A) (some B)) HEF/\∀(a1:Option Addr) (cap1:Nat) (a2:Option Addr) (cap2:Nat) (w:World),msg.length<=65600->msg.length<=cap1->dst.length<=1000->dst.length<=cap2->Gt w->BytesAt w a1 msg->BytesAt w a2 dst->CLS 78 [.slice a1 msg.length cap1,.slice a2 dst.length cap2].toArray w (λe w'=>e=.returned (.tuple #[PtV p,I 0])/\Grow w w')
def SUs:L8:=[66#8,76#8,83#8,95#8,83#8,73#8,71#8,95#8,66#8,76#8,83#8,49#8,50#8,51#8,56#8,49#8,71#8,50#8,95#8,88#8,77#8,68#8,58#8,83#8,72#8,65#8,45#8,50#8,53#8,54#8,95#8,83#8,83#8,87#8,85#8,95#8,82#8,79#8,95#8,80#8,79#8,80#8,95#8]
def SUb:ByteArray:=⟨(SUs.map λx=>UInt8.ofBitVec x).toArray⟩
theorem Im(msg dst:L8): ∃A B,Sw2 msg dst A B:=by
 obtain ⟨A,h⟩:=Ik (U2n msg dst 0);obtain ⟨B,h'⟩:=Ik (U2n msg dst 1);exact ⟨A,B,h,h'⟩
theorem Zx{P Q:Pt W2}(hP:E2w.onP P)(h:Q=E2w.times P HEF):E2w.times Q ORD=none:=by rw[h];exact Nr hP
theorem y2{msg dst:L8}{A B:W2×W2}(h:Sw2 msg dst A B):E2w.onP (E2w.ad (some A) (some B)):=E2w.ad_on (gj (ux h.s0)) (gj (ux h.s1))
end
section
open Go.RowKit
theorem ent239:ak prog 239:=λ_ _=>kr
theorem ent238:ak prog 238:=λ_ _=>kr
theorem ent240:ak prog 240:=λ_ _=>kr
namespace Xm
attribute [local simp] Sh.gV kX pV kG fH gu Sh.cb kE
theorem zvH(w:World):(zeroValue 291).run prog w=.ok (.agg (Sh.hc (List.replicate 8 0#32) (List.replicate 64 0#8) 0).toArray) w:=(zeroValue291 w).trans rr
theorem Ty(T bs:L8)(bh:Nat)(st:L3)(rs:L8)(n:BitVec 64)(hi:Sh.HInv T st rs n)(a:Option Addr)(len cap:Nat)(hlen:bs.length=len)(hcap:len<=cap)(hT:T.length+len<9223372036854775808)(w:World)(hw:Gt w)(ho:OwnB w bh (Sh.hc st rs n) 291)(hbh:8<=bh)(hby:BytesAt w a bs)(hne:bs≠[]->∀ad,a=some ad->ad.block≠bh):
 CLS 264 [pnt bh,.slice a len cap].toArray w (λe w'=>e=.returned (.tuple #[])/\Mod bh w w'/\∃st' rs' n',Sh.HInv (T++bs) st' rs' n'/\OwnB w' bh (Sh.hc st' rs' n') 291):=by
 subst hlen;exact Sh.wY T bs bh st rs n hi (by rw[List.length_append];exact hT) a cap hcap w hw ho hbh hby hne
structure Pc where
 (a:Option Addr) (len cap:Nat) (bs:L8)
def Pc.v(p:Pc):Value:=.slice p.a p.len p.cap
structure PcAt(w:World)(p:Pc):Prop where
 hl:p.bs.length=p.len
 hc:p.len<=p.cap
 hb:BytesAt w p.a p.bs
structure PsAt(w:World)(a:Option Addr)(ps:List Pc):Prop where
 cells:CellsAt w a (ps.map Pc.v)
 all: ∀p,p∈ps->PcAt w p
def cat(ps:List Pc)(k:Nat):L8:=((ps.take k).map Pc.bs).flatten
theorem IA{ps:List Pc}{k:Nat}{p:Pc}(h:ps[k]? =some p):cat ps (k+1)=cat ps k++p.bs:=by
 rw[cat,List.take_add_one,h,List.map_append,List.flatten_append];simp[cat]
theorem Gr(ps:List Pc): ∀(m k:Nat),(cat ps k).length<=(cat ps (k+m)).length
 |0,_=>Nat.le_refl _
 |m+1,k=>by
  refine Nat.le_trans (Gr ps m k) ?_
  cases h:ps[k+m]? with
  |some p=>rw[<-Nat.add_assoc,IA h,List.length_append];omega
  |none=>
   have:ps.length<=k+m:=List.getElem?_eq_none_iff.1 h;rw[cat,cat,List.take_of_length_le this,List.take_of_length_le om];exact Nat.le_refl _
theorem Mj(ps:List Pc){k:Nat}(h:k<=ps.length):(cat ps k).length<=(cat ps ps.length).length:=by
 have:=Gr ps (ps.length-k) k
 rwa [Nat.add_sub_cancel' h]at this
structure LsV(ps:List Pc) where
 (k:Nat) (st:L3) (rs:L8) (n:BitVec 64)
 hk:k<=ps.length
 hi:Sh.HInv (cat ps k) st rs n
theorem Wu(a:Option Addr)(cap:Nat)(ps:List Pc)(hlen:ps.length<=1000)(hl:(cat ps ps.length).length<=1000000)(w:World)(hw:Gt w)(hr:PsAt w a ps):CLS 239 [.slice a ps.length cap].toArray w (λe w'=>e=.returned (.agg ((Sh.SHA (cat ps ps.length)).map U8).toArray)/\Grow w w'):=by
 refine Hf func239 O hw<|λhGF=>ae (E:=EE [264])<|Al 2 hGF zv98<|λb2=>aa<|ae (E:=EE [264])<|Al 3 hGF zvH<|λb3=>aa<|ah<|ae (E:=EE [264])<|Mv O<|bf O (λ_=>aG underlying288 _ _ _ _) O O<|Mv O<|aa<|ai<|bH (ι:=LsV ps) (λz=>[(6,.slice a ps.length cap),(7,I (ps.length:Int)),(8,I (z.k:Int)),(2,pnt b2),(3,pnt b3)]) (λz=>[(2,b2,(List.replicate 32 0#8).map U8,98),(3,b3,Sh.hc z.st z.rs z.n,291)]) (λz=>ps.length-z.k) ⟨0,_,_,_,Nat.zero_le _,Sh.HInv.zero⟩ hGF trv trv<|?_;rintro ⟨k,st,rs,n,hk,hi⟩;dsimp only;refine ae (E:=EE [264])<|Bnr O O (λ_=>aw _ _ _)<|aa<|ah<|?_;refine bD O (λhc=> ?_) (λhc=> ?_)
 ·have hlt:k<ps.length:=by simp at hc;omega
  clear hc;obtain ⟨p,hp⟩: ∃p,ps[k]? =some p:=⟨_,List.getElem?_eq_getElem hlt⟩;obtain ⟨ad,rfl,hcell⟩:=hr.cells k p.v (by rw[List.getElem?_map,hp];rfl)
  have hpa:=hr.all p (List.mem_of_getElem? hp);have hsz:(cat ps k).length+p.len<9223372036854775808:=by
   have h1:=Mj ps (k:=k+1) hlt;rw[IA hp,List.length_append,hpa.hl]at h1;omega
  refine aq<|ah<|ai<|ae (E:=EE [264])<|gF k O O underlying288 sizeOf22 O hlt O O<|bP O isAgg22 (λw' h=>((ac h).cell (block_lt_of_cell hcell)).trans hcell) O O<|Asg O<|aa<|bG (E:=EE [264])<|Mv O<|?_;refine dw O O ent264 O O (λw' hC=>(Ty (cat ps k) (p.bs) b3 st rs n hi _ _ _ (hpa.hl) hpa.hc hsz w' (hGF.g _ _ _ hC) (hC.own 3 _ _ _ O).1 (Nat.le_trans (gt_low.size w hw) ((hC.own 3 _ _ _ O).2.elim id False.elim)) (hpa.hb.grow (ac hC)) (λh ad e=>Nat.ne_of_lt (Nat.lt_of_lt_of_le (hpa.hb.lt h ad e) ((hC.own 3 _ _ _ O).2.elim id False.elim)))).mono λe w'' h=> ?_);obtain ⟨rfl,hm,st1,rs1,n1,hi1,ho⟩:=h;refine ⟨_,_,rfl,az hGF,hC.mod hGF.r (n:=3) O hm ho, ?_⟩;clear hC hm ho;refine aa<|bG (E:=EE [264])<|Bnr (v:=I ((k+1:Nat):Int)) O O (λ_=>(au _ _ _ oi).trans rr)<|Mv O<|aa<|?_
  repeat (refine aO ?_)
  exact aC<|⟨rfl,⟨k+1,st1,rs1,n1,hlt,(IA hp).symm▸hi1⟩,_,by show ps.length-(k+1)<ps.length-k;omega,rfl,trv,trv⟩
 ·have hke:k=ps.length:=by simp at hc;omega
  clear hc;refine aV<|ae (E:=EE [264])<|Cc O ent265 (λw' hC hG=>Sh.AD (cat ps k) b3 st rs n hi w' hG (hC.own 3 _ _ _ O).1)<|aA 2 hGF O O O sizeOf98 sm sm (bZ _) O<|aa<|am<|Rr<|?_;exact av 2 O O O isAgg98 sizeOf98 sm (λw hw=>⟨by rw[<-hke],ac hw⟩)
theorem Xw(b:Nat)(a1:Option Addr)(l1 c1:Nat)(x1:L8)(a2:Option Addr)(l2 c2:Nat)(x2:L8)(a3:Option Addr)(l3 c3:Nat)(x3:L8)(w:World)(hw:Gt w)(hr:w.rangeAt b 0 [.slice a1 l1 c1,.slice a2 l2 c2,.slice a3 l3 c3])(e1:x1.length=l1)(h1:l1<=c1)(b1:BytesAt w a1 x1)(e2:x2.length=l2)(h2:l2<=c2)(b2:BytesAt w a2 x2)(e3:x3.length=l3)(h3:l3<=c3)(b3:BytesAt w a3 x3)(hl:l1+l2+l3<=1000000):CLS 239 [.slice (spt b) 3 3].toArray w (λe w'=>e=.returned (.agg ((Sh.SHA ((x1++x2)++x3)).map U8).toArray)/\Grow w w'):=by
 have e:cat [⟨a1,l1,c1,x1⟩,⟨a2,l2,c2,x2⟩,⟨a3,l3,c3,x3⟩] 3=(x1++x2)++x3:=by simp[cat]
 have h:=Wu (spt b) 3 [⟨a1,l1,c1,x1⟩,⟨a2,l2,c2,x2⟩,⟨a3,l3,c3,x3⟩] sm (by show (cat [⟨a1,l1,c1,x1⟩,⟨a2,l2,c2,x2⟩,⟨a3,l3,c3,x3⟩] 3).length<=_;rw[e];simp only[List.length_append];omega) w hw ⟨CellsAt.range hr,λp hp=>by
  simp only[List.mem_cons,List.not_mem_nil,or_false]at hp;rcases hp with rfl|rfl|rfl
  ·exact ⟨e1,h1,b1⟩
  ·exact ⟨e2,h2,b2⟩
  ·exact ⟨e3,h3,b3⟩⟩
 rw[<-e];exact h
theorem YF(b:Nat)(a1:Option Addr)(l1 c1:Nat)(x1:L8)(a2:Option Addr)(l2 c2:Nat)(x2:L8)(a3:Option Addr)(l3 c3:Nat)(x3:L8)(a4:Option Addr)(l4 c4:Nat)(x4:L8)(w:World)(hw:Gt w)(hr:w.rangeAt b 0 [.slice a1 l1 c1,.slice a2 l2 c2,.slice a3 l3 c3,.slice a4 l4 c4])(e1:x1.length=l1)(h1:l1<=c1)(b1:BytesAt w a1 x1)(e2:x2.length=l2)(h2:l2<=c2)(b2:BytesAt w a2 x2)(e3:x3.length=l3)(h3:l3<=c3)(b3:BytesAt w a3 x3)(e4:x4.length=l4)(h4:l4<=c4)(b4:BytesAt w a4 x4)(hl:l1+l2+l3+l4<=1000000):CLS 239 [.slice (spt b) 4 4].toArray w (λe w'=>e=.returned (.agg ((Sh.SHA (((x1++x2)++x3)++x4)).map U8).toArray)/\Grow w w'):=by
 have e:cat [⟨a1,l1,c1,x1⟩,⟨a2,l2,c2,x2⟩,⟨a3,l3,c3,x3⟩,⟨a4,l4,c4,x4⟩] 4=((x1++x2)++x3)++x4:=by simp[cat]
 have h:=Wu (spt b) 4 [⟨a1,l1,c1,x1⟩,⟨a2,l2,c2,x2⟩,⟨a3,l3,c3,x3⟩,⟨a4,l4,c4,x4⟩] sm (by show (cat [⟨a1,l1,c1,x1⟩,⟨a2,l2,c2,x2⟩,⟨a3,l3,c3,x3⟩,⟨a4,l4,c4,x4⟩] 4).length<=_;rw[e];simp only[List.length_append];omega) w hw ⟨CellsAt.range hr,λp hp=>by
  simp only[List.mem_cons,List.not_mem_nil,or_false]at hp;rcases hp with rfl|rfl|rfl|rfl
  ·exact ⟨e1,h1,b1⟩
  ·exact ⟨e2,h2,b2⟩
  ·exact ⟨e3,h3,b3⟩
  ·exact ⟨e4,h4,b4⟩⟩
 rw[<-e];exact h
theorem WQ(a:Option Addr)(m:Nat):(if m=0 then a else a.map (·.add (0*1)))=a:=by
 cases a with
 |none=>simp
 |some ad=>simp[Addr.add]
def TgV(dst:L8)(w:World)(v:Value):Prop:= ∃a cap,v=.slice a (D dst).length cap/\BytesAt w a (D dst)/\(D dst).length<=cap
theorem ptag(a:Option Addr)(cap:Nat)(dst:L8)(hc:dst.length<=cap)(hl:dst.length<=100000)(w:World)(hw:Gt w)(hb:BytesAt w a dst):CLS 238 [.slice a dst.length cap].toArray w (λe w'=> ∃v,e=.returned v/\Grow w w'/\TgV dst w' v):=by
 refine Hf func238 O hw<|λhGF=>Xp<|Asg O<|aa<|Xp<|Mv O<|Mv O<|bf O (λ_=>aG underlying22 _ _ _ _) O O<|Mv O<|bf O (λ_=>aG underlying22 _ _ _ _) O O<|gt (l:=0) (h':=dst.length) (m:=dst.length) O underlying22 sizeOf5 O O O ⟨Nat.zero_le _,Nat.le_refl _,hc⟩ O O<|?_;rw[WQ,Nat.sub_zero];refine Mv O<|bf O (λ_=>aG underlying22 _ _ _ _) O O<|bX O O (λ_=>fo underlying3 underlying5 _) O O<|d8 12 [BitVec.ofInt 8 (dst.length:Int)] hGF O O O dc dc underlying22 sizeOf5 zeroValue5 O O<|?_;intro b12;refine yJ (xs:=dst) (ys:=[BitVec.ofInt 8 (dst.length:Int)]) 13 hGF O O underlying22 underlying22 ti5 (λw' h=>hb.grow (ac h)) (λw' h=>BytesAt.range (aI (n:=12) O w' h)) (by simp;omega) sm O O (λb13 c13 cap13 e13 l13 t13=> ?_)
 subst e13;refine Asg O<|aa<|am<|Rr<|?_;exact aF O O (λw hw=>⟨_,rfl,ac hw,_,_,rfl,qw (hw.own 13 b13 _ _ O).1.range t13,l13⟩)
theorem qW(l:L8)(i j:Nat)(v:BitVec 8):(l.set i v).getD j 0=if i=j/\j<l.length then v else l.getD j 0:=by
 simp only[List.getD_eq_getElem?_getD,List.getElem?_set];by_cases h:i=j
 ·subst h
  by_cases h2:i<l.length
  ·simp[h2]
  ·simp[h2]
 ·simp[h]
theorem FR(b l:L8): ∀(j i:Nat),j<=i->(R b l j).getD i 0=b.getD i 0
 |0,_,_=>rfl
 |j+1,i,h=>by rw[R,qW,if_neg om,FR b l j i om]
theorem UT(b l:L8)(j:Nat):(R b l j).set j ((R b l j).getD j 0^^^l.getD j 0)=R b l (j+1):=by rw[R,FR b l j j (Nat.le_refl _)]
theorem rx(l:L8)(j:Nat):l.set j (l.getD j 0)=l:=by
 refine List.ext_getElem? λi=> ?_;rw[List.getElem?_set];by_cases h:j=i
 ·subst h
  by_cases h2:j<l.length
  ·simp[h2]
  ·simp[h2]
 ·simp[h]
theorem Jy(b:L8): ∀j,R b (List.replicate 32 0#8) j=b
 |0=>rfl
 |j+1=>by
  rw[R,Jy b j,show (List.replicate 32 0#8).getD j 0=0#8 by rw[List.getD_eq_getElem?_getD,List.getElem?_replicate];split<;>rfl,BitVec.xor_zero,rx]
theorem Z0(b d:L8)(k:Nat):R b (Xk b d k) 32=X16 b (Xk b d k) k:=by
 unfold X16;split
 ·next h=>subst h;exact Jy b 32
 ·rfl
theorem LW(b d:L8)(k:Nat):Sh.SHA ((R b (Xk b d k) 32++[BitVec.ofInt 8 ((k+1:Nat):Int)])++d)=Xk b d (k+1):=by rw[Z0,Xk];rfl
attribute [local simp] kG
theorem Gf(x l:L8)(hx:x.length=32)(hl:l.length=32):PUR 266 [.agg (x.map U8).toArray,.agg (l.map U8).toArray] (.agg ((R x l 32).map U8).toArray):=by
 intro w hw;refine Hf func266 O hw<|λhGF=>Xp<|Bx 2 hGF O<|λb2=>Bx 3 hGF O<|λb3=>Al 4 hGF zv98<|λb4=>aa<|ah<|Xp<|Mv O<|aa<|ai<|bH (ι:={j:Nat // j<=32}) (λy=>[(2,pnt b2),(3,pnt b3),(4,pnt b4),(6,I (y.1:Int))]) (λy=>[(2,b2,(R x l y.1).map U8,98),(3,b3,l.map U8,98),(4,b4,(List.replicate 32 0#8).map U8,98)]) (λy=>32-y.1) ⟨0,om⟩ hGF trv trv<|?_;rintro ⟨j,hj⟩;dsimp only;refine Xp<|Bnr O O (λ_=>aw _ _ _)<|aa<|ah<|?_;refine bD O (λhc=> ?_) (λhc=> ?_)
 ·simp only[decide_eq_true_eq]at hc
  refine aq<|ah<|ai<|Xp<|Mv O<|Asg O<|aa<|Xe []<|Mv O<|Ia (j) O O underlying98 sizeOf5<|Lm 2 U8 0 O O isAgg5 (by first|omega|(simp;omega))<|Mv O<|Ia (j) O O underlying98 sizeOf5<|Lm 3 U8 0 O O isAgg5 (by first|omega|(simp;omega))<|Bnr O O (λ_=>rR _ _ _)<|Ia (j) O O underlying98 sizeOf5<|aY 2 U8 hGF O O O sizeOf5 O (by first|omega|(simp;omega)) O<|aa<|Xq<|Bnr O O (λ_=>au _ _ _ oi)<|Mv O<|aa<|?_
  repeat (refine aO ?_)
  exact aC<|⟨rfl,⟨j+1,om⟩,_,by show 32-(j+1)<32-j;omega,rfl,trv,⟨by rw[<-UT];rfl,rfl,rfl,trivial⟩⟩
 ·obtain rfl:j=32:=by simp at hc;omega
  refine aV<|Xp<|bU 2 O O isAgg98 sizeOf98 (by simp[hx]) O O<|aA 4 hGF O O O sizeOf98 (by simp[hx]) sm (bZ _) O<|aa<|am<|Rr<|?_
  exact av 4 O O O isAgg98 sizeOf98 (by simp[hx]) (λw hw=>⟨rfl,ac hw⟩)
end Xm
end
section
open Go.RowKit
namespace Xm
attribute [local simp] Sh.gV kX pV kG fH gu Sh.cb kE
attribute [local simp] tU kG
theorem zvS(w:World):(zeroValue 22).run prog w=.ok (.slice none 0 0) w:=zeroValue22 w
theorem ZT(n:Nat)(hn:n<=8160)(t:TypeId)(w:World):(binOp .quo t (I ((n:Int)+32-1)) (I 32)).run prog w=.ok (I ((((n+31) / 32):Nat):Int)) w:=by
 have e:((n:Int)+32-1).tdiv 32=((((n+31) / 32):Nat):Int):=by
  rw[Int.tdiv_eq_ediv_of_nonneg om];omega
 rw[<-e];exact fw t _ _ dc (by rw[e];unfold inI;omega)
structure LtV(b d:L8)(m:Nat) where
 (k bb:Nat) (c:List Value) (cap:Nat)
 hk:k<=m
 hcap:c.length=cap
 hle:(Ozz b d k).length<=cap
 ht:c.take (Ozz b d k).length=(Ozz b d k).map U8
def SrV(b d:L8)(n:Nat)(w:World)(v:Value):Prop:= ∃a,v=.slice a n n/\BytesAt w a ((Ozz b d ((n+31) / 32)).take n)
theorem GZ(b d:L8)(hb:b.length=32)(a:Option Addr)(cap0:Nat)(n:Nat)(hn:n<=8160)(hd:d.length<=1000)(hc0:d.length<=cap0)(w:World)(hw:Gt w)(hby:BytesAt w a d):CLS 240 [.agg (b.map U8).toArray,.slice a d.length cap0,I (n:Int)].toArray w (λe w'=> ∃v,e=.returned v/\Grow w w'/\SrV b d n w' v):=by
 refine Hf func240 O hw<|λhGF=>Xp<|Bx 3 hGF O<|λb3=>Asg O<|aa<|Xp<|Mv O<|Bnr O O (λ_=>au _ _ _ oi)<|Bnr O O (λ_=>aW _ _ _ oi)<|cu (v:=I ((((n+31) / 32):Nat):Int)) O O (λ_=>rfl) (λw=>ZT n hn _ w) O O<|Asg O<|aa<|Xp<|Mv O<|cu (v:=I ((((n+31) / 32)*32:Nat):Int)) O O (λ_=>rfl) (λ_=>(bx _ _ _ oi).trans rr) O O<|xS (l:=0) (m:=((n+31) / 32)*32) (c:=(List.replicate (((n+31) / 32)*32) 0#8).map U8) 18 hGF O O (Nat.zero_le _) underlying22 ti5 ⟨om,om,om⟩ (by rw[Nat.mul_one];exact Y7 _) O O<|λb18=>Asg O<|aa<|Xp<|Al 9 hGF zv98<|λb9=>aa<|ah<|Xp<|Mv O<|Mv O<|aa<|ai<|bH (ι:=LtV b d ((n+31) / 32)) (λz=>[(1,.slice a d.length cap0),(2,I (n:Int)),(3,pnt b3),(8,.slice (spt z.bb) (Ozz b d z.k).length z.cap),(9,pnt b9),(19,I (((n+31) / 32):Nat)),(20,I (z.k:Int))]) (λz=>[(3,b3,b.map U8,98),(9,b9,(Xk b d z.k).map U8,98),(18,z.bb,z.c,5)]) (λz=>((n+31) / 32)-z.k) ⟨0,b18,_,((n+31) / 32)*32,Nat.zero_le _,sm,Nat.zero_le _,rfl⟩ hGF ⟨rfl,rfl,rfl,rfl,rfl,rfl,rfl,trivial⟩ ⟨rfl,rfl,rfl,trivial⟩<|?_
 rintro ⟨k,bb,c,cap,hk,hcap,hle,ht⟩;dsimp only;have hx:(Xk b d k).length=32:=fH _ _ _;refine Xp<|Bnr O O (λ_=>aw _ _ _)<|aa<|ah<|?_;refine bD O (λhc=> ?_) (λhc=> ?_)
 ·have hlt:k<((n+31) / 32):=by simp at hc;omega
  clear hc;refine aq<|ah<|ai<|Xp<|Mv O<|Asg O<|aa<|Xp<|bU 3 O O isAgg98 sizeOf98 (by simp[hb]) O O<|La 9 O O wK<|Ca O (Gf b (Xk b d k) hb (fH _ _ _))<|Al 11 hGF zv98<|λb11=>aA 11 hGF O O O sizeOf98 (by simp[hb]) sm (bZ _) O<|aa<|Xp<|bR (l:=0) (h':=32) O underlying98 sizeOf5 O O om om O O<|Mv O<|Bnr (v:=I ((k+1:Nat):Int)) O O (λ_=>(au _ _ _ oi).trans rr)<|bX O O (λ_=>fo underlying3 underlying5 _) O O<|d8 30 [BitVec.ofInt 8 ((k+1:Nat):Int)] hGF O O O dc dc underlying22 sizeOf5 zeroValue5 O O<|λb30=>Mv O<|uw 32 [.slice (spt b11) 32 32,.slice (spt b30) 1 1,.slice a d.length cap0] hGF O O O dc dc underlying288 sizeOf22 zvS O O O<|λb32=>Cc O ent239 (λw' hC hG=>Xw b32 (spt b11) 32 32 (R b (Xk b d k) 32) (spt b30) 1 1 [BitVec.ofInt 8 ((k+1:Nat):Int)] a d.length cap0 d w' hG (aI (n:=32) O w' hC) (by rw[kG,hb]) (Nat.le_refl _) (BytesAt.range (aI (n:=11) O w' hC)) O (Nat.le_refl _) (BytesAt.range (aI (n:=30) O w' hC)) O hc0 (hby.grow (ac hC)) om)<|?_
  rw[show Sh.SHA (((R b (Xk b d k) 32)++[BitVec.ofInt 8 ((k+1:Nat):Int)])++d)=Xk b d (k+1)from LW b d k];refine aA 9 hGF O O O sizeOf98 sm sm (bZ _) O<|aa<|Xq<|Mv O<|bR (l:=0) (h':=32) O underlying98 sizeOf5 O O om om O O<|?_;refine cq (xs:=Ozz b d k) (ys:=Xk b d (k+1)) 18 hGF O (by rw[fH];rfl) underlying22 underlying22 ti5 (.inr ⟨bb,c,rfl,rfl,hcap,hle,ht⟩) (λw' h=>BytesAt.range (aI (n:=9) O w' h)) (by rw[gu,fH];omega) O O (λh0=> ?_) (λb36 c36 cap36 e36 l36 t36=> ?_)
  ·exact (Am (fH _ _ _) h0).elim
  subst e36;refine Asg O<|aa<|Xq<|Bnr (v:=I ((k+1:Nat):Int)) O O (λ_=>(au _ _ _ oi).trans rr)<|Mv O<|aa<|?_
  repeat (first|refine aO ?_|refine cm ?_)
  exact aC<|⟨rfl,⟨k+1,b36,c36,c36.length,om,rfl,l36,t36⟩,_,by show ((n+31) / 32)-(k+1)<((n+31) / 32)-k;omega,rfl,trv,trv⟩
 ·have hke:k=((n+31) / 32):=by simp at hc;omega
  clear hc;refine aV<|Xp<|Mv O<|Mv O<|Mv O<|gt (l:=0) (h':=n) (m:=n) O underlying22 sizeOf5 O O O ⟨Nat.zero_le _,Nat.le_refl _,by rw[gu]at hle;omega⟩ O O<|?_
  rw[WQ,Nat.sub_zero];refine Asg O<|aa<|am<|Rr<|?_;subst hke;have e:(List.take n (Ozz b d ((n+31) / 32))).length=n:=by rw[List.length_take,gu];omega
  exact aF O O (λw hw=>⟨_,rfl,ac hw,_,rfl,qw (hw.own 18 bb _ _ O).1.range (by rw[e];exact xr ht (by rw[gu];omega))⟩)
theorem px_0(a1:Option Addr)(cap1:Nat)(msg:L8)(a2:Option Addr)(cap2:Nat)(dst:L8)(z:Int)(h:z<0)(w:World)(hw:Gt w):CLS 205 [.slice a1 msg.length cap1,.slice a2 dst.length cap2,I z].toArray w (λe w'=>e=.returned (.tuple #[.slice none 0 0,I 130])/\Grow w w'):=by
 refine Hf func205 O hw<|λhGF=>Xp<|Asg O<|Asg O<|aa<|ah<|Xp<|Mv O<|Bnb true O O (λ_=>aw _ _ _) (decide_eq_true om)<|Mv O<|Sk<|Sk<|Pk O O O<|Mv O<|Sk<|Sk<|Sk<|Pk O O O<|Mv O<|Sk<|Sk<|Sk<|Pk O O O<|aa<|aT O<|Xp<|Asg O<|Asg O<|aa<|am<|Rr<|?_;exact ch O O O (λw hw=>⟨rfl,ac hw⟩)
theorem px_1(a1:Option Addr)(cap1:Nat)(msg:L8)(a2:Option Addr)(cap2:Nat)(dst:L8)(z:Int)(h:8160<z)(w:World)(hw:Gt w):CLS 205 [.slice a1 msg.length cap1,.slice a2 dst.length cap2,I z].toArray w (λe w'=>e=.returned (.tuple #[.slice none 0 0,I 130])/\Grow w w'):=by
 refine Hf func205 O hw<|λhGF=>Xp<|Asg O<|Asg O<|aa<|ah<|Xp<|Mv O<|Bnb false O O (λ_=>aw _ _ _) (decide_eq_false om)<|Mv O<|Mv O<|Bnb true O O (λ_=>ba _ _ _) (decide_eq_true om)<|Pk O O O<|Mv O<|Sk<|Sk<|Sk<|Pk O O O<|Mv O<|Sk<|Sk<|Sk<|Pk O O O<|aa<|aT O<|Xp<|Asg O<|Asg O<|aa<|am<|Rr<|?_;exact ch O O O (λw hw=>⟨rfl,ac hw⟩)
theorem px_2(a1:Option Addr)(cap1:Nat)(msg:L8)(a2:Option Addr)(cap2:Nat)(dst:L8)(z:Int)(h0: ¬z<0)(h1: ¬8160<z)(h:255<dst.length)(w:World)(hw:Gt w):CLS 205 [.slice a1 msg.length cap1,.slice a2 dst.length cap2,I z].toArray w (λe w'=>e=.returned (.tuple #[.slice none 0 0,I 130])/\Grow w w'):=by
 refine Hf func205 O hw<|λhGF=>Xp<|Asg O<|Asg O<|aa<|ah<|Xp<|Mv O<|Bnb false O O (λ_=>aw _ _ _) (decide_eq_false om)<|Mv O<|Mv O<|Bnb false O O (λ_=>ba _ _ _) (decide_eq_false om)<|Pk O O O<|Mv O<|Mv O<|bf O (λ_=>aG underlying22 _ _ _ _) O O<|Bnb true O O (λ_=>ba _ _ _) (decide_eq_true om)<|Pk O O O<|Mv O<|Sk<|Sk<|Sk<|Pk O O O<|aa<|aT O<|Xp<|Asg O<|Asg O<|aa<|am<|Rr<|?_;exact ch O O O (λw hw=>⟨rfl,ac hw⟩)
theorem px_3(a1:Option Addr)(cap1:Nat)(msg:L8)(a2:Option Addr)(cap2:Nat)(dst:L8)(z:Int)(h0: ¬z<0)(h1: ¬8160<z)(h2: ¬255<dst.length)(h:65536<msg.length)(w:World)(hw:Gt w):CLS 205 [.slice a1 msg.length cap1,.slice a2 dst.length cap2,I z].toArray w (λe w'=>e=.returned (.tuple #[.slice none 0 0,I 130])/\Grow w w'):=by
 refine Hf func205 O hw<|λhGF=>Xp<|Asg O<|Asg O<|aa<|ah<|Xp<|Mv O<|Bnb false O O (λ_=>aw _ _ _) (decide_eq_false om)<|Mv O<|Mv O<|Bnb false O O (λ_=>ba _ _ _) (decide_eq_false om)<|Pk O O O<|Mv O<|Mv O<|bf O (λ_=>aG underlying22 _ _ _ _) O O<|Bnb false O O (λ_=>ba _ _ _) (decide_eq_false om)<|Pk O O O<|Mv O<|Mv O<|bf O (λ_=>aG underlying22 _ _ _ _) O O<|Bnb true O O (λ_=>ba _ _ _) (decide_eq_true om)<|Pk O O O<|aa<|aT O<|Xp<|Asg O<|Asg O<|aa<|am<|Rr<|?_;exact ch O O O (λw hw=>⟨rfl,ac hw⟩)
theorem ZJ(a1:Option Addr)(cap1:Nat)(msg:L8)(a2:Option Addr)(cap2:Nat)(dst:L8)(n:Nat)(hc1:msg.length<=cap1)(hc2:dst.length<=cap2)(hn:n<=8160)(hd:dst.length<=255)(hm:msg.length<=65536)(w:World)(hw:Gt w)(hb1:BytesAt w a1 msg)(hb2:BytesAt w a2 dst):CLS 205 [.slice a1 msg.length cap1,.slice a2 dst.length cap2,I (n:Int)].toArray w (λe w'=> ∃v,e=.returned v/\Grow w w'/\∃a cap,v=.tuple #[.slice a (E msg dst n).length cap,I 0]/\BytesAt w' a (E msg dst n)/\(E msg dst n).length<=cap):=by
 have hGF:BOk Gt (pl w):=gt_low.plain hw;have hgw:Grow w w:=Grow.refl w;refine Hd func205 O hGF<|ae (E:=EE [238,240])<|Asg O<|Asg O<|aa<|ah<|ae (E:=EE [238,240])<|Mv O<|Bnb false O O (λ_=>aw _ _ _) (decide_eq_false om)<|Mv O<|Mv O<|Bnb false O O (λ_=>ba _ _ _) (decide_eq_false om)<|Pk O O O<|Mv O<|Mv O<|bf O (λ_=>aG underlying22 _ _ _ _) O O<|Bnb false O O (λ_=>ba _ _ _) (decide_eq_false om)<|Pk O O O<|Mv O<|Mv O<|bf O (λ_=>aG underlying22 _ _ _ _) O O<|Bnb false O O (λ_=>ba _ _ _) (decide_eq_false om)<|Pk O O O<|aa<|aD O<|aq<|ae (E:=EE [238,240])<|Mv O<|?_;refine jH O O ent238 O O gt_low (az hGF) (λw' hC hG=>ptag a2 cap2 dst hc2 om w' hG (hb2.grow (hgw.trans (ac hC)))) (λw0 w1 v h0 hg hG1 hq=> ?_);replace hgw:=hgw.trans ((ac h0).trans hg);clear h0 hg hGF;have hGF:BOk Gt (pl w1):=gt_low.plain hG1;obtain ⟨ta,tc,rfl,hta,htc⟩:=hq;refine Asg O<|aa<|ae (E:=EE [238,240])<|pC 28 hGF O O underlying22 ti5.choose_spec.1 ti5.choose_spec.2.1 (hmk 64 dc) (hmc 64 ti5.choose_spec Wt) O O<|λb28=>Mv O<|Mv O<|Bnr O O (λ_=>w8 _ _)<|bX O O (λ_=>fo underlying3 underlying5 _) O O<|Mv O<|bX O O (λ_=>fo underlying3 underlying5 _) O O<|d8 35 [BitVec.ofInt 8 ((n / 256:Nat):Int),BitVec.ofInt 8 (n:Int),0#8] hGF O O O dc dc underlying22 sizeOf5 zeroValue5 O O<|λb35=>Mv O<|uw 37 [.slice (spt b28) 64 64,.slice a1 msg.length cap1,.slice (spt b35) 3 3,.slice ta (D dst).length tc] hGF O O O dc dc underlying288 sizeOf22 zvS O O O<|λb37=>Cc O ent239 (λw' hC hG=>YF b37 (spt b28) 64 64 (List.replicate 64 0#8) a1 msg.length cap1 msg (spt b35) 3 3 [BitVec.ofInt 8 ((n / 256:Nat):Int),BitVec.ofInt 8 (n:Int),0#8] ta (D dst).length tc (D dst) w' hG (aI (n:=37) O w' hC) O (Nat.le_refl _) (BytesAt.range (aI (n:=28) O w' hC)) O hc1 (hb1.grow (hgw.trans (ac hC))) O (Nat.le_refl _) (BytesAt.range (aI (n:=35) O w' hC)) O htc (hta.grow (ac hC)) (by rw[kE];omega))<|?_
 rw[show Sh.SHA ((((List.replicate 64 0#8)++msg)++[BitVec.ofInt 8 ((n / 256:Nat):Int),BitVec.ofInt 8 (n:Int),0#8])++D dst)=B0 msg dst n from O];refine Al 9 hGF zv98<|λb9=>aA 9 hGF O O O sizeOf98 sm sm (bZ _) O<|aa<|ae (E:=EE [238,240])<|La 9 O O wK<|Mv O<|Mv O<|?_;refine jH O O ent240 O O gt_low (az hGF) (λw' hC hG=>GZ (B0 msg dst n) (D dst) (kX _ _ _) ta tc n hn (by rw[kE];omega) htc w' hG (hta.grow (ac hC))) (λw0 w1 v h0 hg hG1 hq=> ?_)
 replace hgw:=hgw.trans ((ac h0).trans hg);clear h0 hg hGF;have hGF:BOk Gt (pl w1):=gt_low.plain hG1;obtain ⟨sa,rfl,hsa⟩:=hq;refine Asg O<|Asg O<|aa<|am<|Rr<|?_;exact ch O O O (λw hw=>⟨_,rfl,hgw.trans (ac hw),sa,n,by rw[kK];rfl,hsa.grow (ac hw),by rw[kK];exact Nat.le_refl _⟩)
theorem pxc:PXC:=by
 intro a1 cap1 msg a2 cap2 dst z w _ hc1 _ hc2 hw hb1 hb2;have err:Bad msg dst z->∀{e:Ending} {w':World},e=.returned (.tuple #[.slice none 0 0,I 130])/\Grow w w'->∃v,e=.returned v/\Grow w w'/\RT msg dst z w' v:=λhb _ _ h=>⟨_,h.1,h.2,λ_=>rfl,λhn=>absurd hb hn⟩;by_cases h0:z<0
 ·exact (px_0 a1 cap1 msg a2 cap2 dst z h0 w hw).mono λ_ _ h=>err (.inl h0) h
 by_cases h1:8160<z
 ·exact (px_1 a1 cap1 msg a2 cap2 dst z h1 w hw).mono λ_ _ h=>err (.inr (.inl h1)) h
 by_cases h2:255<dst.length
 ·exact (px_2 a1 cap1 msg a2 cap2 dst z h0 h1 h2 w hw).mono λ_ _ h=>err (.inr (.inr (.inl h2))) h
 by_cases h3:65536<msg.length
 ·exact (px_3 a1 cap1 msg a2 cap2 dst z h0 h1 h2 h3 w hw).mono λ_ _ h=>err (.inr (.inr (.inr h3))) h
 obtain ⟨n,rfl⟩: ∃n:Nat,z=(n:Int):=⟨z.toNat,om⟩;refine (ZJ a1 cap1 msg a2 cap2 dst n hc1 hc2 om om om w hw hb1 hb2).mono λe w' ⟨v,he,hg,hc⟩=>⟨_,he,hg,λhb=>absurd hb ?_,λ_=>hc⟩;rintro (h|h|h|h)<;>omega
end Xm
end
end Go.Proofs.YtjookodjbjabbaaGreatDoor
