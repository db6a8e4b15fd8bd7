/-
 The walks of package swu: the other curve.
 The document's place on the other curve.
 The document's map to the second curve.
 The document's map to the second curve: Iso, Map.
-/
import Derived.Test.YtodgbdcjjhmnkaaGreatDoorQ4
import Derived.Test.YtodgbdcjjhmnkaaGreatDoorXJ
import Derived.Test.YtodgbdcjjhmnkaaGreatDoorX3
import Derived.Test.YtodgbdcjjhmnkaaGreatDoorX2
import Derived.Test.YtodgbdcjjhmnkaaGreatDoorXW
set_option maxRecDepth 100000
set_option maxHeartbeats 1000000
namespace Go.Proofs.YtodgbdcjjhmnkaaGreatDoor
open Go.Proofs.Tryz
section
open Go.RowKit
attribute [local simp] a8 bG aE az a6 aY aQ aK a9 PLl d8 ec N1l d6 d9 dR bC bL bN bO ce dW
theorem ent168:ah Tryz.prog 168:=fun _ _=>by kernel_rfl
theorem ent167:ah Tryz.prog 167:=fun _ _=>by kernel_rfl
theorem ent142:ah Tryz.prog 142:=fun _ _=>by kernel_rfl
theorem ent144:ah Tryz.prog 144:=fun _ _=>by kernel_rfl
theorem ent143:ah Tryz.prog 143:=fun _ _=>by kernel_rfl
theorem ent138:ah Tryz.prog 138:=fun _ _=>by kernel_rfl
theorem ent139:ah Tryz.prog 139:=fun _ _=>by kernel_rfl
theorem ent165:ah Tryz.prog 165:=fun _ _=>by kernel_rfl
theorem ent137:ah Tryz.prog 137:=fun _ _=>by kernel_rfl
theorem pA  :Pure Tryz.prog Gt 168 [] (EV2 OA):=pE TO67 func168 [] (.inl (.inl [OA.1,OA.2])) (let t0:=zp (240#64).toNat;(.inl (.inl [0,t0]),[])) [] (by kernel_rfl) aD rfl
def TO68:Tb Tryz.prog Gt:=TO67.add (oR (g:=OA) ent168 pA)
theorem pB  :Pure Tryz.prog Gt 167 [] (EV2 OB):=pE TO68 func167 [] (.inl (.inl [OB.1,OB.2])) (let t0:=zp (1012#64).toNat;let t1:=zp (1012#64).toNat;(.inl (.inl [t0,t1]),[])) [] (by kernel_rfl) aD rfl
def TO69:Tb Tryz.prog Gt:=TO68.add (oR (g:=OB) ent167 pB)
theorem pZ  :Pure Tryz.prog Gt 142 [] (EV2 OZ):=pE TO69 func142 [] (.inl (.inl [OZ.1,OZ.2])) (let t0:=zp (2#64).toNat;let t1:=ng2 (t0,1);(.inl (.inl [t1.1,t1.2]),[])) [] (by kernel_rfl) aD rfl
def TO70:Tb Tryz.prog Gt:=TO69.add (oR (g:=OZ) ent142 pZ)
theorem psq(x:W2):Pure Tryz.prog Gt 144 [EV2 x] (EV2 (gO x)):=pE TO70 func144 [.inl [x.1,x.2]] (.inl (.inl [(gO x).1,(gO x).2])) (let t0:=ml2 x x;let t1:=OA;let t2:=ad2 (t0.1,t0.2) (t1.1,t1.2);let t3:=ml2 (t2.1,t2.2) x;let t4:=OB;let t5:=ad2 (t3.1,t3.2) (t4.1,t4.2);(.inl (.inl [t5.1,t5.2]),[])) [] (by kernel_rfl) aD (el2 (congrArg Prod.fst (D8 x)) (congrArg Prod.snd (D8 x)))
def TO71:Tb Tryz.prog Gt:=TO70.add (cE (g:=gO) ent144 psq)
def FXs(s:W2):W2:=if (ad2 (ml2 s s) s)=ze2 then ml2 (ml2 OB (ad2 (ad2 (ml2 s s) s) on2)) (iv2 (ml2 OZ OA))else ml2 (ml2 OB (ad2 (ad2 (ml2 s s) s) on2)) (iv2 (ml2 (ng2 (ad2 (ml2 s s) s)) OA))
theorem Hx(u:W2):FXs (zu2 u)=x1O u:=by
 by_cases h:tu2 u=ze2
 ·exact (if_pos h).trans (AH h)
 ·exact (if_neg h).trans (A0 h)
theorem yB(s:W2):Pure Tryz.prog Gt 143 [EV2 s] (EV2 (FXs s)):=by
 by_cases h:(ad2 (ml2 s s) s)=ze2
 ·exact pE TO71 func143 [.inl [s.1,s.2]] (.inl (.inl [(FXs s).1,(FXs s).2])) (let t0:=ml2 s s;let t1:=ad2 (t0.1,t0.2) s;let t3:=OZ;let t4:=OB;let t5:=on2;let t6:=ad2 (t1.1,t1.2) (t5.1,t5.2);let t7:=ml2 (t4.1,t4.2) (t6.1,t6.2);let t8:=OA;let t9:=ml2 (t3.1,t3.2) (t8.1,t8.2);let t10:=iv2 (t9.1,t9.2);let t11:=ml2 (t7.1,t7.2) (t10.1,t10.2);(.inl (.inl [t11.1,t11.2]),[(decide ((t1.1,t1.2)=ze2),true)])) [some true] (by kernel_rfl) (am (decide_eq_true h) aD) (by rw[show FXs s=_ from if_pos h]<;>exact rfl)
 ·exact pE TO71 func143 [.inl [s.1,s.2]] (.inl (.inl [(FXs s).1,(FXs s).2])) (let t0:=ml2 s s;let t1:=ad2 (t0.1,t0.2) s;let t2:=ng2 (t1.1,t1.2);let t3:=OB;let t4:=on2;let t5:=ad2 (t1.1,t1.2) (t4.1,t4.2);let t6:=ml2 (t3.1,t3.2) (t5.1,t5.2);let t7:=OA;let t8:=ml2 (t2.1,t2.2) (t7.1,t7.2);let t9:=iv2 (t8.1,t8.2);let t10:=ml2 (t6.1,t6.2) (t9.1,t9.2);(.inl (.inl [t10.1,t10.2]),[(decide ((t1.1,t1.2)=ze2),false)])) [some false] (by kernel_rfl) (am (decide_eq_false h) aD) (by rw[show FXs s=_ from if_neg h]<;>exact rfl)
def TO72:Tb Tryz.prog Gt:=TO71.add (cE (g:=FXs) ent143 yB)
theorem sg_t{r u:W2}(h:SG2 r=SG2 u):(SG2 r !=SG2 u)=false:=by rw[h];exact bne_self_eq_false _
theorem sg_f{r u:W2}(h: ¬SG2 r=SG2 u):(SG2 r !=SG2 u)=true:=bne_iff_ne.2 h
theorem uU(r u:W2)(h:SG2 r=SG2 u):Pure Tryz.prog Gt 145 [EV2 r,I (SG2 u)] (EV2 r):=by
 intro w hw
 refine Hf func145 rfl hw<|fun hGF=>Xp<|Bx 2 hGF rfl<|fun b2=>Al 4 hGF zv29<|fun b4=>aa<|ae<|Xp<|La 2 rfl rfl aM<|Ca rfl (qf _)<|Mv rfl<|Bnb false rfl rfl (fun _=>cY _ _ _) (sg_t h)<|aa<|aL rfl<|au<|Xp<|La 2 rfl rfl aM<|Sa 4 hGF rfl rfl rfl aM<|aa<|ap<|Rr<|?_
 exact av 4 rfl rfl rfl isAgg29 sizeOf29 (by simp) (fun w hw=>⟨rfl,ac hw⟩)
theorem u3(r u:W2)(h: ¬SG2 r=SG2 u):Pure Tryz.prog Gt 145 [EV2 r,I (SG2 u)] (EV2 (ng2 r)):=by
 intro w hw
 refine Hf func145 rfl hw<|fun hGF=>Xp<|Bx 2 hGF rfl<|fun b2=>Al 4 hGF zv29<|fun b4=>aa<|ae<|Xp<|La 2 rfl rfl aM<|Ca rfl (qf _)<|Mv rfl<|Bnb true rfl rfl (fun _=>cY _ _ _) (sg_f h)<|aa<|ba rfl<|Xp<|La 2 rfl rfl aM<|Ca rfl (zh _)<|Sa 4 hGF rfl rfl rfl aM<|aa<|ap<|Rr<|?_
 exact av 4 rfl rfl rfl isAgg29 sizeOf29 (by simp) (fun w hw=>⟨rfl,ac hw⟩)
theorem sR(r u:W2):Pure Tryz.prog Gt 145 [EV2 r,I (SG2 u)] (EV2 (sgS r u)):=by
 by_cases h:SG2 r=SG2 u
 ·rw[show sgS r u=r from if_pos h];exact uU r u h
 ·rw[show sgS r u=ng2 r from if_neg h];exact u3 r u h
theorem vH(u:W2):Pure Tryz.prog Gt 49 [EV2 (ml2 u u),EV2 OZ] (EV2 (zu2 u)):=by
 have h:=fL (ml2 u u) OZ
 rw[Ie]at h
 exact h
theorem ul(u:W2):Pure Tryz.prog Gt 143 [EV2 (zu2 u)] (EV2 (x1O u)):=by
 have h:=yB (zu2 u)
 rw[Hx]at h
 exact h
theorem Hi(u r:W2)(hr:ml2 r r=gO (x1O u))(hl:LG2 r=false):Pure Tryz.prog Gt 101 [EV2 u] (.tuple #[EV2 (x1O u),EV2 (sgS r u)]):=by
 intro w hw
 refine Hf func101 rfl hw<|fun hGF=>Xp<|Bx 1 hGF rfl<|fun b1=>Al 2 hGF zv29<|fun b2=>Al 3 hGF zv29<|fun b3=>aa<|Xp<|La 1 rfl rfl aM<|Ca rfl (jk _)<|Ca rfl (pZ)<|Ca rfl (vH u)<|Al 4 hGF zv29<|fun b4=>Sa 4 hGF rfl rfl rfl aM<|aa<|Xp<|La 4 rfl rfl aM<|Ca rfl (ul u)<|Al 5 hGF zv29<|fun b5=>Sa 5 hGF rfl rfl rfl aM<|aa<|Xp<|La 5 rfl rfl aM<|Ca rfl (psq _)<|Ca rfl (kG _ r hr hl)<|Mv rfl<|Ext rfl rfl<|Ext rfl rfl<|Al 6 hGF zv29<|fun b6=>Sa 6 hGF rfl rfl rfl aM<|Asg rfl<|aa<|ae<|Xp<|Mv rfl<|bz rfl (fun _=>bi _) rfl rfl<|aa<|aL rfl<|au<|Xd []<|La 5 rfl rfl aM<|?_
 refine La 6 rfl rfl aM<|La 1 rfl rfl aM<|Ca rfl (qf _)<|Ca rfl (sR r u)<|Sa 2 hGF rfl rfl rfl aM<|Sa 3 hGF rfl rfl rfl aM<|aa<|ap<|Rr<|?_
 exact og 2 3 rfl rfl rfl rfl rfl isAgg29 sizeOf29 (by simp) (by simp) (fun w hw=>⟨rfl,ac hw⟩)
theorem FQ(u r:W2)(hq: ¬IsQ (nm2 (gO (x1O u))))(hr:ml2 r r=gO (ml2 (zu2 u) (x1O u)))(hl:LG2 r=false):Pure Tryz.prog Gt 101 [EV2 u] (.tuple #[EV2 (ml2 (zu2 u) (x1O u)),EV2 (sgS r u)]):=by
 intro w hw
 refine Hf func101 rfl hw<|fun hGF=>Xp<|Bx 1 hGF rfl<|fun b1=>Al 2 hGF zv29<|fun b2=>Al 3 hGF zv29<|fun b3=>aa<|Xp<|La 1 rfl rfl aM<|Ca rfl (jk _)<|Ca rfl (pZ)<|Ca rfl (vH u)<|Al 4 hGF zv29<|fun b4=>Sa 4 hGF rfl rfl rfl aM<|aa<|Xp<|La 4 rfl rfl aM<|Ca rfl (ul u)<|Al 5 hGF zv29<|fun b5=>Sa 5 hGF rfl rfl rfl aM<|aa<|Xp<|La 5 rfl rfl aM<|Ca rfl (psq _)<|Ca rfl (nd _ hq)<|Mv rfl<|Ext rfl rfl<|Ext rfl rfl<|Al 6 hGF zv29<|fun b6=>Sa 6 hGF rfl rfl rfl aM<|Asg rfl<|aa<|ae<|Xp<|Mv rfl<|bz rfl (fun _=>bi _) rfl rfl<|aa<|ba rfl<|Xp<|La 4 rfl rfl aM<|La 5 rfl rfl aM<|?_
 refine Ca rfl (fL (zu2 u) (x1O u))<|Sa 5 hGF rfl rfl rfl aM<|aa<|Xq<|La 5 rfl rfl aM<|Ca rfl (psq _)<|Ca rfl (kG _ r hr hl)<|Mv rfl<|Ext rfl rfl<|Ext rfl rfl<|Sa 6 hGF rfl rfl rfl aM<|aa<|Xd []<|La 5 rfl rfl aM<|La 6 rfl rfl aM<|La 1 rfl rfl aM<|Ca rfl (qf _)<|Ca rfl (sR r u)<|Sa 2 hGF rfl rfl rfl aM<|Sa 3 hGF rfl rfl rfl aM<|aa<|ap<|Rr<|?_
 exact og 2 3 rfl rfl rfl rfl rfl isAgg29 sizeOf29 (by simp) (by simp) (fun w hw=>⟨rfl,ac hw⟩)
theorem pswu{u x r:W2}(h:SwR u x r):Pure Tryz.prog Gt 101 [EV2 u] (.tuple #[EV2 x,EV2 (sgS r u)]):=by
 obtain ⟨hr,hl,rfl|⟨hq,rfl⟩⟩:=h
 ·exact Hi u r hr hl
 ·exact FQ u r hq hr hl
end
section
open Go.RowKit
attribute [local simp] a8 bG aE az a6 aY aQ aK a9 PLl d8 ec N1l d6 d9 dR bC bL bN bO ce dW
theorem ra  :Pure Tryz.prog Gt 116 [] (EV2 OA):=pE TO72 func116 [] (.inl (.inl [OA.1,OA.2])) (let t0:=sm2 (0#64) (240#64);(.inl (.inl [t0.1,t0.2]),[])) [] (by kernel_rfl) aD rfl
end
section
open Go.RowKit
attribute [local simp] a8 bG aE az a6 aY aQ aK a9 PLl d8 ec N1l d6 d9 dR bC bL bN bO ce dW cF
def cXN:Nat→W2
 |0=>(zp 0x5c759507e8e333ebb5b7a9a47d7ed8532c52d39fd3a042a88b58423c50ae15d5c2638e343d9c71c6238aaaaaaaa97d6,zp 0x5c759507e8e333ebb5b7a9a47d7ed8532c52d39fd3a042a88b58423c50ae15d5c2638e343d9c71c6238aaaaaaaa97d6)
 |1=>(0,zp 0x11560bf17baa99bc32126fced787c88f984f87adf7ae0c7f9a208c6b4f20a4181472aaa9cb8d555526a9ffffffffc71a)
 |2=>(zp 0x11560bf17baa99bc32126fced787c88f984f87adf7ae0c7f9a208c6b4f20a4181472aaa9cb8d555526a9ffffffffc71e,zp 0x8ab05f8bdd54cde190937e76bc3e447cc27c3d6fbd7063fcd104635a790520c0a395554e5c6aaaa9354ffffffffe38d)
 |_=>(zp 0x171d6541fa38ccfaed6dea691f5fb614cb14b4e7f4e810aa22d6108f142b85757098e38d0f671c7188e2aaaaaaaa5ed1,0)
def cYN:Nat→W2
 |0=>(zp 0x1530477c7ab4113b59a4c18b076d11930f7da5d4a07f649bf54439d87d27e500fc8c25ebf8c92f6812cfc71c71c6d706,zp 0x1530477c7ab4113b59a4c18b076d11930f7da5d4a07f649bf54439d87d27e500fc8c25ebf8c92f6812cfc71c71c6d706)
 |1=>(0,zp 0x5c759507e8e333ebb5b7a9a47d7ed8532c52d39fd3a042a88b58423c50ae15d5c2638e343d9c71c6238aaaaaaaa97be)
 |2=>(zp 0x11560bf17baa99bc32126fced787c88f984f87adf7ae0c7f9a208c6b4f20a4181472aaa9cb8d555526a9ffffffffc71c,zp 0x8ab05f8bdd54cde190937e76bc3e447cc27c3d6fbd7063fcd104635a790520c0a395554e5c6aaaa9354ffffffffe38f)
 |_=>(zp 0x124c9ad43b6cf79bfbf7043de3811ad0761b0f37a1e26286b0e977c69aa274524e79097a56dc4bd9e1b371c71c718b10,0)
def RPr(f:Nat→W2)(i:Nat):List (BitVec 64):=fe (f i).1++fe (f i).2
theorem ee(f:Nat→W2)(i:Nat):(RPr f i).length=12:=by simp[RPr]
attribute [local simp] ee
end
section
open Go.RowKit
attribute [local simp] a8 bG aE az a6 aY aQ aK a9 PLl d8 ec N1l d6 d9 dR bC bL bN bO ce dW cF ee
end
end Go.Proofs.YtodgbdcjjhmnkaaGreatDoor
