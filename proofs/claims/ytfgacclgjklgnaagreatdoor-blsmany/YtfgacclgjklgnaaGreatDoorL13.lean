/- L13 -/
import Derived.Test.YtfgacclgjklgnaaGreatDoorL5
import Derived.Test.YtfgacclgjklgnaaGreatDoorL12
import Derived.Test.YtfgacclgjklgnaaGreatDoorX3
import Derived.Test.YtfgacclgjklgnaaGreatDoorX2
import Derived.Test.YtfgacclgjklgnaaGreatDoorXW
import Derived.Test.YtfgacclgjklgnaaGreatDoorL1
set_option maxRecDepth 100000
set_option maxHeartbeats 1000000
namespace Go.Proofs.YtfgacclgjklgnaaGreatDoor
open Go.Proofs.Tryz
section
open J2
open Go.RowKit
attribute [local simp] aV ba aT aO aD bd aK aJ aA PLl cv cw N1l cu cr cq a7 bc aP aZ a9 bi
theorem ent288:ai prog 288:=fun _ _=>kr
theorem ent287:ai prog 287:=fun _ _=>kr
theorem ent268:ai prog 268:=fun _ _=>kr
theorem ent270:ai prog 270:=fun _ _=>kr
theorem ent265:ai prog 265:=fun _ _=>kr
theorem ent266:ai prog 266:=fun _ _=>kr
theorem ent285:ai prog 285:=fun _ _=>kr
theorem ent264:ai prog 264:=fun _ _=>kr
theorem pA  :PUR 288 [] (EV2 OA):=pE TO68 func288 [] (.inl (.inl [OA.1,OA.2])) (let t0:=zp (240#64).toNat;(.inl (.inl [0,t0]),[])) [] kr aI rfl
def TO69:Tb prog Gt:=TO68.add (xj (g:=OA) ent288 pA)
theorem pB  :PUR 287 [] (EV2 OB):=pE TO69 func287 [] (.inl (.inl [OB.1,OB.2])) (let t0:=zp (1012#64).toNat;let t1:=zp (1012#64).toNat;(.inl (.inl [t0,t1]),[])) [] kr aI rfl
def TO70:Tb prog Gt:=TO69.add (xj (g:=OB) ent287 pB)
theorem pZ  :PUR 268 [] (EV2 OZ):=pE TO70 func268 [] (.inl (.inl [OZ.1,OZ.2])) (let t0:=zp (2#64).toNat;let t1:=ng2 (t0,1);(.inl (.inl [t1.1,t1.2]),[])) [] kr aI rfl
def TO71:Tb prog Gt:=TO70.add (xj (g:=OZ) ent268 pZ)
theorem psq(x:W2):PUR 270 [EV2 x] (EV2 (gO x)):=pE TO71 func270 [.inl [x.1,x.2]] (.inl (.inl [(gO x).1,(gO x).2])) (let t0:=ml2 x x;let t1:=OA;let t2:=ad2 (t0.1,t0.2) (t1.1,t1.2);let t3:=ml2 (t2.1,t2.2) x;let t4:=OB;let t5:=ad2 (t3.1,t3.2) (t4.1,t4.2);(.inl (.inl [t5.1,t5.2]),[])) [] kr aI (el2 (congrArg Prod.fst (JP x)) (congrArg Prod.snd (JP x)))
def Ul:Tb prog Gt:=TO71.add (eN (g:=gO) ent270 psq)
def FXs(s:W2):W2:=if (ad2 (ml2 s s) s)=ze2 then ml2 (ml2 OB (ad2 (ad2 (ml2 s s) s) on2)) (iv2 (ml2 OZ OA))else ml2 (ml2 OB (ad2 (ad2 (ml2 s s) s) on2)) (iv2 (ml2 (ng2 (ad2 (ml2 s s) s)) OA))
theorem PT(u:W2):FXs (zu2 u)=x1O u:=by
 by_cases h:tu2 u=ze2
 ·exact (if_pos h).trans (HP h)
 ·exact (if_neg h).trans (Je h)
theorem LM(s:W2):PUR 269 [EV2 s] (EV2 (FXs s)):=by
 by_cases h:(ad2 (ml2 s s) s)=ze2
 ·exact pE Ul func269 [.inl [s.1,s.2]] (.inl (.inl [(FXs s).1,(FXs s).2])) (let t0:=ml2 s s;let t1:=ad2 (t0.1,t0.2) s;let t3:=OZ;let t4:=OB;let t5:=on2;let t6:=ad2 (t1.1,t1.2) (t5.1,t5.2);let t7:=ml2 (t4.1,t4.2) (t6.1,t6.2);let t8:=OA;let t9:=ml2 (t3.1,t3.2) (t8.1,t8.2);let t10:=iv2 (t9.1,t9.2);let t11:=ml2 (t7.1,t7.2) (t10.1,t10.2);(.inl (.inl [t11.1,t11.2]),[(decide ((t1.1,t1.2)=ze2),true)])) [some true] kr (av (decide_eq_true h) aI) (by rw[show FXs s=_ from if_pos h]<;>exact rfl)
 ·exact pE Ul func269 [.inl [s.1,s.2]] (.inl (.inl [(FXs s).1,(FXs s).2])) (let t0:=ml2 s s;let t1:=ad2 (t0.1,t0.2) s;let t2:=ng2 (t1.1,t1.2);let t3:=OB;let t4:=on2;let t5:=ad2 (t1.1,t1.2) (t4.1,t4.2);let t6:=ml2 (t3.1,t3.2) (t5.1,t5.2);let t7:=OA;let t8:=ml2 (t2.1,t2.2) (t7.1,t7.2);let t9:=iv2 (t8.1,t8.2);let t10:=ml2 (t6.1,t6.2) (t9.1,t9.2);(.inl (.inl [t10.1,t10.2]),[(decide ((t1.1,t1.2)=ze2),false)])) [some false] kr (av (decide_eq_false h) aI) (by rw[show FXs s=_ from if_neg h]<;>exact rfl)
theorem sg_t{r u:W2}(h:SG2 r=SG2 u):(SG2 r !=SG2 u)=false:=by rw[h];exact bne_self_eq_false _
theorem sg_f{r u:W2}(h: ¬SG2 r=SG2 u):(SG2 r !=SG2 u)=true:=bne_iff_ne.2 h
theorem AJ(r u:W2)(h:SG2 r=SG2 u):PUR 271 [EV2 r,I (SG2 u)] (EV2 r):=by
 intro w hw
 refine Hf func271 rfl hw<|fun hGF=>Xp<|Bx 2 hGF rfl<|fun b2=>Al 4 hGF zv92<|fun b4=>aa<|ah<|Xp<|La 2 rfl rfl aF<|Ca rfl (uZ _)<|Mv rfl<|Bnb false rfl rfl (fun _=>a6 _ _ _) (sg_t h)<|aa<|au rfl<|ap<|Xp<|La 2 rfl rfl aF<|Sa 4 hGF rfl rfl rfl aF<|aa<|am<|Rr<|?_
 exact az 4 rfl rfl rfl isAgg92 sizeOf92 sm (fun w hw=>⟨rfl,ae hw⟩)
theorem z7(r u:W2)(h: ¬SG2 r=SG2 u):PUR 271 [EV2 r,I (SG2 u)] (EV2 (ng2 r)):=by
 intro w hw
 refine Hf func271 rfl hw<|fun hGF=>Xp<|Bx 2 hGF rfl<|fun b2=>Al 4 hGF zv92<|fun b4=>aa<|ah<|Xp<|La 2 rfl rfl aF<|Ca rfl (uZ _)<|Mv rfl<|Bnb true rfl rfl (fun _=>a6 _ _ _) (sg_f h)<|aa<|aQ rfl<|Xp<|La 2 rfl rfl aF<|Ca rfl (Gh _)<|Sa 4 hGF rfl rfl rfl aF<|aa<|am<|Rr<|?_
 exact az 4 rfl rfl rfl isAgg92 sizeOf92 sm (fun w hw=>⟨rfl,ae hw⟩)
theorem xK(r u:W2):PUR 271 [EV2 r,I (SG2 u)] (EV2 (sgS r u)):=by
 by_cases h:SG2 r=SG2 u
 ·rw[show sgS r u=r from if_pos h];exact AJ r u h
 ·rw[show sgS r u=ng2 r from if_neg h];exact z7 r u h
theorem Gr(u:W2):PUR 150 [EV2 (ml2 u u),EV2 OZ] (EV2 (zu2 u)):=by
 have h:=db (ml2 u u) OZ
 rw[UH]at h
 exact h
theorem zE(u:W2):PUR 269 [EV2 (zu2 u)] (EV2 (x1O u)):=by
 have h:=LM (zu2 u)
 rw[PT]at h
 exact h
theorem MB(u r:W2)(hr:ml2 r r=gO (x1O u))(hl:LG2 r=false):PUR 231 [EV2 u] (.tuple #[EV2 (x1O u),EV2 (sgS r u)]):=by
 intro w hw
 refine Hf func231 rfl hw<|fun hGF=>Xp<|Bx 1 hGF rfl<|fun b1=>Al 2 hGF zv92<|fun b2=>Al 3 hGF zv92<|fun b3=>aa<|Xp<|La 1 rfl rfl aF<|Ca rfl (gR _)<|Ca rfl (pZ)<|Ca rfl (Gr u)<|Al 4 hGF zv92<|fun b4=>Sa 4 hGF rfl rfl rfl aF<|aa<|Xp<|La 4 rfl rfl aF<|Ca rfl (zE u)<|Al 5 hGF zv92<|fun b5=>Sa 5 hGF rfl rfl rfl aF<|aa<|Xp<|La 5 rfl rfl aF<|Ca rfl (psq _)<|Ca rfl (nQ _ r hr hl)<|Mv rfl<|Ext rfl rfl<|Ext rfl rfl<|Al 6 hGF zv92<|fun b6=>Sa 6 hGF rfl rfl rfl aF<|Asg rfl<|aa<|ah<|Xp<|Mv rfl<|a5 rfl (fun _=>aL _) rfl rfl<|aa<|au rfl<|ap<|Xd []<|La 5 rfl rfl aF<|?_
 refine La 6 rfl rfl aF<|La 1 rfl rfl aF<|Ca rfl (uZ _)<|Ca rfl (xK r u)<|Sa 2 hGF rfl rfl rfl aF<|Sa 3 hGF rfl rfl rfl aF<|aa<|am<|Rr<|?_
 exact rF 2 3 rfl rfl rfl rfl rfl isAgg92 sizeOf92 sm sm (fun w hw=>⟨rfl,ae hw⟩)
theorem OS(u r:W2)(hq: ¬IsQ (nm2 (gO (x1O u))))(hr:ml2 r r=gO (ml2 (zu2 u) (x1O u)))(hl:LG2 r=false):PUR 231 [EV2 u] (.tuple #[EV2 (ml2 (zu2 u) (x1O u)),EV2 (sgS r u)]):=by
 intro w hw
 refine Hf func231 rfl hw<|fun hGF=>Xp<|Bx 1 hGF rfl<|fun b1=>Al 2 hGF zv92<|fun b2=>Al 3 hGF zv92<|fun b3=>aa<|Xp<|La 1 rfl rfl aF<|Ca rfl (gR _)<|Ca rfl (pZ)<|Ca rfl (Gr u)<|Al 4 hGF zv92<|fun b4=>Sa 4 hGF rfl rfl rfl aF<|aa<|Xp<|La 4 rfl rfl aF<|Ca rfl (zE u)<|Al 5 hGF zv92<|fun b5=>Sa 5 hGF rfl rfl rfl aF<|aa<|Xp<|La 5 rfl rfl aF<|Ca rfl (psq _)<|Ca rfl (sH _ hq)<|Mv rfl<|Ext rfl rfl<|Ext rfl rfl<|Al 6 hGF zv92<|fun b6=>Sa 6 hGF rfl rfl rfl aF<|Asg rfl<|aa<|ah<|Xp<|Mv rfl<|a5 rfl (fun _=>aL _) rfl rfl<|aa<|aQ rfl<|Xp<|La 4 rfl rfl aF<|La 5 rfl rfl aF<|?_
 refine Ca rfl (db (zu2 u) (x1O u))<|Sa 5 hGF rfl rfl rfl aF<|aa<|Xq<|La 5 rfl rfl aF<|Ca rfl (psq _)<|Ca rfl (nQ _ r hr hl)<|Mv rfl<|Ext rfl rfl<|Ext rfl rfl<|Sa 6 hGF rfl rfl rfl aF<|aa<|Xd []<|La 5 rfl rfl aF<|La 6 rfl rfl aF<|La 1 rfl rfl aF<|Ca rfl (uZ _)<|Ca rfl (xK r u)<|Sa 2 hGF rfl rfl rfl aF<|Sa 3 hGF rfl rfl rfl aF<|aa<|am<|Rr<|?_
 exact rF 2 3 rfl rfl rfl rfl rfl isAgg92 sizeOf92 sm sm (fun w hw=>⟨rfl,ae hw⟩)
theorem pswu{u x r:W2}(h:SwR u x r):PUR 231 [EV2 u] (.tuple #[EV2 x,EV2 (sgS r u)]):=by
 obtain ⟨hr,hl,rfl|⟨hq,rfl⟩⟩:=h
 ·exact MB u r hr hl
 ·exact OS u r hq hr hl
end
section
open J2
open Go.RowKit
attribute [local simp] aV ba aT aO aD bd aK aJ aA PLl cv cw N1l cu cr cq a7 bc aP aZ a9 bi
end
section
open J2
open Go.RowKit
attribute [local simp] aV ba aT aO aD bd aK aJ aA PLl cv cw N1l cu cr cq a7 bc aP aZ a9 bi cV
def cXN:Nat→W2
 |0=>(zp 0x5c759507e8e333ebb5b7a9a47d7ed8532c52d39fd3a042a88b58423c50ae15d5c2638e343d9c71c6238aaaaaaaa97d6,zp 0x5c759507e8e333ebb5b7a9a47d7ed8532c52d39fd3a042a88b58423c50ae15d5c2638e343d9c71c6238aaaaaaaa97d6)
 |1=>(0,zp 0x11560bf17baa99bc32126fced787c88f984f87adf7ae0c7f9a208c6b4f20a4181472aaa9cb8d555526a9ffffffffc71a)
 |2=>(zp 0x11560bf17baa99bc32126fced787c88f984f87adf7ae0c7f9a208c6b4f20a4181472aaa9cb8d555526a9ffffffffc71e,zp 0x8ab05f8bdd54cde190937e76bc3e447cc27c3d6fbd7063fcd104635a790520c0a395554e5c6aaaa9354ffffffffe38d)
 |_=>(zp 0x171d6541fa38ccfaed6dea691f5fb614cb14b4e7f4e810aa22d6108f142b85757098e38d0f671c7188e2aaaaaaaa5ed1,0)
def cYN:Nat→W2
 |0=>(zp 0x1530477c7ab4113b59a4c18b076d11930f7da5d4a07f649bf54439d87d27e500fc8c25ebf8c92f6812cfc71c71c6d706,zp 0x1530477c7ab4113b59a4c18b076d11930f7da5d4a07f649bf54439d87d27e500fc8c25ebf8c92f6812cfc71c71c6d706)
 |1=>(0,zp 0x5c759507e8e333ebb5b7a9a47d7ed8532c52d39fd3a042a88b58423c50ae15d5c2638e343d9c71c6238aaaaaaaa97be)
 |2=>(zp 0x11560bf17baa99bc32126fced787c88f984f87adf7ae0c7f9a208c6b4f20a4181472aaa9cb8d555526a9ffffffffc71c,zp 0x8ab05f8bdd54cde190937e76bc3e447cc27c3d6fbd7063fcd104635a790520c0a395554e5c6aaaa9354ffffffffe38f)
 |_=>(zp 0x124c9ad43b6cf79bfbf7043de3811ad0761b0f37a1e26286b0e977c69aa274524e79097a56dc4bd9e1b371c71c718b10,0)
def RPr(f:Nat→W2)(i:Nat):L6:=fe (f i).1++fe (f i).2
theorem gt(f:Nat→W2)(i:Nat):(RPr f i).length=12:=by simp[RPr]
attribute [local simp] gt
end
section
open J2
open Go.RowKit
attribute [local simp] aV ba aT aO aD bd aK aJ aA PLl cv cw N1l cu cr cq a7 bc aP aZ a9 bi cV gt
end
section
open J2
open Go.RowKit
attribute [local simp] aV ba aT aO aD bd aK aJ aA PLl cv cw N1l cu cr cq a7 bc aP aZ a9 bi cV gt
theorem ent298:ai prog 298:=fun _ _=>kr
theorem kJ(s0:ByteArray)(xs:L8)(h0:s0.data.toList=xs.map (fun x=>UInt8.ofBitVec x)):PUR 286 [.string s0] (EV (FV xs)):=by
 intro w hw
 refine Hf func286 rfl hw<|fun hGF=>ac (E:=EE [1000022])<|Al 2 hGF zv52<|fun b2=>aa<|ac (E:=EE [1000022])<|Mv rfl<|?_
 refine wa 7 (xs:=xs) rfl hGF rfl underlying9 underlying22 underlying5 h0 rfl rfl (fun b7 c7 k7 e7 l7 t7=> ?_)
 refine Cc rfl ent90 (fun w' hC hG=>dB _ _ xs w' hG (cy (aM (n:=7) rfl w' hC) t7))<|Mv rfl<|Ext rfl rfl<|Ext rfl rfl<|Al 3 hGF zv52<|fun b3=>Sa 3 hGF rfl rfl rfl bp<|Asg rfl<|aa<|ac (E:=EE [1000022])<|La 3 rfl rfl bp<|Sa 2 hGF rfl rfl rfl bp<|aa<|am<|Rr<|?_
 exact az 2 rfl rfl rfl isAgg52 sizeOf52 sm (fun w hw=>⟨rfl,ae hw⟩)
def R24(f g:Nat→W2)(i:Nat):L6:=(fe (f i).1++fe (f i).2)++(fe (g i).1++fe (g i).2)
theorem iZ(f g:Nat→W2)(i:Nat):(R24 f g i).length=24:=by simp[R24]
attribute [local simp] iZ
def z4:Nat→W2:=fun _=>ze2
abbrev PK(f g:Nat→W2):Value:=aR (RW 24 (R24 f g) 4)
theorem zv321(w:World):(zeroValue 321).run prog w=.ok (aR ((fe 0++fe 0)++(fe 0++fe 0))) w:=by rw[kF];exact (zeroValue321 w).trans rr
theorem jV:Two prog 321 ⟨ "over",92,0,false, "", "pharos/swu",0⟩ ⟨ "under",92,12,false, "", "pharos/swu",96⟩ 12 12 (fe 0++fe 0) (fe 0++fe 0):=⟨underlying321,rfl,rfl,sizeOf92,sizeOf92,zv321,sm,sm⟩
theorem Pz:RW 24 (R24 z4 z4) 4=List.replicate 96 0#64:=by
 have e: ∀i,R24 z4 z4 i=List.replicate 24 0#64:=fun i=>by
  show (fe 0++fe 0)++(fe 0++fe 0)=List.replicate 24 0#64
  rw[kF];rfl
 simp only[RW,e]
 rfl
theorem zv322(w:World):(zeroValue 322).run prog w=.ok (PK z4 z4) w:=by
 show _=Result.ok (Value.agg ((RW 24 (R24 z4 z4) 4).map U64).toArray) w
 rw[Pz];exact (zeroValue322 w).trans rr
theorem zR(f z:Nat→L6): ∀i,i<4→vV f [0,1,2,3] z i=f i:=fun i hi=>nS _ _ _ _ (.inl (by
 match i,hi with
 |0,_=>decide
 |1,_=>decide
 |2,_=>decide
 |3,_=>decide))
theorem oc(f g:Nat→W2)(w:World)(hw:Gt w):CLS 285 [PK f g].toArray w (fun e w'=> ∃b1,e=.returned (.func (.func 298) #[] #[pnt b1])∧Grow w w'∧w.heap.size≤b1∧OwnB w' b1 ((RW 24 (R24 f g) 4).map U64) 322):=by
 refine Hf func285 rfl hw<|fun hGF=>Xp<|Bx 1 hGF rfl<|fun b1=>Asg rfl<|aa<|Xp<|eK rfl rfl rfl rfl<|Asg rfl<|aa<|am<|Rr<|?_
 exact aH rfl rfl (fun w hw=>⟨b1,rfl,ae hw,(hw.own 1 b1 _ _ rfl).2.elim id False.elim,(hw.own 1 b1 _ _ rfl).1⟩)
def PS4(f g:Nat→W2):List (List Value):=(List.range 4).map fun (k:Nat)=>[EV2 (f k),EV2 (g k)]
theorem tk(f g:Nat→W2):(PS4 f g).length=4:=by rw[PS4,List.length_map,List.length_range]
theorem y7(f g:Nat→W2)(k:Nat)(h:k<4):(PS4 f g)[k]? =some [EV2 (f k),EV2 (g k)]:=by
 rw[PS4,List.getElem?_map,List.getElem?_range h];rfl
theorem Ob(f g:Nat→W2)(k:Nat)(v:List Value)(h:(PS4 f g)[k]? =some v):k<4∧v=[EV2 (f k),EV2 (g k)]:=by
 have hk:k<4:=by
  rcases Nat.lt_or_ge k 4 with hk|hk
  ·exact hk
  ·rw[List.getElem?_eq_none (by rw[tk];exact hk)]at h;cases h
 exact ⟨hk,(Option.some.inj ((y7 f g k hk).symm.trans h)).symm⟩
def LP(bb:Nat)(f g:Nat→W2):Cls:=fun w=>w.rangeAt bb 0 ((RW 24 (R24 f g) 4).map U64)
theorem Cn(bb:Nat)(f g:Nat→W2):el prog Gt 298 [pnt bb] (PS4 f g) (LP bb f g):=by
 intro l J Jx hJ hJx hRd hGx hY w hj
 have okJ: ∀k,BOk Gt (Bi w (fun Y=>J Y k)):=fun k=>⟨fun _ _ _ h=>(hRd _ _ _ h.rid).1,hJ k⟩
 have okX: ∀k,BOk Gt (Bi w (fun Y=>Jx Y k)):=fun k=>⟨fun _ _ _ h=>hGx _ _ _ h.rid,hJx k⟩
 have c1: ∀k L w',Hp (Bi w (fun Y=>J Y k)) L w'→LP bb f g w':=fun k L w' h=>(hRd _ _ _ h.rid).2
 refine ca (G:=Gt) func298 rfl rfl (Hp (Bi w (fun Y=>J Y 0)) []) (bK (Bi w _) hj (hJ 0)) (ao (okJ 0))<|Xp<|dk rfl isAgg322 sizeOf322 sm (fun w h=>c1 _ _ w h) rfl rfl<|Mv rfl<|aa<|aj<|fo (ι:={i:Nat // i≤4}) (fun y=>[(0,.func (.yield l) #[] #[]),(1,pnt bb),(5,PK f g),(6,I (y.1:Int))]) (fun y=>Bi w (fun Y=>J Y y.1)) (fun y=>[]) (fun y=>4-y.1) ⟨0,Nat.zero_le _⟩ (fun _=>okJ _) rfl trv trivial<|?_
 rintro ⟨i,hi⟩
 dsimp only
 refine Xp<|Bnr rfl rfl (fun _=>aC _ _ _)<|aa<|ah<|?_
 refine bX rfl (fun hc=> ?_) (fun hc=> ?_)
 ·have hi2:i<4:=by simp at hc;omega
  refine ap<|ah<|aj<|Xp<|I4 (s:=24) (R24 f g) i rfl rfl underlying322 sizeOf321 isAgg321 rfl om (iZ _ _ _) rfl rfl<|Al 4 (okJ _) zv321<|fun b4=>Sa 4 (okJ _) rfl rfl rfl Vl<|aa<|Xp<|Mv rfl<|Fa 0 rfl underlying321 rfl sizeOf92<|aq 4 _ rfl rfl isAgg92 sizeOf92 sm dJ rfl rfl<|Fa 12 rfl underlying321 rfl sizeOf92<|aq 4 _ rfl rfl isAgg92 sizeOf92 sm (ip sm) rfl rfl<|?_
  refine cU (hY.b (k:=i) (y7 f g i om) w) (okJ _) (okX _) rfl rfl rfl rfl rfl ?_ ?_
  ·refine a5 rfl (fun _=>aL _) rfl rfl<|aa<|au rfl<|ap<|Xq<|Bnr rfl rfl (fun _=>ay _ _ _ oi)<|Mv rfl<|aa<|?_
   repeat (refine aY ?_)
   exact aU<|⟨rfl,⟨i+1,om⟩,_,by show 4-(i+1)<4-i;omega,rfl,trv,trivial⟩
  ·refine a5 rfl (fun _=>aL _) rfl rfl<|aa<|aQ rfl<|am<|Rr<|?_
   repeat (first|refine cX ?_|refine bY ?_|refine cS rfl ?_|refine bf ?_|refine be ?_)
   exact cP rfl (fun w hw=>⟨⟨_,rfl⟩,.inr ⟨_,bz (hJx _) hw.rid⟩⟩)
 ·obtain rfl:i=4:=by simp at hc;omega
  refine a8 ?_
  repeat (first|refine cX ?_|refine bY ?_|refine cS rfl ?_|refine bf ?_|refine be ?_)
  refine cn rfl (fun w hw=>⟨⟨_,rfl⟩,.inl ?_⟩)
  have:=bz (hJ _) hw.rid
  rw[tk]
  exact this
end
section
open J2
open Go.RowKit
attribute [local simp] aV ba aT aO aD bd aK aJ aA PLl cv cw N1l cu cr cq a7 bc aP aZ a9 bi cV gt iZ
theorem gJ{w w':World}{b o:Nat}{cs:List Value}(hg:Grow w w')(h:w.rangeAt b o cs):w'.rangeAt b o cs:=fun j v hj=>(hg.cell (block_lt_of_cell (h j v hj))).trans (h j v hj)
theorem oP(x:W2)(f g:Nat→W2)(bb:Nat)(w:World)(hw:Gt w)(hRs: ∀w',Grow w w'→LP bb f g w'):
 CLS 264 [EV2 x,.func (.func 298) #[] #[pnt bb]].toArray w (fun r w'=>r=.returned (.tuple #[EV2 (HK f x 4),EV2 (HK g x 4)])∧Grow w w'):=by
 have hGF:BOk Gt (pl w):=gt_low.plain hw
 refine bV (G:=Gt) func264 rfl rfl (Hp (pl w) []) (bK (pl w) trivial ak) (ao hGF)<|Xp<|Bx 2 hGF rfl<|fun b2=>Al 4 hGF zv92<|fun b4=>Al 5 hGF zv92<|fun b5=>aa<|ah<|Xp<|Mv rfl<|aa<|aj<|?_
 refine dS (fun _=>pl w) (fun _ _=>pl w) (fun _=>hGF) (fun _ _=>hGF) (fun _=>rfl) (fun _ _=>rfl) rfl rfl ent298 (Cn bb f g) (fun x hx=>by obtain ⟨k,hk,rfl⟩:=List.mem_map.1 hx;rfl) rfl (fun k=>[(2,b2,(fe (x).1++fe (x).2).map U64,92),(4,b4,(fe (HK f x k).1++fe (HK f x k).2).map U64,92),(5,b5,(fe (HK g x k).1++fe (HK g x k).2).map U64,92)]) (fun _ _ _=>False) trv (fun k _ w' h=>hRs w' (h.below (fun _ h=>h))) ?_ ?_ (fun _ _ _ _ _ h=>h.elim)
 ·intro k v hx R hR
  obtain ⟨hk,rfl⟩:=Ob f g k v hx
  refine Xp<|cO 6 (hR (pl w) rfl hGF).1 zv92 rfl rfl<|fun b6=>aw 6 (hR (pl w) rfl hGF).1 rfl rfl rfl sizeOf92 sm sm (bj _) rfl<|aa<|Xq<|cO 7 (hR (pl w) rfl hGF).1 zv92 rfl rfl<|fun b7=>aw 7 (hR (pl w) rfl hGF).1 rfl rfl rfl sizeOf92 sm sm (bj _) rfl<|aa<|?_
  refine ⟨rfl,_,rfl, ?_⟩
  refine aj<|Xe []<|La 4 rfl rfl aF<|La 2 rfl rfl aF<|Ca rfl (db _ _)<|La 6 rfl rfl aF<|Ca rfl (eo _ _)<|La 5 rfl rfl aF<|La 2 rfl rfl aF<|Ca rfl (db _ _)<|La 7 rfl rfl aF<|Ca rfl (eo _ _)<|aw 4 (hR (pl w) rfl hGF).2.1 rfl rfl rfl sizeOf92 sm sm (bj _) rfl<|aw 5 (hR (pl w) rfl hGF).2.1 rfl rfl rfl sizeOf92 sm sm (bj _) rfl<|aa<|?_
  repeat (refine aY ?_)
  exact ⟨_,rfl,trv⟩
 ·intro D hD
  rw[tk]
  refine jJ (E:=EE []) (fun X=>X=Hp (B2 (pl w) D) [(5,b5,(fe (HK g x 4).1++fe (HK g x 4).2).map U64,92)]) (mkB [4]) (rkB [22]) [0,1,2,3] dz rfl kr kr kr<|fU rfl rfl<|La 4 rfl rfl aF<|aa<|lO (X:=Hp (B2 (pl w) D) [(5,b5,(fe (HK g x 4).1++fe (HK g x 4).2).map U64,92)]) rfl (da hD.r trv) (fun _=>rfl)<|La 5 rfl rfl aF<|aa<|ki rfl<|Sa 4 hD rfl rfl rfl aF<|aa<|?_
  refine ⟨fun _ X hX _=>by subst hX;exact da hD.r trv, ?_⟩
  refine ki rfl<|Sa 5 hD rfl rfl rfl aF<|aa<|?_
  refine ⟨fun h=>(by cases h), ?_⟩
  refine ib<|am<|Rr<|?_
  exact cQ (.inl rfl) ak (rF 4 5 rfl rfl rfl rfl rfl isAgg92 sizeOf92 sm sm (fun w hw=>⟨rfl,ae hw⟩))
def oX(k:Nat):W2:=cXN (3-k)
def oY(k:Nat):W2:=cYN (3-k)
def uX:Nat→W2
 |0=>ze2
 |1=>on2
 |2=>(zp 12,-zp 12)
 |_=>(0,-zp 72)
def uY:Nat→W2
 |0=>on2
 |1=>(zp 18,-zp 18)
 |2=>(0,-zp 216)
 |_=>(-zp 432,-zp 432)
theorem oX_h(x:W2):HK oX x 4=R2.pev iXN x:=ON oX x
theorem oY_h(x:W2):HK oY x 4=R2.pev iYN x:=ON oY x
theorem uX_h(x:W2):HK uX x 4=R2.pev iXD x:=(HK_z uX x rfl).trans (by rw[show [uX 3,uX 2,uX 1]=iXD by decide+kernel])
theorem uY_h(x:W2):HK uY x 4=R2.pev iYD x:=(ON uY x).trans (by rw[show [uY 3,uY 2,uY 1,uY 0]=iYD by decide+kernel])
def pb0:L8:=[23#8,29#8,101#8,65#8,250#8,56#8,204#8,250#8,237#8,109#8,234#8,105#8,31#8,95#8,182#8,20#8,203#8,20#8,180#8,231#8,244#8,232#8,16#8,170#8,34#8,214#8,16#8,143#8,20#8,43#8,133#8,117#8,112#8,152#8,227#8,141#8,15#8,103#8,28#8,113#8,136#8,226#8,170#8,170#8,170#8,170#8,94#8,209#8]
theorem TX:FV pb0=zp 0x171d6541fa38ccfaed6dea691f5fb614cb14b4e7f4e810aa22d6108f142b85757098e38d0f671c7188e2aaaaaaaa5ed1:=by rw[FV,if_pos ⟨rfl,by decide+kernel⟩];decide+kernel
theorem Vi(s0:ByteArray)(h0:s0.data.toList=pb0.map (fun x=>UInt8.ofBitVec x)){a:Zp}(ha:zp 0x171d6541fa38ccfaed6dea691f5fb614cb14b4e7f4e810aa22d6108f142b85757098e38d0f671c7188e2aaaaaaaa5ed1=a):PUR 286 [.string s0] (EV a):=by
 have h:=kJ s0 pb0 h0
 rw[TX,ha]at h
 exact h
def pb1:L8:=[17#8,86#8,11#8,241#8,123#8,170#8,153#8,188#8,50#8,18#8,111#8,206#8,215#8,135#8,200#8,143#8,152#8,79#8,135#8,173#8,247#8,174#8,12#8,127#8,154#8,32#8,140#8,107#8,79#8,32#8,164#8,24#8,20#8,114#8,170#8,169#8,203#8,141#8,85#8,85#8,38#8,169#8,255#8,255#8,255#8,255#8,199#8,30#8]
theorem TS:FV pb1=zp 0x11560bf17baa99bc32126fced787c88f984f87adf7ae0c7f9a208c6b4f20a4181472aaa9cb8d555526a9ffffffffc71e:=by rw[FV,if_pos ⟨rfl,by decide+kernel⟩];decide+kernel
theorem SM(s0:ByteArray)(h0:s0.data.toList=pb1.map (fun x=>UInt8.ofBitVec x)){a:Zp}(ha:zp 0x11560bf17baa99bc32126fced787c88f984f87adf7ae0c7f9a208c6b4f20a4181472aaa9cb8d555526a9ffffffffc71e=a):PUR 286 [.string s0] (EV a):=by
 have h:=kJ s0 pb1 h0
 rw[TS,ha]at h
 exact h
def pb2:L8:=[8#8,171#8,5#8,248#8,189#8,213#8,76#8,222#8,25#8,9#8,55#8,231#8,107#8,195#8,228#8,71#8,204#8,39#8,195#8,214#8,251#8,215#8,6#8,63#8,205#8,16#8,70#8,53#8,167#8,144#8,82#8,12#8,10#8,57#8,85#8,84#8,229#8,198#8,170#8,170#8,147#8,84#8,255#8,255#8,255#8,255#8,227#8,141#8]
theorem Uu:FV pb2=zp 0x8ab05f8bdd54cde190937e76bc3e447cc27c3d6fbd7063fcd104635a790520c0a395554e5c6aaaa9354ffffffffe38d:=by rw[FV,if_pos ⟨rfl,by decide+kernel⟩];decide+kernel
theorem Sg(s0:ByteArray)(h0:s0.data.toList=pb2.map (fun x=>UInt8.ofBitVec x)){a:Zp}(ha:zp 0x8ab05f8bdd54cde190937e76bc3e447cc27c3d6fbd7063fcd104635a790520c0a395554e5c6aaaa9354ffffffffe38d=a):PUR 286 [.string s0] (EV a):=by
 have h:=kJ s0 pb2 h0
 rw[Uu,ha]at h
 exact h
def pb3:L8:=[17#8,86#8,11#8,241#8,123#8,170#8,153#8,188#8,50#8,18#8,111#8,206#8,215#8,135#8,200#8,143#8,152#8,79#8,135#8,173#8,247#8,174#8,12#8,127#8,154#8,32#8,140#8,107#8,79#8,32#8,164#8,24#8,20#8,114#8,170#8,169#8,203#8,141#8,85#8,85#8,38#8,169#8,255#8,255#8,255#8,255#8,199#8,26#8]
theorem Sz:FV pb3=zp 0x11560bf17baa99bc32126fced787c88f984f87adf7ae0c7f9a208c6b4f20a4181472aaa9cb8d555526a9ffffffffc71a:=by rw[FV,if_pos ⟨rfl,by decide+kernel⟩];decide+kernel
theorem R7(s0:ByteArray)(h0:s0.data.toList=pb3.map (fun x=>UInt8.ofBitVec x)){a:Zp}(ha:zp 0x11560bf17baa99bc32126fced787c88f984f87adf7ae0c7f9a208c6b4f20a4181472aaa9cb8d555526a9ffffffffc71a=a):PUR 286 [.string s0] (EV a):=by
 have h:=kJ s0 pb3 h0
 rw[Sz,ha]at h
 exact h
def pb4:L8:=[5#8,199#8,89#8,80#8,126#8,142#8,51#8,62#8,187#8,91#8,122#8,154#8,71#8,215#8,237#8,133#8,50#8,197#8,45#8,57#8,253#8,58#8,4#8,42#8,136#8,181#8,132#8,35#8,197#8,10#8,225#8,93#8,92#8,38#8,56#8,227#8,67#8,217#8,199#8,28#8,98#8,56#8,170#8,170#8,170#8,170#8,151#8,214#8]
theorem T6:FV pb4=zp 0x5c759507e8e333ebb5b7a9a47d7ed8532c52d39fd3a042a88b58423c50ae15d5c2638e343d9c71c6238aaaaaaaa97d6:=by rw[FV,if_pos ⟨rfl,by decide+kernel⟩];decide+kernel
theorem JJ(s0:ByteArray)(h0:s0.data.toList=pb4.map (fun x=>UInt8.ofBitVec x)){a:Zp}(ha:zp 0x5c759507e8e333ebb5b7a9a47d7ed8532c52d39fd3a042a88b58423c50ae15d5c2638e343d9c71c6238aaaaaaaa97d6=a):PUR 286 [.string s0] (EV a):=by
 have h:=kJ s0 pb4 h0
 rw[T6,ha]at h
 exact h
theorem iJ(w:World)(hw:Gt w):CLS 265 [].toArray w (fun e w'=> ∃b1,e=.returned (.func (.func 298) #[] #[pnt b1])∧Grow w w'∧w.heap.size≤b1∧OwnB w' b1 ((RW 24 (R24 oX uX) 4).map U64) 322):=by
 refine Hf func265 rfl hw<|fun hGF=>ac (E:=EE [285,2000285])<|Asg rfl<|aa<|ac (E:=EE [285,2000285])<|Ca rfl (Vi _ rfl rfl)<|zA eV rfl sm rfl rfl<|G5 eV rfl rfl<|cB jV rfl rfl sm sm rfl rfl<|Ca rfl (SM _ rfl rfl)<|Ca rfl (Sg _ rfl rfl)<|cB eV rfl rfl sm sm rfl rfl<|Ca rfl (qR)<|cB jV rfl rfl sm sm rfl rfl<|Ca rfl (R7 _ rfl rfl)<|lZ eV rfl sm rfl rfl<|Ca rfl (dK _)<|Ca rfl (dK _)<|Ca rfl (dv _)<|cB eV rfl rfl sm sm rfl rfl<|cB jV rfl rfl sm sm rfl rfl<|Ca rfl (JJ _ rfl rfl)<|Ca rfl (JJ _ rfl rfl)<|cB eV rfl rfl sm sm rfl rfl<|Ca rfl (dK _)<|Ca rfl (dv _)<|lZ eV rfl sm rfl rfl<|cB jV rfl rfl sm sm rfl rfl<|qc (s:=24) (R24 oX uX) (R24 oX uX) [0,1,2,3] rfl rfl rfl (fun i _=>iZ _ _ _) underlying322 sizeOf321 zv322 (zR _ _) rfl rfl<|?_
 refine bG rfl rfl ent285 rfl rfl (fun w' hw'=>(oc oX uX w' (hGF.g _ _ _ hw')).mono fun e' w'' h=> ?_)
 obtain ⟨c1,rfl,hg,h1,ho⟩:=h
 refine ⟨_,_,rfl,ao hGF,hw'.news ak hg [(33,c1,(RW 24 (R24 oX uX) 4).map U64,322)] ?_ bI,bF ak rfl, ?_⟩
 ·intro n' b' c' t' hl
  rcases aB hl with ⟨_,e⟩|⟨_,hl⟩
  ·cases e;exact ⟨h1,ho⟩
  ·cases hl
 clear hw' hg h1 ho
 refine Asg rfl<|aa<|am<|Rr<|?_
 exact aH rfl rfl (fun w hw=>⟨c1,rfl,ae hw,(hw.own 33 c1 _ _ rfl).2.elim id False.elim,(hw.own 33 c1 _ _ rfl).1⟩)
def pb5:L8:=[18#8,76#8,154#8,212#8,59#8,108#8,247#8,155#8,251#8,247#8,4#8,61#8,227#8,129#8,26#8,208#8,118#8,27#8,15#8,55#8,161#8,226#8,98#8,134#8,176#8,233#8,119#8,198#8,154#8,162#8,116#8,82#8,78#8,121#8,9#8,122#8,86#8,220#8,75#8,217#8,225#8,179#8,113#8,199#8,28#8,113#8,139#8,16#8]
theorem Tq:FV pb5=zp 0x124c9ad43b6cf79bfbf7043de3811ad0761b0f37a1e26286b0e977c69aa274524e79097a56dc4bd9e1b371c71c718b10:=by rw[FV,if_pos ⟨rfl,by decide+kernel⟩];decide+kernel
theorem Q5(s0:ByteArray)(h0:s0.data.toList=pb5.map (fun x=>UInt8.ofBitVec x)){a:Zp}(ha:zp 0x124c9ad43b6cf79bfbf7043de3811ad0761b0f37a1e26286b0e977c69aa274524e79097a56dc4bd9e1b371c71c718b10=a):PUR 286 [.string s0] (EV a):=by
 have h:=kJ s0 pb5 h0
 rw[Tq,ha]at h
 exact h
def pb6:L8:=[17#8,86#8,11#8,241#8,123#8,170#8,153#8,188#8,50#8,18#8,111#8,206#8,215#8,135#8,200#8,143#8,152#8,79#8,135#8,173#8,247#8,174#8,12#8,127#8,154#8,32#8,140#8,107#8,79#8,32#8,164#8,24#8,20#8,114#8,170#8,169#8,203#8,141#8,85#8,85#8,38#8,169#8,255#8,255#8,255#8,255#8,199#8,28#8]
theorem Vh:FV pb6=zp 0x11560bf17baa99bc32126fced787c88f984f87adf7ae0c7f9a208c6b4f20a4181472aaa9cb8d555526a9ffffffffc71c:=by rw[FV,if_pos ⟨rfl,by decide+kernel⟩];decide+kernel
theorem Vx(s0:ByteArray)(h0:s0.data.toList=pb6.map (fun x=>UInt8.ofBitVec x)){a:Zp}(ha:zp 0x11560bf17baa99bc32126fced787c88f984f87adf7ae0c7f9a208c6b4f20a4181472aaa9cb8d555526a9ffffffffc71c=a):PUR 286 [.string s0] (EV a):=by
 have h:=kJ s0 pb6 h0
 rw[Vh,ha]at h
 exact h
def pb7:L8:=[8#8,171#8,5#8,248#8,189#8,213#8,76#8,222#8,25#8,9#8,55#8,231#8,107#8,195#8,228#8,71#8,204#8,39#8,195#8,214#8,251#8,215#8,6#8,63#8,205#8,16#8,70#8,53#8,167#8,144#8,82#8,12#8,10#8,57#8,85#8,84#8,229#8,198#8,170#8,170#8,147#8,84#8,255#8,255#8,255#8,255#8,227#8,143#8]
theorem Va:FV pb7=zp 0x8ab05f8bdd54cde190937e76bc3e447cc27c3d6fbd7063fcd104635a790520c0a395554e5c6aaaa9354ffffffffe38f:=by rw[FV,if_pos ⟨rfl,by decide+kernel⟩];decide+kernel
theorem Ra(s0:ByteArray)(h0:s0.data.toList=pb7.map (fun x=>UInt8.ofBitVec x)){a:Zp}(ha:zp 0x8ab05f8bdd54cde190937e76bc3e447cc27c3d6fbd7063fcd104635a790520c0a395554e5c6aaaa9354ffffffffe38f=a):PUR 286 [.string s0] (EV a):=by
 have h:=kJ s0 pb7 h0
 rw[Va,ha]at h
 exact h
def pb8:L8:=[5#8,199#8,89#8,80#8,126#8,142#8,51#8,62#8,187#8,91#8,122#8,154#8,71#8,215#8,237#8,133#8,50#8,197#8,45#8,57#8,253#8,58#8,4#8,42#8,136#8,181#8,132#8,35#8,197#8,10#8,225#8,93#8,92#8,38#8,56#8,227#8,67#8,217#8,199#8,28#8,98#8,56#8,170#8,170#8,170#8,170#8,151#8,190#8]
theorem Um:FV pb8=zp 0x5c759507e8e333ebb5b7a9a47d7ed8532c52d39fd3a042a88b58423c50ae15d5c2638e343d9c71c6238aaaaaaaa97be:=by rw[FV,if_pos ⟨rfl,by decide+kernel⟩];decide+kernel
theorem VX(s0:ByteArray)(h0:s0.data.toList=pb8.map (fun x=>UInt8.ofBitVec x)){a:Zp}(ha:zp 0x5c759507e8e333ebb5b7a9a47d7ed8532c52d39fd3a042a88b58423c50ae15d5c2638e343d9c71c6238aaaaaaaa97be=a):PUR 286 [.string s0] (EV a):=by
 have h:=kJ s0 pb8 h0
 rw[Um,ha]at h
 exact h
def pb9:L8:=[21#8,48#8,71#8,124#8,122#8,180#8,17#8,59#8,89#8,164#8,193#8,139#8,7#8,109#8,17#8,147#8,15#8,125#8,165#8,212#8,160#8,127#8,100#8,155#8,245#8,68#8,57#8,216#8,125#8,39#8,229#8,0#8,252#8,140#8,37#8,235#8,248#8,201#8,47#8,104#8,18#8,207#8,199#8,28#8,113#8,198#8,215#8,6#8]
theorem Rk:FV pb9=zp 0x1530477c7ab4113b59a4c18b076d11930f7da5d4a07f649bf54439d87d27e500fc8c25ebf8c92f6812cfc71c71c6d706:=by rw[FV,if_pos ⟨rfl,by decide+kernel⟩];decide+kernel
theorem Ku(s0:ByteArray)(h0:s0.data.toList=pb9.map (fun x=>UInt8.ofBitVec x)){a:Zp}(ha:zp 0x1530477c7ab4113b59a4c18b076d11930f7da5d4a07f649bf54439d87d27e500fc8c25ebf8c92f6812cfc71c71c6d706=a):PUR 286 [.string s0] (EV a):=by
 have h:=kJ s0 pb9 h0
 rw[Rk,ha]at h
 exact h
theorem iP(w:World)(hw:Gt w):CLS 266 [].toArray w (fun e w'=> ∃b1,e=.returned (.func (.func 298) #[] #[pnt b1])∧Grow w w'∧w.heap.size≤b1∧OwnB w' b1 ((RW 24 (R24 oY uY) 4).map U64) 322):=by
 refine Hf func266 rfl hw<|fun hGF=>ac (E:=EE [285,2000285])<|Asg rfl<|aa<|ac (E:=EE [285,2000285])<|Ca rfl (Q5 _ rfl rfl)<|zA eV rfl sm rfl rfl<|Ca rfl (qR)<|cB jV rfl rfl sm sm rfl rfl<|Ca rfl (Vx _ rfl rfl)<|Ca rfl (Ra _ rfl rfl)<|cB eV rfl rfl sm sm rfl rfl<|Ca rfl (dK _)<|Ca rfl (dK _)<|Ca rfl (dv _)<|cB eV rfl rfl sm sm rfl rfl<|cB jV rfl rfl sm sm rfl rfl<|Ca rfl (VX _ rfl rfl)<|lZ eV rfl sm rfl rfl<|Ca rfl (dK _)<|Ca rfl (dv _)<|lZ eV rfl sm rfl rfl<|cB jV rfl rfl sm sm rfl rfl<|Ca rfl (Ku _ rfl rfl)<|Ca rfl (Ku _ rfl rfl)<|cB eV rfl rfl sm sm rfl rfl<|Ca rfl (dK _)<|Ca rfl (dv _)<|Ca rfl (dK _)<|Ca rfl (dv _)<|cB eV rfl rfl sm sm rfl rfl<|cB jV rfl rfl sm sm rfl rfl<|qc (s:=24) (R24 oY uY) (R24 oY uY) [0,1,2,3] rfl rfl rfl (fun i _=>iZ _ _ _) underlying322 sizeOf321 zv322 (zR _ _) rfl rfl<|?_
 refine bG rfl rfl ent285 rfl rfl (fun w' hw'=>(oc oY uY w' (hGF.g _ _ _ hw')).mono fun e' w'' h=> ?_)
 obtain ⟨c1,rfl,hg,h1,ho⟩:=h
 refine ⟨_,_,rfl,ao hGF,hw'.news ak hg [(33,c1,(RW 24 (R24 oY uY) 4).map U64,322)] ?_ bI,bF ak rfl, ?_⟩
 ·intro n' b' c' t' hl
  rcases aB hl with ⟨_,e⟩|⟨_,hl⟩
  ·cases e;exact ⟨h1,ho⟩
  ·cases hl
 clear hw' hg h1 ho
 refine Asg rfl<|aa<|am<|Rr<|?_
 exact aH rfl rfl (fun w hw=>⟨c1,rfl,ae hw,(hw.own 33 c1 _ _ rfl).2.elim id False.elim,(hw.own 33 c1 _ _ rfl).1⟩)
theorem o0(x:W2)(bb:Nat)(w:World)(hw:Gt w)(h:w.rangeAt bb 0 ((RW 24 (R24 oX uX) 4).map U64)):CLS 264 [EV2 x,.func (.func 298) #[] #[pnt bb]].toArray w (fun r w'=>r=.returned (.tuple #[EV2 (R2.pev iXN x),EV2 (R2.pev iXD x)])∧Grow w w'):=by
 have e:=oP x oX uX bb w hw (fun w' hg=>gJ hg h)
 rw[oX_h,uX_h]at e
 exact e
theorem pV(x:W2)(bb:Nat)(w:World)(hw:Gt w)(h:w.rangeAt bb 0 ((RW 24 (R24 oY uY) 4).map U64)):CLS 264 [EV2 x,.func (.func 298) #[] #[pnt bb]].toArray w (fun r w'=>r=.returned (.tuple #[EV2 (R2.pev iYN x),EV2 (R2.pev iYD x)])∧Grow w w'):=by
 have e:=oP x oY uY bb w hw (fun w' hg=>gJ hg h)
 rw[oY_h,uY_h]at e
 exact e
theorem Ub{x y:W2}(h:ml2 y y=gO x):PUR 150 [EV2 (ml2 (R2.pev iXN x) (R2.pev iYD x)),EV2 (iv2 (ml2 (R2.pev iXD x) (R2.pev iYD x)))] (EV2 (XIs x)):=by
 have e:=db (ml2 (R2.pev iXN x) (R2.pev iYD x)) (iv2 (ml2 (R2.pev iXD x) (R2.pev iYD x)))
 rw[TP (xV h) (yU h)]at e
 exact e
theorem Sr{x y:W2}(h:ml2 y y=gO x):PUR 150 [EV2 (ml2 (ml2 y (R2.pev iYN x)) (R2.pev iXD x)),EV2 (iv2 (ml2 (R2.pev iXD x) (R2.pev iYD x)))] (EV2 (YIs x y)):=by
 have e:=db (ml2 (ml2 y (R2.pev iYN x)) (R2.pev iXD x)) (iv2 (ml2 (R2.pev iXD x) (R2.pev iYD x)))
 rw[VD (xV h) (yU h)]at e
 exact e
theorem Jb{x y:W2}(h:ml2 y y=gO x): ¬ml2 (R2.pev iXD x) (R2.pev iYD x)=ze2:=fun e=>(fg e).elim (xV h) (yU h)
def Tv(x y:W2)(h:ml2 y y=gO x):GP:=Jf (XIs x) (YIs x y) (lF.1 (xf h))
theorem piso(x y:W2)(h:ml2 y y=gO x):PUR 230 [EV2 x,EV2 y] (PtV (Tv x y h)):=by
 intro w hw
 refine Hf func230 rfl hw<|fun hGF=>Xp<|Bx 2 hGF rfl<|fun b2=>Bx 3 hGF rfl<|fun b3=>Al 4 hGF zv94<|fun b4=>aa<|?_
 refine DB (ι:=Nat×Nat) (fun z=>[(2,pnt b2),(3,pnt b3),(4,pnt b4),(5,pnt z.1),(6,pnt z.2)]) (fun z=>[(2,b2,(fe (x).1++fe (x).2).map U64,92),(3,b3,(fe (y).1++fe (y).2).map U64,92),(4,b4,(GL ch).map U64,94),(5,z.1,(fe (R2.pev iXN x).1++fe (R2.pev iXN x).2).map U64,92),(6,z.2,(fe (R2.pev iXD x).1++fe (R2.pev iXD x).2).map U64,92)]) hGF ?_ ?_
 ·refine vD (EE [265,2000265,2999999]) dz kr kr<|aX (m:=9) [0] kr<|La 2 rfl rfl aF<|aa<|fG (m:=8) [1,6,7] kr kr dc<|?_
  intro i hi
  simp only[List.mem_cons,List.not_mem_nil,or_false]at hi
  rcases hi with rfl|rfl|rfl
  ·refine bG rfl rfl ent265 rfl rfl (fun w' hw'=>(iJ w' (hGF.g _ _ _ hw')).mono fun e' w'' h=> ?_)
   obtain ⟨c1,rfl,hg,h1,ho⟩:=h
   refine ⟨_,_,rfl,ao hGF,hw'.news ak hg [(33,c1,(RW 24 (R24 oX uX) 4).map U64,322)] ?_ bI,bF ak rfl, ?_⟩
   ·intro n' b' c' t' hl
    rcases aB hl with ⟨_,e⟩|⟨_,hl⟩
    ·cases e;exact ⟨h1,ho⟩
    ·cases hl
   clear hw' hg h1 ho
   refine aa<|aX (m:=4) [2,3,4,5] kr<|Cc rfl ent264 (fun w' hC hG=>o0 x _ w' hG (aM (n:=33) rfl w' hC))<|Mv rfl<|Ext rfl rfl<|Ext rfl rfl<|aa<|fG (m:=3) [6,7] kr kr dc<|?_
   intro i hi
   simp only[List.mem_cons,List.not_mem_nil,or_false]at hi
   rcases hi with rfl|rfl
   ·exact bZ 5 hGF zv92 rfl rfl rfl<|fun b5=>aa<|aX (m:=2) [7] kr<|bZ 6 hGF zv92 rfl rfl rfl<|fun b6=>aa<|aX (m:=1) [8] kr<|Sa 5 hGF rfl rfl rfl aF<|aa<|aX (m:=0) [9] kr<|Sa 6 hGF rfl rfl rfl aF<|aa<|dH kr<|aU<|⟨rfl,(b5,b6),_,rfl,trv,trv⟩
   ·exact bZ 6 hGF zv92 rfl rfl rfl<|fun b6=>aa<|aX (m:=2) [6] kr<|bZ 5 hGF zv92 rfl rfl rfl<|fun b5=>aa<|aX (m:=1) [8] kr<|Sa 5 hGF rfl rfl rfl aF<|aa<|aX (m:=0) [9] kr<|Sa 6 hGF rfl rfl rfl aF<|aa<|dH kr<|aU<|⟨rfl,(b5,b6),_,rfl,trv,trv⟩
  ·refine bZ 5 hGF zv92 rfl rfl rfl<|fun b5=>aa<|fG (m:=7) [1,7] kr kr dc<|?_
   intro i hi
   simp only[List.mem_cons,List.not_mem_nil,or_false]at hi
   rcases hi with rfl|rfl
   ·refine bG rfl rfl ent265 rfl rfl (fun w' hw'=>(iJ w' (hGF.g _ _ _ hw')).mono fun e' w'' h=> ?_)
    obtain ⟨c1,rfl,hg,h1,ho⟩:=h
    refine ⟨_,_,rfl,ao hGF,hw'.news ak hg [(33,c1,(RW 24 (R24 oX uX) 4).map U64,322)] ?_ bI,bF ak rfl, ?_⟩
    ·intro n' b' c' t' hl
     rcases aB hl with ⟨_,e⟩|⟨_,hl⟩
     ·cases e;exact ⟨h1,ho⟩
     ·cases hl
    clear hw' hg h1 ho
    exact aa<|aX (m:=3) [2,3,4,5] kr<|Cc rfl ent264 (fun w' hC hG=>o0 x _ w' hG (aM (n:=33) rfl w' hC))<|Mv rfl<|Ext rfl rfl<|Ext rfl rfl<|aa<|aX (m:=2) [7] kr<|bZ 6 hGF zv92 rfl rfl rfl<|fun b6=>aa<|aX (m:=1) [8] kr<|Sa 5 hGF rfl rfl rfl aF<|aa<|aX (m:=0) [9] kr<|Sa 6 hGF rfl rfl rfl aF<|aa<|dH kr<|aU<|⟨rfl,(b5,b6),_,rfl,trv,trv⟩
   ·refine bZ 6 hGF zv92 rfl rfl rfl<|fun b6=>aa<|aX (m:=6) [1] kr<|?_
    refine bG rfl rfl ent265 rfl rfl (fun w' hw'=>(iJ w' (hGF.g _ _ _ hw')).mono fun e' w'' h=> ?_)
    obtain ⟨c1,rfl,hg,h1,ho⟩:=h
    refine ⟨_,_,rfl,ao hGF,hw'.news ak hg [(33,c1,(RW 24 (R24 oX uX) 4).map U64,322)] ?_ bI,bF ak rfl, ?_⟩
    ·intro n' b' c' t' hl
     rcases aB hl with ⟨_,e⟩|⟨_,hl⟩
     ·cases e;exact ⟨h1,ho⟩
     ·cases hl
    clear hw' hg h1 ho
    exact aa<|aX (m:=2) [2,3,4,5] kr<|Cc rfl ent264 (fun w' hC hG=>o0 x _ w' hG (aM (n:=33) rfl w' hC))<|Mv rfl<|Ext rfl rfl<|Ext rfl rfl<|aa<|aX (m:=1) [8] kr<|Sa 5 hGF rfl rfl rfl aF<|aa<|aX (m:=0) [9] kr<|Sa 6 hGF rfl rfl rfl aF<|aa<|dH kr<|aU<|⟨rfl,(b5,b6),_,rfl,trv,trv⟩
  ·refine bZ 6 hGF zv92 rfl rfl rfl<|fun b6=>aa<|fG (m:=7) [1,6] kr kr dc<|?_
   intro i hi
   simp only[List.mem_cons,List.not_mem_nil,or_false]at hi
   rcases hi with rfl|rfl
   ·refine bG rfl rfl ent265 rfl rfl (fun w' hw'=>(iJ w' (hGF.g _ _ _ hw')).mono fun e' w'' h=> ?_)
    obtain ⟨c1,rfl,hg,h1,ho⟩:=h
    refine ⟨_,_,rfl,ao hGF,hw'.news ak hg [(33,c1,(RW 24 (R24 oX uX) 4).map U64,322)] ?_ bI,bF ak rfl, ?_⟩
    ·intro n' b' c' t' hl
     rcases aB hl with ⟨_,e⟩|⟨_,hl⟩
     ·cases e;exact ⟨h1,ho⟩
     ·cases hl
    clear hw' hg h1 ho
    exact aa<|aX (m:=3) [2,3,4,5] kr<|Cc rfl ent264 (fun w' hC hG=>o0 x _ w' hG (aM (n:=33) rfl w' hC))<|Mv rfl<|Ext rfl rfl<|Ext rfl rfl<|aa<|aX (m:=2) [6] kr<|bZ 5 hGF zv92 rfl rfl rfl<|fun b5=>aa<|aX (m:=1) [8] kr<|Sa 5 hGF rfl rfl rfl aF<|aa<|aX (m:=0) [9] kr<|Sa 6 hGF rfl rfl rfl aF<|aa<|dH kr<|aU<|⟨rfl,(b5,b6),_,rfl,trv,trv⟩
   ·refine bZ 5 hGF zv92 rfl rfl rfl<|fun b5=>aa<|aX (m:=6) [1] kr<|?_
    refine bG rfl rfl ent265 rfl rfl (fun w' hw'=>(iJ w' (hGF.g _ _ _ hw')).mono fun e' w'' h=> ?_)
    obtain ⟨c1,rfl,hg,h1,ho⟩:=h
    refine ⟨_,_,rfl,ao hGF,hw'.news ak hg [(33,c1,(RW 24 (R24 oX uX) 4).map U64,322)] ?_ bI,bF ak rfl, ?_⟩
    ·intro n' b' c' t' hl
     rcases aB hl with ⟨_,e⟩|⟨_,hl⟩
     ·cases e;exact ⟨h1,ho⟩
     ·cases hl
    clear hw' hg h1 ho
    exact aa<|aX (m:=2) [2,3,4,5] kr<|Cc rfl ent264 (fun w' hC hG=>o0 x _ w' hG (aM (n:=33) rfl w' hC))<|Mv rfl<|Ext rfl rfl<|Ext rfl rfl<|aa<|aX (m:=1) [8] kr<|Sa 5 hGF rfl rfl rfl aF<|aa<|aX (m:=0) [9] kr<|Sa 6 hGF rfl rfl rfl aF<|aa<|dH kr<|aU<|⟨rfl,(b5,b6),_,rfl,trv,trv⟩
 ·rintro ⟨b5,b6⟩
  dsimp only
  refine DB (ι:=Nat×Nat) (fun z=>[(2,pnt b2),(3,pnt b3),(4,pnt b4),(5,pnt b5),(6,pnt b6),(7,pnt z.1),(8,pnt z.2)]) (fun z=>[(2,b2,(fe (x).1++fe (x).2).map U64,92),(3,b3,(fe (y).1++fe (y).2).map U64,92),(4,b4,(GL ch).map U64,94),(5,b5,(fe (R2.pev iXN x).1++fe (R2.pev iXN x).2).map U64,92),(6,b6,(fe (R2.pev iXD x).1++fe (R2.pev iXD x).2).map U64,92),(7,z.1,(fe (R2.pev iYN x).1++fe (R2.pev iYN x).2).map U64,92),(8,z.2,(fe (R2.pev iYD x).1++fe (R2.pev iYD x).2).map U64,92)]) hGF ?_ ?_
  ·refine vD (EE [266,2000266,2999999]) dz kr kr<|aX (m:=9) [0] kr<|La 2 rfl rfl aF<|aa<|fG (m:=8) [1,6,7] kr kr dc<|?_
   intro i hi
   simp only[List.mem_cons,List.not_mem_nil,or_false]at hi
   rcases hi with rfl|rfl|rfl
   ·refine bG rfl rfl ent266 rfl rfl (fun w' hw'=>(iP w' (hGF.g _ _ _ hw')).mono fun e' w'' h=> ?_)
    obtain ⟨c1,rfl,hg,h1,ho⟩:=h
    refine ⟨_,_,rfl,ao hGF,hw'.news ak hg [(33,c1,(RW 24 (R24 oY uY) 4).map U64,322)] ?_ bI,bF ak rfl, ?_⟩
    ·intro n' b' c' t' hl
     rcases aB hl with ⟨_,e⟩|⟨_,hl⟩
     ·cases e;exact ⟨h1,ho⟩
     ·cases hl
    clear hw' hg h1 ho
    refine aa<|aX (m:=4) [2,3,4,5] kr<|Cc rfl ent264 (fun w' hC hG=>pV x _ w' hG (aM (n:=33) rfl w' hC))<|Mv rfl<|Ext rfl rfl<|Ext rfl rfl<|aa<|fG (m:=3) [6,7] kr kr dc<|?_
    intro i hi
    simp only[List.mem_cons,List.not_mem_nil,or_false]at hi
    rcases hi with rfl|rfl
    ·exact bZ 7 hGF zv92 rfl rfl rfl<|fun b7=>aa<|aX (m:=2) [7] kr<|bZ 8 hGF zv92 rfl rfl rfl<|fun b8=>aa<|aX (m:=1) [8] kr<|Sa 7 hGF rfl rfl rfl aF<|aa<|aX (m:=0) [9] kr<|Sa 8 hGF rfl rfl rfl aF<|aa<|dH kr<|aU<|⟨rfl,(b7,b8),_,rfl,trv,trv⟩
    ·exact bZ 8 hGF zv92 rfl rfl rfl<|fun b8=>aa<|aX (m:=2) [6] kr<|bZ 7 hGF zv92 rfl rfl rfl<|fun b7=>aa<|aX (m:=1) [8] kr<|Sa 7 hGF rfl rfl rfl aF<|aa<|aX (m:=0) [9] kr<|Sa 8 hGF rfl rfl rfl aF<|aa<|dH kr<|aU<|⟨rfl,(b7,b8),_,rfl,trv,trv⟩
   ·refine bZ 7 hGF zv92 rfl rfl rfl<|fun b7=>aa<|fG (m:=7) [1,7] kr kr dc<|?_
    intro i hi
    simp only[List.mem_cons,List.not_mem_nil,or_false]at hi
    rcases hi with rfl|rfl
    ·refine bG rfl rfl ent266 rfl rfl (fun w' hw'=>(iP w' (hGF.g _ _ _ hw')).mono fun e' w'' h=> ?_)
     obtain ⟨c1,rfl,hg,h1,ho⟩:=h
     refine ⟨_,_,rfl,ao hGF,hw'.news ak hg [(33,c1,(RW 24 (R24 oY uY) 4).map U64,322)] ?_ bI,bF ak rfl, ?_⟩
     ·intro n' b' c' t' hl
      rcases aB hl with ⟨_,e⟩|⟨_,hl⟩
      ·cases e;exact ⟨h1,ho⟩
      ·cases hl
     clear hw' hg h1 ho
     exact aa<|aX (m:=3) [2,3,4,5] kr<|Cc rfl ent264 (fun w' hC hG=>pV x _ w' hG (aM (n:=33) rfl w' hC))<|Mv rfl<|Ext rfl rfl<|Ext rfl rfl<|aa<|aX (m:=2) [7] kr<|bZ 8 hGF zv92 rfl rfl rfl<|fun b8=>aa<|aX (m:=1) [8] kr<|Sa 7 hGF rfl rfl rfl aF<|aa<|aX (m:=0) [9] kr<|Sa 8 hGF rfl rfl rfl aF<|aa<|dH kr<|aU<|⟨rfl,(b7,b8),_,rfl,trv,trv⟩
    ·refine bZ 8 hGF zv92 rfl rfl rfl<|fun b8=>aa<|aX (m:=6) [1] kr<|?_
     refine bG rfl rfl ent266 rfl rfl (fun w' hw'=>(iP w' (hGF.g _ _ _ hw')).mono fun e' w'' h=> ?_)
     obtain ⟨c1,rfl,hg,h1,ho⟩:=h
     refine ⟨_,_,rfl,ao hGF,hw'.news ak hg [(33,c1,(RW 24 (R24 oY uY) 4).map U64,322)] ?_ bI,bF ak rfl, ?_⟩
     ·intro n' b' c' t' hl
      rcases aB hl with ⟨_,e⟩|⟨_,hl⟩
      ·cases e;exact ⟨h1,ho⟩
      ·cases hl
     clear hw' hg h1 ho
     exact aa<|aX (m:=2) [2,3,4,5] kr<|Cc rfl ent264 (fun w' hC hG=>pV x _ w' hG (aM (n:=33) rfl w' hC))<|Mv rfl<|Ext rfl rfl<|Ext rfl rfl<|aa<|aX (m:=1) [8] kr<|Sa 7 hGF rfl rfl rfl aF<|aa<|aX (m:=0) [9] kr<|Sa 8 hGF rfl rfl rfl aF<|aa<|dH kr<|aU<|⟨rfl,(b7,b8),_,rfl,trv,trv⟩
   ·refine bZ 8 hGF zv92 rfl rfl rfl<|fun b8=>aa<|fG (m:=7) [1,6] kr kr dc<|?_
    intro i hi
    simp only[List.mem_cons,List.not_mem_nil,or_false]at hi
    rcases hi with rfl|rfl
    ·refine bG rfl rfl ent266 rfl rfl (fun w' hw'=>(iP w' (hGF.g _ _ _ hw')).mono fun e' w'' h=> ?_)
     obtain ⟨c1,rfl,hg,h1,ho⟩:=h
     refine ⟨_,_,rfl,ao hGF,hw'.news ak hg [(33,c1,(RW 24 (R24 oY uY) 4).map U64,322)] ?_ bI,bF ak rfl, ?_⟩
     ·intro n' b' c' t' hl
      rcases aB hl with ⟨_,e⟩|⟨_,hl⟩
      ·cases e;exact ⟨h1,ho⟩
      ·cases hl
     clear hw' hg h1 ho
     exact aa<|aX (m:=3) [2,3,4,5] kr<|Cc rfl ent264 (fun w' hC hG=>pV x _ w' hG (aM (n:=33) rfl w' hC))<|Mv rfl<|Ext rfl rfl<|Ext rfl rfl<|aa<|aX (m:=2) [6] kr<|bZ 7 hGF zv92 rfl rfl rfl<|fun b7=>aa<|aX (m:=1) [8] kr<|Sa 7 hGF rfl rfl rfl aF<|aa<|aX (m:=0) [9] kr<|Sa 8 hGF rfl rfl rfl aF<|aa<|dH kr<|aU<|⟨rfl,(b7,b8),_,rfl,trv,trv⟩
    ·refine bZ 7 hGF zv92 rfl rfl rfl<|fun b7=>aa<|aX (m:=6) [1] kr<|?_
     refine bG rfl rfl ent266 rfl rfl (fun w' hw'=>(iP w' (hGF.g _ _ _ hw')).mono fun e' w'' h=> ?_)
     obtain ⟨c1,rfl,hg,h1,ho⟩:=h
     refine ⟨_,_,rfl,ao hGF,hw'.news ak hg [(33,c1,(RW 24 (R24 oY uY) 4).map U64,322)] ?_ bI,bF ak rfl, ?_⟩
     ·intro n' b' c' t' hl
      rcases aB hl with ⟨_,e⟩|⟨_,hl⟩
      ·cases e;exact ⟨h1,ho⟩
      ·cases hl
     clear hw' hg h1 ho
     exact aa<|aX (m:=2) [2,3,4,5] kr<|Cc rfl ent264 (fun w' hC hG=>pV x _ w' hG (aM (n:=33) rfl w' hC))<|Mv rfl<|Ext rfl rfl<|Ext rfl rfl<|aa<|aX (m:=1) [8] kr<|Sa 7 hGF rfl rfl rfl aF<|aa<|aX (m:=0) [9] kr<|Sa 8 hGF rfl rfl rfl aF<|aa<|dH kr<|aU<|⟨rfl,(b7,b8),_,rfl,trv,trv⟩
  ·rintro ⟨b7,b8⟩
   dsimp only
   refine Xp<|La 6 rfl rfl aF<|La 8 rfl rfl aF<|Ca rfl (db _ _)<|Al 9 hGF zv92<|fun b9=>Sa 9 hGF rfl rfl rfl aF<|aa<|ah<|Xp<|La 9 rfl rfl aF<|Cbl false rfl ent197 (ul _) (decide_eq_false (Jb h))<|aa<|au rfl<|ap<|Xp<|La 9 rfl rfl aF<|Ca rfl (Dm _)<|Al 10 hGF zv92<|fun b10=>Sa 10 hGF rfl rfl rfl aF<|aa<|Xa [0,1,2,3,4,5,6,7,8,9,10,11,12,13,14,15] ⟨16,11,94,(GL ch).map U64⟩ [17,18] (bR rfl zv94 rfl)<|La 5 rfl rfl aF<|La 8 rfl rfl aF<|Ca rfl (db _ _)<|La 10 rfl rfl aF<|Ca rfl (Ub h)<|La 3 rfl rfl aF<|La 7 rfl rfl aF<|Ca rfl (db _ _)<|La 6 rfl rfl aF<|Ca rfl (db _ _)<|La 10 rfl rfl aF<|Ca rfl (Sr h)<|Ca rfl (UE _ _ (lF.1 (xf h)))<|Mv rfl<|Ext rfl rfl<|Ext rfl rfl<|aa<|?_
   refine ⟨_,_,rfl,hGF,by intro x hx;simp only[List.mem_cons,List.not_mem_nil,or_false]at hx;subst hx;rfl,by intro x hx;simp only[List.mem_cons,List.not_mem_nil,or_false]at hx;subst hx;rfl,fun adr7=> ?_⟩
   refine Sa 11 hGF rfl rfl rfl bE<|Asg rfl<|aa<|Xp<|La 11 rfl rfl bE<|Sa 4 hGF rfl rfl rfl bE<|aa<|am<|Rr<|?_
   exact az 4 rfl rfl rfl isAgg94 sizeOf94 sm (fun w hw=>⟨rfl,ae hw⟩)
theorem pmap{u x r:W2}(h:SwR u x r):PUR 196 [EV2 u] (PtV (Tv x (sgS r u) h.on)):=by
 intro w hw
 refine Hf func196 rfl hw<|fun hGF=>Xp<|Bx 1 hGF rfl<|fun b1=>Al 2 hGF zv94<|fun b2=>aa<|Xp<|La 1 rfl rfl aF<|Ca rfl (pswu h)<|Ext rfl rfl<|Ext rfl rfl<|Ca rfl (piso _ _ h.on)<|Sa 2 hGF rfl rfl rfl bE<|aa<|am<|Rr<|?_
 exact az 2 rfl rfl rfl isAgg94 sizeOf94 sm (fun w hw=>⟨rfl,ae hw⟩)
end
section
open Go.RowKit
attribute [local simp] aV ba aT aO aD bd aK aJ aA PLl cv cw N1l cu cr cq a7 bc aP aZ a9 List.length_append nM
namespace Xm
end Xm
end
section
open Go.RowKit
attribute [local simp] aV ba aT aO aD bd aK aJ aA PLl cv cw N1l cu cr cq a7 bc aP aZ a9 List.length_append nM cV
namespace Xm
attribute [local simp] Sh.gu jX pK jt fH iC Sh.bJ kL
def N2(bs:L8)(i:Nat):W2:=(ZB ((bs.drop (128*i)).take 64),ZB ((bs.drop (128*i+64)).take 64))
def N2r(bs:L8)(i:Nat):L6:=fe (N2 bs i).1++fe (N2 bs i).2
theorem N2r_len(bs:L8)(i:Nat):(N2r bs i).length=12:=by rw[N2r,List.length_append,aV,aV]
def At2(w0 w:World)(a:Option Addr)(n:Nat)(f:Nat→L6):Prop:=n=0∨∃b,a=some ⟨b,0,none⟩∧w0.heap.size≤b∧w.rangeAt b 0 ((RW 12 (f) n).map U64)
def FBad(msg dst:L8)(z:Int):Prop:=z<0∨32<z∨255<dst.length∨65536<msg.length
structure RFt(msg dst:L8)(z:Int)(w0 w:World)(v:Value):Prop where
 bad:FBad msg dst z→v=.tuple #[.slice none 0 0,I 130]
 ok: ¬FBad msg dst z→∃a cap,v=.tuple #[.slice a z.toNat cap,I 0]∧At2 w0 w a z.toNat (N2r (E msg dst (128*z.toNat)))
attribute [local simp] N2r_len
end Xm
end
end Go.Proofs.YtfgacclgjklgnaaGreatDoor
