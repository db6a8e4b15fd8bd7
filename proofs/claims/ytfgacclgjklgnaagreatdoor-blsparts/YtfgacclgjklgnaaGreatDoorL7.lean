/- L7 -/
import Derived.Test.YtfgacclgjklgnaaGreatDoorL6
import Derived.Test.YtfgacclgjklgnaaGreatDoorX3
import Derived.Test.YtfgacclgjklgnaaGreatDoorXW
import Derived.Test.YtfgacclgjklgnaaGreatDoorL0
import Derived.Test.YtfgacclgjklgnaaGreatDoorM1
import Derived.Test.YtfgacclgjklgnaaGreatDoorL1
import Derived.Test.YtfgacclgjklgnaaGreatDoorL4
import Derived.Test.YtfgacclgjklgnaaGreatDoorL2
import Derived.Test.YtfgacclgjklgnaaGreatDoorX2
set_option maxRecDepth 100000
set_option maxHeartbeats 1000000
namespace Go.Proofs.YtfgacclgjklgnaaGreatDoor
open Go.Proofs.Tryz
section
open J2
open Go.RowKit
attribute [local simp] aW bd aU aP aD bf aL aK aB PLl cm cq N1l cr cp cu a8 bg aQ a6 bc bj dp
def cXN:Nat→W2
 |0=>(zp 0x5c759507e8e333ebb5b7a9a47d7ed8532c52d39fd3a042a88b58423c50ae15d5c2638e343d9c71c6238aaaaaaaa97d6,zp 0x5c759507e8e333ebb5b7a9a47d7ed8532c52d39fd3a042a88b58423c50ae15d5c2638e343d9c71c6238aaaaaaaa97d6)
 |1=>(0,zp 0x11560bf17baa99bc32126fced787c88f984f87adf7ae0c7f9a208c6b4f20a4181472aaa9cb8d555526a9ffffffffc71a)
 |2=>(zp 0x11560bf17baa99bc32126fced787c88f984f87adf7ae0c7f9a208c6b4f20a4181472aaa9cb8d555526a9ffffffffc71e,zp 0x8ab05f8bdd54cde190937e76bc3e447cc27c3d6fbd7063fcd104635a790520c0a395554e5c6aaaa9354ffffffffe38d)
 |_=>(zp 0x171d6541fa38ccfaed6dea691f5fb614cb14b4e7f4e810aa22d6108f142b85757098e38d0f671c7188e2aaaaaaaa5ed1,0)
def cYN:Nat→W2
 |0=>(zp 0x1530477c7ab4113b59a4c18b076d11930f7da5d4a07f649bf54439d87d27e500fc8c25ebf8c92f6812cfc71c71c6d706,zp 0x1530477c7ab4113b59a4c18b076d11930f7da5d4a07f649bf54439d87d27e500fc8c25ebf8c92f6812cfc71c71c6d706)
 |1=>(0,zp 0x5c759507e8e333ebb5b7a9a47d7ed8532c52d39fd3a042a88b58423c50ae15d5c2638e343d9c71c6238aaaaaaaa97be)
 |2=>(zp 0x11560bf17baa99bc32126fced787c88f984f87adf7ae0c7f9a208c6b4f20a4181472aaa9cb8d555526a9ffffffffc71c,zp 0x8ab05f8bdd54cde190937e76bc3e447cc27c3d6fbd7063fcd104635a790520c0a395554e5c6aaaa9354ffffffffe38f)
 |_=>(zp 0x124c9ad43b6cf79bfbf7043de3811ad0761b0f37a1e26286b0e977c69aa274524e79097a56dc4bd9e1b371c71c718b10,0)
def RPr(f:Nat→W2)(i:Nat):L6:=fe (f i).1++fe (f i).2
theorem gu(f:Nat→W2)(i:Nat):(RPr f i).length=12:=by simp[RPr]
attribute [local simp] gu
end
section
open J2
open Go.RowKit
attribute [local simp] aW bd aU aP aD bf aL aK aB PLl cm cq N1l cr cp cu a8 bg aQ a6 bc bj dp gu
end
section
open J2
open Go.RowKit
attribute [local simp] aW bd aU aP aD bf aL aK aB PLl cm cq N1l cr cp cu a8 bg aQ a6 bc bj dp gu
theorem ent298:ai prog 298:=fun _ _=>kr
theorem kZ(s0:ByteArray)(xs:L8)(h0:s0.data.toList=xs.map (fun x=>UInt8.ofBitVec x)):PUR 286 [.string s0] (EV (FV xs)):=by
 intro w hw
 refine Hf func286 rfl hw<|fun hGF=>ae (E:=EE [1000022])<|Al 2 hGF zv52<|fun b2=>aa<|ae (E:=EE [1000022])<|Mv rfl<|?_
 refine xz 7 (xs:=xs) rfl hGF rfl underlying9 underlying22 underlying5 h0 rfl rfl (fun b7 c7 k7 e7 l7 t7=> ?_)
 refine Cc rfl ent90 (fun w' hC hG=>dM _ _ xs w' hG (cz (aO (n:=7) rfl w' hC) t7))<|Mv rfl<|Ext rfl rfl<|Ext rfl rfl<|Al 3 hGF zv52<|fun b3=>Sa 3 hGF rfl rfl rfl bv<|Asg rfl<|aa<|ae (E:=EE [1000022])<|La 3 rfl rfl bv<|Sa 2 hGF rfl rfl rfl bv<|aa<|am<|Rr<|?_
 exact ay 2 rfl rfl rfl isAgg52 sizeOf52 sm (fun w hw=>⟨rfl,ac hw⟩)
def R24(f g:Nat→W2)(i:Nat):L6:=(fe (f i).1++fe (f i).2)++(fe (g i).1++fe (g i).2)
theorem jv(f g:Nat→W2)(i:Nat):(R24 f g i).length=24:=by simp[R24]
attribute [local simp] jv
def z4:Nat→W2:=fun _=>ze2
abbrev OU(f g:Nat→W2):Value:=aT (RW 24 (R24 f g) 4)
theorem zv321(w:World):(zeroValue 321).run prog w=.ok (aT ((fe 0++fe 0)++(fe 0++fe 0))) w:=by rw[kO];exact (zeroValue321 w).trans rr
theorem km:Two prog 321 ⟨ "over",92,0,false, "", "pharos/swu",0⟩ ⟨ "under",92,12,false, "", "pharos/swu",96⟩ 12 12 (fe 0++fe 0) (fe 0++fe 0):=⟨underlying321,rfl,rfl,sizeOf92,sizeOf92,zv321,sm,sm⟩
theorem Q0:RW 24 (R24 z4 z4) 4=List.replicate 96 0#64:=by
 have e: ∀i,R24 z4 z4 i=List.replicate 24 0#64:=fun i=>by
  show (fe 0++fe 0)++(fe 0++fe 0)=List.replicate 24 0#64
  rw[kO];rfl
 simp only[RW,e]
 rfl
theorem zv322(w:World):(zeroValue 322).run prog w=.ok (OU z4 z4) w:=by
 show _=Result.ok (Value.agg ((RW 24 (R24 z4 z4) 4).map U64).toArray) w
 rw[Q0];exact (zeroValue322 w).trans rr
theorem y5(f z:Nat→L6): ∀i,i<4→wT f [0,1,2,3] z i=f i:=fun i hi=>ox _ _ _ _ (.inl (by
 match i,hi with
 |0,_=>decide
 |1,_=>decide
 |2,_=>decide
 |3,_=>decide))
theorem o6(f g:Nat→W2)(w:World)(hw:Gt w):CLS 285 [OU f g].toArray w (fun e w'=> ∃b1,e=.returned (.func (.func 298) #[] #[pnt b1])∧Grow w w'∧w.heap.size≤b1∧OwnB w' b1 ((RW 24 (R24 f g) 4).map U64) 322):=by
 refine Hf func285 rfl hw<|fun hGF=>Xp<|Bx 1 hGF rfl<|fun b1=>Asg rfl<|aa<|Xp<|eV rfl rfl rfl rfl<|Asg rfl<|aa<|am<|Rr<|?_
 exact aE rfl rfl (fun w hw=>⟨b1,rfl,ac hw,(hw.own 1 b1 _ _ rfl).2.elim id False.elim,(hw.own 1 b1 _ _ rfl).1⟩)
def PS4(f g:Nat→W2):List (List Value):=(List.range 4).map fun (k:Nat)=>[EV2 (f k),EV2 (g k)]
theorem tI(f g:Nat→W2):(PS4 f g).length=4:=by rw[PS4,List.length_map,List.length_range]
theorem Aa(f g:Nat→W2)(k:Nat)(h:k<4):(PS4 f g)[k]? =some [EV2 (f k),EV2 (g k)]:=by
 rw[PS4,List.getElem?_map,List.getElem?_range h];rfl
theorem QY(f g:Nat→W2)(k:Nat)(v:List Value)(h:(PS4 f g)[k]? =some v):k<4∧v=[EV2 (f k),EV2 (g k)]:=by
 have hk:k<4:=by
  rcases Nat.lt_or_ge k 4 with hk|hk
  ·exact hk
  ·rw[List.getElem?_eq_none (by rw[tI];exact hk)]at h;cases h
 exact ⟨hk,(Option.some.inj ((Aa f g k hk).symm.trans h)).symm⟩
def N8(bb:Nat)(f g:Nat→W2):Cls:=fun w=>w.rangeAt bb 0 ((RW 24 (R24 f g) 4).map U64)
theorem Gp(bb:Nat)(f g:Nat→W2):eG prog Gt 298 [pnt bb] (PS4 f g) (N8 bb f g):=by
 intro l J Jx hJ hJx hRd hGx hY w hj
 have okJ: ∀k,BOk Gt (Bi w (fun Y=>J Y k)):=fun k=>⟨fun _ _ _ h=>(hRd _ _ _ h.rid).1,hJ k⟩
 have okX: ∀k,BOk Gt (Bi w (fun Y=>Jx Y k)):=fun k=>⟨fun _ _ _ h=>hGx _ _ _ h.rid,hJx k⟩
 have c1: ∀k L w',Hp (Bi w (fun Y=>J Y k)) L w'→N8 bb f g w':=fun k L w' h=>(hRd _ _ _ h.rid).2
 refine cb (G:=Gt) func298 rfl rfl (Hp (Bi w (fun Y=>J Y 0)) []) (bO (Bi w _) hj (hJ 0)) (au (okJ 0))<|Xp<|dv rfl isAgg322 sizeOf322 sm (fun w h=>c1 _ _ w h) rfl rfl<|Mv rfl<|aa<|aj<|fB (ι:={i:Nat // i≤4}) (fun y=>[(0,.func (.yield l) #[] #[]),(1,pnt bb),(5,OU f g),(6,I (y.1:Int))]) (fun y=>Bi w (fun Y=>J Y y.1)) (fun y=>[]) (fun y=>4-y.1) ⟨0,Nat.zero_le _⟩ (fun _=>okJ _) rfl trv trivial<|?_
 rintro ⟨i,hi⟩
 dsimp only
 refine Xp<|Bnr rfl rfl (fun _=>aF _ _ _)<|aa<|ah<|?_
 refine bZ rfl (fun hc=> ?_) (fun hc=> ?_)
 ·have hi2:i<4:=by simp at hc;omega
  refine ap<|ah<|aj<|Xp<|Il (s:=24) (R24 f g) i rfl rfl underlying322 sizeOf321 isAgg321 rfl om (jv _ _ _) rfl rfl<|Al 4 (okJ _) zv321<|fun b4=>Sa 4 (okJ _) rfl rfl rfl U6<|aa<|Xp<|Mv rfl<|Fa 0 rfl underlying321 rfl sizeOf92<|av 4 _ rfl rfl isAgg92 sizeOf92 sm dR rfl rfl<|Fa 12 rfl underlying321 rfl sizeOf92<|av 4 _ rfl rfl isAgg92 sizeOf92 sm (iF sm) rfl rfl<|?_
  refine cX (hY.b (k:=i) (Aa f g i om) w) (okJ _) (okX _) rfl rfl rfl rfl rfl ?_ ?_
  ·refine aY rfl (fun _=>aJ _) rfl rfl<|aa<|aq rfl<|ap<|Xq<|Bnr rfl rfl (fun _=>aA _ _ _ oi)<|Mv rfl<|aa<|?_
   repeat (refine a7 ?_)
   exact aR<|⟨rfl,⟨i+1,om⟩,_,by show 4-(i+1)<4-i;omega,rfl,trv,trivial⟩
  ·refine aY rfl (fun _=>aJ _) rfl rfl<|aa<|aV rfl<|am<|Rr<|?_
   repeat (first|refine cZ ?_|refine bY ?_|refine cU rfl ?_|refine bq ?_|refine bt ?_)
   exact cR rfl (fun w hw=>⟨⟨_,rfl⟩,.inr ⟨_,bD (hJx _) hw.rid⟩⟩)
 ·obtain rfl:i=4:=by simp at hc;omega
  refine be ?_
  repeat (first|refine cZ ?_|refine bY ?_|refine cU rfl ?_|refine bq ?_|refine bt ?_)
  refine cn rfl (fun w hw=>⟨⟨_,rfl⟩,.inl ?_⟩)
  have:=bD (hJ _) hw.rid
  rw[tI]
  exact this
end
section
open J2
open Go.RowKit
attribute [local simp] aW bd aU aP aD bf aL aK aB PLl cm cq N1l cr cp cu a8 bg aQ a6 bc bj dp gu jv
theorem gM{w w':World}{b o:Nat}{cs:List Value}(hg:Grow w w')(h:w.rangeAt b o cs):w'.rangeAt b o cs:=fun j v hj=>(hg.cell (block_lt_of_cell (h j v hj))).trans (h j v hj)
theorem qF(x:W2)(f g:Nat→W2)(bb:Nat)(w:World)(hw:Gt w)(hRs: ∀w',Grow w w'→N8 bb f g w'):
 CLS 264 [EV2 x,.func (.func 298) #[] #[pnt bb]].toArray w (fun r w'=>r=.returned (.tuple #[EV2 (HK f x 4),EV2 (HK g x 4)])∧Grow w w'):=by
 have hGF:BOk Gt (pl w):=gt_low.plain hw
 refine bV (G:=Gt) func264 rfl rfl (Hp (pl w) []) (bO (pl w) trivial ak) (au hGF)<|Xp<|Bx 2 hGF rfl<|fun b2=>Al 4 hGF zv92<|fun b4=>Al 5 hGF zv92<|fun b5=>aa<|ah<|Xp<|Mv rfl<|aa<|aj<|?_
 refine ef (fun _=>pl w) (fun _ _=>pl w) (fun _=>hGF) (fun _ _=>hGF) (fun _=>rfl) (fun _ _=>rfl) rfl rfl ent298 (Gp bb f g) (fun x hx=>by obtain ⟨k,hk,rfl⟩:=List.mem_map.1 hx;rfl) rfl (fun k=>[(2,b2,(fe (x).1++fe (x).2).map U64,92),(4,b4,(fe (HK f x k).1++fe (HK f x k).2).map U64,92),(5,b5,(fe (HK g x k).1++fe (HK g x k).2).map U64,92)]) (fun _ _ _=>False) trv (fun k _ w' h=>hRs w' (h.below (fun _ h=>h))) ?_ ?_ (fun _ _ _ _ _ h=>h.elim)
 ·intro k v hx R hR
  obtain ⟨hk,rfl⟩:=QY f g k v hx
  refine Xp<|cO 6 (hR (pl w) rfl hGF).1 zv92 rfl rfl<|fun b6=>ao 6 (hR (pl w) rfl hGF).1 rfl rfl rfl sizeOf92 sm sm (bk _) rfl<|aa<|Xq<|cO 7 (hR (pl w) rfl hGF).1 zv92 rfl rfl<|fun b7=>ao 7 (hR (pl w) rfl hGF).1 rfl rfl rfl sizeOf92 sm sm (bk _) rfl<|aa<|?_
  refine ⟨rfl,_,rfl, ?_⟩
  refine aj<|Xe []<|La 4 rfl rfl aH<|La 2 rfl rfl aH<|Ca rfl (dh _ _)<|La 6 rfl rfl aH<|Ca rfl (eH _ _)<|La 5 rfl rfl aH<|La 2 rfl rfl aH<|Ca rfl (dh _ _)<|La 7 rfl rfl aH<|Ca rfl (eH _ _)<|ao 4 (hR (pl w) rfl hGF).2.1 rfl rfl rfl sizeOf92 sm sm (bk _) rfl<|ao 5 (hR (pl w) rfl hGF).2.1 rfl rfl rfl sizeOf92 sm sm (bk _) rfl<|aa<|?_
  repeat (refine a7 ?_)
  exact ⟨_,rfl,trv⟩
 ·intro D hD
  rw[tI]
  refine kq (E:=EE []) (fun X=>X=Hp (B2 (pl w) D) [(5,b5,(fe (HK g x 4).1++fe (HK g x 4).2).map U64,92)]) (mkB [4]) (rkB [22]) [0,1,2,3] dC rfl kr kr kr<|gc rfl rfl<|La 4 rfl rfl aH<|aa<|mt (X:=Hp (B2 (pl w) D) [(5,b5,(fe (HK g x 4).1++fe (HK g x 4).2).map U64,92)]) rfl (db hD.r trv) (fun _=>rfl)<|La 5 rfl rfl aH<|aa<|kp rfl<|Sa 4 hD rfl rfl rfl aH<|aa<|?_
  refine ⟨fun _ X hX _=>by subst hX;exact db hD.r trv, ?_⟩
  refine kp rfl<|Sa 5 hD rfl rfl rfl aH<|aa<|?_
  refine ⟨fun h=>(by cases h), ?_⟩
  refine ik<|am<|Rr<|?_
  exact cP (.inl rfl) ak (tj 4 5 rfl rfl rfl rfl rfl isAgg92 sizeOf92 sm sm (fun w hw=>⟨rfl,ac hw⟩))
def oX(k:Nat):W2:=cXN (3-k)
def oY(k:Nat):W2:=cYN (3-k)
def uX:Nat→W2
 |0=>ze2
 |1=>on2
 |2=>(zp 12,-zp 12)
 |_=>(0,-zp 72)
def uY:Nat→W2
 |0=>on2
 |1=>(zp 18,-zp 18)
 |2=>(0,-zp 216)
 |_=>(-zp 432,-zp 432)
theorem oX_h(x:W2):HK oX x 4=R2.pev iXN x:=QV oX x
theorem oY_h(x:W2):HK oY x 4=R2.pev iYN x:=QV oY x
theorem uX_h(x:W2):HK uX x 4=R2.pev iXD x:=(HK_z uX x rfl).trans (by rw[show [uX 3,uX 2,uX 1]=iXD by decide+kernel])
theorem uY_h(x:W2):HK uY x 4=R2.pev iYD x:=(QV uY x).trans (by rw[show [uY 3,uY 2,uY 1,uY 0]=iYD by decide+kernel])
def pb0:L8:=[23#8,29#8,101#8,65#8,250#8,56#8,204#8,250#8,237#8,109#8,234#8,105#8,31#8,95#8,182#8,20#8,203#8,20#8,180#8,231#8,244#8,232#8,16#8,170#8,34#8,214#8,16#8,143#8,20#8,43#8,133#8,117#8,112#8,152#8,227#8,141#8,15#8,103#8,28#8,113#8,136#8,226#8,170#8,170#8,170#8,170#8,94#8,209#8]
theorem U5:FV pb0=zp 0x171d6541fa38ccfaed6dea691f5fb614cb14b4e7f4e810aa22d6108f142b85757098e38d0f671c7188e2aaaaaaaa5ed1:=by rw[FV,if_pos ⟨rfl,by decide+kernel⟩];decide+kernel
theorem T4(s0:ByteArray)(h0:s0.data.toList=pb0.map (fun x=>UInt8.ofBitVec x)){a:Zp}(ha:zp 0x171d6541fa38ccfaed6dea691f5fb614cb14b4e7f4e810aa22d6108f142b85757098e38d0f671c7188e2aaaaaaaa5ed1=a):PUR 286 [.string s0] (EV a):=by
 have h:=kZ s0 pb0 h0
 rw[U5,ha]at h
 exact h
def pb1:L8:=[17#8,86#8,11#8,241#8,123#8,170#8,153#8,188#8,50#8,18#8,111#8,206#8,215#8,135#8,200#8,143#8,152#8,79#8,135#8,173#8,247#8,174#8,12#8,127#8,154#8,32#8,140#8,107#8,79#8,32#8,164#8,24#8,20#8,114#8,170#8,169#8,203#8,141#8,85#8,85#8,38#8,169#8,255#8,255#8,255#8,255#8,199#8,30#8]
theorem Tc:FV pb1=zp 0x11560bf17baa99bc32126fced787c88f984f87adf7ae0c7f9a208c6b4f20a4181472aaa9cb8d555526a9ffffffffc71e:=by rw[FV,if_pos ⟨rfl,by decide+kernel⟩];decide+kernel
theorem WX(s0:ByteArray)(h0:s0.data.toList=pb1.map (fun x=>UInt8.ofBitVec x)){a:Zp}(ha:zp 0x11560bf17baa99bc32126fced787c88f984f87adf7ae0c7f9a208c6b4f20a4181472aaa9cb8d555526a9ffffffffc71e=a):PUR 286 [.string s0] (EV a):=by
 have h:=kZ s0 pb1 h0
 rw[Tc,ha]at h
 exact h
def pb2:L8:=[8#8,171#8,5#8,248#8,189#8,213#8,76#8,222#8,25#8,9#8,55#8,231#8,107#8,195#8,228#8,71#8,204#8,39#8,195#8,214#8,251#8,215#8,6#8,63#8,205#8,16#8,70#8,53#8,167#8,144#8,82#8,12#8,10#8,57#8,85#8,84#8,229#8,198#8,170#8,170#8,147#8,84#8,255#8,255#8,255#8,255#8,227#8,141#8]
theorem Tl:FV pb2=zp 0x8ab05f8bdd54cde190937e76bc3e447cc27c3d6fbd7063fcd104635a790520c0a395554e5c6aaaa9354ffffffffe38d:=by rw[FV,if_pos ⟨rfl,by decide+kernel⟩];decide+kernel
theorem ST(s0:ByteArray)(h0:s0.data.toList=pb2.map (fun x=>UInt8.ofBitVec x)){a:Zp}(ha:zp 0x8ab05f8bdd54cde190937e76bc3e447cc27c3d6fbd7063fcd104635a790520c0a395554e5c6aaaa9354ffffffffe38d=a):PUR 286 [.string s0] (EV a):=by
 have h:=kZ s0 pb2 h0
 rw[Tl,ha]at h
 exact h
def pb3:L8:=[17#8,86#8,11#8,241#8,123#8,170#8,153#8,188#8,50#8,18#8,111#8,206#8,215#8,135#8,200#8,143#8,152#8,79#8,135#8,173#8,247#8,174#8,12#8,127#8,154#8,32#8,140#8,107#8,79#8,32#8,164#8,24#8,20#8,114#8,170#8,169#8,203#8,141#8,85#8,85#8,38#8,169#8,255#8,255#8,255#8,255#8,199#8,26#8]
theorem WZ:FV pb3=zp 0x11560bf17baa99bc32126fced787c88f984f87adf7ae0c7f9a208c6b4f20a4181472aaa9cb8d555526a9ffffffffc71a:=by rw[FV,if_pos ⟨rfl,by decide+kernel⟩];decide+kernel
theorem TC(s0:ByteArray)(h0:s0.data.toList=pb3.map (fun x=>UInt8.ofBitVec x)){a:Zp}(ha:zp 0x11560bf17baa99bc32126fced787c88f984f87adf7ae0c7f9a208c6b4f20a4181472aaa9cb8d555526a9ffffffffc71a=a):PUR 286 [.string s0] (EV a):=by
 have h:=kZ s0 pb3 h0
 rw[WZ,ha]at h
 exact h
def pb4:L8:=[5#8,199#8,89#8,80#8,126#8,142#8,51#8,62#8,187#8,91#8,122#8,154#8,71#8,215#8,237#8,133#8,50#8,197#8,45#8,57#8,253#8,58#8,4#8,42#8,136#8,181#8,132#8,35#8,197#8,10#8,225#8,93#8,92#8,38#8,56#8,227#8,67#8,217#8,199#8,28#8,98#8,56#8,170#8,170#8,170#8,170#8,151#8,214#8]
theorem WU:FV pb4=zp 0x5c759507e8e333ebb5b7a9a47d7ed8532c52d39fd3a042a88b58423c50ae15d5c2638e343d9c71c6238aaaaaaaa97d6:=by rw[FV,if_pos ⟨rfl,by decide+kernel⟩];decide+kernel
theorem KB(s0:ByteArray)(h0:s0.data.toList=pb4.map (fun x=>UInt8.ofBitVec x)){a:Zp}(ha:zp 0x5c759507e8e333ebb5b7a9a47d7ed8532c52d39fd3a042a88b58423c50ae15d5c2638e343d9c71c6238aaaaaaaa97d6=a):PUR 286 [.string s0] (EV a):=by
 have h:=kZ s0 pb4 h0
 rw[WU,ha]at h
 exact h
theorem iP(w:World)(hw:Gt w):CLS 265 [].toArray w (fun e w'=> ∃b1,e=.returned (.func (.func 298) #[] #[pnt b1])∧Grow w w'∧w.heap.size≤b1∧OwnB w' b1 ((RW 24 (R24 oX uX) 4).map U64) 322):=by
 refine Hf func265 rfl hw<|fun hGF=>ae (E:=EE [285,2000285])<|Asg rfl<|aa<|ae (E:=EE [285,2000285])<|Ca rfl (T4 _ rfl rfl)<|zQ fo rfl sm rfl rfl<|I5 fo rfl rfl<|cC km rfl rfl sm sm rfl rfl<|Ca rfl (WX _ rfl rfl)<|Ca rfl (ST _ rfl rfl)<|cC fo rfl rfl sm sm rfl rfl<|Ca rfl (q8)<|cC km rfl rfl sm sm rfl rfl<|Ca rfl (TC _ rfl rfl)<|my fo rfl sm rfl rfl<|Ca rfl (dP _)<|Ca rfl (dP _)<|Ca rfl (dI _)<|cC fo rfl rfl sm sm rfl rfl<|cC km rfl rfl sm sm rfl rfl<|Ca rfl (KB _ rfl rfl)<|Ca rfl (KB _ rfl rfl)<|cC fo rfl rfl sm sm rfl rfl<|Ca rfl (dP _)<|Ca rfl (dI _)<|my fo rfl sm rfl rfl<|cC km rfl rfl sm sm rfl rfl<|pi (s:=24) (R24 oX uX) (R24 oX uX) [0,1,2,3] rfl rfl rfl (fun i _=>jv _ _ _) underlying322 sizeOf321 zv322 (y5 _ _) rfl rfl<|?_
 refine bI rfl rfl ent285 rfl rfl (fun w' hw'=>(o6 oX uX w' (hGF.g _ _ _ hw')).mono fun e' w'' h=> ?_)
 obtain ⟨c1,rfl,hg,h1,ho⟩:=h
 refine ⟨_,_,rfl,au hGF,hw'.news ak hg [(33,c1,(RW 24 (R24 oX uX) 4).map U64,322)] ?_ bN,bJ ak rfl, ?_⟩
 ·intro n' b' c' t' hl
  rcases aC hl with ⟨_,e⟩|⟨_,hl⟩
  ·cases e;exact ⟨h1,ho⟩
  ·cases hl
 clear hw' hg h1 ho
 refine Asg rfl<|aa<|am<|Rr<|?_
 exact aE rfl rfl (fun w hw=>⟨c1,rfl,ac hw,(hw.own 33 c1 _ _ rfl).2.elim id False.elim,(hw.own 33 c1 _ _ rfl).1⟩)
def pb5:L8:=[18#8,76#8,154#8,212#8,59#8,108#8,247#8,155#8,251#8,247#8,4#8,61#8,227#8,129#8,26#8,208#8,118#8,27#8,15#8,55#8,161#8,226#8,98#8,134#8,176#8,233#8,119#8,198#8,154#8,162#8,116#8,82#8,78#8,121#8,9#8,122#8,86#8,220#8,75#8,217#8,225#8,179#8,113#8,199#8,28#8,113#8,139#8,16#8]
theorem VU:FV pb5=zp 0x124c9ad43b6cf79bfbf7043de3811ad0761b0f37a1e26286b0e977c69aa274524e79097a56dc4bd9e1b371c71c718b10:=by rw[FV,if_pos ⟨rfl,by decide+kernel⟩];decide+kernel
theorem T7(s0:ByteArray)(h0:s0.data.toList=pb5.map (fun x=>UInt8.ofBitVec x)){a:Zp}(ha:zp 0x124c9ad43b6cf79bfbf7043de3811ad0761b0f37a1e26286b0e977c69aa274524e79097a56dc4bd9e1b371c71c718b10=a):PUR 286 [.string s0] (EV a):=by
 have h:=kZ s0 pb5 h0
 rw[VU,ha]at h
 exact h
def pb6:L8:=[17#8,86#8,11#8,241#8,123#8,170#8,153#8,188#8,50#8,18#8,111#8,206#8,215#8,135#8,200#8,143#8,152#8,79#8,135#8,173#8,247#8,174#8,12#8,127#8,154#8,32#8,140#8,107#8,79#8,32#8,164#8,24#8,20#8,114#8,170#8,169#8,203#8,141#8,85#8,85#8,38#8,169#8,255#8,255#8,255#8,255#8,199#8,28#8]
theorem Sq:FV pb6=zp 0x11560bf17baa99bc32126fced787c88f984f87adf7ae0c7f9a208c6b4f20a4181472aaa9cb8d555526a9ffffffffc71c:=by rw[FV,if_pos ⟨rfl,by decide+kernel⟩];decide+kernel
theorem Vz(s0:ByteArray)(h0:s0.data.toList=pb6.map (fun x=>UInt8.ofBitVec x)){a:Zp}(ha:zp 0x11560bf17baa99bc32126fced787c88f984f87adf7ae0c7f9a208c6b4f20a4181472aaa9cb8d555526a9ffffffffc71c=a):PUR 286 [.string s0] (EV a):=by
 have h:=kZ s0 pb6 h0
 rw[Sq,ha]at h
 exact h
def pb7:L8:=[8#8,171#8,5#8,248#8,189#8,213#8,76#8,222#8,25#8,9#8,55#8,231#8,107#8,195#8,228#8,71#8,204#8,39#8,195#8,214#8,251#8,215#8,6#8,63#8,205#8,16#8,70#8,53#8,167#8,144#8,82#8,12#8,10#8,57#8,85#8,84#8,229#8,198#8,170#8,170#8,147#8,84#8,255#8,255#8,255#8,255#8,227#8,143#8]
theorem VO:FV pb7=zp 0x8ab05f8bdd54cde190937e76bc3e447cc27c3d6fbd7063fcd104635a790520c0a395554e5c6aaaa9354ffffffffe38f:=by rw[FV,if_pos ⟨rfl,by decide+kernel⟩];decide+kernel
theorem R9(s0:ByteArray)(h0:s0.data.toList=pb7.map (fun x=>UInt8.ofBitVec x)){a:Zp}(ha:zp 0x8ab05f8bdd54cde190937e76bc3e447cc27c3d6fbd7063fcd104635a790520c0a395554e5c6aaaa9354ffffffffe38f=a):PUR 286 [.string s0] (EV a):=by
 have h:=kZ s0 pb7 h0
 rw[VO,ha]at h
 exact h
def pb8:L8:=[5#8,199#8,89#8,80#8,126#8,142#8,51#8,62#8,187#8,91#8,122#8,154#8,71#8,215#8,237#8,133#8,50#8,197#8,45#8,57#8,253#8,58#8,4#8,42#8,136#8,181#8,132#8,35#8,197#8,10#8,225#8,93#8,92#8,38#8,56#8,227#8,67#8,217#8,199#8,28#8,98#8,56#8,170#8,170#8,170#8,170#8,151#8,190#8]
theorem SG:FV pb8=zp 0x5c759507e8e333ebb5b7a9a47d7ed8532c52d39fd3a042a88b58423c50ae15d5c2638e343d9c71c6238aaaaaaaa97be:=by rw[FV,if_pos ⟨rfl,by decide+kernel⟩];decide+kernel
theorem Wn(s0:ByteArray)(h0:s0.data.toList=pb8.map (fun x=>UInt8.ofBitVec x)){a:Zp}(ha:zp 0x5c759507e8e333ebb5b7a9a47d7ed8532c52d39fd3a042a88b58423c50ae15d5c2638e343d9c71c6238aaaaaaaa97be=a):PUR 286 [.string s0] (EV a):=by
 have h:=kZ s0 pb8 h0
 rw[SG,ha]at h
 exact h
def pb9:L8:=[21#8,48#8,71#8,124#8,122#8,180#8,17#8,59#8,89#8,164#8,193#8,139#8,7#8,109#8,17#8,147#8,15#8,125#8,165#8,212#8,160#8,127#8,100#8,155#8,245#8,68#8,57#8,216#8,125#8,39#8,229#8,0#8,252#8,140#8,37#8,235#8,248#8,201#8,47#8,104#8,18#8,207#8,199#8,28#8,113#8,198#8,215#8,6#8]
theorem Wo:FV pb9=zp 0x1530477c7ab4113b59a4c18b076d11930f7da5d4a07f649bf54439d87d27e500fc8c25ebf8c92f6812cfc71c71c6d706:=by rw[FV,if_pos ⟨rfl,by decide+kernel⟩];decide+kernel
theorem K9(s0:ByteArray)(h0:s0.data.toList=pb9.map (fun x=>UInt8.ofBitVec x)){a:Zp}(ha:zp 0x1530477c7ab4113b59a4c18b076d11930f7da5d4a07f649bf54439d87d27e500fc8c25ebf8c92f6812cfc71c71c6d706=a):PUR 286 [.string s0] (EV a):=by
 have h:=kZ s0 pb9 h0
 rw[Wo,ha]at h
 exact h
theorem iM(w:World)(hw:Gt w):CLS 266 [].toArray w (fun e w'=> ∃b1,e=.returned (.func (.func 298) #[] #[pnt b1])∧Grow w w'∧w.heap.size≤b1∧OwnB w' b1 ((RW 24 (R24 oY uY) 4).map U64) 322):=by
 refine Hf func266 rfl hw<|fun hGF=>ae (E:=EE [285,2000285])<|Asg rfl<|aa<|ae (E:=EE [285,2000285])<|Ca rfl (T7 _ rfl rfl)<|zQ fo rfl sm rfl rfl<|Ca rfl (q8)<|cC km rfl rfl sm sm rfl rfl<|Ca rfl (Vz _ rfl rfl)<|Ca rfl (R9 _ rfl rfl)<|cC fo rfl rfl sm sm rfl rfl<|Ca rfl (dP _)<|Ca rfl (dP _)<|Ca rfl (dI _)<|cC fo rfl rfl sm sm rfl rfl<|cC km rfl rfl sm sm rfl rfl<|Ca rfl (Wn _ rfl rfl)<|my fo rfl sm rfl rfl<|Ca rfl (dP _)<|Ca rfl (dI _)<|my fo rfl sm rfl rfl<|cC km rfl rfl sm sm rfl rfl<|Ca rfl (K9 _ rfl rfl)<|Ca rfl (K9 _ rfl rfl)<|cC fo rfl rfl sm sm rfl rfl<|Ca rfl (dP _)<|Ca rfl (dI _)<|Ca rfl (dP _)<|Ca rfl (dI _)<|cC fo rfl rfl sm sm rfl rfl<|cC km rfl rfl sm sm rfl rfl<|pi (s:=24) (R24 oY uY) (R24 oY uY) [0,1,2,3] rfl rfl rfl (fun i _=>jv _ _ _) underlying322 sizeOf321 zv322 (y5 _ _) rfl rfl<|?_
 refine bI rfl rfl ent285 rfl rfl (fun w' hw'=>(o6 oY uY w' (hGF.g _ _ _ hw')).mono fun e' w'' h=> ?_)
 obtain ⟨c1,rfl,hg,h1,ho⟩:=h
 refine ⟨_,_,rfl,au hGF,hw'.news ak hg [(33,c1,(RW 24 (R24 oY uY) 4).map U64,322)] ?_ bN,bJ ak rfl, ?_⟩
 ·intro n' b' c' t' hl
  rcases aC hl with ⟨_,e⟩|⟨_,hl⟩
  ·cases e;exact ⟨h1,ho⟩
  ·cases hl
 clear hw' hg h1 ho
 refine Asg rfl<|aa<|am<|Rr<|?_
 exact aE rfl rfl (fun w hw=>⟨c1,rfl,ac hw,(hw.own 33 c1 _ _ rfl).2.elim id False.elim,(hw.own 33 c1 _ _ rfl).1⟩)
theorem o9(x:W2)(bb:Nat)(w:World)(hw:Gt w)(h:w.rangeAt bb 0 ((RW 24 (R24 oX uX) 4).map U64)):CLS 264 [EV2 x,.func (.func 298) #[] #[pnt bb]].toArray w (fun r w'=>r=.returned (.tuple #[EV2 (R2.pev iXN x),EV2 (R2.pev iXD x)])∧Grow w w'):=by
 have e:=qF x oX uX bb w hw (fun w' hg=>gM hg h)
 rw[oX_h,uX_h]at e
 exact e
theorem pS(x:W2)(bb:Nat)(w:World)(hw:Gt w)(h:w.rangeAt bb 0 ((RW 24 (R24 oY uY) 4).map U64)):CLS 264 [EV2 x,.func (.func 298) #[] #[pnt bb]].toArray w (fun r w'=>r=.returned (.tuple #[EV2 (R2.pev iYN x),EV2 (R2.pev iYD x)])∧Grow w w'):=by
 have e:=qF x oY uY bb w hw (fun w' hg=>gM hg h)
 rw[oY_h,uY_h]at e
 exact e
theorem Wj{x y:W2}(h:ml2 y y=gO x):PUR 150 [EV2 (ml2 (R2.pev iXN x) (R2.pev iYD x)),EV2 (iv2 (ml2 (R2.pev iXD x) (R2.pev iYD x)))] (EV2 (XIs x)):=by
 have e:=dh (ml2 (R2.pev iXN x) (R2.pev iYD x)) (iv2 (ml2 (R2.pev iXD x) (R2.pev iYD x)))
 rw[UU (Ah h) (yN h)]at e
 exact e
theorem Vx{x y:W2}(h:ml2 y y=gO x):PUR 150 [EV2 (ml2 (ml2 y (R2.pev iYN x)) (R2.pev iXD x)),EV2 (iv2 (ml2 (R2.pev iXD x) (R2.pev iYD x)))] (EV2 (YIs x y)):=by
 have e:=dh (ml2 (ml2 y (R2.pev iYN x)) (R2.pev iXD x)) (iv2 (ml2 (R2.pev iXD x) (R2.pev iYD x)))
 rw[Ul (Ah h) (yN h)]at e
 exact e
theorem Iv{x y:W2}(h:ml2 y y=gO x): ¬ml2 (R2.pev iXD x) (R2.pev iYD x)=ze2:=fun e=>(fA e).elim (Ah h) (yN h)
def Ub(x y:W2)(h:ml2 y y=gO x):GP:=Jb (XIs x) (YIs x y) (mu.1 (vS h))
theorem piso(x y:W2)(h:ml2 y y=gO x):PUR 230 [EV2 x,EV2 y] (PtV (Ub x y h)):=by
 intro w hw
 refine Hf func230 rfl hw<|fun hGF=>Xp<|Bx 2 hGF rfl<|fun b2=>Bx 3 hGF rfl<|fun b3=>Al 4 hGF zv94<|fun b4=>aa<|?_
 refine rM (ι:=Nat×Nat) (fun z=>[(2,pnt b2),(3,pnt b3),(4,pnt b4),(5,pnt z.1),(6,pnt z.2)]) (fun z=>[(2,b2,(fe (x).1++fe (x).2).map U64,92),(3,b3,(fe (y).1++fe (y).2).map U64,92),(4,b4,(GL cI).map U64,94),(5,z.1,(fe (R2.pev iXN x).1++fe (R2.pev iXN x).2).map U64,92),(6,z.2,(fe (R2.pev iXD x).1++fe (R2.pev iXD x).2).map U64,92)]) hGF ?_ ?_
 ·refine pU (EE [265,2000265,2999999]) dC kr kr<|aM (m:=9) [0] kr<|La 2 rfl rfl aH<|aa<|fc (m:=8) [1,6,7] kr kr dc<|?_
  intro i hi
  simp only[List.mem_cons,List.not_mem_nil,or_false]at hi
  rcases hi with rfl|rfl|rfl
  ·refine bI rfl rfl ent265 rfl rfl (fun w' hw'=>(iP w' (hGF.g _ _ _ hw')).mono fun e' w'' h=> ?_)
   obtain ⟨c1,rfl,hg,h1,ho⟩:=h
   refine ⟨_,_,rfl,au hGF,hw'.news ak hg [(33,c1,(RW 24 (R24 oX uX) 4).map U64,322)] ?_ bN,bJ ak rfl, ?_⟩
   ·intro n' b' c' t' hl
    rcases aC hl with ⟨_,e⟩|⟨_,hl⟩
    ·cases e;exact ⟨h1,ho⟩
    ·cases hl
   clear hw' hg h1 ho
   refine aa<|aM (m:=4) [2,3,4,5] kr<|Cc rfl ent264 (fun w' hC hG=>o9 x _ w' hG (aO (n:=33) rfl w' hC))<|Mv rfl<|Ext rfl rfl<|Ext rfl rfl<|aa<|fc (m:=3) [6,7] kr kr dc<|?_
   intro i hi
   simp only[List.mem_cons,List.not_mem_nil,or_false]at hi
   rcases hi with rfl|rfl
   ·exact bH 5 hGF zv92 rfl rfl rfl<|fun b5=>aa<|aM (m:=2) [7] kr<|bH 6 hGF zv92 rfl rfl rfl<|fun b6=>aa<|aM (m:=1) [8] kr<|Sa 5 hGF rfl rfl rfl aH<|aa<|aM (m:=0) [9] kr<|Sa 6 hGF rfl rfl rfl aH<|aa<|dd kr<|aR<|⟨rfl,(b5,b6),_,rfl,trv,trv⟩
   ·exact bH 6 hGF zv92 rfl rfl rfl<|fun b6=>aa<|aM (m:=2) [6] kr<|bH 5 hGF zv92 rfl rfl rfl<|fun b5=>aa<|aM (m:=1) [8] kr<|Sa 5 hGF rfl rfl rfl aH<|aa<|aM (m:=0) [9] kr<|Sa 6 hGF rfl rfl rfl aH<|aa<|dd kr<|aR<|⟨rfl,(b5,b6),_,rfl,trv,trv⟩
  ·refine bH 5 hGF zv92 rfl rfl rfl<|fun b5=>aa<|fc (m:=7) [1,7] kr kr dc<|?_
   intro i hi
   simp only[List.mem_cons,List.not_mem_nil,or_false]at hi
   rcases hi with rfl|rfl
   ·refine bI rfl rfl ent265 rfl rfl (fun w' hw'=>(iP w' (hGF.g _ _ _ hw')).mono fun e' w'' h=> ?_)
    obtain ⟨c1,rfl,hg,h1,ho⟩:=h
    refine ⟨_,_,rfl,au hGF,hw'.news ak hg [(33,c1,(RW 24 (R24 oX uX) 4).map U64,322)] ?_ bN,bJ ak rfl, ?_⟩
    ·intro n' b' c' t' hl
     rcases aC hl with ⟨_,e⟩|⟨_,hl⟩
     ·cases e;exact ⟨h1,ho⟩
     ·cases hl
    clear hw' hg h1 ho
    exact aa<|aM (m:=3) [2,3,4,5] kr<|Cc rfl ent264 (fun w' hC hG=>o9 x _ w' hG (aO (n:=33) rfl w' hC))<|Mv rfl<|Ext rfl rfl<|Ext rfl rfl<|aa<|aM (m:=2) [7] kr<|bH 6 hGF zv92 rfl rfl rfl<|fun b6=>aa<|aM (m:=1) [8] kr<|Sa 5 hGF rfl rfl rfl aH<|aa<|aM (m:=0) [9] kr<|Sa 6 hGF rfl rfl rfl aH<|aa<|dd kr<|aR<|⟨rfl,(b5,b6),_,rfl,trv,trv⟩
   ·refine bH 6 hGF zv92 rfl rfl rfl<|fun b6=>aa<|aM (m:=6) [1] kr<|?_
    refine bI rfl rfl ent265 rfl rfl (fun w' hw'=>(iP w' (hGF.g _ _ _ hw')).mono fun e' w'' h=> ?_)
    obtain ⟨c1,rfl,hg,h1,ho⟩:=h
    refine ⟨_,_,rfl,au hGF,hw'.news ak hg [(33,c1,(RW 24 (R24 oX uX) 4).map U64,322)] ?_ bN,bJ ak rfl, ?_⟩
    ·intro n' b' c' t' hl
     rcases aC hl with ⟨_,e⟩|⟨_,hl⟩
     ·cases e;exact ⟨h1,ho⟩
     ·cases hl
    clear hw' hg h1 ho
    exact aa<|aM (m:=2) [2,3,4,5] kr<|Cc rfl ent264 (fun w' hC hG=>o9 x _ w' hG (aO (n:=33) rfl w' hC))<|Mv rfl<|Ext rfl rfl<|Ext rfl rfl<|aa<|aM (m:=1) [8] kr<|Sa 5 hGF rfl rfl rfl aH<|aa<|aM (m:=0) [9] kr<|Sa 6 hGF rfl rfl rfl aH<|aa<|dd kr<|aR<|⟨rfl,(b5,b6),_,rfl,trv,trv⟩
  ·refine bH 6 hGF zv92 rfl rfl rfl<|fun b6=>aa<|fc (m:=7) [1,6] kr kr dc<|?_
   intro i hi
   simp only[List.mem_cons,List.not_mem_nil,or_false]at hi
   rcases hi with rfl|rfl
   ·refine bI rfl rfl ent265 rfl rfl (fun w' hw'=>(iP w' (hGF.g _ _ _ hw')).mono fun e' w'' h=> ?_)
    obtain ⟨c1,rfl,hg,h1,ho⟩:=h
    refine ⟨_,_,rfl,au hGF,hw'.news ak hg [(33,c1,(RW 24 (R24 oX uX) 4).map U64,322)] ?_ bN,bJ ak rfl, ?_⟩
    ·intro n' b' c' t' hl
     rcases aC hl with ⟨_,e⟩|⟨_,hl⟩
     ·cases e;exact ⟨h1,ho⟩
     ·cases hl
    clear hw' hg h1 ho
    exact aa<|aM (m:=3) [2,3,4,5] kr<|Cc rfl ent264 (fun w' hC hG=>o9 x _ w' hG (aO (n:=33) rfl w' hC))<|Mv rfl<|Ext rfl rfl<|Ext rfl rfl<|aa<|aM (m:=2) [6] kr<|bH 5 hGF zv92 rfl rfl rfl<|fun b5=>aa<|aM (m:=1) [8] kr<|Sa 5 hGF rfl rfl rfl aH<|aa<|aM (m:=0) [9] kr<|Sa 6 hGF rfl rfl rfl aH<|aa<|dd kr<|aR<|⟨rfl,(b5,b6),_,rfl,trv,trv⟩
   ·refine bH 5 hGF zv92 rfl rfl rfl<|fun b5=>aa<|aM (m:=6) [1] kr<|?_
    refine bI rfl rfl ent265 rfl rfl (fun w' hw'=>(iP w' (hGF.g _ _ _ hw')).mono fun e' w'' h=> ?_)
    obtain ⟨c1,rfl,hg,h1,ho⟩:=h
    refine ⟨_,_,rfl,au hGF,hw'.news ak hg [(33,c1,(RW 24 (R24 oX uX) 4).map U64,322)] ?_ bN,bJ ak rfl, ?_⟩
    ·intro n' b' c' t' hl
     rcases aC hl with ⟨_,e⟩|⟨_,hl⟩
     ·cases e;exact ⟨h1,ho⟩
     ·cases hl
    clear hw' hg h1 ho
    exact aa<|aM (m:=2) [2,3,4,5] kr<|Cc rfl ent264 (fun w' hC hG=>o9 x _ w' hG (aO (n:=33) rfl w' hC))<|Mv rfl<|Ext rfl rfl<|Ext rfl rfl<|aa<|aM (m:=1) [8] kr<|Sa 5 hGF rfl rfl rfl aH<|aa<|aM (m:=0) [9] kr<|Sa 6 hGF rfl rfl rfl aH<|aa<|dd kr<|aR<|⟨rfl,(b5,b6),_,rfl,trv,trv⟩
 ·rintro ⟨b5,b6⟩
  dsimp only
  refine rM (ι:=Nat×Nat) (fun z=>[(2,pnt b2),(3,pnt b3),(4,pnt b4),(5,pnt b5),(6,pnt b6),(7,pnt z.1),(8,pnt z.2)]) (fun z=>[(2,b2,(fe (x).1++fe (x).2).map U64,92),(3,b3,(fe (y).1++fe (y).2).map U64,92),(4,b4,(GL cI).map U64,94),(5,b5,(fe (R2.pev iXN x).1++fe (R2.pev iXN x).2).map U64,92),(6,b6,(fe (R2.pev iXD x).1++fe (R2.pev iXD x).2).map U64,92),(7,z.1,(fe (R2.pev iYN x).1++fe (R2.pev iYN x).2).map U64,92),(8,z.2,(fe (R2.pev iYD x).1++fe (R2.pev iYD x).2).map U64,92)]) hGF ?_ ?_
  ·refine pU (EE [266,2000266,2999999]) dC kr kr<|aM (m:=9) [0] kr<|La 2 rfl rfl aH<|aa<|fc (m:=8) [1,6,7] kr kr dc<|?_
   intro i hi
   simp only[List.mem_cons,List.not_mem_nil,or_false]at hi
   rcases hi with rfl|rfl|rfl
   ·refine bI rfl rfl ent266 rfl rfl (fun w' hw'=>(iM w' (hGF.g _ _ _ hw')).mono fun e' w'' h=> ?_)
    obtain ⟨c1,rfl,hg,h1,ho⟩:=h
    refine ⟨_,_,rfl,au hGF,hw'.news ak hg [(33,c1,(RW 24 (R24 oY uY) 4).map U64,322)] ?_ bN,bJ ak rfl, ?_⟩
    ·intro n' b' c' t' hl
     rcases aC hl with ⟨_,e⟩|⟨_,hl⟩
     ·cases e;exact ⟨h1,ho⟩
     ·cases hl
    clear hw' hg h1 ho
    refine aa<|aM (m:=4) [2,3,4,5] kr<|Cc rfl ent264 (fun w' hC hG=>pS x _ w' hG (aO (n:=33) rfl w' hC))<|Mv rfl<|Ext rfl rfl<|Ext rfl rfl<|aa<|fc (m:=3) [6,7] kr kr dc<|?_
    intro i hi
    simp only[List.mem_cons,List.not_mem_nil,or_false]at hi
    rcases hi with rfl|rfl
    ·exact bH 7 hGF zv92 rfl rfl rfl<|fun b7=>aa<|aM (m:=2) [7] kr<|bH 8 hGF zv92 rfl rfl rfl<|fun b8=>aa<|aM (m:=1) [8] kr<|Sa 7 hGF rfl rfl rfl aH<|aa<|aM (m:=0) [9] kr<|Sa 8 hGF rfl rfl rfl aH<|aa<|dd kr<|aR<|⟨rfl,(b7,b8),_,rfl,trv,trv⟩
    ·exact bH 8 hGF zv92 rfl rfl rfl<|fun b8=>aa<|aM (m:=2) [6] kr<|bH 7 hGF zv92 rfl rfl rfl<|fun b7=>aa<|aM (m:=1) [8] kr<|Sa 7 hGF rfl rfl rfl aH<|aa<|aM (m:=0) [9] kr<|Sa 8 hGF rfl rfl rfl aH<|aa<|dd kr<|aR<|⟨rfl,(b7,b8),_,rfl,trv,trv⟩
   ·refine bH 7 hGF zv92 rfl rfl rfl<|fun b7=>aa<|fc (m:=7) [1,7] kr kr dc<|?_
    intro i hi
    simp only[List.mem_cons,List.not_mem_nil,or_false]at hi
    rcases hi with rfl|rfl
    ·refine bI rfl rfl ent266 rfl rfl (fun w' hw'=>(iM w' (hGF.g _ _ _ hw')).mono fun e' w'' h=> ?_)
     obtain ⟨c1,rfl,hg,h1,ho⟩:=h
     refine ⟨_,_,rfl,au hGF,hw'.news ak hg [(33,c1,(RW 24 (R24 oY uY) 4).map U64,322)] ?_ bN,bJ ak rfl, ?_⟩
     ·intro n' b' c' t' hl
      rcases aC hl with ⟨_,e⟩|⟨_,hl⟩
      ·cases e;exact ⟨h1,ho⟩
      ·cases hl
     clear hw' hg h1 ho
     exact aa<|aM (m:=3) [2,3,4,5] kr<|Cc rfl ent264 (fun w' hC hG=>pS x _ w' hG (aO (n:=33) rfl w' hC))<|Mv rfl<|Ext rfl rfl<|Ext rfl rfl<|aa<|aM (m:=2) [7] kr<|bH 8 hGF zv92 rfl rfl rfl<|fun b8=>aa<|aM (m:=1) [8] kr<|Sa 7 hGF rfl rfl rfl aH<|aa<|aM (m:=0) [9] kr<|Sa 8 hGF rfl rfl rfl aH<|aa<|dd kr<|aR<|⟨rfl,(b7,b8),_,rfl,trv,trv⟩
    ·refine bH 8 hGF zv92 rfl rfl rfl<|fun b8=>aa<|aM (m:=6) [1] kr<|?_
     refine bI rfl rfl ent266 rfl rfl (fun w' hw'=>(iM w' (hGF.g _ _ _ hw')).mono fun e' w'' h=> ?_)
     obtain ⟨c1,rfl,hg,h1,ho⟩:=h
     refine ⟨_,_,rfl,au hGF,hw'.news ak hg [(33,c1,(RW 24 (R24 oY uY) 4).map U64,322)] ?_ bN,bJ ak rfl, ?_⟩
     ·intro n' b' c' t' hl
      rcases aC hl with ⟨_,e⟩|⟨_,hl⟩
      ·cases e;exact ⟨h1,ho⟩
      ·cases hl
     clear hw' hg h1 ho
     exact aa<|aM (m:=2) [2,3,4,5] kr<|Cc rfl ent264 (fun w' hC hG=>pS x _ w' hG (aO (n:=33) rfl w' hC))<|Mv rfl<|Ext rfl rfl<|Ext rfl rfl<|aa<|aM (m:=1) [8] kr<|Sa 7 hGF rfl rfl rfl aH<|aa<|aM (m:=0) [9] kr<|Sa 8 hGF rfl rfl rfl aH<|aa<|dd kr<|aR<|⟨rfl,(b7,b8),_,rfl,trv,trv⟩
   ·refine bH 8 hGF zv92 rfl rfl rfl<|fun b8=>aa<|fc (m:=7) [1,6] kr kr dc<|?_
    intro i hi
    simp only[List.mem_cons,List.not_mem_nil,or_false]at hi
    rcases hi with rfl|rfl
    ·refine bI rfl rfl ent266 rfl rfl (fun w' hw'=>(iM w' (hGF.g _ _ _ hw')).mono fun e' w'' h=> ?_)
     obtain ⟨c1,rfl,hg,h1,ho⟩:=h
     refine ⟨_,_,rfl,au hGF,hw'.news ak hg [(33,c1,(RW 24 (R24 oY uY) 4).map U64,322)] ?_ bN,bJ ak rfl, ?_⟩
     ·intro n' b' c' t' hl
      rcases aC hl with ⟨_,e⟩|⟨_,hl⟩
      ·cases e;exact ⟨h1,ho⟩
      ·cases hl
     clear hw' hg h1 ho
     exact aa<|aM (m:=3) [2,3,4,5] kr<|Cc rfl ent264 (fun w' hC hG=>pS x _ w' hG (aO (n:=33) rfl w' hC))<|Mv rfl<|Ext rfl rfl<|Ext rfl rfl<|aa<|aM (m:=2) [6] kr<|bH 7 hGF zv92 rfl rfl rfl<|fun b7=>aa<|aM (m:=1) [8] kr<|Sa 7 hGF rfl rfl rfl aH<|aa<|aM (m:=0) [9] kr<|Sa 8 hGF rfl rfl rfl aH<|aa<|dd kr<|aR<|⟨rfl,(b7,b8),_,rfl,trv,trv⟩
    ·refine bH 7 hGF zv92 rfl rfl rfl<|fun b7=>aa<|aM (m:=6) [1] kr<|?_
     refine bI rfl rfl ent266 rfl rfl (fun w' hw'=>(iM w' (hGF.g _ _ _ hw')).mono fun e' w'' h=> ?_)
     obtain ⟨c1,rfl,hg,h1,ho⟩:=h
     refine ⟨_,_,rfl,au hGF,hw'.news ak hg [(33,c1,(RW 24 (R24 oY uY) 4).map U64,322)] ?_ bN,bJ ak rfl, ?_⟩
     ·intro n' b' c' t' hl
      rcases aC hl with ⟨_,e⟩|⟨_,hl⟩
      ·cases e;exact ⟨h1,ho⟩
      ·cases hl
     clear hw' hg h1 ho
     exact aa<|aM (m:=2) [2,3,4,5] kr<|Cc rfl ent264 (fun w' hC hG=>pS x _ w' hG (aO (n:=33) rfl w' hC))<|Mv rfl<|Ext rfl rfl<|Ext rfl rfl<|aa<|aM (m:=1) [8] kr<|Sa 7 hGF rfl rfl rfl aH<|aa<|aM (m:=0) [9] kr<|Sa 8 hGF rfl rfl rfl aH<|aa<|dd kr<|aR<|⟨rfl,(b7,b8),_,rfl,trv,trv⟩
  ·rintro ⟨b7,b8⟩
   dsimp only
   refine Xp<|La 6 rfl rfl aH<|La 8 rfl rfl aH<|Ca rfl (dh _ _)<|Al 9 hGF zv92<|fun b9=>Sa 9 hGF rfl rfl rfl aH<|aa<|ah<|Xp<|La 9 rfl rfl aH<|Cbl false rfl ent197 (uy _) (decide_eq_false (Iv h))<|aa<|aq rfl<|ap<|Xp<|La 9 rfl rfl aH<|Ca rfl (DR _)<|Al 10 hGF zv92<|fun b10=>Sa 10 hGF rfl rfl rfl aH<|aa<|Xa [0,1,2,3,4,5,6,7,8,9,10,11,12,13,14,15] ⟨16,11,94,(GL cI).map U64⟩ [17,18] (bS rfl zv94 rfl)<|La 5 rfl rfl aH<|La 8 rfl rfl aH<|Ca rfl (dh _ _)<|La 10 rfl rfl aH<|Ca rfl (Wj h)<|La 3 rfl rfl aH<|La 7 rfl rfl aH<|Ca rfl (dh _ _)<|La 6 rfl rfl aH<|Ca rfl (dh _ _)<|La 10 rfl rfl aH<|Ca rfl (Vx h)<|Ca rfl (Wf _ _ (mu.1 (vS h)))<|Mv rfl<|Ext rfl rfl<|Ext rfl rfl<|aa<|?_
   refine ⟨_,_,rfl,hGF,by intro x hx;simp only[List.mem_cons,List.not_mem_nil,or_false]at hx;subst hx;rfl,by intro x hx;simp only[List.mem_cons,List.not_mem_nil,or_false]at hx;subst hx;rfl,fun adr7=> ?_⟩
   refine Sa 11 hGF rfl rfl rfl bG<|Asg rfl<|aa<|Xp<|La 11 rfl rfl bG<|Sa 4 hGF rfl rfl rfl bG<|aa<|am<|Rr<|?_
   exact ay 4 rfl rfl rfl isAgg94 sizeOf94 sm (fun w hw=>⟨rfl,ac hw⟩)
theorem pmap{u x r:W2}(h:SwR u x r):PUR 196 [EV2 u] (PtV (Ub x (sgS r u) h.on)):=by
 intro w hw
 refine Hf func196 rfl hw<|fun hGF=>Xp<|Bx 1 hGF rfl<|fun b1=>Al 2 hGF zv94<|fun b2=>aa<|Xp<|La 1 rfl rfl aH<|Ca rfl (pswu h)<|Ext rfl rfl<|Ext rfl rfl<|Ca rfl (piso _ _ h.on)<|Sa 2 hGF rfl rfl rfl bG<|aa<|am<|Rr<|?_
 exact ay 2 rfl rfl rfl isAgg94 sizeOf94 sm (fun w hw=>⟨rfl,ac hw⟩)
end
section
open Go.RowKit
attribute [local simp] aW bd aU aP aD bf aL aK aB PLl cm cq N1l cr cp cu a8 bg aQ a6 bc List.length_append oc
namespace Xm
end Xm
end
section
open Go.RowKit
attribute [local simp] aW bd aU aP aD bf aL aK aB PLl cm cq N1l cr cp cu a8 bg aQ a6 bc List.length_append oc dp
namespace Xm
attribute [local simp] Sh.gv kf oP jI fK i1 Sh.bL kX
def N2(bs:L8)(i:Nat):W2:=(ZB ((bs.drop (128*i)).take 64),ZB ((bs.drop (128*i+64)).take 64))
def N2r(bs:L8)(i:Nat):L6:=fe (N2 bs i).1++fe (N2 bs i).2
theorem N2r_len(bs:L8)(i:Nat):(N2r bs i).length=12:=by rw[N2r,List.length_append,aW,aW]
def At2(w0 w:World)(a:Option Addr)(n:Nat)(f:Nat→L6):Prop:=n=0∨∃b,a=some ⟨b,0,none⟩∧w0.heap.size≤b∧w.rangeAt b 0 ((RW 12 (f) n).map U64)
def FBad(msg dst:L8)(z:Int):Prop:=z<0∨32<z∨255<dst.length∨65536<msg.length
structure RFt(msg dst:L8)(z:Int)(w0 w:World)(v:Value):Prop where
 bad:FBad msg dst z→v=.tuple #[.slice none 0 0,I 130]
 ok: ¬FBad msg dst z→∃a cap,v=.tuple #[.slice a z.toNat cap,I 0]∧At2 w0 w a z.toNat (N2r (E msg dst (128*z.toNat)))
attribute [local simp] N2r_len
end Xm
end
section
open Go.RowKit
attribute [local simp] aW bd aU aP aD bf aL aK aB PLl cm cq N1l cr cp cu a8 bg aQ a6 bc List.length_append oc dp
namespace Xm
attribute [local simp] Sh.gv kf oP jI fK i1 Sh.bL kX
attribute [local simp] N2r_len
theorem gM{w w':World}{b:Nat}{cs:List Value}(h:w.rangeAt b 0 cs)(hg:Grow w w'):w'.rangeAt b 0 cs:=fun j v hv=>(hg.cell (block_lt_of_cell (h j v hv))).trans (h j v hv)
def PFC:Prop:= ∀(a1:Option Addr) (cap1:Nat) (msg:L8) (a2:Option Addr) (cap2:Nat) (dst:L8) (z:Int) (w:World),msg.length≤100000→msg.length≤cap1→dst.length≤100000→dst.length≤cap2→Gt w→BytesAt w a1 msg→BytesAt w a2 dst→CLS 193 [.slice a1 msg.length cap1,.slice a2 dst.length cap2,I z].toArray w (fun e w'=> ∃v,e=.returned v∧Grow w w'∧RFt msg dst z w w' v)
end Xm
end
section
section
variable {γ δ:Type} (G:Ab γ) (H:Ab δ)
theorem Ab.h_ze{f:γ→δ}(hf: ∀a b,f (G.ad a b)=H.ad (f a) (f b)):f G.ze=H.ze:=H.can (a:=f G.ze) (by rw[←hf,G.zl,H.zr])
theorem Ab.h_ng{f:γ→δ}(hf: ∀a b,f (G.ad a b)=H.ad (f a) (f b))(a:γ):f (G.ng a)=H.ng (f a):=H.ng_of (by rw[←hf,G.nr,G.h_ze H hf])
theorem Ab.h_nm{f:γ→δ}(hf: ∀a b,f (G.ad a b)=H.ad (f a) (f b))(a:γ): ∀n,f (G.nm a n)=H.nm (f a) n
 |0=>G.h_ze H hf
 |n+1=>by rw[Ab.nm,hf,Ab.h_nm hf a n,Ab.nm]
end
section
variable {α:Type} [DecidableEq α] {C:Ec α}
theorem Ec.On.is{a:C.On}(h:a≠C.ab.ze): ∃hx:C.on (C.xy a.1),a=⟨some (C.xy a.1),hx⟩:=by
 obtain ⟨P,hP⟩:=a
 cases P with
 |none=>exact absurd rfl h
 |some p=>exact ⟨hP,rfl⟩
theorem Ec.listed{n:Nat}(S:Nat→C.On)(si: ∀i j,i<j→j<n→S i≠S j)(s0: ∀i,i<n→S i≠C.ab.ze): ∃L:List (α×α),L.length=n∧L.Pairwise (·≠ ·)∧∀q,q∈L→∃i,i<n∧∃hq:C.on q,S i=⟨some q,hq⟩:=by
 refine ⟨(List.range n).map fun i=>C.xy (S i).1,sm, ?_,fun q hq=> ?_⟩
 ·rw[List.pairwise_map]
  refine List.Pairwise.imp_of_mem (fun {i j} hi hj hij=> ?_) List.pairwise_lt_range
  intro e
  have hj':=List.mem_range.1 hj
  obtain ⟨_,e1⟩:=Ec.On.is (s0 i om)
  obtain ⟨_,e2⟩:=Ec.On.is (s0 j hj')
  refine si i j hij hj' ?_
  rw[e1,e2]
  exact Subtype.ext (congrArg some e)
 ·obtain ⟨i,hi,rfl⟩:=List.mem_map.1 hq
  have hi':=List.mem_range.1 hi
  obtain ⟨h1,h2⟩:=Ec.On.is (s0 i hi')
  exact ⟨i,hi',h1,h2⟩
theorem Ec.all_same{f g:C.On→C.On}(hf: ∀a b,f (C.ab.ad a b)=C.ab.ad (f a) (f b))(hg: ∀a b,g (C.ab.ad a b)=C.ab.ad (g a) (g b))
 {J:α→α→α×α×α} {m:Nat} (hJ:C.DJ m J) (hV: ∀x y (h:C.on (x,y)),C.V (J x y) (g ⟨some (x,y),h⟩).1)
 {px py:α→α→α} {d:Nat} (hx:C.DW d px) (hy:C.DW d py) (hp: ∀x y (h:C.on (x,y)),(f ⟨some (x,y),h⟩).1=some (px x y,py x y))
 {n:Nat} {T:Nat→C.On} (ti: ∀i j,i<j→j<n→T i≠T j) (t0: ∀i,i<n→T i≠C.ab.ze) (t2: ∀i,i<n→C.ab.ng (T i)≠T i) (ts: ∀i,i<n→f (T i)=g (T i)) (hn:2*(4*m+d+1)≤n)
 {x0 y0:α} (h0:C.on (x0,y0)) (n1:(J x0 y0).2.2≠C.R.zero) (n2:(J x0 (C.R.neg y0)).2.2≠C.R.zero) (a:C.On):f a=g a:=by
 let Fx:α→α→α:=fun x y=>C.R.mul (J x y).2.2 (C.sub (J x y).1 (C.R.mul (px x y) (C.R.mul (J x y).2.2 (J x y).2.2)))
 let Fy:α→α→α:=fun x y=>C.R.mul (J x y).2.2 (C.sub (J x y).2.1 (C.R.mul (py x y) (C.R.mul (C.R.mul (J x y).2.2 (J x y).2.2) (J x y).2.2)))
 have ZZ:=hJ.Z.mul hJ.Z
 have dx:C.DW (4*m+d) Fx:=(hJ.Z.mul ((hJ.X.up (e:=2*m+d) om).sub ((hx.mul ZZ).up om))).up om
 have dy:C.DW (4*m+d) Fy:=(hJ.Z.mul ((hJ.Y.up (e:=3*m+d) om).sub ((hy.mul (ZZ.mul hJ.Z)).up om))).up om
 have key: ∀x y (h:C.on (x,y)),f ⟨some (x,y),h⟩=g ⟨some (x,y),h⟩→Fx x y=C.R.zero∧Fy x y=C.R.zero:=fun x y h e=>by
  rcases hV x y h with hz|hj
  ·constructor
   ·show C.R.mul (J x y).2.2 _=_
    rw[hz,C.R.zero_mul]
   ·show C.R.mul (J x y).2.2 _=_
    rw[hz,C.R.zero_mul]
  ·rw[←e,hp x y h]at hj
   have k1:(J x y).1=C.R.mul (px x y) (C.R.mul (J x y).2.2 (J x y).2.2):=hj.2.1
   have k2:(J x y).2.1=C.R.mul (py x y) (C.R.mul (C.R.mul (J x y).2.2 (J x y).2.2) (J x y).2.2):=hj.2.2
   constructor
   ·show C.R.mul _ (C.sub (J x y).1 _)=_
    rw[←k1,C.sub_self,C.R.mul_zero]
   ·show C.R.mul _ (C.sub (J x y).2.1 _)=_
    rw[←k2,C.sub_self,C.R.mul_zero]
 obtain ⟨L,lL,dL,mL⟩:=Ec.listed T ti t0
 have oL: ∀q,q∈L→C.on q:=fun q hq=>(mL q hq).elim fun _ h=>h.2.elim fun hq _=>hq
 have yL: ∀q,q∈L→q.2≠C.R.zero:=fun q hq e=>by
  obtain ⟨i,hi,hon,hT⟩:=mL q hq
  refine t2 i hi ?_
  rw[hT]
  refine Subtype.ext (congrArg some (Prod.ext rfl ?_))
  show C.R.neg q.2=q.2
  rw[e,C.R.neg_zero]
 have zL: ∀q,q∈L→(Fx q.1 q.2=C.R.zero∧Fy q.1 q.2=C.R.zero)∧(Fx q.1 (C.R.neg q.2)=C.R.zero∧Fy q.1 (C.R.neg q.2)=C.R.zero):=fun q hq=>by
  obtain ⟨i,hi,hon,hT⟩:=mL q hq
  have e:=ts i hi
  have e':f (C.ab.ng (T i))=g (C.ab.ng (T i)):=by rw[C.ab.h_ng C.ab hf,C.ab.h_ng C.ab hg,e]
  rw[hT]at e e'
  exact ⟨key q.1 q.2 hon e,key q.1 (C.R.neg q.2) (C.ng_on hon) e'⟩
 have zx: ∀x y,C.on (x,y)→Fx x y=C.R.zero:=fun x y h=>dx.all om dL oL yL (fun q hq=>⟨(zL q hq).1.1,(zL q hq).2.1⟩) h
 have zy: ∀x y,C.on (x,y)→Fy x y=C.R.zero:=fun x y h=>dy.all om dL oL yL (fun q hq=>⟨(zL q hq).1.2,(zL q hq).2.2⟩) h
 have gen: ∀x y (h:C.on (x,y)),(J x y).2.2≠C.R.zero→f ⟨some (x,y),h⟩=g ⟨some (x,y),h⟩:=fun x y h hz=>by
  refine Subtype.ext ?_
  rw[hp x y h]
  exact (Mw C ((hV x y h).resolve_left hz) hz (C.sub0 ((C.fd.two (zx x y h)).resolve_left hz)) (C.sub0 ((C.fd.two (zy x y h)).resolve_left hz))).symm
 by_cases hex: ∃i,i<n∧C.ab.ad a (T i)=C.ab.ze
 ·obtain ⟨i,hi,e⟩:=hex
  rw[C.ab.comm]at e
  rw[C.ab.ng_of e,C.ab.h_ng C.ab hf,C.ab.h_ng C.ab hg,ts i hi]
 have s0: ∀i,i<n→C.ab.ad a (T i)≠C.ab.ze:=fun i hi e=>hex ⟨i,hi,e⟩
 have si: ∀i j,i<j→j<n→C.ab.ad a (T i)≠C.ab.ad a (T j):=fun i j hij hj e=>ti i j hij hj (C.ab.can e)
 obtain ⟨L',lL',dL',mL'⟩:=Ec.listed (fun i=>C.ab.ad a (T i)) si s0
 by_cases hez: ∃q,q∈L'∧(J q.1 q.2).2.2≠C.R.zero
 ·obtain ⟨q,hq,hz⟩:=hez
  obtain ⟨i,hi,hon,hT⟩:=mL' q hq
  have e:=gen q.1 q.2 hon hz
  have hT:C.ab.ad a (T i)=⟨some (q.1,q.2),hon⟩:=hT
  rw[←hT,hf,hg,ts i hi,C.ab.comm,C.ab.comm (g a)]at e
  exact C.ab.can e
 ·exfalso
  obtain ⟨N,lN,hN⟩:=hJ.Z.norm
  have hz:=C.rootsL (2*m+1) N L' lN om dL' (fun q hq=>(mL' q hq).elim fun _ h=>h.2.elim fun hq _=>hq) (fun q hq=>by
   obtain ⟨i,hi,hon,hT⟩:=mL' q hq
   rw[hN q.1 q.2 hon]
   have e:(J q.1 q.2).2.2=C.R.zero:=Classical.byContradiction fun h=>hez ⟨q,hq,h⟩
   rw[e,C.R.zero_mul]) x0
  rw[hN x0 y0 h0]at hz
  exact (C.fd.two hz).elim n1 n2
end
end
section
/-! ### Sums of so many times two things -/
section
variable {γ:Type} (G:Ab γ)
def Ab.li(a d:γ)(k l:Int):γ:=G.ad (G.zm a k) (G.zm d l)
theorem Ab.li_ad(a d:γ)(k l k' l':Int):G.ad (G.li a d k l) (G.li a d k' l')=G.li a d (k+k') (l+l'):=by
 unfold Ab.li
 rw[G.four,G.zm_add,G.zm_add]
theorem Ab.li_ng(a d:γ)(k l:Int):G.ng (G.li a d k l)=G.li a d (-k) (-l):=by
 unfold Ab.li
 rw[G.ng_ad,G.zm_ng,G.zm_ng]
theorem Ab.li_nm(a d:γ)(k l:Int)(n:Nat):G.nm (G.li a d k l) n=G.li a d (k*n) (l*n):=by
 unfold Ab.li
 rw[G.nm_ad,G.zm_mulN,G.zm_mulN]
theorem Ab.zm_1(a:γ):G.zm a 1=a:=(G.zm_nat a 1).trans (G.zl a)
theorem Ab.zm_0(a:γ):G.zm a 0=G.ze:=G.zm_nat a 0
theorem Ab.li_a(a d:γ):a=G.li a d 1 0:=by unfold Ab.li;rw[G.zm_1,G.zm_0,G.zr]
def Ab.gW(om:γ→γ)(u e:Nat)(a:γ):γ:=G.ad (G.nm (G.ad (G.nm (G.nm (G.ad a (G.ad (om a) (om a))) u) u) (G.ng (G.ad (G.ad a a) (om a)))) e) a
theorem Ab.gW_ad{om:γ→γ}(ho: ∀a b,om (G.ad a b)=G.ad (om a) (om b))(u e:Nat)(a b:γ):G.gW om u e (G.ad a b)=G.ad (G.gW om u e a) (G.gW om u e b):=by
 unfold Ab.gW
 simp only[ho,G.nm_ad,G.nm_ng,G.ng_ad]
 have:Std.Associative G.ad:=⟨G.assoc⟩
 have:Std.Commutative G.ad:=⟨G.comm⟩
 ac_rfl
theorem Ab.li_al(a d:γ)(k l:Int):G.ad a (G.li a d k l)=G.li a d (1+k) (0+l):=by
 have h:=G.li_ad a d 1 0 k l
 rw[←G.li_a]at h
 exact h
theorem Ab.li_ar(a d:γ)(k l:Int):G.ad (G.li a d k l) a=G.li a d (k+1) (l+0):=by
 have h:=G.li_ad a d k l 1 0
 rw[←G.li_a]at h
 exact h
theorem Ab.li_aa(a d:γ):G.ad a a=G.li a d (1+1) (0+0):=by
 have h:=G.li_ad a d 1 0 1 0
 rw[←G.li_a]at h
 exact h
theorem Ab.gW_li{om:γ→γ}{u e:Nat}{a d:γ}{L M:Int}(h:om a=G.li a d L M):G.gW om u e a=G.li a d ((((1+(L+L))*u*u)+ -(1+1+L))*e+1) ((((0+(M+M))*u*u)+ -(0+0+M))*e+0):=by
 unfold Ab.gW
 rw[h,G.li_ad,G.li_al,G.li_nm,G.li_nm,G.li_aa a d,G.li_ad,G.li_ng,G.li_ad,G.li_nm,G.li_ar]
end
/-! ### The same in numbers -/
section
variable {α:Type} (C:Ec α)
def Ec.jf1(c x y:α):α×α×α:=C.jA (x,y,C.R.one) (C.jD (C.jW c (x,y,C.R.one)))
def Ec.jf2(c:α)(lu:List Bool)(x y:α):α×α×α:=C.jx (C.jf1 c x y) lu (C.jf1 c x y)
def Ec.jf3(c:α)(lu:List Bool)(x y:α):α×α×α:=C.jx (C.jf2 c lu x y) lu (C.jf2 c lu x y)
def Ec.jf4(c:α)(lu:List Bool)(x y:α):α×α×α:=C.jA (C.jf3 c lu x y) (C.jN (C.jA (C.jD (x,y,C.R.one)) (C.jW c (x,y,C.R.one))))
def Ec.jf5(c:α)(lu le:List Bool)(x y:α):α×α×α:=C.jA (C.jx (C.jf4 c lu x y) le (C.jf4 c lu x y)) (x,y,C.R.one)
def mW2(lu:List Bool):Nat:=nB (3*(1+4*1)) lu (3*(1+4*1))
def mW4(lu:List Bool):Nat:=3*(nB (mW2 lu) lu (mW2 lu)+3*(4*1+1))
def mW5(lu le:List Bool):Nat:=3*(nB (mW4 lu) le (mW4 lu)+1)
theorem Ec.jf1_D(c:α):C.DJ (3*(1+4*1)) (fun x y=>C.jf1 c x y):=(Ec.DJ.p C).ad ((Ec.DJ.p C).w c).d
theorem Ec.jf2_D(c:α)(lu:List Bool):C.DJ (mW2 lu) (fun x y=>C.jf2 c lu x y):=Ec.DJ.x (C.jf1_D c) lu _ _ (C.jf1_D c)
theorem Ec.jf3_D(c:α)(lu:List Bool):C.DJ (nB (mW2 lu) lu (mW2 lu)) (fun x y=>C.jf3 c lu x y):=Ec.DJ.x (C.jf2_D c lu) lu _ _ (C.jf2_D c lu)
theorem Ec.jf4_D(c:α)(lu:List Bool):C.DJ (mW4 lu) (fun x y=>C.jf4 c lu x y):=(C.jf3_D c lu).ad ((Ec.DJ.p C).d.ad ((Ec.DJ.p C).w c)).n
theorem Ec.jf5_D(c:α)(lu le:List Bool):C.DJ (mW5 lu le) (fun x y=>C.jf5 c lu le x y):=(Ec.DJ.x (C.jf4_D c lu) le _ _ (C.jf4_D c lu)).ad (Ec.DJ.p C)
end
section
variable {α β:Type} {C:Ec α} {D:Ec β} (T:Hw C D)
theorem Hw.jD_f(A:α×α×α):D.jD (T.fj A)=T.fj (C.jD A):=T.jd_f _ _ _
theorem Hw.jA_f(A B:α×α×α):D.jA (T.fj A) (T.fj B)=T.fj (C.jA A B):=T.ja_f _ _ _ _ _ _
theorem Hw.jN_f(A:α×α×α):D.jN (T.fj A)=T.fj (C.jN A):=by
 unfold Ec.jN Hw.fj
 rw[T.fn]
theorem Hw.jW_f(c:α)(A:α×α×α):D.jW (T.f c) (T.fj A)=T.fj (C.jW c A):=by
 unfold Ec.jW Hw.fj
 rw[T.fm]
theorem Hw.jx_f(B:α×α×α): ∀(l:List Bool) (A:α×α×α),D.jx (T.fj B) l (T.fj A)=T.fj (C.jx B l A)
 |[],_=>rfl
 |false::r,A=>by
  show D.jx (T.fj B) r (D.jD (T.fj A))=T.fj (C.jx B r (C.jD A))
  rw[T.jD_f];exact Hw.jx_f B r _
 |true::r,A=>by
  show D.jx (T.fj B) r (D.jA (D.jD (T.fj A)) (T.fj B))=T.fj (C.jx B r (C.jA (C.jD A) B))
  rw[T.jD_f,T.jA_f];exact Hw.jx_f B r _
theorem Hw.jf5_f(c:α)(lu le:List Bool)(x y:α):D.jf5 (T.f c) lu le (T.f x) (T.f y)=T.fj (C.jf5 c lu le x y):=by
 have e0:(T.f x,T.f y,D.R.one)=T.fj (x,y,C.R.one):=by rw[←T.f1];rfl
 unfold Ec.jf5 Ec.jf4 Ec.jf3 Ec.jf2 Ec.jf1
 rw[e0]
 simp only[T.jW_f,T.jD_f,T.jA_f,T.jx_f,T.jN_f]
theorem Hw.jf5_ne(c:α)(lu le:List Bool)(x y:α)(h:(C.jf5 c lu le x y).2.2≠C.R.zero):(D.jf5 (T.f c) lu le (T.f x) (T.f y)).2.2≠D.R.zero:=fun e=>h (T.fi _ (by rw[T.jf5_f]at e;exact e))
def Hw.o(a:{P:Pt α // C.onP P}):{P:Pt β // D.onP P}:=⟨T.p a.1,T.p_on a.2⟩
end
section
variable {α β:Type} [DecidableEq α] [DecidableEq β] {C:Ec α} {D:Ec β}
theorem Hw.o_ad(T:Hw C D)(a b:C.On):T.o (C.ab.ad a b)=D.ab.ad (T.o a) (T.o b):=Subtype.ext (T.p_ad a.2 b.2)
theorem Ec.gW_is(T:Tw C)(u e:Nat){P:Pt α}(hP:C.onP P):(C.ab.gW T.o u e ⟨P,hP⟩).1=C.ad (C.times (C.ad (C.times (C.times (C.ad P (C.ad (T.p P) (T.p P))) u) u) (C.ne (C.ad (C.ad P P) (T.p P)))) e) P:=by
 unfold Ab.gW
 show C.ad (C.ab.nm _ e).1 _=_
 rw[C.ab_nm]
 show C.ad (C.times (C.ad (C.ab.nm _ u).1 _) e) _=_
 rw[C.ab_nm,C.ab_nm]
 rfl
theorem Ec.jf5_V{T:Tw C}{c:α}(hT: ∀q,T.m q=(C.R.mul c q.1,q.2)){lu le:List Bool}{u e:Nat}(hu:bU lu 1=u)(he:bU le 1=e){x y:α}(h:C.on (x,y)):C.V (C.jf5 c lu le x y) (C.ab.gW T.o u e ⟨some (x,y),h⟩).1:=by
 rw[C.gW_is T u e (P:=some (x,y)) h]
 have hP:C.onP (some (x,y)):=h
 have v0:C.V (x,y,C.R.one) (some (x,y)):=.inr (C.jr_here x y)
 have hW:=T.p_on hP
 have vW:=v0.w hT
 have hD:=C.ad_on hW hW
 have v1:C.V (C.jf1 c x y) (C.ad (some (x,y)) (C.ad (T.p (some (x,y))) (T.p (some (x,y))))):=v0.a hP hD (vW.d hW)
 have h1:=C.ad_on hP hD
 have v2:=Ec.V.x h1 v1 lu _ 1 v1
 rw[hu]at v2
 have h2:=C.times_on h1 u
 have v3:=Ec.V.x h2 v2 lu _ 1 v2
 rw[hu]at v3
 have h3:=C.times_on h2 u
 have hE:=C.ad_on (C.ad_on hP hP) hW
 have v4:=v3.a h3 (C.ne_on hE) (((v0.d hP).a (C.ad_on hP hP) hW vW).n)
 have h4:=C.ad_on h3 (C.ne_on hE)
 have v5:=Ec.V.x h4 v4 le _ 1 v4
 rw[he]at v5
 exact v5.a (C.times_on h4 e) hP v0
end
end
section
/-! ### Points of the order r -/
section
variable {α β γ:Type} [DecidableEq α] [DecidableEq β] [DecidableEq γ] {C:Ec α} {B:Ec β} {D:Ec γ} (H:Hw C D) (K:Hw B D)
def Tij(g:C.On)(q:B.On)(r i:Nat):D.On:=D.ab.ad (H.o (C.ab.nm g (i % r))) (K.o (B.ab.nm q (i / r+1)))
theorem rV(g:C.On)(q:B.On)(r i:Nat):(Tij H K g q r i).1=D.ad (H.p (C.times g.1 (i % r))) (K.p (B.times q.1 (i / r+1))):=by
 show D.ad (H.p (C.ab.nm g (i % r)).1) (K.p (B.ab.nm q (i / r+1)).1)=_
 rw[C.ab_nm,B.ab_nm]
structure TD(g:C.On)(q:B.On)(r:Nat):Prop where
 sep: ∀S S',C.onP S→B.onP S'→H.p S=K.p S'→S'=none
 hr: ∀d,0<d→d<r→∃e,(d*e) % r=1
 gr:C.times g.1 r=none
 qr:B.times q.1 r=none
 gn:g.1≠none
 qn:q.1≠none
 r0:0<r
 r2:r % 2=1
variable {H K} {r:Nat} {g:C.On} {q:B.On} (t:TD H K g q r)
theorem Nf(t:TD H K g q r){i j:Nat}(hij:i<j)(hj:j<r*(r-1)):Tij H K g q r i≠Tij H K g q r j:=fun e=>by
 have e:=congrArg Subtype.val e
 rw[rV,rV]at e
 have k:=Ac H K t.sep (C.times_on g.2 _) (C.times_on g.2 _) (B.times_on q.2 _) (B.times_on q.2 _) e
 have hd: ∀i,i<r*(r-1)→i / r<r-1:=fun i hi=>Nat.div_lt_of_lt_mul hi
 have d1:=hd i om
 have d2:=hd j hj
 have k1:=C.times_inj g.2 t.hr t.gr t.gn (Nat.mod_lt i t.r0) (Nat.mod_lt j t.r0) k.1
 have k2:=B.times_inj q.2 t.hr t.qr t.qn (Nat.add_lt_of_lt_sub d1) (Nat.add_lt_of_lt_sub d2) k.2
 have a1:=Nat.div_add_mod i r
 have a2:=Nat.div_add_mod j r
 rw[k1,Nat.add_right_cancel k2]at a1
 omega
theorem Ws(t:TD H K g q r){i:Nat}(hi:i<r*(r-1)):Tij H K g q r i≠D.ab.ze:=fun e=>by
 have e:=congrArg Subtype.val e
 rw[rV]at e
 have d1:i / r<r-1:=Nat.div_lt_of_lt_mul hi
 have hS:=C.times_on g.2 (i % r)
 have hV:=B.times_on q.2 (i / r+1)
 have e1:=D.opp_of (H.p_on hS) (K.p_on hV) e
 rw[←H.p_ne]at e1
 exact B.cyc_no q.2 t.hr t.qr t.qn (d:=i / r+1) (Nat.succ_pos _) (Nat.add_lt_of_lt_sub d1) (t.sep _ _ (C.ne_on hS) hV e1.symm)
theorem VB(t:TD H K g q r){i:Nat}(hi:i<r*(r-1)):D.ab.ng (Tij H K g q r i)≠Tij H K g q r i:=fun e=>by
 have e:D.ne (Tij H K g q r i).1=(Tij H K g q r i).1:=congrArg Subtype.val e
 rw[rV]at e
 have d1:i / r<r-1:=Nat.div_lt_of_lt_mul hi
 have hS:=C.times_on g.2 (i % r)
 have hV:=B.times_on q.2 (i / r+1)
 rw[D.ne_ad (H.p_on hS) (K.p_on hV),←H.p_ne,←K.p_ne]at e
 have k:=(Ac H K t.sep (C.ne_on hS) hS (B.ne_on hV) hV e).2
 have z:B.times q.1 (i / r+1+(i / r+1))=none:=by
  rw[B.times_add q.2]
  conv=>lhs;lhs;rw[←k]
  exact B.ne_ad_self _
 have hr2:=t.r2
 have hk1:i / r+1<r:=Nat.add_lt_of_lt_sub d1
 have hk0:0<i / r+1:=Nat.succ_pos _
 clear k e d1
 generalize i / r+1=k at*
 rcases Nat.lt_trichotomy (k+k) r with h|h|h
 ·exact B.cyc_no q.2 t.hr t.qr t.qn (d:=k+k) om h z
 ·omega
 ·have e2:B.times q.1 (r+(k+k-r))=none:=by rw[show r+(k+k-r)=k+k by omega];exact z
  rw[B.times_add q.2,t.qr]at e2
  exact B.cyc_no q.2 t.hr t.qr t.qn (d:=k+k-r) om om e2
theorem R5{f f':D.On→D.On}(hf: ∀a b,f (D.ab.ad a b)=D.ab.ad (f a) (f b))(hf': ∀a b,f' (D.ab.ad a b)=D.ab.ad (f' a) (f' b))(h1:f (H.o g)=f' (H.o g))(h2:f (K.o q)=f' (K.o q))(i:Nat):f (Tij H K g q r i)=f' (Tij H K g q r i):=by
 unfold Tij
 rw[C.ab.h_nm D.ab H.o_ad,B.ab.h_nm D.ab K.o_ad,hf,hf',D.ab.h_nm D.ab hf,D.ab.h_nm D.ab hf,D.ab.h_nm D.ab hf',D.ab.h_nm D.ab hf',h1,h2]
end
/-! ### A third root of 1 over p^12 -/
def C3:W12:=em (re2 (zp TRN))
theorem C3_4:K12.mul (K12.mul C3 C3) (K12.mul C3 C3)=C3:=by decide+kernel
theorem C3_6:K12.mul (K12.mul C3 C3) (K12.mul (K12.mul C3 C3) (K12.mul C3 C3))=K12.one:=by decide+kernel
theorem C3_3:K12.mul C3 (K12.mul C3 C3)=K12.one:=by decide+kernel
theorem Vn:K12.mul C3 C3=em TR2:=by decide+kernel
def OM3:Tw E12 where
 f:=fun a=>a
 w:=K12.mul C3 C3
 fa:=fun _ _=>rfl
 fm:=fun _ _=>rfl
 fn:=fun _=>rfl
 f0:=rfl
 fi:=fun _ h=>h
 wn:=by decide+kernel
 wb:=by decide+kernel
theorem wc(q:W12×W12):OM3.m q=(K12.mul C3 q.1,q.2):=by
 refine Prod.ext ?_ ?_
 ·show K12.mul (K12.mul (K12.mul C3 C3) (K12.mul C3 C3)) q.1=K12.mul C3 q.1
  rw[C3_4]
 ·show K12.mul (K12.mul (K12.mul C3 C3) (K12.mul (K12.mul C3 C3) (K12.mul C3 C3))) q.2=q.2
  rw[C3_6,K12.one_mul]
theorem U3(S:Pt Zp):OM3.p (HB.p S)=HB.p (TW1.p S):=by
 cases S with
 |none=>rfl
 |some q=>
  refine congrArg some ?_
  rw[wc,u1]
  refine Prod.ext ?_ rfl
  show K12.mul C3 (K12.mul (K12.mul WW WW) (em (re2 q.1)))=K12.mul (K12.mul WW WW) (em (re2 (zp TRN*q.1)))
  rw[Au,←dX]
  exact K12.mul_left_comm _ _ _
theorem Ww(S:Pt W2):OM3.p (OM3.p (HE.p S))=HE.p (E2w.ne (TW2.p (TW2.p S))):=by
 cases S with
 |none=>rfl
 |some s=>
  have e:E2w.ne (TW2.p (TW2.p (some s)))=some (ml2 TR2 s.1,s.2):=by
   show some (E2w.ng (TW2.m (TW2.m s)))=_
   rw[K8]
   exact congrArg some (Prod.ext rfl (R2.neg_neg s.2))
  rw[e]
  refine congrArg some ?_
  rw[vV,vV,wc,wc]
  refine Prod.ext ?_ rfl
  show K12.mul C3 (K12.mul C3 (em s.1))=em (ml2 TR2 s.1)
  rw[←K12.mul_assoc,Vn,dX]
theorem OM_3(P:Pt W12):OM3.p (OM3.p (OM3.p P))=P:=by
 cases P with
 |none=>rfl
 |some q=>
  refine congrArg some ?_
  rw[wc,wc,wc]
  refine Prod.ext ?_ rfl
  show K12.mul C3 (K12.mul C3 (K12.mul C3 q.1))=q.1
  rw[←K12.mul_assoc,←K12.mul_assoc,K12.mul_assoc C3,C3_3,K12.one_mul]
/-! ### The second curve, turned -/
def TN2:E2w.ab.Tn where
 f:=TW2.o
 fa:=TW2.o_ad
 f4:=fun a=>by
  have h:E2w.ab.ad (E2w.ab.ad a (E2w.ab.ng (TW2.o (TW2.o a)))) (TW2.o (TW2.o (TW2.o (TW2.o a))))=E2w.ab.ze:=Subtype.ext (ue a.2)
  rw[E2w.ab.ng_of h,E2w.ab.ng_ad,E2w.ab.ng_ng,E2w.ab.comm]
theorem Ks(s:E2w.On):OM3.o (HE.o s)=HE.o (E2w.ab.ad (TW2.o (TW2.o s)) (E2w.ab.ng s)):=by
 have two: ∀s:E2w.On,OM3.o (OM3.o (HE.o s))=HE.o (E2w.ab.ng (TW2.o (TW2.o s))):=fun s=>Subtype.ext (Ww s.1)
 have three: ∀a:E12.On,OM3.o (OM3.o (OM3.o a))=a:=fun a=>Subtype.ext (OM_3 a.1)
 have h4:TW2.o (TW2.o (TW2.o (TW2.o s)))=E2w.ab.ad (TW2.o (TW2.o s)) (E2w.ab.ng s):=TN2.f4 s
 have fn: ∀s,TW2.o (E2w.ab.ng s)=E2w.ab.ng (TW2.o s):=TN2.fn
 rw[←three (OM3.o (HE.o s)),two s,two,fn,fn,E2w.ab.ng_ng,h4]
def g1o:E1.On:=⟨some G1p,gj⟩
def g2o:E2w.On:=⟨some G2p,i8⟩
theorem Wv{u:Nat}(h:E1.ne (E1.times (E1.times (some G1p) u) u)=TW1.p (some G1p)):OM3.o (HB.o g1o)=E12.ab.li (HB.o g1o) (HB.o g1o) (-((u*u:Nat):Int)) 0:=by
 have e1:OM3.o (HB.o g1o)=HB.o (TW1.o g1o):=Subtype.ext (U3 (some G1p))
 have e2:TW1.o g1o=E1.ab.ng (E1.ab.nm g1o (u*u)):=by
  refine Subtype.ext ?_
  show TW1.p (some G1p)=E1.ne (E1.ab.nm g1o (u*u)).1
  rw[←h,E1.ab_nm,E1.times_mul g1o.2];rfl
 rw[e1,e2,E1.ab.h_ng E12.ab HB.o_ad,E1.ab.h_nm E12.ab HB.o_ad,Ab.li,E12.ab.zm_ng,E12.ab.zm_nat,E12.ab.zm_0,E12.ab.zr]
theorem Km{u:Nat}(h:E2w.ne (E2w.times (some G2p) u)=TW2.p (some G2p)):TW2.o g2o=E2w.ab.ng (E2w.ab.nm g2o u):=by
 refine Subtype.ext ?_
 show TW2.p (some G2p)=E2w.ne (E2w.ab.nm g2o u).1
 rw[←h,E2w.ab_nm];rfl
theorem Vk{u:Nat}(h:E2w.ne (E2w.times (some G2p) u)=TW2.p (some G2p)):OM3.o (HE.o g2o)=E12.ab.li (HE.o g2o) (HE.o g2o) ((u*u:Nat)+ -1) 0:=by
 have e:=Km h
 have fn: ∀s,TW2.o (E2w.ab.ng s)=E2w.ab.ng (TW2.o s):=TN2.fn
 have fm: ∀s n,TW2.o (E2w.ab.nm s n)=E2w.ab.nm (TW2.o s) n:=TN2.fm
 rw[Ks,e,fn,fm,e,E2w.ab.nm_ng,E2w.ab.ng_ng,←E2w.ab.nm_mul,HE.o_ad,E2w.ab.h_nm E12.ab HE.o_ad,E2w.ab.h_ng E12.ab HE.o_ad,Ab.li,E12.ab.zm_add,E12.ab.zm_nat,E12.ab.zm_ng,E12.ab.zm_1,E12.ab.zm_0,E12.ab.zr]
end
section
theorem Ab.h_zm{γ δ:Type}(G:Ab γ)(H:Ab δ){f:γ→δ}(hf: ∀a b,f (G.ad a b)=H.ad (f a) (f b))(a:γ)(n:Int):f (G.zm a n)=H.zm (f a) n:=by
 rw[Ab.zm,hf,G.h_ng H hf,G.h_nm H hf,G.h_nm H hf];rfl
theorem o_px:E12.DW (2*PP) (fun x _=>K12.mul (K12.mul (em PW) (em PW)) (bP x)):=by
 have k:=(((Ec.DW.x E12).pw PP).sm (K12.mul (em PW) (em PW))).up (e:=2*PP) (Nat.mul_le_mul_right PP dc)
 have e:(fun x y=>E12.R.mul (K12.mul (em PW) (em PW)) (E12.R.pw x PP):W12→W12→W12)=fun x _=>K12.mul (K12.mul (em PW) (em PW)) (bP x):=funext fun x=>funext fun _=>congrArg (K12.mul (K12.mul (em PW) (em PW))) (fb x)
 rw[e]at k
 exact k
theorem o_py:E12.DW (2*PP) (fun _ y=>K12.mul (K12.mul (em PW) (K12.mul (em PW) (em PW))) (bP y)):=by
 have k:=((Ec.DW.y E12).pw PP).sm (K12.mul (em PW) (K12.mul (em PW) (em PW)))
 have e:(fun x y=>E12.R.mul (K12.mul (em PW) (K12.mul (em PW) (em PW))) (E12.R.pw y PP):W12→W12→W12)=fun _ y=>K12.mul (K12.mul (em PW) (K12.mul (em PW) (em PW))) (bP y):=funext fun _=>funext fun y=>congrArg (K12.mul (K12.mul (em PW) (K12.mul (em PW) (em PW)))) (fb y)
 rw[e]at k
 exact k
theorem Ar{γ:Type}(G:Ab γ){a:γ}{r:Nat}(h:G.nm a r=G.ze){m n k:Int}(e:m=n+k*r)(l:Int)(hl:l=0):G.li a a m l=G.zm a n:=by
 rw[Ab.li,hl,G.zm_0,G.zr,G.zm_mod h k e]
theorem Jg{u e r:Nat}{lu le:List Bool}(hu:bU lu 1=u)(he:bU le 1=e)(t:TD HE HB g2o g1o r)(t1:E1.ne (E1.times (E1.times (some G1p) u) u)=TW1.p (some G1p))(t2:E2w.ne (E2w.times (some G2p) u)=TW2.p (some G2p)){k1 k2:Int}
 (N1:(((1+(-((u*u:Nat):Int)+ -((u*u:Nat):Int)))*u*u)+ -(1+1+ -((u*u:Nat):Int)))*e+1=1+k1*r)
 (N2:(((1+(((u*u:Nat):Int)+ -1+(((u*u:Nat):Int)+ -1)))*u*u)+ -(1+1+(((u*u:Nat):Int)+ -1)))*e+1= -(u:Int)+k2*r)
 (hn:2*(4*mW5 lu le+2*PP+1)≤r*(r-1)) (n1:(E2w.jf5 (re2 (zp TRN)) lu le AX AY).2.2≠ze2) (n2:(E2w.jf5 (re2 (zp TRN)) lu le AX (ng2 AY)).2.2≠ze2) (a:E12.On):TW12.o a=E12.ab.gW OM3.o u e a:=by
 have z0:(((0+((0:Int)+0))*u*u)+ -(0+0+0))*e+0=0:=sm
 have r1:E12.ab.nm (HB.o g1o) r=E12.ab.ze:=by
  rw[←E1.ab.h_nm E12.ab HB.o_ad,show E1.ab.nm g1o r=E1.ab.ze from Subtype.ext (by rw[E1.ab_nm];exact t.qr)];rfl
 have r2:E12.ab.nm (HE.o g2o) r=E12.ab.ze:=by
  rw[←E2w.ab.h_nm E12.ab HE.o_ad,show E2w.ab.nm g2o r=E2w.ab.ze from Subtype.ext (by rw[E2w.ab_nm];exact t.gr)];rfl
 have s1:TW12.o (HB.o g1o)=E12.ab.gW OM3.o u e (HB.o g1o):=by
  rw[E12.ab.gW_li (Wv t1),Ar E12.ab r1 N1 _ z0,E12.ab.zm_1]
  exact Subtype.ext (yo (some G1p))
 have s2:TW12.o (HE.o g2o)=E12.ab.gW OM3.o u e (HE.o g2o):=by
  rw[E12.ab.gW_li (Vk t2),Ar E12.ab r2 N2 _ z0,E12.ab.zm_ng,E12.ab.zm_nat,←E2w.ab.h_nm E12.ab HE.o_ad,←E2w.ab.h_ng E12.ab HE.o_ad,←Km t2]
  exact Subtype.ext (rl (some G2p))
 have m1:=HE.jf5_ne (re2 (zp TRN)) lu le AX AY n1
 have m2:=HE.jf5_ne (re2 (zp TRN)) lu le AX (ng2 AY) n2
 have en:HE.f (ng2 AY)=E12.R.neg (em AY):=rZ AY
 rw[en]at m2
 exact Ec.all_same TW12.o_ad (E12.ab.gW_ad OM3.o_ad u e) (E12.jf5_D C3 lu le) (fun x y h=>Ec.jf5_V wc hu he h) o_px o_py (fun _ _ _=>rfl) (T:=Tij HE HB g2o g1o r) (fun _ _=>Nf t) (fun _=>Ws t) (fun _=>VB t) (fun i _=>R5 TW12.o_ad (E12.ab.gW_ad OM3.o_ad u e) s2 s1 i) hn CK m1 m2 a
def rho(u e:Nat):Q4:=((((1+(-1+ -1))*u*u)+ -(1+1+ -1))*e+1,-1,(((0+(1+1))*u*u)+ -(0+0+1))*e+0,0)
theorem HS{u e:Nat}(h: ∀a:E12.On,TW12.o a=E12.ab.gW OM3.o u e a)(s:E2w.On):TN2.act (rho u e) s=E2w.ab.ze:=by
 have o1:OM3.o (HE.o s)=E12.ab.li (HE.o s) (HE.o (TW2.o (TW2.o s))) (-1) 1:=by
  rw[Ks,HE.o_ad,E2w.ab.h_ng E12.ab HE.o_ad,Ab.li,E12.ab.zm_ng,E12.ab.zm_1,E12.ab.zm_1,E12.ab.comm]
 have o2:HE.o (TW2.o s)=E12.ab.gW OM3.o u e (HE.o s):=by
  rw[←h]
  exact (Subtype.ext (rl s.1)).symm
 rw[E12.ab.gW_li o1]at o2
 have key:HE.o (TN2.act (rho u e) s)=E12.ab.ze:=by
  unfold Ab.Tn.act rho
  dsimp only
  generalize (((1+(-1+ -1))*(u:Int)*u)+ -(1+1+ -1))*e+1=N at*
  generalize (((0+(1+1))*(u:Int)*u)+ -(0+0+1))*e+0=M at*
  rw[HE.o_ad,HE.o_ad,HE.o_ad,E2w.ab.h_zm E12.ab HE.o_ad,E2w.ab.h_zm E12.ab HE.o_ad,E2w.ab.h_zm E12.ab HE.o_ad,E2w.ab.h_zm E12.ab HE.o_ad,E12.ab.zm_0,E12.ab.zr,E12.ab.zm_ng,E12.ab.zm_1]
  show E12.ab.ad (E12.ab.ad _ (E12.ab.ng (HE.o (TW2.o s)))) (E12.ab.zm (HE.o (TW2.o (TW2.o s))) M)=_
  rw[o2,Ab.li,E12.ab.assoc,E12.ab.comm (E12.ab.ng _),←E12.ab.assoc,E12.ab.nr]
 exact Subtype.ext (HE.p_none (congrArg Subtype.val key))
/-! ### The numbers -/
def EU:Nat:=(UG+1) / 3
def lU:List Bool:=(dZ 64 UG []).tail
def lE:List Bool:=(dZ 63 EU []).tail
theorem lU_n:bU lU 1=UG:=by decide+kernel
theorem lE_n:bU lE 1=EU:=by decide+kernel
theorem S6:2*(4*mW5 lU lE+2*PP+1)≤ORD*(ORD-1):=by decide+kernel
theorem UE_1:(((1+(-((UG*UG:Nat):Int)+ -((UG*UG:Nat):Int)))*UG*UG)+ -(1+1+ -((UG*UG:Nat):Int)))*EU+1=1+(-2*(EU:Int))*ORD:=by decide+kernel
theorem UE_2:(((1+(((UG*UG:Nat):Int)+ -1+(((UG*UG:Nat):Int)+ -1)))*UG*UG)+ -(1+1+(((UG*UG:Nat):Int)+ -1)))*EU+1= -(UG:Int)+(2*(EU:Int))*ORD:=by decide+kernel
theorem A_j1:(E2w.jf5 (re2 (zp TRN)) lU lE AX AY).2.2≠ze2:=by decide+kernel
theorem A_j2:(E2w.jf5 (re2 (zp TRN)) lU lE AX (ng2 AY)).2.2≠ze2:=by decide+kernel
theorem g_td:TD HE HB g2o g1o ORD where
 sep:=Ky
 hr:=fun _ h0 h1=>qh m5 h0 h1
 gr:=iZ
 qr:=iL
 gn:=LJ
 qn:=Gj
 r0:=by decide+kernel
 r2:=by decide+kernel
theorem DP(s:E2w.On):TN2.act (rho UG EU) s=E2w.ab.ze:=HS (Jg lU_n lE_n g_td (by rw[Ko]) (by rw[Kk]) UE_1 UE_2 S6 A_j1 A_j2) s
end
section
def HEF:Nat:=0xbc69f08f2ee75b3584c6a0ea91b352888e2a8e9145ad7689986ff031508ffe1329c2f178731db956d82bf015d1212b02ec0ec69d7477c1ae954cbc06689f6a359894c0adebbf6b4e8020005aaa95551
def gCR:Q4:=(3175829495326079093223974707421713920929943713226963548300320552577044122385062918806753210708010195697222845942564328869099989319341598650296202088398645760395354361788887860685712333010521923740843833774331222,-2749521005381415097445601975610628764608838291071271597781440591441299419767669058301640939377508500417419161008431142969189977575372134321247729372495869,-6351658990652158186447949414843427841901494212740239422985378386944926357135145186773538712190292049236902325813389887900305724281946913697173908505664764391934386717058131074714202240959035786517553541389331117,24014457331330004357332821391498562889222829239326244857160378356394428128870661260283833621775616097469146203160572)
theorem Qm:((((HEF*ORD:Nat):Int),0,0,0):Q4)=Q4.add (0,0,0,0) (gCR.mul (rho UG EU)):=by decide+kernel
theorem G1(s:E2w.On):TN2.act (0,0,0,0) s=E2w.ab.ze:=TN2.act_nm 0 s
theorem Ij{P:Pt W2}(hP:E2w.onP P):E2w.times (E2w.times P HEF) ORD=none:=by
 have h:=TN2.act_same DP Qm ⟨P,hP⟩
 rw[G1,TN2.act_nm]at h
 have k:=congrArg Subtype.val h
 rw[E2w.ab_nm,E2w.times_mul hP]at k
 exact k
end
section
theorem ov{a x y:W2}(ha:a≠ze2)(h:ml2 a x=ml2 a y):x=y:=by
 have e:=cQ ha
 generalize iv2 a=s at*
 exact zl R2 [a,s,x,y] 0x8 0x44575695382592 0x9 0x445756853856759567 (lca (lca (lcm h) (lcm e)) (lcm e))
theorem RH{n s:Zp}(h:s*s= -n)(hn:n≠0): ¬IsQ n:=by
 rcases lZ (a:=n) (b:= -n) (c:=n) (by grind) hn with k|k
 ·exact absurd (pn h) k.2
 ·exact k.1
theorem Mf{u X:W2}(h:tu2 u≠ze2)(e:ml2 (ml2 OA X) (tu2 u)=ml2 (ng2 OB) (ad2 (tu2 u) on2)):x1O u=X:=by
 have k:=(KJ h).trans e.symm
 have sw: ∀a x t:W2,ml2 (ml2 a x) t=ml2 (ml2 a t) x:=fun a x t=>zx R2 [a,x,t] 0x55678 0x55687
 rw[sw,sw OA X]at k
 exact ov (fun q=>(fA q).elim yr h) k
theorem OK{u X R x r:W2}(h:tu2 u≠ze2)(e:ml2 (ml2 OA X) (tu2 u)=ml2 (ng2 OB) (ad2 (tu2 u) on2))(hr:ml2 R R=gO X)(hl:LG2 R=false)(s:SwR u x r):x=X∧r=R:=by
 have k:=Mf h e
 have hx:x=X:=s.at1.elim (fun q=>q.trans k) (fun q=>absurd ((iS _).1 ⟨R,hr⟩) (k▸q.1))
 exact ⟨hx,kI hr hl (hx▸s.sq) s.lg⟩
theorem N6{u X X' R x r:W2}{q:Zp}(h:tu2 u≠ze2)(e:ml2 (ml2 OA X) (tu2 u)=ml2 (ng2 OB) (ad2 (tu2 u) on2))(hn:q*q= -(nm2 (gO X)))(h0:nm2 (gO X)≠0)(hx':ml2 (zu2 u) X=X')(hr:ml2 R R=gO X')(hl:LG2 R=false)(s:SwR u x r):x=X'∧r=R:=by
 have k:=Mf h e
 have hx:x=X':=s.at1.elim (fun j=>absurd (lH (j.trans k▸s.sq)) (RH hn h0)) (fun j=>by rw[j.2,k];exact hx')
 exact ⟨hx,kI hr hl (hx▸s.sq) s.lg⟩
theorem Mx{x X:W2}(h:R2.pev iXD x≠ze2)(e:ml2 (R2.pev iXD x) X=R2.pev iXN x):XIs x=X:=by
 refine ov h (Eq.trans ?_ e.symm)
 have k:=cQ h
 unfold XIs
 generalize R2.pev iXD x=d at*
 generalize R2.pev iXN x=n at*
 generalize iv2 d=s at*
 exact zk R2 [d,n,s] 0x56578 0x7 0x7 0x2 0x568 k
theorem KF{x y Y:W2}(h:R2.pev iYD x≠ze2)(e:ml2 (R2.pev iYD x) Y=ml2 y (R2.pev iYN x)):YIs x y=Y:=by
 refine ov h (Eq.trans ?_ e.symm)
 have k:=cQ h
 unfold YIs
 generalize R2.pev iYD x=d at*
 generalize ml2 y (R2.pev iYN x)=n at*
 generalize iv2 d=s at*
 exact zk R2 [d,n,s] 0x56578 0x7 0x7 0x2 0x568 k
def okL(L:W6)(X:W2):Bool:= !decide (L.2.2=ze2) && decide (ml2 (ml2 L.2.2 L.2.2) X=L.1)
theorem Eu{P Q:Pt W2}{J K:W6}{X:W2}{m:Nat}(hP:E2w.onP P)(hQ:E2w.onP Q)(hJ:E2w.jr J P)(hK:E2w.jr K Q){l:List Bool}(hm:ld l 0=m)(hL:okL (E2w.jm (E2w.jaF J K) l (ze2,ze2,ze2)) X=true): ∃y,E2w.times (E2w.ad P Q) m=some (X,y):=by
 subst hm
 have h:=Ec.jr_m (C:=E2w) (E2w.ad_on hP hQ) (E2w.jr_a hP hQ hJ hK) l (ze2,ze2,ze2) 0 rfl
 generalize E2w.jm (E2w.jaF J K) l (ze2,ze2,ze2)=L at*
 simp only[okL,Bool.and_eq_true,Bool.not_eq_true',decide_eq_true_eq,decide_eq_false_iff_not]at hL
 obtain ⟨hz,hX⟩:=hL
 cases e:E2w.times (E2w.ad P Q) (ld l 0)with
 |none=>rw[e]at h;exact absurd h hz
 |some q=>
  rw[e]at h
  have k:L.1=ml2 q.1 (ml2 L.2.2 L.2.2):=h.2.1
  refine ⟨q.2,congrArg some (Prod.ext (ov (a:=ml2 L.2.2 L.2.2) (fun j=>(fA j).elim hz hz) ?_) rfl)⟩
  rw[hX,k];exact R2.mul_comm _ _
theorem Ha:ld (dZ 636 HEF []) 0=HEF:=by decide+kernel
end
section
open J2
open Go.RowKit
attribute [local simp] aW bd aU aP aD bf aL aK aB PLl cm cq N1l cr cp cu a8 bg aQ a6 bc bj dp gu Xm.N2r_len
def HBs:L8:=[11#8,198#8,159#8,8#8,242#8,238#8,117#8,179#8,88#8,76#8,106#8,14#8,169#8,27#8,53#8,40#8,136#8,226#8,168#8,233#8,20#8,90#8,215#8,104#8,153#8,134#8,255#8,3#8,21#8,8#8,255#8,225#8,50#8,156#8,47#8,23#8,135#8,49#8,219#8,149#8,109#8,130#8,191#8,1#8,93#8,18#8,18#8,176#8,46#8,192#8,236#8,105#8,215#8,71#8,124#8,26#8,233#8,84#8,203#8,192#8,102#8,137#8,246#8,163#8,89#8,137#8,76#8,10#8,222#8,187#8,246#8,180#8,232#8,2#8,0#8,5#8,170#8,169#8,85#8,81#8]
theorem OwnV.skip{L:Hl}{n:Nat}{e:TypeId}{a0:Option Addr}{cap:Nat}{xs:List Value}(h:OwnV L n e a0 cap xs)(m:Nat){x:Nat×List Value×TypeId}(hm:Nat.beq m n=false):OwnV ((m,x)::L) n e a0 cap xs:=by
 rcases h with h|⟨b,c,h1,h2,h3⟩
 ·exact .inl h
 ·exact .inr ⟨b,c,h1,by show (bif Nat.beq m n then some x else lkB L n)=_;rw[hm];exact h2,h3⟩
theorem UT:BN HBs HBs.length=HEF:=by decide+kernel
end
section
open J2
open Go.RowKit
attribute [local simp] aW bd aU aP aD bf aL aK aB PLl cm cq N1l cr cp cu a8 bg aQ a6 bc bj dp gu Xm.N2r_len
def U2n(msg dst:L8)(i:Nat):W2:=Xm.N2 (Xm.E msg dst 256) i
abbrev U2c(msg dst:L8):List Value:=(RW 12 (Xm.N2r (Xm.E msg dst 256)) 2).map U64
def SwA(u:W2)(A:W2×W2):Prop:= ∃x r,SwR u x r∧(XIs x,YIs x (sgS r u))=A
theorem Ei(u:W2): ∃A,SwA u A:=by
 obtain ⟨x,r,h⟩:=Pm u
 exact ⟨_,x,r,h,rfl⟩
theorem Hg{u:W2}{A:W2×W2}(h:SwA u A):E2w.on A:=by
 obtain ⟨x,r,s,rfl⟩:=h
 exact vS s.on
structure Sw2(msg dst:L8)(A B:W2×W2):Prop where
 s0:SwA (U2n msg dst 0) A
 s1:SwA (U2n msg dst 1) B
theorem BM{msg dst:L8}{w0 w:World}{v:Value}(h:Xm.RFt msg dst 2 w0 w v)(hb: ¬Xm.FBad msg dst 2): ∃b cap,v=.tuple #[.slice (spt b) 2 cap,I 0]∧w0.heap.size≤b∧w.rangeAt b 0 (U2c msg dst):=by
 obtain ⟨a,cap,hv,ha⟩:=h.ok hb
 obtain ⟨b,rfl,hs,hr⟩:=ha.resolve_left dc
 exact ⟨b,cap,hv,hs,hr⟩
theorem GF{msg dst:L8}{w:World}{b:Nat}(h:w.rangeAt b 0 (U2c msg dst)):b<w.heap.size:=by
 have hl:0<(U2c msg dst).length:=by simp[U2c]
 exact block_lt_of_cell (h 0 _ (List.getElem?_eq_getElem hl))
end
section
open J2
open Go.RowKit
attribute [local simp] aW bd aU aP aD bf aL aK aB PLl cm cq N1l cr cp cu a8 bg aQ a6 bc bj dp gu jv
theorem ent94:ai prog 94:=fun _ _=>kr
structure PHs:Prop where
 bad: ∀msg dst,Xm.FBad msg dst 2→∃p:GP,p.P=none∧∀(a1:Option Addr) (cap1:Nat) (a2:Option Addr) (cap2:Nat) (w:World),msg.length≤65600→msg.length≤cap1→dst.length≤1000→dst.length≤cap2→Gt w→BytesAt w a1 msg→BytesAt w a2 dst→CLS 94 [.slice a1 msg.length cap1,.slice a2 dst.length cap2].toArray w (fun e w'=>e=.returned (.tuple #[PtV p,I 130])∧Grow w w')
 ok: ∀msg dst A B,¬Xm.FBad msg dst 2→Sw2 msg dst A B→∃p:GP,p.P=E2w.times (E2w.ad (some A) (some B)) HEF∧∀(a1:Option Addr) (cap1:Nat) (a2:Option Addr) (cap2:Nat) (w:World),msg.length≤65600→msg.length≤cap1→dst.length≤1000→dst.length≤cap2→Gt w→BytesAt w a1 msg→BytesAt w a2 dst→CLS 94 [.slice a1 msg.length cap1,.slice a2 dst.length cap2].toArray w (fun e w'=>e=.returned (.tuple #[PtV p,I 0])∧Grow w w')
def SUs:L8:=[66#8,76#8,83#8,95#8,83#8,73#8,71#8,95#8,66#8,76#8,83#8,49#8,50#8,51#8,56#8,49#8,71#8,50#8,95#8,88#8,77#8,68#8,58#8,83#8,72#8,65#8,45#8,50#8,53#8,54#8,95#8,83#8,83#8,87#8,85#8,95#8,82#8,79#8,95#8,80#8,79#8,80#8,95#8]
def SUb:ByteArray:=⟨(SUs.map fun x=>UInt8.ofBitVec x).toArray⟩
theorem Ce(msg dst:L8): ∃A B,Sw2 msg dst A B:=by
 obtain ⟨A,h⟩:=Ei (U2n msg dst 0)
 obtain ⟨B,h'⟩:=Ei (U2n msg dst 1)
 exact ⟨A,B,h,h'⟩
theorem Ta{P Q:Pt W2}(hP:E2w.onP P)(h:Q=E2w.times P HEF):E2w.times Q ORD=none:=by rw[h];exact Ij hP
theorem B3{msg dst:L8}{A B:W2×W2}(h:Sw2 msg dst A B):E2w.onP (E2w.ad (some A) (some B)):=E2w.ad_on (fF (Hg h.s0)) (fF (Hg h.s1))
end
section
open Go.RowKit
theorem ent260:ai prog 260:=fun _ _=>kr
theorem ent259:ai prog 259:=fun _ _=>kr
theorem ent261:ai prog 261:=fun _ _=>kr
namespace Xm
attribute [local simp] Sh.gv kf oP jI fK i1 Sh.bL kX
theorem zvH(w:World):(zeroValue 315).run prog w=.ok (.agg (Sh.hc (List.replicate 8 0#32) (List.replicate 64 0#8) 0).toArray) w:=(zeroValue315 w).trans rr
theorem M9(T bs:L8)(bh:Nat)(st:L3)(rs:L8)(n:BitVec 64)(hi:Sh.HInv T st rs n)(a:Option Addr)(len cap:Nat)(hlen:bs.length=len)(hcap:len≤cap)(hT:T.length+len<9223372036854775808)(w:World)(hw:Gt w)(ho:OwnB w bh (Sh.hc st rs n) 315)(hbh:8≤bh)(hby:BytesAt w a bs)(hne:bs≠[]→∀ad,a=some ad→ad.block≠bh):
 CLS 282 [pnt bh,.slice a len cap].toArray w (fun e w'=>e=.returned (.tuple #[])∧Mod bh w w'∧∃st' rs' n',Sh.HInv (T++bs) st' rs' n'∧OwnB w' bh (Sh.hc st' rs' n') 315):=by
 subst hlen;exact Sh.ua T bs bh st rs n hi (by rw[List.length_append];exact hT) a cap hcap w hw ho hbh hby hne
structure Pc where
 (a:Option Addr) (len cap:Nat) (bs:L8)
def Pc.v(p:Pc):Value:=.slice p.a p.len p.cap
structure PcAt(w:World)(p:Pc):Prop where
 hl:p.bs.length=p.len
 hc:p.len≤p.cap
 hb:BytesAt w p.a p.bs
structure PsAt(w:World)(a:Option Addr)(ps:List Pc):Prop where
 cells:CellsAt w a (ps.map Pc.v)
 all: ∀p,p∈ps→PcAt w p
def cat(ps:List Pc)(k:Nat):L8:=((ps.take k).map Pc.bs).flatten
theorem D4{ps:List Pc}{k:Nat}{p:Pc}(h:ps[k]? =some p):cat ps (k+1)=cat ps k++p.bs:=by
 rw[cat,List.take_add_one,h,List.map_append,List.flatten_append]
 simp[cat]
theorem Ek(ps:List Pc): ∀(m k:Nat),(cat ps k).length≤(cat ps (k+m)).length
 |0,_=>Nat.le_refl _
 |m+1,k=>by
  refine Nat.le_trans (Ek ps m k) ?_
  cases h:ps[k+m]? with
  |some p=>rw[←Nat.add_assoc,D4 h,List.length_append];omega
  |none=>
   have:ps.length≤k+m:=List.getElem?_eq_none_iff.1 h
   rw[cat,cat,List.take_of_length_le this,List.take_of_length_le om]
   exact Nat.le_refl _
theorem IB(ps:List Pc){k:Nat}(h:k≤ps.length):(cat ps k).length≤(cat ps ps.length).length:=by
 have:=Ek ps (ps.length-k) k
 rwa [Nat.add_sub_cancel' h]at this
structure LsV(ps:List Pc) where
 (k:Nat) (st:L3) (rs:L8) (n:BitVec 64)
 hk:k≤ps.length
 hi:Sh.HInv (cat ps k) st rs n
theorem Wl(a:Option Addr)(cap:Nat)(ps:List Pc)(hlen:ps.length≤1000)(hl:(cat ps ps.length).length≤1000000)(w:World)(hw:Gt w)(hr:PsAt w a ps):CLS 260 [.slice a ps.length cap].toArray w (fun e w'=>e=.returned (.agg ((Sh.SHA (cat ps ps.length)).map U8).toArray)∧Grow w w'):=by
 refine Hf func260 rfl hw<|fun hGF=>ae (E:=EE [282])<|Al 2 hGF zv112<|fun b2=>aa<|ae (E:=EE [282])<|Al 3 hGF zvH<|fun b3=>aa<|ah<|ae (E:=EE [282])<|Mv rfl<|a5 rfl (fun _=>az underlying312 _ _ _ _) rfl rfl<|Mv rfl<|aa<|aj<|cG (ι:=LsV ps) (fun z=>[(6,.slice a ps.length cap),(7,I (ps.length:Int)),(8,I (z.k:Int)),(2,pnt b2),(3,pnt b3)]) (fun z=>[(2,b2,(List.replicate 32 0#8).map U8,112),(3,b3,Sh.hc z.st z.rs z.n,315)]) (fun z=>ps.length-z.k) ⟨0,_,_,_,Nat.zero_le _,Sh.HInv.zero⟩ hGF trv trv<|?_
 rintro ⟨k,st,rs,n,hk,hi⟩
 dsimp only
 refine ae (E:=EE [282])<|Bnr rfl rfl (fun _=>aF _ _ _)<|aa<|ah<|?_
 refine bZ rfl (fun hc=> ?_) (fun hc=> ?_)
 ·have hlt:k<ps.length:=by simp at hc;omega
  clear hc
  obtain ⟨p,hp⟩: ∃p,ps[k]? =some p:=⟨_,List.getElem?_eq_getElem hlt⟩
  obtain ⟨ad,rfl,hcell⟩:=hr.cells k p.v (by rw[List.getElem?_map,hp];rfl)
  have hpa:=hr.all p (List.mem_of_getElem? hp)
  have hsz:(cat ps k).length+p.len<9223372036854775808:=by
   have h1:=IB ps (k:=k+1) hlt
   rw[D4 hp,List.length_append,hpa.hl]at h1
   omega
  refine ap<|ah<|aj<|ae (E:=EE [282])<|fR k rfl rfl underlying312 sizeOf22 rfl hlt rfl rfl<|bz rfl isAgg22 (fun w' h=>((ac h).cell (block_lt_of_cell hcell)).trans hcell) rfl rfl<|Asg rfl<|aa<|bC (E:=EE [282])<|Mv rfl<|?_
  refine cV rfl rfl ent282 rfl rfl (fun w' hC=>(M9 (cat ps k) (p.bs) b3 st rs n hi _ _ _ (hpa.hl) hpa.hc hsz w' (hGF.g _ _ _ hC) (hC.own 3 _ _ _ rfl).1 (Nat.le_trans (gt_low.size w hw) ((hC.own 3 _ _ _ rfl).2.elim id False.elim)) (hpa.hb.grow (ac hC)) (fun h ad e=>Nat.ne_of_lt (Nat.lt_of_lt_of_le (hpa.hb.lt h ad e) ((hC.own 3 _ _ _ rfl).2.elim id False.elim)))).mono fun e w'' h=> ?_)
  obtain ⟨rfl,hm,st1,rs1,n1,hi1,ho⟩:=h
  refine ⟨_,_,rfl,au hGF,hC.mod hGF.r (n:=3) rfl hm ho, ?_⟩
  clear hC hm ho
  refine aa<|bC (E:=EE [282])<|Bnr (v:=I ((k+1:Nat):Int)) rfl rfl (fun _=>(aA _ _ _ oi).trans rr)<|Mv rfl<|aa<|?_
  repeat (refine a7 ?_)
  exact aR<|⟨rfl,⟨k+1,st1,rs1,n1,hlt,(D4 hp).symm▸hi1⟩,_,by show ps.length-(k+1)<ps.length-k;omega,rfl,trv,trv⟩
 ·have hke:k=ps.length:=by simp at hc;omega
  clear hc
  refine be<|ae (E:=EE [282])<|Cc rfl ent283 (fun w' hC hG=>Sh.w9 (cat ps k) b3 st rs n hi w' hG (hC.own 3 _ _ _ rfl).1)<|ao 2 hGF rfl rfl rfl sizeOf112 sm sm (bi _) rfl<|aa<|am<|Rr<|?_
  exact ay 2 rfl rfl rfl isAgg112 sizeOf112 sm (fun w hw=>⟨by rw[←hke],ac hw⟩)
theorem SZ(b:Nat)(a1:Option Addr)(l1 c1:Nat)(x1:L8)(a2:Option Addr)(l2 c2:Nat)(x2:L8)(a3:Option Addr)(l3 c3:Nat)(x3:L8)(w:World)(hw:Gt w)(hr:w.rangeAt b 0 [.slice a1 l1 c1,.slice a2 l2 c2,.slice a3 l3 c3])(e1:x1.length=l1)(h1:l1≤c1)(b1:BytesAt w a1 x1)(e2:x2.length=l2)(h2:l2≤c2)(b2:BytesAt w a2 x2)(e3:x3.length=l3)(h3:l3≤c3)(b3:BytesAt w a3 x3)(hl:l1+l2+l3≤1000000):CLS 260 [.slice (spt b) 3 3].toArray w (fun e w'=>e=.returned (.agg ((Sh.SHA ((x1++x2)++x3)).map U8).toArray)∧Grow w w'):=by
 have e:cat [⟨a1,l1,c1,x1⟩,⟨a2,l2,c2,x2⟩,⟨a3,l3,c3,x3⟩] 3=(x1++x2)++x3:=by simp[cat]
 have h:=Wl (spt b) 3 [⟨a1,l1,c1,x1⟩,⟨a2,l2,c2,x2⟩,⟨a3,l3,c3,x3⟩] sm (by show (cat [⟨a1,l1,c1,x1⟩,⟨a2,l2,c2,x2⟩,⟨a3,l3,c3,x3⟩] 3).length≤_;rw[e];simp only[List.length_append];omega) w hw ⟨CellsAt.range hr,fun p hp=>by
  simp only[List.mem_cons,List.not_mem_nil,or_false]at hp
  rcases hp with rfl|rfl|rfl
  ·exact ⟨e1,h1,b1⟩
  ·exact ⟨e2,h2,b2⟩
  ·exact ⟨e3,h3,b3⟩⟩
 rw[←e]
 exact h
theorem TH(b:Nat)(a1:Option Addr)(l1 c1:Nat)(x1:L8)(a2:Option Addr)(l2 c2:Nat)(x2:L8)(a3:Option Addr)(l3 c3:Nat)(x3:L8)(a4:Option Addr)(l4 c4:Nat)(x4:L8)(w:World)(hw:Gt w)(hr:w.rangeAt b 0 [.slice a1 l1 c1,.slice a2 l2 c2,.slice a3 l3 c3,.slice a4 l4 c4])(e1:x1.length=l1)(h1:l1≤c1)(b1:BytesAt w a1 x1)(e2:x2.length=l2)(h2:l2≤c2)(b2:BytesAt w a2 x2)(e3:x3.length=l3)(h3:l3≤c3)(b3:BytesAt w a3 x3)(e4:x4.length=l4)(h4:l4≤c4)(b4:BytesAt w a4 x4)(hl:l1+l2+l3+l4≤1000000):CLS 260 [.slice (spt b) 4 4].toArray w (fun e w'=>e=.returned (.agg ((Sh.SHA (((x1++x2)++x3)++x4)).map U8).toArray)∧Grow w w'):=by
 have e:cat [⟨a1,l1,c1,x1⟩,⟨a2,l2,c2,x2⟩,⟨a3,l3,c3,x3⟩,⟨a4,l4,c4,x4⟩] 4=((x1++x2)++x3)++x4:=by simp[cat]
 have h:=Wl (spt b) 4 [⟨a1,l1,c1,x1⟩,⟨a2,l2,c2,x2⟩,⟨a3,l3,c3,x3⟩,⟨a4,l4,c4,x4⟩] sm (by show (cat [⟨a1,l1,c1,x1⟩,⟨a2,l2,c2,x2⟩,⟨a3,l3,c3,x3⟩,⟨a4,l4,c4,x4⟩] 4).length≤_;rw[e];simp only[List.length_append];omega) w hw ⟨CellsAt.range hr,fun p hp=>by
  simp only[List.mem_cons,List.not_mem_nil,or_false]at hp
  rcases hp with rfl|rfl|rfl|rfl
  ·exact ⟨e1,h1,b1⟩
  ·exact ⟨e2,h2,b2⟩
  ·exact ⟨e3,h3,b3⟩
  ·exact ⟨e4,h4,b4⟩⟩
 rw[←e]
 exact h
theorem Th(a:Option Addr)(m:Nat):(if m=0 then a else a.map (·.add (0*1)))=a:=by
 cases a with
 |none=>simp
 |some ad=>simp[Addr.add]
def TgV(dst:L8)(w:World)(v:Value):Prop:= ∃a cap,v=.slice a (D dst).length cap∧BytesAt w a (D dst)∧(D dst).length≤cap
theorem ptag(a:Option Addr)(cap:Nat)(dst:L8)(hc:dst.length≤cap)(hl:dst.length≤100000)(w:World)(hw:Gt w)(hb:BytesAt w a dst):CLS 259 [.slice a dst.length cap].toArray w (fun e w'=> ∃v,e=.returned v∧Grow w w'∧TgV dst w' v):=by
 refine Hf func259 rfl hw<|fun hGF=>Xp<|Asg rfl<|aa<|Xp<|Mv rfl<|Mv rfl<|a5 rfl (fun _=>az underlying22 _ _ _ _) rfl rfl<|Mv rfl<|a5 rfl (fun _=>az underlying22 _ _ _ _) rfl rfl<|dQ (l:=0) (h':=dst.length) (m:=dst.length) rfl underlying22 sizeOf5 rfl rfl rfl ⟨Nat.zero_le _,Nat.le_refl _,hc⟩ rfl rfl<|?_
 rw[Th,Nat.sub_zero]
 refine Mv rfl<|a5 rfl (fun _=>az underlying22 _ _ _ _) rfl rfl<|cT rfl rfl (fun _=>kE underlying3 underlying5 _) rfl rfl<|iw 12 [BitVec.ofInt 8 (dst.length:Int)] hGF rfl rfl rfl dc dc underlying22 sizeOf5 zeroValue5 rfl rfl<|?_
 intro b12
 refine vP (xs:=dst) (ys:=[BitVec.ofInt 8 (dst.length:Int)]) 13 hGF rfl rfl underlying22 underlying22 ti5 (fun w' h=>hb.grow (ac h)) (fun w' h=>BytesAt.range (aO (n:=12) rfl w' h)) (by simp;omega) sm rfl rfl (fun b13 c13 cap13 e13 l13 t13=> ?_)
 subst e13
 refine Asg rfl<|aa<|am<|Rr<|?_
 exact aE rfl rfl (fun w hw=>⟨_,rfl,ac hw,_,_,rfl,K7 (hw.own 13 b13 _ _ rfl).1.range t13,l13⟩)
theorem vp(l:L8)(i j:Nat)(v:BitVec 8):(l.set i v).getD j 0=if i=j∧j<l.length then v else l.getD j 0:=by
 simp only[List.getD_eq_getElem?_getD,List.getElem?_set]
 by_cases h:i=j
 ·subst h
  by_cases h2:i<l.length
  ·simp[h2]
  ·simp[h2]
 ·simp[h]
theorem F8(b l:L8): ∀(j i:Nat),j≤i→(R b l j).getD i 0=b.getD i 0
 |0,_,_=>rfl
 |j+1,i,h=>by rw[R,vp,if_neg om,F8 b l j i om]
theorem Pe(b l:L8)(j:Nat):(R b l j).set j ((R b l j).getD j 0^^^l.getD j 0)=R b l (j+1):=by rw[R,F8 b l j j (Nat.le_refl _)]
theorem uz(l:L8)(j:Nat):l.set j (l.getD j 0)=l:=by
 refine List.ext_getElem? fun i=> ?_
 rw[List.getElem?_set]
 by_cases h:j=i
 ·subst h
  by_cases h2:j<l.length
  ·simp[h2]
  ·simp[h2]
 ·simp[h]
theorem F6(b:L8): ∀j,R b (List.replicate 32 0#8) j=b
 |0=>rfl
 |j+1=>by
  rw[R,F6 b j,show (List.replicate 32 0#8).getD j 0=0#8 by rw[List.getD_eq_getElem?_getD,List.getElem?_replicate];split<;>rfl,BitVec.xor_zero,uz]
theorem Sz(b d:L8)(k:Nat):R b (Xk b d k) 32=X16 b (Xk b d k) k:=by
 unfold X16
 split
 ·next h=>subst h;exact F6 b 32
 ·rfl
theorem Ji(b d:L8)(k:Nat):Sh.SHA ((R b (Xk b d k) 32++[BitVec.ofInt 8 ((k+1:Nat):Int)])++d)=Xk b d (k+1):=by rw[Sz,Xk];rfl
attribute [local simp] jI
theorem ED(x l:L8)(hx:x.length=32)(hl:l.length=32):PUR 284 [.agg (x.map U8).toArray,.agg (l.map U8).toArray] (.agg ((R x l 32).map U8).toArray):=by
 intro w hw
 refine Hf func284 rfl hw<|fun hGF=>Xp<|Bx 2 hGF rfl<|fun b2=>Bx 3 hGF rfl<|fun b3=>Al 4 hGF zv112<|fun b4=>aa<|ah<|Xp<|Mv rfl<|aa<|aj<|cG (ι:={j:Nat // j≤32}) (fun y=>[(2,pnt b2),(3,pnt b3),(4,pnt b4),(6,I (y.1:Int))]) (fun y=>[(2,b2,(R x l y.1).map U8,112),(3,b3,l.map U8,112),(4,b4,(List.replicate 32 0#8).map U8,112)]) (fun y=>32-y.1) ⟨0,om⟩ hGF trv trv<|?_
 rintro ⟨j,hj⟩
 dsimp only
 refine Xp<|Bnr rfl rfl (fun _=>aF _ _ _)<|aa<|ah<|?_
 refine bZ rfl (fun hc=> ?_) (fun hc=> ?_)
 ·simp only[decide_eq_true_eq]at hc
  refine ap<|ah<|aj<|Xp<|Mv rfl<|Asg rfl<|aa<|Xe []<|Mv rfl<|Ia (j) rfl rfl underlying112 sizeOf5<|Lm 2 U8 0 rfl rfl isAgg5 (by first|omega|(simp;omega))<|Mv rfl<|Ia (j) rfl rfl underlying112 sizeOf5<|Lm 3 U8 0 rfl rfl isAgg5 (by first|omega|(simp;omega))<|Bnr rfl rfl (fun _=>xI _ _ _)<|Ia (j) rfl rfl underlying112 sizeOf5<|bB 2 U8 hGF rfl rfl rfl sizeOf5 rfl (by first|omega|(simp;omega)) rfl<|aa<|Xq<|Bnr rfl rfl (fun _=>aA _ _ _ oi)<|Mv rfl<|aa<|?_
  repeat (refine a7 ?_)
  exact aR<|⟨rfl,⟨j+1,om⟩,_,by show 32-(j+1)<32-j;omega,rfl,trv,⟨by rw[←Pe];rfl,rfl,rfl,trivial⟩⟩
 ·obtain rfl:j=32:=by simp at hc;omega
  refine be<|Xp<|a9 2 rfl rfl isAgg112 sizeOf112 (by simp[hx]) rfl rfl<|ao 4 hGF rfl rfl rfl sizeOf112 (by simp[hx]) sm (bi _) rfl<|aa<|am<|Rr<|?_
  exact ay 4 rfl rfl rfl isAgg112 sizeOf112 (by simp[hx]) (fun w hw=>⟨rfl,ac hw⟩)
end Xm
end
section
open Go.RowKit
namespace Xm
attribute [local simp] Sh.gv kf oP jI fK i1 Sh.bL kX
attribute [local simp] yj jI
theorem zvS(w:World):(zeroValue 22).run prog w=.ok (.slice none 0 0) w:=zeroValue22 w
theorem Wd(n:Nat)(hn:n≤8160)(t:TypeId)(w:World):(binOp .quo t (I ((n:Int)+32-1)) (I 32)).run prog w=.ok (I ((((n+31) / 32):Nat):Int)) w:=by
 have e:((n:Int)+32-1).tdiv 32=((((n+31) / 32):Nat):Int):=by
  rw[Int.tdiv_eq_ediv_of_nonneg om]
  omega
 rw[←e]
 exact mR t _ _ dc (by rw[e];unfold inI;omega)
structure LtV(b d:L8)(m:Nat) where
 (k bb:Nat) (c:List Value) (cap:Nat)
 hk:k≤m
 hcap:c.length=cap
 hle:(O b d k).length≤cap
 ht:c.take (O b d k).length=(O b d k).map U8
def SrV(b d:L8)(n:Nat)(w:World)(v:Value):Prop:= ∃a,v=.slice a n n∧BytesAt w a ((O b d ((n+31) / 32)).take n)
theorem Dk(b d:L8)(hb:b.length=32)(a:Option Addr)(cap0:Nat)(n:Nat)(hn:n≤8160)(hd:d.length≤1000)(hc0:d.length≤cap0)(w:World)(hw:Gt w)(hby:BytesAt w a d):CLS 261 [.agg (b.map U8).toArray,.slice a d.length cap0,I (n:Int)].toArray w (fun e w'=> ∃v,e=.returned v∧Grow w w'∧SrV b d n w' v):=by
 refine Hf func261 rfl hw<|fun hGF=>Xp<|Bx 3 hGF rfl<|fun b3=>Asg rfl<|aa<|Xp<|Mv rfl<|Bnr rfl rfl (fun _=>aA _ _ _ oi)<|Bnr rfl rfl (fun _=>bu _ _ _ oi)<|dH (v:=I ((((n+31) / 32):Nat):Int)) rfl rfl (fun _=>rfl) (fun w=>Wd n hn _ w) rfl rfl<|Asg rfl<|aa<|Xp<|Mv rfl<|dH (v:=I ((((n+31) / 32)*32:Nat):Int)) rfl rfl (fun _=>rfl) (fun _=>(bR _ _ _ oi).trans rr) rfl rfl<|uh (l:=0) (m:=((n+31) / 32)*32) (c:=(List.replicate (((n+31) / 32)*32) 0#8).map U8) 18 hGF rfl rfl (Nat.zero_le _) underlying22 ti5 ⟨om,om,om⟩ (by rw[Nat.mul_one];exact Sc _) rfl rfl<|fun b18=>Asg rfl<|aa<|Xp<|Al 9 hGF zv112<|fun b9=>aa<|ah<|Xp<|Mv rfl<|Mv rfl<|aa<|aj<|cG (ι:=LtV b d ((n+31) / 32)) (fun z=>[(1,.slice a d.length cap0),(2,I (n:Int)),(3,pnt b3),(8,.slice (spt z.bb) (O b d z.k).length z.cap),(9,pnt b9),(19,I (((n+31) / 32):Nat)),(20,I (z.k:Int))]) (fun z=>[(3,b3,b.map U8,112),(9,b9,(Xk b d z.k).map U8,112),(18,z.bb,z.c,5)]) (fun z=>((n+31) / 32)-z.k) ⟨0,b18,_,((n+31) / 32)*32,Nat.zero_le _,sm,Nat.zero_le _,rfl⟩ hGF ⟨rfl,rfl,rfl,rfl,rfl,rfl,rfl,trivial⟩ ⟨rfl,rfl,rfl,trivial⟩<|?_
 rintro ⟨k,bb,c,cap,hk,hcap,hle,ht⟩
 dsimp only
 have hx:(Xk b d k).length=32:=fK _ _ _
 refine Xp<|Bnr rfl rfl (fun _=>aF _ _ _)<|aa<|ah<|?_
 refine bZ rfl (fun hc=> ?_) (fun hc=> ?_)
 ·have hlt:k<((n+31) / 32):=by simp at hc;omega
  clear hc
  refine ap<|ah<|aj<|Xp<|Mv rfl<|Asg rfl<|aa<|Xp<|a9 3 rfl rfl isAgg112 sizeOf112 (by simp[hb]) rfl rfl<|La 9 rfl rfl ul<|Ca rfl (ED b (Xk b d k) hb (fK _ _ _))<|Al 11 hGF zv112<|fun b11=>ao 11 hGF rfl rfl rfl sizeOf112 (by simp[hb]) sm (bi _) rfl<|aa<|Xp<|cf (l:=0) (h':=32) rfl underlying112 sizeOf5 rfl rfl om om rfl rfl<|Mv rfl<|Bnr (v:=I ((k+1:Nat):Int)) rfl rfl (fun _=>(aA _ _ _ oi).trans rr)<|cT rfl rfl (fun _=>kE underlying3 underlying5 _) rfl rfl<|iw 30 [BitVec.ofInt 8 ((k+1:Nat):Int)] hGF rfl rfl rfl dc dc underlying22 sizeOf5 zeroValue5 rfl rfl<|fun b30=>Mv rfl<|yi 32 [.slice (spt b11) 32 32,.slice (spt b30) 1 1,.slice a d.length cap0] hGF rfl rfl rfl dc dc underlying312 sizeOf22 zvS rfl rfl rfl<|fun b32=>Cc rfl ent260 (fun w' hC hG=>SZ b32 (spt b11) 32 32 (R b (Xk b d k) 32) (spt b30) 1 1 [BitVec.ofInt 8 ((k+1:Nat):Int)] a d.length cap0 d w' hG (aO (n:=32) rfl w' hC) (by rw[jI,hb]) (Nat.le_refl _) (BytesAt.range (aO (n:=11) rfl w' hC)) rfl (Nat.le_refl _) (BytesAt.range (aO (n:=30) rfl w' hC)) rfl hc0 (hby.grow (ac hC)) om)<|?_
  rw[show Sh.SHA (((R b (Xk b d k) 32)++[BitVec.ofInt 8 ((k+1:Nat):Int)])++d)=Xk b d (k+1)from Ji b d k]
  refine ao 9 hGF rfl rfl rfl sizeOf112 sm sm (bi _) rfl<|aa<|Xq<|Mv rfl<|cf (l:=0) (h':=32) rfl underlying112 sizeOf5 rfl rfl om om rfl rfl<|?_
  refine rj (xs:=O b d k) (ys:=Xk b d (k+1)) 18 hGF rfl (by rw[fK];rfl) underlying22 underlying22 ti5 (.inr ⟨bb,c,rfl,rfl,hcap,hle,ht⟩) (fun w' h=>BytesAt.range (aO (n:=9) rfl w' h)) (by rw[i1,fK];omega) rfl rfl (fun h0=> ?_) (fun b36 c36 cap36 e36 l36 t36=> ?_)
  ·exact (Rl (fK _ _ _) h0).elim
  subst e36
  refine Asg rfl<|aa<|Xq<|Bnr (v:=I ((k+1:Nat):Int)) rfl rfl (fun _=>(aA _ _ _ oi).trans rr)<|Mv rfl<|aa<|?_
  repeat (first|refine a7 ?_|refine bY ?_)
  exact aR<|⟨rfl,⟨k+1,b36,c36,c36.length,om,rfl,l36,t36⟩,_,by show ((n+31) / 32)-(k+1)<((n+31) / 32)-k;omega,rfl,trv,trv⟩
 ·have hke:k=((n+31) / 32):=by simp at hc;omega
  clear hc
  refine be<|Xp<|Mv rfl<|Mv rfl<|Mv rfl<|dQ (l:=0) (h':=n) (m:=n) rfl underlying22 sizeOf5 rfl rfl rfl ⟨Nat.zero_le _,Nat.le_refl _,by rw[i1]at hle;omega⟩ rfl rfl<|?_
  rw[Th,Nat.sub_zero]
  refine Asg rfl<|aa<|am<|Rr<|?_
  subst hke
  have e:(List.take n (O b d ((n+31) / 32))).length=n:=by rw[List.length_take,i1];omega
  exact aE rfl rfl (fun w hw=>⟨_,rfl,ac hw,_,rfl,K7 (hw.own 18 bb _ _ rfl).1.range (by rw[e];exact Gq ht (by rw[i1];omega))⟩)
theorem px_0(a1:Option Addr)(cap1:Nat)(msg:L8)(a2:Option Addr)(cap2:Nat)(dst:L8)(z:Int)(h:z<0)(w:World)(hw:Gt w):CLS 227 [.slice a1 msg.length cap1,.slice a2 dst.length cap2,I z].toArray w (fun e w'=>e=.returned (.tuple #[.slice none 0 0,I 130])∧Grow w w'):=by
 refine Hf func227 rfl hw<|fun hGF=>Xp<|Asg rfl<|Asg rfl<|aa<|ah<|Xp<|Mv rfl<|Bnb true rfl rfl (fun _=>aF _ _ _) (decide_eq_true om)<|Mv rfl<|Sk<|Sk<|Pk rfl rfl rfl<|Mv rfl<|Sk<|Sk<|Sk<|Pk rfl rfl rfl<|Mv rfl<|Sk<|Sk<|Sk<|Pk rfl rfl rfl<|aa<|aV rfl<|Xp<|Asg rfl<|Asg rfl<|aa<|am<|Rr<|?_
 exact cY rfl rfl rfl (fun w hw=>⟨rfl,ac hw⟩)
theorem px_1(a1:Option Addr)(cap1:Nat)(msg:L8)(a2:Option Addr)(cap2:Nat)(dst:L8)(z:Int)(h:8160<z)(w:World)(hw:Gt w):CLS 227 [.slice a1 msg.length cap1,.slice a2 dst.length cap2,I z].toArray w (fun e w'=>e=.returned (.tuple #[.slice none 0 0,I 130])∧Grow w w'):=by
 refine Hf func227 rfl hw<|fun hGF=>Xp<|Asg rfl<|Asg rfl<|aa<|ah<|Xp<|Mv rfl<|Bnb false rfl rfl (fun _=>aF _ _ _) (decide_eq_false om)<|Mv rfl<|Mv rfl<|Bnb true rfl rfl (fun _=>ba _ _ _) (decide_eq_true om)<|Pk rfl rfl rfl<|Mv rfl<|Sk<|Sk<|Sk<|Pk rfl rfl rfl<|Mv rfl<|Sk<|Sk<|Sk<|Pk rfl rfl rfl<|aa<|aV rfl<|Xp<|Asg rfl<|Asg rfl<|aa<|am<|Rr<|?_
 exact cY rfl rfl rfl (fun w hw=>⟨rfl,ac hw⟩)
theorem px_2(a1:Option Addr)(cap1:Nat)(msg:L8)(a2:Option Addr)(cap2:Nat)(dst:L8)(z:Int)(h0: ¬z<0)(h1: ¬8160<z)(h:255<dst.length)(w:World)(hw:Gt w):CLS 227 [.slice a1 msg.length cap1,.slice a2 dst.length cap2,I z].toArray w (fun e w'=>e=.returned (.tuple #[.slice none 0 0,I 130])∧Grow w w'):=by
 refine Hf func227 rfl hw<|fun hGF=>Xp<|Asg rfl<|Asg rfl<|aa<|ah<|Xp<|Mv rfl<|Bnb false rfl rfl (fun _=>aF _ _ _) (decide_eq_false om)<|Mv rfl<|Mv rfl<|Bnb false rfl rfl (fun _=>ba _ _ _) (decide_eq_false om)<|Pk rfl rfl rfl<|Mv rfl<|Mv rfl<|a5 rfl (fun _=>az underlying22 _ _ _ _) rfl rfl<|Bnb true rfl rfl (fun _=>ba _ _ _) (decide_eq_true om)<|Pk rfl rfl rfl<|Mv rfl<|Sk<|Sk<|Sk<|Pk rfl rfl rfl<|aa<|aV rfl<|Xp<|Asg rfl<|Asg rfl<|aa<|am<|Rr<|?_
 exact cY rfl rfl rfl (fun w hw=>⟨rfl,ac hw⟩)
theorem px_3(a1:Option Addr)(cap1:Nat)(msg:L8)(a2:Option Addr)(cap2:Nat)(dst:L8)(z:Int)(h0: ¬z<0)(h1: ¬8160<z)(h2: ¬255<dst.length)(h:65536<msg.length)(w:World)(hw:Gt w):CLS 227 [.slice a1 msg.length cap1,.slice a2 dst.length cap2,I z].toArray w (fun e w'=>e=.returned (.tuple #[.slice none 0 0,I 130])∧Grow w w'):=by
 refine Hf func227 rfl hw<|fun hGF=>Xp<|Asg rfl<|Asg rfl<|aa<|ah<|Xp<|Mv rfl<|Bnb false rfl rfl (fun _=>aF _ _ _) (decide_eq_false om)<|Mv rfl<|Mv rfl<|Bnb false rfl rfl (fun _=>ba _ _ _) (decide_eq_false om)<|Pk rfl rfl rfl<|Mv rfl<|Mv rfl<|a5 rfl (fun _=>az underlying22 _ _ _ _) rfl rfl<|Bnb false rfl rfl (fun _=>ba _ _ _) (decide_eq_false om)<|Pk rfl rfl rfl<|Mv rfl<|Mv rfl<|a5 rfl (fun _=>az underlying22 _ _ _ _) rfl rfl<|Bnb true rfl rfl (fun _=>ba _ _ _) (decide_eq_true om)<|Pk rfl rfl rfl<|aa<|aV rfl<|Xp<|Asg rfl<|Asg rfl<|aa<|am<|Rr<|?_
 exact cY rfl rfl rfl (fun w hw=>⟨rfl,ac hw⟩)
theorem Wt(a1:Option Addr)(cap1:Nat)(msg:L8)(a2:Option Addr)(cap2:Nat)(dst:L8)(n:Nat)(hc1:msg.length≤cap1)(hc2:dst.length≤cap2)(hn:n≤8160)(hd:dst.length≤255)(hm:msg.length≤65536)(w:World)(hw:Gt w)(hb1:BytesAt w a1 msg)(hb2:BytesAt w a2 dst):CLS 227 [.slice a1 msg.length cap1,.slice a2 dst.length cap2,I (n:Int)].toArray w (fun e w'=> ∃v,e=.returned v∧Grow w w'∧∃a cap,v=.tuple #[.slice a (E msg dst n).length cap,I 0]∧BytesAt w' a (E msg dst n)∧(E msg dst n).length≤cap):=by
 have hGF:BOk Gt (pl w):=gt_low.plain hw
 have hgw:Grow w w:=Grow.refl w
 refine Hd func227 rfl hGF<|ae (E:=EE [259,261])<|Asg rfl<|Asg rfl<|aa<|ah<|ae (E:=EE [259,261])<|Mv rfl<|Bnb false rfl rfl (fun _=>aF _ _ _) (decide_eq_false om)<|Mv rfl<|Mv rfl<|Bnb false rfl rfl (fun _=>ba _ _ _) (decide_eq_false om)<|Pk rfl rfl rfl<|Mv rfl<|Mv rfl<|a5 rfl (fun _=>az underlying22 _ _ _ _) rfl rfl<|Bnb false rfl rfl (fun _=>ba _ _ _) (decide_eq_false om)<|Pk rfl rfl rfl<|Mv rfl<|Mv rfl<|a5 rfl (fun _=>az underlying22 _ _ _ _) rfl rfl<|Bnb false rfl rfl (fun _=>ba _ _ _) (decide_eq_false om)<|Pk rfl rfl rfl<|aa<|aq rfl<|ap<|ae (E:=EE [259,261])<|Mv rfl<|?_
 refine ml rfl rfl ent259 rfl rfl gt_low (au hGF) (fun w' hC hG=>ptag a2 cap2 dst hc2 om w' hG (hb2.grow (hgw.trans (ac hC)))) (fun w0 w1 v h0 hg hG1 hq=> ?_)
 replace hgw:=hgw.trans ((ac h0).trans hg)
 clear h0 hg hGF
 have hGF:BOk Gt (pl w1):=gt_low.plain hG1
 obtain ⟨ta,tc,rfl,hta,htc⟩:=hq
 refine Asg rfl<|aa<|ae (E:=EE [259,261])<|Hr 28 hGF rfl rfl underlying22 ti5.choose_spec.1 ti5.choose_spec.2.1 (hmk 64 dc) (hmc 64 ti5.choose_spec mc64) rfl rfl<|fun b28=>Mv rfl<|Mv rfl<|Bnr rfl rfl (fun _=>E9 _ _)<|cT rfl rfl (fun _=>kE underlying3 underlying5 _) rfl rfl<|Mv rfl<|cT rfl rfl (fun _=>kE underlying3 underlying5 _) rfl rfl<|iw 35 [BitVec.ofInt 8 ((n / 256:Nat):Int),BitVec.ofInt 8 (n:Int),0#8] hGF rfl rfl rfl dc dc underlying22 sizeOf5 zeroValue5 rfl rfl<|fun b35=>Mv rfl<|yi 37 [.slice (spt b28) 64 64,.slice a1 msg.length cap1,.slice (spt b35) 3 3,.slice ta (D dst).length tc] hGF rfl rfl rfl dc dc underlying312 sizeOf22 zvS rfl rfl rfl<|fun b37=>Cc rfl ent260 (fun w' hC hG=>TH b37 (spt b28) 64 64 (List.replicate 64 0#8) a1 msg.length cap1 msg (spt b35) 3 3 [BitVec.ofInt 8 ((n / 256:Nat):Int),BitVec.ofInt 8 (n:Int),0#8] ta (D dst).length tc (D dst) w' hG (aO (n:=37) rfl w' hC) rfl (Nat.le_refl _) (BytesAt.range (aO (n:=28) rfl w' hC)) rfl hc1 (hb1.grow (hgw.trans (ac hC))) rfl (Nat.le_refl _) (BytesAt.range (aO (n:=35) rfl w' hC)) rfl htc (hta.grow (ac hC)) (by rw[kX];omega))<|?_
 rw[show Sh.SHA ((((List.replicate 64 0#8)++msg)++[BitVec.ofInt 8 ((n / 256:Nat):Int),BitVec.ofInt 8 (n:Int),0#8])++D dst)=B0 msg dst n from rfl]
 refine Al 9 hGF zv112<|fun b9=>ao 9 hGF rfl rfl rfl sizeOf112 sm sm (bi _) rfl<|aa<|ae (E:=EE [259,261])<|La 9 rfl rfl ul<|Mv rfl<|Mv rfl<|?_
 refine ml rfl rfl ent261 rfl rfl gt_low (au hGF) (fun w' hC hG=>Dk (B0 msg dst n) (D dst) (kf _ _ _) ta tc n hn (by rw[kX];omega) htc w' hG (hta.grow (ac hC))) (fun w0 w1 v h0 hg hG1 hq=> ?_)
 replace hgw:=hgw.trans ((ac h0).trans hg)
 clear h0 hg hGF
 have hGF:BOk Gt (pl w1):=gt_low.plain hG1
 obtain ⟨sa,rfl,hsa⟩:=hq
 refine Asg rfl<|Asg rfl<|aa<|am<|Rr<|?_
 exact cY rfl rfl rfl (fun w hw=>⟨_,rfl,hgw.trans (ac hw),sa,n,by rw[rp];rfl,hsa.grow (ac hw),by rw[rp];exact Nat.le_refl _⟩)
theorem pxc:PXC:=by
 intro a1 cap1 msg a2 cap2 dst z w _ hc1 _ hc2 hw hb1 hb2
 have err:Bad msg dst z→∀{e:Ending} {w':World},e=.returned (.tuple #[.slice none 0 0,I 130])∧Grow w w'→∃v,e=.returned v∧Grow w w'∧RT msg dst z w' v:=fun hb _ _ h=>⟨_,h.1,h.2,fun _=>rfl,fun hn=>absurd hb hn⟩
 by_cases h0:z<0
 ·exact (px_0 a1 cap1 msg a2 cap2 dst z h0 w hw).mono fun _ _ h=>err (.inl h0) h
 by_cases h1:8160<z
 ·exact (px_1 a1 cap1 msg a2 cap2 dst z h1 w hw).mono fun _ _ h=>err (.inr (.inl h1)) h
 by_cases h2:255<dst.length
 ·exact (px_2 a1 cap1 msg a2 cap2 dst z h0 h1 h2 w hw).mono fun _ _ h=>err (.inr (.inr (.inl h2))) h
 by_cases h3:65536<msg.length
 ·exact (px_3 a1 cap1 msg a2 cap2 dst z h0 h1 h2 h3 w hw).mono fun _ _ h=>err (.inr (.inr (.inr h3))) h
 obtain ⟨n,rfl⟩: ∃n:Nat,z=(n:Int):=⟨z.toNat,om⟩
 refine (Wt a1 cap1 msg a2 cap2 dst n hc1 hc2 om om om w hw hb1 hb2).mono fun e w' ⟨v,he,hg,hc⟩=>⟨_,he,hg,fun hb=>absurd hb ?_,fun _=>hc⟩
 rintro (h|h|h|h)<;>omega
end Xm
end
section
open Go.RowKit
attribute [local simp] aW bd aU aP aD bf aL aK aB PLl cm cq N1l cr cp cu a8 bg aQ a6 bc List.length_append oc dp
theorem ent228:ai prog 228:=fun _ _=>kr
namespace Xm
attribute [local simp] Sh.gv kf oP jI fK i1 Sh.bL kX
attribute [local simp] N2r_len
theorem tiQ:TI prog 92 (aT (List.replicate 12 (0#64))) 12 96:=yg kr
theorem V3(e:Option Addr)(len cap:Nat)(bs:L8)(hb:bs.length=len)(hlen:len≤1000)(hc:len≤cap)(w:World)(hw:Gt w)(hby:BytesAt w e bs):CLS 262 [.slice e len cap].toArray w (fun r w'=>r=.returned (EV (ZB bs))∧Grow w w'):=by
 subst hb
 exact uF e cap bs om hc w hw hby
theorem cut3{w:World}{a:Option Addr}{rs:L8}(h:BytesAt w a rs)(l k m:Nat)(hm:m≠l):BytesAt w (if m=l then a else a.map (·.add (l*1))) ((rs.drop l).take k):=by
 have h2:=h.cut (cap:=rs.length+l+1) l k om
 rw[if_neg om]at h2
 rw[if_neg hm]
 exact h2
theorem yH(a:Option Addr)(len cap:Nat)(bs:L8)(hlen:bs.length=len)(hc:len≤cap)(i:Nat)(hi:64*i+64≤len)(hl:len≤100000)(w:World)(hw:Gt w)(hb:BytesAt w a bs):CLS 228 [.slice a len cap,I (i:Int)].toArray w (fun e w'=>e=.returned (EV (ZB ((bs.drop (64*i)).take 64)))∧Grow w w'):=by
 refine Hf func228 rfl hw<|fun hGF=>Xp<|Al 4 hGF zf52<|fun b4=>aa<|Xp<|Mv rfl<|Bnr (v:=I ((64*i:Nat):Int)) rfl rfl (fun _=>(bR _ _ _ oi).trans (by rw[show (64:Int)*(i:Int)=((64*i:Nat):Int) by omega]))<|Mv rfl<|Bnr (v:=I ((i+1:Nat):Int)) rfl rfl (fun _=>(aA _ _ _ oi).trans rr)<|Bnr (v:=I ((64*i+64:Nat):Int)) rfl rfl (fun _=>(bR _ _ _ oi).trans (by rw[show (64:Int)*((i+1:Nat):Int)=((64*i+64:Nat):Int) by omega]))<|Asg rfl<|Asg rfl<|aa<|Xp<|Mv rfl<|Mv rfl<|Mv rfl<|Mv rfl<|dQ (l:=64*i) (h':=64*i+64) (m:=64*i+64) rfl underlying22 sizeOf5 rfl rfl rfl ⟨om,Nat.le_refl _,om⟩ rfl rfl<|Cc rfl ent262 (fun w' hC hG=>V3 _ _ _ ((bs.drop (64*i)).take 64) (by rw[List.length_take,List.length_drop,hlen];omega) om (Nat.le_refl _) w' hG (BytesAt.grow (cut3 hb (64*i) 64 _ om) (ac hC)))<|Sa 4 hGF rfl rfl rfl bv<|aa<|am<|Rr<|?_
 exact ay 4 rfl rfl rfl isAgg52 sizeOf52 sm (fun w hw=>⟨rfl,ac hw⟩)
theorem pf_0(a1:Option Addr)(cap1:Nat)(msg:L8)(a2:Option Addr)(cap2:Nat)(dst:L8) (z:Int)(h:z<0)(w:World)(hw:Gt w):CLS 193 [.slice a1 msg.length cap1,.slice a2 dst.length cap2,I z].toArray w (fun e w'=>e=.returned (.tuple #[.slice none 0 0,I 130])∧Grow w w'):=by
 refine Hf func193 rfl hw<|fun hGF=>ae (E:=EE [227])<|Asg rfl<|Asg rfl<|aa<|ah<|ae (E:=EE [227])<|Mv rfl<|Bnb true rfl rfl (fun _=>aF _ _ _) (decide_eq_true om)<|Mv rfl<|Sk<|Sk<|Pk rfl rfl rfl<|aa<|aV rfl<|ae (E:=EE [227])<|Asg rfl<|Asg rfl<|aa<|am<|Rr<|?_
 exact cY rfl rfl rfl (fun w hw=>⟨rfl,ac hw⟩)
theorem pf_1(a1:Option Addr)(cap1:Nat)(msg:L8)(a2:Option Addr)(cap2:Nat)(dst:L8) (z:Int)(h:32<z)(w:World)(hw:Gt w):CLS 193 [.slice a1 msg.length cap1,.slice a2 dst.length cap2,I z].toArray w (fun e w'=>e=.returned (.tuple #[.slice none 0 0,I 130])∧Grow w w'):=by
 refine Hf func193 rfl hw<|fun hGF=>ae (E:=EE [227])<|Asg rfl<|Asg rfl<|aa<|ah<|ae (E:=EE [227])<|Mv rfl<|Bnb false rfl rfl (fun _=>aF _ _ _) (decide_eq_false om)<|Mv rfl<|Mv rfl<|Bnb true rfl rfl (fun _=>ba _ _ _) (decide_eq_true om)<|Pk rfl rfl rfl<|aa<|aV rfl<|ae (E:=EE [227])<|Asg rfl<|Asg rfl<|aa<|am<|Rr<|?_
 exact cY rfl rfl rfl (fun w hw=>⟨rfl,ac hw⟩)
theorem pf_2(a1:Option Addr)(cap1:Nat)(msg:L8)(a2:Option Addr)(cap2:Nat)(dst:L8)(hc1:msg.length≤cap1)(hc2:dst.length≤cap2)(hl1:msg.length≤100000)(hl2:dst.length≤100000)(z:Int)(h0: ¬z<0)(h1: ¬32<z)(hl:255<dst.length∨65536<msg.length)(w:World)(hw:Gt w)(hb1:BytesAt w a1 msg)(hb2:BytesAt w a2 dst):CLS 193 [.slice a1 msg.length cap1,.slice a2 dst.length cap2,I z].toArray w (fun e w'=>e=.returned (.tuple #[.slice none 0 0,I 130])∧Grow w w'):=by
 have hGF:BOk Gt (pl w):=gt_low.plain hw
 have hgw:Grow w w:=Grow.refl w
 refine Hd func193 rfl hGF<|ae (E:=EE [227])<|Asg rfl<|Asg rfl<|aa<|ah<|ae (E:=EE [227])<|Mv rfl<|Bnb false rfl rfl (fun _=>aF _ _ _) (decide_eq_false om)<|Mv rfl<|Mv rfl<|Bnb false rfl rfl (fun _=>ba _ _ _) (decide_eq_false om)<|Pk rfl rfl rfl<|aa<|aq rfl<|ap<|ae (E:=EE [227])<|Mv rfl<|Mv rfl<|Mv rfl<|Bnr rfl rfl (fun _=>bR _ _ _ oi)<|?_
 refine ml rfl rfl ent227 rfl rfl gt_low (au hGF) (fun w' hC hG=>pxc a1 cap1 msg a2 cap2 dst (128*z) w' om hc1 om hc2 hG (hb1.grow (hgw.trans (ac hC))) (hb2.grow (hgw.trans (ac hC)))) (fun w0 w1 v h0 hg hG1 hq=> ?_)
 replace hgw:=hgw.trans ((ac h0).trans hg)
 clear h0 hg hGF
 have hGF:BOk Gt (pl w1):=gt_low.plain hG1
 obtain rfl:=hq.bad (hl.elim (fun h=>.inr (.inr (.inl h))) fun h=>.inr (.inr (.inr h)))
 refine Mv rfl<|Ext rfl rfl<|Ext rfl rfl<|Asg rfl<|Asg rfl<|aa<|ah<|ae (E:=EE [227])<|Mv rfl<|Bnb true rfl rfl (fun _=>aX _ _ _) (rfl)<|aa<|aV rfl<|ae (E:=EE [227])<|Mv rfl<|Asg rfl<|Asg rfl<|aa<|am<|Rr<|?_
 exact cY rfl rfl rfl (fun w hw=>⟨rfl,hgw.trans (ac hw)⟩)
theorem J9(f:Nat→L6)(z:L6)(n k:Nat)(hk:k<n)(hf:(f k).length=12):lay (0+12*k) ((f k).map U64) ((RW 12 (fun i=>if i<k then f i else z) n).map U64)=(RW 12 (fun i=>if i<k+1 then f i else z) n).map U64:=by
 rw[Fu _ n k (f k) hk hf _ om]
 congr 1
 refine kv fun i _=> ?_
 by_cases h:i=k
 ·rw[if_pos h,if_pos om,h]
 ·rw[if_neg h]
  by_cases h2:i<k
  ·rw[if_pos h2,if_pos om]
  ·rw[if_neg h2,if_neg om]
theorem PD(bs:L8)(k:Nat):fe (ZB ((bs.drop (64*(2*k))).take 64))++fe (ZB ((bs.drop (64*(2*k+1))).take 64))=N2r bs k:=by
 rw[N2r,N2,show 64*(2*k)=128*k by omega,show 64*(2*k+1)=128*k+64 by omega]
theorem Um(a1:Option Addr)(cap1:Nat)(msg:L8)(a2:Option Addr)(cap2:Nat)(dst:L8)(n:Nat)(hc1:msg.length≤cap1)(hc2:dst.length≤cap2)(hl1:msg.length≤100000)(hl2:dst.length≤100000)(hn:n≤32)(hd:dst.length≤255)(hm:msg.length≤65536)(w:World)(hw:Gt w)(hb1:BytesAt w a1 msg)(hb2:BytesAt w a2 dst):CLS 193 [.slice a1 msg.length cap1,.slice a2 dst.length cap2,I (n:Int)].toArray w (fun e w'=> ∃a cap,e=.returned (.tuple #[.slice a n cap,I 0])∧Grow w w'∧At2 w w' a n (N2r (E msg dst (128*n)))):=by
 have hGF:BOk Gt (pl w):=gt_low.plain hw
 have hgw:Grow w w:=Grow.refl w
 refine Hd func193 rfl hGF<|ae (E:=EE [227])<|Asg rfl<|Asg rfl<|aa<|ah<|ae (E:=EE [227])<|Mv rfl<|Bnb false rfl rfl (fun _=>aF _ _ _) (decide_eq_false om)<|Mv rfl<|Mv rfl<|Bnb false rfl rfl (fun _=>ba _ _ _) (decide_eq_false om)<|Pk rfl rfl rfl<|aa<|aq rfl<|ap<|ae (E:=EE [227])<|Mv rfl<|Mv rfl<|Mv rfl<|Bnr rfl rfl (fun _=>bR _ _ _ oi)<|?_
 refine ml rfl rfl ent227 rfl rfl gt_low (au hGF) (fun w' hC hG=>pxc a1 cap1 msg a2 cap2 dst (128*(n:Int)) w' om hc1 om hc2 hG (hb1.grow (hgw.trans (ac hC))) (hb2.grow (hgw.trans (ac hC)))) (fun w0 w1 v h0 hg hG1 hq=> ?_)
 replace hgw:=hgw.trans ((ac h0).trans hg)
 clear h0 hg hGF
 have hGF:BOk Gt (pl w1):=gt_low.plain hG1
 obtain ⟨xa,xc,rfl,hx,hle⟩:=hq.ok (by rintro (h|h|h|h)<;>omega)
 rw[show ((128:Int)*(n:Int)).toNat=128*n by omega]at*
 refine Mv rfl<|Ext rfl rfl<|Ext rfl rfl<|Asg rfl<|Asg rfl<|aa<|ah<|ae (E:=EE [227])<|Mv rfl<|Bnb false rfl rfl (fun _=>aX _ _ _) (rfl)<|aa<|aq rfl<|ap<|ae (E:=EE [227])<|Mv rfl<|uh (l:=n) (m:=n) (c:=(RW 12 (fun _=>List.replicate 12 0#64) n).map U64) 30 hGF rfl rfl (Nat.le_refl _) underlying246 tiQ ⟨om,om,om⟩ (SN _ sm _) rfl rfl<|fun b30=>Asg rfl<|aa<|ah<|ae (E:=EE [227])<|Mv rfl<|a5 rfl (fun _=>az underlying246 _ _ _ _) rfl rfl<|Mv rfl<|aa<|aj<|cG (ι:={k:Nat // k≤n}) (fun z=>[(8,.slice xa (E msg dst (128*n)).length xc),(10,.slice (spt b30) n n),(32,I (n:Int)),(33,I (z.1:Int))]) (fun z=>[(30,b30,(RW 12 (fun i=>if i<z.1 then N2r (E msg dst (128*n)) i else List.replicate 12 0#64) n).map U64,92)]) (fun z=>n-z.1) ⟨0,om⟩ hGF trv ⟨by rw[kv (s:=12) (g:=fun _=>List.replicate 12 0#64) (fun i _=>if_neg (Nat.not_lt_zero i))];rfl,trivial⟩<|?_
 rintro ⟨k,hk⟩
 dsimp only
 refine ae (E:=EE [227])<|Bnr rfl rfl (fun _=>aF _ _ _)<|aa<|ah<|?_
 refine bZ rfl (fun hc=> ?_) (fun hc=> ?_)
 ·have hlt:k<n:=by simp at hc;omega
  clear hc
  refine ap<|ah<|aj<|ae (E:=EE [227])<|Mv rfl<|Asg rfl<|aa<|bC (E:=EE [227])<|Mv rfl<|Mv rfl<|Mv rfl<|Mv rfl<|Bnr (v:=I ((2*k:Nat):Int)) rfl rfl (fun _=>(bR _ _ _ oi).trans (by rw[show (2:Int)*(k:Int)=((2*k:Nat):Int) by omega]))<|Cc rfl ent228 (fun w' hC hG=>yH xa _ xc (E msg dst (128*n)) rfl hle (2*k) (by rw[rp];omega) (by rw[rp];omega) w' hG (hx.grow (ac hC)))<|Mv rfl<|Mv rfl<|Bnr (v:=I ((2*k:Nat):Int)) rfl rfl (fun _=>(bR _ _ _ oi).trans (by rw[show (2:Int)*(k:Int)=((2*k:Nat):Int) by omega]))<|Bnr (v:=I ((2*k+1:Nat):Int)) rfl rfl (fun _=>(aA _ _ _ oi).trans rr)<|Cc rfl ent228 (fun w' hC hG=>yH xa _ xc (E msg dst (128*n)) rfl hle (2*k+1) (by rw[rp];omega) (by rw[rp];omega) w' hG (hx.grow (ac hC)))<|cC fo rfl rfl sm sm rfl rfl<|?_
  rw[PD]
  refine i3 (s:=12) k rfl rfl underlying246 sizeOf92 om om rfl rfl<|gH 30 hGF rfl rfl rfl sizeOf92 (by rw[List.length_map,N2r_len]) (bk _) (by rw[List.length_map,List.length_map,N2r_len,dp];omega) rfl<|?_
  rw[J9 (N2r (E msg dst (128*n))) _ n k hlt (N2r_len _ _)]
  refine aa<|bC (E:=EE [227])<|Bnr (v:=I ((k+1:Nat):Int)) rfl rfl (fun _=>(aA _ _ _ oi).trans rr)<|Mv rfl<|aa<|?_
  repeat (first|refine a7 ?_|refine bY ?_)
  exact aR<|⟨rfl,⟨k+1,om⟩,_,by show n-(k+1)<n-k;omega,rfl,trv,trv⟩
 ·have hke:k=n:=by simp at hc;omega
  clear hc
  subst hke
  refine be<|ae (E:=EE [227])<|Mv rfl<|Asg rfl<|Asg rfl<|aa<|am<|?_
  repeat (first|refine bq ?_|refine bt ?_|refine dO ?_)
  exact cY rfl rfl rfl (fun w hw=>⟨_,_,rfl,hgw.trans (ac hw),.inr ⟨b30,rfl,(hw.own 30 b30 _ _ rfl).2.elim (fun h=>Nat.le_trans hgw.size h) False.elim,by rw[←kv (s:=12) (fun i hi=>if_pos hi)];exact (hw.own 30 b30 _ _ rfl).1.range⟩⟩)
theorem pfc:PFC:=by
 intro a1 cap1 msg a2 cap2 dst z w hl1 hc1 hl2 hc2 hw hb1 hb2
 have err:FBad msg dst z→∀{e:Ending} {w':World},e=.returned (.tuple #[.slice none 0 0,I 130])∧Grow w w'→∃v,e=.returned v∧Grow w w'∧RFt msg dst z w w' v:=fun hb _ _ h=>⟨_,h.1,h.2,fun _=>rfl,fun hn=>absurd hb hn⟩
 by_cases h0:z<0
 ·exact (pf_0 a1 cap1 msg a2 cap2 dst z h0 w hw).mono fun _ _ h=>err (.inl h0) h
 by_cases h1:32<z
 ·exact (pf_1 a1 cap1 msg a2 cap2 dst z h1 w hw).mono fun _ _ h=>err (.inr (.inl h1)) h
 by_cases h2:255<dst.length∨65536<msg.length
 ·exact (pf_2 a1 cap1 msg a2 cap2 dst hc1 hc2 hl1 hl2 z h0 h1 h2 w hw hb1 hb2).mono fun _ _ h=>err (.inr (.inr h2)) h
 obtain ⟨n,rfl⟩: ∃n:Nat,z=(n:Int):=⟨z.toNat,om⟩
 refine (Um a1 cap1 msg a2 cap2 dst n hc1 hc2 hl1 hl2 om om om w hw hb1 hb2).mono fun e w' ⟨a,cap,he,hg,hc⟩=>⟨_,he,hg,fun hb=>absurd hb ?_,fun _=>⟨a,cap,rfl,hc⟩⟩
 rintro (h|h|h|h)<;>omega
end Xm
end
end Go.Proofs.YtfgacclgjklgnaaGreatDoor
