/- L6 -/
import Derived.Test.YtfgacclgjklgnaaGreatDoorL5
set_option maxRecDepth 100000
set_option maxHeartbeats 1000000
namespace Go.Proofs.YtfgacclgjklgnaaGreatDoor
open Go.Proofs.Tryz
open Go.RowKit
attribute [local simp] a5 be aE aB aP aY aM aJ aH PLl cB cz N1l cD cC cE ba bj aZ a9 bd J2.bk dw
section
open J2
def cXN:Nat->W2
 |0=>(zp 0x5c759507e8e333ebb5b7a9a47d7ed8532c52d39fd3a042a88b58423c50ae15d5c2638e343d9c71c6238aaaaaaaa97d6,zp 0x5c759507e8e333ebb5b7a9a47d7ed8532c52d39fd3a042a88b58423c50ae15d5c2638e343d9c71c6238aaaaaaaa97d6)
 |1=>(0,zp 0x11560bf17baa99bc32126fced787c88f984f87adf7ae0c7f9a208c6b4f20a4181472aaa9cb8d555526a9ffffffffc71a)
 |2=>(zp 0x11560bf17baa99bc32126fced787c88f984f87adf7ae0c7f9a208c6b4f20a4181472aaa9cb8d555526a9ffffffffc71e,zp 0x8ab05f8bdd54cde190937e76bc3e447cc27c3d6fbd7063fcd104635a790520c0a395554e5c6aaaa9354ffffffffe38d)
 |_=>(zp 0x171d6541fa38ccfaed6dea691f5fb614cb14b4e7f4e810aa22d6108f142b85757098e38d0f671c7188e2aaaaaaaa5ed1,0)
def cYN:Nat->W2
 |0=>(zp 0x1530477c7ab4113b59a4c18b076d11930f7da5d4a07f649bf54439d87d27e500fc8c25ebf8c92f6812cfc71c71c6d706,zp 0x1530477c7ab4113b59a4c18b076d11930f7da5d4a07f649bf54439d87d27e500fc8c25ebf8c92f6812cfc71c71c6d706)
 |1=>(0,zp 0x5c759507e8e333ebb5b7a9a47d7ed8532c52d39fd3a042a88b58423c50ae15d5c2638e343d9c71c6238aaaaaaaa97be)
 |2=>(zp 0x11560bf17baa99bc32126fced787c88f984f87adf7ae0c7f9a208c6b4f20a4181472aaa9cb8d555526a9ffffffffc71c,zp 0x8ab05f8bdd54cde190937e76bc3e447cc27c3d6fbd7063fcd104635a790520c0a395554e5c6aaaa9354ffffffffe38f)
 |_=>(zp 0x124c9ad43b6cf79bfbf7043de3811ad0761b0f37a1e26286b0e977c69aa274524e79097a56dc4bd9e1b371c71c718b10,0)
def RPr(f:Nat->W2)(i:Nat):L6:=fe (f i).1++fe (f i).2
theorem g8(f:Nat->W2)(i:Nat):(RPr f i).length=12:=by simp[RPr]
attribute [local simp] g8
end
section
open J2
attribute [local simp] g8
theorem ent298:ai prog 298:=λ_ _=>kr
theorem lK(s0:ByteArray)(xs:L8)(h0:s0.data.toList=xs.map (λx=>UInt8.ofBitVec x)):PUR 286 [.string s0] (EV (FV xs)):=by
 intro w hw;refine Hf func286 O hw<|λhGF=>ae (E:=EE [1000022])<|Al 2 hGF zv52<|λb2=>aa<|ae (E:=EE [1000022])<|Mv O<|?_;refine xv 7 (xs:=xs) O hGF O underlying9 underlying22 underlying5 h0 O O (λb7 c7 k7 e7 l7 t7=> ?_);refine Cc O ent90 (λw' hC hG=>dR _ _ xs w' hG (cx (aX (n:=7) O w' hC) t7))<|Mv O<|Ext O O<|Ext O O<|Al 3 hGF zv52<|λb3=>Sa 3 hGF O O O bq<|Asg O<|aa<|ae (E:=EE [1000022])<|La 3 O O bq<|Sa 2 hGF O O O bq<|aa<|ak<|Rr<|?_;exact au 2 O O O isAgg52 sizeOf52 sm (λw hw=>⟨rfl,ac hw⟩)
def R24(f g:Nat->W2)(i:Nat):L6:=(fe (f i).1++fe (f i).2)++(fe (g i).1++fe (g i).2)
theorem jU(f g:Nat->W2)(i:Nat):(R24 f g i).length=24:=by simp[R24]
attribute [local simp] jU
def z4:Nat->W2:=λ_=>ze2
abbrev PF(f g:Nat->W2):Value:=aI (RW 24 (R24 f g) 4)
theorem zv321(w:World):(zeroValue 321).run prog w=.ok (aI ((fe 0++fe 0)++(fe 0++fe 0))) w:=by rw[iZ];exact (zeroValue321 w).trans rr
theorem kL:Two prog 321 ⟨ "over",92,0,false, "", "pharos/swu",0⟩ ⟨ "under",92,12,false, "", "pharos/swu",96⟩ 12 12 (fe 0++fe 0) (fe 0++fe 0):=⟨underlying321,rfl,rfl,sizeOf92,sizeOf92,zv321,sm,sm⟩
theorem Rc:RW 24 (R24 z4 z4) 4=List.replicate 96 0#64:=by
 have e: ∀i,R24 z4 z4 i=List.replicate 24 0#64:=λi=>by
  show (fe 0++fe 0)++(fe 0++fe 0)=List.replicate 24 0#64;rw[iZ];rfl
 simp only[RW,e];rfl
theorem zv322(w:World):(zeroValue 322).run prog w=.ok (PF z4 z4) w:=by
 show _=Result.ok (Value.agg ((RW 24 (R24 z4 z4) 4).map U64).toArray) w;rw[Rc];exact (zeroValue322 w).trans rr
theorem Ao(f z:Nat->L6): ∀i,i<4->yU f [0,1,2,3] z i=f i:=λi hi=>pG _ _ _ _ (.inl (by
 match i,hi with
 |0,_=>decide
 |1,_=>decide
 |2,_=>decide
 |3,_=>decide))
theorem ql(f g:Nat->W2)(w:World)(hw:Gt w):CLS 285 [PF f g].toArray w (λe w'=> ∃b1,e=.returned (.func (.func 298) #[] #[pnt b1])/\Grow w w'/\w.heap.size<=b1/\OwnB w' b1 ((RW 24 (R24 f g) 4).map U64) 322):=by
 refine Hf func285 O hw<|λhGF=>Xp<|Bx 1 hGF O<|λb1=>Asg O<|aa<|Xp<|fP O O O O<|Asg O<|aa<|ak<|Rr<|?_;exact aO O O (λw hw=>⟨b1,rfl,ac hw,(hw.own 1 b1 _ _ O).2.elim id False.elim,(hw.own 1 b1 _ _ O).1⟩)
def PS4(f g:Nat->W2):List (List Value):=(List.range 4).map λ(k:Nat)=>[EV2 (f k),EV2 (g k)]
theorem ua(f g:Nat->W2):(PS4 f g).length=4:=by rw[PS4,List.length_map,List.length_range]
theorem AV(f g:Nat->W2)(k:Nat)(h:k<4):(PS4 f g)[k]? =some [EV2 (f k),EV2 (g k)]:=by
 rw[PS4,List.getElem?_map,List.getElem?_range h];rfl
theorem ON(f g:Nat->W2)(k:Nat)(v:List Value)(h:(PS4 f g)[k]? =some v):k<4/\v=[EV2 (f k),EV2 (g k)]:=by
 have hk:k<4:=by
  rcases Nat.lt_or_ge k 4 with hk|hk
  ·exact hk
  ·rw[List.getElem?_eq_none (by rw[ua];exact hk)]at h;cases h
 exact ⟨hk,(Option.some.inj ((AV f g k hk).symm.trans h)).symm⟩
def Sv(bb:Nat)(f g:Nat->W2):Cls:=λw=>w.rangeAt bb 0 ((RW 24 (R24 f g) 4).map U64)
theorem IS(bb:Nat)(f g:Nat->W2):eS prog Gt 298 [pnt bb] (PS4 f g) (Sv bb f g):=by
 intro l J Jx hJ hJx hRd hGx hY w hj;have okJ: ∀k,BOk Gt (Bi w (λY=>J Y k)):=λk=>⟨λ_ _ _ h=>(hRd _ _ _ h.rid).1,hJ k⟩;have okX: ∀k,BOk Gt (Bi w (λY=>Jx Y k)):=λk=>⟨λ_ _ _ h=>hGx _ _ _ h.rid,hJx k⟩;have c1: ∀k L w',Hp (Bi w (λY=>J Y k)) L w'->Sv bb f g w':=λk L w' h=>(hRd _ _ _ h.rid).2;refine ch (G:=Gt) func298 O O (Hp (Bi w (λY=>J Y 0)) []) (bZ (Bi w _) hj (hJ 0)) (ay (okJ 0))<|Xp<|dK O isAgg322 sizeOf322 sm (λw h=>c1 _ _ w h) O O<|Mv O<|aa<|am<|fV (ι:={i:Nat // i<=4}) (λy=>[(0,.func (.yield l) #[] #[]),(1,pnt bb),(5,PF f g),(6,I (y.1:Int))]) (λy=>Bi w (λY=>J Y y.1)) (λy=>[]) (λy=>4-y.1) ⟨0,Nat.zero_le _⟩ (λ_=>okJ _) O trv trivial<|?_;rintro ⟨i,hi⟩;dsimp only;refine Xp<|Bnr O O (λ_=>aC _ _ _)<|aa<|ah<|?_;refine bE O (λhc=> ?_) (λhc=> ?_)
 ·have hi2:i<4:=by simp at hc;omega
  refine aq<|ah<|am<|Xp<|Jk (s:=24) (R24 f g) i O O underlying322 sizeOf321 isAgg321 O om (jU _ _ _) O O<|Al 4 (okJ _) zv321<|λb4=>Sa 4 (okJ _) O O O XM<|aa<|Xp<|Mv O<|Fa 0 O underlying321 O sizeOf92<|av 4 _ O O isAgg92 sizeOf92 sm eu O O<|Fa 12 O underlying321 O sizeOf92<|av 4 _ O O isAgg92 sizeOf92 sm (gP sm) O O<|?_;refine c9 (hY.b (k:=i) (AV f g i om) w) (okJ _) (okX _) O O O O O ?_ ?_
  ·refine aU O (λ_=>aF _) O O<|aa<|aw O<|aq<|Xq<|Bnr O O (λ_=>az _ _ _ oi)<|Mv O<|aa<|?_
   repeat (refine aW ?_)
   exact aQ<|⟨rfl,⟨i+1,om⟩,_,by show 4-(i+1)<4-i;omega,rfl,trv,trivial⟩
  ·refine aU O (λ_=>aF _) O O<|aa<|aL O<|ak<|Rr<|?_
   repeat (first|refine df ?_|refine ce ?_|refine dd O ?_|refine bx ?_|refine bv ?_)
   exact cX O (λw hw=>⟨⟨_,rfl⟩,.inr ⟨_,bG (hJx _) hw.rid⟩⟩)
 ·obtain rfl:i=4:=by simp at hc;omega
  refine a6 ?_
  repeat (first|refine df ?_|refine ce ?_|refine dd O ?_|refine bx ?_|refine bv ?_)
  refine cy O (λw hw=>⟨⟨_,rfl⟩,.inl ?_⟩);have:=bG (hJ _) hw.rid;rw[ua];exact this
end
section
open J2
attribute [local simp] g8 jU
theorem iE{w w':World}{b o:Nat}{cs:List Value}(hg:Grow w w')(h:w.rangeAt b o cs):w'.rangeAt b o cs:=λj v hj=>(hg.cell (block_lt_of_cell (h j v hj))).trans (h j v hj)
theorem qf(x:W2)(f g:Nat->W2)(bb:Nat)(w:World)(hw:Gt w)(hRs: ∀w',Grow w w'->Sv bb f g w'):
 CLS 264 [EV2 x,.func (.func 298) #[] #[pnt bb]].toArray w (λr w'=>r=.returned (.tuple #[EV2 (HK f x 4),EV2 (HK g x 4)])/\Grow w w'):=by
 have hGF:BOk Gt (pl w):=gt_low.plain hw;refine ck (G:=Gt) func264 O O (Hp (pl w) []) (bZ (pl w) trivial ap) (ay hGF)<|Xp<|Bx 2 hGF O<|λb2=>Al 4 hGF zv92<|λb4=>Al 5 hGF zv92<|λb5=>aa<|ah<|Xp<|Mv O<|aa<|am<|?_;refine ep (λ_=>pl w) (λ_ _=>pl w) (λ_=>hGF) (λ_ _=>hGF) (λ_=>rfl) (λ_ _=>rfl) O O ent298 (IS bb f g) (λx hx=>by obtain ⟨k,hk,rfl⟩:=List.mem_map.1 hx;rfl) O (λk=>[(2,b2,(fe (x).1++fe (x).2).map U64,92),(4,b4,(fe (HK f x k).1++fe (HK f x k).2).map U64,92),(5,b5,(fe (HK g x k).1++fe (HK g x k).2).map U64,92)]) (λ_ _ _=>False) trv (λk _ w' h=>hRs w' (h.below (λ_ h=>h))) ?_ ?_ (λ_ _ _ _ _ h=>h.elim)
 ·intro k v hx R hR
  obtain ⟨hk,rfl⟩:=ON f g k v hx;refine Xp<|dJ 6 (hR (pl w) O hGF).1 zv92 O O<|λb6=>aA 6 (hR (pl w) O hGF).1 O O O sizeOf92 sm sm (bi _) O<|aa<|Xq<|dJ 7 (hR (pl w) O hGF).1 zv92 O O<|λb7=>aA 7 (hR (pl w) O hGF).1 O O O sizeOf92 sm sm (bi _) O<|aa<|?_;refine ⟨rfl,_,rfl, ?_⟩;refine am<|Xe []<|La 4 O O aR<|La 2 O O aR<|Ca O (dv _ _)<|La 6 O O aR<|Ca O (eQ _ _)<|La 5 O O aR<|La 2 O O aR<|Ca O (dv _ _)<|La 7 O O aR<|Ca O (eQ _ _)<|aA 4 (hR (pl w) O hGF).2.1 O O O sizeOf92 sm sm (bi _) O<|aA 5 (hR (pl w) O hGF).2.1 O O O sizeOf92 sm sm (bi _) O<|aa<|?_
  repeat (refine aW ?_)
  exact ⟨_,rfl,trv⟩
 ·intro D hD
  rw[ua];refine qt (E:=EE []) (λX=>X=Hp (B2 (pl w) D) [(5,b5,(fe (HK g x 4).1++fe (HK g x 4).2).map U64,92)]) (mkB [4]) (rkB [22]) [0,1,2,3] dU O kr kr kr<|jf O O<|La 4 O O aR<|aa<|qW (X:=Hp (B2 (pl w) D) [(5,b5,(fe (HK g x 4).1++fe (HK g x 4).2).map U64,92)]) O (ej hD.r trv) (λ_=>rfl)<|La 5 O O aR<|aa<|mx O<|Sa 4 hD O O O aR<|aa<|?_;refine ⟨λ_ X hX _=>by subst hX;exact ej hD.r trv, ?_⟩
  refine mx O<|Sa 5 hD O O O aR<|aa<|?_;refine ⟨λh=>(by cases h), ?_⟩
  refine lF<|ak<|Rr<|?_;exact dr (.inl O) ap (uw 4 5 O O O O O isAgg92 sizeOf92 sm sm (λw hw=>⟨rfl,ac hw⟩))
def oX(k:Nat):W2:=cXN (3-k)
def oY(k:Nat):W2:=cYN (3-k)
def uX:Nat->W2
 |0=>ze2
 |1=>on2
 |2=>(zp 12,-zp 12)
 |_=>(0,-zp 72)
def uY:Nat->W2
 |0=>on2
 |1=>(zp 18,-zp 18)
 |2=>(0,-zp 216)
 |_=>(-zp 432,-zp 432)
theorem oX_h(x:W2):HK oX x 4=R2.pev iXN x:=Rh oX x
theorem oY_h(x:W2):HK oY x 4=R2.pev iYN x:=Rh oY x
theorem uX_h(x:W2):HK uX x 4=R2.pev iXD x:=(HK_z uX x O).trans (by rw[show [uX 3,uX 2,uX 1]=iXD by decide+kernel])
theorem uY_h(x:W2):HK uY x 4=R2.pev iYD x:=(Rh uY x).trans (by rw[show [uY 3,uY 2,uY 1,uY 0]=iYD by decide+kernel])
def pb0:L8:=[23#8,29#8,101#8,65#8,250#8,56#8,204#8,250#8,237#8,109#8,234#8,105#8,31#8,95#8,182#8,20#8,203#8,20#8,180#8,231#8,244#8,232#8,16#8,170#8,34#8,214#8,16#8,143#8,20#8,43#8,133#8,117#8,112#8,152#8,227#8,141#8,15#8,103#8,28#8,113#8,136#8,226#8,170#8,170#8,170#8,170#8,94#8,209#8]
theorem Ze:FV pb0=zp 0x171d6541fa38ccfaed6dea691f5fb614cb14b4e7f4e810aa22d6108f142b85757098e38d0f671c7188e2aaaaaaaa5ed1:=by rw[FV,if_pos ⟨rfl,by decide+kernel⟩];decide+kernel
theorem Zh(s0:ByteArray)(h0:s0.data.toList=pb0.map (λx=>UInt8.ofBitVec x)){a:Zp}(ha:zp 0x171d6541fa38ccfaed6dea691f5fb614cb14b4e7f4e810aa22d6108f142b85757098e38d0f671c7188e2aaaaaaaa5ed1=a):PUR 286 [.string s0] (EV a):=by
 have h:=lK s0 pb0 h0;rw[Ze,ha]at h;exact h
def pb1:L8:=[17#8,86#8,11#8,241#8,123#8,170#8,153#8,188#8,50#8,18#8,111#8,206#8,215#8,135#8,200#8,143#8,152#8,79#8,135#8,173#8,247#8,174#8,12#8,127#8,154#8,32#8,140#8,107#8,79#8,32#8,164#8,24#8,20#8,114#8,170#8,169#8,203#8,141#8,85#8,85#8,38#8,169#8,255#8,255#8,255#8,255#8,199#8,30#8]
theorem Vy:FV pb1=zp 0x11560bf17baa99bc32126fced787c88f984f87adf7ae0c7f9a208c6b4f20a4181472aaa9cb8d555526a9ffffffffc71e:=by rw[FV,if_pos ⟨rfl,by decide+kernel⟩];decide+kernel
theorem V9(s0:ByteArray)(h0:s0.data.toList=pb1.map (λx=>UInt8.ofBitVec x)){a:Zp}(ha:zp 0x11560bf17baa99bc32126fced787c88f984f87adf7ae0c7f9a208c6b4f20a4181472aaa9cb8d555526a9ffffffffc71e=a):PUR 286 [.string s0] (EV a):=by
 have h:=lK s0 pb1 h0;rw[Vy,ha]at h;exact h
def pb2:L8:=[8#8,171#8,5#8,248#8,189#8,213#8,76#8,222#8,25#8,9#8,55#8,231#8,107#8,195#8,228#8,71#8,204#8,39#8,195#8,214#8,251#8,215#8,6#8,63#8,205#8,16#8,70#8,53#8,167#8,144#8,82#8,12#8,10#8,57#8,85#8,84#8,229#8,198#8,170#8,170#8,147#8,84#8,255#8,255#8,255#8,255#8,227#8,141#8]
theorem UM:FV pb2=zp 0x8ab05f8bdd54cde190937e76bc3e447cc27c3d6fbd7063fcd104635a790520c0a395554e5c6aaaa9354ffffffffe38d:=by rw[FV,if_pos ⟨rfl,by decide+kernel⟩];decide+kernel
theorem YO(s0:ByteArray)(h0:s0.data.toList=pb2.map (λx=>UInt8.ofBitVec x)){a:Zp}(ha:zp 0x8ab05f8bdd54cde190937e76bc3e447cc27c3d6fbd7063fcd104635a790520c0a395554e5c6aaaa9354ffffffffe38d=a):PUR 286 [.string s0] (EV a):=by
 have h:=lK s0 pb2 h0;rw[UM,ha]at h;exact h
def pb3:L8:=[17#8,86#8,11#8,241#8,123#8,170#8,153#8,188#8,50#8,18#8,111#8,206#8,215#8,135#8,200#8,143#8,152#8,79#8,135#8,173#8,247#8,174#8,12#8,127#8,154#8,32#8,140#8,107#8,79#8,32#8,164#8,24#8,20#8,114#8,170#8,169#8,203#8,141#8,85#8,85#8,38#8,169#8,255#8,255#8,255#8,255#8,199#8,26#8]
theorem YV:FV pb3=zp 0x11560bf17baa99bc32126fced787c88f984f87adf7ae0c7f9a208c6b4f20a4181472aaa9cb8d555526a9ffffffffc71a:=by rw[FV,if_pos ⟨rfl,by decide+kernel⟩];decide+kernel
theorem Zn(s0:ByteArray)(h0:s0.data.toList=pb3.map (λx=>UInt8.ofBitVec x)){a:Zp}(ha:zp 0x11560bf17baa99bc32126fced787c88f984f87adf7ae0c7f9a208c6b4f20a4181472aaa9cb8d555526a9ffffffffc71a=a):PUR 286 [.string s0] (EV a):=by
 have h:=lK s0 pb3 h0;rw[YV,ha]at h;exact h
def pb4:L8:=[5#8,199#8,89#8,80#8,126#8,142#8,51#8,62#8,187#8,91#8,122#8,154#8,71#8,215#8,237#8,133#8,50#8,197#8,45#8,57#8,253#8,58#8,4#8,42#8,136#8,181#8,132#8,35#8,197#8,10#8,225#8,93#8,92#8,38#8,56#8,227#8,67#8,217#8,199#8,28#8,98#8,56#8,170#8,170#8,170#8,170#8,151#8,214#8]
theorem U1:FV pb4=zp 0x5c759507e8e333ebb5b7a9a47d7ed8532c52d39fd3a042a88b58423c50ae15d5c2638e343d9c71c6238aaaaaaaa97d6:=by rw[FV,if_pos ⟨rfl,by decide+kernel⟩];decide+kernel
theorem N0(s0:ByteArray)(h0:s0.data.toList=pb4.map (λx=>UInt8.ofBitVec x)){a:Zp}(ha:zp 0x5c759507e8e333ebb5b7a9a47d7ed8532c52d39fd3a042a88b58423c50ae15d5c2638e343d9c71c6238aaaaaaaa97d6=a):PUR 286 [.string s0] (EV a):=by
 have h:=lK s0 pb4 h0;rw[U1,ha]at h;exact h
theorem jB(w:World)(hw:Gt w):CLS 265 [].toArray w (λe w'=> ∃b1,e=.returned (.func (.func 298) #[] #[pnt b1])/\Grow w w'/\w.heap.size<=b1/\OwnB w' b1 ((RW 24 (R24 oX uX) 4).map U64) 322):=by
 refine Hf func265 O hw<|λhGF=>ae (E:=EE [285,2000285])<|Asg O<|aa<|ae (E:=EE [285,2000285])<|Ca O (Zh _ O O)<|zQ fx O sm O O<|Jt fx O O<|cF kL O O sm sm O O<|Ca O (V9 _ O O)<|Ca O (YO _ O O)<|cF fx O O sm sm O O<|Ca O (sk)<|cF kL O O sm sm O O<|Ca O (Zn _ O O)<|na fx O sm O O<|Ca O (dV _)<|Ca O (dV _)<|Ca O (dQ _)<|cF fx O O sm sm O O<|cF kL O O sm sm O O<|Ca O (N0 _ O O)<|Ca O (N0 _ O O)<|cF fx O O sm sm O O<|Ca O (dV _)<|Ca O (dQ _)<|na fx O sm O O<|cF kL O O sm sm O O<|qo (s:=24) (R24 oX uX) (R24 oX uX) [0,1,2,3] O O O (λi _=>jU _ _ _) underlying322 sizeOf321 zv322 (Ao _ _) O O<|?_;refine bM O O ent285 O O (λw' hw'=>(ql oX uX w' (hGF.g _ _ _ hw')).mono λe' w'' h=> ?_);obtain ⟨c1,rfl,hg,h1,ho⟩:=h;refine ⟨_,_,rfl,ay hGF,hw'.news ap hg [(33,c1,(RW 24 (R24 oX uX) 4).map U64,322)] ?_ bR,bN ap O, ?_⟩
 ·intro n' b' c' t' hl
  rcases aK hl with ⟨_,e⟩|⟨_,hl⟩
  ·cases e;exact ⟨h1,ho⟩
  ·cases hl
 clear hw' hg h1 ho;refine Asg O<|aa<|ak<|Rr<|?_;exact aO O O (λw hw=>⟨c1,rfl,ac hw,(hw.own 33 c1 _ _ O).2.elim id False.elim,(hw.own 33 c1 _ _ O).1⟩)
def pb5:L8:=[18#8,76#8,154#8,212#8,59#8,108#8,247#8,155#8,251#8,247#8,4#8,61#8,227#8,129#8,26#8,208#8,118#8,27#8,15#8,55#8,161#8,226#8,98#8,134#8,176#8,233#8,119#8,198#8,154#8,162#8,116#8,82#8,78#8,121#8,9#8,122#8,86#8,220#8,75#8,217#8,225#8,179#8,113#8,199#8,28#8,113#8,139#8,16#8]
theorem W9:FV pb5=zp 0x124c9ad43b6cf79bfbf7043de3811ad0761b0f37a1e26286b0e977c69aa274524e79097a56dc4bd9e1b371c71c718b10:=by rw[FV,if_pos ⟨rfl,by decide+kernel⟩];decide+kernel
theorem X0(s0:ByteArray)(h0:s0.data.toList=pb5.map (λx=>UInt8.ofBitVec x)){a:Zp}(ha:zp 0x124c9ad43b6cf79bfbf7043de3811ad0761b0f37a1e26286b0e977c69aa274524e79097a56dc4bd9e1b371c71c718b10=a):PUR 286 [.string s0] (EV a):=by
 have h:=lK s0 pb5 h0;rw[W9,ha]at h;exact h
def pb6:L8:=[17#8,86#8,11#8,241#8,123#8,170#8,153#8,188#8,50#8,18#8,111#8,206#8,215#8,135#8,200#8,143#8,152#8,79#8,135#8,173#8,247#8,174#8,12#8,127#8,154#8,32#8,140#8,107#8,79#8,32#8,164#8,24#8,20#8,114#8,170#8,169#8,203#8,141#8,85#8,85#8,38#8,169#8,255#8,255#8,255#8,255#8,199#8,28#8]
theorem XU:FV pb6=zp 0x11560bf17baa99bc32126fced787c88f984f87adf7ae0c7f9a208c6b4f20a4181472aaa9cb8d555526a9ffffffffc71c:=by rw[FV,if_pos ⟨rfl,by decide+kernel⟩];decide+kernel
theorem VQ(s0:ByteArray)(h0:s0.data.toList=pb6.map (λx=>UInt8.ofBitVec x)){a:Zp}(ha:zp 0x11560bf17baa99bc32126fced787c88f984f87adf7ae0c7f9a208c6b4f20a4181472aaa9cb8d555526a9ffffffffc71c=a):PUR 286 [.string s0] (EV a):=by
 have h:=lK s0 pb6 h0;rw[XU,ha]at h;exact h
def pb7:L8:=[8#8,171#8,5#8,248#8,189#8,213#8,76#8,222#8,25#8,9#8,55#8,231#8,107#8,195#8,228#8,71#8,204#8,39#8,195#8,214#8,251#8,215#8,6#8,63#8,205#8,16#8,70#8,53#8,167#8,144#8,82#8,12#8,10#8,57#8,85#8,84#8,229#8,198#8,170#8,170#8,147#8,84#8,255#8,255#8,255#8,255#8,227#8,143#8]
theorem VR:FV pb7=zp 0x8ab05f8bdd54cde190937e76bc3e447cc27c3d6fbd7063fcd104635a790520c0a395554e5c6aaaa9354ffffffffe38f:=by rw[FV,if_pos ⟨rfl,by decide+kernel⟩];decide+kernel
theorem UJ(s0:ByteArray)(h0:s0.data.toList=pb7.map (λx=>UInt8.ofBitVec x)){a:Zp}(ha:zp 0x8ab05f8bdd54cde190937e76bc3e447cc27c3d6fbd7063fcd104635a790520c0a395554e5c6aaaa9354ffffffffe38f=a):PUR 286 [.string s0] (EV a):=by
 have h:=lK s0 pb7 h0;rw[VR,ha]at h;exact h
def pb8:L8:=[5#8,199#8,89#8,80#8,126#8,142#8,51#8,62#8,187#8,91#8,122#8,154#8,71#8,215#8,237#8,133#8,50#8,197#8,45#8,57#8,253#8,58#8,4#8,42#8,136#8,181#8,132#8,35#8,197#8,10#8,225#8,93#8,92#8,38#8,56#8,227#8,67#8,217#8,199#8,28#8,98#8,56#8,170#8,170#8,170#8,170#8,151#8,190#8]
theorem Zs:FV pb8=zp 0x5c759507e8e333ebb5b7a9a47d7ed8532c52d39fd3a042a88b58423c50ae15d5c2638e343d9c71c6238aaaaaaaa97be:=by rw[FV,if_pos ⟨rfl,by decide+kernel⟩];decide+kernel
theorem YP(s0:ByteArray)(h0:s0.data.toList=pb8.map (λx=>UInt8.ofBitVec x)){a:Zp}(ha:zp 0x5c759507e8e333ebb5b7a9a47d7ed8532c52d39fd3a042a88b58423c50ae15d5c2638e343d9c71c6238aaaaaaaa97be=a):PUR 286 [.string s0] (EV a):=by
 have h:=lK s0 pb8 h0;rw[Zs,ha]at h;exact h
def pb9:L8:=[21#8,48#8,71#8,124#8,122#8,180#8,17#8,59#8,89#8,164#8,193#8,139#8,7#8,109#8,17#8,147#8,15#8,125#8,165#8,212#8,160#8,127#8,100#8,155#8,245#8,68#8,57#8,216#8,125#8,39#8,229#8,0#8,252#8,140#8,37#8,235#8,248#8,201#8,47#8,104#8,18#8,207#8,199#8,28#8,113#8,198#8,215#8,6#8]
theorem WP:FV pb9=zp 0x1530477c7ab4113b59a4c18b076d11930f7da5d4a07f649bf54439d87d27e500fc8c25ebf8c92f6812cfc71c71c6d706:=by rw[FV,if_pos ⟨rfl,by decide+kernel⟩];decide+kernel
theorem MX(s0:ByteArray)(h0:s0.data.toList=pb9.map (λx=>UInt8.ofBitVec x)){a:Zp}(ha:zp 0x1530477c7ab4113b59a4c18b076d11930f7da5d4a07f649bf54439d87d27e500fc8c25ebf8c92f6812cfc71c71c6d706=a):PUR 286 [.string s0] (EV a):=by
 have h:=lK s0 pb9 h0;rw[WP,ha]at h;exact h
theorem jE(w:World)(hw:Gt w):CLS 266 [].toArray w (λe w'=> ∃b1,e=.returned (.func (.func 298) #[] #[pnt b1])/\Grow w w'/\w.heap.size<=b1/\OwnB w' b1 ((RW 24 (R24 oY uY) 4).map U64) 322):=by
 refine Hf func266 O hw<|λhGF=>ae (E:=EE [285,2000285])<|Asg O<|aa<|ae (E:=EE [285,2000285])<|Ca O (X0 _ O O)<|zQ fx O sm O O<|Ca O (sk)<|cF kL O O sm sm O O<|Ca O (VQ _ O O)<|Ca O (UJ _ O O)<|cF fx O O sm sm O O<|Ca O (dV _)<|Ca O (dV _)<|Ca O (dQ _)<|cF fx O O sm sm O O<|cF kL O O sm sm O O<|Ca O (YP _ O O)<|na fx O sm O O<|Ca O (dV _)<|Ca O (dQ _)<|na fx O sm O O<|cF kL O O sm sm O O<|Ca O (MX _ O O)<|Ca O (MX _ O O)<|cF fx O O sm sm O O<|Ca O (dV _)<|Ca O (dQ _)<|Ca O (dV _)<|Ca O (dQ _)<|cF fx O O sm sm O O<|cF kL O O sm sm O O<|qo (s:=24) (R24 oY uY) (R24 oY uY) [0,1,2,3] O O O (λi _=>jU _ _ _) underlying322 sizeOf321 zv322 (Ao _ _) O O<|?_;refine bM O O ent285 O O (λw' hw'=>(ql oY uY w' (hGF.g _ _ _ hw')).mono λe' w'' h=> ?_);obtain ⟨c1,rfl,hg,h1,ho⟩:=h;refine ⟨_,_,rfl,ay hGF,hw'.news ap hg [(33,c1,(RW 24 (R24 oY uY) 4).map U64,322)] ?_ bR,bN ap O, ?_⟩
 ·intro n' b' c' t' hl
  rcases aK hl with ⟨_,e⟩|⟨_,hl⟩
  ·cases e;exact ⟨h1,ho⟩
  ·cases hl
 clear hw' hg h1 ho;refine Asg O<|aa<|ak<|Rr<|?_;exact aO O O (λw hw=>⟨c1,rfl,ac hw,(hw.own 33 c1 _ _ O).2.elim id False.elim,(hw.own 33 c1 _ _ O).1⟩)
theorem rH(x:W2)(bb:Nat)(w:World)(hw:Gt w)(h:w.rangeAt bb 0 ((RW 24 (R24 oX uX) 4).map U64)):CLS 264 [EV2 x,.func (.func 298) #[] #[pnt bb]].toArray w (λr w'=>r=.returned (.tuple #[EV2 (R2.pev iXN x),EV2 (R2.pev iXD x)])/\Grow w w'):=by
 have e:=qf x oX uX bb w hw (λw' hg=>iE hg h);rw[oX_h,uX_h]at e;exact e
theorem qq(x:W2)(bb:Nat)(w:World)(hw:Gt w)(h:w.rangeAt bb 0 ((RW 24 (R24 oY uY) 4).map U64)):CLS 264 [EV2 x,.func (.func 298) #[] #[pnt bb]].toArray w (λr w'=>r=.returned (.tuple #[EV2 (R2.pev iYN x),EV2 (R2.pev iYD x)])/\Grow w w'):=by
 have e:=qf x oY uY bb w hw (λw' hg=>iE hg h);rw[oY_h,uY_h]at e;exact e
theorem U4{x y:W2}(h:ml2 y y=gO x):PUR 150 [EV2 (ml2 (R2.pev iXN x) (R2.pev iYD x)),EV2 (iv2 (ml2 (R2.pev iXD x) (R2.pev iYD x)))] (EV2 (XIs x)):=by
 have e:=dv (ml2 (R2.pev iXN x) (R2.pev iYD x)) (iv2 (ml2 (R2.pev iXD x) (R2.pev iYD x)));rw[UZ (zN h) (A2 h)]at e;exact e
theorem Yw{x y:W2}(h:ml2 y y=gO x):PUR 150 [EV2 (ml2 (ml2 y (R2.pev iYN x)) (R2.pev iXD x)),EV2 (iv2 (ml2 (R2.pev iXD x) (R2.pev iYD x)))] (EV2 (YIs x y)):=by
 have e:=dv (ml2 (ml2 y (R2.pev iYN x)) (R2.pev iXD x)) (iv2 (ml2 (R2.pev iXD x) (R2.pev iYD x)));rw[YX (zN h) (A2 h)]at e;exact e
theorem LF{x y:W2}(h:ml2 y y=gO x): ¬ml2 (R2.pev iXD x) (R2.pev iYD x)=ze2:=λe=>(fS e).elim (zN h) (A2 h)
def UE(x y:W2)(h:ml2 y y=gO x):GP:=Jw (XIs x) (YIs x y) (mw.1 (w7 h))
theorem piso(x y:W2)(h:ml2 y y=gO x):PUR 230 [EV2 x,EV2 y] (PtV (UE x y h)):=by
 intro w hw;refine Hf func230 O hw<|λhGF=>Xp<|Bx 2 hGF O<|λb2=>Bx 3 hGF O<|λb3=>Al 4 hGF zv94<|λb4=>aa<|?_;refine Gw (ι:=Nat×Nat) (λz=>[(2,pnt b2),(3,pnt b3),(4,pnt b4),(5,pnt z.1),(6,pnt z.2)]) (λz=>[(2,b2,(fe (x).1++fe (x).2).map U64,92),(3,b3,(fe (y).1++fe (y).2).map U64,92),(4,b4,(GL dX).map U64,94),(5,z.1,(fe (R2.pev iXN x).1++fe (R2.pev iXN x).2).map U64,92),(6,z.2,(fe (R2.pev iXD x).1++fe (R2.pev iXD x).2).map U64,92)]) hGF ?_ ?_
 ·refine xh (EE [265,2000265,2999999]) dU kr kr<|a7 (m:=9) [0] kr<|La 2 O O aR<|aa<|fX (m:=8) [1,6,7] kr kr dc<|?_
  intro i hi;simp only[List.mem_cons,List.not_mem_nil,or_false]at hi;rcases hi with rfl|rfl|rfl
  ·refine bM O O ent265 O O (λw' hw'=>(jB w' (hGF.g _ _ _ hw')).mono λe' w'' h=> ?_)
   obtain ⟨c1,rfl,hg,h1,ho⟩:=h;refine ⟨_,_,rfl,ay hGF,hw'.news ap hg [(33,c1,(RW 24 (R24 oX uX) 4).map U64,322)] ?_ bR,bN ap O, ?_⟩
   ·intro n' b' c' t' hl
    rcases aK hl with ⟨_,e⟩|⟨_,hl⟩
    ·cases e;exact ⟨h1,ho⟩
    ·cases hl
   clear hw' hg h1 ho;refine aa<|a7 (m:=4) [2,3,4,5] kr<|Cc O ent264 (λw' hC hG=>rH x _ w' hG (aX (n:=33) O w' hC))<|Mv O<|Ext O O<|Ext O O<|aa<|fX (m:=3) [6,7] kr kr dc<|?_;intro i hi;simp only[List.mem_cons,List.not_mem_nil,or_false]at hi;rcases hi with rfl|rfl
   ·exact bX 5 hGF zv92 O O O<|λb5=>aa<|a7 (m:=2) [7] kr<|bX 6 hGF zv92 O O O<|λb6=>aa<|a7 (m:=1) [8] kr<|Sa 5 hGF O O O aR<|aa<|a7 (m:=0) [9] kr<|Sa 6 hGF O O O aR<|aa<|dC kr<|aQ<|⟨rfl,(b5,b6),_,rfl,trv,trv⟩
   ·exact bX 6 hGF zv92 O O O<|λb6=>aa<|a7 (m:=2) [6] kr<|bX 5 hGF zv92 O O O<|λb5=>aa<|a7 (m:=1) [8] kr<|Sa 5 hGF O O O aR<|aa<|a7 (m:=0) [9] kr<|Sa 6 hGF O O O aR<|aa<|dC kr<|aQ<|⟨rfl,(b5,b6),_,rfl,trv,trv⟩
  ·refine bX 5 hGF zv92 O O O<|λb5=>aa<|fX (m:=7) [1,7] kr kr dc<|?_
   intro i hi;simp only[List.mem_cons,List.not_mem_nil,or_false]at hi;rcases hi with rfl|rfl
   ·refine bM O O ent265 O O (λw' hw'=>(jB w' (hGF.g _ _ _ hw')).mono λe' w'' h=> ?_)
    obtain ⟨c1,rfl,hg,h1,ho⟩:=h;refine ⟨_,_,rfl,ay hGF,hw'.news ap hg [(33,c1,(RW 24 (R24 oX uX) 4).map U64,322)] ?_ bR,bN ap O, ?_⟩
    ·intro n' b' c' t' hl
     rcases aK hl with ⟨_,e⟩|⟨_,hl⟩
     ·cases e;exact ⟨h1,ho⟩
     ·cases hl
    clear hw' hg h1 ho;exact aa<|a7 (m:=3) [2,3,4,5] kr<|Cc O ent264 (λw' hC hG=>rH x _ w' hG (aX (n:=33) O w' hC))<|Mv O<|Ext O O<|Ext O O<|aa<|a7 (m:=2) [7] kr<|bX 6 hGF zv92 O O O<|λb6=>aa<|a7 (m:=1) [8] kr<|Sa 5 hGF O O O aR<|aa<|a7 (m:=0) [9] kr<|Sa 6 hGF O O O aR<|aa<|dC kr<|aQ<|⟨rfl,(b5,b6),_,rfl,trv,trv⟩
   ·refine bX 6 hGF zv92 O O O<|λb6=>aa<|a7 (m:=6) [1] kr<|?_
    refine bM O O ent265 O O (λw' hw'=>(jB w' (hGF.g _ _ _ hw')).mono λe' w'' h=> ?_);obtain ⟨c1,rfl,hg,h1,ho⟩:=h;refine ⟨_,_,rfl,ay hGF,hw'.news ap hg [(33,c1,(RW 24 (R24 oX uX) 4).map U64,322)] ?_ bR,bN ap O, ?_⟩
    ·intro n' b' c' t' hl
     rcases aK hl with ⟨_,e⟩|⟨_,hl⟩
     ·cases e;exact ⟨h1,ho⟩
     ·cases hl
    clear hw' hg h1 ho;exact aa<|a7 (m:=2) [2,3,4,5] kr<|Cc O ent264 (λw' hC hG=>rH x _ w' hG (aX (n:=33) O w' hC))<|Mv O<|Ext O O<|Ext O O<|aa<|a7 (m:=1) [8] kr<|Sa 5 hGF O O O aR<|aa<|a7 (m:=0) [9] kr<|Sa 6 hGF O O O aR<|aa<|dC kr<|aQ<|⟨rfl,(b5,b6),_,rfl,trv,trv⟩
  ·refine bX 6 hGF zv92 O O O<|λb6=>aa<|fX (m:=7) [1,6] kr kr dc<|?_
   intro i hi;simp only[List.mem_cons,List.not_mem_nil,or_false]at hi;rcases hi with rfl|rfl
   ·refine bM O O ent265 O O (λw' hw'=>(jB w' (hGF.g _ _ _ hw')).mono λe' w'' h=> ?_)
    obtain ⟨c1,rfl,hg,h1,ho⟩:=h;refine ⟨_,_,rfl,ay hGF,hw'.news ap hg [(33,c1,(RW 24 (R24 oX uX) 4).map U64,322)] ?_ bR,bN ap O, ?_⟩
    ·intro n' b' c' t' hl
     rcases aK hl with ⟨_,e⟩|⟨_,hl⟩
     ·cases e;exact ⟨h1,ho⟩
     ·cases hl
    clear hw' hg h1 ho;exact aa<|a7 (m:=3) [2,3,4,5] kr<|Cc O ent264 (λw' hC hG=>rH x _ w' hG (aX (n:=33) O w' hC))<|Mv O<|Ext O O<|Ext O O<|aa<|a7 (m:=2) [6] kr<|bX 5 hGF zv92 O O O<|λb5=>aa<|a7 (m:=1) [8] kr<|Sa 5 hGF O O O aR<|aa<|a7 (m:=0) [9] kr<|Sa 6 hGF O O O aR<|aa<|dC kr<|aQ<|⟨rfl,(b5,b6),_,rfl,trv,trv⟩
   ·refine bX 5 hGF zv92 O O O<|λb5=>aa<|a7 (m:=6) [1] kr<|?_
    refine bM O O ent265 O O (λw' hw'=>(jB w' (hGF.g _ _ _ hw')).mono λe' w'' h=> ?_);obtain ⟨c1,rfl,hg,h1,ho⟩:=h;refine ⟨_,_,rfl,ay hGF,hw'.news ap hg [(33,c1,(RW 24 (R24 oX uX) 4).map U64,322)] ?_ bR,bN ap O, ?_⟩
    ·intro n' b' c' t' hl
     rcases aK hl with ⟨_,e⟩|⟨_,hl⟩
     ·cases e;exact ⟨h1,ho⟩
     ·cases hl
    clear hw' hg h1 ho;exact aa<|a7 (m:=2) [2,3,4,5] kr<|Cc O ent264 (λw' hC hG=>rH x _ w' hG (aX (n:=33) O w' hC))<|Mv O<|Ext O O<|Ext O O<|aa<|a7 (m:=1) [8] kr<|Sa 5 hGF O O O aR<|aa<|a7 (m:=0) [9] kr<|Sa 6 hGF O O O aR<|aa<|dC kr<|aQ<|⟨rfl,(b5,b6),_,rfl,trv,trv⟩
 ·rintro ⟨b5,b6⟩
  dsimp only;refine Gw (ι:=Nat×Nat) (λz=>[(2,pnt b2),(3,pnt b3),(4,pnt b4),(5,pnt b5),(6,pnt b6),(7,pnt z.1),(8,pnt z.2)]) (λz=>[(2,b2,(fe (x).1++fe (x).2).map U64,92),(3,b3,(fe (y).1++fe (y).2).map U64,92),(4,b4,(GL dX).map U64,94),(5,b5,(fe (R2.pev iXN x).1++fe (R2.pev iXN x).2).map U64,92),(6,b6,(fe (R2.pev iXD x).1++fe (R2.pev iXD x).2).map U64,92),(7,z.1,(fe (R2.pev iYN x).1++fe (R2.pev iYN x).2).map U64,92),(8,z.2,(fe (R2.pev iYD x).1++fe (R2.pev iYD x).2).map U64,92)]) hGF ?_ ?_
  ·refine xh (EE [266,2000266,2999999]) dU kr kr<|a7 (m:=9) [0] kr<|La 2 O O aR<|aa<|fX (m:=8) [1,6,7] kr kr dc<|?_
   intro i hi;simp only[List.mem_cons,List.not_mem_nil,or_false]at hi;rcases hi with rfl|rfl|rfl
   ·refine bM O O ent266 O O (λw' hw'=>(jE w' (hGF.g _ _ _ hw')).mono λe' w'' h=> ?_)
    obtain ⟨c1,rfl,hg,h1,ho⟩:=h;refine ⟨_,_,rfl,ay hGF,hw'.news ap hg [(33,c1,(RW 24 (R24 oY uY) 4).map U64,322)] ?_ bR,bN ap O, ?_⟩
    ·intro n' b' c' t' hl
     rcases aK hl with ⟨_,e⟩|⟨_,hl⟩
     ·cases e;exact ⟨h1,ho⟩
     ·cases hl
    clear hw' hg h1 ho;refine aa<|a7 (m:=4) [2,3,4,5] kr<|Cc O ent264 (λw' hC hG=>qq x _ w' hG (aX (n:=33) O w' hC))<|Mv O<|Ext O O<|Ext O O<|aa<|fX (m:=3) [6,7] kr kr dc<|?_;intro i hi;simp only[List.mem_cons,List.not_mem_nil,or_false]at hi;rcases hi with rfl|rfl
    ·exact bX 7 hGF zv92 O O O<|λb7=>aa<|a7 (m:=2) [7] kr<|bX 8 hGF zv92 O O O<|λb8=>aa<|a7 (m:=1) [8] kr<|Sa 7 hGF O O O aR<|aa<|a7 (m:=0) [9] kr<|Sa 8 hGF O O O aR<|aa<|dC kr<|aQ<|⟨rfl,(b7,b8),_,rfl,trv,trv⟩
    ·exact bX 8 hGF zv92 O O O<|λb8=>aa<|a7 (m:=2) [6] kr<|bX 7 hGF zv92 O O O<|λb7=>aa<|a7 (m:=1) [8] kr<|Sa 7 hGF O O O aR<|aa<|a7 (m:=0) [9] kr<|Sa 8 hGF O O O aR<|aa<|dC kr<|aQ<|⟨rfl,(b7,b8),_,rfl,trv,trv⟩
   ·refine bX 7 hGF zv92 O O O<|λb7=>aa<|fX (m:=7) [1,7] kr kr dc<|?_
    intro i hi;simp only[List.mem_cons,List.not_mem_nil,or_false]at hi;rcases hi with rfl|rfl
    ·refine bM O O ent266 O O (λw' hw'=>(jE w' (hGF.g _ _ _ hw')).mono λe' w'' h=> ?_)
     obtain ⟨c1,rfl,hg,h1,ho⟩:=h;refine ⟨_,_,rfl,ay hGF,hw'.news ap hg [(33,c1,(RW 24 (R24 oY uY) 4).map U64,322)] ?_ bR,bN ap O, ?_⟩
     ·intro n' b' c' t' hl
      rcases aK hl with ⟨_,e⟩|⟨_,hl⟩
      ·cases e;exact ⟨h1,ho⟩
      ·cases hl
     clear hw' hg h1 ho;exact aa<|a7 (m:=3) [2,3,4,5] kr<|Cc O ent264 (λw' hC hG=>qq x _ w' hG (aX (n:=33) O w' hC))<|Mv O<|Ext O O<|Ext O O<|aa<|a7 (m:=2) [7] kr<|bX 8 hGF zv92 O O O<|λb8=>aa<|a7 (m:=1) [8] kr<|Sa 7 hGF O O O aR<|aa<|a7 (m:=0) [9] kr<|Sa 8 hGF O O O aR<|aa<|dC kr<|aQ<|⟨rfl,(b7,b8),_,rfl,trv,trv⟩
    ·refine bX 8 hGF zv92 O O O<|λb8=>aa<|a7 (m:=6) [1] kr<|?_
     refine bM O O ent266 O O (λw' hw'=>(jE w' (hGF.g _ _ _ hw')).mono λe' w'' h=> ?_);obtain ⟨c1,rfl,hg,h1,ho⟩:=h;refine ⟨_,_,rfl,ay hGF,hw'.news ap hg [(33,c1,(RW 24 (R24 oY uY) 4).map U64,322)] ?_ bR,bN ap O, ?_⟩
     ·intro n' b' c' t' hl
      rcases aK hl with ⟨_,e⟩|⟨_,hl⟩
      ·cases e;exact ⟨h1,ho⟩
      ·cases hl
     clear hw' hg h1 ho;exact aa<|a7 (m:=2) [2,3,4,5] kr<|Cc O ent264 (λw' hC hG=>qq x _ w' hG (aX (n:=33) O w' hC))<|Mv O<|Ext O O<|Ext O O<|aa<|a7 (m:=1) [8] kr<|Sa 7 hGF O O O aR<|aa<|a7 (m:=0) [9] kr<|Sa 8 hGF O O O aR<|aa<|dC kr<|aQ<|⟨rfl,(b7,b8),_,rfl,trv,trv⟩
   ·refine bX 8 hGF zv92 O O O<|λb8=>aa<|fX (m:=7) [1,6] kr kr dc<|?_
    intro i hi;simp only[List.mem_cons,List.not_mem_nil,or_false]at hi;rcases hi with rfl|rfl
    ·refine bM O O ent266 O O (λw' hw'=>(jE w' (hGF.g _ _ _ hw')).mono λe' w'' h=> ?_)
     obtain ⟨c1,rfl,hg,h1,ho⟩:=h;refine ⟨_,_,rfl,ay hGF,hw'.news ap hg [(33,c1,(RW 24 (R24 oY uY) 4).map U64,322)] ?_ bR,bN ap O, ?_⟩
     ·intro n' b' c' t' hl
      rcases aK hl with ⟨_,e⟩|⟨_,hl⟩
      ·cases e;exact ⟨h1,ho⟩
      ·cases hl
     clear hw' hg h1 ho;exact aa<|a7 (m:=3) [2,3,4,5] kr<|Cc O ent264 (λw' hC hG=>qq x _ w' hG (aX (n:=33) O w' hC))<|Mv O<|Ext O O<|Ext O O<|aa<|a7 (m:=2) [6] kr<|bX 7 hGF zv92 O O O<|λb7=>aa<|a7 (m:=1) [8] kr<|Sa 7 hGF O O O aR<|aa<|a7 (m:=0) [9] kr<|Sa 8 hGF O O O aR<|aa<|dC kr<|aQ<|⟨rfl,(b7,b8),_,rfl,trv,trv⟩
    ·refine bX 7 hGF zv92 O O O<|λb7=>aa<|a7 (m:=6) [1] kr<|?_
     refine bM O O ent266 O O (λw' hw'=>(jE w' (hGF.g _ _ _ hw')).mono λe' w'' h=> ?_);obtain ⟨c1,rfl,hg,h1,ho⟩:=h;refine ⟨_,_,rfl,ay hGF,hw'.news ap hg [(33,c1,(RW 24 (R24 oY uY) 4).map U64,322)] ?_ bR,bN ap O, ?_⟩
     ·intro n' b' c' t' hl
      rcases aK hl with ⟨_,e⟩|⟨_,hl⟩
      ·cases e;exact ⟨h1,ho⟩
      ·cases hl
     clear hw' hg h1 ho;exact aa<|a7 (m:=2) [2,3,4,5] kr<|Cc O ent264 (λw' hC hG=>qq x _ w' hG (aX (n:=33) O w' hC))<|Mv O<|Ext O O<|Ext O O<|aa<|a7 (m:=1) [8] kr<|Sa 7 hGF O O O aR<|aa<|a7 (m:=0) [9] kr<|Sa 8 hGF O O O aR<|aa<|dC kr<|aQ<|⟨rfl,(b7,b8),_,rfl,trv,trv⟩
  ·rintro ⟨b7,b8⟩
   dsimp only;refine Xp<|La 6 O O aR<|La 8 O O aR<|Ca O (dv _ _)<|Al 9 hGF zv92<|λb9=>Sa 9 hGF O O O aR<|aa<|ah<|Xp<|La 9 O O aR<|Cbl false O ent197 (wJ _) (decide_eq_false (LF h))<|aa<|aw O<|aq<|Xp<|La 9 O O aR<|Ca O (Et _)<|Al 10 hGF zv92<|λb10=>Sa 10 hGF O O O aR<|aa<|Xa [0,1,2,3,4,5,6,7,8,9,10,11,12,13,14,15] ⟨16,11,94,(GL dX).map U64⟩ [17,18] (bg O zv94 O)<|La 5 O O aR<|La 8 O O aR<|Ca O (dv _ _)<|La 10 O O aR<|Ca O (U4 h)<|La 3 O O aR<|La 7 O O aR<|Ca O (dv _ _)<|La 6 O O aR<|Ca O (dv _ _)<|La 10 O O aR<|Ca O (Yw h)<|Ca O (UW _ _ (mw.1 (w7 h)))<|Mv O<|Ext O O<|Ext O O<|aa<|?_;refine ⟨_,_,rfl,hGF,by intro x hx;simp only[List.mem_cons,List.not_mem_nil,or_false]at hx;subst hx;rfl,by intro x hx;simp only[List.mem_cons,List.not_mem_nil,or_false]at hx;subst hx;rfl,λadr7=> ?_⟩
   refine Sa 11 hGF O O O cf<|Asg O<|aa<|Xp<|La 11 O O cf<|Sa 4 hGF O O O cf<|aa<|ak<|Rr<|?_;exact au 4 O O O isAgg94 sizeOf94 sm (λw hw=>⟨rfl,ac hw⟩)
theorem pmap{u x r:W2}(h:SwR u x r):PUR 196 [EV2 u] (PtV (UE x (sgS r u) h.on)):=by
 intro w hw;refine Hf func196 O hw<|λhGF=>Xp<|Bx 1 hGF O<|λb1=>Al 2 hGF zv94<|λb2=>aa<|Xp<|La 1 O O aR<|Ca O (pswu h)<|Ext O O<|Ext O O<|Ca O (piso _ _ h.on)<|Sa 2 hGF O O O cf<|aa<|ak<|Rr<|?_;exact au 2 O O O isAgg94 sizeOf94 sm (λw hw=>⟨rfl,ac hw⟩)
end
section
attribute [local simp] List.length_append pd
namespace Xm
end Xm
end
section
attribute [local simp] List.length_append pd
namespace Xm
attribute [local simp] Sh.hO kP qF ku gw jv Sh.bH lM
def N2(bs:L8)(i:Nat):W2:=(ZB ((bs.drop (128*i)).take 64),ZB ((bs.drop (128*i+64)).take 64))
def N2r(bs:L8)(i:Nat):L6:=fe (N2 bs i).1++fe (N2 bs i).2
theorem N2r_len(bs:L8)(i:Nat):(N2r bs i).length=12:=by rw[N2r,List.length_append,a5,a5]
def At2(w0 w:World)(a:Option Addr)(n:Nat)(f:Nat->L6):Prop:=n=0\/∃b,a=some ⟨b,0,none⟩/\w0.heap.size<=b/\w.rangeAt b 0 ((RW 12 (f) n).map U64)
def FBad(msg dst:L8)(z:Int):Prop:=z<0\/32<z\/255<dst.length\/65536<msg.length
structure RFt(msg dst:L8)(z:Int)(w0 w:World)(v:Value):Prop where
 bad:FBad msg dst z->v=.tuple #[.slice none 0 0,I 130]
 ok: ¬FBad msg dst z->∃a cap,v=.tuple #[.slice a z.toNat cap,I 0]/\At2 w0 w a z.toNat (N2r (E msg dst (128*z.toNat)))
attribute [local simp] N2r_len
end Xm
end
section
attribute [local simp] List.length_append pd
namespace Xm
attribute [local simp] Sh.hO kP qF ku gw jv Sh.bH lM
attribute [local simp] N2r_len
theorem iE{w w':World}{b:Nat}{cs:List Value}(h:w.rangeAt b 0 cs)(hg:Grow w w'):w'.rangeAt b 0 cs:=λj v hv=>(hg.cell (block_lt_of_cell (h j v hv))).trans (h j v hv)
def PFC:Prop:= ∀(a1:Option Addr) (cap1:Nat) (msg:L8) (a2:Option Addr) (cap2:Nat) (dst:L8) (z:Int) (w:World),msg.length<=100000->msg.length<=cap1->dst.length<=100000->dst.length<=cap2->Gt w->BytesAt w a1 msg->BytesAt w a2 dst->CLS 193 [.slice a1 msg.length cap1,.slice a2 dst.length cap2,I z].toArray w (λe w'=> ∃v,e=.returned v/\Grow w w'/\RFt msg dst z w w' v)
end Xm
end
section
variable {γ δ:Type} (G:Ab γ) (H:Ab δ)
theorem Ab.h_ze{f:γ->δ}(hf: ∀a b,f (G.ad a b)=H.ad (f a) (f b)):f G.ze=H.ze:=H.can (a:=f G.ze) (by rw[<-hf,G.zl,H.zr])
theorem Ab.h_ng{f:γ->δ}(hf: ∀a b,f (G.ad a b)=H.ad (f a) (f b))(a:γ):f (G.ng a)=H.ng (f a):=H.ng_of (by rw[<-hf,G.nr,G.h_ze H hf])
theorem Ab.h_nm{f:γ->δ}(hf: ∀a b,f (G.ad a b)=H.ad (f a) (f b))(a:γ): ∀n,f (G.nm a n)=H.nm (f a) n
 |0=>G.h_ze H hf
 |n+1=>by rw[Ab.nm,hf,Ab.h_nm hf a n,Ab.nm]
end
section
variable {α:Type} [DecidableEq α] {C:Ec α}
theorem Ec.On.is{a:C.On}(h:a≠C.ab.ze): ∃hx:C.on (C.xy a.1),a=⟨some (C.xy a.1),hx⟩:=by
 obtain ⟨P,hP⟩:=a
 cases P with
 |none=>exact absurd O h
 |some p=>exact ⟨hP,rfl⟩
theorem Ec.listed{n:Nat}(S:Nat->C.On)(si: ∀i j,i<j->j<n->S i≠S j)(s0: ∀i,i<n->S i≠C.ab.ze): ∃L:List (α×α),L.length=n/\L.Pairwise (·≠ ·)/\∀q,q∈L->∃i,i<n/\∃hq:C.on q,S i=⟨some q,hq⟩:=by
 refine ⟨(List.range n).map λi=>C.xy (S i).1,sm, ?_,λq hq=> ?_⟩
 ·rw[List.pairwise_map]
  refine List.Pairwise.imp_of_mem (λ{i j} hi hj hij=> ?_) List.pairwise_lt_range;intro e;have hj':=List.mem_range.1 hj;obtain ⟨_,e1⟩:=Ec.On.is (s0 i om);obtain ⟨_,e2⟩:=Ec.On.is (s0 j hj');refine si i j hij hj' ?_;rw[e1,e2];exact Subtype.ext (congrArg some e)
 ·obtain ⟨i,hi,rfl⟩:=List.mem_map.1 hq
  have hi':=List.mem_range.1 hi;obtain ⟨h1,h2⟩:=Ec.On.is (s0 i hi');exact ⟨i,hi',h1,h2⟩
theorem Ec.all_same{f g:C.On->C.On}(hf: ∀a b,f (C.ab.ad a b)=C.ab.ad (f a) (f b))(hg: ∀a b,g (C.ab.ad a b)=C.ab.ad (g a) (g b))
 {J:α->α->α×α×α} {m:Nat} (hJ:C.DJ m J) (hV: ∀x y (h:C.on (x,y)),C.V (J x y) (g ⟨some (x,y),h⟩).1)
 {px py:α->α->α} {d:Nat} (hx:C.DW d px) (hy:C.DW d py) (hp: ∀x y (h:C.on (x,y)),(f ⟨some (x,y),h⟩).1=some (px x y,py x y))
 {n:Nat} {T:Nat->C.On} (ti: ∀i j,i<j->j<n->T i≠T j) (t0: ∀i,i<n->T i≠C.ab.ze) (t2: ∀i,i<n->C.ab.ng (T i)≠T i) (ts: ∀i,i<n->f (T i)=g (T i)) (hn:2*(4*m+d+1)<=n)
 {x0 y0:α} (h0:C.on (x0,y0)) (n1:(J x0 y0).2.2≠C.R.zero) (n2:(J x0 (C.R.neg y0)).2.2≠C.R.zero) (a:C.On):f a=g a:=by
 let Fx:α->α->α:=λx y=>C.R.mul (J x y).2.2 (C.sub (J x y).1 (C.R.mul (px x y) (C.R.mul (J x y).2.2 (J x y).2.2)))
 let Fy:α->α->α:=λx y=>C.R.mul (J x y).2.2 (C.sub (J x y).2.1 (C.R.mul (py x y) (C.R.mul (C.R.mul (J x y).2.2 (J x y).2.2) (J x y).2.2)))
 have ZZ:=hJ.Z.mul hJ.Z;have dx:C.DW (4*m+d) Fx:=(hJ.Z.mul ((hJ.X.up (e:=2*m+d) om).sub ((hx.mul ZZ).up om))).up om;have dy:C.DW (4*m+d) Fy:=(hJ.Z.mul ((hJ.Y.up (e:=3*m+d) om).sub ((hy.mul (ZZ.mul hJ.Z)).up om))).up om;have key: ∀x y (h:C.on (x,y)),f ⟨some (x,y),h⟩=g ⟨some (x,y),h⟩->Fx x y=C.R.zero/\Fy x y=C.R.zero:=λx y h e=>by
  rcases hV x y h with hz|hj
  ·constructor
   ·show C.R.mul (J x y).2.2 _=_
    rw[hz,C.R.zero_mul]
   ·show C.R.mul (J x y).2.2 _=_
    rw[hz,C.R.zero_mul]
  ·rw[<-e,hp x y h]at hj
   have k1:(J x y).1=C.R.mul (px x y) (C.R.mul (J x y).2.2 (J x y).2.2):=hj.2.1;have k2:(J x y).2.1=C.R.mul (py x y) (C.R.mul (C.R.mul (J x y).2.2 (J x y).2.2) (J x y).2.2):=hj.2.2;constructor
   ·show C.R.mul _ (C.sub (J x y).1 _)=_
    rw[<-k1,C.sub_self,C.R.mul_zero]
   ·show C.R.mul _ (C.sub (J x y).2.1 _)=_
    rw[<-k2,C.sub_self,C.R.mul_zero]
 obtain ⟨L,lL,dL,mL⟩:=Ec.listed T ti t0;have oL: ∀q,q∈L->C.on q:=λq hq=>(mL q hq).elim λ_ h=>h.2.elim λhq _=>hq;have yL: ∀q,q∈L->q.2≠C.R.zero:=λq hq e=>by
  obtain ⟨i,hi,hon,hT⟩:=mL q hq;refine t2 i hi ?_;rw[hT];refine Subtype.ext (congrArg some (Prod.ext O ?_));show C.R.neg q.2=q.2;rw[e,C.R.neg_zero]
 have zL: ∀q,q∈L->(Fx q.1 q.2=C.R.zero/\Fy q.1 q.2=C.R.zero)/\(Fx q.1 (C.R.neg q.2)=C.R.zero/\Fy q.1 (C.R.neg q.2)=C.R.zero):=λq hq=>by
  obtain ⟨i,hi,hon,hT⟩:=mL q hq;have e:=ts i hi;have e':f (C.ab.ng (T i))=g (C.ab.ng (T i)):=by rw[C.ab.h_ng C.ab hf,C.ab.h_ng C.ab hg,e]
  rw[hT]at e e';exact ⟨key q.1 q.2 hon e,key q.1 (C.R.neg q.2) (C.ng_on hon) e'⟩
 have zx: ∀x y,C.on (x,y)->Fx x y=C.R.zero:=λx y h=>dx.all om dL oL yL (λq hq=>⟨(zL q hq).1.1,(zL q hq).2.1⟩) h;have zy: ∀x y,C.on (x,y)->Fy x y=C.R.zero:=λx y h=>dy.all om dL oL yL (λq hq=>⟨(zL q hq).1.2,(zL q hq).2.2⟩) h;have gen: ∀x y (h:C.on (x,y)),(J x y).2.2≠C.R.zero->f ⟨some (x,y),h⟩=g ⟨some (x,y),h⟩:=λx y h hz=>by
  refine Subtype.ext ?_;rw[hp x y h];exact (NR C ((hV x y h).resolve_left hz) hz (C.sub0 ((C.fd.two (zx x y h)).resolve_left hz)) (C.sub0 ((C.fd.two (zy x y h)).resolve_left hz))).symm
 by_cases hex: ∃i,i<n/\C.ab.ad a (T i)=C.ab.ze
 ·obtain ⟨i,hi,e⟩:=hex
  rw[C.ab.comm]at e;rw[C.ab.ng_of e,C.ab.h_ng C.ab hf,C.ab.h_ng C.ab hg,ts i hi]
 have s0: ∀i,i<n->C.ab.ad a (T i)≠C.ab.ze:=λi hi e=>hex ⟨i,hi,e⟩;have si: ∀i j,i<j->j<n->C.ab.ad a (T i)≠C.ab.ad a (T j):=λi j hij hj e=>ti i j hij hj (C.ab.can e);obtain ⟨L',lL',dL',mL'⟩:=Ec.listed (λi=>C.ab.ad a (T i)) si s0;by_cases hez: ∃q,q∈L'/\(J q.1 q.2).2.2≠C.R.zero
 ·obtain ⟨q,hq,hz⟩:=hez
  obtain ⟨i,hi,hon,hT⟩:=mL' q hq;have e:=gen q.1 q.2 hon hz;have hT:C.ab.ad a (T i)=⟨some (q.1,q.2),hon⟩:=hT;rw[<-hT,hf,hg,ts i hi,C.ab.comm,C.ab.comm (g a)]at e;exact C.ab.can e
 ·exfalso
  obtain ⟨N,lN,hN⟩:=hJ.Z.norm;have hz:=C.rootsL (2*m+1) N L' lN om dL' (λq hq=>(mL' q hq).elim λ_ h=>h.2.elim λhq _=>hq) (λq hq=>by
   obtain ⟨i,hi,hon,hT⟩:=mL' q hq;rw[hN q.1 q.2 hon];have e:(J q.1 q.2).2.2=C.R.zero:=Classical.byContradiction λh=>hez ⟨q,hq,h⟩;rw[e,C.R.zero_mul]) x0
  rw[hN x0 y0 h0]at hz;exact (C.fd.two hz).elim n1 n2
end
section
variable {γ:Type} (G:Ab γ)
def Ab.li(a d:γ)(k l:Int):γ:=G.ad (G.zm a k) (G.zm d l)
theorem Ab.li_ad(a d:γ)(k l k' l':Int):G.ad (G.li a d k l) (G.li a d k' l')=G.li a d (k+k') (l+l'):=by
 unfold Ab.li;rw[G.four,G.zm_add,G.zm_add]
theorem Ab.li_ng(a d:γ)(k l:Int):G.ng (G.li a d k l)=G.li a d (-k) (-l):=by
 unfold Ab.li;rw[G.ng_ad,G.zm_ng,G.zm_ng]
theorem Ab.li_nm(a d:γ)(k l:Int)(n:Nat):G.nm (G.li a d k l) n=G.li a d (k*n) (l*n):=by
 unfold Ab.li;rw[G.nm_ad,G.zm_mulN,G.zm_mulN]
theorem Ab.zm_1(a:γ):G.zm a 1=a:=(G.zm_nat a 1).trans (G.zl a)
theorem Ab.zm_0(a:γ):G.zm a 0=G.ze:=G.zm_nat a 0
theorem Ab.li_a(a d:γ):a=G.li a d 1 0:=by unfold Ab.li;rw[G.zm_1,G.zm_0,G.zr]
def Ab.gW(om:γ->γ)(u e:Nat)(a:γ):γ:=G.ad (G.nm (G.ad (G.nm (G.nm (G.ad a (G.ad (om a) (om a))) u) u) (G.ng (G.ad (G.ad a a) (om a)))) e) a
theorem Ab.gW_ad{om:γ->γ}(ho: ∀a b,om (G.ad a b)=G.ad (om a) (om b))(u e:Nat)(a b:γ):G.gW om u e (G.ad a b)=G.ad (G.gW om u e a) (G.gW om u e b):=by
 unfold Ab.gW;simp only[ho,G.nm_ad,G.nm_ng,G.ng_ad];have:Std.Associative G.ad:=⟨G.assoc⟩;have:Std.Commutative G.ad:=⟨G.comm⟩
 ac_rfl
theorem Ab.li_al(a d:γ)(k l:Int):G.ad a (G.li a d k l)=G.li a d (1+k) (0+l):=by
 have h:=G.li_ad a d 1 0 k l;rw[<-G.li_a]at h;exact h
theorem Ab.li_ar(a d:γ)(k l:Int):G.ad (G.li a d k l) a=G.li a d (k+1) (l+0):=by
 have h:=G.li_ad a d k l 1 0;rw[<-G.li_a]at h;exact h
theorem Ab.li_aa(a d:γ):G.ad a a=G.li a d (1+1) (0+0):=by
 have h:=G.li_ad a d 1 0 1 0;rw[<-G.li_a]at h;exact h
theorem Ab.gW_li{om:γ->γ}{u e:Nat}{a d:γ}{L M:Int}(h:om a=G.li a d L M):G.gW om u e a=G.li a d ((((1+(L+L))*u*u)+ -(1+1+L))*e+1) ((((0+(M+M))*u*u)+ -(0+0+M))*e+0):=by
 unfold Ab.gW;rw[h,G.li_ad,G.li_al,G.li_nm,G.li_nm,G.li_aa a d,G.li_ad,G.li_ng,G.li_ad,G.li_nm,G.li_ar]
end
section
variable {α:Type} (C:Ec α)
def Ec.jf1(c x y:α):α×α×α:=C.jA (x,y,C.R.one) (C.jD (C.jW c (x,y,C.R.one)))
def Ec.jf2(c:α)(lu:List Bool)(x y:α):α×α×α:=C.jx (C.jf1 c x y) lu (C.jf1 c x y)
def Ec.jf3(c:α)(lu:List Bool)(x y:α):α×α×α:=C.jx (C.jf2 c lu x y) lu (C.jf2 c lu x y)
def Ec.jf4(c:α)(lu:List Bool)(x y:α):α×α×α:=C.jA (C.jf3 c lu x y) (C.jN (C.jA (C.jD (x,y,C.R.one)) (C.jW c (x,y,C.R.one))))
def Ec.jf5(c:α)(lu le:List Bool)(x y:α):α×α×α:=C.jA (C.jx (C.jf4 c lu x y) le (C.jf4 c lu x y)) (x,y,C.R.one)
def mW2(lu:List Bool):Nat:=nB (3*(1+4*1)) lu (3*(1+4*1))
def mW4(lu:List Bool):Nat:=3*(nB (mW2 lu) lu (mW2 lu)+3*(4*1+1))
def mW5(lu le:List Bool):Nat:=3*(nB (mW4 lu) le (mW4 lu)+1)
theorem Ec.jf1_D(c:α):C.DJ (3*(1+4*1)) (λx y=>C.jf1 c x y):=(Ec.DJ.p C).ad ((Ec.DJ.p C).w c).d
theorem Ec.jf2_D(c:α)(lu:List Bool):C.DJ (mW2 lu) (λx y=>C.jf2 c lu x y):=Ec.DJ.x (C.jf1_D c) lu _ _ (C.jf1_D c)
theorem Ec.jf3_D(c:α)(lu:List Bool):C.DJ (nB (mW2 lu) lu (mW2 lu)) (λx y=>C.jf3 c lu x y):=Ec.DJ.x (C.jf2_D c lu) lu _ _ (C.jf2_D c lu)
theorem Ec.jf4_D(c:α)(lu:List Bool):C.DJ (mW4 lu) (λx y=>C.jf4 c lu x y):=(C.jf3_D c lu).ad ((Ec.DJ.p C).d.ad ((Ec.DJ.p C).w c)).n
theorem Ec.jf5_D(c:α)(lu le:List Bool):C.DJ (mW5 lu le) (λx y=>C.jf5 c lu le x y):=(Ec.DJ.x (C.jf4_D c lu) le _ _ (C.jf4_D c lu)).ad (Ec.DJ.p C)
end
section
variable {α β:Type} {C:Ec α} {D:Ec β} (T:Hw C D)
theorem Hw.jD_f(A:α×α×α):D.jD (T.fj A)=T.fj (C.jD A):=T.jd_f _ _ _
theorem Hw.jA_f(A B:α×α×α):D.jA (T.fj A) (T.fj B)=T.fj (C.jA A B):=T.ja_f _ _ _ _ _ _
theorem Hw.jN_f(A:α×α×α):D.jN (T.fj A)=T.fj (C.jN A):=by
 unfold Ec.jN Hw.fj;rw[T.fn]
theorem Hw.jW_f(c:α)(A:α×α×α):D.jW (T.f c) (T.fj A)=T.fj (C.jW c A):=by
 unfold Ec.jW Hw.fj;rw[T.fm]
theorem Hw.jx_f(B:α×α×α): ∀(l:List Bool) (A:α×α×α),D.jx (T.fj B) l (T.fj A)=T.fj (C.jx B l A)
 |[],_=>rfl
 |false::r,A=>by
  show D.jx (T.fj B) r (D.jD (T.fj A))=T.fj (C.jx B r (C.jD A));rw[T.jD_f];exact Hw.jx_f B r _
 |true::r,A=>by
  show D.jx (T.fj B) r (D.jA (D.jD (T.fj A)) (T.fj B))=T.fj (C.jx B r (C.jA (C.jD A) B));rw[T.jD_f,T.jA_f];exact Hw.jx_f B r _
theorem Hw.jf5_f(c:α)(lu le:List Bool)(x y:α):D.jf5 (T.f c) lu le (T.f x) (T.f y)=T.fj (C.jf5 c lu le x y):=by
 have e0:(T.f x,T.f y,D.R.one)=T.fj (x,y,C.R.one):=by rw[<-T.f1];rfl
 unfold Ec.jf5 Ec.jf4 Ec.jf3 Ec.jf2 Ec.jf1;rw[e0];simp only[T.jW_f,T.jD_f,T.jA_f,T.jx_f,T.jN_f]
theorem Hw.jf5_ne(c:α)(lu le:List Bool)(x y:α)(h:(C.jf5 c lu le x y).2.2≠C.R.zero):(D.jf5 (T.f c) lu le (T.f x) (T.f y)).2.2≠D.R.zero:=λe=>h (T.fi _ (by rw[T.jf5_f]at e;exact e))
def Hw.o(a:{P:Pt α // C.onP P}):{P:Pt β // D.onP P}:=⟨T.p a.1,T.p_on a.2⟩
end
section
variable {α β:Type} [DecidableEq α] [DecidableEq β] {C:Ec α} {D:Ec β}
theorem Hw.o_ad(T:Hw C D)(a b:C.On):T.o (C.ab.ad a b)=D.ab.ad (T.o a) (T.o b):=Subtype.ext (T.p_ad a.2 b.2)
theorem Ec.gW_is(T:Tw C)(u e:Nat){P:Pt α}(hP:C.onP P):(C.ab.gW T.o u e ⟨P,hP⟩).1=C.ad (C.times (C.ad (C.times (C.times (C.ad P (C.ad (T.p P) (T.p P))) u) u) (C.ne (C.ad (C.ad P P) (T.p P)))) e) P:=by
 unfold Ab.gW;show C.ad (C.ab.nm _ e).1 _=_;rw[C.ab_nm];show C.ad (C.times (C.ad (C.ab.nm _ u).1 _) e) _=_;rw[C.ab_nm,C.ab_nm];rfl
theorem Ec.jf5_V{T:Tw C}{c:α}(hT: ∀q,T.m q=(C.R.mul c q.1,q.2)){lu le:List Bool}{u e:Nat}(hu:ca lu 1=u)(he:ca le 1=e){x y:α}(h:C.on (x,y)):C.V (C.jf5 c lu le x y) (C.ab.gW T.o u e ⟨some (x,y),h⟩).1:=by
 rw[C.gW_is T u e (P:=some (x,y)) h];have hP:C.onP (some (x,y)):=h;have v0:C.V (x,y,C.R.one) (some (x,y)):=.inr (C.jr_here x y);have hW:=T.p_on hP;have vW:=v0.w hT;have hD:=C.ad_on hW hW;have v1:C.V (C.jf1 c x y) (C.ad (some (x,y)) (C.ad (T.p (some (x,y))) (T.p (some (x,y))))):=v0.a hP hD (vW.d hW);have h1:=C.ad_on hP hD;have v2:=Ec.V.x h1 v1 lu _ 1 v1;rw[hu]at v2;have h2:=C.times_on h1 u;have v3:=Ec.V.x h2 v2 lu _ 1 v2;rw[hu]at v3;have h3:=C.times_on h2 u;have hE:=C.ad_on (C.ad_on hP hP) hW;have v4:=v3.a h3 (C.ne_on hE) (((v0.d hP).a (C.ad_on hP hP) hW vW).n);have h4:=C.ad_on h3 (C.ne_on hE);have v5:=Ec.V.x h4 v4 le _ 1 v4;rw[he]at v5;exact v5.a (C.times_on h4 e) hP v0
end
section
variable {α β γ:Type} [DecidableEq α] [DecidableEq β] [DecidableEq γ] {C:Ec α} {B:Ec β} {D:Ec γ} (H:Hw C D) (K:Hw B D)
def Tij(g:C.On)(q:B.On)(r i:Nat):D.On:=D.ab.ad (H.o (C.ab.nm g (i % r))) (K.o (B.ab.nm q (i / r+1)))
theorem s5(g:C.On)(q:B.On)(r i:Nat):(Tij H K g q r i).1=D.ad (H.p (C.times g.1 (i % r))) (K.p (B.times q.1 (i / r+1))):=by
 show D.ad (H.p (C.ab.nm g (i % r)).1) (K.p (B.ab.nm q (i / r+1)).1)=_;rw[C.ab_nm,B.ab_nm]
structure TD(g:C.On)(q:B.On)(r:Nat):Prop where
 sep: ∀S S',C.onP S->B.onP S'->H.p S=K.p S'->S'=none
 hr: ∀d,0<d->d<r->∃e,(d*e) % r=1
 gr:C.times g.1 r=none
 qr:B.times q.1 r=none
 gn:g.1≠none
 qn:q.1≠none
 r0:0<r
 r2:r % 2=1
variable {H K} {r:Nat} {g:C.On} {q:B.On} (t:TD H K g q r)
theorem RN(t:TD H K g q r){i j:Nat}(hij:i<j)(hj:j<r*(r-1)):Tij H K g q r i≠Tij H K g q r j:=λe=>by
 have e:=congrArg Subtype.val e;rw[s5,s5]at e;have k:=BP H K t.sep (C.times_on g.2 _) (C.times_on g.2 _) (B.times_on q.2 _) (B.times_on q.2 _) e;have hd: ∀i,i<r*(r-1)->i / r<r-1:=λi hi=>Nat.div_lt_of_lt_mul hi;have d1:=hd i om;have d2:=hd j hj;have k1:=C.times_inj g.2 t.hr t.gr t.gn (Nat.mod_lt i t.r0) (Nat.mod_lt j t.r0) k.1;have k2:=B.times_inj q.2 t.hr t.qr t.qn (Nat.add_lt_of_lt_sub d1) (Nat.add_lt_of_lt_sub d2) k.2;have a1:=Nat.div_add_mod i r;have a2:=Nat.div_add_mod j r;rw[k1,Nat.add_right_cancel k2]at a1;omega
theorem Zo(t:TD H K g q r){i:Nat}(hi:i<r*(r-1)):Tij H K g q r i≠D.ab.ze:=λe=>by
 have e:=congrArg Subtype.val e;rw[s5]at e;have d1:i / r<r-1:=Nat.div_lt_of_lt_mul hi;have hS:=C.times_on g.2 (i % r);have hV:=B.times_on q.2 (i / r+1);have e1:=D.opp_of (H.p_on hS) (K.p_on hV) e;rw[<-H.p_ne]at e1;exact B.cyc_no q.2 t.hr t.qr t.qn (d:=i / r+1) (Nat.succ_pos _) (Nat.add_lt_of_lt_sub d1) (t.sep _ _ (C.ne_on hS) hV e1.symm)
theorem UU(t:TD H K g q r){i:Nat}(hi:i<r*(r-1)):D.ab.ng (Tij H K g q r i)≠Tij H K g q r i:=λe=>by
 have e:D.ne (Tij H K g q r i).1=(Tij H K g q r i).1:=congrArg Subtype.val e;rw[s5]at e;have d1:i / r<r-1:=Nat.div_lt_of_lt_mul hi;have hS:=C.times_on g.2 (i % r);have hV:=B.times_on q.2 (i / r+1);rw[D.ne_ad (H.p_on hS) (K.p_on hV),<-H.p_ne,<-K.p_ne]at e;have k:=(BP H K t.sep (C.ne_on hS) hS (B.ne_on hV) hV e).2;have z:B.times q.1 (i / r+1+(i / r+1))=none:=by
  rw[B.times_add q.2]
  conv=>lhs;lhs;rw[<-k]
  exact B.ne_ad_self _
 have hr2:=t.r2;have hk1:i / r+1<r:=Nat.add_lt_of_lt_sub d1;have hk0:0<i / r+1:=Nat.succ_pos _;clear k e d1;generalize i / r+1=k at*;rcases Nat.lt_trichotomy (k+k) r with h|h|h
 ·exact B.cyc_no q.2 t.hr t.qr t.qn (d:=k+k) om h z
 ·omega
 ·have e2:B.times q.1 (r+(k+k-r))=none:=by rw[show r+(k+k-r)=k+k by omega];exact z
  rw[B.times_add q.2,t.qr]at e2;exact B.cyc_no q.2 t.hr t.qr t.qn (d:=k+k-r) om om e2
theorem Y6{f f':D.On->D.On}(hf: ∀a b,f (D.ab.ad a b)=D.ab.ad (f a) (f b))(hf': ∀a b,f' (D.ab.ad a b)=D.ab.ad (f' a) (f' b))(h1:f (H.o g)=f' (H.o g))(h2:f (K.o q)=f' (K.o q))(i:Nat):f (Tij H K g q r i)=f' (Tij H K g q r i):=by
 unfold Tij;rw[C.ab.h_nm D.ab H.o_ad,B.ab.h_nm D.ab K.o_ad,hf,hf',D.ab.h_nm D.ab hf,D.ab.h_nm D.ab hf,D.ab.h_nm D.ab hf',D.ab.h_nm D.ab hf',h1,h2]
end
def C3:W12:=em (re2 (zp TRN))
theorem C3_4:K12.mul (K12.mul C3 C3) (K12.mul C3 C3)=C3:=by decide+kernel
theorem C3_6:K12.mul (K12.mul C3 C3) (K12.mul (K12.mul C3 C3) (K12.mul C3 C3))=K12.one:=by decide+kernel
theorem C3_3:K12.mul C3 (K12.mul C3 C3)=K12.one:=by decide+kernel
theorem Wd:K12.mul C3 C3=em TR2:=by decide+kernel
def OM3:Tw E12 where
 f:=λa=>a
 w:=K12.mul C3 C3
 fa:=λ_ _=>rfl
 fm:=λ_ _=>rfl
 fn:=λ_=>rfl
 f0:=rfl
 fi:=λ_ h=>h
 wn:=by decide+kernel
 wb:=by decide+kernel
theorem xr(q:W12×W12):OM3.m q=(K12.mul C3 q.1,q.2):=by
 refine Prod.ext ?_ ?_
 ·show K12.mul (K12.mul (K12.mul C3 C3) (K12.mul C3 C3)) q.1=K12.mul C3 q.1
  rw[C3_4]
 ·show K12.mul (K12.mul (K12.mul C3 C3) (K12.mul (K12.mul C3 C3) (K12.mul C3 C3))) q.2=q.2
  rw[C3_6,K12.one_mul]
theorem YN(S:Pt Zp):OM3.p (HB.p S)=HB.p (TW1.p S):=by
 cases S with
 |none=>rfl
 |some q=>
  refine congrArg some ?_;rw[xr,vj];refine Prod.ext ?_ O;show K12.mul C3 (K12.mul (K12.mul WW WW) (em (re2 q.1)))=K12.mul (K12.mul WW WW) (em (re2 (zp TRN*q.1)));rw[Ae,<-eh];exact K12.mul_left_comm _ _ _
theorem Vp(S:Pt W2):OM3.p (OM3.p (HE.p S))=HE.p (E2w.ne (TW2.p (TW2.p S))):=by
 cases S with
 |none=>rfl
 |some s=>
  have e:E2w.ne (TW2.p (TW2.p (some s)))=some (ml2 TR2 s.1,s.2):=by
   show some (E2w.ng (TW2.m (TW2.m s)))=_;rw[Mb];exact congrArg some (Prod.ext O (R2.neg_neg s.2))
  rw[e];refine congrArg some ?_;rw[xf,xf,xr,xr];refine Prod.ext ?_ O;show K12.mul C3 (K12.mul C3 (em s.1))=em (ml2 TR2 s.1);rw[<-K12.mul_assoc,Wd,eh]
theorem OM_3(P:Pt W12):OM3.p (OM3.p (OM3.p P))=P:=by
 cases P with
 |none=>rfl
 |some q=>
  refine congrArg some ?_;rw[xr,xr,xr];refine Prod.ext ?_ O;show K12.mul C3 (K12.mul C3 (K12.mul C3 q.1))=q.1;rw[<-K12.mul_assoc,<-K12.mul_assoc,K12.mul_assoc C3,C3_3,K12.one_mul]
def TN2:E2w.ab.Tn where
 f:=TW2.o
 fa:=TW2.o_ad
 f4:=λa=>by
  have h:E2w.ab.ad (E2w.ab.ad a (E2w.ab.ng (TW2.o (TW2.o a)))) (TW2.o (TW2.o (TW2.o (TW2.o a))))=E2w.ab.ze:=Subtype.ext (vB a.2);rw[E2w.ab.ng_of h,E2w.ab.ng_ad,E2w.ab.ng_ng,E2w.ab.comm]
theorem Nr(s:E2w.On):OM3.o (HE.o s)=HE.o (E2w.ab.ad (TW2.o (TW2.o s)) (E2w.ab.ng s)):=by
 have two: ∀s:E2w.On,OM3.o (OM3.o (HE.o s))=HE.o (E2w.ab.ng (TW2.o (TW2.o s))):=λs=>Subtype.ext (Vp s.1);have three: ∀a:E12.On,OM3.o (OM3.o (OM3.o a))=a:=λa=>Subtype.ext (OM_3 a.1);have h4:TW2.o (TW2.o (TW2.o (TW2.o s)))=E2w.ab.ad (TW2.o (TW2.o s)) (E2w.ab.ng s):=TN2.f4 s;have fn: ∀s,TW2.o (E2w.ab.ng s)=E2w.ab.ng (TW2.o s):=TN2.fn;rw[<-three (OM3.o (HE.o s)),two s,two,fn,fn,E2w.ab.ng_ng,h4]
def g1o:E1.On:=⟨some G1p,il⟩
def g2o:E2w.On:=⟨some G2p,jX⟩
theorem VD{u:Nat}(h:E1.ne (E1.times (E1.times (some G1p) u) u)=TW1.p (some G1p)):OM3.o (HB.o g1o)=E12.ab.li (HB.o g1o) (HB.o g1o) (-((u*u:Nat):Int)) 0:=by
 have e1:OM3.o (HB.o g1o)=HB.o (TW1.o g1o):=Subtype.ext (YN (some G1p));have e2:TW1.o g1o=E1.ab.ng (E1.ab.nm g1o (u*u)):=by
  refine Subtype.ext ?_;show TW1.p (some G1p)=E1.ne (E1.ab.nm g1o (u*u)).1;rw[<-h,E1.ab_nm,E1.times_mul g1o.2];rfl
 rw[e1,e2,E1.ab.h_ng E12.ab HB.o_ad,E1.ab.h_nm E12.ab HB.o_ad,Ab.li,E12.ab.zm_ng,E12.ab.zm_nat,E12.ab.zm_0,E12.ab.zr]
theorem Nz{u:Nat}(h:E2w.ne (E2w.times (some G2p) u)=TW2.p (some G2p)):TW2.o g2o=E2w.ab.ng (E2w.ab.nm g2o u):=by
 refine Subtype.ext ?_;show TW2.p (some G2p)=E2w.ne (E2w.ab.nm g2o u).1;rw[<-h,E2w.ab_nm];rfl
theorem Ut{u:Nat}(h:E2w.ne (E2w.times (some G2p) u)=TW2.p (some G2p)):OM3.o (HE.o g2o)=E12.ab.li (HE.o g2o) (HE.o g2o) ((u*u:Nat)+ -1) 0:=by
 have e:=Nz h;have fn: ∀s,TW2.o (E2w.ab.ng s)=E2w.ab.ng (TW2.o s):=TN2.fn;have fm: ∀s n,TW2.o (E2w.ab.nm s n)=E2w.ab.nm (TW2.o s) n:=TN2.fm;rw[Nr,e,fn,fm,e,E2w.ab.nm_ng,E2w.ab.ng_ng,<-E2w.ab.nm_mul,HE.o_ad,E2w.ab.h_nm E12.ab HE.o_ad,E2w.ab.h_ng E12.ab HE.o_ad,Ab.li,E12.ab.zm_add,E12.ab.zm_nat,E12.ab.zm_ng,E12.ab.zm_1,E12.ab.zm_0,E12.ab.zr]
theorem Ab.h_zm{γ δ:Type}(G:Ab γ)(H:Ab δ){f:γ->δ}(hf: ∀a b,f (G.ad a b)=H.ad (f a) (f b))(a:γ)(n:Int):f (G.zm a n)=H.zm (f a) n:=by
 rw[Ab.zm,hf,G.h_ng H hf,G.h_nm H hf,G.h_nm H hf];rfl
theorem o_px:E12.DW (2*PP) (λx _=>K12.mul (K12.mul (em PW) (em PW)) (bU x)):=by
 have k:=(((Ec.DW.x E12).pw PP).sm (K12.mul (em PW) (em PW))).up (e:=2*PP) (Nat.mul_le_mul_right PP dc);have e:(λx y=>E12.R.mul (K12.mul (em PW) (em PW)) (E12.R.pw x PP):W12->W12->W12)=λx _=>K12.mul (K12.mul (em PW) (em PW)) (bU x):=funext λx=>funext λ_=>congrArg (K12.mul (K12.mul (em PW) (em PW))) (fo x);rw[e]at k;exact k
theorem o_py:E12.DW (2*PP) (λ_ y=>K12.mul (K12.mul (em PW) (K12.mul (em PW) (em PW))) (bU y)):=by
 have k:=((Ec.DW.y E12).pw PP).sm (K12.mul (em PW) (K12.mul (em PW) (em PW)));have e:(λx y=>E12.R.mul (K12.mul (em PW) (K12.mul (em PW) (em PW))) (E12.R.pw y PP):W12->W12->W12)=λ_ y=>K12.mul (K12.mul (em PW) (K12.mul (em PW) (em PW))) (bU y):=funext λ_=>funext λy=>congrArg (K12.mul (K12.mul (em PW) (K12.mul (em PW) (em PW)))) (fo y);rw[e]at k;exact k
theorem Bj{γ:Type}(G:Ab γ){a:γ}{r:Nat}(h:G.nm a r=G.ze){m n k:Int}(e:m=n+k*r)(l:Int)(hl:l=0):G.li a a m l=G.zm a n:=by
 rw[Ab.li,hl,G.zm_0,G.zr,G.zm_mod h k e]
theorem Jo{u e r:Nat}{lu le:List Bool}(hu:ca lu 1=u)(he:ca le 1=e)(t:TD HE HB g2o g1o r)(t1:E1.ne (E1.times (E1.times (some G1p) u) u)=TW1.p (some G1p))(t2:E2w.ne (E2w.times (some G2p) u)=TW2.p (some G2p)){k1 k2:Int}
 (N1:(((1+(-((u*u:Nat):Int)+ -((u*u:Nat):Int)))*u*u)+ -(1+1+ -((u*u:Nat):Int)))*e+1=1+k1*r)
 (N2:(((1+(((u*u:Nat):Int)+ -1+(((u*u:Nat):Int)+ -1)))*u*u)+ -(1+1+(((u*u:Nat):Int)+ -1)))*e+1= -(u:Int)+k2*r)
 (hn:2*(4*mW5 lu le+2*PP+1)<=r*(r-1)) (n1:(E2w.jf5 (re2 (zp TRN)) lu le AX AY).2.2≠ze2) (n2:(E2w.jf5 (re2 (zp TRN)) lu le AX (ng2 AY)).2.2≠ze2) (a:E12.On):TW12.o a=E12.ab.gW OM3.o u e a:=by
 have z0:(((0+((0:Int)+0))*u*u)+ -(0+0+0))*e+0=0:=sm;have r1:E12.ab.nm (HB.o g1o) r=E12.ab.ze:=by
  rw[<-E1.ab.h_nm E12.ab HB.o_ad,show E1.ab.nm g1o r=E1.ab.ze from Subtype.ext (by rw[E1.ab_nm];exact t.qr)];rfl
 have r2:E12.ab.nm (HE.o g2o) r=E12.ab.ze:=by
  rw[<-E2w.ab.h_nm E12.ab HE.o_ad,show E2w.ab.nm g2o r=E2w.ab.ze from Subtype.ext (by rw[E2w.ab_nm];exact t.gr)];rfl
 have s1:TW12.o (HB.o g1o)=E12.ab.gW OM3.o u e (HB.o g1o):=by
  rw[E12.ab.gW_li (VD t1),Bj E12.ab r1 N1 _ z0,E12.ab.zm_1];exact Subtype.ext (zH (some G1p))
 have s2:TW12.o (HE.o g2o)=E12.ab.gW OM3.o u e (HE.o g2o):=by
  rw[E12.ab.gW_li (Ut t2),Bj E12.ab r2 N2 _ z0,E12.ab.zm_ng,E12.ab.zm_nat,<-E2w.ab.h_nm E12.ab HE.o_ad,<-E2w.ab.h_ng E12.ab HE.o_ad,<-Nz t2];exact Subtype.ext (sC (some G2p))
 have m1:=HE.jf5_ne (re2 (zp TRN)) lu le AX AY n1;have m2:=HE.jf5_ne (re2 (zp TRN)) lu le AX (ng2 AY) n2;have en:HE.f (ng2 AY)=E12.R.neg (em AY):=tI AY;rw[en]at m2;exact Ec.all_same TW12.o_ad (E12.ab.gW_ad OM3.o_ad u e) (E12.jf5_D C3 lu le) (λx y h=>Ec.jf5_V xr hu he h) o_px o_py (λ_ _ _=>rfl) (T:=Tij HE HB g2o g1o r) (λ_ _=>RN t) (λ_=>Zo t) (λ_=>UU t) (λi _=>Y6 TW12.o_ad (E12.ab.gW_ad OM3.o_ad u e) s2 s1 i) hn ET m1 m2 a
def rho(u e:Nat):Q4:=((((1+(-1+ -1))*u*u)+ -(1+1+ -1))*e+1,-1,(((0+(1+1))*u*u)+ -(0+0+1))*e+0,0)
theorem JL{u e:Nat}(h: ∀a:E12.On,TW12.o a=E12.ab.gW OM3.o u e a)(s:E2w.On):TN2.act (rho u e) s=E2w.ab.ze:=by
 have o1:OM3.o (HE.o s)=E12.ab.li (HE.o s) (HE.o (TW2.o (TW2.o s))) (-1) 1:=by
  rw[Nr,HE.o_ad,E2w.ab.h_ng E12.ab HE.o_ad,Ab.li,E12.ab.zm_ng,E12.ab.zm_1,E12.ab.zm_1,E12.ab.comm]
 have o2:HE.o (TW2.o s)=E12.ab.gW OM3.o u e (HE.o s):=by
  rw[<-h];exact (Subtype.ext (sC s.1)).symm
 rw[E12.ab.gW_li o1]at o2;have key:HE.o (TN2.act (rho u e) s)=E12.ab.ze:=by
  unfold Ab.Tn.act rho;dsimp only;generalize (((1+(-1+ -1))*(u:Int)*u)+ -(1+1+ -1))*e+1=N at*;generalize (((0+(1+1))*(u:Int)*u)+ -(0+0+1))*e+0=M at*;rw[HE.o_ad,HE.o_ad,HE.o_ad,E2w.ab.h_zm E12.ab HE.o_ad,E2w.ab.h_zm E12.ab HE.o_ad,E2w.ab.h_zm E12.ab HE.o_ad,E2w.ab.h_zm E12.ab HE.o_ad,E12.ab.zm_0,E12.ab.zr,E12.ab.zm_ng,E12.ab.zm_1];show E12.ab.ad (E12.ab.ad _ (E12.ab.ng (HE.o (TW2.o s)))) (E12.ab.zm (HE.o (TW2.o (TW2.o s))) M)=_;rw[o2,Ab.li,E12.ab.assoc,E12.ab.comm (E12.ab.ng _),<-E12.ab.assoc,E12.ab.nr]
 exact Subtype.ext (HE.p_none (congrArg Subtype.val key))
def EU:Nat:=(UG+1) / 3
def lU:List Bool:=(ef 64 UG []).tail
def lE:List Bool:=(ef 63 EU []).tail
theorem lU_n:ca lU 1=UG:=by decide+kernel
theorem lE_n:ca lE 1=EU:=by decide+kernel
theorem XQ:2*(4*mW5 lU lE+2*PP+1)<=ORD*(ORD-1):=by decide+kernel
theorem UE_1:(((1+(-((UG*UG:Nat):Int)+ -((UG*UG:Nat):Int)))*UG*UG)+ -(1+1+ -((UG*UG:Nat):Int)))*EU+1=1+(-2*(EU:Int))*ORD:=by decide+kernel
theorem UE_2:(((1+(((UG*UG:Nat):Int)+ -1+(((UG*UG:Nat):Int)+ -1)))*UG*UG)+ -(1+1+(((UG*UG:Nat):Int)+ -1)))*EU+1= -(UG:Int)+(2*(EU:Int))*ORD:=by decide+kernel
theorem A_j1:(E2w.jf5 (re2 (zp TRN)) lU lE AX AY).2.2≠ze2:=by decide+kernel
theorem A_j2:(E2w.jf5 (re2 (zp TRN)) lU lE AX (ng2 AY)).2.2≠ze2:=by decide+kernel
theorem g_td:TD HE HB g2o g1o ORD where
 sep:=Nn
 hr:=λ_ h0 h1=>rf nA h0 h1
 gr:=jy
 qr:=kB
 gn:=N3
 qn:=Hy
 r0:=by decide+kernel
 r2:=by decide+kernel
theorem G9(s:E2w.On):TN2.act (rho UG EU) s=E2w.ab.ze:=JL (Jo lU_n lE_n g_td (by rw[ME]) (by rw[Ow]) UE_1 UE_2 XQ A_j1 A_j2) s
def HEF:Nat:=0xbc69f08f2ee75b3584c6a0ea91b352888e2a8e9145ad7689986ff031508ffe1329c2f178731db956d82bf015d1212b02ec0ec69d7477c1ae954cbc06689f6a359894c0adebbf6b4e8020005aaa95551
def gCR:Q4:=(3175829495326079093223974707421713920929943713226963548300320552577044122385062918806753210708010195697222845942564328869099989319341598650296202088398645760395354361788887860685712333010521923740843833774331222,-2749521005381415097445601975610628764608838291071271597781440591441299419767669058301640939377508500417419161008431142969189977575372134321247729372495869,-6351658990652158186447949414843427841901494212740239422985378386944926357135145186773538712190292049236902325813389887900305724281946913697173908505664764391934386717058131074714202240959035786517553541389331117,24014457331330004357332821391498562889222829239326244857160378356394428128870661260283833621775616097469146203160572)
theorem TF:((((HEF*ORD:Nat):Int),0,0,0):Q4)=Q4.add (0,0,0,0) (gCR.mul (rho UG EU)):=by decide+kernel
theorem Dn(s:E2w.On):TN2.act (0,0,0,0) s=E2w.ab.ze:=TN2.act_nm 0 s
theorem Kb{P:Pt W2}(hP:E2w.onP P):E2w.times (E2w.times P HEF) ORD=none:=by
 have h:=TN2.act_same G9 TF ⟨P,hP⟩;rw[Dn,TN2.act_nm]at h;have k:=congrArg Subtype.val h;rw[E2w.ab_nm,E2w.times_mul hP]at k;exact k
theorem pf{a x y:W2}(ha:a≠ze2)(h:ml2 a x=ml2 a y):x=y:=by
 have e:=cQ ha;generalize iv2 a=s at*;exact zl R2 [a,s,x,y] 0x8 0x44575695382592 0x9 0x445756853856759567 (lca (lca (lcm h) (lcm e)) (lcm e))
theorem Pu{n s:Zp}(h:s*s= -n)(hn:n≠0): ¬IsQ n:=by
 rcases k5 (a:=n) (b:= -n) (c:=n) (by grind) hn with k|k
 ·exact absurd (rD h) k.2
 ·exact k.1
theorem MB{u X:W2}(h:tu2 u≠ze2)(e:ml2 (ml2 OA X) (tu2 u)=ml2 (ng2 OB) (ad2 (tu2 u) on2)):x1O u=X:=by
 have k:=(No h).trans e.symm;have sw: ∀a x t:W2,ml2 (ml2 a x) t=ml2 (ml2 a t) x:=λa x t=>zx R2 [a,x,t] 0x55678 0x55687;rw[sw,sw OA X]at k;exact pf (λq=>(fS q).elim BG h) k
theorem QS{u X R x r:W2}(h:tu2 u≠ze2)(e:ml2 (ml2 OA X) (tu2 u)=ml2 (ng2 OB) (ad2 (tu2 u) on2))(hr:ml2 R R=gO X)(hl:LG2 R=false)(s:SwR u x r):x=X/\r=R:=by
 have k:=MB h e;have hx:x=X:=s.at1.elim (λq=>q.trans k) (λq=>absurd ((jz _).1 ⟨R,hr⟩) (k▸q.1));exact ⟨hx,jt hr hl (hx▸s.sq) s.lg⟩
theorem RD{u X X' R x r:W2}{q:Zp}(h:tu2 u≠ze2)(e:ml2 (ml2 OA X) (tu2 u)=ml2 (ng2 OB) (ad2 (tu2 u) on2))(hn:q*q= -(nm2 (gO X)))(h0:nm2 (gO X)≠0)(hx':ml2 (zu2 u) X=X')(hr:ml2 R R=gO X')(hl:LG2 R=false)(s:SwR u x r):x=X'/\r=R:=by
 have k:=MB h e;have hx:x=X':=s.at1.elim (λj=>absurd (eT (j.trans k▸s.sq)) (Pu hn h0)) (λj=>by rw[j.2,k];exact hx')
 exact ⟨hx,jt hr hl (hx▸s.sq) s.lg⟩
theorem Nt{x X:W2}(h:R2.pev iXD x≠ze2)(e:ml2 (R2.pev iXD x) X=R2.pev iXN x):XIs x=X:=by
 refine pf h (Eq.trans ?_ e.symm);have k:=cQ h;unfold XIs;generalize R2.pev iXD x=d at*;generalize R2.pev iXN x=n at*;generalize iv2 d=s at*;exact zk R2 [d,n,s] 0x56578 0x7 0x7 0x2 0x568 k
theorem Nv{x y Y:W2}(h:R2.pev iYD x≠ze2)(e:ml2 (R2.pev iYD x) Y=ml2 y (R2.pev iYN x)):YIs x y=Y:=by
 refine pf h (Eq.trans ?_ e.symm);have k:=cQ h;unfold YIs;generalize R2.pev iYD x=d at*;generalize ml2 y (R2.pev iYN x)=n at*;generalize iv2 d=s at*;exact zk R2 [d,n,s] 0x56578 0x7 0x7 0x2 0x568 k
def okL(L:W6)(X:W2):Bool:= !decide (L.2.2=ze2) && decide (ml2 (ml2 L.2.2 L.2.2) X=L.1)
theorem Ef{P Q:Pt W2}{J K:W6}{X:W2}{m:Nat}(hP:E2w.onP P)(hQ:E2w.onP Q)(hJ:E2w.jr J P)(hK:E2w.jr K Q){l:List Bool}(hm:lT l 0=m)(hL:okL (E2w.jm (E2w.jaF J K) l (ze2,ze2,ze2)) X=true): ∃y,E2w.times (E2w.ad P Q) m=some (X,y):=by
 subst hm;have h:=Ec.jr_m (C:=E2w) (E2w.ad_on hP hQ) (E2w.jr_a hP hQ hJ hK) l (ze2,ze2,ze2) 0 O;generalize E2w.jm (E2w.jaF J K) l (ze2,ze2,ze2)=L at*;simp only[okL,Bool.and_eq_true,Bool.not_eq_true',decide_eq_true_eq,decide_eq_false_iff_not]at hL;obtain ⟨hz,hX⟩:=hL
 cases e:E2w.times (E2w.ad P Q) (lT l 0)with
 |none=>rw[e]at h;exact absurd h hz
 |some q=>
  rw[e]at h;have k:L.1=ml2 q.1 (ml2 L.2.2 L.2.2):=h.2.1;refine ⟨q.2,congrArg some (Prod.ext (pf (a:=ml2 L.2.2 L.2.2) (λj=>(fS j).elim hz hz) ?_) O)⟩;rw[hX,k];exact R2.mul_comm _ _
theorem G3:lT (ef 636 HEF []) 0=HEF:=by decide+kernel
section
open J2
attribute [local simp] g8 Xm.N2r_len
def HBs:L8:=[11#8,198#8,159#8,8#8,242#8,238#8,117#8,179#8,88#8,76#8,106#8,14#8,169#8,27#8,53#8,40#8,136#8,226#8,168#8,233#8,20#8,90#8,215#8,104#8,153#8,134#8,255#8,3#8,21#8,8#8,255#8,225#8,50#8,156#8,47#8,23#8,135#8,49#8,219#8,149#8,109#8,130#8,191#8,1#8,93#8,18#8,18#8,176#8,46#8,192#8,236#8,105#8,215#8,71#8,124#8,26#8,233#8,84#8,203#8,192#8,102#8,137#8,246#8,163#8,89#8,137#8,76#8,10#8,222#8,187#8,246#8,180#8,232#8,2#8,0#8,5#8,170#8,169#8,85#8,81#8]
theorem OwnV.skip{L:Hl}{n:Nat}{e:TypeId}{a0:Option Addr}{cap:Nat}{xs:List Value}(h:OwnV L n e a0 cap xs)(m:Nat){x:Nat×List Value×TypeId}(hm:Nat.beq m n=false):OwnV ((m,x)::L) n e a0 cap xs:=by
 rcases h with h|⟨b,c,h1,h2,h3⟩
 ·exact .inl h
 ·exact .inr ⟨b,c,h1,by show (bif Nat.beq m n then some x else lkB L n)=_;rw[hm];exact h2,h3⟩
theorem Vi:BN HBs HBs.length=HEF:=by decide+kernel
end
section
open J2
attribute [local simp] g8 Xm.N2r_len
def U2n(msg dst:L8)(i:Nat):W2:=Xm.N2 (Xm.E msg dst 256) i
abbrev U2c(msg dst:L8):List Value:=(RW 12 (Xm.N2r (Xm.E msg dst 256)) 2).map U64
def SwA(u:W2)(A:W2×W2):Prop:= ∃x r,SwR u x r/\(XIs x,YIs x (sgS r u))=A
theorem G0(u:W2): ∃A,SwA u A:=by
 obtain ⟨x,r,h⟩:=R9 u;exact ⟨_,x,r,h,rfl⟩
theorem Ik{u:W2}{A:W2×W2}(h:SwA u A):E2w.on A:=by
 obtain ⟨x,r,s,rfl⟩:=h;exact w7 s.on
structure Sw2(msg dst:L8)(A B:W2×W2):Prop where
 s0:SwA (U2n msg dst 0) A
 s1:SwA (U2n msg dst 1) B
theorem Ck{msg dst:L8}{w0 w:World}{v:Value}(h:Xm.RFt msg dst 2 w0 w v)(hb: ¬Xm.FBad msg dst 2): ∃b cap,v=.tuple #[.slice (spt b) 2 cap,I 0]/\w0.heap.size<=b/\w.rangeAt b 0 (U2c msg dst):=by
 obtain ⟨a,cap,hv,ha⟩:=h.ok hb;obtain ⟨b,rfl,hs,hr⟩:=ha.resolve_left dc;exact ⟨b,cap,hv,hs,hr⟩
theorem D0{msg dst:L8}{w:World}{b:Nat}(h:w.rangeAt b 0 (U2c msg dst)):b<w.heap.size:=by
 have hl:0<(U2c msg dst).length:=by simp[U2c]
 exact block_lt_of_cell (h 0 _ (List.getElem?_eq_getElem hl))
end
section
open J2
attribute [local simp] g8 jU
theorem ent94:ai prog 94:=λ_ _=>kr
structure PHs:Prop where
 bad: ∀msg dst,Xm.FBad msg dst 2->∃p:GP,p.P=none/\∀(a1:Option Addr) (cap1:Nat) (a2:Option Addr) (cap2:Nat) (w:World),msg.length<=65600->msg.length<=cap1->dst.length<=1000->dst.length<=cap2->Gt w->BytesAt w a1 msg->BytesAt w a2 dst->CLS 94 [.slice a1 msg.length cap1,.slice a2 dst.length cap2].toArray w (λe w'=>e=.returned (.tuple #[PtV p,I 130])/\Grow w w')
 ok: ∀msg dst A B,¬Xm.FBad msg dst 2->Sw2 msg dst A B->∃p:GP,p.P=E2w.times (E2w.ad (some A) (some B)) HEF/\∀(a1:Option Addr) (cap1:Nat) (a2:Option Addr) (cap2:Nat) (w:World),msg.length<=65600->msg.length<=cap1->dst.length<=1000->dst.length<=cap2->Gt w->BytesAt w a1 msg->BytesAt w a2 dst->CLS 94 [.slice a1 msg.length cap1,.slice a2 dst.length cap2].toArray w (λe w'=>e=.returned (.tuple #[PtV p,I 0])/\Grow w w')
def SUs:L8:=[66#8,76#8,83#8,95#8,83#8,73#8,71#8,95#8,66#8,76#8,83#8,49#8,50#8,51#8,56#8,49#8,71#8,50#8,95#8,88#8,77#8,68#8,58#8,83#8,72#8,65#8,45#8,50#8,53#8,54#8,95#8,83#8,83#8,87#8,85#8,95#8,82#8,79#8,95#8,80#8,79#8,80#8,95#8]
def SUb:ByteArray:=⟨(SUs.map λx=>UInt8.ofBitVec x).toArray⟩
theorem Pi(msg dst:L8): ∃A B,Sw2 msg dst A B:=by
 obtain ⟨A,h⟩:=G0 (U2n msg dst 0);obtain ⟨B,h'⟩:=G0 (U2n msg dst 1);exact ⟨A,B,h,h'⟩
theorem in_r{P Q:Pt W2}(hP:E2w.onP P)(h:Q=E2w.times P HEF):E2w.times Q ORD=none:=by rw[h];exact Kb hP
theorem Pl{msg dst:L8}{A B:W2×W2}(h:Sw2 msg dst A B):E2w.onP (E2w.ad (some A) (some B)):=E2w.ad_on (fL (Ik h.s0)) (fL (Ik h.s1))
end
theorem ent260:ai prog 260:=λ_ _=>kr
theorem ent259:ai prog 259:=λ_ _=>kr
theorem ent261:ai prog 261:=λ_ _=>kr
namespace Xm
attribute [local simp] Sh.hO kP qF ku gw jv Sh.bH lM
theorem zvH(w:World):(zeroValue 315).run prog w=.ok (.agg (Sh.hc (List.replicate 8 0#32) (List.replicate 64 0#8) 0).toArray) w:=(zeroValue315 w).trans rr
theorem OY(T bs:L8)(bh:Nat)(st:L3)(rs:L8)(n:BitVec 64)(hi:Sh.HInv T st rs n)(a:Option Addr)(len cap:Nat)(hlen:bs.length=len)(hcap:len<=cap)(hT:T.length+len<9223372036854775808)(w:World)(hw:Gt w)(ho:OwnB w bh (Sh.hc st rs n) 315)(hbh:8<=bh)(hby:BytesAt w a bs)(hne:bs≠[]->∀ad,a=some ad->ad.block≠bh):
 CLS 282 [pnt bh,.slice a len cap].toArray w (λe w'=>e=.returned (.tuple #[])/\Mod bh w w'/\∃st' rs' n',Sh.HInv (T++bs) st' rs' n'/\OwnB w' bh (Sh.hc st' rs' n') 315):=by
 subst hlen;exact Sh.wX T bs bh st rs n hi (by rw[List.length_append];exact hT) a cap hcap w hw ho hbh hby hne
structure Pc where
 (a:Option Addr) (len cap:Nat) (bs:L8)
def Pc.v(p:Pc):Value:=.slice p.a p.len p.cap
structure PcAt(w:World)(p:Pc):Prop where
 hl:p.bs.length=p.len
 hc:p.len<=p.cap
 hb:BytesAt w p.a p.bs
structure PsAt(w:World)(a:Option Addr)(ps:List Pc):Prop where
 cells:CellsAt w a (ps.map Pc.v)
 all: ∀p,p∈ps->PcAt w p
def cat(ps:List Pc)(k:Nat):L8:=((ps.take k).map Pc.bs).flatten
theorem D8{ps:List Pc}{k:Nat}{p:Pc}(h:ps[k]? =some p):cat ps (k+1)=cat ps k++p.bs:=by
 rw[cat,List.take_add_one,h,List.map_append,List.flatten_append];simp[cat]
theorem Hv(ps:List Pc): ∀(m k:Nat),(cat ps k).length<=(cat ps (k+m)).length
 |0,_=>Nat.le_refl _
 |m+1,k=>by
  refine Nat.le_trans (Hv ps m k) ?_
  cases h:ps[k+m]? with
  |some p=>rw[<-Nat.add_assoc,D8 h,List.length_append];omega
  |none=>
   have:ps.length<=k+m:=List.getElem?_eq_none_iff.1 h;rw[cat,cat,List.take_of_length_le this,List.take_of_length_le om];exact Nat.le_refl _
theorem JZ(ps:List Pc){k:Nat}(h:k<=ps.length):(cat ps k).length<=(cat ps ps.length).length:=by
 have:=Hv ps (ps.length-k) k
 rwa [Nat.add_sub_cancel' h]at this
structure LsV(ps:List Pc) where
 (k:Nat) (st:L3) (rs:L8) (n:BitVec 64)
 hk:k<=ps.length
 hi:Sh.HInv (cat ps k) st rs n
theorem Xw(a:Option Addr)(cap:Nat)(ps:List Pc)(hlen:ps.length<=1000)(hl:(cat ps ps.length).length<=1000000)(w:World)(hw:Gt w)(hr:PsAt w a ps):CLS 260 [.slice a ps.length cap].toArray w (λe w'=>e=.returned (.agg ((Sh.SHA (cat ps ps.length)).map U8).toArray)/\Grow w w'):=by
 refine Hf func260 O hw<|λhGF=>ae (E:=EE [282])<|Al 2 hGF zv112<|λb2=>aa<|ae (E:=EE [282])<|Al 3 hGF zvH<|λb3=>aa<|ah<|ae (E:=EE [282])<|Mv O<|bD O (λ_=>aV underlying312 _ _ _ _) O O<|Mv O<|aa<|am<|cb (ι:=LsV ps) (λz=>[(6,.slice a ps.length cap),(7,I (ps.length:Int)),(8,I (z.k:Int)),(2,pnt b2),(3,pnt b3)]) (λz=>[(2,b2,(List.replicate 32 0#8).map U8,112),(3,b3,Sh.hc z.st z.rs z.n,315)]) (λz=>ps.length-z.k) ⟨0,_,_,_,Nat.zero_le _,Sh.HInv.zero⟩ hGF trv trv<|?_;rintro ⟨k,st,rs,n,hk,hi⟩;dsimp only;refine ae (E:=EE [282])<|Bnr O O (λ_=>aC _ _ _)<|aa<|ah<|?_;refine bE O (λhc=> ?_) (λhc=> ?_)
 ·have hlt:k<ps.length:=by simp at hc;omega
  clear hc;obtain ⟨p,hp⟩: ∃p,ps[k]? =some p:=⟨_,List.getElem?_eq_getElem hlt⟩;obtain ⟨ad,rfl,hcell⟩:=hr.cells k p.v (by rw[List.getElem?_map,hp];rfl)
  have hpa:=hr.all p (List.mem_of_getElem? hp);have hsz:(cat ps k).length+p.len<9223372036854775808:=by
   have h1:=JZ ps (k:=k+1) hlt;rw[D8 hp,List.length_append,hpa.hl]at h1;omega
  refine aq<|ah<|am<|ae (E:=EE [282])<|ek k O O underlying312 sizeOf22 O hlt O O<|bp O isAgg22 (λw' h=>((ac h).cell (block_lt_of_cell hcell)).trans hcell) O O<|Asg O<|aa<|bQ (E:=EE [282])<|Mv O<|?_;refine dp O O ent282 O O (λw' hC=>(OY (cat ps k) (p.bs) b3 st rs n hi _ _ _ (hpa.hl) hpa.hc hsz w' (hGF.g _ _ _ hC) (hC.own 3 _ _ _ O).1 (Nat.le_trans (gt_low.size w hw) ((hC.own 3 _ _ _ O).2.elim id False.elim)) (hpa.hb.grow (ac hC)) (λh ad e=>Nat.ne_of_lt (Nat.lt_of_lt_of_le (hpa.hb.lt h ad e) ((hC.own 3 _ _ _ O).2.elim id False.elim)))).mono λe w'' h=> ?_);obtain ⟨rfl,hm,st1,rs1,n1,hi1,ho⟩:=h;refine ⟨_,_,rfl,ay hGF,hC.mod hGF.r (n:=3) O hm ho, ?_⟩;clear hC hm ho;refine aa<|bQ (E:=EE [282])<|Bnr (v:=I ((k+1:Nat):Int)) O O (λ_=>(az _ _ _ oi).trans rr)<|Mv O<|aa<|?_
  repeat (refine aW ?_)
  exact aQ<|⟨rfl,⟨k+1,st1,rs1,n1,hlt,(D8 hp).symm▸hi1⟩,_,by show ps.length-(k+1)<ps.length-k;omega,rfl,trv,trv⟩
 ·have hke:k=ps.length:=by simp at hc;omega
  clear hc;refine a6<|ae (E:=EE [282])<|Cc O ent283 (λw' hC hG=>Sh.y3 (cat ps k) b3 st rs n hi w' hG (hC.own 3 _ _ _ O).1)<|aA 2 hGF O O O sizeOf112 sm sm (bL _) O<|aa<|ak<|Rr<|?_;exact au 2 O O O isAgg112 sizeOf112 sm (λw hw=>⟨by rw[<-hke],ac hw⟩)
theorem XE(b:Nat)(a1:Option Addr)(l1 c1:Nat)(x1:L8)(a2:Option Addr)(l2 c2:Nat)(x2:L8)(a3:Option Addr)(l3 c3:Nat)(x3:L8)(w:World)(hw:Gt w)(hr:w.rangeAt b 0 [.slice a1 l1 c1,.slice a2 l2 c2,.slice a3 l3 c3])(e1:x1.length=l1)(h1:l1<=c1)(b1:BytesAt w a1 x1)(e2:x2.length=l2)(h2:l2<=c2)(b2:BytesAt w a2 x2)(e3:x3.length=l3)(h3:l3<=c3)(b3:BytesAt w a3 x3)(hl:l1+l2+l3<=1000000):CLS 260 [.slice (spt b) 3 3].toArray w (λe w'=>e=.returned (.agg ((Sh.SHA ((x1++x2)++x3)).map U8).toArray)/\Grow w w'):=by
 have e:cat [⟨a1,l1,c1,x1⟩,⟨a2,l2,c2,x2⟩,⟨a3,l3,c3,x3⟩] 3=(x1++x2)++x3:=by simp[cat]
 have h:=Xw (spt b) 3 [⟨a1,l1,c1,x1⟩,⟨a2,l2,c2,x2⟩,⟨a3,l3,c3,x3⟩] sm (by show (cat [⟨a1,l1,c1,x1⟩,⟨a2,l2,c2,x2⟩,⟨a3,l3,c3,x3⟩] 3).length<=_;rw[e];simp only[List.length_append];omega) w hw ⟨CellsAt.range hr,λp hp=>by
  simp only[List.mem_cons,List.not_mem_nil,or_false]at hp;rcases hp with rfl|rfl|rfl
  ·exact ⟨e1,h1,b1⟩
  ·exact ⟨e2,h2,b2⟩
  ·exact ⟨e3,h3,b3⟩⟩
 rw[<-e];exact h
theorem Zg(b:Nat)(a1:Option Addr)(l1 c1:Nat)(x1:L8)(a2:Option Addr)(l2 c2:Nat)(x2:L8)(a3:Option Addr)(l3 c3:Nat)(x3:L8)(a4:Option Addr)(l4 c4:Nat)(x4:L8)(w:World)(hw:Gt w)(hr:w.rangeAt b 0 [.slice a1 l1 c1,.slice a2 l2 c2,.slice a3 l3 c3,.slice a4 l4 c4])(e1:x1.length=l1)(h1:l1<=c1)(b1:BytesAt w a1 x1)(e2:x2.length=l2)(h2:l2<=c2)(b2:BytesAt w a2 x2)(e3:x3.length=l3)(h3:l3<=c3)(b3:BytesAt w a3 x3)(e4:x4.length=l4)(h4:l4<=c4)(b4:BytesAt w a4 x4)(hl:l1+l2+l3+l4<=1000000):CLS 260 [.slice (spt b) 4 4].toArray w (λe w'=>e=.returned (.agg ((Sh.SHA (((x1++x2)++x3)++x4)).map U8).toArray)/\Grow w w'):=by
 have e:cat [⟨a1,l1,c1,x1⟩,⟨a2,l2,c2,x2⟩,⟨a3,l3,c3,x3⟩,⟨a4,l4,c4,x4⟩] 4=((x1++x2)++x3)++x4:=by simp[cat]
 have h:=Xw (spt b) 4 [⟨a1,l1,c1,x1⟩,⟨a2,l2,c2,x2⟩,⟨a3,l3,c3,x3⟩,⟨a4,l4,c4,x4⟩] sm (by show (cat [⟨a1,l1,c1,x1⟩,⟨a2,l2,c2,x2⟩,⟨a3,l3,c3,x3⟩,⟨a4,l4,c4,x4⟩] 4).length<=_;rw[e];simp only[List.length_append];omega) w hw ⟨CellsAt.range hr,λp hp=>by
  simp only[List.mem_cons,List.not_mem_nil,or_false]at hp;rcases hp with rfl|rfl|rfl|rfl
  ·exact ⟨e1,h1,b1⟩
  ·exact ⟨e2,h2,b2⟩
  ·exact ⟨e3,h3,b3⟩
  ·exact ⟨e4,h4,b4⟩⟩
 rw[<-e];exact h
theorem UA(a:Option Addr)(m:Nat):(if m=0 then a else a.map (·.add (0*1)))=a:=by
 cases a with
 |none=>simp
 |some ad=>simp[Addr.add]
def TgV(dst:L8)(w:World)(v:Value):Prop:= ∃a cap,v=.slice a (D dst).length cap/\BytesAt w a (D dst)/\(D dst).length<=cap
theorem ptag(a:Option Addr)(cap:Nat)(dst:L8)(hc:dst.length<=cap)(hl:dst.length<=100000)(w:World)(hw:Gt w)(hb:BytesAt w a dst):CLS 259 [.slice a dst.length cap].toArray w (λe w'=> ∃v,e=.returned v/\Grow w w'/\TgV dst w' v):=by
 refine Hf func259 O hw<|λhGF=>Xp<|Asg O<|aa<|Xp<|Mv O<|Mv O<|bD O (λ_=>aV underlying22 _ _ _ _) O O<|Mv O<|bD O (λ_=>aV underlying22 _ _ _ _) O O<|fR (l:=0) (h':=dst.length) (m:=dst.length) O underlying22 sizeOf5 O O O ⟨Nat.zero_le _,Nat.le_refl _,hc⟩ O O<|?_;rw[UA,Nat.sub_zero];refine Mv O<|bD O (λ_=>aV underlying22 _ _ _ _) O O<|cu O O (λ_=>lp underlying3 underlying5 _) O O<|iX 12 [BitVec.ofInt 8 (dst.length:Int)] hGF O O O dc dc underlying22 sizeOf5 zeroValue5 O O<|?_;intro b12;refine xP (xs:=dst) (ys:=[BitVec.ofInt 8 (dst.length:Int)]) 13 hGF O O underlying22 underlying22 ti5 (λw' h=>hb.grow (ac h)) (λw' h=>BytesAt.range (aX (n:=12) O w' h)) (by simp;omega) sm O O (λb13 c13 cap13 e13 l13 t13=> ?_)
 subst e13;refine Asg O<|aa<|ak<|Rr<|?_;exact aO O O (λw hw=>⟨_,rfl,ac hw,_,_,rfl,Ni (hw.own 13 b13 _ _ O).1.range t13,l13⟩)
theorem vT(l:L8)(i j:Nat)(v:BitVec 8):(l.set i v).getD j 0=if i=j/\j<l.length then v else l.getD j 0:=by
 simp only[List.getD_eq_getElem?_getD,List.getElem?_set];by_cases h:i=j
 ·subst h
  by_cases h2:i<l.length
  ·simp[h2]
  ·simp[h2]
 ·simp[h]
theorem DU(b l:L8): ∀(j i:Nat),j<=i->(R b l j).getD i 0=b.getD i 0
 |0,_,_=>rfl
 |j+1,i,h=>by rw[R,vT,if_neg om,DU b l j i om]
theorem TG(b l:L8)(j:Nat):(R b l j).set j ((R b l j).getD j 0^^^l.getD j 0)=R b l (j+1):=by rw[R,DU b l j j (Nat.le_refl _)]
theorem vP(l:L8)(j:Nat):l.set j (l.getD j 0)=l:=by
 refine List.ext_getElem? λi=> ?_;rw[List.getElem?_set];by_cases h:j=i
 ·subst h
  by_cases h2:j<l.length
  ·simp[h2]
  ·simp[h2]
 ·simp[h]
theorem Ht(b:L8): ∀j,R b (List.replicate 32 0#8) j=b
 |0=>rfl
 |j+1=>by
  rw[R,Ht b j,show (List.replicate 32 0#8).getD j 0=0#8 by rw[List.getD_eq_getElem?_getD,List.getElem?_replicate];split<;>rfl,BitVec.xor_zero,vP]
theorem Ys(b d:L8)(k:Nat):R b (Xk b d k) 32=X16 b (Xk b d k) k:=by
 unfold X16;split
 ·next h=>subst h;exact Ht b 32
 ·rfl
theorem LJ(b d:L8)(k:Nat):Sh.SHA ((R b (Xk b d k) 32++[BitVec.ofInt 8 ((k+1:Nat):Int)])++d)=Xk b d (k+1):=by rw[Ys,Xk];rfl
attribute [local simp] ku
theorem Ew(x l:L8)(hx:x.length=32)(hl:l.length=32):PUR 284 [.agg (x.map U8).toArray,.agg (l.map U8).toArray] (.agg ((R x l 32).map U8).toArray):=by
 intro w hw;refine Hf func284 O hw<|λhGF=>Xp<|Bx 2 hGF O<|λb2=>Bx 3 hGF O<|λb3=>Al 4 hGF zv112<|λb4=>aa<|ah<|Xp<|Mv O<|aa<|am<|cb (ι:={j:Nat // j<=32}) (λy=>[(2,pnt b2),(3,pnt b3),(4,pnt b4),(6,I (y.1:Int))]) (λy=>[(2,b2,(R x l y.1).map U8,112),(3,b3,l.map U8,112),(4,b4,(List.replicate 32 0#8).map U8,112)]) (λy=>32-y.1) ⟨0,om⟩ hGF trv trv<|?_;rintro ⟨j,hj⟩;dsimp only;refine Xp<|Bnr O O (λ_=>aC _ _ _)<|aa<|ah<|?_;refine bE O (λhc=> ?_) (λhc=> ?_)
 ·simp only[decide_eq_true_eq]at hc
  refine aq<|ah<|am<|Xp<|Mv O<|Asg O<|aa<|Xe []<|Mv O<|Ia (j) O O underlying112 sizeOf5<|Lm 2 U8 0 O O isAgg5 (by first|omega|(simp;omega))<|Mv O<|Ia (j) O O underlying112 sizeOf5<|Lm 3 U8 0 O O isAgg5 (by first|omega|(simp;omega))<|Bnr O O (λ_=>yG _ _ _)<|Ia (j) O O underlying112 sizeOf5<|bc 2 U8 hGF O O O sizeOf5 O (by first|omega|(simp;omega)) O<|aa<|Xq<|Bnr O O (λ_=>az _ _ _ oi)<|Mv O<|aa<|?_
  repeat (refine aW ?_)
  exact aQ<|⟨rfl,⟨j+1,om⟩,_,by show 32-(j+1)<32-j;omega,rfl,trv,⟨by rw[<-TG];rfl,rfl,rfl,trivial⟩⟩
 ·obtain rfl:j=32:=by simp at hc;omega
  refine a6<|Xp<|bO 2 O O isAgg112 sizeOf112 (by simp[hx]) O O<|aA 4 hGF O O O sizeOf112 (by simp[hx]) sm (bL _) O<|aa<|ak<|Rr<|?_
  exact au 4 O O O isAgg112 sizeOf112 (by simp[hx]) (λw hw=>⟨rfl,ac hw⟩)
end Xm
namespace Xm
attribute [local simp] Sh.hO kP qF ku gw jv Sh.bH lM
attribute [local simp] AP ku
theorem zvS(w:World):(zeroValue 22).run prog w=.ok (.slice none 0 0) w:=zeroValue22 w
theorem VY(n:Nat)(hn:n<=8160)(t:TypeId)(w:World):(binOp .quo t (I ((n:Int)+32-1)) (I 32)).run prog w=.ok (I ((((n+31) / 32):Nat):Int)) w:=by
 have e:((n:Int)+32-1).tdiv 32=((((n+31) / 32):Nat):Int):=by
  rw[Int.tdiv_eq_ediv_of_nonneg om];omega
 rw[<-e];exact go t _ _ dc (by rw[e];unfold inI;omega)
structure LtV(b d:L8)(m:Nat) where
 (k bb:Nat) (c:List Value) (cap:Nat)
 hk:k<=m
 hcap:c.length=cap
 hle:(Ozz b d k).length<=cap
 ht:c.take (Ozz b d k).length=(Ozz b d k).map U8
def SrV(b d:L8)(n:Nat)(w:World)(v:Value):Prop:= ∃a,v=.slice a n n/\BytesAt w a ((Ozz b d ((n+31) / 32)).take n)
theorem Hj(b d:L8)(hb:b.length=32)(a:Option Addr)(cap0:Nat)(n:Nat)(hn:n<=8160)(hd:d.length<=1000)(hc0:d.length<=cap0)(w:World)(hw:Gt w)(hby:BytesAt w a d):CLS 261 [.agg (b.map U8).toArray,.slice a d.length cap0,I (n:Int)].toArray w (λe w'=> ∃v,e=.returned v/\Grow w w'/\SrV b d n w' v):=by
 refine Hf func261 O hw<|λhGF=>Xp<|Bx 3 hGF O<|λb3=>Asg O<|aa<|Xp<|Mv O<|Bnr O O (λ_=>az _ _ _ oi)<|Bnr O O (λ_=>bf _ _ _ oi)<|de (v:=I ((((n+31) / 32):Nat):Int)) O O (λ_=>rfl) (λw=>VY n hn _ w) O O<|Asg O<|aa<|Xp<|Mv O<|de (v:=I ((((n+31) / 32)*32:Nat):Int)) O O (λ_=>rfl) (λ_=>(bJ _ _ _ oi).trans rr) O O<|vK (l:=0) (m:=((n+31) / 32)*32) (c:=(List.replicate (((n+31) / 32)*32) 0#8).map U8) 18 hGF O O (Nat.zero_le _) underlying22 ti5 ⟨om,om,om⟩ (by rw[Nat.mul_one];exact Wk _) O O<|λb18=>Asg O<|aa<|Xp<|Al 9 hGF zv112<|λb9=>aa<|ah<|Xp<|Mv O<|Mv O<|aa<|am<|cb (ι:=LtV b d ((n+31) / 32)) (λz=>[(1,.slice a d.length cap0),(2,I (n:Int)),(3,pnt b3),(8,.slice (spt z.bb) (Ozz b d z.k).length z.cap),(9,pnt b9),(19,I (((n+31) / 32):Nat)),(20,I (z.k:Int))]) (λz=>[(3,b3,b.map U8,112),(9,b9,(Xk b d z.k).map U8,112),(18,z.bb,z.c,5)]) (λz=>((n+31) / 32)-z.k) ⟨0,b18,_,((n+31) / 32)*32,Nat.zero_le _,sm,Nat.zero_le _,rfl⟩ hGF ⟨rfl,rfl,rfl,rfl,rfl,rfl,rfl,trivial⟩ ⟨rfl,rfl,rfl,trivial⟩<|?_
 rintro ⟨k,bb,c,cap,hk,hcap,hle,ht⟩;dsimp only;have hx:(Xk b d k).length=32:=gw _ _ _;refine Xp<|Bnr O O (λ_=>aC _ _ _)<|aa<|ah<|?_;refine bE O (λhc=> ?_) (λhc=> ?_)
 ·have hlt:k<((n+31) / 32):=by simp at hc;omega
  clear hc;refine aq<|ah<|am<|Xp<|Mv O<|Asg O<|aa<|Xp<|bO 3 O O isAgg112 sizeOf112 (by simp[hb]) O O<|La 9 O O vh<|Ca O (Ew b (Xk b d k) hb (gw _ _ _))<|Al 11 hGF zv112<|λb11=>aA 11 hGF O O O sizeOf112 (by simp[hb]) sm (bL _) O<|aa<|Xp<|bB (l:=0) (h':=32) O underlying112 sizeOf5 O O om om O O<|Mv O<|Bnr (v:=I ((k+1:Nat):Int)) O O (λ_=>(az _ _ _ oi).trans rr)<|cu O O (λ_=>lp underlying3 underlying5 _) O O<|iX 30 [BitVec.ofInt 8 ((k+1:Nat):Int)] hGF O O O dc dc underlying22 sizeOf5 zeroValue5 O O<|λb30=>Mv O<|Am 32 [.slice (spt b11) 32 32,.slice (spt b30) 1 1,.slice a d.length cap0] hGF O O O dc dc underlying312 sizeOf22 zvS O O O<|λb32=>Cc O ent260 (λw' hC hG=>XE b32 (spt b11) 32 32 (R b (Xk b d k) 32) (spt b30) 1 1 [BitVec.ofInt 8 ((k+1:Nat):Int)] a d.length cap0 d w' hG (aX (n:=32) O w' hC) (by rw[ku,hb]) (Nat.le_refl _) (BytesAt.range (aX (n:=11) O w' hC)) O (Nat.le_refl _) (BytesAt.range (aX (n:=30) O w' hC)) O hc0 (hby.grow (ac hC)) om)<|?_
  rw[show Sh.SHA (((R b (Xk b d k) 32)++[BitVec.ofInt 8 ((k+1:Nat):Int)])++d)=Xk b d (k+1)from LJ b d k];refine aA 9 hGF O O O sizeOf112 sm sm (bL _) O<|aa<|Xq<|Mv O<|bB (l:=0) (h':=32) O underlying112 sizeOf5 O O om om O O<|?_;refine nQ (xs:=Ozz b d k) (ys:=Xk b d (k+1)) 18 hGF O (by rw[gw];rfl) underlying22 underlying22 ti5 (.inr ⟨bb,c,rfl,rfl,hcap,hle,ht⟩) (λw' h=>BytesAt.range (aX (n:=9) O w' h)) (by rw[jv,gw];omega) O O (λh0=> ?_) (λb36 c36 cap36 e36 l36 t36=> ?_)
  ·exact (OG (gw _ _ _) h0).elim
  subst e36;refine Asg O<|aa<|Xq<|Bnr (v:=I ((k+1:Nat):Int)) O O (λ_=>(az _ _ _ oi).trans rr)<|Mv O<|aa<|?_
  repeat (first|refine aW ?_|refine ce ?_)
  exact aQ<|⟨rfl,⟨k+1,b36,c36,c36.length,om,rfl,l36,t36⟩,_,by show ((n+31) / 32)-(k+1)<((n+31) / 32)-k;omega,rfl,trv,trv⟩
 ·have hke:k=((n+31) / 32):=by simp at hc;omega
  clear hc;refine a6<|Xp<|Mv O<|Mv O<|Mv O<|fR (l:=0) (h':=n) (m:=n) O underlying22 sizeOf5 O O O ⟨Nat.zero_le _,Nat.le_refl _,by rw[jv]at hle;omega⟩ O O<|?_
  rw[UA,Nat.sub_zero];refine Asg O<|aa<|ak<|Rr<|?_;subst hke;have e:(List.take n (Ozz b d ((n+31) / 32))).length=n:=by rw[List.length_take,jv];omega
  exact aO O O (λw hw=>⟨_,rfl,ac hw,_,rfl,Ni (hw.own 18 bb _ _ O).1.range (by rw[e];exact IL ht (by rw[jv];omega))⟩)
theorem px_0(a1:Option Addr)(cap1:Nat)(msg:L8)(a2:Option Addr)(cap2:Nat)(dst:L8)(z:Int)(h:z<0)(w:World)(hw:Gt w):CLS 227 [.slice a1 msg.length cap1,.slice a2 dst.length cap2,I z].toArray w (λe w'=>e=.returned (.tuple #[.slice none 0 0,I 130])/\Grow w w'):=by
 refine Hf func227 O hw<|λhGF=>Xp<|Asg O<|Asg O<|aa<|ah<|Xp<|Mv O<|Bnb true O O (λ_=>aC _ _ _) (decide_eq_true om)<|Mv O<|Sk<|Sk<|Pk O O O<|Mv O<|Sk<|Sk<|Sk<|Pk O O O<|Mv O<|Sk<|Sk<|Sk<|Pk O O O<|aa<|aL O<|Xp<|Asg O<|Asg O<|aa<|ak<|Rr<|?_;exact db O O O (λw hw=>⟨rfl,ac hw⟩)
theorem px_1(a1:Option Addr)(cap1:Nat)(msg:L8)(a2:Option Addr)(cap2:Nat)(dst:L8)(z:Int)(h:8160<z)(w:World)(hw:Gt w):CLS 227 [.slice a1 msg.length cap1,.slice a2 dst.length cap2,I z].toArray w (λe w'=>e=.returned (.tuple #[.slice none 0 0,I 130])/\Grow w w'):=by
 refine Hf func227 O hw<|λhGF=>Xp<|Asg O<|Asg O<|aa<|ah<|Xp<|Mv O<|Bnb false O O (λ_=>aC _ _ _) (decide_eq_false om)<|Mv O<|Mv O<|Bnb true O O (λ_=>cm _ _ _) (decide_eq_true om)<|Pk O O O<|Mv O<|Sk<|Sk<|Sk<|Pk O O O<|Mv O<|Sk<|Sk<|Sk<|Pk O O O<|aa<|aL O<|Xp<|Asg O<|Asg O<|aa<|ak<|Rr<|?_;exact db O O O (λw hw=>⟨rfl,ac hw⟩)
theorem px_2(a1:Option Addr)(cap1:Nat)(msg:L8)(a2:Option Addr)(cap2:Nat)(dst:L8)(z:Int)(h0: ¬z<0)(h1: ¬8160<z)(h:255<dst.length)(w:World)(hw:Gt w):CLS 227 [.slice a1 msg.length cap1,.slice a2 dst.length cap2,I z].toArray w (λe w'=>e=.returned (.tuple #[.slice none 0 0,I 130])/\Grow w w'):=by
 refine Hf func227 O hw<|λhGF=>Xp<|Asg O<|Asg O<|aa<|ah<|Xp<|Mv O<|Bnb false O O (λ_=>aC _ _ _) (decide_eq_false om)<|Mv O<|Mv O<|Bnb false O O (λ_=>cm _ _ _) (decide_eq_false om)<|Pk O O O<|Mv O<|Mv O<|bD O (λ_=>aV underlying22 _ _ _ _) O O<|Bnb true O O (λ_=>cm _ _ _) (decide_eq_true om)<|Pk O O O<|Mv O<|Sk<|Sk<|Sk<|Pk O O O<|aa<|aL O<|Xp<|Asg O<|Asg O<|aa<|ak<|Rr<|?_;exact db O O O (λw hw=>⟨rfl,ac hw⟩)
theorem px_3(a1:Option Addr)(cap1:Nat)(msg:L8)(a2:Option Addr)(cap2:Nat)(dst:L8)(z:Int)(h0: ¬z<0)(h1: ¬8160<z)(h2: ¬255<dst.length)(h:65536<msg.length)(w:World)(hw:Gt w):CLS 227 [.slice a1 msg.length cap1,.slice a2 dst.length cap2,I z].toArray w (λe w'=>e=.returned (.tuple #[.slice none 0 0,I 130])/\Grow w w'):=by
 refine Hf func227 O hw<|λhGF=>Xp<|Asg O<|Asg O<|aa<|ah<|Xp<|Mv O<|Bnb false O O (λ_=>aC _ _ _) (decide_eq_false om)<|Mv O<|Mv O<|Bnb false O O (λ_=>cm _ _ _) (decide_eq_false om)<|Pk O O O<|Mv O<|Mv O<|bD O (λ_=>aV underlying22 _ _ _ _) O O<|Bnb false O O (λ_=>cm _ _ _) (decide_eq_false om)<|Pk O O O<|Mv O<|Mv O<|bD O (λ_=>aV underlying22 _ _ _ _) O O<|Bnb true O O (λ_=>cm _ _ _) (decide_eq_true om)<|Pk O O O<|aa<|aL O<|Xp<|Asg O<|Asg O<|aa<|ak<|Rr<|?_;exact db O O O (λw hw=>⟨rfl,ac hw⟩)
theorem VI(a1:Option Addr)(cap1:Nat)(msg:L8)(a2:Option Addr)(cap2:Nat)(dst:L8)(n:Nat)(hc1:msg.length<=cap1)(hc2:dst.length<=cap2)(hn:n<=8160)(hd:dst.length<=255)(hm:msg.length<=65536)(w:World)(hw:Gt w)(hb1:BytesAt w a1 msg)(hb2:BytesAt w a2 dst):CLS 227 [.slice a1 msg.length cap1,.slice a2 dst.length cap2,I (n:Int)].toArray w (λe w'=> ∃v,e=.returned v/\Grow w w'/\∃a cap,v=.tuple #[.slice a (E msg dst n).length cap,I 0]/\BytesAt w' a (E msg dst n)/\(E msg dst n).length<=cap):=by
 have hGF:BOk Gt (pl w):=gt_low.plain hw;have hgw:Grow w w:=Grow.refl w;refine Hd func227 O hGF<|ae (E:=EE [259,261])<|Asg O<|Asg O<|aa<|ah<|ae (E:=EE [259,261])<|Mv O<|Bnb false O O (λ_=>aC _ _ _) (decide_eq_false om)<|Mv O<|Mv O<|Bnb false O O (λ_=>cm _ _ _) (decide_eq_false om)<|Pk O O O<|Mv O<|Mv O<|bD O (λ_=>aV underlying22 _ _ _ _) O O<|Bnb false O O (λ_=>cm _ _ _) (decide_eq_false om)<|Pk O O O<|Mv O<|Mv O<|bD O (λ_=>aV underlying22 _ _ _ _) O O<|Bnb false O O (λ_=>cm _ _ _) (decide_eq_false om)<|Pk O O O<|aa<|aw O<|aq<|ae (E:=EE [259,261])<|Mv O<|?_;refine mG O O ent259 O O gt_low (ay hGF) (λw' hC hG=>ptag a2 cap2 dst hc2 om w' hG (hb2.grow (hgw.trans (ac hC)))) (λw0 w1 v h0 hg hG1 hq=> ?_);replace hgw:=hgw.trans ((ac h0).trans hg);clear h0 hg hGF;have hGF:BOk Gt (pl w1):=gt_low.plain hG1;obtain ⟨ta,tc,rfl,hta,htc⟩:=hq;refine Asg O<|aa<|ae (E:=EE [259,261])<|JH 28 hGF O O underlying22 ti5.choose_spec.1 ti5.choose_spec.2.1 (hmk 64 dc) (hmc 64 ti5.choose_spec mc64) O O<|λb28=>Mv O<|Mv O<|Bnr O O (λ_=>F7 _ _)<|cu O O (λ_=>lp underlying3 underlying5 _) O O<|Mv O<|cu O O (λ_=>lp underlying3 underlying5 _) O O<|iX 35 [BitVec.ofInt 8 ((n / 256:Nat):Int),BitVec.ofInt 8 (n:Int),0#8] hGF O O O dc dc underlying22 sizeOf5 zeroValue5 O O<|λb35=>Mv O<|Am 37 [.slice (spt b28) 64 64,.slice a1 msg.length cap1,.slice (spt b35) 3 3,.slice ta (D dst).length tc] hGF O O O dc dc underlying312 sizeOf22 zvS O O O<|λb37=>Cc O ent260 (λw' hC hG=>Zg b37 (spt b28) 64 64 (List.replicate 64 0#8) a1 msg.length cap1 msg (spt b35) 3 3 [BitVec.ofInt 8 ((n / 256:Nat):Int),BitVec.ofInt 8 (n:Int),0#8] ta (D dst).length tc (D dst) w' hG (aX (n:=37) O w' hC) O (Nat.le_refl _) (BytesAt.range (aX (n:=28) O w' hC)) O hc1 (hb1.grow (hgw.trans (ac hC))) O (Nat.le_refl _) (BytesAt.range (aX (n:=35) O w' hC)) O htc (hta.grow (ac hC)) (by rw[lM];omega))<|?_
 rw[show Sh.SHA ((((List.replicate 64 0#8)++msg)++[BitVec.ofInt 8 ((n / 256:Nat):Int),BitVec.ofInt 8 (n:Int),0#8])++D dst)=B0 msg dst n from O];refine Al 9 hGF zv112<|λb9=>aA 9 hGF O O O sizeOf112 sm sm (bL _) O<|aa<|ae (E:=EE [259,261])<|La 9 O O vh<|Mv O<|Mv O<|?_;refine mG O O ent261 O O gt_low (ay hGF) (λw' hC hG=>Hj (B0 msg dst n) (D dst) (kP _ _ _) ta tc n hn (by rw[lM];omega) htc w' hG (hta.grow (ac hC))) (λw0 w1 v h0 hg hG1 hq=> ?_)
 replace hgw:=hgw.trans ((ac h0).trans hg);clear h0 hg hGF;have hGF:BOk Gt (pl w1):=gt_low.plain hG1;obtain ⟨sa,rfl,hsa⟩:=hq;refine Asg O<|Asg O<|aa<|ak<|Rr<|?_;exact db O O O (λw hw=>⟨_,rfl,hgw.trans (ac hw),sa,n,by rw[rX];rfl,hsa.grow (ac hw),by rw[rX];exact Nat.le_refl _⟩)
theorem pxc:PXC:=by
 intro a1 cap1 msg a2 cap2 dst z w _ hc1 _ hc2 hw hb1 hb2;have err:Bad msg dst z->∀{e:Ending} {w':World},e=.returned (.tuple #[.slice none 0 0,I 130])/\Grow w w'->∃v,e=.returned v/\Grow w w'/\RT msg dst z w' v:=λhb _ _ h=>⟨_,h.1,h.2,λ_=>rfl,λhn=>absurd hb hn⟩;by_cases h0:z<0
 ·exact (px_0 a1 cap1 msg a2 cap2 dst z h0 w hw).mono λ_ _ h=>err (.inl h0) h
 by_cases h1:8160<z
 ·exact (px_1 a1 cap1 msg a2 cap2 dst z h1 w hw).mono λ_ _ h=>err (.inr (.inl h1)) h
 by_cases h2:255<dst.length
 ·exact (px_2 a1 cap1 msg a2 cap2 dst z h0 h1 h2 w hw).mono λ_ _ h=>err (.inr (.inr (.inl h2))) h
 by_cases h3:65536<msg.length
 ·exact (px_3 a1 cap1 msg a2 cap2 dst z h0 h1 h2 h3 w hw).mono λ_ _ h=>err (.inr (.inr (.inr h3))) h
 obtain ⟨n,rfl⟩: ∃n:Nat,z=(n:Int):=⟨z.toNat,om⟩;refine (VI a1 cap1 msg a2 cap2 dst n hc1 hc2 om om om w hw hb1 hb2).mono λe w' ⟨v,he,hg,hc⟩=>⟨_,he,hg,λhb=>absurd hb ?_,λ_=>hc⟩;rintro (h|h|h|h)<;>omega
end Xm
end Go.Proofs.YtfgacclgjklgnaaGreatDoor
