/- L6 -/
import Derived.Test.YtjookodjbjabbaaGreatDoorL5
set_option maxRecDepth 100000
set_option maxHeartbeats 1000000
namespace Go.Proofs.YtjookodjbjabbaaGreatDoor
open Go.Proofs.Tryz
section
open J2
open Go.RowKit
attribute [local simp] a6 bj aH aB aP aZ aQ aI aM be bz a5 bv bB cJ dz
theorem ent280:ak prog 280:=λ_ _=>kr
theorem ly(s0:ByteArray)(xs:L8)(h0:s0.data.toList=xs.map (λx=>UInt8.ofBitVec x)):PUR 268 [.string s0] (EV (FV xs)):=by
 intro w hw;refine Hf func268 O hw<|λhGF=>ae (E:=EE [1000022])<|Al 2 hGF zv52<|λb2=>aa<|ae (E:=EE [1000022])<|Mv O<|?_;refine zB 7 (xs:=xs) O hGF O underlying9 underlying22 underlying5 h0 O O (λb7 c7 k7 e7 l7 t7=> ?_);refine Cc O ent74 (λw' hC hG=>ed _ _ xs w' hG (cD (aJ (n:=7) O w' hC) t7))<|Mv O<|Ext O O<|Ext O O<|Al 3 hGF zv52<|λb3=>Sa 3 hGF O O O bN<|Asg O<|aa<|ae (E:=EE [1000022])<|La 3 O O bN<|Sa 2 hGF O O O bN<|aa<|am<|Rr<|?_;exact av 2 O O O isAgg52 sizeOf52 sm (λw hw=>⟨rfl,ac hw⟩)
def R24(f g:Nat->W2)(i:Nat):L6:=(fe (f i).1++fe (f i).2)++(fe (g i).1++fe (g i).2)
theorem jP(f g:Nat->W2)(i:Nat):(R24 f g i).length=24:=by simp[R24]
attribute [local simp] jP
def z4:Nat->W2:=λ_=>ze2
abbrev Sc(f g:Nat->W2):Value:=aL (RW 24 (R24 f g) 4)
theorem zv297(w:World):(zeroValue 297).run prog w=.ok (aL ((fe 0++fe 0)++(fe 0++fe 0))) w:=by rw[i7];exact (zeroValue297 w).trans rr
theorem kE:Two prog 297 ⟨ "over",78,0,false, "", "pharos/swu",0⟩ ⟨ "under",78,12,false, "", "pharos/swu",96⟩ 12 12 (fe 0++fe 0) (fe 0++fe 0):=⟨underlying297,rfl,rfl,sizeOf78,sizeOf78,zv297,sm,sm⟩
theorem Pv:RW 24 (R24 z4 z4) 4=List.replicate 96 0#64:=by
 have e: ∀i,R24 z4 z4 i=List.replicate 24 0#64:=λi=>by
  show (fe 0++fe 0)++(fe 0++fe 0)=List.replicate 24 0#64;rw[i7];rfl
 simp only[RW,e];rfl
theorem zv298(w:World):(zeroValue 298).run prog w=.ok (Sc z4 z4) w:=by
 show _=Result.ok (Value.agg ((RW 24 (R24 z4 z4) 4).map U64).toArray) w;rw[Pv];exact (zeroValue298 w).trans rr
theorem Ak(f z:Nat->L6): ∀i,i<4->zE f [0,1,2,3] z i=f i:=λi hi=>oU _ _ _ _ (.inl (by
 match i,hi with
 |0,_=>decide
 |1,_=>decide
 |2,_=>decide
 |3,_=>decide))
theorem qu(f g:Nat->W2)(w:World)(hw:Gt w):CLS 267 [Sc f g].toArray w (λe w'=> ∃b1,e=.returned (.func (.func 280) #[] #[pnt b1])/\Grow w w'/\w.heap.size<=b1/\OwnB w' b1 ((RW 24 (R24 f g) 4).map U64) 298):=by
 refine Hf func267 O hw<|λhGF=>Xp<|Bx 1 hGF O<|λb1=>Asg O<|aa<|Xp<|gj O O O O<|Asg O<|aa<|am<|Rr<|?_;exact aF O O (λw hw=>⟨b1,rfl,ac hw,(hw.own 1 b1 _ _ O).2.elim id False.elim,(hw.own 1 b1 _ _ O).1⟩)
def PS4(f g:Nat->W2):List (List Value):=(List.range 4).map λ(k:Nat)=>[EV2 (f k),EV2 (g k)]
theorem uU(f g:Nat->W2):(PS4 f g).length=4:=by rw[PS4,List.length_map,List.length_range]
theorem BG(f g:Nat->W2)(k:Nat)(h:k<4):(PS4 f g)[k]? =some [EV2 (f k),EV2 (g k)]:=by
 rw[PS4,List.getElem?_map,List.getElem?_range h];rfl
theorem Si(f g:Nat->W2)(k:Nat)(v:List Value)(h:(PS4 f g)[k]? =some v):k<4/\v=[EV2 (f k),EV2 (g k)]:=by
 have hk:k<4:=by
  rcases Nat.lt_or_ge k 4 with hk|hk
  ·exact hk
  ·rw[List.getElem?_eq_none (by rw[uU];exact hk)]at h;cases h
 exact ⟨hk,(Option.some.inj ((BG f g k hk).symm.trans h)).symm⟩
def Q2(bb:Nat)(f g:Nat->W2):Cls:=λw=>w.rangeAt bb 0 ((RW 24 (R24 f g) 4).map U64)
theorem Ew(bb:Nat)(f g:Nat->W2):fF prog Gt 280 [pnt bb] (PS4 f g) (Q2 bb f g):=by
 intro l J Jx hJ hJx hRd hGx hY w hj;have okJ: ∀k,BOk Gt (Bi w (λY=>J Y k)):=λk=>⟨λ_ _ _ h=>(hRd _ _ _ h.rid).1,hJ k⟩;have okX: ∀k,BOk Gt (Bi w (λY=>Jx Y k)):=λk=>⟨λ_ _ _ h=>hGx _ _ _ h.rid,hJx k⟩;have c1: ∀k L w',Hp (Bi w (λY=>J Y k)) L w'->Q2 bb f g w':=λk L w' h=>(hRd _ _ _ h.rid).2;refine cv (G:=Gt) func280 O O (Hp (Bi w (λY=>J Y 0)) []) (cj (Bi w _) hj (hJ 0)) (az (okJ 0))<|Xp<|cZ O isAgg298 sizeOf298 sm (λw h=>c1 _ _ w h) O O<|Mv O<|aa<|ai<|gz (ι:={i:Nat // i<=4}) (λy=>[(0,.func (.yield l) #[] #[]),(1,pnt bb),(5,Sc f g),(6,I (y.1:Int))]) (λy=>Bi w (λY=>J Y y.1)) (λy=>[]) (λy=>4-y.1) ⟨0,Nat.zero_le _⟩ (λ_=>okJ _) O trv trivial<|?_;rintro ⟨i,hi⟩;dsimp only;refine Xp<|Bnr O O (λ_=>aw _ _ _)<|aa<|ah<|?_;refine bD O (λhc=> ?_) (λhc=> ?_)
 ·have hi2:i<4:=by simp at hc;omega
  refine aq<|ah<|ai<|Xp<|KX (s:=24) (R24 f g) i O O underlying298 sizeOf297 isAgg297 O om (jP _ _ _) O O<|Al 4 (okJ _) zv297<|λb4=>Sa 4 (okJ _) O O O YX<|aa<|Xp<|Mv O<|Fa 0 O underlying297 O sizeOf78<|ay 4 _ O O isAgg78 sizeOf78 sm el O O<|Fa 12 O underlying297 O sizeOf78<|ay 4 _ O O isAgg78 sizeOf78 sm (jf sm) O O<|?_;refine du (hY.b (k:=i) (BG f g i om) w) (okJ _) (okX _) O O O O O ?_ ?_
  ·refine bp O (λ_=>a8 _) O O<|aa<|aD O<|aq<|Xq<|Bnr O O (λ_=>au _ _ _ oi)<|Mv O<|aa<|?_
   repeat (refine aO ?_)
   exact aC<|⟨rfl,⟨i+1,om⟩,_,by show 4-(i+1)<4-i;omega,rfl,trv,trivial⟩
  ·refine bp O (λ_=>a8 _) O O<|aa<|aT O<|am<|Rr<|?_
   repeat (first|refine dv ?_|refine cm ?_|refine dJ O ?_|refine bJ ?_|refine bK ?_)
   exact dp O (λw hw=>⟨⟨_,rfl⟩,.inr ⟨_,cb (hJx _) hw.rid⟩⟩)
 ·obtain rfl:i=4:=by simp at hc;omega
  refine aV ?_
  repeat (first|refine dv ?_|refine cm ?_|refine dJ O ?_|refine bJ ?_|refine bK ?_)
  refine cO O (λw hw=>⟨⟨_,rfl⟩,.inl ?_⟩);have:=cb (hJ _) hw.rid;rw[uU];exact this
end
section
open J2
open Go.RowKit
attribute [local simp] a6 bj aH aB aP aZ aQ aI aM be bz a5 bv bB cJ dz jP
theorem jH{w w':World}{b o:Nat}{cs:List Value}(hg:Grow w w')(h:w.rangeAt b o cs):w'.rangeAt b o cs:=λj v hj=>(hg.cell (block_lt_of_cell (h j v hj))).trans (h j v hj)
theorem pR(x:W2)(f g:Nat->W2)(bb:Nat)(w:World)(hw:Gt w)(hRs: ∀w',Grow w w'->Q2 bb f g w'):
 CLS 243 [EV2 x,.func (.func 280) #[] #[pnt bb]].toArray w (λr w'=>r=.returned (.tuple #[EV2 (HK f x 4),EV2 (HK g x 4)])/\Grow w w'):=by
 have hGF:BOk Gt (pl w):=gt_low.plain hw;refine cw (G:=Gt) func243 O O (Hp (pl w) []) (cj (pl w) trivial ao) (az hGF)<|Xp<|Bx 2 hGF O<|λb2=>Al 4 hGF zv78<|λb4=>Al 5 hGF zv78<|λb5=>aa<|ah<|Xp<|Mv O<|aa<|ai<|?_;refine fb (λ_=>pl w) (λ_ _=>pl w) (λ_=>hGF) (λ_ _=>hGF) (λ_=>rfl) (λ_ _=>rfl) O O ent280 (Ew bb f g) (λx hx=>by obtain ⟨k,hk,rfl⟩:=List.mem_map.1 hx;rfl) O (λk=>[(2,b2,(fe (x).1++fe (x).2).map U64,78),(4,b4,(fe (HK f x k).1++fe (HK f x k).2).map U64,78),(5,b5,(fe (HK g x k).1++fe (HK g x k).2).map U64,78)]) (λ_ _ _=>False) trv (λk _ w' h=>hRs w' (h.below (λ_ h=>h))) ?_ ?_ (λ_ _ _ _ _ h=>h.elim)
 ·intro k v hx R hR
  obtain ⟨hk,rfl⟩:=Si f g k v hx;refine Xp<|dN 6 (hR (pl w) O hGF).1 zv78 O O<|λb6=>aA 6 (hR (pl w) O hGF).1 O O O sizeOf78 sm sm (bc _) O<|aa<|Xq<|dN 7 (hR (pl w) O hGF).1 zv78 O O<|λb7=>aA 7 (hR (pl w) O hGF).1 O O O sizeOf78 sm sm (bc _) O<|aa<|?_;refine ⟨rfl,_,rfl, ?_⟩;refine ai<|Xe []<|La 4 O O aX<|La 2 O O aX<|Ca O (dH _ _)<|La 6 O O aX<|Ca O (fw _ _)<|La 5 O O aX<|La 2 O O aX<|Ca O (dH _ _)<|La 7 O O aX<|Ca O (fw _ _)<|aA 4 (hR (pl w) O hGF).2.1 O O O sizeOf78 sm sm (bc _) O<|aA 5 (hR (pl w) O hGF).2.1 O O O sizeOf78 sm sm (bc _) O<|aa<|?_
  repeat (refine aO ?_)
  exact ⟨_,rfl,trv⟩
 ·intro D hD
  rw[uU];refine gi (E:=EE []) (λX=>X=Hp (B2 (pl w) D) [(5,b5,(fe (HK g x 4).1++fe (HK g x 4).2).map U64,78)]) (mkB [4]) (rkB [22]) [0,1,2,3] cT O kr kr kr<|dC O O<|La 4 O O aX<|aa<|kp (X:=Hp (B2 (pl w) D) [(5,b5,(fe (HK g x 4).1++fe (HK g x 4).2).map U64,78)]) O (cL hD.r trv) (λ_=>rfl)<|La 5 O O aX<|aa<|fD O<|Sa 4 hD O O O aX<|aa<|?_;refine ⟨λ_ X hX _=>by subst hX;exact cL hD.r trv, ?_⟩
  refine fD O<|Sa 5 hD O O O aX<|aa<|?_;refine ⟨λh=>(by cases h), ?_⟩
  refine fJ<|am<|Rr<|?_;exact dR (.inl O) ao (im 4 5 O O O O O isAgg78 sizeOf78 sm sm (λw hw=>⟨rfl,ac hw⟩))
def oX(k:Nat):W2:=cXN (3-k)
def oY(k:Nat):W2:=cYN (3-k)
def uX:Nat->W2
 |0=>ze2
 |1=>on2
 |2=>(zp 12,-zp 12)
 |_=>(0,-zp 72)
def uY:Nat->W2
 |0=>on2
 |1=>(zp 18,-zp 18)
 |2=>(0,-zp 216)
 |_=>(-zp 432,-zp 432)
theorem oX_h(x:W2):HK oX x 4=R2.pev iXN x:=CG oX x
theorem oY_h(x:W2):HK oY x 4=R2.pev iYN x:=CG oY x
theorem uX_h(x:W2):HK uX x 4=R2.pev iXD x:=(HK_z uX x O).trans (by rw[show [uX 3,uX 2,uX 1]=iXD by decide+kernel])
theorem uY_h(x:W2):HK uY x 4=R2.pev iYD x:=(CG uY x).trans (by rw[show [uY 3,uY 2,uY 1,uY 0]=iYD by decide+kernel])
def pb0:L8:=[23#8,29#8,101#8,65#8,250#8,56#8,204#8,250#8,237#8,109#8,234#8,105#8,31#8,95#8,182#8,20#8,203#8,20#8,180#8,231#8,244#8,232#8,16#8,170#8,34#8,214#8,16#8,143#8,20#8,43#8,133#8,117#8,112#8,152#8,227#8,141#8,15#8,103#8,28#8,113#8,136#8,226#8,170#8,170#8,170#8,170#8,94#8,209#8]
theorem VJ:FV pb0=zp 0x171d6541fa38ccfaed6dea691f5fb614cb14b4e7f4e810aa22d6108f142b85757098e38d0f671c7188e2aaaaaaaa5ed1:=by rw[FV,if_pos ⟨rfl,by decide+kernel⟩];decide+kernel
theorem Up(s0:ByteArray)(h0:s0.data.toList=pb0.map (λx=>UInt8.ofBitVec x)){a:Zp}(ha:zp 0x171d6541fa38ccfaed6dea691f5fb614cb14b4e7f4e810aa22d6108f142b85757098e38d0f671c7188e2aaaaaaaa5ed1=a):PUR 268 [.string s0] (EV a):=by
 have h:=ly s0 pb0 h0;rw[VJ,ha]at h;exact h
def pb1:L8:=[17#8,86#8,11#8,241#8,123#8,170#8,153#8,188#8,50#8,18#8,111#8,206#8,215#8,135#8,200#8,143#8,152#8,79#8,135#8,173#8,247#8,174#8,12#8,127#8,154#8,32#8,140#8,107#8,79#8,32#8,164#8,24#8,20#8,114#8,170#8,169#8,203#8,141#8,85#8,85#8,38#8,169#8,255#8,255#8,255#8,255#8,199#8,30#8]
theorem VG:FV pb1=zp 0x11560bf17baa99bc32126fced787c88f984f87adf7ae0c7f9a208c6b4f20a4181472aaa9cb8d555526a9ffffffffc71e:=by rw[FV,if_pos ⟨rfl,by decide+kernel⟩];decide+kernel
theorem Ug(s0:ByteArray)(h0:s0.data.toList=pb1.map (λx=>UInt8.ofBitVec x)){a:Zp}(ha:zp 0x11560bf17baa99bc32126fced787c88f984f87adf7ae0c7f9a208c6b4f20a4181472aaa9cb8d555526a9ffffffffc71e=a):PUR 268 [.string s0] (EV a):=by
 have h:=ly s0 pb1 h0;rw[VG,ha]at h;exact h
def pb2:L8:=[8#8,171#8,5#8,248#8,189#8,213#8,76#8,222#8,25#8,9#8,55#8,231#8,107#8,195#8,228#8,71#8,204#8,39#8,195#8,214#8,251#8,215#8,6#8,63#8,205#8,16#8,70#8,53#8,167#8,144#8,82#8,12#8,10#8,57#8,85#8,84#8,229#8,198#8,170#8,170#8,147#8,84#8,255#8,255#8,255#8,255#8,227#8,141#8]
theorem UI:FV pb2=zp 0x8ab05f8bdd54cde190937e76bc3e447cc27c3d6fbd7063fcd104635a790520c0a395554e5c6aaaa9354ffffffffe38d:=by rw[FV,if_pos ⟨rfl,by decide+kernel⟩];decide+kernel
theorem VQ(s0:ByteArray)(h0:s0.data.toList=pb2.map (λx=>UInt8.ofBitVec x)){a:Zp}(ha:zp 0x8ab05f8bdd54cde190937e76bc3e447cc27c3d6fbd7063fcd104635a790520c0a395554e5c6aaaa9354ffffffffe38d=a):PUR 268 [.string s0] (EV a):=by
 have h:=ly s0 pb2 h0;rw[UI,ha]at h;exact h
def pb3:L8:=[17#8,86#8,11#8,241#8,123#8,170#8,153#8,188#8,50#8,18#8,111#8,206#8,215#8,135#8,200#8,143#8,152#8,79#8,135#8,173#8,247#8,174#8,12#8,127#8,154#8,32#8,140#8,107#8,79#8,32#8,164#8,24#8,20#8,114#8,170#8,169#8,203#8,141#8,85#8,85#8,38#8,169#8,255#8,255#8,255#8,255#8,199#8,26#8]
theorem XZ:FV pb3=zp 0x11560bf17baa99bc32126fced787c88f984f87adf7ae0c7f9a208c6b4f20a4181472aaa9cb8d555526a9ffffffffc71a:=by rw[FV,if_pos ⟨rfl,by decide+kernel⟩];decide+kernel
theorem XB(s0:ByteArray)(h0:s0.data.toList=pb3.map (λx=>UInt8.ofBitVec x)){a:Zp}(ha:zp 0x11560bf17baa99bc32126fced787c88f984f87adf7ae0c7f9a208c6b4f20a4181472aaa9cb8d555526a9ffffffffc71a=a):PUR 268 [.string s0] (EV a):=by
 have h:=ly s0 pb3 h0;rw[XZ,ha]at h;exact h
def pb4:L8:=[5#8,199#8,89#8,80#8,126#8,142#8,51#8,62#8,187#8,91#8,122#8,154#8,71#8,215#8,237#8,133#8,50#8,197#8,45#8,57#8,253#8,58#8,4#8,42#8,136#8,181#8,132#8,35#8,197#8,10#8,225#8,93#8,92#8,38#8,56#8,227#8,67#8,217#8,199#8,28#8,98#8,56#8,170#8,170#8,170#8,170#8,151#8,214#8]
theorem Wk:FV pb4=zp 0x5c759507e8e333ebb5b7a9a47d7ed8532c52d39fd3a042a88b58423c50ae15d5c2638e343d9c71c6238aaaaaaaa97d6:=by rw[FV,if_pos ⟨rfl,by decide+kernel⟩];decide+kernel
theorem Mj(s0:ByteArray)(h0:s0.data.toList=pb4.map (λx=>UInt8.ofBitVec x)){a:Zp}(ha:zp 0x5c759507e8e333ebb5b7a9a47d7ed8532c52d39fd3a042a88b58423c50ae15d5c2638e343d9c71c6238aaaaaaaa97d6=a):PUR 268 [.string s0] (EV a):=by
 have h:=ly s0 pb4 h0;rw[Wk,ha]at h;exact h
theorem jy(w:World)(hw:Gt w):CLS 244 [].toArray w (λe w'=> ∃b1,e=.returned (.func (.func 280) #[] #[pnt b1])/\Grow w w'/\w.heap.size<=b1/\OwnB w' b1 ((RW 24 (R24 oX uX) 4).map U64) 298):=by
 refine Hf func244 O hw<|λhGF=>ae (E:=EE [267,2000267])<|Asg O<|aa<|ae (E:=EE [267,2000267])<|Ca O (Up _ O O)<|zM fS O sm O O<|KH fS O O<|co kE O O sm sm O O<|Ca O (Ug _ O O)<|Ca O (VQ _ O O)<|co fS O O sm sm O O<|Ca O (sn)<|co kE O O sm sm O O<|Ca O (XB _ O O)<|mm fS O sm O O<|Ca O (eP _)<|Ca O (eP _)<|Ca O (dZ _)<|co fS O O sm sm O O<|co kE O O sm sm O O<|Ca O (Mj _ O O)<|Ca O (Mj _ O O)<|co fS O O sm sm O O<|Ca O (eP _)<|Ca O (dZ _)<|mm fS O sm O O<|co kE O O sm sm O O<|qO (s:=24) (R24 oX uX) (R24 oX uX) [0,1,2,3] O O O (λi _=>jP _ _ _) underlying298 sizeOf297 zv298 (Ak _ _) O O<|?_;refine bI O O ent267 O O (λw' hw'=>(qu oX uX w' (hGF.g _ _ _ hw')).mono λe' w'' h=> ?_);obtain ⟨c1,rfl,hg,h1,ho⟩:=h;refine ⟨_,_,rfl,az hGF,hw'.news ao hg [(33,c1,(RW 24 (R24 oX uX) 4).map U64,298)] ?_ bR,bP ao O, ?_⟩
 ·intro n' b' c' t' hl
  rcases aK hl with ⟨_,e⟩|⟨_,hl⟩
  ·cases e;exact ⟨h1,ho⟩
  ·cases hl
 clear hw' hg h1 ho;refine Asg O<|aa<|am<|Rr<|?_;exact aF O O (λw hw=>⟨c1,rfl,ac hw,(hw.own 33 c1 _ _ O).2.elim id False.elim,(hw.own 33 c1 _ _ O).1⟩)
def pb5:L8:=[18#8,76#8,154#8,212#8,59#8,108#8,247#8,155#8,251#8,247#8,4#8,61#8,227#8,129#8,26#8,208#8,118#8,27#8,15#8,55#8,161#8,226#8,98#8,134#8,176#8,233#8,119#8,198#8,154#8,162#8,116#8,82#8,78#8,121#8,9#8,122#8,86#8,220#8,75#8,217#8,225#8,179#8,113#8,199#8,28#8,113#8,139#8,16#8]
theorem U4:FV pb5=zp 0x124c9ad43b6cf79bfbf7043de3811ad0761b0f37a1e26286b0e977c69aa274524e79097a56dc4bd9e1b371c71c718b10:=by rw[FV,if_pos ⟨rfl,by decide+kernel⟩];decide+kernel
theorem Wi(s0:ByteArray)(h0:s0.data.toList=pb5.map (λx=>UInt8.ofBitVec x)){a:Zp}(ha:zp 0x124c9ad43b6cf79bfbf7043de3811ad0761b0f37a1e26286b0e977c69aa274524e79097a56dc4bd9e1b371c71c718b10=a):PUR 268 [.string s0] (EV a):=by
 have h:=ly s0 pb5 h0;rw[U4,ha]at h;exact h
def pb6:L8:=[17#8,86#8,11#8,241#8,123#8,170#8,153#8,188#8,50#8,18#8,111#8,206#8,215#8,135#8,200#8,143#8,152#8,79#8,135#8,173#8,247#8,174#8,12#8,127#8,154#8,32#8,140#8,107#8,79#8,32#8,164#8,24#8,20#8,114#8,170#8,169#8,203#8,141#8,85#8,85#8,38#8,169#8,255#8,255#8,255#8,255#8,199#8,28#8]
theorem XU:FV pb6=zp 0x11560bf17baa99bc32126fced787c88f984f87adf7ae0c7f9a208c6b4f20a4181472aaa9cb8d555526a9ffffffffc71c:=by rw[FV,if_pos ⟨rfl,by decide+kernel⟩];decide+kernel
theorem XY(s0:ByteArray)(h0:s0.data.toList=pb6.map (λx=>UInt8.ofBitVec x)){a:Zp}(ha:zp 0x11560bf17baa99bc32126fced787c88f984f87adf7ae0c7f9a208c6b4f20a4181472aaa9cb8d555526a9ffffffffc71c=a):PUR 268 [.string s0] (EV a):=by
 have h:=ly s0 pb6 h0;rw[XU,ha]at h;exact h
def pb7:L8:=[8#8,171#8,5#8,248#8,189#8,213#8,76#8,222#8,25#8,9#8,55#8,231#8,107#8,195#8,228#8,71#8,204#8,39#8,195#8,214#8,251#8,215#8,6#8,63#8,205#8,16#8,70#8,53#8,167#8,144#8,82#8,12#8,10#8,57#8,85#8,84#8,229#8,198#8,170#8,170#8,147#8,84#8,255#8,255#8,255#8,255#8,227#8,143#8]
theorem WW:FV pb7=zp 0x8ab05f8bdd54cde190937e76bc3e447cc27c3d6fbd7063fcd104635a790520c0a395554e5c6aaaa9354ffffffffe38f:=by rw[FV,if_pos ⟨rfl,by decide+kernel⟩];decide+kernel
theorem UU(s0:ByteArray)(h0:s0.data.toList=pb7.map (λx=>UInt8.ofBitVec x)){a:Zp}(ha:zp 0x8ab05f8bdd54cde190937e76bc3e447cc27c3d6fbd7063fcd104635a790520c0a395554e5c6aaaa9354ffffffffe38f=a):PUR 268 [.string s0] (EV a):=by
 have h:=ly s0 pb7 h0;rw[WW,ha]at h;exact h
def pb8:L8:=[5#8,199#8,89#8,80#8,126#8,142#8,51#8,62#8,187#8,91#8,122#8,154#8,71#8,215#8,237#8,133#8,50#8,197#8,45#8,57#8,253#8,58#8,4#8,42#8,136#8,181#8,132#8,35#8,197#8,10#8,225#8,93#8,92#8,38#8,56#8,227#8,67#8,217#8,199#8,28#8,98#8,56#8,170#8,170#8,170#8,170#8,151#8,190#8]
theorem WO:FV pb8=zp 0x5c759507e8e333ebb5b7a9a47d7ed8532c52d39fd3a042a88b58423c50ae15d5c2638e343d9c71c6238aaaaaaaa97be:=by rw[FV,if_pos ⟨rfl,by decide+kernel⟩];decide+kernel
theorem WA(s0:ByteArray)(h0:s0.data.toList=pb8.map (λx=>UInt8.ofBitVec x)){a:Zp}(ha:zp 0x5c759507e8e333ebb5b7a9a47d7ed8532c52d39fd3a042a88b58423c50ae15d5c2638e343d9c71c6238aaaaaaaa97be=a):PUR 268 [.string s0] (EV a):=by
 have h:=ly s0 pb8 h0;rw[WO,ha]at h;exact h
def pb9:L8:=[21#8,48#8,71#8,124#8,122#8,180#8,17#8,59#8,89#8,164#8,193#8,139#8,7#8,109#8,17#8,147#8,15#8,125#8,165#8,212#8,160#8,127#8,100#8,155#8,245#8,68#8,57#8,216#8,125#8,39#8,229#8,0#8,252#8,140#8,37#8,235#8,248#8,201#8,47#8,104#8,18#8,207#8,199#8,28#8,113#8,198#8,215#8,6#8]
theorem X8:FV pb9=zp 0x1530477c7ab4113b59a4c18b076d11930f7da5d4a07f649bf54439d87d27e500fc8c25ebf8c92f6812cfc71c71c6d706:=by rw[FV,if_pos ⟨rfl,by decide+kernel⟩];decide+kernel
theorem MM(s0:ByteArray)(h0:s0.data.toList=pb9.map (λx=>UInt8.ofBitVec x)){a:Zp}(ha:zp 0x1530477c7ab4113b59a4c18b076d11930f7da5d4a07f649bf54439d87d27e500fc8c25ebf8c92f6812cfc71c71c6d706=a):PUR 268 [.string s0] (EV a):=by
 have h:=ly s0 pb9 h0;rw[X8,ha]at h;exact h
theorem jk(w:World)(hw:Gt w):CLS 245 [].toArray w (λe w'=> ∃b1,e=.returned (.func (.func 280) #[] #[pnt b1])/\Grow w w'/\w.heap.size<=b1/\OwnB w' b1 ((RW 24 (R24 oY uY) 4).map U64) 298):=by
 refine Hf func245 O hw<|λhGF=>ae (E:=EE [267,2000267])<|Asg O<|aa<|ae (E:=EE [267,2000267])<|Ca O (Wi _ O O)<|zM fS O sm O O<|Ca O (sn)<|co kE O O sm sm O O<|Ca O (XY _ O O)<|Ca O (UU _ O O)<|co fS O O sm sm O O<|Ca O (eP _)<|Ca O (eP _)<|Ca O (dZ _)<|co fS O O sm sm O O<|co kE O O sm sm O O<|Ca O (WA _ O O)<|mm fS O sm O O<|Ca O (eP _)<|Ca O (dZ _)<|mm fS O sm O O<|co kE O O sm sm O O<|Ca O (MM _ O O)<|Ca O (MM _ O O)<|co fS O O sm sm O O<|Ca O (eP _)<|Ca O (dZ _)<|Ca O (eP _)<|Ca O (dZ _)<|co fS O O sm sm O O<|co kE O O sm sm O O<|qO (s:=24) (R24 oY uY) (R24 oY uY) [0,1,2,3] O O O (λi _=>jP _ _ _) underlying298 sizeOf297 zv298 (Ak _ _) O O<|?_;refine bI O O ent267 O O (λw' hw'=>(qu oY uY w' (hGF.g _ _ _ hw')).mono λe' w'' h=> ?_);obtain ⟨c1,rfl,hg,h1,ho⟩:=h;refine ⟨_,_,rfl,az hGF,hw'.news ao hg [(33,c1,(RW 24 (R24 oY uY) 4).map U64,298)] ?_ bR,bP ao O, ?_⟩
 ·intro n' b' c' t' hl
  rcases aK hl with ⟨_,e⟩|⟨_,hl⟩
  ·cases e;exact ⟨h1,ho⟩
  ·cases hl
 clear hw' hg h1 ho;refine Asg O<|aa<|am<|Rr<|?_;exact aF O O (λw hw=>⟨c1,rfl,ac hw,(hw.own 33 c1 _ _ O).2.elim id False.elim,(hw.own 33 c1 _ _ O).1⟩)
theorem qo(x:W2)(bb:Nat)(w:World)(hw:Gt w)(h:w.rangeAt bb 0 ((RW 24 (R24 oX uX) 4).map U64)):CLS 243 [EV2 x,.func (.func 280) #[] #[pnt bb]].toArray w (λr w'=>r=.returned (.tuple #[EV2 (R2.pev iXN x),EV2 (R2.pev iXD x)])/\Grow w w'):=by
 have e:=pR x oX uX bb w hw (λw' hg=>jH hg h);rw[oX_h,uX_h]at e;exact e
theorem qd(x:W2)(bb:Nat)(w:World)(hw:Gt w)(h:w.rangeAt bb 0 ((RW 24 (R24 oY uY) 4).map U64)):CLS 243 [EV2 x,.func (.func 280) #[] #[pnt bb]].toArray w (λr w'=>r=.returned (.tuple #[EV2 (R2.pev iYN x),EV2 (R2.pev iYD x)])/\Grow w w'):=by
 have e:=pR x oY uY bb w hw (λw' hg=>jH hg h);rw[oY_h,uY_h]at e;exact e
theorem YF{x y:W2}(h:ml2 y y=gO x):PUR 130 [EV2 (ml2 (R2.pev iXN x) (R2.pev iYD x)),EV2 (iv2 (ml2 (R2.pev iXD x) (R2.pev iYD x)))] (EV2 (XIs x)):=by
 have e:=dH (ml2 (R2.pev iXN x) (R2.pev iYD x)) (iv2 (ml2 (R2.pev iXD x) (R2.pev iYD x)));rw[T5 (wo h) (wB h)]at e;exact e
theorem XR{x y:W2}(h:ml2 y y=gO x):PUR 130 [EV2 (ml2 (ml2 y (R2.pev iYN x)) (R2.pev iXD x)),EV2 (iv2 (ml2 (R2.pev iXD x) (R2.pev iYD x)))] (EV2 (YIs x y)):=by
 have e:=dH (ml2 (ml2 y (R2.pev iYN x)) (R2.pev iXD x)) (iv2 (ml2 (R2.pev iXD x) (R2.pev iYD x)));rw[Uq (wo h) (wB h)]at e;exact e
theorem J0{x y:W2}(h:ml2 y y=gO x): ¬ml2 (R2.pev iXD x) (R2.pev iYD x)=ze2:=λe=>(gQ e).elim (wo h) (wB h)
def YC(x y:W2)(h:ml2 y y=gO x):GP:=Rb (XIs x) (YIs x y) (nP.1 (xV h))
theorem piso(x y:W2)(h:ml2 y y=gO x):PUR 208 [EV2 x,EV2 y] (PtV (YC x y h)):=by
 intro w hw;refine Hf func208 O hw<|λhGF=>Xp<|Bx 2 hGF O<|λb2=>Bx 3 hGF O<|λb3=>Al 4 hGF zv80<|λb4=>aa<|?_;refine jb (ι:=Nat×Nat) (λz=>[(2,pnt b2),(3,pnt b3),(4,pnt b4),(5,pnt z.1),(6,pnt z.2)]) (λz=>[(2,b2,(fe (x).1++fe (x).2).map U64,78),(3,b3,(fe (y).1++fe (y).2).map U64,78),(4,b4,(GL gInf).map U64,80),(5,z.1,(fe (R2.pev iXN x).1++fe (R2.pev iXN x).2).map U64,78),(6,z.2,(fe (R2.pev iXD x).1++fe (R2.pev iXD x).2).map U64,78)]) hGF ?_ ?_
 ·refine lX (EE [244,2000244,2999999]) cT kr kr<|aR (m:=9) [0] kr<|La 2 O O aX<|aa<|ez (m:=8) [1,6,7] kr kr dc<|?_
  intro i hi;simp only[List.mem_cons,List.not_mem_nil,or_false]at hi;rcases hi with rfl|rfl|rfl
  ·refine bI O O ent244 O O (λw' hw'=>(jy w' (hGF.g _ _ _ hw')).mono λe' w'' h=> ?_)
   obtain ⟨c1,rfl,hg,h1,ho⟩:=h;refine ⟨_,_,rfl,az hGF,hw'.news ao hg [(33,c1,(RW 24 (R24 oX uX) 4).map U64,298)] ?_ bR,bP ao O, ?_⟩
   ·intro n' b' c' t' hl
    rcases aK hl with ⟨_,e⟩|⟨_,hl⟩
    ·cases e;exact ⟨h1,ho⟩
    ·cases hl
   clear hw' hg h1 ho;refine aa<|aR (m:=4) [2,3,4,5] kr<|Cc O ent243 (λw' hC hG=>qo x _ w' hG (aJ (n:=33) O w' hC))<|Mv O<|Ext O O<|Ext O O<|aa<|ez (m:=3) [6,7] kr kr dc<|?_;intro i hi;simp only[List.mem_cons,List.not_mem_nil,or_false]at hi;rcases hi with rfl|rfl
   ·exact bF 5 hGF zv78 O O O<|λb5=>aa<|aR (m:=2) [7] kr<|bF 6 hGF zv78 O O O<|λb6=>aa<|aR (m:=1) [8] kr<|Sa 5 hGF O O O aX<|aa<|aR (m:=0) [9] kr<|Sa 6 hGF O O O aX<|aa<|cI kr<|aC<|⟨rfl,(b5,b6),_,rfl,trv,trv⟩
   ·exact bF 6 hGF zv78 O O O<|λb6=>aa<|aR (m:=2) [6] kr<|bF 5 hGF zv78 O O O<|λb5=>aa<|aR (m:=1) [8] kr<|Sa 5 hGF O O O aX<|aa<|aR (m:=0) [9] kr<|Sa 6 hGF O O O aX<|aa<|cI kr<|aC<|⟨rfl,(b5,b6),_,rfl,trv,trv⟩
  ·refine bF 5 hGF zv78 O O O<|λb5=>aa<|ez (m:=7) [1,7] kr kr dc<|?_
   intro i hi;simp only[List.mem_cons,List.not_mem_nil,or_false]at hi;rcases hi with rfl|rfl
   ·refine bI O O ent244 O O (λw' hw'=>(jy w' (hGF.g _ _ _ hw')).mono λe' w'' h=> ?_)
    obtain ⟨c1,rfl,hg,h1,ho⟩:=h;refine ⟨_,_,rfl,az hGF,hw'.news ao hg [(33,c1,(RW 24 (R24 oX uX) 4).map U64,298)] ?_ bR,bP ao O, ?_⟩
    ·intro n' b' c' t' hl
     rcases aK hl with ⟨_,e⟩|⟨_,hl⟩
     ·cases e;exact ⟨h1,ho⟩
     ·cases hl
    clear hw' hg h1 ho;exact aa<|aR (m:=3) [2,3,4,5] kr<|Cc O ent243 (λw' hC hG=>qo x _ w' hG (aJ (n:=33) O w' hC))<|Mv O<|Ext O O<|Ext O O<|aa<|aR (m:=2) [7] kr<|bF 6 hGF zv78 O O O<|λb6=>aa<|aR (m:=1) [8] kr<|Sa 5 hGF O O O aX<|aa<|aR (m:=0) [9] kr<|Sa 6 hGF O O O aX<|aa<|cI kr<|aC<|⟨rfl,(b5,b6),_,rfl,trv,trv⟩
   ·refine bF 6 hGF zv78 O O O<|λb6=>aa<|aR (m:=6) [1] kr<|?_
    refine bI O O ent244 O O (λw' hw'=>(jy w' (hGF.g _ _ _ hw')).mono λe' w'' h=> ?_);obtain ⟨c1,rfl,hg,h1,ho⟩:=h;refine ⟨_,_,rfl,az hGF,hw'.news ao hg [(33,c1,(RW 24 (R24 oX uX) 4).map U64,298)] ?_ bR,bP ao O, ?_⟩
    ·intro n' b' c' t' hl
     rcases aK hl with ⟨_,e⟩|⟨_,hl⟩
     ·cases e;exact ⟨h1,ho⟩
     ·cases hl
    clear hw' hg h1 ho;exact aa<|aR (m:=2) [2,3,4,5] kr<|Cc O ent243 (λw' hC hG=>qo x _ w' hG (aJ (n:=33) O w' hC))<|Mv O<|Ext O O<|Ext O O<|aa<|aR (m:=1) [8] kr<|Sa 5 hGF O O O aX<|aa<|aR (m:=0) [9] kr<|Sa 6 hGF O O O aX<|aa<|cI kr<|aC<|⟨rfl,(b5,b6),_,rfl,trv,trv⟩
  ·refine bF 6 hGF zv78 O O O<|λb6=>aa<|ez (m:=7) [1,6] kr kr dc<|?_
   intro i hi;simp only[List.mem_cons,List.not_mem_nil,or_false]at hi;rcases hi with rfl|rfl
   ·refine bI O O ent244 O O (λw' hw'=>(jy w' (hGF.g _ _ _ hw')).mono λe' w'' h=> ?_)
    obtain ⟨c1,rfl,hg,h1,ho⟩:=h;refine ⟨_,_,rfl,az hGF,hw'.news ao hg [(33,c1,(RW 24 (R24 oX uX) 4).map U64,298)] ?_ bR,bP ao O, ?_⟩
    ·intro n' b' c' t' hl
     rcases aK hl with ⟨_,e⟩|⟨_,hl⟩
     ·cases e;exact ⟨h1,ho⟩
     ·cases hl
    clear hw' hg h1 ho;exact aa<|aR (m:=3) [2,3,4,5] kr<|Cc O ent243 (λw' hC hG=>qo x _ w' hG (aJ (n:=33) O w' hC))<|Mv O<|Ext O O<|Ext O O<|aa<|aR (m:=2) [6] kr<|bF 5 hGF zv78 O O O<|λb5=>aa<|aR (m:=1) [8] kr<|Sa 5 hGF O O O aX<|aa<|aR (m:=0) [9] kr<|Sa 6 hGF O O O aX<|aa<|cI kr<|aC<|⟨rfl,(b5,b6),_,rfl,trv,trv⟩
   ·refine bF 5 hGF zv78 O O O<|λb5=>aa<|aR (m:=6) [1] kr<|?_
    refine bI O O ent244 O O (λw' hw'=>(jy w' (hGF.g _ _ _ hw')).mono λe' w'' h=> ?_);obtain ⟨c1,rfl,hg,h1,ho⟩:=h;refine ⟨_,_,rfl,az hGF,hw'.news ao hg [(33,c1,(RW 24 (R24 oX uX) 4).map U64,298)] ?_ bR,bP ao O, ?_⟩
    ·intro n' b' c' t' hl
     rcases aK hl with ⟨_,e⟩|⟨_,hl⟩
     ·cases e;exact ⟨h1,ho⟩
     ·cases hl
    clear hw' hg h1 ho;exact aa<|aR (m:=2) [2,3,4,5] kr<|Cc O ent243 (λw' hC hG=>qo x _ w' hG (aJ (n:=33) O w' hC))<|Mv O<|Ext O O<|Ext O O<|aa<|aR (m:=1) [8] kr<|Sa 5 hGF O O O aX<|aa<|aR (m:=0) [9] kr<|Sa 6 hGF O O O aX<|aa<|cI kr<|aC<|⟨rfl,(b5,b6),_,rfl,trv,trv⟩
 ·rintro ⟨b5,b6⟩
  dsimp only;refine jb (ι:=Nat×Nat) (λz=>[(2,pnt b2),(3,pnt b3),(4,pnt b4),(5,pnt b5),(6,pnt b6),(7,pnt z.1),(8,pnt z.2)]) (λz=>[(2,b2,(fe (x).1++fe (x).2).map U64,78),(3,b3,(fe (y).1++fe (y).2).map U64,78),(4,b4,(GL gInf).map U64,80),(5,b5,(fe (R2.pev iXN x).1++fe (R2.pev iXN x).2).map U64,78),(6,b6,(fe (R2.pev iXD x).1++fe (R2.pev iXD x).2).map U64,78),(7,z.1,(fe (R2.pev iYN x).1++fe (R2.pev iYN x).2).map U64,78),(8,z.2,(fe (R2.pev iYD x).1++fe (R2.pev iYD x).2).map U64,78)]) hGF ?_ ?_
  ·refine lX (EE [245,2000245,2999999]) cT kr kr<|aR (m:=9) [0] kr<|La 2 O O aX<|aa<|ez (m:=8) [1,6,7] kr kr dc<|?_
   intro i hi;simp only[List.mem_cons,List.not_mem_nil,or_false]at hi;rcases hi with rfl|rfl|rfl
   ·refine bI O O ent245 O O (λw' hw'=>(jk w' (hGF.g _ _ _ hw')).mono λe' w'' h=> ?_)
    obtain ⟨c1,rfl,hg,h1,ho⟩:=h;refine ⟨_,_,rfl,az hGF,hw'.news ao hg [(33,c1,(RW 24 (R24 oY uY) 4).map U64,298)] ?_ bR,bP ao O, ?_⟩
    ·intro n' b' c' t' hl
     rcases aK hl with ⟨_,e⟩|⟨_,hl⟩
     ·cases e;exact ⟨h1,ho⟩
     ·cases hl
    clear hw' hg h1 ho;refine aa<|aR (m:=4) [2,3,4,5] kr<|Cc O ent243 (λw' hC hG=>qd x _ w' hG (aJ (n:=33) O w' hC))<|Mv O<|Ext O O<|Ext O O<|aa<|ez (m:=3) [6,7] kr kr dc<|?_;intro i hi;simp only[List.mem_cons,List.not_mem_nil,or_false]at hi;rcases hi with rfl|rfl
    ·exact bF 7 hGF zv78 O O O<|λb7=>aa<|aR (m:=2) [7] kr<|bF 8 hGF zv78 O O O<|λb8=>aa<|aR (m:=1) [8] kr<|Sa 7 hGF O O O aX<|aa<|aR (m:=0) [9] kr<|Sa 8 hGF O O O aX<|aa<|cI kr<|aC<|⟨rfl,(b7,b8),_,rfl,trv,trv⟩
    ·exact bF 8 hGF zv78 O O O<|λb8=>aa<|aR (m:=2) [6] kr<|bF 7 hGF zv78 O O O<|λb7=>aa<|aR (m:=1) [8] kr<|Sa 7 hGF O O O aX<|aa<|aR (m:=0) [9] kr<|Sa 8 hGF O O O aX<|aa<|cI kr<|aC<|⟨rfl,(b7,b8),_,rfl,trv,trv⟩
   ·refine bF 7 hGF zv78 O O O<|λb7=>aa<|ez (m:=7) [1,7] kr kr dc<|?_
    intro i hi;simp only[List.mem_cons,List.not_mem_nil,or_false]at hi;rcases hi with rfl|rfl
    ·refine bI O O ent245 O O (λw' hw'=>(jk w' (hGF.g _ _ _ hw')).mono λe' w'' h=> ?_)
     obtain ⟨c1,rfl,hg,h1,ho⟩:=h;refine ⟨_,_,rfl,az hGF,hw'.news ao hg [(33,c1,(RW 24 (R24 oY uY) 4).map U64,298)] ?_ bR,bP ao O, ?_⟩
     ·intro n' b' c' t' hl
      rcases aK hl with ⟨_,e⟩|⟨_,hl⟩
      ·cases e;exact ⟨h1,ho⟩
      ·cases hl
     clear hw' hg h1 ho;exact aa<|aR (m:=3) [2,3,4,5] kr<|Cc O ent243 (λw' hC hG=>qd x _ w' hG (aJ (n:=33) O w' hC))<|Mv O<|Ext O O<|Ext O O<|aa<|aR (m:=2) [7] kr<|bF 8 hGF zv78 O O O<|λb8=>aa<|aR (m:=1) [8] kr<|Sa 7 hGF O O O aX<|aa<|aR (m:=0) [9] kr<|Sa 8 hGF O O O aX<|aa<|cI kr<|aC<|⟨rfl,(b7,b8),_,rfl,trv,trv⟩
    ·refine bF 8 hGF zv78 O O O<|λb8=>aa<|aR (m:=6) [1] kr<|?_
     refine bI O O ent245 O O (λw' hw'=>(jk w' (hGF.g _ _ _ hw')).mono λe' w'' h=> ?_);obtain ⟨c1,rfl,hg,h1,ho⟩:=h;refine ⟨_,_,rfl,az hGF,hw'.news ao hg [(33,c1,(RW 24 (R24 oY uY) 4).map U64,298)] ?_ bR,bP ao O, ?_⟩
     ·intro n' b' c' t' hl
      rcases aK hl with ⟨_,e⟩|⟨_,hl⟩
      ·cases e;exact ⟨h1,ho⟩
      ·cases hl
     clear hw' hg h1 ho;exact aa<|aR (m:=2) [2,3,4,5] kr<|Cc O ent243 (λw' hC hG=>qd x _ w' hG (aJ (n:=33) O w' hC))<|Mv O<|Ext O O<|Ext O O<|aa<|aR (m:=1) [8] kr<|Sa 7 hGF O O O aX<|aa<|aR (m:=0) [9] kr<|Sa 8 hGF O O O aX<|aa<|cI kr<|aC<|⟨rfl,(b7,b8),_,rfl,trv,trv⟩
   ·refine bF 8 hGF zv78 O O O<|λb8=>aa<|ez (m:=7) [1,6] kr kr dc<|?_
    intro i hi;simp only[List.mem_cons,List.not_mem_nil,or_false]at hi;rcases hi with rfl|rfl
    ·refine bI O O ent245 O O (λw' hw'=>(jk w' (hGF.g _ _ _ hw')).mono λe' w'' h=> ?_)
     obtain ⟨c1,rfl,hg,h1,ho⟩:=h;refine ⟨_,_,rfl,az hGF,hw'.news ao hg [(33,c1,(RW 24 (R24 oY uY) 4).map U64,298)] ?_ bR,bP ao O, ?_⟩
     ·intro n' b' c' t' hl
      rcases aK hl with ⟨_,e⟩|⟨_,hl⟩
      ·cases e;exact ⟨h1,ho⟩
      ·cases hl
     clear hw' hg h1 ho;exact aa<|aR (m:=3) [2,3,4,5] kr<|Cc O ent243 (λw' hC hG=>qd x _ w' hG (aJ (n:=33) O w' hC))<|Mv O<|Ext O O<|Ext O O<|aa<|aR (m:=2) [6] kr<|bF 7 hGF zv78 O O O<|λb7=>aa<|aR (m:=1) [8] kr<|Sa 7 hGF O O O aX<|aa<|aR (m:=0) [9] kr<|Sa 8 hGF O O O aX<|aa<|cI kr<|aC<|⟨rfl,(b7,b8),_,rfl,trv,trv⟩
    ·refine bF 7 hGF zv78 O O O<|λb7=>aa<|aR (m:=6) [1] kr<|?_
     refine bI O O ent245 O O (λw' hw'=>(jk w' (hGF.g _ _ _ hw')).mono λe' w'' h=> ?_);obtain ⟨c1,rfl,hg,h1,ho⟩:=h;refine ⟨_,_,rfl,az hGF,hw'.news ao hg [(33,c1,(RW 24 (R24 oY uY) 4).map U64,298)] ?_ bR,bP ao O, ?_⟩
     ·intro n' b' c' t' hl
      rcases aK hl with ⟨_,e⟩|⟨_,hl⟩
      ·cases e;exact ⟨h1,ho⟩
      ·cases hl
     clear hw' hg h1 ho;exact aa<|aR (m:=2) [2,3,4,5] kr<|Cc O ent243 (λw' hC hG=>qd x _ w' hG (aJ (n:=33) O w' hC))<|Mv O<|Ext O O<|Ext O O<|aa<|aR (m:=1) [8] kr<|Sa 7 hGF O O O aX<|aa<|aR (m:=0) [9] kr<|Sa 8 hGF O O O aX<|aa<|cI kr<|aC<|⟨rfl,(b7,b8),_,rfl,trv,trv⟩
  ·rintro ⟨b7,b8⟩
   dsimp only;refine Xp<|La 6 O O aX<|La 8 O O aX<|Ca O (dH _ _)<|Al 9 hGF zv78<|λb9=>Sa 9 hGF O O O aX<|aa<|ah<|Xp<|La 9 O O aX<|Cbl false O ent175 (wL _) (decide_eq_false (J0 h))<|aa<|aD O<|aq<|Xp<|La 9 O O aX<|Ca O (H3 _)<|Al 10 hGF zv78<|λb10=>Sa 10 hGF O O O aX<|aa<|Xa [0,1,2,3,4,5,6,7,8,9,10,11,12,13,14,15] ⟨16,11,80,(GL gInf).map U64⟩ [17,18] (bE O zv80 O)<|La 5 O O aX<|La 8 O O aX<|Ca O (dH _ _)<|La 10 O O aX<|Ca O (YF h)<|La 3 O O aX<|La 7 O O aX<|Ca O (dH _ _)<|La 6 O O aX<|Ca O (dH _ _)<|La 10 O O aX<|Ca O (XR h)<|Ca O (VB _ _ (nP.1 (xV h)))<|Mv O<|Ext O O<|Ext O O<|aa<|?_;refine ⟨_,_,rfl,hGF,by intro x hx;simp only[List.mem_cons,List.not_mem_nil,or_false]at hx;subst hx;rfl,by intro x hx;simp only[List.mem_cons,List.not_mem_nil,or_false]at hx;subst hx;rfl,λadr7=> ?_⟩
   refine Sa 11 hGF O O O cn<|Asg O<|aa<|Xp<|La 11 O O cn<|Sa 4 hGF O O O cn<|aa<|am<|Rr<|?_;exact av 4 O O O isAgg80 sizeOf80 sm (λw hw=>⟨rfl,ac hw⟩)
theorem pmap{u x r:W2}(h:SwR u x r):PUR 174 [EV2 u] (PtV (YC x (sgS r u) h.on)):=by
 intro w hw;refine Hf func174 O hw<|λhGF=>Xp<|Bx 1 hGF O<|λb1=>Al 2 hGF zv80<|λb2=>aa<|Xp<|La 1 O O aX<|Ca O (pswu h)<|Ext O O<|Ext O O<|Ca O (piso _ _ h.on)<|Sa 2 hGF O O O cn<|aa<|am<|Rr<|?_;exact av 2 O O O isAgg80 sizeOf80 sm (λw hw=>⟨rfl,ac hw⟩)
end
section
open Go.RowKit
attribute [local simp] a6 bj aH aB aP aZ aQ aI aM be bz a5 bv List.length_append gg
theorem ent37:ak prog 37:=λ_ _=>kr
namespace Xm
theorem rnum(p1 p2:L8):PUR 84 [NV (WDs p1 PL p1.length),NV (WDs p2 PL p2.length)] (EV2 (ZB p1,ZB p2)):=by
 intro w hw;refine Hf func84 O hw<|λhGF=>Xp<|Bx 2 hGF O<|λb2=>Bx 3 hGF O<|λb3=>Al 4 hGF zv41<|λb4=>aa<|Xd []<|La 2 O O cf<|Ca O (UE p1)<|La 3 O O cf<|Ca O (UE p2)<|co su O O sm sm O O<|Sa 4 hGF O O O bL<|aa<|am<|Rr<|?_;exact av 4 O O O isAgg41 sizeOf41 sm (λw hw=>⟨rfl,ac hw⟩)
end Xm
end
section
open Go.RowKit
attribute [local simp] a6 bj aH aB aP aZ aQ aI aM be bz a5 bv List.length_append gg cJ
namespace Xm
attribute [local simp] Sh.gH kX qi kq fA ge Sh.ce ko
theorem RW_s{s:Nat}(f:Nat->L6)(k:Nat)(h:(f k).length=s):RW s f (k+1)=RW s f k++f k:=List.ext_getElem? λm=>by
 rcases Nat.eq_zero_or_pos s with h0|h0
 ·subst h0
  rw[List.length_eq_zero_iff.1 h,List.append_nil,List.length_eq_zero_iff.1 (show (RW 0 f (k+1)).length=0 by rw[cJ];omega),List.length_eq_zero_iff.1 (show (RW 0 f k).length=0 by rw[cJ];omega)]
 by_cases h1:m<s*k
 ·rw[lV f (k+1) m (by rw[Nat.mul_succ];omega),List.getElem?_append_left (by rw[cJ];exact h1),lV f k m h1]
 ·by_cases h2:m<s*(k+1)
  ·have e:m=s*k+(m-s*k):=om
   have hlt:m-s*k<s:=by rw[Nat.mul_succ]at h2;omega
   have d1:m / s=k:=by rw[e,Nat.mul_add_div h0,Nat.div_eq_of_lt hlt,Nat.add_zero]
   have d2:m % s=m-s*k:=by conv=>lhs;rw[e,Nat.mul_add_mod,Nat.mod_eq_of_lt hlt]
   rw[lV f (k+1) m h2,List.getElem?_append_right (by rw[cJ];omega),cJ,d1,d2,List.getD_eq_getElem?_getD,List.getElem?_eq_getElem (by rw[h];exact hlt)];rfl
  ·rw[List.getElem?_eq_none (by rw[cJ];omega),List.getElem?_eq_none (by rw[List.length_append,cJ,h];rw[Nat.mul_succ]at h2;omega)]
theorem LM{own L:Hl}{n:Nat}{e:TypeId}{s:Nat}{a0:Option Addr}{cap nx:Nat}{xs:List Value}(h:OwnW own n e s a0 cap nx xs)(hl:lkB L n=lkB own n):OwnW L n e s a0 cap nx xs:=by
 unfold OwnW at*;rw[hl];exact h
theorem tiE:TI prog 41 (aL (List.replicate 12 (0#64))) 12 96:=sP kr
def N2(bs:L8)(i:Nat):W2:=(ZB ((bs.drop (128*i)).take 64),ZB ((bs.drop (128*i+64)).take 64))
def N2r(bs:L8)(i:Nat):L6:=fe (N2 bs i).1++fe (N2 bs i).2
theorem N2r_len(bs:L8)(i:Nat):(N2r bs i).length=12:=by rw[N2r,List.length_append,a6,a6]
theorem Ee(e:Option Addr)(cap len:Nat)(bs:L8)(hb:bs.length=len)(hlen:len<=1000)(w:World)(hw:Gt w)(hby:BytesAt w e bs):CLS 85 [.slice e len cap,NV PL].toArray w (λr w'=>r=.returned (NV (WDs bs PL bs.length))/\Grow w w'):=by
 subst hb;exact wX e cap bs PL O om w hw hby
def At2(w0 w:World)(a:Option Addr)(n:Nat)(f:Nat->L6):Prop:=n=0\/∃b,a=some ⟨b,0,none⟩/\w0.heap.size<=b/\w.rangeAt b 0 ((RW 12 (f) n).map U64)
def FBad(msg dst:L8)(z:Int):Prop:=z<0\/32<z\/255<dst.length\/65536<msg.length
structure RFt(msg dst:L8)(z:Int)(w0 w:World)(v:Value):Prop where
 bad:FBad msg dst z->v=.tuple #[.slice none 0 0,I 130]
 ok: ¬FBad msg dst z->∃a cap,v=.tuple #[.slice a z.toNat cap,I 0]/\At2 w0 w a z.toNat (N2r (E msg dst (128*z.toNat)))
structure LfV(f:Nat->L6)(m:Nat) where
 (k:Nat) (a0:Option Addr) (cap:Nat) (own:Hl)
 hk:k<=m
 hs:OwnW own 50 41 12 a0 cap k ((RW 12 (f) k).map U64)
 ho:own=[]\/∃z,own=[(50,z)]
attribute [local simp] N2r_len
theorem WH(bm:Nat)(a1:Option Addr)(cap1:Nat)(msg:L8)(a2:Option Addr)(cap2:Nat)(dst:L8)(z:Int)(h:z<0)(w:World)(hw:Gt w):CLS 37 [pnt bm,.slice a1 msg.length cap1,.slice a2 dst.length cap2,I z].toArray w (λe w'=>e=.returned (.tuple #[.slice none 0 0,I 130])/\Grow w w'):=by
 refine Hf func37 O hw<|λhGF=>ae (E:=EE [83])<|Asg O<|Asg O<|aa<|ah<|ae (E:=EE [83])<|Mv O<|Bnb true O O (λ_=>aw _ _ _) (decide_eq_true om)<|Mv O<|Sk<|Sk<|Pk O O O<|aa<|aT O<|ae (E:=EE [83])<|Asg O<|Asg O<|aa<|am<|Rr<|?_;exact ch O O O (λw hw=>⟨rfl,ac hw⟩)
theorem UH(bm:Nat)(a1:Option Addr)(cap1:Nat)(msg:L8)(a2:Option Addr)(cap2:Nat)(dst:L8)(z:Int)(h:32<z)(w:World)(hw:Gt w):CLS 37 [pnt bm,.slice a1 msg.length cap1,.slice a2 dst.length cap2,I z].toArray w (λe w'=>e=.returned (.tuple #[.slice none 0 0,I 130])/\Grow w w'):=by
 refine Hf func37 O hw<|λhGF=>ae (E:=EE [83])<|Asg O<|Asg O<|aa<|ah<|ae (E:=EE [83])<|Mv O<|Bnb false O O (λ_=>aw _ _ _) (decide_eq_false om)<|Mv O<|Mv O<|Bnb true O O (λ_=>ba _ _ _) (decide_eq_true om)<|Pk O O O<|aa<|aT O<|ae (E:=EE [83])<|Asg O<|Asg O<|aa<|am<|Rr<|?_;exact ch O O O (λw hw=>⟨rfl,ac hw⟩)
theorem Ue(bm:Nat)(a1:Option Addr)(cap1:Nat)(msg:L8)(a2:Option Addr)(cap2:Nat)(dst:L8)(z:Int)(h0: ¬z<0)(h1: ¬32<z)(hl:255<dst.length\/65536<msg.length)(w:World)(hw:Gt w)(ho:OwnB w bm (Sh.MK.map U32) 94)(hb1:BytesAt w a1 msg)(hb2:BytesAt w a2 dst):CLS 37 [pnt bm,.slice a1 msg.length cap1,.slice a2 dst.length cap2,I z].toArray w (λe w'=>e=.returned (.tuple #[.slice none 0 0,I 130])/\Grow w w'):=by
 have hGF:BOk Gt (pl w):=gt_low.plain hw;have hgw:Grow w w:=Grow.refl w;refine Hd func37 O hGF<|ae (E:=EE [83])<|Asg O<|Asg O<|aa<|ah<|ae (E:=EE [83])<|Mv O<|Bnb false O O (λ_=>aw _ _ _) (decide_eq_false om)<|Mv O<|Mv O<|Bnb false O O (λ_=>ba _ _ _) (decide_eq_false om)<|Pk O O O<|aa<|aD O<|aq<|ae (E:=EE [83])<|Mv O<|Mv O<|Mv O<|Mv O<|Bnr O O (λ_=>bx _ _ _ oi)<|?_;refine jB O O ent83 O O gt_low (az hGF) (λw' hC hG=>B9 bm a1 cap1 msg a2 cap2 dst (128*z) w' hG (own_grow ho (hgw.trans (ac hC))) (hb1.grow (hgw.trans (ac hC))) (hb2.grow (hgw.trans (ac hC)))) (λw0 w1 v h0 hg hG1 hq=> ?_);replace hgw:=hgw.trans ((ac h0).trans hg);clear h0 hg hGF;have hGF:BOk Gt (pl w1):=gt_low.plain hG1;obtain rfl:=hq.bad (hl.elim (λh=>.inr (.inr (.inl h))) λh=>.inr (.inr (.inr h)));refine Mv O<|Ext O O<|Ext O O<|Asg O<|Asg O<|aa<|ah<|ae (E:=EE [83])<|Mv O<|Bnb true O O (λ_=>bC _ _ _) (rfl)<|aa<|aT O<|ae (E:=EE [83])<|Mv O<|Asg O<|Asg O<|aa<|am<|Rr<|?_;exact ch O O O (λw hw=>⟨rfl,hgw.trans (ac hw)⟩)
theorem Q3(bm:Nat)(a1:Option Addr)(cap1:Nat)(msg:L8)(a2:Option Addr)(cap2:Nat)(dst:L8)(n:Nat)(hn:n<=32)(hd:dst.length<=255)(hm:msg.length<=65536)(w:World)(hw:Gt w)(ho:OwnB w bm (Sh.MK.map U32) 94)(hb1:BytesAt w a1 msg)(hb2:BytesAt w a2 dst):CLS 37 [pnt bm,.slice a1 msg.length cap1,.slice a2 dst.length cap2,I (n:Int)].toArray w (λe w'=> ∃a cap,e=.returned (.tuple #[.slice a n cap,I 0])/\Grow w w'/\At2 w w' a n (N2r (E msg dst (128*n)))):=by
 have hGF:BOk Gt (pl w):=gt_low.plain hw;have hgw:Grow w w:=Grow.refl w;refine Hd func37 O hGF<|ae (E:=EE [83])<|Asg O<|Asg O<|aa<|ah<|ae (E:=EE [83])<|Mv O<|Bnb false O O (λ_=>aw _ _ _) (decide_eq_false om)<|Mv O<|Mv O<|Bnb false O O (λ_=>ba _ _ _) (decide_eq_false om)<|Pk O O O<|aa<|aD O<|aq<|ae (E:=EE [83])<|Mv O<|Mv O<|Mv O<|Mv O<|Bnr O O (λ_=>bx _ _ _ oi)<|?_;refine jB O O ent83 O O gt_low (az hGF) (λw' hC hG=>B9 bm a1 cap1 msg a2 cap2 dst (128*(n:Int)) w' hG (own_grow ho (hgw.trans (ac hC))) (hb1.grow (hgw.trans (ac hC))) (hb2.grow (hgw.trans (ac hC)))) (λw0 w1 v h0 hg hG1 hq=> ?_);replace hgw:=hgw.trans ((ac h0).trans hg);clear h0 hg hGF;have hGF:BOk Gt (pl w1):=gt_low.plain hG1;obtain ⟨xa,xc,rfl,hx,hle⟩:=hq.ok (by rintro (h|h|h|h)<;>omega)
 rw[show ((128:Int)*(n:Int)).toNat=128*n by omega]at*
 have hxc:128*n<=xc:=by rw[kh]at hle;exact hle
 refine Mv O<|Ext O O<|Ext O O<|Asg O<|Asg O<|aa<|ah<|ae (E:=EE [83])<|Mv O<|Bnb false O O (λ_=>bC _ _ _) (rfl)<|aa<|aD O<|aq<|ae (E:=EE [83])<|Asg O<|aa<|ah<|ae (E:=EE [83])<|Asg O<|aa<|ai<|bH (ι:=LfV (N2r (E msg dst (128*n))) n) (λz=>[(3,I (n:Int)),(10,.slice xa (E msg dst (128*n)).length xc),(12,.slice z.a0 z.k z.cap),(13,I (z.k:Int))]) (λz=>z.own) (λz=>n-z.k) ⟨0,none,0,[],om,vJ _ _ _ _,.inl O⟩ hGF trv trivial<|?_;rintro ⟨k,a0,cap,own,hk,hs,hown⟩;dsimp only at hs hown⊢;refine ah<|ae (E:=EE [83])<|Mv O<|Mv O<|Bnr O O (λ_=>aw _ _ _)<|aa<|?_;refine bD O (λhc=> ?_) (λhc=> ?_)
 ·have hlt:k<n:=by simp at hc;omega
  clear hc;refine aq<|ah<|ai<|Xe [83]<|Mv O<|Mv O<|Mv O<|Bnr (v:=I ((128*k:Nat):Int)) O O (λ_=>(bx _ _ _ oi).trans (by rw[show (128:Int)*(k:Int)=((128*k:Nat):Int) by omega]))<|Mv O<|Bnr (v:=I ((128*k:Nat):Int)) O O (λ_=>(bx _ _ _ oi).trans (by rw[show (128:Int)*(k:Int)=((128*k:Nat):Int) by omega]))<|Bnr (v:=I ((128*k+64:Nat):Int)) O O (λ_=>(au _ _ _ oi).trans rr)<|go (l:=128*k) (h':=128*k+64) O underlying22 sizeOf5 O O om O O<|Ca O (gI)<|Cc O ent85 (λw' hC hG=>Ee _ _ _ (((E msg dst (128*n)).drop (128*k)).take 64) (by rw[List.length_take,List.length_drop,kh];omega) om w' hG ((hx.cut (128*k) 64 hle).grow (ac hC)))<|Mv O<|Mv O<|Bnr (v:=I ((128*k:Nat):Int)) O O (λ_=>(bx _ _ _ oi).trans (by rw[show (128:Int)*(k:Int)=((128*k:Nat):Int) by omega]))<|Bnr (v:=I ((128*k+64:Nat):Int)) O O (λ_=>(au _ _ _ oi).trans rr)<|Mv O<|Bnr (v:=I ((128*k:Nat):Int)) O O (λ_=>(bx _ _ _ oi).trans (by rw[show (128:Int)*(k:Int)=((128*k:Nat):Int) by omega]))<|Bnr (v:=I ((128*k+128:Nat):Int)) O O (λ_=>(au _ _ _ oi).trans rr)<|go (l:=128*k+64) (h':=128*k+128) O underlying22 sizeOf5 O O om O O<|Ca O (gI)<|Cc O ent85 (λw' hC hG=>Ee _ _ _ (((E msg dst (128*n)).drop (128*k+64)).take 64) (by rw[List.length_take,List.length_drop,kh];omega) om w' hG ((hx.cut (128*k+64) 64 hle).grow (ac hC)))<|Ca O (rnum (((E msg dst (128*n)).drop (128*k)).take 64) (((E msg dst (128*n)).drop (128*k+64)).take 64))<|wa 58 ((N2r (E msg dst (128*n)) k).map U64) hGF O sm dc dc underlying85 sizeOf41 zv41 O O<|?_
  intro b58;refine qf (s:=12) (nx:=k) (ny:=1) (xs:=(RW 12 ((N2r (E msg dst (128*n)))) k).map U64) (ys:=(N2r (E msg dst (128*n)) k).map U64) 50 hGF O O underlying85 underlying85 tiE O (LM hs O) sm (λw' h=>aJ (n:=58) O w' h) (bc _) dc om om O O (λbA cA capA eA lA tA=> ?_);refine Asg O<|aa<|bG (E:=EE [83])<|Mv O<|Bnr (v:=I ((k+1:Nat):Int)) O O (λ_=>(au _ _ _ oi).trans rr)<|Asg O<|aa<|?_
  repeat (first|refine aO ?_|refine cm ?_)
  refine aC ?_;have eR:(RW 12 ((N2r (E msg dst (128*n)))) (k+1)).map U64=(RW 12 ((N2r (E msg dst (128*n)))) k).map U64++(N2r (E msg dst (128*n)) k).map U64:=by rw[RW_s _ k (N2r_len _ _),List.map_append]
  exact ⟨rfl,⟨k+1,some ⟨bA,0,none⟩,capA,[(50,bA,cA,41)],om,.inr ⟨bA,cA,rfl,rfl,eA,om,by simp;omega,by rw[eR];exact tA⟩,.inr ⟨_,rfl⟩⟩,_,by show n-(k+1)<n-k;omega,rfl,trv,trv⟩
 ·obtain rfl:k=n:=by simp at hc;omega
  clear hc;refine aV<|ae (E:=EE [83])<|Mv O<|Asg O<|Asg O<|aa<|am<|?_
  repeat (first|refine bJ ?_|refine bK ?_|refine eZ ?_)
  rcases hs with ⟨rfl,_,rfl,_⟩|⟨b,c,rfl,hl,_,_,_,ht⟩
  ·exact ch O O O (λw hw=>⟨_,_,rfl,hgw.trans (ac hw),.inl O⟩)
  ·refine ch O O O (λw hw=>⟨_,_,rfl,hgw.trans (ac hw),.inr ⟨b,rfl,(hw.own _ b c _ hl).2.elim (λh=>Nat.le_trans hgw.size h) False.elim,λj v hv=> ?_⟩⟩)
   rw[Nat.zero_add];refine cy hl ?_ w hw;rw[<-ht,List.getElem?_take]at hv;split at hv
   ·exact hv
   ·cases hv
end Xm
end
section
open Go.RowKit
attribute [local simp] a6 bj aH aB aP aZ aQ aI aM be bz a5 bv List.length_append gg cJ
namespace Xm
attribute [local simp] Sh.gH kX qi kq fA ge Sh.ce ko
attribute [local simp] N2r_len
theorem rfields(bm:Nat)(a1:Option Addr)(cap1:Nat)(msg:L8)(a2:Option Addr)(cap2:Nat)(dst:L8)(z:Int)(w:World)(hw:Gt w)(ho:OwnB w bm (Sh.MK.map U32) 94)(hb1:BytesAt w a1 msg)(hb2:BytesAt w a2 dst):CLS 37 [pnt bm,.slice a1 msg.length cap1,.slice a2 dst.length cap2,I z].toArray w (λe w'=> ∃v,e=.returned v/\Grow w w'/\RFt msg dst z w w' v):=by
 have err:FBad msg dst z->∀{e:Ending} {w':World},e=.returned (.tuple #[.slice none 0 0,I 130])/\Grow w w'->∃v,e=.returned v/\Grow w w'/\RFt msg dst z w w' v:=λhb _ _ h=>⟨_,h.1,h.2,λ_=>rfl,λhn=>absurd hb hn⟩;by_cases h0:z<0
 ·exact (WH bm a1 cap1 msg a2 cap2 dst z h0 w hw).mono λ_ _ h=>err (.inl h0) h
 by_cases h1:32<z
 ·exact (UH bm a1 cap1 msg a2 cap2 dst z h1 w hw).mono λ_ _ h=>err (.inr (.inl h1)) h
 by_cases h2:255<dst.length\/65536<msg.length
 ·exact (Ue bm a1 cap1 msg a2 cap2 dst z h0 h1 h2 w hw ho hb1 hb2).mono λ_ _ h=>err (.inr (.inr h2)) h
 obtain ⟨n,rfl⟩: ∃n:Nat,z=(n:Int):=⟨z.toNat,om⟩;refine (Q3 bm a1 cap1 msg a2 cap2 dst n om om om w hw ho hb1 hb2).mono λe w' ⟨a,cap,he,hg,hc⟩=>⟨_,he,hg,λhb=>absurd hb ?_,λ_=>⟨a,cap,rfl,hc⟩⟩;rintro (h|h|h|h)<;>omega
def PFC:Prop:= ∀(a1:Option Addr) (cap1:Nat) (msg:L8) (a2:Option Addr) (cap2:Nat) (dst:L8) (z:Int) (w:World),msg.length<=100000->msg.length<=cap1->dst.length<=100000->dst.length<=cap2->Gt w->BytesAt w a1 msg->BytesAt w a2 dst->CLS 171 [.slice a1 msg.length cap1,.slice a2 dst.length cap2,I z].toArray w (λe w'=> ∃v,e=.returned v/\Grow w w'/\RFt msg dst z w w' v)
end Xm
end
section
variable {γ δ:Type} (G:Ab γ) (H:Ab δ)
end
section
variable {α:Type} [DecidableEq α] {C:Ec α}
theorem Ec.On.is{a:C.On}(h:a≠C.ab.ze): ∃hx:C.on (C.xy a.1),a=⟨some (C.xy a.1),hx⟩:=by
 obtain ⟨P,hP⟩:=a
 cases P with
 |none=>exact absurd O h
 |some p=>exact ⟨hP,rfl⟩
theorem Ec.listed{n:Nat}(S:Nat->C.On)(si: ∀i j,i<j->j<n->S i≠S j)(s0: ∀i,i<n->S i≠C.ab.ze): ∃L:List (α×α),L.length=n/\L.Pairwise (·≠ ·)/\∀q,q∈L->∃i,i<n/\∃hq:C.on q,S i=⟨some q,hq⟩:=by
 refine ⟨(List.range n).map λi=>C.xy (S i).1,sm, ?_,λq hq=> ?_⟩
 ·rw[List.pairwise_map]
  refine List.Pairwise.imp_of_mem (λ{i j} hi hj hij=> ?_) List.pairwise_lt_range;intro e;have hj':=List.mem_range.1 hj;obtain ⟨_,e1⟩:=Ec.On.is (s0 i om);obtain ⟨_,e2⟩:=Ec.On.is (s0 j hj');refine si i j hij hj' ?_;rw[e1,e2];exact Subtype.ext (congrArg some e)
 ·obtain ⟨i,hi,rfl⟩:=List.mem_map.1 hq
  have hi':=List.mem_range.1 hi;obtain ⟨h1,h2⟩:=Ec.On.is (s0 i hi');exact ⟨i,hi',h1,h2⟩
end
/-! ### Sums of so many times two things -/
section
variable {γ:Type} (G:Ab γ)
end
/-! ### The same in numbers -/
section
variable {α:Type} (C:Ec α)
end
section
variable {α β:Type} {C:Ec α} {D:Ec β} (T:Hw C D)
def Hw.o(a:{P:Pt α // C.onP P}):{P:Pt β // D.onP P}:=⟨T.p a.1,T.p_on a.2⟩
end
section
variable {α β:Type} [DecidableEq α] [DecidableEq β] {C:Ec α} {D:Ec β}
end
/-! ### Points of the order r -/
section
variable {α β γ:Type} [DecidableEq α] [DecidableEq β] [DecidableEq γ] {C:Ec α} {B:Ec β} {D:Ec γ} (H:Hw C D) (K:Hw B D)
structure TD(g:C.On)(q:B.On)(r:Nat):Prop where
 sep: ∀S S',C.onP S->B.onP S'->H.p S=K.p S'->S'=none
 hr: ∀d,0<d->d<r->∃e,(d*e) % r=1
 gr:C.times g.1 r=none
 qr:B.times q.1 r=none
 gn:g.1≠none
 qn:q.1≠none
 r0:0<r
 r2:r % 2=1
variable {H K} {r:Nat} {g:C.On} {q:B.On} (t:TD H K g q r)
end
/-! ### A third root of 1 over p^12 -/
def C3:W12:=em (re2 (zp TRN))
/-! ### The second curve, turned -/
/-! ### The numbers -/
def EU:Nat:=(UG+1) / 3
def lU:List Bool:=(di 64 UG []).tail
def lE:List Bool:=(di 63 EU []).tail
def HEF:Nat:=0xbc69f08f2ee75b3584c6a0ea91b352888e2a8e9145ad7689986ff031508ffe1329c2f178731db956d82bf015d1212b02ec0ec69d7477c1ae954cbc06689f6a359894c0adebbf6b4e8020005aaa95551
theorem td{a x y:W2}(ha:a≠ze2)(h:ml2 a x=ml2 a y):x=y:=by
 have e:=dd ha;generalize iv2 a=s at*;exact zl R2 [a,s,x,y] 0x8 0x44575695382592 0x9 0x445756853856759567 (lca (lca (lcm h) (lcm e)) (lcm e))
theorem TG{n s:Zp}(h:s*s= -n)(hn:n≠0): ¬IsQ n:=by
 rcases kG (a:=n) (b:= -n) (c:=n) (by grind) hn with k|k
 ·exact absurd (pF h) k.2
 ·exact k.1
theorem MQ{u X:W2}(h:tu2 u≠ze2)(e:ml2 (ml2 OA X) (tu2 u)=ml2 (ng2 OB) (ad2 (tu2 u) on2)):x1O u=X:=by
 have k:=(NJ h).trans e.symm;have sw: ∀a x t:W2,ml2 (ml2 a x) t=ml2 (ml2 a t) x:=λa x t=>zx R2 [a,x,t] 0x55678 0x55687;rw[sw,sw OA X]at k;exact td (λq=>(gQ q).elim AV h) k
theorem O3{u X R x r:W2}(h:tu2 u≠ze2)(e:ml2 (ml2 OA X) (tu2 u)=ml2 (ng2 OB) (ad2 (tu2 u) on2))(hr:ml2 R R=gO X)(hl:LG2 R=false)(s:SwR u x r):x=X/\r=R:=by
 have k:=MQ h e;have hx:x=X:=s.at1.elim (λq=>q.trans k) (λq=>absurd ((jC _).1 ⟨R,hr⟩) (k▸q.1));exact ⟨hx,jG hr hl (hx▸s.sq) s.lg⟩
theorem OX{u X X' R x r:W2}{q:Zp}(h:tu2 u≠ze2)(e:ml2 (ml2 OA X) (tu2 u)=ml2 (ng2 OB) (ad2 (tu2 u) on2))(hn:q*q= -(nm2 (gO X)))(h0:nm2 (gO X)≠0)(hx':ml2 (zu2 u) X=X')(hr:ml2 R R=gO X')(hl:LG2 R=false)(s:SwR u x r):x=X'/\r=R:=by
 have k:=MQ h e;have hx:x=X':=s.at1.elim (λj=>absurd (fy (j.trans k▸s.sq)) (TG hn h0)) (λj=>by rw[j.2,k];exact hx')
 exact ⟨hx,jG hr hl (hx▸s.sq) s.lg⟩
theorem Ns{x X:W2}(h:R2.pev iXD x≠ze2)(e:ml2 (R2.pev iXD x) X=R2.pev iXN x):XIs x=X:=by
 refine td h (Eq.trans ?_ e.symm);have k:=dd h;unfold XIs;generalize R2.pev iXD x=d at*;generalize R2.pev iXN x=n at*;generalize iv2 d=s at*;exact zk R2 [d,n,s] 0x56578 0x7 0x7 0x2 0x568 k
theorem MG{x y Y:W2}(h:R2.pev iYD x≠ze2)(e:ml2 (R2.pev iYD x) Y=ml2 y (R2.pev iYN x)):YIs x y=Y:=by
 refine td h (Eq.trans ?_ e.symm);have k:=dd h;unfold YIs;generalize R2.pev iYD x=d at*;generalize ml2 y (R2.pev iYN x)=n at*;generalize iv2 d=s at*;exact zk R2 [d,n,s] 0x56578 0x7 0x7 0x2 0x568 k
theorem Ib:kI (di 636 HEF []) 0=HEF:=by decide+kernel
section
open J2
open Go.RowKit
attribute [local simp] a6 bj aH aB aP aZ aQ aI aM be bz a5 bv bB cJ dz Xm.N2r_len
theorem ent86:ak prog 86:=λ_ _=>kr
theorem ent9:ak prog 9:=λ_ _=>kr
def dgt(c:BitVec 8):BitVec 8:=if 97#8<=c then c-97#8+10#8 else c-48#8
theorem vV(c:BitVec 8):PUR 137 [U8 c] (U8 (dgt c)):=by
 intro w hw;have hGF:BOk Gt (pl w):=gt_low.plain hw;by_cases h:97#8<=c
 ·rw[show dgt c=_ from if_pos h]
  refine Hd func137 O hGF<|Xp<|Asg O<|aa<|ah<|Xp<|Mv O<|Bnb true O O (λ_=>qv _ _ 97#8) (decide_eq_true h)<|aa<|aT O<|Xp<|Mv O<|Bnr O O (λ_=>qY _ _ _)<|Bnr O O (λ_=>xX _ _ _)<|Asg O<|aa<|am<|Rr<|?_;exact aF O O (λw hw=>⟨rfl,ac hw⟩)
 ·rw[show dgt c=_ from if_neg h]
  refine Hd func137 O hGF<|Xp<|Asg O<|aa<|ah<|Xp<|Mv O<|Bnb false O O (λ_=>qv _ _ 97#8) (decide_eq_false h)<|aa<|aD O<|aq<|Xp<|Mv O<|Bnr O O (λ_=>qY _ _ _)<|Asg O<|aa<|am<|Rr<|?_;exact aF O O (λw hw=>⟨rfl,ac hw⟩)
def HXL:List UInt8:=(List.append (List.append [48,98,99,54,57,102,48,56,102,50,101,101,55,53,98,51,53,56,52,99,54,97,48,101,97,57,49,98,51,53,50,56,56,56,101,50,97,56,101,57] [49,52,53,97,100,55,54,56,57,57,56,54,102,102,48,51,49,53,48,56,102,102,101,49,51,50,57,99,50,102,49,55,56,55,51,49,100,98,57,53]) (List.append [54,100,56,50,98,102,48,49,53,100,49,50,49,50,98,48,50,101,99,48,101,99,54,57,100,55,52,55,55,99,49,97,101,57,53,52,99,98,99,48] [54,54,56,57,102,54,97,51,53,57,56,57,52,99,48,97,100,101,98,98,102,54,98,52,101,56,48,50,48,48,48,53,97,97,97,57,53,53,53,49]))
def HX:L8:=[48#8,98#8,99#8,54#8,57#8,102#8,48#8,56#8,102#8,50#8,101#8,101#8,55#8,53#8,98#8,51#8,53#8,56#8,52#8,99#8,54#8,97#8,48#8,101#8,97#8,57#8,49#8,98#8,51#8,53#8,50#8,56#8,56#8,56#8,101#8,50#8,97#8,56#8,101#8,57#8,49#8,52#8,53#8,97#8,100#8,55#8,54#8,56#8,57#8,57#8,56#8,54#8,102#8,102#8,48#8,51#8,49#8,53#8,48#8,56#8,102#8,102#8,101#8,49#8,51#8,50#8,57#8,99#8,50#8,102#8,49#8,55#8,56#8,55#8,51#8,49#8,100#8,98#8,57#8,53#8,54#8,100#8,56#8,50#8,98#8,102#8,48#8,49#8,53#8,100#8,49#8,50#8,49#8,50#8,98#8,48#8,50#8,101#8,99#8,48#8,101#8,99#8,54#8,57#8,100#8,55#8,52#8,55#8,55#8,99#8,49#8,97#8,101#8,57#8,53#8,52#8,99#8,98#8,99#8,48#8,54#8,54#8,56#8,57#8,102#8,54#8,97#8,51#8,53#8,57#8,56#8,57#8,52#8,99#8,48#8,97#8,100#8,101#8,98#8,98#8,102#8,54#8,98#8,52#8,101#8,56#8,48#8,50#8,48#8,48#8,48#8,53#8,97#8,97#8,97#8,57#8,53#8,53#8,53#8,49#8]
def HBs:L8:=[11#8,198#8,159#8,8#8,242#8,238#8,117#8,179#8,88#8,76#8,106#8,14#8,169#8,27#8,53#8,40#8,136#8,226#8,168#8,233#8,20#8,90#8,215#8,104#8,153#8,134#8,255#8,3#8,21#8,8#8,255#8,225#8,50#8,156#8,47#8,23#8,135#8,49#8,219#8,149#8,109#8,130#8,191#8,1#8,93#8,18#8,18#8,176#8,46#8,192#8,236#8,105#8,215#8,71#8,124#8,26#8,233#8,84#8,203#8,192#8,102#8,137#8,246#8,163#8,89#8,137#8,76#8,10#8,222#8,187#8,246#8,180#8,232#8,2#8,0#8,5#8,170#8,169#8,85#8,81#8]
theorem Qt: ∀i:Fin 160,HXL.toArray[i.val]? =some (UInt8.ofBitVec (HX.getD i.val 0)):=by decide+kernel
theorem NO{i:Nat}{z:Int}(hz:z=(i:Int))(h:i<160):HXL.toArray[z.toNat]? =some (UInt8.ofBitVec (HX.getD i 0)):=by
 subst hz;rw[Int.toNat_natCast];exact Qt ⟨i,h⟩
theorem Kk: ∀k:Fin 80,dgt (HX.getD (2*k.val) 0)<<<(4#64).toNat|||dgt (HX.getD (2*k.val+1) 0)=HBs.getD k.val 0:=by decide+kernel
theorem Rc{k:Nat}(h:k<80):dgt (HX.getD (2*k) 0)<<<(4#64).toNat|||dgt (HX.getD (2*k+1) 0)=HBs.getD k 0:=Kk ⟨k,h⟩
theorem JT:HBs.length=80:=rfl
def HBk(k:Nat):List Value:=(HBs.take k).map U8
theorem mZ{k:Nat}(h:k<=80):(HBk k).length=k:=by rw[HBk,List.length_map,List.length_take,show HBs.length=80 from O];omega
theorem FA{k:Nat}(h:k<80):HBk k++[U8 (HBs.getD k 0)]=HBk (k+1):=by
 rw[HBk,HBk,List.take_add_one,List.getD_eq_getElem?_getD,List.getElem?_eq_getElem (show k<HBs.length from h),List.map_append];rfl
theorem Lr:HBk 80=HBs.map U8:=rfl
theorem ti5s:TI prog 5 (.int .u8 0) 1 1:=sP kr
structure AppV(f:Nat->List Value)(e N:Nat) where
 (k:Nat) (a0:Option Addr) (cap:Nat) (own:Hl)
 hk:k<=N
 hs:OwnV own 50 e a0 cap (f k)
theorem OwnV.skip{L:Hl}{n:Nat}{e:TypeId}{a0:Option Addr}{cap:Nat}{xs:List Value}(h:OwnV L n e a0 cap xs)(m:Nat){x:Nat×List Value×TypeId}(hm:Nat.beq m n=false):OwnV ((m,x)::L) n e a0 cap xs:=by
 rcases h with h|⟨b,c,h1,h2,h3⟩
 ·exact .inl h
 ·exact .inr ⟨b,c,h1,by show (bif Nat.beq m n then some x else lkB L n)=_;rw[hm];exact h2,h3⟩
theorem OY(w:World)(hw:Gt w):CLS 86 [].toArray w (λe w'=> ∃b c cap,e=.returned (.slice (spt b) 80 cap)/\Grow w w'/\w.heap.size<=b/\OwnB w' b c 5/\c.take HBs.length=HBs.map U8):=by
 have hGF:BOk Gt (pl w):=gt_low.plain hw;have fin: ∀{L:Hl} {a0:Option Addr} {cap:Nat} {w':World},OwnV L 50 5 a0 cap (HBk 80)->Hp (pl w) L w'->∃b c cap',Ending.returned (.slice a0 (HBk 80).length cap)=.returned (.slice (spt b) 80 cap')/\Grow w w'/\w.heap.size<=b/\OwnB w' b c 5/\c.take HBs.length=HBs.map U8:=λ{L a0 cap w'} h hp=>by
  rcases h with ⟨_,h,_⟩|⟨b,c,rfl,hl,hc,hle,ht⟩
  ·have e:=mZ (k:=80) om;rw[h]at e;cases e
  ·refine ⟨b,c,cap,by rw[mZ om],ac hp,(hp.own _ _ _ _ hl).2.elim id False.elim,(hp.own _ _ _ _ hl).1, ?_⟩
   rw[mZ om,Lr]at ht;exact ht
 refine Hd func86 O hGF<|Xp<|Asg O<|aa<|Xp<|Asg O<|aa<|ah<|Xp<|Asg O<|aa<|ai<|bH (ι:=AppV HBk 5 80) (λx=>[(1,.slice x.a0 (HBk x.k).length x.cap),(2,I ((2*x.k:Nat):Int))]) (λx=>x.own) (λx=>80-x.k) ⟨0,none,0,[],om,FR _ _ _⟩ hGF trv trivial<|?_;rintro ⟨k,a0,cap,own,hk,hs⟩;dsimp only at hs⊢;refine ah<|Xp<|Mv O<|Bnr (v:=.bool (decide (k<80))) O O (λ_=>(aw _ _ _).trans (by rw[show decide (((2*k:Nat):Int)<160)=decide (k<80)from decide_eq_decide.2 om]))<|aa<|?_
 refine bD O (λhc=> ?_) (λhc=> ?_)
 ·have hk2:k<80:=by simpa using hc
  refine aq<|ah<|ai<|Xe []<|Mv O<|Mv O<|uO (n:=HX.getD (2*k) 0) O O underlying9 om (NO (i:=2*k) (rfl) om) O O<|Ca O (vV _)<|Bnr (v:=U8 (dgt (HX.getD (2*k) 0)<<<(4#64).toNat)) O O (λ_=>zu _ _ 4#64)<|Mv O<|Bnr (v:=I (((2*k:Nat):Int)+1)) O O (λ_=>au _ _ _ oi)<|uO (n:=HX.getD (2*k+1) 0) O O underlying9 om (NO (i:=2*k+1) om om) O O<|Ca O (vV _)<|Bnr (v:=U8 (HBs.getD k 0)) O O (λ_=>(gC _ _ _).trans (by rw[Rc hk2]))<|u1 17 [U8 (HBs.getD k 0)] hGF O O O dc dc underlying22 sizeOf5 zeroValue5 O O O<|?_
  intro b17;refine yZ (xs:=HBk k) (ys:=[U8 (HBs.getD k 0)]) 50 hGF O O underlying22 underlying22 ti5s O (hs.skip 17 O) (λw' h=>aJ (n:=17) O w' h) O sm (by rw[mZ hk];show (k+1)*1<=_;omega) (by rw[mZ hk];show k+1<=_;omega) O O (λbA cA capA eA lA tA=> ?_)
  subst eA;rw[FA hk2]at lA tA⊢;refine Asg O<|aa<|Xq<|Mv O<|Bnr (v:=I ((2*(k+1):Nat):Int)) O O (λ_=>(au _ _ _ oi).trans (by rw[show ((2*k:Nat):Int)+2=((2*(k+1):Nat):Int) by omega]))<|Asg O<|aa<|?_
  repeat (refine aO ?_)
  exact aC<|⟨rfl,⟨k+1,some ⟨bA,0,none⟩,_,[(50,bA,cA,5)],om,.inr ⟨bA,cA,rfl,rfl,rfl,lA,tA⟩⟩,_,by show 80-(k+1)<80-k;omega,rfl,trv,trv⟩
 ·obtain rfl:k=80:=by simp at hc;omega
  refine aV<|Xp<|Mv O<|Asg O<|aa<|am<|Rr<|?_;exact aF O O (λw' hw'=>fin hs hw')
def RH(x:W6):W6:=RMJ x HBs (8*HBs.length)
theorem yI(x:W6)(e:Option Addr)(cap:Nat)(bs:L8)(n:Nat)(hn:bs.length=n)(hl:n<=4096)(y:W6)(hy:RMJ x bs (8*bs.length)=y)(w:World)(hw:Gt w)(hby:BytesAt w e bs):CLS 18 [EV6 x,.slice e n cap].toArray w (λr w'=>r=.returned (EV6 y)/\Grow w w'):=by
 subst hn hy;exact wK x e cap bs hl w hw hby
theorem Rq(x:W6)(b cap:Nat)(c:List Value)(w:World)(hw:Gt w)(h:w.rangeAt b 0 c)(ht:c.take HBs.length=HBs.map U8):CLS 18 [EV6 x,.slice (spt b) 80 cap].toArray w (λr w'=>r=.returned (EV6 (RH x))/\Grow w w'):=
 yI x (spt b) cap HBs 80 JT dc (RH x) O w hw (cD h ht)
theorem Oi{x:W6}{P Q:Pt W2}(hP:E2w.onP P)(hx:E2w.jr x P)(bs:L8)(m:Nat)(hn:BN bs bs.length=m)(y:W6)(hy:y=RMJ x bs (8*bs.length))(hQ:E2w.times P m=Q):E2w.jr y Q:=by
 subst hn hy hQ;rw[<-gA];exact B6 hP hx bs (8*bs.length)
theorem Nz:BN HBs HBs.length=HEF:=by decide+kernel
theorem Vi(x:W6):RH x=RMJ x HBs (8*HBs.length):=by rw[RH]
theorem YD{x:W6}{P Q:Pt W2}(hP:E2w.onP P)(hx:E2w.jr x P)(hQ:E2w.times P HEF=Q):E2w.jr (RH x) Q:=Oi hP hx HBs HEF Nz (RH x) (Vi x) hQ
theorem Et(x:W6):PUR 38 [EV6 x] (EV6 (RH x)):=by
 intro w hw;refine Hf func38 O hw<|λhGF=>Xp<|Bx 1 hGF O<|λb1=>Al 2 hGF zv43<|λb2=>aa<|o8 (EE [86,2000086]) cT kr kr<|aR (m:=0) [0,1,2,3] kr<|La 1 O O jY<|?_;refine bI O O ent86 O O (λw' hw'=>(OY w' (hGF.g _ _ _ hw')).mono λe' w'' h=> ?_);obtain ⟨c1,cc,cp,rfl,hg,h1,ho,ht⟩:=h;refine ⟨_,_,rfl,az hGF,hw'.news ao hg [(33,c1,cc,5)] ?_ bR,bP ao O, ?_⟩
 ·intro n' b' c' t' hl
  rcases aK hl with ⟨_,e⟩|⟨_,hl⟩
  ·cases e;exact ⟨h1,ho⟩
  ·cases hl
 clear hw' hg h1 ho;refine Cc O ent18 (λw' hC hG=>Rq x _ _ _ w' hG (aJ (n:=33) O w' hC) ht)<|Sa 2 hGF O O O jY<|aa<|cI kr<|aC<|am<|Rr<|?_;exact av 2 O O O isAgg43 sizeOf43 sm (λw hw=>⟨rfl,ac hw⟩)
end
section
open J2
open Go.RowKit
attribute [local simp] a6 bj aH aB aP aZ aQ aI aM be bz a5 bv bB cJ dz Xm.N2r_len
def U2n(msg dst:L8)(i:Nat):W2:=Xm.N2 (Xm.E msg dst 256) i
abbrev U2c(msg dst:L8):List Value:=(RW 12 (Xm.N2r (Xm.E msg dst 256)) 2).map U64
def SwA(u:W2)(A:W2×W2):Prop:= ∃x r,SwR u x r/\(XIs x,YIs x (sgS r u))=A
theorem Hh(u:W2): ∃A,SwA u A:=by
 obtain ⟨x,r,h⟩:=QA u;exact ⟨_,x,r,h,rfl⟩
theorem tG{u:W2}{A:W2×W2}(h:SwA u A):E2w.on A:=by
 obtain ⟨x,r,s,rfl⟩:=h;exact xV s.on
theorem Nw{u:W2}{A:W2×W2}(h:SwA u A):PUR 39 [EV2 u] (EV6 (A.1,A.2,on2)):=by
 obtain ⟨x,r,s,rfl⟩:=h;exact rmap s
def RHf(A B:W2×W2):W6:=RH (E2w.jaF (A.1,A.2,on2) (B.1,B.2,on2))
theorem FI(A B:W2×W2):PUR 38 [EV6 (E2w.jaF (A.1,A.2,on2) (B.1,B.2,on2))] (EV6 (RHf A B)):=by
 rw[RHf];exact Et _
structure Sw2(msg dst:L8)(A B:W2×W2):Prop where
 s0:SwA (U2n msg dst 0) A
 s1:SwA (U2n msg dst 1) B
theorem rY{msg dst:L8}{w0 w:World}{v:Value}(h:Xm.RFt msg dst 2 w0 w v)(hb: ¬Xm.FBad msg dst 2): ∃b cap,v=.tuple #[.slice (spt b) 2 cap,I 0]/\w0.heap.size<=b/\w.rangeAt b 0 (U2c msg dst):=by
 obtain ⟨a,cap,hv,ha⟩:=h.ok hb;obtain ⟨b,rfl,hs,hr⟩:=ha.resolve_left dc;exact ⟨b,cap,hv,hs,hr⟩
theorem zK{msg dst:L8}{w:World}{b:Nat}(h:w.rangeAt b 0 (U2c msg dst)):b<w.heap.size:=by
 have hl:0<(U2c msg dst).length:=by simp[U2c]
 exact block_lt_of_cell (h 0 _ (List.getElem?_eq_getElem hl))
theorem Gc{msg dst:L8}{w:World}{b:Nat}(h:w.rangeAt b 0 (U2c msg dst))(i:Nat)(hi:i<2):w.rangeAt b (0+12*i) ((fe (U2n msg dst i).1++fe (U2n msg dst i).2).map U64):=gB h hi (Xm.N2r_len _ _)
theorem Io(bm:Nat)(a1:Option Addr)(cap1:Nat)(msg:L8)(a2:Option Addr)(cap2:Nat)(dst:L8)(w:World)(hw:Gt w)(ho:OwnB w bm (Sh.MK.map U32) 94)(hb1:BytesAt w a1 msg)(hb2:BytesAt w a2 dst)(hbad: ¬Xm.FBad msg dst 2){A B:W2×W2}(h:Sw2 msg dst A B):CLS 9 [pnt bm,.slice a1 msg.length cap1,.slice a2 dst.length cap2].toArray w (λe w'=>e=.returned (.tuple #[EV6 (RHf A B),I 0])/\Grow w w'):=by
 refine Hf func9 O hw<|λhGF=>ae (E:=EE [37,2000037])<|Al 6 hGF zv43<|λb6=>Asg O<|aa<|ae (E:=EE [37,2000037])<|Mv O<|Mv O<|Mv O<|?_;refine bI O O ent37 O O (λw' hw'=>(Xm.rfields bm a1 cap1 msg a2 cap2 dst 2 w' (hGF.g _ _ _ hw') (Xm.own_grow ho (ac hw')) (hb1.grow (ac hw')) (hb2.grow (ac hw'))).mono λe w'' h=> ?_);obtain ⟨v,rfl,hg,hq⟩:=h;obtain ⟨b,cap,rfl,hbs,hbr⟩:=rY hq hbad;refine ⟨_,_,rfl,az (na hGF),Gf hw' ao hg hbs (zK hbr) hbr,λ_ h=>jE h, ?_⟩;clear hq hg hw' hbs hbr;refine Mv O<|Ext O O<|Ext O O<|Asg O<|Asg O<|aa<|ah<|ae (E:=EE [37,2000037])<|Mv O<|Bnb false O O (λ_=>bC _ _ _) (rfl)<|aa<|aD O<|aq<|Xd [37,2000037]<|Mv O<|iQ (s:=12) 0 O O underlying85 sizeOf41 dc dc O O<|cZ (cs:=(fe (U2n msg dst 0).1++fe (U2n msg dst 0).2).map U64) O isAgg41 sizeOf41 sm (λw' h'=>Gc (vZ h') 0 dc) O O<|Ca O (Nw h.s0)<|Mv O<|iQ (s:=12) 1 O O underlying85 sizeOf41 dc dc O O<|cZ (cs:=(fe (U2n msg dst 1).1++fe (U2n msg dst 1).2).map U64) O isAgg41 sizeOf41 sm (λw' h'=>Gc (vZ h') 1 dc) O O<|Ca O (Nw h.s1)<|Ca O (FK _ _)<|Ca O (FI _ _)<|Sa 6 (na hGF) O O O jY<|Asg O<|aa<|am<|Rr<|?_;exact a7 6 O O O O isAgg43 sizeOf43 sm (λw hw=>⟨rfl,hbl hw⟩)
end
section
open J2
open Go.RowKit
attribute [local simp] a6 bj aH aB aP aZ aQ aI aM be bz a5 bv bB cJ dz jP
theorem ent78:ak prog 78:=λ_ _=>kr
structure PHs:Prop where
 bad: ∀msg dst,Xm.FBad msg dst 2->∃p:GP,p.P=none/\∀(a1:Option Addr) (cap1:Nat) (a2:Option Addr) (cap2:Nat) (w:World),msg.length<=65600->msg.length<=cap1->dst.length<=1000->dst.length<=cap2->Gt w->BytesAt w a1 msg->BytesAt w a2 dst->CLS 78 [.slice a1 msg.length cap1,.slice a2 dst.length cap2].toArray w (λe w'=>e=.returned (.tuple #[PtV p,I 130])/\Grow w w')
 ok: ∀msg dst A B,¬Xm.FBad msg dst 2->Sw2 msg dst A B->∃p:GP,p.P=E2w.times (E2w.ad (some A) (some B)) HEF/\∀(a1:Option Addr) (cap1:Nat) (a2:Option Addr) (cap2:Nat) (w:World),msg.length<=65600->msg.length<=cap1->dst.length<=1000->dst.length<=cap2->Gt w->BytesAt w a1 msg->BytesAt w a2 dst->CLS 78 [.slice a1 msg.length cap1,.slice a2 dst.length cap2].toArray w (λe w'=>e=.returned (.tuple #[PtV p,I 0])/\Grow w w')
def SUs:L8:=[66#8,76#8,83#8,95#8,83#8,73#8,71#8,95#8,66#8,76#8,83#8,49#8,50#8,51#8,56#8,49#8,71#8,50#8,95#8,88#8,77#8,68#8,58#8,83#8,72#8,65#8,45#8,50#8,53#8,54#8,95#8,83#8,83#8,87#8,85#8,95#8,82#8,79#8,95#8,80#8,79#8,80#8,95#8]
def SUb:ByteArray:=⟨(SUs.map λx=>UInt8.ofBitVec x).toArray⟩
theorem Dx(msg dst:L8): ∃A B,Sw2 msg dst A B:=by
 obtain ⟨A,h⟩:=Hh (U2n msg dst 0);obtain ⟨B,h'⟩:=Hh (U2n msg dst 1);exact ⟨A,B,h,h'⟩
theorem QC{msg dst:L8}{A B:W2×W2}(h:Sw2 msg dst A B):E2w.onP (E2w.ad (some A) (some B)):=E2w.ad_on (fY (tG h.s0)) (fY (tG h.s1))
end
section
open Go.RowKit
theorem ent239:ak prog 239:=λ_ _=>kr
theorem ent238:ak prog 238:=λ_ _=>kr
theorem ent240:ak prog 240:=λ_ _=>kr
namespace Xm
attribute [local simp] Sh.gH kX qi kq fA ge Sh.ce ko
theorem zvH(w:World):(zeroValue 291).run prog w=.ok (.agg (Sh.hc (List.replicate 8 0#32) (List.replicate 64 0#8) 0).toArray) w:=(zeroValue291 w).trans rr
theorem ST(T bs:L8)(bh:Nat)(st:L3)(rs:L8)(n:BitVec 64)(hi:Sh.HInv T st rs n)(a:Option Addr)(len cap:Nat)(hlen:bs.length=len)(hcap:len<=cap)(hT:T.length+len<9223372036854775808)(w:World)(hw:Gt w)(ho:OwnB w bh (Sh.hc st rs n) 291)(hbh:8<=bh)(hby:BytesAt w a bs)(hne:bs≠[]->∀ad,a=some ad->ad.block≠bh):
 CLS 264 [pnt bh,.slice a len cap].toArray w (λe w'=>e=.returned (.tuple #[])/\Mod bh w w'/\∃st' rs' n',Sh.HInv (T++bs) st' rs' n'/\OwnB w' bh (Sh.hc st' rs' n') 291):=by
 subst hlen;exact Sh.vI T bs bh st rs n hi (by rw[List.length_append];exact hT) a cap hcap w hw ho hbh hby hne
structure Pc where
 (a:Option Addr) (len cap:Nat) (bs:L8)
def Pc.v(p:Pc):Value:=.slice p.a p.len p.cap
structure PcAt(w:World)(p:Pc):Prop where
 hl:p.bs.length=p.len
 hc:p.len<=p.cap
 hb:BytesAt w p.a p.bs
structure PsAt(w:World)(a:Option Addr)(ps:List Pc):Prop where
 cells:CellsAt w a (ps.map Pc.v)
 all: ∀p,p∈ps->PcAt w p
def cat(ps:List Pc)(k:Nat):L8:=((ps.take k).map Pc.bs).flatten
theorem EC{ps:List Pc}{k:Nat}{p:Pc}(h:ps[k]? =some p):cat ps (k+1)=cat ps k++p.bs:=by
 rw[cat,List.take_add_one,h,List.map_append,List.flatten_append];simp[cat]
theorem E0(ps:List Pc): ∀(m k:Nat),(cat ps k).length<=(cat ps (k+m)).length
 |0,_=>Nat.le_refl _
 |m+1,k=>by
  refine Nat.le_trans (E0 ps m k) ?_
  cases h:ps[k+m]? with
  |some p=>rw[<-Nat.add_assoc,EC h,List.length_append];omega
  |none=>
   have:ps.length<=k+m:=List.getElem?_eq_none_iff.1 h;rw[cat,cat,List.take_of_length_le this,List.take_of_length_le om];exact Nat.le_refl _
theorem Jz(ps:List Pc){k:Nat}(h:k<=ps.length):(cat ps k).length<=(cat ps ps.length).length:=by
 have:=E0 ps (ps.length-k) k
 rwa [Nat.add_sub_cancel' h]at this
structure LsV(ps:List Pc) where
 (k:Nat) (st:L3) (rs:L8) (n:BitVec 64)
 hk:k<=ps.length
 hi:Sh.HInv (cat ps k) st rs n
theorem XG(a:Option Addr)(cap:Nat)(ps:List Pc)(hlen:ps.length<=1000)(hl:(cat ps ps.length).length<=1000000)(w:World)(hw:Gt w)(hr:PsAt w a ps):CLS 239 [.slice a ps.length cap].toArray w (λe w'=>e=.returned (.agg ((Sh.SHA (cat ps ps.length)).map U8).toArray)/\Grow w w'):=by
 refine Hf func239 O hw<|λhGF=>ae (E:=EE [264])<|Al 2 hGF zv98<|λb2=>aa<|ae (E:=EE [264])<|Al 3 hGF zvH<|λb3=>aa<|ah<|ae (E:=EE [264])<|Mv O<|bf O (λ_=>aG underlying288 _ _ _ _) O O<|Mv O<|aa<|ai<|bH (ι:=LsV ps) (λz=>[(6,.slice a ps.length cap),(7,I (ps.length:Int)),(8,I (z.k:Int)),(2,pnt b2),(3,pnt b3)]) (λz=>[(2,b2,(List.replicate 32 0#8).map U8,98),(3,b3,Sh.hc z.st z.rs z.n,291)]) (λz=>ps.length-z.k) ⟨0,_,_,_,Nat.zero_le _,Sh.HInv.zero⟩ hGF trv trv<|?_;rintro ⟨k,st,rs,n,hk,hi⟩;dsimp only;refine ae (E:=EE [264])<|Bnr O O (λ_=>aw _ _ _)<|aa<|ah<|?_;refine bD O (λhc=> ?_) (λhc=> ?_)
 ·have hlt:k<ps.length:=by simp at hc;omega
  clear hc;obtain ⟨p,hp⟩: ∃p,ps[k]? =some p:=⟨_,List.getElem?_eq_getElem hlt⟩;obtain ⟨ad,rfl,hcell⟩:=hr.cells k p.v (by rw[List.getElem?_map,hp];rfl)
  have hpa:=hr.all p (List.mem_of_getElem? hp);have hsz:(cat ps k).length+p.len<9223372036854775808:=by
   have h1:=Jz ps (k:=k+1) hlt;rw[EC hp,List.length_append,hpa.hl]at h1;omega
  refine aq<|ah<|ai<|ae (E:=EE [264])<|gw k O O underlying288 sizeOf22 O hlt O O<|bO O isAgg22 (λw' h=>((ac h).cell (block_lt_of_cell hcell)).trans hcell) O O<|Asg O<|aa<|bG (E:=EE [264])<|Mv O<|?_;refine dw O O ent264 O O (λw' hC=>(ST (cat ps k) (p.bs) b3 st rs n hi _ _ _ (hpa.hl) hpa.hc hsz w' (hGF.g _ _ _ hC) (hC.own 3 _ _ _ O).1 (Nat.le_trans (gt_low.size w hw) ((hC.own 3 _ _ _ O).2.elim id False.elim)) (hpa.hb.grow (ac hC)) (λh ad e=>Nat.ne_of_lt (Nat.lt_of_lt_of_le (hpa.hb.lt h ad e) ((hC.own 3 _ _ _ O).2.elim id False.elim)))).mono λe w'' h=> ?_);obtain ⟨rfl,hm,st1,rs1,n1,hi1,ho⟩:=h;refine ⟨_,_,rfl,az hGF,hC.mod hGF.r (n:=3) O hm ho, ?_⟩;clear hC hm ho;refine aa<|bG (E:=EE [264])<|Bnr (v:=I ((k+1:Nat):Int)) O O (λ_=>(au _ _ _ oi).trans rr)<|Mv O<|aa<|?_
  repeat (refine aO ?_)
  exact aC<|⟨rfl,⟨k+1,st1,rs1,n1,hlt,(EC hp).symm▸hi1⟩,_,by show ps.length-(k+1)<ps.length-k;omega,rfl,trv,trv⟩
 ·have hke:k=ps.length:=by simp at hc;omega
  clear hc;refine aV<|ae (E:=EE [264])<|Cc O ent265 (λw' hC hG=>Sh.y2 (cat ps k) b3 st rs n hi w' hG (hC.own 3 _ _ _ O).1)<|aA 2 hGF O O O sizeOf98 sm sm (bZ _) O<|aa<|am<|Rr<|?_;exact av 2 O O O isAgg98 sizeOf98 sm (λw hw=>⟨by rw[<-hke],ac hw⟩)
theorem Uo(b:Nat)(a1:Option Addr)(l1 c1:Nat)(x1:L8)(a2:Option Addr)(l2 c2:Nat)(x2:L8)(a3:Option Addr)(l3 c3:Nat)(x3:L8)(w:World)(hw:Gt w)(hr:w.rangeAt b 0 [.slice a1 l1 c1,.slice a2 l2 c2,.slice a3 l3 c3])(e1:x1.length=l1)(h1:l1<=c1)(b1:BytesAt w a1 x1)(e2:x2.length=l2)(h2:l2<=c2)(b2:BytesAt w a2 x2)(e3:x3.length=l3)(h3:l3<=c3)(b3:BytesAt w a3 x3)(hl:l1+l2+l3<=1000000):CLS 239 [.slice (spt b) 3 3].toArray w (λe w'=>e=.returned (.agg ((Sh.SHA ((x1++x2)++x3)).map U8).toArray)/\Grow w w'):=by
 have e:cat [⟨a1,l1,c1,x1⟩,⟨a2,l2,c2,x2⟩,⟨a3,l3,c3,x3⟩] 3=(x1++x2)++x3:=by simp[cat]
 have h:=XG (spt b) 3 [⟨a1,l1,c1,x1⟩,⟨a2,l2,c2,x2⟩,⟨a3,l3,c3,x3⟩] sm (by show (cat [⟨a1,l1,c1,x1⟩,⟨a2,l2,c2,x2⟩,⟨a3,l3,c3,x3⟩] 3).length<=_;rw[e];simp only[List.length_append];omega) w hw ⟨CellsAt.range hr,λp hp=>by
  simp only[List.mem_cons,List.not_mem_nil,or_false]at hp;rcases hp with rfl|rfl|rfl
  ·exact ⟨e1,h1,b1⟩
  ·exact ⟨e2,h2,b2⟩
  ·exact ⟨e3,h3,b3⟩⟩
 rw[<-e];exact h
theorem Wt(b:Nat)(a1:Option Addr)(l1 c1:Nat)(x1:L8)(a2:Option Addr)(l2 c2:Nat)(x2:L8)(a3:Option Addr)(l3 c3:Nat)(x3:L8)(a4:Option Addr)(l4 c4:Nat)(x4:L8)(w:World)(hw:Gt w)(hr:w.rangeAt b 0 [.slice a1 l1 c1,.slice a2 l2 c2,.slice a3 l3 c3,.slice a4 l4 c4])(e1:x1.length=l1)(h1:l1<=c1)(b1:BytesAt w a1 x1)(e2:x2.length=l2)(h2:l2<=c2)(b2:BytesAt w a2 x2)(e3:x3.length=l3)(h3:l3<=c3)(b3:BytesAt w a3 x3)(e4:x4.length=l4)(h4:l4<=c4)(b4:BytesAt w a4 x4)(hl:l1+l2+l3+l4<=1000000):CLS 239 [.slice (spt b) 4 4].toArray w (λe w'=>e=.returned (.agg ((Sh.SHA (((x1++x2)++x3)++x4)).map U8).toArray)/\Grow w w'):=by
 have e:cat [⟨a1,l1,c1,x1⟩,⟨a2,l2,c2,x2⟩,⟨a3,l3,c3,x3⟩,⟨a4,l4,c4,x4⟩] 4=((x1++x2)++x3)++x4:=by simp[cat]
 have h:=XG (spt b) 4 [⟨a1,l1,c1,x1⟩,⟨a2,l2,c2,x2⟩,⟨a3,l3,c3,x3⟩,⟨a4,l4,c4,x4⟩] sm (by show (cat [⟨a1,l1,c1,x1⟩,⟨a2,l2,c2,x2⟩,⟨a3,l3,c3,x3⟩,⟨a4,l4,c4,x4⟩] 4).length<=_;rw[e];simp only[List.length_append];omega) w hw ⟨CellsAt.range hr,λp hp=>by
  simp only[List.mem_cons,List.not_mem_nil,or_false]at hp;rcases hp with rfl|rfl|rfl|rfl
  ·exact ⟨e1,h1,b1⟩
  ·exact ⟨e2,h2,b2⟩
  ·exact ⟨e3,h3,b3⟩
  ·exact ⟨e4,h4,b4⟩⟩
 rw[<-e];exact h
theorem Wm(a:Option Addr)(m:Nat):(if m=0 then a else a.map (·.add (0*1)))=a:=by
 cases a with
 |none=>simp
 |some ad=>simp[Addr.add]
def TgV(dst:L8)(w:World)(v:Value):Prop:= ∃a cap,v=.slice a (D dst).length cap/\BytesAt w a (D dst)/\(D dst).length<=cap
theorem ptag(a:Option Addr)(cap:Nat)(dst:L8)(hc:dst.length<=cap)(hl:dst.length<=100000)(w:World)(hw:Gt w)(hb:BytesAt w a dst):CLS 238 [.slice a dst.length cap].toArray w (λe w'=> ∃v,e=.returned v/\Grow w w'/\TgV dst w' v):=by
 refine Hf func238 O hw<|λhGF=>Xp<|Asg O<|aa<|Xp<|Mv O<|Mv O<|bf O (λ_=>aG underlying22 _ _ _ _) O O<|Mv O<|bf O (λ_=>aG underlying22 _ _ _ _) O O<|gh (l:=0) (h':=dst.length) (m:=dst.length) O underlying22 sizeOf5 O O O ⟨Nat.zero_le _,Nat.le_refl _,hc⟩ O O<|?_;rw[Wm,Nat.sub_zero];refine Mv O<|bf O (λ_=>aG underlying22 _ _ _ _) O O<|bX O O (λ_=>fq underlying3 underlying5 _) O O<|dU 12 [BitVec.ofInt 8 (dst.length:Int)] hGF O O O dc dc underlying22 sizeOf5 zeroValue5 O O<|?_;intro b12;refine y0 (xs:=dst) (ys:=[BitVec.ofInt 8 (dst.length:Int)]) 13 hGF O O underlying22 underlying22 ti5 (λw' h=>hb.grow (ac h)) (λw' h=>BytesAt.range (aJ (n:=12) O w' h)) (by simp;omega) sm O O (λb13 c13 cap13 e13 l13 t13=> ?_)
 subst e13;refine Asg O<|aa<|am<|Rr<|?_;exact aF O O (λw hw=>⟨_,rfl,ac hw,_,_,rfl,pn (hw.own 13 b13 _ _ O).1.range t13,l13⟩)
theorem pq(l:L8)(i j:Nat)(v:BitVec 8):(l.set i v).getD j 0=if i=j/\j<l.length then v else l.getD j 0:=by
 simp only[List.getD_eq_getElem?_getD,List.getElem?_set];by_cases h:i=j
 ·subst h
  by_cases h2:i<l.length
  ·simp[h2]
  ·simp[h2]
 ·simp[h]
theorem HB(b l:L8): ∀(j i:Nat),j<=i->(R b l j).getD i 0=b.getD i 0
 |0,_,_=>rfl
 |j+1,i,h=>by rw[R,pq,if_neg om,HB b l j i om]
theorem Tj(b l:L8)(j:Nat):(R b l j).set j ((R b l j).getD j 0^^^l.getD j 0)=R b l (j+1):=by rw[R,HB b l j j (Nat.le_refl _)]
theorem qZ(l:L8)(j:Nat):l.set j (l.getD j 0)=l:=by
 refine List.ext_getElem? λi=> ?_;rw[List.getElem?_set];by_cases h:j=i
 ·subst h
  by_cases h2:j<l.length
  ·simp[h2]
  ·simp[h2]
 ·simp[h]
theorem DI(b:L8): ∀j,R b (List.replicate 32 0#8) j=b
 |0=>rfl
 |j+1=>by
  rw[R,DI b j,show (List.replicate 32 0#8).getD j 0=0#8 by rw[List.getD_eq_getElem?_getD,List.getElem?_replicate];split<;>rfl,BitVec.xor_zero,qZ]
theorem YR(b d:L8)(k:Nat):R b (Xk b d k) 32=X16 b (Xk b d k) k:=by
 unfold X16;split
 ·next h=>subst h;exact DI b 32
 ·rfl
theorem Js(b d:L8)(k:Nat):Sh.SHA ((R b (Xk b d k) 32++[BitVec.ofInt 8 ((k+1:Nat):Int)])++d)=Xk b d (k+1):=by rw[YR,Xk];rfl
attribute [local simp] kq
theorem DD(x l:L8)(hx:x.length=32)(hl:l.length=32):PUR 266 [.agg (x.map U8).toArray,.agg (l.map U8).toArray] (.agg ((R x l 32).map U8).toArray):=by
 intro w hw;refine Hf func266 O hw<|λhGF=>Xp<|Bx 2 hGF O<|λb2=>Bx 3 hGF O<|λb3=>Al 4 hGF zv98<|λb4=>aa<|ah<|Xp<|Mv O<|aa<|ai<|bH (ι:={j:Nat // j<=32}) (λy=>[(2,pnt b2),(3,pnt b3),(4,pnt b4),(6,I (y.1:Int))]) (λy=>[(2,b2,(R x l y.1).map U8,98),(3,b3,l.map U8,98),(4,b4,(List.replicate 32 0#8).map U8,98)]) (λy=>32-y.1) ⟨0,om⟩ hGF trv trv<|?_;rintro ⟨j,hj⟩;dsimp only;refine Xp<|Bnr O O (λ_=>aw _ _ _)<|aa<|ah<|?_;refine bD O (λhc=> ?_) (λhc=> ?_)
 ·simp only[decide_eq_true_eq]at hc
  refine aq<|ah<|ai<|Xp<|Mv O<|Asg O<|aa<|Xe []<|Mv O<|Ia (j) O O underlying98 sizeOf5<|Lm 2 U8 0 O O isAgg5 (by first|omega|(simp;omega))<|Mv O<|Ia (j) O O underlying98 sizeOf5<|Lm 3 U8 0 O O isAgg5 (by first|omega|(simp;omega))<|Bnr O O (λ_=>pi _ _ _)<|Ia (j) O O underlying98 sizeOf5<|aY 2 U8 hGF O O O sizeOf5 O (by first|omega|(simp;omega)) O<|aa<|Xq<|Bnr O O (λ_=>au _ _ _ oi)<|Mv O<|aa<|?_
  repeat (refine aO ?_)
  exact aC<|⟨rfl,⟨j+1,om⟩,_,by show 32-(j+1)<32-j;omega,rfl,trv,⟨by rw[<-Tj];rfl,rfl,rfl,trivial⟩⟩
 ·obtain rfl:j=32:=by simp at hc;omega
  refine aV<|Xp<|bV 2 O O isAgg98 sizeOf98 (by simp[hx]) O O<|aA 4 hGF O O O sizeOf98 (by simp[hx]) sm (bZ _) O<|aa<|am<|Rr<|?_
  exact av 4 O O O isAgg98 sizeOf98 (by simp[hx]) (λw hw=>⟨rfl,ac hw⟩)
end Xm
end
section
open Go.RowKit
namespace Xm
attribute [local simp] Sh.gH kX qi kq fA ge Sh.ce ko
attribute [local simp] ug kq
theorem zvS(w:World):(zeroValue 22).run prog w=.ok (.slice none 0 0) w:=zeroValue22 w
theorem Us(n:Nat)(hn:n<=8160)(t:TypeId)(w:World):(binOp .quo t (I ((n:Int)+32-1)) (I 32)).run prog w=.ok (I ((((n+31) / 32):Nat):Int)) w:=by
 have e:((n:Int)+32-1).tdiv 32=((((n+31) / 32):Nat):Int):=by
  rw[Int.tdiv_eq_ediv_of_nonneg om];omega
 rw[<-e];exact fo t _ _ dc (by rw[e];unfold inI;omega)
structure LtV(b d:L8)(m:Nat) where
 (k bb:Nat) (c:List Value) (cap:Nat)
 hk:k<=m
 hcap:c.length=cap
 hle:(Ozz b d k).length<=cap
 ht:c.take (Ozz b d k).length=(Ozz b d k).map U8
def SrV(b d:L8)(n:Nat)(w:World)(v:Value):Prop:= ∃a,v=.slice a n n/\BytesAt w a ((Ozz b d ((n+31) / 32)).take n)
theorem H4(b d:L8)(hb:b.length=32)(a:Option Addr)(cap0:Nat)(n:Nat)(hn:n<=8160)(hd:d.length<=1000)(hc0:d.length<=cap0)(w:World)(hw:Gt w)(hby:BytesAt w a d):CLS 240 [.agg (b.map U8).toArray,.slice a d.length cap0,I (n:Int)].toArray w (λe w'=> ∃v,e=.returned v/\Grow w w'/\SrV b d n w' v):=by
 refine Hf func240 O hw<|λhGF=>Xp<|Bx 3 hGF O<|λb3=>Asg O<|aa<|Xp<|Mv O<|Bnr O O (λ_=>au _ _ _ oi)<|Bnr O O (λ_=>aW _ _ _ oi)<|cu (v:=I ((((n+31) / 32):Nat):Int)) O O (λ_=>rfl) (λw=>Us n hn _ w) O O<|Asg O<|aa<|Xp<|Mv O<|cu (v:=I ((((n+31) / 32)*32:Nat):Int)) O O (λ_=>rfl) (λ_=>(bx _ _ _ oi).trans rr) O O<|v3 (l:=0) (m:=((n+31) / 32)*32) (c:=(List.replicate (((n+31) / 32)*32) 0#8).map U8) 18 hGF O O (Nat.zero_le _) underlying22 ti5 ⟨om,om,om⟩ (by rw[Nat.mul_one];exact VH _) O O<|λb18=>Asg O<|aa<|Xp<|Al 9 hGF zv98<|λb9=>aa<|ah<|Xp<|Mv O<|Mv O<|aa<|ai<|bH (ι:=LtV b d ((n+31) / 32)) (λz=>[(1,.slice a d.length cap0),(2,I (n:Int)),(3,pnt b3),(8,.slice (spt z.bb) (Ozz b d z.k).length z.cap),(9,pnt b9),(19,I (((n+31) / 32):Nat)),(20,I (z.k:Int))]) (λz=>[(3,b3,b.map U8,98),(9,b9,(Xk b d z.k).map U8,98),(18,z.bb,z.c,5)]) (λz=>((n+31) / 32)-z.k) ⟨0,b18,_,((n+31) / 32)*32,Nat.zero_le _,sm,Nat.zero_le _,rfl⟩ hGF ⟨rfl,rfl,rfl,rfl,rfl,rfl,rfl,trivial⟩ ⟨rfl,rfl,rfl,trivial⟩<|?_
 rintro ⟨k,bb,c,cap,hk,hcap,hle,ht⟩;dsimp only;have hx:(Xk b d k).length=32:=fA _ _ _;refine Xp<|Bnr O O (λ_=>aw _ _ _)<|aa<|ah<|?_;refine bD O (λhc=> ?_) (λhc=> ?_)
 ·have hlt:k<((n+31) / 32):=by simp at hc;omega
  clear hc;refine aq<|ah<|ai<|Xp<|Mv O<|Asg O<|aa<|Xp<|bV 3 O O isAgg98 sizeOf98 (by simp[hb]) O O<|La 9 O O vd<|Ca O (DD b (Xk b d k) hb (fA _ _ _))<|Al 11 hGF zv98<|λb11=>aA 11 hGF O O O sizeOf98 (by simp[hb]) sm (bZ _) O<|aa<|Xp<|bQ (l:=0) (h':=32) O underlying98 sizeOf5 O O om om O O<|Mv O<|Bnr (v:=I ((k+1:Nat):Int)) O O (λ_=>(au _ _ _ oi).trans rr)<|bX O O (λ_=>fq underlying3 underlying5 _) O O<|dU 30 [BitVec.ofInt 8 ((k+1:Nat):Int)] hGF O O O dc dc underlying22 sizeOf5 zeroValue5 O O<|λb30=>Mv O<|u1 32 [.slice (spt b11) 32 32,.slice (spt b30) 1 1,.slice a d.length cap0] hGF O O O dc dc underlying288 sizeOf22 zvS O O O<|λb32=>Cc O ent239 (λw' hC hG=>Uo b32 (spt b11) 32 32 (R b (Xk b d k) 32) (spt b30) 1 1 [BitVec.ofInt 8 ((k+1:Nat):Int)] a d.length cap0 d w' hG (aJ (n:=32) O w' hC) (by rw[kq,hb]) (Nat.le_refl _) (BytesAt.range (aJ (n:=11) O w' hC)) O (Nat.le_refl _) (BytesAt.range (aJ (n:=30) O w' hC)) O hc0 (hby.grow (ac hC)) om)<|?_
  rw[show Sh.SHA (((R b (Xk b d k) 32)++[BitVec.ofInt 8 ((k+1:Nat):Int)])++d)=Xk b d (k+1)from Js b d k];refine aA 9 hGF O O O sizeOf98 sm sm (bZ _) O<|aa<|Xq<|Mv O<|bQ (l:=0) (h':=32) O underlying98 sizeOf5 O O om om O O<|?_;refine cq (xs:=Ozz b d k) (ys:=Xk b d (k+1)) 18 hGF O (by rw[fA];rfl) underlying22 underlying22 ti5 (.inr ⟨bb,c,rfl,rfl,hcap,hle,ht⟩) (λw' h=>BytesAt.range (aJ (n:=9) O w' h)) (by rw[ge,fA];omega) O O (λh0=> ?_) (λb36 c36 cap36 e36 l36 t36=> ?_)
  ·exact (yE (fA _ _ _) h0).elim
  subst e36;refine Asg O<|aa<|Xq<|Bnr (v:=I ((k+1:Nat):Int)) O O (λ_=>(au _ _ _ oi).trans rr)<|Mv O<|aa<|?_
  repeat (first|refine aO ?_|refine cm ?_)
  exact aC<|⟨rfl,⟨k+1,b36,c36,c36.length,om,rfl,l36,t36⟩,_,by show ((n+31) / 32)-(k+1)<((n+31) / 32)-k;omega,rfl,trv,trv⟩
 ·have hke:k=((n+31) / 32):=by simp at hc;omega
  clear hc;refine aV<|Xp<|Mv O<|Mv O<|Mv O<|gh (l:=0) (h':=n) (m:=n) O underlying22 sizeOf5 O O O ⟨Nat.zero_le _,Nat.le_refl _,by rw[ge]at hle;omega⟩ O O<|?_
  rw[Wm,Nat.sub_zero];refine Asg O<|aa<|am<|Rr<|?_;subst hke;have e:(List.take n (Ozz b d ((n+31) / 32))).length=n:=by rw[List.length_take,ge];omega
  exact aF O O (λw hw=>⟨_,rfl,ac hw,_,rfl,pn (hw.own 18 bb _ _ O).1.range (by rw[e];exact u7 ht (by rw[ge];omega))⟩)
theorem px_0(a1:Option Addr)(cap1:Nat)(msg:L8)(a2:Option Addr)(cap2:Nat)(dst:L8)(z:Int)(h:z<0)(w:World)(hw:Gt w):CLS 205 [.slice a1 msg.length cap1,.slice a2 dst.length cap2,I z].toArray w (λe w'=>e=.returned (.tuple #[.slice none 0 0,I 130])/\Grow w w'):=by
 refine Hf func205 O hw<|λhGF=>Xp<|Asg O<|Asg O<|aa<|ah<|Xp<|Mv O<|Bnb true O O (λ_=>aw _ _ _) (decide_eq_true om)<|Mv O<|Sk<|Sk<|Pk O O O<|Mv O<|Sk<|Sk<|Sk<|Pk O O O<|Mv O<|Sk<|Sk<|Sk<|Pk O O O<|aa<|aT O<|Xp<|Asg O<|Asg O<|aa<|am<|Rr<|?_;exact ch O O O (λw hw=>⟨rfl,ac hw⟩)
theorem px_1(a1:Option Addr)(cap1:Nat)(msg:L8)(a2:Option Addr)(cap2:Nat)(dst:L8)(z:Int)(h:8160<z)(w:World)(hw:Gt w):CLS 205 [.slice a1 msg.length cap1,.slice a2 dst.length cap2,I z].toArray w (λe w'=>e=.returned (.tuple #[.slice none 0 0,I 130])/\Grow w w'):=by
 refine Hf func205 O hw<|λhGF=>Xp<|Asg O<|Asg O<|aa<|ah<|Xp<|Mv O<|Bnb false O O (λ_=>aw _ _ _) (decide_eq_false om)<|Mv O<|Mv O<|Bnb true O O (λ_=>ba _ _ _) (decide_eq_true om)<|Pk O O O<|Mv O<|Sk<|Sk<|Sk<|Pk O O O<|Mv O<|Sk<|Sk<|Sk<|Pk O O O<|aa<|aT O<|Xp<|Asg O<|Asg O<|aa<|am<|Rr<|?_;exact ch O O O (λw hw=>⟨rfl,ac hw⟩)
theorem px_2(a1:Option Addr)(cap1:Nat)(msg:L8)(a2:Option Addr)(cap2:Nat)(dst:L8)(z:Int)(h0: ¬z<0)(h1: ¬8160<z)(h:255<dst.length)(w:World)(hw:Gt w):CLS 205 [.slice a1 msg.length cap1,.slice a2 dst.length cap2,I z].toArray w (λe w'=>e=.returned (.tuple #[.slice none 0 0,I 130])/\Grow w w'):=by
 refine Hf func205 O hw<|λhGF=>Xp<|Asg O<|Asg O<|aa<|ah<|Xp<|Mv O<|Bnb false O O (λ_=>aw _ _ _) (decide_eq_false om)<|Mv O<|Mv O<|Bnb false O O (λ_=>ba _ _ _) (decide_eq_false om)<|Pk O O O<|Mv O<|Mv O<|bf O (λ_=>aG underlying22 _ _ _ _) O O<|Bnb true O O (λ_=>ba _ _ _) (decide_eq_true om)<|Pk O O O<|Mv O<|Sk<|Sk<|Sk<|Pk O O O<|aa<|aT O<|Xp<|Asg O<|Asg O<|aa<|am<|Rr<|?_;exact ch O O O (λw hw=>⟨rfl,ac hw⟩)
theorem px_3(a1:Option Addr)(cap1:Nat)(msg:L8)(a2:Option Addr)(cap2:Nat)(dst:L8)(z:Int)(h0: ¬z<0)(h1: ¬8160<z)(h2: ¬255<dst.length)(h:65536<msg.length)(w:World)(hw:Gt w):CLS 205 [.slice a1 msg.length cap1,.slice a2 dst.length cap2,I z].toArray w (λe w'=>e=.returned (.tuple #[.slice none 0 0,I 130])/\Grow w w'):=by
 refine Hf func205 O hw<|λhGF=>Xp<|Asg O<|Asg O<|aa<|ah<|Xp<|Mv O<|Bnb false O O (λ_=>aw _ _ _) (decide_eq_false om)<|Mv O<|Mv O<|Bnb false O O (λ_=>ba _ _ _) (decide_eq_false om)<|Pk O O O<|Mv O<|Mv O<|bf O (λ_=>aG underlying22 _ _ _ _) O O<|Bnb false O O (λ_=>ba _ _ _) (decide_eq_false om)<|Pk O O O<|Mv O<|Mv O<|bf O (λ_=>aG underlying22 _ _ _ _) O O<|Bnb true O O (λ_=>ba _ _ _) (decide_eq_true om)<|Pk O O O<|aa<|aT O<|Xp<|Asg O<|Asg O<|aa<|am<|Rr<|?_;exact ch O O O (λw hw=>⟨rfl,ac hw⟩)
theorem Vy(a1:Option Addr)(cap1:Nat)(msg:L8)(a2:Option Addr)(cap2:Nat)(dst:L8)(n:Nat)(hc1:msg.length<=cap1)(hc2:dst.length<=cap2)(hn:n<=8160)(hd:dst.length<=255)(hm:msg.length<=65536)(w:World)(hw:Gt w)(hb1:BytesAt w a1 msg)(hb2:BytesAt w a2 dst):CLS 205 [.slice a1 msg.length cap1,.slice a2 dst.length cap2,I (n:Int)].toArray w (λe w'=> ∃v,e=.returned v/\Grow w w'/\∃a cap,v=.tuple #[.slice a (E msg dst n).length cap,I 0]/\BytesAt w' a (E msg dst n)/\(E msg dst n).length<=cap):=by
 have hGF:BOk Gt (pl w):=gt_low.plain hw;have hgw:Grow w w:=Grow.refl w;refine Hd func205 O hGF<|ae (E:=EE [238,240])<|Asg O<|Asg O<|aa<|ah<|ae (E:=EE [238,240])<|Mv O<|Bnb false O O (λ_=>aw _ _ _) (decide_eq_false om)<|Mv O<|Mv O<|Bnb false O O (λ_=>ba _ _ _) (decide_eq_false om)<|Pk O O O<|Mv O<|Mv O<|bf O (λ_=>aG underlying22 _ _ _ _) O O<|Bnb false O O (λ_=>ba _ _ _) (decide_eq_false om)<|Pk O O O<|Mv O<|Mv O<|bf O (λ_=>aG underlying22 _ _ _ _) O O<|Bnb false O O (λ_=>ba _ _ _) (decide_eq_false om)<|Pk O O O<|aa<|aD O<|aq<|ae (E:=EE [238,240])<|Mv O<|?_;refine jB O O ent238 O O gt_low (az hGF) (λw' hC hG=>ptag a2 cap2 dst hc2 om w' hG (hb2.grow (hgw.trans (ac hC)))) (λw0 w1 v h0 hg hG1 hq=> ?_);replace hgw:=hgw.trans ((ac h0).trans hg);clear h0 hg hGF;have hGF:BOk Gt (pl w1):=gt_low.plain hG1;obtain ⟨ta,tc,rfl,hta,htc⟩:=hq;refine Asg O<|aa<|ae (E:=EE [238,240])<|oQ 28 hGF O O underlying22 ti5.choose_spec.1 ti5.choose_spec.2.1 (hmk 64 dc) (hmc 64 ti5.choose_spec WX) O O<|λb28=>Mv O<|Mv O<|Bnr O O (λ_=>vr _ _)<|bX O O (λ_=>fq underlying3 underlying5 _) O O<|Mv O<|bX O O (λ_=>fq underlying3 underlying5 _) O O<|dU 35 [BitVec.ofInt 8 ((n / 256:Nat):Int),BitVec.ofInt 8 (n:Int),0#8] hGF O O O dc dc underlying22 sizeOf5 zeroValue5 O O<|λb35=>Mv O<|u1 37 [.slice (spt b28) 64 64,.slice a1 msg.length cap1,.slice (spt b35) 3 3,.slice ta (D dst).length tc] hGF O O O dc dc underlying288 sizeOf22 zvS O O O<|λb37=>Cc O ent239 (λw' hC hG=>Wt b37 (spt b28) 64 64 (List.replicate 64 0#8) a1 msg.length cap1 msg (spt b35) 3 3 [BitVec.ofInt 8 ((n / 256:Nat):Int),BitVec.ofInt 8 (n:Int),0#8] ta (D dst).length tc (D dst) w' hG (aJ (n:=37) O w' hC) O (Nat.le_refl _) (BytesAt.range (aJ (n:=28) O w' hC)) O hc1 (hb1.grow (hgw.trans (ac hC))) O (Nat.le_refl _) (BytesAt.range (aJ (n:=35) O w' hC)) O htc (hta.grow (ac hC)) (by rw[ko];omega))<|?_
 rw[show Sh.SHA ((((List.replicate 64 0#8)++msg)++[BitVec.ofInt 8 ((n / 256:Nat):Int),BitVec.ofInt 8 (n:Int),0#8])++D dst)=B0 msg dst n from O];refine Al 9 hGF zv98<|λb9=>aA 9 hGF O O O sizeOf98 sm sm (bZ _) O<|aa<|ae (E:=EE [238,240])<|La 9 O O vd<|Mv O<|Mv O<|?_;refine jB O O ent240 O O gt_low (az hGF) (λw' hC hG=>H4 (B0 msg dst n) (D dst) (kX _ _ _) ta tc n hn (by rw[ko];omega) htc w' hG (hta.grow (ac hC))) (λw0 w1 v h0 hg hG1 hq=> ?_)
 replace hgw:=hgw.trans ((ac h0).trans hg);clear h0 hg hGF;have hGF:BOk Gt (pl w1):=gt_low.plain hG1;obtain ⟨sa,rfl,hsa⟩:=hq;refine Asg O<|Asg O<|aa<|am<|Rr<|?_;exact ch O O O (λw hw=>⟨_,rfl,hgw.trans (ac hw),sa,n,by rw[kh];rfl,hsa.grow (ac hw),by rw[kh];exact Nat.le_refl _⟩)
theorem pxc:PXC:=by
 intro a1 cap1 msg a2 cap2 dst z w _ hc1 _ hc2 hw hb1 hb2;have err:Bad msg dst z->∀{e:Ending} {w':World},e=.returned (.tuple #[.slice none 0 0,I 130])/\Grow w w'->∃v,e=.returned v/\Grow w w'/\RT msg dst z w' v:=λhb _ _ h=>⟨_,h.1,h.2,λ_=>rfl,λhn=>absurd hb hn⟩;by_cases h0:z<0
 ·exact (px_0 a1 cap1 msg a2 cap2 dst z h0 w hw).mono λ_ _ h=>err (.inl h0) h
 by_cases h1:8160<z
 ·exact (px_1 a1 cap1 msg a2 cap2 dst z h1 w hw).mono λ_ _ h=>err (.inr (.inl h1)) h
 by_cases h2:255<dst.length
 ·exact (px_2 a1 cap1 msg a2 cap2 dst z h0 h1 h2 w hw).mono λ_ _ h=>err (.inr (.inr (.inl h2))) h
 by_cases h3:65536<msg.length
 ·exact (px_3 a1 cap1 msg a2 cap2 dst z h0 h1 h2 h3 w hw).mono λ_ _ h=>err (.inr (.inr (.inr h3))) h
 obtain ⟨n,rfl⟩: ∃n:Nat,z=(n:Int):=⟨z.toNat,om⟩;refine (Vy a1 cap1 msg a2 cap2 dst n hc1 hc2 om om om w hw hb1 hb2).mono λe w' ⟨v,he,hg,hc⟩=>⟨_,he,hg,λhb=>absurd hb ?_,λ_=>hc⟩;rintro (h|h|h|h)<;>omega
end Xm
end
section
open Go.RowKit
attribute [local simp] a6 bj aH aB aP aZ aQ aI aM be bz a5 bv List.length_append gg cJ
theorem ent206:ak prog 206:=λ_ _=>kr
namespace Xm
attribute [local simp] Sh.gH kX qi kq fA ge Sh.ce ko
attribute [local simp] N2r_len
theorem tiQ:TI prog 78 (aL (List.replicate 12 (0#64))) 12 96:=sP kr
theorem Vk(e:Option Addr)(len cap:Nat)(bs:L8)(hb:bs.length=len)(hlen:len<=1000)(hc:len<=cap)(w:World)(hw:Gt w)(hby:BytesAt w e bs):CLS 241 [.slice e len cap].toArray w (λr w'=>r=.returned (EV (ZB bs))/\Grow w w'):=by
 subst hb;exact u6 e cap bs om hc w hw hby
theorem cut3{w:World}{a:Option Addr}{rs:L8}(h:BytesAt w a rs)(l k m:Nat)(hm:m≠l):BytesAt w (if m=l then a else a.map (·.add (l*1))) ((rs.drop l).take k):=by
 have h2:=h.cut (cap:=rs.length+l+1) l k om;rw[if_neg om]at h2;rw[if_neg hm];exact h2
theorem A6(a:Option Addr)(len cap:Nat)(bs:L8)(hlen:bs.length=len)(hc:len<=cap)(i:Nat)(hi:64*i+64<=len)(hl:len<=100000)(w:World)(hw:Gt w)(hb:BytesAt w a bs):CLS 206 [.slice a len cap,I (i:Int)].toArray w (λe w'=>e=.returned (EV (ZB ((bs.drop (64*i)).take 64)))/\Grow w w'):=by
 refine Hf func206 O hw<|λhGF=>Xp<|Al 4 hGF zf52<|λb4=>aa<|Xp<|Mv O<|Bnr (v:=I ((64*i:Nat):Int)) O O (λ_=>(bx _ _ _ oi).trans (by rw[show (64:Int)*(i:Int)=((64*i:Nat):Int) by omega]))<|Mv O<|Bnr (v:=I ((i+1:Nat):Int)) O O (λ_=>(au _ _ _ oi).trans rr)<|Bnr (v:=I ((64*i+64:Nat):Int)) O O (λ_=>(bx _ _ _ oi).trans (by rw[show (64:Int)*((i+1:Nat):Int)=((64*i+64:Nat):Int) by omega]))<|Asg O<|Asg O<|aa<|Xp<|Mv O<|Mv O<|Mv O<|Mv O<|gh (l:=64*i) (h':=64*i+64) (m:=64*i+64) O underlying22 sizeOf5 O O O ⟨om,Nat.le_refl _,om⟩ O O<|Cc O ent241 (λw' hC hG=>Vk _ _ _ ((bs.drop (64*i)).take 64) (by rw[List.length_take,List.length_drop,hlen];omega) om (Nat.le_refl _) w' hG (BytesAt.grow (cut3 hb (64*i) 64 _ om) (ac hC)))<|Sa 4 hGF O O O bN<|aa<|am<|Rr<|?_
 exact av 4 O O O isAgg52 sizeOf52 sm (λw hw=>⟨rfl,ac hw⟩)
theorem pf_0(a1:Option Addr)(cap1:Nat)(msg:L8)(a2:Option Addr)(cap2:Nat)(dst:L8) (z:Int)(h:z<0)(w:World)(hw:Gt w):CLS 171 [.slice a1 msg.length cap1,.slice a2 dst.length cap2,I z].toArray w (λe w'=>e=.returned (.tuple #[.slice none 0 0,I 130])/\Grow w w'):=by
 refine Hf func171 O hw<|λhGF=>ae (E:=EE [205])<|Asg O<|Asg O<|aa<|ah<|ae (E:=EE [205])<|Mv O<|Bnb true O O (λ_=>aw _ _ _) (decide_eq_true om)<|Mv O<|Sk<|Sk<|Pk O O O<|aa<|aT O<|ae (E:=EE [205])<|Asg O<|Asg O<|aa<|am<|Rr<|?_;exact ch O O O (λw hw=>⟨rfl,ac hw⟩)
theorem pf_1(a1:Option Addr)(cap1:Nat)(msg:L8)(a2:Option Addr)(cap2:Nat)(dst:L8) (z:Int)(h:32<z)(w:World)(hw:Gt w):CLS 171 [.slice a1 msg.length cap1,.slice a2 dst.length cap2,I z].toArray w (λe w'=>e=.returned (.tuple #[.slice none 0 0,I 130])/\Grow w w'):=by
 refine Hf func171 O hw<|λhGF=>ae (E:=EE [205])<|Asg O<|Asg O<|aa<|ah<|ae (E:=EE [205])<|Mv O<|Bnb false O O (λ_=>aw _ _ _) (decide_eq_false om)<|Mv O<|Mv O<|Bnb true O O (λ_=>ba _ _ _) (decide_eq_true om)<|Pk O O O<|aa<|aT O<|ae (E:=EE [205])<|Asg O<|Asg O<|aa<|am<|Rr<|?_;exact ch O O O (λw hw=>⟨rfl,ac hw⟩)
theorem pf_2(a1:Option Addr)(cap1:Nat)(msg:L8)(a2:Option Addr)(cap2:Nat)(dst:L8)(hc1:msg.length<=cap1)(hc2:dst.length<=cap2)(hl1:msg.length<=100000)(hl2:dst.length<=100000)(z:Int)(h0: ¬z<0)(h1: ¬32<z)(hl:255<dst.length\/65536<msg.length)(w:World)(hw:Gt w)(hb1:BytesAt w a1 msg)(hb2:BytesAt w a2 dst):CLS 171 [.slice a1 msg.length cap1,.slice a2 dst.length cap2,I z].toArray w (λe w'=>e=.returned (.tuple #[.slice none 0 0,I 130])/\Grow w w'):=by
 have hGF:BOk Gt (pl w):=gt_low.plain hw;have hgw:Grow w w:=Grow.refl w;refine Hd func171 O hGF<|ae (E:=EE [205])<|Asg O<|Asg O<|aa<|ah<|ae (E:=EE [205])<|Mv O<|Bnb false O O (λ_=>aw _ _ _) (decide_eq_false om)<|Mv O<|Mv O<|Bnb false O O (λ_=>ba _ _ _) (decide_eq_false om)<|Pk O O O<|aa<|aD O<|aq<|ae (E:=EE [205])<|Mv O<|Mv O<|Mv O<|Bnr O O (λ_=>bx _ _ _ oi)<|?_;refine jB O O ent205 O O gt_low (az hGF) (λw' hC hG=>pxc a1 cap1 msg a2 cap2 dst (128*z) w' om hc1 om hc2 hG (hb1.grow (hgw.trans (ac hC))) (hb2.grow (hgw.trans (ac hC)))) (λw0 w1 v h0 hg hG1 hq=> ?_);replace hgw:=hgw.trans ((ac h0).trans hg);clear h0 hg hGF;have hGF:BOk Gt (pl w1):=gt_low.plain hG1;obtain rfl:=hq.bad (hl.elim (λh=>.inr (.inr (.inl h))) λh=>.inr (.inr (.inr h)));refine Mv O<|Ext O O<|Ext O O<|Asg O<|Asg O<|aa<|ah<|ae (E:=EE [205])<|Mv O<|Bnb true O O (λ_=>bC _ _ _) (rfl)<|aa<|aT O<|ae (E:=EE [205])<|Mv O<|Asg O<|Asg O<|aa<|am<|Rr<|?_;exact ch O O O (λw hw=>⟨rfl,hgw.trans (ac hw)⟩)
theorem Jr(f:Nat->L6)(z:L6)(n k:Nat)(hk:k<n)(hf:(f k).length=12):lay (0+12*k) ((f k).map U64) ((RW 12 (λi=>if i<k then f i else z) n).map U64)=(RW 12 (λi=>if i<k+1 then f i else z) n).map U64:=by
 rw[If _ n k (f k) hk hf _ om];congr 1;refine kK λi _=> ?_;by_cases h:i=k
 ·rw[if_pos h,if_pos om,h]
 ·rw[if_neg h]
  by_cases h2:i<k
  ·rw[if_pos h2,if_pos om]
  ·rw[if_neg h2,if_neg om]
theorem ON(bs:L8)(k:Nat):fe (ZB ((bs.drop (64*(2*k))).take 64))++fe (ZB ((bs.drop (64*(2*k+1))).take 64))=N2r bs k:=by
 rw[N2r,N2,show 64*(2*k)=128*k by omega,show 64*(2*k+1)=128*k+64 by omega]
theorem Wf(a1:Option Addr)(cap1:Nat)(msg:L8)(a2:Option Addr)(cap2:Nat)(dst:L8)(n:Nat)(hc1:msg.length<=cap1)(hc2:dst.length<=cap2)(hl1:msg.length<=100000)(hl2:dst.length<=100000)(hn:n<=32)(hd:dst.length<=255)(hm:msg.length<=65536)(w:World)(hw:Gt w)(hb1:BytesAt w a1 msg)(hb2:BytesAt w a2 dst):CLS 171 [.slice a1 msg.length cap1,.slice a2 dst.length cap2,I (n:Int)].toArray w (λe w'=> ∃a cap,e=.returned (.tuple #[.slice a n cap,I 0])/\Grow w w'/\At2 w w' a n (N2r (E msg dst (128*n)))):=by
 have hGF:BOk Gt (pl w):=gt_low.plain hw;have hgw:Grow w w:=Grow.refl w;refine Hd func171 O hGF<|ae (E:=EE [205])<|Asg O<|Asg O<|aa<|ah<|ae (E:=EE [205])<|Mv O<|Bnb false O O (λ_=>aw _ _ _) (decide_eq_false om)<|Mv O<|Mv O<|Bnb false O O (λ_=>ba _ _ _) (decide_eq_false om)<|Pk O O O<|aa<|aD O<|aq<|ae (E:=EE [205])<|Mv O<|Mv O<|Mv O<|Bnr O O (λ_=>bx _ _ _ oi)<|?_;refine jB O O ent205 O O gt_low (az hGF) (λw' hC hG=>pxc a1 cap1 msg a2 cap2 dst (128*(n:Int)) w' om hc1 om hc2 hG (hb1.grow (hgw.trans (ac hC))) (hb2.grow (hgw.trans (ac hC)))) (λw0 w1 v h0 hg hG1 hq=> ?_);replace hgw:=hgw.trans ((ac h0).trans hg);clear h0 hg hGF;have hGF:BOk Gt (pl w1):=gt_low.plain hG1;obtain ⟨xa,xc,rfl,hx,hle⟩:=hq.ok (by rintro (h|h|h|h)<;>omega)
 rw[show ((128:Int)*(n:Int)).toNat=128*n by omega]at*
 refine Mv O<|Ext O O<|Ext O O<|Asg O<|Asg O<|aa<|ah<|ae (E:=EE [205])<|Mv O<|Bnb false O O (λ_=>bC _ _ _) (rfl)<|aa<|aD O<|aq<|ae (E:=EE [205])<|Mv O<|v3 (l:=n) (m:=n) (c:=(RW 12 (λ_=>List.replicate 12 0#64) n).map U64) 30 hGF O O (Nat.le_refl _) underlying218 tiQ ⟨om,om,om⟩ (WR _ sm _) O O<|λb30=>Asg O<|aa<|ah<|ae (E:=EE [205])<|Mv O<|bf O (λ_=>aG underlying218 _ _ _ _) O O<|Mv O<|aa<|ai<|bH (ι:={k:Nat // k<=n}) (λz=>[(8,.slice xa (E msg dst (128*n)).length xc),(10,.slice (spt b30) n n),(32,I (n:Int)),(33,I (z.1:Int))]) (λz=>[(30,b30,(RW 12 (λi=>if i<z.1 then N2r (E msg dst (128*n)) i else List.replicate 12 0#64) n).map U64,78)]) (λz=>n-z.1) ⟨0,om⟩ hGF trv ⟨by rw[kK (s:=12) (g:=λ_=>List.replicate 12 0#64) (λi _=>if_neg (Nat.not_lt_zero i))];rfl,trivial⟩<|?_
 rintro ⟨k,hk⟩;dsimp only;refine ae (E:=EE [205])<|Bnr O O (λ_=>aw _ _ _)<|aa<|ah<|?_;refine bD O (λhc=> ?_) (λhc=> ?_)
 ·have hlt:k<n:=by simp at hc;omega
  clear hc;refine aq<|ah<|ai<|ae (E:=EE [205])<|Mv O<|Asg O<|aa<|bG (E:=EE [205])<|Mv O<|Mv O<|Mv O<|Mv O<|Bnr (v:=I ((2*k:Nat):Int)) O O (λ_=>(bx _ _ _ oi).trans (by rw[show (2:Int)*(k:Int)=((2*k:Nat):Int) by omega]))<|Cc O ent206 (λw' hC hG=>A6 xa _ xc (E msg dst (128*n)) O hle (2*k) (by rw[kh];omega) (by rw[kh];omega) w' hG (hx.grow (ac hC)))<|Mv O<|Mv O<|Bnr (v:=I ((2*k:Nat):Int)) O O (λ_=>(bx _ _ _ oi).trans (by rw[show (2:Int)*(k:Int)=((2*k:Nat):Int) by omega]))<|Bnr (v:=I ((2*k+1:Nat):Int)) O O (λ_=>(au _ _ _ oi).trans rr)<|Cc O ent206 (λw' hC hG=>A6 xa _ xc (E msg dst (128*n)) O hle (2*k+1) (by rw[kh];omega) (by rw[kh];omega) w' hG (hx.grow (ac hC)))<|co fS O O sm sm O O<|?_
  rw[ON];refine iQ (s:=12) k O O underlying218 sizeOf78 om om O O<|fV 30 hGF O O O sizeOf78 (by rw[List.length_map,N2r_len]) (bc _) (by rw[List.length_map,List.length_map,N2r_len,cJ];omega) O<|?_
  rw[Jr (N2r (E msg dst (128*n))) _ n k hlt (N2r_len _ _)];refine aa<|bG (E:=EE [205])<|Bnr (v:=I ((k+1:Nat):Int)) O O (λ_=>(au _ _ _ oi).trans rr)<|Mv O<|aa<|?_
  repeat (first|refine aO ?_|refine cm ?_)
  exact aC<|⟨rfl,⟨k+1,om⟩,_,by show n-(k+1)<n-k;omega,rfl,trv,trv⟩
 ·have hke:k=n:=by simp at hc;omega
  clear hc;subst hke;refine aV<|ae (E:=EE [205])<|Mv O<|Asg O<|Asg O<|aa<|am<|?_
  repeat (first|refine bJ ?_|refine bK ?_|refine eZ ?_)
  exact ch O O O (λw hw=>⟨_,_,rfl,hgw.trans (ac hw),.inr ⟨b30,rfl,(hw.own 30 b30 _ _ O).2.elim (λh=>Nat.le_trans hgw.size h) False.elim,by rw[<-kK (s:=12) (λi hi=>if_pos hi)];exact (hw.own 30 b30 _ _ O).1.range⟩⟩)
theorem pfc:PFC:=by
 intro a1 cap1 msg a2 cap2 dst z w hl1 hc1 hl2 hc2 hw hb1 hb2;have err:FBad msg dst z->∀{e:Ending} {w':World},e=.returned (.tuple #[.slice none 0 0,I 130])/\Grow w w'->∃v,e=.returned v/\Grow w w'/\RFt msg dst z w w' v:=λhb _ _ h=>⟨_,h.1,h.2,λ_=>rfl,λhn=>absurd hb hn⟩;by_cases h0:z<0
 ·exact (pf_0 a1 cap1 msg a2 cap2 dst z h0 w hw).mono λ_ _ h=>err (.inl h0) h
 by_cases h1:32<z
 ·exact (pf_1 a1 cap1 msg a2 cap2 dst z h1 w hw).mono λ_ _ h=>err (.inr (.inl h1)) h
 by_cases h2:255<dst.length\/65536<msg.length
 ·exact (pf_2 a1 cap1 msg a2 cap2 dst hc1 hc2 hl1 hl2 z h0 h1 h2 w hw hb1 hb2).mono λ_ _ h=>err (.inr (.inr h2)) h
 obtain ⟨n,rfl⟩: ∃n:Nat,z=(n:Int):=⟨z.toNat,om⟩;refine (Wf a1 cap1 msg a2 cap2 dst n hc1 hc2 hl1 hl2 om om om w hw hb1 hb2).mono λe w' ⟨a,cap,he,hg,hc⟩=>⟨_,he,hg,λhb=>absurd hb ?_,λ_=>⟨a,cap,rfl,hc⟩⟩;rintro (h|h|h|h)<;>omega
end Xm
end
section
open J2
open Go.RowKit
attribute [local simp] a6 bj aH aB aP aZ aQ aI aM be bz a5 bv bB cJ dz jP
theorem ent124:ak prog 124:=λ_ _=>kr
theorem ent172:ak prog 172:=λ_ _=>kr
theorem ent126:ak prog 126:=λ_ _=>kr
theorem QO  :PUR 79 [] (.string SUb):=by
 intro w hw;refine Hf func79 O hw<|λhGF=>Xp<|Asg O<|aa<|Xp<|Asg O<|aa<|am<|Rr<|?_;exact aF O O (λw hw=>⟨rfl,ac hw⟩)
theorem Yx(p q:GP)(hq:Jk p HBs=q)(b cap:Nat)(w:World)(hw:Gt w)(h:w.rangeAt b 0 (HBs.map U8)):CLS 173 [PtV p,.slice (spt b) HBs.length cap].toArray w (λr w'=>r=.returned (PtV q)/\Grow w w'):=by
 subst hq;exact Ui p _ cap HBs dc w hw (BytesAt.range h)
def gCl(p:GP):GP:=Jk p HBs
theorem OL(p:GP)(bs:L8):(Jk p bs).P=E2w.times p.P (BN bs bs.length):=rfl
theorem XL(p:GP):(gCl p).P=E2w.times p.P HEF:=by rw[gCl,OL,Nz]
theorem Rf(p:GP):PUR 125 [PtV p] (PtV (gCl p)):=by
 intro w hw;refine Hf func125 O hw<|λhGF=>ae (E:=EE [1000022])<|Bx 1 hGF O<|λb1=>Al 2 hGF zv80<|λb2=>aa<|ae (E:=EE [1000022])<|La 1 O O cn<|dU 4 HBs hGF O O O dc dc underlying22 sizeOf5 zeroValue5 O O<|λb4=>lR 4 O hGF O O underlying22 underlying5 O O<|Cc O ent173 (λw' hC hG=>Yx p (gCl p) O _ _ w' hG (aJ (n:=4) O w' hC))<|Sa 2 hGF O O O cn<|aa<|am<|Rr<|?_;exact av 2 O O O isAgg80 sizeOf80 sm (λw hw=>⟨rfl,ac hw⟩)
def PE2(f:Nat->W2):List (List Value):=(List.range 2).map λ(k:Nat)=>[EV2 (f k)]
theorem uE(f:Nat->W2):(PE2 f).length=2:=by rw[PE2,List.length_map,List.length_range]
theorem Bc(f:Nat->W2)(k:Nat)(h:k<2):(PE2 f)[k]? =some [EV2 (f k)]:=by
 rw[PE2,List.getElem?_map,List.getElem?_range h];rfl
theorem Rh(f:Nat->W2)(k:Nat)(v:List Value)(h:(PE2 f)[k]? =some v):k<2/\v=[EV2 (f k)]:=by
 have hk:k<2:=by
  rcases Nat.lt_or_ge k 2 with hk|hk
  ·exact hk
  ·rw[List.getElem?_eq_none (by rw[uE];exact hk)]at h;cases h
 exact ⟨hk,(Option.some.inj ((Bc f k hk).symm.trans h)).symm⟩
def RdE(bb b cap:Nat)(f:Nat->W2):Cls:=λw=>w.cell? ⟨bb,0,none⟩=some (.slice (spt b) 2 cap)/\w.rangeAt b 0 ((RW 12 (RPr f) 2).map U64)
theorem qV(bb b cap:Nat)(f:Nat->W2):fF prog Gt 172 [pnt bb] (PE2 f) (RdE bb b cap f):=by
 intro l J Jx hJ hJx hRd hGx hY w hj;have okJ: ∀k,BOk Gt (Bi w (λY=>J Y k)):=λk=>⟨λ_ _ _ h=>(hRd _ _ _ h.rid).1,hJ k⟩;have okX: ∀k,BOk Gt (Bi w (λY=>Jx Y k)):=λk=>⟨λ_ _ _ h=>hGx _ _ _ h.rid,hJx k⟩;have c1: ∀k L w',Hp (Bi w (λY=>J Y k)) L w'->RdE bb b cap f w':=λk L w' h=>(hRd _ _ _ h.rid).2;refine cv (G:=Gt) func172 O O (Hp (Bi w (λY=>J Y 0)) []) (cj (Bi w _) hj (hJ 0)) (az (okJ 0))<|Xp<|bO O isAgg218 (λw h=>(c1 _ _ w h).1) O O<|bf O (λ_=>aG underlying218 _ _ _ _) O O<|Mv O<|aa<|ai<|gz (ι:={i:Nat // i<=2}) (λy=>[(0,.func (.yield l) #[] #[]),(1,pnt bb),(5,.slice (spt b) 2 cap),(6,I ((2:Nat):Int)),(7,I (y.1:Int))]) (λy=>Bi w (λY=>J Y y.1)) (λy=>[]) (λy=>2-y.1) ⟨0,Nat.zero_le _⟩ (λ_=>okJ _) O trv trivial<|?_;rintro ⟨i,hi⟩;dsimp only;refine Xp<|Bnr O O (λ_=>aw _ _ _)<|aa<|ah<|?_;refine bD O (λhc=> ?_) (λhc=> ?_)
 ·have hi2:i<2:=by simp at hc;omega
  refine aq<|ah<|ai<|Xp<|iQ (s:=12) i O O underlying218 sizeOf78 om om O O<|cZ (cs:=(fe (f i).1++fe (f i).2).map U64) O isAgg78 sizeOf78 sm (λw h=>gB (c1 _ _ w h).2 om (dz _ _)) O O<|Al 4 (okJ _) zv78<|λb4=>Sa 4 (okJ _) O O O aX<|aa<|Xp<|Mv O<|La 4 O O aX<|?_;refine du (hY.b (k:=i) (Bc f i om) w) (okJ _) (okX _) O O O O O ?_ ?_
  ·refine bp O (λ_=>a8 _) O O<|aa<|aD O<|aq<|Xq<|Bnr O O (λ_=>au _ _ _ oi)<|Mv O<|aa<|?_
   repeat (refine aO ?_)
   exact aC<|⟨rfl,⟨i+1,om⟩,_,by show 2-(i+1)<2-i;omega,rfl,trv,trivial⟩
  ·refine bp O (λ_=>a8 _) O O<|aa<|aT O<|am<|Rr<|?_
   repeat (first|refine dv ?_|refine cm ?_|refine dJ O ?_|refine bJ ?_|refine bK ?_)
   exact dp O (λw hw=>⟨⟨_,rfl⟩,.inr ⟨_,cb (hJx _) hw.rid⟩⟩)
 ·obtain rfl:i=2:=by simp at hc;omega
  refine aV ?_
  repeat (first|refine dv ?_|refine cm ?_|refine dJ O ?_|refine bJ ?_|refine bK ?_)
  refine cO O (λw hw=>⟨⟨_,rfl⟩,.inl ?_⟩);have:=cb (hJ _) hw.rid;rw[uE];exact this
theorem Mf{u:W2}{A:W2×W2}(h:SwA u A): ∃p:GP,p.P=some A/\PUR 174 [EV2 u] (PtV p):=by
 obtain ⟨x,r,s,rfl⟩:=h;exact ⟨_,rfl,pmap s⟩
def gS(p:Nat->GP):Nat->GP
 |0=>gInf
 |k+1=>F4 (gS p k) (p k)
theorem gS_P{p:Nat->GP}{A B:W2×W2}(h0:(p 0).P=some A)(h1:(p 1).P=some B):(gS p 2).P=E2w.ad (some A) (some B):=by
 show E2w.ad (E2w.ad none (p 0).P) (p 1).P=_;rw[h0,h1];rfl
theorem J5(msg dst:L8)(hbad:Xm.FBad msg dst 2)(a1:Option Addr)(cap1:Nat)(a2:Option Addr)(cap2:Nat)(w:World)(hl1:msg.length<=65600)(hc1:msg.length<=cap1)(hl2:dst.length<=1000)(hc2:dst.length<=cap2)(hw:Gt w)(hb1:BytesAt w a1 msg)(hb2:BytesAt w a2 dst):CLS 124 [.slice a1 msg.length cap1,.slice a2 dst.length cap2].toArray w (λe w'=>e=.returned (.tuple #[.nilFunc,I 130])/\Grow w w'):=by
 refine Hf func124 O hw<|λhGF=>ae (E:=EE [171,2000171])<|Asg O<|Asg O<|aa<|ae (E:=EE [171,2000171])<|Mv O<|Mv O<|?_;refine bI O O ent171 O O (λw' hw'=>(Xm.pfc a1 cap1 msg a2 cap2 dst 2 w' om hc1 om hc2 (hGF.g _ _ _ hw') (hb1.grow (ac hw')) (hb2.grow (ac hw'))).mono λe w'' h=> ?_);obtain ⟨v,rfl,hg,hq⟩:=h;obtain rfl:=hq.bad hbad;refine ⟨_,_,rfl,az hGF,hw'.grow ao hg,λ_ h=>h, ?_⟩;clear hq hg hw';refine Mv O<|Ext O O<|Ext O O<|hO 6 hGF zeroValue218 O O<|λb6=>dP 6 hGF O O O sizeOf218 O dc O<|Asg O<|aa<|ah<|ae (E:=EE [171,2000171])<|Mv O<|Bnb true O O (λ_=>bC _ _ _) (rfl)<|aa<|aT O<|ae (E:=EE [171,2000171])<|Mv O<|Asg O<|Asg O<|aa<|am<|Rr<|?_;exact ch O O O (λw hw=>⟨rfl,ac hw⟩)
theorem PB(msg dst:L8)(hbad: ¬Xm.FBad msg dst 2)(a1:Option Addr)(cap1:Nat)(a2:Option Addr)(cap2:Nat)(w:World)(hl1:msg.length<=65600)(hc1:msg.length<=cap1)(hl2:dst.length<=1000)(hc2:dst.length<=cap2)(hw:Gt w)(hb1:BytesAt w a1 msg)(hb2:BytesAt w a2 dst):CLS 124 [.slice a1 msg.length cap1,.slice a2 dst.length cap2].toArray w (λe w'=> ∃b cap b1,e=.returned (.tuple #[.func (.func 172) #[] #[pnt b1],I 0])/\Grow w w'/\w.heap.size<=b/\w'.rangeAt b 0 (U2c msg dst)/\w.heap.size<=b1/\w'.rangeAt b1 0 [.slice (spt b) 2 cap]):=by
 refine Hf func124 O hw<|λhGF=>ae (E:=EE [171,2000171])<|Asg O<|Asg O<|aa<|ae (E:=EE [171,2000171])<|Mv O<|Mv O<|?_;refine bI O O ent171 O O (λw' hw'=>(Xm.pfc a1 cap1 msg a2 cap2 dst 2 w' om hc1 om hc2 (hGF.g _ _ _ hw') (hb1.grow (ac hw')) (hb2.grow (ac hw'))).mono λe w'' h=> ?_);obtain ⟨v,rfl,hg,hq⟩:=h;obtain ⟨b,cap,rfl,hbs,hbr⟩:=rY hq hbad;refine ⟨_,_,rfl,az (na hGF),Gf hw' ao hg hbs (zK hbr) hbr,λ_ h=>jE h, ?_⟩;have hbs0:w.heap.size<=b:=Nat.le_trans (ac hw').size hbs;clear hq hg hw' hbs hbr;refine Mv O<|Ext O O<|Ext O O<|hO 6 (na hGF) zeroValue218 O O<|λb6=>dP 6 (na hGF) O O O sizeOf218 O dc O<|Asg O<|aa<|ah<|ae (E:=EE [171,2000171])<|Mv O<|Bnb false O O (λ_=>bC _ _ _) (rfl)<|aa<|aD O<|aq<|ae (E:=EE [171,2000171])<|gj O O O O<|Asg O<|Asg O<|aa<|am<|Rr<|?_;exact ch O O O (λw hw=>⟨b,cap,b6,rfl,hbl hw,hbs0,vZ hw,(hw.own 6 b6 _ _ O).2.elim id False.elim,(hw.own 6 b6 _ _ O).1.range⟩)
theorem CO(f:Nat->W2)(p:Nat->GP)(hm0: ∀k,k<2->PUR 174 [EV2 (f k)] (PtV (p k)))(b1 b cap:Nat)(w:World)(hw:Gt w)(hRs: ∀w',Grow w w'->RdE b1 b cap f w'):
 CLS 126 [.func (.func 172) #[] #[pnt b1]].toArray w (λr w'=>r=.returned (PtV (gS p 2))/\Grow w w'):=by
 have hGF:BOk Gt (pl w):=gt_low.plain hw;refine cw (G:=Gt) func126 O O (Hp (pl w) []) (cj (pl w) trivial ao) (az hGF)<|Xp<|Al 2 hGF zv80<|λb2=>aa<|Xp<|Al 3 hGF zv80<|λb3=>aa<|ah<|Xp<|Mv O<|aa<|ai<|?_;refine fb (λ_=>pl w) (λ_ _=>pl w) (λ_=>hGF) (λ_ _=>hGF) (λ_=>rfl) (λ_ _=>rfl) O O ent172 (qV b1 b cap f) (λx hx=>by obtain ⟨k,hk,rfl⟩:=List.mem_map.1 hx;rfl) O (λk=>[(2,b2,(GL (gInf)).map U64,80),(3,b3,(GL (gS p k)).map U64,80)]) (λ_ _ _=>False) trv (λk _ w' h=>hRs w' (h.below (λ_ h=>h))) ?_ ?_ (λ_ _ _ _ _ h=>h.elim)
 ·intro k v hx R hR
  obtain ⟨hk,rfl⟩:=Rh f k v hx;have hm:=hm0 k hk;refine Xq<|dN 4 (hR (pl w) O hGF).1 zv78 O O<|λb4=>aA 4 (hR (pl w) O hGF).1 O O O sizeOf78 sm sm (bc _) O<|aa<|?_;refine ⟨rfl,_,rfl, ?_⟩;refine ai<|Xe []<|La 3 O O cn<|La 4 O O aX<|Ca O (hm)<|Ca O (IQ _ _)<|aA 3 (hR (pl w) O hGF).2.1 O O O sizeOf80 sm sm (bc _) O<|aa<|?_
  repeat (refine aO ?_)
  exact ⟨_,rfl,trv⟩
 ·intro D hD
  rw[uE];refine Xp<|La 3 O O cn<|Sa 2 hD O O O cn<|aa<|am<|Rr<|?_;exact dR (.inl O) ao (av 2 O O O isAgg80 sizeOf80 sm (λw hw=>⟨rfl,ac hw⟩))
theorem Ra{B:Bs}{L:Hl}{Y:Nat->Prop}{w w':World}{b d:Nat}{cs ds:List Value}(h:Hq B L Y w)(hr:Rides B.J)(hg:Grow w w')(hb:w.heap.size<=b)(hb':b<w'.heap.size)(hc:w'.rangeAt b 0 cs)(hd:w.heap.size<=d)(hd':d<w'.heap.size)(he:w'.rangeAt d 0 ds):Hq (pj (pj B b cs) d ds) L Y w':=by
 have k:=Gf h hr hg hb hb' hc;refine ⟨k.os,k.tape,k.output,k.size,k.keep,k.own,k.inj,k.apart,k.high,k.lt,k.rid,λe=> ?_,hd',he⟩;rcases e with e|e
 ·have:=h.ownlt e;omega
 ·have:=h.lt _ e;omega
theorem RG{w w':World}{b1 b cap:Nat}{f:Nat->W2}(h1:w.rangeAt b1 0 [.slice (spt b) 2 cap])(h2:w.rangeAt b 0 ((RW 12 (RPr f) 2).map U64))(hg:Grow w w'):RdE b1 b cap f w':=⟨(mw h1 hg) 0 _ O,mw h2 hg⟩
theorem Do(msg dst:L8)(hbad:Xm.FBad msg dst 2)(a1:Option Addr)(cap1:Nat)(a2:Option Addr)(cap2:Nat)(w:World)(hl1:msg.length<=65600)(hc1:msg.length<=cap1)(hl2:dst.length<=1000)(hc2:dst.length<=cap2)(hw:Gt w)(hb1:BytesAt w a1 msg)(hb2:BytesAt w a2 dst):CLS 78 [.slice a1 msg.length cap1,.slice a2 dst.length cap2].toArray w (λe w'=>e=.returned (.tuple #[PtV gInf,I 130])/\Grow w w'):=by
 refine Hf func78 O hw<|λhGF=>ae (E:=EE [124,2000124])<|Al 4 hGF zv80<|λb4=>Asg O<|aa<|ae (E:=EE [124,2000124])<|Mv O<|Mv O<|?_;refine bI O O ent124 O O (λw' hw'=>(J5 msg dst hbad a1 cap1 a2 cap2 w' hl1 hc1 hl2 hc2 (hGF.g _ _ _ hw') (hb1.grow (ac hw')) (hb2.grow (ac hw'))).mono λe w'' h=> ?_);obtain ⟨rfl,hg⟩:=h;refine ⟨_,_,rfl,az hGF,hw'.grow ao hg,λ_ h=>h, ?_⟩;clear hg hw';refine Mv O<|Ext O O<|Ext O O<|Asg O<|Asg O<|aa<|ah<|ae (E:=EE [124,2000124])<|Mv O<|Bnb true O O (λ_=>bC _ _ _) (rfl)<|aa<|aT O<|ae (E:=EE [124,2000124])<|jz oJ O O<|Mv O<|Sa 4 hGF O O O cn<|Asg O<|aa<|am<|Rr<|?_;exact a7 4 O O O O isAgg80 sizeOf80 sm (λw hw=>⟨rfl,ac hw⟩)
theorem Gg(msg dst:L8)(hbad: ¬Xm.FBad msg dst 2)(p:Nat->GP)(hm0: ∀k,k<2->PUR 174 [EV2 (U2n msg dst k)] (PtV (p k)))(a1:Option Addr)(cap1:Nat)(a2:Option Addr)(cap2:Nat)(w:World)(hl1:msg.length<=65600)(hc1:msg.length<=cap1)(hl2:dst.length<=1000)(hc2:dst.length<=cap2)(hw:Gt w)(hb1:BytesAt w a1 msg)(hb2:BytesAt w a2 dst):CLS 78 [.slice a1 msg.length cap1,.slice a2 dst.length cap2].toArray w (λe w'=>e=.returned (.tuple #[PtV (gCl (gS p 2)),I 0])/\Grow w w'):=by
 refine Hf func78 O hw<|λhGF=>ae (E:=EE [124,2000124])<|Al 4 hGF zv80<|λb4=>Asg O<|aa<|ae (E:=EE [124,2000124])<|Mv O<|Mv O<|?_;refine bI O O ent124 O O (λw' hw'=>(PB msg dst hbad a1 cap1 a2 cap2 w' hl1 hc1 hl2 hc2 (hGF.g _ _ _ hw') (hb1.grow (ac hw')) (hb2.grow (ac hw'))).mono λe w'' h=> ?_);obtain ⟨b,cap,b1,rfl,hg,hbs,hbr,hds,hdr⟩:=h;refine ⟨_,_,rfl,az (na (na hGF)),Ra hw' ao hg hbs (zK hbr) hbr hds (block_lt_of_cell (hdr 0 _ O)) hdr,λ_ h=>jE (jE h), ?_⟩;clear hg hw' hbs hbr hds hdr;refine Mv O<|Ext O O<|Ext O O<|Asg O<|Asg O<|aa<|ah<|ae (E:=EE [124,2000124])<|Mv O<|Bnb false O O (λ_=>bC _ _ _) (rfl)<|aa<|aD O<|aq<|ae (E:=EE [124,2000124])<|Mv O<|Cc O ent126 (λw' hC hG=>CO (U2n msg dst) p hm0 b1 b cap w' hG (λw'' hg=>RG (vZ hC) (vZ (jE hC)) hg))<|Ca O (Rf _)<|Sa 4 (na (na hGF)) O O O cn<|Asg O<|aa<|am<|Rr<|?_;exact a7 4 O O O O isAgg80 sizeOf80 sm (λw hw=>⟨rfl,hbl hw⟩)
theorem phs:PHs:=by
 refine ⟨λmsg dst hb=>⟨gInf,rfl,λa1 cap1 a2 cap2 w=>Do msg dst hb a1 cap1 a2 cap2 w⟩,λmsg dst A B hb h=> ?_⟩;obtain ⟨p0,e0,h0⟩:=Mf h.s0;obtain ⟨p1,e1,h1⟩:=Mf h.s1;refine ⟨gCl (gS (λk=>if k=0 then p0 else p1) 2), ?_,λa1 cap1 a2 cap2 w=>Gg msg dst hb _ (λk hk=> ?_) a1 cap1 a2 cap2 w⟩
 ·rw[XL,gS_P (A:=A) (B:=B) e0 e1]
 ·match k,hk with
  |0,_=>exact h0
  |1,_=>exact h1
end
section
open Go.RowKit
theorem eG(P:Pt Zp):(EN1 P).length=48:=by
 cases P with
 |none=>rfl
 |some p=>exact (oO _ _).trans (aM _)
theorem fg(P:Pt W2):(EN2 P).length=96:=by
 cases P with
 |none=>rfl
 |some p=>exact (oO _ _).trans (by rw[List.length_append,aM,aM])
attribute [local simp] a6 bj aH aB aP aZ aQ aI aM be bz a5 bv J1.bB J2.bB ce fk eG fg
attribute [local simp] fP
theorem ent8:ak prog 8:=λ_ _=>kr
theorem ent14:ak prog 14:=λ_ _=>kr
theorem ent27:ak prog 27:=λ_ _=>kr
theorem ent26:ak prog 26:=λ_ _=>kr
theorem ent25:ak prog 25:=λ_ _=>kr
theorem ent62:ak prog 62:=λ_ _=>kr
theorem ent34:ak prog 34:=λ_ _=>kr
theorem ent61:ak prog 61:=λ_ _=>kr
theorem ent109:ak prog 109:=λ_ _=>kr
theorem ent160:ak prog 160:=λ_ _=>kr
theorem zv30(w:World):(zeroValue 30).run prog w=.ok (.agg ((List.replicate 48 (0#8)).map U8).toArray) w:=(zeroValue30 w).trans rr
theorem zv33(w:World):(zeroValue 33).run prog w=.ok (.agg ((List.replicate 96 (0#8)).map U8).toArray) w:=(zeroValue33 w).trans rr
theorem QD(x:Zr):PUR 7 [RV x] (.agg ((EN1 (J1.sX J1.y7 x).P).map U8).toArray):=by
 intro w hw;refine Hf func7 O hw<|λhGF=>Xp<|Bx 1 hGF O<|λb1=>Al 2 hGF zv30<|λb2=>aa<|Xd []<|Ca O (J1.HS)<|La 1 O O ir<|Ca O (J1.tT _ x)<|Ca O (Th _)<|aA 2 hGF O O O sizeOf30 (by simp[*]) sm (bZ _) O<|aa<|am<|Rr<|?_
 exact av 2 O O O isAgg30 sizeOf30 sm (λw hw=>⟨rfl,ac hw⟩)
theorem Xr:SUb.data.toList=SUs.map (λx=>UInt8.ofBitVec x):=rfl
def HsC(msg:L8)(p:J2.GP)(c:Int):Prop:= ∀(a1:Option Addr) (cap1:Nat) (a2:Option Addr) (cap2:Nat) (w:World),msg.length<=65600->msg.length<=cap1->SUs.length<=1000->SUs.length<=cap2->Gt w->BytesAt w a1 msg->BytesAt w a2 SUs->CLS 78 [.slice a1 msg.length cap1,.slice a2 SUs.length cap2].toArray w (λe w'=>e=.returned (.tuple #[J2.PtV p,I c])/\Grow w w')
structure Ms(msg:L8)(p:J2.GP)(c:Int):Prop where
 h:HsC msg p c
theorem OE(msg:L8)(p:J2.GP)(c:Int)(hM:Ms msg p c)(a:Option Addr)(cap:Nat)(w:World)(hl:msg.length<=65600)(hc:msg.length<=cap)(hw:Gt w)(hb:BytesAt w a msg):CLS 34 [.slice a msg.length cap].toArray w (λr w'=>r=.returned (.tuple #[J2.PtV p,I c])/\Grow w w'):=by
 refine Hf func34 O hw<|λhGF=>ae (E:=EE [1000022])<|Al 2 hGF J2.zv80<|λb2=>Asg O<|aa<|ae (E:=EE [1000022])<|Mv O<|Ca O (QO)<|?_;refine zB 6 (xs:=SUs) O hGF O underlying9 underlying22 underlying5 Xr O O (λb6 c6 k6 e6 l6 t6=> ?_);refine Cc O ent78 (λw' hC hG=>hM.h a cap _ _ w' hl hc dc l6 hG (hb.grow (ac hC)) (cD (aJ (n:=6) O w' hC) t6))<|Ext O O<|Ext O O<|Sa 2 hGF O O O cn<|Asg O<|aa<|am<|Rr<|?_;exact a7 2 O O O O isAgg80 sizeOf80 sm (λw hw=>⟨rfl,ac hw⟩)
theorem wR(x:Zr)(msg:L8)(p:J2.GP)(hM:Ms msg p 0)(a:Option Addr)(cap:Nat)(w:World)(hl:msg.length<=65600)(hc:msg.length<=cap)(hw:Gt w)(hb:BytesAt w a msg):CLS 8 [RV x,.slice a msg.length cap].toArray w (λr w'=>r=.returned (.tuple #[.agg ((EN2 (J2.sX p x).P).map U8).toArray,I 0])/\Grow w w'):=by
 refine Hf func8 O hw<|λhGF=>Xp<|Bx 2 hGF O<|λb2=>Al 4 hGF zv33<|λb4=>Asg O<|aa<|Xp<|Mv O<|Cc O ent34 (λw' hC hG=>OE msg p _ hM a cap w' hl hc hG (hb.grow (ac hC)))<|Mv O<|Ext O O<|Ext O O<|Al 6 hGF J2.zv80<|λb6=>Sa 6 hGF O O O cn<|Asg O<|aa<|ah<|Xp<|Mv O<|Bnb false O O (λ_=>bC _ _ _) (rfl)<|aa<|aD O<|aq<|Xp<|La 6 O O cn<|La 2 O O ir<|Ca O (J2.tT _ x)<|Ca O (Q7 _)<|aA 4 hGF O O O sizeOf33 (by simp[*]) sm (bZ _) O<|Asg O<|aa<|am<|Rr<|?_
 exact a7 4 O O O O isAgg33 sizeOf33 sm (λw hw=>⟨rfl,ac hw⟩)
theorem KR(bs:L8)(hn:bs.length=48)(P:Pt Zp)(h0:P=none)(hD:D1 bs 0 P):PUR 14 [.agg ((bs).map U8).toArray] (.tuple #[J1.PtV J1.gInf,I 160]):=by
 intro w hw;refine Hf func14 O hw<|λhGF=>Xp<|Bx 1 hGF O<|λb1=>Al 2 hGF J1.zv54<|λb2=>Asg O<|aa<|Xp<|bQ (l:=0) (h':=48) O underlying30 sizeOf5 O O dc dc O O<|Cc O ent45 (λw' hC hG=>GR _ 48 48 bs hn _ P hD dc w' hG (BytesAt.range (aJ (n:=1) O w' hC)))<|Mv O<|Ext O O<|Ext O O<|Al 4 hGF J1.zv54<|λb4=>Sa 4 hGF O O O ck<|Asg O<|aa<|ah<|ai<|Xp<|Mv O<|Bnb false O O (λ_=>bC _ _ _) (rfl)<|Asg O<|aa<|aD O<|Xp<|La 4 O O ck<|Cbl true O ent20 (J1.o2 _) (decide_eq_true h0)<|Asg O<|aa<|aT O<|Xp<|Ca O (J1.lH)<|Sa 2 hGF O O O ck<|Asg O<|aa<|am<|Rr<|?_;exact a7 2 O O O O isAgg54 sizeOf54 sm (λw hw=>⟨rfl,ac hw⟩)
theorem Pb(bs:L8)(hn:bs.length=48)(P:Pt Zp)(h0: ¬P=none)(hD:D1 bs 0 P):PUR 14 [.agg ((bs).map U8).toArray] (.tuple #[J1.PtV (cA1 P (nW hD)),I 0]):=by
 intro w hw;refine Hf func14 O hw<|λhGF=>Xp<|Bx 1 hGF O<|λb1=>Al 2 hGF J1.zv54<|λb2=>Asg O<|aa<|Xp<|bQ (l:=0) (h':=48) O underlying30 sizeOf5 O O dc dc O O<|Cc O ent45 (λw' hC hG=>GR _ 48 48 bs hn _ P hD dc w' hG (BytesAt.range (aJ (n:=1) O w' hC)))<|Mv O<|Ext O O<|Ext O O<|Al 4 hGF J1.zv54<|λb4=>Sa 4 hGF O O O ck<|Asg O<|aa<|ah<|ai<|Xp<|Mv O<|Bnb false O O (λ_=>bC _ _ _) (rfl)<|Asg O<|aa<|aD O<|Xp<|La 4 O O ck<|Cbl false O ent20 (J1.o2 _) (decide_eq_false h0)<|Asg O<|aa<|aD O<|aq<|Xp<|La 4 O O ck<|Sa 2 hGF O O O ck<|Asg O<|aa<|am<|Rr<|?_;exact a7 2 O O O O isAgg54 sizeOf54 sm (λw hw=>⟨rfl,ac hw⟩)
theorem Uc(bs:L8)(hn:bs.length=96)(c:Int)(P:Pt W2)(hD:D2 bs c P):PUR 110 [.agg ((bs).map U8).toArray] (.tuple #[J2.PtV (cA2 P (n4 hD)),I c]):=by
 intro w hw;refine Hf func110 O hw<|λhGF=>Xp<|Bx 1 hGF O<|λb1=>Al 2 hGF J2.zv80<|λb2=>Asg O<|aa<|Xp<|bQ (l:=0) (h':=96) O underlying33 sizeOf5 O O dc dc O O<|Cc O ent161 (λw' hC hG=>SX _ 96 96 bs hn _ P hD dc w' hG (BytesAt.range (aJ (n:=1) O w' hC)))<|Ext O O<|Ext O O<|Sa 2 hGF O O O cn<|Asg O<|aa<|am<|Rr<|?_;exact a7 2 O O O O isAgg80 sizeOf80 sm (λw hw=>⟨rfl,ac hw⟩)
end
end Go.Proofs.YtjookodjbjabbaaGreatDoor
