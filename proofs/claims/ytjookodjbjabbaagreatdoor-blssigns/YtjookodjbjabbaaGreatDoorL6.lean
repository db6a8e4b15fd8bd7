/- L6 -/
import Derived.Test.YtjookodjbjabbaaGreatDoorL5
set_option maxRecDepth 100000
set_option maxHeartbeats 1000000
namespace Go.Proofs.YtjookodjbjabbaaGreatDoor
open Go.Proofs.Tryz
section
open J2
open Go.RowKit
attribute [local simp] a6 bv aH aA aQ aY aR aK aM PLl cJ cH N1l cI cL cK bf bB a7 bu bx cQ dC jQ
theorem jK{w w':World}{b o:Nat}{cs:List Value}(hg:Grow w w')(h:w.rangeAt b o cs):w'.rangeAt b o cs:=λj v hj=>(hg.cell (block_lt_of_cell (h j v hj))).trans (h j v hj)
theorem pQ(x:W2)(f g:Nat->W2)(bb:Nat)(w:World)(hw:Gt w)(hRs: ∀w',Grow w w'->NG bb f g w'):
 CLS 243 [EV2 x,.func (.func 280) #[] #[pnt bb]].toArray w (λr w'=>r=.returned (.tuple #[EV2 (HK f x 4),EV2 (HK g x 4)])/\Grow w w'):=by
 have hGF:BOk Gt (pl w):=gt_low.plain hw;refine cw (G:=Gt) func243 O O (Hp (pl w) []) (ci (pl w) trivial am) (ay hGF)<|Xp<|Bx 2 hGF O<|λb2=>Al 4 hGF zv78<|λb4=>Al 5 hGF zv78<|λb5=>aa<|ae<|Xp<|Mv O<|aa<|ah<|?_;refine fc (λ_=>pl w) (λ_ _=>pl w) (λ_=>hGF) (λ_ _=>hGF) (λ_=>rfl) (λ_ _=>rfl) O O ent280 (El bb f g) (λx hx=>by obtain ⟨k,hk,rfl⟩:=List.mem_map.1 hx;rfl) O (λk=>[(2,b2,(fe (x).1++fe (x).2).map U64,78),(4,b4,(fe (HK f x k).1++fe (HK f x k).2).map U64,78),(5,b5,(fe (HK g x k).1++fe (HK g x k).2).map U64,78)]) (λ_ _ _=>False) trv (λk _ w' h=>hRs w' (h.below (λ_ h=>h))) ?_ ?_ (λ_ _ _ _ _ h=>h.elim)
 ·intro k v hx R hR
  obtain ⟨hk,rfl⟩:=Pm f g k v hx;refine Xp<|dN 6 (hR (pl w) O hGF).1 zv78 O O<|λb6=>az 6 (hR (pl w) O hGF).1 O O O sizeOf78 sm sm (ba _) O<|aa<|Xq<|dN 7 (hR (pl w) O hGF).1 zv78 O O<|λb7=>az 7 (hR (pl w) O hGF).1 O O O sizeOf78 sm sm (ba _) O<|aa<|?_;refine ⟨rfl,_,rfl, ?_⟩;refine ah<|Xe []<|La 4 O O aW<|La 2 O O aW<|Ca O (dG _ _)<|La 6 O O aW<|Ca O (fw _ _)<|La 5 O O aW<|La 2 O O aW<|Ca O (dG _ _)<|La 7 O O aW<|Ca O (fw _ _)<|az 4 (hR (pl w) O hGF).2.1 O O O sizeOf78 sm sm (ba _) O<|az 5 (hR (pl w) O hGF).2.1 O O O sizeOf78 sm sm (ba _) O<|aa<|?_
  repeat (refine aL ?_)
  exact ⟨_,rfl,trv⟩
 ·intro D hD
  rw[tS];refine gg (E:=EE []) (λX=>X=Hp (B2 (pl w) D) [(5,b5,(fe (HK g x 4).1++fe (HK g x 4).2).map U64,78)]) (mkB [4]) (rkB [22]) [0,1,2,3] cY O kr kr kr<|dE O O<|La 4 O O aW<|aa<|kh (X:=Hp (B2 (pl w) D) [(5,b5,(fe (HK g x 4).1++fe (HK g x 4).2).map U64,78)]) O (cP hD.r trv) (λ_=>rfl)<|La 5 O O aW<|aa<|fE O<|Sa 4 hD O O O aW<|aa<|?_;refine ⟨λ_ X hX _=>by subst hX;exact cP hD.r trv, ?_⟩
  refine fE O<|Sa 5 hD O O O aW<|aa<|?_;refine ⟨λh=>(by cases h), ?_⟩
  refine fI<|ak<|Rr<|?_;exact dR (.inl O) am (im 4 5 O O O O O isAgg78 sizeOf78 sm sm (λw hw=>⟨rfl,ab hw⟩))
def oX(k:Nat):W2:=cXN (3-k)
def oY(k:Nat):W2:=cYN (3-k)
def uX:Nat->W2
 |0=>ze2
 |1=>on2
 |2=>(zp 12,-zp 12)
 |_=>(0,-zp 72)
def uY:Nat->W2
 |0=>on2
 |1=>(zp 18,-zp 18)
 |2=>(0,-zp 216)
 |_=>(-zp 432,-zp 432)
theorem oX_h(x:W2):HK oX x 4=R2.pev iXN x:=Co oX x
theorem oY_h(x:W2):HK oY x 4=R2.pev iYN x:=Co oY x
theorem uX_h(x:W2):HK uX x 4=R2.pev iXD x:=(HK_z uX x O).trans (by rw[show [uX 3,uX 2,uX 1]=iXD by decide+kernel])
theorem uY_h(x:W2):HK uY x 4=R2.pev iYD x:=(Co uY x).trans (by rw[show [uY 3,uY 2,uY 1,uY 0]=iYD by decide+kernel])
def pb0:L8:=[23#8,29#8,101#8,65#8,250#8,56#8,204#8,250#8,237#8,109#8,234#8,105#8,31#8,95#8,182#8,20#8,203#8,20#8,180#8,231#8,244#8,232#8,16#8,170#8,34#8,214#8,16#8,143#8,20#8,43#8,133#8,117#8,112#8,152#8,227#8,141#8,15#8,103#8,28#8,113#8,136#8,226#8,170#8,170#8,170#8,170#8,94#8,209#8]
theorem Vr:FV pb0=zp 0x171d6541fa38ccfaed6dea691f5fb614cb14b4e7f4e810aa22d6108f142b85757098e38d0f671c7188e2aaaaaaaa5ed1:=by rw[FV,if_pos ⟨rfl,by decide+kernel⟩];decide+kernel
theorem Un(s0:ByteArray)(h0:s0.data.toList=pb0.map (λx=>UInt8.ofBitVec x)){a:Zp}(ha:zp 0x171d6541fa38ccfaed6dea691f5fb614cb14b4e7f4e810aa22d6108f142b85757098e38d0f671c7188e2aaaaaaaa5ed1=a):PUR 268 [.string s0] (EV a):=by
 have h:=lz s0 pb0 h0;rw[Vr,ha]at h;exact h
def pb1:L8:=[17#8,86#8,11#8,241#8,123#8,170#8,153#8,188#8,50#8,18#8,111#8,206#8,215#8,135#8,200#8,143#8,152#8,79#8,135#8,173#8,247#8,174#8,12#8,127#8,154#8,32#8,140#8,107#8,79#8,32#8,164#8,24#8,20#8,114#8,170#8,169#8,203#8,141#8,85#8,85#8,38#8,169#8,255#8,255#8,255#8,255#8,199#8,30#8]
theorem VJ:FV pb1=zp 0x11560bf17baa99bc32126fced787c88f984f87adf7ae0c7f9a208c6b4f20a4181472aaa9cb8d555526a9ffffffffc71e:=by rw[FV,if_pos ⟨rfl,by decide+kernel⟩];decide+kernel
theorem V4(s0:ByteArray)(h0:s0.data.toList=pb1.map (λx=>UInt8.ofBitVec x)){a:Zp}(ha:zp 0x11560bf17baa99bc32126fced787c88f984f87adf7ae0c7f9a208c6b4f20a4181472aaa9cb8d555526a9ffffffffc71e=a):PUR 268 [.string s0] (EV a):=by
 have h:=lz s0 pb1 h0;rw[VJ,ha]at h;exact h
def pb2:L8:=[8#8,171#8,5#8,248#8,189#8,213#8,76#8,222#8,25#8,9#8,55#8,231#8,107#8,195#8,228#8,71#8,204#8,39#8,195#8,214#8,251#8,215#8,6#8,63#8,205#8,16#8,70#8,53#8,167#8,144#8,82#8,12#8,10#8,57#8,85#8,84#8,229#8,198#8,170#8,170#8,147#8,84#8,255#8,255#8,255#8,255#8,227#8,141#8]
theorem Xg:FV pb2=zp 0x8ab05f8bdd54cde190937e76bc3e447cc27c3d6fbd7063fcd104635a790520c0a395554e5c6aaaa9354ffffffffe38d:=by rw[FV,if_pos ⟨rfl,by decide+kernel⟩];decide+kernel
theorem SI(s0:ByteArray)(h0:s0.data.toList=pb2.map (λx=>UInt8.ofBitVec x)){a:Zp}(ha:zp 0x8ab05f8bdd54cde190937e76bc3e447cc27c3d6fbd7063fcd104635a790520c0a395554e5c6aaaa9354ffffffffe38d=a):PUR 268 [.string s0] (EV a):=by
 have h:=lz s0 pb2 h0;rw[Xg,ha]at h;exact h
def pb3:L8:=[17#8,86#8,11#8,241#8,123#8,170#8,153#8,188#8,50#8,18#8,111#8,206#8,215#8,135#8,200#8,143#8,152#8,79#8,135#8,173#8,247#8,174#8,12#8,127#8,154#8,32#8,140#8,107#8,79#8,32#8,164#8,24#8,20#8,114#8,170#8,169#8,203#8,141#8,85#8,85#8,38#8,169#8,255#8,255#8,255#8,255#8,199#8,26#8]
theorem WI:FV pb3=zp 0x11560bf17baa99bc32126fced787c88f984f87adf7ae0c7f9a208c6b4f20a4181472aaa9cb8d555526a9ffffffffc71a:=by rw[FV,if_pos ⟨rfl,by decide+kernel⟩];decide+kernel
theorem T6(s0:ByteArray)(h0:s0.data.toList=pb3.map (λx=>UInt8.ofBitVec x)){a:Zp}(ha:zp 0x11560bf17baa99bc32126fced787c88f984f87adf7ae0c7f9a208c6b4f20a4181472aaa9cb8d555526a9ffffffffc71a=a):PUR 268 [.string s0] (EV a):=by
 have h:=lz s0 pb3 h0;rw[WI,ha]at h;exact h
def pb4:L8:=[5#8,199#8,89#8,80#8,126#8,142#8,51#8,62#8,187#8,91#8,122#8,154#8,71#8,215#8,237#8,133#8,50#8,197#8,45#8,57#8,253#8,58#8,4#8,42#8,136#8,181#8,132#8,35#8,197#8,10#8,225#8,93#8,92#8,38#8,56#8,227#8,67#8,217#8,199#8,28#8,98#8,56#8,170#8,170#8,170#8,170#8,151#8,214#8]
theorem TS:FV pb4=zp 0x5c759507e8e333ebb5b7a9a47d7ed8532c52d39fd3a042a88b58423c50ae15d5c2638e343d9c71c6238aaaaaaaa97d6:=by rw[FV,if_pos ⟨rfl,by decide+kernel⟩];decide+kernel
theorem M7(s0:ByteArray)(h0:s0.data.toList=pb4.map (λx=>UInt8.ofBitVec x)){a:Zp}(ha:zp 0x5c759507e8e333ebb5b7a9a47d7ed8532c52d39fd3a042a88b58423c50ae15d5c2638e343d9c71c6238aaaaaaaa97d6=a):PUR 268 [.string s0] (EV a):=by
 have h:=lz s0 pb4 h0;rw[TS,ha]at h;exact h
theorem js(w:World)(hw:Gt w):CLS 244 [].toArray w (λe w'=> ∃b1,e=.returned (.func (.func 280) #[] #[pnt b1])/\Grow w w'/\w.heap.size<=b1/\OwnB w' b1 ((RW 24 (R24 oX uX) 4).map U64) 298):=by
 refine Hf func244 O hw<|λhGF=>ac (E:=EE [267,2000267])<|Asg O<|aa<|ac (E:=EE [267,2000267])<|Ca O (Un _ O O)<|A3 fV O sm O O<|JB fV O O<|co kI O O sm sm O O<|Ca O (V4 _ O O)<|Ca O (SI _ O O)<|co fV O O sm sm O O<|Ca O (sC)<|co kI O O sm sm O O<|Ca O (T6 _ O O)<|mS fV O sm O O<|Ca O (eS _)<|Ca O (eS _)<|Ca O (dY _)<|co fV O O sm sm O O<|co kI O O sm sm O O<|Ca O (M7 _ O O)<|Ca O (M7 _ O O)<|co fV O O sm sm O O<|Ca O (eS _)<|Ca O (dY _)<|mS fV O sm O O<|co kI O O sm sm O O<|qv (s:=24) (R24 oX uX) (R24 oX uX) [0,1,2,3] O O O (λi _=>jQ _ _ _) underlying298 sizeOf297 zv298 (A2 _ _) O O<|?_;refine bK O O ent267 O O (λw' hw'=>(qt oX uX w' (hGF.g _ _ _ hw')).mono λe' w'' h=> ?_);obtain ⟨c1,rfl,hg,h1,ho⟩:=h;refine ⟨_,_,rfl,ay hGF,hw'.news am hg [(33,c1,(RW 24 (R24 oX uX) 4).map U64,298)] ?_ bQ,bO am O, ?_⟩
 ·intro n' b' c' t' hl
  rcases aI hl with ⟨_,e⟩|⟨_,hl⟩
  ·cases e;exact ⟨h1,ho⟩
  ·cases hl
 clear hw' hg h1 ho;refine Asg O<|aa<|ak<|Rr<|?_;exact aE O O (λw hw=>⟨c1,rfl,ab hw,(hw.own 33 c1 _ _ O).2.elim id False.elim,(hw.own 33 c1 _ _ O).1⟩)
def pb5:L8:=[18#8,76#8,154#8,212#8,59#8,108#8,247#8,155#8,251#8,247#8,4#8,61#8,227#8,129#8,26#8,208#8,118#8,27#8,15#8,55#8,161#8,226#8,98#8,134#8,176#8,233#8,119#8,198#8,154#8,162#8,116#8,82#8,78#8,121#8,9#8,122#8,86#8,220#8,75#8,217#8,225#8,179#8,113#8,199#8,28#8,113#8,139#8,16#8]
theorem UF:FV pb5=zp 0x124c9ad43b6cf79bfbf7043de3811ad0761b0f37a1e26286b0e977c69aa274524e79097a56dc4bd9e1b371c71c718b10:=by rw[FV,if_pos ⟨rfl,by decide+kernel⟩];decide+kernel
theorem Vz(s0:ByteArray)(h0:s0.data.toList=pb5.map (λx=>UInt8.ofBitVec x)){a:Zp}(ha:zp 0x124c9ad43b6cf79bfbf7043de3811ad0761b0f37a1e26286b0e977c69aa274524e79097a56dc4bd9e1b371c71c718b10=a):PUR 268 [.string s0] (EV a):=by
 have h:=lz s0 pb5 h0;rw[UF,ha]at h;exact h
def pb6:L8:=[17#8,86#8,11#8,241#8,123#8,170#8,153#8,188#8,50#8,18#8,111#8,206#8,215#8,135#8,200#8,143#8,152#8,79#8,135#8,173#8,247#8,174#8,12#8,127#8,154#8,32#8,140#8,107#8,79#8,32#8,164#8,24#8,20#8,114#8,170#8,169#8,203#8,141#8,85#8,85#8,38#8,169#8,255#8,255#8,255#8,255#8,199#8,28#8]
theorem Uw:FV pb6=zp 0x11560bf17baa99bc32126fced787c88f984f87adf7ae0c7f9a208c6b4f20a4181472aaa9cb8d555526a9ffffffffc71c:=by rw[FV,if_pos ⟨rfl,by decide+kernel⟩];decide+kernel
theorem WB(s0:ByteArray)(h0:s0.data.toList=pb6.map (λx=>UInt8.ofBitVec x)){a:Zp}(ha:zp 0x11560bf17baa99bc32126fced787c88f984f87adf7ae0c7f9a208c6b4f20a4181472aaa9cb8d555526a9ffffffffc71c=a):PUR 268 [.string s0] (EV a):=by
 have h:=lz s0 pb6 h0;rw[Uw,ha]at h;exact h
def pb7:L8:=[8#8,171#8,5#8,248#8,189#8,213#8,76#8,222#8,25#8,9#8,55#8,231#8,107#8,195#8,228#8,71#8,204#8,39#8,195#8,214#8,251#8,215#8,6#8,63#8,205#8,16#8,70#8,53#8,167#8,144#8,82#8,12#8,10#8,57#8,85#8,84#8,229#8,198#8,170#8,170#8,147#8,84#8,255#8,255#8,255#8,255#8,227#8,143#8]
theorem Wp:FV pb7=zp 0x8ab05f8bdd54cde190937e76bc3e447cc27c3d6fbd7063fcd104635a790520c0a395554e5c6aaaa9354ffffffffe38f:=by rw[FV,if_pos ⟨rfl,by decide+kernel⟩];decide+kernel
theorem UU(s0:ByteArray)(h0:s0.data.toList=pb7.map (λx=>UInt8.ofBitVec x)){a:Zp}(ha:zp 0x8ab05f8bdd54cde190937e76bc3e447cc27c3d6fbd7063fcd104635a790520c0a395554e5c6aaaa9354ffffffffe38f=a):PUR 268 [.string s0] (EV a):=by
 have h:=lz s0 pb7 h0;rw[Wp,ha]at h;exact h
def pb8:L8:=[5#8,199#8,89#8,80#8,126#8,142#8,51#8,62#8,187#8,91#8,122#8,154#8,71#8,215#8,237#8,133#8,50#8,197#8,45#8,57#8,253#8,58#8,4#8,42#8,136#8,181#8,132#8,35#8,197#8,10#8,225#8,93#8,92#8,38#8,56#8,227#8,67#8,217#8,199#8,28#8,98#8,56#8,170#8,170#8,170#8,170#8,151#8,190#8]
theorem Uz:FV pb8=zp 0x5c759507e8e333ebb5b7a9a47d7ed8532c52d39fd3a042a88b58423c50ae15d5c2638e343d9c71c6238aaaaaaaa97be:=by rw[FV,if_pos ⟨rfl,by decide+kernel⟩];decide+kernel
theorem Xx(s0:ByteArray)(h0:s0.data.toList=pb8.map (λx=>UInt8.ofBitVec x)){a:Zp}(ha:zp 0x5c759507e8e333ebb5b7a9a47d7ed8532c52d39fd3a042a88b58423c50ae15d5c2638e343d9c71c6238aaaaaaaa97be=a):PUR 268 [.string s0] (EV a):=by
 have h:=lz s0 pb8 h0;rw[Uz,ha]at h;exact h
def pb9:L8:=[21#8,48#8,71#8,124#8,122#8,180#8,17#8,59#8,89#8,164#8,193#8,139#8,7#8,109#8,17#8,147#8,15#8,125#8,165#8,212#8,160#8,127#8,100#8,155#8,245#8,68#8,57#8,216#8,125#8,39#8,229#8,0#8,252#8,140#8,37#8,235#8,248#8,201#8,47#8,104#8,18#8,207#8,199#8,28#8,113#8,198#8,215#8,6#8]
theorem UL:FV pb9=zp 0x1530477c7ab4113b59a4c18b076d11930f7da5d4a07f649bf54439d87d27e500fc8c25ebf8c92f6812cfc71c71c6d706:=by rw[FV,if_pos ⟨rfl,by decide+kernel⟩];decide+kernel
theorem My(s0:ByteArray)(h0:s0.data.toList=pb9.map (λx=>UInt8.ofBitVec x)){a:Zp}(ha:zp 0x1530477c7ab4113b59a4c18b076d11930f7da5d4a07f649bf54439d87d27e500fc8c25ebf8c92f6812cfc71c71c6d706=a):PUR 268 [.string s0] (EV a):=by
 have h:=lz s0 pb9 h0;rw[UL,ha]at h;exact h
theorem jp(w:World)(hw:Gt w):CLS 245 [].toArray w (λe w'=> ∃b1,e=.returned (.func (.func 280) #[] #[pnt b1])/\Grow w w'/\w.heap.size<=b1/\OwnB w' b1 ((RW 24 (R24 oY uY) 4).map U64) 298):=by
 refine Hf func245 O hw<|λhGF=>ac (E:=EE [267,2000267])<|Asg O<|aa<|ac (E:=EE [267,2000267])<|Ca O (Vz _ O O)<|A3 fV O sm O O<|Ca O (sC)<|co kI O O sm sm O O<|Ca O (WB _ O O)<|Ca O (UU _ O O)<|co fV O O sm sm O O<|Ca O (eS _)<|Ca O (eS _)<|Ca O (dY _)<|co fV O O sm sm O O<|co kI O O sm sm O O<|Ca O (Xx _ O O)<|mS fV O sm O O<|Ca O (eS _)<|Ca O (dY _)<|mS fV O sm O O<|co kI O O sm sm O O<|Ca O (My _ O O)<|Ca O (My _ O O)<|co fV O O sm sm O O<|Ca O (eS _)<|Ca O (dY _)<|Ca O (eS _)<|Ca O (dY _)<|co fV O O sm sm O O<|co kI O O sm sm O O<|qv (s:=24) (R24 oY uY) (R24 oY uY) [0,1,2,3] O O O (λi _=>jQ _ _ _) underlying298 sizeOf297 zv298 (A2 _ _) O O<|?_;refine bK O O ent267 O O (λw' hw'=>(qt oY uY w' (hGF.g _ _ _ hw')).mono λe' w'' h=> ?_);obtain ⟨c1,rfl,hg,h1,ho⟩:=h;refine ⟨_,_,rfl,ay hGF,hw'.news am hg [(33,c1,(RW 24 (R24 oY uY) 4).map U64,298)] ?_ bQ,bO am O, ?_⟩
 ·intro n' b' c' t' hl
  rcases aI hl with ⟨_,e⟩|⟨_,hl⟩
  ·cases e;exact ⟨h1,ho⟩
  ·cases hl
 clear hw' hg h1 ho;refine Asg O<|aa<|ak<|Rr<|?_;exact aE O O (λw hw=>⟨c1,rfl,ab hw,(hw.own 33 c1 _ _ O).2.elim id False.elim,(hw.own 33 c1 _ _ O).1⟩)
theorem oW(x:W2)(bb:Nat)(w:World)(hw:Gt w)(h:w.rangeAt bb 0 ((RW 24 (R24 oX uX) 4).map U64)):CLS 243 [EV2 x,.func (.func 280) #[] #[pnt bb]].toArray w (λr w'=>r=.returned (.tuple #[EV2 (R2.pev iXN x),EV2 (R2.pev iXD x)])/\Grow w w'):=by
 have e:=pQ x oX uX bb w hw (λw' hg=>jK hg h);rw[oX_h,uX_h]at e;exact e
theorem pt(x:W2)(bb:Nat)(w:World)(hw:Gt w)(h:w.rangeAt bb 0 ((RW 24 (R24 oY uY) 4).map U64)):CLS 243 [EV2 x,.func (.func 280) #[] #[pnt bb]].toArray w (λr w'=>r=.returned (.tuple #[EV2 (R2.pev iYN x),EV2 (R2.pev iYD x)])/\Grow w w'):=by
 have e:=pQ x oY uY bb w hw (λw' hg=>jK hg h);rw[oY_h,uY_h]at e;exact e
theorem XH{x y:W2}(h:ml2 y y=gO x):PUR 130 [EV2 (ml2 (R2.pev iXN x) (R2.pev iYD x)),EV2 (iv2 (ml2 (R2.pev iXD x) (R2.pev iYD x)))] (EV2 (XIs x)):=by
 have e:=dG (ml2 (R2.pev iXN x) (R2.pev iYD x)) (iv2 (ml2 (R2.pev iXD x) (R2.pev iYD x)));rw[Tu (vp h) (v7 h)]at e;exact e
theorem S9{x y:W2}(h:ml2 y y=gO x):PUR 130 [EV2 (ml2 (ml2 y (R2.pev iYN x)) (R2.pev iXD x)),EV2 (iv2 (ml2 (R2.pev iXD x) (R2.pev iYD x)))] (EV2 (YIs x y)):=by
 have e:=dG (ml2 (ml2 y (R2.pev iYN x)) (R2.pev iXD x)) (iv2 (ml2 (R2.pev iXD x) (R2.pev iYD x)));rw[UO (vp h) (v7 h)]at e;exact e
theorem In{x y:W2}(h:ml2 y y=gO x): ¬ml2 (R2.pev iXD x) (R2.pev iYD x)=ze2:=λe=>(g9 e).elim (vp h) (v7 h)
def UI(x y:W2)(h:ml2 y y=gO x):GP:=RD (XIs x) (YIs x y) (nA.1 (xV h))
theorem piso(x y:W2)(h:ml2 y y=gO x):PUR 208 [EV2 x,EV2 y] (PtV (UI x y h)):=by
 intro w hw;refine Hf func208 O hw<|λhGF=>Xp<|Bx 2 hGF O<|λb2=>Bx 3 hGF O<|λb3=>Al 4 hGF zv80<|λb4=>aa<|?_;refine i3 (ι:=Nat×Nat) (λz=>[(2,pnt b2),(3,pnt b3),(4,pnt b4),(5,pnt z.1),(6,pnt z.2)]) (λz=>[(2,b2,(fe (x).1++fe (x).2).map U64,78),(3,b3,(fe (y).1++fe (y).2).map U64,78),(4,b4,(GL gInf).map U64,80),(5,z.1,(fe (R2.pev iXN x).1++fe (R2.pev iXN x).2).map U64,78),(6,z.2,(fe (R2.pev iXD x).1++fe (R2.pev iXD x).2).map U64,78)]) hGF ?_ ?_
 ·refine lF (EE [244,2000244,2999999]) cY kr kr<|aO (m:=9) [0] kr<|La 2 O O aW<|aa<|ew (m:=8) [1,6,7] kr kr dc<|?_
  intro i hi;simp only[List.mem_cons,List.not_mem_nil,or_false]at hi;rcases hi with rfl|rfl|rfl
  ·refine bK O O ent244 O O (λw' hw'=>(js w' (hGF.g _ _ _ hw')).mono λe' w'' h=> ?_)
   obtain ⟨c1,rfl,hg,h1,ho⟩:=h;refine ⟨_,_,rfl,ay hGF,hw'.news am hg [(33,c1,(RW 24 (R24 oX uX) 4).map U64,298)] ?_ bQ,bO am O, ?_⟩
   ·intro n' b' c' t' hl
    rcases aI hl with ⟨_,e⟩|⟨_,hl⟩
    ·cases e;exact ⟨h1,ho⟩
    ·cases hl
   clear hw' hg h1 ho;refine aa<|aO (m:=4) [2,3,4,5] kr<|Cc O ent243 (λw' hC hG=>oW x _ w' hG (aG (n:=33) O w' hC))<|Mv O<|Ext O O<|Ext O O<|aa<|ew (m:=3) [6,7] kr kr dc<|?_;intro i hi;simp only[List.mem_cons,List.not_mem_nil,or_false]at hi;rcases hi with rfl|rfl
   ·exact bE 5 hGF zv78 O O O<|λb5=>aa<|aO (m:=2) [7] kr<|bE 6 hGF zv78 O O O<|λb6=>aa<|aO (m:=1) [8] kr<|Sa 5 hGF O O O aW<|aa<|aO (m:=0) [9] kr<|Sa 6 hGF O O O aW<|aa<|cF kr<|aB<|⟨rfl,(b5,b6),_,rfl,trv,trv⟩
   ·exact bE 6 hGF zv78 O O O<|λb6=>aa<|aO (m:=2) [6] kr<|bE 5 hGF zv78 O O O<|λb5=>aa<|aO (m:=1) [8] kr<|Sa 5 hGF O O O aW<|aa<|aO (m:=0) [9] kr<|Sa 6 hGF O O O aW<|aa<|cF kr<|aB<|⟨rfl,(b5,b6),_,rfl,trv,trv⟩
  ·refine bE 5 hGF zv78 O O O<|λb5=>aa<|ew (m:=7) [1,7] kr kr dc<|?_
   intro i hi;simp only[List.mem_cons,List.not_mem_nil,or_false]at hi;rcases hi with rfl|rfl
   ·refine bK O O ent244 O O (λw' hw'=>(js w' (hGF.g _ _ _ hw')).mono λe' w'' h=> ?_)
    obtain ⟨c1,rfl,hg,h1,ho⟩:=h;refine ⟨_,_,rfl,ay hGF,hw'.news am hg [(33,c1,(RW 24 (R24 oX uX) 4).map U64,298)] ?_ bQ,bO am O, ?_⟩
    ·intro n' b' c' t' hl
     rcases aI hl with ⟨_,e⟩|⟨_,hl⟩
     ·cases e;exact ⟨h1,ho⟩
     ·cases hl
    clear hw' hg h1 ho;exact aa<|aO (m:=3) [2,3,4,5] kr<|Cc O ent243 (λw' hC hG=>oW x _ w' hG (aG (n:=33) O w' hC))<|Mv O<|Ext O O<|Ext O O<|aa<|aO (m:=2) [7] kr<|bE 6 hGF zv78 O O O<|λb6=>aa<|aO (m:=1) [8] kr<|Sa 5 hGF O O O aW<|aa<|aO (m:=0) [9] kr<|Sa 6 hGF O O O aW<|aa<|cF kr<|aB<|⟨rfl,(b5,b6),_,rfl,trv,trv⟩
   ·refine bE 6 hGF zv78 O O O<|λb6=>aa<|aO (m:=6) [1] kr<|?_
    refine bK O O ent244 O O (λw' hw'=>(js w' (hGF.g _ _ _ hw')).mono λe' w'' h=> ?_);obtain ⟨c1,rfl,hg,h1,ho⟩:=h;refine ⟨_,_,rfl,ay hGF,hw'.news am hg [(33,c1,(RW 24 (R24 oX uX) 4).map U64,298)] ?_ bQ,bO am O, ?_⟩
    ·intro n' b' c' t' hl
     rcases aI hl with ⟨_,e⟩|⟨_,hl⟩
     ·cases e;exact ⟨h1,ho⟩
     ·cases hl
    clear hw' hg h1 ho;exact aa<|aO (m:=2) [2,3,4,5] kr<|Cc O ent243 (λw' hC hG=>oW x _ w' hG (aG (n:=33) O w' hC))<|Mv O<|Ext O O<|Ext O O<|aa<|aO (m:=1) [8] kr<|Sa 5 hGF O O O aW<|aa<|aO (m:=0) [9] kr<|Sa 6 hGF O O O aW<|aa<|cF kr<|aB<|⟨rfl,(b5,b6),_,rfl,trv,trv⟩
  ·refine bE 6 hGF zv78 O O O<|λb6=>aa<|ew (m:=7) [1,6] kr kr dc<|?_
   intro i hi;simp only[List.mem_cons,List.not_mem_nil,or_false]at hi;rcases hi with rfl|rfl
   ·refine bK O O ent244 O O (λw' hw'=>(js w' (hGF.g _ _ _ hw')).mono λe' w'' h=> ?_)
    obtain ⟨c1,rfl,hg,h1,ho⟩:=h;refine ⟨_,_,rfl,ay hGF,hw'.news am hg [(33,c1,(RW 24 (R24 oX uX) 4).map U64,298)] ?_ bQ,bO am O, ?_⟩
    ·intro n' b' c' t' hl
     rcases aI hl with ⟨_,e⟩|⟨_,hl⟩
     ·cases e;exact ⟨h1,ho⟩
     ·cases hl
    clear hw' hg h1 ho;exact aa<|aO (m:=3) [2,3,4,5] kr<|Cc O ent243 (λw' hC hG=>oW x _ w' hG (aG (n:=33) O w' hC))<|Mv O<|Ext O O<|Ext O O<|aa<|aO (m:=2) [6] kr<|bE 5 hGF zv78 O O O<|λb5=>aa<|aO (m:=1) [8] kr<|Sa 5 hGF O O O aW<|aa<|aO (m:=0) [9] kr<|Sa 6 hGF O O O aW<|aa<|cF kr<|aB<|⟨rfl,(b5,b6),_,rfl,trv,trv⟩
   ·refine bE 5 hGF zv78 O O O<|λb5=>aa<|aO (m:=6) [1] kr<|?_
    refine bK O O ent244 O O (λw' hw'=>(js w' (hGF.g _ _ _ hw')).mono λe' w'' h=> ?_);obtain ⟨c1,rfl,hg,h1,ho⟩:=h;refine ⟨_,_,rfl,ay hGF,hw'.news am hg [(33,c1,(RW 24 (R24 oX uX) 4).map U64,298)] ?_ bQ,bO am O, ?_⟩
    ·intro n' b' c' t' hl
     rcases aI hl with ⟨_,e⟩|⟨_,hl⟩
     ·cases e;exact ⟨h1,ho⟩
     ·cases hl
    clear hw' hg h1 ho;exact aa<|aO (m:=2) [2,3,4,5] kr<|Cc O ent243 (λw' hC hG=>oW x _ w' hG (aG (n:=33) O w' hC))<|Mv O<|Ext O O<|Ext O O<|aa<|aO (m:=1) [8] kr<|Sa 5 hGF O O O aW<|aa<|aO (m:=0) [9] kr<|Sa 6 hGF O O O aW<|aa<|cF kr<|aB<|⟨rfl,(b5,b6),_,rfl,trv,trv⟩
 ·rintro ⟨b5,b6⟩
  dsimp only;refine i3 (ι:=Nat×Nat) (λz=>[(2,pnt b2),(3,pnt b3),(4,pnt b4),(5,pnt b5),(6,pnt b6),(7,pnt z.1),(8,pnt z.2)]) (λz=>[(2,b2,(fe (x).1++fe (x).2).map U64,78),(3,b3,(fe (y).1++fe (y).2).map U64,78),(4,b4,(GL gInf).map U64,80),(5,b5,(fe (R2.pev iXN x).1++fe (R2.pev iXN x).2).map U64,78),(6,b6,(fe (R2.pev iXD x).1++fe (R2.pev iXD x).2).map U64,78),(7,z.1,(fe (R2.pev iYN x).1++fe (R2.pev iYN x).2).map U64,78),(8,z.2,(fe (R2.pev iYD x).1++fe (R2.pev iYD x).2).map U64,78)]) hGF ?_ ?_
  ·refine lF (EE [245,2000245,2999999]) cY kr kr<|aO (m:=9) [0] kr<|La 2 O O aW<|aa<|ew (m:=8) [1,6,7] kr kr dc<|?_
   intro i hi;simp only[List.mem_cons,List.not_mem_nil,or_false]at hi;rcases hi with rfl|rfl|rfl
   ·refine bK O O ent245 O O (λw' hw'=>(jp w' (hGF.g _ _ _ hw')).mono λe' w'' h=> ?_)
    obtain ⟨c1,rfl,hg,h1,ho⟩:=h;refine ⟨_,_,rfl,ay hGF,hw'.news am hg [(33,c1,(RW 24 (R24 oY uY) 4).map U64,298)] ?_ bQ,bO am O, ?_⟩
    ·intro n' b' c' t' hl
     rcases aI hl with ⟨_,e⟩|⟨_,hl⟩
     ·cases e;exact ⟨h1,ho⟩
     ·cases hl
    clear hw' hg h1 ho;refine aa<|aO (m:=4) [2,3,4,5] kr<|Cc O ent243 (λw' hC hG=>pt x _ w' hG (aG (n:=33) O w' hC))<|Mv O<|Ext O O<|Ext O O<|aa<|ew (m:=3) [6,7] kr kr dc<|?_;intro i hi;simp only[List.mem_cons,List.not_mem_nil,or_false]at hi;rcases hi with rfl|rfl
    ·exact bE 7 hGF zv78 O O O<|λb7=>aa<|aO (m:=2) [7] kr<|bE 8 hGF zv78 O O O<|λb8=>aa<|aO (m:=1) [8] kr<|Sa 7 hGF O O O aW<|aa<|aO (m:=0) [9] kr<|Sa 8 hGF O O O aW<|aa<|cF kr<|aB<|⟨rfl,(b7,b8),_,rfl,trv,trv⟩
    ·exact bE 8 hGF zv78 O O O<|λb8=>aa<|aO (m:=2) [6] kr<|bE 7 hGF zv78 O O O<|λb7=>aa<|aO (m:=1) [8] kr<|Sa 7 hGF O O O aW<|aa<|aO (m:=0) [9] kr<|Sa 8 hGF O O O aW<|aa<|cF kr<|aB<|⟨rfl,(b7,b8),_,rfl,trv,trv⟩
   ·refine bE 7 hGF zv78 O O O<|λb7=>aa<|ew (m:=7) [1,7] kr kr dc<|?_
    intro i hi;simp only[List.mem_cons,List.not_mem_nil,or_false]at hi;rcases hi with rfl|rfl
    ·refine bK O O ent245 O O (λw' hw'=>(jp w' (hGF.g _ _ _ hw')).mono λe' w'' h=> ?_)
     obtain ⟨c1,rfl,hg,h1,ho⟩:=h;refine ⟨_,_,rfl,ay hGF,hw'.news am hg [(33,c1,(RW 24 (R24 oY uY) 4).map U64,298)] ?_ bQ,bO am O, ?_⟩
     ·intro n' b' c' t' hl
      rcases aI hl with ⟨_,e⟩|⟨_,hl⟩
      ·cases e;exact ⟨h1,ho⟩
      ·cases hl
     clear hw' hg h1 ho;exact aa<|aO (m:=3) [2,3,4,5] kr<|Cc O ent243 (λw' hC hG=>pt x _ w' hG (aG (n:=33) O w' hC))<|Mv O<|Ext O O<|Ext O O<|aa<|aO (m:=2) [7] kr<|bE 8 hGF zv78 O O O<|λb8=>aa<|aO (m:=1) [8] kr<|Sa 7 hGF O O O aW<|aa<|aO (m:=0) [9] kr<|Sa 8 hGF O O O aW<|aa<|cF kr<|aB<|⟨rfl,(b7,b8),_,rfl,trv,trv⟩
    ·refine bE 8 hGF zv78 O O O<|λb8=>aa<|aO (m:=6) [1] kr<|?_
     refine bK O O ent245 O O (λw' hw'=>(jp w' (hGF.g _ _ _ hw')).mono λe' w'' h=> ?_);obtain ⟨c1,rfl,hg,h1,ho⟩:=h;refine ⟨_,_,rfl,ay hGF,hw'.news am hg [(33,c1,(RW 24 (R24 oY uY) 4).map U64,298)] ?_ bQ,bO am O, ?_⟩
     ·intro n' b' c' t' hl
      rcases aI hl with ⟨_,e⟩|⟨_,hl⟩
      ·cases e;exact ⟨h1,ho⟩
      ·cases hl
     clear hw' hg h1 ho;exact aa<|aO (m:=2) [2,3,4,5] kr<|Cc O ent243 (λw' hC hG=>pt x _ w' hG (aG (n:=33) O w' hC))<|Mv O<|Ext O O<|Ext O O<|aa<|aO (m:=1) [8] kr<|Sa 7 hGF O O O aW<|aa<|aO (m:=0) [9] kr<|Sa 8 hGF O O O aW<|aa<|cF kr<|aB<|⟨rfl,(b7,b8),_,rfl,trv,trv⟩
   ·refine bE 8 hGF zv78 O O O<|λb8=>aa<|ew (m:=7) [1,6] kr kr dc<|?_
    intro i hi;simp only[List.mem_cons,List.not_mem_nil,or_false]at hi;rcases hi with rfl|rfl
    ·refine bK O O ent245 O O (λw' hw'=>(jp w' (hGF.g _ _ _ hw')).mono λe' w'' h=> ?_)
     obtain ⟨c1,rfl,hg,h1,ho⟩:=h;refine ⟨_,_,rfl,ay hGF,hw'.news am hg [(33,c1,(RW 24 (R24 oY uY) 4).map U64,298)] ?_ bQ,bO am O, ?_⟩
     ·intro n' b' c' t' hl
      rcases aI hl with ⟨_,e⟩|⟨_,hl⟩
      ·cases e;exact ⟨h1,ho⟩
      ·cases hl
     clear hw' hg h1 ho;exact aa<|aO (m:=3) [2,3,4,5] kr<|Cc O ent243 (λw' hC hG=>pt x _ w' hG (aG (n:=33) O w' hC))<|Mv O<|Ext O O<|Ext O O<|aa<|aO (m:=2) [6] kr<|bE 7 hGF zv78 O O O<|λb7=>aa<|aO (m:=1) [8] kr<|Sa 7 hGF O O O aW<|aa<|aO (m:=0) [9] kr<|Sa 8 hGF O O O aW<|aa<|cF kr<|aB<|⟨rfl,(b7,b8),_,rfl,trv,trv⟩
    ·refine bE 7 hGF zv78 O O O<|λb7=>aa<|aO (m:=6) [1] kr<|?_
     refine bK O O ent245 O O (λw' hw'=>(jp w' (hGF.g _ _ _ hw')).mono λe' w'' h=> ?_);obtain ⟨c1,rfl,hg,h1,ho⟩:=h;refine ⟨_,_,rfl,ay hGF,hw'.news am hg [(33,c1,(RW 24 (R24 oY uY) 4).map U64,298)] ?_ bQ,bO am O, ?_⟩
     ·intro n' b' c' t' hl
      rcases aI hl with ⟨_,e⟩|⟨_,hl⟩
      ·cases e;exact ⟨h1,ho⟩
      ·cases hl
     clear hw' hg h1 ho;exact aa<|aO (m:=2) [2,3,4,5] kr<|Cc O ent243 (λw' hC hG=>pt x _ w' hG (aG (n:=33) O w' hC))<|Mv O<|Ext O O<|Ext O O<|aa<|aO (m:=1) [8] kr<|Sa 7 hGF O O O aW<|aa<|aO (m:=0) [9] kr<|Sa 8 hGF O O O aW<|aa<|cF kr<|aB<|⟨rfl,(b7,b8),_,rfl,trv,trv⟩
  ·rintro ⟨b7,b8⟩
   dsimp only;refine Xp<|La 6 O O aW<|La 8 O O aW<|Ca O (dG _ _)<|Al 9 hGF zv78<|λb9=>Sa 9 hGF O O O aW<|aa<|ae<|Xp<|La 9 O O aW<|Cbl false O ent175 (wJ _) (decide_eq_false (In h))<|aa<|aC O<|ap<|Xp<|La 9 O O aW<|Ca O (FC _)<|Al 10 hGF zv78<|λb10=>Sa 10 hGF O O O aW<|aa<|Xa [0,1,2,3,4,5,6,7,8,9,10,11,12,13,14,15] ⟨16,11,80,(GL gInf).map U64⟩ [17,18] (bD O zv80 O)<|La 5 O O aW<|La 8 O O aW<|Ca O (dG _ _)<|La 10 O O aW<|Ca O (XH h)<|La 3 O O aW<|La 7 O O aW<|Ca O (dG _ _)<|La 6 O O aW<|Ca O (dG _ _)<|La 10 O O aW<|Ca O (S9 h)<|Ca O (VB _ _ (nA.1 (xV h)))<|Mv O<|Ext O O<|Ext O O<|aa<|?_;refine ⟨_,_,rfl,hGF,by intro x hx;simp only[List.mem_cons,List.not_mem_nil,or_false]at hx;subst hx;rfl,by intro x hx;simp only[List.mem_cons,List.not_mem_nil,or_false]at hx;subst hx;rfl,λadr7=> ?_⟩
   refine Sa 11 hGF O O O cm<|Asg O<|aa<|Xp<|La 11 O O cm<|Sa 4 hGF O O O cm<|aa<|ak<|Rr<|?_;exact au 4 O O O isAgg80 sizeOf80 sm (λw hw=>⟨rfl,ab hw⟩)
theorem pmap{u x r:W2}(h:SwR u x r):PUR 174 [EV2 u] (PtV (UI x (sgS r u) h.on)):=by
 intro w hw;refine Hf func174 O hw<|λhGF=>Xp<|Bx 1 hGF O<|λb1=>Al 2 hGF zv80<|λb2=>aa<|Xp<|La 1 O O aW<|Ca O (pswu h)<|Ext O O<|Ext O O<|Ca O (piso _ _ h.on)<|Sa 2 hGF O O O cm<|aa<|ak<|Rr<|?_;exact au 2 O O O isAgg80 sizeOf80 sm (λw hw=>⟨rfl,ab hw⟩)
end
section
open Go.RowKit
attribute [local simp] a6 bv aH aA aQ aY aR aK aM PLl cJ cH N1l cI cL cK bf bB a7 bu List.length_append fY
theorem ent37:ai prog 37:=λ_ _=>kr
namespace Xm
theorem rnum(p1 p2:L8):PUR 84 [NV (WDs p1 PL p1.length),NV (WDs p2 PL p2.length)] (EV2 (ZB p1,ZB p2)):=by
 intro w hw;refine Hf func84 O hw<|λhGF=>Xp<|Bx 2 hGF O<|λb2=>Bx 3 hGF O<|λb3=>Al 4 hGF zv41<|λb4=>aa<|Xd []<|La 2 O O ce<|Ca O (SJ p1)<|La 3 O O ce<|Ca O (SJ p2)<|co rU O O sm sm O O<|Sa 4 hGF O O O bH<|aa<|ak<|Rr<|?_;exact au 4 O O O isAgg41 sizeOf41 sm (λw hw=>⟨rfl,ab hw⟩)
end Xm
end
section
open Go.RowKit
attribute [local simp] a6 bv aH aA aQ aY aR aK aM PLl cJ cH N1l cI cL cK bf bB a7 bu List.length_append fY cQ
namespace Xm
attribute [local simp] Sh.gH kJ qQ kc fA gb Sh.ca kj
theorem RW_s{s:Nat}(f:Nat->L6)(k:Nat)(h:(f k).length=s):RW s f (k+1)=RW s f k++f k:=List.ext_getElem? λm=>by
 rcases Nat.eq_zero_or_pos s with h0|h0
 ·subst h0
  rw[List.length_eq_zero_iff.1 h,List.append_nil,List.length_eq_zero_iff.1 (show (RW 0 f (k+1)).length=0 by rw[cQ];omega),List.length_eq_zero_iff.1 (show (RW 0 f k).length=0 by rw[cQ];omega)]
 by_cases h1:m<s*k
 ·rw[lI f (k+1) m (by rw[Nat.mul_succ];omega),List.getElem?_append_left (by rw[cQ];exact h1),lI f k m h1]
 ·by_cases h2:m<s*(k+1)
  ·have e:m=s*k+(m-s*k):=om
   have hlt:m-s*k<s:=by rw[Nat.mul_succ]at h2;omega
   have d1:m / s=k:=by rw[e,Nat.mul_add_div h0,Nat.div_eq_of_lt hlt,Nat.add_zero]
   have d2:m % s=m-s*k:=by conv=>lhs;rw[e,Nat.mul_add_mod,Nat.mod_eq_of_lt hlt]
   rw[lI f (k+1) m h2,List.getElem?_append_right (by rw[cQ];omega),cQ,d1,d2,List.getD_eq_getElem?_getD,List.getElem?_eq_getElem (by rw[h];exact hlt)];rfl
  ·rw[List.getElem?_eq_none (by rw[cQ];omega),List.getElem?_eq_none (by rw[List.length_append,cQ,h];rw[Nat.mul_succ]at h2;omega)]
theorem Je{own L:Hl}{n:Nat}{e:TypeId}{s:Nat}{a0:Option Addr}{cap nx:Nat}{xs:List Value}(h:OwnW own n e s a0 cap nx xs)(hl:lkB L n=lkB own n):OwnW L n e s a0 cap nx xs:=by
 unfold OwnW at*;rw[hl];exact h
theorem tiE:TI prog 41 (aJ (List.replicate 12 (0#64))) 12 96:=rJ kr
def N2(bs:L8)(i:Nat):W2:=(ZB ((bs.drop (128*i)).take 64),ZB ((bs.drop (128*i+64)).take 64))
def N2r(bs:L8)(i:Nat):L6:=fe (N2 bs i).1++fe (N2 bs i).2
theorem N2r_len(bs:L8)(i:Nat):(N2r bs i).length=12:=by rw[N2r,List.length_append,a6,a6]
theorem HY(e:Option Addr)(cap len:Nat)(bs:L8)(hb:bs.length=len)(hlen:len<=1000)(w:World)(hw:Gt w)(hby:BytesAt w e bs):CLS 85 [.slice e len cap,NV PL].toArray w (λr w'=>r=.returned (NV (WDs bs PL bs.length))/\Grow w w'):=by
 subst hb;exact vB e cap bs PL O om w hw hby
def At2(w0 w:World)(a:Option Addr)(n:Nat)(f:Nat->L6):Prop:=n=0\/∃b,a=some ⟨b,0,none⟩/\w0.heap.size<=b/\w.rangeAt b 0 ((RW 12 (f) n).map U64)
def FBad(msg dst:L8)(z:Int):Prop:=z<0\/32<z\/255<dst.length\/65536<msg.length
structure RFt(msg dst:L8)(z:Int)(w0 w:World)(v:Value):Prop where
 bad:FBad msg dst z->v=.tuple #[.slice none 0 0,I 130]
 ok: ¬FBad msg dst z->∃a cap,v=.tuple #[.slice a z.toNat cap,I 0]/\At2 w0 w a z.toNat (N2r (E msg dst (128*z.toNat)))
structure LfV(f:Nat->L6)(m:Nat) where
 (k:Nat) (a0:Option Addr) (cap:Nat) (own:Hl)
 hk:k<=m
 hs:OwnW own 50 41 12 a0 cap k ((RW 12 (f) k).map U64)
 ho:own=[]\/∃z,own=[(50,z)]
attribute [local simp] N2r_len
theorem Wv(bm:Nat)(a1:Option Addr)(cap1:Nat)(msg:L8)(a2:Option Addr)(cap2:Nat)(dst:L8)(z:Int)(h:z<0)(w:World)(hw:Gt w):CLS 37 [pnt bm,.slice a1 msg.length cap1,.slice a2 dst.length cap2,I z].toArray w (λe w'=>e=.returned (.tuple #[.slice none 0 0,I 130])/\Grow w w'):=by
 refine Hf func37 O hw<|λhGF=>ac (E:=EE [83])<|Asg O<|Asg O<|aa<|ae<|ac (E:=EE [83])<|Mv O<|Bnb true O O (λ_=>av _ _ _) (decide_eq_true om)<|Mv O<|Sk<|Sk<|Pk O O O<|aa<|aP O<|ac (E:=EE [83])<|Asg O<|Asg O<|aa<|ak<|Rr<|?_;exact cg O O O (λw hw=>⟨rfl,ab hw⟩)
theorem Td(bm:Nat)(a1:Option Addr)(cap1:Nat)(msg:L8)(a2:Option Addr)(cap2:Nat)(dst:L8)(z:Int)(h:32<z)(w:World)(hw:Gt w):CLS 37 [pnt bm,.slice a1 msg.length cap1,.slice a2 dst.length cap2,I z].toArray w (λe w'=>e=.returned (.tuple #[.slice none 0 0,I 130])/\Grow w w'):=by
 refine Hf func37 O hw<|λhGF=>ac (E:=EE [83])<|Asg O<|Asg O<|aa<|ae<|ac (E:=EE [83])<|Mv O<|Bnb false O O (λ_=>av _ _ _) (decide_eq_false om)<|Mv O<|Mv O<|Bnb true O O (λ_=>a9 _ _ _) (decide_eq_true om)<|Pk O O O<|aa<|aP O<|ac (E:=EE [83])<|Asg O<|Asg O<|aa<|ak<|Rr<|?_;exact cg O O O (λw hw=>⟨rfl,ab hw⟩)
theorem Wt(bm:Nat)(a1:Option Addr)(cap1:Nat)(msg:L8)(a2:Option Addr)(cap2:Nat)(dst:L8)(z:Int)(h0: ¬z<0)(h1: ¬32<z)(hl:255<dst.length\/65536<msg.length)(w:World)(hw:Gt w)(ho:OwnB w bm (Sh.MK.map U32) 94)(hb1:BytesAt w a1 msg)(hb2:BytesAt w a2 dst):CLS 37 [pnt bm,.slice a1 msg.length cap1,.slice a2 dst.length cap2,I z].toArray w (λe w'=>e=.returned (.tuple #[.slice none 0 0,I 130])/\Grow w w'):=by
 have hGF:BOk Gt (pl w):=gt_low.plain hw;have hgw:Grow w w:=Grow.refl w;refine Hd func37 O hGF<|ac (E:=EE [83])<|Asg O<|Asg O<|aa<|ae<|ac (E:=EE [83])<|Mv O<|Bnb false O O (λ_=>av _ _ _) (decide_eq_false om)<|Mv O<|Mv O<|Bnb false O O (λ_=>a9 _ _ _) (decide_eq_false om)<|Pk O O O<|aa<|aC O<|ap<|ac (E:=EE [83])<|Mv O<|Mv O<|Mv O<|Mv O<|Bnr O O (λ_=>bp _ _ _ oi)<|?_;refine jt O O ent83 O O gt_low (ay hGF) (λw' hC hG=>AM bm a1 cap1 msg a2 cap2 dst (128*z) w' hG (own_grow ho (hgw.trans (ab hC))) (hb1.grow (hgw.trans (ab hC))) (hb2.grow (hgw.trans (ab hC)))) (λw0 w1 v h0 hg hG1 hq=> ?_);replace hgw:=hgw.trans ((ab h0).trans hg);clear h0 hg hGF;have hGF:BOk Gt (pl w1):=gt_low.plain hG1;obtain rfl:=hq.bad (hl.elim (λh=>.inr (.inr (.inl h))) λh=>.inr (.inr (.inr h)));refine Mv O<|Ext O O<|Ext O O<|Asg O<|Asg O<|aa<|ae<|ac (E:=EE [83])<|Mv O<|Bnb true O O (λ_=>bz _ _ _) (rfl)<|aa<|aP O<|ac (E:=EE [83])<|Mv O<|Asg O<|Asg O<|aa<|ak<|Rr<|?_;exact cg O O O (λw hw=>⟨rfl,hgw.trans (ab hw)⟩)
theorem NK(bm:Nat)(a1:Option Addr)(cap1:Nat)(msg:L8)(a2:Option Addr)(cap2:Nat)(dst:L8)(n:Nat)(hn:n<=32)(hd:dst.length<=255)(hm:msg.length<=65536)(w:World)(hw:Gt w)(ho:OwnB w bm (Sh.MK.map U32) 94)(hb1:BytesAt w a1 msg)(hb2:BytesAt w a2 dst):CLS 37 [pnt bm,.slice a1 msg.length cap1,.slice a2 dst.length cap2,I (n:Int)].toArray w (λe w'=> ∃a cap,e=.returned (.tuple #[.slice a n cap,I 0])/\Grow w w'/\At2 w w' a n (N2r (E msg dst (128*n)))):=by
 have hGF:BOk Gt (pl w):=gt_low.plain hw;have hgw:Grow w w:=Grow.refl w;refine Hd func37 O hGF<|ac (E:=EE [83])<|Asg O<|Asg O<|aa<|ae<|ac (E:=EE [83])<|Mv O<|Bnb false O O (λ_=>av _ _ _) (decide_eq_false om)<|Mv O<|Mv O<|Bnb false O O (λ_=>a9 _ _ _) (decide_eq_false om)<|Pk O O O<|aa<|aC O<|ap<|ac (E:=EE [83])<|Mv O<|Mv O<|Mv O<|Mv O<|Bnr O O (λ_=>bp _ _ _ oi)<|?_;refine jt O O ent83 O O gt_low (ay hGF) (λw' hC hG=>AM bm a1 cap1 msg a2 cap2 dst (128*(n:Int)) w' hG (own_grow ho (hgw.trans (ab hC))) (hb1.grow (hgw.trans (ab hC))) (hb2.grow (hgw.trans (ab hC)))) (λw0 w1 v h0 hg hG1 hq=> ?_);replace hgw:=hgw.trans ((ab h0).trans hg);clear h0 hg hGF;have hGF:BOk Gt (pl w1):=gt_low.plain hG1;obtain ⟨xa,xc,rfl,hx,hle⟩:=hq.ok (by rintro (h|h|h|h)<;>omega)
 rw[show ((128:Int)*(n:Int)).toNat=128*n by omega]at*
 have hxc:128*n<=xc:=by rw[ki]at hle;exact hle
 refine Mv O<|Ext O O<|Ext O O<|Asg O<|Asg O<|aa<|ae<|ac (E:=EE [83])<|Mv O<|Bnb false O O (λ_=>bz _ _ _) (rfl)<|aa<|aC O<|ap<|ac (E:=EE [83])<|Asg O<|aa<|ae<|ac (E:=EE [83])<|Asg O<|aa<|ah<|bG (ι:=LfV (N2r (E msg dst (128*n))) n) (λz=>[(3,I (n:Int)),(10,.slice xa (E msg dst (128*n)).length xc),(12,.slice z.a0 z.k z.cap),(13,I (z.k:Int))]) (λz=>z.own) (λz=>n-z.k) ⟨0,none,0,[],om,vP _ _ _ _,.inl O⟩ hGF trv trivial<|?_;rintro ⟨k,a0,cap,own,hk,hs,hown⟩;dsimp only at hs hown⊢;refine ae<|ac (E:=EE [83])<|Mv O<|Mv O<|Bnr O O (λ_=>av _ _ _)<|aa<|?_;refine bC O (λhc=> ?_) (λhc=> ?_)
 ·have hlt:k<n:=by simp at hc;omega
  clear hc;refine ap<|ae<|ah<|Xe [83]<|Mv O<|Mv O<|Mv O<|Bnr (v:=I ((128*k:Nat):Int)) O O (λ_=>(bp _ _ _ oi).trans (by rw[show (128:Int)*(k:Int)=((128*k:Nat):Int) by omega]))<|Mv O<|Bnr (v:=I ((128*k:Nat):Int)) O O (λ_=>(bp _ _ _ oi).trans (by rw[show (128:Int)*(k:Int)=((128*k:Nat):Int) by omega]))<|Bnr (v:=I ((128*k+64:Nat):Int)) O O (λ_=>(aq _ _ _ oi).trans rr)<|f9 (l:=128*k) (h':=128*k+64) O underlying22 sizeOf5 O O om O O<|Ca O (gJ)<|Cc O ent85 (λw' hC hG=>HY _ _ _ (((E msg dst (128*n)).drop (128*k)).take 64) (by rw[List.length_take,List.length_drop,ki];omega) om w' hG ((hx.cut (128*k) 64 hle).grow (ab hC)))<|Mv O<|Mv O<|Bnr (v:=I ((128*k:Nat):Int)) O O (λ_=>(bp _ _ _ oi).trans (by rw[show (128:Int)*(k:Int)=((128*k:Nat):Int) by omega]))<|Bnr (v:=I ((128*k+64:Nat):Int)) O O (λ_=>(aq _ _ _ oi).trans rr)<|Mv O<|Bnr (v:=I ((128*k:Nat):Int)) O O (λ_=>(bp _ _ _ oi).trans (by rw[show (128:Int)*(k:Int)=((128*k:Nat):Int) by omega]))<|Bnr (v:=I ((128*k+128:Nat):Int)) O O (λ_=>(aq _ _ _ oi).trans rr)<|f9 (l:=128*k+64) (h':=128*k+128) O underlying22 sizeOf5 O O om O O<|Ca O (gJ)<|Cc O ent85 (λw' hC hG=>HY _ _ _ (((E msg dst (128*n)).drop (128*k+64)).take 64) (by rw[List.length_take,List.length_drop,ki];omega) om w' hG ((hx.cut (128*k+64) 64 hle).grow (ab hC)))<|Ca O (rnum (((E msg dst (128*n)).drop (128*k)).take 64) (((E msg dst (128*n)).drop (128*k+64)).take 64))<|u5 58 ((N2r (E msg dst (128*n)) k).map U64) hGF O sm dc dc underlying85 sizeOf41 zv41 O O<|?_
  intro b58;refine qA (s:=12) (nx:=k) (ny:=1) (xs:=(RW 12 ((N2r (E msg dst (128*n)))) k).map U64) (ys:=(N2r (E msg dst (128*n)) k).map U64) 50 hGF O O underlying85 underlying85 tiE O (Je hs O) sm (λw' h=>aG (n:=58) O w' h) (ba _) dc om om O O (λbA cA capA eA lA tA=> ?_);refine Asg O<|aa<|bF (E:=EE [83])<|Mv O<|Bnr (v:=I ((k+1:Nat):Int)) O O (λ_=>(aq _ _ _ oi).trans rr)<|Asg O<|aa<|?_
  repeat (first|refine aL ?_|refine ck ?_)
  refine aB ?_;have eR:(RW 12 ((N2r (E msg dst (128*n)))) (k+1)).map U64=(RW 12 ((N2r (E msg dst (128*n)))) k).map U64++(N2r (E msg dst (128*n)) k).map U64:=by rw[RW_s _ k (N2r_len _ _),List.map_append]
  exact ⟨rfl,⟨k+1,some ⟨bA,0,none⟩,capA,[(50,bA,cA,41)],om,.inr ⟨bA,cA,rfl,rfl,eA,om,by simp;omega,by rw[eR];exact tA⟩,.inr ⟨_,rfl⟩⟩,_,by show n-(k+1)<n-k;omega,rfl,trv,trv⟩
 ·obtain rfl:k=n:=by simp at hc;omega
  clear hc;refine aU<|ac (E:=EE [83])<|Mv O<|Asg O<|Asg O<|aa<|ak<|?_
  repeat (first|refine bJ ?_|refine bI ?_|refine eY ?_)
  rcases hs with ⟨rfl,_,rfl,_⟩|⟨b,c,rfl,hl,_,_,_,ht⟩
  ·exact cg O O O (λw hw=>⟨_,_,rfl,hgw.trans (ab hw),.inl O⟩)
  ·refine cg O O O (λw hw=>⟨_,_,rfl,hgw.trans (ab hw),.inr ⟨b,rfl,(hw.own _ b c _ hl).2.elim (λh=>Nat.le_trans hgw.size h) False.elim,λj v hv=> ?_⟩⟩)
   rw[Nat.zero_add];refine cM hl ?_ w hw;rw[<-ht,List.getElem?_take]at hv;split at hv
   ·exact hv
   ·cases hv
end Xm
end
section
open Go.RowKit
attribute [local simp] a6 bv aH aA aQ aY aR aK aM PLl cJ cH N1l cI cL cK bf bB a7 bu List.length_append fY cQ
namespace Xm
attribute [local simp] Sh.gH kJ qQ kc fA gb Sh.ca kj
attribute [local simp] N2r_len
theorem rfields(bm:Nat)(a1:Option Addr)(cap1:Nat)(msg:L8)(a2:Option Addr)(cap2:Nat)(dst:L8)(z:Int)(w:World)(hw:Gt w)(ho:OwnB w bm (Sh.MK.map U32) 94)(hb1:BytesAt w a1 msg)(hb2:BytesAt w a2 dst):CLS 37 [pnt bm,.slice a1 msg.length cap1,.slice a2 dst.length cap2,I z].toArray w (λe w'=> ∃v,e=.returned v/\Grow w w'/\RFt msg dst z w w' v):=by
 have err:FBad msg dst z->∀{e:Ending} {w':World},e=.returned (.tuple #[.slice none 0 0,I 130])/\Grow w w'->∃v,e=.returned v/\Grow w w'/\RFt msg dst z w w' v:=λhb _ _ h=>⟨_,h.1,h.2,λ_=>rfl,λhn=>absurd hb hn⟩;by_cases h0:z<0
 ·exact (Wv bm a1 cap1 msg a2 cap2 dst z h0 w hw).mono λ_ _ h=>err (.inl h0) h
 by_cases h1:32<z
 ·exact (Td bm a1 cap1 msg a2 cap2 dst z h1 w hw).mono λ_ _ h=>err (.inr (.inl h1)) h
 by_cases h2:255<dst.length\/65536<msg.length
 ·exact (Wt bm a1 cap1 msg a2 cap2 dst z h0 h1 h2 w hw ho hb1 hb2).mono λ_ _ h=>err (.inr (.inr h2)) h
 obtain ⟨n,rfl⟩: ∃n:Nat,z=(n:Int):=⟨z.toNat,om⟩;refine (NK bm a1 cap1 msg a2 cap2 dst n om om om w hw ho hb1 hb2).mono λe w' ⟨a,cap,he,hg,hc⟩=>⟨_,he,hg,λhb=>absurd hb ?_,λ_=>⟨a,cap,rfl,hc⟩⟩;rintro (h|h|h|h)<;>omega
def PFC:Prop:= ∀(a1:Option Addr) (cap1:Nat) (msg:L8) (a2:Option Addr) (cap2:Nat) (dst:L8) (z:Int) (w:World),msg.length<=100000->msg.length<=cap1->dst.length<=100000->dst.length<=cap2->Gt w->BytesAt w a1 msg->BytesAt w a2 dst->CLS 171 [.slice a1 msg.length cap1,.slice a2 dst.length cap2,I z].toArray w (λe w'=> ∃v,e=.returned v/\Grow w w'/\RFt msg dst z w w' v)
end Xm
end
def HEF:Nat:=0xbc69f08f2ee75b3584c6a0ea91b352888e2a8e9145ad7689986ff031508ffe1329c2f178731db956d82bf015d1212b02ec0ec69d7477c1ae954cbc06689f6a359894c0adebbf6b4e8020005aaa95551
theorem sV{a x y:W2}(ha:a≠ze2)(h:ml2 a x=ml2 a y):x=y:=by
 have e:=dD ha;generalize iv2 a=s at*;exact zl R2 [a,s,x,y] 0x8 0x44575695382592 0x9 0x445756853856759567 (lca (lca (lcm h) (lcm e)) (lcm e))
theorem QW{n s:Zp}(h:s*s= -n)(hn:n≠0): ¬IsQ n:=by
 rcases kF (a:=n) (b:= -n) (c:=n) (by grind) hn with k|k
 ·exact absurd (pF h) k.2
 ·exact k.1
theorem Nj{u X:W2}(h:tu2 u≠ze2)(e:ml2 (ml2 OA X) (tu2 u)=ml2 (ng2 OB) (ad2 (tu2 u) on2)):x1O u=X:=by
 have k:=(Nh h).trans e.symm;have sw: ∀a x t:W2,ml2 (ml2 a x) t=ml2 (ml2 a t) x:=λa x t=>zx R2 [a,x,t] 0x55678 0x55687;rw[sw,sw OA X]at k;exact sV (λq=>(g9 q).elim Ad h) k
theorem Pn{u X R x r:W2}(h:tu2 u≠ze2)(e:ml2 (ml2 OA X) (tu2 u)=ml2 (ng2 OB) (ad2 (tu2 u) on2))(hr:ml2 R R=gO X)(hl:LG2 R=false)(s:SwR u x r):x=X/\r=R:=by
 have k:=Nj h e;have hx:x=X:=s.at1.elim (λq=>q.trans k) (λq=>absurd ((kw _).1 ⟨R,hr⟩) (k▸q.1));exact ⟨hx,jw hr hl (hx▸s.sq) s.lg⟩
theorem P5{u X X' R x r:W2}{q:Zp}(h:tu2 u≠ze2)(e:ml2 (ml2 OA X) (tu2 u)=ml2 (ng2 OB) (ad2 (tu2 u) on2))(hn:q*q= -(nm2 (gO X)))(h0:nm2 (gO X)≠0)(hx':ml2 (zu2 u) X=X')(hr:ml2 R R=gO X')(hl:LG2 R=false)(s:SwR u x r):x=X'/\r=R:=by
 have k:=Nj h e;have hx:x=X':=s.at1.elim (λj=>absurd (fM (j.trans k▸s.sq)) (QW hn h0)) (λj=>by rw[j.2,k];exact hx')
 exact ⟨hx,jw hr hl (hx▸s.sq) s.lg⟩
theorem Nb{x X:W2}(h:R2.pev iXD x≠ze2)(e:ml2 (R2.pev iXD x) X=R2.pev iXN x):XIs x=X:=by
 refine sV h (Eq.trans ?_ e.symm);have k:=dD h;unfold XIs;generalize R2.pev iXD x=d at*;generalize R2.pev iXN x=n at*;generalize iv2 d=s at*;exact zk R2 [d,n,s] 0x56578 0x7 0x7 0x2 0x568 k
theorem MB{x y Y:W2}(h:R2.pev iYD x≠ze2)(e:ml2 (R2.pev iYD x) Y=ml2 y (R2.pev iYN x)):YIs x y=Y:=by
 refine sV h (Eq.trans ?_ e.symm);have k:=dD h;unfold YIs;generalize R2.pev iYD x=d at*;generalize ml2 y (R2.pev iYN x)=n at*;generalize iv2 d=s at*;exact zk R2 [d,n,s] 0x56578 0x7 0x7 0x2 0x568 k
theorem Fo:kq (dI 636 HEF []) 0=HEF:=by decide+kernel
section
open J2
open Go.RowKit
attribute [local simp] a6 bv aH aA aQ aY aR aK aM PLl cJ cH N1l cI cL cK bf bB a7 bu bx cQ dC Xm.N2r_len
theorem ent86:ai prog 86:=λ_ _=>kr
theorem ent9:ai prog 9:=λ_ _=>kr
def dgt(c:BitVec 8):BitVec 8:=if 97#8<=c then c-97#8+10#8 else c-48#8
theorem vR(c:BitVec 8):PUR 137 [U8 c] (U8 (dgt c)):=by
 intro w hw;have hGF:BOk Gt (pl w):=gt_low.plain hw;by_cases h:97#8<=c
 ·rw[show dgt c=_ from if_pos h]
  refine Hd func137 O hGF<|Xp<|Asg O<|aa<|ae<|Xp<|Mv O<|Bnb true O O (λ_=>o9 _ _ 97#8) (decide_eq_true h)<|aa<|aP O<|Xp<|Mv O<|Bnr O O (λ_=>qV _ _ _)<|Bnr O O (λ_=>xA _ _ _)<|Asg O<|aa<|ak<|Rr<|?_;exact aE O O (λw hw=>⟨rfl,ab hw⟩)
 ·rw[show dgt c=_ from if_neg h]
  refine Hd func137 O hGF<|Xp<|Asg O<|aa<|ae<|Xp<|Mv O<|Bnb false O O (λ_=>o9 _ _ 97#8) (decide_eq_false h)<|aa<|aC O<|ap<|Xp<|Mv O<|Bnr O O (λ_=>qV _ _ _)<|Asg O<|aa<|ak<|Rr<|?_;exact aE O O (λw hw=>⟨rfl,ab hw⟩)
def HXL:List UInt8:=(List.append (List.append [48,98,99,54,57,102,48,56,102,50,101,101,55,53,98,51,53,56,52,99,54,97,48,101,97,57,49,98,51,53,50,56,56,56,101,50,97,56,101,57] [49,52,53,97,100,55,54,56,57,57,56,54,102,102,48,51,49,53,48,56,102,102,101,49,51,50,57,99,50,102,49,55,56,55,51,49,100,98,57,53]) (List.append [54,100,56,50,98,102,48,49,53,100,49,50,49,50,98,48,50,101,99,48,101,99,54,57,100,55,52,55,55,99,49,97,101,57,53,52,99,98,99,48] [54,54,56,57,102,54,97,51,53,57,56,57,52,99,48,97,100,101,98,98,102,54,98,52,101,56,48,50,48,48,48,53,97,97,97,57,53,53,53,49]))
def HX:L8:=[48#8,98#8,99#8,54#8,57#8,102#8,48#8,56#8,102#8,50#8,101#8,101#8,55#8,53#8,98#8,51#8,53#8,56#8,52#8,99#8,54#8,97#8,48#8,101#8,97#8,57#8,49#8,98#8,51#8,53#8,50#8,56#8,56#8,56#8,101#8,50#8,97#8,56#8,101#8,57#8,49#8,52#8,53#8,97#8,100#8,55#8,54#8,56#8,57#8,57#8,56#8,54#8,102#8,102#8,48#8,51#8,49#8,53#8,48#8,56#8,102#8,102#8,101#8,49#8,51#8,50#8,57#8,99#8,50#8,102#8,49#8,55#8,56#8,55#8,51#8,49#8,100#8,98#8,57#8,53#8,54#8,100#8,56#8,50#8,98#8,102#8,48#8,49#8,53#8,100#8,49#8,50#8,49#8,50#8,98#8,48#8,50#8,101#8,99#8,48#8,101#8,99#8,54#8,57#8,100#8,55#8,52#8,55#8,55#8,99#8,49#8,97#8,101#8,57#8,53#8,52#8,99#8,98#8,99#8,48#8,54#8,54#8,56#8,57#8,102#8,54#8,97#8,51#8,53#8,57#8,56#8,57#8,52#8,99#8,48#8,97#8,100#8,101#8,98#8,98#8,102#8,54#8,98#8,52#8,101#8,56#8,48#8,50#8,48#8,48#8,48#8,53#8,97#8,97#8,97#8,57#8,53#8,53#8,53#8,49#8]
def HBs:L8:=[11#8,198#8,159#8,8#8,242#8,238#8,117#8,179#8,88#8,76#8,106#8,14#8,169#8,27#8,53#8,40#8,136#8,226#8,168#8,233#8,20#8,90#8,215#8,104#8,153#8,134#8,255#8,3#8,21#8,8#8,255#8,225#8,50#8,156#8,47#8,23#8,135#8,49#8,219#8,149#8,109#8,130#8,191#8,1#8,93#8,18#8,18#8,176#8,46#8,192#8,236#8,105#8,215#8,71#8,124#8,26#8,233#8,84#8,203#8,192#8,102#8,137#8,246#8,163#8,89#8,137#8,76#8,10#8,222#8,187#8,246#8,180#8,232#8,2#8,0#8,5#8,170#8,169#8,85#8,81#8]
theorem Pz: ∀i:Fin 160,HXL.toArray[i.val]? =some (UInt8.ofBitVec (HX.getD i.val 0)):=by decide+kernel
theorem MX{i:Nat}{z:Int}(hz:z=(i:Int))(h:i<160):HXL.toArray[z.toNat]? =some (UInt8.ofBitVec (HX.getD i 0)):=by
 subst hz;rw[Int.toNat_natCast];exact Pz ⟨i,h⟩
theorem Ke: ∀k:Fin 80,dgt (HX.getD (2*k.val) 0)<<<(4#64).toNat|||dgt (HX.getD (2*k.val+1) 0)=HBs.getD k.val 0:=by decide+kernel
theorem Nw{k:Nat}(h:k<80):dgt (HX.getD (2*k) 0)<<<(4#64).toNat|||dgt (HX.getD (2*k+1) 0)=HBs.getD k 0:=Ke ⟨k,h⟩
theorem Jc:HBs.length=80:=rfl
def HBk(k:Nat):List Value:=(HBs.take k).map U8
theorem mm{k:Nat}(h:k<=80):(HBk k).length=k:=by rw[HBk,List.length_map,List.length_take,show HBs.length=80 from O];omega
theorem He{k:Nat}(h:k<80):HBk k++[U8 (HBs.getD k 0)]=HBk (k+1):=by
 rw[HBk,HBk,List.take_add_one,List.getD_eq_getElem?_getD,List.getElem?_eq_getElem (show k<HBs.length from h),List.map_append];rfl
theorem Kw:HBk 80=HBs.map U8:=rfl
theorem ti5s:TI prog 5 (.int .u8 0) 1 1:=rJ kr
structure AppV(f:Nat->List Value)(e N:Nat) where
 (k:Nat) (a0:Option Addr) (cap:Nat) (own:Hl)
 hk:k<=N
 hs:OwnV own 50 e a0 cap (f k)
theorem OwnV.skip{L:Hl}{n:Nat}{e:TypeId}{a0:Option Addr}{cap:Nat}{xs:List Value}(h:OwnV L n e a0 cap xs)(m:Nat){x:Nat×List Value×TypeId}(hm:Nat.beq m n=false):OwnV ((m,x)::L) n e a0 cap xs:=by
 rcases h with h|⟨b,c,h1,h2,h3⟩
 ·exact .inl h
 ·exact .inr ⟨b,c,h1,by show (bif Nat.beq m n then some x else lkB L n)=_;rw[hm];exact h2,h3⟩
theorem Px(w:World)(hw:Gt w):CLS 86 [].toArray w (λe w'=> ∃b c cap,e=.returned (.slice (spt b) 80 cap)/\Grow w w'/\w.heap.size<=b/\OwnB w' b c 5/\c.take HBs.length=HBs.map U8):=by
 have hGF:BOk Gt (pl w):=gt_low.plain hw;have fin: ∀{L:Hl} {a0:Option Addr} {cap:Nat} {w':World},OwnV L 50 5 a0 cap (HBk 80)->Hp (pl w) L w'->∃b c cap',Ending.returned (.slice a0 (HBk 80).length cap)=.returned (.slice (spt b) 80 cap')/\Grow w w'/\w.heap.size<=b/\OwnB w' b c 5/\c.take HBs.length=HBs.map U8:=λ{L a0 cap w'} h hp=>by
  rcases h with ⟨_,h,_⟩|⟨b,c,rfl,hl,hc,hle,ht⟩
  ·have e:=mm (k:=80) om;rw[h]at e;cases e
  ·refine ⟨b,c,cap,by rw[mm om],ab hp,(hp.own _ _ _ _ hl).2.elim id False.elim,(hp.own _ _ _ _ hl).1, ?_⟩
   rw[mm om,Kw]at ht;exact ht
 refine Hd func86 O hGF<|Xp<|Asg O<|aa<|Xp<|Asg O<|aa<|ae<|Xp<|Asg O<|aa<|ah<|bG (ι:=AppV HBk 5 80) (λx=>[(1,.slice x.a0 (HBk x.k).length x.cap),(2,I ((2*x.k:Nat):Int))]) (λx=>x.own) (λx=>80-x.k) ⟨0,none,0,[],om,Dh _ _ _⟩ hGF trv trivial<|?_;rintro ⟨k,a0,cap,own,hk,hs⟩;dsimp only at hs⊢;refine ae<|Xp<|Mv O<|Bnr (v:=.bool (decide (k<80))) O O (λ_=>(av _ _ _).trans (by rw[show decide (((2*k:Nat):Int)<160)=decide (k<80)from decide_eq_decide.2 om]))<|aa<|?_
 refine bC O (λhc=> ?_) (λhc=> ?_)
 ·have hk2:k<80:=by simpa using hc
  refine ap<|ae<|ah<|Xe []<|Mv O<|Mv O<|uq (n:=HX.getD (2*k) 0) O O underlying9 om (MX (i:=2*k) (rfl) om) O O<|Ca O (vR _)<|Bnr (v:=U8 (dgt (HX.getD (2*k) 0)<<<(4#64).toNat)) O O (λ_=>xl _ _ 4#64)<|Mv O<|Bnr (v:=I (((2*k:Nat):Int)+1)) O O (λ_=>aq _ _ _ oi)<|uq (n:=HX.getD (2*k+1) 0) O O underlying9 om (MX (i:=2*k+1) om om) O O<|Ca O (vR _)<|Bnr (v:=U8 (HBs.getD k 0)) O O (λ_=>(gz _ _ _).trans (by rw[Nw hk2]))<|sF 17 [U8 (HBs.getD k 0)] hGF O O O dc dc underlying22 sizeOf5 zeroValue5 O O O<|?_
  intro b17;refine wV (xs:=HBk k) (ys:=[U8 (HBs.getD k 0)]) 50 hGF O O underlying22 underlying22 ti5s O (hs.skip 17 O) (λw' h=>aG (n:=17) O w' h) O sm (by rw[mm hk];show (k+1)*1<=_;omega) (by rw[mm hk];show k+1<=_;omega) O O (λbA cA capA eA lA tA=> ?_)
  subst eA;rw[He hk2]at lA tA⊢;refine Asg O<|aa<|Xq<|Mv O<|Bnr (v:=I ((2*(k+1):Nat):Int)) O O (λ_=>(aq _ _ _ oi).trans (by rw[show ((2*k:Nat):Int)+2=((2*(k+1):Nat):Int) by omega]))<|Asg O<|aa<|?_
  repeat (refine aL ?_)
  exact aB<|⟨rfl,⟨k+1,some ⟨bA,0,none⟩,_,[(50,bA,cA,5)],om,.inr ⟨bA,cA,rfl,rfl,rfl,lA,tA⟩⟩,_,by show 80-(k+1)<80-k;omega,rfl,trv,trv⟩
 ·obtain rfl:k=80:=by simp at hc;omega
  refine aU<|Xp<|Mv O<|Asg O<|aa<|ak<|Rr<|?_;exact aE O O (λw' hw'=>fin hs hw')
def RH(x:W6):W6:=RMJ x HBs (8*HBs.length)
theorem yx(x:W6)(e:Option Addr)(cap:Nat)(bs:L8)(n:Nat)(hn:bs.length=n)(hl:n<=4096)(y:W6)(hy:RMJ x bs (8*bs.length)=y)(w:World)(hw:Gt w)(hby:BytesAt w e bs):CLS 18 [EV6 x,.slice e n cap].toArray w (λr w'=>r=.returned (EV6 y)/\Grow w w'):=by
 subst hn hy;exact vg x e cap bs hl w hw hby
theorem Oc(x:W6)(b cap:Nat)(c:List Value)(w:World)(hw:Gt w)(h:w.rangeAt b 0 c)(ht:c.take HBs.length=HBs.map U8):CLS 18 [EV6 x,.slice (spt b) 80 cap].toArray w (λr w'=>r=.returned (EV6 (RH x))/\Grow w w'):=
 yx x (spt b) cap HBs 80 Jc dc (RH x) O w hw (cB h ht)
theorem Lc{x:W6}{P Q:Pt W2}(hP:E2w.onP P)(hx:E2w.jr x P)(bs:L8)(m:Nat)(hn:BN bs bs.length=m)(y:W6)(hy:y=RMJ x bs (8*bs.length))(hQ:E2w.times P m=Q):E2w.jr y Q:=by
 subst hn hy hQ;rw[<-gE];exact zN hP hx bs (8*bs.length)
theorem Mh:BN HBs HBs.length=HEF:=by decide+kernel
theorem TD(x:W6):RH x=RMJ x HBs (8*HBs.length):=by rw[RH]
theorem SV{x:W6}{P Q:Pt W2}(hP:E2w.onP P)(hx:E2w.jr x P)(hQ:E2w.times P HEF=Q):E2w.jr (RH x) Q:=Lc hP hx HBs HEF Mh (RH x) (TD x) hQ
theorem Dt(x:W6):PUR 38 [EV6 x] (EV6 (RH x)):=by
 intro w hw;refine Hf func38 O hw<|λhGF=>Xp<|Bx 1 hGF O<|λb1=>Al 2 hGF zv43<|λb2=>aa<|oz (EE [86,2000086]) cY kr kr<|aO (m:=0) [0,1,2,3] kr<|La 1 O O jL<|?_;refine bK O O ent86 O O (λw' hw'=>(Px w' (hGF.g _ _ _ hw')).mono λe' w'' h=> ?_);obtain ⟨c1,cc,cp,rfl,hg,h1,ho,ht⟩:=h;refine ⟨_,_,rfl,ay hGF,hw'.news am hg [(33,c1,cc,5)] ?_ bQ,bO am O, ?_⟩
 ·intro n' b' c' t' hl
  rcases aI hl with ⟨_,e⟩|⟨_,hl⟩
  ·cases e;exact ⟨h1,ho⟩
  ·cases hl
 clear hw' hg h1 ho;refine Cc O ent18 (λw' hC hG=>Oc x _ _ _ w' hG (aG (n:=33) O w' hC) ht)<|Sa 2 hGF O O O jL<|aa<|cF kr<|aB<|ak<|Rr<|?_;exact au 2 O O O isAgg43 sizeOf43 sm (λw hw=>⟨rfl,ab hw⟩)
end
section
open J2
open Go.RowKit
attribute [local simp] a6 bv aH aA aQ aY aR aK aM PLl cJ cH N1l cI cL cK bf bB a7 bu bx cQ dC Xm.N2r_len
def U2n(msg dst:L8)(i:Nat):W2:=Xm.N2 (Xm.E msg dst 256) i
abbrev U2c(msg dst:L8):List Value:=(RW 12 (Xm.N2r (Xm.E msg dst 256)) 2).map U64
def SwA(u:W2)(A:W2×W2):Prop:= ∃x r,SwR u x r/\(XIs x,YIs x (sgS r u))=A
theorem HH(u:W2): ∃A,SwA u A:=by
 obtain ⟨x,r,h⟩:=Nr u;exact ⟨_,x,r,h,rfl⟩
theorem s9{u:W2}{A:W2×W2}(h:SwA u A):E2w.on A:=by
 obtain ⟨x,r,s,rfl⟩:=h;exact xV s.on
theorem KY{u:W2}{A:W2×W2}(h:SwA u A):PUR 39 [EV2 u] (EV6 (A.1,A.2,on2)):=by
 obtain ⟨x,r,s,rfl⟩:=h;exact rmap s
def RHf(A B:W2×W2):W6:=RH (E2w.jaF (A.1,A.2,on2) (B.1,B.2,on2))
theorem DB(A B:W2×W2):PUR 38 [EV6 (E2w.jaF (A.1,A.2,on2) (B.1,B.2,on2))] (EV6 (RHf A B)):=by
 rw[RHf];exact Dt _
structure Sw2(msg dst:L8)(A B:W2×W2):Prop where
 s0:SwA (U2n msg dst 0) A
 s1:SwA (U2n msg dst 1) B
theorem rH{msg dst:L8}{w0 w:World}{v:Value}(h:Xm.RFt msg dst 2 w0 w v)(hb: ¬Xm.FBad msg dst 2): ∃b cap,v=.tuple #[.slice (spt b) 2 cap,I 0]/\w0.heap.size<=b/\w.rangeAt b 0 (U2c msg dst):=by
 obtain ⟨a,cap,hv,ha⟩:=h.ok hb;obtain ⟨b,rfl,hs,hr⟩:=ha.resolve_left dc;exact ⟨b,cap,hv,hs,hr⟩
theorem y0{msg dst:L8}{w:World}{b:Nat}(h:w.rangeAt b 0 (U2c msg dst)):b<w.heap.size:=by
 have hl:0<(U2c msg dst).length:=by simp[U2c]
 exact block_lt_of_cell (h 0 _ (List.getElem?_eq_getElem hl))
theorem F9{msg dst:L8}{w:World}{b:Nat}(h:w.rangeAt b 0 (U2c msg dst))(i:Nat)(hi:i<2):w.rangeAt b (0+12*i) ((fe (U2n msg dst i).1++fe (U2n msg dst i).2).map U64):=gD h hi (Xm.N2r_len _ _)
theorem HE(bm:Nat)(a1:Option Addr)(cap1:Nat)(msg:L8)(a2:Option Addr)(cap2:Nat)(dst:L8)(w:World)(hw:Gt w)(ho:OwnB w bm (Sh.MK.map U32) 94)(hb1:BytesAt w a1 msg)(hb2:BytesAt w a2 dst)(hbad: ¬Xm.FBad msg dst 2){A B:W2×W2}(h:Sw2 msg dst A B):CLS 9 [pnt bm,.slice a1 msg.length cap1,.slice a2 dst.length cap2].toArray w (λe w'=>e=.returned (.tuple #[EV6 (RHf A B),I 0])/\Grow w w'):=by
 refine Hf func9 O hw<|λhGF=>ac (E:=EE [37,2000037])<|Al 6 hGF zv43<|λb6=>Asg O<|aa<|ac (E:=EE [37,2000037])<|Mv O<|Mv O<|Mv O<|?_;refine bK O O ent37 O O (λw' hw'=>(Xm.rfields bm a1 cap1 msg a2 cap2 dst 2 w' (hGF.g _ _ _ hw') (Xm.own_grow ho (ab hw')) (hb1.grow (ab hw')) (hb2.grow (ab hw'))).mono λe w'' h=> ?_);obtain ⟨v,rfl,hg,hq⟩:=h;obtain ⟨b,cap,rfl,hbs,hbr⟩:=rH hq hbad;refine ⟨_,_,rfl,ay (mi hGF),DJ hw' am hg hbs (y0 hbr) hbr,λ_ h=>ji h, ?_⟩;clear hq hg hw' hbs hbr;refine Mv O<|Ext O O<|Ext O O<|Asg O<|Asg O<|aa<|ae<|ac (E:=EE [37,2000037])<|Mv O<|Bnb false O O (λ_=>bz _ _ _) (rfl)<|aa<|aC O<|ap<|Xd [37,2000037]<|Mv O<|iG (s:=12) 0 O O underlying85 sizeOf41 dc dc O O<|de (cs:=(fe (U2n msg dst 0).1++fe (U2n msg dst 0).2).map U64) O isAgg41 sizeOf41 sm (λw' h'=>F9 (wF h') 0 dc) O O<|Ca O (KY h.s0)<|Mv O<|iG (s:=12) 1 O O underlying85 sizeOf41 dc dc O O<|de (cs:=(fe (U2n msg dst 1).1++fe (U2n msg dst 1).2).map U64) O isAgg41 sizeOf41 sm (λw' h'=>F9 (wF h') 1 dc) O O<|Ca O (KY h.s1)<|Ca O (F7 _ _)<|Ca O (DB _ _)<|Sa 6 (mi hGF) O O O jL<|Asg O<|aa<|ak<|Rr<|?_;exact aZ 6 O O O O isAgg43 sizeOf43 sm (λw hw=>⟨rfl,hbl hw⟩)
end
section
open J2
open Go.RowKit
attribute [local simp] a6 bv aH aA aQ aY aR aK aM PLl cJ cH N1l cI cL cK bf bB a7 bu bx cQ dC jQ
theorem ent78:ai prog 78:=λ_ _=>kr
structure PHs:Prop where
 bad: ∀msg dst,Xm.FBad msg dst 2->∃p:GP,p.P=none/\∀(a1:Option Addr) (cap1:Nat) (a2:Option Addr) (cap2:Nat) (w:World),msg.length<=65600->msg.length<=cap1->dst.length<=1000->dst.length<=cap2->Gt w->BytesAt w a1 msg->BytesAt w a2 dst->CLS 78 [.slice a1 msg.length cap1,.slice a2 dst.length cap2].toArray w (λe w'=>e=.returned (.tuple #[PtV p,I 130])/\Grow w w')
 ok: ∀msg dst A B,¬Xm.FBad msg dst 2->Sw2 msg dst A B->∃p:GP,p.P=E2w.times (E2w.ad (some A) (some B)) HEF/\∀(a1:Option Addr) (cap1:Nat) (a2:Option Addr) (cap2:Nat) (w:World),msg.length<=65600->msg.length<=cap1->dst.length<=1000->dst.length<=cap2->Gt w->BytesAt w a1 msg->BytesAt w a2 dst->CLS 78 [.slice a1 msg.length cap1,.slice a2 dst.length cap2].toArray w (λe w'=>e=.returned (.tuple #[PtV p,I 0])/\Grow w w')
def SUs:L8:=[66#8,76#8,83#8,95#8,83#8,73#8,71#8,95#8,66#8,76#8,83#8,49#8,50#8,51#8,56#8,49#8,71#8,50#8,95#8,88#8,77#8,68#8,58#8,83#8,72#8,65#8,45#8,50#8,53#8,54#8,95#8,83#8,83#8,87#8,85#8,95#8,82#8,79#8,95#8,80#8,79#8,80#8,95#8]
def SUb:ByteArray:=⟨(SUs.map λx=>UInt8.ofBitVec x).toArray⟩
theorem H6(msg dst:L8): ∃A B,Sw2 msg dst A B:=by
 obtain ⟨A,h⟩:=HH (U2n msg dst 0);obtain ⟨B,h'⟩:=HH (U2n msg dst 1);exact ⟨A,B,h,h'⟩
theorem O1{msg dst:L8}{A B:W2×W2}(h:Sw2 msg dst A B):E2w.onP (E2w.ad (some A) (some B)):=E2w.ad_on (go (s9 h.s0)) (go (s9 h.s1))
end
section
open Go.RowKit
theorem ent239:ai prog 239:=λ_ _=>kr
theorem ent238:ai prog 238:=λ_ _=>kr
theorem ent240:ai prog 240:=λ_ _=>kr
namespace Xm
attribute [local simp] Sh.gH kJ qQ kc fA gb Sh.ca kj
theorem zvH(w:World):(zeroValue 291).run prog w=.ok (.agg (Sh.hc (List.replicate 8 0#32) (List.replicate 64 0#8) 0).toArray) w:=(zeroValue291 w).trans rr
theorem Sy(T bs:L8)(bh:Nat)(st:L3)(rs:L8)(n:BitVec 64)(hi:Sh.HInv T st rs n)(a:Option Addr)(len cap:Nat)(hlen:bs.length=len)(hcap:len<=cap)(hT:T.length+len<9223372036854775808)(w:World)(hw:Gt w)(ho:OwnB w bh (Sh.hc st rs n) 291)(hbh:8<=bh)(hby:BytesAt w a bs)(hne:bs≠[]->∀ad,a=some ad->ad.block≠bh):
 CLS 264 [pnt bh,.slice a len cap].toArray w (λe w'=>e=.returned (.tuple #[])/\Mod bh w w'/\∃st' rs' n',Sh.HInv (T++bs) st' rs' n'/\OwnB w' bh (Sh.hc st' rs' n') 291):=by
 subst hlen;exact Sh.wm T bs bh st rs n hi (by rw[List.length_append];exact hT) a cap hcap w hw ho hbh hby hne
structure Pc where
 (a:Option Addr) (len cap:Nat) (bs:L8)
def Pc.v(p:Pc):Value:=.slice p.a p.len p.cap
structure PcAt(w:World)(p:Pc):Prop where
 hl:p.bs.length=p.len
 hc:p.len<=p.cap
 hb:BytesAt w p.a p.bs
structure PsAt(w:World)(a:Option Addr)(ps:List Pc):Prop where
 cells:CellsAt w a (ps.map Pc.v)
 all: ∀p,p∈ps->PcAt w p
def cat(ps:List Pc)(k:Nat):L8:=((ps.take k).map Pc.bs).flatten
theorem Ez{ps:List Pc}{k:Nat}{p:Pc}(h:ps[k]? =some p):cat ps (k+1)=cat ps k++p.bs:=by
 rw[cat,List.take_add_one,h,List.map_append,List.flatten_append];simp[cat]
theorem HA(ps:List Pc): ∀(m k:Nat),(cat ps k).length<=(cat ps (k+m)).length
 |0,_=>Nat.le_refl _
 |m+1,k=>by
  refine Nat.le_trans (HA ps m k) ?_
  cases h:ps[k+m]? with
  |some p=>rw[<-Nat.add_assoc,Ez h,List.length_append];omega
  |none=>
   have:ps.length<=k+m:=List.getElem?_eq_none_iff.1 h;rw[cat,cat,List.take_of_length_le this,List.take_of_length_le om];exact Nat.le_refl _
theorem J3(ps:List Pc){k:Nat}(h:k<=ps.length):(cat ps k).length<=(cat ps ps.length).length:=by
 have:=HA ps (ps.length-k) k
 rwa [Nat.add_sub_cancel' h]at this
structure LsV(ps:List Pc) where
 (k:Nat) (st:L3) (rs:L8) (n:BitVec 64)
 hk:k<=ps.length
 hi:Sh.HInv (cat ps k) st rs n
theorem T0(a:Option Addr)(cap:Nat)(ps:List Pc)(hlen:ps.length<=1000)(hl:(cat ps ps.length).length<=1000000)(w:World)(hw:Gt w)(hr:PsAt w a ps):CLS 239 [.slice a ps.length cap].toArray w (λe w'=>e=.returned (.agg ((Sh.SHA (cat ps ps.length)).map U8).toArray)/\Grow w w'):=by
 refine Hf func239 O hw<|λhGF=>ac (E:=EE [264])<|Al 2 hGF zv98<|λb2=>aa<|ac (E:=EE [264])<|Al 3 hGF zvH<|λb3=>aa<|ae<|ac (E:=EE [264])<|Mv O<|bc O (λ_=>aF underlying288 _ _ _ _) O O<|Mv O<|aa<|ah<|bG (ι:=LsV ps) (λz=>[(6,.slice a ps.length cap),(7,I (ps.length:Int)),(8,I (z.k:Int)),(2,pnt b2),(3,pnt b3)]) (λz=>[(2,b2,(List.replicate 32 0#8).map U8,98),(3,b3,Sh.hc z.st z.rs z.n,291)]) (λz=>ps.length-z.k) ⟨0,_,_,_,Nat.zero_le _,Sh.HInv.zero⟩ hGF trv trv<|?_;rintro ⟨k,st,rs,n,hk,hi⟩;dsimp only;refine ac (E:=EE [264])<|Bnr O O (λ_=>av _ _ _)<|aa<|ae<|?_;refine bC O (λhc=> ?_) (λhc=> ?_)
 ·have hlt:k<ps.length:=by simp at hc;omega
  clear hc;obtain ⟨p,hp⟩: ∃p,ps[k]? =some p:=⟨_,List.getElem?_eq_getElem hlt⟩;obtain ⟨ad,rfl,hcell⟩:=hr.cells k p.v (by rw[List.getElem?_map,hp];rfl)
  have hpa:=hr.all p (List.mem_of_getElem? hp);have hsz:(cat ps k).length+p.len<9223372036854775808:=by
   have h1:=J3 ps (k:=k+1) hlt;rw[Ez hp,List.length_append,hpa.hl]at h1;omega
  refine ap<|ae<|ah<|ac (E:=EE [264])<|gA k O O underlying288 sizeOf22 O hlt O O<|bN O isAgg22 (λw' h=>((ab h).cell (block_lt_of_cell hcell)).trans hcell) O O<|Asg O<|aa<|bF (E:=EE [264])<|Mv O<|?_;refine dy O O ent264 O O (λw' hC=>(Sy (cat ps k) (p.bs) b3 st rs n hi _ _ _ (hpa.hl) hpa.hc hsz w' (hGF.g _ _ _ hC) (hC.own 3 _ _ _ O).1 (Nat.le_trans (gt_low.size w hw) ((hC.own 3 _ _ _ O).2.elim id False.elim)) (hpa.hb.grow (ab hC)) (λh ad e=>Nat.ne_of_lt (Nat.lt_of_lt_of_le (hpa.hb.lt h ad e) ((hC.own 3 _ _ _ O).2.elim id False.elim)))).mono λe w'' h=> ?_);obtain ⟨rfl,hm,st1,rs1,n1,hi1,ho⟩:=h;refine ⟨_,_,rfl,ay hGF,hC.mod hGF.r (n:=3) O hm ho, ?_⟩;clear hC hm ho;refine aa<|bF (E:=EE [264])<|Bnr (v:=I ((k+1:Nat):Int)) O O (λ_=>(aq _ _ _ oi).trans rr)<|Mv O<|aa<|?_
  repeat (refine aL ?_)
  exact aB<|⟨rfl,⟨k+1,st1,rs1,n1,hlt,(Ez hp).symm▸hi1⟩,_,by show ps.length-(k+1)<ps.length-k;omega,rfl,trv,trv⟩
 ·have hke:k=ps.length:=by simp at hc;omega
  clear hc;refine aU<|ac (E:=EE [264])<|Cc O ent265 (λw' hC hG=>Sh.y6 (cat ps k) b3 st rs n hi w' hG (hC.own 3 _ _ _ O).1)<|az 2 hGF O O O sizeOf98 sm sm (bY _) O<|aa<|ak<|Rr<|?_;exact au 2 O O O isAgg98 sizeOf98 sm (λw hw=>⟨by rw[<-hke],ab hw⟩)
theorem SW(b:Nat)(a1:Option Addr)(l1 c1:Nat)(x1:L8)(a2:Option Addr)(l2 c2:Nat)(x2:L8)(a3:Option Addr)(l3 c3:Nat)(x3:L8)(w:World)(hw:Gt w)(hr:w.rangeAt b 0 [.slice a1 l1 c1,.slice a2 l2 c2,.slice a3 l3 c3])(e1:x1.length=l1)(h1:l1<=c1)(b1:BytesAt w a1 x1)(e2:x2.length=l2)(h2:l2<=c2)(b2:BytesAt w a2 x2)(e3:x3.length=l3)(h3:l3<=c3)(b3:BytesAt w a3 x3)(hl:l1+l2+l3<=1000000):CLS 239 [.slice (spt b) 3 3].toArray w (λe w'=>e=.returned (.agg ((Sh.SHA ((x1++x2)++x3)).map U8).toArray)/\Grow w w'):=by
 have e:cat [⟨a1,l1,c1,x1⟩,⟨a2,l2,c2,x2⟩,⟨a3,l3,c3,x3⟩] 3=(x1++x2)++x3:=by simp[cat]
 have h:=T0 (spt b) 3 [⟨a1,l1,c1,x1⟩,⟨a2,l2,c2,x2⟩,⟨a3,l3,c3,x3⟩] sm (by show (cat [⟨a1,l1,c1,x1⟩,⟨a2,l2,c2,x2⟩,⟨a3,l3,c3,x3⟩] 3).length<=_;rw[e];simp only[List.length_append];omega) w hw ⟨CellsAt.range hr,λp hp=>by
  simp only[List.mem_cons,List.not_mem_nil,or_false]at hp;rcases hp with rfl|rfl|rfl
  ·exact ⟨e1,h1,b1⟩
  ·exact ⟨e2,h2,b2⟩
  ·exact ⟨e3,h3,b3⟩⟩
 rw[<-e];exact h
theorem Wz(b:Nat)(a1:Option Addr)(l1 c1:Nat)(x1:L8)(a2:Option Addr)(l2 c2:Nat)(x2:L8)(a3:Option Addr)(l3 c3:Nat)(x3:L8)(a4:Option Addr)(l4 c4:Nat)(x4:L8)(w:World)(hw:Gt w)(hr:w.rangeAt b 0 [.slice a1 l1 c1,.slice a2 l2 c2,.slice a3 l3 c3,.slice a4 l4 c4])(e1:x1.length=l1)(h1:l1<=c1)(b1:BytesAt w a1 x1)(e2:x2.length=l2)(h2:l2<=c2)(b2:BytesAt w a2 x2)(e3:x3.length=l3)(h3:l3<=c3)(b3:BytesAt w a3 x3)(e4:x4.length=l4)(h4:l4<=c4)(b4:BytesAt w a4 x4)(hl:l1+l2+l3+l4<=1000000):CLS 239 [.slice (spt b) 4 4].toArray w (λe w'=>e=.returned (.agg ((Sh.SHA (((x1++x2)++x3)++x4)).map U8).toArray)/\Grow w w'):=by
 have e:cat [⟨a1,l1,c1,x1⟩,⟨a2,l2,c2,x2⟩,⟨a3,l3,c3,x3⟩,⟨a4,l4,c4,x4⟩] 4=((x1++x2)++x3)++x4:=by simp[cat]
 have h:=T0 (spt b) 4 [⟨a1,l1,c1,x1⟩,⟨a2,l2,c2,x2⟩,⟨a3,l3,c3,x3⟩,⟨a4,l4,c4,x4⟩] sm (by show (cat [⟨a1,l1,c1,x1⟩,⟨a2,l2,c2,x2⟩,⟨a3,l3,c3,x3⟩,⟨a4,l4,c4,x4⟩] 4).length<=_;rw[e];simp only[List.length_append];omega) w hw ⟨CellsAt.range hr,λp hp=>by
  simp only[List.mem_cons,List.not_mem_nil,or_false]at hp;rcases hp with rfl|rfl|rfl|rfl
  ·exact ⟨e1,h1,b1⟩
  ·exact ⟨e2,h2,b2⟩
  ·exact ⟨e3,h3,b3⟩
  ·exact ⟨e4,h4,b4⟩⟩
 rw[<-e];exact h
theorem UW(a:Option Addr)(m:Nat):(if m=0 then a else a.map (·.add (0*1)))=a:=by
 cases a with
 |none=>simp
 |some ad=>simp[Addr.add]
def TgV(dst:L8)(w:World)(v:Value):Prop:= ∃a cap,v=.slice a (D dst).length cap/\BytesAt w a (D dst)/\(D dst).length<=cap
theorem ptag(a:Option Addr)(cap:Nat)(dst:L8)(hc:dst.length<=cap)(hl:dst.length<=100000)(w:World)(hw:Gt w)(hb:BytesAt w a dst):CLS 238 [.slice a dst.length cap].toArray w (λe w'=> ∃v,e=.returned v/\Grow w w'/\TgV dst w' v):=by
 refine Hf func238 O hw<|λhGF=>Xp<|Asg O<|aa<|Xp<|Mv O<|Mv O<|bc O (λ_=>aF underlying22 _ _ _ _) O O<|Mv O<|bc O (λ_=>aF underlying22 _ _ _ _) O O<|f8 (l:=0) (h':=dst.length) (m:=dst.length) O underlying22 sizeOf5 O O O ⟨Nat.zero_le _,Nat.le_refl _,hc⟩ O O<|?_;rw[UW,Nat.sub_zero];refine Mv O<|bc O (λ_=>aF underlying22 _ _ _ _) O O<|bV O O (λ_=>ff underlying3 underlying5 _) O O<|dV 12 [BitVec.ofInt 8 (dst.length:Int)] hGF O O O dc dc underlying22 sizeOf5 zeroValue5 O O<|?_;intro b12;refine xx (xs:=dst) (ys:=[BitVec.ofInt 8 (dst.length:Int)]) 13 hGF O O underlying22 underlying22 ti5 (λw' h=>hb.grow (ab h)) (λw' h=>BytesAt.range (aG (n:=12) O w' h)) (by simp;omega) sm O O (λb13 c13 cap13 e13 l13 t13=> ?_)
 subst e13;refine Asg O<|aa<|ak<|Rr<|?_;exact aE O O (λw hw=>⟨_,rfl,ab hw,_,_,rfl,o2 (hw.own 13 b13 _ _ O).1.range t13,l13⟩)
theorem q8(l:L8)(i j:Nat)(v:BitVec 8):(l.set i v).getD j 0=if i=j/\j<l.length then v else l.getD j 0:=by
 simp only[List.getD_eq_getElem?_getD,List.getElem?_set];by_cases h:i=j
 ·subst h
  by_cases h2:i<l.length
  ·simp[h2]
  ·simp[h2]
 ·simp[h]
theorem Hv(b l:L8): ∀(j i:Nat),j<=i->(R b l j).getD i 0=b.getD i 0
 |0,_,_=>rfl
 |j+1,i,h=>by rw[R,q8,if_neg om,Hv b l j i om]
theorem O0(b l:L8)(j:Nat):(R b l j).set j ((R b l j).getD j 0^^^l.getD j 0)=R b l (j+1):=by rw[R,Hv b l j j (Nat.le_refl _)]
theorem pu(l:L8)(j:Nat):l.set j (l.getD j 0)=l:=by
 refine List.ext_getElem? λi=> ?_;rw[List.getElem?_set];by_cases h:j=i
 ·subst h
  by_cases h2:j<l.length
  ·simp[h2]
  ·simp[h2]
 ·simp[h]
theorem Fk(b:L8): ∀j,R b (List.replicate 32 0#8) j=b
 |0=>rfl
 |j+1=>by
  rw[R,Fk b j,show (List.replicate 32 0#8).getD j 0=0#8 by rw[List.getD_eq_getElem?_getD,List.getElem?_replicate];split<;>rfl,BitVec.xor_zero,pu]
theorem XF(b d:L8)(k:Nat):R b (Xk b d k) 32=X16 b (Xk b d k) k:=by
 unfold X16;split
 ·next h=>subst h;exact Fk b 32
 ·rfl
theorem Ka(b d:L8)(k:Nat):Sh.SHA ((R b (Xk b d k) 32++[BitVec.ofInt 8 ((k+1:Nat):Int)])++d)=Xk b d (k+1):=by rw[XF,Xk];rfl
attribute [local simp] kc
theorem Fb(x l:L8)(hx:x.length=32)(hl:l.length=32):PUR 266 [.agg (x.map U8).toArray,.agg (l.map U8).toArray] (.agg ((R x l 32).map U8).toArray):=by
 intro w hw;refine Hf func266 O hw<|λhGF=>Xp<|Bx 2 hGF O<|λb2=>Bx 3 hGF O<|λb3=>Al 4 hGF zv98<|λb4=>aa<|ae<|Xp<|Mv O<|aa<|ah<|bG (ι:={j:Nat // j<=32}) (λy=>[(2,pnt b2),(3,pnt b3),(4,pnt b4),(6,I (y.1:Int))]) (λy=>[(2,b2,(R x l y.1).map U8,98),(3,b3,l.map U8,98),(4,b4,(List.replicate 32 0#8).map U8,98)]) (λy=>32-y.1) ⟨0,om⟩ hGF trv trv<|?_;rintro ⟨j,hj⟩;dsimp only;refine Xp<|Bnr O O (λ_=>av _ _ _)<|aa<|ae<|?_;refine bC O (λhc=> ?_) (λhc=> ?_)
 ·simp only[decide_eq_true_eq]at hc
  refine ap<|ae<|ah<|Xp<|Mv O<|Asg O<|aa<|Xe []<|Mv O<|Ia (j) O O underlying98 sizeOf5<|Lm 2 U8 0 O O isAgg5 (by first|omega|(simp;omega))<|Mv O<|Ia (j) O O underlying98 sizeOf5<|Lm 3 U8 0 O O isAgg5 (by first|omega|(simp;omega))<|Bnr O O (λ_=>qO _ _ _)<|Ia (j) O O underlying98 sizeOf5<|aX 2 U8 hGF O O O sizeOf5 O (by first|omega|(simp;omega)) O<|aa<|Xq<|Bnr O O (λ_=>aq _ _ _ oi)<|Mv O<|aa<|?_
  repeat (refine aL ?_)
  exact aB<|⟨rfl,⟨j+1,om⟩,_,by show 32-(j+1)<32-j;omega,rfl,trv,⟨by rw[<-O0];rfl,rfl,rfl,trivial⟩⟩
 ·obtain rfl:j=32:=by simp at hc;omega
  refine aU<|Xp<|bS 2 O O isAgg98 sizeOf98 (by simp[hx]) O O<|az 4 hGF O O O sizeOf98 (by simp[hx]) sm (bY _) O<|aa<|ak<|Rr<|?_
  exact au 4 O O O isAgg98 sizeOf98 (by simp[hx]) (λw hw=>⟨rfl,ab hw⟩)
end Xm
end
section
open Go.RowKit
namespace Xm
attribute [local simp] Sh.gH kJ qQ kc fA gb Sh.ca kj
attribute [local simp] uA kc
theorem zvS(w:World):(zeroValue 22).run prog w=.ok (.slice none 0 0) w:=zeroValue22 w
theorem VU(n:Nat)(hn:n<=8160)(t:TypeId)(w:World):(binOp .quo t (I ((n:Int)+32-1)) (I 32)).run prog w=.ok (I ((((n+31) / 32):Nat):Int)) w:=by
 have e:((n:Int)+32-1).tdiv 32=((((n+31) / 32):Nat):Int):=by
  rw[Int.tdiv_eq_ediv_of_nonneg om];omega
 rw[<-e];exact fh t _ _ dc (by rw[e];unfold inI;omega)
structure LtV(b d:L8)(m:Nat) where
 (k bb:Nat) (c:List Value) (cap:Nat)
 hk:k<=m
 hcap:c.length=cap
 hle:(Ozz b d k).length<=cap
 ht:c.take (Ozz b d k).length=(Ozz b d k).map U8
def SrV(b d:L8)(n:Nat)(w:World)(v:Value):Prop:= ∃a,v=.slice a n n/\BytesAt w a ((Ozz b d ((n+31) / 32)).take n)
theorem DU(b d:L8)(hb:b.length=32)(a:Option Addr)(cap0:Nat)(n:Nat)(hn:n<=8160)(hd:d.length<=1000)(hc0:d.length<=cap0)(w:World)(hw:Gt w)(hby:BytesAt w a d):CLS 240 [.agg (b.map U8).toArray,.slice a d.length cap0,I (n:Int)].toArray w (λe w'=> ∃v,e=.returned v/\Grow w w'/\SrV b d n w' v):=by
 refine Hf func240 O hw<|λhGF=>Xp<|Bx 3 hGF O<|λb3=>Asg O<|aa<|Xp<|Mv O<|Bnr O O (λ_=>aq _ _ _ oi)<|Bnr O O (λ_=>aV _ _ _ oi)<|cr (v:=I ((((n+31) / 32):Nat):Int)) O O (λ_=>rfl) (λw=>VU n hn _ w) O O<|Asg O<|aa<|Xp<|Mv O<|cr (v:=I ((((n+31) / 32)*32:Nat):Int)) O O (λ_=>rfl) (λ_=>(bp _ _ _ oi).trans rr) O O<|wc (l:=0) (m:=((n+31) / 32)*32) (c:=(List.replicate (((n+31) / 32)*32) 0#8).map U8) 18 hGF O O (Nat.zero_le _) underlying22 ti5 ⟨om,om,om⟩ (by rw[Nat.mul_one];exact WX _) O O<|λb18=>Asg O<|aa<|Xp<|Al 9 hGF zv98<|λb9=>aa<|ae<|Xp<|Mv O<|Mv O<|aa<|ah<|bG (ι:=LtV b d ((n+31) / 32)) (λz=>[(1,.slice a d.length cap0),(2,I (n:Int)),(3,pnt b3),(8,.slice (spt z.bb) (Ozz b d z.k).length z.cap),(9,pnt b9),(19,I (((n+31) / 32):Nat)),(20,I (z.k:Int))]) (λz=>[(3,b3,b.map U8,98),(9,b9,(Xk b d z.k).map U8,98),(18,z.bb,z.c,5)]) (λz=>((n+31) / 32)-z.k) ⟨0,b18,_,((n+31) / 32)*32,Nat.zero_le _,sm,Nat.zero_le _,rfl⟩ hGF ⟨rfl,rfl,rfl,rfl,rfl,rfl,rfl,trivial⟩ ⟨rfl,rfl,rfl,trivial⟩<|?_
 rintro ⟨k,bb,c,cap,hk,hcap,hle,ht⟩;dsimp only;have hx:(Xk b d k).length=32:=fA _ _ _;refine Xp<|Bnr O O (λ_=>av _ _ _)<|aa<|ae<|?_;refine bC O (λhc=> ?_) (λhc=> ?_)
 ·have hlt:k<((n+31) / 32):=by simp at hc;omega
  clear hc;refine ap<|ae<|ah<|Xp<|Mv O<|Asg O<|aa<|Xp<|bS 3 O O isAgg98 sizeOf98 (by simp[hb]) O O<|La 9 O O uK<|Ca O (Fb b (Xk b d k) hb (fA _ _ _))<|Al 11 hGF zv98<|λb11=>az 11 hGF O O O sizeOf98 (by simp[hb]) sm (bY _) O<|aa<|Xp<|bP (l:=0) (h':=32) O underlying98 sizeOf5 O O om om O O<|Mv O<|Bnr (v:=I ((k+1:Nat):Int)) O O (λ_=>(aq _ _ _ oi).trans rr)<|bV O O (λ_=>ff underlying3 underlying5 _) O O<|dV 30 [BitVec.ofInt 8 ((k+1:Nat):Int)] hGF O O O dc dc underlying22 sizeOf5 zeroValue5 O O<|λb30=>Mv O<|sF 32 [.slice (spt b11) 32 32,.slice (spt b30) 1 1,.slice a d.length cap0] hGF O O O dc dc underlying288 sizeOf22 zvS O O O<|λb32=>Cc O ent239 (λw' hC hG=>SW b32 (spt b11) 32 32 (R b (Xk b d k) 32) (spt b30) 1 1 [BitVec.ofInt 8 ((k+1:Nat):Int)] a d.length cap0 d w' hG (aG (n:=32) O w' hC) (by rw[kc,hb]) (Nat.le_refl _) (BytesAt.range (aG (n:=11) O w' hC)) O (Nat.le_refl _) (BytesAt.range (aG (n:=30) O w' hC)) O hc0 (hby.grow (ab hC)) om)<|?_
  rw[show Sh.SHA (((R b (Xk b d k) 32)++[BitVec.ofInt 8 ((k+1:Nat):Int)])++d)=Xk b d (k+1)from Ka b d k];refine az 9 hGF O O O sizeOf98 sm sm (bY _) O<|aa<|Xq<|Mv O<|bP (l:=0) (h':=32) O underlying98 sizeOf5 O O om om O O<|?_;refine cn (xs:=Ozz b d k) (ys:=Xk b d (k+1)) 18 hGF O (by rw[fA];rfl) underlying22 underlying22 ti5 (.inr ⟨bb,c,rfl,rfl,hcap,hle,ht⟩) (λw' h=>BytesAt.range (aG (n:=9) O w' h)) (by rw[gb,fA];omega) O O (λh0=> ?_) (λb36 c36 cap36 e36 l36 t36=> ?_)
  ·exact (xN (fA _ _ _) h0).elim
  subst e36;refine Asg O<|aa<|Xq<|Bnr (v:=I ((k+1:Nat):Int)) O O (λ_=>(aq _ _ _ oi).trans rr)<|Mv O<|aa<|?_
  repeat (first|refine aL ?_|refine ck ?_)
  exact aB<|⟨rfl,⟨k+1,b36,c36,c36.length,om,rfl,l36,t36⟩,_,by show ((n+31) / 32)-(k+1)<((n+31) / 32)-k;omega,rfl,trv,trv⟩
 ·have hke:k=((n+31) / 32):=by simp at hc;omega
  clear hc;refine aU<|Xp<|Mv O<|Mv O<|Mv O<|f8 (l:=0) (h':=n) (m:=n) O underlying22 sizeOf5 O O O ⟨Nat.zero_le _,Nat.le_refl _,by rw[gb]at hle;omega⟩ O O<|?_
  rw[UW,Nat.sub_zero];refine Asg O<|aa<|ak<|Rr<|?_;subst hke;have e:(List.take n (Ozz b d ((n+31) / 32))).length=n:=by rw[List.length_take,gb];omega
  exact aE O O (λw hw=>⟨_,rfl,ab hw,_,rfl,o2 (hw.own 18 bb _ _ O).1.range (by rw[e];exact wo ht (by rw[gb];omega))⟩)
theorem px_0(a1:Option Addr)(cap1:Nat)(msg:L8)(a2:Option Addr)(cap2:Nat)(dst:L8)(z:Int)(h:z<0)(w:World)(hw:Gt w):CLS 205 [.slice a1 msg.length cap1,.slice a2 dst.length cap2,I z].toArray w (λe w'=>e=.returned (.tuple #[.slice none 0 0,I 130])/\Grow w w'):=by
 refine Hf func205 O hw<|λhGF=>Xp<|Asg O<|Asg O<|aa<|ae<|Xp<|Mv O<|Bnb true O O (λ_=>av _ _ _) (decide_eq_true om)<|Mv O<|Sk<|Sk<|Pk O O O<|Mv O<|Sk<|Sk<|Sk<|Pk O O O<|Mv O<|Sk<|Sk<|Sk<|Pk O O O<|aa<|aP O<|Xp<|Asg O<|Asg O<|aa<|ak<|Rr<|?_;exact cg O O O (λw hw=>⟨rfl,ab hw⟩)
theorem px_1(a1:Option Addr)(cap1:Nat)(msg:L8)(a2:Option Addr)(cap2:Nat)(dst:L8)(z:Int)(h:8160<z)(w:World)(hw:Gt w):CLS 205 [.slice a1 msg.length cap1,.slice a2 dst.length cap2,I z].toArray w (λe w'=>e=.returned (.tuple #[.slice none 0 0,I 130])/\Grow w w'):=by
 refine Hf func205 O hw<|λhGF=>Xp<|Asg O<|Asg O<|aa<|ae<|Xp<|Mv O<|Bnb false O O (λ_=>av _ _ _) (decide_eq_false om)<|Mv O<|Mv O<|Bnb true O O (λ_=>a9 _ _ _) (decide_eq_true om)<|Pk O O O<|Mv O<|Sk<|Sk<|Sk<|Pk O O O<|Mv O<|Sk<|Sk<|Sk<|Pk O O O<|aa<|aP O<|Xp<|Asg O<|Asg O<|aa<|ak<|Rr<|?_;exact cg O O O (λw hw=>⟨rfl,ab hw⟩)
theorem px_2(a1:Option Addr)(cap1:Nat)(msg:L8)(a2:Option Addr)(cap2:Nat)(dst:L8)(z:Int)(h0: ¬z<0)(h1: ¬8160<z)(h:255<dst.length)(w:World)(hw:Gt w):CLS 205 [.slice a1 msg.length cap1,.slice a2 dst.length cap2,I z].toArray w (λe w'=>e=.returned (.tuple #[.slice none 0 0,I 130])/\Grow w w'):=by
 refine Hf func205 O hw<|λhGF=>Xp<|Asg O<|Asg O<|aa<|ae<|Xp<|Mv O<|Bnb false O O (λ_=>av _ _ _) (decide_eq_false om)<|Mv O<|Mv O<|Bnb false O O (λ_=>a9 _ _ _) (decide_eq_false om)<|Pk O O O<|Mv O<|Mv O<|bc O (λ_=>aF underlying22 _ _ _ _) O O<|Bnb true O O (λ_=>a9 _ _ _) (decide_eq_true om)<|Pk O O O<|Mv O<|Sk<|Sk<|Sk<|Pk O O O<|aa<|aP O<|Xp<|Asg O<|Asg O<|aa<|ak<|Rr<|?_;exact cg O O O (λw hw=>⟨rfl,ab hw⟩)
theorem px_3(a1:Option Addr)(cap1:Nat)(msg:L8)(a2:Option Addr)(cap2:Nat)(dst:L8)(z:Int)(h0: ¬z<0)(h1: ¬8160<z)(h2: ¬255<dst.length)(h:65536<msg.length)(w:World)(hw:Gt w):CLS 205 [.slice a1 msg.length cap1,.slice a2 dst.length cap2,I z].toArray w (λe w'=>e=.returned (.tuple #[.slice none 0 0,I 130])/\Grow w w'):=by
 refine Hf func205 O hw<|λhGF=>Xp<|Asg O<|Asg O<|aa<|ae<|Xp<|Mv O<|Bnb false O O (λ_=>av _ _ _) (decide_eq_false om)<|Mv O<|Mv O<|Bnb false O O (λ_=>a9 _ _ _) (decide_eq_false om)<|Pk O O O<|Mv O<|Mv O<|bc O (λ_=>aF underlying22 _ _ _ _) O O<|Bnb false O O (λ_=>a9 _ _ _) (decide_eq_false om)<|Pk O O O<|Mv O<|Mv O<|bc O (λ_=>aF underlying22 _ _ _ _) O O<|Bnb true O O (λ_=>a9 _ _ _) (decide_eq_true om)<|Pk O O O<|aa<|aP O<|Xp<|Asg O<|Asg O<|aa<|ak<|Rr<|?_;exact cg O O O (λw hw=>⟨rfl,ab hw⟩)
theorem Tf(a1:Option Addr)(cap1:Nat)(msg:L8)(a2:Option Addr)(cap2:Nat)(dst:L8)(n:Nat)(hc1:msg.length<=cap1)(hc2:dst.length<=cap2)(hn:n<=8160)(hd:dst.length<=255)(hm:msg.length<=65536)(w:World)(hw:Gt w)(hb1:BytesAt w a1 msg)(hb2:BytesAt w a2 dst):CLS 205 [.slice a1 msg.length cap1,.slice a2 dst.length cap2,I (n:Int)].toArray w (λe w'=> ∃v,e=.returned v/\Grow w w'/\∃a cap,v=.tuple #[.slice a (E msg dst n).length cap,I 0]/\BytesAt w' a (E msg dst n)/\(E msg dst n).length<=cap):=by
 have hGF:BOk Gt (pl w):=gt_low.plain hw;have hgw:Grow w w:=Grow.refl w;refine Hd func205 O hGF<|ac (E:=EE [238,240])<|Asg O<|Asg O<|aa<|ae<|ac (E:=EE [238,240])<|Mv O<|Bnb false O O (λ_=>av _ _ _) (decide_eq_false om)<|Mv O<|Mv O<|Bnb false O O (λ_=>a9 _ _ _) (decide_eq_false om)<|Pk O O O<|Mv O<|Mv O<|bc O (λ_=>aF underlying22 _ _ _ _) O O<|Bnb false O O (λ_=>a9 _ _ _) (decide_eq_false om)<|Pk O O O<|Mv O<|Mv O<|bc O (λ_=>aF underlying22 _ _ _ _) O O<|Bnb false O O (λ_=>a9 _ _ _) (decide_eq_false om)<|Pk O O O<|aa<|aC O<|ap<|ac (E:=EE [238,240])<|Mv O<|?_;refine jt O O ent238 O O gt_low (ay hGF) (λw' hC hG=>ptag a2 cap2 dst hc2 om w' hG (hb2.grow (hgw.trans (ab hC)))) (λw0 w1 v h0 hg hG1 hq=> ?_);replace hgw:=hgw.trans ((ab h0).trans hg);clear h0 hg hGF;have hGF:BOk Gt (pl w1):=gt_low.plain hG1;obtain ⟨ta,tc,rfl,hta,htc⟩:=hq;refine Asg O<|aa<|ac (E:=EE [238,240])<|oO 28 hGF O O underlying22 ti5.choose_spec.1 ti5.choose_spec.2.1 (hmk 64 dc) (hmc 64 ti5.choose_spec Uv) O O<|λb28=>Mv O<|Mv O<|Bnr O O (λ_=>wt _ _)<|bV O O (λ_=>ff underlying3 underlying5 _) O O<|Mv O<|bV O O (λ_=>ff underlying3 underlying5 _) O O<|dV 35 [BitVec.ofInt 8 ((n / 256:Nat):Int),BitVec.ofInt 8 (n:Int),0#8] hGF O O O dc dc underlying22 sizeOf5 zeroValue5 O O<|λb35=>Mv O<|sF 37 [.slice (spt b28) 64 64,.slice a1 msg.length cap1,.slice (spt b35) 3 3,.slice ta (D dst).length tc] hGF O O O dc dc underlying288 sizeOf22 zvS O O O<|λb37=>Cc O ent239 (λw' hC hG=>Wz b37 (spt b28) 64 64 (List.replicate 64 0#8) a1 msg.length cap1 msg (spt b35) 3 3 [BitVec.ofInt 8 ((n / 256:Nat):Int),BitVec.ofInt 8 (n:Int),0#8] ta (D dst).length tc (D dst) w' hG (aG (n:=37) O w' hC) O (Nat.le_refl _) (BytesAt.range (aG (n:=28) O w' hC)) O hc1 (hb1.grow (hgw.trans (ab hC))) O (Nat.le_refl _) (BytesAt.range (aG (n:=35) O w' hC)) O htc (hta.grow (ab hC)) (by rw[kj];omega))<|?_
 rw[show Sh.SHA ((((List.replicate 64 0#8)++msg)++[BitVec.ofInt 8 ((n / 256:Nat):Int),BitVec.ofInt 8 (n:Int),0#8])++D dst)=B0 msg dst n from O];refine Al 9 hGF zv98<|λb9=>az 9 hGF O O O sizeOf98 sm sm (bY _) O<|aa<|ac (E:=EE [238,240])<|La 9 O O uK<|Mv O<|Mv O<|?_;refine jt O O ent240 O O gt_low (ay hGF) (λw' hC hG=>DU (B0 msg dst n) (D dst) (kJ _ _ _) ta tc n hn (by rw[kj];omega) htc w' hG (hta.grow (ab hC))) (λw0 w1 v h0 hg hG1 hq=> ?_)
 replace hgw:=hgw.trans ((ab h0).trans hg);clear h0 hg hGF;have hGF:BOk Gt (pl w1):=gt_low.plain hG1;obtain ⟨sa,rfl,hsa⟩:=hq;refine Asg O<|Asg O<|aa<|ak<|Rr<|?_;exact cg O O O (λw hw=>⟨_,rfl,hgw.trans (ab hw),sa,n,by rw[ki];rfl,hsa.grow (ab hw),by rw[ki];exact Nat.le_refl _⟩)
theorem pxc:PXC:=by
 intro a1 cap1 msg a2 cap2 dst z w _ hc1 _ hc2 hw hb1 hb2;have err:Bad msg dst z->∀{e:Ending} {w':World},e=.returned (.tuple #[.slice none 0 0,I 130])/\Grow w w'->∃v,e=.returned v/\Grow w w'/\RT msg dst z w' v:=λhb _ _ h=>⟨_,h.1,h.2,λ_=>rfl,λhn=>absurd hb hn⟩;by_cases h0:z<0
 ·exact (px_0 a1 cap1 msg a2 cap2 dst z h0 w hw).mono λ_ _ h=>err (.inl h0) h
 by_cases h1:8160<z
 ·exact (px_1 a1 cap1 msg a2 cap2 dst z h1 w hw).mono λ_ _ h=>err (.inr (.inl h1)) h
 by_cases h2:255<dst.length
 ·exact (px_2 a1 cap1 msg a2 cap2 dst z h0 h1 h2 w hw).mono λ_ _ h=>err (.inr (.inr (.inl h2))) h
 by_cases h3:65536<msg.length
 ·exact (px_3 a1 cap1 msg a2 cap2 dst z h0 h1 h2 h3 w hw).mono λ_ _ h=>err (.inr (.inr (.inr h3))) h
 obtain ⟨n,rfl⟩: ∃n:Nat,z=(n:Int):=⟨z.toNat,om⟩;refine (Tf a1 cap1 msg a2 cap2 dst n hc1 hc2 om om om w hw hb1 hb2).mono λe w' ⟨v,he,hg,hc⟩=>⟨_,he,hg,λhb=>absurd hb ?_,λ_=>hc⟩;rintro (h|h|h|h)<;>omega
end Xm
end
section
open Go.RowKit
attribute [local simp] a6 bv aH aA aQ aY aR aK aM PLl cJ cH N1l cI cL cK bf bB a7 bu List.length_append fY cQ
theorem ent206:ai prog 206:=λ_ _=>kr
namespace Xm
attribute [local simp] Sh.gH kJ qQ kc fA gb Sh.ca kj
attribute [local simp] N2r_len
theorem tiQ:TI prog 78 (aJ (List.replicate 12 (0#64))) 12 96:=rJ kr
theorem SX(e:Option Addr)(len cap:Nat)(bs:L8)(hb:bs.length=len)(hlen:len<=1000)(hc:len<=cap)(w:World)(hw:Gt w)(hby:BytesAt w e bs):CLS 241 [.slice e len cap].toArray w (λr w'=>r=.returned (EV (ZB bs))/\Grow w w'):=by
 subst hb;exact wq e cap bs om hc w hw hby
theorem cut3{w:World}{a:Option Addr}{rs:L8}(h:BytesAt w a rs)(l k m:Nat)(hm:m≠l):BytesAt w (if m=l then a else a.map (·.add (l*1))) ((rs.drop l).take k):=by
 have h2:=h.cut (cap:=rs.length+l+1) l k om;rw[if_neg om]at h2;rw[if_neg hm];exact h2
theorem zn(a:Option Addr)(len cap:Nat)(bs:L8)(hlen:bs.length=len)(hc:len<=cap)(i:Nat)(hi:64*i+64<=len)(hl:len<=100000)(w:World)(hw:Gt w)(hb:BytesAt w a bs):CLS 206 [.slice a len cap,I (i:Int)].toArray w (λe w'=>e=.returned (EV (ZB ((bs.drop (64*i)).take 64)))/\Grow w w'):=by
 refine Hf func206 O hw<|λhGF=>Xp<|Al 4 hGF zf52<|λb4=>aa<|Xp<|Mv O<|Bnr (v:=I ((64*i:Nat):Int)) O O (λ_=>(bp _ _ _ oi).trans (by rw[show (64:Int)*(i:Int)=((64*i:Nat):Int) by omega]))<|Mv O<|Bnr (v:=I ((i+1:Nat):Int)) O O (λ_=>(aq _ _ _ oi).trans rr)<|Bnr (v:=I ((64*i+64:Nat):Int)) O O (λ_=>(bp _ _ _ oi).trans (by rw[show (64:Int)*((i+1:Nat):Int)=((64*i+64:Nat):Int) by omega]))<|Asg O<|Asg O<|aa<|Xp<|Mv O<|Mv O<|Mv O<|Mv O<|f8 (l:=64*i) (h':=64*i+64) (m:=64*i+64) O underlying22 sizeOf5 O O O ⟨om,Nat.le_refl _,om⟩ O O<|Cc O ent241 (λw' hC hG=>SX _ _ _ ((bs.drop (64*i)).take 64) (by rw[List.length_take,List.length_drop,hlen];omega) om (Nat.le_refl _) w' hG (BytesAt.grow (cut3 hb (64*i) 64 _ om) (ab hC)))<|Sa 4 hGF O O O bM<|aa<|ak<|Rr<|?_
 exact au 4 O O O isAgg52 sizeOf52 sm (λw hw=>⟨rfl,ab hw⟩)
theorem pf_0(a1:Option Addr)(cap1:Nat)(msg:L8)(a2:Option Addr)(cap2:Nat)(dst:L8) (z:Int)(h:z<0)(w:World)(hw:Gt w):CLS 171 [.slice a1 msg.length cap1,.slice a2 dst.length cap2,I z].toArray w (λe w'=>e=.returned (.tuple #[.slice none 0 0,I 130])/\Grow w w'):=by
 refine Hf func171 O hw<|λhGF=>ac (E:=EE [205])<|Asg O<|Asg O<|aa<|ae<|ac (E:=EE [205])<|Mv O<|Bnb true O O (λ_=>av _ _ _) (decide_eq_true om)<|Mv O<|Sk<|Sk<|Pk O O O<|aa<|aP O<|ac (E:=EE [205])<|Asg O<|Asg O<|aa<|ak<|Rr<|?_;exact cg O O O (λw hw=>⟨rfl,ab hw⟩)
theorem pf_1(a1:Option Addr)(cap1:Nat)(msg:L8)(a2:Option Addr)(cap2:Nat)(dst:L8) (z:Int)(h:32<z)(w:World)(hw:Gt w):CLS 171 [.slice a1 msg.length cap1,.slice a2 dst.length cap2,I z].toArray w (λe w'=>e=.returned (.tuple #[.slice none 0 0,I 130])/\Grow w w'):=by
 refine Hf func171 O hw<|λhGF=>ac (E:=EE [205])<|Asg O<|Asg O<|aa<|ae<|ac (E:=EE [205])<|Mv O<|Bnb false O O (λ_=>av _ _ _) (decide_eq_false om)<|Mv O<|Mv O<|Bnb true O O (λ_=>a9 _ _ _) (decide_eq_true om)<|Pk O O O<|aa<|aP O<|ac (E:=EE [205])<|Asg O<|Asg O<|aa<|ak<|Rr<|?_;exact cg O O O (λw hw=>⟨rfl,ab hw⟩)
theorem pf_2(a1:Option Addr)(cap1:Nat)(msg:L8)(a2:Option Addr)(cap2:Nat)(dst:L8)(hc1:msg.length<=cap1)(hc2:dst.length<=cap2)(hl1:msg.length<=100000)(hl2:dst.length<=100000)(z:Int)(h0: ¬z<0)(h1: ¬32<z)(hl:255<dst.length\/65536<msg.length)(w:World)(hw:Gt w)(hb1:BytesAt w a1 msg)(hb2:BytesAt w a2 dst):CLS 171 [.slice a1 msg.length cap1,.slice a2 dst.length cap2,I z].toArray w (λe w'=>e=.returned (.tuple #[.slice none 0 0,I 130])/\Grow w w'):=by
 have hGF:BOk Gt (pl w):=gt_low.plain hw;have hgw:Grow w w:=Grow.refl w;refine Hd func171 O hGF<|ac (E:=EE [205])<|Asg O<|Asg O<|aa<|ae<|ac (E:=EE [205])<|Mv O<|Bnb false O O (λ_=>av _ _ _) (decide_eq_false om)<|Mv O<|Mv O<|Bnb false O O (λ_=>a9 _ _ _) (decide_eq_false om)<|Pk O O O<|aa<|aC O<|ap<|ac (E:=EE [205])<|Mv O<|Mv O<|Mv O<|Bnr O O (λ_=>bp _ _ _ oi)<|?_;refine jt O O ent205 O O gt_low (ay hGF) (λw' hC hG=>pxc a1 cap1 msg a2 cap2 dst (128*z) w' om hc1 om hc2 hG (hb1.grow (hgw.trans (ab hC))) (hb2.grow (hgw.trans (ab hC)))) (λw0 w1 v h0 hg hG1 hq=> ?_);replace hgw:=hgw.trans ((ab h0).trans hg);clear h0 hg hGF;have hGF:BOk Gt (pl w1):=gt_low.plain hG1;obtain rfl:=hq.bad (hl.elim (λh=>.inr (.inr (.inl h))) λh=>.inr (.inr (.inr h)));refine Mv O<|Ext O O<|Ext O O<|Asg O<|Asg O<|aa<|ae<|ac (E:=EE [205])<|Mv O<|Bnb true O O (λ_=>bz _ _ _) (rfl)<|aa<|aP O<|ac (E:=EE [205])<|Mv O<|Asg O<|Asg O<|aa<|ak<|Rr<|?_;exact cg O O O (λw hw=>⟨rfl,hgw.trans (ab hw)⟩)
theorem JA(f:Nat->L6)(z:L6)(n k:Nat)(hk:k<n)(hf:(f k).length=12):lay (0+12*k) ((f k).map U64) ((RW 12 (λi=>if i<k then f i else z) n).map U64)=(RW 12 (λi=>if i<k+1 then f i else z) n).map U64:=by
 rw[EF _ n k (f k) hk hf _ om];congr 1;refine kN λi _=> ?_;by_cases h:i=k
 ·rw[if_pos h,if_pos om,h]
 ·rw[if_neg h]
  by_cases h2:i<k
  ·rw[if_pos h2,if_pos om]
  ·rw[if_neg h2,if_neg om]
theorem QZ(bs:L8)(k:Nat):fe (ZB ((bs.drop (64*(2*k))).take 64))++fe (ZB ((bs.drop (64*(2*k+1))).take 64))=N2r bs k:=by
 rw[N2r,N2,show 64*(2*k)=128*k by omega,show 64*(2*k+1)=128*k+64 by omega]
theorem WC(a1:Option Addr)(cap1:Nat)(msg:L8)(a2:Option Addr)(cap2:Nat)(dst:L8)(n:Nat)(hc1:msg.length<=cap1)(hc2:dst.length<=cap2)(hl1:msg.length<=100000)(hl2:dst.length<=100000)(hn:n<=32)(hd:dst.length<=255)(hm:msg.length<=65536)(w:World)(hw:Gt w)(hb1:BytesAt w a1 msg)(hb2:BytesAt w a2 dst):CLS 171 [.slice a1 msg.length cap1,.slice a2 dst.length cap2,I (n:Int)].toArray w (λe w'=> ∃a cap,e=.returned (.tuple #[.slice a n cap,I 0])/\Grow w w'/\At2 w w' a n (N2r (E msg dst (128*n)))):=by
 have hGF:BOk Gt (pl w):=gt_low.plain hw;have hgw:Grow w w:=Grow.refl w;refine Hd func171 O hGF<|ac (E:=EE [205])<|Asg O<|Asg O<|aa<|ae<|ac (E:=EE [205])<|Mv O<|Bnb false O O (λ_=>av _ _ _) (decide_eq_false om)<|Mv O<|Mv O<|Bnb false O O (λ_=>a9 _ _ _) (decide_eq_false om)<|Pk O O O<|aa<|aC O<|ap<|ac (E:=EE [205])<|Mv O<|Mv O<|Mv O<|Bnr O O (λ_=>bp _ _ _ oi)<|?_;refine jt O O ent205 O O gt_low (ay hGF) (λw' hC hG=>pxc a1 cap1 msg a2 cap2 dst (128*(n:Int)) w' om hc1 om hc2 hG (hb1.grow (hgw.trans (ab hC))) (hb2.grow (hgw.trans (ab hC)))) (λw0 w1 v h0 hg hG1 hq=> ?_);replace hgw:=hgw.trans ((ab h0).trans hg);clear h0 hg hGF;have hGF:BOk Gt (pl w1):=gt_low.plain hG1;obtain ⟨xa,xc,rfl,hx,hle⟩:=hq.ok (by rintro (h|h|h|h)<;>omega)
 rw[show ((128:Int)*(n:Int)).toNat=128*n by omega]at*
 refine Mv O<|Ext O O<|Ext O O<|Asg O<|Asg O<|aa<|ae<|ac (E:=EE [205])<|Mv O<|Bnb false O O (λ_=>bz _ _ _) (rfl)<|aa<|aC O<|ap<|ac (E:=EE [205])<|Mv O<|wc (l:=n) (m:=n) (c:=(RW 12 (λ_=>List.replicate 12 0#64) n).map U64) 30 hGF O O (Nat.le_refl _) underlying218 tiQ ⟨om,om,om⟩ (Ty _ sm _) O O<|λb30=>Asg O<|aa<|ae<|ac (E:=EE [205])<|Mv O<|bc O (λ_=>aF underlying218 _ _ _ _) O O<|Mv O<|aa<|ah<|bG (ι:={k:Nat // k<=n}) (λz=>[(8,.slice xa (E msg dst (128*n)).length xc),(10,.slice (spt b30) n n),(32,I (n:Int)),(33,I (z.1:Int))]) (λz=>[(30,b30,(RW 12 (λi=>if i<z.1 then N2r (E msg dst (128*n)) i else List.replicate 12 0#64) n).map U64,78)]) (λz=>n-z.1) ⟨0,om⟩ hGF trv ⟨by rw[kN (s:=12) (g:=λ_=>List.replicate 12 0#64) (λi _=>if_neg (Nat.not_lt_zero i))];rfl,trivial⟩<|?_
 rintro ⟨k,hk⟩;dsimp only;refine ac (E:=EE [205])<|Bnr O O (λ_=>av _ _ _)<|aa<|ae<|?_;refine bC O (λhc=> ?_) (λhc=> ?_)
 ·have hlt:k<n:=by simp at hc;omega
  clear hc;refine ap<|ae<|ah<|ac (E:=EE [205])<|Mv O<|Asg O<|aa<|bF (E:=EE [205])<|Mv O<|Mv O<|Mv O<|Mv O<|Bnr (v:=I ((2*k:Nat):Int)) O O (λ_=>(bp _ _ _ oi).trans (by rw[show (2:Int)*(k:Int)=((2*k:Nat):Int) by omega]))<|Cc O ent206 (λw' hC hG=>zn xa _ xc (E msg dst (128*n)) O hle (2*k) (by rw[ki];omega) (by rw[ki];omega) w' hG (hx.grow (ab hC)))<|Mv O<|Mv O<|Bnr (v:=I ((2*k:Nat):Int)) O O (λ_=>(bp _ _ _ oi).trans (by rw[show (2:Int)*(k:Int)=((2*k:Nat):Int) by omega]))<|Bnr (v:=I ((2*k+1:Nat):Int)) O O (λ_=>(aq _ _ _ oi).trans rr)<|Cc O ent206 (λw' hC hG=>zn xa _ xc (E msg dst (128*n)) O hle (2*k+1) (by rw[ki];omega) (by rw[ki];omega) w' hG (hx.grow (ab hC)))<|co fV O O sm sm O O<|?_
  rw[QZ];refine iG (s:=12) k O O underlying218 sizeOf78 om om O O<|fQ 30 hGF O O O sizeOf78 (by rw[List.length_map,N2r_len]) (ba _) (by rw[List.length_map,List.length_map,N2r_len,cQ];omega) O<|?_
  rw[JA (N2r (E msg dst (128*n))) _ n k hlt (N2r_len _ _)];refine aa<|bF (E:=EE [205])<|Bnr (v:=I ((k+1:Nat):Int)) O O (λ_=>(aq _ _ _ oi).trans rr)<|Mv O<|aa<|?_
  repeat (first|refine aL ?_|refine ck ?_)
  exact aB<|⟨rfl,⟨k+1,om⟩,_,by show n-(k+1)<n-k;omega,rfl,trv,trv⟩
 ·have hke:k=n:=by simp at hc;omega
  clear hc;subst hke;refine aU<|ac (E:=EE [205])<|Mv O<|Asg O<|Asg O<|aa<|ak<|?_
  repeat (first|refine bJ ?_|refine bI ?_|refine eY ?_)
  exact cg O O O (λw hw=>⟨_,_,rfl,hgw.trans (ab hw),.inr ⟨b30,rfl,(hw.own 30 b30 _ _ O).2.elim (λh=>Nat.le_trans hgw.size h) False.elim,by rw[<-kN (s:=12) (λi hi=>if_pos hi)];exact (hw.own 30 b30 _ _ O).1.range⟩⟩)
theorem pfc:PFC:=by
 intro a1 cap1 msg a2 cap2 dst z w hl1 hc1 hl2 hc2 hw hb1 hb2;have err:FBad msg dst z->∀{e:Ending} {w':World},e=.returned (.tuple #[.slice none 0 0,I 130])/\Grow w w'->∃v,e=.returned v/\Grow w w'/\RFt msg dst z w w' v:=λhb _ _ h=>⟨_,h.1,h.2,λ_=>rfl,λhn=>absurd hb hn⟩;by_cases h0:z<0
 ·exact (pf_0 a1 cap1 msg a2 cap2 dst z h0 w hw).mono λ_ _ h=>err (.inl h0) h
 by_cases h1:32<z
 ·exact (pf_1 a1 cap1 msg a2 cap2 dst z h1 w hw).mono λ_ _ h=>err (.inr (.inl h1)) h
 by_cases h2:255<dst.length\/65536<msg.length
 ·exact (pf_2 a1 cap1 msg a2 cap2 dst hc1 hc2 hl1 hl2 z h0 h1 h2 w hw hb1 hb2).mono λ_ _ h=>err (.inr (.inr h2)) h
 obtain ⟨n,rfl⟩: ∃n:Nat,z=(n:Int):=⟨z.toNat,om⟩;refine (WC a1 cap1 msg a2 cap2 dst n hc1 hc2 hl1 hl2 om om om w hw hb1 hb2).mono λe w' ⟨a,cap,he,hg,hc⟩=>⟨_,he,hg,λhb=>absurd hb ?_,λ_=>⟨a,cap,rfl,hc⟩⟩;rintro (h|h|h|h)<;>omega
end Xm
end
section
open J2
open Go.RowKit
attribute [local simp] a6 bv aH aA aQ aY aR aK aM PLl cJ cH N1l cI cL cK bf bB a7 bu bx cQ dC jQ
theorem ent124:ai prog 124:=λ_ _=>kr
theorem ent172:ai prog 172:=λ_ _=>kr
theorem ent126:ai prog 126:=λ_ _=>kr
theorem QE  :PUR 79 [] (.string SUb):=by
 intro w hw;refine Hf func79 O hw<|λhGF=>Xp<|Asg O<|aa<|Xp<|Asg O<|aa<|ak<|Rr<|?_;exact aE O O (λw hw=>⟨rfl,ab hw⟩)
theorem T5(p q:GP)(hq:Kt p HBs=q)(b cap:Nat)(w:World)(hw:Gt w)(h:w.rangeAt b 0 (HBs.map U8)):CLS 173 [PtV p,.slice (spt b) HBs.length cap].toArray w (λr w'=>r=.returned (PtV q)/\Grow w w'):=by
 subst hq;exact UB p _ cap HBs dc w hw (BytesAt.range h)
def gCl(p:GP):GP:=Kt p HBs
theorem NT(p:GP)(bs:L8):(Kt p bs).P=E2w.times p.P (BN bs bs.length):=rfl
theorem U0(p:GP):(gCl p).P=E2w.times p.P HEF:=by rw[gCl,NT,Mh]
theorem Rq(p:GP):PUR 125 [PtV p] (PtV (gCl p)):=by
 intro w hw;refine Hf func125 O hw<|λhGF=>ac (E:=EE [1000022])<|Bx 1 hGF O<|λb1=>Al 2 hGF zv80<|λb2=>aa<|ac (E:=EE [1000022])<|La 1 O O cm<|dV 4 HBs hGF O O O dc dc underlying22 sizeOf5 zeroValue5 O O<|λb4=>lV 4 O hGF O O underlying22 underlying5 O O<|Cc O ent173 (λw' hC hG=>T5 p (gCl p) O _ _ w' hG (aG (n:=4) O w' hC))<|Sa 2 hGF O O O cm<|aa<|ak<|Rr<|?_;exact au 2 O O O isAgg80 sizeOf80 sm (λw hw=>⟨rfl,ab hw⟩)
def PE2(f:Nat->W2):List (List Value):=(List.range 2).map λ(k:Nat)=>[EV2 (f k)]
theorem sP(f:Nat->W2):(PE2 f).length=2:=by rw[PE2,List.length_map,List.length_range]
theorem zK(f:Nat->W2)(k:Nat)(h:k<2):(PE2 f)[k]? =some [EV2 (f k)]:=by
 rw[PE2,List.getElem?_map,List.getElem?_range h];rfl
theorem Qm(f:Nat->W2)(k:Nat)(v:List Value)(h:(PE2 f)[k]? =some v):k<2/\v=[EV2 (f k)]:=by
 have hk:k<2:=by
  rcases Nat.lt_or_ge k 2 with hk|hk
  ·exact hk
  ·rw[List.getElem?_eq_none (by rw[sP];exact hk)]at h;cases h
 exact ⟨hk,(Option.some.inj ((zK f k hk).symm.trans h)).symm⟩
def RdE(bb b cap:Nat)(f:Nat->W2):Cls:=λw=>w.cell? ⟨bb,0,none⟩=some (.slice (spt b) 2 cap)/\w.rangeAt b 0 ((RW 12 (RPr f) 2).map U64)
theorem pq(bb b cap:Nat)(f:Nat->W2):fD prog Gt 172 [pnt bb] (PE2 f) (RdE bb b cap f):=by
 intro l J Jx hJ hJx hRd hGx hY w hj;have okJ: ∀k,BOk Gt (Bi w (λY=>J Y k)):=λk=>⟨λ_ _ _ h=>(hRd _ _ _ h.rid).1,hJ k⟩;have okX: ∀k,BOk Gt (Bi w (λY=>Jx Y k)):=λk=>⟨λ_ _ _ h=>hGx _ _ _ h.rid,hJx k⟩;have c1: ∀k L w',Hp (Bi w (λY=>J Y k)) L w'->RdE bb b cap f w':=λk L w' h=>(hRd _ _ _ h.rid).2;refine cu (G:=Gt) func172 O O (Hp (Bi w (λY=>J Y 0)) []) (ci (Bi w _) hj (hJ 0)) (ay (okJ 0))<|Xp<|bN O isAgg218 (λw h=>(c1 _ _ w h).1) O O<|bc O (λ_=>aF underlying218 _ _ _ _) O O<|Mv O<|aa<|ah<|gy (ι:={i:Nat // i<=2}) (λy=>[(0,.func (.yield l) #[] #[]),(1,pnt bb),(5,.slice (spt b) 2 cap),(6,I ((2:Nat):Int)),(7,I (y.1:Int))]) (λy=>Bi w (λY=>J Y y.1)) (λy=>[]) (λy=>2-y.1) ⟨0,Nat.zero_le _⟩ (λ_=>okJ _) O trv trivial<|?_;rintro ⟨i,hi⟩;dsimp only;refine Xp<|Bnr O O (λ_=>av _ _ _)<|aa<|ae<|?_;refine bC O (λhc=> ?_) (λhc=> ?_)
 ·have hi2:i<2:=by simp at hc;omega
  refine ap<|ae<|ah<|Xp<|iG (s:=12) i O O underlying218 sizeOf78 om om O O<|de (cs:=(fe (f i).1++fe (f i).2).map U64) O isAgg78 sizeOf78 sm (λw h=>gD (c1 _ _ w h).2 om (dC _ _)) O O<|Al 4 (okJ _) zv78<|λb4=>Sa 4 (okJ _) O O O aW<|aa<|Xp<|Mv O<|La 4 O O aW<|?_;refine dw (hY.b (k:=i) (zK f i om) w) (okJ _) (okX _) O O O O O ?_ ?_
  ·refine bi O (λ_=>a5 _) O O<|aa<|aC O<|ap<|Xq<|Bnr O O (λ_=>aq _ _ _ oi)<|Mv O<|aa<|?_
   repeat (refine aL ?_)
   exact aB<|⟨rfl,⟨i+1,om⟩,_,by show 2-(i+1)<2-i;omega,rfl,trv,trivial⟩
  ·refine bi O (λ_=>a5 _) O O<|aa<|aP O<|ak<|Rr<|?_
   repeat (first|refine du ?_|refine ck ?_|refine dK O ?_|refine bJ ?_|refine bI ?_)
   exact dr O (λw hw=>⟨⟨_,rfl⟩,.inr ⟨_,bZ (hJx _) hw.rid⟩⟩)
 ·obtain rfl:i=2:=by simp at hc;omega
  refine aU ?_
  repeat (first|refine du ?_|refine ck ?_|refine dK O ?_|refine bJ ?_|refine bI ?_)
  refine cS O (λw hw=>⟨⟨_,rfl⟩,.inl ?_⟩);have:=bZ (hJ _) hw.rid;rw[sP];exact this
theorem MY{u:W2}{A:W2×W2}(h:SwA u A): ∃p:GP,p.P=some A/\PUR 174 [EV2 u] (PtV p):=by
 obtain ⟨x,r,s,rfl⟩:=h;exact ⟨_,rfl,pmap s⟩
def gS(p:Nat->GP):Nat->GP
 |0=>gInf
 |k+1=>DI (gS p k) (p k)
theorem gS_P{p:Nat->GP}{A B:W2×W2}(h0:(p 0).P=some A)(h1:(p 1).P=some B):(gS p 2).P=E2w.ad (some A) (some B):=by
 show E2w.ad (E2w.ad none (p 0).P) (p 1).P=_;rw[h0,h1];rfl
theorem Ig(msg dst:L8)(hbad:Xm.FBad msg dst 2)(a1:Option Addr)(cap1:Nat)(a2:Option Addr)(cap2:Nat)(w:World)(hl1:msg.length<=65600)(hc1:msg.length<=cap1)(hl2:dst.length<=1000)(hc2:dst.length<=cap2)(hw:Gt w)(hb1:BytesAt w a1 msg)(hb2:BytesAt w a2 dst):CLS 124 [.slice a1 msg.length cap1,.slice a2 dst.length cap2].toArray w (λe w'=>e=.returned (.tuple #[.nilFunc,I 130])/\Grow w w'):=by
 refine Hf func124 O hw<|λhGF=>ac (E:=EE [171,2000171])<|Asg O<|Asg O<|aa<|ac (E:=EE [171,2000171])<|Mv O<|Mv O<|?_;refine bK O O ent171 O O (λw' hw'=>(Xm.pfc a1 cap1 msg a2 cap2 dst 2 w' om hc1 om hc2 (hGF.g _ _ _ hw') (hb1.grow (ab hw')) (hb2.grow (ab hw'))).mono λe w'' h=> ?_);obtain ⟨v,rfl,hg,hq⟩:=h;obtain rfl:=hq.bad hbad;refine ⟨_,_,rfl,ay hGF,hw'.grow am hg,λ_ h=>h, ?_⟩;clear hq hg hw';refine Mv O<|Ext O O<|Ext O O<|gX 6 hGF zeroValue218 O O<|λb6=>dS 6 hGF O O O sizeOf218 O dc O<|Asg O<|aa<|ae<|ac (E:=EE [171,2000171])<|Mv O<|Bnb true O O (λ_=>bz _ _ _) (rfl)<|aa<|aP O<|ac (E:=EE [171,2000171])<|Mv O<|Asg O<|Asg O<|aa<|ak<|Rr<|?_;exact cg O O O (λw hw=>⟨rfl,ab hw⟩)
theorem Qh(msg dst:L8)(hbad: ¬Xm.FBad msg dst 2)(a1:Option Addr)(cap1:Nat)(a2:Option Addr)(cap2:Nat)(w:World)(hl1:msg.length<=65600)(hc1:msg.length<=cap1)(hl2:dst.length<=1000)(hc2:dst.length<=cap2)(hw:Gt w)(hb1:BytesAt w a1 msg)(hb2:BytesAt w a2 dst):CLS 124 [.slice a1 msg.length cap1,.slice a2 dst.length cap2].toArray w (λe w'=> ∃b cap b1,e=.returned (.tuple #[.func (.func 172) #[] #[pnt b1],I 0])/\Grow w w'/\w.heap.size<=b/\w'.rangeAt b 0 (U2c msg dst)/\w.heap.size<=b1/\w'.rangeAt b1 0 [.slice (spt b) 2 cap]):=by
 refine Hf func124 O hw<|λhGF=>ac (E:=EE [171,2000171])<|Asg O<|Asg O<|aa<|ac (E:=EE [171,2000171])<|Mv O<|Mv O<|?_;refine bK O O ent171 O O (λw' hw'=>(Xm.pfc a1 cap1 msg a2 cap2 dst 2 w' om hc1 om hc2 (hGF.g _ _ _ hw') (hb1.grow (ab hw')) (hb2.grow (ab hw'))).mono λe w'' h=> ?_);obtain ⟨v,rfl,hg,hq⟩:=h;obtain ⟨b,cap,rfl,hbs,hbr⟩:=rH hq hbad;refine ⟨_,_,rfl,ay (mi hGF),DJ hw' am hg hbs (y0 hbr) hbr,λ_ h=>ji h, ?_⟩;have hbs0:w.heap.size<=b:=Nat.le_trans (ab hw').size hbs;clear hq hg hw' hbs hbr;refine Mv O<|Ext O O<|Ext O O<|gX 6 (mi hGF) zeroValue218 O O<|λb6=>dS 6 (mi hGF) O O O sizeOf218 O dc O<|Asg O<|aa<|ae<|ac (E:=EE [171,2000171])<|Mv O<|Bnb false O O (λ_=>bz _ _ _) (rfl)<|aa<|aC O<|ap<|ac (E:=EE [171,2000171])<|gj O O O O<|Asg O<|Asg O<|aa<|ak<|Rr<|?_;exact cg O O O (λw hw=>⟨b,cap,b6,rfl,hbl hw,hbs0,wF hw,(hw.own 6 b6 _ _ O).2.elim id False.elim,(hw.own 6 b6 _ _ O).1.range⟩)
theorem B7(f:Nat->W2)(p:Nat->GP)(hm0: ∀k,k<2->PUR 174 [EV2 (f k)] (PtV (p k)))(b1 b cap:Nat)(w:World)(hw:Gt w)(hRs: ∀w',Grow w w'->RdE b1 b cap f w'):
 CLS 126 [.func (.func 172) #[] #[pnt b1]].toArray w (λr w'=>r=.returned (PtV (gS p 2))/\Grow w w'):=by
 have hGF:BOk Gt (pl w):=gt_low.plain hw;refine cw (G:=Gt) func126 O O (Hp (pl w) []) (ci (pl w) trivial am) (ay hGF)<|Xp<|Al 2 hGF zv80<|λb2=>aa<|Xp<|Al 3 hGF zv80<|λb3=>aa<|ae<|Xp<|Mv O<|aa<|ah<|?_;refine fc (λ_=>pl w) (λ_ _=>pl w) (λ_=>hGF) (λ_ _=>hGF) (λ_=>rfl) (λ_ _=>rfl) O O ent172 (pq b1 b cap f) (λx hx=>by obtain ⟨k,hk,rfl⟩:=List.mem_map.1 hx;rfl) O (λk=>[(2,b2,(GL (gInf)).map U64,80),(3,b3,(GL (gS p k)).map U64,80)]) (λ_ _ _=>False) trv (λk _ w' h=>hRs w' (h.below (λ_ h=>h))) ?_ ?_ (λ_ _ _ _ _ h=>h.elim)
 ·intro k v hx R hR
  obtain ⟨hk,rfl⟩:=Qm f k v hx;have hm:=hm0 k hk;refine Xq<|dN 4 (hR (pl w) O hGF).1 zv78 O O<|λb4=>az 4 (hR (pl w) O hGF).1 O O O sizeOf78 sm sm (ba _) O<|aa<|?_;refine ⟨rfl,_,rfl, ?_⟩;refine ah<|Xe []<|La 3 O O cm<|La 4 O O aW<|Ca O (hm)<|Ca O (Dw _ _)<|az 3 (hR (pl w) O hGF).2.1 O O O sizeOf80 sm sm (ba _) O<|aa<|?_
  repeat (refine aL ?_)
  exact ⟨_,rfl,trv⟩
 ·intro D hD
  rw[sP];refine Xp<|La 3 O O cm<|Sa 2 hD O O O cm<|aa<|ak<|Rr<|?_;exact dR (.inl O) am (au 2 O O O isAgg80 sizeOf80 sm (λw hw=>⟨rfl,ab hw⟩))
theorem R3{B:Bs}{L:Hl}{Y:Nat->Prop}{w w':World}{b d:Nat}{cs ds:List Value}(h:Hq B L Y w)(hr:Rides B.J)(hg:Grow w w')(hb:w.heap.size<=b)(hb':b<w'.heap.size)(hc:w'.rangeAt b 0 cs)(hd:w.heap.size<=d)(hd':d<w'.heap.size)(he:w'.rangeAt d 0 ds):Hq (pj (pj B b cs) d ds) L Y w':=by
 have k:=DJ h hr hg hb hb' hc;refine ⟨k.os,k.tape,k.output,k.size,k.keep,k.own,k.inj,k.apart,k.high,k.lt,k.rid,λe=> ?_,hd',he⟩;rcases e with e|e
 ·have:=h.ownlt e;omega
 ·have:=h.lt _ e;omega
theorem OI{w w':World}{b1 b cap:Nat}{f:Nat->W2}(h1:w.rangeAt b1 0 [.slice (spt b) 2 cap])(h2:w.rangeAt b 0 ((RW 12 (RPr f) 2).map U64))(hg:Grow w w'):RdE b1 b cap f w':=⟨(me h1 hg) 0 _ O,me h2 hg⟩
theorem CC(msg dst:L8)(hbad:Xm.FBad msg dst 2)(a1:Option Addr)(cap1:Nat)(a2:Option Addr)(cap2:Nat)(w:World)(hl1:msg.length<=65600)(hc1:msg.length<=cap1)(hl2:dst.length<=1000)(hc2:dst.length<=cap2)(hw:Gt w)(hb1:BytesAt w a1 msg)(hb2:BytesAt w a2 dst):CLS 78 [.slice a1 msg.length cap1,.slice a2 dst.length cap2].toArray w (λe w'=>e=.returned (.tuple #[PtV gInf,I 130])/\Grow w w'):=by
 refine Hf func78 O hw<|λhGF=>ac (E:=EE [124,2000124])<|Al 4 hGF zv80<|λb4=>Asg O<|aa<|ac (E:=EE [124,2000124])<|Mv O<|Mv O<|?_;refine bK O O ent124 O O (λw' hw'=>(Ig msg dst hbad a1 cap1 a2 cap2 w' hl1 hc1 hl2 hc2 (hGF.g _ _ _ hw') (hb1.grow (ab hw')) (hb2.grow (ab hw'))).mono λe w'' h=> ?_);obtain ⟨rfl,hg⟩:=h;refine ⟨_,_,rfl,ay hGF,hw'.grow am hg,λ_ h=>h, ?_⟩;clear hg hw';refine Mv O<|Ext O O<|Ext O O<|Asg O<|Asg O<|aa<|ae<|ac (E:=EE [124,2000124])<|Mv O<|Bnb true O O (λ_=>bz _ _ _) (rfl)<|aa<|aP O<|ac (E:=EE [124,2000124])<|jn oI O O<|Mv O<|Sa 4 hGF O O O cm<|Asg O<|aa<|ak<|Rr<|?_;exact aZ 4 O O O O isAgg80 sizeOf80 sm (λw hw=>⟨rfl,ab hw⟩)
theorem DP(msg dst:L8)(hbad: ¬Xm.FBad msg dst 2)(p:Nat->GP)(hm0: ∀k,k<2->PUR 174 [EV2 (U2n msg dst k)] (PtV (p k)))(a1:Option Addr)(cap1:Nat)(a2:Option Addr)(cap2:Nat)(w:World)(hl1:msg.length<=65600)(hc1:msg.length<=cap1)(hl2:dst.length<=1000)(hc2:dst.length<=cap2)(hw:Gt w)(hb1:BytesAt w a1 msg)(hb2:BytesAt w a2 dst):CLS 78 [.slice a1 msg.length cap1,.slice a2 dst.length cap2].toArray w (λe w'=>e=.returned (.tuple #[PtV (gCl (gS p 2)),I 0])/\Grow w w'):=by
 refine Hf func78 O hw<|λhGF=>ac (E:=EE [124,2000124])<|Al 4 hGF zv80<|λb4=>Asg O<|aa<|ac (E:=EE [124,2000124])<|Mv O<|Mv O<|?_;refine bK O O ent124 O O (λw' hw'=>(Qh msg dst hbad a1 cap1 a2 cap2 w' hl1 hc1 hl2 hc2 (hGF.g _ _ _ hw') (hb1.grow (ab hw')) (hb2.grow (ab hw'))).mono λe w'' h=> ?_);obtain ⟨b,cap,b1,rfl,hg,hbs,hbr,hds,hdr⟩:=h;refine ⟨_,_,rfl,ay (mi (mi hGF)),R3 hw' am hg hbs (y0 hbr) hbr hds (block_lt_of_cell (hdr 0 _ O)) hdr,λ_ h=>ji (ji h), ?_⟩;clear hg hw' hbs hbr hds hdr;refine Mv O<|Ext O O<|Ext O O<|Asg O<|Asg O<|aa<|ae<|ac (E:=EE [124,2000124])<|Mv O<|Bnb false O O (λ_=>bz _ _ _) (rfl)<|aa<|aC O<|ap<|ac (E:=EE [124,2000124])<|Mv O<|Cc O ent126 (λw' hC hG=>B7 (U2n msg dst) p hm0 b1 b cap w' hG (λw'' hg=>OI (wF hC) (wF (ji hC)) hg))<|Ca O (Rq _)<|Sa 4 (mi (mi hGF)) O O O cm<|Asg O<|aa<|ak<|Rr<|?_;exact aZ 4 O O O O isAgg80 sizeOf80 sm (λw hw=>⟨rfl,hbl hw⟩)
theorem phs:PHs:=by
 refine ⟨λmsg dst hb=>⟨gInf,rfl,λa1 cap1 a2 cap2 w=>CC msg dst hb a1 cap1 a2 cap2 w⟩,λmsg dst A B hb h=> ?_⟩;obtain ⟨p0,e0,h0⟩:=MY h.s0;obtain ⟨p1,e1,h1⟩:=MY h.s1;refine ⟨gCl (gS (λk=>if k=0 then p0 else p1) 2), ?_,λa1 cap1 a2 cap2 w=>DP msg dst hb _ (λk hk=> ?_) a1 cap1 a2 cap2 w⟩
 ·rw[U0,gS_P (A:=A) (B:=B) e0 e1]
 ·match k,hk with
  |0,_=>exact h0
  |1,_=>exact h1
end
section
open Go.RowKit
theorem eD(P:Pt Zp):(EN1 P).length=48:=by
 cases P with
 |none=>rfl
 |some p=>exact (ox _ _).trans (aM _)
theorem eZ(P:Pt W2):(EN2 P).length=96:=by
 cases P with
 |none=>rfl
 |some p=>exact (ox _ _).trans (by rw[List.length_append,aM,aM])
attribute [local simp] a6 bv aH aA aQ aY aR aK aM PLl cJ cH N1l cI cL cK bf bB a7 bu J1.bx J2.bx ca ft eD eZ
attribute [local simp] fP
theorem ent8:ai prog 8:=λ_ _=>kr
theorem ent14:ai prog 14:=λ_ _=>kr
theorem ent27:ai prog 27:=λ_ _=>kr
theorem ent26:ai prog 26:=λ_ _=>kr
theorem ent25:ai prog 25:=λ_ _=>kr
theorem ent62:ai prog 62:=λ_ _=>kr
theorem ent34:ai prog 34:=λ_ _=>kr
theorem ent61:ai prog 61:=λ_ _=>kr
theorem ent109:ai prog 109:=λ_ _=>kr
theorem ent160:ai prog 160:=λ_ _=>kr
theorem zv30(w:World):(zeroValue 30).run prog w=.ok (.agg ((List.replicate 48 (0#8)).map U8).toArray) w:=(zeroValue30 w).trans rr
theorem zv33(w:World):(zeroValue 33).run prog w=.ok (.agg ((List.replicate 96 (0#8)).map U8).toArray) w:=(zeroValue33 w).trans rr
theorem Qx(x:Zr):PUR 7 [RV x] (.agg ((EN1 (J1.rS J1.xv x).P).map U8).toArray):=by
 intro w hw;refine Hf func7 O hw<|λhGF=>Xp<|Bx 1 hGF O<|λb1=>Al 2 hGF zv30<|λb2=>aa<|Xd []<|Ca O (J1.HJ)<|La 1 O O io<|Ca O (J1.uE _ x)<|Ca O (Re _)<|az 2 hGF O O O sizeOf30 (by simp[*]) sm (bY _) O<|aa<|ak<|Rr<|?_
 exact au 2 O O O isAgg30 sizeOf30 sm (λw hw=>⟨rfl,ab hw⟩)
theorem Wa:SUb.data.toList=SUs.map (λx=>UInt8.ofBitVec x):=rfl
def HsC(msg:L8)(p:J2.GP)(c:Int):Prop:= ∀(a1:Option Addr) (cap1:Nat) (a2:Option Addr) (cap2:Nat) (w:World),msg.length<=65600->msg.length<=cap1->SUs.length<=1000->SUs.length<=cap2->Gt w->BytesAt w a1 msg->BytesAt w a2 SUs->CLS 78 [.slice a1 msg.length cap1,.slice a2 SUs.length cap2].toArray w (λe w'=>e=.returned (.tuple #[J2.PtV p,I c])/\Grow w w')
structure Ms(msg:L8)(p:J2.GP)(c:Int):Prop where
 h:HsC msg p c
theorem Rx(msg:L8)(p:J2.GP)(c:Int)(hM:Ms msg p c)(a:Option Addr)(cap:Nat)(w:World)(hl:msg.length<=65600)(hc:msg.length<=cap)(hw:Gt w)(hb:BytesAt w a msg):CLS 34 [.slice a msg.length cap].toArray w (λr w'=>r=.returned (.tuple #[J2.PtV p,I c])/\Grow w w'):=by
 refine Hf func34 O hw<|λhGF=>ac (E:=EE [1000022])<|Al 2 hGF J2.zv80<|λb2=>Asg O<|aa<|ac (E:=EE [1000022])<|Mv O<|Ca O (QE)<|?_;refine yQ 6 (xs:=SUs) O hGF O underlying9 underlying22 underlying5 Wa O O (λb6 c6 k6 e6 l6 t6=> ?_);refine Cc O ent78 (λw' hC hG=>hM.h a cap _ _ w' hl hc dc l6 hG (hb.grow (ab hC)) (cB (aG (n:=6) O w' hC) t6))<|Ext O O<|Ext O O<|Sa 2 hGF O O O cm<|Asg O<|aa<|ak<|Rr<|?_;exact aZ 2 O O O O isAgg80 sizeOf80 sm (λw hw=>⟨rfl,ab hw⟩)
theorem wG(x:Zr)(msg:L8)(p:J2.GP)(hM:Ms msg p 0)(a:Option Addr)(cap:Nat)(w:World)(hl:msg.length<=65600)(hc:msg.length<=cap)(hw:Gt w)(hb:BytesAt w a msg):CLS 8 [RV x,.slice a msg.length cap].toArray w (λr w'=>r=.returned (.tuple #[.agg ((EN2 (J2.rS p x).P).map U8).toArray,I 0])/\Grow w w'):=by
 refine Hf func8 O hw<|λhGF=>Xp<|Bx 2 hGF O<|λb2=>Al 4 hGF zv33<|λb4=>Asg O<|aa<|Xp<|Mv O<|Cc O ent34 (λw' hC hG=>Rx msg p _ hM a cap w' hl hc hG (hb.grow (ab hC)))<|Mv O<|Ext O O<|Ext O O<|Al 6 hGF J2.zv80<|λb6=>Sa 6 hGF O O O cm<|Asg O<|aa<|ae<|Xp<|Mv O<|Bnb false O O (λ_=>bz _ _ _) (rfl)<|aa<|aC O<|ap<|Xp<|La 6 O O cm<|La 2 O O io<|Ca O (J2.uE _ x)<|Ca O (N7 _)<|az 4 hGF O O O sizeOf33 (by simp[*]) sm (bY _) O<|Asg O<|aa<|ak<|Rr<|?_
 exact aZ 4 O O O O isAgg33 sizeOf33 sm (λw hw=>⟨rfl,ab hw⟩)
theorem Kl(bs:L8)(hn:bs.length=48)(P:Pt Zp)(h0:P=none)(hD:D1 bs 0 P):PUR 14 [.agg ((bs).map U8).toArray] (.tuple #[J1.PtV J1.gInf,I 160]):=by
 intro w hw;refine Hf func14 O hw<|λhGF=>Xp<|Bx 1 hGF O<|λb1=>Al 2 hGF J1.zv54<|λb2=>Asg O<|aa<|Xp<|bP (l:=0) (h':=48) O underlying30 sizeOf5 O O dc dc O O<|Cc O ent45 (λw' hC hG=>EL _ 48 48 bs hn _ P hD dc w' hG (BytesAt.range (aG (n:=1) O w' hC)))<|Mv O<|Ext O O<|Ext O O<|Al 4 hGF J1.zv54<|λb4=>Sa 4 hGF O O O cj<|Asg O<|aa<|ae<|ah<|Xp<|Mv O<|Bnb false O O (λ_=>bz _ _ _) (rfl)<|Asg O<|aa<|aC O<|Xp<|La 4 O O cj<|Cbl true O ent20 (J1.oG _) (decide_eq_true h0)<|Asg O<|aa<|aP O<|Xp<|Ca O (J1.lq)<|Sa 2 hGF O O O cj<|Asg O<|aa<|ak<|Rr<|?_;exact aZ 2 O O O O isAgg54 sizeOf54 sm (λw hw=>⟨rfl,ab hw⟩)
theorem Qu(bs:L8)(hn:bs.length=48)(P:Pt Zp)(h0: ¬P=none)(hD:D1 bs 0 P):PUR 14 [.agg ((bs).map U8).toArray] (.tuple #[J1.PtV (cA1 P (n4 hD)),I 0]):=by
 intro w hw;refine Hf func14 O hw<|λhGF=>Xp<|Bx 1 hGF O<|λb1=>Al 2 hGF J1.zv54<|λb2=>Asg O<|aa<|Xp<|bP (l:=0) (h':=48) O underlying30 sizeOf5 O O dc dc O O<|Cc O ent45 (λw' hC hG=>EL _ 48 48 bs hn _ P hD dc w' hG (BytesAt.range (aG (n:=1) O w' hC)))<|Mv O<|Ext O O<|Ext O O<|Al 4 hGF J1.zv54<|λb4=>Sa 4 hGF O O O cj<|Asg O<|aa<|ae<|ah<|Xp<|Mv O<|Bnb false O O (λ_=>bz _ _ _) (rfl)<|Asg O<|aa<|aC O<|Xp<|La 4 O O cj<|Cbl false O ent20 (J1.oG _) (decide_eq_false h0)<|Asg O<|aa<|aC O<|ap<|Xp<|La 4 O O cj<|Sa 2 hGF O O O cj<|Asg O<|aa<|ak<|Rr<|?_;exact aZ 2 O O O O isAgg54 sizeOf54 sm (λw hw=>⟨rfl,ab hw⟩)
theorem SO(bs:L8)(hn:bs.length=96)(c:Int)(P:Pt W2)(hD:D2 bs c P):PUR 110 [.agg ((bs).map U8).toArray] (.tuple #[J2.PtV (cA2 P (nI hD)),I c]):=by
 intro w hw;refine Hf func110 O hw<|λhGF=>Xp<|Bx 1 hGF O<|λb1=>Al 2 hGF J2.zv80<|λb2=>Asg O<|aa<|Xp<|bP (l:=0) (h':=96) O underlying33 sizeOf5 O O dc dc O O<|Cc O ent161 (λw' hC hG=>Sn _ 96 96 bs hn _ P hD dc w' hG (BytesAt.range (aG (n:=1) O w' hC)))<|Ext O O<|Ext O O<|Sa 2 hGF O O O cm<|Asg O<|aa<|ak<|Rr<|?_;exact aZ 2 O O O O isAgg80 sizeOf80 sm (λw hw=>⟨rfl,ab hw⟩)
end
section
open Go.RowKit
attribute [local simp] a6 bv aH aA aQ aY aR aK aM PLl cJ cH N1l cI cL cK bf bB a7 bu J1.bx J2.bx ca ft eD eZ
attribute [local simp] fP
theorem I5{w w':World}{b o:Nat}{c:List Value}(h:w.rangeAt b o c)(hg:Grow w w'):w'.rangeAt b o c:=λj v hv=>(hg.cell (block_lt_of_cell (h j v hv))).trans (h j v hv)
theorem ux{n m x y:Nat}{c d:List Value}{s t:TypeId}(hx:x≠y): ∀n' m' b c1 t1 c2 t2,lkB [(n,x,c,s),(m,y,d,t)] n'=some (b,c1,t1)->lkB [(n,x,c,s),(m,y,d,t)] m'=some (b,c2,t2)->n'=m':=by
 intro n' m' b c1 t1 c2 t2 h1 h2;rcases aI h1 with ⟨e1,k1⟩|⟨_,h1⟩
 ·rcases aI h2 with ⟨e2,_⟩|⟨_,h2⟩
  ·exact e1.trans e2.symm
  ·rcases aI h2 with ⟨_,k2⟩|⟨_,h2⟩
   ·cases k1;cases k2;exact absurd O hx
   ·cases h2
 ·rcases aI h1 with ⟨e1,k1⟩|⟨_,h1⟩
  ·rcases aI h2 with ⟨_,k2⟩|⟨_,h2⟩
   ·cases k1;cases k2;exact absurd O hx
   ·rcases aI h2 with ⟨e2,_⟩|⟨_,h2⟩
    ·exact e1.trans e2.symm
    ·cases h2
  ·cases h1
def KsAt(w:World)(b s n:Nat)(K:Nat->L8):Prop:= ∀i,i<n->w.rangeAt b (0+s*i) ((K i).map U8)
theorem KsAt.up{w w':World}{b s n:Nat}{K:Nat->L8}(h:KsAt w b s n K)(hg:Grow w w'):KsAt w' b s n K:=λi hi=>I5 (h i hi) hg
namespace J1
def gSm(p:Nat->GP):Nat->GP
 |0=>gInf
 |i+1=>DI (gSm p i) (p i)
def PEs(p:Nat->GP)(e:Nat->Int)(n:Nat):List (List Value):=(List.range n).map λ(k:Nat)=>[PtV (p k),I (e k)]
theorem s3(p:Nat->GP)(e:Nat->Int)(n:Nat):(PEs p e n).length=n:=by rw[PEs,List.length_map,List.length_range]
theorem z0(p:Nat->GP)(e:Nat->Int){n k:Nat}(h:k<n):(PEs p e n)[k]? =some [PtV (p k),I (e k)]:=by
 rw[PEs,List.getElem?_map,List.getElem?_range h];rfl
theorem SE(p:Nat->GP)(e:Nat->Int){n k:Nat}{v:List Value}(h:(PEs p e n)[k]? =some v):k<n/\v=[PtV (p k),I (e k)]:=by
 have hk:k<n:=by
  rcases Nat.lt_or_ge k n with hk|hk
  ·exact hk
  ·rw[List.getElem?_eq_none (by rw[s3];exact hk)]at h;cases h
 exact ⟨hk,(Option.some.inj ((z0 p e hk).symm.trans h)).symm⟩
structure RdK(b1 b2 b cap n:Nat)(K:Nat->L8)(w:World):Prop where
 l:w.cell? ⟨b1,0,none⟩=some (.slice (spt b) n cap)
 f:w.cell? ⟨b2,0,none⟩=some (.func (.func 14) #[] #[])
 k:KsAt w b 48 n K
def Vd(K:Nat->L8)(p:Nat->GP)(e:Nat->Int)(n:Nat):Prop:= ∀i,i<n->(K i).length=48/\PUR 14 [.agg ((K i).map U8).toArray] (.tuple #[PtV (p i),I (e i)])
theorem PM(a:Option Addr)(l c f:Nat)(w:World)(hw:Gt w):CLS 109 [.slice a l c,.func (.func f) #[] #[]].toArray w (λe w'=> ∃b1 b2,e=.returned (.func (.func 160) #[] #[pnt b1,pnt b2])/\Grow w w'/\w.heap.size<=b1/\w.heap.size<=b2/\b1≠b2/\OwnB w' b1 [.slice a l c] 65/\OwnB w' b2 [.func (.func f) #[] #[]] 56):=by
 refine Hf func109 O hw<|λhGF=>Xp<|iN 2 hGF O O O<|λb2=>iN 3 hGF O O O<|λb3=>Asg O<|aa<|Xp<|gj O O O O<|Asg O<|aa<|ak<|Rr<|?_;exact aE O O (λw hw=>⟨b2,b3,rfl,ab hw,(hw.own 2 b2 _ _ O).2.elim id False.elim,(hw.own 3 b3 _ _ O).2.elim id False.elim,λe=>(by subst e;exact absurd (hw.inj 2 3 _ _ _ _ _ O O) dc),(hw.own 2 b2 _ _ O).1,(hw.own 3 b3 _ _ O).1⟩)
theorem pq(b1 b2 b cap n:Nat)(hn:n<=1000)(K:Nat->L8)(p:Nat->GP)(e:Nat->Int)(hP:Vd K p e n):fD prog Gt 160 [pnt b1,pnt b2] (PEs p e n) (RdK b1 b2 b cap n K):=by
 intro l J Jx hJ hJx hRd hGx hY w hj;have okJ: ∀k,BOk Gt (Bi w (λY=>J Y k)):=λk=>⟨λ_ _ _ h=>(hRd _ _ _ h.rid).1,hJ k⟩;have okX: ∀k,BOk Gt (Bi w (λY=>Jx Y k)):=λk=>⟨λ_ _ _ h=>hGx _ _ _ h.rid,hJx k⟩;have c1: ∀k L w',Hp (Bi w (λY=>J Y k)) L w'->RdK b1 b2 b cap n K w':=λk L w' h=>(hRd _ _ _ h.rid).2;refine cu (G:=Gt) func160 O O (Hp (Bi w (λY=>J Y 0)) []) (ci (Bi w _) hj (hJ 0)) (ay (okJ 0))<|Xp<|bN O isAgg65 (λw h=>(c1 _ _ w h).l) O O<|bc O (λ_=>aF underlying65 _ _ _ _) O O<|Mv O<|aa<|ah<|gy (ι:={i:Nat // i<=n}) (λy=>[(0,.func (.yield l) #[] #[]),(1,pnt b1),(2,pnt b2),(6,.slice (spt b) n cap),(7,I (n:Int)),(8,I (y.1:Int))]) (λy=>Bi w (λY=>J Y y.1)) (λy=>[]) (λy=>n-y.1) ⟨0,Nat.zero_le _⟩ (λ_=>okJ _) O trv trivial<|?_;rintro ⟨i,hi⟩;dsimp only;refine Xp<|Bnr O O (λ_=>av _ _ _)<|aa<|ae<|?_;refine bC O (λhc=> ?_) (λhc=> ?_)
 ·have hi2:i<n:=by simp at hc;omega
  refine ap<|ae<|ah<|Xp<|iG (s:=48) i O O underlying65 sizeOf30 om om O O<|?_;have hKi:=(hP i hi2).1;refine de (cs:=(K i).map U8) O isAgg30 sizeOf30 (by rw[List.length_map];exact hKi) (λw h=>(c1 _ _ w h).k i hi2) O O<|Al 5 (okJ _) zv30<|λb5=>az 5 (okJ _) O O O sizeOf30 (by rw[List.length_map];exact hKi) sm (bY _) O<|aa<|Xp<|Mv O<|bN O isAgg56 (λw h=>(c1 _ _ w h).f) O O<|bS 5 O O isAgg30 sizeOf30 (by rw[List.length_map];exact hKi) O O<|E2 O O ent14 (hP i hi2).2 (okJ _) O O O<|Ext O O<|Ext O O<|?_
  refine dw (hY.b (k:=i) (z0 p e hi2) w) (okJ _) (okX _) O O O O O ?_ ?_
  ·refine bi O (λ_=>a5 _) O O<|aa<|aC O<|ap<|Xq<|Bnr O O (λ_=>aq _ _ _ oi)<|Mv O<|aa<|?_
   repeat (refine aL ?_)
   exact aB<|⟨rfl,⟨i+1,om⟩,_,by show n-(i+1)<n-i;omega,rfl,trv,trivial⟩
  ·refine bi O (λ_=>a5 _) O O<|aa<|aP O<|ak<|Rr<|?_
   repeat (first|refine du ?_|refine ck ?_|refine dK O ?_|refine bJ ?_|refine bI ?_)
   exact dr O (λw hw=>⟨⟨_,rfl⟩,.inr ⟨_,bZ (hJx _) hw.rid⟩⟩)
 ·obtain rfl:i=n:=by simp at hc;omega
  refine aU ?_
  repeat (first|refine du ?_|refine ck ?_|refine dK O ?_|refine bJ ?_|refine bI ?_)
  refine cS O (λw hw=>⟨⟨_,rfl⟩,.inl ?_⟩);have:=bZ (hJ _) hw.rid;rw[s3];exact this
theorem CK:mp prog 54 "Add" 122:=λ_ _=>kr
theorem OY(n:Nat)(h0:0<n)(hn:n<=512)(K:Nat->L8)(p:Nat->GP)(e:Nat->Int)(hP:Vd K p e n)(j:Nat)(hjn:j<=n)(he0: ∀i,i<j->e i=0)(heb:j<n->¬e j=0)(b cap:Nat)(w:World)(hw:Gt w)(hK:KsAt w b 48 n K):CLS 61 [.slice (spt b) n cap,.func (.func 14) #[] #[]].toArray w (λr w'=>r=.returned (.tuple #[PtV (if j=n then gSm p n else gInf),I (if j=n then 0 else e j)])/\Grow w w'):=by
 have hGF:BOk Gt (pl w):=gt_low.plain hw;refine cw (G:=Gt) func61 O O (Hp (pl w) []) (ci (pl w) trivial am) (ay hGF)<|ac (E:=EE [109])<|Al 4 hGF J1.zv54<|λb4=>Asg O<|aa<|lj<|ac (E:=EE [109])<|Al 6 hGF J1.zv54<|λb6=>Al 7 hGF J1.zv54<|λb7=>aa<|ae<|ac (E:=EE [109])<|Mv O<|bc O (λ_=>aF underlying65 _ _ _ _) O O<|Bnb false O O (λ_=>dO _ _ _) (beq_eq_false_iff_ne.2 om)<|Mv O<|Mv O<|bc O (λ_=>aF underlying65 _ _ _ _) O O<|Bnb false O O (λ_=>a9 _ _ _) (decide_eq_false om)<|Pk O O O<|aa<|aC O<|ap<|ac (E:=EE [109])<|gX 8 hGF zeroValue34 O O<|λb8=>dS 8 hGF O O O sizeOf34 O dc O<|aa<|ae<|mh<|ae<|ac (E:=EE [109])<|Mv O<|Mv O<|?_;refine dy O O ent109 O O (λw' hw'=>(PM _ _ _ _ w' (hGF.g _ _ _ hw')).mono λe' w'' h=> ?_);obtain ⟨b1,b2,rfl,hg,h1,h2,h3,ho1,ho2⟩:=h;refine ⟨_,_,rfl,ay hGF,hw'.news am hg [(33,b1,[.slice (spt b) n cap],65),(34,b2,[.func (.func 14) #[] #[]],56)] ?_ (ux h3), ?_⟩
 ·intro n' b' c' t' hl
  rcases aI hl with ⟨_,e⟩|⟨_,hl⟩
  ·cases e;exact ⟨h1,ho1⟩
  rcases aI hl with ⟨_,e⟩|⟨_,hl⟩
  ·cases e;exact ⟨h2,ho2⟩
  ·cases hl
 clear hw' hg h1 h2 h3 ho1 ho2;refine aa<|ah<|?_;refine uM (λk=>k<=j) (λ_=>pl w) (λ_ _=>pl w) (λ_=>hGF) (λ_ _=>hGF) (λ_=>rfl) (λ_ _=>rfl) O O ent160 (pq b1 b2 b cap n om K p e hP) (λv hv=>by obtain ⟨k,hk,rfl⟩:=List.mem_map.1 hv;rfl) O (λk=>[(4,b4,(GL (gInf)).map U64,54),(6,b6,(GL (gSm p k)).map U64,54),(7,b7,(GL (gInf)).map U64,54),(8,b8,[I (0)],34),(33,b1,[.slice (spt b) n cap],65),(34,b2,[.func (.func 14) #[] #[]],56)]) (λcd _ L'=>cd=.exit 0/\j<n/\jP L' ([(4,b4,(GL (gInf)).map U64,54),(6,b6,(GL (gInf)).map U64,54),(7,b7,(GL (gInf)).map U64,54),(8,b8,[I (e j)],34),(33,b1,[.slice (spt b) n cap],65),(34,b2,[.func (.func 14) #[] #[]],56)])) (Nat.zero_le _) trv (λk _ w' h=>⟨cM (n:=33) O O w' h,cM (n:=34) O O w' h,hK.up (h.below (λ_ h=>h))⟩) ?_ ?_ ?_ ?_
 ·intro k v hx hQ R hR
  obtain ⟨hk,rfl⟩:=SE p e hx;rcases Nat.lt_or_ge k j with hkj|hkj
  ·have he:=he0 k hkj
   refine ac (E:=EE [109])<|dN 9 (hR (pl w) O hGF).1 J1.zv54 O O<|λb9=>az 9 (hR (pl w) O hGF).1 O O O sizeOf54 sm sm (ba _) O<|aa<|bF (E:=EE [109])<|Asg O<|aa<|?_;refine ⟨rfl,_,rfl, ?_⟩;refine ah<|ac (E:=EE [109])<|Mv O<|aa<|ah<|ac (E:=EE [109])<|Bnb true O O (λ_=>dO _ _ _) ((by rw[he];rfl))<|Asg O<|aa<|aP O<|bF (E:=EE [109])<|La 6 O O cj<|iu O underlying54 O O<|La 9 O O cj<|ul O O CK O ent122 (Dw _ _) O O<|az 6 (hR (pl w) O hGF).2.1 O O O sizeOf54 sm sm (ba _) O<|aa<|?_
   repeat (refine aL ?_)
   exact ⟨_,rfl,Oe (Q:=λk=>k<=j) om ⟨rfl,rfl,rfl,rfl,rfl,rfl,trivial⟩⟩
  ·obtain rfl:k=j:=Nat.le_antisymm hQ hkj
   have he:=heb hk;refine ac (E:=EE [109])<|dN 9 (hR (pl w) O hGF).1 J1.zv54 O O<|λb9=>az 9 (hR (pl w) O hGF).1 O O O sizeOf54 sm sm (ba _) O<|aa<|bF (E:=EE [109])<|Asg O<|aa<|?_;refine ⟨rfl,_,rfl, ?_⟩;refine ah<|ac (E:=EE [109])<|Mv O<|aa<|ah<|ac (E:=EE [109])<|Bnb false O O (λ_=>dO _ _ _) (beq_eq_false_iff_ne.2 he)<|Asg O<|aa<|aC O<|ac (E:=EE [109])<|La 7 O O cj<|Mv O<|az 6 (hR (pl w) O hGF).2.1 O O O sizeOf54 sm sm (ba _) O<|dS 8 (hR (pl w) O hGF).2.1 O O O sizeOf34 O dc O<|aa<|aU<|?_
   repeat (first|refine ck ?_|refine dK O ?_)
   exact ⟨_,rfl,rfl,hk,trv⟩
 ·intro hQ D hD
  rw[s3]at*;obtain rfl:j=n:=Nat.le_antisymm hjn hQ;refine gg (E:=EE [109]) (λX=>X=Hp (B2 (pl w) D) [(8,b8,[I (0)],34)]) (mkB [4]) (rkB [35]) [0,1,2,3] cY O kr kr kr<|dE O O<|La 6 O O cj<|aa<|kh (X:=Hp (B2 (pl w) D) [(8,b8,[I (0)],34)]) O (cP hD.r trv) (λ_=>rfl)<|cV 8 O O O isAgg34 O O<|aa<|fE O<|Sa 4 hD O O O cj<|aa<|?_;refine ⟨λ_ X hX _=>by subst hX;exact cP hD.r trv, ?_⟩
  refine dE O O<|Asg O<|aa<|fI<|ak<|?_
  repeat (first|refine bJ ?_|refine bI ?_|refine eY ?_)
  exact dR (.inl O) am (aZ 4 O O O O isAgg54 sizeOf54 sm (λw hw=>⟨by rw[if_pos O,if_pos O],ab hw⟩))
 ·intro D hb
  repeat (first|refine aL ?_|refine aB ?_|refine FH ?_)
  exact qz hb
 ·rintro D cd k L' hD ⟨rfl,hlt,hsub⟩
  refine Wu (cP hD.r hsub) (ay hD)<|gg (E:=EE [109]) (λX=>X=Hp (B2 (pl w) D) [(8,b8,[I (e j)],34)]) (mkB [4]) (rkB [35]) [0,1,2,3] cY O kr kr kr<|dE O O<|La 6 O O cj<|aa<|kh (X:=Hp (B2 (pl w) D) [(8,b8,[I (e j)],34)]) O (cP hD.r trv) (λ_=>rfl)<|cV 8 O O O isAgg34 O O<|aa<|fE O<|Sa 4 hD O O O cj<|aa<|?_;refine ⟨λ_ X hX _=>by subst hX;exact cP hD.r trv, ?_⟩
  refine dE O O<|Asg O<|aa<|fI<|ak<|?_
  repeat (first|refine bJ ?_|refine bI ?_|refine eY ?_)
  exact dR (.inl O) am (aZ 4 O O O O isAgg54 sizeOf54 sm (λw hw=>⟨by rw[if_neg om,if_neg om],ab hw⟩))
theorem FP(n:Nat)(hn:n=0)(v:Value)(a:Option Addr)(cap:Nat)(w:World)(hw:Gt w):CLS 61 [.slice a n cap,v].toArray w (λr w'=>r=.returned (.tuple #[PtV gInf,I 161])/\Grow w w'):=by
 refine Hf func61 O hw<|λhGF=>ac (E:=EE [109])<|Al 4 hGF J1.zv54<|λb4=>Asg O<|aa<|lj<|ac (E:=EE [109])<|Al 6 hGF J1.zv54<|λb6=>Al 7 hGF J1.zv54<|λb7=>aa<|ae<|ac (E:=EE [109])<|Mv O<|bc O (λ_=>aF underlying65 _ _ _ _) O O<|Bnb true O O (λ_=>dO _ _ _) (beq_iff_eq.2 om)<|Mv O<|Sk<|Sk<|Sk<|Pk O O O<|aa<|aP O<|ac (E:=EE [109])<|La 7 O O cj<|Sa 4 hGF O O O cj<|Asg O<|aa<|ak<|?_
 repeat (first|refine bJ ?_|refine bI ?_|refine eY ?_)
 exact aZ 4 O O O O isAgg54 sizeOf54 sm (λw hw=>⟨rfl,ab hw⟩)
end J1
end
section
open Go.RowKit
attribute [local simp] a6 bv aH aA aQ aY aR aK aM PLl cJ cH N1l cI cL cK bf bB a7 bu J1.bx J2.bx ca ft eD eZ
attribute [local simp] fP
attribute [local simp] Q6.ge
open Q6 in
def v2p(a b:J1.GP×J2.GP):Nat->J1.GP×J2.GP
 |0=>a
 |_=>b
theorem VL(K:J1.GP)(bs:L8)(hn:bs.length=96)(S:Pt W2)(hD:D2 bs 0 S)(msg:L8)(H:J2.GP)(hM:Ms msg H 0)(a:Option Addr)(cap:Nat)(hl:msg.length<=65600)(hc:msg.length<=cap)(hK: ∀(d:Nat) (w':World),Gt w'->w'.rangeAt d 0 ((RW 54 (λi=>Q6.PRv (v2p (K,H) (J1.kp J1.xv,cA2 S (nI hD)) i)) 2).map U64)->CLS 111 [.slice (spt d) 2 2].toArray w' (λy w''=>y=.returned (.bool true)/\Grow w' w''))(w:World)(hw:Gt w)(hb:BytesAt w a msg):CLS 62 [J1.PtV K,.slice a msg.length cap,.agg ((bs).map U8).toArray].toArray w (λr w'=>r=.returned (I 0)/\Grow w w'):=by
 refine Hf func62 O hw<|λhGF=>Xp<|Bx 3 hGF O<|λb3=>Bx 5 hGF O<|λb5=>Asg O<|aa<|Xp<|bS 5 O O isAgg33 sizeOf33 (by simp[*]) O O<|Ca O (SO bs hn _ S hD)<|Mv O<|Ext O O<|Ext O O<|Al 7 hGF J2.zv80<|λb7=>Sa 7 hGF O O O cm<|Asg O<|aa<|ae<|Xp<|Mv O<|Bnb false O O (λ_=>bz _ _ _) (rfl)<|aa<|aC O<|ap<|Xp<|Mv O<|Cc O ent34 (λw' hC hG=>Rx msg H _ hM a cap w' hl hc hG (hb.grow (ab hC)))<|Mv O<|Ext O O<|Ext O O<|Al 9 hGF J2.zv80<|λb9=>Sa 9 hGF O O O cm<|Asg O<|aa<|ae<|Xp<|Mv O<|Bnb false O O (λ_=>bz _ _ _) (rfl)<|aa<|aC O<|ap<|?_
 refine ae<|Xd []<|La 3 O O cj<|La 9 O O cm<|co Q6.tM O O sm sm O O<|Ca O (J1.HJ)<|Ca O (J1.vn _)<|La 7 O O cm<|co Q6.tM O O sm sm O O<|eX (s:=54) 33 (λi=>Q6.PRv (v2p (K,H) (J1.kp J1.xv,cA2 S (nI hD)) i)) (List.replicate 54 (0#64)) hGF O O O (λi _=>Q6.ge _) dc dc underlying170 sizeOf169 sm Q6.zv169 O O<|λb33=>Cc O ent111 (λw' hC hG=>hK b33 w' hG (aG (n:=33) O w' hC))<|bi O (λ_=>a5 _) O O<|aa<|aC O<|ap<|Xp<|Asg O<|aa<|ak<|Rr<|?_;exact aE O O (λw hw=>⟨rfl,ab hw⟩)
theorem ST(K:J1.GP)(bs:L8)(hn:bs.length=96)(S:Pt W2)(hD:D2 bs 0 S)(msg:L8)(H:J2.GP)(hM:Ms msg H 0)(a:Option Addr)(cap:Nat)(hl:msg.length<=65600)(hc:msg.length<=cap)(hK: ∀(d:Nat) (w':World),Gt w'->w'.rangeAt d 0 ((RW 54 (λi=>Q6.PRv (v2p (K,H) (J1.kp J1.xv,cA2 S (nI hD)) i)) 2).map U64)->CLS 111 [.slice (spt d) 2 2].toArray w' (λy w''=>y=.returned (.bool false)/\Grow w' w''))(w:World)(hw:Gt w)(hb:BytesAt w a msg):CLS 62 [J1.PtV K,.slice a msg.length cap,.agg ((bs).map U8).toArray].toArray w (λr w'=>r=.returned (I 162)/\Grow w w'):=by
 refine Hf func62 O hw<|λhGF=>Xp<|Bx 3 hGF O<|λb3=>Bx 5 hGF O<|λb5=>Asg O<|aa<|Xp<|bS 5 O O isAgg33 sizeOf33 (by simp[*]) O O<|Ca O (SO bs hn _ S hD)<|Mv O<|Ext O O<|Ext O O<|Al 7 hGF J2.zv80<|λb7=>Sa 7 hGF O O O cm<|Asg O<|aa<|ae<|Xp<|Mv O<|Bnb false O O (λ_=>bz _ _ _) (rfl)<|aa<|aC O<|ap<|Xp<|Mv O<|Cc O ent34 (λw' hC hG=>Rx msg H _ hM a cap w' hl hc hG (hb.grow (ab hC)))<|Mv O<|Ext O O<|Ext O O<|Al 9 hGF J2.zv80<|λb9=>Sa 9 hGF O O O cm<|Asg O<|aa<|ae<|Xp<|Mv O<|Bnb false O O (λ_=>bz _ _ _) (rfl)<|aa<|aC O<|ap<|?_
 refine ae<|Xd []<|La 3 O O cj<|La 9 O O cm<|co Q6.tM O O sm sm O O<|Ca O (J1.HJ)<|Ca O (J1.vn _)<|La 7 O O cm<|co Q6.tM O O sm sm O O<|eX (s:=54) 33 (λi=>Q6.PRv (v2p (K,H) (J1.kp J1.xv,cA2 S (nI hD)) i)) (List.replicate 54 (0#64)) hGF O O O (λi _=>Q6.ge _) dc dc underlying170 sizeOf169 sm Q6.zv169 O O<|λb33=>Cc O ent111 (λw' hC hG=>hK b33 w' hG (aG (n:=33) O w' hC))<|bi O (λ_=>a5 _) O O<|aa<|aP O<|Xp<|Asg O<|aa<|ak<|Rr<|?_;exact aE O O (λw hw=>⟨rfl,ab hw⟩)
theorem VM(w:World)(K:J1.GP)(kb:L8)(hkn:kb.length=48)(hk:PUR 14 [.agg ((kb).map U8).toArray] (.tuple #[J1.PtV K,I 0]))(a:Option Addr)(l cap:Nat)(bs:L8)(hn:bs.length=96)(e:Int)(hV: ∀w',Gt w'->Grow w w'->CLS 62 [J1.PtV K,.slice a l cap,.agg ((bs).map U8).toArray].toArray w' (λr w''=>r=.returned (I e)/\Grow w' w''))(hw:Gt w):CLS 26 [.agg ((kb).map U8).toArray,.slice a l cap,.agg ((bs).map U8).toArray].toArray w (λr w'=>r=.returned (I e)/\Grow w w'):=by
 refine Hf func26 O hw<|λhGF=>Xp<|Bx 3 hGF O<|λb3=>Bx 5 hGF O<|λb5=>Asg O<|aa<|Xp<|bS 3 O O isAgg30 sizeOf30 (by simp[*]) O O<|Ca O (hk)<|Mv O<|Ext O O<|Ext O O<|Al 7 hGF J1.zv54<|λb7=>Sa 7 hGF O O O cj<|Asg O<|aa<|ae<|Xp<|Mv O<|Bnb false O O (λ_=>bz _ _ _) (rfl)<|aa<|aC O<|ap<|Xp<|La 7 O O cj<|Mv O<|bS 5 O O isAgg33 sizeOf33 (by simp[*]) O O<|Cc O ent62 (λw' hC hG=>hV w' hG (ab hC))<|Asg O<|aa<|ak<|Rr<|?_
 exact aE O O (λw hw=>⟨rfl,ab hw⟩)
theorem XC(w:World)(K:J1.GP)(e0:Option Addr)(n0 c0:Nat)(hS: ∀w',Gt w'->Grow w w'->CLS 61 [.slice e0 n0 c0,.func (.func 14) #[] #[]].toArray w' (λr w''=>r=.returned (.tuple #[J1.PtV K,I 0])/\Grow w' w''))(a:Option Addr)(l cap:Nat)(bs:L8)(hn:bs.length=96)(e:Int)(hV: ∀w',Gt w'->Grow w w'->CLS 62 [J1.PtV K,.slice a l cap,.agg ((bs).map U8).toArray].toArray w' (λr w''=>r=.returned (I e)/\Grow w' w''))(hw:Gt w):CLS 25 [.slice e0 n0 c0,.slice a l cap,.agg ((bs).map U8).toArray].toArray w (λr w'=>r=.returned (I e)/\Grow w w'):=by
 refine Hf func25 O hw<|λhGF=>Xp<|Bx 5 hGF O<|λb5=>Asg O<|aa<|Xp<|Mv O<|Cc O ent61 (λw' hC hG=>hS w' hG (ab hC))<|Mv O<|Ext O O<|Ext O O<|Al 7 hGF J1.zv54<|λb7=>Sa 7 hGF O O O cj<|Asg O<|aa<|ae<|Xp<|Mv O<|Bnb false O O (λ_=>bz _ _ _) (rfl)<|aa<|aC O<|ap<|Xp<|La 7 O O cj<|Mv O<|bS 5 O O isAgg33 sizeOf33 (by simp[*]) O O<|Cc O ent62 (λw' hC hG=>hV w' hG (ab hC))<|Asg O<|aa<|ak<|Rr<|?_
 exact aE O O (λw hw=>⟨rfl,ab hw⟩)
theorem Dg(w:World)(K:J1.GP)(c:Int)(h0: ¬c=0)(e0:Option Addr)(n0 c0:Nat)(hS: ∀w',Gt w'->Grow w w'->CLS 61 [.slice e0 n0 c0,.func (.func 14) #[] #[]].toArray w' (λr w''=>r=.returned (.tuple #[J1.PtV K,I c])/\Grow w' w''))(hw:Gt w):CLS 27 [.slice e0 n0 c0].toArray w (λr w'=>r=.returned (.tuple #[.agg ((List.replicate 48 (0#8)).map U8).toArray,I c])/\Grow w w'):=by
 refine Hf func27 O hw<|λhGF=>Xp<|Al 2 hGF zv30<|λb2=>Asg O<|aa<|Xp<|Mv O<|Cc O ent61 (λw' hC hG=>hS w' hG (ab hC))<|Mv O<|Ext O O<|Ext O O<|Al 4 hGF J1.zv54<|λb4=>Sa 4 hGF O O O cj<|Asg O<|aa<|ae<|Xp<|Mv O<|Bnb true O O (λ_=>bz _ _ _) (bne_iff_ne.2 h0)<|aa<|aP O<|Xp<|dX zv30 underlying30 sizeOf5 O O<|Mv O<|Sx 2 hGF O O O t30t List.length_replicate (bY _)<|Asg O<|aa<|ak<|Rr<|?_;exact aZ 2 O O O O isAgg30 sizeOf30 sm (λw hw=>⟨rfl,ab hw⟩)
end
namespace Sh
abbrev tN:BitVec 32->Nat:=BitVec.toNat
abbrev M32:Nat:=4294967296
def tn(x a b:Nat):Nat:=Nat.lor (Nat.mod (Nat.shiftLeft x a) M32) (Nat.shiftRight x b)
def s1N(x:Nat):Nat:=Nat.xor (Nat.xor (tn x 26 6) (tn x 21 11)) (tn x 7 25)
def s0N(x:Nat):Nat:=Nat.xor (Nat.xor (tn x 30 2) (tn x 19 13)) (tn x 10 22)
def l0N(x:Nat):Nat:=Nat.xor (Nat.xor (tn x 25 7) (tn x 14 18)) (Nat.shiftRight x 3)
def l1N(x:Nat):Nat:=Nat.xor (Nat.xor (tn x 15 17) (tn x 13 19)) (Nat.shiftRight x 10)
def aN(a b:Nat):Nat:=Nat.mod (Nat.add a b) M32
def w4N(bl:List Nat)(i:Nat):Nat:=Nat.lor (Nat.lor (Nat.lor (Nat.mod (Nat.shiftLeft (Nat.mod (bl.getD (4*i) 0) M32) 24) M32) (Nat.mod (Nat.shiftLeft (Nat.mod (bl.getD (4*i+1) 0) M32) 16) M32)) (Nat.mod (Nat.shiftLeft (Nat.mod (bl.getD (4*i+2) 0) M32) 8) M32)) (Nat.mod (bl.getD (4*i+3) 0) M32)
def W1N(bl:List Nat):Nat->List Nat
 |0=>List.replicate 64 0
 |k+1=>(W1N bl k).set k (w4N bl k)
def w5N(ws:List Nat)(i:Nat):Nat:=aN (aN (aN (l1N (ws.getD (i-2) 0)) (ws.getD (i-7) 0)) (l0N (ws.getD (i-15) 0))) (ws.getD (i-16) 0)
def W2N(bl:List Nat):Nat->List Nat
 |0=>W1N bl 16
 |k+1=>(W2N bl k).set (16+k) (w5N (W2N bl k) (16+k))
structure VN where
 (a b c d e f g h:Nat)
def ttN(v:VN)(k w:Nat):Nat:=aN (aN (aN (aN v.h (s1N v.e)) (Nat.xor (Nat.land v.e v.f) (Nat.land (Nat.sub 4294967295 v.e) v.g))) k) w
def IU(v:VN)(k w:Nat):VN:=⟨aN (ttN v k w) (aN (s0N v.a) (Nat.xor (Nat.xor (Nat.land v.a v.b) (Nat.land v.a v.c)) (Nat.land v.b v.c))),v.a,v.b,v.c,aN v.d (ttN v k w),v.e,v.f,v.g⟩
def AK(v:VN)(ks ws:List Nat):Nat->VN
 |0=>v
 |k+1=>IU (AK v ks ws k) (ks.getD k 0) (ws.getD k 0)
def vN(s:List Nat):VN:=⟨s.getD 0 0,s.getD 1 0,s.getD 2 0,s.getD 3 0,s.getD 4 0,s.getD 5 0,s.getD 6 0,s.getD 7 0⟩
def HT(ks s bl:List Nat):List Nat:=
 let v:=AK (vN s) ks (W2N bl 48) 64
 [aN (s.getD 0 0) v.a,aN (s.getD 1 0) v.b,aN (s.getD 2 0) v.c,aN (s.getD 3 0) v.d,aN (s.getD 4 0) v.e,aN (s.getD 5 0) v.f,aN (s.getD 6 0) v.g,aN (s.getD 7 0) v.h]
def QF(ks s:List Nat):List (List Nat)->List Nat
 |[]=>s
 |b::l=>QF ks (HT ks s b) l
def V8.n(v:V8):VN:=⟨tN v.a,tN v.b,tN v.c,tN v.d,tN v.e,tN v.f,tN v.g,tN v.h⟩
theorem pV(x y:BitVec 32):tN (x+y)=aN (tN x) (tN y):=BitVec.toNat_add x y
theorem lr(x:BitVec 32)(k:Int)(a b:Nat)(ha:(BitVec.ofInt 64 k &&& 31#64).toNat=a)(hb:(32#64-(BitVec.ofInt 64 k &&& 31#64)).toNat=b):tN (lm x k)=tn (tN x) a b:=by
 subst ha hb;show BitVec.toNat (lm x k)=_;rw[lm,BitVec.toNat_or,BitVec.toNat_shiftLeft,BitVec.toNat_ushiftRight];rfl
theorem kO(x y:BitVec 32):tN (x^^^y)=Nat.xor (tN x) (tN y):=BitVec.toNat_xor x y
theorem uI(x y:BitVec 32):tN (x &&& y)=Nat.land (tN x) (tN y):=BitVec.toNat_and x y
theorem TY(x:BitVec 32):tN (~~~x)=Nat.sub 4294967295 (tN x):=BitVec.toNat_not
theorem s1_e(x:BitVec 32):tN (qD x)=s1N (tN x):=by rw[qD,kO,kO,lr x (-6) 26 6 dc dc,lr x (-11) 21 11 dc dc,lr x (-25) 7 25 dc dc];rfl
theorem s0_e(x:BitVec 32):tN (vv x)=s0N (tN x):=by rw[vv,kO,kO,lr x (-2) 30 2 dc dc,lr x (-13) 19 13 dc dc,lr x (-22) 10 22 dc dc];rfl
theorem Mm(x:BitVec 32)(n:Nat):tN (x>>>n)=Nat.shiftRight (tN x) n:=BitVec.toNat_ushiftRight x n
theorem l0_e(x:BitVec 32):tN (Cy x)=l0N (tN x):=by rw[Cy,kO,kO,lr x (-7) 25 7 dc dc,lr x (-18) 14 18 dc dc,Mm];rfl
theorem l1_e(x:BitVec 32):tN (BW x)=l1N (tN x):=by rw[BW,kO,kO,lr x (-17) 15 17 dc dc,lr x (-19) 13 19 dc dc,Mm];rfl
theorem og{n:Nat}(l:List (BitVec n))(i:Nat):(l.map BitVec.toNat).getD i 0=(l.getD i 0).toNat:=by
 rw[List.getD_eq_getElem?_getD,List.getD_eq_getElem?_getD,List.getElem?_map]
 cases l[i]? with
 |none=>rfl
 |some x=>rfl
theorem w4_e(bl:L8)(i:Nat):tN (w4 bl i)=w4N (bl.map BitVec.toNat) i:=by
 have s: ∀(x:BitVec 8) (k:Nat),BitVec.toNat (x.setWidth 32<<<k)=Nat.mod (Nat.shiftLeft (Nat.mod x.toNat M32) k) M32:=λx k=>by
  rw[BitVec.toNat_shiftLeft,BitVec.toNat_setWidth];rfl
 show BitVec.toNat (w4 bl i)=_;rw[w4,w4N,BitVec.toNat_or,BitVec.toNat_or,BitVec.toNat_or,s,s,s,BitVec.toNat_setWidth,og,og,og,og];rfl
theorem Tm(bl:L8): ∀k,(W1 bl k).map tN=W1N (bl.map BitVec.toNat) k
 |0=>by rw[W1,W1N,List.map_replicate];rfl
 |k+1=>by rw[W1,W1N,List.map_set,Tm bl k,w4_e]
theorem w5_e(ws:L3)(i:Nat):tN (w5 ws i)=w5N (ws.map tN) i:=by
 rw[w5,w5N,pV,pV,pV,l1_e,l0_e,og,og,og,og]
theorem NZ(bl:L8): ∀k,(W2 bl k).map tN=W2N (bl.map BitVec.toNat) k
 |0=>Tm bl 16
 |k+1=>by rw[W2,W2N,List.map_set,NZ bl k,w5_e,NZ bl k]
theorem UV(v:V8)(k w:BitVec 32):(rnd v k w).n=IU v.n (tN k) (tN w):=by
 have t:tN (v.h+qD v.e+(v.e &&& v.f^^^ ~~~v.e &&& v.g)+k+w)=ttN v.n (tN k) (tN w):=by
  rw[pV,pV,pV,pV,s1_e,kO,uI,uI,TY];rfl
 have e1:tN (rnd v k w).a=(IU v.n (tN k) (tN w)).a:=by
  show tN ((v.h+qD v.e+(v.e &&& v.f^^^ ~~~v.e &&& v.g)+k+w)+(vv v.a+(v.a &&& v.b^^^v.a &&& v.c^^^v.b &&& v.c)))=_;rw[pV,t,pV,s0_e,kO,kO,uI,uI,uI];rfl
 have e2:tN (rnd v k w).e=(IU v.n (tN k) (tN w)).e:=by
  show tN (v.d+(v.h+qD v.e+(v.e &&& v.f^^^ ~~~v.e &&& v.g)+k+w))=_;rw[pV,t];rfl
 show VN.mk (tN (rnd v k w).a) _ _ _ (tN (rnd v k w).e) _ _ _=_;rw[e1,e2];rfl
theorem Gz(v:V8)(ws:L3): ∀k,(mO v ws k).n=AK v.n (KW.map tN) (ws.map tN) k
 |0=>rfl
 |k+1=>by rw[mO,AK,UV,Gz v ws k,og,og]
theorem vN_e(st:L3):(v8 st).n=vN (st.map tN):=by
 simp only[vN,og];rfl
theorem Od(st:L3)(bl:L8):(rn st bl).map tN=HT (KW.map tN) (st.map tN) (bl.map BitVec.toNat):=by
 have h:=Gz (v8 st) (W2 bl 48) 64;rw[vN_e,NZ]at h;rw[HT,<-h];simp only[rn,NS,List.map_cons,List.map_nil,og,pV];rfl
theorem Gc(st:L3)(b:L8)(l:List L8): ∀k,gM st (b::l) (k+1)=gM (rn st b) l k
 |0=>rfl
 |k+1=>by rw[gM,Gc st b l k];rfl
theorem Np: ∀(l:List L8) (st:L3),(gM st l l.length).map tN=QF (KW.map tN) (st.map tN) (l.map (·.map BitVec.toNat))
 |[],_=>rfl
 |b::l,st=>by
  rw[List.length_cons,Gc,Np l,Od];rfl
theorem Sj(l:L3):(l.map tN).map (BitVec.ofNat 32)=l:=by
 rw[List.map_map];exact (List.map_congr_left λx _=>BitVec.ofNat_toNat 32 x|>.trans (BitVec.setWidth_eq x)).trans (List.map_id l)
theorem mX(bs r:L8)(h:DG ((QF (KW.map tN) (IV.map tN) ((pd bs).map (·.map BitVec.toNat))).map (BitVec.ofNat 32)) 8=r):SHA bs=r:=by
 rw[SHA,<-Sj (gM IV (pd bs) (pd bs).length),Np];exact h
end Sh
def uZ:W2:=(zp 0x4a1a6fbdd75a0a015d8b97f9b7778cb923e5fab97e6dc0ada2f001b452745ac708ce13797418e6a361d408d7d680684,zp 0xdbba1ca562e8bdb6032da29043bd2a3b08775da7ac5d24b3af502c0a9279ac704e6ddfb9d18a3c57f161d2c62d60e1f)
def UM:W2:=(zp 0x21535d46c591ae51ea59ab9491a6b9cd35ff4f85826e9915e8b0c757f9ab2ab5090fce821399c2cec7f0c0e6d77cd9c,zp 0x25a27be7a3911aa82f64e6d40e73db7f4ada224ea508874ef6bd351588204f0933c5a53815ddcd17c33cb3a26ac8a65)
def mmy0:W2:=(zp 0x9315ba1a011f20cd38ffaabb09603d06a295ef31792f2c55128a130273557a146c65e15a894b561ea42449f72e05ce8,zp 0x36e9a81bb9182d66500bc370e277f842552f69e08e67141cffa537cd2507d5f69028db0682c32bf3f011f6d6fb18f74)
def FY:W2×W2:=((zp 0xe5528f71e373b4cf4afeae262a9f7740af62f1f146cb03b2f585a3c472692d1e2312171c6affb64079df761a6fb895c,zp 0x40d6dac87e668f0c302c639a58fca14889c97ab0af29bff72d109475ef9633938e46dacaf3800b143c3951edfac00f5),(zp 0xe9aaf4f09f560fdc6700fba1f2fa6ea051feea7c1522fb68b475762a1222fa5a4a32027c5665199aa084ab2eaa2eac0,zp 0x7e31b613c8b044266240abcdbc53de1205bbd28644eda52d4acc7bfc6ac181dc09f84e9f0917ddb3fb2db605dcb5d71))
theorem UA{x r:W2}(s:SwR uZ x r):x=UM/\sgS r uZ=mmy0:=by
 have h:=P5 (X:=(zp 0x1445931e8f87914a5e5dff9a6367ea5b6eecfebfa5dbd3644276be2084cf50dbd6f255c3e3c71fa7e756d3e8eb98d8c,zp 0x104dc64d945da164baef0f4ca48c2f5bdd79ca3e6d34207d6ca583818d41c98061051b2988759d8273ee71dccdab02a3)) (X':=UM) (R:=(zp 0x9315ba1a011f20cd38ffaabb09603d06a295ef31792f2c55128a130273557a146c65e15a894b561ea42449f72e05ce8,zp 0x36e9a81bb9182d66500bc370e277f842552f69e08e67141cffa537cd2507d5f69028db0682c32bf3f011f6d6fb18f74)) (q:=zp 0xdac9d21e47174c96a071c9e810c4a14509be19c174d93dca733279dbf3e05d1b596ec771c74d7df2b7a3db90a55e76) (by decide+kernel) (by decide+kernel) (by decide+kernel) (by decide+kernel) (by decide+kernel) (by decide+kernel) (by decide+kernel) s
 exact ⟨h.1,by rw[h.2];decide+kernel⟩
theorem mmq0{x r:W2}(s:SwR uZ x r):(XIs x,YIs x (sgS r uZ))=FY:=by
 rw[(UA s).2,(UA s).1];exact Prod.ext (Nb (by decide+kernel) (by decide+kernel)) (MB (by decide+kernel) (by decide+kernel))
theorem UC:E2w.on FY:=by
 unfold Ec.on;decide+kernel
def u0:W2:=(zp 0x88b742e34a06f08dae75df6b2bea04eb3e473a392b6fd00284a28b63ad06976480d134d08e780ac1654ea9398db027a,zp 0xba39e89ae159b80dce7d0779408abc9852e05f54fb489f657ae1495caf3223fe2b5eb69b8daca03a010b491852ed9fb)
def Vq:W2:=(zp 0x1282216845306bbd6e021b45b7a42bf1fc20df27014f92120519b37afd7e697762112b16860f3b08c8a79e95f102f4eb,zp 0xa4ba0dba5603a134bd786cca59f66eff1940460ee60c65e5f3b5765da92a4d5152aeeaf1cc81c0d80d24c625d4ddce5)
def mmy1:W2:=(zp 0xb5f594a31f82557fb104862b8da474f82730f49b063c1500a3f44a2524027f5d045c446d010cae05b3cb59720cc237a,zp 0x83d1bac0b3db3945538e523d6d97e66388592e8e1ffee055ef37b9288316aadd58bcf5f1adc9bc9d2eb8ed1f9092ef0)
def Hi:W2×W2:=((zp 0x18fe49d245cb404aa63bc2979912ca9199e29263bf25c55bcf8a5570509429b33744b0d9e5e38c8b0ffa96ca37f34f0,zp 0x8af245a8c56afe24ab1a5e9d0b2e57d98ad35b1a2f1ab1741847a3efbd70c9f93d9b12db792a9fda10ca67fde0c7bde),(zp 0x18339860a12634c09f56c86d7394f66dc87632a6a94ea54e3638d91b543a48cd83e6189211d031c35088f1655d645237,zp 0x18f87c161a07eb19ade5e67e09d3949e2d5ab28bc33b8795d06378ef88652a286fea933d0b106a39e405aa07a2285f3f))
theorem TZ{x r:W2}(s:SwR u0 x r):x=Vq/\sgS r u0=mmy1:=by
 have h:=Pn (R:=(zp 0xb5f594a31f82557fb104862b8da474f82730f49b063c1500a3f44a2524027f5d045c446d010cae05b3cb59720cc237a,zp 0x83d1bac0b3db3945538e523d6d97e66388592e8e1ffee055ef37b9288316aadd58bcf5f1adc9bc9d2eb8ed1f9092ef0)) (X:=Vq) (by decide+kernel) (by decide+kernel) (by decide+kernel) (by decide+kernel) s
 exact ⟨h.1,by rw[h.2];decide+kernel⟩
theorem mmq1{x r:W2}(s:SwR u0 x r):(XIs x,YIs x (sgS r u0))=Hi:=by
 rw[(TZ s).2,(TZ s).1];exact Prod.ext (Nb (by decide+kernel) (by decide+kernel)) (MB (by decide+kernel) (by decide+kernel))
theorem Tt:E2w.on Hi:=by
 unfold Ec.on;decide+kernel
namespace Xm
def mmm:L8:=[109#8]
def mmd:L8:=[66#8,76#8,83#8,95#8,83#8,73#8,71#8,95#8,66#8,76#8,83#8,49#8,50#8,51#8,56#8,49#8,71#8,50#8,95#8,88#8,77#8,68#8,58#8,83#8,72#8,65#8,45#8,50#8,53#8,54#8,95#8,83#8,83#8,87#8,85#8,95#8,82#8,79#8,95#8,80#8,79#8,80#8,95#8]
def mmb:L8:=[123#8,71#8,213#8,206#8,230#8,221#8,139#8,80#8,195#8,100#8,179#8,9#8,239#8,248#8,219#8,121#8,59#8,67#8,238#8,233#8,90#8,183#8,54#8,237#8,243#8,192#8,188#8,151#8,202#8,133#8,187#8,46#8]
def mml:Nat->L8
 |0=>[0#8,0#8,0#8,0#8,0#8,0#8,0#8,0#8,0#8,0#8,0#8,0#8,0#8,0#8,0#8,0#8,0#8,0#8,0#8,0#8,0#8,0#8,0#8,0#8,0#8,0#8,0#8,0#8,0#8,0#8,0#8,0#8]
 |1=>[233#8,243#8,94#8,46#8,92#8,128#8,246#8,94#8,201#8,255#8,229#8,232#8,220#8,235#8,67#8,138#8,89#8,141#8,220#8,239#8,198#8,80#8,150#8,242#8,255#8,5#8,130#8,85#8,193#8,159#8,150#8,94#8]
 |2=>[123#8,106#8,141#8,225#8,33#8,56#8,34#8,181#8,227#8,178#8,69#8,227#8,216#8,181#8,80#8,213#8,193#8,175#8,53#8,17#8,181#8,108#8,40#8,216#8,41#8,127#8,26#8,95#8,16#8,92#8,95#8,159#8]
 |3=>[137#8,19#8,115#8,95#8,213#8,222#8,108#8,66#8,47#8,107#8,9#8,245#8,211#8,113#8,239#8,43#8,168#8,66#8,250#8,106#8,217#8,161#8,154#8,46#8,187#8,60#8,106#8,175#8,104#8,200#8,201#8,131#8]
 |4=>[253#8,180#8,156#8,144#8,219#8,151#8,20#8,70#8,87#8,98#8,89#8,5#8,57#8,229#8,82#8,56#8,143#8,169#8,40#8,200#8,6#8,255#8,124#8,243#8,132#8,144#8,3#8,103#8,221#8,185#8,182#8,82#8]
 |5=>[213#8,239#8,78#8,111#8,76#8,88#8,150#8,146#8,179#8,217#8,181#8,212#8,200#8,240#8,93#8,168#8,136#8,18#8,155#8,38#8,110#8,91#8,73#8,141#8,183#8,84#8,162#8,10#8,174#8,29#8,255#8,192#8]
 |6=>[83#8,237#8,92#8,221#8,179#8,250#8,120#8,30#8,238#8,212#8,149#8,238#8,189#8,94#8,81#8,63#8,140#8,154#8,19#8,104#8,143#8,3#8,74#8,181#8,146#8,224#8,8#8,196#8,23#8,171#8,209#8,153#8]
 |7=>[28#8,190#8,98#8,198#8,79#8,142#8,86#8,0#8,81#8,219#8,173#8,44#8,221#8,44#8,73#8,212#8,103#8,191#8,247#8,78#8,201#8,230#8,160#8,154#8,180#8,238#8,112#8,83#8,104#8,75#8,255#8,124#8]
 |_=>[94#8,54#8,50#8,215#8,242#8,99#8,63#8,84#8,156#8,195#8,108#8,171#8,68#8,220#8,94#8,69#8,251#8,216#8,116#8,227#8,116#8,52#8,73#8,39#8,222#8,120#8,139#8,199#8,90#8,111#8,241#8,166#8]
theorem mm_b:B0 mmm mmd 256=mmb:=Sh.mX _ _ (by decide+kernel)
theorem TU:Xk mmb (D mmd) 0=mml 0:=by decide+kernel
theorem M3:Xk mmb (D mmd) 1=mml 1:=by
 show Xk mmb (D mmd) (0+1)=_;rw[Xk,TU];exact Sh.mX _ _ (by decide+kernel)
theorem Ni:Xk mmb (D mmd) 2=mml 2:=by
 show Xk mmb (D mmd) (1+1)=_;rw[Xk,M3];exact Sh.mX _ _ (by decide+kernel)
theorem K1:Xk mmb (D mmd) 3=mml 3:=by
 show Xk mmb (D mmd) (2+1)=_;rw[Xk,Ni];exact Sh.mX _ _ (by decide+kernel)
theorem K3:Xk mmb (D mmd) 4=mml 4:=by
 show Xk mmb (D mmd) (3+1)=_;rw[Xk,K1];exact Sh.mX _ _ (by decide+kernel)
theorem LD:Xk mmb (D mmd) 5=mml 5:=by
 show Xk mmb (D mmd) (4+1)=_;rw[Xk,K3];exact Sh.mX _ _ (by decide+kernel)
theorem MW:Xk mmb (D mmd) 6=mml 6:=by
 show Xk mmb (D mmd) (5+1)=_;rw[Xk,LD];exact Sh.mX _ _ (by decide+kernel)
theorem Nc:Xk mmb (D mmd) 7=mml 7:=by
 show Xk mmb (D mmd) (6+1)=_;rw[Xk,MW];exact Sh.mX _ _ (by decide+kernel)
theorem Xr:Xk mmb (D mmd) 8=mml 8:=by
 show Xk mmb (D mmd) (7+1)=_;rw[Xk,Nc];exact Sh.mX _ _ (by decide+kernel)
theorem Wk:E mmm mmd 256=mml 1++mml 2++mml 3++mml 4++mml 5++mml 6++mml 7++mml 8:=by
 rw[E,mm_b,show (256+31) / 32=8 from O];simp only[Ozz,List.nil_append];rw[M3,Ni,K1,K3,LD,MW,Nc,Xr];decide+kernel
theorem mm_0:N2 (E mmm mmd 256) 0=uZ:=by rw[Wk];decide+kernel
theorem mm_1:N2 (E mmm mmd 256) 1=u0:=by rw[Wk];decide+kernel
end Xm
end Go.Proofs.YtjookodjbjabbaaGreatDoor
